import PyProof.Rows.All
import Wide.All
import OpenK.AllK
import Wide.FinOn
import PySem.Challenge.RW_walktold_k75_zigzags_laid_in
set_option Elab.async false
set_option linter.all false
set_option maxRecDepth 100000
set_option compiler.extract_closed false
set_option bootstrap.genMatcherCode false
open Array (getElem?_eq_getElem getElem?_toList length_toList mem_toList_iff toArray_toList toList_append)
open Bool (and_eq_true or_eq_true)
open Int (mul_one natCast_add natCast_nonneg ofNat_le toNat_natCast)
open List (all_eq_true any_cons any_eq_true append_assoc append_nil cons_append cons_lt_cons_iff countP_cons drop_length drop_of_length_le drop_zero ext_getElem? filterMap_cons flatMap_append flatMap_cons foldl_cons getElem?_append_left getElem?_append_right getElem?_eq_none getElem?_map getElem?_range getElem?_set getElem?_set_ne getElem?_set_self getElem_mem getElem_of_mem getLast?_map length_append length_cons length_drop length_map length_nil length_pos_iff length_range length_reverse length_singleton length_take lookup_cons lt_asymm map_append map_congr_left map_cons map_drop map_id map_map map_nil map_reverse map_set mem_append mem_cons mem_cons_self mem_filter mem_filterMap mem_map mem_of_getElem? mem_range mem_reverse mem_singleton nil_append nodup_append nodup_cons not_mem_nil of_mem_zip pairwise_append pairwise_cons pairwise_lt_range pairwise_map perm_append_comm perm_middle reverse_cons size_toArray take_append_drop take_nil take_of_length_le zip_map)
open Nat (le_of_lt le_of_lt_succ le_refl le_succ le_trans lt_irrefl lt_of_lt_of_le lt_or_ge lt_succ_of_lt lt_succ_self lt_trans min_eq_left min_eq_right min_le_right ne_of_gt ne_of_lt not_lt sub_le sub_self sub_zero succ_le_succ zero_add zero_le)
open Option (bind_eq_some_iff bind_some isSome_iff_exists isSome_map isSome_some map_eq_some_iff map_some toList_none toList_some)
def qa:=@PySem.wpAny_bind
def qb:=@PySem.wpAny_pure
def qc:=@PySem.Heap.get?_push_of_some
def qd:=@PySem.Heap.get?_push_size
def qe:=@PySem.Heap.lt_size
def qf.{u}:=@Option.some.inj.{u}
def qg.{u}:=@List.getElem?_eq_some_iff.{u}
def qh.{u}:=@List.getElem?_eq_getElem.{u}
def qi.{u}:=@List.mem_append_right.{u}
def qj.{u}:=@List.mem_append_left.{u}
def qk.{u}:=@List.mem_cons_of_mem.{u}
def qm.{u}:=@List.mem_cons_self.{u}
def qo:=@List.length_map
def qp:=@List.append_assoc
def qq:=@List.length_append
def qr:=@List.size_toArray
def qt:=@List.length_cons
def qv:=@List.mem_singleton
def qw:=@List.length_nil
def qx:=@List.nodup_append
def qz:=@List.mem_append
def qA:=@List.map_cons
def qB:=@List.append_nil
def qC:=@List.mem_cons
def qE:=@List.length_singleton
def qF:=@List.cons_lt_cons_iff
def qG:=@List.length_range
def qH:=@List.map_map
def qI:=@List.getElem?_map
def qJ:=@List.length_drop
def qK:=@List.length_take
def qL:=@List.all_eq_true
def qM:=@List.mem_range
def qN:=@List.mem_map
def qO:=@List.nodup_cons
def qP:=@List.mem_of_getElem?
def qQ:=@List.perm_append_comm
def qR:=@List.cons_append
def qS:=@List.length_pos_iff
def qT:=@List.getElem?_eq_none
def qU:=@decide_eq_true
def qV:=@decide_eq_false
def qW:=@decide_eq_true_eq
def qX:=@of_decide_eq_true
def qY:=@Array.length_toList
def qZ:=@Int.toNat_natCast
def q8:=Bool.false_ne_true
def q9:=@Option.map_eq_some_iff
def zc:=@Array.getElem?_toList
def zj:=@if_pos
def zk:=@if_neg
def zm:=@Nat.le_refl
def zo:=@PySem.Heap.get?_update_other
def zp:=@PySem.Heap.get?_update_self
def zr:=@PySem.wpAny_field
def zt:=@PySem.wpAny_newObj_type
def zu:=@PySem.wpAny_call_entry
def zv:=@PySem.sizeLine_eq
def zw:=@PySem.wpAny_setField_rec
def zx:=@PySem.wpAny_holding
def zy:=@PySem.wpAny_of_eq
def zz:=@PySem.wpAny_mono
abbrev zF:=PySem.Value->PySem.Shared->Prop
theorem aZ8(h:1=1:=by rfl):True:=trivial
theorem aZ9(h:1=1:=by decide):True:=trivial
@[inline]def rZ9:=aZ8._auto_1
@[inline]def dZ9:=aZ9._auto_1
theorem cpsZ9{A:Prop}(h:∀G:Prop,(A->G)->G):A:=h A id
section
set_option hygiene false in
open Lean Parser.Tactic in
local macro_rules
|`($m:declModifiers def $i:declId $s:optDeclSig $v:declVal)=>do
 let a:=m.raw.getArgs
 if !a[4]!.isNone then Macro.throwUnsupported
 match i.raw[0].getId with
 |.str p n=>do
  let f(s:Syntax):=s.rewriteBottomUp (·.setInfo .none)
  let c:=mkNode ``Parser.Command.declaration
  let i:=f i
  let s:=f s
  let v:=f v
  if a[1]!.isNone&&(n.front.isUpper||!p.isAnonymous) then return c #[m,mkNode ``Parser.Command.theorem #[mkAtom "theorem",i,mkNode ``Parser.Command.declSig #[s[0],s[1][0]],v]] else return c #[m.raw.setArg 4 (mkNullNode #[mkNode ``Parser.Command.noncomputable #[mkAtom "noncomputable"]]),mkNode ``Parser.Command.definition #[mkAtom "def",i,s,v,mkNullNode]]
 |_=>Macro.throwUnsupported
|`(#[$x,*])=>if x.getElems.isEmpty then Macro.throwUnsupported else `(⟨$x,*⟩)
|`(∅)=>`((by lia))
|`(⋯)=>`((by decide))
|`(⇑$x)=>`(some $x)
|`(↥$x)=>`(decide $x)
|`(↑$x)=>`((by simpa using $x))
|`(tactic|lia)=>`(tactic|first|assumption|exact Nat.le_refl _|exact Nat.le_of_lt ‹_›|exact Nat.succ_pos _|exact Nat.not_lt.1 ‹_›|exact Nat.lt_of_lt_of_le ‹_› ‹_›|exact Nat.lt_of_le_of_lt ‹_› ‹_›|exact Nat.le_trans ‹_› ‹_›|exact Nat.lt_trans ‹_› ‹_›|exact Nat.ne_of_lt ‹_›|exact Nat.ne_of_gt ‹_›|exact Nat.lt_succ_of_le ‹_›|exact Nat.le_add_right _ _|exact Nat.sub_le _ _|exact Nat.le_of_lt_succ ‹_›|exact absurd ‹_› (Nat.not_lt_zero _)|exact absurd ‹_ < _› (Nat.not_lt.2 ‹_›)|exact Nat.lt_of_le_of_ne ‹_› ‹_›|exact Nat.pos_of_ne_zero ‹_›|exact Nat.le_trans ‹_› (Nat.le_add_right _ _)|exact Nat.le_trans (Nat.sub_le _ _) ‹_›|exact Int.le_of_lt ‹_›|exact Nat.sub_lt ‹_› Nat.one_pos|exact Nat.add_sub_of_le ‹_›|exact Nat.lt_add_of_pos_right ‹_›|exact Nat.lt_of_lt_of_eq ‹_› ‹_›|exact Nat.le_of_eq ‹_›|exact Nat.not_lt_of_le ‹_›|exact Nat.sub_pos_of_lt ‹_›|exact Nat.le_of_eq (Nat.add_sub_of_le ‹_›)|lia -verbose)
|`(tactic|show $e:term)=>`(tactic|first|refine $e|fail)
|`(tactic|let #[$x,*]:=$e)=>do
 let rec go:Nat->Syntax->MacroM (TSyntax ``rcasesPatLo)
  |n+1,t=>do match t with
   |`(#[$y,*])=>let z<-y.getElems.mapM (go n ·.raw);`(rcasesPatLo|⟨$[$z],*⟩)
   |`(_)=>`(rcasesPatLo|_)
   |_=>`(rcasesPatLo|$(⟨t⟩):ident)
  |_,_=>Macro.throwUnsupported
 let z<-x.getElems.mapM (go 9 ·.raw)
 if z.size>3 then `(tactic|(refine _root_.cpsZ9 fun gZ kZ=>?_;rcases $e:term with ⟨$[$z],*⟩;refine kZ ?_;clear kZ gZ)) else `(tactic|obtain ⟨$[$z],*⟩:=$e)
|`(tactic|let $d:letDecl)=>`(tactic|have $d:letDecl)
noncomputable section
namespace ST
open PySem PySem.SetTable
@[inline]def Rising(xs:Array Nat):Prop:=∀i j(hi:i<xs.size)(v:j<xs.size),i<j->xs[i]<xs[j]
def Ds{xs:Array Nat}(h:i<xs.size):xs.getD i d=xs[i]:=by simp[Array.getD,h]
def Dr(hr:Rising xs):∀(v lo hi:Nat),hi<=xs.size->lo<=hi->hi-lo<=v->(∀i(h:i<xs.size),i<lo->xs[i]<j)->(∀i(h:i<xs.size),hi<=i->j<=xs[i])->
  below.go xs j v lo hi<=xs.size/\(∀i(h:i<xs.size),i<below.go xs j v lo hi->xs[i]<j)/\∀i(h:i<xs.size),below.go xs j v lo hi<=i->j<=xs[i]:=by
 intro v;induction v with
 |zero=>
  intro lo hi h1 h2 h3 L J;let:lo=hi:=∅
  subst this;show#[by show lo<=_;lia,λi h F=>L i h F,λi h F=>J i h F]
 |succ v ih=>
  intro lo hi h1 h2 h3 L J;unfold below.go;by_cases G:lo<hi
  .rw[zj G];let M:(lo+hi)/2<xs.size:=by lia
   dsimp only;rw[Ds M];by_cases Z:xs[(lo+hi)/2]<j
   .rw[zj Z];show ih _ _ h1 ∅ ∅ (λi h F=>?_) J;by_cases Y:i=(lo+hi)/2
    .subst Y;show Z
    .let:=hr i ((lo+hi)/2) h M ∅;lia
   .rw[zk Z];show ih _ _ ∅ ∅ ∅ L λi h F=>?_;by_cases Y:i=(lo+hi)/2
    .subst Y;lia
    .let:=hr ((lo+hi)/2) i M h ∅;lia
  .rw[zk G];let:lo=hi:=by lia
   subst this;show#[∅,λi h F=>L i h F,λi h F=>J i h F]
def Az(v:Rising xs):below xs j<=xs.size/\(∀i(h:i<xs.size),i<below xs j->xs[i]<j)/\∀i(h:i<xs.size),below xs j<=i->j<=xs[i]:=
 Dr v xs.size 0 xs.size (zm _) (zero_le _) ∅ (λi h F=>by lia) λi h F=>∅
def Da(F:Rising xs)(h:i<xs.size)(e:xs[i]=j):below xs j=i:=by
 let#[h1,h2,G]:=Az (j:=j) F;rcases Nat.lt_trichotomy (below xs j) i with v|v|v
 .let J:=G (below xs j) ∅ (zm _);let:=F (below xs j) i ∅ h v;lia
 .show v
 .let:=h2 i h v;lia
def Cm{t:SetTable}(v:Rising t.place)(h:i<t.place.size)(e:t.place[i]=j):t.slot j=.live i:=by
 unfold slot;dsimp only;rw[Da v h e];let:t.place[i]?=⇑j:=by rw[getElem?_eq_getElem h,e]
 rw[this];simp
def Cn{t:SetTable}(F:t.dummies=#[])(h:∀i(hi:i<t.place.size),t.place[i]≠j):t.slot j=.empty:=by
 unfold slot;dsimp only;let h1:(t.place[below t.place j]?==⇑j)=false:=by
  cases q:t.place[below t.place j]? with
  |none=>rfl
  |some v=>let#[hi,e]:=Array.getElem?_eq_some_iff.mp q;let:=h _ hi;rw[e]at this;simpa using this
 rw[h1,F];rfl
def AY{t:SetTable}(v:Rising t.place)(F:t.dummies=#[])(j:Nat):(t.slot j=.empty/\∀i(hi:i<t.place.size),t.place[i]≠j)\/∃i,∃hi:i<t.place.size,t.place[i]=j/\t.slot j=.live i:=by
 by_cases h:∃i,∃hi:i<t.place.size,t.place[i]=j
 .obtain⟨i,hi,e⟩:=h;show .inr #[i,hi,e,Cm v hi e]
 .let h':∀i(hi:i<t.place.size),t.place[i]≠j:=λi hi e=>h #[i,hi,e];show .inl #[Cn F h',h']
def wK(t:SetTable)(p:Probe):Nat->Probe
 |0=>p
 |n+1=>wK t (t.advance p) n
def kL(mask:Nat):Prop:=mask=7\/mask=15\/mask=31\/mask=63\/mask=127\/mask=255\/mask=511
structure vc(t:SetTable)(hs:List Int):Prop where
 ris:Rising t.place
 dum:t.dummies=#[]
 mask:kL t.mask
 size:t.place.size=hs.length
 le:∀i(hi:i<t.place.size),t.place[i]<=t.mask
 few:hs.length<=t.mask
 reach:∀i(hi:i<t.place.size)(h:Int),hs[i]?=⇑h->∃n,(wK t (t.probeStart h) n).j=t.place[i]/\∀m,m<n->t.slot (wK t (t.probeStart h) m).j≠.empty
theorem ris_list:Rising xs↔xs.toList.Pairwise (·<·):=by rw[List.pairwise_iff_getElem];first|rfl|assumption|(simp_all;done)
def BM(L:Rising xs)(hn:∀i(hi:i<xs.size),xs[i]≠j):Rising (insertAt xs (below xs j) j):=by
 let#[h1,h2,h3]:=Az (j:=j) L;rw[ris_list,toList_insertAt];let M:=ris_list.mp L;rw[<-take_append_drop (below xs j) xs.toList]at M;let#[p1,Z,Y]:=pairwise_append.mp M;show pairwise_append.mpr #[p1,pairwise_cons.mpr #[λy F=>?_,Z],λx J y F=>?_]
 .obtain⟨i,hi,e⟩:=getElem_of_mem F;rw[List.getElem_drop,Array.getElem_toList]at e;let v:below xs j+i<xs.size:=by simp at hi;lia
  let a:=h3 (below xs j+i) v ∅;let b:=hn (below xs j+i) v;lia
 .have G:x<j:=by
   let#[i,hi,e]:=getElem_of_mem J;rw[List.getElem_take,Array.getElem_toList]at e;let v:i<xs.size/\i<below xs j:=by simp at hi;lia
   let:=h2 i v.1 v.2;lia
  rcases qC.mp F with rfl|F
  .show G
  .show Y x J y F
def Cp{t:SetTable}(v:t.dummies=#[]):(t.put j).1.place=insertAt t.place (below t.place j) j/\(t.put j).1.mask=t.mask/\(t.put j).1.dummies=#[]/\(t.put j).2=below t.place j:=by unfold put;show#[rfl,rfl,?_,rfl];rw[v];rfl
section
variable{prog:Program}{w:World}{K:Type}[DecidableEq K](knd:HeapKind prog w K)
def pf(xs:List (K×Addr)):List (Int×Value):=xs.map λp=>(knd.hash p.1,Value.ref p.2)
variable{knd}
def xG(t:SetTable)(n:Nat):Prop:=n*5<t.mask*3
def Be{h:Heap}(F:h.get? a=⇑o)(v:o.data=.set es ep t):(h.update a (Obj.putSet es' t')).get? a=some {o with data:=.set es' (ep+1) t'}:=by let:=zp (Obj.putSet es' t') F (by rw[putSet_of es' t' v];rfl);rw[putSet_of es' t' v]at this;show this
end
end ST
namespace ST
open PySem
def BP(hn:n≠0)(h:∀i,i<n->∀d,Q i {s with drawn:=d}):wpAny (model prog w) A (choose .order n) Q E s:=
 λ_ _ _=>#[hn,h _ (Nat.mod_lt _ (Nat.pos_of_ne_zero hn)) _]
def Bz:∀(n:Nat){xs:List α}{s:Shared}{Q:List α->Shared->Prop},xs.length=n->(∀ys d,ys.Perm xs->Q ys {s with drawn:=d})->wpAny (model prog w) A (drawOrder n xs) Q E s
 |0,xs,s,Q,e,h=>by
  cases xs with
  |nil=>show qb (h [] s.drawn .nil)
  |cons _ _=>cases e
 |n+1,xs,s,Q,e,h=>by
  cases xs with
  |nil=>cases e
  |cons x xs=>show qa (BP (by simp) λi hi d=>?_);rw[qh hi];show qa (Bz n (by rw[List.length_eraseIdx,zj hi,e];rfl) λys F v=>?_);show qb (h _ F ((v.cons _).trans ?_));rw[List.eraseIdx_eq_take_drop_succ];show perm_middle.symm.trans ?_;rw[List.getElem_cons_drop,take_append_drop]
def Ay(h:Q (w.params.followText "set-order") s):wpAny (model prog w) A setsByText Q E s:=qa (wpAny_askSetting (qb h))
theorem slot_next:Slot "set_iterator" "__next__" "set_iterator.__next__":=
 .of (owner:="set_iterator") (n:="__next__") (by rw[typeLookup_type];kernel_rfl) (by decide+kernel) (by decide+kernel) (by decide+kernel)
  (by first|show .inl (by decide+kernel)|show .inr (by decide+kernel)) (by rw[isSubtype_type];kernel_rfl)
def Ax:entryFor table "set_iterator.__next__"=⇑Builtin.«set_iterator.__next__»:=entryFor_of_tree (by kernel_rfl)
def AE(a:Value):argsOk "set_iterator.__next__" #[[a],[]]:=by unfold argsOk;kernel_rfl
def Bf:Slot "set_iterator" "__iter__" "set_iterator.__iter__":=
 .of (owner:="set_iterator") (n:="__iter__") (by rw[typeLookup_type];kernel_rfl) (by decide+kernel) (by decide+kernel) (by decide+kernel)
  (by first|show .inl (by decide+kernel)|show .inr (by decide+kernel)) (by rw[isSubtype_type];kernel_rfl)
def BN:entryFor table "set_iterator.__iter__"=⇑Builtin.«dict_keyiterator.__iter__»:=
 entryFor_alias (id':="dict_keyiterator.__iter__") (by kernel_rfl) rfl (by decide+kernel) (by kernel_rfl)
def Ct(a:Value):argsOk "set_iterator.__iter__" #[[a],[]]:=by unfold argsOk;kernel_rfl
def mY(h:Heap)(I a:Addr)(f:Value)(i n ep:Nat):Prop:=∃o,h.get? I=⇑o/\o.cls=.type "set_iterator"/\o.data=.fields [f,.int i 0,.ref a,.int n 0,.int ep 0].toArray
@[inline]def SetAt(h:Heap)(a:Addr)(es:Array (Int×Value))(ep:Nat)(t:SetTable):Prop:=∃o,h.get? a=some o/\o.data=.set es ep t/\t.fits es.size=true
@[inline]def TupAt(h:Heap)(p:Addr)(ys:List Nat):Prop:=∃o c,h.get? p=some o/\o.data=.seq (ys.map λi:Nat=>rawInt (i:Int)).toArray c
def mY.typeIs{s:Shared}(x:mY s.heap I a f i n ep):s.TypeIs (.ref I) "set_iterator":=let⟨o,ho,hc,_⟩:=x;#[o,ho,hc]
def BL(v:mY s.heap I a (.ref p) i es.size ep)(hs:SetAt s.heap a es ep t)(ht:TupAt s.heap p ys)(hj:ys[i]?=⇑j)(he:es[j]?=⇑e)
  (hQ:∀h',mY h' I a (.ref p) (i+1) es.size ep->Heap.SameBut I s.heap h'->Q ⇑e.2 {s with heap:=h'}):wpAny (model prog w) A (pyNext (.ref I)) Q E s:=by
 obtain⟨o,Y,hc,M⟩:=id v;let#[o',G,L,Z]:=hs;let#[h1,c,F,J]:=ht;refine qa (wpAny_attempt (wpAny_callSpecial?_slot (name:=Str.ofString "__next__") v.typeIs slot_next
  (zu slot_next v.typeIs Ax ?_ (AE _))))
 show wpAny _ _ (fieldsOf (.ref I)>>=_) _ _ s;show qa (wpAny_fieldsOf Y M ?_);show qa (qa (wpAny_setState_of G L Z (qb ?_)));rw[zk (by simp)];show qa (wpAny_seqItems F J ?_);dsimp only;rw[qZ,List.getElem?_toArray,qI,hj];dsimp only[map_some,rawInt];show qa (qa (wpAny_setState_of G L Z ?_));dsimp only;rw[zk (by simp),qZ,he];show qb (qa (wpAny_setField Y M (by simp) (qb #[_,rfl,qb (hQ _ ?_ (Heap.SameBut.update ..))])));show#[_,zp _ Y (Obj.isFreed_of_fields (Obj.data_mapFields M _)),(Obj.cls_mapFields ..).trans hc,by rw[Obj.data_mapFields M];simp]
def Cs(hh:A.handled=none)(v:mY s.heap I a (.ref p) i es.size ep)(hs:SetAt s.heap a es ep t)(ht:TupAt s.heap p ys)(hj:ys[i]?=none)
  (hQ:∀h',Heap.ExtBut I s.heap h'->Q none {s with heap:=h'}):wpAny (model prog w) A (pyNext (.ref I)) Q E s:=by
 obtain⟨o,M,hc,J⟩:=id v;let#[o',L,Y,hf]:=hs;let#[Z,c,F,G]:=ht;refine qa (wpAny_attempt (wpAny_callSpecial?_slot (name:=Str.ofString "__next__") v.typeIs slot_next
  (zu slot_next v.typeIs Ax ?_ (AE _))))
 show wpAny _ _ (fieldsOf (.ref I)>>=_) _ _ s;show qa (wpAny_fieldsOf M J ?_);show qa (qa (wpAny_setState_of L Y hf (qb ?_)));rw[zk (by simp)];show qa (wpAny_seqItems F G ?_);dsimp only;rw[qZ,List.getElem?_toArray,qI,hj];show qa (wpAny_setField M J (by simp) ?_);show qa (wpAny_setField (zp _ M (Obj.isFreed_of_fields (Obj.data_mapFields J _))) (Obj.data_mapFields J _) (by simp) ?_);show qa ?_;show qa (zt ?_ (by size_fits));show qa (m:=firstArgMember _ _) (zy (a:=Value.none) (by first|rfl|(simp;rfl)) ?_);show zt ?_ (by size_fits);show qa (wpAny_handled ?_);rw[show A.in1.handled=none from hh];show qa (qb (wpAny_throw ?_));show qa (wpAny_isInstance (T:="StopIteration") (b:=true) ⟨_,qd _ rfl,rfl⟩ isSubtype_stop ?_);show qb (hQ _ ((((Heap.SameBut.update ..).trans (Heap.SameBut.update ..)).extBut.push _).push _))
def Bx{slot slot':Nat}(F:mY s.heap I a (.int slot 0) i es.size ep)(Y:SetAt s.heap a es ep t)
  (hn:∀(A:Around)(E:zF)(R:Option (Value×Nat)->Shared->Prop),R ⇑(v,slot') s->wpAny (model prog w) A (setNext a slot i ep) R E s)
  (hQ:∀h',mY h' I a (.int slot' 0) (i+1) es.size ep->Heap.SameBut I s.heap h'->Q ⇑v {s with heap:=h'}):wpAny (model prog w) A (pyNext (.ref I)) Q E s:=by
 obtain⟨o,J,hc,G⟩:=id F;let#[o',L,M,Z]:=Y;refine qa (wpAny_attempt (wpAny_callSpecial?_slot (name:=Str.ofString "__next__") F.typeIs slot_next
  (zu slot_next F.typeIs Ax ?_ (AE _))))
 show wpAny _ _ (fieldsOf (.ref I)>>=_) _ _ s;show qa (wpAny_fieldsOf J G ?_);dsimp only;show qa (qa (wpAny_setState_of L M Z (qb ?_)));rw[zk (by simp)];show qa (hn _ _ _ ?_);show qa (wpAny_setField J G (by simp) ?_);show qa (wpAny_setField (zp _ J (Obj.isFreed_of_fields (Obj.data_mapFields G _))) (Obj.data_mapFields G _) (by simp) ?_);show qb #[_,rfl,qb (hQ _ ?_ ((Heap.SameBut.update ..).trans (Heap.SameBut.update ..)))];show#[_,zp _ (zp _ J (Obj.isFreed_of_fields (Obj.data_mapFields G _))) (Obj.isFreed_of_fields (Obj.data_mapFields (Obj.data_mapFields G _) _)),(Obj.cls_mapFields ..).trans ((Obj.cls_mapFields ..).trans hc),by rw[Obj.data_mapFields (Obj.data_mapFields G _)];simp[rawInt]]
def Cd{slot:Nat}(Y:A.handled=none)(v:mY s.heap I a (.int slot 0) i es.size ep)(M:SetAt s.heap a es ep t)
  (hn:∀(A:Around)(E:zF)(R:Option (Value×Nat)->Shared->Prop),R none s->wpAny (model prog w) A (setNext a slot i ep) R E s)
  (hQ:∀h',Heap.ExtBut I s.heap h'->Q none {s with heap:=h'}):wpAny (model prog w) A (pyNext (.ref I)) Q E s:=by
 obtain⟨o,J,hc,L⟩:=id v;let#[o',F,G,Z]:=M;refine qa (wpAny_attempt (wpAny_callSpecial?_slot (name:=Str.ofString "__next__") v.typeIs slot_next
  (zu slot_next v.typeIs Ax ?_ (AE _))))
 show wpAny _ _ (fieldsOf (.ref I)>>=_) _ _ s;show qa (wpAny_fieldsOf J L ?_);dsimp only;show qa (qa (wpAny_setState_of F G Z (qb ?_)));rw[zk (by simp)];show qa (hn _ _ _ ?_);show qa (wpAny_setField J L (by simp) ?_);show qa ?_;show qa (zt ?_ (by size_fits));show qa (m:=firstArgMember _ _) (zy (a:=Value.none) (by first|rfl|(simp;rfl)) ?_);show zt ?_ (by size_fits);show qa (wpAny_handled ?_);rw[show A.in1.handled=none from Y];show qa (qb (wpAny_throw ?_));show qa (wpAny_isInstance (T:="StopIteration") (b:=true) ⟨_,qd _ rfl,rfl⟩ isSubtype_stop ?_);show qb (hQ _ (((Heap.SameBut.update ..).extBut.push _).push _))
def AZ(v:mY s.heap I a f i n ep)(h:Q (.ref I) s):wpAny (model prog w) A (pyIter (.ref I)) Q E s:=by show wpAny_pyIter_slot v.typeIs Bf (zu Bf v.typeIs BN ?_ (Ct _));show qb #[_,rfl,"set_iterator",_,v.typeIs,slot_next.lookup,h]
end ST
namespace ST
open PySem PySem.SetTable
section
variable{prog:Program}{w:World}{A:Around}{E:zF}{s:Shared}{I a p:Addr}{es:Array (Int×Value)}{ep i slot:Nat}{t:SetTable}{ys:List Nat}
def AH(J:SetAt s.heap a es ep t)(Z:w.params.followText "set-order"=false)(F:¬(!t.plain&&↥(es.size>1))=true)(L:t.led=true)
  (h:R (match es[below t.place slot]?,t.place[below t.place slot]? with|some (_,x),some j=>⇑(x,j+1)|_,_=>none) s):wpAny (model prog w) A (setNext a slot i ep) R E s:=by
 let#[o',v,G,M]:=J;show qa (wpAny_setState_of v G M ?_);show qa (Ay ?_);rw[Z,zk ⋯];split
 .rename_i Y;show absurd Y F
 .show qa ?_;show wpAny _ _ (if(!t.led&& !es.isEmpty)=true then _ else _) _ _ _;rw[L];show qb ?_;show qb h
def AL(L:SetAt s.heap a es ep t)(J:w.params.followText "set-order"=true)
  (h:R (((pickOrder (w.params.setOrder a ep) es)[i]?).map λe=>(e.2,slot)) s):wpAny (model prog w) A (setNext a slot i ep) R E s:=by
 let#[o',v,F,G]:=L;show qa (wpAny_setState_of v F G ?_);show qa (Ay ?_);rw[J,zj rfl,zk (by simp)];show qa ?_;show qa (wpAny_setState_of v F G ?_);show qa (Ay ?_);rw[J];show qa (wpAny_askSetting ?_);show qb (qb h)
def BQ(v:Rising xs):below xs 0=0:=by
 let#[h1,h2,F]:=Az (j:=0) v;rcases Nat.eq_zero_or_pos (below xs 0)with z|z
 .show z
 .show absurd (h2 0 ∅ z) (Nat.not_lt_zero _)
def BR(v:Rising xs)(hi:i<xs.size):below xs (xs[i]+1)=i+1:=by
 let#[h1,h2,F]:=Az (j:=xs[i]+1) v;let a:i<below xs (xs[i]+1):=Nat.lt_of_not_le λz=>absurd (F i hi z) ∅;rcases lt_or_ge (i+1) (below xs (xs[i]+1))with z|z
 .let b:=h2 (i+1) ∅ z;let c:=v i (i+1) hi ∅ ∅;lia
 .lia
end
def Ca(f:Nat->Nat):∀(n k:Nat)(left:List α)(v:Array α),left.length=n->((pickOrder.go f n k left v).toList).Perm (v.toList++left)
 |0,k,left,v,e=>by
  cases left with
  |nil=>unfold pickOrder.go;simp
  |cons _ _=>cases e
 |n+1,k,left,v,e=>by let hi:f k %left.length<left.length:=Nat.mod_lt _ ∅;unfold pickOrder.go;rw[qh hi];show(Ca f n (k+1) _ _ (by rw[List.length_eraseIdx,zj hi,e];rfl)).trans ?_;rw[Array.toList_push,qp];show List.Perm.append_left _ ?_;show(left[f k %left.length]::left.eraseIdx (f k %left.length)).Perm left;rw[List.eraseIdx_eq_take_drop_succ];show perm_middle.symm.trans ?_;rw[List.getElem_cons_drop,take_append_drop]
def AR(f:Nat->Nat)(xs:Array α):((pickOrder f xs).toList).Perm xs.toList:=by let:=Ca f xs.size 0 xs.toList #[] (by simp);first|rfl|assumption|(simp_all;done)
def SetAt.same(x:SetAt h a es ep t)(F:Heap.SameBut I h h')(v:a≠I):SetAt h' a es ep t:=let⟨o,ho,r⟩:=x;#[o,(F.2 a v).trans ho,r]
def TupAt.same(x:TupAt h p ys)(F:Heap.SameBut I h h')(v:p≠I):TupAt h' p ys:=let⟨o,c,ho,r⟩:=x;#[o,c,(F.2 p v).trans ho,r]
def gY(ord:List (Int×Value))(i:Nat)(v:Value):Prop:=∃e,ord[i]?=⇑e/\v=e.2
def Br(hh:A.handled=none){ord:List (Int×Value)}(ho:ord.length=es.size)(hy:ys.length=es.size)(hor:∀(i j:Nat),ys[i]?=⇑j->es[j]?=ord[i]?/\j<es.size)(ha:a≠I)(hp:p≠I):
  Walks prog w A I [I,a,p] [I] es.size (gY ord) (λi h=>mY h I a (.ref p) i es.size ep/\SetAt h a es ep t/\TupAt h p ys) where
 sub:=λb hb=>by rw[qv.mp hb];simp
 frame:=λi h h' st hk=>by let#[#[o,h1,h2],#[o',h3,h4],#[o'',c,h5,h6]]:=st;show#[#[o,hk I (by simp) o h1,h2],#[o',hk a (by simp) o' h3,h4],#[o'',c,hk p (by simp) o'' h5,h6]]
 item:=λi s Q E hi st hQ=>by let hj:ys[i]?=⇑(ys[i]'∅):=qh ∅;let#[he,hlt]:=hor i _ hj;let hoi:ord[i]?=⇑(ord[i]'∅):=qh ∅;show BL st.1 st.2.1 st.2.2 hj (he.trans hoi) λh' hit' hs'=>?_;show hQ _ h' s.toks #[_,hoi,rfl] #[hit',st.2.1.same hs' ha,st.2.2.same hs' hp] λb o hb e=>hs'.extBut b o (λz=>hb (by simp[z])) e
 done:=λs Q E st hQ=>Cs hh st.1 st.2.1 st.2.2 (qT ∅) λh' he'=>hQ h' s.toks λb o hb e=>he' b o (λz=>hb (by simp[z])) e
 self:=λ_ _ _ _ st hQ=>AZ st.1 hQ
def BG(hh:A.handled=none)(hb:w.params.followText "set-order"=true)(ha:a≠I):
  Walks prog w A I [I,a] [I] es.size (gY (pickOrder (w.params.setOrder a ep) es).toList) (λi h=>mY h I a (.int ((0:Nat):Int) 0) i es.size ep/\SetAt h a es ep t) where
 sub:=λb hb=>by rw[qv.mp hb];simp
 frame:=λi h h' st hk=>by let#[#[o,h1,h2],#[o',h3,h4]]:=st;show#[#[o,hk I (by simp) o h1,h2],#[o',hk a (by simp) o' h3,h4]]
 item:=λi s Q E hi st hQ=>by let hl:=(AR (w.params.setOrder a ep) es).length_eq;rw[qY,qY]at hl;let hoi:(pickOrder (w.params.setOrder a ep) es)[i]?=⇑((pickOrder (w.params.setOrder a ep) es)[i]'∅):=getElem?_eq_getElem ∅;show Bx (slot':=0) st.1 st.2 (λA E R hR=>AL st.2 hb (by rw[hoi];show hR)) λh' hit' hs'=>?_;show hQ _ h' s.toks #[_,by rw[zc];show hoi,rfl] #[hit',st.2.same hs' ha] λb o hb e=>hs'.extBut b o (λz=>hb (by simp[z])) e
 done:=λs Q E st hQ=>by let hl:=(AR (w.params.setOrder a ep) es).length_eq;rw[qY,qY]at hl;show Cd hh st.1 st.2 (λA E R hR=>AL st.2 hb (by rw[Array.getElem?_eq_none ∅];show hR)) λh' he'=>hQ h' s.toks λb o hb e=>he' b o (λz=>hb (by simp[z])) e
 self:=λ_ _ _ _ st hQ=>AZ st.1 hQ
def Bq(hh:A.handled=none)(hb:w.params.followText "set-order"=false)(hnd:¬(!t.plain&&↥(es.size>1))=true)(hl:t.led=true)(hr:Rising t.place)(hz:t.place.size=es.size)(ha:a≠I):
  Walks prog w A I [I,a] [I] es.size (gY es.toList) (λi h=>∃slot:Nat,mY h I a (.int slot 0) i es.size ep/\below t.place slot=i/\SetAt h a es ep t) where
 sub:=λb hb=>by rw[qv.mp hb];simp
 frame:=λi h h' st hk=>by let#[sl,#[o,h1,h2],hbl,#[o',h3,h4]]:=st;show#[sl,#[o,hk I (by simp) o h1,h2],hbl,#[o',hk a (by simp) o' h3,h4]]
 item:=λi s Q E hi st hQ=>by
  let#[sl,hit,hbl,hs]:=st;let hi':i<t.place.size:=∅
  show Bx (slot':=t.place[i]+1) (v:=es[i].2) hit hs (λA E R hR=>AH hs hb hnd hl (by rw[hbl,getElem?_eq_getElem hi,getElem?_eq_getElem hi'];show hR)) λh' hit' hs'=>?_;show hQ _ h' s.toks #[es[i],by rw[zc];show getElem?_eq_getElem hi,rfl] #[_,hit',BR hr hi',hs.same hs' ha] λb o hb e=>hs'.extBut b o (λz=>hb (by simp[z])) e
 done:=λs Q E st hQ=>by let#[sl,hit,hbl,hs]:=st;show Cd hh hit hs (λA E R hR=>AH hs hb hnd hl (by rw[hbl,Array.getElem?_eq_none (zm _)];show hR)) λh' he'=>hQ h' s.toks λb o hb e=>he' b o (λz=>hb (by simp[z])) e
 self:=λ_ _ _ _ st hQ=>by let#[sl,hit,_]:=st;show AZ hit hQ
def BO:entryFor table "set.__iter__"=⇑Builtin.«frozenset.__iter__»:=
 entryFor_alias (id':="frozenset.__iter__") (by kernel_rfl) rfl (by decide+kernel) (by kernel_rfl)
theorem lt_of_get{h:Heap}(e:h.get? b=⇑o):b<h.objs.size:=Nat.lt_of_not_le λz=>by
 let:h.get? b=none:=by unfold Heap.get?;rw[Array.getElem?_eq_none z]
 rw[this]at e;cases e
def jJ(es:Array (Int×Value))(j:Nat):Int×Value:=(es[j]?).getD (0,.none)
def Cq(es:Array (Int×Value)):(List.range es.size).map (jJ es)=es.toList:=by show List.ext_getElem (by simp) λi h1 h2=>?_;simp at h1;rw[List.getElem_map,List.getElem_range];unfold jJ;rw[getElem?_eq_getElem h1];rfl
def CY(hT:s.TypeIs (.ref a) "set")(hs:SetAt s.heap a es ep t)(hr:Rising t.place)(hz:t.place.size=es.size)(h3:w.params.followText "set-order"=false->t.led=true)(hn:es.size<=300)
  (hQ:∀(I:Addr)(h':Heap)(d:Drawn)(ord:List (Int×Value))(fp:List Addr)(St:Nat->Heap->Prop),ord.Perm es.toList->(∀A':Around,A'.handled=none->Walks prog w A' I fp [I] es.size (gY ord) St)->St 0 h'->I∈fp->
   (∀b∈fp,(b=a\/s.heap.objs.size<=b)/\b<h'.objs.size)->(∀b o,s.heap.get? b=⇑o->h'.get? b=⇑o)->s.heap.objs.size<=I->Q (.ref I) {s with heap:=h',drawn:=d}):wpAny (model prog w) A (pyIter (.ref a)) Q E s:=by
 let#[o',v,G,hf]:=id hs;let J:=lt_of_get v;show wpAny_pyIter_slot hT F.slot_set_iter (zu F.slot_set_iter hT BO ?_ (F.args_set_iter_1 _));unfold Builtin.«frozenset.__iter__» Builtin.Frozenset.slot0 slotArgs;simp only[List.isEmpty_nil,Bool.not_true,↓reduceIte,bind_assoc,qw,bne_self_eq_false];show qa (qb ?_);show qa (qb ?_);show qa (qa (wpAny_setEntries_of v G hf (qb ?_)));show qa (qa (wpAny_setState_of v G hf ?_));show qa (Ay (qb ?_));let M:∀(h:Heap)(o:Obj)(b:Addr)(o2:Obj),h.get? b=⇑o2->(h.push o).get? b=⇑o2:=λh o b o2 e=>qc _ e;show wpAny _ _ (if(!w.params.followText "set-order"&&(!t.plain&&↥(es.size>1)))=true then _ else _) _ _ _;by_cases hc:(!w.params.followText "set-order"&&(!t.plain&&↥(es.size>1)))=true
 .rw[zj hc];show qa (Bz es.size (by simp) λys d hp=>?_);let Z:ys.length=es.size:=by rw[hp.length_eq];simp
  let Y:∀j∈ys,j<es.size:=λj hj=>qM.mp (hp.mem_iff.mp hj);show qa (wpAny_newTuple ?_ (by rw[qo,Z];show le_trans hn ⋯));show qa (qa (wpAny_setState_of (M _ _ _ _ v) G hf (qb ?_)));show qa (zt (qb #[_,rfl,"set_iterator",_,#[_,qd _ rfl,rfl],slot_next.lookup,?_]) (by size_fits));let g1:∀j,j<es.size->es[j]?=⇑(jJ es j):=λj hj=>by unfold jJ;rw[getElem?_eq_getElem hj];rfl
  let h5:(s.heap.push {cls:=.type "tuple",data:=.seq (ys.map λi:Nat=>rawInt (i:Int)).toArray}).get? s.heap.objs.size=some {cls:=.type "tuple",data:=.seq (ys.map λi:Nat=>rawInt (i:Int)).toArray}:=qd _ rfl;show hQ _ _ d (ys.map (jJ es)) [_,a,s.heap.objs.size] _ ((hp.map _).trans (by rw[Cq])) (λA' hA=>Br (ep:=ep) (t:=t) (ys:=ys) hA (by rw[qo,Z]) Z (λi j hj=>#[?_,Y j (qP hj)]) ?_ ?_) #[#[_,qd _ rfl,rfl,rfl],#[_,M _ _ _ _ (M _ _ _ _ v),G,hf],#[_,_,M _ _ _ _ h5,rfl]] (by simp) (λb L=>?_) (λb o e=>M _ _ _ _ (M _ _ _ _ e)) ?_
  .rw[qI,hj];show g1 j (Y j (qP hj))
  .rw[Heap.size_push];show ne_of_lt (lt_succ_of_lt J)
  .rw[Heap.size_push];show ne_of_lt (lt_succ_self _)
  .rw[Heap.size_push,Heap.size_push];rw[Heap.size_push]at L;rcases qC.mp L with rfl|L
   .show#[.inr (le_succ _),lt_succ_self _]
   .rcases qC.mp L with rfl|L
    .show#[.inl rfl,lt_succ_of_lt (lt_succ_of_lt J)]
    .rw[qv.mp L];show#[.inr (zm _),lt_succ_of_lt (lt_succ_self _)]
  .rw[Heap.size_push];show le_succ _
 .rw[zk hc];show qa (qb ?_);show qa (qa (wpAny_setState_of v G hf (qb ?_)));show qa (zt (qb #[_,rfl,"set_iterator",_,#[_,qd _ rfl,rfl],slot_next.lookup,?_]) (by size_fits));let h2:a≠s.heap.objs.size:=ne_of_lt J;let h4:∀(o:Obj),∀b∈[s.heap.objs.size,a],(b=a\/s.heap.objs.size<=b)/\b<(s.heap.push o).objs.size:=λo b L=>by
   rw[Heap.size_push];rcases qC.mp L with rfl|L
   .show#[.inr (zm _),lt_succ_self _]
   .rw[qv.mp L];show#[.inl rfl,lt_succ_of_lt J]
  by_cases L:w.params.followText "set-order"=true
  .show hQ _ _ s.drawn _ [_,a] _ (AR (w.params.setOrder a ep) es) (λA' hA=>BG (ep:=ep) (t:=t) hA L h2) #[#[_,qd _ rfl,rfl,rfl],#[_,M _ _ _ _ v,G,hf]] (by simp) (h4 _) (λb o e=>M _ _ _ _ e) (zm _)
  .let h1:w.params.followText "set-order"=false:=by simpa using L
   show hQ _ _ s.drawn _ [_,a] _ (.refl _) (λA' hA=>Bq (ep:=ep) (t:=t) hA h1 (λz=>hc (by rw[h1,z];rfl)) (h3 h1) hr hz h2) #[0,#[_,qd _ rfl,rfl,rfl],BQ hr,#[_,M _ _ _ _ v,G,hf]] (by simp) (h4 _) (λb o e=>M _ _ _ _ e) (zm _)
def Cr(hn:ord.length=n)(h:ItemsOf (gY ord) v n):v.toList=ord.map (·.2):=by
 show ext_getElem? λi=>?_;rw[zc,qI];rcases lt_or_ge i n with hi|hi
 .let h1:v[i]?=⇑(v[i]'(by rw[h.1];show hi)):=getElem?_eq_getElem _;let#[e,G,F]:=h.2 i _ h1;rw[h1,G,F];rfl
 .rw[Array.getElem?_eq_none (by rw[h.1];show hi),qT (by rw[hn];show hi)];rfl
def BA(hh:A.handled=none)(hT:s.TypeIs (.ref a) "set")(hs:SetAt s.heap a es ep t)(hr:Rising t.place)(hz:t.place.size=es.size)(h6:w.params.followText "set-order"=false->t.led=true)(hn:es.size<=300)
  (hQ:∀(s':Shared)(ord:List (Int×Value)),ord.Perm es.toList->(∀b o,s.heap.get? b=⇑o->s'.heap.get? b=⇑o)->s'.gens=s.gens->s'.os=s.os->s.toks<=s'.toks->Q (ord.map (·.2)) s'):wpAny (model prog w) A (collect (.ref a)) Q E s:=by
 let#[o',h5,hc,hf]:=id hs;let M:=lt_of_get h5;show qa (wpAny_runValue (codeAny_builtin F.entry_proto_collect ?_));show qa (zt ?_);show qb #[plainId_quiet F.plain_list_iadd _,codeAny_builtin F.entry_list_iadd ?_];let h3:(s.heap.push {cls:=.type "list",data:=.seq ([]:List Value).toArray}).get? s.heap.objs.size=some {cls:=.type "list",data:=.seq ([]:List Value).toArray}:=qd _ rfl;let h1:Builtin.List.listSameRef (.ref s.heap.objs.size) (.ref a)=false:=by simp[Builtin.List.listSameRef];show(ne_of_gt M)
 let hk:SetAt (s.heap.push {cls:=.type "list",data:=.seq ([]:List Value).toArray}) a es ep t:=#[o',qc _ h5,hc,hf]
 let Z:Shared.TypeIs {s with heap:=s.heap.push {cls:=.type "list",data:=.seq ([]:List Value).toArray}} (.ref a) "set":=by let#[o2,e1,e2]:=hT;show#[o2,qc _ e1,e2]
 show wpAny _ A.in1 (Builtin.List.listExtendWith (.ref s.heap.objs.size) (.ref a) (.ref s.heap.objs.size)) _ _ _;show qa (wpAny_typeOf Z ?_);rw[zk (by rw[h1];decide)];show qa (CY Z hk hr hz h6 hn λI h' d ord fp St hp W e3 hI hi v h9=>?_);let Y:Shared.TypeIs {s with heap:=h',drawn:=d} (.ref a) "set":=by let#[o2,e1,e2]:=Z;show#[o2,v _ _ e1,e2]
 show qa (zx ?_);show qa (wpAny_specialOf Y F.slot_set_len.lookup ?_);generalize hx:("set.__len__":String)=hq
 wp_delta
 subst hx;show qa (wpAny_isInstance (b:=true) Y (by rw[isSubtype_type];kernel_rfl) ?_);show qa (wpAny_typeOf Y ?_);show qb ?_;let J:=v _ _ h3;let WS:=(W A.in1 hh).toS;show qa (wpAny_rule ?_);show qa ?_;show qa (wpAny_updateSeq J rfl ?_);let G:=zp (Obj.mapSeq (·.push Value.none)) J rfl;show wpAny_updateSeq (hz:=by seq_fits) G rfl ?_;let h2:=zp (Obj.mapSeq (·.pop)) G rfl;let h4:∀b o,b≠s.heap.objs.size->h'.get? b=⇑o->((h'.update s.heap.objs.size (Obj.mapSeq (·.push Value.none))).update s.heap.objs.size (Obj.mapSeq (·.pop))).get? b=⇑o:=
  λb o L e=>(zo _ _ (Ne.symm L)).trans ((zo _ _ (Ne.symm L)).trans e)
 have h8:s.heap.objs.size∉fp:=λhm=>by
  rcases(hi _ hm).1 with z|z
  .show ne_of_gt M z
  .rw[Heap.size_push]at z;show Nat.not_succ_le_self _ z
 let e4:es.size<=sizeLine:=le_trans hn ⋯;show qb #[plainId_quiet F.plain_extend_loop _,codeAny_extend_loopS WS e4 _ h8 _ es.size 0 _ _ _ rfl (zero_le _) ((W A.in1 hh).frame 0 _ _ e3 λb L o e=>h4 b o (λz=>h8 (z▸L)) e) h2 (ItemsOf.nil _) λs' hd c' hm hl h7=>?_];show qa (wpAny_load hl ?_);show qb ?_;rw[Cr (by rw[hp.length_eq,qY]) h7];show hQ s' ord hp (λb o e=>?_) hm.gens hm.os hm.toks;let L:=lt_of_get e;show hm.heap b o (λz=>?_) (h4 b o (ne_of_lt L) (v _ _ (qc _ e)));rcases qC.mp z with z|z
 .show ne_of_lt L z
 .rw[qv.mp z]at L;rw[Heap.size_push]at h9;show lt_irrefl _ (lt_of_lt_of_le L (le_trans (le_succ _) h9))
end ST
namespace ST
open PySem PySem.SetTable PyProof.Rows
section
variable{prog:Program}{w:World}{A:Around}{E:zF}{s:Shared}{I a p:Addr}{es:Array (Int×Value)}{ep i slot:Nat}{t:SetTable}{ys:List Nat}{h h':Heap}
def BH(hh:A.handled=none)(hT:s.TypeIs (.ref a) "set")(hs:SetAt s.heap a es ep t)(hr:Rising t.place)(hz:t.place.size=es.size)(F:w.params.followText "set-order"=false->t.led=true)(hn:es.size<=300)
  (k:∀(v:Shared)(ord:List (Int×Value)),ord.Perm es.toList->(∀b o,s.heap.get? b=⇑o->v.heap.get? b=⇑o)->v.gens=s.gens->v.os=s.os->s.toks<=v.toks->
   (v.heap.push (seqObj "list" (ord.map (·.2)).toArray 0)).get? v.heap.objs.size=⇑(seqObj "list" (ord.map (·.2)).toArray 0)->
   wpAny (model prog w) A.in1.in1 (Builtin.«list.sort» #[[.ref v.heap.objs.size],[]]) (λG L=>∃r,G=.done (.ret r)/\Q (.ref v.heap.objs.size) L) E {v with heap:=v.heap.push (seqObj "list" (ord.map (·.2)).toArray 0)}):
  wpAny (model prog w) A (call (.builtin "sorted") [.ref a]) Q E s:=by
 show Calls.call_function_entry kind_sorted plain_sorted entry_sorted (args_sorted1 _) (?_:wpAny _ _ _ _ _ _);show qa (m:=checkCount "sorted" 1 1 _) (qb (qa (BA hh hT hs hr hz F hn λv ord M Y hg ho Z=>?_)));let J:ord.length<=sizeLine:=by rw[M.length_eq];show le_trans hn ⋯
 show qa (wpAny_newList ?_ (by rw[qo];show J));let new:(v.heap.push (seqObj "list" (ord.map (·.2)).toArray 0)).get? v.heap.objs.size=⇑(seqObj "list" (ord.map (·.2)).toArray 0):=qd _ rfl;show qa (zx (zu slot_list_sort #[_,new,rfl] entry_list_sort (zz (k v ord M Y hg ho Z new) ?_ λe s' z=>z) (args_list_sort _)));rintro G L ⟨r,rfl,q⟩;show#[_,rfl,qb #[_,rfl,q]]
end
theorem sortedHeap_at(F:h.get? a=⇑(seqObj "list" vs.toArray n))(v:Array Value):∃e,(sortedHeap h a vs v).get? a=⇑(seqObj "list" v e):=
 #[_,get?_update_seq (qc _ (qc _ (get?_update_seq F _))) _]
theorem sortedHeap_old(v:b≠a)(G:h.get? b=⇑o)(F:Array Value):(sortedHeap h a vs F).get? b=⇑o:=
 (zo _ _ (Ne.symm v)).trans (qc _ (qc _ ((zo _ _ (Ne.symm v)).trans G)))
def textOf:Value->Str
 |.str x _=>x
 |_=>Str.empty
theorem strs_map(h:StrsAre vs ss):ss=vs.map textOf/\∀v∈vs,∃x t,v=.str x t:=by
 induction h with
 |nil=>show#[rfl,λv F=>nomatch F]
 |cons n t _ G=>show#[by rw[qA,<-G.1];rfl,λv F=>?_];grind
def BW:∀{vs:List Value},(∀v∈vs,∃x t,v=.str x t)->StrsAre vs (vs.map textOf)
 |[],_=>.nil
 |v::vs,h=>by let#[n,t,rfl]:=h v qm;show .cons n t (BW λu F=>h u (qk _ F))
def Ck(h:StrsAre vs ss)(F:us.Perm vs):∃ms,StrsAre us ms/\ms.Perm ss:=by let#[rfl,h2]:=strs_map h;show#[_,BW λv G=>h2 v (F.mem_iff.mp G),F.map _]
section
variable{prog:Program}{w:World}{A:Around}{E:zF}{s:Shared}{a:Addr}{es:Array (Int×Value)}{ep:Nat}{t:SetTable}
theorem sorted_set_strs(hh:A.handled=none)(hT:s.TypeIs (.ref a) "set")(hs:SetAt s.heap a es ep t)(hr:Rising t.place)(hz:t.place.size=es.size)(J:w.params.followText "set-order"=false->t.led=true)(hn:es.size<64)
  (hI:StrsAre (es.toList.map (·.2)) ss)
  (k:∀(F:Shared)(D:Addr)(G:Array Value)(e:Nat)(v:List Str),StrsAre G.toList v->v.Perm ss->sortedS v=true->F.heap.get? D=⇑(seqObj "list" G e)->s.heap.get? D=none->(∀b o,s.heap.get? b=⇑o->F.heap.get? b=⇑o)->
   F.gens=s.gens->F.os=s.os->s.toks<=F.toks->Q (.ref D) F):wpAny (model prog w) A (call (.builtin "sorted") [.ref a]) Q E s:=by
 show BH hh hT hs hr hz J ∅ λs1 ord hp M hg ho ht new=>?_;let#[ms,Z,Y]:=Ck hI (hp.map _);let hl:(ord.map (·.2)).length<64:=by rw[qo,hp.length_eq];show hn
 show list_sort_treeK strKind_oneLt new Z.keysOf (λh3 h2 rest e=>keyKind_strs (by rw[<-e];show Z)) hl λL a1 a2=>#[_,rfl,?_]
 obtain⟨v,b1,b2,b3⟩:=sorted_out_str Z a1 a2;let#[e,he]:=sortedHeap_at new ((arrOf L).map (·.2));let h1:s.heap.get? s1.heap.objs.size=none:=by
  cases q:s.heap.get? s1.heap.objs.size with
  |none=>rfl
  |some o=>show absurd (lt_of_get (M _ _ q)) (lt_irrefl _)
 show k _ _ _ e v b1 (b2.trans Y) b3 he h1 (λb o q=>sortedHeap_old (ne_of_lt (lt_of_get (M b o q))) (qc _ (M b o q)) _) hg ho ht
end
end ST
namespace ST
open PySem PySem.SetTable
def AC(n:Nat):Rising (Array.range n):=by rw[ris_list];simp[pairwise_lt_range]
def Cc(G:Rising t.place)(J:t.dummies=#[]):∀(v:Nat)(p:Probe){j:Nat}{d:Option Nat},p.dummy=none->probe.go t hashAt h v p=⇑(.empty j d)->d=none/\t.slot j=.empty
 |0,_,_,_,_,e=>by cases e
 |v+1,p,j,d,hp,e=>by
  rw[probe.go]at e;let F:(t.advance p).dummy=none:=by
   unfold advance;split
   .show hp
   .show hp
  rcases AY G J p.j with⟨z,_⟩|⟨i,hi,_,z⟩
  .rw[z]at e;cases e;show#[hp,z]
  .rw[z]at e;dsimp only at e;split at e
   .cases e
   .show Cc G J v _ F e
def CW{mask finger moves:Nat}{led plain:Bool}(e:laid mask finger moves led plain L=⇑(t',order)):Rising t'.place/\t'.dummies=#[]/\t'.led=led:=by
 unfold laid at e;cases q:layClean mask L with
 |none=>rw[q]at e;cases e
 |some v=>rw[q]at e;cases e;show#[?_,rfl,rfl];rw[ris_list];rw[pairwise_map,List.pairwise_filterMap];show List.Pairwise.imp (λ{a b} F x J y G=>?_) pairwise_lt_range;let#[_,_,rfl]:=q9.mp J;let#[_,_,rfl]:=q9.mp G;show F
structure WTab(t:SetTable)(n:Nat)(ld:Bool):Prop where
 ris:Rising t.place
 dum:t.dummies=#[]
 fit:t.fits n=true
 ldd:t.led=ld
def CV(T:WTab t es.size ld):WTab (layNew t es h x).2.1 (layNew t es h x).1.size ld:=by
 refine#[?_,?_,layNew_fits t es h x,?_];all_goals
  unfold layNew;split
 .rename_i slot v e;dsimp only;unfold orStandIn;split
  .unfold freeSlot at e;split at e
   .rename_i j d q;cases e;let#[rfl,z]:=Cc T.ris T.dum _ (t.probeStart h) rfl q;rcases AY T.ris T.dum j with⟨_,y⟩|⟨i,hi,_,y⟩
    .show BM T.ris y
    .rw[z]at y;cases y
   .cases e
  .show AC _
 .show AC _
 .dsimp only;unfold orStandIn;split
  .show(Cp T.dum).2.2.1
  .rfl
 .rfl
 .dsimp only;unfold orStandIn;split
  .show T.ldd
  .show T.ldd
 .show T.ldd
def BJ(T:WTab t m ld):WTab (relayAll t es n).2.1 (relayAll t es n).1.size ld:=by
 refine#[?_,?_,relayAll_fits t es n,?_];all_goals
  unfold relayAll;split
 all_goals first
  |(rename_i F v e;dsimp only;let#[a,b,c]:=CW e;split
    .first|show a|show b|show c.trans T.ldd
    .first|show AC _|rfl|show T.ldd)
  |show AC _
  |rfl
  |show T.ldd
def BK(T:WTab t n ld):WTab {t with plain:=p} n ld:=⟨T.ris,T.dum,by let:=T.fit;cases t;show this,T.ldd⟩
section
variable{prog:Program}{w:World}{A:Around}{E:zF}{s:Shared}{a:Addr}{K:Type}[DecidableEq K]{knd:KeyKind prog w K}{xs:List (K×Value)}
def gT(knd:KeyKind prog w K)(xs:List (K×Value)):List (Int×Value):=xs.map λp=>(knd.hash p.1,p.2)
@[inline]def VSet(ld:Bool)(knd:KeyKind prog w K)(h:Heap)(a:Addr)(xs:List (K×Value)):Prop:=∃o es ep t,h.get? a=some o/\o.ExactSet/\o.data=.set es ep t/\WTab t es.size ld/\es.toList=gT knd xs/\(∀p∈xs,knd.is p.1 p.2=true/\p.2.scannable=true)/\(xs.map (·.1)).Nodup
def Bj(h:l.Perm (gT knd xs)):∃ys,ys.Perm xs/\l=gT knd ys:=by
 unfold gT at h;induction l generalizing xs with
 |nil=>
  let v:xs=[]:=↑h.length_eq.symm
  subst v;show#[[],.refl _,rfl]
 |cons e l J=>let#[x,v,rfl]:=qN.mp (h.mem_iff.mp qm);let#[G,F,rfl]:=List.append_of_mem v;rw[map_append]at h;let#[ys,p,rfl]:=J (xs:=G++F) (by rw[map_append];show(h.trans perm_middle).cons_inv);show#[x::ys,(List.Perm.cons x p).trans perm_middle.symm,rfl]
def Du{es:Array (Int×Value)}(J:es.toList=gT knd xs)(G:∀p∈xs,knd.is p.1 p.2=true/\p.2.scannable=true):ElemsOf knd es.toList:=λe F=>by rw[J]at F;let#[p,v,rfl]:=qN.mp F;show#[#[p.1,(G p v).1,rfl],(G p v).2]
theorem BB{g:Bool->Sem Unit}(hg:∀(b:Bool)(s₁:Shared)(Q':Unit->Shared->Prop),Q' () s₁->wpAny (model prog w) A (g b) Q' E s₁)(ho:s.heap.get? a=⇑o)(hex:o.ExactSet)(hd:o.data=.set es ep t)
  (T:WTab t2 es1.size ld)(he:es1.toList=gT knd ys)(hk:∀p∈ys,knd.is p.1 p.2=true/\p.2.scannable=true)(hnd:(ys.map (·.1)).Nodup)(hz:ys.length<=1000)
  (h:∀h' zs,Heap.SameBut a s.heap h'->zs.Perm ys->VSet ld knd h' a zs->R ⇑true {s with heap:=h'}):
  wpAny (model prog w) A (do
    storeSet a es1 t2
    if(!wd&&t2.tooFull)=true then do
       g (relayAll t2 es1 (grown es1.size)).2.2
       storeSet a (relayAll t2 es1 (grown es1.size)).1 (relayAll t2 es1 (grown es1.size)).2.1
       pure ⇑true
     else pure ⇑true) R E s:=by
 let hz1:es1.size<=sizeLine:=by rw[<-qY,he];unfold gT;rw[qo,zv];lia
 show qa (wpAny_storeSet_of ho hd ?_ hz1);let ho1:=Be (es':=es1) (t':=t2) ho hd;let sb1:=Heap.SameBut.update s.heap a (Obj.putSet es1 t2);split
 .let hp:=relayAll_perm t2 es1 (grown es1.size);let T2:=BJ (es:=es1) (n:=grown es1.size) T;generalize relayAll t2 es1 (grown es1.size)=R3 at hp T2⊢;let#[es2,t3,gave]:=R3;rw[he]at hp;let#[zs,pz,ez]:=Bj hp;let hz2:es2.size<=sizeLine:=by rw[<-qY,ez];unfold gT;rw[qo,pz.length_eq,zv];lia
  show qa (hg _ _ _ (qa (wpAny_storeSet_of ho1 rfl (qb ?_) hz2)));show h _ zs (sb1.trans (Heap.SameBut.update _ a _)) pz #[_,es2,_,t3,Be ho1 rfl,hex,rfl,T2,ez,λp hp=>hk p (pz.mem_iff.mp hp),(pz.map _).nodup_iff.mpr hnd]
 .show qb (h _ ys sb1 (.refl _) #[_,es1,_,t2,ho1,hex,rfl,T,he,hk,hnd])
def JE(M:knd.is k x=true)(Y:x.scannable=true)(hS:VSet ld knd s.heap a xs)(e2:xs.length<=150)
  (h1:k∈xs.map (·.1)->Q false s)(h2:k∉xs.map (·.1)->∀h' ys,Heap.SameBut a s.heap h'->ys.Perm ((k,x)::xs)->VSet ld knd h' a ys->Q true {s with heap:=h'}):
  wpAny (model prog w) A (setAddHashed a x (knd.hash k)) Q E s:=by
 let#[o,es,ep,t,ho,hex,hd,T,he,hk,e3]:=hS;let h8:=Du he hk;let e4:es.size=xs.length:=by rw[<-qY,he];simp[gT]
 let hb:es.size<scanBound:=by show es.size<4096;lia
 show zx (qa (wpAny_setState_of ho hd T.fit ?_));dsimp only;rw[byScan_of Y hb h8];show qa (qa (wpAny_rule (qa (wpAny_setScan_of M ho hd T.fit h8 ?_))));let h3:∀p∈xs,knd.is k p.2=true↔p.1=k:=λp G=>#[λz=>(knd.inj p.2 k p.1 z (hk p G).1).symm,λz=>z▸(hk p G).1]
 cases hr:List.findIdx? (λe=>knd.is k e.2) es.toList with
 |some j=>let#[hj,h5,_]:=List.findIdx?_eq_some_iff_getElem.mp hr;let hm:=getElem_mem hj;generalize es.toList[j]=e at hm h5;rw[he]at hm;let#[p,G,rfl]:=qN.mp hm;show qb (qb (h1 (qN.mpr #[p,G,(h3 p G).mp h5])))
 |none=>
  let hn:k∉xs.map (·.1):=λz=>by let#[p,G,e]:=qN.mp z;let q:=List.findIdx?_eq_none_iff.mp hr (knd.hash p.1,p.2) (by rw[he];show qN.mpr #[p,G,rfl]);rw[(h3 p G).mpr e]at q;cases q
  have v:=layNew_perm t es (knd.hash k) x;let T1:=CV (es:=es) (h:=knd.hash k) (x:=x) T;generalize layNew t es (knd.hash k) x=L at v T1⊢;let#[es1,t1,wd,h9]:=L;rw[Array.toList_push,he]at v;let#[ys,py,ey]:=Bj (knd:=knd) (xs:=(k,x)::xs) (v.trans (qQ.trans (by unfold gT;show .refl _)));let h7:∀p∈ys,knd.is p.1 p.2=true/\p.2.scannable=true:=λp G=>by
   rcases qC.mp (py.mem_iff.mp G)with rfl|z
   .show#[M,Y]
   .show hk p z
  let h6:(ys.map (·.1)).Nodup:=(py.map _).nodup_iff.mpr (qO.mpr #[hn,e3]);let h4:ys.length<=1000:=by rw[py.length_eq,qt];lia
  have gw:∀(b:Bool)(F:Shared)(Q':Unit->Shared->Prop),Q' () F->wpAny (model prog w) A (match b with|true=>rule "set.scan.the-table-gave-way"|false=>pure ()) Q' E F:=λb F Q' q=>by
   cases b
   .show qb q
   .show wpAny_rule q
  let e1:∀h' J,Heap.SameBut a s.heap h'->J.Perm ys->VSet ld knd h' a J->Q true {s with heap:=h'}:=λh' J Z pz V=>h2 hn h' J Z (pz.trans py) V;show qa (gw h9 _ _ ?_);split
  .show qa ?_;rw[hashByValue_scannable 8 Y];show qb (BB gw ho hex hd (es1:=es1) (t2:=_) ?_ ey h7 h6 h4 λh' J Z pz V=>qb (e1 h' J Z pz V));split
   .show T1
   .show BK T1
  .show qa (qb ?_);show BB gw ho hex hd T1 ey h7 h6 h4 λh' J Z pz V=>qb (e1 h' J Z pz V)
theorem setAddV(v:knd.is k x=true)(G:x.scannable=true)(Y:VSet ld knd s.heap a xs)(F:xs.length<=150)
  (h1:k∈xs.map (·.1)->∀r,Q r {s with toks:=s.toks+1})(h2:k∉xs.map (·.1)->∀h' ys,Heap.SameBut a s.heap h'->ys.Perm ((k,x)::xs)->VSet ld knd h' a ys->∀r,Q r {s with heap:=h',toks:=s.toks+1}):
  wpAny (model prog w) A (setAdd a x) Q E s:=by
 show zx (qa (knd.pyHash v ?_));show JE (s:={s with toks:=s.toks+1}) v G Y F (λJ=>h1 J _) λJ h' ys L M T=>h2 J h' ys L M T _
def VSet.at(x:VSet ld knd h a xs):∃es ep t,SetAt h a es ep t/\Rising t.place/\t.place.size=es.size/\t.led=ld/\es.toList.map (·.2)=xs.map (·.2):=by
 let#[o,es,ep,t,v,hex,G,T,F,_]:=x;show#[es,ep,t,#[o,v,G,T.fit],T.ris,?_,T.ldd,?_]
 .let:=T.fit;unfold fits at this;grind
 .rw[F];unfold gT;rw[qH];rfl
end
end ST
namespace ST
open PySem PySem.SetTable PyProof.Rows
def freshSet(ld:Bool):Obj:={cls:=.type "set",dict:=none,data:=.set #[] 0 (.fresh 0 0 ld)}
def ldOf(w:World):Bool:=!w.params.followText "set-order"
def Cj(ld:Bool):vc (.fresh 0 0 ld) []:=by
 let v:∀{i:Nat},i<(SetTable.fresh 0 0 ld).place.size->False:=λh=>by simp[SetTable.fresh]at h
 show#[λi j hi _ _=>(v hi).elim,rfl,.inl rfl,rfl,λi hi=>(v hi).elim,by simp,λi hi=>(v hi).elim]
theorem vset_new{K:Type}[DecidableEq K]{knd:KeyKind prog w K}{ld:Bool}{h:Heap}{a:Addr}(e:h.get? a=⇑(freshSet ld)):VSet ld knd h a []:=
 #[_,#[],0,_,e,#[rfl,rfl,rfl],rfl,#[(Cj ld).ris,rfl,rfl,rfl],rfl,λ_ z=>(nomatch z),.nil]
def CG{St:Nat->Shared->Prop}(W:WalksS prog w A.in1 I fp wr G n P St)(S:Addr)(h4:S∉fp){J:Nat->Heap->Prop}
  (stay:∀i h h',i<=n->J i h->(∀b o,b∉wr->h.get? b=⇑o->h'.get? b=⇑o)->J i h')
  (step:∀i v(s:Shared)(Q:Bool->Shared->Prop)(E:zF),i<n->P i v->J i s.heap->(∀h' tk r,s.toks<=tk->Heap.SameBut S s.heap h'->J (i+1) h'->Q r {s with heap:=h',toks:=tk})->wpAny (model prog w) A.in1 (setAdd S v) Q E s):
  ∀(k i:Nat)(s:Shared),n-i=k->i<=n->St i s->J i s.heap->(∀s',Moved (S::wr) G s s'->J n s'.heap->R (.ok (.ret .none)) s')->
   codeAny (model prog w) A (.builtin "set.update.loop" #[[.ref S,.ref I],[]]) R s:=by
 intro k;induction k with
 |zero=>
  intro i s hk hi st hJ hR;let e:i=n:=∅
  subst e;show codeAny_builtin F.entry_set_update_loop ?_;show qa (W.done s _ _ st λs' Z=>?_);show qb (hR s' (Z.mono λb M=>qk _ M) (stay _ _ _ (zm _) hJ Z.heap))
 |succ k ih=>
  intro i s hk hi st hJ hR;let L:i<n:=∅
  show codeAny_builtin F.entry_set_update_loop ?_;show qa (W.item i s _ _ L st λv s' hP h2 Z=>?_);show qa (zx (step i v s' _ _ L hP (stay _ _ _ hi hJ Z.heap) λh' tk r ht sb h5=>?_));show qb #[plainId_quiet F.plain_set_update_loop _,ih (i+1) _ ∅ L (W.frame _ s' _ _ h2 ht λb M o e=>?_) h5 λh3 Y h1=>?_]
  .rw[sb.2 b (λz=>h4 (z▸M))];show e
  .show hR h3 (Moved.trans W.gtrans ((Z.mono λb M=>qk _ M).then_heap ht λb o M e=>?_) Y) h1;rw[sb.2 b (λz=>M (z▸qm))];show e
def CI(x:Value)(h:Q (.ref s.heap.objs.size) {s with heap:=s.heap.push (freshSet (ldOf w))}):
  codeAny (model prog w) A (.call (.builtin "set.__new__") #[[.type "set",x],[]]) (wants Q E) s:=by
 show codeAny_of_tree ?_;show qa (zy (F.newCall_set_1 x) (qb #[plainId_quiet F.plain_set_new _,codeAny_builtin F.entry_set_new ?_]));unfold Builtin.«set.__new__» Builtin.Frozenset.newClass;let v:=sub_set_self
 wp_walk
 show wpAny_askSetting (qb ?_);show qa (wpAny_alloc (qb ?_));show qb h
@[inline]def WalkOk(prog:Program)(w:World)(s:Shared)(x:Value)(n:Nat)(P:Nat->Value->Prop):Prop:=∀(A:Around)(E:zF)(v:Shared)(Q:zF),(∀b o,s.heap.get? b=some o->v.heap.get? b=some o)->
 (∀(o:Obj)(fp:List Addr)(St:Nat->Heap->Prop),(∀A:Around,A.handled=none->Walks prog w A v.heap.objs.size fp [v.heap.objs.size] n P St)->St 0 (v.heap.push o)->(∀b∈fp,b=v.heap.objs.size\/b<s.heap.objs.size)->Q (.ref v.heap.objs.size) {v with heap:=v.heap.push o})->
 wpAny (model prog w) A (pyIter x) Q E v
def Gf(G:s.TypeIs x T)(F:isSubtype (.type T) (.type "set")=pure false)(v:isSubtype (.type T) (.type "frozenset")=pure false)(h:Q false s):wpAny (model prog w) A (Builtin.Frozenset.isAnySet x) Q E s:=by show qa (wpAny_isInstance G F ?_);show wpAny_isInstance G v h
set_option maxHeartbeats 3200000 in
theorem call_set{J:Nat->Heap->Prop}(hh:A.handled=none)(hT:s.TypeIs x T)(e2:isSubtype (.type T) (.type "set")=pure false)(e1:isSubtype (.type T) (.type "frozenset")=pure false)(e3:(Value.type T==Value.type "dict")=false)
  (W:WalkOk prog w s x n P)(h0:∀h,h.get? s.heap.objs.size=⇑(freshSet (ldOf w))->(∀b o,s.heap.get? b=⇑o->h.get? b=⇑o)->J 0 h)
  (stay:∀i h h',i<=n->J i h->(∀b o,b≠s.heap.objs.size+1->h.get? b=⇑o->h'.get? b=⇑o)->J i h')
  (step:∀(A:Around) i v(s':Shared)(Q:Bool->Shared->Prop)(E:zF),i<n->P i v->J i s'.heap->(∀h' tk r,s'.toks<=tk->Heap.SameBut s.heap.objs.size s'.heap h'->J (i+1) h'->Q r {s' with heap:=h',toks:=tk})->A.units<=B->wpAny (model prog w) A (setAdd s.heap.objs.size v) Q E s')
  (hB:A.units+20<=B)
  (h:∀(h':Heap)(tk:Nat),J n h'->(∀b o,s.heap.get? b=⇑o->h'.get? b=⇑o)->s.toks<=tk->Q (.ref s.heap.objs.size) {s with heap:=h',toks:=tk}):
  wpAny (model prog w) A (call (.type "set") [x]) Q E s:=by
 let#[c,tl,hl]:=F.called_set.mro;let e4:=F.called_set.made;let hs:=F.called_set.sub;show wpAny_call (codeAny_of_tree ?_);show wpAny _ _ (callAny (.type "set") _) _ _ _;show qb #[Code.quiet_builtin _ (by decide+kernel),codeAny_builtin F.entry_type_call ?_];rw[Around.under_plain (weight_type_call_type "set" [x] []) rfl];let h1:=F.called_set.notType;let h2:=F.called_set.canCreate;let hq:=F.typeCall_set_1 x
 repeat (any_goals (first|assumption|wp_step))
 show codeAny_mono (CI x (E:=E) (Q:=λh5 M=>h5=.ref s.heap.objs.size/\M={s with heap:=s.heap.push (freshSet (ldOf w))}) #[rfl,rfl]) λr M hr=>?_;cases r with
 |error e=>show hr
 |ok fl=>
  cases fl with
  |ret h5=>
   let#[rfl,rfl]:=hr;let hS:(s.heap.push (freshSet (ldOf w))).get? s.heap.objs.size=⇑(freshSet (ldOf w)):=qd _ rfl;let h6:Shared.TypeIs {s with heap:=s.heap.push (freshSet (ldOf w))} (.ref s.heap.objs.size) "set":=⟨_,hS,rfl⟩
   let hd:=F.called_set.init.lookup;let ha:=F.called_set.init.bind (.ref s.heap.objs.size)
   repeat (any_goals (first|assumption|wp_step))
   show codeAny_mono (codeAny_call_builtin (R:=wants (λr L=>r=.none/\∃h' tk,L={s with heap:=h',toks:=tk}/\J n h'/\(∀b o,s.heap.get? b=⇑o->h'.get? b=⇑o)/\s.toks<=tk) E) F.called_set.init.plain F.entry_set_init (check_set_init_1 h6 ?_)) λh4 L G=>?_
   .have Y:Shared.TypeIs {s with heap:=s.heap.push (freshSet (ldOf w))} x T:=by
     cases x with
     |ref l=>let#[o,e,q]:=hT;show#[o,qc _ e,q]
     |_=>show hT
    unfold Builtin.«set.__init__» noKeywords;generalize hp:Builtin.Frozenset.updateFrom=UF;unfold freshSet at hS h6 Y⊢
    wp_walk
    subst hp;unfold Builtin.Frozenset.updateFrom;show qa (Gf Y e2 e1 ?_);simp only[Bool.false_eq_true,if_false];show qa (wpAny_typeOf Y ?_);rw[e3];simp only[Bool.false_eq_true,if_false];show qa (W _ _ _ _ (λb o e=>qc _ e) λo fp St wk h8 hx=>?_);let hz:(s.heap.push (freshSet (ldOf w))).objs.size=s.heap.objs.size+1:=Heap.size_push ..;let hc:s.heap.objs.size∉fp:=λz=>by
     rcases hx _ z with y|y
     .rw[show s.heap.objs.size=(s.heap.push (freshSet (ldOf w))).objs.size from y]at hz;show absurd hz (ne_of_lt (lt_succ_self _))
     .show lt_irrefl _ y
    refine qa (wpAny_runValue ?_);refine CG (wk A.in1.in1.in1 hh).toS s.heap.objs.size hc (J:=J) (λi h h' hi Z hk=>stay i h h' hi Z λb o hb e=>hk b o (λz=>hb (by rw[<-hz];show qv.mp z)) e)
     (λi v s' Q E hi hP Z hk=>step _ i v s' Q E hi hP Z hk (by show A.units+1+1+1<=B;lia)) (n-0) 0 _ rfl (zero_le _) h8 (h0 _ (qc _ hS) λb o e=>qc _ (qc _ e)) λs' hm Z=>?_
    let#[h',g',d',h7,h9]:=s';let eg:g'=s.gens:=hm.gens;let ed:d'=s.drawn:=hm.drawn;let eo:h9=s.os:=hm.os;subst eg ed eo;show qb ?_;show wpAny _ _ (ret Value.none) _ _ _;show qb #[rfl,h',h7,rfl,Z,λb o e=>?_,hm.toks];let hb:=lt_of_get e;show hm.heap b o (λz=>?_) (qc _ (qc _ e));rcases qC.mp z with z|z
    .show ne_of_lt hb z
    .let:=qv.mp z;rw[this]at hb;show absurd hb (by show¬(s.heap.push (freshSet (ldOf w))).objs.size<_;rw[hz];show not_lt.mpr (le_succ _))
   .cases h4 with
    |error e=>show G
    |ok h3=>
     cases h3 with
     |ret r=>
      let#[rfl,h',tk,rfl,Z,hk,ht]:=G
      repeat (any_goals (first|assumption|wp_step))
      show h _ _ Z hk ht
     |_=>show G.elim
  |_=>show hr.elim
end ST
theorem m1{α:Type}{a:α}{l:List α}:a∈a::l:=.head _
theorem m2{α:Type}{a b:α}{l:List α}:b∈a::b::l:=.tail _ m1
theorem m3{α:Type}{a b c:α}{l:List α}:c∈a::b::c::l:=.tail _ m2
theorem m4{α:Type}{a b c d:α}{l:List α}:d∈a::b::c::d::l:=.tail _ m3
theorem m5{α:Type}{a b c d e:α}{l:List α}:e∈a::b::c::d::e::l:=.tail _ m4
def DT(i:Int)(n:Nat):max 0 (min (if i<0 then i+(n:Int)else i) (n:Int))=(((if i<0 then(i+(n:Int)).toNat else min i.toNat n):Nat):Int):=by
 by_cases h:i<0
 .rw[zj h,zj h,Int.min_eq_left ∅,Int.ofNat_toNat,Int.max_comm]
 .rw[zk h,zk h];let#[k,rfl]:=Int.eq_ofNat_of_zero_le (Int.not_lt.mp h);rw[qZ];rcases Nat.le_total k n with q|q
  .rw[min_eq_left q,Int.min_eq_left (ofNat_le.mpr q),Int.max_eq_right (natCast_nonneg k)]
  .rw[min_eq_right q,Int.min_eq_right (ofNat_le.mpr q),Int.max_eq_right (natCast_nonneg n)]
theorem cps{A:Prop}(h:∀G:Prop,(A->G)->G):A:=h A id
namespace ST
open PySem PySem.SetTable
section
variable{prog:Program}{w:World}{A:Around}{E:zF}{s:Shared}{a b:Addr}{K:Type}[DecidableEq K]{knd:KeyKind prog w K}{ks:List K}{ld:Bool}{xs:List (List K×Addr)}
@[inline]def TRaw(ld:Bool)(knd:HeapKind prog w K)(h:Heap)(a:Addr)(xs:List (K×Addr)):Prop:=∃o es ep t,h.get? a=some o/\o.ExactSet/\o.data=.set es ep t/\t.led=ld/\vc t (es.toList.map (·.1))/\xG t es.size/\es.toList=pf knd xs/\(xs.map (·.1)).Nodup
end
instance okDec(m:Nat):Decidable (kL m):=by unfold kL;infer_instance
end ST
namespace ST
open PySem
theorem walk_str(x:Str)(t:Tok):WalkOk prog w s (.str x t) x.cps.size (SignAt x):=λA E v Q G h=>wpAny_pyIter_str λo St W st=>h o [v.heap.objs.size] St W st λb F=>.inl (qv.mp F)
end ST
namespace L2
open PySem PySem.Spec PyProof.Rows
abbrev bV:=Sum Int Str
def gQ:bV->Value->Bool
 |.inl k,v=>Value.isInt k v
 |.inr x,v=>Value.isStrOf x v
def og(w:World):bV->Int
 |.inl k=>hashInt k
 |.inr x=>hashStr w x
def Di:∀{k:bV}{v:Value},gQ k v=true->(∃i t,k=Sum.inl i/\v=Value.int i t)\/(∃x t,k=Sum.inr x/\v=Value.str x t)
 |.inl i,v,h=>by let#[t,e]:=Value.isInt_shape (k:=i) (v:=v) h;show .inl #[i,t,rfl,e]
 |.inr x,v,h=>by let#[t,e]:=Value.isStrOf_shape (x:=x) (v:=v) h;show .inr #[x,t,rfl,e]
def UJ(i:Int)(t:Tok):gQ (.inl i) (.int i t)=true:=by simp[gQ,Value.isInt]
def Vg(x:Str)(t:Tok):gQ (.inr x) (.str x t)=true:=by simp[gQ,Value.isStrOf]
def Pz(a b:Int):↥((Sum.inl a:bV)=Sum.inl b)=(a==b):=by grind
def Pk(a b:Str):↥((Sum.inr a:bV)=Sum.inr b)=↥(a=b):=by grind
def OL(a:Int)(b:Str):↥((Sum.inl a:bV)=Sum.inr b)=false:=qV (λq=>nomatch q)
def OM(a:Str)(b:Int):↥((Sum.inr a:bV)=Sum.inl b)=false:=qV (λq=>nomatch q)
def aL(prog:Program)(w:World):PySem.KeyKind prog w bV where
 is:=gQ
 hash:=og w
 inj:=λv a b ha hb=>by
  rcases Di ha with⟨i,t,rfl,rfl⟩|⟨x,t,rfl,rfl⟩
  .rcases Di hb with⟨j,u,rfl,e⟩|⟨y,u,rfl,e⟩
   .injection e with e1 _;rw[e1]
   .show nomatch e
  .rcases Di hb with⟨j,u,rfl,e⟩|⟨y,u,rfl,e⟩
   .show nomatch e
   .injection e with e1 _;rw[e1]
 byValue:=λk v h=>by rcases Di h with⟨i,t,rfl,rfl⟩|⟨x,t,rfl,rfl⟩<;>rfl
 pyHash:=λhv h=>by
  rcases Di hv with⟨i,t,rfl,rfl⟩|⟨x,t,rfl,rfl⟩
  .show wpAny_pyHash_int h
  .show wpAny_pyHash_str h
 eqBool:=λhu hv h=>by
  rcases Di hu with⟨i,t,rfl,rfl⟩|⟨x,t,rfl,rfl⟩
  .rcases Di hv with⟨j,u,rfl,rfl⟩|⟨y,u,rfl,rfl⟩
   .rw[Pz]at h;show wpAny_eqBool_int h
   .rw[OL]at h;show SeqAt.EqAt.int_str i t y u _ _ _ _ h
  .rcases Di hv with⟨j,u,rfl,rfl⟩|⟨y,u,rfl,rfl⟩
   .rw[OM]at h;show SeqAt.EqAt.str_int x t j u _ _ _ _ h
   .rw[Pk]at h;show wpAny_eqBool_str h
 «strs»:=λk x t v h=>by
  rcases Di h with⟨i,u,rfl,e⟩|⟨y,u,rfl,e⟩
  .show nomatch e
  .injection e with e1 _
   subst e1;cases v<;>rfl
def Wf(prog:Program)(w:World)(i:Int)(t:Tok):(aL prog w).is (.inl i) (.int i t)=true:=UJ i t
def Wj(prog:Program)(w:World)(x:Str)(t:Tok):(aL prog w).is (.inr x) (.str x t)=true:=Vg x t
inductive V where
 |non|bl(b:Bool)|int(i:Int)|str(x:Str)|byt(b:Array UInt8)|flt(b:UInt64)|ref(a:Addr)|ty(n:String)
 deriving DecidableEq
def zP:V->Value->Prop
 |.non,u=>u=Value.none
 |.bl b,u=>u=Value.bool b
 |.int i,u=>∃t,u=Value.int i t
 |.str x,u=>∃t,u=Value.str x t
 |.byt b,u=>∃t,u=Value.bytes b t
 |.flt b,u=>∃t,u=Value.float b t
 |.ref a,u=>u=Value.ref a
 |.ty n,u=>u=Value.type n
abbrev zX:List V->List Value->Prop:=Paired zP
def zX.length(r:zX xs us):xs.length=us.length:=Paired.length r
def zX.get:∀{xs:List V}{us:List Value}{i:Nat}{x:V},zX xs us->xs[i]?=⇑x->∃u,us[i]?=⇑u/\zP x u
 |_,_,_,_,.nil,e=>by simp at e
 |_,_,0,_,.cons r _,e=>by simp at e;subst e;show#[_,rfl,r]
 |_,_,i+1,x,.cons _ t,e=>by let#[u,h1,h2]:=zX.get (i:=i) (x:=x) t ↑e;show#[u,↑h1,h2]
def zX.set(r:zP x u):∀{xs:List V}{us:List Value}(i:Nat),zX xs us->zX (xs.set i x) (us.set i u)
 |_,_,_,.nil=>.nil
 |_,_,0,.cons _ t=>.cons r t
 |_,_,i+1,.cons q t=>.cons q (zX.set r i t)
def zX.append:∀{xs ys:List V}{us v:List Value},zX xs us->zX ys v->zX (xs++ys) (us++v):=by
 intro xs ys us v r s;induction r with
 |nil=>show s
 |cons r _ F=>show .cons r F
def zX.take:∀{xs:List V}{us:List Value}(n:Nat),zX xs us->zX (xs.take n) (us.take n)
 |_,_,0,_=>.nil
 |_,_,_+1,.nil=>.nil
 |_,_,n+1,.cons r t=>.cons r (zX.take n t)
def zX.drop:∀{xs:List V}{us:List Value}(n:Nat),zX xs us->zX (xs.drop n) (us.drop n)
 |_,_,0,r=>r
 |_,_,_+1,.nil=>.nil
 |_,_,n+1,.cons _ t=>zX.drop n t
def gW:Option V->Option Value->Prop
 |some v,some u=>zP v u
 |none,none=>True
 |_,_=>False
@[inline]def KV{κ:Type}:List (κ×V)->List (κ×Value)->Prop:=Paired λ(p:κ×V)(q:κ×Value)=>p.1=q.1/\zP p.2 q.2
def kV:bV->V
 |.inl i=>.int i
 |.inr x=>.str x
inductive HO where
 |lst(xs:List V)
 |tup(xs:List V)
 |dK(z5:List (bV×V))|dT(z5:List (List bV×V))
 |set(vs:List V)
 |ins(C dx:Addr)(fs:List (Str×V))
 |own(x:Addr)
 |xd(fs:List (Str×V))
 |met(f x:Addr)
 |rng(lo hi:Int)
 |frz(o:Obj)(u:HO)
 |tbl(ps:Array Value)
 |ext(φ:Heap->Prop)
abbrev Hp:=Addr->Option HO
def upd(H:Hp)(a:Addr)(o:HO):Hp:=λb=>if b=a then ⇑o else H b
def AV:upd H a o a=⇑o:=by unfold upd;rw[zj rfl]
def Al(h:b≠a):upd H a o b=H b:=by unfold upd;rw[zk h]
def JP{H:Hp}(h:H a=⇑o)(h':H b=⇑u)(d:o≠u):a≠b:=by grind
def BF{H:Hp}(h:H a=⇑o)(h':H b=none):a≠b:=by intro e;subst e;rw[h]at h';cases h'
section
variable(P:Program)(w:World)
def kX(h:Heap)(a:Addr):Prop:=∀o,h.get? a=⇑o->o.dict=none
def kX.new{h:Heap}{c:Value}{x:Data}{n:Addr}(e:n=h.objs.size)(v:(h.push {cls:=c,data:=x}).get? h.objs.size=some {cls:=c,data:=x}):kX (h.push {cls:=c,data:=x}) n:=λo q=>by subst e;rw[v]at q;cases q;rfl
def zZ(H:Hp)(h:Heap)(a:Addr):HO->Prop
 |.lst xs=>xs.length<=sizeLine/\∃(F:List Value)(n:Nat),zX xs F/\h.get? a=some {cls:=.type "list",data:=.seq F.toArray n}
 |.tup xs=>(xs.length<=sizeLine/\kX h a)/\∃F:List Value,zX xs F/\IsTup h a F.toArray
 |.dK z5=>z5.length<=sizeLine/\(a==sysModules)=false/\∃vs,KV z5 vs/\h.DictOf (aL P w) a vs
 |.dT z5=>z5.length<=sizeLine/\(a==sysModules)=false/\∃xs:List (List bV×Addr×Value),
  Paired (λ(p:List bV×V)(q:List bV×Addr×Value)=>p.1=q.1/\H q.2.1=⇑(.tup (p.1.map kV))/\zP p.2 q.2.2) z5 xs/\
  ∃o es ep,h.get? a=⇑o/\o.ExactDict/\o.data=.dict es ep/\es.toList=xs.map (entryOfKey (tupleKind (aL P w)))/\(xs.map (·.1)).Nodup
 |.set vs=>vs.length<=151/\((vs=[]/\h.get? a=⇑(ST.freshSet (ST.ldOf w)))\/(vs≠[]/\∃xs:List (bV×Value),vs.Perm (xs.map λp=>kV p.1)/\ST.VSet (ST.ldOf w) (aL P w) h a xs)\/vs≠[]/\∃xs:List (List bV×Addr),vs.Perm (xs.map λp=>V.ref p.2)/\(∀p∈xs,H p.2=⇑(.tup (p.1.map kV)))/\ST.TRaw (ST.ldOf w) (tupleKind (aL P w)) h a xs)
 |.ins C dx fs=>H dx=⇑(.own a)/\fs.length<=1000/\dx≠a/\h.get? a=⇑(W.instObj C dx)/\
  ∃G,h.Ns1 dx G/\(∀f,gW (fs.lookup f) (G f))/\PySem.Within G (fs.map (·.1))
 |.own _=>∃o,h.get? a=⇑o
 |.xd fs=>∃G,h.Ns1 a G/\∀f,gW (fs.lookup f) (G f)
 |.rng lo hi=>∃t u v,h.get? a=some {cls:=.type "range",data:=.fields [.int lo t,.int hi u,.int 1 v].toArray}
 |.frz o u=>h.get? a=⇑o/\zZ H h a u
 |.tbl ps=>h.get? a=some {cls:=.none,data:=.fields ps}
 |.met f x=>h.get? a=⇑(W.methodObj (.ref f) (.ref x))
 |.ext φ=>φ h/\(∃o,h.get? a=⇑o)/\∀h1 h2:Heap,φ h1->(∀o,h1.get? a=⇑o->h2.get? a=⇑o)->φ h2
def eV(H:Hp)(h:Heap):Prop:=∀a o,H a=⇑o->zZ P w H h a o
end
section
variable{P:Program}{w:World}{H H':Hp}{h h':Heap}{a:Addr}{o:HO}
def zZ.lt(x:zZ P w H h a o):a<h.objs.size:=by
 cases o with
 |lst xs=>let#[_,_,_,_,e]:=x;show qe e
 |tup xs=>let#[_,_,_,p]:=x;show p.lt
 |dK v=>let#[_,_,_,_,o,_,_,e,_]:=x;show qe e
 |dT v=>let#[_,_,_,_,o,_,_,e,_]:=x;show qe e
 |set F=>
  rcases x with⟨_,⟨_,e⟩|⟨_,_,_,_,_,_,_,e,_⟩|⟨_,_,_,_,_,_,_,_,e,_⟩⟩
  .show qe e
  .show qe e
  .show qe e
 |ins C dx fs=>let#[_,_,_,e,_]:=x;show qe e
 |own y=>let#[_,e]:=x;show qe e
 |xd fs=>let#[_,#[_,_,_,e,_],_]:=x;show qe e
 |rng lo hi=>let#[_,_,_,e]:=x;show qe e
 |frz G u=>let#[e,_]:=x;show qe e
 |tbl ps=>show qe (show h.get? a=⇑_ from x)
 |met f y=>show qe (show h.get? a=⇑_ from x)
 |ext φ=>let#[_,#[_,e],_]:=x;show qe e
def Paired.mapP:∀{l₁:List α}{l₂:List β},Paired F l₁ l₂->(∀a b,F a b->G a b)->Paired G l₁ l₂
 |_,_,.nil,_=>.nil
 |_,_,.cons r t,f=>.cons (f _ _ r) (Paired.mapP t f)
def zZ.stay(x:zZ P w H h a o)(k:∀b u,(b=a\/H b=⇑(.own a))->h.get? b=⇑u->h'.get? b=⇑u)
  (ho:∀b,H b=⇑(.own a)->H' b=⇑(.own a))(Z:∀b xs,H b=⇑(.tup xs)->H' b=⇑(.tup xs)):zZ P w H' h' a o:=by
 induction o with
 |lst xs=>let#[z,G,n,r,e]:=x;show#[z,G,n,r,k _ _ (.inl rfl) e]
 |tup xs=>let#[#[z,nd],G,r,F,e,c]:=x;show#[#[z,λo q=>by rw[k _ _ (.inl rfl) e]at q;cases q;show nd _ e],G,r,F,k _ _ (.inl rfl) e,c]
 |dK M=>let#[z,y,Y,r,F,es,ep,e,c]:=x;show#[z,y,Y,r,F,es,ep,k _ _ (.inl rfl) e,c]
 |dT M=>let#[z,y,xs,r,F,es,ep,e,c]:=x;show#[z,y,xs,Paired.mapP r λp q z=>#[z.1,Z _ _ z.2.1,z.2.2],F,es,ep,k _ _ (.inl rfl) e,c]
 |set Y=>
  rcases x with⟨z,⟨n,e⟩|⟨n,xs,p,F,es,ep,t,e,c⟩|⟨n,xs,p,hx,F,es,ep,t,e,c⟩⟩
  .show#[z,.inl #[n,k _ _ (.inl rfl) e]]
  .show#[z,.inr (.inl #[n,xs,p,F,es,ep,t,k _ _ (.inl rfl) e,c])]
  .show#[z,.inr (.inr #[n,xs,p,λq hq=>Z _ _ (hx q hq),F,es,ep,t,k _ _ (.inl rfl) e,c])]
 |ins C dx fs=>let#[d,z,ne,e,L,#[J,es,ep,e2,c],r]:=x;show#[ho _ d,z,ne,k _ _ (.inl rfl) e,L,#[J,es,ep,k _ _ (.inr d) e2,c],r]
 |own y=>let#[F,e]:=x;show#[F,k _ _ (.inl rfl) e]
 |xd fs=>let#[L,#[J,es,ep,e,c],r]:=x;show#[L,#[J,es,ep,k _ _ (.inl rfl) e,c],r]
 |rng lo hi=>let#[t,u,v,e]:=x;show#[t,u,v,k _ _ (.inl rfl) e]
 |frz F u ih=>let#[e,q]:=x;show#[k _ _ (.inl rfl) e,ih q]
 |tbl ps=>have e:h.get? a=some {cls:=.none,data:=.fields ps}:=x;show h'.get? a=some {cls:=.none,data:=.fields ps};show k a _ (.inl rfl) e
 |met f y=>have e:h.get? a=⇑(W.methodObj (.ref f) (.ref y)):=x;show h'.get? a=⇑(W.methodObj (.ref f) (.ref y));show k a _ (.inl rfl) e
 |ext φ=>let#[p,#[o,e],st]:=x;show#[st _ _ p λo q=>k _ _ (.inl rfl) q,#[o,k _ _ (.inl rfl) e],st]
def eV.lt(x:eV P w H h)(e:H a=⇑o):a<h.objs.size:=(x a o e).lt
def eV.fresh(x:eV P w H h)(e:h.objs.size<=a):H a=none:=by
 cases q:H a with
 |none=>rfl
 |some u=>show absurd (lt_of_lt_of_le (x.lt q) e) (lt_irrefl _)
def eV.kept(x:eV P w H h)(k:∀b u,h.get? b=⇑u->h'.get? b=⇑u):eV P w H h':=λa o e=>(x a o e).stay (λb u _ q=>k b u q) (λ_ q=>q) λ_ _ q=>q
def eV.laid(x:eV P w H h)(k:∀b u,h.get? b=⇑u->h'.get? b=⇑u)(J:h.objs.size<=a)(new:zZ P w (upd H a o) h' a o):eV P w (upd H a o) h':=λb u e=>by
 let F:=x.fresh J;by_cases G:b=a
 .subst G;rw[AV]at e;cases e;show new
 .rw[Al G]at e;show(x b u e).stay (λc v _ q=>k c v q) (λc q=>by rw[Al (BF q F)];show q) λc xs q=>by rw[Al (BF q F)];show q
end
@[inline]def Rd(H:Hp)(a:Addr)(u:HO):Prop:=H a=some u\/∃o,H a=some (.frz o u)
def Rd.of(h:H a=⇑u):Rd H a u:=.inl h
def Rd.ok(r:Rd H a u)(x:eV P w H h):zZ P w H h a u:=by
 rcases r with r|⟨o,r⟩
 .show x a u r
 .obtain⟨_,q⟩:=x a _ r;show q
def ij:Option HO->Prop
 |some (.lst _)=>True
 |some (.dK _)=>True
 |some (.dT _)=>True
 |some (.set _)=>True
 |some (.ins _ _ _)=>True
 |some (.ext _)=>True
 |_=>False
section
variable{P:Program}{w:World}{H:Hp}{h h':Heap}{x e:Addr}{o':HO}
def eV.write(ok:eV P w H h)(J:ij (H x))(he:e=x\/H e=⇑(.own x))(k:∀b u,b≠e->h.get? b=⇑u->h'.get? b=⇑u)(L:∃u,h'.get? e=⇑u)
  (new:zZ P w (upd H x o') h' x o'):eV P w (upd H x o') h':=λb u q=>by
 let G:∀c y,H c=⇑(.own y)->c≠x:=λc y r z=>by subst z;rw[r]at J;show J
 let F:∀c xs,H c=⇑(.tup xs)->c≠x:=λc xs r z=>by subst z;rw[r]at J;show J
 by_cases Z:b=x
 .subst Z;rw[AV]at q;cases q;show new
 .rw[Al Z]at q;by_cases M:b=e
  .let Y:H b=⇑(.own x):=by grind
   rw[q]at Y;cases Y;let#[v,hv]:=L;show#[v,by rw[M];show hv]
  .show(ok b u q).stay (λc v hc r=>k c v ?_ r) (λc r=>by rw[Al (G c b r)];show r) λc xs r=>by rw[Al (F c xs r)];exact r
   grind
end
structure Un(fs ex:List Addr)(H H':Hp)(h h':Heap):Prop where
 keep:∀b o,h.get? b=⇑o->H b=none->b∉fs->b∉ex->h'.get? b=⇑o
 slot:∀b o,h.get? b=⇑o->H b=none->b∈fs->b∉ex->∃sl,h'.get? b=some {o with slots:=sl}
 free:∀b o,h.get? b=⇑o->H b=none->b∉ex->H' b=none
 there:∀b o,h.get? b=⇑o->b∉ex->∃o',h'.get? b=⇑o'
 tups:∀b xs,H b=⇑(.tup xs)->H' b=⇑(.tup xs)
 frzs:∀b o u,H b=⇑(.frz o u)->H' b=⇑(.frz o u)
 tbls:∀b ps,H b=⇑(.tbl ps)->∃more,H' b=⇑(.tbl (ps++more))
section
variable{fs fs' ex ex':List Addr}{H H1 H2:Hp}{h h1 h2 h':Heap}{a x e:Addr}{o:HO}
def Un.any(u:Un fs ex H H1 h h1)(q:h.get? b=⇑v)(n:H b=none)(F:b∉ex):∃J,h1.get? b=some {v with slots:=J}:=by
 by_cases G:b∈fs
 .show u.slot b v q n G F
 .show#[v.slots,u.keep b v q n G F]
def Un.kept(k:∀b u,h.get? b=⇑u->h'.get? b=⇑u):Un fs ex H H h h':=
 #[λb v q _ _ _=>k b v q,λb v q _ _ _=>#[v.slots,k b v q],λ_ _ _ n _=>n,λb v q _=>#[v,k b v q],λ_ _ q=>q,λ_ _ _ q=>q,λ_ ps q=>#[#[],by rw[q];simp]]
def Un.refl:Un fs ex H H h h:=Un.kept λ_ _ q=>q
def Un.laid(k:∀b u,h.get? b=⇑u->h'.get? b=⇑u)(hp:h.objs.size<=a)(hn:H a=none):Un fs ex H (upd H a o) h h' where
 keep:=λb u q _ _ _=>k b u q
 slot:=λb u q _ _ _=>#[u.slots,k b u q]
 free:=λb u q n _=>by rw[Al (ne_of_lt (lt_of_lt_of_le (qe q) hp))];show n
 there:=λb u q _=>#[u,k b u q]
 tups:=λb xs q=>by rw[Al (BF q hn)];show q
 frzs:=λb u xs q=>by rw[Al (BF q hn)];show q
 tbls:=λb ps q=>#[#[],by rw[Al (BF q hn),q];simp]
def Un.write(v:ij (H x))(M:e=x\/H e=⇑(.own x))(k:∀b u,b≠e->h.get? b=⇑u->h'.get? b=⇑u)(L:∃u,h'.get? e=⇑u):Un fs ex H (upd H x o) h h':=by
 let J:∀b,H b=none->b≠x:=λb n z=>by subst z;rw[n]at v;show v
 let G:∀b,H b=none->b≠e:=λb n z=>by grind
 let F:∀b u,H b=⇑u->¬ij ⇑u->b≠x:=λb u q nm z=>by subst z;rw[q]at v;show nm v
 refine⟨λb u q n _ _=>k b u (G b n) q,λb u q n _ _=>#[u.slots,k b u (G b n) q],λb u q n _=>by rw[Al (J b n)];exact n,λb u q _=>?_,
  λb xs q=>by rw[Al (F b _ q λz=>z)];show q,λb u xs q=>by rw[Al (F b _ q λz=>z)];show q,λb ps q=>#[#[],by rw[Al (F b _ q λz=>z),q];simp]⟩
 grind
end
def ke(h:Heap)(H:Hp):List Addr:=(List.range h.objs.size).filter λa=>(H a).isSome
def iY(h:Heap)(H:Hp):Heap:=W.hideAll h (ke h H)
def UZ(h:Heap)(H:Hp):(iY h H).objs.size=h.objs.size:=W.hideAll_size _ _
def Sg(e:h.get? b=⇑o)(n:H b=none):(iY h H).get? b=⇑o:=
 W.hideAll_get _ e λv=>by let q:(H b).isSome=true:=(mem_filter.mp v).2;rw[n]at q;simp at q
def Qj(e:(iY h H).get? b=⇑o):h.get? b=⇑o/\H b=none:=by
 let v:h.get? b=⇑o:=W.of_hideAll (ke h H) e;show#[v,?_];cases q:H b with
 |none=>rfl
 |some x=>grind[ke,mem_filter,mem_range,Heap.lt_size,iY,W.hideAll_none]
def mJ(g h:Heap)(L:Addr):List (Addr×Obj):=(List.range h.objs.size).filterMap λa=>if a=L\/(g.get? a).isSome=true then none else(h.get? a).map λo=>(a,o)
def Wg(h1:a≠L)(h2:g.get? a=none)(v:h.get? a=⇑o):(a,o)∈mJ g h L:=
 mem_filterMap.mpr #[a,qM.mpr (qe v),by simp[h1,h2,v]]
def rest(g h:Heap)(L d:Addr):List (Addr×Obj):=(mJ g h L).filter λp=>↥(p.1≠d)
theorem zcY(h1:a≠L)(h2:g.get? a=none)(F:h.get? a=⇑o)(v:a≠d):(a,o)∈rest g h L d:=
 mem_filter.mpr #[Wg h1 h2 F,qU v]
structure Mod(K:W.Frag)(mg:Str->Option Value)(base:Heap):Prop where
 kin:K.In base
 glob:base.Ns mainGlobals mg
 blt:∃mb,base.Ns builtinsNs mb/\∀x:Str,x≠"__name__"->mb x=bootBuiltins x
 nolimit:base.NoLimit
structure Cx where
 prog:Program
 w:World
 K:W.Frag
 mg:Str->Option Value
 base:Heap
 A:Around
 N:List Str
 s₀:Shared
 H₀:Hp
 env:Env
 outer:List Env
 stack:List Env
 ex:List Addr
 fn:Str->Bool
 calm:Bool
 pn:List (Addr×Obj)
 xe:zF
def oW(l:List Env):List Addr:=l.filterMap (·.frame)
abbrev Cx.fs(X:Cx):List Addr:=oW X.outer
def gu(v:Scope)(x:Str):Prop:=v.names.lookup x=⇑.local\/v.names.lookup x=⇑.cell\/v.names.lookup x=⇑.free
@[inline]def Loc(v:Scope)(x:Str):Prop:=v.names.lookup x=some .local\/v.names.lookup x=some .cell
@[inline]def Look(env:Env)(h:Heap)(m:Str->Option Value)(x:Str)(u:Value):Prop:=
 (env.kindOf x=⇑.local/\m x=⇑u)\/((env.kindOf x=⇑.cell\/env.kindOf x=⇑.free)/\∃c,env.cells.lookup x=⇑c/\h.IsCell c ⇑u)
structure Cx.Ok(X:Cx):Prop where
 mod:Mod X.K X.mg X.base
 kind:X.env.scope.kind=.function
 glob:X.env.globals=mainGlobals
 blt:X.env.builtins=builtinsNs
 above:X.s₀.heap.objs.size<=X.env.locals
 inj:∀x y c,X.env.cells.lookup x=⇑c->X.env.cells.lookup y=⇑c->x=y
 has:∀x,(X.env.kindOf x=⇑.cell\/X.env.kindOf x=⇑.free)->∃c,X.env.cells.lookup x=⇑c
 cab:∀x c,X.fn x=true->X.env.cells.lookup x=⇑c->X.s₀.heap.objs.size<=c
 hd:X.calm=true->X.A.handled=none
 frames:X.A.frames=⇑X.stack
 stk:X.stack=X.outer\/(X.stack=X.env::X.outer/\X.env.frame=⇑X.env.locals)
 exf:∀b∈X.ex,b≠X.env.locals/\∀x c,X.env.cells.lookup x=⇑c->c≠b
 bs:∀b o,X.base.get? b=⇑o->X.s₀.heap.get? b=⇑o/\X.H₀ b=none
 bsz:X.base.objs.size<=X.s₀.heap.objs.size
 noex:∀b o,X.base.get? b=⇑o->b∉X.ex
 exfs:∀b∈X.ex,b∉X.fs
 funs:X.s₀.heap.FunFrames X.base X.outer
 frf:∀b∈X.fs,X.H₀ b=none
structure Inv(X:Cx)(z4:List (Addr×Obj))(σ:List (Option V))(H:Hp)(s:Shared):Prop where
 ok:X.Ok
 os:s.os=X.s₀.os
 bare:AllBare s.gens
 base:Un X.fs X.ex X.H₀ H X.s₀.heap s.heap
 loc:∃m,s.heap.Ns X.env.locals m/\∀(i:Nat)(x:Str)(v:V),X.N[i]?=⇑x->σ[i]?=⇑⇑v->gu X.env.scope x->∃u,zP v u/\Look X.env s.heap m x u
 cell:∀x c,X.env.cells.lookup x=⇑c->∃v,s.heap.IsCell c v
 free:H X.env.locals=none
 freeC:∀x c,X.env.cells.lookup x=⇑c->H c=none
 pin:∀p∈X.pn++z4,s.heap.get? p.1=⇑p.2/\H p.1=none/\p.1≠X.env.locals/\p.1∉X.fs/\∀v,p.2.data≠.cell v
 hok:eV X.prog X.w H s.heap
 len:σ.length=X.N.length
section
variable{X:Cx}{z4:List (Addr×Obj)}{σ:List (Option V)}{H H':Hp}{s:Shared}{h':Heap}
def Cx.Ok.nofr(ok:X.Ok)(e:X.base.get? b=⇑o):b∉X.fs:=λv=>by let:=(ok.funs.mem v).1;rw[e]at this;cases this
def Inv.bs(I:Inv X z4 σ H s):∀b o,X.base.get? b=⇑o->s.heap.get? b=⇑o/\H b=none:=λb o e=>#[I.base.keep b o (I.ok.bs b o e).1 (I.ok.bs b o e).2 (I.ok.nofr e) (I.ok.noex b o e),I.base.free b o (I.ok.bs b o e).1 (I.ok.bs b o e).2 (I.ok.noex b o e)]
def Inv.bk(I:Inv X z4 σ H s):∀b o,X.base.get? b=⇑o->s.heap.get? b=⇑o:=λb o e=>(I.bs b o e).1
def Inv.mod(I:Inv X z4 σ H s):Mod X.K X.mg X.base:=I.ok.mod
def Inv.kIn(I:Inv X z4 σ H s):X.K.In s.heap:=I.ok.mod.kin.keeps I.bk
def Inv.fr(I:Inv X z4 σ H s):∃m,Fr X.base X.env.locals s.heap m:=
 let⟨m,hn,_⟩:=I.loc
 #[m,hn,I.bk,le_trans I.ok.bsz I.ok.above]
def Inv.lt(I:Inv X z4 σ H s):X.env.locals<s.heap.objs.size:=let⟨_,hn,_⟩:=I.loc;hn.lt
def Inv.sz(I:Inv X z4 σ H s):X.s₀.heap.objs.size<=s.heap.objs.size:=le_trans I.ok.above (le_of_lt I.lt)
def Inv.nofs(I:Inv X z4 σ H s)(h:s.heap.objs.size<=a):a∉X.fs:=λF=>by let#[_,o,v,_]:=I.ok.funs.mem F;show absurd (lt_of_lt_of_le (qe v) (le_trans I.sz h)) (lt_irrefl _)
def Inv.cne(I:Inv X z4 σ H s):∀x c,X.env.cells.lookup x=⇑c->c≠X.env.locals:=λx c e z=>by let#[v,o,J,L]:=I.cell x c e;let#[m,#[o',es,ep,F,G,_],_]:=I.loc;rw[z,F]at J;cases J;rw[G]at L;cases L
def Inv.funs(I:Inv X z4 σ H s):s.heap.FunFrames X.base X.outer:=by
 have all:∀(l:List Env),(∀b∈oW l,b∈X.fs)->X.s₀.heap.FunFrames X.base l->s.heap.FunFrames X.base l:=by
  intro l;induction l with
  |nil=>intro _ _;trivial
  |cons h1 r M=>intro J hl;let#[hk,#[L,o,v,hn,Z,hd],Y]:=hl;let G:L∈X.fs:=J L (by unfold oW;rw[filterMap_cons,v];show qm);let#[sl,e]:=I.base.slot L o Z (I.ok.frf L G) G λz=>I.ok.exfs L z G;show#[hk,#[L,_,v,hn,e,hd],M (λb F=>J b (by unfold oW;rw[filterMap_cons,v];show qk _ F)) Y]
 show all X.outer (λ_ F=>F) I.ok.funs
def Inv.stack(I:Inv X z4 σ H s):s.heap.FunFrames X.base X.stack:=by
 rcases I.ok.stk with e|⟨e,F⟩
 .rw[e];show I.funs
 .rw[e];let#[m,v,_]:=I.loc;show .cons (by rw[I.ok.kind];decide) F v ?_ I.funs;show Heap.get?_none_of_le (le_trans I.ok.bsz I.ok.above)
def Inv.stkSub(I:Inv X z4 σ H s):∀b∈oW X.stack,b∈X.env.locals::X.fs:=λb v=>by
 rcases I.ok.stk with e|⟨e,F⟩
 .rw[e]at v;show qk _ v
 .rw[e]at v;unfold oW at v;rw[filterMap_cons,F]at v;show v
def Inv.stkFree(I:Inv X z4 σ H s):∀b∈oW X.stack,H b=none:=λb v=>by
 rcases qC.mp (I.stkSub b v)with e|v
 .rw[e];show I.free
 .obtain⟨_,o,F,_⟩:=I.ok.funs.mem v;show I.base.free b o F (I.ok.frf b v) λz=>I.ok.exfs b z v
def Inv.step{ch:List Addr}(I:Inv X z4 σ H s)
  (L:∀b∈ch,(b∈X.ex\/X.s₀.heap.get? b=none)/\b≠X.env.locals/\(∀x c,X.env.cells.lookup x=⇑c->c≠b)/\∀p∈X.pn++z4,p.1≠b)
  (J:∀b o,b≠X.env.locals->b∉X.fs->b∉ch->s.heap.get? b=⇑o->H b=none->h'.get? b=⇑o)
  (slot:∀b o,b≠X.env.locals->b∈X.fs->b∉ch->s.heap.get? b=⇑o->H b=none->∃sl,h'.get? b=some {o with slots:=sl})(free:∀b o,b∉ch->s.heap.get? b=⇑o->H b=none->H' b=none)
  (there:∀b o,b∉ch->s.heap.get? b=⇑o->∃o',h'.get? b=⇑o')
  (h1:∀b xs,H b=⇑(.tup xs)->H' b=⇑(.tup xs))(h5:∀b o u,H b=⇑(.frz o u)->H' b=⇑(.frz o u))(h2:∀b ps,H b=⇑(.tbl ps)->∃h4,H' b=⇑(.tbl (ps++h4)))
  (ns:∀m,s.heap.Ns X.env.locals m->h'.Ns X.env.locals m)(h7:eV X.prog X.w H' h')(hg:AllBare g'):
  Inv X z4 σ H' {s with heap:=h',gens:=g',drawn:=d',toks:=t'}:=by
 have h3:∀b o,X.s₀.heap.get? b=⇑o->b≠X.env.locals:=λb o e=>ne_of_lt (lt_of_lt_of_le (qe e) I.ok.above);let Y:∀b o,X.s₀.heap.get? b=⇑o->b∉X.ex->b∉ch:=λb o e F hb=>by
  rcases(L b hb).1 with z|z
  .show F z
  .rw[z]at e;cases e
 have M:∀x c,X.env.cells.lookup x=⇑c->∀v,s.heap.IsCell c v->h'.IsCell c v:=λx c e v⟨o,ho,hd⟩=>by
  let G:c∉ch:=λz=>(L c z).2.2.1 x c e rfl;by_cases hc:c∈X.fs
  .obtain⟨sl,q⟩:=slot c o (I.cne x c e) hc G ho (I.freeC x c e);show#[_,q,hd]
  .show#[o,J c o (I.cne x c e) hc G ho (I.freeC x c e),hd]
 show#[I.ok,I.os,hg,#[λb o e n hb F=>?_,λb o e n hb F=>?_,λb o e n F=>?_,λb o e F=>?_,λb xs e=>h1 b xs (I.base.tups b xs e),λb o xs e=>h5 b o xs (I.base.frzs b o xs e),λb ps e=>?_],?_,λx c e=>?_,?_,λx c e=>?_,λp hp=>?_,h7,I.len]
 .show J b o (h3 b o e) hb (Y b o e F) (I.base.keep b o e n hb F) (I.base.free b o e n F)
 .obtain⟨sl,Z⟩:=I.base.slot b o e n hb F;let#[h6,e2]:=slot b _ (h3 b o e) hb (Y b o e F) Z (I.base.free b o e n F);show#[h6,e2]
 .obtain⟨o',Z⟩:=I.base.there b o e F;show free b o' (Y b o e F) Z (I.base.free b o e n F)
 .obtain⟨o',Z⟩:=I.base.there b o e F;show there b o' (Y b o e F) Z
 .obtain⟨m1,Z⟩:=I.base.tbls b ps e;let#[m2,e2]:=h2 b _ Z;show#[m1++m2,by rw[e2,Array.append_assoc]]
 .obtain⟨m,hn,hl⟩:=I.loc;show#[m,ns m hn,λi x v Z e2 e3=>?_];let#[u,r,l]:=hl i x v Z e2 e3;show#[u,r,?_];rcases l with l|⟨k,c,e,z⟩
  .show .inl l
  .show .inr #[k,c,e,M x c e _ z]
 .obtain⟨v,z⟩:=I.cell x c e;show#[v,M x c e v z]
 .obtain⟨m,⟨o,_,_,ho,_⟩,_⟩:=I.loc;show free _ o (λz=>(L _ z).2.1 rfl) ho I.free
 .obtain⟨v,o,ho,hd⟩:=I.cell x c e;show free c o (λz=>(L c z).2.2.1 x c e rfl) ho (I.freeC x c e)
 .obtain⟨e,n,ne,nf,d⟩:=I.pin p hp;let G:p.1∉ch:=λz=>(L p.1 z).2.2.2 p hp rfl;show#[J p.1 p.2 ne nf G e n,free p.1 p.2 G e n,ne,nf,d]
def Inv.un(I:Inv X z4 σ H s)(u:Un X.fs [] H H' s.heap h')(F:eV X.prog X.w H' h'):Inv X z4 σ H' {s with heap:=h',toks:=t'}:=by let#[m,#[o,es,ep,M,r],_]:=id I.loc;let#[sl,hL]:=u.any M I.free (by simp);show I.step (g':=s.gens) (d':=s.drawn) (ch:=[]) (λ_ z=>nomatch z) (λb o _ G _ e n=>u.keep b o e n G (by simp)) (λb o _ G _ e n=>u.slot b o e n G (by simp)) (λb o _ e n=>u.free b o e n (by simp)) (λb o _ e=>u.there b o e (by simp)) u.tups u.frzs u.tbls (λm' Z=>by let#[o',J,L,v,Y]:=Z;rw[M]at v;cases v;show#[_,J,L,hL,Y]) F I.bare
def Inv.call(I:Inv X z4 σ H s)(u:Un (oW X.stack) ch H H' s.heap h')(J:eV X.prog X.w H' h')(hg:AllBare g')
  (G:∀b∈ch,(b∈X.ex\/X.s₀.heap.get? b=none)/\b≠X.env.locals/\(∀x c,X.env.cells.lookup x=⇑c->c≠b)/\∀p∈X.pn++z4,p.1≠b):
  Inv X z4 σ H' {s with heap:=h',gens:=g',drawn:=d',toks:=t'}:=by
 let#[m,#[o,es,ep,Z,r],_]:=id I.loc;let#[sl,L]:=u.any Z I.free λz=>(G _ z).2.1 rfl;show I.step (ch:=ch) G (λb o L hb v e n=>u.keep b o e n (λz=>(qC.mp (I.stkSub b z)).elim L hb) v) (λb o _ _ v e n=>u.any e n v) (λb o v e n=>u.free b o e n v) (λb o v e=>u.there b o e v) u.tups u.frzs u.tbls (λm' hm=>by let#[o',M,Y,F,r']:=hm;rw[Z]at F;cases F;show#[_,M,Y,L,r']) J hg
def Inv.turned(I:Inv X z4 σ H s)(k:∀b o,b≠F->s.heap.get? b=⇑o->h'.get? b=⇑o)(hn:H F=none)(L:F≠X.env.locals)
  (h1:F∈X.ex\/X.s₀.heap.get? F=none)(h2:∀x c,X.env.cells.lookup x=⇑c->c≠F)(h3:∀p∈X.pn++z4,p.1≠F):Inv X z4 σ H {s with heap:=h',toks:=t'}:=by
 let J:∀b u,H b=⇑u->b≠F:=λb u e z=>by rw[z,hn]at e;cases e
 refine I.step (g':=s.gens) (d':=s.drawn) (ch:=[F]) (λb Z=>?_) (λb o _ _ G e _=>k b o (λz=>G (by simp[z])) e) (λb o _ _ G e _=>#[o.slots,k b o (λz=>G (by simp[z])) e]) (λ_ _ _ _ n=>n)
  (λb o G e=>#[o,k b o (λz=>G (by simp[z])) e]) (λ_ _ e=>e) (λ_ _ _ e=>e) (λb ps e=>#[#[],by rw[e];simp]) (λm Y=>?_) (λb u e=>?_) I.bare
 .let e:b=F:=by simpa using Z
  subst e;show#[h1,L,h2,h3]
 .obtain⟨o,es,ep,M,r⟩:=Y;show#[o,es,ep,k _ o (Ne.symm L) M,r]
 .show(I.hok b u e).stay (λc v G q=>k c v ?_ q) (λ_ q=>q) λ_ _ q=>q;rcases G with z|z
  .rw[z];show J b u e
  .show J c _ z
def Inv.tok(I:Inv X z4 σ H s)(t:Nat):Inv X z4 σ H {s with toks:=t}:=I.un (h':=s.heap) (t':=t) Un.refl I.hok
def Inv.kept(I:Inv X z4 σ H s)(k:∀b u,s.heap.get? b=⇑u->h'.get? b=⇑u):Inv X z4 σ H {s with heap:=h',toks:=t'}:=I.un (Un.kept k) (I.hok.kept k)
def Inv.laid(I:Inv X z4 σ H s)(k:∀b u,s.heap.get? b=⇑u->h'.get? b=⇑u)(v:s.heap.objs.size<=a)(new:zZ X.prog X.w (upd H a o) h' a o):
  Inv X z4 σ (upd H a o) {s with heap:=h',toks:=t'}:=I.un (Un.laid k v (I.hok.fresh v)) (I.hok.laid k v new)
def Inv.write(I:Inv X z4 σ H s)(F:ij (H x))(G:e=x\/H e=⇑(.own x))(k:∀b u,b≠e->s.heap.get? b=⇑u->h'.get? b=⇑u)(v:∃u,h'.get? e=⇑u)
  (new:zZ X.prog X.w (upd H x o) h' x o):Inv X z4 σ (upd H x o) {s with heap:=h',toks:=t'}:=I.un (Un.write F G k v) (I.hok.write F G k v new)
def Inv.pins_of(I:Inv X z4 σ H s)(h:∀p∈pins',s.heap.get? p.1=⇑p.2/\H p.1=none/\p.1≠X.env.locals/\p.1∉X.fs/\∀v,p.2.data≠.cell v):Inv X pins' σ H s:=
 #[I.ok,I.os,I.bare,I.base,I.loc,I.cell,I.free,I.freeC,λp F=>(qz.mp F).elim (λz=>I.pin p (qj _ z)) (h p),I.hok,I.len]
def EA{N:List Str}(v:N.Nodup){i j:Nat}(a:N[i]?=⇑x)(b:N[j]?=⇑x):i=j:=by let#[h1,G]:=qg.mp a;let#[h2,F]:=qg.mp b;show(List.getElem_inj v).mp (G.trans F.symm)
def Inv.call'(I:Inv X z4 σ H s)(G:s'.os=s.os)(u:Un (oW X.stack) ch H H' s.heap s'.heap)(v:eV X.prog X.w H' s'.heap)(J:AllBare s'.gens)
  (F:∀b∈ch,(b∈X.ex\/X.s₀.heap.get? b=none)/\b≠X.env.locals/\(∀x c,X.env.cells.lookup x=⇑c->c≠b)/\∀p∈X.pn++z4,p.1≠b):Inv X z4 σ H' s':=by
 let#[h',g',d',t',o']:=s';let e:o'=s.os:=G;subst e;show I.call (g':=g') (t':=t') (d':=d') u v J F
end
abbrev XK:=Value->Option Addr->Hp->Prop
abbrev St:=List (Option V)
abbrev VK:=V->Hp->Prop
abbrev TE:=St->Hp->VK->Prop
abbrev TT:=St->Hp->(Bool->Hp->Prop)->Prop
abbrev TA:=St->Hp->(List V->Hp->Prop)->Prop
structure Ends where
 nx:St->Hp->Prop
 rt:VK
 bk:St->Hp->Prop:=λ_ _=>False
 ct:St->Hp->Prop:=λ_ _=>False
abbrev TS:=Ends->St->Hp->Prop
inductive EP(X:Cx)(z4:List (Addr×Obj))(σ:St)(Q:VK)(u:Value)(s':Shared):Prop
 |mk (v:V) (H':Hp):Inv X z4 σ H' s'->zP v u->Q v H'->EP X z4 σ Q u s'
inductive TP(X:Cx)(z4:List (Addr×Obj))(σ:St)(Q:Bool->Hp->Prop)(b:Bool)(s':Shared):Prop
 |mk (H':Hp):Inv X z4 σ H' s'->Q b H'->TP X z4 σ Q b s'
inductive AP(X:Cx)(z4:List (Addr×Obj))(σ:St)(Q:List V->Hp->Prop)(us:List Value)(s':Shared):Prop
 |mk (vs:List V) (H':Hp):Inv X z4 σ H' s'->zX vs us->Q vs H'->AP X z4 σ Q us s'
@[inline]def SP(X:Cx)(z4:List (Addr×Obj))(D:Ends)(f:Flow)(s':Shared):Prop:=
 match f with
 |.next=>∃σ' H',Inv X z4 σ' H' s'/\D.nx σ' H'
 |.brk=>∃σ' H',Inv X z4 σ' H' s'/\D.bk σ' H'
 |.cont=>∃σ' H',Inv X z4 σ' H' s'/\D.ct σ' H'
 |.ret u=>∃v σ' H',Inv X z4 σ' H' s'/\zP v u/\D.rt v H'
@[inline]def PE(X:Cx)(e:Expr)(t:TE):Prop:=
 ∀(z4:List (Addr×Obj))(s:Shared)(σ:St)(H:Hp)(Q:VK),Inv X z4 σ H s->t σ H Q->wpAny (model X.prog X.w) X.A (eval e X.env) (EP X z4 σ Q) X.xe s
@[inline]def PT(X:Cx)(e:Expr)(t:TT):Prop:=
 ∀(z4:List (Addr×Obj))(s:Shared)(σ:St)(H:Hp)(Q:Bool->Hp->Prop),Inv X z4 σ H s->t σ H Q->wpAny (model X.prog X.w) X.A (isTrue e X.env (eval e X.env)) (TP X z4 σ Q) X.xe s
@[inline]def PW(X:Cx)(e:Expr)(t:TT):Prop:=
 ∀(v:Sem Value)(z4:List (Addr×Obj))(s:Shared)(σ:St)(H:Hp)(Q:Bool->Hp->Prop),Inv X z4 σ H s->t σ H Q->wpAny (model X.prog X.w) X.A (isTrue e X.env v) (TP X z4 σ Q) X.xe s
def PW.pt(h:PW X e t):PT X e t:=h _
@[inline]def PA(X:Cx)(es:List Expr)(t:TA):Prop:=
 ∀(pos:Pos)(z4:List (Addr×Obj))(s:Shared)(σ:St)(H:Hp)(Q:List V->Hp->Prop),Inv X z4 σ H s->t σ H Q->wpAny (model X.prog X.w) X.A (spliced (backTo pos (starEach es X.env))) (AP X z4 σ Q) X.xe s
@[inline]def PS(X:Cx)(st:Stmt)(t:TS):Prop:=
 ∀(z4:List (Addr×Obj))(s:Shared)(σ:St)(H:Hp)(D:Ends),Inv X z4 σ H s->t D σ H->wpAny (model X.prog X.w) X.A (exec st X.env) (SP X z4 D) X.xe s
def jY(X:Cx)(st:List Stmt)(t:TS):Prop:=
 ∀(z4:List (Addr×Obj))(s:Shared)(σ:St)(H:Hp)(D:Ends),Inv X z4 σ H s->t D σ H->wpAny (model X.prog X.w) X.A (execs st X.env) (SP X z4 D) X.xe s
def Aj(h:wpAny M A t Q E s)(v:∀a s,Q a s->Q' a s):wpAny M A t Q' E s:=zz h v λ_ _ x=>x
section
variable{X:Cx}
def kg(i:Nat):TE:=λσ H Q=>∃v,σ[i]?=⇑⇑v/\Q v H
def tC(v:V):TE:=λ_ H Q=>Q v H
def OP(hN:X.N[i]?=⇑x)(Z:gu X.env.scope x)(L:autoParam ((x==("__debug__":Str))=false) dZ9)(M:autoParam ((x==("__classdict__":Str))=false) dZ9):PE X (.Name x pos) (kg i):=by
 intro z4 s σ H Q I h;let#[v,e,h]:=h;let#[m,hn,hl]:=I.loc;let#[u,r,l]:=hl i x v hN e Z;let J:EP X z4 σ Q u s:=#[v,H,I,r,h]
 rcases l with⟨G,hm⟩|⟨G,c,Y,F⟩
 .show wpAny_Name (wpAny_loadName_local I.ok.kind G hn hm J) L
 .rcases G with G|G
  .show wpAny_Name (wpAny_loadName_cell I.ok.kind G Y F J) L
  .show wpAny_Name (wpAny_loadName_free I.ok.kind G Y F J M) L
def Ph:PE X (.Constant (.int i) j pos) (tC (.int i)):=λ_ _ _ H _ I h=>wpAny_Constant_int #[.int i,H,I.tok _,#[_,rfl],h]
def Om:PE X (.Constant (.bool b) j pos) (tC (.bl b)):=λ_ _ _ H _ I h=>Constant_bool #[.bl b,H,I,rfl,h]
def OK:PE X (.Constant .none j pos) (tC .non):=λ_ _ _ H _ I h=>Constant_none #[.non,H,I,rfl,h]
def Pi:PE X (.Constant (.str x) j pos) (tC (.str x)):=λ_ _ _ H _ I h=>Calls.Constant_str #[.str x,H,I.tok _,#[_,rfl],h]
@[inline]def Gl(X:Cx)(x:Str):Prop:=X.env.kindOf x=some .globalImplicit
def Qf(I:Inv X z4 σ H s)(F:Gl X x)(v:X.mg x=⇑u)(h:Q u s)
  (G:autoParam ((x==("__debug__":Str))=false) dZ9):wpAny (model X.prog X.w) X.A (eval (.Name x pos) X.env) Q E s:=
 Calls.Name_function_global I.ok.kind F (Calls.loadGlobal_global (by rw[I.ok.glob];show I.mod.glob.keeps I.bk) v h) G
def BU(I:Inv X z4 σ H s)(G:Gl X x)(F:X.mg x=none)(v:bootBuiltins x=⇑u)(h:Q u s)
  (hn:autoParam (x≠"__name__") dZ9)(J:autoParam ((x==("__debug__":Str))=false) dZ9):wpAny (model X.prog X.w) X.A (eval (.Name x pos) X.env) Q E s:=by
 let#[L,h1,h2]:=I.mod.blt;show Calls.Name_function_global I.ok.kind G (Calls.loadGlobal_builtin (by rw[I.ok.glob];show I.mod.glob.keeps I.bk) F (by rw[I.ok.blt];show h1.keeps I.bk) ((h2 x hn).trans v) h) J
variable{a b:Expr}{ta tb:TE}{pos:Pos}
def CU(b:Expr)(h:v≠.In)(h2:v≠.NotIn):behindInMarks v b=false:=by
 let G:(v==CmpOp.In)=false:=by cases v<;>first|rfl|show absurd rfl h
 let F:(v==CmpOp.NotIn)=false:=by cases v<;>first|rfl|show absurd rfl h2
 cases b<;>first|rfl|(show(_&&(v==.In||v==.NotIn)&&_)=false;rw[G,F,Bool.or_false,Bool.and_false];rfl)
variable{tA tB':TT}{rest:List Expr}
def ky(t u:TT):TT:=λσ H Q=>t σ H λc H1=>if c=true then u σ H1 Q else Q false H1
def vq(t u:TT):TT:=λσ H Q=>t σ H λc H1=>if c=true then Q true H1 else u σ H1 Q
def km(t:TT):TT:=λσ H Q=>t σ H λc H1=>Q (!c) H1
def PV(v:PT X a tA):PW X (.BoolOp .And [a] pos) tA:=by
 intro F z4 s σ H Q I h;show isTrue_and (Aj (v z4 s σ H Q I h) λc G e=>?_);cases c with
 |true=>show isTrue_and_nil e
 |false=>show e
def OA(v:PT X a tA):PW X (.BoolOp .Or [a] pos) tA:=by
 intro F z4 s σ H Q I h;show isTrue_or (Aj (v z4 s σ H Q I h) λc G e=>?_);cases c with
 |false=>show isTrue_or_nil e
 |true=>show e
def OE(Y:PT X a tA)(M:PW X (.BoolOp .And (b::rest) pos) tB'):PW X (.BoolOp .And (a::b::rest) pos) (ky tA tB'):=by
 intro J z4 s σ H Q I h;show isTrue_and (Aj (Y z4 s σ H _ I h) λc L G=>?_);let#[H1,F,v]:=G;cases c with
 |true=>show M J z4 L σ H1 Q F v
 |false=>show#[H1,F,v]
def Oc(Y:PT X a tA)(M:PW X (.BoolOp .Or (b::rest) pos) tB'):PW X (.BoolOp .Or (a::b::rest) pos) (vq tA tB'):=by
 intro J z4 s σ H Q I h;show isTrue_or (Aj (Y z4 s σ H _ I h) λc L G=>?_);let#[H1,F,v]:=G;cases c with
 |true=>show#[H1,F,v]
 |false=>show M J z4 L σ H1 Q F v
def Pw(F:PT X a tA):PT X (.UnaryOp .Not a pos) (km tA):=by intro z4 s σ H Q I h;show isTrue_not (Aj (F z4 s σ H (λc H1=>Q (!c) H1) I h) λc J z=>by let#[H1,G,v]:=z;show#[H1,G,v])
def kl(ta tb:TE):TE:=λσ H Q=>ta σ H λx H1=>∃c,x=.bl c/\if c=true then Q (.bl true) H1 else tb σ H1 Q
def QN(h:PE X a t):PE X (.BoolOp v [a] pos) t:=by first|rfl|assumption|(simp_all;done)
def Od(Z:PE X a ta)(Y:PE X (.BoolOp .Or (b::rest) pos) tb):PE X (.BoolOp .Or (a::b::rest) pos) (kl ta tb):=by
 intro z4 s σ H Q I h;show BoolOp_or (Aj (Z z4 s σ H _ I h) λv L J=>?_);let#[x,H1,G,M,F]:=J;let#[c,rfl,F]:=F;cases M;show wpAny_truthy_bool ?_;cases c with
 |false=>show Y z4 L σ H1 Q G F
 |true=>show#[.bl true,H1,G,rfl,F]
end
def bO(K:W.Frag)(H:Hp)(a:Addr)(xs:List V):Prop:=
 Rd H a (.lst xs)\/
  ∃(o:Obj)(v:Array Value)(n:Nat),K.lookup a=⇑o/\o.cls=.type "list"/\o.dict=none/\o.data=.seq v n/\v.size<=sizeLine/\zX xs v.toList
def bF(K:W.Frag)(H:Hp)(a:Addr)(xs:List V):Prop:=
 Rd H a (.tup xs)\/
  ∃(o:Obj)(v:Array Value)(n:Nat),K.lookup a=⇑o/\o.cls=.type "tuple"/\o.data=.seq v n/\v.size<=sizeLine/\zX xs v.toList
def ph:Value->Option V
 |.none=>⇑.non
 |.bool b=>⇑(.bl b)
 |.int i _=>⇑(.int i)
 |.str x _=>⇑(.str x)
 |.bytes b _=>⇑(.byt b)
 |.float b _=>⇑(.flt b)
 |.ref a=>⇑(.ref a)
 |.type n=>⇑(.ty n)
 |_=>none
def zP.abs(r:zP x u):ph u=⇑x:=by
 cases x with
 |non=>cases r;rfl
 |bl _=>cases r;rfl
 |int _=>let#[t,rfl]:=r;rfl
 |str _=>let#[t,rfl]:=r;rfl
 |byt _=>let#[t,rfl]:=r;rfl
 |flt _=>let#[t,rfl]:=r;rfl
 |ref _=>cases r;rfl
 |ty _=>cases r;rfl
def zP.inj(r:zP x u)(q:zP y u):x=y:=qf (r.abs.symm.trans q.abs)
def zX.inj:∀{xs ys:List V}{us:List Value},zX xs us->zX ys us->xs=ys:=by
 intro xs ys us r q;induction r generalizing ys with
 |nil=>cases q;rfl
 |cons r _ G=>cases q with
  |cons F v=>rw[r.inj F,G v]
inductive iq(xs:List V)(h:Heap)(a:Addr):Prop
 |mk (z8:List Value):zX xs z8->PlainL h a z8.toArray->xs.length<=sizeLine->iq xs h a
inductive il(xs:List V)(h:Heap)(a:Addr):Prop
 |mk (z8:List Value):zX xs z8->IsTup h a z8.toArray->xs.length<=sizeLine->il xs h a
section
variable{X:Cx}{z4:List (Addr×Obj)}{σ:St}{H:Hp}{s:Shared}{a:Addr}{xs ys:List V}
def bO.of{K:W.Frag}(h:H a=⇑(.lst xs)):bO K H a xs:=.inl (.inl h)
def bF.of{K:W.Frag}(h:H a=⇑(.tup xs)):bF K H a xs:=.inl (.inl h)
def Inv.list(I:Inv X z4 σ H s)(h:bO X.K H a xs):iq xs s.heap a:=by
 rcases h with h|⟨o,v,n,G,L,J,F,M,r⟩
 .obtain⟨z,v,n,r,e⟩:=h.ok I.hok;show#[v,r,#[_,n,e,rfl,rfl,rfl],z]
 .show#[v.toList,r,#[o,n,I.kIn a o G,L,J,↑F],?_];let e:=r.length;simp only[qY]at e;lia
def Inv.tuple(I:Inv X z4 σ H s)(h:bF X.K H a xs):il xs s.heap a:=by
 rcases h with h|⟨o,v,n,G,J,F,L,r⟩
 .obtain⟨z,v,r,p⟩:=h.ok I.hok;show#[v,r,p,z.1]
 .show#[v.toList,r,#[o,I.kIn a o G,J,n,↑F],?_];let e:=r.length;simp only[qY]at e;lia
def Inv.list_inj(I:Inv X z4 σ H s)(h:bO X.K H a xs)(h':bO X.K H a ys):xs=ys:=by
 let#[F,r,#[o,n,e,_,_,d],_]:=I.list h;let#[v,L,#[o',M,G,_,_,J],_]:=I.list h';rw[e]at G;cases G;rw[d]at J;injection J with d1 _
 let:F=v:=by simpa using congrArg Array.toList d1
 subst this;show r.inj L
def Inv.tuple_inj(I:Inv X z4 σ H s)(h:bF X.K H a xs)(h':bF X.K H a ys):xs=ys:=by
 let#[F,r,#[o,e,_,n,d],_]:=I.tuple h;let#[v,L,#[o',G,_,M,J],_]:=I.tuple h';rw[e]at G;cases G;rw[d]at J;injection J with d1 _
 let:F=v:=by simpa using congrArg Array.toList d1
 subst this;show r.inj L
end
section
variable{X:Cx}{st:Stmt}{rest:List Stmt}{t u:TS}{e:Expr}{te:TE}{pos:Pos}
def cg:TS:=λD σ H=>D.nx σ H
def ki(t u:TS):TS:=λD σ H=>t {D with nx:=u D} σ H
def Rv:jY X [] cg:=λ_ _ σ H _ I h=>wpAny_execs_nil #[σ,H,I,h]
def RJ(h1:PS X st t)(h2:jY X rest u):jY X (st::rest) (ki t u):=by
 intro z4 s σ H D I h;show wpAny_execs_cons (Aj (h1 z4 s σ H {D with nx:=u D} I h) λf G q=>?_);cases f with
 |next=>let#[F,H',J,q]:=q;show h2 z4 G F H' D J q
 |ret v=>show q
 |brk=>show q
 |cont=>show q
def Rf(h1:PS X st t):jY X [st] t:=by
 intro z4 s σ H D I h;show wpAny_execs_cons (Aj (h1 z4 s σ H D I h) λf F q=>?_);cases f with
 |next=>show wpAny_execs_nil q
 |ret v=>show q
 |brk=>show q
 |cont=>show q
def Inv.quiet(I:Inv X z4 σ H s):interactive X.env=false:=by simp[interactive,I.ok.kind]
def ck(te:TE):TS:=λD σ H=>te σ H λ_ H1=>D.nx σ H1
def QZ(J:PE X e te)(G:autoParam (swapsWith e none pos.line X.env=pure false) rZ9):PS X (.Expr e pos) (ck te):=by intro z4 s σ H D I h;show wpAny_Expr_any (Aj (J z4 s σ H _ I h) λv M⟨x,H1,L,Y,F⟩=>#[σ,H1,L,F]) I.quiet G
def kj(te:TE):TS:=λD σ H=>te σ H D.rt
def PF(J:PE X e te):PS X (.Return ⇑e pos) (kj te):=by intro z4 s σ H D I h;show wpAny_Return_some (Aj (J z4 s σ H _ I h) λv M⟨x,H1,L,F,G⟩=>#[x,σ,H1,L,F,G])
def kq(c:TT)(t u:TS):TS:=λD σ H=>c σ H λb H1=>if b=true then t D σ H1 else u D σ H1
def Oe(L:PT X c tc)(Y:jY X a t)(M:jY X b u):PS X (.If c a b pos) (kq tc t u):=by
 intro z4 s σ H D I h;show wpAny_If (Aj (L z4 s σ H _ I h) λd v J=>?_);let#[H1,G,F]:=J;cases d with
 |true=>show Y z4 v σ H1 D G F
 |false=>show M z4 v σ H1 D G F
end
abbrev TG:=V->St->Hp->(St->Hp->Prop)->Prop
abbrev ia:=List V->St->Hp->(St->Hp->Prop)->Prop
@[inline]def PG(X:Cx)(F:Expr)(t:TG):Prop:=
 ∀(z4:List (Addr×Obj))(s:Shared)(σ:St)(H:Hp)(v:V)(u:Value)(Q:St->Hp->Prop),Inv X z4 σ H s->zP v u->t v σ H Q->
  wpAny (model X.prog X.w) X.A (assign F X.env u) (λ_ s'=>∃σ' H',Inv X z4 σ' H' s'/\Q σ' H') X.xe s
def ig(X:Cx)(ts:List Expr)(t:ia):Prop:=
 ∀(z4:List (Addr×Obj))(s:Shared)(σ:St)(H:Hp)(vs:List V)(us:List Value)(Q:St->Hp->Prop),Inv X z4 σ H s->zX vs us->t vs σ H Q->
  wpAny (model X.prog X.w) X.A (assignInOrder ((assignEach ts X.env).map (·.2)) us) (λ_ s'=>∃σ' H',Inv X z4 σ' H' s'/\Q σ' H') X.xe s
abbrev gz:=V->V->V->Hp->(Hp->Prop)->Prop
def ic(X:Cx)(t:gz):Prop:=
 ∀(z4:List (Addr×Obj))(s:Shared)(σ:St)(H:Hp)(o i v:V)(F G u:Value)(Q:Hp->Prop),Inv X z4 σ H s->zP o F->zP i G->zP v u->t o i v H Q->
  wpAny (model X.prog X.w) X.A (setItem F G u) (λ_ s'=>∃H',Inv X z4 σ H' s'/\Q H') X.xe s
section
variable{X:Cx}{pos:Pos}
def pb:ia:=λv σ H Q=>v=[]/\Q σ H
def gh(t:TG)(u:ia):ia:=λG σ H Q=>∃v r,G=v::r/\t v σ H λF H'=>u r F H' Q
def QX:ig X [] pb:=by intro z4 s σ H v F Q I r h;let#[e,h]:=h;subst e;cases r;show assignInOrder_nil #[σ,H,I,h]
def Sa(h1:PG X e t)(h2:ig X es u)
  (Y:autoParam ((assignEach (e::es) X.env).map (·.2)=assign e X.env::(assignEach es X.env).map (·.2)) rZ9):ig X (e::es) (gh t u):=by
 intro z4 s σ H vs us Q I r h;let#[v,vr,Z,h]:=h;subst Z;cases r with
 |cons r L=>rw[Y];show assignInOrder_cons (Aj (h1 z4 s σ H _ _ _ I r h) λ_ J G=>?_);let#[F,H1,I1,M]:=G;show h2 z4 J F H1 _ _ Q I1 L M
def dA(K:W.Frag)(n:Nat)(t:ia):TG:=λv σ H Q=>∃a xs,v=.ref a/\bF K H a xs/\xs.length=n/\t xs σ H Q
def OJ(hc:X.calm=true)(h:ig X es t)
  (hn:autoParam ((assignEach es X.env).length=n) rZ9)(G:autoParam ((assignEach es X.env).findIdx? (·.1)=none) rZ9):PG X (.Tuple es k pos) (dA X.K n t):=by
 intro z4 s σ H v u Q I r F;let#[a,xs,e1,Z,hl,F]:=F;subst e1;cases r;let#[L,J,Y,hz]:=I.tuple Z;show assign_Tuple_tuple (I.ok.hd hc) Y (by simp[hn,<-hl,J.length]) G λh' M=>?_;let I1:Inv X z4 σ H {s with heap:=h'}:=I.kept (t':=s.toks) λb o e=>M b o (ne_of_lt (qe e)) e;show h z4 _ σ H xs _ Q I1 ↑J F
def oz(F G:TE)(t:gz):TG:=λv σ H Q=>F σ H λo H1=>G σ H1 λi H2=>t o i v H2 λJ=>Q σ J
def Ov(ho:PE X o to)(hi:PE X i ti)(hs:ic X t)
  (ha:∀v,assign (.Subscript o i pos) X.env v=(do
   let ov<-holding [v] (eval o X.env)
   let iv<-holding [v,ov] (eval i X.env)
   standAt pos
   holding [v,ov,iv] (setItem ov iv v)
   release [v,ov,iv] []):=by intro _;rfl):PG X (.Subscript o i pos) (oz to ti t):=by
 intro z4 s σ H v u Q I r h;rw[ha];show qa (zx (Aj (ho z4 s σ H _ I h) λov s1 zq=>?_));let#[x,H1,I1,r1,q1]:=zq;show qa (zx (Aj (hi z4 s1 σ H1 _ I1 q1) λiv s2 zq=>?_));let#[y,H2,I2,r2,q2]:=zq;show qa (wpAny_standAt (qa (zx (Aj (hs z4 s2 σ H2 x y v ov iv u _ I2 r1 r2 r q2) λ_ s3 zq=>?_))));let#[H3,I3,q3]:=zq;show wpAny_release #[σ,H3,I3,q3]
def kx(te:TE)(g:TG):TS:=λD σ H=>te σ H λx H1=>g x σ H1 D.nx
def JV(he:PE X e te)(Z:PG X tg g)(Y:autoParam (swapsWithSole [tg] e pos.line X.env=pure false) rZ9)(M:autoParam (swappedStores [tg] e X.env=pure none) rZ9)
  (h1:autoParam ((assignEach [tg] X.env).map (·.2)=[assign tg X.env]) rZ9):PS X (.Assign [tg] e pos) (kx te g):=by
 intro z4 s σ H D I h;show wpAny_Assign_stores (Aj (he z4 s σ H _ I h) λv G F=>?_) Y M;let#[x,H1,I1,J,L]:=F;rw[h1];show Aj (Z z4 G σ H1 x v _ I1 J L) λ_ s2 q=>q
def vH(c:TT)(tb:TS):TS:=λD σ H=>∃W:Nat->St->Hp->Prop,(∃m,W m σ H)/\∀m σ H,W m σ H->
 c σ H λb H1=>if b=true then∃N:St->Hp->Prop,(∀σ' H',N σ' H'->∃m',m'<m/\W m' σ' H')/\tb {D with nx:=N,ct:=N,bk:=D.nx} σ H1 else D.nx σ H1
def SA(hp:PassesOwn (model X.prog X.w) X.A X.env X.xe)(hc:PT X c tc)(hb:jY X body tb):PS X (.While c body [] pos) (vH tc tb):=by
 intro z4 s σ H D I h;let#[W,#[m0,w0],J]:=h;show wpAny_While (codeAny_whileLoop (λn s'=>∃σ' H',Inv X z4 σ' H' s'/\W n σ' H') ?_ m0 #[σ,H,I,w0]);rintro n s1 ⟨G,H1,I1,w1⟩;show wpAny_passesOwn hp (Aj (hc z4 s1 G H1 _ I1 (J n G H1 w1)) λb s2 zq=>?_);let#[H2,I2,Y]:=zq;cases b with
 |true=>
  let#[N,hN,Y]:=Y;rw[zj rfl];show wpAny_passesOwn hp (Aj (hb z4 s2 G H2 _ I2 Y) λf s3 M=>?_);cases f with
  |next=>let#[F,L,I3,n3]:=M;let#[m',hm,Z]:=hN F L n3;show#[m',hm,F,L,I3,Z]
  |cont=>let#[F,L,I3,n3]:=M;let#[m',hm,Z]:=hN F L n3;show#[m',hm,F,L,I3,Z]
  |brk=>show M
  |ret v=>show M
 |false=>rw[zk q8];show wpAny_execs_nil #[G,H2,I2,Y]
end
structure It where
 go:Nat->Hp->Prop
 yld:Nat->Hp->V->Hp->Prop
 stop:Nat->Hp->Prop
def dX(X:Cx)(z4:List (Addr×Obj))(H:Hp)(b:Addr):Prop:=
 H b=none/\b≠X.env.locals/\b∉X.fs/\(b∈X.ex\/X.s₀.heap.get? b=none)/\(∀x c,X.env.cells.lookup x=⇑c->c≠b)/\∀p∈X.pn++z4,p.1≠b
def Inv.fpOk(I:Inv X z4 σ H s)(F:s.heap.objs.size<=b)(hn:H' b=none):dX X z4 H' b:=by
 show#[hn,ne_of_gt (lt_of_lt_of_le I.lt F),I.nofs F,.inr (Heap.get?_none_of_le (le_trans I.sz F)),λx c e z=>?_,λp G z=>?_]
 .obtain⟨v,q⟩:=I.cell x c e;show absurd (lt_of_lt_of_le q.lt (by rw[z];show F)) (lt_irrefl _)
 .show absurd (lt_of_lt_of_le (qe (I.pin p G).1) (by rw[z];show F)) (lt_irrefl _)
structure gV(P:Program)(w:World)(K:W.Frag)(tg:Expr)(J:It)(fp:List Addr)(it:Addr)(tn:Nat->Heap->Prop):Prop where
 mem:it∈fp
 obj:∀i h,tn i h->∀b∈fp,∃o,h.get? b=⇑o/\∀v,o.data≠.cell v
 keep:∀i h h',tn i h->(∀b∈fp,∀o,h.get? b=⇑o->h'.get? b=⇑o)->tn i h'
 item:∀(X:Cx),X.prog=P->X.w=w->X.K=K->X.calm=true->∀(i:Nat)(z4:List (Addr×Obj))(s:Shared)(σ:St)(H:Hp)(E:zF),Inv X z4 σ H s->(∀b∈fp,dX X z4 H b)->tn i s.heap->J.go i H->
  wpAny (model P w) X.A (pyNext (.ref it)) (λr s1=>∃u,r=⇑u/\
   wpAny (model P w) X.A (letOwnedTupleGo tg (.ref it) u) (λ_ s2=>∃x H',Inv X z4 σ H' s2/\zP x u/\J.yld i H x H'/\tn (i+1) s2.heap/\∀b∈fp,H' b=none) E s1) E s
 done:∀(X:Cx),X.prog=P->X.w=w->X.K=K->X.calm=true->∀(i:Nat)(z4:List (Addr×Obj))(s:Shared)(σ:St)(H:Hp)(E:zF),Inv X z4 σ H s->(∀b∈fp,dX X z4 H b)->tn i s.heap->J.stop i H->
  wpAny (model P w) X.A (pyNext (.ref it)) (λr s1=>r=none/\Inv X z4 σ H s1) E s
 self:∀(A:Around)(i:Nat)(s:Shared)(Q:zF)(E:zF),tn i s.heap->Q (.ref it) s->wpAny (model P w) A (pyIter (.ref it)) Q E s
abbrev TI:=St->Hp->(It->Hp->Prop)->Prop
inductive ie(X:Cx)(z4:List (Addr×Obj))(σ:St)(tg:Expr)(R:It->Hp->Prop)(itv:Value)(s2:Shared):Prop
 |mk (it:Addr) (fp:List Addr) (tn:Nat->Heap->Prop) (J:It) (H':Hp):itv=.ref it->Inv X z4 σ H' s2->gV X.prog X.w X.K tg J fp it tn->tn 0 s2.heap->(∀b∈fp,dX X z4 H' b)->R J H'->ie X z4 σ tg R itv s2
@[inline]def PI(X:Cx)(tg iter:Expr)(F:TI):Prop:=
 ∀(z4:List (Addr×Obj))(s:Shared)(σ:St)(H:Hp)(R:It->Hp->Prop),Inv X z4 σ H s->F σ H R->
  wpAny (model X.prog X.w) X.A (eval iter X.env) (λv G=>wpAny (model X.prog X.w) X.A (pyIter v) (ie X z4 σ tg R) X.xe G) X.xe s
def EH(G:s.heap.get? F=⇑o)(L:o.cls=.type n)(J:o.data=.fields vs)
  (hn:["enumerate","zip","dict_itemiterator","dict_reverseitemiterator","odict_iterator","itertools.zip_longest","itertools.pairwise"].contains n=false)(v:Q () s):wpAny M A (letOwnedTupleGo tg (.ref F) u) Q E s:=by
 unfold letOwnedTupleGo;cases tg<;>first
  |show qb v
  |(cases u<;>first
   |show qb v
   |(show qa (wpAny_load G ?_);rw[L,J];show wpAny M A (if(["enumerate","zip","dict_itemiterator","dict_reverseitemiterator","odict_iterator","itertools.zip_longest","itertools.pairwise"].contains n&&vs[0]?==some (rawInt _))=true then _ else _) Q E s;rw[zk (by intro h;rw[hn,Bool.false_and]at h;cases h)];show qb v))
def bp(K:W.Frag)(a:Addr):It:=
 #[λi H=>∃xs x,bO K H a xs/\xs[i]?=⇑x,λi H x H'=>H'=H/\∀xs,bO K H a xs->xs[i]?=⇑x,λi H=>∃xs,bO K H a xs/\xs.length<=i]
def rh(K:W.Frag)(a:Addr):It:=
 #[λi H=>∃xs x,bF K H a xs/\xs[i]?=⇑x,λi H x H'=>H'=H/\∀xs,bF K H a xs->xs[i]?=⇑x,λi H=>∃xs,bF K H a xs/\xs.length<=i]
def ir(lo:Int)(n:Nat):It:=#[λi _=>i<n,λi H x H'=>H'=H/\x=.int (lo+i),λi _=>n<=i]
def UK{P:Program}{w:World}{K:W.Frag}{tg:Expr}(a it:Addr):gV P w K tg (bp K a) [it] it (λi h=>h.IsListIter it a i) where
 mem:=by simp
 obj:=λi h st b hb=>by
  let e:b=it:=↑hb
  subst e;let#[o,e,c,d]:=st;show#[o,e,λv z=>by rw[d]at z;cases z]
 keep:=λi h h' st k=>st.at λo e=>k it (by simp) o e
 item:=by intro X hP hw hK hc i z4 s σ H E I hf st hg;subst hP hw hK;let#[xs,x,hq,hx]:=hg;let#[z8,rv,p,hz]:=I.list hq;let#[u,hu,ru]:=rv.get hx;let#[f0,f1,f2,f3,f4,f5]:=hf it (by simp);show wpAny_pyNext_list_item st p.isList (x:=u) ↑hu λh' st' sb=>?_;let I1:Inv X z4 σ H {s with heap:=h'}:=I.turned (t':=s.toks) (λb o hb e=>(sb.2 b hb).trans e) f0 f1 f3 f4 f5;let#[o,e,c,d]:=id st';show#[u,rfl,EH (s:={s with heap:=h'}) e c d ⋯ #[x,H,I1,ru,#[rfl,λys hy=>by rw[I.list_inj hy hq];show hx],st',λb hb=>(hf b hb).1]]
 done:=by intro X hP hw hK hc i z4 s σ H E I hf st hg;subst hP hw hK;let#[xs,hq,hx]:=hg;let#[z8,rv,p,hz]:=I.list hq;let#[f0,f1,f2,f3,f4,f5]:=hf it (by simp);let hl:=rv.length;show wpAny_pyNext_list_end (I.ok.hd hc) st p.isList (by simp;lia -verbose) λh' eb=>#[rfl,I.turned (t':=s.toks) (λb o hb e=>eb b o hb e) f0 f1 f3 f4 f5]
 self:=λ_ _ _ _ _ st h=>wpAny_pyIter_listiter st h
def VR{P:Program}{w:World}{K:W.Frag}{tg:Expr}(a it:Addr):gV P w K tg (rh K a) [it] it (λi h=>h.IsTupleIter it a i) where
 mem:=by simp
 obj:=λi h st b hb=>by
  let e:b=it:=↑hb
  subst e;let#[o,e,c,d]:=st;show#[o,e,λv z=>by rw[d]at z;cases z]
 keep:=λi h h' st k=>st.at λo e=>k it (by simp) o e
 item:=by intro X hP hw hK hc i z4 s σ H E I hf st hg;subst hP hw hK;let#[xs,x,hq,hx]:=hg;let#[z8,rv,p,hz]:=I.tuple hq;let#[u,hu,ru]:=rv.get hx;let#[f0,f1,f2,f3,f4,f5]:=hf it (by simp);show wpAny_pyNext_tuple_item st (show s.heap.IsTuple a z8.toArray from p) (x:=u) ↑hu λh' st' sb=>?_;let I1:Inv X z4 σ H {s with heap:=h'}:=I.turned (t':=s.toks) (λb o hb e=>(sb.2 b hb).trans e) f0 f1 f3 f4 f5;let#[o,e,c,d]:=id st';show#[u,rfl,EH (s:={s with heap:=h'}) e c d ⋯ #[x,H,I1,ru,#[rfl,λys hy=>by rw[I.tuple_inj hy hq];show hx],st',λb hb=>(hf b hb).1]]
 done:=by intro X hP hw hK hc i z4 s σ H E I hf st hg;subst hP hw hK;let#[xs,hq,hx]:=hg;let#[z8,rv,p,hz]:=I.tuple hq;let#[f0,f1,f2,f3,f4,f5]:=hf it (by simp);let hl:=rv.length;show wpAny_pyNext_tuple_end (I.ok.hd hc) st (show s.heap.IsTuple a z8.toArray from p) (by simp;lia -verbose) λh' eb=>#[rfl,I.turned (t':=s.toks) (λb o hb e=>eb b o hb e) f0 f1 f3 f4 f5]
 self:=λ_ _ _ _ _ st h=>wpAny_pyIter_tupleiter st h
def VP{P:Program}{w:World}{K:W.Frag}{tg:Expr}(it:Addr)(lo:Int)(n:Nat):gV P w K tg (ir lo n) [it] it (λi h=>IsRangeIter h it (lo+(i:Nat)*1) ((n:Int)-(i:Nat)) 1) where
 mem:=by simp
 obj:=λi h st b hb=>by
  let e:b=it:=↑hb
  subst e;show#[_,st,λv z=>by let z':Data.fields _=Data.cell v:=z;cases z']
 keep:=λi h h' st k=>k it (by simp) _ st
 item:=by intro X hP hw hK hc i z4 s σ H E I hf st hg;subst hP hw hK;let#[f0,f1,f2,f3,f4,f5]:=hf it (by simp);let W:=Walks.range (prog:=X.prog) (w:=X.w) (I.ok.hd hc) it lo 1 n;show W.item i s _ _ hg st λv h' tk hv st' kk=>?_;let#[t,rfl]:=hv;let I1:Inv X z4 σ H {s with heap:=h',toks:=tk}:=I.turned (λb o hb e=>kk b o ↑hb e) f0 f1 f3 f4 f5;show#[_,rfl,EH (s:={s with heap:=h',toks:=tk}) (n:="range_iterator") st' rfl rfl ⋯ #[.int (lo+i),H,I1,#[t,?_],#[rfl,rfl],st',λb hb=>(hf b hb).1]];rw[mul_one]
 done:=by intro X hP hw hK hc i z4 s σ H E I hf st hg;subst hP hw hK;let#[f0,f1,f2,f3,f4,f5]:=hf it (by simp);show wpAny_pyNext_range_end (I.ok.hd hc) st (by let:n<=i:=hg;lia) λh' eb=>#[rfl,I.turned (t':=s.toks) (λb o hb e=>eb b o hb e) f0 f1 f3 f4 f5]
 self:=λ_ _ _ _ _ st h=>wpAny_pyIter_rangeiter st h
section
variable{X:Cx}{tg:Expr}
def LA{lo hi:Int}(I:Inv X z4 σ H s)(h1:-(2^62)<=lo)(h2:lo<2^62)(L:-(2^62)<=hi)(J:hi<2^62)
  (q:R (ir lo (hi-lo).toNat) H):wpAny (model X.prog X.w) X.A (pyIter (.ref s.heap.objs.size)) (ie X z4 σ tg R) E {s with heap:=s.heap.push {cls:=.type "range",data:=.fields [.int lo t,.int hi u,.int 1 v].toArray},toks:=tk}:=by
 refine wpAny_pyIter_range (IsRange.new ..) (small_one h1 h2 L J) ?_;let F:Inv X z4 σ H {s with heap:=s.heap.push {cls:=.type "range",data:=.fields [.int lo t,.int hi u,.int 1 v].toArray},toks:=tk}:=I.kept λb o e=>qc _ e;refine⟨(s.heap.push {cls:=.type "range",data:=.fields [.int lo t,.int hi u,.int 1 v].toArray}).objs.size,[(s.heap.push {cls:=.type "range",data:=.fields [.int lo t,.int hi u,.int 1 v].toArray}).objs.size],_,_,H,rfl,
  F.kept (t':=tk) λb o e=>qc _ e,VP _ lo (hi-lo).toNat,?_,λb G=>?_,q⟩
 .let Y:lo+((0:Nat):Int)*1=lo:=by simp
  let M:(((hi-lo).toNat:Nat):Int)-((0:Nat):Int)=Builtin.Range.rangeSize lo hi 1:=by rw[rangeSize_one];split<;>lia
  show IsRangeIter _ _ (lo+((0:Nat):Int)*1) ((((hi-lo).toNat:Nat):Int)-((0:Nat):Int)) 1;rw[Y,M];show qd _ rfl
 .let e:b=(s.heap.push {cls:=.type "range",data:=.fields [.int lo t,.int hi u,.int 1 v].toArray}).objs.size:=by simpa using G
  subst e;show F.fpOk (zm _) (F.hok.fresh (zm _))
def fx(ta:TA):TI:=λσ H R=>ta σ H λv H1=>∃j:Int,v=[.int j]/\-(2^62)<=j/\j<2^62/\R (ir 0 j.toNat) H1
def fv(ta:TA):TI:=λσ H R=>ta σ H λv H1=>∃i j:Int,v=[.int i,.int j]/\(-(2^62)<=i/\i<2^62/\-(2^62)<=j/\j<2^62)/\R (ir i (j-i).toNat) H1
def Ui(Z:Gl X "range")(Y:X.mg "range"=none)(ha:PA X [a] ta)(M:autoParam (starEach [a] X.env=[(false,eval a X.env)]) rZ9):PI X tg (.Call (.Name "range" p) [a] [] pos) (fx ta):=by
 intro z4 s σ H R I h;show Call_ (BU I Z Y boot_range (PyProof.Rows.callWith_type1 (Aj (ha pos z4 s σ H _ I h) λus s1 F=>?_) M rfl));let#[vs,H1,I1,J,v]:=F;let#[j,e,v,L,q]:=v;subst e;cases J with
 |cons r G=>cases G;let#[t,rfl]:=r;show call_range_1 (LA I1 ∅ ∅ v L ↑q)
def Uw(hg:Gl X "range")(hm:X.mg "range"=none)(ha:PA X [a,b] ta)(hs:autoParam (starEach [a,b] X.env=[(false,eval a X.env),(false,eval b X.env)]) rZ9)(v:autoParam (starEach [b] X.env=[(false,eval b X.env)]) rZ9):
  PI X tg (.Call (.Name "range" p) [a,b] [] pos) (fv ta):=by
 intro z4 s σ H R I h;show Call_ (BU I hg hm boot_range (PyProof.Rows.callWith_type1 (Aj (ha pos z4 s σ H _ I h) λus s1 J=>?_) (by rw[hs,v]) (by rw[v];rfl)));let#[vs,H1,I1,L,G]:=J;let#[i,j,e,#[G,q2,Z,Y],q]:=G;subst e;cases L with
 |cons r F=>
  cases F with
  |cons M F=>cases F;let#[t,rfl]:=r;let#[t',rfl]:=M;show call_range_2 (LA I1 G q2 Z Y q)
def kr(F:TI)(g:TG)(tb:TS):TS:=λD σ H=>F σ H λJ H1=>∃W:Nat->Nat->St->Hp->Prop,(∃m,W 0 m σ H1)/\∀i m σ H,W i m σ H->
 (J.stop i H/\D.nx σ H)\/(J.go i H/\∃N:St->Hp->Prop,(∀σ' H',N σ' H'->∃m',m'<m/\W (i+1) m' σ' H')/\∀x H',J.yld i H x H'->g x σ H' λv H2=>tb {D with nx:=N,ct:=N,bk:=D.nx} v H2)
def gN(fp:List Addr)(h:Heap):List (Addr×Obj):=fp.filterMap λb=>(h.get? b).map λo=>(b,o)
def Hk(v:b∈fp)(e:h.get? b=⇑o):(b,o)∈gN fp h:=mem_filterMap.mpr #[b,v,by rw[e];rfl]
def Um(v:p∈gN fp h):p.1∈fp/\h.get? p.1=⇑p.2:=by
 let#[b,F,e]:=mem_filterMap.mp v;cases q:h.get? b with
 |none=>rw[q]at e;cases e
 |some o=>grind
def Inv.pinned(I:Inv X z4 σ H s)(M:∀b∈fp,dX X z4 H b)(L:∀b∈fp,∃o,s.heap.get? b=⇑o/\∀v,o.data≠.cell v):Inv X (z4++gN fp s.heap) σ H s:=
 I.pins_of λp J=>(qz.mp J).elim (λz=>I.pin p (qi _ z)) λz=>by let#[F,e]:=Um z;let#[f0,Z,Y,_]:=M p.1 F;let#[o,G,d]:=L p.1 F;rw[e]at G;cases G;show#[e,f0,Z,Y,d]
def Inv.unpinned(I:Inv X (z4++F) σ H s):Inv X z4 σ H s:=I.pins_of λp v=>I.pin p (qi _ (qj _ v))
def Pj(hp:PassesOwn (model X.prog X.w) X.A X.env X.xe)(hc:X.calm=true)(hi:PI X tg iter wi)(hg:PG X tg g)(M:jY X body tb)
  (hs:∀x,foldedSetIterable iter X.env x=pure x:=by intro _;rfl):PS X (.For tg iter body [] pos) (kr wi g tb):=by
 intro z4 s σ H D I h;show wpAny_For (Aj (hi z4 s σ H _ I h) λv s1 h1=>Aj h1 λe4 s2 h2=>?_) hs;let#[it,fp,tn,J,H2,e,I2,T,e1,f2,W,#[m0,w0],h5]:=h2;subst e
 --what stays true of the iterator's objects through the loop
 let L:∀{H':Hp},(∀b∈fp,H' b=none)->∀b∈fp,dX X z4 H' b:=λhn b M=>#[hn b M,(f2 b M).2]
 show codeAny_forLoop_any (λn s'=>∃i σ' H',Inv X z4 σ' H' s'/\tn i s'.heap/\(∀b∈fp,H' b=none)/\W i n σ' H') ?_ m0 #[0,σ,H2,I2,e1,λb M=>(f2 b M).1,w0];rintro n s3 ⟨i,G,H3,I3,h7,h8,w3⟩;rcases h5 i n G H3 w3 with⟨h6,qn⟩|⟨go,N,hN,step⟩
 .show wpAny_passesOwn hp (Aj (T.done X rfl rfl rfl hc i z4 s3 G H3 X.xe I3 (L h8) h7 h6) λr s4⟨hr,I4⟩=>?_);subst hr;show wpAny_execs_nil #[G,H3,I4,qn]
 .show wpAny_passesOwn hp (Aj (T.item X rfl rfl rfl hc i z4 s3 G H3 X.xe I3 (L h8) h7 go) λr s4 zq=>?_);let#[u,hr,h4]:=zq;subst hr;show wpAny_passesOwn hp (Aj h4 λ_ s5 zq=>?_);let#[x,H5,I5,r5,y5,h3,e2]:=zq;let e3:=I5.pinned (L e2) (T.obj _ _ h3);show wpAny_passesOwn hp (Aj (hg _ s5 G H5 x u _ e3 r5 (step x H5 y5)) λ_ s6 zq=>?_);let#[h9,H6,I6,q6]:=zq;show wpAny_passesOwn hp (Aj (M _ s6 h9 H6 _ I6 q6) λf s7 q7=>?_);let again:∀{F:St}{Z:Hp},Inv X (z4++gN fp s5.heap) F Z s7->N F Z->∃m,m<n/\∃i σ' H',Inv X z4 σ' H' s7/\tn i s7.heap/\(∀b∈fp,H' b=none)/\W i m σ' H':=λ{F Z} Y n7=>by let#[m',hm,w7]:=hN F Z n7;show#[m',hm,i+1,F,Z,Y.unpinned,T.keep _ _ _ h3 λb M o e=>(Y.pin (b,o) (qi _ (qi _ (Hk M e)))).1,λb M=>?_,w7];let#[o,e,d]:=T.obj _ _ h3 b M;exact(Y.pin (b,o) (qi _ (qi _ (Hk M e)))).2.1
  cases f with
  |next=>let#[F,Z,Y,n7]:=q7;show again Y n7
  |cont=>let#[F,Z,Y,n7]:=q7;show again Y n7
  |brk=>let#[F,Z,Y,q7]:=q7;show#[F,Z,Y.unpinned,q7]
  |ret v=>let#[x7,F,Z,Y,r7,q7]:=q7;show#[x7,F,Z,Y.unpinned,r7,q7]
end
abbrev R2:=V->V->Hp->VK->Prop
@[inline]def OpR(X:Cx)(f:Value->Value->Sem Value)(r:R2):Prop:=
 ∀(z4:List (Addr×Obj))(s:Shared)(σ:St)(H:Hp)(x y:V)(v u:Value)(Q:VK),Inv X z4 σ H s->zP x v->zP y u->r x y H Q->
  wpAny (model X.prog X.w) X.A (f v u) (EP X z4 σ Q) X.xe s
def pk(X:Cx)(f:Value->Sem Value)(r:V->Hp->VK->Prop):Prop:=
 ∀(z4:List (Addr×Obj))(s:Shared)(σ:St)(H:Hp)(x:V)(v:Value)(Q:VK),Inv X z4 σ H s->zP x v->r x H Q->
  wpAny (model X.prog X.w) X.A (f v) (EP X z4 σ Q) X.xe s
def aU(X:Cx)(f:Value)(r:List V->Hp->VK->Prop):Prop:=
 ∀(z4:List (Addr×Obj))(s:Shared)(σ:St)(H:Hp)(xs:List V)(us:List Value)(Q:VK),Inv X z4 σ H s->zX xs us->r xs H Q->
  wpAny (model X.prog X.w) X.A (call f us) (EP X z4 σ Q) X.xe s
def rf(X:Cx)(r:V->Hp->(Bool->Hp->Prop)->Prop):Prop:=
 ∀(z4:List (Addr×Obj))(s:Shared)(σ:St)(H:Hp)(x:V)(v:Value)(Q:Bool->Hp->Prop),Inv X z4 σ H s->zP x v->r x H Q->
  wpAny (model X.prog X.w) X.A (truthy v) (TP X z4 σ Q) X.xe s
def ji(r:R2)(ta tb:TE):TE:=λσ H Q=>ta σ H λx H1=>tb σ H1 λy H2=>r x y H2 Q
def vo(r:V->Hp->VK->Prop)(ta:TE):TE:=λσ H Q=>ta σ H λx H1=>r x H1 Q
def rI(C:Int->Int->Prop)(g:Int->Int->V):R2:=λx y H Q=>∃i j,x=.int i/\y=.int j/\C i j/\Q (g i j) H
def tS(g:Int->Int->V):R2:=λx y H Q=>∃i j,x=.int i/\y=.int j/\Q (g i j) H
def rU(g:Int->V):V->Hp->VK->Prop:=λx H Q=>∃i,x=.int i/\Q (g i) H
section
variable{X:Cx}{a b c:Expr}{ta tb tc:TE}{pos:Pos}
def Ef(ha:PE X a ta)(hb:PE X b tb){R:V->V->Hp->Prop}(I:Inv X z4 σ H s)
  (h:ta σ H λx H1=>tb σ H1 λy H2=>R x y H2){f:Value->Value->Sem Value}
  (hf:∀v u J x y H2,Inv X z4 σ H2 J->zP x v->zP y u->R x y H2->wpAny (model X.prog X.w) X.A (f v u) Q X.xe J):
  wpAny (model X.prog X.w) X.A (eval a X.env) (λv G=>wpAny (model X.prog X.w) X.A (eval b X.env) (λu F=>wpAny (model X.prog X.w) X.A (f v u) Q X.xe F) X.xe G) X.xe s:=by
 show Aj (ha z4 s σ H _ I h) λv M L=>?_;let#[x,H1,I1,Z,q1]:=L;show Aj (hb z4 M σ H1 _ I1 q1) λu J L=>?_;let#[y,H2,I2,Y,q2]:=L;show hf v u J x y H2 I2 Z Y q2
def OG(M:OpR X (binaryOp L) r)(Z:PE X a ta)(Y:PE X b tb):PE X (.BinOp a L b pos) (ji r ta tb):=by intro z4 s σ H Q I h;show wpAny_BinOp (Ef Z Y I h λv u F x y H2 I2 J G q=>M z4 F σ H2 x y v u Q I2 J G q)
def Of(M:pk X (unaryOp L) r)(Y:PE X a ta):PE X (.UnaryOp L a pos) (vo r ta):=by intro z4 s σ H Q I h;show UnaryOp_ (Aj (Y z4 s σ H _ I h) λv F⟨x,H1,Z,G,J⟩=>M z4 F σ H1 x v Q Z G J)
def FO{g:Int->Int->Int}
  (rule:∀(i j:Int)(t u:Tok)(s:Shared)(Q:zF)(E:zF),C i j->Q (.int (g i j) s.toks) {s with toks:=s.toks+1}->wpAny (model X.prog X.w) X.A (f (.int i t) (.int j u)) Q E s):
  OpR X f (rI C λi j=>.int (g i j)):=by
 intro z4 s σ H x y v u Q I J G h;let#[i,j,rfl,rfl,L,q]:=h;let#[t,rfl]:=J;let#[F,rfl]:=G;show rule i j t F s _ _ L #[.int (g i j),H,I.tok _,#[_,rfl],q]
def Js{g:Int->Int->Int}
  (rule:∀(i j:Int)(t u:Tok)(s:Shared)(Q:zF)(E:zF),Q (.int (g i j) s.toks) {s with toks:=s.toks+1}->wpAny (model X.prog X.w) X.A (f (.int i t) (.int j u)) Q E s):
  OpR X f (tS λi j=>.int (g i j)):=by
 intro z4 s σ H x y v u Q I J G h;let#[i,j,rfl,rfl,q]:=h;let#[t,rfl]:=J;let#[F,rfl]:=G;show rule i j t F s _ _ #[.int (g i j),H,I.tok _,#[_,rfl],q]
def Dq{g:Int->Int->Bool}
  (rule:∀(i j:Int)(t u:Tok)(s:Shared)(Q:zF)(E:zF),Q (.bool (g i j)) s->wpAny (model X.prog X.w) X.A (f (.int i t) (.int j u)) Q E s):
  OpR X f (tS λi j=>.bl (g i j)):=by
 intro z4 s σ H x y v u Q I J G h;let#[i,j,rfl,rfl,q]:=h;let#[t,rfl]:=J;let#[F,rfl]:=G;show rule i j t F s _ _ #[.bl (g i j),H,I,rfl,q]
def iz(i j:Int):Prop:=0<=j/\j<=1000000/\i.natAbs<2^64
def pH(i j:Int):Prop:=(-(2^64)<i/\i<2^64)\/(-(2^64)<j/\j<2^64)
def pH.ok(h:pH i j):IntMulOk i j:=by
 rcases h with⟨h1,h2⟩|⟨h1,h2⟩
 .show .of_left (intBits_le_64 h1 h2)
 .show .of_right (intBits_le_64 h1 h2)
def OV:OpR X (binaryOp .Add) (tS λi j=>.int (i+j)):=Js λ_ _ _ _ _ _ _ q=>add_int q
def Ot:OpR X (binaryOp .Mult) (rI pH λi j=>.int (i*j)):=FO λ_ _ _ _ _ _ _ v q=>mul_int q v.ok
def Pg:OpR X (binaryOp .Mod) (rI (λ_ j=>0<j) λi j=>.int (i %j)):=FO λi j _ _ _ _ _ v q=>by let h1:(0:Int)<j:=v;show mod_int' ∅ (by rw[Int.fmod_eq_emod_of_nonneg i ∅];show q)
def Px:OpR X (binaryOp .Pow) (rI iz λi j=>.int (i^j.toNat)):=FO λ_ _ _ _ _ _ _ v q=>pow_int_small v.1 v.2.1 v.2.2 q
def Xm{g:Int->Int}
  (rule:∀(i:Int)(t:Tok)(s:Shared)(Q:zF)(E:zF),Q (.int (g i) s.toks) {s with toks:=s.toks+1}->wpAny (model X.prog X.w) X.A (f (.int i t)) Q E s):
  pk X f (rU λi=>.int (g i)):=by
 intro z4 s σ H x v Q I F h;let#[i,rfl,q]:=h;let#[t,rfl]:=F;show rule i t s _ _ #[.int (g i),H,I.tok _,#[_,rfl],q]
def Oo:pk X (unaryOp .USub) (rU λi=>.int (-i)):=Xm λ_ _ _ _ _ q=>neg_int q
end
def cv:V->V->Bool
 |.non,.non=>true|.non,.int _=>true|.int _,.non=>true|.non,.bl _=>true|.bl _,.non=>true|.non,.str _=>true|.str _,.non=>true
 |.int _,.int _=>true|.bl _,.bl _=>true|.str _,.str _=>true|.byt _,.byt _=>true
 |.int _,.str _=>true|.str _,.int _=>true|.bl _,.str _=>true|.str _,.bl _=>true
 |_,_=>false
def vw:R2:=λx y H Q=>cv x y=true/\Q (.bl (!decide (x=y))) H
def PY:↥(V.int i=V.int j)=(i==j):=by rw[Bool.eq_iff_iff];simp
def PH:↥(V.bl i=V.bl j)=(i==j):=by rw[Bool.eq_iff_iff];simp
def Qe:↥(V.str i=V.str j)=(i==j):=by rw[Bool.eq_iff_iff];simp
def QB:↥(V.byt i=V.byt j)=(i.toList==j.toList):=by rw[Bool.eq_iff_iff];cases i;cases j;simp
section
variable{X:Cx}{a b c:Expr}{ta tb tc:TE}{pos:Pos}
def BD(I:Inv X z4 σ H s)(q:Q (.bl k) H)(e:k=v):EP X z4 σ Q (.bool v) s:=by subst e;show#[.bl k,H,I,rfl,q]
def On:OpR X (compareOp .NotEq) vw:=by
 intro z4 s σ H x y v u Q I L F h;let#[J,q]:=h;cases x with
 |non=>
  cases L;cases y with
  |non=>cases F;show PySem.EqNone.ne_none_none (BD I q (by simp))
  |bl j=>cases F;show PySem.EqNone.ne_none_bool (BD I q (by simp))
  |int j=>let#[G,rfl]:=F;show PySem.EqNone.ne_none_int (BD I q (by simp))
  |str j=>let#[G,rfl]:=F;show PySem.EqNone.ne_none_str (BD I q (by simp))
  |_=>show absurd (show false=true from J) q8
 |bl i=>
  cases L;cases y with
  |non=>cases F;show PySem.EqNone.ne_bool_none (BD I q (by simp))
  |bl j=>cases F;show ne_bool (BD I q (congrArg not PH))
  |str j=>let#[G,rfl]:=F;show PySem.EqMixed.ne_bool_str (BD I q (by simp))
  |_=>show absurd (show false=true from J) q8
 |int i=>
  let#[t,rfl]:=L;cases y with
  |non=>cases F;show PySem.EqNone.ne_int_none (BD I q (by simp))
  |int j=>let#[G,rfl]:=F;show ne_int (BD I q (congrArg not PY))
  |str j=>let#[G,rfl]:=F;show PySem.EqMixed.ne_int_str (BD I q (by simp))
  |_=>show absurd (show false=true from J) q8
 |str i=>
  let#[t,rfl]:=L;cases y with
  |non=>cases F;show PySem.EqNone.ne_str_none (BD I q (by simp))
  |bl j=>cases F;show PySem.EqMixed.ne_str_bool (BD I q (by simp))
  |int j=>let#[G,rfl]:=F;show PySem.EqMixed.ne_str_int (BD I q (by simp))
  |str j=>let#[G,rfl]:=F;show ne_str (BD I q (congrArg not Qe))
  |_=>show absurd (show false=true from J) q8
 |byt i=>
  let#[t,rfl]:=L;cases y with
  |byt j=>let#[G,rfl]:=F;show W.ne_bytes (BD I q (congrArg not QB))
  |_=>show absurd (show false=true from J) q8
 |_=>cases y<;>show absurd (show false=true from J) q8
def Og:OpR X (compareOp .Lt) (tS λi j=>.bl ↥(i<j)):=Dq λ_ _ _ _ _ _ _ q=>lt_int q
def Oi:OpR X (compareOp .LtE) (tS λi j=>.bl ↥(i<=j)):=Dq λ_ _ _ _ _ _ _ q=>le_int q
def NW:OpR X (compareOp .Gt) (tS λi j=>.bl ↥(j<i)):=Dq λ_ _ _ _ _ _ _ q=>gt_int q
def NY:OpR X (compareOp .GtE) (tS λi j=>.bl ↥(j<=i)):=Dq λ_ _ _ _ _ _ _ q=>ge_int q
def PD:OpR X (compareOp .Is) (λx y H Q=>y=.non/\Q (.bl ↥(x=.non)) H):=by
 intro z4 s σ H x y v u Q I F G h;let#[rfl,q]:=h;cases G;show is_none_gen (BD I q ?_);cases x<;>first
  |(cases F;rfl)
  |(let#[t,rfl]:=F;rfl)
def Ac(b:Expr)(h:autoParam (v≠.In) dZ9)(h2:autoParam (v≠.NotIn) dZ9):behindInMarks v b=false:=CU b h h2
def Qo(M:OpR X (compareOp F) r)(ha:PE X a ta)(Z:PE X b tb)(Y:behindInMarks F b=false):PE X (.Compare a [F] [b] pos) (ji r ta tb):=by intro z4 s σ H Q I h;show wpAny_Compare1 (Ef ha Z I h λv u G x y H2 I2 L J q=>M z4 G σ H2 x y v u Q I2 L J q) Y
def tL(t:TE):TT:=λσ H Q=>t σ H λx H'=>∃k,x=.bl k/\Q k H'
def Lj(ho:OpR X (compareOp F) r)(ha:PE X a ta)(hb:PE X b tb)(hm:behindInMarks F b=false):PT X (.Compare a [F] [b] pos) (tL (ji r ta tb)):=by
 intro z4 s σ H Q I h;show wpAny_isTrue_Compare1 (Aj (ha z4 s σ H _ I h) λv J⟨x,H1,I1,Y,q1⟩=>Aj (hb z4 J σ H1 _ I1 q1) λu G⟨y,H2,I2,M,q2⟩=>Aj (ho z4 G σ H2 x y v u _ I2 Y M q2) λc s3⟨z,H3,I3,L,k,e,Z⟩=>?_) hm
 subst e;cases L;show wpAny_truthy_bool #[H3,I3,Z]
def nZ(r G:R2)(ta tb tc:TE):TE:=λσ H Q=>ta σ H λx H1=>tb σ H1 λy H2=>r x y H2 λz v=>∃k,z=.bl k/\
 (if k=true then tc σ v λF J=>G y F J Q else Q (.bl false) v)
def Si(ho:OpR X (compareOp M) r)(G:OpR X (compareOp F) r')(ha:PE X a ta)(hb:PE X b tb)(hc:PE X c tc)
  (hm:lastMarks [M,F] [b,c]=false:=by with_unfolding_all rfl):PT X (.Compare a [M,F] [b,c] pos) (tL (nZ r r' ta tb tc)):=by
 intro z4 s σ H Q I h;show isTrue_chain (Aj (ha z4 s σ H _ I h) λv s1⟨x,H1,I1,r1,q1⟩=>test_link (Aj (hb z4 s1 σ H1 _ I1 q1) λu s2⟨y,H2,I2,J,q2⟩=>Aj (ho z4 s2 σ H2 x y v u _ I2 r1 J q2) λd s3⟨z,Z,Y,r3,k,e,L⟩=>?_)) hm
 subst e;cases r3;show wpAny_truthy_bool ?_;cases k with
 |false=>let#[k',e',q']:=L;cases e';show ite_ff #[Z,Y,q']
 |true=>show ite_tt (test_last (Aj (hc z4 s3 σ Z _ Y L) λw' s4⟨z',H4,I4,r4,q4⟩=>Aj (G z4 s4 σ H4 y z' u w' _ I4 J r4 q4) λd' s5 zq=>?_));let#[z2,H5,I5,r5,k2,e2,q5]:=zq;subst e2;cases r5;show wpAny_truthy_bool #[H5,I5,q5]
def av(K:W.Frag)(x:V)(H:Hp)(k:Bool):Prop:=
 match x with
 |.non=>k=false
 |.bl b=>k=b
 |.int i=>k=(i !=0)
 |.str y=>y.length<=sizeLine/\k=((y.length:Int) !=0)
 |.byt y=>y.size<=sizeLine/\k=((y.size:Int) !=0)
 |.ref p=>(∃xs,bO K H p xs/\k=!xs.isEmpty)\/(∃xs,bF K H p xs/\k=!xs.isEmpty)\/∃z5,H p=⇑(.dK z5)/\k=!z5.isEmpty
 |_=>False
def VF(r:KV z5 vs):(!vs.isEmpty)=!z5.isEmpty:=by cases r<;>rfl
def NH(r:zX xs v):(!v.toArray.isEmpty)=!xs.isEmpty:=by cases r<;>simp
def AJ:(sizeLine:Nat)<2^63:=by rw[zv];decide
def ON:rf X (λx H Q=>∃k,av X.K x H k/\Q k H):=by
 intro z4 s σ H x v Q I J h;let#[k,e,q]:=h;let hl:=AJ;let hs:sizeLine=16777216:=zv;cases x with
 |non=>cases J;let F:k=false:=e;subst F;show truthy_none #[H,I,q]
 |bl b=>cases J;let F:k=b:=e;subst F;show wpAny_truthy_bool #[H,I,q]
 |int i=>let#[t,rfl]:=J;let F:k=(i !=0):=e;subst F;show PySem.P.truthy_int #[H,I,q]
 |str y=>let#[t,rfl]:=J;obtain⟨hy,F⟩:y.length<=sizeLine/\k=((y.length:Int) !=0):=e;subst F;show PySem.P.truthy_str ∅ #[H,I.tok _,q]
 |byt y=>let#[t,rfl]:=J;obtain⟨hy,F⟩:y.size<=sizeLine/\k=((y.size:Int) !=0):=e;subst F;show W.truthy_bytes ∅ #[H,I.tok _,q]
 |ref p=>
  cases J;let F:(∃xs,bO X.K H p xs/\k=!xs.isEmpty)\/(∃xs,bF X.K H p xs/\k=!xs.isEmpty)\/∃z5,H p=⇑(.dK z5)/\k=!z5.isEmpty:=e;rcases F with⟨xs,L,F⟩|⟨xs,L,F⟩|⟨z5,L,F⟩
  .subst F;let#[Y,r,M,Z]:=I.list L;let G:=r.length;show wpAny_truthy_list M.isList (by simp only[qr];lia) #[H,I.tok _,by rw[NH r];show q]
  .subst F;let#[Y,r,M,Z]:=I.tuple L;let G:=r.length;show truthy_tuple M (by simp only[qr];lia) #[H,I.tok _,by rw[NH r];show q]
  .subst F;obtain⟨Z,hS,vs,r,m⟩:z5.length<=sizeLine/\(p==sysModules)=false/\∃vs,KV z5 vs/\s.heap.DictOf (aL X.prog X.w) p vs:=I.hok p _ L;let G:z5.length=vs.length:=Paired.length r;show wpAny_truthy_dict hS m ∅ #[H,I.tok _,by rw[VF r];show q]
 |_=>show(show False from e).elim
def Ss(ha:PE X a ta)(he:∀whole,isTrue a X.env whole=(do let v<-whole;standAt a.pos;holding [v] (truthy v))):
  PT X a (λσ H Q=>ta σ H λx H'=>∃k,av X.K x H' k/\Q k H'):=by
 intro z4 s σ H Q I h;show isTrue_plain (Aj (ha z4 s σ H _ I h) λv s1⟨x,H1,I1,r1,q1⟩=>ON z4 s1 σ H1 x v Q I1 r1 q1) (he _)
def Vt:OpR X (binaryOp .Add) (λx y H Q=>∃i j,x=.str i/\y=.str j/\i.length+j.length<=sizeLine/\Q (.str (i++j)) H):=by intro z4 s σ H x y v u Q I J G h;let#[i,j,rfl,rfl,L,q]:=h;let#[t,rfl]:=J;let#[F,rfl]:=G;show add_str (λF tk=>#[.str (i++j),H,I.tok _,#[_,rfl],q]) L
theorem vals1(r:zX [x] us):∃u,us=[u]/\zP x u:=by
 cases r with
 |cons F v=>cases v;show#[_,rfl,F]
theorem vals2(r:zX [x,y] us):∃u v,us=[u,v]/\zP x u/\zP y v:=by
 cases r with
 |cons L J=>
  cases J with
  |cons G F=>cases F;show#[_,_,rfl,L,G]
def TU(F:X.calm=true):aU X (.builtin "max") (λxs H Q=>∃i j,xs=[.int i,.int j]/\Q (.int (if j>i then j else i)) H):=by
 intro z4 s σ H xs J Q I r h;let#[i,j,rfl,q]:=h;let#[u,G,rfl,#[t,rfl],#[L,rfl]]:=vals2 r;show max_two_ints (I.ok.hd F) λh' tk k=>#[_,H,I.kept k,?_,q]
 by_cases v:j>i
 .rw[zj v,zj v];show#[_,rfl]
 .rw[zk v,zk v];show#[_,rfl]
def UE(F:X.calm=true):aU X (.builtin "min") (λxs H Q=>∃i j,xs=[.int i,.int j]/\Q (.int (if j<i then j else i)) H):=by
 intro z4 s σ H xs J Q I r h;let#[i,j,rfl,q]:=h;let#[u,G,rfl,#[t,rfl],#[L,rfl]]:=vals2 r;show min_two_ints (I.ok.hd F) λh' tk k=>#[_,H,I.kept k,?_,q]
 by_cases v:j<i
 .rw[zj v,zj v];show#[_,rfl]
 .rw[zk v,zk v];show#[_,rfl]
def US:aU X (.type "int") (λxs H Q=>(∃i,xs=[.int i]/\Q (.int i) H)\/∃k,xs=[.bl k]/\Q (.int (if k then 1 else 0)) H):=by
 intro z4 s σ H xs F Q I r h;rcases h with⟨i,rfl,q⟩|⟨k,rfl,q⟩
 .obtain⟨u,rfl,t,rfl⟩:=vals1 r;show call_int_int #[.int i,H,I,#[_,rfl],q]
 .obtain⟨u,rfl,v⟩:=vals1 r;cases v;show call_int_bool #[.int (if k then 1 else 0),H,I.tok _,#[_,rfl],q]
end
structure ax(h:Heap)(x dx C:Addr)(mA:Str->Option Value):Prop where
 obj:h.get? x=⇑(W.instObj C dx)
 ns:h.Ns1 dx mA
 ne:dx≠x
def TY{h:Heap}(n:h.Ns1 dx G):∃F,h.get? dx=⇑F/\∀name,W.lookIn name F=⇑(G name):=by
 let#[o,es,ep,L,Z,Y,_,M]:=n;show#[o,L,λname=>?_];let e:=M name;unfold nsFind findBy at e;rw[<-Array.find?_toList]at e;unfold W.lookIn;rw[Z];dsimp only;split
 .rename_i y q;rw[q]at e;show congrArg some e
 .rename_i q;rw[q]at e;let a:es.toList.any (·.refKey)=false:=by rw[List.any_eq_false];intro y J;let#[z,t,v]:=Y y (mem_toList_iff.mp J);simp[DictEntry.refKey,v]
  grind
def ax.look(I:ax h x dx C F):∃v,W.InstAt h x (W.instObj C dx) C ⇑v/\∀name,W.lookIn name v=⇑(F name):=
 let⟨v,ho,hl⟩:=TY I.ns
 #[v,#[I.obj,rfl,rfl,ho],hl]
def gW.some_of(r:gW ⇑v o):∃u,o=⇑u/\zP v u:=by
 cases o with
 |none=>show(show False from r).elim
 |some u=>show#[u,rfl,r]
section
variable{P:Program}{w:World}{H H':Hp}{h h':Heap}{a C dx:Addr}{fs fs':List (Str×V)}
def Rb(F:eV P w H h)(e:H a=⇑(.ins C dx fs)):∃v,ax h a dx C v/\(∀f,gW (fs.lookup f) (v f))/\PySem.Within v (fs.map (·.1))/\fs.length<=1000/\H dx=⇑(.own a):=by
 let#[d,z,J,G,v,n,r,q]:=(show zZ P w H h a (.ins C dx fs) from F a _ e)
 show#[v,#[G,n,J],r,q,z,d]
end
structure sy(K:W.Frag)(C:Addr):Prop where
 pg:W.plainGet K C Str.empty=true
 hd:W.hasDictIn K C=true
 po:W.plainOver K C=true
 sa:W.findIn K (.ref C) "__setattr__"=⇑⇑(.builtin "object.__setattr__")
def sy.get{K:W.Frag}(c:sy K C)(f:Str):W.plainGet K C f=true:=c.pg
section
variable{X:Cx}{z4:List (Addr×Obj)}{σ:St}{H:Hp}{s:Shared}{A:Around}{E:zF}{Q:zF}{c:Value}{b:Bool}
inductive gA(K:W.Frag)(H:Hp):V->Value->Prop where
 |non:gA K H .non (.type "NoneType")
 |bl (x:Bool):gA K H (.bl x) (.type "bool")
 |int (i:Int):gA K H (.int i) (.type "int")
 |str (x:Str):gA K H (.str x) (.type "str")
 |flt (x:UInt64):gA K H (.flt x) (.type "float")
 |lst {a:Addr} {xs:List V} (e:H a=some (.lst xs)):gA K H (.ref a) (.type "list")
 |frz {a:Addr} {o:Obj} {xs:List V} (e:H a=some (.frz o (.lst xs))):gA K H (.ref a) (.type "list")
 |tup {a:Addr} {xs:List V} (e:H a=some (.tup xs)):gA K H (.ref a) (.type "tuple")
 |dK {a:Addr} {z5:List (bV×V)} (e:H a=some (.dK z5)):gA K H (.ref a) (.type "dict")
 |dT {a:Addr} {z5:List (List bV×V)} (e:H a=some (.dT z5)):gA K H (.ref a) (.type "dict")
 |ins {a C dx:Addr} {fs:List (Str×V)} (e:H a=some (.ins C dx fs)) (cl:sy K C) (ha:W.findIn K (.ref C) "__class__"=some (some (.builtin "object.__class__")))
  (hn:W.specialIn K (.builtin "object.__class__") "__get__"=⇑⇑(.builtin "getset_descriptor.__get__")) (htk:W.takesIn K (.builtin "object.__class__")=⇑true)
  (hm:W.mroIn K C (.type "object")=⇑true):gA K H (.ref a) (.ref C)
def Ed(I:Inv X z4 σ H s)(v:zP x u)(Y:gA X.K H x t)(e:W.kitOne X.K t c=⇑b)(h:∀tk,Q (.bool b) {s with toks:=tk}):
  wpAny (model X.prog X.w) A (call (.builtin "isinstance") [u,c]) Q E s:=by
 cases Y with
 |non=>cases(show u=Value.none from v);show W.kia_one W.kitx_none I.kIn True.intro e (λz=>nomatch z) h
 |bl y=>cases(show u=Value.bool y from v);show W.kia_one W.kitx_bool I.kIn True.intro e (λz=>nomatch z) h
 |int i=>let#[t,q]:=(show∃t,u=Value.int i t from v);cases q;show W.kia_one W.kitx_int I.kIn True.intro e (λz=>nomatch z) h
 |str y=>let#[t,q]:=(show∃t,u=Value.str y t from v);cases q;show W.kia_one W.kitx_str I.kIn True.intro e (λz=>nomatch z) h
 |flt y=>let#[t,q]:=(show∃t,u=Value.float y t from v);cases q;show W.kia_one W.kitx_float I.kIn True.intro e (λz=>nomatch z) h
 |@lst a xs F=>
  cases(show u=Value.ref a from v);let#[_,_,n,_,h1]:=(show zZ X.prog X.w H s.heap a (.lst xs) from I.hok a _ F)
  show W.kia_one W.kitx_list I.kIn #[_,h1,rfl] e (λz=>nomatch z) h
 |@frz a Z xs F=>
  cases(show u=Value.ref a from v);let#[_,_,_,n,_,h1]:=(show zZ X.prog X.w H s.heap a (.frz Z (.lst xs)) from I.hok a _ F)
  show W.kia_one W.kitx_list I.kIn #[_,h1,rfl] e (λz=>nomatch z) h
 |@tup a xs F=>
  cases(show u=Value.ref a from v);let#[_,_,_,p]:=(show zZ X.prog X.w H s.heap a (.tup xs) from I.hok a _ F)
  let#[o,h1,h2,_]:=p;show W.kia_one W.kitx_tuple I.kIn #[o,h1,h2] e (λz=>nomatch z) h
 |@dK a G F=>
  cases(show u=Value.ref a from v);let#[_,_,vs,_,p]:=(show zZ X.prog X.w H s.heap a (.dK G) from I.hok a _ F)
  let#[o,es,ep,h1,h2,_]:=p;show W.kia_one W.kitx_dict I.kIn #[o,h1,h2.1] e (λz=>nomatch z) h
 |@dT a G F=>
  cases(show u=Value.ref a from v);let#[_,_,xs,_,o,es,ep,h1,h2,_]:=(show zZ X.prog X.w H s.heap a (.dT G) from I.hok a _ F)
  show W.kia_one W.kitx_dict I.kIn #[o,h1,h2.1] e (λz=>nomatch z) h
 |@ins a C dx fs F M ha hn L hm=>cases(show u=Value.ref a from v);let#[mA,O,_]:=Rb I.hok F;let#[od,J,_]:=O.look;show W.kia_one (W.kitx_own (M.get _) M.hd ha hn L hm) I.kIn J e (λz=>nomatch z) h
end
structure bU(k:Nat)(A:Around):Prop where
 hd:A.handled=none
 dp:A.depth+3*k+5<recursionLimit
 un:A.units+16*k+200<cLine
 gd:A.guards=⇑[]
def bU.mono(r:bU k A)(h:j<=k):bU j A:=#[r.hd,by let:=r.dp;lia,by let:=r.un;lia,r.gd]
def bU.deeper(r:bU (k+1) A)(env:Env):bU k (A.deeper env):=
 #[r.hd,by let:=r.dp;show A.depth+1+3*k+5<_;lia,by let:=r.un;show A.units+3+16*k+200<_;lia,r.gd]
def bU.depth(r:bU k A):A.depth<recursionLimit:=by let:=r.dp;lia
def bU.units(r:bU k A):A.units+64<cLine:=by let:=r.un;lia
def kn:TA:=λ_ H Q=>Q [] H
def cq(ta:TE)(v:TA):TA:=λσ H Q=>ta σ H λx H1=>v σ H1 λxs H2=>Q (x::xs) H2
section
variable{X:Cx}{e:Expr}{es:List Expr}{te:TE}{t:TA}{pos:Pos}
def JW:PA X [] kn:=λ_ _ _ _ H Q I h=>Calls.spliced_nil #[[],H,I,.nil,h]
def Ku(ha:PE X e te)(Z:PA X es t)(Y:autoParam (starEach (e::es) X.env=(false,eval e X.env)::starEach es X.env) rZ9):PA X (e::es) (cq te t):=by intro pos z4 s σ H Q I h;rw[Y];show wpAny _ _ (spliced ((false,eval e X.env)::backTo pos (starEach es X.env))) _ _ s;show Calls.spliced_cons (Aj (ha z4 s σ H _ I h) λu F v=>?_);let#[x,H1,I1,J,M]:=v;show Aj (Z pos z4 F σ H1 _ I1 M) λus s2⟨xs,H2,I2,G,L⟩=>#[x::xs,H2,I2,.cons J G,L]
def kh(t:TA):TE:=λσ H Q=>t σ H λxs H1=>xs.length<=sizeLine/\∀p,H1 p=none->Q (.ref p) (upd H1 p (.tup xs))
def ko(t:TA):TE:=λσ H Q=>t σ H λxs H1=>xs.length<=sizeLine/\∀p,H1 p=none->Q (.ref p) (upd H1 p (.lst xs))
def Pp(h:PA X es t):PE X (.Tuple es M pos) (kh t):=by intro z4 s σ H Q I J;show wpAny_Tuple_spliced (Aj (h pos z4 s σ H _ I J) λG v⟨xs,H1,F,r,z,q⟩=>#[by rw[<-r.length];show z,?_]);let L:H1 v.heap.objs.size=none:=F.hok.fresh (zm _);show#[.ref v.heap.objs.size,upd H1 v.heap.objs.size (.tup xs),F.laid (t':=v.toks) (λb u e=>qc _ e) (zm _) ?_,rfl,q _ L];show#[#[z,kX.new rfl (qd _ rfl)],G,r,#[_,qd _ rfl,rfl,_,rfl]]
def OO(h:PA X es t):PE X (.List es pos) (ko t):=by intro z4 s σ H Q I J;show wpAny_List_spliced (Aj (h pos z4 s σ H _ I J) λG v⟨xs,H1,F,r,z,q⟩=>#[by rw[<-r.length];show z,?_]);let L:H1 v.heap.objs.size=none:=F.hok.fresh (zm _);show#[.ref v.heap.objs.size,upd H1 v.heap.objs.size (.lst xs),F.laid (t':=v.toks) (λb u e=>qc _ e) (zm _) ?_,rfl,q _ L];show#[z,G,0,r,qd _ rfl]
end
abbrev Sp:=List V->Hp->VK->XK->Prop
abbrev iy:=List Env->Hp->Shared->XK->Value->Shared->Prop
structure tH(P:Program)(w:World)(K:W.Frag)(mg:Str->Option Value)(base:Heap)(A:Around)(outer:List Env)(s:Shared)(H:Hp):Prop where
 frames:A.frames=⇑outer
 mod:Mod K mg base
 bs:∀b o,base.get? b=⇑o->s.heap.get? b=⇑o/\H b=none
 bsz:base.objs.size<=s.heap.objs.size
 funs:s.heap.FunFrames base outer
 frf:∀b∈oW outer,H b=none
 hok:eV P w H s.heap
 bare:AllBare s.gens
@[inline]def CE(F:List Env)(P:Program)(w:World)(H:Hp)(s:Shared)(Q:VK)(u:Value)(s':Shared):Prop:=
 ∃v H',s'.os=s.os/\AllBare s'.gens/\Un (oW F) [] H H' s.heap s'.heap/\eV P w H' s'.heap/\zP v u/\Q v H'
@[inline]def CR(CX:iy)(v:List Env)(P:Program)(w:World)(H:Hp)(s:Shared)(Q:VK)(E:XK)(r:Result)(s':Shared):Prop:=
 match r with
 |.ok (.ret u)=>CE v P w H s Q u s'
 |.ok _=>False
 |.error e=>CX v H s E e s'
structure gB(P:Program)(w:World)(K:W.Frag)(mg:Str->Option Value)(base:Heap)(CX:iy)(k:Nat)(f:Addr)(fd:FuncData)(ps:List Str)(sp:Sp):Prop where
 len:∀vs H Q E,sp vs H Q E->vs.length=ps.length
 run:∀(A:Around)(outer:List Env)(s:Shared)(H:Hp)(args:Args)(us:List Value)(vs:List V)(Q:VK)(E:XK),bU k A->tH P w K mg base A outer s H->BindsTo s fd args (ps.zip us)->zX vs us->sp vs H Q E->
  codeAny (model P w) A (.call (.ref f) args) (CR CX outer P w H s Q E) s
section
variable{X:Cx}{z4:List (Addr×Obj)}{σ:St}{H:Hp}{s s':Shared}
def Inv.env0(I:Inv X z4 σ H s):tH X.prog X.w X.K X.mg X.base X.A X.stack s H:=
 #[I.ok.frames,I.ok.mod,I.bs,le_trans I.ok.bsz I.sz,I.stack,I.stkFree,I.hok,I.bare]
def Inv.after(I:Inv X z4 σ H s)(h:CE X.stack X.prog X.w H s Q u s'):EP X z4 σ Q u s':=by let#[v,H',os,F,un,J,r,q]:=h;let#[L,g,d,t,G]:=s';obtain rfl:G=s.os:=os;show#[v,H',I.call (h':=L) (g':=g) (d':=d) (t':=t) (ch:=[]) un J F (λb z=>absurd z (by simp)),r,q]
end
@[inline]def Binds(K:W.Frag)(fd:FuncData)(ps:List Str)(ds:List Value):Prop:=
 ∀(s:Shared)(us:List Value),K.In s.heap->(us++ds).length=ps.length->BindsTo s fd #[us,[]] (ps.zip (us++ds))
def Binds.all{K:W.Frag}(h:∀us:List Value,us.length=ps.length->bindArgs fd #[us,[]]=pure (ps.zip us)):Binds K fd ps []:=λs us _ v=>by rw[qB]at v⊢;show .of_eq (h us v)
structure aE(N P:List Str)(sc:Scope):Prop where
 kind:sc.kind=.function
 co:sc.isCoroutine=false
 gen:sc.isGenerator=false
 nd:N.Nodup
 pre:N.take P.length=P
 par:∀x∈P,sc.names.lookup x=⇑.local\/sc.names.lookup x=⇑.cell
 nofree:∀y∈sc.names,y.2≠.free
def MS{kindOf:Str->Option NameKind}:∀{binds:List (Str×Value)}{m:Str->Option Value},(∀v,(x,v)∉binds)->bindL kindOf binds m x=m x
 |[],_,_=>rfl
 |(n,v)::r,m,h=>by
  unfold bindL;rw[MS λw F=>h w (qk _ F)];split
  .let:x≠n:=by rintro rfl;exact h v qm
   simp[this]
  .rfl
def MV{kindOf:Str->Option NameKind}:∀{binds:List (Str×Value)}{m:Str->Option Value},(∀v,(x,v)∉binds)->bindC kindOf binds m x=m x
 |[],_,_=>rfl
 |(n,v)::r,m,h=>by
  unfold bindC;rw[MV λw F=>h w (qk _ F)];split
  .rfl
  .let:x≠n:=by rintro rfl;exact h v qm
   simp[this]
def MQ{kindOf:Str->Option NameKind}:∀{P:List Str}{vs:List Value}{i:Nat}{m:Str->Option Value},P.Nodup->P[i]?=⇑x->vs[i]?=⇑v->kindOf x=⇑.local->
  bindL kindOf (P.zip vs) m x=⇑v
 |[],_,_,_,_,h,_,_=>by simp at h
 |_::_,[],_,_,_,_,h,_=>by simp at h
 |p::P,w::vs,0,m,nd,h1,h2,hk=>by simp at h1 h2;subst h1;subst h2;show bindL kindOf ((p,w)::P.zip vs) m p=_;unfold bindL;rw[MS λv F=>(qO.mp nd).1 (of_mem_zip F).1,zj hk];simp
 |p::P,w::vs,i+1,m,nd,h1,h2,hk=>by show bindL kindOf ((p,w)::P.zip vs) m x=_;unfold bindL;show MQ (i:=i) (qO.mp nd).2 ↑h1 ↑h2 hk
def Mo{kindOf:Str->Option NameKind}:∀{P:List Str}{vs:List Value}{i:Nat}{m:Str->Option Value},P.Nodup->P[i]?=⇑x->vs[i]?=⇑v->kindOf x≠⇑.local->
  bindC kindOf (P.zip vs) m x=⇑v
 |[],_,_,_,_,h,_,_=>by simp at h
 |_::_,[],_,_,_,_,h,_=>by simp at h
 |p::P,w::vs,0,m,nd,h1,h2,hk=>by simp at h1 h2;subst h1;subst h2;show bindC kindOf ((p,w)::P.zip vs) m p=_;unfold bindC;rw[MV λv F=>(qO.mp nd).1 (of_mem_zip F).1,zk hk];simp
 |p::P,w::vs,i+1,m,nd,h1,h2,hk=>by show bindC kindOf ((p,w)::P.zip vs) m x=_;unfold bindC;show Mo (i:=i) (qO.mp nd).2 ↑h1 ↑h2 hk
def start(N:List Str)(vs:List V):St:=vs.map some++List.replicate (N.length-vs.length) none
def fZ(CX:iy)(P:Program)(w:World)(K:W.Frag)(mg:Str->Option Value)(base:Heap)(N:List Str)(qual:Str)(scope:Scope)(f:Addr)(cd:Value)(A:Around)(outer:List Env)(s:Shared)(H:Hp)(E:XK):Cx where
 prog:=P
 w:=w
 K:=K
 mg:=mg
 base:=base
 A:=A.deeper (envOfC qual scope s.heap.objs.size f cd)
 N:=N
 s₀:=s
 H₀:=H
 env:=envOfC qual scope s.heap.objs.size f cd
 outer:=outer
 stack:=envOfC qual scope s.heap.objs.size f cd::outer
 ex:=[]
 calm:=true
 fn:=λ_=>true
 pn:=[]
 xe:=λe s'=>wpAny (model P w) (A.deeper (envOfC qual scope s.heap.objs.size f cd)) (leaving (envOfC qual scope s.heap.objs.size f cd) e) (λ_ s''=>CX outer H s E e s'') (λe' s''=>CX outer H s E e' s'') s'
def LR{v:Scope}(h:v.names.lookup x=⇑.cell):∃c,(cellsFrom n v.names []).lookup x=⇑c:=by let q:=W.cellsFrom_some v.names n [] (.inl h);show isSome_iff_exists.mp q
def UB{K:W.Frag}
  (S:aE N ps scope)(hd:A.handled=none)(F:tH P w K mg base A outer s H)(hl:vs.length=ps.length)(r:zX vs us)
  (x:InCallC s s.heap.objs.size (bindL (envOfC qual scope s.heap.objs.size f Y).kindOf (ps.zip us) λ_=>none) (cellsFrom (s.heap.objs.size+1) scope.names []) (bindC (envOfC qual scope s.heap.objs.size f Y).kindOf (ps.zip us) λ_=>none) s1):
  Inv (fZ CX P w K mg base N qual scope f Y A outer s H E) [] (start N vs) H s1:=by
 let h4:ps.length<=N.length:=by let:=congrArg List.length S.pre;rw[qK]at this;lia
 obtain⟨h1,tk,rfl,hk⟩:=x.done;let G:∀b:Addr,b∉(fZ CX P w K mg base N qual scope f Y A outer s H E).ex:=λb z=>absurd (show b∈([]:List Addr) from z) (by simp);refine⟨#[F.mod,S.kind,rfl,rfl,zm _,λy z c h1 h2=>?_,λy J=>?_,λy c _ h=>?_,λ_=>hd,Around.frames_deeper F.frames,.inr #[rfl,rfl],λb z=>absurd z (G b),F.bs,F.bsz,λb _ _=>G b,λb z=>absurd z (G b),F.funs,F.frf],
  rfl,F.bare,Un.kept hk,#[_,x.toInCall.ns,λi y v h1 h2 h3=>?_],λy c h=>#[_,x.cell y c h],F.hok.fresh (zm _),λy c h=>?_,λp M=>absurd (show p∈([]:List (Addr×Obj)) from M) (by simp),F.hok.kept hk,?_⟩
 .show name_of_addr x.apart (PySem.mem_of_lookup h1) (PySem.mem_of_lookup h2)
 .let J:scope.names.lookup y=⇑.cell\/scope.names.lookup y=⇑.free:=J;rcases J with J|J
  .show LR J
  .show absurd rfl (S.nofree _ (PySem.mem_of_lookup J))
 .show le_of_lt (x.above y c (PySem.mem_of_lookup h))
 .have hi:i<vs.length:=by
   unfold start at h2;by_cases hi:i<vs.length
   .show hi
   .rw[getElem?_append_right ↑hi]at h2;rw[List.getElem?_replicate]at h2;split at h2<;>cases h2
  have ha:vs[i]?=⇑v:=by
   unfold start at h2;rw[getElem?_append_left ↑hi,qI]at h2;cases e:vs[i]? with
   |none=>rw[e]at h2;cases h2
   |some a=>rw[e]at h2;cases h2;rfl
  let#[u,Z,rv]:=r.get ha;let M:ps[i]?=⇑y:=by rw[<-S.pre,List.getElem?_take_of_lt ∅];show h1
  let L:ps.Nodup:=by rw[<-S.pre];show S.nd.sublist (List.take_sublist _ _)
  show#[u,rv,?_];rcases S.par y (qP M)with k|k
  .show .inl #[k,MQ L M Z k]
  .obtain⟨c,e⟩:=LR (n:=s.heap.objs.size+1) k;show .inr #[.inl k,c,e,?_];let q:=x.cell y c e;rw[Mo L M Z (by show scope.names.lookup y≠_;rw[k];decide)]at q;show q
 .show F.hok.fresh (le_of_lt (x.above y c (PySem.mem_of_lookup h)))
 .unfold start;show _=N.length;rw[qq,qo,List.length_replicate];lia
def NZ{K:W.Frag}{dV kV h2 pm G ct oc:Value}(lk:K.lookup f=⇑#[oc,od,.func (W.fnOf name qual params body scope dV kV h2 pm an G ct),h5])(h4:W.codeIn K G qual=true)(S:aE N ps scope)
  (len:∀vs H Q E,sp vs H Q E->vs.length=ps.length)
  (M:∀(A:Around)(F:List Env)(s:Shared)(H:Hp)(vs:List V)(Q:VK)(E:XK),bU k (A.deeper (envOfC qual scope s.heap.objs.size f G))->sp vs H Q E->
   ∃t,jY (fZ CX P w K mg base N qual scope f G A F s H E) body t/\t {nx:=λ_ H'=>Q .non H',rt:=Q} (start N vs) H):
  gB P w K mg base CX (k+1) f (W.fnOf name qual params body scope dV kV h2 pm an G ct) ps sp:=by
 refine#[len,λA F s H args us vs Q E hr e0 hb r Z=>?_];let hl:=len _ _ _ _ Z;let KX:K.In s.heap:=e0.mod.kin.keeps λb o e=>(e0.bs b o e).1;let h3:s.heap.NoLimit:=e0.mod.nolimit.keeps λb o e=>(e0.bs b o e).1;let L:∀y∈ps.zip us,scope.names.lookup y.1=⇑.local\/(scope.names.lookup y.1=⇑.cell/\((cellsFrom (s.heap.objs.size+1) scope.names []).lookup y.1).isSome=true):=λ⟨n,v⟩ hy=>by
  rcases S.par n (of_mem_zip hy).1 with q|q
  .show .inl q
  .show .inr #[q,W.cellsFrom_some _ _ _ (.inl q)]
 refine codeAny_call_function hr.depth (KX _ _ lk) rfl S.co S.gen rfl (W.codeRec_of KX h4) (hb _ _ _ _ ?_);show wpAny_newFunctionEnv_cells S.kind L λh6 he s1 x=>?_;subst he;show#[h3.keeps x.toInCall.keep,codeAny_func ?_];let#[t,ht,hq]:=M A F s H vs Q E (hr.deeper _) Z;let I:Inv (fZ CX P w K mg base N qual scope f G A F s H E) [] (start N vs) H s1:=UB S hr.hd e0 hl r x;show zz (ht [] s1 (start N vs) H _ I hq) (λfl s' Y=>?_) λe s' Y=>Y;let h1:∀{σ':St}{H':Hp}{v:V}{u:Value},Inv (fZ CX P w K mg base N qual scope f G A F s H E) [] σ' H' s'->zP v u->Q v H'->CE F P w H s Q u s':=
  λ{σ' H' v u} J rv q=>#[v,H',J.os,J.bare,J.base,J.hok,rv,q]
 cases fl with
 |ret u=>let#[v,σ',H',J,rv,q]:=Y;show h1 J rv q
 |next=>let#[σ',H',J,q]:=Y;show h1 (v:=V.non) (u:=Value.none) J rfl q
 |brk=>let#[_,_,_,q]:=Y;show False.elim q
 |cont=>let#[_,_,_,q]:=Y;show False.elim q
section
variable{X:Cx}{x:Str}{p pos:Pos}{e:Expr}{es:List Expr}{t:TA}{id T:String}{r:List V->Hp->VK->Prop}
def cu(r:List V->Hp->VK->Prop)(t:TA):TE:=λσ H Q=>t σ H λv H1=>r v H1 Q
def IB(hc:aU X (.builtin id) r)(hg:Gl X x)(hm:X.mg x=none)(Z:bootBuiltins x=⇑(.builtin id))(ha:PA X (e::es) t)(hn:autoParam (x≠"__name__") dZ9)(F:autoParam ((x==("__debug__":Str))=false) dZ9)
  (he:autoParam (starEach (e::es) X.env=(false,eval e X.env)::starEach es X.env) rZ9)(v:autoParam ((backTo pos (starEach es X.env)).any (·.1)=false) rZ9):PE X (.Call (.Name x p) (e::es) [] pos) (cu r t):=by
 intro z4 s σ H Q I h;show wpAny_Call_Name_kw (BU I hg hm Z ?_ hn F);show PyProof.Rows.callWith_builtin1 (Aj (ha pos z4 s σ H _ I h) λJ L⟨G,H1,I1,M,Y⟩=>hc z4 L σ H1 G J Q I1 M Y) he v
def Mq(hc:aU X (.type T) r)(hg:Gl X x)(hm:X.mg x=none)(Z:bootBuiltins x=⇑(.type T))(ha:PA X (e::es) t)(hn:autoParam (x≠"__name__") dZ9)(F:autoParam ((x==("__debug__":Str))=false) dZ9)
  (he:autoParam (starEach (e::es) X.env=(false,eval e X.env)::starEach es X.env) rZ9)(v:autoParam ((backTo pos (starEach es X.env)).any (·.1)=false) rZ9):PE X (.Call (.Name x p) (e::es) [] pos) (cu r t):=by
 intro z4 s σ H Q I h;show wpAny_Call_Name_kw (BU I hg hm Z ?_ hn F);show PyProof.Rows.callWith_type1 (Aj (ha pos z4 s σ H _ I h) λJ L⟨G,H1,I1,M,Y⟩=>hc z4 L σ H1 G J Q I1 M Y) he v
end
section
variable{κ:Type}[DecidableEq κ]
def eE(z5:List (κ×V))(k:κ):Option V:=(z5.find? λv=>↥(v.1=k)).map (·.2)
def dD(z5:List (κ×V))(k:κ)(v:V):List (κ×V):=
 if(z5.any λF=>↥(F.1=k))=true then z5.map (λF=>if F.1=k then(F.1,v)else F)else z5++[(k,v)]
def Fo{p:κ×V}{r:List (κ×V)}{k:κ}(e:p.1=k):eE (p::r) k=⇑p.2:=by simp[eE,List.find?_cons,e]
def Fh{p:κ×V}{r:List (κ×V)}{k:κ}(e:¬p.1=k):eE (p::r) k=eE r k:=by simp[eE,List.find?_cons,e]
def Lw(k:κ):∀z5:List (κ×V),(z5.any λv=>↥(v.1=k))=(eE z5 k).isSome
 |[]=>rfl
 |p::r=>by
  rw[any_cons];by_cases e:p.1=k
  .simp[Fo e,qU e,Bool.true_or,isSome_some]
  .rw[Fh e,qV e];show Lw k r
def FF(z5:List (κ×V))(k:κ)(v:V):(dD z5 k v).length<=z5.length+1:=by unfold dD;grind
def gW.isSome_eq(r:gW o u):o.isSome=u.isSome:=by
 cases o with
 |none=>cases u with
  |none=>rfl
  |some _=>show(show False from r).elim
 |some _=>cases u with
  |none=>show(show False from r).elim
  |some _=>rfl
def KV.val{z5:List (κ×V)}{vs:List (κ×Value)}(r:KV z5 vs)(k:κ):gW (eE z5 k) (valueAt vs k):=by
 induction r with
 |nil=>show True.intro
 |@cons p q ps v h t G=>
  let#[h1,h2]:=h;by_cases e:p.1=k
  .let F:q.1=k:=h1.symm.trans e;let b:valueAt (q::v) k=⇑q.2:=by simp[valueAt,F]
   rw[Fo e,b];show h2
  .let F:¬q.1=k:=λz=>e (h1.trans z);let b:valueAt (q::v) k=valueAt v k:=by simp[valueAt,F]
   rw[Fh e,b];show G
def KV.any(r:KV z5 vs)(k:κ):(z5.any λv=>↥(v.1=k))=vs.any λv=>↥(v.1=k):=by
 induction r with
 |nil=>rfl
 |cons h t F=>rw[any_cons,any_cons,F,h.1]
def KV.repl(r:KV z5 vs)(k:κ)(G:zP y u):
  KV (z5.map λv=>if v.1=k then(v.1,y)else v) (vs.map λv=>if v.1=k then(v.1,u)else v):=by
 induction r with
 |nil=>show .nil
 |@cons p q ps J h t F=>show .cons ?_ F;grind
def KV.put(r:KV z5 vs)(k:κ)(v:zP y u):KV (dD z5 k y) (stored vs k u):=by
 unfold dD stored;rw[r.any k];by_cases e:(vs.any λF=>↥(F.1=k))=true
 .rw[zj e,zj e];show r.repl k v
 .rw[zk e,zk e];show Paired.snoc r #[rfl,v]
def KV.length(r:KV z5 vs):z5.length=vs.length:=Paired.length r
end
def Dw(r:zP (kV k) u):(aL P w).is k u=true:=by
 cases k with
 |inl i=>let#[t,e]:=(show∃t,u=Value.int i t from r);subst e;show Wf P w i t
 |inr x=>let#[t,e]:=(show∃t,u=Value.str x t from r);subst e;show Wj P w x t
def MZ:∀{ks:List bV}{us:List Value},zX (ks.map kV) us->ItemsAre (aL P w) ks us
 |[],_,r=>by rw[map_nil]at r;cases r;show .nil
 |k::ks,_,r=>by
  cases r with
  |cons h t=>show .cons (Dw h) (MZ t)
abbrev KT(H:Hp):List (List bV×V)->List (List bV×Addr×Value)->Prop:=Paired λp q=>p.1=q.1/\H q.2.1=⇑(.tup (p.1.map kV))/\zP p.2 q.2.2
def KT.val{H:Hp}{z5:List (List bV×V)}{xs:List (List bV×Addr×Value)}(r:KT H z5 xs)(k:List bV):gW (eE z5 k) ((atKey xs k).map (·.2)):=by
 induction r with
 |nil=>show True.intro
 |@cons p q ps v h t G=>
  let#[h1,_,h2]:=h;by_cases e:p.1=k
  .let F:q.1=k:=h1.symm.trans e;let b:atKey (q::v) k=⇑q.2:=by simp[atKey,F]
   rw[Fo e,b];show h2
  .let F:¬q.1=k:=λz=>e (h1.trans z);let b:atKey (q::v) k=atKey v k:=by simp[atKey,F]
   rw[Fh e,b];show G
def KT.repl(r:KT H z5 xs)(k:List bV)(F:zP y u):
  KT H (z5.map λv=>if v.1=k then(v.1,y)else v) (xs.map (putAt k u)):=by
 induction r with
 |nil=>show .nil
 |@cons p q ps L h t G=>
  rw[qA];show .cons ?_ G;let#[h1,h2,J]:=h;unfold putAt;by_cases e:p.1=k
  .rw[zj e,zj (h1.symm.trans e)];show#[h1,h2,F]
  .rw[zk e,zk (λz=>e (h1.trans z))];show#[h1,h2,J]
def KT.put(r:KT H z5 xs)(k:List bV)(G:H b=⇑(.tup (k.map kV)))(v:zP y u):
  KT H (dD z5 k y) (storedH xs k b u):=by
 let e:(z5.any λF=>↥(F.1=k))=(atKey xs k).isSome:=by rw[Lw,(r.val k).isSome_eq,isSome_map]
 unfold dD storedH;rw[e];by_cases q:(atKey xs k).isSome=true
 .rw[zj q,zj q];show r.repl k v
 .rw[zk q,zk q];show Paired.snoc r #[rfl,G,v]
def KT.keeps(r:KT H z5 xs)(v:∀b ys,H b=⇑(.tup ys)->H' b=⇑(.tup ys)):KT H' z5 xs:=
 Paired.mapP r λ_ _ z=>#[z.1,v _ _ z.2.1,z.2.2]
def JJ(ok:eV P w H h)(e:Rd H a u):zZ P w H h a u:=e.ok ok
def EG(ok:eV P w H h)(e:Rd H a (.dK z5)):z5.length<=sizeLine/\(a==sysModules)=false/\∃vs,KV z5 vs/\h.DictOf (aL P w) a vs:=
 show zZ P w H h a (.dK z5) from JJ ok e
def Hv(ok:eV P w H h)(e:H a=⇑(.dK z5)):z5.length<=sizeLine/\(a==sysModules)=false/\∃vs,KV z5 vs/\h.DictOf (aL P w) a vs:=EG ok (.inl e)
def Ei(ok:eV P w H h)(e:H a=⇑(.tup (ks.map kV))):(tupleKind (aL P w)).is h ks a:=by
 let#[_,v,r,o,h1,h2,n,F]:=(show zZ P w H h a (.tup (ks.map kV)) from ok a _ e)
 show#[o,v.toArray,n,h1,h2,F,MZ r]
def EI(ok:eV P w H h)(e:Rd H a (.dT z5)):z5.length<=sizeLine/\(a==sysModules)=false/\
  ∃xs,KT H z5 xs/\h.DictOfH (tupleKind (aL P w)) a xs:=by
 let#[z,y,xs,r,o,es,ep,h1,h2,M,L,J]:=(show zZ P w H h a (.dT z5) from JJ ok e)
 refine#[z,y,xs,r,o,es,ep,h1,h2,M,L,λx v=>?_,J];let all:∀{l:List (List bV×V)}{m:List (List bV×Addr×Value)},KT H l m->∀x∈m,(tupleKind (aL P w)).is h x.1 x.2.1:=by
  intro l m q;induction q with
  |nil=>intro x v;show nomatch v
  |@cons p q ps Y F t G=>
   intro x v;rcases qC.mp v with e|v
   .subst e;show Ei ok (by rw[<-F.1];show F.2.1)
   .show G x v
 show all r x v
def JO(ok:eV P w H h)(e:H a=⇑(.dT z5)):z5.length<=sizeLine/\(a==sysModules)=false/\
  ∃xs,KT H z5 xs/\h.DictOfH (tupleKind (aL P w)) a xs:=EI ok (.inl e)
def jT(H:Hp)(a:Addr)(y:V)(r:Option V):Prop:=
 (∃z5 k,Rd H a (.dK z5)/\y=kV k/\r=eE z5 k)\/∃z5 k b,Rd H a (.dT z5)/\y=.ref b/\H b=⇑(.tup (k.map kV))/\r=eE z5 k
def pG(H:Hp)(a:Addr)(y v:V)(H':Hp):Prop:=
 (∃z5 k,H a=⇑(.dK z5)/\y=kV k/\z5.length<sizeLine/\H'=upd H a (.dK (dD z5 k v)))\/
 ∃z5 k b,H a=⇑(.dT z5)/\y=.ref b/\H b=⇑(.tup (k.map kV))/\z5.length<sizeLine/\H'=upd H a (.dT (dD z5 k v))
def Inv.big(I:Inv X z4 σ H s):sysModules<s.heap.objs.size:=by let h:mainGlobals<s.heap.objs.size:=(I.mod.glob.keeps I.bk).lt;show lt_trans ⋯ h
def TZ(hu:A.units+1<cLine)(I:Inv X z4 σ H s)(g:jT H a y ⇑v)(ry:zP y u)(h:∀J s',Inv X z4 σ H s'->zP v J->Q J s'):
  wpAny (model X.prog X.w) A (getItem (.ref a) u) Q E s:=by
 rcases g with⟨L,k,e,Z,l⟩|⟨L,k,b,e,Z,eb,l⟩
 .subst Z;let#[z,hd,vs,G,dd]:=EG I.hok e;let#[J,M,F]:=gW.some_of (v:=v) (o:=valueAt vs k) (by rw[l];show G.val k);show wpAny_getItem_of (Dw ry) dd.mapOf M (h J _ (I.tok _) F)
 .subst Z;cases(show u=Value.ref b from ry);let#[z,hd,xs,G,dd]:=EI I.hok e;let#[J,M,F]:=gW.some_of (v:=v) (o:=(atKey xs k).map (·.2)) (by rw[l];show G.val k);let#[p,hp,Y]:=q9.mp M;show wpAny_getItem_heap (tupleKind_room_in1 hu) (Ei I.hok eb) dd hp ?_;rw[Y];show h J _ (I.tok _) F
def JD(Y:A.units+1<cLine)(I:Inv X z4 σ H s)(g:jT H a y o)(M:zP y u)(h:∀s',Inv X z4 σ H s'->Q (.bool o.isSome) s'):
  wpAny (model X.prog X.w) A (compareOp .In u (.ref a)) Q E s:=by
 rcases g with⟨F,k,e,J,l⟩|⟨F,k,b,e,J,Z,l⟩
 .subst J;let#[z,G,vs,v,L]:=EG I.hok e;show wpAny_in_of (Dw M) G L.mapOf ?_;rw[<-(v.val k).isSome_eq,<-l];show h _ (I.tok _)
 .subst J;cases(show u=Value.ref b from M);let#[z,G,xs,v,L]:=EI I.hok e;show wpAny_in_heap (tupleKind_room_in1 Y) (Ei I.hok Z) G L ?_;let q:=(v.val k).isSome_eq;rw[isSome_map]at q;rw[<-q,<-l];show h _ (I.tok _)
def PN(Y:A.units+1<cLine)(I:Inv X z4 σ H s)(g:jT H a y o)(M:zP y u)(h:∀s',Inv X z4 σ H s'->Q (.bool (!o.isSome)) s'):
  wpAny (model X.prog X.w) A (compareOp .NotIn u (.ref a)) Q E s:=by
 rcases g with⟨F,k,e,J,l⟩|⟨F,k,b,e,J,Z,l⟩
 .subst J;let#[z,G,vs,v,L]:=EG I.hok e;show wpAny_notIn_of (Dw M) G L.mapOf ?_;rw[<-(v.val k).isSome_eq,<-l];show h _ (I.tok _)
 .subst J;cases(show u=Value.ref b from M);let#[z,G,xs,v,L]:=EI I.hok e;show wpAny_notIn_heap (tupleKind_room_in1 Y) (Ei I.hok Z) G L ?_;let q:=(v.val k).isSome_eq;rw[isSome_map]at q;rw[<-q,<-l];show h _ (I.tok _)
def Fd(I:Inv X z4 σ H s)(F:ij (H a))(G:Heap.SameBut a s.heap h')(J:∃q,h'.get? a=⇑q)(new:zZ X.prog X.w (upd H a v) h' a v):
  Inv X z4 σ (upd H a v) {s with heap:=h',toks:=t'}:=
 I.write (x:=a) (e:=a) F (.inl rfl) (λb q L z=>(G.2 b L).trans z) J new
def Hy(z:z5.length<=sizeLine)(F:(a==sysModules)=false)(v:KV z5 vs)(G:h'.DictOf (aL P w) a vs):
  zZ P w H' h' a (.dK z5):=#[z,F,vs,v,G]
def SJ(hu:A.units+1<cLine)(I:Inv X z4 σ H s)(g:pG H a y v H')(ry:zP y u)(rv:zP v r)(h:∀s',Inv X z4 σ H' s'->Q () s'):
  wpAny (model X.prog X.w) A (setItem (.ref a) u r) Q E s:=by
 rcases g with⟨G,k,e,ey,l,eH⟩|⟨G,k,b,e,ey,eb,l,eH⟩
 .subst ey eH;let#[z,hd,vs,F,dd]:=Hv I.hok e;let M:vs.length<=sizeLine:=by rw[<-F.length];exact z
  let Z:(dD G k v).length<=sizeLine:=by let:=FF G k v;lia
  show wpAny_setItem_pairs (hsz:=M) (Dw ry) dd λh' J Y=>h _ ?_;let he:∃q,h'.get? a=⇑q:=let⟨q,_,_,L,_⟩:=J;#[q,L]
  show Fd I (by rw[e];show True.intro) Y he (Hy Z hd (F.put k rv) J)
 .subst ey eH;cases(show u=Value.ref b from ry);let#[z,hd,xs,F,dd]:=JO I.hok e;let M:xs.length<=sizeLine:=by rw[<-Paired.length F];exact z
  let Z:(dD G k v).length<=sizeLine:=by let:=FF G k v;lia
  show wpAny_setItem_heap (hsz:=M) (tupleKind_room_in1 hu) (Ei I.hok eb) dd λh' J Y=>h _ ?_;let#[q,es,ep,L,h2,h3,h4,_,h5]:=J;show Fd I (by rw[e];show True.intro) Y ⟨q,L⟩ ⟨Z,hd,_,(F.put k eb rv).keeps λc ys ec=>?_,q,es,ep,L,h2,h3,h4,h5⟩;rw[Al (JP ec e (λz=>nomatch z))];show ec
def Wn(I:Inv X z4 σ H s)(g:jT H a y o):s.TypeIs (.ref a) "dict":=by
 rcases g with⟨v,k,e,_,_⟩|⟨v,k,b,e,_,_,_⟩
 .obtain⟨_,_,G,_,F⟩:=EG I.hok e;show F.typeIs
 .obtain⟨_,_,xs,_,F⟩:=EI I.hok e;show F.typeIs
def cy(L G J:TE):TS:=λD σ H=>J σ H λv H1=>L σ H1 λx H2=>G σ H2 λy M=>∃a F,x=.ref a/\pG M a y v F/\D.nx σ F
def Qz(hu:X.A.units+1<cLine)(ho:PE X o L)(hi:PE X i G)(hv:PE X value J)(hs:swapsWith value ⇑(.Subscript o i pos') pos.line X.env=pure false):
  PS X (.Assign [.Subscript o i pos'] value pos) (cy L G J):=by
 intro z4 s σ H D I h;show wpAny_Assign_Subscript (Aj (hv z4 s σ H _ I h) λr Y⟨v,H1,I1,rv,q1⟩=>Aj (ho z4 Y σ H1 _ I1 q1) λu M⟨x,H2,I2,rx,q2⟩=>Aj (hi z4 M σ H2 _ I2 q2) λiv s3 F=>?_) hs;let#[y,H3,I3,Z,a,H4,ex,g,q3]:=F;subst ex;obtain rfl:u=Value.ref a:=rx;show SJ hu I3 g Z rv λs4 I4=>#[σ,H4,I4,q3]
def LQ(h:Heap)(v:sysModules<h.objs.size):zZ P w H (h.push {cls:=.type "dict",data:=.dict #[]}) h.objs.size (.dK []):=
 #[zero_le _,beq_eq_false_iff_ne.mpr (Ne.symm (ne_of_lt v)),[],.nil,Heap.DictOf.new h]
def Tp(h:Heap)(v:sysModules<h.objs.size):zZ P w H (h.push {cls:=.type "dict",data:=.dict #[]}) h.objs.size (.dT []):=
 #[zero_le _,beq_eq_false_iff_ne.mpr (Ne.symm (ne_of_lt v)),[],.nil,_,#[],0,qd _ rfl,#[rfl,rfl,rfl],rfl,rfl,List.nodup_nil]
def kH:List (TE×TE)->St->Hp->(List (V×V)->Hp->Prop)->Prop
 |[],_,H,Q=>Q [] H
 |(tk,tv)::r,σ,H,Q=>tk σ H λx H1=>tv σ H1 λy H2=>kH r σ H2 λps v=>Q ((x,y)::ps) v
abbrev VV:List (V×V)->List (Value×Value)->Prop:=Paired λp q=>zP p.1 q.1/\zP p.2 q.2
def jq(X:Cx)(pos:Pos)(F:List (Option Expr))(v:List Expr)(G:List (TE×TE)):Prop:=
 ∀(z4:List (Addr×Obj))(s:Shared)(σ:St)(H:Hp)(Q:List (V×V)->Hp->Prop),Inv X z4 σ H s->kH G σ H Q->
  wpAny (model X.prog X.w) X.A (evalPairs (pairTrees F v X.env pos)) (λJ s'=>∃ps H',Inv X z4 σ H' s'/\VV ps J/\Q ps H') X.xe s
def Rt:jq X pos [] [] []:=λz4 s σ H Q I h=>pairTrees_nil_walk #[[],H,I,.nil,h]
def RZ(hk:PE X k tk)(hv:PE X v J)(hr:jq X pos ks vs F):
  jq X pos (⇑k::ks) (v::vs) ((tk,J)::F):=λz4 s σ H Q I h=>
 pairTrees_cons_walk (Aj (hk z4 s σ H _ I h) λu M⟨x,H1,I1,Z,q1⟩=>Aj (hv z4 M σ H1 _ I1 q1) λw2 L⟨y,H2,I2,Y,q2⟩=>Aj (hr z4 L σ H2 _ I2 q2) λws s3⟨ps,H3,I3,G,q3⟩=>#[(x,y)::ps,H3,I3,.cons #[Z,Y] G,q3])
def gP(z5 v:List (bV×V)):List (bV×V):=v.foldl (λF G=>dD F G.1 G.2) z5
def KV.merge:∀{v:List (bV×V)}{rs:List (bV×Value)}{z5:List (bV×V)}{vs:List (bV×Value)},KV v rs->KV z5 vs->KV (gP z5 v) (merged vs rs):=by
 intro v rs z5 vs r;induction r generalizing z5 vs with
 |nil=>intro q;show q
 |@cons p q ps J h t G=>
  intro F;let e:KV (dD z5 p.1 p.2) (stored vs q.1 q.2):=by let:=F.put p.1 h.2;rw[<-h.1];show this
  show G e
def NM:∀(v z5:List (bV×V)),(gP z5 v).length<=z5.length+v.length
 |[],z5=>by show z5.length<=z5.length+0;lia
 |p::r,z5=>by let h1:=NM r (dD z5 p.1 p.2);let h2:=FF z5 p.1 p.2;show(gP (dD z5 p.1 p.2) r).length<=_;rw[qt];lia
def ND:∀{z5:List (bV×V)}{v:List (Value×Value)},VV (z5.map λF=>(kV F.1,F.2)) v->∃rs,Carries (aL P w) v rs/\KV z5 rs
 |[],_,r=>by rw[map_nil]at r;cases r;show#[[],True.intro,.nil]
 |p::z5,_,r=>by
  cases r with
  |@cons a b L bs h t=>let#[rs,c,q]:=ND (P:=P) (w:=w) t;let#[J,G]:=b;show#[(p.1,G)::rs,#[Dw h.1,rfl,c],.cons #[rfl,h.2] q]
def cn(v:List (TE×TE)):TE:=λσ H Q=>∀p,H p=none->kH v σ (upd H p (.dK [])) λps H2=>H2 p=⇑(.dK [])/\∃z5:List (bV×V),ps=z5.map (λF=>(kV F.1,F.2))/\z5.length<=15/\Q (.ref p) (upd H2 p (.dK (gP [] z5)))
def Rh(h:jq X pos keys values J)(F:keys.all (·.isSome)=true)(hl:keys.length=values.length)(h0:keys≠[])
  (M:keys.length<=15):PE X (.Dict keys values pos) (cn J):=by
 intro z4 s σ H Q I q;let hn:=I.hok.fresh (zm s.heap.objs.size);let I1:=I.laid (a:=s.heap.objs.size) (o:=.dK []) (h':=s.heap.push {cls:=.type "dict",data:=.dict #[]}) (t':=s.toks) (λ_ _ q=>qc _ q) (zm _) (LQ s.heap I.big);show wpAny_Dict_walk (knd:=aL X.prog X.w) F hl h0 M (Aj (h z4 _ σ _ _ I1 (q _ hn)) λws s2 Z=>?_);let#[ps,H2,Y,L,e,v,ep,lk,q2]:=Z;subst ep;let#[rs,c,rk]:=ND (P:=X.prog) (w:=X.w) L;let#[z,hd,h2,r0,dd]:=Hv Y.hok e;cases r0;show#[rs,c,dd,λh' G hs=>#[.ref s.heap.objs.size,_,?_,rfl,q2]];let hz:(gP [] v).length<=sizeLine:=by let h1:=NM v [];rw[qw]at h1;rw[zv];lia
 let he:∃q,h'.get? s.heap.objs.size=⇑q:=let⟨q,_,_,hq,_⟩:=G;#[q,hq]
 show Fd Y (by rw[e];show True.intro) hs he (Hy hz hd (rk.merge .nil) G)
end L2
namespace HT
open PySem PyProof.Rows
def lexLt:List Int->List Int->Bool
 |[],[]=>false
 |[],_::_=>true
 |_::_,[]=>false
 |x::xs,y::ys=>if x=y then lexLt xs ys else ↥(x<y)
def uF(x y:Int)(xs ys:List Int):lexLt (x::xs) (y::ys)=if x=y then lexLt xs ys else ↥(x<y):=rfl
theorem cat_tup(ht:IsTup s.heap t vs.toArray)(hb:IsTup s.heap b v.toArray)(hv:vs≠[])
  (h1:v=[]->Q (.ref t) s)(h2:v≠[]->Q (.ref s.heap.objs.size) {s with heap:=s.heap.push {cls:=.type "tuple",data:=.seq (vs++v).toArray}})
  (hsz:vs.length+v.length<=sizeLine):wpAny (model prog w) A (binaryOp .Add (.ref t) (.ref b)) Q E s:=by
 let#[#[cls,dd,data,sl],M,hc,n,hd]:=id ht;let#[#[h3,J,data2,G],F,Z,n2,Y]:=id hb;subst hc hd Z Y;let e:vs.toArray++v.toArray=(vs++v).toArray:=by simp
 by_cases L:v=[]
 .exact concat_meets #[_,M,rfl] #[_,F,rfl] noFill_tuple_add seq_tuple_add PySem.F.slot_tuple_add PySem.F.entry_tuple_add (PySem.F.args_tuple_add_2 _ _)
   (tuple_addW1 t b vs.toArray v.toArray n n2 dd J sl G ↑hv (by simp[L])) #[M,F,h1 L]
 .refine concat_meets #[_,M,rfl] #[_,F,rfl] noFill_tuple_add seq_tuple_add PySem.F.slot_tuple_add PySem.F.entry_tuple_add (PySem.F.args_tuple_add_2 _ _)
   (tuple_addW2 t b vs.toArray v.toArray n n2 dd J sl G ↑hv ↑L (by rw[qr];show hsz)) #[M,F,?_]
  rw[e];show h2 L
def sIx(n d:Nat):Option Int->Nat
 |none=>d
 |some v=>if v<0 then(v+(n:Int)).toNat else min v.toNat n
theorem sIx_le(n d:Nat)(G:d<=n)(o:Option Int):sIx n d o<=n:=by
 cases o with
 |none=>show G
 |some v=>
  show(if v<0 then(v+(n:Int)).toNat else min v.toNat n)<=n;by_cases F:v<0
  .rw[zj F];lia
  .rw[zk F];show min_le_right _ _
def KN(v:Int)(n d:Nat):(if v<0 then max (v+(n:Int)) 0 else min v (n:Int))=((sIx n d ⇑v:Nat):Int):=by show(if v<0 then max (v+(n:Int)) 0 else min v (n:Int))=(((if v<0 then(v+(n:Int)).toNat else min v.toNat n):Nat):Int);grind
def UQ(lo hi:Option Int)(n:Nat):Builtin.Slice.sliceAdjust lo hi 1 (n:Int)=(((sIx n 0 lo:Nat):Int),((sIx n n hi:Nat):Int)):=by
 let h1:¬((1:Int)<0):=∅
 unfold Builtin.Slice.sliceAdjust;show Prod.ext ?_ ?_
 .cases lo with
  |none=>rfl
  |some v=>show KN v n 0
 .cases hi with
  |none=>rfl
  |some v=>show KN v n n
def VJ(i j:Nat):Builtin.Slice.slicePlaces (i:Int) (j:Int) 1=j-i:=by
 unfold Builtin.Slice.slicePlaces;let h1:(1:Int)>0:=∅
 split<;>lia
def Nt(p:IsPart v o)(h:Q o s):wpAny (model prog w) A (Builtin.Slice.slicePartIndex v) Q E s:=by
 cases p with
 |none=>show slicePart_none h
 |int i t=>show slicePart_int h
theorem sliceApplied_gen{lo hi:Option Int}{n:Nat}(Z:s.heap.IsSliceOf L J G .none)(Y:IsPart J lo)(M:IsPart G hi)
  (h:Q (((sIx n 0 lo:Nat):Int),1,sIx n n hi-sIx n 0 lo) s):wpAny (model prog w) A (Builtin.Slice.sliceApplied (.ref L) (pure (n:Int))) Q E s:=by
 let#[os,v,h1,F]:=id Z;show qa (qa (zr v F (x:=J) rfl (qa (zr v F (x:=G) rfl (qa (zr v F (x:=.none) rfl (qb ?_)))))));show qa (slicePart_none ?_);show qa (Nt Y (qa (Nt M (qa (qb ?_)))));show wpAny _ _ (match Builtin.Slice.sliceAdjust lo hi 1 (n:Int)with|(lo,hi)=>pure (lo,(1:Int),Builtin.Slice.slicePlaces lo hi 1)) _ _ s;rw[UQ lo hi n];show wpAny _ _ (pure (((sIx n 0 lo:Nat):Int),(1:Int),Builtin.Slice.slicePlaces ((sIx n 0 lo:Nat):Int) ((sIx n n hi:Nat):Int) 1)) _ _ s;rw[VJ];show qb h
def Sj(xs:Array Value)(i k:Nat):((List.range k).filterMap λ(m:Nat)=>xs[((i:Int)+(m:Int)*1).toNat]?).toArray=((xs.toList.drop i).take k).toArray:=by
 have e:(λ(m:Nat)=>xs[((i:Int)+(m:Int)*1).toNat]?)=λm=>xs[i+m]?:=by
  funext m
  let:((i:Int)+(m:Int)*1).toNat=i+m:=∅
  rw[this]
 rw[e];let:=pick_run xs i k;rw[List.filterMap_map]at this;let v:((λx=>xs[x]?)∘λx=>i+x)=λm=>xs[i+m]?:=rfl;rw[v]at this;rw[this]
theorem getItem_tuple_cut{lo hi:Option Int}(F:IsTup s.heap t items)(Z:s.heap.IsSliceOf Y vl vu .none)(pl:IsPart vl lo)(pu:IsPart vu hi)
  (hw:¬(sIx items.size 0 lo=0/\sIx items.size items.size hi=items.size))
  (h:Q (.ref s.heap.objs.size) {s with heap:=s.heap.push {cls:=.type "tuple",data:=.seq ((items.toList.drop (sIx items.size 0 lo)).take (sIx items.size items.size hi-sIx items.size 0 lo)).toArray}})
  (hsz:items.size<=sizeLine):wpAny (model prog w) A (getItem (.ref t) (.ref Y)) Q E s:=by
 let v:sizeOk (.seq ((items.toList.drop (sIx items.size 0 lo)).take (sIx items.size items.size hi-sIx items.size 0 lo)).toArray):=by show((items.toList.drop (sIx items.size 0 lo)).take (sIx items.size items.size hi-sIx items.size 0 lo)).toArray.size<=sizeLine;rw[qr,qK,qJ];show le_trans (min_le_right ..) (le_trans (sub_le ..) hsz)
 let#[os,G,L,h1]:=id Z;let M:s.TypeIs (.ref Y) "slice":=#[os,G,L]
 unfold getItem;try with_reducible show zx ?_
 first|show qa (qb ?_)|skip
 refine qa (wpAny_sequenceKey F.typeIs ⋯ ?_);refine qa (wpAny_callSpecial?_slot (name:=Str.ofString "__getitem__") F.typeIs PyProof.Rows.slot_tuple_getitem
  (zu PyProof.Rows.slot_tuple_getitem F.typeIs entry_tuple_getitem ?_ (args_tuple_getitem _ _)))
 show wpAny _ _ (Builtin.Tuple.tupleItemsOf (.ref t)>>=_) _ _ s;show qa (tupleItemsOf_ F ?_);show qa (wpAny_typeOf M ?_);show qa (sliceApplied_gen Z pl pu ?_);let J:¬((((sIx items.size 0 lo:Nat):Int)==0&&(1:Int)==1&&(sIx items.size items.size hi-sIx items.size 0 lo)==items.size)=true):=by grind
 show wpAny _ _ (if(((sIx items.size 0 lo:Nat):Int)==0&&(1:Int)==1&&(sIx items.size items.size hi-sIx items.size 0 lo)==items.size)=true then _ else _) _ _ s;rw[zk J,Sj];first
  |show qa (m:=Builtin.Tuple.tupleExact _) (zt (qb ⟨_,rfl,qb h⟩) v)
  |show qa (m:=Builtin.Tuple.tupleExact _) (zt (qa (qb (qb ⟨_,rfl,qb h⟩))) v)
  |show qa (qa (m:=Builtin.Tuple.tupleExact _) (zt (qb (qb ⟨_,rfl,qb h⟩)) v))
  |show qa (qa (m:=Builtin.Tuple.tupleExact _) (zt (qb ⟨_,rfl,qb h⟩) v))
end HT
namespace L2
open PySem PySem.Spec PyProof.Rows
abbrev TO:=St->Hp->(Option Int->Hp->Prop)->Prop
@[inline]def PO(X:Cx)(e:Option Expr)(t:TO):Prop:=
 ∀(z4:List (Addr×Obj))(s:Shared)(σ:St)(H:Hp)(Q:Option Int->Hp->Prop),Inv X z4 σ H s->t σ H Q->
  wpAny (model X.prog X.w) X.A (evalPart e X.env) (λu s'=>∃o H',Inv X z4 σ H' s'/\IsPart u o/\Q o H') X.xe s
def rW:TO:=λ_ H Q=>Q none H
def cf(t:TE):TO:=λσ H Q=>t σ H λx H1=>∃i,x=.int i/\Q ⇑i H1
def Hl:∀{us:List Value},zX (ns.map V.int) us->IntsAre us ns:=by
 induction ns with
 |nil=>intro us r;rw[map_nil]at r;cases r;show .nil
 |cons n ns G=>
  intro us r;cases r with
  |cons F v=>let#[t,e]:=F;subst e;show .cons n t (G v)
section
variable{lo hi:Option Expr}
def Lc:PO X none rW:=by intro z4 s σ H Q I h;show qb #[none,H,I,.none,h]
def GE(h:PE X e te):PO X ⇑e (cf te):=by intro z4 s σ H Q I J;show Aj (h z4 s σ H _ I J) λu M v=>?_;let#[x,H1,L,F,G]:=v;let#[i,rfl,q]:=G;let#[t,rfl]:=F;show#[⇑i,H1,L,.int i t,q]
def mV(X:Cx)(r:V->Option Int->Option Int->Hp->VK->Prop):Prop:=
 ∀(z4:List (Addr×Obj))(s:Shared)(σ:St)(H:Hp)(x:V)(v G F:Value)(lo hi:Option Int)(J:Addr)(Q:VK),Inv X z4 σ H s->zP x v->s.heap.IsSliceOf J G F .none->IsPart G lo->IsPart F hi->r x lo hi H Q->
  ∃T id,typeLookup (.type T) "__getitem__"=pure ⇑(.builtin id)/\s.TypeIs v T/\wpAny (model X.prog X.w) X.A (getItem v (.ref J)) (EP X z4 σ Q) X.xe s
def mV.or(h:mV X r)(h':mV X r'):mV X (λx lo hi H Q=>r x lo hi H Q\/r' x lo hi H Q):=by
 intro z4 s σ H x v G F lo hi J Q I L Z Y M q;rcases q with q|q
 .show h z4 s σ H x v G F lo hi J Q I L Z Y M q
 .show h' z4 s σ H x v G F lo hi J Q I L Z Y M q
def vp(r:V->Option Int->Option Int->Hp->VK->Prop)(te:TE)(v F:TO):TE:=λσ H Q=>te σ H λx H1=>v σ H1 λl H2=>F σ H2 λu G=>r x l u G Q
def Iq(hr:mV X r)(he:PE X e te)(hl:PO X lo M)(hu:PO X hi Y):PE X (.Subscript e (.Slice lo hi none p2) pos) (vp r te M Y):=by intro z4 s σ H Q I h;show Subscript_ (Aj (he z4 s σ H _ I h) λv s1 F=>?_);let#[x,H1,I1,r1,q1]:=F;show wpAny_Slice (Aj (hl z4 s1 σ H1 _ I1 q1) λJ Z⟨l,H2,I2,pl,q2⟩=>Aj (hu z4 Z σ H2 _ I2 q2) λG s3 F=>?_);let#[u,L,I3,pu,q3]:=F;show qb ?_;let I4:Inv X z4 σ L {s3 with heap:=s3.heap.push {cls:=.type "slice",data:=.fields [J,G,.none].toArray}}:=I3.kept (t':=s3.toks) λb ob q=>qc _ q;let#[T,id,hT,ht,hg]:=hr z4 {s3 with heap:=s3.heap.push {cls:=.type "slice",data:=.fields [J,G,.none].toArray}} σ L x v J G l u s3.heap.objs.size Q I4 r1 (Heap.IsSliceOf.new ..) pl pu q3;show tail_any (ops:=[.ref s3.heap.objs.size,v]) ht hT hg (by with_unfolding_all rfl)
def jL(xs:List V)(lo hi:Option Int):List V:=(xs.drop (HT.sIx xs.length 0 lo)).take (HT.sIx xs.length xs.length hi-HT.sIx xs.length 0 lo)
def Ng(xs:List V)(lo hi:Option Int):(jL xs lo hi).length<=xs.length:=by unfold jL;rw[qK,qJ];show le_trans (min_le_right ..) (sub_le ..)
def de(K:W.Frag):V->Option Int->Option Int->Hp->VK->Prop:=λx lo hi H Q=>∃a xs,x=.ref a/\bF K H a xs/\
 ¬(HT.sIx xs.length 0 lo=0/\HT.sIx xs.length xs.length hi=xs.length)/\∀p,H p=none->Q (.ref p) (upd H p (.tup (jL xs lo hi)))
def OF:mV X (de X.K):=by
 intro z4 s σ H x v vl vu lo hi sl Q I M hs Z Y h;let#[a,xs,rfl,hx,hw,q]:=h;cases M;let#[G,r,L,J]:=I.tuple hx;let F:G.toArray.size=xs.length:=by rw[qr];show r.length.symm
 show#["tuple",_,PyProof.Rows.slot_tuple_getitem.lookup,L.typeIs,?_];show HT.getItem_tuple_cut L hs Z Y (by rw[F];show hw) ?_ (by rw[F];show J);rw[F];show#[.ref s.heap.objs.size,_,I.laid (t':=s.toks) (o:=.tup (jL xs lo hi)) (λb ob q=>qc _ q) (zm _) ?_,rfl,q _ (I.hok.fresh (zm _))];show#[#[le_trans (Ng xs lo hi) J,kX.new rfl (qd _ rfl)],_,(r.drop (HT.sIx xs.length 0 lo)).take (HT.sIx xs.length xs.length hi-HT.sIx xs.length 0 lo),IsTup.new _ _]
def dq(K:W.Frag):R2:=λx y H Q=>∃a b xs ys,x=.ref a/\y=.ref b/\bF K H a xs/\bF K H b ys/\xs≠[]/\xs.length+ys.length<=sizeLine/\
 (ys=[]->Q (.ref a) H)/\(ys≠[]->∀p,H p=none->Q (.ref p) (upd H p (.tup (xs++ys))))
def zX.nil_iff(r:zX xs us):us=[]↔xs=[]:=by
 cases r with
 |nil=>simp
 |cons _ _=>simp
def QH:OpR X (binaryOp .Add) (dq X.K):=by intro z4 s σ H x y v u Q I Y M h;let#[a,b,xs,ys,rfl,rfl,ha,hb,hx,L,q1,Z]:=h;cases Y;cases M;let#[h1,G,p1,_]:=I.tuple ha;let#[J,F,p2,_]:=I.tuple hb;show HT.cat_tup p1 p2 (λz=>hx (G.nil_iff.mp z)) (λz=>#[.ref a,H,I,rfl,q1 (F.nil_iff.mp z)]) (λz=>?_) (by rw[<-G.length,<-F.length];show L);show#[.ref s.heap.objs.size,_,I.laid (t':=s.toks) (o:=.tup (xs++ys)) (λb ob q=>qc _ q) (zm _) ?_,rfl,Z (λw=>z (F.nil_iff.mpr w)) _ (I.hok.fresh (zm _))];show#[#[by rw[qq];show L,kX.new rfl (qd _ rfl)],_,G.append F,IsTup.new _ _]
end
def ixN(n:Nat)(i:Int):Option Nat:=if 0<=i then(if i<n then ⇑i.toNat else none)else if -(n:Int)<=i then ⇑(i+n).toNat else none
def atI{α:Type}(xs:List α)(i:Int):Option α:=(ixN xs.length i).bind λj=>xs[j]?
def HZ(h:ixN n i=⇑j):seqIndex? i n=⇑j/\j<n/\-(n:Int)<=i/\i<n:=by
 unfold ixN at h;by_cases v:0<=i
 .rw[zj v]at h;by_cases h1:i<n
  .rw[zj h1]at h;let e:i.toNat=j:=qf h;show#[by rw[seqIndex_of v h1,e],∅,∅,h1]
  .rw[zk h1]at h;cases h
 .rw[zk v]at h;by_cases h1:-(n:Int)<=i
  .rw[zj h1]at h;let e:(i+n).toNat=j:=qf h;show#[by rw[seqIndex_neg ∅ h1,e],∅,h1,∅]
  .rw[zk h1]at h;cases h
def HY(h:atI xs i=⇑v):∃j,seqIndex? i xs.length=⇑j/\xs[j]?=⇑v/\j<xs.length/\-(xs.length:Int)<=i/\i<xs.length:=by
 unfold atI at h;cases e:ixN xs.length i with
 |none=>rw[e]at h;cases h
 |some j=>rw[e]at h;let#[h1,h2,G,F]:=HZ e;show#[j,h1,h,h2,G,F]
def Hd(xs:List α)(v:α):atI (xs++[v]) (-1)=⇑v:=by
 let F:(xs++[v]).length=xs.length+1:=by simp
 let e:ixN (xs++[v]).length (-1)=⇑xs.length:=by unfold ixN;rw[F,zk ⋯,zj ∅];congr 1;lia
 unfold atI;rw[e];simp
def gE(b:Expr):Prop:=∀o i,subscripted b false o i=operate [o,i] (getItem o i)
def pN(X:Cx)(r:R2):Prop:=
 ∀(G F:Expr)(z4:List (Addr×Obj))(s:Shared)(σ:St)(H:Hp)(x y:V)(v u:Value)(Q:VK),Inv X z4 σ H s->zP x v->zP y u->r x y H Q->
  subscripted F false v u=operate [v,u] (getItem v u)->wpAny (model X.prog X.w) X.A (subscriptTail G F v u) (EP X z4 σ Q) X.xe s
def vg(X:Cx)(id:String)(r:V->List V->Hp->VK->Prop):Prop:=
 ∀(z4:List (Addr×Obj))(s:Shared)(σ:St)(H:Hp)(x:V)(xs:List V)(v:Value)(us:List Value)(Q:VK),Inv X z4 σ H s->zP x v->zX xs us->r x xs H Q->
  wpAny (model X.prog X.w) X.A (call (.builtin id) (v::us)) (EP X z4 σ Q) X.xe s
section
def pN.or(h:pN X r)(h':pN X Y):pN X (λx y H Q=>r x y H Q\/Y x y H Q):=by
 intro F G z4 s σ H x y v u Q I L J q M;rcases q with q|q
 .show h F G z4 s σ H x y v u Q I L J q M
 .show h' F G z4 s σ H x y v u Q I L J q M
def Ht(M:pN X r)(Z:PE X a ta)(Y:PE X b tb)(L:gE b):PE X (.Subscript a b pos) (ji r ta tb):=by intro z4 s σ H Q I h;show Subscript_ (Ef Z Y I h λv u F x y H2 I2 J G q=>M a b z4 F σ H2 x y v u Q I2 J G q (L _ _))
def dm(K:W.Frag):R2:=λx y H Q=>∃p xs i v,x=.ref p/\y=.int i/\bO K H p xs/\atI xs i=⇑v/\Q v H
def dj(K:W.Frag):R2:=λx y H Q=>∃p xs i v,x=.ref p/\y=.int i/\bF K H p xs/\atI xs i=⇑v/\Q v H
def dk:R2:=λx y H Q=>∃z i c,x=.str z/\y=.int i/\z.length<=sizeLine/\atI z.cps.toList i=⇑c/\Q (.str #[[c].toArray]) H
theorem znz:pN X (dm X.K):=by
 intro G J z4 s σ H x y v u Q I rx ry h hs;let#[p,xs,i,z,rfl,rfl,hq,he,q]:=h;cases rx;let#[t,rfl]:=ry;let#[Y,r,M,hz]:=I.list hq;let#[j,h1,h2,h3,h4,h5]:=HY he;let#[w,ew,L]:=r.get h2;let hl:=r.length;let hn:=AJ;let F:EP X z4 σ Q w s:=#[z,H,I,L,q]
 by_cases h0:0<=i
 .let Z:i.toNat=j:=by rw[seqIndex_of h0 h5]at h1;exact qf h1
  show item_listR M.isList h0 ∅ (by rw[Z];simpa using ew) F hs
 .have Z:(i+(Y.toArray.size:Int)).toNat=j:=by rw[seqIndex_neg ∅ h4]at h1;rw[qr,<-hl];exact qf h1
  exact subscriptTail_builtinR (x:=w) M.isList.typeIs slot_list_getitem.lookup
   (wpAny_getItem_list_neg (Q:=λr s'=>r=w/\EP X z4 σ Q r s') M.isList ∅ (by rw[qr]<;>lia) ∅ (by rw[Z];simpa using ew) #[rfl,F]) hs
theorem zo5:pN X (dj X.K):=by
 intro F G z4 s σ H x y v u Q I Z Y h hs;let#[p,xs,i,z,rfl,rfl,hq,he,q]:=h;cases Z;let#[t,rfl]:=Y;let#[h6,r,M,hz]:=I.tuple hq;let#[j,h1,h2,h3,h4,h5]:=HY he;let#[w,ew,J]:=r.get h2;let hl:=r.length;let hn:=AJ;let L:EP X z4 σ Q w s:=#[z,H,I,J,q]
 exact subscriptTail_builtinR (x:=w) M.typeIs slot_tuple_getitem.lookup
  (getItem_tuple (j:=j) (Q:=λr s'=>r=w/\EP X z4 σ Q r s') M ∅ ∅ (by rw[qr,<-hl];show h1) ↑ew #[rfl,L]) hs
def Pv:pN X dk:=by
 intro F G z4 s σ H x y v u Q I L J h M;let#[z,i,c,rfl,rfl,hz,Z,q]:=h;let#[t,rfl]:=L;let#[t',rfl]:=J;let#[j,h1,h2,h3,h4,h5]:=HY Z;let Y:z.cps.toList.length=z.length:=by simp[Str.length]
 rw[Y]at h1 h4 h5;let hn:=AJ;show tail_any (typeIs_str s z t) slot_str_getitem.lookup (getItem_str (c:=c) (by let e1:↥(i< -(2^63:Int))=false:=qV ∅;let e2:↥(i≥2^63)=false:=qV ∅;rw[e1,e2,Bool.or_false]) (by rw[h1];simpa using h2) #[.str #[[c].toArray],H,I.tok _,#[_,rfl],q]) M
def jj(K:W.Frag):R2:=λx y H Q=>dm K x y H Q\/dj K x y H Q\/dk x y H Q
def Kk:pN X (jj X.K):=znz.or (zo5.or Pv)
def VU(v:List Value)(n j:Nat)(u:Value):Obj.mapSeq (·.setIfInBounds j u) {cls:=.type "list",data:=.seq v.toArray n}={cls:=.type "list",data:=.seq (v.set j u).toArray n}:=by simp[Obj.mapSeq]
def Inv.lst(I:Inv X z4 σ H s)(h:H p=⇑(.lst xs)):
  ∃(v:List Value)(n:Nat),zX xs v/\s.heap.get? p=some {cls:=.type "list",data:=.seq v.toArray n}/\xs.length<=sizeLine:=by
 let#[z,v,n,r,e]:=I.hok p _ h;show#[v,n,r,e,z]
def Inv.lstUpd{v its':List Value}(I:Inv X z4 σ H s)(h:H p=⇑(.lst xs))
  (J:s.heap.get? p=some {cls:=.type "list",data:=.seq v.toArray n})(G:f {cls:=.type "list",data:=.seq v.toArray n}={cls:=.type "list",data:=.seq its'.toArray F})(r:zX ys its')(hz:ys.length<=sizeLine)(t:Nat):
  Inv X z4 σ (upd H p (.lst ys)) {s with heap:=s.heap.update p f,toks:=t}:=by
 let e:(s.heap.update p f).get? p=some {cls:=.type "list",data:=.seq its'.toArray F}:=by rw[zp f J (by rw[G]<;>rfl),G]
 show I.write (x:=p) (e:=p) (by rw[h];trivial) (.inl rfl) (λb u L q=>(zo _ _ (Ne.symm L)).trans q) #[_,e] ?_;show#[hz,its',F,r,e]
def dh:V->V->V->Hp->(Hp->Prop)->Prop:=λo i v H Q=>∃p xs k j,o=.ref p/\i=.int k/\H p=⇑(.lst xs)/\ixN xs.length k=⇑j/\Q (upd H p (.lst (xs.set j v)))
def SD:ic X dh:=by
 intro z4 s σ H o i v ov iv u Q I ro ri rv h;let#[p,xs,k,j,rfl,rfl,M,hj,q]:=h;cases ro;let#[t,rfl]:=ri;let#[F,n,r,G,hz]:=I.lst M;let#[h1,h2,Z,Y]:=HZ hj;let J:=r.length;let hn:=AJ;let I':Inv X z4 σ (upd H p (.lst (xs.set j v))) {s with heap:=s.heap.update p (Obj.mapSeq (·.setIfInBounds j u))}:=
  I.lstUpd M G (VU F n j u) (r.set rv j) (by rw[List.length_set];show hz) s.toks
 by_cases h0:0<=k
 .let L:k.toNat=j:=by rw[seqIndex_of h0 Y]at h1;exact qf h1
  show W.ki_setAt G h0 ∅ (by rw[qr,<-J];show Y) (by rw[L];show#[_,I',q])
 .let L:(k+(F.toArray.size:Int)).toNat=j:=by rw[seqIndex_neg ∅ Z]at h1;rw[qr,<-J];exact qf h1
  show W.ki_setBack G ∅ (by rw[qr,<-J];show Z) ∅ (by rw[L];show#[_,I',q])
def Xc(lo hi:Option Int)(n:Nat):(sliceBounds lo hi none n).1=((HT.sIx n 0 lo:Nat):Int)/\(sliceBounds lo hi none n).2.1=((HT.sIx n n hi:Nat):Int)/\(sliceBounds lo hi none n).2.2=1:=by
 let v:∀(i:Int)(n d:Nat),max 0 (min (if i<0 then i+(n:Int)else i) (n:Int))=((HT.sIx n d ⇑i:Nat):Int):=λi n _=>DT i n;show#[?_,?_,rfl]
 .cases lo with
  |none=>rfl
  |some i=>show v i n 0
 .cases hi with
  |none=>rfl
  |some i=>show v i n n
def WY(v:List Value)(lo hi:Option Int):slicePick v.toArray lo hi none=((v.drop (HT.sIx v.length 0 lo)).take (HT.sIx v.length v.length hi-HT.sIx v.length 0 lo)).toArray:=by let#[h1,h2,F]:=Xc lo hi v.toArray.size;unfold slicePick;rw[h1,h2,F];simp only[sliceRange_one,pick_run]<;>rfl
def dg(K:W.Frag):V->Option Int->Option Int->Hp->VK->Prop:=λx lo hi H Q=>∃a xs,x=.ref a/\bO K H a xs/\∀p,H p=none->Q (.ref p) (upd H p (.lst (jL xs lo hi)))
def Rw:mV X (dg X.K):=by intro z4 s σ H x v vl vu lo hi sl Q I J hs M L h;let#[a,xs,rfl,hx,q]:=h;cases J;let#[Y,r,G,Z]:=I.list hx;let F:=r.length;show#["list",_,slot_list_getitem.lookup,G.isList.typeIs,?_];show wpAny_getItem_list_slice G.isList hs M L .none (by simp) ?_ (by rw[qr]<;>lia);rw[WY,<-F];show#[.ref s.heap.objs.size,_,I.laid (t':=s.toks) (o:=.lst (jL xs lo hi)) (λb ob q=>qc _ q) (zm _) ?_,rfl,q _ (I.hok.fresh (zm _))];show#[le_trans (Ng xs lo hi) Z,_,0,(r.drop (HT.sIx xs.length 0 lo)).take (HT.sIx xs.length xs.length hi-HT.sIx xs.length 0 lo),qd _ rfl]
def Wq:aU X (.builtin "len") (λxs H Q=>∃p ys,xs=[.ref p]/\(bO X.K H p ys\/bF X.K H p ys)/\Q (.int ys.length) H):=by
 intro z4 s σ H xs Z Q I r h;let#[p,ys,rfl,F,q]:=h;let#[u,rfl,M]:=vals1 r;cases M;let hn:=AJ;rcases F with F|F
 .obtain⟨L,G,J,Y⟩:=I.list F;let v:=G.length;show Calls.call_len_list J.isList (by simp<;>lia) #[.int ys.length,H,I.tok _,#[s.toks+1,by rw[qr,v]],q]
 .obtain⟨L,G,J,Y⟩:=I.tuple F;let v:=G.length;show len_tuple J (by simp<;>lia) #[.int ys.length,H,I.tok _,#[s.toks+1,by rw[qr,v]],q]
def Xe:aU X (.builtin "len") (λxs H Q=>∃z,xs=[.str z]/\z.length<=sizeLine/\Q (.int z.length) H):=by intro z4 s σ H xs v Q I r h;let#[z,rfl,F,q]:=h;let#[u,rfl,t,rfl]:=vals1 r;let G:=AJ;show len_str ∅ #[.int z.length,H,I.tok _,#[_,rfl],q]
def WV:aU X (.type "list") (λxs H Q=>∃p ys,xs=[.ref p]/\(bO X.K H p ys\/bF X.K H p ys)/\∀l,H l=none->Q (.ref l) (upd H l (.lst ys))):=by
 intro z4 s σ H xs us Q I r h;let#[p,ys,rfl,M,q]:=h;let#[u,rfl,rx]:=vals1 r;cases rx;let Z:∀(v:List Value),zX ys v->ys.length<=sizeLine->∀(h':Heap)(G:Nat),(∀b o',s.heap.get? b=⇑o'->h'.get? b=⇑o')->
   h'.get? s.heap.objs.size=some {cls:=.type "list",dict:=none,data:=.seq v.toArray G,slots:=#[]}->EP X z4 σ Q (.ref s.heap.objs.size) {s with heap:=h'}:=λv F L h' G J e=>
  #[.ref s.heap.objs.size,_,I.laid (t':=s.toks) J (zm _) (show zZ X.prog X.w _ h' _ (.lst ys) from#[L,v,G,F,e]),rfl,q _ (I.hok.fresh (zm _))]
 rcases M with M|M
 .obtain⟨v,F,pl,L⟩:=I.list M;let Y:=F.length;let#[o,ho,hc,n,hd]:=pl.isList;show call_list_seq p (.inl rfl) ho hc hd (λh' G J e=>Z v F L h' G J e) (by simp<;>lia)
 .obtain⟨v,F,pl,L⟩:=I.tuple M;let Y:=F.length;let#[o,ho,hc,n,hd]:=pl;show call_list_seq p (.inr rfl) ho hc hd (λh' G J e=>Z v F L h' G J e) (by simp<;>lia)
def WO:aU X (.type "tuple") (λxs H Q=>∃p ys,xs=[.ref p]/\((bO X.K H p ys/\∀l,H l=none->Q (.ref l) (upd H l (.tup ys)))\/(bF X.K H p ys/\Q (.ref p) H))):=by
 intro z4 s σ H xs us Q I r h;let#[p,ys,rfl,h]:=h;let#[u,rfl,Z]:=vals1 r;cases Z;rcases h with⟨J,q⟩|⟨J,q⟩
 .obtain⟨v,F,G,L⟩:=I.list J;let M:=F.length;show call_tuple_list G.isList (λh' kp=>?_) (by simp<;>lia);let Y:Inv X z4 σ H {s with heap:=h'}:=I.kept (t':=s.toks) kp;let I2:Inv X z4 σ (upd H h'.objs.size (.tup ys)) {s with heap:=h'.push {cls:=.type "tuple",data:=.seq v.toArray}}:=
   Y.laid (t':=s.toks) (λb o e=>qc _ e) (zm _) (show zZ X.prog X.w _ _ _ (.tup ys) from#[#[L,kX.new rfl (qd _ rfl)],v,F,IsTup.new _ _])
  show#[.ref h'.objs.size,_,I2,rfl,q _ (Y.hok.fresh (zm _))]
 .obtain⟨v,F,G,L⟩:=I.tuple J;show call_tuple_same G #[.ref p,H,I,rfl,q]
def kc(K:W.Frag)(T:String)(x:V)(H:Hp):Prop:=match x with
 |.str _=>T="str"
 |.int _=>T="int"
 |.ref p=>(T="list"/\∃xs,bO K H p xs)\/(T="tuple"/\∃o,K.lookup p=⇑o/\o.cls=.type "tuple"/\o.dict=none)\/
  (T="dict"/\((∃z5,H p=⇑(.dK z5))\/∃z5,H p=⇑(.dT z5)))
 |_=>False
def Kq(I:Inv X z4 σ H s)(r:zP x v)(G:kc X.K T x H):
  s.TypeIs v T/\∀a,v=.ref a->∃Y,s.heap.get? a=⇑Y/\Y.dict=none:=by
 cases x with
 |str z=>let#[t,rfl]:=r;cases(show T="str" from G);show#[typeIs_str s z t,λ_ e=>nomatch e]
 |int i=>let#[t,rfl]:=r;cases(show T="int" from G);show#[typeIs_int s i t,λ_ e=>nomatch e]
 |ref p=>
  cases r;rcases G with⟨rfl,xs,hq⟩|⟨rfl,o,F,hc,L⟩|⟨rfl,F⟩
  .obtain⟨Z,_,M,_⟩:=I.list hq;show#[M.isList.typeIs,λa e=>?_];cases e;let#[o,n,e,c,L,_]:=M;show#[o,e,L]
  .show#[#[o,I.kIn p o F,hc],λa e=>?_];cases e;show#[o,I.kIn _ o F,L]
  .have z:∃o,s.heap.get? p=⇑o/\o.ExactDict:=by
    rcases F with⟨J,F⟩|⟨J,F⟩
    .obtain⟨_,_,_,_,o,_,_,e,ex,_⟩:=I.hok p _ F;show#[o,e,ex]
    .obtain⟨_,_,_,_,o,_,_,e,ex,_⟩:=I.hok p _ F;show#[o,e,ex]
   let#[o,e,ex]:=z;show#[#[o,e,ex.1],λa e2=>?_];cases e2;show#[o,e,ex.2.1]
 |_=>show False.elim G
def ku(K:W.Frag)(T:String)(r:V->List V->Hp->VK->Prop)(v:TE):TE:=λσ H Q=>v σ H λx H1=>kc K T x H1/\r x [] H1 Q
def vt(K:W.Frag)(T:String)(r:V->List V->Hp->VK->Prop)(v:TE)(t:TA):TE:=λσ H Q=>v σ H λx H1=>kc K T x H1/\t σ H1 λxs H2=>r x xs H2 Q
variable{T id:String}
def PB(pa:PlainAttrs T)(slot:Slot T name id)(J:typeOf (.builtin id)=pure (.type "method_descriptor"))(hm:vg X id r)(ho:PE X o to)
  (G:autoParam (attributeBase o name X.env (eval o X.env)=eval o X.env) rZ9)(F:autoParam ((apos.endLine==cpos.line)=true) rZ9):PE X (.Call (.Attribute o name apos) [] [] cpos) (ku X.K T r to):=by
 intro z4 s σ H Q I h;show wpAny_Call_method0_late G F (Aj (ho z4 s σ H _ I h) λv s1 Y=>?_);let#[x,H1,M,L,Z,q1]:=Y;let#[h1,h2]:=Kq M L Z;show#[T,id,pa,slot,J,h1,h2,Calls.callWith_builtin rfl (PySem.evalArgs_none (hm z4 s1 σ H1 x [] v [] Q M L .nil q1))]
def EJ(pa:PlainAttrs T)(slot:Slot T name id)(M:typeOf (.builtin id)=pure (.type "method_descriptor"))(hm:vg X id r)(ho:PE X o to)(ha:PA X (e::es) t)
  (J:autoParam (attributeBase o name X.env (eval o X.env)=eval o X.env) rZ9)
  (L:autoParam (((backTo cpos (starEach (e::es) X.env)).all (λx=>!x.1)&&(backToKw cpos (keywordEach [] X.env)).all (λx=>x.1.isSome)
   &&↥((e::es).length+([]:List Keyword).length+(if([]:List Keyword).isEmpty then 0 else 1)<30))=true) rZ9)
  (G:autoParam ((apos.endLine==cpos.line)=true) rZ9)(hs:autoParam (starEach (e::es) X.env=(false,eval e X.env)::starEach es X.env) rZ9)(F:autoParam ((backTo cpos (starEach es X.env)).any (·.1)=false) rZ9):
  PE X (.Call (.Attribute o name apos) (e::es) [] cpos) (vt X.K T r to t):=by
 intro z4 s σ H Q I h;show wpAny_Call_method_late J L G rfl (Aj (ho z4 s σ H _ I h) λv s1 zq=>?_);let#[x,H1,I1,Y,ty,q1]:=zq;let#[h1,h2]:=Kq I1 Y ty;show#[T,id,pa,slot,M,h1,h2,?_];let Z:=ha cpos z4 s1 σ H1 _ I1 q1;rw[hs]at Z⊢;show Calls.callWith_builtin (by show(false||(backTo cpos (starEach es X.env)).any (·.1))=false;rw[F]<;>rfl) (Calls.evalArgs_plain ?_);show Aj Z λus s2⟨vs,H2,I2,r2,q2⟩=>hm z4 s2 σ H2 x vs v us Q I2 Y r2 q2
end
def bo(X:Cx)(id:String)(r:V->List V->Hp->VK->Prop):Prop:=
 ∀(z4:List (Addr×Obj))(s:Shared)(σ:St)(H:Hp)(x:V)(xs:List V)(v:Value)(us:List Value)(Q:VK),Inv X z4 σ H s->zP x v->zX xs us->r x xs H Q->
  wpAny (model X.prog X.w) X.A (call (.builtin id) (v::us)) (EP X z4 σ Q) X.xe s
def zX.one:∀{x:V}{us:List Value},zX [x] us->∃u,us=[u]/\zP x u:=by
 intro x us h;cases h with
 |cons r t=>cases t;show#[_,rfl,r]
def zX.zero:∀{us:List Value},zX [] us->us=[]
 |_,.nil=>rfl
def zX.eraseIdx:∀{xs:List V}{us:List Value}(i:Nat),zX xs us->zX (xs.eraseIdx i) (us.eraseIdx i)
 |_,_,_,.nil=>.nil
 |_,_,0,.cons _ t=>t
 |_,_,i+1,.cons r t=>.cons r (zX.eraseIdx i t)
def zX.reverse(h:zX xs us):zX xs.reverse us.reverse:=by
 induction h with
 |nil=>show .nil
 |cons r t v=>rw[reverse_cons,reverse_cons];show zX.append v (.cons r .nil)
def MY{α:Type}:∀(l:List α)(i:Nat),(l.eraseIdx i).length<=l.length
 |[],_=>zm _
 |_::_,0=>le_succ _
 |_::r,i+1=>succ_le_succ (MY r i)
def Inv.lset{v its':List Value}(I:Inv X z4 σ H s)(M:H l=⇑(.lst xs))
  (e:s.heap.get? l=some {cls:=.type "list",data:=.seq v.toArray n})(J:f v.toArray=its'.toArray)(F:zX ys its')(hz:ys.length<=sizeLine):
  Inv X z4 σ (upd H l (.lst ys)) {s with heap:=s.heap.update l (Obj.mapSeq f),toks:=t'}:=by
 let q:=PySem.IsL.update e f;rw[J]at q;show I.write (x:=l) (e:=l) (by rw[M];show trivial) (.inl rfl) (λY u L G=>(zo s.heap (Obj.mapSeq f) (Ne.symm L)).trans G) #[_,q] ?_;show#[hz,its',_,F,q]
def Inv.lnew(I:Inv X z4 σ H s)(F:zX ys v)(hz:ys.length<=sizeLine):
  Inv X z4 σ (upd H s.heap.objs.size (.lst ys)) {s with heap:=s.heap.push {cls:=.type "list",data:=.seq v.toArray},toks:=t'}:=
 I.laid (λ_ _ q=>qc _ q) (zm _) #[hz,v,0,F,qd _ rfl]
def Inv.fresh(I:Inv X z4 σ H s):H s.heap.objs.size=none:=I.hok.fresh (zm _)
def Inv.lstM(I:Inv X z4 σ H s)(F:H l=⇑(.lst xs)):xs.length<=sizeLine/\∃(v:List Value)(n:Nat),zX xs v/\xs.length=v.length/\s.heap.get? l=some {cls:=.type "list",data:=.seq v.toArray n}:=by let#[z,v,n,r,e]:=I.hok l _ F;show#[z,v,n,r,r.length,e]
def CT(h:n<=sizeLine):Builtin.List.listTooLong n=false:=by grind[Builtin.List.listTooLong]
def sA:V->List V->Hp->VK->Prop:=λx v H Q=>∃l xs y,x=.ref l/\v=[y]/\H l=⇑(.lst xs)/\xs.length<sizeLine/\Q .non (upd H l (.lst (xs++[y])))
def IJ:bo X "list.append" sA:=by intro z4 s σ H x Z v us Q I L M h;let#[l,xs,y,rfl,rfl,J,hz,q]:=h;cases L;let#[u,rfl,Y]:=M.one;let#[z,G,n,r,hl,e]:=I.lstM J;show call_meets F.slot_list_append #[_,e,rfl] F.entry_list_append (F.args_list_append_2 _ _) (PySem.list_append l G.toArray n u (by rw[qr];lia)) #[e,?_];show#[.non,_,I.lset (its':=G++[u]) J e (by simp) (r.append (.cons Y .nil)) ?_,rfl,q];rw[qq,qE];lia
def rZ:V->List V->Hp->VK->Prop:=λx F H Q=>∃l b xs v,x=.ref l/\F=[.ref b]/\H l=⇑(.lst xs)/\H b=⇑(.lst v)/\xs.length+v.length<=sizeLine/\Q .non (upd H l (.lst (xs++v)))
def UT:bo X "list.extend" rZ:=by
 intro z4 s σ H x vs v us Q I Y Z h;let#[l,b,xs,zs,rfl,rfl,M,hB,hz,q]:=h;cases Y;let#[u,rfl,ru]:=Z.one;cases ru;let#[z,J,n,r,hl,e]:=I.lstM M;let#[z2,G,n2,r2,h2,e2]:=I.lstM hB;let h1:J.toArray.size+G.toArray.size<=sizeLine:=by rw[qr,qr];lia
 let L:¬(!J.toArray.isEmpty&&Builtin.List.listTooLong (J.toArray.size+G.toArray.size))=true:=by grind[CT]
 refine call_meets F.slot_list_extend #[_,e,rfl] F.entry_list_extend (F.args_list_extend_2 _ _)
  (AutoSeq1.list_extend_list_list_0 l J.toArray n b G.toArray n2 L (by rw[qr];lia) ∅) #[e,e2,?_]
 show#[.non,_,I.lset (its':=J++G) M e (by simp) (r.append r2) ?_,rfl,q];rw[qq];lia
def wF:V->List V->Hp->VK->Prop:=λx v H Q=>∃l xs i k y,x=.ref l/\v=[.int i]/\H l=⇑(.lst xs)/\-(2^63)<=i/\i<2^63/\seqIndex? i xs.length=⇑k/\xs[k]?=⇑y/\Q y (upd H l (.lst (xs.eraseIdx k)))
def Su:bo X "list.pop" wF:=by
 intro z4 s σ H x vs v us Q I M Y h;let#[l,xs,i,k,y,rfl,rfl,L,h1,h2,hk,hy,q]:=h;cases M;let#[u,rfl,Z]:=Y.one;let#[t,rfl]:=Z;let#[z,G,n,r,hl,e]:=I.lstM L;let#[w,hw,J]:=r.get hy;refine call_meets F.slot_list_pop #[_,e,rfl] F.entry_list_pop (F.args_list_pop_2 _ _)
  (MeetsSeq.list_pop_at l G.toArray n i t k w (fitsIndex_both h1 h2) (by rw[qr,<-hl];show hk) (by rw[<-zc];show hw) (by rw[qr];lia)) #[e,?_]
 show#[y,_,I.lset (its':=G.eraseIdx k) L e ?_ (r.eraseIdx k) ?_,J,q]
 .show G.toArray.eraseIdxIfInBounds k=(G.eraseIdx k).toArray;rw[List.eraseIdxIfInBounds_toArray]
 .let:=MY xs k;lia
def oC:V->List V->Hp->VK->Prop:=λx v H Q=>∃l xs,x=.ref l/\v=[]/\H l=⇑(.lst xs)/\Q .non (upd H l (.lst xs.reverse))
def Wa:bo X "list.reverse" oC:=by intro z4 s σ H x Z v us Q I M Y h;let#[l,xs,rfl,rfl,L,q]:=h;cases M;let J:=Y.zero;subst J;let#[z,G,n,r,hl,e]:=I.lstM L;show call_meets F.slot_list_reverse #[_,e,rfl] F.entry_list_reverse (F.args_list_reverse_1 _) (AutoSeq1.list_reverse_list_0 l G.toArray n (by rw[qr];lia)) #[e,?_];show#[.non,_,I.lset (its':=G.reverse) L e (by simp) r.reverse ?_,rfl,q];rw[length_reverse];lia
end L2
namespace Att
open PySem PySem.W PySem.Calls PyProof.Rows
def Xf:∀(ns:List Int)(vs:List Value),WellAll P h vs (ns.map WData.int)->IntsAre vs ns:=by
 intro ns;induction ns with
 |nil=>intro vs w;cases w;show .nil
 |cons n ns v=>
  intro vs w;cases w with
  |cons a b=>cases a;show .cons _ _ (v _ b)
def UG{l:OpenLaw}(hn:l.most=⇑n)
  (v:l.row.toRowW.claim.pre args=true)(L:WellAll P h vals args):
  ∃a vs ns,vals=[Value.ref a]/\args=[WData.list (ns.map WData.int)]/\h.get? a=some {cls:=.type "list",data:=.seq vs.toArray}/\IntsAre vs ns/\ns.length<=n:=by
 have M:WShape.hasAll [] args [.list .int]=true:=(pre_splitW v).1;let hc:l.pre.holds [] {args:=args}=true:=(pre_splitW v).2;let#[d,r,rfl,h1,h2]:=hasAllW_cons M;obtain rfl:=hasAllW_nil h2;let#[xs,rfl,h3]:=hasW_list h1;let#[ns,rfl]:=items_int h3;let F:ns.length<=n:=by
  let J:(WTm.not (.lt (.lit (.int (n:Int))) (.len (.arg 0)))).holds [] {args:=[.list (ns.map .int)]}=true:=by let J:=(holds_andW hc).1;rw[hn]at J;show J
  let h5:=condW_of J (w_not (w_lt w_lit (w_len_list (w_arg rfl))));grind
 cases L with
 |cons Z Y=>
  cases Y;cases Z with
  |list ho G=>show#[_,_,ns,rfl,rfl,ho,Xf ns _ G,F]
def Vl(l:OpenLaw)(args:List WData):l.row.toRowW.claim.post args (.bool true) args=true:=
 postW_of (r:=l.row.toRowW) (X:=(true==true))
  (show WShape.has [] (.bool true) .bool=true by first|rfl|decide|simp)
  (show(WTm.eq .res (.lit (.bool true))).value [] {args:=args,res:=⇑(.bool true),after:=args}=⇑(.bool (true==true)) from w_eq_bool (w_res rfl) w_lit) rfl
theorem attach_call{l:OpenLaw}
  (hn:l.most=⇑n)(h7:d.params.defaults=[])
  (call:∀(w:World)(F v:Shared)(mg mb:Str->Option Value)(fa:Addr)(o:Obj)(pm cd L:Value)(a:Addr)(vs:List Value)(ns:List Int),
   Ground q loose [] XP w F mg mb v.heap->YP w v.heap->
   v.heap.get? fa=⇑o->o.data=.func (docDef d.name d.params d.body d.scope pm cd L)->v.heap.CodeRec cd d.name->mg d.name=⇑(.ref fa)->
   v.heap.get? a=some {cls:=.type "list",data:=.seq vs.toArray}->IntsAre vs ns->ns.length<=n->v.gens=#[]->
   codeAny (model l.prog w) callerA (.call (.ref fa) #[[.ref a],[]]) (λr s'=>r=.ok (.ret (.bool true))/\OldK v.heap s'.heap/\s'.os=v.os/\AllBare s'.gens) v):
  WalkO q loose XP YP l.row.toRowW d [] (λf vs=>PySem.call f vs):=by
 intro w F v mg mb G Y fa o pm cd L dV kV ho hd h8 hD h6 hg args h9 as M e1 e2 h5 e3;obtain rfl:dV=.none:=Dflts.none hD h7;obtain rfl:kV=.none:=Dflts.noKw hD;let#[a,vs,ns,rfl,rfl,Z,J,h1]:=UG hn M h5;show enter_call (codeAny_mono (call w F v mg mb fa o pm cd L a vs ns G Y ho (fd_plain hd) h8 h6 Z J h1 hg) λr s' hq=>?_);let#[rfl,h2,h3,h4]:=hq;show#[.inl #[.bool true,.bool true,[],rfl,λ_=>rfl,.bool true,Vl l _,λ_=>#[List.Pairwise.nil,λ_ hm=>(nomatch hm)]],h2,h3,h4]
end Att
namespace L2
open PySem PySem.Spec PyProof.Rows
def Fu:∀{vs:List Value}{ns:List Int},IntsAre vs ns->zX (ns.map V.int) vs
 |_,_,.nil=>.nil
 |_,_,.cons n t h=>.cons #[t,rfl] (Fu h)
def aw(H:Hp):Prop:=∀b,H b=none\/∃o xs,H b=⇑(.frz o (.lst xs))
def TF{K:W.Frag}
  (KX:K.In G.heap)(h6:G.heap.Ns mainGlobals mg)(Z:G.heap.Ns builtinsNs mb)(hx:∀x:Str,x≠"__name__"->mb x=bootBuiltins x)(h7:G.heap.NoLimit)(hg:G.gens=#[])
  (ha:G.heap.get? a=some {cls:=.type "list",data:=.seq vs.toArray})(hi:IntsAre vs ns)(hl:ns.length<=sizeLine)(hr:bU k callerA)
  (F:∀base:Heap,K.In base->base.Ns mainGlobals mg->gB P w K mg base CX k fa fd [x] sp)(Y:∀(s:Shared)(u:Value),BindsTo s fd #[[u],[]] [(x,u)])
  (e4:∀H:Hp,aw H->bO K H a (ns.map V.int)->sp [.ref a] H (λv _=>v=.bl true) λ_ _ _=>False)
  (hp:∀H e s',CX [] H G (λ_ _ _=>False) e s'->False):
  codeAny (model P w) callerA (.call (.ref fa) #[[.ref a],[]]) (λr s'=>r=.ok (.ret (.bool true))/\OldK G.heap s'.heap/\s'.os=G.os/\AllBare s'.gens) G:=by
 let rv:=Fu hi;let h3:=hi.length
 --from an abstract heap in which nothing but the script may be tracked
 have M:∀H:Hp,aw H->bO K H a (ns.map V.int)->eV P w H G.heap->(∀b,H b≠none->b=a)->(H a≠none->K.lookup a=none)->
   codeAny (model P w) callerA (.call (.ref fa) #[[.ref a],[]]) (λr s'=>r=.ok (.ret (.bool true))/\OldK G.heap s'.heap/\s'.os=G.os/\AllBare s'.gens) G:=by
  intro H hO hS h5 hA hK;let J:∀{b:Addr}{o:Obj},G.heap.get? b=⇑o->H b=none->(iY G.heap H).get? b=⇑o:=λe n=>Sg e n;let e3:∀{b:Addr}{o:Obj}{es:Array DictEntry}{ep:Nat},G.heap.get? b=⇑o->o.data=.dict es ep->H b=none:=λ{b o es ep} e d=>by
   cases q:H b with
   |none=>rfl
   |some u=>grind
  let L:∀{b:Addr}{m:Str->Option Value},G.heap.Ns b m->(iY G.heap H).Ns b m:=λ{b m}⟨o,es,ep,e,d,r⟩=>#[o,es,ep,J e (e3 e d),d,r]
  have h8:K.In (iY G.heap H):=λb o e=>J (KX b o e) (by
   cases q:H b with
   |none=>rfl
   |some u=>have e':b=a:=hA b (by rw[q];simp);subst e';rw[hK (by rw[q];simp)]at e;cases e)
  let hM:Mod K mg (iY G.heap H):=#[h8,L h6,#[mb,L Z,hx],let#[mc,h1,h2]:=h7;#[mc,L h1,h2]]
  let e0:tH P w K mg (iY G.heap H) callerA [] G H:=#[rfl,hM,λb o e=>Qj e,Nat.le_of_eq (UZ _ _),trivial,λb Z=>absurd (show b∈([]:List Addr) from Z) (by simp),h5,.of_eq hg]
  show codeAny_mono ((F _ h8 (L h6)).run callerA [] G H #[[.ref a],[]] [.ref a] [.ref a] _ _ hr e0 (Y G (.ref a)) (.cons rfl .nil) (e4 H hO hS)) λr s' h=>?_;cases r with
  |error e=>show(hp H e s' h).elim
  |ok fl=>
   cases fl with
   |next=>show False.elim h
   |brk=>show False.elim h
   |cont=>show False.elim h
   |ret u=>
    let#[v,H',os,h9,un,h4,r',q]:=h;let q':v=.bl true:=q;subst q';obtain rfl:u=Value.bool true:=r';show#[rfl,OldK.of_keep λb o e=>?_,os,h9];cases q:H b with
    |none=>show un.keep b o e q (by intro z;show absurd (show b∈([]:List Addr) from z) (by simp)) (by simp)
    |some u=>
     rcases hO b with z|⟨ob,xs,z⟩
     .rw[q]at z;cases z
     .let z2:=un.frzs b ob _ z;let#[e1,_]:=h5 b _ z;let#[e2,_]:=h4 b _ z2;rw[e]at e1;cases e1;show e2
 cases hk:K.lookup a with
 |some o=>
  --the script is one of the module's own objects
  let e:=KX a o hk;rw[ha]at e;cases e;show M (λ_=>none) (λ_=>.inl rfl) (.inr #[_,vs.toArray,_,hk,rfl,rfl,rfl,by rw[qr,h3];show hl,rv]) (λb u z=>by let z':(none:Option HO)=⇑u:=z;cases z') (λb z=>absurd rfl z) λz=>absurd rfl z
 |none=>
  show M (λb=>if b=a then ⇑(.frz {cls:=.type "list",data:=.seq vs.toArray} (.lst (ns.map V.int)))else none) (λb=>?_) (.inl (.inr #[{cls:=.type "list",data:=.seq vs.toArray},zj rfl])) (λb u z=>?_) (λb z=>?_) λ_=>hk
  .grind
  .by_cases Z:b=a
   .let z':=(zj Z).symm.trans z;cases z';subst Z;show#[ha,by rw[qo];show hl,vs,_,rv,ha]
   grind
  grind
theorem walk_of{l:W.OpenLaw}{K:Params->W.Frag}{CX:World->iy}{sp:World->Sp}
  (hn:l.most=⇑n)(h2:n<=sizeLine)(h4:d.params.defaults=[])(hr:bU k callerA)
  (hY:∀(w:World)(h:Heap),YP w h->(K w.params).In h)
  (F:∀(w:World)(mg:Str->Option Value)(fa:Addr)(h:Heap),(K w.params).In h->h.Ns mainGlobals mg->mg d.name=⇑(.ref fa)->
   ∃fd:FuncData,(∀(s:Shared)(u:Value),BindsTo s fd #[[u],[]] [(x,u)])/\
    ∀base:Heap,(K w.params).In base->base.Ns mainGlobals mg->gB l.prog w (K w.params) mg base (CX w) k fa fd [x] (sp w))
  (h1:∀(w:World)(H:Hp)(a:Addr)(ns:List Int),ns.length<=n->aw H->bO (K w.params) H a (ns.map V.int)->sp w [.ref a] H (λv _=>v=.bl true) λ_ _ _=>False)
  (h5:∀(w:World)(H:Hp)(s:Shared)(e:Value)(s':Shared),CX w [] H s (λ_ _ _=>False) e s'->False):
  W.WalkO q loose XP YP l.row.toRowW d [] (λf vs=>PySem.call f vs):=by
 show Att.attach_call hn h4 λw h6 M mg mb fa o pm cd h8 a vs ns G Y ho hd h7 h3 Z L J hg=>?_;let KX:=hY w _ Y;let#[fd,hb,hF]:=F w mg fa _ KX G.T.g h3;show TF KX G.T.g G.T.b G.T.builtins G.T.nolimit hg Z L (le_trans J h2) hr hF hb (λH hO hS=>h1 w H a ns J hO hS) λH e s'=>h5 w H M e s'
def eO(s:Stmt):Arguments:=match s with
 |.FunctionDef _ a _ _ _ _ _ _ _ _=>a
 |_=>{posonlyargs:=[],args:=[],vararg:=none,kwonlyargs:=[],kw_defaults:=[],kwarg:=none,defaults:=[]}
def cS(s:Stmt):List Stmt:=match s with
 |.FunctionDef _ _ b _ _ _ _ _ _ _=>b
 |_=>[]
def aA(s:Stmt):Scope:=match s with
 |.FunctionDef _ _ _ _ _ _ sc _ _ _=>sc
 |_=>{kind:=.function,names:=[],isGenerator:=false,isCoroutine:=false}
structure az(K:W.Frag)(x qual:Str)(st:Stmt)(f:Addr)(fd:FuncData):Prop where
 ex:∃(oc:Value)(od:Option Addr)(kV doc pm:Value)(an:Option Addr)(cdv ct:Value)(osl:Array (Option Value)),
  fd=W.fnOf x qual (eO st) (cS st) (aA st) .none kV doc pm an cdv ct/\K.lookup f=⇑#[oc,od,.func fd,osl]/\W.codeIn K cdv qual=true
 kp:W.keepIn K (.ref f)=true
section
variable{K:W.Frag}
def az.binds{st:Stmt}(F:az K x qual st f fd)
  (h:∀(kV v J:Value)(L:Option Addr)(G ct:Value)(us:List Value),us.length=ps.length->bindArgs (W.fnOf x qual (eO st) (cS st) (aA st) .none kV v J L G ct) #[us,[]]=pure (ps.zip us)):Binds K fd ps []:=by
 let#[oc,Z,kV,v,J,L,G,ct,M,rfl,lk,Y]:=F.ex;show .all (h kV v J L G ct)
def Pd{st:Stmt}{kV F G v ct:Value}(l:K.lookup f=⇑#[Y,M,.func (W.fnOf x qual (eO st) (cS st) (aA st) .none kV F G L v ct),J])
  (c:W.codeIn K v qual=true)(k:W.keepIn K (.ref f)=true):az K x qual st f (W.fnOf x qual (eO st) (cS st) (aA st) .none kV F G L v ct):=#[#[Y,M,kV,F,G,L,v,ct,J,rfl,l,c],k]
end
def CC(v:bU k A):A.units+1<cLine:=Nat.lt_of_le_of_lt (Nat.add_le_add_left (by decide:1<=64) _) v.units
def zL(H H':Hp):Prop:=∀b o,H b=⇑o->H' b=⇑o
def zL.refl(H:Hp):zL H H:=λ_ _ h=>h
def zL.trans(a:zL H H1)(b:zL H1 H2):zL H H2:=λc o h=>b c o (a c o h)
def zZ.there(x:zZ P w H h a o):∃u,h.get? a=⇑u:=by
 cases o with
 |lst xs=>let#[_,_,_,_,e]:=x;show#[_,e]
 |tup xs=>let#[_,_,_,u,e,_]:=x;show#[_,e]
 |dK v=>let#[_,_,_,_,o,_,_,e,_]:=x;show#[_,e]
 |dT v=>let#[_,_,_,_,o,_,_,e,_]:=x;show#[_,e]
 |set F=>
  rcases x with⟨_,⟨_,e⟩|⟨_,_,_,_,_,_,_,e,_⟩|⟨_,_,_,_,_,_,_,_,e,_⟩⟩
  .show#[_,e]
  .show#[_,e]
  .show#[_,e]
 |ins C dx fs=>let#[_,_,_,e,_]:=x;show#[_,e]
 |own y=>show x
 |xd fs=>let#[_,#[_,_,_,e,_],_]:=x;show#[_,e]
 |rng lo hi=>let#[_,_,_,e]:=x;show#[_,e]
 |frz G u=>show#[_,x.1]
 |tbl ps=>show#[_,(show h.get? a=⇑_ from x)]
 |met f y=>show#[_,(show h.get? a=⇑_ from x)]
 |ext φ=>show x.2.1
def br(X:Cx)(z4:List (Addr×Obj))(H:Hp)(h:Heap)(e:Addr)(cls:Value)(dx:Option Addr):Prop:=False
def dX.few(f:dX X z4 H b):dX X [] H b:=#[f.1,f.2.1,f.2.2.1,f.2.2.2.1,f.2.2.2.2.1,λp v=>f.2.2.2.2.2 p (qj _ ↑v)]
def br.few(F:br X z4 H h e cls dx):br X [] H h e cls dx:=(show False from F).elim
def Inv.few(I:Inv X z4 σ H s):Inv X [] σ H s:=I.pins_of λp v=>I.pin p (qj _ ↑v)
def jU(P:Program)(w:World):iy:=λ_ _ _ _ _ _=>False
section
variable{K:W.Frag}
def RK(I:Inv (fZ (jU P w) P w K mg base N qual scope f v A outer s H E) [] σ H' s')(F:br (fZ (jU P w) P w K mg base N qual scope f v A outer s H E) [] H' s'.heap e cls dx)(q:E cls dx H'):
  (fZ (jU P w) P w K mg base N qual scope f v A outer s H E).xe (.ref e) s':=(show False from F).elim
end
@[inline]def XW(X:Cx)(σ:St):XK:=λcls dx H'=>∀(a:Addr)(s':Shared),Inv X [] σ H' s'->br X [] H' s'.heap a cls dx->X.xe (.ref a) s'
def vI(X:Cx)(sp:Sp)(t:TA):TE:=λσ H Q=>t σ H λv H1=>sp v H1 Q (XW X σ)
def RN(F:gB X.prog X.w X.K X.mg X.base (jU X.prog X.w) k f fd ps sp)(hr:bU k X.A)(hg:Gl X x)(hm:X.mg x=⇑(.ref f))(hk:W.keepIn X.K (.ref f)=true)(hb:Binds X.K fd ps [])
  (ha:PA X (e::es) t)(M:autoParam ((x==("__debug__":Str))=false) dZ9)(he:autoParam (starEach (e::es) X.env=(false,eval e X.env)::starEach es X.env) rZ9)(L:autoParam ((backTo pos (starEach es X.env)).any (·.1)=false) rZ9):
  PE X (.Call (.Name x p) (e::es) [] pos) (vI X sp t):=by
 intro z4 s σ H Q I h;show wpAny_Call_Name_kw (Qf I hg hm ?_ M);show W.callWith_K (h₀:=X.base) I.ok.mod.kin hk (Aj (ha pos z4 s σ H _ I h) λG Y Z=>?_) he L;let#[vs,H1,J,r,q]:=Z;show#[J.kIn,?_];let hl:(G++[]).length=ps.length:=by rw[qB,<-r.length];show F.len _ _ _ _ q
 show wpAny_call (codeAny_mono (F.run X.A X.stack Y H1 #[G,[]] G vs Q (XW X σ) hr J.env0 (by let:=hb Y G J.kIn hl;rwa[qB]at this) r q) λr s' v=>?_);cases r with
 |error e=>show(show False from v).elim
 |ok fl=>
  cases fl with
  |ret u=>show J.after v
  |next=>show False.elim v
  |brk=>show False.elim v
  |cont=>show False.elim v
section
variable{K:W.Frag}
def az.okX{st:Stmt}(F:az K x qual st f fd)(S:aE N ps (aA st))(len:∀vs H Q E,sp vs H Q E->vs.length=ps.length)
  (J:∀(G:Value)(A:Around)(v:List Env)(s:Shared)(H:Hp)(vs:List V)(Q:VK)(E:XK),bU k (A.deeper (envOfC qual (aA st) s.heap.objs.size f G))->sp vs H Q E->
   ∃t,jY (fZ (jU P w) P w K mg base N qual (aA st) f G A v s H E) (cS st) t/\t {nx:=λ_ H'=>Q .non H',rt:=Q} (start N vs) H):gB P w K mg base (jU P w) (k+1) f fd ps sp:=by
 let#[oc,od,kV,h1,pm,an,G,ct,Y,rfl,lk,M]:=F.ex;show NZ lk M S len λA v s H vs Q E Z L=>J G A v s H vs Q E Z L
end
end L2
namespace FL
open PySem
inductive D where
 |non
 |bl(b:Bool)
 |int(i:Int)
 |str(l:List Nat)
 |tup(l:List D)
 |lst(l:List D)
 |dct(t:Bool)(ks vs:List D)
 |set(l:List D)
 |exc(c:List Nat)(fs:List (List Nat))(vs:List D)
 deriving Inhabited
inductive S where
 |sh(d:D)
 |lst(l:List S)
 |dct(t:Bool)(ks:List D)(vs:List S)
 |set(l:List D)
 deriving Inhabited
mutual
@[inline]def S.toD:S->D
 |.sh d=>d
 |.lst l=>.lst (S.toDs l)
 |.dct t ks vs=>.dct t ks (S.toDs vs)
 |.set l=>.set l
@[inline]def S.toDs:List S->List D
 |[]=>[]
 |s::r=>S.toD s::S.toDs r
end
@[simp] theorem S.toDs_map:∀l:List S,S.toDs l=l.map S.toD
  |[]=>rfl
  |s::r=>by rw[S.toDs,S.toDs_map r,qA]
@[simp] theorem S.toD_sh(d:D):(S.sh d).toD=d:=rfl
@[simp] theorem S.toD_lst(l:List S):(S.lst l).toD=.lst (l.map S.toD):=by rw[<-S.toDs_map];rfl
@[simp] theorem S.toD_dct(t:Bool)(ks:List D)(l:List S):(S.dct t ks l).toD=.dct t ks (l.map S.toD):=by rw[<-S.toDs_map];rfl
@[simp] theorem S.toD_set(l:List D):(S.set l).toD=.set l:=rfl
@[inline]def S.isSh:S->Bool
 |.sh _=>true
 |_=>false
@[inline]def S.flat:S->Bool
 |.sh _=>true
 |.lst l=>l.all S.isSh
 |.dct _ _ vs=>vs.all S.isSh
 |.set _=>false
inductive R where
 |v(s:S)
 |loc(i:Nat)
abbrev Env:=List (Option S)
abbrev WQ:=R->Env->Prop
abbrev WX:=D->Env->Prop
@[inline]def NX:WX:=λ_ _=>False
abbrev WE:=Env->WQ->WX->Prop
abbrev WT:=Env->(Bool->Env->Prop)->WX->Prop
abbrev WA:=Env->(List R->Env->Prop)->WX->Prop
structure Ends where
 nx:Env->Prop
 rt:WQ
 bk:Env->Prop
 ct:Env->Prop
 ex:WX
abbrev WS:=Ends->Env->Prop
def slot(U:Env)(i:Nat):Option S:=match U,i with
 |[],_=>none
 |s::_,0=>s
 |_::r,i+1=>slot r i
@[simp] theorem Xs(s:Option S)(r:Env):slot (s::r) 0=s:=rfl
@[simp] theorem Xt(s:Option S)(r:Env)(i:Nat):slot (s::r) (i+1)=slot r i:=rfl
def view(r:R)(U:Env):Option D:=match r with
 |.v s=>⇑s.toD
 |.loc i=>(slot U i).map S.toD
def zW(r:R)(U:Env):Option D:=match r with
 |.v s=>⇑s.toD
 |.loc i=>match slot U i with
  |some s=>if s.flat then ⇑s.toD else none
  |none=>none
def give(r:R)(U:Env):Option (S×Env):=match r with
 |.v s=>⇑(s,U)
 |.loc i=>match slot U i with
  |some s=>⇑(.sh s.toD,U.set i ⇑(.sh s.toD))
  |none=>none
def aI:List R->Env->Option (List S×Env)
 |[],U=>⇑([],U)
 |r::rs,U=>match give r U with
  |some (s,U1)=>match aI rs U1 with
   |some (ss,U2)=>⇑(s::ss,U2)
   |none=>none
  |none=>none
def ixN(n:Nat)(i:Int):Option Nat:=if 0<=i then(if i<n then ⇑i.toNat else none)else if -(n:Int)<=i then ⇑(i+n).toNat else none
def atI{α:Type}(xs:List α)(i:Int):Option α:=(ixN xs.length i).bind λj=>xs[j]?
def sIx(n d:Nat):Option Int->Nat
 |none=>d
 |some i=>if i<0 then(i+n).toNat else min i.toNat n
def aP{α:Type}(xs:List α)(lo hi:Option Int):List α:=(xs.drop (sIx xs.length 0 lo)).take (sIx xs.length xs.length hi-sIx xs.length 0 lo)
def big:Nat:=1000000
def zK{α:Type}(o:Option α)(k:α->Prop):Prop:=match o with
 |some a=>k a
 |none=>False
@[simp] theorem GQ{α:Type}(a:α)(k:α->Prop):zK (some a) k=k a:=rfl
@[simp] theorem Xu{α:Type}(k:α->Prop):zK (none:Option α) k=False:=rfl
@[simp] theorem Xr{α:Type}{c:Prop}[Decidable c](a:α)(k:α->Prop):zK (if c then some a else none) k=(c/\k a):=by by_cases h:c<;>simp[h]
def zG(i:Nat):WE:=λU Q _=>match slot U i with
 |some (.sh d)=>Q (.v (.sh d)) U
 |some _=>Q (.loc i) U
 |none=>False
def wC(d:D):WE:=λU Q _=>Q (.v (.sh d)) U
def zR(G:D->D->Option S)(a b:WE):WE:=λU Q E=>a U (λx F=>b F (λy v=>zK (zW x v) λp=>zK (zW y v) λq=>zK (G p q) λs=>Q (.v s) v) E) E
def jW(F:D->Option S)(a:WE):WE:=λU Q E=>a U (λx v=>zK (zW x v) λp=>zK (F p) λs=>Q (.v s) v) E
def aQ:D->D->Option S
 |.int i,.int j=>⇑(.sh (.int (i+j)))
 |.str x,.str y=>if x.length+y.length<=big then ⇑(.sh (.str (x++y)))else none
 |.lst x,.lst y=>if x.length+y.length<=big then ⇑(.lst ((x++y).map .sh))else none
 |.tup x,.tup y=>if x.length+y.length<=big then ⇑(.sh (.tup (x++y)))else none
 |_,_=>none
def dQ:D->D->Option S
 |.int i,.int j=>⇑(.sh (.int (i-j)))
 |_,_=>none
def lX(i j:Int):Bool:=(↥(-(2^64)<i)&&↥(i<2^64))||(↥(-(2^64)<j)&&↥(j<2^64))
def oJ:D->D->Option S
 |.int i,.int j=>if lX i j then ⇑(.sh (.int (i*j)))else none
 |_,_=>none
def iB:D->D->Option S
 |.int i,.int j=>if 0<j/\j<18446744073709551616 then ⇑(.sh (.int (i/j)))else none
 |_,_=>none
def fE:D->D->Option S
 |.int i,.int j=>if 0<j then ⇑(.sh (.int (i %j)))else none
 |_,_=>none
def oI:D->D->Option S
 |.int i,.int j=>if 0<=j/\j<=1000/\i.natAbs<2^64 then ⇑(.sh (.int (i^j.toNat)))else none
 |_,_=>none
def eJ:D->Option S
 |.int i=>⇑(.sh (.int (-i)))
 |_=>none
mutual
def aY:D->D->Bool
 |.tup l,.tup m=>bI l m
 |.lst l,.lst m=>bI l m
 |.int _,.int _=>false
 |.int _,.str _=>false
 |.int _,.non=>false
 |.str _,.int _=>false
 |.str _,.str _=>false
 |.str _,.non=>false
 |.str _,.bl _=>false
 |.bl _,.bl _=>false
 |.bl _,.str _=>false
 |.bl _,.non=>false
 |.non,.int _=>false
 |.non,.str _=>false
 |.non,.bl _=>false
 |.non,.non=>false
 |_,_=>true
def bI:List D->List D->Bool
 |a::l,b::m=>aY a b||bI l m
 |_,_=>false
end
mutual
def fL:D->Nat
 |.tup l=>bD l+1
 |.lst l=>bD l+1
 |_=>0
def bD:List D->Nat
 |[]=>0
 |a::l=>max (fL a) (bD l)
end
open Classical in
def eK(a b:D):Option Bool:=if aY a b||↥(30<fL a)then none else ⇑↥(a=b)
def eT(a b:D):Option Bool:=(eK a b).map (!·)
def jk:D->D->Option Bool
 |.int i,.int j=>⇑↥(i<j)
 |.str x,.str y=>⇑↥(x<y)
 |_,_=>none
def uA(a b:D):Option Bool:=jk a b
def oY(a b:D):Option Bool:=jk b a
def jn:D->D->Option Bool
 |.int i,.int j=>⇑↥(i<=j)
 |.str x,.str y=>⇑(!decide (y<x))
 |_,_=>none
def bj:D->D->Option Bool
 |.int i,.int j=>⇑↥(j<=i)
 |.str x,.str y=>⇑(!decide (x<y))
 |_,_=>none
def dJ:D->Bool
 |.int _=>true
 |.str _=>true
 |_=>false
def cL:Bool->D->Bool
 |true,.tup l=>l.all dJ
 |false,d=>dJ d
 |_,_=>false
open Classical in
def mI(a:D):D->Option Bool
 |.lst l=>if l.any (λx=>aY x a||↥(30<fL x))then none else ⇑↥(a∈l)
 |.tup l=>if l.any (λx=>aY x a||↥(30<fL x))then none else ⇑↥(a∈l)
 |.dct t ks _=>if cL t a then ⇑↥(a∈ks)else none
 |_=>none
open Classical in
def pK(a:D):D->Option Bool
 |.non=>⇑↥(a=.non)
 |.bl b=>⇑↥(a=.bl b)
 |_=>none
def fB:D->Option Bool
 |.non=>⇑false
 |.bl b=>⇑b
 |.int i=>⇑↥(i≠0)
 |.str l=>⇑(!l.isEmpty)
 |.tup l=>⇑(!l.isEmpty)
 |.lst l=>⇑(!l.isEmpty)
 |_=>none
def aJ(G:D->D->Option Bool)(a b:WE):WT:=λU Q E=>a U (λx F=>b F (λy v=>zK (view x v) λp=>zK (view y v) λq=>zK (G p q) λc=>Q c v) E) E
def iQ(L J:D->D->Option Bool)(a b c:WE):WT:=λU Q E=>a U (λx G=>b G (λy v=>zK (view x v) λp=>zK (view y v) λq=>zK (L p q) λk=>if k then c v (λz F=>zK (view y F) λq=>zK (view z F) λr=>zK (J q r) λM=>Q M F) E else Q false v) E) E
def fP(a:WE):WT:=λU Q E=>a U (λx v=>zK (view x v) λp=>zK (fB p) λc=>Q c v) E
def eX(a b:WT):WT:=λU Q E=>a U (λc v=>if c then b v Q E else Q false v) E
def mN(a b:WT):WT:=λU Q E=>a U (λc v=>if c then Q true v else b v Q E) E
def hW(a:WT):WT:=λU Q E=>a U (λc v=>Q (!c) v) E
def gH(t:WT):WE:=λU Q E=>t U (λc v=>Q (.v (.sh (.bl c))) v) E
def uO(a b:WE):WE:=λU Q E=>a U (λx v=>match view x v with
 |some (.bl c)=>if c then Q (.v (.sh (.bl true))) v else b v Q E
 |_=>False) E
def zI:WA:=λU Q _=>Q [] U
def zH(a:WE)(b:WA):WA:=λU Q E=>a U (λr F=>b F (λG v=>Q (r::G) v) E) E
def cC(a:WA):WE:=λU Q E=>a U (λF v=>zK (if F.length<=big then aI F v else none) λp=>Q (.v (.sh (.tup (p.1.map S.toD)))) p.2) E
def bS(a:WA):WE:=λU Q E=>a U (λF v=>zK (if F.length<=big then aI F v else none) λp=>Q (.v (.lst p.1)) p.2) E
open Classical in
def lk{α:Type}:List D->List α->D->Option α
 |k'::ks,v::vs,k=>if k'=k then ⇑v else lk ks vs k
 |_,_,_=>none
def kQ:S->D->Option S
 |.sh (.tup l),.int i=>(atI l i).map .sh
 |.sh (.lst l),.int i=>(atI l i).map .sh
 |.sh (.str l),.int i=>(atI l i).map λc=>.sh (.str [c])
 |.lst l,.int i=>atI l i
 |_,_=>none
def bX(a b:WE):WE:=λU Q E=>a U (λx F=>b F (λy v=>zK (view y v) λq=>match x with
 |.v s=>zK (kQ s q) λt=>Q (.v t) v
 |.loc i=>match slot v i with
  |some s=>match kQ s q with
   |some (.sh d)=>Q (.v (.sh d)) v
   |_=>False
  |none=>False) E) E
def fQ(a:Option WE):Env->(Option Int->Env->Prop)->WX->Prop:=match a with
 |none=>λU Q _=>Q none U
 |some a=>λU Q E=>a U (λx v=>match view x v with
  |some (.int i)=>Q ⇑i v
  |_=>False) E
def jX(d:D)(lo hi:Option Int):Option S:=match d with
 |.str l=>⇑(.sh (.str (aP l lo hi)))
 |.tup l=>⇑(.sh (.tup (aP l lo hi)))
 |.lst l=>⇑(.lst ((aP l lo hi).map .sh))
 |_=>none
def fJ(a:WE)(lo hi:Option WE):WE:=λU Q E=>a U (λx G=>fQ lo G (λl F=>fQ hi F (λh v=>zK (zW x v) λd=>zK (jX d l h) λs=>Q (.v s) v) E) E) E
abbrev WF:=List S->(S->List S->Prop)->(D->List S->Prop)->Prop
def cW:List Bool->List R->Env->Option (List S×Env)
 |_,[],U=>⇑([],U)
 |ms,.v s::rs,U=>match cW ms.tail rs U with
  |some (ss,U1)=>⇑(s::ss,U1)
  |none=>none
 |ms,.loc i::rs,U=>match slot U i with
  |some s=>if ms.headD false then(match cW ms.tail rs (U.set i none)with
   |some (ss,U1)=>⇑(s::ss,U1)
   |none=>none)
   else(match cW ms.tail rs (U.set i ⇑(.sh s.toD))with
    |some (ss,U1)=>⇑(.sh s.toD::ss,U1)
    |none=>none)
  |none=>none
def back:List Bool->List R->List S->Env->Env
 |ms,.v _::rs,_::ss,U=>back ms.tail rs ss U
 |ms,.loc i::rs,s::ss,U=>if ms.headD false then back ms.tail rs ss (U.set i ⇑s)else back ms.tail rs ss U
 |_,_,_,U=>U
def zT(f:WF)(ms:List Bool)(a:WA):WE:=λU Q E=>a U (λG v=>zK (cW ms G v) λp=>f p.1 (λs F=>Q (.v s) (back ms G F p.2)) (λx F=>E x (back ms G F p.2))) E
def wB(f:List D->Option S)(a:WA):WE:=λU Q E=>a U (λF v=>zK (F.mapM λr=>zW r v) λG=>zK (f G) λs=>Q (.v s) v) E
def aV(j:Nat)(e:WE):WE:=λU Q E=>match slot U j with
 |some (.lst _)=>e U (λr v=>zK (give r v) λp=>match slot p.2 j with
  |some (.lst l)=>l.length<big/\Q (.v (.sh .non)) (p.2.set j ⇑(.lst (l++[p.1])))
  |_=>False) E
 |_=>False
def aN:List D->Option S
 |[.str l]=>⇑(.sh (.int l.length))
 |[.tup l]=>⇑(.sh (.int l.length))
 |[.lst l]=>⇑(.sh (.int l.length))
 |_=>none
def mU:List D->Option S
 |[.int i]=>⇑(.sh (.int i))
 |[.bl b]=>⇑(.sh (.int (if b then 1 else 0)))
 |_=>none
def cB:List D->Option S
 |[.tup l]=>⇑(.sh (.tup l))
 |[.lst l]=>⇑(.sh (.tup l))
 |_=>none
def gp:List D->Option S
 |[.tup l]=>⇑(.lst (l.map .sh))
 |[.lst l]=>⇑(.lst (l.map .sh))
 |_=>none
def mT:List D->Option S
 |[.int i,.int j]=>⇑(.sh (.int (if j>i then j else i)))
 |_=>none
def kT:List D->Option S
 |[.int i,.int j]=>⇑(.sh (.int (if j<i then j else i)))
 |_=>none
def aO:WS:=λD U=>D.nx U
def zS(a b:WS):WS:=λD U=>a {D with nx:=b D} U
def eD(c:WT)(a b:WS):WS:=λD U=>c U (λk v=>if k then a D v else b D v) D.ex
def bB(a:WE):WS:=λD U=>a U D.rt D.ex
def wExpr(a:WE):WS:=λD U=>a U (λ_ v=>D.nx v) D.ex
abbrev WG:=S->Env->(Env->Prop)->Prop
def zJ(i:Nat):WG:=λs U Q=>Q (U.set i ⇑s)
def eS:List WG->List D->Env->(Env->Prop)->Prop
 |[],[],U,Q=>Q U
 |g::gs,d::ds,U,Q=>g (.sh d) U λv=>eS gs ds v Q
 |_,_,_,_=>False
def dA(v:List WG):WG:=λs U Q=>match s.toD with
 |.tup ds=>ds.length=v.length/\eS v ds U Q
 |_=>False
def fN(j:Nat)(i e:WE):WS:=λD U=>e U (λr G=>zG j G (λx F=>i F (λy v=>zK (view y v) λq=>zK (give r v) λp=>match x,q,slot p.2 j with
 |.loc k,.int n,some (.lst l)=>k=j/\zK (ixN l.length n) λm=>D.nx (p.2.set j ⇑(.lst (l.set m p.1)))
 |_,_,_=>False) D.ex) D.ex) D.ex
def zU(g:WG)(a:WE):WS:=λD U=>a U (λr v=>zK (give r v) λp=>g p.1 p.2 D.nx) D.ex
abbrev WI:=Env->(List D->Env->Prop)->WX->Prop
def items:D->Option (List D)
 |.lst l=>⇑l
 |.tup l=>⇑l
 |.str l=>⇑(l.map λc=>.str [c])
 |_=>none
def cD(a:WE):WI:=λU Q E=>a U (λr v=>zK (give r v) λp=>zK (items p.1.toD) λl=>Q l p.2) E
def fromTo(lo:Int)(n:Nat):List D:=(List.range n).map λ(k:Nat)=>.int (lo+(k:Int))
def bC(a:WE):WI:=λU Q E=>a U (λr v=>match view r v with
 |some (.int j)=>(-big<=j/\j<=big)/\Q (fromTo 0 j.toNat) v
 |_=>False) E
def eZ(a b:WE):WI:=λU Q E=>a U (λr F=>b F (λt v=>match view r v,view t v with
 |some (.int i),some (.int j)=>(-big<=i/\i<=big/\-big<=j/\j<=big)/\Q (fromTo i (j-i).toNat) v
 |_,_=>False) E) E
def cV(g:WG)(v:WS):List D->WS
 |[],D,U=>D.nx U
 |x::xs,D,U=>g (.sh x) U λF=>v {D with nx:=cV g v xs D,ct:=cV g v xs D,bk:=D.nx} F
def dM(G:WI)(g:WG)(v:WS):WS:=λD U=>G U (λl F=>cV g v l D F) D.ex
def dH(c:WT)(G:WS):WS:=λD U=>∃J:Nat->Env->Prop,(∃m,J m U)/\∀m U,J m U->c U (λk F=>if k then
 G {D with nx:=λv=>∃m',m'<m/\J m' v,ct:=λv=>∃m',m'<m/\J m' v,bk:=D.nx} F else D.nx F) D.ex
abbrev WB:=Env->(Env->Prop)->WX->Prop
def eC:WT:=λU Q _=>Q true U
def aS(g:WG)(c:WT)(b:WB):List D->WB
 |[],U,Q,_=>Q U
 |x::xs,U,Q,E=>g (.sh x) U λG=>c G (λk v=>if k then b v (λF=>aS g c b xs F Q E) E else aS g c b xs v Q E) E
def tF(F:WI)(g:WG)(c:WT)(b:WB):WB:=λU Q E=>F U (λl v=>aS g c b l v Q E) E
def bE(n:Nat)(a:WE):WB:=λU Q E=>a U (λr v=>zK (give r v) λp=>match slot p.2 n with
 |some (.lst l)=>l.length<big/\Q (p.2.set n ⇑(.lst (l++[p.1])))
 |_=>False) E
def hX(n k:Nat)(G:WI)(g:WG)(c:WT)(b:WB):WE:=λU Q E=>G U (λl F=>aS g c b l (F++⇑(.lst [])::List.replicate k none) (λv=>zK (slot v n) λs=>Q (.v s) (v.take n)) NX) E
def aD:List S->Env->Option (List S)
 |[],_=>⇑[]
 |.sh d::ss,_::U=>(aD ss U).map (.sh d::·)
 |_::ss,some s::U=>(aD ss U).map (s::·)
 |_,_=>none
def eU(n m:Nat)(ks:List Nat)(F:WS):WF:=λv P PX=>v.length=n/\(∀i s,v[i]?=⇑s->i∈ks\/s.isSh=true)/\
 F {nx:=λU=>zK (aD v U) λfs=>P (.sh .non) fs
    rt:=λr U=>match r with
     |.v s=>zK (aD v U) λfs=>P s fs
     |.loc i=>zK (slot U i) λs=>if i<n then zK (aD v (U.set i ⇑(.sh s.toD))) λfs=>P (.sh s.toD) fs else zK (aD v U) λfs=>P s fs
    bk:=λ_=>False
    ct:=λ_=>False
    ex:=λx U=>zK (aD v U) λfs=>PX x fs} (v.map some++List.replicate (m-n) none)
end FL
namespace FL
open PySem L2
def aZ:bV->D
 |.inl i=>.int i
 |.inr x=>.str x.cps.toList
def pe(a C:Addr)(dx:Option Addr)(h:Heap):Prop:=∃o vs,h.get? a=⇑o/\o.cls=.ref C/\o.dict=dx/\o.data=.fields vs
def fF:HO->Bool
 |.tup _=>false
 |_=>true
def pB(F:Hp)(dx:Option Addr)(fs:List (List Nat))(vs:List D):Prop:=(dx=none/\fs=[]/\vs=[])\/∃p f i,dx=⇑p/\fs=[f]/\vs=[.int i]/\F p=⇑(.xd [((#[f.toArray]:Str),.int i)])
mutual
inductive aR(K:W.Frag)(F:Hp):V->D->Prop
 |non:aR K F .non .non
 |bl (b:Bool):aR K F (.bl b) (.bl b)
 |int (i:Int):aR K F (.int i) (.int i)
 |str {x:Str} {l:List Nat}:x.cps.toList=l->l.length<=16777216->aR K F (.str x) (.str l)
 |tup {a:Addr} {xs:List V} {ds:List D}:F a=some (.tup xs)->zY K F xs ds->aR K F (.ref a) (.tup ds)
 |lst {a:Addr} {xs:List V} {ds:List D}:bO K F a xs->zY K F xs ds->aR K F (.ref a) (.lst ds)
 |dK {a:Addr} {z5:List (bV×V)} {ks vs:List D}:Rd F a (.dK z5)->ks=z5.map (λp=>aZ p.1)->zY K F (z5.map (·.2)) vs->aR K F (.ref a) (.dct false ks vs)
 |dT {a:Addr} {z5:List (List bV×V)} {ks vs:List D}:Rd F a (.dT z5)->ks=z5.map (λp=>D.tup (p.1.map aZ))->zY K F (z5.map (·.2)) vs->aR K F (.ref a) (.dct true ks vs)
 |st {a:Addr} {xs:List V} {ds:List D}:F a=some (.set xs)->zY K F xs ds->aR K F (.ref a) (.set ds)
 |exc {a C:Addr} {dx:Option Addr} {c:List Nat} {fs:List (List Nat)} {vs:List D}:F a=some (.ext (pe a C dx))->W.nsIn K mainGlobals (⟨c.toArray⟩:Str)=some (some (.ref C))->pB F dx fs vs->aR K F (.ref a) (.exc c fs vs)
inductive zY(K:W.Frag)(F:Hp):List V->List D->Prop
 |nil:zY K F [] []
 |cons {x:V} {d:D} {xs:List V} {ds:List D}:aR K F x d->zY K F xs ds->zY K F (x::xs) (d::ds)
end
mutual
inductive aK(K:W.Frag)(F H:Hp):V->S->List Addr->Prop
 |sh {v:V} {d:D}:aR K F v d->aK K F H v (.sh d) []
 |lst {a:Addr} {xs:List V} {l:List S} {fp:List Addr}:H a=some (.lst xs)->zO K F H xs l fp->aK K F H (.ref a) (.lst l) (a::fp)
 |dK {a:Addr} {z5:List (bV×V)} {ks:List D} {l:List S} {fp:List Addr}:H a=some (.dK z5)->ks=z5.map (λp=>aZ p.1)->zO K F H (z5.map (·.2)) l fp->aK K F H (.ref a) (.dct false ks l) (a::fp)
 |dT {a:Addr} {z5:List (List bV×V)} {ks:List D} {l:List S} {fp:List Addr}:H a=some (.dT z5)->ks=z5.map (λp=>D.tup (p.1.map aZ))->zO K F H (z5.map (·.2)) l fp->aK K F H (.ref a) (.dct true ks l) (a::fp)
 |st {a:Addr} {xs:List V} {ds:List D}:H a=some (.set xs)->zY K F xs ds->aK K F H (.ref a) (.set ds) [a]
inductive zO(K:W.Frag)(F H:Hp):List V->List S->List Addr->Prop
 |nil:zO K F H [] [] []
 |cons {x:V} {s:S} {xs:List V} {l:List S} {fp fq:List Addr}:aK K F H x s fp->zO K F H xs l fq->zO K F H (x::xs) (s::l) (fp++fq)
end
def Rd.mono(h:zL F F')(r:Rd F a u):Rd F' a u:=by
 rcases r with r|⟨o,r⟩
 .show .inl (h _ _ r)
 .show .inr #[o,h _ _ r]
def bO.mono(h:zL F F')(r:bO K F a xs):bO K F' a xs:=r.elim (λr=>.inl (Rd.mono h r)) .inr
def bF.mono(h:zL F F')(r:bF K F a xs):bF K F' a xs:=r.elim (λr=>.inl (Rd.mono h r)) .inr
def zY.ind{P:List V->List D->Prop}(hn:P [] [])(G:∀{x:V}{d:D}{xs:List V}{ds:List D},aR K F x d->zY K F xs ds->P xs ds->P (x::xs) (d::ds))(r:zY K F xs ds):P xs ds:=
 zY.rec (motive_1:=λ_ _ _=>True) (motive_2:=λxs ds _=>P xs ds) trivial (λ_=>trivial) (λ_=>trivial) (λ_ _=>trivial) (λ_ _ _=>trivial) (λ_ _ _=>trivial) (λ_ _ _ _=>trivial) (λ_ _ _ _=>trivial) (λ_ _ _=>trivial) (λ_ _ _=>trivial) hn (λa b _ v=>G a b v) r
def zO.ind{P:List V->List S->List Addr->Prop}(hn:P [] [] [])(G:∀{x:V}{s:S}{xs:List V}{l:List S}{fp fq:List Addr},aK K F H x s fp->zO K F H xs l fq->P xs l fq->P (x::xs) (s::l) (fp++fq))(r:zO K F H xs l fp):P xs l fp:=
 zO.rec (motive_1:=λ_ _ _ _=>True) (motive_2:=λxs l fp _=>P xs l fp) (λ_=>trivial) (λ_ _ _=>trivial) (λ_ _ _ _=>trivial) (λ_ _ _ _=>trivial) (λ_ _=>trivial) hn (λa b _ v=>G a b v) r
def pB.mono(h:zL F F')(x:pB F dx fs vs):pB F' dx fs vs:=x.imp id λ⟨p,f,i,L,J,G,v⟩=>#[p,f,i,L,J,G,h _ _ v]
def aR.mono(h:zL F F')(r:aR K F v d):aR K F' v d:=
 aR.rec (motive_1:=λv d _=>aR K F' v d) (motive_2:=λv d _=>zY K F' v d) .non .bl .int (λe z=>.str e z) (λe _ G=>.tup (h _ _ e) G) (λe _ G=>.lst (bO.mono h e) G) (λe k _ G=>.dK (Rd.mono h e) k G) (λe k _ G=>.dT (Rd.mono h e) k G) (λe _ G=>.st (h _ _ e) G) (λe k x=>.exc (h _ _ e) k (x.mono h)) .nil (λ_ _ a b=>.cons a b) r
def zY.mono(h:zL F F')(r:zY K F v d):zY K F' v d:=zY.ind .nil (λa _ G=>.cons (aR.mono h a) G) r
def aK.mono(h:zL F F')(r:aK K F H v s fp):(∀a∈fp,H' a=H a)->aK K F' H' v s fp:=
 aK.rec (motive_1:=λv s fp _=>(∀a∈fp,H' a=H a)->aK K F' H' v s fp) (motive_2:=λv s fp _=>(∀a∈fp,H' a=H a)->zO K F' H' v s fp)
  (λr _=>.sh (aR.mono h r)) (λe _ G k=>.lst ((k _ qm).trans e) (G λa J=>k a (qk _ J)))
  (λe q _ G k=>.dK ((k _ qm).trans e) q (G λa J=>k a (qk _ J))) (λe q _ G k=>.dT ((k _ qm).trans e) q (G λa J=>k a (qk _ J)))
  (λe r k=>.st ((k _ qm).trans e) (zY.mono h r)) (λ_=>.nil) (λ_ _ a b k=>.cons (a λc L=>k c (qj _ L)) (b λc L=>k c (qi _ L))) r
def zO.mono(h:zL F F')(r:zO K F H v s fp):(∀a∈fp,H' a=H a)->zO K F' H' v s fp:=
 zO.ind (P:=λv s fp=>(∀a∈fp,H' a=H a)->zO K F' H' v s fp) (λ_=>.nil) (λa _ b k=>.cons (aK.mono h a λc G=>k c (qj _ G)) (b λc G=>k c (qi _ G))) r
def aK.frz(h:zL F F')(r:aK K F H v s fp):(∀a∈fp,F' a=H a)->aR K F' v s.toD:=
 aK.rec (motive_1:=λv s fp _=>(∀a∈fp,F' a=H a)->aR K F' v s.toD) (motive_2:=λv s fp _=>(∀a∈fp,F' a=H a)->zY K F' v (S.toDs s))
  (λr _=>aR.mono h r) (λe _ G k=>.lst (bO.of ((k _ qm).trans e)) (G λa J=>k a (qk _ J)))
  (λe q _ G k=>.dK (.of ((k _ qm).trans e)) q (G λa J=>k a (qk _ J))) (λe q _ G k=>.dT (.of ((k _ qm).trans e)) q (G λa J=>k a (qk _ J)))
  (λe r k=>.st ((k _ qm).trans e) (zY.mono h r)) (λ_=>.nil) (λ_ _ a b k=>.cons (a λc L=>k c (qj _ L)) (b λc L=>k c (qi _ L))) r
def zO.frz(h:zL F F')(r:zO K F H v s fp):(∀a∈fp,F' a=H a)->zY K F' v (S.toDs s):=
 zO.ind (P:=λv s fp=>(∀a∈fp,F' a=H a)->zY K F' v (S.toDs s)) (λ_=>.nil) (λa _ b k=>.cons (aK.frz h a λc G=>k c (qj _ G)) (b λc G=>k c (qi _ G))) r
def aK.view(h:zL F H)(r:aK K F H v s fp):aR K H v s.toD:=aK.frz h r λ_ _=>rfl
def aK.in_:∀{v:V}{s:S}{fp:List Addr},aK K F H v s fp->∀a∈fp,∃o,H a=⇑o/\fF o=true:=by
 intro v s fp r;show aK.rec (motive_1:=λv s fp _=>∀a∈fp,∃o,H a=⇑o/\fF o=true) (motive_2:=λv s fp _=>∀a∈fp,∃o,H a=⇑o/\fF o=true) ?_ ?_ ?_ ?_ ?_ ?_ ?_ r
 .intro v d r a G;cases G
 .grind[fF]
 .grind[fF]
 .grind[fF]
 .grind[fF]
 .intro a G;cases G
 grind
inductive zN(K:W.Frag)(F H:Hp):Env->St->List Addr->Prop
 |nil:zN K F H [] [] []
 |no {U:Env} {σ:St} {o:Option V} {fp:List Addr}:zN K F H U σ fp->zN K F H (none::U) (o::σ) fp
 |so {U:Env} {σ:St} {v:V} {s:S} {fp fq:List Addr}:aK K F H v s fp->zN K F H U σ fq->zN K F H (some s::U) (some v::σ) (fp++fq)
def zN.len(r:zN K F H U σ fp):U.length=σ.length:=by
 induction r with
 |nil=>rfl
 |no _ v=>show congrArg (·+1) v
 |so _ _ v=>show congrArg (·+1) v
def zN.mono(h:zL F F')(r:zN K F H U σ fp)(k:∀a∈fp,H' a=H a):zN K F' H' U σ fp:=by
 induction r with
 |nil=>show .nil
 |no _ v=>show .no (v k)
 |so a _ v=>show .so (aK.mono h a λc G=>k c (qj _ G)) (v λc G=>k c (qi _ G))
def zN.in_(r:zN K F H U σ fp):∀a∈fp,∃o,H a=⇑o/\fF o=true:=by
 induction r with
 |nil=>show λa G=>nomatch G
 |no _ v=>show v
 |so q _ v=>show λa G=>(qz.mp G).elim (λz=>aK.in_ q a z) λz=>v a z
def zN.app(r:zN K F H U σ fp)(G:zN K F H U' σ' fq):zN K F H (U++U') (σ++σ') (fp++fq):=by
 induction r with
 |nil=>show G
 |no _ v=>show .no v
 |so a _ v=>rw[qp];show .so a v
inductive iw(K:W.Frag)(F H:Hp)(U:Env)(σ:St)(U':Env)(σ':St)(fp:List Addr):Prop
 |mk (f1 f2:List Addr):fp=f1++f2->zN K F H U σ f1->zN K F H U' σ' f2->iw K F H U σ U' σ' fp
def zN.cut(e:U.length=σ.length)(r:zN K F H (U++U') (σ++σ') fp):iw K F H U σ U' σ' fp:=by
 induction U generalizing σ fp with
 |nil=>cases σ with
  |nil=>show#[[],fp,rfl,.nil,r]
  |cons _ _=>show absurd e.symm (Nat.succ_ne_zero _)
 |cons x U G=>cases σ with
  |nil=>show absurd e (Nat.succ_ne_zero _)
  |cons y σ=>cases r with
   |no r=>let#[J,v,rfl,a,b]:=G (Nat.succ.inj e) r;show#[J,v,rfl,.no a,b]
   |so q r=>let#[J,v,rfl,a,b]:=G (Nat.succ.inj e) r;show#[_,v,(qp ..).symm,.so q a,b]
def vi(K:W.Frag)(F H:Hp)(U:Env)(σ:St)(i:Nat)(G v:List Addr):Prop:=∀{F' H':Hp}{o:Option S}{u:Option V}{fi':List Addr},zL F F'->(∀a∈G++v,H' a=H a)->(zN K F' H' [o] [u] fi')->zN K F' H' (U.set i o) (σ.set i u) (G++(fi'++v))
inductive vj(K:W.Frag)(F H:Hp)(U:Env)(σ:St)(fp:List Addr)(i:Nat)(s:S):Prop
 |mk (v:V) (fa fi fb:List Addr):σ[i]?=some (some v)->fp=fa++(fi++fb)->aK K F H v s fi->vi K F H U σ i fa fb->vj K F H U σ fp i s
inductive iu(K:W.Frag)(F H:Hp)(U:Env)(σ:St)(fp:List Addr)(i:Nat):Prop
 |mk (fa fi fb:List Addr):fp=fa++(fi++fb)->vi K F H U σ i fa fb->iu K F H U σ fp i
def zN.at:∀{U:Env}{σ:St}{fp:List Addr}{i:Nat}{s:S},zN K F H U σ fp->slot U i=⇑s->vj K F H U σ fp i s
 |_,_,_,_,_,.nil,e=>by simp[slot]at e
 |_,_,_,0,_,.no r,e=>by simp at e
 |_,_,_,0,s,.so (fp:=fp) (fq:=fq) q r,e=>by simp at e;subst e;show#[_,[],fp,fq,rfl,rfl,q,λ{F' H' o u L} h k x=>?_];let r':=zN.mono (H':=H') h r λa G=>k a G;show x.app r'
 |_,_,_,i+1,s,.no r,e=>by let#[v,Z,M,Y,e1,rfl,q,J]:=zN.at r e;show#[v,Z,M,Y,e1,rfl,q,λh k x=>.no (J h k x)]
 |_,_,_,i+1,s,.so (fp:=fp) (fq:=fq) p r,e=>by let#[v,Z,M,Y,e1,rfl,q,J]:=zN.at r e;show#[v,fp++Z,M,Y,e1,(qp ..).symm,q,λ{F' H' o u L} h k x=>?_];rw[qp];show .so (aK.mono h p λa G=>k a (qj _ (qj _ G))) (J h (λa G=>k a ((qz.mp G).elim (λz=>qj _ (qi _ z)) λz=>qi _ z)) x)
def zN.put:∀{U:Env}{σ:St}{fp:List Addr}{i:Nat},zN K F H U σ fp->i<U.length->iu K F H U σ fp i
 |_,_,_,_,.nil,e=>by simp at e
 |_,_,fp,0,.no r,e=>#[[],[],fp,rfl,λ{Z H' o u G} h k x=>x.app (zN.mono (H':=H') h r λa v=>k a v)]
 |_,_,_,0,.so (fp:=fp) (fq:=fq) q r,e=>#[[],fp,fq,rfl,λ{Z H' o u G} h k x=>x.app (zN.mono (H':=H') h r λa v=>k a v)]
 |_,_,_,i+1,.no r,e=>by let#[Y,L,M,rfl,J]:=zN.put (i:=i) r ↑e;show#[Y,L,M,rfl,λh k x=>.no (J h k x)]
 |_,_,_,i+1,.so (fp:=fp) (fq:=fq) p r,e=>by let#[Y,L,M,rfl,J]:=zN.put (i:=i) r ↑e;show#[fp++Y,L,M,(qp ..).symm,λ{Z H' o u G} h k x=>?_];rw[qp];show .so (aK.mono h p λa v=>k a (qj _ (qj _ v))) (J h (λa v=>k a ((qz.mp v).elim (λz=>qj _ (qi _ z)) λz=>qi _ z)) x)
inductive vf(K:W.Frag)(U:Env)(σ:St)(F G H:Hp):Prop
 |mk (fp:List Addr):zN K F H U σ fp->fp.Nodup->(∀a∈fp,F a=none/\G a=none)->vf K U σ F G H
structure Rel(K:W.Frag)(U:Env)(σ:St)(F G H:Hp):Prop where
 fr:zL F H
 gr:∀a o,G a=⇑o->(H a=⇑o/\fF o=true)/\F a=none
 en:vf K U σ F G H
def Rel.len(r:Rel K U σ F G H):U.length=σ.length:=let⟨_,e,_,_⟩:=r.en;e.len
def Rel.free(r:Rel K U σ F G H)(h:H p=none):F p=none/\G p=none/\∀fp,zN K F H U σ fp->p∉fp:=by
 show#[?_,?_,λfp e v=>?_]
 .cases q:F p with
  |none=>rfl
  |some o=>rw[r.fr p o q]at h;cases h
 .cases q:G p with
  |none=>rfl
  |some o=>rw[(r.gr p o q).1.1]at h;cases h
 .obtain⟨o,q,_⟩:=e.in_ p v;rw[h]at q;cases q
def zL.upd(h:F p=none):zL F (upd F p o):=λb u e=>by rw[Al (λz=>by rw[z,h]at e;cases e)];show e
def zL.upd2(h:zL F H):zL (L2.upd F p o) (L2.upd H p o):=λb u e=>by
 by_cases q:b=p
 .subst q;rw[AV]at e⊢;show e
 .rw[Al q]at e⊢;show h b u e
def zL.updR(h:zL F H)(n:F p=none):zL F (L2.upd H p o):=λb u e=>by rw[Al (λz=>by rw[z,n]at e;cases e)];show h b u e
def Rel.newF(r:Rel K U σ F G H)(h:H p=none):Rel K U σ (upd F p o) G (upd H p o):=by
 let#[f0,Z,Y]:=r.free h;let#[fp,e,M,ap]:=r.en;let J:∀a∈fp,a≠p:=λa v z=>Y fp e (z▸v);show#[zL.upd2 r.fr,λa u q=>?_,fp,e.mono (zL.upd f0) λa v=>Al (J a v),M,λa v=>?_]
 .let L:a≠p:=λz=>by rw[z,Z]at q;cases q
  rw[Al L,Al L];show r.gr a u q
 .rw[Al (J a v)];show ap a v
def Rel.newO(r:Rel K U σ F G H)(h:H p=none)(q:aK K F (upd H p o) (.ref p) s [p]):Rel K (U++[⇑s]) (σ++[⇑(.ref p)]) F G (upd H p o):=by
 let#[Z,Y,L]:=r.free h;let#[fp,e,nd,ap]:=r.en;let J:∀a∈fp,a≠p:=λa v z=>L fp e (z▸v);show#[zL.updR r.fr Z,λa u q=>?_,fp++([p]++[]),(e.mono (zL.refl F) λa v=>Al (J a v)).app (.so q .nil),?_,λa v=>?_]
 .let M:a≠p:=λz=>by rw[z,Y]at q;cases q
  rw[Al M];show r.gr a u q
 .grind
 grind
def Rel.drop(r:Rel K (U++U') (σ++σ') F G H)(h:U.length=σ.length):Rel K U σ F G H:=by let#[Y,e,v,M]:=r.en;let#[L,Z,rfl,a,b]:=e.cut h;show#[r.fr,r.gr,L,a,(qx.mp v).1,λc J=>M c (qj _ J)]
def Rel.hide(r:Rel K (U++U') (σ++σ') F G H)(h:U.length=σ.length):∃Z,Rel K U σ F Z H/\zL G Z/\
  ∀{U2:Env}{σ2:St}{M H2:Hp},zL F M->Rel K U2 σ2 M Z H2->Rel K (U2++U') (σ2++σ') M G H2:=by
 classical
 let#[fp,e,nd,ap]:=r.en;let#[f1,L,rfl,a,b]:=e.cut h;let#[n1,n2,h2]:=qx.mp nd;show#[λx=>if x∈L then H x else G x,#[r.fr,λx o q=>?_,f1,a,n1,λx v=>?_],λx o q=>?_,λ{U2 σ2 M H2} sm Y=>?_]
 .by_cases z:x∈L
  .let:=b.in_ x z;grind
  .simp only[z]at q;show r.gr x o q
 .grind
 .grind
 .obtain⟨J,e2,h1,h3⟩:=Y.en;let hk:∀x∈L,H2 x=H x/\M x=none/\x∉J:=λx v=>by let#[o,q,_]:=b.in_ x v;let w:=Y.gr x o (by simp only[v];show q);grind
  show#[Y.fr,λx o q=>?_,J++L,e2.app (b.mono sm λx v=>(hk x v).1),?_,λx v=>?_]
  .let z:x∉L:=λz=>by grind
   show Y.gr x o (by simp only[z];show q)
  .grind
  grind
def Rel.weakG(r:Rel K U σ F G' H)(h:zL G G'):Rel K U σ F G H:=by
 let#[M,e,L,J]:=r.en;show#[r.fr,λa o q=>r.gr a o (h a o q),M,e,L,λa v=>#[(J a v).1,?_]];cases q:G a with
 |none=>rfl
 |some o=>have:=(J a v).2;rw[h a o q]at this;cases this
def Rel.swap(h:U.length=σ.length)(h1:U1.length=σ1.length)(r:Rel K (U++(U1++U2)) (σ++(σ1++σ2)) F G H):Rel K (U++(U2++U1)) (σ++(σ2++σ1)) F G H:=by let#[fp,e,M,ap]:=r.en;let#[L,Z,rfl,a,b]:=e.cut h;let#[J,v,rfl,b1,c]:=b.cut h1;let p:(L++(v++J)).Perm (L++(J++v)):=List.Perm.append_left _ qQ;show#[r.fr,r.gr,_,a.app (c.app b1),p.nodup_iff.mpr M,λx Y=>ap x (p.mem_iff.mp Y)]
def Rel.push(r:Rel K U σ F G H)(h:aR K F v d):Rel K (U++[⇑(.sh d)]) (σ++[⇑v]) F G H:=by
 let#[M,e,J,Y]:=r.en;show#[r.fr,r.gr,M++([]++[]),e.app (.so (.sh h) .nil),?_,λx L=>Y x ?_]
 .simpa using J
 .simpa using L
def Rel.pushN(r:Rel K U σ F G H):Rel K (U++[none]) (σ++[u]) F G H:=by
 let#[L,e,v,M]:=r.en;show#[r.fr,r.gr,L++[],e.app (.no .nil),?_,λx J=>M x ?_]
 .simpa using v
 .simpa using J
def NK(h:slot U i=⇑s):U[i]?=⇑⇑s:=by
 induction U generalizing i with
 |nil=>simp[slot]at h
 |cons a r v=>cases i with
  |zero=>simp at h;simp[h]
  |succ i=>simp at h;simpa using v h
def Es(h:slot U i=⇑s):i<U.length:=(qg.mp (NK h)).1
def Fi(h:i<U.length):slot (U++U') i=slot U i:=by
 induction U generalizing i with
 |nil=>simp at h
 |cons a r v=>cases i with
  |zero=>rfl
  |succ i=>simpa using v ↑h
def Eb:slot (U++o::U') U.length=o:=by
 induction U with
 |nil=>rfl
 |cons a r v=>simpa using v
inductive ve(K:W.Frag)(F H:Hp)(σ:St)(i:Nat)(s:S):Prop
 |mk (v:V) (fp:List Addr):σ[i]?=some (some v)->aK K F H v s fp->ve K F H σ i s
def Rel.at(r:Rel K U σ F G H)(h:slot U i=⇑s):ve K F H σ i s:=by let#[Y,e,M,ap]:=r.en;let#[v,fa,J,Z,L,_,q,_]:=e.at h;show#[v,J,L,q]
def Rel.give(r:Rel K U σ F G H)(h:slot U i=⇑s):∃v F',σ[i]?=⇑⇑v/\zL F F'/\aR K F' v s.toD/\Rel K (U.set i ⇑(.sh s.toD)) σ F' G H:=by
 classical
 let#[fp,e,nd,ap]:=r.en;let#[v,fa,J,fb,e1,rfl,q,Z]:=e.at h;let#[na,h1,h2]:=qx.mp nd;let L:zL F (λx=>if x∈J then H x else F x):=λx o w=>by grind
 let M:aR K (λx=>if x∈J then H x else F x) v s.toD:=q.frz L λx Y=>by simp[Y,if_true]
 let e2:σ.set i ⇑v=σ:=by apply ext_getElem?;grind
 show#[v,_,e1,L,M,λx o w=>?_,λx o w=>?_,fa++([]++fb),?_,?_,λx Y=>?_]
 .by_cases z:x∈J
  .simp only[z]at w;show w
  .simp only[z]at w;show r.fr x o w
 .let w2:=r.gr x o w;grind
 .let:=Z (F':=λx=>if x∈J then H x else F x) (H':=H) (o:=⇑(.sh s.toD)) (u:=⇑v) (fi':=[]) L (λ_ _=>rfl) (.so (.sh M) .nil);rw[e2]at this;show this
 .grind
 grind
def Rel.store(r:Rel K (U++[o]) (σ++[u]) F G H)(h:U.length=σ.length)(hi:i<U.length):Rel K (U.set i o) (σ.set i u) F G H:=by
 let#[fp,e,L,ap]:=r.en;let#[f1,f2,rfl,a,b]:=e.cut h;let#[fa,fi,fb,rfl,v]:=a.put hi;let#[Z,n2,Y]:=qx.mp L;let#[na,J,M]:=qx.mp Z;show#[r.fr,r.gr,fa++(f2++fb),v (zL.refl F) (λ_ _=>rfl) b,?_,λx hx=>?_]
 .grind
 grind
end FL
namespace FL
open PySem PySem.Spec PyProof.Rows L2
abbrev St:=L2.St
abbrev wp(X:Cx)(pn:List (Addr×Obj))(xe:zF):Cx:={X with pn:=pn,xe:=xe}
def zM:R->Option S
 |.v s=>⇑s
 |.loc _=>none
@[inline]def RV(σ:St)(v:V):R->Prop
 |.v _=>True
 |.loc i=>σ[i]?=⇑⇑v
def pM(σ:St):List V->List R->Prop
 |[],[]=>True
 |v::vs,r::rs=>RV σ v r/\pM σ vs rs
 |_,_=>False
def gn(K:W.Frag)(F:Hp)(d:D)(C:Addr)(dx:Option Addr):Prop:=∃c fs vs,d=.exc c fs vs/\W.nsIn K mainGlobals (#[c.toArray]:Str)=⇑⇑(.ref C)/\pB F dx fs vs
def pj(X:Cx)(F H:Hp)(h:Heap)(u:Value)(d:D):Prop:=∃e C dx,u=.ref e/\gn X.K F d C dx/\br X [] H h e (.ref C) dx
@[inline]def KP(ks:List Nat)(σ σ':St):Prop:=∀i∈ks,σ'[i]?=σ[i]?
@[inline]def XC(X:Cx)(T:St->Prop)(F G:Hp)(PX:WX):Prop:=∀(d:D)(U':Env)(σ':St)(F' H':Hp)(u:Value)(s':Shared),PX d U'->T σ'->zL F F'->Rel X.K U' σ' F' G H'->Inv X [] σ' H' s'->pj X F' H' s'.heap u d->X.xe u s'
def XC.mono(h:XC X T F G PX)(t:∀σ,T' σ->T σ)(f:zL F F')(g:zL G G'):XC X T' F' G' PX:=
 λd J v M H2 u s' p q L r I x=>h d J v M H2 u s' p (t _ q) (f.trans L) (r.weakG g) I x
def XC.grow(h:XC X T F G PX)(f:zL F F'):XC X T F' G PX:=h.mono (λ_ z=>z) f (zL.refl G)
inductive tW(X:Cx)(w:WE)(σ:St)(H:Hp)(Q:VK):Prop
 |mk (F G:Hp) (U:Env) (P:WQ) (PX:WX) (z6:Rel X.K U σ F G H) (hw:w U P PX) (hok:∀r U' v F' H',P r U'->zL F F'->Rel X.K (U'++[zM r]) (σ++[some v]) F' G H'->RV σ v r->Q v H') (hx:XC X (·=σ) F G PX):tW X w σ H Q
@[inline]def FE(X:Cx)(e:Expr)(w:WE):Prop:=∀(pn:List (Addr×Obj))(xe:zF),PassesOwn (model X.prog X.w) X.A X.env xe->PE (wp X pn xe) e (tW (wp X pn xe) w)
inductive jD(X:Cx)(w:WT)(σ:St)(H:Hp)(Q:Bool->Hp->Prop):Prop
 |mk (F G:Hp) (U:Env) (P:Bool->Env->Prop) (PX:WX) (z6:Rel X.K U σ F G H) (hw:w U P PX) (hok:∀b U' F' H',P b U'->zL F F'->Rel X.K U' σ F' G H'->Q b H') (hx:XC X (·=σ) F G PX):jD X w σ H Q
@[inline]def FT(X:Cx)(e:Expr)(w:WT):Prop:=∀(pn:List (Addr×Obj))(xe:zF),PassesOwn (model X.prog X.w) X.A X.env xe->PT (wp X pn xe) e (jD (wp X pn xe) w)
@[inline]def FW(X:Cx)(e:Expr)(w:WT):Prop:=∀(pn:List (Addr×Obj))(xe:zF),PassesOwn (model X.prog X.w) X.A X.env xe->PW (wp X pn xe) e (jD (wp X pn xe) w)
inductive rV(X:Cx)(w:WA)(σ:St)(H:Hp)(Q:List V->Hp->Prop):Prop
 |mk (F G:Hp) (U:Env) (P:List R->Env->Prop) (PX:WX) (z6:Rel X.K U σ F G H) (hw:w U P PX) (hok:∀rs U' vs F' H',P rs U'->zL F F'->Rel X.K (U'++rs.map zM) (σ++vs.map some) F' G H'->U'.length=σ.length->pM σ vs rs->Q vs H') (hx:XC X (·=σ) F G PX):rV X w σ H Q
@[inline]def FA(X:Cx)(es:List Expr)(w:WA):Prop:=∀(pn:List (Addr×Obj))(xe:zF),PassesOwn (model X.prog X.w) X.A X.env xe->PA (wp X pn xe) es (rV (wp X pn xe) w)
def PE.imp(h:PE X e t)(k:∀σ H Q,t' σ H Q->t σ H Q):PE X e t':=λz4 s σ H Q I q=>h z4 s σ H Q I (k σ H Q q)
def PT.imp(h:PT X e t)(k:∀σ H Q,t' σ H Q->t σ H Q):PT X e t':=λz4 s σ H Q I q=>h z4 s σ H Q I (k σ H Q q)
def PW.imp(h:PW X e t)(k:∀σ H Q,t' σ H Q->t σ H Q):PW X e t':=λv z4 s σ H Q I q=>h v z4 s σ H Q I (k σ H Q q)
def PA.imp(h:PA X e t)(k:∀σ H Q,t' σ H Q->t σ H Q):PA X e t':=λp z4 s σ H Q I q=>h p z4 s σ H Q I (k σ H Q q)
section
variable{K:W.Frag}
def Rel.mid(r:Rel K (U++o::U') (σ++w::σ') F G H)(h:U.length=σ.length):Rel K (U++U') (σ++σ') F G H:=by let#[fp,e,J,ap]:=r.en;let#[f1,f2,rfl,a,b]:=e.cut h;let#[f2,f3,rfl,b,c]:=zN.cut (U:=[o]) (σ:=[w]) rfl b;let#[Z,Y,M]:=qx.mp J;let#[n4,L,n6]:=qx.mp Y;show#[r.fr,r.gr,f1++f3,a.app c,qx.mpr #[Z,L,λx v y hy=>M x v y (qi _ hy)],λx v=>ap x ?_];grind
def Ag(r:Rel K (U++[o]) (σ++[w]) F G H):U.length=σ.length:=by let:=r.len;simpa using this
def IV:(U++o::U').set U.length o'=U++o'::U':=by
 induction U with
 |nil=>rfl
 |cons a r v=>simpa using v
inductive Nd{α:Type}(o:Option α)(k:α->Prop):Prop
 |mk (a:α):o=some a->k a->Nd o k
def Ai(h:zK o k):Nd o k:=by
 cases o with
 |none=>show h.elim
 |some a=>show#[a,rfl,h]
def bJ(K:W.Frag)(F H:Hp)(v:V)(d:D):Prop:=aR K F v d\/
 (∃a xs ds,v=.ref a/\d=.lst ds/\H a=⇑(.lst xs)/\zY K F xs ds)\/
 (∃a z5 ks vs,v=.ref a/\d=.dct false ks vs/\H a=⇑(.dK z5)/\ks=z5.map (λp=>aZ p.1)/\zY K F (z5.map (·.2)) vs)\/
 (∃a z5 ks vs,v=.ref a/\d=.dct true ks vs/\H a=⇑(.dT z5)/\ks=z5.map (λp=>D.tup (p.1.map aZ))/\zY K F (z5.map (·.2)) vs)
def bJ.mono(h:zL F F')(r:bJ K F H v d):bJ K F' H v d:=by
 rcases r with r|⟨a,xs,ds,M,L,J,r⟩|⟨a,G,ks,Y,M,L,J,Z,r⟩|⟨a,G,ks,Y,M,L,J,Z,r⟩
 .show .inl (r.mono h)
 .show .inr (.inl #[a,xs,ds,M,L,J,r.mono h])
 .show .inr (.inr (.inl #[a,G,ks,Y,M,L,J,Z,r.mono h]))
 .show .inr (.inr (.inr #[a,G,ks,Y,M,L,J,Z,r.mono h]))
def zO.sh(r:zO K F H xs l fp):l.all S.isSh=true->zY K F xs (l.map S.toD)/\fp=[]:=
 zO.ind (P:=λxs l fp=>l.all S.isSh=true->zY K F xs (l.map S.toD)/\fp=[]) (λ_=>#[.nil,rfl]) (λa _ v h=>by
  rw[List.all_cons,and_eq_true]at h;let#[q,e]:=v h.2;cases a with
  |sh r=>show#[.cons r q,e]
  |_=>show absurd h.1 (by simp[S.isSh])) r
theorem look(r:Rel K (U++(zM x::U')) (σ++(⇑v::σ')) F G H)(h:U.length=σ.length)(rv:RV σ v x)(e:view x U=⇑d):aR K H v d:=by
 cases x with
 |v s=>
  let#[u,fp,J,q]:=r.at (i:=U.length) (s:=s) Eb;rw[h,getElem?_append_right (zm _)]at J;let Z:v=u:=↑J
  subst Z;let Y:s.toD=d:=qf e;rw[<-Y];show q.view r.fr
 |loc i=>
  let L:(slot U i).map S.toD=⇑d:=e;cases q:slot U i with
  |none=>rw[q]at L;cases L
  |some s=>
   rw[q]at L;let Y:s.toD=d:=qf L;let hi:=Es q;let#[u,fp,J,w]:=r.at (i:=i) (s:=s) (by rw[Fi hi];show q);rw[getElem?_append_left (h▸hi)]at J;let M:σ[i]?=⇑⇑v:=rv;rw[M]at J;let Z:v=u:=↑J
   subst Z;rw[<-Y];show w.view r.fr
inductive vb(K:W.Frag)(U:Env)(σ:St)(F G H:Hp)(v:V)(d:D):Prop
 |mk (F':Hp):zL F F'->bJ K F' H v d->Rel K U σ F' G H->vb K U σ F G H v d
def AG(r:Rel K (U++(zM x::U')) (σ++(⇑v::σ')) F G H)(h:U.length=σ.length)(rv:RV σ v x)(e:zW x U=⇑d):
  vb K (U++U') (σ++σ') F G H v d:=by
 cases x with
 |v s=>
  let#[u,F',J,sm,rp,r']:=r.give (i:=U.length) (s:=s) Eb;rw[h,getElem?_append_right (zm _)]at J;let e2:v=u:=↑J
  subst e2;let e3:s.toD=d:=qf e;rw[show(U++zM (.v s)::U').set U.length ⇑(S.sh s.toD)=U++⇑(S.sh s.toD)::U' from IV]at r';show#[F',sm,.inl (e3▸rp),r'.mid h]
 |loc i=>
  let e':(match slot U i with|some s=>if s.flat then ⇑s.toD else none|none=>none)=⇑d:=e;cases q:slot U i with
  |none=>rw[q]at e';cases e'
  |some s=>
   let hi:=Es q;let#[u,fp,J,w]:=r.at (i:=i) (s:=s) (by rw[Fi hi];show q);rw[getElem?_append_left (h▸hi)]at J;let h1:σ[i]?=⇑⇑v:=rv;rw[h1]at J;let e2:v=u:=↑J
   subst e2;show#[F,zL.refl F,?_,r.mid h];by_cases Z:s.flat=true
   .let e3:s.toD=d:=by grind
    subst e3;cases w with
    |sh r=>show .inl r
    |lst Y M=>let#[L,_]:=M.sh Z;show .inr (.inl #[_,_,_,rfl,by simp,Y,L])
    |dK Y k0 M=>let#[L,_]:=M.sh Z;show .inr (.inr (.inl #[_,_,_,_,rfl,by simp,Y,k0,L]))
    |dT Y k0 M=>let#[L,_]:=M.sh Z;show .inr (.inr (.inr #[_,_,_,_,rfl,by simp,Y,k0,L]))
    |st _ _=>show absurd Z (by simp[S.flat])
   grind
inductive vh(K:W.Frag)(L:Prop)(U:Env)(σ:St)(F G H:Hp):Prop
 |mk (F':Hp):zL F F'->L->Rel K U σ F' G H->vh K L U σ F G H
def Ar(r:Rel K (U++(zM x::U')) (σ++(⇑v::σ')) F G H)(h:U.length=σ.length)(rv:RV σ v x)(e:give x U=⇑(s,U1)):
  vh K (U1.length=U.length) (U1++(⇑s::U')) (σ++(⇑v::σ')) F G H:=by
 cases x with
 |v t=>have J:⇑(t,U)=⇑(s,U1):=e;cases J;show#[F,zL.refl F,rfl,r]
 |loc i=>
  let J:(match slot U i with|some s=>⇑(S.sh s.toD,U.set i ⇑(.sh s.toD))|none=>none)=⇑(s,U1):=e;cases q:slot U i with
  |none=>rw[q]at J;cases J
  |some t=>
   rw[q]at J;cases J;let hi:=Es q;let#[u,F',Y,sm,rp,L]:=r.give (i:=i) (s:=t) (by rw[Fi hi];show q);rw[getElem?_append_left (h▸hi)]at Y;let M:σ[i]?=⇑⇑v:=rv;rw[M]at Y;let e2:v=u:=↑Y
   subst e2;rw[List.set_append_left _ _ hi]at L;show#[F',sm,by simp,?_];let#[fp,en,nd,ap]:=L.en;let hl:(U.set i ⇑(S.sh t.toD)).length=σ.length:=↑h
   let#[f1,Z,rfl,a,b]:=en.cut hl;let b':zN K F' H (none::U') (⇑v::σ') Z:=b;cases b' with
   |no b=>show#[L.fr,L.gr,f1++([]++Z),a.app (.so (.sh rp) b),↑nd,λx hx=>ap x hx]
end
def tW.mono(h:tW X w σ H Q)(k:∀v H',Q v H'->Q' v H'):tW X w σ H Q':=by let#[F,G,U,P,PX,L,Z,M,Y]:=h;show#[F,G,U,P,PX,L,Z,λr J v F' H' a b c d=>k _ _ (M r J v F' H' a b c d),Y]
inductive pq(X:Cx)(σ:St)(k:R->R->Env->WQ->WX->Prop)(Q:VK)(v u:V)(H:Hp):Prop
 |mk (F G:Hp) (U:Env) (x y:R) (P:WQ) (PX:WX) (z6:Rel X.K (U++[zM x,zM y]) (σ++[some v,some u]) F G H) (hl:U.length=σ.length) (rx:RV σ v x) (ry:RV σ u y) (hk:k x y U P PX) (hok:∀r U' v F' H',P r U'->zL F F'->Rel X.K (U'++[zM r]) (σ++[some v]) F' G H'->RV σ v r->Q v H') (hx:XC X (·=σ) F G PX):pq X σ k Q v u H
def Dp(h:tW X (λU Q E=>wa U (λx U1=>wb U1 (λy U2=>k x y U2 Q E) E) E) σ H Q):
  tW X wa σ H λv H1=>tW X wb σ H1 λu H2=>pq X σ k Q v u H2:=by
 let#[F,G,U,P,PX,h4,hw,h7,hx]:=h;show#[F,G,U,_,PX,h4,hw,λx U1 v F1 H1 h6 Y r1 h3=>?_,hx];let h1:=Ag r1;let#[G1,J,gg,back]:=r1.hide h1;show#[F1,G1,U1,_,PX,J,h6,λy U2 u F2 H2 h5 M r2 Z=>?_,hx.mono (λ_ z=>z) Y gg];let h2:=Ag r2;let r3:=back M r2;rw[qp,qp]at r3;show#[F2,G,U2,x,y,P,PX,Rel.swap (U1:=[zM y]) (σ1:=[⇑u]) (U2:=[zM x]) (σ2:=[⇑v]) h2 rfl r3,h2,h3,Z,h5,λr L v F' H' a b c d=>h7 r L v F' H' a (Y.trans (M.trans b)) c d,hx.grow (Y.trans M)]
inductive One(X:Cx)(σ:St)(k:R->Env->WQ->WX->Prop)(Q:VK)(v:V)(H:Hp):Prop
 |mk (F G:Hp) (U:Env) (x:R) (P:WQ) (PX:WX) (z6:Rel X.K (U++[zM x]) (σ++[some v]) F G H) (hl:U.length=σ.length) (rx:RV σ v x) (hk:k x U P PX) (hok:∀r U' v F' H',P r U'->zL F F'->Rel X.K (U'++[zM r]) (σ++[some v]) F' G H'->RV σ v r->Q v H') (hx:XC X (·=σ) F G PX):One X σ k Q v H
theorem one(h:tW X (λU Q E=>wa U (λx U1=>k x U1 Q E) E) σ H Q):tW X wa σ H λv H1=>One X σ k Q v H1:=by let#[F,G,U,P,PX,M,hw,Z,hx]:=h;show#[F,G,U,_,PX,M,hw,λx U1 v F1 H1 Y s1 r1 L=>#[F1,G,U1,x,P,PX,r1,Ag r1,L,Y,λr J v F' H' a b c d=>Z r J v F' H' a (s1.trans b) c d,hx.grow s1],hx]
def QM(hN:X.N[i]?=⇑x)(hv:gu X.env.scope x)(hd:autoParam ((x==("__debug__":Str))=false) dZ9)(Z:autoParam ((x==("__classdict__":Str))=false) dZ9):FE X (.Name x pos) (zG i):=by
 intro pn xe hp;show PE.imp (OP (X:=wp X pn xe) hN hv hd Z) λσ H Q h=>?_;let#[F,G,U,P,PX,J,M,L,hx]:=h;unfold zG at M;cases q:slot U i with
 |none=>rw[q]at M;show M.elim
 |some s=>
  let#[v,fp,Y,sr]:=J.at q;rw[q]at M;cases s with
  |sh d=>
   cases sr with
   |sh r=>show#[v,Y,L _ _ v F H M (zL.refl F) (J.push r) trivial]
  |lst l=>show#[v,Y,L _ _ v F H M (zL.refl F) J.pushN Y]
  |dct t a b=>show#[v,Y,L _ _ v F H M (zL.refl F) J.pushN Y]
  |set l=>show#[v,Y,L _ _ v F H M (zL.refl F) J.pushN Y]
def Dt(h:∀X:Cx,PE X e (tC v))(r:∀K F,aR K F v d):FE X e (wC d):=by intro pn xe Z;show PE.imp (h _) λσ H Q h=>?_;let#[F,G,U,P,PX,J,M,L,Y]:=h;show L _ _ v F H M (zL.refl F) (J.push (r _ _)) trivial
def Ad:FE X (.Constant (.int i) j pos) (wC (.int i)):=Dt (λ_=>Ph) λ_ _=>.int i
def Eh:FE X (.Constant (.bool b) j pos) (wC (.bl b)):=Dt (λ_=>Om) λ_ _=>.bl b
def Ki:FE X (.Constant .none j pos) (wC .non):=Dt (λ_=>OK) λ_ _=>.non
def BE(e:x.cps.toList=l)(z:l.length<=16777216):FE X (.Constant (.str x) j pos) (wC (.str l)):=Dt (λ_=>Pi) λ_ _=>.str e z
def OpR.or(h:OpR X f r)(h':OpR X f J):OpR X f (λx y H Q=>r x y H Q\/J x y H Q):=λz4 s σ H x y v u Q I G F q=>q.elim (λz=>h z4 s σ H x y v u Q I G F z) λz=>h' z4 s σ H x y v u Q I G F z
def jC(K:W.Frag)(r:R2)(J:D->D->Option S):Prop:=∀(σ:St)(U:Env)(F G H:Hp)(x y:V)(p q:D)(s:S)(Q:VK),Rel K U σ F G H->bJ K F H x p->bJ K F H y q->J p q=⇑s->
 (∀v F' H',zL F F'->Rel K (U++[⇑s]) (σ++[⇑v]) F' G H'->Q v H')->r x y H Q
def Ej(ho:∀pn xe,OpR (wp X pn xe) (binaryOp op) r)(hd:jC X.K r o)(ha:FE X a wa)(hb:FE X b wb):FE X (.BinOp a op b pos) (zR o wa wb):=by intro pn xe hp;show PE.imp (OG (ho pn xe) (ha pn xe hp) (hb pn xe hp)) λσ H Q h=>?_;show(Dp (k:=λx y L Q E=>zK (zW x L) λp=>zK (zW y L) λq=>zK (o p q) λs=>Q (.v s) L) h).mono λv H1 h1=>h1.mono λu H2 h2=>?_;let#[F,G,U,x,y,P,PX,Z,hl,rx,ry,M,h5,hx]:=h2;let#[p,ep,M]:=Ai M;let#[q,eq,M]:=Ai M;let#[t,et,M]:=Ai M;let#[F1,s1,h4,Y]:=AG Z hl rx ep;let#[F2,s2,h3,J]:=AG (U':=[]) (σ':=[]) Y hl ry eq;rw[qB,qB]at J;show hd σ U F2 G H2 v u p q t Q J (h4.mono s2) h3 et λv' F' H' sm r'=>h5 (.v t) U v' F' H' M (s1.trans (s2.trans sm)) r' trivial
def rV.mono(h:rV X w σ H Q)(k:∀v H',Q v H'->Q' v H'):rV X w σ H Q':=by let#[F,G,U,P,PX,L,Z,M,Y]:=h;show#[F,G,U,P,PX,L,Z,λr J v F' H' a b c d e=>k _ _ (M r J v F' H' a b c d e),Y]
inductive gx(X:Cx)(σ:St)(k:R->R->Env->(Bool->Env->Prop)->WX->Prop)(Q:Bool->Hp->Prop)(v u:V)(H:Hp):Prop
 |mk (F G:Hp) (U:Env) (x y:R) (P:Bool->Env->Prop) (PX:WX) (z6:Rel X.K (U++[zM x,zM y]) (σ++[some v,some u]) F G H) (hl:U.length=σ.length) (rx:RV σ v x) (ry:RV σ u y) (hk:k x y U P PX) (hok:∀r U' F' H',P r U'->zL F F'->Rel X.K U' σ F' G H'->Q r H') (hx:XC X (·=σ) F G PX):gx X σ k Q v u H
def Jp(h:jD X (λU Q E=>wa U (λx U1=>wb U1 (λy U2=>k x y U2 Q E) E) E) σ H Q):
  tW X wa σ H λv H1=>tW X wb σ H1 λu H2=>gx X σ k Q v u H2:=by
 let#[F,G,U,P,PX,h4,hw,h7,hx]:=h;show#[F,G,U,_,PX,h4,hw,λx U1 v F1 H1 h6 Y r1 h3=>?_,hx];let h1:=Ag r1;let#[G1,J,gg,back]:=r1.hide h1;show#[F1,G1,U1,_,PX,J,h6,λy U2 u F2 H2 h5 M r2 Z=>?_,hx.mono (λ_ z=>z) Y gg];let h2:=Ag r2;let r3:=back M r2;rw[qp,qp]at r3;show#[F2,G,U2,x,y,P,PX,Rel.swap (U1:=[zM y]) (σ1:=[⇑u]) (U2:=[zM x]) (σ2:=[⇑v]) h2 rfl r3,h2,h3,Z,h5,λr L F' H' a b c=>h7 r L F' H' a (Y.trans (M.trans b)) c,hx.grow (Y.trans M)]
def cR(K:W.Frag)(r:R2)(v:D->D->Option Bool):Prop:=∀(H:Hp)(x y:V)(p q:D)(k:Bool)(Q:VK),aR K H x p->aR K H y q->v p q=⇑k->Q (.bl k) H->r x y H Q
def By{K:W.Frag}(L:Rel K (U++[zM x,zM y]) (σ++[⇑v,⇑u]) F G H)(M:U.length=σ.length)(Z:RV σ v x)(Y:RV σ u y)(ep:view x U=⇑p)(eq:view y U=⇑q):
  aR K H v p/\aR K H u q/\Rel K U σ F G H:=by
 let J:Rel K (U++[zM y]) (σ++[⇑u]) F G H:=L.mid M;show#[look L M Z ep,look (U':=[]) (σ':=[]) J M Y eq,J.drop M]
def Aw(ho:∀pn xe,OpR (wp X pn xe) (compareOp op) r)(hd:cR X.K r o)(ha:FE X a wa)(hb:FE X b wb)(hm:behindInMarks op b=false):FT X (.Compare a [op] [b] pos) (aJ o wa wb):=by intro pn xe hp;show PT.imp (Lj (ho pn xe) (ha pn xe hp) (hb pn xe hp) hm) λσ H Q h=>?_;show(Jp (k:=λx y J Q E=>zK (view x J) λp=>zK (view y J) λq=>zK (o p q) λc=>Q c J) h).mono λv H1 h1=>h1.mono λu H2 h2=>?_;let#[F,G,U,x,y,P,PX,Y,hl,rx,ry,L,Z,hx]:=h2;let#[p,ep,L]:=Ai L;let#[q,eq,L]:=Ai L;let#[t,et,L]:=Ai L;let#[r1,r2,M]:=By Y hl rx ry ep eq;show hd H2 v u p q t _ r1 r2 et #[t,rfl,Z t U F H2 L (zL.refl F) M]
def DA(ho:∀pn xe,OpR (wp X pn xe) (compareOp op) r)(hd:cR X.K r o)(ha:FE X a wa)(hb:FE X b wb)(hm:behindInMarks op b=false):FE X (.Compare a [op] [b] pos) (gH (aJ o wa wb)):=by intro pn xe hp;show PE.imp (Qo (ho pn xe) (ha pn xe hp) (hb pn xe hp) hm) λσ H Q h=>?_;show(Dp (k:=λx y J Q E=>zK (view x J) λp=>zK (view y J) λq=>zK (o p q) λc=>Q (.v (.sh (.bl c))) J) h).mono λv H1 h1=>h1.mono λu H2 h2=>?_;let#[F,G,U,x,y,P,PX,Y,hl,rx,ry,L,Z,hx]:=h2;let#[p,ep,L]:=Ai L;let#[q,eq,L]:=Ai L;let#[t,et,L]:=Ai L;let#[r1,r2,M]:=By Y hl rx ry ep eq;show hd H2 v u p q t _ r1 r2 et (Z _ U (.bl t) F H2 L (zL.refl F) (M.push (.bl t)) trivial)
def QK{K:W.Frag}(r:aR K H v d)(e:fB d=⇑k):av K v H k:=by
 cases r with
 |non=>show(qf e).symm
 |bl b=>show(qf e).symm
 |int i=>have F:=(qf e).symm;rw[F];show ↥(i≠0)=(i !=0);by_cases h:i=0<;>simp[h]
 |str J z=>
  rename_i x l;let F:=(qf e).symm;let G:x.length=l.length:=by rw[<-J];rfl
  show#[by rw[G];show z,?_];rw[F,G];cases l with
  |nil=>rfl
  |cons a r=>simp;lia
 |tup h r=>show .inr (.inl #[_,bF.of h,?_]);let F:=(qf e).symm;rw[F];cases r<;>rfl
 |lst h r=>show .inl #[_,h,?_];let F:=(qf e).symm;rw[F];cases r<;>rfl
 |dK h k r=>cases e
 |dT h k r=>cases e
 |st h r=>cases e
 |exc h k=>cases e
def En(ha:FE X a wa)(he:∀whole,isTrue a X.env whole=(do let v<-whole;standAt a.pos;holding [v] (truthy v)):=by intro _;rfl):FT X a (fP wa):=by intro pn xe hp;show PT.imp (Ss (ha pn xe hp) he) λσ H Q h=>?_;let#[F,G,U,P,PX,z6,hw,hok,hx]:=h;show#[F,G,U,_,PX,z6,hw,λx U1 v F1 H1 hk s1 r1 rv1=>?_,hx];let#[p,ep,hk]:=Ai hk;let#[t,et,hk]:=Ai hk;let hl:=Ag r1;show#[t,QK (look (U':=[]) (σ':=[]) r1 hl rv1 ep) et,hok t U1 F1 H1 hk s1 (r1.drop hl)]
def CH{k:Bool->Env->(Bool->Env->Prop)->WX->Prop}(h:jD X (λU Q E=>ta U (λc U1=>k c U1 Q E) E) σ H Q)
  (hk:∀(c:Bool)(F G:Hp)(U:Env)(P:Bool->Env->Prop)(PX:WX)(H1:Hp),Rel X.K U σ F G H1->k c U P PX->(∀r U' F' H',P r U'->zL F F'->Rel X.K U' σ F' G H'->Q r H')->XC X (·=σ) F G PX->Q' c H1):jD X ta σ H Q':=by
 let#[F,G,U,P,PX,v,Z,J,M]:=h;show#[F,G,U,_,PX,v,Z,λc U1 F1 H1 hp L Y=>hk c F1 G U1 P PX H1 Y hp (λr U' F' H' a b c=>J r U' F' H' a (L.trans b) c) (M.grow L),M]
def Dx(h:FW X a ta):FT X a ta:=λpn xe v=>(h pn xe v).pt
def Fc(h:FT X a ta):FW X (.BoolOp .And [a] pos) ta:=λpn xe v=>PV (h pn xe v)
def HD(h:FT X a ta):FW X (.BoolOp .Or [a] pos) ta:=λpn xe v=>OA (h pn xe v)
def Em{rest:List Expr}(h:FT X a ta)(h':FW X (.BoolOp .And (b::rest) pos) tb):FW X (.BoolOp .And (a::b::rest) pos) (eX ta tb):=λpn xe M=>by
 show PW.imp (OE (h pn xe M) (h' pn xe M)) λσ H Q q=>?_;show CH (k:=λc v Q E=>if c then tb v Q E else Q false v) q λc F G U P PX H1 J Y L Z=>?_;cases c with
 |true=>show#[F,G,U,P,PX,J,Y,L,Z]
 |false=>show L false U F H1 Y (zL.refl F) J
def Gm{rest:List Expr}(h:FT X a ta)(h':FW X (.BoolOp .Or (b::rest) pos) tb):FW X (.BoolOp .Or (a::b::rest) pos) (mN ta tb):=λpn xe M=>by
 show PW.imp (Oc (h pn xe M) (h' pn xe M)) λσ H Q q=>?_;show CH (k:=λc v Q E=>if c then Q true v else tb v Q E) q λc F G U P PX H1 J Y L Z=>?_;cases c with
 |false=>show#[F,G,U,P,PX,J,Y,L,Z]
 |true=>show L true U F H1 Y (zL.refl F) J
def Gp(h:FT X a ta):FT X (.UnaryOp .Not a pos) (hW ta):=λpn xe M=>by show PT.imp (Pw (h pn xe M)) λσ H Q q=>?_;show CH (k:=λc v Q E=>Q (!c) v) q λc F G U P PX H1 J Y L Z=>L _ U F H1 Y (zL.refl F) J
def JI{K:W.Frag}{c:Bool}(r:aR K H v (.bl c)):v=.bl c:=by cases r;rfl
def Pm(h:FE X a wa):FE X (.BoolOp F [a] pos) wa:=λpn xe v=>QN (h pn xe v)
def Oa{rest:List Expr}(ha:FE X a wa)(hb:FE X (.BoolOp .Or (b::rest) pos) wb):FE X (.BoolOp .Or (a::b::rest) pos) (uO wa wb):=λpn xe hp=>by
 show PE.imp (Od (ha pn xe hp) (hb pn xe hp)) λσ H Q q=>?_;show(one (k:=λx J Q E=>match view x J with|some (.bl c)=>if c then Q (.v (.sh (.bl true))) J else wb J Q E|_=>False) q).mono λv H1 h1=>?_;let#[F,G,U,x,P,PX,L,Z,rx,Y,M,hx]:=h1;split at Y
 .rename_i c e;show#[c,JI (look (U':=[]) (σ':=[]) L Z rx e),?_];cases c with
  |false=>show#[F,G,U,P,PX,L.drop Z,Y,M,hx]
  |true=>show M _ U (.bl true) F H1 Y (zL.refl F) ((L.drop Z).push (.bl true)) trivial
 .show Y.elim
def Ab:FA X [] zI:=λpn xe Y=>PA.imp JW λσ H Q q=>by let#[F,G,U,P,PX,v,L,J,M]:=q;show J [] U [] F H L (zL.refl F) ↑v v.len trivial
def Aa(ha:FE X e wa)(hb:FA X es wb)(hs:autoParam (starEach (e::es) X.env=(false,eval e X.env)::starEach es X.env) rZ9):FA X (e::es) (zH wa wb):=λpn xe hp=>by
 show PA.imp (Ku (ha pn xe hp) (hb pn xe hp) hs) λσ H Q q=>?_;let#[F,G,U,P,PX,h3,hw,h6,hx]:=q;show#[F,G,U,_,PX,h3,hw,λx U1 v F1 H1 h5 s1 r1 Y=>?_,hx];let h1:=Ag r1;let#[G1,J,gg,back]:=r1.hide h1;show#[F1,G1,U1,_,PX,J,h5,λZ U2 L F2 H2 h4 s2 r2 h2 M=>?_,hx.mono (λ_ z=>z) s1 gg];let r3:=back s2 r2;rw[qp,qp]at r3;let hl:(Z.map zM).length=(L.map some).length:=by let:=r2.len;grind
 show h6 (x::Z) U2 (v::L) F2 H2 h4 (s1.trans s2) (Rel.swap (U1:=Z.map zM) (σ1:=L.map some) (U2:=[zM x]) (σ2:=[⇑v]) h2 hl r3) h2 #[Y,M]
section
variable{K:W.Frag}
def pM.len:∀{vs:List V}{rs:List R},pM σ vs rs->vs.length=rs.length
 |[],[],_=>rfl
 |[],_::_,h=>h.elim
 |_::_,[],h=>h.elim
 |_::vs,_::rs,h=>by simp[pM.len h.2]
def Fv:∀{rs:List R}{vs:List V}{U U' U1:Env}{ss:List S}{F:Hp}{σ':St},Rel K (U++(rs.map zM++U')) (σ++(vs.map some++σ')) F G H->U.length=σ.length->pM σ vs rs->aI rs U=⇑(ss,U1)->
  ∃F',zL F F'/\U1.length=U.length/\ss.length=rs.length/\Rel K (U1++(ss.map some++U')) (σ++(vs.map some++σ')) F' G H
 |[],[],U,U',U1,ss,F,σ',r,h,_,e=>by let J:⇑(([]:List S),U)=⇑(ss,U1):=e;cases J;show#[F,zL.refl F,rfl,rfl,r]
 |[],_::_,_,_,_,_,_,_,_,_,h,_=>h.elim
 |_::_,[],_,_,_,_,_,_,_,_,h,_=>h.elim
 |x::rs,v::vs,U,U',U1,ss,F,σ',r,h,rv,e=>by
  let J:(match give x U with|some (s,U1)=>(match aI rs U1 with|some (ss,U2)=>⇑(s::ss,U2)|none=>none)|none=>none)=⇑(ss,U1):=e;cases q:give x U with
  |none=>rw[q]at J;cases J
  |some p=>
   let#[s,U2]:=p;rw[q]at J;cases L:aI rs U2 with
   |none=>simp only[L]at J;cases J
   |some p2=>
    let#[Y,h1]:=p2;simp only[L]at J;cases J;let#[F1,s1,l1,r1]:=Ar (U':=rs.map zM++U') (σ':=vs.map some++σ') r h rv.1 q;let h2:U2.length=σ.length:=l1.trans h;let hl:(rs.map zM++U').length=(vs.map some++σ').length:=by let:=r1.len;rw[qq,qq,qt,qt]at this;lia
    let M:U'.length=σ'.length:=by let:=rv.2.len;simp at hl;lia
    let r2:=Rel.swap (U1:=[⇑s]) (σ1:=[⇑v]) (U2:=rs.map zM++U') (σ2:=vs.map some++σ') h2 rfl r1;rw[qp,qp]at r2;let#[F2,s2,l2,l3,Z]:=Fv (rs:=rs) (vs:=vs) r2 h2 rv.2 L;let h3:U1.length=σ.length:=l2.trans h2;rw[<-qp (Y.map some),<-qp (vs.map some)]at Z;let r4:=Rel.swap (U1:=Y.map some++U') (σ1:=vs.map some++σ') (U2:=[⇑s]) (σ2:=[⇑v]) h3 (by simp[l3,rv.2.len,M]) Z;show#[F2,s1.trans s2,l2.trans l1,by simp[l3],r4]
def Bm:∀{vs:List V}{ss:List S}{fp:List Addr},zN K F H (ss.map some) (vs.map some) fp->zO K F H vs ss fp
 |[],[],_,.nil=>.nil
 |[],_::_,_,h=>nomatch h
 |_::_,[],_,h=>nomatch h
 |v::vs,s::ss,_,.so a b=>.cons a (Bm b)
def Rel.newL(r:Rel K (U++ss.map some) (σ++vs.map some) F G H)(h:U.length=σ.length)(J:H p=none):
  Rel K (U++[⇑(.lst ss)]) (σ++[⇑(.ref p)]) F G (upd H p (.lst vs)):=by
 let#[f0,g0,Z]:=r.free J;let#[fp,e,nd,ap]:=r.en;let L:∀a∈fp,a≠p:=λa v z=>Z fp e (z▸v);let#[f1,f2,rfl,Y,M]:=(e.mono (H':=upd H p (.lst vs)) (zL.refl F) λa v=>Al (L a v)).cut h;show#[zL.updR r.fr f0,λa u q=>?_,f1++((p::f2)++[]),Y.app (.so (.lst AV (Bm M)) .nil),?_,λa v=>?_]
 .let J:a≠p:=λz=>by rw[z,g0]at q;cases q
  rw[Al J];show r.gr a u q
 .grind
 grind
def Rel.giveD{ss:List S}(r:Rel K (U++ss.map some) (σ++vs.map some) F G H)(h:U.length=σ.length):∃F',zL F F'/\zY K F' vs (ss.map S.toD)/\Rel K U σ F' G H:=by
 classical
 let#[fp,e,Y,ap]:=r.en;let#[f1,M,rfl,a,b]:=e.cut h;let#[Z,n2,n3]:=qx.mp Y;let v:zL F (λx=>if x∈M then H x else F x):=λx o w=>by grind
 let J:=(Bm b).frz v λx L=>by simp[L,if_true]
 rw[S.toDs_map]at J;show#[_,v,J,λx o w=>?_,λx o w=>?_,f1,a.mono v λ_ _=>rfl,Z,λx L=>?_]
 .by_cases z:x∈M
  .simp only[z]at w;show w
  .simp only[z]at w;show r.fr x o w
 .let w2:=r.gr x o w;grind
 grind
end
inductive ik(X:Cx)(σ:St)(k:List R->Env->WQ->WX->Prop)(Q:VK)(vs:List V)(H:Hp):Prop
 |mk (F G:Hp) (U:Env) (rs:List R) (P:WQ) (PX:WX) (z6:Rel X.K (U++rs.map zM) (σ++vs.map some) F G H) (hl:U.length=σ.length) (rv:pM σ vs rs) (hk:k rs U P PX) (hok:∀r U' v F' H',P r U'->zL F F'->Rel X.K (U'++[zM r]) (σ++[some v]) F' G H'->RV σ v r->Q v H') (hx:XC X (·=σ) F G PX):ik X σ k Q vs H
theorem many(h:tW X (λU Q E=>wa U (λrs U1=>k rs U1 Q E) E) σ H Q):rV X wa σ H λvs H1=>ik X σ k Q vs H1:=by let#[F,G,U,P,PX,M,hw,Z,hx]:=h;show#[F,G,U,_,PX,M,hw,λrs U1 vs F1 H1 Y s1 r1 h1 L=>#[F1,G,U1,rs,P,PX,r1,h1,L,Y,λr J v F' H' a b c d=>Z r J v F' H' a (s1.trans b) c d,hx.grow s1],hx]
def AW(h:FA X es wa):FE X (.List es pos) (bS wa):=λpn xe Y=>by
 show PE.imp (OO (h pn xe Y)) λσ H Q q=>?_;show(many (k:=λJ v Q E=>zK (if J.length<=big then aI J v else none) λp=>Q (.v (.lst p.1)) p.2) q).mono λvs H1 h1=>?_;let#[F,G,U,J,P,PX,L,hl,rv,hk,Z,hx]:=h1;let#[#[ss,v],ep,hk]:=Ai hk;by_cases M:J.length<=big
 .rw[zj M]at ep;let#[F1,s1,l1,l2,r1]:=Fv (U':=[]) (σ':=[]) ↑L hl rv ep;show#[by rw[rv.len];show le_trans M ⋯,λp Y=>Z _ v (.ref p) F1 _ hk s1 (Rel.newL ↑r1 (l1.trans hl) Y) trivial]
 .rw[zk M]at ep;cases ep
def AX(h:FA X es wa):FE X (.Tuple es k pos) (cC wa):=λpn xe L=>by
 show PE.imp (Pp (h pn xe L)) λσ H Q q=>?_;show(many (k:=λJ v Q E=>zK (if J.length<=big then aI J v else none) λp=>Q (.v (.sh (.tup (p.1.map S.toD)))) p.2) q).mono λvs H1 h1=>?_;let#[F,G,U,J,P,PX,M,hl,rv,hk,Z,hx]:=h1;let#[#[ss,v],ep,hk]:=Ai hk;by_cases Y:J.length<=big
 .rw[zj Y]at ep;let#[F1,s1,l1,l2,r1]:=Fv (U':=[]) (σ':=[]) ↑M hl rv ep;let#[F2,s2,rp,r2]:=Rel.giveD (U:=v) ↑r1 (l1.trans hl);show#[by rw[rv.len];show le_trans Y ⋯,λp L=>?_];let n2:=(r2.free L).1;show Z _ v (.ref p) _ _ hk (s1.trans (s2.trans (zL.upd n2))) ((r2.newF L).push (.tup AV (rp.mono (zL.upd n2)))) trivial
 .rw[zk Y]at ep;cases ep
def KP.refl:KP ks σ σ:=λ_ _=>rfl
def KP.trans(a:KP ks σ σ1)(b:KP ks σ1 σ2):KP ks σ σ2:=λi h=>(b i h).trans (a i h)
inductive jh(X:Cx)(ks:List Nat)(w:WS)(D:L2.Ends)(σ:St)(H:Hp):Prop
 |mk (F G:Hp) (U:Env) (E:Ends) (z6:Rel X.K U σ F G H) (hw:w E U) (n:∀U' σ' F' H',E.nx U'->KP ks σ σ'->zL F F'->Rel X.K U' σ' F' G H'->D.nx σ' H') (b:∀U' σ' F' H',E.bk U'->KP ks σ σ'->zL F F'->Rel X.K U' σ' F' G H'->D.bk σ' H') (c:∀U' σ' F' H',E.ct U'->KP ks σ σ'->zL F F'->Rel X.K U' σ' F' G H'->D.ct σ' H') (r:∀r U' σ' v F' H',E.rt r U'->KP ks σ σ'->zL F F'->Rel X.K (U'++[zM r]) (σ'++[some v]) F' G H'->RV σ' v r->D.rt v H') (hx:XC X (KP ks σ) F G E.ex):jh X ks w D σ H
@[inline]def FS(X:Cx)(ks:List Nat)(st:Stmt)(w:WS):Prop:=∀(pn:List (Addr×Obj))(xe:zF),PassesOwn (model X.prog X.w) X.A X.env xe->PS (wp X pn xe) st (jh (wp X pn xe) ks w)
def pO(X:Cx)(ks:List Nat)(st:List Stmt)(w:WS):Prop:=∀(pn:List (Addr×Obj))(xe:zF),PassesOwn (model X.prog X.w) X.A X.env xe->jY (wp X pn xe) st (jh (wp X pn xe) ks w)
def PS.imp(h:PS X e t)(k:∀D σ H,t' D σ H->t D σ H):PS X e t':=λz4 s σ H D I q=>h z4 s σ H D I (k D σ H q)
def jY.imp(h:jY X e t)(k:∀D σ H,t' D σ H->t D σ H):jY X e t':=λz4 s σ H D I q=>h z4 s σ H D I (k D σ H q)
inductive bc(X:Cx)(ks:List Nat)(g:WG)(v:V)(σ:St)(H:Hp)(Q:St->Hp->Prop):Prop
 |mk (F G:Hp) (U:Env) (s:S) (P:Env->Prop) (z6:Rel X.K (U++[some s]) (σ++[some v]) F G H) (hw:g s U P) (n:∀U' σ' F' H',P U'->KP ks σ σ'->zL F F'->Rel X.K U' σ' F' G H'->Q σ' H'):bc X ks g v σ H Q
@[inline]def FG(X:Cx)(ks:List Nat)(tg:Expr)(g:WG):Prop:=∀(pn:List (Addr×Obj))(xe:zF),PassesOwn (model X.prog X.w) X.A X.env xe->PG (wp X pn xe) tg (bc (wp X pn xe) ks g)
def PG.imp(h:PG X e t)(k:∀v σ H Q,t' v σ H Q->t v σ H Q):PG X e t':=λz4 s σ H v u Q I r q=>h z4 s σ H v u Q I r (k v σ H Q q)
section
variable{st:Stmt}{rest:List Stmt}
def AQ:pO X ks [] aO:=λpn xe L=>jY.imp Rv λD σ H q=>by let#[F,G,U,E,v,J,n,b,c,r,x]:=q;show n U σ F H J KP.refl (zL.refl F) v
def Ae(h1:FS X ks st w1)(h2:pO X ks rest w2):pO X ks (st::rest) (zS w1 w2):=λpn xe hp=>jY.imp (RJ (h1 pn xe hp) (h2 pn xe hp)) λD σ H q=>by
 obtain⟨F,G,U,E,h4,hw,n,b,c,r,x⟩:=q;show#[F,G,U,{E with nx:=w2 E},h4,hw,λh3 h6 F1 H1 hp k Z r1=>?_,b,c,r,x];exact⟨F1,G,h3,E,r1,hp,λL J Y H' h M s r=>n L J Y H' h (k.trans M) (Z.trans s) r,λL J Y H' h M s r=>b L J Y H' h (k.trans M) (Z.trans s) r,
  λL J Y H' h M s r=>c L J Y H' h (k.trans M) (Z.trans s) r,λa L J v Y H' h M s q rv=>r a L J v Y H' h (k.trans M) (Z.trans s) q rv,x.mono (λh5 M=>k.trans M) Z (zL.refl G)⟩
def Ah(h1:FS X ks st v):pO X ks [st] v:=λpn xe F=>Rf (h1 pn xe F)
def Bp(h:FE X e we)(hs:autoParam (swapsWith e none pos.line X.env=pure false) rZ9):FS X ks (.Expr e pos) (wExpr we):=λpn xe M=>PS.imp (QZ (h pn xe M) hs) λD σ H q=>by let#[F,G,U,E,L,hw,n,b,c,r,x]:=q;show#[F,G,U,_,_,L,hw,λa J v F1 H1 M s1 Y rv=>n J σ F1 H1 M KP.refl s1 (Y.drop (Ag Y)),x.mono (λZ z=>by rw[z];show KP.refl) (zL.refl F) (zL.refl G)]
def AA(h:FE X e Z):FS X ks (.Return ⇑e pos) (bB Z):=λpn xe M=>PS.imp (PF (h pn xe M)) λD σ H q=>by let#[F,G,U,E,L,hw,n,b,c,r,x]:=q;show#[F,G,U,_,_,L,hw,λa J v F1 H1 M s1 r1 rv=>r a J σ v F1 H1 M KP.refl s1 r1 rv,x.mono (λY z=>by rw[z];show KP.refl) (zL.refl F) (zL.refl G)]
def AK(hc:FT X c tc)(ha:pO X ks a w1)(hb:pO X ks b w2):FS X ks (.If c a b pos) (eD tc w1 w2):=λpn xe Z=>PS.imp (Oe (hc pn xe Z) (ha pn xe Z) (hb pn xe Z)) λD σ H q=>by
 obtain⟨F,G,U,E,h2,hw,n,b,c,r,x⟩:=q;show#[F,G,U,_,_,h2,hw,λk h1 F1 H1 Z s1 r1=>?_,x.mono (λh3 z=>by rw[z];show KP.refl) (zL.refl F) (zL.refl G)];let go:∀w:WS,w E h1->jh (wp X pn xe) ks w D σ H1:=λw hw=>⟨F1,G,h1,E,r1,hw,λL J Y H' h M s r=>n L J Y H' h M (s1.trans s) r,λL J Y H' h M s r=>b L J Y H' h M (s1.trans s) r,
  λL J Y H' h M s r=>c L J Y H' h M (s1.trans s) r,λa L J v Y H' h M s q rv=>r a L J v Y H' h M (s1.trans s) q rv,x.grow s1⟩
 cases k with
 |true=>show go _ Z
 |false=>show go _ Z
def Am(he:FE X e we)(hg:FG X ks tg g)(hs:autoParam (swapsWithSole [tg] e pos.line X.env=pure false) rZ9)(Y:autoParam (swappedStores [tg] e X.env=pure none) rZ9)
  (h1:autoParam ((assignEach [tg] X.env).map (·.2)=[assign tg X.env]) rZ9):FS X ks (.Assign [tg] e pos) (zU g we):=λpn xe J=>PS.imp (JV (he pn xe J) (hg pn xe J) hs Y h1) λD σ H q=>by
 let#[F,G,U,E,M,Y,n,b,c,r,x]:=q;show#[F,G,U,_,_,M,Y,λa h3 v F1 H1 J s1 Z rv=>?_,x.mono (λh2 z=>by rw[z];show KP.refl) (zL.refl F) (zL.refl G)];let#[#[s,L],eg,hk]:=Ai J;let#[F2,s2,l2,r2]:=Ar (U':=[]) (σ':=[]) Z (Ag Z) rv eg;show#[F2,G,L,s,_,r2,hk,λU' σ' F' H' h k' s r=>n U' σ' F' H' h k' (s1.trans (s2.trans s)) r]
end
def ME(I:Inv X z4 σ H s)(hN:∀j,X.N[j]?=⇑x->j=i)(hi:X.N[i]?=⇑x)(Y:Loc X.env.scope x)(r:zP v u)
  (h:∀s',Inv X z4 (σ.set i ⇑v) H s'->(∃a,Heap.SameBut a s.heap s'.heap/\(a=X.env.locals\/X.env.cells.lookup x=⇑a))->Q () s')(hf:X.fn x=true\/X.env.scope.names.lookup x=⇑.local):wpAny M A (storeName X.env x u) Q E s:=by
 let#[m,hn,hl]:=id I.loc;let h5:(X.env.scope.kind==.class||(X.env.scope.kind==.module&&X.env.locals !=X.env.globals))=false:=by rw[I.ok.kind];rfl
 let h1:i<σ.length:=by rw[I.len];show(qg.mp hi).1
 have cne:=I.cne;let G:∀{a:Addr}{h':Heap},(∃o,s.heap.get? a=⇑o/\H a=none)->Heap.SameBut a s.heap h'->eV X.prog X.w H h':=λ{a h'} ha F b ob e=>by
  let#[_,_,Z]:=ha;show(I.hok b ob e).stay (λc w' L q=>(F.2 c ?_).trans q) (λ_ q=>q) λ_ _ q=>q;rintro rfl;rcases L with rfl|L
  .rw[Z]at e;cases e
  .rw[Z]at L;cases L
 rcases Y with hk|hk
 .refine wpAny_storeName_local hk hn (λh' h9 F=>?_) h5;let#[oL,_,_,h8,_]:=id hn;refine h _ #[I.ok,I.os,I.bare,#[λb o e n hb Y=>?_,λb o e n hb Y=>?_,I.base.free,λb o e Y=>?_,I.base.tups,I.base.frzs,I.base.tbls],#[_,h9,λj y v' J e2 e3=>?_],λy c e=>?_,I.free,I.freeC,λp hp=>?_,G #[oL,h8,I.free] F,↑I.len] #[_,F,.inl rfl]
  .show(F.2 b (ne_of_lt (lt_of_lt_of_le (qe e) I.ok.above))).trans (I.base.keep b o e n hb Y)
  .obtain⟨sl,J⟩:=I.base.slot b o e n hb Y;show#[sl,(F.2 b (ne_of_lt (lt_of_lt_of_le (qe e) I.ok.above))).trans J]
  .obtain⟨o',J⟩:=I.base.there b o e Y;show#[o',(F.2 b (ne_of_lt (lt_of_lt_of_le (qe e) I.ok.above))).trans J]
  .by_cases hj:j=i
   .subst hj;rw[hi]at J;cases J;rw[getElem?_set_self h1]at e2;cases e2;show#[u,r,.inl #[hk,by simp]]
   .rw[getElem?_set_ne (Ne.symm hj)]at e2;let#[u',r',q]:=hl j y v' J e2 e3;show#[u',r',?_];rcases q with⟨k,e⟩|⟨k,c,e,z⟩
    .show .inl #[k,?_];let:y≠x:=λe=>hj (hN j (e▸J));simp[this,e]
    .show .inr #[k,c,e,z.sameBut F (cne y c e)]
  .obtain⟨w',z⟩:=I.cell y c e;show#[w',z.sameBut F (cne y c e)]
  .obtain⟨e,n,ne,nf,d⟩:=I.pin p hp;show#[(F.2 p.1 ne).trans e,n,ne,nf,d]
 .have h2:X.fn x=true:=by
   rcases hf with z|z
   .show z
   .rw[z]at hk;cases hk
  let#[c,L]:=I.ok.has x (.inl hk);let#[w',z]:=I.cell x c L;show wpAny_storeName_cell I.ok.kind hk L z (λh' h7 F=>?_);let#[oc,h4,h3]:=id z;show h {s with heap:=h'} ⟨I.ok,I.os,I.bare,⟨λb o e n hb Y=>?_,λb o e n hb Y=>?_,I.base.free,λb o e Y=>?_,I.base.tups,I.base.frzs,I.base.tbls⟩,⟨m,hn.sameBut F (Ne.symm (cne x c L)),λj y v' J e2 e3=>?_⟩,λy c' e=>?_,I.free,I.freeC,λp hp=>?_,G ⟨oc,h4,I.freeC x c L⟩ F,↑I.len⟩ #[c,F,.inr L]
  .show(F.2 b (ne_of_lt (lt_of_lt_of_le (qe e) (I.ok.cab x c h2 L)))).trans (I.base.keep b o e n hb Y)
  .obtain⟨sl,J⟩:=I.base.slot b o e n hb Y;show#[sl,(F.2 b (ne_of_lt (lt_of_lt_of_le (qe e) (I.ok.cab x c h2 L)))).trans J]
  .obtain⟨o',J⟩:=I.base.there b o e Y;show#[o',(F.2 b (ne_of_lt (lt_of_lt_of_le (qe e) (I.ok.cab x c h2 L)))).trans J]
  .by_cases hj:j=i
   .subst hj;rw[hi]at J;cases J;rw[getElem?_set_self h1]at e2;cases e2;show#[u,r,.inr #[.inl hk,c,L,h7]]
   .rw[getElem?_set_ne (Ne.symm hj)]at e2;let#[u',r',q]:=hl j y v' J e2 e3;show#[u',r',?_];rcases q with q|⟨k,c',e,z'⟩
    .show .inl q
    .show .inr #[k,c',e,z'.sameBut F ?_];rintro rfl;show hj (hN j (I.ok.inj _ _ _ e L▸J))
  .by_cases h6:c'=c
   .subst h6;show#[_,h7]
   .obtain⟨w2,z2⟩:=I.cell y c' e;show#[w2,z2.sameBut F h6]
  .obtain⟨e,n,ne,nf,d⟩:=I.pin p hp;show#[(F.2 p.1 ?_).trans e,n,ne,nf,d];intro q;rw[q,h4]at e;let q':oc=p.2:=qf e;show d w' (by rw[<-q'];show h3)
def KP.set(h:i∉ks):KP ks σ (σ.set i u):=λj v=>getElem?_set_ne (λ(z:i=j)=>h (z▸v))
def Lh(hk:i∉ks)(hN:∀j,X.N[j]?=⇑x->j=i)(hi:X.N[i]?=⇑x)(Z:Loc X.env.scope x)(hf:X.fn x=true\/X.env.scope.names.lookup x=⇑.local):FG X ks (.Name x pos) (zJ i):=by
 intro pn xe hp z4 s σ H v u Q I Y q;let#[F,G,U,t,P,J,hw,n]:=q;let M:=Ag J;let L:i<U.length:=by rw[M,I.len];show(qg.mp hi).1
 show wpAny_assign_Name (ME (X:=wp X pn xe) I hN hi Z Y (λs' I' _=>#[_,H,I',n _ _ F H hw (KP.set hk) (zL.refl F) (J.store M L)]) hf)
inductive bx(X:Cx)(ks:List Nat)(gs:List WG)(vs:List V)(σ:St)(H:Hp)(Q:St->Hp->Prop):Prop
 |mk (F G:Hp) (U:Env) (ds:List D) (P:Env->Prop) (z6:Rel X.K U σ F G H) (rp:zY X.K F vs ds) (hw:eS gs ds U P) (n:∀U' σ' F' H',P U'->KP ks σ σ'->zL F F'->Rel X.K U' σ' F' G H'->Q σ' H'):bx X ks gs vs σ H Q
def js(X:Cx)(ks:List Nat)(tg:List Expr)(g:List WG):Prop:=∀(pn:List (Addr×Obj))(xe:zF),PassesOwn (model X.prog X.w) X.A X.env xe->ig (wp X pn xe) tg (bx (wp X pn xe) ks g)
def Ci:js X ks [] []:=λpn xe Z z4 s σ H L M Q I r q=>by
 let#[F,G,U,ds,P,v,Y,J,n]:=q;show QX z4 s σ H L M Q I r ?_;cases Y with
 |nil=>show#[rfl,n U σ F H J KP.refl (zL.refl F) v]
 |cons a b=>show J.elim
def AI(h1:FG X ks e g)(h2:js X ks es gs)
  (hs:autoParam ((assignEach (e::es) X.env).map (·.2)=assign e X.env::(assignEach es X.env).map (·.2)) rZ9):js X ks (e::es) (g::gs):=λpn xe v z4 s σ H vs us Q I r q=>by
 let#[F,G,U,ds,P,Y,rp,hw,n]:=q;show Sa (X:=wp X pn xe) (h1 pn xe v) (h2 pn xe v) hs z4 s σ H vs us Q I r ?_;cases rp with
 |nil=>show hw.elim
 |cons a b=>show#[_,_,rfl,F,G,U,_,_,Y.push a,hw,λL h3 F1 H1 v k Z r1=>#[F1,G,L,_,P,r1,b.mono Z,v,λM J F' H' h k' s r=>n M J F' H' h (k.trans k') (Z.trans s) r]]
def zY.len{K:W.Frag}(r:zY K F xs ds):xs.length=ds.length:=zY.ind (P:=λxs ds=>xs.length=ds.length) rfl (λ_ _ v=>congrArg (·+1) v) r
def Ce(hc:X.calm=true)(h:js X ks es M)(hn:autoParam ((assignEach es X.env).length=M.length) rZ9)(h1:autoParam ((assignEach es X.env).findIdx? (·.1)=none) rZ9):FG X ks (.Tuple es k pos) (dA M):=λpn xe hp=>by
 show PG.imp (OJ (X:=wp X pn xe) hc (h pn xe hp) hn h1) λv σ H Q q=>?_;let#[F,G,U,s,P,L,hw,n]:=q;let#[F1,s1,rp,r1]:=Rel.giveD (U:=U) (vs:=[v]) (ss:=[s]) L (Ag L);cases rp with
 |cons a b=>
  let J:(match s.toD with|.tup ds=>ds.length=M.length/\eS M ds U P|_=>False):=hw;generalize s.toD=d at a J;cases a with
  |tup e r=>show#[_,_,rfl,bF.of (r1.fr _ _ e),by rw[r.len];show J.1,F1,G,U,_,P,r1,r,J.2,λZ Y F' H' h k' s r=>n Z Y F' H' h k' (s1.trans s) r]
  |_=>show J.elim
def dW(K:W.Frag)(J:It)(l:List D)(v:Hp):Prop:=∀(i:Nat)(U:Env)(σ:St)(F G H:Hp),zL v F->Rel K U σ F G H->
 (∀d,l[i]?=⇑d->J.go i H/\∀x H',J.yld i H x H'->∃F',zL F F'/\Rel K U σ F' G H'/\aR K F' x d)/\(l.length<=i->J.stop i H)
inductive th(X:Cx)(wi:WI)(σ:St)(H:Hp)(R:It->Hp->Prop):Prop
 |mk (F G:Hp) (U:Env) (P:List D->Env->Prop) (PX:WX) (z6:Rel X.K U σ F G H) (hw:wi U P PX) (hok:∀l U' F' H' J,P l U'->zL F F'->Rel X.K U' σ F' G H'->dW X.K J l F'->R J H') (hx:XC X (·=σ) F G PX):th X wi σ H R
@[inline]def FI(X:Cx)(tg iter:Expr)(v:WI):Prop:=∀(pn:List (Addr×Obj))(xe:zF),PassesOwn (model X.prog X.w) X.A X.env xe->PI (wp X pn xe) tg iter (th (wp X pn xe) v)
def PI.imp(h:PI X tg e t)(k:∀σ H R,t' σ H R->t σ H R):PI X tg e t':=λz4 s σ H R I q=>h z4 s σ H R I (k σ H R q)
def zY.get{K:W.Frag}{i:Nat}(r:zY K F xs ds)(h:ds[i]?=⇑d):∃x,xs[i]?=⇑x/\aR K F x d:=
 zY.ind (P:=λxs ds=>∀i d,ds[i]?=⇑d->∃x,xs[i]?=⇑x/\aR K F x d) (λ_ _ e=>by cases e) (λa _ v i d e=>by
  cases i with
  |zero=>cases e;show#[_,rfl,a]
  |succ i=>show v i d e) r i d h
section
variable{K:W.Frag}
def IL(e:bO K F0 a xs)(r:zY K F0 xs l):dW K (bp K a) l F0:=λi U σ F G H M v=>by let L:bO K H a xs:=bO.mono (M.trans v.fr) e;show#[λd hd=>?_,λh=>#[xs,L,by rw[r.len];show h]];let#[x,Y,Z]:=r.get hd;show#[#[xs,x,L,Y],λy H' J=>?_];let#[rfl,J]:=J;let:x=y:=qf (Y.symm.trans (J xs L));subst this;show#[F,zL.refl F,v,Z.mono M]
def SZ(e:bF K F0 a xs)(r:zY K F0 xs l):dW K (rh K a) l F0:=λi U σ F G H M v=>by let L:bF K H a xs:=bF.mono (M.trans v.fr) e;show#[λd hd=>?_,λh=>#[xs,L,by rw[r.len];show h]];let#[x,Y,Z]:=r.get hd;show#[#[xs,x,L,Y],λy H' J=>?_];let#[rfl,J]:=J;let:x=y:=qf (Y.symm.trans (J xs L));subst this;show#[F,zL.refl F,v,Z.mono M]
def Vx{lo:Int}(h:(fromTo lo n)[i]?=⇑d):i<n/\d=.int (lo+i):=by
 unfold fromTo at h;rw[qI]at h;by_cases hi:i<n
 .rw[getElem?_range hi]at h;show#[hi,(qf h).symm]
 .rw[qT ↑hi]at h;cases h
def Np{lo:Int}:dW K (ir lo n) (fromTo lo n) F0:=λi U σ F G H M v=>by
 show#[λd L=>?_,λh=>?_]
 .obtain⟨hi,rfl⟩:=Vx L;show#[hi,λx H' J=>?_];let#[rfl,rfl]:=J;show#[F,zL.refl F,v,.int _]
 .let:n<=i:=by simpa[fromTo] using h
  show this
end
def ay(x:Str):It:=#[λi _=>i<x.cps.size,λi H v H'=>H'=H/\∃c,x.cps[i]?=⇑c/\v=.str #[[c].toArray],λi _=>x.cps.size<=i]
def Tu{P:Program}{w:World}{K:W.Frag}{tg:Expr}(it:Addr)(x:Str)(t:Tok)(ty:String)(hty:ty="str_ascii_iterator"\/ty="str_iterator"):gV P w K tg (ay x) [it] it (λi h=>h.IsStrIter it ty x t i) where
 mem:=m1
 obj:=λi h st b hb=>by
  let e:b=it:=↑hb
  subst e;let#[o,e,c,d]:=st;show#[o,e,λv z=>by rw[d]at z;cases z]
 keep:=λi h h' st k=>by let#[o,e,r]:=st;show#[o,k it (m1) o e,r]
 item:=by
  intro X hP hw hK hc i z4 s σ H E I hf st hg;subst hP hw hK;let#[f0,f1,f2,f3,f4,f5]:=hf it (m1);let W:Walks X.prog X.w X.A it [it] [it] x.cps.size (SignAt x) (λi h=>h.IsStrIter it ty x t i):=by
   rcases hty with rfl|rfl
   .show Walks.strAscii (I.ok.hd hc) it x t
   .show Walks.strWide (I.ok.hd hc) it x t
  show W.item i s _ _ hg st λv h' tk hv st' kk=>?_;let#[c,u,e1,rfl]:=hv;let I1:Inv X z4 σ H {s with heap:=h',toks:=tk}:=I.turned (λb o hb e=>kk b o ↑hb e) f0 f1 f3 f4 f5;let#[o,e,cl,d]:=id st';show#[_,rfl,EH (s:={s with heap:=h',toks:=tk}) e cl d (by rcases hty with rfl|rfl<;>decide) ⟨.str ⟨[c].toArray⟩,H,I1,⟨u,rfl⟩,⟨rfl,c,e1,rfl⟩,st',λb hb=>(hf b hb).1⟩]
 done:=by
  intro X hP hw hK hc i z4 s σ H E I hf st hg;let#[f0,f1,f2,f3,f4,f5]:=hf it (m1);let hn:x.cps[i]?=none:=by let:x.cps.size<=i:=hg;simp[this]
  rcases hty with rfl|rfl
  .show wpAny_pyNext_ascii_end (I.ok.hd hc) st hn λh' eb=>#[rfl,I.turned (t':=s.toks) (λb o hb e=>eb b o hb e) f0 f1 f3 f4 f5]
  .show wpAny_pyNext_wide_end (I.ok.hd hc) st hn λh' eb=>#[rfl,I.turned (t':=s.toks) (λb o hb e=>eb b o hb e) f0 f1 f3 f4 f5]
 self:=λA i s Q E st h=>by
  rcases hty with rfl|rfl
  .show wpAny_pyIter_striter_ascii st h
  .show wpAny_pyIter_striter_wide st h
def oy(K:W.Frag)(F:TE):TI:=λσ H R=>F σ H λv H1=>(∃a,v=.ref a/\(∃xs,bO K H1 a xs)/\R (bp K a) H1)\/(∃a,v=.ref a/\(∃xs,bF K H1 a xs)/\R (rh K a) H1)\/∃x,v=.str x/\R (ay x) H1
def Pq(hl:PE X l tl):PI X tg l (oy X.K tl):=by
 intro z4 s σ H R I h;show Aj (hl z4 s σ H _ I h) λv F zq=>?_;let#[y,H1,G,Z,q1]:=zq;rcases q1 with⟨a,e,⟨xs,hq⟩,q⟩|⟨a,e,⟨xs,hq⟩,q⟩|⟨x,e,q⟩
 .subst e;cases Z;let#[L,rv,p,hz]:=G.list hq;show wpAny_pyIter_list p.isList ?_;show#[F.heap.objs.size,[F.heap.objs.size],_,_,H1,rfl,G.kept (t':=F.toks) λb o e=>qc _ e,UK a _,#[_,qd _ rfl,rfl,rfl],λb M=>?_,q];let e:b=F.heap.objs.size:=by simpa using M
  subst e;show G.fpOk (zm _) (G.hok.fresh (zm _))
 .subst e;cases Z;let#[L,rv,p,hz]:=G.tuple hq;show wpAny_pyIter_tuple (show F.heap.IsTuple a L.toArray from p) ?_;show#[F.heap.objs.size,[F.heap.objs.size],_,_,H1,rfl,G.kept (t':=F.toks) λb o e=>qc _ e,VR a _,#[_,qd _ rfl,rfl,rfl],λb M=>?_,q];let e:b=F.heap.objs.size:=by simpa using M
  subst e;show G.fpOk (zm _) (G.hok.fresh (zm _))
 .subst e;let#[t,rfl]:=Z;let Y:∀(J:String)(o:Obj),(J="str_ascii_iterator"\/J="str_iterator")->o.cls=.type J->o.data=.fields [.str x t,.int 0 0].toArray->o.isFreed=false->ie X z4 σ tg R (.ref F.heap.objs.size) {F with heap:=F.heap.push o}:=λJ o h1 hc hd hf=>by
   show#[F.heap.objs.size,[F.heap.objs.size],_,_,H1,rfl,G.kept (t':=F.toks) λb o e=>qc _ e,Tu _ x t J h1,#[_,qd _ hf,hc,hd],λb M=>?_,q];let e:b=F.heap.objs.size:=↑M
   subst e;show G.fpOk (zm _) (G.hok.fresh (zm _))
  cases ha:x.cps.all (·<128)
  .show wpAny_pyIter_wide ha (Y "str_iterator" _ (.inr rfl) rfl rfl rfl)
  .show wpAny_pyIter_ascii ha (Y "str_ascii_iterator" _ (.inl rfl) rfl rfl rfl)
section
variable{K:W.Frag}
def Iy(e:x.cps.toList=l):dW K (ay x) (l.map λc=>.str [c]) F0:=λi U σ F G H sm J=>by
 let M:x.cps.size=l.length:=by rw[<-e];simp
 show#[λd v=>?_,λh=>by show x.cps.size<=i;rw[M];simpa using h];rw[qI]at v;cases q:l[i]? with
 |none=>rw[q]at v;cases v
 |some c=>
  rw[q]at v;let L:D.str [c]=d:=qf v;let hi:i<l.length:=(qg.mp q).1;let hx:x.cps[i]?=⇑c:=by rw[<-zc,e];show q
  show#[by show i<x.cps.size;rw[M];show hi,λy H' Z=>?_];let#[rfl,c',Y,rfl]:=Z;rw[hx]at Y;let:c=c':=qf Y;subst this;rw[<-L];show#[F,zL.refl F,J,.str rfl (by show 1<=_;decide)]
def BC(h:FE X e we):FI X tg e (cD we):=λpn xe hp=>by
 show PI.imp (Pq (h pn xe hp)) λσ H R q=>?_;let#[F,G,U,P,PX,h1,hw,M,hx]:=q;show#[F,G,U,_,PX,h1,hw,λr h2 v F1 H1 Y s1 r1 rv=>?_,hx];let#[#[s,L],eg,Y]:=Ai Y;let#[l,el,Y]:=Ai Y;let#[F2,s2,l2,r2]:=Ar (U':=[]) (σ':=[]) r1 (Ag r1) rv eg;let#[F3,s3,rp,Z]:=Rel.giveD (U:=L) (vs:=[v]) (ss:=[s]) r2 (Ag r2);let sm:=s1.trans (s2.trans s3);cases rp with
 |cons a b=>
  let J:items s.toD=⇑l:=el;generalize s.toD=d at a J;cases a with
  |lst e r=>have:l=_:=(qf J).symm;subst this;show .inl #[_,rfl,#[_,bO.mono Z.fr e],M _ L F3 H1 _ Y sm Z (IL e r)]
  |tup e r=>have:l=_:=(qf J).symm;subst this;show .inr (.inl #[_,rfl,#[_,bF.of (Z.fr _ _ e)],M _ L F3 H1 _ Y sm Z (SZ (bF.of e) r)])
  |str e z=>have:l=_:=(qf J).symm;subst this;show .inr (.inr #[_,rfl,M _ L F3 H1 _ Y sm Z (Iy e)])
  |_=>cases J
def Dj(hg:Gl X "range")(hm:X.mg "range"=none)(ha:FE X a we)(hs:autoParam (starEach [a] X.env=[(false,eval a X.env)]) rZ9):FI X tg (.Call (.Name "range" p) [a] [] pos) (bC we):=λpn xe hp=>by
 show PI.imp (Ui (X:=wp X pn xe) hg hm (Aa ha Ab hs pn xe hp) hs) λσ H R q=>?_;let#[F,G,U,P,PX,h3,hw,h4,hx]:=q;show#[F,G,U,λZ L=>match Z with|[r]=>(match view r L with|some (.int j)=>(-big<=j/\j<=big)/\P (fromTo 0 j.toNat) L|_=>False)|_=>False,PX,h3,hw,λZ L vs F1 H1 J s1 Y hl M=>?_,hx];match Z,vs,M,Y,J with
 |[r],[v],M,Y,J=>
  dsimp only at J;split at J
  .rename_i j ej;let rp:=look (U':=[]) (σ':=[]) Y hl M.1 ej;cases rp;let#[#[h1,h2],J]:=J;let eb:(big:Int)=1000000:=rfl;show#[j,rfl,∅,∅,h4 _ L F1 H1 _ J s1 ((show Rel X.K (L++[zM r]) (σ++[⇑(.int j)]) F1 G H1 from Y).drop hl) Np]
  .show J.elim
 |[],_,_,_,J=>show J.elim
 |[_],[],M,_,_=>show M.elim
 |[_],_::_::_,M,_,_=>show M.2.elim
 |_::_::_,_,_,_,J=>show J.elim
def IP(hg:Gl X "range")(hm:X.mg "range"=none)(ha:FE X a we)(hb:FE X b wb)(hs:autoParam (starEach [a,b] X.env=[(false,eval a X.env),(false,eval b X.env)]) rZ9)(Y:autoParam (starEach [b] X.env=[(false,eval b X.env)]) rZ9):
  FI X tg (.Call (.Name "range" p) [a,b] [] pos) (eZ we wb):=λpn xe hp=>by
 show PI.imp (Uw (X:=wp X pn xe) hg hm (Aa ha (Aa hb Ab Y) (by rw[hs,Y]) pn xe hp) hs Y) λσ H R q=>?_;let#[F,G,U,P,PX,h5,hw,h6,hx]:=q;show#[F,G,U,λZ L=>match Z with|[r,t]=>(match view r L,view t L with|some (.int i),some (.int j)=>(-big<=i/\i<=big/\-big<=j/\j<=big)/\P (fromTo i (j-i).toNat) L|_,_=>False)|_=>False,PX,h5,hw,λZ L vs F1 H1 J s1 r1 hl M=>?_,hx];match Z,vs,M,r1,J with
 |[r,t],[v,u],M,r1,J=>
  dsimp only at J;split at J
  .rename_i i j ei ej;let#[rp,rq,r2]:=By r1 hl M.1 M.2.1 ei ej;cases rp;cases rq;let#[#[h1,h2,h3,h4],J]:=J;let eb:(big:Int)=1000000:=rfl;show#[i,j,rfl,#[∅,∅,∅,∅],h6 _ L F1 H1 _ J s1 r2 Np]
  .show J.elim
 |[],_,_,_,J=>show J.elim
 |[_],_,_,_,J=>show J.elim
 |[_,_],[],M,_,_=>show M.elim
 |[_,_],[_],M,_,_=>show M.2.elim
 |[_,_],_::_::_::_,M,_,_=>show M.2.2.elim
 |_::_::_::_,_,_,_,J=>show J.elim
end
def Bn(hc:X.calm=true)(hi:FI X tg iter wi)(hg:FG X ks tg g)(hb:pO X ks body wb)(hs:∀x,foldedSetIterable iter X.env x=pure x:=by intro _;rfl):FS X ks (.For tg iter body [] pos) (dM wi g wb):=λpn xe hp=>by
 show PS.imp (Pj (X:=wp X pn xe) hp hc (hi pn xe hp) (hg pn xe hp) (hb pn xe hp) hs) λD σ H q=>?_;let#[F,G,U,E,h9,hw,n,b,c,r,x]:=q;show#[F,G,U,_,_,h9,hw,λl h7 F1 H1 J hk s1 r1 it=>?_,x.mono (λM z=>by rw[z];show KP.refl) (zL.refl F) (zL.refl G)];show#[λi m M H2=>m=l.length-i/\i<=l.length/\∃F2 U2,KP ks σ M/\zL F1 F2/\Rel X.K U2 M F2 G H2/\cV g wb (l.drop i) E U2,#[l.length,rfl,zero_le _,F1,h7,KP.refl,zL.refl F1,r1,hk],?_];rintro i m M H2 ⟨rfl,hi,F2,U2,kp,s2,r2,h1⟩;let#[e2,e1]:=it i U2 M F2 G H2 s2 r2;by_cases h2:i<l.length
 .obtain⟨go,h8⟩:=e2 l[i] (by simp);show .inr #[go,λh3 H3=>i+1<=l.length/\∃F3 h5,KP ks σ h3/\zL F1 F3/\Rel X.K h5 h3 F3 G H3/\cV g wb (l.drop (i+1)) E h5,λh3 H3 h=>#[l.length-(i+1),∅,rfl,h],λy H3 hy=>?_];let#[F3,s3,r3,rp]:=h8 y H3 hy;rw[List.drop_eq_getElem_cons h2]at h1;show#[F3,G,U2,_,_,r3.push rp,h1,λh6 hx F4 H4 e3 k4 s4 r4=>?_];let Z:=kp.trans k4;let h4:=s1.trans (s2.trans (s3.trans s4));exact⟨F4,G,h6,_,r4,e3,λL Y F' H' h k' s r=>#[h2,F',L,Z.trans k',s2.trans (s3.trans (s4.trans s)),r,h],λL Y F' H' h k' s r=>n L Y F' H' h (Z.trans k') (h4.trans s) r,
   λL Y F' H' h k' s r=>#[h2,F',L,Z.trans k',s2.trans (s3.trans (s4.trans s)),r,h],λa L Y v F' H' h k' s q rv=>r a L Y v F' H' h (Z.trans k') (h4.trans s) q rv,x.mono (λe4 k'=>Z.trans k') h4 (zL.refl G)⟩
 .let e:i=l.length:=Nat.le_antisymm hi (not_lt.mp h2);subst e;rw[drop_length]at h1;show .inl #[e1 (zm _),n U2 M F2 H2 h1 kp (s1.trans s2) r2]
def Fq(hc:FT X c wc)(hb:pO X ks body wb):FS X ks (.While c body [] pos) (dH wc wb):=λpn xe hp=>by
 show PS.imp (SA (X:=wp X pn xe) hp (hc pn xe hp) (hb pn xe hp)) λD σ H q=>?_;let#[F,G,U,E,h4,#[J,#[m0,j0],step],n,b,c,r,x]:=q;show#[λm Z H2=>∃F2 U2,KP ks σ Z/\zL F F2/\Rel X.K U2 Z F2 G H2/\J m U2,#[m0,F,U,KP.refl,zL.refl F,h4,j0],?_];rintro m Z H2 ⟨F2,U2,kp,s2,r2,j2⟩;show#[F2,G,U2,_,_,r2,step m U2 j2,λk h2 F3 H3 hk s3 r3=>?_,x.mono (λh3 z=>by rw[z];show kp) s2 (zL.refl G)];let M:=s2.trans s3;cases k with
 |true=>
  refine#[λh1 H4=>∃m',m'<m/\∃F2 U2,KP ks σ h1/\zL F F2/\Rel X.K U2 h1 F2 G H4/\J m' U2,λh1 H4 h=>h,?_];exact⟨F3,G,h2,_,r3,hk,λL Y F' H'⟨m',hm,h⟩ k' s r=>#[m',hm,F',L,kp.trans k',M.trans s,r,h],λL Y F' H' h k' s r=>n L Y F' H' h (kp.trans k') (M.trans s) r,
   λL Y F' H'⟨m',hm,h⟩ k' s r=>#[m',hm,F',L,kp.trans k',M.trans s,r,h],λa L Y v F' H' h k' s q rv=>r a L Y v F' H' h (kp.trans k') (M.trans s) q rv,x.mono (λh3 k'=>kp.trans k') M (zL.refl G)⟩
 |false=>show n h2 Z F3 H3 hk kp M r3
inductive eF(K:W.Frag)(f:WF)(n:Nat)(vs:List V)(H:Hp)(Q:VK)(Z:XK):Prop
 |mk (F G:Hp) (ss:List S) (P:S->List S->Prop) (PX:D->List S->Prop) (hn:vs.length=n) (z6:Rel K (ss.map some) (vs.map some) F G H) (hw:f ss P PX) (hok:∀s ss' v F' H',P s ss'->zL F F'->ss'.length=ss.length->Rel K (ss'.map some++[some s]) (vs.map some++[some v]) F' G H'->Q v H') (hex:∀d ss' F' H' C dx,PX d ss'->zL F F'->ss'.length=ss.length->Rel K (ss'.map some) (vs.map some) F' G H'->gn K F' d C dx->Z (.ref C) dx H'):eF K f n vs H Q Z
section
variable{K:W.Frag}
def Rel.comm(h:U.length=σ.length)(r:Rel K (U++U') (σ++σ') F G H):Rel K (U'++U) (σ'++σ) F G H:=by let:=Rel.swap (U:=[]) (σ:=[]) (U1:=U) (σ1:=σ) (U2:=U') (σ2:=σ') rfl h r;simpa using this
def Rel.lend(r:Rel K (U++(none::U')) (σ++(⇑v::σ')) F G H)(h:U.length=σ.length)(hs:slot U i=⇑s)(J:σ[i]?=⇑⇑v):
  Rel K (U.set i none++(⇑s::U')) (σ++(⇑v::σ')) F G H:=by
 let#[fp,e,nd,ap]:=r.en;let#[f1,f2,rfl,a,b]:=e.cut h;let#[v',Z,L,Y,e1,rfl,q,up]:=a.at hs;rw[J]at e1;let e2:v=v':=↑e1
 subst e2;let a2:=up (F':=F) (H':=H) (o:=none) (u:=⇑v) (fi':=[]) (zL.refl F) (λ_ _=>rfl) (.no .nil);let es:σ.set i ⇑v=σ:=by
  apply ext_getElem?;intro j;by_cases M:i=j
  .subst M;rw[getElem?_set_self (qg.mp J).1,J]
  .rw[getElem?_set_ne M]
 rw[es]at a2;cases b with
 |no b=>
  let p:((Z++([]++Y))++(L++f2)).Perm ((Z++(L++Y))++f2):=by simp;show List.Perm.append_left _ ?_;rw[<-qp,<-qp L];show List.Perm.append_right _ qQ
  show#[r.fr,r.gr,_,a2.app (.so q b),p.nodup_iff.mpr nd,λx hx=>ap x (p.mem_iff.mp hx)]
def Rel.back1(r:Rel K (U++(⇑s::U')) (σ++(⇑v::σ')) F G H)(h:U.length=σ.length)(L:σ[i]?=⇑⇑v):Rel K (U.set i ⇑s++U') (σ++σ') F G H:=by
 let hi:i<σ.length:=(qg.mp L).1;let es:σ.set i ⇑v=σ:=by apply ext_getElem?;grind
 let M:U'.length=σ'.length:=by let:=r.len;grind
 let J:=Rel.swap (U1:=[⇑s]) (σ1:=[⇑v]) (U2:=U') (σ2:=σ') h rfl r;rw[<-qp,<-qp]at J;let Y:=Rel.store (i:=i) J (by simp[h,M]) (by simp;lia -verbose);grind
theorem KH:∀{rs:List R}{vs:List V}{ms:List Bool}{U U' U1:Env}{ss:List S}{F:Hp}{σ':St},Rel K (U++(rs.map zM++U')) (σ++(vs.map some++σ')) F G H->U.length=σ.length->pM σ vs rs->cW ms rs U=⇑(ss,U1)->
  ∃F',zL F F'/\U1.length=U.length/\ss.length=rs.length/\Rel K (U1++(ss.map some++U')) (σ++(vs.map some++σ')) F' G H
 |[],[],ms,U,U',U1,ss,F,σ',r,h,_,e=>by
  let J:⇑(([]:List S),U)=⇑(ss,U1):=by cases ms<;>show e
  cases J;show#[F,zL.refl F,rfl,rfl,r]
 |[],_::_,_,_,_,_,_,_,_,_,_,h,_=>h.elim
 |_::_,[],_,_,_,_,_,_,_,_,_,h,_=>h.elim
 |x::rs,v::vs,ms,U,U',U1,ss,F,σ',r,h,rv,e=>by
  --the first one,as it is handed on
  have first:∃s U2 ts Y,cW ms.tail rs U2=⇑(ts,U1)/\ss=s::ts/\zL F Y/\U2.length=U.length/\Rel K (U2++(⇑s::(rs.map zM++U'))) (σ++(⇑v::(vs.map some++σ'))) Y G H:=by
   cases x with
   |v s=>
    let J:(match cW ms.tail rs U with|some (ss,U1)=>⇑(s::ss,U1)|none=>none)=⇑(ss,U1):=by cases ms<;>show e
    cases q:cW ms.tail rs U with
    |none=>rw[q]at J;cases J
    |some p=>let#[ts,M]:=p;rw[q]at J;cases J;show#[s,U,ts,F,q,rfl,zL.refl F,rfl,r]
   |loc i=>
    have J:(match slot U i with
     |some s=>if ms.headD false then(match cW ms.tail rs (U.set i none)with
      |some (ss,U1)=>⇑(s::ss,U1)
      |none=>none)
      else(match cW ms.tail rs (U.set i ⇑(.sh s.toD))with
       |some (ss,U1)=>⇑(.sh s.toD::ss,U1)
       |none=>none)
     |none=>none)=⇑(ss,U1):=by cases ms<;>show e
    cases q:slot U i with
    |none=>rw[q]at J;cases J
    |some s=>
     rw[q]at J;dsimp only at J;by_cases hm:ms.headD false=true
     .rw[zj hm]at J;cases L:cW ms.tail rs (U.set i none)with
      |none=>rw[L]at J;cases J
      |some p=>let#[ts,M]:=p;rw[L]at J;cases J;show#[s,U.set i none,ts,F,L,rfl,zL.refl F,by simp,Rel.lend r h q rv.1]
     .rw[zk hm]at J;cases L:cW ms.tail rs (U.set i ⇑(.sh s.toD))with
      |none=>rw[L]at J;cases J
      |some p=>let#[ts,M]:=p;rw[L]at J;cases J;let#[Y,s1,l1,Z]:=Ar (x:=.loc i) (s:=.sh s.toD) (U1:=U.set i ⇑(.sh s.toD)) r h rv.1 (by show(match slot U i with|some s=>⇑(S.sh s.toD,U.set i ⇑(.sh s.toD))|none=>none)=_;rw[q]);show#[_,_,ts,Y,L,rfl,s1,by simp,Z]
  let#[s,U2,ts,Y,L,rfl,s1,l1,Z]:=first
  let h2:U2.length=σ.length:=l1.trans h;let hl:(rs.map zM++U').length=(vs.map some++σ').length:=by let:=Z.len;rw[qq,qq,qt,qt]at this;lia
  let h1:U'.length=σ'.length:=by let:=rv.2.len;simp at hl;lia
  let r2:=Rel.swap (U1:=[⇑s]) (σ1:=[⇑v]) (U2:=rs.map zM++U') (σ2:=vs.map some++σ') h2 rfl Z;rw[qp,qp]at r2;let#[F2,s2,l2,l3,r3]:=KH (rs:=rs) (vs:=vs) r2 h2 rv.2 L;let h3:U1.length=σ.length:=l2.trans h2;rw[<-qp (ts.map some),<-qp (vs.map some)]at r3;let r4:=Rel.swap (U1:=ts.map some++U') (σ1:=vs.map some++σ') (U2:=[⇑s]) (σ2:=[⇑v]) h3 (by simp[l3,rv.2.len,h1]) r3;show#[F2,s1.trans s2,l2.trans l1,by simp[l3],r4]
def EU:∀{rs:List R}{vs:List V}{ms:List Bool}{U U':Env}{ss:List S}{σ':St},Rel K (U++(ss.map some++U')) (σ++(vs.map some++σ')) F G H->U.length=σ.length->ss.length=rs.length->pM σ vs rs->
  (back ms rs ss U).length=U.length/\Rel K (back ms rs ss U++U') (σ++σ') F G H
 |[],[],ms,U,U',[],σ',r,h,_,_=>by
  let e:back ms [] [] U=U:=by cases ms<;>rfl
  show#[rfl,r]
 |[],_,_,_,_,_::_,_,_,_,hl,_=>by simp at hl
 |_::_,_,_,_,_,[],_,_,_,hl,_=>by simp at hl
 |[],_::_,_,_,_,_,_,_,_,_,h=>h.elim
 |_::_,[],_,_,_,_,_,_,_,_,h=>h.elim
 |x::rs,v::vs,ms,U,U',s::ss,σ',r,h,hl,rv=>by
  cases x with
  |v t=>
   let e:back ms (.v t::rs) (s::ss) U=back ms.tail rs ss U:=by cases ms<;>rfl
   show EU (rs:=rs) (vs:=vs) (r.mid h) h ↑hl rv.2
  |loc i=>
   let e:back ms (.loc i::rs) (s::ss) U=if ms.headD false then back ms.tail rs ss (U.set i ⇑s)else back ms.tail rs ss U:=by cases ms<;>rfl
   rw[e];by_cases J:ms.headD false=true
   .rw[zj J];let q:=EU (rs:=rs) (vs:=vs) (ms:=ms.tail) (U:=U.set i ⇑s) (Rel.back1 r h rv.1) ↑h ↑hl rv.2;show#[q.1.trans (by simp),q.2]
   .rw[zk J];show EU (rs:=rs) (vs:=vs) (r.mid h) h ↑hl rv.2
end
def Rx(Fk:gB X.prog X.w X.K X.mg X.base (jU X.prog X.w) k f fd ps (eF X.K wf n))(hr:bU k X.A)(hg:Gl X x)(hm:X.mg x=⇑(.ref f))(hk:W.keepIn X.K (.ref f)=true)(hb:Binds X.K fd ps [])
  (ha:FA X (e::es) wa)(h2:∀ss P PX,wf ss P PX->ss.length=n)(h7:autoParam ((x==("__debug__":Str))=false) dZ9)(he:autoParam (starEach (e::es) X.env=(false,eval e X.env)::starEach es X.env) rZ9)(h5:autoParam ((backTo pos (starEach es X.env)).any (·.1)=false) rZ9):
  FE X (.Call (.Name x p) (e::es) [] pos) (zT wf ms wa):=λpn xe hp=>by
 show PE.imp (RN (X:=wp X pn xe) Fk hr hg hm hk hb (ha pn xe hp) h7 he h5) λσ H Q q=>?_;show(many (k:=λrs L Q E=>zK (cW ms rs L) λp=>wf p.1 (λs ss=>Q (.v s) (back ms rs ss p.2)) (λx ss=>E x (back ms rs ss p.2))) q).mono λvs H1 h1=>?_;let#[F,G,U,rs,P,PX,h3,hl,Y,hk,h6,hx]:=h1;let#[#[ss,L],ep,hk]:=Ai hk;let#[F1,s1,l1,Z,r1]:=KH (U':=[]) (σ':=[]) ↑h3 hl Y ep;let h1:L.length=σ.length:=l1.trans hl;let r2:=Rel.comm (U':=ss.map some) (σ':=vs.map some) h1 ↑r1;let h4:(ss.map some).length=(vs.map some).length:=by simp[Z,Y.len]
 let#[G',r3,gg,bk]:=r2.hide h4;let hn:=h2 _ _ _ hk;show#[F1,G',ss,_,_,by rw[Y.len,<-Z];show hn,r3,hk,λs M v F2 H2 hp s2 l3 r4=>?_,λd M F2 H2 C dx hp s2 l3 r4 cd a s' I Fl=>?_]
 .let r5:=bk s2 r4;let J:(M.map some++[⇑s]).length=(vs.map some++[⇑v]).length:=by simp[l3,Z,Y.len]
  let r6:=Rel.comm J r5;let#[l7,r7]:=EU (ms:=ms) (rs:=rs) (vs:=vs) (U':=[⇑s]) (σ':=[⇑v]) r6 h1 (l3.trans Z) Y;show h6 _ _ v F2 H2 hp (s1.trans s2) r7 trivial
 .let r5:=bk s2 r4;let J:(M.map some).length=(vs.map some).length:=by simp[l3,Z,Y.len]
  let r6:=Rel.comm J r5;let#[l7,r7]:=EU (ms:=ms) (rs:=rs) (vs:=vs) (U':=[]) (σ':=[]) ↑r6 h1 (l3.trans Z) Y;show hx d _ σ F2 H2 (.ref a) s' hp rfl (s1.trans s2) ↑r7 I #[a,C,dx,rfl,cd,Fl]
section
variable{K:W.Frag}
def Rel.pushNs(r:Rel K U σ F G H):∀m:Nat,Rel K (U++List.replicate m none) (σ++List.replicate m none) F G H
 |0=>↑r
 |m+1=>by let:=(Rel.pushNs r m).pushN (u:=none);rw[qp,qp,<-List.replicate_succ',<-List.replicate_succ']at this;show this
@[inline]def Args(K:W.Frag)(F:Hp):List S->List V->St->Prop
 |[],[],_=>True
 |s::ss,v::vs,u::σ=>((∃d,s=.sh d/\aR K F v d)\/(s.isSh=false/\u=⇑v))/\Args K F ss vs σ
 |_,_,_=>False
def GT:∀{ss:List S}{vs:List V}{fs:List S}{U U' Ua:Env}{σ σ' σa:St},aD ss U=⇑fs->Rel K (Ua++(U++U')) (σa++(σ++σ')) F G H->Ua.length=σa.length->U.length=σ.length->Args K F ss vs σ->
  fs.length=ss.length/\vs.length=ss.length/\Rel K (Ua++(fs.map some++U')) (σa++(vs.map some++σ')) F G H
 |[],[],fs,U,U',Ua,σ,σ',σa,e,r,h,h2,_=>by
  let J:⇑([]:List S)=⇑fs:=by cases U<;>show e
  cases J;show#[rfl,rfl,?_];let M:=Rel.swap (U1:=U) (σ1:=σ) (U2:=U') (σ2:=σ') h h2 r;rw[<-qp,<-qp]at M;let hl:(Ua++U').length=(σa++σ').length:=by let:=r.len;simp at this;simp;lia
  simpa using M.drop hl
 |[],_::_,_,_,_,_,_,_,_,_,_,_,_,h=>by cases h
 |_::_,[],_,_,_,_,_,_,_,_,_,_,_,h=>by cases h
 |_::_,_::_,_,_,_,_,[],_,_,_,_,_,_,h=>by cases h
 |_::_,_::_,_,[],_,_,_::_,_,_,_,_,_,h2,_=>by simp at h2
 |s::ss,v::vs,fs,o::U,U',Ua,u::σ,σ',σa,e,r,h,h2,ha=>by
  let Z:U.length=σ.length:=↑h2
  let#[h1,Y]:=ha;rcases h1 with⟨d,rfl,rp⟩|⟨hs,hu⟩
  .have J:(aD ss U).map (S.sh d::·)=⇑fs:=e;cases q:aD ss U with
   |none=>rw[q]at J;cases J
   |some L=>
    rw[q]at J;let h3:S.sh d::L=fs:=qf J;subst h3;let M:Rel K (Ua++(U++U')) (σa++(σ++σ')) F G H:=Rel.mid (U:=Ua) (σ:=σa) r h;let#[l1,l2,r2]:=GT q M h Z Y;let hl:(L.map some++U').length=(vs.map some++σ').length:=by let:=r2.len;simp at this;simp;lia
    let r3:=r2.push rp;rw[qp Ua,qp σa]at r3;let r4:=Rel.swap (U1:=L.map some++U') (σ1:=vs.map some++σ') (U2:=[⇑(.sh d)]) (σ2:=[⇑v]) h hl r3;show#[by simp[l1],by simp[l2],r4]
  .subst hu;let J:∃t L,o=⇑t/\aD ss U=⇑L/\fs=t::L:=by
    cases s with
    |sh d=>cases hs
    |_=>
     cases o with
     |none=>cases e
     |some t=>
      let J:(aD ss U).map (t::·)=⇑fs:=e;cases q:aD ss U with
      |none=>rw[q]at J;cases J
      |some L=>rw[q]at J;show#[t,L,rfl,rfl,(qf J).symm]
   let#[t,L,rfl,q,rfl]:=J;let M:Rel K ((Ua++[⇑t])++(U++U')) ((σa++[⇑v])++(σ++σ')) F G H:=↑r
   let#[l1,l2,r2]:=GT q M (by simp[h]) Z Y;show#[by simp[l1],by simp[l2],↑r2]
def KQ{ks:List Nat}:∀{ss:List S}{vs:List V}{σ:St}{j:Nat}{fp:List Addr},zN K F0 H (ss.map some) (vs.map some) fp->zL F0 F->(∀i s,ss[i]?=⇑s->(j+i)∈ks\/s.isSh=true)->
  (∀i v,vs[i]?=⇑v->(j+i)∈ks->σ[i]?=⇑⇑v)->vs.length<=σ.length->Args K F ss vs σ
 |[],[],_,_,_,_,_,_,_,_=>trivial
 |[],_::_,_,_,_,r,_,_,_,_=>by cases r
 |_::_,[],_,_,_,r,_,_,_,_=>by cases r
 |_::_,_::_,[],_,_,_,_,_,_,h=>by simp at h
 |s::ss,v::vs,u::σ,j,_,.so a b,sm,hk,hv,hl=>by
  show#[?_,KQ (j:=j+1) b sm (λi t e=>by let:=hk (i+1) t e;rwa[show j+(i+1)=j+1+i by lia]at this) (λi t e z=>by simpa using hv (i+1) t ↑e (by rwa[show j+(i+1)=j+1+i by lia])) ↑hl];cases G:s.isSh with
  |true=>
   cases s with
   |sh d=>cases a with
    |sh r=>show .inl #[d,rfl,r.mono sm]
   |_=>cases G
  |false=>show .inr #[rfl,?_];let:=hk 0 s rfl;rw[G]at this;let z:(j+0)∈ks:=this.resolve_right (by simp);simpa using hv 0 v rfl z
theorem JC{st:Stmt}(Fn:az K x qual st f fd)(Sc:aE N ps (aA st))(hn:ps.length=n)(hm:N.length=m)
  (hb:∀(Z:Value)(A:Around)(J:List PySem.Env)(s:Shared)(H:Hp)(E:XK),bU k (A.deeper (envOfC qual (aA st) s.heap.objs.size f Z))->pO (fZ (jU P w) P w K mg base N qual (aA st) f Z A J s H E) ks (cS st) wb):
  gB P w K mg base (jU P w) (k+1) f fd ps (eF K (eU n m ks wb) n):=by
 show Fn.okX Sc (λvs H Q E h=>?_) (λZ A J s H vs Q E hr h=>?_)
 .obtain⟨F,G,ss,P',PX,hl,_⟩:=h;rw[hl,hn]
 .obtain⟨F,G,ss,P',PX,h6,h3,⟨e3,e2,h2⟩,h9,hex⟩:=h;show#[_,hb Z A J s H E hr [] (fZ (jU P w) P w K mg base N qual (aA st) f Z A J s H E).xe PassesOwn.leaving,?_];let e1:N.length-vs.length=m-n:=by rw[h6,hm]
  let h8:Rel K (ss.map some++List.replicate (m-n) none) (L2.start N vs) F G H:=by unfold L2.start;rw[e1];show h3.pushNs (m-n)
  let h7:∀i v,vs[i]?=⇑v->(L2.start N vs)[i]?=⇑⇑v:=λi v e=>by unfold L2.start;let hi:i<vs.length:=(qg.mp e).1;rw[getElem?_append_left ↑hi,qI,e];rfl
  --how the arguments are at an end
  have h4:∀{U':Env}{σ':St}{F':Hp}{fs:List S},KP ks (L2.start N vs) σ'->zL F F'->U'.length=σ'.length->aD ss U'=⇑fs->Args K F' ss vs σ':=by
   intro U' σ' F' fs M L Y e;let#[fp,en,_]:=h3.en;let h5:vs.length<=σ'.length:=by
    --aD reads as many slots as there are arguments
    have:∀(ss:List S)(U:Env)(fs:List S),aD ss U=⇑fs->ss.length<=U.length:=by
     intro ss;induction ss with
     |nil=>intro U fs _;simp
     |cons s ss ih=>
      intro U fs e;cases U with
      |nil=>cases s<;>cases e
      |cons o U=>
       have:∃gs,aD ss U=⇑gs:=by
        cases q:aD ss U with
        |some gs=>show#[gs,rfl]
        |none=>
         cases s with
         |sh d=>have e':(aD ss U).map (S.sh d::·)=⇑fs:=e;rw[q]at e';cases e'
         |_=>
          cases o with
          |none=>cases e
          |some t=>have e':(aD ss U).map (t::·)=⇑fs:=e;rw[q]at e';cases e'
       let#[gs,q]:=this;let:=ih U gs q;simp;show this
    let:=this ss U' fs e;lia
   show KQ (ks:=ks) (F:=F') (σ:=σ') (j:=0) en L (λi s e=>by simpa using e2 i s e) (λi v e z=>by rw[M i ↑z];show h7 i v e) h5
  let h1:∀{U':Env}{σ':St}{F' H':Hp}{t:S}{v:V}{fs:List S},KP ks (L2.start N vs) σ'->zL F F'->Rel K (U'++[⇑t]) (σ'++[⇑v]) F' G H'->aD ss U'=⇑fs->P' t fs->Q v H':=by intro U' σ' F' H' t v fs M L r e hp;let Y:U'.length=σ'.length:=Ag r;let#[l1,l2,r1]:=GT (Ua:=[]) (σa:=[]) (U':=[⇑t]) (σ':=[⇑v]) e r rfl Y (h4 M L Y e);show h9 t fs v F' H' hp L l1 r1
  show#[F,G,_,_,h8,h2,λU' σ' F' H' h M L r=>?_,λU' σ' F' H' h=>h.elim,λU' σ' F' H' h=>h.elim,λa U' σ' v F' H' h M L r rv=>?_,λd U' σ' F' H' u s' h M L r I xr=>?_]
  .obtain⟨fs,e,h⟩:=Ai h;show h1 M L (r.push .non) e h
  .cases a with
   |v t=>let#[fs,e,h]:=Ai h;show h1 M L r e h
   |loc i=>
    let#[t,et,h]:=Ai h;let hl:=Ag r;by_cases hi:i<n
    .rw[zj hi]at h;let#[fs,e,h]:=Ai h;let#[F2,s2,_,r2]:=Ar (x:=.loc i) (s:=.sh t.toD) (U1:=U'.set i ⇑(.sh t.toD)) (U':=[]) (σ':=[]) r hl rv (by show(match slot U' i with|some s=>⇑(S.sh s.toD,U'.set i ⇑(.sh s.toD))|none=>none)=_;rw[et]);show h1 M (L.trans s2) r2 e h
    .rw[zk hi]at h;let#[fs,e,h]:=Ai h;let r2:=Rel.lend (U':=[]) (σ':=[]) r hl et rv;refine h1 M L r2 ?_ h
     --the slot lies behind the parameters
     have:∀(ss:List S)(U:Env)(i:Nat),ss.length<=i->aD ss (U.set i none)=aD ss U:=by
      intro ss;induction ss with
      |nil=>intro U i _;cases U<;>cases i<;>rfl
      |cons s ss ih=>
       intro U i hi;cases U with
       |nil=>rfl
       |cons o U=>
        cases i with
        |zero=>simp at hi
        |succ i=>
         let e:=ih U i ↑hi;cases s with
         |sh d=>show(aD ss (U.set i none)).map _=(aD ss U).map _;rw[e]
         |_=>
          cases o with
          |none=>rfl
          |some t=>show(aD ss (U.set i none)).map _=(aD ss U).map _;rw[e]
     rw[this ss U' i ∅];show e
  .obtain⟨fs,e,h⟩:=Ai h;let#[a,C,dx,rfl,cd,Fl]:=xr;let#[l1,l2,r1]:=GT (K:=K) (Ua:=[]) (σa:=[]) (U':=[]) (σ':=[]) e (by simpa using(show Rel K U' σ' F' G H' from r)) rfl r.len (h4 M L r.len e);show RK I Fl (hex d fs F' H' C dx h L l1 ↑r1 cd)
end
end FL
namespace L2
open PySem PySem.Spec PyProof.Rows
def dC(cells:List (Str×Addr)):List (Str×NameKind)->List (Str×Addr)->List (Str×Addr)
 |[],z9=>z9
 |(n,k)::r,z9=>if k==.free then(match cells.lookup n with|some c=>dC cells r ((n,c)::z9)|none=>dC cells r z9)else dC cells r z9
def IY(f:Str×NameKind->List (Str×Addr)->Sem (ForInStep (List (Str×Addr))))
  (hf:∀n k cs,f (n,k) cs=if k==.free then(do let a<-cellOf env n;pure (.yield ((n,a)::cs)))else pure (.yield cs)):
  ∀(names:List (Str×NameKind))(z9:List (Str×Addr)),(∀x∈names,x.2=.free->∃c,env.cells.lookup x.1=⇑c)->(forIn names z9 f:Sem _)=pure (dC env.cells names z9)
 |[],z9,_=>by rw[List.forIn_nil];rfl
 |(n,k)::r,z9,h=>by
  rw[List.forIn_cons,hf];let hr:∀x∈r,x.2=.free->∃c,env.cells.lookup x.1=⇑c:=λx hx=>h x (qk _ hx);by_cases hk:(k==.free)=true
  .obtain⟨c,hc⟩:=h (n,k) qm ↑hk;let hc':env.cells.lookup n=⇑c:=hc;let e:cellOf env n=pure c:=by unfold cellOf;rw[hc']
   rw[zj hk,e];let ih:=IY f hf r ((n,c)::z9) hr;unfold dC;rw[zj hk,hc'];rw[<-ih];simp
  .rw[zk hk];let ih:=IY f hf r z9 hr;unfold dC;rw[zk hk,<-ih];simp
def WN(h:∀x∈scope.names,x.2=.free->∃c,env.cells.lookup x.1=⇑c):closureFor scope env=pure (dC env.cells scope.names []):=by show(forIn scope.names ([]:List (Str×Addr)) _>>=λv=>pure v)=_;rw[IY (env:=env) _ (λn k v=>rfl) scope.names [] h];rfl
def GR:∀{names:List (Str×NameKind)}{v:List (Str×Addr)},(n,c)∈dC cells names v->(n,c)∈v\/((n,NameKind.free)∈names/\cells.lookup n=⇑c)
 |[],_,h=>.inl h
 |(m,k)::r,v,h=>by
  unfold dC at h;by_cases G:(k==.free)=true
  .rw[zj G]at h;let F:k=.free:=by simpa using G
   cases q:cells.lookup m with
   |none=>
    rw[q]at h;rcases GR h with z|⟨z,w⟩
    .show .inl z
    .show .inr #[qk _ z,w]
   |some d=>
    rw[q]at h;rcases GR h with z|⟨z,w⟩
    .rcases qC.mp z with e|z
     .cases e;show .inr #[by rw[<-F];show qm,q]
     .show .inl z
    .show .inr #[qk _ z,w]
  .rw[zk G]at h;rcases GR h with z|⟨z,w⟩
   .show .inl z
   .show .inr #[qk _ z,w]
def Fy(F:cells.lookup n=⇑c):∀{names:List (Str×NameKind)}{v:List (Str×Addr)},((n,c)∈v\/(n,NameKind.free)∈names)->(n,c)∈dC cells names v
 |[],_,h=>h.elim id λz=>by simp at z
 |(m,k)::r,v,h=>by
  unfold dC;by_cases G:(k==.free)=true
  .rw[zj G];cases q:cells.lookup m with
   |none=>
    show Fy F ?_;rcases h with z|z
    .show .inl z
    .rcases qC.mp z with e|z
     .cases e;rw[F]at q;cases q
     .show .inr z
   |some d=>
    show Fy F ?_;rcases h with z|z
    .show .inl (qk _ z)
    .rcases qC.mp z with e|z
     .cases e;rw[F]at q;cases q;show .inl qm
     .show .inr z
  .rw[zk G];show Fy F ?_;rcases h with z|z
   .show .inl z
   .rcases qC.mp z with e|z
    .cases e;show(G ⋯).elim
    .show .inr z
def NS{α:Type}:∀{l:List (Str×α)}{n:Str}{c:α},(n,c)∈l->(∀v,(n,v)∈l->v=c)->l.lookup n=⇑c
 |[],_,_,h,_=>by simp at h
 |(m,d)::r,n,c,h,u=>by
  rw[lookup_cons];cases F:n==m with
  |true=>
   let e:n=m:=↑F
   subst e;show congrArg some (u d qm)
  |false=>
   show NS (l:=r) ?_ λv G=>u v (qk _ G);rcases qC.mp h with e|h
   .cases e;simp at F
   .show h
def Je:∀{names:List (Str×NameKind)}{n:Nat}{v:List (Str×Addr)}{x:Str}{c:Addr},(x,c)∈cellsFrom n names v->(x,c)∈v\/((x,NameKind.cell)∈names/\n<=c)
 |[],_,_,_,_,h=>.inl h
 |(m,k)::r,n,v,x,c,h=>by
  unfold cellsFrom at h;by_cases G:(k==.cell)=true
  .rw[zj G]at h;let F:k=.cell:=by simpa using G
   rcases Je h with z|⟨z,w⟩
   .rcases qC.mp z with e|z
    .cases e;show .inr #[by rw[<-F];show qm,zm _]
    .show .inl z
   .show .inr #[qk _ z,∅]
  .rw[zk G]at h;rcases Je h with z|⟨z,w⟩
   .show .inl z
   .show .inr #[qk _ z,w]
def FD:∀{names:List (Str×NameKind)}{n:Nat}{v:List (Str×Addr)}{x:Str},((x,NameKind.cell)∈names\/∃c,(x,c)∈v)->∃c,(x,c)∈cellsFrom n names v
 |[],_,_,_,h=>h.elim (λz=>by simp at z) id
 |(m,k)::r,n,v,x,h=>by
  unfold cellsFrom;by_cases F:(k==.cell)=true
  .rw[zj F];show FD ?_;rcases h with z|⟨c,z⟩
   .rcases qC.mp z with e|z
    .cases e;show .inr #[n,qm]
    .show .inl z
   .show .inr #[c,qk _ z]
  .rw[zk F];show FD ?_;rcases h with z|z
   .rcases qC.mp z with e|z
    .cases e;show(F ⋯).elim
    .show .inl z
   .show .inr z
def Ho{α:Type}:∀{l:List (Str×α)}{x:Str},(∃c,(x,c)∈l)->∃c,l.lookup x=⇑c
 |[],_,⟨_,h⟩=>by simp at h
 |(m,d)::r,x,⟨c,h⟩=>by
  rw[lookup_cons];cases v:x==m with
  |true=>show#[d,rfl]
  |false=>
   show Ho (l:=r) #[c,?_];rcases qC.mp h with e|h
   .cases e;simp at v
   .show h
def Jn:∀{names:List (Str×NameKind)}{n:Nat}{v:List (Str×Addr)},(∀p∈v,p.2<n)->(∀p∈v,∀q∈v,p.2=q.2->p.1=q.1)->
  ∀p∈cellsFrom n names v,∀q∈cellsFrom n names v,p.2=q.2->p.1=q.1
 |[],_,_,_,h=>h
 |(m,k)::r,n,v,hb,h=>by
  unfold cellsFrom;by_cases L:(k==.cell)=true
  .rw[zj L];refine Jn (λp F=>?_) λp F q G e=>?_
   .rcases qC.mp F with rfl|F
    .show lt_succ_self _
    .show lt_succ_of_lt (hb p F)
   .rcases qC.mp F with rfl|F<;>rcases qC.mp G with rfl|G
    .rfl
    .let h1:=hb q G;let J:n=q.2:=e;show absurd h1 (by rw[<-J];show lt_irrefl _)
    .let h1:=hb p F;let J:p.2=n:=e;show absurd h1 (by rw[J];show lt_irrefl _)
    .show h p F q G e
  .rw[zk L];show Jn hb h
def WH
  (hQ:∀h':Heap,(∀b o,s.heap.get? b=⇑o->h'.get? b=⇑o)->h'.Ns s.heap.objs.size (λ_=>none)->(∀x c,(x,c)∈cellsFrom (s.heap.objs.size+1) scope.names G->(x,c)∈G\/h'.IsCell c none)->
   Q {scope:=scope,locals:=s.heap.objs.size,globals:=globals,cells:=cellsFrom (s.heap.objs.size+1) scope.names G,qual:=qual,func:=none,code:=env.code,frame:=env.frame,builtins:=env.builtins} {s with heap:=h'}):
  wpAny M A (newFunctionEnv scope globals G [] qual none .none ⇑env) Q E s:=by
 simp only[newFunctionEnv,isSome_some,if_true];show qa (wpAny_alloc ?_);show qa (wpAny_layCells _ (λL kind cells=>by cases h1:kind==NameKind.cell<;>simp) _ _ _ _ ?_);rw[show({s with heap:=s.heap.push {cls:=.type "dict",data:=.dict #[]}}:Shared).heap.objs.size=s.heap.objs.size+1 from Heap.size_push ..];show qb (hQ _ (λb o e=>pushCells_keeps _ _ b o (qc _ e)) ((Heap.Ns.new s.heap (.type "dict")).keeps (pushCells_keeps _ _)) λx c h=>?_)
 --the new cells are empty
 have all:∀(names:List (Str×NameKind))(h:Heap)(F:List (Str×Addr)),(∀p∈F,p∈G\/h.IsCell p.2 none)->∀p∈cellsFrom h.objs.size names F,p∈G\/(pushCells h names).IsCell p.2 none:=by
  intro names;induction names with
  |nil=>intro h F J p v;show J p v
  |cons q r Y=>
   intro h F J p v;let#[m,k]:=q;unfold cellsFrom at v;unfold pushCells;by_cases Z:(k==.cell)=true
   .rw[zj Z]at v⊢;let e:(h.push {cls:=.type "cell",data:=.cell none}).objs.size=h.objs.size+1:=Heap.size_push ..;rw[<-e]at v;show Y _ _ (λp v=>?_) p v;rcases qC.mp v with rfl|v
    .show .inr #[_,qd _ rfl,rfl]
    .rcases J p v with z|z
     .show .inl z
     .show .inr (z.keeps λb o e=>qc _ e)
   .rw[zk Z]at v⊢;show Y h F J p v
 let:=all scope.names (s.heap.push {cls:=.type "dict",data:=.dict #[]}) G (λp v=>.inl v) (x,c) (by rw[Heap.size_push];show h);show this
def gU(N vars:List Str):List Str:=N.map (λx=>if x∈vars then Str.empty else x)++Str.empty::vars
def aF(X:Cx)(scope:Scope)(vars:List Str)(s:Shared)(H:Hp)(ex:List Addr):Cx where
 prog:=X.prog
 w:=X.w
 K:=X.K
 mg:=X.mg
 base:=X.base
 A:=X.A
 N:=gU X.N vars
 s₀:=s
 H₀:=H
 env:=compEnvC scope (cellsFrom (s.heap.objs.size+1) scope.names (dC X.env.cells scope.names [])) s.heap.objs.size X.env
 outer:=X.stack
 stack:=X.stack
 ex:=ex
 fn:=λx=>↥((x,NameKind.cell)∈scope.names)
 calm:=X.calm
 pn:=[]
 xe:=λ_ _=>False
structure cH(outer scope:Scope)(N vars:List Str):Prop where
 kind:scope.kind=.function
 fr:∀x∈scope.names,x.2=.free->outer.names.lookup x.1=⇑.cell\/outer.names.lookup x.1=⇑.free
 nd:(scope.names.map (·.1)).Nodup
 own:∀x∈N,x∉vars->(x,NameKind.local)∉scope.names/\(x,NameKind.cell)∉scope.names
 emp:scope.names.lookup Str.empty=none
def Hn{α:Type}{l:List (Str×α)}{c:α}(v:(l.map (·.1)).Nodup):l.lookup n=⇑c↔(n,c)∈l:=by
 show#[mem_of_lookup,λh=>NS h λG h'=>?_];induction l with
 |nil=>simp at h
 |cons p r F=>grind
theorem NT{α β:Type}(g:Str->α->β):∀(l:List (Str×α))(n:Str),(l.map λp=>(p.1,g p.1 p.2)).lookup n=(l.lookup n).map (g n)
 |[],_=>rfl
 |(m,d)::r,n=>by
  rw[qA,lookup_cons,lookup_cons];cases v:n==m with
  |true=>have e:n=m:=by simpa using v
         subst e;rfl
  |false=>show NT g r n
def rl(env:PySem.Env)(n:Str)(k:NameKind):NameKind:=if(k==NameKind.free&&env.scope.kind==.function&&env.kindOf n==⇑.cell)then NameKind.cell else k
def WR(scope:Scope)(env:PySem.Env):(relabel scope env).names=scope.names.map λp=>(p.1,rl env p.1 p.2):=by
 show map_congr_left λp _=>?_;let#[n,k]:=p;show(if(k==NameKind.free&&env.scope.kind==.function&&env.kindOf n==⇑.cell)=true then(n,NameKind.cell)else(n,k))=(n,rl env n k);unfold rl;by_cases h:(k==NameKind.free&&env.scope.kind==.function&&env.kindOf n==⇑.cell)=true
 .rw[zj h,zj h]
 .rw[zk h,zk h]
def Hm(scope:Scope)(env:PySem.Env)(x:Str):(relabel scope env).names.lookup x=(scope.names.lookup x).map (rl env x):=by rw[WR,NT]
def EO(h:k≠.free):rl env x k=k:=by unfold rl;rw[zk];intro z;simp at z;show h z.1.1
def Ry:rl env x .free=.cell\/rl env x .free=.free:=by
 unfold rl;split
 .show .inl rfl
 .show .inr rfl
def SK(h:(gU N vars)[i]?=⇑x)(hi:i<N.length):(N[i]?=⇑x/\x∉vars)\/x=Str.empty:=by
 unfold gU at h;rw[getElem?_append_left ↑hi,qI]at h;cases q:N[i]? with
 |none=>rw[q]at h;cases h
 |some y=>grind
def Inv.comp(I:Inv X z4 σ H s)(S:cH X.env.scope scope X.N vars)(hex:∀b∈ex,dX X z4 H b/\b<s.heap.objs.size)(kept:∀b o,s.heap.get? b=⇑o->h'.get? b=⇑o)(h8:h'.Ns s.heap.objs.size (λ_=>none))
  (e3:∀x c,(x,c)∈cellsFrom (s.heap.objs.size+1) scope.names (dC X.env.cells scope.names [])->(x,c)∈dC X.env.cells scope.names []\/h'.IsCell c none)(hk:vars.length=k)(w0:Option V):
  Inv (aF X scope vars s H ex) [] (σ++w0::List.replicate k none) H {s with heap:=h'}:=by
 have cm:∀{x:Str}{c:Addr},(x,c)∈dC X.env.cells scope.names []->(x,NameKind.free)∈scope.names/\X.env.cells.lookup x=⇑c:=λ{x c} h=>by
  rcases GR h with z|z
  .simp at z
  .show z
 let lt:∀{x:Str}{c:Addr},X.env.cells.lookup x=⇑c->c<s.heap.objs.size:=λ{x c} h=>by let#[v,z]:=I.cell x c h;show z.lt
 have look:∀{x:Str}{c:Addr},(aF X scope vars s H ex).env.cells.lookup x=⇑c->(X.env.cells.lookup x=⇑c/\(x,NameKind.free)∈scope.names)\/((x,NameKind.cell)∈scope.names/\s.heap.objs.size+1<=c):=λ{x c} h=>by
  rcases Je (mem_of_lookup h)with z|z
  .show .inl #[(cm z).2,(cm z).1]
  .show .inr z
 let uniq:∀{x:Str}{a b:NameKind},(x,a)∈scope.names->(x,b)∈scope.names->a=b:=λ{x a b} h1 h2=>by let e1:=(Hn S.nd).mpr h1;let e2:=(Hn S.nd).mpr h2;rw[e1]at e2;show qf e2
 --what a visible name is,seen from around
 have h5:∀{x:Str},((relabel scope X.env).names.lookup x=⇑.cell\/(relabel scope X.env).names.lookup x=⇑.free)->(x,NameKind.cell)∈scope.names\/(x,NameKind.free)∈scope.names:=λ{x} h=>by
  rw[Hm]at h;cases q:scope.names.lookup x with
  |none=>rw[q]at h;rcases h with h|h<;>cases h
  |some k=>
   let M:=mem_of_lookup q;rw[q]at h;let h0:⇑(rl X.env x k)=⇑.cell\/⇑(rl X.env x k)=⇑.free:=h;cases k with
   |cell=>show .inl M
   |free=>show .inr M
   |«local»=>rw[EO ⋯]at h0;rcases h0 with h|h<;>cases h
   |globalImplicit=>rw[EO ⋯]at h0;rcases h0 with h|h<;>cases h
   |globalExplicit=>rw[EO ⋯]at h0;rcases h0 with h|h<;>cases h
 have ok:(aF X scope vars s H ex).Ok:=by
  show#[I.ok.mod,S.kind,I.ok.glob,I.ok.blt,zm _,λx y c h1 h2=>?_,λx h=>?_,λx c hf h=>?_,I.ok.hd,I.ok.frames,.inl rfl,λb Y=>#[?_,λx c h z=>?_],I.bs,le_trans I.ok.bsz I.sz,λb o e Y=>?_,λb Y z=>?_,I.stack,I.stkFree]
  .refine Jn (λp hp=>?_) (λp hp q hq e=>?_) (x,c) (mem_of_lookup h1) (y,c) (mem_of_lookup h2) rfl
   .show lt_succ_of_lt (lt (cm (x:=p.1) (c:=p.2) hp).2)
   .show I.ok.inj _ _ _ (cm (x:=p.1) (c:=p.2) hp).2 (e▸(cm (x:=q.1) (c:=q.2) hq).2)
  .rcases h5 h with z|z
   .show Ho (FD (.inl z))
   .obtain⟨c,hc⟩:=I.ok.has x (S.fr (x,.free) z rfl);show Ho (FD (.inr #[c,Fy hc (.inr z)]))
  .let h9:(x,NameKind.cell)∈scope.names:=qX hf;rcases look h with⟨_,z⟩|⟨_,z⟩
   .cases uniq h9 z
   .show Nat.le_of_succ_le z
  .show ne_of_lt (hex b Y).2
  .rcases look h with⟨w,_⟩|⟨_,w⟩
   .show(hex b Y).1.2.2.2.2.1 x c w z
   .let h1:=(hex b Y).2;rw[<-z]at h1;show absurd (lt_of_lt_of_le h1 (Nat.le_of_succ_le w)) (lt_irrefl _)
  .obtain⟨_,_,_,h1,_⟩:=(hex b Y).1;rcases h1 with z|z
   .show I.ok.noex b o e z
   .rw[(I.ok.bs b o e).1]at z;cases z
  .obtain⟨_,h2,Z,_⟩:=(hex b Y).1;rcases qC.mp (I.stkSub b z)with w|w
   .show h2 w
   .show Z w
 let G:∀{c:Addr}{v:Option Value},s.heap.IsCell c v->h'.IsCell c v:=λz=>z.keeps kept;show#[ok,rfl,I.bare,Un.kept kept,#[_,h8,λi x v h1 h2 Z=>?_],λx c h=>?_,I.hok.fresh (zm _),λx c h=>?_,λp hp=>absurd (show p∈([]:List (Addr×Obj)) from hp) (by simp),I.hok.kept kept,?_]
 ·--a slot of the context
  let h6:¬gu (aF X scope vars s H ex).env.scope Str.empty:=λZ=>by let J:(relabel scope X.env).names.lookup Str.empty=⇑.local\/(relabel scope X.env).names.lookup Str.empty=⇑.cell\/(relabel scope X.env).names.lookup Str.empty=⇑.free:=Z;rw[Hm,S.emp]at J;rcases J with z|z|z<;>cases z
  have hi:i<σ.length:=by
   by_cases hi:i<σ.length
   .show hi
   .exfalso;rw[getElem?_append_right (not_lt.mp hi)]at h2;cases q:i-σ.length with
    |zero=>
     let e:i=X.N.length:=by let:=I.len;lia
     rw[e]at h1;let h4:(gU X.N vars)[X.N.length]?=⇑x:=h1;unfold gU at h4;simp at h4;subst h4;show h6 Z
    |succ j=>rw[q,List.getElem?_cons_succ,List.getElem?_replicate]at h2;split at h2<;>cases h2
  rw[getElem?_append_left hi]at h2;rcases SK h1 (by rw[<-I.len];show hi)with⟨h1,hx⟩|rfl
  .have own:=S.own x (qP h1) hx;let F:(x,NameKind.free)∈scope.names:=by
    let J:(relabel scope X.env).names.lookup x=⇑.local\/(relabel scope X.env).names.lookup x=⇑.cell\/(relabel scope X.env).names.lookup x=⇑.free:=Z;rcases J with z|z
    .rw[Hm]at z;cases q:scope.names.lookup x with
     |none=>rw[q]at z;cases z
     |some kk=>
      rw[q]at z;let z0:⇑(rl X.env x kk)=⇑.local:=z;let M:=mem_of_lookup q;cases kk with
      |«local»=>show absurd M own.1
      |cell=>show absurd M own.2
      |free=>show M
      |globalImplicit=>rw[EO ⋯]at z0;cases z0
      |globalExplicit=>rw[EO ⋯]at z0;cases z0
    .rcases h5 z with w|w
     .show absurd w own.2
     .show w
   let L:=S.fr (x,.free) F rfl;let#[m,M,hl]:=I.loc;let#[u,r,l]:=hl i x v h1 h2 (L.elim (λz=>.inr (.inl z)) λz=>.inr (.inr z));show#[u,r,.inr #[?_,?_]]
   .show(relabel scope X.env).names.lookup x=⇑.cell\/(relabel scope X.env).names.lookup x=⇑.free;rw[Hm,(Hn S.nd).mpr F];show ⇑(rl X.env x .free)=_\/⇑(rl X.env x .free)=_;rcases Ry (env:=X.env) (x:=x)with e|e<;>rw[e]
    .show .inl rfl
    .show .inr rfl
   .rcases l with⟨z,_⟩|⟨_,c,hc,z⟩
    .let z':X.env.scope.names.lookup x=⇑.local:=z;rcases L with w|w<;>(have w':X.env.scope.names.lookup x=_:=w;rw[w']at z';cases z')
    .show#[c,?_,G z];let#[c',h7]:=Ho (FD (n:=s.heap.objs.size+1) (names:=scope.names) (.inr #[c,Fy hc (.inr F)]));rcases look h7 with⟨w,_⟩|⟨w,_⟩
     .rw[hc]at w;cases w;show h7
     .cases uniq F w
  .show absurd Z h6
 .rcases e3 x c (mem_of_lookup h)with z|z
  .obtain⟨v,w⟩:=I.cell x c (cm z).2;show#[v,G w]
  .show#[none,z]
 .rcases look h with⟨w,_⟩|⟨_,w⟩
  .show I.freeC x c w
  .show I.hok.fresh (Nat.le_of_succ_le w)
 .show _=(gU X.N vars).length;unfold gU;simp[I.len,hk]
abbrev TB:=St->Hp->(St->Hp->Prop)->Prop
def mK(X:Cx)(m:Sem Unit)(t:TB):Prop:=∀(z4:List (Addr×Obj))(s:Shared)(σ:St)(H:Hp)(Q:St->Hp->Prop),Inv X z4 σ H s->t σ H Q->
 wpAny (model X.prog X.w) X.A m (λ_ s'=>∃σ' H',Inv X z4 σ' H' s'/\Q σ' H') (λ_ _=>False) s
def hU(X:Cx)(ifs:List Expr)(t:TT):Prop:=∀(z4:List (Addr×Obj))(s:Shared)(σ:St)(H:Hp)(Q:Bool->Hp->Prop),Inv X z4 σ H s->t σ H Q->
 wpAny (model X.prog X.w) X.A (forIn ifs true λc r=>if r=true then do let ok<-isTrue c X.env (eval c X.env);pure (ForInStep.yield ok)else pure (ForInStep.yield r)) (TP X z4 σ Q) X.xe s
def Tf:hU X [] (λ_ H Q=>Q true H):=λz4 s σ H Q I q=>wpAny_tests_nil #[H,I,q]
def RH(h:PT X c t):hU X [c] t:=λz4 s σ H Q I q=>wpAny_tests_one (h z4 s σ H Q I q)
def gL(g:TG)(tc:TT)(tb:TB)(J:It):TB:=λσ H Q=>∃W:Nat->Nat->St->Hp->Prop,(∃m,W 0 m σ H)/\∀i m σ H,W i m σ H->
 (J.stop i H/\Q σ H)\/(J.go i H/\∃N:St->Hp->Prop,(∀σ' H',N σ' H'->∃m',m'<m/\W (i+1) m' σ' H')/\∀x H',J.yld i H x H'->g x σ H' λv H2=>tc v H2 λb F=>if b=true then tb v F N else N v F)
def jR(X:Cx)(e:Expr)(d:Nat)(v:Value)(tg:Expr)(L:It->TB):Prop:=∀(z4:List (Addr×Obj))(s:Shared)(σ:St)(H:Hp)(J:It)(fp:List Addr)(G:Addr)(F:Nat->Heap->Prop)(Q:St->Hp->Prop),Inv X z4 σ H s->
 gV X.prog X.w X.K tg J fp G F->F 0 s.heap->(∀b∈fp,dX X z4 H b)->L J σ H Q->
 codeAny (model X.prog X.w) X.A (.compLoop e d (.ref G) v X.env) (λr s'=>∃σ' H',r=.ok .next/\Inv X z4 σ' H' s'/\Q σ' H') s
def kW(X:Cx)(m:Sem Fin)(c:Code)(t:TB):Prop:=∀(z4:List (Addr×Obj))(s:Shared)(σ:St)(H:Hp)(Q:St->Hp->Prop),Inv X z4 σ H s->t σ H Q->
 wpAny (model X.prog X.w) X.A m (λf s'=>f=.again c/\∃σ' H',Inv X z4 σ' H' s'/\Q σ' H') (λ_ _=>False) s
def mK.f(h:mK X m t):kW X (m>>=λ_=>again c) c t:=λz4 s σ H Q I q=>qa (zz (h z4 s σ H Q I q) (λ_ s' z=>qb #[rfl,z]) λ_ _ z=>z)
def FB{Bi:Addr->Sem Fin}(hc:X.calm=true)(hxe:X.xe=λ_ _=>False)(hg:PG X tg g)(ht:hU X ifs tc)(hr:∀it,kW X (Bi it) (.compLoop e d (.ref it) z9 X.env) tb)
  (hq:∀it,(Code.compLoop e d (.ref it) z9 X.env).quiet=true)(hun:∀it,X.A.under (.compLoop e d (.ref it) z9 X.env)=X.A)
  (hden:∀it,(model X.prog X.w).den (.compLoop e d (.ref it) z9 X.env)=(compTurn e d (.ref it) z9 X.env).onRaise (λx=>do noteFrame x X.env;theTreesLotGoes x))
  (heq:∀it,compTurn e d (.ref it) z9 X.env=(standAt ipos>>=λ_=>pyNext (.ref it)>>=λr=>match r with
   |none=>pure (.done .next)
   |some v=>letOwnedTupleGo tg (.ref it) v>>=λ_=>assign tg X.env v>>=λ_=>(forIn ifs true λc r=>if r=true then do let ok<-isTrue c X.env (eval c X.env);pure (ForInStep.yield ok)else pure (ForInStep.yield r))>>=λok=>if ok=true then Bi it else again (.compLoop e d (.ref it) z9 X.env))):
  jR X e d z9 tg (gL g tc tb):=by
 intro z4 s σ H J fp it tn Q I T st f ⟨W,⟨m0,w0⟩,turn⟩;let stat:∀{H':Hp},(∀b∈fp,H' b=none)->∀b∈fp,dX X z4 H' b:=λhn b hb=>#[hn b hb,(f b hb).2]
 let nox:∀{α:Type}{m:Sem α}{Q:α->Shared->Prop}{E:zF}{s:Shared},wpAny (model X.prog X.w) X.A m Q X.xe s->wpAny (model X.prog X.w) X.A m Q E s:=λh=>zz h (λ_ _ q=>q) λ_ _ x=>by rw[hxe]at x;show x.elim
 show codeAny_loop (hq it) (λn s'=>∃i σ' H',Inv X z4 σ' H' s'/\tn i s'.heap/\(∀b∈fp,H' b=none)/\W i n σ' H') ?_ m0 #[0,σ,H,I,st,λb hb=>(f b hb).1,w0];rintro n s3 ⟨i,σ3,H3,I3,st3,fr3,w3⟩;rw[hun,hden];show wpAny_noted ?_;rw[heq];show qa (wpAny_standAt (qa ?_));rcases turn i n σ3 H3 w3 with⟨stop,qn⟩|⟨go,N,hN,step⟩
 .show Aj (T.done X rfl rfl rfl hc i z4 s3 σ3 H3 _ I3 (stat fr3) st3 stop) λr s4⟨hr,I4⟩=>?_;subst hr;show qb #[σ3,H3,rfl,I4,qn]
 .show Aj (T.item X rfl rfl rfl hc i z4 s3 σ3 H3 _ I3 (stat fr3) st3 go) λr s4 zq=>?_;let#[u,hr',h4]:=zq;subst hr';show qa (Aj h4 λ_ s5 zq=>?_);show cps λ_ kk=>?_;let#[x,H5,I5,r5,y5,st5,fr5]:=zq;show kk ?_;let I5':=I5.pinned (stat fr5) (T.obj _ _ st5);show qa (nox (Aj (hg _ s5 σ3 H5 x u _ I5' r5 (step x H5 y5)) λ_ s6 zq=>?_));let#[σ6,H6,I6,q6]:=zq;let again:∀{σ7:St}{H7:Hp}{s7:Shared},Inv X (z4++gN fp s5.heap) σ7 H7 s7->N σ7 H7->∃m,m<n/\∃i σ' H',Inv X z4 σ' H' s7/\tn i s7.heap/\(∀b∈fp,H' b=none)/\W i m σ' H':=λ{σ7 H7 s7} I7 n7=>by let#[m',hm,w7]:=hN σ7 H7 n7;show#[m',hm,i+1,σ7,H7,I7.unpinned,T.keep _ _ _ st5 λb hb o e=>(I7.pin (b,o) (qi _ (qi _ (Hk hb e)))).1,λb hb=>?_,w7];let#[o,e,d]:=T.obj _ _ st5 b hb;exact(I7.pin (b,o) (qi _ (qi _ (Hk hb e)))).2.1
  show qa (nox (Aj (ht _ s6 σ6 H6 _ I6 q6) λb s7 zq=>?_));let#[H7,I7,q7]:=zq;cases b with
  |true=>show zz (hr it _ s7 σ6 H7 _ I7 q7) (λf s8 zq=>?_) λ_ _ z=>z.elim;let#[ef,σ8,H8,I8,n8]:=zq;subst ef;show#[rfl,again I8 n8]
  |false=>show qb #[rfl,again I7 q7]
def NG(hl:jR X e d z9 tg tl)
  (hq:∀it,(Code.compLoop e d (.ref it) z9 X.env).quiet=true)(hun:∀it,X.A.under (.compStart e d (.ref it) z9 X.env)=X.A)
  (hden:∀it,(model X.prog X.w).den (.compStart e d (.ref it) z9 X.env)=(compStart e d (.ref it) z9 X.env).onRaise (λx=>do noteFrame x X.env;standAt theWindowsPlace))
  (heq:∀it,∃p,compStart e d (.ref it) z9 X.env=(ask>>=λc=>if c.params.followText "comprehension-iter-twice"=true then again (.compLoop e d (.ref it) z9 X.env)else
   rule "comprehension.iter-twice">>=λ_=>standAt p>>=λ_=>pyIter (.ref it)>>=λit'=>again (.compLoop e d it' z9 X.env)))(I:Inv X z4 σ H s)
  (T:gV X.prog X.w X.K tg J fp it tn)(st:tn 0 s.heap)(f:∀b∈fp,dX X z4 H b)(q:tl J σ H Q):
  codeAny (model X.prog X.w) X.A (.compStart e d (.ref it) z9 X.env) (λr s'=>∃σ' H',r=.ok .next/\Inv X z4 σ' H' s'/\Q σ' H') s:=by
 let h0:=hl z4 s σ H J fp it tn Q I T st f q;show codeAny_of_tree ?_;rw[hun,hden];show wpAny_notedAt ?_;let#[p,e]:=heq it;rw[e];show qa (wpAny_askSetting (wpAny_ite ?_));split
 .show qb #[hq it,h0]
 .show qa (wpAny_rule (qa (wpAny_standAt (qa (T.self X.A 0 s _ _ st (qb #[hq it,h0]))))))
end L2
namespace FL
open PySem PySem.Spec PyProof.Rows L2
inductive tK(X:Cx)(n:Nat)(D:Addr)(b:WB)(σ:St)(H:Hp)(Q:St->Hp->Prop):Prop
 |mk (F G:Hp) (U:Env) (P:Env->Prop) (z6:Rel X.K U σ F G H) (hs:σ[n]?=some (some (.ref D))) (hw:b U P NX) (hn:∀U' σ' F' H',P U'->KP (List.range (n+1)) σ σ'->zL F F'->Rel X.K U' σ' F' G H'->Q σ' H'):tK X n D b σ H Q
def Hq:XC X T F G NX:=λ_ _ _ _ _ _ _ z=>z.elim
section
variable{K:W.Frag}
def zO.snoc(b:zO K F H xs l fp)(r:aK K F H v s fq):zO K F H (xs++[v]) (l++[s]) (fp++fq):=
 zO.ind (P:=λxs l fp=>zO K F H (xs++[v]) (l++[s]) (fp++fq)) (by let:=zO.cons r .nil;rwa[qB]at this) (λa _ G=>by rw[qp];show .cons a G) b
def zO.len(r:zO K F H xs l fp):xs.length=l.length:=zO.ind (P:=λxs l _=>xs.length=l.length) rfl (λ_ _ v=>congrArg (·+1) v) r
def Rel.append{D:Addr}(r:Rel K (U++[⇑s]) (σ++[⇑v]) F G H)(hs:slot U n=⇑(.lst l))(L:σ[n]?=⇑⇑(.ref D)):
  ∃xs,H D=⇑(.lst xs)/\xs.length=l.length/\Rel K (U.set n ⇑(.lst (l++[s]))) σ F G (upd H D (.lst (xs++[v]))):=by
 let hl:=Ag r;let#[fp,e,nd,ap]:=r.en;let#[f1,f2,rfl,a,b]:=e.cut hl;let#[v',fa,fi,fb,e1,rfl,q,up]:=a.at hs;rw[L]at e1;let e2:V.ref D=v':=↑e1
 subst e2;cases q with
 |lst hD rl=>
  rename_i xs fl;cases b with
  |so sr nl=>
   cases nl;rename_i fs;show#[xs,hD,rl.len,?_];let es:σ.set n ⇑(.ref D)=σ:=by
    apply ext_getElem?;intro j;by_cases hj:n=j
    .subst hj;rw[getElem?_set_self (qg.mp L).1,L]
    .rw[getElem?_set_ne hj]
   --D is nobody else's
   let#[n1,n2,h1]:=qx.mp nd;let#[na,J,Z]:=qx.mp n1;let#[ni,nb,J]:=qx.mp J;let#[nD,h5]:=qO.mp ni;let h4:D∉fa:=λz=>Z D z D (qj _ qm) rfl;let h3:D∉fb:=λz=>J D qm D z rfl;let h2:D∉fs:=λz=>h1 D (qi _ (qj _ qm)) D ↑z rfl;let Y:=ap D (qj _ (qi _ (qj _ qm)));let ne:∀{l:List Addr},D∉l->∀x∈l,upd H D (.lst (xs++[v])) x=H x:=λh x M=>Al λz=>h (z▸M);let new:aK K F (upd H D (.lst (xs++[v]))) (.ref D) (.lst (l++[s])) (D::(fl++fs)):=.lst AV (zO.snoc (rl.mono (zL.refl F) (ne nD)) (sr.mono (zL.refl F) (ne h2)));let a2:=up (F':=F) (H':=upd H D (.lst (xs++[v]))) (o:=⇑(.lst (l++[s]))) (u:=⇑(.ref D)) (zL.refl F) (λx M=>Al λz=>(qz.mp M).elim (λw=>h4 (z▸w)) λw=>h3 (z▸w)) (.so new .nil);rw[es]at a2;let p:(fa++((D::(fl++fs))++[]++fb)).Perm (fa++((D::fl)++fb)++(fs++[])):=by simp;show List.Perm.append_left _ (List.Perm.cons _ (List.Perm.append_left _ qQ))
   show#[zL.updR r.fr Y.1,λx o w=>?_,_,a2,p.nodup_iff.mpr nd,λx M=>ap x (by simpa using p.mem_iff.mp M)];let M:x≠D:=λz=>by rw[z,Y.2]at w;cases w
   rw[Al M];show r.gr x o w
end
section
variable{D:Addr}
def II(M:X.xe=λ_ _=>False)(h:FE X h5 we):mK X (eval h5 X.env>>=λx=>call (.builtin "list.append") [.ref D,x]>>=λ_=>pure ()) (tK X n D (bE n we)):=by
 intro z4 s σ H Q I q;let#[F,G,U,P,h2,h3,hw,h4]:=q;let hp:PassesOwn (model X.prog X.w) X.A X.env X.xe:=by rw[M];show PassesOwn.never
 have he:=h X.pn X.xe hp z4 s σ H (λv H1=>∃Z U1 t l,zL F Z/\Rel X.K (U1++[⇑t]) (σ++[⇑v]) Z G H1/\slot U1 n=⇑(.lst l)/\l.length<big/\P (U1.set n ⇑(.lst (l++[t])))) I
  #[F,G,U,_,NX,h2,hw,λr U1 v Z H1 J s1 r1 rv=>?_,Hq]
 .let L:∀e s',X.xe e s'->False:=λe s' z=>by rw[M]at z;exact z
  show qa (zz he (λu s1 zq=>?_) λe s' z=>L e s' z);show cps λ_ kk=>?_;let#[v,H1,I1,rv,Z,U1,t,l,sm,r1,hs,hz,hP]:=zq;let#[xs,hD,Y,r2]:=Rel.append r1 hs h3;show kk ?_;show qa (zz (IJ z4 s1 σ H1 (.ref D) [v] (.ref D) [u] (λw H'=>w=.non/\H'=upd H1 D (.lst (xs++[v]))) I1 rfl (.cons rv .nil) #[D,xs,v,rfl,rfl,hD,by rw[Y];show lt_trans hz ⋯,rfl,rfl]) (λw s2 zq=>?_) λe s' z=>L e s' z);let#[w',H2,I2,_,_,e2]:=zq;subst e2;show qb #[σ,_,I2,h4 _ σ Z _ hP KP.refl sm r2]
 .obtain⟨⟨t,h1⟩,eg,J⟩:=Ai J;let#[F2,s2,l2,r2]:=Ar (U':=[]) (σ':=[]) r1 (Ag r1) rv eg;split at J
  .rename_i l e;show#[F2,h1,t,l,s1.trans s2,r2,e,J.1,J.2]
  .show J.elim
def BV:hU X [] (jD X eC):=λz4 s σ H Q I q=>Tf z4 s σ H Q I (by let#[F,G,U,P,PX,v,L,J,M]:=q;show J true U F H L (zL.refl F) v)
def GD(v:X.xe=λ_ _=>False)(h:FT X c wc):hU X [c] (jD X wc):=RH (h X.pn X.xe (by rw[v];show PassesOwn.never))
def Ml(it:dW X.K J l F)(h8:Rel X.K U σ F G H)(e2:σ[n]?=⇑⇑(.ref D))
  (hw:aS g wc b l U P NX)(e4:∀U' σ' F' H',P U'->KP (List.range (n+1)) σ σ'->zL F F'->Rel X.K U' σ' F' G H'->Q σ' H'):
  gL (bc X (List.range (n+1)) g) (jD X wc) (tK X n D b) J σ H Q:=by
 let h4:∀{σ':St},KP (List.range (n+1)) σ σ'->σ'[n]?=⇑⇑(.ref D):=λk=>by rw[k n (by simp)];show e2
 show#[λi m v H2=>m=l.length-i/\i<=l.length/\∃F2 U2,KP (List.range (n+1)) σ v/\zL F F2/\Rel X.K U2 v F2 G H2/\aS g wc b (l.drop i) U2 P NX,#[l.length,by simp,zero_le _,F,U,KP.refl,zL.refl F,h8,hw],?_];rintro i m v H2 ⟨rfl,hi,F2,U2,kp,s2,r2,L⟩;let#[e1,h9]:=it i U2 v F2 G H2 s2 r2;by_cases M:i<l.length
 .obtain⟨go,h7⟩:=e1 l[i] (by simp);show .inr #[go,λY H3=>i+1<=l.length/\∃F3 h2,KP (List.range (n+1)) σ Y/\zL F F3/\Rel X.K h2 Y F3 G H3/\aS g wc b (l.drop (i+1)) h2 P NX,λY H3 h=>#[l.length-(i+1),∅,rfl,h],λy H3 hy=>?_];let#[F3,s3,r3,rp]:=h7 y H3 hy;rw[List.drop_eq_getElem_cons M]at L;show#[F3,G,U2,_,_,r3.push rp,L,λh6 hk F4 H4 e3 k4 s4 r4=>?_];let Z:=kp.trans k4;let h3:=s2.trans (s3.trans s4);show#[F4,G,h6,_,_,r4,e3,λk h1 F5 H5 h5 s5 r5=>?_,Hq];cases k with
  |true=>show#[F5,G,h1,_,r5,h4 Z,h5,λU' σ' F' H' h k' s r=>#[M,F',U',Z.trans k',h3.trans (s5.trans s),r,h]]
  |false=>show#[M,F5,h1,Z,h3.trans s5,r5,h5]
 .let e:i=l.length:=Nat.le_antisymm hi (not_lt.mp M);subst e;rw[drop_length]at L;show .inl #[h9 (zm _),e4 U2 v F2 H2 L kp s2 r2]
def Tt(hxe:X.xe=λ_ _=>False)(hi:FI X tg iter wi)(hl:jR X e d (.ref D) tg (gL (bc X (List.range (n+1)) g) (jD X wc) (tK X n D b)))
  (hs:∀x,foldedSetIterable iter X.env x=pure x)(hm:X.A.mark none=X.A)
  (hq:∀it,(Code.compLoop e d (.ref it) (.ref D) X.env).quiet=true)(hun:∀it,X.A.under (.compStart e d (.ref it) (.ref D) X.env)=X.A)
  (hden:∀it,(model X.prog X.w).den (.compStart e d (.ref it) (.ref D) X.env)=(compStart e d (.ref it) (.ref D) X.env).onRaise (λx=>do noteFrame x X.env;standAt theWindowsPlace))
  (heq:∀it,∃p,compStart e d (.ref it) (.ref D) X.env=(ask>>=λc=>if c.params.followText "comprehension-iter-twice"=true then again (.compLoop e d (.ref it) (.ref D) X.env)else
   rule "comprehension.iter-twice">>=λ_=>standAt p>>=λ_=>pyIter (.ref it)>>=λit'=>again (.compLoop e d it' (.ref D) X.env))):
  kW X (eval iter X.env>>=λx=>standAt ip>>=λ_=>foldedSetIterable iter X.env x>>=λx=>holding [x] (pyIter x)>>=λit=>runOwn (.compStart e d it (.ref D) X.env) X.env>>=λ_=>again c0) c0 (tK X n D (tF wi g wc b)):=by
 intro z4 s σ H Q I q;let#[F,G,U,P,z6,hσ,hw,hok]:=q;let hp:PassesOwn (model X.prog X.w) X.A X.env X.xe:=by rw[hxe];show PassesOwn.never
 let xe0:∀e s',X.xe e s'->False:=λe s' z=>by rw[hxe]at z;show z
 have hi':=hi X.pn X.xe hp z4 s σ H (λJ H1=>gL (bc X (List.range (n+1)) g) (jD X wc) (tK X n D b) J σ H1 Q) I
  #[F,G,U,_,NX,z6,hw,λl U1 F1 H1 J hk s1 r1 it=>Ml it r1 hσ hk λU' σ' F' H' a k s r=>hok U' σ' F' H' a k (s1.trans s) r,Hq]
 show qa (zz hi' (λx s1 h1=>?_) λe s' z=>xe0 e s' z);show qa (wpAny_standAt (qa (zy (hs x) (qa (zx (zz h1 (λitv s2 h2=>?_) λe s' z=>xe0 e s' z))))));let#[it,fp,tn,J,H2,e1,I2,T,st,f,q2]:=h2;subst e1;show qa (wpAny_runOwn ?_);show codeAny_mono (NG hl hq hun hden heq I2 T st f q2) λr s3 zq=>?_;let#[σ3,H3,er,I3,q3]:=zq;subst er;show qb #[rfl,σ3,H3,I3,q3]
end
def Nh{α:Type}{l:List α}{a:α}(h:l[n]?=⇑a):l=l.take n++a::l.drop (n+1):=by let#[v,e]:=qg.mp h;rw[<-e,<-List.drop_eq_getElem_cons v,take_append_drop]
section
variable{X:Cx}
def GG(hmk:∀(A:Around)(E:zF)(s:Shared)(Q:zF),Q (.ref s.heap.objs.size) {s with heap:=s.heap.push {cls:=.type ty,dict:=none,data:=dat}}->wpAny (model X.prog X.w) A mk Q E s)(ho:∀(H:Hp)(h:Heap),sysModules<h.objs.size->zZ X.prog X.w H (h.push {cls:=.type ty,dict:=none,data:=dat}) h.objs.size o0)(hs0:∀(F H:Hp)(p:Addr),H p=⇑o0->aK X.K F H (.ref p) s0 [p])(hcl:clausesOf e=⟨tg,iter,ifs,0⟩::gs)(hs:∀x,foldedSetIterable iter X.env x=pure x)
  (Sc:cH X.env.scope scope X.N vars)(hk:vars.length=k)(hi:FI X tg iter wi)
  (hb:∀(s:Shared)(H:Hp)(ex:List Addr)(D:Addr),jR (aF X scope vars s H ex) e 0 (.ref D) tg (gL (bc (aF X scope vars s H ex) (List.range (X.N.length+1)) g) (jD (aF X scope vars s H ex) wc) (tK (aF X scope vars s H ex) X.N.length D b)))
  (hq:∀it z9 env,(Code.compLoop e 0 (.ref it) z9 env).quiet=true)(hun:∀it z9 env,X.A.under (.compStart e 0 (.ref it) z9 env)=X.A)
  (hden:∀it z9 env,(model X.prog X.w).den (.compStart e 0 (.ref it) z9 env)=(compStart e 0 (.ref it) z9 env).onRaise (λx=>do noteFrame x env;standAt theWindowsPlace))
  (heq:∀it z9 env,∃p,compStart e 0 (.ref it) z9 env=(ask>>=λc=>if c.params.followText "comprehension-iter-twice"=true then again (.compLoop e 0 (.ref it) z9 env)else
   rule "comprehension.iter-twice">>=λ_=>standAt p>>=λ_=>pyIter (.ref it)>>=λit'=>again (.compLoop e 0 it' z9 env)))(hp:PassesOwn (model X.prog X.w) X.A X.env xe){P:WQ}(I:Inv (wp X pn xe) z4 σ H s)
  (z6:Rel X.K U σ F G H)(hw:wi U (λl U1=>aS g wc b l (U1++⇑s0::List.replicate k none) (λU2=>zK (slot U2 X.N.length) λs=>P (.v s) (U2.take X.N.length)) NX) PX)(hx:XC (wp X pn xe) (·=σ) F G PX)
  (fin:∀(D C:Addr)(s4:Shared)(H4 F4:Hp)(m:Str->Option Value)(t:S)(U4:Env),s4.heap.Ns C m->Inv (wp X pn xe) z4 σ H4 s4->H4 C=none->C≠X.env.locals->X.s₀.heap.objs.size<=C->(∀x c,X.env.cells.lookup x=⇑c->c≠C)->(∀p∈pn++z4,p.1≠C)->
   P (.v t) U4->zL F F4->Rel X.K (U4++[⇑t]) (σ++[⇑(.ref D)]) F4 G H4->compPost (model X.prog X.w) X.A xe use Q' (.ref D) C (.ok .next) s4):
  wpAny (model X.prog X.w) X.A (comprehension e scope X.env cpos mk false (eval iter X.env) use) Q' xe s:=by
 have hi':=hi pn xe hp z4 s σ H (λJ H1=>∃F1 U1 l,zL F F1/\Rel X.K U1 σ F1 G H1/\dW X.K J l F1/\
   aS g wc b l (U1++⇑s0::List.replicate k none) (λU2=>zK (slot U2 X.N.length) λs=>P (.v s) (U2.take X.N.length)) NX) I
  #[F,G,U,_,PX,z6,hw,λl U1 F1 H1 J hk s1 r1 it=>#[F1,U1,l,s1,r1,it,hk],hx]
 let hfree:∀x∈scope.names,x.2=.free->∃c,X.env.cells.lookup x.1=⇑c:=λx hx hf=>I.ok.has x.1 (Sc.fr x hx hf);show wpAny_comprehension_free (use:=use) hcl hs (WN hfree) Sc.kind (λx hx hl=>(Hn Sc.nd).mpr (by let#[a,b]:=x;let hl':b=.local:=hl;subst hl';show hx)) (zz hi' (λv s1 h1=>zz h1 (λitv s2 h2=>?_) λ_ _ z=>z) λ_ _ z=>z);show cps λ_ kk=>?_;let#[it,fp,tn,J,H2,e1,I2,T,st,f,F1,U1,l,s1',r1,ito,hk2]:=h2;show kk ?_;subst e1
 --the z9
 show hmk _ _ _ _ ?_;generalize hs3:({s2 with heap:=s2.heap.push {cls:=.type ty,dict:=none,data:=dat}}:Shared)=s3;let k23:∀b o,s2.heap.get? b=⇑o->s3.heap.get? b=⇑o:=λb o e=>by rw[<-hs3];show qc _ e
 let sz3:s3.heap.objs.size=s2.heap.objs.size+1:=by rw[<-hs3];show Heap.size_push ..
 let hD:H2 s2.heap.objs.size=none:=I2.hok.fresh (zm _);let I3:Inv (wp X pn xe) z4 σ (upd H2 s2.heap.objs.size o0) s3:=by rw[<-hs3];show I2.laid (t':=s2.toks) (λb o e=>qc _ e) (zm _) (ho _ _ I2.big)
 let r3:Rel X.K (U1++[⇑s0]) (σ++[⇑(.ref s2.heap.objs.size)]) F1 G (upd H2 s2.heap.objs.size o0):=r1.newO hD (hs0 _ _ _ AV);let fplt:∀b∈fp,b<s2.heap.objs.size:=λb hb=>by let#[o,e,_]:=T.obj _ _ st b hb;show qe e
 let fne:∀b∈fp,b≠s2.heap.objs.size:=λb hb=>ne_of_lt (fplt b hb);let f3:∀b∈fp,dX (wp X pn xe) z4 (upd H2 s2.heap.objs.size o0) b:=λb hb=>by let#[h1,h2]:=f b hb;show#[by rw[Al (fne b hb)];show h1,h2]
 show WH λh' kept hns hcl'=>?_;let I4:=Inv.comp (X:=wp X pn xe) (ex:=fp) I3 Sc (λb hb=>#[f3 b hb,by rw[sz3];show lt_succ_of_lt (fplt b hb)]) kept hns hcl' hk ⇑(.ref s2.heap.objs.size);let hσn:(σ++⇑(.ref s2.heap.objs.size)::List.replicate k none)[X.N.length]?=⇑⇑(.ref s2.heap.objs.size):=by let hl:X.N.length=σ.length:=I2.len.symm;rw[hl,getElem?_append_right (zm _),sub_self];rfl
 let r4:Rel X.K (U1++⇑s0::List.replicate k none) (σ++⇑(.ref s2.heap.objs.size)::List.replicate k none) F1 G (upd H2 s2.heap.objs.size o0):=by let:=r3.pushNs k;simpa using this
 let st4:tn 0 h':=T.keep _ _ _ st λb hb o e=>kept b o (k23 b o e);let f4:∀b∈fp,dX (aF X scope vars s3 (upd H2 s2.heap.objs.size o0) fp) [] (upd H2 s2.heap.objs.size o0) b:=λb hb=>by let#[h1,h2,h3,h4,h5,h6]:=f3 b hb;let e:=I4.ok.exf b hb;show#[h1,e.1,I4.ok.exfs b hb,.inl hb,e.2,λp hp=>absurd (show p∈([]:List (Addr×Obj)) from hp) (by simp)]
 have go:=NG (hb s3 (upd H2 s2.heap.objs.size o0) fp s2.heap.objs.size) (λit=>hq it _ _) (λit=>hun it _ _) (λit=>hden it _ _) (λit=>heq it _ _) I4 T st4 f4
  (Q:=λσ' H'=>∃F' U',zK (slot U' X.N.length) (λs=>P (.v s) (U'.take X.N.length))/\KP (List.range (X.N.length+1)) (σ++⇑(.ref s2.heap.objs.size)::List.replicate k none) σ'/\zL F1 F'/\Rel X.K U' σ' F' G H')
  (Ml ito r4 hσn hk2 λU' σ' F' H' a kp sm r=>#[F',U',a,kp,sm,r])
 show codeAny_mono go λr s4 zq=>?_;show cps λ_ kk=>?_;let#[σ4,H4,er,I5,F4,U4,hn4,kp4,sm4,r5]:=zq;subst er;let#[m,hm,_]:=id I5.loc;show kk ?_;let I6:Inv (wp X pn xe) z4 σ H4 s4:=Inv.call' (ch:=fp) I3 I5.os I5.base I5.hok I5.bare λb hb=>by let#[h1,h2,h3,h4,h5,h6]:=f3 b hb;show#[h4,h2,h5,h6]
 --the block's names go
 let#[t,et,hP]:=Ai hn4;let hl:X.N.length=σ.length:=I2.len.symm;let hσ4:σ4[X.N.length]?=⇑⇑(.ref s2.heap.objs.size):=by rw[kp4 X.N.length (by simp)];show hσn
 have eσ:σ4.take X.N.length=σ:=by
  apply ext_getElem?;intro j;by_cases hj:j<X.N.length
  .rw[List.getElem?_take_of_lt hj,kp4 j (by simp;lia -verbose),getElem?_append_left ∅]
  .rw[List.getElem?_take_eq_none (not_lt.mp hj),qT ∅]
 let e1:=Nh (NK et);let e2:=Nh hσ4;rw[e1,e2,eσ]at r5;let r6:Rel X.K ((U4.take X.N.length++[⇑t])++U4.drop (X.N.length+1)) ((σ++[⇑(.ref s2.heap.objs.size)])++σ4.drop (X.N.length+1)) F4 G H4:=↑r5
 let hlt:X.N.length<U4.length:=Es et;let ltC:∀{b:Addr}{o:Obj},s3.heap.get? b=⇑o->b≠s3.heap.objs.size:=λe=>ne_of_lt (qe e);show fin s2.heap.objs.size s3.heap.objs.size s4 H4 F4 m t (U4.take X.N.length) hm I6 I5.free (Ne.symm (ne_of_lt I3.lt)) I3.sz (λx c e z=>?_) (λp hp z=>?_) hP (s1'.trans sm4) (r6.drop (by simp;lia -verbose))
 .obtain⟨v,o,ho,_⟩:=I3.cell x c e;show ltC ho z
 .show ltC (I3.pin p hp).1 z
def HL{P:WQ}(Z:∀r U' v F' H',P r U'->zL F F'->Rel X.K (U'++[zM r]) (σ++[⇑v]) F' G H'->RV σ v r->Q v H'):
  ∀(D C:Addr)(M:Shared)(L Y:Hp)(m:Str->Option Value)(t:S)(J:Env),M.heap.Ns C m->Inv (wp X pn xe) z4 σ L M->L C=none->C≠X.env.locals->X.s₀.heap.objs.size<=C->(∀x c,X.env.cells.lookup x=⇑c->c≠C)->(∀p∈pn++z4,p.1≠C)->
   P (.v t) J->zL F Y->Rel X.K (J++[⇑t]) (σ++[⇑(.ref D)]) Y G L->compPost (model X.prog X.w) X.A xe none (EP (wp X pn xe) z4 σ Q) (.ref D) C (.ok .next) M:=
 λD C M L Y m t J hm I n1 n2 n3 n4 n5 hP sm r=>#[m,hm,λh1 sb=>#[.ref D,L,I.turned (t':=M.toks) (λb o hb e=>(sb.2 b hb).trans e) n1 n2 (.inr (Heap.get?_none_of_le n3)) n4 n5,rfl,Z (.v t) J _ Y L hP sm r trivial]]
def QG{P:WQ}{Nx:Env->Prop}(hk:i∉ks)(hN:∀j,X.N[j]?=⇑y->j=i)(hi:X.N[i]?=⇑y)(hy:X.env.scope.names.lookup y=⇑.local)
  (hP:∀s U,P (.v s) U->Nx (U.set i ⇑s))(h2:∀U' σ' F' H',Nx U'->KP ks σ σ'->zL F F'->Rel X.K U' σ' F' G H'->DD.nx σ' H'):
  ∀(D C:Addr)(Y:Shared)(L Z:Hp)(m:Str->Option Value)(t:S)(J:Env),Y.heap.Ns C m->Inv (wp X pn xe) z4 σ L Y->L C=none->C≠X.env.locals->X.s₀.heap.objs.size<=C->(∀x c,X.env.cells.lookup x=⇑c->c≠C)->(∀p∈pn++z4,p.1≠C)->
   P (.v t) J->zL F Z->Rel X.K (J++[⇑t]) (σ++[⇑(.ref D)]) Z G L->compPost (model X.prog X.w) X.A xe ⇑(assign (.Name y py) X.env) (λ_ s'=>SP (wp X pn xe) z4 DD .next s') (.ref D) C (.ok .next) Y:=
 λD C Y L Z m t J hm I n1 n2 n3 n4 n5 hp sm r=>by
  let hl:=Ag r;let M:i<J.length:=by rw[hl,I.len];show(qg.mp hi).1
  refine wpAny_assign_Name (ME (X:=wp X pn xe) (v:=.ref D) I hN hi (.inl hy) rfl (λs5 I5 zq=>?_) (.inr hy));let#[a,sb,ha]:=zq;let h3:C≠a:=by
   rcases ha with e|e
   .rw[e];show n2
   .show Ne.symm (n4 y a e)
  show#[m,hm.sameBut sb h3,λh4 h1=>#[_,L,I5.turned (t':=s5.toks) (λb o hb e=>(h1.2 b hb).trans e) n1 n2 (.inr (Heap.get?_none_of_le n3)) n4 n5,?_]];show h2 _ _ Z L (hP t J hp) (KP.set hk) sm (r.store hl M)
def GF(A:Around)(E:zF)(s:Shared)(Q:zF)(h:Q (.ref s.heap.objs.size) {s with heap:=s.heap.push {cls:=.type F,dict:=none,data:=v}})(hz:sizeOk v:=by size_fits):wpAny (model X.prog X.w) A (newObj (.type F) v) Q E s:=zt h hz
def HS(H:Hp)(h:Heap)(_:sysModules<h.objs.size):zZ X.prog X.w H (h.push {cls:=.type "list",dict:=none,data:=.seq ([]:List Value).toArray}) h.objs.size (.lst []):=#[zero_le _,[],0,.nil,qd _ rfl]
def HJ(F H:Hp)(p:Addr)(e:H p=⇑(.lst [])):aK X.K F H (.ref p) (.lst []) [p]:=.lst e .nil
def Dg(hn:X.N.length=n)(hc:X.calm=true)(Sc:cH X.env.scope scope X.N vars)(hk:vars.length=k)(hi:FI X tg iter Y)
  (hg:∀s H ex,FG (aF X scope vars s H ex) (List.range (n+1)) tg g)(ht:∀s H ex,hU (aF X scope vars s H ex) J (jD (aF X scope vars s H ex) wc))(he:∀s H ex,FE (aF X scope vars s H ex) M Z)
  (hs:∀x,foldedSetIterable iter X.env x=pure x:=by intro _;rfl):FE X (.ListComp M [#[tg,iter,J,0]] scope pos) (hX n k Y g wc (bE n Z)):=by
 subst hn;intro pn xe hp z4 s σ H Q I q;let#[F,G,U,P,PX,v,hw,L,hx]:=q;show GG (λA E s Q h=>GF A E s Q h) (s0:=.lst []) HS HJ rfl hs Sc hk hi (λs H ex D=>?_) (λ_ _ _=>rfl) (λ_ _ _=>rfl) (λ_ _ _=>rfl) (λ_ _ _=>#[_,rfl]) hp I v hw hx (HL L);show FB (X:=aF X scope vars s H ex) hc rfl (hg s H ex [] (λ_ _=>False) PassesOwn.never) (ht s H ex) (λ_=>(II (X:=aF X scope vars s H ex) rfl (he s H ex)).f) (λ_=>rfl) (λ_=>rfl) (λ_=>rfl) (λ_=>rfl)
def Fz(Z:i∉ks)(hN:∀j,X.N[j]?=⇑y->j=i)(h1:X.N[i]?=⇑y)(hy:X.env.scope.names.lookup y=⇑.local)
  (Y:swapsWith (.ListComp L [#[tg,iter,J,0]] scope pos) ⇑(.Name y py) spos.line X.env=pure true)
  (hn:X.N.length=n)(hc:X.calm=true)(Sc:cH X.env.scope scope X.N vars)(hk:vars.length=k)(hi:FI X tg iter wi)
  (hg:∀s H ex,FG (aF X scope vars s H ex) (List.range (n+1)) tg g)(ht:∀s H ex,hU (aF X scope vars s H ex) J (jD (aF X scope vars s H ex) wc))(he:∀s H ex,FE (aF X scope vars s H ex) L we)
  (hs:∀x,foldedSetIterable iter X.env x=pure x:=by intro _;rfl):FS X ks (.Assign [.Name y py] (.ListComp L [#[tg,iter,J,0]] scope pos) spos) (zU (zJ i) (hX n k wi g wc (bE n we))):=by
 subst hn;intro pn xe hp z4 s σ H D I q;rw[exec_Assign_Name_used _ _ _ _ Y];show qa (wpAny_standAt (qa ?_));let#[F,G,U,E,M,hw,n,b,c,r,x]:=q;refine qa (zz (GG (λA E s Q h=>GF A E s Q h) (s0:=.lst []) (P:=λr v=>zK (give r v) λp=>zJ i p.1 p.2 E.nx) (PX:=E.ex) (g:=g) (wc:=wc) (b:=bE X.N.length we) (Q':=λ_ s'=>SP (wp X pn xe) z4 D .next s') HS HJ rfl hs Sc hk hi (λs H ex D=>?_) (λ_ _ _=>rfl) (λ_ _ _=>rfl) (λ_ _ _=>rfl) (λ_ _ _=>#[_,rfl]) hp I M hw (x.mono (λh2 z=>by rw[z];show KP.refl) (zL.refl F) (zL.refl G))
  (QG (P:=λr v=>zK (give r v) λp=>zJ i p.1 p.2 E.nx) (Nx:=E.nx) Z hN h1 hy (λs U h=>h) n)) (λ_ s' hq=>qb (qb hq)) λ_ _ e=>e)
 show FB (X:=aF X scope vars s H ex) hc rfl (hg s H ex [] (λ_ _=>False) PassesOwn.never) (ht s H ex) (λ_=>(II (X:=aF X scope vars s H ex) rfl (he s H ex)).f) (λ_=>rfl) (λ_=>rfl) (λ_=>rfl) (λ_=>rfl)
set_option maxHeartbeats 4000000 in
def OQ(hn:X.N.length=n)(hm:X.A.mark none=X.A)(hc:X.calm=true)(Sc:cH X.env.scope scope X.N vars)(hk:vars.length=k)(hi:FI X tg iter wi)
  (hg:∀s H ex,FG (aF X scope vars s H ex) (List.range (n+1)) tg g)(ht:∀s H ex,hU (aF X scope vars s H ex) J (jD (aF X scope vars s H ex) wc))
  (h4:∀s H ex,FI (aF X scope vars s H ex) v iter2 M)(h5:∀s H ex,FG (aF X scope vars s H ex) (List.range (n+1)) v g2)(h1:∀s H ex,hU (aF X scope vars s H ex) ifs2 (jD (aF X scope vars s H ex) Y))
  (he:∀s H ex,FE (aF X scope vars s H ex) L we)
  (hs:∀x,foldedSetIterable iter X.env x=pure x:=by intro _;rfl)(h2:∀env x,foldedSetIterable iter2 env x=pure x:=by intro _ _;rfl):FE X (.ListComp L [#[tg,iter,J,0],#[v,iter2,ifs2,0]] scope pos) (hX n k wi g wc (tF M g2 Y (bE n we))):=by
 subst hn;intro pn xe hp z4 s σ H Q I q;let#[F,G,U,P,PX,Z,hw,h3,hx]:=q;show GG (λA E s Q h=>GF A E s Q h) (s0:=.lst []) HS HJ rfl hs Sc hk hi (λs H ex D=>?_) (λ_ _ _=>rfl) (λ_ _ _=>rfl) (λ_ _ _=>rfl) (λ_ _ _=>#[_,rfl]) hp I Z hw hx (HL h3);let Bi:jR (aF X scope vars s H ex) (.ListComp L [#[tg,iter,J,0],#[v,iter2,ifs2,0]] scope pos) 1 (.ref D) v _:=
  FB (X:=aF X scope vars s H ex) hc rfl (h5 s H ex [] (λ_ _=>False) PassesOwn.never) (h1 s H ex) (λ_=>(II (X:=aF X scope vars s H ex) (n:=X.N.length) rfl (he s H ex)).f) (λ_=>rfl) (λ_=>rfl) (λ_=>rfl) (λ_=>rfl)
 show FB (X:=aF X scope vars s H ex) hc rfl (hg s H ex [] (λ_ _=>False) PassesOwn.never) (ht s H ex) (λ_=>Tt (X:=aF X scope vars s H ex) rfl (h4 s H ex) Bi (h2 _) hm (λ_=>rfl) (λ_=>rfl) (λ_=>rfl) (λ_=>#[_,rfl])) (λ_=>rfl) (λ_=>rfl) (λ_=>rfl) (λ_=>rfl)
end
section
variable{K:W.Frag}
def Er{x:Str}(e:x.cps.toList=l):x.length=l.length:=by rw[<-e];rfl
def QQ{x y:Str}(e:x.cps.toList=l)(v:y.cps.toList=m):(x++y).cps.toList=l++m:=by show(x.cps++y.cps).toList=_;rw[toList_append,e,v]
def bJ.int(h:bJ K F H v (.int i)):v=.int i:=by
 rcases h with h|⟨_,_,_,_,h,_⟩|⟨_,_,_,_,_,h,_⟩|⟨_,_,_,_,_,h,_⟩
 .cases h;rfl
 .cases h
 .cases h
 .cases h
def bJ.str(h:bJ K F H v (.str l)):∃x,v=.str x/\x.cps.toList=l/\l.length<=16777216:=by
 rcases h with h|⟨_,_,_,_,h,_⟩|⟨_,_,_,_,_,h,_⟩|⟨_,_,_,_,_,h,_⟩
 .cases h with
  |str e z=>show#[_,rfl,e,z]
 .cases h
 .cases h
 .cases h
def bJ.tup(h:bJ K F H v (.tup l)):∃a xs,v=.ref a/\F a=⇑(.tup xs)/\zY K F xs l:=by
 rcases h with h|⟨_,_,_,_,h,_⟩|⟨_,_,_,_,_,h,_⟩|⟨_,_,_,_,_,h,_⟩
 .cases h with
  |tup e r=>show#[_,_,rfl,e,r]
 .cases h
 .cases h
 .cases h
def bJ.lst(G:zL F H)(h:bJ K F H v (.lst l)):∃a xs,v=.ref a/\bO K H a xs/\zY K F xs l:=by
 rcases h with h|⟨a,xs,M,L,h,J,r⟩|⟨_,_,_,_,_,h,_⟩|⟨_,_,_,_,_,h,_⟩
 .cases h with
  |lst e r=>show#[_,_,rfl,bO.mono G e,r]
 .cases h;show#[a,xs,L,bO.of J,r]
 .cases h
 .cases h
def zY.append(a:zY K F xs l)(r:zY K F ys m):zY K F (xs++ys) (l++m):=zY.ind (P:=λxs l=>zY K F (xs++ys) (l++m)) r (λa _ v=>.cons a v) a
def Rel.newLD(r:Rel K U σ F G H)(M:H p=none)(J:zY K F xs l):Rel K (U++[⇑(.lst (l.map .sh))]) (σ++[⇑(.ref p)]) F G (upd H p (.lst xs)):=by
 have v:∀{xs:List V}{l:List D},zY K F xs l->zO K F (upd H p (.lst xs)) xs (l.map .sh) []:=by
  intro xs l h;generalize upd H p (.lst xs)=H';induction xs generalizing l with
  |nil=>cases h;show .nil
  |cons x xs L=>cases h with
   |cons a b=>have:=zO.cons (aK.sh (H:=H') a) (L b);show this
 show r.newO M (.lst AV ?_);let:=v J;show this
def tT(K:W.Frag):R2:=λx y H Q=>∃l b xs v,x=.ref l/\y=.ref b/\bO K H l xs/\bO K H b v/\xs.length+v.length<=sizeLine/\∀p,H p=none->Q (.ref p) (upd H p (.lst (xs++v)))
def Rl:OpR X (binaryOp .Add) (tT X.K):=by
 intro z4 s σ H x y v u Q I rx ry h;let#[l,b,xs,zs,rfl,rfl,hl,hb,hz,q]:=h;cases rx;cases ry;let#[G,r1,#[#[cls,dd,data,sl],n,ho,hc,Z,hd],_]:=I.list hl;let#[F,r2,#[#[h2,h3,data2,M],n2,J,h1,L,Y],_]:=I.list hb;subst hc Z hd h1 L Y;show concat_meets #[_,ho,rfl] #[_,J,rfl] noFill_list_add seq_list_add PySem.F.slot_list_add PySem.F.entry_list_add (PySem.F.args_list_add_2 _ _) (list_addW l b G.toArray F.toArray n n2 none none sl M (by rw[qr,qr,<-r1.length,<-r2.length];show hz)) #[ho,J,?_];let ea:G.toArray++F.toArray=(G++F).toArray:=by simp
 rw[ea];show#[.ref _,_,I.lnew (t':=s.toks) (r1.append r2) (by rw[qq];show hz),rfl,q _ I.fresh]
def oH(K:W.Frag):R2:=λx y H Q=>∃a b xs ys,x=.ref a/\y=.ref b/\bF K H a xs/\bF K H b ys/\xs.length+ys.length<=sizeLine/\
 (xs=[]->Q (.ref b) H)/\(xs≠[]->ys=[]->Q (.ref a) H)/\(xs≠[]->ys≠[]->∀p,H p=none->Q (.ref p) (upd H p (.tup (xs++ys))))
def So:OpR X (binaryOp .Add) (oH X.K):=by
 intro z4 s σ H x y v u Q I rx ry h;let#[a,b,xs,ys,rfl,rfl,ha,hb,hz,q0,q1,q2]:=h;by_cases J:xs=[]
 .cases rx;cases ry;let#[G,r1,p1,_]:=I.tuple ha;let#[F,r2,p2,_]:=I.tuple hb;let#[#[cls,dd,data,sl],ho,hc,n,hd]:=id p1;let#[#[h2,h1,data2,M],L,Z,n2,Y]:=id p2;subst hc hd Z Y;let hi:G=[]:=r1.nil_iff.mpr J;exact concat_meets #[_,ho,rfl] #[_,L,rfl] noFill_tuple_add seq_tuple_add PySem.F.slot_tuple_add PySem.F.entry_tuple_add (PySem.F.args_tuple_add_2 _ _)
   (tuple_addW0 a b G.toArray F.toArray n n2 dd h1 sl M (by simp[hi])) #[ho,L,.ref b,H,I,rfl,q0 J]
 .show QH z4 s σ H _ _ v u Q I rx ry #[a,b,xs,ys,rfl,rfl,ha,hb,J,hz,q1 J,q2 J]
def rY:R2:=λx y H Q=>∃i j,x=.str i/\y=.str j/\i.length+j.length<=sizeLine/\Q (.str (i++j)) H
def lW(K:W.Frag):R2:=λx y H Q=>tS (λi j=>.int (i+j)) x y H Q\/(rY x y H Q\/(tT K x y H Q\/oH K x y H Q))
def UY:OpR X (binaryOp .Add) (lW X.K):=OpR.or OV (OpR.or Vt (OpR.or Rl So))
def Hc(h:n<=big):n<=sizeLine:=by rw[zv];show le_trans h ⋯
def Tn:jC K (lW K) aQ:=by
 intro σ U F G H x y p q s Q v ex ey e M;unfold aQ at e;split at e
 .cases e;let h1:=ex.int;let h2:=ey.int;subst h1 h2;show .inl #[_,_,rfl,rfl,M _ F H (zL.refl F) (v.push (.int _))]
 .rename_i a b;split at e
  .rename_i Y;cases e;let#[x,rfl,e1,z1]:=ex.str;let#[y,rfl,e2,z2]:=ey.str;show .inr (.inl #[_,_,rfl,rfl,by rw[Er e1,Er e2];show Hc Y,M _ F H (zL.refl F) (v.push (.str (QQ e1 e2) (by rw[qq];show le_trans Y ⋯)))])
  .cases e
 .rename_i a b;split at e
  .rename_i Y;cases e;let#[l,xs,rfl,h1,L]:=ex.lst v.fr;let#[m,ys,rfl,h2,J]:=ey.lst v.fr;show .inr (.inr (.inl #[l,m,xs,ys,rfl,rfl,h1,h2,by rw[L.len,J.len];show Hc Y,λp Z=>?_]));show M _ F _ (zL.refl F) (v.newLD Z (L.append J))
  .cases e
 .rename_i a b;split at e
  .rename_i Y;cases e;let#[l,xs,rfl,h1,L]:=ex.tup;let#[m,ys,rfl,h2,J]:=ey.tup;refine .inr (.inr (.inr #[l,m,xs,ys,rfl,rfl,bF.of (v.fr _ _ h1),bF.of (v.fr _ _ h2),by rw[L.len,J.len];show Hc Y,λhx=>?_,λ_ hy=>?_,λ_ _ p Z=>?_]))
   .subst hx;cases L;show M _ F H (zL.refl F) (v.push (.tup h2 J))
   .subst hy;cases J;rw[qB]at M;show M _ F H (zL.refl F) (v.push (.tup h1 L))
   .let n2:=(v.free Z).1;show M _ _ _ (zL.upd n2) ((v.newF Z).push (.tup AV ((L.append J).mono (zL.upd n2))))
  .cases e
 .cases e
def Fg{g:Int->Int->Int}(L:∀p q s,o p q=⇑s->∃i j,p=.int i/\q=.int j/\C i j/\s=.sh (.int (g i j))):jC K (rI C λi j=>.int (g i j)) o:=by intro σ U F G H x y p q s Q v ex Y e J;let#[i,j,rfl,rfl,M,rfl]:=L p q s e;let h1:=ex.int;let h2:=Y.int;subst h1 h2;show#[i,j,rfl,rfl,M,J _ F H (zL.refl F) (v.push (.int _))]
def TJ:jC K (rI (λ_ _=>True) λi j=>.int (i-j)) dQ:=Fg λp q s e=>by
 unfold dQ at e;split at e
 .cases e;show#[_,_,rfl,rfl,trivial,rfl]
 .cases e
def Qu:OpR X (binaryOp .Sub) (rI (λ_ _=>True) λi j=>.int (i-j)):=FO λ_ _ _ _ _ _ _ _ q=>sub_int q
def RO:jC K (rI pH λi j=>.int (i*j)) oJ:=Fg λp q s e=>by
 unfold oJ at e;split at e
 .rename_i i j;split at e
  .rename_i h;cases e;show#[_,_,rfl,rfl,?_,rfl];simp[lX,or_eq_true,and_eq_true,qW]at h;show h
  .cases e
 .cases e
def RE:jC K (rI (λ_ j=>0<j) λi j=>.int (i %j)) fE:=Fg λp q s e=>by
 unfold fE at e;split at e
 .split at e
  .rename_i h;cases e;show#[_,_,rfl,rfl,h,rfl]
  .cases e
 .cases e
def RR:jC K (rI iz λi j=>.int (i^j.toNat)) oI:=Fg λp q s e=>by
 unfold oI at e;split at e
 .split at e
  .rename_i h;cases e;show#[_,_,rfl,rfl,#[h.1,∅,h.2.2],rfl]
  .cases e
 .cases e
def uE(i j:Int):Prop:=0<j/\j<18446744073709551616
def TC:OpR X (binaryOp .FloorDiv) (rI uE λi j=>.int (i/j)):=FO λi j _ _ _ _ _ v q=>by
 let h1:(0:Int)<j:=v.1;let h2:j<18446744073709551616:=v.2;show floordiv_int ∅ ?_ (.inl (PyProof.noPylong_of_log2 ?_))
 .rw[Int.fdiv_eq_ediv_of_nonneg _ ∅];show q
 .let F:j.natAbs≠0:=by lia
  let:j.natAbs.log2<64:=(Nat.log2_lt F).mpr ∅;lia
def Uj:jC K (rI uE λi j=>.int (i/j)) iB:=Fg λp q s e=>by
 unfold iB at e;split at e
 .split at e
  .rename_i h;cases e;show#[_,_,rfl,rfl,h,rfl]
  .cases e
 .cases e
end
def Au(F:FE X a wa)(v:FE X b wb):FE X (.BinOp a .Add b pos) (zR aQ wa wb):=Ej (λ_ _=>UY) Tn F v
def Cf(F:FE X a wa)(v:FE X b wb):FE X (.BinOp a .Sub b pos) (zR dQ wa wb):=Ej (λ_ _=>Qu) TJ F v
def Dy(F:FE X a wa)(v:FE X b wb):FE X (.BinOp a .Mod b pos) (zR fE wa wb):=Ej (λ_ _=>Pg) RE F v
def Kv(F:FE X a wa)(v:FE X b wb):FE X (.BinOp a .FloorDiv b pos) (zR iB wa wb):=Ej (λ_ _=>TC) Uj F v
def Pa(F:FE X a wa)(v:FE X b wb):FE X (.BinOp a .Pow b pos) (zR oI wa wb):=Ej (λ_ _=>Px) RR F v
section
open PySem.SeqAt
def UU(h:aY (.tup l) (.tup m)=false):bI l m=false:=h
def GP:∀{l m:List D}{j:Nat}{a b:D},bI l m=false->l[j]?=⇑a->m[j]?=⇑b->aY a b=false
 |[],_,_,_,_,_,h,_=>by simp at h
 |_::_,[],_,_,_,_,_,h=>by simp at h
 |x::l,y::m,0,a,b,h,h1,h2=>by simp at h1 h2;subst h1 h2;let h':(aY x y||bI l m)=false:=h;rw[Bool.or_eq_false_iff]at h';show h'.1
 |x::l,y::m,j+1,a,b,h,h1,h2=>by let h':(aY x y||bI l m)=false:=h;rw[Bool.or_eq_false_iff]at h';show GP h'.2 h1 ↑h2
def GI:∀{l:List D}{j:Nat}{a:D},l[j]?=⇑a->fL a<=bD l
 |[],_,_,h=>by simp at h
 |x::l,0,a,h=>by simp at h;subst h;show fL x<=max (fL x) (bD l);lia
 |x::l,j+1,a,h=>by let:=GI (l:=l) (j:=j) (a:=a) h;show fL a<=max (fL x) (bD l);lia
open Classical in
def Gu{l m:List D}(n:Nat)(hn:n=min l.length m.length):((List.range n).all (λj=>↥(l[j]?=m[j]?))&&(l.length==m.length))=↥(l=m):=by
 by_cases h:l=m
 .subst h;simp
 .rw[qV h];by_cases v:l.length=m.length
  .have:(List.range n).all (λj=>↥(l[j]?=m[j]?))=false:=by
    cases q:(List.range n).all (λj=>↥(l[j]?=m[j]?))with
    |false=>rfl
    |true=>
     exfalso;apply h;apply ext_getElem?;intro j;by_cases F:j<n
     .show qX (qL.mp q j ↑F)
     .rw[qT ∅,qT ∅]
   rw[this];rfl
  .let:(l.length==m.length)=false:=by simpa using v
   rw[this,Bool.and_false]
inductive Sc:V->D->Prop
 |non:Sc .non .non
 |bl (b:Bool):Sc (.bl b) (.bl b)
 |int (i:Int):Sc (.int i) (.int i)
 |str {x:Str} {l:List Nat}:x.cps.toList=l->Sc (.str x) (.str l)
def JG{K:W.Frag}(r:aR K H v d)(F:aY d e=false)(h1:∀l,d≠.tup l)(h2:∀l,d≠.lst l):Sc v d:=by
 cases r with
 |tup=>show absurd rfl (h1 _)
 |lst=>show absurd rfl (h2 _)
 |dK=>cases e<;>cases F
 |dT=>cases e<;>cases F
 |st=>cases e<;>cases F
 |exc=>cases e<;>cases F
 |non=>show .non
 |bl=>show .bl _
 |int=>show .int _
 |str e _=>show .str e
def Ks{K:W.Frag}(r:aR K H u e)(s:Sc v d)(F:aY d e=false):Sc u e:=by
 cases r with
 |non=>show .non
 |bl=>show .bl _
 |int=>show .int _
 |str e _=>show .str e
 |_=>cases s<;>cases F
open Classical in
def KR{K:W.Frag}(r1:aR K H v d)(r2:aR K H u e)(J:zP v Y)(F:zP u Z)(L:aY d e=false)(h1:∀l,d≠.tup l)(h2:∀l,d≠.lst l):
  EqAt A s Y Z ↥(d=e)/\RcAt A s Y Z ↥(d=e):=by
 let s1:=JG r1 L h1 h2;let G:=Ks r2 s1 L
 clear r1 r2 h1 h2
 cases s1 with
 |non=>
  cases J;cases G with
  |non=>cases F;simp;show#[EqAt.same _,RcAt.none_none]
  |bl b=>cases F;simp;show#[EqAt.none_bool _,RcAt.none_bool _]
  |int i=>let#[t,rfl]:=F;simp;show#[EqAt.none_int _ _,RcAt.none_int _ _]
  |str e=>let#[t,rfl]:=F;simp;show#[EqAt.none_str _ _,RcAt.none_str _ _]
 |bl a=>
  cases J;cases G with
  |non=>cases F;simp;show#[EqAt.bool_none _,RcAt.bool_none _]
  |bl b=>
   cases F;let e:↥(D.bl a=D.bl b)=(a==b):=by cases a<;>cases b<;>simp
   rw[e];show#[EqAt.bool_bool _ _,RcAt.bool_bool _ _]
  |str e=>let#[t,rfl]:=F;simp;show#[EqAt.bool_str _ _ _,RcAt.bool_str _ _ _]
  |int=>cases L
 |int i=>
  let#[t,rfl]:=J;cases G with
  |non=>cases F;simp;show#[EqAt.int_none _ _,RcAt.int_none _ _]
  |int j=>
   let#[M,rfl]:=F;let e:↥(D.int i=D.int j)=(i==j):=by by_cases h:i=j<;>simp[h]
   rw[e];show#[EqAt.int_int _ _ _ _,RcAt.int_int _ _ _ _]
  |str e=>let#[M,rfl]:=F;simp;show#[EqAt.int_str _ _ _ _,RcAt.int_str _ _ _ _]
  |bl=>cases L
 |str e1=>
  let#[t,rfl]:=J;cases G with
  |non=>cases F;simp;show#[EqAt.str_none _ _,RcAt.str_none _ _]
  |bl b=>cases F;simp;show#[EqAt.str_bool _ _ _,RcAt.str_bool _ _ _]
  |int j=>let#[M,rfl]:=F;simp;show#[EqAt.str_int _ _ _ _,RcAt.str_int _ _ _ _]
  |str e2=>
   obtain⟨M,rfl⟩:=F;rename_i x l y m;let e:↥(D.str l=D.str m)=(x==y):=by
    by_cases h:x=y
    .subst h;rw[<-e1,<-e2];simp
    .let hb:(x==y)=false:=by simpa using h
     rw[hb];show qV λq=>h ?_;let#[#[a]]:=x;let#[#[b]]:=y;let a1:a=l:=e1;let b1:b=m:=e2;rw[a1,b1,D.str.inj q]
   rw[e];show#[EqAt.str_str _ _ _ _,RcAt.str_str _ _ _ _]
def Ec(r:zX xs us)(h:j<us.toArray.size):∃x,xs[j]?=⇑x/\zP x us.toArray[j]:=by
 let J:=r.length;let L:j<us.length:=h;let G:j<xs.length:=∅
 let#[u,F,v]:=r.get (i:=j) (x:=xs[j]) (by simp);show#[xs[j],by simp,?_];let:us.toArray[j]=u:=by let:=qg.mp F;simpa using this.2
 rw[this];show v
mutual
theorem aR.uniq(I:Inv X z4 σ H s)(r:aR X.K H v d)(q:aR X.K H v e)(F:aY d e=false):d=e:=by
 cases r with
 |non=>cases q;rfl
 |bl _=>cases q;rfl
 |int _=>cases q;rfl
 |str J _=>cases q with|str G _=>rw[<-J,<-G]
 |tup J M=>cases q with
  |tup G L=>cases I.tuple_inj (bF.of J) (bF.of G);rw[zY.uniq I M L F]
  |_=>cases F
 |lst J M=>cases q with
  |lst G L=>cases I.list_inj J G;rw[zY.uniq I M L F]
  |_=>cases F
 |dK=>cases e<;>cases F
 |dT=>cases e<;>cases F
 |st=>cases e<;>cases F
 |exc=>cases e<;>cases F
theorem zY.uniq(I:Inv X z4 σ H s)(r:zY X.K H v d)(q:zY X.K H v e)(F:bI d e=false):d=e:=by
 cases r with
 |nil=>cases q;rfl
 |@cons _ a _ l a1 J=>cases q with
  |@cons _ b _ m a2 G=>have h':(aY a b||bI l m)=false:=F;rw[Bool.or_eq_false_iff]at h';rw[aR.uniq I a1 a2 h'.1,zY.uniq I J G h'.2]
end
open Classical in
def Hw:∀(n:Nat){A:Around}{v u:V}{vv uu:Value}{d e:D},fL d<=n->Inv X z4 σ H s->aR X.K H v d->aR X.K H u e->zP v vv->zP u uu->aY d e=false->A.units+n<cLine->
  EqAt A s vv uu ↥(d=e)/\RcAt A s vv uu ↥(d=e):=by
 intro n;induction n with
 |zero=>intro A v u vv uu d e hd I r1 r2 rv ru hc hu;show KR r1 r2 rv ru hc (λl z=>by subst z;show absurd hd (by show¬bD l+1<=0;lia)) (λl z=>by subst z;show absurd hd (by show¬bD l+1<=0;lia))
 |succ n ih=>
  intro A v u vv uu d e hd I r1 r2 rv ru hc hu;let hk:A.in1.units+n<cLine:=by show A.units+1+n<cLine;lia
  cases r1 with
  |tup e1 q1=>
   cases r2 with
   |tup e2 q2=>
    rename_i a xs l b ys m;cases rv;cases ru;let#[J,w1,p1,_]:=I.tuple (bF.of e1);let#[F,w2,p2,_]:=I.tuple (bF.of e2);let h9:bD l<=n:=by let:bD l+1<=n+1:=hd;lia
    let h5:J.toArray.size=l.length:=by rw[qr,<-w1.length,q1.len]
    let e4:F.toArray.size=m.length:=by rw[qr,<-w2.length,q2.len]
    have items:∀j(h1:j<J.toArray.size)(h2:j<F.toArray.size),EqAt A.in1 s J.toArray[j] F.toArray[j] ↥(l[j]?=m[j]?):=λj h1 h2=>by
     let#[x,hx,rx]:=Ec w1 h1;let#[y,hy,ry]:=Ec w2 h2;let G:j<l.length:=∅
     let L:j<m.length:=∅
     let#[x',Y,h7]:=q1.get (i:=j) (d:=l[j]) (by simp[G]);let#[y',M,h6]:=q2.get (i:=j) (d:=m[j]) (by simp[L]);rw[hx]at Y;cases Y;rw[hy]at M;cases M;let:=(ih (A:=A.in1) (le_trans (GI (l:=l) (j:=j) (by simp[G])) h9) I h7 h6 rx ry (GP (j:=j) (a:=l[j]) (b:=m[j]) (UU hc) (by simp[G]) (by simp[L])) hk).1;let e:↥(l[j]?=m[j]?)=↥(l[j]=m[j]):=by simp[G,L]
     rw[e];show this
    have Z:RcAt A s (.ref a) (.ref b) ↥(D.tup l=D.tup m):=by
     let:=RcAt.tuples (s:=s) (show s.heap.IsTuple a J.toArray from p1) (show s.heap.IsTuple b F.toArray from p2) ∅ items;rw[h5,e4,Gu (l:=l) (m:=m) _ rfl]at this;let e:↥(D.tup l=D.tup m)=↥(l=m):=by by_cases h:l=m<;>simp[h]
     rw[e];show this
    show#[?_,Z];by_cases h4:a=b
    .subst h4;let h8:l=m:=by let z:=aR.uniq I (.tup e1 q1) (.tup e2 q2) hc;cases z;rfl
     subst h8;simp;show EqAt.same _
    .show EqAt.of_refs h4 Z
   |_=>cases hc
  |lst e1 q1=>
   cases r2 with
   |lst e2 q2=>
    rename_i a xs l b ys m;cases rv;cases ru;let#[J,w1,p1,_]:=I.list e1;let#[F,w2,p2,_]:=I.list e2;let h9:bD l<=n:=by let:bD l+1<=n+1:=hd;lia
    let h5:J.toArray.size=l.length:=by rw[qr,<-w1.length,q1.len]
    let e4:F.toArray.size=m.length:=by rw[qr,<-w2.length,q2.len]
    have items:∀j(h1:j<J.toArray.size)(h2:j<F.toArray.size),EqAt A.in1 s J.toArray[j] F.toArray[j] ↥(l[j]?=m[j]?):=λj h1 h2=>by
     let#[x,hx,rx]:=Ec w1 h1;let#[y,hy,ry]:=Ec w2 h2;let G:j<l.length:=∅
     let L:j<m.length:=∅
     let#[x',Y,h7]:=q1.get (i:=j) (d:=l[j]) (by simp[G]);let#[y',M,h6]:=q2.get (i:=j) (d:=m[j]) (by simp[L]);rw[hx]at Y;cases Y;rw[hy]at M;cases M;let hp:bI l m=false:=hc;let:=(ih (A:=A.in1) (le_trans (GI (l:=l) (j:=j) (by simp[G])) h9) I h7 h6 rx ry (GP (j:=j) (a:=l[j]) (b:=m[j]) hp (by simp[G]) (by simp[L])) hk).1;let e:↥(l[j]?=m[j]?)=↥(l[j]=m[j]):=by simp[G,L]
     rw[e];show this
    have Z:RcAt A s (.ref a) (.ref b) ↥(D.lst l=D.lst m):=by
     let e:↥(D.lst l=D.lst m)=↥(l=m):=by by_cases h:l=m<;>simp[h]
     rw[e];by_cases h3:l.length=m.length
     .let:=RcAt.lists (s:=s) p1.isList p2.isList ∅ ∅ items;rw[h5]at this;let e2:=Gu (l:=l) (m:=m) l.length ∅;let e3:(l.length==m.length)=true:=by simpa using h3
      rw[e3,Bool.and_true]at e2;rw[<-e2];show this
     .let:=RcAt.lists_lengths (A:=A) (s:=s) p1.isList p2.isList (by simp only[h5,e4];simpa using h3) ∅;let e2:↥(l=m)=false:=qV λz=>h3 (by rw[z]);rw[e2];show this
    show#[?_,Z];by_cases h4:a=b
    .subst h4;let h8:l=m:=by let z:=aR.uniq I (.lst e1 q1) (.lst e2 q2) hc;cases z;rfl
     subst h8;simp;show EqAt.same _
    .show EqAt.of_refs h4 Z
   |_=>cases hc
  |_=>show KR (by first|show .non|show .bl _|show .int _|(rename_i e z;show .str e z)|(rename_i e k r;show .dK e k r)|(rename_i e k r;show .dT e k r)|(rename_i e r;show .st e r)|(rename_i e k z;show .exc e k z)) r2 rv ru hc (λl z=>by cases z) (λl z=>by cases z)
end
section
variable{K:W.Frag}
open PySem.SeqAt
open Classical in
def dn(K:W.Frag):R2:=λx y H Q=>∃p q,aR K H x p/\aR K H y q/\aY p q=false/\fL p<=30/\Q (.bl ↥(p=q)) H
def Cu(hu:X.A.units+31<cLine):OpR X (compareOp .Eq) (dn X.K):=by intro z4 s σ H x y v u Q I G F h;let#[p,q,L,J,Z,Y,M]:=h;show(Hw 30 Y I L J G F Z ∅).2 X.prog X.w X.xe _ #[.bl _,H,I,rfl,M]
def Ko(h:eK p q=⇑k):aY p q=false/\fL p<=30:=by grind[eK]
open Classical in
def KS(h:eK p q=⇑k):k=↥(p=q):=by
 unfold eK at h;split at h
 .cases h
 .show(qf h).symm
def CA:cR K (dn K) eK:=by intro H x y p q k Q F v e G;let#[h1,h2]:=Ko e;let:=KS e;subst this;show#[p,q,F,v,h1,h2,G]
open Classical in
def wG(K:W.Frag):R2:=λx y H Q=>∃p q,aR K H x p/\aR K H y q/\aY p q=false/\fL p<=30/\Q (.bl (!decide (p=q))) H
def LS(I:Inv X z4 σ H s)(q1:zY X.K H xs l)(q2:zY X.K H ys m)(w1:zX xs us)(Z:zX ys L)(hc:bI l m=false)(hd:bD l<=30)(hu:A.units+30<cLine):
  ∀j(h1:j<us.toArray.size)(h2:j<L.toArray.size),EqAt A s us.toArray[j] L.toArray[j] (open Classical in ↥(l[j]?=m[j]?)):=λj h1 h2=>by
 let#[x,hx,rx]:=Ec w1 h1;let#[y,hy,ry]:=Ec Z h2;let h4:us.toArray.size=l.length:=by rw[qr,<-w1.length,q1.len]
 let h3:L.toArray.size=m.length:=by rw[qr,<-Z.length,q2.len]
 let J:j<l.length:=∅
 let G:j<m.length:=∅
 let#[x',F,Y]:=q1.get (i:=j) (d:=l[j]) (by simp);let#[y',v,M]:=q2.get (i:=j) (d:=m[j]) (by simp);rw[hx]at F;cases F;rw[hy]at v;cases v;let:=(Hw 30 (A:=A) (le_trans (GI (l:=l) (j:=j) (by simp)) hd) I Y M rx ry (GP (j:=j) (a:=l[j]) (b:=m[j]) hc (by simp[J]) (by simp[G])) hu).1;let e:(open Classical in ↥(l[j]?=m[j]?))=(open Classical in ↥(l[j]=m[j])):=by simp[J,G]
 rw[e];show this
def Gh(p:D):(∃l,p=.tup l)\/(∃l,p=.lst l)\/((∀l,p≠.tup l)/\∀l,p≠.lst l):=by
 cases p with
 |tup l=>show .inl #[l,rfl]
 |lst l=>show .inr (.inl #[l,rfl])
 |_=>show .inr (.inr #[λl z=>D.noConfusion z,λl z=>D.noConfusion z])
def Qw(h:aY (.tup l) q=false):∃m,q=.tup m:=by
 cases q with
 |tup m=>show#[m,rfl]
 |_=>cases h
def Ra(h:aY (.lst l) q=false):∃m,q=.lst m:=by
 cases q with
 |lst m=>show#[m,rfl]
 |_=>cases h
def Qs(L:aR K H x p)(J:aR K H y q)(v:aY p q=false)(h1:∀l,p≠.tup l)(h2:∀l,p≠.lst l):cv x y=true/\(p=q↔x=y):=by
 let G:=JG L v h1 h2;let F:=Ks J G v;cases G with
 |str Y=>
  cases F with
  |str M=>
   rename_i x l y m;show#[rfl,λz=>?_,λz=>?_]
   .obtain⟨⟨a⟩⟩:=x;let#[#[b]]:=y;grind
   .cases z;rw[<-Y,<-M]
  |_=>show#[rfl,λz=>D.noConfusion z,λz=>V.noConfusion z]
 |_=>cases F<;>first|show⟨rfl,λz=>D.noConfusion z,λz=>V.noConfusion z⟩|show⟨rfl,λz=>by cases z;rfl,λz=>by cases z;rfl⟩|cases v
def BS(hu:X.A.units+32<cLine):OpR X (compareOp .NotEq) (wG X.K):=by
 classical
 intro z4 s σ H x y v u Q I rx ry h;let#[p,q,r1,r2,hc,hd,hq]:=h;let F:EP X z4 σ Q (.bool (!decide (p=q))) s:=#[.bl _,H,I,rfl,hq]
 let h4:X.A.in1.units+30<cLine:=by show X.A.units+1+30<cLine;lia
 rcases Gh p with⟨l,rfl⟩|⟨l,rfl⟩|⟨n1,n2⟩
 .obtain⟨m,rfl⟩:=Qw hc;cases r1 with
  |tup e1 q1=>
  cases r2 with
  |tup Y q2=>
   rename_i a xs b ys;cases rx;cases ry;let#[L,w1,p1,_]:=I.tuple (bF.of e1);let#[G,w2,p2,_]:=I.tuple (bF.of Y);let Z:bD l<=30:=by let:bD l+1<=30:=hd;lia
   let M:L.toArray.size=l.length:=by rw[qr,<-w1.length,q1.len]
   let h3:G.toArray.size=m.length:=by rw[qr,<-w2.length,q2.len]
   let:=RcNeAt.tuples (A:=X.A) (s:=s) (show s.heap.IsTuple a L.toArray from p1) (show s.heap.IsTuple b G.toArray from p2) ∅ (LS I q1 q2 w1 w2 hc Z h4);rw[M,h3,Gu (l:=l) (m:=m) _ rfl]at this;let e:↥(D.tup l=D.tup m)=↥(l=m):=by by_cases h:l=m<;>simp
   rw[e]at F;show this X.prog X.w X.xe _ F
 .obtain⟨m,rfl⟩:=Ra hc;cases r1 with
  |lst e1 q1=>
  cases r2 with
  |lst Y q2=>
   cases rx;cases ry;let#[L,w1,p1,_]:=I.list e1;let#[G,w2,p2,_]:=I.list Y;let Z:bD l<=30:=by let:bD l+1<=30:=hd;lia
   let M:L.toArray.size=l.length:=by rw[qr,<-w1.length,q1.len]
   let h3:G.toArray.size=m.length:=by rw[qr,<-w2.length,q2.len]
   let e:↥(D.lst l=D.lst m)=↥(l=m):=by by_cases h:l=m<;>simp
   rw[e]at F;by_cases J:l.length=m.length
   .let:=RcNeAt.lists (A:=X.A) (s:=s) p1.isList p2.isList ∅ ∅ (LS I q1 q2 w1 w2 hc Z h4);rw[M]at this;let Y:=Gu (l:=l) (m:=m) l.length ∅;let e3:(l.length==m.length)=true:=by simpa using J
    rw[e3,Bool.and_true]at Y;rw[<-Y]at F;show this X.prog X.w X.xe _ F
   .let:=RcNeAt.lists_lengths (A:=X.A) (s:=s) p1.isList p2.isList (by simp[M,h3];simpa using J) ∅;let Y:↥(l=m)=false:=qV λz=>J (by rw[z]);rw[Y]at F;show this X.prog X.w X.xe _ F
 .obtain⟨h1,h2⟩:=Qs r1 r2 hc n1 n2;rw[decide_eq_decide.mpr h2]at hq;show On z4 s σ H x y v u Q I rx ry #[h1,hq]
def Cg:cR K (wG K) eT:=by
 intro H x y p q k Q G F e J;unfold eT at e;cases v:eK p q with
 |none=>rw[v]at e;cases e
 |some b=>rw[v]at e;let L:(!b)=k:=qf e;let#[h1,h2]:=Ko v;let:=KS v;subst this;subst L;show#[p,q,G,F,h1,h2,J]
def iU(f:Int->Int->Bool)(g:List Nat->List Nat->Bool):R2:=λx y H Q=>(∃i j,x=.int i/\y=.int j/\Q (.bl (f i j)) H)\/∃i j,x=.str i/\y=.str j/\Q (.bl (g i.cps.toList j.cps.toList)) H
def Gv{g:List Nat->List Nat->Bool}(rule:∀(i j:Str)(t u:Tok)(s:Shared)(Q:zF)(E:zF),Q (.bool (g i.cps.toList j.cps.toList)) s->wpAny (model X.prog X.w) X.A (compareOp L (.str i t) (.str j u)) Q E s):
  OpR X (compareOp L) (λx y H Q=>∃i j,x=.str i/\y=.str j/\Q (.bl (g i.cps.toList j.cps.toList)) H):=by
 intro z4 s σ H x y v u Q I J G h;let#[i,j,rfl,rfl,q]:=h;let#[t,rfl]:=J;let#[F,rfl]:=G;show rule i j t F s _ _ #[.bl _,H,I,rfl,q]
def EL:OpR X (compareOp .Lt) (iU (λi j=>↥(i<j)) λl m=>↥(l<m)):=FL.OpR.or Og (Gv (g:=λl m=>↥(l<m)) λ_ _ _ _ _ _ _ q=>PyProof.Rows.lt_str q)
def Pl:OpR X (compareOp .LtE) (iU (λi j=>↥(i<=j)) λl m=>!decide (m<l)):=FL.OpR.or Oi (Gv (g:=λl m=>!decide (m<l)) λ_ _ _ _ _ _ _ q=>PySem.P.le_str q)
def El:OpR X (compareOp .Gt) (iU (λi j=>↥(j<i)) λl m=>↥(m<l)):=FL.OpR.or NW (Gv (g:=λl m=>↥(m<l)) λ_ _ _ _ _ _ _ q=>PySem.P.gt_str q)
def Kn:OpR X (compareOp .GtE) (iU (λi j=>↥(j<=i)) λl m=>!decide (l<m)):=FL.OpR.or NY (Gv (g:=λl m=>!decide (l<m)) λ_ _ _ _ _ _ _ q=>PySem.P.ge_str q)
def He(h:∀p q k,o p q=⇑k->(∃i j,p=.int i/\q=.int j/\k=f i j)\/∃l m,p=.str l/\q=.str m/\k=g l m):cR K (iU f g) o:=by
 intro H x y p q k Q F v e G;rcases h p q k e with⟨i,j,rfl,rfl,rfl⟩|⟨l,m,rfl,rfl,rfl⟩
 .cases F;cases v;show .inl #[i,j,rfl,rfl,G]
 .cases F with
  |str L Y=>cases v with
   |str J M=>subst L J;show .inr #[_,_,rfl,rfl,G]
def EY:cR K (iU (λi j=>↥(i<j)) λl m=>↥(l<m)) uA:=He λp q k e=>by
 unfold uA jk at e;split at e
 .show .inl #[_,_,rfl,rfl,(qf e).symm]
 .show .inr #[_,_,rfl,rfl,(qf e).symm]
 .cases e
def Ep:cR K (iU (λi j=>↥(j<i)) λl m=>↥(m<l)) oY:=He λp q k e=>by
 unfold oY jk at e;split at e
 .show .inl #[_,_,rfl,rfl,(qf e).symm]
 .show .inr #[_,_,rfl,rfl,(qf e).symm]
 .cases e
def Qk:cR K (iU (λi j=>↥(i<=j)) λl m=>!decide (m<l)) jn:=He λp q k e=>by
 unfold jn at e;split at e
 .show .inl #[_,_,rfl,rfl,(qf e).symm]
 .show .inr #[_,_,rfl,rfl,(qf e).symm]
 .cases e
def KE:cR K (iU (λi j=>↥(j<=i)) λl m=>!decide (l<m)) bj:=He λp q k e=>by
 unfold bj at e;split at e
 .show .inl #[_,_,rfl,rfl,(qf e).symm]
 .show .inr #[_,_,rfl,rfl,(qf e).symm]
 .cases e
end
section
open PySem.SeqAt
open Classical in
def wJ(K:W.Frag)(neg:Bool):R2:=λx y H Q=>∃p l,aR K H x p/\(aR K H y (.lst l)\/aR K H y (.tup l))/\(∀d∈l,aY d p=false/\fL d<=30)/\Q (.bl (if neg then !decide (p∈l)else ↥(p∈l))) H
def GX(I:Inv X z4 σ H s)(rx:zP x v)(r1:aR X.K H x p)(q1:zY X.K H xs l)(w1:zX xs us)(hc:∀d∈l,aY d p=false/\fL d<=30)(hu:A.units+30<cLine):
  ∃e:Value->Bool,(∀y,y∈us.toArray->EqAt A s y v (e y))/\us.toArray.any e=(open Classical in ↥(p∈l)):=by
 classical
 have item:∀{y:Value},y∈us->∃z d,zP z y/\aR X.K H z d/\d∈l:=λ{y} Z=>by
  let#[j,hj,e]:=getElem_of_mem Z;let#[z,hz,J]:=Ec (j:=j) w1 hj;let hl:j<l.length:=by rw[<-q1.len,w1.length];show hj
  let#[z',Y,F]:=q1.get (i:=j) (d:=l[j]) (by simp);rw[hz]at Y;cases Y;show#[z,l[j],?_,F,by simp];let:us.toArray[j]=y:=e;rw[<-this];show J
 show#[λy=>↥(∃z,zP z y/\aR X.K H z p),λy Z=>?_,?_]
 .have h1:y∈us:=by simpa using Z
  obtain⟨z,d,J,F,hd⟩:=item h1;let M:=hc d hd;let:=(Hw 30 (A:=A) M.2 I F r1 J rx M.1 hu).1;let e:↥(d=p)=↥(∃z,zP z y/\aR X.K H z p):=by
   by_cases h:d=p
   .subst h;rw[qU rfl,qU #[z,J,F]]
   .rw[qV h];show(qV ?_).symm;rintro⟨z',G,L⟩;let:z=z':=J.inj G;subst this;show h (aR.uniq I F L M.1)
  show EqAt A s y v ↥(∃z,zP z y/\aR X.K H z p);rw[<-e];show this
 .by_cases h:p∈l
  .rw[qU h];let#[j,hj,e]:=getElem_of_mem h;let#[z,hz,F]:=q1.get (i:=j) (d:=l[j]) (by simp);let#[u,h2,ru]:=w1.get hz;rw[Array.any_eq_true'];show#[u,by simpa using qP h2,qU #[z,ru,e▸F]]
  .rw[qV h];rw[Array.any_eq_false'];intro y Z z;let#[z',G,L]:=qX z;let#[z2,d,J,F,hd]:=item (y:=y) ↑Z;let:z2=z':=J.inj G;subst this;show h (aR.uniq I F L (hc d hd).1▸hd)
def OR(hu:X.A.units+32<cLine):OpR X (compareOp .In) (wJ X.K false):=by
 intro z4 s σ H x y v u Q I rx ry h;let#[p,l,r1,F,hc,hq]:=h;let J:X.A.in1.units+30<cLine:=by show X.A.units+1+30<cLine;lia
 rcases F with F|F
 .cases F with
  |lst e q=>cases ry;let#[G,L,M,_]:=I.list e;let#[f,Y,Z]:=GX (A:=X.A.in1) I rx r1 q L hc J;show in_listAt f M.isList Y #[.bl _,H,I,rfl,by rw[Z];show hq]
 .cases F with
  |tup e q=>cases ry;let#[G,L,M,_]:=I.tuple (bF.of e);let#[f,Y,Z]:=GX (A:=X.A.in1) I rx r1 q L hc J;show in_tupleAt f (show s.heap.IsTuple _ G.toArray from M) Y #[.bl _,H,I,rfl,by rw[Z];show hq]
def TV(hu:X.A.units+32<cLine):OpR X (compareOp .NotIn) (wJ X.K true):=by
 intro z4 s σ H x y v u Q I rx ry h;let#[p,l,r1,F,hc,hq]:=h;let J:X.A.in1.units+30<cLine:=by show X.A.units+1+30<cLine;lia
 rcases F with F|F
 .cases F with
  |lst e q=>cases ry;let#[G,L,M,_]:=I.list e;let#[f,Y,Z]:=GX (A:=X.A.in1) I rx r1 q L hc J;show notIn_listAt f M.isList Y #[.bl _,H,I,rfl,by rw[Z];show hq]
 .cases F with
  |tup e q=>cases ry;let#[G,L,M,_]:=I.tuple (bF.of e);let#[f,Y,Z]:=GX (A:=X.A.in1) I rx r1 q L hc J;show notIn_tupleAt f (show s.heap.IsTuple _ G.toArray from M) Y #[.bl _,H,I,rfl,by rw[Z];show hq]
end
section
variable{K:W.Frag}
def HA(F:xs.length=l.length)(h:atI l i=⇑d):∃j,ixN l.length i=⇑j/\l[j]?=⇑d/\∀x,xs[j]?=⇑x->L2.atI xs i=⇑x:=by
 unfold atI at h;cases q:ixN l.length i with
 |none=>rw[q]at h;cases h
 |some j=>
  rw[q]at h;show#[j,rfl,h,λx v=>?_];let e:L2.ixN xs.length i=⇑j:=by rw[F];show q
  unfold L2.atI;rw[e];show v
def zY.atI(r:zY K F xs l)(h:FL.atI l i=⇑d):∃x,L2.atI xs i=⇑x/\aR K F x d:=by let#[j,_,h1,h2]:=HA (xs:=xs) r.len h;let#[x,G,v]:=r.get h1;show#[x,h2 x G,v]
def zO.get{j:Nat}(r:zO K F H xs l fp)(h:l[j]?=⇑t):∃x J v G,xs[j]?=⇑x/\aK K F H x t v/\fp=J++(v++G):=
 zO.ind (P:=λxs l fp=>∀j t,l[j]?=⇑t->∃x J v G,xs[j]?=⇑x/\aK K F H x t v/\fp=J++(v++G)) (λ_ _ e=>by cases e) (λa _ L j t e=>by
  cases j with
  |zero=>cases e;show#[_,[],_,_,rfl,a,rfl]
  |succ j=>let#[x,J,v,G,h1,h2,rfl]:=L j t e;show#[x,_++J,v,G,h1,h2,(qp ..).symm]) r j t h
def Rel.item{j:Nat}(r:Rel K (U++[⇑(.lst l)]) (σ++[⇑(.ref a)]) F G H)(h:l[j]?=⇑t):∃xs x,H a=⇑(.lst xs)/\xs.length=l.length/\xs[j]?=⇑x/\Rel K (U++[⇑t]) (σ++[⇑x]) F G H:=by
 let#[fp,e,nd,ap]:=r.en;let#[J,f2,rfl,en,b]:=e.cut (Ag r);cases b with
 |so Y Z=>
  cases Z;cases Y with
  |lst hD rl=>
   rename_i xs fl;let#[x,M,v,L,h1,h2,rfl]:=rl.get h;show#[xs,x,hD,rl.len,h1,r.fr,r.gr,J++(v++[]),en.app (.so h2 .nil),?_,λy hy=>ap y ?_]
   .let sub:List.Sublist (J++(v++[])) (J++(a::(M++(v++L))++[])):=by show List.Sublist.append (List.Sublist.refl _) ?_;simp;exact(List.Sublist.cons _ ((List.sublist_append_left v L).trans (List.sublist_append_right M _)))
    show sub.nodup nd
   .rcases qz.mp hy with z|z
    .show qj _ z
    .show qi _ ?_;simp only[qB]at z⊢;show qk _ (qi _ (qj _ z))
end
def Rq{K:W.Frag}(e:bF K H c xs)(r:zY K F xs l)(h:atI l i=⇑d)(J:∀x,aR K F x d->Q x H):jj K (.ref c) (.int i) H Q:=by let#[x,G,v]:=r.atI h;show .inr (.inl #[c,xs,i,x,rfl,rfl,e,G,J x v])
def Rm{K:W.Frag}(e:bO K H c xs)(r:zY K F xs l)(h:atI l i=⇑d)(J:∀x,aR K F x d->Q x H):jj K (.ref c) (.int i) H Q:=by let#[x,G,v]:=r.atI h;show .inl #[c,xs,i,x,rfl,rfl,e,G,J x v]
def Rj(h:kQ s q=⇑t):(∃l i d,s=.sh (.tup l)/\q=.int i/\atI l i=⇑d/\t=.sh d)\/(∃l i d,s=.sh (.lst l)/\q=.int i/\atI l i=⇑d/\t=.sh d)\/
  (∃l i c,s=.sh (.str l)/\q=.int i/\atI l i=⇑c/\t=.sh (.str [c]))\/∃l i,s=.lst l/\q=.int i/\atI l i=⇑t:=by
 show cps λ_ kk=>?_;rcases s with d|l|_|_
 .rcases d with _|_|_|l|l|l|_|_|_;case str|tup|lst=>
   rcases q with _|_|i|_|_|_|_|_|_;case int=>let#[d,e,e']:=q9.mp h;first|show kk (.inl ⟨_,_,d,rfl,rfl,e,e'.symm⟩)|show kk (.inr (.inl ⟨_,_,d,rfl,rfl,e,e'.symm⟩))|show kk (.inr (.inr (.inl ⟨_,_,d,rfl,rfl,e,e'.symm⟩)))
   all_goals cases h
  all_goals cases h
 .rcases q with _|_|i|_|_|_|_|_|_;case int=>exact kk (.inr (.inr (.inr #[_,_,rfl,rfl,h])))
  all_goals cases h
 all_goals cases h
def Ic{K:W.Frag}(h:aK K F H v (.sh d) fp):aR K F v d:=by cases h;assumption
def LI{K:W.Frag}(h:aK K F H v (.lst l) fp):∃a xs fq,v=.ref a/\H a=⇑(.lst xs)/\zO K F H xs l fq:=by
 cases h with
 |lst h1 h2=>show#[_,_,_,rfl,h1,h2]
def Kc{K:W.Frag}(fr:zL F H)(r:aR K F v d)(L:aR K F2 u q)(Z:kQ (.sh d) q=⇑t)(done:∀e x,t=.sh e->aR K F x e->Q x H):jj K v u H Q:=by
 rcases Rj Z with⟨l,i,e,G,rfl,Y,rfl⟩|⟨l,i,e,G,rfl,Y,rfl⟩|⟨l,i,c,G,rfl,ec,rfl⟩|⟨l,i,G,_⟩
 .injection G with G
  subst G;obtain rfl:=bJ.int (H:=H) (.inl L);let#[a,xs,rfl,h1,M]:=bJ.tup (H:=H) (.inl r);show Rq (bF.of (fr _ _ h1)) M Y λx J=>done _ x rfl J
 .injection G with G
  subst G;obtain rfl:=bJ.int (H:=H) (.inl L);let#[a,xs,rfl,h1,M]:=bJ.lst (H:=H) fr (.inl r);show Rm h1 M Y λx J=>done _ x rfl J
 .injection G with G
  subst G;obtain rfl:=bJ.int (H:=H) (.inl L);let#[x,rfl,h1,z]:=bJ.str (H:=H) (.inl r);show .inr (.inr #[_,i,c,rfl,rfl,by rw[Er h1];show z,by rw[h1];show ec,done _ _ rfl (.str rfl (by show 1<=_;decide))])
 .cases G
def Lo(h:kQ (.lst l) q=⇑t):∃i,q=.int i/\atI l i=⇑t:=by
 cases q with
 |int i=>show#[i,rfl,h]
 |_=>cases h
def As(ha:FE X a wa)(hb:FE X b wb)(hs:gE b:=by intro _ _;rfl):FE X (.Subscript a b pos) (bX wa wb):=λpn xe hp=>by
 refine PE.imp (Ht (Kk (X:=wp X pn xe)) (ha pn xe hp) (hb pn xe hp) hs) λσ H Q q=>?_;refine(Dp (k:=λx y U2 Q E=>zK (view y U2) λq=>match x with
  |.v s=>zK (kQ s q) λt=>Q (.v t) U2
  |.loc i=>match slot U2 i with
   |some s=>match kQ s q with
    |some (.sh d)=>Q (.v (.sh d)) U2
    |_=>False
   |none=>False) q).mono λv H1 h1=>h1.mono λu H2 h2=>?_
 let#[F,G,U,x,y,P,PX,h5,Z,rx,ry,L,h6,hx]:=h2;let#[q,eq,L]:=Ai L;let J:Rel X.K (U++[zM x]) (σ++[⇑v]) F G H2:=by let:=Rel.swap (U1:=[zM x]) (σ1:=[⇑v]) (U2:=[zM y]) (σ2:=[⇑u]) Z rfl h5;show Rel.mid (U:=U) (σ:=σ) this Z
 let h4:Rel X.K (U++[zM y]) (σ++[⇑u]) F G H2:=h5.mid Z;let ru:=look (U':=[]) (σ':=[]) h4 Z ry eq;let done:∀{d:D}{x:V},P (.v (.sh d)) U->aR X.K F x d->Q x H2:=λhP r=>h6 _ U _ F H2 hP (zL.refl F) ((J.drop Z).push r) trivial;cases x with
 |v s=>
  let#[t,M,hP]:=Ai L;let#[w,fp,e1,sr]:=J.at (i:=U.length) (s:=s) Eb;rw[Z,getElem?_append_right (zm _)]at e1;let e2:v=w:=↑e1
  subst e2;cases s with
  |sh d=>show Kc J.fr (Ic sr) ru M λe x z rx=>done (by rw[<-z];show hP) rx
  |lst l=>let#[i,rfl,M]:=Lo M;obtain rfl:=bJ.int (H:=H2) (.inl ru);let#[a,ys,fq,rfl,hD,rl]:=LI sr;let#[j,_,hj,h3]:=HA rl.len M;let#[xs,x,h7,h9,Y,r2]:=Rel.item J hj;rw[hD]at h7;cases h7;show .inl #[_,_,i,x,rfl,rfl,bO.of hD,h3 x Y,h6 _ U _ F H2 hP (zL.refl F) r2 trivial]
  |_=>cases q<;>cases M
 |loc k=>
  dsimp only at L;cases qs:slot U k with
  |none=>rw[qs]at L;show L.elim
  |some s=>
   rw[qs]at L;dsimp only at L;split at L
   .rename_i d M;let#[w,fp,e1,sr]:=(J.drop Z).at qs;let h8:σ[k]?=⇑⇑v:=rx;rw[h8]at e1;let e2:v=w:=by simpa using e1
    subst e2;cases s with
    |sh d'=>show Kc J.fr (Ic sr) ru M λe x z rx=>done (by injection z with z;rw[<-z];show L) rx
    |lst l=>let#[i,rfl,M]:=Lo M;obtain rfl:=bJ.int (H:=H2) (.inl ru);let#[a,ys,fq,rfl,hD,rl]:=LI sr;let#[j,_,hj,h3]:=HA rl.len M;let#[x,fa,fi,fb,Y,sx,_]:=rl.get hj;show .inl #[_,_,i,x,rfl,rfl,bO.of hD,h3 x Y,done L (Ic sx)]
    |_=>cases q<;>cases M
   .show L.elim
section
variable{K:W.Frag}{σ:St}
def zO.set:∀{xs:List V}{l:List S}{fp:List Addr}{m:Nat},zO K F H xs l fp->m<l.length->∃L Y J,fp=L++(Y++J)/\
  ∀{H':Hp}{v:V}{s:S}{fq:List Addr},(∀a∈L++J,H' a=H a)->aK K F H' v s fq->zO K F H' (xs.set m v) (l.set m s) (L++(fq++J))
 |_,_,_,_,.nil,h=>by simp at h
 |_,_,_,0,.cons (fp:=fp) (fq:=fq) a b,h=>#[[],fp,fq,rfl,λM r=>by rw[nil_append];show .cons r (b.mono (zL.refl F) λc G=>M c G)]
 |_,_,_,m+1,.cons (fp:=fp) (fq:=fq) a b,h=>by let#[L,Y,J,rfl,Z]:=zO.set (m:=m) b ↑h;show#[fp++L,Y,J,(qp ..).symm,λM r=>?_];rw[qp];show .cons (a.mono (zL.refl F) λc G=>M c (qj _ (qj _ G))) (Z (λc G=>M c ((qz.mp G).elim (λz=>qj _ (qi _ z)) λz=>qi _ z)) r)
def Fp(h:σ[n]?=⇑⇑v):σ.set n ⇑v=σ:=by
 apply ext_getElem?;intro j;by_cases F:n=j
 .subst F;rw[getElem?_set_self (qg.mp h).1,h]
 .rw[getElem?_set_ne F]
def Rel.setItem{D:Addr}(r:Rel K (U++[⇑s]) (σ++[⇑v]) F G H)(hs:slot U n=⇑(.lst l))(M:σ[n]?=⇑⇑(.ref D))(hm:m<l.length):
  ∃xs,H D=⇑(.lst xs)/\xs.length=l.length/\Rel K (U.set n ⇑(.lst (l.set m s))) σ F G (upd H D (.lst (xs.set m v))):=by
 let hl:=Ag r;let#[fp,e,nd,ap]:=r.en;let#[f1,f2,rfl,a,b]:=e.cut hl;let#[v',fa,fi,fb,e1,rfl,q,up]:=a.at hs;rw[M]at e1;let e2:V.ref D=v':=↑e1
 subst e2;cases q with
 |lst hD rl=>
  rename_i xs fl;cases b with
  |so sr nl=>
   cases nl;rename_i fs;let#[Z,gi,Y,rfl,h2]:=rl.set hm;show#[xs,hD,rl.len,?_];let#[n1,n2,h4]:=qx.mp nd;let#[na,J,h3]:=qx.mp n1;let#[ni,nb,J]:=qx.mp J;let#[nD,h9]:=qO.mp ni;let h8:D∉fa:=λz=>h3 D z D (qj _ qm) rfl;let h7:D∉fb:=λz=>J D qm D z rfl;let h5:D∉fs:=λz=>h4 D (qi _ (qj _ qm)) D ↑z rfl;let h1:=ap D (qj _ (qi _ (qj _ qm)));let ne:∀{l:List Addr},D∉l->∀x∈l,upd H D (.lst (xs.set m v)) x=H x:=λh x L=>Al λz=>h (z▸L);let h6:D∉Z++Y:=λz=>nD ((qz.mp z).elim (λw=>qj _ w) λw=>qi _ (qi _ w));let new:aK K F (upd H D (.lst (xs.set m v))) (.ref D) (.lst (l.set m s)) (D::(Z++(fs++Y))):=.lst AV (h2 (ne h6) (sr.mono (zL.refl F) (ne h5)));let a2:=up (F':=F) (H':=upd H D (.lst (xs.set m v))) (o:=⇑(.lst (l.set m s))) (u:=⇑(.ref D)) (zL.refl F) (λx L=>Al λz=>(qz.mp L).elim (λw=>h8 (z▸w)) λw=>h7 (z▸w)) (.so new .nil);rw[Fp M]at a2;let sub:∃l2,l2.Perm (fa++((D::(Z++(gi++Y)))++fb)++(fs++[]))/\List.Sublist (fa++((D::(Z++(fs++Y)))++[]++fb)) l2:=by
    show#[fa++((D::(Z++(fs++(gi++Y))))++[]++fb),?_,?_]
    .simp;show List.Perm.append_left _ (List.Perm.cons _ (List.Perm.append_left _ ?_));show qQ.trans (by simp)
    simp_all
   let#[l2,p,sb]:=sub;show#[zL.updR r.fr h1.1,λx o w=>?_,_,a2,sb.nodup (p.nodup_iff.mpr nd),λx L=>ap x (p.mem_iff.mp (sb.subset L))];let L:x≠D:=λz=>by rw[z,h1.2]at w;cases w
   rw[Al L];show r.gr x o w
end
theorem Iw(ho:FE X o (zG j))(hi:FE X i wi)(he:FE X e we)(hs:autoParam (swapsWithSole [.Subscript o i tpos] e pos.line X.env=pure false) rZ9)(hw:autoParam (swappedStores [.Subscript o i tpos] e X.env=pure none) rZ9)
  (h1:autoParam ((assignEach [.Subscript o i tpos] X.env).map (·.2)=[assign (.Subscript o i tpos) X.env]) rZ9)
  (ha:∀v,assign (.Subscript o i tpos) X.env v=(do
   let ov<-holding [v] (eval o X.env)
   let iv<-holding [v,ov] (eval i X.env)
   standAt tpos
   holding [v,ov,iv] (setItem ov iv v)
   release [v,ov,iv] []):=by intro _;rfl):FS X ks (.Assign [.Subscript o i tpos] e pos) (fN j wi we):=λpn xe hp=>by
 show PS.imp (JV (X:=wp X pn xe) (he pn xe hp) (Ov (X:=wp X pn xe) (ho pn xe hp) (hi pn xe hp) SD ha) hs hw h1) λD σ H q=>?_;let#[F,G,U,E,z6,hw,n,b,c,r,x]:=q;let x0:XC (wp X pn xe) (·=σ) F G E.ex:=x.mono (λσ2 z=>by rw[z];show KP.refl) (zL.refl F) (zL.refl G);show#[F,G,U,_,_,z6,hw,λr U1 v F1 H1 hk s1 r1 rv=>?_,x0];let l1:=Ag r1;let#[G1,rel1,gg,back]:=r1.hide l1;show#[F1,G1,U1,_,_,rel1,hk,λy U2 o' F2 H2 hk2 s2 r2 rv2=>?_,x0.mono (λ_ z=>z) s1 gg];let l2:=Ag r2;let#[G2,rel2,gg2,back2]:=r2.hide l2;show#[F2,G2,U2,_,_,rel2,hk2,λz U3 i' F3 H3 hk3 s3 r3 rv3=>?_,x0.mono (λ_ z=>z) (s1.trans s2) (gg.trans gg2)];let l3:=Ag r3;let#[q,eq,hk3]:=Ai hk3;let#[#[t,U4],eg,hk4]:=Ai hk3
 --all three stand at the end
 let r4:=back (s2.trans s3) (back2 s3 r3);simp only[qp,qR,nil_append]at r4;let ri:=look (U':=[zM y,zM r]) (σ':=[⇑o',⇑v]) r4 l3 rv3 eq;let r5:Rel X.K (U3++[zM r]) (σ++[⇑v]) F3 G H3:=Rel.mid (U:=U3) (σ:=σ) (Rel.mid (U:=U3) (σ:=σ) r4 l3) l3;let#[F4,s4,l4,r6]:=Ar (U':=[]) (σ':=[]) r5 l3 rv eg;cases y with
 |v y0=>show hk4.elim
 |loc k=>
  cases q with
  |int m=>
   cases qs:slot U4 j with
   |none=>simp only[qs]at hk4
   |some sj=>
    cases sj with
    |lst l=>
     simp only[qs]at hk4;let#[rfl,hk4]:=hk4;let#[w,ew,hnx]:=Ai hk4;let hσ:σ[k]?=⇑⇑o':=rv2;let#[v',fp,e1,sr]:=r6.at (i:=k) (s:=.lst l) (by rw[Fi (Es qs)];show qs);let hkl:k<σ.length:=(qg.mp hσ).1;rw[getElem?_append_left hkl,hσ]at e1;let e2:o'=v':=↑e1
     subst e2;let hw:w<l.length:=by
      unfold ixN at ew;split at ew
      .split at ew
       .let e:=qf ew;lia
       .cases ew
      .split at ew
       .let e:=qf ew;lia
       .cases ew
     cases sr with
     |lst hD rl=>rename_i a xs fl;let#[xs',hD',z7,r7]:=Rel.setItem r6 qs hσ hw;rw[hD]at hD';cases hD';cases ri;show#[a,xs,m,w,rfl,rfl,hD,by rw[z7];show ew,n _ σ F4 _ hnx KP.refl (s1.trans (s2.trans (s3.trans s4))) r7]
    |_=>simp[qs]at hk4
  |_=>show hk4.elim
def Cy(ho:FE X o (zG j))(he:FE X e we)
  (h2:autoParam (attributeBase o "append" X.env (eval o X.env)=eval o X.env) rZ9)
  (h5:autoParam (((backTo cpos (starEach [e] X.env)).all (λx=>!x.1)&&(backToKw cpos (keywordEach [] X.env)).all (λx=>x.1.isSome)
   &&↥([e].length+([]:List Keyword).length+(if([]:List Keyword).isEmpty then 0 else 1)<30))=true) rZ9)
  (h1:autoParam ((apos.endLine==cpos.line)=true) rZ9)(hs:autoParam (starEach [e] X.env=[(false,eval e X.env)]) rZ9):FE X (.Call (.Attribute o "append" apos) [e] [] cpos) (aV j we):=λpn xe hp=>by
 refine PE.imp (EJ (X:=wp X pn xe) PySem.F.plainAttrs_list PySem.F.slot_list_append PySem.F.type_list_append IJ (ho pn xe hp) (Aa he Ab hs pn xe hp) h2 h5 h1 hs rfl) λσ H Q q=>?_;let#[F,G,U,P,PX,h6,hw,h7,hx]:=q;let M:(match slot U j with
  |some (.lst _)=>we U (λr Y=>zK (give r Y) λp=>(match slot p.2 j with
   |some (.lst l)=>l.length<big/\P (.v (.sh .non)) (p.2.set j ⇑(.lst (l++[p.1])))
   |_=>False)) PX
  |_=>False):=hw
 cases qs:slot U j with
 |none=>rw[qs]at M;show M.elim
 |some s0=>
  cases s0 with
  |lst l0=>
   rw[qs]at M;show#[F,G,U,λy Z=>y=.loc j/\Z=U,PX,h6,by unfold zG;rw[qs];show#[rfl,rfl],λy Z o' F1 H1 L s1 r1 rv=>?_,hx];let#[rfl,rfl]:=L;let l1:=Ag r1;let h3:σ[j]?=⇑⇑o':=rv;let r2:=r1.drop l1;let#[v',fp,e1,sr]:=r2.at qs;rw[h3]at e1;let e2:o'=v':=↑e1
   subst e2;cases sr with
   |lst hD rl=>
    rename_i a xs fl;show#[.inl #[rfl,_,bO.of hD],F1,G,Z,λrs Y=>match rs with|[r]=>(zK (give r Y) λp=>match slot p.2 j with|some (.lst l)=>l.length<big/\P (.v (.sh .non)) (p.2.set j ⇑(.lst (l++[p.1])))|_=>False)|_=>False,PX,r2,M,λrs Y vs F2 H2 L s2 r3 hl J=>?_,hx.grow s1];match rs,vs,J,r3,L with
    |[r],[v],J,r3,L=>
     let#[#[t,h9],eg,L]:=Ai L;let#[F3,s3,l3,r4]:=Ar (U':=[]) (σ':=[]) r3 hl J.1 eg;split at L
     .rename_i l ql;let#[ys,h8,h4,r5]:=Rel.append r4 ql h3;show#[a,ys,v,rfl,rfl,h8,by rw[h4];show lt_trans L.1 ⋯,h7 _ _ .non F3 _ L.2 (s1.trans (s2.trans s3)) (r5.push .non) trivial]
     .show L.elim
    |[],_,_,_,L=>show L.elim
    |[_],[],J,_,_=>show J.elim
    |[_],_::_::_,J,_,_=>show J.2.elim
    |_::_::_,_,_,_,L=>show L.elim
  |_=>rw[qs]at M;show M.elim
section
variable{K:W.Frag}
def iJ(K:W.Frag)(F H:Hp):List V->List D->Prop
 |[],[]=>True
 |v::vs,d::ds=>bJ K F H v d/\iJ K F H vs ds
 |_,_=>False
def AS{b:List D->Option S}(h2:∀x y r,b (x::y::r)=none)(J:b []=none)(G:iJ K F H vs ds)(e:b ds=⇑s):∃d v,ds=[d]/\vs=[v]:=by
 cases ds with
 |nil=>rw[J]at e;cases e
 |cons x ds=>
  cases ds with
  |cons y r=>rw[h2]at e;cases e
  |nil=>
   cases vs with
   |nil=>show G.elim
   |cons v vs=>
    cases vs with
    |nil=>show#[x,v,rfl,rfl]
    |cons u vs=>show G.2.elim
def Gj{b:List D->Option S}(h1:∀x,b [x]=none)(J:∀x y z r,b (x::y::z::r)=none)(L:b []=none)(G:iJ K F H vs ds)(e:b ds=⇑s):∃d M v u,ds=[d,M]/\vs=[v,u]:=by
 cases ds with
 |nil=>rw[L]at e;cases e
 |cons x ds=>
  cases ds with
  |nil=>rw[h1]at e;cases e
  |cons y ds=>
   cases ds with
   |cons z r=>rw[J]at e;cases e
   |nil=>
    cases vs with
    |nil=>show G.elim
    |cons v vs=>
     cases vs with
     |nil=>show G.2.elim
     |cons u vs=>
      cases vs with
      |nil=>show#[x,y,v,u,rfl,rfl]
      |cons u vs=>show G.2.2.elim
def Bl:∀{rs:List R}{vs:List V}{ds:List D}{U U':Env}{F:Hp}{σ':St},Rel K (U++(rs.map zM++U')) (σ++(vs.map some++σ')) F G H->U.length=σ.length->pM σ vs rs->(rs.mapM λr=>zW r U)=⇑ds->
  ∃F',zL F F'/\iJ K F' H vs ds/\Rel K (U++U') (σ++σ') F' G H
 |[],[],ds,U,U',F,σ',r,h,_,e=>by
  let L:ds=[]:=↑e.symm
  subst L;show#[F,zL.refl F,trivial,r]
 |[],_::_,_,_,_,_,_,_,_,h,_=>h.elim
 |_::_,[],_,_,_,_,_,_,_,h,_=>h.elim
 |x::rs,v::vs,ds,U,U',F,σ',r,h,rv,e=>by
  rw[List.mapM_cons]at e;cases q:zW x U with
  |none=>rw[q]at e;cases e
  |some d=>
   rw[q]at e;cases J:(rs.mapM λr=>zW r U)with
   |none=>rw[J]at e;cases e
   |some es=>rw[J]at e;let L:d::es=ds:=qf e;subst L;let#[F1,Y,Z,r1]:=AG (U':=rs.map zM++U') (σ':=vs.map some++σ') r h rv.1 q;let#[F2,M,res,r2]:=Bl (rs:=rs) (vs:=vs) r1 h rv.2 J;show#[F2,Y.trans M,#[Z.mono M,res],r2]
def cO(K:W.Frag)(r:List V->Hp->VK->Prop)(f:List D->Option S):Prop:=∀(σ:St)(U:Env)(F G H:Hp)(vs:List V)(ds:List D)(s:S)(Q:VK),Rel K U σ F G H->iJ K F H vs ds->f ds=⇑s->
 (∀v F' H',zL F F'->Rel K (U++[⇑s]) (σ++[⇑v]) F' G H'->Q v H')->r vs H Q
end
section
variable{id T:String}
def LC(hd:cO X.K r f)(σ:St)(H:Hp)(Q:VK)(q:tW (wp X pn xe) (wB f wa) σ H Q):cu r (rV (wp X pn xe) wa) σ H Q:=by show(many (k:=λrs J Q E=>zK (rs.mapM λr=>zW r J) λZ=>zK (f Z) λs=>Q (.v s) J) q).mono λvs H1 h1=>?_;let#[F,G,U,rs,P,PX,M,hl,rv,L,Y,hx]:=h1;let#[Z,ed,L]:=Ai L;let#[s,es,L]:=Ai L;let#[F1,s1,re,r1]:=Bl (U':=[]) (σ':=[]) ↑M hl rv ed;show hd σ U F1 G H1 vs Z s Q ↑r1 re es λv F' H' sm r'=>Y _ U v F' H' L (s1.trans sm) r' trivial
def DY(hc:∀pn xe,aU (wp X pn xe) (.builtin id) r)(Z:cO X.K r f)(M:Gl X x)(L:X.mg x=none)(G:bootBuiltins x=⇑(.builtin id))(ha:FA X (e::es) wa)(hn:autoParam (x≠"__name__") dZ9)(F:autoParam ((x==("__debug__":Str))=false) dZ9)
  (Y:autoParam (starEach (e::es) X.env=(false,eval e X.env)::starEach es X.env) rZ9)(v:autoParam ((backTo pos (starEach es X.env)).any (·.1)=false) rZ9):FE X (.Call (.Name x p) (e::es) [] pos) (wB f wa):=λpn xe J=>
 PE.imp (IB (X:=wp X pn xe) (hc pn xe) M L G (ha pn xe J) hn F Y v) (LC Z)
def GM(hc:∀pn xe,aU (wp X pn xe) (.type T) r)(Z:cO X.K r f)(M:Gl X x)(L:X.mg x=none)(G:bootBuiltins x=⇑(.type T))(ha:FA X (e::es) wa)(hn:autoParam (x≠"__name__") dZ9)(F:autoParam ((x==("__debug__":Str))=false) dZ9)
  (Y:autoParam (starEach (e::es) X.env=(false,eval e X.env)::starEach es X.env) rZ9)(v:autoParam ((backTo pos (starEach es X.env)).any (·.1)=false) rZ9):FE X (.Call (.Name x p) (e::es) [] pos) (wB f wa):=λpn xe J=>
 PE.imp (Mq (X:=wp X pn xe) (hc pn xe) M L G (ha pn xe J) hn F Y v) (LC Z)
def di(K:W.Frag):List V->Hp->VK->Prop:=λxs H Q=>(∃p ys,xs=[.ref p]/\(bO K H p ys\/bF K H p ys)/\Q (.int ys.length) H)\/∃z,xs=[.str z]/\z.length<=sizeLine/\Q (.int z.length) H
def aU.or'{f:Value}(h:aU X f r)(h':aU X f G):aU X f (λx H Q=>r x H Q\/G x H Q):=λz4 s σ H xs v Q I F q=>q.elim (h z4 s σ H xs v Q I F) (h' z4 s σ H xs v Q I F)
def Ut:aU X (.builtin "len") (di X.K):=aU.or' Wq Xe
def Ts{K:W.Frag}:cO K (di K) aN:=by
 intro σ U F G H vs ds s Q J L e Y;let#[d,v,rfl,rfl]:=AS (λx y r=>by cases x<;>rfl) rfl L e;cases d with
 |str l=>cases e;let#[x,rfl,Z,z]:=L.1.str;show .inr #[x,rfl,by rw[Er Z];show z,by rw[Er Z];show Y _ F H (zL.refl F) (J.push (.int _))]
 |tup l=>cases e;let#[a,xs,rfl,h1,M]:=L.1.tup;show .inl #[a,xs,rfl,.inr (bF.of (J.fr _ _ h1)),by rw[M.len];show Y _ F H (zL.refl F) (J.push (.int _))]
 |lst l=>cases e;let#[a,xs,rfl,h1,M]:=L.1.lst J.fr;show .inl #[a,xs,rfl,.inl h1,by rw[M.len];show Y _ F H (zL.refl F) (J.push (.int _))]
 |_=>cases e
def Av(G:Gl X "len")(F:X.mg "len"=none)(L:FA X (e::es) wa)(J:autoParam (starEach (e::es) X.env=(false,eval e X.env)::starEach es X.env) rZ9)(v:autoParam ((backTo pos (starEach es X.env)).any (·.1)=false) rZ9):FE X (.Call (.Name "len" p) (e::es) [] pos) (wB aN wa):=
 DY (λ_ _=>Ut) Ts G F PySem.boot_len L ⋯ ⋯ J v
end
section
variable{K:W.Frag}
def lz:List V->Hp->VK->Prop:=λxs H Q=>(∃i,xs=[.int i]/\Q (.int i) H)\/∃k,xs=[.bl k]/\Q (.int (if k then 1 else 0)) H
def bJ.bl(h:bJ K F H v (.bl b)):v=.bl b:=by
 rcases h with h|⟨_,_,_,_,h,_⟩|⟨_,_,_,_,_,h,_⟩|⟨_,_,_,_,_,h,_⟩
 .cases h;rfl
 .cases h
 .cases h
 .cases h
def UI:cO K lz mU:=by
 intro σ U F G H Y Z s Q J L e M;let#[d,v,rfl,rfl]:=AS (λx y r=>by cases x<;>rfl) rfl L e;cases d with
 |int i=>cases e;let:=L.1.int;subst this;show .inl #[i,rfl,M _ F H (zL.refl F) (J.push (.int _))]
 |bl b=>cases e;let:=L.1.bl;subst this;show .inr #[b,rfl,M _ F H (zL.refl F) (J.push (.int _))]
 |_=>cases e
def HX(J:Gl X "int")(G:X.mg "int"=none)(F:bootBuiltins "int"=⇑(.type "int"))(M:FA X (e::es) wa)(L:autoParam (starEach (e::es) X.env=(false,eval e X.env)::starEach es X.env) rZ9)(v:autoParam ((backTo pos (starEach es X.env)).any (·.1)=false) rZ9):FE X (.Call (.Name "int" p) (e::es) [] pos) (wB mU wa):=
 GM (λ_ _=>US) UI J G F M ⋯ ⋯ L v
def wD(K:W.Frag):List V->Hp->VK->Prop:=λxs H Q=>∃p ys,xs=[.ref p]/\((bO K H p ys/\∀l,H l=none->Q (.ref l) (upd H l (.tup ys)))\/(bF K H p ys/\Q (.ref p) H))
def Vs:cO K (wD K) cB:=by
 intro σ U F G H vs ds s Q J L e Z;let#[d,v,rfl,rfl]:=AS (λx y r=>by cases x<;>rfl) rfl L e;cases d with
 |tup l=>cases e;let#[a,xs,rfl,h1,M]:=L.1.tup;show#[a,xs,rfl,.inr #[bF.of (J.fr _ _ h1),Z _ F H (zL.refl F) (J.push (.tup h1 M))]]
 |lst l=>cases e;let#[a,xs,rfl,h1,M]:=L.1.lst J.fr;show#[a,xs,rfl,.inl #[h1,λp hp=>?_]];let Y:=(J.free hp).1;show Z _ _ _ (zL.upd Y) ((J.newF hp).push (.tup AV (M.mono (zL.upd Y))))
 |_=>cases e
def CD(J:Gl X "tuple")(G:X.mg "tuple"=none)(F:bootBuiltins "tuple"=⇑(.type "tuple"))(M:FA X (e::es) wa)(L:autoParam (starEach (e::es) X.env=(false,eval e X.env)::starEach es X.env) rZ9)(v:autoParam ((backTo pos (starEach es X.env)).any (·.1)=false) rZ9):FE X (.Call (.Name "tuple" p) (e::es) [] pos) (wB cB wa):=
 GM (λ_ _=>WO) Vs J G F M ⋯ ⋯ L v
def tR(K:W.Frag):List V->Hp->VK->Prop:=λxs H Q=>∃p ys,xs=[.ref p]/\(bO K H p ys\/bF K H p ys)/\∀l,H l=none->Q (.ref l) (upd H l (.lst ys))
def MM:cO K (tR K) gp:=by
 intro σ U F G H vs ds s Q J L e Z;let#[d,v,rfl,rfl]:=AS (λx y r=>by cases x<;>rfl) rfl L e;cases d with
 |tup l=>cases e;let#[a,xs,rfl,h1,M]:=L.1.tup;show#[a,xs,rfl,.inr (bF.of (J.fr _ _ h1)),λp Y=>Z _ F _ (zL.refl F) (J.newLD Y M)]
 |lst l=>cases e;let#[a,xs,rfl,h1,M]:=L.1.lst J.fr;show#[a,xs,rfl,.inl h1,λp Y=>Z _ F _ (zL.refl F) (J.newLD Y M)]
 |_=>cases e
end
def EC(h:aZ a=aZ b):a=b:=by
 cases a with
 |inl i=>cases b with
  |inl j=>have h':D.int i=D.int j:=h;cases h';rfl
  |inr y=>have h':D.int i=D.str y.cps.toList:=h;cases h'
 |inr x=>cases b with
  |inl j=>have h':D.str x.cps.toList=D.int j:=h;cases h'
  |inr y=>have h':D.str x.cps.toList=D.str y.cps.toList:=h;let#[#[a]]:=x;first|rfl|assumption|(simp_all;done)
def GK:∀{a b:List bV},a.map aZ=b.map aZ->a=b
 |[],[],_=>rfl
 |[],_::_,h=>by simp at h
 |_::_,[],h=>by simp at h
 |x::a,y::b,h=>by
  injection h with h1 h2
  rw[EC h1,GK h2]
section
variable{K:W.Frag}
def ES(r:aR K H x d)(h:dJ d=true):∃k:bV,x=kV k/\d=aZ k:=by
 cases r with
 |int i=>show#[.inl i,rfl,rfl]
 |str e z=>show#[.inr _,rfl,by rw[<-e];rfl]
 |_=>cases h
def HU(r:zY K H xs l):l.all dJ=true->∃ks:List bV,xs=ks.map kV/\l=ks.map aZ:=
 zY.ind (P:=λxs l=>l.all dJ=true->∃ks:List bV,xs=ks.map kV/\l=ks.map aZ) (λ_=>#[[],rfl,rfl]) (λa _ v h=>by rw[List.all_cons,and_eq_true]at h;let#[k,rfl,rfl]:=ES a h.1;let#[ks,rfl,rfl]:=v h.2;show#[k::ks,rfl,rfl]) r
open Classical in
def Jc{κ:Type}[DecidableEq κ](g:κ->D)(v:∀a b,g a=g b->a=b):∀(z5:List (κ×V))(k:κ),(eE z5 k).isSome=↥(g k∈z5.map λp=>g p.1)
 |[],k=>by simp[eE]
 |p::r,k=>by
  by_cases e:p.1=k
  .rw[Fo e];let:g k∈(p::r).map λp=>g p.1:=by rw[qA,e];exact qm
   show(qU this).symm
  .rw[Fh e,Jc g v r k];let:(g k∈(p::r).map λp=>g p.1)↔(g k∈r.map λp=>g p.1):=by rw[qA,qC];exact#[λz=>z.elim (λw=>absurd (v _ _ w).symm e) id,.inr]
   show(decide_eq_decide.2 this).symm
open Classical in
def ET{κ:Type}[DecidableEq κ](g:κ->D)(G:∀a b,g a=g b->a=b){α:Type}:∀(z5:List (κ×V))(vs:List α)(k:κ)(P:V->α->Prop),z5.length=vs.length->(∀(i:Nat) x y,(z5.map (·.2))[i]?=⇑x->vs[i]?=⇑y->P x y)->
  (lk (z5.map λp=>g p.1) vs (g k)=none/\eE z5 k=none)\/∃x y,eE z5 k=⇑x/\lk (z5.map λp=>g p.1) vs (g k)=⇑y/\P x y
 |[],[],k,P,_,_=>.inl #[rfl,rfl]
 |[],_::_,_,_,h,_=>by simp at h
 |_::_,[],_,_,h,_=>by simp at h
 |p::r,v::vs,k,P,hl,h=>by
  by_cases e:p.1=k
  .show .inr #[p.2,v,Fo e,?_,h 0 p.2 v rfl rfl];show(if g p.1=g k then ⇑v else lk (r.map λp=>g p.1) vs (g k))=⇑v;rw[zj (by rw[e])]
  .let F:¬g p.1=g k:=λz=>e (G _ _ z);rw[Fh e];let J:lk ((p::r).map λp=>g p.1) (v::vs) (g k)=lk (r.map λp=>g p.1) vs (g k):=by show(if g p.1=g k then ⇑v else lk (r.map λp=>g p.1) vs (g k))=_;rw[zk F]
   rw[J];show ET g G r vs k P ↑hl λi x y h1 h2=>h (i+1) x y ↑h1 ↑h2
def PP(Z:aR K H x d)(r2:aR K H (.ref a) (.dct t ks vs))(Y:cL t d=true):∃o,jT H a x o/\o.isSome=(open Classical in ↥(d∈ks))/\
  ((lk ks vs d=none/\o=none)\/∃v e,o=⇑v/\lk ks vs d=⇑e/\aR K H v e):=by
 cases r2 with
 |dK e k r=>
  rename_i F;let#[L,rfl,rfl]:=ES Z Y;show#[_,.inl #[F,L,e,rfl,rfl],?_,?_]
  .rw[k];show Jc aZ (λ_ _=>EC) F L
  .rw[k];rcases ET aZ (λ_ _=>EC) F vs L (λv e=>aR K H v e) (by let:=r.len;simpa using this) (λi x y h1 h2=>by let#[x',J,M]:=r.get h2;rw[h1]at J;cases J;show M)with⟨h1,h2⟩|⟨v,e,h1,h2,h3⟩
   .show .inl #[h1,h2]
   .show .inr #[v,e,h1,h2,h3]
 |dT e k r=>
  rename_i F;cases Z with
  |tup e1 q=>
   let#[G,rfl,rfl]:=HU q Y;let inj:∀a b:List bV,D.tup (a.map aZ)=D.tup (b.map aZ)->a=b:=λa b z=>GK (D.tup.inj z);show#[_,.inr #[F,G,_,e,rfl,e1,rfl],?_,?_]
   .rw[k];show Jc (λl=>D.tup (l.map aZ)) inj F G
   .rw[k];rcases ET (λl=>D.tup (l.map aZ)) inj F vs G (λv e=>aR K H v e) (by let:=r.len;simpa using this) (λi x y h1 h2=>by let#[x',J,M]:=r.get h2;rw[h1]at J;cases J;show M)with⟨h1,h2⟩|⟨v,e,h1,h2,h3⟩
    .show .inl #[h1,h2]
    .show .inr #[v,e,h1,h2,h3]
  |_=>cases Y
def iV(neg:Bool):R2:=λx y H Q=>∃a o,y=.ref a/\jT H a x o/\Q (.bl (if neg then !o.isSome else o.isSome)) H
def Vi(J:X.A.units+1<cLine):OpR X (compareOp .In) (iV false):=by intro z4 s σ H x y v u Q I G F h;let#[a,o,rfl,g,q]:=h;cases F;show JD J I g G λs' L=>#[.bl _,H,L,rfl,q]
def Wy(J:X.A.units+1<cLine):OpR X (compareOp .NotIn) (iV true):=by intro z4 s σ H x y v u Q I G F h;let#[a,o,rfl,g,q]:=h;cases F;show PN J I g G λs' L=>#[.bl _,H,L,rfl,q]
def iW(K:W.Frag)(neg:Bool):R2:=λx y H Q=>wJ K neg x y H Q\/iV neg x y H Q
def RS(v:X.A.units+32<cLine):OpR X (compareOp .In) (iW X.K false):=FL.OpR.or (OR v) (Vi ∅)
def Wv(v:X.A.units+32<cLine):OpR X (compareOp .NotIn) (iW X.K true):=FL.OpR.or (TV v) (Wy ∅)
open Classical in
def Qa(G:aR K H x p)(F:aR K H y q)(e:mI p q=⇑k)(J:Q (.bl (if neg then !k else k)) H):iW K neg x y H Q:=by
 unfold mI at e;split at e
 .rename_i l;split at e
  .cases e
  .rename_i h;let v:=qf e;subst v;show .inl #[p,l,G,.inl F,λd M=>?_,J];grind
 .rename_i l;split at e
  .cases e
  .rename_i h;let v:=qf e;subst v;show .inl #[p,l,G,.inr F,λd M=>?_,J];grind
 .rename_i t ks Y;split at e
  .rename_i h;let v:=qf e;cases y with
   |ref a=>let#[o,g,L,_]:=PP G F h;show .inr #[a,o,rfl,g,?_];rw[L,v];show J
   |_=>cases F
  .cases e
 .cases e
end
open PySem.Builtin.Str (strSliceIndices)
def GW(n d:Nat)(o:Option Int):HT.sIx n d o=FL.sIx n d o:=by cases o<;>rfl
def Ky(n d:Nat)(v:d<=n)(o:Option Int):FL.sIx n d o<=n:=by rw[<-GW];show HT.sIx_le n d v o
def ao(z:Str)(lo hi:Option Int):Str:=#[(aP z.cps.toList lo hi).toArray]
def Vv(lo hi:Option Int)(n:Nat):strSliceIndices lo hi 1 n=(List.range (FL.sIx n n hi-FL.sIx n 0 lo)).map (FL.sIx n 0 lo+·):=by rw[<-sliceRange_one];unfold strSliceIndices;cases lo<;>cases hi<;>simp only[if_true,FL.sIx,DT]<;>rfl
def TX(x:Str)(lo hi:Option Int):Txt.slice x lo hi=ao x lo hi:=by
 let v:x.length=x.cps.toList.length:=by show x.cps.size=_;rw[qY]
 unfold Txt.slice ao aP;rw[Vv,pick_run,<-v];split
 .rename_i h;simp at h;let h1:=Ky x.length x.length (zm _) hi;let h2:FL.sIx x.length 0 lo=0\/x.length=0:=by lia
  let F:FL.sIx x.length 0 lo=0:=h2.elim id λz=>by let:=Ky x.length 0 (zero_le _) lo;lia
  rw[h,F,drop_zero,take_of_length_le (by rw[v];show zm _)]
 .rfl
def df:V->Option Int->Option Int->Hp->VK->Prop:=λx lo hi H Q=>∃z,x=.str z/\z.length<=sizeLine/\Q (.str (ao z lo hi)) H
def Lf(p:IsPart v o):∃l:Option (Int×Tok),v=partValue l/\o=l.map (·.1):=by
 cases p with
 |none=>show#[none,rfl,rfl]
 |int i t=>show#[⇑(i,t),rfl,rfl]
def Py:mV X df:=by
 intro z4 s σ H x v vl Z lo hi sl Q I G Y L J h;let#[z,rfl,M,q]:=h;let#[t,rfl]:=G;let#[l,rfl,rfl]:=Lf L;let#[u,rfl,rfl]:=Lf J;rw[<-TX]at q;exact⟨"str",_,F.slot_str_getitem.lookup,typeIs_str _ _ _,wpAny_getItem_str_slice (l:=l) (u:=u) (st:=none) Y rfl
  (post_val_or_str #[le_trans (Txt.slice_le z _ _) M,λt' k=>#[.str (Txt.slice z (l.map (·.1)) (u.map (·.1))),H,I.tok _,#[_,rfl],q]])⟩
def cz(K:W.Frag):V->Option Int->Option Int->Hp->VK->Prop:=λx lo hi H Q=>∃a xs,x=.ref a/\bF K H a xs/\
 (HT.sIx xs.length 0 lo=0/\HT.sIx xs.length xs.length hi=xs.length)/\Q (.ref a) H
def Xl{items:Array Value}{lo hi:Option Int}(F:IsTup s.heap t items)(Z:s.heap.IsSliceOf M vl vu .none)(pl:IsPart vl lo)(pu:IsPart vu hi)
  (Y:HT.sIx items.size 0 lo=0/\HT.sIx items.size items.size hi=items.size)(h:Q (.ref t) s):wpAny (model prog w) A (getItem (.ref t) (.ref M)) Q E s:=by
 let#[os,G,J,h1]:=id Z;let L:s.TypeIs (.ref M) "slice":=#[os,G,J]
 unfold getItem;try with_reducible show zx ?_
 first|show qa (qb ?_)|skip
 refine qa (wpAny_sequenceKey F.typeIs ⋯ ?_);refine qa (wpAny_callSpecial?_slot (name:=Str.ofString "__getitem__") F.typeIs PyProof.Rows.slot_tuple_getitem
  (zu PyProof.Rows.slot_tuple_getitem F.typeIs entry_tuple_getitem ?_ (args_tuple_getitem _ _)))
 show wpAny _ _ (Builtin.Tuple.tupleItemsOf (.ref t)>>=_) _ _ s;show qa (tupleItemsOf_ F ?_);show qa (wpAny_typeOf L ?_);show qa (HT.sliceApplied_gen Z pl pu ?_);let v:(((HT.sIx items.size 0 lo:Nat):Int)==0&&(1:Int)==1&&(HT.sIx items.size items.size hi-HT.sIx items.size 0 lo)==items.size)=true:=by rw[Y.1,Y.2];simp
 show wpAny _ _ (if(((HT.sIx items.size 0 lo:Nat):Int)==0&&(1:Int)==1&&(HT.sIx items.size items.size hi-HT.sIx items.size 0 lo)==items.size)=true then _ else _) _ _ s;rw[zj v];show qa (qa (wpAny_typeOf F.typeIs (qb ?_)));first
  |show qa (wpAny_rule (qb ⟨_,rfl,qb h⟩))
  |show qa (qb (qb ⟨_,rfl,qb h⟩))
  |show qb ⟨_,rfl,qb h⟩
def SE:mV X (cz X.K):=by
 intro z4 s σ H x v vl vu lo hi sl Q I L hs Y M h;let#[a,xs,rfl,Z,hw,q]:=h;cases L;let#[G,r,J,hz]:=I.tuple Z;let F:G.toArray.size=xs.length:=by rw[qr];show r.length.symm
 show#["tuple",_,PyProof.Rows.slot_tuple_getitem.lookup,J.typeIs,?_];show Xl J hs Y M (by rw[F];show hw) #[.ref a,H,I,rfl,q]
section
variable{K:W.Frag}
def zY.drop:∀{xs:List V}{l:List D}(n:Nat),zY K F xs l->zY K F (xs.drop n) (l.drop n)
 |_,_,0,r=>by rw[drop_zero];show r
 |_,_,n+1,.nil=>by rw[List.drop_nil];show .nil
 |_,_,n+1,.cons a b=>by rw[List.drop_succ_cons];show zY.drop n b
def zY.take:∀{xs:List V}{l:List D}(n:Nat),zY K F xs l->zY K F (xs.take n) (l.take n)
 |_,_,0,r=>by rw[List.take_zero];show .nil
 |_,_,n+1,.nil=>by rw[take_nil];show .nil
 |_,_,n+1,.cons a b=>by rw[List.take_succ_cons];show .cons a (zY.take n b)
def zY.cut{lo hi:Option Int}(r:zY K F xs l):zY K F (jL xs lo hi) (aP l lo hi):=by unfold jL aP;rw[GW,r.len];show(r.drop _).take _
def lu(K:W.Frag):V->Option Int->Option Int->Hp->VK->Prop:=λx lo hi H Q=>dg K x lo hi H Q\/de K x lo hi H Q\/cz K x lo hi H Q\/df x lo hi H Q
def Hz:mV X (lu X.K):=mV.or Rw (mV.or OF (mV.or SE Py))
def Rk{lo hi:Option Int}(J:Rel K U σ F G H)(re:bJ K F H v d)(e:jX d lo hi=⇑s)
  (Y:∀v F' H',zL F F'->Rel K (U++[⇑s]) (σ++[⇑v]) F' G H'->Q v H'):lu K v lo hi H Q:=by
 cases d with
 |str l=>
  cases e;let#[x,rfl,h1,h2]:=re.str;subst h1;show .inr (.inr (.inr #[x,rfl,?_,Y _ F H (zL.refl F) (J.push (.str rfl ?_))]))
  .let:x.length=x.cps.toList.length:=by show x.cps.size=_;rw[qY]
   rw[this];show h2
  .show le_trans ?_ h2;unfold aP;rw[qK,qJ];lia
 |tup l=>
  cases e;let#[a,xs,rfl,h1,L]:=re.tup;by_cases M:HT.sIx xs.length 0 lo=0/\HT.sIx xs.length xs.length hi=xs.length
  .show .inr (.inr (.inl #[a,xs,rfl,bF.of (J.fr _ _ h1),M,Y _ F H (zL.refl F) (J.push ?_)]));let:aP l lo hi=l:=by unfold aP;rw[<-L.len,<-GW,<-GW,M.1,M.2,drop_zero,take_of_length_le (by rw[<-L.len];lia)]
   rw[this];show .tup h1 L
  .show .inr (.inl #[a,xs,rfl,bF.of (J.fr _ _ h1),M,λp Z=>?_]);let n2:=(J.free Z).1;show Y _ _ _ (zL.upd n2) ((J.newF Z).push (.tup AV (L.cut.mono (zL.upd n2))))
 |lst l=>cases e;let#[a,xs,rfl,h1,L]:=re.lst J.fr;show .inl #[a,xs,rfl,h1,λp Z=>Y _ F _ (zL.refl F) (J.newLD Z L.cut)]
 |_=>cases e
end
theorem nextOf(r1:Rel X.K (U1++[zM x]) (σ++[⇑v]) F G H1)(Y:RV σ v x)(h3:wb U1 (λy U2=>k x y U2 P PX) PX)
  (h4:∀r U' v F' H',P r U'->zL F F'->Rel X.K (U'++[zM r]) (σ++[⇑v]) F' G H'->RV σ v r->Q v H')(hx:XC X (·=σ) F G PX):tW X wb σ H1 λu H2=>pq X σ k Q v u H2:=by
 let h1:=Ag r1;let#[G1,J,gg,back]:=r1.hide h1;show#[F,G1,U1,_,PX,J,h3,λy U2 u F2 H2 Z L r2 M=>?_,hx.mono (λ_ z=>z) (zL.refl F) gg];let h2:=Ag r2;let r3:=back L r2;rw[qp,qp]at r3;show#[F2,G,U2,x,y,P,PX,Rel.swap (U1:=[zM y]) (σ1:=[⇑u]) (U2:=[zM x]) (σ2:=[⇑v]) h2 rfl r3,h2,Y,M,Z,λr U' v F' H' a b c d=>h4 r U' v F' H' a (L.trans b) c d,hx.grow L]
def AD{U:Env}{o:Option D}{k:Int->Prop}(h:(match o with|some (.int i)=>k i|_=>False)):∃i,o=⇑(.int i)/\k i:=by
 split at h
 .show#[_,rfl,h]
 .show h.elim
def HG{K:W.Frag}{U:Env}{σ:St}{F G H:Hp}{x y:R}{v u:V}{lo hi:Option Int}{P:WQ}{Q:VK}{q:D}(M:Rel K (U++[zM x,zM y]) (σ++[⇑v,⇑u]) F G H)(Z:U.length=σ.length)(rx:RV σ v x)
  (L:zK (zW x U) λd=>zK (jX d lo hi) λs=>P (.v s) U)
  (Y:∀r U' v F' H',P r U'->zL F F'->Rel K (U'++[zM r]) (σ++[⇑v]) F' G H'->RV σ v r->Q v H'):lu K v lo hi H Q:=by
 let#[d,ed,L]:=Ai L;let#[s,es,L]:=Ai L;let J:Rel K (U++[zM x]) (σ++[⇑v]) F G H:=by let:=Rel.swap (U1:=[zM x]) (σ1:=[⇑v]) (U2:=[zM y]) (σ2:=[⇑u]) Z rfl M;show Rel.mid (U:=U) (σ:=σ) this Z
 let#[F1,s1,re,r1]:=AG (U':=[]) (σ':=[]) J Z rx ed;show Rk (U:=U) (σ:=σ) ↑r1 re es λv F' H' sm r'=>Y _ U v F' H' L (s1.trans sm) r' trivial
def De(ha:FE X a wa)(hb:FE X b wb):FE X (.Subscript a (.Slice ⇑b none none p2) pos) (fJ wa ⇑wb none):=λpn xe hp=>by
 refine PE.imp (Iq (Hz (X:=wp X pn xe)) (ha pn xe hp) (GE (hb pn xe hp)) Lc) λσ H Q q=>?_;refine(Dp (k:=λx y J Q E=>match view y J with
  |some (.int i)=>zK (zW x J) λd=>zK (jX d ⇑i none) λs=>Q (.v s) J
  |_=>False) q).mono λv H1 h1=>h1.mono λu H2 h2=>?_
 let#[F,G,U,x,y,P,PX,L,Y,rx,ry,Z,M,hx]:=h2;let#[i,ei,Z]:=AD (U:=U) (k:=λi=>zK (zW x U) λd=>zK (jX d ⇑i none) λs=>P (.v s) U) Z;let ru:=look (U':=[]) (σ':=[]) (L.mid Y) Y ry ei;cases ru;show#[i,rfl,HG (q:=.non) L Y rx Z M]
def Ek(ha:FE X a wa)(hb:FE X b wb):FE X (.Subscript a (.Slice none ⇑b none p2) pos) (fJ wa none ⇑wb):=λpn xe hp=>by
 refine PE.imp (Iq (Hz (X:=wp X pn xe)) (ha pn xe hp) Lc (GE (hb pn xe hp))) λσ H Q q=>?_;refine(Dp (k:=λx y J Q E=>match view y J with
  |some (.int i)=>zK (zW x J) λd=>zK (jX d none ⇑i) λs=>Q (.v s) J
  |_=>False) q).mono λv H1 h1=>h1.mono λu H2 h2=>?_
 let#[F,G,U,x,y,P,PX,L,Y,rx,ry,Z,M,hx]:=h2;let#[i,ei,Z]:=AD (U:=U) (k:=λi=>zK (zW x U) λd=>zK (jX d none ⇑i) λs=>P (.v s) U) Z;let ru:=look (U':=[]) (σ':=[]) (L.mid Y) Y ry ei;cases ru;show#[i,rfl,HG (q:=.non) L Y rx Z M]
def ER(ha:FE X a wa)(hb:FE X b wb)(hc:FE X c wc):FE X (.Subscript a (.Slice ⇑b ⇑c none p2) pos) (fJ wa ⇑wb ⇑wc):=λpn xe hp=>by
 refine PE.imp (Iq (Hz (X:=wp X pn xe)) (ha pn xe hp) (GE (hb pn xe hp)) (GE (hc pn xe hp))) λσ H Q q=>?_;refine(Dp (k:=λx y U2 Q E=>match view y U2 with
  |some (.int i)=>wc U2 (λz J=>match view z J with
   |some (.int j)=>zK (zW x J) λd=>zK (jX d ⇑i ⇑j) λs=>Q (.v s) J
   |_=>False) E
  |_=>False) q).mono λv H1 h1=>h1.mono λu H2 h2=>?_
 obtain⟨F,G,U,x,y,P,PX,L,M,rx,ry,Z,Y,hx⟩:=h2;let#[i,ei,Z]:=AD (U:=U) (k:=λi=>wc U (λz J=>match view z J with
   |some (.int j)=>zK (zW x J) λd=>zK (jX d ⇑i ⇑j) λs=>P (.v s) J
   |_=>False) PX) Z
 let ru:=look (U':=[]) (σ':=[]) (L.mid M) M ry ei;cases ru;let h4:Rel X.K (U++[zM x]) (σ++[⇑v]) F G H2:=by let:=Rel.swap (U1:=[zM x]) (σ1:=[⇑v]) (U2:=[zM y]) (σ2:=[⇑(.int i)]) M rfl L;show Rel.mid (U:=U) (σ:=σ) this M
 refine⟨i,rfl,(nextOf (X:=wp X pn xe) (k:=λx z J P PX=>match view z J with
   |some (.int j)=>zK (zW x J) λd=>zK (jX d ⇑i ⇑j) λs=>P (.v s) J
   |_=>False) h4 rx Z Y hx).mono λt H3 h3=>?_⟩
 let#[F,G,U,x,y,P,PX,L,M,rx,ry,Z,Y,hx]:=h3;let#[j,ej,Z]:=AD (U:=U) (k:=λj=>zK (zW x U) λd=>zK (jX d ⇑i ⇑j) λs=>P (.v s) U) Z;let ru:=look (U':=[]) (σ':=[]) (L.mid M) M ry ej;cases ru;show#[j,rfl,HG (q:=.non) L M rx Z Y]
end FL
namespace FL
open PySem
def uP(f:List Nat->List D->Option S)(o:WE)(a:WA):WE:=λU Q E=>o U (λx F=>match x with
 |.v (.sh (.str l))=>a F (λG v=>zK (G.mapM λr=>zW r v) λJ=>zK (f l J) λs=>Q (.v s) v) E
 |_=>False) E
def bY:List D->Option (List (List Nat))
 |[]=>⇑[]
 |.str x::r=>(bY r).map (x::·)
 |_::_=>none
@[simp] theorem MX(l:List (List Nat)):bY (l.map .str)=some l:=by
  induction l with
  |nil=>rfl
  |cons a r v=>rw[qA,bY,v];rfl
def eA(v:List Nat):List (List Nat)->List Nat
 |[]=>[]
 |[x]=>x
 |x::r=>x++v++eA v r
def Jd(v:List Nat):∀ys:List (List Nat),(eA v ys).length<=(ys.map List.length).sum+ys.length*v.length
 |[]=>zero_le _
 |[x]=>by simp[eA]
 |x::y::r=>by
  let:=Jd v (y::r);rw[eA,qq,qq,qA,List.sum_cons,qt (a:=x),Nat.succ_mul]
  .lia
  .intro h;cases h
def Mu(ys:List (List Nat)):eA [] ys=ys.flatten:=by
 induction ys with
 |nil=>rfl
 |cons x r v=>
  cases r with
  |nil=>simp[eA]
  |cons y r=>rw[eA,v];simp;intro h;cases h
def fW(v:List Nat)(l:List D):Option S:=(bY l).bind λys=>if(ys.map List.length).sum+ys.length*v.length<=big then ⇑(.sh (.str (eA v ys)))else none
def fU(v:List Nat):List D->Option S
 |[.lst l]=>fW v l
 |[.tup l]=>fW v l
 |_=>none
def gG(j:Nat)(e:WE):WE:=λU Q E=>match slot U j with
 |some (.lst _)=>e U (λr v=>match view r v,slot v j with
  |some (.int i),some (.lst l)=>zK (if l.length<=big then ixN l.length i else none) λk=>zK l[k]? λs=>Q (.v s) (v.set j ⇑(.lst (l.eraseIdx k)))
  |_,_=>False) E
 |_=>False
def iH:List D->Option (List Bool)
 |[]=>⇑[]
 |.bl x::r=>(iH r).map (x::·)
 |_::_=>none
@[simp] theorem UW(l:List Bool):iH (l.map .bl)=some l:=by
  induction l with
  |nil=>rfl
  |cons a r v=>rw[qA,iH,v];rfl
def tG:List D->Option S
 |[.lst l]=>(iH l).map λbs=>.sh (.bl (bs.all id))
 |_=>none
end FL
namespace FL
open PySem PySem.Spec PyProof.Rows L2
section
variable{id:String}
def pF(K:W.Frag)(r:V->List V->Hp->VK->Prop)(f:List Nat->List D->Option S):Prop:=∀(σ:St)(U:Env)(F G H:Hp)(x:Str)(vs:List V)(ds:List D)(s:S)(Q:VK),Rel K U σ F G H->x.cps.toList.length<=16777216->iJ K F H vs ds->f x.cps.toList ds=⇑s->
 (∀v F' H',zL F F'->Rel K (U++[⇑s]) (σ++[⇑v]) F' G H'->Q v H')->r (.str x) vs H Q
def Ob(hm:∀pn xe,bo (wp X pn xe) id r)(hd:pF X.K r f)(slot:Slot "str" name id)(h6:typeOf (.builtin id)=pure (.type "method_descriptor"))(ho:FE X o wo)(ha:FA X (e::es) wa)
  (Z:autoParam (attributeBase o name X.env (eval o X.env)=eval o X.env) rZ9)
  (h3:autoParam (((backTo cpos (starEach (e::es) X.env)).all (λx=>!x.1)&&(backToKw cpos (keywordEach [] X.env)).all (λx=>x.1.isSome)
   &&↥((e::es).length+([]:List Keyword).length+(if([]:List Keyword).isEmpty then 0 else 1)<30))=true) rZ9)
  (Y:autoParam ((apos.endLine==cpos.line)=true) rZ9)(hs:autoParam (starEach (e::es) X.env=(false,eval e X.env)::starEach es X.env) rZ9)(M:autoParam ((backTo cpos (starEach es X.env)).any (·.1)=false) rZ9):
  FE X (.Call (.Attribute o name apos) (e::es) [] cpos) (uP f wo wa):=λpn xe hp=>by
 refine PE.imp (EJ (X:=wp X pn xe) PySem.F.plainAttrs_str slot h6 (hm pn xe) (ho pn xe hp) (ha pn xe hp) Z h3 Y hs M) λσ H Q q=>?_;refine(one (k:=λx h4 Q E=>match x with
  |.v (.sh (.str l))=>wa h4 (λrs J=>zK (rs.mapM λr=>zW r J) λds=>zK (f l ds) λs=>Q (.v s) J) E
  |_=>False) q).mono λv H1 h1=>?_
 let#[F,G,U,x,P,PX,h2,hl,rx,hk,h7,hx]:=h1;split at hk
 .rename_i l;let rp:=look (U':=[]) (σ':=[]) (x:=.v (.sh (.str l))) h2 hl rx rfl;cases rp with
  |str e1 z=>rename_i y;subst e1;show#[rfl,F,G,U,_,PX,h2.drop hl,hk,λrs J vs F2 H2 L s2 r2 h8 h5=>?_,hx];let#[ds,ed,L]:=Ai L;let#[s,es,L]:=Ai L;let#[F3,s3,re,r3]:=Bl (U':=[]) (σ':=[]) ↑r2 h8 h5 ed;show hd σ J F3 G H2 y vs ds s Q ↑r3 z re es λv F' H' sm r'=>h7 _ J v F' H' L (s2.trans (s3.trans sm)) r' trivial
 .show hk.elim
end
section
variable{K:W.Frag}
def Gz(r:zY K F xs l)(h:bY l=⇑ys):∃v:List Str,xs=v.map V.str/\ys=v.map λz=>z.cps.toList:=
 zY.ind (P:=λxs l=>∀ys,bY l=⇑ys->∃v:List Str,xs=v.map V.str/\ys=v.map λz=>z.cps.toList) (λys h=>by cases h;show#[[],rfl,rfl]) (λa _ J ys h=>by
  cases a with
  |@str x _ e z=>let#[G,h1,rfl]:=q9.mp h;let#[v,rfl,rfl]:=J _ h1;show#[x::v,rfl,by rw[qA,e]]
  |_=>cases h) r ys h
def IC(v:Str):∀F:List Str,(Str.join v F).cps.toList=eA v.cps.toList (F.map λz=>z.cps.toList)
 |[]=>rfl
 |[x]=>rfl
 |x::y::r=>by show((x++v++Str.join v (y::r):Str)).cps.toList=x.cps.toList++v.cps.toList++eA v.cps.toList ((y::r).map λz=>z.cps.toList);rw[<-IC v (y::r)];show(x.cps++v.cps++(Str.join v (y::r)).cps).toList=_;rw[toList_append,toList_append]
def Fw:∀{us:List Value},zX (ys.map V.str) us->StrsAre us ys:=by
 induction ys with
 |nil=>intro us r;rw[map_nil]at r;cases r;show .nil
 |cons n J G=>
  intro us r;cases r with
  |cons F v=>let#[t,e]:=F;subst e;show .cons n t (G v)
def oF(K:W.Frag):V->List V->Hp->VK->Prop:=λx v H Q=>∃z a ys,x=.str z/\v=[.ref a]/\(bO K H a (ys.map V.str)\/bF K H a (ys.map V.str))/\(ys.map (·.length)).sum+ys.length*z.length<=16777216/\Q (.str (Str.join z ys)) H
def Rg:bo X "str.join" (oF X.K):=by
 intro z4 s σ H x vs v us Q I Y Z h;let#[z,a,ys,rfl,rfl,F,L,q]:=h;let#[t,rfl]:=Y;cases Z with
 |cons r1 r2=>
  cases r2;cases r1;let e:Txt.join z ys=Str.join z ys:=StrLaws.glued_eq_join z ys;rcases F with F|F
  .obtain⟨J,r,G,_⟩:=I.list F;show join_list G.isList (Fw r) L λM k=>#[.str (Str.join z ys),H,I.tok _,#[_,by rw[e]],q]
  .obtain⟨J,r,G,_⟩:=I.tuple F;show join_tuple G (Fw r) L λM k=>#[.str (Str.join z ys),H,I.tok _,#[_,by rw[e]],q]
def MN(L:Rel K U σ F G H)(hq:bO K H a xs\/bF K H a xs)(r:zY K F xs l)(e:fW x.cps.toList l=⇑s)
  (k:∀v F' H',zL F F'->Rel K (U++[⇑s]) (σ++[⇑v]) F' G H'->Q v H'):oF K (.str x) [.ref a] H Q:=by
 let#[ys,e1,Z]:=bind_eq_some_iff.mp e;let#[J,rfl,rfl]:=Gz r e1;split at Z
 .rename_i Y;cases Z;let hl:∀z:Str,z.cps.toList.length=z.length:=λz=>by rw[qY];rfl
  let e3:((J.map λz=>z.cps.toList).map List.length)=J.map (·.length):=by rw[qH];show map_congr_left λz _=>hl z
  let M:=Y;rw[e3,qo]at Y;show#[x,a,J,rfl,rfl,hq,le_trans Y ⋯,k _ F H (zL.refl F) (L.push (.str (IC x J) ?_))];show le_trans (Jd _ _) (le_trans M ⋯)
 .cases Z
def Ud:pF K (oF K) fU:=by
 intro σ U F G H x Z ds s Q J hz L e Y;let#[d,v,rfl,rfl]:=AS (λx y r=>by cases x<;>rfl) rfl L e;cases d with
 |tup l=>let#[a,xs,rfl,h1,M]:=L.1.tup;show MN J (.inr (bF.of (J.fr _ _ h1))) M e Y
 |lst l=>let#[a,xs,rfl,h1,M]:=L.1.lst J.fr;show MN J (.inl h1) M e Y
 |_=>cases e
end
def HW(Y:FE X o L)(Z:FA X [e] wa)
  (G:autoParam (attributeBase o "join" X.env (eval o X.env)=eval o X.env) rZ9)
  (J:autoParam (((backTo cpos (starEach [e] X.env)).all (λx=>!x.1)&&(backToKw cpos (keywordEach [] X.env)).all (λx=>x.1.isSome)
   &&↥([e].length+([]:List Keyword).length+(if([]:List Keyword).isEmpty then 0 else 1)<30))=true) rZ9)
  (F:autoParam ((apos.endLine==cpos.line)=true) rZ9)(M:autoParam (starEach [e] X.env=(false,eval e X.env)::starEach [] X.env) rZ9)(v:autoParam ((backTo cpos (starEach [] X.env)).any (·.1)=false) rZ9):
  FE X (.Call (.Attribute o "join" apos) [e] [] cpos) (uP fU L wa):=Ob (λ_ _=>Rg) Ud PySem.F.slot_str_join PySem.F.type_str_join Y Z G J F M v
section
variable{K:W.Frag}
def zO.erase:∀{xs:List V}{l:List S}{fp:List Addr}{m:Nat}{s:S},zO K F H xs l fp->l[m]?=⇑s->∃y J v G,fp=J++(v++G)/\xs[m]?=⇑y/\aK K F H y s v/\zO K F H (xs.eraseIdx m) (l.eraseIdx m) (J++G)
 |_,_,_,_,_,.nil,h=>by simp at h
 |_,_,_,0,s,.cons (x:=x) (fp:=fp) (fq:=fq) a b,h=>by let e:=qf h;subst e;show#[x,[],fp,fq,rfl,rfl,a,b]
 |_,_,_,m+1,s,.cons (fp:=fp) (fq:=fq) a b,h=>by let#[y,J,v,G,rfl,h1,h2,L]:=zO.erase (m:=m) b h;show#[y,fp++J,v,G,(qp ..).symm,h1,h2,?_];rw[qp];show .cons a L
def Rel.popItem{D:Addr}(r:Rel K U σ F G H)(hs:slot U n=⇑(.lst l))(Z:σ[n]?=⇑⇑(.ref D))(hm:l[m]?=⇑s):
  ∃xs y,H D=⇑(.lst xs)/\xs.length=l.length/\xs[m]?=⇑y/\Rel K (U.set n ⇑(.lst (l.eraseIdx m))++[⇑s]) (σ++[⇑y]) F G (upd H D (.lst (xs.eraseIdx m))):=by
 let#[fp,e,nd,ap]:=r.en;let#[v',fa,fi,Y,e1,rfl,q,up]:=e.at hs;rw[Z]at e1;let e2:V.ref D=v':=↑e1
 subst e2;cases q with
 |lst hD rl=>
  rename_i xs fl;let#[y,ga,M,L,rfl,hy,sr,h2]:=rl.erase hm;show#[xs,y,hD,rl.len,hy,?_];let#[na,v,h3]:=qx.mp nd;let#[ni,nb,v]:=qx.mp v;let#[nD,h8]:=qO.mp ni;let h7:D∉fa:=λz=>h3 D z D (qj _ qm) rfl;let h6:D∉Y:=λz=>v D qm D z rfl;let h1:=ap D (qi _ (qj _ qm));let ne:∀{l:List Addr},D∉l->∀x∈l,upd H D (.lst (xs.eraseIdx m)) x=H x:=λh x J=>Al λz=>h (z▸J);let h5:D∉ga++L:=λz=>nD ((qz.mp z).elim (λw=>qj _ w) λw=>qi _ (qi _ w));let h4:D∉M:=λz=>nD (qi _ (qj _ z));let new:aK K F (upd H D (.lst (xs.eraseIdx m))) (.ref D) (.lst (l.eraseIdx m)) (D::(ga++L)):=.lst AV (h2.mono (zL.refl F) (ne h5));let a2:=up (F':=F) (H':=upd H D (.lst (xs.eraseIdx m))) (o:=⇑(.lst (l.eraseIdx m))) (u:=⇑(.ref D)) (zL.refl F) (λx J=>Al λz=>(qz.mp J).elim (λw=>h7 (z▸w)) λw=>h6 (z▸w)) (.so new .nil);rw[Fp Z]at a2;let a3:=a2.app (.so (sr.mono (zL.refl F) (ne h4)) .nil);let pm:(fa++((D::(ga++L))++[]++Y)++(M++[])).Perm (fa++((D::(ga++(M++L)))++Y)):=by simp;show List.Perm.append_left _ (List.Perm.cons _ (List.Perm.append_left _ ?_));rw[<-qp M L Y,<-qp L Y M];show(qQ (l₁:=L++Y) (l₂:=M)).trans ?_;rw[qp]
  show#[zL.updR r.fr h1.1,λx o w=>?_,_,a3,pm.nodup_iff.mpr nd,λx J=>ap x (pm.mem_iff.mp J)];let J:x≠D:=λz=>by rw[z,h1.2]at w;cases w
  rw[Al J];show r.gr x o w
end
def LK(ho:FE X o (zG j))(he:FE X e we)
  (h2:autoParam (attributeBase o "pop" X.env (eval o X.env)=eval o X.env) rZ9)
  (h5:autoParam (((backTo cpos (starEach [e] X.env)).all (λx=>!x.1)&&(backToKw cpos (keywordEach [] X.env)).all (λx=>x.1.isSome)
   &&↥([e].length+([]:List Keyword).length+(if([]:List Keyword).isEmpty then 0 else 1)<30))=true) rZ9)
  (h1:autoParam ((apos.endLine==cpos.line)=true) rZ9)(hs:autoParam (starEach [e] X.env=[(false,eval e X.env)]) rZ9):FE X (.Call (.Attribute o "pop" apos) [e] [] cpos) (gG j we):=λpn xe hp=>by
 refine PE.imp (EJ (X:=wp X pn xe) PySem.F.plainAttrs_list PySem.F.slot_list_pop PySem.F.type_list_pop Su (ho pn xe hp) (Aa he Ab hs pn xe hp) h2 h5 h1 hs rfl) λσ H Q q=>?_;let#[F,G,U,P,PX,h6,hw,h7,hx]:=q;let Y:(match slot U j with
  |some (.lst _)=>we U (λr J=>match view r J,slot J j with
   |some (.int i),some (.lst l)=>zK (if l.length<=big then ixN l.length i else none) λk=>zK l[k]? λs=>P (.v s) (J.set j ⇑(.lst (l.eraseIdx k)))
   |_,_=>False) PX
  |_=>False):=hw
 cases qs:slot U j with
 |none=>rw[qs]at Y;show Y.elim
 |some s0=>
  cases s0 with
  |lst l0=>
   rw[qs]at Y;show#[F,G,U,λy Z=>y=.loc j/\Z=U,PX,h6,by unfold zG;rw[qs];show#[rfl,rfl],λy Z o' F1 H1 L s1 r1 rv=>?_,hx];let#[rfl,rfl]:=L;let l1:=Ag r1;let h3:σ[j]?=⇑⇑o':=rv;let r2:=r1.drop l1;let#[v',fp,e1,sr]:=r2.at qs;rw[h3]at e1;let e2:o'=v':=↑e1
   subst e2;cases sr with
   |lst hD rl=>
    rename_i a xs fl;show#[.inl #[rfl,_,bO.of hD],F1,G,Z,λrs J=>match rs with|[r]=>(match view r J,slot J j with|some (.int i),some (.lst l)=>zK (if l.length<=big then ixN l.length i else none) λk=>zK l[k]? λs=>P (.v s) (J.set j ⇑(.lst (l.eraseIdx k)))|_,_=>False)|_=>False,PX,r2,Y,λrs J vs F2 H2 L s2 r3 hl M=>?_,hx.grow s1];match rs,vs,M,r3,L with
    |[r],[v],M,r3,L=>
     dsimp only at L;split at L
     .rename_i i l ei ql;let#[m,em,L]:=Ai L;let#[s,es,L]:=Ai L;let rp:=look (U':=[]) (σ':=[]) r3 hl M.1 ei;cases rp;split at em
      .rename_i hz;let r4:=r3.drop hl;let#[ys,y,h8,h4,hy,r5]:=Rel.popItem r4 ql h3 es;rw[<-h4]at em hz;let#[b1,b2,b3,b4]:=HZ em;let hb:ys.length<=1000000:=hz;show#[a,ys,i,m,y,rfl,rfl,h8,∅,∅,b1,hy,h7 _ _ y F2 _ L (s1.trans s2) r5 trivial]
      .cases em
     .show L.elim
    |[],_,_,_,L=>show L.elim
    |[_],[],M,_,_=>show M.elim
    |[_],_::_::_,M,_,_=>show M.2.elim
    |_::_::_,_,_,_,L=>show L.elim
  |_=>rw[qs]at Y;show Y.elim
section
variable{K:W.Frag}
def Sw:cO K (λxs H Q=>∃i j,xs=[.int i,.int j]/\Q (.int (if j>i then j else i)) H) mT:=by
 intro σ U F G H Z ds s Q J L e M;let#[d,Y,v,u,rfl,rfl]:=Gj (λx=>by cases x<;>rfl) (λx y z r=>by cases x<;>first|rfl|(cases y<;>rfl)) rfl L e;cases d with
 |int i=>
  cases Y with
  |int j=>cases e;let h1:=L.1.int;let h2:=L.2.1.int;subst h1;subst h2;show#[i,j,rfl,M _ F H (zL.refl F) (J.push (.int _))]
  |_=>cases e
 |_=>cases e
def TM:cO K (λxs H Q=>∃i j,xs=[.int i,.int j]/\Q (.int (if j<i then j else i)) H) kT:=by
 intro σ U F G H Z ds s Q J L e M;let#[d,Y,v,u,rfl,rfl]:=Gj (λx=>by cases x<;>rfl) (λx y z r=>by cases x<;>first|rfl|(cases y<;>rfl)) rfl L e;cases d with
 |int i=>
  cases Y with
  |int j=>cases e;let h1:=L.1.int;let h2:=L.2.1.int;subst h1;subst h2;show#[i,j,rfl,M _ F H (zL.refl F) (J.push (.int _))]
  |_=>cases e
 |_=>cases e
def HI(M:X.calm=true)(J:Gl X "max")(G:X.mg "max"=none)(F:bootBuiltins "max"=⇑(.builtin "max"))(Y:FA X (e::es) wa)(L:autoParam (starEach (e::es) X.env=(false,eval e X.env)::starEach es X.env) rZ9)(v:autoParam ((backTo pos (starEach es X.env)).any (·.1)=false) rZ9):FE X (.Call (.Name "max" p) (e::es) [] pos) (wB mT wa):=
 DY (λ_ _=>TU M) Sw J G F Y ⋯ ⋯ L v
def Gs(M:X.calm=true)(J:Gl X "min")(G:X.mg "min"=none)(F:bootBuiltins "min"=⇑(.builtin "min"))(Y:FA X (e::es) wa)(L:autoParam (starEach (e::es) X.env=(false,eval e X.env)::starEach es X.env) rZ9)(v:autoParam ((backTo pos (starEach es X.env)).any (·.1)=false) rZ9):FE X (.Call (.Name "min" p) (e::es) [] pos) (wB kT wa):=
 DY (λ_ _=>UE M) TM J G F Y ⋯ ⋯ L v
def LD:∀{xs:List V}{l:List D}{ys:List Bool},zY K F xs l->iH l=⇑ys->xs=ys.map V.bl
 |_,_,ys,.nil,h=>by cases h;rfl
 |_,d::l,ys,.cons a b,h=>by
  cases a with
  |bl c=>let#[v,h1,rfl]:=q9.mp h;rw[LD b h1];rfl
  |_=>cases h
def Wh:∀{us:List Value},zX (ys.map V.bl) us->LSm.BoolsAre us ys:=by
 induction ys with
 |nil=>intro us r;rw[map_nil]at r;cases r;show .nil
 |cons n J G=>
  intro us r;cases r with
  |cons F v=>cases F;show .cons n (G v)
end
def Vu(Y:A.handled=none)(G:s.heap.IsList l vs.toArray)(J:LSm.BoolsAre vs bs)(h:∀h' tk,(∀b x,s.heap.get? b=⇑x->h'.get? b=⇑x)->Q (.bool (bs.all id)) {s with heap:=h',toks:=tk}):
  wpAny (model prog w) A (call (.builtin "all") [.ref l]) Q E s:=by
 let F:l<s.heap.objs.size:=by let#[_,e,_]:=G;show qe e
 refine call_all_walk (wpAny_pyIter_list G ?_);refine⟨s.heap.objs.size,[s.heap.objs.size,l],[s.heap.objs.size],vs.toArray.size,_,_,λi=>(bs[i]?).getD true,rfl,Walks.list (A:=A.in1) Y _ l (ne_of_lt F) vs.toArray,
  #[#[_,qd _ rfl,rfl,rfl],G.push _],λi v s' Q' E' Z L=>?_,λh' tk M=>?_⟩
 .obtain⟨b,e,rfl⟩:=J.get i v ↑Z;simp only[e]at L;show wpAny_truthy_bool L
 .let e:((List.range vs.toArray.size).all λi=>(bs[i]?).getD true)=bs.all id:=by rw[qr,J.length];exact LSm.range_all bs
  rw[e];show h h' tk (LSm.kept_iter M)
section
variable{K:W.Frag}
def dr(K:W.Frag):List V->Hp->VK->Prop:=λxs H Q=>∃(a:Addr)(bs:List Bool),xs=[.ref a]/\bO K H a (bs.map V.bl)/\Q (.bl (bs.all id)) H
def Vd(M:X.calm=true):aU X (.builtin "all") (dr X.K):=by
 intro z4 s σ H xs Y Q I r h;let#[a,bs,rfl,L,q]:=h;cases r with
 |cons F v=>cases v;cases F;let#[J,r,G,_]:=I.list L;show Vu (I.ok.hd M) G.isList (Wh r) λh' tk k=>#[.bl _,H,I.kept k,rfl,q]
def Tz:cO K (dr K) tG:=by
 intro σ U F G H vs ds s Q J L e Y;let#[d,v,rfl,rfl]:=AS (λx y r=>by cases x<;>rfl) rfl L e;cases d with
 |lst l=>let#[bs,Z,rfl]:=q9.mp e;let#[a,xs,rfl,h1,M]:=L.1.lst J.fr;let:=LD M Z;subst this;show#[a,bs,rfl,h1,Y _ F H (zL.refl F) (J.push (.bl _))]
 |_=>cases e
def PJ(M:X.calm=true)(J:Gl X "all")(G:X.mg "all"=none)(F:bootBuiltins "all"=⇑(.builtin "all"))(Y:FA X (e::es) wa)(L:autoParam (starEach (e::es) X.env=(false,eval e X.env)::starEach es X.env) rZ9)(v:autoParam ((backTo pos (starEach es X.env)).any (·.1)=false) rZ9):FE X (.Call (.Name "all" p) (e::es) [] pos) (wB tG wa):=
 DY (λpn xe=>Vd (X:=wp X pn xe) M) Tz J G F Y ⋯ ⋯ L v
end
end FL
namespace FL
open PySem
mutual
def jA:D->D->Ordering
 |.int i,.int j=>if i<j then .lt else if j<i then .gt else .eq
 |.str x,.str y=>if x<y then .lt else if y<x then .gt else .eq
 |.tup l,.tup m=>cN l m
 |_,_=>.eq
def cN:List D->List D->Ordering
 |[],[]=>.eq
 |[],_::_=>.lt
 |_::_,[]=>.gt
 |a::l,b::m=>match jA a b with
  |.eq=>cN l m
  |o=>o
end
def gZ(a b:D):Bool:=match jA a b with
 |.gt=>false
 |_=>true
@[simp] theorem Qn(i j:Int):gZ (.int i) (.int j)=decide (i<=j):=by
  show(match(if i<j then Ordering.lt else if j<i then .gt else .eq)with|.gt=>false|_=>true)=_;by_cases h:i<j
  .rw[zj h,qU ∅]
  .rw[zk h];by_cases h2:j<i
   .rw[zj h2,qV ∅]
   .rw[zk h2,qU ∅]
@[simp] theorem Lb(x y:List Nat):gZ (.str x) (.str y)=!decide (y<x):=by
  show(match(if x<y then Ordering.lt else if y<x then .gt else .eq)with|.gt=>false|_=>true)=_;by_cases h:x<y
  .rw[zj h,qV (λh'=>lt_asymm h h')];rfl
  .rw[zk h];by_cases h2:y<x
   .rw[zj h2,qU h2];rfl
   .rw[zk h2,qV h2];rfl
def mS(x:D):List D->List D
 |[]=>[x]
 |y::r=>if gZ x y then x::y::r else y::mS x r
def bQ:List D->List D
 |[]=>[]
 |x::r=>mS x (bQ r)
def IR(x:D):∀l:List D,(mS x l).Perm (x::l)
 |[]=>.refl _
 |y::r=>by
  unfold mS;split
  .show .refl _
  .show(List.Perm.cons y (IR x r)).trans (.swap x y r)
def EF:∀l:List D,(bQ l).Perm l
 |[]=>.refl _
 |x::r=>(IR x _).trans (.cons x (EF r))
structure fY(P:D->Prop):Prop where
 tot:∀a b,P a->P b->gZ a b=true\/gZ b a=true
 tr:∀a b c,P a->P b->P c->gZ a b=true->gZ b c=true->gZ a c=true
 anti:∀a b,P a->P b->gZ a b=true->gZ b a=true->a=b
def NR(o:fY P)(x:D)(F:P x):∀l:List D,(∀d∈l,P d)->l.Pairwise (gZ · ·=true)->(mS x l).Pairwise (gZ · ·=true)
 |[],_,_=>List.pairwise_singleton _ _
 |y::r,hp,h=>by
  let#[h1,h2]:=pairwise_cons.mp h;let G:=hp y qm;let J:∀d∈r,P d:=λd v=>hp d (qk _ v);unfold mS;split
  .rename_i c;show pairwise_cons.mpr #[λd v=>?_,h];rcases qC.mp v with rfl|v
   .show c
   .show o.tr x y d F G (J d v) c (h1 d v)
  .rename_i c;show pairwise_cons.mpr #[λd v=>?_,NR o x F r J h2];rcases qC.mp ((IR x r).mem_iff.mp v)with rfl|v
   .show(o.tot d y F G).resolve_left c
   .show h1 d v
def Jk(o:fY P):∀l:List D,(∀d∈l,P d)->(bQ l).Pairwise (gZ · ·=true)
 |[],_=>.nil
 |x::r,hp=>NR o x (hp x qm) _ (λd v=>hp d (qk _ ((EF r).mem_iff.mp v))) (Jk o r λd v=>hp d (qk _ v))
def NL(o:fY P):∀l m:List D,(∀d∈l,P d)->l.Perm m->l.Pairwise (gZ · ·=true)->m.Pairwise (gZ · ·=true)->l=m
 |[],m,_,p,_,_=>(List.nil_perm.mp p).symm
 |x::r,[],_,p,_,_=>absurd p.length_eq (by simp)
 |x::r,y::t,hp,p,h1,h2=>by
  obtain⟨a1,a2⟩:=pairwise_cons.mp h1;let#[L,J]:=pairwise_cons.mp h2;let F:=hp x qm;let v:P y:=hp y (p.mem_iff.mpr qm);let e:x=y:=by
   let m1:x∈y::t:=p.mem_iff.mp qm;let m2:y∈x::r:=p.mem_iff.mpr qm;rcases qC.mp m1 with e|m1
   .show e
   .rcases qC.mp m2 with e|m2
    .show e.symm
    .show o.anti x y F v (a1 y m2) (L x m1)
  subst e;rw[NL o r t (λd G=>hp d (qk _ G)) (List.Perm.cons_inv p) a2 J]
def EB(o:fY P)(v:∀d∈l,P d)(p:m.Perm l)(h:m.Pairwise (gZ · ·=true)):bQ l=m:=
 NL o _ _ (λd F=>v d ((EF l).mem_iff.mp F)) ((EF l).trans p.symm) (Jk o l v) h
def uC:D->Prop
 |.int _=>True
 |_=>False
def pE:D->Prop
 |.str _=>True
 |_=>False
def Le:fY uC where
 tot
  |.int a,.int b,_,_=>by simp;lia
 tr
  |.int a,.int b,.int c,_,_,_=>by simp;lia
 anti
  |.int a,.int b,_,_=>by simp;intro h1 h2;rw[Int.le_antisymm h1 h2]
def GJ:fY pE where
 tot
  |.str a,.str b,_,_=>by
   simp;by_cases h:b<a
   .show .inr λh'=>lt_asymm h h'
   .show .inl h
 tr
  |.str a,.str b,.str c,_,_,_=>by simp;intro h1 h2;show λh=>(List.le_trans (l₁:=a) (l₂:=b) (l₃:=c) h1 h2) h
 anti
  |.str a,.str b,_,_=>by simp;intro h1 h2;let:a=b:=List.le_antisymm (as:=a) (bs:=b) h1 h2;rw[this]
def cQ:List D->Option (List Int)
 |[]=>⇑[]
 |.int x::r=>(cQ r).map (x::·)
 |_::_=>none
@[simp] theorem Eu(l:List Int):cQ (l.map .int)=some l:=by
  induction l with
  |nil=>rfl
  |cons a r v=>rw[qA,cQ,v];rfl
def jH(l:List D):Option S:=if l.length<64/\((cQ l).isSome\/(bY l).isSome)then ⇑(.lst ((bQ l).map .sh))else none
def tE:List D->Option S
 |[.lst l]=>jH l
 |_=>none
end FL
namespace FL
open PySem PySem.Spec PyProof.Rows L2
section
variable{K:W.Frag}
def Ig(r:zY K F xs l)(h:cQ l=⇑ys):xs=ys.map V.int/\l=ys.map D.int:=
 zY.ind (P:=λxs l=>∀ys,cQ l=⇑ys->xs=ys.map V.int/\l=ys.map D.int) (λys h=>by cases h;show#[rfl,rfl]) (λa _ G ys h=>by
  cases a with
  |int c=>let#[v,h1,rfl]:=q9.mp h;let#[L,J]:=G _ h1;rw[L,J];show#[rfl,rfl]
  |_=>cases h) r ys h
def Fu:∀{us:List Value}{ns:List Int},IntsAre us ns->zX (ns.map V.int) us
 |_,_,.nil=>.nil
 |_,_,.cons i t r=>.cons #[t,rfl] (Fu r)
def IS:∀{us:List Value}{ns:List Str},StrsAre us ns->zX (ns.map V.str) us
 |_,_,.nil=>.nil
 |_,_,.cons i t r=>.cons #[t,rfl] (IS r)
def iT(K:W.Frag):List V->Hp->VK->Prop:=λxs H Q=>∃a,xs=[.ref a]/\
 ((∃ns:List Int,ns.length<64/\bO K H a (ns.map V.int)/\∀F:List Int,F.Perm ns->F.Pairwise (·<=·)->∀q,H q=none->Q (.ref q) (upd H q (.lst (F.map V.int))))\/
  (∃G:List Str,G.length<64/\bO K H a (G.map V.str)/\∀v:List Str,v.Perm G->sortedS v=true->∀q,H q=none->Q (.ref q) (upd H q (.lst (v.map V.str)))))
def Wp:aU X (.builtin "sorted") (iT X.K):=by
 intro z4 s σ H xs us Q I r h;let#[a,rfl,h]:=h;cases r with
 |cons r1 r2=>
  cases r2;cases r1;rcases h with⟨ns,L,Z,q⟩|⟨zs,L,Z,q⟩
  .obtain⟨G,r,M,_⟩:=I.list Z;let J:G.length=ns.length:=by let:=r.length;rw[qo]at this;exact this.symm
   show sorted_ints M.isList (Hl r) (by rw[J];show L) λF v a1 a2 a3=>?_;let#[e,he]:=sortedAll_at s.heap G F;let Y:v.length<=sizeLine:=by rw[a2.length_eq,zv];lia
   show#[.ref (s.heap.objs.size+1),_,I.laid (t':=s.toks) (o:=.lst (v.map V.int)) (λb ob w=>sortedAll_old w) (le_succ _) ?_,rfl,q v a2 a3 _ (I.hok.fresh (le_succ _))];show#[by rw[qo];show Y,F.toList,e,Fu a1,by rw[toArray_toList];show he]
  .obtain⟨G,r,M,_⟩:=I.list Z;let J:G.length=zs.length:=by let:=r.length;rw[qo]at this;exact this.symm
   show sorted_strs M.isList (Fw r) (by rw[J];show L) λF v a1 a2 a3=>?_;let#[e,he]:=sortedAll_at s.heap G F;let Y:v.length<=sizeLine:=by rw[a2.length_eq,zv];lia
   show#[.ref (s.heap.objs.size+1),_,I.laid (t':=s.toks) (o:=.lst (v.map V.str)) (λb ob w=>sortedAll_old w) (le_succ _) ?_,rfl,q v a2 a3 _ (I.hok.fresh (le_succ _))];show#[by rw[qo];show Y,F.toList,e,IS a1,by rw[toArray_toList];show he]
def GS:∀ns:List Int,zY K F (ns.map V.int) (ns.map D.int)
 |[]=>.nil
 |n::ns=>.cons (.int n) (GS ns)
def IM:∀v:List Str,(∀z∈v,z.cps.toList.length<=16777216)->zY K F (v.map V.str) (v.map λz=>D.str z.cps.toList)
 |[],_=>.nil
 |z::v,h=>.cons (.str rfl (h z qm)) (IM v λy G=>h y (qk _ G))
def IX:∀{xs:List V}{l:List D}{v:List Str},zY K F xs l->xs=v.map V.str->l=(v.map λz=>D.str z.cps.toList)/\∀z∈v,z.cps.toList.length<=16777216
 |_,_,[],.nil,_=>#[rfl,λ_ h=>by cases h]
 |_,_,_::_,.nil,h=>by simp at h
 |_,_,[],.cons _ _,h=>by simp at h
 |_,_,z::v,.cons a b,h=>by
  injection h with h1 h2
  subst h1;let#[e,k]:=IX b h2;cases a with
  |str L J=>
   subst L;show#[by rw[e];rfl,λy G=>?_];rcases qC.mp G with rfl|G
   .show J
   .show k y G
def MI:∀(r:List Str)(p:Str),risingS p r=true->((p::r).map λz=>D.str z.cps.toList).Pairwise (gZ · ·=true)
 |[],p,_=>List.pairwise_singleton _ _
 |x::r,p,h=>by
  let h':(!ltCps x.cps.toList p.cps.toList&&risingS x r)=true:=h;rw[and_eq_true,ltCps_eq]at h';let G:=MI r x h'.2;let F:gZ (.str p.cps.toList) (.str x.cps.toList)=true:=by rw[Lb];show h'.1
  show pairwise_cons.mpr #[λd v=>?_,G];rcases qC.mp v with rfl|v
  .show F
  .obtain⟨z,_,rfl⟩:=qN.mp v;show GJ.tr _ (.str x.cps.toList) _ trivial trivial trivial F ((pairwise_cons.mp G).1 _ v)
def Nm:∀r:List Str,sortedS r=true->(r.map λz=>D.str z.cps.toList).Pairwise (gZ · ·=true)
 |[],_=>.nil
 |x::r,h=>MI r x h
def Wz:cO K (iT K) tE:=by
 intro σ U F G H vs ds s Q L re e Z;let#[d,v,rfl,rfl]:=AS (λx y r=>by cases x<;>rfl) rfl re e;cases d with
 |lst l=>
  let e:jH l=⇑s:=e;unfold jH at e;split at e
  .rename_i hc;cases e;let#[a,xs,rfl,h1,r1]:=re.1.lst L.fr;show#[a,rfl,?_];cases q1:cQ l with
   |some ns=>let#[e1,e2]:=Ig r1 q1;subst e1;subst e2;show .inl #[ns,by let:=hc.1;rwa[qo]at this,h1,λY p pw q M=>?_];let es:bQ (ns.map D.int)=Y.map D.int:=EB Le (λd hd=>by let#[z,_,rfl]:=qN.mp hd;trivial) (p.map _) (pairwise_map.mpr (pw.imp λ{a b} h=>by rw[Qn];show qU h));rw[es]at Z;show Z _ F _ (zL.refl F) (L.newLD M (GS Y))
   |none=>
    cases q2:bY l with
    |none=>rw[q1,q2]at hc;simp at hc
    |some ys=>let#[zs,e1,e2]:=Gz r1 q2;subst e1;let#[e3,sm]:=IX r1 rfl;subst e3;show .inr #[zs,by let:=hc.1;rwa[qo]at this,h1,λJ p pw q M=>?_];let es:bQ (zs.map λz=>D.str z.cps.toList)=J.map λz=>D.str z.cps.toList:=EB GJ (λd hd=>by let#[z,_,rfl]:=qN.mp hd;trivial) (p.map _) (Nm J pw);rw[es]at Z;show Z _ F _ (zL.refl F) (L.newLD M (IM J λz hz=>sm z (p.mem_iff.mp hz)))
  .cases e
 |_=>cases e
end
def Wt(F:∀id,v≠.builtin id)(h:Q (.bool (v==.bool d)) s):wpAny M A (compareOp .Is v (.bool d)) Q E s:=by cases v<;>first|show qb h|show absurd rfl (F _)
section
variable{K:W.Frag}
def zP.bool_iff(r:zP x v)(d:Bool):(v==Value.bool d)=↥(x=.bl d):=by
 cases x with
 |bl b=>cases r;cases b<;>cases d<;>rfl
 |_=>first
  |(cases r;rfl)
  |(let#[t,rfl]:=r;rfl)
def zP.noBuiltin(r:zP x v):∀id,v≠.builtin id:=by
 intro id e;subst e;cases x<;>first
  |(cases r;done)
  |(let#[t,h]:=r;cases h)
def ly(neg:Bool):R2:=λx y H Q=>(y=.non/\Q (.bl (if neg then !decide (x=.non)else ↥(x=.non))) H)\/∃b,y=.bl b/\Q (.bl (if neg then !decide (x=.bl b)else ↥(x=.bl b))) H
def Kr:OpR X (compareOp .Is) (ly false):=by
 intro z4 s σ H x y v u Q I F G h;rcases h with⟨rfl,q⟩|⟨b,rfl,q⟩
 .show PD z4 s σ H x .non v u Q I F G #[rfl,q]
 .cases G;show Wt (zP.noBuiltin F) #[.bl _,H,I,by rw[zP.bool_iff F];rfl,q]
open Classical in
def Qb(G:aR K H x p)(F:aR K H y q)(e:pK p q=⇑k)(J:Q (.bl (if neg then !k else k)) H):ly neg x y H Q:=by
 cases q with
 |non=>
  cases F;let v:↥(p=.non)=k:=qf e;let:↥(x=V.non)=k:=by rw[<-v];cases G<;>simp
  show .inl #[rfl,by rw[this];show J]
 |bl b=>
  cases F;let v:↥(p=.bl b)=k:=qf e;let:↥(x=V.bl b)=k:=by rw[<-v];cases G<;>simp
  show .inr #[b,rfl,by rw[this];show J]
 |_=>cases e
def Kw:cR K (ly false) pK:=λH x y p q k Q F v e G=>Qb F v e G
end
mutual
def dI:D->PyData
 |.non=>.none
 |.bl b=>.bool b
 |.int i=>.int i
 |.str l=>.str #[l.toArray]
 |.tup l=>.tuple (dE l)
 |.lst l=>.list (dE l)
 |_=>.none
def dE:List D->List PyData
 |[]=>[]
 |d::r=>dI d::dE r
end
mutual
def jI:D->Bool
 |.non=>true
 |.bl _=>true
 |.int i=>↥(i.natAbs.log2<1920)
 |.str _=>true
 |.tup l=>dS l
 |.lst l=>dS l
 |_=>false
def dS:List D->Bool
 |[]=>true
 |d::r=>jI d&&dS r
end
def ft:D->Bool
 |.tup _=>true
 |.lst _=>true
 |_=>false
mutual
theorem Ni:∀d:D,jI d=true->(dI d).showable=true
 |.non,_=>rfl
 |.bl _,_=>rfl
 |.int i,h=>h
 |.str _,_=>rfl
 |.tup l,h=>Ji l h
 |.lst l,h=>Ji l h
 |.dct _ _ _,h=>by cases h
 |.set _,h=>by cases h
 |.exc _ _ _,h=>by cases h
theorem Ji:∀l:List D,dS l=true->PyData.showableAll (dE l)=true
 |[],_=>rfl
 |d::r,h=>by rw[dS,and_eq_true]at h;rw[dE,PyData.showableAll,Ni d h.1,Ji r h.2];rfl
end
mutual
theorem Ms:∀d:D,(dI d).hasDict=false
 |.non=>rfl
 |.bl _=>rfl
 |.int i=>rfl
 |.str _=>rfl
 |.tup l=>IT l
 |.lst l=>IT l
 |.dct _ _ _=>rfl
 |.set _=>rfl
 |.exc _ _ _=>rfl
theorem IT:∀l:List D,PyData.hasDictAll (dE l)=false
 |[]=>rfl
 |d::r=>by rw[dE,PyData.hasDictAll,Ms d,IT r];rfl
end
mutual
theorem LJ:∀d:D,(dI d).depth<=fL d
 |.non=>zm _
 |.bl _=>zm _
 |.int i=>zm _
 |.str _=>zm _
 |.tup l=>succ_le_succ (Ja l)
 |.lst l=>succ_le_succ (Ja l)
 |.dct _ _ _=>zm _
 |.set _=>zm _
 |.exc _ _ _=>zm _
theorem Ja:∀l:List D,PyData.depthAll (dE l)<=bD l
 |[]=>zm _
 |d::r=>by let h1:=LJ d;let h2:=Ja r;simp only[dE,PyData.depthAll,bD];lia
end
def RL(I:Inv X z4 σ H s)(q:aR X.K H v d)(r:zP v u)(h:jI d=true):∃as,Reads s.heap u (dI d) as:=by
 show aR.rec (motive_1:=λv d _=>∀u,zP v u->jI d=true->∃as,Reads s.heap u (dI d) as) (motive_2:=λZ l _=>∀us,zX Z us->dS l=true->∃as,ReadsAll s.heap us (dE l) as) ?_ ?_ ?_ ?_ ?_ ?_ ?_ ?_ ?_ ?_ ?_ ?_ q u r h
 .intro u r _;cases r;show#[[],.none]
 .intro b u r _;cases r;show#[[],.bool b]
 .intro i u r _;let#[t,rfl]:=r;show#[[],.int i t]
 .intro x l e z u r _;let#[t,rfl]:=r;subst e;show#[[],.str _ t]
 .intro a xs Y e q L u r h;cases r;let#[J,F,#[o,g,c,n,M],_]:=I.tuple (bF.of e);let#[as,G]:=L _ F h;show#[as,.tuple g c M G]
 .intro a xs Y e q L u r h;cases r;let#[J,F,#[o,n,g,c,_,M],_]:=I.list e;let#[as,G]:=L _ F h;show#[_::as,.list g c M G]
 .intro _ _ _ _ _ _ _ _ _ _ h;cases h
 .intro _ _ _ _ _ _ _ _ _ _ h;cases h
 .intro _ _ _ _ _ _ _ _ h;cases h
 .intro _ _ _ _ _ _ _ _ _ _ _ h;cases h
 .intro us r _;cases r;show#[[],.nil]
 .intro x d xs Y _ _ i1 i2 us r h;rw[dS,and_eq_true]at h;cases r with
  |cons r1 r2=>let#[as,h1]:=i1 _ r1 h.1;let#[bs,h2]:=i2 _ r2 h.2;show#[as++bs,.cons h1 h2]
end FL
namespace FL
open PySem
def gq(l m:List Nat)(i:Nat):Bool:=↥(i+m.length<=l.length)&&↥((l.drop i).take m.length=m)
def gS(l m:List Nat):Option Nat:=(List.range (l.length+1)).find? (gq l m)
def eM:List D->Option S
 |[.tup l]=>⇑(.lst (l.map .sh))
 |[.lst l]=>⇑(.lst (l.map .sh))
 |[.str l]=>if l.length<=big then ⇑(.lst (l.map λc=>.sh (.str [c])))else none
 |_=>none
def bw:D->String
 |.non=>"NoneType"
 |.bl _=>"bool"
 |.int _=>"int"
 |.str _=>"str"
 |.tup _=>"tuple"
 |.lst _=>"list"
 |.dct _ _ _=>"dict"
 |.set _=>"set"
 |.exc _ _ _=>"?"
def kR(T:String)(d:D):Bool:=bw d==T||(bw d=="bool"&&T=="int")
def iC:D->Bool
 |.exc _ _ _=>false
 |_=>true
def uQ(T:String)(a:WE):WE:=λU Q E=>a U (λx v=>zK (view x v) λd=>iC d=true/\Q (.v (.sh (.bl (kR T d)))) v) E
theorem find?_first(h:i<n)(v:p i=true)(hn:∀k,k<i->p k=false):(List.range n).find? p=⇑i:=by first|rfl|assumption|(simp_all;done)
theorem find?_not(hn:∀k,p k=false):(List.range n).find? p=none:=by grind
end FL
namespace FL
open PySem PySem.Spec PyProof.Rows L2
section
variable{K:W.Frag}
theorem zmc:StrLaws.At x y x.length i↔gq x.cps.toList y.cps.toList i=true:=by
 let h1:x.length=x.cps.toList.length:=by show x.cps.size=_;rw[qY]
 let h2:y.length=y.cps.toList.length:=by show y.cps.size=_;rw[qY]
 unfold StrLaws.At gq Builtin.Str.subAt;rw[and_eq_true,qW,qW,h2,beq_iff_eq];show and_congr_right λ_=>?_;rw[<-Array.toList_inj,Array.toList_extract,List.extract_eq_take_drop];let:i+y.cps.toList.length-i=y.cps.toList.length:=∅
 rw[this]
def Rc(x y:Str):Txt.find x y=(match gS x.cps.toList y.cps.toList with|some i=>(i:Int)|none=>-1):=by
 have v:∀{i},¬StrLaws.At x y x.length i->gq x.cps.toList y.cps.toList i=false:=λ{i} h=>by
  cases q:gq x.cps.toList y.cps.toList i with
  |false=>rfl
  |true=>show absurd (zmc.mpr q) h
 rcases find_whole x y with⟨e,h⟩|⟨i,e,hi,h⟩
 .rw[e];unfold gS;rw[find?_not λk=>v (h k)]
 .rw[e];unfold gS;let G:=hi.1;let h1:x.length=x.cps.toList.length:=by show x.cps.size=_;rw[qY]
  rw[find?_first (i:=i) (by rw[<-h1];lia) (zmc.mp hi) λk F=>v (h k F)]
def oE:List V->Hp->VK->Prop:=λxs H Q=>∃x:Str,xs=[.str x]/\x.length<=sizeLine/\∀l,H l=none->Q (.ref l) (upd H l (.lst (x.cps.toList.map λc=>.str #[[c].toArray])))
def Hf:∀{xs:List V}{us:List Value},xs.length=us.length->(∀(j:Nat) x u,xs[j]?=⇑x->us[j]?=⇑u->zP x u)->zX xs us
 |[],[],_,_=>.nil
 |[],_::_,h,_=>by simp at h
 |_::_,[],h,_=>by simp at h
 |x::xs,u::us,h,k=>.cons (k 0 x u rfl rfl) (Hf ↑h λj v F h1 h2=>k (j+1) v F h1 ↑h2)
def Xg(J:X.calm=true):aU X (.type "list") oE:=by
 intro z4 s σ H xs us Q I r h;let#[x,rfl,M,q]:=h;let#[u,rfl,Y]:=vals1 r;let#[t,rfl]:=Y;show call_list_str (I.ok.hd J) x t (hn:=M) λh' tk G c' hk L F=>?_;let Z:zX (x.cps.toList.map λc=>V.str #[[c].toArray]) G.toList:=Hf (by rw[qo,qY,qY,F.1]) λj y v h1 h2=>by let#[c,u,J,rfl]:=F.2 j v (by rw[<-zc];show h2);rw[qI,zc,J]at h1;cases h1;show#[u,rfl]
 show#[.ref s.heap.objs.size,_,I.laid (t':=tk) hk (zm _) (show zZ X.prog X.w _ h' _ (.lst (x.cps.toList.map λc=>V.str #[[c].toArray])) from#[?_,G.toList,c',Z,L]),rfl,q _ (I.hok.fresh (zm _))];rw[qo];show M
def wH(K:W.Frag):List V->Hp->VK->Prop:=λxs H Q=>tR K xs H Q\/oE xs H Q
def Nu:∀l:List Nat,zY K F (l.map λc=>V.str #[[c].toArray]) (l.map λc=>D.str [c])
 |[]=>.nil
 |c::l=>.cons (.str rfl (by show 1<=16777216;decide)) (Nu l)
def VN:cO K (wH K) eM:=by
 intro σ U F G H vs ds s Q J L e M;let#[d,v,rfl,rfl]:=AS (λx y r=>by cases x<;>rfl) rfl L e;cases d with
 |tup l=>show .inl (MM σ U F G H [v] [.tup l] s Q J L e M)
 |lst l=>show .inl (MM σ U F G H [v] [.lst l] s Q J L e M)
 |str l=>
  let#[x,rfl,Y,z]:=L.1.str;let e:(if l.length<=big then ⇑(S.lst (l.map λc=>S.sh (.str [c])))else none)=⇑s:=e;split at e
  .rename_i hb;cases e;show .inr #[x,rfl,by rw[Er Y];show Hc hb,λp Z=>?_];rw[Y];let h:=J.newLD Z (Nu l);rw[qH]at h;show M (.ref p) F (upd H p (.lst (l.map λc=>V.str #[[c].toArray]))) (zL.refl F) h
  .cases e
 |_=>cases e
def Ip(M:X.calm=true)(J:Gl X "list")(G:X.mg "list"=none)(F:bootBuiltins "list"=⇑(.type "list"))(Y:FA X (e::es) wa)(L:autoParam (starEach (e::es) X.env=(false,eval e X.env)::starEach es X.env) rZ9)(v:autoParam ((backTo pos (starEach es X.env)).any (·.1)=false) rZ9):FE X (.Call (.Name "list" p) (e::es) [] pos) (wB eM wa):=
 GM (λpn xe=>aU.or' WV (Xg (X:=wp X pn xe) M)) VN J G F Y ⋯ ⋯ L v
end
def vG(T:String):Bool:=T=="bool"||T=="int"||T=="str"||T=="tuple"||T=="list"
def Ol(K:W.Frag):∀(T:String),vG T=true->∀d:D,iC d=true->W.kitOne K (.type (bw d)) (.type T)=⇑(kR T d):=by intro T v d h2;simp[vG,or_eq_true,beq_iff_eq]at v;rcases v with(((rfl|rfl)|rfl)|rfl)|rfl<;>cases d<;>first|show absurd h2 q8|kernel_rfl
def To(I:Inv X z4 σ H s)(F:zP x u)(M:aR X.K H x d)(hd:iC d=true)(e:W.kitOne X.K (.type (bw d)) c=⇑b)(h:∀tk,Q (.bool b) {s with toks:=tk}):
  wpAny (model X.prog X.w) A (call (.builtin "isinstance") [u,c]) Q E s:=by
 cases M with
 |non=>show Ed I F .non e h
 |bl y=>show Ed I F (.bl y) e h
 |int i=>show Ed I F (.int i) e h
 |str e1 z=>show Ed I F (.str _) e h
 |tup v r=>show Ed I F (.tup v) e h
 |lst v r=>cases F;let#[Z,r,Y,_]:=I.list v;let#[o,ho,hc,_]:=Y.isList;show W.kia_one W.kitx_list I.kIn #[o,ho,hc] e (λz=>nomatch z) h
 |@dK a G ks L v k r=>
  cases F;rcases v with v|⟨J,v⟩
  .show Ed (x:=.ref a) I rfl (.dK v) e h
  .obtain⟨_,_,_,_,p⟩:=(show zZ X.prog X.w H s.heap a (.frz J (.dK G)) from I.hok a _ v)
   let#[_,o,es,ep,h1,h2,_]:=p;show W.kia_one W.kitx_dict I.kIn #[o,h1,h2.1] e (λz=>nomatch z) h
 |@dT a G ks L v k r=>
  cases F;rcases v with v|⟨J,v⟩
  .show Ed (x:=.ref a) I rfl (.dT v) e h
  .obtain⟨_,_,_,_,p⟩:=(show zZ X.prog X.w H s.heap a (.frz J (.dT G)) from I.hok a _ v)
   let#[_,o,es,ep,h1,h2,_]:=p;show W.kia_one W.kitx_dict I.kIn #[o,h1,h2.1] e (λz=>nomatch z) h
 |@st a xs ds v r=>
  cases F;let t:∃o,s.heap.get? a=⇑o/\o.cls=.type "set":=by
   rcases I.hok a _ v with⟨_,⟨_,h1⟩|⟨_,_,_,o,_,_,_,h1,h2,_⟩|⟨_,_,_,_,o,_,_,_,h1,h2,_⟩⟩
   .show#[_,h1,rfl]
   .show#[o,h1,h2.1]
   .show#[o,h1,h2.1]
  show W.kia_one W.kitx_set I.kIn t e (λz=>nomatch z) h
 |exc _ _=>cases hd
section
variable{TS:String}
def Os(hg:Gl X "isinstance")(hm:X.mg "isinstance"=none)(hv:bootBuiltins "isinstance"=⇑(.builtin "isinstance"))(h2:Gl X T)(h1:X.mg T=none)(L:bootBuiltins T=⇑(.type TS))(hT:vG TS=true)(ha:FE X a wa)
  (Z:autoParam (T≠"__name__") dZ9)(h3:autoParam ((T==("__debug__":Str))=false) dZ9)
  (he:autoParam (starEach [a,.Name T pt] X.env=(false,eval a X.env)::starEach [.Name T pt] X.env) rZ9)(h4:autoParam (starEach [.Name T pt] X.env=[(false,eval (.Name T pt) X.env)]) rZ9)(M:autoParam ((backTo pos (starEach [.Name T pt] X.env)).any (·.1)=false) rZ9):
  FE X (.Call (.Name "isinstance" p) [a,.Name T pt] [] pos) (uQ TS wa):=λpn xe hp=>by
 intro z4 s σ H Q I h;show wpAny_Call_Name_kw (BU (X:=wp X pn xe) I hg hm hv ?_ ⋯ ⋯);show PyProof.Rows.callWith_builtin1 ?_ he M;rw[he];show Calls.spliced_cons (Aj (ha pn xe hp z4 s σ H _ I (one (k:=λx v Q E=>zK (view x v) λd=>iC d=true/\Q (.v (.sh (.bl (kR TS d)))) v) h)) λu s1 zq=>?_);let#[x,H1,I1,r1,q1]:=zq;show Calls.spliced_cons (BU (X:=wp X pn xe) I1 h2 h1 L (Calls.spliced_nil ?_) Z h3);let#[F,G,U,y,P,PX,J,hl,ry,hk,Y,hx]:=q1;let#[d,ed,hd,hk]:=Ai hk;let rp:=look (U':=[]) (σ':=[]) J hl ry ed;show To I1 r1 rp hd (Ol _ TS hT d hd) λtk=>#[.bl _,H1,I1.kept λ_ _ z=>z,rfl,?_]
 show Y _ U _ F H1 hk (zL.refl F) ((J.drop hl).push (.bl _)) trivial
end
def Hx:bootBuiltins "int"=⇑(.type "int"):=by decide+kernel
def Cz:bootBuiltins "tuple"=⇑(.type "tuple"):=by decide+kernel
def Fb:bootBuiltins "list"=⇑(.type "list"):=by decide+kernel
def HF:bootBuiltins "max"=⇑(.builtin "max"):=by decide+kernel
def DW:bootBuiltins "min"=⇑(.builtin "min"):=by decide+kernel
def Pc:bootBuiltins "all"=⇑(.builtin "all"):=by decide+kernel
def FC:bootBuiltins "sorted"=⇑(.builtin "sorted"):=by decide+kernel
def WW:bootBuiltins "isinstance"=⇑(.builtin "isinstance"):=by decide+kernel
def Bb(v:bU k A):A.units+32<cLine:=by let:=v.units;lia
def CB(v:bU k A):A.units+31<cLine:=by let:=v.units;lia
theorem uq{N:List Str}(h:(N.zipIdx.all λp=>!(p.1==x)||p.2==i)=true):∀j,N[j]?=⇑x->j=i:=by intro j v;let:=qL.mp h (x,j) (by rw[List.mem_zipIdx_iff_getElem?];simpa using v);simpa using this
instance(outer scope:Scope)(N vars:List Str):Decidable (scope.kind=.function/\(∀x∈scope.names,x.2=.free->outer.names.lookup x.1=⇑.cell\/outer.names.lookup x.1=⇑.free)/\(scope.names.map (·.1)).Nodup/\
  (∀x∈N,x∉vars->(x,NameKind.local)∉scope.names/\(x,NameKind.cell)∉scope.names)/\scope.names.lookup Str.empty=none):=inferInstance
def ar(v scope:Scope)(N vars:List Str):Bool:=decide (scope.kind=.function/\(∀x∈scope.names,x.2=.free->v.names.lookup x.1=⇑.cell\/v.names.lookup x.1=⇑.free)/\(scope.names.map (·.1)).Nodup/\
    (∀x∈N,x∉vars->(x,NameKind.local)∉scope.names/\(x,NameKind.cell)∉scope.names)/\scope.names.lookup Str.empty=none)
def Ak(h:ar outer scope N vars=true):cH outer scope N vars:=
 let⟨a,b,c,d,e⟩:=qX h
 #[a,b,c,d,e]
def Sl{K:W.Frag}(r:aK K F H v (.sh (.bl true)) fp):v=.bl true:=by
 cases r with
 |sh r=>cases r;rfl
def OW{K:W.Frag}(h:∀ns:List Int,ns.length<=63->M [.sh (.lst (ns.map .int))] (λs _=>s=.sh (.bl true)) λ_ _=>False)(H:Hp)(a:Addr)(ns:List Int)(Z:ns.length<=63)(hS:bO K H a (ns.map V.int)):
  eF K M 1 [.ref a] H (λv _=>v=.bl true) λ_ _ _=>False:=by
 show#[H,λ_=>none,[.sh (.lst (ns.map .int))],_,_,rfl,#[zL.refl H,λ_ _ z=>(nomatch z),[]++[],.so (.sh (.lst hS (GS ns))) .nil,List.nodup_nil,λ_ z=>(nomatch z)],h ns Z,λs F v F' H' Y sm G r=>?_,λ_ _ _ _ _ _ z=>z.elim];subst Y;let#[u,fp,L,q]:=r.at (i:=F.length) (s:=.sh (.bl true)) (by let:=Eb (U:=F.map some) (o:=⇑(.sh (.bl true))) (U':=[]);simpa using this)
 let J:F.length=1:=G;rw[J]at L;let:u=v:=↑L.symm
 rw[<-this];show Sl q
end FL
namespace FL
def gD(j:Nat)(e:WE):WE:=λU Q E=>match slot U j with
 |some (.lst _)=>e U (λr v=>match r,slot v j with
  |.v (.lst m),some (.lst l)=>l.length+m.length<=big/\Q (.v (.sh .non)) (v.set j ⇑(.lst (l++m)))
  |_,_=>False) E
 |_=>False
end FL
namespace FL
open PySem PySem.Spec PyProof.Rows L2
def Dh(ha:FE X a wa):FE X (.UnaryOp .USub a pos) (jW eJ wa):=λpn xe hp=>by
 show PE.imp (Of Oo (ha pn xe hp)) λσ H Q q=>?_;show(one (k:=λx J Q E=>zK (zW x J) λp=>zK (eJ p) λs=>Q (.v s) J) q).mono λv H1 h1=>?_;let#[F,G,U,x,P,PX,M,hl,rx,L,Y,hx]:=h1;let#[p,ep,L]:=Ai L;let#[s,es,L]:=Ai L;let#[Z,s1,re,r1]:=AG (U':=[]) (σ':=[]) M hl rx ep;cases p with
 |int i=>have e:=re.int;subst e;show#[i,rfl,Y _ U _ Z H1 L s1 ((show Rel _ U σ Z G H1 by simpa using r1).push (.int _)) trivial]
 |_=>cases es
def Vw(hd:cR X.K r o)(h5:cR X.K r' o')(σ:St)(H:Hp)(Q:VK)(h:tW X (gH (iQ o o' wa wb wc)) σ H Q):nZ r r' (tW X wa) (tW X wb) (tW X wc) σ H Q:=by
 show(Dp (k:=λx y Y Q E=>zK (view x Y) λp=>zK (view y Y) λq=>zK (o p q) λk=>if k then wc Y (λz L=>zK (view y L) λq=>zK (view z L) λr=>zK (o' q r) λk'=>Q (.v (.sh (.bl k'))) L) E else Q (.v (.sh (.bl false))) Y) h).mono λv H1 h1=>h1.mono λu H2 h2=>?_;let#[F,G,U,x,y,P,PX,Z,hl,rx,ry,J,h3,hx]:=h2;let#[p,ep,J]:=Ai J;let#[q,eq,J]:=Ai J;let#[t,et,J]:=Ai J;let#[r1,r2,M]:=By Z hl rx ry ep eq;show hd H2 v u p q t _ r1 r2 et #[t,rfl,?_];cases t with
 |false=>show h3 (.v (.sh (.bl false))) U (.bl false) F H2 J (zL.refl F) (M.push (.bl false)) trivial
 |true=>show(nextOf (k:=λy z L Q E=>zK (view y L) λq=>zK (view z L) λr=>zK (o' q r) λk'=>Q (.v (.sh (.bl k'))) L) (Z.mid hl) ry J h3 hx).mono λw H4 h4=>?_;let#[F,G,U,y,z,P,PX,Z,hl,ry,rz,J,h3,hx]:=h4;let#[q,eq,J]:=Ai J;let#[r,er,J]:=Ai J;let#[t,et,J]:=Ai J;let#[r1,r2,M]:=By Z hl ry rz eq er;show h5 H4 u w q r t _ r1 r2 et (h3 _ U (.bl t) F H4 J (zL.refl F) (M.push (.bl t)) trivial)
def RW(ho:∀pn xe,OpR (wp X pn xe) (compareOp op) r)(hd:cR X.K r o)(h1:∀pn xe,OpR (wp X pn xe) (compareOp L) r')(h2:cR X.K r' o')(ha:FE X a wa)(hb:FE X b wb)(hc:FE X c wc)
  (hm:lastMarks [op,L] [b,c]=false:=by with_unfolding_all rfl):FT X (.Compare a [op,L] [b,c] pos) (iQ o o' wa wb wc):=λpn xe J=>
 PT.imp (Si (ho pn xe) (h1 pn xe) (ha pn xe J) (hb pn xe J) (hc pn xe J) hm) λσ H Q h=>by
  let#[F,G,U,P,PX,M,hw,Z,hx]:=h;show Vw (X:=wp X pn xe) hd h2 σ H _ #[F,G,U,λr U'=>match r with|.v (.sh (.bl c))=>P c U'|_=>False,PX,M,hw,λr U' v F' H' J s1 Y rv=>?_,hx]
  skip
  split at J
  .rename_i c;let hl:=Ag Y;let rp:=look (U':=[]) (σ':=[]) Y hl rv (d:=.bl c) rfl;show#[c,JI rp,Z c U' F' H' J s1 (Y.drop hl)]
  .show J.elim
section
variable{K:W.Frag}
def zO.app:∀{xs ys:List V}{l m:List S}{fp fq:List Addr},zO K F H xs l fp->zO K F H ys m fq->zO K F H (xs++ys) (l++m) (fp++fq)
 |_,_,_,_,_,_,.nil,r=>r
 |_,_,_,_,_,_,.cons a b,r=>by rw[qp];show .cons a (zO.app b r)
def Rel.extend{D B:Addr}(r:Rel K (U++[⇑(.lst m)]) (σ++[⇑(.ref B)]) F G H)(hs:slot U n=⇑(.lst l))(Z:σ[n]?=⇑⇑(.ref D)):
  ∃xs ys,H D=⇑(.lst xs)/\H B=⇑(.lst ys)/\xs.length=l.length/\ys.length=m.length/\Rel K (U.set n ⇑(.lst (l++m))) σ F G (upd H D (.lst (xs++ys))):=by
 let hl:=Ag r;let#[fp,e,nd,ap]:=r.en;let#[f1,f2,rfl,a,b]:=e.cut hl;let#[v',Y,fi,M,e1,rfl,q,up]:=a.at hs;rw[Z]at e1;let e2:V.ref D=v':=↑e1
 subst e2;cases q with
 |lst hD rl=>
  rename_i xs L;cases b with
  |so sr nl=>
   cases nl;cases sr with
   |lst hB rm=>
    rename_i ys fs;show#[xs,ys,hD,hB,rl.len,rm.len,?_];let es:σ.set n ⇑(.ref D)=σ:=Fp Z;let#[n1,n2,h5]:=qx.mp nd;let#[na,v,h4]:=qx.mp n1;let#[ni,nb,v]:=qx.mp v;let#[nD,h9]:=qO.mp ni;let h8:D∉Y:=λz=>h4 D z D (qj _ qm) rfl;let h7:D∉M:=λz=>v D qm D z rfl;let h6:D∉fs:=λz=>h5 D (qi _ (qj _ qm)) D (by simpa using .inr z) rfl;let h2:=ap D (qj _ (qi _ (qj _ qm)));let ne:∀{l:List Addr},D∉l->∀x∈l,upd H D (.lst (xs++ys)) x=H x:=λh x J=>Al λz=>h (z▸J);let new:aK K F (upd H D (.lst (xs++ys))) (.ref D) (.lst (l++m)) (D::(L++fs)):=.lst AV (zO.app (rl.mono (zL.refl F) (ne nD)) (rm.mono (zL.refl F) (ne h6)));let a2:=up (F':=F) (H':=upd H D (.lst (xs++ys))) (o:=⇑(.lst (l++m))) (u:=⇑(.ref D)) (zL.refl F) (λx J=>Al λz=>(qz.mp J).elim (λw=>h8 (z▸w)) λw=>h7 (z▸w)) (.so new .nil);rw[es]at a2;let p:(B::(Y++((D::(L++fs))++[]++M))).Perm (Y++((D::L)++M)++(B::fs++[])):=by
     simp;show(List.Perm.cons _ (List.Perm.append_left _ (List.Perm.cons _ (List.Perm.append_left _ qQ)))).trans ?_;let h1:(Y++D::(L++(M++B::fs))).Perm (B::(Y++D::(L++(M++fs)))):=by let:=perm_middle (a:=B) (l₁:=Y++D::(L++M)) (l₂:=fs);simpa using this
     show h1.symm
    let h3:=p.nodup_iff.mpr nd;show#[zL.updR r.fr h2.1,λx o w=>?_,_,a2,(qO.mp h3).2,λx J=>ap x (p.mem_iff.mp (qk _ J))];let J:x≠D:=λz=>by rw[z,h2.2]at w;cases w
    rw[Al J];show r.gr x o w
end
def Ve(ho:FE X o (zG j))(he:FE X e we)
  (h3:autoParam (attributeBase o "extend" X.env (eval o X.env)=eval o X.env) rZ9)
  (h6:autoParam (((backTo cpos (starEach [e] X.env)).all (λx=>!x.1)&&(backToKw cpos (keywordEach [] X.env)).all (λx=>x.1.isSome)
   &&↥([e].length+([]:List Keyword).length+(if([]:List Keyword).isEmpty then 0 else 1)<30))=true) rZ9)
  (h1:autoParam ((apos.endLine==cpos.line)=true) rZ9)(hs:autoParam (starEach [e] X.env=[(false,eval e X.env)]) rZ9):FE X (.Call (.Attribute o "extend" apos) [e] [] cpos) (gD j we):=λpn xe hp=>by
 refine PE.imp (EJ (X:=wp X pn xe) PySem.F.plainAttrs_list PySem.F.slot_list_extend PySem.F.type_list_extend UT (ho pn xe hp) (Aa he Ab hs pn xe hp) h3 h6 h1 hs rfl) λσ H Q q=>?_;let#[F,G,U,P,PX,h8,hw,h9,hx]:=q;let M:(match slot U j with
  |some (.lst _)=>we U (λr J=>match r,slot J j with
   |.v (.lst m),some (.lst l)=>l.length+m.length<=big/\P (.v (.sh .non)) (J.set j ⇑(.lst (l++m)))
   |_,_=>False) PX
  |_=>False):=hw
 cases qs:slot U j with
 |none=>rw[qs]at M;show M.elim
 |some s0=>
  cases s0 with
  |lst l0=>
   rw[qs]at M;show#[F,G,U,λy Z=>y=.loc j/\Z=U,PX,h8,by unfold zG;rw[qs];show#[rfl,rfl],λy Z o' F1 H1 Y s1 r1 rv=>?_,hx];let#[rfl,rfl]:=Y;let l1:=Ag r1;let h4:σ[j]?=⇑⇑o':=rv;let r2:=r1.drop l1;let#[v',fp,e1,sr]:=r2.at qs;rw[h4]at e1;let e2:o'=v':=↑e1
   subst e2;cases sr with
   |lst hD rl=>
    rename_i a xs fl;show#[.inl #[rfl,_,bO.of hD],F1,G,Z,λrs J=>match rs with|[r]=>(match r,slot J j with|.v (.lst m),some (.lst l)=>l.length+m.length<=big/\P (.v (.sh .non)) (J.set j ⇑(.lst (l++m)))|_,_=>False)|_=>False,PX,r2,M,λrs J vs F2 H2 Y s2 r3 hl L=>?_,hx.grow s1];match rs,vs,L,r3,Y with
    |[r],[v],L,r3,Y=>
     dsimp only at Y;split at Y
     .rename_i m l ql;let#[u,fq,eu,su]:=r3.at (i:=J.length) (s:=.lst m) Eb;rw[hl,getElem?_append_right (zm _)]at eu;let e3:v=u:=by simpa using eu
      subst e3;cases su with
      |@lst b zs _ _ hB rb=>let#[ys,h7,e4,hi,h5,h2,r5]:=Rel.extend (B:=b) r3 ql h4;show#[a,b,ys,h7,rfl,rfl,e4,hi,by rw[h5,h2];show le_trans Y.1 ⋯,h9 _ _ .non F2 _ Y.2 (s1.trans s2) (r5.push .non) trivial]
     .show Y.elim
    |[],_,_,_,Y=>show Y.elim
    |[_],[],L,_,_=>show L.elim
    |[_],_::_::_,L,_,_=>show L.2.elim
    |_::_::_,_,_,_,Y=>show Y.elim
  |_=>rw[qs]at M;show M.elim
open AutoSeq1 (wpAny_loadPart')
def OI(L:s.heap.IsTupleIter u z n)(hz:s.heap.IsTuple z xs)(M:xs[n]?=⇑v)(k:∀h',h'.IsTupleIter u z (n+1)->Heap.SameBut u s.heap h'->Q v {s with heap:=h'}):
  wpAny (model prog w) A (Builtin.SmallTypes.nextOf (.ref u)) Q E s:=by
 let#[ob,J,e1,G]:=id L;let#[zb,Z,_,zn,Y]:=hz;apply qa;show wpAny_callSpecial?_slot (name:=Str.ofString "__next__") L.typeIs F.slot_tuple_iterator_next (zu F.slot_tuple_iterator_next L.typeIs F.entry_tuple_iterator_next ?_ (F.args_tuple_iterator_next_1 _));show wpAny _ _ (field (.ref u) 0>>=_) _ _ _;apply qa;show zr J G (x:=.ref z) rfl ?_;apply qa;show zr J G (x:=.int n 0) rfl ?_;apply qa;show wpAny_seqItems Z Y ?_;simp[qZ,M];apply qa;show wpAny_setField J G (by simp) (qb #[v,rfl,qb (k _ #[_,zp _ J (Obj.isFreed_of_fields (Obj.data_mapFields G _)),(Obj.cls_mapFields ..).trans e1,?_] (Heap.SameBut.update ..))]);rw[Obj.data_mapFields G];simp[rawInt]
def Nq(L:A.handled=none)(v:s.heap.IsTupleIter u z n)(hz:s.heap.IsTuple z xs)(M:xs[n]?=none)
  (k:∀h' e,Heap.ExtBut u s.heap h'->(∃o,h'.get? e=⇑o/\o.cls=.type "StopIteration")->E (.ref e) {s with heap:=h'}):wpAny (model prog w) A (Builtin.SmallTypes.nextOf (.ref u)) Q E s:=by
 let#[ob,J,e1,G]:=id v;let#[zb,Z,_,zn,Y]:=hz;apply qa;show wpAny_callSpecial?_slot (name:=Str.ofString "__next__") v.typeIs F.slot_tuple_iterator_next (zu F.slot_tuple_iterator_next v.typeIs F.entry_tuple_iterator_next ?_ (F.args_tuple_iterator_next_1 _));show wpAny _ _ (field (.ref u) 0>>=_) _ _ _;apply qa;show zr J G (x:=.ref z) rfl ?_;apply qa;show zr J G (x:=.int n 0) rfl ?_;apply qa;show wpAny_seqItems Z Y ?_;simp[qZ,M];apply qa;apply wpAny_rule;apply qa;show wpAny_setField J G (by simp) ?_;apply qa;apply qa;show zt ?_ (by size_fits);show qa (m:=firstArgMember _ _) (zy (a:=Value.none) (by first|rfl|(simp;rfl)) (zt ?_ (by size_fits)));apply qa;show wpAny_handled ?_;first|rw[show A.in1.handled=none from L]|rw[L]
 show qa (qb (wpAny_throw (k _ _ (((Heap.SameBut.update ..).extBut.push _).push _) #[_,qd _ rfl,rfl])))
def Vc{prog:Program}{w:World}{A:Around}(hh:A.handled=none)(u z:Addr)(hne:z≠u)(xs:Array Value):
  Draws prog w A u [u,z] xs.size (λi v=>xs[i]?=⇑v) (λi h=>h.IsTupleIter u z i/\h.IsTuple z xs) where
 live:=λ_ _ st=>let#[o,e,_]:=st.1;#[o,e]
 frame:=λ_ _ _ st k=>#[st.1.at λo e=>k u (by simp) o e,by let#[o,e,r]:=st.2;show#[o,k z (by simp) o e,r]]
 item:=λi s Q E hi st k=>OI st.1 st.2 (v:=xs[i]) (by simp) λh' a b=>k _ h' s.toks (by simp[hi]) #[a,by let#[o,e,r]:=st.2;show#[o,b.extBut _ _ hne e,r]] b
 done:=λs Q E st k=>Nq hh st.1 st.2 (by simp) k
inductive SrcI(P:Program)(w:World)(A:Around)(it:Addr)(J:It)(tn:Nat->Heap->Prop)(i:Nat)(s:Shared)(H:Hp):Prop
 |mk (fp:List Addr) (n:Nat) (Pr:Nat->Value->Prop) (Sx:Nat->Heap->Prop):Draws P w A it fp n Pr Sx->Sx i s.heap->i<n->it∈fp->(∀b∈fp,b=it\/(H b≠none/\∃o,s.heap.get? b=some o/\o.cls=.type "tuple")\/∃o,s.heap.get? b=some o/\o.cls=.type "list")->(∀v,Pr i v->∃x,zP x v/\J.yld i H x H)->(∀h',Sx (i+1) h'->tn (i+1) h')->SrcI P w A it J tn i s H
structure pC(P:Program)(w:World)(K:W.Frag)(J:It)(it:Addr)(tn:Nat->Heap->Prop):Prop where
 live:∀i h,tn i h->∃o,h.get? it=⇑o/\(∀v,o.data≠.cell v)/\o.cls≠.type "enumerate"/\o.cls≠.type "zip"/\o.cls≠.type "tuple"/\o.cls≠.type "list"
 keep:∀i h h',tn i h->(∀o,h.get? it=⇑o->h'.get? it=⇑o)->tn i h'
 yl:∀i H x H',J.yld i H x H'->H'=H
 item:∀(X:Cx),X.prog=P->X.w=w->X.K=K->∀(i:Nat)(z4:List (Addr×Obj))(s:Shared)(σ:St)(H:Hp)(A:Around),A.handled=none->Inv X z4 σ H s->tn i s.heap->H it=none->J.go i H->
  SrcI P w A it J tn i s H
 done:∀(X:Cx),X.prog=P->X.w=w->X.K=K->∀(i:Nat)(z4:List (Addr×Obj))(s:Shared)(σ:St)(H:Hp)(A:Around),A.handled=none->Inv X z4 σ H s->tn i s.heap->J.stop i H->∀(Q:zF)(E:zF),
  (∀h' e,Heap.ExtBut it s.heap h'->(∃o,h'.get? e=⇑o/\o.cls=.type "StopIteration")->E (.ref e) {s with heap:=h'})->wpAny (model P w) A (Builtin.SmallTypes.nextOf (.ref it)) Q E s
def Ma{P:Program}{w:World}{K:W.Frag}(a it:Addr):pC P w K (bp K a) it (λi h=>h.IsListIter it a i) where
 live:=λi h st=>by let#[o,e,c,d]:=st;show#[o,e,λv z=>by(rw[d]at z;cases z),by rw[c];decide,by rw[c];decide,by rw[c];decide,by rw[c];decide]
 keep:=λi h h' st k=>st.at k
 yl:=λi H x H' h=>h.1
 item:=by
  intro X hP hw hK i z4 s σ H A hh I st hn hg;subst hP hw hK;let#[xs,x,hq,hx]:=hg;let#[z8,rv,p,hz]:=I.list hq;let#[lo,l1,l2,l3]:=id p.isList;let hne:a≠it:=λz=>by let#[o,e,c,d]:=id st;rw[<-z,l1]at e;cases e;rw[l2]at c;show absurd c ⋯
  let hl:=rv.length;let hi:i<z8.toArray.size:=by let:=(qg.mp hx).1;rw[qr];lia
  show#[_,_,_,_,Draws.list hh it a hne z8.toArray,#[st,p.isList],hi,m1,λb hb=>?_,λv hv=>?_,λh' z=>z.1]
  .simp at hb;rcases hb with rfl|rfl
   .show .inl rfl
   .show .inr (.inr #[lo,l1,l2])
  .obtain⟨u,hu,ru⟩:=rv.get hx;let:u=v:=by
    let hv':z8[i]?=⇑v:=↑hv
    rw[hu]at hv';show qf hv'
   subst this;show#[x,ru,rfl,λys hy=>by rw[I.list_inj hy hq];show hx]
 done:=by intro X hP hw hK i z4 s σ H A hh I st hg Q E k;subst hP hw hK;let#[xs,hq,hx]:=hg;let#[z8,rv,p,hz]:=I.list hq;let hl:=rv.length;show wpAny_nextOf_list_end hh st p.isList (by simp;lia -verbose) k
def jr(a:Addr):It:=#[λi H=>∃xs x,H a=⇑(.tup xs)/\xs[i]?=⇑x,λi H x H'=>H'=H/\∀xs,H a=⇑(.tup xs)->xs[i]?=⇑x,λi H=>∃xs,H a=⇑(.tup xs)/\xs.length<=i]
def KL{P:Program}{w:World}{K:W.Frag}(a it:Addr):pC P w K (jr a) it (λi h=>h.IsTupleIter it a i) where
 live:=λi h st=>by let#[o,e,c,d]:=st;show#[o,e,λv z=>by(rw[d]at z;cases z),by rw[c];decide,by rw[c];decide,by rw[c];decide,by rw[c];decide]
 keep:=λi h h' st k=>st.at k
 yl:=λi H x H' h=>h.1
 item:=by
  intro X hP hw hK i z4 s σ H A hh I st hn hg;let#[xs,x,hq,hx]:=hg;let#[z8,rv,p,hz]:=I.tuple (bF.of hq);let#[lo,l1,l2,l3]:=id p;let hne:a≠it:=λz=>by rw[z,hn]at hq;cases hq
  let hl:=rv.length;let hi:i<z8.toArray.size:=by grind
  show#[_,_,_,_,Vc hh it a hne z8.toArray,#[st,p],hi,m1,λb hb=>?_,λv hv=>?_,λh' z=>z.1]
  .grind
  .obtain⟨u,hu,ru⟩:=rv.get hx;let:u=v:=by grind
   subst this;show#[x,ru,rfl,λys hy=>by rw[hq]at hy;cases hy;show hx]
 done:=by intro X hP hw hK i z4 s σ H A hh I st hg Q E k;let#[xs,hq,hx]:=hg;let#[z8,rv,p,hz]:=I.tuple (bF.of hq);let hl:=rv.length;show Nq hh st p (by simp;lia -verbose) k
def KD{P:Program}{w:World}{K:W.Frag}(it:Addr)(x:Str)(t:Tok):pC P w K (ay x) it (λi h=>h.IsStrIter it (strIterType x) x t i) where
 live:=λi h st=>by
  obtain⟨o,e,c,d⟩:=st;let hc:o.cls=.type "str_ascii_iterator"\/o.cls=.type "str_iterator":=by
   rw[c];unfold strIterType;split
   .show .inl rfl
   .show .inr rfl
  grind
 keep:=λi h h' st k=>by let#[o,e,r]:=st;show#[o,k o e,r]
 yl:=λi H x H' h=>h.1
 item:=by
  intro X hP hw hK i z4 s σ H A hh I st hn hg;let fin:∀v:Value,(∃c u,x.cps[i]?=⇑c/\v=.str #[[c].toArray] u)->∃y,zP y v/\(ay x).yld i H y H:=λv⟨c,u,e,ev⟩=>#[.str #[[c].toArray],by rw[ev];show#[u,rfl],rfl,c,e,rfl]
  cases ha:x.cps.all (·<128)
  .let e:strIterType x="str_iterator":=by unfold strIterType;rw[ha];rfl
   rw[e]at st⊢;show#[_,_,_,_,Draws.strWide hh it x t,st,hg,m1,λb hb=>.inl ↑hb,fin,λ_ z=>z]
  .let e:strIterType x="str_ascii_iterator":=by unfold strIterType;rw[ha];rfl
   rw[e]at st⊢;show#[_,_,_,_,Draws.strAscii hh it x t,st,hg,m1,λb hb=>.inl ↑hb,fin,λ_ z=>z]
 done:=by
  intro X hP hw hK i z4 s σ H A hh I st hg Q E k;let hn:x.cps[i]?=none:=by let:x.cps.size<=i:=hg;simp[this]
  cases ha:x.cps.all (·<128)
  .let e:strIterType x="str_iterator":=by unfold strIterType;rw[ha];rfl
   rw[e]at st;show wpAny_nextOf_wide_end hh st hn k
  .let e:strIterType x="str_ascii_iterator":=by unfold strIterType;rw[ha];rfl
   rw[e]at st;show wpAny_nextOf_ascii_end hh st hn k
end FL
namespace FL
def cE(k:Nat):List D->List D
 |[]=>[]
 |d::l=>.tup [.int k,d]::cE (k+1) l
def jG(a:WE):WI:=λU Q E=>a U (λr v=>zK (give r v) λp=>zK (items p.1.toD) λl=>Q (cE 0 l) p.2) E
def dR:List D->List D->List D
 |d::l,e::m=>.tup [d,e]::dR l m
 |_,_=>[]
def pW(a b:WE):WI:=λU Q E=>a U (λr F=>b F (λt v=>zK (give r v) λp=>zK (give t p.2) λq=>zK (items p.1.toD) λl=>zK (items q.1.toD) λm=>Q (dR l m) q.2) E) E
def MD:∀(l:List D)(k i:Nat)(d:D),(cE k l)[i]?=⇑d->∃e,l[i]?=⇑e/\d=.tup [.int ((k+i:Nat):Int),e]
 |[],_,_,_,h=>by simp[cE]at h
 |e::l,k,0,d,h=>by simp[cE]at h;show#[e,rfl,↑h.symm]
 |e::l,k,i+1,d,h=>by let#[v,h1,h2]:=MD l (k+1) i d (by simpa[cE] using h);show#[v,↑h1,by rw[h2];congr 4;lia]
def MK:∀(l:List D)(k:Nat),(cE k l).length=l.length
 |[],_=>rfl
 |_::l,k=>by simp[cE,MK l]
def LF:∀(l m:List D)(i:Nat)(d:D),(dR l m)[i]?=⇑d->∃e f,l[i]?=⇑e/\m[i]?=⇑f/\d=.tup [e,f]
 |[],_,_,_,h=>by simp[dR]at h
 |_::_,[],_,_,h=>by simp[dR]at h
 |e::l,f::m,0,d,h=>by simp[dR]at h;show#[e,f,rfl,rfl,h.symm]
 |e::l,f::m,i+1,d,h=>by let#[G,F,h1,h2,v]:=LF l m i d (by simpa[dR] using h);show#[G,F,↑h1,↑h2,v]
def Md:∀(l m:List D),(dR l m).length=min l.length m.length
 |[],_=>by simp[dR]
 |_::_,[]=>by simp[dR]
 |_::l,_::m=>by simp[dR,Md l m]
end FL
namespace FL
open PySem PySem.Spec PyProof.Rows L2
open AutoSeq1 (wpAny_loadPart')
def DE{ch:List Addr}(I:Inv X z4 σ H s)(G:∀b∈ch,dX X z4 H b)(k:∀b o,b∉ch->s.heap.get? b=⇑o->h'.get? b=⇑o):Inv X z4 σ H {s with heap:=h',toks:=t'}:=by
 let J:∀b u,H b=⇑u->b∉ch:=λb u e z=>by rw[(G b z).1]at e;cases e
 refine I.step (g':=s.gens) (d':=s.drawn) (ch:=ch) (λb Y=>?_) (λb o _ _ F e _=>k b o F e) (λb o _ _ F e _=>#[o.slots,k b o F e]) (λ_ _ _ _ n=>n)
  (λb o F e=>#[o,k b o F e]) (λ_ _ e=>e) (λ_ _ _ e=>e) (λb ps e=>#[#[],by rw[e];simp]) (λm M=>?_) (λb u e=>?_) I.bare
 .obtain⟨f0,f1,f2,f3,f4,Z⟩:=G b Y;show#[f3,f1,f4,Z]
 .obtain⟨o,es,ep,L,r⟩:=M;show#[o,es,ep,k _ o (λz=>(G _ z).2.1 rfl) L,r]
 .show(I.hok b u e).stay (λc v F q=>k c v ?_ q) (λ_ q=>q) λ_ _ q=>q;grind
def Td(f:dX X z4 H b)(h:b≠T):dX X z4 (L2.upd H T o) b:=#[by rw[Al h];show f.1,f.2]
def Jm{ch:List Addr}(I:Inv X z4 σ H s)(Z:∀b∈ch,dX X z4 H b)(Y:∀b∈ch,b<s.heap.objs.size)(hz:xs.length<=sizeLine)(J:zX xs us)
  (hT:∃o,h'.get? s.heap.objs.size=⇑o/\o.cls=.type "tuple"/\o.dict=none/\∃n,o.data=.seq us.toArray n)(k:∀b o,b∉ch->s.heap.get? b=⇑o->h'.get? b=⇑o):
  Inv X z4 σ (L2.upd H s.heap.objs.size (.tup xs)) {s with heap:=h',toks:=t'}:=by
 let#[o,e,c,M,n,d]:=hT;let v:o.isFreed=false:=by let#[oc,od,G,L]:=o;let d':G=.seq us.toArray n:=d;subst d';rfl
 have I1:Inv X z4 σ (L2.upd H s.heap.objs.size (.tup xs)) {s with heap:=s.heap.push o}:=I.laid (t':=s.toks) (λb u q=>qc _ q) (zm _) #[#[hz,λo' q=>by rw[qd _ v]at q;cases q;show M],us,J,#[o,qd _ v,c,n,d]];let I2:=DE I1 (h':=h') (t':=t') (ch:=ch) (λb F=>Td (Z b F) (ne_of_lt (Y b F))) λb u F q=>by
  rcases Heap.get?_push_cases q with⟨rfl,rfl⟩|q
  .show e
  .show k b u F q
 show I2
def bq(J:It):It:=#[J.go,λi H x H'=>∃p y,H p=none/\J.yld i H y H/\x=.ref p/\H'=upd H p (.tup [.int i,y]),J.stop]
def RM(M:IsEnum s.heap e v i Y)(hd:∀(Q:zF)(E:zF),(∀h' x,Heap.ExtBut v s.heap h'->(∃o,h'.get? x=⇑o/\o.cls=.type "StopIteration")->E (.ref x) {s with heap:=h'})->wpAny (model prog w) A.in1 (Builtin.SmallTypes.nextOf (.ref v)) Q E s)
  (hQ:∀h',Heap.ExtBut v s.heap h'->Q none {s with heap:=h'}):wpAny (model prog w) A (pyNext (.ref e)) Q E s:=by
 let L:s.TypeIs (.ref e) "enumerate":=#[_,M,rfl]
 apply qa;apply wpAny_attempt;show wpAny_callSpecial?_slot (name:=Str.ofString "__next__") L F.slot_enumerate_next (zu F.slot_enumerate_next L F.entry_enumerate_next ?_ (F.args_enumerate_next_1 _));show wpAny _ _ (field (.ref e) 2>>=_) _ _ _;apply qa;show zr M rfl (x:=.ref v) rfl (qa (hd _ _ λh' x J G=>?_));let#[o,Z,hc]:=G;show qa (wpAny_isInstance (T:="StopIteration") (b:=true) #[o,Z,hc] isSubtype_stop (qb (hQ _ J)))
def Ue{P:Program}{w:World}{K:W.Frag}{J:It}{it e:Addr}{tn:Nat->Heap->Prop}{elts:List Expr}{k:Nat}{pos:Pos}(S:pC P w K J it tn)(hei:e≠it):
  gV P w K (.Tuple elts k pos) (bq J) [e,it] e (λi h=>(∃old,IsEnum h e it i old)/\tn i h) where
 mem:=m1
 obj:=λi h st b hb=>by
  simp at hb;rcases hb with rfl|rfl
  .obtain⟨old,q⟩:=st.1;show#[_,q,λv z=>by cases z]
  .obtain⟨o,h1,h2,_⟩:=S.live i h st.2;show#[o,h1,h2]
 keep:=λi h h' st kk=>by let#[#[old,q],t]:=st;show#[#[old,kk e (m1) _ q],S.keep i h h' t λo q=>kk it (m2) o q]
 item:=by
  intro X hP hw hK hc i z4 s σ H E I hf st hg;let#[#[old,he],ht]:=st;let hh:X.A.in1.handled=none:=I.ok.hd hc;let#[fp,n,Pr,Sx,D,hS,hin,hif,hfp,hv,hs]:=S.item X hP hw hK i z4 s σ H X.A.in1 hh I ht (hf it (m2)).1 hg;let hef:e∉fp:=λz=>by grind
  have hel:e<s.heap.objs.size:=qe he;let#[oi,hoi,_]:=S.live i _ ht;let hil:it<s.heap.objs.size:=qe hoi;show wpAny_pyNext_enum_itemD (A:=X.A) D he hS hin hei hef λx h1 tk hPx ho hS1 hT hsz hk=>?_;let#[y,ry,hy]:=hv x hPx;show#[_,rfl,wpAny_letOwnedTupleGo_enum ho λh2 he2 sb=>?_];let ne:s.heap.objs.size≠e:=ne_of_gt hel;let I2:Inv X z4 σ (upd H s.heap.objs.size (.tup [.int i,y])) {s with heap:=h2,toks:=tk+1}:=Jm I (ch:=[e,it]) (us:=[.int i tk,x]) hf (λb hb=>by
    simp at hb;rcases hb with rfl|rfl
    .show hel
    .show hil) (by show 2<=_;decide) (.cons #[_,rfl] (.cons ry .nil)) #[_,sb.extBut _ _ ne hT,rfl,rfl,_,rfl] λb o hb q=>by
   simp at hb;show sb.extBut _ _ hb.1 (hk b o hb.1 hb.2 q)
  show#[.ref s.heap.objs.size,_,I2,rfl,#[s.heap.objs.size,y,I.hok.fresh (zm _),hy,rfl,rfl],#[#[x,he2],S.keep _ _ _ (hs _ hS1) λo q=>sb.extBut _ _ (Ne.symm hei) q],λb hb=>?_];simp at hb;rcases hb with rfl|rfl
  .rw[Al (ne_of_lt hel)];show(hf _ (m1)).1
  .rw[Al (ne_of_lt hil)];show(hf _ (m2)).1
 done:=by intro X hP hw hK hc i z4 s σ H E I hf st hg;let#[#[old,he],ht]:=st;let hh:X.A.in1.handled=none:=I.ok.hd hc;show RM he (S.done X hP hw hK i z4 s σ H X.A.in1 hh I ht hg) λh' hx=>#[rfl,DE I (t':=s.toks) (ch:=[it]) (λb hb=>hf b (by simp at hb;simp[hb])) λb o hb q=>hx b o ↑hb q]
 self:=λA i s Q E st h=>by let#[#[old,he],_]:=st;show wpAny_pyIter_enum he h
abbrev oX(h:Heap)(z:Addr):Heap:=(h.push {cls:=.type "tuple_iterator",data:=.fields [.ref z,.int 0 0].toArray}).push {cls:=.type "enumerate",data:=.fields [.none,.bool false,.ref h.objs.size,rawInt 0,.none,.none].toArray}
set_option maxHeartbeats 1000000 in
def UM(z:Addr)(xs:Array Value)(n:Nat)(dd:Option Addr)(M:Array (Option Value)):Meets (Builtin.«enumerate.__new__» #[[.type "enumerate",.ref z],[]]) (λ_ R s=>s.heap.get? z=some {cls:=.type "tuple",dict:=dd,data:=.seq xs n,slots:=M}/\
  R (.ok (.ret (.ref (s.heap.objs.size+1)))) {s with heap:=oX s.heap z}):=
 .of_wp λprog w A R s J=>by
  let#[F,g,d,tk,os]:=s;let#[G,Z]:=J;let ss:=sub_enumerate;let Y:(F.push {cls:=.type "tuple_iterator",data:=.fields [.ref z,.int 0 0].toArray}).objs.size=F.objs.size+1:=Heap.size_push ..;let v:R (.ok (.ret (.ref (F.push {cls:=.type "tuple_iterator",data:=.fields [.ref z,.int 0 0].toArray}).objs.size))) {heap:=oX F z,gens:=g,drawn:=d,toks:=tk,os:=os}:=by rw[Y];show Z
  let L:Heap.IsTuple (Shared.heap #[F,g,d,tk,os]) z xs:=#[_,G,rfl,n,rfl]
  wp_walk using wpAny_loadPart' G
  show wpAny_stack_any λst=>qb ?_;split
  .rename_i c _ _ _ _ _;cases(c==Value.type "enumerate")<;>(wp_walk using wpAny_loadPart' G,wpAny_pyIter_tuple L;show#[_,rfl,v])
  .wp_walk using wpAny_loadPart' G,wpAny_pyIter_tuple L
   show#[_,rfl,v]
def Tw(hT:s.heap.IsTuple z xs)
  (k:∀h',IsEnum h' (s.heap.objs.size+1) s.heap.objs.size 0 .none->h'.IsTupleIter s.heap.objs.size z 0->(∀b o,s.heap.get? b=⇑o->h'.get? b=⇑o)->Q (.ref (s.heap.objs.size+1)) {s with heap:=h'}):
  wpAny (model prog w) A (call (.type "enumerate") [.ref z]) Q E s:=by
 let#[#[c,dd,dt,J],M,Z,n,Y]:=hT;let e1:c=.type "tuple":=Z;let e2:dt=.seq xs n:=Y;subst e1 e2;show callType_new F.called_enumerate ⋯ (F.typeCall_enumerate_1 _) (F.newCall_enumerate_1 _) (λv=>F.args_object_init_2 v _) F.entry_enumerate_new (UM z xs n dd J) #[M,?_];let L:(s.heap.push {cls:=.type "tuple_iterator",data:=.fields [.ref z,.int 0 0].toArray}).objs.size=s.heap.objs.size+1:=Heap.size_push ..;let G:IsEnum (oX s.heap z) (s.heap.objs.size+1) s.heap.objs.size 0 .none:=by let:=qd (s.heap.push {cls:=.type "tuple_iterator",data:=.fields [.ref z,.int 0 0].toArray}) (o:={cls:=.type "enumerate",data:=.fields [.none,.bool false,.ref s.heap.objs.size,rawInt 0,.none,.none].toArray}) rfl;rw[L]at this;show this
 show#[#[_,G,rfl],k _ G #[_,qc _ (qd _ rfl),rfl,rfl] λb o x=>qc _ (qc _ x)]
def gf(K:W.Frag)(F:TA):TI:=λσ H R=>F σ H λv H1=>(∃a,v=[.ref a]/\(∃xs,bO K H1 a xs)/\R (bq (bp K a)) H1)\/(∃a,v=[.ref a]/\(∃xs,H1 a=⇑(.tup xs))/\R (bq (jr a)) H1)\/∃x,v=[.str x]/\R (bq (ay x)) H1
def PR(hc:X.calm=true)(hg:Gl X "enumerate")(hm:X.mg "enumerate"=none)(hv:bootBuiltins "enumerate"=⇑(.type "enumerate"))(hl:PA X [a] tl)
  (hs:autoParam (starEach [a] X.env=[(false,eval a X.env)]) rZ9):PI X (.Tuple elts kk tpos) (.Call (.Name "enumerate" p) [a] [] pos) (gf X.K tl):=by
 intro z4 s σ H R I h;show wpAny_Call_Name_kw (BU I hg hm hv ?_ ⋯ ⋯);show PyProof.Rows.callWith_type1 (Aj (hl pos z4 s σ H _ I h) λus v zq=>?_) hs rfl;let#[vs,H1,M,r1,q1]:=zq;let L:∀{J:It}{Z:Nat->Heap->Prop}{h':Heap},pC X.prog X.w X.K J v.heap.objs.size Z->R (bq J) H1->IsEnum h' (v.heap.objs.size+1) v.heap.objs.size 0 .none->Z 0 h'->(∀b o,v.heap.get? b=⇑o->h'.get? b=⇑o)->
   wpAny (model X.prog X.w) X.A (pyIter (.ref (v.heap.objs.size+1))) (ie X z4 σ (.Tuple elts kk tpos) R) X.xe {v with heap:=h'}:=λ{J Z h'} S hR F ht G=>by
  show wpAny_pyIter_enum (s:={v with heap:=h'}) F ?_;show#[v.heap.objs.size+1,[v.heap.objs.size+1,v.heap.objs.size],_,_,H1,rfl,M.kept (t':=v.toks) G,Ue S (Nat.succ_ne_self _),#[#[_,F],ht],λb hb=>?_,hR];simp at hb;rcases hb with rfl|rfl
  .show M.fpOk (le_succ _) (M.hok.fresh (le_succ _))
  .show M.fpOk (zm _) (M.hok.fresh (zm _))
 rcases q1 with⟨b,e,⟨xs,hq⟩,q⟩|⟨b,e,⟨xs,hq⟩,q⟩|⟨x,e,q⟩
 .subst e;let#[u,rfl,Y]:=vals1 r1;cases Y;let#[h1,rv,pl,hz]:=M.list hq;show call_enumerate_list pl.isList λh' F hi _ G=>L (Ma b _) q F hi G
 .subst e;let#[u,rfl,Y]:=vals1 r1;cases Y;let#[h1,rv,pl,hz]:=M.tuple (bF.of hq);show Tw pl λh' F hi G=>L (KL b _) q F hi G
 .subst e;let#[u,rfl,Y]:=vals1 r1;let#[t,rfl]:=Y;show call_enumerate_str λh' F hi _ G=>L (KD _ x t) q F hi G
def IH{K:W.Frag}(hy:∀i H x H',J.yld i H x H'->H'=H)(h:dW K J l F0):dW K (bq J) (cE 0 l) F0:=λi U σ F G H sm v=>by let#[h1,h2]:=h i U σ F G H sm v;show#[λd hd=>?_,λZ=>h2 (by rw[MK]at Z;show Z)];let#[e,he,rfl]:=MD l 0 i d hd;let#[g1,g2]:=h1 e he;show#[g1,λx H' zq=>?_];let#[p,y,Y,L,ex,eH]:=zq;subst ex eH;let#[F',s1,M,rp]:=g2 y H L;let#[f0,_,_]:=M.free Y;show#[upd F' p (.tup [.int i,y]),s1.trans (zL.upd f0),M.newF Y,?_];let:=aR.tup (K:=K) (F:=upd F' p (.tup [.int i,y])) (a:=p) (xs:=[.int i,y]) (ds:=[.int i,e]) AV (.cons (.int i) (.cons (rp.mono (zL.upd f0)) .nil));simpa using this
def Mk{K:W.Frag}{a:Addr}(e:F0 a=⇑(.tup xs))(r:zY K F0 xs l):dW K (jr a) l F0:=λi U σ F G H M v=>by let L:H a=⇑(.tup xs):=(M.trans v.fr) _ _ e;show#[λd hd=>?_,λh=>#[xs,L,by rw[r.len];show h]];let#[x,Y,Z]:=r.get hd;show#[#[xs,x,L,Y],λy H' J=>?_];let#[rfl,J]:=J;let:x=y:=qf (Y.symm.trans (J xs L));subst this;show#[F,zL.refl F,v,Z.mono M]
def Jg:bootBuiltins "enumerate"=⇑(.type "enumerate"):=by decide+kernel
def HM(hc:X.calm=true)(hg:Gl X "enumerate")(hm:X.mg "enumerate"=none)(hv:bootBuiltins "enumerate"=⇑(.type "enumerate"))(ha:FE X a we)(hs:autoParam (starEach [a] X.env=[(false,eval a X.env)]) rZ9):
  FI X (.Tuple elts kk tpos) (.Call (.Name "enumerate" p) [a] [] pos) (jG we):=λpn xe hp=>by
 show PI.imp (PR (X:=wp X pn xe) hc hg hm hv (Aa ha Ab hs pn xe hp) hs) λσ H R q=>?_;let#[F,G,U,P,PX,h2,hw,Z,hx]:=q;show#[F,G,U,λrs h1=>match rs with|[r]=>(zK (give r h1) λp=>zK (items p.1.toD) λl=>P (cE 0 l) p.2)|_=>False,PX,h2,hw,λrs h1 vs F1 H1 J s1 r1 hl Y=>?_,hx];match rs,vs,Y,r1,J with
 |[r],[v],Y,r1,J=>
  let#[#[s,M],eg,J]:=Ai J;let#[l,el,J]:=Ai J;let#[F2,s2,l2,r2]:=Ar (U':=[]) (σ':=[]) r1 hl Y.1 eg;let#[F3,s3,rp,r3]:=Rel.giveD (U:=M) (vs:=[v]) (ss:=[s]) r2 (l2.trans hl);let sm:=s1.trans (s2.trans s3);cases rp with
  |cons a0 b0=>
   let L:items s.toD=⇑l:=el;generalize s.toD=d at a0 L;cases a0 with
   |lst e0 r0=>cases L;show .inl #[_,rfl,#[_,bO.mono r3.fr e0],Z _ M F3 H1 _ J sm r3 (IH (λ_ _ _ _ z=>z.1) (IL e0 r0))]
   |tup e0 r0=>cases L;show .inr (.inl #[_,rfl,#[_,r3.fr _ _ e0],Z _ M F3 H1 _ J sm r3 (IH (λ_ _ _ _ z=>z.1) (Mk e0 r0))])
   |str e0 z0=>cases L;show .inr (.inr #[_,rfl,Z _ M F3 H1 _ J sm r3 (IH (λ_ _ _ _ z=>z.1) (Iy e0))])
   |_=>cases L
 |[],_,_,_,J=>show J.elim
 |[_],[],Y,_,_=>show Y.elim
 |[_],_::_::_,Y,_,_=>show Y.2.elim
 |_::_::_,_,_,_,J=>show J.elim
end FL
namespace FL
open PySem PySem.Spec PyProof.Rows L2
structure jo(z TI TO i1 i2:Addr)(f1 f2:List Addr):Prop where
 a1:TI≠z
 a2:TO≠z
 a3:TI≠TO
 a4:TI≠i1
 a5:TI≠i2
 m1:i1∈f1
 m2:i2∈f2
 z1:z∉f1
 z2:z∉f2
 o1:TO∉f1
 o2:TO∉f2
 c1:i1∉f2
 c2:i2∉f1
section
variable{z TI TO i1 i2:Addr}
def Ap{f:List Addr}(F:a∈f)(v:b∉f):a≠b:=λq=>v (q▸F)
def QO{Q:zF}(Z:jo z TI TO i1 i2 f1 f2)(D1:Draws prog w A i1 f1 n1 P1 S1)(D2:Draws prog w A i2 f2 n2 P2 S2)
  (hz:IsZip s.heap z TI TO .none)(hI:IsPair s.heap TI (.ref i1) (.ref i2))(hO:IsPair s.heap TO a b)(t1:S1 Y s.heap)(t2:S2 M s.heap)(l1:Y<n1)(l2:M<n2)
  (k:∀x y h' tk,P1 Y x->P2 M y->IsZip h' z TI TO (rawInt s.heap.objs.size)->(∃c d,IsPair h' TO c d)->S1 (Y+1) h'->S2 (M+1) h'->IsPair h' s.heap.objs.size x y->
   (∀c o,c≠z->c≠TO->c≠i1->c≠i2->s.heap.get? c=⇑o->h'.get? c=⇑o)->Q (.ref s.heap.objs.size) {s with heap:=h',toks:=tk}):
  wpAny (model prog w) A (Builtin.«zip.__next__» #[[.ref z],[]]) (λr1 s'=>∃v,r1=.done (.ret v)/\Q v s') E s:=by
 let hl:=Ap Z.m1 Z.z1;let hi:=Ap Z.m2 Z.z2;let hm:=Ap Z.m1 Z.o1;let hs:=Ap Z.m2 Z.o2;show wpAny _ _ (field (.ref z) 2>>=_) _ _ _;apply qa;show zr hz rfl (x:=.bool false) rfl ?_;apply qa;show zr hz rfl (x:=.ref TI) rfl ?_;apply qa;show wpAny_seqItems hI rfl ?_;apply qa;apply qa;show zr hz rfl (x:=.none) rfl (qb ?_);apply qa;apply wpAny_rule;apply qa;show zr hz rfl (x:=.ref TO) rfl ?_;apply qa;show zw hz (by simp) λha za sa=>?_;let h8:IsZip ha z TI TO .ellipsis:=za;apply qa;apply qa;apply qa;apply wpAny_onRaise;apply qa;let hx:S1 Y ha:=D1.frame _ _ _ t1 λc hc o q=>sa.extBut _ _ (Ap hc Z.z1) q;let e3:S2 M ha:=D2.frame _ _ _ t2 λc hc o q=>sa.extBut _ _ (Ap hc Z.z2) q;show D1.item Y _ _ _ l1 hx λx hb tb px hk sb=>qb ?_;let h6:IsPair hb TO a b:=sb.extBut _ _ (Ne.symm hm) (sa.extBut _ _ Z.a2 hO);apply qa;show wpAny_seqItems h6 rfl ?_;apply qa;show wpAny_updateSeq_pair h6 λhc hq sc=>?_;let h5:IsPair hc TO x b:=hq;show qa (wpAny_letGo (qb ?_));apply qa;apply qa;apply wpAny_onRaise;apply qa;let e2:S2 M hc:=D2.frame _ _ _ e3 λc F o q=>sc.extBut _ _ (Ap F Z.o2) (sb.extBut _ _ (Ap F Z.c1) q);show D2.item M _ _ _ l2 e2 λy hd td py e1 sd=>qb ?_;let h4:IsPair hd TO x b:=sd.extBut _ _ (Ne.symm hs) h5;apply qa;show wpAny_seqItems h4 rfl ?_;apply qa;show wpAny_updateSeq_pair h4 λG hr se=>?_;let J:IsPair G TO x y:=hr;show qa (wpAny_letGo (qb (qb ?_)));apply qa;show wpAny_seqItems J rfl ?_;apply qa;show wpAny_newTuple ?_;let h3:G.objs.size=s.heap.objs.size:=by rw[se.1,sd.1,sc.1,sb.1,sa.1]
 let ze:IsZip G z TI TO .ellipsis:=se.extBut _ _ (Ne.symm Z.a2) (sd.extBut _ _ (Ne.symm hi) (sc.extBut _ _ (Ne.symm Z.a2) (sb.extBut _ _ (Ne.symm hl) h8)));let e4:S1 (Y+1) G:=D1.frame _ _ _ hk λc F o q=>se.extBut _ _ (Ap F Z.o1) (sd.extBut _ _ (Ap F Z.c2) (sc.extBut _ _ (Ap F Z.o1) q));let h9:S2 (M+1) G:=D2.frame _ _ _ e1 λc F o q=>se.extBut _ _ (Ap F Z.o2) q;let hp:∀c o,c≠z->c≠TO->c≠i1->c≠i2->s.heap.get? c=⇑o->G.get? c=⇑o:=λc o L q2 q3 q4 q=>se.extBut _ _ q2 (sd.extBut _ _ q4 (sc.extBut _ _ q2 (sb.extBut _ _ q3 (sa.extBut _ _ L q))));let h1:z<G.objs.size:=qe ze;apply qa;let zf:IsZip (G.push {cls:=.type "tuple",data:=.seq [x,y].toArray}) z TI TO .ellipsis:=qc _ ze;apply qa;show zw zf (by simp) λhg zg sg=>?_;let h7:IsZip hg z TI TO (rawInt G.objs.size):=zg;show zw h7 (by simp) λhh zh sh=>?_;let h2:IsZip hh z TI TO (rawInt G.objs.size):=zh;let up:∀c o,c≠z->G.get? c=⇑o->hh.get? c=⇑o:=λc o L q=>sh.extBut _ _ L (sg.extBut _ _ L (qc _ q));let pT:IsPair hh G.objs.size x y:=sh.extBut _ _ (ne_of_gt h1) (sg.extBut _ _ (ne_of_gt h1) (qd _ rfl));rw[h3]at h2 pT;show qb #[_,rfl,?_];rw[h3];show k x y hh _ px py h2 #[_,_,up _ _ Z.a2 J] (D1.frame _ _ _ e4 λc F o q=>up c o (Ap F Z.z1) q) (D2.frame _ _ _ h9 λc F o q=>up c o (Ap F Z.z2) q) pT λc o L q2 q3 q4 q=>up c o L (hp c o L q2 q3 q4 q)
def Th(J:i1≠z)(hz:IsZip s.heap z TI TO .none)(hI:IsPair s.heap TI (.ref i1) (.ref i2))
  (d:∀v,Heap.SameBut z s.heap v->∀(Q:zF)(E:zF),(∀h' e,Heap.ExtBut i1 v h'->(∃o,h'.get? e=⇑o/\o.cls=.type "StopIteration")->E (.ref e) {s with heap:=h'})->wpAny (model prog w) A (Builtin.SmallTypes.nextOf (.ref i1)) Q E {s with heap:=v})
  (k:∀h' e,(∀c o,c≠z->c≠i1->s.heap.get? c=⇑o->h'.get? c=⇑o)->(∃o,h'.get? e=⇑o/\o.cls=.type "StopIteration")->E (.ref e) {s with heap:=h'}):
  wpAny (model prog w) A (Builtin.«zip.__next__» #[[.ref z],[]]) Q E s:=by
 show wpAny _ _ (field (.ref z) 2>>=_) _ _ _;apply qa;show zr hz rfl (x:=.bool false) rfl ?_;apply qa;show zr hz rfl (x:=.ref TI) rfl ?_;apply qa;show wpAny_seqItems hI rfl ?_;apply qa;apply qa;show zr hz rfl (x:=.none) rfl (qb ?_);apply qa;apply wpAny_rule;apply qa;show zr hz rfl (x:=.ref TO) rfl ?_;apply qa;show zw hz (by simp) λv za Z=>?_;let F:IsZip v z TI TO .ellipsis:=za;apply qa;apply qa;apply qa;apply wpAny_onRaise;apply qa;show d v Z _ _ λhb e M st=>?_;let#[oe,G,q2]:=st;let L:IsZip hb z TI TO .ellipsis:=M _ _ (Ne.symm J) F;let ez:e≠z:=λq=>by subst q;rw[L]at G;cases G;simp at q2
 show zw L (by simp) λhc _ Y=>k hc e (λc o c1 c2 q=>Y.extBut _ _ c1 (M _ _ c2 (Z.extBut _ _ c1 q))) #[oe,Y.extBut _ _ ez G,q2]
def Tv(D1:Draws prog w A i1 f1 n1 P1 S1)(m1:i1∈f1)(z1:z∉f1)(o1:TO∉f1)(G:TO≠z)(h1:i2≠z)
  (hz:IsZip s.heap z TI TO .none)(hI:IsPair s.heap TI (.ref i1) (.ref i2))(hO:IsPair s.heap TO a b)(t1:S1 k1 s.heap)(l1:k1<n1)
  (d:∀v tk,(∀c o,c≠z->c≠TO->c≠i1->s.heap.get? c=⇑o->v.get? c=⇑o)->∀(Q:zF)(E:zF),(∀h' e,Heap.ExtBut i2 v h'->(∃o,h'.get? e=⇑o/\o.cls=.type "StopIteration")->E (.ref e) {s with heap:=h',toks:=tk})->wpAny (model prog w) A (Builtin.SmallTypes.nextOf (.ref i2)) Q E {s with heap:=v,toks:=tk})
  (k:∀h' e tk,(∀c o,c≠z->c≠TO->c≠i1->c≠i2->s.heap.get? c=⇑o->h'.get? c=⇑o)->(∃o,h'.get? e=⇑o/\o.cls=.type "StopIteration")->E (.ref e) {s with heap:=h',toks:=tk}):
  wpAny (model prog w) A (Builtin.«zip.__next__» #[[.ref z],[]]) Q E s:=by
 let h2:=Ap m1 z1;let h3:=Ap m1 o1;show wpAny _ _ (field (.ref z) 2>>=_) _ _ _;apply qa;show zr hz rfl (x:=.bool false) rfl ?_;apply qa;show zr hz rfl (x:=.ref TI) rfl ?_;apply qa;show wpAny_seqItems hI rfl ?_;apply qa;apply qa;show zr hz rfl (x:=.none) rfl (qb ?_);apply qa;apply wpAny_rule;apply qa;show zr hz rfl (x:=.ref TO) rfl ?_;apply qa;show zw hz (by simp) λha za L=>?_;let Y:IsZip ha z TI TO .ellipsis:=za;apply qa;apply qa;apply qa;apply wpAny_onRaise;apply qa;let Z:S1 k1 ha:=D1.frame _ _ _ t1 λc v o q=>L.extBut _ _ (Ap v z1) q;show D1.item k1 _ _ _ l1 Z λx hb tb px h4 J=>qb ?_;let F:IsPair hb TO a b:=J.extBut _ _ (Ne.symm h3) (L.extBut _ _ G hO);apply qa;show wpAny_seqItems F rfl ?_;apply qa;show wpAny_updateSeq_pair F λv h5 sc=>?_;show qa (wpAny_letGo (qb ?_));apply qa;apply qa;apply wpAny_onRaise;apply qa;show d v tb (λc o M c2 c3 q=>sc.extBut _ _ c2 (J.extBut _ _ c3 (L.extBut _ _ M q))) _ _ λhd e xd st=>?_;let#[oe,q1,q2]:=st;let zd:IsZip hd z TI TO .ellipsis:=xd _ _ (Ne.symm h1) (sc.extBut _ _ (Ne.symm G) (J.extBut _ _ (Ne.symm h2) Y));let ez:e≠z:=λq=>by subst q;rw[zd]at q1;cases q1;simp at q2
 show zw zd (by simp) λhe _ se=>k he e tb (λc o M c2 c3 c4 q=>se.extBut _ _ M (xd _ _ c4 (sc.extBut _ _ c2 (J.extBut _ _ c3 (L.extBut _ _ M q))))) #[oe,se.extBut _ _ ez q1,q2]
end
def rg(v F:It):It:=#[λi H=>v.go i H/\F.go i H,λi H x H'=>∃p J G,H p=none/\v.yld i H J H/\F.yld i H G H/\x=.ref p/\H'=upd H p (.tup [J,G]),λi H=>v.stop i H\/(v.go i H/\F.stop i H)]
def TK{P:Program}{w:World}{K:W.Frag}{J1 J2:It}{z TI TO i1 i2:Addr}{t1 t2:Nat->Heap->Prop}{elts:List Expr}{k:Nat}{pos:Pos}(S1:pC P w K J1 i1 t1)(S2:pC P w K J2 i2 t2)(nd:[z,TI,TO,i1,i2].Nodup):
  gV P w K (.Tuple elts k pos) (rg J1 J2) [z,TI,TO,i1,i2] z (λi h=>IsZip h z TI TO .none/\IsPair h TI (.ref i1) (.ref i2)/\(∃a b,IsPair h TO a b)/\t1 i h/\t2 i h) where
 mem:=m1
 obj:=λi h st b hb=>by
  let#[hz,hI,#[a,c,hO],q1,q2]:=st;simp at hb;rcases hb with rfl|rfl|rfl|rfl|rfl
  .show#[_,hz,λv z=>by cases z]
  .show#[_,hI,λv z=>by cases z]
  .show#[_,hO,λv z=>by cases z]
  .obtain⟨o,e1,e2,_⟩:=S1.live i h q1;show#[o,e1,e2]
  .obtain⟨o,e1,e2,_⟩:=S2.live i h q2;show#[o,e1,e2]
 keep:=λi h h' st kk=>by let#[hz,hI,#[a,c,hO],q1,q2]:=st;show#[kk _ (m1) _ hz,kk _ (m2) _ hI,#[a,c,kk _ (m3) _ hO],S1.keep i h h' q1 λo e=>kk _ (m4) o e,S2.keep i h h' q2 λo e=>kk _ (m5) o e]
 item:=by
  intro X hP hw hK hc i z4 s σ H E I hf st hg;show cps λG kk=>?_;let#[hz,hI,#[a,c,hO],q1,q2]:=st;let hh:X.A.in1.handled=none:=I.ok.hd hc;let#[f1,n1,P1,T1,D1,u1,l1,m1,e1,v1,w1]:=S1.item X hP hw hK i z4 s σ H X.A.in1 hh I q1 (hf i1 (m4)).1 hg.1;let#[f2,n2,P2,T2,D2,u2,l2,m2,e2,v2,w2]:=S2.item X hP hw hK i z4 s σ H X.A.in1 hh I q2 (hf i2 (m5)).1 hg.2;let#[o1,g1,_,_,_,_,cl1]:=S1.live i _ q1;let#[o2,g2,_,_,_,_,cl2]:=S2.live i _ q2;simp only[qO,qC,not_mem_nil,or_false,not_or]at nd;let#[#[d1,d2,d3,d4],#[d5,d6,d7],#[d8,d9],d10,_]:=nd;let hn:∀b∈[z,TI,TO,i1,i2],H b=none:=λb hb=>(hf b hb).1;let out:∀{f:List Addr}{it b:Addr}{ob:Obj},(∀x∈f,x=it\/(H x≠none/\∃o,s.heap.get? x=⇑o/\o.cls=.type "tuple")\/∃o,s.heap.get? x=⇑o/\o.cls=.type "list")->b≠it->H b=none->s.heap.get? b=⇑ob->ob.cls≠.type "list"->b∉f:=λ{f it b ob} hf0 n1 n2 g n3 m=>by grind
  let zl:Value.type "zip"≠Value.type "list":=⋯
  let tl:Value.type "tuple"≠Value.type "list":=⋯
  let Z:jo z TI TO i1 i2 f1 f2:=#[Ne.symm d1,Ne.symm d2,d5,d6,d7,m1,m2,out e1 d3 (hn z (by simp)) hz zl,out e2 d4 (hn z (by simp)) hz zl,out e1 d8 (hn TO (by simp)) hO tl,out e2 d9 (hn TO (by simp)) hO tl,out e2 d10 (hn i1 (by simp)) g1 cl1,out e1 (Ne.symm d10) (hn i2 (by simp)) g2 cl2]
  have lt:∀b∈[z,TI,TO,i1,i2],b<s.heap.objs.size:=λb hb=>by
   simp at hb;rcases hb with rfl|rfl|rfl|rfl|rfl
   .show qe hz
   .show qe hI
   .show qe hO
   .show qe g1
   .show qe g2
  let ty:s.TypeIs (.ref z) "zip":=#[_,hz,rfl]
  show kk ?_;apply qa;apply wpAny_attempt;show wpAny_callSpecial?_slot (name:=Str.ofString "__next__") ty F.slot_zip_next (zu F.slot_zip_next ty F.entry_zip_next (QO Z D1 D2 hz hI hO u1 u2 l1 l2 λx y h1 tk px py hz1 hO1 t1' t2' hT hk=>?_) (F.args_zip_next_1 _));show qb #[_,rfl,?_];show cps λ_ kk=>?_;let#[y1,ry1,hy1]:=v1 x px;let#[y2,ry2,hy2]:=v2 y py;show kk ?_;show wpAny_letOwnedTupleGo_zip hz1 λh2 hz2 sb=>?_;let nT:s.heap.objs.size≠z:=ne_of_gt (qe hz);let I2:Inv X z4 σ (upd H s.heap.objs.size (.tup [y1,y2])) {s with heap:=h2,toks:=tk}:=Jm I (ch:=[z,TI,TO,i1,i2]) (us:=[x,y]) hf lt (by show 2<=_;decide) (.cons ry1 (.cons ry2 .nil)) #[_,sb.extBut _ _ nT hT,rfl,rfl,_,rfl] λb o hb q=>by simp at hb;show sb.extBut _ _ hb.1 (hk b o hb.1 hb.2.2.1 hb.2.2.2.1 hb.2.2.2.2 q)
  let#[ca,cb,hO1]:=hO1;show#[.ref s.heap.objs.size,_,I2,rfl,#[s.heap.objs.size,y1,y2,I.hok.fresh (zm _),hy1,hy2,rfl,rfl],#[hz2,sb.extBut _ _ (Ne.symm d1) (hk _ _ (Ne.symm d1) d5 d6 d7 hI),#[_,_,sb.extBut _ _ (Ne.symm d2) hO1],S1.keep _ _ _ (w1 _ t1') λo q=>sb.extBut _ _ (Ne.symm d3) q,S2.keep _ _ _ (w2 _ t2') λo q=>sb.extBut _ _ (Ne.symm d4) q],λb hb=>?_];grind[Al,ne_of_lt]
 done:=by
  intro X hP hw hK hc i z4 s σ H E I hf st hg;show cps λG kk=>?_;let#[hz,hI,#[a,c,hO],q1,q2]:=st;let hh:X.A.in1.handled=none:=I.ok.hd hc;simp only[qO,qC,not_mem_nil,or_false,not_or]at nd;let#[#[d1,d2,d3,d4],#[d5,d6,d7],#[d8,d9],d10,_]:=nd;let ty:s.TypeIs (.ref z) "zip":=#[_,hz,rfl]
  let stop:∀(h':Heap)(e:Addr)(tk:Nat),(∀b o,b≠z->b≠TO->b≠i1->b≠i2->s.heap.get? b=⇑o->h'.get? b=⇑o)->Inv X z4 σ H {s with heap:=h',toks:=tk}:=λh' e tk hk=>DE I (ch:=[z,TI,TO,i1,i2]) hf λb o hb q=>by grind
  show kk ?_;apply qa;apply wpAny_attempt;rcases hg with hg|⟨hg1,hg2⟩
  .refine wpAny_callSpecial?_slot (name:=Str.ofString "__next__") ty F.slot_zip_next (zu F.slot_zip_next ty F.entry_zip_next (Th (Ne.symm d3) hz hI (λha sa=>?_) λh' e hk st=>?_) (F.args_zip_next_1 _))
   .let Ia:Inv X z4 σ H {s with heap:=ha}:=DE I (t':=s.toks) (ch:=[z]) (λb hb=>hf b (by simp at hb;simp[hb])) λb o hb q=>sa.extBut _ _ ↑hb q;show S1.done X hP hw hK i z4 {s with heap:=ha} σ H X.A.in1 hh Ia (S1.keep _ _ _ q1 λo q=>sa.extBut _ _ (Ne.symm d3) q) hg
   .obtain⟨o,r1,r2⟩:=st;show qa (wpAny_isInstance (T:="StopIteration") (b:=true) #[o,r1,r2] isSubtype_stop (qb #[rfl,stop h' e s.toks λb o c1 c2 c3 c4 q=>hk b o c1 c3 q]))
  .obtain⟨f1,n1,P1,T1,D1,u1,l1,m1,e1,v1,w1⟩:=S1.item X hP hw hK i z4 s σ H X.A.in1 hh I q1 (hf i1 (m4)).1 hg1;let hn:∀b∈[z,TI,TO,i1,i2],H b=none:=λb hb=>(hf b hb).1;let out:∀{f:List Addr}{it b:Addr}{ob:Obj},(∀x∈f,x=it\/(H x≠none/\∃o,s.heap.get? x=⇑o/\o.cls=.type "tuple")\/∃o,s.heap.get? x=⇑o/\o.cls=.type "list")->b≠it->H b=none->s.heap.get? b=⇑ob->ob.cls≠.type "list"->b∉f:=λ{f it b ob} hf0 n1 n2 g n3 m=>by grind
   let zl:Value.type "zip"≠Value.type "list":=⋯
   let tl:Value.type "tuple"≠Value.type "list":=⋯
   subst hP hw;show wpAny_callSpecial?_slot (name:=Str.ofString "__next__") ty F.slot_zip_next (zu F.slot_zip_next ty F.entry_zip_next (Tv D1 m1 (out e1 d3 (hn z (by simp)) hz zl) (out e1 d8 (hn TO (by simp)) hO tl) (Ne.symm d2) (Ne.symm d4) hz hI hO u1 l1 (λhc2 tk sa=>?_) λh' e tk hk st=>?_) (F.args_zip_next_1 _))
   .let Ia:Inv X z4 σ H {s with heap:=hc2,toks:=tk}:=DE I (ch:=[z,TO,i1]) (λb hb=>hf b (by simp at hb;rcases hb with q|q|q<;>simp[q])) λb o hb q=>by grind
    show S2.done X rfl rfl hK i z4 {s with heap:=hc2,toks:=tk} σ H X.A.in1 hh Ia (S2.keep _ _ _ q2 λo q=>sa _ _ (Ne.symm d4) (Ne.symm d9) (Ne.symm d10) q) hg2
   .obtain⟨o,r1,r2⟩:=st;show qa (wpAny_isInstance (T:="StopIteration") (b:=true) #[o,r1,r2] isSubtype_stop (qb #[rfl,stop h' e tk hk]))
 self:=λA i s Q E st h=>wpAny_pyIter_zip st.1 h
def gX(v:Value)(o:Obj)(s:Shared):Prop:=∀(prog:Program)(w:World)(A:Around)(Q:zF)(E:zF),Q (.ref s.heap.objs.size) {s with heap:=s.heap.push o}->wpAny (model prog w) A (pyIter v) Q E s
abbrev zA(h:Heap)(v:Obj):Heap:=h.push v
abbrev zB(h:Heap)(F v:Obj):Heap:=(zA h F).push v
abbrev zC(h:Heap)(v F:Obj):Heap:=(zB h v F).push {cls:=.type "tuple",data:=.seq [.ref h.objs.size,.ref (zA h v).objs.size].toArray}
abbrev zD(h:Heap)(F v:Obj):Heap:=(zC h F v).push {cls:=.type "tuple",data:=.seq [.none,.none].toArray}
abbrev zE(h:Heap)(F v:Obj):Heap:=(zD h F v).push {cls:=.type "zip",data:=.fields [.none,.bool false,.bool false,.ref (zB h F v).objs.size,.ref (zC h F v).objs.size].toArray}
def RD(Y M:Value)(v F:Obj):Meets (Builtin.«zip.__new__» #[[.type "zip",Y,M],[]]) (λ_ R s=>gX Y v s/\gX M F {s with heap:=zA s.heap v}/\R (.ok (.ret (.ref (zD s.heap v F).objs.size))) {s with heap:=zE s.heap v F}):=
 .of_wp λprog w A R s L=>by
  let#[hp,g,d,tk,os]:=s;let#[k1,Z,hr]:=L;let ss:=sub_zip;let J:=λ(A:Around)(Q:zF)(E:zF)=>k1 prog w A Q E;let G:=λ(A:Around)(Q:zF)(E:zF)=>Z prog w A Q E
  wp_walk using J,G
  show#[_,rfl,hr]
def Pu(m1:gX v1 v s)(m2:gX v2 G {s with heap:=zA s.heap v})(f1:v.isFreed=false)(f2:G.isFreed=false)
  (k:∀h',IsZip h' (s.heap.objs.size+4) (s.heap.objs.size+2) (s.heap.objs.size+3) .none->IsPair h' (s.heap.objs.size+2) (.ref s.heap.objs.size) (.ref (s.heap.objs.size+1))->IsPair h' (s.heap.objs.size+3) .none .none->
   h'.get? s.heap.objs.size=⇑v->h'.get? (s.heap.objs.size+1)=⇑G->(∀c o,s.heap.get? c=⇑o->h'.get? c=⇑o)->Q (.ref (s.heap.objs.size+4)) {s with heap:=h'}):
  wpAny (model prog w) A (call (.type "zip") [v1,v2]) Q E s:=by
 show callType_new F.called_zip ⋯ (F.typeCall_zip_2 _ _) (F.newCall_zip_2 _ _) (λY=>F.args_object_init_3 Y _ _) F.entry_zip_new (RD v1 v2 v G) #[m1,m2,?_];let M:(zA s.heap v).objs.size=s.heap.objs.size+1:=Heap.size_push ..;let L:(zB s.heap v G).objs.size=s.heap.objs.size+2:=by rw[Heap.size_push,M]
 let J:(zC s.heap v G).objs.size=s.heap.objs.size+3:=by rw[Heap.size_push,L]
 let q4:(zD s.heap v G).objs.size=s.heap.objs.size+4:=by rw[Heap.size_push,J]
 let Z:(zE s.heap v G).get? (zD s.heap v G).objs.size=⇑_:=qd _ rfl;let g4:(zE s.heap v G).get? (zC s.heap v G).objs.size=⇑_:=qc _ (qd _ rfl);let g3:(zE s.heap v G).get? (zB s.heap v G).objs.size=⇑_:=qc _ (qc _ (qd _ rfl));let g2:(zE s.heap v G).get? (zA s.heap v).objs.size=⇑G:=qc _ (qc _ (qc _ (qd _ f2)));let g1:(zE s.heap v G).get? s.heap.objs.size=⇑v:=qc _ (qc _ (qc _ (qc _ (qd _ f1))));rw[L,J,q4]at Z;rw[M,L]at g3;rw[J]at g4;rw[M]at g2;rw[q4];show#[#[_,Z,rfl],k _ Z g3 g4 g1 g2 λc o x=>qc _ (qc _ (qc _ (qc _ (qc _ x))))]
def kU(X:Cx)(H:Hp)(v:V)(J:It):Prop:=(∃a xs,v=.ref a/\bO X.K H a xs/\J=bp X.K a)\/(∃a xs,v=.ref a/\H a=⇑(.tup xs)/\J=jr a)\/∃x,v=.str x/\J=ay x
def EV(I:Inv X z4 σ H s)(r:zP v u)(h:kU X H v J):
  ∃o:Obj,gX u o s/\o.isFreed=false/\∀F,∃Y,pC X.prog X.w X.K J F Y/\∀h':Heap,h'.get? F=⇑o->Y 0 h':=by
 rcases h with⟨a,xs,rfl,M,rfl⟩|⟨a,xs,rfl,M,rfl⟩|⟨x,rfl,rfl⟩
 .cases r;let#[L,Z,G,hz]:=I.list M;show#[{cls:=.type "list_iterator",data:=.fields [.ref a,.int 0 0].toArray},λprog w A Q E k=>wpAny_pyIter_list G.isList k,rfl,λF=>#[_,Ma a F,λh' e=>#[_,e,rfl,rfl]]]
 .cases r;let#[L,Z,G,hz]:=I.tuple (bF.of M);show#[{cls:=.type "tuple_iterator",data:=.fields [.ref a,.int 0 0].toArray},λprog w A Q E k=>wpAny_pyIter_tuple G k,rfl,λF=>#[_,KL a F,λh' e=>#[_,e,rfl,rfl]]]
 .obtain⟨t,rfl⟩:=r;show#[{cls:=.type (strIterType x),data:=.fields [.str x t,.int 0 0].toArray},λprog w A Q E k=>wpAny_pyIter_strU k,rfl,λF=>#[_,KD F x t,λh' e=>#[_,e,rfl,rfl]]]
def ox(X:Cx)(M:TA):TI:=λσ H R=>M σ H λL H1=>∃F v J G,L=[F,v]/\kU X H1 F J/\kU X H1 v G/\R (rg J G) H1
def OZ(hc:X.calm=true)(hg:Gl X "zip")(hm:X.mg "zip"=none)(hv:bootBuiltins "zip"=⇑(.type "zip"))(hl:PA X [a,b] Z)
  (hs:autoParam (starEach [a,b] X.env=[(false,eval a X.env),(false,eval b X.env)]) rZ9)(G:autoParam (starEach [b] X.env=[(false,eval b X.env)]) rZ9):PI X (.Tuple elts kk tpos) (.Call (.Name "zip" p) [a,b] [] pos) (ox X Z):=by
 intro z4 s σ H R I h;show wpAny_Call_Name_kw (BU I hg hm hv ?_ ⋯ ⋯);show PyProof.Rows.callWith_type1 (Aj (hl pos z4 s σ H _ I h) λus v Y=>?_) (by rw[hs,G]) (by rw[G];rfl);let#[vs,H1,F,r1,q1]:=Y;let#[v1,v2,J1,J2,rfl,k1,k2,q]:=q1;cases r1 with
 |cons ra L=>
  cases L with
  |cons L rn=>
   cases rn;let#[o1,m1,f1,g1]:=EV F ra k1;let I2:Inv X z4 σ H1 {v with heap:=zA v.heap o1}:=F.kept (t':=v.toks) λ_ _ e=>qc _ e;let#[o2,m2,f2,g2]:=EV I2 L k2;show Pu m1 m2 f1 f2 λh' M hI hO e1 e2 kp=>?_;let#[t1,S1,b1]:=g1 v.heap.objs.size;let#[t2,S2,b2]:=g2 (v.heap.objs.size+1);show wpAny_pyIter_zip (s:={v with heap:=h'}) M ?_;let lt:∀k:Nat,v.heap.objs.size<=v.heap.objs.size+k:=λk=>Nat.le_add_right _ _;show#[v.heap.objs.size+4,[v.heap.objs.size+4,v.heap.objs.size+2,v.heap.objs.size+3,v.heap.objs.size,v.heap.objs.size+1],_,_,H1,rfl,F.kept (t':=v.toks) kp,TK S1 S2 ?_,#[M,hI,#[_,_,hO],b1 h' e1,b2 h' e2],λc J=>?_,q]
   .simp
   .simp at J;rcases J with rfl|rfl|rfl|rfl|rfl
    .show F.fpOk (lt 4) (F.hok.fresh (lt 4))
    .show F.fpOk (lt 2) (F.hok.fresh (lt 2))
    .show F.fpOk (lt 3) (F.hok.fresh (lt 3))
    .show F.fpOk (lt 0) (F.hok.fresh (lt 0))
    .show F.fpOk (lt 1) (F.hok.fresh (lt 1))
def Sz{K:W.Frag}(h1:dW K J1 l F0)(h2:dW K J2 m F0):dW K (rg J1 J2) (dR l m) F0:=λi U σ F G H M v=>by
 let#[p1,p2]:=h1 i U σ F G H M v;let#[q1,q2]:=h2 i U σ F G H M v;show#[λd hd=>?_,λhl=>?_]
 .obtain⟨e,f,he,hf,rfl⟩:=LF l m i d hd;let#[g1,g2]:=p1 e he;let#[g3,g4]:=q1 f hf;show#[#[g1,g3],λx H' zq=>?_];show cps λ_ kk=>?_;let#[p,L,J,hp,h4,h3,ex,eH]:=zq;subst ex eH;let#[F1,s1,r1,Z]:=g2 L H h4;let#[F2,s2,r2,Y]:=(h2 i U σ F1 G H (M.trans s1) r1).1 f hf|>.2 J H h3;let#[f0,_,_]:=r2.free hp;show kk ?_;show⟨upd F2 p (.tup [L,J]),(s1.trans s2).trans (zL.upd f0),r2.newF hp,.tup (xs:=[L,J]) AV (.cons ((Z.mono s2).mono (zL.upd f0)) (.cons (Y.mono (zL.upd f0)) .nil))⟩
 .rw[Md]at hl;by_cases h:l.length<=i
  .show .inl (p2 h)
  .let h5:i<l.length:=by lia
   show .inr #[(p1 l[i] (qh h5)).1,q2 ∅]
def HB:bootBuiltins "zip"=⇑(.type "zip"):=by decide+kernel
def EZ(M:zL F H)(r:aR X.K F v d)(e:items d=⇑l):∃J,kU (wp X pn xe) H v J/\dW X.K J l F:=by
 cases r with
 |lst G L=>cases e;show#[_,.inl #[_,_,rfl,bO.mono M G,rfl],IL G L]
 |tup G L=>cases e;show#[_,.inr (.inl #[_,_,rfl,M _ _ G,rfl]),Mk G L]
 |str G Y=>cases e;show#[_,.inr (.inr #[_,rfl,rfl]),Iy G]
 |_=>cases e
def Kb(hc:X.calm=true)(hg:Gl X "zip")(hm:X.mg "zip"=none)(hv:bootBuiltins "zip"=⇑(.type "zip"))(ha:FE X a wa)(hb:FE X b wb)(hs:autoParam (starEach [a,b] X.env=[(false,eval a X.env),(false,eval b X.env)]) rZ9)(h1:autoParam (starEach [b] X.env=[(false,eval b X.env)]) rZ9):
  FI X (.Tuple elts kk tpos) (.Call (.Name "zip" p) [a,b] [] pos) (pW wa wb):=λpn xe hp=>by
 show PI.imp (OZ (X:=wp X pn xe) hc hg hm hv (Aa ha (Aa hb Ab h1) (by rw[hs,h1]) pn xe hp) hs h1) λσ H R q=>?_;let#[F,G,U,P,PX,h2,hw,h3,hx]:=q;show#[F,G,U,λrs J=>match rs with|[r,t]=>(zK (give r J) λp=>zK (give t p.2) λq=>zK (items p.1.toD) λl=>zK (items q.1.toD) λm=>P (dR l m) q.2)|_=>False,PX,h2,hw,λrs J vs F1 H1 L s1 r1 hl Z=>?_,hx];match rs,vs,Z,r1,L with
 |[r,t],[v,u],Z,r1,L=>
  dsimp only at L;show cps λ_ kk=>?_;let#[#[s,Y],eg,L]:=Ai L;let#[#[s',M],h4,L]:=Ai L;let#[l,el,L]:=Ai L;let#[m,em,L]:=Ai L;obtain⟨F2,s2,ss,e3,l3,r3⟩:∃F2,zL F1 F2/\∃ss,ss=[s,s']/\M.length=J.length/\Rel X.K (M++ss.map some) (σ++[v,u].map some) F2 G H1:=by
   let e:aI [r,t] J=⇑([s,s'],M):=by show(match give r J with|some (s,J)=>(match aI [t] J with|some (ss,Y)=>⇑(s::ss,Y)|none=>none)|none=>none)=_;rw[eg];show(match(match give t Y with|some (s,J)=>⇑([s],J)|none=>none)with|some (ss,Y)=>⇑(s::ss,Y)|none=>none)=_;rw[h4]
   let#[F2,s2,l2,z,r2]:=Fv (rs:=[r,t]) (vs:=[v,u]) (U':=[]) (σ':=[]) r1 hl Z e;show#[F2,s2,_,rfl,l2,↑r2]
  subst e3;let#[F3,s3,rp,r4]:=Rel.giveD (U:=M) (vs:=[v,u]) (ss:=[s,s']) r3 (l3.trans hl);show kk ?_;let sm:=s1.trans (s2.trans s3);cases rp with
  |cons a0 b0=>
   cases b0 with
   |cons b0 n0=>let#[J1,k1,i1]:=EZ (pn:=pn) (xe:=xe) r4.fr a0 el;let#[J2,k2,i2]:=EZ (pn:=pn) (xe:=xe) r4.fr b0 em;show#[v,u,J1,J2,rfl,k1,k2,h3 _ M F3 H1 _ L sm r4 (Sz i1 i2)]
 |[],_,_,_,L=>show L.elim
 |[_],_,_,_,L=>show L.elim
 |[_,_],[],Z,_,_=>show Z.elim
 |[_,_],[_],Z,_,_=>show Z.2.elim
 |[_,_],_::_::_::_,Z,_,_=>show Z.2.2.elim
 |_::_::_::_,_,_,_,L=>show L.elim
def UD(v:bU k A):A.mark none=A:=by first|rfl|assumption|(simp_all;done)
end FL
namespace FL
open Classical in
def mH(ks:List D)(k:D):Option Nat:=ks.findIdx? λx=>↥(x=k)
def cM(t:Bool)(ks:List D)(l:List S)(k:D)(s:S):S:=match mH ks k with
 |some i=>.dct t ks (l.set i s)
 |none=>.dct t (ks++[k]) (l++[s])
def lS(j:Nat)(i e:WE):WS:=λD U=>e U (λr G=>zG j G (λx F=>i F (λy v=>zK (view y v) λq=>zK (give r v) λp=>match x,slot p.2 j with
 |.loc k,some (.dct t ks l)=>k=j/\cL t q=true/\ks.Nodup/\ks.length<big/\D.nx (p.2.set j ⇑(cM t ks l q p.1))
 |_,_=>False) D.ex) D.ex) D.ex
end FL
namespace FL
open PySem PySem.Spec PyProof.Rows L2
def Lv(h:mH ks k=⇑i):ks[i]?=⇑k:=by unfold mH at h;rw[List.findIdx?_eq_some_iff_getElem]at h;let#[hi,h1,_]:=h;rw[qh hi];congr 1;simpa using h1
def TQ(h:mH ks k=none):k∉ks:=by unfold mH at h;grind
section
variable{κ:Type}[DecidableEq κ]{kd:κ->D}(inj:∀a b,kd a=kd b->a=b)
include inj
def TN{z5:List (κ×V)}{k:κ}{v:V}{i:Nat}(hn:(z5.map λp=>kd p.1).Nodup)(h:(z5.map λp=>kd p.1)[i]?=⇑(kd k)):dD z5 k v=z5.set i (k,v):=by
 let hi:i<z5.length:=by let:=(qg.mp h).1;simpa using this
 let L:z5[i].1=k:=by rw[qI,qh hi]at h;show inj _ _ (qf h)
 let F:(z5.any λM=>↥(M.1=k))=true:=any_eq_true.mpr #[z5[i],getElem_mem hi,by simp[L]];unfold dD;rw[zj F];apply ext_getElem?;intro j;rw[qI,getElem?_set];by_cases J:i=j
 .subst J;rw[qh hi];simp[L];show hi
 .rw[zk J];cases q:z5[j]? with
  |none=>rfl
  |some p=>
   have G:¬p.1=k:=λz=>by
    apply J;let h2:(z5.map λp=>kd p.1)[j]?=⇑(kd k):=by rw[qI,q,<-z];rfl
    show(List.getElem?_inj ↑hi hn).mp (h.trans h2.symm)
   simp[G]
omit inj in
def RQ{z5:List (κ×V)}{k:κ}{v:V}(h:kd k∉z5.map λp=>kd p.1):dD z5 k v=z5++[(k,v)]:=by unfold dD;grind
def KJ{z5:List (κ×V)}{k:κ}{v:V}{ks:List D}(G:ks=z5.map λp=>kd p.1)(hn:ks.Nodup):
  (∀m,mH ks (kd k)=⇑m->ks=(dD z5 k v).map (λp=>kd p.1)/\(z5.map (·.2)).set m v=(dD z5 k v).map (·.2))/\(mH ks (kd k)=none->ks++[kd k]=(dD z5 k v).map (λp=>kd p.1)/\z5.map (·.2)++[v]=(dD z5 k v).map (·.2)):=by
 subst G;show#[λm F=>?_,λF=>?_]
 .let h:=Lv F;rw[TN inj hn h,map_set,map_set];show#[?_,rfl];apply ext_getElem?;intro j;rw[getElem?_set];by_cases J:m=j
  .subst J;rw[zj rfl,zj (qg.mp h).1,h]
  .rw[zk J]
 .rw[RQ (TQ F),map_append,map_append];show#[rfl,rfl]
end
inductive mW(ks:List D)(xs:List V):Bool->HO->Prop
 |k {z5:List (bV×V)}:ks=z5.map (λp=>aZ p.1)->xs=z5.map (·.2)->mW ks xs false (.dK z5)
 |t {z5:List (List bV×V)}:ks=z5.map (λp=>D.tup (p.1.map aZ))->xs=z5.map (·.2)->mW ks xs true (.dT z5)
section
variable{K:W.Frag}
def IF(r:aK K F H v (.dct t ks l) fp):∃a o xs G,v=.ref a/\fp=a::G/\H a=⇑o/\mW ks xs t o/\zO K F H xs l G:=by
 cases r with
 |dK e q r=>show#[_,_,_,_,rfl,rfl,e,.k q rfl,r]
 |dT e q r=>show#[_,_,_,_,rfl,rfl,e,.t q rfl,r]
def mW.mk{a:Addr}{o:HO}{t:Bool}{ks:List D}{xs:List V}{l:List S}{v:List Addr}(d:mW ks xs t o)(e:H a=⇑o)(r:zO K F H xs l v):aK K F H (.ref a) (.dct t ks l) (a::v):=by
 cases d with
 |k q z=>subst z;show .dK e q r
 |t q z=>subst z;show .dT e q r
def mW.len{o:HO}{t:Bool}{ks:List D}{xs:List V}(d:mW ks xs t o):ks.length=xs.length:=by
 cases d with
 |k q z=>subst z;subst q;simp
 |t q z=>subst z;subst q;simp
def mW.put{a:Addr}{o:HO}{t:Bool}{ks:List D}{xs:List V}{y v:V}{q:D}(d:mW ks xs t o)(e:H a=⇑o)(r:aR K H y q)(hk:cL t q=true)(hn:ks.Nodup)(Z:ks.length<sizeLine):
  ∃o',pG H a y v (upd H a o')/\(∀m,mH ks q=⇑m->mW ks (xs.set m v) t o')/\(mH ks q=none->mW (ks++[q]) (xs++[v]) t o'):=by
 cases d with
 |@k J h1 h2=>subst h2;let#[Y,rfl,rfl]:=ES r hk;let#[M,L]:=KJ (λ_ _=>EC) (k:=Y) (v:=v) h1 hn;show#[_,.inl #[J,Y,e,rfl,by rw[h1,qo]at Z;show Z,rfl],λm F=>.k (M m F).1 (M m F).2,λF=>.k (L F).1 (L F).2]
 |@t J h1 h2=>
  subst h2;cases r with
  |tup e1 q=>let#[G,rfl,rfl]:=HU q hk;let#[M,L]:=KJ (kd:=λl:List bV=>D.tup (l.map aZ)) (λa b z=>GK (D.tup.inj z)) (k:=G) (v:=v) h1 hn;show#[_,.inr #[J,G,_,e,rfl,e1,by rw[h1,qo]at Z;show Z,rfl],λm F=>.t (M m F).1 (M m F).2,λF=>.t (L F).1 (L F).2]
  |_=>cases hk
def Rel.dct{D:Addr}(r:Rel K (U++[⇑s]) (σ++[⇑v]) F G H)(hs:slot U n=⇑(.dct t ks l))(Y:σ[n]?=⇑⇑(.ref D))(hD:H D=⇑o)(ho:mW ks xs t o)(h8:mW ks' h4 t o')
  (h9:∀(H':Hp)(fl fs:List Addr),zO K F H' xs l fl->aK K F H' v s fs->∃J rest,zO K F H' h4 l' J/\(J++rest).Perm (fl++fs)):
  Rel K (U.set n ⇑(.dct t ks' l')) σ F G (upd H D o'):=by
 let hl:=Ag r;let#[fp,e,nd,ap]:=r.en;let#[f1,f2,rfl,a,b]:=e.cut hl;let#[v',fa,fi,fb,e1,rfl,q,up]:=a.at hs;rw[Y]at e1;let e2:V.ref D=v':=↑e1
 subst e2;let#[a',o2,h3,fl,z1,rfl,h1,Z,rl]:=IF q;cases z1;rw[hD]at h1;cases h1;let ex:h3=xs:=by
  cases ho with
  |k _ z=>cases Z with|k _ z'=>rw[z,z']
  |t _ z=>cases Z with|t _ z'=>rw[z,z']
 subst ex;cases b with
 |so sr nl=>
  cases nl;rename_i fs;let#[n1,n2,h7]:=qx.mp nd;let#[na,L,h6]:=qx.mp n1;let#[ni,nb,L]:=qx.mp L;let#[nD,hp]:=qO.mp ni;let hk:D∉fa:=λz=>h6 D z D (qj _ qm) rfl;let e4:D∉fb:=λz=>L D qm D z rfl;let e3:D∉fs:=λz=>h7 D (qi _ (qj _ qm)) D ↑z rfl;let h2:=ap D (qj _ (qi _ (qj _ qm)));let ne:∀{l:List Addr},D∉l->∀x∈l,upd H D o' x=H x:=λh x M=>Al λz=>h (z▸M);let#[J,rest,h5,pm]:=h9 (upd H D o') fl fs (rl.mono (zL.refl F) (ne nD)) (sr.mono (zL.refl F) (ne e3));let a2:=up (F':=F) (H':=upd H D o') (o:=⇑(.dct t ks' l')) (u:=⇑(.ref D)) (zL.refl F) (λx M=>Al λz=>(qz.mp M).elim (λw=>hk (z▸w)) λw=>e4 (z▸w)) (.so (h8.mk AV h5) .nil);rw[Fp Y]at a2;let p:(fa++((D::(J++rest))++[]++fb)).Perm (fa++((D::fl)++fb)++(fs++[])):=by show(List.Perm.append_left _ (List.Perm.append_right _ (List.Perm.append_right _ (List.Perm.cons _ pm)))).trans ?_;simp;show List.Perm.append_left _ (List.Perm.cons _ (List.Perm.append_left _ qQ))
  let sb:List.Sublist (fa++((D::J)++[]++fb)) (fa++((D::(J++rest))++[]++fb)):=by simp only[qp,qR];show List.Sublist.append (List.Sublist.refl _) (List.Sublist.cons_cons _ (List.Sublist.append (List.Sublist.refl _) (List.sublist_append_right _ _)))
  show#[zL.updR r.fr h2.1,λx o w=>?_,_,a2,sb.nodup (p.nodup_iff.mpr nd),λx M=>ap x (p.mem_iff.mp (sb.subset M))];let M:x≠D:=λz=>by rw[z,h2.2]at w;cases w
  rw[Al M];show r.gr x o w
def Rel.dput{D:Addr}(r:Rel K (U++[⇑s]) (σ++[⇑v]) F G H)(hs:slot U n=⇑(.dct t ks l))(J:σ[n]?=⇑⇑(.ref D))(ry:aR K H y q)(hk:cL t q=true)(hn:ks.Nodup)(hb:ks.length<big):
  ∃H',pG H D y v H'/\Rel K (U.set n ⇑(cM t ks l q s)) σ F G H':=by
 show cps λ_ kk=>?_;let#[v',fp,e1,L]:=(r.drop (Ag r)).at hs;rw[J]at e1;let e2:V.ref D=v':=↑e1
 subst e2;let#[a',o,xs,fl,z1,_,hD,Y,rl]:=IF L;cases z1;let h4:=Y.len;let h5:=rl.len;let#[o',dp,h1,h2]:=Y.put (v:=v) hD ry hk hn (by rw[zv];show lt_trans hb ⋯);show kk ?_;show#[_,dp,?_];cases M:mH ks q with
 |some m=>
  let ed:cM t ks l q s=.dct t ks (l.set m s):=by unfold cM;rw[M]
  rw[ed];let h3:m<l.length:=by let:=(qg.mp (Lv M)).1;lia
  show r.dct hs J hD Y (h1 m M) λH' fl fs rl L=>?_;let#[ga,gi,gb,rfl,Z]:=rl.set h3;show#[_,gi,Z (λ_ _=>rfl) L,?_];simp;show List.Perm.append_left _ ((List.Perm.append_left _ qQ).trans (qQ.trans (by simp)))
 |none=>
  let ed:cM t ks l q s=.dct t (ks++[q]) (l++[s]):=by unfold cM;rw[M]
  rw[ed];show r.dct hs J hD Y (h2 M) λH' fl fs rl L=>#[fl++fs,[],zO.snoc rl L,by simp]
end
def Kz(hu:X.A.units+1<cLine)(ho:FE X o (zG j))(hi:FE X i wi)(he:FE X e we)(hs:autoParam (swapsWith e ⇑(.Subscript o i tpos) pos.line X.env=pure false) rZ9):FS X ks (.Assign [.Subscript o i tpos] e pos) (lS j wi we):=λpn xe hp=>by
 show PS.imp (Qz (X:=wp X pn xe) hu (ho pn xe hp) (hi pn xe hp) (he pn xe hp) hs) λD σ H q=>?_;let#[F,G,U,E,h9,hw,n,b,c,r,x]:=q;let x0:XC (wp X pn xe) (·=σ) F G E.ex:=x.mono (λhb z=>by rw[z];show KP.refl) (zL.refl F) (zL.refl G);show#[F,G,U,_,_,h9,hw,λr h6 v F1 H1 hk s1 r1 rv=>?_,x0];let l1:=Ag r1;let#[G1,h3,gg,back]:=r1.hide l1;show#[F1,G1,h6,_,_,h3,hk,λy h5 o' F2 H2 e4 s2 r2 h8=>?_,x0.mono (λ_ z=>z) s1 gg];let l2:=Ag r2;let#[G2,h2,hx,h1]:=r2.hide l2;show#[F2,G2,h5,_,_,h2,e4,λz L i' F3 H3 Z s3 r3 h7=>?_,x0.mono (λ_ z=>z) (s1.trans s2) (gg.trans hx)];let l3:=Ag r3;let#[q,eq,Z]:=Ai Z;let#[#[t,h4],eg,J]:=Ai Z;let r4:=back (s2.trans s3) (h1 s3 r3);simp at r4;let ri:=look (U':=[zM y,zM r]) (σ':=[⇑o',⇑v]) r4 l3 h7 eq;let r5:Rel X.K (L++[zM r]) (σ++[⇑v]) F3 G H3:=Rel.mid (U:=L) (σ:=σ) (Rel.mid (U:=L) (σ:=σ) r4 l3) l3;let#[F4,s4,l4,r6]:=Ar (U':=[]) (σ':=[]) r5 l3 rv eg;cases y with
 |v y0=>show J.elim
 |loc k=>
  cases M:slot h4 j with
  |none=>simp[M]at J
  |some sj=>
   rw[M]at J;match sj,M,J with
   |.dct t kk l,M,⟨ekj,hkey,hnd,hbig,hnx⟩=>
    subst ekj;let Y:σ[k]?=⇑⇑o':=h8;let#[v',fp,e1,sr]:=r6.at (i:=k) (s:=.dct t kk l) (by rw[Fi (Es M)];show M);let e3:k<σ.length:=(qg.mp Y).1;rw[getElem?_append_left e3,Y]at e1;let e2:o'=v':=↑e1
    subst e2;let#[a,o2,xs,fl,rfl,_,_,_,_]:=IF sr;let#[H',dp,r7]:=Rel.dput r6 M Y ri hkey hnd hbig;show#[a,_,rfl,dp,n _ σ F4 _ hnx KP.refl (s1.trans (s2.trans (s3.trans s4))) r7]
end FL
namespace FL
def iP(k v:WE):WE:=λU Q E=>k U (λx G=>v G (λy F=>zK (view x F) λq=>zK (give y F) λp=>dJ q=true/\Q (.v (.dct false [q] [p.1])) p.2) E) E
end FL
namespace FL
open PySem PySem.Spec PyProof.Rows L2
def Mb(hk:FE X k wk)(hv:FE X v wv):FE X (.Dict [⇑k] [v] pos) (iP wk wv):=λpn xe hp=>by
 show PE.imp (Rh (X:=wp X pn xe) (RZ (hk pn xe hp) (hv pn xe hp) Rt) rfl rfl (by simp) (by show 1<=15;decide)) λσ H Q q=>?_;let#[F,G,U,P,PX,h8,hw,e3,hx]:=q;intro p hp;let r0:=Rel.newO (s:=.dct false [] []) h8 hp (.dK (z5:=[]) AV rfl .nil);let#[G0,h2,g0,Z]:=r0.hide (Ag r0);show#[F,G0,U,_,PX,h2,hw,λrx U1 vx F1 H1 hc s1 r1 h7=>?_,hx.mono (λ_ z=>z) (zL.refl F) g0];let l1:=Ag r1;let#[G1,h1,g1,back1]:=r1.hide l1;show#[F1,G1,U1,_,PX,h1,hc,λry U2 vy F2 H2 hb s2 r2 h6=>?_,hx.mono (λ_ z=>z) s1 (g0.trans g1)];let l2:=Ag r2;let#[q,eq,hi]:=Ai hb;let#[#[t,J],eg,h5,e4]:=Ai hi;let r3:=Z (s1.trans s2) (back1 s2 r2);simp only[qp,qR,nil_append]at r3
 --y,x,the dict
 let#[F3,s3,l3,r4]:=Ar (U':=[zM rx,⇑(.dct false [] [])]) (σ':=[⇑vx,⇑(.ref p)]) r3 l2 h6 eg;let h9:Rel X.K (U2++zM rx::[⇑(.dct false [] [])]) (σ++⇑vx::[⇑(.ref p)]) F2 G H2:=r3.mid l2;let rq:=look (U':=[⇑(.dct false [] [])]) (σ':=[⇑(.ref p)]) h9 l2 h7 eq;let#[L,rfl,rfl]:=ES rq h5;let Y:J.length=σ.length:=l3.trans l2;let r5:Rel X.K (J++[⇑t,⇑(.dct false [] [])]) (σ++[⇑vy,⇑(.ref p)]) F3 G H2:=by let:=Rel.mid (U:=J++[⇑t]) (σ:=σ++[⇑vy]) (U':=[⇑(.dct false [] [])]) (σ':=[⇑(.ref p)]) (o:=zM rx) (w:=⇑(kV L)) ↑r4 (by simp[Y]);simpa using this
 let r6:=Rel.swap (U1:=[⇑t]) (σ1:=[⇑vy]) (U2:=[⇑(.dct false [] [])]) (σ2:=[⇑(.ref p)]) Y rfl r5;let r7:Rel X.K ((J++[⇑(.dct false [] [])])++[⇑t]) ((σ++[⇑(.ref p)])++[⇑vy]) F3 G H2:=↑r6
 let h3:slot (J++[⇑(.dct false [] [])]) J.length=⇑(.dct false [] []):=Eb (U':=[]);let M:(σ++[⇑(V.ref p)])[J.length]?=⇑⇑(.ref p):=by rw[Y];simp
 have h4:H2 p=⇑(.dK []):=by
  let#[v',fp,e1,sr]:=(r7.drop (Ag r7)).at h3;rw[M]at e1;let e2:V.ref p=v':=↑e1
  cases sr with
  |@dK _ z5 _ _ fl hH hs rl=>simp_all
 let r8:=r7.dct (ks':=[aZ L]) (l':=[t]) (o':=.dK [(L,vy)]) h3 M h4 (.k rfl rfl) (.k rfl rfl) λH' fl fs rl sr=>#[fs++[],[],.cons sr .nil,by cases rl;simp]
 show#[h4,[(L,vy)],rfl,by show 1<=15;decide,?_];let e9:(J++[⇑(S.dct false [] [])]).set J.length ⇑(.dct false [aZ L] [t])=J++[⇑(.dct false [aZ L] [t])]:=IV (U':=[]);rw[e9]at r8;show e3 _ J _ F3 _ e4 (s1.trans (s2.trans s3)) r8 trivial
section
variable{K:W.Frag}
def Hl:∀{us:List Value},zX (ns.map V.int) us->IntsAre us ns:=by
 induction ns with
 |nil=>intro us r;cases r;show .nil
 |cons n ns G=>
  intro us r;cases r with
  |cons F v=>let#[t,rfl]:=F;show .cons _ t (G v)
end
end FL
namespace FL
open PySem PySem.W PyProof.Rows
def dG(n:Nat)(rk:Nat->Int){α:Type}:KasT α->(α->Prop)->Prop
 |.ret a,P=>P a
 |.ask i j k,P=>i<n/\j<n/\dG n rk (k ↥(rk i<rk j)) P
def ED:∀{t:KasT α},dG n rk t (λa=>dG n rk (f a) P)->dG n rk (t.bind f) P
 |.ret _,h=>h
 |.ask _ _ _,h=>#[h.1,h.2.1,ED h.2.2]
def kA(rk:Nat->Int)(p:Array Nat)(k:Nat):Int:=rk ((p[k]?).getD 0)
def Dd(p:Array Nat)(k:Nat):rk (p.getD k 0)=kA rk p k:=by unfold kA;rw[Array.getD_eq_getD_getElem?]
def kY(n:Nat)(p:Array Nat):Prop:=p.size=n/\∀k,p.getD k 0<n
def mX(rk:Nat->Int)(p:Array Nat)(m:Nat):Prop:=∀a b,a<=b->b<m->kA rk p a<=kA rk p b
def ix(rk:Nat->Int)(p:Array Nat)(m:Nat):Prop:=∀a b,a<=b->b<m->kA rk p b<=kA rk p a
def Ff(h:kY n q)(v:p.Perm q)(hn:0<n):kY n p:=by
 show#[v.size_eq.trans h.1,λk=>?_];rw[Array.getD_eq_getD_getElem?];cases e:p[k]? with
 |none=>show hn
 |some x=>have F:x∈q:=v.mem_iff.mp (Array.mem_of_getElem? e);let#[j,G,J]:=Array.getElem_of_mem F;let:=h.2 j;simp_all
def HQ(v:kY n p):∀(f m:Nat),1<=m->mX rk p m->(∀m',m<=m'->m'<=m+f->mX rk p m'->(m'<m+f->kA rk p m'<kA rk p (m'-1))->P m')->dG n rk (kas_asc p f m) P
 |0,m,_,hs,h=>h m (zm _) (zm _) hs λz=>absurd z ∅
 |f+1,m,h1,hs,h=>by
  show#[v.2 m,v.2 (m-1),?_];rw[Dd (rk:=rk),Dd (rk:=rk)];by_cases F:kA rk p m<kA rk p (m-1)
  .rw[qU F];show h m (zm _) ∅ hs λ_=>F
  .rw[qV F];show HQ v f (m+1) ∅ (λa b J Z=>?_) λm' h2 h3 Y M=>h m' ∅ ∅ Y λz=>M ∅;by_cases G:b<m
   .show hs a b J G
   .let:b=m:=by lia
    by_cases L:a=b
    .rw[L];show Int.le_refl _
    .let:=hs a (b-1) ∅ ∅;lia
def IK(F:kY n p)(v:mX rk p k):∀(f l r:Nat),l<=r->r<=k->r-l<=f->(∀a,a<l->kA rk p a<=kA rk p k)->(∀a,r<=a->a<k->kA rk p k<kA rk p a)->
  (∀l',l'<=k->(∀a,a<l'->kA rk p a<=kA rk p k)->(∀a,l'<=a->a<k->kA rk p k<kA rk p a)->P l')->dG n rk (kas_place p k f l r) P
 |0,l,r,h1,h2,h3,h4,h5,h=>by
  let:l=r:=∅
  subst this;show h l h2 h4 h5
 |f+1,l,r,h1,h2,h3,h4,h5,h=>by
  unfold kas_place;by_cases G:l≥r
  .rw[zj G];let:l=r:=by lia
   subst this;show h l h2 h4 h5
  .rw[zk G];show#[F.2 k,F.2 _,?_];rw[Dd (rk:=rk),Dd (rk:=rk)];by_cases J:kA rk p k<kA rk p ((l+r)/2)
   .rw[qU J];show IK F v f l ((l+r)/2) ∅ ∅ ∅ h4 (λa L M=>?_) h;let:=v _ a L M;lia
   .rw[qV J];show IK F v f ((l+r)/2+1) r ∅ h2 ∅ (λa L=>?_) h5 h;let:=v a ((l+r)/2) ∅ ∅;lia
def Nb(v:k<p.size)(F:d<=k)(j:Nat):kA rk (bubble p k d) j=if j=k-d then kA rk p k else if k-d<j/\j<=k then kA rk p (j-1)else kA rk p j:=by unfold kA;rw[getElem?_bubble v d F j];grind
def KC(hn:0<n):∀(f:Nat)(p:Array Nat)(k:Nat),kY n p->mX rk p k->k+f<=n->(∀F,F.Perm p->kY n F->mX rk F (k+f)->P F)->dG n rk (kas_bin f p k) P
 |0,p,k,hr,hs,_,h=>h p (Array.Perm.refl _) hr hs
 |f+1,p,k,hr,hs,hk,h=>by
  show ED (IK hr hs k 0 k (zero_le _) (zm _) ∅ (λa z=>absurd z ∅) (λa z1 z2=>absurd z1 ∅) λl hl h1 h2=>?_);let G:k<p.size:=by rw[hr.1];lia
  let hp:=bubble_perm p k (k-l);show KC hn f _ (k+1) (Ff hr hp hn) (λa b Y hb=>?_) ∅ λF q1 q2 q3=>h F (q1.trans hp) q2 (by rw[show k+(f+1)=k+1+f by lia];show q3);rw[Nb G ∅,Nb G ∅];let Z:k-(k-l)=l:=∅
  rw[Z];by_cases ha:a=l
  .rw[zj ha];by_cases v:b=l
   .rw[zj v];show Int.le_refl _
   .rw[zk v];let:=h2 (b-1) ∅ ∅;lia
  .rw[zk ha];by_cases L:l<a/\a<=k
   .rw[zj L,zk ∅,zj #[∅,∅]];show hs (a-1) (b-1) ∅ ∅
   .rw[zk L];let M:a<l:=by lia
    by_cases v:b=l
    .rw[zj v];show h1 a M
    .rw[zk v];by_cases J:l<b/\b<=k
     .rw[zj J];show hs a (b-1) ∅ ∅
     .rw[zk J];show hs a b Y ∅
def EN(v:j<=p.size)(k:Nat):kA rk (kas_rev p i j) k=if i<=k/\k<j then kA rk p (i+j-1-k)else kA rk p k:=by
 unfold kA kas_rev;rw[getElem?_mirror_all v];by_cases h:i<=k/\k<j
 .rw[zj h,zj h]
 .rw[zk h,zk h]
def DZ(p:Array Nat)(i j:Nat):(kas_rev p i j).Perm p:=mirror_perm ..
def Iu(hn:0<n):∀(f:Nat)(p:Array Nat)(m q:Nat),kY n p->ix rk p m->m+f<=n->q+1<=m->(∀a,m-(q+1)<=a->a<m->kA rk p a=kA rk p (m-1))->
  (∀v m' F,v.Perm p->kY n v->ix rk v m'->m'<=m+f->m<=m'->F+1<=m'->(∀a,m'-(F+1)<=a->a<m'->kA rk v a=kA rk v (m'-1))->P (v,m',F))->dG n rk (kas_desc f p m q) P
 |0,p,m,q,hr,hd,_,hq,he,h=>h p m q (Array.Perm.refl _) hr hd (zm _) (zm _) hq he
 |f+1,p,m,q,hr,hd,hm,hq,he,h=>by
  unfold kas_desc;show#[hr.2 m,hr.2 (m-1),?_];rw[Dd (rk:=rk),Dd (rk:=rk)];by_cases hc:kA rk p m<kA rk p (m-1)
  ·(rw[qU hc];dsimp only;rw[zj rfl])
   have go:∀M:Array Nat,M.Perm p->(∀k,kA rk M k=kA rk p k)->dG n rk (kas_desc f M (m+1) 0) P:=by
    intro M hp G;show Iu hn f M (m+1) 0 (Ff hr hp hn) (λa b L hb=>?_) ∅ ∅ (λa h1 h2=>?_) λv m' F g1 g2 g3 g4 g5 g6 g7=>h v m' F (g1.trans hp) g2 g3 ∅ ∅ g6 g7
    .rw[G,G];by_cases J:b<m
     .show hd a b L J
     .let:b=m:=by lia
      by_cases ha:a=b
      .rw[ha];show Int.le_refl _
      .let:=hd a (b-1) ∅ ∅;lia
    .let:a=m+1-1:=by lia
     rw[this]
   by_cases Y:q>0
   .rw[zj Y];show go _ (DZ ..) λk=>?_;rw[EN (by rw[hr.1];lia)];by_cases G:m-(q+1)<=k/\k<m
    .rw[zj G,he k G.1 G.2,he _ ∅ ∅]
    .rw[zk G]
   .rw[zk Y];show go p (Array.Perm.refl _) λ_=>rfl
  ·(rw[qV hc];dsimp only;rw[zk q8])
   show#[hr.2 (m-1),hr.2 m,?_];rw[Dd (rk:=rk),Dd (rk:=rk)];by_cases Z:kA rk p (m-1)<kA rk p m
   ·(rw[qU Z];dsimp only;rw[zj rfl])
    show h p m q (Array.Perm.refl _) hr hd ∅ (zm _) hq he
   ·(rw[qV Z];dsimp only;rw[zk q8])
    let h3:kA rk p m=kA rk p (m-1):=∅
    show Iu hn f p (m+1) (q+1) hr (λa b L hb=>?_) ∅ ∅ (λa h1 h2=>?_) λv m' F g1 g2 g3 g4 g5 g6 g7=>h v m' F g1 g2 g3 ∅ ∅ g6 g7
    .by_cases J:b<m
     .show hd a b L J
     .let:b=m:=by lia
      by_cases ha:a=b
      .rw[ha];show Int.le_refl _
      .let:=hd a (b-1) ∅ ∅;lia
    .show kA rk p a=kA rk p m;by_cases ha:a=m
     .rw[ha]
     .rw[h3];show he a ∅ ∅
def Rn(v:m<=p.size)(F:ix rk p m):mX rk (kas_rev p 0 m) m:=λa b J G=>by rw[EN v,EN v,zj #[zero_le _,∅],zj #[zero_le _,G]];show F _ _ ∅ ∅
def LL(hn:0<n)(G:kY n p)(M:ix rk p m)(h1:1<=m)(L:m<=n)
  (h:∀m' F,F.Perm p->kY n F->m<=m'->m'<=n->mX rk F m'->P (m',F)):dG n rk (kas_tail3 m n p) P:=by
 let J:=Rn (by rw[G.1];show L) M;let v:=Ff G (DZ p 0 m) hn;show ED (HQ v (n-m) m h1 J λm' Z g2 Y _=>h m' _ (DZ ..) v Z ∅ Y)
def MF(hn:0<n)(hr:kY n p)(hd:ix rk p (m+1))(h1:1<=m)(hm:m+1<=n)
  (h:∀m' v,v.Perm p->kY n v->1<=m'->m'<=n->mX rk v m'->P (m',v)):dG n rk (kas_descPart m n p) P:=by
 show ED (Iu hn (n-(m+1)) p (m+1) 0 hr hd ∅ ∅ (λa Y G=>by rw[show a=m+1-1 by lia]) λv m' J Y G g3 g4 g5 g6 g7=>?_);by_cases hq:J>0
 .rw[zj hq];let F:∀k,kA rk (kas_rev v (m'-(J+1)) m') k=kA rk v k:=λk=>by
   rw[EN (by rw[G.1];lia)];by_cases F:m'-(J+1)<=k/\k<m'
   .rw[zj F,g7 k F.1 F.2,g7 _ ∅ ∅]
   .rw[zk F]
  show LL hn (Ff G (DZ ..) hn) (λa b M hb=>by rw[F,F];show g3 a b M hb) ∅ ∅ λm2 L e1 e2 e3 e4 Z=>h m2 L (e1.trans ((DZ ..).trans Y)) e2 ∅ e4 Z
 .rw[zk hq];show LL hn G g3 ∅ ∅ λm2 L e1 e2 e3 e4 Z=>h m2 L (e1.trans Y) e2 ∅ e4 Z
def UH(hn:2<=n)(v:kY n p)(h:∀m' J,J.Perm p->kY n J->1<=m'->m'<=n->mX rk J m'->P (m',J)):dG n rk (kas_count n p) P:=by
 show ED (HQ v (n-1) 1 (zm _) (λa b G hb=>by rw[show a=b by lia];show Int.le_refl _) λm M g2 L g4=>?_);by_cases Y:(m==n)=true
 .rw[zj Y];show h m p (Array.Perm.refl _) v M ∅ L
 .rw[zk Y];by_cases F:m>1
  .rw[zj F];show#[v.2 0,v.2 (m-1),?_];rw[Dd (rk:=rk),Dd (rk:=rk)];by_cases Z:kA rk p 0<kA rk p (m-1)
   ·(rw[qU Z];dsimp only;rw[zj rfl])
    show h m p (Array.Perm.refl _) v M ∅ L
   ·(rw[qV Z];dsimp only;rw[zk q8])
    let h1:∀a,a<m->kA rk p a=kA rk p (m-1):=λa ha=>by let e1:=L 0 a (zero_le _) ha;let e2:=L a (m-1) ∅ ∅;lia
    let hk:∀k,kA rk (kas_rev p 0 m) k=kA rk p k:=λk=>by rw[EN (by rw[v.1];lia)];grind
    show MF ∅ (Ff v (DZ ..) ∅) (λa b G hb=>?_) M ∅ λm2 p2 e1 e2 e3 e4 e5=>h m2 p2 (e1.trans (DZ ..)) e2 e3 e4 e5;grind
  .rw[zk F];let:m=1:=by lia
   subst this;show MF ∅ v (λa b G hb=>?_) (zm _) ∅ h;grind
def UA(hn:0<n):kY n (List.range n).toArray:=by
 show#[by simp,λk=>?_];by_cases v:k<n
 .simp[v]
 .simp[v];show hn
def RG(hn:2<=n)(h:∀p,p.Perm (List.range n).toArray->mX rk p n->P p):dG n rk (kas_sort n) P:=by
 show ED (UH hn (UA ∅) λm p J Y g3 g4 G=>?_);let v:max m 1=m:=∅
 rw[v];by_cases F:m<n
 .rw[zj F];show KC ∅ (n-m) p m Y G ∅ λM Z e2 L=>h M (Z.trans J) (by rw[show m+(n-m)=n by lia]at L;show L)
 .rw[zk F];let:m=n:=by lia
  subst this;show h p J G
end FL
namespace FL
open PySem PySem.Spec PyProof.Rows L2
def PK{h:Heap}(x:h.Ns a m)(y:h.Ns a m'):m=m':=by let#[o,es,ep,e,d,_,f]:=x;let#[o',v,F,J,L,_,G]:=y;grind
def Inv.laidF(I:Inv X z4 σ H s)(hn:∀m,s.heap.Ns X.env.locals m->h'.Ns X.env.locals m)(k:∀b u,b≠X.env.locals->s.heap.get? b=⇑u->h'.get? b=⇑u)
  (M:s.heap.get? a=none)(new:zZ X.prog X.w (upd H a o) h' a o):Inv X z4 σ (upd H a o) {s with heap:=h',toks:=t'}:=by
 have J:H a=none:=by
  cases e:H a with
  |none=>rfl
  |some u=>let#[v,z]:=zZ.there (I.hok a u e);rw[M]at z;cases z
 refine I.step (g':=s.gens) (d':=s.drawn) (ch:=[]) (λ_ z=>nomatch z) (λb F L _ _ e _=>k b F L e) (λb F L _ _ e _=>#[F.slots,k b F L e]) (λb F _ e n=>by rw[Al (λz=>by rw[z,M]at e;cases e)];show n)
  (λb F _ e=>?_) (λb xs q=>by rw[Al (BF q J)];show q) (λb u xs q=>by rw[Al (BF q J)];show q) (λb ps q=>#[#[],by rw[Al (BF q J),q];simp]) hn (λb F e=>?_) I.bare
 .by_cases G:b=X.env.locals
  .obtain⟨m,x,_⟩:=I.loc;let#[o',_,_,Z,_]:=hn m x;show#[o',by rw[G];show Z]
  .show#[F,k b F G e]
 .by_cases G:b=a
  .subst G;rw[AV]at e;cases e;show new
  .rw[Al G]at e;show(I.hok b F e).stay (λc v Y q=>k c v (λz=>?_) q) (λc q=>by rw[Al (BF q J)];show q) λc xs q=>by rw[Al (BF q J)];exact q
   rw[z]at Y;rcases Y with r|r
   .rw[<-r,I.free]at e;cases e
   .rw[I.free]at r;cases r
section
open HT
def Kx:∀l:List Int,lexLt l l=false
 |[]=>rfl
 |x::l=>by rw[uF,zj rfl,Kx l]
def GB:∀k j i:List Int,lexLt k j=true->lexLt i j=false->lexLt k i=true
 |[],[],_,h,_=>by cases h
 |[],_::_,[],_,g=>by cases g
 |[],_::_,_::_,_,_=>rfl
 |_::_,[],_,h,_=>by cases h
 |_::_,_::_,[],_,g=>by cases g
 |x::k,y::j,z::i,h,g=>by
  rw[uF]at h g⊢;by_cases F:x=y
  .by_cases v:z=y
   .rw[zj F]at h;rw[zj v]at g;rw[zj (F.trans v.symm)];show GB k j i h g
   .rw[zk v]at g;rw[zk ∅];show qU ∅
  .rw[zk F]at h;by_cases v:z=y
   .rw[zk ∅];show qU ∅
   .rw[zk v]at g;rw[zk ∅];show qU ∅
def GZ:∀i j:List Int,lexLt i j=true->lexLt j i=false
 |[],[],h=>by cases h
 |[],_::_,_=>rfl
 |_::_,[],h=>by cases h
 |x::i,y::j,h=>by
  rw[uF]at h⊢;by_cases v:x=y
  .rw[zj v]at h;rw[zj v.symm];show GZ i j h
  .rw[zk v]at h;rw[zk ∅];show qV ∅
def HK(h:∀x,p x=true->q x=true):∀l:List Nat,l.countP p<=l.countP q
 |[]=>zm _
 |a::l=>by
  rw[countP_cons,countP_cons];let:=HK h l;cases e:p a with
  |true=>rw[h a e];lia
  |false=>simp;lia
def JT(h:∀x,p x=true->q x=true):∀l:List Nat,(∃x,x∈l/\q x=true/\p x=false)->l.countP p<l.countP q
 |[],z=>by let#[_,z,_]:=z;cases z
 |a::l,z=>by
  rw[countP_cons,countP_cons];let#[x,G,v,F]:=z;by_cases e:x=a
  .subst e;let:=HK h l;rw[v];lia
  .let:=JT h l #[x,(qC.mp G).resolve_left e,v,F];cases e:p a with
   |true=>rw[h a e];lia
   |false=>simp;lia
def tM(ls:List (List Int))(i:Nat):Int:=((List.range ls.length).countP λj=>lexLt (ls.getD j []) (ls.getD i []):Nat)
def JN(hi:i<ls.length):↥(tM ls i<tM ls j)=lexLt (ls.getD i []) (ls.getD j []):=by
 unfold tM;cases e:lexLt (ls.getD i []) (ls.getD j [])with
 |true=>show qU (Int.ofNat_lt.mpr (JT (λk v=>?_) _ #[i,qM.mpr hi,e,Kx _]));show GB _ _ _ v (GZ _ _ e)
 |false=>show qV λh=>?_;let:=HK (p:=λk=>lexLt (ls.getD k []) (ls.getD j [])) (q:=λk=>lexLt (ls.getD k []) (ls.getD i [])) (λk v=>GB _ _ _ v e) (List.range ls.length);lia
end
section
open PySem.W HT
def WK(i:Nat)(r:IntsAre us ns)(v:IntsAre vs ms)(h:Q (lexLt ns ms) s):KatLex prog w A b ↥(ns.length<ms.length) Q (us.zip vs) i s:=by
 induction r generalizing vs ms i with
 |nil=>cases v<;>show kat_nil h
 |@cons n _ _ ns r F=>cases v with
  |nil=>show kat_nil h
  |@cons m _ _ ms v=>
   let e:↥((n::ns).length<(m::ms).length)=↥(ns.length<ms.length):=decide_eq_decide.2 Nat.succ_lt_succ_iff;rw[e];show kat_cons (wpAny_eqBool_int ?_);rw[uF]at h;by_cases nm:n=m
   .rw[zj nm]at h;rw[show(n==m)=true by simp[nm]];show kat_yes (F (i+1) v h)
   .rw[zk nm]at h;rw[show(n==m)=false by simp[nm]];show kat_no ?_;cases(b&&i==0)with
    |true=>show oneLt_int h
    |false=>show kat_one _ _ (PyProof.Rows.lt_int h)
def NF{P:α->Prop}{R:α->Shared->Prop}(v:∀i j(C:Bool->Shared->Prop),i<n->j<n->C ↥(rk i<rk j) s->kas_ask prog w A κ vs i j C s):
  ∀(t:KasT α),dG n rk t P->(∀a,P a->R a s)->t.kasWp (kas_ask prog w A κ vs) R s
 |.ret a,h,q=>q a h
 |.ask i j k,h,q=>v i j _ h.1 h.2.1 (NF v (k _) h.2.2 q)
def rest(h₀:Heap)(L:Addr)(h:Heap):List (Addr×Obj):=(List.range h.objs.size).filterMap λb=>if b=L then none else if(h₀.get? b).isSome then none else(h.get? b).map λo=>(b,o)
theorem zcY:p∈rest h₀ L h↔h.get? p.1=⇑p.2/\p.1≠L/\h₀.get? p.1=none:=by
 unfold rest;rw[mem_filterMap];constructor
 .rintro⟨b,_,e⟩;by_cases h1:b=L
  .rw[zj h1]at e;cases e
  .rw[zk h1]at e;cases h2:h₀.get? b with
   |some o=>rw[h2]at e;cases e
   |none=>rw[h2]at e;let#[o,v,F]:=q9.mp e;cases F;show#[v,h1,h2]
 .rintro⟨v,F,G⟩;show#[p.1,qM.mpr (qe v),?_];rw[zk F,G,v];rfl
def KG:∀{bs:List Addr}{v:List Value},zX (bs.map V.ref) v->v=bs.map Value.ref
 |[],_,.nil=>rfl
 |b::bs,_,.cons r t=>by let e:_=Value.ref b:=r;rw[e,KG t];rfl
def Mp:∀bs:List Addr,zX (bs.map V.ref) (bs.map Value.ref)
 |[]=>.nil
 |_::bs=>.cons rfl (Mp bs)
def gy(h:Heap)(b:Addr)(l:List Int):Prop:=∃us,IntsAre us l/\IsTup h b us.toArray
def Cb:∀{bs:List Addr}{ls:List (List Int)},Paired (λb l=>l≠[]/\gy h b l) bs ls->∃fs:List Value,KatTups h (bs.map Value.ref) fs/\fs.length=bs.length/\∀v∈fs,∃z t,v=Value.int z t
 |_,_,.nil=>#[[],.nil,rfl,λ_ z=>nomatch z]
 |_,_,.cons ⟨hne,us,r,o,e,c,n,d⟩ t=>by
  let#[fs,J,G,F]:=Cb t;cases r with
  |nil=>show absurd rfl hne
  |cons i tk M=>
   show#[_::fs,.cons e c d rfl J,by simp[G],λv L=>?_];rcases qC.mp L with z|z
   .show#[_,_,z]
   .show F v z
def GO{R:α->β->Prop}:∀{l:List α}{m:List β}(i:Nat)(da:α)(db:β),Paired R l m->i<l.length->R (l.getD i da) (m.getD i db)
 |_,_,0,_,_,.cons r _,_=>r
 |_,_,i+1,da,db,.cons _ t,h=>GO i da db t ↑h
def kI(K:W.Frag):List V->Hp->VK->Prop:=λxs H Q=>∃(a:Addr)(bs:List Addr)(ls:List (List Int)),xs=[.ref a]/\bO K H a (bs.map V.ref)/\2<=bs.length/\bs.length<64/\
 Paired (λb l=>l≠[]/\bF K H b (l.map V.int)) bs ls/\
 ∀p:Array Nat,p.Perm (List.range bs.length).toArray->mX (tM ls) p bs.length->∀q,H q=none->Q (.ref q) (upd H q (.lst ((p.toList.map λi=>bs.getD i 0).map V.ref)))
def Ww:aU X (.builtin "sorted") (kI X.K):=by
 intro z4 s σ H xs us Q I r h;let#[a,bs,M,rfl,hq,h2,h6,ht,q]:=h;cases r with
 |cons r1 r2=>
  cases r2;cases r1;let#[h7,rv,pl,_]:=I.list hq;let hv:=KG rv;subst hv;let#[m,F]:=I.fr;let N:News X.base X.env.locals s.heap (rest X.base X.env.locals s.heap):=λp J=>zcY.mp J;show kat_sorted F N pl.isList (by rw[qo];show h2) (by rw[qo];show h6) λD e1 h' F' Z hD=>?_;let kp:∀{h':Heap},Fr X.base X.env.locals h' m->News X.base X.env.locals h' (rest X.base X.env.locals s.heap)->∀b u,b≠X.env.locals->s.heap.get? b=⇑u->h'.get? b=⇑u:=λ{h'} F' Z b u hb e=>by
   cases L:X.base.get? b with
   |some o=>rw[F.keep b o L]at e;rw[<-e];show F'.keep b o L
   |none=>show(Z (b,u) (zcY.mpr #[e,hb,L])).1
  have tl:∀{d o G},News X.base X.env.locals h' ((d,o)::G)->News X.base X.env.locals h' G:=λN p J=>N p (qk _ J);let Y:s.heap.get? D=none:=by
   cases e:s.heap.get? D with
   |none=>rfl
   |some u=>let#[_,n1,n2]:=Z (D,seqObj "list" #[] e1) qm;show absurd (hD (D,u) (zcY.mpr #[e,n1,n2])) (lt_irrefl _)
  let tp:Paired (λb l=>l≠[]/\gy h' b l) bs M:=Paired.mapP ht λb l⟨h4,hs⟩=>by let#[us,r,#[o,e,c,n,d],_]:=I.tuple hs;show#[h4,us,Hl r,o,kp F' (tl Z) b o (λz=>?_) e,c,n,d];let#[m,#[o',es,ep,e',d',_],_]:=I.loc;rw[z,e']at e;cases e;rw[d']at d;cases d
  let#[fs,t1,t2,t3]:=Cb tp;let h9:M.length=bs.length:=(Paired.length tp).symm;show kat_kind (T:=.type "int") t1 ∅ (λv hv=>?_) (by rfl) ?_
  .obtain⟨z,t,rfl⟩:=t3 v hv;show Looks.of_pure rfl
  .refine NF (n:=bs.length) (rk:=tM M) (P:=λp=>p.Perm (List.range bs.length).toArray/\mX (tM M) p bs.length) (λi j C hi hj hc=>?_) _ (by rw[qo];show RG h2 λp a b=>#[a,b]) λp⟨p1,p2⟩=>?_
   .rw[JN ∅]at hc;show cps λ_ kk=>?_;let#[_,us,r,o,e,c,n,d]:=GO i 0 [] tp hi;let#[_,h1,r',o',e',c',n',d']:=GO j 0 [] tp hj;show kk ?_;let g:∀i,i<bs.length->(bs.map Value.ref).getD i Value.none=.ref (bs.getD i 0):=λi hi=>by simp[hi]
    unfold kas_ask;rw[g i hi,g j hj];show kat_lt e d e' d' ?_;let l1:us.toArray.size=(M.getD i []).length:=by rw[qr];show r.length
    let l2:h1.toArray.size=(M.getD j []).length:=by rw[qr];show r'.length
    rw[l1,l2];show WK 0 r r' hc
   .refine KasFin.intro F' Z (.head λp J=>ne_of_lt (hD p J)) λh3 c F3 N3=>?_;let eo:(p.toList.map λi=>(bs.map Value.ref).getD i Value.none)=(p.toList.map λi=>bs.getD i 0).map Value.ref:=by
     rw[qH];show map_congr_left λi hi=>?_;let h5:i<bs.length:=by let:=p1.mem_iff.mp (mem_toList_iff.mp hi);simpa using this
     simp[h5]
    rw[eo]at N3;let h8:p.toList.length=bs.length:=by let:=p1.size_eq;simpa using this
    show#[.ref D,_,Inv.laidF (s:=s) (t':=s.toks) (o:=.lst ((p.toList.map λi=>bs.getD i 0).map V.ref)) I (λm' x=>by rw[PK x F.ns];show F3.ns) (λb u hb e=>kp F3 (λp J=>N3 p (qk _ J)) b u hb e) Y ?_,rfl,q p p1 p2 D ?_]
    .show#[by simp only[qo];rw[zv];lia,_,c,Mp _,(N3 (D,_) qm).1]
    .cases e:H D with
     |none=>rfl
     |some u=>let#[v,z]:=zZ.there (I.hok D u e);rw[Y]at z;cases z
end
end FL
namespace FL
def tI(ns:List Int):D:=.tup (ns.map .int)
def fR:List D->Option (List (List Int))
 |[]=>⇑[]
 |.tup ds::r=>match cQ ds with
  |some (x::xs)=>(fR r).map ((x::xs)::·)
  |_=>none
 |_::_=>none
def eQ(l:List D):Option S:=if 2<=l.length/\l.length<64/\(fR l).isSome=true then ⇑(.lst ((bQ l).map .sh))else none
def au:List D->Option S
 |[.lst l]=>eQ l
 |_=>none
def LB:∀{l:List D}{ns:List Int},cQ l=⇑ns->l=ns.map .int
 |[],_,h=>by cases h;rfl
 |.int x::r,ns,h=>by rw[cQ]at h;let#[ys,h1,rfl]:=q9.mp h;rw[LB h1];rfl
def LN:∀{l:List D}{ls:List (List Int)},fR l=⇑ls->l=ls.map tI/\∀x∈ls,x≠[]
 |[],_,h=>by cases h;show#[rfl,λ_ z=>nomatch z]
 |.tup ds::r,ls,h=>by
  rw[fR]at h;split at h
  .rename_i x xs e;let#[ys,h1,rfl]:=q9.mp h;let#[G,F]:=LN h1;show#[by rw[G,LB e];rfl,λz v=>?_];rcases qC.mp v with rfl|v
   .show λq=>nomatch q
   .show F z v
  .cases h
def MC:∀{ls:List (List Int)},(∀x∈ls,x≠[])->fR (ls.map tI)=⇑ls
 |[],_=>rfl
 |[]::_,h=>absurd rfl (h [] qm)
 |(x::xs)::ls,h=>by rw[qA];show(match cQ ((x::xs).map D.int)with|some (x::xs)=>(fR (ls.map tI)).map ((x::xs)::·)|_=>none)=_;rw[Eu,MC λy v=>h y (qk _ v)];rfl
def gM(l:List D):Option S:=if l.length<2 then ⇑(.lst (l.map .sh))else match eQ l with
 |some s=>⇑s
 |none=>jH l
def bN:List D->Option S
 |[.lst l]=>gM l
 |_=>none
def Vr{ls:List (List Int)}(F:ls.length<64)(v:∀x∈ls,x≠[]):bN [.lst (ls.map tI)]=⇑(.lst ((bQ (ls.map tI)).map .sh)):=by
 show gM _=_;unfold gM;by_cases h2:(ls.map tI).length<2
 .rw[zj h2];match ls,h2 with
  |[],_=>rfl
  |[_],_=>rfl
  |_::_::_,h2=>simp at h2;lia
 .rw[zk h2];rw[qo]at h2;let e:eQ (ls.map tI)=⇑(.lst ((bQ (ls.map tI)).map .sh)):=by unfold eQ;rw[zj #[by rw[qo];lia,by rw[qo];show F,by rw[MC v];rfl]]
  rw[e]
end FL
namespace FL
open PySem PySem.Spec PyProof.Rows L2
open HT
def NC:∀ns ms:List Int,cN (ns.map .int) (ms.map .int)=if lexLt ns ms=true then .lt else if lexLt ms ns=true then .gt else .eq
 |[],[]=>rfl
 |[],_::_=>rfl
 |_::_,[]=>rfl
 |x::ns,y::ms=>by
  rw[qA,qA,uF,uF,cN,jA];by_cases h:x<y
  .rw[zj h,zk (show¬x=y by lia),zj (qU h)]
  .rw[zk h];by_cases h2:y<x
   .rw[zj h2,zk (show¬y=x by lia),zk (by simp;lia -verbose),zj (qU h2)]
   .let e:x=y:=by lia
    subst e;rw[zk h2,zj rfl,zj rfl];show NC ns ms
def Ea(ns ms:List Int):gZ (tI ns) (tI ms)=!lexLt ms ns:=by
 unfold gZ tI;rw[jA,NC];cases e:lexLt ns ms with
 |true=>rw[GZ _ _ e];rfl
 |false=>
  cases v:lexLt ms ns with
  |true=>rfl
  |false=>rfl
def Mi:∀a b:List Int,lexLt a b=false->lexLt b a=false->a=b
 |[],[],_,_=>rfl
 |[],_::_,h,_=>by cases h
 |_::_,[],_,h=>by cases h
 |x::a,y::b,h,g=>by
  rw[uF]at h g;by_cases e:x=y
  .subst e;rw[zj rfl]at h g;rw[Mi a b h g]
  .rw[zk e]at h;rw[zk (Ne.symm e)]at g;lia
def sk(d:D):Prop:=∃ns,d=tI ns
def Qi:fY sk where
 tot:=by
  rintro _ _ ⟨a,rfl⟩ ⟨b,rfl⟩;rw[Ea,Ea];cases e:lexLt b a with
  |false=>show .inl rfl
  |true=>show .inr (by rw[GZ _ _ e];rfl)
 tr:=by
  rintro _ _ _ ⟨a,rfl⟩ ⟨b,rfl⟩ ⟨c,rfl⟩;rw[Ea,Ea,Ea];intro h1 h2;cases e:lexLt c a with
  |false=>rfl
  |true=>grind[GB]
 anti:=by rintro _ _ ⟨a,rfl⟩ ⟨b,rfl⟩;grind[Ea,Mi]
section
variable{K:W.Frag}
def Ln:∀{xs:List V}{ls:List (List Int)},zY K F xs (ls.map tI)->∃bs:List Addr,xs=bs.map V.ref/\Paired (λb l=>F b=⇑(.tup (l.map V.int))) bs ls
 |_,[],.nil=>#[[],rfl,.nil]
 |_,l::ls,.cons a b=>by
  let#[bs,e,t]:=Ln b;cases a with
  |tup h r=>let#[v,_]:=Ig r (Eu l);subst v;show#[_::bs,by rw[e];rfl,.cons h t]
def MU:∀{bs:List Addr}{ls:List (List Int)},Paired (λb l=>F b=⇑(.tup (l.map V.int))) bs ls->zY K F (bs.map V.ref) (ls.map tI)
 |_,_,.nil=>.nil
 |_,_,.cons h t=>.cons (.tup h (GS _)) (MU t)
def Ny{R:α->β->Prop}{l:List α}{m:List β}{da:α}{db:β}(h:Paired R l m):∀{q:List Nat},(∀i∈q,i<l.length)->Paired R (q.map λi=>l.getD i da) (q.map λi=>m.getD i db)
 |[],_=>.nil
 |i::q,z=>.cons (GO i da db h (z i qm)) (Ny h λj v=>z j (qk _ v))
def Uk{R R':α->β->Prop}{l:List α}{m:List β}(h:Paired R l m)(f:∀a b,b∈m->R a b->R' a b):Paired R' l m:=by
 induction h with
 |nil=>show .nil
 |cons r _ v=>show .cons (f _ _ qm r) (v λa b F=>f a b (qk _ F))
def VD{α:Type}(d:α):∀l:List α,(List.range l.length).map (λi=>l.getD i d)=l:=λl=>by show List.ext_getElem (by simp) λi h1 h2=>?_;simp[h2]
def VZ:cO K (kI K) au:=by
 intro σ U F G H vs ds s Q J re e hq;let#[d,v,rfl,rfl]:=AS (λx y r=>by cases x<;>rfl) rfl re e;cases d with
 |lst l=>
  let e:eQ l=⇑s:=e;unfold eQ at e;split at e
  .rename_i hc;cases e;let#[h2,h7,h3]:=hc;let#[ls,q1]:=isSome_iff_exists.mp h3;let#[el,h5]:=LN q1;subst el;rw[qo]at h2 h7;let#[a,xs,rfl,h1,r1]:=re.1.lst J.fr;let#[bs,rfl,t]:=Ln r1;let hl:bs.length=ls.length:=Paired.length t;show#[a,bs,ls,rfl,h1,∅,∅,Uk t λb l hb h=>#[h5 l hb,bF.of (J.fr _ _ h)],λp Y p2 q h4=>?_];let M:∀i∈p.toList,i<bs.length:=λi hi=>by let:=Y.mem_iff.mp (mem_toList_iff.mp hi);simpa using this
   let t2:=Ny (da:=0) (db:=[]) t (q:=p.toList) M;let pp:p.toList.Perm (List.range ls.length):=by let:=Array.perm_iff_toList_perm.mp Y;rw[<-hl];simpa using this
   let L:(p.toList.map λi=>ls.getD i []).Perm ls:=(pp.map _).trans (by rw[VD]);let Z:p.size=bs.length:=by let:=Y.size_eq;simpa using this
   have es:bQ (ls.map tI)=(p.toList.map λi=>ls.getD i []).map tI:=by
    show EB Qi (λd hd=>by let#[z,_,rfl]:=qN.mp hd;show#[z,rfl]) (L.map _) ?_;rw[qH,pairwise_map];show List.pairwise_iff_getElem.mpr λi j hi hj h8=>?_;simp only[Function.comp];rw[Ea];let h6:j<bs.length:=by rw[<-Z];simpa using hj
    let k:=p2 i j ∅ h6;let gi:∀i(h:i<p.toList.length),kA (tM ls) p i=tM ls p.toList[i]:=λi h=>by unfold kA;rw[getElem?_eq_getElem h];simp
    rw[gi i hi,gi j hj]at k;let hb:=M _ (getElem_mem hj);let:=JN (ls:=ls) (i:=p.toList[j]) (j:=p.toList[i]) ∅;rw[<-this,qV ∅];rfl
   rw[es]at hq;show hq _ F _ (zL.refl F) (J.newLD h4 (MU t2))
  .cases e
 |_=>cases e
end
end FL
namespace FL
open PySem PySem.Spec PyProof.Rows L2
def Rr{vs:List Value}(few:vs.length<2):(vs.toArray.zip vs.toArray).map (·.2)=vs.toArray:=by rw[List.zip_toArray,List.map_toArray,List.map_snd_zip (zm _)]
def Sf(G:s.heap.get? a=⇑(seqObj "list" vs.toArray n))(few:vs.length<2)
  (k:P (.done (.ret .none)) {s with heap:=sortedHeap s.heap a vs vs.toArray}):wpAny (model prog w) A (Builtin.«list.sort» ⟨[.ref a],[]⟩) P E s:=by
 rw[list_sort_plain];let v:vs.toArray.size<2:=few;let J:∃e,(s.heap.update a (Obj.mapSeq λ_=>#[])).get? a=⇑(seqObj "list" #[] e):=#[_,get?_update_seq G _]
 obtain⟨e,mid⟩:=J;let F:(((s.heap.update a (Obj.mapSeq λ_=>#[])).push (seqObj "tuple" vs.toArray 0)).push (seqObj "list" #[] 0)).get? a=⇑(seqObj "list" #[] e):=
  qc _ (qc _ mid)
 show qa (listItems_at G rfl (qa (listUpdate_at G rfl (qa (seqEpoch_at mid rfl (qa (wpAny_newTuple (qa (wpAny_newList (zx ?_))))))))));dsimp only;rw[zj v,zj v];show qa (qb (?_:wpAny _ _ _ _ _ _));let L:(arrOf (SortSt.mk' general' (vs.toArray.zip vs.toArray) #[] 7 none)).map (·.2)=vs.toArray:=by show Rr few
 show qa (qb (?_:wpAny _ _ _ _ _ _));rw[L];show qa (seqEpoch_at F rfl (qa (listUpdate_at F rfl ?_ (hsz2:=by rw[zv];lia))));simp;show qb k
def VQ(F:s.heap.IsList l vs.toArray)(few:vs.length<2)
  (k:Q (.ref (s.heap.objs.size+1)) {s with heap:=sortedAll s.heap vs vs.toArray}):wpAny (model prog w) A (call (.builtin "sorted") [.ref l]) Q E s:=by
 show Calls.call_function_entry kind_sorted plain_sorted entry_sorted (args_sorted1 _) (?_:wpAny _ _ _ _ _ _);show qa (m:=checkCount "sorted" 1 1 _) (qb (qa (collect_list F (qa (wpAny_newList ?_)))));generalize v:((s.heap.push (seqObj "list" #[] 0)).update s.heap.objs.size (Obj.mapSeq (·++vs.toArray)))=h1;let z:h1.objs.size=s.heap.objs.size+1:=by rw[<-v,Heap.size_update,size_push']
 let new:(h1.push (seqObj "list" vs.toArray 0)).get? (s.heap.objs.size+1)=⇑(seqObj "list" vs.toArray 0):=z▸qd _ rfl;rw[z];show qa (zx (zu slot_list_sort #[_,new,rfl] entry_list_sort (Sf new few #[_,rfl,?_]) (args_list_sort _)));subst v;show qb #[_,rfl,k]
section
variable{K:W.Frag}
def oB(K:W.Frag):List V->Hp->VK->Prop:=λxs H Q=>∃a ys,xs=[.ref a]/\bO K H a ys/\ys.length<2/\∀q,H q=none->Q (.ref q) (upd H q (.lst ys))
def Wx:aU X (.builtin "sorted") (oB X.K):=by
 intro z4 s σ H xs Y Q I r h;let#[a,ys,rfl,L,h2,q]:=h;cases r with
 |cons G F=>cases F;cases G;let#[v,r,J,_]:=I.list L;show VQ J.isList (by rw[<-r.length];show h2) ?_;let#[e,M]:=sortedAll_at s.heap v v.toArray;show#[.ref (s.heap.objs.size+1),_,I.laid (t':=s.toks) (o:=.lst ys) (λb Z w=>sortedAll_old w) (le_succ _) ?_,rfl,q _ (I.hok.fresh (le_succ _))];show#[by rw[zv];lia,v,e,r,M]
def MH:∀{xs:List V}{l:List D},zY K F xs l->xs.length=l.length
 |_,_,.nil=>rfl
 |_,_,.cons _ t=>by rw[qt,qt,MH t]
def oA(K:W.Frag):List V->Hp->VK->Prop:=λxs H Q=>oB K xs H Q\/kI K xs H Q\/iT K xs H Q
def VI:aU X (.builtin "sorted") (oA X.K):=λz4 s σ H xs v Q I r h=>by
 rcases h with h|h|h
 .show Wx z4 s σ H xs v Q I r h
 .show Ww z4 s σ H xs v Q I r h
 .show Wp z4 s σ H xs v Q I r h
def Vz:cO K (oA K) bN:=by
 intro σ U F G H vs ds s Q J L e Y;let#[d,v,rfl,rfl]:=AS (λx y r=>by cases x<;>rfl) rfl L e;cases d with
 |lst l=>
  let e:gM l=⇑s:=e;unfold gM at e;by_cases h2:l.length<2
  .rw[zj h2]at e;cases e;let#[a,xs,rfl,h1,r1]:=L.1.lst J.fr;show .inl #[a,xs,rfl,h1,by rw[MH r1];show h2,λq M=>Y _ F _ (zL.refl F) (J.newLD M r1)]
  .rw[zk h2]at e;cases Z:eQ l with
   |some t=>rw[Z]at e;show .inr (.inl (VZ σ U F G H [v] [.lst l] s Q J L (Z.trans e) Y))
   |none=>rw[Z]at e;show .inr (.inr (Wz σ U F G H [v] [.lst l] s Q J L e Y))
 |_=>cases e
def GY(J:Gl X "sorted")(G:X.mg "sorted"=none)(F:bootBuiltins "sorted"=⇑(.builtin "sorted"))(M:FA X (e::es) wa)(L:autoParam (starEach (e::es) X.env=(false,eval e X.env)::starEach es X.env) rZ9)(v:autoParam ((backTo pos (starEach es X.env)).any (·.1)=false) rZ9):FE X (.Call (.Name "sorted" p) (e::es) [] pos) (wB bN wa):=
 DY (λpn xe=>VI (X:=wp X pn xe)) Vz J G F M ⋯ ⋯ L v
end
end FL
namespace FL
def fO(a b:D):Option Bool:=match b with
 |.str l=>match a with
  |.str x=>⇑(gS l x).isSome
  |_=>none
 |d=>mI a d
def cI(a b:D):Option Bool:=(fO a b).map (!·)
def cF(j:Nat)(i e:WE):WE:=λU Q E=>match slot U j with
 |some (.lst _)=>i U (λy v=>match view y v,slot v j with
  |some (.int n),some (.lst l)=>zK (ixN l.length n) λm=>match l[m]? with
   |some (.lst l')=>e (v.set j none) (λr F=>zK (give r F) λp=>l'.length<big/\Q (.v (.sh .non)) (p.2.set j ⇑(.lst (l.set m (.lst (l'++[p.1])))))) E
   |_=>False
  |_,_=>False) E
 |_=>False
def bG(a:WE):WE:=λU Q E=>a U (λr v=>zK (give r v) λp=>Q (.v (.sh p.1.toD)) p.2) E
def je(i:Nat)(w:WS):WS:=λD U=>w {D with nx:=λv=>zK (slot v i) λs=>D.nx (v.set i ⇑(.sh s.toD))} U
def tU(d q:D):Option (Option D):=match d with
 |.dct t ks vs=>if cL t q then ⇑(lk ks vs q)else none
 |_=>none
def hE(a b:WE):WE:=λU Q E=>a U (λx F=>b F (λy v=>zK (zW x v) λG=>zK (view y v) λq=>zK (tU G q) λo=>zK o λe=>Q (.v (.sh e)) v) E) E
def fX:List D->Option S
 |[.lst l]=>(cQ l).bind λv=>(v.min?).map λm=>S.sh (.int m)
 |_=>none
def kG(F:WI):WE:=λU Q E=>F U (λl v=>l.length<=big/\Q (.v (.lst (l.map .sh))) v) E
mutual
def kK:D->Bool
 |.non=>true
 |.bl _=>true
 |.int i=>↥(-1000000000000<i)&&↥(i<1000000000000)
 |.str l=>l.all λc=>↥(c<1114112)
 |.tup l=>dY l
 |.lst l=>dY l
 |_=>false
def dY:List D->Bool
 |[]=>true
 |d::r=>kK d&&dY r
end
mutual
def tJ:D->Nat
 |.int _=>41
 |.str l=>l.length
 |.tup l=>jF l
 |.lst l=>jF l
 |_=>0
def jF:List D->Nat
 |[]=>0
 |d::r=>tJ d+1+jF r
end
def cX(d:D):Bool:=kK d&&(↥(fL d<=30)&&↥(tJ d<=1000000))
def eY(res:Bool)(a b:WE):WT:=λU Q E=>a U (λx F=>zK (zW x F) λp=>cX p=true/\b F (λy v=>zK (zW y v) λq=>p=q/\Q res v) E) E
def dF(p q:D):Option S:=match p,q with
 |.str x,.int n=>if 0<=n/\n<=1000/\x.length<=500 then ⇑(.sh (.str (List.replicate n.toNat x).flatten))else none
 |p,q=>oJ p q
end FL
namespace FL
open PySem PySem.Spec PyProof.Rows L2
section
variable{K:W.Frag}
def WD(x y:Str):Txt.contains x y=(gS x.cps.toList y.cps.toList).isSome:=by
 let h:=Rc x y;unfold Txt.find at h;unfold Txt.contains;cases q:Builtin.Str.occurrences x y 0 x.length 1 with
 |nil=>
  rw[q]at h;cases e:gS x.cps.toList y.cps.toList with
  |none=>rfl
  |some i=>rw[e]at h;let h':(-1:Int)=(i:Int):=h;lia
 |cons i r=>
  rw[q]at h;cases e:gS x.cps.toList y.cps.toList with
  |none=>rw[e]at h;let h':((i:Nat):Int)=-1:=h;lia
  |some i=>rfl
def wI(neg:Bool):R2:=λx y H Q=>∃z u,x=.str z/\y=.str u/\Q (.bl (if neg then !(Txt.contains u z)else Txt.contains u z)) H
def OT:OpR X (compareOp .In) (wI false):=by intro z4 s σ H x y v u Q I G F h;let#[z,t,rfl,rfl,q]:=h;let#[L,rfl]:=G;let#[J,rfl]:=F;show SB.contains #[.bl _,H,I,rfl,q]
def SM:OpR X (compareOp .NotIn) (wI true):=by intro z4 s σ H x y v u Q I G F h;let#[z,t,rfl,rfl,q]:=h;let#[L,rfl]:=G;let#[J,rfl]:=F;show SB.notContains #[.bl _,H,I,rfl,q]
def oG(K:W.Frag)(neg:Bool):R2:=λx y H Q=>iW K neg x y H Q\/wI neg x y H Q
def Kj(v:X.A.units+32<cLine):OpR X (compareOp .In) (oG X.K false):=FL.OpR.or (RS v) OT
def Ex(v:X.A.units+32<cLine):OpR X (compareOp .NotIn) (oG X.K true):=FL.OpR.or (Wv v) SM
def Lx(F:aR K H x p)(v:aR K H y q)(e:fO p q=⇑k)(G:Q (.bl (if neg then !k else k)) H):oG K neg x y H Q:=by
 unfold fO at e;split at e
 .split at e
  .cases F with
   |str L Y=>cases v with
    |str J M=>show .inr #[_,_,rfl,rfl,?_];rw[WD,L,J,qf e];show G
  .cases e
 .show .inl (Qa F v e G)
def Mf:cR K (oG K false) fO:=λH x y p q k Q F v e G=>Lx F v e G
def EE:cR K (oG K true) cI:=λH x y p q k Q G F e J=>by
 unfold cI at e;cases v:fO p q with
 |none=>rw[v]at e;cases e
 |some b=>rw[v]at e;let L:(!b)=k:=qf e;subst L;show Lx G F v J
inductive vd(K:W.Frag)(F H:Hp)(xs:List V)(l:List S)(fp:List Addr)(m:Nat)(s:S):Prop
 |mk (x:V) (fa fi fb:List Addr):xs[m]?=some x->aK K F H x s fi->fp=fa++(fi++fb)->(∀{H':Hp}{v':V}{s':S}{fq:List Addr},(∀a∈fa++fb,H' a=H a)->aK K F H' v' s' fq->zO K F H' (xs.set m v') (l.set m s') (fa++(fq++fb)))->vd K F H xs l fp m s
def zO.at:∀{xs:List V}{l:List S}{fp:List Addr}{m:Nat}{s:S},zO K F H xs l fp->l[m]?=⇑s->vd K F H xs l fp m s
 |_,_,_,_,_,.nil,h=>by simp at h
 |_,_,_,0,_,.cons (fp:=fp) (fq:=fq) a b,h=>by simp at h;subst h;show#[_,[],fp,fq,rfl,a,rfl,λG r=>by rw[nil_append];show .cons r (b.mono (zL.refl F) λc v=>G c v)]
 |_,_,_,m+1,_,.cons (fp:=fp) (fq:=fq) a b,h=>by let#[x,Y,L,M,h1,h2,rfl,J]:=zO.at (m:=m) b h;show#[x,fp++Y,L,M,h1,h2,(qp ..).symm,λG r=>?_];rw[qp];show .cons (a.mono (zL.refl F) λc v=>G c (qj _ (qj _ v))) (J (λc v=>G c ((qz.mp v).elim (λz=>qj _ (qi _ z)) λz=>qi _ z)) r)
def Rel.hide2(r:Rel K (U++[⇑s]) (σ++[⇑v]) F G H)(h:U.length=σ.length):∃Z fp,Rel K U σ F Z H/\zL G Z/\aK K F H v s fp/\(∀a∈fp,∃o,Z a=⇑o/\H a=⇑o)/\
  ∀{U2:Env}{σ2:St}{M H2:Hp},zL F M->Rel K U2 σ2 M Z H2->Rel K (U2++[⇑s]) (σ2++[⇑v]) M G H2:=by
 classical
 show cps λ_ kk=>?_;let#[fp,e,nd,ap]:=r.en;let#[f1,f2,rfl,a,b]:=e.cut h;let#[n1,n2,h2]:=qx.mp nd;show kk ?_;let b':=b;cases b' with
 |@so _ _ _ _ fs fn sr nl=>
 cases nl;show#[λx=>if x∈fs++[]then H x else G x,fs,#[r.fr,λx o q=>?_,f1,a,n1,λx J=>?_],λx o q=>?_,sr,λx J=>?_,λ{U2 σ2 M H2} sm Y=>?_]
 .by_cases z:x∈fs++[]
  .let:=b.in_ x z;grind
  .simp only[z]at q;show r.gr x o q
 .grind
 .grind
 .obtain⟨o,q,_⟩:=b.in_ x (qj _ J);grind
 .obtain⟨L,e2,h1,h3⟩:=Y.en;let hk:∀x∈fs++[],H2 x=H x/\M x=none/\x∉L:=λx J=>by let#[o,q,_]:=b.in_ x J;let w:=Y.gr x o (by simp only[J];show q);grind
  show#[Y.fr,λx o q=>?_,L++(fs++[]),e2.app (b.mono sm λx J=>(hk x J).1),?_,λx J=>?_]
  .let z:x∉fs++[]:=λz=>by grind
   show Y.gr x o (by simp only[z];show q)
  .grind
  grind
def Rel.appendAt{D b:Addr}(r:Rel K (U++[⇑t,⇑(.lst l)]) (σ++[⇑v,⇑(.ref D)]) F G H)(h:U.length=σ.length)(hm:l[m]?=⇑(.lst l'))
  (hD:H D=⇑(.lst xs))(hb:xs[m]?=⇑(.ref b))(hy:H b=⇑(.lst ys)):
  ys.length=l'.length/\Rel K (U++[⇑(.lst (l.set m (.lst (l'++[t]))))]) (σ++[⇑(.ref D)]) F G (upd H b (.lst (ys++[v]))):=by
 let#[fp,e,nd,ap]:=r.en;let#[f1,f2,rfl,a,c]:=e.cut h;cases c with
 |@so _ _ _ _ Y f3 st c=>
 cases c with
 |@so _ _ _ _ fD fn sd nl=>
 cases nl;cases sd with
 |@lst _ e1 _ fl h5 rl=>
 rw[hD]at h5;cases h5;let#[x,Z,fi,M,L,sx,rfl,up]:=rl.at hm;rw[hb]at L;cases L;cases sx with
 |@lst _ h9 _ J h4 ry=>
 rw[hy]at h4;cases h4;show#[ry.len,?_];let hp:(f1++(Y++(D::(Z++(b::J++M))++[]))).Perm (b::(f1++(Y++(D::(Z++(J++M)))))):=by let h1:(Z++b::(J++M)).Perm (b::(Z++(J++M))):=perm_middle;show((h1.cons D).append_left (f1++Y)|>.trans ?_|>λz=>↑z);let h2:(D::b::(Z++(J++M))).Perm (b::D::(Z++(J++M))):=List.Perm.swap ..;show(h2.append_left (f1++Y)).trans ?_;show perm_middle.trans (by rw[qp])
 let h7:=hp.nodup_iff.mp nd;let#[nb,_]:=qO.mp h7;let ne:∀{w:List Addr},(∀x∈w,x∈f1++(Y++(D::(Z++(J++M)))))->∀x∈w,upd H b (.lst (ys++[v])) x=H x:=λhw x L=>Al λz=>nb (z▸hw x L);let h6:=ap b (hp.mem_iff.mpr qm);let new:aK K F (upd H b (.lst (ys++[v]))) (.ref b) (.lst (l'++[t])) (b::(J++Y)):=.lst AV (zO.snoc (ry.mono (zL.refl F) (ne λx L=>by simp[L])) (st.mono (zL.refl F) (ne λx L=>by simp[L])));let r2:=up (H':=upd H b (.lst (ys++[v]))) (ne λx L=>by rcases qz.mp L with z|z<;>simp[z]) new
 have e2:xs.set m (.ref b)=xs:=by
  apply ext_getElem?;intro j;by_cases hj:m=j
  .subst hj;rw[getElem?_set_self (qg.mp hb).1,hb]
  .rw[getElem?_set_ne hj]
 rw[e2]at r2;let h8:D≠b:=λz=>nb (by simp[z]);let top:aK K F (upd H b (.lst (ys++[v]))) (.ref D) (.lst (l.set m (.lst (l'++[t])))) (D::(Z++((b::(J++Y))++M))):=.lst ((Al h8).trans hD) r2;let p:(f1++((D::(Z++((b::(J++Y))++M)))++[])).Perm (f1++(Y++(D::(Z++(b::J++M))++[]))):=by
  show List.Perm.append_left _ ?_;simp;let h1:(J++(Y++M)).Perm (Y++(J++M)):=by rw[<-qp,<-qp];show List.Perm.append_right _ qQ
  let h2:(Z++b::(J++(Y++M))).Perm (Y++(Z++b::(J++M))):=by show((h1.cons b).append_left Z).trans ?_;let h3:(b::(Y++(J++M))).Perm (Y++(b::(J++M))):=perm_middle.symm;show(h3.append_left Z).trans ?_;rw[<-qp,<-qp];show List.Perm.append_right _ qQ
  show(h2.cons D).trans ?_;show perm_middle.symm
 show#[zL.updR r.fr h6.1,λx o w=>?_,_,(a.mono (zL.refl F) (ne λx L=>by simp[L])).app (.so top .nil),p.nodup_iff.mpr nd,λx L=>ap x (p.mem_iff.mp L)];let L:x≠b:=λz=>by rw[z,h6.2]at w;cases w
 rw[Al L];show r.gr x o w
end
def Hg(ho:FE X o (zG j))(hi:FE X i wi)(he:FE X e we)(ha:gE i:=by intro _ _;rfl)
  (h6:autoParam (attributeBase (.Subscript o i spos) "append" X.env (eval (.Subscript o i spos) X.env)=eval (.Subscript o i spos) X.env) rZ9)
  (e4:autoParam (((backTo cpos (starEach [e] X.env)).all (λx=>!x.1)&&(backToKw cpos (keywordEach [] X.env)).all (λx=>x.1.isSome)
   &&↥([e].length+([]:List Keyword).length+(if([]:List Keyword).isEmpty then 0 else 1)<30))=true) rZ9)
  (h5:autoParam ((apos.endLine==cpos.line)=true) rZ9)(hs:autoParam (starEach [e] X.env=[(false,eval e X.env)]) rZ9):FE X (.Call (.Attribute (.Subscript o i spos) "append" apos) [e] [] cpos) (cF j wi we):=λpn xe hp=>by
 show PE.imp (EJ (X:=wp X pn xe) PySem.F.plainAttrs_list PySem.F.slot_list_append PySem.F.type_list_append IJ (Ht (Kk (X:=wp X pn xe)) (ho pn xe hp) (hi pn xe hp) ha) (Aa he Ab hs pn xe hp) h6 e4 h5 hs rfl) λσ H Q q=>?_;let#[F,G,U,P,PX,hm,Y,hq,hx]:=q;unfold cF at Y;cases qs:slot U j with
 |none=>rw[qs]at Y;show Y.elim
 |some s0=>
  cases s0 with
  |lst l0=>
   rw[qs]at Y;dsimp only at Y;show#[F,G,U,λy h3=>y=.loc j/\h3=U,PX,hm,by unfold zG;rw[qs];show#[rfl,rfl],λy h3 o' F1 H1 M s1 r1 rv=>?_,hx];let#[rfl,rfl]:=M;let l1:=Ag r1;let h4:σ[j]?=⇑⇑o':=rv;let r2:=r1.drop l1;show#[F1,G,h3,_,PX,r2,Y,λz h7 i' F2 H2 L s2 r3 hd=>?_,hx.grow s1];let l2:=Ag r3;split at L
   .rename_i n l ei ql;let#[m,em,L]:=Ai L;split at L
    .rename_i l' el;let ri:=look (U':=[]) (σ':=[]) r3 l2 hd ei;let r4:=r3.drop l2;let#[v',fp,e1,sr]:=r4.at ql;rw[h4]at e1;let e2:o'=v':=by simpa using e1
     subst e2;let r5:=Rel.lend (U':=[]) (σ':=[]) (r4.pushN (u:=⇑o')) l2 ql h4;let l5:(h7.set j none).length=σ.length:=↑l2
     let#[G2,fq,r6,gg,sq,hG,back]:=r5.hide2 l5;cases sq with
     |@lst a xs _ fl hD rl=>
     let#[x,fa,fi,fb,h9,sx,k2,_]:=rl.at el;cases sx with
     |@lst b ys _ fy hy ry=>
     cases ri;let k1:L2.atI xs n=⇑(.ref b):=by
      let e':L2.ixN xs.length n=⇑m:=by rw[rl.len];show em
      unfold L2.atI;rw[e'];show h9
     show .inl #[a,xs,n,_,rfl,rfl,bO.of hD,k1,.inl #[rfl,_,bO.of hy],F2,G2,h7.set j none,λrs Z=>match rs with|[r]=>(zK (give r Z) λp=>l'.length<big/\P (.v (.sh .non)) (p.2.set j ⇑(.lst (l.set m (.lst (l'++[p.1]))))))|_=>False,PX,r6,L,λrs Z vs F3 H3 M s3 r7 hl J=>?_,hx.mono (λ_ z=>z) (s1.trans s2) gg];match rs,vs,J,r7,M with
     |[r],[v],J,r7,M=>
      let#[#[t,k3],eg,M]:=Ai M;let r8:=back s3 r7;simp at r8;let l3:Z.length=σ.length:=hl;let#[F4,s4,l4,r9]:=Ar (U':=[⇑(.lst l)]) (σ':=[⇑(.ref a)]) r8 l3 J.1 eg;let kept:∀c∈a::fl,H3 c=H2 c:=λc hc=>by let#[o,h1,h2]:=hG c hc;rw[(r7.gr c o h1).1.1,h2]
      let hb:b∈a::fl:=qk _ (by rw[k2];simp);let#[e3,hr]:=Rel.appendAt r9 (l4.trans l3) el ((kept a qm).trans hD) h9 ((kept b hb).trans hy);let h8:=Rel.back1 (U':=[]) (σ':=[]) (i:=j) hr (l4.trans l3) h4;rw[qB,qB]at h8;show#[b,ys,v,rfl,rfl,(kept b hb).trans hy,by rw[e3];show lt_trans M.1 ⋯,hq _ _ .non F4 _ M.2 (s1.trans (s2.trans (s3.trans s4))) (h8.push .non) trivial]
     |[],_,_,_,M=>show M.elim
     |[_],[],J,_,_=>show J.elim
     |[_],_::_::_,J,_,_=>show J.2.elim
     |_::_::_,_,_,_,M=>show M.elim
    .show L.elim
   .show L.elim
  |_=>rw[qs]at Y;show Y.elim
section
variable{K:W.Frag}
def Rel.frzEnd(r:Rel K (U++[⇑s]) (σ++[⇑v]) F G H)(h:U.length=σ.length):∃F',zL F F'/\Rel K (U++[⇑(.sh s.toD)]) (σ++[⇑v]) F' G H:=by let#[u,F',Y,L,M,J]:=r.give (i:=U.length) (s:=s) Eb;rw[show(U++[⇑s]).set U.length ⇑(S.sh s.toD)=U++[⇑(S.sh s.toD)] from IV]at J;show#[F',L,J]
end
section
variable{st:Stmt}
def AF(he:FE X e we):FE X e (bG we):=λpn xe hp=>by show PE.imp (he pn xe hp) λσ H Q q=>?_;let#[F,G,U,P,PX,L,hw,M,hx]:=q;show#[F,G,U,_,PX,L,hw,λr h1 v F1 H1 Y s1 r1 rv=>?_,hx];let#[#[s,J],eg,Y]:=Ai Y;let#[F2,s2,l2,Z]:=Ar (U':=[]) (σ':=[]) r1 (Ag r1) rv eg;let#[F3,s3,r3]:=Rel.frzEnd Z (Ag Z);show M _ J v F3 H1 Y (s1.trans (s2.trans s3)) r3 trivial
def JM(h:FS X ks st w):FS X ks st (je i w):=λpn xe hp=>by show PS.imp (h pn xe hp) λD σ H q=>?_;let#[F,G,U,E,M,hw,n,b,c,r,x]:=q;show#[F,G,U,_,M,hw,λZ L F' H' Y kp sm J=>?_,b,c,r,x];let#[s,es,Y]:=Ai Y;let#[v,F2,_,s2,_,r2]:=J.give es;show n _ L F2 H' Y kp (sm.trans s2) r2
end
section
variable{K:W.Frag}
def QC(h:tU d q=⇑o):∃t ks vs,d=.dct t ks vs/\cL t q=true/\lk ks vs q=o:=by unfold tU at h;grind
def lx:R2:=λx y H Q=>∃a v,x=.ref a/\jT H a y ⇑v/\Q v H
def PU(hu:X.A.units+1<cLine):pN X lx:=by
 intro G J z4 s σ H x y v u Q I rx Z h hs;let#[a,r,rfl,g,q]:=h;cases rx;let hT:=Wn I g;let h2:=TZ (E:=X.xe) hu I g Z (Q:=EP X z4 σ Q) λw' s3 I3 Y=>#[r,H,I3,Y,q]
 show qa ?_;show qa (wpAny_specialOf hT PySem.F.slot_dict_getitem.lookup ?_);let L:wpAny (model X.prog X.w) X.A (subscripted J false (.ref a) u) (λr F=>wpAny (model X.prog X.w) X.A (letTemporaryGo G (.ref a) r>>=λ_=>pure r) (EP X z4 σ Q) X.xe F) X.xe s:=by rw[hs];show wpAny_operating (zz h2 (λr F M=>qa (wpAny_letTemporaryGo (qb M))) λ_ _ x=>x)
 first
  |show qb (qa L)
  |show qa (qb (qa L))
  |show qa L
def JB{vs:List α}{P:V->α->Prop}(v:z5.length=vs.length)(h:∀(i:Nat) x y,(z5.map (·.2))[i]?=⇑x->vs[i]?=⇑y->P x y):
  (lk (z5.map λp=>aZ p.1) vs (aZ key)=none/\eE z5 key=none)\/∃x y,eE z5 key=⇑x/\lk (z5.map λp=>aZ p.1) vs (aZ key)=⇑y/\P x y:=
 ET aZ (λ_ _=>EC) z5 vs key P v h
def JA{vs:List α}{key:List bV}{P:V->α->Prop}(v:z5.length=vs.length)(h:∀(i:Nat) x y,(z5.map (·.2))[i]?=⇑x->vs[i]?=⇑y->P x y):
  (lk (z5.map λp=>D.tup (p.1.map aZ)) vs (D.tup (key.map aZ))=none/\eE z5 key=none)\/∃x y,eE z5 key=⇑x/\lk (z5.map λp=>D.tup (p.1.map aZ)) vs (D.tup (key.map aZ))=⇑y/\P x y:=
 ET (λl=>D.tup (l.map aZ)) (λa b z=>GK (D.tup.inj z)) z5 vs key P v h
def QU(Y:aR K H x d)(M:cL t d=true)
  (r2:(∃z5,t=false/\Rd H a (.dK z5)/\ks=z5.map (λp=>aZ p.1)/\zY K F (z5.map (·.2)) vs)\/∃z5,t=true/\Rd H a (.dT z5)/\ks=z5.map (λp=>D.tup (p.1.map aZ))/\zY K F (z5.map (·.2)) vs):
  ∃o,jT H a x o/\((lk ks vs d=none/\o=none)\/∃v e,o=⇑v/\lk ks vs d=⇑e/\aR K F v e):=by
 rcases r2 with⟨z5,rfl,e,k,r⟩|⟨z5,rfl,e,k,r⟩
 .obtain⟨key,rfl,rfl⟩:=ES Y M;show#[_,.inl #[z5,key,e,rfl,rfl],?_];rw[k];rcases JB (z5:=z5) (vs:=vs) (key:=key) (P:=λv e=>aR K F v e) (by let:=r.len;simpa using this) (λi x y h1 h2=>by let#[Z,G,L]:=r.get h2;rw[h1]at G;cases G;show L)with⟨h1,h2⟩|⟨v,e,h1,h2,h3⟩
  .show .inl #[h1,h2]
  .show .inr #[v,e,h1,h2,h3]
 .cases Y with
  |tup e1 q=>
   let#[J,rfl,rfl]:=HU q M;show#[_,.inr #[z5,J,_,e,rfl,e1,rfl],?_];rw[k];rcases JA (z5:=z5) (vs:=vs) (key:=J) (P:=λv e=>aR K F v e) (by let:=r.len;simpa using this) (λi x y h1 h2=>by let#[Z,G,L]:=r.get h2;rw[h1]at G;cases G;show L)with⟨h1,h2⟩|⟨v,e,h1,h2,h3⟩
   .show .inl #[h1,h2]
   .show .inr #[v,e,h1,h2,h3]
  |_=>cases M
def bJ.dct(r:bJ K F H v (.dct t ks vs))(sm:zL F H):∃a,v=.ref a/\((∃z5,t=false/\Rd H a (.dK z5)/\ks=z5.map (λp=>aZ p.1)/\zY K F (z5.map (·.2)) vs)\/
  ∃z5,t=true/\Rd H a (.dT z5)/\ks=z5.map (λp=>D.tup (p.1.map aZ))/\zY K F (z5.map (·.2)) vs):=by
 rcases r with r|⟨a,xs,ds,L,G,J,r⟩|⟨a,z5,Y,M,L,G,J,Z,r⟩|⟨a,z5,Y,M,L,G,J,Z,r⟩
 .cases r with
  |dK e k r=>show#[_,rfl,.inl #[_,rfl,Rd.mono sm e,k,r]]
  |dT e k r=>show#[_,rfl,.inr #[_,rfl,Rd.mono sm e,k,r]]
 .cases G
 .cases G;show#[a,L,.inl #[z5,rfl,.inl J,Z,r]]
 .cases G;show#[a,L,.inr #[z5,rfl,.inl J,Z,r]]
end
def Dz(hu:X.A.units+1<cLine)(ha:FE X a wa)(hb:FE X b wb)(hs:gE b:=by intro _ _;rfl):FE X (.Subscript a b pos) (hE wa wb):=λpn xe hp=>by
 show PE.imp (Ht (PU (X:=wp X pn xe) hu) (ha pn xe hp) (hb pn xe hp) hs) λσ H Q q=>?_;show(Dp (k:=λx y U2 Q E=>zK (zW x U2) λdd=>zK (view y U2) λq=>zK (tU dd q) λo=>zK o λe=>Q (.v (.sh e)) U2) q).mono λv H1 h1=>h1.mono λu H2 h2=>?_;let#[F,G,U,x,y,P,PX,L,Y,rx,ry,hk,h3,hx]:=h2;let#[dd,ed,h7]:=Ai hk;let#[q,eq,h6]:=Ai h7;let#[o,eo,h5]:=Ai h6;let#[e,ee,h4]:=Ai h5;let J:Rel X.K (U++[zM x]) (σ++[⇑v]) F G H2:=Rel.mid (U:=U) (σ:=σ) (Rel.swap (U1:=[zM x]) (σ1:=[⇑v]) (U2:=[zM y]) (σ2:=[⇑u]) Y rfl L) Y;let ru:=look (U':=[]) (σ':=[]) (L.mid Y) Y ry eq;let#[F4,s4,re,r8]:=AG (U':=[]) (σ':=[]) J Y rx ed;rw[qB,qB]at r8;let#[t,ks,vs,rfl,Z,M]:=QC eo;let#[c,rfl,hh]:=re.dct r8.fr;let#[o2,g,h]:=QU ru Z hh;rcases h with⟨h1,rfl⟩|⟨w,e',rfl,h1,h2⟩
 .rw[M,ee]at h1;cases h1
 .rw[M,ee]at h1;cases h1;show#[c,w,rfl,g,h3 _ U _ F4 H2 h4 s4 (r8.push h2) trivial]
def Us(hh:A.handled=none)(J:s.heap.IsList l vs.toArray)(hi:IntsAre vs ns)(Z:0<ns.length)
  (h:∀h' M(t:Tok) tk,(∀b x,s.heap.get? b=⇑x->h'.get? b=⇑x)->M∈ns->(∀a,a∈ns->M<=a)->Q (.int M t) {s with heap:=h',toks:=tk}):wpAny (model prog w) A (call (.builtin "min") [.ref l]) Q E s:=by
 let#[xs,e]:=hi.allInts.items;let F:ns=xs.toList.map (·.1):=by rw[<-hi.numsOf,<-nums_intItems,<-e]
 let G:0<xs.size:=by grind
 rw[e]at J;show min_intList hh J G λv h' tk Y hk=>?_;let#[t,rfl]:=intItems_at Y;let#[h1,h2]:=argBest_lt (numAt xs) (xs.size-1);show h _ _ t tk hk ?_ λa L=>?_
 .rw[F,numAt_eq];show getD_mem (by rw[qo,qY];lia)
 .rw[F]at L;let#[j,hj,rfl]:=mem_getD L;rw[qo,qY]at hj;rw[<-numAt_eq];show h2 j ∅
section
variable{K:W.Frag}
def tQ(K:W.Frag):List V->Hp->VK->Prop:=λxs H Q=>∃(a:Addr)(ns:List Int),xs=[.ref a]/\bO K H a (ns.map V.int)/\0<ns.length/\∀M,M∈ns->(∀a,a∈ns->M<=a)->Q (.int M) H
def SV(hc:X.calm=true):aU X (.builtin "min") (tQ X.K):=by intro z4 s σ H xs us Q I r h;let#[a,ns,rfl,Z,v,q]:=h;let#[u,rfl,F]:=vals1 r;cases F;let#[Y,G,J,hz]:=I.list Z;show Us (I.ok.hd hc) J.isList (Hl G) v λh' M t tk L h1 h2=>#[.int _,H,I.kept L,#[_,rfl],q M h1 h2]
def Uy:cO K (tQ K) fX:=by
 intro σ U F G H vs ds s Q J L e hq;let#[d,v,rfl,rfl]:=AS (λx y r=>by cases x<;>rfl) rfl L e;cases d with
 |lst l=>let#[a,xs,rfl,h1,Z]:=L.1.lst J.fr;let#[Y,en,e]:=bind_eq_some_iff.mp e;let#[m,em,rfl]:=q9.mp e;let#[rfl,_]:=Ig Z en;show#[a,Y,rfl,h1,by cases Y with|nil=>cases em|cons _ _=>simp,λM h2 h3=>?_];let#[h4,h5]:=List.min?_eq_some_iff.mp em;let:M=m:=Int.le_antisymm (h3 m h4) (h5 M h2);subst this;show hq _ F H (zL.refl F) (J.push (.int _))
 |_=>cases e
def HR(M:X.calm=true)(J:Gl X "min")(G:X.mg "min"=none)(F:bootBuiltins "min"=⇑(.builtin "min"))(Y:FA X (e::es) wa)(L:autoParam (starEach (e::es) X.env=(false,eval e X.env)::starEach es X.env) rZ9)(v:autoParam ((backTo pos (starEach es X.env)).any (·.1)=false) rZ9):FE X (.Call (.Name "min" p) (e::es) [] pos) (wB fX wa):=
 DY (λpn xe=>SV (X:=wp X pn xe) M) Uy J G F Y ⋯ ⋯ L v
def bz(ta:TA):TE:=λσ H Q=>ta σ H λv H1=>∃j:Int,v=[.int j]/\∀p,H1 p=none->Q (.ref p) (upd H1 p (.rng 0 j))
def SW(hg:Gl X "range")(Z:X.mg "range"=none)(ha:PA X [a] ta)(Y:starEach [a] X.env=[(false,eval a X.env)]):PE X (.Call (.Name "range" p) [a] [] pos) (bz ta):=by
 intro z4 s σ H Q I h;show Call_ (BU I hg Z boot_range (PyProof.Rows.callWith_type1 (Aj (ha pos z4 s σ H _ I h) λus v G=>?_) Y rfl));let#[vs,H1,F,L,M]:=G;let#[j,e,q]:=M;subst e;cases L with
 |cons r J=>cases J;let#[t,rfl]:=r;show call_range_1 #[.ref v.heap.objs.size,_,F.laid (a:=v.heap.objs.size) (o:=.rng 0 j) (t':=v.toks+1+1) (λ_ _ q=>qc _ q) (zm _) ?_,rfl,q _ (F.hok.fresh (zm _))];show#[_,_,_,qd _ rfl]
def fT(i:Int)(n:Nat):List V:=(List.range n).map λ(k:Nat)=>V.int (i+(k:Int))
def oD(f:List V->HO):List V->Hp->VK->Prop:=λxs H Q=>∃(a:Addr)(i j:Int),xs=[.ref a]/\H a=⇑(.rng i j)/\(-(2^62)<=i/\i<2^62/\-(2^62)<=j/\j<2^62)/\j-i<=2^24/\∀p,H p=none->Q (.ref p) (upd H p (f (fT i (j-i).toNat)))
def RP(h:ItemsOf (λk v=>∃t,v=.int (i+k*1) t) F n):zX (fT i n) F.toList:=by
 unfold fT;show Hf (by rw[qo,qG,qY,h.1]) λj y v h1 h2=>?_;let#[t,rfl]:=h.2 j v (by rw[<-zc];show h2);rw[qI]at h1;let G:j<n:=by let:=(qg.mp h2).1;rw[qY,h.1]at this;show this
 rw[getElem?_range G]at h1;cases h1;show#[t,by simp]
def Xa(hc:X.calm=true):aU X (.type "list") (oD .lst):=by
 intro z4 s σ H xs us Q I r h;let#[a,i,j,rfl,hH,#[b1,b2,b3,b4],hz,q]:=h;let#[u,rfl,L]:=vals1 r;cases L;let#[t,u,v,M]:=I.hok a _ hH;let Y:Builtin.Range.rangeSize i j 1=((j-i).toNat:Nat):=by rw[rangeSize_one];split<;>lia
 show call_list_range (I.ok.hd hc) (show IsRange s.heap a i j 1 t u v from M) (small_one b1 b2 b3 b4) Y ∅ λh' tk G c' Z J F=>?_;show#[.ref s.heap.objs.size,_,I.laid (t':=tk) Z (zm _) (show zZ X.prog X.w _ h' _ (.lst (fT i (j-i).toNat)) from#[?_,G.toList,c',RP F,J]),rfl,q _ (I.hok.fresh (zm _))];unfold fT;rw[qo,qG,zv];lia
def Sv:zY K F (fT i n) (fromTo i n):=by
 unfold fT fromTo;generalize List.range n=l;induction l with
 |nil=>show .nil
 |cons k l v=>show .cons (.int _) v
def QW{k:List D->Env->WQ->Prop}(M:∀pn xe,aU (wp X pn xe) (.type T) (oD f))(hg:Gl X x)(hm:X.mg x=none)(hv:bootBuiltins x=⇑(.type T))(h7:Gl X "range")(h6:X.mg "range"=none)(ha:FE X a wa)
  (Y:∀{U:Env}{σ:St}{F G H:Hp}{l:List D}{xs:List V}{P:WQ}{q:Addr},Rel X.K U σ F G H->zY X.K F xs l->k l U P->H q=none->∃r F',zL F F'/\P r U/\RV σ (.ref q) r/\Rel X.K (U++[zM r]) (σ++[⇑(.ref q)]) F' G (upd H q (f xs)))
  (hs:starEach [a] X.env=[(false,eval a X.env)])(he:starEach [.Call (.Name "range" p1) [a] [] pos1] X.env=[(false,eval (.Call (.Name "range" p1) [a] [] pos1) X.env)])(hn:x≠"__name__")(h8:(x==("__debug__":Str))=false):
  FE X (.Call (.Name x p) [.Call (.Name "range" p1) [a] [] pos1] [] pos) (λU Q E=>bC wa U (λl U1=>l.length<=big/\k l U1 Q) E):=λpn xe hp=>by
 show PE.imp (Mq (X:=wp X pn xe) (M pn xe) hg hm hv (Ku (SW (X:=wp X pn xe) h7 h6 (Aa ha Ab hs pn xe hp) hs) JW (by rw[he];rfl)) hn h8 (by rw[he];rfl) (by rfl)) λσ H Q q=>?_;let#[F,G,U,P,PX,h4,hw,h5,hx]:=q;show#[F,G,U,λrs U1=>match rs with|[r]=>(match view r U1 with|some (.int j)=>(-big<=j/\j<=big)/\(fromTo 0 j.toNat).length<=big/\k (fromTo 0 j.toNat) U1 P|_=>False)|_=>False,PX,h4,hw,λrs U1 vs F1 H1 J s1 Z hl L=>?_,hx];match rs,vs,L,Z,J with
 |[r],[v],L,Z,J=>
  dsimp only at J;split at J
  .rename_i j ej;let rp:=look (U':=[]) (σ':=[]) Z hl L.1 ej;cases rp;let#[#[h1,h2],_,J]:=J;let eb:(big:Int)=1000000:=rfl;let r2:Rel X.K U1 σ F1 G H1:=(show Rel X.K (U1++[zM r]) (σ++[⇑(.int j)]) F1 G H1 from Z).drop hl;show#[j,rfl,λp hp=>?_];let r3:=r2.newF (o:=.rng 0 j) hp;let#[f0,_,_]:=r2.free hp;show#[p,0,j,rfl,AV,#[∅,∅,∅,∅],∅,λq hq=>?_];rw[Int.sub_zero];let#[r,F',s',hP,h3,r4]:=Y (xs:=fT 0 j.toNat) r3 Sv J hq;show h5 r U1 _ F' _ hP (s1.trans ((zL.upd f0).trans s')) r4 h3
  .show J.elim
 |[],_,_,_,Y=>show Y.elim
 |[_],[],L,_,_=>show L.elim
 |[_],_::_::_,L,_,_=>show L.2.elim
 |_::_::_,_,_,_,Y=>show Y.elim
def SL(hc:X.calm=true)(hg:Gl X "list")(hm:X.mg "list"=none)(Y:bootBuiltins "list"=⇑(.type "list"))(J:Gl X "range")(G:X.mg "range"=none)(ha:FE X a wa)
  (Z:autoParam (starEach [a] X.env=[(false,eval a X.env)]) rZ9)(he:autoParam (starEach [.Call (.Name "range" L) [a] [] pos1] X.env=[(false,eval (.Call (.Name "range" L) [a] [] pos1) X.env)]) rZ9):
  FE X (.Call (.Name "list" p) [.Call (.Name "range" L) [a] [] pos1] [] pos) (kG (bC wa)):=
 QW (f:=.lst) (k:=λl v Q=>Q (.v (.lst (l.map .sh))) v) (λpn xe=>Xa (X:=wp X pn xe) hc) hg hm Y J G ha (λF M hP hq=>#[_,_,zL.refl _,hP,trivial,Rel.newLD F hq M]) Z he ⋯ ⋯
end
end FL
namespace FL
open PySem PySem.Spec PyProof.Rows
def Ul:typeLookup (.type "tuple") "__reversed__"=pure none:=by first|rfl|assumption|(simp_all;done)
def KW:typeLookup (.type "tuple") "__getitem__"=pure ⇑(.builtin "tuple.__getitem__"):=by first|rfl|assumption|(simp_all;done)
def VG:isSubtype (.type "tuple") (.type "dict")=pure false:=by rw[isSubtype_type];kernel_rfl
def rX(t:Addr)(i:Int):Obj:={cls:=.type "reversed",data:=.fields [.ref t,rawInt i].toArray}
def RT{items:Array Value}{R:Fin->Shared->Prop}(F:IsTup s.heap t items)(v:(items.size:Int)<2^63)
  (h:R (.done (.ret (.ref s.heap.objs.size))) {s with heap:=s.heap.push (rX t ((items.size:Int)-1)),toks:=s.toks+1+1}):
  wpAny (model prog w) A (Builtin.«reversed.__new__» #[[.type "reversed",.ref t],[]]) R E s:=by
 show qa (zy (newClass_reversed _) ?_);show qa (zy (a:=()) (by first|rfl|kernel_rfl) (qa (zy (a:=()) (by first|rfl|kernel_rfl) ?_)));show qa (wpAny_specialOf F.typeIs Ul ?_);show qa ?_
 wp_delta
 show qa (wpAny_isInstance (b:=false) F.typeIs VG ?_);show qa (wpAny_specialOf F.typeIs KW ?_);dsimp only;show qb ?_;show qa (PyProof.Rows.len_tuple F v ?_);show qa (zy (a:=⇑(items.size:Int)) rfl ?_);unfold Builtin.SmallTypes.newRecord;show qa (zt (qb ?_));show h
def SU(t:Addr)(items:Array Value)(v:(items.size:Int)<2^63):Meets (Builtin.«reversed.__new__» #[[.type "reversed",.ref t],[]]) (λ_ R s=>IsTup s.heap t items/\
   R (.ok (.ret (.ref s.heap.objs.size))) {s with heap:=s.heap.push (rX t ((items.size:Int)-1)),toks:=s.toks+1+1}):=
 .of_wp λprog w A R s h=>RT h.1 v #[_,rfl,h.2]
def Xk:Slot "reversed" "__init__" "object.__init__":=
 .of (owner:="object") (n:="__init__") (by rw[typeLookup_type];kernel_rfl) (by decide+kernel) (by decide+kernel) (by decide+kernel) (by first|show .inl (by decide+kernel)|show .inr (by decide+kernel)) (by rw[isSubtype_type];kernel_rfl)
def VA:TypeCalled "reversed" "reversed.__new__" "object.__init__":=#[by decide+kernel,by decide+kernel,#[_,_,F.mro_reversed],F.made_reversed,by decide+kernel,F.sub_reversed_self,Xk]
def Vb{items:Array Value}(J:IsTup s.heap t items)(v:(items.size:Int)<2^63)
  (h:Q (.ref s.heap.objs.size) {s with heap:=s.heap.push (rX t ((items.size:Int)-1)),toks:=s.toks+1+1}):wpAny (model prog w) A (call (.type "reversed") [.ref t]) Q E s:=by
 show callType_new VA ⋯ (F.typeCall_reversed_1 _) (F.newCall_reversed_1 _) (λG=>F.args_object_init_2 G _) F.entry_reversed_new (SU t items v) #[J,?_];show#[#[_,qd _ rfl,rfl],h]
section
variable{s:Shared}
theorem zaP:Slot "reversed" "__next__" "reversed.__next__":=
 .of (owner:="reversed") (n:="__next__") (by rw[typeLookup_type];kernel_rfl) (by decide+kernel) (by decide+kernel) (by decide+kernel) (by first|show .inl (by decide+kernel)|show .inr (by decide+kernel)) (by rw[isSubtype_type];kernel_rfl)
def NV:entryFor table "reversed.__next__"=⇑Builtin.«reversed.__next__»:=entryFor_of_tree (by kernel_rfl)
def NJ(a:Value):argsOk "reversed.__next__" #[[a],[]]:=by first|rfl|assumption|(simp_all;done)
def cP(h:Heap)(a t:Addr)(i:Int):Prop:=∃o,h.get? a=⇑o/\o.cls=.type "reversed"/\o.data=.fields [.ref t,rawInt i].toArray
def cP.typeIs(x:cP s.heap a t i):s.TypeIs (.ref a) "reversed":=let⟨o,ho,hc,_⟩:=x;#[o,ho,hc]
def Uh{i:Nat}{items:Array Value}(F:cP s.heap L t (i:Int))(M:IsTup s.heap t items)(Z:items[i]?=⇑x)(v:(items.size:Int)<2^63)
  (hQ:∀h' tk,cP h' L t ((i:Int)-1)->Heap.SameBut L s.heap h'->Q ⇑x {s with heap:=h',toks:=tk}):wpAny (model prog w) A (pyNext (.ref L)) Q E s:=by
 let#[o,J,hc,G]:=id F;let hi:i<items.size:=by grind
 refine qa (wpAny_attempt (wpAny_callSpecial?_slot (name:=Str.ofString "__next__") F.typeIs zaP (zu zaP F.typeIs NV ?_ (NJ _))));show qa (zy (a:=(Value.ref L,[])) rfl ?_);show qa (zr J G (x:=.ref t) rfl (qa (zr J G (x:=rawInt (i:Int)) rfl ?_)));show wpAny _ _ (if(i:Int)<0 then _ else _) _ _ s;show qa (wpAny_specialOf M.typeIs KW ?_);show qa (wpAny_mkInt ?_);let hj:seqIndex? (i:Int) items.size=⇑i:=by
  unfold seqIndex?;let Y:¬(i:Int)<0:=∅
  simp[hi,Y]
 show qa (wpAny_attempt (PyProof.Rows.getItem_tuple (s:={s with toks:=s.toks+1}) (j:=i) (x:=x) (show IsTup s.heap t items from M) (Int.le_trans (Int.neg_nonpos_of_nonneg (Int.le_of_lt (Int.lt_of_le_of_lt (natCast_nonneg _) v))) (natCast_nonneg i)) (Int.lt_trans (Int.ofNat_lt.mpr hi) v) hj Z ?_));show qa (zr (s:={s with toks:=s.toks+1}) J G (x:=rawInt (i:Int)) rfl ?_);show qa (wpAny_setField (s:={s with toks:=s.toks+1}) J G (by simp) ?_);show qb #[x,rfl,qb (hQ _ (s.toks+1) ?_ (Heap.SameBut.update ..))];show#[_,zp _ J (Obj.isFreed_of_fields (Obj.data_mapFields G _)),(Obj.cls_mapFields ..).trans hc,by rw[Obj.data_mapFields G];simp]
def Sb(hh:A.handled=none)(hit:cP s.heap it t (-1))(hQ:∀h',Heap.ExtBut it s.heap h'->Q none {s with heap:=h'}):wpAny (model prog w) A (pyNext (.ref it)) Q E s:=by
 let#[o,ho,hc,hd]:=id hit;show qa (wpAny_attempt (wpAny_callSpecial?_slot (name:=Str.ofString "__next__") hit.typeIs zaP (zu zaP hit.typeIs NV ?_ (NJ _))));show qa (zy (a:=(Value.ref it,[])) rfl ?_);show qa (zr ho hd (x:=.ref t) rfl (qa (zr ho hd (x:=rawInt (-1)) rfl ?_)));show wpAny _ _ (if(-1:Int)<0 then _ else _) _ _ s;show qa (wpAny_rule ?_);show qa ?_
 wp_delta
 show qa (wpAny_setField ho hd (by simp) ?_);let ho2:=zp (h:=s.heap) (a:=it) (Obj.mapFields (·.setIfInBounds 1 (rawInt (-1)))) ho (Obj.isFreed_of_fields (Obj.data_mapFields hd _));show wpAny_setField (s:={s with heap:=s.heap.update it (Obj.mapFields (·.setIfInBounds 1 (rawInt (-1))))}) ho2 (Obj.data_mapFields hd _) (by simp) ?_;show qa ?_;show qa ?_;show qa (zt ?_ (by size_fits));show qa (m:=firstArgMember _ _) (zy (a:=Value.none) (by first|rfl|(simp;rfl)) (zt ?_ (by size_fits)));show qa (wpAny_handled ?_);first|rw[show A.in1.handled=none from hh]|rw[hh]
 show qa (qb (wpAny_throw ?_));show qa (wpAny_isInstance (T:="StopIteration") (b:=true) ?ty isSubtype_stop ?_);case ty=>show#[_,qd _ rfl,rfl]
 show qb (hQ _ ?_);let x1:Heap.ExtBut it s.heap (s.heap.update it (Obj.mapFields (·.setIfInBounds 1 (rawInt (-1))))):=(Heap.SameBut.update s.heap it _).extBut;let x2:Heap.ExtBut it s.heap ((s.heap.update it (Obj.mapFields (·.setIfInBounds 1 (rawInt (-1))))).update it (Obj.mapFields (·.setIfInBounds 0 Value.none))):=λb o hb e=>(Heap.SameBut.update _ it _).extBut b o hb (x1 b o hb e);show(x2.push _).push _
def NI:Slot "reversed" "__iter__" "reversed.__iter__":=
 .of (owner:="reversed") (n:="__iter__") (by rw[typeLookup_type];kernel_rfl) (by decide+kernel) (by decide+kernel) (by decide+kernel) (by first|show .inl (by decide+kernel)|show .inr (by decide+kernel)) (by rw[isSubtype_type];kernel_rfl)
def WU(a:Value):argsOk "reversed.__iter__" #[[a],[]]:=by first|rfl|assumption|(simp_all;done)
def Xh:entryFor table "reversed.__iter__"=⇑Builtin.«dict_keyiterator.__iter__»:=
 entryFor_alias (id':="dict_keyiterator.__iter__") (by kernel_rfl) (by first|rfl|decide+kernel|(unfold String.splitOn;simp+decide [String.splitOnAux])) (by decide+kernel) (by kernel_rfl)
def Mx(v:cP s.heap F t i)(h:Q (.ref F) s):wpAny (model prog w) A (pyIter (.ref F)) Q E s:=by show wpAny_pyIter_slot v.typeIs NI (zu NI v.typeIs Xh (?_:wpAny _ _ (ret (.ref F)) _ _ s) (WU _));show qb #[_,rfl,"reversed",_,v.typeIs,zaP.lookup,h]
end
def cP.at(x:cP h a t i)(e:∀o,h.get? a=⇑o->h'.get? a=⇑o):cP h' a t i:=let⟨o,ho,r⟩:=x;#[o,e _ ho,r]
end FL
namespace FL
open PySem PySem.Spec PyProof.Rows L2
section
variable{K:W.Frag}
def Jl:bootBuiltins "reversed"=⇑(.type "reversed"):=by decide+kernel
def zY.rev:∀{xs:List V}{l:List D},zY K F xs l->zY K F xs.reverse l.reverse
 |_,_,.nil=>.nil
 |_,_,.cons a b=>by rw[reverse_cons,reverse_cons];show(zY.rev b).append (.cons a .nil)
end
def HV(h1:-1000000000000<i)(h2:i<1000000000000):i.natAbs.log2<40:=by
 let:i.natAbs<2^40:=∅
 by_cases v:i.natAbs=0
 .rw[v];decide
 .show(Nat.log2_lt v).mpr this
mutual
theorem IG:∀d:D,kK d=true->jI d=true
 |.non,_=>rfl
 |.bl _,_=>rfl
 |.int i,h=>by let h':(↥(-1000000000000<i)&&↥(i<1000000000000))=true:=h;rw[and_eq_true,qW,qW]at h';let:=HV h'.1 h'.2;show ↥(i.natAbs.log2<1920)=true;rw[qW];lia
 |.str _,_=>rfl
 |.tup l,h=>IU l h
 |.lst l,h=>IU l h
 |.dct _ _ _,h=>by cases h
 |.set _,h=>by cases h
 |.exc _ _ _,h=>by cases h
theorem IU:∀l:List D,dY l=true->dS l=true
 |[],_=>rfl
 |d::r,h=>by rw[dY,and_eq_true]at h;rw[dS,IG d h.1,IU r h.2];rfl
end
mutual
theorem Hi:∀d:D,kK d=true->(dI d).leavesShort 13=true
 |.non,_=>rfl
 |.bl _,_=>rfl
 |.int i,h=>by let h':(↥(-1000000000000<i)&&↥(i<1000000000000))=true:=h;rw[and_eq_true,qW,qW]at h';let:=int_text_length_le10 (a:=i) (k:=12) ⋯ ∅;simp only[dI,PyData.leavesShort,qW];show(Str.ofString (toString i)).length<=13;rw[PySem.ofString_length];show this
 |.str l,h=>by let h':(l.all λc=>↥(c<1114112))=true:=h;simp only[dI,PyData.leavesShort,qL,qW]at h'⊢;intro c v;let:=h' c ↑v;lia
 |.tup l,h=>by simp only[dI,PyData.leavesShort];show Jh l h
 |.lst l,h=>by simp only[dI,PyData.leavesShort];show Jh l h
 |.dct _ _ _,h=>by cases h
 |.set _,h=>by cases h
 |.exc _ _ _,h=>by cases h
theorem Jh:∀l:List D,dY l=true->PyData.leavesShortAll 13 (dE l)=true
 |[],_=>rfl
 |d::r,h=>by rw[dY,and_eq_true]at h;simp only[dE,PyData.leavesShortAll,and_eq_true];show#[Hi d h.1,Jh r h.2]
end
mutual
theorem Hh:∀d:D,kK d=true->(dI d).weight<=tJ d
 |.non,_=>zm _
 |.bl _,_=>zm _
 |.int i,h=>by let h':(↥(-1000000000000<i)&&↥(i<1000000000000))=true:=h;rw[and_eq_true,qW,qW]at h';let:=HV h'.1 h'.2;simp only[dI,PyData.weight,tJ];split<;>lia
 |.str l,h=>by simp[dI,PyData.weight,tJ]
 |.tup l,h=>by simp only[dI,PyData.weight,tJ];show Jj l h
 |.lst l,h=>by simp only[dI,PyData.weight,tJ];show Jj l h
 |.dct _ _ _,h=>by cases h
 |.set _,h=>by cases h
 |.exc _ _ _,h=>by cases h
theorem Jj:∀l:List D,dY l=true->PyData.weightAll (dE l)<=jF l
 |[],_=>zm _
 |d::r,h=>by rw[dY,and_eq_true]at h;let h1:=Hh d h.1;let h2:=Jj r h.2;simp only[dE,PyData.weightAll,jF];lia
end
def bJ.view{K:W.Frag}(h:bJ K F H v d)(G:zL F H):aR K H v d:=by
 rcases h with h|⟨a,xs,M,rfl,rfl,e,r⟩|⟨a,J,ks,L,rfl,rfl,e,k,r⟩|⟨a,J,ks,L,rfl,rfl,e,k,r⟩
 .show h.mono G
 .show .lst (bO.of e) (r.mono G)
 .show .dK (.of e) k (r.mono G)
 .show .dT (.of e) k (r.mono G)
def jg:D->Str
 |.non=>"None"
 |.bl b=>if b then "True" else "False"
 |.int i=>toString i
 |d=>(dI d).shown
def kJ(K:W.Frag):List V->Hp->VK->Prop:=λxs H Q=>∃v d,xs=[v]/\aR K H v d/\cX d=true/\Q (.str (jg d)) H
def Nl(hr:bU k X.A):aU X (.builtin "repr") (kJ X.K):=by
 intro z4 s σ H xs us Q I r h;let#[v,d,rfl,Z,G,q]:=h;unfold cX at G;rw[and_eq_true,and_eq_true,qW,qW]at G;let#[F,hd,hw]:=G;let#[u,rfl,L]:=vals1 r;let J:∀a,v=.ref a->ft d=true->wpAny (model X.prog X.w) X.A (call (.builtin "repr") [u]) (EP X z4 σ Q) X.xe s:=λa e hq=>by
  subst e;cases L;let#[as,rd]:=RL I Z rfl (IG d F);let h1:=LJ d;let h2:=hr.units;let Y:jg d=(dI d).shown:=by cases d<;>first|rfl|cases hq
  rw[Y]at q;show repr_of_reads' (h₀:=s.heap) rd (Ni d (IG d F)) (λh=>by rw[Ms]at h;cases h) hr.gd ∅ (λ_ _ z=>z) (λh' u tk hk=>#[.str _,H,I.kept hk,#[u,rfl],q]) ?_;let M:=Hh d F;show PyData.shown_fits (B:=13) ⋯ ⋯ (Hi d F) ∅
 cases Z with
 |non=>cases L;show P.repr_of_none #[.str _,H,I.kept λ_ _ z=>z,#[_,rfl],q]
 |bl b=>cases L;show P.repr_of_bool #[.str _,H,I.kept λ_ _ z=>z,#[_,rfl],q]
 |int i=>let#[t,rfl]:=L;let h':(↥(-1000000000000<i)&&↥(i<1000000000000))=true:=F;rw[and_eq_true,qW,qW]at h';let:=HV h'.1 h'.2;show P.repr_of_int ∅ #[.str _,H,I.kept λ_ _ z=>z,#[_,rfl],q]
 |@str x l e z=>
  let#[t,rfl]:=L;let ex:x=#[l.toArray]:=by let#[#[a]]:=x;let e':a=l:=e;rw[e']
  subst ex;let M:=Hh (.str l) F;show P.repr_of_str #[.str _,H,I.kept λ_ _ z=>z,#[_,rfl],q] (PyData.shown_fits (d:=dI (.str l)) (B:=13) ⋯ ⋯ (Hi _ F) ∅)
 |tup e r=>show J _ rfl rfl
 |lst e r=>show J _ rfl rfl
 |dK e k r=>cases F
 |dT e k r=>cases F
 |st e r=>cases F
 |exc e k=>cases F
def QR(v:cX d=true):(jg d).cps.toList.length<=16777216:=by
 unfold cX at v;rw[and_eq_true,and_eq_true,qW,qW]at v;let#[v,J,G]:=v;let F:=Hh d v;let h:=PyData.shown_fits (d:=dI d) (B:=13) ⋯ ⋯ (Hi _ v) ∅;let e:jg d=(dI d).shown:=by
  cases d with
  |non=>rfl
  |bl b=>rfl
  |int i=>rfl
  |str l=>rfl
  |tup l=>rfl
  |lst l=>rfl
  |_=>cases v
 rw[e,qY];show h
def VE{a b:Expr}{wa wb:WE}{res:Bool}{X':Cx}{σ:St}{H:Hp}{Q:Bool->Hp->Prop}{C:V->V->Hp->Prop}(hC:∀(z:Str) H2,z.cps.toList.length<=16777216->Q res H2->C (.str z) (.str z) H2)(q:jD X' (eY res wa wb) σ H Q):
  cu (kJ X'.K) (rV X' (zH wa zI)) σ H λv H1=>cu (kJ X'.K) (rV X' (zH wb zI)) σ H1 λu H2=>C v u H2:=by
 let#[F,G,U,P,PX,h3,hw,h5,hx]:=q;show#[F,G,U,λrs Z=>match rs with|[r]=>(zK (zW r Z) λp=>cX p=true/\wb Z (λy J=>zK (zW y J) λq=>p=q/\P res J) PX)|_=>False,PX,h3,hw,λrs Z vs F1 H1 L s1 r1 hl M=>?_,hx];match rs,vs,M,r1,L with
 |[r],[v],M,r1,L=>
  let#[d,ed,h2,L]:=Ai L;let#[F2,s2,re,r2]:=AG (U':=[]) (σ':=[]) r1 hl M.1 ed;rw[qB,qB]at r2;show#[v,d,rfl,re.view r2.fr,h2,F2,G,Z,λrs J=>match rs with|[r]=>(zK (zW r J) λq=>d=q/\P res J)|_=>False,PX,r2,L,λrs J us F3 H3 Y s3 r3 h6 h1=>?_,hx.grow (s1.trans s2)];match rs,us,h1,r3,Y with
  |[r],[u],h1,r3,Y=>let#[d2,h7,h8,Y]:=Ai Y;subst h8;let#[F4,s4,h4,r4]:=AG (U':=[]) (σ':=[]) r3 h6 h1.1 h7;rw[qB,qB]at r4;show#[u,d,rfl,h4.view r4.fr,h2,hC _ _ (QR h2) (h5 _ J F4 H3 Y (s1.trans (s2.trans (s3.trans s4))) r4)]
  |[],_,_,_,L=>show L.elim
  |[_],[],M,_,_=>show M.elim
  |[_],_::_::_,M,_,_=>show M.2.elim
  |_::_::_,_,_,_,L=>show L.elim
 |[],_,_,_,L=>show L.elim
 |[_],[],M,_,_=>show M.elim
 |[_],_::_::_,M,_,_=>show M.2.elim
 |_::_::_,_,_,_,L=>show L.elim
def Lz:bootBuiltins "repr"=⇑(.builtin "repr"):=by decide+kernel
def Mt(G:bU k X.A)(Z:Gl X "repr")(Y:X.mg "repr"=none)(ha:FE X a wa)(hb:FE X b wb)(L:autoParam (starEach [a] X.env=[(false,eval a X.env)]) rZ9)(F:autoParam (starEach [b] X.env=[(false,eval b X.env)]) rZ9):
  FT X (.Compare (.Call (.Name "repr" p) [a] [] pos1) [.NotEq] [.Call (.Name "repr" p2) [b] [] pos2] pos) (eY false wa wb):=λpn xe M=>by
 show PT.imp (Lj (BS (X:=wp X pn xe) (Bb G)) (IB (X:=wp X pn xe) (Nl (X:=wp X pn xe) G) Z Y Lz (Aa ha Ab L pn xe M) ⋯ ⋯ L (by rfl)) (IB (X:=wp X pn xe) (Nl (X:=wp X pn xe) G) Z Y Lz (Aa hb Ab F pn xe M) ⋯ ⋯ F (by rfl)) (Ac _)) λσ H Q q=>?_;show VE (a:=a) (b:=b) (C:=λv u H2=>wG X.K v u H2 λz H3=>∃c,z=.bl c/\Q c H3) (λz H2 J hq=>?_) q;show#[.str z.cps.toList,.str z.cps.toList,.str rfl J,.str rfl J,rfl,zero_le _,false,by simp,hq]
section
variable{K:W.Frag}
def My(a:Array Nat):∀(n:Nat)(b:Array Nat),((List.replicate n a).foldl (·++·) b).toList=b.toList++(List.replicate n a.toList).flatten
 |0,b=>by simp
 |n+1,b=>by rw[List.replicate_succ,foldl_cons,My a n,List.replicate_succ,List.flatten_cons,toList_append,qp]
def OY(v:0<=n):(Txt.mul x n).cps.toList=(List.replicate n.toNat x.cps.toList).flatten:=by
 unfold Txt.mul;by_cases h1:n<1
 .rw[show n=0 by lia];rfl
 .rw[zk h1];by_cases h2:(n==1||x.length==0)=true
  .rw[zj h2];rw[or_eq_true,beq_iff_eq,beq_iff_eq]at h2;rcases h2 with h2|h2
   .subst h2;simp
   .let:x.cps.toList=[]:=by let e:x.cps.size=0:=h2;rw[<-List.length_eq_zero_iff];exact e
    rw[this];simp
  .rw[zk h2];rw[My];simp
def tP:R2:=λx y H Q=>∃z n,x=.str z/\y=.int n/\0<=n/\n<=1000/\z.length<=500/\Q (.str (Txt.mul z n)) H
def PZ:OpR X (binaryOp .Mult) tP:=by
 intro z4 s σ H x y v u Q I G F h;let#[z,n,rfl,rfl,h0,h1,J,q]:=h;let#[t,rfl]:=G;let#[M,rfl]:=F;show SB.mul #[?_,λh _=>?_,λh _=>?_] λL k=>#[.str _,H,I.kept λ_ _ z=>z,#[_,rfl],q]
 .grind
 .let Z:(9223372036854775807:Int)/1000<=(2^63-1)/n:=by rw[Int.le_ediv_iff_mul_le ∅];grind
  grind
 .let Y:z.length*n.toNat<=500*1000:=Nat.mul_le_mul J ∅;simp only[Builtin.Str.tooLong,zv];lia
def Vh:jC K (λx y H Q=>(rI pH λi j=>.int (i*j)) x y H Q\/tP x y H Q) dF:=by
 intro σ U F G H x y p q s Q v L J e M;unfold dF at e;split at e
 .rename_i l n;split at e
  .rename_i hc;cases e;let#[Y,h1,hz]:=hc;let#[z,rfl,Z,_]:=L.str;let ey:y=.int n:=by
    rcases J with J|⟨_,_,_,_,e,_⟩|⟨_,_,_,_,_,e,_⟩|⟨_,_,_,_,_,e,_⟩
    .cases J;rfl
    .cases e
    .cases e
    .cases e
   subst ey;let h2:z.length=l.length:=by rw[<-Z];rfl
   show .inr #[z,n,rfl,rfl,Y,h1,∅,?_];show M _ F H (zL.refl F) (v.push (.str ?_ ?_))
   .rw[OY Y,Z]
   .let h4:n.toNat*l.length<=1000*500:=Nat.mul_le_mul ∅ hz;let e5:∀m,((List.replicate m l).flatten).length=m*l.length:=λm=>by simp
    rw[e5];lia
  .cases e
 .show .inl (RO σ U F G H x y _ _ s Q v L J e M)
def Dm(F:FE X a wa)(v:FE X b wb):FE X (.BinOp a .Mult b pos) (zR dF wa wb):=Ej (λ_ _=>OpR.or Ot PZ) Vh F v
end
end FL
namespace FL
def kb(s0:S)(n k:Nat)(G:WI)(g:WG)(c:WT)(b:WB):WE:=λU Q E=>G U (λl F=>aS g c b l (F++⇑s0::List.replicate k none) (λv=>zK (slot v n) λs=>Q (.v s) (v.take n)) NX) E
def oZ(n:Nat)(a e:WE):WB:=λU Q E=>a U (λx F=>e F (λy v=>zK (view x v) λq=>zK (give y v) λp=>match slot p.2 n with
 |some (.dct t ks l)=>cL t q=true/\ks.Nodup/\ks.length<big/\Q (p.2.set n ⇑(cM t ks l q p.1))
 |_=>False) E) E
end FL
namespace FL
open PySem PySem.Spec PyProof.Rows L2
def Vj(hu:A.units<cLine)(I:Inv X z4 σ H s)(g:pG H a y v H')(ry:zP y u)(rv:zP v r)(h:∀s',Inv X z4 σ H' s'->Q () s'):
  wpAny (model X.prog X.w) A (dictSet a u r) Q E s:=by
 rcases g with⟨J,k,e,Z,l,eH⟩|⟨J,k,b,e,Z,eb,l,eH⟩
 .subst Z eH;let#[z,Y,vs,F,dd]:=Hv I.hok e;show wpAny_dictSet_pairs (hsz:=by rw[<-F.length];show z) (Dw ry) dd λh' G M=>h _ ?_;show Fd I (by rw[e];show True.intro) M (let⟨q,_,_,L,_⟩:=G;#[q,L]) (Hy (by let:=FF J k v;lia) Y (F.put k rv) G)
 .subst Z eH;cases(show u=Value.ref b from ry);let#[z,Y,xs,F,dd]:=JO I.hok e;show wpAny_dictSet_heap (hsz:=by rw[<-Paired.length F];show z) hu (Ei I.hok eb) dd λh' G M=>h _ ?_;let#[q,es,ep,L,h2,h3,h4,_,h5]:=G;show Fd I (by rw[e];show True.intro) M ⟨q,L⟩ ⟨by let:=FF J k v;lia,Y,_,(F.put k eb rv).keeps λc ys ec=>?_,q,es,ep,L,h2,h3,h4,h5⟩;rw[Al (JP ec e (λz=>nomatch z))];show ec
section
variable{X:Cx}{D:Addr}
def Sn(h3:X.xe=λ_ _=>False)(hu:X.A.units<cLine)(hk:FE X ek wk)(he:FE X ev we):
  mK X (eval ek X.env>>=λkv=>holding [kv] (eval ev X.env)>>=λvv=>standAt p>>=λ_=>holding [kv,vv] (dictSet D kv vv)) (tK X n D (oZ n wk we)):=by
 intro z4 s σ H Q I q;let#[F,G,U,P,h7,h8,hw,h9]:=q;let hp:PassesOwn (model X.prog X.w) X.A X.env X.xe:=by rw[h3];show PassesOwn.never
 let Z:∀e s',X.xe e s'->False:=λe s' z=>by rw[h3]at z;show z
 have h2:=Dp (X:=X) (wa:=wk) (wb:=we) (σ:=σ) (H:=H) (Q:=λ_ H'=>Q σ H') (k:=λx y Y Q' _=>zK (view x Y) λq=>zK (give y Y) λp=>match slot p.2 n with
  |some (.dct t ks l)=>cL t q=true/\ks.Nodup/\ks.length<big/\Q' (.v (.sh .non)) (p.2.set n ⇑(cM t ks l q p.1))
  |_=>False) #[F,G,U,λ_ U'=>P U',NX,h7,hw,λr U' v F' H' h1 sm r' _=>h9 U' σ F' H' h1 KP.refl sm (r'.drop (Ag r')),Hq]
 show qa (zz (hk X.pn X.xe hp z4 s σ H _ I h2) (λkv s1 zq=>?_) λe s' z=>Z e s' z);let#[v,H1,I1,rv,q1]:=zq;show qa (zx (zz (he X.pn X.xe hp z4 s1 σ H1 _ I1 q1) (λvv s2 zq=>?_) λe s' z=>Z e s' z));let#[u,H2,I2,ru,q2]:=zq;show qa (wpAny_standAt (zx ?_));let#[F3,G3,h6,rx,ry,P3,e1,L,M,vx,vy,J,h4,_]:=q2;let#[q,eq,J]:=Ai J;let rq:=look L M vx eq;let r5:Rel X.K (h6++[zM ry]) (σ++[⇑u]) F3 G3 H2:=L.mid M;let#[#[t,h5],eg,J]:=Ai J;let#[F4,s4,l4,r6]:=Ar (U':=[]) (σ':=[]) r5 M vy eg;cases qs:slot h5 n with
 |none=>simp[qs]at J
 |some sj=>
  rw[qs]at J;match sj,qs,J with
  |.dct tt kk l,qs,⟨hkey,hnd,hbig,hnx⟩=>
   let#[H',dp,r7]:=Rel.dput r6 qs h8 rq hkey hnd hbig;show Vj hu I2 dp rv ru λs' I'=>#[σ,H',I',?_]
   show h4 (.v (.sh .non)) _ .non F4 H' hnx s4 (r7.push .non) trivial
def QY{t:Bool}(H:Hp)(h:Heap)(v:sysModules<h.objs.size):zZ X.prog X.w H (h.push {cls:=.type "dict",dict:=none,data:=.dict #[]}) h.objs.size (if t then .dT []else .dK []):=by
 cases t
 .show LQ h v
 .show Tp h v
def QP(F H:Hp)(p:Addr)(e:H p=⇑(if t then .dT []else .dK [])):aK X.K F H (.ref p) (.dct t [] []) [p]:=by
 cases t
 .show .dK e rfl .nil
 .show .dT e rfl .nil
end
def Ou(t:Bool)(hn:X.N.length=n)(hu:X.A.units<cLine)(hc:X.calm=true)(Sc:cH X.env.scope scope X.N vars)(hk:vars.length=k)(hi:FI X tg iter Z)
  (hg:∀s H ex,FG (aF X scope vars s H ex) (List.range (n+1)) tg g)(ht:∀s H ex,hU (aF X scope vars s H ex) J (jD (aF X scope vars s H ex) wc))(M:∀s H ex,FE (aF X scope vars s H ex) ek Y)(he:∀s H ex,FE (aF X scope vars s H ex) ev we)
  (hs:∀x,foldedSetIterable iter X.env x=pure x:=by intro _;rfl):FE X (.DictComp ek ev [#[tg,iter,J,0]] scope pos) (kb (.dct t [] []) n k Z g wc (oZ n Y we)):=by
 subst hn;intro pn xe hp z4 s σ H Q I q;let#[F,G,U,P,PX,v,hw,L,hx]:=q;show GG (λA E s Q h=>GF A E s Q h) (s0:=.dct t [] []) (QY (t:=t)) QP rfl hs Sc hk hi (λs H ex D=>?_) (λ_ _ _=>rfl) (λ_ _ _=>rfl) (λ_ _ _=>rfl) (λ_ _ _=>#[_,rfl]) hp I v hw hx (HL L);show FB (X:=aF X scope vars s H ex) hc rfl (hg s H ex [] (λ_ _=>False) PassesOwn.never) (ht s H ex) (λ_=>(Sn (X:=aF X scope vars s H ex) rfl hu (M s H ex) (he s H ex)).f) (λ_=>rfl) (λ_=>rfl) (λ_=>rfl) (λ_=>rfl)
def Pn(v:bU k A):A.units<cLine:=Nat.lt_of_succ_lt (CC v)
def dO(K:W.Frag)(f:Addr):FuncData:=match K.lookup f with
 |some ⟨_,_,.func d,_⟩=>d
 |_=>default
def JL{K:W.Frag}(l:K.lookup f=⇑#[G,F,.func d,v]):dO K f=d:=by unfold dO;rw[l]
inductive Lk(K:W.Frag)(n:Str)(st:Stmt)(f:Addr):Prop
 |mk {oc kV dc pm cd ct:Value} {od an:Option Addr} {sl:Array (Option Value)} (a:W.nsIn K mainGlobals n=some (some (.ref f))) (l:K.lookup f=some ⟨oc,od,.func (W.fnOf n n (eO st) (cS st) (aA st) .none kV dc pm an cd ct),sl⟩)
  (c:W.codeIn K cd n=true) (k:W.keepIn K (.ref f)=true):Lk K n st f
structure Tx(K:W.Frag)(mg:Str->Option Value)(f:Addr)(n:Str)(st:Stmt)(ps:List Str):Prop where
 F:az K n n st f (dO K f)
 m:mg n=⇑(.ref f)
 k:W.keepIn K (.ref f)=true
 b:Binds K (dO K f) ps []
def vk(n:Str)(st:Stmt)(ps:List Str):Prop:=∀(kV v G:Value)(J:Option Addr)(F ct:Value)(us:List Value),us.length=ps.length->bindArgs (W.fnOf n n (eO st) (cS st) (aA st) .none kV v G J F ct) #[us,[]]=pure (ps.zip us)
section
variable{K:W.Frag}{st:Stmt}
def Lk.mm(t:Lk K n st f)(X:K.In h)(G:h.Ns mainGlobals mg):mg n=⇑(.ref f):=by let#[a,l,c,k]:=t;show W.mg_of X G a
def Lk.tx(t:Lk K n st f)(X:K.In h)(G:h.Ns mainGlobals mg)(b:vk n st ps:=by intro _ _ _ _ _ _ us v;first|(let#[_,rfl]:=CF (l:=us) v;rfl)|(let#[_,_,rfl]:=DI (l:=us) v;rfl)|(let#[_,_,_,rfl]:=DH (l:=us) v;rfl)|(let#[_,_,_,_,rfl]:=DG (l:=us) v;rfl)|(let#[_,_,_,_,_,rfl]:=FH (l:=us) v;rfl)|(let#[_,_,_,_,_,_,rfl]:=vlen6 (l:=us) v;rfl)):Tx K mg f n st ps:=by
 let#[a,l,c,k]:=t;let e:=JL l;let F:=Pd l c k;show#[?_,W.mg_of X G a,k,?_]
 .rw[e];show F
 .rw[e];show F.binds b
def Lk.bt(t:Lk K n st f)(s:Shared)(v:Value)(b:vk n st [x]:=by intro _ _ _ _ _ _ us F;let#[_,rfl]:=CF (l:=us) F;rfl):BindsTo s (dO K f) #[[v],[]] [(x,v)]:=by let#[a,l,c,k]:=t;let e:=JL l;rw[e];show .of_eq (b _ _ _ _ _ _ [v] rfl)
end
def AN{N P:List Str}{v:Scope}(a:autoParam (v.kind=.function) rZ9)(b:autoParam (v.isCoroutine=false) rZ9)(c:autoParam (v.isGenerator=false) rZ9)(d:N.Nodup:=by decide+kernel)(e:autoParam (N.take P.length=P) rZ9)(f:∀x∈P,v.names.lookup x=⇑.local\/v.names.lookup x=⇑.cell:=by decide+kernel)(g:∀y∈v.names,y.2≠.free:=by decide+kernel):aE N P v:=#[a,b,c,d,e,f,g]
abbrev fM(P:Program)(w:World)(K:W.Frag)(mg:Str->Option Value)(base:Heap)(af:Nat->Addr)(k i:Nat)(ps:List Str)(sp:Sp):Prop:=gB P w K mg base (jU P w) k (af i) (dO K (af i)) ps sp
def AO{K:W.Frag}{st:Stmt}(t:Tx K mg f x st ps)(Sc:aE N ps (aA st))
  (J:∀(F:Value)(A:Around)(v:List PySem.Env)(s:Shared)(H:Hp)(E:XK),bU k (A.deeper (envOfC x (aA st) s.heap.objs.size f F))->pO (fZ (jU P w) P w K mg base N x (aA st) f F A v s H E) ks (cS st) wb)(hn:autoParam (ps.length=n) rZ9)(G:autoParam (N.length=m) rZ9):
  gB P w K mg base (jU P w) (k+1) f (dO K f) ps (eF K (eU n m ks wb) n):=JC t.F Sc hn G J
section
theorem fw(i:Nat)(J:autoParam (X.N[i]?=⇑x) rZ9)(F:gu X.env.scope x:=by first|show Or.inl rfl|show Or.inr (Or.inl rfl)|show Or.inr (Or.inr rfl))(G:autoParam ((x==("__debug__":Str))=false) dZ9)
  (v:autoParam ((x==("__classdict__":Str))=false) dZ9):FE X (.Name x pos) (zG i):=QM J F G v
def Af(i:Nat)(v:X.N.Nodup)(G:autoParam (i∉ks) dZ9)(hi:autoParam (X.N[i]?=⇑x) rZ9)(F:Loc X.env.scope x:=by first|show Or.inl rfl|show Or.inr rfl)(L:X.fn x=true\/X.env.scope.names.lookup x=some .local:=by show Or.inl rfl):FG X ks (.Name x pos) (FL.zJ i):=Lh G (λj J=>EA v J hi) hi F L
def Bc(i:Nat)(G:autoParam (i∉ks) dZ9)(F:(X.N.zipIdx.all λp=>!(p.1==x)||p.2==i)=true:=by kernel_rfl)(hi:autoParam (X.N[i]?=⇑x) rZ9)(v:Loc X.env.scope x:=by first|show Or.inl rfl|show Or.inr rfl)(J:X.fn x=true\/X.env.scope.names.lookup x=some .local:=by first|show Or.inr rfl|show Or.inl rfl):FG X ks (.Name x pos) (FL.zJ i):=Lh G (uq F) hi v J
variable{st:Stmt}
def Ao(ms:List Bool)(t:Tx X.K X.mg f x st ps)(Fk:gB X.prog X.w X.K X.mg X.base (jU X.prog X.w) k f (dO X.K f) ps (eF X.K J n))(L:bU j X.A)(ha:FA X (e::es) wa)(M:autoParam (k<=j) dZ9)(Y:autoParam (Gl X x) rZ9)(v:∀ss P PX,J ss P PX->ss.length=n:=by show λ_ _ _ h=>h.1)
  (G:autoParam ((x==("__debug__":Str))=false) dZ9)(Z:autoParam (starEach (e::es) X.env=(false,eval e X.env)::starEach es X.env) rZ9)(F:autoParam ((backTo pos (starEach es X.env)).any (·.1)=false) rZ9):
  FE X (.Call (.Name x p) (e::es) [] pos) (zT J ms wa):=Rx Fk (L.mono M) Y t.m t.k t.b ha v G Z F
end
end FL
namespace FL
open Classical in
def fI(l:List D)(d:D):List D:=if d∈l then l else l++[d]
def cY(l:List D):List D:=l.foldl fI []
section
variable{ι κ:Type}[DecidableEq κ](g:ι->κ)
def dU(l:List ι)(i:ι):List ι:=if g i∈l.map g then l else l++[i]
def pI(l:List ι):List ι:=l.foldl (dU g) []
def SX{f:ι->D}(h:∀i j,f i=f j↔g i=g j)(l:List ι)(i:ι):fI (l.map f) (f i)=(dU g l i).map f:=by unfold fI dU;grind
def QL{f:ι->D}(h:∀i j,f i=f j↔g i=g j)(l:List ι):cY (l.map f)=(pI g l).map f:=by
 suffices ∀v:List ι,(l.map f).foldl fI (v.map f)=(l.foldl (dU g) v).map f from this []
 induction l with
 |nil=>show λ_=>rfl
 |cons i l F=>intro v;rw[qA,foldl_cons,SX g h];show F _
def Ti{l:List ι}{k:Nat}(h:k<l.length):pI g (l.take (k+1))=dU g (pI g (l.take k)) l[k]:=by unfold pI;rw[List.take_add_one,qh h,List.foldl_append];rfl
def Lg:∀{l v:List ι}{i:ι},i∈l.foldl (dU g) v->i∈v\/i∈l
 |[],_,_,h=>.inl h
 |j::l,v,i,h=>by
  rw[foldl_cons]at h;rcases Lg h with z|z
  .unfold dU at z;split at z
   .show .inl z
   .rcases qz.mp z with z|z
    .show .inl z
    .show .inr (qC.mpr (.inl (qv.mp z)))
  .show .inr (qk _ z)
def Ib:∀(l v:List ι),(l.foldl (dU g) v).length<=v.length+l.length
 |[],_=>zm _
 |j::l,v=>by
  rw[foldl_cons];let h1:=Ib l (dU g v j);let h2:(dU g v j).length<=v.length+1:=by
   unfold dU;split
   .lia
   .rw[qq];show zm _
  rw[qt];lia
end
def RU:x∈fI l d↔x∈l\/x=d:=by
 unfold fI;split
 .rename_i h;show#[.inl,λz=>z.elim id λe=>e▸h]
 .rw[qz,qv]
theorem zfD:x∈cY l↔x∈l:=by
 suffices ∀v:List D,x∈l.foldl fI v↔x∈v\/x∈l from(this []).trans (by simp)
 induction l with
 |nil=>show λ_=>by simp
 |cons i l F=>intro v;rw[foldl_cons,F,RU,qC,or_assoc]
def VT(h:l.Nodup):(fI l d).Nodup:=by
 unfold fI;split
 .show h
 .rename_i z;show qx.mpr #[h,by simp,λa F b v=>by rw[qv.mp v];show λe=>z (e▸F)]
def Wo(l:List D):(cY l).Nodup:=by
 suffices ∀v:List D,v.Nodup->(l.foldl fI v).Nodup from this [] .nil
 induction l with
 |nil=>show λ_ h=>h
 |cons i l F=>show λv h=>F _ (VT h)
def Sm(l:List D)(d:D):(fI l d).length<=l.length+1:=by
 unfold fI;split
 .lia
 .rw[qq];show zm _
def SQ(l:List D):(cY l).length<=l.length:=by
 unfold cY
 suffices ∀v:List D,(l.foldl fI v).length<=v.length+l.length by simpa using this []
 induction l with
 |nil=>show λ_=>zm _
 |cons i l F=>grind[foldl_cons,length_cons,fI,Sm]
end FL
namespace FL
open PySem PySem.Spec PyProof.Rows L2
def QS(h:zP (kV k) u):u.scannable=true:=by
 cases k with
 |inl i=>let#[t,rfl]:=h;rfl
 |inr x=>let#[t,rfl]:=h;rfl
def Ug(I:Inv X z4 σ H s)(e:H a=⇑(.set vs)):s.TypeIs (.ref a) "set":=by
 rcases I.hok a _ e with⟨_,⟨_,h1⟩|⟨_,_,_,o,_,_,_,h1,h2,_⟩|⟨_,_,_,_,o,_,_,_,h1,h2,_⟩⟩
 .show#[_,h1,rfl]
 .show#[o,h1,h2.1]
 .show#[o,h1,h2.1]
section
variable(X:Cx)(s:Shared)
@[inline]def JK(ks:List bV)(i:Nat)(h:Heap):Prop:=(∀b o,s.heap.get? b=some o->h.get? b=some o)/\∃xs:List (bV×Value),(pI id (ks.take i)).Perm (xs.map (·.1))/\ST.VSet (ST.ldOf X.w) (aL X.prog X.w) h s.heap.objs.size xs/\(i=0->h.get? s.heap.objs.size=some (ST.freshSet (ST.ldOf X.w)))
def JK.stay{ks:List bV}{i:Nat}{h h':Heap}(x:JK X s ks i h)(v:∀b o,b≠s.heap.objs.size+1->h.get? b=⇑o->h'.get? b=⇑o):JK X s ks i h':=by let#[k,xs,p,#[o,es,ep,t,J,r],z]:=x;let F:s.heap.objs.size≠s.heap.objs.size+1:=ne_of_lt (lt_succ_self _);show#[λb o e=>v b o (ne_of_lt (lt_succ_of_lt (ST.lt_of_get e))) (k b o e),xs,p,#[o,es,ep,t,v _ _ F J,r],λG=>v _ _ F (z G)]
end
def Pf:bootBuiltins "set"=⇑(.type "set"):=by decide+kernel
section
variable{K:W.Frag}
def zY.of_all{ι:Type}{v:ι->V}{G:ι->D}:∀{l:List ι},(∀i∈l,aR K F (v i) (G i))->zY K F (l.map v) (l.map G)
 |[],_=>.nil
 |i::l,h=>.cons (h i qm) (zY.of_all λj J=>h j (qk _ J))
def Rel.newS{p:Addr}(v:Rel K U σ F G H)(J:H p=none)(r:zY K F vs l):Rel K (U++[⇑(.set l)]) (σ++[⇑(.ref p)]) F G (upd H p (.set vs)):=v.newO J (.st AV r)
def bJ.set(r:bJ K F H v (.set l)):∃a xs,v=.ref a/\F a=⇑(.set xs)/\zY K F xs l:=by
 rcases r with r|⟨_,_,_,_,e,_⟩|⟨_,_,_,_,_,e,_⟩|⟨_,_,_,_,_,e,_⟩
 .cases r with
  |st e r=>show#[_,_,rfl,e,r]
 .cases e
 .cases e
 .cases e
end
def Inv.laidD(I:Inv X z4 σ H s)(hn:∀m,s.heap.Ns X.env.locals m->h'.Ns X.env.locals m)(k:∀b u,b≠X.env.locals->s.heap.get? b=⇑u->h'.get? b=⇑u)
  (M:s.heap.get? a=none)(new:zZ X.prog X.w (upd H a o) h' a o):Inv X z4 σ (upd H a o) {s with heap:=h',toks:=t',drawn:=d'}:=by
 have G:H a=none:=by
  cases e:H a with
  |none=>rfl
  |some u=>let#[v,z]:=zZ.there (I.hok a u e);rw[M]at z;cases z
 refine I.step (g':=s.gens) (d':=d') (ch:=[]) (λ_ z=>nomatch z) (λb F L _ _ e _=>k b F L e) (λb F L _ _ e _=>#[F.slots,k b F L e]) (λb F _ e n=>by rw[Al (λz=>by rw[z,M]at e;cases e)];show n)
  (λb F _ e=>?_) (λb xs q=>by rw[Al (BF q G)];show q) (λb u xs q=>by rw[Al (BF q G)];show q) (λb ps q=>#[#[],by rw[Al (BF q G),q];simp]) hn (λb F e=>?_) I.bare
 .by_cases J:b=X.env.locals
  .obtain⟨m,x,_⟩:=I.loc;let#[o',_,_,Z,_]:=hn m x;show#[o',by rw[J];show Z]
  .show#[F,k b F J e]
 .by_cases J:b=a
  .grind[AV]
  .rw[Al J]at e;show(I.hok b F e).stay (λc v Y q=>k c v (λz=>?_) q) (λc q=>by rw[Al (BF q G)];show q) λc xs q=>by rw[Al (BF q G)];exact q
   rw[z]at Y;rcases Y with r|r
   .rw[<-r,I.free]at e;cases e
   .rw[I.free]at r;cases r
def Ri(h:gQ k v=true):zP (kV k) v:=by
 rcases Di h with⟨i,t,rfl,rfl⟩|⟨x,t,rfl,rfl⟩
 .show#[t,rfl]
 .show#[t,rfl]
def ib(X:Cx)(s:Shared)(a:Addr)(vs:List V):Prop:=∃es ep t us,ST.SetAt s.heap a es ep t/\ST.Rising t.place/\t.place.size=es.size/\(X.w.params.followText "set-order"=false->t.led=true)/\us.Perm vs/\zX us (es.toList.map (·.2))/\es.size=vs.length
def SY{ι β:Type}{f:ι->β}{us:List β}{ns:List ι}(p:us.Perm (ns.map f)):∃ms:List ι,us=ms.map f/\ms.Perm ns:=by
 induction us generalizing ns with
 |nil=>simp_all
 |cons u us G=>let#[n,J,rfl]:=qN.mp (p.mem_iff.mp qm);let#[F,v,rfl]:=List.append_of_mem J;rw[map_append]at p;let#[ms,rfl,q]:=G (ns:=F++v) (by rw[map_append];show(p.trans perm_middle).cons_inv);show#[n::ms,rfl,(List.Perm.cons n q).trans perm_middle.symm]
end FL
namespace FL
def mP:D->Option (List D)
 |.tup l=>⇑l.reverse
 |_=>none
def nS(a:WE):WI:=λU Q E=>a U (λr v=>zK (give r v) λp=>zK (mP p.1.toD) λl=>Q l p.2) E
end FL
namespace FL
open PySem PySem.Spec PyProof.Rows L2
def sv(K:W.Frag)(a:Addr)(n:Nat):It:=#[λi H=>∃xs x,bF K H a xs/\xs.length=n/\xs.reverse[i]?=⇑x,λi H x H'=>H'=H/\∀ys,bF K H a ys->ys.reverse[i]?=⇑x,λi _=>n<=i]
def UR{P:Program}{w:World}{K:W.Frag}{tg:Expr}(a it:Addr)(n:Nat)(hn:n<=sizeLine):gV P w K tg (sv K a n) [it] it (λi h=>i<=n/\cP h it a ((n:Int)-1-(i:Int))) where
 mem:=by simp
 obj:=λi h st b hb=>by
  let e:b=it:=↑hb
  subst e;let#[_,o,e,c,d]:=st;show#[o,e,λv z=>by rw[d]at z;cases z]
 keep:=λi h h' st k=>#[st.1,st.2.at λo e=>k it (by simp) o e]
 item:=by
  intro X hP hw hK hc i z4 s σ H E I hf st hg;subst hP hw hK;let#[xs,x,hq,rfl,hx]:=hg;let hi:i<xs.length:=by let:=(qg.mp hx).1;simpa using this
  let#[z8,rv,p,hz]:=I.tuple hq;let#[u,hu,ru]:=rv.get (show xs[xs.length-1-i]?=⇑x by rw[<-List.getElem?_reverse hi];show hx);let#[f0,f1,f2,f3,f4,f5]:=hf it (by simp);let hit:=st.2;rw[show(xs.length:Int)-1-(i:Int)=((xs.length-1-i:Nat):Int) by lia]at hit;let hl:=rv.length;show Uh hit p (x:=u) ↑hu (by rw[qr];rw[zv]at hz;lia) λh' tk st' kk=>?_;let I1:Inv X z4 σ H {s with heap:=h',toks:=tk}:=I.turned (λb o hb e=>kk.extBut b o hb e) f0 f1 f3 f4 f5;rw[show((xs.length-1-i:Nat):Int)-1=(xs.length:Int)-1-((i+1:Nat):Int) by lia]at st';let#[o,e,cl,d]:=id st';show#[u,rfl,EH (s:={s with heap:=h',toks:=tk}) e cl d ⋯ #[x,H,I1,ru,#[rfl,λys hy=>by rw[I.tuple_inj hy hq];show hx],#[hi,st'],λb hb=>(hf b hb).1]]
 done:=by intro X hP hw hK hc i z4 s σ H E I hf st hg;let#[f0,f1,f2,f3,f4,f5]:=hf it (by simp);let hg':n<=i:=hg;let hit:=st.2;rw[show(n:Int)-1-(i:Int)=-1 by lia]at hit;show Sb (I.ok.hd hc) hit λh' eb=>#[rfl,I.turned (t':=s.toks) (λb o hb e=>eb b o hb e) f0 f1 f3 f4 f5]
 self:=λA i s Q E st h=>Mx st.2 h
section
variable{K:W.Frag}
def fz(K:W.Frag)(ta:TA):TI:=λσ H R=>ta σ H λv H1=>∃a xs,v=[.ref a]/\bF K H1 a xs/\R (sv K a xs.length) H1
def QV(hg:Gl X "reversed")(hm:X.mg "reversed"=none)(ha:PA X [a] ta)(hs:autoParam (starEach [a] X.env=[(false,eval a X.env)]) rZ9):PI X tg (.Call (.Name "reversed" p) [a] [] pos) (fz X.K ta):=by
 intro z4 s σ H R I h;show Call_ (BU I hg hm Jl (PyProof.Rows.callWith_type1 (Aj (ha pos z4 s σ H _ I h) λus G M=>?_) hs rfl));let#[vs,H1,J,r1,q1]:=M;let#[t,xs,rfl,hq,q]:=q1;let#[u,rfl,Y]:=vals1 r1;cases Y;let#[v,Z,pt,L]:=J.tuple hq;let F:v.toArray.size=xs.length:=by rw[qr,Z.length]
 show Vb pt (by rw[F];rw[zv]at L;lia) ?_;let st:cP (G.heap.push (rX t ((v.toArray.size:Int)-1))) G.heap.objs.size t ((v.toArray.size:Int)-1):=#[_,qd _ rfl,rfl,rfl]
 show Mx st ?_;show#[G.heap.objs.size,[G.heap.objs.size],_,_,H1,rfl,J.kept (t':=G.toks+1+1) λb o e=>qc _ e,UR t _ xs.length L,#[zero_le _,by rw[F]at st;show cP _ _ t ((xs.length:Int)-1-((0:Nat):Int));rw[Int.natCast_zero,Int.sub_zero,F];show st],λb hb=>?_,q];let e:b=G.heap.objs.size:=↑hb
 subst e;show J.fpOk (zm _) (J.hok.fresh (zm _))
def SG(e:bF K F0 a xs)(r:zY K F0 xs l):dW K (sv K a xs.length) l.reverse F0:=λi U σ F G H L v=>by let Y:bF K H a xs:=bF.mono (L.trans v.fr) e;show#[λd hd=>?_,λh=>by show xs.length<=i;rw[r.len];simpa using h];let#[x,M,Z]:=r.rev.get hd;show#[#[xs,x,Y,rfl,M],λy H' J=>?_];let#[rfl,J]:=J;let:x=y:=qf (M.symm.trans (J xs Y));subst this;show#[F,zL.refl F,v,Z.mono L]
def Qd(hg:Gl X "reversed")(hm:X.mg "reversed"=none)(ha:FE X a we)(hs:autoParam (starEach [a] X.env=[(false,eval a X.env)]) rZ9):FI X tg (.Call (.Name "reversed" p) [a] [] pos) (nS we):=λpn xe hp=>by
 show PI.imp (QV (X:=wp X pn xe) hg hm (Aa ha Ab hs pn xe hp) hs) λσ H R q=>?_;let#[F,G,U,P,PX,h1,hw,h2,hx]:=q;show#[F,G,U,λrs Z=>match rs with|[r]=>(zK (give r Z) λp=>zK (mP p.1.toD) λl=>P l p.2)|_=>False,PX,h1,hw,λrs Z vs F1 H1 J s1 r1 hl L=>?_,hx];match rs,vs,L,r1,J with
 |[r],[v],L,r1,J=>
  let#[#[s,Y],eg,J]:=Ai J;let#[l,el,J]:=Ai J;let#[F2,s2,l2,r2]:=Ar (U':=[]) (σ':=[]) r1 hl L.1 eg;let#[F3,s3,rp,r3]:=Rel.giveD (U:=Y) (vs:=[v]) (ss:=[s]) r2 (Ag r2);let sm:=s1.trans (s2.trans s3);cases rp with
  |cons a b=>
   let M:mP s.toD=⇑l:=el;generalize s.toD=d at a M;cases a with
   |tup e r=>have:l=_:=(qf M).symm;subst this;show#[_,_,rfl,bF.of (r3.fr _ _ e),h2 _ Y F3 H1 _ J sm r3 (SG (bF.of e) r)]
   |_=>cases M
 |[],_,_,_,J=>show J.elim
 |[_],[],L,_,_=>show L.elim
 |[_],_::_::_,L,_,_=>show L.2.elim
 |_::_::_,_,_,_,J=>show J.elim
end
end FL
namespace FL
def jN:List D->Option S
 |[.str l]=>if l.length<=150 then ⇑(.set (cY (l.map λc=>.str [c])))else none
 |_=>none
def jM:List D->Option S
 |[.set l]=>if(bY l).isSome/\l.length<64 then ⇑(.lst ((bQ l).map .sh))else none
 |_=>none
end FL
namespace FL
open PySem PySem.Spec PyProof.Rows L2
theorem Up(hh:A.handled=none)(hu:A.units+20<cLine)(I:Inv X z4 σ H s)(hT:s.TypeIs x T)(h2:isSubtype (.type T) (.type "set")=pure false)(Z:isSubtype (.type T) (.type "frozenset")=pure false)(h3:(Value.type T==Value.type "dict")=false)
  (W:ST.WalkOk X.prog X.w s x n P)(hl:n=ks.length)(hP:∀i v(hi:i<ks.length),P i v->zP (kV ks[i]) v)(hz:ks.length<=150)
  (h:∀s',Inv X z4 σ (upd H s.heap.objs.size (.set ((pI id ks).map kV))) s'->Q (.ref s.heap.objs.size) s'):wpAny (model X.prog X.w) A (call (.type "set") [x]) Q E s:=by
 refine ST.call_set (B:=A.units+20) (J:=JK X s ks) hh hT h2 Z h3 W (λh e k=>#[k,[],.refl _,ST.vset_new e,λ_=>e]) (λi h h' hi x hk=>JK.stay X s x hk)
  (λA i v s' Q E hi h5⟨M,xs,p,S,z⟩ hQ hA=>?_) (zm _) λh' tk⟨M,xs,p,S,z⟩ _ ht=>h _ ?_
 .rw[hl]at hi;let ru:=hP i v hi h5;let h4:xs.length<=150:=by let h1:=p.length_eq;grind[Ib,length_map,pI,dU,length_take,length_nil]
  let Y:∀{h':Heap},Heap.SameBut s.heap.objs.size s'.heap h'->∀b o,s.heap.get? b=⇑o->h'.get? b=⇑o:=λL b o e=>(L.2 b (ne_of_lt (ST.lt_of_get e))).trans (M b o e);let G:=Ti (id:bV->bV) hi;show ST.setAddV (Dw ru) (QS ru) S h4 (λhm r=>hQ s'.heap _ r (le_succ _) (Heap.SameBut.refl _ _) #[M,xs,?_,S,λz=>nomatch z]) λhm h' ys L pm S' r=>hQ h' _ r (le_succ _) L #[Y L,ys,?_,S',λz=>nomatch z]
  .rw[G];unfold dU;grind
  .rw[G];unfold dU;rw[map_id,zk (show¬id ks[i]∈pI id (ks.take i) from λz=>hm (p.mem_iff.mp z))];show(qQ.trans (List.Perm.cons _ p)).trans (pm.map (·.1)).symm
 .rw[hl,List.take_length]at p;refine I.laid (t':=tk) M (zm _) #[?_,?_]
  .grind[length_map,Ib,pI,dU,length_nil]
  .cases ks with
   |nil=>show .inl #[rfl,z hl]
   |cons y ks=>
    show .inr (.inl #[λe=>?_,xs,?_,S])
    .have h1:∀(l F:List bV),F≠[]->l.foldl (dU id) F≠[]:=λl=>by
      induction l with
      |nil=>show λ_ h=>h
      |cons i l ih=>
       show λF h=>ih _ ?_;unfold dU;split
       .show h
       .simp
     show h1 ks (dU id [] y) (by unfold dU;simp) (List.map_eq_nil_iff.mp e)
    .let:=p.map kV;rw[qH]at this;show this
section
variable{K:W.Frag}
def tO:List V->Hp->VK->Prop:=λxs H Q=>∃x:Str,xs=[.str x]/\x.cps.size<=150/\∀p,H p=none->Q (.ref p) (upd H p (.set ((pI id (x.cps.toList.map λc=>(Sum.inr #[[c].toArray]:bV))).map kV)))
def Wl:isSubtype (.type "str") (.type "set")=pure false:=by rw[isSubtype_type];kernel_rfl
def Wk:isSubtype (.type "str") (.type "frozenset")=pure false:=by rw[isSubtype_type];kernel_rfl
def Vk(F:bU k X.A):aU X (.type "set") tO:=by
 intro z4 s σ H xs us Q I r h;let#[x,rfl,J,q]:=h;let L:X.A.units+20<cLine:=by let:=F.units;lia
 let#[u,rfl,G]:=vals1 r;let#[t,rfl]:=G;show Up (T:="str") (ks:=x.cps.toList.map λc=>(Sum.inr #[[c].toArray]:bV)) F.hd L I rfl Wl Wk ⋯ (ST.walk_str x t) (by simp) (λi v hi Y=>?_) ↑J λs' Z=>#[.ref _,_,Z,rfl,q _ I.fresh]
 let#[c,u,M,rfl]:=Y;let:x.cps.toList[i]?=⇑c:=by rw[zc];show M
 rw[List.getElem_map,(qg.mp this).2];show#[u,rfl]
def Uu:cO K tO jN:=by
 intro σ U F G H vs ds s Q J L e M;let#[d,v,rfl,rfl]:=AS (λx y r=>by cases x<;>rfl) rfl L e;cases d with
 |str l=>
  let e:(if l.length<=150 then ⇑(S.set (cY (l.map λc=>.str [c])))else none)=⇑s:=e;split at e
  .rename_i Z;cases e;let#[x,rfl,e1,z]:=L.1.str;subst e1;show#[x,rfl,Z,λp Y=>?_];let e2:(x.cps.toList.map λc=>D.str [c])=(x.cps.toList.map λc=>(Sum.inr #[[c].toArray]:bV)).map aZ:=by rw[qH];rfl
   rw[e2,QL id (f:=aZ) λi j=>#[EC,λz=>by rw[show i=j from z]]]at M;show M _ F _ (zL.refl F) (J.newS Y (zY.of_all λi hi=>?_));rcases Lg id hi with z|z
   .cases z
   .obtain⟨c,_,rfl⟩:=qN.mp z;show .str rfl (by show 1<=16777216;decide)
  .cases e
 |_=>cases e
def Qv(G:bU k X.A)(L:Gl X "set")(J:X.mg "set"=none)(F:bootBuiltins "set"=⇑(.type "set"))(Y:FA X (e::es) wa)(M:autoParam (starEach (e::es) X.env=(false,eval e X.env)::starEach es X.env) rZ9)(v:autoParam ((backTo pos (starEach es X.env)).any (·.1)=false) rZ9):FE X (.Call (.Name "set" p) (e::es) [] pos) (wB jN wa):=
 GM (λpn xe=>Vk (X:=wp X pn xe) G) Uu L J F Y ⋯ ⋯ M v
end
def Ro{ns:List Str}(I:Inv X z4 σ H s)(e:H a=⇑(.set (ns.map V.str))):ib X s a (ns.map V.str):=by
 let led:∀{t:SetTable},t.led=ST.ldOf X.w->X.w.params.followText "set-order"=false->t.led=true:=λe h=>by rw[e];unfold ST.ldOf;rw[h];rfl
 have J:∀{xs:List (bV×Value)},ST.VSet (ST.ldOf X.w) (aL X.prog X.w) s.heap a xs->(ns.map V.str).Perm (xs.map λp=>kV p.1)->ib X s a (ns.map V.str):=λ{xs} S p=>by
  let#[es,ep,t,h1,h2,h3,h4,G]:=S.at;let v:∀p∈xs,(aL X.prog X.w).is p.1 p.2=true/\p.2.scannable=true:=let⟨_,_,_,_,_,_,_,_,_,v,_⟩:=S;v
  have M:zX (xs.map λp=>kV p.1) (es.toList.map (·.2)):=by
   rw[G]
   clear G p S
   induction xs with
   |nil=>show .nil
   |cons x xs L=>show .cons (Ri (v x qm).1) (L λq Y=>v q (qk _ Y))
  let Z:es.size=(ns.map V.str).length:=by let:=congrArg List.length G;rw[qo,qo,qY]at this;rw[p.length_eq,qo,this]
  show#[es,ep,t,_,h1,h2,h3,led h4,p.symm,M,Z]
 rcases I.hok a _ e with⟨hz,⟨h0,h1⟩|⟨_,xs,p,S⟩|⟨F,xs,p,hx,S⟩⟩
 .show J (xs:=[]) (ST.vset_new h1) (by rw[h0];show .refl _)
 .show J S p
 .cases ns with
  |nil=>show(F rfl).elim
  |cons n ns=>grind[mem_map,mem_cons_self]
section
variable{K:W.Frag}
def tN:List V->Hp->VK->Prop:=λxs H Q=>∃a,∃ns:List Str,xs=[.ref a]/\H a=⇑(.set (ns.map V.str))/\ns.length<64/\∀v:List Str,v.Perm ns->sortedS v=true->∀q,H q=none->Q (.ref q) (upd H q (.lst (v.map V.str)))
def SI(hh:X.A.handled=none):aU X (.builtin "sorted") tN:=by
 intro z4 s σ H xs Z Q I r h;let#[a,ns,rfl,M,h5,q]:=h;cases r with
 |cons r1 r2=>
  cases r2;cases r1;let#[es,ep,t,Z,h1,h2,h3,h4,pu,hv,hl]:=Ro I M;let#[ms,rfl,L]:=SY pu;rw[qo]at hl;show ST.sorted_set_strs hh (Ug I M) h1 h2 h3 h4 ∅ (Fw hv) λs2 D J e F a1 a2 a3 hD G Y hg ho ht=>?_;let#[h2,g2,d2,t2,o2]:=s2;subst hg ho;show#[.ref D,_,Inv.laidD (s:=s) (t':=t2) (d':=d2) (o:=.lst (F.map V.str)) I (λm x=>x.at' λo e=>Y _ o e) (λb u _ e=>Y b u e) G ?_,rfl,q F (a2.trans L) a3 D ?_]
  .show#[by rw[qo,a2.length_eq,L.length_eq,zv];lia,J.toList,e,IS a1,by rw[toArray_toList];show hD]
  .cases e:H D with
   |none=>rfl
   |some u=>let#[v,z]:=zZ.there (I.hok D u e);rw[G]at z;cases z
def Uv:cO K tN jM:=by
 intro σ U F G H vs ds s Q L Y e hq;let#[d,v,rfl,rfl]:=AS (λx y r=>by cases x<;>rfl) rfl Y e;cases d with
 |set l=>
  let e:(if(bY l).isSome/\l.length<64 then ⇑(S.lst ((bQ l).map .sh))else none)=⇑s:=e;split at e
  .rename_i hc;cases e;let#[a,xs,rfl,h1,Z]:=bJ.set Y.1;let#[ys,q2]:=isSome_iff_exists.mp hc.1;let#[M,e1,e2]:=Gz Z q2;subst e1;let#[e3,sm]:=IX Z rfl;subst e3;show#[a,M,rfl,L.fr _ _ h1,↑hc.2,λJ p pw q hn=>?_];let es:bQ (M.map λz=>D.str z.cps.toList)=J.map λz=>D.str z.cps.toList:=EB GJ (λd hd=>by let#[z,_,rfl]:=qN.mp hd;trivial) (p.map _) (Nm J pw);rw[es]at hq;show hq _ F _ (zL.refl F) (L.newLD hn (IM J λz hz=>sm z (p.mem_iff.mp hz)))
  .cases e
 |_=>cases e
def RA(G:bU k X.A)(L:Gl X "sorted")(J:X.mg "sorted"=none)(F:bootBuiltins "sorted"=⇑(.builtin "sorted"))(Y:FA X (e::es) wa)(M:autoParam (starEach (e::es) X.env=(false,eval e X.env)::starEach es X.env) rZ9)(v:autoParam ((backTo pos (starEach es X.env)).any (·.1)=false) rZ9):FE X (.Call (.Name "sorted" p) (e::es) [] pos) (wB jM wa):=
 DY (λpn xe=>SI (X:=wp X pn xe) G.hd) Uv L J F Y ⋯ ⋯ M v
end
end FL
namespace FL
mutual
def sC:D->D->Bool
 |.int _,.int _=>true
 |.tup l,.tup m=>fV l m
 |_,_=>false
def fV:List D->List D->Bool
 |a::l,b::m=>sC a b&&fV l m
 |_,_=>true
end
end FL
namespace FL
open PySem PySem.Spec PyProof.Rows L2
open PySem.SeqAt AutoSeq1
def gm:jA (.int i) (.int j)=if i<j then .lt else if j<i then .gt else .eq:=rfl
mutual
theorem Tq:∀(d:D),sC d d=true->jA d d=.eq
 |.int i,_=>by rw[gm,zk (Int.lt_irrefl i),zk (Int.lt_irrefl i)]
 |.tup l,h=>MJ l h
 |.non,h|.bl _,h|.str _,h|.lst _,h|.dct ..,h|.set _,h|.exc ..,h=>by cases h
theorem MJ:∀(l:List D),fV l l=true->cN l l=.eq
 |[],_=>by rw[cN]
 |d::l,h=>by rw[fV,and_eq_true]at h;rw[cN,Tq d h.1];show MJ l h.2
end
mutual
theorem OU:∀(d e:D),sC d e=true->jA d e=.eq->d=e
 |.int i,e,h,c=>by
  cases e with
  |int j=>
   rw[gm]at c;split at c
   .cases c
   .split at c
    .cases c
    .rw[show i=j by lia]
  |_=>cases h
 |.tup l,e,h,c=>by
  cases e with
  |tup m=>rw[KI l m h c]
  |_=>cases h
 |.non,_,h,_|.bl _,_,h,_|.str _,_,h,_|.lst _,_,h,_|.dct ..,_,h,_|.set _,_,h,_|.exc ..,_,h,_=>by cases h
theorem KI:∀(l m:List D),fV l m=true->cN l m=.eq->l=m
 |[],[],_,_=>rfl
 |[],_::_,_,c=>by rw[cN]at c;cases c
 |_::_,[],_,c=>by rw[cN]at c;cases c
 |d::l,e::m,h,c=>by
  rw[fV,and_eq_true]at h;rw[cN]at c;cases q:jA d e with
  |eq=>rw[q]at c;rw[OU d e h.1 q,KI l m h.2 c]
  |lt=>rw[q]at c;cases c
  |gt=>rw[q]at c;cases c
end
mutual
theorem VX:∀(d e:D),sC d e=true->aY d e=false
 |.int i,e,h=>by cases e<;>first|rfl|cases h
 |.tup l,e,h=>by
  cases e with
  |tup m=>show NP l m h
  |_=>cases h
 |.non,_,h|.bl _,_,h|.str _,_,h|.lst _,_,h|.dct ..,_,h|.set _,_,h|.exc ..,_,h=>by cases h
theorem NP:∀(l m:List D),fV l m=true->bI l m=false
 |[],[],_=>rfl
 |[],_::_,_=>rfl
 |_::_,[],_=>rfl
 |d::l,e::m,h=>by rw[fV,and_eq_true]at h;show(aY d e||bI l m)=false;rw[VX d e h.1,NP l m h.2];rfl
end
end FL
namespace FL
def bW:List D->List D->List D->List D
 |d::l,e::m,f::n=>.tup [d,e,f]::bW l m n
 |_,_,_=>[]
def nR(a b c:WE):WI:=λU Q E=>a U (λr G=>b G (λt F=>c F (λu v=>zK (give r v) λp=>zK (give t p.2) λq=>zK (give u q.2) λz=>zK (items p.1.toD) λl=>zK (items q.1.toD) λm=>zK (items z.1.toD) λn=>min l.length m.length<=n.length/\Q (bW l m n) z.2) E) E) E
def MA:∀(l m n:List D)(i:Nat)(d:D),(bW l m n)[i]?=⇑d->∃e f g,l[i]?=⇑e/\m[i]?=⇑f/\n[i]?=⇑g/\d=.tup [e,f,g]
 |e::l,f::m,g::n,0,d,h=>by simp[bW]at h;show#[e,f,g,rfl,rfl,rfl,h.symm]
 |e::l,f::m,g::n,i+1,d,h=>by let#[L,J,G,h1,h2,F,v]:=MA l m n i d (by simpa[bW] using h);show#[L,J,G,↑h1,↑h2,↑F,v]
 |[],_,_,_,_,h=>by simp[bW]at h
 |_::_,[],_,_,_,h=>by simp[bW]at h
 |_::_,_::_,[],_,_,h=>by simp[bW]at h
def Mr:∀(l m n:List D),min l.length m.length<=n.length->(bW l m n).length=min l.length m.length
 |[],m,n,_=>by simp[bW]
 |_::l,[],n,_=>by simp[bW]
 |_::l,_::m,[],h=>by simp at h
 |_::l,_::m,_::n,h=>by let:=Mr l m n (by simp at h;lia);simp[bW,this]
def gF(j:Nat):WE:=λU Q _=>match slot U j with
 |some (.lst l)=>Q (.v (.sh .non)) (U.set j ⇑(.lst l.reverse))
 |_=>False
def gI(a:WE):WE:=λU Q E=>a U (λr v=>zK (zW r v) λd=>match d with
 |.lst l=>l.length<=big/\Q (.v (.lst (l.reverse.map .sh))) v
 |_=>False) E
def gJ(o a:WE):WE:=λU Q E=>o U (λx F=>match x with
 |.v (.sh (.str z))=>a F (λr v=>zK (zW r v) λd=>match d with
  |.lst l=>zK (fW z l.reverse) λs=>l.length<=big/\Q (.v s) v
  |_=>False) E
 |_=>False) E
end FL
namespace FL
open PySem PySem.Spec PyProof.Rows L2
structure va(z TI TO i1 i2 i3:Addr)(f1 f2 f3:List Addr):Prop where
 p:jo z TI TO i1 i2 f1 f2
 a6:TI≠i3
 m3:i3∈f3
 z3:z∉f3
 o3:TO∉f3
 c3:i1∉f3
 c4:i2∉f3
 c5:i3∉f1
 c6:i3∉f2
abbrev bR(h:Heap)(T:Addr)(a b c:Value):Prop:=h.get? T=some {cls:=.type "tuple",data:=.seq [a,b,c].toArray}
def Gw{T:Addr}{a b c x:Value}{k:Nat}{Q:Unit->Shared->Prop}(v:bR s.heap T a b c)
  (h:∀h',h'.get? T=some {cls:=.type "tuple",data:=.seq (([a,b,c].toArray:Array Value).setIfInBounds k x)}->Heap.SameBut T s.heap h'->Q () {s with heap:=h'}):
  wpAny (model prog w) A (updateSeq T (·.setIfInBounds k x)) Q E s:=by
 show wpAny_updateSeq v rfl (h _ ?_ (Heap.SameBut.update ..));rw[zp _ v rfl];simp[Obj.mapSeq]
section
variable{z TI TO i1 i2 i3:Addr}
def Ru{Q:zF}(J:va z TI TO i1 i2 i3 f1 f2 f3)(D1:Draws prog w A i1 f1 n1 P1 S1)(D2:Draws prog w A i2 f2 n2 P2 S2)(D3:Draws prog w A i3 f3 n3 P3 S3)
  (hz:IsZip s.heap z TI TO .none)(hI:bR s.heap TI (.ref i1) (.ref i2) (.ref i3))(hO:bR s.heap TO a b c)(t1:S1 k1 s.heap)(t2:S2 k2 s.heap)(t3:S3 k3 s.heap)(l1:k1<n1)(l2:k2<n2)(l3:k3<n3)
  (k:∀x y u h' tk,P1 k1 x->P2 k2 y->P3 k3 u->IsZip h' z TI TO (rawInt s.heap.objs.size)->(∃c d e,bR h' TO c d e)->S1 (k1+1) h'->S2 (k2+1) h'->S3 (k3+1) h'->bR h' s.heap.objs.size x y u->
   (∀c o,c≠z->c≠TO->c≠i1->c≠i2->c≠i3->s.heap.get? c=⇑o->h'.get? c=⇑o)->Q (.ref s.heap.objs.size) {s with heap:=h',toks:=tk}):
  wpAny (model prog w) A (Builtin.«zip.__next__» #[[.ref z],[]]) (λfin s'=>∃v,fin=.done (.ret v)/\Q v s') E s:=by
 let Z:=J.p;let i1z:=Ap Z.m1 Z.z1;let r3:=Ap J.m3 J.z3;let s1:=Ap J.m3 J.o3;let s2:=Ap Z.m2 Z.z2;let i1o:=Ap Z.m1 Z.o1;let i2o:=Ap Z.m2 Z.o2;show wpAny _ _ (field (.ref z) 2>>=_) _ _ _;apply qa;show zr hz rfl (x:=.bool false) rfl ?_;apply qa;show zr hz rfl (x:=.ref TI) rfl ?_;apply qa;show wpAny_seqItems hI rfl ?_;apply qa;apply qa;show zr hz rfl (x:=.none) rfl (qb ?_);apply qa;apply wpAny_rule;apply qa;show zr hz rfl (x:=.ref TO) rfl ?_;apply qa;show zw hz (by simp) λha za sa=>?_;let e2:IsZip ha z TI TO .ellipsis:=za;apply qa;apply qa;apply qa;apply wpAny_onRaise;apply qa;let r1:S1 k1 ha:=D1.frame _ _ _ t1 λc M o q=>sa.extBut _ _ (Ap M Z.z1) q;let hm:S2 k2 ha:=D2.frame _ _ _ t2 λc M o q=>sa.extBut _ _ (Ap M Z.z2) q;let hx:S3 k3 ha:=D3.frame _ _ _ t3 λc M o q=>sa.extBut _ _ (Ap M J.z3) q;show D1.item k1 _ _ _ l1 r1 λx hb tb px hq sb=>qb ?_;let h9:bR hb TO a b c:=sb.extBut _ _ (Ne.symm i1o) (sa.extBut _ _ Z.a2 hO);apply qa;show wpAny_seqItems h9 rfl ?_;apply qa;show Gw h9 λM hOc sc=>?_;let h8:bR M TO x b c:=hOc;show qa (wpAny_letGo (qb ?_));apply qa;apply qa;apply wpAny_onRaise;apply qa;let hl:S2 k2 M:=D2.frame _ _ _ hm λc F o q=>sc.extBut _ _ (Ap F Z.o2) (sb.extBut _ _ (Ap F Z.c1) q);show D2.item k2 _ _ _ l2 hl λy hd td py hs sd=>qb ?_;let h7:bR hd TO x b c:=sd.extBut _ _ (Ne.symm i2o) h8;apply qa;show wpAny_seqItems h7 rfl ?_;apply qa;show Gw h7 λhe hOe se=>?_;let h6:bR he TO x y c:=hOe;show qa (wpAny_letGo (qb ?_));apply qa;apply qa;apply wpAny_onRaise;apply qa;let hk:S3 k3 he:=D3.frame _ _ _ hx λc F o q=>se.extBut _ _ (Ap F J.o3) (sd.extBut _ _ (Ap F J.c4) (sc.extBut _ _ (Ap F J.o3) (sb.extBut _ _ (Ap F J.c3) q)));show D3.item k3 _ _ _ l3 hk λu hf tf pu e4 sf=>qb ?_;let h5:bR hf TO x y c:=sf.extBut _ _ (Ne.symm s1) h6;apply qa;show wpAny_seqItems h5 rfl ?_;apply qa;show Gw h5 λG hOg sg=>?_;let Y:bR G TO x y u:=hOg;show qa (wpAny_letGo (qb (qb ?_)));apply qa;show wpAny_seqItems Y rfl ?_;apply qa;show wpAny_newTuple ?_;let h4:G.objs.size=s.heap.objs.size:=by rw[sg.1,sf.1,se.1,sd.1,sc.1,sb.1,sa.1]
 let up1:∀c o,c≠TO->c≠i1->c≠i2->c≠i3->ha.get? c=⇑o->G.get? c=⇑o:=λc o L q2 q3 q4 q=>sg.extBut _ _ L (sf.extBut _ _ q4 (se.extBut _ _ L (sd.extBut _ _ q3 (sc.extBut _ _ L (sb.extBut _ _ q2 q)))));let h3:IsZip G z TI TO .ellipsis:=up1 _ _ (Ne.symm Z.a2) (Ne.symm i1z) (Ne.symm s2) (Ne.symm r3) e2;let hr:S1 (k1+1) G:=D1.frame _ _ _ hq λc F o q=>sg.extBut _ _ (Ap F Z.o1) (sf.extBut _ _ (Ap F J.c5) (se.extBut _ _ (Ap F Z.o1) (sd.extBut _ _ (Ap F Z.c2) (sc.extBut _ _ (Ap F Z.o1) q))));let hp:S2 (k2+1) G:=D2.frame _ _ _ hs λc F o q=>sg.extBut _ _ (Ap F Z.o2) (sf.extBut _ _ (Ap F J.c6) (se.extBut _ _ (Ap F Z.o2) q));let e3:S3 (k3+1) G:=D3.frame _ _ _ e4 λc F o q=>sg.extBut _ _ (Ap F J.o3) q;let r2:∀c o,c≠z->c≠TO->c≠i1->c≠i2->c≠i3->s.heap.get? c=⇑o->G.get? c=⇑o:=λc o L q2 q3 q4 q5 q=>up1 c o q2 q3 q4 q5 (sa.extBut _ _ L q);let h1:z<G.objs.size:=qe h3;apply qa;let zf:IsZip (G.push {cls:=.type "tuple",data:=.seq [x,y,u].toArray}) z TI TO .ellipsis:=qc _ h3;apply qa;show zw zf (by simp) λhi zi si=>?_;let e1:IsZip hi z TI TO (rawInt G.objs.size):=zi;show zw e1 (by simp) λhh zh sh=>?_;let h2:IsZip hh z TI TO (rawInt G.objs.size):=zh;let up:∀c o,c≠z->G.get? c=⇑o->hh.get? c=⇑o:=λc o L q=>sh.extBut _ _ L (si.extBut _ _ L (qc _ q));let pT:bR hh G.objs.size x y u:=sh.extBut _ _ (ne_of_gt h1) (si.extBut _ _ (ne_of_gt h1) (qd _ rfl));rw[h4]at h2 pT;show qb #[_,rfl,?_];rw[h4];show k x y u hh _ px py pu h2 #[_,_,_,up _ _ Z.a2 Y] (D1.frame _ _ _ hr λc F o q=>up c o (Ap F Z.z1) q) (D2.frame _ _ _ hp λc F o q=>up c o (Ap F Z.z2) q) (D3.frame _ _ _ e3 λc F o q=>up c o (Ap F J.z3) q) pT λc o L q2 q3 q4 q5 q=>up c o L (r2 c o L q2 q3 q4 q5 q)
def UL(J:i1≠z)(hz:IsZip s.heap z TI TO .none)(hI:bR s.heap TI (.ref i1) (.ref i2) (.ref i3))
  (d:∀v,Heap.SameBut z s.heap v->∀(Q:zF)(E:zF),(∀h' e,Heap.ExtBut i1 v h'->(∃o,h'.get? e=⇑o/\o.cls=.type "StopIteration")->E (.ref e) {s with heap:=h'})->wpAny (model prog w) A (Builtin.SmallTypes.nextOf (.ref i1)) Q E {s with heap:=v})
  (k:∀h' e,(∀c o,c≠z->c≠i1->s.heap.get? c=⇑o->h'.get? c=⇑o)->(∃o,h'.get? e=⇑o/\o.cls=.type "StopIteration")->E (.ref e) {s with heap:=h'}):
  wpAny (model prog w) A (Builtin.«zip.__next__» #[[.ref z],[]]) Q E s:=by
 show wpAny _ _ (field (.ref z) 2>>=_) _ _ _;apply qa;show zr hz rfl (x:=.bool false) rfl ?_;apply qa;show zr hz rfl (x:=.ref TI) rfl ?_;apply qa;show wpAny_seqItems hI rfl ?_;apply qa;apply qa;show zr hz rfl (x:=.none) rfl (qb ?_);apply qa;apply wpAny_rule;apply qa;show zr hz rfl (x:=.ref TO) rfl ?_;apply qa;show zw hz (by simp) λv za Z=>?_;let F:IsZip v z TI TO .ellipsis:=za;apply qa;apply qa;apply qa;apply wpAny_onRaise;apply qa;show d v Z _ _ λhb e M st=>?_;let#[oe,G,q2]:=st;let L:IsZip hb z TI TO .ellipsis:=M _ _ (Ne.symm J) F;let ez:e≠z:=λq=>by subst q;rw[L]at G;cases G;simp at q2
 show zw L (by simp) λhc _ Y=>k hc e (λc o c1 c2 q=>Y.extBut _ _ c1 (M _ _ c2 (Z.extBut _ _ c1 q))) #[oe,Y.extBut _ _ ez G,q2]
def Va(D1:Draws prog w A i1 f1 n1 P1 S1)(m1:i1∈f1)(z1:z∉f1)(o1:TO∉f1)(G:TO≠z)(h1:i2≠z)
  (hz:IsZip s.heap z TI TO .none)(hI:bR s.heap TI (.ref i1) (.ref i2) (.ref i3))(hO:bR s.heap TO a b c0)(t1:S1 k1 s.heap)(l1:k1<n1)
  (d:∀v tk,(∀c o,c≠z->c≠TO->c≠i1->s.heap.get? c=⇑o->v.get? c=⇑o)->∀(Q:zF)(E:zF),(∀h' e,Heap.ExtBut i2 v h'->(∃o,h'.get? e=⇑o/\o.cls=.type "StopIteration")->E (.ref e) {s with heap:=h',toks:=tk})->wpAny (model prog w) A (Builtin.SmallTypes.nextOf (.ref i2)) Q E {s with heap:=v,toks:=tk})
  (k:∀h' e tk,(∀c o,c≠z->c≠TO->c≠i1->c≠i2->s.heap.get? c=⇑o->h'.get? c=⇑o)->(∃o,h'.get? e=⇑o/\o.cls=.type "StopIteration")->E (.ref e) {s with heap:=h',toks:=tk}):
  wpAny (model prog w) A (Builtin.«zip.__next__» #[[.ref z],[]]) Q E s:=by
 let h2:=Ap m1 z1;let h3:=Ap m1 o1;show wpAny _ _ (field (.ref z) 2>>=_) _ _ _;apply qa;show zr hz rfl (x:=.bool false) rfl ?_;apply qa;show zr hz rfl (x:=.ref TI) rfl ?_;apply qa;show wpAny_seqItems hI rfl ?_;apply qa;apply qa;show zr hz rfl (x:=.none) rfl (qb ?_);apply qa;apply wpAny_rule;apply qa;show zr hz rfl (x:=.ref TO) rfl ?_;apply qa;show zw hz (by simp) λha za L=>?_;let Y:IsZip ha z TI TO .ellipsis:=za;apply qa;apply qa;apply qa;apply wpAny_onRaise;apply qa;let Z:S1 k1 ha:=D1.frame _ _ _ t1 λc v o q=>L.extBut _ _ (Ap v z1) q;show D1.item k1 _ _ _ l1 Z λx hb tb px h4 J=>qb ?_;let F:bR hb TO a b c0:=J.extBut _ _ (Ne.symm h3) (L.extBut _ _ G hO);apply qa;show wpAny_seqItems F rfl ?_;apply qa;show Gw F λv h5 sc=>?_;show qa (wpAny_letGo (qb ?_));apply qa;apply qa;apply wpAny_onRaise;apply qa;show d v tb (λc o M c2 c3 q=>sc.extBut _ _ c2 (J.extBut _ _ c3 (L.extBut _ _ M q))) _ _ λhd e xd st=>?_;let#[oe,q1,q2]:=st;let zd:IsZip hd z TI TO .ellipsis:=xd _ _ (Ne.symm h1) (sc.extBut _ _ (Ne.symm G) (J.extBut _ _ (Ne.symm h2) Y));let ez:e≠z:=λq=>by subst q;rw[zd]at q1;cases q1;simp at q2
 show zw zd (by simp) λhe _ se=>k he e tb (λc o M c2 c3 c4 q=>se.extBut _ _ M (xd _ _ c4 (sc.extBut _ _ c2 (J.extBut _ _ c3 (L.extBut _ _ M q))))) #[oe,se.extBut _ _ ez q1,q2]
end
def rj(v F M:It):It:=#[λi H=>v.go i H/\F.go i H/\M.go i H,λi H x H'=>∃p L J G,H p=none/\v.yld i H L H/\F.yld i H J H/\M.yld i H G H/\x=.ref p/\H'=upd H p (.tup [L,J,G]),λi H=>v.stop i H\/v.go i H/\F.stop i H]
def SS{P:Program}{w:World}{K:W.Frag}{J1 J2 J3:It}{z TI TO i1 i2 i3:Addr}{t1 t2 t3:Nat->Heap->Prop}{elts:List Expr}{k:Nat}{pos:Pos}(S1:pC P w K J1 i1 t1)(S2:pC P w K J2 i2 t2)(S3:pC P w K J3 i3 t3)(nd:[z,TI,TO,i1,i2,i3].Nodup):
  gV P w K (.Tuple elts k pos) (rj J1 J2 J3) [z,TI,TO,i1,i2,i3] z (λi h=>IsZip h z TI TO .none/\bR h TI (.ref i1) (.ref i2) (.ref i3)/\(∃a b c,bR h TO a b c)/\t1 i h/\t2 i h/\t3 i h) where
 mem:=m1
 obj:=λi h st b hb=>by
  let#[hz,hI,#[a,c,c0,hO],q1,q2,q3]:=st;simp at hb;rcases hb with rfl|rfl|rfl|rfl|rfl|rfl
  .show#[_,hz,λv z=>by cases z]
  .show#[_,hI,λv z=>by cases z]
  .show#[_,hO,λv z=>by cases z]
  .obtain⟨o,e1,e2,_⟩:=S1.live i h q1;show#[o,e1,e2]
  .obtain⟨o,e1,e2,_⟩:=S2.live i h q2;show#[o,e1,e2]
  .obtain⟨o,e1,e2,_⟩:=S3.live i h q3;show#[o,e1,e2]
 keep:=λi h h' st kk=>by let#[hz,hI,#[a,c,c0,hO],q1,q2,q3]:=st;show#[kk _ (m1) _ hz,kk _ (m2) _ hI,#[a,c,c0,kk _ (m3) _ hO],S1.keep i h h' q1 λo e=>kk _ (m4) o e,S2.keep i h h' q2 λo e=>kk _ (m5) o e,S3.keep i h h' q3 λo e=>kk _ (by simp) o e]
 item:=by
  intro X hP hw hK hc i z4 s σ H E I hf st hg;show cps λG kk=>?_;let#[hz,hI,#[a,c,c0,hO],q1,q2,q3]:=st;let hh:X.A.in1.handled=none:=I.ok.hd hc;let#[f1,n1,P1,T1,D1,u1,l1,m1,e1,v1,w1]:=S1.item X hP hw hK i z4 s σ H X.A.in1 hh I q1 (hf i1 (m4)).1 hg.1;let#[f2,n2,P2,T2,D2,u2,l2,m2,e2,v2,w2]:=S2.item X hP hw hK i z4 s σ H X.A.in1 hh I q2 (hf i2 (m5)).1 hg.2.1;let#[f3,n3,P3,T3,D3,u3,l3,m3',e3,v3,w3]:=S3.item X hP hw hK i z4 s σ H X.A.in1 hh I q3 (hf i3 (by simp)).1 hg.2.2;let#[o1,g1,_,_,_,_,cl1]:=S1.live i _ q1;let#[o2,g2,_,_,_,_,cl2]:=S2.live i _ q2;let#[o3,g3,_,_,_,_,cl3]:=S3.live i _ q3;simp only[qO,qC,not_mem_nil,or_false,not_or]at nd;let#[#[d1,d2,d3,d4,d11],#[d5,d6,d7,d12],#[d8,d9,d13],#[d10,d14],d15,_]:=nd;let hn:∀b∈[z,TI,TO,i1,i2,i3],H b=none:=λb hb=>(hf b hb).1;let out:∀{f:List Addr}{it b:Addr}{ob:Obj},(∀x∈f,x=it\/(H x≠none/\∃o,s.heap.get? x=⇑o/\o.cls=.type "tuple")\/∃o,s.heap.get? x=⇑o/\o.cls=.type "list")->b≠it->H b=none->s.heap.get? b=⇑ob->ob.cls≠.type "list"->b∉f:=λ{f it b ob} hf0 n1 n2 g n3 m=>by grind
  let zl:Value.type "zip"≠Value.type "list":=⋯
  let tl:Value.type "tuple"≠Value.type "list":=⋯
  let Z:jo z TI TO i1 i2 f1 f2:=#[Ne.symm d1,Ne.symm d2,d5,d6,d7,m1,m2,out e1 d3 (hn z (by simp)) hz zl,out e2 d4 (hn z (by simp)) hz zl,out e1 d8 (hn TO (by simp)) hO tl,out e2 d9 (hn TO (by simp)) hO tl,out e2 d10 (hn i1 (by simp)) g1 cl1,out e1 (Ne.symm d10) (hn i2 (by simp)) g2 cl2]
  let Z3:va z TI TO i1 i2 i3 f1 f2 f3:=#[Z,d12,m3',out e3 d11 (hn z (by simp)) hz zl,out e3 d13 (hn TO (by simp)) hO tl,out e3 d14 (hn i1 (by simp)) g1 cl1,out e3 d15 (hn i2 (by simp)) g2 cl2,out e1 (Ne.symm d14) (hn i3 (by simp)) g3 cl3,out e2 (Ne.symm d15) (hn i3 (by simp)) g3 cl3]
  have lt:∀b∈[z,TI,TO,i1,i2,i3],b<s.heap.objs.size:=λb hb=>by
   simp at hb;rcases hb with rfl|rfl|rfl|rfl|rfl|rfl
   .show qe hz
   .show qe hI
   .show qe hO
   .show qe g1
   .show qe g2
   .show qe g3
  let ty:s.TypeIs (.ref z) "zip":=#[_,hz,rfl]
  show kk ?_;apply qa;apply wpAny_attempt;show wpAny_callSpecial?_slot (name:=Str.ofString "__next__") ty F.slot_zip_next (zu F.slot_zip_next ty F.entry_zip_next (Ru Z3 D1 D2 D3 hz hI hO u1 u2 u3 l1 l2 l3 λx y v h1 tk px py pv hz1 hO1 t1' t2' t3' hT hk=>?_) (F.args_zip_next_1 _));show qb #[_,rfl,?_];show cps λ_ kk=>?_;let#[y1,ry1,hy1]:=v1 x px;let#[y2,ry2,hy2]:=v2 y py;let#[y3,ry3,hy3]:=v3 v pv;show kk ?_;show wpAny_letOwnedTupleGo_zip hz1 λh2 hz2 sb=>?_;let nT:s.heap.objs.size≠z:=ne_of_gt (qe hz);let I2:Inv X z4 σ (upd H s.heap.objs.size (.tup [y1,y2,y3])) {s with heap:=h2,toks:=tk}:=Jm I (ch:=[z,TI,TO,i1,i2,i3]) (us:=[x,y,v]) hf lt (by show 3<=_;decide) (.cons ry1 (.cons ry2 (.cons ry3 .nil))) #[_,sb.extBut _ _ nT hT,rfl,rfl,_,rfl] λb o hb q=>by simp at hb;show sb.extBut _ _ hb.1 (hk b o hb.1 hb.2.2.1 hb.2.2.2.1 hb.2.2.2.2.1 hb.2.2.2.2.2 q)
  let#[ca,cb,cc,hO1]:=hO1;show#[.ref s.heap.objs.size,_,I2,rfl,#[s.heap.objs.size,y1,y2,y3,I.hok.fresh (zm _),hy1,hy2,hy3,rfl,rfl],#[hz2,sb.extBut _ _ (Ne.symm d1) (hk _ _ (Ne.symm d1) d5 d6 d7 d12 hI),#[_,_,_,sb.extBut _ _ (Ne.symm d2) hO1],S1.keep _ _ _ (w1 _ t1') λo q=>sb.extBut _ _ (Ne.symm d3) q,S2.keep _ _ _ (w2 _ t2') λo q=>sb.extBut _ _ (Ne.symm d4) q,S3.keep _ _ _ (w3 _ t3') λo q=>sb.extBut _ _ (Ne.symm d11) q],λb hb=>?_];grind[Al,ne_of_lt]
 done:=by
  intro X hP hw hK hc i z4 s σ H E I hf st hg;show cps λG kk=>?_;let#[hz,hI,#[a,c,c0,hO],q1,q2,q3]:=st;let hh:X.A.in1.handled=none:=I.ok.hd hc;simp only[qO,qC,not_mem_nil,or_false,not_or]at nd;let#[#[d1,d2,d3,d4,d11],#[d5,d6,d7,d12],#[d8,d9,d13],#[d10,d14],d15,_]:=nd;let ty:s.TypeIs (.ref z) "zip":=#[_,hz,rfl]
  let stop:∀(h':Heap)(e:Addr)(tk:Nat),(∀b o,b≠z->b≠TO->b≠i1->b≠i2->s.heap.get? b=⇑o->h'.get? b=⇑o)->Inv X z4 σ H {s with heap:=h',toks:=tk}:=λh' e tk hk=>DE I (ch:=[z,TI,TO,i1,i2,i3]) hf λb o hb q=>by grind
  show kk ?_;apply qa;apply wpAny_attempt;rcases hg with hg|⟨hg1,hg2⟩
  .refine wpAny_callSpecial?_slot (name:=Str.ofString "__next__") ty F.slot_zip_next (zu F.slot_zip_next ty F.entry_zip_next (UL (Ne.symm d3) hz hI (λha sa=>?_) λh' e hk st=>?_) (F.args_zip_next_1 _))
   .let Ia:Inv X z4 σ H {s with heap:=ha}:=DE I (t':=s.toks) (ch:=[z]) (λb hb=>hf b (by simp at hb;simp[hb])) λb o hb q=>sa.extBut _ _ ↑hb q;show S1.done X hP hw hK i z4 {s with heap:=ha} σ H X.A.in1 hh Ia (S1.keep _ _ _ q1 λo q=>sa.extBut _ _ (Ne.symm d3) q) hg
   .obtain⟨o,r1,r2⟩:=st;show qa (wpAny_isInstance (T:="StopIteration") (b:=true) #[o,r1,r2] isSubtype_stop (qb #[rfl,stop h' e s.toks λb o c1 c2 c3 c4 q=>hk b o c1 c3 q]))
  .obtain⟨f1,n1,P1,T1,D1,u1,l1,m1,e1,v1,w1⟩:=S1.item X hP hw hK i z4 s σ H X.A.in1 hh I q1 (hf i1 (m4)).1 hg1;let hn:∀b∈[z,TI,TO,i1,i2,i3],H b=none:=λb hb=>(hf b hb).1;let out:∀{f:List Addr}{it b:Addr}{ob:Obj},(∀x∈f,x=it\/(H x≠none/\∃o,s.heap.get? x=⇑o/\o.cls=.type "tuple")\/∃o,s.heap.get? x=⇑o/\o.cls=.type "list")->b≠it->H b=none->s.heap.get? b=⇑ob->ob.cls≠.type "list"->b∉f:=λ{f it b ob} hf0 n1 n2 g n3 m=>by grind
   let zl:Value.type "zip"≠Value.type "list":=⋯
   let tl:Value.type "tuple"≠Value.type "list":=⋯
   subst hP hw;show wpAny_callSpecial?_slot (name:=Str.ofString "__next__") ty F.slot_zip_next (zu F.slot_zip_next ty F.entry_zip_next (Va D1 m1 (out e1 d3 (hn z (by simp)) hz zl) (out e1 d8 (hn TO (by simp)) hO tl) (Ne.symm d2) (Ne.symm d4) hz hI hO u1 l1 (λhc2 tk sa=>?_) λh' e tk hk st=>?_) (F.args_zip_next_1 _))
   .let Ia:Inv X z4 σ H {s with heap:=hc2,toks:=tk}:=DE I (ch:=[z,TO,i1]) (λb hb=>hf b (by simp at hb;rcases hb with q|q|q<;>simp[q])) λb o hb q=>by grind
    show S2.done X rfl rfl hK i z4 {s with heap:=hc2,toks:=tk} σ H X.A.in1 hh Ia (S2.keep _ _ _ q2 λo q=>sa _ _ (Ne.symm d4) (Ne.symm d9) (Ne.symm d10) q) hg2
   .obtain⟨o,r1,r2⟩:=st;show qa (wpAny_isInstance (T:="StopIteration") (b:=true) #[o,r1,r2] isSubtype_stop (qb #[rfl,stop h' e tk hk]))
 self:=λA i s Q E st h=>wpAny_pyIter_zip st.1 h
abbrev yB(h:Heap)(G F v:Obj):Heap:=(zB h G F).push v
abbrev yC(h:Heap)(v F G:Obj):Heap:=(yB h v F G).push {cls:=.type "tuple",data:=.seq [.ref h.objs.size,.ref (zA h v).objs.size,.ref (zB h v F).objs.size].toArray}
abbrev yD(h:Heap)(G F v:Obj):Heap:=(yC h G F v).push {cls:=.type "tuple",data:=.seq [.none,.none,.none].toArray}
abbrev yE(h:Heap)(G F v:Obj):Heap:=(yD h G F v).push {cls:=.type "zip",data:=.fields [.none,.bool false,.bool false,.ref (yB h G F v).objs.size,.ref (yC h G F v).objs.size].toArray}
def WM(a b c:Value):checkTypeCall "zip" #[[a,b,c],[]]=pure ():=by kernel_rfl
def Ws(a b c:Value):checkBuiltinCall "zip.__new__" #[[.type "zip",a,b,c],[]]=pure ():=by kernel_rfl
def Wi(a b c d:Value):argsOk "object.__init__" #[[a,b,c,d],[]]:=by unfold argsOk;rw[signature?_of (id:="object.__init__") (n:=['_','_','t','i','n','i','_','_']) (o:=['t','c','e','j','b','o']) (by kernel_rfl) F.owner_object];kernel_rfl
def Sd(v1 v2 Z:Value)(v F G:Obj):Meets (Builtin.«zip.__new__» #[[.type "zip",v1,v2,Z],[]]) (λ_ R s=>gX v1 v s/\gX v2 F {s with heap:=zA s.heap v}/\gX Z G {s with heap:=zB s.heap v F}/\R (.ok (.ret (.ref (yD s.heap v F G).objs.size))) {s with heap:=yE s.heap v F G}):=
 .of_wp λprog w A R s Y=>by
  let#[hp,g,d,tk,os]:=s;let#[k1,k2,k3,hr]:=Y;let ss:=sub_zip;let M:=λ(A:Around)(Q:zF)(E:zF)=>k1 prog w A Q E;let L:=λ(A:Around)(Q:zF)(E:zF)=>k2 prog w A Q E;let J:=λ(A:Around)(Q:zF)(E:zF)=>k3 prog w A Q E
  wp_walk using M,L,J
  show#[_,rfl,hr]
def Qy(m1:gX v1 v s)(m2:gX v2 G {s with heap:=zA s.heap v})(m3:gX v3 J {s with heap:=zB s.heap v G})(f1:v.isFreed=false)(f2:G.isFreed=false)(f3:J.isFreed=false)
  (k:∀h',IsZip h' (s.heap.objs.size+5) (s.heap.objs.size+3) (s.heap.objs.size+4) .none->bR h' (s.heap.objs.size+3) (.ref s.heap.objs.size) (.ref (s.heap.objs.size+1)) (.ref (s.heap.objs.size+2))->bR h' (s.heap.objs.size+4) .none .none .none->
   h'.get? s.heap.objs.size=⇑v->h'.get? (s.heap.objs.size+1)=⇑G->h'.get? (s.heap.objs.size+2)=⇑J->(∀c o,s.heap.get? c=⇑o->h'.get? c=⇑o)->Q (.ref (s.heap.objs.size+5)) {s with heap:=h'}):
  wpAny (model prog w) A (call (.type "zip") [v1,v2,v3]) Q E s:=by
 show callType_new F.called_zip ⋯ (WM _ _ _) (Ws _ _ _) (λh1=>Wi h1 _ _ _) F.entry_zip_new (Sd v1 v2 v3 v G J) #[m1,m2,m3,?_];let Z:(zA s.heap v).objs.size=s.heap.objs.size+1:=Heap.size_push ..;let Y:(zB s.heap v G).objs.size=s.heap.objs.size+2:=by rw[Heap.size_push,Z]
 let L:(yB s.heap v G J).objs.size=s.heap.objs.size+3:=by rw[Heap.size_push,Y]
 let M:(yC s.heap v G J).objs.size=s.heap.objs.size+4:=by rw[Heap.size_push,L]
 let q4:(yD s.heap v G J).objs.size=s.heap.objs.size+5:=by rw[Heap.size_push,M]
 let g5:(yE s.heap v G J).get? (yD s.heap v G J).objs.size=⇑_:=qd _ rfl;let g4:(yE s.heap v G J).get? (yC s.heap v G J).objs.size=⇑_:=qc _ (qd _ rfl);let g3:(yE s.heap v G J).get? (yB s.heap v G J).objs.size=⇑_:=qc _ (qc _ (qd _ rfl));let gc:(yE s.heap v G J).get? (zB s.heap v G).objs.size=⇑J:=qc _ (qc _ (qc _ (qd _ f3)));let g2:(yE s.heap v G J).get? (zA s.heap v).objs.size=⇑G:=qc _ (qc _ (qc _ (qc _ (qd _ f2))));let g1:(yE s.heap v G J).get? s.heap.objs.size=⇑v:=qc _ (qc _ (qc _ (qc _ (qc _ (qd _ f1)))));rw[L,M,q4]at g5;rw[Z,Y,L]at g3;rw[M]at g4;rw[Z]at g2;rw[Y]at gc;rw[q4];show#[#[_,g5,rfl],k _ g5 g3 g4 g1 g2 gc λc o x=>qc _ (qc _ (qc _ (qc _ (qc _ (qc _ x)))))]
def fu(X:Cx)(Z:TA):TI:=λσ H R=>Z σ H λY H1=>∃G F v M L J,Y=[G,F,v]/\kU X H1 G M/\kU X H1 F L/\kU X H1 v J/\R (rj M L J) H1
def QF(hc:X.calm=true)(hg:Gl X "zip")(hm:X.mg "zip"=none)(hv:bootBuiltins "zip"=⇑(.type "zip"))(hl:PA X [a,b,c] tl)
  (hs:autoParam (starEach [a,b,c] X.env=[(false,eval a X.env),(false,eval b X.env),(false,eval c X.env)]) rZ9)(G:autoParam (starEach [b,c] X.env=[(false,eval b X.env),(false,eval c X.env)]) rZ9):PI X (.Tuple elts kk tpos) (.Call (.Name "zip" p) [a,b,c] [] pos) (fu X tl):=by
 intro z4 s σ H R I h;show wpAny_Call_Name_kw (BU I hg hm hv ?_ ⋯ ⋯);show PyProof.Rows.callWith_type1 (Aj (hl pos z4 s σ H _ I h) λus v zq=>?_) (by rw[hs,G]) (by rw[G];rfl);let#[vs,H1,F,r1,q1]:=zq;let#[v1,v2,v3,J1,J2,J3,rfl,k1,k2,k3,q]:=q1;cases r1 with
 |cons ra M=>
  cases M with
  |cons M L=>
   cases L with
   |cons L rn=>
   cases rn;let#[Y,m1,f1,g1]:=EV F ra k1;let I2:Inv X z4 σ H1 {v with heap:=zA v.heap Y}:=F.kept (t':=v.toks) λ_ _ e=>qc _ e;let#[o2,m2,f2,g2]:=EV I2 M k2;let I3:Inv X z4 σ H1 {v with heap:=zB v.heap Y o2}:=F.kept (t':=v.toks) λ_ _ e=>qc _ (qc _ e);let#[o3,m3,f3,g3]:=EV I3 L k3;show Qy m1 m2 m3 f1 f2 f3 λh' Z hI hO e1 e2 e3 kp=>?_;let#[t1,S1,b1]:=g1 v.heap.objs.size;let#[t2,S2,b2]:=g2 (v.heap.objs.size+1);let#[t3,S3,b3]:=g3 (v.heap.objs.size+2);show wpAny_pyIter_zip (s:={v with heap:=h'}) Z ?_;let lt:∀k:Nat,v.heap.objs.size<=v.heap.objs.size+k:=λk=>Nat.le_add_right _ _;show#[v.heap.objs.size+5,[v.heap.objs.size+5,v.heap.objs.size+3,v.heap.objs.size+4,v.heap.objs.size,v.heap.objs.size+1,v.heap.objs.size+2],_,_,H1,rfl,F.kept (t':=v.toks) kp,SS S1 S2 S3 ?_,#[Z,hI,#[_,_,_,hO],b1 h' e1,b2 h' e2,b3 h' e3],λc J=>?_,q]
   .simp
   .let hx:∃k,c=v.heap.objs.size+k:=by simp at J;rcases J with rfl|rfl|rfl|rfl|rfl|rfl<;>first|exact⟨5,rfl⟩|exact⟨3,rfl⟩|exact⟨4,rfl⟩|exact⟨0,rfl⟩|exact⟨1,rfl⟩|exact⟨2,rfl⟩
    let#[k,rfl]:=hx;show F.fpOk (lt k) (F.hok.fresh (lt k))
def Uc{K:W.Frag}(e2:min l.length m.length<=n.length)(h1:dW K J1 l F0)(h2:dW K J2 m F0)(h3:dW K J3 n F0):dW K (rj J1 J2 J3) (bW l m n) F0:=λi U σ F G H J v=>by
 let#[p1,p2]:=h1 i U σ F G H J v;let#[q1,q2]:=h2 i U σ F G H J v;let#[r1,r2]:=h3 i U σ F G H J v;show#[λd hd=>?_,λhl=>?_]
 .obtain⟨e,f,g,he,hf,hg,rfl⟩:=MA l m n i d hd;let#[g1,g2]:=p1 e he;let#[g3,g4]:=q1 f hf;let#[g5,g6]:=r1 g hg;show#[#[g1,g3,g5],λx H' zq=>?_];show cps λ_ kk=>?_;let#[p,Z,Y,M,hp,h9,h8,h7,ex,eH]:=zq;subst ex eH;let#[F1,s1,r1,h6]:=g2 Z H h9;let#[F2,s2,r2,h5]:=(h2 i U σ F1 G H (J.trans s1) r1).1 f hf|>.2 Y H h8;let#[F3,s3,r3,h4]:=(h3 i U σ F2 G H (J.trans (s1.trans s2)) r2).1 g hg|>.2 M H h7;let#[L,_,_]:=r3.free hp;show kk ?_;show⟨upd F3 p (.tup [Z,Y,M]),(s1.trans (s2.trans s3)).trans (zL.upd L),r3.newF hp,.tup (xs:=[Z,Y,M]) AV (.cons ((h6.mono (s2.trans s3)).mono (zL.upd L)) (.cons ((h5.mono s3).mono (zL.upd L)) (.cons (h4.mono (zL.upd L)) .nil)))⟩
 .rw[Mr l m n e2]at hl;by_cases h:l.length<=i
  .show .inl (p2 h)
  .let e1:i<l.length:=by lia
   show .inr #[(p1 l[i] (qh e1)).1,q2 ∅]
def Qc(hc:X.calm=true)(hg:Gl X "zip")(hm:X.mg "zip"=none)(hv:bootBuiltins "zip"=⇑(.type "zip"))(ha:FE X a wa)(hb:FE X b wb)(h7:FE X c wc)(hs:autoParam (starEach [a,b,c] X.env=[(false,eval a X.env),(false,eval b X.env),(false,eval c X.env)]) rZ9)(h1:autoParam (starEach [b,c] X.env=[(false,eval b X.env),(false,eval c X.env)]) rZ9)(h2:autoParam (starEach [c] X.env=[(false,eval c X.env)]) rZ9):
  FI X (.Tuple elts kk tpos) (.Call (.Name "zip" p) [a,b,c] [] pos) (nR wa wb wc):=λpn xe hp=>by
 show PI.imp (QF (X:=wp X pn xe) hc hg hm hv (Aa ha (Aa hb (Aa h7 Ab h2) (by rw[h1,h2])) (by rw[hs,h1]) pn xe hp) hs h1) λσ H R q=>?_;let#[F,G,U,P,PX,h4,hw,h5,hx]:=q;show#[F,G,U,λrs Y=>match rs with|[r,t,u]=>(zK (give r Y) λp=>zK (give t p.2) λq=>zK (give u q.2) λz=>zK (items p.1.toD) λl=>zK (items q.1.toD) λm=>zK (items z.1.toD) λn=>min l.length m.length<=n.length/\P (bW l m n) z.2)|_=>False,PX,h4,hw,λrs Y vs F1 H1 J s1 r1 hl rv=>?_,hx];match rs,vs,rv,r1,J with
 |[r,t,x],[v,u,y],rv,r1,J=>
  dsimp only at J;show cps λ_ kk=>?_;let#[#[s,L],eg,J]:=Ai J;let#[#[s',h3],h9,J]:=Ai J;let#[#[Z,M],h8,J]:=Ai J;let#[l,el,J]:=Ai J;let#[m,em,J]:=Ai J;let#[n,e1,h6,J]:=Ai J;obtain⟨F2,s2,ss,e3,l3,r3⟩:∃F2,zL F1 F2/\∃ss,ss=[s,s',Z]/\M.length=Y.length/\Rel X.K (M++ss.map some) (σ++[v,u,y].map some) F2 G H1:=by
   let e:aI [r,t,x] Y=⇑([s,s',Z],M):=by unfold aI;rw[eg];show(match aI [t,x] L with|some (ss,L)=>⇑(s::ss,L)|none=>none)=_;unfold aI;rw[h9];show(match(match aI [x] h3 with|some (ss,L)=>⇑(s'::ss,L)|none=>none)with|some (ss,L)=>⇑(s::ss,L)|none=>none)=_;unfold aI;rw[h8];rfl
   let#[F2,s2,l2,z,r2]:=Fv (rs:=[r,t,x]) (vs:=[v,u,y]) (U':=[]) (σ':=[]) r1 hl rv e;show#[F2,s2,_,rfl,l2,↑r2]
  subst e3;let#[F3,s3,rp,r4]:=Rel.giveD (U:=M) (vs:=[v,u,y]) (ss:=[s,s',Z]) r3 (l3.trans hl);show kk ?_;let sm:=s1.trans (s2.trans s3);cases rp with
  |cons a0 b0=>
   cases b0 with
   |cons b0 c0=>
    cases c0 with
    |cons c0 n0=>
    cases n0;let#[J1,k1,i1]:=EZ (pn:=pn) (xe:=xe) r4.fr a0 el;let#[J2,k2,i2]:=EZ (pn:=pn) (xe:=xe) r4.fr b0 em;let#[J3,k3,i3]:=EZ (pn:=pn) (xe:=xe) r4.fr c0 e1;show#[v,u,y,J1,J2,J3,rfl,k1,k2,k3,h5 _ M F3 H1 _ J sm r4 (Uc h6 i1 i2 i3)]
section
variable{K:W.Frag}
def zO.rev:∀{xs:List V}{l:List S}{G:List Addr},zO K F H xs l G->∃v,zO K F H xs.reverse l.reverse v/\v.Perm G:=by
 intro xs;induction xs with
 |nil=>intro l G r;cases r;show#[[],.nil,.refl _]
 |cons x xs J=>
  intro l G r;cases r with
  |cons a b=>let#[v,h1,h2]:=J b;rw[reverse_cons,reverse_cons];show#[_,zO.snoc h1 a,(List.Perm.append_right _ h2).trans qQ]
def Rel.revItem{D:Addr}(r:Rel K U σ F G H)(hs:slot U n=⇑(.lst l))(L:σ[n]?=⇑⇑(.ref D)):
  ∃xs,H D=⇑(.lst xs)/\Rel K (U.set n ⇑(.lst l.reverse)) σ F G (upd H D (.lst xs.reverse)):=by
 let#[fp,e,nd,ap]:=r.en;let#[v',fa,fi,fb,e1,rfl,q,up]:=e.at hs;rw[L]at e1;let e2:V.ref D=v':=↑e1
 subst e2;cases q with
 |lst hD rl=>
  rename_i xs fl;show#[xs,hD,?_];let#[na,v,h1]:=qx.mp nd;let#[ni,nb,v]:=qx.mp v;let#[nD,h4]:=qO.mp ni;let h3:D∉fa:=λz=>h1 D z D (qj _ qm) rfl;let h2:D∉fb:=λz=>v D qm D z rfl;let Y:=ap D (qi _ (qj _ qm));let#[M,Z,pm]:=zO.rev rl;let new:aK K F (upd H D (.lst xs.reverse)) (.ref D) (.lst l.reverse) (D::M):=.lst AV (Z.mono (zL.refl F) λx J=>Al λz=>nD (pm.mem_iff.mp (z▸J)));let a2:=up (F':=F) (H':=upd H D (.lst xs.reverse)) (o:=⇑(.lst l.reverse)) (u:=⇑(.ref D)) (zL.refl F) (λx J=>Al λz=>(qz.mp J).elim (λw=>h3 (z▸w)) λw=>h2 (z▸w)) (.so new .nil);rw[Fp L]at a2;let p2:(fa++((D::M)++[]++fb)).Perm (fa++((D::fl)++fb)):=by rw[qB];show List.Perm.append_left _ (List.Perm.append_right _ (List.Perm.cons _ pm))
  show#[zL.updR r.fr Y.1,λx o w=>?_,_,a2,p2.nodup_iff.mpr nd,λx J=>ap x (p2.mem_iff.mp J)];let J:x≠D:=λz=>by rw[z,Y.2]at w;cases w
  rw[Al J];show r.gr x o w
end
def VO{j:Nat}{o:Expr}{apos J:Pos}(ho:FE X o (zG j))(M:autoParam (attributeBase o "reverse" X.env (eval o X.env)=eval o X.env) rZ9)(L:autoParam ((apos.endLine==J.line)=true) rZ9):
  FE X (.Call (.Attribute o "reverse" apos) [] [] J) (gF j):=λpn xe hp=>by
 refine PE.imp (PB (X:=wp X pn xe) PySem.F.plainAttrs_list PySem.F.slot_list_reverse PySem.F.type_list_reverse Wa (ho pn xe hp) M L) λσ H Q q=>?_;let#[F,G,U,P,PX,h3,hw,h4,hx]:=q;let v:(match slot U j with
  |some (.lst l)=>P (.v (.sh .non)) (U.set j ⇑(.lst l.reverse))
  |_=>False):=hw
 cases Y:slot U j with
 |none=>rw[Y]at v;show v.elim
 |some s0=>
  cases s0 with
  |lst l0=>
   rw[Y]at v;show#[F,G,U,λy Z=>y=.loc j/\Z=U,PX,h3,by unfold zG;rw[Y];show#[rfl,rfl],λy Z o' F1 H1 h5 s1 r1 rv=>?_,hx];let#[rfl,rfl]:=h5;let l1:=Ag r1;let h1:σ[j]?=⇑⇑o':=rv;let r2:=r1.drop l1;let#[v',fp,e1,sr]:=r2.at Y;rw[h1]at e1;let e2:o'=v':=↑e1
   subst e2;cases sr with
   |lst hD rl=>rename_i a xs fl;let#[ys,h2,r5]:=Rel.revItem r2 Y h1;rw[hD]at h2;cases h2;show#[.inl #[rfl,_,bO.of hD],a,xs,rfl,rfl,hD,h4 _ _ .non F1 _ v s1 (r5.push .non) trivial]
  |_=>rw[Y]at v;show v.elim
def SR:typeLookup (.type "list_reverseiterator") "__len__"=pure none:=by first|rfl|assumption|(simp_all;done)
theorem zeq:Slot "list_reverseiterator" "__length_hint__" "list_reverseiterator.__length_hint__":=
 .of (owner:="list_reverseiterator") (n:="__length_hint__") (by rw[typeLookup_type];kernel_rfl) (by decide+kernel) (by decide+kernel) (by decide+kernel) (by first|show .inl (by decide+kernel)|show .inr (by decide+kernel)) (by rw[isSubtype_type];kernel_rfl)
def Se(F:s.heap.IsRevIter L t n)(h:Q false s):wpAny (model prog w) A (Builtin.List.listLengthHint (.ref L)) Q E s:=by
 show qa (wpAny_specialOf F.typeIs SR ?_);show qa (wpAny_specialOf F.typeIs zeq.lookup ?_)
 (generalize G:("list_reverseiterator.__length_hint__":String)=J;wp_delta;rw[show splitId J=⇑("list_reverseiterator","__length_hint__") from by subst G;decide+kernel];subst G)
 show qa (wpAny_isInstance (b:=true) F.typeIs (by rw[isSubtype_type];kernel_rfl) ?_);show wpAny_ite_split (λv=>absurd v ⋯) (λ_=>?_);show wpAny_ite_split (λ_=>?_) (λv=>absurd (by decide+kernel) v);show wpAny_ite_split (λv=>absurd v (by decide+kernel)) (λ_=>?_);show qb h
def Nz{R:Result->Shared->Prop}{items:Array Value}(hh:A.handled=none)(G:s.heap.IsRevIter L t ((items.size:Int)-1))(ht:s.heap.IsList t items)(e4:t≠L)(hs:items.size<=2^24)
  (S:Addr)(res:Value)(h5:Nat)(e3:S≠t)(hS:s.heap.get? S=some {cls:=.type "list",data:=.seq #[] h5})
  (hR:∀h' tk J c',(∀b o,b≠S->b≠L->s.heap.get? b=⇑o->Heap.get? h' b=⇑o)->Heap.get? h' S=some {cls:=.type "list",dict:=none,data:=.seq J c',slots:=#[]}->
   ItemsOf (λi v=>items[items.size-1-i]?=⇑v) J items.size->R (.ok (.ret res)) {s with heap:=h',toks:=tk}):
  wpAny (model prog w) A.in1 (Builtin.List.listExtendWith (.ref S) (.ref L) res)
   (λhi s'=>match hi with|.done f=>R (.ok f) s'|.again c'=>c'.quiet=true/\codeAny (model prog w) A c' R s') (λe s'=>R (.error e) s') s:=by
 let h8:S≠L:=λe=>by let#[o,ho,hc,_]:=G;rw[e,ho]at hS;cases hS;simp at hc
 have hx:S∉[L,t]:=λhm=>by
  rcases qC.mp hm with e|hm
  .show h8 e
  .show e3 (qv.mp hm)
 have W:=(Walks.listRev (prog:=prog) (w:=w) (A:=A.in1) hh L t e4 items).toS;let h9:∀(h:Heap)(Z tk:Nat),(0<=items.size/\h.IsRevIter L t ((items.size:Int)-1-((0:Nat):Int))/\h.IsList t items)->(∀b o,b≠S->b≠L->s.heap.get? b=⇑o->h.get? b=⇑o)->
   h.get? S=some {cls:=.type "list",data:=.seq #[] Z}->codeAny (model prog w) A (.builtin "list.extend.loop" #[[.ref S,.ref L,res],[]]) R {s with heap:=h,toks:=tk}:=by
  intro h Z tk G hk h7;show codeAny_extend_loopS W (by rw[zv];lia) S hx res items.size 0 _ #[] Z rfl (zero_le _) G h7 (ItemsOf.nil _) λs' J c' hm hp e2=>?_;rw[Moved.eq_with hm];show hR s'.heap s'.toks J c' (λb o hb e1 e=>hm.heap b o (λM=>?_) (hk b o hb e1 e)) hp e2;rcases qC.mp M with e'|M
  .show hb e'
  .show e1 (qv.mp M)
 show qa (wpAny_typeOf (T:="list_reverseiterator") G.typeIs ?_);let h1:Builtin.List.listSameRef (.ref S) (.ref L)=false:=by simp[Builtin.List.listSameRef,h8]
 let h2:(Value.type "list_reverseiterator"==Value.type "list")=false:=⋯
 let h3:(Value.type "list_reverseiterator"==Value.type "tuple")=false:=⋯
 simp only[h1,h2,h3,Bool.or_false,if_false];show qa (wpAny_pyIter_revIter G ?_);show qa (zx (Se G ?_));let h4:s.heap.IsRevIter L t ((items.size:Int)-1-((0:Nat):Int)):=↑G
 show wpAny_ite_split (λ_=>?_) (λ_=>qb #[plainId_quiet F.plain_extend_loop _,h9 _ h5 _ #[zero_le _,h4,ht] (λb o _ _ e=>e) hS]);show qa (wpAny_rule ?_);show qa ?_;show qa (wpAny_updateSeq hS rfl ?_);let Y:=zp (Obj.mapSeq (·.push Value.none)) hS rfl;show wpAny_updateSeq (hz:=by seq_fits) Y rfl ?_;let h6:=zp (Obj.mapSeq (·.pop)) Y rfl;let kk:∀b o,b≠S->s.heap.get? b=⇑o->((s.heap.update S (Obj.mapSeq (·.push Value.none))).update S (Obj.mapSeq (·.pop))).get? b=⇑o:=λb o hb e=>(zo _ _ (Ne.symm hb)).trans ((zo _ _ (Ne.symm hb)).trans e)
 show qb #[plainId_quiet F.plain_extend_loop _,h9 _ _ _ #[zero_le _,h4.at λo e=>kk L o (Ne.symm h8) e,ht.at λo e=>kk t o (Ne.symm e3) e] (λb o hb _ e=>kk b o hb e) h6]
def WL{items:Array Value}(hh:A.handled=none)(hit:s.heap.IsRevIter it t ((items.size:Int)-1))(ht:s.heap.IsList t items)(hne:t≠it)(z7:items.size<=2^24)
  (hQ:∀(h':Heap) tk z9,(∀b o,b≠it->s.heap.get? b=⇑o->h'.get? b=⇑o)->s.heap.objs.size<=h'.objs.size->ItemsOf (λi v=>items[items.size-1-i]?=⇑v) z9 items.size->Q z9.toList {s with heap:=h',toks:=tk}):wpAny (model prog w) A (collect (.ref it)) Q E s:=by
 refine qa (wpAny_runValue (codeAny_builtin F.entry_proto_collect ?_));show qa (zt ?_);show qb #[plainId_quiet F.plain_list_iadd _,codeAny_builtin F.entry_list_iadd ?_];let hS₁:(s.heap.push {cls:=.type "list",data:=.seq ([]:List Value).toArray}).get? s.heap.objs.size=some {cls:=.type "list",data:=.seq #[]}:=qd _ rfl;refine Nz (R:=λr s'=>match r with
  |.ok (.ret v)=>wpAny (model prog w) A (match v with
   |.ref a=>do
    let __do_lift<-load a
    match __do_lift.data with
     |.seq xs epoch=>pure xs.toList
     |x=>unsupported "internal:collect"
   |x=>unsupported "internal:collect") Q E s'
  |.ok a=>False
  |.error e=>E e s') (s:={s with heap:=s.heap.push {cls:=.type "list",data:=.seq ([]:List Value).toArray}}) hh (hit.at λo e=>qc _ e) (ht.at λo e=>qc _ e) hne z7 _ _ 0 (ne_of_gt (by let#[o,e,_]:=ht;show qe e)) hS₁ λh' tk acc' c' hk hS' hacc=>?_
 show qa (wpAny_load hS' ?_);show qb (hQ h' tk acc' (λb o hb e=>hk b o (ne_of_lt (qe e)) hb (qc _ e)) (le_of_lt (qe hS')) hacc)
def WZ{items:Array Value}(hh:A.handled=none)(hit:s.heap.IsRevIter it t ((items.size:Int)-1))(ht:s.heap.IsList t items)(hne:t≠it)(z7:items.size<=2^24)
  (hQ:∀h' tk acc' c',(∀b o,b≠it->s.heap.get? b=⇑o->Heap.get? h' b=⇑o)->Heap.get? h' s.heap.objs.size=some {cls:=.type "list",dict:=none,data:=.seq acc' c',slots:=#[]}->ItemsOf (λi v=>items[items.size-1-i]?=⇑v) acc' items.size->Q (.ref s.heap.objs.size) {s with heap:=h',toks:=tk}):
  wpAny (model prog w) A (call (.type "list") [.ref it]) Q E s:=by
 refine callType_codes (Q₁:=λobj s₁=>obj=.ref s.heap.objs.size/\s₁={s with heap:=s.heap.push {cls:=.type "list",data:=.seq #[]}}) PySem.F.called_list (PySem.F.typeCall_list_1 _) PySem.F.entry_list_init
  (code_list_new _ #[rfl,rfl]) λobj s₁ h₁=>?_
 let#[rfl,rfl]:=h₁;let hS:(s.heap.push {cls:=.type "list",data:=.seq #[]}).get? s.heap.objs.size=some {cls:=.type "list",data:=.seq #[]}:=qd _ rfl;let hlt:t<s.heap.objs.size:=by let#[o,e,_]:=ht;show qe e
 let hlt2:it<s.heap.objs.size:=by let#[o,e,_]:=hit;show qe e
 refine#[#[_,hS,rfl],PySem.F.args_list_init_2 _ _,?_];show wpAny _ _ (do let old<-Builtin.List.listItems (.ref s.heap.objs.size);Builtin.List.listUpdate (.ref s.heap.objs.size) (λ_=>#[]);letGo old.toList.reverse;Builtin.List.listExtendWith (.ref s.heap.objs.size) (.ref it) .none) _ _ _;show qa ?_;unfold Builtin.List.listItems;show qa (wpAny_seqItems hS rfl (qb ?_));show wpAny _ _ (updateSeq s.heap.objs.size (λ_=>#[])>>=λ_=>letGo (#[]:Array Value).toList.reverse>>=λ_=>Builtin.List.listExtendWith (.ref s.heap.objs.size) (.ref it) .none) _ _ _;show qa (wpAny_updateSeq hS rfl ?_);let hS₂:=zp (Obj.mapSeq (λ_=>(#[]:Array Value))) hS rfl;let oth:∀b o,s.heap.get? b=⇑o->((s.heap.push {cls:=.type "list",data:=.seq #[]}).update s.heap.objs.size (Obj.mapSeq (λ_=>(#[]:Array Value)))).get? b=⇑o:=
  λb o e=>(zo _ _ (ne_of_gt (qe e))).trans (qc _ e)
 show qa (wpAny_letGo ?_);show Nz (A:=A.in1) hh (hit.at λo e=>oth _ o e) (ht.at λo e=>oth _ o e) hne z7 _ .none _ (ne_of_gt hlt) hS₂ λh' tk acc' c' hk hS' hacc=>?_;show#[rfl,hQ h' tk acc' c' (λb o hb e=>hk b o (ne_of_lt (qe e)) hb (oth b o e)) hS' hacc]
def Sk{items:Array Value}{x:Str}{u:Tok}{ys:List Str}(hh:A.handled=none)(J:s.heap.IsRevIter Z t ((items.size:Int)-1))(ht:s.heap.IsList t items)(h2:t≠Z)(M:items.size<=2^24)
  (hi:StrsAre items.toList.reverse ys)(h1:(ys.map (·.length)).sum+ys.length*x.length<=16777216)
  (hQ:∀(h':Heap) t' tk,(∀b o,b≠Z->s.heap.get? b=⇑o->h'.get? b=⇑o)->s.heap.objs.size<=h'.objs.size->Q (.str (Txt.join x ys) t') {s with heap:=h',toks:=tk}):
  wpAny (model prog w) A (call (.builtin "str.join") [.str x u,.ref Z]) Q E s:=by
 refine wpAny_call (codeAny_call_builtin F.slot_str_join.plain F.entry_str_join (F.slot_str_join.check _ _ _ _ _ _ _ _ (typeIs_str _ _ _) (F.args_str_join_2 _ _) ?_));rw[join_tree_other];show qa (wpAny_typeOf J.typeIs ?_);show wpAny _ A.in1 ((pyIter (.ref Z)).tryCatch _>>=λi=>collect i>>=λitems=>joinTail x items) _ _ s;show qa (wpAny_tryCatch (wpAny_pyIter_revIter J ?_));show qa (WL (A:=A.in1) hh J ht h2 M λh' tk L hk h3 G=>?_);let#[l,hv,hl]:=strsAre_values hi;let e:L.toList=strValues l:=by
  rw[<-hv];apply ext_getElem?;intro j;by_cases hj:j<items.size
  .let Y:j<L.toList.length:=by rw[qY,G.1];exact hj
   rw[qh Y,List.getElem?_reverse (by rw[qY];show hj),qY,zc];show(G.2 j L.toList[j] (by rw[<-zc];show qh Y)).symm
  .rw[qT (by rw[qY,G.1];lia),qT (by rw[length_reverse,qY];lia)]
 subst hl;let v:=joinOk_of h1;unfold JoinOk at v;rw[Bool.not_eq_true']at v;rw[e];let g:Gives (joinTail x (strValues l)) (joinMade x l):=by
  let g0:=gives_joinTail x l v;cases l with
  |nil=>show g0
  |cons p r=>cases r with
   |nil=>show g0
   |cons q r'=>show g0
 show g prog w A (wants Q E) _ (post_join l #[joinFit_length v,λt' k=>hQ h' t' k hk h3])
section
variable{K:W.Frag}
def nY(K:W.Frag)(ta:TA):TE:=λσ H Q=>ta σ H λv H1=>∃t xs,v=[.ref t]/\bO K H1 t xs/\xs.length<=2^24/\∀q,H1 q=none->Q (.ref q) (upd H1 q (.lst xs.reverse))
def Vo(hc:X.calm=true)(hg:Gl X "list")(hm:X.mg "list"=none)(hv:bootBuiltins "list"=⇑(.type "list"))(h7:Gl X "reversed")(Y:X.mg "reversed"=none)(ha:PA X [a] ta)
  (hs:starEach [a] X.env=[(false,eval a X.env)])(he:starEach [.Call (.Name "reversed" p1) [a] [] pos1] X.env=[(false,eval (.Call (.Name "reversed" p1) [a] [] pos1) X.env)]):
  PE X (.Call (.Name "list" p) [.Call (.Name "reversed" p1) [a] [] pos1] [] pos) (nY X.K ta):=by
 intro z4 s σ H Q I h;show Call_ (BU I hg hm hv (PyProof.Rows.callWith_type1 (rest:=[]) ?_ he (by rfl)));show Calls.spliced_cons (Call_ (BU I h7 Y Jl (PyProof.Rows.callWith_type1 (Aj (ha pos1 z4 s σ H _ I h) λus L zq=>?_) hs rfl)));let#[vs,H1,I1,r1,q1]:=zq;let#[t,xs,rfl,hq,hz,q]:=q1;let#[u,rfl,rx]:=vals1 r1;cases rx;let#[F,rv,pt,_]:=I1.list hq;let M:F.toArray.size=xs.length:=by rw[qr,rv.length]
 let Z:t<L.heap.objs.size:=by let#[_,e,_]:=pt.isList;show qe e
 show call_reversed_list pt.isList (Calls.spliced_nil ?_);show WZ (s:={L with heap:=L.heap.push (revObj t ((F.toArray.size:Int)-1))}) (items:=F.toArray) (I.ok.hd hc) ⟨_,qd _ rfl,rfl,rfl⟩ (pt.isList.at λo e=>qc _ e) (ne_of_lt Z) (by rw[M];lia) λh' tk h9 c' hk h8 J=>?_;let h6:∀b o,L.heap.get? b=⇑o->h'.get? b=⇑o:=λb o e=>hk b o (ne_of_lt (qe e)) (qc _ e);let G:L.heap.objs.size<=(L.heap.push (revObj t ((F.toArray.size:Int)-1))).objs.size:=by rw[Heap.size_push];show le_succ _
 show#[.ref (L.heap.push (revObj t ((F.toArray.size:Int)-1))).objs.size,_,I1.laid (t':=tk) h6 G (show zZ X.prog X.w _ h' _ (.lst xs.reverse) from#[?_,h9.toList,c',?_,?_]),rfl,q _ (I1.hok.fresh G)]
 .rw[length_reverse,zv];lia
 .show Hf (by rw[length_reverse];let:=J.1;rw[M]at this;simp[this]) λj y v h1 h2=>?_;let h3:=J.2 j v (by rw[<-zc];show h2);let hj:j<xs.length:=by let:=(qg.mp h1).1;simpa using this
  rw[List.getElem?_reverse hj]at h1;rw[List.getElem?_toArray,M]at h3;let#[u,h4,h5]:=rv.get h1;rw[h3]at h4;cases h4;show h5
 .rw[toArray_toList];show h8
def We(hc:X.calm=true)(hg:Gl X "list")(hm:X.mg "list"=none)(hv:bootBuiltins "list"=⇑(.type "list"))(h4:Gl X "reversed")(h3:X.mg "reversed"=none)(ha:FE X a wa)
  (hs:autoParam (starEach [a] X.env=[(false,eval a X.env)]) rZ9)(he:autoParam (starEach [.Call (.Name "reversed" p1) [a] [] pos1] X.env=[(false,eval (.Call (.Name "reversed" p1) [a] [] pos1) X.env)]) rZ9):
  FE X (.Call (.Name "list" p) [.Call (.Name "reversed" p1) [a] [] pos1] [] pos) (gI wa):=λpn xe hp=>by
 show PE.imp (Vo (X:=wp X pn xe) hc hg hm hv h4 h3 (Aa ha Ab hs pn xe hp) hs he) λσ H Q q=>?_;let#[F,G,U,P,PX,h1,hw,h2,hx]:=q;show#[F,G,U,λM L=>match M with|[r]=>(zK (zW r L) λd=>match d with|.lst l=>l.length<=big/\P (.v (.lst (l.reverse.map .sh))) L|_=>False)|_=>False,PX,h1,hw,λM L Y F1 H1 J s1 r1 hl Z=>?_,hx];cases M with
 |nil=>show J.elim
 |cons r M=>
  cases M with
  |cons x M=>show J.elim
  |nil=>
   cases Y with
   |nil=>show Z.elim
   |cons v Y=>
    cases Y with
    |cons x Y=>show Z.2.elim
    |nil=>
     let#[d,ed,J]:=Ai J;let#[F2,s2,re,r2]:=AG (U':=[]) (σ':=[]) r1 hl Z.1 ed;rw[qB,qB]at r2;cases d with
     |lst l=>let#[hz,J]:=J;let#[t,xs,rfl,e,rx]:=re.lst r2.fr;let h5:=rx.len;let hb:l.length<=1000000:=hz;show#[t,xs,rfl,e,∅,λq hq=>?_];show h2 _ L _ _ _ J (s1.trans s2) (r2.newLD hq rx.rev) trivial
     |_=>show J.elim
def Vn{z:List Nat}(hc:X.calm=true)(k1:Gl X "reversed")(hd:X.mg "reversed"=none)(ho:FE X o (wC (.str z)))(ha:FE X a wa)
  (h3:autoParam (attributeBase o "join" X.env (eval o X.env)=eval o X.env) rZ9)
  (h5:autoParam (((backTo cpos (starEach [.Call (.Name "reversed" p1) [a] [] pos1] X.env)).all (λx=>!x.1)&&(backToKw cpos (keywordEach [] X.env)).all (λx=>x.1.isSome)
   &&↥([Expr.Call (.Name "reversed" p1) [a] [] pos1].length+([]:List Keyword).length+(if([]:List Keyword).isEmpty then 0 else 1)<30))=true) rZ9)
  (h2:autoParam ((apos.endLine==cpos.line)=true) rZ9)(hs:autoParam (starEach [a] X.env=[(false,eval a X.env)]) rZ9)(he:autoParam (starEach [.Call (.Name "reversed" p1) [a] [] pos1] X.env=[(false,eval (.Call (.Name "reversed" p1) [a] [] pos1) X.env)]) rZ9):
  FE X (.Call (.Attribute o "join" apos) [.Call (.Name "reversed" p1) [a] [] pos1] [] cpos) (gJ (wC (.str z)) wa):=λpn xe hp=>by
 intro z4 s σ H Q I q;let#[F,G,U,P,PX,h7,hw,hi,hx]:=q;show wpAny_Call_method_late h3 h5 h2 rfl (Aj (ho pn xe hp z4 s σ H (λo' H1=>∃x F1,o'=.str x/\x.cps.toList=z/\zL F F1/\Rel X.K U σ F1 G H1) I #[F,G,U,λy Y=>y=.v (.sh (.str z))/\Y=U,PX,h7,#[rfl,rfl],λy Y o' F1 H1 J s1 r1 M=>?_,hx]) λv s1 zq=>?_)
 .obtain⟨rfl,rfl⟩:=J;let l1:=Ag r1;let rq:=look (U':=[]) (σ':=[]) r1 l1 M (show view (.v (.sh (.str z))) Y=⇑(.str z) from rfl);cases rq with
  |str e0 z0=>show#[_,F1,rfl,e0,s1,r1.drop l1]
 .obtain⟨x,H1,I1,r1,z1,F1,rfl,ez,sm,h4⟩:=zq;let#[t,rfl]:=r1;show#["str","str.join",PySem.F.plainAttrs_str,PySem.F.slot_str_join,PySem.F.type_str_join,typeIs_str _ _ _,(λb z=>nomatch z),?_];rw[he];show Calls.callWith_builtin rfl (Calls.evalArgs_plain (Calls.spliced_cons (Call_ (BU I1 k1 hd Jl (PyProof.Rows.callWith_type1 ?_ hs rfl)))));rw[hs];refine Calls.spliced_cons (Aj (ha pn xe hp z4 s1 σ H1 (λv H2=>∃F2 U2 l xs b s,v=.ref b/\bO X.K H2 b xs/\zY X.K F2 xs l/\fW z l.reverse=⇑s/\l.length<=big/\zL F F2/\Rel X.K U2 σ F2 G H2/\P (.v s) U2) I1 #[F1,G,U,_,PX,h4,hw,λr U2 v F2 H2 J s2 r2 M=>?_,hx.grow sm]) λu s2 zq=>Calls.spliced_nil ?_)
  .obtain⟨d,ed,J⟩:=Ai J;let#[F3,s3,re,r3]:=AG (U':=[]) (σ':=[]) r2 (Ag r2) M ed;cases d with
   |lst l=>let#[s,es,hz,J]:=Ai J;let#[b,xs,rfl,e,rx]:=re.lst r3.fr;show#[F3,U2,l,xs,b,s,rfl,e,rx,es,hz,sm.trans (s2.trans s3),↑r3,J]
   |_=>show J.elim
  .obtain⟨v,H2,I2,M,F2,U2,l,xs,b,s,rfl,hq,rx,es,hz,h6,r2,hP⟩:=zq;obtain rfl:u=Value.ref b:=M;let#[Z,M,pt,_]:=I2.list hq;let e4:Z.toArray.size=xs.length:=by rw[qr,M.length]
   let k2:=rx.len;let hb:l.length<=1000000:=hz;let hm:b<s2.heap.objs.size:=by let#[_,e,_]:=pt.isList;show qe e
   let#[ys,e1,e2]:=bind_eq_some_iff.mp es;let#[L,h8,rfl]:=Gz rx.rev e1;subst ez;split at e2
   .rename_i h1;cases e2;let hl:∀z:Str,z.cps.toList.length=z.length:=λz=>by rw[qY];rfl
    let e3:((L.map λz=>z.cps.toList).map List.length)=L.map (·.length):=by rw[qH];show map_congr_left λz _=>hl z
    let h9:=h1;rw[e3,qo]at h1;show call_reversed_list pt.isList (Calls.spliced_nil ?_);show Sk (s:={s2 with heap:=s2.heap.push (revObj b ((Z.toArray.size:Int)-1))}) (items:=Z.toArray) (ys:=L) (I.ok.hd hc) ⟨_,qd _ rfl,rfl,rfl⟩ (pt.isList.at λo e=>qc _ e) (ne_of_lt hm) (by rw[e4];lia) (Fw (by rw[<-h8,List.toList_toArray];show M.reverse)) (le_trans h1 ⋯) λh' t' tk J k3=>?_;let hr:∀b o,s2.heap.get? b=⇑o->h'.get? b=⇑o:=λc o e=>J c o (ne_of_lt (qe e)) (qc _ e);show#[.str (Str.join z1 L),H2,I2.kept (t':=tk) hr,#[_,by rw[show Txt.join z1 L=Str.join z1 L from StrLaws.glued_eq_join z1 L]],hi _ U2 _ F2 H2 hP h6 (r2.push (.str (IC z1 L) ?_)) trivial];show le_trans (Jd _ _) (le_trans h9 ⋯)
   .cases e2
end
end FL
namespace FL
def e_C:wC d U Q E=Q (.v (.sh d)) U:=rfl
def kV(o:Option S)(Q:WQ)(U:Env):Prop:=zK o λs=>Q (.v s) U
def e_V:kV ⇑s Q U=Q (.v s) U:=rfl
def jK(o:D->D->Option S)(x y:Option D)(Q:WQ)(U:Env):Prop:=zK x λp=>zK y λq=>kV (o p q) Q U
def iF(o:D->D->Option S)(x:R)(Q:WQ):WQ:=λy v=>jK o (zW x v) (zW y v) Q v
def tZ(o:D->D->Option S)(b:WE)(Q:WQ)(E:WX):WQ:=λx v=>b v (iF o x Q) E
def zs8:zR o a b U Q E=a U (tZ o b Q E) E:=rfl
def zoE:tZ o b Q E x U=b U (iF o x Q) E:=rfl
def zoM:jK o ⇑p ⇑q Q U=kV (o p q) Q U:=rfl
def xV(o:D->Option S)(x:Option D)(Q:WQ)(U:Env):Prop:=zK x λp=>kV (o p) Q U
def ub(o:D->Option S)(Q:WQ):WQ:=λx U=>xV o (zW x U) Q U
def e_Un{o:D->Option S}:jW o a U Q E=a U (ub o Q) E:=rfl
def zrG{o:D->Option S}:ub o Q x U=xV o (zW x U) Q U:=rfl
def zr4{o:D->Option S}:xV o ⇑p Q U=kV (o p) Q U:=rfl
def kC(o:Option Bool)(Q:Bool->Env->Prop)(U:Env):Prop:=zK o λc=>Q c U
def e_Ck{c:Bool}:kC ⇑c QT U=QT c U:=rfl
def fH(o:D->D->Option Bool)(x y:Option D)(Q:Bool->Env->Prop)(U:Env):Prop:=zK x λp=>zK y λq=>kC (o p q) Q U
def iE(o:D->D->Option Bool)(x:R)(Q:Bool->Env->Prop):WQ:=λy v=>fH o (view x v) (view y v) Q v
def tX(o:D->D->Option Bool)(b:WE)(Q:Bool->Env->Prop)(E:WX):WQ:=λx v=>b v (iE o x Q) E
def zsV:aJ v a b U QT E=a U (tX v b QT E) E:=rfl
def zqp:tX v b QT E x U=b U (iE v x QT) E:=rfl
def zoo:fH v ⇑p ⇑q QT U=kC (v p q) QT U:=rfl
def aa(o':D->D->Option Bool)(y:R)(Q:Bool->Env->Prop):WQ:=λz v=>fH o' (view y v) (view z v) Q v
def sX(o':D->D->Option Bool)(y:R)(c:WE)(Q:Bool->Env->Prop)(E:WX):Bool->Env->Prop:=λk v=>if k then c v (aa o' y Q) E else Q false v
def ab(o o':D->D->Option Bool)(x:R)(c:WE)(Q:Bool->Env->Prop)(E:WX):WQ:=λy v=>fH o (view x v) (view y v) (sX o' y c Q E) v
def fj(o o':D->D->Option Bool)(b c:WE)(Q:Bool->Env->Prop)(E:WX):WQ:=λx v=>b v (ab o o' x c Q E) E
def e_Ch:iQ F v a b c U QT E=a U (fj F v b c QT E) E:=rfl
def zrL:fj F v b c QT E x U=b U (ab F v x c QT E) E:=rfl
def zt5:ab F v x c QT E y U=fH F (view x U) (view y U) (sX v y c QT E) U:=rfl
def zpi:sX v y c QT E true U=c U (aa v y QT) E:=rfl
def zo9:sX v y c QT E false U=QT false U:=rfl
def zsG:aa v y QT x U=fH v (view y U) (view x U) QT U:=rfl
def kN(x:Option D)(Q:Bool->Env->Prop)(U:Env):Prop:=zK x λp=>kC (fB p) Q U
def tV(Q:Bool->Env->Prop):WQ:=λx U=>kN (view x U) Q U
def zo3:fP a U QT E=a U (tV QT) E:=rfl
def zmG:tV QT x U=kN (view x U) QT U:=rfl
def zmB:kN ⇑p QT U=kC (fB p) QT U:=rfl
def ag(b:WT)(Q:Bool->Env->Prop)(E:WX):Bool->Env->Prop:=λc v=>if c then b v Q E else Q false v
def ztE:eX t u U QT E=t U (ag u QT E) E:=rfl
def zpd:ag u QT E true U=u U QT E:=rfl
def zoZ:ag u QT E false U=QT false U:=rfl
def oo(b:WT)(Q:Bool->Env->Prop)(E:WX):Bool->Env->Prop:=λc v=>if c then Q true v else b v Q E
def e_Or:mN t u U QT E=t U (oo u QT E) E:=rfl
def zs3:oo u QT E true U=QT true U:=rfl
def zsu:oo u QT E false U=u U QT E:=rfl
def eh(Q:Bool->Env->Prop):Bool->Env->Prop:=λc v=>Q (!c) v
def zrx:hW t U QT E=t U (eh QT) E:=rfl
def zpU{c:Bool}:eh QT c U=QT (!c) U:=rfl
def dz(Q:WQ):Bool->Env->Prop:=λc v=>Q (.v (.sh (.bl c))) v
def zsz:gH t U Q E=t U (dz Q) E:=rfl
def zps{c:Bool}:dz Q c U=Q (.v (.sh (.bl c))) U:=rfl
def mF(x:Option D)(b:WE)(Q:WQ)(E:WX)(U:Env):Prop:=match x with|some (.bl c)=>if c then Q (.v (.sh (.bl true))) U else b U Q E|_=>False
def dy(b:WE)(Q:WQ)(E:WX):WQ:=λx U=>mF (view x U) b Q E U
def zt7:uO a b U Q E=a U (dy b Q E) E:=rfl
def zqC:dy b Q E x U=mF (view x U) b Q E U:=rfl
def zoF:mF ⇑(.bl true) b Q E U=Q (.v (.sh (.bl true))) U:=rfl
def zoD:mF ⇑(.bl false) b Q E U=b U Q E:=rfl
def zrC:zI U QA E=QA [] U:=rfl
def kO(r:R)(Q:List R->Env->Prop):List R->Env->Prop:=λv U=>Q (r::v) U
def oU(b:WA)(Q:List R->Env->Prop)(E:WX):WQ:=λr v=>b v (kO r Q) E
def zp6:zH a wa U QA E=a U (oU wa QA E) E:=rfl
def znb:oU wa QA E r U=wa U (kO r QA) E:=rfl
def zng:kO r QA rs U=QA (r::rs) U:=rfl
def gj(s:S):Option (List S×Env)->Option (List S×Env)
 |some (ss,U)=>⇑(s::ss,U)
 |none=>none
def pd(rs:List R):Option (S×Env)->Option (List S×Env)
 |some (s,U)=>gj s (aI rs U)
 |none=>none
def ztt:aI [] U=⇑([],U):=rfl
theorem e_gA:aI (r::rs) U=pd rs (give r U):=by
 rw[aI];unfold pd;cases give r U with
 |none=>rfl
 |some z=>let#[s,v]:=z;show(match aI rs v with|some (ss,U2)=>⇑(s::ss,U2)|none=>none)=gj s (aI rs v);unfold gj;rfl
def zt3:pd rs ⇑(s,U)=gj s (aI rs U):=rfl
def zru:gj s ⇑(ss,U)=⇑(s::ss,U):=rfl
def gv(i:Nat)(U:Env):Option S->Option (S×Env)
 |some s=>⇑(.sh s.toD,U.set i ⇑(.sh s.toD))
 |none=>none
def e_gv:give (.v s) U=⇑(s,U):=rfl
theorem e_gl:give (.loc i) U=gv i U (slot U i):=by unfold give gv;rfl
def zt6:gv i U ⇑s=⇑(.sh s.toD,U.set i ⇑(.sh s.toD)):=rfl
def lY(l:Bool)(x:Option (List S×Env))(Q:WQ):Prop:=zK (if l then x else none) λp=>Q (.v (.sh (.tup (p.1.map S.toD)))) p.2
def mG(l:Bool)(x:Option (List S×Env))(Q:WQ):Prop:=zK (if l then x else none) λp=>Q (.v (.lst p.1)) p.2
def dZ(rs:List R):Bool:=↥(rs.length<=big)
def xW(Q:WQ):List R->Env->Prop:=λv U=>lY (dZ v) (aI v U) Q
def yO(Q:WQ):List R->Env->Prop:=λv U=>mG (dZ v) (aI v U) Q
theorem zta:cC wa U Q E=wa U (xW Q) E:=by unfold cC xW lY dZ;simp
def zoI:xW Q rs U=lY (dZ rs) (aI rs U) Q:=rfl
def zpf:lY true ⇑(ss,U) Q=Q (.v (.sh (.tup (ss.map S.toD)))) U:=rfl
theorem zrp:bS wa U Q E=wa U (yO Q) E:=by unfold bS yO mG dZ;simp
def zpH:yO Q rs U=mG (dZ rs) (aI rs U) Q:=rfl
def zp8:mG true ⇑(ss,U) Q=Q (.v (.lst ss)) U:=rfl
def e_l0:dZ []=true:=rfl
def e_l1:dZ [v]=true:=rfl
def e_l2:dZ [F,v]=true:=rfl
def e_l3:dZ [G,F,v]=true:=rfl
def e_l4:dZ [J,G,F,v]=true:=rfl
def e_l5:dZ [L,J,G,F,v]=true:=rfl
def e_vv:view (.v s) U=⇑s.toD:=rfl
def e_vl:view (.loc i) U=(slot U i).map S.toD:=rfl
def e_cv:zW (.v s) U=⇑s.toD:=rfl
def vC:Option S->Option D
 |some s=>if s.flat then ⇑s.toD else none
 |none=>none
theorem e_cl:zW (.loc i) U=vC (slot U i):=by unfold zW vC;rfl
theorem zpW(h:l.all S.isSh=true):vC ⇑(.lst l)=⇑(.lst (l.map S.toD)):=by show(if l.all S.isSh=true then ⇑(S.toD (.lst l))else none)=_;rw[zj h,S.toD_lst]
theorem e_sh{l:List D}:(l.map S.sh).all S.isSh=true:=by simp[S.isSh]
theorem zan{l:List D}:(l.map S.sh).map S.toD=l:=by rw[qH];show map_id l
theorem zs9:vC ⇑(.lst (l.map S.sh))=⇑(.lst l):=by rw[zpW e_sh,zan]
def sN(o:Option S)(Q:WQ)(U:Env):Prop:=match o with|some (.sh d)=>Q (.v (.sh d)) U|_=>False
def sO(o:Option S)(q:D)(Q:WQ)(U:Env):Prop:=match o with|some s=>sN (kQ s q) Q U|none=>False
def oP(x:R)(o:Option D)(Q:WQ)(U:Env):Prop:=zK o λq=>match x with|.v s=>kV (kQ s q) Q U|.loc i=>sO (slot U i) q Q U
def sP(x:R)(Q:WQ):WQ:=λy v=>oP x (view y v) Q v
def yS(b:WE)(Q:WQ)(E:WX):WQ:=λx v=>b v (sP x Q) E
theorem e_Ix:bX a b U Q E=a U (yS b Q E) E:=by unfold bX yS sP oP sO sN kV;rfl
def ztg:yS b Q E x U=b U (sP x Q) E:=rfl
def zsL:sP x Q y U=oP x (view y U) Q U:=rfl
def zqs:oP (.v s) ⇑q Q U=kV (kQ s q) Q U:=rfl
def zn4:oP (.loc i) ⇑q Q U=sO (slot U i) q Q U:=rfl
def zrs:sO ⇑s q Q U=sN (kQ s q) Q U:=rfl
def zrE:sN ⇑(.sh d) Q U=Q (.v (.sh d)) U:=rfl
def zry:kQ (.sh (.tup l)) (.int z)=(atI l z).map S.sh:=rfl
def zq6:kQ (.sh (.lst l)) (.int z)=(atI l z).map S.sh:=rfl
def ztx:kQ (.sh (.str l)) (.int z)=(atI l z).map λc=>S.sh (.str [c]):=rfl
def ztN:kQ (.lst l) (.int z)=atI l z:=rfl
def Cv(F:0<=z)(h:l[z.toNat]?=⇑v):atI l z=⇑v:=by let:z.toNat<l.length:=(qg.mp h).1;unfold atI ixN;rw[zj F,zj ∅];show h
theorem zto:atI (v::l) 0=⇑v:=Cv ⋯ rfl
theorem zr5:atI (F::v::l) 1=⇑v:=Cv ⋯ rfl
theorem zrO:atI (G::F::v::l) 2=⇑v:=Cv ⋯ rfl
theorem ztW:atI (J::G::F::v::l) 3=⇑v:=Cv ⋯ rfl
theorem zrI:atI (L::J::G::F::v::l) 4=⇑v:=Cv ⋯ rfl
def pA(s:S):Option (List S×Env)->Option (List S×Env)
 |some (ss,U)=>⇑(s::ss,U)
 |none=>none
theorem e_p0:cW ms [] U=⇑([],U):=by cases ms<;>rfl
theorem e_pv:cW (h::ms) (.v s::rs) U=pA s (cW ms rs U):=by rw[cW];unfold pA;rfl
def pL(i:Nat)(o:Option S)(ms:List Bool)(rs:List R)(U:Env):Option (List S×Env):=match o with
 |some s=>pA s (cW ms rs (U.set i none))
 |none=>none
theorem e_pl:cW (true::ms) (.loc i::rs) U=pL i (slot U i) ms rs U:=by rw[cW];unfold pL pA;cases slot U i<;>rfl
def ztI:pL i ⇑s ms rs U=pA s (cW ms rs (U.set i none)):=rfl
def e_pA:pA s ⇑(ss,U)=⇑(s::ss,U):=rfl
def e_b0:back ms [] ss U=U:=rfl
def e_bv{s t:S}:back (h::ms) (.v s::rs) (t::ss) U=back ms rs ss U:=rfl
def e_bl{t:S}:back (true::ms) (.loc i::rs) (t::ss) U=back ms rs ss (U.set i ⇑t):=rfl
def oT(ms:List Bool)(rs:List R)(U:Env)(Q:WQ):S->List S->Prop:=λs v=>Q (.v s) (back ms rs v U)
def fk(ms:List Bool)(rs:List R)(U:Env)(E:WX):D->List S->Prop:=λx v=>E x (back ms rs v U)
def kP(f:WF)(ms:List Bool)(rs:List R)(o:Option (List S×Env))(Q:WQ)(E:WX):Prop:=zK o λp=>f p.1 (oT ms rs p.2 Q) (fk ms rs p.2 E)
def tY(f:WF)(ms:List Bool)(Q:WQ)(E:WX):List R->Env->Prop:=λv U=>kP f ms v (cW ms v U) Q E
def zqq:zT f ms wa U Q E=wa U (tY f ms Q E) E:=rfl
def znD:tY f ms Q E rs U=kP f ms rs (cW ms rs U) Q E:=rfl
def zmK:kP f ms rs ⇑(ss,U) Q E=f ss (oT ms rs U Q) (fk ms rs U E):=rfl
def zoL:oT ms rs U Q s ss=Q (.v s) (back ms rs ss U):=rfl
def vA:Option D->Option (List D)->Option (List D)
 |some d,some ds=>⇑(d::ds)
 |_,_=>none
def gK(rs:List R)(U:Env):Option (List D):=match rs with
 |[]=>⇑[]
 |r::rs=>vA (zW r U) (gK rs U)
def Ie:∀rs:List R,(rs.mapM λr=>zW r U)=gK rs U
 |[]=>rfl
 |r::rs=>by
  rw[List.mapM_cons,Ie rs,gK];cases zW r U with
  |none=>rfl
  |some d=>cases gK rs U<;>rfl
def zqQ:gK [] U=⇑[]:=rfl
def e_vA:gK (r::rs) U=vA (zW r U) (gK rs U):=rfl
def zsC:vA ⇑d ⇑ds=⇑(d::ds):=rfl
def ae(f:List D->Option S)(o:Option (List D))(Q:WQ)(U:Env):Prop:=zK o λv=>kV (f v) Q U
def kB(f:List D->Option S)(Q:WQ):List R->Env->Prop:=λv U=>ae f (gK v U) Q U
theorem e_B:wB f wa U Q E=wa U (kB f Q) E:=by unfold wB kB ae kV;simp only[Ie]
def e_B1:kB f Q rs U=ae f (gK rs U) Q U:=rfl
def e_B2:ae f ⇑ds Q U=kV (f ds) Q U:=rfl
def sL(f:List Nat->List D->Option S)(l:List Nat)(Q:WQ):List R->Env->Prop:=λv U=>ae (f l) (gK v U) Q U
def oq(f:List Nat->List D->Option S)(wa:WA)(Q:WQ)(E:WX):WQ:=λx U=>match x with
 |.v (.sh (.str l))=>wa U (sL f l Q) E
 |_=>False
theorem e_MS:uP f a wa U Q E=a U (oq f wa Q E) E:=by unfold uP oq sL ae kV;simp only[Ie];all_goals rfl
def zsF:oq f wa Q E (.v (.sh (.str l))) U=wa U (sL f l Q) E:=rfl
def ztz:sL f l Q rs U=ae (f l) (gK rs U) Q U:=rfl
def sY(j:Nat)(s:S)(o:Option S)(U:Env)(Q:WQ):Prop:=match o with
 |some (.lst l)=>l.length<big/\Q (.v (.sh .non)) (U.set j ⇑(.lst (l++[s])))
 |_=>False
def sZ(j:Nat)(o:Option (S×Env))(Q:WQ):Prop:=zK o λp=>sY j p.1 (slot p.2 j) p.2 Q
def tB(j:Nat)(Q:WQ):WQ:=λr U=>sZ j (give r U) Q
def ow(j:Nat)(o:Option S)(a:WE)(U:Env)(Q:WQ)(E:WX):Prop:=match o with
 |some (.lst _)=>a U (tB j Q) E
 |_=>False
theorem e_Ap:aV j a U Q E=ow j (slot U j) a U Q E:=by unfold aV ow tB sZ sY;rfl
def zrZ:ow j ⇑(.lst l) a U Q E=a U (tB j Q) E:=rfl
def zsO:tB j Q r U=sZ j (give r U) Q:=rfl
def zsR:sZ j ⇑(s,U) Q=sY j s (slot U j) U Q:=rfl
def ztC:sY j s ⇑(.lst l) U Q=(l.length<big/\Q (.v (.sh .non)) (U.set j ⇑(.lst (l++[s])))):=rfl
def mD(j:Nat)(o:Option D)(p:Option S)(U:Env)(Q:WQ):Prop:=match o,p with
 |some (.int i),some (.lst l)=>zK (if l.length<=big then ixN l.length i else none) λk=>zK l[k]? λs=>Q (.v s) (U.set j ⇑(.lst (l.eraseIdx k)))
 |_,_=>False
def mE(j:Nat)(Q:WQ):WQ:=λr U=>mD j (view r U) (slot U j) U Q
def yN(j:Nat)(o:Option S)(a:WE)(U:Env)(Q:WQ)(E:WX):Prop:=match o with
 |some (.lst _)=>a U (mE j Q) E
 |_=>False
theorem zrB:gG j a U Q E=yN j (slot U j) a U Q E:=by unfold gG yN mE mD;rfl
def zp2:yN j ⇑(.lst l) a U Q E=a U (mE j Q) E:=rfl
def zpj:mE j Q r U=mD j (view r U) (slot U j) U Q:=rfl
def Ke(G:0<=z)(F:l.length<=big)(h:l[z.toNat]?=⇑s)(v:Q (.v s) (U.set j ⇑(.lst (l.eraseIdx z.toNat)))):mD j ⇑(.int z) ⇑(.lst l) U Q:=by
 let:z.toNat<l.length:=(qg.mp h).1;let e:(if l.length<=big then ixN l.length z else none)=⇑z.toNat:=by unfold ixN;rw[zj F,zj G,zj ∅]
 show zK (if l.length<=big then ixN l.length z else none) _;rw[e,GQ,h];show v
def oR(T:String)(o:Option D)(Q:WQ)(U:Env):Prop:=zK o λd=>iC d=true/\Q (.v (.sh (.bl (kR T d)))) U
def fe(T:String)(Q:WQ):WQ:=λx U=>oR T (view x U) Q U
def zt2:uQ T a U Q E=a U (fe T Q) E:=rfl
def zn5:fe T Q x U=oR T (view x U) Q U:=rfl
theorem znh{l:List D}:oR T ⇑(.tup l) Q U=Q (.v (.sh (.bl (kR T (.tup l))))) U:=by show(_/\_)=_;simp[iC]
def sF(j:Nat)(r:R)(o:Option S)(U:Env)(Q:WQ):Prop:=match r,o with
 |.v (.lst m),some (.lst l)=>l.length+m.length<=big/\Q (.v (.sh .non)) (U.set j ⇑(.lst (l++m)))
 |_,_=>False
def sG(j:Nat)(Q:WQ):WQ:=λr U=>sF j r (slot U j) U Q
def oh(j:Nat)(o:Option S)(a:WE)(U:Env)(Q:WQ)(E:WX):Prop:=match o with
 |some (.lst _)=>a U (sG j Q) E
 |_=>False
theorem e_Xt:gD j a U Q E=oh j (slot U j) a U Q E:=by unfold gD oh sG sF;rfl
def zse:oh j ⇑(.lst l) a U Q E=a U (sG j Q) E:=rfl
def zr9:sG j Q r U=sF j r (slot U j) U Q:=rfl
def zqJ{l m:List S}:sF j (.v (.lst m)) ⇑(.lst l) U Q=(l.length+m.length<=big/\Q (.v (.sh .non)) (U.set j ⇑(.lst (l++m)))):=rfl
def yY(o:Option D)(p:Option (S×Env))(Q:WQ):Prop:=zK o λq=>zK p λp=>dJ q=true/\Q (.v (.dct false [q] [p.1])) p.2
def yZ(x:R)(Q:WQ):WQ:=λy U=>yY (view x U) (give y U) Q
def fh(v:WE)(Q:WQ)(E:WX):WQ:=λx U=>v U (yZ x Q) E
def e_Di:iP a b U Q E=a U (fh b Q E) E:=rfl
def zqU:fh b Q E x U=b U (yZ x Q) E:=rfl
def zqX:yZ x Q y U=yY (view x U) (give y U) Q:=rfl
def zrl:yY ⇑q ⇑(s,U) Q=(dJ q=true/\Q (.v (.dct false [q] [s])) U):=rfl
def zpy:dJ (.int z)=true:=rfl
def yM(o:Option D)(Q:Option Int->Env->Prop)(U:Env):Prop:=match o with|some (.int i)=>Q ⇑i U|_=>False
def uh(Q:Option Int->Env->Prop):WQ:=λx U=>yM (view x U) Q U
def zri{Q:Option Int->Env->Prop}:fQ none U Q E=Q none U:=rfl
def e_Pt{Q:Option Int->Env->Prop}:fQ ⇑a U Q E=a U (uh Q) E:=rfl
def zt4{Q:Option Int->Env->Prop}:uh Q x U=yM (view x U) Q U:=rfl
def zsM{Q:Option Int->Env->Prop}:yM ⇑(.int z) Q U=Q ⇑z U:=rfl
def xX(o:Option D)(l h:Option Int)(Q:WQ)(U:Env):Prop:=zK o λd=>kV (jX d l h) Q U
def xY(x:R)(l:Option Int)(Q:WQ):Option Int->Env->Prop:=λh U=>xX (zW x U) l h Q U
def xZ(x:R)(hi:Option WE)(Q:WQ)(E:WX):Option Int->Env->Prop:=λl U=>fQ hi U (xY x l Q) E
def uc(lo hi:Option WE)(Q:WQ)(E:WX):WQ:=λx U=>fQ lo U (xZ x hi Q E) E
def e_Sl:fJ a lo hi U Q E=a U (uc lo hi Q E) E:=rfl
def ztT:uc lo hi Q E x U=fQ lo U (xZ x hi Q E) E:=rfl
def ztu:xZ x hi Q E l U=fQ hi U (xY x l Q) E:=rfl
def zrK:xY x l Q h U=xX (zW x U) l h Q U:=rfl
def ztA:xX ⇑d l h Q U=kV (jX d l h) Q U:=rfl
def bb(D:Ends)(k:Env->Prop):Ends:={D with nx:=k}
def e_nx:(bb D' K).nx=K:=rfl
def e_rt:(bb D' K).rt=D'.rt:=rfl
def e_ex:(bb D' K).ex=D'.ex:=rfl
def zpC:aO D' U=D'.nx U:=rfl
def zro:zS v w D' U=v (bb D' (w D')) U:=rfl
def jm(a b:WS)(D:Ends):Bool->Env->Prop:=λk U=>if k then a D U else b D U
def e_If:eD t v w D' U=t U (jm v w D') D'.ex:=rfl
def zsP:jm v w D' true U=v D' U:=rfl
def ztd:jm v w D' false U=w D' U:=rfl
def zq9:bB a D' U=a U D'.rt D'.ex:=rfl
def uv(D:Ends):WQ:=λ_ U=>D.nx U
def zpa:wExpr a D' U=a U (uv D') D'.ex:=rfl
def zmY:uv D' r U=D'.nx U:=rfl
def oV(g:WG)(D:Ends)(o:Option (S×Env)):Prop:=zK o λp=>g p.1 p.2 D.nx
def fm(g:WG)(D:Ends):WQ:=λr U=>oV g D (give r U)
def zsw:zU g a D' U=a U (fm g D') D'.ex:=rfl
def zoO:fm g D' r U=oV g D' (give r U):=rfl
def zph:oV g D' ⇑(s,U)=g s U D'.nx:=rfl
def e_gN:zJ i s U K=K (U.set i ⇑s):=rfl
def uo(v:List WG)(d:D)(U:Env)(Q:Env->Prop):Prop:=match d with|.tup ds=>ds.length=v.length/\eS v ds U Q|_=>False
def e_gT:dA v s U K=uo v s.toD U K:=rfl
def zq2:uo v (.tup ds) U K=(ds.length=v.length/\eS v ds U K):=rfl
def ff(v:List WG)(ds:List D)(Q:Env->Prop):Env->Prop:=λU=>eS v ds U Q
def zsq:eS [] [] U K=K U:=rfl
def zrF:eS (g::v) (d::ds) U K=g (.sh d) U (ff v ds K):=rfl
def zrq:ff v ds K U=eS v ds U K:=rfl
def iD(j:Nat)(D:Ends)(x:R)(q:FL.D)(s:S)(o:Option S)(U:Env):Prop:=match x,q,o with
 |.loc k,.int n,some (.lst l)=>k=j/\zK (ixN l.length n) λm=>D.nx (U.set j ⇑(.lst (l.set m s)))
 |_,_,_=>False
def lZ(j:Nat)(D:Ends)(x:R)(o:Option FL.D)(p:Option (S×Env)):Prop:=zK o λq=>zK p λp=>iD j D x q p.1 (slot p.2 j) p.2
def mB(j:Nat)(D:Ends)(r x:R):WQ:=λy U=>lZ j D x (view y U) (give r U)
def mC(j:Nat)(i:WE)(D:Ends)(r:R):WQ:=λx U=>i U (mB j D r x) D.ex
def oM(j:Nat)(i:WE)(D:Ends):WQ:=λr U=>zG j U (mC j i D r) D.ex
theorem ztJ:fN j a b D' U=b U (oM j a D') D'.ex:=by unfold fN oM mC mB lZ iD;rfl
def zqb:oM j a D' r U=zG j U (mC j a D' r) D'.ex:=rfl
def zn9:mC j a D' r x U=a U (mB j D' r x) D'.ex:=rfl
def zpB:mB j D' r x y U=lZ j D' x (view y U) (give r U):=rfl
def zo0:lZ j D' x ⇑q ⇑(s,U)=iD j D' x q s (slot U j) U:=rfl
def HH(v:0<=z)(h1:z<l.length):iD j D' (.loc j) (.int z) s ⇑(.lst l) U=D'.nx (U.set j ⇑(.lst (l.set z.toNat s))):=by show(j=j/\zK (ixN l.length z) _)=_;unfold ixN;rw[zj v,zj h1,GQ];simp
theorem znX:iD j D' (.loc j) (.int 0) s ⇑(.lst [s0,v]) U=D'.nx (U.set j ⇑(.lst [s,v])):=HH ⋯ (by show(0:Int)<2;decide)
theorem znJ:iD j D' (.loc j) (.int 1) s ⇑(.lst [s0,v]) U=D'.nx (U.set j ⇑(.lst [s0,s])):=HH ⋯ (by show(1:Int)<2;decide)
def sS(j:Nat)(D:Ends)(q:FL.D)(s:S)(o:Option S)(U:Env):Prop:=match o with
 |some (.dct t ks l)=>cL t q=true/\ks.Nodup/\ks.length<big/\D.nx (U.set j ⇑(cM t ks l q s))
 |_=>False
def sT(j:Nat)(D:Ends)(x:R)(o:Option FL.D)(p:Option (S×Env)):Prop:=zK o λq=>zK p λp=>match x with
 |.loc k=>k=j/\sS j D q p.1 (slot p.2 j) p.2
 |_=>False
def sU(j:Nat)(D:Ends)(r x:R):WQ:=λy U=>sT j D x (view y U) (give r U)
def sV(j:Nat)(i:WE)(D:Ends)(r:R):WQ:=λx U=>i U (sU j D r x) D.ex
def sW(j:Nat)(i:WE)(D:Ends):WQ:=λr U=>zG j U (sV j i D r) D.ex
theorem e_Dp:lS j a b D' U=b U (sW j a D') D'.ex:=by
 have e:(λ(r:R)(J:Env)=>zG j J (λx G=>a G (λy F=>zK (view y F) λq=>zK (give r F) λp=>match x,slot p.2 j with
  |.loc k,some (.dct t ks l)=>k=j/\cL t q=true/\ks.Nodup/\ks.length<big/\D'.nx (p.2.set j ⇑(cM t ks l q p.1))
  |_,_=>False) D'.ex) D'.ex)=sW j a D':=by
  funext r J
  unfold sW sV sU sT sS;congr 1
  funext x G
  congr 1
  funext y F
  cases view y F with
  |none=>rfl
  |some q=>
   cases give r F with
   |none=>rfl
   |some p=>
    simp only[GQ];cases x with
    |v s=>cases slot p.2 j<;>rfl
    |loc k=>
     cases slot p.2 j with
     |none=>simp
     |some s=>
      cases s with
      |dct t ks l=>simp
      |_=>simp
 show congrArg (λz=>b U z D'.ex) e
def zss:sW j a D' r U=zG j U (sV j a D' r) D'.ex:=rfl
def zqF:sV j a D' r x U=a U (sU j D' r x) D'.ex:=rfl
def zsW:sU j D' r x y U=sT j D' x (view y U) (give r U):=rfl
theorem ztp:sT j D' (.loc j) ⇑q ⇑(s,U)=sS j D' q s (slot U j) U:=by show(j=j/\_)=_;simp
def zsZ:sS j D' q s ⇑(.dct false ks l) U=(dJ q=true/\ks.Nodup/\ks.length<big/\D'.nx (U.set j ⇑(cM false ks l q s))):=rfl
def oQ(o:Option (List D))(U:Env)(Q:List D->Env->Prop):Prop:=zK o λl=>Q l U
def yT(o:Option (S×Env))(Q:List D->Env->Prop):Prop:=zK o λp=>oQ (items p.1.toD) p.2 Q
def um(Q:List D->Env->Prop):WQ:=λr U=>yT (give r U) Q
def e_It:cD a U QI E=a U (um QI) E:=rfl
def ztY:um QI r U=yT (give r U) QI:=rfl
def zsi:yT ⇑(s,U) QI=oQ (items s.toD) U QI:=rfl
def zq3:oQ ⇑l U QI=QI l U:=rfl
def zqP:items (.lst l)=⇑l:=rfl
def zs0:items (.tup l)=⇑l:=rfl
def yW(o:Option (List D))(U:Env)(Q:List D->Env->Prop):Prop:=zK o λl=>Q (cE 0 l) U
def yX(o:Option (S×Env))(Q:List D->Env->Prop):Prop:=zK o λp=>yW (items p.1.toD) p.2 Q
def uw(Q:List D->Env->Prop):WQ:=λr U=>yX (give r U) Q
def e_En:jG a U QI E=a U (uw QI) E:=rfl
def zte:uw QI r U=yX (give r U) QI:=rfl
def zqW:yX ⇑(s,U) QI=yW (items s.toD) U QI:=rfl
def zrc:yW ⇑l U QI=QI (cE 0 l) U:=rfl
def xO(o p:Option (List D))(U:Env)(Q:List D->Env->Prop):Prop:=zK o λl=>zK p λm=>Q (dR l m) U
def xP(s:S)(o:Option (S×Env))(Q:List D->Env->Prop):Prop:=zK o λq=>xO (items s.toD) (items q.1.toD) q.2 Q
def xQ(t:R)(o:Option (S×Env))(Q:List D->Env->Prop):Prop:=zK o λp=>xP p.1 (give t p.2) Q
def xR(r:R)(Q:List D->Env->Prop):WQ:=λt U=>xQ t (give r U) Q
def ua(b:WE)(Q:List D->Env->Prop)(E:WX):WQ:=λr U=>b U (xR r Q) E
def e_Zi:pW a b U QI E=a U (ua b QI E) E:=rfl
def zrb:ua b QI E r U=b U (xR r QI) E:=rfl
def zq7:xR r QI x U=xQ x (give r U) QI:=rfl
def zrP:xQ x ⇑(s,U) QI=xP s (give x U) QI:=rfl
def ztw:xP s' ⇑(s,U) QI=xO (items s'.toD) (items s.toD) U QI:=rfl
def ztX{l m:List D}:xO ⇑l ⇑m U QI=QI (dR l m) U:=rfl
def yL(o:Option D)(Q:List D->Env->Prop)(U:Env):Prop:=match o with|some (.int j)=>(-big<=j/\j<=big)/\Q (fromTo 0 j.toNat) U|_=>False
def ug(Q:List D->Env->Prop):WQ:=λr U=>yL (view r U) Q U
def e_R1:bC a U QI E=a U (ug QI) E:=rfl
def zs7:ug QI r U=yL (view r U) QI U:=rfl
def zsA:yL ⇑(.int z) QI U=((-big<=z/\z<=big)/\QI (fromTo 0 z.toNat) U):=rfl
def yJ(o p:Option D)(Q:List D->Env->Prop)(U:Env):Prop:=match o,p with|some (.int i),some (.int j)=>(-big<=i/\i<=big/\-big<=j/\j<=big)/\Q (fromTo i (j-i).toNat) U|_,_=>False
def yK(r:R)(Q:List D->Env->Prop):WQ:=λt U=>yJ (view r U) (view t U) Q U
def uf(b:WE)(Q:List D->Env->Prop)(E:WX):WQ:=λr U=>b U (yK r Q) E
def e_R2:eZ a b U QI E=a U (uf b QI E) E:=rfl
def zsQ:uf b QI E r U=b U (yK r QI) E:=rfl
def zsj:yK r QI x U=yJ (view r U) (view x U) QI U:=rfl
def zsY:yJ ⇑(.int z) ⇑(.int v) QI U=((-big<=z/\z<=big/\-big<=v/\v<=big)/\QI (fromTo z (v-z).toNat) U):=rfl
def kFor(g:WG)(b:WS)(D:Ends):List FL.D->Env->Prop:=λl U=>cV g b l D U
def zty:dM F g v D' U=F U (kFor g v D') D'.ex:=rfl
def zog:kFor g v D' l U=cV g v l D' U:=rfl
def wz(g:WG)(b:WS)(xs:List FL.D)(D:Ends):Ends:={D with nx:=cV g b xs D,ct:=cV g b xs D,bk:=D.nx}
def oN(n:Nat)(o:Option S)(U:Env)(Q:WQ):Prop:=zK o λs=>Q (.v s) (U.take n)
def oO(n:Nat)(Q:WQ):Env->Prop:=λU=>oN n (slot U n) U Q
def sM(n:Nat)(E:WX):WX:=NX
def uj(n k:Nat)(g:WG)(c:WT)(b:WB)(Q:WQ)(E:WX):List D->Env->Prop:=λl U=>aS g c b l (U++⇑(.lst [])::List.replicate k none) (oO n Q) (sM n E)
def e_LC:hX n m v g c F U Q E=v U (uj n m g c F Q E) E:=rfl
def zsT:uj n m g c v Q E l U=aS g c v l (U++⇑(.lst [])::List.replicate m none) (oO n Q) (sM n E):=rfl
def zsh:oO n Q U=oN n (slot U n) U Q:=rfl
def zox:oN n ⇑s U Q=Q (.v s) (U.take n):=rfl
def sE(g:WG)(c:WT)(b:WB)(xs:List D)(Q:Env->Prop)(E:WX):Env->Prop:=λU=>aS g c b xs U Q E
def xN(g:WG)(c:WT)(b:WB)(xs:List D)(Q:Env->Prop)(E:WX):Bool->Env->Prop:=λk U=>if k then b U (sE g c b xs Q E) E else aS g c b xs U Q E
def tq(g:WG)(c:WT)(b:WB)(xs:List D)(Q:Env->Prop)(E:WX):Env->Prop:=λU=>c U (xN g c b xs Q E) E
def gk:aS g c v (d::xs) U QE E=g (.sh d) U (tq g c v xs QE E):=rfl
def zrD:tq g c v xs QE E U=c U (xN g c v xs QE E) E:=rfl
def zn8:xN g c v xs QE E true U=v U (sE g c v xs QE E) E:=rfl
def zso:sE g c v xs QE E U=aS g c v xs U QE E:=rfl
def sQ(n:Nat)(s:S)(o:Option S)(U:Env)(Q:Env->Prop):Prop:=match o with
 |some (.lst l)=>l.length<big/\Q (U.set n ⇑(.lst (l++[s])))
 |_=>False
def sR(n:Nat)(o:Option (S×Env))(Q:Env->Prop):Prop:=zK o λp=>sQ n p.1 (slot p.2 n) p.2 Q
def ou(n:Nat)(Q:Env->Prop):WQ:=λr U=>sR n (give r U) Q
theorem e_Em:bE n a U QE E=a U (ou n QE) E:=by unfold bE ou sR sQ;rfl
def zrh:ou n QE r U=sR n (give r U) QE:=rfl
def zst:sR n ⇑(s,U) QE=sQ n s (slot U n) U QE:=rfl
def zs6:sQ n s ⇑(.lst l) U QE=(l.length<big/\QE (U.set n ⇑(.lst (l++[s])))):=rfl
def tu(g:WG)(c:WT)(b:WB)(Q:Env->Prop)(E:WX):List D->Env->Prop:=λl U=>aS g c b l U Q E
def e_bF:tF v g c F U QE E=v U (tu g c F QE E) E:=rfl
def ztV:tu g c v QE E l U=aS g c v l U QE E:=rfl
def zqL:eC U QT E=QT true U:=rfl
def yV(o:Option (List S))(P:S->List S->Prop)(s:S):Prop:=zK o λfs=>P s fs
def yA(n:Nat)(ss:List S)(P:S->List S->Prop)(i:Nat)(o:Option S)(U:Env):Prop:=zK o λs=>if i<n then yV (aD ss (U.set i ⇑(.sh s.toD))) P (.sh s.toD)else yV (aD ss U) P s
def jl(n:Nat)(ss:List S)(P:S->List S->Prop):WQ:=λr U=>match r with
 |.v s=>yV (aD ss U) P s
 |.loc i=>yA n ss P i (slot U i) U
def uz(n:Nat)(ss:List S)(P:S->List S->Prop)(PX:D->List S->Prop):Ends where
 nx:=λU=>yV (aD ss U) P (.sh .non)
 rt:=jl n ss P
 bk:=λ_=>False
 ct:=λ_=>False
 ex:=λx U=>zK (aD ss U) λfs=>PX x fs
def AM(F:ss.length=n)(G:((List.range ss.length).all λi=>↥(i∈ks))=true)(h:v (uz n ss P PX) (ss.map some++List.replicate (m-n) none)):eU n m ks v ss P PX:=by show#[F,λi s hi=>?_,h];let:=(qg.mp hi).1;show .inl (by simpa using qL.mp G i ↑this)
def zsI:(uz n ss P PX).rt=jl n ss P:=rfl
def e_Rt:jl n ss P (.v s) U=yV (aD ss U) P s:=rfl
def zrg:jl n ss P (.loc i) U=yA n ss P i (slot U i) U:=rfl
theorem zrM(h:¬i<n):yA n ss P i ⇑s U=yV (aD ss U) P s:=by show(if i<n then _ else _)=_;rw[zk h]
def e_Fn:yV ⇑fs P s=P s fs:=rfl
def fA(s:S):Option (List S)->Option (List S)
 |some fs=>⇑(s::fs)
 |none=>none
theorem e_f0:aD [] U=⇑[]:=by cases U<;>rfl
theorem e_fs:aD (.sh d::ss) (o::U)=fA (.sh d) (aD ss U):=by show(aD ss U).map _=_;cases aD ss U<;>rfl
theorem e_fl:aD (.lst l::ss) (⇑s::U)=fA s (aD ss U):=by show(aD ss U).map _=_;cases aD ss U<;>rfl
def e_fA:fA s ⇑fs=⇑(s::fs):=rfl
def zr0:aQ (.int i) (.int j)=⇑(.sh (.int (i+j))):=rfl
theorem zpt(h:x.length+y.length<=big):aQ (.str x) (.str y)=⇑(.sh (.str (x++y))):=zj h
theorem zmi(h:l.length+m.length<=big):aQ (.lst l) (.lst m)=⇑(.lst ((l++m).map .sh)):=zj h
theorem zpJ(h:l.length+m.length<=big):aQ (.tup l) (.tup m)=⇑(.sh (.tup (l++m))):=zj h
def zsg:dQ (.int i) (.int j)=⇑(.sh (.int (i-j))):=rfl
theorem zoy(h:-(2^64)<i/\i<2^64):oJ (.int i) (.int j)=⇑(.sh (.int (i*j))):=by show(if lX i j=true then _ else none)=_;rw[zj (by simp only[lX,h.1,h.2,decide_true,Bool.and_self,Bool.true_or])]
theorem zq5(h:0<j):fE (.int i) (.int j)=⇑(.sh (.int (i %j))):=zj h
theorem zoJ(h:0<j)(h2:j<18446744073709551616):iB (.int i) (.int j)=⇑(.sh (.int (i/j))):=zj #[h,h2]
theorem zrT(h:0<=j/\j<=1000/\i.natAbs<2^64):oI (.int i) (.int j)=⇑(.sh (.int (i^j.toNat))):=zj h
def zqK:eJ (.int i)=⇑(.sh (.int (-i))):=rfl
def e_lt:uA (.int i) (.int j)=⇑↥(i<j):=rfl
def e_gt:oY (.int i) (.int j)=⇑↥(j<i):=rfl
def e_le:jn (.int i) (.int j)=⇑↥(i<=j):=rfl
def e_ge:bj (.int i) (.int j)=⇑↥(j<=i):=rfl
theorem zqn:eK (.int i) (.int j)=⇑↥(i=j):=by unfold eK;rw[zk (by show λz=>Bool.noConfusion (show false=true from z))];simp
theorem zqI:eT (.int i) (.int j)=⇑(!decide (i=j)):=by unfold eT;rw[zqn];rfl
theorem zpD:eK (.str x) (.str y)=⇑↥(x=y):=by unfold eK;rw[zk (by show λz=>Bool.noConfusion (show false=true from z))];simp
theorem ztU:eT (.str x) (.str y)=⇑(!decide (x=y)):=by unfold eT;rw[zpD];rfl
def zt0:fB (.bl b)=⇑b:=rfl
def zn7:aN [.str x]=⇑(.sh (.int x.length)):=rfl
def zpK:aN [.tup l]=⇑(.sh (.int l.length)):=rfl
def zop:aN [.lst l]=⇑(.sh (.int l.length)):=rfl
def zn1:mU [.bl b]=⇑(.sh (.int (if b then 1 else 0))):=rfl
def zov:cB [.lst l]=⇑(.sh (.tup l)):=rfl
def zpZ:eM [.lst l]=⇑(.lst (l.map .sh)):=rfl
theorem zmo(h:x.length<=big):eM [.str x]=⇑(.lst (x.map λc=>.sh (.str [c]))):=zj h
def zsd:mT [.int i,.int j]=⇑(.sh (.int (if j>i then j else i))):=rfl
def zqY:kT [.int i,.int j]=⇑(.sh (.int (if j<i then j else i))):=rfl
def zsD:jX (.str x) a b=⇑(.sh (.str (aP x a b))):=rfl
def zrR:jX (.tup l) a b=⇑(.sh (.tup (aP l a b))):=rfl
def ztK:jX (.lst l) a b=⇑(.lst ((aP l a b).map .sh)):=rfl
def zr2:zG 0 (⇑(.sh d)::U) Q E=Q (.v (.sh d)) (⇑(.sh d)::U):=rfl
def zsK:zG 0 (⇑(.lst l)::U) Q E=Q (.loc 0) (⇑(.lst l)::U):=rfl
def zsv:slot (v::U) 0=v:=rfl
def zrk:List.set (u::U) 0 v=v::U:=rfl
def zth:zG 1 (s0::⇑(.sh d)::U) Q E=Q (.v (.sh d)) (s0::⇑(.sh d)::U):=rfl
def zqN:zG 1 (s0::⇑(.lst l)::U) Q E=Q (.loc 1) (s0::⇑(.lst l)::U):=rfl
def ztb:slot (s0::v::U) 1=v:=rfl
def zrU:List.set (s0::u::U) 1 v=s0::v::U:=rfl
def zs1:zG 2 (s0::v::⇑(.sh d)::U) Q E=Q (.v (.sh d)) (s0::v::⇑(.sh d)::U):=rfl
def zrz:zG 2 (s0::v::⇑(.lst l)::U) Q E=Q (.loc 2) (s0::v::⇑(.lst l)::U):=rfl
def zs2:zG 2 (s0::v::⇑(.dct t ks l)::U) Q E=Q (.loc 2) (s0::v::⇑(.dct t ks l)::U):=rfl
def zr7:slot (s0::F::v::U) 2=v:=rfl
def ztj:List.set (s0::F::u::U) 2 v=s0::F::v::U:=rfl
def zrr:zG 3 (s0::F::v::⇑(.sh d)::U) Q E=Q (.v (.sh d)) (s0::F::v::⇑(.sh d)::U):=rfl
def ztG:zG 3 (s0::F::v::⇑(.lst l)::U) Q E=Q (.loc 3) (s0::F::v::⇑(.lst l)::U):=rfl
def ztR:slot (s0::G::F::v::U) 3=v:=rfl
def zti:List.set (s0::G::F::u::U) 3 v=s0::G::F::v::U:=rfl
def zrt:zG 4 (s0::F::v::s3::⇑(.sh d)::U) Q E=Q (.v (.sh d)) (s0::F::v::s3::⇑(.sh d)::U):=rfl
def zrj:zG 4 (s0::F::v::s3::⇑(.lst l)::U) Q E=Q (.loc 4) (s0::F::v::s3::⇑(.lst l)::U):=rfl
def ztl:slot (s0::G::F::s3::v::U) 4=v:=rfl
def zsk:List.set (s0::G::F::s3::u::U) 4 v=s0::G::F::s3::v::U:=rfl
def zrW:zG 5 (s0::G::F::s3::v::⇑(.sh d)::U) Q E=Q (.v (.sh d)) (s0::G::F::s3::v::⇑(.sh d)::U):=rfl
def zsb:zG 5 (s0::G::F::s3::v::⇑(.lst l)::U) Q E=Q (.loc 5) (s0::G::F::s3::v::⇑(.lst l)::U):=rfl
def zsE:slot (s0::J::G::s3::F::v::U) 5=v:=rfl
def ztM:List.set (s0::J::G::s3::F::u::U) 5 v=s0::J::G::s3::F::v::U:=rfl
def ztf:zG 6 (s0::J::G::s3::F::v::⇑(.sh d)::U) Q E=Q (.v (.sh d)) (s0::J::G::s3::F::v::⇑(.sh d)::U):=rfl
def ztL:zG 6 (s0::J::G::s3::F::v::⇑(.lst l)::U) Q E=Q (.loc 6) (s0::J::G::s3::F::v::⇑(.lst l)::U):=rfl
def zqO:slot (s0::L::J::s3::G::F::v::U) 6=v:=rfl
def zsJ:List.set (s0::L::J::s3::G::F::u::U) 6 v=s0::L::J::s3::G::F::v::U:=rfl
def zqH:zG 7 (s0::L::J::s3::G::F::v::⇑(.sh d)::U) Q E=Q (.v (.sh d)) (s0::L::J::s3::G::F::v::⇑(.sh d)::U):=rfl
def zqM:slot (s0::M::L::s3::J::G::F::v::U) 7=v:=rfl
def ztF:List.set (s0::M::L::s3::J::G::F::u::U) 7 v=s0::M::L::s3::J::G::F::v::U:=rfl
def ztB:zG 8 (s0::M::L::s3::J::G::F::v::⇑(.sh d)::U) Q E=Q (.v (.sh d)) (s0::M::L::s3::J::G::F::v::⇑(.sh d)::U):=rfl
def zrm:slot (s0::Y::M::s3::L::J::G::F::v::U) 8=v:=rfl
def zsH:List.set (s0::Y::M::s3::L::J::G::F::u::U) 8 v=s0::Y::M::s3::L::J::G::F::v::U:=rfl
def ztP:zG 9 (s0::Y::M::s3::L::J::G::F::v::⇑(.sh d)::U) Q E=Q (.v (.sh d)) (s0::Y::M::s3::L::J::G::F::v::⇑(.sh d)::U):=rfl
def zrv:List.set (s0::Z::Y::s3::M::L::J::G::F::u::U) 9 v=s0::Z::Y::s3::M::L::J::G::F::v::U:=rfl
def zok:zG 10 (s0::Z::Y::s3::M::L::J::G::F::v::⇑(.sh d)::U) Q E=Q (.v (.sh d)) (s0::Z::Y::s3::M::L::J::G::F::v::⇑(.sh d)::U):=rfl
def zoH:zG 10 (s0::Z::Y::s3::M::L::J::G::F::v::⇑(.lst l)::U) Q E=Q (.loc 10) (s0::Z::Y::s3::M::L::J::G::F::v::⇑(.lst l)::U):=rfl
def zp1:slot (s0::s1::Z::s3::Y::M::L::J::G::F::v::U) 10=v:=rfl
def zoA:List.set (s0::s1::Z::s3::Y::M::L::J::G::F::u::U) 10 v=s0::s1::Z::s3::Y::M::L::J::G::F::v::U:=rfl
def zpu:zG 11 (s0::s1::Z::s3::Y::M::L::J::G::F::v::⇑(.sh d)::U) Q E=Q (.v (.sh d)) (s0::s1::Z::s3::Y::M::L::J::G::F::v::⇑(.sh d)::U):=rfl
def zoh:slot (s0::s1::s2::s3::Z::Y::M::L::J::G::F::v::U) 11=v:=rfl
def zqh:List.set (s0::s1::s2::s3::Z::Y::M::L::J::G::F::u::U) 11 v=s0::s1::s2::s3::Z::Y::M::L::J::G::F::v::U:=rfl
def zoT:zG 12 (s0::s1::s2::s3::Z::Y::M::L::J::G::F::v::⇑(.sh d)::U) Q E=Q (.v (.sh d)) (s0::s1::s2::s3::Z::Y::M::L::J::G::F::v::⇑(.sh d)::U):=rfl
def zoU:List.set (s0::s1::s2::s3::s4::Z::Y::M::L::J::G::F::u::U) 12 v=s0::s1::s2::s3::s4::Z::Y::M::L::J::G::F::v::U:=rfl
def zqr:zG 13 (s0::s1::s2::s3::s4::Z::Y::M::L::J::G::F::v::⇑(.sh d)::U) Q E=Q (.v (.sh d)) (s0::s1::s2::s3::s4::Z::Y::M::L::J::G::F::v::⇑(.sh d)::U):=rfl
def zoY:List.set (s0::s1::s2::s3::s4::s5::Z::Y::M::L::J::G::F::u::U) 13 v=s0::s1::s2::s3::s4::s5::Z::Y::M::L::J::G::F::v::U:=rfl
def zoc:slot (s0::s1::s2::s3::s4::s5::s6::Z::Y::M::L::J::G::F::v::U) 14=v:=rfl
def zod:List.set (s0::s1::s2::s3::s4::s5::s6::Z::Y::M::L::J::G::F::u::U) 14 v=s0::s1::s2::s3::s4::s5::s6::Z::Y::M::L::J::G::F::v::U:=rfl
def zoK:iF o (.v (.sh p)) Q (.v (.sh q)) U=kV (o p q) Q U:=rfl
def zqm:iE v (.v (.sh p)) QT (.v (.sh q)) U=kC (v p q) QT U:=rfl
def zpc:iF o (.v (.sh p)) Q (.v (.lst m)) U=jK o ⇑p ⇑(S.lst m).toD Q U:=rfl
def zon:iE v (.v (.sh p)) QT (.v (.lst m)) U=fH v ⇑p ⇑(S.lst m).toD QT U:=rfl
def zpI:iE v (.v (.sh p)) QT (.loc k) U=fH v ⇑p (view (.loc k) U) QT U:=rfl
def zpb:iF o (.v (.lst l)) Q (.v (.lst m)) U=jK o ⇑(S.lst l).toD ⇑(S.lst m).toD Q U:=rfl
def zqw:iF o (.loc j) Q (.v (.lst m)) U=jK o (zW (.loc j) U) ⇑(S.lst m).toD Q U:=rfl
def zp4:iE v (.loc j) QT (.v (.lst m)) U=fH v (view (.loc j) U) ⇑(S.lst m).toD QT U:=rfl
def zsy:fO d (.lst l)=mI d (.lst l):=rfl
def zqV:fO d (.dct t ks vs)=mI d (.dct t ks vs):=rfl
def zpY:cI p q=(fO p q).map (!·):=rfl
def ah(j m:Nat)(l l':List S)(Q:WQ)(o:Option (S×Env)):Prop:=zK o λp=>l'.length<big/\Q (.v (.sh .non)) (p.2.set j ⇑(.lst (l.set m (.lst (l'++[p.1])))))
def ai(j m:Nat)(l l':List S)(Q:WQ):WQ:=λr U=>ah j m l l' Q (give r U)
def fo(j m:Nat)(l:List S)(e:WE)(o:Option S)(U:Env)(Q:WQ)(E:WX):Prop:=match o with
 |some (.lst l')=>e (U.set j none) (ai j m l l' Q) E
 |_=>False
def tD(j:Nat)(e:WE)(n:Int)(l:List S)(U:Env)(Q:WQ)(E:WX):Prop:=zK (ixN l.length n) λm=>fo j m l e l[m]? U Q E
def aj(j:Nat)(e:WE)(o:Option D)(p:Option S)(U:Env)(Q:WQ)(E:WX):Prop:=match o,p with
 |some (.int n),some (.lst l)=>tD j e n l U Q E
 |_,_=>False
def ak(j:Nat)(e:WE)(Q:WQ)(E:WX):WQ:=λy U=>aj j e (view y U) (slot U j) U Q E
def uy(j:Nat)(o:Option S)(i e:WE)(U:Env)(Q:WQ)(E:WX):Prop:=match o with
 |some (.lst _)=>i U (ak j e Q E) E
 |_=>False
theorem e_AA:cF j a b U Q E=uy j (slot U j) a b U Q E:=by first|rfl|assumption|(simp_all;done)
def zsf{l:List S}:uy j ⇑(.lst l) a b U Q E=a U (ak j b Q E) E:=rfl
def zsm:ak j b Q E y U=aj j b (view y U) (slot U j) U Q E:=rfl
def zrf{n:Int}{l:List S}:aj j b ⇑(.int n) ⇑(.lst l) U Q E=tD j b n l U Q E:=rfl
def ztm{l l':List S}:ai j m l l' Q r U=ah j m l l' Q (give r U):=rfl
def zsn{l l':List S}:ah j m l l' Q ⇑(s,U)=(l'.length<big/\Q (.v (.sh .non)) (U.set j ⇑(.lst (l.set m (.lst (l'++[s])))))):=rfl
def GV{z:Int}{l l':List S}(v:0<=z)(h1:l[z.toNat]?=⇑(.lst l')):tD j b z l U Q E=b (U.set j none) (ai j z.toNat l l' Q) E:=by let:z.toNat<l.length:=(qg.mp h1).1;unfold tD ixN;rw[zj v,zj ∅,GQ,h1];rfl
def yU(Q:WQ)(o:Option (S×Env)):Prop:=zK o λp=>Q (.v (.sh p.1.toD)) p.2
def ur(Q:WQ):WQ:=λr U=>yU Q (give r U)
def zsp:bG a U Q E=a U (ur Q) E:=rfl
def zqe:ur Q r U=yU Q (give r U):=rfl
def zoR:yU Q ⇑(s,U)=Q (.v (.sh s.toD)) U:=rfl
def oS(i:Nat)(D:Ends)(o:Option S)(U:Env):Prop:=zK o λs=>D.nx (U.set i ⇑(.sh s.toD))
def fg(i:Nat)(D:Ends):Env->Prop:=λU=>oS i D (slot U i) U
def ztQ:je i v D' U=v (bb D' (fg i D')) U:=rfl
def zpE:fg i D' U=oS i D' (slot U i) U:=rfl
def zpx:oS i D' ⇑s U=D'.nx (U.set i ⇑(.sh s.toD)):=rfl
def zqR{z:Int}:tU (.dct false ks vs) (.int z)=⇑(lk ks vs (.int z)):=rfl
def zpO{z v:Int}:tU (.dct true ks vs) (.tup [.int z,.int v])=⇑(lk ks vs (.tup [.int z,.int v])):=rfl
def xS(o:Option (Option D))(Q:WQ)(U:Env):Prop:=zK o λo=>zK o λe=>Q (.v (.sh e)) U
def xT(o p:Option D)(Q:WQ)(U:Env):Prop:=zK o λd=>zK p λq=>xS (tU d q) Q U
def xU(x:R)(Q:WQ):WQ:=λy U=>xT (zW x U) (view y U) Q U
def dv(b:WE)(Q:WQ)(E:WX):WQ:=λx U=>b U (xU x Q) E
def e_XA:hE a b U Q E=a U (dv b Q E) E:=rfl
def ztk:dv b Q E x U=b U (xU x Q) E:=rfl
def zrV:xU x Q y U=xT (zW x U) (view y U) Q U:=rfl
def zq0:xT ⇑d ⇑q Q U=xS (tU d q) Q U:=rfl
def zsc:xS ⇑⇑d Q U=Q (.v (.sh d)) U:=rfl
theorem zfB:vC ⇑(.dct t ks (vs.map S.sh))=⇑(.dct t ks vs):=by show(if(vs.map S.sh).all S.isSh=true then ⇑(S.toD (.dct t ks (vs.map S.sh)))else none)=_;rw[zj e_sh,S.toD_dct,zan]
def ui(Q:WQ):List D->Env->Prop:=λl U=>l.length<=big/\Q (.v (.lst (l.map .sh))) U
def e_LI:kG v U Q E=v U (ui Q) E:=rfl
def zsX:ui Q l U=(l.length<=big/\Q (.v (.lst (l.map .sh))) U):=rfl
def yF(res:Bool)(p:D)(o:Option D)(Q:Bool->Env->Prop)(U:Env):Prop:=zK o λq=>p=q/\Q res U
def yG(res:Bool)(p:D)(Q:Bool->Env->Prop):WQ:=λy U=>yF res p (zW y U) Q U
def yH(res:Bool)(b:WE)(o:Option D)(Q:Bool->Env->Prop)(E:WX)(U:Env):Prop:=zK o λp=>cX p=true/\b U (yG res p Q) E
def dw(res:Bool)(b:WE)(Q:Bool->Env->Prop)(E:WX):WQ:=λx U=>yH res b (zW x U) Q E U
def e_Re:eY res a b U QT E=a U (dw res b QT E) E:=rfl
def zs4:dw res b QT E x U=yH res b (zW x U) QT E U:=rfl
def ztr:yH res b ⇑p QT E U=(cX p=true/\b U (yG res p QT) E):=rfl
def zre:yG res p QT y U=yF res p (zW y U) QT U:=rfl
def zrQ:yF res p ⇑q QT U=(p=q/\QT res U):=rfl
def zqo{z v:Int}:dF (.int z) (.int v)=oJ (.int z) (.int v):=rfl
theorem uB{w v:WB}(h:w=v)(U:Env)(Q:Env->Prop)(E:WX):w U Q E=v U Q E:=by rw[h]
theorem uS{w v:WS}(h:w=v)(D':Ends)(U:Env):w D' U=v D' U:=by rw[h]
def ux(s0:S)(n k:Nat)(g:WG)(c:WT)(b:WB)(Q:WQ)(E:WX):List D->Env->Prop:=λl U=>aS g c b l (U++⇑s0::List.replicate k none) (oO n Q) (sM n E)
def e_CM:kb s0 n m v g c F U Q E=v U (ux s0 n m g c F Q E) E:=rfl
def zrA:ux s0 n m g c v Q E l U=aS g c v l (U++⇑s0::List.replicate m none) (oO n Q) (sM n E):=rfl
def sH(n:Nat)(q:D)(s:S)(o:Option S)(U:Env)(Q:Env->Prop):Prop:=match o with
 |some (.dct t ks l)=>cL t q=true/\ks.Nodup/\ks.length<big/\Q (U.set n ⇑(cM t ks l q s))
 |_=>False
def sI(n:Nat)(o:Option D)(p:Option (S×Env))(Q:Env->Prop):Prop:=zK o λq=>zK p λp=>sH n q p.1 (slot p.2 n) p.2 Q
def sJ(n:Nat)(x:R)(Q:Env->Prop):WQ:=λy U=>sI n (view x U) (give y U) Q
def om(n:Nat)(e:WE)(Q:Env->Prop)(E:WX):WQ:=λx U=>e U (sJ n x Q) E
theorem e_Pu:oZ n a b U QE E=a U (om n b QE E) E:=by unfold oZ om sJ sI sH;rfl
def zrS:om n b QE E x U=b U (sJ n x QE) E:=rfl
def zqS:sJ n x QE y U=sI n (view x U) (give y U) QE:=rfl
def zq8:sI n ⇑q ⇑(s,U) QE=sH n q s (slot U n) U QE:=rfl
def zsa:sH n q s ⇑(.dct t ks l) U QE=(cL t q=true/\ks.Nodup/\ks.length<big/\QE (U.set n ⇑(cM t ks l q s))):=rfl
section
variable{U:Env}{Q:WQ}{QE:Env->Prop}{E:WX}{a b:WE}{x y r:R}{s:S}{q d:D}{n m j:Nat}{l:List D}
def zqx:(S.set l).toD=.set l:=rfl
def yI(o:Option (S×Env))(Q:List D->Env->Prop):Prop:=zK o λp=>oQ (mP p.1.toD) p.2 Q
def ue(Q:List D->Env->Prop):WQ:=λr U=>yI (give r U) Q
def e_RU{QI:List D->Env->Prop}:nS a U QI E=a U (ue QI) E:=rfl
def zr3{QI:List D->Env->Prop}:ue QI r U=yI (give r U) QI:=rfl
def zr8{QI:List D->Env->Prop}:yI ⇑(s,U) QI=oQ (mP s.toD) U QI:=rfl
def zrX:mP (.tup l)=⇑l.reverse:=rfl
variable{fr:D->Option S}
variable{c:WE}{QI:List D->Env->Prop}
end
section
variable{U:Env}{Q:WQ}{E:WX}{a:WE}{r:R}{j:Nat}{d:D}{l:List D}{x:List Nat}{s:S}{o:Option S}
theorem zmk{l:List Nat}(h:l.length<=150):jN [.str l]=⇑(.set (cY (l.map λc=>.str [c]))):=zj h
theorem zmq{l:List D}(h:(bY l).isSome=true)(h2:l.length<64):jM [.set l]=⇑(.lst ((bQ l).map .sh)):=zj #[h,h2]
def zoi{s0 s1 s2 s3 s4 s5 s6 Z Y M L J G F v:Option S}{U:Env}{Q:WQ}{E:WX}{d:D}:zG 15 (s0::s1::s2::s3::s4::s5::s6::Z::Y::M::L::J::G::F::v::⇑(.sh d)::U) Q E=Q (.v (.sh d)) (s0::s1::s2::s3::s4::s5::s6::Z::Y::M::L::J::G::F::v::⇑(.sh d)::U):=rfl
def zoB{s0 s1 s2 s3 s4 s5 s6 s7 Z Y M L J G F:Option S}{u v:Option S}{U:Env}:List.set (s0::s1::s2::s3::s4::s5::s6::s7::Z::Y::M::L::J::G::F::u::U) 15 v=s0::s1::s2::s3::s4::s5::s6::s7::Z::Y::M::L::J::G::F::v::U:=rfl
end
section
variable{U:Env}{Q:WQ}{E:WX}{a b c o:WE}{r t u:R}{j:Nat}{s s' s3:S}{l m n:List D}{QI:List D->Env->Prop}{z:List Nat}
def xI(o p q:Option (List D))(U:Env)(Q:List D->Env->Prop):Prop:=zK o λl=>zK p λm=>zK q λn=>min l.length m.length<=n.length/\Q (bW l m n) U
def xJ(s s':S)(o:Option (S×Env))(Q:List D->Env->Prop):Prop:=zK o λz=>xI (items s.toD) (items s'.toD) (items z.1.toD) z.2 Q
def xK(u:R)(s:S)(o:Option (S×Env))(Q:List D->Env->Prop):Prop:=zK o λq=>xJ s q.1 (give u q.2) Q
def xM(t u:R)(o:Option (S×Env))(Q:List D->Env->Prop):Prop:=zK o λp=>xK u p.1 (give t p.2) Q
def oa(r t:R)(Q:List D->Env->Prop):WQ:=λu U=>xM t u (give r U) Q
def xH(r:R)(c:WE)(Q:List D->Env->Prop)(E:WX):WQ:=λt U=>c U (oa r t Q) E
def du(b c:WE)(Q:List D->Env->Prop)(E:WX):WQ:=λr U=>b U (xH r c Q E) E
def e_z3:nR a b c U QI E=a U (du b c QI E) E:=rfl
def zsx:du b c QI E r U=b U (xH r c QI E) E:=rfl
def zts:xH r c QI E t U=c U (oa r t QI) E:=rfl
def zsl:oa r t QI u U=xM t u (give r U) QI:=rfl
def ztS:xM t u ⇑(s,U) QI=xK u s (give t U) QI:=rfl
def zra:xK u s ⇑(s',U) QI=xJ s s' (give u U) QI:=rfl
def ztn:xJ s s' ⇑(s3,U) QI=xI (items s.toD) (items s'.toD) (items s3.toD) U QI:=rfl
def zsB:xI ⇑l ⇑m ⇑n U QI=(min l.length m.length<=n.length/\QI (bW l m n) U):=rfl
def ot(o:Option D)(U:Env)(Q:WQ):Prop:=zK o λd=>match d with
 |.lst l=>l.length<=big/\Q (.v (.lst (l.reverse.map .sh))) U
 |_=>False
def fc(Q:WQ):WQ:=λr U=>ot (zW r U) U Q
def e_Lr:gI a U Q E=a U (fc Q) E:=rfl
def ztZ:fc Q r U=ot (zW r U) U Q:=rfl
def zsS:ot ⇑(.lst l) U Q=(l.length<=big/\Q (.v (.lst (l.reverse.map .sh))) U):=rfl
def yP(o:Option S)(n:Nat)(U:Env)(Q:WQ):Prop:=zK o λs=>n<=big/\Q (.v s) U
def yQ(z:List Nat)(o:Option D)(U:Env)(Q:WQ):Prop:=zK o λd=>match d with
 |.lst l=>yP (fW z l.reverse) l.length U Q
 |_=>False
def yR(z:List Nat)(Q:WQ):WQ:=λr U=>yQ z (zW r U) U Q
def uk(a:WE)(Q:WQ)(E:WX):WQ:=λx U=>match x with
 |.v (.sh (.str z))=>a U (yR z Q) E
 |_=>False
def e_Jr:gJ o a U Q E=o U (uk a Q E) E:=rfl
def zsr:uk a Q E (.v (.sh (.str z))) U=a U (yR z Q) E:=rfl
def ztv:yR z Q r U=yQ z (zW r U) U Q:=rfl
def zt1:yQ z ⇑(.lst l) U Q=yP (fW z l.reverse) l.length U Q:=rfl
def zrw{n:Nat}:yP ⇑s n U Q=(n<=big/\Q (.v s) U):=rfl
def ud(j:Nat)(o:Option S)(U:Env)(Q:WQ):Prop:=match o with
 |some (.lst l)=>Q (.v (.sh .non)) (U.set j ⇑(.lst l.reverse))
 |_=>False
def e_Rv:gF j U Q E=ud j (slot U j) U Q:=rfl
def zqZ{l:List S}:ud j ⇑(.lst l) U Q=Q (.v (.sh .non)) (U.set j ⇑(.lst l.reverse)):=rfl
end
def sg(c:Nat):D:=.str [c]
def Qp(l:List Nat):bY (l.map sg)=⇑(l.map λc=>[c]):=by let:=MX (l.map λc=>[c]);rw[qH]at this;show this
def Lu:∀l:List Nat,((l.map λc=>[c]).map List.length).sum=l.length
 |[]=>rfl
 |c::l=>by let:=Lu l;simp at this⊢;lia
def Mn:∀l:List Nat,(l.map λc=>[c]).flatten=l
 |[]=>rfl
 |c::l=>by let:=Mn l;simp;rw[this]
def HN(h:l.length<=big):fU [] [.lst (l.map sg)]=⇑(.sh (.str l)):=by show(bY (l.map sg)).bind _=_;grind[Qp,List.length,big,eA,Lu,Mu,Mn]
def pX:D->Nat
 |.str [c]=>c
 |_=>0
def PL(h:l.Perm (A.map sg)):∃v:List Nat,v.Perm A/\l=v.map sg:=by
 show#[l.map pX,?_,?_]
 .let:=h.map pX;rw[qH]at this;let e:(pX∘sg)=id:=funext λc=>rfl;rw[e,map_id]at this;show this
 .rw[qH];let:∀d∈l,(sg∘pX) d=id d:=λd F=>by let#[c,_,rfl]:=qN.mp (h.mem_iff.mp F);rfl
  rw[map_congr_left this,map_id]
def bP:big=1000000:=rfl
def Hj:(fromTo lo n).length=n:=by simp[fromTo]
def Vp{l:List D}{k:Nat}(h:l[k]?=⇑d):(l.map S.sh)[k]?=⇑(.sh d):=by rw[qI,h];rfl
def EW{α β:Type}{f:α->β}{l:List α}{z:Int}(G:0<=z)(h1:z<l.length):∃v,v∈l/\l[z.toNat]?=⇑v/\atI (l.map f) z=⇑(f v):=by
 let F:z.toNat<l.length:=∅
 show#[l[z.toNat],getElem_mem F,qh F,Cv G (by rw[qI,qh F];rfl)]
def EM(G:0<=z)(h1:z<l.length):∃v,v∈l/\l[z.toNat]?=⇑v/\atI l z=⇑v:=by
 let F:z.toNat<l.length:=∅
 show#[l[z.toNat],getElem_mem F,qh F,Cv G (qh F)]
def IQ{α β:Type}{f:α->β}:∀(l:List α)(k:Nat),(l.map f).eraseIdx k=(l.eraseIdx k).map f
 |[],_=>rfl
 |_::_,0=>rfl
 |x::l,k+1=>by show f x::(l.map f).eraseIdx k=f x::(l.eraseIdx k).map f;rw[IQ l k]
def Lq(f:α->β)(l:List α)(a b:Option Int):aP (l.map f) a b=(aP l a b).map f:=by unfold aP;simp_all
def Ey(l:List α)(a b:Option Int):(aP l a b).length<=l.length:=by unfold aP;rw[qK,qJ];show le_trans (min_le_right ..) (sub_le ..)
def Ez(h:x∈aP l a b):x∈l:=by show List.mem_of_mem_drop (List.mem_of_mem_take h)
def KF(l:List α){k:Int}(v:0<=k)(h1:k<=l.length):aP l none ⇑k=l.take k.toNat:=by unfold aP sIx;grind
def DF(l:List α)(v:0<=k):aP l ⇑k none=l.drop k.toNat:=by
 unfold aP sIx;let:¬k<0:=∅
 simp[zk this];by_cases h:k.toNat<=l.length
 .rw[min_eq_left h,take_of_length_le];rw[qJ];lia
 .let h2:l.length<=k.toNat:=by lia
  rw[min_eq_right h2,drop_of_length_le (zm _),drop_of_length_le h2,take_nil]
def GU:∀l:List Int,bD (l.map D.int)=0
 |[]=>rfl
 |z::l=>by show max (fL (.int z)) (bD (l.map D.int))=0;rw[GU l];rfl
def OS(l:List Bool):tG [.lst (l.map D.bl)]=⇑(.sh (.bl (l.all id))):=by show(iH (l.map D.bl)).map _=_;rw[UW];rfl
def Nw{α:Type}:∀(l:List α)(i:Nat)(h:i<l.length),(l[i]::l.eraseIdx i).Perm l
 |x::l,0,_=>List.Perm.refl _
 |x::l,i+1,h=>by
  let hi:i<l.length:=↑h
  show(List.Perm.swap x l[i] _).trans (List.Perm.cons x (Nw l i hi))
def sD(b:WB)(K:Env->Prop)(E:WX):Bool->Env->Prop:=λk U=>if k then b U K E else K U
def pJ(c:WT)(b:WB)(K:Env->Prop)(E:WX):Env->Prop:=λU=>c U (sD b K E) E
def eB:pJ c b K E U=c U (sD b K E) E:=rfl
def jV:sD b K E true U=b U K E:=rfl
def ja:sD b K E false U=K U:=rfl
def HC{α:Type}{toD:α->D}(I:List α->Env->Prop)(xs:List α)
  (step:∀(F:List α)(x:α)(v:List α)(K:Env->Prop)(U:Env),F++x::v=xs->I F U->(∀U',I (F++[x]) U'->K U')->g (.sh (toD x)) U (pJ c b K E))
  (J:∀U,I xs U->Q U)(M:I [] U):aS g c b (xs.map toD) U Q E:=by
 have G:∀(v F:List α)(U:Env),F++v=xs->I F U->aS g c b (v.map toD) U Q E:=by
  intro v;induction v with
  |nil=>intro F U e h;rw[qB]at e;subst e;show J U h
  |cons x v L=>intro F U e h;show step F x v (sE g c b (v.map toD) Q E) U e h λU' h'=>L (F++[x]) U' (by rw[<-e];simp) h'
 show G xs [] U rfl M
def Bo{α:Type}{toD:α->D}(I:List α->Env->Prop)(xs:List α)
  (step:∀(F:List α)(x:α)(v:List α)(G:Ends)(U:Env),F++x::v=xs->I F U->(∀U',I (F++[x]) U'->G.nx U')->(∀U',I (F++[x]) U'->G.ct U')->G.rt=D'.rt->G.bk=D'.nx->g (.sh (toD x)) U (λU=>b G U))
  (L:∀U,I xs U->D'.nx U)(Y:I [] U):cV g b (xs.map toD) D' U:=by
 have J:∀(v F:List α)(U:Env),F++v=xs->I F U->cV g b (v.map toD) D' U:=by
  intro v;induction v with
  |nil=>intro F U e h;rw[qB]at e;subst e;show L U h
  |cons x v M=>intro F U e h;let k:=λU' h'=>M (F++[x]) U' (by rw[<-e];simp) h';show step F x v (wz g b (v.map toD) D') U e h k k rfl rfl
 show J xs [] U rfl Y
def Kd{α:Type}{toD:α->D}(I:List α->List S->Env->Prop)(xs:List α)
  (step:∀(F:List α)(x:α)(G:List α)(l:List S)(U:Env)(vs:List (Option S))(K:Env->Prop),F++x::G=xs->vs.length=k->I F l U->(∀l' U1 v,v.length=k->I (F++[x]) l' U1->K (U1++⇑(.lst l')::v))->g (.sh (toD x)) (U++⇑(.lst l)::vs) (pJ c b K E))
  (Z:∀l U vs,vs.length=k->I xs l U->Q (U++⇑(.lst l)::vs))(hv:vs.length=k)(h0:I [] [] U):aS g c b (xs.map toD) (U++⇑(.lst [])::vs) Q E:=by
 show HC (λF J=>∃l U1 v,v.length=k/\I F l U1/\J=U1++⇑(.lst l)::v) xs (λF x G K J e Y hK=>?_) (λJ Y=>?_) #[[],U,vs,hv,h0,rfl]
 .obtain⟨l,U1,v,h1,h2,rfl⟩:=Y;show step F x G l U1 v K e h1 h2 λl' L M h3 h4=>hK _ #[l',L,M,h3,h4,rfl]
 .obtain⟨l,U1,v,h1,h2,rfl⟩:=Y;show Z l U1 v h1 h2
def Kg{α:Type}{toD:α->D}(xs:List α)(h:α->Option S)
  (step:∀x∈xs,∀(l:List S)(vs:List (Option S))(K:Env->Prop),vs.length=k->l.length<xs.length->(∀v,v.length=k->K (U++⇑(.lst (l++(h x).toList))::v))->g (.sh (toD x)) (U++⇑(.lst l)::vs) (pJ c b K E))
  (J:∀vs,vs.length=k->Q (U++⇑(.lst (xs.filterMap h))::vs))(M:vs.length=k):aS g c b (xs.map toD) (U++⇑(.lst [])::vs) Q E:=by
 show Kd (λF l G=>G=U/\l=F.filterMap h) xs (λF x L l G vs K e h1 h2 Z=>?_) (λl G vs h1 h2=>?_) M #[rfl,rfl]
 .obtain⟨rfl,rfl⟩:=h2;let Y:(F.filterMap h).length<xs.length:=by let:=List.length_filterMap_le h F;rw[<-e];simp;lia
  show step x (by rw[<-e];simp) _ vs K h1 Y λv h3=>Z _ _ v h3 #[rfl,?_];cases q:h x<;>simp[q]
 .obtain⟨rfl,rfl⟩:=h2;show J vs h1
def DS{vs:List (Option S)}(h:vs.length=1):∃a,vs=[a]:=by
 match vs,h with
 |[a],_=>show#[a,rfl]
def DR{vs:List (Option S)}(h:vs.length=2):∃a b,vs=[a,b]:=by
 match vs,h with
 |[a,b],_=>show#[a,b,rfl]
def DQ{vs:List (Option S)}(h:vs.length=3):∃a b c,vs=[a,b,c]:=by
 match vs,h with
 |[a,b,c],_=>show#[a,b,c,rfl]
section
variable{α:Type}
def Hr(xs:List α)(h:α->Option S)
  (step:∀x∈xs,∀(l:List S)(o:Option S)(K:Env->Prop),l.length<xs.length->(∀o,K (U.take n++[⇑(.lst (l++(h x).toList)),o]))->zJ (n+1) (.sh (toD x)) (U.take n++[⇑(.lst l),o]) (pJ c b K E))
  (F:∀o,Q (U.take n++[⇑(.lst (xs.filterMap h)),o]))(e:autoParam (U=U.take n++[⇑(.lst []),Y]) rZ9):aS (zJ (n+1)) c b (xs.map toD) U Q E:=by
 rw[e];show Kg (k:=1) xs h (λx J l G K v L M=>?_) (λG v=>?_) rfl
 .obtain⟨a,rfl⟩:=DS v;show step x J l a K L λo=>M [o] rfl
 .obtain⟨a,rfl⟩:=DS v;show F a
def Xp(xs:List α)(h:α->Option S)
  (step:∀x∈xs,∀(l:List S)(o o':Option S)(K:Env->Prop),l.length<xs.length->(∀o o',K (U.take n++[⇑(.lst (l++(h x).toList)),o,o']))->dA [zJ (n+1),zJ (n+2)] (.sh (toD x)) (U.take n++[⇑(.lst l),o,o']) (pJ c b K E))
  (F:∀o o',Q (U.take n++[⇑(.lst (xs.filterMap h)),o,o']))(e:autoParam (U=U.take n++[⇑(.lst []),o0,Z]) rZ9):aS (dA [zJ (n+1),zJ (n+2)]) c b (xs.map toD) U Q E:=by
 rw[e];show Kg (k:=2) xs h (λx L l J K v M Y=>?_) (λJ v=>?_) rfl
 .obtain⟨a,G,rfl⟩:=DR v;show step x L l a G K M λo o'=>Y [o,o'] rfl
 .obtain⟨a,G,rfl⟩:=DR v;show F a G
def Dv(xs:List α)(h:α->S)
  (step:∀x∈xs,∀(l:List S)(o:Option S)(K:Env->Prop),l.length<xs.length->(∀o,K (U.take n++[⇑(.lst (l++[h x])),o]))->zJ (n+1) (.sh (toD x)) (U.take n++[⇑(.lst l),o]) (pJ c b K E))
  (v:∀o,Q (U.take n++[⇑(.lst (xs.map h)),o]))(e:autoParam (U=U.take n++[⇑(.lst []),F]) rZ9):aS (zJ (n+1)) c b (xs.map toD) U Q E:=
 Hr xs (λx=>⇑(h x)) step (λo=>by rw[show(xs.filterMap λx=>⇑(h x))=xs.map h from List.filterMap_eq_map▸rfl];show v o) e
def Xo(xs:List α)(h:α->S)
  (step:∀x∈xs,∀(l:List S)(o o':Option S)(K:Env->Prop),l.length<xs.length->(∀o o',K (U.take n++[⇑(.lst (l++[h x])),o,o']))->dA [zJ (n+1),zJ (n+2)] (.sh (toD x)) (U.take n++[⇑(.lst l),o,o']) (pJ c b K E))
  (v:∀o o',Q (U.take n++[⇑(.lst (xs.map h)),o,o']))(e:autoParam (U=U.take n++[⇑(.lst []),G,F]) rZ9):aS (dA [zJ (n+1),zJ (n+2)]) c b (xs.map toD) U Q E:=
 Xp xs (λx=>⇑(h x)) step (λo o'=>by rw[show(xs.filterMap λx=>⇑(h x))=xs.map h from List.filterMap_eq_map▸rfl];show v o o') e
end
def Xn(I:Nat->Env->Prop)(xs:List D)
  (step:∀(k:Nat)(x:D),xs[k]?=⇑x->∀(F:Ends)(U:Env),I k U->(∀U',I (k+1) U'->F.nx U')->(∀U',I (k+1) U'->F.ct U')->F.rt=D'.rt->F.bk=D'.nx->g (.sh x) U (λU=>b F U))
  (Y:∀U,I xs.length U->D'.nx U)(h0:I 0 U):cV g b xs D' U:=by
 let:=Bo (toD:=λx:D=>x) (g:=g) (b:=b) (D':=D') (λv U=>I v.length U) xs (λv x Z F U e hI J L G M=>step v.length x (by rw[<-e];simp) F U hI (λU' h=>J U' ↑h) (λU' h=>L U' ↑h) G M) Y h0;rwa[List.map_id']at this
theorem bf{α:Type}{toD:α->D}(xs:List α)(h:α->List S)
  (step:∀x∈xs,∀(l:List S)(vs:List (Option S))(K:Env->Prop),vs.length=k->l.length+(h x).length<=(xs.flatMap h).length->(∀v,v.length=k->K (U.take n++⇑(.lst (l++h x))::v))->g (.sh (toD x)) (U.take n++⇑(.lst l)::vs) (pJ c b K E))
  (J:∀vs,vs.length=k->Q (U.take n++⇑(.lst (xs.flatMap h))::vs))(e:autoParam (U=U.take n++⇑(.lst [])::vs) rZ9)(M:autoParam (vs.length=k) rZ9):aS g c b (xs.map toD) U Q E:=by
 rw[e];show Kd (λG l F=>F=U.take n/\l=G.flatMap h) xs (λG x L l F vs K e h1 h2 Z=>?_) (λl F vs h1 h2=>?_) M #[rfl,rfl]
 .obtain⟨rfl,rfl⟩:=h2;let Y:(G.flatMap h).length+(h x).length<=(xs.flatMap h).length:=by rw[<-e,flatMap_append,flatMap_cons,qq,qq];lia
  show step x (by rw[<-e];simp) _ vs K h1 Y λv h3=>Z _ _ v h3 #[rfl,by rw[flatMap_append];simp]
 .obtain⟨rfl,rfl⟩:=h2;show J vs h1
section
variable{α:Type}
def Xq(F:List S->Option S->Option S->Env)(xs:List α)(h:α->Option S)
  (step:∀x∈xs,∀(l:List S)(o o':Option S)(K:Env->Prop),l.length+(h x).toList.length<=J.length+(xs.filterMap h).length->(∀o o',K (F (l++(h x).toList) o o'))->g (.sh (toD x)) (F l o o') (pJ c b K E))
  (M:∀o o',Q (F (J++xs.filterMap h) o o')):aS g c b (xs.map toD) (F J o0 Z) Q E:=by
 show HC (λG v=>∃o o',v=F (J++G.filterMap h) o o') xs (λG x Y K v e L hK=>?_) (λv L=>?_) #[o0,Z,by simp]
 .obtain⟨o,o',rfl⟩:=L;refine step x (by rw[<-e];simp) _ o o' K ?_ λo o'=>hK _ #[o,o',?_]
  .rw[<-e,List.filterMap_append,qq];cases q:h x<;>simp[q]<;>lia
  .rw[List.filterMap_append];cases q:h x<;>simp[q]
 .obtain⟨o,o',rfl⟩:=L;show M o o'
end
def vm:fR ((x::l).map D.int)=none:=rfl
def vn:fR ((x::l).map D.str)=none:=rfl
def RF:∀l:List Int,∀d∈l.map D.int,uC d:=λl d v=>by let#[x,_,rfl]:=qN.mp v;trivial
def Mj:∀l:List (List Nat),∀d∈l.map D.str,pE d:=λl d v=>by let#[x,_,rfl]:=qN.mp v;trivial
def Mg(v:l.length<64)(F:eQ l=none)(G:(cQ l).isSome\/(bY l).isSome):bN [.lst l]=⇑(.lst ((bQ l).map .sh)):=by
 show gM _=_;unfold gM;by_cases h2:l.length<2
 .rw[zj h2];match l,h2 with
  |[],_=>rfl
  |[_],_=>rfl
  |_::_::_,h2=>simp at h2;lia
 .rw[zk h2,F];unfold jH;rw[zj #[v,G]]
def VW{l:List Int}(v:l.length<64):bN [.lst (l.map .int)]=⇑(.lst ((bQ (l.map .int)).map .sh)):=by
 show Mg ↑v ?_ (.inl (by rw[Eu];rfl));unfold eQ;cases l with
 |nil=>rfl
 |cons x l=>rw[zk];rw[vm];simp
def VC{l:List (List Nat)}(v:l.length<64):bN [.lst (l.map .str)]=⇑(.lst ((bQ (l.map .str)).map .sh)):=by
 show Mg ↑v ?_ (.inr (by rw[MX];rfl));unfold eQ;cases l with
 |nil=>rfl
 |cons x l=>rw[zk];rw[vn];simp
def UC{l m:List Int}(v:l.length<64)(p:m.Perm l)(F:m.Pairwise (·<=·)):bN [.lst (l.map .int)]=⇑(.lst ((m.map .int).map .sh)):=by rw[VW v,EB Le (RF l) (p.map _)];rw[pairwise_map];show F.imp λh=>↑h
def OB:([a]:List Nat)<[b]↔a<b:=by simp[qF]
def PM(h:A.length<64):∃v:List Nat,v.Perm A/\v.Pairwise (·<=·)/\bN [.lst (A.map sg)]=⇑(.lst ((v.map sg).map .sh)):=by
 let e:A.map sg=(A.map λc=>[c]).map D.str:=by rw[qH];rfl
 let#[v,J,G]:=PL (EF (A.map sg));show#[v,J,?_,?_]
 .let F:=Jk GJ (A.map sg) (by rw[e];show Mj _);rw[G,pairwise_map]at F;show F.imp λ{a b} h=>?_;let h':(!decide (([b]:List Nat)<[a]))=true:=by rw[<-Lb];exact h
  grind[OB]
 .rw[e,VC ↑h,<-e,G]
def Vf{l:List Nat}(h:l.Pairwise (·<=·))(hn:l.Nodup):l.Pairwise (·<·):=by let:=h.and hn;show this.imp λ⟨h1,h2⟩=>∅
def Oy(h:pE x):(aY x (.str z)||↥(30<fL x))=false:=by
 cases x with
 |str i=>rfl
 |_=>show h.elim
def Nj{ns:List (List Nat)}:(if(ns.map D.str).any (λx=>aY x (.str z)||↥(30<fL x))then none else ⇑(open Classical in ↥(D.str z∈ns.map D.str)))=⇑↥(z∈ns):=by grind[mem_map,any_eq_true.mp,Oy,Mj]
def Mh{ns:List (List Nat)}:mI (.str z) (.tup (ns.map D.str))=⇑↥(z∈ns):=Nj
def Lp{ns:List (List Nat)}:mI (.str z) (.lst (ns.map D.str))=⇑↥(z∈ns):=Nj
def Gn{α β:Type}(p:α->Bool)(f:α->β):∀l:List α,(l.filterMap λx=>if p x=true then ⇑(f x)else none)=(l.filter p).map f
 |[]=>rfl
 |x::l=>by let v:=Gn p f l;cases q:p x<;>simp[q,v]
def DB{α:Type}[DecidableEq α]:∀(l m:List α),l.Nodup->(∀x∈l,x∈m)->l.length<=m.length
 |[],m,_,_=>by simp
 |x::l,m,hn,hs=>by
  let#[h1,h2]:=qO.mp hn;let F:x∈m:=hs x (by simp);let:=DB l (m.erase x) h2 λy v=>by show(List.mem_erase_of_ne ?_).mpr (hs y (by simp[v]));intro z;subst z;show h1 v
  rw[List.length_erase_of_mem F]at this;let G:=List.length_pos_of_mem F;rw[qt];lia
def MB:∀l:List (List Nat),bD (l.map D.str)=0
 |[]=>rfl
 |z::l=>by show max (fL (.str z)) (bD (l.map D.str))=0;rw[MB l];rfl
def Ta:eT (.lst (l.map D.str)) (.lst [])=⇑(!decide (l=[])):=by
 unfold eT eK;rw[zk (by
  let:fL (.lst (l.map D.str))=1:=by show bD (l.map D.str)+1=1;rw[MB]
  rw[this];cases l<;>show λz=>Bool.noConfusion (show false=true from z))]
 simp
def Ii:∀l:List D,(∀d∈l,fL d<=n)->bD l<=n
 |[],_=>zero_le _
 |d::l,h=>by show max (fL d) (bD l)<=n;let h1:=h d (by simp);let h2:=Ii l λx v=>h x (by simp[v]);lia
def HP(h:bD l<=29):eT (.lst l) (.lst [])=⇑(!l.isEmpty):=by
 unfold eT eK;rw[zk (by
  let:fL (.lst l)=bD l+1:=rfl;cases l with
  |nil=>show λz=>Bool.noConfusion (show false=true from z)
  |cons x l=>show λz=>absurd (qX (show ↥(30<bD (x::l)+1)=true from z)) ∅)]
 cases l<;>simp
def Bs{α:Type}{l:List α}(h:l.length=n+1):∃a r,l=a::r/\r.length=n:=by
 cases l with
 |nil=>cases h
 |cons a r=>show#[a,r,rfl,Nat.succ.inj h]
def Jo{α:Type}{l:List α}(h:l.length=0):l=[]:=List.length_eq_zero_iff.mp h
def CF{α:Type}{l:List α}(h:l.length=1):∃a,l=[a]:=by let#[a,r,rfl,k]:=Bs h;obtain rfl:=Jo k;show#[a,rfl]
def DI{α:Type}{l:List α}(h:l.length=2):∃v a1,l=[v,a1]:=by let#[v,r,rfl,k]:=Bs h;let#[a1,rfl]:=CF k;show#[v,a1,rfl]
def DH{α:Type}{l:List α}(h:l.length=3):∃v a1 a2,l=[v,a1,a2]:=by let#[v,r,rfl,k]:=Bs h;let#[a1,a2,rfl]:=DI k;show#[v,a1,a2,rfl]
def DG{α:Type}{l:List α}(h:l.length=4):∃F a1 a2 v,l=[F,a1,a2,v]:=by let#[F,r,rfl,k]:=Bs h;let#[a1,a2,v,rfl]:=DH k;show#[F,a1,a2,v,rfl]
def FH{α:Type}{l:List α}(h:l.length=5):∃G a1 a2 F v,l=[G,a1,a2,F,v]:=by let#[G,r,rfl,k]:=Bs h;let#[a1,a2,F,v,rfl]:=DG k;show#[G,a1,a2,F,v,rfl]
theorem Nf:∀l m:List Int,cN (l.map D.int) (m.map D.int)=if l<m then .lt else if m<l then .gt else .eq
 |[],[]=>by simp[cN]
 |[],b::m=>by simp[cN]
 |a::l,[]=>by simp[cN]
 |a::l,b::m=>by
  let v:=Nf l m;rw[qA,qA,cN];rw[show jA (.int a) (.int b)=if a<b then .lt else if b<a then .gt else .eq from rfl];by_cases h1:a<b
  .rw[zj h1,zj (qF.mpr (.inl h1))]
  .rw[zk h1];by_cases h2:b<a
   .rw[zj h2,zk (by rw[qF];rintro(h|⟨h,_⟩)<;>lia),zj (qF.mpr (.inl h2))]
   .have e:a=b:=by lia
    subst e;rw[zk h2];rw[v]
    have G:(a::l<a::m)↔l<m:=by rw[qF];constructor
                               .rintro(h|⟨_,h⟩)
                                .lia
                                .show h
                               .intro h;show .inr #[rfl,h]
    have F:(a::m<a::l)↔m<l:=by rw[qF];constructor
                               .rintro(h|⟨_,h⟩)
                                .lia
                                .show h
                               .intro h;show .inr #[rfl,h]
    simp
def Gq(l m:List Int):gZ (tI l) (tI m)=!decide (m<l):=by
 show(match cN (l.map D.int) (m.map D.int)with|.gt=>false|_=>true)=_;rw[Nf];by_cases h:m<l
 .rw[zk (lt_asymm h),zj h,qU h];rfl
 .rw[zk h,qV h];by_cases h2:l<m
  .rw[zj h2];rfl
  .rw[zk h2];rfl
def rr(d:D):Prop:=∃l:List Int,d=tI l
def Oq:fY rr where
 tot:=by rintro _ _ ⟨a,rfl⟩ ⟨b,rfl⟩;grind[Gq,Bool.not_eq_true',lt_asymm]
 tr:=by rintro _ _ _ ⟨a,rfl⟩ ⟨b,rfl⟩ ⟨c,rfl⟩;grind[Gq,Bool.not_eq_true',List.le_trans]
 anti:=by rintro _ _ ⟨a,rfl⟩ ⟨b,rfl⟩;grind[Gq,Bool.not_eq_true',List.le_antisymm]
def Tc{ls ms:List (List Int)}(F:ls.length<64)(v:∀x∈ls,x≠[])(p:ms.Perm ls)(J:ms.Pairwise λa b=>¬b<a):bN [.lst (ls.map tI)]=⇑(.lst ((ms.map tI).map .sh)):=by rw[Vr F v,EB Oq (λd G=>by let#[x,_,rfl]:=qN.mp G;show#[x,rfl]) (p.map _)];grind[pairwise_map,Gq]
abbrev Wd:=List Nat
def cJ(w:Wd)(i j:Nat):Wd:=(w.drop i).take (j-i)
def Sh(l:List α)(i j:Nat):aP l ⇑(i:Int) ⇑(j:Int)=(l.drop i).take (j-i):=by
 unfold aP sIx;let h1:¬(i:Int)<0:=∅
 let h2:¬(j:Int)<0:=∅
 simp[zk h1,zk h2,qZ];by_cases hi:i<=l.length
 .rw[min_eq_left hi];by_cases v:j<=l.length
  .rw[min_eq_left v]
  .rw[take_of_length_le (by rw[qJ];lia),take_of_length_le (by rw[qJ];lia)]
 .rw[min_eq_right (a:=i) ∅,drop_of_length_le (i:=l.length) (zm _),drop_of_length_le (i:=i) ∅,take_nil,take_nil]
def Ij(w:Wd)(i j:Nat):aP w ⇑(i:Int) ⇑(j:Int)=cJ w i j:=Sh w i j
def Ft(h1:i<=j)(h2:j<=w.length):(cJ w i j).length=j-i:=by unfold cJ;rw[qK,qJ];lia
def dP(B:List Wd)(w:Wd)(i j:Nat):Bool:=↥(i<j)&&(↥(j<=w.length)&&↥(cJ w i j∈B))
theorem zam:dP B w i j=true↔i<j/\j<=w.length/\cJ w i j∈B:=by unfold dP;simp
def fS(B:List Wd)(w:Wd)(p q:Nat):Bool:=dP B w p q||dP B w q p
def Iz:fS B w p q=fS B w q p:=by unfold fS;rw[Bool.or_comm]
def nb(B:List Wd)(w:Wd)(p:Nat):List Nat:=(List.range (w.length+1)).filter λq=>fS B w p q
theorem zaI:q∈nb B w p↔fS B w p q=true:=by grind[nb,mem_filter,mem_range,fS,zam]
theorem zbI:(nb B w p).Pairwise (·<·):=List.Pairwise.filter _ pairwise_lt_range
def Eg(h:q∈nb B w p):q<=w.length/\p<=w.length/\p≠q:=by grind[zaI,fS,zam]
abbrev Tr:=Nat×Nat×Nat
def iS(B:List Wd)(w:Wd)(i:Nat):List Tr:=(List.range (w.length+1)).filterMap λj=>if dP B w i j=true then ⇑(i,j,B.idxOf (cJ w i j))else none
def bH(B:List Wd)(w:Wd):List Tr:=(List.range w.length).flatMap (iS B w)
def fC(B:List Wd)(w:Wd)(i:Nat):List Tr:=(List.range B.length).filterMap λk=>if ↥(cJ w i (i+((B[k]?).getD []).length)=(B[k]?).getD [])=true then ⇑(i,i+((B[k]?).getD []).length,k)else none
theorem zbT:t∈iS B w i↔t.1=i/\dP B w i t.2.1=true/\t.2.2=B.idxOf (cJ w i t.2.1):=by
 unfold iS;rw[mem_filterMap];constructor
 .rintro⟨j,_,h⟩;split at h
  .rename_i v;cases h;show#[rfl,v,rfl]
  .cases h
 .rintro⟨h1,h2,F⟩;refine#[t.2.1,?_,?_]
  .rw[qM];let:=zam.mp h2;lia
  .subst h1;rw[zj h2,<-F]
theorem zaK:t∈bH B w↔dP B w t.1 t.2.1=true/\t.2.2=B.idxOf (cJ w t.1 t.2.1):=by
 unfold bH;rw[List.mem_flatMap];constructor
 .grind[zbT]
 .rintro⟨h1,h2⟩;show#[t.1,?_,zbT.mpr #[rfl,h1,h2]];rw[qM];let:=zam.mp h1;lia
theorem zb7:(iS B w i).Pairwise λt u=>t.1=u.1/\t.2.1<u.2.1:=by
 unfold iS;rw[List.pairwise_filterMap];show pairwise_lt_range.imp λ{a b} G=>?_;intro x F y v;split at F
 .split at v
  .cases F;cases v;show#[rfl,G]
  .cases v
 .cases F
theorem zb9:(bH B w).Pairwise λt u=>t.1<u.1\/(t.1=u.1/\t.2.1<u.2.1):=by
 unfold bH;rw[List.pairwise_flatMap];show#[λi _=>zb7.imp λh=>.inr h,pairwise_lt_range.imp λ{a b} G=>?_];intro x F y v;let h1:=(zbT.mp F).1;let h2:=(zbT.mp v).1
 left;lia
def Tg:t∈fC B w i↔t.1=i/\∃o,B[t.2.2]?=⇑o/\t.2.1=i+o.length/\cJ w i (i+o.length)=o:=by
 unfold fC;rw[mem_filterMap];show#[λ⟨k,v,e⟩=>?_,λ⟨h1,o,h2,G,F⟩=>#[t.2.2,qM.mpr (qg.mp h2).1,?_]]
 .rw[qh (qM.mp v)]at e;split at e
  .cases e;show#[rfl,_,qh (qM.mp v),rfl,qX ‹_›]
  .cases e
 .rw[h2];show(zj (qU F)).trans ?_;show ⇑(i,i+o.length,t.2.2)=⇑t;rw[<-G,<-h1]
def Ls(hB:B.Nodup)(J:∀x∈B,x≠[])(hi:i<=w.length):(iS B w i).Perm (fC B w i):=by
 show(List.perm_ext_iff_of_nodup ?_ ?_).mpr λt=>?_
 .show zb7.imp λ⟨_,h⟩ e=>by rw[e]at h;lia
 .unfold fC;rw[List.Nodup,List.pairwise_filterMap];show List.nodup_range.imp λ{a b} L x G y v e=>?_;subst e;split at G
  .split at v
   .cases G;injection v with v
    injection v with _ v
    injection v with _ v
    show L v.symm
   .cases v
  .cases G
 .rw[zbT,Tg];constructor
  .rintro⟨h1,h2,F⟩;let#[a1,a2,a3]:=zam.mp h2;let hl:=Ft (w:=w) (i:=i) (j:=t.2.1) ∅ a2;show#[h1,cJ w i t.2.1,?_,by rw[hl];lia,by rw[hl];congr 1;lia];rw[F];rw[qh (List.idxOf_lt_length_of_mem a3),List.getElem_idxOf]
  .rintro⟨h1,o,h2,F,M⟩;let Z:o∈B:=qP h2;let ho:=J o Z;let Y:0<o.length:=qS.mpr ho;let h5:i+o.length<=w.length:=by let:=congrArg List.length M;unfold cJ at this;rw[qK,qJ]at this;lia
   show#[h1,zam.mpr #[∅,∅,by rw[F,M];show Z],?_];rw[F,M];let#[hk,e]:=qg.mp h2;rw[<-e];show(hB.idxOf_getElem _ hk).symm
def SC(F:B.Nodup)(v:∀x∈B,x≠[])(hi:i<=w.length):(iS B w i).length<=min B.length (w.length-i):=by
 show Nat.le_min.mpr #[?_,?_]
 .rw[(Ls F v hi).length_eq];unfold fC;grind
 .let h:=DB ((iS B w i).map (·.2.1)) (List.range' (i+1) (w.length-i)) ?_ ?_
  .simpa using h
  .rw[List.Nodup,pairwise_map];show zb7.imp λ⟨_,h⟩=>∅
  grind[mem_map,zam,zbT,List.mem_range'_1]
def Jb{α:Type}{f g:α->Nat}:∀l:List α,(∀x∈l,f x<=g x)->(l.map f).sum<=(l.map g).sum
 |[],_=>by simp
 |x::l,h=>by let h1:=h x (by simp);let h2:=Jb l λy v=>h y (by simp[v]);simp;lia
def Il(G:B.Nodup)(v:∀x∈B,x≠[])(J:B.length<=6)(F:w.length<=12):(bH B w).length<64:=by
 unfold bH;rw[List.length_flatMap];let h1:=Jb (f:=λi=>(iS B w i).length) (g:=λi=>min 6 (w.length-i)) (List.range w.length) λi hi=>by let:=SC (w:=w) (i:=i) G v (by rw[qM]at hi;lia);lia
 let h2:∀n,n<=12->((List.range n).map λi=>min 6 (n-i)).sum<64:=⋯
 show Nat.lt_of_le_of_lt h1 (h2 _ F)
def MT{α β:Type}{f g:α->List β}:∀l:List α,(∀x∈l,(f x).Perm (g x))->(l.flatMap f).Perm (l.flatMap g)
 |[],_=>.refl _
 |x::l,h=>by show(h x (by simp)).append (MT l λy v=>h y (by simp[v]))
def MP(F:B.Nodup)(v:∀x∈B,x≠[]):(bH B w).Perm ((List.range w.length).flatMap (fC B w)):=
 MT _ λi hi=>Ls F v (by rw[qM]at hi;lia)
def kf(t:Tr):List Int:=[(t.1:Int),(t.2.1:Int),(t.2.2:Int)]
def mQ(t:Tr):D:=tI (kf t)
def jt(t:Tr):mQ t=.tup [.int t.1,.int t.2.1,.int t.2.2]:=rfl
def SO(G:(bH B w).Perm l)(v:l.length<64):bN [.lst (l.map mQ)]=⇑(.lst (((bH B w).map mQ).map .sh)):=by
 let e:∀l:List Tr,l.map mQ=(l.map kf).map tI:=λl=>by rw[qH];rfl
 rw[e,e];show Tc ↑v (λx F=>?_) (G.map _) ?_
 .obtain⟨t,_,rfl⟩:=qN.mp F;show λz=>nomatch z
 .rw[pairwise_map];show zb9.imp λ{t u} h=>?_;grind[kf,cons_lt_cons_iff]
def IE{α:Type}(f:α->D):∀(B:List α)(k:Nat),cE k (B.map f)=(List.range B.length).map λi=>D.tup [.int ((k+i:Nat):Int),(B[i]?).elim .non f]
 |[],k=>rfl
 |b::B,k=>by rw[qA,cE,IE f B (k+1),qt,List.range_succ_eq_map,qA,qH];congr 1;show map_congr_left λi _=>?_;rw[show k+1+i=k+(i+1) by lia];rfl
def Uo(B:List Wd):cE 0 (B.map D.str)=(List.range B.length).map λ(k:Nat)=>D.tup [.int (k:Int),.str ((B[k]?).getD [])]:=by rw[IE];simp_all
def Ba{z:Int}{n:Nat}(h:z=n):fromTo 0 z.toNat=(List.range n).map λ(k:Nat)=>D.int (k:Int):=by subst h;show map_congr_left λk _=>?_;rw[Int.zero_add]
def CZ{i z:Int}{a n:Nat}(hi:i=a)(h:z=n):fromTo i (z-i).toNat=(List.range' a (n-a)).map λ(k:Nat)=>D.int (k:Int):=by subst hi;subst h;unfold fromTo;rw[List.range'_eq_map_range,qH];first|rfl|assumption|(simp_all;done)
def Ik{α β:Type}{f g:α->Option β}:∀{l:List α},(∀x∈l,f x=g x)->l.filterMap f=l.filterMap g
 |[],_=>rfl
 |x::l,h=>by rw[filterMap_cons,filterMap_cons,h x (by simp),Ik λy v=>h y (by simp[v])]
def zV(q:Nat):D:=.int (q:Int)
def jE(n:Nat)(f:Nat->List Nat):List S:=(List.range (n+1)).map λp=>S.lst ((f p).map λq=>S.sh (zV q))
def Gy(h:i<=n):(jE n f)[i]?=⇑(.lst ((f i).map λq=>S.sh (zV q))):=by unfold jE;rw[qI,getElem?_range ∅];rfl
def bL(f:Nat->List Nat)(i j:Nat):Nat->List Nat:=λp=>if p=i then f p++[j]else f p
def GH(h:i<=n):(jE n f).set i (.lst (((f i).map λq=>S.sh (zV q))++[.sh (zV j)]))=jE n (bL f i j):=by
 apply ext_getElem?;intro k;rw[getElem?_set];unfold jE;by_cases v:i=k
 .subst v;rw[zj rfl,zj (by simp;lia -verbose),qI,getElem?_range ∅];simp[bL]
 .rw[zk v,qI,qI];by_cases h2:k<n+1
  .rw[getElem?_range h2];simp[map_some,bL,zk (Ne.symm v)]
  .rw[qT (by simp;lia -verbose)];rfl
@[inline]def Dn(i j p q:Nat):Prop:=p<i\/q<i\/p=i/\q<j\/q=i/\p<j
def eN(B:List Wd)(w:Wd)(i j:Nat)(f:Nat->List Nat):Prop:=∀p,(f p).Nodup/\∀q,q∈f p↔(fS B w p q=true/\Dn i j p q)
def Hs:Dn i (j+1) p q↔Dn i j p q\/p=i/\q=j\/q=i/\p=j:=by
 unfold Dn;rw[Nat.lt_succ_iff_lt_or_eq,Nat.lt_succ_iff_lt_or_eq];constructor
 .rintro(h|h|⟨h,k|k⟩|⟨h,k|k⟩)
  .show .inl (.inl h)
  .show .inl (.inr (.inl h))
  .show .inl (.inr (.inr (.inl #[h,k])))
  .show .inr (.inl #[h,k])
  .show .inl (.inr (.inr (.inr #[h,k])))
  .show .inr (.inr #[h,k])
 .rintro((h|h|h|h)|h|h)
  .show .inl h
  .show .inr (.inl h)
  .show .inr (.inr (.inl #[h.1,.inl h.2]))
  .show .inr (.inr (.inr #[h.1,.inl h.2]))
  .show .inr (.inr (.inl #[h.1,.inr h.2]))
  .show .inr (.inr (.inr #[h.1,.inr h.2]))
def JF(v:i<j):¬Dn i j i j/\¬Dn i j j i:=by unfold Dn;lia
def HE(v:i<j):fS B w i j=dP B w i j:=by
 cases e:dP B w j i with
 |false=>unfold fS;rw[e,Bool.or_false]
 |true=>show absurd (zam.mp e).1 (Nat.lt_asymm v)
def QD(v:i<j)(h:eN B w i j f)(F:dP B w i j=false):eN B w i (j+1) f:=λp=>⟨(h p).1,λq=>by
 rw[(h p).2 q,Hs];show and_congr_right λz=>#[.inl,λk=>k.elim id λk=>?_]
 rcases k with⟨rfl,rfl⟩|⟨rfl,rfl⟩
 .rw[HE v,F]at z;cases z
 .rw[Iz,HE v,F]at z;cases z⟩
def Dc{P Q:Nat->Prop}(h1:l.Nodup)(h2:∀q,q∈l↔P q)(hn:¬P a)(h:∀q,P q\/q=a↔Q q):(l++[a]).Nodup/\∀q,q∈l++[a]↔Q q:=
 #[qx.mpr #[h1,by simp,λx F b v e=>hn ((h2 a).mp (by rw[qv.mp v]at e;rwa[<-e]))],λq=>by rw[qz,qv,h2 q,h q]]
def Sr(v:i<j)(h:eN B w i j f)(F:dP B w i j=true):eN B w i (j+1) (bL (bL f i j) j i):=λp=>by
 let#[h1,h2]:=h p;rw[<-HE v]at F;unfold bL;by_cases G:p=j
 .subst G;rw[zj rfl,zk (ne_of_gt v)];rw[Iz]at F;show Dc h1 h2 (λk=>(JF v).2 k.2) λq=>?_;rw[Hs];constructor
  .rintro(⟨a,b⟩|rfl)
   .show#[a,.inl b]
   .show#[F,.inr (.inr #[rfl,rfl])]
  .rintro⟨a,b|⟨b,_⟩|⟨b,_⟩⟩
   .show .inl #[a,b]
   .show absurd b (ne_of_gt v)
   .show .inr b
 .rw[zk G];by_cases hi:p=i
  .subst hi;rw[zj rfl];show Dc h1 h2 (λk=>(JF v).1 k.2) λq=>?_;rw[Hs];constructor
   .rintro(⟨a,b⟩|rfl)
    .show#[a,.inl b]
    .show#[F,.inr (.inl #[rfl,rfl])]
   .rintro⟨a,b|⟨_,b⟩|⟨_,b⟩⟩
    .show .inl #[a,b]
    .show .inr b
    .show absurd b G
  .rw[zk hi];show#[h1,λq=>?_];rw[h2 q,Hs];refine and_congr_right λ_=>#[.inl,λk=>k.elim id λk=>?_]
   rcases k with⟨k,_⟩|⟨_,k⟩
   .show absurd k hi
   .show absurd k G
def Te(F:w.length<=n)(h:eN B w i (n+1) f):eN B w (i+1) (i+2) f:=λp=>by
 let#[h1,h2]:=h p;show#[h1,λq=>?_];rw[h2 q];show and_congr_right λv=>?_;let#[M,L,G]:=Eg (zaI.mpr v);let Z:p<n+1:=Nat.lt_succ_of_le (le_trans L F);let Y:q<n+1:=Nat.lt_succ_of_le (le_trans M F);show#[λh=>?_,λh=>?_]
 .rcases h with h|h|⟨h,_⟩|⟨h,_⟩
  .show .inl (lt_succ_of_lt h)
  .show .inr (.inl (lt_succ_of_lt h))
  .show .inl (h▸lt_succ_self _)
  .show .inr (.inl (h▸lt_succ_self _))
 .have J:p<i+1\/q<i+1:=by
   rcases h with h|h|⟨h,h'⟩|⟨h,h'⟩
   .show .inl h
   .show .inr h
   .show .inr (Nat.lt_of_le_of_ne (le_of_lt_succ h') λz=>G (h.trans z.symm))
   .show .inl (Nat.lt_of_le_of_ne (le_of_lt_succ h') λz=>G (z.trans h.symm))
  rcases J with h|h
  .show(Nat.lt_or_eq_of_le (le_of_lt_succ h)).elim .inl λz=>.inr (.inr (.inl #[z,Y]))
  .show(Nat.lt_or_eq_of_le (le_of_lt_succ h)).elim (λz=>.inr (.inl z)) λz=>.inr (.inr (.inr #[z,Z]))
def VB:eN B w 0 1 λ_=>[]:=λp=>#[by simp,λq=>by simp only[not_mem_nil,false_iff];rintro⟨h,h2⟩;let:=Eg (zaI.mpr h);unfold Dn at h2;lia]
def Uq(hi:w.length<=i)(h:eN B w i j f):(nb B w p).Perm (f p):=by let#[h1,h2]:=h p;show(List.perm_ext_iff_of_nodup (zbI.imp λh=>by lia) h1).mpr λq=>?_;rw[zaI,h2 q];show#[λv=>#[v,?_],λv=>v.1];let:=Eg (zaI.mpr v);unfold Dn;lia
def Dl:(nb B w p).length<=w.length+1:=by show le_trans (List.length_filter_le _ _) (by simp)
def aH(B:List Wd)(w:Wd):List D:=(List.range (w.length+1)).map λp=>D.lst ((nb B w p).map zV)
def KO(v:(nb B w p).Perm l)(F:w.length<=60):bN [.lst (l.map zV)]=⇑(.lst (((nb B w p).map zV).map .sh)):=by
 let e:∀l:List Nat,l.map zV=(l.map λ(q:Nat)=>(q:Int)).map D.int:=λl=>by rw[qH];rfl
 rw[e,e];show UC (by rw[qo,<-v.length_eq];let:=Dl (B:=B) (w:=w) (p:=p);lia) (v.map _) ?_;rw[pairwise_map];show zbI.imp λh=>∅
def GL(h:v++i::post=List.range n):v.length=i/\i<n:=by
 let h1:(List.range n)[v.length]?=⇑i:=by rw[<-h];simp
 let#[h2,F]:=qg.mp h1;rw[List.getElem_range]at F;rw[qG]at h2;lia
def NA(h:v++i::post=List.range' a n):i=a+v.length/\v.length<n:=by
 let h1:(List.range' a n)[v.length]?=⇑i:=by rw[<-h];simp
 let#[h2,F]:=qg.mp h1;rw[List.getElem_range']at F;rw[List.length_range']at h2;lia
def LY(h:eN B w i j f)(p:Nat):(f p).length<=w.length+1:=by let#[h1,h2]:=h p;let:=DB (f p) (nb B w p) h1 λq v=>zaI.mpr ((h2 q).mp v).1;let:=Dl (B:=B) (w:=w) (p:=p);lia
def jS(v:List Tr)(f:Nat->List Nat):Prop:=∀p,(f p).Nodup/\∀q,q∈f p↔∃t∈v,(t.1=p/\t.2.1=q)\/(t.1=q/\t.2.1=p)
def VL(h3:t.1<t.2.1)(G:∀u∈v,u.1<u.2.1)(L:∀u∈v,¬(u.1=t.1/\u.2.1=t.2.1))(h:jS v f):jS (v++[t]) (bL (bL f t.1 t.2.1) t.2.1 t.1):=λp=>by
 obtain⟨h1,h2⟩:=h p;let J:∀q,(∃u∈v++[t],(u.1=p/\u.2.1=q)\/(u.1=q/\u.2.1=p))↔(q∈f p\/((t.1=p/\t.2.1=q)\/(t.1=q/\t.2.1=p))):=λq=>by
  rw[h2 q];constructor
  .rintro⟨u,F,h⟩;rcases qz.mp F with z|z
   .show .inl #[u,z,h]
   .rw[qv.mp z]at h;show .inr h
  .rintro(⟨u,F,h⟩|h)
   .show#[u,qj _ F,h]
   .show#[t,by simp,h]
 by_cases hi:p=t.1
 .let M:p≠t.2.1:=by lia
  simp only[bL,zk M,zj hi];show#[qx.mpr #[h1,by simp,λa Z b Y e=>?_],λq=>?_]
  .rw[qv.mp Y]at e;let#[u,F,h]:=(h2 _).mp Z;let:=G u F;let:=L u F;lia
  .rw[J q,qz,qv];show or_congr_right ?_;lia
 .by_cases hj:p=t.2.1
  .simp only[bL,zj hj,zk hi];refine#[qx.mpr #[h1,by simp,λa Z b Y e=>?_],λq=>?_]
   .rw[qv.mp Y]at e;let#[u,F,h]:=(h2 _).mp Z;let:=G u F;let:=L u F;lia
   .rw[J q,qz,qv];show or_congr_right ?_;lia
  .simp only[bL,zk hj,zk hi];show#[h1,λq=>?_];rw[J q];constructor
   .show .inl
   .rintro(h|h)
    .show h
    .lia
def Vy(h:jS (bH B w) f)(p:Nat):(nb B w p).Perm (f p):=by
 let#[h1,h2]:=h p;show(List.perm_ext_iff_of_nodup (zbI.imp λh=>by lia) h1).mpr λq=>?_;rw[zaI,h2 q];unfold fS;rw[or_eq_true];constructor
 .rintro(h|h)
  .show#[(p,q,B.idxOf (cJ w p q)),zaK.mpr #[h,rfl],.inl #[rfl,rfl]]
  .show#[(q,p,B.idxOf (cJ w q p)),zaK.mpr #[h,rfl],.inr #[rfl,rfl]]
 grind[zaK]
def MG(e:v++post=bH B w)(h:jS v f)(p:Nat):(f p).length<=w.length+1:=by
 obtain⟨h1,h2⟩:=h p;let:=DB (f p) (nb B w p) h1 λq G=>by
  let#[t,F,L]:=(h2 q).mp G;let J:t∈bH B w:=by rw[<-e];show qj _ F
  grind[zaK,zaI,fS]
 let:=Dl (B:=B) (w:=w) (p:=p);lia
inductive aX(R:Nat->Nat->Prop):Nat->Nat->Prop
 |refl (p:Nat):aX R p p
 |step {p q r:Nat}:aX R p q->R q r->aX R p r
def aX.trans{R:Nat->Nat->Prop}(h1:aX R p q)(h2:aX R q r):aX R p r:=by
 induction h2 with
 |refl=>show h1
 |step _ e v=>show .step v e
def aX.one{R:Nat->Nat->Prop}(h:R p q):aX R p q:=.step (.refl p) h
def aX.symm{R:Nat->Nat->Prop}(F:∀p q,R p q->R q p)(h:aX R p q):aX R q p:=by
 induction h with
 |refl=>show .refl _
 |step _ e v=>show(aX.one (F _ _ e)).trans v
def aX.mono{R R':Nat->Nat->Prop}(h:∀p q,R p q->R' p q)(c:aX R p q):aX R' p q:=by
 induction c with
 |refl=>show .refl _
 |step _ e v=>show .step v (h _ _ e)
structure bA(R:Nat->Nat->Prop)(L:Nat->Nat):Prop where
 conn:∀p,aX R p (L p)
 same:∀p q,R p q->L p=L q
 le:∀p,L p<=p
def bA.eq{R:Nat->Nat->Prop}(h:bA R L)(c:aX R p q):L p=L q:=by
 induction c with
 |refl=>rfl
 |step _ e v=>show v.trans (h.same _ _ e)
def bA.unique{R:Nat->Nat->Prop}(h:bA R L)(k:bA R M)(p:Nat):L p=M p:=by
 let h1:L p<=M p:=by rw[h.eq (k.conn p)];show h.le _
 let h2:M p<=L p:=by rw[k.eq (h.conn p)];show k.le _
 lia
def bA.zero{R:Nat->Nat->Prop}(v:∀p q,R p q->R q p)(h:bA R L)(p:Nat):L p=0↔aX R 0 p:=by
 let F:L 0=0:=by let:=h.le 0;lia
 constructor
 .intro e;let:=h.conn p;rw[e]at this;show this.symm v
 .intro c;rw[<-h.eq c,F]
theorem zhH:bA (λ_ _=>False) λp=>p:=#[λp=>.refl p,λ_ _ h=>h.elim,λp=>zm p]
def iZ(L:Nat->Nat)(i j:Nat):Nat->Nat:=λp=>if L p=max (L i) (L j)then min (L i) (L j)else L p
def SH{R R':Nat->Nat->Prop}{L:Nat->Nat}{i j:Nat}(hR:∀p q,R' p q->R' q p)(hsub:∀p q,R p q->R' p q)(hij:R' i j)(hall:∀p q,R' p q->R p q\/(p=i/\q=j)\/(p=j/\q=i))(h:bA R L):bA R' (iZ L i j) where
 conn p:=by
  unfold iZ;split
  .rename_i e;let cp:aX R' p (L p):=(h.conn p).mono hsub;let ci:aX R' i (L i):=(h.conn i).mono hsub;let cj:aX R' j (L j):=(h.conn j).mono hsub;let cij:aX R' (L i) (L j):=(ci.symm hR).trans ((aX.one hij).trans cj);rw[e]at cp;rcases Nat.le_total (L i) (L j)with hh|hh
   .rw[Nat.max_eq_right hh]at cp;rw[min_eq_left hh];show cp.trans (cij.symm hR)
   .rw[Nat.max_eq_left hh]at cp;rw[min_eq_right hh];show cp.trans cij
  .show(h.conn p).mono hsub
 same p q e:=by
  let key:iZ L i j i=iZ L i j j:=by unfold iZ;split<;>split<;>lia
  rcases hall p q e with e|⟨rfl,rfl⟩|⟨rfl,rfl⟩
  .unfold iZ;rw[h.same p q e]
  .show key
  .show key.symm
 le p:=by let:=h.le p;unfold iZ;split<;>lia
def aB(B:List Wd)(w:Wd)(p q:Nat):Prop:=fS B w p q=true
def Ew(p q:Nat)(h:aB B w p q):aB B w q p:=by unfold aB at*;rw[Iz];show h
def jB(v:List Tr)(p q:Nat):Prop:=∃t∈v,(t.1=p/\t.2.1=q)\/(t.1=q/\t.2.1=p)
def Vm(p q:Nat)(h:jB v p q):jB v q p:=by let#[t,F,h]:=h;show#[t,F,h.symm]
def Sy:jB (bH B w) p q↔aB B w p q:=by
 unfold jB aB fS;rw[or_eq_true];constructor
 .grind[zaK]
 .rintro(h|h)
  .show#[(p,q,B.idxOf (cJ w p q)),zaK.mpr #[h,rfl],.inl #[rfl,rfl]]
  .show#[(q,p,B.idxOf (cJ w q p)),zaK.mpr #[h,rfl],.inr #[rfl,rfl]]
def TR(h:bA (jB v) L):bA (jB (v++[t])) (iZ L t.1 t.2.1):=by
 show SH Vm (λp q⟨u,F,e⟩=>#[u,qj _ F,e]) #[t,by simp,.inl #[rfl,rfl]] (λp q G=>?_) h;let#[u,F,e]:=G;rcases qz.mp F with z|z
 .show .inl #[u,z,e]
 .rw[qv.mp z]at e;rcases e with⟨a,b⟩|⟨a,b⟩
  .show .inr (.inl #[a.symm,b.symm])
  .show .inr (.inr #[b.symm,a.symm])
def bA.congr{R R':Nat->Nat->Prop}(h:∀p q,R p q↔R' p q)(k:bA R L):bA R' L:=
 #[λp=>(k.conn p).mono λp q e=>(h p q).mp e,λp q e=>k.same p q ((h p q).mpr e),k.le]
def kM:List Tr->(Nat->Nat)->Nat->Nat
 |[],L=>L
 |t::r,L=>kM r (iZ L t.1 t.2.1)
def fG(B:List Wd)(w:Wd):Nat->Nat:=kM (bH B w) λp=>p
def Mw:∀(F v:List Tr)(L:Nat->Nat),bA (jB v) L->bA (jB (v++F)) (kM F L)
 |[],v,L,h=>by rw[qB];show h
 |t::r,v,L,h=>by let:=Mw r (v++[t]) _ (TR (t:=t) h);rw[qp]at this;show this
def LV(B:List Wd)(w:Wd):bA (aB B w) (fG B w):=by
 let v:bA (jB []) λp=>p:=zhH.congr λp q=>#[λh=>h.elim,λ⟨_,h,_⟩=>nomatch h]
 show(Mw (bH B w) [] _ v).congr λp q=>Sy
def kS(B:List Wd)(w:Wd):Prop:=aX (aB B w) 0 w.length
theorem zhB:fG B w w.length=0↔kS B w:=(LV B w).zero Ew _
def NQ:∀l m:List Int,bI (l.map D.int) (m.map D.int)=false
 |[],_=>by cases‹List Int›<;>rfl
 |_::_,[]=>rfl
 |a::l,b::m=>by show(aY (.int a) (.int b)||bI (l.map D.int) (m.map D.int))=false;rw[NQ l m];rfl
def La:∀{l m:List Int},l.map D.int=m.map D.int->l=m
 |[],[],_=>rfl
 |[],_::_,h=>nomatch h
 |_::_,[],h=>nomatch h
 |a::l,b::m,h=>by
  simp only[qA,List.cons.injEq]at h;rw[La h.2];injection h.1 with e
  rw[e]
def TH{l m:List Int}:eK (.lst (l.map D.int)) (.lst (m.map D.int))=⇑↥(l=m):=by
 unfold eK;rw[zk (by
  let:fL (.lst (l.map D.int))=1:=by show bD (l.map D.int)+1=1;rw[GU]
  rw[this,show aY (.lst (l.map D.int)) (.lst (m.map D.int))=bI (l.map D.int) (m.map D.int) from rfl,NQ];decide)]
 by_cases h:l=m
 .subst h;simp
 .let v:¬(D.lst (l.map D.int)=D.lst (m.map D.int)):=λz=>h (La (by injection z));simp[h,v]
def Mc{l m:List Int}:eT (.lst (l.map D.int)) (.lst (m.map D.int))=⇑(!decide (l=m)):=by unfold eT;rw[TH];rfl
def eI(n:Nat)(f:Nat->Nat):List D:=(List.range (n+1)).map λp=>zV (f p)
def eP(n:Nat)(f:Nat->Nat):List Int:=(List.range (n+1)).map λp=>((f p:Nat):Int)
def Fe(n:Nat)(f:Nat->Nat):eI n f=(eP n f).map D.int:=by unfold eI eP;rw[qH];rfl
def Hb:(eI n f).length=n+1:=by simp[eI]
def Ha(h:p<=n):(eI n f)[p]?=⇑(zV (f p)):=by unfold eI;rw[qI,getElem?_range ∅];rfl
def LH(h:p<=n):atI ((eI n f).map S.sh) (p:Int)=⇑(.sh (.int ((f p:Nat):Int))):=by show Cv ∅ ?_;rw[qZ,qI,Ha h];rfl
theorem zgu:eP n f=eP n g↔∀p,p<=n->f p=g p:=by
 unfold eP;constructor
 .intro h p v;let:=congrArg (λl=>l[p]?) h;simp only[qI,getElem?_range (show p<n+1 by lia),map_some]at this;lia
 .intro h;show map_congr_left λp v=>by rw[h p (by let:=qM.mp v;lia)]
def Tb(h:p<=n):(eI n f).set p (zV v)=eI n λq=>if q=p then v else f q:=by
 show ext_getElem? λj=>?_;rw[getElem?_set];by_cases F:j<n+1
 .by_cases e:p=j
  .subst e;rw[zj rfl,zj (by rw[Hb];show F),Ha h,zj rfl]
  .rw[zk e,Ha ∅,Ha ∅,zk ∅]
 .let:(eI n λq=>if q=p then v else f q)[j]?=none:=List.getElem?_eq_none_iff.mpr (by rw[Hb];lia);rw[this];let h2:(eI n f)[j]?=none:=List.getElem?_eq_none_iff.mpr (by rw[Hb];lia);rw[h2,zk ∅]
def Gg{a b:Nat}:(if(b:Int)<(a:Int)then(b:Int)else(a:Int))=((min a b:Nat):Int):=by split<;>lia
def Jz{a b:Nat}:(if(b:Int)>(a:Int)then(b:Int)else(a:Int))=((max a b:Nat):Int):=by split<;>lia
def iR(n:Nat)(f:Nat->Nat):Nat:=((List.range (n+1)).map f).sum
def MO{α:Type}{f g:α->Nat}:∀l:List α,(∀x∈l,f x<=g x)->(l.map g).sum<=(l.map f).sum->∀x∈l,f x=g x
 |[],_,_=>by simp
 |a::l,h,e=>by
  let h1:=h a (by simp);let h2:=Jb l λx v=>h x (by simp[v]);simp at e;intro x v;rcases qC.mp v with rfl|v
  .lia
  .show MO l (λy F=>h y (by simp[F])) ∅ x v
def RC(h:∀p,g p<=f p)(v:¬∀p,p<=n->g p=f p):iR n g<iR n f:=by
 rcases lt_or_ge (iR n g) (iR n f)with q|q
 .show q
 .show(v λp F=>MO (List.range (n+1)) (λx _=>h x) q p (qM.mpr ∅)).elim
structure jO(R:Nat->Nat->Prop)(n:Nat)(f:Nat->Nat):Prop where
 le:∀p,f p<=p
 conn:∀p,aX R p (f p)
def jP(R:Nat->Nat->Prop)(k:Nat)(f:Nat->Nat):Prop:=∀p,p<k->∀q,R p q->f p<=f q
def UP{R:Nat->Nat->Prop}(F:∀p q,R p q->R q p)(hn:∀p q,R p q->p<=n/\q<=n)(h:jO R n f)(v:jP R (n+1) f):bA R f:=
 #[h.conn,λp q e=>by let h1:=v p (by let:=hn p q e;lia) q e;let h2:=v q (by let:=hn p q e;lia) p (F p q e);lia,h.le]
def JR{x:Int}{l:List Int}:∃m,(x::l).min?=⇑m/\m∈x::l/\∀y∈x::l,m<=y:=by
 cases e:(x::l).min? with
 |none=>cases List.min?_eq_none_iff.mp e
 |some m=>show#[m,rfl,List.min?_mem e,λy v=>(List.le_min?_iff e).mp (Int.le_refl m) y v]
def SN{R:Nat->Nat->Prop}{l:List Nat}(hl:∀q,q∈l↔R k q)(M:jO R n g)(h4:∀p,g p<=f0 p)(Y:(∀p,p<=n->g p=f0 p)->jP R k f0)(hk:k<=n)(hn:∀p q,R p q->p<=n/\q<=n):
  ∃v:Nat,((((g k:Nat):Int)::l.map λq=>((g q:Nat):Int)).min?)=⇑((v:Nat):Int)/\jO R n (λq=>if q=k then v else g q)/\(∀p,(if p=k then v else g p)<=f0 p)/\((∀p,p<=n->(if p=k then v else g p)=f0 p)->jP R (k+1) f0):=by
 let#[m,em,hm,G]:=JR (x:=((g k:Nat):Int)) (l:=l.map λq=>((g q:Nat):Int));let hv:∃q,m=((g q:Nat):Int)/\(q=k\/R k q):=by grind
 let#[q,rfl,hq]:=hv;let h5:g q<=g k:=by let:=G _ (by simp:((g k:Nat):Int)∈_);lia
 show#[g q,em,#[λp=>?_,λp=>?_],λp=>?_,λL=>?_]
 .let:=M.le p;grind
 .by_cases e:p=k
  .subst e;simp;rcases hq with rfl|hq
   .show M.conn _
   .show(aX.one hq).trans (M.conn q)
  .simp[zk e];show M.conn p
 .grind
 .have F:∀p,p<=n->g p=f0 p:=λp hp=>by grind
  intro p hp r Z;rcases lt_or_ge p k with J|J
  .show Y F p J r Z
  .obtain rfl:p=k:=by lia
   let h1:=L p hk;let h2:=G ((g r:Nat):Int) (qk _ (qN.mpr #[r,(hl r).mpr Z,rfl]));let h3:=F r (hn p r Z).2;lia
def GC(p q:Nat)(h:aB B w p q):p<=w.length/\q<=w.length:=by let:=Eg (zaI.mpr h);show#[this.2.1,this.1]
def Ow(l:List (List Nat)):bY (l.map D.str)=⇑l:=by
 induction l with
 |nil=>rfl
 |cons a l v=>show(bY (l.map D.str)).map (a::·)=_;rw[v];rfl
def UX{l:List (List Nat)}(h:(l.map List.length).sum<=big):fU [] [.lst (l.map D.str)]=⇑(.sh (.str l.flatten)):=by show(bY (l.map D.str)).bind _=_;rw[Ow];show(if(l.map List.length).sum+l.length*[].length<=big then ⇑(S.sh (.str (eA [] l)))else none)=_;rw[zj (by show h),Mu]
def Nv:∀l:List Int,(∀z∈l,-1000000000000<z/\z<1000000000000)->dY (l.map D.int)=true
 |[],_=>rfl
 |a::l,h=>by show(kK (.int a)&&dY (l.map D.int))=true;let h1:=h a (by simp);rw[Nv l λz v=>h z (by simp[v]),Bool.and_true];show(↥(-1000000000000<a)&&↥(a<1000000000000))=true;rw[qU h1.1,qU h1.2];rfl
def MW:∀l:List Int,jF (l.map D.int)=42*l.length
 |[]=>rfl
 |a::l=>by show 41+1+jF (l.map D.int)=_;rw[MW l,qt];lia
def Wc{l:List Int}(h:∀z∈l,-1000000000000<z/\z<1000000000000)(v:l.length<=20000):cX (.tup (l.map D.int))=true:=by unfold cX;grind[kK,dY,Nv,fL,bD,GU,tJ,jF,MW]
def ju(D':Ends)(m:Nat)(J:Nat->Env->Prop):Ends:={D' with nx:=λv=>∃m',m'<m/\J m' v,ct:=λv=>∃m',m'<m/\J m' v,bk:=D'.nx}
def oj(b:WS)(D':Ends)(m:Nat)(J:Nat->Env->Prop)(k:Bool)(U:Env):Prop:=if k then b (ju D' m J) U else D'.nx U
def mL:oj b D' m J true U=b (ju D' m J) U:=rfl
def mM:oj b D' m J false U=D'.nx U:=rfl
def DV(v:m'<m)(h:J m' U):(ju D' m J).nx U:=#[m',v,h]
def EK(J:Nat->Env->Prop)(m:Nat)(F:J m U)(h:∀m U,J m U->c U (oj b D' m J) D'.ex):dH c b D' U:=#[J,#[m,F],λm U v=>h m U v]
def Hd{l:List α}(h:0<l.length):∃v,v∈l/\l.getLast?=⇑v/\atI l (-1)=⇑v:=by show#[l.getLast (qS.mp h),List.getLast_mem _,List.getLast?_eq_some_getLast (qS.mp h),?_];unfold atI ixN;rw[zk ⋯,zj ∅];show l[((-1:Int)+(l.length:Int)).toNat]?=_;rw[show((-1:Int)+(l.length:Int)).toNat=l.length-1 by lia,qh ∅,List.getLast_eq_getElem]
inductive Walk(R:Nat->Nat->Prop)(g:Nat):Nat->Nat->Prop
 |zero:Walk R g 0 g
 |step {d p q:Nat}:Walk R g d p->R p q->Walk R g (d+1) q
def aC(R:Nat->Nat->Prop)(g q d:Nat):Prop:=Walk R g d q/\∀d',d'<d->¬Walk R g d' q
section
variable{R:Nat->Nat->Prop}
def Walk.inv(h:Walk R g d q):(d=0/\q=g)\/∃e p,d=e+1/\Walk R g e p/\R p q:=by
 cases h with
 |zero=>show .inl #[rfl,rfl]
 |step h e=>show .inr #[_,_,rfl,h,e]
def Fj(h:aC R g q d)(k:aC R g q e):d=e:=by
 rcases Nat.lt_trichotomy d e with z|z|z
 .show(k.2 d z h.1).elim
 .show z
 .show(h.2 e z k.1).elim
def Lm:∀{d:Nat},Walk R g d q->∃e,e<=d/\aC R g q e:=by
 intro d;induction d using Nat.strongRecOn with
 |_ d G=>
  intro h;by_cases z:∃d',d'<d/\Walk R g d' q
  .obtain⟨d',F,v⟩:=z;let#[e,J,hi]:=G d' F v;show#[e,∅,hi]
  .show#[d,zm _,h,λd' F v=>z #[d',F,v]]
def ML:aC R g g 0:=#[.zero,λv h=>∅]
def Eo(h:aC R g q 0):q=g:=by
 rcases h.1.inv with⟨_,e⟩|⟨_,_,e,_⟩
 .show e
 .lia
def JX(h:aC R g g d):d=0:=Fj h ML
def GN(h:aC R g q (d+1)):∃p,aC R g p d/\R p q:=by
 rcases h.1.inv with⟨e,_⟩|⟨e,p,z,G,F⟩
 .lia
 .obtain rfl:d=e:=by lia
  show#[p,#[G,λJ L v=>h.2 (J+1) ∅ (.step v F)],F]
def Cw(h:Walk R g d q):aX R g q:=by
 induction h with
 |zero=>show .refl _
 |step _ e v=>show .step v e
def Ur(h:aX R g q):∃d,Walk R g d q:=by
 induction h with
 |refl=>show#[0,.zero]
 |step _ e v=>let#[d,h]:=v;show#[d+1,.step h e]
theorem zaF:aX R g q↔∃d,aC R g q d:=by
 constructor
 .grind[Ur,Lm]
 .rintro⟨d,h⟩;show Cw h.1
open Classical in
def fK(R:Nat->Nat->Prop)(g q:Nat):Nat:=if h:∃d,aC R g q d then Classical.choose h else 0
def Df(h:aC R g q d):fK R g q=d:=by unfold fK;rw[dif_pos #[d,h]];show Fj (Classical.choose_spec (#[d,h]:∃d,aC R g q d)) h
structure jQ(R:Nat->Nat->Prop)(g:Nat)(L:List (Nat×Nat)):Prop where
 ok:∀t∈L,aC R g t.1 t.2
 nd:(L.map (·.1)).Nodup
def jQ.at(h:jQ R g L)(h1:(q,d)∈L)(h2:aC R g q e):d=e:=Fj (h.ok _ h1) h2
structure bM(R:Nat->Nat->Prop)(g:Nat)(L:List (Nat×Nat))(qu:List (Nat×Nat)):Prop where
 right:jQ R g L
 sub:∀t∈qu,t∈L
 out:∀t∈L,t∉qu->∀q,R t.1 q->∃e,(q,e)∈L
 up:qu.Pairwise λt u=>t.2<=u.2
 near:∀t r,qu=t::r->∀u∈r,u.2<=t.2+1
 all:∀t r,qu=t::r->∀q e,aC R g q e->e<=t.2->(q,e)∈L
 gin:(g,0)∈L
def bM.done(h:bM R g L [])(k:aC R g q d):(q,d)∈L:=by
 induction d generalizing q with
 |zero=>rw[Eo k];show h.gin
 |succ d F=>let#[p,J,G]:=GN k;let#[e,v]:=h.out _ (F J) (by simp) q G;let:=h.right.at v k;rw[<-this];show v
structure pD(R:Nat->Nat->Prop)(g:Nat)(L qu:List (Nat×Nat))(t:Nat×Nat)(pre:List Nat):Prop where
 right:jQ R g L
 tin:t∈L
 sub:∀u∈qu,u∈L
 out:∀u∈L,u∉qu->u≠t->∀q,R u.1 q->∃e,(q,e)∈L
 gone:∀q∈pre,∃e,(q,e)∈L
 up:qu.Pairwise λt u=>t.2<=u.2
 lo:∀u∈qu,t.2<=u.2/\u.2<=t.2+1
 all:∀q e,aC R g q e->e<=t.2->(q,e)∈L
 gin:(g,0)∈L
def bM.take{L qu:List (Nat×Nat)}{t:Nat×Nat}(h:bM R g L (t::qu)):pD R g L qu t [] where
 right:=h.right
 tin:=h.sub t (by simp)
 sub u hu:=h.sub u (by simp[hu])
 out u hu hn ht:=h.out u hu (by simp[hn,ht])
 gone:=by simp
 up:=(pairwise_cons.mp h.up).2
 lo u hu:=#[(pairwise_cons.mp h.up).1 u hu,h.near t qu rfl u hu]
 all q e hq he:=h.all t qu rfl q e hq he
 gin:=h.gin
def pD.skip(h:pD R g L F t v)(J:(q,e)∈L):pD R g L F t (v++[q]):=
 #[h.right,h.tin,h.sub,h.out,λx G=>(qz.mp G).elim (h.gone x) λz=>#[e,by rw[qv.mp z];show J],h.up,h.lo,h.all,h.gin]
def pD.put(h:pD R g L qu t M)(hr:R t.1 q)(hn:∀e,(q,e)∉L):pD R g (L++[(q,t.2+1)]) (qu++[(q,t.2+1)]) t (M++[q]):=by
 let hd:aC R g q (t.2+1):=by show#[.step (h.right.ok t h.tin).1 hr,λd' h1 hw=>?_];let#[e,G,hi]:=Lm hw;show hn e (h.all q e hi ∅)
 show#[#[λu F=>?_,?_],qj _ h.tin,λu F=>?_,λu F J Y=>?_,λx v=>?_,?_,λu F=>?_,λx e v G=>qj _ (h.all x e v G),qj _ h.gin]
 .rcases qz.mp F with z|z
  .show h.right.ok u z
  .rw[qv.mp z];show hd
 .rw[map_append];show qx.mpr #[h.right.nd,by simp,λx v y Z e=>?_];grind
 .rcases qz.mp F with z|z
  .show qj _ (h.sub u z)
  .show qi _ z
 .rcases qz.mp F with z|z
  .intro x v;let#[e,G]:=h.out u z (λk=>J (qj _ k)) Y x v;show#[e,qj _ G]
  .show(J (qi _ z)).elim
 .rcases qz.mp v with z|z
  .obtain⟨e,G⟩:=h.gone x z;show#[e,qj _ G]
  grind
 .show pairwise_append.mpr #[h.up,by simp,λx v y Z=>?_];rw[qv.mp Z];show(h.lo x v).2
 .rcases qz.mp F with z|z
  .show h.lo u z
  grind
def pD.queue(h:pD R g L qu t l)(hl:∀q,R t.1 q->q∈l):bM R g L qu:=by
 have v:∀u∈L,u∉qu->∀q,R u.1 q->∃e,(q,e)∈L:=λu M hn q F=>by
  by_cases e:u=t
  .subst e;show h.gone q (hl q F)
  .show h.out u M hn e q F
 show#[h.right,h.sub,v,h.up,λG r e u M=>?_,λG r e q d F hd=>?_,h.gin]
 .subst e;let h1:=h.lo u (by simp[M]);let h2:=h.lo G (by simp);lia
 .subst e;let h2:=h.lo G (by simp);rcases lt_or_ge t.2 d with z|z
  .obtain⟨k,rfl⟩:∃k,d=k+1:=#[d-1,∅]
   let#[p,hp,hr]:=GN F;let Y:=h.all p k hp ∅
   --p was taken out,or it is in the queue with less than the first has
   by_cases Z:(p,k)∈G::r
   .have h3:=h.lo _ Z;let h4:G.2<=k:=by
     rcases qC.mp Z with J|J
     .rw[<-J];show zm _
     .show(pairwise_cons.mp h.up).1 _ J
    lia
   .obtain⟨e,he⟩:=v _ Y Z q hr;let:=h.right.at he F;rw[<-this];show he
  .show h.all q d F z
def bM.start:bM R g [(g,0)] [(g,0)] where
 right:=#[λt ht=>by rw[qv.mp ht];show ML,by simp]
 sub t ht:=ht
 out t ht hn:=(hn ht).elim
 up:=by simp
 near t r e u hu:=by
  injection e with _ e
  rw[<-e]at hu;cases hu
 all t r e q d hq hd:=by grind[Eo]
 gin:=by simp
end
def aM(L:List (Nat×Nat)):List D:=L.map λt=>zV t.1
def dN(L:List (Nat×Nat)):List D:=L.map λt=>zV t.2
def Ir(h:zV a=zV b):a=b:=by
 injection h with h
 lia
theorem zhk{q:Nat}:D.int (q:Int)∈aM L↔∃d,(q,d)∈L:=by
 unfold aM;rw[qN];constructor
 .rintro⟨t,v,e⟩;show#[t.2,by rw[<-Ir (a:=t.1) (b:=q) e];show v]
 .rintro⟨d,F⟩;show#[(q,d),F,rfl]
def KA(h:(L.map (·.1)).Nodup):(aM L).Nodup:=by
 unfold aM;let:(L.map λt=>zV t.1)=(L.map (·.1)).map zV:=by rw[qH];rfl
 rw[this,List.Nodup,pairwise_map];show h.imp λv e=>v (Ir e)
open Classical in
def Li{q:Nat}:fO (.int (q:Int)) (.dct false (aM L) vs)=⇑↥(∃d,(q,d)∈L):=by show mI (.int (q:Int)) (.dct false (aM L) vs)=_;show(if cL false (.int (q:Int))then ⇑↥(D.int (q:Int)∈aM L)else none)=_;rw[zj (show cL false (.int (q:Int))=true from rfl)];congr 1;show decide_eq_decide.mpr zhk
open Classical in
def GA{L:List (Nat×Nat)}{vs:List D}{q:Nat}(h:∃d,(q,d)∈L):mI (.int (q:Int)) (.dct false (aM L) vs)=⇑true:=by let:=Li (L:=L) (vs:=vs) (q:=q);rw[qU h]at this;show this
open Classical in
def Gr{L:List (Nat×Nat)}{vs:List D}{q:Nat}(h:¬∃d,(q,d)∈L):mI (.int (q:Int)) (.dct false (aM L) vs)=⇑false:=by let:=Li (L:=L) (vs:=vs) (q:=q);rw[qV h]at this;show this
open Classical in
def Fs{f:Nat->α}:∀{L:List (Nat×Nat)}{q d:Nat},(L.map (·.1)).Nodup->(q,d)∈L->lk (aM L) (L.map λt=>f t.2) (.int (q:Int))=⇑(f d)
 |[],_,_,_,h=>nomatch h
 |t::L,q,d,hn,h=>by
  show(if zV t.1=.int (q:Int)then ⇑(f t.2)else lk (aM L) (L.map λt=>f t.2) (.int (q:Int)))=_;rw[qA,qO]at hn;rcases qC.mp h with e|h
  .rw[<-e,zj (show zV (q,d).1=.int (q:Int) from rfl)]
  .let v:¬zV t.1=.int (q:Int):=λe=>hn.1 (by rw[Ir (a:=t.1) (b:=q) e];show qN.mpr #[_,h,rfl]);rw[zk v];show Fs hn.2 h
def LO{L:List (Nat×Nat)}{l:List S}{q:Nat}{s:S}(h:∀d,(q,d)∉L):cM false (aM L) l (.int (q:Int)) s=.dct false (aM L++[.int (q:Int)]) (l++[s]):=by
 unfold cM;let:mH (aM L) (.int (q:Int))=none:=by unfold mH;rw[List.findIdx?_eq_none_iff];intro x v;rw[decide_eq_false_iff_not];intro e;subst e;let#[d,F]:=zhk.mp v;show h d F
 rw[this]
def aG(B:List Wd)(w:Wd)(p:Nat):Nat:=(((nb B w p).filter λq=>↥(fK (aB B w) w.length q+1=fK (aB B w) w.length p)).head?).getD p
def aW(B:List Wd)(w:Wd):Nat->Nat->List Nat
 |0,p=>[p]
 |d+1,p=>p::aW B w d (aG B w p)
def EX:atI (l++[x]) (-1)=⇑x:=by let#[v,_,h1,h2]:=Hd (l:=l++[x]) (by simp);grind
def LZ(h:(x::l).Pairwise (·<·)):((x::l).map λq=>((q:Nat):Int)).min?=⇑((x:Nat):Int):=by let#[m,em,F,v]:=JR (x:=((x:Nat):Int)) (l:=l.map λq=>((q:Nat):Int));grind[mem_cons_self,mem_cons,mem_map,pairwise_cons.mp]
def Et(h:aC (aB B w) w.length p (d+1)):∃r,((nb B w p).filter λq=>↥(fK (aB B w) w.length q+1=fK (aB B w) w.length p))=aG B w p::r/\aC (aB B w) w.length (aG B w p) d:=by
 let#[q,M,L]:=GN h;let F:q∈(nb B w p).filter λq=>↥(fK (aB B w) w.length q+1=fK (aB B w) w.length p):=by rw[mem_filter];show#[zaI.mpr (Ew _ _ L),qU (by rw[Df M,Df h])]
 cases e:(nb B w p).filter λq=>↥(fK (aB B w) w.length q+1=fK (aB B w) w.length p)with
 |nil=>rw[e]at F;cases F
 |cons x r=>
  let J:aG B w p=x:=by unfold aG;rw[e];rfl
  rw[J];show#[r,rfl,?_];let v:x∈(nb B w p).filter λq=>↥(fK (aB B w) w.length q+1=fK (aB B w) w.length p):=by rw[e];simp
  let#[h1,h2]:=mem_filter.mp v;let#[k,G]:=zaF.mp ((Cw h.1).step (zaI.mp h1));rw[Df G,Df h]at h2;obtain rfl:k=d:=∅
  show G
def Im{R:Nat->Nat->Prop}:∀{d p:Nat},aC R g p d->∀k,k<=d->∃q,aC R g q k
 |0,p,h,k,hk=>by
  obtain rfl:k=0:=∅
  show#[p,h]
 |d+1,p,h,k,hk=>by
  rcases lt_or_ge d k with z|z
  .obtain rfl:k=d+1:=by lia
   show#[p,h]
  .obtain⟨q,v,_⟩:=GN h;show Im v k z
def ID{R:Nat->Nat->Prop}(v:bM R g L [])(G:aC R g p d):d+1<=L.length:=by
 let:=DB (List.range (d+1)) (L.map (·.2)) List.nodup_range λk F=>by let#[q,h]:=Im G k (by let:=qM.mp F;lia);show qN.mpr #[(q,k),v.done h,rfl]
 rw[qG,qo]at this;show this
end FL
noncomputable section
namespace Law
open FL
def nQ:WB:=bE 2 (cC (zH (zG 3) (zH (zR aQ (zG 3) (wB aN (zH (zG 5) zI))) (zH (zG 4) zI))))
def vF:=uB nQ.eq_1
def nP:WB:=tF (jG (zG 0)) (dA [zJ 4,zJ 5]) (aJ eK (fJ (zG 1) ⇑(zG 3) ⇑(zR aQ (zG 3) (wB aN (zH (zG 5) zI)))) (zG 5)) nQ
def vE:=uB nP.eq_1
def jd:WF:=eU 2 2 [0,1]
 (bB (wB bN (zH (hX 2 3 (bC (wB aN (zH (zG 1) zI))) (zJ 3) eC nP) zI)))
def nH:WS:=eD (aJ cI (zG 6) (zG 2)) (zS (lS 2 (zG 6) (zR aQ (hE (zG 2) (zG 5)) (wC (.int 1))))
  (wExpr (aV 4 (zG 6)))) aO
def nW:=uS nH.eq_1
def kE:WS:=dM (cD (bX (zG 0) (zG 5))) (zJ 6) nH
def uW:=uS kE.eq_1
def nG:WS:=zS (zU (zJ 4) (bS zI))
  (zS (dM (cD (zG 3)) (zJ 5) kE)
  (zU (zJ 3) (zG 4)))
def nV:=uS nG.eq_1
def jy:WF:=eU 2 7 [0,1]
 (zS (zU (zJ 2) (iP (zG 1) (wC (.int 0))))
  (zS (zU (zJ 3) (bG (bS (zH (zG 1) zI))))
  (zS (dH (fP (zG 3)) nG)
  (bB (zG 2)))))
def jb:WF:=eU 2 4 [0,1]
 (zS (zU (zJ 2) (zR aQ (zR dF (wC (.int 7919)) (zG 1)) (wC (.int 11))))
  (zS (eD (aJ uA (zG 1) (wB aN (zH (zG 0) zI))) (zU (zJ 2) (bX (zG 0) (zG 1))) (eD (aJ oY (wB aN (zH (zG 0) zI)) (wC (.int 0))) (zU (zJ 2) (zR aQ (zG 2) (zR dF (zR fE (bX (zG 0) (zR fE (zG 1) (wB aN (zH (zG 0) zI)))) (wC (.int 2147483629))) (wC (.int 69623))))) aO))
  (zS (zU (zJ 3) (zR aQ (zR fE (zR aQ (zR dF (zR fE (zG 2) (wC (.int 2147483629))) (wC (.int 48271))) (zR dF (wC (.int 40692)) (zG 1))) (wC (.int 2147483629))) (wC (.int 1))))
  (bB (bS (zH (bX (bS (zH (wC (.int 0)) (zH (zG 2) zI))) (wB mU (zH (gH (aJ bj (zG 2) (zR oI (wC (.int 10)) (wC (.int 18))))) zI))) (zH (zG 3) zI)))))))
def cU:WF:=eU 2 4 [0,1]
 (zS (eD (aJ oY (bX (zG 0) (wC (.int 0))) (wC (.int 0))) (zS (zU (zJ 2) (zR fE (bX (zG 0) (wC (.int 0))) (zG 1)))
  (zS (fN 0 (wC (.int 0)) (zR iB (bX (zG 0) (wC (.int 0))) (zG 1)))
  (bB (zG 2)))) aO)
  (zS (zU (zJ 3) (zR fE (zR dF (bX (zG 0) (wC (.int 1))) (wC (.int 69623))) (wC (.int 2147483647))))
  (zS (fN 0 (wC (.int 1)) (zR aQ (zR fE (zR aQ (zR dF (zG 3) (wC (.int 48271))) (wC (.int 30103))) (wC (.int 2147483629))) (wC (.int 1))))
  (bB (zR fE (zR iB (zR aQ (zR dF (zG 3) (wC (.int 2147483647))) (bX (zG 0) (wC (.int 1)))) (wC (.int 8191))) (zG 1))))))
def lQ:WS:=zS (eD (eX (aJ eK (fJ (zG 1) ⇑(zG 2) ⇑(zR aQ (zG 2) (wB aN (zH (zG 5) zI)))) (fJ (zG 5) none ⇑(zR dQ (wB aN (zH (zG 1) zI)) (zG 2)))) (aJ jn (zR aQ (zG 2) (wB aN (zH (zG 5) zI))) (zG 3))) (wExpr (aV 4 (cC (zH (zG 5) (zH (zR aQ (zG 2) (wB aN (zH (zG 5) zI))) zI))))) aO)
  (eD (eX (aJ bj (zG 2) (wB aN (zH (zG 5) zI))) (aJ eK (fJ (zG 1) ⇑(zR dQ (zG 2) (wB aN (zH (zG 5) zI))) ⇑(zG 2)) (zG 5))) (wExpr (aV 4 (cC (zH (zG 5) (zH (zR dQ (zG 2) (wB aN (zH (zG 5) zI))) zI))))) aO)
def rQ:=uS lQ.eq_1
def uJ:WF:=eU 4 6 [0,1,2,3]
 (zS (zU (zJ 4) (bS zI))
  (zS (dM (cD (zG 0)) (zJ 5) lQ)
  (bB (zG 4))))
def lL:WB:=bE 5 (bS zI)
def rM:=uB lL.eq_1
def lN:WS:=eD (aJ fO (fJ (zG 1) ⇑(zG 3) ⇑(zG 4)) (zG 0)) (zS (wExpr (cF 2 (zG 3) (zG 4)))
  (wExpr (cF 2 (zG 4) (zG 3)))) aO
def rO:=uS lN.eq_1
def lM:WS:=dM (eZ (zR aQ (zG 3) (wC (.int 1))) (zR aQ (wB aN (zH (zG 1) zI)) (wC (.int 1)))) (zJ 4) lN
def rN:=uS lM.eq_1
def lK:WB:=bE 5 (bG (wB bN (zH (zG 6) zI)))
def rL:=uB lK.eq_1
def mO:WF:=eU 2 5 [0,1]
 (zS (zU (zJ 2) (hX 5 1 (bC (zR aQ (wB aN (zH (zG 1) zI)) (wC (.int 1)))) (zJ 6) eC lL))
  (zS (dM (bC (wB aN (zH (zG 1) zI))) (zJ 3) lM)
  (bB (hX 5 1 (cD (zG 2)) (zJ 6) eC lK))))
def lH:WB:=bE 5 (bX (zG 1) (zG 6))
def rH:=uB lH.eq_1
def lJ:WS:=fN 1 (zG 3) (wB fX (zH (zR aQ (bS (zH (bX (zG 1) (zG 3)) zI)) (hX 5 1 (cD (zG 4)) (zJ 6) eC lH)) zI))
def rK:=uS lJ.eq_1
def lI:WS:=zS (zU (zJ 2) (bG (wB eM (zH (zG 1) zI))))
  (dM (jG (zG 0)) (dA [zJ 3,zJ 4]) lJ)
def rJ:=uS lI.eq_1
def uI:WF:=eU 1 5 [0]
 (zS (zU (zJ 1) (kG (bC (wB aN (zH (zG 0) zI)))))
  (zS (zU (zJ 2) (bG (bS zI)))
  (zS (dH (aJ eT (zG 2) (zG 1)) lI)
  (bB (zG 1)))))
def lG:WS:=eD (aJ cI (zG 5) (zG 2)) (zS (lS 2 (zG 5) (zR aQ (hE (zG 2) (zG 4)) (wC (.int 1))))
  (wExpr (aV 3 (zG 5)))) aO
def lU:=uS lG.eq_1
def iM:WS:=zS (zU (zJ 4) (bG (gG 3 (wC (.int 0)))))
  (dM (cD (bX (zG 0) (zG 4))) (zJ 5) lG)
def rG:=uS iM.eq_1
def lF:WB:=bE 7 (zG 8)
def lT:=uB lF.eq_1
def iL:WS:=wExpr (aV 6 (bG (wB fX (zH (hX 7 1 (cD (bX (zG 0) (bX (zG 6) (jW eJ (wC (.int 1)))))) (zJ 8) (aJ eK (hE (zG 2) (zG 8)) (zR dQ (hE (zG 2) (bX (zG 6) (jW eJ (wC (.int 1))))) (wC (.int 1)))) lF) zI))))
def rF:=uS iL.eq_1
def pU:WF:=eU 2 7 [0,1]
 (zS (zU (zJ 2) (iP (zR dQ (wB aN (zH (zG 0) zI)) (wC (.int 1))) (wC (.int 0))))
  (zS (zU (zJ 3) (bS (zH (zR dQ (wB aN (zH (zG 0) zI)) (wC (.int 1))) zI)))
  (zS (dH (aJ eT (zG 3) (bS zI)) iM)
  (zS (eD (aJ cI (zG 1) (zG 2)) (bB (cC zI)) aO)
  (zS (zU (zJ 6) (bS (zH (zG 1) zI)))
  (zS (dH (aJ eT (bX (zG 6) (jW eJ (wC (.int 1)))) (zR dQ (wB aN (zH (zG 0) zI)) (wC (.int 1)))) iL)
  (bB (wB cB (zH (zG 6) zI)))))))))
def pQ:WF:=eU 1 1 [0]
 (bB (gJ (wC (.str [])) (wB eM (zH (zG 0) zI))))
def nO:WB:=oZ 2 (cC (zH (zG 3) (zH (zG 4) zI))) (zG 5)
def vD:=uB nO.eq_1
def jc:WF:=eU 2 2 [0,1]
 (bB (kb (.dct true [] []) 2 3 (cD (zT jd [true,true] (zH (zG 0) (zH (zG 1) zI)))) (dA [zJ 3,zJ 4,zJ 5]) eC nO))
def nK:WB:=bE 6 (bS zI)
def uZ:=uB nK.eq_1
def nL:WS:=zS (wExpr (cF 2 (zG 3) (zG 4)))
  (wExpr (cF 2 (zG 4) (zG 3)))
def vB:=uS nL.eq_1
def nJ:WB:=bE 6 (bG (wB bN (zH (zG 7) zI)))
def uY:=uB nJ.eq_1
def ka:WF:=eU 2 6 [0,1]
 (zS (zU (zJ 2) (hX 6 1 (bC (zR aQ (wB aN (zH (zG 1) zI)) (wC (.int 1)))) (zJ 7) eC nK))
  (zS (dM (cD (zT jd [true,true] (zH (zG 0) (zH (zG 1) zI)))) (dA [zJ 3,zJ 4,zJ 5]) nL)
  (bB (hX 6 1 (cD (zG 2)) (zJ 7) eC nJ))))
def iO:WB:=bE 3 (bG (gG 2 (zT cU [true,true] (zH (zG 0) (zH (wB aN (zH (zG 2) zI)) zI)))))
def rT:=uB iO.eq_1
def uN:WF:=eU 2 3 [0,1]
 (zS (zU (zJ 2) (wB eM (zH (wC (.str [97,98,99,100,101,102,103,104,105,106,107,108,109,110,111,112,113,114,115,116,117,118,119,120,121,122])) zI)))
  (bB (uP fU (wC (.str [])) (zH (wB bN (zH (hX 3 1 (bC (zG 1)) (zJ 4) eC iO) zI)) zI))))
def iN:WB:=bE 4 (bX (zG 1) (zT cU [true,true] (zH (zG 0) (zH (wB aN (zH (zG 1) zI)) zI))))
def rS:=uB iN.eq_1
def uM:WF:=eU 3 4 [0,1,2]
 (zS (zU (zJ 3) (zR dF (zT cU [true,true] (zH (zG 0) (zH (zR aQ (zG 2) (wC (.int 1))) zI))) (wB mU (zH (gH (aJ eT (zG 1) (wC (.str [])))) zI))))
  (bB (uP fU (wC (.str [])) (zH (hX 4 1 (bC (zG 3)) (zJ 5) eC iN) zI))))
def uL:WF:=eU 3 7 [0,1,2]
 (zS (zU (zJ 3) (bX (zG 2) (zT cU [true,true] (zH (zG 0) (zH (wB aN (zH (zG 2) zI)) zI)))))
  (zS (zU (zJ 4) (zT cU [true,true] (zH (zG 0) (zH (wC (.int 5)) zI))))
  (zS (zU (zJ 5) (bX (zG 1) (zT cU [true,true] (zH (zG 0) (zH (wB aN (zH (zG 1) zI)) zI)))))
  (zS (zU (zJ 6) (zT cU [true,true] (zH (zG 0) (zH (wB aN (zH (zG 3) zI)) zI))))
  (bB (bX (bS (zH (fJ (zG 3) none ⇑(zR aQ (zG 6) (wC (.int 1)))) (zH (fJ (zG 3) ⇑(zG 6) none) (zH (zR aQ (zG 5) (zG 3)) (zH (zR aQ (zG 3) (zG 5)) (zH (zR aQ (zG 3) (zG 3)) zI)))))) (zG 4)))))))
def lO:WB:=bE 11 (zG 12)
def lV:=uB lO.eq_1
def lP:WS:=zS (zU (zJ 7) (bG (zT uJ [true,true,true,true] (zH (zG 1) (zH (zG 4) (zH (zG 5) (zH (zG 3) zI)))))))
  (zS (eD (aJ oY (zG 6) (wC (.int 4))) (je 7 (zU (zJ 7) (hX 11 1 (cD (zG 7)) (zJ 12) (aJ oY (bX (zG 12) (wC (.int 1))) (zG 5)) lO))) aO)
  (eD (aJ eT (zG 7) (bS zI)) (zS (zU (dA [zJ 8,zJ 9]) (bX (zG 7) (zT cU [true,true] (zH (zG 0) (zH (wB aN (zH (zG 7) zI)) zI)))))
  (zS (eD (aJ oY (zG 9) (zG 5)) (zU (zJ 4) (zR aQ (zR aQ (fJ (zG 4) none ⇑(zG 5)) (zG 8)) (fJ (zG 4) ⇑(zG 9) none))) aO)
  (zU (zJ 5) (zG 9)))) aO))
def rP:=uS lP.eq_1
def pV:WF:=eU 4 11 [0,1,2,3]
 (zS (zU (dA [zJ 4,zJ 5]) (cC (zH (wC (.str [])) (zH (wC (.int 0)) zI))))
  (zS (dM (bC (zR aQ (wC (.int 1)) (zT cU [true,true] (zH (zG 0) (zH (wC (.int 9)) zI))))) (zJ 6) lP)
  (zS (eD (eX (aJ eT (zG 4) (wC (.str []))) (aJ eK (zT cU [true,true] (zH (zG 0) (zH (wC (.int 5)) zI))) (wC (.int 0)))) (zS (zU (zJ 10) (zT cU [true,true] (zH (zG 0) (zH (wB aN (zH (zG 4) zI)) zI))))
  (zU (zJ 4) (zR aQ (zR aQ (fJ (zG 4) none ⇑(zG 10)) (bX (zG 2) (zT cU [true,true] (zH (zG 0) (zH (wB aN (zH (zG 2) zI)) zI))))) (fJ (zG 4) ⇑(zR aQ (zG 10) (wC (.int 1))) none)))) aO)
  (bB (zG 4)))))
def iK:WS:=eD (aJ eT (bX (zG 1) (bX (zG 2) (jW eJ (wC (.int 1))))) (bS zI)) (zU (zJ 2) (zR aQ (zG 2) (cC (zH (bX (bX (zG 1) (bX (zG 2) (jW eJ (wC (.int 1))))) (zT cU [true,true] (zH (zG 0) (zH (wB aN (zH (bX (zG 1) (bX (zG 2) (jW eJ (wC (.int 1))))) zI)) zI)))) zI)))) aO
def jf:=uS iK.eq_1
def uH:WF:=eU 2 5 [0,1]
 (zS (zU (zJ 2) (cC (zH (wC (.int 0)) zI)))
  (zS (dM (bC (zT cU [true,true] (zH (zG 0) (zH (wC (.int 9)) zI)))) (zJ 3) iK)
  (zS (zU (zJ 4) (bG (zT pU [true,true] (zH (zG 1) (zH (bX (zG 2) (jW eJ (wC (.int 1)))) zI)))))
  (zS (eD (aJ eK (zG 4) (cC zI)) (bB (cC zI)) aO)
  (bB (zR aQ (zG 2) (fJ (zG 4) ⇑(wC (.int 1)) none)))))))
def pS:WF:=eU 2 2 [0,1]
 (bB (gH (aJ eK (bX (zT uI [true] (zH (bG (zT mO [true,true] (zH (zG 0) (zH (zG 1) zI)))) zI)) (jW eJ (wC (.int 1)))) (wC (.int 0)))))
def lC:WB:=bE 8 (zR aQ (zG 5) (zG 9))
def rC:=uB lC.eq_1
def lD:WS:=zS (zU (dA [zJ 5,zJ 6]) (cC (zH (wB kT (zH (bX (zG 1) (zR dQ (zG 4) (wC (.int 1)))) (zH (bX (zG 1) (zG 4)) zI))) (zH (wB mT (zH (bX (zG 1) (zR dQ (zG 4) (wC (.int 1)))) (zH (bX (zG 1) (zG 4)) zI))) zI))))
  (zS (je 7 (zU (zJ 7) (hX 8 1 (cD (zT pU [true,true] (zH (bG (zT mO [true,true] (zH (zG 2) (zH (fJ (zG 0) ⇑(zG 5) ⇑(zG 6)) zI)))) (zH (wC (.int 0)) zI)))) (zJ 9) eC lC)))
  (zS (eD (aJ uA (bX (zG 1) (zG 4)) (bX (zG 1) (zR dQ (zG 4) (wC (.int 1))))) (zU (zJ 7) (bG (gI (zG 7)))) aO)
  (zU (zJ 3) (zR aQ (zG 3) (fJ (zG 7) ⇑(wC (.int 1)) none)))))
def rD:=uS lD.eq_1
def pR:WF:=eU 3 8 [0,1,2]
 (zS (zU (zJ 3) (bG (bS (zH (bX (zG 1) (wC (.int 0))) zI))))
  (zS (dM (eZ (wC (.int 1)) (wB aN (zH (zG 1) zI))) (zJ 4) lD)
  (bB (wB cB (zH (zG 3) zI)))))
def lB:WB:=bE 1 (bG (zT pQ [true] (zH (zG 2) zI)))
def rB:=uB lB.eq_1
def pP:WF:=eU 1 1 [0]
 (bB (wB cB (zH (hX 1 1 (cD (zG 0)) (zJ 2) eC lB) zI)))
def nI:WB:=bE 6 (zG 7)
def nX:=uB nI.eq_1
def kF:WS:=zS (zU (zJ 4) (bG (wB fX (zH (hX 6 1 (cD (bX (zG 2) (zG 4))) (zJ 7) (aJ eK (hE (zG 3) (zG 7)) (zR dQ (hE (zG 3) (zG 4)) (wC (.int 1)))) nI) zI))))
  (wExpr (aV 5 (zG 4)))
def uX:=uS kF.eq_1
def jz:WF:=eU 2 6 [0,1]
 (zS (zU (zJ 2) (bG (zT ka [true,true] (zH (zG 0) (zH (zG 1) zI)))))
  (zS (zU (zJ 3) (bG (zT jy [true,true] (zH (zG 2) (zH (wB aN (zH (zG 1) zI)) zI)))))
  (zS (eD (aJ cI (wC (.int 0)) (zG 3)) (bB (wC .non)) aO)
  (zS (zU (zJ 4) (wC (.int 0)))
  (zS (zU (zJ 5) (bS (zH (zG 4) zI)))
  (zS (dH (aJ eT (zG 4) (wB aN (zH (zG 1) zI))) kF)
  (bB (wB cB (zH (zG 5) zI)))))))))
def nF:WB:=bE 4 (gH (aJ fO (cC (zH (wB kT (zH (zG 5) (zH (zG 6) zI))) (zH (wB mT (zH (zG 5) (zH (zG 6) zI))) zI))) (zG 3)))
def uV:=uB nF.eq_1
def jx:WF:=eU 3 4 [0,1,2]
 (zS (eD (mN (aJ eK (wB aN (zH (zG 2) zI)) (wC (.int 0))) (mN (aJ eT (bX (zG 2) (wC (.int 0))) (wC (.int 0))) (aJ eT (bX (zG 2) (jW eJ (wC (.int 1)))) (wB aN (zH (zG 1) zI))))) (bB (wC (.bl false))) aO)
  (zS (zU (zJ 3) (bG (zT jc [true,true] (zH (zG 0) (zH (zG 1) zI)))))
  (bB (wB tG (zH (hX 4 2 (pW (zG 2) (fJ (zG 2) ⇑(wC (.int 1)) none)) (dA [zJ 5,zJ 6]) eC nF) zI)))))
def nC:WS:=eD (aJ uA (zG 5) (zG 6)) (wExpr (aV 4 (cC (zH (wC (.str [111,110])) (zH (hE (zG 3) (cC (zH (zG 5) (zH (zG 6) zI)))) zI))))) (wExpr (aV 4 (cC (zH (wC (.str [98,97,99,107])) (zH (hE (zG 3) (cC (zH (zG 6) (zH (zG 5) zI)))) zI)))))
def nU:=uS nC.eq_1
def jv:WF:=eU 3 7 [0,1,2]
 (zS (zU (zJ 3) (bG (zT jc [true,true] (zH (zG 0) (zH (zG 1) zI)))))
  (zS (zU (zJ 4) (bS zI))
  (zS (dM (pW (zG 2) (fJ (zG 2) ⇑(wC (.int 1)) none)) (dA [zJ 5,zJ 6]) nC)
  (bB (wB cB (zH (zG 4) zI))))))
def lR:WS:=zS (zU (zJ 6) (zR aQ (bX (zG 1) (zT cU [true,true] (zH (zG 0) (zH (wB aN (zH (zG 1) zI)) zI)))) (zT uM [true,true,true] (zH (zG 0) (zH (zG 1) (zH (zR dQ (zG 3) (wC (.int 1))) zI))))))
  (zS (eD (eX (aJ eT (zG 4) (bS zI)) (aJ eK (zT cU [true,true] (zH (zG 0) (zH (wC (.int 2)) zI))) (wC (.int 0)))) (zU (zJ 6) (fJ (zT uL [true,true,true] (zH (zG 0) (zH (zG 1) (zH (zG 4) zI)))) none ⇑(zG 3))) aO)
  (eD (aJ cI (zG 6) (zG 4)) (wExpr (aV 4 (zG 6))) aO))
def rR:=uS lR.eq_1
def uK:WF:=eU 4 7 [0,1,2,3]
 (zS (zU (zJ 4) (bS zI))
  (zS (dM (bC (zR dF (zT cU [true,true] (zH (zG 0) (zH (zR aQ (zG 2) (wC (.int 1))) zI))) (wB mU (zH (gH (aJ eT (zG 1) (wC (.str [])))) zI)))) (zJ 5) lR)
  (bB (wB cB (zH (zG 4) zI)))))
def lE:WS:=zS (zU (zJ 7) (bG (zT pV [true,true,true,true] (zH (zG 0) (zH (zG 1) (zH (zG 2) (zH (zG 4) zI)))))))
  (eD (eX (aJ eT (zG 7) (wC (.str []))) (eX (aJ cI (zG 7) (zG 5)) (fP (zT pS [true,true] (zH (zG 1) (zH (zG 7) zI)))))) (wExpr (aV 5 (zG 7))) aO)
def rE:=uS lE.eq_1
def uG:WF:=eU 5 8 [0,1,2,3,4]
 (zS (zU (zJ 5) (bS zI))
  (zS (dM (bC (zT cU [true,true] (zH (zG 0) (zH (zR aQ (zG 3) (wC (.int 1))) zI)))) (zJ 6) lE)
  (bB (wB cB (zH (zG 5) zI)))))
def nE:WS:=zS (zU (zJ 5) (bG (zT jz [true,true] (zH (zG 0) (zH (zG 4) zI)))))
  (zS (eD (aJ pK (zG 5) (wC .non)) (bB (cC (zH (wC (.str [102,97,108,108,115])) (zH (zG 3) zI)))) aO)
  (wExpr (aV 2 (zG 5))))
def uU:=uS nE.eq_1
def jw:WF:=eU 2 6 [0,1]
 (zS (zU (zJ 2) (bS zI))
  (zS (dM (jG (zG 1)) (dA [zJ 3,zJ 4]) nE)
  (bB (cC (zH (wC (.str [102,105,120,101,115])) (zH (wB cB (zH (zG 2) zI)) zI))))))
def nA:WB:=bE 11 (zR aQ (wB kT (zH (zG 6) (zH (zG 7) zI))) (zG 12))
def uR:=uB nA.eq_1
def nB:WS:=zS (zU (zJ 10) (hX 11 1 (cD (bX (zG 4) (zG 9))) (zJ 12) eC nA))
  (zS (eD (aJ eK (zG 8) (wC (.str [98,97,99,107]))) (wExpr (gF 10)) aO)
  (wExpr (gD 5 (fJ (zG 10) ⇑(wC (.int 1)) none))))
def uT:=uS nB.eq_1
def bu:WF:=eU 4 11 [0,1,2,3]
 (zS (zU (zJ 4) (bX (zT jw [true,true] (zH (zG 3) (zH (zG 2) zI))) (wC (.int 1))))
  (zS (zU (zJ 5) (bS (zH (wC (.int 0)) zI)))
  (zS (dM (nR (zG 1) (fJ (zG 1) ⇑(wC (.int 1)) none) (zT jv [true,true,true] (zH (zG 2) (zH (zG 0) (zH (zG 1) zI))))) (dA [zJ 6,zJ 7,dA [zJ 8,zJ 9]]) nB)
  (bB (wB cB (zH (zG 5) zI))))))
def nN:WF:=eU 4 7 [0,1,2,3]
 (zS (zU (zJ 4) (bG (zT pR [true,true,true] (zH (zG 0) (zH (zG 1) (zH (zG 3) zI))))))
  (zS (zU (zJ 5) (bG (zT bu [true,true,true,true] (zH (zG 0) (zH (zG 1) (zH (zG 2) (zH (zG 3) zI)))))))
  (zS (eD (mN (hW (fP (uQ "tuple" (zG 5)))) (eY false (zG 5) (zG 4))) (bB (wC (.bl false))) aO)
  (zS (zU (zJ 6) (wB cB (zH (wB jM (zH (wB jN (zH (uP fU (wC (.str [])) (zH (zG 3) zI)) zI)) zI)) zI)))
  (zS (eD (eY false (zT bu [true,true,true,true] (zH (zG 0) (zH (zG 5) (zH (zG 3) (zH (zG 6) zI))))) (zT pR [true,true,true] (zH (zG 0) (zH (zG 5) (zH (zG 6) zI))))) (bB (wC (.bl false))) aO)
  (bB (uO (gH (aJ oY (wB aN (zH (zG 4) zI)) (wC (.int 24)))) (gH (aJ pK (zT jx [true,true,true] (zH (zG 3) (zH (zG 0) (zH (zG 5) zI)))) (wC (.bl true)))))))))))
def kZ:WB:=bE 14 (zR dQ (wB aN (zH (zG 9) zI)) (zG 15))
def pY:=uB kZ.eq_1
def gC:WS:=zS (eD (mN (hW (fP (zT nN [true,true,true,true] (zH (zG 9) (zH (zG 10) (zH (zG 11) (zH (zG 12) zI))))))) (hW (fP (zT nN [true,true,true,true] (zH (zG 9) (zH (zG 10) (zH (zG 11) (zH (zG 11) zI)))))))) (bB (wC (.bl false))) aO)
  (zS (zU (zJ 13) (wB cB (zH (hX 14 1 (nS (zG 10)) (zJ 15) eC kZ) zI)))
  (eD (hW (fP (zT nN [true,true,true,true] (zH (bG (zT pQ [true] (zH (zG 9) zI))) (zH (zG 13) (zH (bG (zT pP [true] (zH (zG 11) zI))) (zH (bG (zT pP [true] (zH (zG 12) zI))) zI))))))) (bB (wC (.bl false))) aO))
def rA:=uS gC.eq_1
def lA:WS:=zS (zU (zJ 1) (zT jb [true,true] (zH (zG 0) (zH (zG 4) zI))))
  (zS (zU (zJ 5) (bG (zT uK [true,true,true,true] (zH (zG 1) (zH (zG 2) (zH (wC (.int 6)) (zH (wC (.int 6)) zI)))))))
  (zS (zU (zJ 6) (bG (zT uG [true,true,true,true,true] (zH (zG 1) (zH (zG 5) (zH (zG 2) (zH (wC (.int 6)) (zH (wC (.int 6)) zI))))))))
  (zS (zU (zJ 7) (bG (zT pV [true,true,true,true] (zH (zG 1) (zH (zG 6) (zH (zG 2) (zH (wC (.int 12)) zI)))))))
  (zS (zU (zJ 8) (bG (zT uH [true,true] (zH (zG 1) (zH (bG (zT mO [true,true] (zH (zG 6) (zH (zG 7) zI)))) zI)))))
  (zS (eD (iQ uA uA (wC (.int 0)) (wB aN (zH (zG 8) zI)) (wC (.int 25))) (wExpr (aV 3 (cC (zH (zG 7) (zH (zG 8) (zH (zG 6) (zH (zG 5) zI))))))) aO)
  (dM (cD (zR aQ (fJ (zG 3) ⇑(jW eJ (wC (.int 2))) none) (fJ (zG 3) none ⇑(wC (.int 1))))) (dA [zJ 9,zJ 10,zJ 11,zJ 12]) gC))))))
def pZ:=uS lA.eq_1
def nM:WF:=eU 1 14 [0]
 (zS (zU (zJ 1) (zT jb [true,true] (zH (zG 0) (zH (wC (.int 0)) zI))))
  (zS (zU (zJ 2) (zT uN [true,true] (zH (zG 1) (zH (zR aQ (wC (.int 1)) (zT cU [true,true] (zH (zG 1) (zH (wC (.int 3)) zI)))) zI))))
  (zS (zU (zJ 3) (bS zI))
  (zS (dM (eZ (wC (.int 1)) (wB mT (zH (wC (.int 3)) (zH (wB kT (zH (wC (.int 7)) (zH (wB aN (zH (zG 0) zI)) zI))) zI)))) (zJ 4) lA)
  (bB (gH (aJ eK (zT bu [true,true,true,true] (zH (wC (.str [])) (zH (cC (zH (wC (.int 0)) zI)) (zH (cC zI) (zH (cC zI) zI))))) (cC (zH (wC (.int 0)) zI)))))))))
end Law
end
end
namespace Law
open FL
variable{P:S->List S->Prop}{PX:D->List S->Prop}
set_option hygiene false in
local macro_rules
 |`(tactic|simp! [$xs,*] $[$l:location]?)=>do
  let ls<-("e_C e_V zs8 zoE zoM e_Un zrG zr4 e_Ck zsV zqp zoo e_Ch zrL zt5 zpi zo9 zsG zo3 zmG zmB ztE zpd zoZ e_Or zs3 zsu zrx zpU zsz zps zt7 zqC zoF zoD zrC zp6 znb zng ztt e_gA zt3 zru e_gv e_gl zt6 zta zoI zpf zrp zpH zp8 e_l0 e_l1 e_l2 e_l3 e_l4 e_l5 e_vv e_vl e_cv e_cl zpW e_sh zan zs9 e_Ix ztg zsL zqs zn4 zrs zrE zry zq6 ztx ztN zto zr5 zrO ztW zrI e_p0 e_pv e_pl ztI e_pA e_b0 e_bv e_bl zqq znD zmK zoL zqQ e_vA zsC e_B e_B1 e_B2 e_MS zsF ztz e_Ap zrZ zsO zsR ztC zrB zp2 zpj zt2 zn5 znh e_Xt zse zr9 zqJ e_Di zqU zqX zrl zpy zri e_Pt zt4 zsM e_Sl ztT ztu zrK ztA e_nx e_rt e_ex zpC zro e_If zsP ztd zq9 zpa zmY zsw zoO zph e_gN e_gT zq2 zsq zrF zrq ztJ zqb zn9 zpB zo0 znX znJ e_Dp zss zqF zsW ztp zsZ e_It ztY zsi zq3 zqP zs0 e_En zte zqW zrc e_Zi zrb zq7 zrP ztw ztX e_R1 zs7 zsA e_R2 zsQ zsj zsY zty zog e_LC zsT zsh zox zrD zn8 zso e_Em zrh zst zs6 e_bF ztV zqL zsI e_Rt zrg zrM e_Fn e_f0 e_fs e_fl e_fA zr0 zpt zmi zpJ zsg zoy zq5 zoJ zrT zqK e_lt e_gt e_le e_ge zqn zqI zpD ztU zt0 zn7 zpK zop zn1 zov zpZ zmo zsd zqY zsD zrR ztK zr2 zsK zsv zrk zth zqN ztb zrU zs1 zrz zs2 zr7 ztj zrr ztG ztR zti zrt zrj ztl zsk zrW zsb zsE ztM ztf ztL zqO zsJ zqH zqM ztF ztB zrm zsH ztP zrv zok zoH zp1 zoA zpu zoh zqh zoT zoU zqr zoY zoc zod zoK zqm zpc zon zpI zpb zqw zp4 zsy zqV zpY e_AA zsf zsm zrf ztm zsn zsp zqe zoR ztQ zpE zpx zqR zpO e_XA ztk zrV zq0 zsc zfB e_LI zsX e_Re zs4 ztr zre zrQ zqo e_CM zrA e_Pu zrS zqS zq8 zsa zqx e_RU zr3 zr8 zrX zmk zmq zoi zoB e_z3 zsx zts zsl ztS zra ztn zsB e_Lr ztZ zsS e_Jr zsr ztv zt1 zrw e_Rv zqZ map_some S.toD_sh S.toD_lst qA map_nil qR nil_append List.replicate_succ List.replicate_zero Nat.reduceSub Nat.reduceAdd qB List.take_succ_cons List.take_zero true_and S.toDs_map S.toD_dct Int.reduceEq Int.reduceLT Int.reduceLE decide_true decide_false Bool.not_true Bool.not_false".splitOn " ").toArray.mapM λn=>`(Lean.Parser.Tactic.simpLemma|$(Lean.mkIdent n.toName):ident)
  let ls:=ls++xs.getElems
  `(tactic|simp -implicitDefEqProofs (disch:=first|omega|decide|rfl|(simp only[qo,qq,qt,qw,qG,bP];omega)|(simp only[qo,qq,qt,qw,qG,bP];done)) only[$ls,*] $[$l:location]?)
local macro_rules|`(tactic|lia)=>`(tactic|lia -verbose)
noncomputable section pu
def aT(a s:Int):S:=.lst [.sh (.int a),.sh (.int s)]
def Bk{a s m:Int}(G:0<=a)(L:1<=s)(v:s<=2147483629)(F:0<m)(M:m<18446744073709551616)
  (h:∀r J s',0<=r->r<m->0<=J->1<=s'->s'<=2147483629->P (.sh (.int r)) [aT J s',.sh (.int m)]):cU [aT a s,.sh (.int m)] P PX:=by
 show AM rfl rfl ?_;simp! [aT];cases Y:↥(0<a)
 .simp! [e_C];show h _ _ _ (Int.emod_nonneg _ ∅) (Int.emod_lt_of_pos _ F) G ∅ ∅
 .simp! [e_C];show h _ _ _ (Int.emod_nonneg _ ∅) (Int.emod_lt_of_pos _ F) (Int.ediv_nonneg G ∅) L v
def RI{T:Env->Prop}{E:Ends}{ns:List Int}{k:Int}(G:0<=k)(h:∀c,T [⇑(.sh (.lst (ns.map .int))),⇑(.sh (.int k)),⇑(.sh (.int c)),none]):jm (zU (zJ 2) (bX (zG 0) (zG 1))) (eD (aJ oY (wB aN (zH (zG 0) zI)) (wC (.int 0))) (zU (zJ 2) (zR aQ (zG 2) (zR dF (zR fE (bX (zG 0) (zR fE (zG 1) (wB aN (zH (zG 0) zI)))) (wC (.int 2147483629))) (wC (.int 69623))))) aO) (bb E T) ↥(k<ns.length) [⇑(.sh (.lst (ns.map .int))),⇑(.sh (.int k)),⇑(.sh (.int (7919*k+11))),none]:=by
 by_cases h1:k<ns.length
 .obtain⟨v,_,_,e⟩:=EW (f:=D.int) G h1;simp! [h1,decide_true,e];show h _
 .by_cases h2:0<ns.length
  .let F:(0:Int)<ns.length:=by lia
   let#[v,_,_,e]:=EW (f:=D.int) (l:=ns) (z:=k %ns.length) (Int.emod_nonneg _ ∅) (Int.emod_lt_of_pos _ F);simp! [length_map,h1,F,decide_true,decide_false,e];show h _
  .let F:¬(0:Int)<ns.length:=by lia
   simp! [length_map,h1,F,decide_false];show h _
def LP{ns:List Int}{k:Int}(F:0<=k)
  (h:∀a s,0<=a->1<=s->s<=2147483629->P (aT a s) [.sh (.lst (ns.map .int)),.sh (.int k)]):jb [.sh (.lst (ns.map .int)),.sh (.int k)] P PX:=by
 show AM rfl rfl ?_;simp! [length_map];show RI F λv=>?_;simp! [e_C];cases G:↥((10:Int)^(18:Int).toNat<=v)
 .simp! [if_true,Bool.false_eq_true,if_false];show h _ _ ⋯ ∅ ∅
 .simp! [if_true];let:(0:Int)<=v:=by
   let:=qX G;let e:(10:Int)^(18:Int).toNat=1000000000000000000:=⋯
   lia
  show h _ _ this ∅ ∅
def letters:List Nat:=[97,98,99,100,101,102,103,104,105,106,107,108,109,110,111,112,113,114,115,116,117,118,119,120,121,122]
def RX{Q:Env->Prop}{E:WX}{m:Int}:∀(xs:List D)(a s:Int)(L A:List Nat)(o:Option S),xs.length<=L.length->0<=a->1<=s->s<=2147483629->(A++L).Perm letters->
  (∀a' s'(L' Z:List Nat) o',0<=a'->1<=s'->s'<=2147483629->Z.length=A.length+xs.length->(Z++L').Perm letters->Q [⇑(aT a' s'),⇑(.sh (.int m)),⇑(.lst ((L'.map sg).map .sh)),⇑(.lst ((Z.map sg).map .sh)),o'])->
  aS (zJ 4) eC iO xs [⇑(aT a s),⇑(.sh (.int m)),⇑(.lst ((L.map sg).map .sh)),⇑(.lst ((A.map sg).map .sh)),o] Q E:=by
 intro xs;induction xs with
 |nil=>intro a s L A o h1 ha hs F v h;show h a s L A o ha hs F (by simp) v
 |cons x xs ih=>
  intro a s L A o h1 ha hs F v h;let Y:=v.length_eq;let h6:letters.length=26:=rfl;simp only[qt,qq]at h1 h Y;rw[gk];simp! [rT,e_sh,zan,aT,length_map];show Bk ha hs F ?_ ?_ λr a' s' hr h3 h5 h2 M=>?_
  .lia
  .lia
  simp! [e_sh,zan,aT,length_map];let#[c,hc,hg,_]:=EM (l:=L) hr h3;show Ke hr (by simp only[qo,bP];lia) (Vp (d:=sg c) (by rw[qI,hg];rfl)) ?_;simp! [e_sh,zan,aT,length_map];show#[by simp only[bP];lia,?_];let e1:((L.map sg).map S.sh).eraseIdx r.toNat=((L.eraseIdx r.toNat).map sg).map S.sh:=by rw[IQ,IQ]
  let e2:((A.map sg).map S.sh)++[S.sh (sg c)]=(((A++[c]).map sg).map S.sh):=by simp
  rw[e1,e2];let J:r.toNat<L.length:=∅
  let hl:(L.eraseIdx r.toNat).length=L.length-1:=List.length_eraseIdx_of_lt J;let h4:L[r.toNat]=c:=by rw[qh J]at hg;show qf hg
  let G:(A++[c]++L.eraseIdx r.toNat).Perm (A++L):=by rw[qp];show List.Perm.append_left A ?_;let:=Nw L r.toNat J;rw[h4]at this;show this
  show ih a' s' _ _ _ ∅ h5 h2 M (G.trans v) λa2 s2 L' Z o' x1 x2 x3 x4 x5=>h a2 s2 L' Z o' x1 x2 x3 (by rw[x4];simp only[qq,qE];lia) x5
def Wr{a s m:Int}(ha:0<=a)(hs:1<=s)(M:s<=2147483629)(hm:0<=m)(h5:m<=26)
  (h:∀(l:List Nat) J s',l.length=m.toNat->l.Pairwise (·<·)->(∀c∈l,97<=c/\c<=122)->0<=J->1<=s'->s'<=2147483629->P (.sh (.str l)) [aT J s',.sh (.int m)]):uN [aT a s,.sh (.int m)] P PX:=by
 refine AM rfl rfl ?_;simp! [aT,e_sh,zan];show#[by simp only[bP];lia,?_];let hf:(fromTo 0 m.toNat).length=m.toNat:=Hj;let h4:letters.length=26:=rfl;refine RX (fromTo 0 m.toNat) a s letters [] none (by rw[hf,h4];lia) ha hs M (List.Perm.refl _)
  λJ s' L' A' o' h3 Y v hA F=>?_
 rw[hf,qw,zero_add]at hA;let h1:A'.Nodup:=(qx.mp (F.nodup_iff.mpr ⋯)).1;let h2:∀c∈A',97<=c/\c<=122:=λc hc=>by
  let:c∈letters:=F.mem_iff.mp (qj _ hc);let G:∀c∈letters,97<=c/\c<=122:=⋯
  show G c this
 let#[A2,Z,L,e]:=PM (A:=A') ∅;let hl:A2.length=m.toNat:=Z.length_eq.trans hA;simp! [aT,e_sh,zan,e,HN (show A2.length<=big by simp only[bP];lia)];show h A2 J s' hl (Vf L (Z.nodup_iff.mpr h1)) (λc hc=>h2 c (Z.mem_iff.mp hc)) h3 Y v
def Ux{Q:Env->Prop}{E:WX}{m many:Int}{v:List Nat}(hc:0<v.length)(h5:v.length<=26):∀(xs:List D)(a s:Int)(A:List Nat)(o:Option S),0<=a->1<=s->s<=2147483629->A.length+xs.length<=1000->
  (∀L s'(J:List Nat) o',0<=L->1<=s'->s'<=2147483629->J.length=A.length+xs.length->(∀z∈J,z∈A\/z∈v)->Q [⇑(aT L s'),⇑(.sh (.str v)),⇑(.sh (.int m)),⇑(.sh (.int many)),⇑(.lst ((J.map sg).map .sh)),o'])->
  aS (zJ 5) eC iN xs [⇑(aT a s),⇑(.sh (.str v)),⇑(.sh (.int m)),⇑(.sh (.int many)),⇑(.lst ((A.map sg).map .sh)),o] Q E:=by
 intro xs;induction xs with
 |nil=>intro a s A o ha Z F h3 h;show h a s A o ha Z F (by simp) λz M=>.inl M
 |cons x xs ih=>
  intro a s A o ha Z F h3 h;simp only[qt]at h3 h;rw[gk];simp! [rS,e_sh,zan,aT,length_map];show Bk ha Z F ∅ ∅ λr L s' hr h1 h4 Y G=>?_;let#[c,h2,_,e]:=EM (l:=v) hr h1;simp! [e,e_sh,zan,aT,length_map];show#[by simp only[bP];lia,?_];let e2:((A.map sg).map S.sh)++[S.sh (.str [c])]=(((A++[c]).map sg).map S.sh):=by simp[sg]
  rw[e2];show ih L s' _ _ h4 Y G (by simp only[qq,qE];lia) λa2 s2 J o' x1 x2 x3 x4 x5=>h a2 s2 J o' x1 x2 x3 (by rw[x4];simp only[qq,qE];lia) λz M=>?_;rcases x5 z M with q|q
  .rcases qz.mp q with q|q
   .show .inl q
   .rw[qv.mp q];show .inr h2
  .show .inr q
def UV{a s m:Int}{v:List Nat}(ha:0<=a)(hs:1<=s)(L:s<=2147483629)(hm:0<=m)(h5:m<=900)(hc:0<v.length)(h1:v.length<=26)
  (h:∀(l:List Nat) J s',l.length<=m.toNat->(∀z∈l,z∈v)->0<=J->1<=s'->s'<=2147483629->P (.sh (.str l)) [aT J s',.sh (.str v),.sh (.int m)]):uM [aT a s,.sh (.str v),.sh (.int m)] P PX:=by
 show AM rfl rfl ?_;simp! [aT,e_sh,zan];show Bk ha hs L ∅ ∅ λr a1 s1 hr h4 h2 M F=>?_;let Z:↥(v=[])=false:=by simp;intro z;rw[z]at hc;simp at hc
 simp! [aT,e_sh,zan,Z,Bool.not_false,if_true,mul_one];show#[by simp only[bP];lia,?_];let hf:(fromTo 0 r.toNat).length=r.toNat:=Hj;show Ux (A:=[]) hc h1 _ a1 s1 none h2 M F (by rw[hf];simp only[qw];lia) λJ s' A' o' h3 Y G hA hg=>?_;rw[hf,qw,zero_add]at hA;simp! [aT,e_sh,zan];rw[HN (by simp only[bP];lia)];simp! [aT,e_sh,zan];show h A' J s' ∅ (λz hz=>(hg z hz).resolve_left (by simp)) h3 Y G
def SF{a s:Int}{F:List Nat}{B:List Wd}(ha:0<=a)(hs:1<=s)(Y:s<=2147483629)(hc:0<F.length)(hq:F.length<=26)(hB:0<B.length)(r1:B.length<=1000)(hw:∀w∈B,w≠[]/\w.length<=1000/\∀c∈w,c∈F)
  (h:∀(w:Wd) a' s',w≠[]->w.length<=2000->(∀c∈w,c∈F)->0<=a'->1<=s'->s'<=2147483629->P (.sh (.str w)) [aT a' s',.sh (.str F),.lst ((B.map D.str).map .sh)]):uL [aT a s,.sh (.str F),.lst ((B.map D.str).map .sh)] P PX:=by
 show AM rfl rfl ?_;simp! [aT,e_sh,zan,length_map];show Bk ha hs Y ∅ ∅ λr a1 s1 hr e1 hp h8 h3=>?_;let#[w,h6,_,e]:=EW (f:=λz=>S.sh (D.str z)) (l:=B) hr e1;let e':atI ((B.map D.str).map S.sh) r=⇑(S.sh (.str w)):=by rw[qH];show e
 let#[Z,hb,J]:=hw w h6;let hi:0<w.length:=qS.mpr Z;simp! [aT,e'];show Bk hp h8 h3 ⋯ ⋯ λkd a2 s2 hm hd hk Y h2=>?_;simp! [aT];show Bk hk Y h2 ∅ ∅ λr3 a3 s3 h9 h4 e4 h7 h1=>?_;let#[c,h5,_,ec]:=EM (l:=F) h9 h4;simp! [aT,ec];show Bk e4 h7 h1 ∅ ∅ λp a4 s4 e2 hl M L v=>?_;simp! [aT];rw[KF w ∅ ∅,DF w e2];let e3:kd=0\/kd=1\/kd=2\/kd=3\/kd=4:=∅
 rcases e3 with rfl|rfl|rfl|rfl|rfl
 .simp! [aT];refine h _ _ _ ?_ ?_ (λc hc=>J c (List.mem_of_mem_take hc)) M L v
  .intro z;let:=congrArg List.length z;rw[qK,qw]at this;lia
  .rw[qK];lia
 .simp! [aT];refine h _ _ _ ?_ ?_ (λc hc=>J c (List.mem_of_mem_drop hc)) M L v
  .intro z;let:=congrArg List.length z;rw[qJ,qw]at this;lia
  .rw[qJ];lia
 .simp! [aT];show h _ _ _ (by simp) (by simp;lia -verbose) (λx G=>?_) M L v;rcases qC.mp G with rfl|G
  .show h5
  .show J x G
 .simp! [aT];show h _ _ _ (by simp) (by simp;lia -verbose) (λx G=>?_) M L v;rcases qz.mp G with G|G
  .show J x G
  .rw[qv.mp G];show h5
 .simp! [aT];show h _ _ _ (by simp[Z]) (by simp;lia -verbose) (λx G=>?_) M L v;rcases qz.mp G with G|G<;>show J x G
def gR(F:List Nat)(many v:Nat)(B:List Wd):Prop:=B.length<=many/\B.Nodup/\∀w∈B,w≠[]/\w.length<=v/\∀c∈w,c∈F
def zQ(B:List Wd):D:=.tup (B.map D.str)
def VS{a s many v:Int}{G:List Nat}(ha:0<=a)(Z:1<=s)(J:s<=2147483629)(hc:0<G.length)(e2:G.length<=26)(hm:0<=many)(hm2:many<=500)(ho:1<=v)(ho2:v<=500)
  (h:∀(B:List Wd) a' s',gR G many.toNat v.toNat B->0<=a'->1<=s'->s'<=2147483629->P (.sh (zQ B)) [aT a' s',.sh (.str G),.sh (.int many),.sh (.int v)]):uK [aT a s,.sh (.str G),.sh (.int many),.sh (.int v)] P PX:=by
 show AM rfl rfl ?_;simp! [aT];show Bk ha Z J ∅ ∅ λr a1 s1 hr hr2 ha1 hd h8=>?_;let r1:↥(G=[])=false:=by simp;intro z;rw[z]at hc;simp at hc
 simp! [aT,r1,if_true,mul_one];show#[by simp only[bP];lia,?_];show Xn (λk U=>∃(a s:Int)(B:List Wd)(o5 o6:Option S),0<=a/\1<=s/\s<=2147483629/\gR G k v.toNat B/\U=[⇑(aT a s),⇑(.sh (.str G)),⇑(.sh (.int many)),⇑(.sh (.int v)),⇑(.lst ((B.map D.str).map .sh)),o5,o6]) _ (λk x hk D2 U hI e1 hct hrt hbk=>?_) (λU hI=>?_) #[a1,s1,[],none,none,ha1,hd,h8,#[by simp,by simp,by simp],rfl]
 .obtain⟨a,s,B,o5,o6,ha,Z,J,hB,rfl⟩:=hI;let k1:=(qg.mp hk).1;rw[Hj]at k1;let#[hB1,hp,L]:=hB;simp! [aT,rR];show Bk ha Z J ∅ ∅ λr3 a2 s2 hq h9 ha2 J h7=>?_;let#[c,k2,_,ec]:=EM (l:=G) hq h9;simp! [aT,ec];refine UV ha2 J h7 ∅ ∅ hc e2 λw a3 s3 hw1 hi e4 h5 Y=>?_
  --what is done with a word
  have put:∀(w:Wd)(a s:Int),0<=a->1<=s->s<=2147483629->w≠[]->w.length<=v.toNat->(∀c∈w,c∈G)->
    (eD (aJ cI (zG 6) (zG 4)) (wExpr (aV 4 (zG 6))) aO) D2 [⇑(aT a s),⇑(.sh (.str G)),⇑(.sh (.int many)),⇑(.sh (.int v)),⇑(.lst ((B.map D.str).map .sh)),⇑(.sh x),⇑(.sh (.str w))]:=λw a s ha Z J h1 h2 h3=>by
   simp! [aT,zan,Lp];cases q:↥(w∈B)
   .simp! [length_map];rw[show((B.map D.str).map S.sh)++[S.sh (.str w)]=((B++[w]).map D.str).map S.sh by simp];refine#[by simp only[bP];lia,e1 _ #[a,s,_,_,_,ha,Z,J,#[by simp only[qq,qE];lia,?_,λx hx=>?_],rfl]]
    .show qx.mpr #[hp,by simp,λx hx y hy e=>?_];rw[qv.mp hy]at e;subst e;let:=of_decide_eq_false q;show this hx
    .rcases qz.mp hx with z|z
     .show L x z
     .rw[qv.mp z];show#[h1,h2,h3]
   .simp! [e_C];show e1 _ #[a,s,B,_,_,ha,Z,J,#[∅,hp,L],rfl]
  have F:([c]++w)≠[]/\([c]++w).length<=v.toNat/\∀x∈[c]++w,x∈G:=by
   show#[by simp,by simp;lia,λx hx=>?_];rcases qz.mp hx with z|z
   .rw[qv.mp z];show k2
   .show hi x z
  simp! [aT,zan,Ta,length_cons,length_nil];cases q:↥(B=[])
  .simp! [aT];show Bk e4 h5 Y ⋯ ⋯ λr4 a4 s4 hr4 hr42 e3 h4 M=>?_;simp! [aT];cases q2:↥(r4=0)
   .simp! [e_C];let:=put _ a4 s4 e3 h4 M F.1 F.2.1 F.2.2;simp! [aT]at this;show this
   .simp! [aT];show SF e3 h4 M hc e2 (qS.mpr (of_decide_eq_false q)) ∅ (λw hw=>#[(L w hw).1,by let:=(L w hw).2.1;lia,(L w hw).2.2]) λw2 a5 s5 hn hl r2 k3 hb h6=>?_;simp! [aT];let hw2l:0<w2.length:=qS.mpr hn;let:=put (aP w2 none ⇑v) a5 s5 k3 hb h6 (λz=>?_) ?_ λc hc=>r2 c (Ez hc)
    .simp! [aT]at this;show this
    .let z2:=congrArg List.length z;unfold aP sIx at z2;let:¬v<0:=by lia
     simp only[zk this,drop_zero,sub_zero,qK,qw]at z2;lia
    .unfold aP sIx;let:¬v<0:=by lia
     simp only[zk this,drop_zero,sub_zero,qK];lia
  .simp! [e_C];let:=put _ a3 s3 e4 h5 Y F.1 F.2.1 F.2.2;simp! [aT]at this;show this
 .obtain⟨a,s,B,o5,o6,ha,Z,J,hB,rfl⟩:=hI;rw[Hj]at hB;simp! [aT,zan];show h B a s #[by let:=hB.1;lia,hB.2] ha Z J
abbrev Mv:=Wd×Int
def gO(m:Mv):D:=.tup [.str m.1,.int m.2]
def Qg(l:List Mv):bD (l.map gO)<=29:=Ii _ λd v=>by let#[m,_,rfl]:=qN.mp v;show 1<=29;decide
def OH{l:List Mv}:eT (.lst (l.map gO)) (.lst [])=⇑(!l.isEmpty):=by rw[HP (Qg l),List.isEmpty_map]
def VH{B:List Wd}{t:Wd}{p v:Int}(hB:B.length<=1000)(ht:t.length<=1000)(hp:0<=p)(h7:p<=v)
  (h:∀ms:List Mv,ms.length<=2000->(∀m∈ms,m.1∈B/\0<=m.2/\m.2<=v/\(m.2=p+m.1.length\/m.2<=p))->P (.lst ((ms.map gO).map .sh)) [.sh (zQ B),.sh (.str t),.sh (.int p),.sh (.int v)]):uJ [.sh (zQ B),.sh (.str t),.sh (.int p),.sh (.int v)] P PX:=by
 show AM rfl rfl ?_;simp! [zQ];show Bo (λG U=>∃(ms:List Mv)(o:Option S),ms.length<=2*G.length/\(∀m∈ms,m.1∈B/\0<=m.2/\m.2<=v/\(m.2=p+m.1.length\/m.2<=p))/\U=[⇑(.sh (zQ B)),⇑(.sh (.str t)),⇑(.sh (.int p)),⇑(.sh (.int v)),⇑(.lst ((ms.map gO).map .sh)),o]) B (λG w h3 D2 U e hI h1 h8 h6 h9=>?_) (λU hI=>?_) #[[],none,by simp,by simp,rfl]
 .obtain⟨ms,o,hl,Y,rfl⟩:=hI;let h4:G.length+1<=B.length:=by rw[<-e];simp only[qq,qt];lia
  let Z:w∈B:=by rw[<-e];simp
  have snd:∀ms:List Mv,ms.length<=2*G.length+1->(∀m∈ms,m.1∈B/\0<=m.2/\m.2<=v/\(m.2=p+m.1.length\/m.2<=p))->
    (eD (eX (aJ bj (zG 2) (wB aN (zH (zG 5) zI))) (aJ eK (fJ (zG 1) ⇑(zR dQ (zG 2) (wB aN (zH (zG 5) zI))) ⇑(zG 2)) (zG 5))) (wExpr (aV 4 (cC (zH (zG 5) (zH (zR dQ (zG 2) (wB aN (zH (zG 5) zI))) zI))))) aO) D2 [⇑(.sh (zQ B)),⇑(.sh (.str t)),⇑(.sh (.int p)),⇑(.sh (.int v)),⇑(.lst ((ms.map gO).map .sh)),⇑(.sh (.str w))]:=λms hl Y=>by
   let J:D2.nx [⇑(.sh (zQ B)),⇑(.sh (.str t)),⇑(.sh (.int p)),⇑(.sh (.int v)),⇑(.lst ((ms.map gO).map .sh)),⇑(.sh (.str w))]:=h1 _ #[ms,_,by simp only[qq,qE];lia,Y,rfl];simp! [zQ];cases q1:↥((w.length:Int)<=p)
   .simp! [e_C];show J
   let h5:=qX q1;simp! [zQ];cases q2:↥(aP t ⇑(p-(w.length:Int)) ⇑p=w)
   .simp! [e_C];show J
   simp! [length_map];rw[show((ms.map gO).map S.sh)++[S.sh (.tup [.str w,.int (p-w.length)])]=((ms++[(w,p-w.length)]).map gO).map S.sh by simp[gO]];show#[by simp only[bP];lia,h1 _ #[_,_,by simp only[qq,qE];lia,λm M=>?_,rfl]];rcases qz.mp M with z|z
   .show Y m z
   .rw[qv.mp z];show#[Z,by show 0<=p-w.length;lia,by show p-(w.length:Int)<=v;lia,.inr (by show p-(w.length:Int)<=p;lia)]
  simp! [rQ,zQ];let F:=snd ms ∅ Y;simp! [zQ]at F;cases q1:↥(aP t ⇑p ⇑(p+(w.length:Int))=aP w none ⇑((t.length:Int)-p))
  .simp! [e_C];show F
  simp! [e_C];cases q2:↥(p+(w.length:Int)<=v)
  .simp! [e_C];show F
  have h2:=qX q2;simp! [length_map];rw[show((ms.map gO).map S.sh)++[S.sh (.tup [.str w,.int (p+w.length)])]=((ms++[(w,p+w.length)]).map gO).map S.sh by simp[gO]];show#[by simp only[bP];lia,?_];let L:=snd (ms++[(w,p+w.length)]) (by simp only[qq,qE];lia) λm M=>by
   rcases qz.mp M with z|z
   .show Y m z
   .rw[qv.mp z];show#[Z,by show 0<=p+(w.length:Int);lia,h2,.inl rfl]
  simp! [zQ]at L;show L
 .obtain⟨ms,o,hl,Y,rfl⟩:=hI;simp! [zQ];show h ms ∅ Y
def Gi{t w:Wd}{p g:Int}(F:0<=p)(v:p<=t.length)(G:g=p+w.length):((aP t none ⇑p++w)++aP t ⇑g none).length=max g.toNat t.length:=by let#[k,rfl]:=Int.eq_ofNat_of_zero_le F;let J:k<=t.length:=ofNat_le.mp v;rw[<-natCast_add]at G;subst G;rw[KF t F v,DF t (natCast_nonneg _)];simp only[qq,qK,qJ,qZ];rw[min_eq_left J,Nat.add_comm,Nat.sub_add_eq_max,Nat.max_comm]
def LG{a s v:Int}{G:List Nat}{B:List Wd}(ha:0<=a)(hs:1<=s)(L:s<=2147483629)(hc:0<G.length)(hc2:G.length<=26)(hm:0<=v)(hm2:v<=500)(hB:B.length<=1000)(hw:∀w∈B,w.length<=1000/\∀c∈w,c∈G)
  (h:∀(t:Wd) a' s',t.length<=v.toNat->(∀c∈t,c∈G)->0<=a'->1<=s'->s'<=2147483629->P (.sh (.str t)) [aT a' s',.sh (zQ B),.sh (.str G),.sh (.int v)]):pV [aT a s,.sh (zQ B),.sh (.str G),.sh (.int v)] P PX:=by
 show AM rfl rfl ?_;simp! [aT,length_cons,length_nil];show Bk ha hs L ⋯ ⋯ λr a1 s1 hr h3 Y M F=>?_;simp! [aT];show#[by simp only[bP];lia,?_];show Bo (toD:=λk:Nat=>D.int (0+(k:Int))) (λe4 U=>∃(a s:Int)(t:Wd)(p:Int)(o6 o7 o8 o9 Z:Option S),0<=a/\1<=s/\s<=2147483629/\t.length<=v.toNat/\(∀c∈t,c∈G)/\0<=p/\p<=t.length/\U=[⇑(aT a s),⇑(.sh (zQ B)),⇑(.sh (.str G)),⇑(.sh (.int v)),⇑(.sh (.str t)),⇑(.sh (.int p)),o6,o7,o8,o9,Z]) (List.range _) (λe4 k k2 D2 U e hI h5 hct hrt hbk=>?_) (λU hI=>?_) #[a1,s1,[],0,none,none,none,none,none,Y,M,F,by simp,by simp,⋯,by simp,rfl]
 .obtain⟨a,s,t,p,o6,o7,o8,o9,Z,ha,hs,L,ht,J,hp,h4,rfl⟩:=hI;simp! [aT,rP];refine VH hB ∅ hp ∅ λms h6 hm=>?_
  --the choice among some moves
  have h2:∀ms:List Mv,ms.length<=2000->(∀m∈ms,m.1∈B/\0<=m.2/\m.2<=v/\(m.2=p+m.1.length\/m.2<=p))->
    (eD (aJ eT (zG 7) (bS zI)) (zS (zU (dA [zJ 8,zJ 9]) (bX (zG 7) (zT cU [true,true] (zH (zG 0) (zH (wB aN (zH (zG 7) zI)) zI)))))
  (zS (eD (aJ oY (zG 9) (zG 5)) (zU (zJ 4) (zR aQ (zR aQ (fJ (zG 4) none ⇑(zG 5)) (zG 8)) (fJ (zG 4) ⇑(zG 9) none))) aO)
  (zU (zJ 5) (zG 9)))) aO) D2 [⇑(aT a s),⇑(.sh (zQ B)),⇑(.sh (.str G)),⇑(.sh (.int v)),⇑(.sh (.str t)),⇑(.sh (.int p)),⇑(.sh (.int (0+(k:Int)))),⇑(.sh (.lst (ms.map gO))),o8,o9,Z]:=λms h6 hm=>by
   simp! [aT,OH];cases q:ms.isEmpty
   .simp! [aT,length_map];let e1:0<ms.length:=by
     cases ms with
     |nil=>cases q
     |cons _ _=>simp
    show Bk ha hs L ∅ ∅ λr a1 s1 hr h3 Y M F=>?_;let#[m,h1,_,em]:=EW (f:=gO) hr h3;let#[hd,e3,hg1,hg2]:=hm m h1;let#[hw1,hx]:=hw m.1 hd;simp! [aT,em,gO,length_cons,length_nil];cases q2:↥(p<m.2)
    .simp! [e_C];let:=of_decide_eq_false q2;show h5 _ #[a1,s1,t,m.2,_,_,_,_,_,Y,M,F,ht,J,e3,∅,rfl]
    .have k3:=qX q2;let hq:m.2=p+m.1.length:=by lia
     let e2:=Gi hp h4 hq;let l1:(aP t none ⇑p).length<=1000:=le_trans (Ey _ _ _) ∅;let l2:(aP t ⇑m.2 none).length<=1000:=le_trans (Ey _ _ _) ∅;simp! [length_append];show h5 _ #[a1,s1,(aP t none ⇑p++m.1)++aP t ⇑m.2 none,m.2,_,_,_,_,_,Y,M,F,by rw[e2];lia,λc hc=>?_,e3,by rw[e2];lia,rfl];rcases qz.mp hc with z|z
     .rcases qz.mp z with z|z
      .show J c (Ez z)
      .show hx c z
     .show J c (Ez z)
   .simp! [e_C];show h5 _ #[a,s,t,p,_,_,_,_,_,ha,hs,L,ht,J,hp,h4,rfl]
  simp! [aT,zan];cases q:↥((4:Int)<0+(k:Int))
  .simp! [e_C];let:=h2 ms h6 hm;simp! [aT]at this;show this
  .simp! [e_C];refine Hr (n:=11) (toD:=gO) ms (λm=>if ↥(p<m.2)=true then ⇑(.sh (gO m))else none) (λm h1 l o K hl hK=>?_) λo=>?_
   .cases q3:↥(p<m.2)
    .simp! [eB,ja,lV,gO,q3];rw[q3]at hK;let:=hK ⇑(.sh (gO m));rw[zk ⋯,toList_none,qB]at this;show this
    .simp! [eB,jV,lV,gO,q3];rw[q3]at hK;show#[by simp only[bP];lia,hK _]
   .rw[Gn (λm:Mv=>↥(p<m.2)) (λm=>S.sh (gO m)),show((ms.filter λm:Mv=>↥(p<m.2)).map λm=>S.sh (gO m))=((ms.filter λm:Mv=>↥(p<m.2)).map gO).map S.sh by rw[qH];rfl];simp! [zan];let:=h2 (ms.filter λm:Mv=>↥(p<m.2)) (le_trans (List.length_filter_le _ _) h6) λm h1=>hm m (mem_filter.mp h1).1;simp! [aT]at this;show this
 .obtain⟨a,s,t,p,o6,o7,o8,o9,Z,ha,hs,L,ht,J,hp,h4,rfl⟩:=hI;simp! [aT];cases q:↥(t=[])
  .have e1:0<t.length:=qS.mpr (of_decide_eq_false q);simp! [aT];show Bk ha hs L ⋯ ⋯ λr a1 s1 hr h3 Y M F=>?_;simp! [aT];cases q2:↥(r=0)
   .simp! [e_C];show h t a1 s1 ht J Y M F
   .simp! [aT];show Bk Y M F ∅ ∅ λx a2 s2 hk hx1 k1 L h8=>?_;simp! [aT];show Bk k1 L h8 ∅ ∅ λr3 a3 s3 hb h9 r2 hi h7=>?_;let#[c,r1,_,ec]:=EM (l:=G) hb h9;let l1:(aP t none ⇑x).length<=1000:=le_trans (Ey _ _ _) ∅;let l2:(aP t ⇑(x+1) none).length<=1000:=le_trans (Ey _ _ _) ∅;let l3:=Gi (t:=t) (w:=[c]) (p:=x) (g:=x+1) hk ∅ (by simp);simp! [aT,ec,length_append,length_cons,length_nil];show h _ a3 s3 (by rw[l3];lia) (λy hy=>?_) r2 hi h7;rcases qz.mp hy with z|z
    .rcases qz.mp z with z|z
     .show J y (Ez z)
     .rw[qv.mp z];show r1
    .show J y (Ez z)
  .simp! [e_C];show h t a s ht J ha hs L
structure uD(B:List Wd)(w:Wd):Prop where
 nd:B.Nodup
 ne:∀x∈B,x≠[]
 le:∀x∈B,x.length<=1000
 six:B.length<=6
 tw:w.length<=12
def NU{B:List Wd}{w:Wd}(v:uD B w)
  (h:P (.lst (((bH B w).map mQ).map .sh)) [.sh (zQ B),.sh (.str w)]):jd [.sh (zQ B),.sh (.str w)] P PX:=by
 let Y:=v.tw;let h6:=v.six;let G:((List.range w.length).flatMap (fC B w)).length<64:=by rw[<-(MP v.nd v.ne).length_eq];show Il v.nd v.ne h6 Y
 let Z:(List.range w.length).flatMap (λi=>(fC B w i).map λt=>S.sh (mQ t))=(((List.range w.length).flatMap (fC B w)).map mQ).map S.sh:=by simp[List.map_flatMap,Function.comp_def]
 show AM rfl rfl ?_;simp! [e_C];show#[by simp only[bP];lia,?_];rw[Ba rfl];show bf (n:=2) (k:=3) (List.range w.length) (λi=>(fC B w i).map λt=>S.sh (mQ t)) (λi hi l vs K L hl hK=>?_) (λvs L=>?_)
 .obtain⟨a,b,c,rfl⟩:=DQ L;rw[Z,qo,qo,qo]at hl;simp! [eB,jV,vE,zQ,Uo];refine Xq (λl o o'=>[⇑(.sh (zQ B)),⇑(.sh (.str w)),⇑(.lst l),⇑(.sh (.int (i:Int))),o,o']) (List.range B.length) (λk=>if ↥(cJ w i (i+((B[k]?).getD []).length)=(B[k]?).getD [])=true then ⇑(S.sh (mQ (i,i+((B[k]?).getD []).length,k)))else none) (λk hk l2 o o' K2 F J=>?_) λo o'=>?_
  .let M:(List.range B.length).filterMap (λk=>if ↥(cJ w i (i+((B[k]?).getD []).length)=(B[k]?).getD [])=true then ⇑(S.sh (mQ (i,i+((B[k]?).getD []).length,k)))else none)=(fC B w i).map λt=>S.sh (mQ t):=by unfold fC;rw[List.map_filterMap];show Ik λx _=>?_;split<;>rfl
   rw[M,qo]at F;let ec:aP w ⇑(i:Int) ⇑((i:Int)+((((B[k]?).getD []).length:Nat):Int))=cJ w i (i+((B[k]?).getD []).length):=by rw[<-natCast_add];show Ij w _ _
   cases q:↥(cJ w i (i+((B[k]?).getD []).length)=(B[k]?).getD [])
   .simp! [eB,zQ,length_cons,length_nil,ec,q,ja];let:=J ⇑(.sh (.int (k:Int))) ⇑(.sh (.str ((B[k]?).getD [])));rw[q,zk ⋯,toList_none,qB]at this;show this
   .simp! [eB,zQ,length_cons,length_nil,ec,q,jV,vF];let:=J ⇑(.sh (.int (k:Int))) ⇑(.sh (.str ((B[k]?).getD [])));rw[q,zj rfl,toList_some]at this F;simp only[qE]at F;show#[by simp only[bP];lia,?_];rw[jt,natCast_add]at this;show this
  .let M:(List.range B.length).filterMap (λk=>if ↥(cJ w i (i+((B[k]?).getD []).length)=(B[k]?).getD [])=true then ⇑(S.sh (mQ (i,i+((B[k]?).getD []).length,k)))else none)=(fC B w i).map λt=>S.sh (mQ t):=by unfold fC;rw[List.map_filterMap];show Ik λx _=>?_;split<;>rfl
   rw[M];show hK _ rfl
 .obtain⟨a,b,c,rfl⟩:=DQ L;rw[Z];simp! [zan,SO (MP v.nd v.ne) G];show h
def Nn{B:List Wd}{b:D}{w:Wd}(hb:∀z,fO (.str z) b=⇑↥(z∈B))(h6:w.length<=60)
  (h:P (.lst ((aH B w).map .sh)) [.sh b,.sh (.str w)]):mO [.sh b,.sh (.str w)] P PX:=by
 show AM rfl rfl ?_;simp! [e_C];show#[by simp only[bP];lia,?_];rw[Ba (n:=w.length+1) ∅];show Dv (n:=5) (List.range (w.length+1)) (λ_=>S.lst []) (λp hp l o K hl hK=>?_) λo=>?_
 .rw[qG]at hl;simp! [eB,jV,rM];show#[by simp only[bP];lia,hK _]
 rw[show((List.range (w.length+1)).map λ_=>S.lst [])=jE w.length λ_=>[] from rfl];simp! [e_C];show#[by simp only[bP];lia,?_];rw[Ba (n:=w.length) rfl];show Bo (λv U=>∃(f:Nat->List Nat)(Z J:Option S),eN B w v.length (v.length+1) f/\U=[⇑(.sh b),⇑(.sh (.str w)),⇑(.lst (jE w.length f)),Z,J]) (List.range w.length) (λv i h7 D2 U e M h1 hk e4 hx=>?_) (λU M=>?_) #[λ_=>[],none,none,VB,rfl]
 .obtain⟨f,Z,J,G,rfl⟩:=M;let hi:v.length=i/\i<w.length:=GL e;let#[rfl,hi]:=hi;simp! [rN];show#[by simp only[bP];lia,?_];rw[CZ (a:=v.length+1) (n:=w.length+1) ∅ ∅];refine Bo (λF U=>∃(f:Nat->List Nat)(J:Option S),eN B w v.length (v.length+1+F.length) f/\U=[⇑(.sh b),⇑(.sh (.str w)),⇑(.lst (jE w.length f)),⇑(.sh (zV v.length)),J]) (List.range' (v.length+1) (w.length+1-(v.length+1))) (λF j Y D3 U e2 M L h9 h8 e1=>?_) (λU M=>?_) #[f,J,↑G,rfl]
  .obtain⟨f,J,G,rfl⟩:=M;let hj:j=v.length+1+F.length/\j<=w.length:=by let:=NA e2;lia
   let#[h5,h4]:=hj;rw[<-h5]at G;let ht:↥(cJ w v.length j∈B)=dP B w v.length j:=by unfold dP;rw[qU (show v.length<j by lia),qU h4];rfl
   simp! [rO,zV,Ij,hb];rw[ht];cases q:dP B w v.length j
   .simp! [e_C];show L _ #[f,_,?_,rfl];rw[qq,qE,show v.length+1+(F.length+1)=j+1 by lia];show QD ∅ G q
   .simp! [e_C];rw[GV ∅ (show(jE w.length f)[((v.length:Nat):Int).toNat]?=_ by rw[qZ];show Gy ∅)];simp! [length_map];let h3:=LY G v.length;show#[by simp only[bP];lia,?_];rw[qZ,show(((f v.length).map λq=>S.sh (zV q))++[S.sh (D.int (j:Int))])=(((f v.length).map λq=>S.sh (zV q))++[S.sh (zV j)]) from rfl,GH ∅];rw[GV ∅ (show(jE w.length (bL f v.length j))[((j:Nat):Int).toNat]?=_ by rw[qZ];show Gy ∅)];simp! [length_map];let h2:=LY G j;let e3:bL f v.length j j=f j:=by unfold bL;rw[zk ∅]
    show#[by rw[e3];simp only[bP];lia,?_];rw[qZ,show(((bL f v.length j j).map λq=>S.sh (zV q))++[S.sh (D.int (v.length:Int))])=(((bL f v.length j j).map λq=>S.sh (zV q))++[S.sh (zV v.length)]) from rfl,GH ∅];show L _ #[_,_,?_,rfl];rw[qq,qE,show v.length+1+(F.length+1)=j+1 by lia];show Sr ∅ G q
  .obtain⟨f,J,G,rfl⟩:=M;rw[List.length_range',show v.length+1+(w.length+1-(v.length+1))=w.length+1 by lia]at G;show h1 _ #[f,_,_,?_,rfl];rw[qq,qE];show Te (zm _) G
 .obtain⟨f,Z,J,G,rfl⟩:=M;rw[qG]at G;simp! [e_C];rw[show(jE w.length f).map S.toD=(List.range (w.length+1)).map λp=>D.lst ((f p).map zV) by unfold jE;rw[qH];show map_congr_left λp _=>?_;simp[Function.comp_def]]
  show Dv (n:=5) (List.range (w.length+1)) (λp=>.sh (.lst ((nb B w p).map zV))) (λp hp l o K hl hK=>?_) λo=>?_
  .rw[qG]at hl;simp! [eB,jV,rL,KO (Uq (le_refl _) G) h6,zan];show#[by simp only[bP];lia,hK _]
  .rw[show((List.range (w.length+1)).map λp=>S.sh (.lst ((nb B w p).map zV)))=(aH B w).map S.sh by unfold aH;rw[qH];rfl];simp! [e_C];show h
def MR{B:List Wd}{w:Wd}(v:w.length<=60)
  (h:P (.lst ((aH B w).map .sh)) [.sh (zQ B),.sh (.str w)]):mO [.sh (zQ B),.sh (.str w)] P PX:=Nn (λ_=>Mh) v h
def Xj{B:List Wd}{w:Wd}(hf:uD B w)
  (h:P (.lst ((aH B w).map .sh)) [.sh (zQ B),.sh (.str w)]):ka [.sh (zQ B),.sh (.str w)] P PX:=by
 let e4:=hf.tw;show AM rfl rfl ?_;simp! [e_C];show#[by simp only[bP];lia,?_];rw[Ba (n:=w.length+1) ∅];show Dv (n:=6) (List.range (w.length+1)) (λ_=>S.lst []) (λp hp l o K hl hK=>?_) λo=>?_
 .rw[qG]at hl;simp! [eB,jV,uZ];show#[by simp only[bP];lia,hK _]
 rw[show((List.range (w.length+1)).map λ_=>S.lst [])=jE w.length λ_=>[] from rfl];simp! [e_C];show NU hf ?_;simp! [zan];show Bo (λF U=>∃(f:Nat->List Nat)(Z Y M:Option S),jS F f/\U=[⇑(.sh (zQ B)),⇑(.sh (.str w)),⇑(.lst (jE w.length f)),Z,Y,M]) (bH B w) (λF t h8 D2 U e hI h5 e1 h9 e2=>?_) (λU hI=>?_) #[λ_=>[],none,none,none,λp=>#[by simp,by simp],rfl]
 .obtain⟨f,Z,Y,M,L,rfl⟩:=hI;let h4:t∈bH B w:=by rw[<-e];simp
  let h3:=zam.mp (zaK.mp h4).1;let J:=zb9 (B:=B) (w:=w);rw[<-e,pairwise_append]at J;let v:∀u∈F,u.1<u.2.1/\¬(u.1=t.1/\u.2.1=t.2.1):=λu G=>by let h1:=zam.mp (zaK.mp (show u∈bH B w by rw[<-e];simp[G])).1;let h2:=J.2.2 u G t (by simp);lia
  simp! [jt,length_cons,length_nil,vB];rw[GV ∅ (show(jE w.length f)[((t.1:Nat):Int).toNat]?=_ by rw[qZ];show Gy ∅)];simp! [length_map];let h7:=MG e L t.1;show#[by simp only[bP];lia,?_];rw[qZ,show(((f t.1).map λq=>S.sh (zV q))++[S.sh (D.int (t.2.1:Int))])=(((f t.1).map λq=>S.sh (zV q))++[S.sh (zV t.2.1)]) from rfl,GH ∅];rw[GV ∅ (show(jE w.length (bL f t.1 t.2.1))[((t.2.1:Nat):Int).toNat]?=_ by rw[qZ];show Gy ∅)];simp! [length_map];let h6:=MG e L t.2.1;let e3:bL f t.1 t.2.1 t.2.1=f t.2.1:=by unfold bL;rw[zk ∅]
  show#[by rw[e3];simp only[bP];lia,?_];rw[qZ,show(((bL f t.1 t.2.1 t.2.1).map λq=>S.sh (zV q))++[S.sh (D.int (t.1:Int))])=(((bL f t.1 t.2.1 t.2.1).map λq=>S.sh (zV q))++[S.sh (zV t.1)]) from rfl,GH ∅];show h5 _ #[_,_,_,_,VL h3.1 (λu G=>(v u G).1) (λu G=>(v u G).2) L,rfl]
 .obtain⟨f,Z,Y,M,L,rfl⟩:=hI;simp! [e_C];rw[show(jE w.length f).map S.toD=(List.range (w.length+1)).map λp=>D.lst ((f p).map zV) by unfold jE;rw[qH];show map_congr_left λp _=>?_;simp[Function.comp_def]]
  show Dv (n:=6) (List.range (w.length+1)) (λp=>.sh (.lst ((nb B w p).map zV))) (λp hp l o K hl hK=>?_) λo=>?_
  .rw[qG]at hl;simp! [eB,jV,uY,KO (Vy L p) ∅,zan];show#[by simp only[bP];lia,hK _]
  .rw[show((List.range (w.length+1)).map λp=>S.sh (.lst ((nb B w p).map zV)))=(aH B w).map S.sh by unfold aH;rw[qH];rfl];simp! [e_C];show h
def Pt(l:List D):cE 0 l=(List.range l.length).map λ(k:Nat)=>D.tup [.int (k:Int),(l[k]?).getD .non]:=by let:=IE (λd:D=>d) l 0;rw[List.map_id']at this;rw[this];show map_congr_left λi _=>?_;rw[zero_add];cases l[i]?<;>rfl
def Xb{B:List Wd}{w:Wd}(hb:w.length<=60)
  (h:P (.lst ((eI w.length (fG B w)).map .sh)) [.sh (.lst (aH B w))]):uI [.sh (.lst (aH B w))] P PX:=by
 let Z:(aH B w).length=w.length+1:=by simp[aH]
 show AM rfl rfl ?_;simp! [Z];show#[by simp only[bP];lia,?_];rw[Ba (n:=w.length+1) ∅];show#[by rw[qo,qG];simp only[bP];lia,?_];rw[show((List.range (w.length+1)).map λ(k:Nat)=>D.int (k:Int))=eI w.length λp=>p from rfl];show EK (λm U=>∃(f:Nat->Nat)(a:List Int)(L J:Option S),jO (aB B w) w.length f/\(a=eP w.length f->jP (aB B w) (w.length+1) f)/\m=(if a=eP w.length f then 0 else 1)+iR w.length f/\U=[⇑(.sh (.lst (aH B w))),⇑(.lst ((eI w.length f).map .sh)),⇑(.sh (.lst (a.map D.int))),L,J]) _ #[λp=>p,[],none,none,#[λp=>zm p,λp=>.refl p],λe=>?_,rfl,rfl] λm U hJ=>?_
 .let:=congrArg List.length e;simp[eP]at this
 let#[f,a,L,J,hf,h7,hm,rfl]:=hJ;simp! [zan,Fe,Mc];cases q:↥(a=eP w.length f)
 .have q':=of_decide_eq_false q;rw[zk q']at hm;simp! [mL,rJ,zan,Pt,Z];refine Bo (λY U=>∃(g:Nat->Nat)(L J:Option S),jO (aB B w) w.length g/\(∀p,g p<=f p)/\((∀p,p<=w.length->g p=f p)->jP (aB B w) Y.length f)/\U=[⇑(.sh (.lst (aH B w))),⇑(.lst ((eI w.length g).map .sh)),⇑(.sh (.lst ((eP w.length f).map D.int))),L,J]) (List.range (w.length+1)) (λY k e1 D2 U e hI h8 hx e3 hi=>?_) (λU hI=>?_) #[f,L,J,hf,λp=>zm _,λ_ p F=>by simp at F,by rw[Fe]]
  .obtain⟨g,L,J,hg,M,hs,rfl⟩:=hI;let hk:=GL e;let#[h3,h9]:=hk;rw[h3]at hs;let et:((aH B w)[k]?).getD .non=.lst ((nb B w k).map zV):=by unfold aH;rw[qI,getElem?_range h9];rfl
   let#[v,ev,h6,h5,h4]:=SN (R:=aB B w) (n:=w.length) (k:=k) (f0:=f) (g:=g) (l:=nb B w k) (λq=>zaI) hg M hs ∅ GC;let e4:=Dl (B:=B) (w:=w) (p:=k);simp! [length_cons,length_nil,rK,et,LH (show k<=w.length by lia)];show Dv (n:=5) (nb B w k) (λq=>.sh (zV (g q))) (λq hq l o K hl hK=>?_) λo=>?_
   .simp! [eB,jV,rH,zV,LH (Eg hq).1];show#[by simp only[bP];lia,hK _]
   .rw[show((nb B w k).map λq=>S.sh (zV (g q)))=((nb B w k).map λq=>zV (g q)).map S.sh by rw[qH];rfl];let eb:fX [.lst (D.int ((g k:Nat):Int)::(nb B w k).map λq=>zV (g q))]=⇑(.sh (.int ((v:Nat):Int))):=by show(cQ _).bind _=_;rw[show(D.int ((g k:Nat):Int)::(nb B w k).map λq=>zV (g q))=((((g k:Nat):Int)::(nb B w k).map λq=>((g q:Nat):Int)).map D.int) by simp[zV],Eu];rw[bind_some,ev];rfl
    simp! [zan,length_map,length_cons,length_nil,eb];rw[HH ∅ (by rw[qo,Hb];lia)];show h8 _ #[_,⇑(.sh (.int (k:Int))),⇑(.sh (.lst ((nb B w k).map zV))),h6,h5,?_,?_]
    .rw[qq,qE,h3];show h4
    .rw[qZ,<-Tb (show k<=w.length by lia),map_set];rfl
  .obtain⟨g,L,J,hg,M,hs,rfl⟩:=hI;rw[qG]at hs;by_cases G:∀p,p<=w.length->g p=f p
   .let ev:eP w.length f=eP w.length g:=zgu.mpr λp F=>(G p F).symm;let es:iR w.length g=iR w.length f:=by unfold iR;congr 1;exact map_congr_left λp F=>G p (by let:=qM.mp F;lia)
    show DV (m':=iR w.length f) ∅ #[g,eP w.length f,_,_,hg,λ_=>?_,?_,by rw[Fe]]
    .intro p F r hr;let:=hs G p F r hr;let h1:=G p ∅;let h2:=G r (GC p r hr).2;lia
    .rw[zj ev,es];lia
   .let:=RC (n:=w.length) M G;refine DV ?_ #[g,eP w.length f,_,_,hg,λe=>?_,rfl,by rw[Fe]]
    .split<;>lia
    .show(G λp F=>(zgu.mp e p F).symm).elim
 .let q':=qX q;let hL:=UP Ew GC hf (h7 q');let e2:eP w.length f=eP w.length (fG B w):=zgu.mpr λp _=>hL.unique (LV B w) p;simp! [mM];rw[e2,<-Fe];show h
def DU{B:List Wd}{w:Wd}{p:Nat}(v:p<=w.length):atI (aH B w) (p:Int)=⇑(.lst ((nb B w p).map zV)):=by show Cv ∅ ?_;rw[qZ];unfold aH;rw[qI,getElem?_range ∅];rfl
abbrev TS:=List (Nat×Nat)
def cT(L:TS):S:=.dct false (aM L) ((dN L).map .sh)
def DC{B:List Wd}{w:Wd}{q:Nat}(h:aX (aB B w) w.length q):q<=w.length:=by
 cases h with
 |refl=>show zm _
 |step _ e=>show(GC _ _ e).2
def Dk{B:List Wd}{w:Wd}{L:TS}(h:jQ (aB B w) w.length L):L.length<=w.length+1:=by
 let:=DB (L.map (·.1)) (List.range (w.length+1)) h.nd λx v=>by let#[t,F,rfl]:=qN.mp v;let:=DC (Cw (h.ok t F).1);show qM.mpr ∅
 rw[qo,qG]at this;show this
def Wm{B:List Wd}{w:Wd}{D':Ends}{s1 o6:Option S}(hc:w.length<=60)
  (e2:∀(L:TS)(o4 Y:Option S),bM (aB B w) w.length L []->D'.nx [⇑(.sh (.lst (aH B w))),s1,⇑(cT L),⇑(.lst []),o4,Y,o6]):
  dH (aJ eT (zG 3) (bS zI)) iM D' [⇑(.sh (.lst (aH B w))),s1,⇑(cT [(w.length,0)]),⇑(.lst [.sh (zV w.length)]),none,none,o6]:=by
 show EK (λm U=>∃(L J:TS)(o4 Y:Option S),bM (aB B w) w.length L J/\m+2*L.length=2*(w.length+1)+J.length/\m<=2*(w.length+1)/\U=[⇑(.sh (.lst (aH B w))),s1,⇑(cT L),⇑(.lst ((aM J).map .sh)),o4,Y,o6]) (2*(w.length+1)-1) #[[(w.length,0)],[(w.length,0)],none,none,bM.start,by simp;lia,∅,rfl] λm U hJ=>?_;let#[L,J,o4,Y,hq,hm,hx,rfl]:=hJ;let hb:=Dk hq.right;cases J with
 |nil=>simp! [mM,aM,map_nil,HP (show bD []<=29 by decide),List.isEmpty_nil];show e2 L o4 Y hq
 |cons t J=>
  let Z:=hq.take;let h3:t.1<=w.length:=DC (Cw (hq.right.ok t Z.tin).1);let h9:bD (aM (t::J))<=29:=Ii _ λd hd=>by unfold aM at hd;let#[u,_,rfl]:=qN.mp hd;show 0<=29;decide
  rw[qt]at hm;let hk:J.length<=2*(w.length+1):=∅
  let h6:(aM (t::J)).length=J.length+1:=by simp[aM]
  simp! [mL,zan,HP h9,show(aM (t::J)).isEmpty=false from rfl,rG,length_map,h6,DU h3];show Ke (s:=.sh (zV t.1)) ⋯ (by rw[qo,h6];simp only[bP];lia) rfl ?_;rw[show(List.map S.sh (aM (t::J))).eraseIdx (Int.toNat 0)=(aM J).map S.sh from rfl];simp! [zV,DU h3];show Bo (toD:=zV) (λh1 U=>∃(G v:TS)(Y:Option S),pD (aB B w) w.length G v t h1/\G.length+J.length=L.length+v.length/\L.length<=G.length/\U=[⇑(.sh (.lst (aH B w))),s1,⇑(cT G),⇑(.lst ((aM v).map .sh)),⇑(.sh (.int (t.1:Int))),Y,o6]) (nb B w t.1) (λh1 q e3 D2 U e hI h2 hp e4 hi=>?_) (λU hI=>?_) #[L,J,Y,Z,rfl,zm _,rfl]
  .obtain⟨G,v,Y,F,h5,h4,rfl⟩:=hI;let h7:q∈nb B w t.1:=by rw[<-e];simp
   let hr:aB B w t.1 q:=zaI.mp h7;let e1:=Dk F.right;by_cases M:∃d,(q,d)∈G
   .let hn:=GA (vs:=dN G) M;simp! [lU,zV,cT,zfB,hn];let#[d,hd]:=M;show h2 _ #[G,v,_,F.skip hd,h5,h4,rfl]
   .let hn:=Gr (vs:=dN G) M;let h8:lk (aM G) (dN G) (.int (t.1:Int))=⇑(.int (t.2:Int)):=Fs (f:=zV) F.right.nd (show(t.1,t.2)∈G from F.tin);simp! [lU,zV,cT,zfB,hn,h8];let k1:(aM G).length=G.length:=by simp[aM]
    let k2:((aM v).map S.sh).length=v.length:=by simp[aM]
    show#[KA F.right.nd,by rw[k1];simp only[bP];lia,by rw[k2];simp only[bP];lia,?_];rw[LO λd hd=>M #[d,hd]];show h2 _ #[G++[(q,t.2+1)],v++[(q,t.2+1)],⇑(.sh (.int (q:Int))),F.put hr (λe he=>M #[e,he]),by simp only[qq,qE];lia,by simp only[qq,qE];lia,?_];simp[cT,aM,dN,zV]
  .obtain⟨G,v,Y,F,h5,h4,rfl⟩:=hI;let e1:=Dk F.right;show DV (m':=2*(w.length+1)+v.length-2*G.length) ∅ #[G,v,_,_,F.queue λq hq=>zaI.mpr hq,∅,∅,rfl]
def Kp{B:List Wd}{w:Wd}{L:TS}(v:bM (aB B w) w.length L []){q d:Nat}(h:aC (aB B w) w.length q d):lk (aM L) (dN L) (.int (q:Int))=⇑(.int (d:Int)):=Fs (f:=zV) v.right.nd (v.done h)
def UO{B:List Wd}{w:Wd}{D':Ends}{Y o3 o4 Z:Option S}{L:TS}{p:Nat}(e3:w.length<=60)(M:bM (aB B w) w.length L []){d:Nat}(hd:aC (aB B w) w.length p d)
  (h7:D'.nx [⇑(.sh (.lst (aH B w))),Y,⇑(cT L),o3,o4,Z,⇑(.lst (((aW B w d p).map zV).map .sh))]):
  dH (aJ eT (bX (zG 6) (jW eJ (wC (.int 1)))) (zR dQ (wB aN (zH (zG 0) zI)) (wC (.int 1)))) iL D' [⇑(.sh (.lst (aH B w))),Y,⇑(cT L),o3,o4,Z,⇑(.lst [.sh (zV p)])]:=by
 let h1:(aH B w).length=w.length+1:=by simp[aH]
 show EK (λm U=>∃(F:List Nat)(v:Nat),aC (aB B w) w.length v m/\F++aW B w m v=aW B w d p/\F.length+m<=d/\U=[⇑(.sh (.lst (aH B w))),Y,⇑(cT L),o3,o4,Z,⇑(.lst (((F.map zV).map .sh)++[.sh (.int (v:Int))]))]) d #[[],p,hd,rfl,by simp,rfl] λm U hJ=>?_;let#[F,v,G,hw,h8,rfl]:=hJ;let h6:v<=w.length:=DC (Cw G.1);let e1:(((w.length+1:Nat):Int)-1)=(w.length:Int):=∅
 simp! [EX,h1,e1];cases m with
 |zero=>
  let:=Eo G;subst this;simp! [mM,decide_true,Bool.not_true];let e2:((F.map zV).map S.sh)++[S.sh (.int (w.length:Int))]=((aW B w d p).map zV).map S.sh:=by rw[<-hw];simp[aW,zV]
  rw[e2];show h7
 |succ m=>
  have h4:¬(v:Int)=(w.length:Int):=λz=>by
   let:v=w.length:=∅
   subst this;let:=JX G;lia
  let h9:d<=w.length+1:=by let:=ID M hd;let:=Dk M.right;lia
  rw[qV h4];simp! [mL,rF,EX,DU h6];let#[r,hr,hn]:=Et G;show Hr (n:=7) (toD:=zV) (nb B w v) (λq=>if ↥(fK (aB B w) w.length q+1=fK (aB B w) w.length v)=true then ⇑(.sh (zV q))else none) (λq h3 l o K hl J=>?_) λo=>?_
  .obtain⟨k,hk⟩:=zaF.mp ((Cw G.1).step (zaI.mp h3));simp! [eB,zV,cT,zfB,Kp M hk,Kp M G,EX,lT];let h5:=Dl (B:=B) (w:=w) (p:=v);let eq:↥(fK (aB B w) w.length q+1=fK (aB B w) w.length v)=↥((k:Int)=((m+1:Nat):Int)-1):=by rw[Df hk,Df G];exact decide_eq_decide.mpr ∅
   rw[eq]at J;cases q2:↥((k:Int)=((m+1:Nat):Int)-1)
   .rw[q2]at J;simp! [ja];let:=J ⇑(.sh (.int (q:Int)));rw[zk ⋯,toList_none,qB]at this;show this
   .rw[q2]at J;simp! [jV,lT];show#[by simp only[bP];lia,J _]
  .let h5:=Dl (B:=B) (w:=w) (p:=v);rw[Gn (λq=>↥(fK (aB B w) w.length q+1=fK (aB B w) w.length v)) (λq=>S.sh (zV q)),hr];let h2:(aG B w v::r).Pairwise (·<·):=by rw[<-hr];exact zbI.filter _
   let eb:fX [.lst (zV (aG B w v)::r.map zV)]=⇑(.sh (.int ((aG B w v:Nat):Int))):=by show(cQ _).bind _=_;rw[show(zV (aG B w v)::r.map zV)=((aG B w v::r).map λq=>((q:Nat):Int)).map D.int by rw[qH];rfl,Eu,bind_some,LZ h2];rfl
   rw[show((aG B w v::r).map λq=>S.sh (zV q))=((aG B w v::r).map zV).map S.sh by rw[qH];rfl];simp! [zan,eb,length_append,length_map,length_singleton,length_cons,length_nil];show#[by simp only[bP];lia,DV (m':=m) ∅ #[F++[v],aG B w v,hn,?_,by rw[qq,qE];lia,?_]]
   .rw[<-hw];show F++[v]++aW B w m (aG B w v)=F++(v::aW B w m (aG B w v));simp
   .simp[zV,cT]
def Lr{B:List Wd}{w:Wd}{p:Nat}(F:w.length<=60)(hp:p<=w.length)
  (h1:∀d,aC (aB B w) w.length p d->P (.sh (.tup ((aW B w d p).map zV))) [.sh (.lst (aH B w)),.sh (.int (p:Int))])
  (h2:¬aX (aB B w) w.length p->P (.sh (.tup [])) [.sh (.lst (aH B w)),.sh (.int (p:Int))]):pU [.sh (.lst (aH B w)),.sh (.int (p:Int))] P PX:=by
 let G:(aH B w).length=w.length+1:=by simp[aH]
 let Z:(((w.length+1:Nat):Int)-1)=(w.length:Int):=∅
 show AM rfl rfl ?_;simp! [G,Z];show Wm F λL o4 o5 J=>?_;by_cases Y:aX (aB B w) w.length p
 .obtain⟨d,v⟩:=zaF.mp Y;let M:=GA (vs:=dN L) #[d,J.done v];simp! [cT,zfB,M];show UO F J v ?_;simp! [zan];show h1 d v
 .let M:=Gr (vs:=dN L) (L:=L) (q:=p) λ⟨d,v⟩=>Y (zaF.mpr #[d,J.right.ok _ v]);simp! [cT,zfB,M];show h2 Y
def Nk{B:List Wd}{w:Wd}{D':Ends}{s1 s3 o5 J:Option S}{L qu:TS}(r1:w.length<=60)(hq:bM (aB B w) w.length L qu)
  (hp:∀(v bh:TS)(o5 J:Option S),bM (aB B w) w.length v bh->v.length=L.length+bh.length->D'.nx [⇑(.sh (.lst (aH B w))),s1,⇑(cT v),s3,⇑(.lst ((aM bh).map .sh)),o5,J]):
  cV (zJ 5) kE (aM qu) D' [⇑(.sh (.lst (aH B w))),s1,⇑(cT L),s3,⇑(.lst []),o5,J]:=by
 show Bo (toD:=λt:Nat×Nat=>zV t.1) (λh1 U=>∃(v bh:TS)(o5 J:Option S),bM (aB B w) w.length v (qu.drop h1.length++bh)/\v.length=L.length+bh.length/\U=[⇑(.sh (.lst (aH B w))),s1,⇑(cT v),s3,⇑(.lst ((aM bh).map .sh)),o5,J]) qu (λh1 t M D2 U e hI e1 hl hs hm=>?_) (λU hI=>?_) #[L,[],o5,J,↑hq,by simp,rfl]
 .obtain⟨L1,bh,o5,J,h5,hk,rfl⟩:=hI;let hx:qu.drop h1.length=t::M:=by rw[<-e];simp
  let h6:qu.drop (h1++[t]).length=M:=by rw[<-e];simp
  rw[hx]at h5;let h4:=h5.take;let e4:t.1<=w.length:=DC (Cw (h5.right.ok t h4.tin).1);simp! [uW,zV,DU e4];show Bo (toD:=zV) (λh2 U=>∃(v F:TS)(J:Option S),pD (aB B w) w.length v (M++F) t h2/\v.length=L.length+F.length/\U=[⇑(.sh (.lst (aH B w))),s1,⇑(cT v),s3,⇑(.lst ((aM F).map .sh)),⇑(.sh (.int (t.1:Int))),J]) (nb B w t.1) (λh2 q h7 D3 U e2 hI h3 hb hi hc=>?_) (λU hI=>?_) #[L1,bh,J,h4,hk,rfl]
  .obtain⟨v,F,J,G,Y,rfl⟩:=hI;let h8:q∈nb B w t.1:=by rw[<-e2];simp
   let hr:aB B w t.1 q:=zaI.mp h8;let ha:=Dk G.right;by_cases Z:∃d,(q,d)∈v
   .let hn:=GA (vs:=dN v) Z;simp! [nW,zV,cT,zfB,hn,zan];let#[d,hd]:=Z;show h3 _ #[v,F,_,G.skip hd,Y,rfl]
   .let hn:=Gr (vs:=dN v) Z;let e3:lk (aM v) (dN v) (.int (t.1:Int))=⇑(.int (t.2:Int)):=Fs (f:=zV) G.right.nd (show(t.1,t.2)∈v from G.tin);simp! [nW,zV,cT,zfB,hn,e3,zan];let k1:(aM v).length=v.length:=by simp[aM]
    let k2:((aM F).map S.sh).length=F.length:=by simp[aM]
    show#[KA G.right.nd,by rw[k1];simp only[bP];lia,by rw[k2];simp only[bP];lia,?_];rw[LO λd hd=>Z #[d,hd]];show h3 _ #[v++[(q,t.2+1)],F++[(q,t.2+1)],⇑(.sh (.int (q:Int))),by rw[<-qp];show G.put hr (λe he=>Z #[e,he]),by simp only[qq,qE];lia,?_];simp[cT,aM,dN,zV]
  .obtain⟨v,F,J,G,Y,rfl⟩:=hI;show e1 _ #[v,F,_,_,by rw[h6];show G.queue λq hq=>zaI.mpr hq,Y,rfl]
 .obtain⟨v,bh,o5,J,h9,Y,rfl⟩:=hI;show hp v bh o5 J ↑h9 Y
def Xi{B:List Wd}{w:Wd}(J:w.length<=60)
  (h:∀L:TS,bM (aB B w) w.length L []->P (cT L) [.sh (.lst (aH B w)),.sh (.int (w.length:Int))]):jy [.sh (.lst (aH B w)),.sh (.int (w.length:Int))] P PX:=by
 show AM rfl rfl ?_;simp! [zan];show EK (λm U=>∃(L F:TS)(s3:S)(o4 o5 Z:Option S),(s3=.sh (.lst (aM F))\/s3=.lst ((aM F).map .sh))/\bM (aB B w) w.length L F/\m+2*L.length=2*(w.length+1)+F.length/\m<=2*(w.length+1)/\U=[⇑(.sh (.lst (aH B w))),⇑(.sh (.int (w.length:Int))),⇑(cT L),⇑s3,o4,o5,Z]) (2*(w.length+1)-1) #[[(w.length,0)],[(w.length,0)],_,none,none,none,Or.inl rfl,bM.start,by simp;lia,∅,rfl] λm U hJ=>?_;let#[L,F,s3,o4,o5,Z,h3,G,hm,h4,rfl]:=hJ;let h5:=Dk G.right;cases F with
 |nil=>
  rcases h3 with rfl|rfl
  .simp! [mM,aM,map_nil,show fB (.lst [])=⇑false from rfl];show h L G
  .simp! [mM,aM,map_nil,zan,show fB (.lst [])=⇑false from rfl];show h L G
 |cons t F=>
  rcases h3 with rfl|rfl
  .simp! [mL,nV,zan,show fB (.lst (aM (t::F)))=⇑true from rfl];show Nk J G λY M o5 Z v h1=>?_;let h2:=Dk v.right;simp! [zan];rw[qt]at hm;show DV (m':=2*(w.length+1)+M.length-2*Y.length) ∅ #[Y,M,_,_,_,_,Or.inl rfl,v,∅,∅,rfl]
  .simp! [mL,nV,zan,show fB (.lst (aM (t::F)))=⇑true from rfl];show Nk J G λY M o5 Z v h1=>?_;let h2:=Dk v.right;simp! [zan];rw[qt]at hm;show DV (m':=2*(w.length+1)+M.length-2*Y.length) ∅ #[Y,M,_,_,_,_,Or.inl rfl,v,∅,∅,rfl]
def KY{B:List Wd}{w:Wd}{L:TS}(v:bM (aB B w) w.length L []){q d:Nat}(h:aC (aB B w) w.length q d):lk (aM L) (dN L) (.int (q:Int))=⇑(.int (d:Int)):=Fs (f:=zV) v.right.nd (v.done h)
def Sq{B:List Wd}{w:Wd}{D':Ends}{s0:Option S}{L:TS}{p:Nat}(h7:w.length<=60)(M:bM (aB B w) w.length L []){d:Nat}(hd:aC (aB B w) w.length p d)
  (h4:∀o4,D'.nx [s0,⇑(.sh (.str w)),⇑(.sh (.lst (aH B w))),⇑(.sh (.dct false (aM L) (dN L))),o4,⇑(.lst (((aW B w d p).map zV).map .sh))]):
  dH (aJ eT (zG 4) (wB aN (zH (zG 1) zI))) kF D' [s0,⇑(.sh (.str w)),⇑(.sh (.lst (aH B w))),⇑(.sh (.dct false (aM L) (dN L))),⇑(.sh (.int (p:Int))),⇑(.lst [.sh (zV p)])]:=by
 show EK (λm U=>∃(F:List Nat)(v:Nat),aC (aB B w) w.length v m/\F++aW B w m v=aW B w d p/\F.length+m<=d/\U=[s0,⇑(.sh (.str w)),⇑(.sh (.lst (aH B w))),⇑(.sh (.dct false (aM L) (dN L))),⇑(.sh (.int (v:Int))),⇑(.lst (((F.map zV).map .sh)++[.sh (.int (v:Int))]))]) d #[[],p,hd,rfl,by simp,rfl] λm U hJ=>?_;let#[F,v,G,hw,h5,rfl]:=hJ;let h3:v<=w.length:=DC (Cw G.1);simp! [e_C];cases m with
 |zero=>
  let:=Eo G;subst this;simp! [mM,decide_true,Bool.not_true];let e2:((F.map zV).map S.sh)++[S.sh (.int (w.length:Int))]=((aW B w d p).map zV).map S.sh:=by rw[<-hw];simp[aW,zV]
  rw[e2];show h4 _
 |succ m=>
  have h1:¬(v:Int)=(w.length:Int):=λz=>by
   let:v=w.length:=∅
   subst this;let:=JX G;lia
  let h6:d<=w.length+1:=by let:=ID M hd;let:=Dk M.right;lia
  rw[qV h1];simp! [mL,uX,DU h3];let#[r,hr,hn]:=Et G;show Hr (n:=6) (toD:=zV) (nb B w v) (λq=>if ↥(fK (aB B w) w.length q+1=fK (aB B w) w.length v)=true then ⇑(.sh (zV q))else none) (λq Z l o K hl J=>?_) λo=>?_
  .obtain⟨k,hk⟩:=zaF.mp ((Cw G.1).step (zaI.mp Z));simp! [eB,zV,KY M hk,KY M G,nX];let h2:=Dl (B:=B) (w:=w) (p:=v);let eq:↥(fK (aB B w) w.length q+1=fK (aB B w) w.length v)=↥((k:Int)=((m+1:Nat):Int)-1):=by rw[Df hk,Df G];exact decide_eq_decide.mpr ∅
   rw[eq]at J;cases q2:↥((k:Int)=((m+1:Nat):Int)-1)
   .rw[q2]at J;simp! [ja];let:=J ⇑(.sh (.int (q:Int)));rw[zk ⋯,toList_none,qB]at this;show this
   .rw[q2]at J;simp! [jV,nX];show#[by simp only[bP];lia,J _]
  .let h2:=Dl (B:=B) (w:=w) (p:=v);rw[Gn (λq=>↥(fK (aB B w) w.length q+1=fK (aB B w) w.length v)) (λq=>S.sh (zV q)),hr];let Y:(aG B w v::r).Pairwise (·<·):=by rw[<-hr];exact zbI.filter _
   let eb:fX [.lst (zV (aG B w v)::r.map zV)]=⇑(.sh (.int ((aG B w v:Nat):Int))):=by show(cQ _).bind _=_;rw[show(zV (aG B w v)::r.map zV)=((aG B w v::r).map λq=>((q:Nat):Int)).map D.int by rw[qH];rfl,Eu,bind_some,LZ Y];rfl
   rw[show((aG B w v::r).map λq=>S.sh (zV q))=((aG B w v::r).map zV).map S.sh by rw[qH];rfl];simp! [zan,eb,length_append,length_map,length_singleton,length_cons,length_nil];show#[by simp only[bP];lia,DV (m':=m) ∅ #[F++[v],aG B w v,hn,?_,by rw[qq,qE];lia,?_]]
   .rw[<-hw];show F++[v]++aW B w m (aG B w v)=F++(v::aW B w m (aG B w v));simp
   .simp[zV]
def WJ{B:List Wd}{w:Wd}(Y:uD B w)
  (h1:∀d,d<=w.length->aC (aB B w) w.length 0 d->P (.sh (.tup ((aW B w d 0).map zV))) [.sh (zQ B),.sh (.str w)])
  (h2:¬aX (aB B w) w.length 0->P (.sh .non) [.sh (zQ B),.sh (.str w)]):jz [.sh (zQ B),.sh (.str w)] P PX:=by
 let h3:=Y.tw;show AM rfl rfl ?_;simp! [e_C];show Xj Y ?_;simp! [zan];show Xi ∅ λL G=>?_;simp! [zan,cT];by_cases v:∃d,(0,d)∈L
 .let J:=GA (vs:=dN L) v;let#[d,M]:=v;let F:=G.right.ok _ M;simp! [show mI (.int 0) (.dct false (aM L) (dN L))=⇑true from J];show Sq (p:=0) ∅ G F λo4=>?_;simp! [zan];show h1 d (by let:=ID G F;let:=Dk G.right;lia) F
 .let J:=Gr (vs:=dN L) v;simp! [show mI (.int 0) (.dct false (aM L) (dN L))=⇑false from J];show h2 λZ=>by let#[d,M]:=zaF.mp Z;show v #[d,G.done M]
def JY{B:List Wd}{w:Wd}:∀{d p:Nat},aC (aB B w) w.length p d->∀x∈aW B w d p,x<=w.length
 |0,p,h,x,v=>by rw[show aW B w 0 p=[p] from rfl,qv]at v;subst v;show DC (Cw h.1)
 |d+1,p,h,x,v=>by
  rcases qC.mp (show x∈p::aW B w d (aG B w p) from v)with rfl|v
  .show DC (Cw h.1)
  .obtain⟨_,_,F⟩:=Et h;show JY F x v
def Fm(B:List Wd)(w:Wd):∀d p,(aW B w d p).length=d+1
 |0,_=>rfl
 |d+1,p=>by rw[show aW B w (d+1) p=p::aW B w d (aG B w p) from rfl,qt,Fm B w d]
def KU{B:List Wd}{w:Wd}{p d:Nat}(hd:aC (aB B w) w.length p d):d<=w.length:=by
 have G:∀k,k<=d->∃q,aC (aB B w) w.length q k:=λk Y=>Im hd k Y;let L:∀m,m<=d+1->∃l:List Nat,l.length=m/\l.Nodup/\∀q∈l,q<=w.length/\∃k,k<m/\aC (aB B w) w.length q k:=by
  intro m;induction m with
  |zero=>show λ_=>#[[],rfl,by simp,by simp]
  |succ m Z=>
   intro hm;let#[l,h1,h2,J]:=Z ∅;let#[q,M]:=G m ∅;show#[q::l,by simp[h1],qO.mpr #[λhc=>?_,h2],λx F=>?_]
   .obtain⟨_,k,Y,v⟩:=J q hc;let:=Fj M v;lia
   .rcases qC.mp F with rfl|F
    .show#[DC (Cw M.1),m,∅,M]
    .obtain⟨h4,k,Y,v⟩:=J x F;show#[h4,k,∅,v]
 let#[l,h1,h2,J]:=L (d+1) ∅;let:=DB l (List.range (w.length+1)) h2 λx F=>qM.mpr (by let:=(J x F).1;lia);rw[h1,qG]at this;lia
def RB{l:List Nat}(h:0<l.length):eK (.tup (l.map zV)) (.tup [])=⇑false:=by
 unfold eK;rw[zk (by
  let:fL (.tup (l.map zV))=1:=by show bD (l.map zV)+1=1;rw[show l.map zV=(l.map λq=>((q:Nat):Int)).map D.int by rw[qH];rfl,GU]
  rw[this];show λz=>by cases l<;>show Bool.noConfusion (show false=true from z))]
 cases l with
 |nil=>cases h
 |cons a l=>show congrArg some ?_;rw[decide_eq_false_iff_not];show λz=>by cases z
def Tj:eK (.tup []) (.tup [])=⇑true:=by unfold eK;rw[zk ⋯];simp
open Classical in
def kD(B:List Wd)(w:Wd):Option D:=if∃d,aC (aB B w) w.length 0 d then ⇑(.tup ((aW B w (fK (aB B w) w.length 0) 0).map zV))else none
def LU{B:List Wd}{w:Wd}{d:Nat}(h:aC (aB B w) w.length 0 d):kD B w=⇑(.tup ((aW B w d 0).map zV)):=by unfold kD;rw[zj #[d,h],Df h]
def Qq{B:List Wd}{w:Wd}(h:¬aX (aB B w) w.length 0):kD B w=none:=by unfold kD;rw[zk λz=>h (zaF.mpr z)]
def cw:Wd:=[102,105,120,101,115]
def cx:Wd:=[102,97,108,108,115]
def dB(B:List Wd):Nat->List D->List Wd->D
 |_,z9,[]=>.tup [.str cw,.tup z9]
 |k,z9,w::O=>match kD B w with
  |none=>.tup [.str cx,.int (k:Int)]
  |some x=>dB B (k+1) (z9++[x]) O
def Uz{B:List Wd}{w:Wd}{O:List Wd}{k:Nat}{v:List D}(h:kD B w=none):dB B k v (w::O)=.tup [.str cx,.int (k:Int)]:=by rw[dB];rw[h]
def Nr{B:List Wd}{w:Wd}{O:List Wd}{k:Nat}{v:List D}{x:D}(h:kD B w=⇑x):dB B k v (w::O)=dB B (k+1) (v++[x]) O:=by rw[dB];rw[h]
def iX:Nat->List Wd->List (Nat×Wd)
 |_,[]=>[]
 |k,w::O=>(k,w)::iX (k+1) O
def tm(p:Nat×Wd):D:=.tup [.int (p.1:Int),.str p.2]
def Mz:∀(O:List Wd)(k:Nat),cE k (O.map D.str)=(iX k O).map tm
 |[],_=>rfl
 |w::O,k=>by show D.tup [.int (k:Int),.str w]::cE (k+1) (O.map D.str)=_;rw[Mz O (k+1)];rfl
def KB:∀(O:List Wd)(k:Nat)(v:List (Nat×Wd))(t:Nat×Wd)(F:List (Nat×Wd)),v++t::F=iX k O->t.1=k+v.length/\O.drop v.length=t.2::O.drop (v.length+1)/\t.2∈O/\v.length<O.length
 |[],k,v,t,F,h=>by simp[iX]at h
 |w::O,k,[],t,F,h=>by rw[nil_append,iX,List.cons.injEq]at h;let#[rfl,_]:=h;simp
 |w::O,k,p::v,t,F,h=>by rw[qR,iX,List.cons.injEq]at h;let#[h1,h2,G,J]:=KB O (k+1) v t F h.2;show#[by rw[h1,qt];lia,↑h2,qk _ G,by simp;lia]
def LX:∀(O:List Wd)(k:Nat),(iX k O).length=O.length
 |[],_=>rfl
 |w::O,k=>by rw[iX,qt,LX O,qt]
structure Bd(B:List Wd):Prop where
 nd:B.Nodup
 ok:∀x∈B,x≠[]/\x.length<=6
 six:B.length<=6
def Bd.fit{B:List Wd}{w:Wd}(h:Bd B)(F:w.length<=12):uD B w:=#[h.nd,λx v=>(h.ok x v).1,λx v=>by let:=(h.ok x v).2;lia,h.six,F]
def Vq{B O:List Wd}(hB:Bd B)(hO:Bd O)
  (h:P (.sh (dB B 0 [] O)) [.sh (zQ B),.sh (zQ O)]):jw [.sh (zQ B),.sh (zQ O)] P PX:=by
 let h6:=hO.six;show AM rfl rfl ?_;simp! [zQ];rw[Mz];show Bo (λF U=>∃(v:List D)(Y M L:Option S),v.length=F.length/\dB B F.length v (O.drop F.length)=dB B 0 [] O/\U=[⇑(.sh (zQ B)),⇑(.sh (zQ O)),⇑(.lst (v.map .sh)),Y,M,L]) (iX 0 O) (λF t J D2 U e hI h1 h3 Z h4=>?_) (λU hI=>?_) #[[],none,none,none,rfl,rfl,rfl]
 .obtain⟨v,Y,M,L,hl,G,rfl⟩:=hI;let#[t1,t2,t3,t4]:=KB O 0 F t J e;let t6:=(hO.ok _ t3).2;rw[t2]at G;simp! [tm,length_cons,length_nil,uU];refine WJ (hB.fit ∅) (λd hd h2=>?_) λhn=>?_
  .rw[Nr (LU h2)]at G;simp! [show pK (.tup ((aW B t.2 d 0).map zV)) .non=⇑false by simp[pK],qo];show#[by simp only[bP];lia,h1 _ #[v++[.tup ((aW B t.2 d 0).map zV)],⇑(.sh (.int (t.1:Int))),⇑(.sh (.str t.2)),⇑(.sh (.tup ((aW B t.2 d 0).map zV))),by simp[hl],by rw[<-G];simp,?_]];simp[zQ]
  .rw[Uz (Qq hn)]at G;simp! [show pK .non .non=⇑true by simp[pK]];rw[Z];simp! [e_C];rw[<-G]at h;rw[t1,zero_add];show h
 .obtain⟨v,Y,M,L,hl,G,rfl⟩:=hI;rw[LX]at G;rw[drop_length]at G;rw[<-G]at h;simp! [zan];show h
def VY{n:Nat}{f:Nat->Nat}:atI ((eI n f).map S.sh) (-1)=⇑(.sh (.int ((f n:Nat):Int))):=by unfold eI;rw[List.range_succ,map_append,map_append];show EX
def Xd{B:List Wd}{b:D}{w:Wd}(v:∀z,fO (.str z) b=⇑↥(z∈B))(F:w.length<=12)
  (h:P (.sh (.bl ↥(fG B w w.length=0))) [.sh b,.sh (.str w)]):pS [.sh b,.sh (.str w)] P PX:=by
 show AM rfl rfl ?_;simp! [e_C];show Nn v ∅ ?_;simp! [zan];show Xb ∅ ?_;let e:↥(((fG B w w.length:Nat):Int)=0)=↥(fG B w w.length=0):=decide_eq_decide.mpr ∅;simp! [VY,e];show h
def WC{B:List Wd}{w:Wd}(v:w.length<=12)
  (h:P (.sh (.bl ↥(fG B w w.length=0))) [.sh (zQ B),.sh (.str w)]):pS [.sh (zQ B),.sh (.str w)] P PX:=Xd (λ_=>Mh) v h
def Wu{a s many v:Int}{F:List Nat}{B:List Wd}(Y:0<=a)(hs:1<=s)(G:s<=2147483629)(hc:0<F.length)(h9:F.length<=26)(hm:0<=many)(hi:many<=500)(ho:0<=v)(hp:v<=12)(hB:B.length<=1000)(hw:∀w∈B,w.length<=1000/\∀c∈w,c∈F)
  (h:∀(A:List Wd) a' s',gR F many.toNat v.toNat A->(∀w∈A,kS B w)->0<=a'->1<=s'->s'<=2147483629->P (.sh (zQ A)) [aT a' s',.sh (zQ B),.sh (.str F),.sh (.int many),.sh (.int v)]):uG [aT a s,.sh (zQ B),.sh (.str F),.sh (.int many),.sh (.int v)] P PX:=by
 show AM rfl rfl ?_;simp! [aT];show Bk Y hs G ∅ ∅ λr a1 s1 hr e4 e1 h6 h2=>?_;simp! [aT];show#[by simp only[bP];lia,?_];rw[Ba (n:=r.toNat) ∅];show Bo (λh1 U=>∃(A:List Wd)(a s:Int)(o6 Z:Option S),gR F h1.length v.toNat A/\(∀w∈A,kS B w)/\0<=a/\1<=s/\s<=2147483629/\U=[⇑(.lst [.sh (.int a),.sh (.int s)]),⇑(.sh (zQ B)),⇑(.sh (.str F)),⇑(.sh (.int many)),⇑(.sh (.int v)),⇑(.lst ((A.map D.str).map .sh)),o6,Z]) (List.range r.toNat) (λh1 k e2 D2 U e hI h3 hl e3 hd=>?_) (λU hI=>?_) #[[],a1,s1,none,none,#[by simp,by simp,by simp],by simp,e1,h6,h2,rfl]
 .obtain⟨A,a,s,o6,Z,L,hF,Y,hs,G,rfl⟩:=hI;let hk:=GL e;let hq:=L.1;simp! [rE];show LG Y hs G hc h9 ho ∅ hB hw λt a2 s2 ht h5 h4 G M=>?_;let skip:∀Z,D2.nx [⇑(.lst [.sh (.int a2),.sh (.int s2)]),⇑(.sh (zQ B)),⇑(.sh (.str F)),⇑(.sh (.int many)),⇑(.sh (.int v)),⇑(.lst ((A.map D.str).map .sh)),⇑(.sh (.int (k:Int))),Z]:=λZ=>h3 _ #[A,a2,s2,_,_,#[by rw[qq];lia,L.2.1,L.2.2],hF,h4,G,M,rfl];simp! [aT];cases q1:↥(t=[])
  .simp! [zan,Lp];cases q2:↥(t∈A)
   .simp! [e_C];show WC ∅ ?_;cases q3:↥(fG B t t.length=0)
    .simp! [e_C];show skip _
    .simp! [length_map];let h8:=of_decide_eq_false q1;let h7:=of_decide_eq_false q2;let hz:=qX q3;refine#[by simp only[bP];lia,h3 _ #[A++[t],a2,s2,⇑(.sh (.int (k:Int))),⇑(.sh (.str t)),#[by simp;lia,?_,λx J=>?_],λx J=>?_,h4,G,M,by simp]]
     .rw[qx];show#[L.2.1,by simp,λa Y b hb e=>by simp at hb;subst hb;subst e;show h7 Y]
     .rcases qz.mp J with J|J
      .show L.2.2 x J
      .simp at J;subst J;show#[h8,ht,h5]
     .rcases qz.mp J with J|J
      .show hF x J
      .simp at J;subst J;show zhB.mp hz
   .simp! [e_C];show skip _
  .simp! [e_C];show skip _
 .obtain⟨A,a,s,o6,Z,L,hF,Y,hs,G,rfl⟩:=hI;rw[qG]at L;simp! [zan];show h A a s #[by let:=L.1;lia,L.2.1,L.2.2] hF Y hs G
def Qh{t:Bool}{ks:List D}{l:List S}{k:D}{s:S}(h:k∉ks):cM t ks l k s=.dct t (ks++[k]) (l++[s]):=by
 unfold cM;let:mH ks k=none:=by unfold mH;rw[List.findIdx?_eq_none_iff];intro x v;simp only[decide_eq_false_iff_not];show λz=>h (z▸v)
 rw[this]
def iG(t:Tr):D:=.tup [.int (t.1:Int),.int (t.2.1:Int)]
def mR(ts:List Tr):S:=.dct true (ts.map iG) ((ts.map λt=>zV t.2.2).map .sh)
def Ql{t u:Tr}(h:iG t=iG u):t.1=u.1/\t.2.1=u.2.1:=by unfold iG at h;simp only[D.tup.injEq,List.cons.injEq,D.int.injEq,and_true]at h;lia
def JH{B:List Wd}{w:Wd}:((bH B w).map iG).Nodup:=by unfold List.Nodup;rw[pairwise_map];show zb9.imp λ{t u} h e=>?_;let:=Ql e;lia
def NO{B:List Wd}{w:Wd}(hf:uD B w)(h2:(bH B w).length<64)
  (h:P (mR (bH B w)) [.sh (zQ B),.sh (.str w)]):jc [.sh (zQ B),.sh (.str w)] P PX:=by
 show AM rfl rfl ?_;simp! [e_C];show NU hf ?_;simp! [zan];show HC (λv U=>∃L J G:Option S,U=[⇑(.sh (zQ B)),⇑(.sh (.str w)),⇑(mR v),L,J,G]) (bH B w) (λv t Z K U e Y hK=>?_) (λU Y=>?_) #[none,none,none,rfl]
 .obtain⟨L,J,G,rfl⟩:=Y;let F:=JH (B:=B) (w:=w);rw[<-e,map_append,qA]at F;let#[n1,n2,n3]:=qx.mp F;let h1:v.length<64:=by let:=congrArg List.length e;rw[qq]at this;lia
  simp! [eB,jV,jt,vD,mR,length_cons,length_nil,length_map];show#[rfl,n1,by simp only[bP];lia,?_];let M:D.tup [.int (t.1:Int),.int (t.2.1:Int)]∉v.map iG:=λz=>n3 _ z (iG t) (qm ..) rfl;rw[Qh M];let:=hK _ #[⇑(.sh (.int (t.1:Int))),⇑(.sh (.int (t.2.1:Int))),⇑(.sh (.int (t.2.2:Int))),rfl];unfold mR at this;simp only[map_append,qA,map_nil]at this;show this
 .obtain⟨L,J,G,rfl⟩:=Y;simp! [e_C];show h
def cA(B:List Wd)(w:Wd)(p q:Int):Bool:=(bH B w).any λt=>↥((t.1:Int)=min p q)&&↥((t.2.1:Int)=max p q)
def pairsOf(ns:List Int):List (Int×Int):=ns.zip (ns.drop 1)
def mZ(B:List Wd)(w:Wd)(ns:List Int):Bool:=↥(ns.head?=some 0)&&(↥(ns.getLast?=⇑(w.length:Int))&&(pairsOf ns).all λp=>cA B w p.1 p.2)
def Qx{B:List Wd}{w:Wd}{p q:Int}{vs:List D}:mI (.tup [.int (if q<p then q else p),.int (if q>p then q else p)]) (.dct true ((bH B w).map iG) vs)=⇑(cA B w p q):=by
 let G:(if q<p then q else p)=min p q:=by split<;>lia
 let F:(if q>p then q else p)=max p q:=by split<;>lia
 rw[G,F];unfold mI;dsimp only;rw[zj (show cL true (D.tup [.int (min p q),.int (max p q)])=true from rfl)];congr 1;rw[Bool.eq_iff_iff];simp only[decide_eq_true_iff,qN];unfold cA;rw[any_eq_true];constructor
 .rintro⟨t,v,e⟩;unfold iG at e;simp only[D.tup.injEq,List.cons.injEq,D.int.injEq,and_true]at e;show#[t,v,by rw[qU e.1,qU e.2];rfl]
 .rintro⟨t,v,e⟩;rw[and_eq_true,decide_eq_true_iff,decide_eq_true_iff]at e;show#[t,v,by unfold iG;rw[e.1,e.2]]
def tj(p:Int×Int):D:=.tup [.int p.1,.int p.2]
def Kt:∀l m:List Int,dR (l.map D.int) (m.map D.int)=(l.zip m).map tj
 |[],m=>by cases m<;>rfl
 |x::l,[]=>rfl
 |x::l,y::m=>by show D.tup [.int x,.int y]::dR (l.map D.int) (m.map D.int)=_;rw[Kt l m];rfl
def Ub{B:List Wd}{w:Wd}{ns:List Int}(hf:uD B w)(h2:(bH B w).length<64)(hl:ns.length<=2000)
  (h:P (.sh (.bl (mZ B w ns))) [.sh (zQ B),.sh (.str w),.sh (.tup (ns.map D.int))]):jx [.sh (zQ B),.sh (.str w),.sh (.tup (ns.map D.int))] P PX:=by
 show AM rfl rfl ?_;cases ns with
 |nil=>simp! [length_map,length_nil,Int.natCast_zero];show h
 |cons x r=>
  let#[y,h4,G,h3]:=Hd (l:=x::r) (by simp);let e0:atI ((x::r).map D.int) 0=⇑(D.int x):=Cv ⋯ rfl;let e1:atI ((x::r).map D.int) (-1)=⇑(D.int y):=by let#[v,_,J,Z]:=Hd (l:=(x::r).map D.int) (by simp);rw[getLast?_map,G]at J;rw[Z,<-J];rfl
  let en:↥((((x::r).length:Nat):Int)=0)=false:=qV (by rw[qt];lia);let hz:mZ B w (x::r)=(↥(x=0)&&(↥(y=(w.length:Int))&&(pairsOf (x::r)).all λp=>cA B w p.1 p.2)):=by unfold mZ;rw[G,List.head?_cons];simp
  rw[hz]at h;let no:∀b:Bool,b=false->P (.sh (.bl b)) [.sh (zQ B),.sh (.str w),.sh (.tup ((x::r).map D.int))]->P (.sh (.bl false)) [.sh (zQ B),.sh (.str w),.sh (.tup ((x::r).map D.int))]:=λb e k=>e▸k;rw[qt]at hl;generalize F:(x::r).map D.int=xs at*;let Y:xs.length=(x::r).length:=by rw[<-F,qo]
  simp! [Y,en,e0];cases M:↥(x=0)
  .simp! [e_C];rw[M]at h;show h
  .simp! [e1];cases qy:↥(y=(w.length:Int))
   .simp! [e_C];rw[M,qy]at h;show h
   .simp! [e_C];show NO hf h2 ?_;let L:aP xs (some 1) none=(r.map D.int):=by rw[DF _ ⋯,<-F];rfl
    simp! [mR,zan,L];rw[<-F,Kt];show Xo (n:=4) ((x::r).zip r) (λp=>.sh (.bl (cA B w p.1 p.2))) (λp hp l o o' K h1 hK=>?_) λo o'=>?_
    .rw[List.length_zip,qt]at h1;simp! [eB,jV,tj,uV,length_cons,length_nil,Qx];show#[by simp only[bP];lia,hK _ _]
    .rw[show(((x::r).zip r).map λp=>S.sh (.bl (cA B w p.1 p.2)))=((((x::r).zip r).map λp=>cA B w p.1 p.2).map D.bl).map S.sh by simp[Function.comp_def]];simp! [zan,OS];rw[M,qy]at h;rw[List.all_map];rw[<-F]at h;show h
def Io{B:List Wd}{w:Wd}{p q:Nat}(h:aB B w p q):cA B w (p:Int) (q:Int)=true:=by
 let v:∀i j,dP B w i j=true->((i:Int)=min (p:Int) q/\(j:Int)=max (p:Int) q)->cA B w (p:Int) (q:Int)=true:=λi j F e=>by unfold cA;rw[any_eq_true];show#[(i,j,B.idxOf (cJ w i j)),zaK.mpr #[F,rfl],by rw[qU e.1,qU e.2];rfl]
 unfold aB fS at h;rw[or_eq_true]at h;rcases h with h|h
 .let:=(zam.mp h).1;show v p q h ∅
 .let:=(zam.mp h).1;show v q p h ∅
def TL{B:List Wd}{w:Wd}{p q:Int}(h:cA B w p q=true):∃a b:Nat,p=a/\q=b/\aB B w a b:=by
 unfold cA at h;let#[t,F,e]:=any_eq_true.mp h;rw[and_eq_true,decide_eq_true_iff,decide_eq_true_iff]at e;let v:=(zaK.mp F).1;let J:=(zam.mp v).1;by_cases G:p<=q
 .show#[t.1,t.2.1,∅,∅,?_];unfold aB fS;rw[v];rfl
 .show#[t.2.1,t.1,∅,∅,?_];unfold aB fS;rw[v,Bool.or_true]
def bZ(R:Int->Int->Bool):List Int->Bool
 |a::b::r=>R a b&&bZ R (b::r)
 |_=>true
def NB(R:Int->Int->Bool):∀ns:List Int,((pairsOf ns).all λp=>R p.1 p.2)=bZ R ns
 |[]=>rfl
 |[_]=>rfl
 |a::b::r=>by let:=NB R (b::r);show(R a b&&((b::r).zip r).all λp=>R p.1 p.2)=(R a b&&bZ R (b::r));rw[<-this];rfl
def IW{R:Int->Int->Bool}{x:Int}{r:List Int}(h2:bZ R (x::r)=true):∀l:List Int,bZ R (l++[x])=true->bZ R (l++x::r)=true
 |[],_=>h2
 |[a],h1=>by let v:(R a x&&true)=true:=h1;show(R a x&&bZ R (x::r))=true;rw[h2];show v
 |a::b::l,h1=>by let v:(R a b&&bZ R ((b::l)++[x]))=true:=h1;rw[and_eq_true]at v;show(R a b&&bZ R ((b::l)++x::r))=true;rw[v.1,IW h2 (b::l) v.2];rfl
def jZ(B:List Wd)(w:Wd)(d p:Nat):List Int:=(aW B w d p).map λ(q:Nat)=>(q:Int)
def PC(B:List Wd)(w:Wd)(d p:Nat):(aW B w d p).map zV=(jZ B w d p).map D.int:=by unfold jZ;rw[qH];rfl
def LM(B:List Wd)(w:Wd)(d p:Nat):∃r,jZ B w d p=(p:Int)::r/\r.length=d:=by
 cases d with
 |zero=>show#[[],rfl,rfl]
 |succ d=>show#[(aW B w d (aG B w p)).map λ(q:Nat)=>(q:Int),rfl,by rw[qo,Fm]]
def Me{B:List Wd}{w:Wd}{p d:Nat}(h:aC (aB B w) w.length p (d+1)):aB B w p (aG B w p):=by
 let#[r,v,_]:=Et h;let:aG B w p∈(nb B w p).filter λq=>↥(fK (aB B w) w.length q+1=fK (aB B w) w.length p):=by rw[v];simp
 show zaI.mp (mem_filter.mp this).1
def Ly{B:List Wd}{w:Wd}:∀{d p:Nat},aC (aB B w) w.length p d->bZ (cA B w) (jZ B w d p)=true/\∃l,jZ B w d p=l++[(w.length:Int)]
 |0,p,h=>by let:=Eo h;subst this;show#[rfl,[],rfl]
 |d+1,p,h=>by let#[_,_,F]:=Et h;let#[h1,l,h2]:=Ly F;let#[r,v,_]:=LM B w d (aG B w p);let e:jZ B w (d+1) p=(p:Int)::jZ B w d (aG B w p):=rfl;show#[?_,(p:Int)::l,by rw[e,h2];rfl];rw[e,v];rw[v]at h1;show(cA B w p (aG B w p)&&bZ (cA B w) ((aG B w p:Int)::r))=true;rw[h1,Io (Me h)];rfl
def Oj{B:List Wd}{w:Wd}{r l ns:List Int}(h1:ns=0::r)(h2:ns=l++[(w.length:Int)])(v:bZ (cA B w) ns=true):mZ B w ns=true:=by unfold mZ;rw[NB,v,show ns.getLast?=⇑(w.length:Int) by rw[h2];simp,show ns.head?=some 0 by rw[h1];rfl];simp
def Oz{l:List Nat}:eT (.lst (l.map zV)) (.lst [])=⇑(!decide (l=[])):=by rw[show l.map zV=(l.map λ(q:Nat)=>(q:Int)).map D.int by rw[qH];rfl,show(D.lst [])=.lst (([]:List Int).map D.int) from rfl,Mc];congr 2;show decide_eq_decide.mpr (by simp)
def iI(B:List Wd)(w:Wd)(l:List Nat):Prop:=bZ (cA B w) (l.map λ(q:Nat)=>(q:Int))=true/\∀p∈l,p<=w.length
def bK(l:List Nat):D:=.tup (l.map zV)
def IA{l:List Nat}{p:Nat}:atI ((l++[p]).map zV) (-1)=⇑(.int (p:Int)):=by rw[map_append];show EX
def OX{B:List Wd}{w:Wd}{p:Nat}{r:Int}(G:0<=r)(h1:r<(nb B w p).length):∃q,q∈nb B w p/\atI ((nb B w p).map zV) r=⇑(.int (q:Int)):=by let#[v,F,_,e]:=EW (f:=zV) G h1;show#[v,F,e]
def iI.snoc{B:List Wd}{w:Wd}{l:List Nat}{p q:Nat}(h:iI B w (l++[p]))(F:q∈nb B w p):iI B w (l++[p]++[q]):=by
 show#[?_,λx v=>?_]
 .let:=h.1;rw[map_append]at this⊢;rw[map_append,qp];show IW (x:=(p:Int)) (r:=[(q:Int)]) (by show(cA B w p q&&true)=true;rw[Io (zaI.mp F)];rfl) _ this
 .rcases qz.mp v with v|v
  .show h.2 x v
  .rw[qv.mp v];show(Eg F).1
def Qt{B:List Wd}{w:Wd}{D':Ends}{b:WS}{n:Nat}{s4:List (Option S)}{a s:Int}{l:List Nat}{p:Nat}{G:Option S}(hx:w.length<=60)(hn:n<=10)(h3:l.length<=1)(M:0<=a)(L:1<=s)(F:s<=2147483629)(J:iI B w (l++[p]))(hb:b=eD (aJ eT (bX (zG 1) (bX (zG 2) (jW eJ (wC (.int 1))))) (bS zI)) (zU (zJ 2) (zR aQ (zG 2) (cC (zH (bX (bX (zG 1) (bX (zG 2) (jW eJ (wC (.int 1))))) (zT cU [true,true] (zH (zG 0) (zH (wB aN (zH (bX (zG 1) (bX (zG 2) (jW eJ (wC (.int 1))))) zI)) zI)))) zI)))) aO)
  (h5:∀(a s:Int)(m:List Nat)(q:Nat) G,0<=a->1<=s->s<=2147483629->iI B w (m++[q])->m.length<=l.length+n->(∃t,m++[q]=l++[p]++t)->aX (aB B w) p q->D'.nx (⇑(aT a s)::⇑(.sh (.lst (aH B w)))::⇑(.sh (bK (m++[q])))::G::s4)):
  cV (zJ 3) b ((List.range n).map λ(k:Nat)=>D.int (k:Int)) D' (⇑(aT a s)::⇑(.sh (.lst (aH B w)))::⇑(.sh (bK (l++[p])))::G::s4):=by
 subst hb;show Bo (λY U=>∃(a s:Int)(m:List Nat)(q:Nat)(G:Option S),0<=a/\1<=s/\s<=2147483629/\iI B w (m++[q])/\m.length<=l.length+Y.length/\(∃t,m++[q]=l++[p]++t)/\aX (aB B w) p q/\U=⇑(aT a s)::⇑(.sh (.lst (aH B w)))::⇑(.sh (bK (m++[q])))::G::s4) (List.range n) (λY k h6 D2 U e hI h1 e3 h8 e4=>?_) (λU hI=>?_) #[a,s,l,p,G,M,L,F,J,by simp,#[[],by simp],.refl _,rfl]
 .obtain⟨a,s,m,q,G,M,L,F,J,hm,⟨t,ht⟩,hC,rfl⟩:=hI;let hk:=GL e;let hq:q<=w.length:=J.2 q (by simp);let h9:=Dl (B:=B) (w:=w) (p:=q);simp! [bK,aT,IA,DU hq,Oz];cases qn:↥(nb B w q=[])
  .let h7:0<(nb B w q).length:=qS.mpr (of_decide_eq_false qn);simp! [IA,DU hq,length_map];show Bk M L F ∅ ∅ λr a2 s2 hr h2 h4 F Z=>?_;let#[v,hv,ev]:=OX hr h2;let e1:(m++[q]).length<=l.length+11:=by rw[qq,qE];lia
   let e2:l.length<=1:=h3;simp! [aT,ev,length_map,length_cons,length_nil];rw[show(m++[q]).map zV++[D.int (v:Int)]=(m++[q]++[v]).map zV by rw[map_append (l₁:=m++[q])];rfl];show h1 _ #[a2,s2,m++[q],v,_,h4,F,Z,J.snoc hv,by rw[qq,qq,qE,qE];lia,#[t++[v],by rw[ht];simp],hC.step (zaI.mp hv),rfl]
  .simp! [e_C];show h1 _ #[a,s,m,q,_,M,L,F,J,by rw[qq];lia,#[t,ht],hC,rfl]
 .obtain⟨a,s,m,q,G,M,L,F,J,hm,ht,hC,rfl⟩:=hI;rw[qG]at hm;show h5 a s m q G M L F J hm ht hC
def cG(l:List Nat):List Int:=l.map λ(q:Nat)=>(q:Int)
def UN{a s:Int}{B:List Wd}{w:Wd}(ha:0<=a)(hs:1<=s)(F:s<=2147483629)(h4:w.length<=60)
  (h:∀(l:List Nat) a' s',l.length<=w.length+12->((l=[]/\¬aX (aB B w) w.length 0)\/mZ B w (cG l)=true)->0<=a'->1<=s'->s'<=2147483629->P (.sh (bK l)) [aT a' s',.sh (.lst (aH B w))]):uH [aT a s,.sh (.lst (aH B w))] P PX:=by
 show AM rfl rfl ?_;simp! [aT,length_cons,length_nil];show Bk ha hs F ⋯ ⋯ λr a1 s1 hr h6 h3 h1 L=>?_;simp! [aT];show#[by simp only[bP];lia,?_];rw[Ba (n:=r.toNat) ∅];show Qt (l:=[]) (p:=0) h4 ∅ (by simp) h3 h1 L #[rfl,by simp] iK.eq_1 λa2 s2 m q o3 M F G hS hm Z hC=>?_;let hq:q<=w.length:=hS.2 q (by simp);let#[t,Z]:=Z;rw[qw,zero_add]at hm;simp! [bK,IA];show Lr ∅ hq (λd hd=>?_) λhn=>?_
 .have h8:d<=w.length:=KU hd;let#[v,J,h5]:=LM B w d q;let hw:(aW B w d q).map zV=zV q::v.map D.int:=by rw[PC,J];rfl
  let Y:aP ((aW B w d q).map zV) (some 1) none=v.map D.int:=by rw[DF _ ⋯,hw];rfl
  let h7:(m++[q]).length<=10:=by rw[qq,qE];lia
  simp! [aT,RB (show 0<(aW B w d q).length by rw[Fm];lia),Y,qo];let#[k1,l',k2]:=Ly hd;let e1:cG (m++aW B w d q)=cG m++(q:Int)::v:=by unfold cG;rw[map_append];congr 1
  have hz:mZ B w (cG (m++aW B w d q))=true:=by
   let h2:bZ (cA B w) (cG m++(q:Int)::v)=true:=IW (by rw[<-J];show k1) _ (by let:=hS.1;rw[map_append]at this;show this)
   let e2:cG m++(q:Int)::v=(cG m++l')++[(w.length:Int)]:=by rw[<-J,k2,qp]
   have e3:∃r,cG m++(q:Int)::v=0::r:=by
    let:cG (m++[q])=0::cG t:=by rw[Z];rfl
    unfold cG at this;rw[map_append]at this;cases m with
    |nil=>simp only[map_nil,nil_append,qA,List.cons.injEq]at this;show#[v,by unfold cG;rw[map_nil,nil_append,this.1]]
    |cons x m=>simp only[qA,qR,List.cons.injEq]at this;show#[cG m++(q:Int)::v,by unfold cG;rw[qA,qR,this.1]]
   let#[r3,e3]:=e3;rw[e1];show Oj e3 e2 h2
  let:=h (m++aW B w d q) a2 s2 (by rw[qq,Fm];lia) (.inr hz) M F G;rw[show(m++[q]).map zV++v.map D.int=(m++aW B w d q).map zV by rw[map_append,map_append,qp,hw];rfl]
  show this
 .simp! [aT,Tj];show h [] a2 s2 (by simp) (.inl #[rfl,λc=>hn (c.trans hC)]) M F G
def bg(p q:Nat):Wd:=if p<q then[111,110]else[98,97,99,107]
def oK(B:List Wd)(w:Wd)(p q:Nat):Nat:=B.idxOf (cJ w (min p q) (max p q))
def iA(B:List Wd)(w:Wd)(t:Nat×Nat):D:=.tup [.str (bg t.1 t.2),.int (oK B w t.1 t.2:Int)]
def eR(l:List Nat):List (Nat×Nat):=l.zip (l.drop 1)
def ma(t:Nat×Nat):D:=.tup [.int (t.1:Int),.int (t.2:Int)]
def Do(l:List Nat):(eR l).length=l.length-1:=by unfold eR;rw[List.length_zip,qJ];lia
def KM:∀l m:List Nat,dR (l.map zV) (m.map zV)=(l.zip m).map ma
 |[],m=>by cases m<;>rfl
 |x::l,[]=>rfl
 |x::l,y::m=>by show D.tup [.int x,.int y]::dR (l.map zV) (m.map zV)=_;rw[KM l m];rfl
def Pb{l:List Nat}{k:Nat}(h:k+1<l.length):∃p q,l[k]?=⇑p/\l[k+1]?=⇑q/\(eR l)[k]?=⇑(p,q):=by show#[l[k],l[k+1],qh ∅,qh h,?_];unfold eR;rw[List.getElem?_zip_eq_some];show#[qh ∅,by rw[List.getElem?_drop,Nat.add_comm 1 k];show qh h]
open Classical in
def Kf:∀{ts:List Tr}{t:Tr},(ts.map iG).Nodup->t∈ts->lk (ts.map iG) (ts.map λt=>zV t.2.2) (iG t)=⇑(zV t.2.2)
 |[],_,_,h=>nomatch h
 |u::ts,t,hn,h=>by
  rw[qA,qO]at hn;show(if iG u=iG t then ⇑(zV u.2.2)else lk (ts.map iG) (ts.map λt=>zV t.2.2) (iG t))=_;rcases qC.mp h with e|h
  .rw[e,zj rfl]
  .rw[zk λe=>hn.1 (by rw[e];show qN.mpr #[t,h,rfl])];show Kf hn.2 h
def Kl{B:List Wd}{w:Wd}{p q:Nat}(h:dP B w p q=true):lk ((bH B w).map iG) ((bH B w).map λt=>zV t.2.2) (.tup [.int (p:Int),.int (q:Int)])=⇑(zV (B.idxOf (cJ w p q))):=
 Kf (t:=(p,q,B.idxOf (cJ w p q))) JH (zaK.mpr #[h,rfl])
def Wb{B:List Wd}{w:Wd}{l:List Nat}(hf:uD B w)(h2:(bH B w).length<64)(hl:l.length<=900)(ht:∀t∈eR l,aB B w t.1 t.2)
  (h:P (.sh (.tup ((eR l).map (iA B w)))) [.sh (zQ B),.sh (.str w),.sh (bK l)]):jv [.sh (zQ B),.sh (.str w),.sh (bK l)] P PX:=by
 show AM rfl rfl ?_;simp! [e_C];show NO hf h2 ?_;let L:aP (l.map zV) (some 1) none=(l.drop 1).map zV:=by rw[DF _ ⋯,map_drop];rfl
 simp! [mR,zan,bK,L];rw[KM];show Bo (λv U=>∃Z Y:Option S,U=[⇑(.sh (zQ B)),⇑(.sh (.str w)),⇑(.sh (bK l)),⇑(.sh (.dct true ((bH B w).map iG) ((bH B w).map λt=>zV t.2.2))),⇑(.lst ((v.map (iA B w)).map .sh)),Z,Y]) (eR l) (λv t h3 D2 U e hI h1 h6 h5 h7=>?_) (λU hI=>?_) #[none,none,rfl]
 .obtain⟨Z,Y,rfl⟩:=hI;let h4:v.length<=900:=by let:=congrArg List.length e;rw[qq,Do]at this;lia
  let F:=ht t (by rw[<-e];simp);unfold aB fS at F;rw[or_eq_true]at F;let done:∀(M:Wd)(n:Nat),M=bg t.1 t.2->n=oK B w t.1 t.2->D2.nx [⇑(.sh (zQ B)),⇑(.sh (.str w)),⇑(.sh (bK l)),⇑(.sh (.dct true ((bH B w).map iG) ((bH B w).map λt=>zV t.2.2))),⇑(.lst (((v.map (iA B w)).map .sh)++[.sh (.tup [.str M,.int (n:Int)])])),⇑(.sh (.int (t.1:Int))),⇑(.sh (.int (t.2:Int)))]:=λM n e1 e2=>by subst e1 e2;let:=h1 _ #[⇑(.sh (.int (t.1:Int))),⇑(.sh (.int (t.2:Int))),rfl];simp only[map_append,qA,map_nil]at this;show this
  rcases F with J|J
  .let G:=(zam.mp J).1;simp! [ma,nU,length_cons,length_nil,decide_eq_true (show(t.1:Int)<(t.2:Int) by lia),Kl J,length_map];show#[by simp only[bP];lia,done _ _ (by unfold bg;rw[zj G]) ?_];unfold oK;rw[show min t.1 t.2=t.1 by lia,show max t.1 t.2=t.2 by lia]
  .let G:=(zam.mp J).1;simp! [ma,nU,length_cons,length_nil,decide_eq_false (show¬(t.1:Int)<(t.2:Int) by lia),Kl J,length_map];show#[by simp only[bP];lia,done _ _ (by unfold bg;rw[zk ∅]) ?_];unfold oK;rw[show min t.1 t.2=t.2 by lia,show max t.1 t.2=t.1 by lia]
 .obtain⟨Z,Y,rfl⟩:=hI;simp! [zan];show h
def eG(O:List Wd)(s:Wd):List Nat:=aW O s (fK (aB O s) s.length 0) 0
def Gx{O:List Wd}{s:Wd}{d:Nat}(h:aC (aB O s) s.length 0 d):eG O s=aW O s d 0:=by unfold eG;rw[Df h]
def cZ(O:List Wd)(w:Wd)(t:Nat×Nat):List Nat:=if t.1<t.2 then(eG O (cJ w (min t.1 t.2) (max t.1 t.2))).map (min t.1 t.2+·)else((eG O (cJ w (min t.1 t.2) (max t.1 t.2))).map (min t.1 t.2+·)).reverse
def cK(O:List Wd)(w:Wd)(ts:List (Nat×Nat)):List Nat:=ts.flatMap λt=>(cZ O w t).drop 1
@[inline]def Fx(O B:List Wd):Prop:=∀b∈B,∃d,aC (aB O b) b.length 0 d
def Iv{O:List Wd}{s:Wd}(h:∃d,aC (aB O s) s.length 0 d):(eG O s).length<=s.length+1/\∀x∈eG O s,x<=s.length:=by let#[d,v]:=h;rw[Gx v,Fm];let:=KU v;show#[∅,JY v]
def ba(O B:List Wd):List D:=B.map λb=>.tup ((eG O b).map zV)
def Na{O:List Wd}:∀(B:List Wd)(k:Nat)(v:List D),Fx O B->dB O k v B=.tup [.str cw,.tup (v++ba O B)]
 |[],k,v,_=>by rw[dB];simp[ba]
 |b::B,k,v,h=>by let#[d,F]:=h b qm;rw[Nr (LU F),Na B _ _ λb G=>h b (qk _ G),qp];unfold ba;rw[qA,Gx F];rfl
def Ld{f:Nat×Nat->D}:∀l m:List Nat,bW (l.map zV) (m.map zV) ((l.zip m).map f)=(l.zip m).map λt=>D.tup [zV t.1,zV t.2,f t]
 |[],m=>by cases m<;>rfl
 |_::_,[]=>rfl
 |a::l,b::m=>by show D.tup [zV a,zV b,f (a,b)]::bW (l.map zV) (m.map zV) ((l.zip m).map f)=_;rw[Ld l m];rfl
def Ih{O:List Wd}{w:Wd}{t:Nat×Nat}{B:List Wd}(Z:Fx O B)(h6:∀b∈B,b.length<=6)(G:aB B w t.1 t.2):(cZ O w t).length<=7/\∀x∈cZ O w t,x<=w.length:=by
 obtain⟨h1,h2,J⟩:min t.1 t.2<max t.1 t.2/\max t.1 t.2<=w.length/\cJ w (min t.1 t.2) (max t.1 t.2)∈B:=by
  unfold aB fS at G;rw[or_eq_true]at G;rcases G with h|h<;>let#[a,b,c]:=zam.mp h
  .rw[show min t.1 t.2=t.1 by lia,show max t.1 t.2=t.2 by lia];show#[a,b,c]
  .rw[show min t.1 t.2=t.2 by lia,show max t.1 t.2=t.1 by lia];show#[a,b,c]
 let#[w1,L]:=Iv (Z _ J);let h4:=h6 _ J;let Y:=Ft (w:=w) (le_of_lt h1) h2;let v:∀x∈(eG O (cJ w (min t.1 t.2) (max t.1 t.2))).map (min t.1 t.2+·),x<=w.length:=λx F=>by let#[y,M,rfl]:=qN.mp F;let:=L y M;lia
 unfold cZ;split
 .show#[by rw[qo];lia,v]
 .show#[by rw[length_reverse,qo];lia,λx F=>v x (mem_reverse.mp F)]
def DX{O:List Wd}{w:Wd}{B:List Wd}(v:Fx O B)(F:∀b∈B,b.length<=6):∀{ts:List (Nat×Nat)},(∀t∈ts,aB B w t.1 t.2)->(cK O w ts).length<=6*ts.length/\∀x∈cK O w ts,x<=w.length
 |[],_=>#[zm _,λ_ z=>(nomatch z)]
 |t::ts,h=>by
  let#[a,b]:=DX v F (ts:=ts) λt J=>h t (qk _ J);let#[c,d]:=Ih v F (h t qm);unfold cK at a b⊢;rw[flatMap_cons,qq,qJ,qt];show#[∅,λx G=>?_];rcases qz.mp G with z|z
  .show d x (List.mem_of_mem_drop z)
  .show b x z
def OC{O B:List Wd}{s:Wd}(h:s∈B):atI (ba O B) ((B.idxOf s:Nat):Int)=⇑(.tup ((eG O s).map zV)):=by let v:=List.idxOf_lt_length_iff.mpr h;show Cv ∅ ?_;unfold ba;rw[qZ,qI,qh v,List.getElem_idxOf v];rfl
def Jf{B O:List Wd}{w:Wd}{l:List Nat}(hB:Bd B)(hO:Bd O)(h5:w.length<=12)(hl:l.length<=900)(hF:Fx O B)(ht:∀t∈eR l,aB B w t.1 t.2)
  (h:P (.sh (bK (0::cK O w (eR l)))) [.sh (.str w),.sh (bK l),.sh (zQ B),.sh (zQ O)]):bu [.sh (.str w),.sh (bK l),.sh (zQ B),.sh (zQ O)] P PX:=by
 let hf:uD B w:=hB.fit h5;let e3:=Il (w:=w) hf.nd hf.ne hf.six h5;show AM rfl rfl ?_;simp! [e_C];show Vq hO hB ?_;rw[Na B 0 [] hF,nil_append];let h7:aP (l.map zV) (some 1) none=(l.drop 1).map zV:=by rw[DF _ ⋯,map_drop];rfl
 simp! [bK,h7,length_cons,length_nil];show Wb hf e3 hl ht ?_;simp! [bK,zan,length_map];show#[by rw[Do,qJ];lia,?_];rw[show bW (l.map zV) ((l.drop 1).map zV) ((eR l).map (iA B w))=(eR l).map λt=>D.tup [zV t.1,zV t.2,iA B w t] from Ld l (l.drop 1)];show Bo (λv U=>∃(Y:List Nat)(o6 o7 o8 o9 Z:Option S),Y=0::cK O w v/\U=[⇑(.sh (.str w)),⇑(.sh (.tup (l.map zV))),⇑(.sh (zQ B)),⇑(.sh (zQ O)),⇑(.sh (.tup (ba O B))),⇑(.lst ((Y.map zV).map .sh)),o6,o7,o8,o9,Z]) (eR l) (λv t e4 D2 U e hI h4 hs hp hd=>?_) (λU hI=>?_) #[_,_,_,_,_,_,rfl,rfl]
 .obtain⟨Y,o6,o7,o8,o9,Z,hY,rfl⟩:=hI;let h2:=ht t (by rw[<-e];simp);let h3:∀u∈v,aB B w u.1 u.2:=λu hu=>ht u (by rw[<-e];show qj _ hu);let hk:v.length<=900:=by let:=congrArg List.length e;rw[qq,Do]at this;lia
  let#[h8,_]:=DX hF (λb hb=>(hB.ok b hb).2) h3;let#[hi,_]:=Ih hF (λb hb=>(hB.ok b hb).2) h2;let e2:Y.length<=5401:=by rw[hY,qt];lia
  have F:cJ w (min t.1 t.2) (max t.1 t.2)∈B:=by
   let h1:=h2;unfold aB fS at h1;rw[or_eq_true]at h1;rcases h1 with h|h<;>let#[a,b,c]:=zam.mp h
   .rw[show min t.1 t.2=t.1 by lia,show max t.1 t.2=t.2 by lia];show c
   .rw[show min t.1 t.2=t.2 by lia,show max t.1 t.2=t.1 by lia];show c
  let h9:=OC (O:=O) F;let#[hx,_]:=Iv (hF _ F);let h6:=(hB.ok _ F).2;let G:Y++(cZ O w t).drop 1=0::cK O w (v++[t]):=by rw[hY];unfold cK;rw[flatMap_append,flatMap_cons,List.flatMap_nil,qB];rfl
  let J:aP ((cZ O w t).map zV) (some 1) none=((cZ O w t).drop 1).map zV:=by rw[DF _ ⋯,map_drop];rfl
  let M:(Y.map zV).map S.sh++(((cZ O w t).drop 1).map zV).map S.sh=((Y++(cZ O w t).drop 1).map zV).map S.sh:=by rw[map_append,map_append]
  let hc:((cZ O w t).drop 1).length<=7:=by rw[qJ];lia
  simp! [zV,iA,oK,uT,length_cons,length_nil,h9];show Dv (n:=11) (toD:=zV) (eG O (cJ w (min t.1 t.2) (max t.1 t.2))) (λq=>S.sh (zV (min t.1 t.2+q))) (λq hq l o K hl hK=>?_) λo=>?_
  .simp! [eB,jV,uR,zV,Gg];let:=hK ⇑(S.sh (.int (q:Int)));rw[<-natCast_add];show#[by simp only[bP];lia,this]
  .by_cases L:t.1<t.2
   .let e1:List.map (λq=>S.sh (zV (min t.1 t.2+q))) (eG O (cJ w (min t.1 t.2) (max t.1 t.2)))=((cZ O w t).map zV).map S.sh:=by unfold cZ;rw[zj L,qH,qH];rfl
    simp! [show bg t.1 t.2=[111,110] from zj L,show ↥(([111,110]:List Nat)=[98,97,99,107])=false from by decide,e1,J,M];show#[by simp only[qo,bP];lia,h4 _ #[_,_,_,_,_,_,G,rfl]]
   .let e1:(List.map (λq=>S.sh (zV (min t.1 t.2+q))) (eG O (cJ w (min t.1 t.2) (max t.1 t.2)))).reverse=((cZ O w t).map zV).map S.sh:=by unfold cZ;rw[zk L,map_reverse,map_reverse,qH,qH];rfl
    simp! [show bg t.1 t.2=[98,97,99,107] from zk L,show ↥(([98,97,99,107]:List Nat)=[98,97,99,107])=true from by decide,e1,J,M];show#[by simp only[qo,bP];lia,h4 _ #[_,_,_,_,_,_,G,rfl]]
 .obtain⟨Y,o6,o7,o8,o9,Z,hY,rfl⟩:=hI;let#[h8,_]:=DX hF (λb hb=>(hB.ok b hb).2) ht;let:=Do l;let e2:Y.length<=5401:=by rw[hY,qt];lia
  simp! [zan,length_map];rw[<-hY]at h;show h
def LW{B O:List Wd}{w:Wd}{l:List Nat}(hB:Bd B)(hO:Bd O)(h12:w.length<=12)(hl:l.length<=900)(h0:l.head?=some 0)(hF:Fx O B)(ht:∀t∈eR l,aB B w t.1 t.2)
  (h:P (.sh (bK (0::cK O w (eR l)))) [.sh (.str w),.sh (bK l),.sh (zQ O)]):pR [.sh (.str w),.sh (bK l),.sh (zQ O)] P PX:=by
 let e2:l[0]?=some 0:=by rw[<-List.head?_eq_getElem?];show h0
 let s2:0<l.length:=(qg.mp e2).1;let J:∀k p:Nat,l[k]?=⇑p->atI (l.map zV) (k:Int)=⇑(.int (p:Int)):=λk p hk=>Cv ∅ (by rw[qZ,qI,hk];rfl);let e0:atI (l.map zV) 0=⇑(.int 0):=J 0 0 e2;show AM rfl rfl ?_;simp! [bK,e0,length_cons,length_nil,length_map];show#[by simp only[bP];lia,?_];rw[show fromTo 1 ((l.length:Int)-1).toNat=(List.range' 1 (l.length-1)).map λ(k:Nat)=>D.int (k:Int) from CZ (a:=1) (n:=l.length) rfl rfl];show Bo (λv U=>∃(Y:List Nat)(s3:S)(o4 o5 o6 o7:Option S),Y=0::cK O w ((eR l).take v.length)/\(s3=.sh (.lst (Y.map zV))\/s3=.lst ((Y.map zV).map .sh))/\U=[⇑(.sh (.str w)),⇑(.sh (.tup (l.map zV))),⇑(.sh (zQ O)),⇑s3,o4,o5,o6,o7]) (List.range' 1 (l.length-1)) (λv k hq D2 U e hI h9 hct r3 hbk=>?_) (λU hI=>?_) #[_,_,_,_,_,_,rfl,.inl rfl,rfl]
 .obtain⟨Y,s3,o4,o5,o6,o7,hY,h3,rfl⟩:=hI;let#[hk,k2]:=NA e;let#[p,q,h1,h2,h4]:=Pb (l:=l) (k:=v.length) ∅;let h5:(((v.length+1:Nat):Int)-1)=(v.length:Int):=by lia
  let hc:(k:Int)=((v.length+1:Nat):Int):=∅
  let ap:=J _ _ h1;let aq:=J _ _ h2;let h7:aB B w p q:=ht (p,q) (qP h4);let h8:∀u∈(eR l).take v.length,aB B w u.1 u.2:=λu hu=>ht u (List.mem_of_mem_take hu);let#[hi,_]:=DX hF (λb hb=>(hB.ok b hb).2) h8;let#[k1,_]:=Ih (t:=(p,q)) hF (λb hb=>(hB.ok b hb).2) h7;let ha:((eR l).take v.length).length<=900:=by rw[qK,Do];lia
  let hm:Y.length<=5401:=by rw[hY,qt];lia
  obtain⟨hp,e4,L⟩:min p q<max p q/\max p q<=w.length/\cJ w (min p q) (max p q)∈B:=by
   let M:=h7;unfold aB fS at M;rw[or_eq_true]at M;rcases M with h|h<;>let#[a,b,c]:=zam.mp h
   .rw[show min p q=p by lia,show max p q=q by lia];show#[a,b,c]
   .rw[show min p q=q by lia,show max p q=p by lia];show#[a,b,c]
  let#[d,hd]:=hF _ L;let r2:=Ft (w:=w) (le_of_lt hp) e4;let h6:=(hB.ok _ L).2;let s1:p≠q:=∅
  let r1:=(Iv #[d,hd]).1;let hr:=Ij w (min p q) (max p q);let Z:Y++(cZ O w (p,q)).drop 1=0::cK O w ((eR l).take (v++[k]).length):=by rw[hY,qq,qE,List.take_add_one,h4];unfold cK;rw[flatMap_append,toList_some,flatMap_cons,List.flatMap_nil,qB];rfl
  let G:aP ((cZ O w (p,q)).map zV) (some 1) none=((cZ O w (p,q)).drop 1).map zV:=by rw[DF _ ⋯,map_drop];rfl
  let k3:((cZ O w (p,q)).drop 1).length<=7:=by rw[qJ];lia
  have F:=zmi (l:=Y.map zV) (m:=((cZ O w (p,q)).drop 1).map zV) (by rw[qo,qo];simp only[bP];lia);rw[<-map_append,Z]at F;rcases h3 with rfl|rfl;all_goals
   simp! [rD,hc,h5,ap,aq,Gg,Jz,length_cons,length_nil,hr,zQ];show MR ∅ ?_;simp! [zan];show Lr ∅ (zero_le _) (λd' hs=>?_) λe3=>absurd (zaF.mpr #[d,hd]) e3;obtain rfl:=Fj hd hs;rw[<-Gx hd];simp! [e_C];show Dv (n:=8) (toD:=zV) (eG O (cJ w (min p q) (max p q))) (λx=>S.sh (zV (min p q+x))) (λx hx l o K hl hK=>?_) λo=>?_
   .simp! [eB,jV,rC,zV];let:=hK ⇑(S.sh (.int (x:Int)));rw[<-natCast_add];show#[by simp only[bP];lia,this]
   .have eW:List.map (λx=>S.sh (zV (min p q+x))) (eG O (cJ w (min p q) (max p q)))=(((eG O (cJ w (min p q) (max p q))).map (min p q+·)).map zV).map S.sh:=by rw[qH,qH];rfl
    rw[eW];by_cases e1:p<q
    .let ei:(eG O (cJ w (min p q) (max p q))).map (min p q+·)=cZ O w (p,q):=(zj e1).symm;rw[ei];simp! [zan,ap,aq,h5,show ↥((q:Int)<(p:Int))=false from decide_eq_false ∅,G,F];show h9 _ #[_,_,_,_,_,_,rfl,.inr rfl,rfl]
    .let ei:(((eG O (cJ w (min p q) (max p q))).map (min p q+·)).map zV).reverse=(cZ O w (p,q)).map zV:=by rw[<-map_reverse];exact congrArg (List.map zV) (zk e1).symm
     simp! [zan,ap,aq,h5,show ↥((q:Int)<(p:Int))=true from decide_eq_true ∅,length_map,ei,G,F];show#[by simp only[bP];lia,h9 _ #[_,_,_,_,_,_,rfl,.inr rfl,rfl]]
 .obtain⟨Y,s3,o4,o5,o6,o7,hY,h3,rfl⟩:=hI;rw[List.length_range',take_of_length_le (by rw[Do];lia)]at hY;let#[hi,_]:=DX hF (λb hb=>(hB.ok b hb).2) ht;let:=Do l;let hm:Y.length<=5401:=by rw[hY,qt];lia
  rw[<-hY]at h;rcases h3 with rfl|rfl<;>simp! [zan,length_map]<;>show h
def Rp{B:List Wd}{w:Wd}{l:List Nat}(h:mZ B w (cG l)=true):(∀t∈eR l,aB B w t.1 t.2)/\l[0]?=some 0/\l.getLast?=⇑w.length:=by
 unfold mZ at h;rw[and_eq_true,and_eq_true,qL,qW,qW]at h;show#[λt v=>?_,?_,?_]
 .let F:((t.1:Int),(t.2:Int))∈pairsOf (cG l):=by unfold pairsOf cG;rw[<-map_drop,zip_map];exact qN.mpr #[t,v,rfl]
  let#[a,b,Y,L,G]:=TL (h.2.2 _ F);let M:(t.1:Int)=a:=Y;let J:(t.2:Int)=b:=L;rw[show t.1=a by lia,show t.2=b by lia];show G
 .have:=h.1;unfold cG at this;cases l with
  |nil=>cases this
  |cons a l=>
   let e:⇑(a:Int)=some 0:=this;injection e with e
   show ⇑a=some 0;rw[show a=0 by lia]
 .let:=h.2.1;unfold cG at this;rw[getLast?_map]at this;let#[a,h1,h2]:=q9.mp this;rw[h1,show a=w.length by lia]
inductive hV(R:Nat->Nat->Prop):Nat->List Nat->Nat->Prop
 |nil (a:Nat):hV R a [] a
 |cons {a b c:Nat} {l:List Nat}:R a b->hV R b l c->hV R a (b::l) c
section
variable{R R':Nat->Nat->Prop}{a b c:Nat}{l m:List Nat}
def JZ(h:hV R a l b)(k:hV R b m c):hV R a (l++m) c:=by
 induction h with
 |nil=>show k
 |cons r _ v=>show .cons r (v k)
def Ka{f:Nat->Nat}(F:∀x y,R x y->R' (f x) (f y))(h:hV R a l b):hV R' (f a) (l.map f) (f b):=by
 induction h with
 |nil=>show .nil _
 |cons r _ v=>show .cons (F _ _ r) v
def Km(G:∀x y,R x y->R y x)(h:hV R a l b):∃r,(a::l).reverse=b::r/\hV R b r a:=by
 induction h with
 |nil=>show#[[],rfl,.nil _]
 |@cons a b c l r _ F=>let#[v,h1,h2]:=F;show#[v++[a],?_,JZ h2 (.cons (G _ _ r) (.nil _))];rw[reverse_cons,h1];rfl
def Hu(h:hV R a l b):∀t∈eR (a::l),R t.1 t.2:=by
 induction h with
 |nil=>show λt z=>(nomatch z)
 |@cons a b c l r _ v=>
  intro t F;rcases qC.mp (show t∈(a,b)::eR (b::l) from F)with z|z
  .rw[z];show r
  .show v t z
def JQ:∀{l:List Nat}{a:Nat},(∀t∈eR (a::l),R t.1 t.2)->(a::l).getLast?=⇑b->hV R a l b
 |[],a,_,hl=>by cases hl;show .nil _
 |x::l,a,h,hl=>.cons (h (a,x) (show(a,x)∈(a,x)::eR (x::l) from qm)) (JQ (λt v=>h t (show t∈(a,x)::eR (x::l) from qk _ v)) (by rw[<-hl,List.getLast?_cons_cons]))
def QJ(h:hV R a l b):(a::l).getLast?=⇑b:=by
 induction h with
 |nil=>rfl
 |cons r _ v=>rw[List.getLast?_cons_cons];show v
end
section
variable{B O:List Wd}{w:Wd}
def Kh:∀{d p:Nat},aC (aB B w) w.length p d->∃r,aW B w d p=p::r/\hV (aB B w) p r w.length
 |0,p,h=>by let:=Eo h;subst this;show#[[],rfl,.nil _]
 |d+1,p,h=>by let#[_,_,v]:=Et h;let#[r,h1,h2]:=Kh v;let e:aW B w (d+1) p=p::aW B w d (aG B w p):=rfl;show#[_,by rw[e,h1],.cons (Me h) h2]
def Qr{i j a b:Nat}(v:b<=j-i):cJ (cJ w i j) a b=cJ w (i+a) (i+b):=by unfold cJ;rw[List.drop_take,List.take_take,List.drop_drop];congr 1;lia
def Ll{i j a b:Nat}(G:j<=w.length)(v:i<=j)(h:dP O (cJ w i j) a b=true):dP O w (i+a) (i+b)=true:=by let#[h1,h2,F]:=zam.mp h;rw[Ft v G]at h2;rw[Qr h2]at F;show zam.mpr #[∅,∅,F]
def Qm{i j a b:Nat}(F:j<=w.length)(v:i<=j)(h:aB O (cJ w i j) a b):aB O w (i+a) (i+b):=by unfold aB fS at*;rw[or_eq_true]at*;show h.imp (Ll F v) (Ll F v)
def JS{p q:Nat}(h:aB B w p q):min p q<max p q/\max p q<=w.length/\cJ w (min p q) (max p q)∈B:=by
 unfold aB fS at h;rw[or_eq_true]at h;rcases h with h|h<;>let#[a,b,c]:=zam.mp h
 .rw[show min p q=p by lia,show max p q=q by lia];show#[a,b,c]
 .rw[show min p q=q by lia,show max p q=p by lia];show#[a,b,c]
def Pe{p q:Nat}(Z:Fx O B)(h:aB B w p q):∃r,cZ O w (p,q)=p::r/\hV (aB O w) p r q:=by
 let#[h1,h2,h3]:=JS h;let#[d,L]:=Z _ h3;let#[r,e,Y]:=Kh L;let F:=Ka (f:=(min p q+·)) (R':=aB O w) (λx y=>Qm h2 (le_of_lt h1)) Y;rw[Ft (le_of_lt h1) h2]at F;let v:hV (aB O w) (min p q) (r.map (min p q+·)) (max p q):=by rw[show min p q+(max p q-min p q)=max p q by lia]at F;show F
 unfold cZ;rw[Gx L,e,qA];by_cases G:p<q
 .rw[zj G];rw[show min p q=p by lia,show max p q=q by lia]at v;show#[_,by rw[show min (p,q).1 (p,q).2=p from by show min p q=p;lia];rfl,v]
 .rw[zk G];rw[show min p q=q by lia,show max p q=p by lia]at v;let#[M,e',J]:=Km Ew v;show#[M,by rw[show min (p,q).1 (p,q).2=q from by show min p q=q;lia];show e',J]
def Re(J:Fx O B){a b:Nat}{l:List Nat}(h:hV (aB B w) a l b):hV (aB O w) a (cK O w (eR (a::l))) b:=by
 induction h with
 |nil=>show .nil _
 |@cons a b c l r _ F=>
  let#[v,e,G]:=Pe J r;let:cK O w (eR (a::b::l))=v++cK O w (eR (b::l)):=by show((a,b)::eR (b::l)).flatMap _=_;rw[flatMap_cons,e];rfl
  rw[this];show JZ G F
def OD{l:List Nat}(h:hV (aB B w) 0 l w.length):mZ B w (cG (0::l))=true:=by
 unfold mZ;rw[and_eq_true,and_eq_true,qL,qW,qW];show#[rfl,?_,λp v=>?_]
 .unfold cG;rw[getLast?_map,QJ h];rfl
 .unfold pairsOf cG at v;rw[<-map_drop,zip_map]at v;let#[t,F,rfl]:=qN.mp v;show Io (Hu h t F)
def Gk{b:Wd}(h:aX (aB O b) 0 b.length):∃d,aC (aB O b) b.length 0 d:=zaF.mp (h.symm Ew)
def PQ(F:Bd B):Fx B B:=λb v=>Gk (aX.one (by unfold aB fS;rw[or_eq_true];show .inl (zam.mpr #[qS.mpr (F.ok b v).1,zm _,by unfold cJ;simpa using v])))
def VM{T:List Wd}(h:∀b∈O,∀c∈b,[c]∈T):Fx T O:=λb G=>Gk (by
 have:∀k,k<=b.length->aX (aB T b) 0 k:=by
  intro k;induction k with
  |zero=>show λ_=>.refl _
  |succ k F=>
   intro v;show .step (F ∅) ?_;unfold aB fS;rw[or_eq_true];show .inl (zam.mpr #[∅,v,?_]);let e:cJ b k (k+1)=[b[k]]:=by unfold cJ;rw[show k+1-k=1 by lia,List.drop_eq_getElem_cons v];rfl
   rw[e];show h b G _ (getElem_mem v)
 show this _ (zm _))
end
def Bd.of{v:List Nat}{B:List Wd}(h:gR v 6 6 B):Bd B:=#[h.2.1,λx F=>#[(h.2.2 x F).1,(h.2.2 x F).2.1],h.1]
def Bd.nil:Bd []:=#[by simp,by simp,by simp]
section
variable{B O:List Wd}{w:Wd}
def Oh{a b:Nat}{l:List Nat}(h:hV (aB B w) a l b):∀x∈l,x<=w.length:=by
 induction h with
 |nil=>show λ_ z=>(nomatch z)
 |@cons a b c l r _ v=>
  intro x F;rcases qC.mp F with z|z
  .let:=(JS r).2.1;lia
  .show v x z
def Rz{i j:Nat}(v:i<=j)(F:j<=w.length):cJ w.reverse (w.length-j) (w.length-i)=(cJ w i j).reverse:=by unfold cJ;rw[List.drop_reverse,List.take_reverse,qK,show w.length-(w.length-j)=j by lia,show min j w.length-(w.length-i-(w.length-j))=i by lia,List.drop_take]
def Mm{i j:Nat}(h:dP B w i j=true):dP (B.map List.reverse) w.reverse (w.length-j) (w.length-i)=true:=by let#[h1,h2,v]:=zam.mp h;show zam.mpr #[∅,by rw[length_reverse];lia,by rw[Rz (le_of_lt h1) h2];show List.mem_map_of_mem v]
def KZ{p q:Nat}(h:aB B w p q):aB (B.map List.reverse) w.reverse (w.length-p) (w.length-q):=by unfold aB fS at*;rw[or_eq_true]at*;show(h.imp Mm Mm).symm
def RY{p q:Nat}(h:aX (aB B w) p q):aX (aB (B.map List.reverse) w.reverse) (w.length-p) (w.length-q):=by
 induction h with
 |refl=>show .refl _
 |step _ r v=>show .step v (KZ r)
def Ox(h:Fx O B):Fx (O.map List.reverse) (B.map List.reverse):=λG v=>by let#[b,F,rfl]:=qN.mp v;let:=RY (zaF.mpr (h b F));rw[sub_self,sub_zero]at this;show Gk ?_;rw[length_reverse];show this
def JU(h:Bd B):Bd (B.map List.reverse):=#[pairwise_map.mpr (h.nd.imp λ{a b} n e=>n (by rw[<-List.reverse_reverse a,e,List.reverse_reverse])),λx F=>by let#[b,v,rfl]:=qN.mp F;show#[λz=>(h.ok b v).1 (List.reverse_eq_nil_iff.mp z),by rw[length_reverse];show(h.ok b v).2],by rw[qo];show h.six]
structure Zz(w:Wd)(l:List Nat)(B O:List Wd):Prop where
 tw:w.length<=12
 b:Bd B
 o:Bd O
 f:Fx O B
 le:l.length<=24
 c:∃r,l=0::r/\hV (aB B w) 0 r w.length
 k:∃col:List Nat,col.length<=3/\(∀b∈B,∀c∈b,c∈col)/\∀b∈O,∀c∈b,c∈col
def Zz.self{l:List Nat}(h:Zz w l B O):Zz w l B B:=#[h.tw,h.b,h.b,PQ h.b,h.le,h.c,by let#[v,a,b,_]:=h.k;show#[v,a,b,b]]
def Zz.rev{l:List Nat}(h:Zz w l B O):Zz w.reverse (l.reverse.map (w.length-·)) (B.map List.reverse) (O.map List.reverse):=by
 show#[by rw[length_reverse];show h.tw,JU h.b,JU h.o,Ox h.f,by rw[qo,length_reverse];show h.le,?_,?_]
 .obtain⟨r,rfl,J⟩:=h.c;let#[L,e,G]:=Km Ew J;let:=Ka (f:=(w.length-·)) (R':=aB (B.map List.reverse) w.reverse) (λ_ _=>KZ) G;refine#[L.map (w.length-·),?_,?_]
  .rw[e,qA,sub_self]
  .simp only[sub_self,sub_zero]at this;rw[length_reverse];show this
 .obtain⟨v,a,b,c⟩:=h.k;let F:∀{B:List Wd},(∀b∈B,∀c∈b,c∈v)->∀b∈B.map List.reverse,∀c∈b,c∈v:=λh b Y c J=>by let#[x,M,rfl]:=qN.mp Y;exact h x M c (mem_reverse.mp J)
  show#[v,a,F b,F c]
end
def Nc{w:Wd}(J:w.length<=60)
  (h:P (.sh (.str w.reverse)) [.sh (.str w)]):pQ [.sh (.str w)] P PX:=by
 let v:w.length<=big:=by simp only[bP];lia
 let G:eM [.str w]=⇑(.lst ((w.map sg).map .sh)):=by rw[zmo v,qH];rfl
 let F:fW [] (w.map sg).reverse=⇑(.sh (.str w.reverse)):=by rw[<-map_reverse];show HN (by rw[length_reverse];show v)
 show AM rfl rfl ?_;simp! [G,zan,F,length_map];show#[v,h]
def NN{B:List Wd}(v:Bd B)
  (h:P (.sh (zQ (B.map List.reverse))) [.sh (zQ B)]):pP [.sh (zQ B)] P PX:=by
 let L:=v.six;show AM rfl rfl ?_;simp! [zQ];show Dv (n:=1) (toD:=D.str) B (λb=>S.sh (.str b.reverse)) (λb F l o K J G=>?_) λo=>?_
 .simp! [eB,jV,rB];show Nc (by let:=(v.ok b F).2;lia) ?_;simp! [e_C];show#[by simp only[bP];lia,G _]
 .rw[show List.map (λb=>S.sh (D.str b.reverse)) B=((B.map List.reverse).map D.str).map S.sh by rw[qH,qH];rfl];simp! [zan];show h
def Po(l:List Nat):∃L:List Nat,bQ (cY (l.map sg))=L.map sg/\L.Nodup/\(∀c,c∈L↔c∈l):=by
 let J:(cY (l.map sg)).Nodup:=Wo _;let Y:∀d,d∈cY (l.map sg)↔d∈l.map sg:=λd=>zfD;let G:=EF (cY (l.map sg));let F:∀d∈bQ (cY (l.map sg)),∃c,d=sg c:=λd v=>by let#[c,_,rfl]:=qN.mp ((Y d).mp (G.mem_iff.mp v));show#[c,rfl]
 have ex:∀(m:List D),(∀d∈m,∃c,d=sg c)->∃L:List Nat,m=L.map sg:=λm=>by
  induction m with
  |nil=>show λ_=>#[[],rfl]
  |cons d m Z=>intro h;let#[c,rfl]:=h d (by simp);let#[L,rfl]:=Z λd v=>h d (by simp[v]);show#[c::L,rfl]
 let#[L,M]:=ex _ F;show#[L,M,?_,λc=>?_]
 .let:=G.nodup_iff.mpr J;rw[M]at this;show(pairwise_map.mp this).imp λ{a b} h e=>h (by rw[e])
 .have h1:=(G.mem_iff (a:=sg c)).trans (Y (sg c));rw[M]at h1;constructor
  .intro z;let#[d,v,e]:=qN.mp (h1.mp (qN.mpr #[c,z,rfl]));let:d=c:=by simpa[sg] using e
   show this▸v
  .intro z;let#[d,v,e]:=qN.mp (h1.mpr (qN.mpr #[c,z,rfl]));let:d=c:=by simpa[sg] using e
   show this▸v
def IZ{w:Wd}{l:List Nat}{B O:List Wd}(h:Zz w l B O)
  (k:P (.sh (.bl true)) [.sh (.str w),.sh (bK l),.sh (zQ B),.sh (zQ O)]):nN [.sh (.str w),.sh (bK l),.sh (zQ B),.sh (zQ O)] P PX:=by
 obtain⟨F,hB,G,hF,hl,⟨r,hr,hc⟩,e3,h5,-,h9⟩:=h;let e1:=λ(b:Wd) L=>(hB.ok b L).2;let h4:=λ(b:Wd) L=>(G.ok b L).2;let ht:∀t∈eR l,aB B w t.1 t.2:=by rw[hr];show Hu hc
 let Y:=Re hF hc;rw[<-hr]at Y;let J:=Hu Y;let hz:=OD Y;let hp:=Do l;let l1:=DX hF e1 ht;generalize hM:0::cK O w (eR l)=M at J hz;let hs:M.length<=145:=by rw[<-hM,qt];lia
 have e2:∀x∈M,x<=w.length:=λx v=>by
  rw[<-hM]at v;rcases qC.mp v with z|z
  .lia
  .show l1.2 x z
 have hi:O.flatten.length<=36:=by
  have h8:∀O:List Wd,(∀b∈O,b.length<=6)->O.flatten.length<=6*O.length:=λO=>by
   induction O with
   |nil=>show λ_=>zm _
   |cons b O ih=>intro h;let:=ih λb L=>h b (qk _ L);let:=h b qm;rw[List.flatten_cons,qq,qt];lia
  let:=h8 O h4;let:=G.six;lia
 let#[L0,eL,hL,h6]:=Po O.flatten;let hm:L0.length<=3:=le_trans (DB L0 e3 hL λx v=>by let#[b,L,v]:=List.mem_flatten.mp ((h6 x).mp v);show h9 b L x v) h5
 let e4:fU [] [zQ O]=⇑(.sh (.str O.flatten)):=UX (by rw[<-List.length_flatten];simp only[bP];lia);let e5:jN [.str O.flatten]=⇑(.set (cY (O.flatten.map sg))):=zmk ∅;obtain⟨T,hT⟩:∃T:List Wd,T=L0.map λc=>[c]:=#[_,rfl]
 have e6:jM [.set (cY (O.flatten.map sg))]=⇑(.lst ((T.map D.str).map .sh)):=by
  have hl:=SQ (O.flatten.map sg);rw[qo]at hl;rw[show T.map D.str=L0.map sg by rw[hT,qH];rfl,<-eL];show zmq ?_ ∅;let h7:∀(m:List D),(∀d∈m,∃c,d=sg c)->(bY m).isSome=true:=λm=>by
   induction m with
   |nil=>show λ_=>rfl
   |cons d m ih=>intro h;let#[c,rfl]:=h d qm;show((bY m).map ([c]::·)).isSome=true;rw[isSome_map];show ih λd hd=>h d (qk _ hd)
  show h7 _ λd hd=>by let#[c,_,rfl]:=qN.mp (zfD.mp hd);show#[c,rfl]
 have bT:Bd T:=by
  show#[?_,λx v=>?_,?_]
  .rw[hT];show pairwise_map.mpr (hL.imp λ{a b} n e=>n (by injection e))
  .rw[hT]at v;let#[c,_,rfl]:=qN.mp v;show#[List.cons_ne_nil _ _,show 1<=6 by decide]
  .rw[hT,qo];lia
 let Z:Fx T O:=VM λb L c hc=>by rw[hT];show List.mem_map_of_mem ((h6 c).mpr (List.mem_flatten.mpr #[b,L,hc]))
 let hk:=Do M;let l2:=DX Z h4 J;let M0:M.head?=some 0:=by rw[<-hM];rfl
 let l0:l.head?=some 0:=by rw[hr];rfl
 let h3:∀m:List Nat,m.map zV=(cG m).map D.int:=λm=>by unfold cG;rw[qH];rfl
 let sh:∀m:List Nat,m.length<=2000->(∀x∈m,x<=12)->cX (.tup (m.map zV))=true:=λm h1 h2=>by rw[h3];show Wc (λz hz=>?_) (by unfold cG;rw[qo];lia);let#[x,v,rfl]:=qN.mp hz;let:=h2 x v;lia
 have s1:=sh M ∅ λx v=>le_trans (e2 x v) F;let s2:=sh (0::cK T w (eR M)) (by rw[qt];lia) λx v=>by
  rcases qC.mp v with z|z
  .lia
  .show le_trans (l2.2 x z) F
 show AM rfl rfl ?_;simp! [e_C];show LW hB G F ∅ l0 hF ht ?_;simp! [e_C];show Jf hB G F ∅ hF ht ?_;rw[hM];simp! [bK,s1,e4,e5,e6,zan,show kR "tuple" (.tup (M.map zV))=true by simp[kR,bw]];show Jf (l:=M) (O:=T) G bT F ∅ Z J ?_;simp! [bK];show#[s2,LW (l:=M) (O:=T) G bT F ∅ M0 Z J ?_];simp! [bK,length_map];cases q:↥((M.length:Int)>24)
 .simp! [e_C];rw[h3 M];show Ub (G.fit F) (Il G.nd (λx v=>(G.ok x v).1) G.six F) (by unfold cG;rw[qo];lia) ?_;rw[<-hM]at hz⊢;simp! [hz,show pK (.bl true) (.bl true)=⇑true by simp[pK]];show k
 .simp! [e_C];show k
abbrev Q4:=Wd×List Nat×List Wd×List Wd
def qD(c:Q4):D:=.tup [.str c.1,bK c.2.1,zQ c.2.2.1,zQ c.2.2.2]
@[inline]def Z4(c:Q4):Prop:=Zz c.1 c.2.1 c.2.2.1 c.2.2.2
def Bi{c:Q4}{D2:Ends}{p0 p1 p2 p3 Z Y M L J v:Option S}(h:Z4 c)
  (k:∀v,D2.nx [p0,p1,p2,p3,Z,Y,M,L,J,⇑(.sh (.str c.1)),⇑(.sh (bK c.2.1)),⇑(.sh (zQ c.2.2.1)),⇑(.sh (zQ c.2.2.2)),v]):gC D2 [p0,p1,p2,p3,Z,Y,M,L,J,⇑(.sh (.str c.1)),⇑(.sh (bK c.2.1)),⇑(.sh (zQ c.2.2.1)),⇑(.sh (zQ c.2.2.2)),v]:=by
 obtain⟨w,l,B,O⟩:=c;let h':Zz w l B O:=h;let G:∀x∈l.reverse,x<=w.length:=λx F=>by
  let#[r,rfl,hc]:=h'.c;rcases qC.mp (mem_reverse.mp F)with z|z
  .lia
  .show Oh hc x z
 let hl:=h'.le;simp! [rA];show IZ h' ?_;simp! [e_C];show IZ h'.self ?_;simp! [bK];rw[<-map_reverse];show Dv (n:=14) (toD:=zV) l.reverse (λx=>S.sh (zV (w.length-x))) (λx F l o K hl hK=>?_) λo=>?_
 .let:=G x F;let e:(w.length:Int)-(x:Int)=((w.length-x:Nat):Int):=by lia
  let:=hK ⇑(S.sh (.int (x:Int)));simp! [eB,jV,pY,zV,e];show#[by simp only[bP,length_reverse]at*;lia,this]
 .rw[show List.map (λx=>S.sh (zV (w.length-x))) l.reverse=((l.reverse.map (w.length-·)).map zV).map S.sh by rw[qH,qH];rfl];simp! [zan];show Nc (by let:=h'.tw;lia) ?_;simp! [e_C];show NN h'.b ?_;simp! [e_C];show NN h'.o ?_;simp! [e_C];show IZ h'.rev ?_;simp! [e_C];show k _
def CP:∀ns:List Int,ns.length<=63->nM [.sh (.lst (ns.map .int))] (λs _=>s=.sh (.bl true)) λ_ _=>False:=by
 intro ns hl;show AM rfl rfl ?_;simp! [e_C];show LP ⋯ λa s ha hs h3=>?_;simp! [aT];show Bk ha hs h3 ⋯ ⋯ λr a1 s1 hr hr2 ha1 r3 hk=>?_;simp! [aT];show Wr ha1 r3 hk ∅ ∅ λv a2 s2 hcol hso hle ha2 h3 hs22=>?_;let hc:0<v.length:=∅
 let hc3:v.length<=3:=∅
 let h9:v.length<=26:=∅
 simp! [aT,length_map];generalize hz:(if(if(ns.length:Int)<7 then(ns.length:Int)else 7)>3 then(if(ns.length:Int)<7 then(ns.length:Int)else 7)else(3:Int))=z;let hz1:3<=z/\z<=7:=by subst hz;split<;>split<;>lia
 show#[by simp only[bP];lia,?_];rw[CZ (i:=1) (z:=z) (a:=1) (n:=z.toNat) rfl ∅];show Bo (λh2 U=>∃(M:List Q4)(s1 o4 o5 o6 o7 o8 o9 h8 h7 h6 h5:Option S),M.length<=h2.length/\(∀c∈M,Z4 c)/\U=[⇑(.sh (.lst (ns.map .int))),s1,⇑(.sh (.str v)),⇑(.lst ((M.map qD).map .sh)),o4,o5,o6,o7,o8,o9,h8,h7,h6,h5]) (List.range' 1 (z.toNat-1)) (λh2 k post D2 U e hI k1 hct hrt hbk=>?_) (λU hI=>?_) #[[],_,none,none,none,none,none,none,none,none,none,none,zm _,λ_ h=>(nomatch h),rfl]
 .obtain⟨M,s1,o4,o5,o6,o7,o8,o9,h8,h7,h6,h5,hM,hF,rfl⟩:=hI;let hpl:h2.length<=7:=by let:=congrArg List.length e;rw[qq,List.length_range']at this;lia
  simp! [pZ];show LP ∅ λa s ha hs h3=>?_;simp! [aT];show VS ha hs h3 hc h9 ⋯ ⋯ ⋯ ⋯ λO a3 s3 hO ha3 r2 e4=>?_;let Z:gR v 6 6 O:=hO;simp! [aT];show Wu ha3 r2 e4 hc h9 ⋯ ⋯ ⋯ ⋯ (by let:=Z.1;lia) (λw hw=>#[by let:=(Z.2.2 w hw).2.1;lia,(Z.2.2 w hw).2.2]) λB a4 s4 hB hBF ha4 r1 e3=>?_;let h1:gR v 6 6 B:=hB;simp! [aT];show LG ha4 r1 e3 hc h9 ⋯ ⋯ (by let:=h1.1;lia) (λw hw=>#[by let:=(h1.2.2 w hw).2.1;lia,(h1.2.2 w hw).2.2]) λw a5 s5 hw hwc ha5 hq e1=>?_;let h12:w.length<=12:=hw;simp! [aT];show MR ∅ ?_;simp! [zan];show UN ha5 hq e1 ∅ λl a6 s6 hll k2 ha6 hs6 hs26=>?_;obtain⟨F,k3,hp,hm⟩:∃F:List Q4,F.length<=h2.length+1/\(∀c∈F,Z4 c)/\((l=[]/\F=M)\/(0<l.length/\l.length<25/\M++[(w,l,B,O)]=F)):=by
   rcases k2 with⟨h,_⟩|h
   .show#[M,Nat.le_succ_of_le hM,hF,.inl #[h,rfl]]
   .have h4:l.length<=24:=by lia
    obtain⟨z1,z2,z3⟩:=Rp h;obtain⟨x,r,rfl⟩:∃x r,l=x::r:=by cases l with
     |nil=>cases z2
     |cons x r=>show#[x,r,rfl]
    let hi:⇑x=some 0:=z2;obtain rfl:=qf hi;let hZ:Z4 (w,0::r,B,O):=#[h12,Bd.of h1,Bd.of Z,λb hb=>Gk (hBF b hb),h4,#[r,rfl,JQ z1 z3],v,hc3,λb hb=>(h1.2.2 b hb).2.2,λb hb=>(Z.2.2 b hb).2.2]
    show#[M++[(w,0::r,B,O)],by rw[qq];show succ_le_succ hM,λc hc=>?_,.inr #[Nat.succ_pos _,Nat.lt_succ_of_le h4,rfl]];rcases qz.mp hc with hc|hc
    .show hF c hc
    .rw[qv.mp hc];show hZ
  have c1:=Ey (F.map qD) ⇑(-2) none;let c2:=Ey (F.map qD) none (some 1);rw[qo]at c1 c2;let tail:∀x1 x4 x5 x6 x7 x8 x9 Y L J G:Option S,cV (dA [zJ 9,zJ 10,zJ 11,zJ 12]) gC (aP (F.map qD) ⇑(-2) none++aP (F.map qD) none (some 1)) D2 [⇑(.sh (.lst (ns.map .int))),x1,⇑(.sh (.str v)),⇑(.lst ((F.map qD).map .sh)),x4,x5,x6,x7,x8,x9,Y,L,J,G]:=by
   intro x1 x4 x5 x6 x7 x8 x9 Y L J G;rw[Lq,Lq,<-map_append];show Bo (λ_ U=>∃x9 Y L J G:Option S,U=[⇑(.sh (.lst (ns.map .int))),x1,⇑(.sh (.str v)),⇑(.lst ((F.map qD).map .sh)),x4,x5,x6,x7,x8,x9,Y,L,J,G]) (aP F ⇑(-2) none++aP F none (some 1)) (λpre2 c hd D3 U e2 hI hx hct2 hrt2 hbk2=>?_) (λU hI=>?_) #[x9,Y,L,J,G,rfl]
   .obtain⟨x9,Y,L,J,G,rfl⟩:=hI;let hcm:c∈F:=by
     let:c∈aP F ⇑(-2) none++aP F none (some 1):=by rw[<-e2];show qi _ qm
     rcases qz.mp this with h|h<;>show Ez h
    simp! [qD,length_cons,length_nil];show Bi (hp c hcm) λq=>hx _ #[_,_,_,_,_,rfl]
   .obtain⟨x9,Y,L,J,G,rfl⟩:=hI;show k1 _ #[F,_,_,_,_,_,_,_,_,_,_,_,by rw[qq];show k3,hp,rfl]
  rcases hm with⟨rfl,rfl⟩|⟨h0,h25,e2⟩
  rotate_left
  .simp! [aT,bK,length_map,show ↥((0:Int)<(l.length:Int))=true from decide_eq_true ∅,show ↥((l.length:Int)<25)=true from decide_eq_true ∅,length_cons,length_nil];show#[by simp only[bP];lia,?_];rw[show((M.map qD).map S.sh++[S.sh (.tup [.str w,.tup (l.map zV),zQ B,zQ O])])=(F.map qD).map S.sh by rw[<-e2,map_append,map_append];rfl];simp! [zan];show tail _ _ _ _ _ _ _ _ _ _ _
  .simp! [aT,bK,length_map,length_nil,Int.natCast_zero];show tail _ _ _ _ _ _ _ _ _ _ _
 .obtain⟨M,s1,o4,o5,o6,o7,o8,o9,h8,h7,h6,h5,hM,hF,rfl⟩:=hI;simp! [e_C];show Jf (w:=[]) (l:=[0]) (B:=[]) (O:=[]) Bd.nil Bd.nil (zero_le _) ⋯ (λ_ h=>(nomatch h)) (λ_ h=>(nomatch h)) ?_;rw[show(0::cK [] [] (eR [0]))=[0] from rfl];let e0:eK (bK [0]) (.tup [.int 0])=⇑true:=by show eK (.tup [.int 0]) (.tup [.int 0])=⇑true;unfold eK;rw[zk ⋯];simp
  simp! [length_cons,length_nil,e0]
end pu
end Law
section
set_option maxHeartbeats 4000000
namespace Law
open PySem PySem.Spec PyProof.Rows L2 FL
local macro_rules
 |`(tactic|trivial)=>`(tactic|first|exact Or.inl rfl|exact Or.inr rfl)
@[inline]def top(i:Nat):Stmt:=PySem.Challenge.pw_walktold_k75_zigzags_laid_in.main.body.getD i (.Pass #[0,0,0,0])
@[reducible]def lr:Stmt:=top 1
def wy:List Str:=["board","word"]
abbrev mr:List Str:=["board","word"]
def Jr:aE wy mr (aA lr):=AN
@[reducible]def lq:Stmt:=top 2
def wx:List Str:=["board","word"]
abbrev mq:List Str:=["board","word"]
def Jq:aE wx mq (aA lq):=AN
@[reducible]def lp:Stmt:=top 3
def wu:List Str:=["board","word","near","i","j","k"]
abbrev mn:List Str:=["board","word"]
def CM:aE wu mn (aA lp):=AN
@[reducible]def ll:Stmt:=top 5
def wt:List Str:=["board","word","near","left","place","places"]
abbrev ml:List Str:=["board","word"]
def Co:aE wt ml (aA ll):=AN
@[reducible]def lj:Stmt:=top 6
def wq:List Str:=["near","goal","left","front","behind","place","other"]
abbrev mj:List Str:=["near","goal"]
def BI:aE wq mj (aA lj):=AN
@[reducible]def lh:Stmt:=top 7
def wm:List Str:=["board","word","places","numbers"]
abbrev mi:List Str:=["board","word","places"]
def FJ:aE wm mi (aA lh):=AN
@[reducible]def lg:Stmt:=top 9
def wj:List Str:=["board","other","zigzags","number","word","places"]
abbrev mh:List Str:=["board","other"]
def CL:aE wj mh (aA lg):=AN
@[reducible]def lb:Stmt:=top 11
def wh:List Str:=["board","word","zigzag","numbers","steps","one","other"]
abbrev mf:List Str:=["board","word","zigzag"]
def CK:aE wh mf (aA lb):=AN
@[reducible]def la:Stmt:=top 13
def wg:List Str:=["word","zigzag","board","other","zigzags","laid","begin","end","way","number","places"]
abbrev me:List Str:=["word","zigzag","board","other"]
def Bt:aE wg me (aA la):=AN
@[reducible]def kz:Stmt:=top 15
def vz:List Str:=["_law_script","_law_k","_law_cell","_law_seed"]
abbrev md:List Str:=["_law_script","_law_k"]
def CJ:aE vz md (aA kz):=AN
@[reducible]def wA:Stmt:=top 16
def nz:List Str:=["_law_box_here","_law_many","_law_digit","_law_one"]
abbrev xF:List Str:=["_law_box_here","_law_many"]
def CO:aE nz xF (aA wA):=AN
@[reducible]def vZ:Stmt:=top 17
def ny:List Str:=["_law_box_here","_law_many","_law_left"]
abbrev xE:List Str:=["_law_box_here","_law_many"]
def DK:aE ny xE (aA vZ):=AN
@[reducible]def vY:Stmt:=top 18
def nv:List Str:=["_law_box_here","_law_colours_here","_law_most","_law_many"]
abbrev xD:List Str:=["_law_box_here","_law_colours_here","_law_most"]
def DJ:aE nv xD (aA vY):=AN
@[reducible]def vX:Stmt:=top 19
def nu:List Str:=["_law_box_here","_law_colours_here","_law_board_here","_law_one","_law_kind","_law_colour","_law_at"]
abbrev xC:List Str:=["_law_box_here","_law_colours_here","_law_board_here"]
def Bw:aE nu xC (aA vX):=AN
@[reducible]def vW:Stmt:=top 20
def nt:List Str:=["_law_box_here","_law_colours_here","_law_many","_law_most","_law_found","_law_k","_law_word_here"]
abbrev xB:List Str:=["_law_box_here","_law_colours_here","_law_many","_law_most"]
def Bv:aE nt xB (aA vW):=AN
@[reducible]def vV:Stmt:=top 21
def nr:List Str:=["_law_board_here","_law_text","_law_p","_law_most","_law_found","_law_one"]
abbrev xA:List Str:=["_law_board_here","_law_text","_law_p","_law_most"]
def CN:aE nr xA (aA vV):=AN
@[reducible]def vU:Stmt:=top 22
def nq:List Str:=["_law_box_here","_law_board_here","_law_colours_here","_law_most","_law_text","_law_p","_law_turn","_law_some","_law_one","_law_goal","_law_at"]
abbrev wZ:List Str:=["_law_box_here","_law_board_here","_law_colours_here","_law_most"]
def AB:aE nq wZ (aA vU):=AN
@[reducible]def vT:Stmt:=top 23
def nk:List Str:=["_law_board_here","_law_word_here","_law_found","_law_i","_law_j"]
abbrev wY:List Str:=["_law_board_here","_law_word_here"]
def BZ:aE nk wY (aA vT):=AN
@[reducible]def vS:Stmt:=top 24
def nj:List Str:=["_law_ties_here","_law_found","_law_ahead","_law_p","_law_some"]
abbrev wX:List Str:=["_law_ties_here"]
def Bh:aE nj wX (aA vS):=AN
@[reducible]def vR:Stmt:=top 25
def nh:List Str:=["_law_ties_here","_law_p","_law_steps","_law_here","_law_one","_law_q","_law_found"]
abbrev wW:List Str:=["_law_ties_here","_law_p"]
def Bg:aE nh wW (aA vR):=AN
@[reducible]def vQ:Stmt:=top 26
def ng:List Str:=["_law_box_here","_law_ties_here","_law_found","_law_turn","_law_more"]
abbrev wV:List Str:=["_law_box_here","_law_ties_here"]
def Bu:aE ng wV (aA vQ):=AN
@[reducible]def vP:Stmt:=top 27
def nc:List Str:=["_law_board_here","_law_word_here"]
abbrev wU:List Str:=["_law_board_here","_law_word_here"]
def FN:aE nc wU (aA vP):=AN
@[reducible]def vO:Stmt:=top 28
def mz:List Str:=["_law_box_here","_law_board_here","_law_colours_here","_law_many","_law_most","_law_found","_law_k","_law_word_here"]
abbrev wR:List Str:=["_law_box_here","_law_board_here","_law_colours_here","_law_many","_law_most"]
def BY:aE mz wR (aA vO):=AN
@[reducible]def vN:Stmt:=top 29
def my:List Str:=["_law_word_here","_law_places","_law_other","_law_found","_law_k","_law_low","_law_high","_law_inner"]
abbrev wQ:List Str:=["_law_word_here","_law_places","_law_other"]
def AU:aE my wQ (aA vN):=AN
@[reducible]def vM:Stmt:=top 30
def mx:List Str:=["_law_word_here"]
abbrev wO:List Str:=["_law_word_here"]
def FM:aE mx wO (aA vM):=AN
@[reducible]def vL:Stmt:=top 31
def mw:List Str:=["_law_board_here"]
abbrev wN:List Str:=["_law_board_here"]
def FK:aE mw wN (aA vL):=AN
@[reducible]def vK:Stmt:=top 32
def mv:List Str:=["_law_word_here","_law_places","_law_board_here","_law_other","_law_due_here","_law_found","_law_third"]
abbrev wM:List Str:=["_law_word_here","_law_places","_law_board_here","_law_other"]
def BX:aE mv wM (aA vK):=AN
@[reducible]def vJ:Stmt:=top 33
def mu:List Str:=["_law_script","_law_box_here","_law_colours_here","_law_met","_law_k","_law_other","_law_board_here","_law_word_here","_law_places","_law_one","_law_some","_law_first","_law_second","_law_back_here"]
abbrev wL:List Str:=["_law_script"]
def Aq:aE mu wL (aA vJ):=AN
structure Txt(K:W.Frag)(mg:Str->Option Value)(af:Nat->Addr):Prop where
 t_0:Tx K mg (af 0) "stretches" lr mr
 t_1:Tx K mg (af 1) "numbers_by_ends" lq mq
 t_2:Tx K mg (af 2) "neighbours" lp mn
 t_3:Tx K mg (af 3) "zigzag" ll ml
 t_4:Tx K mg (af 4) "steps_left" lj mj
 t_5:Tx K mg (af 5) "is_zigzag" lh mi
 t_6:Tx K mg (af 6) "fixes" lg mh
 t_7:Tx K mg (af 7) "steps_of" lb mf
 t_8:Tx K mg (af 8) "laid_in" la me
 t_9:Tx K mg (af 9) "_law_box" kz md
 t_10:Tx K mg (af 10) "_law_take" wA xF
 t_11:Tx K mg (af 11) "_law_colours" vZ xE
 t_12:Tx K mg (af 12) "_law_word" vY xD
 t_13:Tx K mg (af 13) "_law_near" vX xC
 t_14:Tx K mg (af 14) "_law_board" vW xB
 t_15:Tx K mg (af 15) "_law_moves" vV xA
 t_16:Tx K mg (af 16) "_law_led" vU wZ
 t_17:Tx K mg (af 17) "_law_ties" vT wY
 t_18:Tx K mg (af 18) "_law_lands" vS wX
 t_19:Tx K mg (af 19) "_law_way" vR wW
 t_20:Tx K mg (af 20) "_law_zigzag" vQ wV
 t_21:Tx K mg (af 21) "_law_fixed" vP wU
 t_22:Tx K mg (af 22) "_law_fixed_words" vO wR
 t_23:Tx K mg (af 23) "_law_due" vN wQ
 t_24:Tx K mg (af 24) "_law_back" vM wO
 t_25:Tx K mg (af 25) "_law_back_all" vL wN
 t_26:Tx K mg (af 26) "_law_right" vK wM
 t_27:Tx K mg (af 27) "law" vJ wL
 n_all:mg "all"=none
 n_enumerate:mg "enumerate"=none
 n_int:mg "int"=none
 n_isinstance:mg "isinstance"=none
 n_len:mg "len"=none
 n_list:mg "list"=none
 n_max:mg "max"=none
 n_min:mg "min"=none
 n_range:mg "range"=none
 n_repr:mg "repr"=none
 n_reversed:mg "reversed"=none
 n_set:mg "set"=none
 n_sorted:mg "sorted"=none
 n_tuple:mg "tuple"=none
 n_zip:mg "zip"=none
section
variable{P:Program}{w:World}{K:W.Frag}{mg:Str->Option Value}{base:Heap}{af:Nat->Addr}
def Ge(T:Txt K mg af):fM P w K mg base af 1 0 mr (eF K jd 2):=AO T.t_0 Jr λ_ _ _ _ _ _ v=>Ah (AA (GY (by rfl) T.n_sorted FC (Aa (OQ (vars:=["i","k","one"]) rfl (UD v) (by rfl) (Ak (by kernel_rfl)) rfl (Dj (by rfl) T.n_range (Av (by rfl) T.n_len (Aa (fw 1) Ab))) (λ_ _ _=>Bc 3) (λ_ _ _=>BV) (λ_ _ _=>HM (by rfl) (by rfl) T.n_enumerate Jg (fw 0)) (λ_ _ _=>Ce (by rfl) (AI (Bc 4) (AI (Bc 5) Ci))) (λ_ _ _=>GD rfl (Aw (λ_ _=>Cu (CB v)) CA (ER (fw 1) (fw 3) (Au (fw 3) (Av (by rfl) T.n_len (Aa (fw 5) Ab)))) (fw 5) (Ac _))) (λ_ _ _=>AX (Aa (fw 3) (Aa (Au (fw 3) (Av (by rfl) T.n_len (Aa (fw 5) Ab))) (Aa (fw 4) Ab))))) Ab)))
def Jw(T:Txt K mg af):fM P w K mg base af 1 4 mj (eF K jy 2):=AO T.t_4 BI λ_ _ _ _ _ _ v=>Ae (Am (Mb (fw 1) Ad) (Af 2 BI.nd))
  (Ae (Am (AF (AW (Aa (fw 1) Ab))) (Af 3 BI.nd))
  (Ae (Fq (En (fw 3)) (Ae (Am (AW Ab) (Af 4 BI.nd))
  (Ae (Bn (by rfl) (BC (fw 3)) (Af 5 BI.nd) (Ah (Bn (by rfl) (BC (As (fw 0) (fw 5))) (Af 6 BI.nd) (Ah (AK (Aw (λ_ _=>Ex (Bb v)) EE (fw 6) (fw 2) (by with_unfolding_all rfl)) (Ae (Kz (j:=2) (CC v) (fw 2) (fw 6) (Au (Dz (CC v) (fw 2) (fw 5)) Ad))
  (Ah (Bp (Cy (j:=4) (fw 4) (fw 6))))) AQ)))))
  (Ah (Am (fw 4) (Af 3 BI.nd))))))
  (Ah (AA (fw 2)))))
def FP(T:Txt K mg af):fM P w K mg base af 1 9 md (eF K jb 2):=AO T.t_9 CJ λ_ _ _ _ _ _ v=>Ae (Am (Au (Dm Ad (fw 1)) Ad) (Af 2 CJ.nd))
  (Ae (AK (Aw (λ_ _=>EL) EY (fw 1) (Av (by rfl) T.n_len (Aa (fw 0) Ab)) (Ac _)) (Ah (Am (As (fw 0) (fw 1)) (Af 2 CJ.nd))) (Ah (AK (Aw (λ_ _=>El) Ep (Av (by rfl) T.n_len (Aa (fw 0) Ab)) Ad (Ac _)) (Ah (Am (Au (fw 2) (Dm (Dy (As (fw 0) (Dy (fw 1) (Av (by rfl) T.n_len (Aa (fw 0) Ab)))) Ad) Ad)) (Af 2 CJ.nd))) AQ)))
  (Ae (Am (Au (Dy (Au (Dm (Dy (fw 2) Ad) Ad) (Dm Ad (fw 1))) Ad) Ad) (Af 3 CJ.nd))
  (Ah (AA (AW (Aa (As (AW (Aa Ad (Aa (fw 2) Ab))) (HX (by rfl) T.n_int Hx (Aa (DA (λ_ _=>Kn) KE (fw 2) (Pa Ad Ad) (Ac _)) Ab))) (Aa (fw 3) Ab)))))))
def An(T:Txt K mg af):fM P w K mg base af 1 10 xF (eF K cU 2):=AO T.t_10 CO λ_ _ _ _ _ _ v=>Ae (AK (Aw (λ_ _=>El) Ep (As (fw 0) Ad) Ad (Ac _)) (Ae (Am (Dy (As (fw 0) Ad) (fw 1)) (Af 2 CO.nd))
  (Ae (Iw (j:=0) (fw 0) Ad (Kv (As (fw 0) Ad) (fw 1)))
  (Ah (AA (fw 2))))) AQ)
  (Ae (Am (Dy (Dm (As (fw 0) Ad) Ad) Ad) (Af 3 CO.nd))
  (Ae (Iw (j:=0) (fw 0) Ad (Au (Dy (Au (Dm (fw 3) Ad) Ad) Ad) Ad))
  (Ah (AA (Dy (Kv (Au (Dm (fw 3) Ad) (As (fw 0) Ad)) Ad) (fw 1))))))
def FY(T:Txt K mg af):fM P w K mg base af 1 15 xA (eF K uJ 4):=AO T.t_15 CN λ_ _ _ _ _ _ v=>Ae (Am (AW Ab) (Af 4 CN.nd))
  (Ae (Bn (by rfl) (BC (fw 0)) (Af 5 CN.nd) (Ae (AK (Dx (Em (Aw (λ_ _=>Cu (CB v)) CA (ER (fw 1) (fw 2) (Au (fw 2) (Av (by rfl) T.n_len (Aa (fw 5) Ab)))) (Ek (fw 5) (Cf (Av (by rfl) T.n_len (Aa (fw 1) Ab)) (fw 2))) (Ac _)) (Fc (Aw (λ_ _=>Pl) Qk (Au (fw 2) (Av (by rfl) T.n_len (Aa (fw 5) Ab))) (fw 3) (Ac _))))) (Ah (Bp (Cy (j:=4) (fw 4) (AX (Aa (fw 5) (Aa (Au (fw 2) (Av (by rfl) T.n_len (Aa (fw 5) Ab))) Ab)))))) AQ)
  (Ah (AK (Dx (Em (Aw (λ_ _=>Kn) KE (fw 2) (Av (by rfl) T.n_len (Aa (fw 5) Ab)) (Ac _)) (Fc (Aw (λ_ _=>Cu (CB v)) CA (ER (fw 1) (Cf (fw 2) (Av (by rfl) T.n_len (Aa (fw 5) Ab))) (fw 2)) (fw 5) (Ac _))))) (Ah (Bp (Cy (j:=4) (fw 4) (AX (Aa (fw 5) (Aa (Cf (fw 2) (Av (by rfl) T.n_len (Aa (fw 5) Ab))) Ab)))))) AQ))))
  (Ah (AA (fw 4))))
def CS(T:Txt K mg af):fM P w K mg base af 1 17 wY (eF K mO 2):=AO T.t_17 BZ λ_ _ _ _ _ _ v=>Ae (Fz (i:=2) ⋯ (λj F=>EA BZ.nd F rfl) rfl (by rfl) (by rfl) (vars:=["_law_p"]) rfl (by rfl) (Ak (by kernel_rfl)) rfl (Dj (by rfl) T.n_range (Au (Av (by rfl) T.n_len (Aa (fw 1) Ab)) Ad)) (λ_ _ _=>Bc 6) (λ_ _ _=>BV) (λ_ _ _=>AW Ab))
  (Ae (Bn (by rfl) (Dj (by rfl) T.n_range (Av (by rfl) T.n_len (Aa (fw 1) Ab))) (Af 3 BZ.nd) (Ah (Bn (by rfl) (IP (by rfl) T.n_range (Au (fw 3) Ad) (Au (Av (by rfl) T.n_len (Aa (fw 1) Ab)) Ad)) (Af 4 BZ.nd) (Ah (AK (Aw (λ_ _=>Kj (Bb v)) Mf (ER (fw 1) (fw 3) (fw 4)) (fw 0) (by with_unfolding_all rfl)) (Ae (Bp (Hg (j:=2) (fw 2) (fw 3) (fw 4)))
  (Ah (Bp (Hg (j:=2) (fw 2) (fw 4) (fw 3))))) AQ)))))
  (Ah (AA (Dg (vars:=["_law_some"]) rfl (by rfl) (Ak (by kernel_rfl)) rfl (BC (fw 2)) (λ_ _ _=>Bc 6) (λ_ _ _=>BV) (λ_ _ _=>AF (GY (by rfl) T.n_sorted FC (Aa (fw 6) Ab)))))))
def FX(T:Txt K mg af):fM P w K mg base af 1 18 wX (eF K uI 1):=AO T.t_18 Bh λ_ _ _ _ _ _ v=>Ae (Am (SL (by rfl) (by rfl) T.n_list Fb (by rfl) T.n_range (Av (by rfl) T.n_len (Aa (fw 0) Ab))) (Af 1 Bh.nd))
  (Ae (Am (AF (AW Ab)) (Af 2 Bh.nd))
  (Ae (Fq (Aw (λ_ _=>BS (Bb v)) Cg (fw 2) (fw 1) (Ac _)) (Ae (Am (AF (Ip (by rfl) (by rfl) T.n_list Fb (Aa (fw 1) Ab))) (Af 2 Bh.nd))
  (Ah (Bn (by rfl) (HM (by rfl) (by rfl) T.n_enumerate Jg (fw 0)) (Ce (by rfl) (AI (Af 3 Bh.nd) (AI (Af 4 Bh.nd) Ci))) (Ah (Iw (j:=1) (fw 1) (fw 3) (HR (by rfl) (by rfl) T.n_min DW (Aa (Au (AW (Aa (As (fw 1) (fw 3)) Ab)) (Dg (vars:=["_law_q"]) rfl (by rfl) (Ak (by kernel_rfl)) rfl (BC (fw 4)) (λ_ _ _=>Bc 6) (λ_ _ _=>BV) (λ_ _ _=>As (fw 1) (fw 6)))) Ab))))))))
  (Ah (AA (fw 1)))))
def DO(T:Txt K mg af):fM P w K mg base af 1 19 wW (eF K pU 2):=AO T.t_19 Bg λ_ _ _ _ _ _ v=>Ae (Am (Mb (Cf (Av (by rfl) T.n_len (Aa (fw 0) Ab)) Ad) Ad) (Af 2 Bg.nd))
  (Ae (Am (AW (Aa (Cf (Av (by rfl) T.n_len (Aa (fw 0) Ab)) Ad) Ab)) (Af 3 Bg.nd))
  (Ae (Fq (Aw (λ_ _=>BS (Bb v)) Cg (fw 3) (AW Ab) (Ac _)) (Ae (Am (AF (LK (j:=3) (fw 3) Ad)) (Af 4 Bg.nd))
  (Ah (Bn (by rfl) (BC (As (fw 0) (fw 4))) (Af 5 Bg.nd) (Ah (AK (Aw (λ_ _=>Ex (Bb v)) EE (fw 5) (fw 2) (by with_unfolding_all rfl)) (Ae (Kz (j:=2) (CC v) (fw 2) (fw 5) (Au (Dz (CC v) (fw 2) (fw 4)) Ad))
  (Ah (Bp (Cy (j:=3) (fw 3) (fw 5))))) AQ))))))
  (Ae (AK (Aw (λ_ _=>Ex (Bb v)) EE (fw 1) (fw 2) (by with_unfolding_all rfl)) (Ah (AA (AX Ab))) AQ)
  (Ae (Am (AW (Aa (fw 1) Ab)) (Af 6 Bg.nd))
  (Ae (Fq (Aw (λ_ _=>BS (Bb v)) Cg (As (fw 6) (Dh Ad)) (Cf (Av (by rfl) T.n_len (Aa (fw 0) Ab)) Ad) (Ac _)) (Ah (Bp (Cy (j:=6) (fw 6) (AF (HR (by rfl) (by rfl) T.n_min DW (Aa (Dg (vars:=["_law_q"]) rfl (by rfl) (Ak (by kernel_rfl)) rfl (BC (As (fw 0) (As (fw 6) (Dh Ad)))) (λ_ _ _=>Bc 8) (λ_ _ _=>GD rfl (Aw (λ_ _=>Cu (CB v)) CA (Dz (CC v) (fw 2) (fw 8)) (Cf (Dz (CC v) (fw 2) (As (fw 6) (Dh Ad))) Ad) (Ac _))) (λ_ _ _=>fw 8)) Ab)))))))
  (Ah (AA (CD (by rfl) T.n_tuple Cz (Aa (fw 6) Ab)))))))))
def DM(T:Txt K mg af):fM P w K mg base af 1 24 wO (eF K pQ 1):=AO T.t_24 FM λ_ _ _ _ _ _ v=>Ah (AA (Vn (by rfl) (by rfl) T.n_reversed (BE (by rfl) ⋯) (Ip (by rfl) (by rfl) T.n_list Fb (Aa (fw 0) Ab))))
def Gd(T:Txt K mg af):fM P w K mg base af 2 1 mq (eF K jc 2):=AO T.t_1 Jq λ_ _ _ _ _ _ v=>Ah (AA (Ou true (vars:=["i","j","k"]) rfl (Pn v) (by rfl) (Ak (by kernel_rfl)) rfl (BC (Ao [true,true] T.t_0 (Ge T) v (Aa (fw 0) (Aa (fw 1) Ab)))) (λ_ _ _=>Ce (by rfl) (AI (Bc 3) (AI (Bc 4) (AI (Bc 5) Ci)))) (λ_ _ _=>BV) (λ_ _ _=>AX (Aa (fw 3) (Aa (fw 4) Ab))) (λ_ _ _=>fw 5)))
def Jy(T:Txt K mg af):fM P w K mg base af 2 2 mn (eF K ka 2):=AO T.t_2 CM λ_ _ _ _ _ _ v=>Ae (Fz (i:=2) ⋯ (λj F=>EA CM.nd F rfl) rfl (by rfl) (by rfl) (vars:=["place"]) rfl (by rfl) (Ak (by kernel_rfl)) rfl (Dj (by rfl) T.n_range (Au (Av (by rfl) T.n_len (Aa (fw 1) Ab)) Ad)) (λ_ _ _=>Bc 7) (λ_ _ _=>BV) (λ_ _ _=>AW Ab))
  (Ae (Bn (by rfl) (BC (Ao [true,true] T.t_0 (Ge T) v (Aa (fw 0) (Aa (fw 1) Ab)))) (Ce (by rfl) (AI (Af 3 CM.nd) (AI (Af 4 CM.nd) (AI (Af 5 CM.nd) Ci)))) (Ae (Bp (Hg (j:=2) (fw 2) (fw 3) (fw 4)))
  (Ah (Bp (Hg (j:=2) (fw 2) (fw 4) (fw 3))))))
  (Ah (AA (Dg (vars:=["places"]) rfl (by rfl) (Ak (by kernel_rfl)) rfl (BC (fw 2)) (λ_ _ _=>Bc 7) (λ_ _ _=>BV) (λ_ _ _=>AF (GY (by rfl) T.n_sorted FC (Aa (fw 7) Ab)))))))
def Gc(T:Txt K mg af):fM P w K mg base af 2 11 xE (eF K uN 2):=AO T.t_11 DK λ_ _ _ _ _ _ v=>Ae (Am (Ip (by rfl) (by rfl) T.n_list Fb (Aa (BE (by rfl) ⋯) Ab)) (Af 2 DK.nd))
  (Ah (AA (HW (BE (by rfl) ⋯) (Aa (GY (by rfl) T.n_sorted FC (Aa (Dg (vars:=["_law_k"]) rfl (by rfl) (Ak (by kernel_rfl)) rfl (Dj (by rfl) T.n_range (fw 1)) (λ_ _ _=>Bc 4) (λ_ _ _=>BV) (λ_ _ _=>AF (LK (j:=2) (fw 2) (Ao [true,true] T.t_10 (An T) v (Aa (fw 0) (Aa (Av (by rfl) T.n_len (Aa (fw 2) Ab)) Ab)))))) Ab)) Ab))))
def Gb(T:Txt K mg af):fM P w K mg base af 2 12 xD (eF K uM 3):=AO T.t_12 DJ λ_ _ _ _ _ _ v=>Ae (Am (Dm (Ao [true,true] T.t_10 (An T) v (Aa (fw 0) (Aa (Au (fw 2) Ad) Ab))) (HX (by rfl) T.n_int Hx (Aa (DA (λ_ _=>BS (Bb v)) Cg (fw 1) (BE (by rfl) ⋯) (Ac _)) Ab))) (Af 3 DJ.nd))
  (Ah (AA (HW (BE (by rfl) ⋯) (Aa (Dg (vars:=["_law_k"]) rfl (by rfl) (Ak (by kernel_rfl)) rfl (Dj (by rfl) T.n_range (fw 3)) (λ_ _ _=>Bc 5) (λ_ _ _=>BV) (λ_ _ _=>As (fw 1) (Ao [true,true] T.t_10 (An T) v (Aa (fw 0) (Aa (Av (by rfl) T.n_len (Aa (fw 1) Ab)) Ab))))) Ab))))
def Ga(T:Txt K mg af):fM P w K mg base af 2 13 xC (eF K uL 3):=AO T.t_13 Bw λ_ _ _ _ _ _ v=>Ae (Am (As (fw 2) (Ao [true,true] T.t_10 (An T) v (Aa (fw 0) (Aa (Av (by rfl) T.n_len (Aa (fw 2) Ab)) Ab)))) (Af 3 Bw.nd))
  (Ae (Am (Ao [true,true] T.t_10 (An T) v (Aa (fw 0) (Aa Ad Ab))) (Af 4 Bw.nd))
  (Ae (Am (As (fw 1) (Ao [true,true] T.t_10 (An T) v (Aa (fw 0) (Aa (Av (by rfl) T.n_len (Aa (fw 1) Ab)) Ab)))) (Af 5 Bw.nd))
  (Ae (Am (Ao [true,true] T.t_10 (An T) v (Aa (fw 0) (Aa (Av (by rfl) T.n_len (Aa (fw 3) Ab)) Ab))) (Af 6 Bw.nd))
  (Ah (AA (As (AW (Aa (Ek (fw 3) (Au (fw 6) Ad)) (Aa (De (fw 3) (fw 6)) (Aa (Au (fw 5) (fw 3)) (Aa (Au (fw 3) (fw 5)) (Aa (Au (fw 3) (fw 3)) Ab)))))) (fw 4)))))))
def DP(T:Txt K mg af):fM P w K mg base af 2 16 wZ (eF K pV 4):=AO T.t_16 AB λ_ _ _ _ _ _ v=>Ae (Am (AX (Aa (BE (by rfl) ⋯) (Aa Ad Ab))) (Ce (by rfl) (AI (Af 4 AB.nd) (AI (Af 5 AB.nd) Ci))))
  (Ae (Bn (by rfl) (Dj (by rfl) T.n_range (Au Ad (Ao [true,true] T.t_10 (An T) v (Aa (fw 0) (Aa Ad Ab))))) (Af 6 AB.nd) (Ae (Am (AF (Ao [true,true,true,true] T.t_15 (FY T) v (Aa (fw 1) (Aa (fw 4) (Aa (fw 5) (Aa (fw 3) Ab)))))) (Af 7 AB.nd))
  (Ae (AK (Aw (λ_ _=>El) Ep (fw 6) Ad (Ac _)) (Ah (JM (Fz (i:=7) ⋯ (λj F=>EA AB.nd F rfl) rfl (by rfl) (by rfl) (vars:=["_law_move"]) rfl (by rfl) (Ak (by kernel_rfl)) rfl (BC (fw 7)) (λ_ _ _=>Bc 12) (λ_ _ _=>GD rfl (Aw (λ_ _=>El) Ep (As (fw 12) Ad) (fw 5) (Ac _))) (λ_ _ _=>fw 12)))) AQ)
  (Ah (AK (Aw (λ_ _=>BS (Bb v)) Cg (fw 7) (AW Ab) (Ac _)) (Ae (Am (As (fw 7) (Ao [true,true] T.t_10 (An T) v (Aa (fw 0) (Aa (Av (by rfl) T.n_len (Aa (fw 7) Ab)) Ab)))) (Ce (by rfl) (AI (Af 8 AB.nd) (AI (Af 9 AB.nd) Ci))))
  (Ae (AK (Aw (λ_ _=>El) Ep (fw 9) (fw 5) (Ac _)) (Ah (Am (Au (Au (Ek (fw 4) (fw 5)) (fw 8)) (De (fw 4) (fw 9))) (Af 4 AB.nd))) AQ)
  (Ah (Am (fw 9) (Af 5 AB.nd))))) AQ)))))
  (Ae (AK (Dx (Em (Aw (λ_ _=>BS (Bb v)) Cg (fw 4) (BE (by rfl) ⋯) (Ac _)) (Fc (Aw (λ_ _=>Cu (CB v)) CA (Ao [true,true] T.t_10 (An T) v (Aa (fw 0) (Aa Ad Ab))) Ad (Ac _))))) (Ae (Am (Ao [true,true] T.t_10 (An T) v (Aa (fw 0) (Aa (Av (by rfl) T.n_len (Aa (fw 4) Ab)) Ab))) (Af 10 AB.nd))
  (Ah (Am (Au (Au (Ek (fw 4) (fw 10)) (As (fw 2) (Ao [true,true] T.t_10 (An T) v (Aa (fw 0) (Aa (Av (by rfl) T.n_len (Aa (fw 2) Ab)) Ab))))) (De (fw 4) (Au (fw 10) Ad))) (Af 4 AB.nd)))) AQ)
  (Ah (AA (fw 4)))))
def FV(T:Txt K mg af):fM P w K mg base af 2 20 wV (eF K uH 2):=AO T.t_20 Bu λ_ _ _ _ _ _ v=>Ae (Am (AX (Aa Ad Ab)) (Af 2 Bu.nd))
  (Ae (Bn (by rfl) (Dj (by rfl) T.n_range (Ao [true,true] T.t_10 (An T) v (Aa (fw 0) (Aa Ad Ab)))) (Af 3 Bu.nd) (Ah (AK (Aw (λ_ _=>BS (Bb v)) Cg (As (fw 1) (As (fw 2) (Dh Ad))) (AW Ab) (Ac _)) (Ah (Am (Au (fw 2) (AX (Aa (As (As (fw 1) (As (fw 2) (Dh Ad))) (Ao [true,true] T.t_10 (An T) v (Aa (fw 0) (Aa (Av (by rfl) T.n_len (Aa (As (fw 1) (As (fw 2) (Dh Ad))) Ab)) Ab)))) Ab))) (Af 2 Bu.nd))) AQ)))
  (Ae (Am (AF (Ao [true,true] T.t_19 (DO T) v (Aa (fw 1) (Aa (As (fw 2) (Dh Ad)) Ab)))) (Af 4 Bu.nd))
  (Ae (AK (Aw (λ_ _=>Cu (CB v)) CA (fw 4) (AX Ab) (Ac _)) (Ah (AA (AX Ab))) AQ)
  (Ah (AA (Au (fw 2) (De (fw 4) Ad)))))))
def FU(T:Txt K mg af):fM P w K mg base af 2 21 wU (eF K pS 2):=AO T.t_21 FN λ_ _ _ _ _ _ v=>Ah (AA (DA (λ_ _=>Cu (CB v)) CA (As (Ao [true] T.t_18 (FX T) v (Aa (AF (Ao [true,true] T.t_17 (CS T) v (Aa (fw 0) (Aa (fw 1) Ab)))) Ab)) (Dh Ad)) Ad (Ac _)))
def DN(T:Txt K mg af):fM P w K mg base af 2 23 wQ (eF K pR 3):=AO T.t_23 AU λ_ _ _ _ _ _ v=>Ae (Am (AF (AW (Aa (As (fw 1) Ad) Ab))) (Af 3 AU.nd))
  (Ae (Bn (by rfl) (IP (by rfl) T.n_range Ad (Av (by rfl) T.n_len (Aa (fw 1) Ab))) (Af 4 AU.nd) (Ae (Am (AX (Aa (Gs (by rfl) (by rfl) T.n_min DW (Aa (As (fw 1) (Cf (fw 4) Ad)) (Aa (As (fw 1) (fw 4)) Ab))) (Aa (HI (by rfl) (by rfl) T.n_max HF (Aa (As (fw 1) (Cf (fw 4) Ad)) (Aa (As (fw 1) (fw 4)) Ab))) Ab))) (Ce (by rfl) (AI (Af 5 AU.nd) (AI (Af 6 AU.nd) Ci))))
  (Ae (JM (Fz (i:=7) ⋯ (λj F=>EA AU.nd F rfl) rfl (by rfl) (by rfl) (vars:=["_law_place"]) rfl (by rfl) (Ak (by kernel_rfl)) rfl (BC (Ao [true,true] T.t_19 (DO T) v (Aa (AF (Ao [true,true] T.t_17 (CS T) v (Aa (fw 2) (Aa (ER (fw 0) (fw 5) (fw 6)) Ab)))) (Aa Ad Ab)))) (λ_ _ _=>Bc 9) (λ_ _ _=>BV) (λ_ _ _=>Au (fw 5) (fw 9))))
  (Ae (AK (Aw (λ_ _=>EL) EY (As (fw 1) (fw 4)) (As (fw 1) (Cf (fw 4) Ad)) (Ac _)) (Ah (Am (AF (We (by rfl) (by rfl) T.n_list Fb (by rfl) T.n_reversed (fw 7))) (Af 7 AU.nd))) AQ)
  (Ah (Am (Au (fw 3) (De (fw 7) Ad)) (Af 3 AU.nd)))))))
  (Ah (AA (CD (by rfl) T.n_tuple Cz (Aa (fw 3) Ab)))))
def DL(T:Txt K mg af):fM P w K mg base af 2 25 wN (eF K pP 1):=AO T.t_25 FK λ_ _ _ _ _ _ v=>Ah (AA (CD (by rfl) T.n_tuple Cz (Aa (Dg (vars:=["_law_word_here"]) rfl (by rfl) (Ak (by kernel_rfl)) rfl (BC (fw 0)) (λ_ _ _=>Bc 2) (λ_ _ _=>BV) (λ_ _ _=>AF (Ao [true] T.t_24 (DM T) v (Aa (fw 2) Ab)))) Ab)))
def Jx(T:Txt K mg af):fM P w K mg base af 3 3 ml (eF K jz 2):=AO T.t_3 Co λ_ _ _ _ _ _ v=>Ae (Am (AF (Ao [true,true] T.t_2 (Jy T) v (Aa (fw 0) (Aa (fw 1) Ab)))) (Af 2 Co.nd))
  (Ae (Am (AF (Ao [true,true] T.t_4 (Jw T) v (Aa (fw 2) (Aa (Av (by rfl) T.n_len (Aa (fw 1) Ab)) Ab)))) (Af 3 Co.nd))
  (Ae (AK (Aw (λ_ _=>Ex (Bb v)) EE Ad (fw 3) (by with_unfolding_all rfl)) (Ah (AA Ki)) AQ)
  (Ae (Am Ad (Af 4 Co.nd))
  (Ae (Am (AW (Aa (fw 4) Ab)) (Af 5 Co.nd))
  (Ae (Fq (Aw (λ_ _=>BS (Bb v)) Cg (fw 4) (Av (by rfl) T.n_len (Aa (fw 1) Ab)) (Ac _)) (Ae (Am (AF (HR (by rfl) (by rfl) T.n_min DW (Aa (Dg (vars:=["other"]) rfl (by rfl) (Ak (by kernel_rfl)) rfl (BC (As (fw 2) (fw 4))) (λ_ _ _=>Bc 7) (λ_ _ _=>GD rfl (Aw (λ_ _=>Cu (CB v)) CA (Dz (CC v) (fw 3) (fw 7)) (Cf (Dz (CC v) (fw 3) (fw 4)) Ad) (Ac _))) (λ_ _ _=>fw 7)) Ab))) (Af 4 Co.nd))
  (Ah (Bp (Cy (j:=5) (fw 5) (fw 4))))))
  (Ah (AA (CD (by rfl) T.n_tuple Cz (Aa (fw 5) Ab)))))))))
def Jv(T:Txt K mg af):fM P w K mg base af 3 5 mi (eF K jx 3):=AO T.t_5 FJ λ_ _ _ _ _ _ v=>Ae (AK (Dx (Gm (Aw (λ_ _=>Cu (CB v)) CA (Av (by rfl) T.n_len (Aa (fw 2) Ab)) Ad (Ac _)) (Gm (Aw (λ_ _=>BS (Bb v)) Cg (As (fw 2) Ad) Ad (Ac _)) (HD (Aw (λ_ _=>BS (Bb v)) Cg (As (fw 2) (Dh Ad)) (Av (by rfl) T.n_len (Aa (fw 1) Ab)) (Ac _)))))) (Ah (AA Eh)) AQ)
  (Ae (Am (AF (Ao [true,true] T.t_1 (Gd T) v (Aa (fw 0) (Aa (fw 1) Ab)))) (Af 3 FJ.nd))
  (Ah (AA (PJ (by rfl) (by rfl) T.n_all Pc (Aa (Dg (vars:=["one","other"]) rfl (by rfl) (Ak (by kernel_rfl)) rfl (Kb (by rfl) (by rfl) T.n_zip HB (fw 2) (De (fw 2) Ad)) (λ_ _ _=>Ce (by rfl) (AI (Bc 5) (AI (Bc 6) Ci))) (λ_ _ _=>BV) (λ_ _ _=>DA (λ_ _=>Kj (Bb v)) Mf (AX (Aa (Gs (by rfl) (by rfl) T.n_min DW (Aa (fw 5) (Aa (fw 6) Ab))) (Aa (HI (by rfl) (by rfl) T.n_max HF (Aa (fw 5) (Aa (fw 6) Ab))) Ab))) (fw 3) (by with_unfolding_all rfl))) Ab)))))
def Jt(T:Txt K mg af):fM P w K mg base af 3 7 mf (eF K jv 3):=AO T.t_7 CK λ_ _ _ _ _ _ v=>Ae (Am (AF (Ao [true,true] T.t_1 (Gd T) v (Aa (fw 0) (Aa (fw 1) Ab)))) (Af 3 CK.nd))
  (Ae (Am (AW Ab) (Af 4 CK.nd))
  (Ae (Bn (by rfl) (Kb (by rfl) (by rfl) T.n_zip HB (fw 2) (De (fw 2) Ad)) (Ce (by rfl) (AI (Af 5 CK.nd) (AI (Af 6 CK.nd) Ci))) (Ah (AK (Aw (λ_ _=>EL) EY (fw 5) (fw 6) (Ac _)) (Ah (Bp (Cy (j:=4) (fw 4) (AX (Aa (BE (by rfl) ⋯) (Aa (Dz (CC v) (fw 3) (AX (Aa (fw 5) (Aa (fw 6) Ab)))) Ab)))))) (Ah (Bp (Cy (j:=4) (fw 4) (AX (Aa (BE (by rfl) ⋯) (Aa (Dz (CC v) (fw 3) (AX (Aa (fw 6) (Aa (fw 5) Ab)))) Ab)))))))))
  (Ah (AA (CD (by rfl) T.n_tuple Cz (Aa (fw 4) Ab))))))
def FZ(T:Txt K mg af):fM P w K mg base af 3 14 xB (eF K uK 4):=AO T.t_14 Bv λ_ _ _ _ _ _ v=>Ae (Am (AW Ab) (Af 4 Bv.nd))
  (Ae (Bn (by rfl) (Dj (by rfl) T.n_range (Dm (Ao [true,true] T.t_10 (An T) v (Aa (fw 0) (Aa (Au (fw 2) Ad) Ab))) (HX (by rfl) T.n_int Hx (Aa (DA (λ_ _=>BS (Bb v)) Cg (fw 1) (BE (by rfl) ⋯) (Ac _)) Ab)))) (Af 5 Bv.nd) (Ae (Am (Au (As (fw 1) (Ao [true,true] T.t_10 (An T) v (Aa (fw 0) (Aa (Av (by rfl) T.n_len (Aa (fw 1) Ab)) Ab)))) (Ao [true,true,true] T.t_12 (Gb T) v (Aa (fw 0) (Aa (fw 1) (Aa (Cf (fw 3) Ad) Ab))))) (Af 6 Bv.nd))
  (Ae (AK (Dx (Em (Aw (λ_ _=>BS (Bb v)) Cg (fw 4) (AW Ab) (Ac _)) (Fc (Aw (λ_ _=>Cu (CB v)) CA (Ao [true,true] T.t_10 (An T) v (Aa (fw 0) (Aa Ad Ab))) Ad (Ac _))))) (Ah (Am (Ek (Ao [true,true,true] T.t_13 (Ga T) v (Aa (fw 0) (Aa (fw 1) (Aa (fw 4) Ab)))) (fw 3)) (Af 6 Bv.nd))) AQ)
  (Ah (AK (Aw (λ_ _=>Ex (Bb v)) EE (fw 6) (fw 4) (by with_unfolding_all rfl)) (Ah (Bp (Cy (j:=4) (fw 4) (fw 6)))) AQ)))))
  (Ah (AA (CD (by rfl) T.n_tuple Cz (Aa (fw 4) Ab)))))
def FR(T:Txt K mg af):fM P w K mg base af 3 22 wR (eF K uG 5):=AO T.t_22 BY λ_ _ _ _ _ _ v=>Ae (Am (AW Ab) (Af 5 BY.nd))
  (Ae (Bn (by rfl) (Dj (by rfl) T.n_range (Ao [true,true] T.t_10 (An T) v (Aa (fw 0) (Aa (Au (fw 3) Ad) Ab)))) (Af 6 BY.nd) (Ae (Am (AF (Ao [true,true,true,true] T.t_16 (DP T) v (Aa (fw 0) (Aa (fw 1) (Aa (fw 2) (Aa (fw 4) Ab)))))) (Af 7 BY.nd))
  (Ah (AK (Dx (Em (Aw (λ_ _=>BS (Bb v)) Cg (fw 7) (BE (by rfl) ⋯) (Ac _)) (Em (Aw (λ_ _=>Ex (Bb v)) EE (fw 7) (fw 5) (by with_unfolding_all rfl)) (Fc (En (Ao [true,true] T.t_21 (FU T) v (Aa (fw 1) (Aa (fw 7) Ab)))))))) (Ah (Bp (Cy (j:=5) (fw 5) (fw 7)))) AQ))))
  (Ah (AA (CD (by rfl) T.n_tuple Cz (Aa (fw 5) Ab)))))
def Ju(T:Txt K mg af):fM P w K mg base af 4 6 mh (eF K jw 2):=AO T.t_6 CL λ_ _ _ _ _ _ v=>Ae (Am (AW Ab) (Af 2 CL.nd))
  (Ae (Bn (by rfl) (HM (by rfl) (by rfl) T.n_enumerate Jg (fw 1)) (Ce (by rfl) (AI (Af 3 CL.nd) (AI (Af 4 CL.nd) Ci))) (Ae (Am (AF (Ao [true,true] T.t_3 (Jx T) v (Aa (fw 0) (Aa (fw 4) Ab)))) (Af 5 CL.nd))
  (Ae (AK (Aw (λ_ _=>Kr) Kw (fw 5) Ki (Ac _)) (Ah (AA (AX (Aa (BE (by rfl) ⋯) (Aa (fw 3) Ab))))) AQ)
  (Ah (Bp (Cy (j:=2) (fw 2) (fw 5)))))))
  (Ah (AA (AX (Aa (BE (by rfl) ⋯) (Aa (CD (by rfl) T.n_tuple Cz (Aa (fw 2) Ab)) Ab))))))
def Ee(T:Txt K mg af):fM P w K mg base af 5 8 me (eF K bu 4):=AO T.t_8 Bt λ_ _ _ _ _ _ v=>Ae (Am (As (Ao [true,true] T.t_6 (Ju T) v (Aa (fw 3) (Aa (fw 2) Ab))) Ad) (Af 4 Bt.nd))
  (Ae (Am (AW (Aa Ad Ab)) (Af 5 Bt.nd))
  (Ae (Bn (by rfl) (Qc (by rfl) (by rfl) T.n_zip HB (fw 1) (De (fw 1) Ad) (Ao [true,true,true] T.t_7 (Jt T) v (Aa (fw 2) (Aa (fw 0) (Aa (fw 1) Ab))))) (Ce (by rfl) (AI (Af 6 Bt.nd) (AI (Af 7 Bt.nd) (AI (Ce (by rfl) (AI (Af 8 Bt.nd) (AI (Af 9 Bt.nd) Ci))) Ci)))) (Ae (Fz (i:=10) ⋯ (λj F=>EA Bt.nd F rfl) rfl (by rfl) (by rfl) (vars:=["place"]) rfl (by rfl) (Ak (by kernel_rfl)) rfl (BC (As (fw 4) (fw 9))) (λ_ _ _=>Bc 12) (λ_ _ _=>BV) (λ_ _ _=>Au (Gs (by rfl) (by rfl) T.n_min DW (Aa (fw 6) (Aa (fw 7) Ab))) (fw 12)))
  (Ae (AK (Aw (λ_ _=>Cu (CB v)) CA (fw 8) (BE (by rfl) ⋯) (Ac _)) (Ah (Bp (VO (j:=10) (fw 10)))) AQ)
  (Ah (Bp (Ve (j:=5) (fw 5) (De (fw 10) Ad)))))))
  (Ah (AA (CD (by rfl) T.n_tuple Cz (Aa (fw 5) Ab))))))
def CQ(T:Txt K mg af):fM P w K mg base af 6 26 wM (eF K nN 4):=AO T.t_26 BX λ_ _ _ _ _ _ v=>Ae (Am (AF (Ao [true,true,true] T.t_23 (DN T) v (Aa (fw 0) (Aa (fw 1) (Aa (fw 3) Ab))))) (Af 4 BX.nd))
  (Ae (Am (AF (Ao [true,true,true,true] T.t_8 (Ee T) v (Aa (fw 0) (Aa (fw 1) (Aa (fw 2) (Aa (fw 3) Ab)))))) (Af 5 BX.nd))
  (Ae (AK (Dx (Gm (Gp (En (Os (by rfl) T.n_isinstance WW (by rfl) T.n_tuple Cz ⋯ (fw 5)))) (HD (Mt v (by rfl) T.n_repr (fw 5) (fw 4))))) (Ah (AA Eh)) AQ)
  (Ae (Am (CD (by rfl) T.n_tuple Cz (Aa (RA v (by rfl) T.n_sorted FC (Aa (Qv v (by rfl) T.n_set Pf (Aa (HW (BE (by rfl) ⋯) (Aa (fw 3) Ab)) Ab)) Ab)) Ab)) (Af 6 BX.nd))
  (Ae (AK (Mt v (by rfl) T.n_repr (Ao [true,true,true,true] T.t_8 (Ee T) v (Aa (fw 0) (Aa (fw 5) (Aa (fw 3) (Aa (fw 6) Ab))))) (Ao [true,true,true] T.t_23 (DN T) v (Aa (fw 0) (Aa (fw 5) (Aa (fw 6) Ab))))) (Ah (AA Eh)) AQ)
  (Ah (AA (Oa (DA (λ_ _=>El) Ep (Av (by rfl) T.n_len (Aa (fw 4) Ab)) Ad (Ac _)) (Pm (DA (λ_ _=>Kr) Kw (Ao [true,true,true] T.t_5 (Jv T) v (Aa (fw 3) (Aa (fw 0) (Aa (fw 5) Ab)))) Eh (Ac _))))))))))
def FQ(T:Txt K mg af):fM P w K mg base af 7 27 wL (eF K nM 1):=AO T.t_27 Aq λ_ _ _ _ _ _ v=>Ae (Am (Ao [true,true] T.t_9 (FP T) v (Aa (fw 0) (Aa Ad Ab))) (Af 1 Aq.nd))
  (Ae (Am (Ao [true,true] T.t_11 (Gc T) v (Aa (fw 1) (Aa (Au Ad (Ao [true,true] T.t_10 (An T) v (Aa (fw 1) (Aa Ad Ab)))) Ab))) (Af 2 Aq.nd))
  (Ae (Am (AW Ab) (Af 3 Aq.nd))
  (Ae (Bn (by rfl) (IP (by rfl) T.n_range Ad (HI (by rfl) (by rfl) T.n_max HF (Aa Ad (Aa (Gs (by rfl) (by rfl) T.n_min DW (Aa Ad (Aa (Av (by rfl) T.n_len (Aa (fw 0) Ab)) Ab))) Ab)))) (Af 4 Aq.nd) (Ae (Am (Ao [true,true] T.t_9 (FP T) v (Aa (fw 0) (Aa (fw 4) Ab))) (Af 1 Aq.nd))
  (Ae (Am (AF (Ao [true,true,true,true] T.t_14 (FZ T) v (Aa (fw 1) (Aa (fw 2) (Aa Ad (Aa Ad Ab)))))) (Af 5 Aq.nd))
  (Ae (Am (AF (Ao [true,true,true,true,true] T.t_22 (FR T) v (Aa (fw 1) (Aa (fw 5) (Aa (fw 2) (Aa Ad (Aa Ad Ab))))))) (Af 6 Aq.nd))
  (Ae (Am (AF (Ao [true,true,true,true] T.t_16 (DP T) v (Aa (fw 1) (Aa (fw 6) (Aa (fw 2) (Aa Ad Ab)))))) (Af 7 Aq.nd))
  (Ae (Am (AF (Ao [true,true] T.t_20 (FV T) v (Aa (fw 1) (Aa (AF (Ao [true,true] T.t_17 (CS T) v (Aa (fw 6) (Aa (fw 7) Ab)))) Ab)))) (Af 8 Aq.nd))
  (Ae (AK (RW (λ_ _=>EL) EY (λ_ _=>EL) EY Ad (Av (by rfl) T.n_len (Aa (fw 8) Ab)) Ad) (Ah (Bp (Cy (j:=3) (fw 3) (AX (Aa (fw 7) (Aa (fw 8) (Aa (fw 6) (Aa (fw 5) Ab)))))))) AQ)
  (Ah (Bn (by rfl) (BC (Au (De (fw 3) (Dh Ad)) (Ek (fw 3) Ad))) (Ce (by rfl) (AI (Af 9 Aq.nd) (AI (Af 10 Aq.nd) (AI (Af 11 Aq.nd) (AI (Af 12 Aq.nd) Ci))))) (Ae (AK (Dx (Gm (Gp (En (Ao [true,true,true,true] T.t_26 (CQ T) v (Aa (fw 9) (Aa (fw 10) (Aa (fw 11) (Aa (fw 12) Ab))))))) (HD (Gp (En (Ao [true,true,true,true] T.t_26 (CQ T) v (Aa (fw 9) (Aa (fw 10) (Aa (fw 11) (Aa (fw 11) Ab)))))))))) (Ah (AA Eh)) AQ)
  (Ae (Am (CD (by rfl) T.n_tuple Cz (Aa (Dg (vars:=["_law_p"]) rfl (by rfl) (Ak (by kernel_rfl)) rfl (Qd (by rfl) T.n_reversed (fw 10)) (λ_ _ _=>Bc 15) (λ_ _ _=>BV) (λ_ _ _=>Cf (Av (by rfl) T.n_len (Aa (fw 9) Ab)) (fw 15))) Ab)) (Af 13 Aq.nd))
  (Ah (AK (Gp (En (Ao [true,true,true,true] T.t_26 (CQ T) v (Aa (AF (Ao [true] T.t_24 (DM T) v (Aa (fw 9) Ab))) (Aa (fw 13) (Aa (AF (Ao [true] T.t_25 (DL T) v (Aa (fw 11) Ab))) (Aa (AF (Ao [true] T.t_25 (DL T) v (Aa (fw 12) Ab))) Ab))))))) (Ah (AA Eh)) AQ)))))))))))))
  (Ah (AA (DA (λ_ _=>Cu (CB v)) CA (Ao [true,true,true,true] T.t_8 (Ee T) v (Aa (BE (by rfl) ⋯) (Aa (AX (Aa Ad Ab)) (Aa (AX Ab) (Aa (AX Ab) Ab))))) (AX (Aa Ad Ab)) (Ac _)))))))
end
theorem all_mk{l:W.OpenLaw}{w:World}{K:W.Frag}{h:Heap}{mg:Str->Option Value}{fa:Addr}(X:K.In h)(G:h.Ns mainGlobals mg)(hfa:mg "law"=⇑(.ref fa))
  {f_0 f_1 f_2 f_3 f_4 f_5 f_6 f_7 f_8 f_9 f_10 f_11 f_12 f_13 f_14 f_15 f_16 f_17 f_18 f_19 f_20 f_21 f_22 f_23 f_24 f_25 f_26 f_27:Addr}
  (h_0:Lk K "stretches" lr f_0)
  (h_1:Lk K "numbers_by_ends" lq f_1)
  (h_2:Lk K "neighbours" lp f_2)
  (h_3:Lk K "zigzag" ll f_3)
  (h_4:Lk K "steps_left" lj f_4)
  (h_5:Lk K "is_zigzag" lh f_5)
  (h_6:Lk K "fixes" lg f_6)
  (h_7:Lk K "steps_of" lb f_7)
  (h_8:Lk K "laid_in" la f_8)
  (h_9:Lk K "_law_box" kz f_9)
  (h_10:Lk K "_law_take" wA f_10)
  (h_11:Lk K "_law_colours" vZ f_11)
  (h_12:Lk K "_law_word" vY f_12)
  (h_13:Lk K "_law_near" vX f_13)
  (h_14:Lk K "_law_board" vW f_14)
  (h_15:Lk K "_law_moves" vV f_15)
  (h_16:Lk K "_law_led" vU f_16)
  (h_17:Lk K "_law_ties" vT f_17)
  (h_18:Lk K "_law_lands" vS f_18)
  (h_19:Lk K "_law_way" vR f_19)
  (h_20:Lk K "_law_zigzag" vQ f_20)
  (h_21:Lk K "_law_fixed" vP f_21)
  (h_22:Lk K "_law_fixed_words" vO f_22)
  (h_23:Lk K "_law_due" vN f_23)
  (h_24:Lk K "_law_back" vM f_24)
  (h_25:Lk K "_law_back_all" vL f_25)
  (h_26:Lk K "_law_right" vK f_26)
  (h_27:Lk K "law" vJ f_27)
  (z_all:W.nsIn K mainGlobals "all"=⇑none)
  (z_enumerate:W.nsIn K mainGlobals "enumerate"=⇑none)
  (z_int:W.nsIn K mainGlobals "int"=⇑none)
  (z_isinstance:W.nsIn K mainGlobals "isinstance"=⇑none)
  (z_len:W.nsIn K mainGlobals "len"=⇑none)
  (z_list:W.nsIn K mainGlobals "list"=⇑none)
  (z_max:W.nsIn K mainGlobals "max"=⇑none)
  (z_min:W.nsIn K mainGlobals "min"=⇑none)
  (z_range:W.nsIn K mainGlobals "range"=⇑none)
  (z_repr:W.nsIn K mainGlobals "repr"=⇑none)
  (z_reversed:W.nsIn K mainGlobals "reversed"=⇑none)
  (z_set:W.nsIn K mainGlobals "set"=⇑none)
  (z_sorted:W.nsIn K mainGlobals "sorted"=⇑none)
  (z_tuple:W.nsIn K mainGlobals "tuple"=⇑none)
  (z_zip:W.nsIn K mainGlobals "zip"=⇑none):
  ∃fd:FuncData,(∀(s:Shared)(v:Value),BindsTo s fd #[[v],[]] [("_law_script",v)])/\∀base:Heap,K.In base->base.Ns mainGlobals mg->gB l.prog w K mg base (jU l.prog w) 7 fa fd ["_law_script"] (eF K nM 1):=by
 let e:=hfa.symm.trans (h_27.mm X G);cases e;let T:Txt K mg (λn=>[f_0,f_1,f_2,f_3,f_4,f_5,f_6,f_7,f_8,f_9,f_10,f_11,f_12,f_13,f_14,f_15,f_16,f_17,f_18,f_19,f_20,f_21,f_22,f_23,f_24,f_25,f_26,fa].getD n 0):=#[h_0.tx X G,h_1.tx X G,h_2.tx X G,h_3.tx X G,h_4.tx X G,h_5.tx X G,h_6.tx X G,h_7.tx X G,h_8.tx X G,h_9.tx X G,h_10.tx X G,h_11.tx X G,h_12.tx X G,h_13.tx X G,h_14.tx X G,h_15.tx X G,h_16.tx X G,h_17.tx X G,h_18.tx X G,h_19.tx X G,h_20.tx X G,h_21.tx X G,h_22.tx X G,h_23.tx X G,h_24.tx X G,h_25.tx X G,h_26.tx X G,h_27.tx X G,W.mg_none_of X G z_all,W.mg_none_of X G z_enumerate,W.mg_none_of X G z_int,W.mg_none_of X G z_isinstance,W.mg_none_of X G z_len,W.mg_none_of X G z_list,W.mg_none_of X G z_max,W.mg_none_of X G z_min,W.mg_none_of X G z_range,W.mg_none_of X G z_repr,W.mg_none_of X G z_reversed,W.mg_none_of X G z_set,W.mg_none_of X G z_sorted,W.mg_none_of X G z_tuple,W.mg_none_of X G z_zip]
 show#[_,λs v=>h_27.bt s v,λbase _ _=>FQ T]
theorem walk{l:W.OpenLaw}{q:Program}{v:List Str}{XP:(Str->Option Value)->Heap->Prop}{L:World->Heap->Prop}{d:DefRec}{K:Params->W.Frag}(hn:l.most=some 63)(G:d.params.defaults=[])
  (Z:∀(w:World)(h:Heap),L w h->(K w.params).In h)
  (F:∀(w:World)(mg:Str->Option Value)(J:Addr)(h:Heap),(K w.params).In h->h.Ns mainGlobals mg->mg d.name=⇑(.ref J)->
   ∃fd:FuncData,(∀(s:Shared)(u:Value),BindsTo s fd #[[u],[]] [("_law_script",u)])/\∀base:Heap,(K w.params).In base->base.Ns mainGlobals mg->gB l.prog w (K w.params) mg base (jU l.prog w) 7 J fd ["_law_script"] (eF (K w.params) nM 1)):
  W.WalkO q v XP L l.row.toRowW d [] (λf vs=>PySem.call f vs):=
 L2.walk_of (n:=63) (k:=7) (x:="_law_script") (CX:=λw=>jU l.prog w) (sp:=λw=>eF (K w.params) nM 1) hn ⋯ G #[rfl,⋯,⋯,rfl] Z F (λ_ H a M Y _ hS=>OW CP H a M Y hS) λ_ _ _ _ _ h=>(show False from h).elim
end Law
end
end
open PySem PySem.W PyProof.Rows
namespace PySem.W.Fast
theorem tw12028228173608396420:True:=⟨⟩
theorem tw4557911204297242921:True:=⟨⟩
theorem tw15829577990274831158:True:=⟨⟩
theorem tw9143309614753523905:True:=⟨⟩
theorem tw4804089140360505796:True:=⟨⟩
theorem tw16977402102583588694:True:=⟨⟩
theorem tw5230597814400725159:True:=⟨⟩
theorem tw13437124680671465669:True:=⟨⟩
theorem tw16371657121512152892:True:=⟨⟩
theorem tw13280057795561222235:True:=⟨⟩
theorem tw16084851384709374057:True:=⟨⟩
theorem tw7109604960029067357:True:=⟨⟩
theorem tw10612689187634801875:True:=⟨⟩
theorem tw5896551158972182273:True:=⟨⟩
theorem tw1588911333585353370:True:=⟨⟩
theorem tw10897301846388975163:True:=⟨⟩
theorem tw1664744375489158372:True:=⟨⟩
theorem tw16283749354161963202:True:=⟨⟩
theorem tw8486533753909368105:True:=⟨⟩
theorem tw5496343469942415721:True:=⟨⟩
theorem tw13780564069657798740:True:=⟨⟩
theorem tw11557308456354441803:True:=⟨⟩
theorem tw10085885945727524998:True:=⟨⟩
theorem tw4505057665694204481:True:=⟨⟩
theorem tw1235444463235896962:True:=⟨⟩
theorem tw1111272746321344792:True:=⟨⟩
theorem tw11478230394600796952:True:=⟨⟩
theorem tw17562833213741584115:True:=⟨⟩
theorem tw15620093477653686557:True:=⟨⟩
theorem tw12900510182892283416:True:=⟨⟩
theorem tw261166825389043077:True:=⟨⟩
theorem tw16793700533352509046:True:=⟨⟩
theorem tw16319240886101264648:True:=⟨⟩
theorem tw4769627817300733569:True:=⟨⟩
theorem tw5368775367949508815:True:=⟨⟩
theorem tw1272860648605030320:True:=⟨⟩
theorem tw14579596157811852111:True:=⟨⟩
theorem tw6082627145108718986:True:=⟨⟩
theorem tw3330867653358628445:True:=⟨⟩
theorem tw11156774685229395217:True:=⟨⟩
theorem tw8689373172705302737:True:=⟨⟩
theorem tw8028636251782350922:True:=⟨⟩
theorem tw15712945784582888685:True:=⟨⟩
theorem tw1931796441983606686:True:=⟨⟩
theorem tw40604802190368864:True:=⟨⟩
theorem tw6185233214038797383:True:=⟨⟩
theorem tw15676263202854221492:True:=⟨⟩
theorem tw1473614738834427457:True:=⟨⟩
theorem tw13160437678482319752:True:=⟨⟩
theorem tw6129248759996556369:True:=⟨⟩
theorem tw10867211944669659372:True:=⟨⟩
theorem tw5481183149147675788:True:=⟨⟩
theorem tw3291795204455947452:True:=⟨⟩
theorem tw4440141555756495391:True:=⟨⟩
theorem tw11508714387184631812:True:=⟨⟩
theorem tw10511583505283161919:True:=⟨⟩
theorem tw9429973044637607476:True:=⟨⟩
theorem tw2059537743853875882:True:=⟨⟩
theorem tw18076472406110920185:True:=⟨⟩
theorem tw12840790297731050847:True:=⟨⟩
theorem tw3937711005903678639:True:=⟨⟩
theorem tw11847438332333609520:True:=⟨⟩
theorem tw15509050856066232774:True:=⟨⟩
theorem tw3332485991779056951:True:=⟨⟩
theorem tw16908823566301813012:True:=⟨⟩
theorem tw11530491028586033009:True:=⟨⟩
theorem tw10359617587207027266:True:=⟨⟩
theorem tw5018870108454560355:True:=⟨⟩
theorem tw7418036084107387302:True:=⟨⟩
theorem tw17736066368171955222:True:=⟨⟩
theorem tw4344567609775447784:True:=⟨⟩
theorem tw10336635912289984185:True:=⟨⟩
theorem tw11415037333694216730:True:=⟨⟩
theorem tw11326800828193974010:True:=⟨⟩
theorem tw7559880017947506660:True:=⟨⟩
theorem tw11222668975983987679:True:=⟨⟩
theorem tw14254572889432403131:True:=⟨⟩
theorem tw6103781930892698229:True:=⟨⟩
theorem tw1440785668574200687:True:=⟨⟩
theorem tw1429453170922114104:True:=⟨⟩
theorem tw17018536460166680422:True:=⟨⟩
theorem tw4715198404984313445:True:=⟨⟩
theorem tw13554799047128693050:True:=⟨⟩
theorem tw17750425200406129275:True:=⟨⟩
theorem tw3768662099619481244:True:=⟨⟩
theorem tw4823636085957479682:True:=⟨⟩
theorem tw17116503455918217148:True:=⟨⟩
theorem tw202304226721747055:True:=⟨⟩
theorem tw8408003486103040889:True:=⟨⟩
theorem tw10277854322607864029:True:=⟨⟩
theorem tw11475882448869377871:True:=⟨⟩
theorem tw16287348568521869001:True:=⟨⟩
theorem tw14184307916194553601:True:=⟨⟩
theorem tw5282903338718040142:True:=⟨⟩
theorem tw2280157159005755524:True:=⟨⟩
theorem tw10820656129458479461:True:=⟨⟩
theorem tw11004076358947869032:True:=⟨⟩
theorem tw4396971988157134400:True:=⟨⟩
theorem tw16396384963466270259:True:=⟨⟩
theorem tw7124991142836334167:True:=⟨⟩
theorem tw4931481350955273569:True:=⟨⟩
theorem tw16104096205527229783:True:=⟨⟩
theorem tw18298325145295763821:True:=⟨⟩
theorem tw13724219448225897951:True:=⟨⟩
theorem tw10660581094388017759:True:=⟨⟩
theorem tw13869588841897464735:True:=⟨⟩
theorem tw13127001450289206842:True:=⟨⟩
theorem tw6221522515765203996:True:=⟨⟩
theorem tw4767509722895265906:True:=⟨⟩
theorem tw5458814564137917401:True:=⟨⟩
theorem tw1173131359715655439:True:=⟨⟩
theorem tw12412352681202187714:True:=⟨⟩
theorem tw16977822284770850165:True:=⟨⟩
theorem tw9986242339074281058:True:=⟨⟩
end PySem.W.Fast
set_option maxRecDepth 100000 in
set_option maxHeartbeats 0 in
theorem PySem.Challenge.cw_walktold_k75_zigzags_laid_in_holds : PySem.Challenge.rw_walktold_k75_zigzags_laid_in.Holds := by
 w_on; o_law; k_head; (case hw=>w_witness2)
 k_fill
 refine Law.walk (l:=PySem.Challenge.rw_walktold_k75_zigzags_laid_in) rfl rfl (fun w h Y=>PySem.W.kIn_of Y) ?F
 case F=>
  intro w mg fa h KX G hmg
  refine' Law.all_mk KX G hmg ..
  all_goals try first | k_is | (refine' ⟨?_,?_,?_,?_⟩ <;> try k_is)
