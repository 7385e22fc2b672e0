import PyProof.Rows.All
import Wide.All
import OpenK.AllK
import Wide.FinOn
import PySem.Challenge.RW_walktold_k28_cheapest_zigzags
set_option Elab.async false
set_option linter.all false
set_option maxRecDepth 100000
set_option compiler.extract_closed false
set_option bootstrap.genMatcherCode false
open Array (getElem?_eq_getElem getElem?_toList length_toList mem_toList_iff toArray_toList toList_append)
open Bool (and_eq_true not_not or_eq_true)
open Int (mul_one natCast_nonneg ofNat_le toNat_natCast zero_add)
open List (all_cons all_eq_true all_map any_cons append_assoc append_nil cons_append cons_lt_cons_iff countP_cons drop_of_length_le drop_zero ext_getElem? filterMap_cons filter_cons getElem?_append_left getElem?_append_right getElem?_eq_none getElem?_map getElem?_range getElem?_set getElem?_set_ne getElem?_set_self getElem_mem le_antisymm length_append length_cons length_drop length_map length_nil length_pos_iff length_range length_singleton length_take lookup_cons lt_asymm map_append map_congr_left map_cons map_id map_map map_nil map_set mem_append mem_cons mem_filter mem_filterMap mem_map mem_of_getElem? mem_range mem_singleton nil_append nodup_append nodup_cons not_mem_nil of_mem_zip pairwise_cons pairwise_map perm_append_comm perm_middle size_toArray take_nil take_of_length_le)
open Nat (le_of_lt le_of_lt_succ le_refl le_succ le_trans lt_irrefl lt_of_lt_of_le lt_succ_of_lt lt_trans max_comm min_comm min_eq_left min_eq_right min_le_right ne_of_gt ne_of_lt not_lt sub_le zero_le)
open Option (isNone_none isNone_some isSome_map isSome_some map_eq_some_iff map_some none_or some_or toList_none)
def qa:=@PySem.wpAny_bind
def qb:=@PySem.wpAny_pure
def qc:=@PySem.Heap.get?_push_of_some
def qd:=@PySem.Heap.get?_push_size
def qe:=@PySem.Heap.lt_size
def qg.{u}:=@Option.some.inj.{u}
def qh.{u}:=@List.getElem?_eq_some_iff.{u}
def qi.{u}:=@List.getElem?_eq_getElem.{u}
def qj.{u}:=@List.mem_append_right.{u}
def qk.{u}:=@List.mem_append_left.{u}
def qm.{u}:=@List.mem_cons_of_mem.{u}
def qo.{u}:=@List.mem_cons_self.{u}
def qp:=@List.length_map
def qq:=@List.append_assoc
def qr:=@List.length_append
def qt:=@List.size_toArray
def qu:=@List.length_cons
def qv:=@List.mem_singleton
def qw:=@List.length_nil
def qx:=@List.nodup_append
def qy:=@List.mem_append
def qz:=@List.map_cons
def qA:=@List.append_nil
def qB:=@List.mem_cons
def qC:=@List.length_singleton
def qD:=@List.cons_lt_cons_iff
def qE:=@List.length_range
def qF:=@List.map_map
def qG:=@List.getElem?_map
def qH:=@List.length_drop
def qI:=@List.length_take
def qJ:=@List.all_eq_true
def qK:=@List.mem_range
def qL:=@List.mem_map
def qM:=@List.nodup_cons
def qN:=@List.mem_of_getElem?
def qO:=@List.perm_append_comm
def qP:=@List.cons_append
def qQ:=@List.length_pos_iff
def qR:=@List.getElem?_eq_none
def qS:=@decide_eq_true
def qT:=@decide_eq_false
def qU:=@decide_eq_true_eq
def qV:=@of_decide_eq_true
def qW:=@Array.length_toList
def qX:=@Int.toNat_natCast
def qY:=Bool.false_ne_true
def qZ:=@Option.map_eq_some_iff
def q5:=@Array.getElem?_toList
def q8:=@if_pos
def q9:=@if_neg
def zb:=@Nat.le_refl
def zc:=@PySem.Heap.get?_update_other
def zi:=@PySem.Heap.get?_update_self
def zj:=@PySem.wpAny_field
def zk:=@PySem.wpAny_newObj_type
def zm:=@PySem.wpAny_call_entry
def zn:=@PySem.sizeLine_eq
def zo:=@PySem.wpAny_setField_rec
def zp:=@PySem.wpAny_holding
def zr:=@PySem.wpAny_of_eq
def zt:=@PySem.wpAny_mono
abbrev zu:=PySem.Value->PySem.Shared->Prop
theorem aZ8(h:1=1:=by rfl):True:=trivial
theorem aZ9(h:1=1:=by decide):True:=trivial
@[inline]def rZ9:=aZ8._auto_1
@[inline]def dZ9:=aZ9._auto_1
theorem cpsZ9{A:Prop}(h:∀G:Prop,(A->G)->G):A:=h A id
section
set_option hygiene false in
open Lean Parser.Tactic in
local macro_rules
|`($m:declModifiers def $i:declId $s:optDeclSig $v:declVal)=>do
 let a:=m.raw.getArgs
 if !a[4]!.isNone then Macro.throwUnsupported
 match i.raw[0].getId with
 |.str p n=>do
  let f(s:Syntax):=s.rewriteBottomUp (·.setInfo .none)
  let c:=mkNode ``Parser.Command.declaration
  let i:=f i
  let s:=f s
  let v:=f v
  if a[1]!.isNone&&(n.front.isUpper||!p.isAnonymous) then return c #[m,mkNode ``Parser.Command.theorem #[mkAtom "theorem",i,mkNode ``Parser.Command.declSig #[s[0],s[1][0]],v]] else return c #[m.raw.setArg 4 (mkNullNode #[mkNode ``Parser.Command.noncomputable #[mkAtom "noncomputable"]]),mkNode ``Parser.Command.definition #[mkAtom "def",i,s,v,mkNullNode]]
 |_=>Macro.throwUnsupported
|`(#[$x,*])=>if x.getElems.isEmpty then Macro.throwUnsupported else `(⟨$x,*⟩)
|`(∅)=>`((by lia))
|`(⋯)=>`((by decide))
|`(⇑$x)=>`(some $x)
|`(↥$x)=>`(decide $x)
|`(↑$x)=>`((by simpa using $x))
|`(tactic|lia)=>`(tactic|first|assumption|exact Nat.le_refl _|exact Nat.le_of_lt ‹_›|exact Nat.succ_pos _|exact Nat.not_lt.1 ‹_›|exact Nat.lt_of_lt_of_le ‹_› ‹_›|exact Nat.lt_of_le_of_lt ‹_› ‹_›|exact Nat.le_trans ‹_› ‹_›|exact Nat.lt_trans ‹_› ‹_›|exact Nat.ne_of_lt ‹_›|exact Nat.ne_of_gt ‹_›|exact Nat.lt_succ_of_le ‹_›|exact Nat.le_add_right _ _|exact Nat.sub_le _ _|exact Nat.le_of_lt_succ ‹_›|exact absurd ‹_› (Nat.not_lt_zero _)|exact absurd ‹_ < _› (Nat.not_lt.2 ‹_›)|exact Nat.lt_of_le_of_ne ‹_› ‹_›|exact Nat.pos_of_ne_zero ‹_›|exact Nat.le_trans ‹_› (Nat.le_add_right _ _)|exact Nat.le_trans (Nat.sub_le _ _) ‹_›|exact Int.le_of_lt ‹_›|exact Nat.sub_lt ‹_› Nat.one_pos|exact Nat.add_sub_of_le ‹_›|exact Nat.lt_add_of_pos_right ‹_›|exact Nat.lt_of_lt_of_eq ‹_› ‹_›|exact Nat.le_of_eq ‹_›|exact Nat.not_lt_of_le ‹_›|exact Nat.sub_pos_of_lt ‹_›|exact Nat.le_of_eq (Nat.add_sub_of_le ‹_›)|lia -verbose)
|`(tactic|show $e:term)=>`(tactic|first|refine $e|fail)
|`(tactic|let #[$x,*]:=$e)=>do
 let rec go:Nat->Syntax->MacroM (TSyntax ``rcasesPatLo)
  |n+1,t=>do match t with
   |`(#[$y,*])=>let z<-y.getElems.mapM (go n ·.raw);`(rcasesPatLo|⟨$[$z],*⟩)
   |`(_)=>`(rcasesPatLo|_)
   |_=>`(rcasesPatLo|$(⟨t⟩):ident)
  |_,_=>Macro.throwUnsupported
 let z<-x.getElems.mapM (go 9 ·.raw)
 if z.size>3 then `(tactic|(refine _root_.cpsZ9 fun gZ kZ=>?_;rcases $e:term with ⟨$[$z],*⟩;refine kZ ?_;clear kZ gZ)) else `(tactic|obtain ⟨$[$z],*⟩:=$e)
|`(tactic|let $d:letDecl)=>`(tactic|have $d:letDecl)
noncomputable section
namespace ST
open PySem PySem.SetTable
def nJ(xs:Array Nat):Prop:=∀i j(hi:i<xs.size)(hj:j<xs.size),i<j->xs[i]<xs[j]
def uA(t:SetTable)(p:Probe):Nat->Probe
 |0=>p
 |n+1=>uA t (t.advance p) n
def iV(mask:Nat):Prop:=mask=7\/mask=15\/mask=31\/mask=63\/mask=127\/mask=255\/mask=511
structure om(t:SetTable)(hs:List Int):Prop where
 ris:nJ t.place
 dum:t.dummies=#[]
 mask:iV t.mask
 size:t.place.size=hs.length
 le:∀i(hi:i<t.place.size),t.place[i]<=t.mask
 few:hs.length<=t.mask
 reach:∀i(hi:i<t.place.size)(h:Int),hs[i]?=⇑h->∃n,(uA t (t.probeStart h) n).j=t.place[i]/\∀m,m<n->t.slot (uA t (t.probeStart h) m).j≠.empty
section
variable{prog:Program}{w:World}{K:Type}[DecidableEq K](knd:HeapKind prog w K)
def ka(xs:List (K×Addr)):List (Int×Value):=xs.map λp=>(knd.hash p.1,Value.ref p.2)
variable{knd}
def uJ(t:SetTable)(n:Nat):Prop:=n*5<t.mask*3
end
structure WTab(t:SetTable)(n:Nat)(ld:Bool):Prop where
 ris:nJ t.place
 dum:t.dummies=#[]
 fit:t.fits n=true
 ldd:t.led=ld
section
variable{prog:Program}{w:World}{A:Around}{E:zu}{s:Shared}{a:Addr}{K:Type}[DecidableEq K]{knd:KeyKind prog w K}{xs:List (K×Value)}
def kb(knd:KeyKind prog w K)(xs:List (K×Value)):List (Int×Value):=xs.map λp=>(knd.hash p.1,p.2)
@[inline]def VSet(ld:Bool)(knd:KeyKind prog w K)(h:Heap)(a:Addr)(xs:List (K×Value)):Prop:=∃o es i t,h.get? a=some o/\o.ExactSet/\o.data=.set es i t/\WTab t es.size ld/\es.toList=kb knd xs/\(∀p∈xs,knd.is p.1 p.2=true/\p.2.scannable=true)/\(xs.map (·.1)).Nodup
end
end ST
namespace ST
open PySem PySem.SetTable PyProof.Rows
def freshSet(ld:Bool):Obj:={cls:=.type "set",dict:=none,data:=.set #[] 0 (.fresh 0 0 ld)}
def ldOf(w:World):Bool:=!w.params.followText "set-order"
end ST
theorem m1{α:Type}{a:α}{l:List α}:a∈a::l:=.head _
theorem m2{α:Type}{a b:α}{l:List α}:b∈a::b::l:=.tail _ m1
theorem m3{α:Type}{a b c:α}{l:List α}:c∈a::b::c::l:=.tail _ m2
theorem m4{α:Type}{a b c d:α}{l:List α}:d∈a::b::c::d::l:=.tail _ m3
theorem m5{α:Type}{a b c d e:α}{l:List α}:e∈a::b::c::d::e::l:=.tail _ m4
def Ce(i:Int)(n:Nat):max 0 (min (if i<0 then i+(n:Int)else i) (n:Int))=(((if i<0 then(i+(n:Int)).toNat else min i.toNat n):Nat):Int):=by
 by_cases h:i<0
 .rw[q8 h,q8 h,Int.min_eq_left ∅,Int.ofNat_toNat,Int.max_comm]
 .rw[q9 h,q9 h];let#[k,rfl]:=Int.eq_ofNat_of_zero_le (Int.not_lt.mp h);rw[qX];rcases Nat.le_total k n with q|q
  .rw[min_eq_left q,Int.min_eq_left (ofNat_le.mpr q),Int.max_eq_right (natCast_nonneg k)]
  .rw[min_eq_right q,Int.min_eq_right (ofNat_le.mpr q),Int.max_eq_right (natCast_nonneg n)]
theorem cps{A:Prop}(h:∀G:Prop,(A->G)->G):A:=h A id
namespace ST
open PySem PySem.SetTable
section
variable{prog:Program}{w:World}{A:Around}{E:zu}{s:Shared}{a b:Addr}{K:Type}[DecidableEq K]{knd:KeyKind prog w K}{ks:List K}{ld:Bool}{xs:List (List K×Addr)}
@[inline]def TRaw(ld:Bool)(knd:HeapKind prog w K)(h:Heap)(a:Addr)(xs:List (K×Addr)):Prop:=∃o es i t,h.get? a=some o/\o.ExactSet/\o.data=.set es i t/\t.led=ld/\om t (es.toList.map (·.1))/\uJ t es.size/\es.toList=ka knd xs/\(xs.map (·.1)).Nodup
end
instance okDec(m:Nat):Decidable (iV m):=by unfold iV;infer_instance
end ST
namespace ST
open PySem PySem.W
@[inline]def RawD(h:Heap)(d:Addr)(es:Array DictEntry)(i:Nat):Prop:=∃o,h.get? d=some o/\o.ExactDict/\o.data=.dict es i
section
variable{s:Shared}{d it:Addr}
def RawD.type(x:RawD s.heap d es i):s.TypeIs (.ref d) "dict":=let⟨o,ho,hc,_⟩:=x;#[o,ho,hc.1]
theorem raw_iter{Q:zu}(I:(d==sysModules)=false)(G:RawD s.heap d es L)
  (J:Q (.ref s.heap.objs.size) {s with heap:=s.heap.push {cls:=.type "dict_keyiterator",data:=.fields [.ref d,.int 0 0,.int es.size 0,.int L 0].toArray}}):wpAny (model prog w) A (pyIter (.ref d)) Q E s:=by
 let v:=G.type;let#[o,B,M,i]:=id G;show wpAny_pyIter_slot v F.slot_dict_iter (zm F.slot_dict_iter v F.entry_dict_iter ?_ (F.args_dict_iter_1 _));show qa (qa (wpAny_notOrdered_dict v (qb ?_)));show wpAny _ _ (Builtin.Dict.showsAll d>>=_) _ _ s;unfold Builtin.Dict.showsAll;rw[q9 (by rw[I];show qY)];show qa (qb (qa (wpAny_dictEntries B i (qa (wpAny_dictEpoch B i (qa (zk (qb #[_,rfl,"dict_keyiterator",_,#[_,qd _ rfl,rfl],F.slot_dict_keyiterator_next.lookup,?_]))))))));simpa[rawInt] using J
theorem raw_item{Q:Option Value->Shared->Prop}(v:s.heap.IsKeyIter it d i es.size M)(Y:RawD s.heap d es M)(hi:i<es.size)
  (hQ:∀h',h'.IsKeyIter it d (i+1) es.size M->Heap.SameBut it s.heap h'->Q ⇑es[i].key {s with heap:=h'}):wpAny (model prog w) A (pyNext (.ref it)) Q E s:=by
 obtain⟨o,L,hc,J⟩:=id v;let#[od,G,h1,I]:=id Y;refine qa (wpAny_attempt (wpAny_callSpecial?_slot (name:=Str.ofString "__next__") v.typeIs F.slot_dict_keyiterator_next
  (zm F.slot_dict_keyiterator_next v.typeIs F.entry_dict_keyiterator_next ?_ (F.args_dict_keyiterator_next_1 _))))
 show qa (qb (qa (qa ?_)));first|show qa (wpAny_typeNameOfWhole_keyiter v.typeIs (qb ?_))|show qa (wpAny_typeNameOf_keyiter v.typeIs (qb ?_))
 show qa (wpAny_fieldsOf L J ?_);let O:Builtin.Dict_items.ownsTuple "dict_keyiterator"=false:=⋯
 show wpAny _ _ (if(Value.ref d==Value.none)=true then _ else _) _ _ s;show qa (qb (qa (wpAny_dictEntries G I ?_)));rw[q9 (by simp)];show qa (qb (qa (wpAny_dictEpoch G I ?_)));rw[q9 (by simp)];show qb ?_;simp only[if_false,qX,getElem?_eq_getElem hi];show qa ?_;first|show qa (wpAny_typeNameOfWhole_keyiter v.typeIs (qb ?_))|show qa (wpAny_typeNameOf_keyiter v.typeIs (qb ?_))
 refine qa (wpAny_isOneOf_keyiter v.typeIs ?_);show wpAny _ _ (setField (.ref it) 1 (rawInt ((i:Int)+1))>>=_) _ _ s;show qa (wpAny_setField L J (by simp) ?_);let B:(s.heap.update it (Obj.mapFields (·.setIfInBounds 1 (rawInt ((i:Int)+1))))).IsKeyIter it d (i+1) es.size M:=
  #[_,zi _ L (Obj.isFreed_of_fields (Obj.data_mapFields J _)),(Obj.cls_mapFields ..).trans hc,by rw[Obj.data_mapFields J];simp[rawInt]]
 show qa (zp (qa (wpAny_isOneOf_keyiter (s:={s with heap:=s.heap.update it (Obj.mapFields (·.setIfInBounds 1 (rawInt ((i:Int)+1))))}) B.typeIs ?_)));show qb (qb #[_,rfl,qb (hQ _ B (Heap.SameBut.update ..))])
theorem raw_end{Q:Option Value->Shared->Prop}(O:A.handled=none)(v:s.heap.IsKeyIter it d i es.size ep)(M:RawD s.heap d es ep)(hi:es.size<=i)
  (hQ:∀h',Heap.ExtBut it s.heap h'->Q none {s with heap:=h'}):wpAny (model prog w) A (pyNext (.ref it)) Q E s:=by
 obtain⟨o,J,hc,L⟩:=id v;let#[od,B,Y,G]:=id M;refine qa (wpAny_attempt (wpAny_callSpecial?_slot (name:=Str.ofString "__next__") v.typeIs F.slot_dict_keyiterator_next
  (zm F.slot_dict_keyiterator_next v.typeIs F.entry_dict_keyiterator_next ?_ (F.args_dict_keyiterator_next_1 _))))
 show qa (qb (qa (qa ?_)));first|show qa (wpAny_typeNameOfWhole_keyiter v.typeIs (qb ?_))|show qa (wpAny_typeNameOf_keyiter v.typeIs (qb ?_))
 show qa (wpAny_fieldsOf J L ?_);let I:Builtin.Dict_items.ownsTuple "dict_keyiterator"=false:=⋯
 show wpAny _ _ (if(Value.ref d==Value.none)=true then _ else _) _ _ s;show qa (qb (qa (wpAny_dictEntries B G ?_)));rw[q9 (by simp)];show qa (qb (qa (wpAny_dictEpoch B G ?_)));rw[q9 (by simp)];show qb ?_;simp only[if_false,qX,Array.getElem?_eq_none hi];show qa ?_;first|show qa (wpAny_typeNameOfWhole_keyiter v.typeIs (qb ?_))|show qa (wpAny_typeNameOf_keyiter v.typeIs (qb ?_))
 show wpAny _ _ (setField (.ref it) 0 .none>>=_) _ _ s;show qa (wpAny_setField J L (by simp) ?_);show qa ?_;show qa (zk ?_ (by size_fits));show qa (m:=firstArgMember _ _) (zr (a:=Value.none) (by first|rfl|(simp;rfl)) (zk ?_ (by size_fits)));show qa (wpAny_handled ?_);rw[show A.in1.handled=none from O];show qa (qb (wpAny_throw ?_));show qa (wpAny_isInstance (T:="StopIteration") (b:=true) ⟨_,qd _ rfl,rfl⟩ isSubtype_stop ?_);show qb (hQ _ (((Heap.SameBut.update ..).extBut.push _).push _))
end
end ST
namespace L2
open PySem PySem.Spec PyProof.Rows
abbrev bD:=Sum Int Str
def gC:bD->Value->Bool
 |.inl k,v=>Value.isInt k v
 |.inr x,v=>Value.isStrOf x v
def jj(w:World):bD->Int
 |.inl k=>hashInt k
 |.inr x=>hashStr w x
def BF:∀{k:bD}{v:Value},gC k v=true->(∃i t,k=Sum.inl i/\v=Value.int i t)\/(∃x t,k=Sum.inr x/\v=Value.str x t)
 |.inl i,v,h=>by let#[t,e]:=Value.isInt_shape (k:=i) (v:=v) h;show .inl #[i,t,rfl,e]
 |.inr x,v,h=>by let#[t,e]:=Value.isStrOf_shape (x:=x) (v:=v) h;show .inr #[x,t,rfl,e]
def Sy(i:Int)(t:Tok):gC (.inl i) (.int i t)=true:=by simp[gC,Value.isInt]
def SG(x:Str)(t:Tok):gC (.inr x) (.str x t)=true:=by simp[gC,Value.isStrOf]
def Nr(a b:Int):↥((Sum.inl a:bD)=Sum.inl b)=(a==b):=by grind
def Nh(a b:Str):↥((Sum.inr a:bD)=Sum.inr b)=↥(a=b):=by grind
def MY(a:Int)(b:Str):↥((Sum.inl a:bD)=Sum.inr b)=false:=qT (λq=>nomatch q)
def MZ(a:Str)(b:Int):↥((Sum.inr a:bD)=Sum.inl b)=false:=qT (λq=>nomatch q)
def aD(prog:Program)(w:World):PySem.KeyKind prog w bD where
 is:=gC
 hash:=jj w
 inj:=λv a b ha hb=>by
  rcases BF ha with⟨i,t,rfl,rfl⟩|⟨x,t,rfl,rfl⟩
  .rcases BF hb with⟨j,u,rfl,e⟩|⟨y,u,rfl,e⟩
   .injection e with e1 _;rw[e1]
   .show nomatch e
  .rcases BF hb with⟨j,u,rfl,e⟩|⟨y,u,rfl,e⟩
   .show nomatch e
   .injection e with e1 _;rw[e1]
 byValue:=λk v h=>by rcases BF h with⟨i,t,rfl,rfl⟩|⟨x,t,rfl,rfl⟩<;>rfl
 pyHash:=λhv h=>by
  rcases BF hv with⟨i,t,rfl,rfl⟩|⟨x,t,rfl,rfl⟩
  .show wpAny_pyHash_int h
  .show wpAny_pyHash_str h
 eqBool:=λhu hv h=>by
  rcases BF hu with⟨i,t,rfl,rfl⟩|⟨x,t,rfl,rfl⟩
  .rcases BF hv with⟨j,u,rfl,rfl⟩|⟨y,u,rfl,rfl⟩
   .rw[Nr]at h;show wpAny_eqBool_int h
   .rw[MY]at h;show SeqAt.EqAt.int_str i t y u _ _ _ _ h
  .rcases BF hv with⟨j,u,rfl,rfl⟩|⟨y,u,rfl,rfl⟩
   .rw[MZ]at h;show SeqAt.EqAt.str_int x t j u _ _ _ _ h
   .rw[Nh]at h;show wpAny_eqBool_str h
 «strs»:=λk x t v h=>by
  rcases BF h with⟨i,u,rfl,e⟩|⟨y,u,rfl,e⟩
  .show nomatch e
  .injection e with e1 _
   subst e1;cases v<;>rfl
def Um(prog:Program)(w:World)(i:Int)(t:Tok):(aD prog w).is (.inl i) (.int i t)=true:=Sy i t
def Uq(prog:Program)(w:World)(x:Str)(t:Tok):(aD prog w).is (.inr x) (.str x t)=true:=SG x t
inductive V where
 |non|bl(b:Bool)|int(i:Int)|str(x:Str)|byt(b:Array UInt8)|flt(b:UInt64)|ref(a:Addr)|ty(n:String)
 deriving DecidableEq
def zJ:V->Value->Prop
 |.non,u=>u=Value.none
 |.bl b,u=>u=Value.bool b
 |.int i,u=>∃t,u=Value.int i t
 |.str x,u=>∃t,u=Value.str x t
 |.byt b,u=>∃t,u=Value.bytes b t
 |.flt b,u=>∃t,u=Value.float b t
 |.ref a,u=>u=Value.ref a
 |.ty n,u=>u=Value.type n
abbrev zR:List V->List Value->Prop:=Paired zJ
def zR.length(r:zR xs us):xs.length=us.length:=Paired.length r
def zR.get:∀{xs:List V}{us:List Value}{i:Nat}{x:V},zR xs us->xs[i]?=⇑x->∃u,us[i]?=⇑u/\zJ x u
 |_,_,_,_,.nil,e=>by simp at e
 |_,_,0,_,.cons r _,e=>by simp at e;subst e;show#[_,rfl,r]
 |_,_,i+1,x,.cons _ t,e=>by let#[u,h1,h2]:=zR.get (i:=i) (x:=x) t ↑e;show#[u,↑h1,h2]
def zR.set(r:zJ x u):∀{xs:List V}{us:List Value}(i:Nat),zR xs us->zR (xs.set i x) (us.set i u)
 |_,_,_,.nil=>.nil
 |_,_,0,.cons _ t=>.cons r t
 |_,_,i+1,.cons q t=>.cons q (zR.set r i t)
def zR.append:∀{xs ys:List V}{us i:List Value},zR xs us->zR ys i->zR (xs++ys) (us++i):=by
 intro xs ys us i r s;induction r with
 |nil=>show s
 |cons r _ v=>show .cons r v
def zR.take:∀{xs:List V}{us:List Value}(n:Nat),zR xs us->zR (xs.take n) (us.take n)
 |_,_,0,_=>.nil
 |_,_,_+1,.nil=>.nil
 |_,_,n+1,.cons r t=>.cons r (zR.take n t)
def zR.drop:∀{xs:List V}{us:List Value}(n:Nat),zR xs us->zR (xs.drop n) (us.drop n)
 |_,_,0,r=>r
 |_,_,_+1,.nil=>.nil
 |_,_,n+1,.cons _ t=>zR.drop n t
def eN:Option V->Option Value->Prop
 |some v,some u=>zJ v u
 |none,none=>True
 |_,_=>False
@[inline]def KV{κ:Type}:List (κ×V)->List (κ×Value)->Prop:=Paired λ(p:κ×V)(q:κ×Value)=>p.1=q.1/\zJ p.2 q.2
def kV:bD->V
 |.inl i=>.int i
 |.inr x=>.str x
inductive HO where
 |lst(xs:List V)
 |tup(xs:List V)
 |dK(zV:List (bD×V))|dT(zV:List (List bD×V))
 |set(vs:List V)
 |ins(C dx:Addr)(fs:List (Str×V))
 |own(x:Addr)
 |xd(fs:List (Str×V))
 |met(f x:Addr)
 |rng(lo hi:Int)
 |frz(o:Obj)(u:HO)
 |tbl(ps:Array Value)
 |ext(φ:Heap->Prop)
abbrev Hp:=Addr->Option HO
def upd(H:Hp)(a:Addr)(o:HO):Hp:=λb=>if b=a then ⇑o else H b
def Aw:upd H a o a=⇑o:=by unfold upd;rw[q8 rfl]
def Ae(h:b≠a):upd H a o b=H b:=by unfold upd;rw[q9 h]
def LW{H:Hp}(h:H a=⇑o)(h':H b=⇑u)(d:o≠u):a≠b:=by grind
def BE{H:Hp}(h:H a=⇑o)(h':H b=none):a≠b:=by intro e;subst e;rw[h]at h';cases h'
section
variable(P:Program)(w:World)
def iL(h:Heap)(a:Addr):Prop:=∀o,h.get? a=⇑o->o.dict=none
def iL.new{h:Heap}{c:Value}{x:Data}{n:Addr}(e:n=h.objs.size)(i:(h.push {cls:=c,data:=x}).get? h.objs.size=some {cls:=c,data:=x}):iL (h.push {cls:=c,data:=x}) n:=λo q=>by subst e;rw[i]at q;cases q;rfl
def zT(H:Hp)(h:Heap)(a:Addr):HO->Prop
 |.lst xs=>xs.length<=sizeLine/\∃(i:List Value)(n:Nat),zR xs i/\h.get? a=some {cls:=.type "list",data:=.seq i.toArray n}
 |.tup xs=>(xs.length<=sizeLine/\iL h a)/\∃i:List Value,zR xs i/\IsTup h a i.toArray
 |.dK zV=>zV.length<=sizeLine/\(a==sysModules)=false/\∃vs,KV zV vs/\h.DictOf (aD P w) a vs
 |.dT zV=>zV.length<=sizeLine/\(a==sysModules)=false/\∃xs:List (List bD×Addr×Value),
  Paired (λ(p:List bD×V)(q:List bD×Addr×Value)=>p.1=q.1/\H q.2.1=⇑(.tup (p.1.map kV))/\zJ p.2 q.2.2) zV xs/\
  ∃o es F,h.get? a=⇑o/\o.ExactDict/\o.data=.dict es F/\es.toList=xs.map (entryOfKey (tupleKind (aD P w)))/\(xs.map (·.1)).Nodup
 |.set vs=>vs.length<=151/\((vs=[]/\h.get? a=⇑(ST.freshSet (ST.ldOf w)))\/(vs≠[]/\∃xs:List (bD×Value),vs.Perm (xs.map λp=>kV p.1)/\ST.VSet (ST.ldOf w) (aD P w) h a xs)\/vs≠[]/\∃xs:List (List bD×Addr),vs.Perm (xs.map λp=>V.ref p.2)/\(∀p∈xs,H p.2=⇑(.tup (p.1.map kV)))/\ST.TRaw (ST.ldOf w) (tupleKind (aD P w)) h a xs)
 |.ins C dx fs=>H dx=⇑(.own a)/\fs.length<=1000/\dx≠a/\h.get? a=⇑(W.instObj C dx)/\
  ∃B,h.Ns1 dx B/\(∀f,eN (fs.lookup f) (B f))/\PySem.Within B (fs.map (·.1))
 |.own _=>∃o,h.get? a=⇑o
 |.xd fs=>∃B,h.Ns1 a B/\∀f,eN (fs.lookup f) (B f)
 |.rng lo hi=>∃t u v,h.get? a=some {cls:=.type "range",data:=.fields [.int lo t,.int hi u,.int 1 v].toArray}
 |.frz o u=>h.get? a=⇑o/\zT H h a u
 |.tbl ps=>h.get? a=some {cls:=.none,data:=.fields ps}
 |.met f x=>h.get? a=⇑(W.methodObj (.ref f) (.ref x))
 |.ext φ=>φ h/\(∃o,h.get? a=⇑o)/\∀h1 h2:Heap,φ h1->(∀o,h1.get? a=⇑o->h2.get? a=⇑o)->φ h2
def dI(H:Hp)(h:Heap):Prop:=∀a o,H a=⇑o->zT P w H h a o
end
section
variable{P:Program}{w:World}{H H':Hp}{h h':Heap}{a:Addr}{o:HO}
def zT.lt(x:zT P w H h a o):a<h.objs.size:=by
 cases o with
 |lst xs=>let#[_,_,_,_,e]:=x;show qe e
 |tup xs=>let#[_,_,_,p]:=x;show p.lt
 |dK i=>let#[_,_,_,_,o,_,_,e,_]:=x;show qe e
 |dT i=>let#[_,_,_,_,o,_,_,e,_]:=x;show qe e
 |set v=>
  rcases x with⟨_,⟨_,e⟩|⟨_,_,_,_,_,_,_,e,_⟩|⟨_,_,_,_,_,_,_,_,e,_⟩⟩
  .show qe e
  .show qe e
  .show qe e
 |ins C dx fs=>let#[_,_,_,e,_]:=x;show qe e
 |own y=>let#[_,e]:=x;show qe e
 |xd fs=>let#[_,#[_,_,_,e,_],_]:=x;show qe e
 |rng lo hi=>let#[_,_,_,e]:=x;show qe e
 |frz B u=>let#[e,_]:=x;show qe e
 |tbl ps=>show qe (show h.get? a=⇑_ from x)
 |met f y=>show qe (show h.get? a=⇑_ from x)
 |ext φ=>let#[_,#[_,e],_]:=x;show qe e
def Paired.mapP:∀{l₁:List α}{l₂:List β},Paired F l₁ l₂->(∀a b,F a b->G a b)->Paired G l₁ l₂
 |_,_,.nil,_=>.nil
 |_,_,.cons r t,f=>.cons (f _ _ r) (Paired.mapP t f)
def zT.stay(x:zT P w H h a o)(k:∀b u,(b=a\/H b=⇑(.own a))->h.get? b=⇑u->h'.get? b=⇑u)
  (ho:∀b,H b=⇑(.own a)->H' b=⇑(.own a))(M:∀b xs,H b=⇑(.tup xs)->H' b=⇑(.tup xs)):zT P w H' h' a o:=by
 induction o with
 |lst xs=>let#[z,F,n,r,e]:=x;show#[z,F,n,r,k _ _ (.inl rfl) e]
 |tup xs=>let#[#[z,Y],F,r,i,e,c]:=x;show#[#[z,λo q=>by rw[k _ _ (.inl rfl) e]at q;cases q;show Y _ e],F,r,i,k _ _ (.inl rfl) e,c]
 |dK J=>let#[z,y,L,r,i,es,B,e,c]:=x;show#[z,y,L,r,i,es,B,k _ _ (.inl rfl) e,c]
 |dT J=>let#[z,y,xs,r,i,es,B,e,c]:=x;show#[z,y,xs,Paired.mapP r λp q z=>#[z.1,M _ _ z.2.1,z.2.2],i,es,B,k _ _ (.inl rfl) e,c]
 |set L=>
  rcases x with⟨z,⟨n,e⟩|⟨n,xs,p,i,es,B,t,e,c⟩|⟨n,xs,p,hx,i,es,B,t,e,c⟩⟩
  .show#[z,.inl #[n,k _ _ (.inl rfl) e]]
  .show#[z,.inr (.inl #[n,xs,p,i,es,B,t,k _ _ (.inl rfl) e,c])]
  .show#[z,.inr (.inr #[n,xs,p,λq hq=>M _ _ (hx q hq),i,es,B,t,k _ _ (.inl rfl) e,c])]
 |ins C dx fs=>let#[d,z,O,e,I,#[G,es,B,e2,c],r]:=x;show#[ho _ d,z,O,k _ _ (.inl rfl) e,I,#[G,es,B,k _ _ (.inr d) e2,c],r]
 |own y=>let#[i,e]:=x;show#[i,k _ _ (.inl rfl) e]
 |xd fs=>let#[I,#[G,es,B,e,c],r]:=x;show#[I,#[G,es,B,k _ _ (.inl rfl) e,c],r]
 |rng lo hi=>let#[t,u,v,e]:=x;show#[t,u,v,k _ _ (.inl rfl) e]
 |frz i u ih=>let#[e,q]:=x;show#[k _ _ (.inl rfl) e,ih q]
 |tbl ps=>have e:h.get? a=some {cls:=.none,data:=.fields ps}:=x;show h'.get? a=some {cls:=.none,data:=.fields ps};show k a _ (.inl rfl) e
 |met f y=>have e:h.get? a=⇑(W.methodObj (.ref f) (.ref y)):=x;show h'.get? a=⇑(W.methodObj (.ref f) (.ref y));show k a _ (.inl rfl) e
 |ext φ=>let#[p,#[o,e],st]:=x;show#[st _ _ p λo q=>k _ _ (.inl rfl) q,#[o,k _ _ (.inl rfl) e],st]
def dI.lt(x:dI P w H h)(e:H a=⇑o):a<h.objs.size:=(x a o e).lt
def dI.fresh(x:dI P w H h)(e:h.objs.size<=a):H a=none:=by
 cases q:H a with
 |none=>rfl
 |some u=>show absurd (lt_of_lt_of_le (x.lt q) e) (lt_irrefl _)
def dI.kept(x:dI P w H h)(k:∀b u,h.get? b=⇑u->h'.get? b=⇑u):dI P w H h':=λa o e=>(x a o e).stay (λb u _ q=>k b u q) (λ_ q=>q) λ_ _ q=>q
def dI.laid(x:dI P w H h)(k:∀b u,h.get? b=⇑u->h'.get? b=⇑u)(F:h.objs.size<=a)(new:zT P w (upd H a o) h' a o):dI P w (upd H a o) h':=λb u e=>by
 let i:=x.fresh F;by_cases B:b=a
 .subst B;rw[Aw]at e;cases e;show new
 .rw[Ae B]at e;show(x b u e).stay (λc v _ q=>k c v q) (λc q=>by rw[Ae (BE q i)];show q) λc xs q=>by rw[Ae (BE q i)];show q
end
@[inline]def Rd(H:Hp)(a:Addr)(u:HO):Prop:=H a=some u\/∃o,H a=some (.frz o u)
def Rd.of(h:H a=⇑u):Rd H a u:=.inl h
def Rd.ok(r:Rd H a u)(x:dI P w H h):zT P w H h a u:=by
 rcases r with r|⟨o,r⟩
 .show x a u r
 .obtain⟨_,q⟩:=x a _ r;show q
def bo:Option HO->Prop
 |some (.lst _)=>True
 |some (.dK _)=>True
 |some (.dT _)=>True
 |some (.set _)=>True
 |some (.ins _ _ _)=>True
 |some (.ext _)=>True
 |_=>False
section
variable{P:Program}{w:World}{H:Hp}{h h':Heap}{x e:Addr}{o':HO}
def dI.write(ok:dI P w H h)(F:bo (H x))(O:e=x\/H e=⇑(.own x))(k:∀b u,b≠e->h.get? b=⇑u->h'.get? b=⇑u)(G:∃u,h'.get? e=⇑u)
  (new:zT P w (upd H x o') h' x o'):dI P w (upd H x o') h':=λb u q=>by
 let B:∀c y,H c=⇑(.own y)->c≠x:=λc y r z=>by subst z;rw[r]at F;show F
 let i:∀c xs,H c=⇑(.tup xs)->c≠x:=λc xs r z=>by subst z;rw[r]at F;show F
 by_cases L:b=x
 .subst L;rw[Aw]at q;cases q;show new
 .rw[Ae L]at q;by_cases I:b=e
  .let J:H b=⇑(.own x):=by grind
   rw[q]at J;cases J;let#[v,M]:=G;show#[v,by rw[I];show M]
  .show(ok b u q).stay (λc v Y r=>k c v ?_ r) (λc r=>by rw[Ae (B c b r)];show r) λc xs r=>by rw[Ae (i c xs r)];exact r
   grind
end
structure Un(fs ex:List Addr)(H H':Hp)(h h':Heap):Prop where
 keep:∀b o,h.get? b=⇑o->H b=none->b∉fs->b∉ex->h'.get? b=⇑o
 slot:∀b o,h.get? b=⇑o->H b=none->b∈fs->b∉ex->∃sl,h'.get? b=some {o with slots:=sl}
 free:∀b o,h.get? b=⇑o->H b=none->b∉ex->H' b=none
 there:∀b o,h.get? b=⇑o->b∉ex->∃o',h'.get? b=⇑o'
 tups:∀b xs,H b=⇑(.tup xs)->H' b=⇑(.tup xs)
 frzs:∀b o u,H b=⇑(.frz o u)->H' b=⇑(.frz o u)
 tbls:∀b ps,H b=⇑(.tbl ps)->∃more,H' b=⇑(.tbl (ps++more))
section
variable{fs fs' ex ex':List Addr}{H H1 H2:Hp}{h h1 h2 h':Heap}{a x e:Addr}{o:HO}
def Un.any(u:Un fs ex H H1 h h1)(q:h.get? b=⇑i)(n:H b=none)(v:b∉ex):∃F,h1.get? b=some {i with slots:=F}:=by
 by_cases B:b∈fs
 .show u.slot b i q n B v
 .show#[i.slots,u.keep b i q n B v]
def Un.kept(k:∀b u,h.get? b=⇑u->h'.get? b=⇑u):Un fs ex H H h h':=
 #[λb i q _ _ _=>k b i q,λb i q _ _ _=>#[i.slots,k b i q],λ_ _ _ n _=>n,λb i q _=>#[i,k b i q],λ_ _ q=>q,λ_ _ _ q=>q,λ_ ps q=>#[#[],by rw[q];simp]]
def Un.refl:Un fs ex H H h h:=Un.kept λ_ _ q=>q
def Un.laid(k:∀b u,h.get? b=⇑u->h'.get? b=⇑u)(hp:h.objs.size<=a)(hn:H a=none):Un fs ex H (upd H a o) h h' where
 keep:=λb u q _ _ _=>k b u q
 slot:=λb u q _ _ _=>#[u.slots,k b u q]
 free:=λb u q n _=>by rw[Ae (ne_of_lt (lt_of_lt_of_le (qe q) hp))];show n
 there:=λb u q _=>#[u,k b u q]
 tups:=λb xs q=>by rw[Ae (BE q hn)];show q
 frzs:=λb u xs q=>by rw[Ae (BE q hn)];show q
 tbls:=λb ps q=>#[#[],by rw[Ae (BE q hn),q];simp]
def Un.write(i:bo (H x))(I:e=x\/H e=⇑(.own x))(k:∀b u,b≠e->h.get? b=⇑u->h'.get? b=⇑u)(G:∃u,h'.get? e=⇑u):Un fs ex H (upd H x o) h h':=by
 let F:∀b,H b=none->b≠x:=λb n z=>by subst z;rw[n]at i;show i
 let B:∀b,H b=none->b≠e:=λb n z=>by grind
 let v:∀b u,H b=⇑u->¬bo ⇑u->b≠x:=λb u q nm z=>by subst z;rw[q]at i;show nm i
 refine⟨λb u q n _ _=>k b u (B b n) q,λb u q n _ _=>#[u.slots,k b u (B b n) q],λb u q n _=>by rw[Ae (F b n)];exact n,λb u q _=>?_,
  λb xs q=>by rw[Ae (v b _ q λz=>z)];show q,λb u xs q=>by rw[Ae (v b _ q λz=>z)];show q,λb ps q=>#[#[],by rw[Ae (v b _ q λz=>z),q];simp]⟩
 grind
end
def fj(h:Heap)(H:Hp):List Addr:=(List.range h.objs.size).filter λa=>(H a).isSome
def gW(h:Heap)(H:Hp):Heap:=W.hideAll h (fj h H)
def Sl(h:Heap)(H:Hp):(gW h H).objs.size=h.objs.size:=W.hideAll_size _ _
def Ql(e:h.get? b=⇑o)(n:H b=none):(gW h H).get? b=⇑o:=
 W.hideAll_get _ e λi=>by let q:(H b).isSome=true:=(mem_filter.mp i).2;rw[n]at q;simp at q
def Oe(e:(gW h H).get? b=⇑o):h.get? b=⇑o/\H b=none:=by
 let i:h.get? b=⇑o:=W.of_hideAll (fj h H) e;show#[i,?_];cases q:H b with
 |none=>rfl
 |some x=>grind[fj,mem_filter,mem_range,Heap.lt_size,gW,W.hideAll_none]
def kR(g h:Heap)(L:Addr):List (Addr×Obj):=(List.range h.objs.size).filterMap λa=>if a=L\/(g.get? a).isSome=true then none else(h.get? a).map λo=>(a,o)
def Uo(h1:a≠L)(h2:g.get? a=none)(i:h.get? a=⇑o):(a,o)∈kR g h L:=
 mem_filterMap.mpr #[a,qK.mpr (qe i),by simp[h1,h2,i]]
def rest(g h:Heap)(L d:Addr):List (Addr×Obj):=(kR g h L).filter λp=>↥(p.1≠d)
theorem zcA(h1:a≠L)(h2:g.get? a=none)(v:h.get? a=⇑o)(i:a≠d):(a,o)∈rest g h L d:=
 mem_filter.mpr #[Uo h1 h2 v,qS i]
structure Mod(K:W.Frag)(mg:Str->Option Value)(base:Heap):Prop where
 kin:K.In base
 glob:base.Ns mainGlobals mg
 blt:∃mb,base.Ns builtinsNs mb/\∀x:Str,x≠"__name__"->mb x=bootBuiltins x
 nolimit:base.NoLimit
structure Cx where
 prog:Program
 w:World
 K:W.Frag
 mg:Str->Option Value
 base:Heap
 A:Around
 N:List Str
 s₀:Shared
 H₀:Hp
 env:Env
 outer:List Env
 stack:List Env
 ex:List Addr
 fn:Str->Bool
 calm:Bool
 pn:List (Addr×Obj)
 xe:zu
def nF(l:List Env):List Addr:=l.filterMap (·.frame)
abbrev Cx.fs(X:Cx):List Addr:=nF X.outer
def ay(i:Scope)(x:Str):Prop:=i.names.lookup x=⇑.local\/i.names.lookup x=⇑.cell\/i.names.lookup x=⇑.free
@[inline]def Loc(i:Scope)(x:Str):Prop:=i.names.lookup x=some .local\/i.names.lookup x=some .cell
@[inline]def Look(env:Env)(h:Heap)(m:Str->Option Value)(x:Str)(u:Value):Prop:=
 (env.kindOf x=⇑.local/\m x=⇑u)\/((env.kindOf x=⇑.cell\/env.kindOf x=⇑.free)/\∃c,env.cells.lookup x=⇑c/\h.IsCell c ⇑u)
structure Cx.Ok(X:Cx):Prop where
 mod:Mod X.K X.mg X.base
 kind:X.env.scope.kind=.function
 glob:X.env.globals=mainGlobals
 blt:X.env.builtins=builtinsNs
 above:X.s₀.heap.objs.size<=X.env.locals
 inj:∀x y c,X.env.cells.lookup x=⇑c->X.env.cells.lookup y=⇑c->x=y
 has:∀x,(X.env.kindOf x=⇑.cell\/X.env.kindOf x=⇑.free)->∃c,X.env.cells.lookup x=⇑c
 cab:∀x c,X.fn x=true->X.env.cells.lookup x=⇑c->X.s₀.heap.objs.size<=c
 hd:X.calm=true->X.A.handled=none
 frames:X.A.frames=⇑X.stack
 stk:X.stack=X.outer\/(X.stack=X.env::X.outer/\X.env.frame=⇑X.env.locals)
 exf:∀b∈X.ex,b≠X.env.locals/\∀x c,X.env.cells.lookup x=⇑c->c≠b
 bs:∀b o,X.base.get? b=⇑o->X.s₀.heap.get? b=⇑o/\X.H₀ b=none
 bsz:X.base.objs.size<=X.s₀.heap.objs.size
 noex:∀b o,X.base.get? b=⇑o->b∉X.ex
 exfs:∀b∈X.ex,b∉X.fs
 funs:X.s₀.heap.FunFrames X.base X.outer
 frf:∀b∈X.fs,X.H₀ b=none
structure Inv(X:Cx)(zU:List (Addr×Obj))(Z:List (Option V))(H:Hp)(s:Shared):Prop where
 ok:X.Ok
 os:s.os=X.s₀.os
 bare:AllBare s.gens
 base:Un X.fs X.ex X.H₀ H X.s₀.heap s.heap
 loc:∃m,s.heap.Ns X.env.locals m/\∀(i:Nat)(x:Str)(v:V),X.N[i]?=⇑x->Z[i]?=⇑⇑v->ay X.env.scope x->∃u,zJ v u/\Look X.env s.heap m x u
 cell:∀x c,X.env.cells.lookup x=⇑c->∃v,s.heap.IsCell c v
 free:H X.env.locals=none
 freeC:∀x c,X.env.cells.lookup x=⇑c->H c=none
 pin:∀p∈X.pn++zU,s.heap.get? p.1=⇑p.2/\H p.1=none/\p.1≠X.env.locals/\p.1∉X.fs/\∀v,p.2.data≠.cell v
 hok:dI X.prog X.w H s.heap
 len:Z.length=X.N.length
section
variable{X:Cx}{zU:List (Addr×Obj)}{Z:List (Option V)}{H H':Hp}{s:Shared}{h':Heap}
def Cx.Ok.nofr(ok:X.Ok)(e:X.base.get? b=⇑o):b∉X.fs:=λi=>by let:=(ok.funs.mem i).1;rw[e]at this;cases this
def Inv.bs(I:Inv X zU Z H s):∀b o,X.base.get? b=⇑o->s.heap.get? b=⇑o/\H b=none:=λb o e=>#[I.base.keep b o (I.ok.bs b o e).1 (I.ok.bs b o e).2 (I.ok.nofr e) (I.ok.noex b o e),I.base.free b o (I.ok.bs b o e).1 (I.ok.bs b o e).2 (I.ok.noex b o e)]
def Inv.bk(I:Inv X zU Z H s):∀b o,X.base.get? b=⇑o->s.heap.get? b=⇑o:=λb o e=>(I.bs b o e).1
def Inv.mod(I:Inv X zU Z H s):Mod X.K X.mg X.base:=I.ok.mod
def Inv.kIn(I:Inv X zU Z H s):X.K.In s.heap:=I.ok.mod.kin.keeps I.bk
def Inv.fr(I:Inv X zU Z H s):∃m,Fr X.base X.env.locals s.heap m:=
 let⟨m,hn,_⟩:=I.loc
 #[m,hn,I.bk,le_trans I.ok.bsz I.ok.above]
def Inv.lt(I:Inv X zU Z H s):X.env.locals<s.heap.objs.size:=let⟨_,hn,_⟩:=I.loc;hn.lt
def Inv.sz(I:Inv X zU Z H s):X.s₀.heap.objs.size<=s.heap.objs.size:=le_trans I.ok.above (le_of_lt I.lt)
def Inv.nofs(I:Inv X zU Z H s)(h:s.heap.objs.size<=a):a∉X.fs:=λv=>by let#[_,o,i,_]:=I.ok.funs.mem v;show absurd (lt_of_lt_of_le (qe i) (le_trans I.sz h)) (lt_irrefl _)
def Inv.cne(I:Inv X zU Z H s):∀x c,X.env.cells.lookup x=⇑c->c≠X.env.locals:=λx c e z=>by let#[v,o,F,G]:=I.cell x c e;let#[m,#[o',es,J,i,B,_],_]:=I.loc;rw[z,i]at F;cases F;rw[B]at G;cases G
def Inv.funs(I:Inv X zU Z H s):s.heap.FunFrames X.base X.outer:=by
 have all:∀(l:List Env),(∀b∈nF l,b∈X.fs)->X.s₀.heap.FunFrames X.base l->s.heap.FunFrames X.base l:=by
  intro l;induction l with
  |nil=>intro _ _;trivial
  |cons h1 r G=>intro F Y;let#[hk,#[L,o,i,O,M,hd],J]:=Y;let B:L∈X.fs:=F L (by unfold nF;rw[filterMap_cons,i];show qo);let#[sl,e]:=I.base.slot L o M (I.ok.frf L B) B λz=>I.ok.exfs L z B;show#[hk,#[L,_,i,O,e,hd],G (λb v=>F b (by unfold nF;rw[filterMap_cons,i];show qm _ v)) J]
 show all X.outer (λ_ v=>v) I.ok.funs
def Inv.stack(I:Inv X zU Z H s):s.heap.FunFrames X.base X.stack:=by
 rcases I.ok.stk with e|⟨e,v⟩
 .rw[e];show I.funs
 .rw[e];let#[m,i,_]:=I.loc;show .cons (by rw[I.ok.kind];decide) v i ?_ I.funs;show Heap.get?_none_of_le (le_trans I.ok.bsz I.ok.above)
def Inv.stkSub(I:Inv X zU Z H s):∀b∈nF X.stack,b∈X.env.locals::X.fs:=λb i=>by
 rcases I.ok.stk with e|⟨e,v⟩
 .rw[e]at i;show qm _ i
 .rw[e]at i;unfold nF at i;rw[filterMap_cons,v]at i;show i
def Inv.stkFree(I:Inv X zU Z H s):∀b∈nF X.stack,H b=none:=λb i=>by
 rcases qB.mp (I.stkSub b i)with e|i
 .rw[e];show I.free
 .obtain⟨_,o,v,_⟩:=I.ok.funs.mem i;show I.base.free b o v (I.ok.frf b i) λz=>I.ok.exfs b z i
def Inv.step{ch:List Addr}(I:Inv X zU Z H s)
  (J:∀b∈ch,(b∈X.ex\/X.s₀.heap.get? b=none)/\b≠X.env.locals/\(∀x c,X.env.cells.lookup x=⇑c->c≠b)/\∀p∈X.pn++zU,p.1≠b)
  (G:∀b o,b≠X.env.locals->b∉X.fs->b∉ch->s.heap.get? b=⇑o->H b=none->h'.get? b=⇑o)
  (slot:∀b o,b≠X.env.locals->b∈X.fs->b∉ch->s.heap.get? b=⇑o->H b=none->∃sl,h'.get? b=some {o with slots:=sl})(free:∀b o,b∉ch->s.heap.get? b=⇑o->H b=none->H' b=none)
  (there:∀b o,b∉ch->s.heap.get? b=⇑o->∃o',h'.get? b=⇑o')
  (h1:∀b xs,H b=⇑(.tup xs)->H' b=⇑(.tup xs))(h5:∀b o u,H b=⇑(.frz o u)->H' b=⇑(.frz o u))(h2:∀b ps,H b=⇑(.tbl ps)->∃h4,H' b=⇑(.tbl (ps++h4)))
  (ns:∀m,s.heap.Ns X.env.locals m->h'.Ns X.env.locals m)(h7:dI X.prog X.w H' h')(hg:AllBare g'):
  Inv X zU Z H' {s with heap:=h',gens:=g',drawn:=d',toks:=t'}:=by
 have h3:∀b o,X.s₀.heap.get? b=⇑o->b≠X.env.locals:=λb o e=>ne_of_lt (lt_of_lt_of_le (qe e) I.ok.above);let M:∀b o,X.s₀.heap.get? b=⇑o->b∉X.ex->b∉ch:=λb o e B Y=>by
  rcases(J b Y).1 with z|z
  .show B z
  .rw[z]at e;cases e
 have L:∀x c,X.env.cells.lookup x=⇑c->∀v,s.heap.IsCell c v->h'.IsCell c v:=λx c e v⟨o,ho,hd⟩=>by
  let F:c∉ch:=λz=>(J c z).2.2.1 x c e rfl;by_cases hc:c∈X.fs
  .obtain⟨sl,q⟩:=slot c o (I.cne x c e) hc F ho (I.freeC x c e);show#[_,q,hd]
  .show#[o,G c o (I.cne x c e) hc F ho (I.freeC x c e),hd]
 show#[I.ok,I.os,hg,#[λb o e n Y B=>?_,λb o e n Y B=>?_,λb o e n B=>?_,λb o e B=>?_,λb xs e=>h1 b xs (I.base.tups b xs e),λb o xs e=>h5 b o xs (I.base.frzs b o xs e),λb ps e=>?_],?_,λx c e=>?_,?_,λx c e=>?_,λp hp=>?_,h7,I.len]
 .show G b o (h3 b o e) Y (M b o e B) (I.base.keep b o e n Y B) (I.base.free b o e n B)
 .obtain⟨sl,O⟩:=I.base.slot b o e n Y B;let#[h6,e2]:=slot b _ (h3 b o e) Y (M b o e B) O (I.base.free b o e n B);show#[h6,e2]
 .obtain⟨o',O⟩:=I.base.there b o e B;show free b o' (M b o e B) O (I.base.free b o e n B)
 .obtain⟨o',O⟩:=I.base.there b o e B;show there b o' (M b o e B) O
 .obtain⟨m1,O⟩:=I.base.tbls b ps e;let#[m2,e2]:=h2 b _ O;show#[m1++m2,by rw[e2,Array.append_assoc]]
 .obtain⟨m,hn,hl⟩:=I.loc;show#[m,ns m hn,λi x v O e2 e3=>?_];let#[u,r,l]:=hl i x v O e2 e3;show#[u,r,?_];rcases l with l|⟨k,c,e,z⟩
  .show .inl l
  .show .inr #[k,c,e,L x c e _ z]
 .obtain⟨v,z⟩:=I.cell x c e;show#[v,L x c e v z]
 .obtain⟨m,⟨o,_,_,ho,_⟩,_⟩:=I.loc;show free _ o (λz=>(J _ z).2.1 rfl) ho I.free
 .obtain⟨v,o,ho,hd⟩:=I.cell x c e;show free c o (λz=>(J c z).2.2.1 x c e rfl) ho (I.freeC x c e)
 .obtain⟨e,n,ne,nf,d⟩:=I.pin p hp;let F:p.1∉ch:=λz=>(J p.1 z).2.2.2 p hp rfl;show#[G p.1 p.2 ne nf F e n,free p.1 p.2 F e n,ne,nf,d]
def Inv.un(I:Inv X zU Z H s)(u:Un X.fs [] H H' s.heap h')(v:dI X.prog X.w H' h'):Inv X zU Z H' {s with heap:=h',toks:=t'}:=by let#[m,#[o,es,ep,J,r],_]:=id I.loc;let#[Y,O]:=u.any J I.free (by simp);show I.step (g':=s.gens) (d':=s.drawn) (ch:=[]) (λ_ z=>nomatch z) (λb o _ B _ e n=>u.keep b o e n B (by simp)) (λb o _ B _ e n=>u.slot b o e n B (by simp)) (λb o _ e n=>u.free b o e n (by simp)) (λb o _ e=>u.there b o e (by simp)) u.tups u.frzs u.tbls (λm' M=>by let#[o',F,G,i,L]:=M;rw[J]at i;cases i;show#[_,F,G,O,L]) v I.bare
def Inv.call(I:Inv X zU Z H s)(u:Un (nF X.stack) ch H H' s.heap h')(F:dI X.prog X.w H' h')(hg:AllBare g')
  (B:∀b∈ch,(b∈X.ex\/X.s₀.heap.get? b=none)/\b≠X.env.locals/\(∀x c,X.env.cells.lookup x=⇑c->c≠b)/\∀p∈X.pn++zU,p.1≠b):
  Inv X zU Z H' {s with heap:=h',gens:=g',drawn:=d',toks:=t'}:=by
 let#[m,#[o,es,ep,M,r],_]:=id I.loc;let#[sl,G]:=u.any M I.free λz=>(B _ z).2.1 rfl;show I.step (ch:=ch) B (λb o G hb i e n=>u.keep b o e n (λz=>(qB.mp (I.stkSub b z)).elim G hb) i) (λb o _ _ i e n=>u.any e n i) (λb o i e n=>u.free b o e n i) (λb o i e=>u.there b o e i) u.tups u.frzs u.tbls (λm' Y=>by let#[o',J,L,v,O]:=Y;rw[M]at v;cases v;show#[_,J,L,G,O]) F hg
def Inv.turned(I:Inv X zU Z H s)(k:∀b o,b≠it->s.heap.get? b=⇑o->h'.get? b=⇑o)(hn:H it=none)(F:it≠X.env.locals)
  (h1:it∈X.ex\/X.s₀.heap.get? it=none)(h2:∀x c,X.env.cells.lookup x=⇑c->c≠it)(M:∀p∈X.pn++zU,p.1≠it):Inv X zU Z H {s with heap:=h',toks:=t'}:=by
 let B:∀b u,H b=⇑u->b≠it:=λb u e z=>by rw[z,hn]at e;cases e
 refine I.step (g':=s.gens) (d':=s.drawn) (ch:=[it]) (λb L=>?_) (λb o _ _ i e _=>k b o (λz=>i (by simp[z])) e) (λb o _ _ i e _=>#[o.slots,k b o (λz=>i (by simp[z])) e]) (λ_ _ _ _ n=>n)
  (λb o i e=>#[o,k b o (λz=>i (by simp[z])) e]) (λ_ _ e=>e) (λ_ _ _ e=>e) (λb ps e=>#[#[],by rw[e];simp]) (λm J=>?_) (λb u e=>?_) I.bare
 .let e:b=it:=by simpa using L
  subst e;show#[h1,F,h2,M]
 .obtain⟨o,es,O,G,r⟩:=J;show#[o,es,O,k _ o (Ne.symm F) G,r]
 .show(I.hok b u e).stay (λc v i q=>k c v ?_ q) (λ_ q=>q) λ_ _ q=>q;rcases i with z|z
  .rw[z];show B b u e
  .show B c _ z
def Inv.tok(I:Inv X zU Z H s)(t:Nat):Inv X zU Z H {s with toks:=t}:=I.un (h':=s.heap) (t':=t) Un.refl I.hok
def Inv.kept(I:Inv X zU Z H s)(k:∀b u,s.heap.get? b=⇑u->h'.get? b=⇑u):Inv X zU Z H {s with heap:=h',toks:=t'}:=I.un (Un.kept k) (I.hok.kept k)
def Inv.laid(I:Inv X zU Z H s)(k:∀b u,s.heap.get? b=⇑u->h'.get? b=⇑u)(i:s.heap.objs.size<=a)(new:zT X.prog X.w (upd H a o) h' a o):
  Inv X zU Z (upd H a o) {s with heap:=h',toks:=t'}:=I.un (Un.laid k i (I.hok.fresh i)) (I.hok.laid k i new)
def Inv.write(I:Inv X zU Z H s)(v:bo (H x))(B:e=x\/H e=⇑(.own x))(k:∀b u,b≠e->s.heap.get? b=⇑u->h'.get? b=⇑u)(i:∃u,h'.get? e=⇑u)
  (new:zT X.prog X.w (upd H x o) h' x o):Inv X zU Z (upd H x o) {s with heap:=h',toks:=t'}:=I.un (Un.write v B k i) (I.hok.write v B k i new)
def Inv.pins_of(I:Inv X zU Z H s)(h:∀p∈pins',s.heap.get? p.1=⇑p.2/\H p.1=none/\p.1≠X.env.locals/\p.1∉X.fs/\∀v,p.2.data≠.cell v):Inv X pins' Z H s:=
 #[I.ok,I.os,I.bare,I.base,I.loc,I.cell,I.free,I.freeC,λp i=>(qy.mp i).elim (λz=>I.pin p (qk _ z)) (h p),I.hok,I.len]
def EH{N:List Str}(v:N.Nodup){i j:Nat}(a:N[i]?=⇑x)(b:N[j]?=⇑x):i=j:=by let#[h1,F]:=qh.mp a;let#[h2,B]:=qh.mp b;show(List.getElem_inj v).mp (F.trans B.symm)
def Inv.call'(I:Inv X zU Z H s)(B:s'.os=s.os)(u:Un (nF X.stack) ch H H' s.heap s'.heap)(i:dI X.prog X.w H' s'.heap)(F:AllBare s'.gens)
  (v:∀b∈ch,(b∈X.ex\/X.s₀.heap.get? b=none)/\b≠X.env.locals/\(∀x c,X.env.cells.lookup x=⇑c->c≠b)/\∀p∈X.pn++zU,p.1≠b):Inv X zU Z H' s':=by
 let#[h',g',d',t',o']:=s';let e:o'=s.os:=B;subst e;show I.call (g':=g') (t':=t') (d':=d') u i F v
end
abbrev XK:=Value->Option Addr->Hp->Prop
abbrev St:=List (Option V)
abbrev VK:=V->Hp->Prop
abbrev TE:=St->Hp->VK->Prop
abbrev TT:=St->Hp->(Bool->Hp->Prop)->Prop
abbrev TA:=St->Hp->(List V->Hp->Prop)->Prop
structure Ends where
 nx:St->Hp->Prop
 rt:VK
 bk:St->Hp->Prop:=λ_ _=>False
 ct:St->Hp->Prop:=λ_ _=>False
abbrev TS:=Ends->St->Hp->Prop
inductive EP(X:Cx)(zU:List (Addr×Obj))(Z:St)(Q:VK)(u:Value)(s':Shared):Prop
 |mk (v:V) (H':Hp):Inv X zU Z H' s'->zJ v u->Q v H'->EP X zU Z Q u s'
inductive TP(X:Cx)(zU:List (Addr×Obj))(Z:St)(Q:Bool->Hp->Prop)(b:Bool)(s':Shared):Prop
 |mk (H':Hp):Inv X zU Z H' s'->Q b H'->TP X zU Z Q b s'
inductive AP(X:Cx)(zU:List (Addr×Obj))(Z:St)(Q:List V->Hp->Prop)(us:List Value)(s':Shared):Prop
 |mk (vs:List V) (H':Hp):Inv X zU Z H' s'->zR vs us->Q vs H'->AP X zU Z Q us s'
@[inline]def SP(X:Cx)(zU:List (Addr×Obj))(D:Ends)(f:Flow)(s':Shared):Prop:=
 match f with
 |.next=>∃Z' H',Inv X zU Z' H' s'/\D.nx Z' H'
 |.brk=>∃Z' H',Inv X zU Z' H' s'/\D.bk Z' H'
 |.cont=>∃Z' H',Inv X zU Z' H' s'/\D.ct Z' H'
 |.ret u=>∃v Z' H',Inv X zU Z' H' s'/\zJ v u/\D.rt v H'
@[inline]def PE(X:Cx)(e:Expr)(t:TE):Prop:=
 ∀(zU:List (Addr×Obj))(s:Shared)(Z:St)(H:Hp)(Q:VK),Inv X zU Z H s->t Z H Q->wpAny (model X.prog X.w) X.A (eval e X.env) (EP X zU Z Q) X.xe s
@[inline]def PT(X:Cx)(e:Expr)(t:TT):Prop:=
 ∀(zU:List (Addr×Obj))(s:Shared)(Z:St)(H:Hp)(Q:Bool->Hp->Prop),Inv X zU Z H s->t Z H Q->wpAny (model X.prog X.w) X.A (isTrue e X.env (eval e X.env)) (TP X zU Z Q) X.xe s
@[inline]def PW(X:Cx)(e:Expr)(t:TT):Prop:=
 ∀(i:Sem Value)(zU:List (Addr×Obj))(s:Shared)(Z:St)(H:Hp)(Q:Bool->Hp->Prop),Inv X zU Z H s->t Z H Q->wpAny (model X.prog X.w) X.A (isTrue e X.env i) (TP X zU Z Q) X.xe s
def PW.pt(h:PW X e t):PT X e t:=h _
@[inline]def PA(X:Cx)(es:List Expr)(t:TA):Prop:=
 ∀(pos:Pos)(zU:List (Addr×Obj))(s:Shared)(Z:St)(H:Hp)(Q:List V->Hp->Prop),Inv X zU Z H s->t Z H Q->wpAny (model X.prog X.w) X.A (spliced (backTo pos (starEach es X.env))) (AP X zU Z Q) X.xe s
@[inline]def PS(X:Cx)(st:Stmt)(t:TS):Prop:=
 ∀(zU:List (Addr×Obj))(s:Shared)(Z:St)(H:Hp)(D:Ends),Inv X zU Z H s->t D Z H->wpAny (model X.prog X.w) X.A (exec st X.env) (SP X zU D) X.xe s
def iO(X:Cx)(st:List Stmt)(t:TS):Prop:=
 ∀(zU:List (Addr×Obj))(s:Shared)(Z:St)(H:Hp)(D:Ends),Inv X zU Z H s->t D Z H->wpAny (model X.prog X.w) X.A (execs st X.env) (SP X zU D) X.xe s
def Ai(h:wpAny M A t Q E s)(i:∀a s,Q a s->Q' a s):wpAny M A t Q' E s:=zt h i λ_ _ x=>x
section
variable{X:Cx}
def fm(i:Nat):TE:=λZ H Q=>∃v,Z[i]?=⇑⇑v/\Q v H
def tC(v:V):TE:=λ_ H Q=>Q v H
def MG(hN:X.N[i]?=⇑x)(O:ay X.env.scope x)(J:autoParam ((x==("__debug__":Str))=false) dZ9)(L:autoParam ((x==("__classdict__":Str))=false) dZ9):PE X (.Name x pos) (fm i):=by
 intro zU s Z H Q I h;let#[v,e,h]:=h;let#[m,Y,hl]:=I.loc;let#[u,r,l]:=hl i x v hN e O;let G:EP X zU Z Q u s:=#[v,H,I,r,h]
 rcases l with⟨F,hm⟩|⟨F,c,M,B⟩
 .show wpAny_Name (wpAny_loadName_local I.ok.kind F Y hm G) J
 .rcases F with F|F
  .show wpAny_Name (wpAny_loadName_cell I.ok.kind F M B G) J
  .show wpAny_Name (wpAny_loadName_free I.ok.kind F M B G L) J
def Mk:PE X (.Constant (.int i) j pos) (tC (.int i)):=λ_ _ _ H _ I h=>wpAny_Constant_int #[.int i,H,I.tok _,#[_,rfl],h]
def LS:PE X (.Constant (.bool b) j pos) (tC (.bl b)):=λ_ _ _ H _ I h=>Constant_bool #[.bl b,H,I,rfl,h]
def MX:PE X (.Constant .none j pos) (tC .non):=λ_ _ _ H _ I h=>Constant_none #[.non,H,I,rfl,h]
def Ny:PE X (.Constant (.str x) j pos) (tC (.str x)):=λ_ _ _ H _ I h=>Calls.Constant_str #[.str x,H,I.tok _,#[_,rfl],h]
@[inline]def Gl(X:Cx)(x:Str):Prop:=X.env.kindOf x=some .globalImplicit
def Oa(I:Inv X zU Z H s)(v:Gl X x)(i:X.mg x=⇑u)(h:Q u s)
  (B:autoParam ((x==("__debug__":Str))=false) dZ9):wpAny (model X.prog X.w) X.A (eval (.Name x pos) X.env) Q E s:=
 Calls.Name_function_global I.ok.kind v (Calls.loadGlobal_global (by rw[I.ok.glob];show I.mod.glob.keeps I.bk) i h) B
def BD(I:Inv X zU Z H s)(B:Gl X x)(v:X.mg x=none)(i:bootBuiltins x=⇑u)(h:Q u s)
  (hn:autoParam (x≠"__name__") dZ9)(F:autoParam ((x==("__debug__":Str))=false) dZ9):wpAny (model X.prog X.w) X.A (eval (.Name x pos) X.env) Q E s:=by
 let#[G,h1,h2]:=I.mod.blt;show Calls.Name_function_global I.ok.kind B (Calls.loadGlobal_builtin (by rw[I.ok.glob];show I.mod.glob.keeps I.bk) v (by rw[I.ok.blt];show h1.keeps I.bk) ((h2 x hn).trans i) h) F
variable{a b:Expr}{ta tb:TE}{pos:Pos}
def By(b:Expr)(h:op≠.In)(h2:op≠.NotIn):behindInMarks op b=false:=by
 let v:(op==CmpOp.In)=false:=by cases op<;>first|rfl|show absurd rfl h
 let i:(op==CmpOp.NotIn)=false:=by cases op<;>first|rfl|show absurd rfl h2
 cases b<;>first|rfl|(show(_&&(op==.In||op==.NotIn)&&_)=false;rw[v,i,Bool.or_false,Bool.and_false];rfl)
variable{tA tB':TT}{rest:List Expr}
def gp(t u:TT):TT:=λZ H Q=>t Z H λc H1=>if c=true then u Z H1 Q else Q false H1
def nc(t u:TT):TT:=λZ H Q=>t Z H λc H1=>if c=true then Q true H1 else u Z H1 Q
def gc(t:TT):TT:=λZ H Q=>t Z H λc H1=>Q (!c) H1
def NR(i:PT X a tA):PW X (.BoolOp .And [a] pos) tA:=by
 intro v zU s Z H Q I h;show isTrue_and (Ai (i zU s Z H Q I h) λc B e=>?_);cases c with
 |true=>show isTrue_and_nil e
 |false=>show e
def MC(i:PT X a tA):PW X (.BoolOp .Or [a] pos) tA:=by
 intro v zU s Z H Q I h;show isTrue_or (Ai (i zU s Z H Q I h) λc B e=>?_);cases c with
 |false=>show isTrue_or_nil e
 |true=>show e
def Mw(L:PT X a tA)(J:PW X (.BoolOp .And (b::rest) pos) tB'):PW X (.BoolOp .And (a::b::rest) pos) (gp tA tB'):=by
 intro F zU s Z H Q I h;show isTrue_and (Ai (L zU s Z H _ I h) λc G B=>?_);let#[H1,v,i]:=B;cases c with
 |true=>show J F zU G Z H1 Q v i
 |false=>show#[H1,v,i]
def LZ(L:PT X a tA)(J:PW X (.BoolOp .Or (b::rest) pos) tB'):PW X (.BoolOp .Or (a::b::rest) pos) (nc tA tB'):=by
 intro F zU s Z H Q I h;show isTrue_or (Ai (L zU s Z H _ I h) λc G B=>?_);let#[H1,v,i]:=B;cases c with
 |true=>show#[H1,v,i]
 |false=>show J F zU G Z H1 Q v i
def ND(v:PT X a tA):PT X (.UnaryOp .Not a pos) (gc tA):=by intro zU s Z H Q I h;show isTrue_not (Ai (v zU s Z H (λc H1=>Q (!c) H1) I h) λc F z=>by let#[H1,B,i]:=z;show#[H1,B,i])
def xZ(ta tb:TE):TE:=λZ H Q=>ta Z H λx H1=>∃c,x=.bl c/\if c=true then tb Z H1 Q else Q (.bl false) H1
def OF(h:PE X a t):PE X (.BoolOp op [a] pos) t:=by first|rfl|assumption|(simp_all;done)
def Mj(M:PE X a ta)(L:PE X (.BoolOp .And (b::rest) pos) tb):PE X (.BoolOp .And (a::b::rest) pos) (xZ ta tb):=by
 intro zU s Z H Q I h;show BoolOp_and (Ai (M zU s Z H _ I h) λv G F=>?_);let#[x,H1,B,J,i]:=F;let#[c,rfl,i]:=i;cases J;show wpAny_truthy_bool ?_;cases c with
 |true=>show L zU G Z H1 Q B i
 |false=>show#[.bl false,H1,B,rfl,i]
end
def bB(K:W.Frag)(H:Hp)(a:Addr)(xs:List V):Prop:=
 Rd H a (.lst xs)\/
  ∃(o:Obj)(i:Array Value)(n:Nat),K.lookup a=⇑o/\o.cls=.type "list"/\o.dict=none/\o.data=.seq i n/\i.size<=sizeLine/\zR xs i.toList
def aZ(K:W.Frag)(H:Hp)(a:Addr)(xs:List V):Prop:=
 Rd H a (.tup xs)\/
  ∃(o:Obj)(i:Array Value)(n:Nat),K.lookup a=⇑o/\o.cls=.type "tuple"/\o.data=.seq i n/\i.size<=sizeLine/\zR xs i.toList
def kc:Value->Option V
 |.none=>⇑.non
 |.bool b=>⇑(.bl b)
 |.int i _=>⇑(.int i)
 |.str x _=>⇑(.str x)
 |.bytes b _=>⇑(.byt b)
 |.float b _=>⇑(.flt b)
 |.ref a=>⇑(.ref a)
 |.type n=>⇑(.ty n)
 |_=>none
def zJ.abs(r:zJ x u):kc u=⇑x:=by
 cases x with
 |non=>cases r;rfl
 |bl _=>cases r;rfl
 |int _=>let#[t,rfl]:=r;rfl
 |str _=>let#[t,rfl]:=r;rfl
 |byt _=>let#[t,rfl]:=r;rfl
 |flt _=>let#[t,rfl]:=r;rfl
 |ref _=>cases r;rfl
 |ty _=>cases r;rfl
def zJ.inj(r:zJ x u)(q:zJ y u):x=y:=qg (r.abs.symm.trans q.abs)
def zR.inj:∀{xs ys:List V}{us:List Value},zR xs us->zR ys us->xs=ys:=by
 intro xs ys us r q;induction r generalizing ys with
 |nil=>cases q;rfl
 |cons r _ B=>cases q with
  |cons v i=>rw[r.inj v,B i]
inductive bw(xs:List V)(h:Heap)(a:Addr):Prop
 |mk (zY:List Value):zR xs zY->PlainL h a zY.toArray->xs.length<=sizeLine->bw xs h a
inductive bu(xs:List V)(h:Heap)(a:Addr):Prop
 |mk (zY:List Value):zR xs zY->IsTup h a zY.toArray->xs.length<=sizeLine->bu xs h a
section
variable{X:Cx}{zU:List (Addr×Obj)}{Z:St}{H:Hp}{s:Shared}{a:Addr}{xs ys:List V}
def bB.of{K:W.Frag}(h:H a=⇑(.lst xs)):bB K H a xs:=.inl (.inl h)
def aZ.of{K:W.Frag}(h:H a=⇑(.tup xs)):aZ K H a xs:=.inl (.inl h)
def Inv.list(I:Inv X zU Z H s)(h:bB X.K H a xs):bw xs s.heap a:=by
 rcases h with h|⟨o,i,n,B,G,F,v,J,r⟩
 .obtain⟨z,i,n,r,e⟩:=h.ok I.hok;show#[i,r,#[_,n,e,rfl,rfl,rfl],z]
 .show#[i.toList,r,#[o,n,I.kIn a o B,G,F,↑v],?_];let e:=r.length;simp only[qW]at e;lia
def Inv.tuple(I:Inv X zU Z H s)(h:aZ X.K H a xs):bu xs s.heap a:=by
 rcases h with h|⟨o,i,n,B,F,v,G,r⟩
 .obtain⟨z,i,r,p⟩:=h.ok I.hok;show#[i,r,p,z.1]
 .show#[i.toList,r,#[o,I.kIn a o B,F,n,↑v],?_];let e:=r.length;simp only[qW]at e;lia
def Inv.list_inj(I:Inv X zU Z H s)(h:bB X.K H a xs)(h':bB X.K H a ys):xs=ys:=by
 let#[v,r,#[o,n,e,_,_,d],_]:=I.list h;let#[i,G,#[o',J,B,_,_,F],_]:=I.list h';rw[e]at B;cases B;rw[d]at F;injection F with d1 _
 let:v=i:=by simpa using congrArg Array.toList d1
 subst this;show r.inj G
def Inv.tuple_inj(I:Inv X zU Z H s)(h:aZ X.K H a xs)(h':aZ X.K H a ys):xs=ys:=by
 let#[v,r,#[o,e,_,n,d],_]:=I.tuple h;let#[i,G,#[o',B,_,J,F],_]:=I.tuple h';rw[e]at B;cases B;rw[d]at F;injection F with d1 _
 let:v=i:=by simpa using congrArg Array.toList d1
 subst this;show r.inj G
end
section
variable{X:Cx}{st:Stmt}{rest:List Stmt}{t u:TS}{e:Expr}{te:TE}{pos:Pos}
def xV:TS:=λD Z H=>D.nx Z H
def fu(t u:TS):TS:=λD Z H=>t {D with nx:=u D} Z H
def Pq:iO X [] xV:=λ_ _ Z H _ I h=>wpAny_execs_nil #[Z,H,I,h]
def PL(h1:PS X st t)(h2:iO X rest u):iO X (st::rest) (fu t u):=by
 intro zU s Z H D I h;show wpAny_execs_cons (Ai (h1 zU s Z H {D with nx:=u D} I h) λf B q=>?_);cases f with
 |next=>let#[i,H',F,q]:=q;show h2 zU B i H' D F q
 |ret v=>show q
 |brk=>show q
 |cont=>show q
def Pb(h1:PS X st t):iO X [st] t:=by
 intro zU s Z H D I h;show wpAny_execs_cons (Ai (h1 zU s Z H D I h) λf i q=>?_);cases f with
 |next=>show wpAny_execs_nil q
 |ret v=>show q
 |brk=>show q
 |cont=>show q
def Inv.quiet(I:Inv X zU Z H s):interactive X.env=false:=by simp[interactive,I.ok.kind]
def xW(te:TE):TS:=λD Z H=>te Z H λ_ H1=>D.nx Z H1
def Py(F:PE X e te)(B:autoParam (swapsWith e none pos.line X.env=pure false) rZ9):PS X (.Expr e pos) (xW te):=by intro zU s Z H D I h;show wpAny_Expr_any (Ai (F zU s Z H _ I h) λv J⟨x,H1,G,L,i⟩=>#[Z,H1,G,i]) I.quiet B
def fx(te:TE):TS:=λD Z H=>te Z H D.rt
def MK(F:PE X e te):PS X (.Return ⇑e pos) (fx te):=by intro zU s Z H D I h;show wpAny_Return_some (Ai (F zU s Z H _ I h) λv J⟨x,H1,G,i,B⟩=>#[x,Z,H1,G,i,B])
def gj(c:TT)(t u:TS):TS:=λD Z H=>c Z H λb H1=>if b=true then t D Z H1 else u D Z H1
def LL(G:PT X c tc)(L:iO X a t)(J:iO X b u):PS X (.If c a b pos) (gj tc t u):=by
 intro zU s Z H D I h;show wpAny_If (Ai (G zU s Z H _ I h) λd i F=>?_);let#[H1,B,v]:=F;cases d with
 |true=>show L zU i Z H1 D B v
 |false=>show J zU i Z H1 D B v
end
abbrev TG:=V->St->Hp->(St->Hp->Prop)->Prop
abbrev bc:=List V->St->Hp->(St->Hp->Prop)->Prop
@[inline]def PG(X:Cx)(i:Expr)(t:TG):Prop:=
 ∀(zU:List (Addr×Obj))(s:Shared)(Z:St)(H:Hp)(v:V)(u:Value)(Q:St->Hp->Prop),Inv X zU Z H s->zJ v u->t v Z H Q->
  wpAny (model X.prog X.w) X.A (assign i X.env u) (λ_ s'=>∃Z' H',Inv X zU Z' H' s'/\Q Z' H') X.xe s
def bj(X:Cx)(i:List Expr)(t:bc):Prop:=
 ∀(zU:List (Addr×Obj))(s:Shared)(Z:St)(H:Hp)(vs:List V)(us:List Value)(Q:St->Hp->Prop),Inv X zU Z H s->zR vs us->t vs Z H Q->
  wpAny (model X.prog X.w) X.A (assignInOrder ((assignEach i X.env).map (·.2)) us) (λ_ s'=>∃Z' H',Inv X zU Z' H' s'/\Q Z' H') X.xe s
abbrev bb:=V->V->V->Hp->(Hp->Prop)->Prop
def bg(X:Cx)(t:bb):Prop:=
 ∀(zU:List (Addr×Obj))(s:Shared)(Z:St)(H:Hp)(o i v:V)(B F u:Value)(Q:Hp->Prop),Inv X zU Z H s->zJ o B->zJ i F->zJ v u->t o i v H Q->
  wpAny (model X.prog X.w) X.A (setItem B F u) (λ_ s'=>∃H',Inv X zU Z H' s'/\Q H') X.xe s
section
variable{X:Cx}{pos:Pos}
def jw:bc:=λi Z H Q=>i=[]/\Q Z H
def aq(t:TG)(u:bc):bc:=λB Z H Q=>∃v r,B=v::r/\t v Z H λi H'=>u r i H' Q
def OU:bj X [] jw:=by intro zU s Z H i v Q I r h;let#[e,h]:=h;subst e;cases r;show assignInOrder_nil #[Z,H,I,h]
def Ro(h1:PG X e t)(h2:bj X es u)
  (L:autoParam ((assignEach (e::es) X.env).map (·.2)=assign e X.env::(assignEach es X.env).map (·.2)) rZ9):bj X (e::es) (aq t u):=by
 intro zU s Z H Y us Q I r h;let#[v,vr,M,h]:=h;subst M;cases r with
 |cons r G=>rw[L];show assignInOrder_cons (Ai (h1 zU s Z H _ _ _ I r h) λ_ F B=>?_);let#[i,H1,O,J]:=B;show h2 zU F i H1 _ _ Q O G J
def bP(K:W.Frag)(n:Nat)(t:bc):TG:=λv Z H Q=>∃a xs,v=.ref a/\aZ K H a xs/\xs.length=n/\t xs Z H Q
def MU(Y:X.calm=true)(h:bj X es t)
  (hn:autoParam ((assignEach es X.env).length=n) rZ9)(B:autoParam ((assignEach es X.env).findIdx? (·.1)=none) rZ9):PG X (.Tuple es k pos) (bP X.K n t):=by
 intro zU s Z H v u Q I r i;let#[a,xs,e1,M,O,i]:=i;subst e1;cases r;let#[G,F,L,hz]:=I.tuple M;show assign_Tuple_tuple (I.ok.hd Y) L (by simp[hn,<-O,F.length]) B λh' J=>?_;let I1:Inv X zU Z H {s with heap:=h'}:=I.kept (t':=s.toks) λb o e=>J b o (ne_of_lt (qe e)) e;show h zU _ Z H xs _ Q I1 ↑F i
def jv(B F:TE)(t:bb):TG:=λv Z H Q=>B Z H λo H1=>F Z H1 λi H2=>t o i v H2 λG=>Q Z G
def MA(ho:PE X o to)(hi:PE X i ti)(hs:bg X t)
  (ha:∀v,assign (.Subscript o i pos) X.env v=(do
   let ov<-holding [v] (eval o X.env)
   let iv<-holding [v,ov] (eval i X.env)
   standAt pos
   holding [v,ov,iv] (setItem ov iv v)
   release [v,ov,iv] []):=by intro _;rfl):PG X (.Subscript o i pos) (jv to ti t):=by
 intro zU s Z H v u Q I r h;rw[ha];show qa (zp (Ai (ho zU s Z H _ I h) λov s1 zq=>?_));let#[x,H1,I1,r1,q1]:=zq;show qa (zp (Ai (hi zU s1 Z H1 _ I1 q1) λiv s2 zq=>?_));let#[y,H2,I2,r2,q2]:=zq;show qa (wpAny_standAt (qa (zp (Ai (hs zU s2 Z H2 x y v ov iv u _ I2 r1 r2 r q2) λ_ s3 zq=>?_))));let#[H3,I3,q3]:=zq;show wpAny_release #[Z,H3,I3,q3]
def gn(te:TE)(g:TG):TS:=λD Z H=>te Z H λx H1=>g x Z H1 D.nx
def HR(O:PE X e te)(M:PG X tg g)(L:autoParam (swapsWithSole [tg] e pos.line X.env=pure false) rZ9)(J:autoParam (swappedStores [tg] e X.env=pure none) rZ9)
  (h1:autoParam ((assignEach [tg] X.env).map (·.2)=[assign tg X.env]) rZ9):PS X (.Assign [tg] e pos) (gn te g):=by
 intro zU s Z H D I h;show wpAny_Assign_stores (Ai (O zU s Z H _ I h) λv B i=>?_) L J;let#[x,H1,Y,F,G]:=i;rw[h1];show Ai (M zU B Z H1 x v _ Y F G) λ_ s2 q=>q
def tF(c:TT)(tb:TS):TS:=λD Z H=>∃W:Nat->St->Hp->Prop,(∃m,W m Z H)/\∀m Z H,W m Z H->
 c Z H λb H1=>if b=true then∃N:St->Hp->Prop,(∀Z' H',N Z' H'->∃m',m'<m/\W m' Z' H')/\tb {D with nx:=N,ct:=N,bk:=D.nx} Z H1 else D.nx Z H1
def QG(hp:PassesOwn (model X.prog X.w) X.A X.env X.xe)(hc:PT X c tc)(hb:iO X body tb):PS X (.While c body [] pos) (tF tc tb):=by
 intro zU s Z H D I h;let#[W,#[m0,w0],F]:=h;show wpAny_While (codeAny_whileLoop (λn s'=>∃Z' H',Inv X zU Z' H' s'/\W n Z' H') ?_ m0 #[Z,H,I,w0]);rintro n s1 ⟨B,H1,I1,w1⟩;show wpAny_passesOwn hp (Ai (hc zU s1 B H1 _ I1 (F n B H1 w1)) λb s2 zq=>?_);let#[H2,I2,L]:=zq;cases b with
 |true=>
  let#[N,hN,L]:=L;rw[q8 rfl];show wpAny_passesOwn hp (Ai (hb zU s2 B H2 _ I2 L) λf s3 J=>?_);cases f with
  |next=>let#[i,G,I3,O]:=J;let#[Y,hm,M]:=hN i G O;show#[Y,hm,i,G,I3,M]
  |cont=>let#[i,G,I3,O]:=J;let#[Y,hm,M]:=hN i G O;show#[Y,hm,i,G,I3,M]
  |brk=>show J
  |ret v=>show J
 |false=>rw[q9 qY];show wpAny_execs_nil #[B,H2,I2,L]
end
structure It where
 go:Nat->Hp->Prop
 yld:Nat->Hp->V->Hp->Prop
 stop:Nat->Hp->Prop
def cO(X:Cx)(zU:List (Addr×Obj))(H:Hp)(b:Addr):Prop:=
 H b=none/\b≠X.env.locals/\b∉X.fs/\(b∈X.ex\/X.s₀.heap.get? b=none)/\(∀x c,X.env.cells.lookup x=⇑c->c≠b)/\∀p∈X.pn++zU,p.1≠b
def Inv.fpOk(I:Inv X zU Z H s)(i:s.heap.objs.size<=b)(hn:H' b=none):cO X zU H' b:=by
 show#[hn,ne_of_gt (lt_of_lt_of_le I.lt i),I.nofs i,.inr (Heap.get?_none_of_le (le_trans I.sz i)),λx c e z=>?_,λp B z=>?_]
 .obtain⟨v,q⟩:=I.cell x c e;show absurd (lt_of_lt_of_le q.lt (by rw[z];show i)) (lt_irrefl _)
 .show absurd (lt_of_lt_of_le (qe (I.pin p B).1) (by rw[z];show i)) (lt_irrefl _)
structure fT(P:Program)(w:World)(K:W.Frag)(tg:Expr)(J:It)(fp:List Addr)(it:Addr)(tn:Nat->Heap->Prop):Prop where
 mem:it∈fp
 obj:∀i h,tn i h->∀b∈fp,∃o,h.get? b=⇑o/\∀v,o.data≠.cell v
 keep:∀i h h',tn i h->(∀b∈fp,∀o,h.get? b=⇑o->h'.get? b=⇑o)->tn i h'
 item:∀(X:Cx),X.prog=P->X.w=w->X.K=K->X.calm=true->∀(i:Nat)(zU:List (Addr×Obj))(s:Shared)(Z:St)(H:Hp)(E:zu),Inv X zU Z H s->(∀b∈fp,cO X zU H b)->tn i s.heap->J.go i H->
  wpAny (model P w) X.A (pyNext (.ref it)) (λr s1=>∃u,r=⇑u/\
   wpAny (model P w) X.A (letOwnedTupleGo tg (.ref it) u) (λ_ s2=>∃x H',Inv X zU Z H' s2/\zJ x u/\J.yld i H x H'/\tn (i+1) s2.heap/\∀b∈fp,H' b=none) E s1) E s
 done:∀(X:Cx),X.prog=P->X.w=w->X.K=K->X.calm=true->∀(i:Nat)(zU:List (Addr×Obj))(s:Shared)(Z:St)(H:Hp)(E:zu),Inv X zU Z H s->(∀b∈fp,cO X zU H b)->tn i s.heap->J.stop i H->
  wpAny (model P w) X.A (pyNext (.ref it)) (λr s1=>r=none/\Inv X zU Z H s1) E s
 self:∀(A:Around)(i:Nat)(s:Shared)(Q:zu)(E:zu),tn i s.heap->Q (.ref it) s->wpAny (model P w) A (pyIter (.ref it)) Q E s
abbrev TI:=St->Hp->(It->Hp->Prop)->Prop
inductive bh(X:Cx)(zU:List (Addr×Obj))(Z:St)(tg:Expr)(R:It->Hp->Prop)(itv:Value)(s2:Shared):Prop
 |mk (it:Addr) (fp:List Addr) (tn:Nat->Heap->Prop) (J:It) (H':Hp):itv=.ref it->Inv X zU Z H' s2->fT X.prog X.w X.K tg J fp it tn->tn 0 s2.heap->(∀b∈fp,cO X zU H' b)->R J H'->bh X zU Z tg R itv s2
@[inline]def PI(X:Cx)(tg iter:Expr)(i:TI):Prop:=
 ∀(zU:List (Addr×Obj))(s:Shared)(Z:St)(H:Hp)(R:It->Hp->Prop),Inv X zU Z H s->i Z H R->
  wpAny (model X.prog X.w) X.A (eval iter X.env) (λv B=>wpAny (model X.prog X.w) X.A (pyIter v) (bh X zU Z tg R) X.xe B) X.xe s
def Dd(v:s.heap.get? it=⇑o)(F:o.cls=.type n)(B:o.data=.fields vs)
  (hn:["enumerate","zip","dict_itemiterator","dict_reverseitemiterator","odict_iterator","itertools.zip_longest","itertools.pairwise"].contains n=false)(i:Q () s):wpAny M A (letOwnedTupleGo tg (.ref it) u) Q E s:=by
 unfold letOwnedTupleGo;cases tg<;>first
  |show qb i
  |(cases u<;>first
   |show qb i
   |(show qa (wpAny_load v ?_);rw[F,B];show wpAny M A (if(["enumerate","zip","dict_itemiterator","dict_reverseitemiterator","odict_iterator","itertools.zip_longest","itertools.pairwise"].contains n&&vs[0]?==some (rawInt _))=true then _ else _) Q E s;rw[q9 (by intro h;rw[hn,Bool.false_and]at h;cases h)];show qb i))
def xN(K:W.Frag)(a:Addr):It:=
 #[λi H=>∃xs x,bB K H a xs/\xs[i]?=⇑x,λi H x H'=>H'=H/\∀xs,bB K H a xs->xs[i]?=⇑x,λi H=>∃xs,bB K H a xs/\xs.length<=i]
def kj(K:W.Frag)(a:Addr):It:=
 #[λi H=>∃xs x,aZ K H a xs/\xs[i]?=⇑x,λi H x H'=>H'=H/\∀xs,aZ K H a xs->xs[i]?=⇑x,λi H=>∃xs,aZ K H a xs/\xs.length<=i]
def bx(lo:Int)(n:Nat):It:=#[λi _=>i<n,λi H x H'=>H'=H/\x=.int (lo+i),λi _=>n<=i]
def TR{P:Program}{w:World}{K:W.Frag}{tg:Expr}(a it:Addr):fT P w K tg (xN K a) [it] it (λi h=>h.IsListIter it a i) where
 mem:=by simp
 obj:=λi h st b hb=>by
  let e:b=it:=↑hb
  subst e;let#[o,e,c,d]:=st;show#[o,e,λv z=>by rw[d]at z;cases z]
 keep:=λi h h' st k=>st.at λo e=>k it (by simp) o e
 item:=by intro X hP hw hK hc i zU s Z H E I hf st hg;subst hP hw hK;let#[xs,x,hq,hx]:=hg;let#[zY,rv,p,hz]:=I.list hq;let#[u,hu,ru]:=rv.get hx;let#[f0,f1,f2,f3,f4,f5]:=hf it (by simp);show wpAny_pyNext_list_item st p.isList (x:=u) ↑hu λh' st' sb=>?_;let I1:Inv X zU Z H {s with heap:=h'}:=I.turned (t':=s.toks) (λb o hb e=>(sb.2 b hb).trans e) f0 f1 f3 f4 f5;let#[o,e,c,d]:=id st';show#[u,rfl,Dd (s:={s with heap:=h'}) e c d ⋯ #[x,H,I1,ru,#[rfl,λys hy=>by rw[I.list_inj hy hq];show hx],st',λb hb=>(hf b hb).1]]
 done:=by intro X hP hw hK hc i zU s Z H E I hf st hg;subst hP hw hK;let#[xs,hq,hx]:=hg;let#[zY,rv,p,hz]:=I.list hq;let#[f0,f1,f2,f3,f4,f5]:=hf it (by simp);let hl:=rv.length;show wpAny_pyNext_list_end (I.ok.hd hc) st p.isList (by simp;lia -verbose) λh' eb=>#[rfl,I.turned (t':=s.toks) (λb o hb e=>eb b o hb e) f0 f1 f3 f4 f5]
 self:=λ_ _ _ _ _ st h=>wpAny_pyIter_listiter st h
def SW{P:Program}{w:World}{K:W.Frag}{tg:Expr}(a it:Addr):fT P w K tg (kj K a) [it] it (λi h=>h.IsTupleIter it a i) where
 mem:=by simp
 obj:=λi h st b hb=>by
  let e:b=it:=↑hb
  subst e;let#[o,e,c,d]:=st;show#[o,e,λv z=>by rw[d]at z;cases z]
 keep:=λi h h' st k=>st.at λo e=>k it (by simp) o e
 item:=by intro X hP hw hK hc i zU s Z H E I hf st hg;subst hP hw hK;let#[xs,x,hq,hx]:=hg;let#[zY,rv,p,hz]:=I.tuple hq;let#[u,hu,ru]:=rv.get hx;let#[f0,f1,f2,f3,f4,f5]:=hf it (by simp);show wpAny_pyNext_tuple_item st (show s.heap.IsTuple a zY.toArray from p) (x:=u) ↑hu λh' st' sb=>?_;let I1:Inv X zU Z H {s with heap:=h'}:=I.turned (t':=s.toks) (λb o hb e=>(sb.2 b hb).trans e) f0 f1 f3 f4 f5;let#[o,e,c,d]:=id st';show#[u,rfl,Dd (s:={s with heap:=h'}) e c d ⋯ #[x,H,I1,ru,#[rfl,λys hy=>by rw[I.tuple_inj hy hq];show hx],st',λb hb=>(hf b hb).1]]
 done:=by intro X hP hw hK hc i zU s Z H E I hf st hg;subst hP hw hK;let#[xs,hq,hx]:=hg;let#[zY,rv,p,hz]:=I.tuple hq;let#[f0,f1,f2,f3,f4,f5]:=hf it (by simp);let hl:=rv.length;show wpAny_pyNext_tuple_end (I.ok.hd hc) st (show s.heap.IsTuple a zY.toArray from p) (by simp;lia -verbose) λh' eb=>#[rfl,I.turned (t':=s.toks) (λb o hb e=>eb b o hb e) f0 f1 f3 f4 f5]
 self:=λ_ _ _ _ _ st h=>wpAny_pyIter_tupleiter st h
def SU{P:Program}{w:World}{K:W.Frag}{tg:Expr}(it:Addr)(lo:Int)(n:Nat):fT P w K tg (bx lo n) [it] it (λi h=>IsRangeIter h it (lo+(i:Nat)*1) ((n:Int)-(i:Nat)) 1) where
 mem:=by simp
 obj:=λi h st b hb=>by
  let e:b=it:=↑hb
  subst e;show#[_,st,λv z=>by let z':Data.fields _=Data.cell v:=z;cases z']
 keep:=λi h h' st k=>k it (by simp) _ st
 item:=by intro X hP hw hK hc i zU s Z H E I hf st hg;subst hP hw hK;let#[f0,f1,f2,f3,f4,f5]:=hf it (by simp);let W:=Walks.range (prog:=X.prog) (w:=X.w) (I.ok.hd hc) it lo 1 n;show W.item i s _ _ hg st λv h' tk hv st' kk=>?_;let#[t,rfl]:=hv;let I1:Inv X zU Z H {s with heap:=h',toks:=tk}:=I.turned (λb o hb e=>kk b o ↑hb e) f0 f1 f3 f4 f5;show#[_,rfl,Dd (s:={s with heap:=h',toks:=tk}) (n:="range_iterator") st' rfl rfl ⋯ #[.int (lo+i),H,I1,#[t,?_],#[rfl,rfl],st',λb hb=>(hf b hb).1]];rw[mul_one]
 done:=by intro X hP hw hK hc i zU s Z H E I hf st hg;subst hP hw hK;let#[f0,f1,f2,f3,f4,f5]:=hf it (by simp);show wpAny_pyNext_range_end (I.ok.hd hc) st (by let:n<=i:=hg;lia) λh' eb=>#[rfl,I.turned (t':=s.toks) (λb o hb e=>eb b o hb e) f0 f1 f3 f4 f5]
 self:=λ_ _ _ _ _ st h=>wpAny_pyIter_rangeiter st h
section
variable{X:Cx}{tg:Expr}
def JA{lo hi:Int}(I:Inv X zU Z H s)(h1:-(2^62)<=lo)(h2:lo<2^62)(G:-(2^62)<=hi)(F:hi<2^62)
  (q:R (bx lo (hi-lo).toNat) H):wpAny (model X.prog X.w) X.A (pyIter (.ref s.heap.objs.size)) (bh X zU Z tg R) E {s with heap:=s.heap.push {cls:=.type "range",data:=.fields [.int lo t,.int hi u,.int 1 v].toArray},toks:=tk}:=by
 refine wpAny_pyIter_range (IsRange.new ..) (small_one h1 h2 G F) ?_;let i:Inv X zU Z H {s with heap:=s.heap.push {cls:=.type "range",data:=.fields [.int lo t,.int hi u,.int 1 v].toArray},toks:=tk}:=I.kept λb o e=>qc _ e;refine⟨(s.heap.push {cls:=.type "range",data:=.fields [.int lo t,.int hi u,.int 1 v].toArray}).objs.size,[(s.heap.push {cls:=.type "range",data:=.fields [.int lo t,.int hi u,.int 1 v].toArray}).objs.size],_,_,H,rfl,
  i.kept (t':=tk) λb o e=>qc _ e,SU _ lo (hi-lo).toNat,?_,λb B=>?_,q⟩
 .let L:lo+((0:Nat):Int)*1=lo:=by simp
  let J:(((hi-lo).toNat:Nat):Int)-((0:Nat):Int)=Builtin.Range.rangeSize lo hi 1:=by rw[rangeSize_one];split<;>lia
  show IsRangeIter _ _ (lo+((0:Nat):Int)*1) ((((hi-lo).toNat:Nat):Int)-((0:Nat):Int)) 1;rw[L,J];show qd _ rfl
 .let e:b=(s.heap.push {cls:=.type "range",data:=.fields [.int lo t,.int hi u,.int 1 v].toArray}).objs.size:=by simpa using B
  subst e;show i.fpOk (zb _) (i.hok.fresh (zb _))
def aj(ta:TA):TI:=λZ H R=>ta Z H λi H1=>∃j:Int,i=[.int j]/\-(2^62)<=j/\j<2^62/\R (bx 0 j.toNat) H1
def ai(ta:TA):TI:=λZ H R=>ta Z H λv H1=>∃i j:Int,v=[.int i,.int j]/\(-(2^62)<=i/\i<2^62/\-(2^62)<=j/\j<2^62)/\R (bx i (j-i).toNat) H1
def SD(M:Gl X "range")(L:X.mg "range"=none)(O:PA X [a] ta)(J:autoParam (starEach [a] X.env=[(false,eval a X.env)]) rZ9):PI X tg (.Call (.Name "range" p) [a] [] pos) (aj ta):=by
 intro zU s Z H R I h;show Call_ (BD I M L boot_range (PyProof.Rows.callWith_type1 (Ai (O pos zU s Z H _ I h) λus s1 v=>?_) J rfl));let#[vs,H1,Y,F,i]:=v;let#[j,e,i,G,q]:=i;subst e;cases F with
 |cons r B=>cases B;let#[t,rfl]:=r;show call_range_1 (JA Y ∅ ∅ i G ↑q)
def RB(hg:Gl X "range")(hm:X.mg "range"=none)(ha:PA X [a,b] ta)(hs:autoParam (starEach [a,b] X.env=[(false,eval a X.env),(false,eval b X.env)]) rZ9)(v:autoParam (starEach [b] X.env=[(false,eval b X.env)]) rZ9):
  PI X tg (.Call (.Name "range" p) [a,b] [] pos) (ai ta):=by
 intro zU s Z H R I h;show Call_ (BD I hg hm boot_range (PyProof.Rows.callWith_type1 (Ai (ha pos zU s Z H _ I h) λus s1 G=>?_) (by rw[hs,v]) (by rw[v];rfl)));let#[vs,H1,I1,J,F]:=G;let#[i,j,e,#[F,Y,O,M],q]:=F;subst e;cases J with
 |cons r B=>
  cases B with
  |cons L B=>cases B;let#[t,rfl]:=r;let#[t',rfl]:=L;show call_range_2 (JA I1 F Y O M q)
def gk(B:TI)(g:TG)(tb:TS):TS:=λD Z H=>B Z H λJ H1=>∃W:Nat->Nat->St->Hp->Prop,(∃m,W 0 m Z H1)/\∀i m Z H,W i m Z H->
 (J.stop i H/\D.nx Z H)\/(J.go i H/\∃N:St->Hp->Prop,(∀Z' H',N Z' H'->∃m',m'<m/\W (i+1) m' Z' H')/\∀x H',J.yld i H x H'->g x Z H' λv H2=>tb {D with nx:=N,ct:=N,bk:=D.nx} v H2)
def fN(fp:List Addr)(h:Heap):List (Addr×Obj):=fp.filterMap λb=>(h.get? b).map λo=>(b,o)
def EO(i:b∈fp)(e:h.get? b=⇑o):(b,o)∈fN fp h:=mem_filterMap.mpr #[b,i,by rw[e];rfl]
def RY(i:p∈fN fp h):p.1∈fp/\h.get? p.1=⇑p.2:=by
 let#[b,v,e]:=mem_filterMap.mp i;cases q:h.get? b with
 |none=>rw[q]at e;cases e
 |some o=>grind
def Inv.pinned(I:Inv X zU Z H s)(J:∀b∈fp,cO X zU H b)(G:∀b∈fp,∃o,s.heap.get? b=⇑o/\∀v,o.data≠.cell v):Inv X (zU++fN fp s.heap) Z H s:=
 I.pins_of λp F=>(qy.mp F).elim (λz=>I.pin p (qj _ z)) λz=>by let#[i,e]:=RY z;let#[O,M,L,_]:=J p.1 i;let#[o,B,d]:=G p.1 i;rw[e]at B;cases B;show#[e,O,M,L,d]
def Inv.unpinned(I:Inv X (zU++v) Z H s):Inv X zU Z H s:=I.pins_of λp i=>I.pin p (qj _ (qk _ i))
def Ng(hp:PassesOwn (model X.prog X.w) X.A X.env X.xe)(hc:X.calm=true)(hi:PI X tg iter wi)(hg:PG X tg g)(L:iO X body tb)
  (hs:∀x,foldedSetIterable iter X.env x=pure x:=by intro _;rfl):PS X (.For tg iter body [] pos) (gk wi g tb):=by
 intro zU s Z H D I h;show wpAny_For (Ai (hi zU s Z H _ I h) λv s1 h1=>Ai h1 λe4 s2 h2=>?_) hs;let#[it,fp,tn,J,H2,e,I2,T,e1,f2,W,#[m0,w0],h5]:=h2;subst e
 --what stays true of the iterator's objects through the loop
 let G:∀{H':Hp},(∀b∈fp,H' b=none)->∀b∈fp,cO X zU H' b:=λhn b L=>#[hn b L,(f2 b L).2]
 show codeAny_forLoop_any (λn s'=>∃i Z' H',Inv X zU Z' H' s'/\tn i s'.heap/\(∀b∈fp,H' b=none)/\W i n Z' H') ?_ m0 #[0,Z,H2,I2,e1,λb L=>(f2 b L).1,w0];rintro n s3 ⟨i,F,H3,I3,h7,h8,w3⟩;rcases h5 i n F H3 w3 with⟨h6,qn⟩|⟨go,N,hN,step⟩
 .show wpAny_passesOwn hp (Ai (T.done X rfl rfl rfl hc i zU s3 F H3 X.xe I3 (G h8) h7 h6) λr s4⟨hr,I4⟩=>?_);subst hr;show wpAny_execs_nil #[F,H3,I4,qn]
 .show wpAny_passesOwn hp (Ai (T.item X rfl rfl rfl hc i zU s3 F H3 X.xe I3 (G h8) h7 go) λr s4 zq=>?_);let#[u,hr,h4]:=zq;subst hr;show wpAny_passesOwn hp (Ai h4 λ_ s5 zq=>?_);let#[x,H5,I5,r5,y5,h3,e2]:=zq;let e3:=I5.pinned (G e2) (T.obj _ _ h3);show wpAny_passesOwn hp (Ai (hg _ s5 F H5 x u _ e3 r5 (step x H5 y5)) λ_ s6 zq=>?_);let#[h9,H6,I6,q6]:=zq;show wpAny_passesOwn hp (Ai (L _ s6 h9 H6 _ I6 q6) λf s7 Y=>?_);let again:∀{B:St}{O:Hp},Inv X (zU++fN fp s5.heap) B O s7->N B O->∃m,m<n/\∃i Z' H',Inv X zU Z' H' s7/\tn i s7.heap/\(∀b∈fp,H' b=none)/\W i m Z' H':=λ{B O} M n7=>by let#[m',hm,w7]:=hN B O n7;show#[m',hm,i+1,B,O,M.unpinned,T.keep _ _ _ h3 λb L o e=>(M.pin (b,o) (qj _ (qj _ (EO L e)))).1,λb L=>?_,w7];let#[o,e,d]:=T.obj _ _ h3 b L;exact(M.pin (b,o) (qj _ (qj _ (EO L e)))).2.1
  cases f with
  |next=>let#[B,O,M,n7]:=Y;show again M n7
  |cont=>let#[B,O,M,n7]:=Y;show again M n7
  |brk=>let#[B,O,M,Y]:=Y;show#[B,O,M.unpinned,Y]
  |ret v=>let#[x7,B,O,M,r7,Y]:=Y;show#[x7,B,O,M.unpinned,r7,Y]
end
abbrev R2:=V->V->Hp->VK->Prop
@[inline]def OpR(X:Cx)(f:Value->Value->Sem Value)(r:R2):Prop:=
 ∀(zU:List (Addr×Obj))(s:Shared)(Z:St)(H:Hp)(x y:V)(v u:Value)(Q:VK),Inv X zU Z H s->zJ x v->zJ y u->r x y H Q->
  wpAny (model X.prog X.w) X.A (f v u) (EP X zU Z Q) X.xe s
def aU(X:Cx)(f:Value)(r:List V->Hp->VK->Prop):Prop:=
 ∀(zU:List (Addr×Obj))(s:Shared)(Z:St)(H:Hp)(xs:List V)(us:List Value)(Q:VK),Inv X zU Z H s->zR xs us->r xs H Q->
  wpAny (model X.prog X.w) X.A (call f us) (EP X zU Z Q) X.xe s
def kg(X:Cx)(r:V->Hp->(Bool->Hp->Prop)->Prop):Prop:=
 ∀(zU:List (Addr×Obj))(s:Shared)(Z:St)(H:Hp)(x:V)(v:Value)(Q:Bool->Hp->Prop),Inv X zU Z H s->zJ x v->r x H Q->
  wpAny (model X.prog X.w) X.A (truthy v) (TP X zU Z Q) X.xe s
def cx(r:R2)(ta tb:TE):TE:=λZ H Q=>ta Z H λx H1=>tb Z H1 λy H2=>r x y H2 Q
def rI(C:Int->Int->Prop)(g:Int->Int->V):R2:=λx y H Q=>∃i j,x=.int i/\y=.int j/\C i j/\Q (g i j) H
def rV(g:Int->Int->V):R2:=λx y H Q=>∃i j,x=.int i/\y=.int j/\Q (g i j) H
section
variable{X:Cx}{a b c:Expr}{ta tb tc:TE}{pos:Pos}
def CG(ha:PE X a ta)(hb:PE X b tb){R:V->V->Hp->Prop}(I:Inv X zU Z H s)
  (h:ta Z H λx H1=>tb Z H1 λy H2=>R x y H2){f:Value->Value->Sem Value}
  (hf:∀v u F x y H2,Inv X zU Z H2 F->zJ x v->zJ y u->R x y H2->wpAny (model X.prog X.w) X.A (f v u) Q X.xe F):
  wpAny (model X.prog X.w) X.A (eval a X.env) (λv B=>wpAny (model X.prog X.w) X.A (eval b X.env) (λu i=>wpAny (model X.prog X.w) X.A (f v u) Q X.xe i) X.xe B) X.xe s:=by
 show Ai (ha zU s Z H _ I h) λv J G=>?_;let#[x,H1,I1,M,Y]:=G;show Ai (hb zU J Z H1 _ I1 Y) λu F G=>?_;let#[y,H2,I2,L,O]:=G;show hf v u F x y H2 I2 M L O
def Mc(G:OpR X (binaryOp op) r)(L:PE X a ta)(J:PE X b tb):PE X (.BinOp a op b pos) (cx r ta tb):=by intro zU s Z H Q I h;show wpAny_BinOp (CG L J I h λv u i x y H2 M F B q=>G zU i Z H2 x y v u Q M F B q)
def DQ{g:Int->Int->Int}
  (rule:∀(i j:Int)(t u:Tok)(s:Shared)(Q:zu)(E:zu),C i j->Q (.int (g i j) s.toks) {s with toks:=s.toks+1}->wpAny (model X.prog X.w) X.A (f (.int i t) (.int j u)) Q E s):
  OpR X f (rI C λi j=>.int (g i j)):=by
 intro zU s Z H x y v u Q I G F h;let#[i,j,rfl,rfl,J,q]:=h;let#[t,rfl]:=G;let#[B,rfl]:=F;show rule i j t B s _ _ J #[.int (g i j),H,I.tok _,#[_,rfl],q]
def Ho{g:Int->Int->Int}
  (rule:∀(i j:Int)(t u:Tok)(s:Shared)(Q:zu)(E:zu),Q (.int (g i j) s.toks) {s with toks:=s.toks+1}->wpAny (model X.prog X.w) X.A (f (.int i t) (.int j u)) Q E s):
  OpR X f (rV λi j=>.int (g i j)):=by
 intro zU s Z H x y v u Q I G F h;let#[i,j,rfl,rfl,q]:=h;let#[t,rfl]:=G;let#[B,rfl]:=F;show rule i j t B s _ _ #[.int (g i j),H,I.tok _,#[_,rfl],q]
def BO{g:Int->Int->Bool}
  (rule:∀(i j:Int)(t u:Tok)(s:Shared)(Q:zu)(E:zu),Q (.bool (g i j)) s->wpAny (model X.prog X.w) X.A (f (.int i t) (.int j u)) Q E s):
  OpR X f (rV λi j=>.bl (g i j)):=by
 intro zU s Z H x y v u Q I G F h;let#[i,j,rfl,rfl,q]:=h;let#[t,rfl]:=G;let#[B,rfl]:=F;show rule i j t B s _ _ #[.bl (g i j),H,I,rfl,q]
def cp(i j:Int):Prop:=0<=j/\j<=1000000/\i.natAbs<2^64
def nP(i j:Int):Prop:=(-(2^64)<i/\i<2^64)\/(-(2^64)<j/\j<2^64)
def nP.ok(h:nP i j):IntMulOk i j:=by
 rcases h with⟨h1,h2⟩|⟨h1,h2⟩
 .show .of_left (intBits_le_64 h1 h2)
 .show .of_right (intBits_le_64 h1 h2)
def Mr:OpR X (binaryOp .Add) (rV λi j=>.int (i+j)):=Ho λ_ _ _ _ _ _ _ q=>add_int q
def Mz:OpR X (binaryOp .Mult) (rI nP λi j=>.int (i*j)):=DQ λ_ _ _ _ _ _ _ v q=>mul_int q v.ok
def Mi:OpR X (binaryOp .Mod) (rI (λ_ j=>0<j) λi j=>.int (i %j)):=DQ λi j _ _ _ _ _ v q=>by let h1:(0:Int)<j:=v;show mod_int' ∅ (by rw[Int.fmod_eq_emod_of_nonneg i ∅];show q)
def NI:OpR X (binaryOp .Pow) (rI cp λi j=>.int (i^j.toNat)):=DQ λ_ _ _ _ _ _ _ v q=>pow_int_small v.1 v.2.1 v.2.2 q
end
def yA:V->V->Bool
 |.non,.non=>true|.non,.int _=>true|.int _,.non=>true|.non,.bl _=>true|.bl _,.non=>true|.non,.str _=>true|.str _,.non=>true
 |.int _,.int _=>true|.bl _,.bl _=>true|.str _,.str _=>true|.byt _,.byt _=>true
 |.int _,.str _=>true|.str _,.int _=>true|.bl _,.str _=>true|.str _,.bl _=>true
 |_,_=>false
def nh:R2:=λx y H Q=>yA x y=true/\Q (.bl (!decide (x=y))) H
def NS:↥(V.int i=V.int j)=(i==j):=by rw[Bool.eq_iff_iff];simp
def MM:↥(V.bl i=V.bl j)=(i==j):=by rw[Bool.eq_iff_iff];simp
def NY:↥(V.str i=V.str j)=(i==j):=by rw[Bool.eq_iff_iff];simp
def Os:↥(V.byt i=V.byt j)=(i.toList==j.toList):=by rw[Bool.eq_iff_iff];cases i;cases j;simp
section
variable{X:Cx}{a b c:Expr}{ta tb tc:TE}{pos:Pos}
def AU(I:Inv X zU Z H s)(q:Q (.bl k) H)(e:k=i):EP X zU Z Q (.bool i) s:=by subst e;show#[.bl k,H,I,rfl,q]
def LU:OpR X (compareOp .NotEq) nh:=by
 intro zU s Z H x y v u Q I J B h;let#[G,q]:=h;cases x with
 |non=>
  cases J;cases y with
  |non=>cases B;show PySem.EqNone.ne_none_none (AU I q (by simp))
  |bl j=>cases B;show PySem.EqNone.ne_none_bool (AU I q (by simp))
  |int j=>let#[F,rfl]:=B;show PySem.EqNone.ne_none_int (AU I q (by simp))
  |str j=>let#[F,rfl]:=B;show PySem.EqNone.ne_none_str (AU I q (by simp))
  |_=>show absurd (show false=true from G) qY
 |bl i=>
  cases J;cases y with
  |non=>cases B;show PySem.EqNone.ne_bool_none (AU I q (by simp))
  |bl j=>cases B;show ne_bool (AU I q (congrArg not MM))
  |str j=>let#[F,rfl]:=B;show PySem.EqMixed.ne_bool_str (AU I q (by simp))
  |_=>show absurd (show false=true from G) qY
 |int i=>
  let#[t,rfl]:=J;cases y with
  |non=>cases B;show PySem.EqNone.ne_int_none (AU I q (by simp))
  |int j=>let#[F,rfl]:=B;show ne_int (AU I q (congrArg not NS))
  |str j=>let#[F,rfl]:=B;show PySem.EqMixed.ne_int_str (AU I q (by simp))
  |_=>show absurd (show false=true from G) qY
 |str i=>
  let#[t,rfl]:=J;cases y with
  |non=>cases B;show PySem.EqNone.ne_str_none (AU I q (by simp))
  |bl j=>cases B;show PySem.EqMixed.ne_str_bool (AU I q (by simp))
  |int j=>let#[F,rfl]:=B;show PySem.EqMixed.ne_str_int (AU I q (by simp))
  |str j=>let#[F,rfl]:=B;show ne_str (AU I q (congrArg not NY))
  |_=>show absurd (show false=true from G) qY
 |byt i=>
  let#[t,rfl]:=J;cases y with
  |byt j=>let#[F,rfl]:=B;show W.ne_bytes (AU I q (congrArg not Os))
  |_=>show absurd (show false=true from G) qY
 |_=>cases y<;>show absurd (show false=true from G) qY
def Mf:OpR X (compareOp .Lt) (rV λi j=>.bl ↥(i<j)):=BO λ_ _ _ _ _ _ _ q=>lt_int q
def LX:OpR X (compareOp .LtE) (rV λi j=>.bl ↥(i<=j)):=BO λ_ _ _ _ _ _ _ q=>le_int q
def LP:OpR X (compareOp .Gt) (rV λi j=>.bl ↥(j<i)):=BO λ_ _ _ _ _ _ _ q=>gt_int q
def LK:OpR X (compareOp .GtE) (rV λi j=>.bl ↥(j<=i)):=BO λ_ _ _ _ _ _ _ q=>ge_int q
def MJ:OpR X (compareOp .Is) (λx y H Q=>y=.non/\Q (.bl ↥(x=.non)) H):=by
 intro zU s Z H x y v u Q I i B h;let#[rfl,q]:=h;cases B;show is_none_gen (AU I q ?_);cases x<;>first
  |(cases i;rfl)
  |(let#[t,rfl]:=i;rfl)
def Pp:OpR X (compareOp .IsNot) (λx y H Q=>y=.non/\Q (.bl (!decide (x=.non))) H):=by
 intro zU s Z H x y v u Q I i B h;let#[rfl,q]:=h;cases B;show isnot_none_gen (AU I q ?_);cases x<;>first
  |(cases i;rfl)
  |(let#[t,rfl]:=i;rfl)
def Ab(b:Expr)(h:autoParam (op≠.In) dZ9)(h2:autoParam (op≠.NotIn) dZ9):behindInMarks op b=false:=By b h h2
def Og(G:OpR X (compareOp op) r)(M:PE X a ta)(L:PE X b tb)(J:behindInMarks op b=false):PE X (.Compare a [op] [b] pos) (cx r ta tb):=by intro zU s Z H Q I h;show wpAny_Compare1 (CG M L I h λv u i x y H2 O F B q=>G zU i Z H2 x y v u Q O F B q) J
def xT(t:TE):TT:=λZ H Q=>t Z H λx H'=>∃k,x=.bl k/\Q k H'
def Pj(Y:OpR X (compareOp op) r)(ha:PE X a ta)(hb:PE X b tb)(hm:behindInMarks op b=false):PT X (.Compare a [op] [b] pos) (xT (cx r ta tb)):=by
 intro zU s Z H Q I h;show wpAny_isTrue_Compare1 (Ai (ha zU s Z H _ I h) λv B⟨x,H1,I1,J,O⟩=>Ai (hb zU B Z H1 _ I1 O) λu i⟨y,H2,I2,G,M⟩=>Ai (Y zU i Z H2 x y v u _ I2 J G M) λc s3⟨z,H3,I3,F,k,e,L⟩=>?_) hm
 subst e;cases F;show wpAny_truthy_bool #[H3,I3,L]
def wX(K:W.Frag)(x:V)(H:Hp)(k:Bool):Prop:=
 match x with
 |.non=>k=false
 |.bl b=>k=b
 |.int i=>k=(i !=0)
 |.str y=>y.length<=sizeLine/\k=((y.length:Int) !=0)
 |.byt y=>y.size<=sizeLine/\k=((y.size:Int) !=0)
 |.ref p=>(∃xs,bB K H p xs/\k=!xs.isEmpty)\/(∃xs,aZ K H p xs/\k=!xs.isEmpty)\/∃zV,H p=⇑(.dK zV)/\k=!zV.isEmpty
 |_=>False
def TC(r:KV zV vs):(!vs.isEmpty)=!zV.isEmpty:=by cases r<;>rfl
def Lb(r:zR xs i):(!i.toArray.isEmpty)=!xs.isEmpty:=by cases r<;>simp
def AA:(sizeLine:Nat)<2^63:=by rw[zn];decide
def Ik:kg X (λx H Q=>∃k,wX X.K x H k/\Q k H):=by
 intro zU s Z H x v Q I G h;let#[k,e,q]:=h;let hl:=AA;let hs:sizeLine=16777216:=zn;cases x with
 |non=>cases G;let B:k=false:=e;subst B;show truthy_none #[H,I,q]
 |bl b=>cases G;let B:k=b:=e;subst B;show wpAny_truthy_bool #[H,I,q]
 |int i=>let#[t,rfl]:=G;let B:k=(i !=0):=e;subst B;show PySem.P.truthy_int #[H,I,q]
 |str y=>let#[t,rfl]:=G;obtain⟨Y,B⟩:y.length<=sizeLine/\k=((y.length:Int) !=0):=e;subst B;show PySem.P.truthy_str ∅ #[H,I.tok _,q]
 |byt y=>let#[t,rfl]:=G;obtain⟨Y,B⟩:y.size<=sizeLine/\k=((y.size:Int) !=0):=e;subst B;show W.truthy_bytes ∅ #[H,I.tok _,q]
 |ref p=>
  cases G;let B:(∃xs,bB X.K H p xs/\k=!xs.isEmpty)\/(∃xs,aZ X.K H p xs/\k=!xs.isEmpty)\/∃zV,H p=⇑(.dK zV)/\k=!zV.isEmpty:=e;rcases B with⟨xs,J,B⟩|⟨xs,J,B⟩|⟨zV,J,B⟩
  .subst B;let#[M,r,L,O]:=I.list J;let F:=r.length;show wpAny_truthy_list L.isList (by simp only[qt];lia) #[H,I.tok _,by rw[Lb r];show q]
  .subst B;let#[M,r,L,O]:=I.tuple J;let F:=r.length;show truthy_tuple L (by simp only[qt];lia) #[H,I.tok _,by rw[Lb r];show q]
  .subst B;obtain⟨O,hS,vs,r,m⟩:zV.length<=sizeLine/\(p==sysModules)=false/\∃vs,KV zV vs/\s.heap.DictOf (aD X.prog X.w) p vs:=I.hok p _ J;let F:zV.length=vs.length:=Paired.length r;show wpAny_truthy_dict hS m ∅ #[H,I.tok _,by rw[TC r];show q]
 |_=>show(show False from e).elim
def Jy(ha:PE X a ta)(he:∀whole,isTrue a X.env whole=(do let v<-whole;standAt a.pos;holding [v] (truthy v))):
  PT X a (λZ H Q=>ta Z H λx H'=>∃k,wX X.K x H' k/\Q k H'):=by
 intro zU s Z H Q I h;show isTrue_plain (Ai (ha zU s Z H _ I h) λv s1⟨x,H1,I1,r1,q1⟩=>Ik zU s1 Z H1 x v Q I1 r1 q1) (he _)
def Tc:OpR X (binaryOp .Add) (λx y H Q=>∃i j,x=.str i/\y=.str j/\i.length+j.length<=sizeLine/\Q (.str (i++j)) H):=by intro zU s Z H x y v u Q I G F h;let#[i,j,rfl,rfl,J,q]:=h;let#[t,rfl]:=G;let#[B,rfl]:=F;show add_str (λB tk=>#[.str (i++j),H,I.tok _,#[_,rfl],q]) J
theorem vals1(r:zR [x] us):∃u,us=[u]/\zJ x u:=by
 cases r with
 |cons v i=>cases i;show#[_,rfl,v]
theorem vals2(r:zR [x,y] us):∃u i,us=[u,i]/\zJ x u/\zJ y i:=by
 cases r with
 |cons G F=>
  cases F with
  |cons B v=>cases v;show#[_,_,rfl,G,B]
def RG(B:X.calm=true):aU X (.builtin "max") (λxs H Q=>∃i j,xs=[.int i,.int j]/\Q (.int (if j>i then j else i)) H):=by
 intro zU s Z H xs G Q I r h;let#[i,j,rfl,q]:=h;let#[u,F,rfl,#[t,rfl],#[J,rfl]]:=vals2 r;show max_two_ints (I.ok.hd B) λh' tk k=>#[_,H,I.kept k,?_,q]
 by_cases v:j>i
 .rw[q8 v,q8 v];show#[_,rfl]
 .rw[q9 v,q9 v];show#[_,rfl]
def RO(B:X.calm=true):aU X (.builtin "min") (λxs H Q=>∃i j,xs=[.int i,.int j]/\Q (.int (if j<i then j else i)) H):=by
 intro zU s Z H xs G Q I r h;let#[i,j,rfl,q]:=h;let#[u,F,rfl,#[t,rfl],#[J,rfl]]:=vals2 r;show min_two_ints (I.ok.hd B) λh' tk k=>#[_,H,I.kept k,?_,q]
 by_cases v:j<i
 .rw[q8 v,q8 v];show#[_,rfl]
 .rw[q9 v,q9 v];show#[_,rfl]
def SK:aU X (.type "int") (λxs H Q=>(∃i,xs=[.int i]/\Q (.int i) H)\/∃k,xs=[.bl k]/\Q (.int (if k then 1 else 0)) H):=by
 intro zU s Z H xs B Q I r h;rcases h with⟨i,rfl,q⟩|⟨k,rfl,q⟩
 .obtain⟨u,rfl,t,rfl⟩:=vals1 r;show call_int_int #[.int i,H,I,#[_,rfl],q]
 .obtain⟨u,rfl,v⟩:=vals1 r;cases v;show call_int_bool #[.int (if k then 1 else 0),H,I.tok _,#[_,rfl],q]
end
structure wZ(h:Heap)(x dx C:Addr)(mA:Str->Option Value):Prop where
 obj:h.get? x=⇑(W.instObj C dx)
 ns:h.Ns1 dx mA
 ne:dx≠x
def RK{h:Heap}(n:h.Ns1 dx B):∃v,h.get? dx=⇑v/\∀name,W.lookIn name v=⇑(B name):=by
 let#[o,es,M,G,L,J,_,I]:=n;show#[o,G,λname=>?_];let e:=I name;unfold nsFind findBy at e;rw[<-Array.find?_toList]at e;unfold W.lookIn;rw[L];dsimp only;split
 .rename_i y q;rw[q]at e;show congrArg some e
 .rename_i q;rw[q]at e;let a:es.toList.any (·.refKey)=false:=by rw[List.any_eq_false];intro y F;let#[z,t,i]:=J y (mem_toList_iff.mp F);simp[DictEntry.refKey,i]
  grind
def wZ.look(I:wZ h x dx C v):∃i,W.InstAt h x (W.instObj C dx) C ⇑i/\∀name,W.lookIn name i=⇑(v name):=
 let⟨i,ho,hl⟩:=RK I.ns
 #[i,#[I.obj,rfl,rfl,ho],hl]
def eN.some_of(r:eN ⇑v o):∃u,o=⇑u/\zJ v u:=by
 cases o with
 |none=>show(show False from r).elim
 |some u=>show#[u,rfl,r]
section
variable{P:Program}{w:World}{H H':Hp}{h h':Heap}{a C dx:Addr}{fs fs':List (Str×V)}
def OW(v:dI P w H h)(e:H a=⇑(.ins C dx fs)):∃i,wZ h a dx C i/\(∀f,eN (fs.lookup f) (i f))/\PySem.Within i (fs.map (·.1))/\fs.length<=1000/\H dx=⇑(.own a):=by
 let#[d,z,F,B,i,n,r,q]:=(show zT P w H h a (.ins C dx fs) from v a _ e)
 show#[i,#[B,n,F],r,q,z,d]
end
structure ko(K:W.Frag)(C:Addr):Prop where
 pg:W.plainGet K C Str.empty=true
 hd:W.hasDictIn K C=true
 po:W.plainOver K C=true
 sa:W.findIn K (.ref C) "__setattr__"=⇑⇑(.builtin "object.__setattr__")
def ko.get{K:W.Frag}(c:ko K C)(f:Str):W.plainGet K C f=true:=c.pg
section
variable{X:Cx}{zU:List (Addr×Obj)}{Z:St}{H:Hp}{s:Shared}{A:Around}{E:zu}{Q:zu}{c:Value}{b:Bool}
inductive eY(K:W.Frag)(H:Hp):V->Value->Prop where
 |non:eY K H .non (.type "NoneType")
 |bl (x:Bool):eY K H (.bl x) (.type "bool")
 |int (i:Int):eY K H (.int i) (.type "int")
 |str (x:Str):eY K H (.str x) (.type "str")
 |flt (x:UInt64):eY K H (.flt x) (.type "float")
 |lst {a:Addr} {xs:List V} (e:H a=some (.lst xs)):eY K H (.ref a) (.type "list")
 |frz {a:Addr} {o:Obj} {xs:List V} (e:H a=some (.frz o (.lst xs))):eY K H (.ref a) (.type "list")
 |tup {a:Addr} {xs:List V} (e:H a=some (.tup xs)):eY K H (.ref a) (.type "tuple")
 |dK {a:Addr} {zV:List (bD×V)} (e:H a=some (.dK zV)):eY K H (.ref a) (.type "dict")
 |dT {a:Addr} {zV:List (List bD×V)} (e:H a=some (.dT zV)):eY K H (.ref a) (.type "dict")
 |ins {a C dx:Addr} {fs:List (Str×V)} (e:H a=some (.ins C dx fs)) (cl:ko K C) (ha:W.findIn K (.ref C) "__class__"=some (some (.builtin "object.__class__")))
  (hn:W.specialIn K (.builtin "object.__class__") "__get__"=⇑⇑(.builtin "getset_descriptor.__get__")) (htk:W.takesIn K (.builtin "object.__class__")=⇑true)
  (hm:W.mroIn K C (.type "object")=⇑true):eY K H (.ref a) (.ref C)
def Cw(I:Inv X zU Z H s)(v:zJ x u)(M:eY X.K H x t)(e:W.kitOne X.K t c=⇑b)(h:∀tk,Q (.bool b) {s with toks:=tk}):
  wpAny (model X.prog X.w) A (call (.builtin "isinstance") [u,c]) Q E s:=by
 cases M with
 |non=>cases(show u=Value.none from v);show W.kia_one W.kitx_none I.kIn True.intro e (λz=>nomatch z) h
 |bl y=>cases(show u=Value.bool y from v);show W.kia_one W.kitx_bool I.kIn True.intro e (λz=>nomatch z) h
 |int i=>let#[t,q]:=(show∃t,u=Value.int i t from v);cases q;show W.kia_one W.kitx_int I.kIn True.intro e (λz=>nomatch z) h
 |str y=>let#[t,q]:=(show∃t,u=Value.str y t from v);cases q;show W.kia_one W.kitx_str I.kIn True.intro e (λz=>nomatch z) h
 |flt y=>let#[t,q]:=(show∃t,u=Value.float y t from v);cases q;show W.kia_one W.kitx_float I.kIn True.intro e (λz=>nomatch z) h
 |@lst a xs B=>
  cases(show u=Value.ref a from v);let#[_,_,n,_,h1]:=(show zT X.prog X.w H s.heap a (.lst xs) from I.hok a _ B)
  show W.kia_one W.kitx_list I.kIn #[_,h1,rfl] e (λz=>nomatch z) h
 |@frz a Y xs B=>
  cases(show u=Value.ref a from v);let#[_,_,_,n,_,h1]:=(show zT X.prog X.w H s.heap a (.frz Y (.lst xs)) from I.hok a _ B)
  show W.kia_one W.kitx_list I.kIn #[_,h1,rfl] e (λz=>nomatch z) h
 |@tup a xs B=>
  cases(show u=Value.ref a from v);let#[_,_,_,p]:=(show zT X.prog X.w H s.heap a (.tup xs) from I.hok a _ B)
  let#[o,h1,h2,_]:=p;show W.kia_one W.kitx_tuple I.kIn #[o,h1,h2] e (λz=>nomatch z) h
 |@dK a F B=>
  cases(show u=Value.ref a from v);let#[_,_,vs,_,p]:=(show zT X.prog X.w H s.heap a (.dK F) from I.hok a _ B)
  let#[o,es,ep,h1,h2,_]:=p;show W.kia_one W.kitx_dict I.kIn #[o,h1,h2.1] e (λz=>nomatch z) h
 |@dT a F B=>
  cases(show u=Value.ref a from v);let#[_,_,xs,_,o,es,ep,h1,h2,_]:=(show zT X.prog X.w H s.heap a (.dT F) from I.hok a _ B)
  show W.kia_one W.kitx_dict I.kIn #[o,h1,h2.1] e (λz=>nomatch z) h
 |@ins a C dx fs B L ha hn G hm=>cases(show u=Value.ref a from v);let#[mA,O,_]:=OW I.hok B;let#[od,J,_]:=O.look;show W.kia_one (W.kitx_own (L.get _) L.hd ha hn G hm) I.kIn J e (λz=>nomatch z) h
end
structure bQ(k:Nat)(A:Around):Prop where
 hd:A.handled=none
 dp:A.depth+3*k+5<recursionLimit
 un:A.units+16*k+200<cLine
 gd:A.guards=⇑[]
def bQ.mono(r:bQ k A)(h:j<=k):bQ j A:=#[r.hd,by let:=r.dp;lia,by let:=r.un;lia,r.gd]
def bQ.deeper(r:bQ (k+1) A)(env:Env):bQ k (A.deeper env):=
 #[r.hd,by let:=r.dp;show A.depth+1+3*k+5<_;lia,by let:=r.un;show A.units+3+16*k+200<_;lia,r.gd]
def bQ.depth(r:bQ k A):A.depth<recursionLimit:=by let:=r.dp;lia
def bQ.units(r:bQ k A):A.units+64<cLine:=by let:=r.un;lia
def gf:TA:=λ_ H Q=>Q [] H
def xY(ta:TE)(i:TA):TA:=λZ H Q=>ta Z H λx H1=>i Z H1 λxs H2=>Q (x::xs) H2
section
variable{X:Cx}{e:Expr}{es:List Expr}{te:TE}{t:TA}{pos:Pos}
def Mo:PA X [] gf:=λ_ _ _ _ H Q I h=>Calls.spliced_nil #[[],H,I,.nil,h]
def Oj(O:PE X e te)(M:PA X es t)(L:autoParam (starEach (e::es) X.env=(false,eval e X.env)::starEach es X.env) rZ9):PA X (e::es) (xY te t):=by intro pos zU s Z H Q I h;rw[L];show wpAny _ _ (spliced ((false,eval e X.env)::backTo pos (starEach es X.env))) _ _ s;show Calls.spliced_cons (Ai (O zU s Z H _ I h) λu v i=>?_);let#[x,H1,I1,F,J]:=i;show Ai (M pos zU v Z H1 _ I1 J) λus s2⟨xs,H2,Y,B,G⟩=>#[x::xs,H2,Y,.cons F B,G]
def fo(t:TA):TE:=λZ H Q=>t Z H λxs H1=>xs.length<=sizeLine/\∀p,H1 p=none->Q (.ref p) (upd H1 p (.tup xs))
def gh(t:TA):TE:=λZ H Q=>t Z H λxs H1=>xs.length<=sizeLine/\∀p,H1 p=none->Q (.ref p) (upd H1 p (.lst xs))
def Nl(h:PA X es t):PE X (.Tuple es J pos) (fo t):=by intro zU s Z H Q I F;show wpAny_Tuple_spliced (Ai (h pos zU s Z H _ I F) λB i⟨xs,H1,v,r,z,q⟩=>#[by rw[<-r.length];show z,?_]);let G:H1 i.heap.objs.size=none:=v.hok.fresh (zb _);show#[.ref i.heap.objs.size,upd H1 i.heap.objs.size (.tup xs),v.laid (t':=i.toks) (λb u e=>qc _ e) (zb _) ?_,rfl,q _ G];show#[#[z,iL.new rfl (qd _ rfl)],B,r,#[_,qd _ rfl,rfl,_,rfl]]
def Na(h:PA X es t):PE X (.List es pos) (gh t):=by intro zU s Z H Q I F;show wpAny_List_spliced (Ai (h pos zU s Z H _ I F) λB i⟨xs,H1,v,r,z,q⟩=>#[by rw[<-r.length];show z,?_]);let G:H1 i.heap.objs.size=none:=v.hok.fresh (zb _);show#[.ref i.heap.objs.size,upd H1 i.heap.objs.size (.lst xs),v.laid (t':=i.toks) (λb u e=>qc _ e) (zb _) ?_,rfl,q _ G];show#[z,B,0,r,qd _ rfl]
end
abbrev Sp:=List V->Hp->VK->XK->Prop
abbrev cn:=List Env->Hp->Shared->XK->Value->Shared->Prop
structure rP(P:Program)(w:World)(K:W.Frag)(mg:Str->Option Value)(base:Heap)(A:Around)(outer:List Env)(s:Shared)(H:Hp):Prop where
 frames:A.frames=⇑outer
 mod:Mod K mg base
 bs:∀b o,base.get? b=⇑o->s.heap.get? b=⇑o/\H b=none
 bsz:base.objs.size<=s.heap.objs.size
 funs:s.heap.FunFrames base outer
 frf:∀b∈nF outer,H b=none
 hok:dI P w H s.heap
 bare:AllBare s.gens
@[inline]def CE(i:List Env)(P:Program)(w:World)(H:Hp)(s:Shared)(Q:VK)(u:Value)(s':Shared):Prop:=
 ∃v H',s'.os=s.os/\AllBare s'.gens/\Un (nF i) [] H H' s.heap s'.heap/\dI P w H' s'.heap/\zJ v u/\Q v H'
@[inline]def CR(CX:cn)(i:List Env)(P:Program)(w:World)(H:Hp)(s:Shared)(Q:VK)(E:XK)(r:Result)(s':Shared):Prop:=
 match r with
 |.ok (.ret u)=>CE i P w H s Q u s'
 |.ok _=>False
 |.error e=>CX i H s E e s'
structure cY(P:Program)(w:World)(K:W.Frag)(mg:Str->Option Value)(base:Heap)(CX:cn)(k:Nat)(f:Addr)(fd:FuncData)(ps:List Str)(sp:Sp):Prop where
 len:∀vs H Q E,sp vs H Q E->vs.length=ps.length
 run:∀(A:Around)(outer:List Env)(s:Shared)(H:Hp)(args:Args)(us:List Value)(vs:List V)(Q:VK)(E:XK),bQ k A->rP P w K mg base A outer s H->BindsTo s fd args (ps.zip us)->zR vs us->sp vs H Q E->
  codeAny (model P w) A (.call (.ref f) args) (CR CX outer P w H s Q E) s
section
variable{X:Cx}{zU:List (Addr×Obj)}{Z:St}{H:Hp}{s s':Shared}
def Inv.env0(I:Inv X zU Z H s):rP X.prog X.w X.K X.mg X.base X.A X.stack s H:=
 #[I.ok.frames,I.ok.mod,I.bs,le_trans I.ok.bsz I.sz,I.stack,I.stkFree,I.hok,I.bare]
def Inv.after(I:Inv X zU Z H s)(h:CE X.stack X.prog X.w H s Q u s'):EP X zU Z Q u s':=by let#[v,H',os,i,un,F,r,q]:=h;let#[G,g,d,t,B]:=s';obtain rfl:B=s.os:=os;show#[v,H',I.call (h':=G) (g':=g) (d':=d) (t':=t) (ch:=[]) un F i (λb z=>absurd z (by simp)),r,q]
end
@[inline]def Binds(K:W.Frag)(fd:FuncData)(ps:List Str)(ds:List Value):Prop:=
 ∀(s:Shared)(us:List Value),K.In s.heap->(us++ds).length=ps.length->BindsTo s fd #[us,[]] (ps.zip (us++ds))
def Binds.all{K:W.Frag}(h:∀us:List Value,us.length=ps.length->bindArgs fd #[us,[]]=pure (ps.zip us)):Binds K fd ps []:=λs us _ i=>by rw[qA]at i⊢;show .of_eq (h us i)
structure aG(N P:List Str)(sc:Scope):Prop where
 kind:sc.kind=.function
 co:sc.isCoroutine=false
 gen:sc.isGenerator=false
 nd:N.Nodup
 pre:N.take P.length=P
 par:∀x∈P,sc.names.lookup x=⇑.local\/sc.names.lookup x=⇑.cell
 nofree:∀y∈sc.names,y.2≠.free
def Kq{kindOf:Str->Option NameKind}:∀{binds:List (Str×Value)}{m:Str->Option Value},(∀v,(x,v)∉binds)->bindL kindOf binds m x=m x
 |[],_,_=>rfl
 |(n,v)::r,m,h=>by
  unfold bindL;rw[Kq λw i=>h w (qm _ i)];split
  .let:x≠n:=by rintro rfl;exact h v qo
   simp[this]
  .rfl
def Ku{kindOf:Str->Option NameKind}:∀{binds:List (Str×Value)}{m:Str->Option Value},(∀v,(x,v)∉binds)->bindC kindOf binds m x=m x
 |[],_,_=>rfl
 |(n,v)::r,m,h=>by
  unfold bindC;rw[Ku λw i=>h w (qm _ i)];split
  .rfl
  .let:x≠n:=by rintro rfl;exact h v qo
   simp[this]
def Km{kindOf:Str->Option NameKind}:∀{P:List Str}{vs:List Value}{i:Nat}{m:Str->Option Value},P.Nodup->P[i]?=⇑x->vs[i]?=⇑v->kindOf x=⇑.local->
  bindL kindOf (P.zip vs) m x=⇑v
 |[],_,_,_,_,h,_,_=>by simp at h
 |_::_,[],_,_,_,_,h,_=>by simp at h
 |p::P,w::vs,0,m,nd,h1,h2,hk=>by simp at h1 h2;subst h1;subst h2;show bindL kindOf ((p,w)::P.zip vs) m p=_;unfold bindL;rw[Kq λv B=>(qM.mp nd).1 (of_mem_zip B).1,q8 hk];simp
 |p::P,w::vs,i+1,m,nd,h1,h2,hk=>by show bindL kindOf ((p,w)::P.zip vs) m x=_;unfold bindL;show Km (i:=i) (qM.mp nd).2 ↑h1 ↑h2 hk
def KA{kindOf:Str->Option NameKind}:∀{P:List Str}{vs:List Value}{i:Nat}{m:Str->Option Value},P.Nodup->P[i]?=⇑x->vs[i]?=⇑v->kindOf x≠⇑.local->
  bindC kindOf (P.zip vs) m x=⇑v
 |[],_,_,_,_,h,_,_=>by simp at h
 |_::_,[],_,_,_,_,h,_=>by simp at h
 |p::P,w::vs,0,m,nd,h1,h2,hk=>by simp at h1 h2;subst h1;subst h2;show bindC kindOf ((p,w)::P.zip vs) m p=_;unfold bindC;rw[Ku λv B=>(qM.mp nd).1 (of_mem_zip B).1,q9 hk];simp
 |p::P,w::vs,i+1,m,nd,h1,h2,hk=>by show bindC kindOf ((p,w)::P.zip vs) m x=_;unfold bindC;show KA (i:=i) (qM.mp nd).2 ↑h1 ↑h2 hk
def start(N:List Str)(vs:List V):St:=vs.map some++List.replicate (N.length-vs.length) none
def eX(CX:cn)(P:Program)(w:World)(K:W.Frag)(mg:Str->Option Value)(base:Heap)(N:List Str)(qual:Str)(scope:Scope)(f:Addr)(cd:Value)(A:Around)(outer:List Env)(s:Shared)(H:Hp)(E:XK):Cx where
 prog:=P
 w:=w
 K:=K
 mg:=mg
 base:=base
 A:=A.deeper (envOfC qual scope s.heap.objs.size f cd)
 N:=N
 s₀:=s
 H₀:=H
 env:=envOfC qual scope s.heap.objs.size f cd
 outer:=outer
 stack:=envOfC qual scope s.heap.objs.size f cd::outer
 ex:=[]
 calm:=true
 fn:=λ_=>true
 pn:=[]
 xe:=λe s'=>wpAny (model P w) (A.deeper (envOfC qual scope s.heap.objs.size f cd)) (leaving (envOfC qual scope s.heap.objs.size f cd) e) (λ_ s''=>CX outer H s E e s'') (λe' s''=>CX outer H s E e' s'') s'
def JQ{i:Scope}(h:i.names.lookup x=⇑.cell):∃c,(cellsFrom n i.names []).lookup x=⇑c:=by let q:=W.cellsFrom_some i.names n [] (.inl h);show Option.isSome_iff_exists.mp q
def Sf{K:W.Frag}
  (S:aG N ps scope)(hd:A.handled=none)(B:rP P w K mg base A outer s H)(hl:vs.length=ps.length)(r:zR vs us)
  (x:InCallC s s.heap.objs.size (bindL (envOfC qual scope s.heap.objs.size f L).kindOf (ps.zip us) λ_=>none) (cellsFrom (s.heap.objs.size+1) scope.names []) (bindC (envOfC qual scope s.heap.objs.size f L).kindOf (ps.zip us) λ_=>none) Y):
  Inv (eX CX P w K mg base N qual scope f L A outer s H E) [] (start N vs) H Y:=by
 let h4:ps.length<=N.length:=by let:=congrArg List.length S.pre;rw[qI]at this;lia
 obtain⟨h1,tk,rfl,O⟩:=x.done;let F:∀b:Addr,b∉(eX CX P w K mg base N qual scope f L A outer s H E).ex:=λb z=>absurd (show b∈([]:List Addr) from z) (by simp);refine⟨#[B.mod,S.kind,rfl,rfl,zb _,λy z c h1 h2=>?_,λy G=>?_,λy c _ h=>?_,λ_=>hd,Around.frames_deeper B.frames,.inr #[rfl,rfl],λb z=>absurd z (F b),B.bs,B.bsz,λb _ _=>F b,λb z=>absurd z (F b),B.funs,B.frf],
  rfl,B.bare,Un.kept O,#[_,x.toInCall.ns,λi y v h1 h2 h3=>?_],λy c h=>#[_,x.cell y c h],B.hok.fresh (zb _),λy c h=>?_,λp J=>absurd (show p∈([]:List (Addr×Obj)) from J) (by simp),B.hok.kept O,?_⟩
 .show name_of_addr x.apart (PySem.mem_of_lookup h1) (PySem.mem_of_lookup h2)
 .let G:scope.names.lookup y=⇑.cell\/scope.names.lookup y=⇑.free:=G;rcases G with G|G
  .show JQ G
  .show absurd rfl (S.nofree _ (PySem.mem_of_lookup G))
 .show le_of_lt (x.above y c (PySem.mem_of_lookup h))
 .have hi:i<vs.length:=by
   unfold start at h2;by_cases hi:i<vs.length
   .show hi
   .rw[getElem?_append_right ↑hi]at h2;rw[List.getElem?_replicate]at h2;split at h2<;>cases h2
  have ha:vs[i]?=⇑v:=by
   unfold start at h2;rw[getElem?_append_left ↑hi,qG]at h2;cases e:vs[i]? with
   |none=>rw[e]at h2;cases h2
   |some a=>rw[e]at h2;cases h2;rfl
  let#[u,M,rv]:=r.get ha;let J:ps[i]?=⇑y:=by rw[<-S.pre,List.getElem?_take_of_lt ∅];show h1
  let I:ps.Nodup:=by rw[<-S.pre];show S.nd.sublist (List.take_sublist _ _)
  show#[u,rv,?_];rcases S.par y (qN J)with k|k
  .show .inl #[k,Km I J M k]
  .obtain⟨c,e⟩:=JQ (n:=s.heap.objs.size+1) k;show .inr #[.inl k,c,e,?_];let q:=x.cell y c e;rw[KA I J M (by show scope.names.lookup y≠_;rw[k];decide)]at q;show q
 .show B.hok.fresh (le_of_lt (x.above y c (PySem.mem_of_lookup h)))
 .unfold start;show _=N.length;rw[qr,qp,List.length_replicate];lia
def LQ{K:W.Frag}{dV kV h1 pm B ct oc:Value}(lk:K.lookup f=⇑#[oc,od,.func (W.fnOf name qual params body scope dV kV h1 pm an B ct),h4])(h3:W.codeIn K B qual=true)(S:aG N ps scope)
  (len:∀vs H Q E,sp vs H Q E->vs.length=ps.length)
  (G:∀(A:Around)(i:List Env)(s:Shared)(H:Hp)(vs:List V)(Q:VK)(E:XK),bQ k (A.deeper (envOfC qual scope s.heap.objs.size f B))->sp vs H Q E->
   ∃t,iO (eX CX P w K mg base N qual scope f B A i s H E) body t/\t {nx:=λ_ H'=>Q .non H',rt:=Q} (start N vs) H):
  cY P w K mg base CX (k+1) f (W.fnOf name qual params body scope dV kV h1 pm an B ct) ps sp:=by
 refine#[len,λA i s H args us vs Q E hr Y hb r M=>?_];let hl:=len _ _ _ _ M;let KX:K.In s.heap:=Y.mod.kin.keeps λb o e=>(Y.bs b o e).1;let h2:s.heap.NoLimit:=Y.mod.nolimit.keeps λb o e=>(Y.bs b o e).1;let F:∀y∈ps.zip us,scope.names.lookup y.1=⇑.local\/(scope.names.lookup y.1=⇑.cell/\((cellsFrom (s.heap.objs.size+1) scope.names []).lookup y.1).isSome=true):=λ⟨n,v⟩ hy=>by
  rcases S.par n (of_mem_zip hy).1 with q|q
  .show .inl q
  .show .inr #[q,W.cellsFrom_some _ _ _ (.inl q)]
 refine codeAny_call_function hr.depth (KX _ _ lk) rfl S.co S.gen rfl (W.codeRec_of KX h3) (hb _ _ _ _ ?_);show wpAny_newFunctionEnv_cells S.kind F λh5 he s1 x=>?_;subst he;show#[h2.keeps x.toInCall.keep,codeAny_func ?_];let#[t,ht,hq]:=G A i s H vs Q E (hr.deeper _) M;let I:Inv (eX CX P w K mg base N qual scope f B A i s H E) [] (start N vs) H s1:=Sf S hr.hd Y hl r x;show zt (ht [] s1 (start N vs) H _ I hq) (λfl s' L=>?_) λe s' L=>L;let O:∀{Z':St}{H':Hp}{v:V}{u:Value},Inv (eX CX P w K mg base N qual scope f B A i s H E) [] Z' H' s'->zJ v u->Q v H'->CE i P w H s Q u s':=
  λ{Z' H' v u} J rv q=>#[v,H',J.os,J.bare,J.base,J.hok,rv,q]
 cases fl with
 |ret u=>let#[v,Z',H',J,rv,q]:=L;show O J rv q
 |next=>let#[Z',H',J,q]:=L;show O (v:=V.non) (u:=Value.none) J rfl q
 |brk=>let#[_,_,_,q]:=L;show False.elim q
 |cont=>let#[_,_,_,q]:=L;show False.elim q
section
variable{X:Cx}{x:Str}{p pos:Pos}{e:Expr}{es:List Expr}{t:TA}{id T:String}{r:List V->Hp->VK->Prop}
def gm(r:List V->Hp->VK->Prop)(t:TA):TE:=λZ H Q=>t Z H λi H1=>r i H1 Q
def Qs(hc:aU X (.builtin id) r)(Y:Gl X x)(O:X.mg x=none)(M:bootBuiltins x=⇑(.builtin id))(ha:PA X (e::es) t)(hn:autoParam (x≠"__name__") dZ9)(v:autoParam ((x==("__debug__":Str))=false) dZ9)
  (he:autoParam (starEach (e::es) X.env=(false,eval e X.env)::starEach es X.env) rZ9)(i:autoParam ((backTo pos (starEach es X.env)).any (·.1)=false) rZ9):PE X (.Call (.Name x p) (e::es) [] pos) (gm r t):=by
 intro zU s Z H Q I h;show wpAny_Call_Name_kw (BD I Y O M ?_ hn v);show PyProof.Rows.callWith_builtin1 (Ai (ha pos zU s Z H _ I h) λF G⟨B,H1,I1,J,L⟩=>hc zU G Z H1 B F Q I1 J L) he i
def RE(hc:aU X (.type T) r)(Y:Gl X x)(O:X.mg x=none)(M:bootBuiltins x=⇑(.type T))(ha:PA X (e::es) t)(hn:autoParam (x≠"__name__") dZ9)(v:autoParam ((x==("__debug__":Str))=false) dZ9)
  (he:autoParam (starEach (e::es) X.env=(false,eval e X.env)::starEach es X.env) rZ9)(i:autoParam ((backTo pos (starEach es X.env)).any (·.1)=false) rZ9):PE X (.Call (.Name x p) (e::es) [] pos) (gm r t):=by
 intro zU s Z H Q I h;show wpAny_Call_Name_kw (BD I Y O M ?_ hn v);show PyProof.Rows.callWith_type1 (Ai (ha pos zU s Z H _ I h) λF G⟨B,H1,I1,J,L⟩=>hc zU G Z H1 B F Q I1 J L) he i
end
section
variable{κ:Type}[DecidableEq κ]
def bZ(zV:List (κ×V))(k:κ):Option V:=(zV.find? λi=>↥(i.1=k)).map (·.2)
def cA(zV:List (κ×V))(k:κ)(v:V):List (κ×V):=
 if(zV.any λi=>↥(i.1=k))=true then zV.map (λi=>if i.1=k then(i.1,v)else i)else zV++[(k,v)]
def gG(zV:List (κ×V))(k:κ):List (κ×V):=zV.filter λi=>↥(i.1≠k)
def DA{p:κ×V}{r:List (κ×V)}{k:κ}(e:p.1=k):bZ (p::r) k=⇑p.2:=by simp[bZ,List.find?_cons,e]
def DF{p:κ×V}{r:List (κ×V)}{k:κ}(e:¬p.1=k):bZ (p::r) k=bZ r k:=by simp[bZ,List.find?_cons,e]
def Jx(k:κ):∀zV:List (κ×V),(zV.any λi=>↥(i.1=k))=(bZ zV k).isSome
 |[]=>rfl
 |p::r=>by
  rw[any_cons];by_cases e:p.1=k
  .simp[DA e,qS e,Bool.true_or,isSome_some]
  .rw[DF e,qT e];show Jx k r
def Hd(zV:List (κ×V))(k:κ)(v:V):(cA zV k v).length<=zV.length+1:=by unfold cA;grind
def eN.isSome_eq(r:eN o u):o.isSome=u.isSome:=by
 cases o with
 |none=>cases u with
  |none=>rfl
  |some _=>show(show False from r).elim
 |some _=>cases u with
  |none=>show(show False from r).elim
  |some _=>rfl
def eN.getD(r:eN o u)(rd:zJ d d'):zJ (o.getD d) (u.getD d'):=by
 cases o with
 |none=>cases u with
  |none=>show rd
  |some _=>show(show False from r).elim
 |some _=>cases u with
  |none=>show(show False from r).elim
  |some _=>show r
def KV.val{zV:List (κ×V)}{vs:List (κ×Value)}(r:KV zV vs)(k:κ):eN (bZ zV k) (valueAt vs k):=by
 induction r with
 |nil=>show True.intro
 |@cons p q ps i h t B=>
  let#[h1,h2]:=h;by_cases e:p.1=k
  .let v:q.1=k:=h1.symm.trans e;let b:valueAt (q::i) k=⇑q.2:=by simp[valueAt,v]
   rw[DA e,b];show h2
  .let v:¬q.1=k:=λz=>e (h1.trans z);let b:valueAt (q::i) k=valueAt i k:=by simp[valueAt,v]
   rw[DF e,b];show B
def KV.any(r:KV zV vs)(k:κ):(zV.any λi=>↥(i.1=k))=vs.any λi=>↥(i.1=k):=by
 induction r with
 |nil=>rfl
 |cons h t v=>rw[any_cons,any_cons,v,h.1]
def KV.repl(r:KV zV vs)(k:κ)(B:zJ y u):
  KV (zV.map λi=>if i.1=k then(i.1,y)else i) (vs.map λi=>if i.1=k then(i.1,u)else i):=by
 induction r with
 |nil=>show .nil
 |@cons p q ps F h t v=>show .cons ?_ v;grind
def KV.put(r:KV zV vs)(k:κ)(i:zJ y u):KV (cA zV k y) (stored vs k u):=by
 unfold cA stored;rw[r.any k];by_cases e:(vs.any λv=>↥(v.1=k))=true
 .rw[q8 e,q8 e];show r.repl k i
 .rw[q9 e,q9 e];show Paired.snoc r #[rfl,i]
def KV.drop(r:KV zV vs)(k:κ):KV (gG zV k) (without vs k):=by
 unfold gG without;induction r with
 |nil=>show .nil
 |@cons p q ps B h t i=>
  let#[h1,h2]:=h;rw[filter_cons,filter_cons];by_cases e:p.1=k
  .grind
  .let v:¬q.1=k:=λz=>e (h1.trans z);let a:↥(p.1≠k)=true:=by simp[e]
   let b:↥(q.1≠k)=true:=by simp[v]
   rw[q8 a,q8 b];show .cons #[h1,h2] i
def KV.length(r:KV zV vs):zV.length=vs.length:=Paired.length r
def Qe(zV:List (κ×V))(k:κ):(gG zV k).length<=zV.length:=List.length_filter_le _ _
end
def BS(r:zJ (kV k) u):(aD P w).is k u=true:=by
 cases k with
 |inl i=>let#[t,e]:=(show∃t,u=Value.int i t from r);subst e;show Um P w i t
 |inr x=>let#[t,e]:=(show∃t,u=Value.str x t from r);subst e;show Uq P w x t
def Kk:∀{ks:List bD}{us:List Value},zR (ks.map kV) us->ItemsAre (aD P w) ks us
 |[],_,r=>by rw[map_nil]at r;cases r;show .nil
 |k::ks,_,r=>by
  cases r with
  |cons h t=>show .cons (BS h) (Kk t)
abbrev KT(H:Hp):List (List bD×V)->List (List bD×Addr×Value)->Prop:=Paired λp q=>p.1=q.1/\H q.2.1=⇑(.tup (p.1.map kV))/\zJ p.2 q.2.2
def KT.val{H:Hp}{zV:List (List bD×V)}{xs:List (List bD×Addr×Value)}(r:KT H zV xs)(k:List bD):eN (bZ zV k) ((atKey xs k).map (·.2)):=by
 induction r with
 |nil=>show True.intro
 |@cons p q ps i h t B=>
  let#[h1,_,h2]:=h;by_cases e:p.1=k
  .let v:q.1=k:=h1.symm.trans e;let b:atKey (q::i) k=⇑q.2:=by simp[atKey,v]
   rw[DA e,b];show h2
  .let v:¬q.1=k:=λz=>e (h1.trans z);let b:atKey (q::i) k=atKey i k:=by simp[atKey,v]
   rw[DF e,b];show B
def KT.repl(r:KT H zV xs)(k:List bD)(v:zJ y u):
  KT H (zV.map λi=>if i.1=k then(i.1,y)else i) (xs.map (putAt k u)):=by
 induction r with
 |nil=>show .nil
 |@cons p q ps G h t B=>
  rw[qz];show .cons ?_ B;let#[h1,h2,F]:=h;unfold putAt;by_cases e:p.1=k
  .rw[q8 e,q8 (h1.symm.trans e)];show#[h1,h2,v]
  .rw[q9 e,q9 (λz=>e (h1.trans z))];show#[h1,h2,F]
def KT.put(r:KT H zV xs)(k:List bD)(B:H b=⇑(.tup (k.map kV)))(i:zJ y u):
  KT H (cA zV k y) (storedH xs k b u):=by
 let e:(zV.any λv=>↥(v.1=k))=(atKey xs k).isSome:=by rw[Jx,(r.val k).isSome_eq,isSome_map]
 unfold cA storedH;rw[e];by_cases q:(atKey xs k).isSome=true
 .rw[q8 q,q8 q];show r.repl k i
 .rw[q9 q,q9 q];show Paired.snoc r #[rfl,B,i]
def KT.keeps(r:KT H zV xs)(i:∀b ys,H b=⇑(.tup ys)->H' b=⇑(.tup ys)):KT H' zV xs:=
 Paired.mapP r λ_ _ z=>#[z.1,i _ _ z.2.1,z.2.2]
def HH(ok:dI P w H h)(e:Rd H a u):zT P w H h a u:=e.ok ok
def BU(ok:dI P w H h)(e:Rd H a (.dK zV)):zV.length<=sizeLine/\(a==sysModules)=false/\∃vs,KV zV vs/\h.DictOf (aD P w) a vs:=
 show zT P w H h a (.dK zV) from HH ok e
def Eh(ok:dI P w H h)(e:H a=⇑(.dK zV)):zV.length<=sizeLine/\(a==sysModules)=false/\∃vs,KV zV vs/\h.DictOf (aD P w) a vs:=BU ok (.inl e)
def CI(ok:dI P w H h)(e:H a=⇑(.tup (ks.map kV))):(tupleKind (aD P w)).is h ks a:=by
 let#[_,i,r,o,h1,h2,n,v]:=(show zT P w H h a (.tup (ks.map kV)) from ok a _ e)
 show#[o,i.toArray,n,h1,h2,v,Kk r]
def BJ(ok:dI P w H h)(e:Rd H a (.dT zV)):zV.length<=sizeLine/\(a==sysModules)=false/\
  ∃xs,KT H zV xs/\h.DictOfH (tupleKind (aD P w)) a xs:=by
 let#[z,y,xs,r,o,es,J,h1,h2,I,G,F]:=(show zT P w H h a (.dT zV) from HH ok e)
 refine#[z,y,xs,r,o,es,J,h1,h2,I,G,λx i=>?_,F];let all:∀{l:List (List bD×V)}{m:List (List bD×Addr×Value)},KT H l m->∀x∈m,(tupleKind (aD P w)).is h x.1 x.2.1:=by
  intro l m q;induction q with
  |nil=>intro x i;show nomatch i
  |@cons p q ps L v t B=>
   intro x i;rcases qB.mp i with e|i
   .subst e;show CI ok (by rw[<-v.1];show v.2.1)
   .show B x i
 show all r x i
def Mb(ok:dI P w H h)(e:H a=⇑(.dT zV)):zV.length<=sizeLine/\(a==sysModules)=false/\
  ∃xs,KT H zV xs/\h.DictOfH (tupleKind (aD P w)) a xs:=BJ ok (.inl e)
def fX(H:Hp)(a:Addr)(y:V)(r:Option V):Prop:=
 (∃zV k,Rd H a (.dK zV)/\y=kV k/\r=bZ zV k)\/∃zV k b,Rd H a (.dT zV)/\y=.ref b/\H b=⇑(.tup (k.map kV))/\r=bZ zV k
def nO(H:Hp)(a:Addr)(y v:V)(H':Hp):Prop:=
 (∃zV k,H a=⇑(.dK zV)/\y=kV k/\zV.length<sizeLine/\H'=upd H a (.dK (cA zV k v)))\/
 ∃zV k b,H a=⇑(.dT zV)/\y=.ref b/\H b=⇑(.tup (k.map kV))/\zV.length<sizeLine/\H'=upd H a (.dT (cA zV k v))
def Inv.big(I:Inv X zU Z H s):sysModules<s.heap.objs.size:=by let h:mainGlobals<s.heap.objs.size:=(I.mod.glob.keeps I.bk).lt;show lt_trans ⋯ h
def RM(hu:A.units+1<cLine)(I:Inv X zU Z H s)(g:fX H a y ⇑v)(Y:zJ y u)(h:∀F s',Inv X zU Z H s'->zJ v F->Q F s'):
  wpAny (model X.prog X.w) A (getItem (.ref a) u) Q E s:=by
 rcases g with⟨G,k,e,M,l⟩|⟨G,k,b,e,M,eb,l⟩
 .subst M;let#[z,hd,vs,B,O]:=BU I.hok e;let#[F,J,i]:=eN.some_of (v:=v) (o:=valueAt vs k) (by rw[l];show B.val k);show wpAny_getItem_of (BS Y) O.mapOf J (h F _ (I.tok _) i)
 .subst M;cases(show u=Value.ref b from Y);let#[z,hd,xs,B,O]:=BJ I.hok e;let#[F,J,i]:=eN.some_of (v:=v) (o:=(atKey xs k).map (·.2)) (by rw[l];show B.val k);let#[p,hp,L]:=qZ.mp J;show wpAny_getItem_heap (tupleKind_room_in1 hu) (CI I.hok eb) O hp ?_;rw[L];show h F _ (I.tok _) i
def HA(L:A.units+1<cLine)(I:Inv X zU Z H s)(g:fX H a y o)(J:zJ y u)(h:∀s',Inv X zU Z H s'->Q (.bool o.isSome) s'):
  wpAny (model X.prog X.w) A (compareOp .In u (.ref a)) Q E s:=by
 rcases g with⟨v,k,e,F,l⟩|⟨v,k,b,e,F,M,l⟩
 .subst F;let#[z,B,O,i,G]:=BU I.hok e;show wpAny_in_of (BS J) B G.mapOf ?_;rw[<-(i.val k).isSome_eq,<-l];show h _ (I.tok _)
 .subst F;cases(show u=Value.ref b from J);let#[z,B,xs,i,G]:=BJ I.hok e;show wpAny_in_heap (tupleKind_room_in1 L) (CI I.hok M) B G ?_;let q:=(i.val k).isSome_eq;rw[isSome_map]at q;rw[<-q,<-l];show h _ (I.tok _)
def NL(L:A.units+1<cLine)(I:Inv X zU Z H s)(g:fX H a y o)(J:zJ y u)(h:∀s',Inv X zU Z H s'->Q (.bool (!o.isSome)) s'):
  wpAny (model X.prog X.w) A (compareOp .NotIn u (.ref a)) Q E s:=by
 rcases g with⟨v,k,e,F,l⟩|⟨v,k,b,e,F,M,l⟩
 .subst F;let#[z,B,O,i,G]:=BU I.hok e;show wpAny_notIn_of (BS J) B G.mapOf ?_;rw[<-(i.val k).isSome_eq,<-l];show h _ (I.tok _)
 .subst F;cases(show u=Value.ref b from J);let#[z,B,xs,i,G]:=BJ I.hok e;show wpAny_notIn_heap (tupleKind_room_in1 L) (CI I.hok M) B G ?_;let q:=(i.val k).isSome_eq;rw[isSome_map]at q;rw[<-q,<-l];show h _ (I.tok _)
def Es(I:Inv X zU Z H s)(v:bo (H a))(B:Heap.SameBut a s.heap h')(F:∃q,h'.get? a=⇑q)(new:zT X.prog X.w (upd H a i) h' a i):
  Inv X zU Z (upd H a i) {s with heap:=h',toks:=t'}:=
 I.write (x:=a) (e:=a) v (.inl rfl) (λb q G z=>(B.2 b G).trans z) F new
def Fu(z:zV.length<=sizeLine)(v:(a==sysModules)=false)(i:KV zV vs)(B:h'.DictOf (aD P w) a vs):
  zT P w H' h' a (.dK zV):=#[z,v,vs,i,B]
def QM(hu:A.units+1<cLine)(I:Inv X zU Z H s)(g:nO H a y v H')(ry:zJ y u)(rv:zJ v r)(h:∀s',Inv X zU Z H' s'->Q () s'):
  wpAny (model X.prog X.w) A (setItem (.ref a) u r) Q E s:=by
 rcases g with⟨B,k,e,Y,l,eH⟩|⟨B,k,b,e,Y,eb,l,eH⟩
 .subst Y eH;let#[z,O,vs,i,dd]:=Eh I.hok e;let J:vs.length<=sizeLine:=by rw[<-i.length];exact z
  let M:(cA B k v).length<=sizeLine:=by let:=Hd B k v;lia
  show wpAny_setItem_pairs (hsz:=J) (BS ry) dd λh' F L=>h _ ?_;let he:∃q,h'.get? a=⇑q:=let⟨q,_,_,G,_⟩:=F;#[q,G]
  show Es I (by rw[e];show True.intro) L he (Fu M O (i.put k rv) F)
 .subst Y eH;cases(show u=Value.ref b from ry);let#[z,O,xs,i,dd]:=Mb I.hok e;let J:xs.length<=sizeLine:=by rw[<-Paired.length i];exact z
  let M:(cA B k v).length<=sizeLine:=by let:=Hd B k v;lia
  show wpAny_setItem_heap (hsz:=J) (tupleKind_room_in1 hu) (CI I.hok eb) dd λh' F L=>h _ ?_;let#[q,es,ep,G,h2,h3,h4,_,h5]:=F;show Es I (by rw[e];show True.intro) L ⟨q,G⟩ ⟨M,O,_,(i.put k eb rv).keeps λc ys ec=>?_,q,es,ep,G,h2,h3,h4,h5⟩;rw[Ae (LW ec e (λz=>nomatch z))];show ec
def RU(I:Inv X zU Z H s)(e:H a=⇑(.dK zV))(G:zJ (kV k) u)(l:(bZ zV k).isSome=true)(h:∀s',Inv X zU Z (upd H a (.dK (gG zV k))) s'->Q () s'):
  wpAny (model X.prog X.w) A (delItem (.ref a) u) Q E s:=by
 obtain⟨z,M,F,i,B⟩:=Eh I.hok e;refine wpAny_delItem_slot B.typeIs ⋯ PySem.F.slot_dict_delitem
  (call_meetsIn PySem.F.slot_dict_delitem B.typeIs PySem.F.entry_dict_delitem (PySem.F.args_dict_delitem_2 _ _) (meets_dict_delitem_pairs (aD X.prog X.w) a (BS G)) #[F,B,by rw[<-i.length];show z,by rw[<-(i.val k).isSome_eq];show l,λh' v J=>h _ ?_])
 let L:∃q,h'.get? a=⇑q:=let⟨q,_,_,hq,_⟩:=v;#[q,hq]
 show Es I (by rw[e];show True.intro) J L (Fu (le_trans (Qe zV k) z) M (i.drop k) v)
def Uc(I:Inv X zU Z H s)(g:fX H a y o):s.TypeIs (.ref a) "dict":=by
 rcases g with⟨i,k,e,_,_⟩|⟨i,k,b,e,_,_,_⟩
 .obtain⟨_,_,B,_,v⟩:=BU I.hok e;show v.typeIs
 .obtain⟨_,_,xs,_,v⟩:=BJ I.hok e;show v.typeIs
def yB(G B F:TE):TS:=λD Z H=>F Z H λv H1=>G Z H1 λx H2=>B Z H2 λy I=>∃a i,x=.ref a/\nO I a y v i/\D.nx Z i
def yC(v i:TE):TS:=λD Z H=>v Z H λx H1=>i Z H1 λy H2=>∃a zV k,x=.ref a/\H2 a=⇑(.dK zV)/\y=kV k/\(bZ zV k).isSome=true/\D.nx Z (upd H2 a (.dK (gG zV k)))
def IE(hu:X.A.units+1<cLine)(ho:PE X o J)(hi:PE X i F)(hv:PE X value G)(hs:swapsWith value ⇑(.Subscript o i pos') pos.line X.env=pure false):
  PS X (.Assign [.Subscript o i pos'] value pos) (yB J F G):=by
 intro zU s Z H D I h;show wpAny_Assign_Subscript (Ai (hv zU s Z H _ I h) λr M⟨v,H1,I1,rv,q1⟩=>Ai (ho zU M Z H1 _ I1 q1) λu L⟨x,H2,I2,Y,q2⟩=>Ai (hi zU L Z H2 _ I2 q2) λiv s3 B=>?_) hs;let#[y,H3,I3,O,a,H4,ex,g,q3]:=B;subst ex;obtain rfl:u=Value.ref a:=Y;show QM hu I3 g O rv λs4 I4=>#[Z,H4,I4,q3]
def Pa(ho:PE X o F)(hi:PE X i B):PS X (.Delete [.Subscript o i tpos] pos) (yC F B):=by intro zU s Z H D I h;show wpAny_Delete (wpAny_deleteEach_cons (wpAny_delete_Subscript (Ai (ho zU s Z H _ I h) λu G⟨x,H1,I1,L,O⟩=>Ai (hi zU G Z H1 _ I1 O) λiv s2 v=>?_)));let#[y,H2,I2,J,a,Y,k,ex,e,ey,l,M]:=v;subst ex ey;obtain rfl:u=Value.ref a:=L;show RU I2 e J l λs3 I3=>wpAny_deleteEach_nil #[Z,_,I3,M]
def JP(h:Heap)(i:sysModules<h.objs.size):zT P w H (h.push {cls:=.type "dict",data:=.dict #[]}) h.objs.size (.dK []):=
 #[zero_le _,beq_eq_false_iff_ne.mpr (Ne.symm (ne_of_lt i)),[],.nil,Heap.DictOf.new h]
def Rj(h:Heap)(i:sysModules<h.objs.size):zT P w H (h.push {cls:=.type "dict",data:=.dict #[]}) h.objs.size (.dT []):=
 #[zero_le _,beq_eq_false_iff_ne.mpr (Ne.symm (ne_of_lt i)),[],.nil,_,#[],0,qd _ rfl,#[rfl,rfl,rfl],rfl,rfl,List.nodup_nil]
def tK:TE:=λ_ H Q=>∀p,H p=none->Q (.ref p) (upd H p (.dK []))
def tJ:TE:=λ_ H Q=>∀p,H p=none->Q (.ref p) (upd H p (.dT []))
def Qx:PE X (.Dict [] [] pos) tK:=λzU s Z H Q I h=>wpAny_Dict_empty #[.ref s.heap.objs.size,_,I.laid (a:=s.heap.objs.size) (o:=.dK []) (t':=s.toks) (λ_ _ q=>qc _ q) (zb _) (JP s.heap I.big),rfl,h _ (I.hok.fresh (zb _))]
def Pz:PE X (.Dict [] [] pos) tJ:=λzU s Z H Q I h=>wpAny_Dict_empty #[.ref s.heap.objs.size,_,I.laid (a:=s.heap.objs.size) (o:=.dT []) (t':=s.toks) (λ_ _ q=>qc _ q) (zb _) (Rj s.heap I.big),rfl,h _ (I.hok.fresh (zb _))]
def iT:List (TE×TE)->St->Hp->(List (V×V)->Hp->Prop)->Prop
 |[],_,H,Q=>Q [] H
 |(tk,tv)::r,Z,H,Q=>tk Z H λx H1=>tv Z H1 λy H2=>iT r Z H2 λps i=>Q ((x,y)::ps) i
abbrev VV:List (V×V)->List (Value×Value)->Prop:=Paired λp q=>zJ p.1 q.1/\zJ p.2 q.2
def dq(X:Cx)(pos:Pos)(v:List (Option Expr))(i:List Expr)(B:List (TE×TE)):Prop:=
 ∀(zU:List (Addr×Obj))(s:Shared)(Z:St)(H:Hp)(Q:List (V×V)->Hp->Prop),Inv X zU Z H s->iT B Z H Q->
  wpAny (model X.prog X.w) X.A (evalPairs (pairTrees v i X.env pos)) (λF s'=>∃ps H',Inv X zU Z H' s'/\VV ps F/\Q ps H') X.xe s
def OS:dq X pos [] [] []:=λzU s Z H Q I h=>pairTrees_nil_walk #[[],H,I,.nil,h]
def Rn(hk:PE X k tk)(hv:PE X v F)(hr:dq X pos ks vs i):
  dq X pos (⇑k::ks) (v::vs) ((tk,F)::i):=λzU s Z H Q I h=>
 pairTrees_cons_walk (Ai (hk zU s Z H _ I h) λu J⟨x,H1,I1,M,q1⟩=>Ai (hv zU J Z H1 _ I1 q1) λw2 G⟨y,H2,I2,L,Y⟩=>Ai (hr zU G Z H2 _ I2 Y) λws s3⟨ps,H3,I3,B,O⟩=>#[(x,y)::ps,H3,I3,.cons #[M,L] B,O])
def fP(zV i:List (bD×V)):List (bD×V):=i.foldl (λv B=>cA v B.1 B.2) zV
def KV.merge:∀{i:List (bD×V)}{rs:List (bD×Value)}{zV:List (bD×V)}{vs:List (bD×Value)},KV i rs->KV zV vs->KV (fP zV i) (merged vs rs):=by
 intro i rs zV vs r;induction r generalizing zV vs with
 |nil=>intro q;show q
 |@cons p q ps F h t B=>
  intro v;let e:KV (cA zV p.1 p.2) (stored vs q.1 q.2):=by let:=v.put p.1 h.2;rw[<-h.1];show this
  show B e
def LB:∀(i zV:List (bD×V)),(fP zV i).length<=zV.length+i.length
 |[],zV=>by show zV.length<=zV.length+0;lia
 |p::r,zV=>by let h1:=LB r (cA zV p.1 p.2);let h2:=Hd zV p.1 p.2;show(fP (cA zV p.1 p.2) r).length<=_;rw[qu];lia
def Lq:∀{zV:List (bD×V)}{i:List (Value×Value)},VV (zV.map λv=>(kV v.1,v.2)) i->∃rs,Carries (aD P w) i rs/\KV zV rs
 |[],_,r=>by rw[map_nil]at r;cases r;show#[[],True.intro,.nil]
 |p::zV,_,r=>by
  cases r with
  |@cons a b G bs h t=>let#[rs,c,q]:=Lq (P:=P) (w:=w) t;let#[F,B]:=b;show#[(p.1,B)::rs,#[BS h.1,rfl,c],.cons #[rfl,h.2] q]
def xX(i:List (TE×TE)):TE:=λZ H Q=>∀p,H p=none->iT i Z (upd H p (.dK [])) λps H2=>H2 p=⇑(.dK [])/\∃zV:List (bD×V),ps=zV.map (λv=>(kV v.1,v.2))/\zV.length<=15/\Q (.ref p) (upd H2 p (.dK (fP [] zV)))
def Pg(h:dq X pos keys values F)(v:keys.all (·.isSome)=true)(hl:keys.length=values.length)(h0:keys≠[])
  (J:keys.length<=15):PE X (.Dict keys values pos) (xX F):=by
 intro zU s Z H Q I q;let hn:=I.hok.fresh (zb s.heap.objs.size);let I1:=I.laid (a:=s.heap.objs.size) (o:=.dK []) (h':=s.heap.push {cls:=.type "dict",data:=.dict #[]}) (t':=s.toks) (λ_ _ q=>qc _ q) (zb _) (JP s.heap I.big);show wpAny_Dict_walk (knd:=aD X.prog X.w) v hl h0 J (Ai (h zU _ Z _ _ I1 (q _ hn)) λws s2 M=>?_);let#[ps,H2,L,G,e,i,ep,lk,q2]:=M;subst ep;let#[Y,c,rk]:=Lq (P:=X.prog) (w:=X.w) G;let#[z,hd,O,r0,dd]:=Eh L.hok e;cases r0;show#[Y,c,dd,λh' B hs=>#[.ref s.heap.objs.size,_,?_,rfl,q2]];let hz:(fP [] i).length<=sizeLine:=by let h1:=LB i [];rw[qw]at h1;rw[zn];lia
 let he:∃q,h'.get? s.heap.objs.size=⇑q:=let⟨q,_,_,hq,_⟩:=B;#[q,hq]
 show Es L (by rw[e];show True.intro) hs he (Fu hz hd (rk.merge .nil) B)
structure M2(X:Cx)(o:Expr)(m:Str)(apos:Pos)(e f:Expr)(cpos:Pos):Prop where
 base:attributeBase o m X.env (eval o X.env)=eval o X.env
 few:((backTo cpos (starEach [e,f] X.env)).all (λx=>!x.1)&&(backToKw cpos (keywordEach [] X.env)).all (λx=>x.1.isSome)
  &&↥(([e,f]:List Expr).length+([]:List Keyword).length+(if([]:List Keyword).isEmpty then 0 else 1)<30))=true
 line:(apos.endLine==cpos.line)=true
 trees:backTo cpos (starEach [e,f] X.env)=[(false,eval e X.env),(false,eval f X.env)]
def kn(H:Hp)(a:Addr):Prop:=(∃zV,Rd H a (.dK zV))\/∃zV,Rd H a (.dT zV)
def NH(I:Inv X zU Z H s)(d:kn H a):
  s.TypeIs (.ref a) "dict"/\(∀b,Value.ref a=.ref b->∃i,s.heap.get? b=⇑i/\i.dict=none)/\(a==sysModules)=false:=by
 rcases d with⟨B,e⟩|⟨B,e⟩
 .obtain⟨_,F,G,_,v⟩:=BU I.hok e;show#[v.typeIs,λb q=>?_,F];cases q;let#[i,_,_,h1,h2,_]:=v;show#[i,h1,h2.2.1]
 .obtain⟨_,F,xs,_,v⟩:=BJ I.hok e;show#[v.typeIs,λb q=>?_,F];cases q;let#[i,_,_,h1,h2,_]:=v;show#[i,h1,h2.2.1]
def NG(M:A.units+1<cLine)(I:Inv X zU Z H s)(g:fX H a y o)(L:zJ y u)(rd:zJ d r)(h:∀J s',Inv X zU Z H s'->zJ (o.getD d) J->Q J s'):
  wpAny (model X.prog X.w) A (call (.builtin "dict.get") [.ref a,u,r]) Q E s:=by
 rcases g with⟨B,k,e,G,l⟩|⟨B,k,b,e,G,O,l⟩
 .subst G;let#[z,F,Y,i,v]:=BU I.hok e;show call_meetsIn PySem.F.slot_dict_get v.typeIs PySem.F.entry_dict_get (PySem.F.args_dict_get_3 _ _ _) (meets_dict_get_default (aD X.prog X.w) a (BS L) F r) #[_,v.mapOf,h _ _ (I.tok _) ?_];rw[l];show(i.val k).getD rd
 .subst G;cases(show u=Value.ref b from L);let#[z,F,xs,i,v]:=BJ I.hok e;show call_meetsIn PySem.F.slot_dict_get v.typeIs PySem.F.entry_dict_get (PySem.F.args_dict_get_3 _ _ _) (meetsH_dict_get_default (tupleKind (aD X.prog X.w)) a b F r) #[tupleKind_room_in1 M,k,xs,CI I.hok O,v,h _ _ (I.tok _) ?_];rw[l];show(i.val k).getD rd
def tL(B v tx:TE):TE:=λZ H Q=>B Z H λx H1=>∃a,x=.ref a/\kn H1 a/\v Z H1 λy H2=>tx Z H2 λz i=>∃o,fX i a y o/\Q (o.getD z) i
def QX(hu:X.A.units+1<cLine)(ho:PE X o G)(he:PE X e F)(hf:PE X f tx)(m:M2 X o "get" apos e f cpos):PE X (.Call (.Attribute o "get" apos) [e,f] [] cpos) (tL G F tx):=by
 intro zU s Z H Q I h;show wpAny_Call_method m.base m.few m.line PySem.F.plainAttrs_dict PySem.F.slot_dict_get PySem.F.type_dict_get (Ai (ho zU s Z H _ I h) λu L B=>?_);let#[x,H1,v,Y,a,ex,d,q1]:=B;subst ex;obtain rfl:u=Value.ref a:=Y;let#[t1,t2,_]:=NH v d;show#[t1,t2,?_];rw[m.trees];show Calls.callWith_builtin rfl (Calls.evalArgs_plain (Calls.spliced_cons (Ai (he zU L Z H1 _ v q1) λiv J⟨y,H2,I2,O,q2⟩=>Calls.spliced_cons (Ai (hf zU J Z H2 _ I2 q2) λfv s3⟨z,H3,I3,M,ov,g,q3⟩=>Calls.spliced_nil ?_))))
 show NG hu I3 g O M λw' s4 I4 i=>#[_,H3,I4,i,q3]
end L2
namespace HT
open PySem PyProof.Rows
def lexLt:List Int->List Int->Bool
 |[],[]=>false
 |[],_::_=>true
 |_::_,[]=>false
 |x::xs,y::ys=>if x=y then lexLt xs ys else ↥(x<y)
def sI(x y:Int)(xs ys:List Int):lexLt (x::xs) (y::ys)=if x=y then lexLt xs ys else ↥(x<y):=rfl
theorem rcLt_int(A:Around)(s:Shared)(a:Int)(t:Tok)(c:Int)(u:Tok)(prog:Program)(w:World)(E:zu)(Q:zu)(h:Q (.bool ↥(a<c)) s):
  wpAny (model prog w) A (richCompare .Lt (.int a t) (.int c u)) Q E s:=
 (PyProof.Rows.lt_int h:wpAny (model prog w) A (compareOp .Lt (.int a t) (.int c u)) Q E s)
theorem cat_tup(ht:IsTup s.heap t vs.toArray)(hb:IsTup s.heap b i.toArray)(Y:vs≠[])
  (h1:i=[]->Q (.ref t) s)(h2:i≠[]->Q (.ref s.heap.objs.size) {s with heap:=s.heap.push {cls:=.type "tuple",data:=.seq (vs++i).toArray}})
  (hsz:vs.length+i.length<=sizeLine):wpAny (model prog w) A (binaryOp .Add (.ref t) (.ref b)) Q E s:=by
 let#[#[cls,dd,data,M],I,hc,n,hd]:=id ht;let#[#[h3,F,data2,B],v,L,O,J]:=id hb;subst hc hd L J;let e:vs.toArray++i.toArray=(vs++i).toArray:=by simp
 by_cases G:i=[]
 .exact concat_meets #[_,I,rfl] #[_,v,rfl] noFill_tuple_add seq_tuple_add PySem.F.slot_tuple_add PySem.F.entry_tuple_add (PySem.F.args_tuple_add_2 _ _)
   (tuple_addW1 t b vs.toArray i.toArray n O dd F M B ↑Y (by simp[G])) #[I,v,h1 G]
 .refine concat_meets #[_,I,rfl] #[_,v,rfl] noFill_tuple_add seq_tuple_add PySem.F.slot_tuple_add PySem.F.entry_tuple_add (PySem.F.args_tuple_add_2 _ _)
   (tuple_addW2 t b vs.toArray i.toArray n O dd F M B ↑Y ↑G (by rw[qt];show hsz)) #[I,v,?_]
  rw[e];show h2 G
def sIx(n d:Nat):Option Int->Nat
 |none=>d
 |some v=>if v<0 then(v+(n:Int)).toNat else min v.toNat n
theorem sIx_le(n d:Nat)(B:d<=n)(o:Option Int):sIx n d o<=n:=by
 cases o with
 |none=>show B
 |some v=>
  show(if v<0 then(v+(n:Int)).toNat else min v.toNat n)<=n;by_cases i:v<0
  .rw[q8 i];lia
  .rw[q9 i];show min_le_right _ _
def IG(v:Int)(n d:Nat):(if v<0 then max (v+(n:Int)) 0 else min v (n:Int))=((sIx n d ⇑v:Nat):Int):=by show(if v<0 then max (v+(n:Int)) 0 else min v (n:Int))=(((if v<0 then(v+(n:Int)).toNat else min v.toNat n):Nat):Int);grind
def Tf(lo hi:Option Int)(n:Nat):Builtin.Slice.sliceAdjust lo hi 1 (n:Int)=(((sIx n 0 lo:Nat):Int),((sIx n n hi:Nat):Int)):=by
 let h1:¬((1:Int)<0):=∅
 unfold Builtin.Slice.sliceAdjust;show Prod.ext ?_ ?_
 .cases lo with
  |none=>rfl
  |some v=>show IG v n 0
 .cases hi with
  |none=>rfl
  |some v=>show IG v n n
def TL(i j:Nat):Builtin.Slice.slicePlaces (i:Int) (j:Int) 1=j-i:=by
 unfold Builtin.Slice.slicePlaces;let h1:(1:Int)>0:=∅
 split<;>lia
def Lg(p:IsPart v o)(h:Q o s):wpAny (model prog w) A (Builtin.Slice.slicePartIndex v) Q E s:=by
 cases p with
 |none=>show slicePart_none h
 |int i t=>show slicePart_int h
theorem sliceApplied_gen{lo hi:Option Int}{n:Nat}(L:s.heap.IsSliceOf G F B .none)(J:IsPart F lo)(I:IsPart B hi)
  (h:Q (((sIx n 0 lo:Nat):Int),1,sIx n n hi-sIx n 0 lo) s):wpAny (model prog w) A (Builtin.Slice.sliceApplied (.ref G) (pure (n:Int))) Q E s:=by
 let#[os,i,M,v]:=id L;show qa (qa (zj i v (x:=F) rfl (qa (zj i v (x:=B) rfl (qa (zj i v (x:=.none) rfl (qb ?_)))))));show qa (slicePart_none ?_);show qa (Lg J (qa (Lg I (qa (qb ?_)))));show wpAny _ _ (match Builtin.Slice.sliceAdjust lo hi 1 (n:Int)with|(lo,hi)=>pure (lo,(1:Int),Builtin.Slice.slicePlaces lo hi 1)) _ _ s;rw[Tf lo hi n];show wpAny _ _ (pure (((sIx n 0 lo:Nat):Int),(1:Int),Builtin.Slice.slicePlaces ((sIx n 0 lo:Nat):Int) ((sIx n n hi:Nat):Int) 1)) _ _ s;rw[TL];show qb h
def Qo(xs:Array Value)(i k:Nat):((List.range k).filterMap λ(m:Nat)=>xs[((i:Int)+(m:Int)*1).toNat]?).toArray=((xs.toList.drop i).take k).toArray:=by
 have e:(λ(m:Nat)=>xs[((i:Int)+(m:Int)*1).toNat]?)=λm=>xs[i+m]?:=by
  funext m
  let:((i:Int)+(m:Int)*1).toNat=i+m:=∅
  rw[this]
 rw[e];let:=pick_run xs i k;rw[List.filterMap_map]at this;let v:((λx=>xs[x]?)∘λx=>i+x)=λm=>xs[i+m]?:=rfl;rw[v]at this;rw[this]
theorem getItem_tuple_cut{lo hi:Option Int}(v:IsTup s.heap t items)(L:s.heap.IsSliceOf J O M .none)(pl:IsPart O lo)(Y:IsPart M hi)
  (hw:¬(sIx items.size 0 lo=0/\sIx items.size items.size hi=items.size))
  (h:Q (.ref s.heap.objs.size) {s with heap:=s.heap.push {cls:=.type "tuple",data:=.seq ((items.toList.drop (sIx items.size 0 lo)).take (sIx items.size items.size hi-sIx items.size 0 lo)).toArray}})
  (hsz:items.size<=sizeLine):wpAny (model prog w) A (getItem (.ref t) (.ref J)) Q E s:=by
 let i:sizeOk (.seq ((items.toList.drop (sIx items.size 0 lo)).take (sIx items.size items.size hi-sIx items.size 0 lo)).toArray):=by show((items.toList.drop (sIx items.size 0 lo)).take (sIx items.size items.size hi-sIx items.size 0 lo)).toArray.size<=sizeLine;rw[qt,qI,qH];show le_trans (min_le_right ..) (le_trans (sub_le ..) hsz)
 let#[os,B,G,h1]:=id L;let I:s.TypeIs (.ref J) "slice":=#[os,B,G]
 unfold getItem;try with_reducible show zp ?_
 first|show qa (qb ?_)|skip
 refine qa (wpAny_sequenceKey v.typeIs ⋯ ?_);refine qa (wpAny_callSpecial?_slot (name:=Str.ofString "__getitem__") v.typeIs PyProof.Rows.slot_tuple_getitem
  (zm PyProof.Rows.slot_tuple_getitem v.typeIs entry_tuple_getitem ?_ (args_tuple_getitem _ _)))
 show wpAny _ _ (Builtin.Tuple.tupleItemsOf (.ref t)>>=_) _ _ s;show qa (tupleItemsOf_ v ?_);show qa (wpAny_typeOf I ?_);show qa (sliceApplied_gen L pl Y ?_);let F:¬((((sIx items.size 0 lo:Nat):Int)==0&&(1:Int)==1&&(sIx items.size items.size hi-sIx items.size 0 lo)==items.size)=true):=by grind
 show wpAny _ _ (if(((sIx items.size 0 lo:Nat):Int)==0&&(1:Int)==1&&(sIx items.size items.size hi-sIx items.size 0 lo)==items.size)=true then _ else _) _ _ s;rw[q9 F,Qo];first
  |show qa (m:=Builtin.Tuple.tupleExact _) (zk (qb ⟨_,rfl,qb h⟩) i)
  |show qa (m:=Builtin.Tuple.tupleExact _) (zk (qa (qb (qb ⟨_,rfl,qb h⟩))) i)
  |show qa (qa (m:=Builtin.Tuple.tupleExact _) (zk (qb (qb ⟨_,rfl,qb h⟩)) i))
  |show qa (qa (m:=Builtin.Tuple.tupleExact _) (zk (qb ⟨_,rfl,qb h⟩) i))
end HT
namespace L2
open PySem PySem.Spec PyProof.Rows
abbrev TO:=St->Hp->(Option Int->Hp->Prop)->Prop
@[inline]def PO(X:Cx)(e:Option Expr)(t:TO):Prop:=
 ∀(zU:List (Addr×Obj))(s:Shared)(Z:St)(H:Hp)(Q:Option Int->Hp->Prop),Inv X zU Z H s->t Z H Q->
  wpAny (model X.prog X.w) X.A (evalPart e X.env) (λu s'=>∃o H',Inv X zU Z H' s'/\IsPart u o/\Q o H') X.xe s
def oW:TO:=λ_ H Q=>Q none H
def xU(t:TE):TO:=λZ H Q=>t Z H λx H1=>∃i,x=.int i/\Q ⇑i H1
def ER:∀{us:List Value},zR (i.map V.int) us->IntsAre us i:=by
 induction i with
 |nil=>intro us r;rw[map_nil]at r;cases r;show .nil
 |cons n i F=>
  intro us r;cases r with
  |cons B v=>let#[t,e]:=B;subst e;show .cons n t (F v)
section
variable{lo hi:Option Expr}
def JH:PO X none oW:=by intro zU s Z H Q I h;show qb #[none,H,I,.none,h]
def Ex(h:PE X e te):PO X ⇑e (xU te):=by intro zU s Z H Q I G;show Ai (h zU s Z H _ I G) λu L v=>?_;let#[x,H1,J,B,F]:=v;let#[i,rfl,q]:=F;let#[t,rfl]:=B;show#[⇑i,H1,J,.int i t,q]
def lA(X:Cx)(r:V->Option Int->Option Int->Hp->VK->Prop):Prop:=
 ∀(zU:List (Addr×Obj))(s:Shared)(Z:St)(H:Hp)(x:V)(v B i:Value)(lo hi:Option Int)(F:Addr)(Q:VK),Inv X zU Z H s->zJ x v->s.heap.IsSliceOf F B i .none->IsPart B lo->IsPart i hi->r x lo hi H Q->
  ∃T id,typeLookup (.type T) "__getitem__"=pure ⇑(.builtin id)/\s.TypeIs v T/\wpAny (model X.prog X.w) X.A (getItem v (.ref F)) (EP X zU Z Q) X.xe s
def lA.or(h:lA X r)(h':lA X O):lA X (λx lo hi H Q=>r x lo hi H Q\/O x lo hi H Q):=by
 intro zU s Z H x v B i lo hi F Q I G M L J q;rcases q with q|q
 .show h zU s Z H x v B i lo hi F Q I G M L J q
 .show h' zU s Z H x v B i lo hi F Q I G M L J q
def mz(r:V->Option Int->Option Int->Hp->VK->Prop)(te:TE)(i v:TO):TE:=λZ H Q=>te Z H λx H1=>i Z H1 λl H2=>v Z H2 λu B=>r x l u B Q
def Gr(hr:lA X r)(he:PE X e te)(hl:PO X lo J)(hu:PO X hi L):PE X (.Subscript e (.Slice lo hi none p2) pos) (mz r te J L):=by intro zU s Z H Q I h;show Subscript_ (Ai (he zU s Z H _ I h) λv O i=>?_);let#[x,H1,I1,Y,q1]:=i;show wpAny_Slice (Ai (hl zU O Z H1 _ I1 q1) λF M⟨l,H2,I2,pl,q2⟩=>Ai (hu zU M Z H2 _ I2 q2) λB s3 i=>?_);let#[u,G,I3,pu,q3]:=i;show qb ?_;let I4:Inv X zU Z G {s3 with heap:=s3.heap.push {cls:=.type "slice",data:=.fields [F,B,.none].toArray}}:=I3.kept (t':=s3.toks) λb ob q=>qc _ q;let#[T,id,hT,ht,hg]:=hr zU {s3 with heap:=s3.heap.push {cls:=.type "slice",data:=.fields [F,B,.none].toArray}} Z G x v F B l u s3.heap.objs.size Q I4 Y (Heap.IsSliceOf.new ..) pl pu q3;show tail_any (ops:=[.ref s3.heap.objs.size,v]) ht hT hg (by with_unfolding_all rfl)
def iJ(xs:List V)(lo hi:Option Int):List V:=(xs.drop (HT.sIx xs.length 0 lo)).take (HT.sIx xs.length xs.length hi-HT.sIx xs.length 0 lo)
def Lx(xs:List V)(lo hi:Option Int):(iJ xs lo hi).length<=xs.length:=by unfold iJ;rw[qI,qH];show le_trans (min_le_right ..) (sub_le ..)
def yE(K:W.Frag):V->Option Int->Option Int->Hp->VK->Prop:=λx lo hi H Q=>∃a xs,x=.ref a/\aZ K H a xs/\
 ¬(HT.sIx xs.length 0 lo=0/\HT.sIx xs.length xs.length hi=xs.length)/\∀p,H p=none->Q (.ref p) (upd H p (.tup (iJ xs lo hi)))
def Mx:lA X (yE X.K):=by
 intro zU s Z H x v vl vu lo hi sl Q I J hs M L h;let#[a,xs,rfl,O,Y,q]:=h;cases J;let#[B,r,G,F]:=I.tuple O;let i:B.toArray.size=xs.length:=by rw[qt];show r.length.symm
 show#["tuple",_,PyProof.Rows.slot_tuple_getitem.lookup,G.typeIs,?_];show HT.getItem_tuple_cut G hs M L (by rw[i];show Y) ?_ (by rw[i];show F);rw[i];show#[.ref s.heap.objs.size,_,I.laid (t':=s.toks) (o:=.tup (iJ xs lo hi)) (λb ob q=>qc _ q) (zb _) ?_,rfl,q _ (I.hok.fresh (zb _))];show#[#[le_trans (Lx xs lo hi) F,iL.new rfl (qd _ rfl)],_,(r.drop (HT.sIx xs.length 0 lo)).take (HT.sIx xs.length xs.length hi-HT.sIx xs.length 0 lo),IsTup.new _ _]
def yQ(K:W.Frag):R2:=λx y H Q=>∃a b xs ys,x=.ref a/\y=.ref b/\aZ K H a xs/\aZ K H b ys/\xs≠[]/\xs.length+ys.length<=sizeLine/\
 (ys=[]->Q (.ref a) H)/\(ys≠[]->∀p,H p=none->Q (.ref p) (upd H p (.tup (xs++ys))))
def zR.nil_iff(r:zR xs us):us=[]↔xs=[]:=by
 cases r with
 |nil=>simp
 |cons _ _=>simp
def Ow:OpR X (binaryOp .Add) (yQ X.K):=by intro zU s Z H x y v u Q I L J h;let#[a,b,xs,ys,rfl,rfl,ha,hb,hx,G,O,M]:=h;cases L;cases J;let#[h1,B,p1,_]:=I.tuple ha;let#[F,i,Y,_]:=I.tuple hb;show HT.cat_tup p1 Y (λz=>hx (B.nil_iff.mp z)) (λz=>#[.ref a,H,I,rfl,O (i.nil_iff.mp z)]) (λz=>?_) (by rw[<-B.length,<-i.length];show G);show#[.ref s.heap.objs.size,_,I.laid (t':=s.toks) (o:=.tup (xs++ys)) (λb ob q=>qc _ q) (zb _) ?_,rfl,M (λw=>z (i.nil_iff.mpr w)) _ (I.hok.fresh (zb _))];show#[#[by rw[qr];show G,iL.new rfl (qd _ rfl)],_,B.append i,IsTup.new _ _]
end
def ixN(n:Nat)(i:Int):Option Nat:=if 0<=i then(if i<n then ⇑i.toNat else none)else if -(n:Int)<=i then ⇑(i+n).toNat else none
def atI{α:Type}(xs:List α)(i:Int):Option α:=(ixN xs.length i).bind λj=>xs[j]?
def FZ(h:ixN n i=⇑j):seqIndex? i n=⇑j/\j<n/\-(n:Int)<=i/\i<n:=by
 unfold ixN at h;by_cases v:0<=i
 .rw[q8 v]at h;by_cases h1:i<n
  .rw[q8 h1]at h;let e:i.toNat=j:=qg h;show#[by rw[seqIndex_of v h1,e],∅,∅,h1]
  .rw[q9 h1]at h;cases h
 .rw[q9 v]at h;by_cases h1:-(n:Int)<=i
  .rw[q8 h1]at h;let e:(i+n).toNat=j:=qg h;show#[by rw[seqIndex_neg ∅ h1,e],∅,h1,∅]
  .rw[q9 h1]at h;cases h
def FU(h:atI xs i=⇑v):∃j,seqIndex? i xs.length=⇑j/\xs[j]?=⇑v/\j<xs.length/\-(xs.length:Int)<=i/\i<xs.length:=by
 unfold atI at h;cases e:ixN xs.length i with
 |none=>rw[e]at h;cases h
 |some j=>rw[e]at h;let#[h1,h2,F,B]:=FZ e;show#[j,h1,h,h2,F,B]
def eE(b:Expr):Prop:=∀o i,subscripted b false o i=operate [o,i] (getItem o i)
def nY(X:Cx)(r:R2):Prop:=
 ∀(B i:Expr)(zU:List (Addr×Obj))(s:Shared)(Z:St)(H:Hp)(x y:V)(v u:Value)(Q:VK),Inv X zU Z H s->zJ x v->zJ y u->r x y H Q->
  subscripted i false v u=operate [v,u] (getItem v u)->wpAny (model X.prog X.w) X.A (subscriptTail B i v u) (EP X zU Z Q) X.xe s
def oq(X:Cx)(id:String)(r:V->List V->Hp->VK->Prop):Prop:=
 ∀(zU:List (Addr×Obj))(s:Shared)(Z:St)(H:Hp)(x:V)(xs:List V)(v:Value)(us:List Value)(Q:VK),Inv X zU Z H s->zJ x v->zR xs us->r x xs H Q->
  wpAny (model X.prog X.w) X.A (call (.builtin id) (v::us)) (EP X zU Z Q) X.xe s
section
def nY.or(h:nY X r)(h':nY X L):nY X (λx y H Q=>r x y H Q\/L x y H Q):=by
 intro i B zU s Z H x y v u Q I G F q J;rcases q with q|q
 .show h i B zU s Z H x y v u Q I G F q J
 .show h' i B zU s Z H x y v u Q I G F q J
def Eg(J:nY X r)(M:PE X a ta)(L:PE X b tb)(G:eE b):PE X (.Subscript a b pos) (cx r ta tb):=by intro zU s Z H Q I h;show Subscript_ (CG M L I h λv u i x y H2 O F B q=>J a b zU i Z H2 x y v u Q O F B q (G _ _))
def yN(K:W.Frag):R2:=λx y H Q=>∃p xs i v,x=.ref p/\y=.int i/\bB K H p xs/\atI xs i=⇑v/\Q v H
def yL(K:W.Frag):R2:=λx y H Q=>∃p xs i v,x=.ref p/\y=.int i/\aZ K H p xs/\atI xs i=⇑v/\Q v H
def yM:R2:=λx y H Q=>∃z i c,x=.str z/\y=.int i/\z.length<=sizeLine/\atI z.cps.toList i=⇑c/\Q (.str #[[c].toArray]) H
theorem zmC:nY X (yN X.K):=by
 intro F G zU s Z H x y v u Q I rx ry h Y;let#[p,xs,i,z,rfl,rfl,hq,he,q]:=h;cases rx;let#[t,rfl]:=ry;let#[M,r,L,hz]:=I.list hq;let#[j,h1,h2,h3,h4,h5]:=FU he;let#[w,ew,J]:=r.get h2;let hl:=r.length;let hn:=AA;let B:EP X zU Z Q w s:=#[z,H,I,J,q]
 by_cases h0:0<=i
 .let O:i.toNat=j:=by rw[seqIndex_of h0 h5]at h1;exact qg h1
  show item_listR L.isList h0 ∅ (by rw[O];simpa using ew) B Y
 .have O:(i+(M.toArray.size:Int)).toNat=j:=by rw[seqIndex_neg ∅ h4]at h1;rw[qt,<-hl];exact qg h1
  exact subscriptTail_builtinR (x:=w) L.isList.typeIs slot_list_getitem.lookup
   (wpAny_getItem_list_neg (Q:=λr s'=>r=w/\EP X zU Z Q r s') L.isList ∅ (by rw[qt]<;>lia) ∅ (by rw[O];simpa using ew) #[rfl,B]) Y
theorem zoo:nY X (yL X.K):=by
 intro B F zU s Z H x y v u Q I O M h hs;let#[p,xs,i,z,rfl,rfl,hq,he,q]:=h;cases O;let#[t,rfl]:=M;let#[Y,r,L,hz]:=I.tuple hq;let#[j,h1,h2,h3,h4,h5]:=FU he;let#[w,ew,G]:=r.get h2;let hl:=r.length;let hn:=AA;let J:EP X zU Z Q w s:=#[z,H,I,G,q]
 exact subscriptTail_builtinR (x:=w) L.typeIs slot_tuple_getitem.lookup
  (getItem_tuple (j:=j) (Q:=λr s'=>r=w/\EP X zU Z Q r s') L ∅ ∅ (by rw[qt,<-hl];show h1) ↑ew #[rfl,J]) hs
def MQ:nY X yM:=by
 intro B F zU s Z H x y v u Q I J G h L;let#[z,i,c,rfl,rfl,hz,O,q]:=h;let#[t,rfl]:=J;let#[t',rfl]:=G;let#[j,h1,h2,h3,h4,Y]:=FU O;let M:z.cps.toList.length=z.length:=by simp[Str.length]
 rw[M]at h1 h4 Y;let hn:=AA;show tail_any (typeIs_str s z t) slot_str_getitem.lookup (getItem_str (c:=c) (by let e1:↥(i< -(2^63:Int))=false:=qT ∅;let e2:↥(i≥2^63)=false:=qT ∅;rw[e1,e2,Bool.or_false]) (by rw[h1];simpa using h2) #[.str #[[c].toArray],H,I.tok _,#[_,rfl],q]) L
def cy(K:W.Frag):R2:=λx y H Q=>yN K x y H Q\/yL K x y H Q\/yM x y H Q
def FJ:nY X (cy X.K):=zmC.or (zoo.or MQ)
def Tg(i:List Value)(n j:Nat)(u:Value):Obj.mapSeq (·.setIfInBounds j u) {cls:=.type "list",data:=.seq i.toArray n}={cls:=.type "list",data:=.seq (i.set j u).toArray n}:=by simp[Obj.mapSeq]
def Inv.lst(I:Inv X zU Z H s)(h:H p=⇑(.lst xs)):
  ∃(i:List Value)(n:Nat),zR xs i/\s.heap.get? p=some {cls:=.type "list",data:=.seq i.toArray n}/\xs.length<=sizeLine:=by
 let#[z,i,n,r,e]:=I.hok p _ h;show#[i,n,r,e,z]
def Inv.lstUpd{i its':List Value}(I:Inv X zU Z H s)(h:H p=⇑(.lst xs))
  (F:s.heap.get? p=some {cls:=.type "list",data:=.seq i.toArray n})(B:f {cls:=.type "list",data:=.seq i.toArray n}={cls:=.type "list",data:=.seq its'.toArray v})(r:zR ys its')(hz:ys.length<=sizeLine)(t:Nat):
  Inv X zU Z (upd H p (.lst ys)) {s with heap:=s.heap.update p f,toks:=t}:=by
 let e:(s.heap.update p f).get? p=some {cls:=.type "list",data:=.seq its'.toArray v}:=by rw[zi f F (by rw[B]<;>rfl),B]
 show I.write (x:=p) (e:=p) (by rw[h];trivial) (.inl rfl) (λb u G q=>(zc _ _ (Ne.symm G)).trans q) #[_,e] ?_;show#[hz,its',v,r,e]
def yH:V->V->V->Hp->(Hp->Prop)->Prop:=λo i v H Q=>∃p xs k j,o=.ref p/\i=.int k/\H p=⇑(.lst xs)/\ixN xs.length k=⇑j/\Q (upd H p (.lst (xs.set j v)))
def QJ:bg X yH:=by
 intro zU s Z H o i v ov iv u Q I ro ri rv h;let#[p,xs,k,j,rfl,rfl,L,hj,q]:=h;cases ro;let#[t,rfl]:=ri;let#[B,n,r,F,hz]:=I.lst L;let#[h1,h2,O,M]:=FZ hj;let G:=r.length;let hn:=AA;let I':Inv X zU Z (upd H p (.lst (xs.set j v))) {s with heap:=s.heap.update p (Obj.mapSeq (·.setIfInBounds j u))}:=
  I.lstUpd L F (Tg B n j u) (r.set rv j) (by rw[List.length_set];show hz) s.toks
 by_cases Y:0<=k
 .let J:k.toNat=j:=by rw[seqIndex_of Y M]at h1;exact qg h1
  show W.ki_setAt F Y ∅ (by rw[qt,<-G];show M) (by rw[J];show#[_,I',q])
 .let J:(k+(B.toArray.size:Int)).toNat=j:=by rw[seqIndex_neg ∅ O]at h1;rw[qt,<-G];exact qg h1
  show W.ki_setBack F ∅ (by rw[qt,<-G];show O) ∅ (by rw[J];show#[_,I',q])
def Ur(lo hi:Option Int)(n:Nat):(sliceBounds lo hi none n).1=((HT.sIx n 0 lo:Nat):Int)/\(sliceBounds lo hi none n).2.1=((HT.sIx n n hi:Nat):Int)/\(sliceBounds lo hi none n).2.2=1:=by
 let v:∀(i:Int)(n d:Nat),max 0 (min (if i<0 then i+(n:Int)else i) (n:Int))=((HT.sIx n d ⇑i:Nat):Int):=λi n _=>Ce i n;show#[?_,?_,rfl]
 .cases lo with
  |none=>rfl
  |some i=>show v i n 0
 .cases hi with
  |none=>rfl
  |some i=>show v i n n
def UO(i:List Value)(lo hi:Option Int):slicePick i.toArray lo hi none=((i.drop (HT.sIx i.length 0 lo)).take (HT.sIx i.length i.length hi-HT.sIx i.length 0 lo)).toArray:=by let#[h1,h2,v]:=Ur lo hi i.toArray.size;unfold slicePick;rw[h1,h2,v];simp only[sliceRange_one,pick_run]<;>rfl
def yG(K:W.Frag):V->Option Int->Option Int->Hp->VK->Prop:=λx lo hi H Q=>∃a xs,x=.ref a/\bB K H a xs/\∀p,H p=none->Q (.ref p) (upd H p (.lst (iJ xs lo hi)))
def Pt:lA X (yG X.K):=by intro zU s Z H x v vl vu lo hi sl Q I F Y J G h;let#[a,xs,rfl,O,q]:=h;cases F;let#[L,r,B,M]:=I.list O;let i:=r.length;show#["list",_,slot_list_getitem.lookup,B.isList.typeIs,?_];show wpAny_getItem_list_slice B.isList Y J G .none (by simp) ?_ (by rw[qt]<;>lia);rw[UO,<-i];show#[.ref s.heap.objs.size,_,I.laid (t':=s.toks) (o:=.lst (iJ xs lo hi)) (λb ob q=>qc _ q) (zb _) ?_,rfl,q _ (I.hok.fresh (zb _))];show#[le_trans (Lx xs lo hi) M,_,0,(r.drop (HT.sIx xs.length 0 lo)).take (HT.sIx xs.length xs.length hi-HT.sIx xs.length 0 lo),qd _ rfl]
def Ux:aU X (.builtin "len") (λxs H Q=>∃p ys,xs=[.ref p]/\(bB X.K H p ys\/aZ X.K H p ys)/\Q (.int ys.length) H):=by
 intro zU s Z H xs M Q I r h;let#[p,ys,rfl,v,q]:=h;let#[u,rfl,J]:=vals1 r;cases J;let O:=AA;rcases v with v|v
 .obtain⟨G,B,F,L⟩:=I.list v;let i:=B.length;show Calls.call_len_list F.isList (by simp<;>lia) #[.int ys.length,H,I.tok _,#[s.toks+1,by rw[qt,i]],q]
 .obtain⟨G,B,F,L⟩:=I.tuple v;let i:=B.length;show len_tuple F (by simp<;>lia) #[.int ys.length,H,I.tok _,#[s.toks+1,by rw[qt,i]],q]
def Us:aU X (.builtin "len") (λxs H Q=>∃z,xs=[.str z]/\z.length<=sizeLine/\Q (.int z.length) H):=by intro zU s Z H xs i Q I r h;let#[z,rfl,v,q]:=h;let#[u,rfl,t,rfl]:=vals1 r;let B:=AA;show len_str ∅ #[.int z.length,H,I.tok _,#[_,rfl],q]
def Ut:aU X (.type "list") (λxs H Q=>∃p ys,xs=[.ref p]/\(bB X.K H p ys\/aZ X.K H p ys)/\∀l,H l=none->Q (.ref l) (upd H l (.lst ys))):=by
 intro zU s Z H xs us Q I r h;let#[p,ys,rfl,J,q]:=h;let#[u,rfl,rx]:=vals1 r;cases rx;let M:∀(i:List Value),zR ys i->ys.length<=sizeLine->∀(h':Heap)(B:Nat),(∀b o',s.heap.get? b=⇑o'->h'.get? b=⇑o')->
   h'.get? s.heap.objs.size=some {cls:=.type "list",dict:=none,data:=.seq i.toArray B,slots:=#[]}->EP X zU Z Q (.ref s.heap.objs.size) {s with heap:=h'}:=λi v G h' B F e=>
  #[.ref s.heap.objs.size,_,I.laid (t':=s.toks) F (zb _) (show zT X.prog X.w _ h' _ (.lst ys) from#[G,i,B,v,e]),rfl,q _ (I.hok.fresh (zb _))]
 rcases J with J|J
 .obtain⟨i,v,O,G⟩:=I.list J;let L:=v.length;let#[o,Y,hc,n,hd]:=O.isList;show call_list_seq p (.inl rfl) Y hc hd (λh' B F e=>M i v G h' B F e) (by simp<;>lia)
 .obtain⟨i,v,O,G⟩:=I.tuple J;let L:=v.length;let#[o,Y,hc,n,hd]:=O;show call_list_seq p (.inr rfl) Y hc hd (λh' B F e=>M i v G h' B F e) (by simp<;>lia)
def UK:aU X (.type "tuple") (λxs H Q=>∃p ys,xs=[.ref p]/\((bB X.K H p ys/\∀l,H l=none->Q (.ref l) (upd H l (.tup ys)))\/(aZ X.K H p ys/\Q (.ref p) H))):=by
 intro zU s Z H xs us Q I r h;let#[p,ys,rfl,h]:=h;let#[u,rfl,M]:=vals1 r;cases M;rcases h with⟨F,q⟩|⟨F,q⟩
 .obtain⟨i,v,B,G⟩:=I.list F;let J:=v.length;show call_tuple_list B.isList (λh' O=>?_) (by simp<;>lia);let L:Inv X zU Z H {s with heap:=h'}:=I.kept (t':=s.toks) O;let Y:Inv X zU Z (upd H h'.objs.size (.tup ys)) {s with heap:=h'.push {cls:=.type "tuple",data:=.seq i.toArray}}:=
   L.laid (t':=s.toks) (λb o e=>qc _ e) (zb _) (show zT X.prog X.w _ _ _ (.tup ys) from#[#[G,iL.new rfl (qd _ rfl)],i,v,IsTup.new _ _])
  show#[.ref h'.objs.size,_,Y,rfl,q _ (L.hok.fresh (zb _))]
 .obtain⟨i,v,B,G⟩:=I.tuple F;show call_tuple_same B #[.ref p,H,I,rfl,q]
def kr(K:W.Frag)(T:String)(x:V)(H:Hp):Prop:=match x with
 |.str _=>T="str"
 |.int _=>T="int"
 |.ref p=>(T="list"/\∃xs,bB K H p xs)\/(T="tuple"/\∃o,K.lookup p=⇑o/\o.cls=.type "tuple"/\o.dict=none)\/
  (T="dict"/\((∃zV,H p=⇑(.dK zV))\/∃zV,H p=⇑(.dT zV)))
 |_=>False
def Nw(I:Inv X zU Z H s)(r:zJ x v)(F:kr X.K T x H):
  s.TypeIs v T/\∀a,v=.ref a->∃M,s.heap.get? a=⇑M/\M.dict=none:=by
 cases x with
 |str z=>let#[t,rfl]:=r;cases(show T="str" from F);show#[typeIs_str s z t,λ_ e=>nomatch e]
 |int i=>let#[t,rfl]:=r;cases(show T="int" from F);show#[typeIs_int s i t,λ_ e=>nomatch e]
 |ref p=>
  cases r;rcases F with⟨rfl,xs,Y⟩|⟨rfl,o,B,hc,J⟩|⟨rfl,B⟩
  .obtain⟨O,_,L,_⟩:=I.list Y;show#[L.isList.typeIs,λa e=>?_];cases e;let#[o,n,e,c,J,_]:=L;show#[o,e,J]
  .show#[#[o,I.kIn p o B,hc],λa e=>?_];cases e;show#[o,I.kIn _ o B,J]
  .have z:∃o,s.heap.get? p=⇑o/\o.ExactDict:=by
    rcases B with⟨G,B⟩|⟨G,B⟩
    .obtain⟨_,_,_,_,o,_,_,e,ex,_⟩:=I.hok p _ B;show#[o,e,ex]
    .obtain⟨_,_,_,_,o,_,_,e,ex,_⟩:=I.hok p _ B;show#[o,e,ex]
   let#[o,e,ex]:=z;show#[#[o,e,ex.1],λa e2=>?_];cases e2;show#[o,e,ex.2.1]
 |_=>show False.elim F
def ng(K:W.Frag)(T:String)(r:V->List V->Hp->VK->Prop)(i:TE)(t:TA):TE:=λZ H Q=>i Z H λx H1=>kr K T x H1/\t Z H1 λxs H2=>r x xs H2 Q
variable{T id:String}
def Df(pa:PlainAttrs T)(slot:Slot T name id)(J:typeOf (.builtin id)=pure (.type "method_descriptor"))(hm:oq X id r)(ho:PE X o to)(ha:PA X (e::es) t)
  (F:autoParam (attributeBase o name X.env (eval o X.env)=eval o X.env) rZ9)
  (G:autoParam (((backTo cpos (starEach (e::es) X.env)).all (λx=>!x.1)&&(backToKw cpos (keywordEach [] X.env)).all (λx=>x.1.isSome)
   &&↥((e::es).length+([]:List Keyword).length+(if([]:List Keyword).isEmpty then 0 else 1)<30))=true) rZ9)
  (B:autoParam ((apos.endLine==cpos.line)=true) rZ9)(hs:autoParam (starEach (e::es) X.env=(false,eval e X.env)::starEach es X.env) rZ9)(i:autoParam ((backTo cpos (starEach es X.env)).any (·.1)=false) rZ9):
  PE X (.Call (.Attribute o name apos) (e::es) [] cpos) (ng X.K T r to t):=by
 intro zU s Z H Q I h;show wpAny_Call_method_late F G B rfl (Ai (ho zU s Z H _ I h) λv s1 Y=>?_);let#[x,H1,O,L,ty,q1]:=Y;let#[h1,h2]:=Nw O L ty;show#[T,id,pa,slot,J,h1,h2,?_];let M:=ha cpos zU s1 Z H1 _ O q1;rw[hs]at M⊢;show Calls.callWith_builtin (by show(false||(backTo cpos (starEach es X.env)).any (·.1))=false;rw[i]<;>rfl) (Calls.evalArgs_plain ?_);show Ai M λus s2⟨vs,H2,I2,r2,q2⟩=>hm zU s2 Z H2 x vs v us Q I2 L r2 q2
end
def bq(X:Cx)(id:String)(r:V->List V->Hp->VK->Prop):Prop:=
 ∀(zU:List (Addr×Obj))(s:Shared)(Z:St)(H:Hp)(x:V)(xs:List V)(v:Value)(us:List Value)(Q:VK),Inv X zU Z H s->zJ x v->zR xs us->r x xs H Q->
  wpAny (model X.prog X.w) X.A (call (.builtin id) (v::us)) (EP X zU Z Q) X.xe s
def zR.one:∀{x:V}{us:List Value},zR [x] us->∃u,us=[u]/\zJ x u:=by
 intro x us h;cases h with
 |cons r t=>cases t;show#[_,rfl,r]
def zR.eraseIdx:∀{xs:List V}{us:List Value}(i:Nat),zR xs us->zR (xs.eraseIdx i) (us.eraseIdx i)
 |_,_,_,.nil=>.nil
 |_,_,0,.cons _ t=>t
 |_,_,i+1,.cons r t=>.cons r (zR.eraseIdx i t)
def Kj{α:Type}:∀(l:List α)(i:Nat),(l.eraseIdx i).length<=l.length
 |[],_=>zb _
 |_::_,0=>le_succ _
 |_::r,i+1=>Nat.succ_le_succ (Kj r i)
def Inv.lset{i its':List Value}(I:Inv X zU Z H s)(J:H l=⇑(.lst xs))
  (e:s.heap.get? l=some {cls:=.type "list",data:=.seq i.toArray n})(F:f i.toArray=its'.toArray)(v:zR ys its')(hz:ys.length<=sizeLine):
  Inv X zU Z (upd H l (.lst ys)) {s with heap:=s.heap.update l (Obj.mapSeq f),toks:=t'}:=by
 let q:=PySem.IsL.update e f;rw[F]at q;show I.write (x:=l) (e:=l) (by rw[J];show trivial) (.inl rfl) (λL u G B=>(zc s.heap (Obj.mapSeq f) (Ne.symm G)).trans B) #[_,q] ?_;show#[hz,its',_,v,q]
def Inv.lnew(I:Inv X zU Z H s)(v:zR ys i)(hz:ys.length<=sizeLine):
  Inv X zU Z (upd H s.heap.objs.size (.lst ys)) {s with heap:=s.heap.push {cls:=.type "list",data:=.seq i.toArray},toks:=t'}:=
 I.laid (λ_ _ q=>qc _ q) (zb _) #[hz,i,0,v,qd _ rfl]
def Inv.fresh(I:Inv X zU Z H s):H s.heap.objs.size=none:=I.hok.fresh (zb _)
def Inv.lstM(I:Inv X zU Z H s)(v:H l=⇑(.lst xs)):xs.length<=sizeLine/\∃(i:List Value)(n:Nat),zR xs i/\xs.length=i.length/\s.heap.get? l=some {cls:=.type "list",data:=.seq i.toArray n}:=by let#[z,i,n,r,e]:=I.hok l _ v;show#[z,i,n,r,r.length,e]
def pB:V->List V->Hp->VK->Prop:=λx i H Q=>∃l xs y,x=.ref l/\i=[y]/\H l=⇑(.lst xs)/\xs.length<sizeLine/\Q .non (upd H l (.lst (xs++[y])))
def GV:bq X "list.append" pB:=by intro zU s Z H x M v O Q I G J h;let#[l,xs,y,rfl,rfl,B,Y,q]:=h;cases G;let#[u,rfl,L]:=J.one;let#[z,i,n,r,hl,e]:=I.lstM B;show call_meets F.slot_list_append #[_,e,rfl] F.entry_list_append (F.args_list_append_2 _ _) (PySem.list_append l i.toArray n u (by rw[qt];lia)) #[e,?_];show#[.non,_,I.lset (its':=i++[u]) B e (by simp) (r.append (.cons L .nil)) ?_,rfl,q];rw[qr,qC];lia
def tV:V->List V->Hp->VK->Prop:=λx v H Q=>∃l xs i k y,x=.ref l/\v=[.int i]/\H l=⇑(.lst xs)/\-(2^63)<=i/\i<2^63/\seqIndex? i xs.length=⇑k/\xs[k]?=⇑y/\Q y (upd H l (.lst (xs.eraseIdx k)))
def Qy:bq X "list.pop" tV:=by
 intro zU s Z H x vs v us Q I L M h;let#[l,xs,i,k,y,rfl,rfl,J,h1,h2,hk,Y,q]:=h;cases L;let#[u,rfl,O]:=M.one;let#[t,rfl]:=O;let#[z,B,n,r,hl,e]:=I.lstM J;let#[w,hw,G]:=r.get Y;refine call_meets F.slot_list_pop #[_,e,rfl] F.entry_list_pop (F.args_list_pop_2 _ _)
  (MeetsSeq.list_pop_at l B.toArray n i t k w (fitsIndex_both h1 h2) (by rw[qt,<-hl];show hk) (by rw[<-q5];show hw) (by rw[qt];lia)) #[e,?_]
 show#[y,_,I.lset (its':=B.eraseIdx k) J e ?_ (r.eraseIdx k) ?_,G,q]
 .show B.toArray.eraseIdxIfInBounds k=(B.eraseIdx k).toArray;rw[List.eraseIdxIfInBounds_toArray]
 .let:=Kj xs k;lia
end L2
namespace Att
open PySem PySem.W PySem.Calls PyProof.Rows
def UQ:∀(i:List Int)(vs:List Value),WellAll P h vs (i.map WData.int)->IntsAre vs i:=by
 intro i;induction i with
 |nil=>intro vs w;cases w;show .nil
 |cons n i v=>
  intro vs w;cases w with
  |cons a b=>cases a;show .cons _ _ (v _ b)
def RQ{l:OpenLaw}(hn:l.most=⇑n)
  (v:l.row.toRowW.claim.pre args=true)(I:WellAll P h vals args):
  ∃a vs i,vals=[Value.ref a]/\args=[WData.list (i.map WData.int)]/\h.get? a=some {cls:=.type "list",data:=.seq vs.toArray}/\IntsAre vs i/\i.length<=n:=by
 have J:WShape.hasAll [] args [.list .int]=true:=(pre_splitW v).1;let Y:l.pre.holds [] {args:=args}=true:=(pre_splitW v).2;let#[d,r,rfl,h1,h2]:=hasAllW_cons J;obtain rfl:=hasAllW_nil h2;let#[xs,rfl,h3]:=hasW_list h1;let#[i,rfl]:=items_int h3;let B:i.length<=n:=by
  let G:(WTm.not (.lt (.lit (.int (n:Int))) (.len (.arg 0)))).holds [] {args:=[.list (i.map .int)]}=true:=by let G:=(holds_andW Y).1;rw[hn]at G;show G
  let h5:=condW_of G (w_not (w_lt w_lit (w_len_list (w_arg rfl))));grind
 cases I with
 |cons M L=>
  cases L;cases M with
  |list O F=>show#[_,_,i,rfl,rfl,O,UQ i _ F,B]
def SJ(l:OpenLaw)(args:List WData):l.row.toRowW.claim.post args (.bool true) args=true:=
 postW_of (r:=l.row.toRowW) (X:=(true==true))
  (show WShape.has [] (.bool true) .bool=true by first|rfl|decide|simp)
  (show(WTm.eq .res (.lit (.bool true))).value [] {args:=args,res:=⇑(.bool true),after:=args}=⇑(.bool (true==true)) from w_eq_bool (w_res rfl) w_lit) rfl
theorem attach_call{l:OpenLaw}
  (hn:l.most=⇑n)(h6:d.params.defaults=[])
  (call:∀(w:World)(v i:Shared)(mg mb:Str->Option Value)(M:Addr)(o:Obj)(pm cd F:Value)(a:Addr)(vs:List Value)(O:List Int),
   Ground q loose [] XP w v mg mb i.heap->YP w i.heap->
   i.heap.get? M=⇑o->o.data=.func (docDef d.name d.params d.body d.scope pm cd F)->i.heap.CodeRec cd d.name->mg d.name=⇑(.ref M)->
   i.heap.get? a=some {cls:=.type "list",data:=.seq vs.toArray}->IntsAre vs O->O.length<=n->i.gens=#[]->
   codeAny (model l.prog w) callerA (.call (.ref M) #[[.ref a],[]]) (λr s'=>r=.ok (.ret (.bool true))/\OldK i.heap s'.heap/\s'.os=i.os/\AllBare s'.gens) i):
  WalkO q loose XP YP l.row.toRowW d [] (λf vs=>PySem.call f vs):=by
 intro w v i mg mb G Y M o pm cd F dV kV ho hd h7 hD h5 hg args h8 as I h9 e1 h1 e2;obtain rfl:dV=.none:=Dflts.none hD h6;obtain rfl:kV=.none:=Dflts.noKw hD;let#[a,vs,O,rfl,rfl,J,B,L]:=RQ hn I h1;show enter_call (codeAny_mono (call w v i mg mb M o pm cd F a vs O G Y ho (fd_plain hd) h7 h5 J B L hg) λr s' hq=>?_);let#[rfl,h2,h3,h4]:=hq;show#[.inl #[.bool true,.bool true,[],rfl,λ_=>rfl,.bool true,SJ l _,λ_=>#[List.Pairwise.nil,λ_ hm=>(nomatch hm)]],h2,h3,h4]
end Att
namespace L2
open PySem PySem.Spec PyProof.Rows
def Dy:∀{vs:List Value}{i:List Int},IntsAre vs i->zR (i.map V.int) vs
 |_,_,.nil=>.nil
 |_,_,.cons n t h=>.cons #[t,rfl] (Dy h)
def wY(H:Hp):Prop:=∀b,H b=none\/∃o xs,H b=⇑(.frz o (.lst xs))
def Rt{K:W.Frag}
  (KX:K.In i.heap)(h3:i.heap.Ns mainGlobals mg)(L:i.heap.Ns builtinsNs mb)(h9:∀x:Str,x≠"__name__"->mb x=bootBuiltins x)(h4:i.heap.NoLimit)(hg:i.gens=#[])
  (ha:i.heap.get? a=some {cls:=.type "list",data:=.seq vs.toArray})(hi:IntsAre vs ns)(hl:ns.length<=sizeLine)(hr:bQ k callerA)
  (F:∀base:Heap,K.In base->base.Ns mainGlobals mg->cY P w K mg base CX k fa fd [x] sp)(J:∀(s:Shared)(u:Value),BindsTo s fd #[[u],[]] [(x,u)])
  (h8:∀H:Hp,wY H->bB K H a (ns.map V.int)->sp [.ref a] H (λv _=>v=.bl true) λ_ _ _=>False)
  (e3:∀H e s',CX [] H i (λ_ _ _=>False) e s'->False):
  codeAny (model P w) callerA (.call (.ref fa) #[[.ref a],[]]) (λr s'=>r=.ok (.ret (.bool true))/\OldK i.heap s'.heap/\s'.os=i.os/\AllBare s'.gens) i:=by
 let rv:=Dy hi;let M:=hi.length
 --from an abstract heap in which nothing but the script may be tracked
 have I:∀H:Hp,wY H->bB K H a (ns.map V.int)->dI P w H i.heap->(∀b,H b≠none->b=a)->(H a≠none->K.lookup a=none)->
   codeAny (model P w) callerA (.call (.ref fa) #[[.ref a],[]]) (λr s'=>r=.ok (.ret (.bool true))/\OldK i.heap s'.heap/\s'.os=i.os/\AllBare s'.gens) i:=by
  intro H hO hS Y hA hK;let B:∀{b:Addr}{o:Obj},i.heap.get? b=⇑o->H b=none->(gW i.heap H).get? b=⇑o:=λe n=>Ql e n;let h7:∀{b:Addr}{o:Obj}{es:Array DictEntry}{ep:Nat},i.heap.get? b=⇑o->o.data=.dict es ep->H b=none:=λ{b o es ep} e d=>by
   cases q:H b with
   |none=>rfl
   |some u=>grind
  let G:∀{b:Addr}{m:Str->Option Value},i.heap.Ns b m->(gW i.heap H).Ns b m:=λ{b m}⟨o,es,ep,e,d,r⟩=>#[o,es,ep,B e (h7 e d),d,r]
  have h5:K.In (gW i.heap H):=λb o e=>B (KX b o e) (by
   cases q:H b with
   |none=>rfl
   |some u=>have e':b=a:=hA b (by rw[q];simp);subst e';rw[hK (by rw[q];simp)]at e;cases e)
  let hM:Mod K mg (gW i.heap H):=#[h5,G h3,#[mb,G L,h9],let#[mc,h1,h2]:=h4;#[mc,G h1,h2]]
  let e0:rP P w K mg (gW i.heap H) callerA [] i H:=#[rfl,hM,λb o e=>Oe e,Nat.le_of_eq (Sl _ _),trivial,λb L=>absurd (show b∈([]:List Addr) from L) (by simp),Y,.of_eq hg]
  show codeAny_mono ((F _ h5 (G h3)).run callerA [] i H #[[.ref a],[]] [.ref a] [.ref a] _ _ hr e0 (J i (.ref a)) (.cons rfl .nil) (h8 H hO hS)) λr s' h=>?_;cases r with
  |error e=>show(e3 H e s' h).elim
  |ok fl=>
   cases fl with
   |next=>show False.elim h
   |brk=>show False.elim h
   |cont=>show False.elim h
   |ret u=>
    let#[v,H',os,h6,un,O,r',q]:=h;let q':v=.bl true:=q;subst q';obtain rfl:u=Value.bool true:=r';show#[rfl,OldK.of_keep λb o e=>?_,os,h6];cases q:H b with
    |none=>show un.keep b o e q (by intro z;show absurd (show b∈([]:List Addr) from z) (by simp)) (by simp)
    |some u=>
     rcases hO b with z|⟨ob,xs,z⟩
     .rw[q]at z;cases z
     .let z2:=un.frzs b ob _ z;let#[e1,_]:=Y b _ z;let#[e2,_]:=O b _ z2;rw[e]at e1;cases e1;show e2
 cases hk:K.lookup a with
 |some o=>
  --the script is one of the module's own objects
  let e:=KX a o hk;rw[ha]at e;cases e;show I (λ_=>none) (λ_=>.inl rfl) (.inr #[_,vs.toArray,_,hk,rfl,rfl,rfl,by rw[qt,M];show hl,rv]) (λb u z=>by let z':(none:Option HO)=⇑u:=z;cases z') (λb z=>absurd rfl z) λz=>absurd rfl z
 |none=>
  show I (λb=>if b=a then ⇑(.frz {cls:=.type "list",data:=.seq vs.toArray} (.lst (ns.map V.int)))else none) (λb=>?_) (.inl (.inr #[{cls:=.type "list",data:=.seq vs.toArray},q8 rfl])) (λb u z=>?_) (λb z=>?_) λ_=>hk
  .grind
  .by_cases L:b=a
   .let z':=(q8 L).symm.trans z;cases z';subst L;show#[ha,by rw[qp];show hl,vs,_,rv,ha]
   grind
  grind
theorem walk_of{l:W.OpenLaw}{K:Params->W.Frag}{CX:World->cn}{sp:World->Sp}
  (hn:l.most=⇑n)(h1:n<=sizeLine)(h3:d.params.defaults=[])(hr:bQ k callerA)
  (hY:∀(w:World)(h:Heap),YP w h->(K w.params).In h)
  (F:∀(w:World)(mg:Str->Option Value)(M:Addr)(h:Heap),(K w.params).In h->h.Ns mainGlobals mg->mg d.name=⇑(.ref M)->
   ∃fd:FuncData,(∀(s:Shared)(u:Value),BindsTo s fd #[[u],[]] [(x,u)])/\
    ∀base:Heap,(K w.params).In base->base.Ns mainGlobals mg->cY l.prog w (K w.params) mg base (CX w) k M fd [x] (sp w))
  (O:∀(w:World)(H:Hp)(a:Addr)(L:List Int),L.length<=n->wY H->bB (K w.params) H a (L.map V.int)->sp w [.ref a] H (λv _=>v=.bl true) λ_ _ _=>False)
  (h4:∀(w:World)(H:Hp)(s:Shared)(e:Value)(s':Shared),CX w [] H s (λ_ _ _=>False) e s'->False):
  W.WalkO q loose XP YP l.row.toRowW d [] (λf vs=>PySem.call f vs):=by
 show Att.attach_call hn h3 λw h5 I mg mb M o pm cd h7 a vs L G Y ho hd h6 h2 J B i hg=>?_;let KX:=hY w _ Y;let#[fd,hb,hF]:=F w mg M _ KX G.T.g h2;show Rt KX G.T.g G.T.b G.T.builtins G.T.nolimit hg J B (le_trans i h1) hr hF hb (λH hO hS=>O w H a L i hO hS) λH e s'=>h4 w H I e s'
def dA(s:Stmt):Arguments:=match s with
 |.FunctionDef _ a _ _ _ _ _ _ _ _=>a
 |_=>{posonlyargs:=[],args:=[],vararg:=none,kwonlyargs:=[],kw_defaults:=[],kwarg:=none,defaults:=[]}
def bT(s:Stmt):List Stmt:=match s with
 |.FunctionDef _ _ b _ _ _ _ _ _ _=>b
 |_=>[]
def aB(s:Stmt):Scope:=match s with
 |.FunctionDef _ _ _ _ _ _ sc _ _ _=>sc
 |_=>{kind:=.function,names:=[],isGenerator:=false,isCoroutine:=false}
structure xC(K:W.Frag)(x qual:Str)(st:Stmt)(f:Addr)(fd:FuncData):Prop where
 ex:∃(oc:Value)(od:Option Addr)(kV doc pm:Value)(an:Option Addr)(cdv ct:Value)(osl:Array (Option Value)),
  fd=W.fnOf x qual (dA st) (bT st) (aB st) .none kV doc pm an cdv ct/\K.lookup f=⇑#[oc,od,.func fd,osl]/\W.codeIn K cdv qual=true
 kp:W.keepIn K (.ref f)=true
section
variable{K:W.Frag}
def xC.binds{st:Stmt}(F:xC K x qual st f fd)
  (h:∀(kV i B:Value)(G:Option Addr)(v ct:Value)(us:List Value),us.length=ps.length->bindArgs (W.fnOf x qual (dA st) (bT st) (aB st) .none kV i B G v ct) #[us,[]]=pure (ps.zip us)):Binds K fd ps []:=by
 let#[M,L,kV,i,B,G,v,ct,I,rfl,lk,J]:=F.ex;show .all (h kV i B G v ct)
def ME{st:Stmt}{kV v B i ct:Value}(l:K.lookup f=⇑#[J,I,.func (W.fnOf x qual (dA st) (bT st) (aB st) .none kV v B G i ct),F])
  (c:W.codeIn K i qual=true)(k:W.keepIn K (.ref f)=true):xC K x qual st f (W.fnOf x qual (dA st) (bT st) (aB st) .none kV v B G i ct):=#[#[J,I,kV,v,B,G,i,ct,F,rfl,l,c],k]
end
def Bb(i:bQ k A):A.units+1<cLine:=Nat.lt_of_le_of_lt (Nat.add_le_add_left (by decide:1<=64) _) i.units
def eT(H H':Hp):Prop:=∀b o,H b=⇑o->H' b=⇑o
def eT.refl(H:Hp):eT H H:=λ_ _ h=>h
def eT.trans(a:eT H H1)(b:eT H1 H2):eT H H2:=λc o h=>b c o (a c o h)
def xJ:HO->Bool
 |.dK _=>true
 |.dT _=>true
 |_=>false
@[inline]def Lc(o o':HO):Prop:=o'=o\/xJ o=true/\∃i,o'=.frz i o
def zF(H H':Hp):Prop:=∀b o,H b=⇑o->∃o',H' b=⇑o'/\Lc o o'
def zF.refl(H:Hp):zF H H:=λ_ o h=>#[o,h,.inl rfl]
def zF.of(h:eT H H'):zF H H':=λb o e=>#[o,h b o e,.inl rfl]
def zF.trans(a:zF H H1)(b:zF H1 H2):zF H H2:=λc o h=>by
 let#[F,J,G]:=a c o h;let#[B,I,i]:=b c F J;show#[B,I,?_];rcases G with rfl|⟨d,v,rfl⟩
 .show i
 .rcases i with rfl|⟨L,_⟩
  .show .inr #[d,v,rfl]
  .cases L
def zF.at(h:zF H H')(b:Addr)(o:HO)(e:H b=⇑o)(n:autoParam (xJ o=false) rZ9):H' b=⇑o:=by
 obtain⟨o',i,l|⟨d,_⟩⟩:=h b o e
 .rw[i,l]
 .rw[n]at d;cases d
def zF.rd(h:zF H H')(r:Rd H b o):Rd H' b o:=by
 rcases r with r|⟨u,r⟩
 .obtain⟨o',i,rfl|⟨d,v,rfl⟩⟩:=h b o r
  .show .inl i
  .show .inr #[v,i]
 .show .inr #[u,h.at _ _ r]
def zT.there(x:zT P w H h a o):∃u,h.get? a=⇑u:=by
 cases o with
 |lst xs=>let#[_,_,_,_,e]:=x;show#[_,e]
 |tup xs=>let#[_,_,_,u,e,_]:=x;show#[_,e]
 |dK i=>let#[_,_,_,_,o,_,_,e,_]:=x;show#[_,e]
 |dT i=>let#[_,_,_,_,o,_,_,e,_]:=x;show#[_,e]
 |set v=>
  rcases x with⟨_,⟨_,e⟩|⟨_,_,_,_,_,_,_,e,_⟩|⟨_,_,_,_,_,_,_,_,e,_⟩⟩
  .show#[_,e]
  .show#[_,e]
  .show#[_,e]
 |ins C dx fs=>let#[_,_,_,e,_]:=x;show#[_,e]
 |own y=>show x
 |xd fs=>let#[_,#[_,_,_,e,_],_]:=x;show#[_,e]
 |rng lo hi=>let#[_,_,_,e]:=x;show#[_,e]
 |frz B u=>show#[_,x.1]
 |tbl ps=>show#[_,(show h.get? a=⇑_ from x)]
 |met f y=>show#[_,(show h.get? a=⇑_ from x)]
 |ext φ=>show x.2.1
def xP(X:Cx)(zU:List (Addr×Obj))(H:Hp)(h:Heap)(e:Addr)(cls:Value)(dx:Option Addr):Prop:=False
def cO.few(f:cO X zU H b):cO X [] H b:=#[f.1,f.2.1,f.2.2.1,f.2.2.2.1,f.2.2.2.2.1,λp i=>f.2.2.2.2.2 p (qk _ ↑i)]
def xP.few(F:xP X zU H h e cls dx):xP X [] H h e cls dx:=(show False from F).elim
def Inv.few(I:Inv X zU Z H s):Inv X [] Z H s:=I.pins_of λp i=>I.pin p (qk _ ↑i)
def fV(P:Program)(w:World):cn:=λ_ _ _ _ _ _=>False
section
variable{K:W.Frag}
def PN(I:Inv (eX (fV P w) P w K mg base N qual scope f i A outer s H E) [] Z H' s')(F:xP (eX (fV P w) P w K mg base N qual scope f i A outer s H E) [] H' s'.heap e cls dx)(q:E cls dx H'):
  (eX (fV P w) P w K mg base N qual scope f i A outer s H E).xe (.ref e) s':=(show False from F).elim
end
@[inline]def XW(X:Cx)(Z:St):XK:=λcls dx H'=>∀(a:Addr)(s':Shared),Inv X [] Z H' s'->xP X [] H' s'.heap a cls dx->X.xe (.ref a) s'
def tM(X:Cx)(sp:Sp)(t:TA):TE:=λZ H Q=>t Z H λi H1=>sp i H1 Q (XW X Z)
def PR(F:cY X.prog X.w X.K X.mg X.base (fV X.prog X.w) k f fd ps sp)(Y:bQ k X.A)(hg:Gl X x)(hm:X.mg x=⇑(.ref f))(hk:W.keepIn X.K (.ref f)=true)(hb:Binds X.K fd ps [])
  (ha:PA X (e::es) t)(J:autoParam ((x==("__debug__":Str))=false) dZ9)(he:autoParam (starEach (e::es) X.env=(false,eval e X.env)::starEach es X.env) rZ9)(G:autoParam ((backTo pos (starEach es X.env)).any (·.1)=false) rZ9):
  PE X (.Call (.Name x p) (e::es) [] pos) (tM X sp t):=by
 intro zU s Z H Q I h;show wpAny_Call_Name_kw (Oa I hg hm ?_ J);show W.callWith_K (h₀:=X.base) I.ok.mod.kin hk (Ai (ha pos zU s Z H _ I h) λv L M=>?_) he G;let#[O,H1,B,r,q]:=M;show#[B.kIn,?_];let hl:(v++[]).length=ps.length:=by rw[qA,<-r.length];show F.len _ _ _ _ q
 show wpAny_call (codeAny_mono (F.run X.A X.stack L H1 #[v,[]] v O Q (XW X Z) Y B.env0 (by let:=hb L v B.kIn hl;rwa[qA]at this) r q) λr s' i=>?_);cases r with
 |error e=>show(show False from i).elim
 |ok fl=>
  cases fl with
  |ret u=>show B.after i
  |next=>show False.elim i
  |brk=>show False.elim i
  |cont=>show False.elim i
section
variable{K:W.Frag}
def xC.okX{st:Stmt}(F:xC K x qual st f fd)(S:aG N ps (aB st))(len:∀vs H Q E,sp vs H Q E->vs.length=ps.length)
  (B:∀(v:Value)(A:Around)(i:List Env)(s:Shared)(H:Hp)(vs:List V)(Q:VK)(E:XK),bQ k (A.deeper (envOfC qual (aB st) s.heap.objs.size f v))->sp vs H Q E->
   ∃t,iO (eX (fV P w) P w K mg base N qual (aB st) f v A i s H E) (bT st) t/\t {nx:=λ_ H'=>Q .non H',rt:=Q} (start N vs) H):cY P w K mg base (fV P w) (k+1) f fd ps sp:=by
 let#[oc,Y,kV,M,O,an,v,ct,J,rfl,lk,I]:=F.ex;show LQ lk I S len λA i s H vs Q E L G=>B v A i s H vs Q E L G
end
end L2
namespace FL
open PySem
inductive D where
 |non
 |bl(b:Bool)
 |int(i:Int)
 |str(l:List Nat)
 |tup(l:List D)
 |lst(l:List D)
 |dct(t:Bool)(ks vs:List D)
 |set(l:List D)
 |exc(c:List Nat)(fs:List (List Nat))(vs:List D)
 deriving Inhabited
inductive S where
 |sh(d:D)
 |lst(l:List S)
 |dct(t:Bool)(ks:List D)(vs:List S)
 |set(l:List D)
 deriving Inhabited
mutual
@[inline]def S.toD:S->D
 |.sh d=>d
 |.lst l=>.lst (S.toDs l)
 |.dct t ks vs=>.dct t ks (S.toDs vs)
 |.set l=>.set l
@[inline]def S.toDs:List S->List D
 |[]=>[]
 |s::r=>S.toD s::S.toDs r
end
@[simp] theorem S.toDs_map:∀l:List S,S.toDs l=l.map S.toD
  |[]=>rfl
  |s::r=>by rw[S.toDs,S.toDs_map r,qz]
@[simp] theorem S.toD_sh(d:D):(S.sh d).toD=d:=rfl
@[simp] theorem S.toD_lst(l:List S):(S.lst l).toD=.lst (l.map S.toD):=by rw[<-S.toDs_map];rfl
@[simp] theorem S.toD_dct(t:Bool)(ks:List D)(l:List S):(S.dct t ks l).toD=.dct t ks (l.map S.toD):=by rw[<-S.toDs_map];rfl
@[simp] theorem S.toD_set(l:List D):(S.set l).toD=.set l:=rfl
@[inline]def S.isSh:S->Bool
 |.sh _=>true
 |_=>false
@[inline]def S.flat:S->Bool
 |.sh _=>true
 |.lst l=>l.all S.isSh
 |.dct _ _ vs=>vs.all S.isSh
 |.set _=>false
inductive R where
 |v(s:S)
 |loc(i:Nat)
abbrev Env:=List (Option S)
abbrev WQ:=R->Env->Prop
abbrev WX:=D->Env->Prop
@[inline]def NX:WX:=λ_ _=>False
abbrev WE:=Env->WQ->WX->Prop
abbrev WT:=Env->(Bool->Env->Prop)->WX->Prop
abbrev WA:=Env->(List R->Env->Prop)->WX->Prop
structure Ends where
 nx:Env->Prop
 rt:WQ
 bk:Env->Prop
 ct:Env->Prop
 ex:WX
abbrev WS:=Ends->Env->Prop
def slot(U:Env)(i:Nat):Option S:=match U,i with
 |[],_=>none
 |s::_,0=>s
 |_::r,i+1=>slot r i
@[simp] theorem UX(s:Option S)(r:Env):slot (s::r) 0=s:=rfl
@[simp] theorem UY(s:Option S)(r:Env)(i:Nat):slot (s::r) (i+1)=slot r i:=rfl
def view(r:R)(U:Env):Option D:=match r with
 |.v s=>⇑s.toD
 |.loc i=>(slot U i).map S.toD
def zQ(r:R)(U:Env):Option D:=match r with
 |.v s=>⇑s.toD
 |.loc i=>match slot U i with
  |some s=>if s.flat then ⇑s.toD else none
  |none=>none
def give(r:R)(U:Env):Option (S×Env):=match r with
 |.v s=>⇑(s,U)
 |.loc i=>match slot U i with
  |some s=>⇑(.sh s.toD,U.set i ⇑(.sh s.toD))
  |none=>none
def aK:List R->Env->Option (List S×Env)
 |[],U=>⇑([],U)
 |r::rs,U=>match give r U with
  |some (s,U1)=>match aK rs U1 with
   |some (ss,U2)=>⇑(s::ss,U2)
   |none=>none
  |none=>none
def ixN(n:Nat)(i:Int):Option Nat:=if 0<=i then(if i<n then ⇑i.toNat else none)else if -(n:Int)<=i then ⇑(i+n).toNat else none
def atI{α:Type}(xs:List α)(i:Int):Option α:=(ixN xs.length i).bind λj=>xs[j]?
def sIx(n d:Nat):Option Int->Nat
 |none=>d
 |some i=>if i<0 then(i+n).toNat else min i.toNat n
def aL{α:Type}(xs:List α)(lo hi:Option Int):List α:=(xs.drop (sIx xs.length 0 lo)).take (sIx xs.length xs.length hi-sIx xs.length 0 lo)
def big:Nat:=1000000
def zz{α:Type}(o:Option α)(k:α->Prop):Prop:=match o with
 |some a=>k a
 |none=>False
@[simp] theorem Dw{α:Type}(a:α)(k:α->Prop):zz (some a) k=k a:=rfl
@[simp] theorem UZ{α:Type}(k:α->Prop):zz (none:Option α) k=False:=rfl
@[simp] theorem UW{α:Type}{c:Prop}[Decidable c](a:α)(k:α->Prop):zz (if c then some a else none) k=(c/\k a):=by by_cases h:c<;>simp[h]
def zv(i:Nat):WE:=λU Q _=>match slot U i with
 |some (.sh d)=>Q (.v (.sh d)) U
 |some _=>Q (.loc i) U
 |none=>False
def wC(d:D):WE:=λU Q _=>Q (.v (.sh d)) U
def zL(op:D->D->Option S)(a b:WE):WE:=λU Q E=>a U (λx v=>b v (λy i=>zz (zQ x i) λp=>zz (zQ y i) λq=>zz (op p q) λs=>Q (.v s) i) E) E
def aN:D->D->Option S
 |.int i,.int j=>⇑(.sh (.int (i+j)))
 |.str x,.str y=>if x.length+y.length<=big then ⇑(.sh (.str (x++y)))else none
 |.lst x,.lst y=>if x.length+y.length<=big then ⇑(.lst ((x++y).map .sh))else none
 |.tup x,.tup y=>if x.length+y.length<=big then ⇑(.sh (.tup (x++y)))else none
 |_,_=>none
def eV:D->D->Option S
 |.int i,.int j=>⇑(.sh (.int (i-j)))
 |_,_=>none
def jW(i j:Int):Bool:=(↥(-(2^64)<i)&&↥(i<2^64))||(↥(-(2^64)<j)&&↥(j<2^64))
def mH:D->D->Option S
 |.int i,.int j=>if jW i j then ⇑(.sh (.int (i*j)))else none
 |_,_=>none
def gB:D->D->Option S
 |.int i,.int j=>if 0<j/\j<18446744073709551616 then ⇑(.sh (.int (i/j)))else none
 |_,_=>none
def eB:D->D->Option S
 |.int i,.int j=>if 0<j then ⇑(.sh (.int (i %j)))else none
 |_,_=>none
def mG:D->D->Option S
 |.int i,.int j=>if 0<=j/\j<=1000/\i.natAbs<2^64 then ⇑(.sh (.int (i^j.toNat)))else none
 |_,_=>none
mutual
def aT:D->D->Bool
 |.tup l,.tup m=>bG l m
 |.lst l,.lst m=>bG l m
 |.int _,.int _=>false
 |.int _,.str _=>false
 |.int _,.non=>false
 |.str _,.int _=>false
 |.str _,.str _=>false
 |.str _,.non=>false
 |.str _,.bl _=>false
 |.bl _,.bl _=>false
 |.bl _,.str _=>false
 |.bl _,.non=>false
 |.non,.int _=>false
 |.non,.str _=>false
 |.non,.bl _=>false
 |.non,.non=>false
 |_,_=>true
def bG:List D->List D->Bool
 |a::l,b::m=>aT a b||bG l m
 |_,_=>false
end
mutual
def cZ:D->Nat
 |.tup l=>aW l+1
 |.lst l=>aW l+1
 |_=>0
def aW:List D->Nat
 |[]=>0
 |a::l=>max (cZ a) (aW l)
end
open Classical in
def eS(a b:D):Option Bool:=if aT a b||↥(30<cZ a)then none else ⇑↥(a=b)
def gX(a b:D):Option Bool:=(eS a b).map (!·)
def de:D->D->Option Bool
 |.int i,.int j=>⇑↥(i<j)
 |.str x,.str y=>⇑↥(x<y)
 |_,_=>none
def dm(a b:D):Option Bool:=de a b
def nV(a b:D):Option Bool:=de b a
def dn:D->D->Option Bool
 |.int i,.int j=>⇑↥(i<=j)
 |.str x,.str y=>⇑(!decide (y<x))
 |_,_=>none
def xK:D->D->Option Bool
 |.int i,.int j=>⇑↥(j<=i)
 |.str x,.str y=>⇑(!decide (x<y))
 |_,_=>none
def cJ:D->Bool
 |.int _=>true
 |.str _=>true
 |_=>false
def bN:Bool->D->Bool
 |true,.tup l=>l.all cJ
 |false,d=>cJ d
 |_,_=>false
open Classical in
def nU(a:D):D->Option Bool
 |.lst l=>if l.any (λx=>aT x a||↥(30<cZ x))then none else ⇑↥(a∈l)
 |.tup l=>if l.any (λx=>aT x a||↥(30<cZ x))then none else ⇑↥(a∈l)
 |.dct t ks _=>if bN t a then ⇑↥(a∈ks)else none
 |_=>none
open Classical in
def nS(a:D):D->Option Bool
 |.non=>⇑↥(a=.non)
 |.bl b=>⇑↥(a=.bl b)
 |_=>none
def cV(a b:D):Option Bool:=(nS a b).map (!·)
def eQ:D->Option Bool
 |.non=>⇑false
 |.bl b=>⇑b
 |.int i=>⇑↥(i≠0)
 |.str l=>⇑(!l.isEmpty)
 |.tup l=>⇑(!l.isEmpty)
 |.lst l=>⇑(!l.isEmpty)
 |_=>none
def aM(op:D->D->Option Bool)(a b:WE):WT:=λU Q E=>a U (λx v=>b v (λy i=>zz (view x i) λp=>zz (view y i) λq=>zz (op p q) λc=>Q c i) E) E
def fI(a:WE):WT:=λU Q E=>a U (λx i=>zz (view x i) λp=>zz (eQ p) λc=>Q c i) E
def dE(a b:WT):WT:=λU Q E=>a U (λc i=>if c then b i Q E else Q false i) E
def kU(a b:WT):WT:=λU Q E=>a U (λc i=>if c then Q true i else b i Q E) E
def jD(a:WT):WT:=λU Q E=>a U (λc i=>Q (!c) i) E
def iA(t:WT):WE:=λU Q E=>t U (λc i=>Q (.v (.sh (.bl c))) i) E
def iD(a b:WE):WE:=λU Q E=>a U (λx i=>match view x i with
 |some (.bl c)=>if c then b i Q E else Q (.v (.sh (.bl false))) i
 |_=>False) E
def lT(a:WE):WE:=λU Q E=>a U (λx i=>zz (view x i) λp=>zz (eQ p) λc=>Q (.v (.sh (.bl (!c)))) i) E
def zx:WA:=λU Q _=>Q [] U
def zw(a:WE)(b:WA):WA:=λU Q E=>a U (λr v=>b v (λB i=>Q (r::B) i) E) E
def bK(a:WA):WE:=λU Q E=>a U (λv i=>zz (if v.length<=big then aK v i else none) λp=>Q (.v (.sh (.tup (p.1.map S.toD)))) p.2) E
def cS(a:WA):WE:=λU Q E=>a U (λv i=>zz (if v.length<=big then aK v i else none) λp=>Q (.v (.lst p.1)) p.2) E
def gA(t:Bool):WE:=λU Q _=>Q (.v (.dct t [] [])) U
open Classical in
def lk{α:Type}:List D->List α->D->Option α
 |k'::ks,v::vs,k=>if k'=k then ⇑v else lk ks vs k
 |_,_,_=>none
def iI:S->D->Option S
 |.sh (.tup l),.int i=>(atI l i).map .sh
 |.sh (.lst l),.int i=>(atI l i).map .sh
 |.sh (.str l),.int i=>(atI l i).map λc=>.sh (.str [c])
 |.lst l,.int i=>atI l i
 |_,_=>none
def dB(a b:WE):WE:=λU Q E=>a U (λx B=>b B (λy v=>zz (view y v) λq=>match x with
 |.v s=>zz (iI s q) λt=>Q (.v t) v
 |.loc i=>match slot v i with
  |some s=>match iI s q with
   |some (.sh d)=>Q (.v (.sh d)) v
   |_=>False
  |none=>False) E) E
def eO(a:Option WE):Env->(Option Int->Env->Prop)->WX->Prop:=match a with
 |none=>λU Q _=>Q none U
 |some a=>λU Q E=>a U (λx v=>match view x v with
  |some (.int i)=>Q ⇑i v
  |_=>False) E
def iN(d:D)(lo hi:Option Int):Option S:=match d with
 |.str l=>⇑(.sh (.str (aL l lo hi)))
 |.tup l=>⇑(.sh (.tup (aL l lo hi)))
 |.lst l=>⇑(.lst ((aL l lo hi).map .sh))
 |_=>none
def fJ(a:WE)(lo hi:Option WE):WE:=λU Q E=>a U (λx B=>eO lo B (λl v=>eO hi v (λh i=>zz (zQ x i) λd=>zz (iN d l h) λs=>Q (.v s) i) E) E) E
abbrev WF:=List S->(S->List S->Prop)->(D->List S->Prop)->Prop
def bW:List Bool->List R->Env->Option (List S×Env)
 |_,[],U=>⇑([],U)
 |ms,.v s::rs,U=>match bW ms.tail rs U with
  |some (ss,U1)=>⇑(s::ss,U1)
  |none=>none
 |ms,.loc i::rs,U=>match slot U i with
  |some s=>if ms.headD false then(match bW ms.tail rs (U.set i none)with
   |some (ss,U1)=>⇑(s::ss,U1)
   |none=>none)
   else(match bW ms.tail rs (U.set i ⇑(.sh s.toD))with
    |some (ss,U1)=>⇑(.sh s.toD::ss,U1)
    |none=>none)
  |none=>none
def back:List Bool->List R->List S->Env->Env
 |ms,.v _::rs,_::ss,U=>back ms.tail rs ss U
 |ms,.loc i::rs,s::ss,U=>if ms.headD false then back ms.tail rs ss (U.set i ⇑s)else back ms.tail rs ss U
 |_,_,_,U=>U
def zN(f:WF)(ms:List Bool)(a:WA):WE:=λU Q E=>a U (λB i=>zz (bW ms B i) λp=>f p.1 (λs v=>Q (.v s) (back ms B v p.2)) (λx v=>E x (back ms B v p.2))) E
def wB(f:List D->Option S)(a:WA):WE:=λU Q E=>a U (λv i=>zz (v.mapM λr=>zQ r i) λB=>zz (f B) λs=>Q (.v s) i) E
def bM(j:Nat)(e:WE):WE:=λU Q E=>match slot U j with
 |some (.lst _)=>e U (λr i=>zz (give r i) λp=>match slot p.2 j with
  |some (.lst l)=>l.length<big/\Q (.v (.sh .non)) (p.2.set j ⇑(.lst (l++[p.1])))
  |_=>False) E
 |_=>False
def aR:List D->Option S
 |[.str l]=>⇑(.sh (.int l.length))
 |[.tup l]=>⇑(.sh (.int l.length))
 |[.lst l]=>⇑(.sh (.int l.length))
 |_=>none
def kZ:List D->Option S
 |[.int i]=>⇑(.sh (.int i))
 |[.bl b]=>⇑(.sh (.int (if b then 1 else 0)))
 |_=>none
def dQ:List D->Option S
 |[.tup l]=>⇑(.sh (.tup l))
 |[.lst l]=>⇑(.sh (.tup l))
 |_=>none
def aw:List D->Option S
 |[.tup l]=>⇑(.lst (l.map .sh))
 |[.lst l]=>⇑(.lst (l.map .sh))
 |_=>none
def rG:List D->Option S
 |[.int i,.int j]=>⇑(.sh (.int (if j>i then j else i)))
 |_=>none
def rF:List D->Option S
 |[.int i,.int j]=>⇑(.sh (.int (if j<i then j else i)))
 |_=>none
def aS:WS:=λD U=>D.nx U
def zM(a b:WS):WS:=λD U=>a {D with nx:=b D} U
def dU(c:WT)(a b:WS):WS:=λD U=>c U (λk i=>if k then a D i else b D i) D.ex
def bL(a:WE):WS:=λD U=>a U D.rt D.ex
def wExpr(a:WE):WS:=λD U=>a U (λ_ i=>D.nx i) D.ex
abbrev WG:=S->Env->(Env->Prop)->Prop
def zy(i:Nat):WG:=λs U Q=>Q (U.set i ⇑s)
def dH:List WG->List D->Env->(Env->Prop)->Prop
 |[],[],U,Q=>Q U
 |g::gs,d::ds,U,Q=>g (.sh d) U λi=>dH gs ds i Q
 |_,_,_,_=>False
def bP(i:List WG):WG:=λs U Q=>match s.toD with
 |.tup ds=>ds.length=i.length/\dH i ds U Q
 |_=>False
def fK(j:Nat)(i e:WE):WS:=λD U=>e U (λr F=>zv j F (λx B=>i B (λy v=>zz (view y v) λq=>zz (give r v) λp=>match x,q,slot p.2 j with
 |.loc k,.int n,some (.lst l)=>k=j/\zz (ixN l.length n) λm=>D.nx (p.2.set j ⇑(.lst (l.set m p.1)))
 |_,_,_=>False) D.ex) D.ex) D.ex
def zO(g:WG)(a:WE):WS:=λD U=>a U (λr i=>zz (give r i) λp=>g p.1 p.2 D.nx) D.ex
abbrev WI:=Env->(List D->Env->Prop)->WX->Prop
def items:D->Option (List D)
 |.lst l=>⇑l
 |.tup l=>⇑l
 |.str l=>⇑(l.map λc=>.str [c])
 |_=>none
def cQ(a:WE):WI:=λU Q E=>a U (λr i=>zz (give r i) λp=>zz (items p.1.toD) λl=>Q l p.2) E
def fromTo(lo:Int)(n:Nat):List D:=(List.range n).map λ(k:Nat)=>.int (lo+(k:Int))
def bA(a:WE):WI:=λU Q E=>a U (λr i=>match view r i with
 |some (.int j)=>(-big<=j/\j<=big)/\Q (fromTo 0 j.toNat) i
 |_=>False) E
def gN(a b:WE):WI:=λU Q E=>a U (λr B=>b B (λt v=>match view r v,view t v with
 |some (.int i),some (.int j)=>(-big<=i/\i<=big/\-big<=j/\j<=big)/\Q (fromTo i (j-i).toNat) v
 |_,_=>False) E) E
def cK(g:WG)(i:WS):List D->WS
 |[],D,U=>D.nx U
 |x::xs,D,U=>g (.sh x) U λv=>i {D with nx:=cK g i xs D,ct:=cK g i xs D,bk:=D.nx} v
def dM(it:WI)(g:WG)(i:WS):WS:=λD U=>it U (λl v=>cK g i l D v) D.ex
def fH(c:WT)(B:WS):WS:=λD U=>∃J:Nat->Env->Prop,(∃m,J m U)/\∀m U,J m U->c U (λk v=>if k then
 B {D with nx:=λi=>∃m',m'<m/\J m' i,ct:=λi=>∃m',m'<m/\J m' i,bk:=D.nx} v else D.nx v) D.ex
abbrev WB:=Env->(Env->Prop)->WX->Prop
def dJ:WT:=λU Q _=>Q true U
def aP(g:WG)(c:WT)(b:WB):List D->WB
 |[],U,Q,_=>Q U
 |x::xs,U,Q,E=>g (.sh x) U λB=>c B (λk i=>if k then b i (λv=>aP g c b xs v Q E) E else aP g c b xs i Q E) E
def rH(it:WI)(g:WG)(c:WT)(b:WB):WB:=λU Q E=>it U (λl i=>aP g c b l i Q E) E
def bI(n:Nat)(a:WE):WB:=λU Q E=>a U (λr i=>zz (give r i) λp=>match slot p.2 n with
 |some (.lst l)=>l.length<big/\Q (p.2.set n ⇑(.lst (l++[p.1])))
 |_=>False) E
def iB(n k:Nat)(it:WI)(g:WG)(c:WT)(b:WB):WE:=λU Q E=>it U (λl v=>aP g c b l (v++⇑(.lst [])::List.replicate k none) (λi=>zz (slot i n) λs=>Q (.v s) (i.take n)) NX) E
def aC:List S->Env->Option (List S)
 |[],_=>⇑[]
 |.sh d::ss,_::U=>(aC ss U).map (.sh d::·)
 |_::ss,some s::U=>(aC ss U).map (s::·)
 |_,_=>none
def fY(n m:Nat)(ks:List Nat)(B:WS):WF:=λv P PX=>v.length=n/\(∀i s,v[i]?=⇑s->i∈ks\/s.isSh=true)/\
 B {nx:=λU=>zz (aC v U) λfs=>P (.sh .non) fs
    rt:=λr U=>match r with
     |.v s=>zz (aC v U) λfs=>P s fs
     |.loc i=>zz (slot U i) λs=>if i<n then zz (aC v (U.set i ⇑(.sh s.toD))) λfs=>P (.sh s.toD) fs else zz (aC v U) λfs=>P s fs
    bk:=λ_=>False
    ct:=λ_=>False
    ex:=λx U=>zz (aC v U) λfs=>PX x fs} (v.map some++List.replicate (m-n) none)
end FL
namespace FL
open PySem L2
def aH:bD->D
 |.inl i=>.int i
 |.inr x=>.str x.cps.toList
def jz(a C:Addr)(dx:Option Addr)(h:Heap):Prop:=∃o vs,h.get? a=⇑o/\o.cls=.ref C/\o.dict=dx/\o.data=.fields vs
def bR:HO->Bool
 |.tup _=>false
 |_=>true
def nH(F:Hp)(dx:Option Addr)(fs:List (List Nat))(vs:List D):Prop:=(dx=none/\fs=[]/\vs=[])\/∃p f i,dx=⇑p/\fs=[f]/\vs=[.int i]/\F p=⇑(.xd [((#[f.toArray]:Str),.int i)])
mutual
inductive aI(K:W.Frag)(F:Hp):V->D->Prop
 |non:aI K F .non .non
 |bl (b:Bool):aI K F (.bl b) (.bl b)
 |int (i:Int):aI K F (.int i) (.int i)
 |str {x:Str} {l:List Nat}:x.cps.toList=l->l.length<=16777216->aI K F (.str x) (.str l)
 |tup {a:Addr} {xs:List V} {ds:List D}:F a=some (.tup xs)->zS K F xs ds->aI K F (.ref a) (.tup ds)
 |lst {a:Addr} {xs:List V} {ds:List D}:bB K F a xs->zS K F xs ds->aI K F (.ref a) (.lst ds)
 |dK {a:Addr} {zV:List (bD×V)} {ks vs:List D}:Rd F a (.dK zV)->ks=zV.map (λp=>aH p.1)->zS K F (zV.map (·.2)) vs->aI K F (.ref a) (.dct false ks vs)
 |dT {a:Addr} {zV:List (List bD×V)} {ks vs:List D}:Rd F a (.dT zV)->ks=zV.map (λp=>D.tup (p.1.map aH))->zS K F (zV.map (·.2)) vs->aI K F (.ref a) (.dct true ks vs)
 |st {a:Addr} {xs:List V} {ds:List D}:F a=some (.set xs)->zS K F xs ds->aI K F (.ref a) (.set ds)
 |exc {a C:Addr} {dx:Option Addr} {c:List Nat} {fs:List (List Nat)} {vs:List D}:F a=some (.ext (jz a C dx))->W.nsIn K mainGlobals (⟨c.toArray⟩:Str)=some (some (.ref C))->nH F dx fs vs->aI K F (.ref a) (.exc c fs vs)
inductive zS(K:W.Frag)(F:Hp):List V->List D->Prop
 |nil:zS K F [] []
 |cons {x:V} {d:D} {xs:List V} {ds:List D}:aI K F x d->zS K F xs ds->zS K F (x::xs) (d::ds)
end
mutual
inductive aF(K:W.Frag)(F H:Hp):V->S->List Addr->Prop
 |sh {v:V} {d:D}:aI K F v d->aF K F H v (.sh d) []
 |lst {a:Addr} {xs:List V} {l:List S} {fp:List Addr}:H a=some (.lst xs)->zI K F H xs l fp->aF K F H (.ref a) (.lst l) (a::fp)
 |dK {a:Addr} {zV:List (bD×V)} {ks:List D} {l:List S} {fp:List Addr}:H a=some (.dK zV)->ks=zV.map (λp=>aH p.1)->zI K F H (zV.map (·.2)) l fp->aF K F H (.ref a) (.dct false ks l) (a::fp)
 |dT {a:Addr} {zV:List (List bD×V)} {ks:List D} {l:List S} {fp:List Addr}:H a=some (.dT zV)->ks=zV.map (λp=>D.tup (p.1.map aH))->zI K F H (zV.map (·.2)) l fp->aF K F H (.ref a) (.dct true ks l) (a::fp)
 |st {a:Addr} {xs:List V} {ds:List D}:H a=some (.set xs)->zS K F xs ds->aF K F H (.ref a) (.set ds) [a]
inductive zI(K:W.Frag)(F H:Hp):List V->List S->List Addr->Prop
 |nil:zI K F H [] [] []
 |cons {x:V} {s:S} {xs:List V} {l:List S} {fp fq:List Addr}:aF K F H x s fp->zI K F H xs l fq->zI K F H (x::xs) (s::l) (fp++fq)
end
def Rd.mono(h:zF F F')(r:Rd F a u):Rd F' a u:=h.rd r
def bB.mono(h:zF F F')(r:bB K F a xs):bB K F' a xs:=r.elim (λr=>.inl (Rd.mono h r)) .inr
def aZ.mono(h:zF F F')(r:aZ K F a xs):aZ K F' a xs:=r.elim (λr=>.inl (Rd.mono h r)) .inr
def zS.ind{P:List V->List D->Prop}(hn:P [] [])(v:∀{x:V}{d:D}{xs:List V}{ds:List D},aI K F x d->zS K F xs ds->P xs ds->P (x::xs) (d::ds))(r:zS K F xs ds):P xs ds:=
 zS.rec (motive_1:=λ_ _ _=>True) (motive_2:=λxs ds _=>P xs ds) trivial (λ_=>trivial) (λ_=>trivial) (λ_ _=>trivial) (λ_ _ _=>trivial) (λ_ _ _=>trivial) (λ_ _ _ _=>trivial) (λ_ _ _ _=>trivial) (λ_ _ _=>trivial) (λ_ _ _=>trivial) hn (λa b _ i=>v a b i) r
def zI.ind{P:List V->List S->List Addr->Prop}(hn:P [] [] [])(v:∀{x:V}{s:S}{xs:List V}{l:List S}{fp fq:List Addr},aF K F H x s fp->zI K F H xs l fq->P xs l fq->P (x::xs) (s::l) (fp++fq))(r:zI K F H xs l fp):P xs l fp:=
 zI.rec (motive_1:=λ_ _ _ _=>True) (motive_2:=λxs l fp _=>P xs l fp) (λ_=>trivial) (λ_ _ _=>trivial) (λ_ _ _ _=>trivial) (λ_ _ _ _=>trivial) (λ_ _=>trivial) hn (λa b _ i=>v a b i) r
def nH.mono(h:zF F F')(x:nH F dx fs vs):nH F' dx fs vs:=x.imp id λ⟨p,f,i,I,G,B,v⟩=>#[p,f,i,I,G,B,h.at _ _ v]
def aI.mono(h:zF F F')(r:aI K F v d):aI K F' v d:=
 aI.rec (motive_1:=λv d _=>aI K F' v d) (motive_2:=λv d _=>zS K F' v d) .non .bl .int (λe z=>.str e z) (λe _ i=>.tup (h.at _ _ e) i) (λe _ i=>.lst (bB.mono h e) i) (λe k _ i=>.dK (Rd.mono h e) k i) (λe k _ i=>.dT (Rd.mono h e) k i) (λe _ i=>.st (h.at _ _ e) i) (λe k x=>.exc (h.at _ _ e) k (x.mono h)) .nil (λ_ _ a b=>.cons a b) r
def zS.mono(h:zF F F')(r:zS K F v d):zS K F' v d:=zS.ind .nil (λa _ i=>.cons (aI.mono h a) i) r
def aF.mono(h:zF F F')(r:aF K F H v s fp):(∀a∈fp,H' a=H a)->aF K F' H' v s fp:=
 aF.rec (motive_1:=λv s fp _=>(∀a∈fp,H' a=H a)->aF K F' H' v s fp) (motive_2:=λv s fp _=>(∀a∈fp,H' a=H a)->zI K F' H' v s fp)
  (λr _=>.sh (aI.mono h r)) (λe _ i k=>.lst ((k _ qo).trans e) (i λa B=>k a (qm _ B)))
  (λe q _ i k=>.dK ((k _ qo).trans e) q (i λa B=>k a (qm _ B))) (λe q _ i k=>.dT ((k _ qo).trans e) q (i λa B=>k a (qm _ B)))
  (λe r k=>.st ((k _ qo).trans e) (zS.mono h r)) (λ_=>.nil) (λ_ _ a b k=>.cons (a λc G=>k c (qk _ G)) (b λc G=>k c (qj _ G))) r
def zI.mono(h:zF F F')(r:zI K F H v s fp):(∀a∈fp,H' a=H a)->zI K F' H' v s fp:=
 zI.ind (P:=λv s fp=>(∀a∈fp,H' a=H a)->zI K F' H' v s fp) (λ_=>.nil) (λa _ b k=>.cons (aF.mono h a λc i=>k c (qk _ i)) (b λc i=>k c (qj _ i))) r
def aF.frz(h:zF F F')(r:aF K F H v s fp):(∀a∈fp,F' a=H a)->aI K F' v s.toD:=
 aF.rec (motive_1:=λv s fp _=>(∀a∈fp,F' a=H a)->aI K F' v s.toD) (motive_2:=λv s fp _=>(∀a∈fp,F' a=H a)->zS K F' v (S.toDs s))
  (λr _=>aI.mono h r) (λe _ i k=>.lst (bB.of ((k _ qo).trans e)) (i λa B=>k a (qm _ B)))
  (λe q _ i k=>.dK (.of ((k _ qo).trans e)) q (i λa B=>k a (qm _ B))) (λe q _ i k=>.dT (.of ((k _ qo).trans e)) q (i λa B=>k a (qm _ B)))
  (λe r k=>.st ((k _ qo).trans e) (zS.mono h r)) (λ_=>.nil) (λ_ _ a b k=>.cons (a λc G=>k c (qk _ G)) (b λc G=>k c (qj _ G))) r
def zI.frz(h:zF F F')(r:zI K F H v s fp):(∀a∈fp,F' a=H a)->zS K F' v (S.toDs s):=
 zI.ind (P:=λv s fp=>(∀a∈fp,F' a=H a)->zS K F' v (S.toDs s)) (λ_=>.nil) (λa _ b k=>.cons (aF.frz h a λc i=>k c (qk _ i)) (b λc i=>k c (qj _ i))) r
def aF.view(h:zF F H)(r:aF K F H v s fp):aI K H v s.toD:=aF.frz h r λ_ _=>rfl
def aF.in_:∀{v:V}{s:S}{fp:List Addr},aF K F H v s fp->∀a∈fp,∃o,H a=⇑o/\bR o=true:=by
 intro v s fp r;show aF.rec (motive_1:=λv s fp _=>∀a∈fp,∃o,H a=⇑o/\bR o=true) (motive_2:=λv s fp _=>∀a∈fp,∃o,H a=⇑o/\bR o=true) ?_ ?_ ?_ ?_ ?_ ?_ ?_ r
 .intro v d r a i;cases i
 .grind[bR]
 .grind[bR]
 .grind[bR]
 .grind[bR]
 .intro a i;cases i
 grind
inductive zH(K:W.Frag)(F H:Hp):Env->St->List Addr->Prop
 |nil:zH K F H [] [] []
 |no {U:Env} {Z:St} {o:Option V} {fp:List Addr}:zH K F H U Z fp->zH K F H (none::U) (o::Z) fp
 |so {U:Env} {Z:St} {v:V} {s:S} {fp fq:List Addr}:aF K F H v s fp->zH K F H U Z fq->zH K F H (some s::U) (some v::Z) (fp++fq)
def zH.len(r:zH K F H U Z fp):U.length=Z.length:=by
 induction r with
 |nil=>rfl
 |no _ i=>show congrArg (·+1) i
 |so _ _ i=>show congrArg (·+1) i
def zH.mono(h:zF F F')(r:zH K F H U Z fp)(k:∀a∈fp,H' a=H a):zH K F' H' U Z fp:=by
 induction r with
 |nil=>show .nil
 |no _ i=>show .no (i k)
 |so a _ i=>show .so (aF.mono h a λc v=>k c (qk _ v)) (i λc v=>k c (qj _ v))
def zH.in_(r:zH K F H U Z fp):∀a∈fp,∃o,H a=⇑o/\bR o=true:=by
 induction r with
 |nil=>show λa v=>nomatch v
 |no _ i=>show i
 |so q _ i=>show λa v=>(qy.mp v).elim (λz=>aF.in_ q a z) λz=>i a z
def zH.app(r:zH K F H U Z fp)(v:zH K F H U' Z' fq):zH K F H (U++U') (Z++Z') (fp++fq):=by
 induction r with
 |nil=>show v
 |no _ i=>show .no i
 |so a _ i=>rw[qq];show .so a i
inductive cj(K:W.Frag)(F H:Hp)(U:Env)(Z:St)(U':Env)(Z':St)(fp:List Addr):Prop
 |mk (f1 f2:List Addr):fp=f1++f2->zH K F H U Z f1->zH K F H U' Z' f2->cj K F H U Z U' Z' fp
def zH.cut(e:U.length=Z.length)(r:zH K F H (U++U') (Z++Z') fp):cj K F H U Z U' Z' fp:=by
 induction U generalizing Z fp with
 |nil=>cases Z with
  |nil=>show#[[],fp,rfl,.nil,r]
  |cons _ _=>show absurd e.symm (Nat.succ_ne_zero _)
 |cons x U v=>cases Z with
  |nil=>show absurd e (Nat.succ_ne_zero _)
  |cons y Z=>cases r with
   |no r=>let#[B,i,rfl,a,b]:=v (Nat.succ.inj e) r;show#[B,i,rfl,.no a,b]
   |so q r=>let#[B,i,rfl,a,b]:=v (Nat.succ.inj e) r;show#[_,i,(qq ..).symm,.so q a,b]
def mq(K:W.Frag)(F H:Hp)(U:Env)(Z:St)(i:Nat)(B v:List Addr):Prop:=∀{F' H':Hp}{o:Option S}{u:Option V}{fi':List Addr},zF F F'->(∀a∈B++v,H' a=H a)->(zH K F' H' [o] [u] fi')->zH K F' H' (U.set i o) (Z.set i u) (B++(fi'++v))
inductive mr(K:W.Frag)(F H:Hp)(U:Env)(Z:St)(fp:List Addr)(i:Nat)(s:S):Prop
 |mk (v:V) (fa fi fb:List Addr):Z[i]?=some (some v)->fp=fa++(fi++fb)->aF K F H v s fi->mq K F H U Z i fa fb->mr K F H U Z fp i s
inductive cg(K:W.Frag)(F H:Hp)(U:Env)(Z:St)(fp:List Addr)(i:Nat):Prop
 |mk (fa fi fb:List Addr):fp=fa++(fi++fb)->mq K F H U Z i fa fb->cg K F H U Z fp i
def zH.at:∀{U:Env}{Z:St}{fp:List Addr}{i:Nat}{s:S},zH K F H U Z fp->slot U i=⇑s->mr K F H U Z fp i s
 |_,_,_,_,_,.nil,e=>by simp[slot]at e
 |_,_,_,0,_,.no r,e=>by simp at e
 |_,_,_,0,s,.so (fp:=fp) (fq:=fq) q r,e=>by simp at e;subst e;show#[_,[],fp,fq,rfl,rfl,q,λ{F' H' o u I} h k x=>?_];let Y:=zH.mono (H':=H') h r λa B=>k a B;show x.app Y
 |_,_,_,i+1,s,.no r,e=>by let#[v,M,J,L,O,rfl,q,G]:=zH.at r e;show#[v,M,J,L,O,rfl,q,λh k x=>.no (G h k x)]
 |_,_,_,i+1,s,.so (fp:=fp) (fq:=fq) p r,e=>by let#[v,M,J,L,O,rfl,q,G]:=zH.at r e;show#[v,fp++M,J,L,O,(qq ..).symm,q,λ{F' H' o u I} h k x=>?_];rw[qq];show .so (aF.mono h p λa B=>k a (qk _ (qk _ B))) (G h (λa B=>k a ((qy.mp B).elim (λz=>qk _ (qj _ z)) λz=>qj _ z)) x)
def zH.put:∀{U:Env}{Z:St}{fp:List Addr}{i:Nat},zH K F H U Z fp->i<U.length->cg K F H U Z fp i
 |_,_,_,_,.nil,e=>by simp at e
 |_,_,fp,0,.no r,e=>#[[],[],fp,rfl,λ{M H' o u B} h k x=>x.app (zH.mono (H':=H') h r λa v=>k a v)]
 |_,_,_,0,.so (fp:=fp) (fq:=fq) q r,e=>#[[],fp,fq,rfl,λ{M H' o u B} h k x=>x.app (zH.mono (H':=H') h r λa v=>k a v)]
 |_,_,_,i+1,.no r,e=>by let#[L,I,J,rfl,G]:=zH.put (i:=i) r ↑e;show#[L,I,J,rfl,λh k x=>.no (G h k x)]
 |_,_,_,i+1,.so (fp:=fp) (fq:=fq) p r,e=>by let#[L,I,J,rfl,G]:=zH.put (i:=i) r ↑e;show#[fp++L,I,J,(qq ..).symm,λ{M H' o u B} h k x=>?_];rw[qq];show .so (aF.mono h p λa v=>k a (qk _ (qk _ v))) (G h (λa v=>k a ((qy.mp v).elim (λz=>qk _ (qj _ z)) λz=>qj _ z)) x)
inductive ml(K:W.Frag)(U:Env)(Z:St)(F G H:Hp):Prop
 |mk (fp:List Addr):zH K F H U Z fp->fp.Nodup->(∀a∈fp,F a=none/\G a=none)->ml K U Z F G H
structure Rel(K:W.Frag)(U:Env)(Z:St)(F G H:Hp):Prop where
 fr:zF F H
 gr:∀a o,G a=⇑o->(H a=⇑o/\bR o=true)/\F a=none
 en:ml K U Z F G H
def Rel.len(r:Rel K U Z F G H):U.length=Z.length:=let⟨_,e,_,_⟩:=r.en;e.len
def Rel.free(r:Rel K U Z F G H)(h:H p=none):F p=none/\G p=none/\∀fp,zH K F H U Z fp->p∉fp:=by
 show#[?_,?_,λfp e i=>?_]
 .cases q:F p with
  |none=>rfl
  |some o=>let#[_,z,_]:=r.fr p o q;rw[z]at h;cases h
 .cases q:G p with
  |none=>rfl
  |some o=>rw[(r.gr p o q).1.1]at h;cases h
 .obtain⟨o,q,_⟩:=e.in_ p i;rw[h]at q;cases q
def zF.upd(h:F p=none):zF F (upd F p o):=.of λb u e=>by rw[Ae (λz=>by rw[z,h]at e;cases e)];show e
def zF.upd2(h:zF F H):zF (L2.upd F p o) (L2.upd H p o):=λb u e=>by
 by_cases q:b=p
 .subst q;rw[Aw]at e⊢;show#[u,e,.inl rfl]
 .rw[Ae q]at e⊢;show h b u e
def zF.updR(h:zF F H)(n:F p=none):zF F (L2.upd H p o):=λb u e=>by rw[Ae (λz=>by rw[z,n]at e;cases e)];show h b u e
def Rel.newF(r:Rel K U Z F G H)(h:H p=none):Rel K U Z (upd F p o) G (upd H p o):=by
 let#[M,L,J]:=r.free h;let#[fp,e,I,O]:=r.en;let v:∀a∈fp,a≠p:=λa i z=>J fp e (z▸i);show#[zF.upd2 r.fr,λa u q=>?_,fp,e.mono (zF.upd M) λa i=>Ae (v a i),I,λa i=>?_]
 .let B:a≠p:=λz=>by rw[z,L]at q;cases q
  rw[Ae B,Ae B];show r.gr a u q
 .rw[Ae (v a i)];show O a i
def Rel.newO(r:Rel K U Z F G H)(h:H p=none)(q:aF K F (upd H p o) (.ref p) s [p]):Rel K (U++[⇑s]) (Z++[⇑(.ref p)]) F G (upd H p o):=by
 let#[L,J,B]:=r.free h;let#[fp,e,M,O]:=r.en;let v:∀a∈fp,a≠p:=λa i z=>B fp e (z▸i);show#[zF.updR r.fr L,λa u q=>?_,fp++([p]++[]),(e.mono (zF.refl F) λa i=>Ae (v a i)).app (.so q .nil),?_,λa i=>?_]
 .let I:a≠p:=λz=>by rw[z,J]at q;cases q
  rw[Ae I];show r.gr a u q
 .grind
 grind
def Rel.drop(r:Rel K (U++U') (Z++Z') F G H)(h:U.length=Z.length):Rel K U Z F G H:=by let#[J,e,i,I]:=r.en;let#[B,L,rfl,a,b]:=e.cut h;show#[r.fr,r.gr,B,a,(qx.mp i).1,λc v=>I c (qk _ v)]
def Rel.hide(r:Rel K (U++U') (Z++Z') F G H)(h:U.length=Z.length):∃L,Rel K U Z F L H/\eT G L/\
  ∀{U2:Env}{Z2:St}{I H2:Hp},zF F I->Rel K U2 Z2 I L H2->Rel K (U2++U') (Z2++Z') I G H2:=by
 classical
 let#[fp,e,Y,ap]:=r.en;let#[f1,B,rfl,a,b]:=e.cut h;let#[n1,n2,h1]:=qx.mp Y;show#[λx=>if x∈B then H x else G x,#[r.fr,λx o q=>?_,f1,a,n1,λx i=>?_],λx o q=>?_,λ{U2 Z2 I H2} M J=>?_]
 .by_cases z:x∈B
  .let:=b.in_ x z;grind
  .simp only[z]at q;show r.gr x o q
 .grind
 .grind
 .obtain⟨v,e2,O,h2⟩:=J.en;let hk:∀x∈B,H2 x=H x/\I x=none/\x∉v:=λx i=>by let#[o,q,_]:=b.in_ x i;let w:=J.gr x o (by simp only[i];show q);grind
  show#[J.fr,λx o q=>?_,v++B,e2.app (b.mono M λx i=>(hk x i).1),?_,λx i=>?_]
  .let z:x∉B:=λz=>by grind
   show J.gr x o (by simp only[z];show q)
  .grind
  grind
def Rel.weakG(r:Rel K U Z F G' H)(h:eT G G'):Rel K U Z F G H:=by
 let#[I,e,B,v]:=r.en;show#[r.fr,λa o q=>r.gr a o (h a o q),I,e,B,λa i=>#[(v a i).1,?_]];cases q:G a with
 |none=>rfl
 |some o=>have:=(v a i).2;rw[h a o q]at this;cases this
def Rel.swap(h:U.length=Z.length)(h1:U1.length=Z1.length)(r:Rel K (U++(U1++U2)) (Z++(Z1++Z2)) F G H):Rel K (U++(U2++U1)) (Z++(Z2++Z1)) F G H:=by let#[Y,e,I,O]:=r.en;let#[B,L,rfl,a,b]:=e.cut h;let#[v,i,rfl,M,c]:=b.cut h1;let p:(B++(i++v)).Perm (B++(v++i)):=List.Perm.append_left _ qO;show#[r.fr,r.gr,_,a.app (c.app M),p.nodup_iff.mpr I,λx J=>O x (p.mem_iff.mp J)]
def Rel.push(r:Rel K U Z F G H)(h:aI K F v d):Rel K (U++[⇑(.sh d)]) (Z++[⇑v]) F G H:=by
 let#[I,e,i,J]:=r.en;show#[r.fr,r.gr,I++([]++[]),e.app (.so (.sh h) .nil),?_,λx B=>J x ?_]
 .simpa using i
 .simpa using B
def Rel.pushN(r:Rel K U Z F G H):Rel K (U++[none]) (Z++[u]) F G H:=by
 let#[B,e,i,I]:=r.en;show#[r.fr,r.gr,B++[],e.app (.no .nil),?_,λx v=>I x ?_]
 .simpa using i
 .simpa using v
def Hh(h:slot U i=⇑s):U[i]?=⇑⇑s:=by
 induction U generalizing i with
 |nil=>simp[slot]at h
 |cons a r v=>cases i with
  |zero=>simp at h;simp[h]
  |succ i=>simp at h;simpa using v h
def BY(h:slot U i=⇑s):i<U.length:=(qh.mp (Hh h)).1
def CU(h:i<U.length):slot (U++U') i=slot U i:=by
 induction U generalizing i with
 |nil=>simp at h
 |cons a r v=>cases i with
  |zero=>rfl
  |succ i=>simpa using v ↑h
def Cy:slot (U++o::U') U.length=o:=by
 induction U with
 |nil=>rfl
 |cons a r i=>simpa using i
inductive mj(K:W.Frag)(F H:Hp)(Z:St)(i:Nat)(s:S):Prop
 |mk (v:V) (fp:List Addr):Z[i]?=some (some v)->aF K F H v s fp->mj K F H Z i s
def Rel.at(r:Rel K U Z F G H)(h:slot U i=⇑s):mj K F H Z i s:=by let#[L,e,J,Y]:=r.en;let#[v,O,B,M,I,_,q,_]:=e.at h;show#[v,B,I,q]
def Rel.give(r:Rel K U Z F G H)(h:slot U i=⇑s):∃v F',Z[i]?=⇑⇑v/\zF F F'/\aI K F' v s.toD/\Rel K (U.set i ⇑(.sh s.toD)) Z F' G H:=by
 classical
 let#[fp,e,Y,ap]:=r.en;let#[v,fa,B,fb,e1,rfl,q,M]:=e.at h;let#[na,O,h1]:=qx.mp Y;let I:zF F (λx=>if x∈B then H x else F x):=.of λx o w=>by grind
 let J:aI K (λx=>if x∈B then H x else F x) v s.toD:=q.frz I λx L=>by simp[L,if_true]
 let e2:Z.set i ⇑v=Z:=by apply ext_getElem?;grind
 show#[v,_,e1,I,J,λx o w=>?_,λx o w=>?_,fa++([]++fb),?_,?_,λx L=>?_]
 .by_cases z:x∈B
  .show#[o,by simpa[z] using w,.inl rfl]
  .show r.fr x o (by simpa[z] using w)
 .let w2:=r.gr x o w;grind
 .let:=M (F':=λx=>if x∈B then H x else F x) (H':=H) (o:=⇑(.sh s.toD)) (u:=⇑v) (fi':=[]) I (λ_ _=>rfl) (.so (.sh J) .nil);rw[e2]at this;show this
 .grind
 grind
def Rel.store(r:Rel K (U++[o]) (Z++[u]) F G H)(h:U.length=Z.length)(hi:i<U.length):Rel K (U.set i o) (Z.set i u) F G H:=by
 let#[fp,e,I,ap]:=r.en;let#[f1,f2,rfl,a,b]:=e.cut h;let#[Y,fi,O,rfl,v]:=a.put hi;let#[M,n2,L]:=qx.mp I;let#[na,B,J]:=qx.mp M;show#[r.fr,r.gr,Y++(f2++O),v (zF.refl F) (λ_ _=>rfl) b,?_,λx hx=>?_]
 .grind
 grind
end FL
namespace FL
open PySem PySem.Spec PyProof.Rows L2
abbrev St:=L2.St
abbrev wp(X:Cx)(pn:List (Addr×Obj))(xe:zu):Cx:={X with pn:=pn,xe:=xe}
def zG:R->Option S
 |.v s=>⇑s
 |.loc _=>none
@[inline]def RV(Z:St)(v:V):R->Prop
 |.v _=>True
 |.loc i=>Z[i]?=⇑⇑v
def nX(Z:St):List V->List R->Prop
 |[],[]=>True
 |v::vs,r::rs=>RV Z v r/\nX Z vs rs
 |_,_=>False
def av(K:W.Frag)(F:Hp)(d:D)(C:Addr)(dx:Option Addr):Prop:=∃c fs vs,d=.exc c fs vs/\W.nsIn K mainGlobals (#[c.toArray]:Str)=⇑⇑(.ref C)/\nH F dx fs vs
def ke(X:Cx)(F H:Hp)(h:Heap)(u:Value)(d:D):Prop:=∃e C dx,u=.ref e/\av X.K F d C dx/\xP X [] H h e (.ref C) dx
@[inline]def KP(ks:List Nat)(Z Z':St):Prop:=∀i∈ks,Z'[i]?=Z[i]?
@[inline]def XC(X:Cx)(T:St->Prop)(F G:Hp)(PX:WX):Prop:=∀(d:D)(U':Env)(Z':St)(F' H':Hp)(u:Value)(s':Shared),PX d U'->T Z'->zF F F'->Rel X.K U' Z' F' G H'->Inv X [] Z' H' s'->ke X F' H' s'.heap u d->X.xe u s'
def XC.mono(h:XC X T F G PX)(t:∀Z,T' Z->T Z)(f:zF F F')(g:eT G G'):XC X T' F' G' PX:=
 λd v i J H2 u s' p q B r I x=>h d v i J H2 u s' p (t _ q) (f.trans B) (r.weakG g) I x
def XC.grow(h:XC X T F G PX)(f:zF F F'):XC X T F' G PX:=h.mono (λ_ z=>z) f (eT.refl G)
inductive tW(X:Cx)(w:WE)(Z:St)(H:Hp)(Q:VK):Prop
 |mk (F G:Hp) (U:Env) (P:WQ) (PX:WX) (zW:Rel X.K U Z F G H) (hw:w U P PX) (hok:∀r U' v F' H',P r U'->zF F F'->Rel X.K (U'++[zG r]) (Z++[some v]) F' G H'->RV Z v r->Q v H') (hx:XC X (·=Z) F G PX):tW X w Z H Q
@[inline]def FE(X:Cx)(e:Expr)(w:WE):Prop:=∀(pn:List (Addr×Obj))(xe:zu),PassesOwn (model X.prog X.w) X.A X.env xe->PE (wp X pn xe) e (tW (wp X pn xe) w)
inductive iM(X:Cx)(w:WT)(Z:St)(H:Hp)(Q:Bool->Hp->Prop):Prop
 |mk (F G:Hp) (U:Env) (P:Bool->Env->Prop) (PX:WX) (zW:Rel X.K U Z F G H) (hw:w U P PX) (hok:∀b U' F' H',P b U'->zF F F'->Rel X.K U' Z F' G H'->Q b H') (hx:XC X (·=Z) F G PX):iM X w Z H Q
@[inline]def FT(X:Cx)(e:Expr)(w:WT):Prop:=∀(pn:List (Addr×Obj))(xe:zu),PassesOwn (model X.prog X.w) X.A X.env xe->PT (wp X pn xe) e (iM (wp X pn xe) w)
@[inline]def FW(X:Cx)(e:Expr)(w:WT):Prop:=∀(pn:List (Addr×Obj))(xe:zu),PassesOwn (model X.prog X.w) X.A X.env xe->PW (wp X pn xe) e (iM (wp X pn xe) w)
inductive tH(X:Cx)(w:WA)(Z:St)(H:Hp)(Q:List V->Hp->Prop):Prop
 |mk (F G:Hp) (U:Env) (P:List R->Env->Prop) (PX:WX) (zW:Rel X.K U Z F G H) (hw:w U P PX) (hok:∀rs U' vs F' H',P rs U'->zF F F'->Rel X.K (U'++rs.map zG) (Z++vs.map some) F' G H'->U'.length=Z.length->nX Z vs rs->Q vs H') (hx:XC X (·=Z) F G PX):tH X w Z H Q
@[inline]def FA(X:Cx)(es:List Expr)(w:WA):Prop:=∀(pn:List (Addr×Obj))(xe:zu),PassesOwn (model X.prog X.w) X.A X.env xe->PA (wp X pn xe) es (tH (wp X pn xe) w)
def PE.imp(h:PE X e t)(k:∀Z H Q,t' Z H Q->t Z H Q):PE X e t':=λzU s Z H Q I q=>h zU s Z H Q I (k Z H Q q)
def PT.imp(h:PT X e t)(k:∀Z H Q,t' Z H Q->t Z H Q):PT X e t':=λzU s Z H Q I q=>h zU s Z H Q I (k Z H Q q)
def PW.imp(h:PW X e t)(k:∀Z H Q,t' Z H Q->t Z H Q):PW X e t':=λi zU s Z H Q I q=>h i zU s Z H Q I (k Z H Q q)
def PA.imp(h:PA X e t)(k:∀Z H Q,t' Z H Q->t Z H Q):PA X e t':=λp zU s Z H Q I q=>h p zU s Z H Q I (k Z H Q q)
section
variable{K:W.Frag}
def Rel.mid(r:Rel K (U++o::U') (Z++w::Z') F G H)(h:U.length=Z.length):Rel K (U++U') (Z++Z') F G H:=by let#[fp,e,v,ap]:=r.en;let#[f1,Y,rfl,a,b]:=e.cut h;let#[Y,O,rfl,b,c]:=zH.cut (U:=[o]) (Z:=[w]) rfl b;let#[L,J,I]:=qx.mp v;let#[n4,B,n6]:=qx.mp J;show#[r.fr,r.gr,f1++O,a.app c,qx.mpr #[L,B,λx i y M=>I x i y (qj _ M)],λx i=>ap x ?_];grind
def Ad(r:Rel K (U++[o]) (Z++[w]) F G H):U.length=Z.length:=by let:=r.len;simpa using this
def GD:(U++o::U').set U.length o'=U++o'::U':=by
 induction U with
 |nil=>rfl
 |cons a r i=>simpa using i
inductive Nd{α:Type}(o:Option α)(k:α->Prop):Prop
 |mk (a:α):o=some a->k a->Nd o k
def Ah(h:zz o k):Nd o k:=by
 cases o with
 |none=>show h.elim
 |some a=>show#[a,rfl,h]
def bC(K:W.Frag)(F H:Hp)(v:V)(d:D):Prop:=aI K F v d\/
 (∃a xs ds,v=.ref a/\d=.lst ds/\H a=⇑(.lst xs)/\zS K F xs ds)\/
 (∃a zV ks vs,v=.ref a/\d=.dct false ks vs/\H a=⇑(.dK zV)/\ks=zV.map (λp=>aH p.1)/\zS K F (zV.map (·.2)) vs)\/
 (∃a zV ks vs,v=.ref a/\d=.dct true ks vs/\H a=⇑(.dT zV)/\ks=zV.map (λp=>D.tup (p.1.map aH))/\zS K F (zV.map (·.2)) vs)
def bC.mono(h:zF F F')(r:bC K F H v d):bC K F' H v d:=by
 rcases r with r|⟨a,xs,M,I,G,B,r⟩|⟨a,i,ks,J,I,G,B,L,r⟩|⟨a,i,ks,J,I,G,B,L,r⟩
 .show .inl (r.mono h)
 .show .inr (.inl #[a,xs,M,I,G,B,r.mono h])
 .show .inr (.inr (.inl #[a,i,ks,J,I,G,B,L,r.mono h]))
 .show .inr (.inr (.inr #[a,i,ks,J,I,G,B,L,r.mono h]))
def zI.sh(r:zI K F H xs l fp):l.all S.isSh=true->zS K F xs (l.map S.toD)/\fp=[]:=
 zI.ind (P:=λxs l fp=>l.all S.isSh=true->zS K F xs (l.map S.toD)/\fp=[]) (λ_=>#[.nil,rfl]) (λa _ i h=>by
  rw[all_cons,and_eq_true]at h;let#[q,e]:=i h.2;cases a with
  |sh r=>show#[.cons r q,e]
  |_=>show absurd h.1 (by simp[S.isSh])) r
theorem look(r:Rel K (U++(zG x::U')) (Z++(⇑v::Z')) F G H)(h:U.length=Z.length)(O:RV Z v x)(e:view x U=⇑d):aI K H v d:=by
 cases x with
 |v s=>
  let#[u,Y,B,q]:=r.at (i:=U.length) (s:=s) Cy;rw[h,getElem?_append_right (zb _)]at B;let M:v=u:=↑B
  subst M;let L:s.toD=d:=qg e;rw[<-L];show q.view r.fr
 |loc i=>
  let I:(slot U i).map S.toD=⇑d:=e;cases q:slot U i with
  |none=>rw[q]at I;cases I
  |some s=>
   rw[q]at I;let L:s.toD=d:=qg I;let hi:=BY q;let#[u,Y,B,w]:=r.at (i:=i) (s:=s) (by rw[CU hi];show q);rw[getElem?_append_left (h▸hi)]at B;let J:Z[i]?=⇑⇑v:=O;rw[J]at B;let M:v=u:=↑B
   subst M;rw[<-L];show w.view r.fr
inductive mh(K:W.Frag)(U:Env)(Z:St)(F G H:Hp)(v:V)(d:D):Prop
 |mk (F':Hp):zF F F'->bC K F' H v d->Rel K U Z F' G H->mh K U Z F G H v d
def AD(r:Rel K (U++(zG x::U')) (Z++(⇑v::Z')) F G H)(h:U.length=Z.length)(rv:RV Z v x)(e:zQ x U=⇑d):
  mh K (U++U') (Z++Z') F G H v d:=by
 cases x with
 |v s=>
  let#[u,F',B,sm,rp,r']:=r.give (i:=U.length) (s:=s) Cy;rw[h,getElem?_append_right (zb _)]at B;let e2:v=u:=↑B
  subst e2;let e3:s.toD=d:=qg e;rw[show(U++zG (.v s)::U').set U.length ⇑(S.sh s.toD)=U++⇑(S.sh s.toD)::U' from GD]at r';show#[F',sm,.inl (e3▸rp),r'.mid h]
 |loc i=>
  let e':(match slot U i with|some s=>if s.flat then ⇑s.toD else none|none=>none)=⇑d:=e;cases q:slot U i with
  |none=>rw[q]at e';cases e'
  |some s=>
   let hi:=BY q;let#[u,fp,B,w]:=r.at (i:=i) (s:=s) (by rw[CU hi];show q);rw[getElem?_append_left (h▸hi)]at B;let O:Z[i]?=⇑⇑v:=rv;rw[O]at B;let e2:v=u:=↑B
   subst e2;show#[F,zF.refl F,?_,r.mid h];by_cases M:s.flat=true
   .let e3:s.toD=d:=by grind
    subst e3;cases w with
    |sh r=>show .inl r
    |lst L J=>let#[I,_]:=J.sh M;show .inr (.inl #[_,_,_,rfl,by simp,L,I])
    |dK L Y J=>let#[I,_]:=J.sh M;show .inr (.inr (.inl #[_,_,_,_,rfl,by simp,L,Y,I]))
    |dT L Y J=>let#[I,_]:=J.sh M;show .inr (.inr (.inr #[_,_,_,_,rfl,by simp,L,Y,I]))
    |st _ _=>show absurd M (by simp[S.flat])
   grind
inductive mn(K:W.Frag)(L:Prop)(U:Env)(Z:St)(F G H:Hp):Prop
 |mk (F':Hp):zF F F'->L->Rel K U Z F' G H->mn K L U Z F G H
def Al(r:Rel K (U++(zG x::U')) (Z++(⇑v::Z')) F G H)(h:U.length=Z.length)(rv:RV Z v x)(e:give x U=⇑(s,U1)):
  mn K (U1.length=U.length) (U1++(⇑s::U')) (Z++(⇑v::Z')) F G H:=by
 cases x with
 |v t=>have B:⇑(t,U)=⇑(s,U1):=e;cases B;show#[F,zF.refl F,rfl,r]
 |loc i=>
  let B:(match slot U i with|some s=>⇑(S.sh s.toD,U.set i ⇑(.sh s.toD))|none=>none)=⇑(s,U1):=e;cases q:slot U i with
  |none=>rw[q]at B;cases B
  |some t=>
   rw[q]at B;cases B;let hi:=BY q;let#[u,O,L,Y,rp,I]:=r.give (i:=i) (s:=t) (by rw[CU hi];show q);rw[getElem?_append_left (h▸hi)]at L;let J:Z[i]?=⇑⇑v:=rv;rw[J]at L;let e2:v=u:=↑L
   subst e2;rw[List.set_append_left _ _ hi]at I;show#[O,Y,by simp,?_];let#[fp,en,nd,ap]:=I.en;let hl:(U.set i ⇑(S.sh t.toD)).length=Z.length:=↑h
   let#[f1,M,rfl,a,b]:=en.cut hl;let b':zH K O H (none::U') (⇑v::Z') M:=b;cases b' with
   |no b=>show#[I.fr,I.gr,f1++([]++M),a.app (.so (.sh rp) b),↑nd,λx hx=>ap x hx]
end
def tW.mono(h:tW X w Z H Q)(k:∀v H',Q v H'->Q' v H'):tW X w Z H Q':=by let#[F,G,U,P,PX,B,L,I,J]:=h;show#[F,G,U,P,PX,B,L,λr i v M H' a b c d=>k _ _ (I r i v M H' a b c d),J]
inductive kf(X:Cx)(Z:St)(k:R->R->Env->WQ->WX->Prop)(Q:VK)(v u:V)(H:Hp):Prop
 |mk (F G:Hp) (U:Env) (x y:R) (P:WQ) (PX:WX) (zW:Rel X.K (U++[zG x,zG y]) (Z++[some v,some u]) F G H) (hl:U.length=Z.length) (rx:RV Z v x) (ry:RV Z u y) (hk:k x y U P PX) (hok:∀r U' v F' H',P r U'->zF F F'->Rel X.K (U'++[zG r]) (Z++[some v]) F' G H'->RV Z v r->Q v H') (hx:XC X (·=Z) F G PX):kf X Z k Q v u H
def CD(h:tW X (λU Q E=>wa U (λx U1=>wb U1 (λy U2=>k x y U2 Q E) E) E) Z H Q):
  tW X wa Z H λv H1=>tW X wb Z H1 λu H2=>kf X Z k Q v u H2:=by
 let#[F,G,U,P,PX,O,hw,h5,Y]:=h;show#[F,G,U,_,PX,O,hw,λx U1 v F1 H1 h4 J r1 M=>?_,Y];let h1:=Ad r1;let#[G1,i,gg,back]:=r1.hide h1;show#[F1,G1,U1,_,PX,i,h4,λy U2 u F2 H2 h3 I r2 L=>?_,Y.mono (λ_ z=>z) J gg];let h2:=Ad r2;let r3:=back I r2;rw[qq,qq]at r3;show#[F2,G,U2,x,y,P,PX,Rel.swap (U1:=[zG y]) (Z1:=[⇑u]) (U2:=[zG x]) (Z2:=[⇑v]) h2 rfl r3,h2,M,L,h3,λr B v F' H' a b c d=>h5 r B v F' H' a (J.trans (I.trans b)) c d,Y.grow (J.trans I)]
inductive One(X:Cx)(Z:St)(k:R->Env->WQ->WX->Prop)(Q:VK)(v:V)(H:Hp):Prop
 |mk (F G:Hp) (U:Env) (x:R) (P:WQ) (PX:WX) (zW:Rel X.K (U++[zG x]) (Z++[some v]) F G H) (hl:U.length=Z.length) (rx:RV Z v x) (hk:k x U P PX) (hok:∀r U' v F' H',P r U'->zF F F'->Rel X.K (U'++[zG r]) (Z++[some v]) F' G H'->RV Z v r->Q v H') (hx:XC X (·=Z) F G PX):One X Z k Q v H
theorem one(h:tW X (λU Q E=>wa U (λx U1=>k x U1 Q E) E) Z H Q):tW X wa Z H λv H1=>One X Z k Q v H1:=by let#[F,G,U,P,PX,I,hw,L,Y]:=h;show#[F,G,U,_,PX,I,hw,λx U1 v F1 H1 J M O B=>#[F1,G,U1,x,P,PX,O,Ad O,B,J,λr i v F' H' a b c d=>L r i v F' H' a (M.trans b) c d,Y.grow M],Y]
def Nq(hN:X.N[i]?=⇑x)(Y:ay X.env.scope x)(hd:autoParam ((x==("__debug__":Str))=false) dZ9)(M:autoParam ((x==("__classdict__":Str))=false) dZ9):FE X (.Name x pos) (zv i):=by
 intro pn xe hp;show PE.imp (MG (X:=wp X pn xe) hN Y hd M) λZ H Q h=>?_;let#[F,G,U,P,PX,B,J,I,hx]:=h;unfold zv at J;cases q:slot U i with
 |none=>rw[q]at J;show J.elim
 |some s=>
  let#[v,fp,L,O]:=B.at q;rw[q]at J;cases s with
  |sh d=>
   cases O with
   |sh r=>show#[v,L,I _ _ v F H J (zF.refl F) (B.push r) trivial]
  |lst l=>show#[v,L,I _ _ v F H J (zF.refl F) B.pushN L]
  |dct t a b=>show#[v,L,I _ _ v F H J (zF.refl F) B.pushN L]
  |set l=>show#[v,L,I _ _ v F H J (zF.refl F) B.pushN L]
def BR(h:∀X:Cx,PE X e (tC v))(r:∀K F,aI K F v d):FE X e (wC d):=by intro pn xe L;show PE.imp (h _) λZ H Q h=>?_;let#[F,G,U,P,PX,i,I,B,J]:=h;show B _ _ v F H I (zF.refl F) (i.push (r _ _)) trivial
def Ag:FE X (.Constant (.int i) j pos) (wC (.int i)):=BR (λ_=>Mk) λ_ _=>.int i
def Cf:FE X (.Constant (.bool b) j pos) (wC (.bl b)):=BR (λ_=>LS) λ_ _=>.bl b
def Co:FE X (.Constant .none j pos) (wC .non):=BR (λ_=>MX) λ_ _=>.non
def Cn(e:x.cps.toList=l)(z:l.length<=16777216):FE X (.Constant (.str x) j pos) (wC (.str l)):=BR (λ_=>Ny) λ_ _=>.str e z
def OpR.or(h:OpR X f r)(h':OpR X f F):OpR X f (λx y H Q=>r x y H Q\/F x y H Q):=λzU s Z H x y v u Q I B i q=>q.elim (λz=>h zU s Z H x y v u Q I B i z) λz=>h' zU s Z H x y v u Q I B i z
def hV(K:W.Frag)(r:R2)(op:D->D->Option S):Prop:=∀(Z:St)(U:Env)(F G H:Hp)(x y:V)(p q:D)(s:S)(Q:VK),Rel K U Z F G H->bC K F H x p->bC K F H y q->op p q=⇑s->
 (∀v F' H',zF F F'->Rel K (U++[⇑s]) (Z++[⇑v]) F' G H'->Q v H')->r x y H Q
def CJ(ho:∀pn xe,OpR (wp X pn xe) (binaryOp op) r)(hd:hV X.K r o)(ha:FE X a wa)(hb:FE X b wb):FE X (.BinOp a op b pos) (zL o wa wb):=by intro pn xe hp;show PE.imp (Mc (ho pn xe) (ha pn xe hp) (hb pn xe hp)) λZ H Q h=>?_;show(CD (k:=λx y B Q E=>zz (zQ x B) λp=>zz (zQ y B) λq=>zz (o p q) λs=>Q (.v s) B) h).mono λv H1 h1=>h1.mono λu H2 h2=>?_;let#[F,G,U,x,y,P,PX,L,hl,rx,ry,I,Y,hx]:=h2;let#[p,ep,I]:=Ah I;let#[q,eq,I]:=Ah I;let#[t,et,I]:=Ah I;let#[F1,s1,O,J]:=AD L hl rx ep;let#[F2,s2,M,i]:=AD (U':=[]) (Z':=[]) J hl ry eq;rw[qA,qA]at i;show hd Z U F2 G H2 v u p q t Q i (O.mono s2) M et λv' F' H' sm r'=>Y (.v t) U v' F' H' I (s1.trans (s2.trans sm)) r' trivial
def tH.mono(h:tH X w Z H Q)(k:∀v H',Q v H'->Q' v H'):tH X w Z H Q':=by let#[F,G,U,P,PX,B,L,I,J]:=h;show#[F,G,U,P,PX,B,L,λr i v M H' a b c d e=>k _ _ (I r i v M H' a b c d e),J]
inductive az(X:Cx)(Z:St)(k:R->R->Env->(Bool->Env->Prop)->WX->Prop)(Q:Bool->Hp->Prop)(v u:V)(H:Hp):Prop
 |mk (F G:Hp) (U:Env) (x y:R) (P:Bool->Env->Prop) (PX:WX) (zW:Rel X.K (U++[zG x,zG y]) (Z++[some v,some u]) F G H) (hl:U.length=Z.length) (rx:RV Z v x) (ry:RV Z u y) (hk:k x y U P PX) (hok:∀r U' F' H',P r U'->zF F F'->Rel X.K U' Z F' G H'->Q r H') (hx:XC X (·=Z) F G PX):az X Z k Q v u H
def Hm(h:iM X (λU Q E=>wa U (λx U1=>wb U1 (λy U2=>k x y U2 Q E) E) E) Z H Q):
  tW X wa Z H λv H1=>tW X wb Z H1 λu H2=>az X Z k Q v u H2:=by
 let#[F,G,U,P,PX,O,hw,h5,Y]:=h;show#[F,G,U,_,PX,O,hw,λx U1 v F1 H1 h4 J r1 M=>?_,Y];let h1:=Ad r1;let#[G1,i,gg,back]:=r1.hide h1;show#[F1,G1,U1,_,PX,i,h4,λy U2 u F2 H2 h3 I r2 L=>?_,Y.mono (λ_ z=>z) J gg];let h2:=Ad r2;let r3:=back I r2;rw[qq,qq]at r3;show#[F2,G,U2,x,y,P,PX,Rel.swap (U1:=[zG y]) (Z1:=[⇑u]) (U2:=[zG x]) (Z2:=[⇑v]) h2 rfl r3,h2,M,L,h3,λr B F' H' a b c=>h5 r B F' H' a (J.trans (I.trans b)) c,Y.grow (J.trans I)]
def cG(K:W.Frag)(r:R2)(op:D->D->Option Bool):Prop:=∀(H:Hp)(x y:V)(p q:D)(k:Bool)(Q:VK),aI K H x p->aI K H y q->op p q=⇑k->Q (.bl k) H->r x y H Q
def Bz{K:W.Frag}(B:Rel K (U++[zG x,zG y]) (Z++[⇑v,⇑u]) F G H)(I:U.length=Z.length)(L:RV Z v x)(J:RV Z u y)(O:view x U=⇑p)(M:view y U=⇑q):
  aI K H v p/\aI K H u q/\Rel K U Z F G H:=by
 let i:Rel K (U++[zG y]) (Z++[⇑u]) F G H:=B.mid I;show#[look B I L O,look (U':=[]) (Z':=[]) i I J M,i.drop I]
def Ay(ho:∀pn xe,OpR (wp X pn xe) (compareOp op) r)(hd:cG X.K r o)(ha:FE X a Y)(hb:FE X b O)(hm:behindInMarks op b=false):FT X (.Compare a [op] [b] pos) (aM o Y O):=by intro pn xe M;show PT.imp (Pj (ho pn xe) (ha pn xe M) (hb pn xe M) hm) λZ H Q h=>?_;show(Hm (k:=λx y i Q E=>zz (view x i) λp=>zz (view y i) λq=>zz (o p q) λc=>Q c i) h).mono λv H1 h1=>h1.mono λu H2 h2=>?_;let#[F,G,U,x,y,P,PX,J,hl,rx,ry,B,L,hx]:=h2;let#[p,ep,B]:=Ah B;let#[q,eq,B]:=Ah B;let#[t,et,B]:=Ah B;let#[r1,r2,I]:=Bz J hl rx ry ep eq;show hd H2 v u p q t _ r1 r2 et #[t,rfl,L t U F H2 B (zF.refl F) I]
def CL(ho:∀pn xe,OpR (wp X pn xe) (compareOp op) r)(hd:cG X.K r o)(ha:FE X a Y)(hb:FE X b O)(hm:behindInMarks op b=false):FE X (.Compare a [op] [b] pos) (iA (aM o Y O)):=by intro pn xe M;show PE.imp (Og (ho pn xe) (ha pn xe M) (hb pn xe M) hm) λZ H Q h=>?_;show(CD (k:=λx y i Q E=>zz (view x i) λp=>zz (view y i) λq=>zz (o p q) λc=>Q (.v (.sh (.bl c))) i) h).mono λv H1 h1=>h1.mono λu H2 h2=>?_;let#[F,G,U,x,y,P,PX,J,hl,rx,ry,B,L,hx]:=h2;let#[p,ep,B]:=Ah B;let#[q,eq,B]:=Ah B;let#[t,et,B]:=Ah B;let#[r1,r2,I]:=Bz J hl rx ry ep eq;show hd H2 v u p q t _ r1 r2 et (L _ U (.bl t) F H2 B (zF.refl F) (I.push (.bl t)) trivial)
def IS{K:W.Frag}(r:aI K H v d)(e:eQ d=⇑k):wX K v H k:=by
 cases r with
 |non=>show(qg e).symm
 |bl b=>show(qg e).symm
 |int i=>have B:=(qg e).symm;rw[B];show ↥(i≠0)=(i !=0);by_cases h:i=0<;>simp[h]
 |str G z=>
  rename_i x l;let B:=(qg e).symm;let F:x.length=l.length:=by rw[<-G];rfl
  show#[by rw[F];show z,?_];rw[B,F];cases l with
  |nil=>rfl
  |cons a r=>simp;lia
 |tup h r=>show .inr (.inl #[_,aZ.of h,?_]);let B:=(qg e).symm;rw[B];cases r<;>rfl
 |lst h r=>show .inl #[_,h,?_];let B:=(qg e).symm;rw[B];cases r<;>rfl
 |dK h k r=>cases e
 |dT h k r=>cases e
 |st h r=>cases e
 |exc h k=>cases e
def Dh(ha:FE X a wa)(he:∀whole,isTrue a X.env whole=(do let v<-whole;standAt a.pos;holding [v] (truthy v)):=by intro _;rfl):FT X a (fI wa):=by intro pn xe hp;show PT.imp (Jy (ha pn xe hp) he) λZ H Q h=>?_;let#[F,G,U,P,PX,zW,hw,hok,hx]:=h;show#[F,G,U,_,PX,zW,hw,λx U1 v F1 H1 hk s1 r1 rv1=>?_,hx];let#[p,ep,hk]:=Ah hk;let#[t,et,hk]:=Ah hk;let hl:=Ad r1;show#[t,IS (look (U':=[]) (Z':=[]) r1 hl rv1 ep) et,hok t U1 F1 H1 hk s1 (r1.drop hl)]
def Br{k:Bool->Env->(Bool->Env->Prop)->WX->Prop}(h:iM X (λU Q E=>ta U (λc U1=>k c U1 Q E) E) Z H Q)
  (O:∀(c:Bool)(F G:Hp)(U:Env)(P:Bool->Env->Prop)(PX:WX)(H1:Hp),Rel X.K U Z F G H1->k c U P PX->(∀r U' F' H',P r U'->zF F F'->Rel X.K U' Z F' G H'->Q r H')->XC X (·=Z) F G PX->Q' c H1):iM X ta Z H Q':=by
 let#[F,G,U,P,PX,i,L,v,I]:=h;show#[F,G,U,_,PX,i,L,λc U1 Y H1 M B J=>O c Y G U1 P PX H1 J M (λr U' F' H' a b c=>v r U' F' H' a (B.trans b) c) (I.grow B),I]
def Bo(h:FW X a ta):FT X a ta:=λpn xe i=>(h pn xe i).pt
def Ct(h:FT X a ta):FW X (.BoolOp .And [a] pos) ta:=λpn xe i=>NR (h pn xe i)
def Em(h:FT X a ta):FW X (.BoolOp .Or [a] pos) ta:=λpn xe i=>MC (h pn xe i)
def Cm{rest:List Expr}(h:FT X a ta)(h':FW X (.BoolOp .And (b::rest) pos) tb):FW X (.BoolOp .And (a::b::rest) pos) (dE ta tb):=λpn xe I=>by
 show PW.imp (Mw (h pn xe I) (h' pn xe I)) λZ H Q q=>?_;show Br (k:=λc i Q E=>if c then tb i Q E else Q false i) q λc F G U P PX H1 v J B L=>?_;cases c with
 |true=>show#[F,G,U,P,PX,v,J,B,L]
 |false=>show B false U F H1 J (zF.refl F) v
def Ej{rest:List Expr}(h:FT X a ta)(h':FW X (.BoolOp .Or (b::rest) pos) tb):FW X (.BoolOp .Or (a::b::rest) pos) (kU ta tb):=λpn xe I=>by
 show PW.imp (LZ (h pn xe I) (h' pn xe I)) λZ H Q q=>?_;show Br (k:=λc i Q E=>if c then Q true i else tb i Q E) q λc F G U P PX H1 v J B L=>?_;cases c with
 |false=>show#[F,G,U,P,PX,v,J,B,L]
 |true=>show B true U F H1 J (zF.refl F) v
def HW(h:FT X a ta):FT X (.UnaryOp .Not a pos) (jD ta):=λpn xe I=>by show PT.imp (ND (h pn xe I)) λZ H Q q=>?_;show Br (k:=λc i Q E=>Q (!c) i) q λc F G U P PX H1 v J B L=>B _ U F H1 J (zF.refl F) v
def LY{K:W.Frag}{c:Bool}(r:aI K H v (.bl c)):v=.bl c:=by cases r;rfl
def Ie(h:FE X a i):FE X (.BoolOp op [a] pos) i:=λpn xe v=>OF (h pn xe v)
def Fs{rest:List Expr}(ha:FE X a Y)(hb:FE X (.BoolOp .And (b::rest) pos) M):FE X (.BoolOp .And (a::b::rest) pos) (iD Y M):=λpn xe O=>by
 show PE.imp (Mj (ha pn xe O) (hb pn xe O)) λZ H Q q=>?_;show(one (k:=λx i Q E=>match view x i with|some (.bl c)=>if c then M i Q E else Q (.v (.sh (.bl false))) i|_=>False) q).mono λv H1 h1=>?_;let#[F,G,U,x,P,PX,B,L,rx,J,I,hx]:=h1;split at J
 .rename_i c e;show#[c,LY (look (U':=[]) (Z':=[]) B L rx e),?_];cases c with
  |true=>show#[F,G,U,P,PX,B.drop L,J,I,hx]
  |false=>show I _ U (.bl false) F H1 J (zF.refl F) ((B.drop L).push (.bl false)) trivial
 .show J.elim
def NB(ha:FE X a Y):FE X (.UnaryOp .Not a pos) (lT Y):=λpn xe hp zU s Z H Q I q=>by let q':=one (k:=λx i Q E=>zz (view x i) λp=>zz (eQ p) λc=>Q (.v (.sh (.bl (!c)))) i) q;show UnaryOp_ (Ai (ha pn xe hp zU s Z H _ I q') λv s1 L=>?_);let#[x,H1,I1,r1,q1]:=L;let#[F,G,U,y,P,PX,B,O,rx,J,M,hx]:=q1;let#[p,ep,J]:=Ah J;let#[t,et,J]:=Ah J;show not_of (Ai (Ik (X:=wp X pn xe) zU s1 Z H1 x v (λb H'=>b=t/\H'=H1) I1 r1 #[t,IS (look (U':=[]) (Z':=[]) B O rx ep) et,rfl,rfl]) λb s2 L=>?_);let#[H2,I2,e1,e2]:=L;subst e1 e2;show#[.bl (!b),H2,I2,rfl,M _ U (.bl (!b)) F H2 J (zF.refl F) ((B.drop O).push (.bl _)) trivial]
def Ac:FA X [] zx:=λpn xe J=>PA.imp Mo λZ H Q q=>by let#[F,G,U,P,PX,i,B,v,I]:=q;show v [] U [] F H B (zF.refl F) ↑i i.len trivial
def Aa(ha:FE X e wa)(hb:FA X es wb)(hs:autoParam (starEach (e::es) X.env=(false,eval e X.env)::starEach es X.env) rZ9):FA X (e::es) (zw wa wb):=λpn xe hp=>by
 show PA.imp (Oj (ha pn xe hp) (hb pn xe hp) hs) λZ H Q q=>?_;let#[F,G,U,P,PX,M,hw,h3,hx]:=q;show#[F,G,U,_,PX,M,hw,λx U1 v F1 H1 Y s1 r1 J=>?_,hx];let h1:=Ad r1;let#[G1,i,gg,back]:=r1.hide h1;show#[F1,G1,U1,_,PX,i,Y,λL U2 B F2 H2 O s2 r2 h2 I=>?_,hx.mono (λ_ z=>z) s1 gg];let r3:=back s2 r2;rw[qq,qq]at r3;let hl:(L.map zG).length=(B.map some).length:=by let:=r2.len;grind
 show h3 (x::L) U2 (v::B) F2 H2 O (s1.trans s2) (Rel.swap (U1:=L.map zG) (Z1:=B.map some) (U2:=[zG x]) (Z2:=[⇑v]) h2 hl r3) h2 #[J,I]
section
variable{K:W.Frag}
def nX.len:∀{vs:List V}{rs:List R},nX Z vs rs->vs.length=rs.length
 |[],[],_=>rfl
 |[],_::_,h=>h.elim
 |_::_,[],h=>h.elim
 |_::vs,_::rs,h=>by simp[nX.len h.2]
def EN:∀{rs:List R}{vs:List V}{U U' U1:Env}{ss:List S}{F:Hp}{Z':St},Rel K (U++(rs.map zG++U')) (Z++(vs.map some++Z')) F G H->U.length=Z.length->nX Z vs rs->aK rs U=⇑(ss,U1)->
  ∃F',zF F F'/\U1.length=U.length/\ss.length=rs.length/\Rel K (U1++(ss.map some++U')) (Z++(vs.map some++Z')) F' G H
 |[],[],U,U',U1,ss,F,Z',r,h,_,e=>by let i:⇑(([]:List S),U)=⇑(ss,U1):=e;cases i;show#[F,zF.refl F,rfl,rfl,r]
 |[],_::_,_,_,_,_,_,_,_,_,h,_=>h.elim
 |_::_,[],_,_,_,_,_,_,_,_,h,_=>h.elim
 |x::rs,v::vs,U,U',U1,ss,F,Z',r,h,rv,e=>by
  let i:(match give x U with|some (s,U1)=>(match aK rs U1 with|some (ss,U2)=>⇑(s::ss,U2)|none=>none)|none=>none)=⇑(ss,U1):=e;cases q:give x U with
  |none=>rw[q]at i;cases i
  |some p=>
   let#[s,U2]:=p;rw[q]at i;cases B:aK rs U2 with
   |none=>simp only[B]at i;cases i
   |some p2=>
    let#[J,h1]:=p2;simp only[B]at i;cases i;let#[F1,s1,l1,O]:=Al (U':=rs.map zG++U') (Z':=vs.map some++Z') r h rv.1 q;let h2:U2.length=Z.length:=l1.trans h;let hl:(rs.map zG++U').length=(vs.map some++Z').length:=by let:=O.len;rw[qr,qr,qu,qu]at this;lia
    let I:U'.length=Z'.length:=by let:=rv.2.len;simp at hl;lia
    let M:=Rel.swap (U1:=[⇑s]) (Z1:=[⇑v]) (U2:=rs.map zG++U') (Z2:=vs.map some++Z') h2 rfl O;rw[qq,qq]at M;let#[F2,s2,l2,Y,L]:=EN (rs:=rs) (vs:=vs) M h2 rv.2 B;let h3:U1.length=Z.length:=l2.trans h2;rw[<-qq (J.map some),<-qq (vs.map some)]at L;let r4:=Rel.swap (U1:=J.map some++U') (Z1:=vs.map some++Z') (U2:=[⇑s]) (Z2:=[⇑v]) h3 (by simp[Y,rv.2.len,I]) L;show#[F2,s1.trans s2,l2.trans l1,by simp[Y],r4]
def AQ:∀{vs:List V}{ss:List S}{fp:List Addr},zH K F H (ss.map some) (vs.map some) fp->zI K F H vs ss fp
 |[],[],_,.nil=>.nil
 |[],_::_,_,h=>nomatch h
 |_::_,[],_,h=>nomatch h
 |v::vs,s::ss,_,.so a b=>.cons a (AQ b)
def Rel.newL(r:Rel K (U++ss.map some) (Z++vs.map some) F G H)(h:U.length=Z.length)(v:H p=none):
  Rel K (U++[⇑(.lst ss)]) (Z++[⇑(.ref p)]) F G (upd H p (.lst vs)):=by
 let#[f0,M,L]:=r.free v;let#[fp,e,nd,ap]:=r.en;let B:∀a∈fp,a≠p:=λa i z=>L fp e (z▸i);let#[Y,O,rfl,J,I]:=(e.mono (H':=upd H p (.lst vs)) (zF.refl F) λa i=>Ae (B a i)).cut h;show#[zF.updR r.fr f0,λa u q=>?_,Y++((p::O)++[]),J.app (.so (.lst Aw (AQ I)) .nil),?_,λa i=>?_]
 .let v:a≠p:=λz=>by rw[z,M]at q;cases q
  rw[Ae v];show r.gr a u q
 .grind
 grind
def Rel.giveD{ss:List S}(r:Rel K (U++ss.map some) (Z++vs.map some) F G H)(h:U.length=Z.length):∃F',zF F F'/\zS K F' vs (ss.map S.toD)/\Rel K U Z F' G H:=by
 classical
 let#[fp,e,J,ap]:=r.en;let#[M,I,rfl,a,b]:=e.cut h;let#[L,n2,Y]:=qx.mp J;let i:zF F (λx=>if x∈I then H x else F x):=.of λx o w=>by grind
 let v:=(AQ b).frz i λx B=>by simp[B,if_true]
 rw[S.toDs_map]at v;show#[_,i,v,λx o w=>?_,λx o w=>?_,M,a.mono i λ_ _=>rfl,L,λx B=>?_]
 .by_cases z:x∈I
  .show#[o,by simpa[z] using w,.inl rfl]
  .show r.fr x o (by simpa[z] using w)
 .let O:=r.gr x o w;grind
 grind
end
inductive br(X:Cx)(Z:St)(k:List R->Env->WQ->WX->Prop)(Q:VK)(vs:List V)(H:Hp):Prop
 |mk (F G:Hp) (U:Env) (rs:List R) (P:WQ) (PX:WX) (zW:Rel X.K (U++rs.map zG) (Z++vs.map some) F G H) (hl:U.length=Z.length) (rv:nX Z vs rs) (hk:k rs U P PX) (hok:∀r U' v F' H',P r U'->zF F F'->Rel X.K (U'++[zG r]) (Z++[some v]) F' G H'->RV Z v r->Q v H') (hx:XC X (·=Z) F G PX):br X Z k Q vs H
theorem many(h:tW X (λU Q E=>Y U (λrs U1=>k rs U1 Q E) E) Z H Q):tH X Y Z H λvs H1=>br X Z k Q vs H1:=by let#[F,G,U,P,PX,I,hw,L,O]:=h;show#[F,G,U,_,PX,I,hw,λrs U1 vs F1 H1 J M r1 h1 B=>#[F1,G,U1,rs,P,PX,r1,h1,B,J,λr i v F' H' a b c d=>L r i v F' H' a (M.trans b) c d,O.grow M],O]
def Bm(h:FA X es wa):FE X (.List es pos) (cS wa):=λpn xe L=>by
 show PE.imp (Na (h pn xe L)) λZ H Q q=>?_;show(many (k:=λv i Q E=>zz (if v.length<=big then aK v i else none) λp=>Q (.v (.lst p.1)) p.2) q).mono λvs H1 h1=>?_;let#[F,G,U,v,P,PX,I,hl,Y,O,M,hx]:=h1;let#[#[ss,i],B,O]:=Ah O;by_cases J:v.length<=big
 .rw[q8 J]at B;let#[F1,s1,l1,l2,r1]:=EN (U':=[]) (Z':=[]) ↑I hl Y B;show#[by rw[Y.len];show le_trans J ⋯,λp L=>M _ i (.ref p) F1 _ O s1 (Rel.newL ↑r1 (l1.trans hl) L) trivial]
 .rw[q9 J]at B;cases B
def AG(h:FA X es wa):FE X (.Tuple es k pos) (bK wa):=λpn xe B=>by
 show PE.imp (Nl (h pn xe B)) λZ H Q q=>?_;show(many (k:=λv i Q E=>zz (if v.length<=big then aK v i else none) λp=>Q (.v (.sh (.tup (p.1.map S.toD)))) p.2) q).mono λvs H1 h1=>?_;let#[F,G,U,v,P,PX,J,hl,Y,O,M,hx]:=h1;let#[#[ss,i],I,O]:=Ah O;by_cases L:v.length<=big
 .rw[q8 L]at I;let#[F1,s1,l1,l2,r1]:=EN (U':=[]) (Z':=[]) ↑J hl Y I;let#[F2,s2,rp,r2]:=Rel.giveD (U:=i) ↑r1 (l1.trans hl);show#[by rw[Y.len];show le_trans L ⋯,λp B=>?_];let n2:=(r2.free B).1;show M _ i (.ref p) _ _ O (s1.trans (s2.trans (zF.upd n2))) ((r2.newF B).push (.tup Aw (rp.mono (zF.upd n2)))) trivial
 .rw[q9 L]at I;cases I
def KP.refl:KP ks Z Z:=λ_ _=>rfl
def KP.trans(a:KP ks Z Z1)(b:KP ks Z1 Z2):KP ks Z Z2:=λi h=>(b i h).trans (a i h)
inductive cw(X:Cx)(ks:List Nat)(w:WS)(D:L2.Ends)(Z:St)(H:Hp):Prop
 |mk (F G:Hp) (U:Env) (E:Ends) (zW:Rel X.K U Z F G H) (hw:w E U) (n:∀U' Z' F' H',E.nx U'->KP ks Z Z'->zF F F'->Rel X.K U' Z' F' G H'->D.nx Z' H') (b:∀U' Z' F' H',E.bk U'->KP ks Z Z'->zF F F'->Rel X.K U' Z' F' G H'->D.bk Z' H') (c:∀U' Z' F' H',E.ct U'->KP ks Z Z'->zF F F'->Rel X.K U' Z' F' G H'->D.ct Z' H') (r:∀r U' Z' v F' H',E.rt r U'->KP ks Z Z'->zF F F'->Rel X.K (U'++[zG r]) (Z'++[some v]) F' G H'->RV Z' v r->D.rt v H') (hx:XC X (KP ks Z) F G E.ex):cw X ks w D Z H
@[inline]def FS(X:Cx)(ks:List Nat)(st:Stmt)(w:WS):Prop:=∀(pn:List (Addr×Obj))(xe:zu),PassesOwn (model X.prog X.w) X.A X.env xe->PS (wp X pn xe) st (cw (wp X pn xe) ks w)
def nZ(X:Cx)(ks:List Nat)(st:List Stmt)(w:WS):Prop:=∀(pn:List (Addr×Obj))(xe:zu),PassesOwn (model X.prog X.w) X.A X.env xe->iO (wp X pn xe) st (cw (wp X pn xe) ks w)
def PS.imp(h:PS X e t)(k:∀D Z H,t' D Z H->t D Z H):PS X e t':=λzU s Z H D I q=>h zU s Z H D I (k D Z H q)
def iO.imp(h:iO X e t)(k:∀D Z H,t' D Z H->t D Z H):iO X e t':=λzU s Z H D I q=>h zU s Z H D I (k D Z H q)
inductive xH(X:Cx)(ks:List Nat)(g:WG)(v:V)(Z:St)(H:Hp)(Q:St->Hp->Prop):Prop
 |mk (F G:Hp) (U:Env) (s:S) (P:Env->Prop) (zW:Rel X.K (U++[some s]) (Z++[some v]) F G H) (hw:g s U P) (n:∀U' Z' F' H',P U'->KP ks Z Z'->zF F F'->Rel X.K U' Z' F' G H'->Q Z' H'):xH X ks g v Z H Q
@[inline]def FG(X:Cx)(ks:List Nat)(tg:Expr)(g:WG):Prop:=∀(pn:List (Addr×Obj))(xe:zu),PassesOwn (model X.prog X.w) X.A X.env xe->PG (wp X pn xe) tg (xH (wp X pn xe) ks g)
def PG.imp(h:PG X e t)(k:∀v Z H Q,t' v Z H Q->t v Z H Q):PG X e t':=λzU s Z H v u Q I r q=>h zU s Z H v u Q I r (k v Z H Q q)
section
variable{st:Stmt}{rest:List Stmt}
def AI:nZ X ks [] aS:=λpn xe B=>iO.imp Pq λD Z H q=>by let#[F,G,U,E,i,v,n,b,c,r,x]:=q;show n U Z F H v KP.refl (zF.refl F) i
def Aj(h1:FS X ks st w1)(h2:nZ X ks rest w2):nZ X ks (st::rest) (zM w1 w2):=λpn xe M=>iO.imp (PL (h1 pn xe M) (h2 pn xe M)) λD Z H q=>by
 obtain⟨F,G,U,E,Y,hw,n,b,c,r,x⟩:=q;show#[F,G,U,{E with nx:=w2 E},Y,hw,λO h4 F1 H1 M k L r1=>?_,b,c,r,x];exact⟨F1,G,O,E,r1,M,λB i J H' h I s r=>n B i J H' h (k.trans I) (L.trans s) r,λB i J H' h I s r=>b B i J H' h (k.trans I) (L.trans s) r,
  λB i J H' h I s r=>c B i J H' h (k.trans I) (L.trans s) r,λa B i v J H' h I s q rv=>r a B i v J H' h (k.trans I) (L.trans s) q rv,x.mono (λh3 I=>k.trans I) L (eT.refl G)⟩
def Ak(h1:FS X ks st i):nZ X ks [st] i:=λpn xe v=>Pb (h1 pn xe v)
def Cq(h:FE X e M)(hs:autoParam (swapsWith e none pos.line X.env=pure false) rZ9):FS X ks (.Expr e pos) (wExpr M):=λpn xe I=>PS.imp (Py (h pn xe I) hs) λD Z H q=>by let#[F,G,U,E,B,Y,n,b,c,r,x]:=q;show#[F,G,U,_,_,B,Y,λa i v F1 H1 I O J rv=>n i Z F1 H1 I KP.refl O (J.drop (Ad J)),x.mono (λL z=>by rw[z];show KP.refl) (zF.refl F) (eT.refl G)]
def AE(h:FE X e L):FS X ks (.Return ⇑e pos) (bL L):=λpn xe I=>PS.imp (MK (h pn xe I)) λD Z H q=>by let#[F,G,U,E,B,hw,n,b,c,r,x]:=q;show#[F,G,U,_,_,B,hw,λa i v F1 H1 I M Y O=>r a i Z v F1 H1 I KP.refl M Y O,x.mono (λJ z=>by rw[z];show KP.refl) (zF.refl F) (eT.refl G)]
def AH(hc:FT X c tc)(ha:nZ X ks a w1)(hb:nZ X ks b w2):FS X ks (.If c a b pos) (dU tc w1 w2):=λpn xe L=>PS.imp (LL (hc pn xe L) (ha pn xe L) (hb pn xe L)) λD Z H q=>by
 obtain⟨F,G,U,E,Y,hw,n,b,c,r,x⟩:=q;show#[F,G,U,_,_,Y,hw,λk M F1 H1 L O r1=>?_,x.mono (λh1 z=>by rw[z];show KP.refl) (zF.refl F) (eT.refl G)];let go:∀w:WS,w E M->cw (wp X pn xe) ks w D Z H1:=λw hw=>⟨F1,G,M,E,r1,hw,λB i J H' h I s r=>n B i J H' h I (O.trans s) r,λB i J H' h I s r=>b B i J H' h I (O.trans s) r,
  λB i J H' h I s r=>c B i J H' h I (O.trans s) r,λa B i v J H' h I s q rv=>r a B i v J H' h I (O.trans s) q rv,x.grow O⟩
 cases k with
 |true=>show go _ L
 |false=>show go _ L
def An(he:FE X e Y)(hg:FG X ks tg g)(hs:autoParam (swapsWithSole [tg] e pos.line X.env=pure false) rZ9)(J:autoParam (swappedStores [tg] e X.env=pure none) rZ9)
  (h1:autoParam ((assignEach [tg] X.env).map (·.2)=[assign tg X.env]) rZ9):FS X ks (.Assign [tg] e pos) (zO g Y):=λpn xe i=>PS.imp (HR (he pn xe i) (hg pn xe i) hs J h1) λD Z H q=>by
 let#[F,G,U,E,I,J,n,b,c,r,x]:=q;show#[F,G,U,_,_,I,J,λa O v F1 H1 i s1 L rv=>?_,x.mono (λM z=>by rw[z];show KP.refl) (zF.refl F) (eT.refl G)];let#[#[s,B],eg,hk]:=Ah i;let#[F2,s2,l2,r2]:=Al (U':=[]) (Z':=[]) L (Ad L) rv eg;show#[F2,G,B,s,_,r2,hk,λU' Z' F' H' h k' s r=>n U' Z' F' H' h k' (s1.trans (s2.trans s)) r]
end
def KL(I:Inv X zU Z H s)(hN:∀j,X.N[j]?=⇑x->j=i)(hi:X.N[i]?=⇑x)(L:Loc X.env.scope x)(r:zJ v u)
  (h:∀s',Inv X zU (Z.set i ⇑v) H s'->(∃a,Heap.SameBut a s.heap s'.heap/\(a=X.env.locals\/X.env.cells.lookup x=⇑a))->Q () s')(hf:X.fn x=true\/X.env.scope.names.lookup x=⇑.local):wpAny M A (storeName X.env x u) Q E s:=by
 let#[m,hn,hl]:=id I.loc;let h5:(X.env.scope.kind==.class||(X.env.scope.kind==.module&&X.env.locals !=X.env.globals))=false:=by rw[I.ok.kind];rfl
 let h1:i<Z.length:=by rw[I.len];show(qh.mp hi).1
 have cne:=I.cne;let F:∀{a:Addr}{h':Heap},(∃o,s.heap.get? a=⇑o/\H a=none)->Heap.SameBut a s.heap h'->dI X.prog X.w H h':=λ{a h'} ha B b ob e=>by
  let#[_,_,O]:=ha;show(I.hok b ob e).stay (λc w' J q=>(B.2 c ?_).trans q) (λ_ q=>q) λ_ _ q=>q;rintro rfl;rcases J with rfl|J
  .rw[O]at e;cases e
  .rw[O]at J;cases J
 rcases L with hk|hk
 .refine wpAny_storeName_local hk hn (λh' h9 B=>?_) h5;let#[oL,_,_,h8,_]:=id hn;refine h _ #[I.ok,I.os,I.bare,#[λb o e n hb L=>?_,λb o e n hb L=>?_,I.base.free,λb o e L=>?_,I.base.tups,I.base.frzs,I.base.tbls],#[_,h9,λj y v' G Y e3=>?_],λy c e=>?_,I.free,I.freeC,λp hp=>?_,F #[oL,h8,I.free] B,↑I.len] #[_,B,.inl rfl]
  .show(B.2 b (ne_of_lt (lt_of_lt_of_le (qe e) I.ok.above))).trans (I.base.keep b o e n hb L)
  .obtain⟨sl,G⟩:=I.base.slot b o e n hb L;show#[sl,(B.2 b (ne_of_lt (lt_of_lt_of_le (qe e) I.ok.above))).trans G]
  .obtain⟨o',G⟩:=I.base.there b o e L;show#[o',(B.2 b (ne_of_lt (lt_of_lt_of_le (qe e) I.ok.above))).trans G]
  .by_cases hj:j=i
   .subst hj;rw[hi]at G;cases G;rw[getElem?_set_self h1]at Y;cases Y;show#[u,r,.inl #[hk,by simp]]
   .rw[getElem?_set_ne (Ne.symm hj)]at Y;let#[u',r',q]:=hl j y v' G Y e3;show#[u',r',?_];rcases q with⟨k,e⟩|⟨k,c,e,z⟩
    .show .inl #[k,?_];let:y≠x:=λe=>hj (hN j (e▸G));simp[this,e]
    .show .inr #[k,c,e,z.sameBut B (cne y c e)]
  .obtain⟨w',z⟩:=I.cell y c e;show#[w',z.sameBut B (cne y c e)]
  .obtain⟨e,n,ne,nf,d⟩:=I.pin p hp;show#[(B.2 p.1 ne).trans e,n,ne,nf,d]
 .have h2:X.fn x=true:=by
   rcases hf with z|z
   .show z
   .rw[z]at hk;cases hk
  let#[c,J]:=I.ok.has x (.inl hk);let#[w',z]:=I.cell x c J;show wpAny_storeName_cell I.ok.kind hk J z (λh' h7 B=>?_);let#[oc,h4,h3]:=id z;show h {s with heap:=h'} ⟨I.ok,I.os,I.bare,⟨λb o e n hb L=>?_,λb o e n hb L=>?_,I.base.free,λb o e L=>?_,I.base.tups,I.base.frzs,I.base.tbls⟩,⟨m,hn.sameBut B (Ne.symm (cne x c J)),λj y v' G Y e3=>?_⟩,λy c' e=>?_,I.free,I.freeC,λp hp=>?_,F ⟨oc,h4,I.freeC x c J⟩ B,↑I.len⟩ #[c,B,.inr J]
  .show(B.2 b (ne_of_lt (lt_of_lt_of_le (qe e) (I.ok.cab x c h2 J)))).trans (I.base.keep b o e n hb L)
  .obtain⟨sl,G⟩:=I.base.slot b o e n hb L;show#[sl,(B.2 b (ne_of_lt (lt_of_lt_of_le (qe e) (I.ok.cab x c h2 J)))).trans G]
  .obtain⟨o',G⟩:=I.base.there b o e L;show#[o',(B.2 b (ne_of_lt (lt_of_lt_of_le (qe e) (I.ok.cab x c h2 J)))).trans G]
  .by_cases hj:j=i
   .subst hj;rw[hi]at G;cases G;rw[getElem?_set_self h1]at Y;cases Y;show#[u,r,.inr #[.inl hk,c,J,h7]]
   .rw[getElem?_set_ne (Ne.symm hj)]at Y;let#[u',r',q]:=hl j y v' G Y e3;show#[u',r',?_];rcases q with q|⟨k,c',e,z'⟩
    .show .inl q
    .show .inr #[k,c',e,z'.sameBut B ?_];rintro rfl;show hj (hN j (I.ok.inj _ _ _ e J▸G))
  .by_cases h6:c'=c
   .subst h6;show#[_,h7]
   .obtain⟨w2,z2⟩:=I.cell y c' e;show#[w2,z2.sameBut B h6]
  .obtain⟨e,n,ne,nf,d⟩:=I.pin p hp;show#[(B.2 p.1 ?_).trans e,n,ne,nf,d];intro q;rw[q,h4]at e;let q':oc=p.2:=qg e;show d w' (by rw[<-q'];show h3)
def KP.set(h:i∉ks):KP ks Z (Z.set i u):=λj v=>getElem?_set_ne (λ(z:i=j)=>h (z▸v))
def Jb(hk:i∉ks)(hN:∀j,X.N[j]?=⇑x->j=i)(hi:X.N[i]?=⇑x)(O:Loc X.env.scope x)(hf:X.fn x=true\/X.env.scope.names.lookup x=⇑.local):FG X ks (.Name x pos) (zy i):=by
 intro pn xe hp zU s Z H v u Q I M q;let#[F,G,U,t,P,B,Y,n]:=q;let L:=Ad B;let J:i<U.length:=by rw[L,I.len];show(qh.mp hi).1
 show wpAny_assign_Name (KL (X:=wp X pn xe) I hN hi O M (λs' I' _=>#[_,H,I',n _ _ F H Y (KP.set hk) (zF.refl F) (B.store L J)]) hf)
inductive xS(X:Cx)(ks:List Nat)(gs:List WG)(vs:List V)(Z:St)(H:Hp)(Q:St->Hp->Prop):Prop
 |mk (F G:Hp) (U:Env) (ds:List D) (P:Env->Prop) (zW:Rel X.K U Z F G H) (rp:zS X.K F vs ds) (hw:dH gs ds U P) (n:∀U' Z' F' H',P U'->KP ks Z Z'->zF F F'->Rel X.K U' Z' F' G H'->Q Z' H'):xS X ks gs vs Z H Q
def du(X:Cx)(ks:List Nat)(tg:List Expr)(g:List WG):Prop:=∀(pn:List (Addr×Obj))(xe:zu),PassesOwn (model X.prog X.w) X.A X.env xe->bj (wp X pn xe) tg (xS (wp X pn xe) ks g)
def AY:du X ks [] []:=λpn xe M zU s Z H B J Q I r q=>by
 let#[F,G,U,O,P,i,L,v,n]:=q;show OU zU s Z H B J Q I r ?_;cases L with
 |nil=>show#[rfl,n U Z F H v KP.refl (zF.refl F) i]
 |cons a b=>show v.elim
def Ar(h1:FG X ks e g)(h2:du X ks es gs)
  (hs:autoParam ((assignEach (e::es) X.env).map (·.2)=assign e X.env::(assignEach es X.env).map (·.2)) rZ9):du X ks (e::es) (g::gs):=λpn xe i zU s Z H vs us Q I r q=>by
 let#[F,G,U,ds,P,L,rp,O,n]:=q;show Ro (X:=wp X pn xe) (h1 pn xe i) (h2 pn xe i) hs zU s Z H vs us Q I r ?_;cases rp with
 |nil=>show O.elim
 |cons a b=>show#[_,_,rfl,F,G,U,_,_,L.push a,O,λB Y F1 H1 i k M r1=>#[F1,G,B,_,P,r1,b.mono M,i,λJ v F' H' h k' s r=>n J v F' H' h (k.trans k') (M.trans s) r]]
def zS.len{K:W.Frag}(r:zS K F xs ds):xs.length=ds.length:=zS.ind (P:=λxs ds=>xs.length=ds.length) rfl (λ_ _ i=>congrArg (·+1) i) r
def AZ(hc:X.calm=true)(h:du X ks es I)(hn:autoParam ((assignEach es X.env).length=I.length) rZ9)(M:autoParam ((assignEach es X.env).findIdx? (·.1)=none) rZ9):FG X ks (.Tuple es k pos) (bP I):=λpn xe hp=>by
 show PG.imp (MU (X:=wp X pn xe) hc (h pn xe hp) hn M) λv Z H Q q=>?_;let#[F,G,U,s,P,B,hw,n]:=q;let#[F1,Y,rp,O]:=Rel.giveD (U:=U) (vs:=[v]) (ss:=[s]) B (Ad B);cases rp with
 |cons a b=>
  let i:(match s.toD with|.tup ds=>ds.length=I.length/\dH I ds U P|_=>False):=hw;generalize s.toD=d at a i;cases a with
  |tup e r=>show#[_,_,rfl,aZ.of (O.fr.at _ _ e),by rw[r.len];show i.1,F1,G,U,_,P,O,r,i.2,λL J F' H' h k' s r=>n L J F' H' h k' (Y.trans s) r]
  |_=>show i.elim
def dC(K:W.Frag)(J:It)(l:List D)(v:Hp):Prop:=∀(i:Nat)(U:Env)(Z:St)(F G H:Hp),zF v F->Rel K U Z F G H->
 (∀d,l[i]?=⇑d->J.go i H/\∀x H',J.yld i H x H'->∃F',zF F F'/\Rel K U Z F' G H'/\aI K F' x d)/\(l.length<=i->J.stop i H)
inductive ku(X:Cx)(wi:WI)(Z:St)(H:Hp)(R:It->Hp->Prop):Prop
 |mk (F G:Hp) (U:Env) (P:List D->Env->Prop) (PX:WX) (zW:Rel X.K U Z F G H) (hw:wi U P PX) (hok:∀l U' F' H' J,P l U'->zF F F'->Rel X.K U' Z F' G H'->dC X.K J l F'->R J H') (hx:XC X (·=Z) F G PX):ku X wi Z H R
@[inline]def FI(X:Cx)(tg iter:Expr)(i:WI):Prop:=∀(pn:List (Addr×Obj))(xe:zu),PassesOwn (model X.prog X.w) X.A X.env xe->PI (wp X pn xe) tg iter (ku (wp X pn xe) i)
def PI.imp(h:PI X tg e t)(k:∀Z H R,t' Z H R->t Z H R):PI X tg e t':=λzU s Z H R I q=>h zU s Z H R I (k Z H R q)
def zS.get{K:W.Frag}{i:Nat}(r:zS K F xs ds)(h:ds[i]?=⇑d):∃x,xs[i]?=⇑x/\aI K F x d:=
 zS.ind (P:=λxs ds=>∀i d,ds[i]?=⇑d->∃x,xs[i]?=⇑x/\aI K F x d) (λ_ _ e=>by cases e) (λa _ v i d e=>by
  cases i with
  |zero=>cases e;show#[_,rfl,a]
  |succ i=>show v i d e) r i d h
section
variable{K:W.Frag}
def GK(e:bB K F0 a xs)(r:zS K F0 xs l):dC K (xN K a) l F0:=λi U Z F G H J v=>by let I:bB K H a xs:=bB.mono (J.trans v.fr) e;show#[λd O=>?_,λh=>#[xs,I,by rw[r.len];show h]];let#[x,L,M]:=r.get O;show#[#[xs,x,I,L],λy H' B=>?_];let#[rfl,B]:=B;let:x=y:=qg (L.symm.trans (B xs I));subst this;show#[F,zF.refl F,v,M.mono J]
def QV(e:aZ K F0 a xs)(r:zS K F0 xs l):dC K (kj K a) l F0:=λi U Z F G H J v=>by let I:aZ K H a xs:=aZ.mono (J.trans v.fr) e;show#[λd O=>?_,λh=>#[xs,I,by rw[r.len];show h]];let#[x,L,M]:=r.get O;show#[#[xs,x,I,L],λy H' B=>?_];let#[rfl,B]:=B;let:x=y:=qg (L.symm.trans (B xs I));subst this;show#[F,zF.refl F,v,M.mono J]
def Ts{lo:Int}(h:(fromTo lo n)[i]?=⇑d):i<n/\d=.int (lo+i):=by
 unfold fromTo at h;rw[qG]at h;by_cases hi:i<n
 .rw[getElem?_range hi]at h;show#[hi,(qg h).symm]
 .rw[qR ↑hi]at h;cases h
def Ld{lo:Int}:dC K (bx lo n) (fromTo lo n) F0:=λi U Z F G H J v=>by
 show#[λd I=>?_,λh=>?_]
 .obtain⟨hi,rfl⟩:=Ts I;show#[hi,λx H' B=>?_];let#[rfl,rfl]:=B;show#[F,zF.refl F,v,.int _]
 .let:n<=i:=by simpa[fromTo] using h
  show this
end
def xA(x:Str):It:=#[λi _=>i<x.cps.size,λi H v H'=>H'=H/\∃c,x.cps[i]?=⇑c/\v=.str #[[c].toArray],λi _=>x.cps.size<=i]
def Rm{P:Program}{w:World}{K:W.Frag}{tg:Expr}(it:Addr)(x:Str)(t:Tok)(ty:String)(hty:ty="str_ascii_iterator"\/ty="str_iterator"):fT P w K tg (xA x) [it] it (λi h=>h.IsStrIter it ty x t i) where
 mem:=m1
 obj:=λi h st b hb=>by
  let e:b=it:=↑hb
  subst e;let#[o,e,c,d]:=st;show#[o,e,λv z=>by rw[d]at z;cases z]
 keep:=λi h h' st k=>by let#[o,e,r]:=st;show#[o,k it (m1) o e,r]
 item:=by
  intro X hP hw hK hc i zU s Z H E I hf st hg;subst hP hw hK;let#[f0,f1,f2,f3,f4,f5]:=hf it (m1);let W:Walks X.prog X.w X.A it [it] [it] x.cps.size (SignAt x) (λi h=>h.IsStrIter it ty x t i):=by
   rcases hty with rfl|rfl
   .show Walks.strAscii (I.ok.hd hc) it x t
   .show Walks.strWide (I.ok.hd hc) it x t
  show W.item i s _ _ hg st λv h' tk hv st' kk=>?_;let#[c,u,e1,rfl]:=hv;let I1:Inv X zU Z H {s with heap:=h',toks:=tk}:=I.turned (λb o hb e=>kk b o ↑hb e) f0 f1 f3 f4 f5;let#[o,e,cl,d]:=id st';show#[_,rfl,Dd (s:={s with heap:=h',toks:=tk}) e cl d (by rcases hty with rfl|rfl<;>decide) ⟨.str ⟨[c].toArray⟩,H,I1,⟨u,rfl⟩,⟨rfl,c,e1,rfl⟩,st',λb hb=>(hf b hb).1⟩]
 done:=by
  intro X hP hw hK hc i zU s Z H E I hf st hg;let#[f0,f1,f2,f3,f4,f5]:=hf it (m1);let hn:x.cps[i]?=none:=by let:x.cps.size<=i:=hg;simp[this]
  rcases hty with rfl|rfl
  .show wpAny_pyNext_ascii_end (I.ok.hd hc) st hn λh' eb=>#[rfl,I.turned (t':=s.toks) (λb o hb e=>eb b o hb e) f0 f1 f3 f4 f5]
  .show wpAny_pyNext_wide_end (I.ok.hd hc) st hn λh' eb=>#[rfl,I.turned (t':=s.toks) (λb o hb e=>eb b o hb e) f0 f1 f3 f4 f5]
 self:=λA i s Q E st h=>by
  rcases hty with rfl|rfl
  .show wpAny_pyIter_striter_ascii st h
  .show wpAny_pyIter_striter_wide st h
def ju(K:W.Frag)(i:TE):TI:=λZ H R=>i Z H λv H1=>(∃a,v=.ref a/\(∃xs,bB K H1 a xs)/\R (xN K a) H1)\/(∃a,v=.ref a/\(∃xs,aZ K H1 a xs)/\R (kj K a) H1)\/∃x,v=.str x/\R (xA x) H1
def Nn(hl:PE X l tl):PI X tg l (ju X.K tl):=by
 intro zU s Z H R I h;show Ai (hl zU s Z H _ I h) λv i zq=>?_;let#[y,H1,B,M,q1]:=zq;rcases q1 with⟨a,e,⟨xs,Y⟩,q⟩|⟨a,e,⟨xs,Y⟩,q⟩|⟨x,e,q⟩
 .subst e;cases M;let#[G,rv,p,hz]:=B.list Y;show wpAny_pyIter_list p.isList ?_;show#[i.heap.objs.size,[i.heap.objs.size],_,_,H1,rfl,B.kept (t':=i.toks) λb o e=>qc _ e,TR a _,#[_,qd _ rfl,rfl,rfl],λb J=>?_,q];let e:b=i.heap.objs.size:=by simpa using J
  subst e;show B.fpOk (zb _) (B.hok.fresh (zb _))
 .subst e;cases M;let#[G,rv,p,hz]:=B.tuple Y;show wpAny_pyIter_tuple (show i.heap.IsTuple a G.toArray from p) ?_;show#[i.heap.objs.size,[i.heap.objs.size],_,_,H1,rfl,B.kept (t':=i.toks) λb o e=>qc _ e,SW a _,#[_,qd _ rfl,rfl,rfl],λb J=>?_,q];let e:b=i.heap.objs.size:=by simpa using J
  subst e;show B.fpOk (zb _) (B.hok.fresh (zb _))
 .subst e;let#[t,rfl]:=M;let L:∀(F:String)(o:Obj),(F="str_ascii_iterator"\/F="str_iterator")->o.cls=.type F->o.data=.fields [.str x t,.int 0 0].toArray->o.isFreed=false->bh X zU Z tg R (.ref i.heap.objs.size) {i with heap:=i.heap.push o}:=λF o O hc hd hf=>by
   show#[i.heap.objs.size,[i.heap.objs.size],_,_,H1,rfl,B.kept (t':=i.toks) λb o e=>qc _ e,Rm _ x t F O,#[_,qd _ hf,hc,hd],λb J=>?_,q];let e:b=i.heap.objs.size:=↑J
   subst e;show B.fpOk (zb _) (B.hok.fresh (zb _))
  cases ha:x.cps.all (·<128)
  .show wpAny_pyIter_wide ha (L "str_iterator" _ (.inr rfl) rfl rfl rfl)
  .show wpAny_pyIter_ascii ha (L "str_ascii_iterator" _ (.inl rfl) rfl rfl rfl)
section
variable{K:W.Frag}
def Gh(e:x.cps.toList=l):dC K (xA x) (l.map λc=>.str [c]) F0:=λi U Z F G H sm B=>by
 let J:x.cps.size=l.length:=by rw[<-e];simp
 show#[λd v=>?_,λh=>by show x.cps.size<=i;rw[J];simpa using h];rw[qG]at v;cases q:l[i]? with
 |none=>rw[q]at v;cases v
 |some c=>
  rw[q]at v;let I:D.str [c]=d:=qg v;let hi:i<l.length:=(qh.mp q).1;let O:x.cps[i]?=⇑c:=by rw[<-q5,e];show q
  show#[by show i<x.cps.size;rw[J];show hi,λy H' M=>?_];let#[rfl,Y,L,rfl]:=M;rw[O]at L;let:c=Y:=qg L;subst this;rw[<-I];show#[F,zF.refl F,B,.str rfl (by show 1<=_;decide)]
def BL(h:FE X e we):FI X tg e (cQ we):=λpn xe hp=>by
 show PI.imp (Nn (h pn xe hp)) λZ H R q=>?_;let#[F,G,U,P,PX,O,hw,I,hx]:=q;show#[F,G,U,_,PX,O,hw,λr h1 v F1 H1 J s1 r1 rv=>?_,hx];let#[#[s,B],eg,J]:=Ah J;let#[l,el,J]:=Ah J;let#[F2,s2,l2,r2]:=Al (U':=[]) (Z':=[]) r1 (Ad r1) rv eg;let#[Y,s3,rp,L]:=Rel.giveD (U:=B) (vs:=[v]) (ss:=[s]) r2 (Ad r2);let M:=s1.trans (s2.trans s3);cases rp with
 |cons a b=>
  let i:items s.toD=⇑l:=el;generalize s.toD=d at a i;cases a with
  |lst e r=>have:l=_:=(qg i).symm;subst this;show .inl #[_,rfl,#[_,bB.mono L.fr e],I _ B Y H1 _ J M L (GK e r)]
  |tup e r=>have:l=_:=(qg i).symm;subst this;show .inr (.inl #[_,rfl,#[_,aZ.of (L.fr.at _ _ e)],I _ B Y H1 _ J M L (QV (aZ.of e) r)])
  |str e z=>have:l=_:=(qg i).symm;subst this;show .inr (.inr #[_,rfl,I _ B Y H1 _ J M L (Gh e)])
  |_=>cases i
def BI(hg:Gl X "range")(hm:X.mg "range"=none)(ha:FE X a we)(Y:autoParam (starEach [a] X.env=[(false,eval a X.env)]) rZ9):FI X tg (.Call (.Name "range" p) [a] [] pos) (bA we):=λpn xe hp=>by
 show PI.imp (SD (X:=wp X pn xe) hg hm (Aa ha Ac Y pn xe hp) Y) λZ H R q=>?_;let#[F,G,U,P,PX,M,hw,O,hx]:=q;show#[F,G,U,λL B=>match L with|[r]=>(match view r B with|some (.int j)=>(-big<=j/\j<=big)/\P (fromTo 0 j.toNat) B|_=>False)|_=>False,PX,M,hw,λL B vs F1 H1 i s1 J hl I=>?_,hx];match L,vs,I,J,i with
 |[r],[v],I,J,i=>
  dsimp only at i;split at i
  .rename_i j ej;let rp:=look (U':=[]) (Z':=[]) J hl I.1 ej;cases rp;let#[#[h1,h2],i]:=i;let eb:(big:Int)=1000000:=rfl;show#[j,rfl,∅,∅,O _ B F1 H1 _ i s1 ((show Rel X.K (B++[zG r]) (Z++[⇑(.int j)]) F1 G H1 from J).drop hl) Ld]
  .show i.elim
 |[],_,_,_,i=>show i.elim
 |[_],[],I,_,_=>show I.elim
 |[_],_::_::_,I,_,_=>show I.2.elim
 |_::_::_,_,_,_,i=>show i.elim
def Sz(hg:Gl X "range")(hm:X.mg "range"=none)(ha:FE X a we)(hb:FE X b wb)(hs:autoParam (starEach [a,b] X.env=[(false,eval a X.env),(false,eval b X.env)]) rZ9)(L:autoParam (starEach [b] X.env=[(false,eval b X.env)]) rZ9):
  FI X tg (.Call (.Name "range" p) [a,b] [] pos) (gN we wb):=λpn xe hp=>by
 show PI.imp (RB (X:=wp X pn xe) hg hm (Aa ha (Aa hb Ac L) (by rw[hs,L]) pn xe hp) hs L) λZ H R q=>?_;let#[F,G,U,P,PX,O,hw,h5,hx]:=q;show#[F,G,U,λM I=>match M with|[r,t]=>(match view r I,view t I with|some (.int i),some (.int j)=>(-big<=i/\i<=big/\-big<=j/\j<=big)/\P (fromTo i (j-i).toNat) I|_,_=>False)|_=>False,PX,O,hw,λM I vs F1 H1 B s1 Y hl J=>?_,hx];match M,vs,J,Y,B with
 |[r,t],[v,u],J,Y,B=>
  dsimp only at B;split at B
  .rename_i i j ei ej;let#[rp,rq,r2]:=Bz Y hl J.1 J.2.1 ei ej;cases rp;cases rq;let#[#[h1,h2,h3,h4],B]:=B;let eb:(big:Int)=1000000:=rfl;show#[i,j,rfl,#[∅,∅,∅,∅],h5 _ I F1 H1 _ B s1 r2 Ld]
  .show B.elim
 |[],_,_,_,B=>show B.elim
 |[_],_,_,_,B=>show B.elim
 |[_,_],[],J,_,_=>show J.elim
 |[_,_],[_],J,_,_=>show J.2.elim
 |[_,_],_::_::_::_,J,_,_=>show J.2.2.elim
 |_::_::_::_,_,_,_,B=>show B.elim
end
def Bj(hc:X.calm=true)(hi:FI X tg iter wi)(hg:FG X ks tg g)(hb:nZ X ks body wb)(hs:∀x,foldedSetIterable iter X.env x=pure x:=by intro _;rfl):FS X ks (.For tg iter body [] pos) (dM wi g wb):=λpn xe hp=>by
 show PS.imp (Ng (X:=wp X pn xe) hp hc (hi pn xe hp) (hg pn xe hp) (hb pn xe hp) hs) λD Z H q=>?_;let#[F,G,U,E,h8,hw,n,b,c,r,x]:=q;show#[F,G,U,_,_,h8,hw,λl h6 F1 H1 J hk s1 r1 it=>?_,x.mono (λI z=>by rw[z];show KP.refl) (zF.refl F) (eT.refl G)];show#[λi m I H2=>m=l.length-i/\i<=l.length/\∃F2 U2,KP ks Z I/\zF F1 F2/\Rel X.K U2 I F2 G H2/\cK g wb (l.drop i) E U2,#[l.length,rfl,zero_le _,F1,h6,KP.refl,zF.refl F1,r1,hk],?_];rintro i m I H2 ⟨rfl,hi,F2,U2,kp,s2,r2,Y⟩;let#[e1,h9]:=it i U2 I F2 G H2 s2 r2;by_cases h1:i<l.length
 .obtain⟨go,h7⟩:=e1 l[i] (by simp);show .inr #[go,λh2 H3=>i+1<=l.length/\∃F3 h4,KP ks Z h2/\zF F1 F3/\Rel X.K h4 h2 F3 G H3/\cK g wb (l.drop (i+1)) E h4,λh2 H3 h=>#[l.length-(i+1),∅,rfl,h],λy H3 hy=>?_];let#[F3,s3,r3,rp]:=h7 y H3 hy;rw[List.drop_eq_getElem_cons h1]at Y;show#[F3,G,U2,_,_,r3.push rp,Y,λh5 e4 F4 H4 e2 k4 s4 r4=>?_];let M:=kp.trans k4;let h3:=s1.trans (s2.trans (s3.trans s4));exact⟨F4,G,h5,_,r4,e2,λB L F' H' h O s r=>#[h1,F',B,M.trans O,s2.trans (s3.trans (s4.trans s)),r,h],λB L F' H' h O s r=>n B L F' H' h (M.trans O) (h3.trans s) r,
   λB L F' H' h O s r=>#[h1,F',B,M.trans O,s2.trans (s3.trans (s4.trans s)),r,h],λa B L v F' H' h O s q rv=>r a B L v F' H' h (M.trans O) (h3.trans s) q rv,x.mono (λe3 O=>M.trans O) h3 (eT.refl G)⟩
 .let e:i=l.length:=Nat.le_antisymm hi (not_lt.mp h1);subst e;rw[List.drop_length]at Y;show .inl #[h9 (zb _),n U2 I F2 H2 Y kp (s1.trans s2) r2]
def Gu(hc:FT X c wc)(hb:nZ X ks body wb):FS X ks (.While c body [] pos) (fH wc wb):=λpn xe hp=>by
 show PS.imp (QG (X:=wp X pn xe) hp (hc pn xe hp) (hb pn xe hp)) λD Z H q=>?_;let#[F,G,U,E,h3,#[J,#[m0,j0],step],n,b,c,r,x]:=q;show#[λm L H2=>∃F2 U2,KP ks Z L/\zF F F2/\Rel X.K U2 L F2 G H2/\J m U2,#[m0,F,U,KP.refl,zF.refl F,h3,j0],?_];rintro m L H2 ⟨F2,U2,Y,s2,r2,j2⟩;show#[F2,G,U2,_,_,r2,step m U2 j2,λk h1 F3 H3 hk s3 r3=>?_,x.mono (λh2 z=>by rw[z];show Y) s2 (eT.refl G)];let B:=s2.trans s3;cases k with
 |true=>
  refine#[λO H4=>∃m',m'<m/\∃F2 U2,KP ks Z O/\zF F F2/\Rel X.K U2 O F2 G H4/\J m' U2,λO H4 h=>h,?_];exact⟨F3,G,h1,_,r3,hk,λi I F' H'⟨m',hm,h⟩ M s r=>#[m',hm,F',i,Y.trans M,B.trans s,r,h],λi I F' H' h M s r=>n i I F' H' h (Y.trans M) (B.trans s) r,
   λi I F' H'⟨m',hm,h⟩ M s r=>#[m',hm,F',i,Y.trans M,B.trans s,r,h],λa i I v F' H' h M s q rv=>r a i I v F' H' h (Y.trans M) (B.trans s) q rv,x.mono (λh2 M=>Y.trans M) B (eT.refl G)⟩
 |false=>show n h1 L F3 H3 hk Y B r3
inductive dR(K:W.Frag)(f:WF)(n:Nat)(vs:List V)(H:Hp)(Q:VK)(Zq:XK):Prop
 |mk (F G:Hp) (ss:List S) (P:S->List S->Prop) (PX:D->List S->Prop) (hn:vs.length=n) (zW:Rel K (ss.map some) (vs.map some) F G H) (hw:f ss P PX) (hok:∀s ss' v F' H',P s ss'->zF F F'->ss'.length=ss.length->Rel K (ss'.map some++[some s]) (vs.map some++[some v]) F' G H'->Q v H') (hex:∀d ss' F' H' C dx,PX d ss'->zF F F'->ss'.length=ss.length->Rel K (ss'.map some) (vs.map some) F' G H'->av K F' d C dx->Zq (.ref C) dx H'):dR K f n vs H Q Zq
section
variable{K:W.Frag}
def Rel.comm(h:U.length=Z.length)(r:Rel K (U++U') (Z++Z') F G H):Rel K (U'++U) (Z'++Z) F G H:=by let:=Rel.swap (U:=[]) (Z:=[]) (U1:=U) (Z1:=Z) (U2:=U') (Z2:=Z') rfl h r;simpa using this
def Rel.lend(r:Rel K (U++(none::U')) (Z++(⇑v::Z')) F G H)(h:U.length=Z.length)(hs:slot U i=⇑s)(B:Z[i]?=⇑⇑v):
  Rel K (U.set i none++(⇑s::U')) (Z++(⇑v::Z')) F G H:=by
 let#[fp,e,nd,ap]:=r.en;let#[f1,O,rfl,a,b]:=e.cut h;let#[v',M,I,L,Y,rfl,q,up]:=a.at hs;rw[B]at Y;let e2:v=v':=↑Y
 subst e2;let a2:=up (F':=F) (H':=H) (o:=none) (u:=⇑v) (fi':=[]) (zF.refl F) (λ_ _=>rfl) (.no .nil);let es:Z.set i ⇑v=Z:=by
  apply ext_getElem?;intro j;by_cases J:i=j
  .subst J;rw[getElem?_set_self (qh.mp B).1,B]
  .rw[getElem?_set_ne J]
 rw[es]at a2;cases b with
 |no b=>
  let p:((M++([]++L))++(I++O)).Perm ((M++(I++L))++O):=by simp;show List.Perm.append_left _ ?_;rw[<-qq,<-qq I];show List.Perm.append_right _ qO
  show#[r.fr,r.gr,_,a2.app (.so q b),p.nodup_iff.mpr nd,λx hx=>ap x (p.mem_iff.mp hx)]
def Rel.back1(r:Rel K (U++(⇑s::U')) (Z++(⇑v::Z')) F G H)(h:U.length=Z.length)(I:Z[i]?=⇑⇑v):Rel K (U.set i ⇑s++U') (Z++Z') F G H:=by
 let hi:i<Z.length:=(qh.mp I).1;let es:Z.set i ⇑v=Z:=by apply ext_getElem?;grind
 let J:U'.length=Z'.length:=by let:=r.len;grind
 let B:=Rel.swap (U1:=[⇑s]) (Z1:=[⇑v]) (U2:=U') (Z2:=Z') h rfl r;rw[<-qq,<-qq]at B;let L:=Rel.store (i:=i) B (by simp[h,J]) (by simp;lia -verbose);grind
theorem IP:∀{rs:List R}{vs:List V}{ms:List Bool}{U U' U1:Env}{ss:List S}{F:Hp}{Z':St},Rel K (U++(rs.map zG++U')) (Z++(vs.map some++Z')) F G H->U.length=Z.length->nX Z vs rs->bW ms rs U=⇑(ss,U1)->
  ∃F',zF F F'/\U1.length=U.length/\ss.length=rs.length/\Rel K (U1++(ss.map some++U')) (Z++(vs.map some++Z')) F' G H
 |[],[],ms,U,U',U1,ss,F,Z',r,h,_,e=>by
  let B:⇑(([]:List S),U)=⇑(ss,U1):=by cases ms<;>show e
  cases B;show#[F,zF.refl F,rfl,rfl,r]
 |[],_::_,_,_,_,_,_,_,_,_,_,h,_=>h.elim
 |_::_,[],_,_,_,_,_,_,_,_,_,h,_=>h.elim
 |x::rs,v::vs,ms,U,U',U1,ss,F,Z',r,h,rv,e=>by
  --the first one,as it is handed on
  have first:∃s U2 I M,bW ms.tail rs U2=⇑(I,U1)/\ss=s::I/\zF F M/\U2.length=U.length/\Rel K (U2++(⇑s::(rs.map zG++U'))) (Z++(⇑v::(vs.map some++Z'))) M G H:=by
   cases x with
   |v s=>
    let B:(match bW ms.tail rs U with|some (ss,U1)=>⇑(s::ss,U1)|none=>none)=⇑(ss,U1):=by cases ms<;>show e
    cases q:bW ms.tail rs U with
    |none=>rw[q]at B;cases B
    |some p=>let#[I,L]:=p;rw[q]at B;cases B;show#[s,U,I,F,q,rfl,zF.refl F,rfl,r]
   |loc i=>
    have B:(match slot U i with
     |some s=>if ms.headD false then(match bW ms.tail rs (U.set i none)with
      |some (ss,U1)=>⇑(s::ss,U1)
      |none=>none)
      else(match bW ms.tail rs (U.set i ⇑(.sh s.toD))with
       |some (ss,U1)=>⇑(.sh s.toD::ss,U1)
       |none=>none)
     |none=>none)=⇑(ss,U1):=by cases ms<;>show e
    cases q:slot U i with
    |none=>rw[q]at B;cases B
    |some s=>
     rw[q]at B;dsimp only at B;by_cases hm:ms.headD false=true
     .rw[q8 hm]at B;cases J:bW ms.tail rs (U.set i none)with
      |none=>rw[J]at B;cases B
      |some p=>let#[I,L]:=p;rw[J]at B;cases B;show#[s,U.set i none,I,F,J,rfl,zF.refl F,by simp,Rel.lend r h q rv.1]
     .rw[q9 hm]at B;cases J:bW ms.tail rs (U.set i ⇑(.sh s.toD))with
      |none=>rw[J]at B;cases B
      |some p=>let#[I,L]:=p;rw[J]at B;cases B;let#[M,Y,l1,O]:=Al (x:=.loc i) (s:=.sh s.toD) (U1:=U.set i ⇑(.sh s.toD)) r h rv.1 (by show(match slot U i with|some s=>⇑(S.sh s.toD,U.set i ⇑(.sh s.toD))|none=>none)=_;rw[q]);show#[_,_,I,M,J,rfl,Y,by simp,O]
  let#[s,U2,I,M,J,rfl,Y,l1,O]:=first
  let h2:U2.length=Z.length:=l1.trans h;let hl:(rs.map zG++U').length=(vs.map some++Z').length:=by let:=O.len;rw[qr,qr,qu,qu]at this;lia
  let h1:U'.length=Z'.length:=by let:=rv.2.len;simp at hl;lia
  let r2:=Rel.swap (U1:=[⇑s]) (Z1:=[⇑v]) (U2:=rs.map zG++U') (Z2:=vs.map some++Z') h2 rfl O;rw[qq,qq]at r2;let#[F2,s2,l2,l3,r3]:=IP (rs:=rs) (vs:=vs) r2 h2 rv.2 J;let h3:U1.length=Z.length:=l2.trans h2;rw[<-qq (I.map some),<-qq (vs.map some)]at r3;let r4:=Rel.swap (U1:=I.map some++U') (Z1:=vs.map some++Z') (U2:=[⇑s]) (Z2:=[⇑v]) h3 (by simp[l3,rv.2.len,h1]) r3;show#[F2,Y.trans s2,l2.trans l1,by simp[l3],r4]
def Dr:∀{rs:List R}{vs:List V}{ms:List Bool}{U U':Env}{ss:List S}{Z':St},Rel K (U++(ss.map some++U')) (Z++(vs.map some++Z')) F G H->U.length=Z.length->ss.length=rs.length->nX Z vs rs->
  (back ms rs ss U).length=U.length/\Rel K (back ms rs ss U++U') (Z++Z') F G H
 |[],[],ms,U,U',[],Z',r,h,_,_=>by
  let e:back ms [] [] U=U:=by cases ms<;>rfl
  show#[rfl,r]
 |[],_,_,_,_,_::_,_,_,_,hl,_=>by simp at hl
 |_::_,_,_,_,_,[],_,_,_,hl,_=>by simp at hl
 |[],_::_,_,_,_,_,_,_,_,_,h=>h.elim
 |_::_,[],_,_,_,_,_,_,_,_,h=>h.elim
 |x::rs,v::vs,ms,U,U',s::ss,Z',r,h,hl,rv=>by
  cases x with
  |v t=>
   let e:back ms (.v t::rs) (s::ss) U=back ms.tail rs ss U:=by cases ms<;>rfl
   show Dr (rs:=rs) (vs:=vs) (r.mid h) h ↑hl rv.2
  |loc i=>
   let e:back ms (.loc i::rs) (s::ss) U=if ms.headD false then back ms.tail rs ss (U.set i ⇑s)else back ms.tail rs ss U:=by cases ms<;>rfl
   rw[e];by_cases B:ms.headD false=true
   .rw[q8 B];let q:=Dr (rs:=rs) (vs:=vs) (ms:=ms.tail) (U:=U.set i ⇑s) (Rel.back1 r h rv.1) ↑h ↑hl rv.2;show#[q.1.trans (by simp),q.2]
   .rw[q9 B];show Dr (rs:=rs) (vs:=vs) (r.mid h) h ↑hl rv.2
end
def Pu(Fk:cY X.prog X.w X.K X.mg X.base (fV X.prog X.w) k f fd ps (dR X.K wf n))(hr:bQ k X.A)(hg:Gl X x)(hm:X.mg x=⇑(.ref f))(O:W.keepIn X.K (.ref f)=true)(hb:Binds X.K fd ps [])
  (ha:FA X (e::es) wa)(zX:∀ss P PX,wf ss P PX->ss.length=n)(h6:autoParam ((x==("__debug__":Str))=false) dZ9)(he:autoParam (starEach (e::es) X.env=(false,eval e X.env)::starEach es X.env) rZ9)(h4:autoParam ((backTo pos (starEach es X.env)).any (·.1)=false) rZ9):
  FE X (.Call (.Name x p) (e::es) [] pos) (zN wf ms wa):=λpn xe hp=>by
 show PE.imp (PR (X:=wp X pn xe) Fk hr hg hm O hb (ha pn xe hp) h6 he h4) λZ H Q q=>?_;show(many (k:=λrs B Q E=>zz (bW ms rs B) λp=>wf p.1 (λs ss=>Q (.v s) (back ms rs ss p.2)) (λx ss=>E x (back ms rs ss p.2))) q).mono λvs H1 h1=>?_;let#[F,G,U,rs,P,PX,h2,hl,L,O,h5,hx]:=h1;let#[#[ss,B],ep,O]:=Ah O;let#[F1,s1,l1,M,r1]:=IP (U':=[]) (Z':=[]) ↑h2 hl L ep;let h1:B.length=Z.length:=l1.trans hl;let r2:=Rel.comm (U':=ss.map some) (Z':=vs.map some) h1 ↑r1;let h3:(ss.map some).length=(vs.map some).length:=by simp[M,L.len]
 let#[G',r3,gg,bk]:=r2.hide h3;let hn:=zX _ _ _ O;show#[F1,G',ss,_,_,by rw[L.len,<-M];show hn,r3,O,λs J v F2 H2 hp Y l3 r4=>?_,λd J F2 H2 C dx hp Y l3 r4 cd a s' I Fl=>?_]
 .let r5:=bk Y r4;let i:(J.map some++[⇑s]).length=(vs.map some++[⇑v]).length:=by simp[l3,M,L.len]
  let r6:=Rel.comm i r5;let#[l7,r7]:=Dr (ms:=ms) (rs:=rs) (vs:=vs) (U':=[⇑s]) (Z':=[⇑v]) r6 h1 (l3.trans M) L;show h5 _ _ v F2 H2 hp (s1.trans Y) r7 trivial
 .let r5:=bk Y r4;let i:(J.map some).length=(vs.map some).length:=by simp[l3,M,L.len]
  let r6:=Rel.comm i r5;let#[l7,r7]:=Dr (ms:=ms) (rs:=rs) (vs:=vs) (U':=[]) (Z':=[]) ↑r6 h1 (l3.trans M) L;show hx d _ Z F2 H2 (.ref a) s' hp rfl (s1.trans Y) ↑r7 I #[a,C,dx,rfl,cd,Fl]
section
variable{K:W.Frag}
def Rel.pushNs(r:Rel K U Z F G H):∀m:Nat,Rel K (U++List.replicate m none) (Z++List.replicate m none) F G H
 |0=>↑r
 |m+1=>by let:=(Rel.pushNs r m).pushN (u:=none);rw[qq,qq,<-List.replicate_succ',<-List.replicate_succ']at this;show this
@[inline]def Args(K:W.Frag)(F:Hp):List S->List V->St->Prop
 |[],[],_=>True
 |s::ss,v::vs,u::Z=>((∃d,s=.sh d/\aI K F v d)\/(s.isSh=false/\u=⇑v))/\Args K F ss vs Z
 |_,_,_=>False
def EZ:∀{ss:List S}{vs:List V}{fs:List S}{U U' Ua:Env}{Z Z' Za:St},aC ss U=⇑fs->Rel K (Ua++(U++U')) (Za++(Z++Z')) F G H->Ua.length=Za.length->U.length=Z.length->Args K F ss vs Z->
  fs.length=ss.length/\vs.length=ss.length/\Rel K (Ua++(fs.map some++U')) (Za++(vs.map some++Z')) F G H
 |[],[],fs,U,U',Ua,Z,Z',Za,e,r,h,h2,_=>by
  let i:⇑([]:List S)=⇑fs:=by cases U<;>show e
  cases i;show#[rfl,rfl,?_];let I:=Rel.swap (U1:=U) (Z1:=Z) (U2:=U') (Z2:=Z') h h2 r;rw[<-qq,<-qq]at I;let hl:(Ua++U').length=(Za++Z').length:=by let:=r.len;simp at this;simp;lia
  simpa using I.drop hl
 |[],_::_,_,_,_,_,_,_,_,_,_,_,_,h=>by cases h
 |_::_,[],_,_,_,_,_,_,_,_,_,_,_,h=>by cases h
 |_::_,_::_,_,_,_,_,[],_,_,_,_,_,_,h=>by cases h
 |_::_,_::_,_,[],_,_,_::_,_,_,_,_,_,h2,_=>by simp at h2
 |s::ss,v::vs,fs,o::U,U',Ua,u::Z,Z',Za,e,r,h,h2,ha=>by
  let L:U.length=Z.length:=↑h2
  let#[h1,J]:=ha;rcases h1 with⟨d,rfl,rp⟩|⟨hs,hu⟩
  .have i:(aC ss U).map (S.sh d::·)=⇑fs:=e;cases q:aC ss U with
   |none=>rw[q]at i;cases i
   |some B=>
    rw[q]at i;let h3:S.sh d::B=fs:=qg i;subst h3;let I:Rel K (Ua++(U++U')) (Za++(Z++Z')) F G H:=Rel.mid (U:=Ua) (Z:=Za) r h;let#[Y,O,M]:=EZ q I h L J;let hl:(B.map some++U').length=(vs.map some++Z').length:=by let:=M.len;simp at this;simp;lia
    let r3:=M.push rp;rw[qq Ua,qq Za]at r3;let r4:=Rel.swap (U1:=B.map some++U') (Z1:=vs.map some++Z') (U2:=[⇑(.sh d)]) (Z2:=[⇑v]) h hl r3;show#[by simp[Y],by simp[O],r4]
  .subst hu;let i:∃t B,o=⇑t/\aC ss U=⇑B/\fs=t::B:=by
    cases s with
    |sh d=>cases hs
    |_=>
     cases o with
     |none=>cases e
     |some t=>
      let i:(aC ss U).map (t::·)=⇑fs:=e;cases q:aC ss U with
      |none=>rw[q]at i;cases i
      |some B=>rw[q]at i;show#[t,B,rfl,rfl,(qg i).symm]
   let#[t,B,rfl,q,rfl]:=i;let I:Rel K ((Ua++[⇑t])++(U++U')) ((Za++[⇑v])++(Z++Z')) F G H:=↑r
   let#[Y,O,M]:=EZ q I (by simp[h]) L J;show#[by simp[Y],by simp[O],↑M]
def IZ{ks:List Nat}:∀{ss:List S}{vs:List V}{Z:St}{j:Nat}{fp:List Addr},zH K F0 H (ss.map some) (vs.map some) fp->zF F0 F->(∀i s,ss[i]?=⇑s->(j+i)∈ks\/s.isSh=true)->
  (∀i v,vs[i]?=⇑v->(j+i)∈ks->Z[i]?=⇑⇑v)->vs.length<=Z.length->Args K F ss vs Z
 |[],[],_,_,_,_,_,_,_,_=>trivial
 |[],_::_,_,_,_,r,_,_,_,_=>by cases r
 |_::_,[],_,_,_,r,_,_,_,_=>by cases r
 |_::_,_::_,[],_,_,_,_,_,_,h=>by simp at h
 |s::ss,v::vs,u::Z,j,_,.so a b,sm,hk,hv,hl=>by
  show#[?_,IZ (j:=j+1) b sm (λi t e=>by let:=hk (i+1) t e;rwa[show j+(i+1)=j+1+i by lia]at this) (λi t e z=>by simpa using hv (i+1) t ↑e (by rwa[show j+(i+1)=j+1+i by lia])) ↑hl];cases B:s.isSh with
  |true=>
   cases s with
   |sh d=>cases a with
    |sh r=>show .inl #[d,rfl,r.mono sm]
   |_=>cases B
  |false=>show .inr #[rfl,?_];let:=hk 0 s rfl;rw[B]at this;let z:(j+0)∈ks:=this.resolve_right (by simp);simpa using hv 0 v rfl z
theorem Ed{st:Stmt}(Fn:xC K x qual st f fd)(Sc:aG N ps (aB st))(hn:ps.length=n)(hm:N.length=m)
  (hb:∀(O:Value)(A:Around)(B:List PySem.Env)(s:Shared)(H:Hp)(E:XK),bQ k (A.deeper (envOfC qual (aB st) s.heap.objs.size f O))->nZ (eX (fV P w) P w K mg base N qual (aB st) f O A B s H E) ks (bT st) wb):
  cY P w K mg base (fV P w) (k+1) f fd ps (dR K (fY n m ks wb) n):=by
 show Fn.okX Sc (λY H Q E h=>?_) (λO A B s H Y Q E hr h=>?_)
 .obtain⟨F,G,ss,P',PX,hl,_⟩:=h;rw[hl,hn]
 .obtain⟨F,G,ss,P',PX,h6,h3,⟨e3,e2,h2⟩,h9,hex⟩:=h;show#[_,hb O A B s H E hr [] (eX (fV P w) P w K mg base N qual (aB st) f O A B s H E).xe PassesOwn.leaving,?_];let e1:N.length-Y.length=m-n:=by rw[h6,hm]
  let h8:Rel K (ss.map some++List.replicate (m-n) none) (L2.start N Y) F G H:=by unfold L2.start;rw[e1];show h3.pushNs (m-n)
  let h7:∀i v,Y[i]?=⇑v->(L2.start N Y)[i]?=⇑⇑v:=λi v e=>by unfold L2.start;let hi:i<Y.length:=(qh.mp e).1;rw[getElem?_append_left ↑hi,qG,e];rfl
  --how the arguments are at an end
  have h4:∀{U':Env}{Z':St}{F':Hp}{fs:List S},KP ks (L2.start N Y) Z'->zF F F'->U'.length=Z'.length->aC ss U'=⇑fs->Args K F' ss Y Z':=by
   intro U' Z' F' fs L J M e;let#[fp,en,_]:=h3.en;let h5:Y.length<=Z'.length:=by
    --aC reads as many slots as there are arguments
    have:∀(ss:List S)(U:Env)(fs:List S),aC ss U=⇑fs->ss.length<=U.length:=by
     intro ss;induction ss with
     |nil=>intro U fs _;simp
     |cons s ss ih=>
      intro U fs e;cases U with
      |nil=>cases s<;>cases e
      |cons o U=>
       have:∃gs,aC ss U=⇑gs:=by
        cases q:aC ss U with
        |some gs=>show#[gs,rfl]
        |none=>
         cases s with
         |sh d=>have e':(aC ss U).map (S.sh d::·)=⇑fs:=e;rw[q]at e';cases e'
         |_=>
          cases o with
          |none=>cases e
          |some t=>have e':(aC ss U).map (t::·)=⇑fs:=e;rw[q]at e';cases e'
       let#[gs,q]:=this;let:=ih U gs q;simp;show this
    let:=this ss U' fs e;lia
   show IZ (ks:=ks) (F:=F') (Z:=Z') (j:=0) en J (λi s e=>by simpa using e2 i s e) (λi v e z=>by rw[L i ↑z];show h7 i v e) h5
  let h1:∀{U':Env}{Z':St}{F' H':Hp}{t:S}{v:V}{fs:List S},KP ks (L2.start N Y) Z'->zF F F'->Rel K (U'++[⇑t]) (Z'++[⇑v]) F' G H'->aC ss U'=⇑fs->P' t fs->Q v H':=by intro U' Z' F' H' t v fs L J r e hp;let M:U'.length=Z'.length:=Ad r;let#[l1,l2,r1]:=EZ (Ua:=[]) (Za:=[]) (U':=[⇑t]) (Z':=[⇑v]) e r rfl M (h4 L J M e);show h9 t fs v F' H' hp J l1 r1
  show#[F,G,_,_,h8,h2,λU' Z' F' H' h L J r=>?_,λU' Z' F' H' h=>h.elim,λU' Z' F' H' h=>h.elim,λa U' Z' v F' H' h L J r rv=>?_,λd U' Z' F' H' u s' h L J r I xr=>?_]
  .obtain⟨fs,e,h⟩:=Ah h;show h1 L J (r.push .non) e h
  .cases a with
   |v t=>let#[fs,e,h]:=Ah h;show h1 L J r e h
   |loc i=>
    let#[t,et,h]:=Ah h;let hl:=Ad r;by_cases hi:i<n
    .rw[q8 hi]at h;let#[fs,e,h]:=Ah h;let#[F2,s2,_,r2]:=Al (x:=.loc i) (s:=.sh t.toD) (U1:=U'.set i ⇑(.sh t.toD)) (U':=[]) (Z':=[]) r hl rv (by show(match slot U' i with|some s=>⇑(S.sh s.toD,U'.set i ⇑(.sh s.toD))|none=>none)=_;rw[et]);show h1 L (J.trans s2) r2 e h
    .rw[q9 hi]at h;let#[fs,e,h]:=Ah h;let r2:=Rel.lend (U':=[]) (Z':=[]) r hl et rv;refine h1 L J r2 ?_ h
     --the slot lies behind the parameters
     have:∀(ss:List S)(U:Env)(i:Nat),ss.length<=i->aC ss (U.set i none)=aC ss U:=by
      intro ss;induction ss with
      |nil=>intro U i _;cases U<;>cases i<;>rfl
      |cons s ss ih=>
       intro U i hi;cases U with
       |nil=>rfl
       |cons o U=>
        cases i with
        |zero=>simp at hi
        |succ i=>
         let e:=ih U i ↑hi;cases s with
         |sh d=>show(aC ss (U.set i none)).map _=(aC ss U).map _;rw[e]
         |_=>
          cases o with
          |none=>rfl
          |some t=>show(aC ss (U.set i none)).map _=(aC ss U).map _;rw[e]
     rw[this ss U' i ∅];show e
  .obtain⟨fs,e,h⟩:=Ah h;let#[a,C,dx,rfl,cd,Fl]:=xr;let#[l1,l2,r1]:=EZ (K:=K) (Ua:=[]) (Za:=[]) (U':=[]) (Z':=[]) e (by simpa using(show Rel K U' Z' F' G H' from r)) rfl r.len (h4 L J r.len e);show PN I Fl (hex d fs F' H' C dx h J l1 ↑r1 cd)
end
end FL
namespace L2
open PySem PySem.Spec PyProof.Rows
def bY(cells:List (Str×Addr)):List (Str×NameKind)->List (Str×Addr)->List (Str×Addr)
 |[],zZ=>zZ
 |(n,k)::r,zZ=>if k==.free then(match cells.lookup n with|some c=>bY cells r ((n,c)::zZ)|none=>bY cells r zZ)else bY cells r zZ
def GH(f:Str×NameKind->List (Str×Addr)->Sem (ForInStep (List (Str×Addr))))
  (hf:∀n k cs,f (n,k) cs=if k==.free then(do let a<-cellOf env n;pure (.yield ((n,a)::cs)))else pure (.yield cs)):
  ∀(names:List (Str×NameKind))(zZ:List (Str×Addr)),(∀x∈names,x.2=.free->∃c,env.cells.lookup x.1=⇑c)->(forIn names zZ f:Sem _)=pure (bY env.cells names zZ)
 |[],zZ,_=>by rw[List.forIn_nil];rfl
 |(n,k)::r,zZ,h=>by
  rw[List.forIn_cons,hf];let hr:∀x∈r,x.2=.free->∃c,env.cells.lookup x.1=⇑c:=λx hx=>h x (qm _ hx);by_cases hk:(k==.free)=true
  .obtain⟨c,hc⟩:=h (n,k) qo ↑hk;let hc':env.cells.lookup n=⇑c:=hc;let e:cellOf env n=pure c:=by unfold cellOf;rw[hc']
   rw[q8 hk,e];let ih:=GH f hf r ((n,c)::zZ) hr;unfold bY;rw[q8 hk,hc'];rw[<-ih];simp
  .rw[q9 hk];let ih:=GH f hf r zZ hr;unfold bY;rw[q9 hk,<-ih];simp
def UJ(h:∀x∈scope.names,x.2=.free->∃c,env.cells.lookup x.1=⇑c):closureFor scope env=pure (bY env.cells scope.names []):=by show(forIn scope.names ([]:List (Str×Addr)) _>>=λi=>pure i)=_;rw[GH (env:=env) _ (λn k i=>rfl) scope.names [] h];rfl
def EX:∀{names:List (Str×NameKind)}{i:List (Str×Addr)},(n,c)∈bY cells names i->(n,c)∈i\/((n,NameKind.free)∈names/\cells.lookup n=⇑c)
 |[],_,h=>.inl h
 |(m,k)::r,i,h=>by
  unfold bY at h;by_cases B:(k==.free)=true
  .rw[q8 B]at h;let v:k=.free:=by simpa using B
   cases q:cells.lookup m with
   |none=>
    rw[q]at h;rcases EX h with z|⟨z,w⟩
    .show .inl z
    .show .inr #[qm _ z,w]
   |some d=>
    rw[q]at h;rcases EX h with z|⟨z,w⟩
    .rcases qB.mp z with e|z
     .cases e;show .inr #[by rw[<-v];show qo,q]
     .show .inl z
    .show .inr #[qm _ z,w]
  .rw[q9 B]at h;rcases EX h with z|⟨z,w⟩
   .show .inl z
   .show .inr #[qm _ z,w]
def Du(v:cells.lookup n=⇑c):∀{names:List (Str×NameKind)}{i:List (Str×Addr)},((n,c)∈i\/(n,NameKind.free)∈names)->(n,c)∈bY cells names i
 |[],_,h=>h.elim id λz=>by simp at z
 |(m,k)::r,i,h=>by
  unfold bY;by_cases B:(k==.free)=true
  .rw[q8 B];cases q:cells.lookup m with
   |none=>
    show Du v ?_;rcases h with z|z
    .show .inl z
    .rcases qB.mp z with e|z
     .cases e;rw[v]at q;cases q
     .show .inr z
   |some d=>
    show Du v ?_;rcases h with z|z
    .show .inl (qm _ z)
    .rcases qB.mp z with e|z
     .cases e;rw[v]at q;cases q;show .inl qo
     .show .inr z
  .rw[q9 B];show Du v ?_;rcases h with z|z
   .show .inl z
   .rcases qB.mp z with e|z
    .cases e;show(B ⋯).elim
    .show .inr z
def LF{α:Type}:∀{l:List (Str×α)}{n:Str}{c:α},(n,c)∈l->(∀i,(n,i)∈l->i=c)->l.lookup n=⇑c
 |[],_,_,h,_=>by simp at h
 |(m,d)::r,n,c,h,u=>by
  rw[lookup_cons];cases v:n==m with
  |true=>
   let e:n=m:=↑v
   subst e;show congrArg some (u d qo)
  |false=>
   show LF (l:=r) ?_ λi B=>u i (qm _ B);rcases qB.mp h with e|h
   .cases e;simp at v
   .show h
def Hg:∀{names:List (Str×NameKind)}{n:Nat}{i:List (Str×Addr)}{x:Str}{c:Addr},(x,c)∈cellsFrom n names i->(x,c)∈i\/((x,NameKind.cell)∈names/\n<=c)
 |[],_,_,_,_,h=>.inl h
 |(m,k)::r,n,i,x,c,h=>by
  unfold cellsFrom at h;by_cases B:(k==.cell)=true
  .rw[q8 B]at h;let v:k=.cell:=by simpa using B
   rcases Hg h with z|⟨z,w⟩
   .rcases qB.mp z with e|z
    .cases e;show .inr #[by rw[<-v];show qo,zb _]
    .show .inl z
   .show .inr #[qm _ z,∅]
  .rw[q9 B]at h;rcases Hg h with z|⟨z,w⟩
   .show .inl z
   .show .inr #[qm _ z,w]
def DK:∀{names:List (Str×NameKind)}{n:Nat}{i:List (Str×Addr)}{x:Str},((x,NameKind.cell)∈names\/∃c,(x,c)∈i)->∃c,(x,c)∈cellsFrom n names i
 |[],_,_,_,h=>h.elim (λz=>by simp at z) id
 |(m,k)::r,n,i,x,h=>by
  unfold cellsFrom;by_cases v:(k==.cell)=true
  .rw[q8 v];show DK ?_;rcases h with z|⟨c,z⟩
   .rcases qB.mp z with e|z
    .cases e;show .inr #[n,qo]
    .show .inl z
   .show .inr #[c,qm _ z]
  .rw[q9 v];show DK ?_;rcases h with z|z
   .rcases qB.mp z with e|z
    .cases e;show(v ⋯).elim
    .show .inl z
   .show .inr z
def Fe{α:Type}:∀{l:List (Str×α)}{x:Str},(∃c,(x,c)∈l)->∃c,l.lookup x=⇑c
 |[],_,⟨_,h⟩=>by simp at h
 |(m,d)::r,x,⟨c,h⟩=>by
  rw[lookup_cons];cases i:x==m with
  |true=>show#[d,rfl]
  |false=>
   show Fe (l:=r) #[c,?_];rcases qB.mp h with e|h
   .cases e;simp at i
   .show h
def Hf:∀{names:List (Str×NameKind)}{n:Nat}{i:List (Str×Addr)},(∀p∈i,p.2<n)->(∀p∈i,∀q∈i,p.2=q.2->p.1=q.1)->
  ∀p∈cellsFrom n names i,∀q∈cellsFrom n names i,p.2=q.2->p.1=q.1
 |[],_,_,_,h=>h
 |(m,k)::r,n,i,hb,h=>by
  unfold cellsFrom;by_cases G:(k==.cell)=true
  .rw[q8 G];refine Hf (λp v=>?_) λp v q B e=>?_
   .rcases qB.mp v with rfl|v
    .show Nat.lt_succ_self _
    .show lt_succ_of_lt (hb p v)
   .rcases qB.mp v with rfl|v<;>rcases qB.mp B with rfl|B
    .rfl
    .let h1:=hb q B;let F:n=q.2:=e;show absurd h1 (by rw[<-F];show lt_irrefl _)
    .let h1:=hb p v;let F:p.2=n:=e;show absurd h1 (by rw[F];show lt_irrefl _)
    .show h p v q B e
  .rw[q9 G];show Hf hb h
def Uh
  (O:∀h':Heap,(∀b o,s.heap.get? b=⇑o->h'.get? b=⇑o)->h'.Ns s.heap.objs.size (λ_=>none)->(∀x c,(x,c)∈cellsFrom (s.heap.objs.size+1) scope.names B->(x,c)∈B\/h'.IsCell c none)->
   Q {scope:=scope,locals:=s.heap.objs.size,globals:=globals,cells:=cellsFrom (s.heap.objs.size+1) scope.names B,qual:=qual,func:=none,code:=env.code,frame:=env.frame,builtins:=env.builtins} {s with heap:=h'}):
  wpAny M A (newFunctionEnv scope globals B [] qual none .none ⇑env) Q E s:=by
 simp only[newFunctionEnv,isSome_some,if_true];show qa (wpAny_alloc ?_);show qa (wpAny_layCells _ (λG kind cells=>by cases L:kind==NameKind.cell<;>simp) _ _ _ _ ?_);rw[show({s with heap:=s.heap.push {cls:=.type "dict",data:=.dict #[]}}:Shared).heap.objs.size=s.heap.objs.size+1 from Heap.size_push ..];show qb (O _ (λb o e=>pushCells_keeps _ _ b o (qc _ e)) ((Heap.Ns.new s.heap (.type "dict")).keeps (pushCells_keeps _ _)) λx c h=>?_)
 --the new cells are empty
 have all:∀(names:List (Str×NameKind))(h:Heap)(v:List (Str×Addr)),(∀p∈v,p∈B\/h.IsCell p.2 none)->∀p∈cellsFrom h.objs.size names v,p∈B\/(pushCells h names).IsCell p.2 none:=by
  intro names;induction names with
  |nil=>intro h v F p i;show F p i
  |cons q r I=>
   intro h v F p i;let#[m,k]:=q;unfold cellsFrom at i;unfold pushCells;by_cases J:(k==.cell)=true
   .rw[q8 J]at i⊢;let e:(h.push {cls:=.type "cell",data:=.cell none}).objs.size=h.objs.size+1:=Heap.size_push ..;rw[<-e]at i;show I _ _ (λp i=>?_) p i;rcases qB.mp i with rfl|i
    .show .inr #[_,qd _ rfl,rfl]
    .rcases F p i with z|z
     .show .inl z
     .show .inr (z.keeps λb o e=>qc _ e)
   .rw[q9 J]at i⊢;show I h v F p i
 let:=all scope.names (s.heap.push {cls:=.type "dict",data:=.dict #[]}) B (λp i=>.inl i) (x,c) (by rw[Heap.size_push];show h);show this
def fS(N vars:List Str):List Str:=N.map (λx=>if x∈vars then Str.empty else x)++Str.empty::vars
def aE(X:Cx)(scope:Scope)(vars:List Str)(s:Shared)(H:Hp)(ex:List Addr):Cx where
 prog:=X.prog
 w:=X.w
 K:=X.K
 mg:=X.mg
 base:=X.base
 A:=X.A
 N:=fS X.N vars
 s₀:=s
 H₀:=H
 env:=compEnvC scope (cellsFrom (s.heap.objs.size+1) scope.names (bY X.env.cells scope.names [])) s.heap.objs.size X.env
 outer:=X.stack
 stack:=X.stack
 ex:=ex
 fn:=λx=>↥((x,NameKind.cell)∈scope.names)
 calm:=X.calm
 pn:=[]
 xe:=λ_ _=>False
structure bV(outer scope:Scope)(N vars:List Str):Prop where
 kind:scope.kind=.function
 fr:∀x∈scope.names,x.2=.free->outer.names.lookup x.1=⇑.cell\/outer.names.lookup x.1=⇑.free
 nd:(scope.names.map (·.1)).Nodup
 own:∀x∈N,x∉vars->(x,NameKind.local)∉scope.names/\(x,NameKind.cell)∉scope.names
 emp:scope.names.lookup Str.empty=none
def Fg{α:Type}{l:List (Str×α)}{c:α}(i:(l.map (·.1)).Nodup):l.lookup n=⇑c↔(n,c)∈l:=by
 show#[mem_of_lookup,λh=>LF h λB h'=>?_];induction l with
 |nil=>simp at h
 |cons p r v=>grind
theorem Lz{α β:Type}(g:Str->α->β):∀(l:List (Str×α))(n:Str),(l.map λp=>(p.1,g p.1 p.2)).lookup n=(l.lookup n).map (g n)
 |[],_=>rfl
 |(m,d)::r,n=>by
  rw[qz,lookup_cons,lookup_cons];cases i:n==m with
  |true=>have e:n=m:=by simpa using i
         subst e;rfl
  |false=>show Lz g r n
def rl(env:PySem.Env)(n:Str)(k:NameKind):NameKind:=if(k==NameKind.free&&env.scope.kind==.function&&env.kindOf n==⇑.cell)then NameKind.cell else k
def UL(scope:Scope)(env:PySem.Env):(relabel scope env).names=scope.names.map λp=>(p.1,rl env p.1 p.2):=by
 show map_congr_left λp _=>?_;let#[n,k]:=p;show(if(k==NameKind.free&&env.scope.kind==.function&&env.kindOf n==⇑.cell)=true then(n,NameKind.cell)else(n,k))=(n,rl env n k);unfold rl;by_cases h:(k==NameKind.free&&env.scope.kind==.function&&env.kindOf n==⇑.cell)=true
 .rw[q8 h,q8 h]
 .rw[q9 h,q9 h]
def Ff(scope:Scope)(env:PySem.Env)(x:Str):(relabel scope env).names.lookup x=(scope.names.lookup x).map (rl env x):=by rw[UL,Lz]
def Do(h:k≠.free):rl env x k=k:=by unfold rl;rw[q9];intro z;simp at z;show h z.1.1
def Pv:rl env x .free=.cell\/rl env x .free=.free:=by
 unfold rl;split
 .show .inl rfl
 .show .inr rfl
def QN(h:(fS N vars)[i]?=⇑x)(hi:i<N.length):(N[i]?=⇑x/\x∉vars)\/x=Str.empty:=by
 unfold fS at h;rw[getElem?_append_left ↑hi,qG]at h;cases q:N[i]? with
 |none=>rw[q]at h;cases h
 |some y=>grind
def Inv.comp(I:Inv X zU Z H s)(S:bV X.env.scope scope X.N vars)(hex:∀b∈ex,cO X zU H b/\b<s.heap.objs.size)(kept:∀b o,s.heap.get? b=⇑o->h'.get? b=⇑o)(h7:h'.Ns s.heap.objs.size (λ_=>none))
  (h9:∀x c,(x,c)∈cellsFrom (s.heap.objs.size+1) scope.names (bY X.env.cells scope.names [])->(x,c)∈bY X.env.cells scope.names []\/h'.IsCell c none)(hk:vars.length=k)(w0:Option V):
  Inv (aE X scope vars s H ex) [] (Z++w0::List.replicate k none) H {s with heap:=h'}:=by
 have cm:∀{x:Str}{c:Addr},(x,c)∈bY X.env.cells scope.names []->(x,NameKind.free)∈scope.names/\X.env.cells.lookup x=⇑c:=λ{x c} h=>by
  rcases EX h with z|z
  .simp at z
  .show z
 let lt:∀{x:Str}{c:Addr},X.env.cells.lookup x=⇑c->c<s.heap.objs.size:=λ{x c} h=>by let#[v,z]:=I.cell x c h;show z.lt
 have look:∀{x:Str}{c:Addr},(aE X scope vars s H ex).env.cells.lookup x=⇑c->(X.env.cells.lookup x=⇑c/\(x,NameKind.free)∈scope.names)\/((x,NameKind.cell)∈scope.names/\s.heap.objs.size+1<=c):=λ{x c} h=>by
  rcases Hg (mem_of_lookup h)with z|z
  .show .inl #[(cm z).2,(cm z).1]
  .show .inr z
 let uniq:∀{x:Str}{a b:NameKind},(x,a)∈scope.names->(x,b)∈scope.names->a=b:=λ{x a b} h1 h2=>by let e1:=(Fg S.nd).mpr h1;let e2:=(Fg S.nd).mpr h2;rw[e1]at e2;show qg e2
 --what a visible name is,seen from around
 have h4:∀{x:Str},((relabel scope X.env).names.lookup x=⇑.cell\/(relabel scope X.env).names.lookup x=⇑.free)->(x,NameKind.cell)∈scope.names\/(x,NameKind.free)∈scope.names:=λ{x} h=>by
  rw[Ff]at h;cases q:scope.names.lookup x with
  |none=>rw[q]at h;rcases h with h|h<;>cases h
  |some k=>
   let L:=mem_of_lookup q;rw[q]at h;let h0:⇑(rl X.env x k)=⇑.cell\/⇑(rl X.env x k)=⇑.free:=h;cases k with
   |cell=>show .inl L
   |free=>show .inr L
   |«local»=>rw[Do ⋯]at h0;rcases h0 with h|h<;>cases h
   |globalImplicit=>rw[Do ⋯]at h0;rcases h0 with h|h<;>cases h
   |globalExplicit=>rw[Do ⋯]at h0;rcases h0 with h|h<;>cases h
 have ok:(aE X scope vars s H ex).Ok:=by
  show#[I.ok.mod,S.kind,I.ok.glob,I.ok.blt,zb _,λx y c h1 h2=>?_,λx h=>?_,λx c hf h=>?_,I.ok.hd,I.ok.frames,.inl rfl,λb M=>#[?_,λx c h z=>?_],I.bs,le_trans I.ok.bsz I.sz,λb o e M=>?_,λb M z=>?_,I.stack,I.stkFree]
  .refine Hf (λp hp=>?_) (λp hp q hq e=>?_) (x,c) (mem_of_lookup h1) (y,c) (mem_of_lookup h2) rfl
   .show lt_succ_of_lt (lt (cm (x:=p.1) (c:=p.2) hp).2)
   .show I.ok.inj _ _ _ (cm (x:=p.1) (c:=p.2) hp).2 (e▸(cm (x:=q.1) (c:=q.2) hq).2)
  .rcases h4 h with z|z
   .show Fe (DK (.inl z))
   .obtain⟨c,hc⟩:=I.ok.has x (S.fr (x,.free) z rfl);show Fe (DK (.inr #[c,Du hc (.inr z)]))
  .let h8:(x,NameKind.cell)∈scope.names:=qV hf;rcases look h with⟨_,z⟩|⟨_,z⟩
   .cases uniq h8 z
   .show Nat.le_of_succ_le z
  .show ne_of_lt (hex b M).2
  .rcases look h with⟨w,_⟩|⟨_,w⟩
   .show(hex b M).1.2.2.2.2.1 x c w z
   .let h1:=(hex b M).2;rw[<-z]at h1;show absurd (lt_of_lt_of_le h1 (Nat.le_of_succ_le w)) (lt_irrefl _)
  .obtain⟨_,_,_,h1,_⟩:=(hex b M).1;rcases h1 with z|z
   .show I.ok.noex b o e z
   .rw[(I.ok.bs b o e).1]at z;cases z
  .obtain⟨_,h2,O,_⟩:=(hex b M).1;rcases qB.mp (I.stkSub b z)with w|w
   .show h2 w
   .show O w
 let F:∀{c:Addr}{v:Option Value},s.heap.IsCell c v->h'.IsCell c v:=λz=>z.keeps kept;show#[ok,rfl,I.bare,Un.kept kept,#[_,h7,λi x v h1 h2 O=>?_],λx c h=>?_,I.hok.fresh (zb _),λx c h=>?_,λp hp=>absurd (show p∈([]:List (Addr×Obj)) from hp) (by simp),I.hok.kept kept,?_]
 ·--a slot of the context
  let h5:¬ay (aE X scope vars s H ex).env.scope Str.empty:=λO=>by let G:(relabel scope X.env).names.lookup Str.empty=⇑.local\/(relabel scope X.env).names.lookup Str.empty=⇑.cell\/(relabel scope X.env).names.lookup Str.empty=⇑.free:=O;rw[Ff,S.emp]at G;rcases G with z|z|z<;>cases z
  have hi:i<Z.length:=by
   by_cases hi:i<Z.length
   .show hi
   .exfalso;rw[getElem?_append_right (not_lt.mp hi)]at h2;cases q:i-Z.length with
    |zero=>
     let e:i=X.N.length:=by let:=I.len;lia
     rw[e]at h1;let Y:(fS X.N vars)[X.N.length]?=⇑x:=h1;unfold fS at Y;simp at Y;subst Y;show h5 O
    |succ j=>rw[q,List.getElem?_cons_succ,List.getElem?_replicate]at h2;split at h2<;>cases h2
  rw[getElem?_append_left hi]at h2;rcases QN h1 (by rw[<-I.len];show hi)with⟨h1,hx⟩|rfl
  .have own:=S.own x (qN h1) hx;let B:(x,NameKind.free)∈scope.names:=by
    let G:(relabel scope X.env).names.lookup x=⇑.local\/(relabel scope X.env).names.lookup x=⇑.cell\/(relabel scope X.env).names.lookup x=⇑.free:=O;rcases G with z|z
    .rw[Ff]at z;cases q:scope.names.lookup x with
     |none=>rw[q]at z;cases z
     |some kk=>
      rw[q]at z;let z0:⇑(rl X.env x kk)=⇑.local:=z;let L:=mem_of_lookup q;cases kk with
      |«local»=>show absurd L own.1
      |cell=>show absurd L own.2
      |free=>show L
      |globalImplicit=>rw[Do ⋯]at z0;cases z0
      |globalExplicit=>rw[Do ⋯]at z0;cases z0
    .rcases h4 z with w|w
     .show absurd w own.2
     .show w
   let J:=S.fr (x,.free) B rfl;let#[m,L,hl]:=I.loc;let#[u,r,l]:=hl i x v h1 h2 (J.elim (λz=>.inr (.inl z)) λz=>.inr (.inr z));show#[u,r,.inr #[?_,?_]]
   .show(relabel scope X.env).names.lookup x=⇑.cell\/(relabel scope X.env).names.lookup x=⇑.free;rw[Ff,(Fg S.nd).mpr B];show ⇑(rl X.env x .free)=_\/⇑(rl X.env x .free)=_;rcases Pv (env:=X.env) (x:=x)with e|e<;>rw[e]
    .show .inl rfl
    .show .inr rfl
   .rcases l with⟨z,_⟩|⟨_,c,hc,z⟩
    .let z':X.env.scope.names.lookup x=⇑.local:=z;rcases J with w|w<;>(have w':X.env.scope.names.lookup x=_:=w;rw[w']at z';cases z')
    .show#[c,?_,F z];let#[c',h6]:=Fe (DK (n:=s.heap.objs.size+1) (names:=scope.names) (.inr #[c,Du hc (.inr B)]));rcases look h6 with⟨w,_⟩|⟨w,_⟩
     .rw[hc]at w;cases w;show h6
     .cases uniq B w
  .show absurd O h5
 .rcases h9 x c (mem_of_lookup h)with z|z
  .obtain⟨v,w⟩:=I.cell x c (cm z).2;show#[v,F w]
  .show#[none,z]
 .rcases look h with⟨w,_⟩|⟨_,w⟩
  .show I.freeC x c w
  .show I.hok.fresh (Nat.le_of_succ_le w)
 .show _=(fS X.N vars).length;unfold fS;simp[I.len,hk]
abbrev TB:=St->Hp->(St->Hp->Prop)->Prop
def nK(X:Cx)(m:Sem Unit)(t:TB):Prop:=∀(zU:List (Addr×Obj))(s:Shared)(Z:St)(H:Hp)(Q:St->Hp->Prop),Inv X zU Z H s->t Z H Q->
 wpAny (model X.prog X.w) X.A m (λ_ s'=>∃Z' H',Inv X zU Z' H' s'/\Q Z' H') (λ_ _=>False) s
def hU(X:Cx)(ifs:List Expr)(t:TT):Prop:=∀(zU:List (Addr×Obj))(s:Shared)(Z:St)(H:Hp)(Q:Bool->Hp->Prop),Inv X zU Z H s->t Z H Q->
 wpAny (model X.prog X.w) X.A (forIn ifs true λc r=>if r=true then do let ok<-isTrue c X.env (eval c X.env);pure (ForInStep.yield ok)else pure (ForInStep.yield r)) (TP X zU Z Q) X.xe s
def Re:hU X [] (λ_ H Q=>Q true H):=λzU s Z H Q I q=>wpAny_tests_nil #[H,I,q]
def PJ(h:PT X c t):hU X [c] t:=λzU s Z H Q I q=>wpAny_tests_one (h zU s Z H Q I q)
def fL(g:TG)(tc:TT)(tb:TB)(J:It):TB:=λZ H Q=>∃W:Nat->Nat->St->Hp->Prop,(∃m,W 0 m Z H)/\∀i m Z H,W i m Z H->
 (J.stop i H/\Q Z H)\/(J.go i H/\∃N:St->Hp->Prop,(∀Z' H',N Z' H'->∃m',m'<m/\W (i+1) m' Z' H')/\∀x H',J.yld i H x H'->g x Z H' λv H2=>tc v H2 λb B=>if b=true then tb v B N else N v B)
def iK(X:Cx)(e:Expr)(d:Nat)(i:Value)(tg:Expr)(B:It->TB):Prop:=∀(zU:List (Addr×Obj))(s:Shared)(Z:St)(H:Hp)(J:It)(fp:List Addr)(it:Addr)(v:Nat->Heap->Prop)(Q:St->Hp->Prop),Inv X zU Z H s->
 fT X.prog X.w X.K tg J fp it v->v 0 s.heap->(∀b∈fp,cO X zU H b)->B J Z H Q->
 codeAny (model X.prog X.w) X.A (.compLoop e d (.ref it) i X.env) (λr s'=>∃Z' H',r=.ok .next/\Inv X zU Z' H' s'/\Q Z' H') s
def jB(X:Cx)(m:Sem Fin)(c:Code)(t:TB):Prop:=∀(zU:List (Addr×Obj))(s:Shared)(Z:St)(H:Hp)(Q:St->Hp->Prop),Inv X zU Z H s->t Z H Q->
 wpAny (model X.prog X.w) X.A m (λf s'=>f=.again c/\∃Z' H',Inv X zU Z' H' s'/\Q Z' H') (λ_ _=>False) s
def nK.f(h:nK X m t):jB X (m>>=λ_=>again c) c t:=λzU s Z H Q I q=>qa (zt (h zU s Z H Q I q) (λ_ s' z=>qb #[rfl,z]) λ_ _ z=>z)
def EW{inner:Addr->Sem Fin}(hc:X.calm=true)(hxe:X.xe=λ_ _=>False)(hg:PG X tg g)(ht:hU X ifs tc)(hr:∀it,jB X (inner it) (.compLoop e d (.ref it) zZ X.env) tb)
  (hq:∀it,(Code.compLoop e d (.ref it) zZ X.env).quiet=true)(hun:∀it,X.A.under (.compLoop e d (.ref it) zZ X.env)=X.A)
  (hden:∀it,(model X.prog X.w).den (.compLoop e d (.ref it) zZ X.env)=(compTurn e d (.ref it) zZ X.env).onRaise (λx=>do noteFrame x X.env;theTreesLotGoes x))
  (heq:∀it,compTurn e d (.ref it) zZ X.env=(standAt ipos>>=λ_=>pyNext (.ref it)>>=λr=>match r with
   |none=>pure (.done .next)
   |some v=>letOwnedTupleGo tg (.ref it) v>>=λ_=>assign tg X.env v>>=λ_=>(forIn ifs true λc r=>if r=true then do let ok<-isTrue c X.env (eval c X.env);pure (ForInStep.yield ok)else pure (ForInStep.yield r))>>=λok=>if ok=true then inner it else again (.compLoop e d (.ref it) zZ X.env))):
  iK X e d zZ tg (fL g tc tb):=by
 intro zU s Z H J fp it tn Q I T st f ⟨W,⟨m0,w0⟩,turn⟩;let stat:∀{H':Hp},(∀b∈fp,H' b=none)->∀b∈fp,cO X zU H' b:=λhn b hb=>#[hn b hb,(f b hb).2]
 let nox:∀{α:Type}{m:Sem α}{Q:α->Shared->Prop}{E:zu}{s:Shared},wpAny (model X.prog X.w) X.A m Q X.xe s->wpAny (model X.prog X.w) X.A m Q E s:=λh=>zt h (λ_ _ q=>q) λ_ _ x=>by rw[hxe]at x;show x.elim
 show codeAny_loop (hq it) (λn s'=>∃i Z' H',Inv X zU Z' H' s'/\tn i s'.heap/\(∀b∈fp,H' b=none)/\W i n Z' H') ?_ m0 #[0,Z,H,I,st,λb hb=>(f b hb).1,w0];rintro n s3 ⟨i,Z3,H3,I3,st3,fr3,w3⟩;rw[hun,hden];show wpAny_noted ?_;rw[heq];show qa (wpAny_standAt (qa ?_));rcases turn i n Z3 H3 w3 with⟨stop,qn⟩|⟨go,N,hN,step⟩
 .show Ai (T.done X rfl rfl rfl hc i zU s3 Z3 H3 _ I3 (stat fr3) st3 stop) λr s4⟨hr,I4⟩=>?_;subst hr;show qb #[Z3,H3,rfl,I4,qn]
 .show Ai (T.item X rfl rfl rfl hc i zU s3 Z3 H3 _ I3 (stat fr3) st3 go) λr s4 zq=>?_;let#[u,hr',h4]:=zq;subst hr';show qa (Ai h4 λ_ s5 zq=>?_);show cps λ_ kk=>?_;let#[x,H5,I5,r5,y5,st5,fr5]:=zq;show kk ?_;let I5':=I5.pinned (stat fr5) (T.obj _ _ st5);show qa (nox (Ai (hg _ s5 Z3 H5 x u _ I5' r5 (step x H5 y5)) λ_ s6 zq=>?_));let#[Z6,H6,I6,q6]:=zq;let again:∀{Z7:St}{H7:Hp}{s7:Shared},Inv X (zU++fN fp s5.heap) Z7 H7 s7->N Z7 H7->∃m,m<n/\∃i Z' H',Inv X zU Z' H' s7/\tn i s7.heap/\(∀b∈fp,H' b=none)/\W i m Z' H':=λ{Z7 H7 s7} I7 n7=>by let#[m',hm,w7]:=hN Z7 H7 n7;show#[m',hm,i+1,Z7,H7,I7.unpinned,T.keep _ _ _ st5 λb hb o e=>(I7.pin (b,o) (qj _ (qj _ (EO hb e)))).1,λb hb=>?_,w7];let#[o,e,d]:=T.obj _ _ st5 b hb;exact(I7.pin (b,o) (qj _ (qj _ (EO hb e)))).2.1
  show qa (nox (Ai (ht _ s6 Z6 H6 _ I6 q6) λb s7 zq=>?_));let#[H7,I7,q7]:=zq;cases b with
  |true=>show zt (hr it _ s7 Z6 H7 _ I7 q7) (λf s8 zq=>?_) λ_ _ z=>z.elim;let#[ef,Z8,H8,I8,n8]:=zq;subst ef;show#[rfl,again I8 n8]
  |false=>show qb #[rfl,again I7 q7]
def KZ(hl:iK X e d zZ tg tl)
  (hq:∀it,(Code.compLoop e d (.ref it) zZ X.env).quiet=true)(hun:∀it,X.A.under (.compStart e d (.ref it) zZ X.env)=X.A)
  (hden:∀it,(model X.prog X.w).den (.compStart e d (.ref it) zZ X.env)=(compStart e d (.ref it) zZ X.env).onRaise (λx=>do noteFrame x X.env;standAt theWindowsPlace))
  (heq:∀it,∃p,compStart e d (.ref it) zZ X.env=(ask>>=λc=>if c.params.followText "comprehension-iter-twice"=true then again (.compLoop e d (.ref it) zZ X.env)else
   rule "comprehension.iter-twice">>=λ_=>standAt p>>=λ_=>pyIter (.ref it)>>=λit'=>again (.compLoop e d it' zZ X.env)))(I:Inv X zU Z H s)
  (T:fT X.prog X.w X.K tg J fp it tn)(st:tn 0 s.heap)(f:∀b∈fp,cO X zU H b)(q:tl J Z H Q):
  codeAny (model X.prog X.w) X.A (.compStart e d (.ref it) zZ X.env) (λr s'=>∃Z' H',r=.ok .next/\Inv X zU Z' H' s'/\Q Z' H') s:=by
 let h0:=hl zU s Z H J fp it tn Q I T st f q;show codeAny_of_tree ?_;rw[hun,hden];show wpAny_notedAt ?_;let#[p,e]:=heq it;rw[e];show qa (wpAny_askSetting (wpAny_ite ?_));split
 .show qb #[hq it,h0]
 .show qa (wpAny_rule (qa (wpAny_standAt (qa (T.self X.A 0 s _ _ st (qb #[hq it,h0]))))))
end L2
namespace FL
open PySem PySem.Spec PyProof.Rows L2
inductive tG(X:Cx)(n:Nat)(D:Addr)(b:WB)(Z:St)(H:Hp)(Q:St->Hp->Prop):Prop
 |mk (F G:Hp) (U:Env) (P:Env->Prop) (zW:Rel X.K U Z F G H) (hs:Z[n]?=some (some (.ref D))) (hw:b U P NX) (hn:∀U' Z' F' H',P U'->KP (List.range (n+1)) Z Z'->zF F F'->Rel X.K U' Z' F' G H'->Q Z' H'):tG X n D b Z H Q
def Hi:XC X T F G NX:=λ_ _ _ _ _ _ _ z=>z.elim
section
variable{K:W.Frag}
def zI.snoc(b:zI K F H xs l fp)(r:aF K F H v s fq):zI K F H (xs++[v]) (l++[s]) (fp++fq):=
 zI.ind (P:=λxs l fp=>zI K F H (xs++[v]) (l++[s]) (fp++fq)) (by let:=zI.cons r .nil;rwa[qA]at this) (λa _ i=>by rw[qq];show .cons a i) b
def zI.len(r:zI K F H xs l fp):xs.length=l.length:=zI.ind (P:=λxs l _=>xs.length=l.length) rfl (λ_ _ i=>congrArg (·+1) i) r
def Rel.append{D:Addr}(r:Rel K (U++[⇑s]) (Z++[⇑v]) F G H)(hs:slot U n=⇑(.lst l))(B:Z[n]?=⇑⇑(.ref D)):
  ∃xs,H D=⇑(.lst xs)/\xs.length=l.length/\Rel K (U.set n ⇑(.lst (l++[s]))) Z F G (upd H D (.lst (xs++[v]))):=by
 let hl:=Ad r;let#[fp,e,nd,ap]:=r.en;let#[f1,f2,rfl,a,b]:=e.cut hl;let#[v',fa,fi,fb,e1,rfl,q,up]:=a.at hs;rw[B]at e1;let e2:V.ref D=v':=↑e1
 subst e2;cases q with
 |lst hD rl=>
  rename_i xs fl;cases b with
  |so sr nl=>
   cases nl;rename_i fs;show#[xs,hD,rl.len,?_];let es:Z.set n ⇑(.ref D)=Z:=by
    apply ext_getElem?;intro j;by_cases hj:n=j
    .subst hj;rw[getElem?_set_self (qh.mp B).1,B]
    .rw[getElem?_set_ne hj]
   --D is nobody else's
   let#[n1,n2,M]:=qx.mp nd;let#[na,i,L]:=qx.mp n1;let#[ni,nb,i]:=qx.mp i;let#[nD,h2]:=qM.mp ni;let h1:D∉fa:=λz=>L D z D (qk _ qo) rfl;let Y:D∉fb:=λz=>i D qo D z rfl;let O:D∉fs:=λz=>M D (qj _ (qk _ qo)) D ↑z rfl;let J:=ap D (qk _ (qj _ (qk _ qo)));let ne:∀{l:List Addr},D∉l->∀x∈l,upd H D (.lst (xs++[v])) x=H x:=λh x I=>Ae λz=>h (z▸I);let new:aF K F (upd H D (.lst (xs++[v]))) (.ref D) (.lst (l++[s])) (D::(fl++fs)):=.lst Aw (zI.snoc (rl.mono (zF.refl F) (ne nD)) (sr.mono (zF.refl F) (ne O)));let a2:=up (F':=F) (H':=upd H D (.lst (xs++[v]))) (o:=⇑(.lst (l++[s]))) (u:=⇑(.ref D)) (zF.refl F) (λx I=>Ae λz=>(qy.mp I).elim (λw=>h1 (z▸w)) λw=>Y (z▸w)) (.so new .nil);rw[es]at a2;let p:(fa++((D::(fl++fs))++[]++fb)).Perm (fa++((D::fl)++fb)++(fs++[])):=by simp;show List.Perm.append_left _ (List.Perm.cons _ (List.Perm.append_left _ qO))
   show#[zF.updR r.fr J.1,λx o w=>?_,_,a2,p.nodup_iff.mpr nd,λx I=>ap x (by simpa using p.mem_iff.mp I)];let I:x≠D:=λz=>by rw[z,J.2]at w;cases w
   rw[Ae I];show r.gr x o w
end
section
variable{D:Addr}
def GU(J:X.xe=λ_ _=>False)(h:FE X h4 we):nK X (eval h4 X.env>>=λx=>call (.builtin "list.append") [.ref D,x]>>=λ_=>pure ()) (tG X n D (bI n we)):=by
 intro zU s Z H Q I q;let#[F,G,U,P,h1,h2,hw,h3]:=q;let hp:PassesOwn (model X.prog X.w) X.A X.env X.xe:=by rw[J];show PassesOwn.never
 have he:=h X.pn X.xe hp zU s Z H (λv H1=>∃M U1 t l,zF F M/\Rel X.K (U1++[⇑t]) (Z++[⇑v]) M G H1/\slot U1 n=⇑(.lst l)/\l.length<big/\P (U1.set n ⇑(.lst (l++[t])))) I
  #[F,G,U,_,NX,h1,hw,λr U1 v M H1 i s1 O rv=>?_,Hi]
 .let B:∀e s',X.xe e s'->False:=λe s' z=>by rw[J]at z;exact z
  show qa (zt he (λu s1 zq=>?_) λe s' z=>B e s' z);show cps λ_ kk=>?_;let#[v,H1,I1,rv,M,U1,t,l,sm,O,hs,hz,hP]:=zq;let#[xs,hD,L,r2]:=Rel.append O hs h2;show kk ?_;show qa (zt (GV zU s1 Z H1 (.ref D) [v] (.ref D) [u] (λw H'=>w=.non/\H'=upd H1 D (.lst (xs++[v]))) I1 rfl (.cons rv .nil) #[D,xs,v,rfl,rfl,hD,by rw[L];show lt_trans hz ⋯,rfl,rfl]) (λw s2 zq=>?_) λe s' z=>B e s' z);let#[w',H2,I2,_,_,e2]:=zq;subst e2;show qb #[Z,_,I2,h3 _ Z M _ hP KP.refl sm r2]
 .obtain⟨⟨t,Y⟩,eg,i⟩:=Ah i;let#[F2,s2,l2,r2]:=Al (U':=[]) (Z':=[]) O (Ad O) rv eg;split at i
  .rename_i l e;show#[F2,Y,t,l,s1.trans s2,r2,e,i.1,i.2]
  .show i.elim
def BH:hU X [] (iM X dJ):=λzU s Z H Q I q=>Re zU s Z H Q I (by let#[F,G,U,P,PX,i,B,v,J]:=q;show v true U F H B (zF.refl F) i)
def Gb(i:X.xe=λ_ _=>False)(h:FT X c wc):hU X [c] (iM X wc):=PJ (h X.pn X.xe (by rw[i];show PassesOwn.never))
def Kf(it:dC X.K J l F)(h6:Rel X.K U Z F G H)(h9:Z[n]?=⇑⇑(.ref D))
  (hw:aP g wc b l U P NX)(e2:∀U' Z' F' H',P U'->KP (List.range (n+1)) Z Z'->zF F F'->Rel X.K U' Z' F' G H'->Q Z' H'):
  fL (xH X (List.range (n+1)) g) (iM X wc) (tG X n D b) J Z H Q:=by
 let h2:∀{Z':St},KP (List.range (n+1)) Z Z'->Z'[n]?=⇑⇑(.ref D):=λk=>by rw[k n (by simp)];show h9
 show#[λi m v H2=>m=l.length-i/\i<=l.length/\∃F2 U2,KP (List.range (n+1)) Z v/\zF F F2/\Rel X.K U2 v F2 G H2/\aP g wc b (l.drop i) U2 P NX,#[l.length,by simp,zero_le _,F,U,KP.refl,zF.refl F,h6,hw],?_];rintro i m v H2 ⟨rfl,hi,F2,U2,kp,s2,r2,B⟩;let#[h8,h7]:=it i U2 v F2 G H2 s2 r2;by_cases I:i<l.length
 .obtain⟨go,h5⟩:=h8 l[i] (by simp);show .inr #[go,λL H3=>i+1<=l.length/\∃F3 Y,KP (List.range (n+1)) Z L/\zF F F3/\Rel X.K Y L F3 G H3/\aP g wc b (l.drop (i+1)) Y P NX,λL H3 h=>#[l.length-(i+1),∅,rfl,h],λy H3 hy=>?_];let#[F3,s3,r3,rp]:=h5 y H3 hy;rw[List.drop_eq_getElem_cons I]at B;show#[F3,G,U2,_,_,r3.push rp,B,λh4 e3 F4 H4 e1 k4 s4 r4=>?_];let M:=kp.trans k4;let h1:=s2.trans (s3.trans s4);show#[F4,G,h4,_,_,r4,e1,λk O F5 H5 h3 s5 r5=>?_,Hi];cases k with
  |true=>show#[F5,G,O,_,r5,h2 M,h3,λU' Z' F' H' h k' s r=>#[I,F',U',M.trans k',h1.trans (s5.trans s),r,h]]
  |false=>show#[I,F5,O,M,h1.trans s5,r5,h3]
 .let e:i=l.length:=Nat.le_antisymm hi (not_lt.mp I);subst e;rw[List.drop_length]at B;show .inl #[h7 (zb _),e2 U2 v F2 H2 B kp s2 r2]
def Rl(hxe:X.xe=λ_ _=>False)(hi:FI X tg iter wi)(hl:iK X e d (.ref D) tg (fL (xH X (List.range (n+1)) g) (iM X wc) (tG X n D b)))
  (hs:∀x,foldedSetIterable iter X.env x=pure x)(hm:X.A.mark none=X.A)
  (hq:∀it,(Code.compLoop e d (.ref it) (.ref D) X.env).quiet=true)(hun:∀it,X.A.under (.compStart e d (.ref it) (.ref D) X.env)=X.A)
  (hden:∀it,(model X.prog X.w).den (.compStart e d (.ref it) (.ref D) X.env)=(compStart e d (.ref it) (.ref D) X.env).onRaise (λx=>do noteFrame x X.env;standAt theWindowsPlace))
  (heq:∀it,∃p,compStart e d (.ref it) (.ref D) X.env=(ask>>=λc=>if c.params.followText "comprehension-iter-twice"=true then again (.compLoop e d (.ref it) (.ref D) X.env)else
   rule "comprehension.iter-twice">>=λ_=>standAt p>>=λ_=>pyIter (.ref it)>>=λit'=>again (.compLoop e d it' (.ref D) X.env))):
  jB X (eval iter X.env>>=λx=>standAt ip>>=λ_=>foldedSetIterable iter X.env x>>=λx=>holding [x] (pyIter x)>>=λit=>runOwn (.compStart e d it (.ref D) X.env) X.env>>=λ_=>again c0) c0 (tG X n D (rH wi g wc b)):=by
 intro zU s Z H Q I q;let#[F,G,U,P,zW,hZ,hw,hok]:=q;let hp:PassesOwn (model X.prog X.w) X.A X.env X.xe:=by rw[hxe];show PassesOwn.never
 let xe0:∀e s',X.xe e s'->False:=λe s' z=>by rw[hxe]at z;show z
 have hi':=hi X.pn X.xe hp zU s Z H (λJ H1=>fL (xH X (List.range (n+1)) g) (iM X wc) (tG X n D b) J Z H1 Q) I
  #[F,G,U,_,NX,zW,hw,λl U1 F1 H1 J hk s1 r1 it=>Kf it r1 hZ hk λU' Z' F' H' a k s r=>hok U' Z' F' H' a k (s1.trans s) r,Hi]
 show qa (zt hi' (λx s1 h1=>?_) λe s' z=>xe0 e s' z);show qa (wpAny_standAt (qa (zr (hs x) (qa (zp (zt h1 (λitv s2 h2=>?_) λe s' z=>xe0 e s' z))))));let#[it,fp,tn,J,H2,e1,I2,T,st,f,q2]:=h2;subst e1;show qa (wpAny_runOwn ?_);show codeAny_mono (KZ hl hq hun hden heq I2 T st f q2) λr s3 zq=>?_;let#[Z3,H3,er,I3,q3]:=zq;subst er;show qb #[rfl,Z3,H3,I3,q3]
end
def Ly{α:Type}{l:List α}{a:α}(h:l[n]?=⇑a):l=l.take n++a::l.drop (n+1):=by let#[i,e]:=qh.mp h;rw[<-e,<-List.drop_eq_getElem_cons i,List.take_append_drop]
section
variable{X:Cx}
def Gg(hmk:∀(A:Around)(E:zu)(s:Shared)(Q:zu),Q (.ref s.heap.objs.size) {s with heap:=s.heap.push {cls:=.type ty,dict:=none,data:=dat}}->wpAny (model X.prog X.w) A mk Q E s)(ho:∀(H:Hp)(h:Heap),sysModules<h.objs.size->zT X.prog X.w H (h.push {cls:=.type ty,dict:=none,data:=dat}) h.objs.size o0)(hs0:∀(F H:Hp)(p:Addr),H p=⇑o0->aF X.K F H (.ref p) s0 [p])(hcl:clausesOf e=⟨tg,iter,ifs,0⟩::gs)(hs:∀x,foldedSetIterable iter X.env x=pure x)
  (Sc:bV X.env.scope scope X.N vars)(hk:vars.length=k)(hi:FI X tg iter wi)
  (hb:∀(s:Shared)(H:Hp)(ex:List Addr)(D:Addr),iK (aE X scope vars s H ex) e 0 (.ref D) tg (fL (xH (aE X scope vars s H ex) (List.range (X.N.length+1)) g) (iM (aE X scope vars s H ex) wc) (tG (aE X scope vars s H ex) X.N.length D b)))
  (hq:∀it zZ env,(Code.compLoop e 0 (.ref it) zZ env).quiet=true)(hun:∀it zZ env,X.A.under (.compStart e 0 (.ref it) zZ env)=X.A)
  (hden:∀it zZ env,(model X.prog X.w).den (.compStart e 0 (.ref it) zZ env)=(compStart e 0 (.ref it) zZ env).onRaise (λx=>do noteFrame x env;standAt theWindowsPlace))
  (heq:∀it zZ env,∃p,compStart e 0 (.ref it) zZ env=(ask>>=λc=>if c.params.followText "comprehension-iter-twice"=true then again (.compLoop e 0 (.ref it) zZ env)else
   rule "comprehension.iter-twice">>=λ_=>standAt p>>=λ_=>pyIter (.ref it)>>=λit'=>again (.compLoop e 0 it' zZ env)))(hp:PassesOwn (model X.prog X.w) X.A X.env xe){P:WQ}(I:Inv (wp X pn xe) zU Z H s)
  (zW:Rel X.K U Z F G H)(hw:wi U (λl U1=>aP g wc b l (U1++⇑s0::List.replicate k none) (λU2=>zz (slot U2 X.N.length) λs=>P (.v s) (U2.take X.N.length)) NX) PX)(hx:XC (wp X pn xe) (·=Z) F G PX)
  (fin:∀(D C:Addr)(s4:Shared)(H4 F4:Hp)(m:Str->Option Value)(t:S)(U4:Env),s4.heap.Ns C m->Inv (wp X pn xe) zU Z H4 s4->H4 C=none->C≠X.env.locals->X.s₀.heap.objs.size<=C->(∀x c,X.env.cells.lookup x=⇑c->c≠C)->(∀p∈pn++zU,p.1≠C)->
   P (.v t) U4->zF F F4->Rel X.K (U4++[⇑t]) (Z++[⇑(.ref D)]) F4 G H4->compPost (model X.prog X.w) X.A xe use Q' (.ref D) C (.ok .next) s4):
  wpAny (model X.prog X.w) X.A (comprehension e scope X.env cpos mk false (eval iter X.env) use) Q' xe s:=by
 have hi':=hi pn xe hp zU s Z H (λJ H1=>∃F1 U1 l,zF F F1/\Rel X.K U1 Z F1 G H1/\dC X.K J l F1/\
   aP g wc b l (U1++⇑s0::List.replicate k none) (λU2=>zz (slot U2 X.N.length) λs=>P (.v s) (U2.take X.N.length)) NX) I
  #[F,G,U,_,PX,zW,hw,λl U1 F1 H1 J hk s1 r1 it=>#[F1,U1,l,s1,r1,it,hk],hx]
 let hfree:∀x∈scope.names,x.2=.free->∃c,X.env.cells.lookup x.1=⇑c:=λx hx hf=>I.ok.has x.1 (Sc.fr x hx hf);show wpAny_comprehension_free (use:=use) hcl hs (UJ hfree) Sc.kind (λx hx hl=>(Fg Sc.nd).mpr (by let#[a,b]:=x;let hl':b=.local:=hl;subst hl';show hx)) (zt hi' (λv s1 h1=>zt h1 (λitv s2 h2=>?_) λ_ _ z=>z) λ_ _ z=>z);show cps λ_ kk=>?_;let#[it,fp,tn,J,H2,e1,I2,T,st,f,F1,U1,l,s1',r1,ito,hk2]:=h2;show kk ?_;subst e1
 --the zZ
 show hmk _ _ _ _ ?_;generalize hs3:({s2 with heap:=s2.heap.push {cls:=.type ty,dict:=none,data:=dat}}:Shared)=s3;let k23:∀b o,s2.heap.get? b=⇑o->s3.heap.get? b=⇑o:=λb o e=>by rw[<-hs3];show qc _ e
 let sz3:s3.heap.objs.size=s2.heap.objs.size+1:=by rw[<-hs3];show Heap.size_push ..
 let hD:H2 s2.heap.objs.size=none:=I2.hok.fresh (zb _);let I3:Inv (wp X pn xe) zU Z (upd H2 s2.heap.objs.size o0) s3:=by rw[<-hs3];show I2.laid (t':=s2.toks) (λb o e=>qc _ e) (zb _) (ho _ _ I2.big)
 let r3:Rel X.K (U1++[⇑s0]) (Z++[⇑(.ref s2.heap.objs.size)]) F1 G (upd H2 s2.heap.objs.size o0):=r1.newO hD (hs0 _ _ _ Aw);let fplt:∀b∈fp,b<s2.heap.objs.size:=λb hb=>by let#[o,e,_]:=T.obj _ _ st b hb;show qe e
 let fne:∀b∈fp,b≠s2.heap.objs.size:=λb hb=>ne_of_lt (fplt b hb);let f3:∀b∈fp,cO (wp X pn xe) zU (upd H2 s2.heap.objs.size o0) b:=λb hb=>by let#[h1,h2]:=f b hb;show#[by rw[Ae (fne b hb)];show h1,h2]
 show Uh λh' kept hns hcl'=>?_;let I4:=Inv.comp (X:=wp X pn xe) (ex:=fp) I3 Sc (λb hb=>#[f3 b hb,by rw[sz3];show lt_succ_of_lt (fplt b hb)]) kept hns hcl' hk ⇑(.ref s2.heap.objs.size);let hZn:(Z++⇑(.ref s2.heap.objs.size)::List.replicate k none)[X.N.length]?=⇑⇑(.ref s2.heap.objs.size):=by let hl:X.N.length=Z.length:=I2.len.symm;rw[hl,getElem?_append_right (zb _),Nat.sub_self];rfl
 let r4:Rel X.K (U1++⇑s0::List.replicate k none) (Z++⇑(.ref s2.heap.objs.size)::List.replicate k none) F1 G (upd H2 s2.heap.objs.size o0):=by let:=r3.pushNs k;simpa using this
 let st4:tn 0 h':=T.keep _ _ _ st λb hb o e=>kept b o (k23 b o e);let f4:∀b∈fp,cO (aE X scope vars s3 (upd H2 s2.heap.objs.size o0) fp) [] (upd H2 s2.heap.objs.size o0) b:=λb hb=>by let#[h1,h2,h3,h4,h5,h6]:=f3 b hb;let e:=I4.ok.exf b hb;show#[h1,e.1,I4.ok.exfs b hb,.inl hb,e.2,λp hp=>absurd (show p∈([]:List (Addr×Obj)) from hp) (by simp)]
 have go:=KZ (hb s3 (upd H2 s2.heap.objs.size o0) fp s2.heap.objs.size) (λit=>hq it _ _) (λit=>hun it _ _) (λit=>hden it _ _) (λit=>heq it _ _) I4 T st4 f4
  (Q:=λZ' H'=>∃F' U',zz (slot U' X.N.length) (λs=>P (.v s) (U'.take X.N.length))/\KP (List.range (X.N.length+1)) (Z++⇑(.ref s2.heap.objs.size)::List.replicate k none) Z'/\zF F1 F'/\Rel X.K U' Z' F' G H')
  (Kf ito r4 hZn hk2 λU' Z' F' H' a kp sm r=>#[F',U',a,kp,sm,r])
 show codeAny_mono go λr s4 zq=>?_;show cps λ_ kk=>?_;let#[Z4,H4,er,I5,F4,U4,hn4,kp4,sm4,r5]:=zq;subst er;let#[m,hm,_]:=id I5.loc;show kk ?_;let I6:Inv (wp X pn xe) zU Z H4 s4:=Inv.call' (ch:=fp) I3 I5.os I5.base I5.hok I5.bare λb hb=>by let#[h1,h2,h3,h4,h5,h6]:=f3 b hb;show#[h4,h2,h5,h6]
 --the block's names go
 let#[t,et,hP]:=Ah hn4;let hl:X.N.length=Z.length:=I2.len.symm;let hZ4:Z4[X.N.length]?=⇑⇑(.ref s2.heap.objs.size):=by rw[kp4 X.N.length (by simp)];show hZn
 have eZ:Z4.take X.N.length=Z:=by
  apply ext_getElem?;intro j;by_cases hj:j<X.N.length
  .rw[List.getElem?_take_of_lt hj,kp4 j (by simp;lia -verbose),getElem?_append_left ∅]
  .rw[List.getElem?_take_eq_none (not_lt.mp hj),qR ∅]
 let e1:=Ly (Hh et);let e2:=Ly hZ4;rw[e1,e2,eZ]at r5;let r6:Rel X.K ((U4.take X.N.length++[⇑t])++U4.drop (X.N.length+1)) ((Z++[⇑(.ref s2.heap.objs.size)])++Z4.drop (X.N.length+1)) F4 G H4:=↑r5
 let hlt:X.N.length<U4.length:=BY et;let ltC:∀{b:Addr}{o:Obj},s3.heap.get? b=⇑o->b≠s3.heap.objs.size:=λe=>ne_of_lt (qe e);show fin s2.heap.objs.size s3.heap.objs.size s4 H4 F4 m t (U4.take X.N.length) hm I6 I5.free (Ne.symm (ne_of_lt I3.lt)) I3.sz (λx c e z=>?_) (λp hp z=>?_) hP (s1'.trans sm4) (r6.drop (by simp;lia -verbose))
 .obtain⟨v,o,ho,_⟩:=I3.cell x c e;show ltC ho z
 .show ltC (I3.pin p hp).1 z
def Iy{P:WQ}(M:∀r U' v F' H',P r U'->zF F F'->Rel X.K (U'++[zG r]) (Z++[⇑v]) F' G H'->RV Z v r->Q v H'):
  ∀(D C:Addr)(J:Shared)(B L:Hp)(m:Str->Option Value)(t:S)(i:Env),J.heap.Ns C m->Inv (wp X pn xe) zU Z B J->B C=none->C≠X.env.locals->X.s₀.heap.objs.size<=C->(∀x c,X.env.cells.lookup x=⇑c->c≠C)->(∀p∈pn++zU,p.1≠C)->
   P (.v t) i->zF F L->Rel X.K (i++[⇑t]) (Z++[⇑(.ref D)]) L G B->compPost (model X.prog X.w) X.A xe none (EP (wp X pn xe) zU Z Q) (.ref D) C (.ok .next) J:=
 λD C J B L m t i hm I n1 n2 n3 n4 n5 hP O r=>#[m,hm,λh1 Y=>#[.ref D,B,I.turned (t':=J.toks) (λb o hb e=>(Y.2 b hb).trans e) n1 n2 (.inr (Heap.get?_none_of_le n3)) n4 n5,rfl,M (.v t) i _ L B hP O r trivial]]
def Ov{P:WQ}{Nx:Env->Prop}(hk:i∉ks)(hN:∀j,X.N[j]?=⇑y->j=i)(hi:X.N[i]?=⇑y)(hy:X.env.scope.names.lookup y=⇑.local)
  (hP:∀s U,P (.v s) U->Nx (U.set i ⇑s))(h1:∀U' Z' F' H',Nx U'->KP ks Z Z'->zF F F'->Rel X.K U' Z' F' G H'->DD.nx Z' H'):
  ∀(D C:Addr)(M:Shared)(J O:Hp)(m:Str->Option Value)(t:S)(B:Env),M.heap.Ns C m->Inv (wp X pn xe) zU Z J M->J C=none->C≠X.env.locals->X.s₀.heap.objs.size<=C->(∀x c,X.env.cells.lookup x=⇑c->c≠C)->(∀p∈pn++zU,p.1≠C)->
   P (.v t) B->zF F O->Rel X.K (B++[⇑t]) (Z++[⇑(.ref D)]) O G J->compPost (model X.prog X.w) X.A xe ⇑(assign (.Name y py) X.env) (λ_ s'=>SP (wp X pn xe) zU DD .next s') (.ref D) C (.ok .next) M:=
 λD C M J O m t B hm I n1 n2 n3 n4 n5 hp sm r=>by
  let hl:=Ad r;let L:i<B.length:=by rw[hl,I.len];show(qh.mp hi).1
  refine wpAny_assign_Name (KL (X:=wp X pn xe) (v:=.ref D) I hN hi (.inl hy) rfl (λs5 I5 zq=>?_) (.inr hy));let#[a,sb,ha]:=zq;let h2:C≠a:=by
   rcases ha with e|e
   .rw[e];show n2
   .show Ne.symm (n4 y a e)
  show#[m,hm.sameBut sb h2,λh3 Y=>#[_,J,I5.turned (t':=s5.toks) (λb o hb e=>(Y.2 b hb).trans e) n1 n2 (.inr (Heap.get?_none_of_le n3)) n4 n5,?_]];show h1 _ _ O J (hP t B hp) (KP.set hk) sm (r.store hl L)
def Gf(A:Around)(E:zu)(s:Shared)(Q:zu)(h:Q (.ref s.heap.objs.size) {s with heap:=s.heap.push {cls:=.type v,dict:=none,data:=i}})(hz:sizeOk i:=by size_fits):wpAny (model X.prog X.w) A (newObj (.type v) i) Q E s:=zk h hz
def FP(H:Hp)(h:Heap)(_:sysModules<h.objs.size):zT X.prog X.w H (h.push {cls:=.type "list",dict:=none,data:=.seq ([]:List Value).toArray}) h.objs.size (.lst []):=#[zero_le _,[],0,.nil,qd _ rfl]
def FB(F H:Hp)(p:Addr)(e:H p=⇑(.lst [])):aF X.K F H (.ref p) (.lst []) [p]:=.lst e .nil
def BW(hn:X.N.length=n)(hc:X.calm=true)(Sc:bV X.env.scope scope X.N vars)(hk:vars.length=k)(hi:FI X tg iter L)
  (hg:∀s H ex,FG (aE X scope vars s H ex) (List.range (n+1)) tg g)(ht:∀s H ex,hU (aE X scope vars s H ex) v (iM (aE X scope vars s H ex) wc))(he:∀s H ex,FE (aE X scope vars s H ex) J M)
  (hs:∀x,foldedSetIterable iter X.env x=pure x:=by intro _;rfl):FE X (.ListComp J [#[tg,iter,v,0]] scope pos) (iB n k L g wc (bI n M)):=by
 subst hn;intro pn xe hp zU s Z H Q I q;let#[F,G,U,P,PX,i,Y,B,O]:=q;show Gg (λA E s Q h=>Gf A E s Q h) (s0:=.lst []) FP FB rfl hs Sc hk hi (λs H ex D=>?_) (λ_ _ _=>rfl) (λ_ _ _=>rfl) (λ_ _ _=>rfl) (λ_ _ _=>#[_,rfl]) hp I i Y O (Iy B);show EW (X:=aE X scope vars s H ex) hc rfl (hg s H ex [] (λ_ _=>False) PassesOwn.never) (ht s H ex) (λ_=>(GU (X:=aE X scope vars s H ex) rfl (he s H ex)).f) (λ_=>rfl) (λ_=>rfl) (λ_=>rfl) (λ_=>rfl)
def GL(O:i∉ks)(hN:∀j,X.N[j]?=⇑y->j=i)(Y:X.N[i]?=⇑y)(hy:X.env.scope.names.lookup y=⇑.local)
  (M:swapsWith (.ListComp J [#[tg,iter,B,0]] scope pos) ⇑(.Name y py) spos.line X.env=pure true)
  (hn:X.N.length=n)(hc:X.calm=true)(Sc:bV X.env.scope scope X.N vars)(hk:vars.length=k)(hi:FI X tg iter wi)
  (hg:∀s H ex,FG (aE X scope vars s H ex) (List.range (n+1)) tg g)(ht:∀s H ex,hU (aE X scope vars s H ex) B (iM (aE X scope vars s H ex) wc))(he:∀s H ex,FE (aE X scope vars s H ex) J we)
  (hs:∀x,foldedSetIterable iter X.env x=pure x:=by intro _;rfl):FS X ks (.Assign [.Name y py] (.ListComp J [#[tg,iter,B,0]] scope pos) spos) (zO (zy i) (iB n k wi g wc (bI n we))):=by
 subst hn;intro pn xe hp zU s Z H D I q;rw[exec_Assign_Name_used _ _ _ _ M];show qa (wpAny_standAt (qa ?_));let#[F,G,U,E,L,hw,n,b,c,r,x]:=q;refine qa (zt (Gg (λA E s Q h=>Gf A E s Q h) (s0:=.lst []) (P:=λr v=>zz (give r v) λp=>zy i p.1 p.2 E.nx) (PX:=E.ex) (g:=g) (wc:=wc) (b:=bI X.N.length we) (Q':=λ_ s'=>SP (wp X pn xe) zU D .next s') FP FB rfl hs Sc hk hi (λs H ex D=>?_) (λ_ _ _=>rfl) (λ_ _ _=>rfl) (λ_ _ _=>rfl) (λ_ _ _=>#[_,rfl]) hp I L hw (x.mono (λh1 z=>by rw[z];show KP.refl) (zF.refl F) (eT.refl G))
  (Ov (P:=λr v=>zz (give r v) λp=>zy i p.1 p.2 E.nx) (Nx:=E.nx) O hN Y hy (λs U h=>h) n)) (λ_ s' hq=>qb (qb hq)) λ_ _ e=>e)
 show EW (X:=aE X scope vars s H ex) hc rfl (hg s H ex [] (λ_ _=>False) PassesOwn.never) (ht s H ex) (λ_=>(GU (X:=aE X scope vars s H ex) rfl (he s H ex)).f) (λ_=>rfl) (λ_=>rfl) (λ_=>rfl) (λ_=>rfl)
set_option maxHeartbeats 4000000 in
def MI(hn:X.N.length=n)(hm:X.A.mark none=X.A)(hc:X.calm=true)(Sc:bV X.env.scope scope X.N vars)(hk:vars.length=k)(hi:FI X tg iter wi)
  (hg:∀s H ex,FG (aE X scope vars s H ex) (List.range (n+1)) tg g)(ht:∀s H ex,hU (aE X scope vars s H ex) B (iM (aE X scope vars s H ex) wc))
  (h3:∀s H ex,FI (aE X scope vars s H ex) i iter2 L)(h4:∀s H ex,FG (aE X scope vars s H ex) (List.range (n+1)) i g2)(Y:∀s H ex,hU (aE X scope vars s H ex) ifs2 (iM (aE X scope vars s H ex) M))
  (he:∀s H ex,FE (aE X scope vars s H ex) J we)
  (hs:∀x,foldedSetIterable iter X.env x=pure x:=by intro _;rfl)(h1:∀env x,foldedSetIterable iter2 env x=pure x:=by intro _ _;rfl):FE X (.ListComp J [#[tg,iter,B,0],#[i,iter2,ifs2,0]] scope pos) (iB n k wi g wc (rH L g2 M (bI n we))):=by
 subst hn;intro pn xe hp zU s Z H Q I q;let#[F,G,U,P,PX,O,hw,h2,hx]:=q;show Gg (λA E s Q h=>Gf A E s Q h) (s0:=.lst []) FP FB rfl hs Sc hk hi (λs H ex D=>?_) (λ_ _ _=>rfl) (λ_ _ _=>rfl) (λ_ _ _=>rfl) (λ_ _ _=>#[_,rfl]) hp I O hw hx (Iy h2);let v:iK (aE X scope vars s H ex) (.ListComp J [#[tg,iter,B,0],#[i,iter2,ifs2,0]] scope pos) 1 (.ref D) i _:=
  EW (X:=aE X scope vars s H ex) hc rfl (h4 s H ex [] (λ_ _=>False) PassesOwn.never) (Y s H ex) (λ_=>(GU (X:=aE X scope vars s H ex) (n:=X.N.length) rfl (he s H ex)).f) (λ_=>rfl) (λ_=>rfl) (λ_=>rfl) (λ_=>rfl)
 show EW (X:=aE X scope vars s H ex) hc rfl (hg s H ex [] (λ_ _=>False) PassesOwn.never) (ht s H ex) (λ_=>Rl (X:=aE X scope vars s H ex) rfl (h3 s H ex) v (h1 _) hm (λ_=>rfl) (λ_=>rfl) (λ_=>rfl) (λ_=>#[_,rfl])) (λ_=>rfl) (λ_=>rfl) (λ_=>rfl) (λ_=>rfl)
end
section
variable{K:W.Frag}
def CQ{x:Str}(e:x.cps.toList=l):x.length=l.length:=by rw[<-e];rfl
def OT{x y:Str}(e:x.cps.toList=l)(i:y.cps.toList=m):(x++y).cps.toList=l++m:=by show(x.cps++y.cps).toList=_;rw[toList_append,e,i]
def bC.int(h:bC K F H v (.int i)):v=.int i:=by
 rcases h with h|⟨_,_,_,_,h,_⟩|⟨_,_,_,_,_,h,_⟩|⟨_,_,_,_,_,h,_⟩
 .cases h;rfl
 .cases h
 .cases h
 .cases h
def bC.str(h:bC K F H v (.str l)):∃x,v=.str x/\x.cps.toList=l/\l.length<=16777216:=by
 rcases h with h|⟨_,_,_,_,h,_⟩|⟨_,_,_,_,_,h,_⟩|⟨_,_,_,_,_,h,_⟩
 .cases h with
  |str e z=>show#[_,rfl,e,z]
 .cases h
 .cases h
 .cases h
def bC.tup(h:bC K F H v (.tup l)):∃a xs,v=.ref a/\F a=⇑(.tup xs)/\zS K F xs l:=by
 rcases h with h|⟨_,_,_,_,h,_⟩|⟨_,_,_,_,_,h,_⟩|⟨_,_,_,_,_,h,_⟩
 .cases h with
  |tup e r=>show#[_,_,rfl,e,r]
 .cases h
 .cases h
 .cases h
def bC.lst(i:zF F H)(h:bC K F H v (.lst l)):∃a xs,v=.ref a/\bB K H a xs/\zS K F xs l:=by
 rcases h with h|⟨a,xs,I,G,h,B,r⟩|⟨_,_,_,_,_,h,_⟩|⟨_,_,_,_,_,h,_⟩
 .cases h with
  |lst e r=>show#[_,_,rfl,bB.mono i e,r]
 .cases h;show#[a,xs,G,bB.of B,r]
 .cases h
 .cases h
def zS.append(a:zS K F xs l)(r:zS K F ys m):zS K F (xs++ys) (l++m):=zS.ind (P:=λxs l=>zS K F (xs++ys) (l++m)) r (λa _ i=>.cons a i) a
def Rel.newLD(r:Rel K U Z F G H)(I:H p=none)(v:zS K F xs l):Rel K (U++[⇑(.lst (l.map .sh))]) (Z++[⇑(.ref p)]) F G (upd H p (.lst xs)):=by
 have i:∀{xs:List V}{l:List D},zS K F xs l->zI K F (upd H p (.lst xs)) xs (l.map .sh) []:=by
  intro xs l h;generalize upd H p (.lst xs)=H';induction xs generalizing l with
  |nil=>cases h;show .nil
  |cons x xs B=>cases h with
   |cons a b=>have:=zI.cons (aF.sh (H:=H') a) (B b);show this
 show r.newO I (.lst Aw ?_);let:=i v;show this
def rW(K:W.Frag):R2:=λx y H Q=>∃l b xs i,x=.ref l/\y=.ref b/\bB K H l xs/\bB K H b i/\xs.length+i.length<=sizeLine/\∀p,H p=none->Q (.ref p) (upd H p (.lst (xs++i)))
def Pk:OpR X (binaryOp .Add) (rW X.K):=by
 intro zU s Z H x y v u Q I rx ry h;let#[l,b,xs,zs,rfl,rfl,hl,hb,hz,q]:=h;cases rx;cases ry;let#[B,Y,#[#[cls,dd,data,sl],n,ho,hc,rC,hd],_]:=I.list hl;let#[i,O,#[#[h1,h2,data2,J],n2,F,M,G,L],_]:=I.list hb;subst hc rC hd M G L;show concat_meets #[_,ho,rfl] #[_,F,rfl] noFill_list_add seq_list_add PySem.F.slot_list_add PySem.F.entry_list_add (PySem.F.args_list_add_2 _ _) (list_addW l b B.toArray i.toArray n n2 none none sl J (by rw[qt,qt,<-Y.length,<-O.length];show hz)) #[ho,F,?_];let ea:B.toArray++i.toArray=(B++i).toArray:=by simp
 rw[ea];show#[.ref _,_,I.lnew (t':=s.toks) (Y.append O) (by rw[qr];show hz),rfl,q _ I.fresh]
def mF(K:W.Frag):R2:=λx y H Q=>∃a b xs ys,x=.ref a/\y=.ref b/\aZ K H a xs/\aZ K H b ys/\xs.length+ys.length<=sizeLine/\
 (xs=[]->Q (.ref b) H)/\(xs≠[]->ys=[]->Q (.ref a) H)/\(xs≠[]->ys≠[]->∀p,H p=none->Q (.ref p) (upd H p (.tup (xs++ys))))
def Qt:OpR X (binaryOp .Add) (mF X.K):=by
 intro zU s Z H x y v u Q I rx Y h;let#[a,b,xs,ys,rfl,rfl,ha,hb,hz,q0,q1,q2]:=h;by_cases F:xs=[]
 .cases rx;cases Y;let#[B,r1,p1,_]:=I.tuple ha;let#[i,r2,p2,_]:=I.tuple hb;let#[#[cls,dd,data,sl],ho,hc,n,hd]:=id p1;let#[#[h1,O,data2,J],G,M,n2,L]:=id p2;subst hc hd M L;let hi:B=[]:=r1.nil_iff.mpr F;exact concat_meets #[_,ho,rfl] #[_,G,rfl] noFill_tuple_add seq_tuple_add PySem.F.slot_tuple_add PySem.F.entry_tuple_add (PySem.F.args_tuple_add_2 _ _)
   (tuple_addW0 a b B.toArray i.toArray n n2 dd O sl J (by simp[hi])) #[ho,G,.ref b,H,I,rfl,q0 F]
 .show Ow zU s Z H _ _ v u Q I rx Y #[a,b,xs,ys,rfl,rfl,ha,hb,F,hz,q1 F,q2 F]
def oY:R2:=λx y H Q=>∃i j,x=.str i/\y=.str j/\i.length+j.length<=sizeLine/\Q (.str (i++j)) H
def jU(K:W.Frag):R2:=λx y H Q=>rV (λi j=>.int (i+j)) x y H Q\/(oY x y H Q\/(rW K x y H Q\/mF K x y H Q))
def Sk:OpR X (binaryOp .Add) (jU X.K):=OpR.or Mr (OpR.or Tc (OpR.or Pk Qt))
def EJ(h:n<=big):n<=sizeLine:=by rw[zn];show le_trans h ⋯
def Rh:hV K (jU K) aN:=by
 intro Z U F G H x y p q s Q i ex M e I;unfold aN at e;split at e
 .cases e;let h1:=ex.int;let h2:=M.int;subst h1 h2;show .inl #[_,_,rfl,rfl,I _ F H (zF.refl F) (i.push (.int _))]
 .rename_i a b;split at e
  .rename_i J;cases e;let#[x,rfl,e1,z1]:=ex.str;let#[y,rfl,Y,z2]:=M.str;show .inr (.inl #[_,_,rfl,rfl,by rw[CQ e1,CQ Y];show EJ J,I _ F H (zF.refl F) (i.push (.str (OT e1 Y) (by rw[qr];show le_trans J ⋯)))])
  .cases e
 .rename_i a b;split at e
  .rename_i J;cases e;let#[l,xs,rfl,h1,B]:=ex.lst i.fr;let#[m,ys,rfl,h2,v]:=M.lst i.fr;show .inr (.inr (.inl #[l,m,xs,ys,rfl,rfl,h1,h2,by rw[B.len,v.len];show EJ J,λp L=>?_]));show I _ F _ (zF.refl F) (i.newLD L (B.append v))
  .cases e
 .rename_i a b;split at e
  .rename_i J;cases e;let#[l,xs,rfl,h1,B]:=ex.tup;let#[m,ys,rfl,h2,v]:=M.tup;refine .inr (.inr (.inr #[l,m,xs,ys,rfl,rfl,aZ.of (i.fr.at _ _ h1),aZ.of (i.fr.at _ _ h2),by rw[B.len,v.len];show EJ J,λhx=>?_,λ_ hy=>?_,λ_ _ p L=>?_]))
   .subst hx;cases B;show I _ F H (zF.refl F) (i.push (.tup h2 v))
   .subst hy;cases v;rw[qA]at I;show I _ F H (zF.refl F) (i.push (.tup h1 B))
   .let O:=(i.free L).1;show I _ _ _ (zF.upd O) ((i.newF L).push (.tup Aw ((B.append v).mono (zF.upd O))))
  .cases e
 .cases e
def DE{g:Int->Int->Int}(I:∀p q s,o p q=⇑s->∃i j,p=.int i/\q=.int j/\C i j/\s=.sh (.int (g i j))):hV K (rI C λi j=>.int (g i j)) o:=by intro Z U F G H x y p q s Q v ex L e B;let#[i,j,rfl,rfl,J,rfl]:=I p q s e;let h1:=ex.int;let h2:=L.int;subst h1 h2;show#[i,j,rfl,rfl,J,B _ F H (zF.refl F) (v.push (.int _))]
def Ru:hV K (rI (λ_ _=>True) λi j=>.int (i-j)) eV:=DE λp q s e=>by
 unfold eV at e;split at e
 .cases e;show#[_,_,rfl,rfl,trivial,rfl]
 .cases e
def Om:OpR X (binaryOp .Sub) (rI (λ_ _=>True) λi j=>.int (i-j)):=DQ λ_ _ _ _ _ _ _ _ q=>sub_int q
def PU:hV K (rI nP λi j=>.int (i*j)) mH:=DE λp q s e=>by
 unfold mH at e;split at e
 .rename_i i j;split at e
  .rename_i h;cases e;show#[_,_,rfl,rfl,?_,rfl];simp[jW,or_eq_true,and_eq_true,qU]at h;show h
  .cases e
 .cases e
def PD:hV K (rI (λ_ j=>0<j) λi j=>.int (i %j)) eB:=DE λp q s e=>by
 unfold eB at e;split at e
 .split at e
  .rename_i h;cases e;show#[_,_,rfl,rfl,h,rfl]
  .cases e
 .cases e
def Qa:hV K (rI cp λi j=>.int (i^j.toNat)) mG:=DE λp q s e=>by
 unfold mG at e;split at e
 .split at e
  .rename_i h;cases e;show#[_,_,rfl,rfl,#[h.1,∅,h.2.2],rfl]
  .cases e
 .cases e
def sH(i j:Int):Prop:=0<j/\j<18446744073709551616
def Rq:OpR X (binaryOp .FloorDiv) (rI sH λi j=>.int (i/j)):=DQ λi j _ _ _ _ _ v q=>by
 let h1:(0:Int)<j:=v.1;let h2:j<18446744073709551616:=v.2;show floordiv_int ∅ ?_ (.inl (PyProof.noPylong_of_log2 ?_))
 .rw[Int.fdiv_eq_ediv_of_nonneg _ ∅];show q
 .let B:j.natAbs≠0:=by lia
  let:j.natAbs.log2<64:=(Nat.log2_lt B).mpr ∅;lia
def SE:hV K (rI sH λi j=>.int (i/j)) gB:=DE λp q s e=>by
 unfold gB at e;split at e
 .split at e
  .rename_i h;cases e;show#[_,_,rfl,rfl,h,rfl]
  .cases e
 .cases e
end
def Au(F:FE X a v)(B:FE X b i):FE X (.BinOp a .Add b pos) (zL aN v i):=CJ (λ_ _=>Sk) Rh F B
def CK(F:FE X a v)(B:FE X b i):FE X (.BinOp a .Sub b pos) (zL eV v i):=CJ (λ_ _=>Om) Ru F B
def BV(F:FE X a v)(B:FE X b i):FE X (.BinOp a .Mod b pos) (zL eB v i):=CJ (λ_ _=>Mi) PD F B
def Iw(F:FE X a v)(B:FE X b i):FE X (.BinOp a .FloorDiv b pos) (zL gB v i):=CJ (λ_ _=>Rq) SE F B
def Nf(F:FE X a v)(B:FE X b i):FE X (.BinOp a .Pow b pos) (zL mG v i):=CJ (λ_ _=>NI) Qa F B
section
open PySem.SeqAt
def Si(h:aT (.tup l) (.tup m)=false):bG l m=false:=h
def EV:∀{l m:List D}{j:Nat}{a b:D},bG l m=false->l[j]?=⇑a->m[j]?=⇑b->aT a b=false
 |[],_,_,_,_,_,h,_=>by simp at h
 |_::_,[],_,_,_,_,_,h=>by simp at h
 |x::l,y::m,0,a,b,h,h1,h2=>by simp at h1 h2;subst h1 h2;let h':(aT x y||bG l m)=false:=h;rw[Bool.or_eq_false_iff]at h';show h'.1
 |x::l,y::m,j+1,a,b,h,h1,h2=>by let h':(aT x y||bG l m)=false:=h;rw[Bool.or_eq_false_iff]at h';show EV h'.2 h1 ↑h2
def Ey:∀{l:List D}{j:Nat}{a:D},l[j]?=⇑a->cZ a<=aW l
 |[],_,_,h=>by simp at h
 |x::l,0,a,h=>by simp at h;subst h;show cZ x<=max (cZ x) (aW l);lia
 |x::l,j+1,a,h=>by let:=Ey (l:=l) (j:=j) (a:=a) h;show cZ a<=max (cZ x) (aW l);lia
open Classical in
def En{l m:List D}(n:Nat)(hn:n=min l.length m.length):((List.range n).all (λj=>↥(l[j]?=m[j]?))&&(l.length==m.length))=↥(l=m):=by
 by_cases h:l=m
 .subst h;simp
 .rw[qT h];by_cases i:l.length=m.length
  .have:(List.range n).all (λj=>↥(l[j]?=m[j]?))=false:=by
    cases q:(List.range n).all (λj=>↥(l[j]?=m[j]?))with
    |false=>rfl
    |true=>
     exfalso;apply h;apply ext_getElem?;intro j;by_cases v:j<n
     .show qV (qJ.mp q j ↑v)
     .rw[qR ∅,qR ∅]
   rw[this];rfl
  .let:(l.length==m.length)=false:=by simpa using i
   rw[this,Bool.and_false]
inductive Sc:V->D->Prop
 |non:Sc .non .non
 |bl (b:Bool):Sc (.bl b) (.bl b)
 |int (i:Int):Sc (.int i) (.int i)
 |str {x:Str} {l:List Nat}:x.cps.toList=l->Sc (.str x) (.str l)
def HF{K:W.Frag}(r:aI K H v d)(i:aT d e=false)(h1:∀l,d≠.tup l)(h2:∀l,d≠.lst l):Sc v d:=by
 cases r with
 |tup=>show absurd rfl (h1 _)
 |lst=>show absurd rfl (h2 _)
 |dK=>cases e<;>cases i
 |dT=>cases e<;>cases i
 |st=>cases e<;>cases i
 |exc=>cases e<;>cases i
 |non=>show .non
 |bl=>show .bl _
 |int=>show .int _
 |str e _=>show .str e
def Ic{K:W.Frag}(r:aI K H u e)(s:Sc v d)(i:aT d e=false):Sc u e:=by
 cases r with
 |non=>show .non
 |bl=>show .bl _
 |int=>show .int _
 |str e _=>show .str e
 |_=>cases s<;>cases i
open Classical in
def FY{K:W.Frag}(r1:aI K H v d)(Y:aI K H u e)(G:zJ v L)(B:zJ u M)(I:aT d e=false)(h1:∀l,d≠.tup l)(h2:∀l,d≠.lst l):
  EqAt A s L M ↥(d=e)/\RcAt A s L M ↥(d=e):=by
 let O:=HF r1 I h1 h2;let F:=Ic Y O I
 clear r1 Y h1 h2
 cases O with
 |non=>
  cases G;cases F with
  |non=>cases B;simp;show#[EqAt.same _,RcAt.none_none]
  |bl b=>cases B;simp;show#[EqAt.none_bool _,RcAt.none_bool _]
  |int i=>let#[t,rfl]:=B;simp;show#[EqAt.none_int _ _,RcAt.none_int _ _]
  |str e=>let#[t,rfl]:=B;simp;show#[EqAt.none_str _ _,RcAt.none_str _ _]
 |bl a=>
  cases G;cases F with
  |non=>cases B;simp;show#[EqAt.bool_none _,RcAt.bool_none _]
  |bl b=>
   cases B;let e:↥(D.bl a=D.bl b)=(a==b):=by cases a<;>cases b<;>simp
   rw[e];show#[EqAt.bool_bool _ _,RcAt.bool_bool _ _]
  |str e=>let#[t,rfl]:=B;simp;show#[EqAt.bool_str _ _ _,RcAt.bool_str _ _ _]
  |int=>cases I
 |int i=>
  let#[t,rfl]:=G;cases F with
  |non=>cases B;simp;show#[EqAt.int_none _ _,RcAt.int_none _ _]
  |int j=>
   let#[J,rfl]:=B;let e:↥(D.int i=D.int j)=(i==j):=by by_cases h:i=j<;>simp[h]
   rw[e];show#[EqAt.int_int _ _ _ _,RcAt.int_int _ _ _ _]
  |str e=>let#[J,rfl]:=B;simp;show#[EqAt.int_str _ _ _ _,RcAt.int_str _ _ _ _]
  |bl=>cases I
 |str e1=>
  let#[t,rfl]:=G;cases F with
  |non=>cases B;simp;show#[EqAt.str_none _ _,RcAt.str_none _ _]
  |bl b=>cases B;simp;show#[EqAt.str_bool _ _ _,RcAt.str_bool _ _ _]
  |int j=>let#[J,rfl]:=B;simp;show#[EqAt.str_int _ _ _ _,RcAt.str_int _ _ _ _]
  |str e2=>
   obtain⟨J,rfl⟩:=B;rename_i x l y m;let e:↥(D.str l=D.str m)=(x==y):=by
    by_cases h:x=y
    .subst h;rw[<-e1,<-e2];simp
    .let hb:(x==y)=false:=by simpa using h
     rw[hb];show qT λq=>h ?_;let#[#[a]]:=x;let#[#[b]]:=y;let a1:a=l:=e1;let b1:b=m:=e2;rw[a1,b1,D.str.inj q]
   rw[e];show#[EqAt.str_str _ _ _ _,RcAt.str_str _ _ _ _]
def Cv(r:zR xs us)(h:j<us.toArray.size):∃x,xs[j]?=⇑x/\zJ x us.toArray[j]:=by
 let G:=r.length;let I:j<us.length:=h;let F:j<xs.length:=∅
 let#[u,B,v]:=r.get (i:=j) (x:=xs[j]) (by simp);show#[xs[j],by simp,?_];let:us.toArray[j]=u:=by let:=qh.mp B;simpa using this.2
 rw[this];show v
mutual
theorem aI.uniq(I:Inv X zU Z H s)(r:aI X.K H v d)(q:aI X.K H v e)(i:aT d e=false):d=e:=by
 cases r with
 |non=>cases q;rfl
 |bl _=>cases q;rfl
 |int _=>cases q;rfl
 |str F _=>cases q with|str B _=>rw[<-F,<-B]
 |tup F J=>cases q with
  |tup B G=>cases I.tuple_inj (aZ.of F) (aZ.of B);rw[zS.uniq I J G i]
  |_=>cases i
 |lst F J=>cases q with
  |lst B G=>cases I.list_inj F B;rw[zS.uniq I J G i]
  |_=>cases i
 |dK=>cases e<;>cases i
 |dT=>cases e<;>cases i
 |st=>cases e<;>cases i
 |exc=>cases e<;>cases i
theorem zS.uniq(I:Inv X zU Z H s)(r:zS X.K H v d)(q:zS X.K H v e)(i:bG d e=false):d=e:=by
 cases r with
 |nil=>cases q;rfl
 |@cons _ a _ l a1 F=>cases q with
  |@cons _ b _ m a2 B=>have h':(aT a b||bG l m)=false:=i;rw[Bool.or_eq_false_iff]at h';rw[aI.uniq I a1 a2 h'.1,zS.uniq I F B h'.2]
end
open Classical in
def Ei:∀(n:Nat){A:Around}{v u:V}{vv uu:Value}{d e:D},cZ d<=n->Inv X zU Z H s->aI X.K H v d->aI X.K H u e->zJ v vv->zJ u uu->aT d e=false->A.units+n<cLine->
  EqAt A s vv uu ↥(d=e)/\RcAt A s vv uu ↥(d=e):=by
 intro n;induction n with
 |zero=>intro A v u vv uu d e hd I r1 r2 rv ru hc hu;show FY r1 r2 rv ru hc (λl z=>by subst z;show absurd hd (by show¬aW l+1<=0;lia)) (λl z=>by subst z;show absurd hd (by show¬aW l+1<=0;lia))
 |succ n ih=>
  intro A v u vv uu d e hd I r1 r2 rv ru hc hu;let e4:A.in1.units+n<cLine:=by show A.units+1+n<cLine;lia
  cases r1 with
  |tup e1 q1=>
   cases r2 with
   |tup e2 q2=>
    rename_i a xs l b ys m;cases rv;cases ru;let#[G,w1,p1,_]:=I.tuple (aZ.of e1);let#[B,w2,p2,_]:=I.tuple (aZ.of e2);let h8:aW l<=n:=by let:aW l+1<=n+1:=hd;lia
    let h4:G.toArray.size=l.length:=by rw[qt,<-w1.length,q1.len]
    let h9:B.toArray.size=m.length:=by rw[qt,<-w2.length,q2.len]
    have items:∀j(h1:j<G.toArray.size)(h2:j<B.toArray.size),EqAt A.in1 s G.toArray[j] B.toArray[j] ↥(l[j]?=m[j]?):=λj h1 h2=>by
     let#[x,hx,rx]:=Cv w1 h1;let#[y,hy,ry]:=Cv w2 h2;let F:j<l.length:=∅
     let J:j<m.length:=∅
     let#[x',M,h6]:=q1.get (i:=j) (d:=l[j]) (by simp[F]);let#[y',L,h5]:=q2.get (i:=j) (d:=m[j]) (by simp[J]);rw[hx]at M;cases M;rw[hy]at L;cases L;let:=(ih (A:=A.in1) (le_trans (Ey (l:=l) (j:=j) (by simp[F])) h8) I h6 h5 rx ry (EV (j:=j) (a:=l[j]) (b:=m[j]) (Si hc) (by simp[F]) (by simp[J])) e4).1;let e:↥(l[j]?=m[j]?)=↥(l[j]=m[j]):=by simp[F,J]
     rw[e];show this
    have O:RcAt A s (.ref a) (.ref b) ↥(D.tup l=D.tup m):=by
     let:=RcAt.tuples (s:=s) (show s.heap.IsTuple a G.toArray from p1) (show s.heap.IsTuple b B.toArray from p2) ∅ items;rw[h4,h9,En (l:=l) (m:=m) _ rfl]at this;let e:↥(D.tup l=D.tup m)=↥(l=m):=by by_cases h:l=m<;>simp[h]
     rw[e];show this
    show#[?_,O];by_cases h3:a=b
    .subst h3;let h7:l=m:=by let z:=aI.uniq I (.tup e1 q1) (.tup e2 q2) hc;cases z;rfl
     subst h7;simp;show EqAt.same _
    .show EqAt.of_refs h3 O
   |_=>cases hc
  |lst e1 q1=>
   cases r2 with
   |lst e2 q2=>
    rename_i a xs l b ys m;cases rv;cases ru;let#[G,w1,p1,_]:=I.list e1;let#[B,w2,p2,_]:=I.list e2;let h8:aW l<=n:=by let:aW l+1<=n+1:=hd;lia
    let h4:G.toArray.size=l.length:=by rw[qt,<-w1.length,q1.len]
    let h9:B.toArray.size=m.length:=by rw[qt,<-w2.length,q2.len]
    have items:∀j(h1:j<G.toArray.size)(h2:j<B.toArray.size),EqAt A.in1 s G.toArray[j] B.toArray[j] ↥(l[j]?=m[j]?):=λj h1 h2=>by
     let#[x,hx,rx]:=Cv w1 h1;let#[y,hy,ry]:=Cv w2 h2;let F:j<l.length:=∅
     let J:j<m.length:=∅
     let#[x',M,h6]:=q1.get (i:=j) (d:=l[j]) (by simp[F]);let#[y',L,h5]:=q2.get (i:=j) (d:=m[j]) (by simp[J]);rw[hx]at M;cases M;rw[hy]at L;cases L;let hk:bG l m=false:=hc;let:=(ih (A:=A.in1) (le_trans (Ey (l:=l) (j:=j) (by simp[F])) h8) I h6 h5 rx ry (EV (j:=j) (a:=l[j]) (b:=m[j]) hk (by simp[F]) (by simp[J])) e4).1;let e:↥(l[j]?=m[j]?)=↥(l[j]=m[j]):=by simp[F,J]
     rw[e];show this
    have O:RcAt A s (.ref a) (.ref b) ↥(D.lst l=D.lst m):=by
     let e:↥(D.lst l=D.lst m)=↥(l=m):=by by_cases h:l=m<;>simp[h]
     rw[e];by_cases Y:l.length=m.length
     .let:=RcAt.lists (s:=s) p1.isList p2.isList ∅ ∅ items;rw[h4]at this;let e2:=En (l:=l) (m:=m) l.length ∅;let e3:(l.length==m.length)=true:=by simpa using Y
      rw[e3,Bool.and_true]at e2;rw[<-e2];show this
     .let:=RcAt.lists_lengths (A:=A) (s:=s) p1.isList p2.isList (by simp only[h4,h9];simpa using Y) ∅;let e2:↥(l=m)=false:=qT λz=>Y (by rw[z]);rw[e2];show this
    show#[?_,O];by_cases h3:a=b
    .subst h3;let h7:l=m:=by let z:=aI.uniq I (.lst e1 q1) (.lst e2 q2) hc;cases z;rfl
     subst h7;simp;show EqAt.same _
    .show EqAt.of_refs h3 O
   |_=>cases hc
  |_=>show FY (by first|show .non|show .bl _|show .int _|(rename_i e z;show .str e z)|(rename_i e k r;show .dK e k r)|(rename_i e k r;show .dT e k r)|(rename_i e r;show .st e r)|(rename_i e k z;show .exc e k z)) r2 rv ru hc (λl z=>by cases z) (λl z=>by cases z)
end
section
variable{K:W.Frag}
open PySem.SeqAt
open Classical in
def yP(K:W.Frag):R2:=λx y H Q=>∃p q,aI K H x p/\aI K H y q/\aT p q=false/\cZ p<=30/\Q (.bl ↥(p=q)) H
def BC(O:X.A.units+31<cLine):OpR X (compareOp .Eq) (yP X.K):=by intro zU s Z H x y v u Q I B i h;let#[p,q,G,F,M,L,J]:=h;show(Ei 30 L I G F B i M ∅).2 X.prog X.w X.xe _ #[.bl _,H,I,rfl,J]
def Ir(h:eS p q=⇑k):aT p q=false/\cZ p<=30:=by grind[eS]
open Classical in
def JI(h:eS p q=⇑k):k=↥(p=q):=by
 unfold eS at h;split at h
 .cases h
 .show(qg h).symm
def BG:cG K (yP K) eS:=by intro H x y p q k Q v i e B;let#[h1,h2]:=Ir e;let:=JI e;subst this;show#[p,q,v,i,h1,h2,B]
open Classical in
def yI(K:W.Frag):R2:=λx y H Q=>∃p q,aI K H x p/\aI K H y q/\aT p q=false/\cZ p<=30/\Q (.bl (!decide (p=q))) H
def JS(I:Inv X zU Z H s)(q1:zS X.K H xs l)(q2:zS X.K H ys m)(Y:zR xs us)(O:zR ys J)(hc:bG l m=false)(hd:aW l<=30)(hu:A.units+30<cLine):
  ∀j(h1:j<us.toArray.size)(h2:j<J.toArray.size),EqAt A s us.toArray[j] J.toArray[j] (open Classical in ↥(l[j]?=m[j]?)):=λj h1 h2=>by
 let#[x,hx,rx]:=Cv Y h1;let#[y,hy,ry]:=Cv O h2;let h4:us.toArray.size=l.length:=by rw[qt,<-Y.length,q1.len]
 let h3:J.toArray.size=m.length:=by rw[qt,<-O.length,q2.len]
 let G:j<l.length:=∅
 let F:j<m.length:=∅
 let#[x',B,M]:=q1.get (i:=j) (d:=l[j]) (by simp);let#[y',v,L]:=q2.get (i:=j) (d:=m[j]) (by simp);rw[hx]at B;cases B;rw[hy]at v;cases v;let:=(Ei 30 (A:=A) (le_trans (Ey (l:=l) (j:=j) (by simp)) hd) I M L rx ry (EV (j:=j) (a:=l[j]) (b:=m[j]) hc (by simp[G]) (by simp[F])) hu).1;let e:(open Classical in ↥(l[j]?=m[j]?))=(open Classical in ↥(l[j]=m[j])):=by simp[G,F]
 rw[e];show this
def Eb(p:D):(∃l,p=.tup l)\/(∃l,p=.lst l)\/((∀l,p≠.tup l)/\∀l,p≠.lst l):=by
 cases p with
 |tup l=>show .inl #[l,rfl]
 |lst l=>show .inr (.inl #[l,rfl])
 |_=>show .inr (.inr #[λl z=>D.noConfusion z,λl z=>D.noConfusion z])
def Oo(h:aT (.tup l) q=false):∃m,q=.tup m:=by
 cases q with
 |tup m=>show#[m,rfl]
 |_=>cases h
def OV(h:aT (.lst l) q=false):∃m,q=.lst m:=by
 cases q with
 |lst m=>show#[m,rfl]
 |_=>cases h
def Ol(G:aI K H x p)(F:aI K H y q)(i:aT p q=false)(h1:∀l,p≠.tup l)(h2:∀l,p≠.lst l):yA x y=true/\(p=q↔x=y):=by
 let B:=HF G i h1 h2;let v:=Ic F B i;cases B with
 |str J=>
  cases v with
  |str I=>
   rename_i x l y m;show#[rfl,λz=>?_,λz=>?_]
   .obtain⟨⟨a⟩⟩:=x;let#[#[b]]:=y;grind
   .cases z;rw[<-J,<-I]
  |_=>show#[rfl,λz=>D.noConfusion z,λz=>V.noConfusion z]
 |_=>cases v<;>first|show⟨rfl,λz=>D.noConfusion z,λz=>V.noConfusion z⟩|show⟨rfl,λz=>by cases z;rfl,λz=>by cases z;rfl⟩|cases i
def Cp(hu:X.A.units+32<cLine):OpR X (compareOp .NotEq) (yI X.K):=by
 classical
 intro zU s Z H x y v u Q I rx ry h;let#[p,q,r1,r2,hc,hd,hq]:=h;let i:EP X zU Z Q (.bool (!decide (p=q))) s:=#[.bl _,H,I,rfl,hq]
 let h3:X.A.in1.units+30<cLine:=by show X.A.units+1+30<cLine;lia
 rcases Eb p with⟨l,rfl⟩|⟨l,rfl⟩|⟨n1,n2⟩
 .obtain⟨m,rfl⟩:=Oo hc;cases r1 with
  |tup e1 q1=>
  cases r2 with
  |tup L q2=>
   rename_i a xs b ys;cases rx;cases ry;let#[G,w1,p1,_]:=I.tuple (aZ.of e1);let#[B,Y,p2,_]:=I.tuple (aZ.of L);let M:aW l<=30:=by let:aW l+1<=30:=hd;lia
   let J:G.toArray.size=l.length:=by rw[qt,<-w1.length,q1.len]
   let O:B.toArray.size=m.length:=by rw[qt,<-Y.length,q2.len]
   let:=RcNeAt.tuples (A:=X.A) (s:=s) (show s.heap.IsTuple a G.toArray from p1) (show s.heap.IsTuple b B.toArray from p2) ∅ (JS I q1 q2 w1 Y hc M h3);rw[J,O,En (l:=l) (m:=m) _ rfl]at this;let e:↥(D.tup l=D.tup m)=↥(l=m):=by by_cases h:l=m<;>simp
   rw[e]at i;show this X.prog X.w X.xe _ i
 .obtain⟨m,rfl⟩:=OV hc;cases r1 with
  |lst e1 q1=>
  cases r2 with
  |lst L q2=>
   cases rx;cases ry;let#[G,w1,p1,_]:=I.list e1;let#[B,Y,p2,_]:=I.list L;let M:aW l<=30:=by let:aW l+1<=30:=hd;lia
   let J:G.toArray.size=l.length:=by rw[qt,<-w1.length,q1.len]
   let O:B.toArray.size=m.length:=by rw[qt,<-Y.length,q2.len]
   let e:↥(D.lst l=D.lst m)=↥(l=m):=by by_cases h:l=m<;>simp
   rw[e]at i;by_cases F:l.length=m.length
   .let:=RcNeAt.lists (A:=X.A) (s:=s) p1.isList p2.isList ∅ ∅ (JS I q1 q2 w1 Y hc M h3);rw[J]at this;let L:=En (l:=l) (m:=m) l.length ∅;let e3:(l.length==m.length)=true:=by simpa using F
    rw[e3,Bool.and_true]at L;rw[<-L]at i;show this X.prog X.w X.xe _ i
   .let:=RcNeAt.lists_lengths (A:=X.A) (s:=s) p1.isList p2.isList (by simp[J,O];simpa using F) ∅;let L:↥(l=m)=false:=qT λz=>F (by rw[z]);rw[L]at i;show this X.prog X.w X.xe _ i
 .obtain⟨h1,h2⟩:=Ol r1 r2 hc n1 n2;rw[decide_eq_decide.mpr h2]at hq;show LU zU s Z H x y v u Q I rx ry #[h1,hq]
def Cr:cG K (yI K) gX:=by
 intro H x y p q k Q B v e F;unfold gX at e;cases i:eS p q with
 |none=>rw[i]at e;cases e
 |some b=>rw[i]at e;let G:(!b)=k:=qg e;let#[h1,h2]:=Ir i;let:=JI i;subst this;subst G;show#[p,q,B,v,h1,h2,F]
def gT(f:Int->Int->Bool)(g:List Nat->List Nat->Bool):R2:=λx y H Q=>(∃i j,x=.int i/\y=.int j/\Q (.bl (f i j)) H)\/∃i j,x=.str i/\y=.str j/\Q (.bl (g i.cps.toList j.cps.toList)) H
def EB{g:List Nat->List Nat->Bool}(rule:∀(i j:Str)(t u:Tok)(s:Shared)(Q:zu)(E:zu),Q (.bool (g i.cps.toList j.cps.toList)) s->wpAny (model X.prog X.w) X.A (compareOp op (.str i t) (.str j u)) Q E s):
  OpR X (compareOp op) (λx y H Q=>∃i j,x=.str i/\y=.str j/\Q (.bl (g i.cps.toList j.cps.toList)) H):=by
 intro zU s Z H x y v u Q I G F h;let#[i,j,rfl,rfl,q]:=h;let#[t,rfl]:=G;let#[B,rfl]:=F;show rule i j t B s _ _ #[.bl _,H,I,rfl,q]
def NJ:OpR X (compareOp .Lt) (gT (λi j=>↥(i<j)) λl m=>↥(l<m)):=FL.OpR.or Mf (EB (g:=λl m=>↥(l<m)) λ_ _ _ _ _ _ _ q=>PyProof.Rows.lt_str q)
def Nk:OpR X (compareOp .LtE) (gT (λi j=>↥(i<=j)) λl m=>!decide (m<l)):=FL.OpR.or LX (EB (g:=λl m=>!decide (m<l)) λ_ _ _ _ _ _ _ q=>PySem.P.le_str q)
def Dg:OpR X (compareOp .Gt) (gT (λi j=>↥(j<i)) λl m=>↥(m<l)):=FL.OpR.or LP (EB (g:=λl m=>↥(m<l)) λ_ _ _ _ _ _ _ q=>PySem.P.gt_str q)
def Iq:OpR X (compareOp .GtE) (gT (λi j=>↥(j<=i)) λl m=>!decide (l<m)):=FL.OpR.or LK (EB (g:=λl m=>!decide (l<m)) λ_ _ _ _ _ _ _ q=>PySem.P.ge_str q)
def EK(h:∀p q k,o p q=⇑k->(∃i j,p=.int i/\q=.int j/\k=f i j)\/∃l m,p=.str l/\q=.str m/\k=g l m):cG K (gT f g) o:=by
 intro H x y p q k Q B v e F;rcases h p q k e with⟨i,j,rfl,rfl,rfl⟩|⟨l,m,rfl,rfl,rfl⟩
 .cases B;cases v;show .inl #[i,j,rfl,rfl,F]
 .cases B with
  |str I L=>cases v with
   |str G J=>subst I G;show .inr #[_,_,rfl,rfl,F]
def Pc:cG K (gT (λi j=>↥(i<j)) λl m=>↥(l<m)) dm:=EK λp q k e=>by
 unfold dm de at e;split at e
 .show .inl #[_,_,rfl,rfl,(qg e).symm]
 .show .inr #[_,_,rfl,rfl,(qg e).symm]
 .cases e
def Dq:cG K (gT (λi j=>↥(j<i)) λl m=>↥(m<l)) nV:=EK λp q k e=>by
 unfold nV de at e;split at e
 .show .inl #[_,_,rfl,rfl,(qg e).symm]
 .show .inr #[_,_,rfl,rfl,(qg e).symm]
 .cases e
def Of:cG K (gT (λi j=>↥(i<=j)) λl m=>!decide (m<l)) dn:=EK λp q k e=>by
 unfold dn at e;split at e
 .show .inl #[_,_,rfl,rfl,(qg e).symm]
 .show .inr #[_,_,rfl,rfl,(qg e).symm]
 .cases e
def Js:cG K (gT (λi j=>↥(j<=i)) λl m=>!decide (l<m)) xK:=EK λp q k e=>by
 unfold xK at e;split at e
 .show .inl #[_,_,rfl,rfl,(qg e).symm]
 .show .inr #[_,_,rfl,rfl,(qg e).symm]
 .cases e
end
section
open PySem.SeqAt
open Classical in
def tZ(K:W.Frag)(neg:Bool):R2:=λx y H Q=>∃p l,aI K H x p/\(aI K H y (.lst l)\/aI K H y (.tup l))/\(∀d∈l,aT d p=false/\cZ d<=30)/\Q (.bl (if neg then !decide (p∈l)else ↥(p∈l))) H
def EE(I:Inv X zU Z H s)(rx:zJ x v)(r1:aI X.K H x p)(q1:zS X.K H xs l)(w1:zR xs us)(hc:∀d∈l,aT d p=false/\cZ d<=30)(hu:A.units+30<cLine):
  ∃e:Value->Bool,(∀y,y∈us.toArray->EqAt A s y v (e y))/\us.toArray.any e=(open Classical in ↥(p∈l)):=by
 classical
 have item:∀{y:Value},y∈us->∃z d,zJ z y/\aI X.K H z d/\d∈l:=λ{y} O=>by
  let#[j,hj,e]:=List.getElem_of_mem O;let#[z,hz,G]:=Cv (j:=j) w1 hj;let hl:j<l.length:=by rw[<-q1.len,w1.length];show hj
  let#[Y,M,B]:=q1.get (i:=j) (d:=l[j]) (by simp);rw[hz]at M;cases M;show#[z,l[j],?_,B,by simp];let:us.toArray[j]=y:=e;rw[<-this];show G
 show#[λy=>↥(∃z,zJ z y/\aI X.K H z p),λy O=>?_,?_]
 .have h1:y∈us:=by simpa using O
  obtain⟨z,d,G,B,hd⟩:=item h1;let L:=hc d hd;let:=(Ei 30 (A:=A) L.2 I B r1 G rx L.1 hu).1;let e:↥(d=p)=↥(∃z,zJ z y/\aI X.K H z p):=by
   by_cases h:d=p
   .subst h;rw[qS rfl,qS #[z,G,B]]
   .rw[qT h];show(qT ?_).symm;rintro⟨Y,F,J⟩;let:z=Y:=G.inj F;subst this;show h (aI.uniq I B J L.1)
  show EqAt A s y v ↥(∃z,zJ z y/\aI X.K H z p);rw[<-e];show this
 .by_cases h:p∈l
  .rw[qS h];let#[j,hj,e]:=List.getElem_of_mem h;let#[z,hz,B]:=q1.get (i:=j) (d:=l[j]) (by simp);let#[u,h2,ru]:=w1.get hz;rw[Array.any_eq_true'];show#[u,by simpa using qN h2,qS #[z,ru,e▸B]]
  .rw[qT h];rw[Array.any_eq_false'];intro y O z;let#[Y,F,J]:=qV z;let#[z2,d,G,B,hd]:=item (y:=y) ↑O;let:z2=Y:=G.inj F;subst this;show h (aI.uniq I B J (hc d hd).1▸hd)
def Mm(hu:X.A.units+32<cLine):OpR X (compareOp .In) (tZ X.K false):=by
 intro zU s Z H x y v u Q I Y O h;let#[p,l,r1,i,hc,hq]:=h;let F:X.A.in1.units+30<cLine:=by show X.A.units+1+30<cLine;lia
 rcases i with i|i
 .cases i with
  |lst e q=>cases O;let#[B,G,J,_]:=I.list e;let#[f,L,M]:=EE (A:=X.A.in1) I Y r1 q G hc F;show in_listAt f J.isList L #[.bl _,H,I,rfl,by rw[M];show hq]
 .cases i with
  |tup e q=>cases O;let#[B,G,J,_]:=I.tuple (aZ.of e);let#[f,L,M]:=EE (A:=X.A.in1) I Y r1 q G hc F;show in_tupleAt f (show s.heap.IsTuple _ B.toArray from J) L #[.bl _,H,I,rfl,by rw[M];show hq]
def RH(hu:X.A.units+32<cLine):OpR X (compareOp .NotIn) (tZ X.K true):=by
 intro zU s Z H x y v u Q I Y O h;let#[p,l,r1,i,hc,hq]:=h;let F:X.A.in1.units+30<cLine:=by show X.A.units+1+30<cLine;lia
 rcases i with i|i
 .cases i with
  |lst e q=>cases O;let#[B,G,J,_]:=I.list e;let#[f,L,M]:=EE (A:=X.A.in1) I Y r1 q G hc F;show notIn_listAt f J.isList L #[.bl _,H,I,rfl,by rw[M];show hq]
 .cases i with
  |tup e q=>cases O;let#[B,G,J,_]:=I.tuple (aZ.of e);let#[f,L,M]:=EE (A:=X.A.in1) I Y r1 q G hc F;show notIn_tupleAt f (show s.heap.IsTuple _ B.toArray from J) L #[.bl _,H,I,rfl,by rw[M];show hq]
end
section
variable{K:W.Frag}
def Fv(B:xs.length=l.length)(h:atI l i=⇑d):∃j,ixN l.length i=⇑j/\l[j]?=⇑d/\∀x,xs[j]?=⇑x->L2.atI xs i=⇑x:=by
 unfold atI at h;cases q:ixN l.length i with
 |none=>rw[q]at h;cases h
 |some j=>
  rw[q]at h;show#[j,rfl,h,λx v=>?_];let e:L2.ixN xs.length i=⇑j:=by rw[B];show q
  unfold L2.atI;rw[e];show v
def zS.atI(r:zS K F xs l)(h:FL.atI l i=⇑d):∃x,L2.atI xs i=⇑x/\aI K F x d:=by let#[j,_,h1,h2]:=Fv (xs:=xs) r.len h;let#[x,B,v]:=r.get h1;show#[x,h2 x B,v]
def zI.get{j:Nat}(r:zI K F H xs l fp)(h:l[j]?=⇑t):∃x B i v,xs[j]?=⇑x/\aF K F H x t i/\fp=B++(i++v):=
 zI.ind (P:=λxs l fp=>∀j t,l[j]?=⇑t->∃x B i v,xs[j]?=⇑x/\aF K F H x t i/\fp=B++(i++v)) (λ_ _ e=>by cases e) (λa _ G j t e=>by
  cases j with
  |zero=>cases e;show#[_,[],_,_,rfl,a,rfl]
  |succ j=>let#[x,B,i,v,h1,h2,rfl]:=G j t e;show#[x,_++B,i,v,h1,h2,(qq ..).symm]) r j t h
def Rel.item{j:Nat}(r:Rel K (U++[⇑(.lst l)]) (Z++[⇑(.ref a)]) F G H)(h:l[j]?=⇑t):∃xs x,H a=⇑(.lst xs)/\xs.length=l.length/\xs[j]?=⇑x/\Rel K (U++[⇑t]) (Z++[⇑x]) F G H:=by
 let#[fp,e,M,ap]:=r.en;let#[v,f2,rfl,en,b]:=e.cut (Ad r);cases b with
 |so J L=>
  cases L;cases J with
  |lst Y rl=>
   rename_i xs fl;let#[x,I,i,B,h1,h2,rfl]:=rl.get h;show#[xs,x,Y,rl.len,h1,r.fr,r.gr,v++(i++[]),en.app (.so h2 .nil),?_,λy O=>ap y ?_]
   .let sub:List.Sublist (v++(i++[])) (v++(a::(I++(i++B))++[])):=by show List.Sublist.append (List.Sublist.refl _) ?_;simp;exact(List.Sublist.cons _ ((List.sublist_append_left i B).trans (List.sublist_append_right I _)))
    show sub.nodup M
   .rcases qy.mp O with z|z
    .show qk _ z
    .show qj _ ?_;simp only[qA]at z⊢;show qm _ (qj _ (qk _ z))
end
def OM{K:W.Frag}(e:aZ K H c xs)(r:zS K F xs l)(h:atI l i=⇑d)(G:∀x,aI K F x d->Q x H):cy K (.ref c) (.int i) H Q:=by let#[x,B,v]:=r.atI h;show .inr (.inl #[c,xs,i,x,rfl,rfl,e,B,G x v])
def Pn{K:W.Frag}(e:bB K H c xs)(r:zS K F xs l)(h:atI l i=⇑d)(G:∀x,aI K F x d->Q x H):cy K (.ref c) (.int i) H Q:=by let#[x,B,v]:=r.atI h;show .inl #[c,xs,i,x,rfl,rfl,e,B,G x v]
def Ph(h:iI s q=⇑t):(∃l i d,s=.sh (.tup l)/\q=.int i/\atI l i=⇑d/\t=.sh d)\/(∃l i d,s=.sh (.lst l)/\q=.int i/\atI l i=⇑d/\t=.sh d)\/
  (∃l i c,s=.sh (.str l)/\q=.int i/\atI l i=⇑c/\t=.sh (.str [c]))\/∃l i,s=.lst l/\q=.int i/\atI l i=⇑t:=by
 show cps λ_ kk=>?_;rcases s with d|l|_|_
 .rcases d with _|_|_|l|l|l|_|_|_;case str|tup|lst=>
   rcases q with _|_|i|_|_|_|_|_|_;case int=>let#[d,e,e']:=qZ.mp h;first|show kk (.inl ⟨_,_,d,rfl,rfl,e,e'.symm⟩)|show kk (.inr (.inl ⟨_,_,d,rfl,rfl,e,e'.symm⟩))|show kk (.inr (.inr (.inl ⟨_,_,d,rfl,rfl,e,e'.symm⟩)))
   all_goals cases h
  all_goals cases h
 .rcases q with _|_|i|_|_|_|_|_|_;case int=>exact kk (.inr (.inr (.inr #[_,_,rfl,rfl,h])))
  all_goals cases h
 all_goals cases h
def Ga{K:W.Frag}(h:aF K F H v (.sh d) fp):aI K F v d:=by cases h;assumption
def Kh{K:W.Frag}(h:aF K F H v (.lst l) fp):∃a xs fq,v=.ref a/\H a=⇑(.lst xs)/\zI K F H xs l fq:=by
 cases h with
 |lst h1 h2=>show#[_,_,_,rfl,h1,h2]
def Im{K:W.Frag}(fr:zF F H)(r:aI K F v d)(J:aI K F2 u q)(O:iI (.sh d) q=⇑t)(G:∀e x,t=.sh e->aI K F x e->Q x H):cy K v u H Q:=by
 rcases Ph O with⟨l,i,e,B,rfl,M,rfl⟩|⟨l,i,e,B,rfl,M,rfl⟩|⟨l,i,c,B,rfl,Y,rfl⟩|⟨l,i,B,_⟩
 .injection B with B
  subst B;obtain rfl:=bC.int (H:=H) (.inl J);let#[a,xs,rfl,h1,L]:=bC.tup (H:=H) (.inl r);show OM (aZ.of (fr.at _ _ h1)) L M λx I=>G _ x rfl I
 .injection B with B
  subst B;obtain rfl:=bC.int (H:=H) (.inl J);let#[a,xs,rfl,h1,L]:=bC.lst (H:=H) fr (.inl r);show Pn h1 L M λx I=>G _ x rfl I
 .injection B with B
  subst B;obtain rfl:=bC.int (H:=H) (.inl J);let#[x,rfl,h1,z]:=bC.str (H:=H) (.inl r);show .inr (.inr #[_,i,c,rfl,rfl,by rw[CQ h1];show z,by rw[h1];show Y,G _ _ rfl (.str rfl (by show 1<=_;decide))])
 .cases B
def Jl(h:iI (.lst l) q=⇑t):∃i,q=.int i/\atI l i=⇑t:=by
 cases q with
 |int i=>show#[i,rfl,h]
 |_=>cases h
def AC(ha:FE X a wa)(hb:FE X b wb)(hs:eE b:=by intro _ _;rfl):FE X (.Subscript a b pos) (dB wa wb):=λpn xe hp=>by
 refine PE.imp (Eg (FJ (X:=wp X pn xe)) (ha pn xe hp) (hb pn xe hp) hs) λZ H Q q=>?_;refine(CD (k:=λx y U2 Q E=>zz (view y U2) λq=>match x with
  |.v s=>zz (iI s q) λt=>Q (.v t) U2
  |.loc i=>match slot U2 i with
   |some s=>match iI s q with
    |some (.sh d)=>Q (.v (.sh d)) U2
    |_=>False
   |none=>False) q).mono λv H1 h1=>h1.mono λu H2 h2=>?_
 let#[F,G,U,x,y,P,PX,h4,O,rx,ry,I,h5,hx]:=h2;let#[q,eq,I]:=Ah I;let B:Rel X.K (U++[zG x]) (Z++[⇑v]) F G H2:=by let:=Rel.swap (U1:=[zG x]) (Z1:=[⇑v]) (U2:=[zG y]) (Z2:=[⇑u]) O rfl h4;show Rel.mid (U:=U) (Z:=Z) this O
 let h3:Rel X.K (U++[zG y]) (Z++[⇑u]) F G H2:=h4.mid O;let ru:=look (U':=[]) (Z':=[]) h3 O ry eq;let L:∀{d:D}{x:V},P (.v (.sh d)) U->aI X.K F x d->Q x H2:=λhP r=>h5 _ U _ F H2 hP (zF.refl F) ((B.drop O).push r) trivial;cases x with
 |v s=>
  let#[t,J,hP]:=Ah I;let#[w,fp,e1,sr]:=B.at (i:=U.length) (s:=s) Cy;rw[O,getElem?_append_right (zb _)]at e1;let e2:v=w:=↑e1
  subst e2;cases s with
  |sh d=>show Im B.fr (Ga sr) ru J λe x z rx=>L (by rw[<-z];show hP) rx
  |lst l=>let#[i,rfl,J]:=Jl J;obtain rfl:=bC.int (H:=H2) (.inl ru);let#[a,ys,fq,rfl,hD,rl]:=Kh sr;let#[j,_,hj,Y]:=Fv rl.len J;let#[xs,x,h6,h8,M,r2]:=Rel.item B hj;rw[hD]at h6;cases h6;show .inl #[_,_,i,x,rfl,rfl,bB.of hD,Y x M,h5 _ U _ F H2 hP (zF.refl F) r2 trivial]
  |_=>cases q<;>cases J
 |loc k=>
  dsimp only at I;cases qs:slot U k with
  |none=>rw[qs]at I;show I.elim
  |some s=>
   rw[qs]at I;dsimp only at I;split at I
   .rename_i d J;let#[w,fp,e1,sr]:=(B.drop O).at qs;let h7:Z[k]?=⇑⇑v:=rx;rw[h7]at e1;let e2:v=w:=by simpa using e1
    subst e2;cases s with
    |sh d'=>show Im B.fr (Ga sr) ru J λe x z rx=>L (by injection z with z;rw[<-z];show I) rx
    |lst l=>let#[i,rfl,J]:=Jl J;obtain rfl:=bC.int (H:=H2) (.inl ru);let#[a,ys,fq,rfl,hD,rl]:=Kh sr;let#[j,_,hj,Y]:=Fv rl.len J;let#[x,fa,fi,fb,M,sx,_]:=rl.get hj;show .inl #[_,_,i,x,rfl,rfl,bB.of hD,Y x M,L I (Ga sx)]
    |_=>cases q<;>cases J
   .show I.elim
section
variable{K:W.Frag}{Z:St}
def zI.set:∀{xs:List V}{l:List S}{fp:List Addr}{m:Nat},zI K F H xs l fp->m<l.length->∃G J B,fp=G++(J++B)/\
  ∀{H':Hp}{v:V}{s:S}{fq:List Addr},(∀a∈G++B,H' a=H a)->aF K F H' v s fq->zI K F H' (xs.set m v) (l.set m s) (G++(fq++B))
 |_,_,_,_,.nil,h=>by simp at h
 |_,_,_,0,.cons (fp:=fp) (fq:=fq) a b,h=>#[[],fp,fq,rfl,λI r=>by rw[nil_append];show .cons r (b.mono (zF.refl F) λc i=>I c i)]
 |_,_,_,m+1,.cons (fp:=fp) (fq:=fq) a b,h=>by let#[G,J,B,rfl,L]:=zI.set (m:=m) b ↑h;show#[fp++G,J,B,(qq ..).symm,λI r=>?_];rw[qq];show .cons (a.mono (zF.refl F) λc i=>I c (qk _ (qk _ i))) (L (λc i=>I c ((qy.mp i).elim (λz=>qk _ (qj _ z)) λz=>qj _ z)) r)
def DB(h:Z[n]?=⇑⇑v):Z.set n ⇑v=Z:=by
 apply ext_getElem?;intro j;by_cases i:n=j
 .subst i;rw[getElem?_set_self (qh.mp h).1,h]
 .rw[getElem?_set_ne i]
def Rel.setItem{D:Addr}(r:Rel K (U++[⇑s]) (Z++[⇑v]) F G H)(hs:slot U n=⇑(.lst l))(I:Z[n]?=⇑⇑(.ref D))(hm:m<l.length):
  ∃xs,H D=⇑(.lst xs)/\xs.length=l.length/\Rel K (U.set n ⇑(.lst (l.set m s))) Z F G (upd H D (.lst (xs.set m v))):=by
 let hl:=Ad r;let#[fp,e,nd,ap]:=r.en;let#[f1,f2,rfl,a,b]:=e.cut hl;let#[v',Y,fi,O,e1,rfl,q,up]:=a.at hs;rw[I]at e1;let e2:V.ref D=v':=↑e1
 subst e2;cases q with
 |lst hD rl=>
  rename_i xs fl;cases b with
  |so sr nl=>
   cases nl;rename_i fs;let#[L,gi,J,rfl,h1]:=rl.set hm;show#[xs,hD,rl.len,?_];let#[n1,n2,h3]:=qx.mp nd;let#[na,i,h2]:=qx.mp n1;let#[ni,nb,i]:=qx.mp i;let#[nD,h8]:=qM.mp ni;let h7:D∉Y:=λz=>h2 D z D (qk _ qo) rfl;let h6:D∉O:=λz=>i D qo D z rfl;let h4:D∉fs:=λz=>h3 D (qj _ (qk _ qo)) D ↑z rfl;let M:=ap D (qk _ (qj _ (qk _ qo)));let ne:∀{l:List Addr},D∉l->∀x∈l,upd H D (.lst (xs.set m v)) x=H x:=λh x B=>Ae λz=>h (z▸B);let h5:D∉L++J:=λz=>nD ((qy.mp z).elim (λw=>qk _ w) λw=>qj _ (qj _ w));let new:aF K F (upd H D (.lst (xs.set m v))) (.ref D) (.lst (l.set m s)) (D::(L++(fs++J))):=.lst Aw (h1 (ne h5) (sr.mono (zF.refl F) (ne h4)));let a2:=up (F':=F) (H':=upd H D (.lst (xs.set m v))) (o:=⇑(.lst (l.set m s))) (u:=⇑(.ref D)) (zF.refl F) (λx B=>Ae λz=>(qy.mp B).elim (λw=>h7 (z▸w)) λw=>h6 (z▸w)) (.so new .nil);rw[DB I]at a2;let sub:∃l2,l2.Perm (Y++((D::(L++(gi++J)))++O)++(fs++[]))/\List.Sublist (Y++((D::(L++(fs++J)))++[]++O)) l2:=by
    show#[Y++((D::(L++(fs++(gi++J))))++[]++O),?_,?_]
    .simp;show List.Perm.append_left _ (List.Perm.cons _ (List.Perm.append_left _ ?_));show qO.trans (by simp)
    simp_all
   let#[l2,p,sb]:=sub;show#[zF.updR r.fr M.1,λx o w=>?_,_,a2,sb.nodup (p.nodup_iff.mpr nd),λx B=>ap x (p.mem_iff.mp (sb.subset B))];let B:x≠D:=λz=>by rw[z,M.2]at w;cases w
   rw[Ae B];show r.gr x o w
end
theorem JZ(ho:FE X o (zv j))(hi:FE X i wi)(he:FE X e we)(hs:autoParam (swapsWithSole [.Subscript o i tpos] e pos.line X.env=pure false) rZ9)(hw:autoParam (swappedStores [.Subscript o i tpos] e X.env=pure none) rZ9)
  (h1:autoParam ((assignEach [.Subscript o i tpos] X.env).map (·.2)=[assign (.Subscript o i tpos) X.env]) rZ9)
  (ha:∀v,assign (.Subscript o i tpos) X.env v=(do
   let ov<-holding [v] (eval o X.env)
   let iv<-holding [v,ov] (eval i X.env)
   standAt tpos
   holding [v,ov,iv] (setItem ov iv v)
   release [v,ov,iv] []):=by intro _;rfl):FS X ks (.Assign [.Subscript o i tpos] e pos) (fK j wi we):=λpn xe hp=>by
 show PS.imp (HR (X:=wp X pn xe) (he pn xe hp) (MA (X:=wp X pn xe) (ho pn xe hp) (hi pn xe hp) QJ ha) hs hw h1) λD Z H q=>?_;let#[F,G,U,E,zW,hw,n,b,c,r,x]:=q;let x0:XC (wp X pn xe) (·=Z) F G E.ex:=x.mono (λZ2 z=>by rw[z];show KP.refl) (zF.refl F) (eT.refl G);show#[F,G,U,_,_,zW,hw,λr U1 v F1 H1 hk s1 r1 rv=>?_,x0];let l1:=Ad r1;let#[G1,rel1,gg,back]:=r1.hide l1;show#[F1,G1,U1,_,_,rel1,hk,λy U2 o' F2 H2 hk2 s2 r2 rv2=>?_,x0.mono (λ_ z=>z) s1 gg];let l2:=Ad r2;let#[G2,rel2,gg2,back2]:=r2.hide l2;show#[F2,G2,U2,_,_,rel2,hk2,λz U3 i' F3 H3 hk3 s3 r3 rv3=>?_,x0.mono (λ_ z=>z) (s1.trans s2) (gg.trans gg2)];let l3:=Ad r3;let#[q,eq,hk3]:=Ah hk3;let#[#[t,U4],eg,hk4]:=Ah hk3
 --all three stand at the end
 let r4:=back (s2.trans s3) (back2 s3 r3);simp only[qq,qP,nil_append]at r4;let ri:=look (U':=[zG y,zG r]) (Z':=[⇑o',⇑v]) r4 l3 rv3 eq;let r5:Rel X.K (U3++[zG r]) (Z++[⇑v]) F3 G H3:=Rel.mid (U:=U3) (Z:=Z) (Rel.mid (U:=U3) (Z:=Z) r4 l3) l3;let#[F4,s4,l4,r6]:=Al (U':=[]) (Z':=[]) r5 l3 rv eg;cases y with
 |v y0=>show hk4.elim
 |loc k=>
  cases q with
  |int m=>
   cases qs:slot U4 j with
   |none=>simp only[qs]at hk4
   |some sj=>
    cases sj with
    |lst l=>
     simp only[qs]at hk4;let#[rfl,hk4]:=hk4;let#[w,ew,hnx]:=Ah hk4;let hZ:Z[k]?=⇑⇑o':=rv2;let#[v',fp,e1,sr]:=r6.at (i:=k) (s:=.lst l) (by rw[CU (BY qs)];show qs);let hkl:k<Z.length:=(qh.mp hZ).1;rw[getElem?_append_left hkl,hZ]at e1;let e2:o'=v':=↑e1
     subst e2;let hw:w<l.length:=by
      unfold ixN at ew;split at ew
      .split at ew
       .let e:=qg ew;lia
       .cases ew
      .split at ew
       .let e:=qg ew;lia
       .cases ew
     cases sr with
     |lst hD rl=>rename_i a xs fl;let#[xs',hD',zX,r7]:=Rel.setItem r6 qs hZ hw;rw[hD]at hD';cases hD';cases ri;show#[a,xs,m,w,rfl,rfl,hD,by rw[zX];show ew,n _ Z F4 _ hnx KP.refl (s1.trans (s2.trans (s3.trans s4))) r7]
    |_=>simp[qs]at hk4
  |_=>show hk4.elim
def Dv(ho:FE X o (zv j))(he:FE X e we)
  (O:autoParam (attributeBase o "append" X.env (eval o X.env)=eval o X.env) rZ9)
  (h3:autoParam (((backTo cpos (starEach [e] X.env)).all (λx=>!x.1)&&(backToKw cpos (keywordEach [] X.env)).all (λx=>x.1.isSome)
   &&↥([e].length+([]:List Keyword).length+(if([]:List Keyword).isEmpty then 0 else 1)<30))=true) rZ9)
  (M:autoParam ((apos.endLine==cpos.line)=true) rZ9)(hs:autoParam (starEach [e] X.env=[(false,eval e X.env)]) rZ9):FE X (.Call (.Attribute o "append" apos) [e] [] cpos) (bM j we):=λpn xe hp=>by
 refine PE.imp (Df (X:=wp X pn xe) PySem.F.plainAttrs_list PySem.F.slot_list_append PySem.F.type_list_append GV (ho pn xe hp) (Aa he Ac hs pn xe hp) O h3 M hs rfl) λZ H Q q=>?_;let#[F,G,U,P,PX,h4,hw,h5,hx]:=q;let I:(match slot U j with
  |some (.lst _)=>we U (λr J=>zz (give r J) λp=>(match slot p.2 j with
   |some (.lst l)=>l.length<big/\P (.v (.sh .non)) (p.2.set j ⇑(.lst (l++[p.1])))
   |_=>False)) PX
  |_=>False):=hw
 cases Y:slot U j with
 |none=>rw[Y]at I;show I.elim
 |some s0=>
  cases s0 with
  |lst l0=>
   rw[Y]at I;show#[F,G,U,λy L=>y=.loc j/\L=U,PX,h4,by unfold zv;rw[Y];show#[rfl,rfl],λy L o' F1 H1 B s1 r1 rv=>?_,hx];let#[rfl,rfl]:=B;let l1:=Ad r1;let h1:Z[j]?=⇑⇑o':=rv;let r2:=r1.drop l1;let#[v',fp,e1,sr]:=r2.at Y;rw[h1]at e1;let e2:o'=v':=↑e1
   subst e2;cases sr with
   |lst hD rl=>
    rename_i a xs fl;show#[.inl #[rfl,_,bB.of hD],F1,G,L,λrs J=>match rs with|[r]=>(zz (give r J) λp=>match slot p.2 j with|some (.lst l)=>l.length<big/\P (.v (.sh .non)) (p.2.set j ⇑(.lst (l++[p.1])))|_=>False)|_=>False,PX,r2,I,λrs J vs F2 H2 B s2 r3 hl i=>?_,hx.grow s1];match rs,vs,i,r3,B with
    |[r],[v],i,r3,B=>
     let#[#[t,h7],eg,B]:=Ah B;let#[F3,s3,l3,r4]:=Al (U':=[]) (Z':=[]) r3 hl i.1 eg;split at B
     .rename_i l ql;let#[ys,h6,h2,r5]:=Rel.append r4 ql h1;show#[a,ys,v,rfl,rfl,h6,by rw[h2];show lt_trans B.1 ⋯,h5 _ _ .non F3 _ B.2 (s1.trans (s2.trans s3)) (r5.push .non) trivial]
     .show B.elim
    |[],_,_,_,B=>show B.elim
    |[_],[],i,_,_=>show i.elim
    |[_],_::_::_,i,_,_=>show i.2.elim
    |_::_::_,_,_,_,B=>show B.elim
  |_=>rw[Y]at I;show I.elim
section
variable{K:W.Frag}
def gI(K:W.Frag)(F H:Hp):List V->List D->Prop
 |[],[]=>True
 |v::vs,d::ds=>bC K F H v d/\gI K F H vs ds
 |_,_=>False
def AB{b:List D->Option S}(h2:∀x y r,b (x::y::r)=none)(B:b []=none)(i:gI K F H vs ds)(e:b ds=⇑s):∃d v,ds=[d]/\vs=[v]:=by
 cases ds with
 |nil=>rw[B]at e;cases e
 |cons x ds=>
  cases ds with
  |cons y r=>rw[h2]at e;cases e
  |nil=>
   cases vs with
   |nil=>show i.elim
   |cons v vs=>
    cases vs with
    |nil=>show#[x,v,rfl,rfl]
    |cons u vs=>show i.2.elim
def Ef{b:List D->Option S}(h1:∀x,b [x]=none)(B:∀x y z r,b (x::y::z::r)=none)(G:b []=none)(i:gI K F H vs ds)(e:b ds=⇑s):∃d I v u,ds=[d,I]/\vs=[v,u]:=by
 cases ds with
 |nil=>rw[G]at e;cases e
 |cons x ds=>
  cases ds with
  |nil=>rw[h1]at e;cases e
  |cons y ds=>
   cases ds with
   |cons z r=>rw[B]at e;cases e
   |nil=>
    cases vs with
    |nil=>show i.elim
    |cons v vs=>
     cases vs with
     |nil=>show i.2.elim
     |cons u vs=>
      cases vs with
      |nil=>show#[x,y,v,u,rfl,rfl]
      |cons u vs=>show i.2.2.elim
def AF:∀{rs:List R}{vs:List V}{ds:List D}{U U':Env}{F:Hp}{Z':St},Rel K (U++(rs.map zG++U')) (Z++(vs.map some++Z')) F G H->U.length=Z.length->nX Z vs rs->(rs.mapM λr=>zQ r U)=⇑ds->
  ∃F',zF F F'/\gI K F' H vs ds/\Rel K (U++U') (Z++Z') F' G H
 |[],[],ds,U,U',F,Z',r,h,_,e=>by
  let B:ds=[]:=↑e.symm
  subst B;show#[F,zF.refl F,trivial,r]
 |[],_::_,_,_,_,_,_,_,_,h,_=>h.elim
 |_::_,[],_,_,_,_,_,_,_,h,_=>h.elim
 |x::rs,v::vs,ds,U,U',F,Z',r,h,rv,e=>by
  rw[List.mapM_cons]at e;cases q:zQ x U with
  |none=>rw[q]at e;cases e
  |some d=>
   rw[q]at e;cases i:(rs.mapM λr=>zQ r U)with
   |none=>rw[i]at e;cases e
   |some es=>rw[i]at e;let B:d::es=ds:=qg e;subst B;let#[F1,J,L,O]:=AD (U':=rs.map zG++U') (Z':=vs.map some++Z') r h rv.1 q;let#[Y,I,res,M]:=AF (rs:=rs) (vs:=vs) O h rv.2 i;show#[Y,J.trans I,#[L.mono I,res],M]
def bS(K:W.Frag)(r:List V->Hp->VK->Prop)(f:List D->Option S):Prop:=∀(Z:St)(U:Env)(F G H:Hp)(vs:List V)(ds:List D)(s:S)(Q:VK),Rel K U Z F G H->gI K F H vs ds->f ds=⇑s->
 (∀v F' H',zF F F'->Rel K (U++[⇑s]) (Z++[⇑v]) F' G H'->Q v H')->r vs H Q
end
section
variable{id T:String}
def JC(hd:bS X.K r f)(Z:St)(H:Hp)(Q:VK)(q:tW (wp X pn xe) (wB f O) Z H Q):gm r (tH (wp X pn xe) O) Z H Q:=by show(many (k:=λM i Q E=>zz (M.mapM λr=>zQ r i) λL=>zz (f L) λs=>Q (.v s) i) q).mono λY H1 h1=>?_;let#[F,G,U,M,P,PX,I,hl,rv,B,J,hx]:=h1;let#[L,ed,B]:=Ah B;let#[s,es,B]:=Ah B;let#[F1,s1,re,r1]:=AF (U':=[]) (Z':=[]) ↑I hl rv ed;show hd Z U F1 G H1 Y L s Q ↑r1 re es λv F' H' sm r'=>J _ U v F' H' B (s1.trans sm) r' trivial
def Cz(O:∀pn xe,aU (wp X pn xe) (.builtin id) r)(M:bS X.K r f)(J:Gl X x)(I:X.mg x=none)(F:bootBuiltins x=⇑(.builtin id))(Y:FA X (e::es) B)(hn:autoParam (x≠"__name__") dZ9)(v:autoParam ((x==("__debug__":Str))=false) dZ9)
  (L:autoParam (starEach (e::es) X.env=(false,eval e X.env)::starEach es X.env) rZ9)(i:autoParam ((backTo pos (starEach es X.env)).any (·.1)=false) rZ9):FE X (.Call (.Name x p) (e::es) [] pos) (wB f B):=λpn xe G=>
 PE.imp (Qs (X:=wp X pn xe) (O pn xe) J I F (Y pn xe G) hn v L i) (JC M)
def GM(O:∀pn xe,aU (wp X pn xe) (.type T) r)(M:bS X.K r f)(J:Gl X x)(I:X.mg x=none)(F:bootBuiltins x=⇑(.type T))(Y:FA X (e::es) B)(hn:autoParam (x≠"__name__") dZ9)(v:autoParam ((x==("__debug__":Str))=false) dZ9)
  (L:autoParam (starEach (e::es) X.env=(false,eval e X.env)::starEach es X.env) rZ9)(i:autoParam ((backTo pos (starEach es X.env)).any (·.1)=false) rZ9):FE X (.Call (.Name x p) (e::es) [] pos) (wB f B):=λpn xe G=>
 PE.imp (RE (X:=wp X pn xe) (O pn xe) J I F (Y pn xe G) hn v L i) (JC M)
def yK(K:W.Frag):List V->Hp->VK->Prop:=λxs H Q=>(∃p ys,xs=[.ref p]/\(bB K H p ys\/aZ K H p ys)/\Q (.int ys.length) H)\/∃z,xs=[.str z]/\z.length<=sizeLine/\Q (.int z.length) H
def aU.or'{f:Value}(h:aU X f r)(h':aU X f B):aU X f (λx H Q=>r x H Q\/B x H Q):=λzU s Z H xs i Q I v q=>q.elim (h zU s Z H xs i Q I v) (h' zU s Z H xs i Q I v)
def Rz:aU X (.builtin "len") (yK X.K):=aU.or' Ux Us
def Rk{K:W.Frag}:bS K (yK K) aR:=by
 intro Z U F G H M O s Q i B e J;let#[d,v,rfl,rfl]:=AB (λx y r=>by cases x<;>rfl) rfl B e;cases d with
 |str l=>cases e;let#[x,rfl,L,z]:=B.1.str;show .inr #[x,rfl,by rw[CQ L];show z,by rw[CQ L];show J _ F H (zF.refl F) (i.push (.int _))]
 |tup l=>cases e;let#[a,xs,rfl,h1,I]:=B.1.tup;show .inl #[a,xs,rfl,.inr (aZ.of (i.fr.at _ _ h1)),by rw[I.len];show J _ F H (zF.refl F) (i.push (.int _))]
 |lst l=>cases e;let#[a,xs,rfl,h1,I]:=B.1.lst i.fr;show .inl #[a,xs,rfl,.inl h1,by rw[I.len];show J _ F H (zF.refl F) (i.push (.int _))]
 |_=>cases e
def Az(F:Gl X "len")(B:X.mg "len"=none)(I:FA X (e::es) v)(G:autoParam (starEach (e::es) X.env=(false,eval e X.env)::starEach es X.env) rZ9)(i:autoParam ((backTo pos (starEach es X.env)).any (·.1)=false) rZ9):FE X (.Call (.Name "len" p) (e::es) [] pos) (wB aR v):=
 Cz (λ_ _=>Rz) Rk F B PySem.boot_len I ⋯ ⋯ G i
end
section
variable{K:W.Frag}
def ik:List V->Hp->VK->Prop:=λxs H Q=>(∃i,xs=[.int i]/\Q (.int i) H)\/∃k,xs=[.bl k]/\Q (.int (if k then 1 else 0)) H
def bC.bl(h:bC K F H v (.bl b)):v=.bl b:=by
 rcases h with h|⟨_,_,_,_,h,_⟩|⟨_,_,_,_,_,h,_⟩|⟨_,_,_,_,_,h,_⟩
 .cases h;rfl
 .cases h
 .cases h
 .cases h
def Sw:bS K ik kZ:=by
 intro Z U F G H L M s Q B I e J;let#[d,v,rfl,rfl]:=AB (λx y r=>by cases x<;>rfl) rfl I e;cases d with
 |int i=>cases e;let:=I.1.int;subst this;show .inl #[i,rfl,J _ F H (zF.refl F) (B.push (.int _))]
 |bl b=>cases e;let:=I.1.bl;subst this;show .inr #[b,rfl,J _ F H (zF.refl F) (B.push (.int _))]
 |_=>cases e
def FR(G:Gl X "int")(F:X.mg "int"=none)(B:bootBuiltins "int"=⇑(.type "int"))(J:FA X (e::es) v)(I:autoParam (starEach (e::es) X.env=(false,eval e X.env)::starEach es X.env) rZ9)(i:autoParam ((backTo pos (starEach es X.env)).any (·.1)=false) rZ9):FE X (.Call (.Name "int" p) (e::es) [] pos) (wB kZ v):=
 GM (λ_ _=>SK) Sw G F B J ⋯ ⋯ I i
def tU(K:W.Frag):List V->Hp->VK->Prop:=λxs H Q=>∃p ys,xs=[.ref p]/\((bB K H p ys/\∀l,H l=none->Q (.ref l) (upd H l (.tup ys)))\/(aZ K H p ys/\Q (.ref p) H))
def Tb:bS K (tU K) dQ:=by
 intro Z U F G H O Y s Q i B e L;let#[d,v,rfl,rfl]:=AB (λx y r=>by cases x<;>rfl) rfl B e;cases d with
 |tup l=>cases e;let#[a,xs,rfl,h1,I]:=B.1.tup;show#[a,xs,rfl,.inr #[aZ.of (i.fr.at _ _ h1),L _ F H (zF.refl F) (i.push (.tup h1 I))]]
 |lst l=>cases e;let#[a,xs,rfl,h1,I]:=B.1.lst i.fr;show#[a,xs,rfl,.inl #[h1,λp M=>?_]];let J:=(i.free M).1;show L _ _ _ (zF.upd J) ((i.newF M).push (.tup Aw (I.mono (zF.upd J))))
 |_=>cases e
def GJ(G:Gl X "tuple")(F:X.mg "tuple"=none)(B:bootBuiltins "tuple"=⇑(.type "tuple"))(J:FA X (e::es) v)(I:autoParam (starEach (e::es) X.env=(false,eval e X.env)::starEach es X.env) rZ9)(i:autoParam ((backTo pos (starEach es X.env)).any (·.1)=false) rZ9):FE X (.Call (.Name "tuple" p) (e::es) [] pos) (wB dQ v):=
 GM (λ_ _=>UK) Tb G F B J ⋯ ⋯ I i
def rU(K:W.Frag):List V->Hp->VK->Prop:=λxs H Q=>∃p ys,xs=[.ref p]/\(bB K H p ys\/aZ K H p ys)/\∀l,H l=none->Q (.ref l) (upd H l (.lst ys))
def KU:bS K (rU K) aw:=by
 intro Z U F G H M O s Q i B e L;let#[d,v,rfl,rfl]:=AB (λx y r=>by cases x<;>rfl) rfl B e;cases d with
 |tup l=>cases e;let#[a,xs,rfl,h1,I]:=B.1.tup;show#[a,xs,rfl,.inr (aZ.of (i.fr.at _ _ h1)),λp J=>L _ F _ (zF.refl F) (i.newLD J I)]
 |lst l=>cases e;let#[a,xs,rfl,h1,I]:=B.1.lst i.fr;show#[a,xs,rfl,.inl h1,λp J=>L _ F _ (zF.refl F) (i.newLD J I)]
 |_=>cases e
end
def CC(h:aH a=aH b):a=b:=by
 cases a with
 |inl i=>cases b with
  |inl j=>have h':D.int i=D.int j:=h;cases h';rfl
  |inr y=>have h':D.int i=D.str y.cps.toList:=h;cases h'
 |inr x=>cases b with
  |inl j=>have h':D.str x.cps.toList=D.int j:=h;cases h'
  |inr y=>have h':D.str x.cps.toList=D.str y.cps.toList:=h;let#[#[a]]:=x;first|rfl|assumption|(simp_all;done)
def Fb:∀{a b:List bD},a.map aH=b.map aH->a=b
 |[],[],_=>rfl
 |[],_::_,h=>by simp at h
 |_::_,[],h=>by simp at h
 |x::a,y::b,h=>by
  injection h with h1 h2
  rw[CC h1,Fb h2]
section
variable{K:W.Frag}
def CP(r:aI K H x d)(h:cJ d=true):∃k:bD,x=kV k/\d=aH k:=by
 cases r with
 |int i=>show#[.inl i,rfl,rfl]
 |str e z=>show#[.inr _,rfl,by rw[<-e];rfl]
 |_=>cases h
def FQ(r:zS K H xs l):l.all cJ=true->∃ks:List bD,xs=ks.map kV/\l=ks.map aH:=
 zS.ind (P:=λxs l=>l.all cJ=true->∃ks:List bD,xs=ks.map kV/\l=ks.map aH) (λ_=>#[[],rfl,rfl]) (λa _ i h=>by rw[all_cons,and_eq_true]at h;let#[k,rfl,rfl]:=CP a h.1;let#[ks,rfl,rfl]:=i h.2;show#[k::ks,rfl,rfl]) r
open Classical in
def GS{κ:Type}[DecidableEq κ](g:κ->D)(i:∀a b,g a=g b->a=b):∀(zV:List (κ×V))(k:κ),(bZ zV k).isSome=↥(g k∈zV.map λp=>g p.1)
 |[],k=>by simp[bZ]
 |p::r,k=>by
  by_cases e:p.1=k
  .rw[DA e];let:g k∈(p::r).map λp=>g p.1:=by rw[qz,e];exact qo
   show(qS this).symm
  .rw[DF e,GS g i r k];let:(g k∈(p::r).map λp=>g p.1)↔(g k∈r.map λp=>g p.1):=by rw[qz,qB];exact#[λz=>z.elim (λw=>absurd (i _ _ w).symm e) id,.inr]
   show(decide_eq_decide.2 this).symm
open Classical in
def Dt{κ:Type}[DecidableEq κ](g:κ->D)(F:∀a b,g a=g b->a=b){α:Type}:∀(zV:List (κ×V))(vs:List α)(k:κ)(P:V->α->Prop),zV.length=vs.length->(∀(i:Nat) x y,(zV.map (·.2))[i]?=⇑x->vs[i]?=⇑y->P x y)->
  (lk (zV.map λp=>g p.1) vs (g k)=none/\bZ zV k=none)\/∃x y,bZ zV k=⇑x/\lk (zV.map λp=>g p.1) vs (g k)=⇑y/\P x y
 |[],[],k,P,_,_=>.inl #[rfl,rfl]
 |[],_::_,_,_,h,_=>by simp at h
 |_::_,[],_,_,h,_=>by simp at h
 |p::r,v::vs,k,P,hl,h=>by
  by_cases e:p.1=k
  .show .inr #[p.2,v,DA e,?_,h 0 p.2 v rfl rfl];show(if g p.1=g k then ⇑v else lk (r.map λp=>g p.1) vs (g k))=⇑v;rw[q8 (by rw[e])]
  .let B:¬g p.1=g k:=λz=>e (F _ _ z);rw[DF e];let G:lk ((p::r).map λp=>g p.1) (v::vs) (g k)=lk (r.map λp=>g p.1) vs (g k):=by show(if g p.1=g k then ⇑v else lk (r.map λp=>g p.1) vs (g k))=_;rw[q9 B]
   rw[G];show Dt g F r vs k P ↑hl λi x y h1 h2=>h (i+1) x y ↑h1 ↑h2
def NM(M:aI K H x d)(Y:aI K H (.ref a) (.dct t ks vs))(L:bN t d=true):∃o,fX H a x o/\o.isSome=(open Classical in ↥(d∈ks))/\
  ((lk ks vs d=none/\o=none)\/∃v e,o=⇑v/\lk ks vs d=⇑e/\aI K H v e):=by
 cases Y with
 |dK e k r=>
  rename_i B;let#[I,rfl,rfl]:=CP M L;show#[_,.inl #[B,I,e,rfl,rfl],?_,?_]
  .rw[k];show GS aH (λ_ _=>CC) B I
  .rw[k];rcases Dt aH (λ_ _=>CC) B vs I (λv e=>aI K H v e) (by let:=r.len;simpa using this) (λi x y h1 h2=>by let#[O,G,J]:=r.get h2;rw[h1]at G;cases G;show J)with⟨h1,h2⟩|⟨v,e,h1,h2,h3⟩
   .show .inl #[h1,h2]
   .show .inr #[v,e,h1,h2,h3]
 |dT e k r=>
  rename_i B;cases M with
  |tup e1 q=>
   let#[F,rfl,rfl]:=FQ q L;let inj:∀a b:List bD,D.tup (a.map aH)=D.tup (b.map aH)->a=b:=λa b z=>Fb (D.tup.inj z);show#[_,.inr #[B,F,_,e,rfl,e1,rfl],?_,?_]
   .rw[k];show GS (λl=>D.tup (l.map aH)) inj B F
   .rw[k];rcases Dt (λl=>D.tup (l.map aH)) inj B vs F (λv e=>aI K H v e) (by let:=r.len;simpa using this) (λi x y h1 h2=>by let#[O,G,J]:=r.get h2;rw[h1]at G;cases G;show J)with⟨h1,h2⟩|⟨v,e,h1,h2,h3⟩
    .show .inl #[h1,h2]
    .show .inr #[v,e,h1,h2,h3]
  |_=>cases L
def gU(neg:Bool):R2:=λx y H Q=>∃a o,y=.ref a/\fX H a x o/\Q (.bl (if neg then !o.isSome else o.isSome)) H
def SI(F:X.A.units+1<cLine):OpR X (compareOp .In) (gU false):=by intro zU s Z H x y v u Q I B i h;let#[a,o,rfl,g,q]:=h;cases i;show HA F I g B λs' G=>#[.bl _,H,G,rfl,q]
def Uv(F:X.A.units+1<cLine):OpR X (compareOp .NotIn) (gU true):=by intro zU s Z H x y v u Q I B i h;let#[a,o,rfl,g,q]:=h;cases i;show NL F I g B λs' G=>#[.bl _,H,G,rfl,q]
def gV(K:W.Frag)(neg:Bool):R2:=λx y H Q=>tZ K neg x y H Q\/gU neg x y H Q
def Qc(i:X.A.units+32<cLine):OpR X (compareOp .In) (gV X.K false):=FL.OpR.or (Mm i) (SI ∅)
def Ul(i:X.A.units+32<cLine):OpR X (compareOp .NotIn) (gV X.K true):=FL.OpR.or (RH i) (Uv ∅)
open Classical in
def NU(B:aI K H x p)(v:aI K H y q)(e:nU p q=⇑k)(F:Q (.bl (if neg then !k else k)) H):gV K neg x y H Q:=by
 unfold nU at e;split at e
 .rename_i l;split at e
  .cases e
  .rename_i h;let i:=qg e;subst i;show .inl #[p,l,B,.inl v,λd I=>?_,F];grind
 .rename_i l;split at e
  .cases e
  .rename_i h;let i:=qg e;subst i;show .inl #[p,l,B,.inr v,λd I=>?_,F];grind
 .rename_i t ks J;split at e
  .rename_i h;let i:=qg e;cases y with
   |ref a=>let#[o,g,G,_]:=NM B v h;show .inr #[a,o,rfl,g,?_];rw[G,i];show F
   |_=>cases v
  .cases e
 .cases e
end
open PySem.Builtin.Str (strSliceIndices)
def ED(n d:Nat)(o:Option Int):HT.sIx n d o=FL.sIx n d o:=by cases o<;>rfl
def II(n d:Nat)(i:d<=n)(o:Option Int):FL.sIx n d o<=n:=by rw[<-ED];show HT.sIx_le n d i o
def wQ(z:Str)(lo hi:Option Int):Str:=#[(aL z.cps.toList lo hi).toArray]
def Tq(lo hi:Option Int)(n:Nat):strSliceIndices lo hi 1 n=(List.range (FL.sIx n n hi-FL.sIx n 0 lo)).map (FL.sIx n 0 lo+·):=by rw[<-sliceRange_one];unfold strSliceIndices;cases lo<;>cases hi<;>simp only[if_true,FL.sIx,Ce]<;>rfl
def RJ(x:Str)(lo hi:Option Int):Txt.slice x lo hi=wQ x lo hi:=by
 let i:x.length=x.cps.toList.length:=by show x.cps.size=_;rw[qW]
 unfold Txt.slice wQ aL;rw[Tq,pick_run,<-i];split
 .rename_i h;simp at h;let h1:=II x.length x.length (zb _) hi;let h2:FL.sIx x.length 0 lo=0\/x.length=0:=by lia
  let v:FL.sIx x.length 0 lo=0:=h2.elim id λz=>by let:=II x.length 0 (zero_le _) lo;lia
  rw[h,v,drop_zero,take_of_length_le (by rw[i];show zb _)]
 .rfl
def yF:V->Option Int->Option Int->Hp->VK->Prop:=λx lo hi H Q=>∃z,x=.str z/\z.length<=sizeLine/\Q (.str (wQ z lo hi)) H
def Jn(p:IsPart v o):∃l:Option (Int×Tok),v=partValue l/\o=l.map (·.1):=by
 cases p with
 |none=>show#[none,rfl,rfl]
 |int i t=>show#[⇑(i,t),rfl,rfl]
def NK:lA X yF:=by
 intro zU s Z H x v O M lo hi sl Q I i L G B h;let#[z,rfl,J,q]:=h;let#[t,rfl]:=i;let#[l,rfl,rfl]:=Jn G;let#[u,rfl,rfl]:=Jn B;rw[<-RJ]at q;exact⟨"str",_,F.slot_str_getitem.lookup,typeIs_str _ _ _,wpAny_getItem_str_slice (l:=l) (u:=u) (st:=none) L rfl
  (post_val_or_str #[le_trans (Txt.slice_le z _ _) J,λY k=>#[.str (Txt.slice z (l.map (·.1)) (u.map (·.1))),H,I.tok _,#[_,rfl],q]])⟩
def yD(K:W.Frag):V->Option Int->Option Int->Hp->VK->Prop:=λx lo hi H Q=>∃a xs,x=.ref a/\aZ K H a xs/\
 (HT.sIx xs.length 0 lo=0/\HT.sIx xs.length xs.length hi=xs.length)/\Q (.ref a) H
def US{items:Array Value}{lo hi:Option Int}(v:IsTup s.heap t items)(L:s.heap.IsSliceOf I O M .none)(pl:IsPart O lo)(Y:IsPart M hi)
  (J:HT.sIx items.size 0 lo=0/\HT.sIx items.size items.size hi=items.size)(h:Q (.ref t) s):wpAny (model prog w) A (getItem (.ref t) (.ref I)) Q E s:=by
 let#[os,B,F,h1]:=id L;let G:s.TypeIs (.ref I) "slice":=#[os,B,F]
 unfold getItem;try with_reducible show zp ?_
 first|show qa (qb ?_)|skip
 refine qa (wpAny_sequenceKey v.typeIs ⋯ ?_);refine qa (wpAny_callSpecial?_slot (name:=Str.ofString "__getitem__") v.typeIs PyProof.Rows.slot_tuple_getitem
  (zm PyProof.Rows.slot_tuple_getitem v.typeIs entry_tuple_getitem ?_ (args_tuple_getitem _ _)))
 show wpAny _ _ (Builtin.Tuple.tupleItemsOf (.ref t)>>=_) _ _ s;show qa (tupleItemsOf_ v ?_);show qa (wpAny_typeOf G ?_);show qa (HT.sliceApplied_gen L pl Y ?_);let i:(((HT.sIx items.size 0 lo:Nat):Int)==0&&(1:Int)==1&&(HT.sIx items.size items.size hi-HT.sIx items.size 0 lo)==items.size)=true:=by rw[J.1,J.2];simp
 show wpAny _ _ (if(((HT.sIx items.size 0 lo:Nat):Int)==0&&(1:Int)==1&&(HT.sIx items.size items.size hi-HT.sIx items.size 0 lo)==items.size)=true then _ else _) _ _ s;rw[q8 i];show qa (qa (wpAny_typeOf v.typeIs (qb ?_)));first
  |show qa (wpAny_rule (qb ⟨_,rfl,qb h⟩))
  |show qa (qb (qb ⟨_,rfl,qb h⟩))
  |show qb ⟨_,rfl,qb h⟩
def QK:lA X (yD X.K):=by
 intro zU s Z H x v vl vu lo hi sl Q I G Y L J h;let#[a,xs,rfl,M,O,q]:=h;cases G;let#[B,r,F,hz]:=I.tuple M;let i:B.toArray.size=xs.length:=by rw[qt];show r.length.symm
 show#["tuple",_,PyProof.Rows.slot_tuple_getitem.lookup,F.typeIs,?_];show US F Y L J (by rw[i];show O) #[.ref a,H,I,rfl,q]
section
variable{K:W.Frag}
def zS.drop:∀{xs:List V}{l:List D}(n:Nat),zS K F xs l->zS K F (xs.drop n) (l.drop n)
 |_,_,0,r=>by rw[drop_zero];show r
 |_,_,n+1,.nil=>by rw[List.drop_nil];show .nil
 |_,_,n+1,.cons a b=>by rw[List.drop_succ_cons];show zS.drop n b
def zS.take:∀{xs:List V}{l:List D}(n:Nat),zS K F xs l->zS K F (xs.take n) (l.take n)
 |_,_,0,r=>by rw[List.take_zero];show .nil
 |_,_,n+1,.nil=>by rw[take_nil];show .nil
 |_,_,n+1,.cons a b=>by rw[List.take_succ_cons];show .cons a (zS.take n b)
def zS.cut{lo hi:Option Int}(r:zS K F xs l):zS K F (iJ xs lo hi) (aL l lo hi):=by unfold iJ aL;rw[ED,r.len];show(r.drop _).take _
def ig(K:W.Frag):V->Option Int->Option Int->Hp->VK->Prop:=λx lo hi H Q=>yG K x lo hi H Q\/yE K x lo hi H Q\/yD K x lo hi H Q\/yF x lo hi H Q
def FM:lA X (ig X.K):=lA.or Pt (lA.or Mx (lA.or QK NK))
def Pi{lo hi:Option Int}(i:Rel K U Z F G H)(M:bC K F H v d)(e:iN d lo hi=⇑s)
  (J:∀v F' H',zF F F'->Rel K (U++[⇑s]) (Z++[⇑v]) F' G H'->Q v H'):ig K v lo hi H Q:=by
 cases d with
 |str l=>
  cases e;let#[x,rfl,h1,h2]:=M.str;subst h1;show .inr (.inr (.inr #[x,rfl,?_,J _ F H (zF.refl F) (i.push (.str rfl ?_))]))
  .let:x.length=x.cps.toList.length:=by show x.cps.size=_;rw[qW]
   rw[this];show h2
  .show le_trans ?_ h2;unfold aL;rw[qI,qH];lia
 |tup l=>
  cases e;let#[a,xs,rfl,h1,B]:=M.tup;by_cases I:HT.sIx xs.length 0 lo=0/\HT.sIx xs.length xs.length hi=xs.length
  .show .inr (.inr (.inl #[a,xs,rfl,aZ.of (i.fr.at _ _ h1),I,J _ F H (zF.refl F) (i.push ?_)]));let:aL l lo hi=l:=by unfold aL;rw[<-B.len,<-ED,<-ED,I.1,I.2,drop_zero,take_of_length_le (by rw[<-B.len];lia)]
   rw[this];show .tup h1 B
  .show .inr (.inl #[a,xs,rfl,aZ.of (i.fr.at _ _ h1),I,λp L=>?_]);let O:=(i.free L).1;show J _ _ _ (zF.upd O) ((i.newF L).push (.tup Aw (B.cut.mono (zF.upd O))))
 |lst l=>cases e;let#[a,xs,rfl,h1,B]:=M.lst i.fr;show .inl #[a,xs,rfl,h1,λp L=>J _ F _ (zF.refl F) (i.newLD L B.cut)]
 |_=>cases e
end
theorem nextOf(r1:Rel X.K (U1++[zG x]) (Z++[⇑v]) F G H1)(J:RV Z v x)(M:wb U1 (λy U2=>k x y U2 P PX) PX)
  (O:∀r U' v F' H',P r U'->zF F F'->Rel X.K (U'++[zG r]) (Z++[⇑v]) F' G H'->RV Z v r->Q v H')(hx:XC X (·=Z) F G PX):tW X wb Z H1 λu H2=>kf X Z k Q v u H2:=by
 let h1:=Ad r1;let#[G1,i,gg,back]:=r1.hide h1;show#[F,G1,U1,_,PX,i,M,λy U2 u F2 H2 L B r2 I=>?_,hx.mono (λ_ z=>z) (zF.refl F) gg];let h2:=Ad r2;let Y:=back B r2;rw[qq,qq]at Y;show#[F2,G,U2,x,y,P,PX,Rel.swap (U1:=[zG y]) (Z1:=[⇑u]) (U2:=[zG x]) (Z2:=[⇑v]) h2 rfl Y,h2,J,I,L,λr U' v F' H' a b c d=>O r U' v F' H' a (B.trans b) c d,hx.grow B]
def Ax{U:Env}{o:Option D}{k:Int->Prop}(h:(match o with|some (.int i)=>k i|_=>False)):∃i,o=⇑(.int i)/\k i:=by
 split at h
 .show#[_,rfl,h]
 .show h.elim
def FC{K:W.Frag}{U:Env}{Z:St}{F G H:Hp}{x y:R}{v u:V}{lo hi:Option Int}{P:WQ}{Q:VK}{q:D}(I:Rel K (U++[zG x,zG y]) (Z++[⇑v,⇑u]) F G H)(L:U.length=Z.length)(Y:RV Z v x)
  (B:zz (zQ x U) λd=>zz (iN d lo hi) λs=>P (.v s) U)
  (J:∀r U' v F' H',P r U'->zF F F'->Rel K (U'++[zG r]) (Z++[⇑v]) F' G H'->RV Z v r->Q v H'):ig K v lo hi H Q:=by
 let#[d,ed,B]:=Ah B;let#[s,es,B]:=Ah B;let i:Rel K (U++[zG x]) (Z++[⇑v]) F G H:=by let:=Rel.swap (U1:=[zG x]) (Z1:=[⇑v]) (U2:=[zG y]) (Z2:=[⇑u]) L rfl I;show Rel.mid (U:=U) (Z:=Z) this L
 let#[F1,O,re,r1]:=AD (U':=[]) (Z':=[]) i L Y ed;show Pi (U:=U) (Z:=Z) ↑r1 re es λv F' H' M r'=>J _ U v F' H' B (O.trans M) r' trivial
def Dk(ha:FE X a wa)(hb:FE X b Y):FE X (.Subscript a (.Slice ⇑b none none p2) pos) (fJ wa ⇑Y none):=λpn xe O=>by
 refine PE.imp (Gr (FM (X:=wp X pn xe)) (ha pn xe O) (Ex (hb pn xe O)) JH) λZ H Q q=>?_;refine(CD (k:=λx y B Q E=>match view y B with
  |some (.int i)=>zz (zQ x B) λd=>zz (iN d ⇑i none) λs=>Q (.v s) B
  |_=>False) q).mono λv H1 h1=>h1.mono λu H2 h2=>?_
 let#[F,G,U,x,y,P,PX,I,L,rx,ry,M,J,hx]:=h2;let#[i,ei,M]:=Ax (U:=U) (k:=λi=>zz (zQ x U) λd=>zz (iN d ⇑i none) λs=>P (.v s) U) M;let ru:=look (U':=[]) (Z':=[]) (I.mid L) L ry ei;cases ru;show#[i,rfl,FC (q:=.non) I L rx M J]
def CM(ha:FE X a wa)(hb:FE X b Y):FE X (.Subscript a (.Slice none ⇑b none p2) pos) (fJ wa none ⇑Y):=λpn xe O=>by
 refine PE.imp (Gr (FM (X:=wp X pn xe)) (ha pn xe O) JH (Ex (hb pn xe O))) λZ H Q q=>?_;refine(CD (k:=λx y B Q E=>match view y B with
  |some (.int i)=>zz (zQ x B) λd=>zz (iN d none ⇑i) λs=>Q (.v s) B
  |_=>False) q).mono λv H1 h1=>h1.mono λu H2 h2=>?_
 let#[F,G,U,x,y,P,PX,I,L,rx,ry,M,J,hx]:=h2;let#[i,ei,M]:=Ax (U:=U) (k:=λi=>zz (zQ x U) λd=>zz (iN d none ⇑i) λs=>P (.v s) U) M;let ru:=look (U':=[]) (Z':=[]) (I.mid L) L ry ei;cases ru;show#[i,rfl,FC (q:=.non) I L rx M J]
def Di(ha:FE X a wa)(hb:FE X b wb)(hc:FE X c wc):FE X (.Subscript a (.Slice ⇑b ⇑c none p2) pos) (fJ wa ⇑wb ⇑wc):=λpn xe hp=>by
 refine PE.imp (Gr (FM (X:=wp X pn xe)) (ha pn xe hp) (Ex (hb pn xe hp)) (Ex (hc pn xe hp))) λZ H Q q=>?_;refine(CD (k:=λx y U2 Q E=>match view y U2 with
  |some (.int i)=>wc U2 (λz B=>match view z B with
   |some (.int j)=>zz (zQ x B) λd=>zz (iN d ⇑i ⇑j) λs=>Q (.v s) B
   |_=>False) E
  |_=>False) q).mono λv H1 h1=>h1.mono λu H2 h2=>?_
 obtain⟨F,G,U,x,y,P,PX,I,J,rx,Y,M,L,hx⟩:=h2;let#[i,ei,M]:=Ax (U:=U) (k:=λi=>wc U (λz B=>match view z B with
   |some (.int j)=>zz (zQ x B) λd=>zz (iN d ⇑i ⇑j) λs=>P (.v s) B
   |_=>False) PX) M
 let ru:=look (U':=[]) (Z':=[]) (I.mid J) J Y ei;cases ru;let O:Rel X.K (U++[zG x]) (Z++[⇑v]) F G H2:=by let:=Rel.swap (U1:=[zG x]) (Z1:=[⇑v]) (U2:=[zG y]) (Z2:=[⇑(.int i)]) J rfl I;show Rel.mid (U:=U) (Z:=Z) this J
 refine⟨i,rfl,(nextOf (X:=wp X pn xe) (k:=λx z B P PX=>match view z B with
   |some (.int j)=>zz (zQ x B) λd=>zz (iN d ⇑i ⇑j) λs=>P (.v s) B
   |_=>False) O rx M L hx).mono λt H3 h3=>?_⟩
 let#[F,G,U,x,y,P,PX,I,J,rx,Y,M,L,hx]:=h3;let#[j,ej,M]:=Ax (U:=U) (k:=λj=>zz (zQ x U) λd=>zz (iN d ⇑i ⇑j) λs=>P (.v s) U) M;let ru:=look (U':=[]) (Z':=[]) (I.mid J) J Y ej;cases ru;show#[j,rfl,FC (q:=.non) I J rx M L]
end FL
namespace FL
open PySem
def xG(f:List Nat->List D->Option S)(o:WE)(a:WA):WE:=λU Q E=>o U (λx v=>match x with
 |.v (.sh (.str l))=>a v (λB i=>zz (B.mapM λr=>zQ r i) λF=>zz (f l F) λs=>Q (.v s) i) E
 |_=>False) E
def cT:List D->Option (List (List Nat))
 |[]=>⇑[]
 |.str x::r=>(cT r).map (x::·)
 |_::_=>none
@[simp] theorem KN(l:List (List Nat)):cT (l.map .str)=some l:=by
  induction l with
  |nil=>rfl
  |cons a r i=>rw[qz,cT,i];rfl
def cU(i:List Nat):List (List Nat)->List Nat
 |[]=>[]
 |[x]=>x
 |x::r=>x++i++cU i r
def Lr(i:List Nat):∀ys:List (List Nat),(cU i ys).length<=(ys.map List.length).sum+ys.length*i.length
 |[]=>zero_le _
 |[x]=>by simp[cU]
 |x::y::r=>by
  let:=Lr i (y::r);rw[cU,qr,qr,qz,List.sum_cons,qu (a:=x),Nat.succ_mul]
  .lia
  .intro h;cases h
def SR(ys:List (List Nat)):cU [] ys=ys.flatten:=by
 induction ys with
 |nil=>rfl
 |cons x r i=>
  cases r with
  |nil=>simp[cU]
  |cons y r=>rw[cU,i];simp;intro h;cases h
def mZ(i:List Nat)(l:List D):Option S:=(cT l).bind λys=>if(ys.map List.length).sum+ys.length*i.length<=big then ⇑(.sh (.str (cU i ys)))else none
def iF(i:List Nat):List D->Option S
 |[.lst l]=>mZ i l
 |[.tup l]=>mZ i l
 |_=>none
def gO(j:Nat)(e:WE):WE:=λU Q E=>match slot U j with
 |some (.lst _)=>e U (λr v=>match view r v,slot v j with
  |some (.int i),some (.lst l)=>zz (if l.length<=big then ixN l.length i else none) λk=>zz l[k]? λs=>Q (.v s) (v.set j ⇑(.lst (l.eraseIdx k)))
  |_,_=>False) E
 |_=>False
def gH:List D->Option (List Bool)
 |[]=>⇑[]
 |.bl x::r=>(gH r).map (x::·)
 |_::_=>none
@[simp] theorem Sj(l:List Bool):gH (l.map .bl)=some l:=by
  induction l with
  |nil=>rfl
  |cons a r i=>rw[qz,gH,i];rfl
def rJ:List D->Option S
 |[.lst l]=>(gH l).map λbs=>.sh (.bl (bs.all id))
 |_=>none
end FL
namespace FL
open PySem PySem.Spec PyProof.Rows L2
section
variable{id:String}
def nN(K:W.Frag)(r:V->List V->Hp->VK->Prop)(f:List Nat->List D->Option S):Prop:=∀(Z:St)(U:Env)(F G H:Hp)(x:Str)(vs:List V)(ds:List D)(s:S)(Q:VK),Rel K U Z F G H->x.cps.toList.length<=16777216->gI K F H vs ds->f x.cps.toList ds=⇑s->
 (∀v F' H',zF F F'->Rel K (U++[⇑s]) (Z++[⇑v]) F' G H'->Q v H')->r (.str x) vs H Q
def LO(hm:∀pn xe,bq (wp X pn xe) id r)(hd:nN X.K r f)(slot:Slot "str" name id)(h3:typeOf (.builtin id)=pure (.type "method_descriptor"))(ho:FE X o wo)(ha:FA X (e::es) wa)
  (L:autoParam (attributeBase o name X.env (eval o X.env)=eval o X.env) rZ9)
  (O:autoParam (((backTo cpos (starEach (e::es) X.env)).all (λx=>!x.1)&&(backToKw cpos (keywordEach [] X.env)).all (λx=>x.1.isSome)
   &&↥((e::es).length+([]:List Keyword).length+(if([]:List Keyword).isEmpty then 0 else 1)<30))=true) rZ9)
  (J:autoParam ((apos.endLine==cpos.line)=true) rZ9)(hs:autoParam (starEach (e::es) X.env=(false,eval e X.env)::starEach es X.env) rZ9)(I:autoParam ((backTo cpos (starEach es X.env)).any (·.1)=false) rZ9):
  FE X (.Call (.Attribute o name apos) (e::es) [] cpos) (xG f wo wa):=λpn xe hp=>by
 refine PE.imp (Df (X:=wp X pn xe) PySem.F.plainAttrs_str slot h3 (hm pn xe) (ho pn xe hp) (ha pn xe hp) L O J hs I) λZ H Q q=>?_;refine(one (k:=λx Y Q E=>match x with
  |.v (.sh (.str l))=>wa Y (λrs i=>zz (rs.mapM λr=>zQ r i) λds=>zz (f l ds) λs=>Q (.v s) i) E
  |_=>False) q).mono λv H1 h1=>?_
 let#[F,G,U,x,P,PX,M,hl,rx,hk,h4,hx]:=h1;split at hk
 .rename_i l;let rp:=look (U':=[]) (Z':=[]) (x:=.v (.sh (.str l))) M hl rx rfl;cases rp with
  |str e1 z=>rename_i y;subst e1;show#[rfl,F,G,U,_,PX,M.drop hl,hk,λrs i vs F2 H2 B s2 r2 h5 h2=>?_,hx];let#[ds,ed,B]:=Ah B;let#[s,es,B]:=Ah B;let#[F3,s3,re,r3]:=AF (U':=[]) (Z':=[]) ↑r2 h5 h2 ed;show hd Z i F3 G H2 y vs ds s Q ↑r3 z re es λv F' H' sm r'=>h4 _ i v F' H' B (s2.trans (s3.trans sm)) r' trivial
 .show hk.elim
end
section
variable{K:W.Frag}
def Jo(r:zS K F xs l)(h:cT l=⇑ys):∃i:List Str,xs=i.map V.str/\ys=i.map λz=>z.cps.toList:=
 zS.ind (P:=λxs l=>∀ys,cT l=⇑ys->∃i:List Str,xs=i.map V.str/\ys=i.map λz=>z.cps.toList) (λys h=>by cases h;show#[[],rfl,rfl]) (λa _ B ys h=>by
  cases a with
  |@str x _ e z=>let#[v,h1,rfl]:=qZ.mp h;let#[i,rfl,rfl]:=B _ h1;show#[x::i,rfl,by rw[qz,e]]
  |_=>cases h) r ys h
def JF(i:Str):∀v:List Str,(Str.join i v).cps.toList=cU i.cps.toList (v.map λz=>z.cps.toList)
 |[]=>rfl
 |[x]=>rfl
 |x::y::r=>by show((x++i++Str.join i (y::r):Str)).cps.toList=x.cps.toList++i.cps.toList++cU i.cps.toList ((y::r).map λz=>z.cps.toList);rw[<-JF i (y::r)];show(x.cps++i.cps++(Str.join i (y::r)).cps).toList=_;rw[toList_append,toList_append]
def GF:∀{us:List Value},zR (ys.map V.str) us->StrsAre us ys:=by
 induction ys with
 |nil=>intro us r;rw[map_nil]at r;cases r;show .nil
 |cons n F B=>
  intro us r;cases r with
  |cons v i=>let#[t,e]:=v;subst e;show .cons n t (B i)
def mD(K:W.Frag):V->List V->Hp->VK->Prop:=λx i H Q=>∃z a ys,x=.str z/\i=[.ref a]/\(bB K H a (ys.map V.str)\/aZ K H a (ys.map V.str))/\(ys.map (·.length)).sum+ys.length*z.length<=16777216/\Q (.str (Str.join z ys)) H
def Pf:bq X "str.join" (mD X.K):=by
 intro zU s Z H x vs v us Q I L M h;let#[z,a,ys,rfl,rfl,i,G,q]:=h;let#[t,rfl]:=L;cases M with
 |cons Y O=>
  cases O;cases Y;let e:Txt.join z ys=Str.join z ys:=StrLaws.glued_eq_join z ys;rcases i with i|i
  .obtain⟨F,r,B,_⟩:=I.list i;show join_list B.isList (GF r) G λJ k=>#[.str (Str.join z ys),H,I.tok _,#[_,by rw[e]],q]
  .obtain⟨F,r,B,_⟩:=I.tuple i;show join_tuple B (GF r) G λJ k=>#[.str (Str.join z ys),H,I.tok _,#[_,by rw[e]],q]
def Kw(B:Rel K U Z F G H)(M:bB K H a xs\/aZ K H a xs)(r:zS K F xs l)(e:mZ x.cps.toList l=⇑s)
  (k:∀v F' H',zF F F'->Rel K (U++[⇑s]) (Z++[⇑v]) F' G H'->Q v H'):mD K (.str x) [.ref a] H Q:=by
 let#[ys,e1,L]:=Option.bind_eq_some_iff.mp e;let#[i,rfl,rfl]:=Jo r e1;split at L
 .rename_i J;cases L;let O:∀z:Str,z.cps.toList.length=z.length:=λz=>by rw[qW];rfl
  let Y:((i.map λz=>z.cps.toList).map List.length)=i.map (·.length):=by rw[qF];show map_congr_left λz _=>O z
  let I:=J;rw[Y,qp]at J;show#[x,a,i,rfl,rfl,M,le_trans J ⋯,k _ F H (zF.refl F) (B.push (.str (JF x i) ?_))];show le_trans (Lr _ _) (le_trans I ⋯)
 .cases L
def SN:nN K (mD K) iF:=by
 intro Z U F G H x L O s Q i M B e J;let#[d,v,rfl,rfl]:=AB (λx y r=>by cases x<;>rfl) rfl B e;cases d with
 |tup l=>let#[a,xs,rfl,h1,I]:=B.1.tup;show Kw i (.inr (aZ.of (i.fr.at _ _ h1))) I e J
 |lst l=>let#[a,xs,rfl,h1,I]:=B.1.lst i.fr;show Kw i (.inl h1) I e J
 |_=>cases e
end
def Jg(L:FE X o G)(M:FA X [e] I)
  (B:autoParam (attributeBase o "join" X.env (eval o X.env)=eval o X.env) rZ9)
  (F:autoParam (((backTo cpos (starEach [e] X.env)).all (λx=>!x.1)&&(backToKw cpos (keywordEach [] X.env)).all (λx=>x.1.isSome)
   &&↥([e].length+([]:List Keyword).length+(if([]:List Keyword).isEmpty then 0 else 1)<30))=true) rZ9)
  (v:autoParam ((apos.endLine==cpos.line)=true) rZ9)(J:autoParam (starEach [e] X.env=(false,eval e X.env)::starEach [] X.env) rZ9)(i:autoParam ((backTo cpos (starEach [] X.env)).any (·.1)=false) rZ9):
  FE X (.Call (.Attribute o "join" apos) [e] [] cpos) (xG iF G I):=LO (λ_ _=>Pf) SN PySem.F.slot_str_join PySem.F.type_str_join L M B F v J i
section
variable{K:W.Frag}
def zI.erase:∀{xs:List V}{l:List S}{fp:List Addr}{m:Nat}{s:S},zI K F H xs l fp->l[m]?=⇑s->∃y B i v,fp=B++(i++v)/\xs[m]?=⇑y/\aF K F H y s i/\zI K F H (xs.eraseIdx m) (l.eraseIdx m) (B++v)
 |_,_,_,_,_,.nil,h=>by simp at h
 |_,_,_,0,s,.cons (x:=x) (fp:=fp) (fq:=fq) a b,h=>by let e:=qg h;subst e;show#[x,[],fp,fq,rfl,rfl,a,b]
 |_,_,_,m+1,s,.cons (fp:=fp) (fq:=fq) a b,h=>by let#[y,B,i,v,rfl,h1,h2,G]:=zI.erase (m:=m) b h;show#[y,fp++B,i,v,(qq ..).symm,h1,h2,?_];rw[qq];show .cons a G
def Rel.popItem{D:Addr}(r:Rel K U Z F G H)(hs:slot U n=⇑(.lst l))(L:Z[n]?=⇑⇑(.ref D))(hm:l[m]?=⇑s):
  ∃xs y,H D=⇑(.lst xs)/\xs.length=l.length/\xs[m]?=⇑y/\Rel K (U.set n ⇑(.lst (l.eraseIdx m))++[⇑s]) (Z++[⇑y]) F G (upd H D (.lst (xs.eraseIdx m))):=by
 let#[fp,e,nd,ap]:=r.en;let#[v',fa,fi,J,e1,rfl,q,up]:=e.at hs;rw[L]at e1;let e2:V.ref D=v':=↑e1
 subst e2;cases q with
 |lst hD rl=>
  rename_i xs fl;let#[y,O,I,B,rfl,hy,sr,Y]:=rl.erase hm;show#[xs,y,hD,rl.len,hy,?_];let#[na,i,h1]:=qx.mp nd;let#[ni,nb,i]:=qx.mp i;let#[nD,h6]:=qM.mp ni;let h5:D∉fa:=λz=>h1 D z D (qk _ qo) rfl;let h4:D∉J:=λz=>i D qo D z rfl;let M:=ap D (qj _ (qk _ qo));let ne:∀{l:List Addr},D∉l->∀x∈l,upd H D (.lst (xs.eraseIdx m)) x=H x:=λh x v=>Ae λz=>h (z▸v);let h3:D∉O++B:=λz=>nD ((qy.mp z).elim (λw=>qk _ w) λw=>qj _ (qj _ w));let h2:D∉I:=λz=>nD (qj _ (qk _ z));let new:aF K F (upd H D (.lst (xs.eraseIdx m))) (.ref D) (.lst (l.eraseIdx m)) (D::(O++B)):=.lst Aw (Y.mono (zF.refl F) (ne h3));let a2:=up (F':=F) (H':=upd H D (.lst (xs.eraseIdx m))) (o:=⇑(.lst (l.eraseIdx m))) (u:=⇑(.ref D)) (zF.refl F) (λx v=>Ae λz=>(qy.mp v).elim (λw=>h5 (z▸w)) λw=>h4 (z▸w)) (.so new .nil);rw[DB L]at a2;let a3:=a2.app (.so (sr.mono (zF.refl F) (ne h2)) .nil);let pm:(fa++((D::(O++B))++[]++J)++(I++[])).Perm (fa++((D::(O++(I++B)))++J)):=by simp;show List.Perm.append_left _ (List.Perm.cons _ (List.Perm.append_left _ ?_));rw[<-qq I B J,<-qq B J I];show(qO (l₁:=B++J) (l₂:=I)).trans ?_;rw[qq]
  show#[zF.updR r.fr M.1,λx o w=>?_,_,a3,pm.nodup_iff.mpr nd,λx v=>ap x (pm.mem_iff.mp v)];let v:x≠D:=λz=>by rw[z,M.2]at w;cases w
  rw[Ae v];show r.gr x o w
end
def PY(ho:FE X o (zv j))(he:FE X e we)
  (Y:autoParam (attributeBase o "pop" X.env (eval o X.env)=eval o X.env) rZ9)
  (h3:autoParam (((backTo cpos (starEach [e] X.env)).all (λx=>!x.1)&&(backToKw cpos (keywordEach [] X.env)).all (λx=>x.1.isSome)
   &&↥([e].length+([]:List Keyword).length+(if([]:List Keyword).isEmpty then 0 else 1)<30))=true) rZ9)
  (O:autoParam ((apos.endLine==cpos.line)=true) rZ9)(hs:autoParam (starEach [e] X.env=[(false,eval e X.env)]) rZ9):FE X (.Call (.Attribute o "pop" apos) [e] [] cpos) (gO j we):=λpn xe hp=>by
 refine PE.imp (Df (X:=wp X pn xe) PySem.F.plainAttrs_list PySem.F.slot_list_pop PySem.F.type_list_pop Qy (ho pn xe hp) (Aa he Ac hs pn xe hp) Y h3 O hs rfl) λZ H Q q=>?_;let#[F,G,U,P,PX,h4,hw,h5,hx]:=q;let L:(match slot U j with
  |some (.lst _)=>we U (λr B=>match view r B,slot B j with
   |some (.int i),some (.lst l)=>zz (if l.length<=big then ixN l.length i else none) λk=>zz l[k]? λs=>P (.v s) (B.set j ⇑(.lst (l.eraseIdx k)))
   |_,_=>False) PX
  |_=>False):=hw
 cases qs:slot U j with
 |none=>rw[qs]at L;show L.elim
 |some s0=>
  cases s0 with
  |lst l0=>
   rw[qs]at L;show#[F,G,U,λy M=>y=.loc j/\M=U,PX,h4,by unfold zv;rw[qs];show#[rfl,rfl],λy M o' F1 H1 I s1 r1 rv=>?_,hx];let#[rfl,rfl]:=I;let l1:=Ad r1;let h1:Z[j]?=⇑⇑o':=rv;let r2:=r1.drop l1;let#[v',fp,e1,sr]:=r2.at qs;rw[h1]at e1;let e2:o'=v':=↑e1
   subst e2;cases sr with
   |lst hD rl=>
    rename_i a xs fl;show#[.inl #[rfl,_,bB.of hD],F1,G,M,λrs B=>match rs with|[r]=>(match view r B,slot B j with|some (.int i),some (.lst l)=>zz (if l.length<=big then ixN l.length i else none) λk=>zz l[k]? λs=>P (.v s) (B.set j ⇑(.lst (l.eraseIdx k)))|_,_=>False)|_=>False,PX,r2,L,λrs B vs F2 H2 I s2 r3 hl J=>?_,hx.grow s1];match rs,vs,J,r3,I with
    |[r],[v],J,r3,I=>
     dsimp only at I;split at I
     .rename_i i l ei ql;let#[m,em,I]:=Ah I;let#[s,es,I]:=Ah I;let rp:=look (U':=[]) (Z':=[]) r3 hl J.1 ei;cases rp;split at em
      .rename_i hz;let r4:=r3.drop hl;let#[ys,y,h6,h2,hy,r5]:=Rel.popItem r4 ql h1 es;rw[<-h2]at em hz;let#[b1,b2,b3,b4]:=FZ em;let hb:ys.length<=1000000:=hz;show#[a,ys,i,m,y,rfl,rfl,h6,∅,∅,b1,hy,h5 _ _ y F2 _ I (s1.trans s2) r5 trivial]
      .cases em
     .show I.elim
    |[],_,_,_,I=>show I.elim
    |[_],[],J,_,_=>show J.elim
    |[_],_::_::_,J,_,_=>show J.2.elim
    |_::_::_,_,_,_,I=>show I.elim
  |_=>rw[qs]at L;show L.elim
section
variable{K:W.Frag}
def PB:bS K (λxs H Q=>∃i j,xs=[.int i,.int j]/\Q (.int (if j>i then j else i)) H) rG:=by
 intro Z U F G H M O s Q B I e J;let#[d,L,v,u,rfl,rfl]:=Ef (λx=>by cases x<;>rfl) (λx y z r=>by cases x<;>first|rfl|(cases y<;>rfl)) rfl I e;cases d with
 |int i=>
  cases L with
  |int j=>cases e;let h1:=I.1.int;let h2:=I.2.1.int;subst h1;subst h2;show#[i,j,rfl,J _ F H (zF.refl F) (B.push (.int _))]
  |_=>cases e
 |_=>cases e
def QR:bS K (λxs H Q=>∃i j,xs=[.int i,.int j]/\Q (.int (if j<i then j else i)) H) rF:=by
 intro Z U F G H M O s Q B I e J;let#[d,L,v,u,rfl,rfl]:=Ef (λx=>by cases x<;>rfl) (λx y z r=>by cases x<;>first|rfl|(cases y<;>rfl)) rfl I e;cases d with
 |int i=>
  cases L with
  |int j=>cases e;let h1:=I.1.int;let h2:=I.2.1.int;subst h1;subst h2;show#[i,j,rfl,J _ F H (zF.refl F) (B.push (.int _))]
  |_=>cases e
 |_=>cases e
def MR(J:X.calm=true)(G:Gl X "max")(F:X.mg "max"=none)(B:bootBuiltins "max"=⇑(.builtin "max"))(L:FA X (e::es) v)(I:autoParam (starEach (e::es) X.env=(false,eval e X.env)::starEach es X.env) rZ9)(i:autoParam ((backTo pos (starEach es X.env)).any (·.1)=false) rZ9):FE X (.Call (.Name "max" p) (e::es) [] pos) (wB rG v):=
 Cz (λ_ _=>RG J) PB G F B L ⋯ ⋯ I i
def Ni(J:X.calm=true)(G:Gl X "min")(F:X.mg "min"=none)(B:bootBuiltins "min"=⇑(.builtin "min"))(L:FA X (e::es) v)(I:autoParam (starEach (e::es) X.env=(false,eval e X.env)::starEach es X.env) rZ9)(i:autoParam ((backTo pos (starEach es X.env)).any (·.1)=false) rZ9):FE X (.Call (.Name "min" p) (e::es) [] pos) (wB rF v):=
 Cz (λ_ _=>RO J) QR G F B L ⋯ ⋯ I i
def JD:∀{xs:List V}{l:List D}{ys:List Bool},zS K F xs l->gH l=⇑ys->xs=ys.map V.bl
 |_,_,ys,.nil,h=>by cases h;rfl
 |_,d::l,ys,.cons a b,h=>by
  cases a with
  |bl c=>let#[i,h1,rfl]:=qZ.mp h;rw[JD b h1];rfl
  |_=>cases h
def Up:∀{us:List Value},zR (ys.map V.bl) us->LSm.BoolsAre us ys:=by
 induction ys with
 |nil=>intro us r;rw[map_nil]at r;cases r;show .nil
 |cons n F B=>
  intro us r;cases r with
  |cons v i=>cases v;show .cons n (B i)
end
def Td(L:A.handled=none)(F:s.heap.IsList l vs.toArray)(G:LSm.BoolsAre vs bs)(h:∀h' tk,(∀b x,s.heap.get? b=⇑x->h'.get? b=⇑x)->Q (.bool (bs.all id)) {s with heap:=h',toks:=tk}):
  wpAny (model prog w) A (call (.builtin "all") [.ref l]) Q E s:=by
 let B:l<s.heap.objs.size:=by let#[_,e,_]:=F;show qe e
 refine call_all_walk (wpAny_pyIter_list F ?_);refine⟨s.heap.objs.size,[s.heap.objs.size,l],[s.heap.objs.size],vs.toArray.size,_,_,λi=>(bs[i]?).getD true,rfl,Walks.list (A:=A.in1) L _ l (ne_of_lt B) vs.toArray,
  #[#[_,qd _ rfl,rfl,rfl],F.push _],λi v s' O Y M I=>?_,λh' tk J=>?_⟩
 .obtain⟨b,e,rfl⟩:=G.get i v ↑M;simp only[e]at I;show wpAny_truthy_bool I
 .let e:((List.range vs.toArray.size).all λi=>(bs[i]?).getD true)=bs.all id:=by rw[qt,G.length];exact LSm.range_all bs
  rw[e];show h h' tk (LSm.kept_iter J)
section
variable{K:W.Frag}
def yR(K:W.Frag):List V->Hp->VK->Prop:=λxs H Q=>∃(a:Addr)(bs:List Bool),xs=[.ref a]/\bB K H a (bs.map V.bl)/\Q (.bl (bs.all id)) H
def Sr(J:X.calm=true):aU X (.builtin "all") (yR X.K):=by
 intro zU s Z H xs L Q I r h;let#[a,bs,rfl,G,q]:=h;cases r with
 |cons v i=>cases i;cases v;let#[F,r,B,_]:=I.list G;show Td (I.ok.hd J) B.isList (Up r) λh' tk k=>#[.bl _,H,I.kept k,rfl,q]
def QF:bS K (yR K) rJ:=by
 intro Z U F G H M O s Q i B e J;let#[d,v,rfl,rfl]:=AB (λx y r=>by cases x<;>rfl) rfl B e;cases d with
 |lst l=>let#[bs,L,rfl]:=qZ.mp e;let#[a,xs,rfl,h1,I]:=B.1.lst i.fr;let:=JD I L;subst this;show#[a,bs,rfl,h1,J _ F H (zF.refl F) (i.push (.bl _))]
 |_=>cases e
def MN(J:X.calm=true)(G:Gl X "all")(F:X.mg "all"=none)(B:bootBuiltins "all"=⇑(.builtin "all"))(L:FA X (e::es) v)(I:autoParam (starEach (e::es) X.env=(false,eval e X.env)::starEach es X.env) rZ9)(i:autoParam ((backTo pos (starEach es X.env)).any (·.1)=false) rZ9):FE X (.Call (.Name "all" p) (e::es) [] pos) (wB rJ v):=
 Cz (λpn xe=>Sr (X:=wp X pn xe) J) QF G F B L ⋯ ⋯ I i
end
end FL
namespace FL
open PySem
mutual
def aO:D->D->Ordering
 |.int i,.int j=>if i<j then .lt else if j<i then .gt else .eq
 |.str x,.str y=>if x<y then .lt else if y<x then .gt else .eq
 |.tup l,.tup m=>aJ l m
 |_,_=>.eq
def aJ:List D->List D->Ordering
 |[],[]=>.eq
 |[],_::_=>.lt
 |_::_,[]=>.gt
 |a::l,b::m=>match aO a b with
  |.eq=>aJ l m
  |o=>o
end
def fU(a b:D):Bool:=match aO a b with
 |.gt=>false
 |_=>true
@[simp] theorem OH(i j:Int):fU (.int i) (.int j)=decide (i<=j):=by
  show(match(if i<j then Ordering.lt else if j<i then .gt else .eq)with|.gt=>false|_=>true)=_;by_cases h:i<j
  .rw[q8 h,qS ∅]
  .rw[q9 h];by_cases h2:j<i
   .rw[q8 h2,qT ∅]
   .rw[q9 h2,qS ∅]
@[simp] theorem JM(x y:List Nat):fU (.str x) (.str y)=!decide (y<x):=by
  show(match(if x<y then Ordering.lt else if y<x then .gt else .eq)with|.gt=>false|_=>true)=_;by_cases h:x<y
  .rw[q8 h,qT (λh'=>lt_asymm h h')];rfl
  .rw[q9 h];by_cases h2:y<x
   .rw[q8 h2,qS h2];rfl
   .rw[q9 h2,qT h2];rfl
def kX(x:D):List D->List D
 |[]=>[x]
 |y::r=>if fU x y then x::y::r else y::kX x r
def cD:List D->List D
 |[]=>[]
 |x::r=>kX x (cD r)
def GO(x:D):∀l:List D,(kX x l).Perm (x::l)
 |[]=>.refl _
 |y::r=>by
  unfold kX;split
  .show .refl _
  .show(List.Perm.cons y (GO x r)).trans (.swap x y r)
def DH:∀l:List D,(cD l).Perm l
 |[]=>.refl _
 |x::r=>(GO x _).trans (.cons x (DH r))
structure eU(P:D->Prop):Prop where
 tot:∀a b,P a->P b->fU a b=true\/fU b a=true
 tr:∀a b c,P a->P b->P c->fU a b=true->fU b c=true->fU a c=true
 anti:∀a b,P a->P b->fU a b=true->fU b a=true->a=b
def Lw(o:eU P)(x:D)(v:P x):∀l:List D,(∀d∈l,P d)->l.Pairwise (fU · ·=true)->(kX x l).Pairwise (fU · ·=true)
 |[],_,_=>List.pairwise_singleton _ _
 |y::r,hp,h=>by
  let#[h1,h2]:=pairwise_cons.mp h;let B:=hp y qo;let F:∀d∈r,P d:=λd i=>hp d (qm _ i);unfold kX;split
  .rename_i c;show pairwise_cons.mpr #[λd i=>?_,h];rcases qB.mp i with rfl|i
   .show c
   .show o.tr x y d v B (F d i) c (h1 d i)
  .rename_i c;show pairwise_cons.mpr #[λd i=>?_,Lw o x v r F h2];rcases qB.mp ((GO x r).mem_iff.mp i)with rfl|i
   .show(o.tot d y v B).resolve_left c
   .show h1 d i
def Ha(o:eU P):∀l:List D,(∀d∈l,P d)->(cD l).Pairwise (fU · ·=true)
 |[],_=>.nil
 |x::r,hp=>Lw o x (hp x qo) _ (λd i=>hp d (qm _ ((DH r).mem_iff.mp i))) (Ha o r λd i=>hp d (qm _ i))
def LA(o:eU P):∀l m:List D,(∀d∈l,P d)->l.Perm m->l.Pairwise (fU · ·=true)->m.Pairwise (fU · ·=true)->l=m
 |[],m,_,p,_,_=>(List.nil_perm.mp p).symm
 |x::r,[],_,p,_,_=>absurd p.length_eq (by simp)
 |x::r,y::t,hp,p,h1,h2=>by
  obtain⟨a1,a2⟩:=pairwise_cons.mp h1;let#[G,F]:=pairwise_cons.mp h2;let v:=hp x qo;let i:P y:=hp y (p.mem_iff.mpr qo);let e:x=y:=by
   let m1:x∈y::t:=p.mem_iff.mp qo;let m2:y∈x::r:=p.mem_iff.mpr qo;rcases qB.mp m1 with e|m1
   .show e
   .rcases qB.mp m2 with e|m2
    .show e.symm
    .show o.anti x y v i (a1 y m2) (G x m1)
  subst e;rw[LA o r t (λd B=>hp d (qm _ B)) (List.Perm.cons_inv p) a2 F]
def DC(o:eU P)(i:∀d∈l,P d)(p:m.Perm l)(h:m.Pairwise (fU · ·=true)):cD l=m:=
 LA o _ _ (λd v=>i d ((DH l).mem_iff.mp v)) ((DH l).trans p.symm) (Ha o l i) h
def sG:D->Prop
 |.int _=>True
 |_=>False
def nM:D->Prop
 |.str _=>True
 |_=>False
def Jm:eU sG where
 tot
  |.int a,.int b,_,_=>by simp;lia
 tr
  |.int a,.int b,.int c,_,_,_=>by simp;lia
 anti
  |.int a,.int b,_,_=>by simp;intro h1 h2;rw[Int.le_antisymm h1 h2]
def FO:eU nM where
 tot
  |.str a,.str b,_,_=>by
   simp;by_cases h:b<a
   .show .inr λh'=>lt_asymm h h'
   .show .inl h
 tr
  |.str a,.str b,.str c,_,_,_=>by simp;intro h1 h2;show λh=>(List.le_trans (l₁:=a) (l₂:=b) (l₃:=c) h1 h2) h
 anti
  |.str a,.str b,_,_=>by simp;intro h1 h2;let:a=b:=le_antisymm (as:=a) (bs:=b) h1 h2;rw[this]
def bO:List D->Option (List Int)
 |[]=>⇑[]
 |.int x::r=>(bO r).map (x::·)
 |_::_=>none
@[simp] theorem ET(l:List Int):bO (l.map .int)=some l:=by
  induction l with
  |nil=>rfl
  |cons a r i=>rw[qz,bO,i];rfl
def iE(l:List D):Option S:=if l.length<64/\((bO l).isSome\/(cT l).isSome)then ⇑(.lst ((cD l).map .sh))else none
def rE:List D->Option S
 |[.lst l]=>iE l
 |_=>none
end FL
namespace FL
open PySem PySem.Spec PyProof.Rows L2
section
variable{K:W.Frag}
def Gc(r:zS K F xs l)(h:bO l=⇑ys):xs=ys.map V.int/\l=ys.map D.int:=
 zS.ind (P:=λxs l=>∀ys,bO l=⇑ys->xs=ys.map V.int/\l=ys.map D.int) (λys h=>by cases h;show#[rfl,rfl]) (λa _ v ys h=>by
  cases a with
  |int c=>let#[i,h1,rfl]:=qZ.mp h;let#[G,B]:=v _ h1;rw[G,B];show#[rfl,rfl]
  |_=>cases h) r ys h
def Dy:∀{us:List Value}{v:List Int},IntsAre us v->zR (v.map V.int) us
 |_,_,.nil=>.nil
 |_,_,.cons i t r=>.cons #[t,rfl] (Dy r)
def KQ:∀{us:List Value}{v:List Str},StrsAre us v->zR (v.map V.str) us
 |_,_,.nil=>.nil
 |_,_,.cons i t r=>.cons #[t,rfl] (KQ r)
def gS(K:W.Frag):List V->Hp->VK->Prop:=λxs H Q=>∃a,xs=[.ref a]/\
 ((∃F:List Int,F.length<64/\bB K H a (F.map V.int)/\∀v:List Int,v.Perm F->v.Pairwise (·<=·)->∀q,H q=none->Q (.ref q) (upd H q (.lst (v.map V.int))))\/
  (∃B:List Str,B.length<64/\bB K H a (B.map V.str)/\∀i:List Str,i.Perm B->sortedS i=true->∀q,H q=none->Q (.ref q) (upd H q (.lst (i.map V.str)))))
def Uw:aU X (.builtin "sorted") (gS X.K):=by
 intro zU s Z H xs us Q I r h;let#[a,rfl,h]:=h;cases r with
 |cons r1 r2=>
  cases r2;cases r1;rcases h with⟨ns,G,M,q⟩|⟨zs,G,M,q⟩
  .obtain⟨B,r,J,_⟩:=I.list M;let F:B.length=ns.length:=by let:=r.length;rw[qp]at this;exact this.symm
   show sorted_ints J.isList (ER r) (by rw[F];show G) λv i a1 a2 Y=>?_;let#[e,O]:=sortedAll_at s.heap B v;let L:i.length<=sizeLine:=by rw[a2.length_eq,zn];lia
   show#[.ref (s.heap.objs.size+1),_,I.laid (t':=s.toks) (o:=.lst (i.map V.int)) (λb ob w=>sortedAll_old w) (le_succ _) ?_,rfl,q i a2 Y _ (I.hok.fresh (le_succ _))];show#[by rw[qp];show L,v.toList,e,Dy a1,by rw[toArray_toList];show O]
  .obtain⟨B,r,J,_⟩:=I.list M;let F:B.length=zs.length:=by let:=r.length;rw[qp]at this;exact this.symm
   show sorted_strs J.isList (GF r) (by rw[F];show G) λv i a1 a2 Y=>?_;let#[e,O]:=sortedAll_at s.heap B v;let L:i.length<=sizeLine:=by rw[a2.length_eq,zn];lia
   show#[.ref (s.heap.objs.size+1),_,I.laid (t':=s.toks) (o:=.lst (i.map V.str)) (λb ob w=>sortedAll_old w) (le_succ _) ?_,rfl,q i a2 Y _ (I.hok.fresh (le_succ _))];show#[by rw[qp];show L,v.toList,e,KQ a1,by rw[toArray_toList];show O]
def EY:∀i:List Int,zS K F (i.map V.int) (i.map D.int)
 |[]=>.nil
 |n::i=>.cons (.int n) (EY i)
def KC:∀i:List Str,(∀z∈i,z.cps.toList.length<=16777216)->zS K F (i.map V.str) (i.map λz=>D.str z.cps.toList)
 |[],_=>.nil
 |z::i,h=>.cons (.str rfl (h z qo)) (KC i λy v=>h y (qm _ v))
def Le:∀{xs:List V}{l:List D}{i:List Str},zS K F xs l->xs=i.map V.str->l=(i.map λz=>D.str z.cps.toList)/\∀z∈i,z.cps.toList.length<=16777216
 |_,_,[],.nil,_=>#[rfl,λ_ h=>by cases h]
 |_,_,_::_,.nil,h=>by simp at h
 |_,_,[],.cons _ _,h=>by simp at h
 |_,_,z::i,.cons a b,h=>by
  injection h with h1 h2
  subst h1;let#[e,k]:=Le b h2;cases a with
  |str G B=>
   subst G;show#[by rw[e];rfl,λy v=>?_];rcases qB.mp v with rfl|v
   .show B
   .show k y v
def KO:∀(r:List Str)(p:Str),risingS p r=true->((p::r).map λz=>D.str z.cps.toList).Pairwise (fU · ·=true)
 |[],p,_=>List.pairwise_singleton _ _
 |x::r,p,h=>by
  let h':(!ltCps x.cps.toList p.cps.toList&&risingS x r)=true:=h;rw[and_eq_true,ltCps_eq]at h';let B:=KO r x h'.2;let v:fU (.str p.cps.toList) (.str x.cps.toList)=true:=by rw[JM];show h'.1
  show pairwise_cons.mpr #[λd i=>?_,B];rcases qB.mp i with rfl|i
  .show v
  .obtain⟨z,_,rfl⟩:=qL.mp i;show FO.tr _ (.str x.cps.toList) _ trivial trivial trivial v ((pairwise_cons.mp B).1 _ i)
def TF:∀r:List Str,sortedS r=true->(r.map λz=>D.str z.cps.toList).Pairwise (fU · ·=true)
 |[],_=>.nil
 |x::r,h=>KO r x h
def Ud:bS K (gS K) rE:=by
 intro Z U F G H vs ds s Q B re e L;let#[d,v,rfl,rfl]:=AB (λx y r=>by cases x<;>rfl) rfl re e;cases d with
 |lst l=>
  let e:iE l=⇑s:=e;unfold iE at e;split at e
  .rename_i M;cases e;let#[a,xs,rfl,h1,O]:=re.1.lst B.fr;show#[a,rfl,?_];cases q1:bO l with
   |some ns=>let#[e1,e2]:=Gc O q1;subst e1;subst e2;show .inl #[ns,by let:=M.1;rwa[qp]at this,h1,λJ p Y q I=>?_];let es:cD (ns.map D.int)=J.map D.int:=DC Jm (λd hd=>by let#[z,_,rfl]:=qL.mp hd;trivial) (p.map _) (pairwise_map.mpr (Y.imp λ{a b} h=>by rw[OH];show qS h));rw[es]at L;show L _ F _ (zF.refl F) (B.newLD I (EY J))
   |none=>
    cases q2:cT l with
    |none=>rw[q1,q2]at M;simp at M
    |some ys=>let#[zs,e1,e2]:=Jo O q2;subst e1;let#[e3,sm]:=Le O rfl;subst e3;show .inr #[zs,by let:=M.1;rwa[qp]at this,h1,λi p Y q I=>?_];let es:cD (zs.map λz=>D.str z.cps.toList)=i.map λz=>D.str z.cps.toList:=DC FO (λd hd=>by let#[z,_,rfl]:=qL.mp hd;trivial) (p.map _) (TF i Y);rw[es]at L;show L _ F _ (zF.refl F) (B.newLD I (KC i λz hz=>sm z (p.mem_iff.mp hz)))
  .cases e
 |_=>cases e
end
def Uk(i:∀id,v≠.builtin id)(h:Q (.bool (v==.bool d)) s):wpAny M A (compareOp .Is v (.bool d)) Q E s:=by cases v<;>first|show qb h|show absurd rfl (i _)
def UC(i:∀id,v≠.builtin id)(h:Q (.bool (!(v==.bool d))) s):wpAny M A (compareOp .IsNot v (.bool d)) Q E s:=by cases v<;>first|show qb h|show absurd rfl (i _)
section
variable{K:W.Frag}
def zJ.bool_iff(r:zJ x v)(d:Bool):(v==Value.bool d)=↥(x=.bl d):=by
 cases x with
 |bl b=>cases r;cases b<;>cases d<;>rfl
 |_=>first
  |(cases r;rfl)
  |(let#[t,rfl]:=r;rfl)
def zJ.noBuiltin(r:zJ x v):∀id,v≠.builtin id:=by
 intro id e;subst e;cases x<;>first
  |(cases r;done)
  |(let#[t,h]:=r;cases h)
def yO(neg:Bool):R2:=λx y H Q=>(y=.non/\Q (.bl (if neg then !decide (x=.non)else ↥(x=.non))) H)\/∃b,y=.bl b/\Q (.bl (if neg then !decide (x=.bl b)else ↥(x=.bl b))) H
def Ib:OpR X (compareOp .Is) (yO false):=by
 intro zU s Z H x y v u Q I i B h;rcases h with⟨rfl,q⟩|⟨b,rfl,q⟩
 .show MJ zU s Z H x .non v u Q I i B #[rfl,q]
 .cases B;show Uk (zJ.noBuiltin i) #[.bl _,H,I,by rw[zJ.bool_iff i];rfl,q]
def KF:OpR X (compareOp .IsNot) (yO true):=by
 intro zU s Z H x y v u Q I i B h;rcases h with⟨rfl,q⟩|⟨b,rfl,q⟩
 .show Pp zU s Z H x .non v u Q I i B #[rfl,q]
 .cases B;show UC (zJ.noBuiltin i) #[.bl _,H,I,by rw[zJ.bool_iff i];rfl,q]
open Classical in
def IH(B:aI K H x p)(v:aI K H y q)(e:nS p q=⇑k)(F:Q (.bl (if neg then !k else k)) H):yO neg x y H Q:=by
 cases q with
 |non=>
  cases v;let i:↥(p=.non)=k:=qg e;let:↥(x=V.non)=k:=by rw[<-i];cases B<;>simp
  show .inl #[rfl,by rw[this];show F]
 |bl b=>
  cases v;let i:↥(p=.bl b)=k:=qg e;let:↥(x=V.bl b)=k:=by rw[<-i];cases B<;>simp
  show .inr #[b,rfl,by rw[this];show F]
 |_=>cases e
def IA:cG K (yO false) nS:=λH x y p q k Q v i e B=>IH v i e B
def Lo:cG K (yO true) cV:=λH x y p q k Q B v e F=>by
 unfold cV at e;cases i:nS p q with
 |none=>rw[i]at e;cases e
 |some b=>rw[i]at e;let G:(!b)=k:=qg e;subst G;show IH B v i F
end
mutual
def dX:D->PyData
 |.non=>.none
 |.bl b=>.bool b
 |.int i=>.int i
 |.str l=>.str #[l.toArray]
 |.tup l=>.tuple (cM l)
 |.lst l=>.list (cM l)
 |_=>.none
def cM:List D->List PyData
 |[]=>[]
 |d::r=>dX d::cM r
end
mutual
def lY:D->Bool
 |.non=>true
 |.bl _=>true
 |.int i=>↥(i.natAbs.log2<1920)
 |.str _=>true
 |.tup l=>dP l
 |.lst l=>dP l
 |_=>false
def dP:List D->Bool
 |[]=>true
 |d::r=>lY d&&dP r
end
mutual
theorem TZ:∀d:D,lY d=true->(dX d).showable=true
 |.non,_=>rfl
 |.bl _,_=>rfl
 |.int i,h=>h
 |.str _,_=>rfl
 |.tup l,h=>GY l h
 |.lst l,h=>GY l h
 |.dct _ _ _,h=>by cases h
 |.set _,h=>by cases h
 |.exc _ _ _,h=>by cases h
theorem GY:∀l:List D,dP l=true->PyData.showableAll (cM l)=true
 |[],_=>rfl
 |d::r,h=>by rw[dP,and_eq_true]at h;rw[cM,PyData.showableAll,TZ d h.1,GY r h.2];rfl
end
mutual
theorem RN:∀d:D,(dX d).hasDict=false
 |.non=>rfl
 |.bl _=>rfl
 |.int i=>rfl
 |.str _=>rfl
 |.tup l=>GB l
 |.lst l=>GB l
 |.dct _ _ _=>rfl
 |.set _=>rfl
 |.exc _ _ _=>rfl
theorem GB:∀l:List D,PyData.hasDictAll (cM l)=false
 |[]=>rfl
 |d::r=>by rw[cM,PyData.hasDictAll,RN d,GB r];rfl
end
mutual
theorem PV:∀d:D,(dX d).depth<=cZ d
 |.non=>zb _
 |.bl _=>zb _
 |.int i=>zb _
 |.str _=>zb _
 |.tup l=>Nat.succ_le_succ (GP l)
 |.lst l=>Nat.succ_le_succ (GP l)
 |.dct _ _ _=>zb _
 |.set _=>zb _
 |.exc _ _ _=>zb _
theorem GP:∀l:List D,PyData.depthAll (cM l)<=aW l
 |[]=>zb _
 |d::r=>by let h1:=PV d;let h2:=GP r;simp only[cM,PyData.depthAll,aW];lia
end
end FL
namespace FL
open PySem
def ax(l m:List Nat)(i:Nat):Bool:=↥(i+m.length<=l.length)&&↥((l.drop i).take m.length=m)
def fR(l m:List Nat):Option Nat:=(List.range (l.length+1)).find? (ax l m)
def gZ:List D->Option S
 |[.tup l]=>⇑(.lst (l.map .sh))
 |[.lst l]=>⇑(.lst (l.map .sh))
 |[.str l]=>if l.length<=big then ⇑(.lst (l.map λc=>.sh (.str [c])))else none
 |_=>none
def cv:D->String
 |.non=>"NoneType"
 |.bl _=>"bool"
 |.int _=>"int"
 |.str _=>"str"
 |.tup _=>"tuple"
 |.lst _=>"list"
 |.dct _ _ _=>"dict"
 |.set _=>"set"
 |.exc _ _ _=>"?"
def eD(T:String)(d:D):Bool:=cv d==T||(cv d=="bool"&&T=="int")
def eR:D->Bool
 |.exc _ _ _=>false
 |_=>true
def iC(T:String)(a:WE):WE:=λU Q E=>a U (λx i=>zz (view x i) λd=>eR d=true/\Q (.v (.sh (.bl (eD T d)))) i) E
theorem find?_first(h:i<n)(v:p i=true)(hn:∀k,k<i->p k=false):(List.range n).find? p=⇑i:=by first|rfl|assumption|(simp_all;done)
theorem find?_not(hn:∀k,p k=false):(List.range n).find? p=none:=by grind
end FL
namespace FL
open PySem PySem.Spec PyProof.Rows L2
section
variable{K:W.Frag}
theorem zk9:StrLaws.At x y x.length i↔ax x.cps.toList y.cps.toList i=true:=by
 let h1:x.length=x.cps.toList.length:=by show x.cps.size=_;rw[qW]
 let h2:y.length=y.cps.toList.length:=by show y.cps.size=_;rw[qW]
 unfold StrLaws.At ax Builtin.Str.subAt;rw[and_eq_true,qU,qU,h2,beq_iff_eq];show and_congr_right λ_=>?_;rw[<-Array.toList_inj,Array.toList_extract,List.extract_eq_take_drop];let:i+y.cps.toList.length-i=y.cps.toList.length:=∅
 rw[this]
def OX(x y:Str):Txt.find x y=(match fR x.cps.toList y.cps.toList with|some i=>(i:Int)|none=>-1):=by
 have v:∀{i},¬StrLaws.At x y x.length i->ax x.cps.toList y.cps.toList i=false:=λ{i} h=>by
  cases q:ax x.cps.toList y.cps.toList i with
  |false=>rfl
  |true=>show absurd (zk9.mpr q) h
 rcases find_whole x y with⟨e,h⟩|⟨i,e,hi,h⟩
 .rw[e];unfold fR;rw[find?_not λk=>v (h k)]
 .rw[e];unfold fR;let F:=hi.1;let h1:x.length=x.cps.toList.length:=by show x.cps.size=_;rw[qW]
  rw[find?_first (i:=i) (by rw[<-h1];lia) (zk9.mp hi) λk B=>v (h k B)]
def mC:List V->Hp->VK->Prop:=λxs H Q=>∃x:Str,xs=[.str x]/\x.length<=sizeLine/\∀l,H l=none->Q (.ref l) (upd H l (.lst (x.cps.toList.map λc=>.str #[[c].toArray])))
def Hb:∀{xs:List V}{us:List Value},xs.length=us.length->(∀(j:Nat) x u,xs[j]?=⇑x->us[j]?=⇑u->zJ x u)->zR xs us
 |[],[],_,_=>.nil
 |[],_::_,h,_=>by simp at h
 |_::_,[],h,_=>by simp at h
 |x::xs,u::us,h,k=>.cons (k 0 x u rfl rfl) (Hb ↑h λj i v h1 h2=>k (j+1) i v h1 ↑h2)
def UD(F:X.calm=true):aU X (.type "list") mC:=by
 intro zU s Z H xs us Q I r h;let#[x,rfl,J,q]:=h;let#[u,rfl,L]:=vals1 r;let#[t,rfl]:=L;show call_list_str (I.ok.hd F) x t (hn:=J) λh' tk B Y O G i=>?_;let M:zR (x.cps.toList.map λc=>V.str #[[c].toArray]) B.toList:=Hb (by rw[qp,qW,qW,i.1]) λj y v h1 h2=>by let#[c,u,F,rfl]:=i.2 j v (by rw[<-q5];show h2);rw[qG,q5,F]at h1;cases h1;show#[u,rfl]
 show#[.ref s.heap.objs.size,_,I.laid (t':=tk) O (zb _) (show zT X.prog X.w _ h' _ (.lst (x.cps.toList.map λc=>V.str #[[c].toArray])) from#[?_,B.toList,Y,M,G]),rfl,q _ (I.hok.fresh (zb _))];rw[qp];show J
def tX(K:W.Frag):List V->Hp->VK->Prop:=λxs H Q=>rU K xs H Q\/mC xs H Q
def Lh:∀l:List Nat,zS K F (l.map λc=>V.str #[[c].toArray]) (l.map λc=>D.str [c])
 |[]=>.nil
 |c::l=>.cons (.str rfl (by show 1<=16777216;decide)) (Lh l)
def TQ:bS K (tX K) gZ:=by
 intro Z U F G H O Y s Q i B e I;let#[d,v,rfl,rfl]:=AB (λx y r=>by cases x<;>rfl) rfl B e;cases d with
 |tup l=>show .inl (KU Z U F G H [v] [.tup l] s Q i B e I)
 |lst l=>show .inl (KU Z U F G H [v] [.lst l] s Q i B e I)
 |str l=>
  let#[x,rfl,J,z]:=B.1.str;let e:(if l.length<=big then ⇑(S.lst (l.map λc=>S.sh (.str [c])))else none)=⇑s:=e;split at e
  .rename_i M;cases e;show .inr #[x,rfl,by rw[CQ J];show EJ M,λp L=>?_];rw[J];let h:=i.newLD L (Lh l);rw[qF]at h;show I (.ref p) F (upd H p (.lst (l.map λc=>V.str #[[c].toArray]))) (zF.refl F) h
  .cases e
 |_=>cases e
def Rc(J:X.calm=true)(G:Gl X "list")(F:X.mg "list"=none)(B:bootBuiltins "list"=⇑(.type "list"))(L:FA X (e::es) v)(I:autoParam (starEach (e::es) X.env=(false,eval e X.env)::starEach es X.env) rZ9)(i:autoParam ((backTo pos (starEach es X.env)).any (·.1)=false) rZ9):FE X (.Call (.Name "list" p) (e::es) [] pos) (wB gZ v):=
 GM (λpn xe=>aU.or' Ut (UD (X:=wp X pn xe) J)) TQ G F B L ⋯ ⋯ I i
end
def tE(T:String):Bool:=T=="bool"||T=="int"||T=="str"||T=="tuple"||T=="list"
def Mh(K:W.Frag):∀(T:String),tE T=true->∀d:D,eR d=true->W.kitOne K (.type (cv d)) (.type T)=⇑(eD T d):=by intro T i d h2;simp[tE,or_eq_true,beq_iff_eq]at i;rcases i with(((rfl|rfl)|rfl)|rfl)|rfl<;>cases d<;>first|show absurd h2 qY|kernel_rfl
def Ri(I:Inv X zU Z H s)(B:zJ x u)(L:aI X.K H x d)(hd:eR d=true)(e:W.kitOne X.K (.type (cv d)) c=⇑b)(h:∀tk,Q (.bool b) {s with toks:=tk}):
  wpAny (model X.prog X.w) A (call (.builtin "isinstance") [u,c]) Q E s:=by
 cases L with
 |non=>show Cw I B .non e h
 |bl y=>show Cw I B (.bl y) e h
 |int i=>show Cw I B (.int i) e h
 |str e1 z=>show Cw I B (.str _) e h
 |tup v r=>show Cw I B (.tup v) e h
 |lst v r=>cases B;let#[O,r,M,_]:=I.list v;let#[o,Y,hc,_]:=M.isList;show W.kia_one W.kitx_list I.kIn #[o,Y,hc] e (λz=>nomatch z) h
 |@dK a F ks J v k r=>
  cases B;rcases v with v|⟨G,v⟩
  .show Cw (x:=.ref a) I rfl (.dK v) e h
  .obtain⟨_,_,_,_,p⟩:=(show zT X.prog X.w H s.heap a (.frz G (.dK F)) from I.hok a _ v)
   let#[_,o,es,ep,h1,h2,_]:=p;show W.kia_one W.kitx_dict I.kIn #[o,h1,h2.1] e (λz=>nomatch z) h
 |@dT a F ks J v k r=>
  cases B;rcases v with v|⟨G,v⟩
  .show Cw (x:=.ref a) I rfl (.dT v) e h
  .obtain⟨_,_,_,_,p⟩:=(show zT X.prog X.w H s.heap a (.frz G (.dT F)) from I.hok a _ v)
   let#[_,o,es,ep,h1,h2,_]:=p;show W.kia_one W.kitx_dict I.kIn #[o,h1,h2.1] e (λz=>nomatch z) h
 |@st a xs ds v r=>
  cases B;let t:∃o,s.heap.get? a=⇑o/\o.cls=.type "set":=by
   rcases I.hok a _ v with⟨_,⟨_,h1⟩|⟨_,_,_,o,_,_,_,h1,h2,_⟩|⟨_,_,_,_,o,_,_,_,h1,h2,_⟩⟩
   .show#[_,h1,rfl]
   .show#[o,h1,h2.1]
   .show#[o,h1,h2.1]
  show W.kia_one W.kitx_set I.kIn t e (λz=>nomatch z) h
 |exc _ _=>cases hd
section
variable{TS:String}
def CO(hg:Gl X "isinstance")(hm:X.mg "isinstance"=none)(hv:bootBuiltins "isinstance"=⇑(.builtin "isinstance"))(h1:Gl X T)(O:X.mg T=none)(B:bootBuiltins T=⇑(.type TS))(hT:tE TS=true)(ha:FE X a wa)
  (M:autoParam (T≠"__name__") dZ9)(h2:autoParam ((T==("__debug__":Str))=false) dZ9)
  (he:autoParam (starEach [a,.Name T pt] X.env=(false,eval a X.env)::starEach [.Name T pt] X.env) rZ9)(h3:autoParam (starEach [.Name T pt] X.env=[(false,eval (.Name T pt) X.env)]) rZ9)(J:autoParam ((backTo pos (starEach [.Name T pt] X.env)).any (·.1)=false) rZ9):
  FE X (.Call (.Name "isinstance" p) [a,.Name T pt] [] pos) (iC TS wa):=λpn xe hp=>by
 intro zU s Z H Q I h;show wpAny_Call_Name_kw (BD (X:=wp X pn xe) I hg hm hv ?_ ⋯ ⋯);show PyProof.Rows.callWith_builtin1 ?_ he J;rw[he];show Calls.spliced_cons (Ai (ha pn xe hp zU s Z H _ I (one (k:=λx i Q E=>zz (view x i) λd=>eR d=true/\Q (.v (.sh (.bl (eD TS d)))) i) h)) λu s1 zq=>?_);let#[x,H1,I1,r1,q1]:=zq;show Calls.spliced_cons (BD (X:=wp X pn xe) I1 h1 O B (Calls.spliced_nil ?_) M h2);let#[F,G,U,y,P,PX,v,hl,ry,Y,L,hx]:=q1;let#[d,ed,hd,Y]:=Ah Y;let rp:=look (U':=[]) (Z':=[]) v hl ry ed;show Ri I1 r1 rp hd (Mh _ TS hT d hd) λtk=>#[.bl _,H1,I1.kept λ_ _ z=>z,rfl,?_]
 show L _ U _ F H1 Y (zF.refl F) ((v.drop hl).push (.bl _)) trivial
end
def Ep:bootBuiltins "int"=⇑(.type "int"):=by decide+kernel
def CY:bootBuiltins "tuple"=⇑(.type "tuple"):=by decide+kernel
def Pd:bootBuiltins "list"=⇑(.type "list"):=by decide+kernel
def OR:bootBuiltins "bool"=⇑(.type "bool"):=by decide+kernel
def Ip:bootBuiltins "str"=⇑(.type "str"):=by decide+kernel
def Ml:bootBuiltins "max"=⇑(.builtin "max"):=by decide+kernel
def FN:bootBuiltins "min"=⇑(.builtin "min"):=by decide+kernel
def MS:bootBuiltins "all"=⇑(.builtin "all"):=by decide+kernel
def GR:bootBuiltins "sorted"=⇑(.builtin "sorted"):=by decide+kernel
def Da:bootBuiltins "isinstance"=⇑(.builtin "isinstance"):=by decide+kernel
def Bd(i:bQ k A):A.units+32<cLine:=by let:=i.units;lia
def Bn(i:bQ k A):A.units+31<cLine:=by let:=i.units;lia
theorem uq{N:List Str}(h:(N.zipIdx.all λp=>!(p.1==x)||p.2==i)=true):∀j,N[j]?=⇑x->j=i:=by intro j v;let:=qJ.mp h (x,j) (by rw[List.mem_zipIdx_iff_getElem?];simpa using v);simpa using this
instance(outer scope:Scope)(N vars:List Str):Decidable (scope.kind=.function/\(∀x∈scope.names,x.2=.free->outer.names.lookup x.1=⇑.cell\/outer.names.lookup x.1=⇑.free)/\(scope.names.map (·.1)).Nodup/\
  (∀x∈N,x∉vars->(x,NameKind.local)∉scope.names/\(x,NameKind.cell)∉scope.names)/\scope.names.lookup Str.empty=none):=inferInstance
def wU(i scope:Scope)(N vars:List Str):Bool:=decide (scope.kind=.function/\(∀x∈scope.names,x.2=.free->i.names.lookup x.1=⇑.cell\/i.names.lookup x.1=⇑.free)/\(scope.names.map (·.1)).Nodup/\
    (∀x∈N,x∉vars->(x,NameKind.local)∉scope.names/\(x,NameKind.cell)∉scope.names)/\scope.names.lookup Str.empty=none)
def Am(h:wU outer scope N vars=true):bV outer scope N vars:=
 let⟨a,b,c,d,e⟩:=qV h
 #[a,b,c,d,e]
def Qp{K:W.Frag}(r:aF K F H v (.sh (.bl true)) fp):v=.bl true:=by
 cases r with
 |sh r=>cases r;rfl
def Ms{K:W.Frag}(h:∀B:List Int,B.length<=63->L [.sh (.lst (B.map .int))] (λs _=>s=.sh (.bl true)) λ_ _=>False)(H:Hp)(a:Addr)(B:List Int)(O:B.length<=63)(Y:bB K H a (B.map V.int)):
  dR K L 1 [.ref a] H (λv _=>v=.bl true) λ_ _ _=>False:=by
 show#[H,λ_=>none,[.sh (.lst (B.map .int))],_,_,rfl,#[zF.refl H,λ_ _ z=>(nomatch z),[]++[],.so (.sh (.lst Y (EY B))) .nil,List.nodup_nil,λ_ z=>(nomatch z)],h B O,λs F v F' H' M sm G r=>?_,λ_ _ _ _ _ _ z=>z.elim];subst M;let#[u,fp,J,q]:=r.at (i:=F.length) (s:=.sh (.bl true)) (by let:=Cy (U:=F.map some) (o:=⇑(.sh (.bl true))) (U':=[]);simpa using this)
 let I:F.length=1:=G;rw[I]at J;let:u=v:=↑J.symm
 rw[<-this];show Qp q
end FL
namespace FL
open PySem PySem.Spec PyProof.Rows L2
open AutoSeq1 (wpAny_loadPart')
def MT(G:s.heap.IsTupleIter u z n)(hz:s.heap.IsTuple z xs)(I:xs[n]?=⇑v)(k:∀h',h'.IsTupleIter u z (n+1)->Heap.SameBut u s.heap h'->Q v {s with heap:=h'}):
  wpAny (model prog w) A (Builtin.SmallTypes.nextOf (.ref u)) Q E s:=by
 let#[ob,B,M,i]:=id G;let#[Y,L,_,O,J]:=hz;apply qa;show wpAny_callSpecial?_slot (name:=Str.ofString "__next__") G.typeIs F.slot_tuple_iterator_next (zm F.slot_tuple_iterator_next G.typeIs F.entry_tuple_iterator_next ?_ (F.args_tuple_iterator_next_1 _));show wpAny _ _ (field (.ref u) 0>>=_) _ _ _;apply qa;show zj B i (x:=.ref z) rfl ?_;apply qa;show zj B i (x:=.int n 0) rfl ?_;apply qa;show wpAny_seqItems L J ?_;simp[qX,I];apply qa;show wpAny_setField B i (by simp) (qb #[v,rfl,qb (k _ #[_,zi _ B (Obj.isFreed_of_fields (Obj.data_mapFields i _)),(Obj.cls_mapFields ..).trans M,?_] (Heap.SameBut.update ..))]);rw[Obj.data_mapFields i];simp[rawInt]
def Lf(G:A.handled=none)(i:s.heap.IsTupleIter u z n)(hz:s.heap.IsTuple z xs)(I:xs[n]?=none)
  (k:∀h' e,Heap.ExtBut u s.heap h'->(∃o,h'.get? e=⇑o/\o.cls=.type "StopIteration")->E (.ref e) {s with heap:=h'}):wpAny (model prog w) A (Builtin.SmallTypes.nextOf (.ref u)) Q E s:=by
 let#[Y,B,e1,v]:=id i;let#[O,L,_,M,J]:=hz;apply qa;show wpAny_callSpecial?_slot (name:=Str.ofString "__next__") i.typeIs F.slot_tuple_iterator_next (zm F.slot_tuple_iterator_next i.typeIs F.entry_tuple_iterator_next ?_ (F.args_tuple_iterator_next_1 _));show wpAny _ _ (field (.ref u) 0>>=_) _ _ _;apply qa;show zj B v (x:=.ref z) rfl ?_;apply qa;show zj B v (x:=.int n 0) rfl ?_;apply qa;show wpAny_seqItems L J ?_;simp[qX,I];apply qa;apply wpAny_rule;apply qa;show wpAny_setField B v (by simp) ?_;apply qa;apply qa;show zk ?_ (by size_fits);show qa (m:=firstArgMember _ _) (zr (a:=Value.none) (by first|rfl|(simp;rfl)) (zk ?_ (by size_fits)));apply qa;show wpAny_handled ?_;first|rw[show A.in1.handled=none from G]|rw[G]
 show qa (qb (wpAny_throw (k _ _ (((Heap.SameBut.update ..).extBut.push _).push _) #[_,qd _ rfl,rfl])))
def Sq{prog:Program}{w:World}{A:Around}(hh:A.handled=none)(u z:Addr)(hne:z≠u)(xs:Array Value):
  Draws prog w A u [u,z] xs.size (λi v=>xs[i]?=⇑v) (λi h=>h.IsTupleIter u z i/\h.IsTuple z xs) where
 live:=λ_ _ st=>let#[o,e,_]:=st.1;#[o,e]
 frame:=λ_ _ _ st k=>#[st.1.at λo e=>k u (by simp) o e,by let#[o,e,r]:=st.2;show#[o,k z (by simp) o e,r]]
 item:=λi s Q E hi st k=>MT st.1 st.2 (v:=xs[i]) (by simp) λh' a b=>k _ h' s.toks (by simp[hi]) #[a,by let#[o,e,r]:=st.2;show#[o,b.extBut _ _ hne e,r]] b
 done:=λs Q E st k=>Lf hh st.1 st.2 (by simp) k
inductive SrcI(P:Program)(w:World)(A:Around)(it:Addr)(J:It)(tn:Nat->Heap->Prop)(i:Nat)(s:Shared)(H:Hp):Prop
 |mk (fp:List Addr) (n:Nat) (Pr:Nat->Value->Prop) (Sx:Nat->Heap->Prop):Draws P w A it fp n Pr Sx->Sx i s.heap->i<n->it∈fp->(∀b∈fp,b=it\/(H b≠none/\∃o,s.heap.get? b=some o/\o.cls=.type "tuple")\/∃o,s.heap.get? b=some o/\o.cls=.type "list")->(∀v,Pr i v->∃x,zJ x v/\J.yld i H x H)->(∀h',Sx (i+1) h'->tn (i+1) h')->SrcI P w A it J tn i s H
structure sE(P:Program)(w:World)(K:W.Frag)(J:It)(it:Addr)(tn:Nat->Heap->Prop):Prop where
 live:∀i h,tn i h->∃o,h.get? it=⇑o/\(∀v,o.data≠.cell v)/\o.cls≠.type "enumerate"/\o.cls≠.type "zip"/\o.cls≠.type "tuple"/\o.cls≠.type "list"
 keep:∀i h h',tn i h->(∀o,h.get? it=⇑o->h'.get? it=⇑o)->tn i h'
 yl:∀i H x H',J.yld i H x H'->H'=H
 item:∀(X:Cx),X.prog=P->X.w=w->X.K=K->∀(i:Nat)(zU:List (Addr×Obj))(s:Shared)(Z:St)(H:Hp)(A:Around),A.handled=none->Inv X zU Z H s->tn i s.heap->H it=none->J.go i H->
  SrcI P w A it J tn i s H
 done:∀(X:Cx),X.prog=P->X.w=w->X.K=K->∀(i:Nat)(zU:List (Addr×Obj))(s:Shared)(Z:St)(H:Hp)(A:Around),A.handled=none->Inv X zU Z H s->tn i s.heap->J.stop i H->∀(Q:zu)(E:zu),
  (∀h' e,Heap.ExtBut it s.heap h'->(∃o,h'.get? e=⇑o/\o.cls=.type "StopIteration")->E (.ref e) {s with heap:=h'})->wpAny (model P w) A (Builtin.SmallTypes.nextOf (.ref it)) Q E s
def JW{P:Program}{w:World}{K:W.Frag}(a it:Addr):sE P w K (xN K a) it (λi h=>h.IsListIter it a i) where
 live:=λi h st=>by let#[o,e,c,d]:=st;show#[o,e,λv z=>by(rw[d]at z;cases z),by rw[c];decide,by rw[c];decide,by rw[c];decide,by rw[c];decide]
 keep:=λi h h' st k=>st.at k
 yl:=λi H x H' h=>h.1
 item:=by
  intro X hP hw hK i zU s Z H A hh I st hn hg;subst hP hw hK;let#[xs,x,hq,hx]:=hg;let#[zY,rv,p,hz]:=I.list hq;let#[lo,l1,l2,l3]:=id p.isList;let hne:a≠it:=λz=>by let#[o,e,c,d]:=id st;rw[<-z,l1]at e;cases e;rw[l2]at c;show absurd c ⋯
  let hl:=rv.length;let hi:i<zY.toArray.size:=by let:=(qh.mp hx).1;rw[qt];lia
  show#[_,_,_,_,Draws.list hh it a hne zY.toArray,#[st,p.isList],hi,m1,λb hb=>?_,λv hv=>?_,λh' z=>z.1]
  .simp at hb;rcases hb with rfl|rfl
   .show .inl rfl
   .show .inr (.inr #[lo,l1,l2])
  .obtain⟨u,hu,ru⟩:=rv.get hx;let:u=v:=by
    let hv':zY[i]?=⇑v:=↑hv
    rw[hu]at hv';show qg hv'
   subst this;show#[x,ru,rfl,λys hy=>by rw[I.list_inj hy hq];show hx]
 done:=by intro X hP hw hK i zU s Z H A hh I st hg Q E k;subst hP hw hK;let#[xs,hq,hx]:=hg;let#[zY,rv,p,hz]:=I.list hq;let hl:=rv.length;show wpAny_nextOf_list_end hh st p.isList (by simp;lia -verbose) k
def dr(a:Addr):It:=#[λi H=>∃xs x,H a=⇑(.tup xs)/\xs[i]?=⇑x,λi H x H'=>H'=H/\∀xs,H a=⇑(.tup xs)->xs[i]?=⇑x,λi H=>∃xs,H a=⇑(.tup xs)/\xs.length<=i]
def IV{P:Program}{w:World}{K:W.Frag}(a it:Addr):sE P w K (dr a) it (λi h=>h.IsTupleIter it a i) where
 live:=λi h st=>by let#[o,e,c,d]:=st;show#[o,e,λv z=>by(rw[d]at z;cases z),by rw[c];decide,by rw[c];decide,by rw[c];decide,by rw[c];decide]
 keep:=λi h h' st k=>st.at k
 yl:=λi H x H' h=>h.1
 item:=by
  intro X hP hw hK i zU s Z H A hh I st hn hg;let#[xs,x,hq,hx]:=hg;let#[zY,rv,p,hz]:=I.tuple (aZ.of hq);let#[lo,l1,l2,l3]:=id p;let hne:a≠it:=λz=>by rw[z,hn]at hq;cases hq
  let hl:=rv.length;let hi:i<zY.toArray.size:=by grind
  show#[_,_,_,_,Sq hh it a hne zY.toArray,#[st,p],hi,m1,λb hb=>?_,λv hv=>?_,λh' z=>z.1]
  .grind
  .obtain⟨u,hu,ru⟩:=rv.get hx;let:u=v:=by grind
   subst this;show#[x,ru,rfl,λys hy=>by rw[hq]at hy;cases hy;show hx]
 done:=by intro X hP hw hK i zU s Z H A hh I st hg Q E k;let#[xs,hq,hx]:=hg;let#[zY,rv,p,hz]:=I.tuple (aZ.of hq);let hl:=rv.length;show Lf hh st p (by simp;lia -verbose) k
def Jr{P:Program}{w:World}{K:W.Frag}(it:Addr)(x:Str)(t:Tok):sE P w K (xA x) it (λi h=>h.IsStrIter it (strIterType x) x t i) where
 live:=λi h st=>by
  obtain⟨o,e,c,d⟩:=st;let hc:o.cls=.type "str_ascii_iterator"\/o.cls=.type "str_iterator":=by
   rw[c];unfold strIterType;split
   .show .inl rfl
   .show .inr rfl
  grind
 keep:=λi h h' st k=>by let#[o,e,r]:=st;show#[o,k o e,r]
 yl:=λi H x H' h=>h.1
 item:=by
  intro X hP hw hK i zU s Z H A hh I st hn hg;let fin:∀v:Value,(∃c u,x.cps[i]?=⇑c/\v=.str #[[c].toArray] u)->∃y,zJ y v/\(xA x).yld i H y H:=λv⟨c,u,e,ev⟩=>#[.str #[[c].toArray],by rw[ev];show#[u,rfl],rfl,c,e,rfl]
  cases ha:x.cps.all (·<128)
  .let e:strIterType x="str_iterator":=by unfold strIterType;rw[ha];rfl
   rw[e]at st⊢;show#[_,_,_,_,Draws.strWide hh it x t,st,hg,m1,λb hb=>.inl ↑hb,fin,λ_ z=>z]
  .let e:strIterType x="str_ascii_iterator":=by unfold strIterType;rw[ha];rfl
   rw[e]at st⊢;show#[_,_,_,_,Draws.strAscii hh it x t,st,hg,m1,λb hb=>.inl ↑hb,fin,λ_ z=>z]
 done:=by
  intro X hP hw hK i zU s Z H A hh I st hg Q E k;let hn:x.cps[i]?=none:=by let:x.cps.size<=i:=hg;simp[this]
  cases ha:x.cps.all (·<128)
  .let e:strIterType x="str_iterator":=by unfold strIterType;rw[ha];rfl
   rw[e]at st;show wpAny_nextOf_wide_end hh st hn k
  .let e:strIterType x="str_ascii_iterator":=by unfold strIterType;rw[ha];rfl
   rw[e]at st;show wpAny_nextOf_ascii_end hh st hn k
end FL
namespace FL
def bX(k:Nat):List D->List D
 |[]=>[]
 |d::l=>.tup [.int k,d]::bX (k+1) l
def lW(a:WE):WI:=λU Q E=>a U (λr i=>zz (give r i) λp=>zz (items p.1.toD) λl=>Q (bX 0 l) p.2) E
def bJ:List D->List D->List D
 |d::l,e::m=>.tup [d,e]::bJ l m
 |_,_=>[]
def sP(a b:WE):WI:=λU Q E=>a U (λr v=>b v (λt i=>zz (give r i) λp=>zz (give t p.2) λq=>zz (items p.1.toD) λl=>zz (items q.1.toD) λm=>Q (bJ l m) q.2) E) E
def KI:∀(l:List D)(k i:Nat)(d:D),(bX k l)[i]?=⇑d->∃e,l[i]?=⇑e/\d=.tup [.int ((k+i:Nat):Int),e]
 |[],_,_,_,h=>by simp[bX]at h
 |e::l,k,0,d,h=>by simp[bX]at h;show#[e,rfl,↑h.symm]
 |e::l,k,i+1,d,h=>by let#[v,h1,h2]:=KI l (k+1) i d (by simpa[bX] using h);show#[v,↑h1,by rw[h2];congr 4;lia]
def KS:∀(l:List D)(k:Nat),(bX k l).length=l.length
 |[],_=>rfl
 |_::l,k=>by simp[bX,KS l]
def Gz:∀(l m:List D)(i:Nat)(d:D),(bJ l m)[i]?=⇑d->∃e f,l[i]?=⇑e/\m[i]?=⇑f/\d=.tup [e,f]
 |[],_,_,_,h=>by simp[bJ]at h
 |_::_,[],_,_,h=>by simp[bJ]at h
 |e::l,f::m,0,d,h=>by simp[bJ]at h;show#[e,f,rfl,rfl,h.symm]
 |e::l,f::m,i+1,d,h=>by let#[F,B,h1,h2,v]:=Gz l m i d (by simpa[bJ] using h);show#[F,B,↑h1,↑h2,v]
def Gw:∀(l m:List D),(bJ l m).length=min l.length m.length
 |[],_=>by simp[bJ]
 |_::_,[]=>by simp[bJ]
 |_::l,_::m=>by simp[bJ,Gw l m]
end FL
namespace FL
open PySem PySem.Spec PyProof.Rows L2
open AutoSeq1 (wpAny_loadPart')
def Dc{ch:List Addr}(I:Inv X zU Z H s)(B:∀b∈ch,cO X zU H b)(k:∀b o,b∉ch->s.heap.get? b=⇑o->h'.get? b=⇑o):Inv X zU Z H {s with heap:=h',toks:=t'}:=by
 let F:∀b u,H b=⇑u->b∉ch:=λb u e z=>by rw[(B b z).1]at e;cases e
 refine I.step (g':=s.gens) (d':=s.drawn) (ch:=ch) (λb L=>?_) (λb o _ _ i e _=>k b o i e) (λb o _ _ i e _=>#[o.slots,k b o i e]) (λ_ _ _ _ n=>n)
  (λb o i e=>#[o,k b o i e]) (λ_ _ e=>e) (λ_ _ _ e=>e) (λb ps e=>#[#[],by rw[e];simp]) (λm J=>?_) (λb u e=>?_) I.bare
 .obtain⟨f0,f1,f2,Y,O,M⟩:=B b L;show#[Y,f1,O,M]
 .obtain⟨o,es,ep,G,r⟩:=J;show#[o,es,ep,k _ o (λz=>(B _ z).2.1 rfl) G,r]
 .show(I.hok b u e).stay (λc v i q=>k c v ?_ q) (λ_ q=>q) λ_ _ q=>q;grind
def EI(f:cO X zU H b)(h:b≠T):cO X zU (L2.upd H T o) b:=#[by rw[Ae h];show f.1,f.2]
def He{ch:List Addr}(I:Inv X zU Z H s)(M:∀b∈ch,cO X zU H b)(L:∀b∈ch,b<s.heap.objs.size)(hz:xs.length<=sizeLine)(F:zR xs us)
  (O:∃o,h'.get? s.heap.objs.size=⇑o/\o.cls=.type "tuple"/\o.dict=none/\∃n,o.data=.seq us.toArray n)(k:∀b o,b∉ch->s.heap.get? b=⇑o->h'.get? b=⇑o):
  Inv X zU Z (L2.upd H s.heap.objs.size (.tup xs)) {s with heap:=h',toks:=t'}:=by
 let#[o,e,c,J,n,d]:=O;let i:o.isFreed=false:=by let#[oc,od,B,G]:=o;let Y:B=.seq us.toArray n:=d;subst Y;rfl
 have I1:Inv X zU Z (L2.upd H s.heap.objs.size (.tup xs)) {s with heap:=s.heap.push o}:=I.laid (t':=s.toks) (λb u q=>qc _ q) (zb _) #[#[hz,λo' q=>by rw[qd _ i]at q;cases q;show J],us,F,#[o,qd _ i,c,n,d]];let I2:=Dc I1 (h':=h') (t':=t') (ch:=ch) (λb v=>EI (M b v) (ne_of_lt (L b v))) λb u v q=>by
  rcases Heap.get?_push_cases q with⟨rfl,rfl⟩|q
  .show e
  .show k b u v q
 show I2
def xO(J:It):It:=#[J.go,λi H x H'=>∃p y,H p=none/\J.yld i H y H/\x=.ref p/\H'=upd H p (.tup [.int i,y]),J.stop]
def PQ(I:IsEnum s.heap e it i J)(M:∀(Q:zu)(E:zu),(∀h' x,Heap.ExtBut it s.heap h'->(∃o,h'.get? x=⇑o/\o.cls=.type "StopIteration")->E (.ref x) {s with heap:=h'})->wpAny (model prog w) A.in1 (Builtin.SmallTypes.nextOf (.ref it)) Q E s)
  (Y:∀h',Heap.ExtBut it s.heap h'->Q none {s with heap:=h'}):wpAny (model prog w) A (pyNext (.ref e)) Q E s:=by
 let G:s.TypeIs (.ref e) "enumerate":=#[_,I,rfl]
 apply qa;apply wpAny_attempt;show wpAny_callSpecial?_slot (name:=Str.ofString "__next__") G F.slot_enumerate_next (zm F.slot_enumerate_next G F.entry_enumerate_next ?_ (F.args_enumerate_next_1 _));show wpAny _ _ (field (.ref e) 2>>=_) _ _ _;apply qa;show zj I rfl (x:=.ref it) rfl (qa (M _ _ λh' x B v=>?_));let#[o,L,O]:=v;show qa (wpAny_isInstance (T:="StopIteration") (b:=true) #[o,L,O] isSubtype_stop (qb (Y _ B)))
def SQ{P:Program}{w:World}{K:W.Frag}{J:It}{it e:Addr}{tn:Nat->Heap->Prop}{elts:List Expr}{k:Nat}{pos:Pos}(S:sE P w K J it tn)(hei:e≠it):
  fT P w K (.Tuple elts k pos) (xO J) [e,it] e (λi h=>(∃old,IsEnum h e it i old)/\tn i h) where
 mem:=m1
 obj:=λi h st b hb=>by
  simp at hb;rcases hb with rfl|rfl
  .obtain⟨old,q⟩:=st.1;show#[_,q,λv z=>by cases z]
  .obtain⟨o,h1,h2,_⟩:=S.live i h st.2;show#[o,h1,h2]
 keep:=λi h h' st kk=>by let#[#[old,q],t]:=st;show#[#[old,kk e (m1) _ q],S.keep i h h' t λo q=>kk it (m2) o q]
 item:=by
  intro X hP hw hK hc i zU s Z H E I hf st hg;let#[#[old,he],ht]:=st;let hh:X.A.in1.handled=none:=I.ok.hd hc;let#[fp,n,Pr,Sx,D,hS,hin,hif,hfp,hv,hs]:=S.item X hP hw hK i zU s Z H X.A.in1 hh I ht (hf it (m2)).1 hg;let hef:e∉fp:=λz=>by grind
  have hel:e<s.heap.objs.size:=qe he;let#[oi,hoi,_]:=S.live i _ ht;let hil:it<s.heap.objs.size:=qe hoi;show wpAny_pyNext_enum_itemD (A:=X.A) D he hS hin hei hef λx h1 tk hPx ho hS1 hT hsz hk=>?_;let#[y,ry,hy]:=hv x hPx;show#[_,rfl,wpAny_letOwnedTupleGo_enum ho λh2 he2 sb=>?_];let ne:s.heap.objs.size≠e:=ne_of_gt hel;let I2:Inv X zU Z (upd H s.heap.objs.size (.tup [.int i,y])) {s with heap:=h2,toks:=tk+1}:=He I (ch:=[e,it]) (us:=[.int i tk,x]) hf (λb hb=>by
    simp at hb;rcases hb with rfl|rfl
    .show hel
    .show hil) (by show 2<=_;decide) (.cons #[_,rfl] (.cons ry .nil)) #[_,sb.extBut _ _ ne hT,rfl,rfl,_,rfl] λb o hb q=>by
   simp at hb;show sb.extBut _ _ hb.1 (hk b o hb.1 hb.2 q)
  show#[.ref s.heap.objs.size,_,I2,rfl,#[s.heap.objs.size,y,I.hok.fresh (zb _),hy,rfl,rfl],#[#[x,he2],S.keep _ _ _ (hs _ hS1) λo q=>sb.extBut _ _ (Ne.symm hei) q],λb hb=>?_];simp at hb;rcases hb with rfl|rfl
  .rw[Ae (ne_of_lt hel)];show(hf _ (m1)).1
  .rw[Ae (ne_of_lt hil)];show(hf _ (m2)).1
 done:=by intro X hP hw hK hc i zU s Z H E I hf st hg;let#[#[old,he],ht]:=st;let hh:X.A.in1.handled=none:=I.ok.hd hc;show PQ he (S.done X hP hw hK i zU s Z H X.A.in1 hh I ht hg) λh' hx=>#[rfl,Dc I (t':=s.toks) (ch:=[it]) (λb hb=>hf b (by simp at hb;simp[hb])) λb o hb q=>hx b o ↑hb q]
 self:=λA i s Q E st h=>by let#[#[old,he],_]:=st;show wpAny_pyIter_enum he h
abbrev nG(h:Heap)(z:Addr):Heap:=(h.push {cls:=.type "tuple_iterator",data:=.fields [.ref z,.int 0 0].toArray}).push {cls:=.type "enumerate",data:=.fields [.none,.bool false,.ref h.objs.size,rawInt 0,.none,.none].toArray}
set_option maxHeartbeats 1000000 in
def TV(z:Addr)(xs:Array Value)(n:Nat)(M:Option Addr)(I:Array (Option Value)):Meets (Builtin.«enumerate.__new__» #[[.type "enumerate",.ref z],[]]) (λ_ R s=>s.heap.get? z=some {cls:=.type "tuple",dict:=M,data:=.seq xs n,slots:=I}/\
  R (.ok (.ret (.ref (s.heap.objs.size+1)))) {s with heap:=nG s.heap z}):=
 .of_wp λprog w A R s F=>by
  let#[v,g,d,tk,os]:=s;let#[B,L]:=F;let O:=sub_enumerate;let J:(v.push {cls:=.type "tuple_iterator",data:=.fields [.ref z,.int 0 0].toArray}).objs.size=v.objs.size+1:=Heap.size_push ..;let i:R (.ok (.ret (.ref (v.push {cls:=.type "tuple_iterator",data:=.fields [.ref z,.int 0 0].toArray}).objs.size))) {heap:=nG v z,gens:=g,drawn:=d,toks:=tk,os:=os}:=by rw[J];show L
  let G:Heap.IsTuple (Shared.heap #[v,g,d,tk,os]) z xs:=#[_,B,rfl,n,rfl]
  wp_walk using wpAny_loadPart' B
  show wpAny_stack_any λst=>qb ?_;split
  .rename_i c _ _ _ _ _;cases(c==Value.type "enumerate")<;>(wp_walk using wpAny_loadPart' B,wpAny_pyIter_tuple G;show#[_,rfl,i])
  .wp_walk using wpAny_loadPart' B,wpAny_pyIter_tuple G
   show#[_,rfl,i]
def QD(M:s.heap.IsTuple z xs)
  (k:∀h',IsEnum h' (s.heap.objs.size+1) s.heap.objs.size 0 .none->h'.IsTupleIter s.heap.objs.size z 0->(∀b o,s.heap.get? b=⇑o->h'.get? b=⇑o)->Q (.ref (s.heap.objs.size+1)) {s with heap:=h'}):
  wpAny (model prog w) A (call (.type "enumerate") [.ref z]) Q E s:=by
 let#[#[c,dd,dt,B],I,L,n,J]:=M;let Y:c=.type "tuple":=L;let O:dt=.seq xs n:=J;subst Y O;show callType_new F.called_enumerate ⋯ (F.typeCall_enumerate_1 _) (F.newCall_enumerate_1 _) (λi=>F.args_object_init_2 i _) F.entry_enumerate_new (TV z xs n dd B) #[I,?_];let G:(s.heap.push {cls:=.type "tuple_iterator",data:=.fields [.ref z,.int 0 0].toArray}).objs.size=s.heap.objs.size+1:=Heap.size_push ..;let v:IsEnum (nG s.heap z) (s.heap.objs.size+1) s.heap.objs.size 0 .none:=by let:=qd (s.heap.push {cls:=.type "tuple_iterator",data:=.fields [.ref z,.int 0 0].toArray}) (o:={cls:=.type "enumerate",data:=.fields [.none,.bool false,.ref s.heap.objs.size,rawInt 0,.none,.none].toArray}) rfl;rw[G]at this;show this
 show#[#[_,v,rfl],k _ v #[_,qc _ (qd _ rfl),rfl,rfl] λb o x=>qc _ (qc _ x)]
def ao(K:W.Frag)(v:TA):TI:=λZ H R=>v Z H λi H1=>(∃a,i=[.ref a]/\(∃xs,bB K H1 a xs)/\R (xO (xN K a)) H1)\/(∃a,i=[.ref a]/\(∃xs,H1 a=⇑(.tup xs))/\R (xO (dr a)) H1)\/∃x,i=[.str x]/\R (xO (xA x)) H1
def NP(hc:X.calm=true)(hg:Gl X "enumerate")(hm:X.mg "enumerate"=none)(hv:bootBuiltins "enumerate"=⇑(.type "enumerate"))(hl:PA X [a] tl)
  (hs:autoParam (starEach [a] X.env=[(false,eval a X.env)]) rZ9):PI X (.Tuple elts kk tpos) (.Call (.Name "enumerate" p) [a] [] pos) (ao X.K tl):=by
 intro zU s Z H R I h;show wpAny_Call_Name_kw (BD I hg hm hv ?_ ⋯ ⋯);show PyProof.Rows.callWith_type1 (Ai (hl pos zU s Z H _ I h) λus i zq=>?_) hs rfl;let#[vs,H1,G,O,q1]:=zq;let F:∀{J:It}{M:Nat->Heap->Prop}{h':Heap},sE X.prog X.w X.K J i.heap.objs.size M->R (xO J) H1->IsEnum h' (i.heap.objs.size+1) i.heap.objs.size 0 .none->M 0 h'->(∀b o,i.heap.get? b=⇑o->h'.get? b=⇑o)->
   wpAny (model X.prog X.w) X.A (pyIter (.ref (i.heap.objs.size+1))) (bh X zU Z (.Tuple elts kk tpos) R) X.xe {i with heap:=h'}:=λ{J M h'} S hR v ht B=>by
  show wpAny_pyIter_enum (s:={i with heap:=h'}) v ?_;show#[i.heap.objs.size+1,[i.heap.objs.size+1,i.heap.objs.size],_,_,H1,rfl,G.kept (t':=i.toks) B,SQ S (Nat.succ_ne_self _),#[#[_,v],ht],λb hb=>?_,hR];simp at hb;rcases hb with rfl|rfl
  .show G.fpOk (le_succ _) (G.hok.fresh (le_succ _))
  .show G.fpOk (zb _) (G.hok.fresh (zb _))
 rcases q1 with⟨b,e,⟨xs,hq⟩,q⟩|⟨b,e,⟨xs,hq⟩,q⟩|⟨x,e,q⟩
 .subst e;let#[u,rfl,L]:=vals1 O;cases L;let#[h1,rv,Y,hz]:=G.list hq;show call_enumerate_list Y.isList λh' v hi _ B=>F (JW b _) q v hi B
 .subst e;let#[u,rfl,L]:=vals1 O;cases L;let#[h1,rv,Y,hz]:=G.tuple (aZ.of hq);show QD Y λh' v hi B=>F (IV b _) q v hi B
 .subst e;let#[u,rfl,L]:=vals1 O;let#[t,rfl]:=L;show call_enumerate_str λh' v hi _ B=>F (Jr _ x t) q v hi B
def GT{K:W.Frag}(hy:∀i H x H',J.yld i H x H'->H'=H)(h:dC K J l F0):dC K (xO J) (bX 0 l) F0:=λi U Z F G H sm v=>by let#[h1,h2]:=h i U Z F G H sm v;show#[λd hd=>?_,λM=>h2 (by rw[KS]at M;show M)];let#[e,he,rfl]:=KI l 0 i d hd;let#[g1,g2]:=h1 e he;show#[g1,λx H' zq=>?_];let#[p,y,L,B,ex,eH]:=zq;subst ex eH;let#[Y,s1,I,rp]:=g2 y H B;let#[O,_,_]:=I.free L;show#[upd Y p (.tup [.int i,y]),s1.trans (zF.upd O),I.newF L,?_];let:=aI.tup (K:=K) (F:=upd Y p (.tup [.int i,y])) (a:=p) (xs:=[.int i,y]) (ds:=[.int i,e]) Aw (.cons (.int i) (.cons (rp.mono (zF.upd O)) .nil));simpa using this
def Ke{K:W.Frag}{a:Addr}(e:F0 a=⇑(.tup xs))(r:zS K F0 xs l):dC K (dr a) l F0:=λi U Z F G H J v=>by let I:H a=⇑(.tup xs):=(J.trans v.fr).at _ _ e;show#[λd O=>?_,λh=>#[xs,I,by rw[r.len];show h]];let#[x,L,M]:=r.get O;show#[#[xs,x,I,L],λy H' B=>?_];let#[rfl,B]:=B;let:x=y:=qg (L.symm.trans (B xs I));subst this;show#[F,zF.refl F,v,M.mono J]
def Uy:bootBuiltins "enumerate"=⇑(.type "enumerate"):=by decide+kernel
def On(hc:X.calm=true)(hg:Gl X "enumerate")(hm:X.mg "enumerate"=none)(hv:bootBuiltins "enumerate"=⇑(.type "enumerate"))(ha:FE X a we)(hs:autoParam (starEach [a] X.env=[(false,eval a X.env)]) rZ9):
  FI X (.Tuple elts kk tpos) (.Call (.Name "enumerate" p) [a] [] pos) (lW we):=λpn xe hp=>by
 show PI.imp (NP (X:=wp X pn xe) hc hg hm hv (Aa ha Ac hs pn xe hp) hs) λZ H R q=>?_;let#[F,G,U,P,PX,h1,hw,L,hx]:=q;show#[F,G,U,λrs O=>match rs with|[r]=>(zz (give r O) λp=>zz (items p.1.toD) λl=>P (bX 0 l) p.2)|_=>False,PX,h1,hw,λrs O vs F1 H1 i s1 r1 hl J=>?_,hx];match rs,vs,J,r1,i with
 |[r],[v],J,r1,i=>
  let#[#[s,I],eg,i]:=Ah i;let#[l,el,i]:=Ah i;let#[F2,s2,l2,r2]:=Al (U':=[]) (Z':=[]) r1 hl J.1 eg;let#[F3,s3,rp,Y]:=Rel.giveD (U:=I) (vs:=[v]) (ss:=[s]) r2 (l2.trans hl);let sm:=s1.trans (s2.trans s3);cases rp with
  |cons a0 b0=>
   let B:items s.toD=⇑l:=el;generalize s.toD=d at a0 B;cases a0 with
   |lst M r0=>cases B;show .inl #[_,rfl,#[_,bB.mono Y.fr M],L _ I F3 H1 _ i sm Y (GT (λ_ _ _ _ z=>z.1) (GK M r0))]
   |tup M r0=>cases B;show .inr (.inl #[_,rfl,#[_,Y.fr.at _ _ M],L _ I F3 H1 _ i sm Y (GT (λ_ _ _ _ z=>z.1) (Ke M r0))])
   |str M z0=>cases B;show .inr (.inr #[_,rfl,L _ I F3 H1 _ i sm Y (GT (λ_ _ _ _ z=>z.1) (Gh M))])
   |_=>cases B
 |[],_,_,_,i=>show i.elim
 |[_],[],J,_,_=>show J.elim
 |[_],_::_::_,J,_,_=>show J.2.elim
 |_::_::_,_,_,_,i=>show i.elim
end FL
namespace FL
open PySem PySem.Spec PyProof.Rows L2
structure mf(z TI TO i1 i2:Addr)(f1 f2:List Addr):Prop where
 a1:TI≠z
 a2:TO≠z
 a3:TI≠TO
 a4:TI≠i1
 a5:TI≠i2
 m1:i1∈f1
 m2:i2∈f2
 z1:z∉f1
 z2:z∉f2
 o1:TO∉f1
 o2:TO∉f2
 c1:i1∉f2
 c2:i2∉f1
section
variable{z TI TO i1 i2:Addr}
def AS{f:List Addr}(v:a∈f)(i:b∉f):a≠b:=λq=>i (q▸v)
def OG{Q:zu}(Zq:mf z TI TO i1 i2 f1 f2)(D1:Draws prog w A i1 f1 n1 P1 S1)(D2:Draws prog w A i2 f2 n2 P2 S2)
  (hz:IsZip s.heap z TI TO .none)(hI:IsPair s.heap TI (.ref i1) (.ref i2))(hO:IsPair s.heap TO a b)(t1:S1 J s.heap)(t2:S2 I s.heap)(l1:J<n1)(l2:I<n2)
  (k:∀x y h' tk,P1 J x->P2 I y->IsZip h' z TI TO (rawInt s.heap.objs.size)->(∃c d,IsPair h' TO c d)->S1 (J+1) h'->S2 (I+1) h'->IsPair h' s.heap.objs.size x y->
   (∀c o,c≠z->c≠TO->c≠i1->c≠i2->s.heap.get? c=⇑o->h'.get? c=⇑o)->Q (.ref s.heap.objs.size) {s with heap:=h',toks:=tk}):
  wpAny (model prog w) A (Builtin.«zip.__next__» #[[.ref z],[]]) (λhr s'=>∃v,hr=.done (.ret v)/\Q v s') E s:=by
 let hi:=AS Zq.m1 Zq.z1;let hx:=AS Zq.m2 Zq.z2;let hs:=AS Zq.m1 Zq.o1;let hp:=AS Zq.m2 Zq.o2;show wpAny _ _ (field (.ref z) 2>>=_) _ _ _;apply qa;show zj hz rfl (x:=.bool false) rfl ?_;apply qa;show zj hz rfl (x:=.ref TI) rfl ?_;apply qa;show wpAny_seqItems hI rfl ?_;apply qa;apply qa;show zj hz rfl (x:=.none) rfl (qb ?_);apply qa;apply wpAny_rule;apply qa;show zj hz rfl (x:=.ref TO) rfl ?_;apply qa;show zo hz (by simp) λha za sa=>?_;let h6:IsZip ha z TI TO .ellipsis:=za;apply qa;apply qa;apply qa;apply wpAny_onRaise;apply qa;let e4:S1 J ha:=D1.frame _ _ _ t1 λc L o q=>sa.extBut _ _ (AS L Zq.z1) q;let e1:S2 I ha:=D2.frame _ _ _ t2 λc L o q=>sa.extBut _ _ (AS L Zq.z2) q;show D1.item J _ _ _ l1 e4 λx hb tb px e3 sb=>qb ?_;let h4:IsPair hb TO a b:=sb.extBut _ _ (Ne.symm hs) (sa.extBut _ _ Zq.a2 hO);apply qa;show wpAny_seqItems h4 rfl ?_;apply qa;show wpAny_updateSeq_pair h4 λL hm sc=>?_;let h3:IsPair L TO x b:=hm;show qa (wpAny_letGo (qb ?_));apply qa;apply qa;apply wpAny_onRaise;apply qa;let h9:S2 I L:=D2.frame _ _ _ e1 λc i o q=>sc.extBut _ _ (AS i Zq.o2) (sb.extBut _ _ (AS i Zq.c1) q);show D2.item I _ _ _ l2 h9 λy hd td py h8 sd=>qb ?_;let h2:IsPair hd TO x b:=sd.extBut _ _ (Ne.symm hp) h3;apply qa;show wpAny_seqItems h2 rfl ?_;apply qa;show wpAny_updateSeq_pair h2 λB hl Y=>?_;let F:IsPair B TO x y:=hl;show qa (wpAny_letGo (qb (qb ?_)));apply qa;show wpAny_seqItems F rfl ?_;apply qa;show wpAny_newTuple ?_;let h1:B.objs.size=s.heap.objs.size:=by rw[Y.1,sd.1,sc.1,sb.1,sa.1]
 let ze:IsZip B z TI TO .ellipsis:=Y.extBut _ _ (Ne.symm Zq.a2) (sd.extBut _ _ (Ne.symm hx) (sc.extBut _ _ (Ne.symm Zq.a2) (sb.extBut _ _ (Ne.symm hi) h6)));let e2:S1 (J+1) B:=D1.frame _ _ _ e3 λc i o q=>Y.extBut _ _ (AS i Zq.o1) (sd.extBut _ _ (AS i Zq.c2) (sc.extBut _ _ (AS i Zq.o1) q));let h7:S2 (I+1) B:=D2.frame _ _ _ h8 λc i o q=>Y.extBut _ _ (AS i Zq.o2) q;let hk:∀c o,c≠z->c≠TO->c≠i1->c≠i2->s.heap.get? c=⇑o->B.get? c=⇑o:=λc o G q2 q3 q4 q=>Y.extBut _ _ q2 (sd.extBut _ _ q4 (sc.extBut _ _ q2 (sb.extBut _ _ q3 (sa.extBut _ _ G q))));let M:z<B.objs.size:=qe ze;apply qa;let zf:IsZip (B.push {cls:=.type "tuple",data:=.seq [x,y].toArray}) z TI TO .ellipsis:=qc _ ze;apply qa;show zo zf (by simp) λhg zg sg=>?_;let h5:IsZip hg z TI TO (rawInt B.objs.size):=zg;show zo h5 (by simp) λhh zh sh=>?_;let O:IsZip hh z TI TO (rawInt B.objs.size):=zh;let up:∀c o,c≠z->B.get? c=⇑o->hh.get? c=⇑o:=λc o G q=>sh.extBut _ _ G (sg.extBut _ _ G (qc _ q));let pT:IsPair hh B.objs.size x y:=sh.extBut _ _ (ne_of_gt M) (sg.extBut _ _ (ne_of_gt M) (qd _ rfl));rw[h1]at O pT;show qb #[_,rfl,?_];rw[h1];show k x y hh _ px py O #[_,_,up _ _ Zq.a2 F] (D1.frame _ _ _ e2 λc i o q=>up c o (AS i Zq.z1) q) (D2.frame _ _ _ h7 λc i o q=>up c o (AS i Zq.z2) q) pT λc o G q2 q3 q4 q=>up c o G (hk c o G q2 q3 q4 q)
def Rg(F:i1≠z)(hz:IsZip s.heap z TI TO .none)(hI:IsPair s.heap TI (.ref i1) (.ref i2))
  (d:∀i,Heap.SameBut z s.heap i->∀(Q:zu)(E:zu),(∀h' e,Heap.ExtBut i1 i h'->(∃o,h'.get? e=⇑o/\o.cls=.type "StopIteration")->E (.ref e) {s with heap:=h'})->wpAny (model prog w) A (Builtin.SmallTypes.nextOf (.ref i1)) Q E {s with heap:=i})
  (k:∀h' e,(∀c o,c≠z->c≠i1->s.heap.get? c=⇑o->h'.get? c=⇑o)->(∃o,h'.get? e=⇑o/\o.cls=.type "StopIteration")->E (.ref e) {s with heap:=h'}):
  wpAny (model prog w) A (Builtin.«zip.__next__» #[[.ref z],[]]) Q E s:=by
 show wpAny _ _ (field (.ref z) 2>>=_) _ _ _;apply qa;show zj hz rfl (x:=.bool false) rfl ?_;apply qa;show zj hz rfl (x:=.ref TI) rfl ?_;apply qa;show wpAny_seqItems hI rfl ?_;apply qa;apply qa;show zj hz rfl (x:=.none) rfl (qb ?_);apply qa;apply wpAny_rule;apply qa;show zj hz rfl (x:=.ref TO) rfl ?_;apply qa;show zo hz (by simp) λi Y L=>?_;let v:IsZip i z TI TO .ellipsis:=Y;apply qa;apply qa;apply qa;apply wpAny_onRaise;apply qa;show d i L _ _ λhb e I st=>?_;let#[oe,B,M]:=st;let G:IsZip hb z TI TO .ellipsis:=I _ _ (Ne.symm F) v;let ez:e≠z:=λq=>by subst q;rw[G]at B;cases B;simp at M
 show zo G (by simp) λhc _ J=>k hc e (λc o O c2 q=>J.extBut _ _ O (I _ _ c2 (L.extBut _ _ O q))) #[oe,J.extBut _ _ ez B,M]
def QB(D1:Draws prog w A i1 f1 n1 P1 S1)(m1:i1∈f1)(z1:z∉f1)(o1:TO∉f1)(B:TO≠z)(h1:i2≠z)
  (hz:IsZip s.heap z TI TO .none)(hI:IsPair s.heap TI (.ref i1) (.ref i2))(hO:IsPair s.heap TO a b)(t1:S1 Y s.heap)(l1:Y<n1)
  (d:∀i tk,(∀c o,c≠z->c≠TO->c≠i1->s.heap.get? c=⇑o->i.get? c=⇑o)->∀(Q:zu)(E:zu),(∀h' e,Heap.ExtBut i2 i h'->(∃o,h'.get? e=⇑o/\o.cls=.type "StopIteration")->E (.ref e) {s with heap:=h',toks:=tk})->wpAny (model prog w) A (Builtin.SmallTypes.nextOf (.ref i2)) Q E {s with heap:=i,toks:=tk})
  (k:∀h' e tk,(∀c o,c≠z->c≠TO->c≠i1->c≠i2->s.heap.get? c=⇑o->h'.get? c=⇑o)->(∃o,h'.get? e=⇑o/\o.cls=.type "StopIteration")->E (.ref e) {s with heap:=h',toks:=tk}):
  wpAny (model prog w) A (Builtin.«zip.__next__» #[[.ref z],[]]) Q E s:=by
 let h2:=AS m1 z1;let h3:=AS m1 o1;show wpAny _ _ (field (.ref z) 2>>=_) _ _ _;apply qa;show zj hz rfl (x:=.bool false) rfl ?_;apply qa;show zj hz rfl (x:=.ref TI) rfl ?_;apply qa;show wpAny_seqItems hI rfl ?_;apply qa;apply qa;show zj hz rfl (x:=.none) rfl (qb ?_);apply qa;apply wpAny_rule;apply qa;show zj hz rfl (x:=.ref TO) rfl ?_;apply qa;show zo hz (by simp) λha za G=>?_;let J:IsZip ha z TI TO .ellipsis:=za;apply qa;apply qa;apply qa;apply wpAny_onRaise;apply qa;let L:S1 Y ha:=D1.frame _ _ _ t1 λc i o q=>G.extBut _ _ (AS i z1) q;show D1.item Y _ _ _ l1 L λx hb tb px h4 F=>qb ?_;let v:IsPair hb TO a b:=F.extBut _ _ (Ne.symm h3) (G.extBut _ _ B hO);apply qa;show wpAny_seqItems v rfl ?_;apply qa;show wpAny_updateSeq_pair v λi h5 M=>?_;show qa (wpAny_letGo (qb ?_));apply qa;apply qa;apply wpAny_onRaise;apply qa;show d i tb (λc o I c2 c3 q=>M.extBut _ _ c2 (F.extBut _ _ c3 (G.extBut _ _ I q))) _ _ λhd e xd st=>?_;let#[oe,O,q2]:=st;let zd:IsZip hd z TI TO .ellipsis:=xd _ _ (Ne.symm h1) (M.extBut _ _ (Ne.symm B) (F.extBut _ _ (Ne.symm h2) J));let ez:e≠z:=λq=>by subst q;rw[zd]at O;cases O;simp at q2
 show zo zd (by simp) λhe _ se=>k he e tb (λc o I c2 c3 c4 q=>se.extBut _ _ I (xd _ _ c4 (M.extBut _ _ c2 (F.extBut _ _ c3 (G.extBut _ _ I q))))) #[oe,se.extBut _ _ ez O,q2]
end
def ki(J1 J2:It):It:=#[λi H=>J1.go i H/\J2.go i H,λi H x H'=>∃p B v,H p=none/\J1.yld i H B H/\J2.yld i H v H/\x=.ref p/\H'=upd H p (.tup [B,v]),λi H=>J1.stop i H\/(J1.go i H/\J2.stop i H)]
def Rv{P:Program}{w:World}{K:W.Frag}{J1 J2:It}{z TI TO i1 i2:Addr}{t1 t2:Nat->Heap->Prop}{elts:List Expr}{k:Nat}{pos:Pos}(S1:sE P w K J1 i1 t1)(S2:sE P w K J2 i2 t2)(nd:[z,TI,TO,i1,i2].Nodup):
  fT P w K (.Tuple elts k pos) (ki J1 J2) [z,TI,TO,i1,i2] z (λi h=>IsZip h z TI TO .none/\IsPair h TI (.ref i1) (.ref i2)/\(∃a b,IsPair h TO a b)/\t1 i h/\t2 i h) where
 mem:=m1
 obj:=λi h st b hb=>by
  let#[hz,hI,#[a,c,hO],q1,q2]:=st;simp at hb;rcases hb with rfl|rfl|rfl|rfl|rfl
  .show#[_,hz,λv z=>by cases z]
  .show#[_,hI,λv z=>by cases z]
  .show#[_,hO,λv z=>by cases z]
  .obtain⟨o,e1,e2,_⟩:=S1.live i h q1;show#[o,e1,e2]
  .obtain⟨o,e1,e2,_⟩:=S2.live i h q2;show#[o,e1,e2]
 keep:=λi h h' st kk=>by let#[hz,hI,#[a,c,hO],q1,q2]:=st;show#[kk _ (m1) _ hz,kk _ (m2) _ hI,#[a,c,kk _ (m3) _ hO],S1.keep i h h' q1 λo e=>kk _ (m4) o e,S2.keep i h h' q2 λo e=>kk _ (m5) o e]
 item:=by
  intro X hP hw hK hc i zU s Z H E I hf st hg;show cps λG kk=>?_;let#[hz,hI,#[a,c,hO],q1,q2]:=st;let hh:X.A.in1.handled=none:=I.ok.hd hc;let#[f1,n1,P1,T1,D1,u1,l1,m1,e1,v1,w1]:=S1.item X hP hw hK i zU s Z H X.A.in1 hh I q1 (hf i1 (m4)).1 hg.1;let#[f2,n2,P2,T2,D2,u2,l2,m2,e2,v2,w2]:=S2.item X hP hw hK i zU s Z H X.A.in1 hh I q2 (hf i2 (m5)).1 hg.2;let#[o1,g1,_,_,_,_,cl1]:=S1.live i _ q1;let#[o2,g2,_,_,_,_,cl2]:=S2.live i _ q2;simp only[qM,qB,not_mem_nil,or_false,not_or]at nd;let#[#[d1,d2,d3,d4],#[d5,d6,d7],#[d8,d9],d10,_]:=nd;let hn:∀b∈[z,TI,TO,i1,i2],H b=none:=λb hb=>(hf b hb).1;let out:∀{f:List Addr}{it b:Addr}{ob:Obj},(∀x∈f,x=it\/(H x≠none/\∃o,s.heap.get? x=⇑o/\o.cls=.type "tuple")\/∃o,s.heap.get? x=⇑o/\o.cls=.type "list")->b≠it->H b=none->s.heap.get? b=⇑ob->ob.cls≠.type "list"->b∉f:=λ{f it b ob} hf0 n1 n2 g n3 m=>by grind
  let zl:Value.type "zip"≠Value.type "list":=⋯
  let tl:Value.type "tuple"≠Value.type "list":=⋯
  let Zq:mf z TI TO i1 i2 f1 f2:=#[Ne.symm d1,Ne.symm d2,d5,d6,d7,m1,m2,out e1 d3 (hn z (by simp)) hz zl,out e2 d4 (hn z (by simp)) hz zl,out e1 d8 (hn TO (by simp)) hO tl,out e2 d9 (hn TO (by simp)) hO tl,out e2 d10 (hn i1 (by simp)) g1 cl1,out e1 (Ne.symm d10) (hn i2 (by simp)) g2 cl2]
  have lt:∀b∈[z,TI,TO,i1,i2],b<s.heap.objs.size:=λb hb=>by
   simp at hb;rcases hb with rfl|rfl|rfl|rfl|rfl
   .show qe hz
   .show qe hI
   .show qe hO
   .show qe g1
   .show qe g2
  let ty:s.TypeIs (.ref z) "zip":=#[_,hz,rfl]
  show kk ?_;apply qa;apply wpAny_attempt;show wpAny_callSpecial?_slot (name:=Str.ofString "__next__") ty F.slot_zip_next (zm F.slot_zip_next ty F.entry_zip_next (OG Zq D1 D2 hz hI hO u1 u2 l1 l2 λx y h1 tk px py hz1 hO1 t1' t2' hT hk=>?_) (F.args_zip_next_1 _));show qb #[_,rfl,?_];show cps λ_ kk=>?_;let#[y1,ry1,hy1]:=v1 x px;let#[y2,ry2,hy2]:=v2 y py;show kk ?_;show wpAny_letOwnedTupleGo_zip hz1 λh2 hz2 sb=>?_;let nT:s.heap.objs.size≠z:=ne_of_gt (qe hz);let I2:Inv X zU Z (upd H s.heap.objs.size (.tup [y1,y2])) {s with heap:=h2,toks:=tk}:=He I (ch:=[z,TI,TO,i1,i2]) (us:=[x,y]) hf lt (by show 2<=_;decide) (.cons ry1 (.cons ry2 .nil)) #[_,sb.extBut _ _ nT hT,rfl,rfl,_,rfl] λb o hb q=>by simp at hb;show sb.extBut _ _ hb.1 (hk b o hb.1 hb.2.2.1 hb.2.2.2.1 hb.2.2.2.2 q)
  let#[ca,cb,hO1]:=hO1;show#[.ref s.heap.objs.size,_,I2,rfl,#[s.heap.objs.size,y1,y2,I.hok.fresh (zb _),hy1,hy2,rfl,rfl],#[hz2,sb.extBut _ _ (Ne.symm d1) (hk _ _ (Ne.symm d1) d5 d6 d7 hI),#[_,_,sb.extBut _ _ (Ne.symm d2) hO1],S1.keep _ _ _ (w1 _ t1') λo q=>sb.extBut _ _ (Ne.symm d3) q,S2.keep _ _ _ (w2 _ t2') λo q=>sb.extBut _ _ (Ne.symm d4) q],λb hb=>?_];grind[Ae,ne_of_lt]
 done:=by
  intro X hP hw hK hc i zU s Z H E I hf st hg;show cps λG kk=>?_;let#[hz,hI,#[a,c,hO],q1,q2]:=st;let hh:X.A.in1.handled=none:=I.ok.hd hc;simp only[qM,qB,not_mem_nil,or_false,not_or]at nd;let#[#[d1,d2,d3,d4],#[d5,d6,d7],#[d8,d9],d10,_]:=nd;let ty:s.TypeIs (.ref z) "zip":=#[_,hz,rfl]
  let stop:∀(h':Heap)(e:Addr)(tk:Nat),(∀b o,b≠z->b≠TO->b≠i1->b≠i2->s.heap.get? b=⇑o->h'.get? b=⇑o)->Inv X zU Z H {s with heap:=h',toks:=tk}:=λh' e tk hk=>Dc I (ch:=[z,TI,TO,i1,i2]) hf λb o hb q=>by grind
  show kk ?_;apply qa;apply wpAny_attempt;rcases hg with hg|⟨hg1,hg2⟩
  .refine wpAny_callSpecial?_slot (name:=Str.ofString "__next__") ty F.slot_zip_next (zm F.slot_zip_next ty F.entry_zip_next (Rg (Ne.symm d3) hz hI (λha sa=>?_) λh' e hk st=>?_) (F.args_zip_next_1 _))
   .let Ia:Inv X zU Z H {s with heap:=ha}:=Dc I (t':=s.toks) (ch:=[z]) (λb hb=>hf b (by simp at hb;simp[hb])) λb o hb q=>sa.extBut _ _ ↑hb q;show S1.done X hP hw hK i zU {s with heap:=ha} Z H X.A.in1 hh Ia (S1.keep _ _ _ q1 λo q=>sa.extBut _ _ (Ne.symm d3) q) hg
   .obtain⟨o,r1,r2⟩:=st;show qa (wpAny_isInstance (T:="StopIteration") (b:=true) #[o,r1,r2] isSubtype_stop (qb #[rfl,stop h' e s.toks λb o c1 c2 c3 c4 q=>hk b o c1 c3 q]))
  .obtain⟨f1,n1,P1,T1,D1,u1,l1,m1,e1,v1,w1⟩:=S1.item X hP hw hK i zU s Z H X.A.in1 hh I q1 (hf i1 (m4)).1 hg1;let hn:∀b∈[z,TI,TO,i1,i2],H b=none:=λb hb=>(hf b hb).1;let out:∀{f:List Addr}{it b:Addr}{ob:Obj},(∀x∈f,x=it\/(H x≠none/\∃o,s.heap.get? x=⇑o/\o.cls=.type "tuple")\/∃o,s.heap.get? x=⇑o/\o.cls=.type "list")->b≠it->H b=none->s.heap.get? b=⇑ob->ob.cls≠.type "list"->b∉f:=λ{f it b ob} hf0 n1 n2 g n3 m=>by grind
   let zl:Value.type "zip"≠Value.type "list":=⋯
   let tl:Value.type "tuple"≠Value.type "list":=⋯
   subst hP hw;show wpAny_callSpecial?_slot (name:=Str.ofString "__next__") ty F.slot_zip_next (zm F.slot_zip_next ty F.entry_zip_next (QB D1 m1 (out e1 d3 (hn z (by simp)) hz zl) (out e1 d8 (hn TO (by simp)) hO tl) (Ne.symm d2) (Ne.symm d4) hz hI hO u1 l1 (λhc2 tk sa=>?_) λh' e tk hk st=>?_) (F.args_zip_next_1 _))
   .let Ia:Inv X zU Z H {s with heap:=hc2,toks:=tk}:=Dc I (ch:=[z,TO,i1]) (λb hb=>hf b (by simp at hb;rcases hb with q|q|q<;>simp[q])) λb o hb q=>by grind
    show S2.done X rfl rfl hK i zU {s with heap:=hc2,toks:=tk} Z H X.A.in1 hh Ia (S2.keep _ _ _ q2 λo q=>sa _ _ (Ne.symm d4) (Ne.symm d9) (Ne.symm d10) q) hg2
   .obtain⟨o,r1,r2⟩:=st;show qa (wpAny_isInstance (T:="StopIteration") (b:=true) #[o,r1,r2] isSubtype_stop (qb #[rfl,stop h' e tk hk]))
 self:=λA i s Q E st h=>wpAny_pyIter_zip st.1 h
def nL(v:Value)(o:Obj)(s:Shared):Prop:=∀(prog:Program)(w:World)(A:Around)(Q:zu)(E:zu),Q (.ref s.heap.objs.size) {s with heap:=s.heap.push o}->wpAny (model prog w) A (pyIter v) Q E s
abbrev zA(h:Heap)(i:Obj):Heap:=h.push i
abbrev zB(h:Heap)(v i:Obj):Heap:=(zA h v).push i
abbrev zC(h:Heap)(i v:Obj):Heap:=(zB h i v).push {cls:=.type "tuple",data:=.seq [.ref h.objs.size,.ref (zA h i).objs.size].toArray}
abbrev zD(h:Heap)(v i:Obj):Heap:=(zC h v i).push {cls:=.type "tuple",data:=.seq [.none,.none].toArray}
abbrev zE(h:Heap)(v i:Obj):Heap:=(zD h v i).push {cls:=.type "zip",data:=.fields [.none,.bool false,.bool false,.ref (zB h v i).objs.size,.ref (zC h v i).objs.size].toArray}
def Px(J I:Value)(i v:Obj):Meets (Builtin.«zip.__new__» #[[.type "zip",J,I],[]]) (λ_ R s=>nL J i s/\nL I v {s with heap:=zA s.heap i}/\R (.ok (.ret (.ref (zD s.heap i v).objs.size))) {s with heap:=zE s.heap i v}):=
 .of_wp λprog w A R s G=>by
  let#[hp,g,d,tk,os]:=s;let#[M,L,O]:=G;let Y:=sub_zip;let F:=λ(A:Around)(Q:zu)(E:zu)=>M prog w A Q E;let B:=λ(A:Around)(Q:zu)(E:zu)=>L prog w A Q E
  wp_walk using F,B
  show#[_,rfl,O]
def Dj(m1:nL O i s)(m2:nL M v {s with heap:=zA s.heap i})(f1:i.isFreed=false)(f2:v.isFreed=false)
  (k:∀h',IsZip h' (s.heap.objs.size+4) (s.heap.objs.size+2) (s.heap.objs.size+3) .none->IsPair h' (s.heap.objs.size+2) (.ref s.heap.objs.size) (.ref (s.heap.objs.size+1))->IsPair h' (s.heap.objs.size+3) .none .none->
   h'.get? s.heap.objs.size=⇑i->h'.get? (s.heap.objs.size+1)=⇑v->(∀c o,s.heap.get? c=⇑o->h'.get? c=⇑o)->Q (.ref (s.heap.objs.size+4)) {s with heap:=h'}):
  wpAny (model prog w) A (call (.type "zip") [O,M]) Q E s:=by
 show callType_new F.called_zip ⋯ (F.typeCall_zip_2 _ _) (F.newCall_zip_2 _ _) (λJ=>F.args_object_init_3 J _ _) F.entry_zip_new (Px O M i v) #[m1,m2,?_];let I:(zA s.heap i).objs.size=s.heap.objs.size+1:=Heap.size_push ..;let G:(zB s.heap i v).objs.size=s.heap.objs.size+2:=by rw[Heap.size_push,I]
 let B:(zC s.heap i v).objs.size=s.heap.objs.size+3:=by rw[Heap.size_push,G]
 let Y:(zD s.heap i v).objs.size=s.heap.objs.size+4:=by rw[Heap.size_push,B]
 let L:(zE s.heap i v).get? (zD s.heap i v).objs.size=⇑_:=qd _ rfl;let g4:(zE s.heap i v).get? (zC s.heap i v).objs.size=⇑_:=qc _ (qd _ rfl);let g3:(zE s.heap i v).get? (zB s.heap i v).objs.size=⇑_:=qc _ (qc _ (qd _ rfl));let g2:(zE s.heap i v).get? (zA s.heap i).objs.size=⇑v:=qc _ (qc _ (qc _ (qd _ f2)));let g1:(zE s.heap i v).get? s.heap.objs.size=⇑i:=qc _ (qc _ (qc _ (qc _ (qd _ f1))));rw[G,B,Y]at L;rw[I,G]at g3;rw[B]at g4;rw[I]at g2;rw[Y];show#[#[_,L,rfl],k _ L g3 g4 g1 g2 λc o x=>qc _ (qc _ (qc _ (qc _ (qc _ x))))]
def rK(X:Cx)(H:Hp)(v:V)(J:It):Prop:=(∃a xs,v=.ref a/\bB X.K H a xs/\J=xN X.K a)\/(∃a xs,v=.ref a/\H a=⇑(.tup xs)/\J=dr a)\/∃x,v=.str x/\J=xA x
def Jj(I:Inv X zU Z H s)(r:zJ v u)(h:rK X H v J):
  ∃o:Obj,nL u o s/\o.isFreed=false/\∀it,∃G,sE X.prog X.w X.K J it G/\∀h':Heap,h'.get? it=⇑o->G 0 h':=by
 rcases h with⟨a,xs,rfl,F,rfl⟩|⟨a,xs,rfl,F,rfl⟩|⟨x,rfl,rfl⟩
 .cases r;let#[B,L,i,M]:=I.list F;show#[{cls:=.type "list_iterator",data:=.fields [.ref a,.int 0 0].toArray},λprog w A Q E k=>wpAny_pyIter_list i.isList k,rfl,λit=>#[_,JW a it,λh' e=>#[_,e,rfl,rfl]]]
 .cases r;let#[B,L,i,M]:=I.tuple (aZ.of F);show#[{cls:=.type "tuple_iterator",data:=.fields [.ref a,.int 0 0].toArray},λprog w A Q E k=>wpAny_pyIter_tuple i k,rfl,λit=>#[_,IV a it,λh' e=>#[_,e,rfl,rfl]]]
 .obtain⟨t,rfl⟩:=r;show#[{cls:=.type (strIterType x),data:=.fields [.str x t,.int 0 0].toArray},λprog w A Q E k=>wpAny_pyIter_strU k,rfl,λit=>#[_,Jr it x t,λh' e=>#[_,e,rfl,rfl]]]
def jt(X:Cx)(F:TA):TI:=λZ H R=>F Z H λB H1=>∃v i J1 J2,B=[v,i]/\rK X H1 v J1/\rK X H1 i J2/\R (ki J1 J2) H1
def Nc(hc:X.calm=true)(hg:Gl X "zip")(hm:X.mg "zip"=none)(hv:bootBuiltins "zip"=⇑(.type "zip"))(hl:PA X [a,b] M)
  (hs:autoParam (starEach [a,b] X.env=[(false,eval a X.env),(false,eval b X.env)]) rZ9)(B:autoParam (starEach [b] X.env=[(false,eval b X.env)]) rZ9):PI X (.Tuple elts kk tpos) (.Call (.Name "zip" p) [a,b] [] pos) (jt X M):=by
 intro zU s Z H R I h;show wpAny_Call_Name_kw (BD I hg hm hv ?_ ⋯ ⋯);show PyProof.Rows.callWith_type1 (Ai (hl pos zU s Z H _ I h) λus i L=>?_) (by rw[hs,B]) (by rw[B];rfl);let#[vs,H1,v,r1,q1]:=L;let#[v1,v2,J1,J2,rfl,k1,k2,q]:=q1;cases r1 with
 |cons Y G=>
  cases G with
  |cons G O=>
   cases O;let#[o1,m1,f1,g1]:=Jj v Y k1;let I2:Inv X zU Z H1 {i with heap:=zA i.heap o1}:=v.kept (t':=i.toks) λ_ _ e=>qc _ e;let#[o2,m2,f2,g2]:=Jj I2 G k2;show Dj m1 m2 f1 f2 λh' J hI hO e1 e2 kp=>?_;let#[t1,S1,b1]:=g1 i.heap.objs.size;let#[t2,S2,b2]:=g2 (i.heap.objs.size+1);show wpAny_pyIter_zip (s:={i with heap:=h'}) J ?_;let lt:∀k:Nat,i.heap.objs.size<=i.heap.objs.size+k:=λk=>Nat.le_add_right _ _;show#[i.heap.objs.size+4,[i.heap.objs.size+4,i.heap.objs.size+2,i.heap.objs.size+3,i.heap.objs.size,i.heap.objs.size+1],_,_,H1,rfl,v.kept (t':=i.toks) kp,Rv S1 S2 ?_,#[J,hI,#[_,_,hO],b1 h' e1,b2 h' e2],λc F=>?_,q]
   .simp
   .simp at F;rcases F with rfl|rfl|rfl|rfl|rfl
    .show v.fpOk (lt 4) (v.hok.fresh (lt 4))
    .show v.fpOk (lt 2) (v.hok.fresh (lt 2))
    .show v.fpOk (lt 3) (v.hok.fresh (lt 3))
    .show v.fpOk (lt 0) (v.hok.fresh (lt 0))
    .show v.fpOk (lt 1) (v.hok.fresh (lt 1))
def PC{K:W.Frag}(h1:dC K J1 l F0)(h2:dC K J2 m F0):dC K (ki J1 J2) (bJ l m) F0:=λi U Z F G H J v=>by
 let#[p1,p2]:=h1 i U Z F G H J v;let#[q1,q2]:=h2 i U Z F G H J v;show#[λd hd=>?_,λhl=>?_]
 .obtain⟨e,f,he,hf,rfl⟩:=Gz l m i d hd;let#[g1,g2]:=p1 e he;let#[g3,g4]:=q1 f hf;show#[#[g1,g3],λx H' zq=>?_];show cps λ_ kk=>?_;let#[p,I,B,hp,Y,O,ex,eH]:=zq;subst ex eH;let#[F1,s1,r1,M]:=g2 I H Y;let#[F2,s2,r2,L]:=(h2 i U Z F1 G H (J.trans s1) r1).1 f hf|>.2 B H O;let#[f0,_,_]:=r2.free hp;show kk ?_;show⟨upd F2 p (.tup [I,B]),(s1.trans s2).trans (zF.upd f0),r2.newF hp,.tup (xs:=[I,B]) Aw (.cons ((M.mono s2).mono (zF.upd f0)) (.cons (L.mono (zF.upd f0)) .nil))⟩
 .rw[Gw]at hl;by_cases h:l.length<=i
  .show .inl (p2 h)
  .let h3:i<l.length:=by lia
   show .inr #[(p1 l[i] (qi h3)).1,q2 ∅]
def Mu:bootBuiltins "zip"=⇑(.type "zip"):=by decide+kernel
def Ja(G:zF F H)(r:aI X.K F v d)(e:items d=⇑l):∃J,rK (wp X pn xe) H v J/\dC X.K J l F:=by
 cases r with
 |lst i B=>cases e;show#[_,.inl #[_,_,rfl,bB.mono G i,rfl],GK i B]
 |tup i B=>cases e;show#[_,.inr (.inl #[_,_,rfl,G.at _ _ i,rfl]),Ke i B]
 |str i I=>cases e;show#[_,.inr (.inr #[_,rfl,rfl]),Gh i]
 |_=>cases e
def MH(hc:X.calm=true)(hg:Gl X "zip")(hm:X.mg "zip"=none)(hv:bootBuiltins "zip"=⇑(.type "zip"))(ha:FE X a wa)(hb:FE X b wb)(hs:autoParam (starEach [a,b] X.env=[(false,eval a X.env),(false,eval b X.env)]) rZ9)(M:autoParam (starEach [b] X.env=[(false,eval b X.env)]) rZ9):
  FI X (.Tuple elts kk tpos) (.Call (.Name "zip" p) [a,b] [] pos) (sP wa wb):=λpn xe hp=>by
 show PI.imp (Nc (X:=wp X pn xe) hc hg hm hv (Aa ha (Aa hb Ac M) (by rw[hs,M]) pn xe hp) hs M) λZ H R q=>?_;let#[F,G,U,P,PX,h1,hw,h2,hx]:=q;show#[F,G,U,λrs i=>match rs with|[r,t]=>(zz (give r i) λp=>zz (give t p.2) λq=>zz (items p.1.toD) λl=>zz (items q.1.toD) λm=>P (bJ l m) q.2)|_=>False,PX,h1,hw,λrs i vs F1 H1 B s1 r1 hl L=>?_,hx];match rs,vs,L,r1,B with
 |[r,t],[v,u],L,r1,B=>
  dsimp only at B;show cps λ_ kk=>?_;let#[#[s,J],eg,B]:=Ah B;let#[#[s',I],h3,B]:=Ah B;let#[l,el,B]:=Ah B;let#[m,em,B]:=Ah B;obtain⟨O,Y,ss,e3,l3,r3⟩:∃O,zF F1 O/\∃ss,ss=[s,s']/\I.length=i.length/\Rel X.K (I++ss.map some) (Z++[v,u].map some) O G H1:=by
   let e:aK [r,t] i=⇑([s,s'],I):=by show(match give r i with|some (s,i)=>(match aK [t] i with|some (ss,J)=>⇑(s::ss,J)|none=>none)|none=>none)=_;rw[eg];show(match(match give t J with|some (s,i)=>⇑([s],i)|none=>none)with|some (ss,J)=>⇑(s::ss,J)|none=>none)=_;rw[h3]
   let#[O,Y,l2,z,r2]:=EN (rs:=[r,t]) (vs:=[v,u]) (U':=[]) (Z':=[]) r1 hl L e;show#[O,Y,_,rfl,l2,↑r2]
  subst e3;let#[F3,s3,rp,r4]:=Rel.giveD (U:=I) (vs:=[v,u]) (ss:=[s,s']) r3 (l3.trans hl);show kk ?_;let sm:=s1.trans (Y.trans s3);cases rp with
  |cons a0 b0=>
   cases b0 with
   |cons b0 n0=>let#[J1,k1,i1]:=Ja (pn:=pn) (xe:=xe) r4.fr a0 el;let#[J2,k2,i2]:=Ja (pn:=pn) (xe:=xe) r4.fr b0 em;show#[v,u,J1,J2,rfl,k1,k2,h2 _ I F3 H1 _ B sm r4 (PC i1 i2)]
 |[],_,_,_,B=>show B.elim
 |[_],_,_,_,B=>show B.elim
 |[_,_],[],L,_,_=>show L.elim
 |[_,_],[_],L,_,_=>show L.2.elim
 |[_,_],_::_::_::_,L,_,_=>show L.2.2.elim
 |_::_::_::_,_,_,_,B=>show B.elim
def Sh(i:bQ k A):A.mark none=A:=by first|rfl|assumption|(simp_all;done)
end FL
namespace FL
open Classical in
def hW(ks:List D)(k:D):Option Nat:=ks.findIdx? λx=>↥(x=k)
def aV(t:Bool)(ks:List D)(l:List S)(k:D)(s:S):S:=match hW ks k with
 |some i=>.dct t ks (l.set i s)
 |none=>.dct t (ks++[k]) (l++[s])
def kL:Option S->Prop
 |some (.dct false _ _)=>True
 |_=>False
def fZ(j:Nat)(i e:WE):WS:=λD U=>e U (λr F=>zv j F (λx B=>i B (λy v=>zz (view y v) λq=>zz (give r v) λp=>match x,slot p.2 j with
 |.loc k,some (.dct t ks l)=>k=j/\bN t q=true/\ks.Nodup/\ks.length<big/\D.nx (p.2.set j ⇑(aV t ks l q p.1))
 |_,_=>False) D.ex) D.ex) D.ex
end FL
namespace FL
open PySem PySem.Spec PyProof.Rows L2
def Iz:FE X (.Dict [] [] pos) (gA false):=λpn xe B=>by show PE.imp Qx λZ H Q q=>?_;let#[F,G,U,P,PX,i,I,v,J]:=q;intro p B;let:=Rel.newO (s:=.dct false [] []) i B (.dK (zV:=[]) Aw rfl .nil);show v _ U _ F _ I (zF.refl F) this trivial
def EC(h:hW ks k=⇑i):ks[i]?=⇑k:=by unfold hW at h;rw[List.findIdx?_eq_some_iff_getElem]at h;let#[hi,h1,_]:=h;rw[qi hi];congr 1;simpa using h1
def QU(h:hW ks k=none):k∉ks:=by unfold hW at h;grind
section
variable{κ:Type}[DecidableEq κ]{kd:κ->D}(inj:∀a b,kd a=kd b->a=b)
include inj
def QS{zV:List (κ×V)}{k:κ}{v:V}{i:Nat}(hn:(zV.map λp=>kd p.1).Nodup)(h:(zV.map λp=>kd p.1)[i]?=⇑(kd k)):cA zV k v=zV.set i (k,v):=by
 let hi:i<zV.length:=by let:=(qh.mp h).1;simpa using this
 let I:zV[i].1=k:=by rw[qG,qi hi]at h;show inj _ _ (qg h)
 let B:(zV.any λJ=>↥(J.1=k))=true:=List.any_eq_true.mpr #[zV[i],getElem_mem hi,by simp[I]];unfold cA;rw[q8 B];apply ext_getElem?;intro j;rw[qG,getElem?_set];by_cases G:i=j
 .subst G;rw[qi hi];simp[I];show hi
 .rw[q9 G];cases q:zV[j]? with
  |none=>rfl
  |some p=>
   have F:¬p.1=k:=λz=>by
    apply G;let h2:(zV.map λp=>kd p.1)[j]?=⇑(kd k):=by rw[qG,q,<-z];rfl
    show(List.getElem?_inj ↑hi hn).mp (h.trans h2.symm)
   simp[F]
omit inj in
def PZ{zV:List (κ×V)}{k:κ}{v:V}(h:kd k∉zV.map λp=>kd p.1):cA zV k v=zV++[(k,v)]:=by unfold cA;grind
def IR{zV:List (κ×V)}{k:κ}{v:V}{ks:List D}(B:ks=zV.map λp=>kd p.1)(hn:ks.Nodup):
  (∀m,hW ks (kd k)=⇑m->ks=(cA zV k v).map (λp=>kd p.1)/\(zV.map (·.2)).set m v=(cA zV k v).map (·.2))/\(hW ks (kd k)=none->ks++[kd k]=(cA zV k v).map (λp=>kd p.1)/\zV.map (·.2)++[v]=(cA zV k v).map (·.2)):=by
 subst B;show#[λm i=>?_,λi=>?_]
 .let h:=EC i;rw[QS inj hn h,map_set,map_set];show#[?_,rfl];apply ext_getElem?;intro j;rw[getElem?_set];by_cases F:m=j
  .subst F;rw[q8 rfl,q8 (qh.mp h).1,h]
  .rw[q9 F]
 .rw[PZ (QU i),map_append,map_append];show#[rfl,rfl]
end
inductive lB(ks:List D)(xs:List V):Bool->HO->Prop
 |k {zV:List (bD×V)}:ks=zV.map (λp=>aH p.1)->xs=zV.map (·.2)->lB ks xs false (.dK zV)
 |t {zV:List (List bD×V)}:ks=zV.map (λp=>D.tup (p.1.map aH))->xs=zV.map (·.2)->lB ks xs true (.dT zV)
section
variable{K:W.Frag}
def CT(r:aF K F H v (.dct t ks l) fp):∃a o xs i,v=.ref a/\fp=a::i/\H a=⇑o/\lB ks xs t o/\zI K F H xs l i:=by
 cases r with
 |dK e q r=>show#[_,_,_,_,rfl,rfl,e,.k q rfl,r]
 |dT e q r=>show#[_,_,_,_,rfl,rfl,e,.t q rfl,r]
def lB.mk{a:Addr}{o:HO}{t:Bool}{ks:List D}{xs:List V}{l:List S}{i:List Addr}(d:lB ks xs t o)(e:H a=⇑o)(r:zI K F H xs l i):aF K F H (.ref a) (.dct t ks l) (a::i):=by
 cases d with
 |k q z=>subst z;show .dK e q r
 |t q z=>subst z;show .dT e q r
def lB.len{o:HO}{t:Bool}{ks:List D}{xs:List V}(d:lB ks xs t o):ks.length=xs.length:=by
 cases d with
 |k q z=>subst z;subst q;simp
 |t q z=>subst z;subst q;simp
def lB.put{a:Addr}{o:HO}{t:Bool}{ks:List D}{xs:List V}{y v:V}{q:D}(d:lB ks xs t o)(e:H a=⇑o)(r:aI K H y q)(M:bN t q=true)(hn:ks.Nodup)(L:ks.length<sizeLine):
  ∃o',nO H a y v (upd H a o')/\(∀m,hW ks q=⇑m->lB ks (xs.set m v) t o')/\(hW ks q=none->lB (ks++[q]) (xs++[v]) t o'):=by
 cases d with
 |@k F h1 h2=>subst h2;let#[J,rfl,rfl]:=CP r M;let#[I,G]:=IR (λ_ _=>CC) (k:=J) (v:=v) h1 hn;show#[_,.inl #[F,J,e,rfl,by rw[h1,qp]at L;show L,rfl],λm i=>.k (I m i).1 (I m i).2,λi=>.k (G i).1 (G i).2]
 |@t F h1 h2=>
  subst h2;cases r with
  |tup O q=>let#[B,rfl,rfl]:=FQ q M;let#[I,G]:=IR (kd:=λl:List bD=>D.tup (l.map aH)) (λa b z=>Fb (D.tup.inj z)) (k:=B) (v:=v) h1 hn;show#[_,.inr #[F,B,_,e,rfl,O,by rw[h1,qp]at L;show L,rfl],λm i=>.t (I m i).1 (I m i).2,λi=>.t (G i).1 (G i).2]
  |_=>cases M
def Rel.dct{D:Addr}(r:Rel K (U++[⇑s]) (Z++[⇑v]) F G H)(hs:slot U n=⇑(.dct t ks l))(J:Z[n]?=⇑⇑(.ref D))(hD:H D=⇑o)(ho:lB ks xs t o)(h6:lB ks' xs' t o')
  (h7:∀(H':Hp)(O fs:List Addr),zI K F H' xs l O->aF K F H' v s fs->∃i rest,zI K F H' xs' l' i/\(i++rest).Perm (O++fs)):
  Rel K (U.set n ⇑(.dct t ks' l')) Z F G (upd H D o'):=by
 let hl:=Ad r;let#[fp,e,nd,ap]:=r.en;let#[f1,f2,rfl,a,b]:=e.cut hl;let#[v',fa,fi,Y,e1,rfl,q,up]:=a.at hs;rw[J]at e1;let e2:V.ref D=v':=↑e1
 subst e2;let#[a',o2,h2,O,z1,rfl,M,L,rl]:=CT q;cases z1;rw[hD]at M;cases M;let ex:h2=xs:=by
  cases ho with
  |k _ z=>cases L with|k _ z'=>rw[z,z']
  |t _ z=>cases L with|t _ z'=>rw[z,z']
 subst ex;cases b with
 |so sr nl=>
  cases nl;rename_i fs;let#[n1,n2,h5]:=qx.mp nd;let#[na,B,h4]:=qx.mp n1;let#[ni,nb,B]:=qx.mp B;let#[nD,e4]:=qM.mp ni;let e3:D∉fa:=λz=>h4 D z D (qk _ qo) rfl;let h9:D∉Y:=λz=>B D qo D z rfl;let h8:D∉fs:=λz=>h5 D (qj _ (qk _ qo)) D ↑z rfl;let h1:=ap D (qk _ (qj _ (qk _ qo)));let ne:∀{l:List Addr},D∉l->∀x∈l,upd H D o' x=H x:=λh x I=>Ae λz=>h (z▸I);let#[i,rest,h3,pm]:=h7 (upd H D o') O fs (rl.mono (zF.refl F) (ne nD)) (sr.mono (zF.refl F) (ne h8));let a2:=up (F':=F) (H':=upd H D o') (o:=⇑(.dct t ks' l')) (u:=⇑(.ref D)) (zF.refl F) (λx I=>Ae λz=>(qy.mp I).elim (λw=>e3 (z▸w)) λw=>h9 (z▸w)) (.so (h6.mk Aw h3) .nil);rw[DB J]at a2;let p:(fa++((D::(i++rest))++[]++Y)).Perm (fa++((D::O)++Y)++(fs++[])):=by show(List.Perm.append_left _ (List.Perm.append_right _ (List.Perm.append_right _ (List.Perm.cons _ pm)))).trans ?_;simp;show List.Perm.append_left _ (List.Perm.cons _ (List.Perm.append_left _ qO))
  let sb:List.Sublist (fa++((D::i)++[]++Y)) (fa++((D::(i++rest))++[]++Y)):=by simp only[qq,qP];show List.Sublist.append (List.Sublist.refl _) (List.Sublist.cons_cons _ (List.Sublist.append (List.Sublist.refl _) (List.sublist_append_right _ _)))
  show#[zF.updR r.fr h1.1,λx o w=>?_,_,a2,sb.nodup (p.nodup_iff.mpr nd),λx I=>ap x (p.mem_iff.mp (sb.subset I))];let I:x≠D:=λz=>by rw[z,h1.2]at w;cases w
  rw[Ae I];show r.gr x o w
def Rel.dput{D:Addr}(r:Rel K (U++[⇑s]) (Z++[⇑v]) F G H)(M:slot U n=⇑(.dct t ks l))(i:Z[n]?=⇑⇑(.ref D))(ry:aI K H y q)(hk:bN t q=true)(hn:ks.Nodup)(hb:ks.length<big):
  ∃H',nO H D y v H'/\Rel K (U.set n ⇑(aV t ks l q s)) Z F G H':=by
 show cps λ_ kk=>?_;let#[v',fp,e1,B]:=(r.drop (Ad r)).at M;rw[i]at e1;let e2:V.ref D=v':=↑e1
 subst e2;let#[a',o,xs,fl,z1,_,Y,J,rl]:=CT B;cases z1;let h3:=J.len;let h4:=rl.len;let#[o',dp,h1,h2]:=J.put (v:=v) Y ry hk hn (by rw[zn];show lt_trans hb ⋯);show kk ?_;show#[_,dp,?_];cases I:hW ks q with
 |some m=>
  let ed:aV t ks l q s=.dct t ks (l.set m s):=by unfold aV;rw[I]
  rw[ed];let O:m<l.length:=by let:=(qh.mp (EC I)).1;lia
  show r.dct M i Y J (h1 m I) λH' fl fs rl B=>?_;let#[ga,gi,gb,rfl,L]:=rl.set O;show#[_,gi,L (λ_ _=>rfl) B,?_];simp;show List.Perm.append_left _ ((List.Perm.append_left _ qO).trans (qO.trans (by simp)))
 |none=>
  let ed:aV t ks l q s=.dct t (ks++[q]) (l++[s]):=by unfold aV;rw[I]
  rw[ed];show r.dct M i Y J (h2 I) λH' fl fs rl B=>#[fl++fs,[],zI.snoc rl B,by simp]
end
def EA(hu:X.A.units+1<cLine)(ho:FE X o (zv j))(hi:FE X i wi)(he:FE X e we)(hs:autoParam (swapsWith e ⇑(.Subscript o i tpos) pos.line X.env=pure false) rZ9):FS X ks (.Assign [.Subscript o i tpos] e pos) (fZ j wi we):=λpn xe hp=>by
 show PS.imp (IE (X:=wp X pn xe) hu (ho pn xe hp) (hi pn xe hp) (he pn xe hp) hs) λD Z H q=>?_;let#[F,G,U,E,h7,hw,n,b,c,r,x]:=q;let x0:XC (wp X pn xe) (·=Z) F G E.ex:=x.mono (λe4 z=>by rw[z];show KP.refl) (zF.refl F) (eT.refl G);show#[F,G,U,_,_,h7,hw,λr h4 v F1 H1 hk s1 r1 rv=>?_,x0];let l1:=Ad r1;let#[G1,h1,gg,back]:=r1.hide l1;show#[F1,G1,h4,_,_,h1,hk,λy h3 o' F2 H2 h9 s2 r2 h6=>?_,x0.mono (λ_ z=>z) s1 gg];let l2:=Ad r2;let#[G2,Y,e3,O]:=r2.hide l2;show#[F2,G2,h3,_,_,Y,h9,λz I i' F3 H3 M s3 r3 h5=>?_,x0.mono (λ_ z=>z) (s1.trans s2) (gg.trans e3)];let l3:=Ad r3;let#[q,eq,M]:=Ah M;let#[#[t,h2],eg,B]:=Ah M;let r4:=back (s2.trans s3) (O s3 r3);simp at r4;let ri:=look (U':=[zG y,zG r]) (Z':=[⇑o',⇑v]) r4 l3 h5 eq;let r5:Rel X.K (I++[zG r]) (Z++[⇑v]) F3 G H3:=Rel.mid (U:=I) (Z:=Z) (Rel.mid (U:=I) (Z:=Z) r4 l3) l3;let#[F4,s4,l4,r6]:=Al (U':=[]) (Z':=[]) r5 l3 rv eg;cases y with
 |v y0=>show B.elim
 |loc k=>
  cases J:slot h2 j with
  |none=>simp[J]at B
  |some sj=>
   rw[J]at B;match sj,J,B with
   |.dct t kk l,J,⟨ekj,hkey,hnd,hbig,hnx⟩=>
    subst ekj;let L:Z[k]?=⇑⇑o':=h6;let#[v',fp,e1,sr]:=r6.at (i:=k) (s:=.dct t kk l) (by rw[CU (BY J)];show J);let h8:k<Z.length:=(qh.mp L).1;rw[getElem?_append_left h8,L]at e1;let e2:o'=v':=↑e1
    subst e2;let#[a,o2,xs,fl,rfl,_,_,_,_]:=CT sr;let#[H',dp,r7]:=Rel.dput r6 J L ri hkey hnd hbig;show#[a,_,rfl,dp,n _ Z F4 _ hnx KP.refl (s1.trans (s2.trans (s3.trans s4))) r7]
end FL
namespace FL
def dG:D->Bool
 |.int _=>true
 |.str l=>↥(l.length<=big)
 |_=>false
def eJ(j:Nat):WI:=λU Q _=>match slot U j with
 |some (.dct false ks l)=>l.all S.isSh=true/\ks.all dG=true/\Q (bJ ks (l.map S.toD)) (U.set j ⇑(.sh (.dct false ks (l.map S.toD))))
 |_=>False
def gQ(k v:WE):WE:=λU Q E=>k U (λx B=>v B (λy i=>zz (view x i) λq=>zz (give y i) λp=>cJ q=true/\Q (.v (.dct false [q] [p.1])) p.2) E) E
end FL
namespace FL
open PySem PySem.Spec PyProof.Rows L2
section
variable{K:W.Frag}
def Rel.frzD(r:Rel K U Z F G H)(hs:slot U j=⇑(.dct false ks l))(hl:l.all S.isSh=true):
  ∃a zV,Z[j]?=⇑⇑(.ref a)/\H a=⇑(.dK zV)/\ks=zV.map (λp=>aH p.1)/\zS K F (zV.map (·.2)) (l.map S.toD)/\F a=none/\
   ∀o,Rel K (U.set j ⇑(.sh (.dct false ks (l.map S.toD)))) Z (upd F a (.frz o (.dK zV))) G (upd H a (.frz o (.dK zV))):=by
 let#[fp,e,nd,ap]:=r.en;let#[v',O,fi,M,e1,rfl,q,up]:=e.at hs;cases q with
 |@dK a zV _ _ fl hD I rl=>
  let#[rp,rfl]:=rl.sh hl;let#[na,i,Y]:=qx.mp nd;let#[ni,nb,i]:=qx.mp i;let L:a∉O:=λz=>Y a z a (qk _ qo) rfl;let J:a∉M:=λz=>i a qo a z rfl;let v:=ap a (qj _ (qk _ qo));show#[a,zV,e1,hD,I,rp,v.1,λo=>?_];let sm:zF F (upd F a (.frz o (.dK zV))):=zF.upd v.1;let a2:=up (F':=upd F a (.frz o (.dK zV))) (H':=upd H a (.frz o (.dK zV))) (o:=⇑(.sh (.dct false ks (l.map S.toD)))) (u:=⇑(.ref a)) sm (λx B=>Ae λz=>(qy.mp B).elim (λw=>L (z▸w)) λw=>J (z▸w)) (.so (.sh (.dK (.inr #[o,Aw]) I (rp.mono sm))) .nil);rw[DB e1]at a2;show#[zF.upd2 r.fr,λx u w=>?_,_,a2,?_,λx B=>?_]
  .let B:x≠a:=λz=>by rw[z,v.2]at w;cases w
   rw[Ae B,Ae B];show r.gr x u w
  .let:(O++([]++[]++M)).Sublist (O++([a]++M)):=by simp
   show this.nodup nd
  .let hm:x∈O\/x∈M:=by simpa using B
   let h1:x≠a:=λz=>hm.elim (λw=>L (z▸w)) λw=>J (z▸w);rw[Ae h1];show ap x (hm.elim (λw=>qk _ w) λw=>qj _ (qj _ w))
end
def bz(a:Addr)(o:Obj)(zV:List (bD×V)):It:=#[λi H=>H a=⇑(.frz o (.dK zV))/\i<zV.length,λi H x H'=>∃q p,H q=none/\zV[i]?=⇑p/\x=.ref q/\H'=upd H q (.tup [kV p.1,p.2]),λi H=>H a=⇑(.frz o (.dK zV))/\zV.length<=i]
def Pe(h:(aD P w).is k u=true):zJ (kV k) u:=by
 rcases BF (k:=k) (v:=u) h with⟨i,t,rfl,rfl⟩|⟨x,t,rfl,rfl⟩
 .show#[t,rfl]
 .show#[t,rfl]
def Np(r:KV zV vs):∀{i:Nat}{p:bD×V},zV[i]?=⇑p->∃v,vs[i]?=⇑(p.1,v)/\zJ p.2 v:=by
 induction r with
 |nil=>intro i p h;simp at h
 |@cons a b G bs h t F=>
  intro i p B;cases i with
  |zero=>simp at B;subst B;show#[b.2,by simp[h.1],h.2]
  |succ i=>show F B
def Ox:entryFor table "dict_itemiterator.__iter__"=⇑Builtin.«dict_keyiterator.__iter__»:=entryFor_alias (id':="dict_keyiterator.__iter__") (by kernel_rfl) (by first|rfl|decide+kernel) (by decide+kernel) (by kernel_rfl)
def La{P:Program}{w:World}{K:W.Frag}{a it:Addr}{o:Obj}{zV:List (bD×V)}{es:Array DictEntry}{ep:Nat}{elts:List Expr}{k:Nat}{pos:Pos}(hd:o.data=.dict es ep):
  fT P w K (.Tuple elts k pos) (bz a o zV) [it] it (λi h=>∃ok ov,IsItemIter h it a i zV.length ep ok ov) where
 mem:=by simp
 obj:=λi h st b hb=>by
  let#[ok,ov,q]:=st;let e:b=it:=↑hb
  subst e;show#[_,q,λv z=>by cases z]
 keep:=λi h h' st kk=>by let#[ok,ov,q]:=st;show#[ok,ov,kk it (by simp) _ q]
 item:=by
  intro X hP hw hK hc i zU s Z H E I hf st hg;subst hP hw hK;let#[ok,ov,q]:=st;let#[hH,hi]:=hg;let#[h0,hz,hsm,vs,rk,dd]:=(show zT X.prog X.w H s.heap a (.frz o (.dK zV)) from I.hok a _ hH)
  let zX:zV.length=vs.length:=rk.length;let hat:s.heap.DictAt (aD X.prog X.w) a vs ep:=by let#[o',es',ep',g1,g2,g3,g4]:=dd;rw[h0]at g1;cases g1;rw[hd]at g3;cases g3;show#[o,es,h0,g2,hd,g4]
  obtain⟨v,hv,rv⟩:=Np rk (qi hi);let hil:it<s.heap.objs.size:=qe q;rw[zX]at q;show wpAny_pyNext_items_item q hat hv λkey h1 hkey ho hT hsz hk=>?_;show#[_,rfl,wpAny_letOwnedTupleGo_items ho λh2 he2 sb=>?_];let ne:s.heap.objs.size≠it:=ne_of_gt hil;let I2:Inv X zU Z (upd H s.heap.objs.size (.tup [kV zV[i].1,zV[i].2])) {s with heap:=h2}:=He I (t':=s.toks) (ch:=[it]) (us:=[key,v]) hf (λb hb=>by rw[qv.mp hb];show hil) (by show 2<=_;decide) (.cons (Pe hkey) (.cons rv .nil)) #[_,sb.extBut _ _ ne hT,rfl,rfl,_,rfl] λb u hb z=>by
   let hb':b≠it:=↑hb
   show sb.extBut _ _ hb' (hk b u hb' z)
  show#[.ref s.heap.objs.size,_,I2,rfl,#[s.heap.objs.size,zV[i],I.hok.fresh (zb _),qi hi,rfl,rfl],#[_,_,by rw[zX];show he2],λb hb=>?_];rw[qv.mp hb,Ae (ne_of_lt hil)];show(hf it (by simp)).1
 done:=by
  intro X hP hw hK hc i zU s Z H E I hf st hg;subst hP hw hK;let#[ok,ov,q]:=st;let#[hH,hi]:=hg;let#[h0,hz,hsm,vs,rk,dd]:=(show zT X.prog X.w H s.heap a (.frz o (.dK zV)) from I.hok a _ hH)
  let zX:zV.length=vs.length:=rk.length;let hat:s.heap.DictAt (aD X.prog X.w) a vs ep:=by let#[o',es',ep',g1,g2,g3,g4]:=dd;rw[h0]at g1;cases g1;rw[hd]at g3;cases g3;show#[o,es,h0,g2,hd,g4]
  rw[zX]at q;show wpAny_pyNext_items_end (I.ok.hd hc) q hat (qR ∅) λh' hx=>#[rfl,Dc I (t':=s.toks) (ch:=[it]) hf λb u hb z=>hx b u ↑hb z]
 self:=λA i s Q E st h=>by
  let#[ok,ov,q]:=st;let ty:s.TypeIs (.ref it) "dict_itemiterator":=#[_,q,rfl]
  show wpAny_pyIter_slot ty F.slot_dict_itemiterator_iter (zm F.slot_dict_itemiterator_iter ty Ox ?_ (F.args_dict_itemiterator_iter_1 _));show qb #[_,rfl,"dict_itemiterator",_,ty,F.slot_dict_itemiterator_next.lookup,h]
def wO(i:TE):TI:=λZ H R=>i Z H λv H1=>∃a zV,v=.ref a/\H1 a=⇑(.dK zV)/\∀o,R (bz a o zV) (upd H1 a (.frz o (.dK zV)))
def Qi(hl:PE X o tl)(B:autoParam (attributeBase o "items" X.env (eval o X.env)=eval o X.env) rZ9)(v:autoParam ((apos.endLine==cpos.line)=true) rZ9):PI X (.Tuple elts kk tpos) (.Call (.Attribute o "items" apos) [] [] cpos) (wO tl):=by
 intro zU s Z H R I h;show wpAny_Call_method (T:="dict") (id:="dict.items") B rfl v F.plainAttrs_dict F.slot_dict_items F.type_dict_items (Ai (hl zU s Z H _ I h) λu i zq=>?_);let#[x,H1,I1,rx,a,zV,ex,hH,q]:=zq;subst ex;obtain rfl:u=Value.ref a:=rx;let#[hz,M,G,rk,dd]:=Eh I1.hok hH;show#[dd.typeIs,dd.mapOf.noDict,?_];show method_meetsIn F.slot_dict_items F.entry_dict_items rfl (PySem.evalArgs_none #[rfl,dd.typeIs,F.args_dict_items_1 _,_,meets_dict_items (aD X.prog X.w) a M,#[G,dd],?_]);let#[J,es,ep,g1,g2,g3,g4]:=id dd;let h4:(i.heap.push {cls:=.type "dict_items",data:=.fields [.ref a].toArray}).DictAt (aD X.prog X.w) a G ep:=#[J,es,qc _ g1,g2,g3,g4]
 show wpAny_pyIter_items (s:={i with heap:=i.heap.push {cls:=.type "dict_items",data:=.fields [.ref a].toArray}}) ⟨_,qd _ rfl,rfl,rfl⟩ h4 ?_;let O:zV.length=G.length:=rk.length;let L:(i.heap.push {cls:=.type "dict_items",data:=.fields [.ref a].toArray}).objs.size=i.heap.objs.size+1:=Heap.size_push ..;generalize hh:(i.heap.push {cls:=.type "dict_items",data:=.fields [.ref a].toArray}).push {cls:=.type "dict_itemiterator",data:=.fields [.none,.bool false,.ref a,.int 0 0,.int G.length 0,.int ep 0,.none,.none].toArray}=h2;let kp:∀b w,i.heap.get? b=⇑w->h2.get? b=⇑w:=λb w e=>by rw[<-hh];show qc _ (qc _ e)
 let I2:Inv X zU Z H1 {i with heap:=h2}:=I1.kept (t':=i.toks) kp;let h5:h2.DictOf (aD X.prog X.w) a G:=#[J,es,ep,kp _ _ g1,g2,g3,g4]
 let I3:Inv X zU Z (upd H1 a (.frz J (.dK zV))) {i with heap:=h2}:=I2.write (t':=i.toks) (x:=a) (e:=a) (o:=.frz J (.dK zV)) (by rw[hH];show True.intro) (.inl rfl) (λ_ _ _ z=>z) #[J,kp _ _ g1] #[kp _ _ g1,hz,M,G,rk,h5];let Y:i.heap.objs.size<=i.heap.objs.size+1:=le_succ _;let h1:=I1.fpOk Y (I1.hok.fresh Y);let h3:i.heap.objs.size+1≠a:=λz=>by rw[<-z]at hH;rw[h1.1]at hH;cases hH
 rw[L];show#[i.heap.objs.size+1,[i.heap.objs.size+1],_,_,_,rfl,I3,La (zV:=zV) g3,#[.none,.none,?_],λb hb=>?_,q J]
 .rw[<-hh,<-L,O];show qd _ rfl
 .rw[qv.mp hb];show EI h1 h3
def GI{K:W.Frag}(e:F0 a=⇑(.frz ob (.dK zV)))(hk:ks=zV.map λp=>aH p.1)(r:zS K F0 (zV.map (·.2)) ds)(hs:∀x:Str,Sum.inr x∈zV.map (·.1)->x.cps.toList.length<=16777216):dC K (bz a ob zV) (bJ ks ds) F0:=λi U Z F G H Y B=>by
 let e':H a=⇑(.frz ob (.dK zV)):=(Y.trans B.fr).at _ _ e;let hl:=r.len;show#[λd hd=>?_,λh=>#[e',?_]]
 .obtain⟨k,v,h1,h2,rfl⟩:=Gz ks ds i d hd;let#[y,I,ry]:=r.get h2;let hi:i<zV.length:=by let:=(qh.mp I).1;simpa using this
  show#[#[e',hi],λx H' zq=>?_];let#[q,p,hq,M,ex,eH]:=zq;subst ex eH;let#[O,_,_]:=B.free hq;let J:p.2=y:=by rw[qG,M]at I;show qg I
  let L:aH p.1=k:=by rw[hk,qG,M]at h1;show qg h1
  have rk:aI K F (kV p.1) k:=by
   rw[<-L];cases q:p.1 with
   |inl z=>show .int z
   |inr z=>show .str rfl (hs z (qL.mpr #[p,qN M,q]))
  show#[upd F q (.tup [kV p.1,p.2]),zF.upd O,B.newF hq,.tup (xs:=[kV p.1,p.2]) Aw (.cons (rk.mono (zF.upd O)) (.cons ?_ .nil))];rw[J];show(ry.mono Y).mono (zF.upd O)
 .rw[Gw,hk]at h;simp at h hl;lia
def Qq(ho:FE X o (zv j))(B:autoParam (attributeBase o "items" X.env (eval o X.env)=eval o X.env) rZ9)(v:autoParam ((apos.endLine==cpos.line)=true) rZ9):
  FI X (.Tuple elts kk tpos) (.Call (.Attribute o "items" apos) [] [] cpos) (eJ j):=λpn xe hp=>by
 show PI.imp (Qi (X:=wp X pn xe) (ho pn xe hp) B v) λZ H R q=>?_;let#[F,G,U,P,PX,M,i,h5,hx]:=q;cases I:slot U j with
 |none=>unfold eJ at i;rw[I]at i;show i.elim
 |some s0=>
  unfold eJ at i;rw[I]at i;match s0,I,i with
  |.dct false ks l,I,⟨hl,hko,i⟩=>
   show#[F,G,U,λy J=>y=.loc j/\J=U,PX,M,by unfold zv;rw[I];show#[rfl,rfl],λy J o' F1 H1 hk s1 r1 rv=>?_,hx];let#[rfl,rfl]:=hk;let Y:Z[j]?=⇑⇑o':=rv;let#[a,O,e1,hH,L,rp,hF,fz]:=Rel.frzD (r1.drop (Ad r1)) I hl;rw[Y]at e1;let e2:o'=.ref a:=↑e1
   subst e2;show#[a,O,rfl,hH,λob=>h5 _ _ _ _ _ i (s1.trans (zF.upd hF)) (fz ob) (GI Aw L (rp.mono (zF.upd hF)) λx h1=>?_)];let#[p,h4,h2]:=qL.mp h1;let:dG (aH p.1)=true:=qJ.mp hko _ (by rw[L];show qL.mpr #[p,h4,rfl]);rw[h2]at this;let h3:x.cps.toList.length<=big:=by simpa[dG,aH] using this
   show le_trans h3 ⋯
def JX(hk:FE X k wk)(hv:FE X v wv):FE X (.Dict [⇑k] [v] pos) (gQ wk wv):=λpn xe hp=>by
 show PE.imp (Pg (X:=wp X pn xe) (Rn (hk pn xe hp) (hv pn xe hp) OS) rfl rfl (by simp) (by show 1<=15;decide)) λZ H Q q=>?_;let#[F,G,U,P,PX,h6,hw,h8,hx]:=q;intro p hp;let r0:=Rel.newO (s:=.dct false [] []) h6 hp (.dK (zV:=[]) Aw rfl .nil);let#[G0,Y,g0,L]:=r0.hide (Ad r0);show#[F,G0,U,_,PX,Y,hw,λrx U1 vx F1 H1 hi s1 r1 h5=>?_,hx.mono (λ_ z=>z) (zF.refl F) g0];let l1:=Ad r1;let#[G1,O,g1,back1]:=r1.hide l1;show#[F1,G1,U1,_,PX,O,hi,λry U2 M F2 H2 e4 s2 r2 h4=>?_,hx.mono (λ_ z=>z) s1 (g0.trans g1)];let l2:=Ad r2;let#[q,eq,e3]:=Ah e4;let#[#[t,i],eg,h3,h9]:=Ah e3;let r3:=L (s1.trans s2) (back1 s2 r2);simp only[qq,qP,nil_append]at r3
 --y,x,the dict
 let#[F3,s3,l3,r4]:=Al (U':=[zG rx,⇑(.dct false [] [])]) (Z':=[⇑vx,⇑(.ref p)]) r3 l2 h4 eg;let h7:Rel X.K (U2++zG rx::[⇑(.dct false [] [])]) (Z++⇑vx::[⇑(.ref p)]) F2 G H2:=r3.mid l2;let rq:=look (U':=[⇑(.dct false [] [])]) (Z':=[⇑(.ref p)]) h7 l2 h5 eq;let#[B,rfl,rfl]:=CP rq h3;let J:i.length=Z.length:=l3.trans l2;let r5:Rel X.K (i++[⇑t,⇑(.dct false [] [])]) (Z++[⇑M,⇑(.ref p)]) F3 G H2:=by let:=Rel.mid (U:=i++[⇑t]) (Z:=Z++[⇑M]) (U':=[⇑(.dct false [] [])]) (Z':=[⇑(.ref p)]) (o:=zG rx) (w:=⇑(kV B)) ↑r4 (by simp[J]);simpa using this
 let r6:=Rel.swap (U1:=[⇑t]) (Z1:=[⇑M]) (U2:=[⇑(.dct false [] [])]) (Z2:=[⇑(.ref p)]) J rfl r5;let r7:Rel X.K ((i++[⇑(.dct false [] [])])++[⇑t]) ((Z++[⇑(.ref p)])++[⇑M]) F3 G H2:=↑r6
 let h1:slot (i++[⇑(.dct false [] [])]) i.length=⇑(.dct false [] []):=Cy (U':=[]);let I:(Z++[⇑(V.ref p)])[i.length]?=⇑⇑(.ref p):=by rw[J];simp
 have h2:H2 p=⇑(.dK []):=by
  let#[v',fp,e1,sr]:=(r7.drop (Ad r7)).at h1;rw[I]at e1;let e2:V.ref p=v':=↑e1
  cases sr with
  |@dK _ zV _ _ fl hH hb rl=>simp_all
 let r8:=r7.dct (ks':=[aH B]) (l':=[t]) (o':=.dK [(B,M)]) h1 I h2 (.k rfl rfl) (.k rfl rfl) λH' fl fs rl sr=>#[fs++[],[],.cons sr .nil,by cases rl;simp]
 show#[h2,[(B,M)],rfl,by show 1<=15;decide,?_];let e9:(i++[⇑(S.dct false [] [])]).set i.length ⇑(.dct false [aH B] [t])=i++[⇑(.dct false [aH B] [t])]:=GD (U':=[]);rw[e9]at r8;show h8 _ i _ F3 _ h9 (s1.trans (s2.trans s3)) r8 trivial
section
variable{K:W.Frag}
def ER:∀{us:List Value},zR (i.map V.int) us->IntsAre us i:=by
 induction i with
 |nil=>intro us r;cases r;show .nil
 |cons n i F=>
  intro us r;cases r with
  |cons B v=>let#[t,rfl]:=B;show .cons _ t (F v)
end
end FL
namespace FL
open PySem PySem.W PyProof.Rows
def cH(n:Nat)(rk:Nat->Int){α:Type}:KasT α->(α->Prop)->Prop
 |.ret a,P=>P a
 |.ask i j k,P=>i<n/\j<n/\cH n rk (k ↥(rk i<rk j)) P
def CZ:∀{t:KasT α},cH n rk t (λa=>cH n rk (f a) P)->cH n rk (t.bind f) P
 |.ret _,h=>h
 |.ask _ _ _,h=>#[h.1,h.2.1,CZ h.2.2]
def kA(rk:Nat->Int)(p:Array Nat)(k:Nat):Int:=rk ((p[k]?).getD 0)
def BB(p:Array Nat)(k:Nat):rk (p.getD k 0)=kA rk p k:=by unfold kA;rw[Array.getD_eq_getD_getElem?]
def jC(n:Nat)(p:Array Nat):Prop:=p.size=n/\∀k,p.getD k 0<n
def lF(rk:Nat->Int)(p:Array Nat)(m:Nat):Prop:=∀a b,a<=b->b<m->kA rk p a<=kA rk p b
def ck(rk:Nat->Int)(p:Array Nat)(m:Nat):Prop:=∀a b,a<=b->b<m->kA rk p b<=kA rk p a
def Dp(h:jC n q)(i:p.Perm q)(hn:0<n):jC n p:=by
 show#[i.size_eq.trans h.1,λk=>?_];rw[Array.getD_eq_getD_getElem?];cases e:p[k]? with
 |none=>show hn
 |some x=>have v:x∈q:=i.mem_iff.mp (Array.mem_of_getElem? e);let#[j,B,F]:=Array.getElem_of_mem v;let:=h.2 j;simp_all
def Ge(i:jC n p):∀(f m:Nat),1<=m->lF rk p m->(∀m',m<=m'->m'<=m+f->lF rk p m'->(m'<m+f->kA rk p m'<kA rk p (m'-1))->P m')->cH n rk (kas_asc p f m) P
 |0,m,_,hs,h=>h m (zb _) (zb _) hs λz=>absurd z ∅
 |f+1,m,h1,hs,h=>by
  show#[i.2 m,i.2 (m-1),?_];rw[BB (rk:=rk),BB (rk:=rk)];by_cases v:kA rk p m<kA rk p (m-1)
  .rw[qS v];show h m (zb _) ∅ hs λ_=>v
  .rw[qT v];show Ge i f (m+1) ∅ (λa b F L=>?_) λm' h2 M J I=>h m' ∅ ∅ J λz=>I ∅;by_cases B:b<m
   .show hs a b F B
   .let:b=m:=by lia
    by_cases G:a=b
    .rw[G];show Int.le_refl _
    .let:=hs a (b-1) ∅ ∅;lia
def GW(v:jC n p)(i:lF rk p k):∀(f l r:Nat),l<=r->r<=k->r-l<=f->(∀a,a<l->kA rk p a<=kA rk p k)->(∀a,r<=a->a<k->kA rk p k<kA rk p a)->
  (∀l',l'<=k->(∀a,a<l'->kA rk p a<=kA rk p k)->(∀a,l'<=a->a<k->kA rk p k<kA rk p a)->P l')->cH n rk (kas_place p k f l r) P
 |0,l,r,h1,h2,h3,h4,h5,h=>by
  let:l=r:=∅
  subst this;show h l h2 h4 h5
 |f+1,l,r,h1,h2,h3,h4,h5,h=>by
  unfold kas_place;by_cases B:l≥r
  .rw[q8 B];let:l=r:=by lia
   subst this;show h l h2 h4 h5
  .rw[q9 B];show#[v.2 k,v.2 _,?_];rw[BB (rk:=rk),BB (rk:=rk)];by_cases F:kA rk p k<kA rk p ((l+r)/2)
   .rw[qS F];show GW v i f l ((l+r)/2) ∅ ∅ ∅ h4 (λa G I=>?_) h;let:=i _ a G I;lia
   .rw[qT F];show GW v i f ((l+r)/2+1) r ∅ h2 ∅ (λa G=>?_) h5 h;let:=i a ((l+r)/2) ∅ ∅;lia
def Kl(i:k<p.size)(v:d<=k)(j:Nat):kA rk (bubble p k d) j=if j=k-d then kA rk p k else if k-d<j/\j<=k then kA rk p (j-1)else kA rk p j:=by unfold kA;rw[getElem?_bubble i d v j];grind
def Jq(hn:0<n):∀(f:Nat)(p:Array Nat)(k:Nat),jC n p->lF rk p k->k+f<=n->(∀v,v.Perm p->jC n v->lF rk v (k+f)->P v)->cH n rk (kas_bin f p k) P
 |0,p,k,hr,hs,_,h=>h p (Array.Perm.refl _) hr hs
 |f+1,p,k,hr,hs,hk,h=>by
  show CZ (GW hr hs k 0 k (zero_le _) (zb _) ∅ (λa z=>absurd z ∅) (λa Y z2=>absurd Y ∅) λl hl h1 h2=>?_);let B:k<p.size:=by rw[hr.1];lia
  let M:=bubble_perm p k (k-l);show Jq hn f _ (k+1) (Dp hr M hn) (λa b J hb=>?_) ∅ λv q1 q2 q3=>h v (q1.trans M) q2 (by rw[show k+(f+1)=k+1+f by lia];show q3);rw[Kl B ∅,Kl B ∅];let L:k-(k-l)=l:=∅
  rw[L];by_cases O:a=l
  .rw[q8 O];by_cases i:b=l
   .rw[q8 i];show Int.le_refl _
   .rw[q9 i];let:=h2 (b-1) ∅ ∅;lia
  .rw[q9 O];by_cases G:l<a/\a<=k
   .rw[q8 G,q9 ∅,q8 #[∅,∅]];show hs (a-1) (b-1) ∅ ∅
   .rw[q9 G];let I:a<l:=by lia
    by_cases i:b=l
    .rw[q8 i];show h1 a I
    .rw[q9 i];by_cases F:l<b/\b<=k
     .rw[q8 F];show hs a (b-1) ∅ ∅
     .rw[q9 F];show hs a b J ∅
def Dm(hj:j<=p.size)(k:Nat):kA rk (kas_rev p i j) k=if i<=k/\k<j then kA rk p (i+j-1-k)else kA rk p k:=by
 unfold kA kas_rev;rw[getElem?_mirror_all hj];by_cases h:i<=k/\k<j
 .rw[q8 h,q8 h]
 .rw[q9 h,q9 h]
def CB(p:Array Nat)(i j:Nat):(kas_rev p i j).Perm p:=mirror_perm ..
def Gv(hn:0<n):∀(f:Nat)(p:Array Nat)(m q:Nat),jC n p->ck rk p m->m+f<=n->q+1<=m->(∀a,m-(q+1)<=a->a<m->kA rk p a=kA rk p (m-1))->
  (∀i m' v,i.Perm p->jC n i->ck rk i m'->m'<=m+f->m<=m'->v+1<=m'->(∀a,m'-(v+1)<=a->a<m'->kA rk i a=kA rk i (m'-1))->P (i,m',v))->cH n rk (kas_desc f p m q) P
 |0,p,m,q,hr,hd,_,hq,he,h=>h p m q (Array.Perm.refl _) hr hd (zb _) (zb _) hq he
 |f+1,p,m,q,hr,hd,hm,hq,he,h=>by
  unfold kas_desc;show#[hr.2 m,hr.2 (m-1),?_];rw[BB (rk:=rk),BB (rk:=rk)];by_cases hc:kA rk p m<kA rk p (m-1)
  ·(rw[qS hc];dsimp only;rw[q8 rfl])
   have go:∀I:Array Nat,I.Perm p->(∀k,kA rk I k=kA rk p k)->cH n rk (kas_desc f I (m+1) 0) P:=by
    intro I hp B;show Gv hn f I (m+1) 0 (Dp hr hp hn) (λa b G hb=>?_) ∅ ∅ (λa h1 h2=>?_) λi m' v g1 g2 g3 g4 g5 g6 Y=>h i m' v (g1.trans hp) g2 g3 ∅ ∅ g6 Y
    .rw[B,B];by_cases F:b<m
     .show hd a b G F
     .let:b=m:=by lia
      by_cases M:a=b
      .rw[M];show Int.le_refl _
      .let:=hd a (b-1) ∅ ∅;lia
    .let:a=m+1-1:=by lia
     rw[this]
   by_cases J:q>0
   .rw[q8 J];show go _ (CB ..) λk=>?_;rw[Dm (by rw[hr.1];lia)];by_cases B:m-(q+1)<=k/\k<m
    .rw[q8 B,he k B.1 B.2,he _ ∅ ∅]
    .rw[q9 B]
   .rw[q9 J];show go p (Array.Perm.refl _) λ_=>rfl
  ·(rw[qT hc];dsimp only;rw[q9 qY])
   show#[hr.2 (m-1),hr.2 m,?_];rw[BB (rk:=rk),BB (rk:=rk)];by_cases L:kA rk p (m-1)<kA rk p m
   ·(rw[qS L];dsimp only;rw[q8 rfl])
    show h p m q (Array.Perm.refl _) hr hd ∅ (zb _) hq he
   ·(rw[qT L];dsimp only;rw[q9 qY])
    let O:kA rk p m=kA rk p (m-1):=∅
    show Gv hn f p (m+1) (q+1) hr (λa b G hb=>?_) ∅ ∅ (λa h1 h2=>?_) λi m' v g1 g2 g3 g4 g5 g6 Y=>h i m' v g1 g2 g3 ∅ ∅ g6 Y
    .by_cases F:b<m
     .show hd a b G F
     .let:b=m:=by lia
      by_cases M:a=b
      .rw[M];show Int.le_refl _
      .let:=hd a (b-1) ∅ ∅;lia
    .show kA rk p a=kA rk p m;by_cases M:a=m
     .rw[M]
     .rw[O];show he a ∅ ∅
def Po(i:m<=p.size)(v:ck rk p m):lF rk (kas_rev p 0 m) m:=λa b F B=>by rw[Dm i,Dm i,q8 #[zero_le _,∅],q8 #[zero_le _,B]];show v _ _ ∅ ∅
def Ki(hn:0<n)(B:jC n p)(I:ck rk p m)(h1:1<=m)(G:m<=n)
  (h:∀m' v,v.Perm p->jC n v->m<=m'->m'<=n->lF rk v m'->P (m',v)):cH n rk (kas_tail3 m n p) P:=by
 let F:=Po (by rw[B.1];show G) I;let i:=Dp B (CB p 0 m) hn;show CZ (Ge i (n-m) m h1 F λm' L M J _=>h m' _ (CB ..) i L ∅ J)
def KM(hn:0<n)(hr:jC n p)(hd:ck rk p (m+1))(h1:1<=m)(hm:m+1<=n)
  (h:∀m' i,i.Perm p->jC n i->1<=m'->m'<=n->lF rk i m'->P (m',i)):cH n rk (kas_descPart m n p) P:=by
 show CZ (Gv hn (n-(m+1)) p (m+1) 0 hr hd ∅ ∅ (λa J B=>by rw[show a=m+1-1 by lia]) λi m' F J B g3 g4 g5 g6 g7=>?_);by_cases hq:F>0
 .rw[q8 hq];let v:∀k,kA rk (kas_rev i (m'-(F+1)) m') k=kA rk i k:=λk=>by
   rw[Dm (by rw[B.1];lia)];by_cases v:m'-(F+1)<=k/\k<m'
   .rw[q8 v,g7 k v.1 v.2,g7 _ ∅ ∅]
   .rw[q9 v]
  show Ki hn (Dp B (CB ..) hn) (λa b I hb=>by rw[v,v];show g3 a b I hb) ∅ ∅ λm2 G Y O e3 M L=>h m2 G (Y.trans ((CB ..).trans J)) O ∅ M L
 .rw[q9 hq];show Ki hn B g3 ∅ ∅ λm2 G Y O e3 M L=>h m2 G (Y.trans J) O ∅ M L
def Su(hn:2<=n)(i:jC n p)(h:∀m' F,F.Perm p->jC n F->1<=m'->m'<=n->lF rk F m'->P (m',F)):cH n rk (kas_count n p) P:=by
 show CZ (Ge i (n-1) 1 (zb _) (λa b B M=>by rw[show a=b by lia];show Int.le_refl _) λm I g2 G g4=>?_);by_cases J:(m==n)=true
 .rw[q8 J];show h m p (Array.Perm.refl _) i I ∅ G
 .rw[q9 J];by_cases v:m>1
  .rw[q8 v];show#[i.2 0,i.2 (m-1),?_];rw[BB (rk:=rk),BB (rk:=rk)];by_cases L:kA rk p 0<kA rk p (m-1)
   ·(rw[qS L];dsimp only;rw[q8 rfl])
    show h m p (Array.Perm.refl _) i I ∅ G
   ·(rw[qT L];dsimp only;rw[q9 qY])
    let h1:∀a,a<m->kA rk p a=kA rk p (m-1):=λa ha=>by let Y:=G 0 a (zero_le _) ha;let O:=G a (m-1) ∅ ∅;lia
    let hk:∀k,kA rk (kas_rev p 0 m) k=kA rk p k:=λk=>by rw[Dm (by rw[i.1];lia)];grind
    show KM ∅ (Dp i (CB ..) ∅) (λa b B M=>?_) I ∅ λm2 p2 Y O e3 e4 e5=>h m2 p2 (Y.trans (CB ..)) O e3 e4 e5;grind
  .rw[q9 v];let:m=1:=by lia
   subst this;show KM ∅ i (λa b B M=>?_) (zb _) ∅ h;grind
def Se(hn:0<n):jC n (List.range n).toArray:=by
 show#[by simp,λk=>?_];by_cases i:k<n
 .simp[i]
 .simp[i];show hn
def PH(hn:2<=n)(h:∀p,p.Perm (List.range n).toArray->lF rk p n->P p):cH n rk (kas_sort n) P:=by
 show CZ (Su hn (Se ∅) λm p F J O M B=>?_);let i:max m 1=m:=∅
 rw[i];by_cases v:m<n
 .rw[q8 v];show Jq ∅ (n-m) p m J B ∅ λI L Y G=>h I (L.trans F) (by rw[show m+(n-m)=n by lia]at G;show G)
 .rw[q9 v];let:m=n:=by lia
  subst this;show h p F B
end FL
namespace FL
open PySem PySem.Spec PyProof.Rows L2
def MO{h:Heap}(x:h.Ns a m)(y:h.Ns a m'):m=m':=by let#[o,es,F,e,d,_,f]:=x;let#[o',i,v,G,I,_,B]:=y;grind
def Inv.laidF(I:Inv X zU Z H s)(hn:∀m,s.heap.Ns X.env.locals m->h'.Ns X.env.locals m)(k:∀b u,b≠X.env.locals->s.heap.get? b=⇑u->h'.get? b=⇑u)
  (J:s.heap.get? a=none)(new:zT X.prog X.w (upd H a o) h' a o):Inv X zU Z (upd H a o) {s with heap:=h',toks:=t'}:=by
 have F:H a=none:=by
  cases e:H a with
  |none=>rfl
  |some u=>let#[v,z]:=zT.there (I.hok a u e);rw[J]at z;cases z
 refine I.step (g':=s.gens) (d':=s.drawn) (ch:=[]) (λ_ z=>nomatch z) (λb i G _ _ e _=>k b i G e) (λb i G _ _ e _=>#[i.slots,k b i G e]) (λb i _ e n=>by rw[Ae (λz=>by rw[z,J]at e;cases e)];show n)
  (λb i _ e=>?_) (λb xs q=>by rw[Ae (BE q F)];show q) (λb u xs q=>by rw[Ae (BE q F)];show q) (λb ps q=>#[#[],by rw[Ae (BE q F),q];simp]) hn (λb i e=>?_) I.bare
 .by_cases B:b=X.env.locals
  .obtain⟨m,x,_⟩:=I.loc;let#[o',_,_,M,_]:=hn m x;show#[o',by rw[B];show M]
  .show#[i,k b i B e]
 .by_cases B:b=a
  .subst B;rw[Aw]at e;cases e;show new
  .rw[Ae B]at e;show(I.hok b i e).stay (λc v L q=>k c v (λz=>?_) q) (λc q=>by rw[Ae (BE q F)];show q) λc xs q=>by rw[Ae (BE q F)];exact q
   rw[z]at L;rcases L with r|r
   .rw[<-r,I.free]at e;cases e
   .rw[I.free]at r;cases r
section
open HT
def IB:∀l:List Int,lexLt l l=false
 |[]=>rfl
 |x::l=>by rw[sI,q8 rfl,IB l]
def Eu:∀k j i:List Int,lexLt k j=true->lexLt i j=false->lexLt k i=true
 |[],[],_,h,_=>by cases h
 |[],_::_,[],_,g=>by cases g
 |[],_::_,_::_,_,_=>rfl
 |_::_,[],_,h,_=>by cases h
 |_::_,_::_,[],_,g=>by cases g
 |x::k,y::j,z::i,h,g=>by
  rw[sI]at h g⊢;by_cases B:x=y
  .by_cases v:z=y
   .rw[q8 B]at h;rw[q8 v]at g;rw[q8 (B.trans v.symm)];show Eu k j i h g
   .rw[q9 v]at g;rw[q9 ∅];show qS ∅
  .rw[q9 B]at h;by_cases v:z=y
   .rw[q9 ∅];show qS ∅
   .rw[q9 v]at g;rw[q9 ∅];show qS ∅
def EG:∀i j:List Int,lexLt i j=true->lexLt j i=false
 |[],[],h=>by cases h
 |[],_::_,_=>rfl
 |_::_,[],h=>by cases h
 |x::i,y::j,h=>by
  rw[sI]at h⊢;by_cases v:x=y
  .rw[q8 v]at h;rw[q8 v.symm];show EG i j h
  .rw[q9 v]at h;rw[q9 ∅];show qT ∅
def FF(h:∀x,p x=true->q x=true):∀l:List Nat,l.countP p<=l.countP q
 |[]=>zb _
 |a::l=>by
  rw[countP_cons,countP_cons];let:=FF h l;cases e:p a with
  |true=>rw[h a e];lia
  |false=>simp;lia
def HQ(h:∀x,p x=true->q x=true):∀l:List Nat,(∃x,x∈l/\q x=true/\p x=false)->l.countP p<l.countP q
 |[],z=>by let#[_,z,_]:=z;cases z
 |a::l,z=>by
  rw[countP_cons,countP_cons];let#[x,B,i,v]:=z;by_cases e:x=a
  .subst e;let:=FF h l;rw[i];lia
  .let:=HQ h l #[x,(qB.mp B).resolve_left e,i,v];cases e:p a with
   |true=>rw[h a e];lia
   |false=>simp;lia
def rQ(ls:List (List Int))(i:Nat):Int:=((List.range ls.length).countP λj=>lexLt (ls.getD j []) (ls.getD i []):Nat)
def HM(hi:i<ls.length):↥(rQ ls i<rQ ls j)=lexLt (ls.getD i []) (ls.getD j []):=by
 unfold rQ;cases e:lexLt (ls.getD i []) (ls.getD j [])with
 |true=>show qS (Int.ofNat_lt.mpr (HQ (λk v=>?_) _ #[i,qK.mpr hi,e,IB _]));show Eu _ _ _ v (EG _ _ e)
 |false=>show qT λh=>?_;let:=FF (p:=λk=>lexLt (ls.getD k []) (ls.getD j [])) (q:=λk=>lexLt (ls.getD k []) (ls.getD i [])) (λk v=>Eu _ _ _ v e) (List.range ls.length);lia
end
section
open PySem.W HT
def Ui(i:Nat)(r:IntsAre us v)(B:IntsAre vs ms)(h:Q (lexLt v ms) s):KatLex prog w A b ↥(v.length<ms.length) Q (us.zip vs) i s:=by
 induction r generalizing vs ms i with
 |nil=>cases B<;>show kat_nil h
 |@cons n _ _ v r F=>cases B with
  |nil=>show kat_nil h
  |@cons m _ _ ms B=>
   let e:↥((n::v).length<(m::ms).length)=↥(v.length<ms.length):=decide_eq_decide.2 Nat.succ_lt_succ_iff;rw[e];show kat_cons (wpAny_eqBool_int ?_);rw[sI]at h;by_cases nm:n=m
   .rw[q8 nm]at h;rw[show(n==m)=true by simp[nm]];show kat_yes (F (i+1) B h)
   .rw[q9 nm]at h;rw[show(n==m)=false by simp[nm]];show kat_no ?_;cases(b&&i==0)with
    |true=>show oneLt_int h
    |false=>show kat_one _ _ (PyProof.Rows.lt_int h)
def KY{P:α->Prop}{R:α->Shared->Prop}(v:∀i j(C:Bool->Shared->Prop),i<n->j<n->C ↥(rk i<rk j) s->kas_ask prog w A κ vs i j C s):
  ∀(t:KasT α),cH n rk t P->(∀a,P a->R a s)->t.kasWp (kas_ask prog w A κ vs) R s
 |.ret a,h,q=>q a h
 |.ask i j k,h,q=>v i j _ h.1 h.2.1 (KY v (k _) h.2.2 q)
def rest(h₀:Heap)(L:Addr)(h:Heap):List (Addr×Obj):=(List.range h.objs.size).filterMap λb=>if b=L then none else if(h₀.get? b).isSome then none else(h.get? b).map λo=>(b,o)
theorem zcA:p∈rest h₀ L h↔h.get? p.1=⇑p.2/\p.1≠L/\h₀.get? p.1=none:=by
 unfold rest;rw[mem_filterMap];constructor
 .rintro⟨b,_,e⟩;by_cases h1:b=L
  .rw[q8 h1]at e;cases e
  .rw[q9 h1]at e;cases h2:h₀.get? b with
   |some o=>rw[h2]at e;cases e
   |none=>rw[h2]at e;let#[o,i,v]:=qZ.mp e;cases v;show#[i,h1,h2]
 .rintro⟨i,v,B⟩;show#[p.1,qK.mpr (qe i),?_];rw[q9 v,B,i];rfl
def Ji:∀{bs:List Addr}{i:List Value},zR (bs.map V.ref) i->i=bs.map Value.ref
 |[],_,.nil=>rfl
 |b::bs,_,.cons r t=>by let e:_=Value.ref b:=r;rw[e,Ji t];rfl
def KB:∀bs:List Addr,zR (bs.map V.ref) (bs.map Value.ref)
 |[]=>.nil
 |_::bs=>.cons rfl (KB bs)
def ba(h:Heap)(b:Addr)(l:List Int):Prop:=∃us,IntsAre us l/\IsTup h b us.toArray
def Bh:∀{bs:List Addr}{ls:List (List Int)},Paired (λb l=>l≠[]/\ba h b l) bs ls->∃fs:List Value,KatTups h (bs.map Value.ref) fs/\fs.length=bs.length/\∀v∈fs,∃z t,v=Value.int z t
 |_,_,.nil=>#[[],.nil,rfl,λ_ z=>nomatch z]
 |_,_,.cons ⟨hne,us,r,o,e,c,n,d⟩ t=>by
  let#[fs,t1,t2,t3]:=Bh t;cases r with
  |nil=>show absurd rfl hne
  |cons i tk F=>
   show#[_::fs,.cons e c d rfl t1,by simp[t2],λv B=>?_];rcases qB.mp B with z|z
   .show#[_,_,z]
   .show t3 v z
def EU{R:α->β->Prop}:∀{l:List α}{m:List β}(i:Nat)(da:α)(db:β),Paired R l m->i<l.length->R (l.getD i da) (m.getD i db)
 |_,_,0,_,_,.cons r _,_=>r
 |_,_,i+1,da,db,.cons _ t,h=>EU i da db t ↑h
def iU(K:W.Frag):List V->Hp->VK->Prop:=λxs H Q=>∃(a:Addr)(bs:List Addr)(ls:List (List Int)),xs=[.ref a]/\bB K H a (bs.map V.ref)/\2<=bs.length/\bs.length<64/\
 Paired (λb l=>l≠[]/\aZ K H b (l.map V.int)) bs ls/\
 ∀p:Array Nat,p.Perm (List.range bs.length).toArray->lF (rQ ls) p bs.length->∀q,H q=none->Q (.ref q) (upd H q (.lst ((p.toList.map λi=>bs.getD i 0).map V.ref)))
def UA:aU X (.builtin "sorted") (iU X.K):=by
 intro zU s Z H xs Y Q I r h;let#[a,bs,L,rfl,hq,h2,h6,ht,q]:=h;cases r with
 |cons r1 r2=>
  cases r2;cases r1;let#[h7,rv,pl,_]:=I.list hq;let hv:=Ji rv;subst hv;let#[m,F]:=I.fr;let N:News X.base X.env.locals s.heap (rest X.base X.env.locals s.heap):=λp G=>zcA.mp G;show kat_sorted F N pl.isList (by rw[qp];show h2) (by rw[qp];show h6) λD e1 h' F' O hD=>?_;let kp:∀{h':Heap},Fr X.base X.env.locals h' m->News X.base X.env.locals h' (rest X.base X.env.locals s.heap)->∀b u,b≠X.env.locals->s.heap.get? b=⇑u->h'.get? b=⇑u:=λ{h'} F' O b u hb e=>by
   cases J:X.base.get? b with
   |some o=>rw[F.keep b o J]at e;rw[<-e];show F'.keep b o J
   |none=>show(O (b,u) (zcA.mpr #[e,hb,J])).1
  have tl:∀{d o B},News X.base X.env.locals h' ((d,o)::B)->News X.base X.env.locals h' B:=λN p G=>N p (qm _ G);let M:s.heap.get? D=none:=by
   cases e:s.heap.get? D with
   |none=>rfl
   |some u=>let#[_,n1,n2]:=O (D,seqObj "list" #[] e1) qo;show absurd (hD (D,u) (zcA.mpr #[e,n1,n2])) (lt_irrefl _)
  let tp:Paired (λb l=>l≠[]/\ba h' b l) bs L:=Paired.mapP ht λb l⟨h4,hs⟩=>by let#[Y,r,#[o,e,c,n,d],_]:=I.tuple hs;show#[h4,Y,ER r,o,kp F' (tl O) b o (λz=>?_) e,c,n,d];let#[m,#[o',es,ep,e',d',_],_]:=I.loc;rw[z,e']at e;cases e;rw[d']at d;cases d
  let#[fs,t1,t2,t3]:=Bh tp;let h9:L.length=bs.length:=(Paired.length tp).symm;show kat_kind (T:=.type "int") t1 ∅ (λv hv=>?_) (by rfl) ?_
  .obtain⟨z,t,rfl⟩:=t3 v hv;show Looks.of_pure rfl
  .refine KY (n:=bs.length) (rk:=rQ L) (P:=λp=>p.Perm (List.range bs.length).toArray/\lF (rQ L) p bs.length) (λi j C hi hj hc=>?_) _ (by rw[qp];show PH h2 λp a b=>#[a,b]) λp⟨p1,p2⟩=>?_
   .rw[HM ∅]at hc;show cps λ_ kk=>?_;let#[_,Y,r,o,e,c,n,d]:=EU i 0 [] tp hi;let#[_,h1,r',o',e',c',n',d']:=EU j 0 [] tp hj;show kk ?_;let g:∀i,i<bs.length->(bs.map Value.ref).getD i Value.none=.ref (bs.getD i 0):=λi hi=>by simp[hi]
    unfold kas_ask;rw[g i hi,g j hj];show kat_lt e d e' d' ?_;let l1:Y.toArray.size=(L.getD i []).length:=by rw[qt];show r.length
    let l2:h1.toArray.size=(L.getD j []).length:=by rw[qt];show r'.length
    rw[l1,l2];show Ui 0 r r' hc
   .refine KasFin.intro F' O (.head λp G=>ne_of_lt (hD p G)) λh3 c F3 N3=>?_;let eo:(p.toList.map λi=>(bs.map Value.ref).getD i Value.none)=(p.toList.map λi=>bs.getD i 0).map Value.ref:=by
     rw[qF];show map_congr_left λi hi=>?_;let h5:i<bs.length:=by let:=p1.mem_iff.mp (mem_toList_iff.mp hi);simpa using this
     simp[h5]
    rw[eo]at N3;let h8:p.toList.length=bs.length:=by let:=p1.size_eq;simpa using this
    show#[.ref D,_,Inv.laidF (s:=s) (t':=s.toks) (o:=.lst ((p.toList.map λi=>bs.getD i 0).map V.ref)) I (λm' x=>by rw[MO x F.ns];show F3.ns) (λb u hb e=>kp F3 (λp G=>N3 p (qm _ G)) b u hb e) M ?_,rfl,q p p1 p2 D ?_]
    .show#[by simp only[qp];rw[zn];lia,_,c,KB _,(N3 (D,_) qo).1]
    .cases e:H D with
     |none=>rfl
     |some u=>let#[v,z]:=zT.there (I.hok D u e);rw[M]at z;cases z
end
end FL
namespace FL
def tI(i:List Int):D:=.tup (i.map .int)
def eP:List D->Option (List (List Int))
 |[]=>⇑[]
 |.tup ds::r=>match bO ds with
  |some (x::xs)=>(eP r).map ((x::xs)::·)
  |_=>none
 |_::_=>none
def dF(l:List D):Option S:=if 2<=l.length/\l.length<64/\(eP l).isSome=true then ⇑(.lst ((cD l).map .sh))else none
def wW:List D->Option S
 |[.lst l]=>dF l
 |_=>none
def JB:∀{l:List D}{i:List Int},bO l=⇑i->l=i.map .int
 |[],_,h=>by cases h;rfl
 |.int x::r,i,h=>by rw[bO]at h;let#[ys,h1,rfl]:=qZ.mp h;rw[JB h1];rfl
def JO:∀{l:List D}{ls:List (List Int)},eP l=⇑ls->l=ls.map tI/\∀x∈ls,x≠[]
 |[],_,h=>by cases h;show#[rfl,λ_ z=>nomatch z]
 |.tup ds::r,ls,h=>by
  rw[eP]at h;split at h
  .rename_i x xs e;let#[ys,h1,rfl]:=qZ.mp h;let#[B,v]:=JO h1;show#[by rw[B,JB e];rfl,λz i=>?_];rcases qB.mp i with rfl|i
   .show λq=>nomatch q
   .show v z i
  .cases h
def KH:∀{ls:List (List Int)},(∀x∈ls,x≠[])->eP (ls.map tI)=⇑ls
 |[],_=>rfl
 |[]::_,h=>absurd rfl (h [] qo)
 |(x::xs)::ls,h=>by rw[qz];show(match bO ((x::xs).map D.int)with|some (x::xs)=>(eP (ls.map tI)).map ((x::xs)::·)|_=>none)=_;rw[ET,KH λy i=>h y (qm _ i)];rfl
def fM(l:List D):Option S:=if l.length<2 then ⇑(.lst (l.map .sh))else match dF l with
 |some s=>⇑s
 |none=>iE l
def bH:List D->Option S
 |[.lst l]=>fM l
 |_=>none
def Ta{ls:List (List Int)}(v:ls.length<64)(i:∀x∈ls,x≠[]):bH [.lst (ls.map tI)]=⇑(.lst ((cD (ls.map tI)).map .sh)):=by
 show fM _=_;unfold fM;by_cases h2:(ls.map tI).length<2
 .rw[q8 h2];match ls,h2 with
  |[],_=>rfl
  |[_],_=>rfl
  |_::_::_,h2=>simp at h2;lia
 .rw[q9 h2];rw[qp]at h2;let e:dF (ls.map tI)=⇑(.lst ((cD (ls.map tI)).map .sh)):=by unfold dF;rw[q8 #[by rw[qp];lia,by rw[qp];show v,by rw[KH i];rfl]]
  rw[e]
end FL
namespace FL
open PySem PySem.Spec PyProof.Rows L2
open HT
def Lp:∀i ms:List Int,aJ (i.map .int) (ms.map .int)=if lexLt i ms=true then .lt else if lexLt ms i=true then .gt else .eq
 |[],[]=>rfl
 |[],_::_=>rfl
 |_::_,[]=>rfl
 |x::i,y::ms=>by
  rw[qz,qz,sI,sI,aJ,aO];by_cases h:x<y
  .rw[q8 h,q9 (show¬x=y by lia),q8 (qS h)]
  .rw[q9 h];by_cases h2:y<x
   .rw[q8 h2,q9 (show¬y=x by lia),q9 (by simp;lia -verbose),q8 (qS h2)]
   .let e:x=y:=by lia
    subst e;rw[q9 h2,q8 rfl,q8 rfl];show Lp i ms
def Cu(i ms:List Int):fU (tI i) (tI ms)=!lexLt ms i:=by
 unfold fU tI;rw[aO,Lp];cases e:lexLt i ms with
 |true=>rw[EG _ _ e];rfl
 |false=>
  cases v:lexLt ms i with
  |true=>rfl
  |false=>rfl
def Kc:∀a b:List Int,lexLt a b=false->lexLt b a=false->a=b
 |[],[],_,_=>rfl
 |[],_::_,h,_=>by cases h
 |_::_,[],_,h=>by cases h
 |x::a,y::b,h,g=>by
  rw[sI]at h g;by_cases e:x=y
  .subst e;rw[q8 rfl]at h g;rw[Kc a b h g]
  .rw[q9 e]at h;rw[q9 (Ne.symm e)]at g;lia
def km(d:D):Prop:=∃i,d=tI i
def Od:eU km where
 tot:=by
  rintro _ _ ⟨a,rfl⟩ ⟨b,rfl⟩;rw[Cu,Cu];cases e:lexLt b a with
  |false=>show .inl rfl
  |true=>show .inr (by rw[EG _ _ e];rfl)
 tr:=by
  rintro _ _ _ ⟨a,rfl⟩ ⟨b,rfl⟩ ⟨c,rfl⟩;rw[Cu,Cu,Cu];intro h1 h2;cases e:lexLt c a with
  |false=>rfl
  |true=>grind[Eu]
 anti:=by rintro _ _ ⟨a,rfl⟩ ⟨b,rfl⟩;grind[Cu,Kc]
section
variable{K:W.Frag}
def Je:∀{xs:List V}{ls:List (List Int)},zS K F xs (ls.map tI)->∃bs:List Addr,xs=bs.map V.ref/\Paired (λb l=>F b=⇑(.tup (l.map V.int))) bs ls
 |_,[],.nil=>#[[],rfl,.nil]
 |_,l::ls,.cons a b=>by
  let#[bs,e,t]:=Je b;cases a with
  |tup h r=>let#[i,_]:=Gc r (ET l);subst i;show#[_::bs,by rw[e];rfl,.cons h t]
def Kt:∀{bs:List Addr}{ls:List (List Int)},Paired (λb l=>F b=⇑(.tup (l.map V.int))) bs ls->zS K F (bs.map V.ref) (ls.map tI)
 |_,_,.nil=>.nil
 |_,_,.cons h t=>.cons (.tup h (EY _)) (Kt t)
def Lm{R:α->β->Prop}{l:List α}{m:List β}{da:α}{db:β}(h:Paired R l m):∀{q:List Nat},(∀i∈q,i<l.length)->Paired R (q.map λi=>l.getD i da) (q.map λi=>m.getD i db)
 |[],_=>.nil
 |i::q,z=>.cons (EU i da db h (z i qo)) (Lm h λj v=>z j (qm _ v))
def RT{R i:α->β->Prop}{l:List α}{m:List β}(h:Paired R l m)(f:∀a b,b∈m->R a b->i a b):Paired i l m:=by
 induction h with
 |nil=>show .nil
 |cons r _ v=>show .cons (f _ _ qo r) (v λa b B=>f a b (qm _ B))
def Tz{α:Type}(d:α):∀l:List α,(List.range l.length).map (λi=>l.getD i d)=l:=λl=>by show List.ext_getElem (by simp) λi h1 h2=>?_;simp[h2]
def Tn:bS K (iU K) wW:=by
 intro Z U F G H vs ds s Q B re e hq;let#[d,v,rfl,rfl]:=AB (λx y r=>by cases x<;>rfl) rfl re e;cases d with
 |lst l=>
  let e:dF l=⇑s:=e;unfold dF at e;split at e
  .rename_i hc;cases e;let#[h2,h5,h3]:=hc;let#[ls,q1]:=Option.isSome_iff_exists.mp h3;let#[el,Y]:=JO q1;subst el;rw[qp]at h2 h5;let#[a,xs,rfl,h1,r1]:=re.1.lst B.fr;let#[bs,rfl,t]:=Je r1;let hl:bs.length=ls.length:=Paired.length t;show#[a,bs,ls,rfl,h1,∅,∅,RT t λb l hb h=>#[Y l hb,aZ.of (B.fr.at _ _ h)],λp L p2 q O=>?_];let J:∀i∈p.toList,i<bs.length:=λi hi=>by let:=L.mem_iff.mp (mem_toList_iff.mp hi);simpa using this
   let t2:=Lm (da:=0) (db:=[]) t (q:=p.toList) J;let pp:p.toList.Perm (List.range ls.length):=by let:=Array.perm_iff_toList_perm.mp L;rw[<-hl];simpa using this
   let I:(p.toList.map λi=>ls.getD i []).Perm ls:=(pp.map _).trans (by rw[Tz]);let M:p.size=bs.length:=by let:=L.size_eq;simpa using this
   have es:cD (ls.map tI)=(p.toList.map λi=>ls.getD i []).map tI:=by
    show DC Od (λd hd=>by let#[z,_,rfl]:=qL.mp hd;show#[z,rfl]) (I.map _) ?_;rw[qF,pairwise_map];show List.pairwise_iff_getElem.mpr λi j hi hj h6=>?_;simp only[Function.comp];rw[Cu];let h4:j<bs.length:=by rw[<-M];simpa using hj
    let k:=p2 i j ∅ h4;let gi:∀i(h:i<p.toList.length),kA (rQ ls) p i=rQ ls p.toList[i]:=λi h=>by unfold kA;rw[getElem?_eq_getElem h];simp
    rw[gi i hi,gi j hj]at k;let hb:=J _ (getElem_mem hj);let:=HM (ls:=ls) (i:=p.toList[j]) (j:=p.toList[i]) ∅;rw[<-this,qT ∅];rfl
   rw[es]at hq;show hq _ F _ (zF.refl F) (B.newLD O (Kt t2))
  .cases e
 |_=>cases e
end
end FL
namespace FL
open PySem PySem.Spec PyProof.Rows L2
def OP{vs:List Value}(few:vs.length<2):(vs.toArray.zip vs.toArray).map (·.2)=vs.toArray:=by rw[List.zip_toArray,List.map_toArray,List.map_snd_zip (zb _)]
def Qk(B:s.heap.get? a=⇑(seqObj "list" vs.toArray n))(few:vs.length<2)
  (k:P (.done (.ret .none)) {s with heap:=sortedHeap s.heap a vs vs.toArray}):wpAny (model prog w) A (Builtin.«list.sort» ⟨[.ref a],[]⟩) P E s:=by
 rw[list_sort_plain];let i:vs.toArray.size<2:=few;let F:∃e,(s.heap.update a (Obj.mapSeq λ_=>#[])).get? a=⇑(seqObj "list" #[] e):=#[_,get?_update_seq B _]
 obtain⟨e,mid⟩:=F;let v:(((s.heap.update a (Obj.mapSeq λ_=>#[])).push (seqObj "tuple" vs.toArray 0)).push (seqObj "list" #[] 0)).get? a=⇑(seqObj "list" #[] e):=
  qc _ (qc _ mid)
 show qa (listItems_at B rfl (qa (listUpdate_at B rfl (qa (seqEpoch_at mid rfl (qa (wpAny_newTuple (qa (wpAny_newList (zp ?_))))))))));dsimp only;rw[q8 i,q8 i];show qa (qb (?_:wpAny _ _ _ _ _ _));let G:(arrOf (SortSt.mk' general' (vs.toArray.zip vs.toArray) #[] 7 none)).map (·.2)=vs.toArray:=by show OP few
 show qa (qb (?_:wpAny _ _ _ _ _ _));rw[G];show qa (seqEpoch_at v rfl (qa (listUpdate_at v rfl ?_ (hsz2:=by rw[zn];lia))));simp;show qb k
def SV(v:s.heap.IsList l vs.toArray)(few:vs.length<2)
  (k:Q (.ref (s.heap.objs.size+1)) {s with heap:=sortedAll s.heap vs vs.toArray}):wpAny (model prog w) A (call (.builtin "sorted") [.ref l]) Q E s:=by
 show Calls.call_function_entry kind_sorted plain_sorted entry_sorted (args_sorted1 _) (?_:wpAny _ _ _ _ _ _);show qa (m:=checkCount "sorted" 1 1 _) (qb (qa (collect_list v (qa (wpAny_newList ?_)))));generalize i:((s.heap.push (seqObj "list" #[] 0)).update s.heap.objs.size (Obj.mapSeq (·++vs.toArray)))=h1;let z:h1.objs.size=s.heap.objs.size+1:=by rw[<-i,Heap.size_update,size_push']
 let new:(h1.push (seqObj "list" vs.toArray 0)).get? (s.heap.objs.size+1)=⇑(seqObj "list" vs.toArray 0):=z▸qd _ rfl;rw[z];show qa (zp (zm slot_list_sort #[_,new,rfl] entry_list_sort (Qk new few #[_,rfl,?_]) (args_list_sort _)));subst i;show qb #[_,rfl,k]
section
variable{K:W.Frag}
def mB(K:W.Frag):List V->Hp->VK->Prop:=λxs H Q=>∃a ys,xs=[.ref a]/\bB K H a ys/\ys.length<2/\∀q,H q=none->Q (.ref q) (upd H q (.lst ys))
def UB:aU X (.builtin "sorted") (mB X.K):=by
 intro zU s Z H xs L Q I r h;let#[a,ys,rfl,G,h2,q]:=h;cases r with
 |cons B v=>cases v;cases B;let#[i,r,F,_]:=I.list G;show SV F.isList (by rw[<-r.length];show h2) ?_;let#[e,J]:=sortedAll_at s.heap i i.toArray;show#[.ref (s.heap.objs.size+1),_,I.laid (t':=s.toks) (o:=.lst ys) (λb M w=>sortedAll_old w) (le_succ _) ?_,rfl,q _ (I.hok.fresh (le_succ _))];show#[by rw[zn];lia,i,e,r,J]
def JN:∀{xs:List V}{l:List D},zS K F xs l->xs.length=l.length
 |_,_,.nil=>rfl
 |_,_,.cons _ t=>by rw[qu,qu,JN t]
def lZ(K:W.Frag):List V->Hp->VK->Prop:=λxs H Q=>mB K xs H Q\/iU K xs H Q\/gS K xs H Q
def TK:aU X (.builtin "sorted") (lZ X.K):=λzU s Z H xs i Q I r h=>by
 rcases h with h|h|h
 .show UB zU s Z H xs i Q I r h
 .show UA zU s Z H xs i Q I r h
 .show Uw zU s Z H xs i Q I r h
def Tt:bS K (lZ K) bH:=by
 intro Z U F G H O Y s Q i B e J;let#[d,v,rfl,rfl]:=AB (λx y r=>by cases x<;>rfl) rfl B e;cases d with
 |lst l=>
  let e:fM l=⇑s:=e;unfold fM at e;by_cases h2:l.length<2
  .rw[q8 h2]at e;cases e;let#[a,xs,rfl,h1,M]:=B.1.lst i.fr;show .inl #[a,xs,rfl,h1,by rw[JN M];show h2,λq I=>J _ F _ (zF.refl F) (i.newLD I M)]
  .rw[q9 h2]at e;cases L:dF l with
   |some t=>rw[L]at e;show .inr (.inl (Tn Z U F G H [v] [.lst l] s Q i B (L.trans e) J))
   |none=>rw[L]at e;show .inr (.inr (Ud Z U F G H [v] [.lst l] s Q i B e J))
 |_=>cases e
def Gp(G:Gl X "sorted")(F:X.mg "sorted"=none)(B:bootBuiltins "sorted"=⇑(.builtin "sorted"))(J:FA X (e::es) v)(I:autoParam (starEach (e::es) X.env=(false,eval e X.env)::starEach es X.env) rZ9)(i:autoParam ((backTo pos (starEach es X.env)).any (·.1)=false) rZ9):FE X (.Call (.Name "sorted" p) (e::es) [] pos) (wB bH v):=
 Cz (λpn xe=>TK (X:=wp X pn xe)) Tt G F B J ⋯ ⋯ I i
end
end FL
namespace FL
def eM(a b:D):Option Bool:=match b with
 |.str l=>match a with
  |.str x=>⇑(fR l x).isSome
  |_=>none
 |d=>nU a d
def bU(a b:D):Option Bool:=(eM a b).map (!·)
def cL(j:Nat)(i e:WE):WE:=λU Q E=>match slot U j with
 |some (.lst _)=>i U (λy v=>match view y v,slot v j with
  |some (.int n),some (.lst l)=>zz (ixN l.length n) λm=>match l[m]? with
   |some (.lst l')=>e (v.set j none) (λr B=>zz (give r B) λp=>l'.length<big/\Q (.v (.sh .non)) (p.2.set j ⇑(.lst (l.set m (.lst (l'++[p.1])))))) E
   |_=>False
  |_,_=>False) E
 |_=>False
def dW(a:WE):WE:=λU Q E=>a U (λr i=>zz (give r i) λp=>Q (.v (.sh p.1.toD)) p.2) E
def fh(i:Nat)(w:WS):WS:=λD U=>w {D with nx:=λv=>zz (slot v i) λs=>D.nx (v.set i ⇑(.sh s.toD))} U
def mI(d q:D):Option (Option D):=match d with
 |.dct t ks vs=>if bN t q then ⇑(lk ks vs q)else none
 |_=>none
def wM:D->Bool
 |.dct _ _ _=>true
 |_=>false
def lV(o k d:WE):WE:=λU Q E=>o U (λx v=>(zz (zQ x v) λF=>wM F=true)/\k v (λy B=>d B (λz i=>
 zz (zQ x i) λF=>zz (view y i) λq=>zz (mI F q) λo=>match o with
  |some e=>Q (.v (.sh e)) i
  |none=>Q z i) E) E) E
def gP(a b:WE):WE:=λU Q E=>a U (λx v=>b v (λy i=>zz (zQ x i) λB=>zz (view y i) λq=>zz (mI B q) λo=>zz o λe=>Q (.v (.sh e)) i) E) E
def kO:List D->Option S
 |[.lst l]=>(bO l).bind λi=>(i.min?).map λm=>S.sh (.int m)
 |_=>none
def fB(a:WE):WE:=λU Q E=>a U (λr i=>zz (zQ r i) λd=>match d with
 |.tup l=>l.length<=big/\Q (.v (.sh (.tup l.reverse))) i
 |_=>False) E
mutual
def pC:D->Bool
 |.non=>true
 |.bl _=>true
 |.int i=>↥(-1000000000000<i)&&↥(i<1000000000000)
 |.str l=>l.all λc=>↥(c<1114112)
 |.tup l=>eA l
 |.lst l=>eA l
 |_=>false
def eA:List D->Bool
 |[]=>true
 |d::r=>pC d&&eA r
end
mutual
def xE:D->Nat
 |.int _=>41
 |.str l=>l.length
 |.tup l=>lH l
 |.lst l=>lH l
 |_=>0
def lH:List D->Nat
 |[]=>0
 |d::r=>xE d+1+lH r
end
def cE(p q:D):Option S:=match p,q with
 |.str x,.int n=>if 0<=n/\n<=1000/\x.length<=500 then ⇑(.sh (.str (List.replicate n.toNat x).flatten))else none
 |p,q=>mH p q
end FL
namespace FL
open PySem PySem.Spec PyProof.Rows L2
section
variable{K:W.Frag}
def Ue(x y:Str):Txt.contains x y=(fR x.cps.toList y.cps.toList).isSome:=by
 let h:=OX x y;unfold Txt.find at h;unfold Txt.contains;cases q:Builtin.Str.occurrences x y 0 x.length 1 with
 |nil=>
  rw[q]at h;cases e:fR x.cps.toList y.cps.toList with
  |none=>rfl
  |some i=>rw[e]at h;let h':(-1:Int)=(i:Int):=h;lia
 |cons i r=>
  rw[q]at h;cases e:fR x.cps.toList y.cps.toList with
  |none=>rw[e]at h;let h':((i:Nat):Int)=-1:=h;lia
  |some i=>rfl
def tY(neg:Bool):R2:=λx y H Q=>∃z u,x=.str z/\y=.str u/\Q (.bl (if neg then !(Txt.contains u z)else Txt.contains u z)) H
def Mp:OpR X (compareOp .In) (tY false):=by intro zU s Z H x y v u Q I B i h;let#[z,t,rfl,rfl,q]:=h;let#[t1,rfl]:=B;let#[t2,rfl]:=i;show SB.contains #[.bl _,H,I,rfl,q]
def QO:OpR X (compareOp .NotIn) (tY true):=by intro zU s Z H x y v u Q I B i h;let#[z,t,rfl,rfl,q]:=h;let#[t1,rfl]:=B;let#[t2,rfl]:=i;show SB.notContains #[.bl _,H,I,rfl,q]
def mE(K:W.Frag)(neg:Bool):R2:=λx y H Q=>gV K neg x y H Q\/tY neg x y H Q
def Io(i:X.A.units+32<cLine):OpR X (compareOp .In) (mE X.K false):=FL.OpR.or (Qc i) Mp
def Dx(i:X.A.units+32<cLine):OpR X (compareOp .NotIn) (mE X.K true):=FL.OpR.or (Ul i) QO
def Jz(v:aI K H x p)(i:aI K H y q)(e:eM p q=⇑k)(B:Q (.bl (if neg then !k else k)) H):mE K neg x y H Q:=by
 unfold eM at e;split at e
 .split at e
  .cases v with
   |str G J=>cases i with
    |str F I=>show .inr #[_,_,rfl,rfl,?_];rw[Ue,G,F,qg e];show B
  .cases e
 .show .inl (NU v i e B)
def JG:cG K (mE K false) eM:=λH x y p q k Q v i e B=>Jz v i e B
def DI:cG K (mE K true) bU:=λH x y p q k Q B v e F=>by
 unfold bU at e;cases i:eM p q with
 |none=>rw[i]at e;cases e
 |some b=>rw[i]at e;let G:(!b)=k:=qg e;subst G;show Jz B v i F
inductive mi(K:W.Frag)(F H:Hp)(xs:List V)(l:List S)(fp:List Addr)(m:Nat)(s:S):Prop
 |mk (x:V) (fa fi fb:List Addr):xs[m]?=some x->aF K F H x s fi->fp=fa++(fi++fb)->(∀{H':Hp}{v':V}{s':S}{fq:List Addr},(∀a∈fa++fb,H' a=H a)->aF K F H' v' s' fq->zI K F H' (xs.set m v') (l.set m s') (fa++(fq++fb)))->mi K F H xs l fp m s
def zI.at:∀{xs:List V}{l:List S}{fp:List Addr}{m:Nat}{s:S},zI K F H xs l fp->l[m]?=⇑s->mi K F H xs l fp m s
 |_,_,_,_,_,.nil,h=>by simp at h
 |_,_,_,0,_,.cons (fp:=fp) (fq:=fq) a b,h=>by simp at h;subst h;show#[_,[],fp,fq,rfl,a,rfl,λv r=>by rw[nil_append];show .cons r (b.mono (zF.refl F) λc i=>v c i)]
 |_,_,_,m+1,_,.cons (fp:=fp) (fq:=fq) a b,h=>by let#[x,J,G,I,h1,h2,rfl,B]:=zI.at (m:=m) b h;show#[x,fp++J,G,I,h1,h2,(qq ..).symm,λv r=>?_];rw[qq];show .cons (a.mono (zF.refl F) λc i=>v c (qk _ (qk _ i))) (B (λc i=>v c ((qy.mp i).elim (λz=>qk _ (qj _ z)) λz=>qj _ z)) r)
def Rel.hide2(r:Rel K (U++[⇑s]) (Z++[⇑v]) F G H)(h:U.length=Z.length):∃L fp,Rel K U Z F L H/\eT G L/\aF K F H v s fp/\(∀a∈fp,∃o,L a=⇑o/\H a=⇑o)/\
  ∀{U2:Env}{Z2:St}{I H2:Hp},zF F I->Rel K U2 Z2 I L H2->Rel K (U2++[⇑s]) (Z2++[⇑v]) I G H2:=by
 classical
 show cps λ_ kk=>?_;let#[fp,e,nd,ap]:=r.en;let#[f1,f2,rfl,a,b]:=e.cut h;let#[n1,n2,h2]:=qx.mp nd;show kk ?_;let b':=b;cases b' with
 |@so _ _ _ _ fs fn M Y=>
 cases Y;show#[λx=>if x∈fs++[]then H x else G x,fs,#[r.fr,λx o q=>?_,f1,a,n1,λx i=>?_],λx o q=>?_,M,λx i=>?_,λ{U2 Z2 I H2} O J=>?_]
 .by_cases z:x∈fs++[]
  .let:=b.in_ x z;grind
  .simp only[z]at q;show r.gr x o q
 .grind
 .grind
 .obtain⟨o,q,_⟩:=b.in_ x (qk _ i);grind
 .obtain⟨B,e2,h1,h3⟩:=J.en;let hk:∀x∈fs++[],H2 x=H x/\I x=none/\x∉B:=λx i=>by let#[o,q,_]:=b.in_ x i;let w:=J.gr x o (by simp only[i];show q);grind
  show#[J.fr,λx o q=>?_,B++(fs++[]),e2.app (b.mono O λx i=>(hk x i).1),?_,λx i=>?_]
  .let z:x∉fs++[]:=λz=>by grind
   show J.gr x o (by simp only[z];show q)
  .grind
  grind
def Rel.appendAt{D b:Addr}(r:Rel K (U++[⇑t,⇑(.lst l)]) (Z++[⇑v,⇑(.ref D)]) F G H)(h:U.length=Z.length)(hm:l[m]?=⇑(.lst l'))
  (hD:H D=⇑(.lst xs))(hb:xs[m]?=⇑(.ref b))(hy:H b=⇑(.lst ys)):
  ys.length=l'.length/\Rel K (U++[⇑(.lst (l.set m (.lst (l'++[t]))))]) (Z++[⇑(.ref D)]) F G (upd H b (.lst (ys++[v]))):=by
 let#[fp,e,nd,ap]:=r.en;let#[M,f2,rfl,a,c]:=e.cut h;cases c with
 |@so _ _ _ _ J f3 st c=>
 cases c with
 |@so _ _ _ _ fD fn sd nl=>
 cases nl;cases sd with
 |@lst _ h8 _ fl Y rl=>
 rw[hD]at Y;cases Y;let#[x,L,fi,I,B,sx,rfl,up]:=rl.at hm;rw[hb]at B;cases B;cases sx with
 |@lst _ h7 _ i O ry=>
 rw[hy]at O;cases O;show#[ry.len,?_];let hp:(M++(J++(D::(L++(b::i++I))++[]))).Perm (b::(M++(J++(D::(L++(i++I)))))):=by let h1:(L++b::(i++I)).Perm (b::(L++(i++I))):=perm_middle;show((h1.cons D).append_left (M++J)|>.trans ?_|>λz=>↑z);let h2:(D::b::(L++(i++I))).Perm (b::D::(L++(i++I))):=List.Perm.swap ..;show(h2.append_left (M++J)).trans ?_;show perm_middle.trans (by rw[qq])
 let h5:=hp.nodup_iff.mp nd;let#[nb,_]:=qM.mp h5;let ne:∀{w:List Addr},(∀x∈w,x∈M++(J++(D::(L++(i++I)))))->∀x∈w,upd H b (.lst (ys++[v])) x=H x:=λhw x B=>Ae λz=>nb (z▸hw x B);let h4:=ap b (hp.mem_iff.mpr qo);let new:aF K F (upd H b (.lst (ys++[v]))) (.ref b) (.lst (l'++[t])) (b::(i++J)):=.lst Aw (zI.snoc (ry.mono (zF.refl F) (ne λx B=>by simp[B])) (st.mono (zF.refl F) (ne λx B=>by simp[B])));let r2:=up (H':=upd H b (.lst (ys++[v]))) (ne λx B=>by rcases qy.mp B with z|z<;>simp[z]) new
 have e2:xs.set m (.ref b)=xs:=by
  apply ext_getElem?;intro j;by_cases hj:m=j
  .subst hj;rw[getElem?_set_self (qh.mp hb).1,hb]
  .rw[getElem?_set_ne hj]
 rw[e2]at r2;let h6:D≠b:=λz=>nb (by simp[z]);let top:aF K F (upd H b (.lst (ys++[v]))) (.ref D) (.lst (l.set m (.lst (l'++[t])))) (D::(L++((b::(i++J))++I))):=.lst ((Ae h6).trans hD) r2;let p:(M++((D::(L++((b::(i++J))++I)))++[])).Perm (M++(J++(D::(L++(b::i++I))++[]))):=by
  show List.Perm.append_left _ ?_;simp;let h1:(i++(J++I)).Perm (J++(i++I)):=by rw[<-qq,<-qq];show List.Perm.append_right _ qO
  let h2:(L++b::(i++(J++I))).Perm (J++(L++b::(i++I))):=by show((h1.cons b).append_left L).trans ?_;let h3:(b::(J++(i++I))).Perm (J++(b::(i++I))):=perm_middle.symm;show(h3.append_left L).trans ?_;rw[<-qq,<-qq];show List.Perm.append_right _ qO
  show(h2.cons D).trans ?_;show perm_middle.symm
 show#[zF.updR r.fr h4.1,λx o w=>?_,_,(a.mono (zF.refl F) (ne λx B=>by simp[B])).app (.so top .nil),p.nodup_iff.mpr nd,λx B=>ap x (p.mem_iff.mp B)];let B:x≠b:=λz=>by rw[z,h4.2]at w;cases w
 rw[Ae B];show r.gr x o w
end
def Ll(ho:FE X o (zv j))(hi:FE X i wi)(he:FE X e we)(hr:eE i:=by intro _ _;rfl)
  (h4:autoParam (attributeBase (.Subscript o i spos) "append" X.env (eval (.Subscript o i spos) X.env)=eval (.Subscript o i spos) X.env) rZ9)
  (h9:autoParam (((backTo cpos (starEach [e] X.env)).all (λx=>!x.1)&&(backToKw cpos (keywordEach [] X.env)).all (λx=>x.1.isSome)
   &&↥([e].length+([]:List Keyword).length+(if([]:List Keyword).isEmpty then 0 else 1)<30))=true) rZ9)
  (h3:autoParam ((apos.endLine==cpos.line)=true) rZ9)(hs:autoParam (starEach [e] X.env=[(false,eval e X.env)]) rZ9):FE X (.Call (.Attribute (.Subscript o i spos) "append" apos) [e] [] cpos) (cL j wi we):=λpn xe hp=>by
 show PE.imp (Df (X:=wp X pn xe) PySem.F.plainAttrs_list PySem.F.slot_list_append PySem.F.type_list_append GV (Eg (FJ (X:=wp X pn xe)) (ho pn xe hp) (hi pn xe hp) hr) (Aa he Ac hs pn xe hp) h4 h9 h3 hs rfl) λZ H Q q=>?_;let#[F,G,U,P,PX,e4,L,hm,hx]:=q;unfold cL at L;cases qs:slot U j with
 |none=>rw[qs]at L;show L.elim
 |some s0=>
  cases s0 with
  |lst l0=>
   rw[qs]at L;dsimp only at L;show#[F,G,U,λy O=>y=.loc j/\O=U,PX,e4,by unfold zv;rw[qs];show#[rfl,rfl],λy O o' F1 H1 J s1 r1 rv=>?_,hx];let#[rfl,rfl]:=J;let l1:=Ad r1;let Y:Z[j]?=⇑⇑o':=rv;let r2:=r1.drop l1;show#[F1,G,O,_,PX,r2,L,λz h5 i' F2 H2 I s2 r3 e3=>?_,hx.grow s1];let l2:=Ad r3;split at I
   .rename_i n l ei ql;let#[m,em,I]:=Ah I;split at I
    .rename_i l' el;let ri:=look (U':=[]) (Z':=[]) r3 l2 e3 ei;let r4:=r3.drop l2;let#[v',fp,e1,sr]:=r4.at ql;rw[Y]at e1;let e2:o'=v':=by simpa using e1
     subst e2;let r5:=Rel.lend (U':=[]) (Z':=[]) (r4.pushN (u:=⇑o')) l2 ql Y;let l5:(h5.set j none).length=Z.length:=↑l2
     let#[G2,fq,r6,gg,sq,hG,back]:=r5.hide2 l5;cases sq with
     |@lst a xs _ fl hD rl=>
     let#[x,fa,fi,fb,h7,sx,ha,_]:=rl.at el;cases sx with
     |@lst b ys _ fy hy ry=>
     cases ri;let hq:L2.atI xs n=⇑(.ref b):=by
      let e':L2.ixN xs.length n=⇑m:=by rw[rl.len];show em
      unfold L2.atI;rw[e'];show h7
     show .inl #[a,xs,n,_,rfl,rfl,bB.of hD,hq,.inl #[rfl,_,bB.of hy],F2,G2,h5.set j none,λrs M=>match rs with|[r]=>(zz (give r M) λp=>l'.length<big/\P (.v (.sh .non)) (p.2.set j ⇑(.lst (l.set m (.lst (l'++[p.1]))))))|_=>False,PX,r6,I,λrs M vs F3 H3 J s3 r7 hl B=>?_,hx.mono (λ_ z=>z) (s1.trans s2) gg];match rs,vs,B,r7,J with
     |[r],[v],B,r7,J=>
      let#[#[t,k1],eg,J]:=Ah J;let r8:=back s3 r7;simp at r8;let l3:M.length=Z.length:=hl;let#[F4,s4,l4,r9]:=Al (U':=[⇑(.lst l)]) (Z':=[⇑(.ref a)]) r8 l3 B.1 eg;let kept:∀c∈a::fl,H3 c=H2 c:=λc hc=>by let#[o,h1,h2]:=hG c hc;rw[(r7.gr c o h1).1.1,h2]
      let hb:b∈a::fl:=qm _ (by rw[ha];simp);let#[h8,hd]:=Rel.appendAt r9 (l4.trans l3) el ((kept a qo).trans hD) h7 ((kept b hb).trans hy);let h6:=Rel.back1 (U':=[]) (Z':=[]) (i:=j) hd (l4.trans l3) Y;rw[qA,qA]at h6;show#[b,ys,v,rfl,rfl,(kept b hb).trans hy,by rw[h8];show lt_trans J.1 ⋯,hm _ _ .non F4 _ J.2 (s1.trans (s2.trans (s3.trans s4))) (h6.push .non) trivial]
     |[],_,_,_,J=>show J.elim
     |[_],[],B,_,_=>show B.elim
     |[_],_::_::_,B,_,_=>show B.2.elim
     |_::_::_,_,_,_,J=>show J.elim
    .show I.elim
   .show I.elim
  |_=>rw[qs]at L;show L.elim
section
variable{K:W.Frag}
def Rel.frzEnd(r:Rel K (U++[⇑s]) (Z++[⇑v]) F G H)(h:U.length=Z.length):∃F',zF F F'/\Rel K (U++[⇑(.sh s.toD)]) (Z++[⇑v]) F' G H:=by let#[u,F',L,I,J,B]:=r.give (i:=U.length) (s:=s) Cy;rw[show(U++[⇑s]).set U.length ⇑(S.sh s.toD)=U++[⇑(S.sh s.toD)] from GD]at B;show#[F',I,B]
end
section
variable{st:Stmt}
def Bl(he:FE X e Y):FE X e (dW Y):=λpn xe hp=>by show PE.imp (he pn xe hp) λZ H Q q=>?_;let#[F,G,U,P,PX,B,hw,I,hx]:=q;show#[F,G,U,_,PX,B,hw,λr O v F1 H1 J s1 M rv=>?_,hx];let#[#[s,i],eg,J]:=Ah J;let#[F2,s2,l2,L]:=Al (U':=[]) (Z':=[]) M (Ad M) rv eg;let#[F3,s3,r3]:=Rel.frzEnd L (Ad L);show I _ i v F3 H1 J (s1.trans (s2.trans s3)) r3 trivial
def Mg(h:FS X ks st w):FS X ks st (fh i w):=λpn xe hp=>by show PS.imp (h pn xe hp) λD Z H q=>?_;let#[F,G,U,E,J,hw,n,b,c,r,x]:=q;show#[F,G,U,_,J,hw,λM I F' H' L kp O B=>?_,b,c,r,x];let#[s,es,L]:=Ah L;let#[v,F2,_,Y,_,r2]:=B.give es;show n _ I F2 H' L kp (O.trans Y) r2
end
section
variable{K:W.Frag}
def IX(h:mI d q=⇑o):∃t ks vs,d=.dct t ks vs/\bN t q=true/\lk ks vs q=o:=by unfold mI at h;grind
def ij:R2:=λx y H Q=>∃a v,x=.ref a/\fX H a y ⇑v/\Q v H
def NQ(Y:X.A.units+1<cLine):nY X ij:=by
 intro B F zU s Z H x y v u Q I O M h hs;let#[a,r,rfl,g,q]:=h;cases O;let hT:=Uc I g;let h2:=RM (E:=X.xe) Y I g M (Q:=EP X zU Z Q) λw' s3 I3 L=>#[r,H,I3,L,q]
 show qa ?_;show qa (wpAny_specialOf hT PySem.F.slot_dict_getitem.lookup ?_);let G:wpAny (model X.prog X.w) X.A (subscripted F false (.ref a) u) (λr i=>wpAny (model X.prog X.w) X.A (letTemporaryGo B (.ref a) r>>=λ_=>pure r) (EP X zU Z Q) X.xe i) X.xe s:=by rw[hs];show wpAny_operating (zt h2 (λr i J=>qa (wpAny_letTemporaryGo (qb J))) λ_ _ x=>x)
 first
  |show qb (qa G)
  |show qa (qb (qa G))
  |show qa G
def Hz{vs:List α}{P:V->α->Prop}(v:zV.length=vs.length)(h:∀(i:Nat) x y,(zV.map (·.2))[i]?=⇑x->vs[i]?=⇑y->P x y):
  (lk (zV.map λp=>aH p.1) vs (aH key)=none/\bZ zV key=none)\/∃x y,bZ zV key=⇑x/\lk (zV.map λp=>aH p.1) vs (aH key)=⇑y/\P x y:=
 Dt aH (λ_ _=>CC) zV vs key P v h
def Hy{vs:List α}{key:List bD}{P:V->α->Prop}(v:zV.length=vs.length)(h:∀(i:Nat) x y,(zV.map (·.2))[i]?=⇑x->vs[i]?=⇑y->P x y):
  (lk (zV.map λp=>D.tup (p.1.map aH)) vs (D.tup (key.map aH))=none/\bZ zV key=none)\/∃x y,bZ zV key=⇑x/\lk (zV.map λp=>D.tup (p.1.map aH)) vs (D.tup (key.map aH))=⇑y/\P x y:=
 Dt (λl=>D.tup (l.map aH)) (λa b z=>Fb (D.tup.inj z)) zV vs key P v h
def JK(L:aI K H x d)(J:bN t d=true)
  (O:(∃zV,t=false/\Rd H a (.dK zV)/\ks=zV.map (λp=>aH p.1)/\zS K F (zV.map (·.2)) vs)\/∃zV,t=true/\Rd H a (.dT zV)/\ks=zV.map (λp=>D.tup (p.1.map aH))/\zS K F (zV.map (·.2)) vs):
  ∃o,fX H a x o/\((lk ks vs d=none/\o=none)\/∃v e,o=⇑v/\lk ks vs d=⇑e/\aI K F v e):=by
 rcases O with⟨zV,rfl,e,k,r⟩|⟨zV,rfl,e,k,r⟩
 .obtain⟨key,rfl,rfl⟩:=CP L J;show#[_,.inl #[zV,key,e,rfl,rfl],?_];rw[k];rcases Hz (zV:=zV) (vs:=vs) (key:=key) (P:=λv e=>aI K F v e) (by let:=r.len;simpa using this) (λi x y h1 h2=>by let#[M,B,I]:=r.get h2;rw[h1]at B;cases B;show I)with⟨h1,h2⟩|⟨v,e,h1,h2,h3⟩
  .show .inl #[h1,h2]
  .show .inr #[v,e,h1,h2,h3]
 .cases L with
  |tup Y q=>
   let#[G,rfl,rfl]:=FQ q J;show#[_,.inr #[zV,G,_,e,rfl,Y,rfl],?_];rw[k];rcases Hy (zV:=zV) (vs:=vs) (key:=G) (P:=λv e=>aI K F v e) (by let:=r.len;simpa using this) (λi x y h1 h2=>by let#[M,B,I]:=r.get h2;rw[h1]at B;cases B;show I)with⟨h1,h2⟩|⟨v,e,h1,h2,h3⟩
   .show .inl #[h1,h2]
   .show .inr #[v,e,h1,h2,h3]
  |_=>cases J
def bC.dct(r:bC K F H v (.dct t ks vs))(M:zF F H):∃a,v=.ref a/\((∃zV,t=false/\Rd H a (.dK zV)/\ks=zV.map (λp=>aH p.1)/\zS K F (zV.map (·.2)) vs)\/
  ∃zV,t=true/\Rd H a (.dT zV)/\ks=zV.map (λp=>D.tup (p.1.map aH))/\zS K F (zV.map (·.2)) vs):=by
 rcases r with r|⟨a,xs,O,G,i,B,r⟩|⟨a,zV,J,I,G,i,B,L,r⟩|⟨a,zV,J,I,G,i,B,L,r⟩
 .cases r with
  |dK e k r=>show#[_,rfl,.inl #[_,rfl,Rd.mono M e,k,r]]
  |dT e k r=>show#[_,rfl,.inr #[_,rfl,Rd.mono M e,k,r]]
 .cases i
 .cases i;show#[a,G,.inl #[zV,rfl,.inl B,L,r]]
 .cases i;show#[a,G,.inr #[zV,rfl,.inl B,L,r]]
end
def NO(hu:X.A.units+1<cLine)(ho:FE X o wo)(hi:FE X i wi)(hd:FE X d wd)(m:M2 X o "get" apos i d cpos):FE X (.Call (.Attribute o "get" apos) [i,d] [] cpos) (lV wo wi wd):=λpn xe hp=>by
 refine PE.imp (QX (X:=wp X pn xe) hu (ho pn xe hp) (hi pn xe hp) (hd pn xe hp) #[m.base,m.few,m.line,m.trees]) λZ H Q q=>?_;let#[F,G,U,P,PX,h9,hw,h5,hx]:=q;show#[F,G,U,_,PX,h9,hw,λx U1 o' F1 H1 hk s1 r1 rv=>?_,hx];let#[hD,hk]:=hk;let l1:=Ad r1;let#[d0,e0,hD]:=Ah hD;let L:∃a,o'=.ref a/\kn H1 a:=by
  cases d0 with
  |dct t ks vs=>
   let#[hb,e4,e1,h4]:=AD (U':=[]) (Z':=[]) r1 l1 rv e0;let#[a,ea,h]:=e1.dct h4.fr;rcases h with⟨J,_,h,_⟩|⟨J,_,h,_⟩
   .show#[a,ea,.inl #[J,h]]
   .show#[a,ea,.inr #[J,h]]
  |_=>cases hD
 let#[a,rfl,L]:=L;show#[a,rfl,L,?_];let#[G1,h3,gg,back]:=r1.hide l1;show#[F1,G1,U1,_,PX,h3,hk,λy U2 i' F2 H2 e2 s2 r2 h8=>?_,hx.mono (λ_ z=>z) s1 gg];let l2:=Ad r2;let#[G2,Y,e3,M]:=r2.hide l2;show#[F2,G2,U2,_,PX,Y,e2,λz I d' F3 H3 B s3 r3 h7=>?_,hx.mono (λ_ z=>z) (s1.trans s2) (gg.trans e3)];let O:=Ad r3;let#[dd,ed,B]:=Ah B;let#[q,eq,B]:=Ah B;let#[oo,eo,B]:=Ah B;let r4:=back (s2.trans s3) (M s3 r3);simp at r4;let r5:Rel X.K (I++[zG y,zG x]) (Z++[⇑i',⇑(.ref a)]) F3 G H3:=Rel.mid (U:=I) (Z:=Z) r4 O;let ri:=look (U':=[zG x]) (Z':=[⇑(.ref a)]) r5 O h8 eq;let r6:Rel X.K ((I++[zG z])++[zG x]) ((Z++[⇑d'])++[⇑(.ref a)]) F3 G H3:=by let:=Rel.mid (U:=I++[zG z]) (Z:=Z++[⇑d']) (o:=zG y) (w:=⇑i') (U':=[zG x]) (Z':=[⇑(.ref a)]) ↑r4 (by simp[O]);show this
 let r7:=Rel.swap (U1:=[zG z]) (Z1:=[⇑d']) (U2:=[zG x]) (Z2:=[⇑(.ref a)]) O rfl ↑r6;let#[F4,s4,re,r8]:=AD (U':=[zG z]) (Z':=[⇑d']) r7 O rv ed;let#[t,ks,vs,rfl,h6,rfl]:=IX eo;let#[a',ea,hh]:=re.dct r8.fr;cases ea;let#[o2,g,h]:=JK ri h6 hh;show#[o2,g,?_];rcases h with⟨h1,rfl⟩|⟨v,e,rfl,h1,h2⟩
 .rw[h1]at B;show h5 _ I d' F4 H3 B (s1.trans (s2.trans (s3.trans s4))) r8 h7
 .rw[h1]at B;show h5 _ I v F4 H3 B (s1.trans (s2.trans (s3.trans s4))) ((r8.drop O).push h2) trivial
def Ci(hu:X.A.units+1<cLine)(ha:FE X a wa)(hb:FE X b wb)(hs:eE b:=by intro _ _;rfl):FE X (.Subscript a b pos) (gP wa wb):=λpn xe hp=>by
 show PE.imp (Eg (NQ (X:=wp X pn xe) hu) (ha pn xe hp) (hb pn xe hp) hs) λZ H Q q=>?_;show(CD (k:=λx y U2 Q E=>zz (zQ x U2) λdd=>zz (view y U2) λq=>zz (mI dd q) λo=>zz o λe=>Q (.v (.sh e)) U2) q).mono λv H1 h1=>h1.mono λu H2 h2=>?_;let#[F,G,U,x,y,P,PX,B,J,rx,ry,hk,O,hx]:=h2;let#[dd,ed,h5]:=Ah hk;let#[q,eq,h4]:=Ah h5;let#[o,eo,h3]:=Ah h4;let#[e,ee,Y]:=Ah h3;let i:Rel X.K (U++[zG x]) (Z++[⇑v]) F G H2:=Rel.mid (U:=U) (Z:=Z) (Rel.swap (U1:=[zG x]) (Z1:=[⇑v]) (U2:=[zG y]) (Z2:=[⇑u]) J rfl B) J;let ru:=look (U':=[]) (Z':=[]) (B.mid J) J ry eq;let#[F4,s4,re,M]:=AD (U':=[]) (Z':=[]) i J rx ed;rw[qA,qA]at M;let#[t,ks,vs,rfl,L,I]:=IX eo;let#[c,rfl,hh]:=re.dct M.fr;let#[o2,g,h]:=JK ru L hh;rcases h with⟨h1,rfl⟩|⟨w,e',rfl,h1,h2⟩
 .rw[I,ee]at h1;cases h1
 .rw[I,ee]at h1;cases h1;show#[c,w,rfl,g,O _ U _ F4 H2 Y s4 (M.push h2) trivial]
def Rx(hh:A.handled=none)(G:s.heap.IsList l vs.toArray)(hi:IntsAre vs B)(L:0<B.length)
  (h:∀h' M(t:Tok) tk,(∀b x,s.heap.get? b=⇑x->h'.get? b=⇑x)->M∈B->(∀a,a∈B->M<=a)->Q (.int M t) {s with heap:=h',toks:=tk}):wpAny (model prog w) A (call (.builtin "min") [.ref l]) Q E s:=by
 let#[xs,e]:=hi.allInts.items;let i:B=xs.toList.map (·.1):=by rw[<-hi.numsOf,<-nums_intItems,<-e]
 let F:0<xs.size:=by grind
 rw[e]at G;show min_intList hh G F λv h' tk J O=>?_;let#[t,rfl]:=intItems_at J;let#[h1,h2]:=argBest_lt (numAt xs) (xs.size-1);show h _ _ t tk O ?_ λa I=>?_
 .rw[i,numAt_eq];show getD_mem (by rw[qp,qW];lia)
 .rw[i]at I;let#[j,Y,rfl]:=mem_getD I;rw[qp,qW]at Y;rw[<-numAt_eq];show h2 j ∅
section
variable{K:W.Frag}
def rT(K:W.Frag):List V->Hp->VK->Prop:=λxs H Q=>∃(a:Addr)(i:List Int),xs=[.ref a]/\bB K H a (i.map V.int)/\0<i.length/\∀M,M∈i->(∀a,a∈i->M<=a)->Q (.int M) H
def Sd(O:X.calm=true):aU X (.builtin "min") (rT X.K):=by intro zU s Z H xs Y Q I r h;let#[a,ns,rfl,L,i,q]:=h;let#[u,rfl,v]:=vals1 r;cases v;let#[J,B,F,hz]:=I.list L;show Rx (I.ok.hd O) F.isList (ER B) i λh' M t tk G h1 h2=>#[.int _,H,I.kept G,#[_,rfl],q M h1 h2]
def RD:bS K (rT K) kO:=by
 intro Z U F G H vs ds s Q i B e L;let#[d,v,rfl,rfl]:=AB (λx y r=>by cases x<;>rfl) rfl B e;cases d with
 |lst l=>let#[a,xs,rfl,h1,J]:=B.1.lst i.fr;let#[I,en,e]:=Option.bind_eq_some_iff.mp e;let#[m,em,rfl]:=qZ.mp e;let#[rfl,_]:=Gc J en;show#[a,I,rfl,h1,by cases I with|nil=>cases em|cons _ _=>simp,λM h2 h3=>?_];let#[Y,O]:=List.min?_eq_some_iff.mp em;let:M=m:=Int.le_antisymm (h3 m Y) (O M h2);subst this;show L _ F H (zF.refl F) (i.push (.int _))
 |_=>cases e
def NN(J:X.calm=true)(G:Gl X "min")(F:X.mg "min"=none)(B:bootBuiltins "min"=⇑(.builtin "min"))(L:FA X (e::es) v)(I:autoParam (starEach (e::es) X.env=(false,eval e X.env)::starEach es X.env) rZ9)(i:autoParam ((backTo pos (starEach es X.env)).any (·.1)=false) rZ9):FE X (.Call (.Name "min" p) (e::es) [] pos) (wB kO v):=
 Cz (λpn xe=>Sd (X:=wp X pn xe) J) RD G F B L ⋯ ⋯ I i
end
end FL
namespace FL
open PySem PySem.Spec PyProof.Rows
def RX:typeLookup (.type "tuple") "__reversed__"=pure none:=by first|rfl|assumption|(simp_all;done)
def JJ:typeLookup (.type "tuple") "__getitem__"=pure ⇑(.builtin "tuple.__getitem__"):=by first|rfl|assumption|(simp_all;done)
def TH:isSubtype (.type "tuple") (.type "dict")=pure false:=by rw[isSubtype_type];kernel_rfl
def oX(t:Addr)(i:Int):Obj:={cls:=.type "reversed",data:=.fields [.ref t,rawInt i].toArray}
def Qd{items:Array Value}{R:Fin->Shared->Prop}(v:IsTup s.heap t items)(i:(items.size:Int)<2^63)
  (h:R (.done (.ret (.ref s.heap.objs.size))) {s with heap:=s.heap.push (oX t ((items.size:Int)-1)),toks:=s.toks+1+1}):
  wpAny (model prog w) A (Builtin.«reversed.__new__» #[[.type "reversed",.ref t],[]]) R E s:=by
 show qa (zr (newClass_reversed _) ?_);show qa (zr (a:=()) (by first|rfl|kernel_rfl) (qa (zr (a:=()) (by first|rfl|kernel_rfl) ?_)));show qa (wpAny_specialOf v.typeIs RX ?_);show qa ?_
 wp_delta
 show qa (wpAny_isInstance (b:=false) v.typeIs TH ?_);show qa (wpAny_specialOf v.typeIs JJ ?_);dsimp only;show qb ?_;show qa (PyProof.Rows.len_tuple v i ?_);show qa (zr (a:=⇑(items.size:Int)) rfl ?_);unfold Builtin.SmallTypes.newRecord;show qa (zk (qb ?_));show h
def QQ(t:Addr)(items:Array Value)(i:(items.size:Int)<2^63):Meets (Builtin.«reversed.__new__» #[[.type "reversed",.ref t],[]]) (λ_ R s=>IsTup s.heap t items/\
   R (.ok (.ret (.ref s.heap.objs.size))) {s with heap:=s.heap.push (oX t ((items.size:Int)-1)),toks:=s.toks+1+1}):=
 .of_wp λprog w A R s h=>Qd h.1 i #[_,rfl,h.2]
def UR:Slot "reversed" "__init__" "object.__init__":=
 .of (owner:="object") (n:="__init__") (by rw[typeLookup_type];kernel_rfl) (by decide+kernel) (by decide+kernel) (by decide+kernel) (by first|show .inl (by decide+kernel)|show .inr (by decide+kernel)) (by rw[isSubtype_type];kernel_rfl)
def Tu:TypeCalled "reversed" "reversed.__new__" "object.__init__":=#[by decide+kernel,by decide+kernel,#[_,_,F.mro_reversed],F.made_reversed,by decide+kernel,F.sub_reversed_self,UR]
def Sn{items:Array Value}(B:IsTup s.heap t items)(i:(items.size:Int)<2^63)
  (h:Q (.ref s.heap.objs.size) {s with heap:=s.heap.push (oX t ((items.size:Int)-1)),toks:=s.toks+1+1}):wpAny (model prog w) A (call (.type "reversed") [.ref t]) Q E s:=by
 show callType_new Tu ⋯ (F.typeCall_reversed_1 _) (F.newCall_reversed_1 _) (λv=>F.args_object_init_2 v _) F.entry_reversed_new (QQ t items i) #[B,?_];show#[#[_,qd _ rfl,rfl],h]
section
variable{s:Shared}
theorem zaG:Slot "reversed" "__next__" "reversed.__next__":=
 .of (owner:="reversed") (n:="__next__") (by rw[typeLookup_type];kernel_rfl) (by decide+kernel) (by decide+kernel) (by decide+kernel) (by first|show .inl (by decide+kernel)|show .inr (by decide+kernel)) (by rw[isSubtype_type];kernel_rfl)
def LC:entryFor table "reversed.__next__"=⇑Builtin.«reversed.__next__»:=entryFor_of_tree (by kernel_rfl)
def LD(a:Value):argsOk "reversed.__next__" #[[a],[]]:=by first|rfl|assumption|(simp_all;done)
def aX(h:Heap)(a t:Addr)(i:Int):Prop:=∃o,h.get? a=⇑o/\o.cls=.type "reversed"/\o.data=.fields [.ref t,rawInt i].toArray
def aX.typeIs(x:aX s.heap a t i):s.TypeIs (.ref a) "reversed":=let⟨o,ho,hc,_⟩:=x;#[o,ho,hc]
def SA{i:Nat}{items:Array Value}(B:aX s.heap it t (i:Int))(I:IsTup s.heap t items)(L:items[i]?=⇑x)(v:(items.size:Int)<2^63)
  (Y:∀h' tk,aX h' it t ((i:Int)-1)->Heap.SameBut it s.heap h'->Q ⇑x {s with heap:=h',toks:=tk}):wpAny (model prog w) A (pyNext (.ref it)) Q E s:=by
 let#[o,G,O,F]:=id B;let hi:i<items.size:=by grind
 refine qa (wpAny_attempt (wpAny_callSpecial?_slot (name:=Str.ofString "__next__") B.typeIs zaG (zm zaG B.typeIs LC ?_ (LD _))));show qa (zr (a:=(Value.ref it,[])) rfl ?_);show qa (zj G F (x:=.ref t) rfl (qa (zj G F (x:=rawInt (i:Int)) rfl ?_)));show wpAny _ _ (if(i:Int)<0 then _ else _) _ _ s;show qa (wpAny_specialOf I.typeIs JJ ?_);show qa (wpAny_mkInt ?_);let M:seqIndex? (i:Int) items.size=⇑i:=by
  unfold seqIndex?;let J:¬(i:Int)<0:=∅
  simp[hi,J]
 show qa (wpAny_attempt (PyProof.Rows.getItem_tuple (s:={s with toks:=s.toks+1}) (j:=i) (x:=x) (show IsTup s.heap t items from I) (Int.le_trans (Int.neg_nonpos_of_nonneg (Int.le_of_lt (Int.lt_of_le_of_lt (natCast_nonneg _) v))) (natCast_nonneg i)) (Int.lt_trans (Int.ofNat_lt.mpr hi) v) M L ?_));show qa (zj (s:={s with toks:=s.toks+1}) G F (x:=rawInt (i:Int)) rfl ?_);show qa (wpAny_setField (s:={s with toks:=s.toks+1}) G F (by simp) ?_);show qb #[x,rfl,qb (Y _ (s.toks+1) ?_ (Heap.SameBut.update ..))];show#[_,zi _ G (Obj.isFreed_of_fields (Obj.data_mapFields F _)),(Obj.cls_mapFields ..).trans O,by rw[Obj.data_mapFields F];simp]
def Rp(hh:A.handled=none)(hit:aX s.heap it t (-1))(hQ:∀h',Heap.ExtBut it s.heap h'->Q none {s with heap:=h'}):wpAny (model prog w) A (pyNext (.ref it)) Q E s:=by
 let#[o,ho,hc,hd]:=id hit;show qa (wpAny_attempt (wpAny_callSpecial?_slot (name:=Str.ofString "__next__") hit.typeIs zaG (zm zaG hit.typeIs LC ?_ (LD _))));show qa (zr (a:=(Value.ref it,[])) rfl ?_);show qa (zj ho hd (x:=.ref t) rfl (qa (zj ho hd (x:=rawInt (-1)) rfl ?_)));show wpAny _ _ (if(-1:Int)<0 then _ else _) _ _ s;show qa (wpAny_rule ?_);show qa ?_
 wp_delta
 show qa (wpAny_setField ho hd (by simp) ?_);let ho2:=zi (h:=s.heap) (a:=it) (Obj.mapFields (·.setIfInBounds 1 (rawInt (-1)))) ho (Obj.isFreed_of_fields (Obj.data_mapFields hd _));show wpAny_setField (s:={s with heap:=s.heap.update it (Obj.mapFields (·.setIfInBounds 1 (rawInt (-1))))}) ho2 (Obj.data_mapFields hd _) (by simp) ?_;show qa ?_;show qa ?_;show qa (zk ?_ (by size_fits));show qa (m:=firstArgMember _ _) (zr (a:=Value.none) (by first|rfl|(simp;rfl)) (zk ?_ (by size_fits)));show qa (wpAny_handled ?_);first|rw[show A.in1.handled=none from hh]|rw[hh]
 show qa (qb (wpAny_throw ?_));show qa (wpAny_isInstance (T:="StopIteration") (b:=true) ?ty isSubtype_stop ?_);case ty=>show#[_,qd _ rfl,rfl]
 show qb (hQ _ ?_);let x1:Heap.ExtBut it s.heap (s.heap.update it (Obj.mapFields (·.setIfInBounds 1 (rawInt (-1))))):=(Heap.SameBut.update s.heap it _).extBut;let x2:Heap.ExtBut it s.heap ((s.heap.update it (Obj.mapFields (·.setIfInBounds 1 (rawInt (-1))))).update it (Obj.mapFields (·.setIfInBounds 0 Value.none))):=λb o hb e=>(Heap.SameBut.update _ it _).extBut b o hb (x1 b o hb e);show(x2.push _).push _
def Ls:Slot "reversed" "__iter__" "reversed.__iter__":=
 .of (owner:="reversed") (n:="__iter__") (by rw[typeLookup_type];kernel_rfl) (by decide+kernel) (by decide+kernel) (by decide+kernel) (by first|show .inl (by decide+kernel)|show .inr (by decide+kernel)) (by rw[isSubtype_type];kernel_rfl)
def UN(a:Value):argsOk "reversed.__iter__" #[[a],[]]:=by first|rfl|assumption|(simp_all;done)
def UF:entryFor table "reversed.__iter__"=⇑Builtin.«dict_keyiterator.__iter__»:=
 entryFor_alias (id':="dict_keyiterator.__iter__") (by kernel_rfl) (by first|rfl|decide+kernel|(unfold String.splitOn;simp+decide [String.splitOnAux])) (by decide+kernel) (by kernel_rfl)
def KD(v:aX s.heap it t i)(h:Q (.ref it) s):wpAny (model prog w) A (pyIter (.ref it)) Q E s:=by show wpAny_pyIter_slot v.typeIs Ls (zm Ls v.typeIs UF (?_:wpAny _ _ (ret (.ref it)) _ _ s) (UN _));show qb #[_,rfl,"reversed",_,v.typeIs,zaG.lookup,h]
end
def aX.at(x:aX h a t i)(e:∀o,h.get? a=⇑o->h'.get? a=⇑o):aX h' a t i:=let⟨o,ho,r⟩:=x;#[o,e _ ho,r]
def DG{items:Array Value}(x:IsTup h t items)(e:∀o,h.get? t=⇑o->h'.get? t=⇑o):IsTup h' t items:=let⟨o,ho,r⟩:=x;#[o,e _ ho,r]
def SY{prog:Program}{w:World}{A:Around}(hh:A.handled=none)(I t:Addr)(hne:t≠I)(items:Array Value)(hfit:(items.size:Int)<2^63):
  Walks prog w A I [I,t] [I] items.size (λi v=>items[items.size-1-i]?=⇑v) (λi h=>i<=items.size/\aX h I t ((items.size:Int)-1-(i:Int))/\IsTup h t items) where
 sub:=λb hb=>by simp at hb;simp[hb]
 frame:=λ_ _ _ x hk=>#[x.1,x.2.1.at λo e=>hk I (by simp) o e,DG x.2.2 λo e=>hk t (by simp) o e]
 item:=λi s Q E hi x hQ=>by let hit:=x.2.1;rw[show(items.size:Int)-1-(i:Int)=((items.size-1-i:Nat):Int) by lia]at hit;let hx:items[items.size-1-i]?=⇑(items[items.size-1-i]'∅):=getElem?_eq_getElem _;show SA hit x.2.2 hx hfit λh' tk hit' hs'=>?_;show hQ _ h' tk hx #[∅,?_,DG x.2.2 λo e=>hs'.extBut t o hne e] λb o hb e=>hs'.extBut b o (λh=>hb (by simp[h])) e;rw[show((items.size-1-i:Nat):Int)-1=(items.size:Int)-1-((i+1:Nat):Int) by lia]at hit';show hit'
 done:=λs Q E x hQ=>Rp hh (by let:=x.2.1;rw[show(items.size:Int)-1-((items.size:Nat):Int)=-1 by lia]at this;show this) λh' he'=>hQ h' s.toks λb o hb e=>he' b o (λh=>hb (by simp[h])) e
 self:=λ_ _ _ _ x hQ=>KD x.2.1 hQ
end FL
namespace FL
open PySem PySem.Spec PyProof.Rows L2
def SL:typeLookup (.type "reversed") "__len__"=pure none:=by first|rfl|assumption|(simp_all;done)
theorem zb1:Slot "reversed" "__length_hint__" "reversed.__length_hint__":=
 .of (owner:="reversed") (n:="__length_hint__") (by rw[typeLookup_type];kernel_rfl) (by decide+kernel) (by decide+kernel) (by decide+kernel) (by first|show .inl (by decide+kernel)|show .inr (by decide+kernel)) (by rw[isSubtype_type];kernel_rfl)
def UH:entryFor table "reversed.__length_hint__"=⇑Builtin.«reversed.__length_hint__»:=entryFor_of_tree (by kernel_rfl)
def UP(a:Value):argsOk "reversed.__length_hint__" #[[a],[]]:=by first|rfl|assumption|(simp_all;done)
def Uu{items:Array Value}(i:aX s.heap it t ((items.size:Int)-1))(G:IsTup s.heap t items)(v:(items.size:Int)<2^63)
  (h:∀u tk,Q (.int (items.size:Int) u) {s with toks:=tk}):wpAny (model prog w) A (call (.builtin "reversed.__length_hint__") [.ref it]) Q E s:=by
 let#[o,B,I,F]:=id i;show zm zb1 i.typeIs UH ?_ (UP _);show qa (zr (a:=Value.ref it) rfl ?_);show qa (zj B F (x:=.ref t) rfl ?_);show qa (PyProof.Rows.len_tuple G v ?_);show qa (zr (a:=⇑(items.size:Int)) rfl ?_);show qa (zj B F (x:=rawInt ((items.size:Int)-1)) rfl ?_);show wpAny _ _ (if(items.size:Int)<(items.size:Int)-1+1 then _ else retInt ((items.size:Int)-1+1)) _ _ _;rw[q9 ∅,show(items.size:Int)-1+1=items.size by lia];show qa (wpAny_mkInt ?_);show qb #[_,rfl,h _ _]
def UM:typeOf (.builtin "reversed.__length_hint__")=pure (.type "method_descriptor"):=by first|rfl|assumption|(simp_all;done)
def Qb{items:Array Value}(i:aX s.heap it t ((items.size:Int)-1))(J:IsTup s.heap t items)(zX:items.size<=2^24)
  (h:∀tk,Q ((items.size:Int) !=0) {s with toks:=tk}):wpAny (model prog w) A (Builtin.List.listLengthHint (.ref it)) Q E s:=by
 show qa (wpAny_specialOf i.typeIs SL ?_);show qa (wpAny_specialOf i.typeIs zb1.lookup ?_)
 (generalize B:("reversed.__length_hint__":String)=F;wp_delta;rw[show splitId F=⇑("reversed","__length_hint__") from by subst B;decide+kernel];subst B)
 show qa (wpAny_isInstance (b:=true) i.typeIs (by rw[isSubtype_type];kernel_rfl) ?_);show wpAny_ite_split (λv=>absurd v ⋯) (λ_=>?_);show wpAny_ite_split (λv=>absurd v (by decide+kernel)) (λ_=>?_);show qa (wpAny_rule ?_);show qa (qa (zr UM ?_));show qb ?_;show qa (wpAny_attempt (Uu i J ∅ λu tk=>?_));show qa ?_;let G:Builtin.List.listTooLong ((items.size:Int).toNat)=false:=by simp[Builtin.List.listTooLong,sizeLine];lia
 let I:Builtin.List.listFitsIndex (items.size:Int)=true:=by simp[Builtin.List.listFitsIndex];lia
 let L:¬(items.size:Int)<0:=Int.not_lt.mpr (natCast_nonneg _);let h':=h tk;show qb ?_;simp only[I,G,L,Bool.not_true,if_false];show qb h'
def SS{R:Result->Shared->Prop}{items:Array Value}(hh:A.handled=none)(B:aX s.heap it t ((items.size:Int)-1))(ht:IsTup s.heap t items)(e2:t≠it)(zX:items.size<=2^24)
  (S:Addr)(res:Value)(O:Nat)(hS:s.heap.get? S=some {cls:=.type "list",data:=.seq #[] O})
  (hR:∀h' tk G c',(∀b o,b≠S->b≠it->s.heap.get? b=⇑o->Heap.get? h' b=⇑o)->Heap.get? h' S=some {cls:=.type "list",dict:=none,data:=.seq G c',slots:=#[]}->
   ItemsOf (λi v=>items[items.size-1-i]?=⇑v) G items.size->R (.ok (.ret res)) {s with heap:=h',toks:=tk}):
  wpAny (model prog w) A.in1 (Builtin.List.listExtendWith (.ref S) (.ref it) res)
   (λhx s'=>match hx with|.done f=>R (.ok f) s'|.again c'=>c'.quiet=true/\codeAny (model prog w) A c' R s') (λe s'=>R (.error e) s') s:=by
 let h6:S≠it:=λe=>by let#[o,ho,hc,_]:=B;rw[e,ho]at hS;cases hS;simp at hc
 let e1:S≠t:=λe=>by let#[o,ho,hc,_]:=ht;rw[e,ho]at hS;cases hS;simp at hc
 have e3:S∉[it,t]:=λhm=>by
  rcases qB.mp hm with e|hm
  .show h6 e
  .show e1 (qv.mp hm)
 have W:=(SY (prog:=prog) (w:=w) (A:=A.in1) hh it t e2 items ∅).toS;let h7:∀(h:Heap)(L tk:Nat),(0<=items.size/\aX h it t ((items.size:Int)-1-((0:Nat):Int))/\IsTup h t items)->(∀b o,b≠S->b≠it->s.heap.get? b=⇑o->h.get? b=⇑o)->
   h.get? S=some {cls:=.type "list",data:=.seq #[] L}->codeAny (model prog w) A (.builtin "list.extend.loop" #[[.ref S,.ref it,res],[]]) R {s with heap:=h,toks:=tk}:=by
  intro h L tk B hk h5;show codeAny_extend_loopS W (by rw[zn];lia) S e3 res items.size 0 _ #[] L rfl (zero_le _) B h5 (ItemsOf.nil _) λs' G c' hm e4 h9=>?_;rw[Moved.eq_with hm];show hR s'.heap s'.toks G c' (λb o Y h8 e=>hm.heap b o (λI=>?_) (hk b o Y h8 e)) e4 h9;rcases qB.mp I with e'|I
  .show Y e'
  .show h8 (qv.mp I)
 show qa (wpAny_typeOf (T:="reversed") B.typeIs ?_);let h1:Builtin.List.listSameRef (.ref S) (.ref it)=false:=by simp[Builtin.List.listSameRef,h6]
 let h2:(Value.type "reversed"==Value.type "list")=false:=⋯
 let h3:(Value.type "reversed"==Value.type "tuple")=false:=⋯
 simp only[h1,h2,h3,Bool.or_false,if_false];show qa (KD B ?_);show qa (zp (Qb B ht zX λtk=>?_));let M:aX s.heap it t ((items.size:Int)-1-((0:Nat):Int)):=↑B
 show wpAny_ite_split (λ_=>?_) (λ_=>qb #[plainId_quiet F.plain_extend_loop _,h7 _ O _ #[zero_le _,M,ht] (λb o _ _ e=>e) hS]);show qa (wpAny_rule ?_);show qa ?_;show qa (wpAny_updateSeq (s:={s with toks:=tk}) hS rfl ?_);let J:=zi (Obj.mapSeq (·.push Value.none)) hS rfl;show wpAny_updateSeq (hz:=by seq_fits) J rfl ?_;let h4:=zi (Obj.mapSeq (·.pop)) J rfl;let kk:∀b o,b≠S->s.heap.get? b=⇑o->((s.heap.update S (Obj.mapSeq (·.push Value.none))).update S (Obj.mapSeq (·.pop))).get? b=⇑o:=λb o Y e=>(zc _ _ (Ne.symm Y)).trans ((zc _ _ (Ne.symm Y)).trans e)
 show qb #[plainId_quiet F.plain_extend_loop _,h7 _ _ _ #[zero_le _,M.at λo e=>kk it o (Ne.symm h6) e,DG ht λo e=>kk t o (Ne.symm e1) e] (λb o Y _ e=>kk b o Y e) h4]
def Uj{items:Array Value}(hh:A.handled=none)(hit:aX s.heap it t ((items.size:Int)-1))(ht:IsTup s.heap t items)(hne:t≠it)(zX:items.size<=2^24)
  (hQ:∀(h':Heap) tk zZ,(∀b o,b≠it->s.heap.get? b=⇑o->h'.get? b=⇑o)->s.heap.objs.size<=h'.objs.size->ItemsOf (λi v=>items[items.size-1-i]?=⇑v) zZ items.size->Q zZ.toList {s with heap:=h',toks:=tk}):wpAny (model prog w) A (collect (.ref it)) Q E s:=by
 refine qa (wpAny_runValue (codeAny_builtin F.entry_proto_collect ?_));show qa (zk ?_);show qb #[plainId_quiet F.plain_list_iadd _,codeAny_builtin F.entry_list_iadd ?_];let hS₁:(s.heap.push {cls:=.type "list",data:=.seq ([]:List Value).toArray}).get? s.heap.objs.size=some {cls:=.type "list",data:=.seq #[]}:=qd _ rfl;refine SS (R:=λr s'=>match r with
  |.ok (.ret v)=>wpAny (model prog w) A (match v with
   |.ref a=>do
    let __do_lift<-load a
    match __do_lift.data with
     |.seq xs epoch=>pure xs.toList
     |x=>unsupported "internal:collect"
   |x=>unsupported "internal:collect") Q E s'
  |.ok a=>False
  |.error e=>E e s') (s:={s with heap:=s.heap.push {cls:=.type "list",data:=.seq ([]:List Value).toArray}}) hh (hit.at λo e=>qc _ e) (DG ht λo e=>qc _ e) hne zX _ _ 0 hS₁ λh' tk acc' c' hk hS' hacc=>?_
 show qa (wpAny_load hS' ?_);show qb (hQ h' tk acc' (λb o hb e=>hk b o (ne_of_lt (qe e)) hb (qc _ e)) (le_of_lt (qe hS')) hacc)
def UI{items:Array Value}(hh:A.handled=none)(hit:aX s.heap it t ((items.size:Int)-1))(ht:IsTup s.heap t items)(hne:t≠it)(zX:items.size<=2^24)
  (h:∀(h':Heap) tk zZ,(∀b o,b≠it->s.heap.get? b=⇑o->h'.get? b=⇑o)->s.heap.objs.size<=h'.objs.size->ItemsOf (λi v=>items[items.size-1-i]?=⇑v) zZ items.size->Q₁ (.ref h'.objs.size) {s with heap:=h'.push {cls:=.type "tuple",data:=.seq zZ},toks:=tk}):
  codeAny (model prog w) A (.call (.builtin "tuple.__new__") #[[.type "tuple",.ref it],[]]) (wants Q₁ E) s:=by
 show codeAny_of_tree ?_;show wpAny _ A.in1 (do checkBuiltinCall "tuple.__new__" #[[.type "tuple",.ref it],[]];again (.builtin "tuple.__new__" #[[.type "tuple",.ref it],[]])) _ _ s;show qa (zr (F.newCall_tuple_1 _) (qb #[plainId_quiet F.plain_tuple_new _,codeAny_builtin F.entry_tuple_new ?_]));rw[Around.under_plainId F.plain_tuple_new _];let hsub:=sub_tuple_self;let hinit:=init_tuple_lookup;let hmh:=madeHere_tuple;let hTI:s.TypeIs (.ref it) "reversed":=hit.typeIs
 wp_walk using wpAny_typeOf hTI,Uj (A:=A.in1) hh hit ht hne zX
 intro h' tk zZ hm hle hacc;show wpAny _ _ (Builtin.Tuple.tupleExact zZ.toList.toArray>>=λv=>ret v) _ _ _;unfold Builtin.Tuple.tupleExact;show qa (zk ?_ (by show zZ.toList.toArray.size<=sizeLine;simp only[toArray_toList];rw[hacc.1,zn];show zX));show qb ?_;let e:zZ.toList.toArray=zZ:=by simp
 rw[e];show h h' tk zZ hm hle hacc
def UE{items:Array Value}(hh:A.handled=none)(Y:aX s.heap it t ((items.size:Int)-1))(ht:IsTup s.heap t items)(M:t≠it)(zX:items.size<=2^24)
  (hQ:∀(h':Heap) tk J,(∀b o,b≠it->s.heap.get? b=⇑o->h'.get? b=⇑o)->s.heap.objs.size<=h'.objs.size->ItemsOf (λi v=>items[items.size-1-i]?=⇑v) J items.size->Q (.ref h'.objs.size) {s with heap:=h'.push {cls:=.type "tuple",data:=.seq J},toks:=tk}):
  wpAny (model prog w) A (call (.type "tuple") [.ref it]) Q E s:=by
 refine callType_codes (Q₁:=λI B=>B.TypeIs I "tuple"/\Q I B) F.called_tuple (F.typeCall_tuple_1 _) F.entry_object_init
  (UI (A:=A.in1) hh Y ht M zX λs' tk J hm O L=>#[#[_,qd _ rfl,rfl],hQ s' tk J hm O L]) λI B G=>?_
 show#[G.1,F.args_object_init_2 I _,object_init_meets F.called_tuple.init.lookup F.called_tuple.made ⋯ prog w A.in1 _ B #[G.1,rfl,G.2]]
section
variable{K:W.Frag}
def TX:bootBuiltins "reversed"=⇑(.type "reversed"):=by decide+kernel
def oV(K:W.Frag)(ta:TA):TE:=λZ H Q=>ta Z H λi H1=>∃t xs,i=[.ref t]/\aZ K H1 t xs/\xs.length<=2^24/\∀q,H1 q=none->Q (.ref q) (upd H1 q (.tup xs.reverse))
def SO(hc:X.calm=true)(hg:Gl X "tuple")(hm:X.mg "tuple"=none)(hv:bootBuiltins "tuple"=⇑(.type "tuple"))(h7:Gl X "reversed")(M:X.mg "reversed"=none)(ha:PA X [a] ta)
  (hs:starEach [a] X.env=[(false,eval a X.env)])(he:starEach [.Call (.Name "reversed" p1) [a] [] pos1] X.env=[(false,eval (.Call (.Name "reversed" p1) [a] [] pos1) X.env)]):
  PE X (.Call (.Name "tuple" p) [.Call (.Name "reversed" p1) [a] [] pos1] [] pos) (oV X.K ta):=by
 intro zU s Z H Q I h;show Call_ (BD I hg hm hv (PyProof.Rows.callWith_type1 (rest:=[]) ?_ he (by rfl)));show Calls.spliced_cons (Call_ (BD I h7 M TX (PyProof.Rows.callWith_type1 (Ai (ha pos1 zU s Z H _ I h) λus L zq=>?_) hs rfl)));let#[vs,H1,I1,r1,q1]:=zq;let#[t,xs,rfl,hq,hz,q]:=q1;let#[u,rfl,rx]:=vals1 r1;cases rx;let#[G,rv,pt,_]:=I1.tuple hq;let i:G.toArray.size=xs.length:=by rw[qt,rv.length]
 let O:t<L.heap.objs.size:=by let#[_,e,_]:=pt;show qe e
 show Sn pt (by rw[i];lia) (Calls.spliced_nil ?_);show UE (s:={L with heap:=L.heap.push (oX t ((G.toArray.size:Int)-1)),toks:=L.toks+1+1}) (items:=G.toArray) (I.ok.hd hc) ⟨_,qd _ rfl,rfl,rfl⟩ (DG pt λo e=>qc _ e) (ne_of_lt O) (by rw[i];lia) λh' tk J hk Y F=>?_;let h6:∀b o,L.heap.get? b=⇑o->(h'.push {cls:=.type "tuple",data:=.seq J}).get? b=⇑o:=λb o e=>qc _ (hk b o (ne_of_lt (qe e)) (qc _ e))
 let B:L.heap.objs.size<=h'.objs.size:=by show le_trans ?_ Y;rw[Heap.size_push];show le_succ _
 show#[.ref h'.objs.size,_,I1.laid (t':=tk) h6 B (show zT X.prog X.w _ (h'.push _) _ (.tup xs.reverse) from#[#[?_,iL.new rfl (qd _ rfl)],J.toList,?_,?_]),rfl,q _ (I1.hok.fresh B)]
 .rw[List.length_reverse];show hz
 .show Hb (by rw[List.length_reverse];let:=F.1;rw[i]at this;simp[this]) λj y v h1 h2=>?_;let h3:=F.2 j v (by rw[<-q5];show h2);let hj:j<xs.length:=by let:=(qh.mp h1).1;simpa using this
  rw[List.getElem?_reverse hj]at h1;rw[List.getElem?_toArray,i]at h3;let#[u,h4,h5]:=rv.get h1;rw[h3]at h4;cases h4;show h5
 .simpa using IsTup.new h' J
def zS.rev:∀{xs:List V}{l:List D},zS K F xs l->zS K F xs.reverse l.reverse
 |_,_,.nil=>.nil
 |_,_,.cons a b=>by rw[List.reverse_cons,List.reverse_cons];show(zS.rev b).append (.cons a .nil)
def SM(hc:X.calm=true)(hg:Gl X "tuple")(hm:X.mg "tuple"=none)(hv:bootBuiltins "tuple"=⇑(.type "tuple"))(h2:Gl X "reversed")(h1:X.mg "reversed"=none)(ha:FE X a wa)
  (hs:autoParam (starEach [a] X.env=[(false,eval a X.env)]) rZ9)(he:autoParam (starEach [.Call (.Name "reversed" p1) [a] [] pos1] X.env=[(false,eval (.Call (.Name "reversed" p1) [a] [] pos1) X.env)]) rZ9):
  FE X (.Call (.Name "tuple" p) [.Call (.Name "reversed" p1) [a] [] pos1] [] pos) (fB wa):=λpn xe hp=>by
 show PE.imp (SO (X:=wp X pn xe) hc hg hm hv h2 h1 (Aa ha Ac hs pn xe hp) hs he) λZ H Q q=>?_;let#[F,G,U,P,PX,O,hw,Y,hx]:=q;show#[F,G,U,λI B=>match I with|[r]=>(zz (zQ r B) λd=>match d with|.tup l=>l.length<=big/\P (.v (.sh (.tup l.reverse))) B|_=>False)|_=>False,PX,O,hw,λI B J F1 H1 i s1 r1 hl M=>?_,hx];cases I with
 |nil=>show i.elim
 |cons r I=>
  cases I with
  |cons x I=>show i.elim
  |nil=>
   cases J with
   |nil=>show M.elim
   |cons v J=>
    cases J with
    |cons x J=>show M.2.elim
    |nil=>
     let#[d,ed,i]:=Ah i;let#[F2,s2,re,L]:=AD (U':=[]) (Z':=[]) r1 hl M.1 ed;rw[qA,qA]at L;cases d with
     |tup l=>let#[hz,i]:=i;let#[t,xs,rfl,e,rx]:=bC.tup re;let h3:=rx.len;let hb:l.length<=1000000:=hz;show#[t,xs,rfl,aZ.of (L.fr.at _ _ e),∅,λq hq=>?_];let#[f0,_,_]:=L.free hq;show Y _ B _ _ _ i (s1.trans (s2.trans (zF.upd f0))) ((L.newF (o:=.tup xs.reverse) hq).push (.tup Aw (rx.rev.mono (zF.upd f0)))) trivial
     |_=>show i.elim
end
def IK(h1:-1000000000000<i)(h2:i<1000000000000):i.natAbs.log2<40:=by
 let:i.natAbs<2^40:=∅
 by_cases v:i.natAbs=0
 .rw[v];decide
 .show(Nat.log2_lt v).mpr this
mutual
theorem RR:∀d:D,pC d=true->lY d=true
 |.non,_=>rfl
 |.bl _,_=>rfl
 |.int i,h=>by let h':(↥(-1000000000000<i)&&↥(i<1000000000000))=true:=h;rw[and_eq_true,qU,qU]at h';let:=IK h'.1 h'.2;show ↥(i.natAbs.log2<1920)=true;rw[qU];lia
 |.str _,_=>rfl
 |.tup l,h=>GC l h
 |.lst l,h=>GC l h
 |.dct _ _ _,h=>by cases h
 |.set _,h=>by cases h
 |.exc _ _ _,h=>by cases h
theorem GC:∀l:List D,eA l=true->dP l=true
 |[],_=>rfl
 |d::r,h=>by rw[eA,and_eq_true]at h;rw[dP,RR d h.1,GC r h.2];rfl
end
mutual
theorem Ub:∀d:D,pC d=true->(dX d).leavesShort 13=true
 |.non,_=>rfl
 |.bl _,_=>rfl
 |.int i,h=>by let h':(↥(-1000000000000<i)&&↥(i<1000000000000))=true:=h;rw[and_eq_true,qU,qU]at h';let:=int_text_length_le10 (a:=i) (k:=12) ⋯ ∅;simp only[dX,PyData.leavesShort,qU];show(Str.ofString (toString i)).length<=13;rw[PySem.ofString_length];show this
 |.str l,h=>by let h':(l.all λc=>↥(c<1114112))=true:=h;simp only[dX,PyData.leavesShort,qJ,qU]at h'⊢;intro c v;let:=h' c ↑v;lia
 |.tup l,h=>by simp only[dX,PyData.leavesShort];show GX l h
 |.lst l,h=>by simp only[dX,PyData.leavesShort];show GX l h
 |.dct _ _ _,h=>by cases h
 |.set _,h=>by cases h
 |.exc _ _ _,h=>by cases h
theorem GX:∀l:List D,eA l=true->PyData.leavesShortAll 13 (cM l)=true
 |[],_=>rfl
 |d::r,h=>by rw[eA,and_eq_true]at h;simp only[cM,PyData.leavesShortAll,and_eq_true];show#[Ub d h.1,GX r h.2]
end
mutual
theorem TY:∀d:D,pC d=true->(dX d).weight<=xE d
 |.non,_=>zb _
 |.bl _,_=>zb _
 |.int i,h=>by let h':(↥(-1000000000000<i)&&↥(i<1000000000000))=true:=h;rw[and_eq_true,qU,qU]at h';let:=IK h'.1 h'.2;simp only[dX,PyData.weight,xE];split<;>lia
 |.str l,h=>by simp[dX,PyData.weight,xE]
 |.tup l,h=>by simp only[dX,PyData.weight,xE];show GZ l h
 |.lst l,h=>by simp only[dX,PyData.weight,xE];show GZ l h
 |.dct _ _ _,h=>by cases h
 |.set _,h=>by cases h
 |.exc _ _ _,h=>by cases h
theorem GZ:∀l:List D,eA l=true->PyData.weightAll (cM l)<=lH l
 |[],_=>zb _
 |d::r,h=>by rw[eA,and_eq_true]at h;let h1:=TY d h.1;let h2:=GZ r h.2;simp only[cM,PyData.weightAll,lH];lia
end
def bC.view{K:W.Frag}(h:bC K F H v d)(i:zF F H):aI K H v d:=by
 rcases h with h|⟨a,xs,I,rfl,rfl,e,r⟩|⟨a,B,ks,G,rfl,rfl,e,k,r⟩|⟨a,B,ks,G,rfl,rfl,e,k,r⟩
 .show h.mono i
 .show .lst (bB.of e) (r.mono i)
 .show .dK (.of e) k (r.mono i)
 .show .dT (.of e) k (r.mono i)
section
variable{K:W.Frag}
def KE(a:Array Nat):∀(n:Nat)(b:Array Nat),((List.replicate n a).foldl (·++·) b).toList=b.toList++(List.replicate n a.toList).flatten
 |0,b=>by simp
 |n+1,b=>by rw[List.replicate_succ,List.foldl_cons,KE a n,List.replicate_succ,List.flatten_cons,toList_append,qq]
def Nb(i:0<=n):(Txt.mul x n).cps.toList=(List.replicate n.toNat x.cps.toList).flatten:=by
 unfold Txt.mul;by_cases h1:n<1
 .rw[show n=0 by lia];rfl
 .rw[q9 h1];by_cases h2:(n==1||x.length==0)=true
  .rw[q8 h2];rw[or_eq_true,beq_iff_eq,beq_iff_eq]at h2;rcases h2 with h2|h2
   .subst h2;simp
   .let:x.cps.toList=[]:=by let e:x.cps.size=0:=h2;rw[<-List.length_eq_zero_iff];exact e
    rw[this];simp
  .rw[q9 h2];rw[KE];simp
def rR:R2:=λx y H Q=>∃z n,x=.str z/\y=.int n/\0<=n/\n<=1000/\z.length<=500/\Q (.str (Txt.mul z n)) H
def NT:OpR X (binaryOp .Mult) rR:=by
 intro zU s Z H x y v u Q I B i h;let#[z,n,rfl,rfl,M,h1,F,q]:=h;let#[t,rfl]:=B;let#[G,rfl]:=i;show SB.mul #[?_,λh _=>?_,λh _=>?_] λt2 k=>#[.str _,H,I.kept λ_ _ z=>z,#[_,rfl],q]
 .grind
 .let L:(9223372036854775807:Int)/1000<=(2^63-1)/n:=by rw[Int.le_ediv_iff_mul_le ∅];grind
  grind
 .let J:z.length*n.toNat<=500*1000:=Nat.mul_le_mul F ∅;simp only[Builtin.Str.tooLong,zn];lia
def SH:hV K (λx y H Q=>(rI nP λi j=>.int (i*j)) x y H Q\/rR x y H Q) cE:=by
 intro Z U F G H x y p q s Q v I B e J;unfold cE at e;split at e
 .rename_i l n;split at e
  .rename_i hc;cases e;let#[L,h1,Y]:=hc;let#[z,rfl,M,_]:=I.str;let ey:y=.int n:=by
    rcases B with B|⟨_,_,_,_,e,_⟩|⟨_,_,_,_,_,e,_⟩|⟨_,_,_,_,_,e,_⟩
    .cases B;rfl
    .cases e
    .cases e
    .cases e
   subst ey;let O:z.length=l.length:=by rw[<-M];rfl
   show .inr #[z,n,rfl,rfl,L,h1,∅,?_];show J _ F H (zF.refl F) (v.push (.str ?_ ?_))
   .rw[Nb L,M]
   .let h4:n.toNat*l.length<=1000*500:=Nat.mul_le_mul ∅ Y;let e5:∀m,((List.replicate m l).flatten).length=m*l.length:=λm=>by simp
    rw[e5];lia
  .cases e
 .show .inl (PU Z U F G H x y _ _ s Q v I B e J)
def BN(F:FE X a v)(B:FE X b i):FE X (.BinOp a .Mult b pos) (zL cE v i):=CJ (λ_ _=>OpR.or Mz NT) SH F B
end
def Rb:FE X (.Dict [] [] pos) (gA true):=λpn xe B=>by show PE.imp Pz λZ H Q q=>?_;let#[F,G,U,P,PX,i,I,v,J]:=q;intro p B;show v _ U _ F _ I (zF.refl F) (Rel.newO (s:=.dct true [] []) i B (.dT (zV:=[]) Aw rfl .nil)) trivial
def dO(K:W.Frag)(f:Addr):FuncData:=match K.lookup f with
 |some ⟨_,_,.func d,_⟩=>d
 |_=>default
def HI{K:W.Frag}(l:K.lookup f=⇑#[B,v,.func d,i]):dO K f=d:=by unfold dO;rw[l]
inductive Lk(K:W.Frag)(n:Str)(st:Stmt)(f:Addr):Prop
 |mk {oc kV dc pm cd ct:Value} {od an:Option Addr} {sl:Array (Option Value)} (a:W.nsIn K mainGlobals n=some (some (.ref f))) (l:K.lookup f=some ⟨oc,od,.func (W.fnOf n n (dA st) (bT st) (aB st) .none kV dc pm an cd ct),sl⟩)
  (c:W.codeIn K cd n=true) (k:W.keepIn K (.ref f)=true):Lk K n st f
structure Tx(K:W.Frag)(mg:Str->Option Value)(f:Addr)(n:Str)(st:Stmt)(ps:List Str):Prop where
 F:xC K n n st f (dO K f)
 m:mg n=⇑(.ref f)
 k:W.keepIn K (.ref f)=true
 b:Binds K (dO K f) ps []
def mu(n:Str)(st:Stmt)(ps:List Str):Prop:=∀(kV i B:Value)(F:Option Addr)(v ct:Value)(us:List Value),us.length=ps.length->bindArgs (W.fnOf n n (dA st) (bT st) (aB st) .none kV i B F v ct) #[us,[]]=pure (ps.zip us)
section
variable{K:W.Frag}{st:Stmt}
def Lk.mm(t:Lk K n st f)(X:K.In h)(G:h.Ns mainGlobals mg):mg n=⇑(.ref f):=by let#[a,l,c,k]:=t;show W.mg_of X G a
def Lk.tx(t:Lk K n st f)(X:K.In h)(G:h.Ns mainGlobals mg)(b:mu n st ps:=by intro _ _ _ _ _ _ us i;first|(let#[_,rfl]:=Bq (l:=us) i;rfl)|(let#[_,_,rfl]:=Ca (l:=us) i;rfl)|(let#[_,_,_,rfl]:=BZ (l:=us) i;rfl)|(let#[_,_,_,_,rfl]:=DM (l:=us) i;rfl)|(let#[_,_,_,_,_,rfl]:=vlen5 (l:=us) i;rfl)|(let#[_,_,_,_,_,_,rfl]:=vlen6 (l:=us) i;rfl)):Tx K mg f n st ps:=by
 let#[a,l,c,k]:=t;let e:=HI l;let F:=ME l c k;show#[?_,W.mg_of X G a,k,?_]
 .rw[e];show F
 .rw[e];show F.binds b
def Lk.bt(t:Lk K n st f)(s:Shared)(v:Value)(b:mu n st [x]:=by intro _ _ _ _ _ _ us i;let#[_,rfl]:=Bq (l:=us) i;rfl):BindsTo s (dO K f) #[[v],[]] [(x,v)]:=by let#[a,l,c,k]:=t;let e:=HI l;rw[e];show .of_eq (b _ _ _ _ _ _ [v] rfl)
end
def AW{N P:List Str}{i:Scope}(a:autoParam (i.kind=.function) rZ9)(b:autoParam (i.isCoroutine=false) rZ9)(c:autoParam (i.isGenerator=false) rZ9)(d:N.Nodup:=by decide+kernel)(e:autoParam (N.take P.length=P) rZ9)(f:∀x∈P,i.names.lookup x=⇑.local\/i.names.lookup x=⇑.cell:=by decide+kernel)(g:∀y∈i.names,y.2≠.free:=by decide+kernel):aG N P i:=#[a,b,c,d,e,f,g]
abbrev iP(P:Program)(w:World)(K:W.Frag)(mg:Str->Option Value)(base:Heap)(af:Nat->Addr)(k i:Nat)(ps:List Str)(sp:Sp):Prop:=cY P w K mg base (fV P w) k (af i) (dO K (af i)) ps sp
def Ba{K:W.Frag}{st:Stmt}(t:Tx K mg f x st ps)(Sc:aG N ps (aB st))
  (G:∀(v:Value)(A:Around)(i:List PySem.Env)(s:Shared)(H:Hp)(E:XK),bQ k (A.deeper (envOfC x (aB st) s.heap.objs.size f v))->nZ (eX (fV P w) P w K mg base N x (aB st) f v A i s H E) ks (bT st) B)(hn:autoParam (ps.length=n) rZ9)(F:autoParam (N.length=m) rZ9):
  cY P w K mg base (fV P w) (k+1) f (dO K f) ps (dR K (fY n m ks B) n):=Ed t.F Sc hn F G
section
theorem fw(i:Nat)(G:autoParam (X.N[i]?=⇑x) rZ9)(B:ay X.env.scope x:=by first|show Or.inl rfl|show Or.inr (Or.inl rfl)|show Or.inr (Or.inr rfl))(F:autoParam ((x==("__debug__":Str))=false) dZ9)
  (v:autoParam ((x==("__classdict__":Str))=false) dZ9):FE X (.Name x pos) (zv i):=Nq G B F v
def Af(i:Nat)(v:X.N.Nodup)(F:autoParam (i∉ks) dZ9)(hi:autoParam (X.N[i]?=⇑x) rZ9)(B:Loc X.env.scope x:=by first|show Or.inl rfl|show Or.inr rfl)(I:X.fn x=true\/X.env.scope.names.lookup x=some .local:=by show Or.inl rfl):FG X ks (.Name x pos) (FL.zy i):=Jb F (λj G=>EH v G hi) hi B I
def AX(i:Nat)(F:autoParam (i∉ks) dZ9)(B:(X.N.zipIdx.all λp=>!(p.1==x)||p.2==i)=true:=by kernel_rfl)(hi:autoParam (X.N[i]?=⇑x) rZ9)(v:Loc X.env.scope x:=by first|show Or.inl rfl|show Or.inr rfl)(G:X.fn x=true\/X.env.scope.names.lookup x=some .local:=by first|show Or.inr rfl|show Or.inl rfl):FG X ks (.Name x pos) (FL.zy i):=Jb F (uq B) hi v G
variable{st:Stmt}
def Av(ms:List Bool)(t:Tx X.K X.mg f x st ps)(M:cY X.prog X.w X.K X.mg X.base (fV X.prog X.w) k f (dO X.K f) ps (dR X.K B n))(G:bQ j X.A)(L:FA X (e::es) F)(hj:autoParam (k<=j) dZ9)(I:autoParam (Gl X x) rZ9)(zX:∀ss P PX,B ss P PX->ss.length=n:=by show λ_ _ _ h=>h.1)
  (v:autoParam ((x==("__debug__":Str))=false) dZ9)(J:autoParam (starEach (e::es) X.env=(false,eval e X.env)::starEach es X.env) rZ9)(i:autoParam ((backTo pos (starEach es X.env)).any (·.1)=false) rZ9):
  FE X (.Call (.Name x p) (e::es) [] pos) (zN B ms F):=Pu M (G.mono hj) I t.m t.k t.b L zX v J i
end
theorem set_set{U:Env}:(U.set n a).set n b=U.set n b:=List.set_set ..
end FL
namespace FL
def cu(f:List D->List D->Option S)(o:WE)(a:WA):WE:=λU Q E=>o U (λx v=>match x with
 |.v (.sh (.lst l))=>a v (λB i=>zz (B.mapM λr=>zQ r i) λF=>zz (f l F) λs=>Q (.v s) i) E
 |_=>False) E
def nA:D->Bool
 |.non=>true
 |.bl _=>true
 |.int _=>true
 |.str _=>true
 |_=>false
open Classical in
def wL(l:List D)(x:D):Option Nat:=if l.all (λd=>nA d&& !aT d x)then l.findIdx? (λd=>↥(d=x))else none
def fF(l:List D):List D->Option S
 |[x]=>(wL l x).map λ(i:Nat)=>.sh (.int (i:Int))
 |_=>none
def oC(step:WF->WF):Nat->WF
 |0=>λ_ _ _=>False
 |n+1=>step (oC step n)
end FL
namespace FL
open PySem PySem.Spec PyProof.Rows L2
section
variable{K:W.Frag}
def oZ(K:W.Frag):V->List V->Hp->VK->Prop:=λx i H Q=>∃a xs ds y d j,x=.ref a/\i=[y]/\bB K H a xs/\zS K H xs ds/\aI K H y d/\wL ds d=⇑j/\Q (.int j) H
def Jt:∀{xs:List V}{l:List D},zS K F xs l->∀{j:Nat}{v:V},xs[j]?=⇑v->∃d,l[j]?=⇑d/\aI K F v d
 |_,_,.nil,j,v,h=>by simp at h
 |_,_,.cons a b,0,v,h=>by cases h;show#[_,rfl,a]
 |_,_,.cons a b,j+1,v,h=>Jt b (j:=j) h
def Jf:∀{xs:List V}{us:List Value},zR xs us->∀{j:Nat}{u:Value},us[j]?=⇑u->∃v,xs[j]?=⇑v/\zJ v u
 |_,_,.nil,j,u,h=>by simp at h
 |_,_,.cons a b,0,u,h=>by cases h;show#[_,rfl,a]
 |_,_,.cons a b,j+1,u,h=>Jf b (j:=j) h
def di:Value->Option D
 |.none=>⇑.non
 |.bool b=>⇑(.bl b)
 |.int i _=>⇑(.int i)
 |.str x _=>⇑(.str x.cps.toList)
 |_=>none
def Pl(r:aI K H v d)(B:zJ v u)(h:nA d=true):di u=⇑d:=by
 cases r with
 |non=>cases B;rfl
 |bl b=>cases B;rfl
 |int i=>let#[t,rfl]:=B;rfl
 |str e _=>let#[t,rfl]:=B;rw[<-e];rfl
 |_=>cases h
open Classical in
def RA:bq X "list.index" (oZ X.K):=by
 intro zU s Z H x vs v us Q I rx rv h;let#[a,xs,ds,y,d,j,rfl,rfl,hq,rd,ry,hj,q]:=h;cases rx;let#[u,rfl,ru]:=rv.one;let#[i,r,pl,hz]:=I.list hq;unfold wL at hj;split at hj
 .rename_i G;rw[qJ]at G;let#[#[cls,dd,data,sl],ho,hc,n,hd]:=id pl.isList;simp only at hc hd;subst hc hd;let e1:=r.length;let h9:=rd.len
  --each thing of the list against u
  let M:∀(k:Nat)(F:Value),i[k]?=⇑F->∃B,ds[k]?=⇑B/\di F=⇑B/\∀{A:Around},PySem.SeqAt.EqAt A s F u ↥(B=d):=λk F hk=>by let#[vk,h1,h2]:=Jf r hk;let#[B,h3,h4]:=Jt rd h1;let:=G B (qN h3);rw[and_eq_true,Bool.not_eq_true']at this;show#[B,h3,Pl h4 h2 this.1,(FY h4 ry h2 ru this.2 (λl e=>by rw[e]at this;cases this.1) (λl e=>by rw[e]at this;cases this.1)).1]
  let#[h8,h7,h6]:=List.findIdx?_eq_some_iff_getElem.mp hj;let O:∀m(Y:m<i.toArray.size)(J:m<ds.length),↥(di i.toArray[m]=⇑d)=↥(ds[m]=d):=λm Y J=>by let#[B,h1,h2,_]:=M m i.toArray[m] (by rw[qi ↑Y];simp);rw[qi J]at h1;rw[h2,<-qg h1];simp
  let L:j<i.toArray.size:=by rw[qt];lia
  rw[zn]at hz;refine call_meets PySem.F.slot_list_index #[_,ho,rfl] PySem.F.entry_list_index (PySem.F.args_list_index_2 _ _)
   (PySem.SeqAt.list_indexAt a i.toArray n dd sl u (λF=>↥(di F=⇑d)) j L ∅ ?_ ?_) #[ho,λF hw=>?_,?_]
  .show(O j L h8).trans h7
  .intro m Y h5;show(O m Y ∅).trans ?_;let:=h6 m h5;simpa using this
  .obtain⟨k,hk,e⟩:=Array.mem_iff_getElem.mp hw;let#[B,h1,h2,h3]:=M k F (by rw[qi ↑hk,<-e];simp);rw[h2];let:↥(⇑B=⇑d)=↥(B=d):=by simp
   rw[this];show h3
  .show#[.int _,H,I.kept λ_ _ z=>z,#[_,rfl],q]
 .cases hj
end
def RI(ho:FE X o wo)(ha:FA X [e] wa)
  (O:autoParam (attributeBase o "index" X.env (eval o X.env)=eval o X.env) rZ9)
  (h2:autoParam (((backTo cpos (starEach [e] X.env)).all (λx=>!x.1)&&(backToKw cpos (keywordEach [] X.env)).all (λx=>x.1.isSome)
   &&↥([e].length+([]:List Keyword).length+(if([]:List Keyword).isEmpty then 0 else 1)<30))=true) rZ9)
  (M:autoParam ((apos.endLine==cpos.line)=true) rZ9)(hs:autoParam (starEach [e] X.env=(false,eval e X.env)::starEach [] X.env) rZ9)(J:autoParam ((backTo cpos (starEach [] X.env)).any (·.1)=false) rZ9):
  FE X (.Call (.Attribute o "index" apos) [e] [] cpos) (cu fF wo wa):=λpn xe hp=>by
 refine PE.imp (Df (X:=wp X pn xe) PySem.F.plainAttrs_list PySem.F.slot_list_index PySem.F.type_list_index RA (ho pn xe hp) (ha pn xe hp) O h2 M hs J) λZ H Q q=>?_;refine(one (k:=λx h3 Q E=>match x with
  |.v (.sh (.lst l))=>wa h3 (λrs B=>zz (rs.mapM λr=>zQ r B) λds=>zz (fF l ds) λs=>Q (.v s) B) E
  |_=>False) q).mono λv H1 h1=>?_
 let#[F,G,U,x,P,PX,L,hl,rx,hk,h5,hx]:=h1;split at hk
 .rename_i l;let rp:aI X.K F v (.lst l):=by
   let#[u,fp,e1,q]:=L.at (i:=U.length) (s:=.sh (.lst l)) Cy;rw[hl,getElem?_append_right (zb _)]at e1;let e2:v=u:=↑e1
   subst e2;cases q with
   |sh r=>show r
  cases rp with
  |lst hq rd=>
   rename_i a xs;show#[.inl #[rfl,xs,bB.mono L.fr hq],F,G,U,_,PX,L.drop hl,hk,λrs B vs F2 H2 I s2 r2 h6 h4=>?_,hx];let#[ds,ed,I]:=Ah I;let#[s,es,I]:=Ah I;let#[F3,s3,re,Y]:=AF (U':=[]) (Z':=[]) ↑r2 h6 h4 ed;let#[d,v,rfl,rfl]:=AB (λx y r=>by cases x<;>rfl) rfl re es;let#[i,ei,rfl]:=qZ.mp es;let Y:Rel X.K B Z F3 G H2:=↑Y
   let sm:zF F H2:=(s2.trans s3).trans Y.fr;show#[a,xs,l,v,d,i,rfl,rfl,bB.mono sm hq,rd.mono sm,re.1.view Y.fr,ei,h5 _ B _ F3 H2 I (s2.trans s3) (Y.push (.int _)) trivial]
 .show hk.elim
section
variable{K:W.Frag}
def LR(hn:ps.length=n):cY P w K mg base (fV P w) k f fd ps (dR K (λ_ _ _=>False) n):=
 #[λB H Q E h=>by let#[F,G,I,J,PX,v,_]:=h;rw[v,hn],λA i s H args L B Q E _ _ _ _ h=>by let#[F,G,I,J,PX,v,_,h,_]:=h;show h.elim]
def Ig{step:WF->WF}(hn:ps.length=n)
  (h:∀(r:WF)(j:Nat),(∀ss P PX,r ss P PX->ss.length=n)->cY P w K mg base (fV P w) (k+j) f fd ps (dR K r n)->cY P w K mg base (fV P w) (k+j+1) f fd ps (dR K (step r) n))
  (i:∀r ss P PX,step r ss P PX->ss.length=n):∀j,cY P w K mg base (fV P w) (k+j) f fd ps (dR K (oC step j) n)
 |0=>LR hn
 |j+1=>h _ j (by cases j with|zero=>show λ_ _ _ z=>z.elim|succ j=>show i _) (Ig hn h i j)
end
end FL
namespace TS
open PySem PyProof.Rows
def EF:∀vs:List Value,vs.zip vs=vs.map λv=>(v,v)
 |[]=>rfl
 |v::r=>by show(v,v)::r.zip r=_;rw[EF r];rfl
end TS
namespace FL
def nB:D->Bool
 |.tup l=>(bO l).isSome
 |_=>false
end FL
namespace FL
open PySem PySem.Spec PyProof.Rows L2
section
variable{K:W.Frag}
def Rel.growT(r:Rel K U Z F G H)(bs:List Addr)(M:∀b∈bs,∃xs,H b=⇑(.tup xs)):∃F',zF F F'/\Rel K U Z F' G H/\∀b∈bs,F' b=H b:=by
 let#[fp,e,nd,ap]:=r.en;let L:zF F λa=>(F a).or (if a∈bs then H a else none):=.of λa o q=>by simp[q,some_or]
 let v:∀{a o},H a=⇑o->bR o=true->F a=none->(F a).or (if a∈bs then H a else none)=none:=λ{a o} h1 h2 J=>by rw[J,none_or,q9];intro z;let#[xs,q]:=M a z;rw[h1]at q;cases q;cases h2
 show#[_,L,#[λa o q=>?_,λa o q=>?_,fp,e.mono L λ_ _=>rfl,nd,λa I=>?_],λb B=>?_]
 .cases i:F a with
  |some u=>rw[i]at q;cases q;show r.fr a _ i
  |none=>
   rw[i]at q;split at q
   .show#[o,q,.inl rfl]
   .cases q
 .obtain⟨⟨h1,h2⟩,J⟩:=r.gr a o q;show#[#[h1,h2],v h1 h2 J]
 .obtain⟨o,h1,h2⟩:=e.in_ a I;show#[v h1 h2 (ap a I).1,(ap a I).2]
 .cases i:F b with
  |some u=>
   let#[o',Y,l]:=r.fr b u i;let#[xs,O]:=M b B;rw[O]at Y;cases Y;rcases l with rfl|⟨_,_,l⟩
   .rw[some_or,O]
   .cases l
  |none=>rw[none_or,q8 B]
def Th{α β:Type}{R:α->β->Prop}{l:List α}{m:List β}(r:Paired R l m){i:Nat}{x:α}{y:β}(h1:l[i]?=⇑x)(h2:m[i]?=⇑y):R x y:=by
 induction r generalizing i with
 |nil=>cases h1
 |cons a b v=>
  cases i with
  |zero=>cases h1;cases h2;show a
  |succ i=>show v h1 h2
def Bi(F:Hp):∀ks:List bD,(bO (ks.map aH)).isSome=true->zS K F (ks.map kV) (ks.map aH)
 |[],_=>.nil
 |.inl i::ks,h=>.cons (.int i) (Bi F ks (by let h':((bO (ks.map aH)).map (i::·)).isSome=true:=h;rwa[isSome_map]at h'))
 |.inr x::ks,h=>nomatch h
end
end FL
namespace FL
mutual
def cB:D->D->Bool
 |.int _,.int _=>true
 |.tup l,.tup m=>cF l m
 |_,_=>false
def cF:List D->List D->Bool
 |a::l,b::m=>cB a b&&cF l m
 |_,_=>true
end
def gY(a b:D):Option Bool:=if cB a b=true/\cZ a<=9 then ⇑↥(aO a b=.lt)else none
def eC:D->List D->D
 |b,[]=>b
 |b,d::r=>eC (if aO d b=.lt then d else b) r
end FL
namespace FL
open PySem PySem.Spec PyProof.Rows L2
section
variable{K:W.Frag}
def NA{zV:List (List bD×V)}(ok:dI P w H h)(F:Rd H a (.dT zV)):∃ys es i,ST.RawD h a es i/\KT H zV ys/\es.toList=ys.map (entryOfKey (tupleKind (aD P w)))/\zV.length<=sizeLine/\(a==sysModules)=false:=by show cps λ_ B=>?_;let#[z,G,ys,v,o,es,i,h1,h2,J,I,M,L]:=BJ ok F;show B ?_;show#[ys,es,i,#[o,h1,h2,J],v,I,z,G]
end
def IJ{zV:List (List bD×V)}(ok:dI P w H h)(B:H a=⇑(.frz o (.dT zV)))(v:o.data=.dict es M):∃ys,ST.RawD h a es M/\KT H zV ys/\es.toList=ys.map (entryOfKey (tupleKind (aD P w)))/\es.size=zV.length:=by
 let#[ys,J,L,#[o',h1,h2,G],i,F,_]:=NA ok (.inr #[o,B]);let#[I,_]:=(show zT P w H h a (.frz o (.dT zV)) from ok a _ B)
 rw[I]at h1;cases h1;rw[v]at G;cases G;show#[ys,#[o,I,h2,v],i,F,by rw[<-qW,F,qp,<-Paired.length i]]
open PySem.SeqAt AutoSeq1
def rL(A:Around)(s:Shared)(y x:Value)(b:Bool):Prop:=
 ∀(prog:Program)(w:World)(E:zu)(Q:zu),Q (.bool b) s->wpAny (model prog w) A (richCompare .Lt y x) Q E s
open Classical in
def kS(A:Around)(s:Shared):List Value->List Value->List D->List D->Prop
 |v::vs,w::ws,d::ds,e::es=>(cB d e=true/\EqAt A s v w ↥(d=e)/\rL A s v w ↥(aO d e=.lt))/\kS A s vs ws ds es
 |[],ws,[],es=>ws.length=es.length
 |_::_,[],_::_,[]=>True
 |_,_,_,_=>False
def wV:aO (.int i) (.int j)=if i<j then .lt else if j<i then .gt else .eq:=rfl
mutual
theorem JY:∀(d:D),cB d d=true->aO d d=.eq
 |.int i,_=>by rw[wV,q9 (Int.lt_irrefl i),q9 (Int.lt_irrefl i)]
 |.tup l,h=>KR l h
 |.non,h|.bl _,h|.str _,h|.lst _,h|.dct ..,h|.set _,h|.exc ..,h=>by cases h
theorem KR:∀(l:List D),cF l l=true->aJ l l=.eq
 |[],_=>by rw[aJ]
 |d::l,h=>by rw[cF,and_eq_true]at h;rw[aJ,JY d h.1];show KR l h.2
end
mutual
theorem HS:∀(d e:D),cB d e=true->aO d e=.eq->d=e
 |.int i,e,h,c=>by
  cases e with
  |int j=>
   rw[wV]at c;split at c
   .cases c
   .split at c
    .cases c
    .rw[show i=j by lia]
  |_=>cases h
 |.tup l,e,h,c=>by
  cases e with
  |tup m=>rw[IQ l m h c]
  |_=>cases h
 |.non,_,h,_|.bl _,_,h,_|.str _,_,h,_|.lst _,_,h,_|.dct ..,_,h,_|.set _,_,h,_|.exc ..,_,h,_=>by cases h
theorem IQ:∀(l m:List D),cF l m=true->aJ l m=.eq->l=m
 |[],[],_,_=>rfl
 |[],_::_,_,c=>by rw[aJ]at c;cases c
 |_::_,[],_,c=>by rw[aJ]at c;cases c
 |d::l,e::m,h,c=>by
  rw[cF,and_eq_true]at h;rw[aJ]at c;cases q:aO d e with
  |eq=>rw[q]at c;rw[HS d e h.1 q,IQ l m h.2 c]
  |lt=>rw[q]at c;cases c
  |gt=>rw[q]at c;cases c
end
mutual
theorem Ln:∀(d e:D),cB d e=true->aT d e=false
 |.int i,e,h=>by cases e<;>first|rfl|cases h
 |.tup l,e,h=>by
  cases e with
  |tup m=>show Lv l m h
  |_=>cases h
 |.non,_,h|.bl _,_,h|.str _,_,h|.lst _,_,h|.dct ..,_,h|.set _,_,h|.exc ..,_,h=>by cases h
theorem Lv:∀(l m:List D),cF l m=true->bG l m=false
 |[],[],_=>rfl
 |[],_::_,_=>rfl
 |_::_,[],_=>rfl
 |d::l,e::m,h=>by rw[cF,and_eq_true]at h;show(aT d e||bG l m)=false;rw[Ln d e h.1,Lv l m h.2];rfl
end
open Classical in
theorem Te(l b:Addr)(items items2:Array Value)(n n2:Nat)(dd dd2:Option Addr)(sl sl2:Array (Option Value))(ds es:List D)(z1:items.size=ds.length)(z2:items2.size=es.length):
  Meets (Builtin.«tuple.__lt__» #[[.ref l,.ref b],[]])
   (λA R s=>s.heap.get? l=some {cls:=.type "tuple",dict:=dd,data:=.seq items n,slots:=sl}/\s.heap.get? b=some {cls:=.type "tuple",dict:=dd2,data:=.seq items2 n2,slots:=sl2}/\
    kS A.in1 s items.toList items2.toList ds es/\R (.ok (.ret (.bool ↥(aJ ds es=.lt)))) s):=
 .of_wp λprog w A R s h=>by
  let#[hp,g,d,tk,os]:=s;let#[hl,hb,hL,h]:=h;let f2:=AutoSeq1.sub_tuple_tuple
  wp_walk using wpAny_loadPart' hl,wpAny_loadPart' hb,wpAny_forIn_list _ (λrest b s'=>b.1=none/\s'=#[hp,g,d,tk,os]/\∃(vs ws:List Value)(ds' es':List D),rest=vs.zip ws/\
   kS A.in1 #[hp,g,d,tk,os] vs ws ds' es'/\ds'.length+items2.size=es'.length+items.size/\R (.ok (.ret (.bool ↥(aJ ds' es'=.lt)))) #[hp,g,d,tk,os]) _
  case turn=>
   rintro⟨y,x⟩ rest b s' ⟨hb',rfl,vs,ws,ds',es',hz,hL,zX,hR⟩;rcases vs with _|⟨v,vs⟩
   .rw[List.zip_nil_left]at hz;cases hz
   .rcases ws with _|⟨w',ws⟩
    .rw[List.zip_nil_right]at hz;cases hz
    rcases ds' with _|⟨d1,ds'⟩
    .show hL.elim
    rcases es' with _|⟨e1,es'⟩
    .show hL.elim
    rw[List.zip_cons_cons]at hz;injection hz with hyx hrest
    injection hyx with hy hx
    subst hy hx;let#[#[hk,he,ht],hL]:=hL;simp only[qu]at zX;show qa (he prog w _ _ ?_);rw[aJ]at hR;by_cases q:d1=e1
    .subst q;rw[JY d1 hk]at hR;simp only[decide_true]
     wp_walk
     show#[rfl,rfl,_,_,_,_,hrest,hL,∅,hR]
    .simp only[qT q];let hR2:R (.ok (.ret (.bool ↥(aO d1 e1=.lt)))) #[hp,g,d,tk,os]:=by
      cases q2:aO d1 e1 with
      |eq=>show absurd (HS d1 e1 hk q2) q
      |lt=>rw[q2]at hR;show hR
      |gt=>rw[q2]at hR;show hR
     let hri:∀(E Q:zu),Q (.bool ↥(aO d1 e1=.lt)) #[hp,g,d,tk,os]->wpAny (model prog w) A.in1 (richCompare .Lt y x) Q E #[hp,g,d,tk,os]:=λE Q h=>ht prog w E Q h
     wp_walk using hri
     show#[_,rfl,hR2]
  case fin=>
   rintro⟨b1,b2⟩ s' ⟨hb',rfl,vs,ws,ds',es',hz,hL,zX,hR⟩;simp only at hb';subst hb';let hv:↥(aJ ds' es'=.lt)=↥(items.size<items2.size):=by
    clear hR
    rcases vs with _|⟨v,vs⟩
    .rcases ds' with _|⟨d1,ds'⟩
     .let hL:ws.length=es'.length:=hL;rcases es' with _|⟨e1,es'⟩
      .simp at zX;rw[aJ,zX];simp
      .rw[aJ,qS rfl,qS (by simp at zX;lia)]
     .cases ws<;>show hL.elim
    .rcases ws with _|⟨w',ws⟩
     .rcases ds' with _|⟨d1,ds'⟩
      .show hL.elim
      .rcases es' with _|⟨e1,es'⟩
       .rw[aJ,qT ⋯,qT (by simp at zX;lia)]
       .show hL.elim
     .rw[List.zip_cons_cons]at hz;cases hz
   rw[hv]at hR
   wp_walk
   show#[_,rfl,by simpa[Builtin.Tuple.tupleCompareSizes] using hR]
  case h=>show#[rfl,rfl,items.toList,items2.toList,ds,es,rfl,hL,∅,h]
section
variable{X:Cx}
def Qz{A:Around}(hE:∀{v u:V}{I J:Value}{d e:D},aI X.K H v d->aI X.K H u e->zJ v I->zJ u J->cZ d<=n->cB d e=true->EqAt A s I J (open Classical in ↥(d=e))/\rL A s I J ↥(aO d e=.lt)):
  ∀{xs ys:List V}{us i:List Value}{l m:List D},zS X.K H xs l->zS X.K H ys m->zR xs us->zR ys i->aW l<=n->cF l m=true->kS A s us i l m:=by
 intro xs;induction xs with
 |nil=>intro ys us i l m M L G B _ _;cases M;cases G;show B.length.symm.trans L.len
 |cons x xs Y=>
  intro ys us i l m M L G B O F;cases M with
  |cons a1 b1=>
   cases G with
   |cons c1 d1=>
    cases L with
    |nil=>cases B;show trivial
    |cons a2 b2=>
     cases B with
     |cons c2 d2=>rw[cF,and_eq_true]at F;rw[aW]at O;let#[h1,h2]:=hE a1 a2 c1 c2 (le_trans (Nat.le_max_left _ _) O) F.1;show#[#[F.1,h1,h2],Y b1 b2 d1 d2 (le_trans (Nat.le_max_right _ _) O) F.2]
def Iv{A:Around}{v u:V}{B F:Value}{i:Int}{e:D}(M:aI X.K H v (.int i))(L:aI X.K H u e)(I:zJ v B)(J:zJ u F)(Y:cB (.int i) e=true):rL A s B F ↥(aO (.int i) e=.lt):=by
 cases e with
 |int j=>
  cases M;cases L;let#[t,rfl]:=I;let#[G,rfl]:=J;intro prog w E Q O;show HT.rcLt_int A s i t j G prog w E Q ?_;let:↥(aO (.int i) (.int j)=.lt)=↥(i<j):=by
   rw[wV];split
   .simp[*]
   .split<;>simp[*]
  rwa[this]at O
 |_=>cases Y
theorem HK:∀(n:Nat){A:Around}{v u:V}{J L:Value}{d e:D},cZ d<=n->Inv X zU Z H s->aI X.K H v d->aI X.K H u e->zJ v J->zJ u L->cB d e=true->A.units+n<cLine->rL A s J L ↥(aO d e=.lt):=by
 intro n;induction n with
 |zero=>
  intro A v u J L d e hd I r1 Y M O B hu;cases d with
  |int i=>show Iv r1 Y M O B
  |tup l=>show absurd hd (by show¬aW l+1<=0;lia)
  |_=>cases B
 |succ n ih=>
  intro A v u J L d e hd I r1 Y M O B hu;cases d with
  |int i=>show Iv r1 Y M O B
  |tup l=>
   cases e with
   |tup m=>
    cases r1 with
    |tup e1 q1=>
     cases Y with
     |tup e2 q2=>
      cases M;cases O;let#[h3,w1,#[#[c1,d1,h6,h2],o1,rfl,k1,rfl],_]:=I.tuple (aZ.of e1);let#[F,w2,#[#[c2,d2,h5,h1],o2,rfl,k2,rfl],_]:=I.tuple (aZ.of e2);let h4:aW l<=n:=by let:aW l+1<=n+1:=hd;lia
      let G:A.in1.units+n<cLine:=by show A.units+1+n<cLine;lia
      intro prog w E Q hq;refine richCompare_meets_room (op:=.Lt) #[_,o1,rfl] #[_,o2,rfl] PySem.F.slot_tuple_lt PySem.F.entry_tuple_lt (PySem.F.args_tuple_lt_2 _ _) (Te _ _ h3.toArray F.toArray k1 k2 d1 d2 h2 h1 l m (by rw[qt,<-w1.length,q1.len]) (by rw[qt,<-w2.length,q2.len]))
       #[o1,o2,Qz (n:=n) (λa1 a2 a3 a4 a5 a6=>#[(Ei n a5 I a1 a2 a3 a4 (Ln _ _ a6) G).1,ih a5 I a1 a2 a3 a4 a6 G]) q1 q2 w1 w2 h4 B,(λx=>nomatch x),?_] ∅
      show hq
   |_=>cases B
  |_=>cases B
def yJ(K:W.Frag):R2:=λx y H Q=>∃p q,aI K H x p/\aI K H y q/\cB p q=true/\cZ p<=9/\Q (.bl ↥(aO p q=.lt)) H
def HV(O:X.A.units+31<cLine):OpR X (compareOp .Lt) (yJ X.K):=by intro zU s Z H x y v u Q I B i h;let#[p,q,G,F,M,L,J]:=h;show HK 9 L I G F B i M ∅ X.prog X.w X.xe _ #[.bl _,H,I,rfl,J]
def JT{K:W.Frag}:cG K (yJ K) gY:=by
 intro H x y p q k Q v i e B;unfold gY at e;split at e
 .rename_i h;cases e;show#[p,q,v,i,h.1,h.2,B]
 .cases e
end
section
variable{R:Result->Shared->Prop}{St:Nat->Heap->Prop}{s:Shared}
def SC(W:Walks prog w A.in1 I fp wr n P St)(S:Addr)(e1:S∉fp)(kw:List (Str×Value))(bt:Nat->Nat->Bool)(J:Heap->Prop)(hJ:∀h h',J h->(∀b o,b∉wr->b≠S->h.get? b=⇑o->h'.get? b=⇑o)->J h')
  (h8:∀i j vi vj h tk(Q E:zu),P i vi->P j vj->J h->Q (.bool (bt i j)) {s with heap:=h,toks:=tk}->wpAny (model prog w) A.in1 (richCompare .Lt vi vj) Q E {s with heap:=h,toks:=tk})
  (hR:∀v h' tk,P (argBest bt (n-1)) v->J h'->R (.ok (.ret v)) {s with heap:=h',toks:=tk}):
  ∀(k j:Nat)(h:Heap)(tk:Nat)(G:Value)(c:Nat),n-(j+1)=k->j+1<=n->J h->St (j+1) h->P (argBest bt j) G->h.get? S=some {cls:=.type "list",dict:=none,data:=.seq [G,G].toArray c,slots:=#[]}->
  codeAny (model prog w) A (.builtin "min.loop" #[[.ref I,.none,.ref S],kw]) R {s with heap:=h,toks:=tk}:=by
 let h9:S∉wr:=λh=>e1 (W.sub _ h);let e2:(toString "min"++toString ".loop":String)="min.loop":=⋯
 let fr:∀{b:Addr},b∈fp->S≠b:=λO h=>e1 (h▸O);intro k;induction k with
 |zero=>
  intro j h tk G c hk hj h4 Y L hS;let h7:j+1=n:=∅
  show codeAny_builtin F.entry_min_loop ?_;show qa (m:=seqItems? (.ref S)) (wpAny_seqItems hS rfl (qa (m:=tryCatch (pyNext (.ref I)) _) (wpAny_tryCatch (W.done _ _ _ (h7▸Y) λh' h6 B=>?_))));show qa (m:=updateSeq S λ_=>#[]) (wpAny_updateSeq (B S _ h9 hS) rfl (qa (wpAny_letGo (qb ?_))));show hR G _ h6 (by rw[<-h7];show L) (hJ _ _ h4 λb o O h2 e=>(zc _ _ (Ne.symm h2)).trans (B b o O e))
 |succ k ih=>
  intro j h tk G c hk hj h4 Y L hS;let h1:j+1<n:=∅
  show codeAny_builtin F.entry_min_loop ?_;show qa (m:=seqItems? (.ref S)) (wpAny_seqItems hS rfl (qa (m:=tryCatch (pyNext (.ref I)) _) (wpAny_tryCatch (W.item (j+1) _ _ _ h1 Y λv h' h6 hP M B=>?_))));let h3:=B S _ h9 hS;let h5:=hJ _ _ h4 λb o O _ e=>B b o O e;show qa (m:=tryCatch (holding [v,v] (richCompare .Lt v G>>=_)) _) (wpAny_tryCatch (zp (qa (h8 (j+1) (argBest bt j) v G _ _ _ _ hP L h5 ?_))));show qa (zp (wpAny_truthy_bool (qa (wpAny_letGo (qb ?_)))));cases O:bt (j+1) (argBest bt j)with
  |true=>show qa (wpAny_updateSeq (s:={s with heap:=_,toks:=_}) h3 rfl (qa (wpAny_letGo ?_)));show qb #[plainId_quiet F.plain_min_loop _,ih (j+1) _ _ v _ ∅ h1 (hJ _ _ h5 λb o _ h2 e=>(zc _ _ (Ne.symm h2)).trans e) (W.frame _ _ _ M λb e3 o e=>(zc _ _ (fr e3)).trans e) (by simp only[argBest,O];show hP) (zi _ h3 rfl)]
  |false=>show qa (wpAny_letGo ?_);show qb #[plainId_quiet F.plain_min_loop _,ih (j+1) _ _ G c ∅ h1 h5 M (by simp only[argBest,O,if_false];show L) h3]
end
def nW(ds:List D)(i j:Nat):Bool:=↥(aO (ds.getD i .non) (ds.getD j .non)=.lt)
def KW:∀(b:D)(l:List D)(x:D),eC b (l++[x])=if aO x (eC b l)=.lt then x else eC b l
 |_,[],_=>rfl
 |b,d::l,x=>KW (if aO d b=.lt then d else b) l x
def Ks(b:D)(r:List D):∀k,k<=r.length->eC b (r.take k)=(b::r).getD (argBest (nW (b::r)) k) .non
 |0,_=>rfl
 |k+1,h=>by
  let F:=Ks b r k ∅;let e:r.take (k+1)=r.take k++[r[k]]:=by rw[List.take_succ,qi ∅];rfl
  let B:(b::r).getD (k+1) .non=r[k]:=by rw[List.getD_eq_getElem?_getD,List.getElem?_cons_succ,qi ∅];rfl
  rw[e,KW,argBest,F];unfold nW;rw[B];by_cases v:aO r[k] ((b::r).getD (argBest (λi j=>↥(aO ((b::r).getD i .non) ((b::r).getD j .non)=.lt)) k) .non)=.lt
  .rw[q8 v,q8 (qS v),B]
  .rw[q9 v,q9 (by rw[qT v];show qY)]
def GE(bt:Nat->Nat->Bool):∀k,argBest bt k<=k
 |0=>zb _
 |k+1=>by let:=GE bt k;unfold argBest;split<;>lia
end FL
namespace FL
def pU(j:Nat)(D:Ends)(q:FL.D)(o:Option S)(U:Env):Prop:=match o with
 |some (.dct false ks l)=>bN false q=true/\ks.Nodup/\∃m,hW ks q=⇑m/\D.nx (U.set j ⇑(.dct false (ks.eraseIdx m) (l.eraseIdx m)))
 |_=>False
def vW(j:Nat)(D:Ends)(x:R)(o:Option FL.D)(p:Option (S×Env)):Prop:=zz o λq=>zz p λp=>match x with
 |.loc k=>k=j/\pU j D q (slot p.2 j) p.2
 |_=>False
def vX(j:Nat)(D:Ends)(x:R):WQ:=λy U=>vW j D x (view y U) (give y U)
def vY(j:Nat)(i:WE)(D:Ends):WQ:=λx U=>i U (vX j D x) D.ex
def lX(j:Nat)(i:WE):WS:=λD U=>zv j U (vY j i D) D.ex
def vZ(j:Nat)(D:Ends)(l:List S)(m:Nat)(t z:S)(q:FL.D)(U:Env):Prop:=match z with
 |.dct tb ks l'=>bN tb q=true/\ks.Nodup/\ks.length<big/\D.nx (U.set j ⇑(.lst (l.set m (aV tb ks l' q t))))
 |_=>False
def wA(j:Nat)(D:Ends)(l:List S)(m:Nat)(t z:S):WQ:=λy U=>zz (view y U) λq=>vZ j D l m t z q U
def kJ(j:Nat)(k:WE)(D:Ends)(t:S)(o:Option FL.D)(i:Option S)(U:Env):Prop:=match o,i with
 |some (.int n),some (.lst l)=>zz (ixN l.length n) λm=>zz l[m]? λs=>k (U.set j none) (wA j D l m t s) D.ex
 |_,_=>False
def pV(j:Nat)(k:WE)(D:Ends)(t:S):WQ:=λz U=>kJ j k D t (view z U) (slot U j) U
def wD(j:Nat)(i k:WE)(D:Ends)(t:S)(o:Option S)(U:Env):Prop:=match o with
 |some (.lst _)=>i U (pV j k D t) D.ex
 |_=>False
def mU(j:Nat)(i k:WE)(D:Ends)(o:Option (S×Env)):Prop:=zz o λp=>wD j i k D p.1 (slot p.2 j) p.2
def wF(j:Nat)(i k:WE)(D:Ends):WQ:=λr U=>mU j i k D (give r U)
def fE(j:Nat)(i k e:WE):WS:=λD U=>e U (wF j i k D) D.ex
def dk:D->Option (List D×List D)
 |.dct false ks vs=>⇑(ks,vs)
 |_=>none
def mP(Q:List D->Env->Prop)(o:Option (List D×List D))(U:Env):Prop:=zz o λq=>q.1.all dG=true/\Q (bJ q.1 q.2) U
def mQ(Q:List D->Env->Prop)(o:Option (S×Env)):Prop:=zz o λp=>mP Q (dk p.1.toD) p.2
def vK(Q:List D->Env->Prop):WQ:=λr U=>mQ Q (give r U)
def fC(i:WE):WI:=λU Q E=>i U (vK Q) E
def kQ:List D->Option S
 |[.lst (b::r)]=>if(b::r).all (λx=>(b::r).all λy=>cB x y&&↥(cZ x<=9))=true then ⇑(.sh (eC b r))else none
 |_=>none
def dj:D->Option (List D×List D)
 |.dct true ks vs=>⇑(ks,vs)
 |_=>none
def mM(Q:List D->Env->Prop)(o:Option (List D×List D))(U:Env):Prop:=zz o λq=>q.1.all nB=true/\Q q.1 U
def mN(Q:List D->Env->Prop)(o:Option (S×Env)):Prop:=zz o λp=>mM Q (dj p.1.toD) p.2
def vH(Q:List D->Env->Prop):WQ:=λr U=>mN Q (give r U)
def iS(i:WE):WI:=λU Q E=>i U (vH Q) E
def rC:S->Bool
 |.sh d=>cB d d
 |_=>false
def dh:S->Bool
 |.sh d=>cB d d
 |.lst l=>l.all rC
 |.dct _ _ l=>l.all rC
 |_=>false
def yS(x y:Option S):Prop:=(∃d,x=⇑(.sh d)/\y=⇑(.sh d))\/y=none\/∃s,y=⇑s/\dh s=true
def jV(j:Nat):Nat->Env->Env->Prop
 |i,x::U,y::U1=>(i=j\/yS x y)/\jV j (i+1) U U1
 |_,_,_=>True
def mR(j:Nat)(U:Env)(Q:WQ):WQ:=λr i=>∃ks vs s,slot i j=⇑(.sh (.dct false ks vs))/\(∀v∈vs,cB v v=true)/\r=.v s/\dh s=true/\i.length=U.length/\jV j 0 U i/\Q (.v s) (i.set j ⇑(.dct false ks (vs.map .sh)))
def lU(j:Nat)(i:WE):WE:=λU Q E=>kL (slot U j)/\i U (mR j U Q) E
def JV{j:Nat}:∀{i:Nat}{U U1:Env}{k:Nat}{x y:Option S},jV j i U U1->U[k]?=⇑x->U1[k]?=⇑y->i+k=j\/yS x y
 |_,[],_,_,_,_,_,h,_=>by simp at h
 |_,_::_,[],_,_,_,_,_,h=>by simp at h
 |i,_::_,_::_,0,_,_,h,h1,h2=>by simp at h1 h2;subst h1 h2;show h.1
 |i,_::U,_::U1,k+1,_,_,h,h1,h2=>by
  let:=JV (i:=i+1) (k:=k) h.2 ↑h1 ↑h2;rcases this with e|e
  .show .inl (by omega)
  .show .inr e
def jm(o:Option S)(U:Env)(Q:Bool->Env->Prop):Prop:=match o with
 |some (.dct false ks _)=>Q (!ks.isEmpty) U
 |_=>False
def gM(j:Nat):WT:=λU Q _=>jm (slot U j) U Q
end FL
namespace FL
open PySem PySem.Spec PyProof.Rows L2
def Ug{zV:List (bD×V)}{k:bD}{m:Nat}(hn:(zV.map λp=>aH p.1).Nodup)(h:(zV.map λp=>aH p.1)[m]?=⇑(aH k)):gG zV k=zV.eraseIdx m:=by
 induction zV generalizing m with
 |nil=>simp at h
 |cons p r i=>
  rw[qz,qM]at hn;cases m with
  |zero=>have e:p.1=k:=CC ↑h;show(p::r).filter _=r;rw[filter_cons,q9 ↑e,List.filter_eq_self];intro q v;rw[qU];intro z;show hn.1 (qL.mpr #[q,v,by rw[z,e]])
  |succ m=>
   let h':(r.map λp=>aH p.1)[m]?=⇑(aH k):=↑h
   let e:¬p.1=k:=λz=>hn.1 (by rw[z];show qN h');show(p::r).filter _=p::r.eraseIdx m;rw[filter_cons,q8 ↑e];show congrArg _ (i hn.2 h')
def GQ(f:α->β):∀(l:List α)(m:Nat),(l.eraseIdx m).map f=(l.map f).eraseIdx m
 |[],_=>by simp
 |_::_,0=>rfl
 |a::l,m+1=>congrArg (f a::·) (GQ f l m)
def RF{zV:List (bD×V)}{k:bD}{m:Nat}(h:(zV.map λp=>aH p.1)[m]?=⇑(aH k)):(bZ zV k).isSome=true:=by rw[qG]at h;let#[p,h1,h2]:=qZ.mp h;let e:p.1=k:=CC h2;unfold bZ;grind
def Oh(ho:FE X o (zv j))(hi:FE X i wi):FS X ks (.Delete [.Subscript o i tpos] pos) (lX j wi):=λpn xe hp=>by
 show PS.imp (Pa (X:=wp X pn xe) (ho pn xe hp) (hi pn xe hp)) λD Z H q=>?_;let#[F,G,U,E,e3,hw,n,b,c,r,x]:=q;let x0:XC (wp X pn xe) (·=Z) F G E.ex:=x.mono (λhr z=>by rw[z];show KP.refl) (zF.refl F) (eT.refl G);show#[F,G,U,_,_,e3,hw,λy h7 o' F2 H2 hc s2 r2 h8=>?_,x0];let l2:=Ad r2;let#[G2,h3,hs,Y]:=r2.hide l2;show#[F2,G2,h7,_,_,h3,hc,λz h1 i' F3 H3 O s3 r3 h2=>?_,x0.mono (λ_ z=>z) s2 hs];let l3:=Ad r3;let#[q,eq,O]:=Ah O;let#[#[t,I],eg,h6]:=Ah O;let r4:=Y s3 r3;simp at r4;let ri:=look (U':=[zG y]) (Z':=[⇑o']) r4 l3 h2 eq;let r5:Rel X.K (h1++[zG z]) (Z++[⇑i']) F3 G H3:=Rel.drop (U:=h1++[zG z]) (Z:=Z++[⇑i']) (U':=[zG y]) (Z':=[⇑o']) ↑r4 (by simp[l3]);let#[F4,s4,l4,r6]:=Al (U':=[]) (Z':=[]) r5 l3 h2 eg;cases y with
 |v y0=>show h6.elim
 |loc k=>
  obtain⟨hl,B⟩:k=j/\pU j E q (slot I j) I:=h6;cases J:slot I j with
  |none=>rw[J]at B;show B.elim
  |some sj=>
   rw[J]at B;match sj,J,B with
   |.dct false kk l,J,⟨hkey,hnd,m,hm,hnx⟩=>
    subst hl;let L:Z[k]?=⇑⇑o':=h8;let#[v',fp,e1,sr]:=r6.at (i:=k) (s:=.dct false kk l) (by rw[CU (BY J)];show J);let hb:k<Z.length:=(qh.mp L).1;rw[getElem?_append_left hb,L]at e1;let e2:o'=v':=↑e1
    subst e2;let#[a,o2,xs,fl,rfl,_,hD,h5,h9]:=CT sr;let#[e4,rfl,rfl]:=CP ri hkey;let hq:=h9.len;let hd:=h5.len;let M:=EC hm;let hk:m<l.length:=by let:=(qh.mp M).1;lia
    cases h5 with
    |@k zV hx h4=>
     subst hx;show#[a,zV,e4,rfl,hD,rfl,RF M,n _ Z F4 _ hnx KP.refl (s2.trans (s3.trans s4)) (Rel.dct (xs':=(zV.eraseIdx m).map (·.2)) r6 J L hD (.k rfl h4) ?_ λH' fl fs rl sr=>?_)]
     .rw[Ug hnd M];show .k (zV:=zV.eraseIdx m) ?_ rfl;show(GQ ..).symm
     .obtain⟨_,fa,fi,fb,rfl,_,_,up⟩:=rl.erase (qi hk);refine#[fa++fb,fi++fs,?_,?_]
      .rw[GQ,<-h4];show up
      .simp;show List.Perm.append_left _ (by rw[<-qq,<-qq];show List.Perm.append_right _ qO)
section
variable{K:W.Frag}
def Rel.dputAt{D b:Addr}(r:Rel K (U++[⇑(.lst l),⇑t]) (Z++[⇑(.ref D),⇑v]) F G H)(h:U.length=Z.length)(hm:l[m]?=⇑(.dct tb ks l'))
  (hD:H D=⇑(.lst xs))(hb:xs[m]?=⇑(.ref b))(h8:aI K H y q)(hk:bN tb q=true)(hn:ks.Nodup)(h4:ks.length<big):
  ∃H',nO H b y v H'/\Rel K (U++[⇑(.lst (l.set m (aV tb ks l' q t)))]) (Z++[⇑(.ref D)]) F G H':=by
 let#[fp,e,nd,ap]:=r.en;let#[M,f2,rfl,a,c]:=e.cut h;cases c with
 |@so _ _ _ _ fD f3 sd c=>
 cases c with
 |@so _ _ _ _ L fn st nl=>
 cases nl;cases sd with
 |@lst _ hi _ fl h5 rl=>
 rw[hD]at h5;cases h5;let#[x,B,fi,i,I,sx,rfl,up]:=rl.at hm;rw[hb]at I;cases I;let#[b',o,ys,J,z1,rfl,hy,ho,ry]:=CT sx;cases z1;let hc:=ry.len;let e4:=ho.len;let#[o',dp,h1,h2]:=ho.put (v:=v) hy h8 hk hn (by rw[zn];show lt_trans h4 ⋯);show#[_,dp,?_];let hp:(M++(D::(B++(b::J++i))++(L++[]))).Perm (b::(M++(L++(D::(B++(J++i)))))):=by
  let h0:(D::(B++(b::J++i))++(L++[])).Perm (L++(D::(B++(b::J++i))++[])):=by rw[qA,qA];show qO
  show(h0.append_left M).trans ?_;let h1:(B++b::(J++i)).Perm (b::(B++(J++i))):=perm_middle;show((h1.cons D).append_left (M++L)|>.trans ?_|>λz=>↑z);let h2:(D::b::(B++(J++i))).Perm (b::D::(B++(J++i))):=List.Perm.swap ..;show(h2.append_left (M++L)).trans ?_;show perm_middle.trans (by rw[qq])
 have h9:=hp.nodup_iff.mp nd;let#[nb,_]:=qM.mp h9;let ne:∀{w:List Addr},(∀x∈w,x∈M++(L++(D::(B++(J++i)))))->∀x∈w,upd H b o' x=H x:=λhw x I=>Ae λz=>nb (z▸hw x I);let h6:=ap b (hp.mem_iff.mpr qo);let h3:=ry.mono (H':=upd H b o') (zF.refl F) (ne λx I=>by simp[I]);let Y:=st.mono (H':=upd H b o') (zF.refl F) (ne λx I=>by simp[I]);obtain⟨O,rest,new,pz⟩:∃O rest,aF K F (upd H b o') (.ref b) (aV tb ks l' q t) (b::O)/\(O++rest).Perm (J++L):=by
  cases qf:hW ks q with
  |some m'=>
   let e1:m'<l'.length:=by let:=(qh.mp (EC qf)).1;lia
   let#[ga,gi,gb,rfl,h7]:=h3.set e1;unfold aV;rw[qf];show#[ga++(L++gb),gi,(h1 m' qf).mk Aw (h7 (λ_ _=>rfl) Y),?_];simp;show List.Perm.append_left _ ((List.Perm.append_left _ qO).trans (qO.trans (by simp)))
  |none=>unfold aV;rw[qf];show#[J++L,[],(h2 qf).mk Aw (zI.snoc h3 Y),by simp]
 let r2:=up (H':=upd H b o') (ne λx I=>by rcases qy.mp I with z|z<;>simp[z]) new
 have e2:xs.set m (.ref b)=xs:=by
  apply ext_getElem?;intro j;by_cases hj:m=j
  .subst hj;rw[getElem?_set_self (qh.mp hb).1,hb]
  .rw[getElem?_set_ne hj]
 rw[e2]at r2;let e3:D≠b:=λz=>nb (by simp[z]);let top:aF K F (upd H b o') (.ref D) (.lst (l.set m (aV tb ks l' q t))) (D::(B++((b::O)++i))):=.lst ((Ae e3).trans hD) r2;let p:(M++((D::(B++((b::(O++rest))++i)))++[])).Perm (M++(D::(B++(b::J++i))++(L++[]))):=by
  show List.Perm.append_left _ ?_;simp only[qA,qP];let h1:((O++rest)++i).Perm ((J++i)++L):=by show(List.Perm.append_right i pz).trans ?_;rw[qq,qq];show List.Perm.append_left _ qO
  let h2:(B++b::((O++rest)++i)).Perm ((B++b::(J++i))++L):=by show((h1.cons b).append_left B).trans ?_;simp
  show h2.cons D
 let sb:List.Sublist (M++((D::(B++((b::O)++i)))++[])) (M++((D::(B++((b::(O++rest))++i)))++[])):=by show List.Sublist.append (List.Sublist.refl _) (List.Sublist.append (List.Sublist.cons_cons _ (List.Sublist.append (List.Sublist.refl _) (List.Sublist.append (List.Sublist.cons_cons _ (List.sublist_append_left _ _)) (List.Sublist.refl _)))) (List.Sublist.refl _))
 show#[zF.updR r.fr h6.1,λx o w=>?_,_,(a.mono (zF.refl F) (ne λx I=>by simp[I])).app (.so top .nil),sb.nodup (p.nodup_iff.mpr nd),λx I=>ap x (p.mem_iff.mp (sb.subset I))];let I:x≠b:=λz=>by rw[z,h6.2]at w;cases w
 rw[Ae I];show r.gr x o w
def Kp(hu:X.A.units+1<cLine)(ho:FE X o (zv j))(hi:FE X i wi)(I:FE X k wk)(he:FE X e we)(hix:eE i:=by intro _ _;rfl)(hs:autoParam (swapsWith e ⇑(.Subscript (.Subscript o i spos) k tpos) pos.line X.env=pure false) rZ9):FS X kns (.Assign [.Subscript (.Subscript o i spos) k tpos] e pos) (fE j wi wk we):=λpn xe hp=>by
 show PS.imp (IE (X:=wp X pn xe) hu (Eg (FJ (X:=wp X pn xe)) (ho pn xe hp) (hi pn xe hp) hix) (I pn xe hp) (he pn xe hp) hs) λD Z H q=>?_;let#[F,G,U,E,hd,hw,n,b,c,r,x]:=q;let x0:XC (wp X pn xe) (·=Z) F G E.ex:=x.mono (λZ2 z=>by rw[z];show KP.refl) (zF.refl F) (eT.refl G);show#[F,G,U,_,_,hd,hw,λr h4 v F1 H1 I s1 r1 rv=>?_,x0];let l1:=Ad r1;let#[#[t,J],eg,I]:=Ah I;let#[F2,s2,l2,r2]:=Al (U':=[]) (Z':=[]) r1 l1 rv eg;let hq:J.length=Z.length:=l2.trans l1;let#[G2,ft,h5,M,st,hGt,Y]:=Rel.hide2 r2 hq;cases qs:slot J j with
 |none=>rw[qs]at I;show I.elim
 |some s0=>
  cases s0 with
  |lst l0=>
   rw[qs]at I;show#[F2,G2,J,λy h4=>y=.loc j/\h4=J,_,h5,by unfold zv;rw[qs];show#[rfl,rfl],λy hx o' F3 H3 hk3 s3 r3 hl=>?_,x0.mono (λ_ z=>z) (s1.trans s2) M];let#[rfl,rfl]:=hk3;let l3:=Ad r3;let L:Z[j]?=⇑⇑o':=hl;let r4:=r3.drop l3;show#[F3,G2,hx,_,_,r4,I,λz h3 i' F4 H4 B s4 r5 hc=>?_,x0.mono (λ_ z=>z) (s1.trans (s2.trans s3)) M];let l4:=Ad r5;unfold pV kJ at B;split at B
   .rename_i nz l ei ql;let#[m,em,B]:=Ah B;let#[sm,el,B]:=Ah B;let ri:=look (U':=[]) (Z':=[]) r5 l4 hc ei;let r6:=r5.drop l4;let#[v',fp,e1,sr]:=r6.at ql;rw[L]at e1;let e2:o'=v':=by simpa using e1
    subst e2;let r7:=Rel.lend (U':=[]) (Z':=[]) (r6.pushN (u:=⇑o')) l4 ql L;let l7:(h3.set j none).length=Z.length:=↑l4
    let#[G3,fq,r8,gg3,sq,hG,O]:=r7.hide2 l7;cases sq with
    |@lst a xs _ fl hD rl=>
    obtain⟨x1,fa,fi,fb,h8,sx,efl,_⟩:=rl.at el;cases ri;let hat:L2.atI xs nz=⇑x1:=by
     let e':L2.ixN xs.length nz=⇑m:=by rw[rl.len];show em
     unfold L2.atI;rw[e'];show h8
    show .inl #[a,xs,nz,_,rfl,rfl,bB.of hD,hat,F4,G3,h3.set j none,_,_,r8,B,λw U5 k' F5 H5 k3 s5 r9 hb=>?_,x0.mono (λ_ z=>z) (s1.trans (s2.trans (s3.trans s4))) (M.trans gg3)];let l5:=Ad r9;let#[q,eq,e3]:=Ah k3;let rq:=look (U':=[]) (Z':=[]) r9 l5 hb eq;cases sm with
    |dct tb kks l'=>
     let#[h9,k2,e4,k1]:=e3;let#[b',o,ys,fy,rfl,rfl,hy,ho2,ry]:=CT sx;let hr:=O s5 (r9.drop l5);let h7:=Y (s3.trans (s4.trans s5)) hr;simp at h7;let ha:H5 a=⇑(.lst xs):=by let#[o,h1,h2]:=hG a qo;rw[(r9.gr a o h1).1.1,<-h2,hD]
     let#[H6,dp,hm]:=Rel.dputAt h7 l5 el ha h8 rq h9 k2 e4;let h6:=Rel.back1 (U':=[]) (Z':=[]) (i:=j) hm l5 L;simp at h6;show#[b',H6,rfl,dp,n _ Z F5 H6 k1 KP.refl (s1.trans (s2.trans (s3.trans (s4.trans s5)))) h6]
    |_=>show e3.elim
   .show B.elim
  |_=>rw[qs]at I;show I.elim
def EL(e:F a=⇑u)(h:xJ u=true):zF F (upd F a (.frz o u)):=λb w q=>by
 by_cases z:b=a
 .subst z;rw[e]at q;cases q;show#[_,Aw,.inr #[h,o,rfl]]
 .show#[w,by rw[Ae z];show q,.inl rfl]
def Rel.frzS(r:Rel K U Z F G H)(e:F a=⇑u)(h:xJ u=true):Rel K U Z (upd F a (.frz o u)) G (upd H a (.frz o u)):=by
 let#[fp,J,I,B]:=r.en;let v:∀x∈fp,x≠a:=λx i z=>by rw[z]at i;let:=(B a i).1;rw[e]at this;cases this
 show#[λx w q=>?_,λx w q=>?_,fp,J.mono (EL e h) λx i=>Ae (v x i),I,λx i=>?_]
 .by_cases z:x=a
  .subst z;rw[Aw]at q⊢;show#[w,q,.inl rfl]
  .rw[Ae z]at q⊢;show r.fr x w q
 .let z:x≠a:=λz=>by rw[z]at q;let:=(r.gr a w q).2;rw[e]at this;cases this
  rw[Ae z,Ae z];show r.gr x w q
 .rw[Ae (v x i)];show B x i
def Dz{H:Hp}(e:H a=⇑u):upd H a u=H:=by
 funext x
 by_cases z:x=a
 .subst z;rw[Aw,e]
 .rw[Ae z]
def rB(B:TE):TI:=λZ H R=>B Z H λv H1=>∃a zV,v=.ref a/\Rd H1 a (.dK zV)/\∀o,(∀i,H1 a=⇑(.frz i (.dK zV))->i=o)->R (bz a o zV) (upd H1 a (.frz o (.dK zV)))
end
def So(hl:PE X o tl)(L:autoParam (attributeBase o "items" X.env (eval o X.env)=eval o X.env) rZ9)(J:autoParam ((apos.endLine==cpos.line)=true) rZ9):PI X (.Tuple elts kk tpos) (.Call (.Attribute o "items" apos) [] [] cpos) (rB tl):=by
 intro zU s Z H R I h;show wpAny_Call_method (T:="dict") (id:="dict.items") L rfl J F.plainAttrs_dict F.slot_dict_items F.type_dict_items (Ai (hl zU s Z H _ I h) λu i zq=>?_);let#[x,H1,I1,rx,a,zV,ex,B,q]:=zq;subst ex;obtain rfl:u=Value.ref a:=rx;let#[hz,Y,M,rk,dd]:=BU I1.hok B;show#[dd.typeIs,dd.mapOf.noDict,?_];show method_meetsIn F.slot_dict_items F.entry_dict_items rfl (PySem.evalArgs_none #[rfl,dd.typeIs,F.args_dict_items_1 _,_,meets_dict_items (aD X.prog X.w) a Y,#[M,dd],?_]);let#[G,es,ep,g1,g2,g3,g4]:=id dd;let h7:(i.heap.push {cls:=.type "dict_items",data:=.fields [.ref a].toArray}).DictAt (aD X.prog X.w) a M ep:=#[G,es,qc _ g1,g2,g3,g4]
 show wpAny_pyIter_items (s:={i with heap:=i.heap.push {cls:=.type "dict_items",data:=.fields [.ref a].toArray}}) ⟨_,qd _ rfl,rfl,rfl⟩ h7 ?_;let h3:zV.length=M.length:=rk.length;let O:(i.heap.push {cls:=.type "dict_items",data:=.fields [.ref a].toArray}).objs.size=i.heap.objs.size+1:=Heap.size_push ..;generalize hh:(i.heap.push {cls:=.type "dict_items",data:=.fields [.ref a].toArray}).push {cls:=.type "dict_itemiterator",data:=.fields [.none,.bool false,.ref a,.int 0 0,.int M.length 0,.int ep 0,.none,.none].toArray}=h2;let kp:∀b w,i.heap.get? b=⇑w->h2.get? b=⇑w:=λb w e=>by rw[<-hh];show qc _ (qc _ e)
 let I2:Inv X zU Z H1 {i with heap:=h2}:=I1.kept (t':=i.toks) kp;let h8:h2.DictOf (aD X.prog X.w) a M:=#[G,es,ep,kp _ _ g1,g2,g3,g4]
 let h1:∀v,H1 a=⇑(.frz v (.dK zV))->v=G:=λv e=>by let:=(show zT X.prog X.w H1 i.heap a (.frz v (.dK zV)) from I1.hok a _ e).1;rw[g1]at this;show(qg this).symm
 have I3:Inv X zU Z (upd H1 a (.frz G (.dK zV))) {i with heap:=h2}:=by
  rcases B with B|⟨v,B⟩
  .show I2.write (t':=i.toks) (x:=a) (e:=a) (o:=.frz G (.dK zV)) (by rw[B];show True.intro) (.inl rfl) (λ_ _ _ z=>z) #[G,kp _ _ g1] #[kp _ _ g1,hz,Y,M,rk,h8]
  .obtain rfl:=h1 v B;rw[Dz B];show I2
 let h4:i.heap.objs.size<=i.heap.objs.size+1:=le_succ _;let h5:=I1.fpOk h4 (I1.hok.fresh h4);let h6:i.heap.objs.size+1≠a:=λz=>by rw[<-z]at B;rcases B with B|⟨_,B⟩<;>(rw[h5.1]at B;cases B)
 rw[O];show#[i.heap.objs.size+1,[i.heap.objs.size+1],_,_,_,rfl,I3,La (zV:=zV) g3,#[.none,.none,?_],λb hb=>?_,q G h1]
 .rw[<-hh,<-O,h3];show qd _ rfl
 .rw[qv.mp hb];show EI h5 h6
def Kx(ho:FE X o we)(M:autoParam (attributeBase o "items" X.env (eval o X.env)=eval o X.env) rZ9)(J:autoParam ((apos.endLine==cpos.line)=true) rZ9):
  FI X (.Tuple elts kk tpos) (.Call (.Attribute o "items" apos) [] [] cpos) (fC we):=λpn xe hp=>by
 show PI.imp (So (X:=wp X pn xe) (ho pn xe hp) M J) λZ H R q=>?_;let#[F,G,U,P,PX,h2,hw,h1,hx]:=q;show#[F,G,U,_,PX,h2,hw,λr h8 v F1 H1 Y s1 r1 rv=>?_,hx];let#[#[s,I],eg,Y]:=Ah Y;let#[#[ks,vs],ed,h7,Y]:=Ah Y;let#[F2,s2,l2,r2]:=Al (U':=[]) (Z':=[]) r1 (Ad r1) rv eg;let#[F3,s3,rp,r3]:=Rel.giveD (U:=I) (vs:=[v]) (ss:=[s]) r2 (Ad r2);let sm:=s1.trans (s2.trans s3);cases rp with
 |cons p b=>
  let O:dk s.toD=⇑(ks,vs):=ed;generalize s.toD=d at p O;cases p with
  |@dK a i e1 h9 B L rp=>
   cases O;let hs:∀x:Str,Sum.inr x∈i.map (·.1)->x.cps.toList.length<=16777216:=λx h4=>by
    let#[p,h6,h5]:=qL.mp h4;let:dG (aH p.1)=true:=qJ.mp h7 _ (by rw[L];show qL.mpr #[p,h6,rfl]);rw[h5]at this;let h3:x.cps.toList.length<=big:=by simpa[dG,aH] using this
    show le_trans h3 ⋯
   rcases B with B|⟨ob,B⟩
   .let go:∀o,R (bz a o i) (upd H1 a (.frz o (.dK i))):=λo=>h1 _ I _ _ _ Y (sm.trans (EL B rfl)) (r3.frzS B rfl) (GI Aw L (rp.mono (EL B rfl)) hs);show#[a,i,rfl,zF.rd r3.fr (.inl B),λo _=>go o]
   .let e':=r3.fr.at _ _ B;show#[a,i,rfl,.inr #[ob,e'],λo ho=>?_];obtain rfl:=ho ob e';rw[Dz e'];show h1 _ I F3 H1 _ Y sm r3 (GI B L rp hs)
  |_=>cases O
section
variable{K:W.Frag}
def RS(a:Value):argsOk "min" #[[a],[]]:=by unfold argsOk;kernel_rfl
def rS(K:W.Frag):List V->Hp->VK->Prop:=λi H Q=>∃a xs ds,i=[.ref a]/\bB K H a xs/\zS K H xs ds/\xs≠[]/\(∀a∈ds,∀b∈ds,cB a b=true/\cZ a<=9)/\∀v,xs[argBest (nW ds) (xs.length-1)]?=⇑v->Q v H
def RW(hr:bQ k X.A):aU X (.builtin "min") (rS X.K):=by
 intro zU s Z H zs us Q I r h;let#[a,xs,G,rfl,hq,rp,hp,h9,hQ]:=h;let#[u,rfl,rx]:=vals1 r;cases rx;let hu:X.A.units+20<cLine:=by let:=hr.units;lia
 let#[B,rv,pl,hz]:=I.list hq;let Y:s.heap.IsList a B.toArray:=pl.isList;let la:a<s.heap.objs.size:=by let#[o,e,_]:=Y;show qe e
 let O:(toString "min"++toString ".loop":String)="min.loop":=⋯
 show call_function_tree F.kind_min F.plain_min F.entry_min (RS _) ?_;show qa (zr (show Builtin.Builtins.bindParams "min" ["key","default"] 0 #[[],[]]=pure [none,none] from rfl) (qa (qb ?_)));show qa (wpAny_pyIter_list Y (qa (zk ?_)));rw[O];generalize h5:s.heap.push {cls:=.type "list_iterator",data:=.fields [.ref a,.int 0 0].toArray}=h1;let hs:h1.objs.size=s.heap.objs.size+1:=by rw[<-h5];show Heap.size_push ..
 generalize h4:h1.push _=h2;let kp:∀b o,s.heap.get? b=⇑o->h2.get? b=⇑o:=λb o e=>by rw[<-h4];show qc _ (by rw[<-h5];show qc _ e)
 let M:=rv.length;let W:=Walks.list (prog:=X.prog) (w:=X.w) (A:=X.A.in1) (show X.A.in1.handled=none from hr.hd) s.heap.objs.size a (ne_of_lt la) B.toArray;let hk:h2.IsListIter s.heap.objs.size a 0/\h2.IsList a B.toArray:=#[#[_,by rw[<-h4];show qc _ (by rw[<-h5];show qd _ rfl),rfl,rfl],Y.at λo e=>kp _ _ e]
 let hS:h2.get? h1.objs.size=some {cls:=.type "list",dict:=none,data:=.seq #[] 0,slots:=#[]}:=by rw[<-h4];show qd _ rfl
 have h6:h1.objs.size∉[s.heap.objs.size,a]:=λz=>by
  rcases qB.mp z with z|z
  .lia
  .let:=qv.mp z;lia
 let hn:0<B.length:=by rw[<-M];show qQ.mpr hp
 rw[M]at hQ;let hc:h1.objs.size∉[s.heap.objs.size]:=λz=>h6 (qB.mpr (.inl (qv.mp z)));show qb #[plainId_quiet F.plain_min_loop _,codeAny_builtin F.entry_min_loop ?_];show qa (m:=seqItems? (.ref h1.objs.size)) (wpAny_seqItems (s:={s with heap:=h2}) hS rfl (qa (m:=tryCatch (pyNext (.ref s.heap.objs.size)) _) (wpAny_tryCatch (W.item 0 _ _ _ (by rw[qt];show hn) hk λv h3 e4 hP hx h8=>?_))));let e3:=h8 _ _ hc hS;show qa (m:=updateSeq h1.objs.size λ_=>[v,v].toArray) (wpAny_updateSeq e3 rfl ?_);let L:∀b o,s.heap.get? b=⇑o->b∉[s.heap.objs.size]/\b≠h1.objs.size:=λb o e=>by let:=qe e;show#[λz=>by let:=qv.mp z;lia,∅]
 have up:∀b o,b≠h1.objs.size->h3.get? b=⇑o->(h3.update h1.objs.size (Obj.mapSeq λ_=>[v,v].toArray)).get? b=⇑o:=λb o hb e=>(zc _ _ (Ne.symm hb)).trans e;refine qb ⟨plainId_quiet F.plain_min_loop _,SC (s:=s) W h1.objs.size h6 _ (nW G) (λh=>∀b o,s.heap.get? b=⇑o->h.get? b=⇑o) (λh h' J k b o e=>k b o (L b o e).1 (L b o e).2 (J b o e)) (λi j vi vj h tk Q' E' hi hj J hq=>?_) (λv' h' tk h7 J=>?_)
  _ 0 _ e4 v _ rfl (by rw[qt];show hn) (λb o e=>up b o (L b o e).2 (h8 b o (L b o e).1 (kp b o e))) (W.frame _ _ _ hx λb hb o e=>up b o (λz=>h6 (z▸hb)) e) hP (zi _ e3 rfl)⟩
 .let hi:B[i]?=⇑vi:=by simpa using hi
  let hj:B[j]?=⇑vj:=↑hj
  let li:=(qh.mp hi).1;let lj:=(qh.mp hj).1;let hl:=rp.len;show cps λ_ kk=>?_;let#[y1,g1,r1]:=rp.get (qi (show i<G.length by lia));let#[y2,g2,r2]:=rp.get (qi (show j<G.length by lia));let#[u1,g3,r3]:=rv.get g1;let#[u2,g4,r4]:=rv.get g2;rw[hi]at g3;rw[hj]at g4;cases g3;cases g4;let#[c1,c2]:=h9 G[i] (getElem_mem _) G[j] (getElem_mem _);show kk ?_;show HK 9 c2 (I.kept (t':=tk) J) r1 r2 r3 r4 c1 (by show X.A.units+1+9<cLine;lia) X.prog X.w E' Q' ?_;let e1:G.getD i .non=G[i]:=by rw[List.getD_eq_getElem?_getD,qi (show i<G.length by lia)];rfl
  let e2:G.getD j .non=G[j]:=by rw[List.getD_eq_getElem?_getD,qi (show j<G.length by lia)];rfl
  unfold nW at hq;rwa[e1,e2]at hq
 .let h7:B[argBest (nW G) (B.length-1)]?=⇑v':=by simpa using h7
  let la:=GE (nW G) (B.length-1);let#[u1,g3,r3]:=rv.get (qi (show argBest (nW G) (B.length-1)<xs.length by lia));rw[h7]at g3;cases g3;show#[_,H,I.kept (t':=tk) J,r3,hQ _ (qi _)]
def Ry:bS K (rS K) kQ:=by
 intro Z U F G H vs ds s Q i O e hq;let#[d,v,rfl,rfl]:=AB (λx y r=>by cases x<;>first|rfl|(rename_i l;cases l<;>rfl)) rfl O e;cases d with
 |lst l=>
  let#[a,xs,rfl,h1,L]:=O.1.lst i.fr;cases l with
  |nil=>cases e
  |cons b r=>
   let e:(if(b::r).all (λx=>(b::r).all λy=>cB x y&&↥(cZ x<=9))=true then ⇑(S.sh (eC b r))else none)=⇑s:=e;split at e
   .rename_i J;cases e;refine#[a,xs,_,rfl,h1,L.mono i.fr,(λz=>by subst z;cases L),λa ha b hb=>?_,λv hv=>?_]
    .let:=qJ.mp (qJ.mp J a ha) b hb;simpa using this
    .let hl:=L.len;let I:=Ks b r r.length (zb _);rw[List.take_length]at I;let M:xs.length-1=r.length:=by rw[hl];rfl
     rw[M]at hv;let la:=GE (nW (b::r)) r.length;let B:argBest (nW (b::r)) r.length<(b::r).length:=by simp;lia
     let#[y',Y,ry]:=L.get (qi B);rw[hv]at Y;cases Y;show hq v F H (zF.refl F) (i.push ?_);rw[I,List.getD_eq_getElem?_getD,qi B];show ry
   .cases e
 |_=>cases e
def OL(F:bQ k X.A)(I:Gl X "min")(G:X.mg "min"=none)(B:bootBuiltins "min"=⇑(.builtin "min"))(L:FA X (e::es) v)(J:autoParam (starEach (e::es) X.env=(false,eval e X.env)::starEach es X.env) rZ9)(i:autoParam ((backTo pos (starEach es X.env)).any (·.1)=false) rZ9):FE X (.Call (.Name "min" p) (e::es) [] pos) (wB kQ v):=
 Cz (λpn xe=>RW (X:=wp X pn xe) F) Ry I G B L ⋯ ⋯ J i
end
def xB(a:Addr)(o:Obj)(zV:List (List bD×V)):It:=#[λi H=>H a=⇑(.frz o (.dT zV))/\i<zV.length,λi H x H'=>∃b p,zV[i]?=⇑p/\H b=⇑(.tup (p.1.map kV))/\x=.ref b/\H'=H,λi H=>H a=⇑(.frz o (.dT zV))/\zV.length<=i]
def TM{P:Program}{w:World}{K:W.Frag}{a it:Addr}{o:Obj}{zV:List (List bD×V)}{es:Array DictEntry}{ep:Nat}{tg:Expr}(hd:o.data=.dict es ep):
  fT P w K tg (xB a o zV) [it] it (λi h=>h.IsKeyIter it a i zV.length ep) where
 mem:=m1
 obj:=λi h st b hb=>by
  let e:b=it:=↑hb
  subst e;let#[o,e,c,d]:=st;show#[o,e,λv z=>by rw[d]at z;cases z]
 keep:=λi h h' st k=>st.at λo e=>k it m1 o e
 item:=by
  intro X hP hw hK hc i zU s Z H E I hf st hg;subst hP hw hK;show cps λ_ kk=>?_;let#[hH,hi]:=hg;let#[ys,raw,kt,h4,hes]:=IJ I.hok hH hd;let hjs:i<es.size:=hes▸hi;let hl:=Paired.length kt;let hjy:i<ys.length:=hl▸hi;let e3:(ys.map (entryOfKey (tupleKind (aD X.prog X.w))))[i]?=⇑es[i]:=by rw[<-h4,q5,getElem?_eq_getElem hjs]
  rw[qG,qi hjy]at e3;let e4:=qg e3;let#[_,p2,p3]:=Th kt (qi hi) (qi hjy);show kk ?_;let#[f0,f1,f2,f3,f4,f5]:=hf it m1;rw[<-hes]at st;show ST.raw_item st raw hjs λh' st' sb=>?_;let I1:Inv X zU Z H {s with heap:=h'}:=I.turned (t':=s.toks) (λb o hb e=>(sb.2 b hb).trans e) f0 f1 f3 f4 f5;rw[hes]at st';let#[o',e,c,d]:=id st';show#[_,rfl,Dd (s:={s with heap:=h'}) e c d ⋯ #[.ref ys[i].2.1,H,I1,by rw[<-e4];rfl,#[_,zV[i],qi hi,p2,rfl,rfl],st',λb hb=>(hf b hb).1]]
 done:=by intro X hP hw hK hc i zU s Z H E I hf st hg;subst hP hw hK;let#[hH,hi]:=hg;let#[ys,raw,kt,h4,hes]:=IJ I.hok hH hd;let#[f0,f1,f2,f3,f4,f5]:=hf it m1;rw[<-hes]at st;show ST.raw_end (I.ok.hd hc) st raw (hes▸hi) λh' eb=>#[rfl,I.turned (t':=s.toks) (λb o hb e=>eb b o hb e) f0 f1 f3 f4 f5]
 self:=λ_ _ _ _ _ st h=>wpAny_pyIter_keyiter st h
def wN(B:TE):TI:=λZ H R=>B Z H λv H1=>∃a zV,v=.ref a/\Rd H1 a (.dT zV)/\∀o,(∀i,H1 a=⇑(.frz i (.dT zV))->i=o)->R (xB a o zV) (upd H1 a (.frz o (.dT zV)))
def PM(hl:PE X o tl):PI X tg o (wN tl):=by
 intro zU s Z H R I h;show Ai (hl zU s Z H _ I h) λu B zq=>?_;show cps λ_ kk=>?_;let#[x,H1,O,rx,a,zV,ex,i,q]:=zq;subst ex;obtain rfl:u=Value.ref a:=rx;let#[z,hm,ys,kt,F,es,ep,Y,g2,g3,g4,g5,g6]:=BJ O.hok i;show kk ?_;let h3:es.size=zV.length:=by rw[<-qW,g4,qp,<-Paired.length kt]
 show ST.raw_iter hm #[F,Y,g2,g3] ?_;let L:=zb B.heap.objs.size;let M:=O.fpOk L (O.hok.fresh L);let h1:B.heap.objs.size≠a:=λz=>by rw[<-z]at i;rcases i with i|⟨_,i⟩<;>(rw[M.1]at i;cases i)
 generalize hh:B.heap.push _=h2;let kp:∀b w,B.heap.get? b=⇑w->h2.get? b=⇑w:=λb w e=>by rw[<-hh];show qc _ e
 let I2:Inv X zU Z H1 {B with heap:=h2}:=O.kept (t':=B.toks) kp;let J:∀v,H1 a=⇑(.frz v (.dT zV))->v=F:=λv e=>by let:=(show zT X.prog X.w H1 B.heap a (.frz v (.dT zV)) from O.hok a _ e).1;rw[Y]at this;show(qg this).symm
 have I3:Inv X zU Z (upd H1 a (.frz F (.dT zV))) {B with heap:=h2}:=by
  rcases i with i|⟨v,i⟩
  .let G:=I2.hok a _ i;show I2.write (t':=B.toks) (x:=a) (e:=a) (o:=.frz F (.dT zV)) (by rw[i];show True.intro) (.inl rfl) (λ_ _ _ z=>z) #[F,kp _ _ Y] #[kp _ _ Y,G.stay (λ_ _ _ z=>z) (λc e=>by rw[Ae (λz=>by rw[z,i]at e;cases e)];show e) λc xs e=>by rw[Ae (λz=>by rw[z,i]at e;cases e)];show e]
  .obtain rfl:=J v i;rw[Dz i];show I2
 show#[B.heap.objs.size,[B.heap.objs.size],_,_,_,rfl,I3,TM (zV:=zV) g3,?_,λb hb=>?_,q F J]
 .rw[<-hh,<-h3];show#[_,qd _ rfl,rfl,rfl]
 .rw[qv.mp hb];show EI M h1
def Li{K:W.Frag}(e:F0 a=⇑(.frz M (.dT zV)))(J:ks=zV.map λp=>D.tup (p.1.map aH))(hs:ks.all nB=true):dC K (xB a M zV) ks F0:=λi U Z F G H sm v=>by
 let Y:H a=⇑(.frz M (.dT zV)):=(sm.trans v.fr).at _ _ e;show#[λd B=>?_,λh=>#[Y,?_]]
 .let hi:i<zV.length:=by let:=(qh.mp B).1;rw[J,qp]at this;exact this
  show#[#[Y,hi],λx H' zq=>?_];let#[b,p,hp,O,ex,eH]:=zq;subst ex eH;let#[F1,s1,r1,hF]:=v.growT [b] λc hc=>by rw[qv.mp hc];show#[_,O]
  let L:nB d=true:=qJ.mp hs _ (qN B);let I:D.tup (p.1.map aH)=d:=by rw[J,qG,hp]at B;show qg B
  subst I;show#[F1,s1,r1,.tup ((hF b (qv.mpr rfl)).trans O) (Bi _ p.1 L)]
 .rw[J,qp]at h;show h
def Qw(ho:FE X o we):FI X tg o (iS we):=λpn xe hp=>by
 show PI.imp (PM (X:=wp X pn xe) (ho pn xe hp)) λZ H R q=>?_;let#[F,G,U,P,PX,h1,hw,M,hx]:=q;show#[F,G,U,_,PX,h1,hw,λr h2 v F1 H1 J s1 r1 rv=>?_,hx];let#[#[s,B],eg,J]:=Ah J;let#[#[ks,vs],ed,Y,J]:=Ah J;let#[F2,s2,l2,r2]:=Al (U':=[]) (Z':=[]) r1 (Ad r1) rv eg;let#[F3,s3,rp,r3]:=Rel.giveD (U:=B) (vs:=[v]) (ss:=[s]) r2 (Ad r2);let sm:=s1.trans (s2.trans s3);cases rp with
 |cons p b=>
  let I:dj s.toD=⇑(ks,vs):=ed;generalize s.toD=d at p I;cases p with
  |@dT a L h4 h3 i O rp=>
   cases I;rcases i with i|⟨ob,i⟩
   .show#[a,L,rfl,zF.rd r3.fr (.inl i),λo _=>M _ B _ _ _ J (sm.trans (EL i rfl)) (r3.frzS i rfl) (Li Aw O Y)]
   .let e':=r3.fr.at _ _ i;show#[a,L,rfl,.inr #[ob,e'],λo ho=>?_];obtain rfl:=ho ob e';rw[Dz e'];show M _ B F3 H1 _ J sm r3 (Li i O Y)
  |_=>cases I
section
variable{K:W.Frag}
def GA{F F':Hp}{a:Addr}{u:HO}(L:F a=⇑u)(I:bR u=true)(J:∀b,b≠a->F' b=F b)(r:aI K F v d):cB d d=true->aI K F' v d:=
 aI.rec (motive_1:=λv d _=>cB d d=true->aI K F' v d) (motive_2:=λxs B _=>cF B B=true->zS K F' xs B) (λh=>by cases h) (λ_ h=>by cases h) (λi _=>.int i) (λ_ _ h=>by cases h)
  (λ{M _ _} e _ G h=>.tup ((J M (λz=>by rw[z,L]at e;cases e;cases I)).trans e) (G h)) (λ_ _ _ h=>by cases h) (λ_ _ _ _ h=>by cases h) (λ_ _ _ _ h=>by cases h) (λ_ _ _ h=>by cases h) (λ_ _ _ h=>by cases h)
  (λ_=>.nil) (λ_ _ a b h=>by let h':=Bool.and_eq_true_iff.mp h;show .cons (a h'.1) (b h'.2)) r
def TU{F F':Hp}{a:Addr}{u:HO}(I:F a=⇑u)(v:bR u=true)(G:∀b,b≠a->F' b=F b){xs:List V}{ds:List D}(r:zS K F xs ds):(∀d∈ds,cB d d=true)->zS K F' xs ds:=
 zS.ind (P:=λxs ds=>(∀d∈ds,cB d d=true)->zS K F' xs ds) (λ_=>.nil) (λa _ i h=>.cons (GA I v G a (h _ qo)) (i λd B=>h d (qm _ B))) r
def Qh{F H:Hp}{xs:List V}{ds:List D}(r:zS K F xs ds):zI K F H xs (ds.map .sh) []:=
 zS.ind (P:=λxs ds=>zI K F H xs (ds.map .sh) []) .nil (λa _ i=>.cons (fp:=[]) (.sh a) i) r
def Gj{F F' H H':Hp}{a:Addr}{u:HO}(G:F a=⇑u)(v:bR u=true)(B:∀b,b≠a->F' b=F b){xs:List V}{l:List S}{fp:List Addr}(r:zI K F H xs l fp):l.all rC=true->zI K F' H' xs l fp:=
 zI.ind (P:=λxs l fp=>l.all rC=true->zI K F' H' xs l fp) (λ_=>.nil) (λa _ i h=>by
  rw[all_cons,and_eq_true]at h;show .cons ?_ (i h.2);cases a with
  |sh r=>show .sh (GA G v B r h.1)
  |_=>show absurd h.1 (by simp[rC])) r
def IT{F F' H H':Hp}{a:Addr}{u:HO}(G:F a=⇑u)(i:bR u=true)(B:∀b,b≠a->F' b=F b){v:V}{s:S}{fp:List Addr}(r:aF K F H v s fp)(I:∀b∈fp,H' b=H b)(h:dh s=true):aF K F' H' v s fp:=by
 cases r with
 |sh r=>show .sh (GA G i B r h)
 |lst e r=>show .lst ((I _ qo).trans e) (Gj G i B r h)
 |dK e k r=>show .dK ((I _ qo).trans e) k (Gj G i B r h)
 |dT e k r=>show .dT ((I _ qo).trans e) k (Gj G i B r h)
 |st e r=>cases h
def Qn{F F' H H':Hp}(r:zH K F H U Z fp):(∀(k:Nat) s v i,U[k]?=⇑⇑s->Z[k]?=⇑⇑v->aF K F H v s i->(∀b∈i,b∈fp)->aF K F' H' v s i)->zH K F' H' U Z fp:=by
 induction r with
 |nil=>show λ_=>.nil
 |no _ B=>show λh=>.no (B λk s v i h1 h2=>h (k+1) s v i h1 h2)
 |so a _ B=>show λh=>.so (h 0 _ _ _ rfl rfl a λb G=>qk _ G) (B λk s v i h1 h2 J I=>h (k+1) s v i h1 h2 J λb G=>qj _ (I b G))
end
section
variable{X:Cx}{zU:List (Addr×Obj)}{Z:St}{H:Hp}{s:Shared}
def Inv.thaw(I:Inv X zU Z H s)(B:H a=⇑(.frz F u))(O:xJ u=true)(M:∀o w,X.H₀ a≠⇑(.frz o w)):Inv X zU Z (upd H a u) s:=by
 let i:∀b,H b=none->b≠a:=λb n z=>by rw[z,B]at n;cases n
 let v:∀b w,H b=⇑w->bR w=false\/(∃y,w=.own y)\/(∃ps,w=.tbl ps)->b≠a:=λb w e k z=>by rw[z,B]at e;cases e;rcases k with k|⟨_,k⟩|⟨_,k⟩<;>cases k
 show#[I.ok,I.os,I.bare,#[I.base.keep,I.base.slot,λb o e n G=>?_,I.base.there,λb xs e=>?_,λb o w e=>?_,λb ps e=>?_],I.loc,I.cell,?_,λx c e=>?_,λp J=>?_,λb w e=>?_,I.len]
 .let:=I.base.free b o e n G;rw[Ae (i b this)];show this
 .let:=I.base.tups b xs e;rw[Ae (v b _ this (.inl rfl))];show this
 .let:=I.base.frzs b o w e;rw[Ae λz=>M o w (by rw[<-z];show e)];show this
 .obtain⟨m,q⟩:=I.base.tbls b ps e;show#[m,by rw[Ae (v b _ q (.inr (.inr #[_,rfl])))];show q]
 .rw[Ae (i _ I.free)];show I.free
 .rw[Ae (i _ (I.freeC x c e))];show I.freeC x c e
 .obtain⟨h1,h2,L⟩:=I.pin p J;show#[h1,by rw[Ae (i _ h2)];show h2,L]
 .let st:∀{c w},zT X.prog X.w H s.heap c w->zT X.prog X.w (upd H a u) s.heap c w:=λx=>x.stay (λ_ _ _ z=>z) (λc e=>by rw[Ae (v c _ e (.inr (.inl #[_,rfl])))];show e) λc xs e=>by rw[Ae (v c _ e (.inl rfl))];exact e
  by_cases z:b=a
  .subst z;rw[Aw]at e;cases e;show st (show zT X.prog X.w H s.heap b (.frz F u) from I.hok b _ B).2
  .rw[Ae z]at e;show st (I.hok b w e)
end
def FV:∀{U:Env}{i:Nat}{s:S},U[i]?=⇑⇑s->slot U i=⇑s
 |[],_,_,h=>by simp at h
 |_::_,0,_,h=>by simpa[slot] using h
 |_::U,i+1,_,h=>FV (U:=U) ↑h
theorem OB(j:Nat)(he:FE X e we):FE X e (lU j we):=λpn xe hp=>by
 intro zU s Z H Q I q;let#[F,G,U,P,PX,hs,#[hd,hw],hok,hx]:=q;cases qs:slot U j with
 |none=>rw[qs]at hd;show hd.elim
 |some s0=>
 rw[qs]at hd;match s0,qs,hd with
 |.dct false ks l,qs,_=>
 let#[fp,en,nd,ap]:=id hs.en;let#[v0,fa,fi,fb,e1,rfl,sr,_]:=en.at qs;cases sr with
 |@dK a kvs0 _ _ fl hD _ _=>
 let h9:=ap a (qj _ (qk _ qo));let h0:∀o w,(wp X pn xe).H₀ a≠⇑(.frz o w):=λo w z=>by let:=I.base.frzs a o w z;rw[hD]at this;cases this
 show Ai (he pn xe hp zU s Z H (λv H1=>∃H2,(H2=H1\/∃ob u,H1 a=⇑(.frz ob u)/\xJ u=true/\H2=upd H1 a u)/\Q v H2) I #[F,G,U,mR j U P,PX,hs,hw,λr L v F1 H1 hk s1 r1 rv=>?_,hx]) λu s1 zq=>?_
 .obtain⟨r3,e4,s',hq,hlk,rfl,hs',k2,k1,hP⟩:=hk;let hl:L.length=Z.length:=Ad r1;let#[fp1,en1,nd1,ap1]:=r1.en;let hj:j<L.length:=BY hq;let hr:slot (L++[⇑s']) j=⇑(.sh (.dct false r3 e4)):=FV ((getElem?_append_left hj).trans (Hh hq));let#[v1,ga,gi,gb,e2,rfl,sr1,up1]:=en1.at hr;rw[getElem?_append_left (hl▸hj),e1]at e2;cases e2;cases sr1 with
  |sh rp=>
  cases rp with
  |@dK _ M _ _ rd hks hc=>
  obtain⟨u,hA,hu⟩:∃u,F1 a=some u/\bR u=true:=by
   rcases rd with h|⟨o,h⟩
   .show#[_,h,rfl]
   .show#[_,h,rfl]
  let Y:∀b,b≠a->(λb=>if b=a then none else F1 b) b=F1 b:=λb B=>q9 B;generalize hF':(λb=>if b=a then none else F1 b:Hp)=F' at Y;let hFa:F' a=none:=by rw[<-hF'];show q8 rfl
  have sF:zF F F':=λb o e=>by
   let B:b≠a:=λz=>by rw[z,h9.1]at e;cases e
   let#[o',e',l']:=s1 b o e;show#[o',by rw[Y b B];show e',l']
  let h8:∀b∈ga++([]++gb),b≠a:=λb B z=>by let:=(ap1 b B).1;rw[z,hA]at this;cases this
  let hH1:∀b,b≠a->upd H1 a (.dK M) b=H1 b:=λb B=>Ae B
  --the slot empty
  have en2:=up1 (o:=none) (u:=⇑(.ref a)) (fi':=[]) (zF.refl F1) (λ_ _=>rfl) (.no .nil);let es:((Z++[⇑v]):St).set j ⇑(.ref a)=Z++[⇑v]:=DB (by rw[getElem?_append_left (hl▸hj)];show e1);rw[es]at en2;let en3:zH X.K F' (upd H1 a (.dK M)) ((L++[⇑s']).set j none) (Z++[⇑v]) (ga++([]++gb)):=Qn en2 λk sk vk fpk h1 h2 h3 h4=>by
   let hfk:∀b∈fpk,upd H1 a (.dK M) b=H1 b:=λb B=>hH1 b (h8 b (h4 b B));by_cases h6:k=j
   .subst h6;rw[getElem?_set_self (by simp;lia -verbose)]at h1;cases h1
   .rw[getElem?_set_ne (Ne.symm h6)]at h1;by_cases h5:k<L.length
    .rw[getElem?_append_left h5]at h1;rw[getElem?_append_left (hl▸h5)]at h2;let k3:k<U.length:=k2▸h5;rcases JV k1 (qi k3) h1 with z|⟨d,z1,z2⟩|z|⟨s2,z,hz⟩
     .show absurd ∅ h6
     .cases z2;let#[v2,_,_,_,e3,_,q2,_]:=en.at (i:=k) (s:=.sh d) (FV (by rw[qi k3,z1]));rw[h2]at e3;cases e3;cases q2 with
      |sh r2=>
       cases h3 with
       |sh _=>show .sh (r2.mono sF)
     .cases z
     .cases z;show IT hA hu Y h3 hfk hz
    .let hk2:k=L.length:=by let:=(qh.mp h1).1;simp at this;lia
     subst hk2;simp at h1;subst h1;show IT hA hu Y h3 hfk hs'
  let#[ha,hi,B,ep,up3]:=en3.put (i:=j) (by simp;lia -verbose);let en4:=up3 (o:=⇑(.dct false r3 (e4.map .sh))) (u:=⇑(.ref a)) (fi':=[a]++[]) (zF.refl F') (λ_ _=>rfl) (.so (.dK Aw hks (Qh (TU hA hu Y hc hlk))) .nil);rw[es,List.set_set,List.set_append_left _ _ hj]at en4;let O:(ha++B).Sublist (ga++([]++gb)):=by rw[ep];show List.Sublist.append (List.Sublist.refl _) (List.sublist_append_right _ _)
  let h7:∀b∈ha++B,b∈ga++([]++gb):=λb B=>O.subset B;show#[upd H1 a (.dK M),?_,hok (.v s') _ v F' _ hP sF #[λb o e=>?_,λb o e=>?_,_,en4,?_,λb hb'=>?_] trivial]
  .rcases r1.fr.rd rd with h|⟨o,h⟩
   .show .inl (Dz h)
   .show .inr #[o,_,h,rfl,rfl]
  .let J:b≠a:=λz=>by rw[z,hFa]at e;cases e
   rw[Y b J]at e;rw[Ae J];show r1.fr b o e
  .let J:b≠a:=λz=>by rw[z,h9.2]at e;cases e
   rw[Ae J,Y b J];show r1.gr b o e
  .let hnd:(ha++B).Nodup:=O.nodup nd1;let:(ha++([a]++[]++B)).Perm (a::(ha++B)):=by simpa using perm_middle
   show this.nodup_iff.mpr (qM.mpr #[λz=>h8 a (h7 a z) rfl,hnd])
  .let hm:b=a\/b∈ha++B:=by simp at hb'⊢;grind
   rcases hm with rfl|hm
   .show#[hFa,h9.2]
   .let J:=h8 b (h7 b hm);rw[Y b J];show ap1 b (h7 b hm)
 .obtain⟨x,H1,I1,rx,H2,hH2,hQ⟩:=zq;rcases hH2 with rfl|⟨ob,w,e,hw',rfl⟩
  .show#[x,H2,I1,rx,hQ]
  .show#[x,_,Inv.thaw I1 e hw' h0,rx,hQ]
def NF(ho:FE X a (zv j))(he:∀whole,isTrue a X.env whole=(do let v<-whole;standAt a.pos;holding [v] (truthy v)):=by intro _;rfl):FT X a (gM j):=by
 intro pn xe hp;show PT.imp (Jy (ho pn xe hp) he) λZ H Q h=>?_;let#[F,G,U,P,PX,zW,hw,hok,hx]:=h;unfold gM at hw;cases qs:slot U j with
 |none=>rw[qs]at hw;show hw.elim
 |some s0=>
 rw[qs]at hw;match s0,qs,hw with
 |.dct false ks l,qs,hw=>
 show#[F,G,U,λy U1=>y=.loc j/\U1=U,PX,zW,by unfold zv;rw[qs];show#[rfl,rfl],λx U1 v F1 H1 hk s1 r1 rv1=>?_,hx];let#[rfl,rfl]:=hk;let hl:=Ad r1;let r2:=r1.drop hl;let hZ:Z[j]?=⇑⇑v:=rv1;let#[fp,en,nd,ap]:=r2.en;let#[v0,fa,fi,fb,e1,rfl,sr,_]:=en.at qs;rw[hZ]at e1;cases e1;cases sr with
 |@dK a zV _ _ fl hD hk _=>
 show#[!ks.isEmpty,.inr (.inr #[zV,hD,by rw[hk];cases zV<;>rfl]),hok _ U1 F1 H1 hw s1 r2]
end FL
namespace FL
def e_C:wC d U Q E=Q (.v (.sh d)) U:=rfl
def kV(o:Option S)(Q:WQ)(U:Env):Prop:=zz o λs=>Q (.v s) U
def e_V:kV ⇑s Q U=Q (.v s) U:=rfl
def mX(o:D->D->Option S)(x y:Option D)(Q:WQ)(U:Env):Prop:=zz x λp=>zz y λq=>kV (o p q) Q U
def kK(o:D->D->Option S)(x:R)(Q:WQ):WQ:=λy i=>mX o (zQ x i) (zQ y i) Q i
def sC(o:D->D->Option S)(b:WE)(Q:WQ)(E:WX):WQ:=λx i=>b i (kK o x Q) E
def zsq:zL o a b U Q E=a U (sC o b Q E) E:=rfl
def znM:sC o b Q E x U=b U (kK o x Q) E:=rfl
def znX:mX o ⇑p ⇑q Q U=kV (o p q) Q U:=rfl
def kC(o:Option Bool)(Q:Bool->Env->Prop)(U:Env):Prop:=zz o λc=>Q c U
def e_Ck{c:Bool}:kC ⇑c QT U=QT c U:=rfl
def iH(o:D->D->Option Bool)(x y:Option D)(Q:Bool->Env->Prop)(U:Env):Prop:=zz x λp=>zz y λq=>kC (o p q) Q U
def gE(o:D->D->Option Bool)(x:R)(Q:Bool->Env->Prop):WQ:=λy i=>iH o (view x i) (view y i) Q i
def rZ(o:D->D->Option Bool)(b:WE)(Q:Bool->Env->Prop)(E:WX):WQ:=λx i=>b i (gE o x Q) E
def zsa:aM i a b U QT E=a U (rZ i b QT E) E:=rfl
def zpQ:rZ i b QT E x U=b U (gE i x QT) E:=rfl
def znt:iH i ⇑p ⇑q QT U=kC (i p q) QT U:=rfl
def iW(x:Option D)(Q:Bool->Env->Prop)(U:Env):Prop:=zz x λp=>kC (eQ p) Q U
def rX(Q:Bool->Env->Prop):WQ:=λx U=>iW (view x U) Q U
def zom:fI a U QT E=a U (rX QT) E:=rfl
def zlB:rX QT x U=iW (view x U) QT U:=rfl
def zlp:iW ⇑p QT U=kC (eQ p) QT U:=rfl
def wG(b:WT)(Q:Bool->Env->Prop)(E:WX):Bool->Env->Prop:=λc i=>if c then b i Q E else Q false i
def zsV:dE t u U QT E=t U (wG u QT E) E:=rfl
def zot:wG u QT E true U=u U QT E:=rfl
def zoe:wG u QT E false U=QT false U:=rfl
def jn(b:WT)(Q:Bool->Env->Prop)(E:WX):Bool->Env->Prop:=λc i=>if c then Q true i else b i Q E
def e_Or:kU t u U QT E=t U (jn u QT E) E:=rfl
def zsj:jn u QT E true U=QT true U:=rfl
def zrN:jn u QT E false U=u U QT E:=rfl
def yV(Q:Bool->Env->Prop):Bool->Env->Prop:=λc i=>Q (!c) i
def zqU:jD t U QT E=t U (yV QT) E:=rfl
def zpi{c:Bool}:yV QT c U=QT (!c) U:=rfl
def yU(Q:WQ):Bool->Env->Prop:=λc i=>Q (.v (.sh (.bl c))) i
def zrR:iA t U Q E=t U (yU Q) E:=rfl
def zoM{c:Bool}:yU Q c U=Q (.v (.sh (.bl c))) U:=rfl
def iX(x:Option D)(Q:WQ)(U:Env):Prop:=zz x λp=>zz (eQ p) λc=>Q (.v (.sh (.bl (!c)))) U
def rY(Q:WQ):WQ:=λx U=>iX (view x U) Q U
def zoK:lT a U Q E=a U (rY Q) E:=rfl
def zlq:rY Q x U=iX (view x U) Q U:=rfl
def zlD{c:Bool}:iX ⇑(.bl c) Q U=Q (.v (.sh (.bl (!c)))) U:=rfl
def jA(x:Option D)(b:WE)(Q:WQ)(E:WX)(U:Env):Prop:=match x with|some (.bl c)=>if c then b U Q E else Q (.v (.sh (.bl false))) U|_=>False
def sD(b:WE)(Q:WQ)(E:WX):WQ:=λx U=>jA (view x U) b Q E U
def znP:iD a b U Q E=a U (sD b Q E) E:=rfl
def zlF:sD b Q E x U=jA (view x U) b Q E U:=rfl
def zl4:jA ⇑(.bl true) b Q E U=b U Q E:=rfl
def zqY:zx U QA E=QA [] U:=rfl
def iY(r:R)(Q:List R->Env->Prop):List R->Env->Prop:=λi U=>Q (r::i) U
def mW(b:WA)(Q:List R->Env->Prop)(E:WX):WQ:=λr i=>b i (iY r Q) E
def zpz:zw a i U QA E=a U (mW i QA E) E:=rfl
def zma:mW i QA E r U=i U (iY r QA) E:=rfl
def zmf:iY r QA rs U=QA (r::rs) U:=rfl
def ar(s:S):Option (List S×Env)->Option (List S×Env)
 |some (ss,U)=>⇑(s::ss,U)
 |none=>none
def jx(rs:List R):Option (S×Env)->Option (List S×Env)
 |some (s,U)=>ar s (aK rs U)
 |none=>none
def zsK:aK [] U=⇑([],U):=rfl
theorem e_gA:aK (r::rs) U=jx rs (give r U):=by
 rw[aK];unfold jx;cases give r U with
 |none=>rfl
 |some z=>let#[s,i]:=z;show(match aK rs i with|some (ss,U2)=>⇑(s::ss,U2)|none=>none)=ar s (aK rs i);unfold ar;rfl
def zti:jx rs ⇑(s,U)=ar s (aK rs U):=rfl
def zqS:ar s ⇑(ss,U)=⇑(s::ss,U):=rfl
def gv(i:Nat)(U:Env):Option S->Option (S×Env)
 |some s=>⇑(.sh s.toD,U.set i ⇑(.sh s.toD))
 |none=>none
def e_gv:give (.v s) U=⇑(s,U):=rfl
theorem e_gl:give (.loc i) U=gv i U (slot U i):=by unfold give gv;rfl
def ztk:gv i U ⇑s=⇑(.sh s.toD,U.set i ⇑(.sh s.toD)):=rfl
def jX(l:Bool)(x:Option (List S×Env))(Q:WQ):Prop:=zz (if l then x else none) λp=>Q (.v (.sh (.tup (p.1.map S.toD)))) p.2
def kI(l:Bool)(x:Option (List S×Env))(Q:WQ):Prop:=zz (if l then x else none) λp=>Q (.v (.lst p.1)) p.2
def cR(rs:List R):Bool:=↥(rs.length<=big)
def uT(Q:WQ):List R->Env->Prop:=λi U=>jX (cR i) (aK i U) Q
def vF(Q:WQ):List R->Env->Prop:=λi U=>kI (cR i) (aK i U) Q
theorem zss:bK i U Q E=i U (uT Q) E:=by unfold bK uT jX cR;simp
def znQ:uT Q rs U=jX (cR rs) (aK rs U) Q:=rfl
def zov:jX true ⇑(ss,U) Q=Q (.v (.sh (.tup (ss.map S.toD)))) U:=rfl
theorem zqM:cS i U Q E=i U (vF Q) E:=by unfold cS vF kI cR;simp
def zo1:vF Q rs U=kI (cR rs) (aK rs U) Q:=rfl
def zpA:kI true ⇑(ss,U) Q=Q (.v (.lst ss)) U:=rfl
def e_l0:cR []=true:=rfl
def e_l1:cR [i]=true:=rfl
def e_l2:cR [v,i]=true:=rfl
def e_l3:cR [B,v,i]=true:=rfl
def e_l4:cR [F,B,v,i]=true:=rfl
def e_l5:cR [G,F,B,v,i]=true:=rfl
def e_vv:view (.v s) U=⇑s.toD:=rfl
def e_vl:view (.loc i) U=(slot U i).map S.toD:=rfl
def e_cv:zQ (.v s) U=⇑s.toD:=rfl
def vC:Option S->Option D
 |some s=>if s.flat then ⇑s.toD else none
 |none=>none
theorem e_cl:zQ (.loc i) U=vC (slot U i):=by unfold zQ vC;rfl
theorem zpn(h:l.all S.isSh=true):vC ⇑(.lst l)=⇑(.lst (l.map S.toD)):=by show(if l.all S.isSh=true then ⇑(S.toD (.lst l))else none)=_;rw[q8 h,S.toD_lst]
theorem e_sh{l:List D}:(l.map S.sh).all S.isSh=true:=by simp[S.isSh]
theorem zaz{l:List D}:(l.map S.sh).map S.toD=l:=by rw[qF];show map_id l
theorem zsr:vC ⇑(.lst (l.map S.sh))=⇑(.lst l):=by rw[zpn e_sh,zaz]
def pI(o:Option S)(Q:WQ)(U:Env):Prop:=match o with|some (.sh d)=>Q (.v (.sh d)) U|_=>False
def pJ(o:Option S)(q:D)(Q:WQ)(U:Env):Prop:=match o with|some s=>pI (iI s q) Q U|none=>False
def mO(x:R)(o:Option D)(Q:WQ)(U:Env):Prop:=zz o λq=>match x with|.v s=>kV (iI s q) Q U|.loc i=>pJ (slot U i) q Q U
def pK(x:R)(Q:WQ):WQ:=λy i=>mO x (view y i) Q i
def vI(b:WE)(Q:WQ)(E:WX):WQ:=λx i=>b i (pK x Q) E
theorem e_Ix:dB a b U Q E=a U (vI b Q E) E:=by unfold dB vI pK mO pJ pI kV;rfl
def zsz:vI b Q E x U=b U (pK x Q) E:=rfl
def zr1:pK x Q y U=mO x (view y U) Q U:=rfl
def zpT:mO (.v s) ⇑q Q U=kV (iI s q) Q U:=rfl
def zm7:mO (.loc i) ⇑q Q U=pJ (slot U i) q Q U:=rfl
def zqQ:pJ ⇑s q Q U=pI (iI s q) Q U:=rfl
def zq1:pI ⇑(.sh d) Q U=Q (.v (.sh d)) U:=rfl
def zqV:iI (.sh (.tup l)) (.int z)=(atI l z).map S.sh:=rfl
def zqq:iI (.sh (.lst l)) (.int z)=(atI l z).map S.sh:=rfl
def zsO:iI (.sh (.str l)) (.int z)=(atI l z).map λc=>S.sh (.str [c]):=rfl
def zs3:iI (.lst l) (.int z)=atI l z:=rfl
def Bp(i:0<=z)(h:l[z.toNat]?=⇑v):atI l z=⇑v:=by let:z.toNat<l.length:=(qh.mp h).1;unfold atI ixN;rw[q8 i,q8 ∅];show h
theorem zpr:atI (v::l) 0=⇑v:=Bp ⋯ rfl
theorem zog:atI (i::v::l) 1=⇑v:=Bp ⋯ rfl
theorem zoa:atI (B::i::v::l) 2=⇑v:=Bp ⋯ rfl
theorem ztc:atI (F::B::i::v::l) 3=⇑v:=Bp ⋯ rfl
theorem zq6:atI (G::F::B::i::v::l) 4=⇑v:=Bp ⋯ rfl
def pA(s:S):Option (List S×Env)->Option (List S×Env)
 |some (ss,U)=>⇑(s::ss,U)
 |none=>none
theorem e_p0:bW ms [] U=⇑([],U):=by cases ms<;>rfl
theorem e_pv:bW (h::ms) (.v s::rs) U=pA s (bW ms rs U):=by rw[bW];unfold pA;rfl
def pL(i:Nat)(o:Option S)(ms:List Bool)(rs:List R)(U:Env):Option (List S×Env):=match o with
 |some s=>pA s (bW ms rs (U.set i none))
 |none=>none
theorem e_pl:bW (true::ms) (.loc i::rs) U=pL i (slot U i) ms rs U:=by rw[bW];unfold pL pA;cases slot U i<;>rfl
def zsY:pL i ⇑s ms rs U=pA s (bW ms rs (U.set i none)):=rfl
def e_pA:pA s ⇑(ss,U)=⇑(s::ss,U):=rfl
def e_b0:back ms [] ss U=U:=rfl
def e_bv{s t:S}:back (h::ms) (.v s::rs) (t::ss) U=back ms rs ss U:=rfl
def e_bl{t:S}:back (true::ms) (.loc i::rs) (t::ss) U=back ms rs ss (U.set i ⇑t):=rfl
def mV(ms:List Bool)(rs:List R)(U:Env)(Q:WQ):S->List S->Prop:=λs i=>Q (.v s) (back ms rs i U)
def ae(ms:List Bool)(rs:List R)(U:Env)(E:WX):D->List S->Prop:=λx i=>E x (back ms rs i U)
def iZ(f:WF)(ms:List Bool)(rs:List R)(o:Option (List S×Env))(Q:WQ)(E:WX):Prop:=zz o λp=>f p.1 (mV ms rs p.2 Q) (ae ms rs p.2 E)
def sA(f:WF)(ms:List Bool)(Q:WQ)(E:WX):List R->Env->Prop:=λi U=>iZ f ms i (bW ms i U) Q E
def zpR:zN f ms i U Q E=i U (sA f ms Q E) E:=rfl
def zmH:sA f ms Q E rs U=iZ f ms rs (bW ms rs U) Q E:=rfl
def zlG:iZ f ms rs ⇑(ss,U) Q E=f ss (mV ms rs U Q) (ae ms rs U E):=rfl
def znV:mV ms rs U Q s ss=Q (.v s) (back ms rs ss U):=rfl
def vA:Option D->Option (List D)->Option (List D)
 |some d,some ds=>⇑(d::ds)
 |_,_=>none
def eK(rs:List R)(U:Env):Option (List D):=match rs with
 |[]=>⇑[]
 |r::rs=>vA (zQ r U) (eK rs U)
def Ew:∀rs:List R,(rs.mapM λr=>zQ r U)=eK rs U
 |[]=>rfl
 |r::rs=>by
  rw[List.mapM_cons,Ew rs,eK];cases zQ r U with
  |none=>rfl
  |some d=>cases eK rs U<;>rfl
def zqb:eK [] U=⇑[]:=rfl
def e_vA:eK (r::rs) U=vA (zQ r U) (eK rs U):=rfl
def zrT:vA ⇑d ⇑ds=⇑(d::ds):=rfl
def nQ(f:List D->Option S)(o:Option (List D))(Q:WQ)(U:Env):Prop:=zz o λi=>kV (f i) Q U
def kB(f:List D->Option S)(Q:WQ):List R->Env->Prop:=λi U=>nQ f (eK i U) Q U
theorem e_B:wB f i U Q E=i U (kB f Q) E:=by unfold wB kB nQ kV;simp only[Ew]
def e_B1:kB f Q rs U=nQ f (eK rs U) Q U:=rfl
def e_B2:nQ f ⇑ds Q U=kV (f ds) Q U:=rfl
def pG(f:List Nat->List D->Option S)(l:List Nat)(Q:WQ):List R->Env->Prop:=λi U=>nQ (f l) (eK i U) Q U
def jo(f:List Nat->List D->Option S)(i:WA)(Q:WQ)(E:WX):WQ:=λx U=>match x with
 |.v (.sh (.str l))=>i U (pG f l Q) E
 |_=>False
theorem e_MS:xG f a i U Q E=a U (jo f i Q E) E:=by unfold xG jo pG nQ kV;simp only[Ew];all_goals rfl
def zrW:jo f i Q E (.v (.sh (.str l))) U=i U (pG f l Q) E:=rfl
def zsQ:pG f l Q rs U=nQ (f l) (eK rs U) Q U:=rfl
def pW(j:Nat)(s:S)(o:Option S)(U:Env)(Q:WQ):Prop:=match o with
 |some (.lst l)=>l.length<big/\Q (.v (.sh .non)) (U.set j ⇑(.lst (l++[s])))
 |_=>False
def pX(j:Nat)(o:Option (S×Env))(Q:WQ):Prop:=zz o λp=>pW j p.1 (slot p.2 j) p.2 Q
def pY(j:Nat)(Q:WQ):WQ:=λr U=>pX j (give r U) Q
def js(j:Nat)(o:Option S)(a:WE)(U:Env)(Q:WQ)(E:WX):Prop:=match o with
 |some (.lst _)=>a U (pY j Q) E
 |_=>False
theorem e_Ap:bM j a U Q E=js j (slot U j) a U Q E:=by unfold bM js pY pX pW;rfl
def zrm:js j ⇑(.lst l) a U Q E=a U (pY j Q) E:=rfl
def zr3:pY j Q r U=pX j (give r U) Q:=rfl
def zr6:pX j ⇑(s,U) Q=pW j s (slot U j) U Q:=rfl
def zsT:pW j s ⇑(.lst l) U Q=(l.length<big/\Q (.v (.sh .non)) (U.set j ⇑(.lst (l++[s])))):=rfl
def kG(j:Nat)(o:Option D)(p:Option S)(U:Env)(Q:WQ):Prop:=match o,p with
 |some (.int i),some (.lst l)=>zz (if l.length<=big then ixN l.length i else none) λk=>zz l[k]? λs=>Q (.v s) (U.set j ⇑(.lst (l.eraseIdx k)))
 |_,_=>False
def kH(j:Nat)(Q:WQ):WQ:=λr U=>kG j (view r U) (slot U j) U Q
def vE(j:Nat)(o:Option S)(a:WE)(U:Env)(Q:WQ)(E:WX):Prop:=match o with
 |some (.lst _)=>a U (kH j Q) E
 |_=>False
theorem zqX:gO j a U Q E=vE j (slot U j) a U Q E:=by unfold gO vE kH kG;rfl
def zpv:vE j ⇑(.lst l) a U Q E=a U (kH j Q) E:=rfl
def zoA:kH j Q r U=kG j (view r U) (slot U j) U Q:=rfl
def Nj(B:0<=z)(v:l.length<=big)(h:l[z.toNat]?=⇑s)(i:Q (.v s) (U.set j ⇑(.lst (l.eraseIdx z.toNat)))):kG j ⇑(.int z) ⇑(.lst l) U Q:=by
 let:z.toNat<l.length:=(qh.mp h).1;let e:(if l.length<=big then ixN l.length z else none)=⇑z.toNat:=by unfold ixN;rw[q8 v,q8 B,q8 ∅]
 show zz (if l.length<=big then ixN l.length z else none) _;rw[e,Dw,h];show i
def iG(T:String)(o:Option D)(Q:WQ)(U:Env):Prop:=zz o λd=>eR d=true/\Q (.v (.sh (.bl (eD T d)))) U
def yX(T:String)(Q:WQ):WQ:=λx U=>iG T (view x U) Q U
def zth:iC T a U Q E=a U (yX T Q) E:=rfl
def zm9:yX T Q x U=iG T (view x U) Q U:=rfl
theorem zmg{l:List D}:iG T ⇑(.tup l) Q U=Q (.v (.sh (.bl (eD T (.tup l))))) U:=by show(_/\_)=_;simp[eR]
theorem zmi{z:Int}:iG T ⇑(.int z) Q U=Q (.v (.sh (.bl (eD T (.int z))))) U:=by show(_/\_)=_;simp[eR]
theorem zmP{z:List Nat}:iG T ⇑(.str z) Q U=Q (.v (.sh (.bl (eD T (.str z))))) U:=by show(_/\_)=_;simp[eR]
def znc{t:Bool}:gA t U Q E=Q (.v (.dct t [] [])) U:=rfl
def vU(o:Option D)(p:Option (S×Env))(Q:WQ):Prop:=zz o λq=>zz p λp=>cJ q=true/\Q (.v (.dct false [q] [p.1])) p.2
def vV(x:R)(Q:WQ):WQ:=λy U=>vU (view x U) (give y U) Q
def ab(v:WE)(Q:WQ)(E:WX):WQ:=λx U=>v U (vV x Q) E
def e_Di:gQ a b U Q E=a U (ab b Q E) E:=rfl
def zqd:ab b Q E x U=b U (vV x Q) E:=rfl
def zqg:vV x Q y U=vU (view x U) (give y U) Q:=rfl
def zqI:vU ⇑q ⇑(s,U) Q=(cJ q=true/\Q (.v (.dct false [q] [s])) U):=rfl
def zrj:kL ⇑(.dct false ks l)=True:=rfl
def zoR:cJ (.int z)=true:=rfl
def vD(o:Option D)(Q:Option Int->Env->Prop)(U:Env):Prop:=match o with|some (.int i)=>Q ⇑i U|_=>False
def ll(Q:Option Int->Env->Prop):WQ:=λx U=>vD (view x U) Q U
def zqF{Q:Option Int->Env->Prop}:eO none U Q E=Q none U:=rfl
def e_Pt{Q:Option Int->Env->Prop}:eO ⇑a U Q E=a U (ll Q) E:=rfl
def ztj{Q:Option Int->Env->Prop}:ll Q x U=vD (view x U) Q U:=rfl
def zr2{Q:Option Int->Env->Prop}:vD ⇑(.int z) Q U=Q ⇑z U:=rfl
def uU(o:Option D)(l h:Option Int)(Q:WQ)(U:Env):Prop:=zz o λd=>kV (iN d l h) Q U
def uV(x:R)(l:Option Int)(Q:WQ):Option Int->Env->Prop:=λh U=>uU (zQ x U) l h Q U
def uW(x:R)(hi:Option WE)(Q:WQ)(E:WX):Option Int->Env->Prop:=λl U=>eO hi U (uV x l Q) E
def lb(lo hi:Option WE)(Q:WQ)(E:WX):WQ:=λx U=>eO lo U (uW x hi Q E) E
def e_Sl:fJ a lo hi U Q E=a U (lb lo hi Q E) E:=rfl
def zs8:lb lo hi Q E x U=eO lo U (uW x hi Q E) E:=rfl
def zsL:uW x hi Q E l U=eO hi U (uV x l Q) E:=rfl
def zq8:uV x l Q h U=uU (zQ x U) l h Q U:=rfl
def zsR:uU ⇑d l h Q U=kV (iN d l h) Q U:=rfl
def xF(D:Ends)(k:Env->Prop):Ends:={D with nx:=k}
def e_nx:(xF D' K).nx=K:=rfl
def e_rt:(xF D' K).rt=D'.rt:=rfl
def e_ex:(xF D' K).ex=D'.ex:=rfl
def zoX:aS D' U=D'.nx U:=rfl
def zqK:zM v w D' U=v (xF D' (w D')) U:=rfl
def dg(a b:WS)(D:Ends):Bool->Env->Prop:=λk U=>if k then a D U else b D U
def e_If:dU t v w D' U=t U (dg v w D') D'.ex:=rfl
def zr4:dg v w D' true U=v D' U:=rfl
def zsv:dg v w D' false U=w D' U:=rfl
def zqx:bL a D' U=a U D'.rt D'.ex:=rfl
def ly(D:Ends):WQ:=λ_ U=>D.nx U
def zos:wExpr a D' U=a U (ly D') D'.ex:=rfl
def zl0:ly D' r U=D'.nx U:=rfl
def mY(g:WG)(D:Ends)(o:Option (S×Env)):Prop:=zz o λp=>g p.1 p.2 D.nx
def ag(g:WG)(D:Ends):WQ:=λr U=>mY g D (give r U)
def zrP:zO g a D' U=a U (ag g D') D'.ex:=rfl
def znY:ag g D' r U=mY g D' (give r U):=rfl
def zoy:mY g D' ⇑(s,U)=g s U D'.nx:=rfl
def e_gN:zy i s U K=K (U.set i ⇑s):=rfl
def lr(i:List WG)(d:D)(U:Env)(Q:Env->Prop):Prop:=match d with|.tup ds=>ds.length=i.length/\dH i ds U Q|_=>False
def e_gT:bP i s U K=lr i s.toD U K:=rfl
def zqm:lr i (.tup ds) U K=(ds.length=i.length/\dH i ds U K):=rfl
def yZ(i:List WG)(ds:List D)(Q:Env->Prop):Env->Prop:=λU=>dH i ds U Q
def zrK:dH [] [] U K=K U:=rfl
def zq2:dH (g::i) (d::ds) U K=g (.sh d) U (yZ i ds K):=rfl
def zqN:yZ i ds K U=dH i ds U K:=rfl
def gD(j:Nat)(D:Ends)(x:R)(q:FL.D)(s:S)(o:Option S)(U:Env):Prop:=match x,q,o with
 |.loc k,.int n,some (.lst l)=>k=j/\zz (ixN l.length n) λm=>D.nx (U.set j ⇑(.lst (l.set m s)))
 |_,_,_=>False
def jY(j:Nat)(D:Ends)(x:R)(o:Option FL.D)(p:Option (S×Env)):Prop:=zz o λq=>zz p λp=>gD j D x q p.1 (slot p.2 j) p.2
def jZ(j:Nat)(D:Ends)(r x:R):WQ:=λy U=>jY j D x (view y U) (give r U)
def kF(j:Nat)(i:WE)(D:Ends)(r:R):WQ:=λx U=>i U (jZ j D r x) D.ex
def mK(j:Nat)(i:WE)(D:Ends):WQ:=λr U=>zv j U (kF j i D r) D.ex
theorem zsZ:fK j a b D' U=b U (mK j a D') D'.ex:=by unfold fK mK kF jZ jY gD;rfl
def zpD:mK j a D' r U=zv j U (kF j a D' r) D'.ex:=rfl
def zne:kF j a D' r x U=a U (jZ j D' r x) D'.ex:=rfl
def zoW:jZ j D' r x y U=jY j D' x (view y U) (give r U):=rfl
def zoh:jY j D' x ⇑q ⇑(s,U)=gD j D' x q s (slot U j) U:=rfl
def Ih(i:0<=z)(h1:z<l.length):gD j D' (.loc j) (.int z) s ⇑(.lst l) U=D'.nx (U.set j ⇑(.lst (l.set z.toNat s))):=by show(j=j/\zz (ixN l.length z) _)=_;unfold ixN;rw[q8 i,q8 h1,Dw];simp
theorem zmZ:gD j D' (.loc j) (.int 0) s ⇑(.lst [s0,i]) U=D'.nx (U.set j ⇑(.lst [s,i])):=Ih ⋯ (by show(0:Int)<2;decide)
theorem zmN:gD j D' (.loc j) (.int 1) s ⇑(.lst [s0,i]) U=D'.nx (U.set j ⇑(.lst [s0,s])):=Ih ⋯ (by show(1:Int)<2;decide)
def mT(j:Nat)(D:Ends)(q:FL.D)(s:S)(o:Option S)(U:Env):Prop:=match o with
 |some (.dct t ks l)=>bN t q=true/\ks.Nodup/\ks.length<big/\D.nx (U.set j ⇑(aV t ks l q s))
 |_=>False
def pP(j:Nat)(D:Ends)(x:R)(o:Option FL.D)(p:Option (S×Env)):Prop:=zz o λq=>zz p λp=>match x with
 |.loc k=>k=j/\mT j D q p.1 (slot p.2 j) p.2
 |_=>False
def pQ(j:Nat)(D:Ends)(r x:R):WQ:=λy U=>pP j D x (view y U) (give r U)
def pR(j:Nat)(i:WE)(D:Ends)(r:R):WQ:=λx U=>i U (pQ j D r x) D.ex
def pS(j:Nat)(i:WE)(D:Ends):WQ:=λr U=>zv j U (pR j i D r) D.ex
theorem e_Dp:fZ j a b D' U=b U (pS j a D') D'.ex:=by
 have e:(λ(r:R)(F:Env)=>zv j F (λx B=>a B (λy i=>zz (view y i) λq=>zz (give r i) λp=>match x,slot p.2 j with
  |.loc k,some (.dct t ks l)=>k=j/\bN t q=true/\ks.Nodup/\ks.length<big/\D'.nx (p.2.set j ⇑(aV t ks l q p.1))
  |_,_=>False) D'.ex) D'.ex)=pS j a D':=by
  funext r F
  unfold pS pR pQ pP mT;congr 1
  funext x B
  congr 1
  funext y i
  cases view y i with
  |none=>rfl
  |some q=>
   cases give r i with
   |none=>rfl
   |some p=>
    simp only[Dw];cases x with
    |v s=>cases slot p.2 j<;>rfl
    |loc k=>
     cases slot p.2 j with
     |none=>simp
     |some s=>
      cases s with
      |dct t ks l=>simp
      |_=>simp
 show congrArg (λz=>b U z D'.ex) e
def zrL:pS j a D' r U=zv j U (pR j a D' r) D'.ex:=rfl
def zp1:pR j a D' r x U=a U (pQ j D' r x) D'.ex:=rfl
def zsb:pQ j D' r x y U=pP j D' x (view y U) (give r U):=rfl
theorem zsH:pP j D' (.loc j) ⇑q ⇑(s,U)=mT j D' q s (slot U j) U:=by show(j=j/\_)=_;simp
def zsf:mT j D' q s ⇑(.dct false ks l) U=(cJ q=true/\ks.Nodup/\ks.length<big/\D'.nx (U.set j ⇑(aV false ks l q s))):=rfl
def zoz:mT j D' q s ⇑(.dct true ks l) U=(bN true q=true/\ks.Nodup/\ks.length<big/\D'.nx (U.set j ⇑(aV true ks l q s))):=rfl
def vJ(j:Nat)(o:Option S)(U:Env)(Q:List D->Env->Prop):Prop:=match o with
 |some (.dct false ks l)=>l.all S.isSh=true/\ks.all dG=true/\Q (bJ ks (l.map S.toD)) (U.set j ⇑(.sh (.dct false ks (l.map S.toD))))
 |_=>False
theorem zsN:eJ j U QI E=vJ j (slot U j) U QI:=by unfold eJ vJ;rfl
def zoU:vJ j ⇑(.dct false ks l) U QI=(l.all S.isSh=true/\ks.all dG=true/\QI (bJ ks (l.map S.toD)) (U.set j ⇑(.sh (.dct false ks (l.map S.toD))))):=rfl
def vL(o:Option (List D))(U:Env)(Q:List D->Env->Prop):Prop:=zz o λl=>Q l U
def vM(o:Option (S×Env))(Q:List D->Env->Prop):Prop:=zz o λp=>vL (items p.1.toD) p.2 Q
def lq(Q:List D->Env->Prop):WQ:=λr U=>vM (give r U) Q
def e_It:cQ a U QI E=a U (lq QI) E:=rfl
def zte:lq QI r U=vM (give r U) QI:=rfl
def zrA:vM ⇑(s,U) QI=vL (items s.toD) U QI:=rfl
def zqn:vL ⇑l U QI=QI l U:=rfl
def zqa:items (.lst l)=⇑l:=rfl
def zsg:items (.tup l)=⇑l:=rfl
def vS(o:Option (List D))(U:Env)(Q:List D->Env->Prop):Prop:=zz o λl=>Q (bX 0 l) U
def vT(o:Option (S×Env))(Q:List D->Env->Prop):Prop:=zz o λp=>vS (items p.1.toD) p.2 Q
def lz(Q:List D->Env->Prop):WQ:=λr U=>vT (give r U) Q
def e_En:lW a U QI E=a U (lz QI) E:=rfl
def zsx:lz QI r U=vT (give r U) QI:=rfl
def zqf:vT ⇑(s,U) QI=vS (items s.toD) U QI:=rfl
def zqz:vS ⇑l U QI=QI (bX 0 l) U:=rfl
def uL(o p:Option (List D))(U:Env)(Q:List D->Env->Prop):Prop:=zz o λl=>zz p λm=>Q (bJ l m) U
def uM(s:S)(o:Option (S×Env))(Q:List D->Env->Prop):Prop:=zz o λq=>uL (items s.toD) (items q.1.toD) q.2 Q
def uN(t:R)(o:Option (S×Env))(Q:List D->Env->Prop):Prop:=zz o λp=>uM p.1 (give t p.2) Q
def uO(r:R)(Q:List D->Env->Prop):WQ:=λt U=>uN t (give r U) Q
def kz(b:WE)(Q:List D->Env->Prop)(E:WX):WQ:=λr U=>b U (uO r Q) E
def e_Zi:sP a b U QI E=a U (kz b QI E) E:=rfl
def zqy:kz b QI E r U=b U (uO r QI) E:=rfl
def zqv:uO r QI x U=uN x (give r U) QI:=rfl
def zrc:uN x ⇑(s,U) QI=uM s (give x U) QI:=rfl
def zsM:uM s' ⇑(s,U) QI=uL (items s'.toD) (items s.toD) U QI:=rfl
def ztd{l m:List D}:uL ⇑l ⇑m U QI=QI (bJ l m) U:=rfl
def vB(o:Option D)(Q:List D->Env->Prop)(U:Env):Prop:=match o with|some (.int j)=>(-big<=j/\j<=big)/\Q (fromTo 0 j.toNat) U|_=>False
def lh(Q:List D->Env->Prop):WQ:=λr U=>vB (view r U) Q U
def e_R1:bA a U QI E=a U (lh QI) E:=rfl
def zsp:lh QI r U=vB (view r U) QI U:=rfl
def zrS:vB ⇑(.int z) QI U=((-big<=z/\z<=big)/\QI (fromTo 0 z.toNat) U):=rfl
def uY(o p:Option D)(Q:List D->Env->Prop)(U:Env):Prop:=match o,p with|some (.int i),some (.int j)=>(-big<=i/\i<=big/\-big<=j/\j<=big)/\Q (fromTo i (j-i).toNat) U|_,_=>False
def uZ(r:R)(Q:List D->Env->Prop):WQ:=λt U=>uY (view r U) (view t U) Q U
def lg(b:WE)(Q:List D->Env->Prop)(E:WX):WQ:=λr U=>b U (uZ r Q) E
def e_R2:gN a b U QI E=a U (lg b QI E) E:=rfl
def zr5:lg b QI E r U=b U (uZ r QI) E:=rfl
def zrB:uZ r QI x U=uY (view r U) (view x U) QI U:=rfl
def zsc:uY ⇑(.int z) ⇑(.int i) QI U=((-big<=z/\z<=big/\-big<=i/\i<=big)/\QI (fromTo z (i-z).toNat) U):=rfl
def kFor(g:WG)(b:WS)(D:Ends):List FL.D->Env->Prop:=λl U=>cK g b l D U
def zsP:dM it g v D' U=it U (kFor g v D') D'.ex:=rfl
def znm:kFor g v D' l U=cK g v l D' U:=rfl
def oj(g:WG)(b:WS)(xs:List FL.D)(D:Ends):Ends:={D with nx:=cK g b xs D,ct:=cK g b xs D,bk:=D.nx}
def mL(n:Nat)(o:Option S)(U:Env)(Q:WQ):Prop:=zz o λs=>Q (.v s) (U.take n)
def vG(n:Nat)(Q:WQ):Env->Prop:=λU=>mL n (slot U n) U Q
def yW(n:Nat)(E:WX):WX:=NX
def lp(n k:Nat)(g:WG)(c:WT)(b:WB)(Q:WQ)(E:WX):List D->Env->Prop:=λl U=>aP g c b l (U++⇑(.lst [])::List.replicate k none) (vG n Q) (yW n E)
def e_LC:iB n m it g c i U Q E=it U (lp n m g c i Q E) E:=rfl
def zr7:lp n m g c i Q E l U=aP g c i l (U++⇑(.lst [])::List.replicate m none) (vG n Q) (yW n E):=rfl
def zrz:vG n Q U=mL n (slot U n) U Q:=rfl
def znE:mL n ⇑s U Q=Q (.v s) (U.take n):=rfl
def pE(g:WG)(c:WT)(b:WB)(xs:List D)(Q:Env->Prop)(E:WX):Env->Prop:=λU=>aP g c b xs U Q E
def uK(g:WG)(c:WT)(b:WB)(xs:List D)(Q:Env->Prop)(E:WX):Bool->Env->Prop:=λk U=>if k then b U (pE g c b xs Q E) E else aP g c b xs U Q E
def kx(g:WG)(c:WT)(b:WB)(xs:List D)(Q:Env->Prop)(E:WX):Env->Prop:=λU=>c U (uK g c b xs Q E) E
def au:aP g c i (d::xs) U QE E=g (.sh d) U (kx g c i xs QE E):=rfl
def zq0:kx g c i xs QE E U=c U (uK g c i xs QE E) E:=rfl
def znd:uK g c i xs QE E true U=i U (pE g c i xs QE E) E:=rfl
def zrH:pE g c i xs QE E U=aP g c i xs U QE E:=rfl
def pN(n:Nat)(s:S)(o:Option S)(U:Env)(Q:Env->Prop):Prop:=match o with
 |some (.lst l)=>l.length<big/\Q (U.set n ⇑(.lst (l++[s])))
 |_=>False
def pO(n:Nat)(o:Option (S×Env))(Q:Env->Prop):Prop:=zz o λp=>pN n p.1 (slot p.2 n) p.2 Q
def jr(n:Nat)(Q:Env->Prop):WQ:=λr U=>pO n (give r U) Q
theorem e_Em:bI n a U QE E=a U (jr n QE) E:=by unfold bI jr pO pN;rfl
def zqE:jr n QE r U=pO n (give r U) QE:=rfl
def zrM:pO n ⇑(s,U) QE=pN n s (slot U n) U QE:=rfl
def zsm:pN n s ⇑(.lst l) U QE=(l.length<big/\QE (U.set n ⇑(.lst (l++[s])))):=rfl
def ky(g:WG)(c:WT)(b:WB)(Q:Env->Prop)(E:WX):List D->Env->Prop:=λl U=>aP g c b l U Q E
def e_bF:rH it g c i U QE E=it U (ky g c i QE E) E:=rfl
def ztb:ky g c i QE E l U=aP g c i l U QE E:=rfl
def zp4:dJ U QT E=QT true U:=rfl
def vR(o:Option (List S))(P:S->List S->Prop)(s:S):Prop:=zz o λfs=>P s fs
def uX(n:Nat)(ss:List S)(P:S->List S->Prop)(i:Nat)(o:Option S)(U:Env):Prop:=zz o λs=>if i<n then vR (aC ss (U.set i ⇑(.sh s.toD))) P (.sh s.toD)else vR (aC ss U) P s
def df(n:Nat)(ss:List S)(P:S->List S->Prop):WQ:=λr U=>match r with
 |.v s=>vR (aC ss U) P s
 |.loc i=>uX n ss P i (slot U i) U
def jy(n:Nat)(ss:List S)(P:S->List S->Prop)(PX:D->List S->Prop):Ends where
 nx:=λU=>vR (aC ss U) P (.sh .non)
 rt:=df n ss P
 bk:=λ_=>False
 ct:=λ_=>False
 ex:=λx U=>zz (aC ss U) λfs=>PX x fs
def AN(B:ss.length=n)(F:((List.range ss.length).all λi=>↥(i∈ks))=true)(h:v (jy n ss P PX) (ss.map some++List.replicate (m-n) none)):fY n m ks v ss P PX:=by show#[B,λi s hi=>?_,h];let:=(qh.mp hi).1;show .inl (by simpa using qJ.mp F i ↑this)
def zrY:(jy n ss P PX).rt=df n ss P:=rfl
def e_Rt:df n ss P (.v s) U=vR (aC ss U) P s:=rfl
def zqD:df n ss P (.loc i) U=uX n ss P i (slot U i) U:=rfl
theorem zra(h:¬i<n):uX n ss P i ⇑s U=vR (aC ss U) P s:=by show(if i<n then _ else _)=_;rw[q9 h]
def e_Fn:vR ⇑fs P s=P s fs:=rfl
def fA(s:S):Option (List S)->Option (List S)
 |some fs=>⇑(s::fs)
 |none=>none
theorem e_f0:aC [] U=⇑[]:=by cases U<;>rfl
theorem e_fs:aC (.sh d::ss) (o::U)=fA (.sh d) (aC ss U):=by show(aC ss U).map _=_;cases aC ss U<;>rfl
theorem e_fl:aC (.lst l::ss) (⇑s::U)=fA s (aC ss U):=by show(aC ss U).map _=_;cases aC ss U<;>rfl
def e_fA:fA s ⇑fs=⇑(s::fs):=rfl
def zrn:aN (.int i) (.int j)=⇑(.sh (.int (i+j))):=rfl
theorem zoN(h:x.length+y.length<=big):aN (.str x) (.str y)=⇑(.sh (.str (x++y))):=q8 h
theorem zpm(h:l.length+m.length<=big):aN (.lst l) (.lst m)=⇑(.lst ((l++m).map .sh)):=q8 h
theorem zo3(h:l.length+m.length<=big):aN (.tup l) (.tup m)=⇑(.sh (.tup (l++m))):=q8 h
def zry:eV (.int i) (.int j)=⇑(.sh (.int (i-j))):=rfl
theorem znG(h:-(2^64)<i/\i<2^64):mH (.int i) (.int j)=⇑(.sh (.int (i*j))):=by show(if jW i j=true then _ else none)=_;rw[q8 (by simp only[jW,h.1,h.2,decide_true,Bool.and_self,Bool.true_or])]
theorem zqp(h:0<j):eB (.int i) (.int j)=⇑(.sh (.int (i %j))):=q8 h
theorem znT(h:0<j)(h2:j<18446744073709551616):gB (.int i) (.int j)=⇑(.sh (.int (i/j))):=q8 #[h,h2]
theorem zrg(h:0<=j/\j<=1000/\i.natAbs<2^64):mG (.int i) (.int j)=⇑(.sh (.int (i^j.toNat))):=q8 h
def e_lt:dm (.int i) (.int j)=⇑↥(i<j):=rfl
def e_gt:nV (.int i) (.int j)=⇑↥(j<i):=rfl
def e_le:dn (.int i) (.int j)=⇑↥(i<=j):=rfl
def e_ge:xK (.int i) (.int j)=⇑↥(j<=i):=rfl
theorem zpO:eS (.int i) (.int j)=⇑↥(i=j):=by unfold eS;rw[q9 (by show λz=>Bool.noConfusion (show false=true from z))];simp
theorem zp3:gX (.int i) (.int j)=⇑(!decide (i=j)):=by unfold gX;rw[zpO];rfl
theorem zoY:eS (.str x) (.str y)=⇑↥(x=y):=by unfold eS;rw[q9 (by show λz=>Bool.noConfusion (show false=true from z))];simp
theorem zta:gX (.str x) (.str y)=⇑(!decide (x=y)):=by unfold gX;rw[zoY];rfl
def ztf:eQ (.bl b)=⇑b:=rfl
def znb:aR [.str x]=⇑(.sh (.int x.length)):=rfl
def zo5:aR [.tup l]=⇑(.sh (.int l.length)):=rfl
def znu:aR [.lst l]=⇑(.sh (.int l.length)):=rfl
def zm4:kZ [.bl b]=⇑(.sh (.int (if b then 1 else 0))):=rfl
def znC:dQ [.lst l]=⇑(.sh (.tup l)):=rfl
theorem zpN(h:x.length<=big):gZ [.str x]=⇑(.lst (x.map λc=>.sh (.str [c]))):=q8 h
def zrw:rG [.int i,.int j]=⇑(.sh (.int (if j>i then j else i))):=rfl
def zqh:rF [.int i,.int j]=⇑(.sh (.int (if j<i then j else i))):=rfl
def zrU:iN (.str x) a b=⇑(.sh (.str (aL x a b))):=rfl
def zre:iN (.tup l) a b=⇑(.sh (.tup (aL l a b))):=rfl
def zs0:iN (.lst l) a b=⇑(.lst ((aL l a b).map .sh)):=rfl
def zrq:zv 0 (⇑(.sh d)::U) Q E=Q (.v (.sh d)) (⇑(.sh d)::U):=rfl
def zr0:zv 0 (⇑(.lst l)::U) Q E=Q (.loc 0) (⇑(.lst l)::U):=rfl
def zrO:slot (v::U) 0=v:=rfl
def zqH:List.set (u::U) 0 v=v::U:=rfl
def zsA:zv 1 (s0::⇑(.sh d)::U) Q E=Q (.v (.sh d)) (s0::⇑(.sh d)::U):=rfl
def zp6:zv 1 (s0::⇑(.lst l)::U) Q E=Q (.loc 1) (s0::⇑(.lst l)::U):=rfl
def zst:slot (s0::v::U) 1=v:=rfl
def zrh:List.set (s0::u::U) 1 v=s0::v::U:=rfl
def zsh:zv 2 (s0::i::⇑(.sh d)::U) Q E=Q (.v (.sh d)) (s0::i::⇑(.sh d)::U):=rfl
def zqW:zv 2 (s0::i::⇑(.lst l)::U) Q E=Q (.loc 2) (s0::i::⇑(.lst l)::U):=rfl
def zsi:zv 2 (s0::i::⇑(.dct t ks l)::U) Q E=Q (.loc 2) (s0::i::⇑(.dct t ks l)::U):=rfl
def zru:slot (s0::i::v::U) 2=v:=rfl
def zsD:List.set (s0::i::u::U) 2 v=s0::i::v::U:=rfl
def zqP:zv 3 (s0::v::i::⇑(.sh d)::U) Q E=Q (.v (.sh d)) (s0::v::i::⇑(.sh d)::U):=rfl
def zsX:zv 3 (s0::v::i::⇑(.lst l)::U) Q E=Q (.loc 3) (s0::v::i::⇑(.lst l)::U):=rfl
def ztg:zv 3 (s0::v::i::⇑(.dct t ks l)::U) Q E=Q (.loc 3) (s0::v::i::⇑(.dct t ks l)::U):=rfl
def zs7:slot (s0::B::i::v::U) 3=v:=rfl
def zsB:List.set (s0::B::i::u::U) 3 v=s0::B::i::v::U:=rfl
def zqR:zv 4 (s0::v::i::s3::⇑(.sh d)::U) Q E=Q (.v (.sh d)) (s0::v::i::s3::⇑(.sh d)::U):=rfl
def zqG:zv 4 (s0::v::i::s3::⇑(.lst l)::U) Q E=Q (.loc 4) (s0::v::i::s3::⇑(.lst l)::U):=rfl
def zqJ:zv 4 (s0::v::i::s3::⇑(.dct t ks l)::U) Q E=Q (.loc 4) (s0::v::i::s3::⇑(.dct t ks l)::U):=rfl
def zsF:slot (s0::B::i::s3::v::U) 4=v:=rfl
def zrC:List.set (s0::B::i::s3::u::U) 4 v=s0::B::i::s3::v::U:=rfl
def zrl:zv 5 (s0::B::v::s3::i::⇑(.sh d)::U) Q E=Q (.v (.sh d)) (s0::B::v::s3::i::⇑(.sh d)::U):=rfl
def zrV:slot (s0::F::B::s3::i::v::U) 5=v:=rfl
def zs2:List.set (s0::F::B::s3::i::u::U) 5 v=s0::F::B::s3::i::v::U:=rfl
def zsy:zv 6 (s0::F::B::s3::v::i::⇑(.sh d)::U) Q E=Q (.v (.sh d)) (s0::F::B::s3::v::i::⇑(.sh d)::U):=rfl
def zs1:zv 6 (s0::F::B::s3::v::i::⇑(.lst l)::U) Q E=Q (.loc 6) (s0::F::B::s3::v::i::⇑(.lst l)::U):=rfl
def zp7:slot (s0::G::F::s3::B::i::v::U) 6=v:=rfl
def zrZ:List.set (s0::G::F::s3::B::i::u::U) 6 v=s0::G::F::s3::B::i::v::U:=rfl
def zp2:zv 7 (s0::G::F::s3::B::v::i::⇑(.sh d)::U) Q E=Q (.v (.sh d)) (s0::G::F::s3::B::v::i::⇑(.sh d)::U):=rfl
def zqs:zv 7 (s0::G::F::s3::B::v::i::⇑(.dct t ks l)::U) Q E=Q (.loc 7) (s0::G::F::s3::B::v::i::⇑(.dct t ks l)::U):=rfl
def zp5:slot (s0::I::G::s3::F::B::i::v::U) 7=v:=rfl
def zsW:List.set (s0::I::G::s3::F::B::i::u::U) 7 v=s0::I::G::s3::F::B::i::v::U:=rfl
def zsS:zv 8 (s0::I::G::s3::F::B::v::i::⇑(.sh d)::U) Q E=Q (.v (.sh d)) (s0::I::G::s3::F::B::v::i::⇑(.sh d)::U):=rfl
def zrX:List.set (s0::J::I::s3::G::F::B::i::u::U) 8 v=s0::J::I::s3::G::F::B::i::v::U:=rfl
def zs5:zv 9 (s0::J::I::s3::G::F::B::v::i::⇑(.sh d)::U) Q E=Q (.v (.sh d)) (s0::J::I::s3::G::F::B::v::i::⇑(.sh d)::U):=rfl
def zq9:slot (s0::L::J::s3::I::G::F::B::i::v::U) 9=v:=rfl
def zqT:List.set (s0::L::J::s3::I::G::F::B::i::u::U) 9 v=s0::L::J::s3::I::G::F::B::i::v::U:=rfl
def znr:zv 10 (s0::L::J::s3::I::G::F::B::v::i::⇑(.sh d)::U) Q E=Q (.v (.sh d)) (s0::L::J::s3::I::G::F::B::v::i::⇑(.sh d)::U):=rfl
def zpu:slot (s0::M::L::s3::J::I::G::F::B::i::v::U) 10=v:=rfl
def znJ:List.set (s0::M::L::s3::J::I::G::F::B::i::u::U) 10 v=s0::M::L::s3::J::I::G::F::B::i::v::U:=rfl
def zoO:zv 11 (s0::M::L::s3::J::I::G::F::B::v::i::⇑(.sh d)::U) Q E=Q (.v (.sh d)) (s0::M::L::s3::J::I::G::F::B::v::i::⇑(.sh d)::U):=rfl
def znn:slot (s0::O::M::s3::L::J::I::G::F::B::i::v::U) 11=v:=rfl
def zpI:List.set (s0::O::M::s3::L::J::I::G::F::B::i::u::U) 11 v=s0::O::M::s3::L::J::I::G::F::B::i::v::U:=rfl
def zn4:zv 12 (s0::O::M::s3::L::J::I::G::F::B::v::i::⇑(.sh d)::U) Q E=Q (.v (.sh d)) (s0::O::M::s3::L::J::I::G::F::B::v::i::⇑(.sh d)::U):=rfl
def zn8:List.set (s0::Y::O::s3::M::L::J::I::G::F::B::i::u::U) 12 v=s0::Y::O::s3::M::L::J::I::G::F::B::i::v::U:=rfl
def zpS:zv 13 (s0::Y::O::s3::M::L::J::I::G::F::B::v::i::⇑(.sh d)::U) Q E=Q (.v (.sh d)) (s0::Y::O::s3::M::L::J::I::G::F::B::v::i::⇑(.sh d)::U):=rfl
def zod:List.set (s0::s1::Y::s3::O::M::L::J::I::G::F::B::i::u::U) 13 v=s0::s1::Y::s3::O::M::L::J::I::G::F::B::i::v::U:=rfl
def zng:slot (s0::s1::s2::s3::Y::O::M::L::J::I::G::F::B::i::v::U) 14=v:=rfl
def zni:List.set (s0::s1::s2::s3::Y::O::M::L::J::I::G::F::B::i::u::U) 14 v=s0::s1::s2::s3::Y::O::M::L::J::I::G::F::B::i::v::U:=rfl
def znU:kK o (.v (.sh p)) Q (.v (.sh q)) U=kV (o p q) Q U:=rfl
def zpM:gE i (.v (.sh p)) QT (.v (.sh q)) U=kC (i p q) QT U:=rfl
def zns:gE i (.v (.sh p)) QT (.v (.lst m)) U=iH i ⇑p ⇑(S.lst m).toD QT U:=rfl
def zo2:gE i (.v (.sh p)) QT (.loc k) U=iH i ⇑p (view (.loc k) U) QT U:=rfl
def zpW:kK o (.loc j) Q (.v (.lst m)) U=mX o (zQ (.loc j) U) ⇑(S.lst m).toD Q U:=rfl
def zpx:gE i (.loc j) QT (.v (.lst m)) U=iH i (view (.loc j) U) ⇑(S.lst m).toD QT U:=rfl
def zrQ:eM d (.lst l)=nU d (.lst l):=rfl
def zqe:eM d (.dct t ks vs)=nU d (.dct t ks vs):=rfl
def zpq:bU p q=(eM p q).map (!·):=rfl
def wH(j m:Nat)(l l':List S)(Q:WQ)(o:Option (S×Env)):Prop:=zz o λp=>l'.length<big/\Q (.v (.sh .non)) (p.2.set j ⇑(.lst (l.set m (.lst (l'++[p.1])))))
def wI(j m:Nat)(l l':List S)(Q:WQ):WQ:=λr U=>wH j m l l' Q (give r U)
def ah(j m:Nat)(l:List S)(e:WE)(o:Option S)(U:Env)(Q:WQ)(E:WX):Prop:=match o with
 |some (.lst l')=>e (U.set j none) (wI j m l l' Q) E
 |_=>False
def pZ(j:Nat)(e:WE)(n:Int)(l:List S)(U:Env)(Q:WQ)(E:WX):Prop:=zz (ixN l.length n) λm=>ah j m l e l[m]? U Q E
def wJ(j:Nat)(e:WE)(o:Option D)(p:Option S)(U:Env)(Q:WQ)(E:WX):Prop:=match o,p with
 |some (.int n),some (.lst l)=>pZ j e n l U Q E
 |_,_=>False
def wK(j:Nat)(e:WE)(Q:WQ)(E:WX):WQ:=λy U=>wJ j e (view y U) (slot U j) U Q E
def ma(j:Nat)(o:Option S)(i e:WE)(U:Env)(Q:WQ)(E:WX):Prop:=match o with
 |some (.lst _)=>i U (wK j e Q E) E
 |_=>False
theorem e_AA:cL j a b U Q E=ma j (slot U j) a b U Q E:=by first|rfl|assumption|(simp_all;done)
def zrx{l:List S}:ma j ⇑(.lst l) a b U Q E=a U (wK j b Q E) E:=rfl
def zrD:wK j b Q E y U=wJ j b (view y U) (slot U j) U Q E:=rfl
def zqC{n:Int}{l:List S}:wJ j b ⇑(.int n) ⇑(.lst l) U Q E=pZ j b n l U Q E:=rfl
def zsG{l l':List S}:wI j m l l' Q r U=wH j m l l' Q (give r U):=rfl
def zrF{l l':List S}:wH j m l l' Q ⇑(s,U)=(l'.length<big/\Q (.v (.sh .non)) (U.set j ⇑(.lst (l.set m (.lst (l'++[s])))))):=rfl
def Ju{z:Int}{l l':List S}(i:0<=z)(h1:l[z.toNat]?=⇑(.lst l')):pZ j b z l U Q E=b (U.set j none) (wI j z.toNat l l' Q) E:=by let:z.toNat<l.length:=(qh.mp h1).1;unfold pZ ixN;rw[q8 i,q8 ∅,Dw,h1];rfl
def vQ(Q:WQ)(o:Option (S×Env)):Prop:=zz o λp=>Q (.v (.sh p.1.toD)) p.2
def lu(Q:WQ):WQ:=λr U=>vQ Q (give r U)
def zrI:dW a U Q E=a U (lu Q) E:=rfl
def zpG:lu Q r U=vQ Q (give r U):=rfl
def zn1:vQ Q ⇑(s,U)=Q (.v (.sh s.toD)) U:=rfl
def mS(i:Nat)(D:Ends)(o:Option S)(U:Env):Prop:=zz o λs=>D.nx (U.set i ⇑(.sh s.toD))
def aa(i:Nat)(D:Ends):Env->Prop:=λU=>mS i D (slot U i) U
def zs6:fh i v D' U=v (xF D' (aa i D')) U:=rfl
def zoZ:aa i D' U=mS i D' (slot U i) U:=rfl
def zoQ:mS i D' ⇑s U=D'.nx (U.set i ⇑(.sh s.toD)):=rfl
def pM(o:Option (Option D))(z:R)(U:Env)(Q:WQ):Prop:=zz o λo=>match o with
 |some e=>Q (.v (.sh e)) U
 |none=>Q z U
def vN(o p:Option D)(z:R)(U:Env)(Q:WQ):Prop:=zz o λi=>zz p λq=>pM (mI i q) z U Q
def vO(x y:R)(Q:WQ):WQ:=λz U=>vN (zQ x U) (view y U) z U Q
def vP(x:R)(d:WE)(Q:WQ)(E:WX):WQ:=λy U=>d U (vO x y Q) E
def rA(o:Option D):Prop:=zz o λi=>wM i=true
def yY(k d:WE)(Q:WQ)(E:WX):WQ:=λx U=>rA (zQ x U)/\k U (vP x d Q E) E
def e_Ge:lV a b c U Q E=a U (yY b c Q E) E:=rfl
def zql:yY b c Q E x U=(rA (zQ x U)/\b U (vP x c Q E) E):=rfl
theorem zsw:rA ⇑(.dct t ks vs)=True:=by simp[rA,wM]
def zrJ:vP x c Q E y U=c U (vO x y Q) E:=rfl
def zrr:vO x y Q z U=vN (zQ x U) (view y U) z U Q:=rfl
def zqO:vN ⇑p ⇑q z U Q=pM (mI p q) z U Q:=rfl
def znO:pM ⇑⇑d z U Q=Q (.v (.sh d)) U:=rfl
def zoj:pM ⇑none z U Q=Q z U:=rfl
def zqc{z:Int}:mI (.dct false ks vs) (.int z)=⇑(lk ks vs (.int z)):=rfl
def zo9{z i:Int}:mI (.dct true ks vs) (.tup [.int z,.int i])=⇑(lk ks vs (.tup [.int z,.int i])):=rfl
def uP(o:Option (Option D))(Q:WQ)(U:Env):Prop:=zz o λo=>zz o λe=>Q (.v (.sh e)) U
def uQ(o p:Option D)(Q:WQ)(U:Env):Prop:=zz o λd=>zz p λq=>uP (mI d q) Q U
def uR(x:R)(Q:WQ):WQ:=λy U=>uQ (zQ x U) (view y U) Q U
def yT(b:WE)(Q:WQ)(E:WX):WQ:=λx U=>b U (uR x Q) E
def e_XA:gP a b U Q E=a U (yT b Q E) E:=rfl
def zsE:yT b Q E x U=b U (uR x Q) E:=rfl
def zri:uR x Q y U=uQ (zQ x U) (view y U) Q U:=rfl
def zqi:uQ ⇑d ⇑q Q U=uP (mI d q) Q U:=rfl
def zrv:uP ⇑⇑d Q U=Q (.v (.sh d)) U:=rfl
theorem zso:vC ⇑(.dct t ks (vs.map S.sh))=⇑(.dct t ks vs):=by show(if(vs.map S.sh).all S.isSh=true then ⇑(S.toD (.dct t ks (vs.map S.sh)))else none)=_;rw[q8 e_sh,S.toD_dct,zaz]
def pF(o:Option D)(Q:WQ)(U:Env):Prop:=zz o λd=>match d with
 |.tup l=>l.length<=big/\Q (.v (.sh (.tup l.reverse))) U
 |_=>False
def jl(Q:WQ):WQ:=λr U=>pF (zQ r U) Q U
theorem e_TR:fB a U Q E=a U (jl Q) E:=by unfold fB jl pF;rfl
def zqZ:jl Q r U=pF (zQ r U) Q U:=rfl
def zrG:pF ⇑(.tup l) Q U=(l.length<=big/\Q (.v (.sh (.tup l.reverse))) U):=rfl
def zpP{z i:Int}:cE (.int z) (.int i)=mH (.int z) (.int i):=rfl
theorem uB{w v:WB}(h:w=v)(U:Env)(Q:Env->Prop)(E:WX):w U Q E=v U Q E:=by rw[h]
theorem uS{w v:WS}(h:w=v)(D':Ends)(U:Env):w D' U=v D' U:=by rw[h]
section
variable{U:Env}{Q:WQ}{QE:Env->Prop}{E:WX}{a b:WE}{x y r:R}{s:S}{q d:D}{n m j:Nat}{l:List D}
def pH(f:List D->List D->Option S)(l:List D)(Q:WQ):List R->Env->Prop:=λi U=>nQ (f l) (eK i U) Q U
def jq(f:List D->List D->Option S)(i:WA)(Q:WQ)(E:WX):WQ:=λx U=>match x with
 |.v (.sh (.lst l))=>i U (pH f l Q) E
 |_=>False
theorem e_ML{f:List D->List D->Option S}{i:WA}:cu f a i U Q E=a U (jq f i Q E) E:=by unfold cu jq pH nQ kV;simp only[Ew];all_goals rfl
def zqw{f:List D->List D->Option S}{i:WA}:jq f i Q E (.v (.sh (.lst l))) U=i U (pH f l Q) E:=rfl
def zsn{f:List D->List D->Option S}{rs:List R}:pH f l Q rs U=nQ (f l) (eK rs U) Q U:=rfl
theorem zfU{k:Nat}(h:wL l q=⇑k):fF l [q]=⇑(.sh (.int k)):=by show(wL l q).map _=_;rw[h];rfl
variable{fr:D->Option S}
variable{c:WE}{QI:List D->Env->Prop}
end
section
variable{U:Env}{Q:WQ}{E:WX}{a:WE}{r:R}{j:Nat}{d:D}{l:List D}{x:List Nat}{s:S}{o:Option S}
def znp{s0 s1 s2 s3 Y O M L J I G F B v i:Option S}{U:Env}{Q:WQ}{E:WX}{d:D}:zv 15 (s0::s1::s2::s3::Y::O::M::L::J::I::G::F::B::v::i::⇑(.sh d)::U) Q E=Q (.v (.sh d)) (s0::s1::s2::s3::Y::O::M::L::J::I::G::F::B::v::i::⇑(.sh d)::U):=rfl
def znL{s0 s1 s2 s3 s4 Y O M L J I G F B i:Option S}{u v:Option S}{U:Env}:List.set (s0::s1::s2::s3::s4::Y::O::M::L::J::I::G::F::B::i::u::U) 15 v=s0::s1::s2::s3::s4::Y::O::M::L::J::I::G::F::B::i::v::U:=rfl
end
section
variable{U:Env}{Q:WQ}{E:WX}{a b c o:WE}{r t u:R}{j:Nat}{s s' s3:S}{l m n:List D}{QI:List D->Env->Prop}{z:List Nat}
def e_Dd{i:WE}{D':Ends}:lX j i D' U=zv j U (vY j i D') D'.ex:=rfl
def zqr{i:WE}{D':Ends}{x:R}:vY j i D' x U=i U (vX j D' x) D'.ex:=rfl
def zqk{D':Ends}{x y:R}:vX j D' x y U=vW j D' x (view y U) (give y U):=rfl
theorem zsJ{D':Ends}{q:FL.D}{p:S×Env}:vW j D' (.loc j) ⇑q ⇑p=pU j D' q (slot p.2 j) p.2:=by show(j=j/\_)=_;simp
def zrk{D':Ends}{q:FL.D}{l:List S}:pU j D' q ⇑(.dct false ks l) U=(bN false q=true/\ks.Nodup/\∃m,hW ks q=⇑m/\D'.nx (U.set j ⇑(.dct false (ks.eraseIdx m) (l.eraseIdx m)))):=rfl
def e_DA{i k e:WE}{D':Ends}:fE j i k e D' U=e U (wF j i k D') D'.ex:=rfl
def zp8{i k:WE}{D':Ends}:wF j i k D' r U=mU j i k D' (give r U):=rfl
def zoE{i k:WE}{D':Ends}{t:S}:mU j i k D' ⇑(t,U)=wD j i k D' t (slot U j) U:=rfl
def zq7{i k:WE}{D':Ends}{t:S}{l:List S}:wD j i k D' t ⇑(.lst l) U=i U (pV j k D' t) D'.ex:=rfl
def zsC{k:WE}{D':Ends}{t:S}{z:R}:pV j k D' t z U=kJ j k D' t (view z U) (slot U j) U:=rfl
theorem ziU{k:WE}{D':Ends}{t:S}{n:Int}{l:List S}{m:Nat}{s:S}(v:0<=n)(i:n=(m:Int))(h1:l[m]?=⇑s):kJ j k D' t ⇑(.int n) ⇑(.lst l) U=k (U.set j none) (wA j D' l m t s) D'.ex:=by subst i;let B:=(qh.mp h1).1;show zz (ixN l.length (m:Int)) _=_;unfold ixN;rw[q8 v,q8 ∅,Dw,qX,h1];rfl
def zsk{D':Ends}{t z:S}{l:List S}{m:Nat}{y:R}:wA j D' l m t z y U=zz (view y U) λq=>vZ j D' l m t z q U:=rfl
def zrE{D':Ends}{t:S}{l l':List S}{m:Nat}{tb:Bool}{q:FL.D}:vZ j D' l m t (.dct tb ks l') q U=(bN tb q=true/\ks.Nodup/\ks.length<big/\D'.nx (U.set j ⇑(.lst (l.set m (aV tb ks l' q t))))):=rfl
variable{QIE:List FL.D->Env->Prop}
def zs9:fC i U QIE E=i U (vK QIE) E:=rfl
def zpl{r:R}:vK QIE r U=mQ QIE (give r U):=rfl
def zoS{s:S}:mQ QIE ⇑(s,U)=mP QIE (dk s.toD) U:=rfl
def zpL{ks vs:List FL.D}:mP QIE (dk (.dct false ks vs)) U=(ks.all dG=true/\QIE (bJ ks vs) U):=rfl
def zrp:iS i U QIE E=i U (vH QIE) E:=rfl
def znf{r:R}:vH QIE r U=mN QIE (give r U):=rfl
def zpy{s:S}:mN QIE ⇑(s,U)=mM QIE (dj s.toD) U:=rfl
def zpd{ks vs:List FL.D}:mM QIE (dj (.dct true ks vs)) U=(ks.all nB=true/\QIE ks U):=rfl
def e_Hd:lU j a U Q E=(kL (slot U j)/\a U (mR j U Q) E):=rfl
def e_TD{i:Bool->Env->Prop}:gM j U i E=jm (slot U j) U i:=rfl
def zq4{i:Bool->Env->Prop}{ks:List FL.D}{l:List S}:jm ⇑(.dct false ks l) U i=i (!ks.isEmpty) U:=rfl
end
def sg(c:Nat):D:=.str [c]
def Oi(l:List Nat):cT (l.map sg)=⇑(l.map λc=>[c]):=by let:=KN (l.map λc=>[c]);rw[qF]at this;show this
def Jw:∀l:List Nat,((l.map λc=>[c]).map List.length).sum=l.length
 |[]=>rfl
 |c::l=>by let:=Jw l;simp at this⊢;lia
def Kz:∀l:List Nat,(l.map λc=>[c]).flatten=l
 |[]=>rfl
 |c::l=>by let:=Kz l;simp;rw[this]
def IC(h:l.length<=big):iF [] [.lst (l.map sg)]=⇑(.sh (.str l)):=by show(cT (l.map sg)).bind _=_;grind[Oi,List.length,big,cU,Jw,SR,Kz]
def oD:D->Nat
 |.str [c]=>c
 |_=>0
def OC(h:l.Perm (A.map sg)):∃i:List Nat,i.Perm A/\l=i.map sg:=by
 show#[l.map oD,?_,?_]
 .let:=h.map oD;rw[qF]at this;let e:(oD∘sg)=id:=funext λc=>rfl;rw[e,map_id]at this;show this
 .rw[qF];let:∀d∈l,(sg∘oD) d=id d:=λd v=>by let#[c,_,rfl]:=qL.mp (h.mem_iff.mp v);rfl
  rw[map_congr_left this,map_id]
def cC:big=1000000:=rfl
def EM:(fromTo lo n).length=n:=by simp[fromTo]
def SZ{l:List D}{k:Nat}(h:l[k]?=⇑d):(l.map S.sh)[k]?=⇑(.sh d):=by rw[qG,h];rfl
def Et{α β:Type}{f:α->β}{l:List α}{z:Int}(B:0<=z)(h1:z<l.length):∃v,v∈l/\l[z.toNat]?=⇑v/\atI (l.map f) z=⇑(f v):=by
 let i:z.toNat<l.length:=∅
 show#[l[z.toNat],getElem_mem i,qi i,Bp B (by rw[qG,qi i];rfl)]
def Dl(B:0<=z)(h1:z<l.length):∃v,v∈l/\l[z.toNat]?=⇑v/\atI l z=⇑v:=by
 let i:z.toNat<l.length:=∅
 show#[l[z.toNat],getElem_mem i,qi i,Bp B (qi i)]
def GN{α β:Type}{f:α->β}:∀(l:List α)(k:Nat),(l.map f).eraseIdx k=(l.eraseIdx k).map f
 |[],_=>rfl
 |_::_,0=>rfl
 |x::l,k+1=>by show f x::(l.map f).eraseIdx k=f x::(l.eraseIdx k).map f;rw[GN l k]
def Gi(f:α->β)(l:List α)(a b:Option Int):aL (l.map f) a b=(aL l a b).map f:=by unfold aL;simp_all
def CV(l:List α)(a b:Option Int):(aL l a b).length<=l.length:=by unfold aL;rw[qI,qH];show le_trans (min_le_right ..) (sub_le ..)
def CW(h:x∈aL l a b):x∈l:=by show List.mem_of_mem_drop (List.mem_of_mem_take h)
def Jh(l:List α){k:Int}(i:0<=k)(h1:k<=l.length):aL l none ⇑k=l.take k.toNat:=by unfold aL sIx;grind
def ES(l:List α)(i:0<=k):aL l ⇑k none=l.drop k.toNat:=by
 unfold aL sIx;let:¬k<0:=∅
 simp[q9 this];by_cases h:k.toNat<=l.length
 .rw[min_eq_left h,take_of_length_le];rw[qH];lia
 .let h2:l.length<=k.toNat:=by lia
  rw[min_eq_right h2,drop_of_length_le (zb _),drop_of_length_le h2,take_nil]
def Kv:∀l:List Int,aW (l.map D.int)=0
 |[]=>rfl
 |z::l=>by show max (cZ (.int z)) (aW (l.map D.int))=0;rw[Kv l];rfl
def Mn(l:List Bool):rJ [.lst (l.map D.bl)]=⇑(.sh (.bl (l.all id))):=by show(gH (l.map D.bl)).map _=_;rw[Sj];rfl
def Lj{α:Type}:∀(l:List α)(i:Nat)(h:i<l.length),(l[i]::l.eraseIdx i).Perm l
 |x::l,0,_=>List.Perm.refl _
 |x::l,i+1,h=>by
  let hi:i<l.length:=↑h
  show(List.Perm.swap x l[i] _).trans (List.Perm.cons x (Lj l i hi))
def pD(b:WB)(K:Env->Prop)(E:WX):Bool->Env->Prop:=λk U=>if k then b U K E else K U
def mJ(c:WT)(b:WB)(K:Env->Prop)(E:WX):Env->Prop:=λU=>c U (pD b K E) E
def eI:mJ c b K E U=c U (pD b K E) E:=rfl
def lG:pD b K E true U=b U K E:=rfl
def dv:pD b K E false U=K U:=rfl
def HY{α:Type}{toD:α->D}(I:List α->Env->Prop)(xs:List α)
  (step:∀(v:List α)(x:α)(i:List α)(K:Env->Prop)(U:Env),v++x::i=xs->I v U->(∀U',I (v++[x]) U'->K U')->g (.sh (toD x)) U (mJ c b K E))
  (F:∀U,I xs U->Q U)(J:I [] U):aP g c b (xs.map toD) U Q E:=by
 have B:∀(i v:List α)(U:Env),v++i=xs->I v U->aP g c b (i.map toD) U Q E:=by
  intro i;induction i with
  |nil=>intro v U e h;rw[qA]at e;subst e;show F U h
  |cons x i G=>intro v U e h;show step v x i (pE g c b (i.map toD) Q E) U e h λU' h'=>G (v++[x]) U' (by rw[<-e];simp) h'
 show B xs [] U rfl J
def Bk{α:Type}{toD:α->D}(I:List α->Env->Prop)(xs:List α)
  (step:∀(v:List α)(x:α)(i:List α)(B:Ends)(U:Env),v++x::i=xs->I v U->(∀U',I (v++[x]) U'->B.nx U')->(∀U',I (v++[x]) U'->B.ct U')->B.rt=D'.rt->B.bk=D'.nx->g (.sh (toD x)) U (λU=>b B U))
  (G:∀U,I xs U->D'.nx U)(L:I [] U):cK g b (xs.map toD) D' U:=by
 have F:∀(i v:List α)(U:Env),v++i=xs->I v U->cK g b (i.map toD) D' U:=by
  intro i;induction i with
  |nil=>intro v U e h;rw[qA]at e;subst e;show G U h
  |cons x i J=>intro v U e h;let k:=λU' h'=>J (v++[x]) U' (by rw[<-e];simp) h';show step v x i (oj g b (i.map toD) D') U e h k k rfl rfl
 show F xs [] U rfl L
def FD{α:Type}{toD:α->D}(I:List α->List S->Env->Prop)(xs:List α)
  (step:∀(v:List α)(x:α)(B:List α)(l:List S)(U:Env)(vs:List (Option S))(K:Env->Prop),v++x::B=xs->vs.length=k->I v l U->(∀l' U1 i,i.length=k->I (v++[x]) l' U1->K (U1++⇑(.lst l')::i))->g (.sh (toD x)) (U++⇑(.lst l)::vs) (mJ c b K E))
  (M:∀l U vs,vs.length=k->I xs l U->Q (U++⇑(.lst l)::vs))(O:vs.length=k)(h0:I [] [] U):aP g c b (xs.map toD) (U++⇑(.lst [])::vs) Q E:=by
 show HY (λv F=>∃l U1 i,i.length=k/\I v l U1/\F=U1++⇑(.lst l)::i) xs (λv x B K F e L Y=>?_) (λF L=>?_) #[[],U,vs,O,h0,rfl]
 .obtain⟨l,U1,i,h1,h2,rfl⟩:=L;show step v x B l U1 i K e h1 h2 λl' G J h3 h4=>Y _ #[l',G,J,h3,h4,rfl]
 .obtain⟨l,U1,i,h1,h2,rfl⟩:=L;show M l U1 i h1 h2
def Ii{α:Type}{toD:α->D}(xs:List α)(h:α->Option S)
  (step:∀x∈xs,∀(l:List S)(vs:List (Option S))(K:Env->Prop),vs.length=k->l.length<xs.length->(∀i,i.length=k->K (U++⇑(.lst (l++(h x).toList))::i))->g (.sh (toD x)) (U++⇑(.lst l)::vs) (mJ c b K E))
  (F:∀vs,vs.length=k->Q (U++⇑(.lst (xs.filterMap h))::vs))(I:vs.length=k):aP g c b (xs.map toD) (U++⇑(.lst [])::vs) Q E:=by
 show FD (λv l B=>B=U/\l=v.filterMap h) xs (λv x G l B vs K e h1 h2 L=>?_) (λl B vs h1 h2=>?_) I #[rfl,rfl]
 .obtain⟨rfl,rfl⟩:=h2;let J:(v.filterMap h).length<xs.length:=by let:=List.length_filterMap_le h v;rw[<-e];simp;lia
  show step x (by rw[<-e];simp) _ vs K h1 J λi M=>L _ _ i M #[rfl,?_];cases q:h x<;>simp[q]
 .obtain⟨rfl,rfl⟩:=h2;show F vs h1
def Bf{vs:List (Option S)}(h:vs.length=1):∃a,vs=[a]:=by
 match vs,h with
 |[a],_=>show#[a,rfl]
def Cd{vs:List (Option S)}(h:vs.length=2):∃a b,vs=[a,b]:=by
 match vs,h with
 |[a,b],_=>show#[a,b,rfl]
def Cc{vs:List (Option S)}(h:vs.length=3):∃a b c,vs=[a,b,c]:=by
 match vs,h with
 |[a,b,c],_=>show#[a,b,c,rfl]
section
variable{α:Type}
def LI(xs:List α)(h:α->Option S)
  (step:∀x∈xs,∀(l:List S)(o:Option S)(K:Env->Prop),l.length<xs.length->(∀o,K (U.take n++[⇑(.lst (l++(h x).toList)),o]))->zy (n+1) (.sh (toD x)) (U.take n++[⇑(.lst l),o]) (mJ c b K E))
  (v:∀o,Q (U.take n++[⇑(.lst (xs.filterMap h)),o]))(e:autoParam (U=U.take n++[⇑(.lst []),J]) rZ9):aP (zy (n+1)) c b (xs.map toD) U Q E:=by
 rw[e];show Ii (k:=1) xs h (λx F l B K i G I=>?_) (λB i=>?_) rfl
 .obtain⟨a,rfl⟩:=Bf i;show step x F l a K G λo=>I [o] rfl
 .obtain⟨a,rfl⟩:=Bf i;show v a
def LH(xs:List α)(h:α->Option S)
  (step:∀x∈xs,∀(l:List S)(o o':Option S)(K:Env->Prop),l.length<xs.length->(∀o o',K (U.take n++[⇑(.lst (l++(h x).toList)),o,o']))->bP [zy (n+1),zy (n+2)] (.sh (toD x)) (U.take n++[⇑(.lst l),o,o']) (mJ c b K E))
  (v:∀o o',Q (U.take n++[⇑(.lst (xs.filterMap h)),o,o']))(e:autoParam (U=U.take n++[⇑(.lst []),M,L]) rZ9):aP (bP [zy (n+1),zy (n+2)]) c b (xs.map toD) U Q E:=by
 rw[e];show Ii (k:=2) xs h (λx G l F K i I J=>?_) (λF i=>?_) rfl
 .obtain⟨a,B,rfl⟩:=Cd i;show step x G l a B K I λo o'=>J [o,o'] rfl
 .obtain⟨a,B,rfl⟩:=Cd i;show v a B
def Fi(xs:List α)(h:α->S)
  (step:∀x∈xs,∀(l:List S)(o:Option S)(K:Env->Prop),l.length<xs.length->(∀o,K (U.take n++[⇑(.lst (l++[h x])),o]))->zy (n+1) (.sh (toD x)) (U.take n++[⇑(.lst l),o]) (mJ c b K E))
  (i:∀o,Q (U.take n++[⇑(.lst (xs.map h)),o]))(e:autoParam (U=U.take n++[⇑(.lst []),v]) rZ9):aP (zy (n+1)) c b (xs.map toD) U Q E:=
 LI xs (λx=>⇑(h x)) step (λo=>by rw[show(xs.filterMap λx=>⇑(h x))=xs.map h from List.filterMap_eq_map▸rfl];show i o) e
def LG(xs:List α)(h:α->S)
  (step:∀x∈xs,∀(l:List S)(o o':Option S)(K:Env->Prop),l.length<xs.length->(∀o o',K (U.take n++[⇑(.lst (l++[h x])),o,o']))->bP [zy (n+1),zy (n+2)] (.sh (toD x)) (U.take n++[⇑(.lst l),o,o']) (mJ c b K E))
  (i:∀o o',Q (U.take n++[⇑(.lst (xs.map h)),o,o']))(e:autoParam (U=U.take n++[⇑(.lst []),B,v]) rZ9):aP (bP [zy (n+1),zy (n+2)]) c b (xs.map toD) U Q E:=
 LH xs (λx=>⇑(h x)) step (λo o'=>by rw[show(xs.filterMap λx=>⇑(h x))=xs.map h from List.filterMap_eq_map▸rfl];show i o o') e
end
def UV{β:Type}(i:β->S)(xs:List D)(I:Env->Prop)(P:β->Prop)
  (step:∀x∈xs,∀(U:Env)(A:List β)(o:Option S)(K:Env->Prop),I U->A.length<xs.length->(∀U1 y F,I U1->P y->K (U1++[⇑(.lst (A.map i++[i y])),F]))->zy (n+1) (.sh x) (U++[⇑(.lst (A.map i)),o]) (mJ c b K E))
  (h5:∀U(A:List β) o,I U->A.length=xs.length->(∀y∈A,P y)->Q (U++[⇑(.lst (A.map i)),o]))(h0:I (U.take n))(e:autoParam (U=U.take n++[⇑(.lst []),L]) rZ9):aP (zy (n+1)) c b xs U Q E:=by
 rw[e];let:=FD (toD:=λx:D=>x) (k:=1) (g:=zy (n+1)) (c:=c) (b:=b) (E:=E) (Q:=Q) (λB l v=>I v/\∃A:List β,l=A.map i/\A.length=B.length/\∀y∈A,P y) xs (λB x G l v vs K e h1 h2 O=>?_) (λl v vs h1 h2=>?_) (U:=U.take n) (vs:=[L]) rfl #[h0,[],rfl,rfl,λy M=>nomatch M]
 .rwa[List.map_id']at this
 .obtain⟨Y,A,rfl,J,hP⟩:=h2;let#[a,rfl]:=Bf h1;show step x (by rw[<-e];simp) v A a K Y (by rw[J,<-e];simp only[qr,qu];lia) λU1 y F h3 h4=>O _ U1 [F] rfl #[h3,A++[y],by simp,by simp[J],λz hz=>?_];grind
 grind[Bf]
def UT(I:Nat->Env->Prop)(xs:List D)
  (step:∀(k:Nat)(x:D),xs[k]?=⇑x->∀(v:Ends)(U:Env),I k U->(∀U',I (k+1) U'->v.nx U')->(∀U',I (k+1) U'->v.ct U')->v.rt=D'.rt->v.bk=D'.nx->g (.sh x) U (λU=>b v U))
  (L:∀U,I xs.length U->D'.nx U)(Y:I 0 U):cK g b xs D' U:=by
 let:=Bk (toD:=λx:D=>x) (g:=g) (b:=b) (D':=D') (λi U=>I i.length U) xs (λi x M v U e O F G B J=>step i.length x (by rw[<-e];simp) v U O (λU' h=>F U' ↑h) (λU' h=>G U' ↑h) B J) L Y;rwa[List.map_id']at this
theorem bf{α:Type}{toD:α->D}(xs:List α)(h:α->List S)
  (step:∀x∈xs,∀(l:List S)(vs:List (Option S))(K:Env->Prop),vs.length=k->l.length+(h x).length<=(xs.flatMap h).length->(∀i,i.length=k->K (U.take n++⇑(.lst (l++h x))::i))->g (.sh (toD x)) (U.take n++⇑(.lst l)::vs) (mJ c b K E))
  (F:∀vs,vs.length=k->Q (U.take n++⇑(.lst (xs.flatMap h))::vs))(e:autoParam (U=U.take n++⇑(.lst [])::vs) rZ9)(I:autoParam (vs.length=k) rZ9):aP g c b (xs.map toD) U Q E:=by
 rw[e];show FD (λB l v=>v=U.take n/\l=B.flatMap h) xs (λB x G l v vs K e h1 h2 L=>?_) (λl v vs h1 h2=>?_) I #[rfl,rfl]
 .obtain⟨rfl,rfl⟩:=h2;let J:(B.flatMap h).length+(h x).length<=(xs.flatMap h).length:=by rw[<-e,List.flatMap_append,List.flatMap_cons,qr,qr];lia
  show step x (by rw[<-e];simp) _ vs K h1 J λi M=>L _ _ i M #[rfl,by rw[List.flatMap_append];simp]
 .obtain⟨rfl,rfl⟩:=h2;show F vs h1
section
variable{α:Type}
def UU(F:List S->Option S->Option S->Env)(xs:List α)(h:α->Option S)
  (step:∀x∈xs,∀(l:List S)(o o':Option S)(K:Env->Prop),l.length+(h x).toList.length<=B.length+(xs.filterMap h).length->(∀o o',K (F (l++(h x).toList) o o'))->g (.sh (toD x)) (F l o o') (mJ c b K E))
  (I:∀o o',Q (F (B++xs.filterMap h) o o')):aP g c b (xs.map toD) (F B M L) Q E:=by
 show HY (λv i=>∃o o',i=F (B++v.filterMap h) o o') xs (λv x J K i e G O=>?_) (λi G=>?_) #[M,L,by simp]
 .obtain⟨o,o',rfl⟩:=G;refine step x (by rw[<-e];simp) _ o o' K ?_ λo o'=>O _ #[o,o',?_]
  .rw[<-e,List.filterMap_append,qr];cases q:h x<;>simp[q]<;>lia
  .rw[List.filterMap_append];cases q:h x<;>simp[q]
 .obtain⟨o,o',rfl⟩:=G;show I o o'
end
def mx:eP ((x::l).map D.int)=none:=rfl
def my:eP ((x::l).map D.str)=none:=rfl
def PF:∀l:List Int,∀d∈l.map D.int,sG d:=λl d i=>by let#[x,_,rfl]:=qL.mp i;trivial
def Kd:∀l:List (List Nat),∀d∈l.map D.str,nM d:=λl d i=>by let#[x,_,rfl]:=qL.mp i;trivial
def Kb(i:l.length<64)(v:dF l=none)(B:(bO l).isSome\/(cT l).isSome):bH [.lst l]=⇑(.lst ((cD l).map .sh)):=by
 show fM _=_;unfold fM;by_cases h2:l.length<2
 .rw[q8 h2];match l,h2 with
  |[],_=>rfl
  |[_],_=>rfl
  |_::_::_,h2=>simp at h2;lia
 .rw[q9 h2,v];unfold iE;rw[q8 #[i,B]]
def Ti{l:List Int}(i:l.length<64):bH [.lst (l.map .int)]=⇑(.lst ((cD (l.map .int)).map .sh)):=by
 show Kb ↑i ?_ (.inl (by rw[ET];rfl));unfold dF;cases l with
 |nil=>rfl
 |cons x l=>rw[q9];rw[mx];simp
def Tw{l:List (List Nat)}(i:l.length<64):bH [.lst (l.map .str)]=⇑(.lst ((cD (l.map .str)).map .sh)):=by
 show Kb ↑i ?_ (.inr (by rw[KN];rfl));unfold dF;cases l with
 |nil=>rfl
 |cons x l=>rw[q9];rw[my];simp
def Sg{l m:List Int}(i:l.length<64)(p:m.Perm l)(v:m.Pairwise (·<=·)):bH [.lst (l.map .int)]=⇑(.lst ((m.map .int).map .sh)):=by rw[Ti i,DC Jm (PF l) (p.map _)];rw[pairwise_map];show v.imp λh=>↑h
def MD:([a]:List Nat)<[b]↔a<b:=by simp[qD]
def OD(h:A.length<64):∃i:List Nat,i.Perm A/\i.Pairwise (·<=·)/\bH [.lst (A.map sg)]=⇑(.lst ((i.map sg).map .sh)):=by
 let e:A.map sg=(A.map λc=>[c]).map D.str:=by rw[qF];rfl
 let#[i,F,B]:=OC (DH (A.map sg));show#[i,F,?_,?_]
 .let v:=Ha FO (A.map sg) (by rw[e];show Kd _);rw[B,pairwise_map]at v;show v.imp λ{a b} h=>?_;let h':(!decide (([b]:List Nat)<[a]))=true:=by rw[<-JM];exact h
  grind[MD]
 .rw[e,Tw ↑h,<-e,B]
def Ss{l:List Nat}(h:l.Pairwise (·<=·))(hn:l.Nodup):l.Pairwise (·<·):=by let:=h.and hn;show this.imp λ⟨h1,h2⟩=>∅
def MB(h:nM x):(aT x (.str z)||↥(30<cZ x))=false:=by
 cases x with
 |str i=>rfl
 |_=>show h.elim
def Lu{i:List (List Nat)}:(if(i.map D.str).any (λx=>aT x (.str z)||↥(30<cZ x))then none else ⇑(open Classical in ↥(D.str z∈i.map D.str)))=⇑↥(z∈i):=by grind[mem_map,List.any_eq_true.mp,MB,Kd]
def PP{i:List (List Nat)}:nU (.str z) (.tup (i.map D.str))=⇑↥(z∈i):=Lu
def Qj{i:List (List Nat)}:nU (.str z) (.lst (i.map D.str))=⇑↥(z∈i):=Lu
def Fo{α β:Type}(p:α->Bool)(f:α->β):∀l:List α,(l.filterMap λx=>if p x=true then ⇑(f x)else none)=(l.filter p).map f
 |[]=>rfl
 |x::l=>by let i:=Fo p f l;cases q:p x<;>simp[q,i]
def CA{α:Type}[DecidableEq α]:∀(l m:List α),l.Nodup->(∀x∈l,x∈m)->l.length<=m.length
 |[],m,_,_=>by simp
 |x::l,m,hn,hs=>by
  let#[h1,h2]:=qM.mp hn;let v:x∈m:=hs x (by simp);let:=CA l (m.erase x) h2 λy i=>by show(List.mem_erase_of_ne ?_).mpr (hs y (by simp[i]));intro z;subst z;show h1 i
  rw[List.length_erase_of_mem v]at this;let B:=List.length_pos_of_mem v;rw[qu];lia
def KG:∀l:List (List Nat),aW (l.map D.str)=0
 |[]=>rfl
 |z::l=>by show max (cZ (.str z)) (aW (l.map D.str))=0;rw[KG l];rfl
def QW:gX (.lst (l.map D.str)) (.lst [])=⇑(!decide (l=[])):=by
 unfold gX eS;rw[q9 (by
  let:cZ (.lst (l.map D.str))=1:=by show aW (l.map D.str)+1=1;rw[KG]
  rw[this];cases l<;>show λz=>Bool.noConfusion (show false=true from z))]
 simp
def Jc:∀l:List D,(∀d∈l,cZ d<=n)->aW l<=n
 |[],_=>zero_le _
 |d::l,h=>by show max (cZ d) (aW l)<=n;let h1:=h d (by simp);let h2:=Jc l λx i=>h x (by simp[i]);lia
def Oq(h:aW l<=29):gX (.lst l) (.lst [])=⇑(!l.isEmpty):=by
 unfold gX eS;rw[q9 (by
  let:cZ (.lst l)=aW l+1:=rfl;cases l with
  |nil=>show λz=>Bool.noConfusion (show false=true from z)
  |cons x l=>show λz=>absurd (qV (show ↥(30<aW (x::l)+1)=true from z)) ∅)]
 cases l<;>simp
def Bc{α:Type}{l:List α}(h:l.length=n+1):∃a r,l=a::r/\r.length=n:=by
 cases l with
 |nil=>cases h
 |cons a r=>show#[a,r,rfl,Nat.succ.inj h]
def Hl{α:Type}{l:List α}(h:l.length=0):l=[]:=List.length_eq_zero_iff.mp h
def Bq{α:Type}{l:List α}(h:l.length=1):∃a,l=[a]:=by let#[a,r,rfl,k]:=Bc h;obtain rfl:=Hl k;show#[a,rfl]
def Ca{α:Type}{l:List α}(h:l.length=2):∃i a1,l=[i,a1]:=by let#[i,r,rfl,k]:=Bc h;let#[a1,rfl]:=Bq k;show#[i,a1,rfl]
def BZ{α:Type}{l:List α}(h:l.length=3):∃i a1 a2,l=[i,a1,a2]:=by let#[i,r,rfl,k]:=Bc h;let#[a1,a2,rfl]:=Ca k;show#[i,a1,a2,rfl]
def DM{α:Type}{l:List α}(h:l.length=4):∃v a1 a2 i,l=[v,a1,a2,i]:=by let#[v,r,rfl,k]:=Bc h;let#[a1,a2,i,rfl]:=BZ k;show#[v,a1,a2,i,rfl]
theorem Hc:∀l m:List Int,aJ (l.map D.int) (m.map D.int)=if l<m then .lt else if m<l then .gt else .eq
 |[],[]=>by simp[aJ]
 |[],b::m=>by simp[aJ]
 |a::l,[]=>by simp[aJ]
 |a::l,b::m=>by
  let i:=Hc l m;rw[qz,qz,aJ];rw[show aO (.int a) (.int b)=if a<b then .lt else if b<a then .gt else .eq from rfl];by_cases h1:a<b
  .rw[q8 h1,q8 (qD.mpr (.inl h1))]
  .rw[q9 h1];by_cases h2:b<a
   .rw[q8 h2,q9 (by rw[qD];rintro(h|⟨h,_⟩)<;>lia),q8 (qD.mpr (.inl h2))]
   .have e:a=b:=by lia
    subst e;rw[q9 h2];rw[i]
    have B:(a::l<a::m)↔l<m:=by rw[qD];constructor
                               .rintro(h|⟨_,h⟩)
                                .lia
                                .show h
                               .intro h;show .inr #[rfl,h]
    have v:(a::m<a::l)↔m<l:=by rw[qD];constructor
                               .rintro(h|⟨_,h⟩)
                                .lia
                                .show h
                               .intro h;show .inr #[rfl,h]
    simp
def Er(l m:List Int):fU (tI l) (tI m)=!decide (m<l):=by
 show(match aJ (l.map D.int) (m.map D.int)with|.gt=>false|_=>true)=_;rw[Hc];by_cases h:m<l
 .rw[q9 (lt_asymm h),q8 h,qS h];rfl
 .rw[q9 h,qT h];by_cases h2:l<m
  .rw[q8 h2];rfl
  .rw[q9 h2];rfl
def kl(d:D):Prop:=∃l:List Int,d=tI l
def My:eU kl where
 tot:=by rintro _ _ ⟨a,rfl⟩ ⟨b,rfl⟩;grind[Er,Bool.not_eq_true',lt_asymm]
 tr:=by rintro _ _ _ ⟨a,rfl⟩ ⟨b,rfl⟩ ⟨c,rfl⟩;grind[Er,Bool.not_eq_true',List.le_trans]
 anti:=by rintro _ _ ⟨a,rfl⟩ ⟨b,rfl⟩;grind[Er,Bool.not_eq_true',le_antisymm]
def QY{ls ms:List (List Int)}(v:ls.length<64)(i:∀x∈ls,x≠[])(p:ms.Perm ls)(F:ms.Pairwise λa b=>¬b<a):bH [.lst (ls.map tI)]=⇑(.lst ((ms.map tI).map .sh)):=by rw[Ta v i,DC My (λd B=>by let#[x,_,rfl]:=qL.mp B;show#[x,rfl]) (p.map _)];grind[pairwise_map,Er]
abbrev Wd:=List Nat
def eF(w:Wd)(i j:Nat):Wd:=(w.drop i).take (j-i)
def Qm(l:List α)(i j:Nat):aL l ⇑(i:Int) ⇑(j:Int)=(l.drop i).take (j-i):=by
 unfold aL sIx;let h1:¬(i:Int)<0:=∅
 let h2:¬(j:Int)<0:=∅
 simp[q9 h1,q9 h2,qX];by_cases hi:i<=l.length
 .rw[min_eq_left hi];by_cases v:j<=l.length
  .rw[min_eq_left v]
  .rw[take_of_length_le (by rw[qH];lia),take_of_length_le (by rw[qH];lia)]
 .rw[min_eq_right (a:=i) ∅,drop_of_length_le (i:=l.length) (zb _),drop_of_length_le (i:=i) ∅,take_nil,take_nil]
def FX(w:Wd)(i j:Nat):aL w ⇑(i:Int) ⇑(j:Int)=eF w i j:=Qm w i j
def OQ(h1:i<=j)(h2:j<=w.length):(eF w i j).length=j-i:=by unfold eF;rw[qI,qH];lia
def dY(B:List Wd)(w:Wd)(i j:Nat):Bool:=↥(i<j)&&(↥(j<=w.length)&&↥(eF w i j∈B))
theorem zaF:dY B w i j=true↔i<j/\j<=w.length/\eF w i j∈B:=by unfold dY;simp
def lD(B:List Wd)(w:Wd)(p q:Nat):Bool:=dY B w p q||dY B w q p
def Gk:lD B w p q=lD B w q p:=by unfold lD;rw[Bool.or_comm]
def nb(B:List Wd)(w:Wd)(p:Nat):List Nat:=(List.range (w.length+1)).filter λq=>lD B w p q
theorem zb5:q∈nb B w p↔lD B w p q=true:=by grind[nb,mem_filter,mem_range,lD,zaF]
theorem zeX:(nb B w p).Pairwise (·<·):=List.Pairwise.filter _ List.pairwise_lt_range
def CH(h:q∈nb B w p):q<=w.length/\p<=w.length/\p≠q:=by grind[zb5,lD,zaF]
abbrev Tr:=Nat×Nat×Nat
def gR(B:List Wd)(w:Wd)(i:Nat):List Tr:=(List.range (w.length+1)).filterMap λj=>if dY B w i j=true then ⇑(i,j,B.idxOf (eF w i j))else none
def dN(B:List Wd)(w:Wd):List Tr:=(List.range w.length).flatMap (gR B w)
def dZ(B:List Wd)(w:Wd)(i:Nat):List Tr:=(List.range B.length).filterMap λk=>if ↥(eF w i (i+((B[k]?).getD []).length)=(B[k]?).getD [])=true then ⇑(i,i+((B[k]?).getD []).length,k)else none
theorem zbr:t∈gR B w i↔t.1=i/\dY B w i t.2.1=true/\t.2.2=B.idxOf (eF w i t.2.1):=by
 unfold gR;rw[mem_filterMap];constructor
 .rintro⟨j,_,h⟩;split at h
  .rename_i v;cases h;show#[rfl,v,rfl]
  .cases h
 .rintro⟨h1,h2,F⟩;refine#[t.2.1,?_,?_]
  .rw[qK];let:=zaF.mp h2;lia
  .subst h1;rw[q8 h2,<-F]
theorem zb2:t∈dN B w↔dY B w t.1 t.2.1=true/\t.2.2=B.idxOf (eF w t.1 t.2.1):=by
 unfold dN;rw[List.mem_flatMap];constructor
 .grind[zbr]
 .rintro⟨h1,h2⟩;show#[t.1,?_,zbr.mpr #[rfl,h1,h2]];rw[qK];let:=zaF.mp h1;lia
theorem zbG:(gR B w i).Pairwise λt u=>t.1=u.1/\t.2.1<u.2.1:=by
 unfold gR;rw[List.pairwise_filterMap];show List.pairwise_lt_range.imp λ{a b} G=>?_;intro x F y v;split at F
 .split at v
  .cases F;cases v;show#[rfl,G]
  .cases v
 .cases F
theorem zfE:(dN B w).Pairwise λt u=>t.1<u.1\/(t.1=u.1/\t.2.1<u.2.1):=by
 unfold dN;rw[List.pairwise_flatMap];show#[λi _=>zbG.imp λh=>.inr h,List.pairwise_lt_range.imp λ{a b} G=>?_];intro x F y v;let h1:=(zbr.mp F).1;let h2:=(zbr.mp v).1
 left;lia
def Rf:t∈dZ B w i↔t.1=i/\∃o,B[t.2.2]?=⇑o/\t.2.1=i+o.length/\eF w i (i+o.length)=o:=by
 unfold dZ;rw[mem_filterMap];show#[λ⟨k,v,e⟩=>?_,λ⟨h1,o,h2,G,F⟩=>#[t.2.2,qK.mpr (qh.mp h2).1,?_]]
 .rw[qi (qK.mp v)]at e;split at e
  .cases e;show#[rfl,_,qi (qK.mp v),rfl,qV ‹_›]
  .cases e
 .rw[h2];show(q8 (qS F)).trans ?_;show ⇑(i,i+o.length,t.2.2)=⇑t;rw[<-G,<-h1]
def Jv(hB:B.Nodup)(I:∀x∈B,x≠[])(hi:i<=w.length):(gR B w i).Perm (dZ B w i):=by
 show(List.perm_ext_iff_of_nodup ?_ ?_).mpr λt=>?_
 .show zbG.imp λ⟨_,h⟩ e=>by rw[e]at h;lia
 .unfold dZ;rw[List.Nodup,List.pairwise_filterMap];show List.nodup_range.imp λ{a b} J x G y v e=>?_;subst e;split at G
  .split at v
   .cases G;injection v with v
    injection v with _ v
    injection v with _ v
    show J v.symm
   .cases v
  .cases G
 .rw[zbr,Rf];constructor
  .rintro⟨h1,h2,F⟩;let#[a1,a2,a3]:=zaF.mp h2;let Y:=OQ (w:=w) (i:=i) (j:=t.2.1) ∅ a2;show#[h1,eF w i t.2.1,?_,by rw[Y];lia,by rw[Y];congr 1;lia];rw[F];rw[qi (List.idxOf_lt_length_of_mem a3),List.getElem_idxOf]
  .rintro⟨h1,o,h2,F,L⟩;let O:o∈B:=qN h2;let ho:=I o O;let M:0<o.length:=qQ.mpr ho;let h5:i+o.length<=w.length:=by let:=congrArg List.length L;unfold eF at this;rw[qI,qH]at this;lia
   show#[h1,zaF.mpr #[∅,∅,by rw[F,L];show O],?_];rw[F,L];let#[hk,e]:=qh.mp h2;rw[<-e];show(hB.idxOf_getElem _ hk).symm
def QH(F:B.Nodup)(v:∀x∈B,x≠[])(hi:i<=w.length):(gR B w i).length<=min B.length (w.length-i):=by
 show Nat.le_min.mpr #[?_,?_]
 .rw[(Jv F v hi).length_eq];unfold dZ;grind
 .let h:=CA ((gR B w i).map (·.2.1)) (List.range' (i+1) (w.length-i)) ?_ ?_
  .simpa using h
  .rw[List.Nodup,pairwise_map];show zbG.imp λ⟨_,h⟩=>∅
  grind[mem_map,zaF,zbr,List.mem_range'_1]
def Ko{α:Type}{f g:α->Nat}:∀l:List α,(∀x∈l,f x<=g x)->(l.map f).sum<=(l.map g).sum
 |[],_=>by simp
 |x::l,h=>by let h1:=h x (by simp);let h2:=Ko l λy i=>h y (by simp[i]);simp;lia
def Gn(G:B.Nodup)(v:∀x∈B,x≠[])(I:B.length<=6)(F:w.length<=12):(dN B w).length<64:=by
 unfold dN;rw[List.length_flatMap];let h1:=Ko (f:=λi=>(gR B w i).length) (g:=λi=>min 6 (w.length-i)) (List.range w.length) λi hi=>by let:=QH (w:=w) (i:=i) G v (by rw[qK]at hi;lia);lia
 let h2:∀n,n<=12->((List.range n).map λi=>min 6 (n-i)).sum<64:=⋯
 show Nat.lt_of_le_of_lt h1 (h2 _ F)
def Kr{α β:Type}{f g:α->List β}:∀l:List α,(∀x∈l,(f x).Perm (g x))->(l.flatMap f).Perm (l.flatMap g)
 |[],_=>.refl _
 |x::l,h=>by show(h x (by simp)).append (Kr l λy i=>h y (by simp[i]))
def Ky(F:B.Nodup)(v:∀x∈B,x≠[]):(dN B w).Perm ((List.range w.length).flatMap (dZ B w)):=
 Kr _ λi hi=>Jv F v (by rw[qK]at hi;lia)
def fk(t:Tr):List Int:=[(t.1:Int),(t.2.1:Int),(t.2.2:Int)]
def kW(t:Tr):D:=tI (fk t)
def kq(t:Tr):kW t=.tup [.int t.1,.int t.2.1,.int t.2.2]:=rfl
def QP(F:(dN B w).Perm l)(i:l.length<64):bH [.lst (l.map kW)]=⇑(.lst (((dN B w).map kW).map .sh)):=by
 let e:∀l:List Tr,l.map kW=(l.map fk).map tI:=λl=>by rw[qF];rfl
 rw[e,e];show QY ↑i (λx v=>?_) (F.map _) ?_
 .obtain⟨t,_,rfl⟩:=qL.mp v;show λz=>nomatch z
 .rw[pairwise_map];show zfE.imp λ{t u} h=>?_;grind[fk,cons_lt_cons_iff]
def Kg{α:Type}(f:α->D):∀(B:List α)(k:Nat),bX k (B.map f)=(List.range B.length).map λi=>D.tup [.int ((k+i:Nat):Int),(B[i]?).elim .non f]
 |[],k=>rfl
 |b::B,k=>by rw[qz,bX,Kg f B (k+1),qu,List.range_succ_eq_map,qz,qF];congr 1;show map_congr_left λi _=>?_;rw[show k+1+i=k+(i+1) by lia];rfl
def RZ(B:List Wd):bX 0 (B.map D.str)=(List.range B.length).map λ(k:Nat)=>D.tup [.int (k:Int),.str ((B[k]?).getD [])]:=by rw[Kg];simp_all
def AL{z:Int}{n:Nat}(h:z=n):fromTo 0 z.toNat=(List.range n).map λ(k:Nat)=>D.int (k:Int):=by subst h;show map_congr_left λk _=>?_;rw[zero_add]
def Ec{i z:Int}{a n:Nat}(hi:i=a)(h:z=n):fromTo i (z-i).toNat=(List.range' a (n-a)).map λ(k:Nat)=>D.int (k:Int):=by subst hi;subst h;unfold fromTo;rw[List.range'_eq_map_range,qF];first|rfl|assumption|(simp_all;done)
def Gm{α β:Type}{f g:α->Option β}:∀{l:List α},(∀x∈l,f x=g x)->l.filterMap f=l.filterMap g
 |[],_=>rfl
 |x::l,h=>by rw[filterMap_cons,filterMap_cons,h x (by simp),Gm λy i=>h y (by simp[i])]
def zP(q:Nat):D:=.int (q:Int)
def kM(n:Nat)(f:Nat->List Nat):List S:=(List.range (n+1)).map λp=>S.lst ((f p).map λq=>S.sh (zP q))
def Jk(h:i<=n):(kM n f)[i]?=⇑(.lst ((f i).map λq=>S.sh (zP q))):=by unfold kM;rw[qG,getElem?_range ∅];rfl
def cW(f:Nat->List Nat)(i j:Nat):Nat->List Nat:=λp=>if p=i then f p++[j]else f p
def IY(h:i<=n):(kM n f).set i (.lst (((f i).map λq=>S.sh (zP q))++[.sh (zP j)]))=kM n (cW f i j):=by
 apply ext_getElem?;intro k;rw[getElem?_set];unfold kM;by_cases v:i=k
 .subst v;rw[q8 rfl,q8 (by simp;lia -verbose),qG,getElem?_range ∅];simp[cW]
 .rw[q9 v,qG,qG];by_cases h2:k<n+1
  .rw[getElem?_range h2];simp[map_some,cW,q9 (Ne.symm v)]
  .rw[qR (by simp;lia -verbose)];rfl
def Jp:(kM n f).length=n+1:=by simp[kM]
@[inline]def Dn(i j p q:Nat):Prop:=p<i\/q<i\/p=i/\q<j\/q=i/\p<j
def cX(B:List Wd)(w:Wd)(i j:Nat)(f:Nat->List Nat):Prop:=∀p,(f p).Nodup/\∀q,q∈f p↔(lD B w p q=true/\Dn i j p q)
def Fj:Dn i (j+1) p q↔Dn i j p q\/p=i/\q=j\/q=i/\p=j:=by
 unfold Dn;rw[Nat.lt_succ_iff_lt_or_eq,Nat.lt_succ_iff_lt_or_eq];constructor
 .rintro(h|h|⟨h,k|k⟩|⟨h,k|k⟩)
  .show .inl (.inl h)
  .show .inl (.inr (.inl h))
  .show .inl (.inr (.inr (.inl #[h,k])))
  .show .inr (.inl #[h,k])
  .show .inl (.inr (.inr (.inr #[h,k])))
  .show .inr (.inr #[h,k])
 .rintro((h|h|h|h)|h|h)
  .show .inl h
  .show .inr (.inl h)
  .show .inr (.inr (.inl #[h.1,.inl h.2]))
  .show .inr (.inr (.inr #[h.1,.inl h.2]))
  .show .inr (.inr (.inl #[h.1,.inr h.2]))
  .show .inr (.inr (.inr #[h.1,.inr h.2]))
def HE(v:i<j):¬Dn i j i j/\¬Dn i j j i:=by unfold Dn;lia
def Fy(v:i<j):lD B w i j=dY B w i j:=by
 cases e:dY B w j i with
 |false=>unfold lD;rw[e,Bool.or_false]
 |true=>show absurd (zaF.mp e).1 (Nat.lt_asymm v)
def Ot(v:i<j)(h:cX B w i j f)(F:dY B w i j=false):cX B w i (j+1) f:=λp=>⟨(h p).1,λq=>by
 rw[(h p).2 q,Fj];show and_congr_right λz=>#[.inl,λk=>k.elim id λk=>?_]
 rcases k with⟨rfl,rfl⟩|⟨rfl,rfl⟩
 .rw[Fy v,F]at z;cases z
 .rw[Gk,Fy v,F]at z;cases z⟩
def BA{P Q:Nat->Prop}(h1:l.Nodup)(h2:∀q,q∈l↔P q)(hn:¬P a)(h:∀q,P q\/q=a↔Q q):(l++[a]).Nodup/\∀q,q∈l++[a]↔Q q:=
 #[qx.mpr #[h1,by simp,λx v b i e=>hn ((h2 a).mp (by rw[qv.mp i]at e;rwa[<-e]))],λq=>by rw[qy,qv,h2 q,h q]]
def Qu(v:i<j)(h:cX B w i j f)(F:dY B w i j=true):cX B w i (j+1) (cW (cW f i j) j i):=λp=>by
 let#[h1,h2]:=h p;rw[<-Fy v]at F;unfold cW;by_cases G:p=j
 .subst G;rw[q8 rfl,q9 (ne_of_gt v)];rw[Gk]at F;show BA h1 h2 (λk=>(HE v).2 k.2) λq=>?_;rw[Fj];constructor
  .rintro(⟨a,b⟩|rfl)
   .show#[a,.inl b]
   .show#[F,.inr (.inr #[rfl,rfl])]
  .rintro⟨a,b|⟨b,_⟩|⟨b,_⟩⟩
   .show .inl #[a,b]
   .show absurd b (ne_of_gt v)
   .show .inr b
 .rw[q9 G];by_cases hi:p=i
  .subst hi;rw[q8 rfl];show BA h1 h2 (λk=>(HE v).1 k.2) λq=>?_;rw[Fj];constructor
   .rintro(⟨a,b⟩|rfl)
    .show#[a,.inl b]
    .show#[F,.inr (.inl #[rfl,rfl])]
   .rintro⟨a,b|⟨_,b⟩|⟨_,b⟩⟩
    .show .inl #[a,b]
    .show .inr b
    .show absurd b G
  .rw[q9 hi];show#[h1,λq=>?_];rw[h2 q,Fj];refine and_congr_right λ_=>#[.inl,λk=>k.elim id λk=>?_]
   rcases k with⟨k,_⟩|⟨_,k⟩
   .show absurd k hi
   .show absurd k G
def QZ(F:w.length<=n)(h:cX B w i (n+1) f):cX B w (i+1) (i+2) f:=λp=>by
 let#[h1,h2]:=h p;show#[h1,λq=>?_];rw[h2 q];show and_congr_right λv=>?_;let#[L,J,G]:=CH (zb5.mpr v);let O:p<n+1:=Nat.lt_succ_of_le (le_trans J F);let M:q<n+1:=Nat.lt_succ_of_le (le_trans L F);show#[λh=>?_,λh=>?_]
 .rcases h with h|h|⟨h,_⟩|⟨h,_⟩
  .show .inl (lt_succ_of_lt h)
  .show .inr (.inl (lt_succ_of_lt h))
  .show .inl (h▸Nat.lt_succ_self _)
  .show .inr (.inl (h▸Nat.lt_succ_self _))
 .have I:p<i+1\/q<i+1:=by
   rcases h with h|h|⟨h,h'⟩|⟨h,h'⟩
   .show .inl h
   .show .inr h
   .show .inr (Nat.lt_of_le_of_ne (le_of_lt_succ h') λz=>G (h.trans z.symm))
   .show .inl (Nat.lt_of_le_of_ne (le_of_lt_succ h') λz=>G (z.trans h.symm))
  rcases I with h|h
  .show(Nat.lt_or_eq_of_le (le_of_lt_succ h)).elim .inl λz=>.inr (.inr (.inl #[z,M]))
  .show(Nat.lt_or_eq_of_le (le_of_lt_succ h)).elim (λz=>.inr (.inl z)) λz=>.inr (.inr (.inr #[z,O]))
def Tv:cX B w 0 1 λ_=>[]:=λp=>#[by simp,λq=>by simp only[not_mem_nil,false_iff];rintro⟨h,h2⟩;let:=CH (zb5.mpr h);unfold Dn at h2;lia]
def Sb(hi:w.length<=i)(h:cX B w i j f):(nb B w p).Perm (f p):=by let#[h1,h2]:=h p;show(List.perm_ext_iff_of_nodup (zeX.imp λh=>by lia) h1).mpr λq=>?_;rw[zb5,h2 q];show#[λv=>#[v,?_],λv=>v.1];let:=CH (zb5.mpr v);unfold Dn;lia
def Fz:(nb B w p).length<=w.length+1:=by show le_trans (List.length_filter_le _ _) (by simp)
def bE(B:List Wd)(w:Wd):List D:=(List.range (w.length+1)).map λp=>D.lst ((nb B w p).map zP)
def NV(i:(nb B w p).Perm l)(v:w.length<=60):bH [.lst (l.map zP)]=⇑(.lst (((nb B w p).map zP).map .sh)):=by
 let e:∀l:List Nat,l.map zP=(l.map λ(q:Nat)=>(q:Int)).map D.int:=λl=>by rw[qF];rfl
 rw[e,e];show Sg (by rw[qp,<-i.length_eq];let:=Fz (B:=B) (w:=w) (p:=p);lia) (i.map _) ?_;rw[pairwise_map];show zeX.imp λh=>∅
def Fc(h:v++i::post=List.range n):v.length=i/\i<n:=by
 let h1:(List.range n)[v.length]?=⇑i:=by rw[<-h];simp
 let#[h2,B]:=qh.mp h1;rw[List.getElem_range]at B;rw[qE]at h2;lia
def Tj(h:v++i::post=List.range' a n):i=a+v.length/\v.length<n:=by
 let h1:(List.range' a n)[v.length]?=⇑i:=by rw[<-h];simp
 let#[h2,B]:=qh.mp h1;rw[List.getElem_range']at B;rw[List.length_range']at h2;lia
def JU(h:cX B w i j f)(p:Nat):(f p).length<=w.length+1:=by let#[h1,h2]:=h p;let:=CA (f p) (nb B w p) h1 λq v=>zb5.mpr ((h2 q).mp v).1;let:=Fz (B:=B) (w:=w) (p:=p);lia
def DZ{a b:Nat}:(if(b:Int)<(a:Int)then(b:Int)else(a:Int))=((min a b:Nat):Int):=by split<;>lia
def Ea{a b:Nat}:(if(b:Int)>(a:Int)then(b:Int)else(a:Int))=((max a b:Nat):Int):=by split<;>lia
def dy(D':Ends)(m:Nat)(J:Nat->Env->Prop):Ends:={D' with nx:=λi=>∃m',m'<m/\J m' i,ct:=λi=>∃m',m'<m/\J m' i,bk:=D'.nx}
def jk(b:WS)(D':Ends)(m:Nat)(J:Nat->Env->Prop)(k:Bool)(U:Env):Prop:=if k then b (dy D' m J) U else D'.nx U
def sJ:jk b D' m J true U=b (dy D' m J) U:=rfl
def oA:jk b D' m J false U=D'.nx U:=rfl
def Ek(i:m'<m)(h:J m' U):(dy D' m J).nx U:=#[m',i,h]
def Fp(J:Nat->Env->Prop)(m:Nat)(v:J m U)(h:∀m U,J m U->c U (jk b D' m J) D'.ex):fH c b D' U:=#[J,#[m,v],λm U i=>h m U i]
end FL
noncomputable section
namespace Law
open FL
def lS:WB:=bI 2 (bK (zw (zv 3) (zw (zL aN (zv 3) (wB aR (zw (zv 5) zx))) (zw (zv 4) zx))))
def tD:=uB lS.eq_1
def lR:WB:=rH (lW (zv 0)) (bP [zy 4,zy 5]) (aM eS (fJ (zv 1) ⇑(zv 3) ⇑(zL aN (zv 3) (wB aR (zw (zv 5) zx)))) (zv 5)) lS
def tB:=uB lR.eq_1
def fg:WF:=fY 2 2 [0,1]
 (bL (wB bH (zw (iB 2 3 (bA (wB aR (zw (zv 1) zx))) (zy 3) dJ lR) zx)))
def lJ:WB:=bI 10 (bK (zw (zv 12) (zw (zv 11) zx)))
def sT:=uB lJ.eq_1
def lL:WS:=zM (zO (zy 9) (bK (zw (zL aN (zv 4) (zv 8)) (zw (zL aN (zv 5) (wC (.int 1))) zx))))
  (dU (dE (aM bU (zv 7) (zv 2)) (kU (aM bU (zv 7) (zv 3)) (aM gY (zv 9) (gP (zv 3) (zv 7))))) (fZ 3 (zv 7) (zv 9)) aS)
def sV:=uS lL.eq_1
def lK:WS:=zM (zO (bP [bP [zy 4,zy 5],zy 6]) (wB kQ (zw (lU 3 (iB 10 2 (eJ 3) (bP [zy 11,zy 12]) dJ lJ)) zx)))
  (zM (lX 3 (zv 6))
  (zM (fZ 2 (zv 6) (bK (zw (zv 4) (zw (zv 5) zx))))
  (dM (fC (dB (zv 0) (zv 6))) (bP [zy 7,zy 8]) lL)))
def sU:=uS lK.eq_1
def fc:WF:=fY 2 10 [0,1]
 (zM (zO (zy 2) (gA false))
  (zM (zO (zy 3) (gQ (zv 1) (bK (zw (wC (.int 0)) (zw (wC (.int 0)) zx)))))
  (zM (fH (gM 3) lK)
  (bL (zv 2)))))
def eu:WF:=fY 2 4 [0,1]
 (zM (zO (zy 2) (zL aN (zL cE (wC (.int 7919)) (zv 1)) (wC (.int 11))))
  (zM (dU (aM dm (zv 1) (wB aR (zw (zv 0) zx))) (zO (zy 2) (dB (zv 0) (zv 1))) (dU (aM nV (wB aR (zw (zv 0) zx)) (wC (.int 0))) (zO (zy 2) (zL aN (zv 2) (zL cE (zL eB (dB (zv 0) (zL eB (zv 1) (wB aR (zw (zv 0) zx)))) (wC (.int 2147483629))) (wC (.int 69623))))) aS))
  (zM (zO (zy 3) (zL aN (zL eB (zL aN (zL cE (zL eB (zv 2) (wC (.int 2147483629))) (wC (.int 48271))) (zL cE (wC (.int 40692)) (zv 1))) (wC (.int 2147483629))) (wC (.int 1))))
  (bL (cS (zw (dB (cS (zw (wC (.int 0)) (zw (zv 2) zx))) (wB kZ (zw (iA (aM xK (zv 2) (zL mG (wC (.int 10)) (wC (.int 18))))) zx))) (zw (zv 3) zx)))))))
def fG:WF:=fY 2 4 [0,1]
 (zM (dU (aM nV (dB (zv 0) (wC (.int 0))) (wC (.int 0))) (zM (zO (zy 2) (zL eB (dB (zv 0) (wC (.int 0))) (zv 1)))
  (zM (fK 0 (wC (.int 0)) (zL gB (dB (zv 0) (wC (.int 0))) (zv 1)))
  (bL (zv 2)))) aS)
  (zM (zO (zy 3) (zL eB (zL cE (dB (zv 0) (wC (.int 1))) (wC (.int 69623))) (wC (.int 2147483647))))
  (zM (fK 0 (wC (.int 1)) (zL aN (zL eB (zL aN (zL cE (zv 3) (wC (.int 48271))) (wC (.int 30103))) (wC (.int 2147483629))) (wC (.int 1))))
  (bL (zL eB (zL gB (zL aN (zL cE (zv 3) (wC (.int 2147483647))) (dB (zv 0) (wC (.int 1)))) (wC (.int 8191))) (zv 1))))))
def jS:WS:=zM (dU (dE (aM eS (fJ (zv 1) ⇑(zv 2) ⇑(zL aN (zv 2) (wB aR (zw (zv 5) zx)))) (fJ (zv 5) none ⇑(zL eV (wB aR (zw (zv 1) zx)) (zv 2)))) (aM dn (zL aN (zv 2) (wB aR (zw (zv 5) zx))) (zv 3))) (wExpr (bM 4 (bK (zw (zv 5) (zw (zL aN (zv 2) (wB aR (zw (zv 5) zx))) zx))))) aS)
  (dU (dE (aM xK (zv 2) (wB aR (zw (zv 5) zx))) (aM eS (fJ (zv 1) ⇑(zL eV (zv 2) (wB aR (zw (zv 5) zx))) ⇑(zv 2)) (zv 5))) (wExpr (bM 4 (bK (zw (zv 5) (zw (zL eV (zv 2) (wB aR (zw (zv 5) zx))) zx))))) aS)
def oU:=uS jS.eq_1
def sO:WF:=fY 4 6 [0,1,2,3]
 (zM (zO (zy 4) (cS zx))
  (zM (dM (cQ (zv 0)) (zy 5) jS)
  (bL (zv 4))))
def jN:WB:=bI 5 (cS zx)
def oQ:=uB jN.eq_1
def jP:WS:=dU (aM eM (fJ (zv 1) ⇑(zv 3) ⇑(zv 4)) (zv 0)) (zM (wExpr (cL 2 (zv 3) (zv 4)))
  (wExpr (cL 2 (zv 4) (zv 3)))) aS
def oS:=uS jP.eq_1
def jO:WS:=dM (gN (zL aN (zv 3) (wC (.int 1))) (zL aN (wB aR (zw (zv 1) zx)) (wC (.int 1)))) (zy 4) jP
def oR:=uS jO.eq_1
def jM:WB:=bI 5 (dW (wB bH (zw (zv 6) zx)))
def oP:=uB jM.eq_1
def oB:WF:=fY 2 5 [0,1]
 (zM (zO (zy 2) (iB 5 1 (bA (zL aN (wB aR (zw (zv 1) zx)) (wC (.int 1)))) (zy 6) dJ jN))
  (zM (dM (bA (wB aR (zw (zv 1) zx))) (zy 3) jO)
  (bL (iB 5 1 (cQ (zv 2)) (zy 6) dJ jM))))
def jH:WB:=bI 14 (iA (aM eS (zv 15) (fJ (zv 1) ⇑(wB rF (zw (zv 5) (zw (zv 6) zx))) ⇑(wB rG (zw (zv 5) (zw (zv 6) zx))))))
def oH:=uB jH.eq_1
def jK:WS:=fZ 4 (bK (zw (zv 6) (zw (zv 5) zx))) (dB (zv 3) (cu fF (dW (iB 14 1 (cQ (zv 0)) (zy 15) dJ jH)) (zw (wC (.bl true)) zx)))
def oM:=uS jK.eq_1
def jJ:WS:=dM (cQ (dB (zv 2) (zv 5))) (zy 6) jK
def oK:=uS jJ.eq_1
def gK:WS:=dU (aM eM (zv 6) (zv 7)) (zM (zO (bP [zy 9,zy 10,zy 11]) (gP (zv 7) (zv 6)))
  (zM (zO (zy 12) (bK (zw (zL aN (zv 9) (gP (zv 4) (bK (zw (zv 6) (zw (zv 5) zx))))) (zw (zL aN (zv 10) (wC (.int 1))) (zw (zL aN (zv 11) (bK (zw (zv 5) zx))) zx)))))
  (dU (kU (aM bU (zv 5) (zv 7)) (aM gY (zv 12) (gP (zv 7) (zv 5)))) (zM (fZ 7 (zv 5) (zv 12))
  (zO (zy 8) (wC (.bl true)))) aS))) aS
def oJ:=uS gK.eq_1
def jI:WS:=zM (zO (zy 8) (wC (.bl false)))
  (dM (iS (zv 4)) (bP [zy 6,zy 5]) gK)
def oI:=uS jI.eq_1
def sL:WF:=fY 4 14 [0,1,2,3]
 (zM (zO (zy 4) (gA true))
  (zM (dM (bA (wB aR (zw (zv 2) zx))) (zy 5) jJ)
  (zM (zO (zy 7) (gQ (wC (.int 0)) (bK (zw (wC (.int 0)) (zw (wC (.int 1)) (zw (bK (zw (wC (.int 0)) zx)) zx))))))
  (zM (zO (zy 8) (wC (.bl true)))
  (zM (fH (fI (zv 8)) jI)
  (zM (zO (zy 13) (lV (zv 7) (wB aR (zw (zv 1) zx)) (wC .non)))
  (zM (dU (aM nS (zv 13) (wC .non)) (bL (wC .non)) aS)
  (bL (bK (zw (dB (zv 13) (wC (.int 0))) (zw (dB (zv 13) (wC (.int 2))) zx)))))))))))
def lM:WB:=bI 7 (gA false)
def sW:=uB lM.eq_1
def lN:WS:=zM (fE 3 (zv 4) (zv 5) (dB (zv 2) (zv 6)))
  (fE 3 (zv 5) (zv 4) (dB (zv 2) (zv 6)))
def sX:=uS lN.eq_1
def fe:WF:=fY 3 7 [0,1,2]
 (zM (zO (zy 3) (iB 7 1 (bA (zL aN (wB aR (zw (zv 1) zx)) (wC (.int 1)))) (zy 8) dJ lM))
  (zM (dM (cQ (zN fg [true,true] (zw (zv 0) (zw (zv 1) zx)))) (bP [zy 4,zy 5,zy 6]) lN)
  (bL (zv 3))))
def iR:WB:=bI 3 (dW (gO 2 (zN fG [true,true] (zw (zv 0) (zw (wB aR (zw (zv 2) zx)) zx)))))
def sS:=uB iR.eq_1
def ek:WF:=fY 2 3 [0,1]
 (zM (zO (zy 2) (wB gZ (zw (wC (.str [97,98,99,100,101,102,103,104,105,106,107,108,109,110,111,112,113,114,115,116,117,118,119,120,121,122])) zx)))
  (bL (xG iF (wC (.str [])) (zw (wB bH (zw (iB 3 1 (bA (zv 1)) (zy 4) dJ iR) zx)) zx))))
def iQ:WB:=bI 4 (dB (zv 1) (zN fG [true,true] (zw (zv 0) (zw (wB aR (zw (zv 1) zx)) zx))))
def sR:=uB iQ.eq_1
def cq:WF:=fY 3 4 [0,1,2]
 (zM (zO (zy 3) (zL cE (zN fG [true,true] (zw (zv 0) (zw (zL aN (zv 2) (wC (.int 1))) zx))) (wB kZ (zw (iA (aM gX (zv 1) (wC (.str [])))) zx))))
  (bL (xG iF (wC (.str [])) (zw (iB 4 1 (bA (zv 3)) (zy 5) dJ iQ) zx))))
def eh:WF:=fY 3 7 [0,1,2]
 (zM (zO (zy 3) (dB (zv 2) (zN fG [true,true] (zw (zv 0) (zw (wB aR (zw (zv 2) zx)) zx)))))
  (zM (zO (zy 4) (zN fG [true,true] (zw (zv 0) (zw (wC (.int 5)) zx))))
  (zM (zO (zy 5) (dB (zv 1) (zN fG [true,true] (zw (zv 0) (zw (wB aR (zw (zv 1) zx)) zx)))))
  (zM (zO (zy 6) (zN fG [true,true] (zw (zv 0) (zw (wB aR (zw (zv 3) zx)) zx))))
  (bL (dB (cS (zw (fJ (zv 3) none ⇑(zL aN (zv 6) (wC (.int 1)))) (zw (fJ (zv 3) ⇑(zv 6) none) (zw (zL aN (zv 5) (zv 3)) (zw (zL aN (zv 3) (zv 5)) (zw (zL aN (zv 3) (zv 3)) zx)))))) (zv 4)))))))
def jQ:WB:=bI 11 (zv 12)
def jT:=uB jQ.eq_1
def jR:WS:=zM (zO (zy 7) (dW (zN sO [true,true,true,true] (zw (zv 1) (zw (zv 4) (zw (zv 5) (zw (zv 3) zx)))))))
  (zM (dU (aM nV (zv 6) (wC (.int 4))) (fh 7 (zO (zy 7) (iB 11 1 (cQ (zv 7)) (zy 12) (aM nV (dB (zv 12) (wC (.int 1))) (zv 5)) jQ))) aS)
  (dU (aM gX (zv 7) (cS zx)) (zM (zO (bP [zy 8,zy 9]) (dB (zv 7) (zN fG [true,true] (zw (zv 0) (zw (wB aR (zw (zv 7) zx)) zx)))))
  (zM (dU (aM nV (zv 9) (zv 5)) (zO (zy 4) (zL aN (zL aN (fJ (zv 4) none ⇑(zv 5)) (zv 8)) (fJ (zv 4) ⇑(zv 9) none))) aS)
  (zO (zy 5) (zv 9)))) aS))
def oT:=uS jR.eq_1
def sN:WF:=fY 4 11 [0,1,2,3]
 (zM (zO (bP [zy 4,zy 5]) (bK (zw (wC (.str [])) (zw (wC (.int 0)) zx))))
  (zM (dM (bA (zL aN (wC (.int 1)) (zN fG [true,true] (zw (zv 0) (zw (wC (.int 9)) zx))))) (zy 6) jR)
  (zM (dU (dE (aM gX (zv 4) (wC (.str []))) (aM eS (zN fG [true,true] (zw (zv 0) (zw (wC (.int 5)) zx))) (wC (.int 0)))) (zM (zO (zy 10) (zN fG [true,true] (zw (zv 0) (zw (wB aR (zw (zv 4) zx)) zx))))
  (zO (zy 4) (zL aN (zL aN (fJ (zv 4) none ⇑(zv 10)) (dB (zv 2) (zN fG [true,true] (zw (zv 0) (zw (wB aR (zw (zv 2) zx)) zx))))) (fJ (zv 4) ⇑(zL aN (zv 10) (wC (.int 1))) none)))) aS)
  (bL (zv 4)))))
def lO:WB:=bI 9 (zv 10)
def sY:=uB lO.eq_1
def lP:WS:=zM (zO (bP [zy 7,zy 8]) (gP (zv 4) (zv 5)))
  (zM (zO (zy 5) (dW (wB kO (zw (iB 9 2 (fC (dB (zv 3) (zv 5))) (bP [zy 10,zy 11]) (aM eS (gP (zv 4) (zv 10)) (bK (zw (zL eV (zv 7) (zv 11)) (zw (zL eV (zv 8) (wC (.int 1))) zx)))) lO) zx))))
  (wExpr (bM 6 (zv 5))))
def sZ:=uS lP.eq_1
def ff:WF:=fY 3 9 [0,1,2]
 (zM (zO (zy 3) (dW (zN fe [true,true,true] (zw (zv 0) (zw (zv 1) (zw (zv 2) zx))))))
  (zM (zO (zy 4) (dW (zN fc [true,true] (zw (zv 3) (zw (wB aR (zw (zv 1) zx)) zx)))))
  (zM (dU (aM bU (wC (.int 0)) (zv 4)) (bL (wC .non)) aS)
  (zM (zO (zy 5) (wC (.int 0)))
  (zM (zO (zy 6) (cS (zw (zv 5) zx)))
  (zM (fH (aM gX (zv 5) (wB aR (zw (zv 1) zx))) lP)
  (bL (bK (zw (dB (gP (zv 4) (wC (.int 0))) (wC (.int 0))) (zw (wB dQ (zw (zv 6) zx)) zx))))))))))
def lI:WS:=zM (zO (zy 6) (zL aN (dB (zv 1) (zN fG [true,true] (zw (zv 0) (zw (wB aR (zw (zv 1) zx)) zx)))) (zN cq [true,true,true] (zw (zv 0) (zw (zv 1) (zw (zL eV (zv 3) (wC (.int 1))) zx))))))
  (zM (dU (dE (aM gX (zv 4) (cS zx)) (aM eS (zN fG [true,true] (zw (zv 0) (zw (wC (.int 2)) zx))) (wC (.int 0)))) (zO (zy 6) (fJ (zN eh [true,true,true] (zw (zv 0) (zw (zv 1) (zw (zv 4) zx)))) none ⇑(zv 3))) aS)
  (dU (aM bU (zv 6) (zv 4)) (wExpr (bM 4 (zv 6))) aS))
def sQ:=uS lI.eq_1
def dz:WF:=fY 4 7 [0,1,2,3]
 (zM (zO (zy 4) (cS zx))
  (zM (dM (bA (zL cE (zN fG [true,true] (zw (zv 0) (zw (zL aN (zv 2) (wC (.int 1))) zx))) (wB kZ (zw (iA (aM gX (zv 1) (wC (.str [])))) zx)))) (zy 5) lI)
  (bL (wB dQ (zw (zv 4) zx)))))
def gL:WB:=bI 6 (zN fG [true,true] (zw (zv 0) (zw (zv 5) zx)))
def oO:=uB gL.eq_1
def sM:WF:=fY 2 6 [0,1]
 (zM (zO (zy 2) (zN ek [true,true] (zw (zv 0) (zw (zL aN (wC (.int 1)) (zN fG [true,true] (zw (zv 0) (zw (wC (.int 3)) zx)))) zx))))
  (zM (zO (zy 3) (dW (zN dz [true,true,true,true] (zw (zv 0) (zw (zv 2) (zw (wC (.int 6)) (zw (wC (.int 6)) zx)))))))
  (zM (zO (zy 4) (dW (zN sN [true,true,true,true] (zw (zv 0) (zw (zv 3) (zw (zv 2) (zw (wC (.int 12)) zx)))))))
  (zM (dU (aM eS (zN fG [true,true] (zw (zv 0) (zw (wC (.int 6)) zx))) (wC (.int 0))) (zO (zy 4) (zN cq [true,true,true] (zw (zv 0) (zw (zv 2) (zw (wC (.int 12)) zx))))) aS)
  (zM (zO (zy 5) (dB (cS (zw (wC (.int 2)) (zw (wC (.int 4)) (zw (zv 1) zx)))) (zN fG [true,true] (zw (zv 0) (zw (wC (.int 3)) zx)))))
  (bL (bK (zw (zv 2) (zw (zv 3) (zw (zv 4) (zw (wB dQ (zw (iB 6 1 (cQ (zv 3)) (zy 7) dJ gL) zx)) zx)))))))))))
def jL(r:WF):WB:=bI 2 (dW (zN r [true,true] (zw (zv 3) (zw (zv 4) zx))))
def oN(r:WF):=uB (jL.eq_1 r)
def dw(r:WF):WF:=fY 2 2 [0,1]
 (zM (dU (fI (iC "tuple" (zv 1))) (zM (dU (kU (jD (fI (iC "tuple" (zv 0)))) (aM gX (wB aR (zw (zv 0) zx)) (wB aR (zw (zv 1) zx)))) (bL (wC (.bl false))) aS)
  (bL (wB rJ (zw (iB 2 2 (sP (zv 0) (zv 1)) (bP [zy 3,zy 4]) dJ (jL r)) zx)))) aS)
  (zM (dU (fI (iC "str" (zv 1))) (bL (iD (iC "str" (zv 0)) (iA (aM eS (zv 0) (zv 1))))) aS)
  (bL (iD (iC "int" (zv 0)) (iD (lT (iC "bool" (zv 0))) (iA (aM eS (zv 0) (zv 1))))))))
def xR:WF:=oC dw 4
def jG:WS:=wExpr (bM 1 (bK (zw (zv 7) (zw (zv 5) (zw (zv 8) (zw (zN sL [true,true,true,true] (zw (zv 7) (zw (zv 5) (zw (dW (zN oB [true,true] (zw (zv 7) (zw (zv 5) zx)))) (zw (zv 8) zx))))) zx))))))
def oG:=uS jG.eq_1
def jF:WS:=zM (zO (bP [zy 3,zy 4,zy 5,zy 6]) (zN sM [true,true] (zw (zN eu [true,true] (zw (zv 0) (zw (zv 2) zx))) (zw (wC (.int 100)) zx))))
  (dM (cQ (cS (zw (bK (zw (zv 4) (zw (zv 6) zx))) (zw (bK (zw (zv 4) (zw (fB (zv 6)) zx))) (zw (bK (zw (fJ (zv 4) ⇑(wC (.int 1)) none) (zw (fJ (zv 6) ⇑(wC (.int 1)) none) zx))) zx))))) (bP [zy 7,zy 8]) jG)
def oF:=uS jF.eq_1
def jE:WS:=zM (zO (zy 10) (dW (zN ff [true,true,true] (zw (zv 4) (zw (zv 5) (zw (zv 8) zx))))))
  (dU (kU (dE (aM nS (zv 9) (wC .non)) (aM cV (zv 10) (wC .non))) (dE (aM cV (zv 9) (wC .non)) (jD (fI (zN xR [true,true] (zw (zv 10) (zw (zv 9) zx))))))) (bL (wC (.bl false))) aS)
def oE:=uS jE.eq_1
def lQ:WF:=fY 1 11 [0]
 (zM (zO (zy 1) (cS zx))
  (zM (dM (bA (wC (.int 2))) (zy 2) jF)
  (zM (dM (cQ (zL aN (zv 1) (fJ (zv 1) none ⇑(wC (.int 1))))) (bP [zy 4,zy 5,zy 8,zy 9]) jE)
  (bL (wC (.bl true))))))
end Law
end
end
namespace Law
open FL
variable{P:S->List S->Prop}{PX:D->List S->Prop}
set_option hygiene false in
local macro_rules
 |`(tactic|simp! [$xs,*] $[$l:location]?)=>do
  let ls<-("e_C e_V zsq znM znX e_Ck zsa zpQ znt zom zlB zlp zsV zot zoe e_Or zsj zrN zqU zpi zrR zoM zoK zlq zlD znP zlF zl4 zqY zpz zma zmf zsK e_gA zti zqS e_gv e_gl ztk zss znQ zov zqM zo1 zpA e_l0 e_l1 e_l2 e_l3 e_l4 e_l5 e_vv e_vl e_cv e_cl zpn e_sh zaz zsr e_Ix zsz zr1 zpT zm7 zqQ zq1 zqV zqq zsO zs3 zpr zog zoa ztc zq6 e_p0 e_pv e_pl zsY e_pA e_b0 e_bv e_bl zpR zmH zlG znV zqb e_vA zrT e_B e_B1 e_B2 e_MS zrW zsQ e_Ap zrm zr3 zr6 zsT zqX zpv zoA zth zm9 zmg zmi zmP znc e_Di zqd zqg zqI zrj zoR zqF e_Pt ztj zr2 e_Sl zs8 zsL zq8 zsR e_nx e_rt e_ex zoX zqK e_If zr4 zsv zqx zos zl0 zrP znY zoy e_gN e_gT zqm zrK zq2 zqN zsZ zpD zne zoW zoh zmZ zmN e_Dp zrL zp1 zsb zsH zsf zoz zsN zoU e_It zte zrA zqn zqa zsg e_En zsx zqf zqz e_Zi zqy zqv zrc zsM ztd e_R1 zsp zrS e_R2 zr5 zrB zsc zsP znm e_LC zr7 zrz znE zq0 znd zrH e_Em zqE zrM zsm e_bF ztb zp4 zrY e_Rt zqD zra e_Fn e_f0 e_fs e_fl e_fA zrn zoN zpm zo3 zry znG zqp znT zrg e_lt e_gt e_le e_ge zpO zp3 zoY zta ztf znb zo5 znu zm4 znC zpN zrw zqh zrU zre zs0 zrq zr0 zrO zqH zsA zp6 zst zrh zsh zqW zsi zru zsD zqP zsX ztg zs7 zsB zqR zqG zqJ zsF zrC zrl zrV zs2 zsy zs1 zp7 zrZ zp2 zqs zp5 zsW zsS zrX zs5 zq9 zqT znr zpu znJ zoO znn zpI zn4 zn8 zpS zod zng zni znU zpM zns zo2 zpW zpx zrQ zqe zpq e_AA zrx zrD zqC zsG zrF zrI zpG zn1 zs6 zoZ zoQ e_Ge zql zsw zrJ zrr zqO znO zoj zqc zo9 e_XA zsE zri zqi zrv zso e_TR zqZ zrG zpP e_ML zqw zsn zfU znp znL e_Dd zqr zqk zsJ zrk e_DA zp8 zoE zq7 zsC ziU zsk zrE zs9 zpl zoS zpL zrp znf zpy zpd e_Hd e_TD zq4 map_some S.toD_sh S.toD_lst qz map_nil qP nil_append List.replicate_succ List.replicate_zero Nat.reduceSub Nat.reduceAdd qA List.take_succ_cons List.take_zero true_and S.toDs_map S.toD_dct Int.reduceEq Int.reduceLT Int.reduceLE decide_true decide_false Bool.not_true Bool.not_false".splitOn " ").toArray.mapM λn=>`(Lean.Parser.Tactic.simpLemma|$(Lean.mkIdent n.toName):ident)
  let ls:=ls++xs.getElems
  `(tactic|simp -implicitDefEqProofs (disch:=first|omega|decide|rfl|(simp only[qp,qr,qu,qw,qE,cC];omega)|(simp only[qp,qr,qu,qw,qE,cC];done)) only[$ls,*] $[$l:location]?)
local macro_rules|`(tactic|lia)=>`(tactic|lia -verbose)
noncomputable section pu
def aQ(a s:Int):S:=.lst [.sh (.int a),.sh (.int s)]
def AM{a s m:Int}(B:0<=a)(G:1<=s)(i:s<=2147483629)(v:0<m)(I:m<18446744073709551616)
  (h:∀r F s',0<=r->r<m->0<=F->1<=s'->s'<=2147483629->P (.sh (.int r)) [aQ F s',.sh (.int m)]):fG [aQ a s,.sh (.int m)] P PX:=by
 show AN rfl rfl ?_;simp! [aQ];cases J:↥(0<a)
 .simp! [e_C];show h _ _ _ (Int.emod_nonneg _ ∅) (Int.emod_lt_of_pos _ v) B ∅ ∅
 .simp! [e_C];show h _ _ _ (Int.emod_nonneg _ ∅) (Int.emod_lt_of_pos _ v) (Int.ediv_nonneg B ∅) G i
def PK{T:Env->Prop}{E:Ends}{i:List Int}{k:Int}(F:0<=k)(h:∀c,T [⇑(.sh (.lst (i.map .int))),⇑(.sh (.int k)),⇑(.sh (.int c)),none]):dg (zO (zy 2) (dB (zv 0) (zv 1))) (dU (aM nV (wB aR (zw (zv 0) zx)) (wC (.int 0))) (zO (zy 2) (zL aN (zv 2) (zL cE (zL eB (dB (zv 0) (zL eB (zv 1) (wB aR (zw (zv 0) zx)))) (wC (.int 2147483629))) (wC (.int 69623))))) aS) (xF E T) ↥(k<i.length) [⇑(.sh (.lst (i.map .int))),⇑(.sh (.int k)),⇑(.sh (.int (7919*k+11))),none]:=by
 by_cases h1:k<i.length
 .obtain⟨v,_,_,e⟩:=Et (f:=D.int) F h1;simp! [h1,decide_true,e];show h _
 .by_cases h2:0<i.length
  .let B:(0:Int)<i.length:=by lia
   let#[v,_,_,e]:=Et (f:=D.int) (l:=i) (z:=k %i.length) (Int.emod_nonneg _ ∅) (Int.emod_lt_of_pos _ B);simp! [length_map,h1,B,decide_true,decide_false,e];show h _
  .let B:¬(0:Int)<i.length:=by lia
   simp! [length_map,h1,B,decide_false];show h _
def Rr{v:List Int}{k:Int}(B:0<=k)
  (h:∀a s,0<=a->1<=s->s<=2147483629->P (aQ a s) [.sh (.lst (v.map .int)),.sh (.int k)]):eu [.sh (.lst (v.map .int)),.sh (.int k)] P PX:=by
 show AN rfl rfl ?_;simp! [length_map];show PK B λi=>?_;simp! [e_C];cases F:↥((10:Int)^(18:Int).toNat<=i)
 .simp! [if_true,Bool.false_eq_true,if_false];show h _ _ ⋯ ∅ ∅
 .simp! [if_true];let:(0:Int)<=i:=by
   let:=qV F;let e:(10:Int)^(18:Int).toNat=1000000000000000000:=⋯
   lia
  show h _ _ this ∅ ∅
def letters:List Nat:=[97,98,99,100,101,102,103,104,105,106,107,108,109,110,111,112,113,114,115,116,117,118,119,120,121,122]
def Qf{Q:Env->Prop}{E:WX}{m:Int}:∀(xs:List D)(a s:Int)(L A:List Nat)(o:Option S),xs.length<=L.length->0<=a->1<=s->s<=2147483629->(A++L).Perm letters->
  (∀M s'(O J:List Nat) o',0<=M->1<=s'->s'<=2147483629->J.length=A.length+xs.length->(J++O).Perm letters->Q [⇑(aQ M s'),⇑(.sh (.int m)),⇑(.lst ((O.map sg).map .sh)),⇑(.lst ((J.map sg).map .sh)),o'])->
  aP (zy 4) dJ iR xs [⇑(aQ a s),⇑(.sh (.int m)),⇑(.lst ((L.map sg).map .sh)),⇑(.lst ((A.map sg).map .sh)),o] Q E:=by
 intro xs;induction xs with
 |nil=>intro a s L A o h1 ha hs v i h;show h a s L A o ha hs v (by simp) i
 |cons x xs ih=>
  intro a s L A o h1 ha hs v i h;let I:=i.length_eq;let h5:letters.length=26:=rfl;simp only[qu,qr]at h1 h I;rw[au];simp! [sS,e_sh,zaz,aQ,length_map];show AM ha hs v ?_ ?_ λr M s' hr h2 h4 Y G=>?_
  .lia
  .lia
  simp! [e_sh,zaz,aQ,length_map];let#[c,hc,hg,_]:=Dl (l:=L) hr h2;show Nj hr (by simp only[qp,cC];lia) (SZ (d:=sg c) (by rw[qG,hg];rfl)) ?_;simp! [e_sh,zaz,aQ,length_map];show#[by simp only[cC];lia,?_];let e1:((L.map sg).map S.sh).eraseIdx r.toNat=((L.eraseIdx r.toNat).map sg).map S.sh:=by rw[GN,GN]
  let e2:((A.map sg).map S.sh)++[S.sh (sg c)]=(((A++[c]).map sg).map S.sh):=by simp
  rw[e1,e2];let F:r.toNat<L.length:=∅
  let hl:(L.eraseIdx r.toNat).length=L.length-1:=List.length_eraseIdx_of_lt F;let h3:L[r.toNat]=c:=by rw[qi F]at hg;show qg hg
  let B:(A++[c]++L.eraseIdx r.toNat).Perm (A++L):=by rw[qq];show List.Perm.append_left A ?_;let:=Lj L r.toNat F;rw[h3]at this;show this
  show ih M s' _ _ _ ∅ h4 Y G (B.trans i) λa2 s2 O J o' x1 x2 x3 x4 x5=>h a2 s2 O J o' x1 x2 x3 (by rw[x4];simp only[qr,qC];lia) x5
def Uz{a s m:Int}(ha:0<=a)(hs:1<=s)(I:s<=2147483629)(hm:0<=m)(h3:m<=26)
  (h:∀(l:List Nat) F s',l.length=m.toNat->l.Pairwise (·<·)->(∀c∈l,97<=c/\c<=122)->0<=F->1<=s'->s'<=2147483629->P (.sh (.str l)) [aQ F s',.sh (.int m)]):ek [aQ a s,.sh (.int m)] P PX:=by
 refine AN rfl rfl ?_;simp! [aQ,e_sh,zaz];show#[by simp only[cC];lia,?_];let hf:(fromTo 0 m.toNat).length=m.toNat:=EM;let h2:letters.length=26:=rfl;refine Qf (fromTo 0 m.toNat) a s letters [] none (by rw[hf,h2];lia) ha hs I (List.Perm.refl _)
  λF s' L' A' o' h1 J i hA v=>?_
 rw[hf,qw,Nat.zero_add]at hA;let M:A'.Nodup:=(qx.mp (v.nodup_iff.mpr ⋯)).1;let O:∀c∈A',97<=c/\c<=122:=λc Y=>by
  let:c∈letters:=v.mem_iff.mp (qk _ Y);let B:∀c∈letters,97<=c/\c<=122:=⋯
  show B c this
 let#[A2,L,G,e]:=OD (A:=A') ∅;let hl:A2.length=m.toNat:=L.length_eq.trans hA;simp! [aQ,e_sh,zaz,e,IC (show A2.length<=big by simp only[cC];lia)];show h A2 F s' hl (Ss G (L.nodup_iff.mpr M)) (λc Y=>O c (L.mem_iff.mp Y)) h1 J i
def RC{Q:Env->Prop}{E:WX}{m many:Int}{i:List Nat}(hc:0<i.length)(h1:i.length<=26):∀(xs:List D)(a s:Int)(A:List Nat)(o:Option S),0<=a->1<=s->s<=2147483629->A.length+xs.length<=1000->
  (∀G s'(F:List Nat) o',0<=G->1<=s'->s'<=2147483629->F.length=A.length+xs.length->(∀z∈F,z∈A\/z∈i)->Q [⇑(aQ G s'),⇑(.sh (.str i)),⇑(.sh (.int m)),⇑(.sh (.int many)),⇑(.lst ((F.map sg).map .sh)),o'])->
  aP (zy 5) dJ iQ xs [⇑(aQ a s),⇑(.sh (.str i)),⇑(.sh (.int m)),⇑(.sh (.int many)),⇑(.lst ((A.map sg).map .sh)),o] Q E:=by
 intro xs;induction xs with
 |nil=>intro a s A o ha L v h3 h;show h a s A o ha L v (by simp) λz I=>.inl I
 |cons x xs ih=>
  intro a s A o ha L v h3 h;simp only[qu]at h3 h;rw[au];simp! [sR,e_sh,zaz,aQ,length_map];show AM ha L v ∅ ∅ λr G s' hr M Y J B=>?_;let#[c,O,_,e]:=Dl (l:=i) hr M;simp! [e,e_sh,zaz,aQ,length_map];show#[by simp only[cC];lia,?_];let e2:((A.map sg).map S.sh)++[S.sh (.str [c])]=(((A++[c]).map sg).map S.sh):=by simp[sg]
  rw[e2];show ih G s' _ _ Y J B (by simp only[qr,qC];lia) λa2 s2 F o' x1 x2 x3 x4 x5=>h a2 s2 F o' x1 x2 x3 (by rw[x4];simp only[qr,qC];lia) λz I=>?_;rcases x5 z I with q|q
  .rcases qy.mp q with q|q
   .show .inl q
   .rw[qv.mp q];show .inr O
  .show .inr q
def KJ{a s m:Int}{i:List Nat}(ha:0<=a)(hs:1<=s)(G:s<=2147483629)(hm:0<=m)(h3:m<=900)(O:0<i.length)(M:i.length<=26)
  (h:∀(l:List Nat) F s',l.length<=m.toNat->(∀z∈l,z∈i)->0<=F->1<=s'->s'<=2147483629->P (.sh (.str l)) [aQ F s',.sh (.str i),.sh (.int m)]):cq [aQ a s,.sh (.str i),.sh (.int m)] P PX:=by
 show AN rfl rfl ?_;simp! [aQ,e_sh,zaz];show AM ha hs G ∅ ∅ λr a1 s1 hr h2 Y I v=>?_;let L:↥(i=[])=false:=by simp;intro z;rw[z]at O;simp at O
 simp! [aQ,e_sh,zaz,L,Bool.not_false,if_true,mul_one];show#[by simp only[cC];lia,?_];let hf:(fromTo 0 r.toNat).length=r.toNat:=EM;show RC (A:=[]) O M _ a1 s1 none Y I v (by rw[hf];simp only[qw];lia) λF s' A' o' h1 J B hA hg=>?_;rw[hf,qw,Nat.zero_add]at hA;simp! [aQ,e_sh,zaz];rw[IC (by simp only[cC];lia)];simp! [aQ,e_sh,zaz];show h A' F s' ∅ (λz hz=>(hg z hz).resolve_left (by simp)) h1 J B
def QL{a s:Int}{v:List Nat}{B:List Wd}(ha:0<=a)(hs:1<=s)(L:s<=2147483629)(hc:0<v.length)(hd:v.length<=26)(hB:0<B.length)(hm:B.length<=1000)(hw:∀w∈B,w≠[]/\w.length<=1000/\∀c∈w,c∈v)
  (h:∀(w:Wd) a' s',w≠[]->w.length<=2000->(∀c∈w,c∈v)->0<=a'->1<=s'->s'<=2147483629->P (.sh (.str w)) [aQ a' s',.sh (.str v),.lst ((B.map D.str).map .sh)]):eh [aQ a s,.sh (.str v),.lst ((B.map D.str).map .sh)] P PX:=by
 show AN rfl rfl ?_;simp! [aQ,e_sh,zaz,length_map];show AM ha hs L ∅ ∅ λr a1 s1 hr h8 e4 h6 h1=>?_;let#[w,h4,_,e]:=Et (f:=λz=>S.sh (D.str z)) (l:=B) hr h8;let e':atI ((B.map D.str).map S.sh) r=⇑(S.sh (.str w)):=by rw[qF];show e
 let#[M,hp,G]:=hw w h4;let hk:0<w.length:=qQ.mpr M;simp! [aQ,e'];show AM e4 h6 h1 ⋯ ⋯ λkd a2 s2 hl hb e3 L Y=>?_;simp! [aQ];show AM e3 L Y ∅ ∅ λr3 a3 s3 h7 h2 e2 h5 O=>?_;let#[c,h3,_,ec]:=Dl (l:=v) h7 h2;simp! [aQ,ec];show AM e2 h5 O ∅ ∅ λp a4 s4 h9 hi J I i=>?_;simp! [aQ];rw[Jh w ∅ ∅,ES w h9];let e1:kd=0\/kd=1\/kd=2\/kd=3\/kd=4:=∅
 rcases e1 with rfl|rfl|rfl|rfl|rfl
 .simp! [aQ];refine h _ _ _ ?_ ?_ (λc hc=>G c (List.mem_of_mem_take hc)) J I i
  .intro z;let:=congrArg List.length z;rw[qI,qw]at this;lia
  .rw[qI];lia
 .simp! [aQ];refine h _ _ _ ?_ ?_ (λc hc=>G c (List.mem_of_mem_drop hc)) J I i
  .intro z;let:=congrArg List.length z;rw[qH,qw]at this;lia
  .rw[qH];lia
 .simp! [aQ];show h _ _ _ (by simp) (by simp;lia -verbose) (λx F=>?_) J I i;rcases qB.mp F with rfl|F
  .show h3
  .show G x F
 .simp! [aQ];show h _ _ _ (by simp) (by simp;lia -verbose) (λx F=>?_) J I i;rcases qy.mp F with F|F
  .show G x F
  .rw[qv.mp F];show h3
 .simp! [aQ];show h _ _ _ (by simp[M]) (by simp;lia -verbose) (λx F=>?_) J I i;rcases qy.mp F with F|F<;>show G x F
def gF(v:List Nat)(many i:Nat)(B:List Wd):Prop:=B.length<=many/\B.Nodup/\∀w∈B,w≠[]/\w.length<=i/\∀c∈w,c∈v
def zK(B:List Wd):D:=.tup (B.map D.str)
def SX{a s many i:Int}{F:List Nat}(O:0<=a)(M:1<=s)(G:s<=2147483629)(Y:0<F.length)(e2:F.length<=26)(hm:0<=many)(hm2:many<=500)(ho:1<=i)(ho2:i<=500)
  (h:∀(B:List Wd) a' s',gF F many.toNat i.toNat B->0<=a'->1<=s'->s'<=2147483629->P (.sh (zK B)) [aQ a' s',.sh (.str F),.sh (.int many),.sh (.int i)]):dz [aQ a s,.sh (.str F),.sh (.int many),.sh (.int i)] P PX:=by
 show AN rfl rfl ?_;simp! [aQ];show AM O M G ∅ ∅ λr a1 s1 hr hr2 ha1 hd h8=>?_;let r1:↥(F=[])=false:=by simp;intro z;rw[z]at Y;simp at Y
 simp! [aQ,r1,if_true,mul_one];show#[by simp only[cC];lia,?_];show UT (λk U=>∃(a s:Int)(B:List Wd)(o5 o6:Option S),0<=a/\1<=s/\s<=2147483629/\gF F k i.toNat B/\U=[⇑(aQ a s),⇑(.sh (.str F)),⇑(.sh (.int many)),⇑(.sh (.int i)),⇑(.lst ((B.map D.str).map .sh)),o5,o6]) _ (λk x hk D2 U hI e1 hct hrt hbk=>?_) (λU hI=>?_) #[a1,s1,[],none,none,ha1,hd,h8,#[by simp,by simp,by simp],rfl]
 .obtain⟨a,s,B,o5,o6,O,M,G,hB,rfl⟩:=hI;let k1:=(qh.mp hk).1;rw[EM]at k1;let#[hB1,hp,I]:=hB;simp! [aQ,sQ];show AM O M G ∅ ∅ λr3 a2 s2 hq h9 ha2 G h7=>?_;let#[c,k2,_,ec]:=Dl (l:=F) hq h9;simp! [aQ,ec];refine KJ ha2 G h7 ∅ ∅ Y e2 λw a3 s3 hw1 hi e4 h5 L=>?_
  --what is done with a word
  have put:∀(w:Wd)(a s:Int),0<=a->1<=s->s<=2147483629->w≠[]->w.length<=i.toNat->(∀c∈w,c∈F)->
    (dU (aM bU (zv 6) (zv 4)) (wExpr (bM 4 (zv 6))) aS) D2 [⇑(aQ a s),⇑(.sh (.str F)),⇑(.sh (.int many)),⇑(.sh (.int i)),⇑(.lst ((B.map D.str).map .sh)),⇑(.sh x),⇑(.sh (.str w))]:=λw a s O M G h1 h2 h3=>by
   simp! [aQ,zaz,Qj];cases q:↥(w∈B)
   .simp! [length_map];rw[show((B.map D.str).map S.sh)++[S.sh (.str w)]=((B++[w]).map D.str).map S.sh by simp];refine#[by simp only[cC];lia,e1 _ #[a,s,_,_,_,O,M,G,#[by simp only[qr,qC];lia,?_,λx hx=>?_],rfl]]
    .show qx.mpr #[hp,by simp,λx hx y hy e=>?_];rw[qv.mp hy]at e;subst e;let:=of_decide_eq_false q;show this hx
    .rcases qy.mp hx with z|z
     .show I x z
     .rw[qv.mp z];show#[h1,h2,h3]
   .simp! [e_C];show e1 _ #[a,s,B,_,_,O,M,G,#[∅,hp,I],rfl]
  have v:([c]++w)≠[]/\([c]++w).length<=i.toNat/\∀x∈[c]++w,x∈F:=by
   show#[by simp,by simp;lia,λx hx=>?_];rcases qy.mp hx with z|z
   .rw[qv.mp z];show k2
   .show hi x z
  simp! [aQ,zaz,QW,length_cons,length_nil];cases q:↥(B=[])
  .simp! [aQ];show AM e4 h5 L ⋯ ⋯ λr4 a4 s4 hr4 hr42 e3 h4 J=>?_;simp! [aQ];cases q2:↥(r4=0)
   .simp! [e_C];let:=put _ a4 s4 e3 h4 J v.1 v.2.1 v.2.2;simp! [aQ]at this;show this
   .simp! [aQ];show QL e3 h4 J Y e2 (qQ.mpr (of_decide_eq_false q)) ∅ (λw hw=>#[(I w hw).1,by let:=(I w hw).2.1;lia,(I w hw).2.2]) λw2 a5 s5 hn hl r2 k3 hb h6=>?_;simp! [aQ];let hw2l:0<w2.length:=qQ.mpr hn;let:=put (aL w2 none ⇑i) a5 s5 k3 hb h6 (λz=>?_) ?_ λc Y=>r2 c (CW Y)
    .simp! [aQ]at this;show this
    .let z2:=congrArg List.length z;unfold aL sIx at z2;let:¬i<0:=by lia
     simp only[q9 this,drop_zero,Nat.sub_zero,qI,qw]at z2;lia
    .unfold aL sIx;let:¬i<0:=by lia
     simp only[q9 this,drop_zero,Nat.sub_zero,qI];lia
  .simp! [e_C];let:=put _ a3 s3 e4 h5 L v.1 v.2.1 v.2.2;simp! [aQ]at this;show this
 .obtain⟨a,s,B,o5,o6,O,M,G,hB,rfl⟩:=hI;rw[EM]at hB;simp! [aQ,zaz];show h B a s #[by let:=hB.1;lia,hB.2] O M G
abbrev Mv:=Wd×Int
def fO(m:Mv):D:=.tup [.str m.1,.int m.2]
def Ob(l:List Mv):aW (l.map fO)<=29:=Jc _ λd i=>by let#[m,_,rfl]:=qL.mp i;show 1<=29;decide
def Md{l:List Mv}:gX (.lst (l.map fO)) (.lst [])=⇑(!l.isEmpty):=by rw[Oq (Ob l),List.isEmpty_map]
def TJ{B:List Wd}{t:Wd}{p i:Int}(hB:B.length<=1000)(ht:t.length<=1000)(hp:0<=p)(h5:p<=i)
  (h:∀ms:List Mv,ms.length<=2000->(∀m∈ms,m.1∈B/\0<=m.2/\m.2<=i/\(m.2=p+m.1.length\/m.2<=p))->P (.lst ((ms.map fO).map .sh)) [.sh (zK B),.sh (.str t),.sh (.int p),.sh (.int i)]):sO [.sh (zK B),.sh (.str t),.sh (.int p),.sh (.int i)] P PX:=by
 show AN rfl rfl ?_;simp! [zK];show Bk (λF U=>∃(ms:List Mv)(o:Option S),ms.length<=2*F.length/\(∀m∈ms,m.1∈B/\0<=m.2/\m.2<=i/\(m.2=p+m.1.length\/m.2<=p))/\U=[⇑(.sh (zK B)),⇑(.sh (.str t)),⇑(.sh (.int p)),⇑(.sh (.int i)),⇑(.lst ((ms.map fO).map .sh)),o]) B (λF w h1 D2 U e hI O h6 h4 h7=>?_) (λU hI=>?_) #[[],none,by simp,by simp,rfl]
 .obtain⟨ms,o,hl,L,rfl⟩:=hI;let h2:F.length+1<=B.length:=by rw[<-e];simp only[qr,qu];lia
  let M:w∈B:=by rw[<-e];simp
  have snd:∀ms:List Mv,ms.length<=2*F.length+1->(∀m∈ms,m.1∈B/\0<=m.2/\m.2<=i/\(m.2=p+m.1.length\/m.2<=p))->
    (dU (dE (aM xK (zv 2) (wB aR (zw (zv 5) zx))) (aM eS (fJ (zv 1) ⇑(zL eV (zv 2) (wB aR (zw (zv 5) zx))) ⇑(zv 2)) (zv 5))) (wExpr (bM 4 (bK (zw (zv 5) (zw (zL eV (zv 2) (wB aR (zw (zv 5) zx))) zx))))) aS) D2 [⇑(.sh (zK B)),⇑(.sh (.str t)),⇑(.sh (.int p)),⇑(.sh (.int i)),⇑(.lst ((ms.map fO).map .sh)),⇑(.sh (.str w))]:=λms hl L=>by
   let G:D2.nx [⇑(.sh (zK B)),⇑(.sh (.str t)),⇑(.sh (.int p)),⇑(.sh (.int i)),⇑(.lst ((ms.map fO).map .sh)),⇑(.sh (.str w))]:=O _ #[ms,_,by simp only[qr,qC];lia,L,rfl];simp! [zK];cases q1:↥((w.length:Int)<=p)
   .simp! [e_C];show G
   let h3:=qV q1;simp! [zK];cases q2:↥(aL t ⇑(p-(w.length:Int)) ⇑p=w)
   .simp! [e_C];show G
   simp! [length_map];rw[show((ms.map fO).map S.sh)++[S.sh (.tup [.str w,.int (p-w.length)])]=((ms++[(w,p-w.length)]).map fO).map S.sh by simp[fO]];show#[by simp only[cC];lia,O _ #[_,_,by simp only[qr,qC];lia,λm J=>?_,rfl]];rcases qy.mp J with z|z
   .show L m z
   .rw[qv.mp z];show#[M,by show 0<=p-w.length;lia,by show p-(w.length:Int)<=i;lia,.inr (by show p-(w.length:Int)<=p;lia)]
  simp! [oU,zK];let v:=snd ms ∅ L;simp! [zK]at v;cases q1:↥(aL t ⇑p ⇑(p+(w.length:Int))=aL w none ⇑((t.length:Int)-p))
  .simp! [e_C];show v
  simp! [e_C];cases q2:↥(p+(w.length:Int)<=i)
  .simp! [e_C];show v
  have Y:=qV q2;simp! [length_map];rw[show((ms.map fO).map S.sh)++[S.sh (.tup [.str w,.int (p+w.length)])]=((ms++[(w,p+w.length)]).map fO).map S.sh by simp[fO]];show#[by simp only[cC];lia,?_];let I:=snd (ms++[(w,p+w.length)]) (by simp only[qr,qC];lia) λm J=>by
   rcases qy.mp J with z|z
   .show L m z
   .rw[qv.mp z];show#[M,by show 0<=p+(w.length:Int);lia,Y,.inl rfl]
  simp! [zK]at I;show I
 .obtain⟨ms,o,hl,L,rfl⟩:=hI;simp! [zK];show h ms ∅ L
def Ee{t w:Wd}{p g:Int}(v:0<=p)(i:p<=t.length)(B:g=p+w.length):((aL t none ⇑p++w)++aL t ⇑g none).length=max g.toNat t.length:=by let#[k,rfl]:=Int.eq_ofNat_of_zero_le v;let F:k<=t.length:=ofNat_le.mp i;rw[<-Int.natCast_add]at B;subst B;rw[Jh t v i,ES t (natCast_nonneg _)];simp only[qr,qI,qH,qX];rw[min_eq_left F,Nat.add_comm,Nat.sub_add_eq_max,max_comm]
def QC{a s i:Int}{F:List Nat}{B:List Wd}(ha:0<=a)(hs:1<=s)(I:s<=2147483629)(hc:0<F.length)(hc2:F.length<=26)(hm:0<=i)(hm2:i<=500)(hB:B.length<=1000)(hw:∀w∈B,w.length<=1000/\∀c∈w,c∈F)
  (h:∀(t:Wd) a' s',t.length<=i.toNat->(∀c∈t,c∈F)->0<=a'->1<=s'->s'<=2147483629->P (.sh (.str t)) [aQ a' s',.sh (zK B),.sh (.str F),.sh (.int i)]):sN [aQ a s,.sh (zK B),.sh (.str F),.sh (.int i)] P PX:=by
 show AN rfl rfl ?_;simp! [aQ,length_cons,length_nil];show AM ha hs I ⋯ ⋯ λr a1 s1 hr h1 L J v=>?_;simp! [aQ];show#[by simp only[cC];lia,?_];show Bk (toD:=λk:Nat=>D.int (0+(k:Int))) (λe2 U=>∃(a s:Int)(t:Wd)(p:Int)(o6 o7 o8 o9 M:Option S),0<=a/\1<=s/\s<=2147483629/\t.length<=i.toNat/\(∀c∈t,c∈F)/\0<=p/\p<=t.length/\U=[⇑(aQ a s),⇑(.sh (zK B)),⇑(.sh (.str F)),⇑(.sh (.int i)),⇑(.sh (.str t)),⇑(.sh (.int p)),o6,o7,o8,o9,M]) (List.range _) (λe2 k r2 D2 U e hI h3 hct hrt hbk=>?_) (λU hI=>?_) #[a1,s1,[],0,none,none,none,none,none,L,J,v,by simp,by simp,⋯,by simp,rfl]
 .obtain⟨a,s,t,p,o6,o7,o8,o9,M,ha,hs,I,ht,G,hp,h2,rfl⟩:=hI;simp! [aQ,oT];refine TJ hB ∅ hp ∅ λms h4 hm=>?_
  --the choice among some moves
  have Y:∀ms:List Mv,ms.length<=2000->(∀m∈ms,m.1∈B/\0<=m.2/\m.2<=i/\(m.2=p+m.1.length\/m.2<=p))->
    (dU (aM gX (zv 7) (cS zx)) (zM (zO (bP [zy 8,zy 9]) (dB (zv 7) (zN fG [true,true] (zw (zv 0) (zw (wB aR (zw (zv 7) zx)) zx)))))
  (zM (dU (aM nV (zv 9) (zv 5)) (zO (zy 4) (zL aN (zL aN (fJ (zv 4) none ⇑(zv 5)) (zv 8)) (fJ (zv 4) ⇑(zv 9) none))) aS)
  (zO (zy 5) (zv 9)))) aS) D2 [⇑(aQ a s),⇑(.sh (zK B)),⇑(.sh (.str F)),⇑(.sh (.int i)),⇑(.sh (.str t)),⇑(.sh (.int p)),⇑(.sh (.int (0+(k:Int)))),⇑(.sh (.lst (ms.map fO))),o8,o9,M]:=λms h4 hm=>by
   simp! [aQ,Md];cases q:ms.isEmpty
   .simp! [aQ,length_map];let h8:0<ms.length:=by
     cases ms with
     |nil=>cases q
     |cons _ _=>simp
    show AM ha hs I ∅ ∅ λr a1 s1 hr h1 L J v=>?_;let#[m,O,_,em]:=Et (f:=fO) hr h1;let#[hi,e1,hg1,hg2]:=hm m O;let#[k3,e4]:=hw m.1 hi;simp! [aQ,em,fO,length_cons,length_nil];cases q2:↥(p<m.2)
    .simp! [e_C];let:=of_decide_eq_false q2;show h3 _ #[a1,s1,t,m.2,_,_,_,_,_,L,J,v,ht,G,e1,∅,rfl]
    .have k1:=qV q2;let hb:m.2=p+m.1.length:=by lia
     let h9:=Ee hp h2 hb;let l1:(aL t none ⇑p).length<=1000:=le_trans (CV _ _ _) ∅;let l2:(aL t ⇑m.2 none).length<=1000:=le_trans (CV _ _ _) ∅;simp! [length_append];show h3 _ #[a1,s1,(aL t none ⇑p++m.1)++aL t ⇑m.2 none,m.2,_,_,_,_,_,L,J,v,by rw[h9];lia,λc hc=>?_,e1,by rw[h9];lia,rfl];rcases qy.mp hc with z|z
     .rcases qy.mp z with z|z
      .show G c (CW z)
      .show e4 c z
     .show G c (CW z)
   .simp! [e_C];show h3 _ #[a,s,t,p,_,_,_,_,_,ha,hs,I,ht,G,hp,h2,rfl]
  simp! [aQ,zaz];cases q:↥((4:Int)<0+(k:Int))
  .simp! [e_C];let:=Y ms h4 hm;simp! [aQ]at this;show this
  .simp! [e_C];refine LI (n:=11) (toD:=fO) ms (λm=>if ↥(p<m.2)=true then ⇑(.sh (fO m))else none) (λm O l o K hl hK=>?_) λo=>?_
   .cases q3:↥(p<m.2)
    .simp! [eI,dv,jT,fO,q3];rw[q3]at hK;let:=hK ⇑(.sh (fO m));rw[q9 ⋯,toList_none,qA]at this;show this
    .simp! [eI,lG,jT,fO,q3];rw[q3]at hK;show#[by simp only[cC];lia,hK _]
   .rw[Fo (λm:Mv=>↥(p<m.2)) (λm=>S.sh (fO m)),show((ms.filter λm:Mv=>↥(p<m.2)).map λm=>S.sh (fO m))=((ms.filter λm:Mv=>↥(p<m.2)).map fO).map S.sh by rw[qF];rfl];simp! [zaz];let:=Y (ms.filter λm:Mv=>↥(p<m.2)) (le_trans (List.length_filter_le _ _) h4) λm O=>hm m (mem_filter.mp O).1;simp! [aQ]at this;show this
 .obtain⟨a,s,t,p,o6,o7,o8,o9,M,ha,hs,I,ht,G,hp,h2,rfl⟩:=hI;simp! [aQ];cases q:↥(t=[])
  .have h8:0<t.length:=qQ.mpr (of_decide_eq_false q);simp! [aQ];show AM ha hs I ⋯ ⋯ λr a1 s1 hr h1 L J v=>?_;simp! [aQ];cases q2:↥(r=0)
   .simp! [e_C];show h t a1 s1 ht G L J v
   .simp! [aQ];show AM L J v ∅ ∅ λx a2 s2 e3 k2 r1 I h6=>?_;simp! [aQ];show AM r1 I h6 ∅ ∅ λr3 a3 s3 hx h7 hq hk h5=>?_;let#[c,hd,_,ec]:=Dl (l:=F) hx h7;let l1:(aL t none ⇑x).length<=1000:=le_trans (CV _ _ _) ∅;let l2:(aL t ⇑(x+1) none).length<=1000:=le_trans (CV _ _ _) ∅;let l3:=Ee (t:=t) (w:=[c]) (p:=x) (g:=x+1) e3 ∅ (by simp);simp! [aQ,ec,length_append,length_cons,length_nil];show h _ a3 s3 (by rw[l3];lia) (λy hy=>?_) hq hk h5;rcases qy.mp hy with z|z
    .rcases qy.mp z with z|z
     .show G y (CW z)
     .rw[qv.mp z];show hd
    .show G y (CW z)
  .simp! [e_C];show h t a s ht G ha hs I
structure rO(B:List Wd)(w:Wd):Prop where
 nd:B.Nodup
 ne:∀x∈B,x≠[]
 le:∀x∈B,x.length<=1000
 six:B.length<=6
 tw:w.length<=12
def UG{B:List Wd}{w:Wd}(v:rO B w)
  (h:P (.lst (((dN B w).map kW).map .sh)) [.sh (zK B),.sh (.str w)]):fg [.sh (zK B),.sh (.str w)] P PX:=by
 let M:=v.tw;let h6:=v.six;let G:((List.range w.length).flatMap (dZ B w)).length<64:=by rw[<-(Ky v.nd v.ne).length_eq];show Gn v.nd v.ne h6 M
 let O:(List.range w.length).flatMap (λi=>(dZ B w i).map λt=>S.sh (kW t))=(((List.range w.length).flatMap (dZ B w)).map kW).map S.sh:=by simp[List.map_flatMap,Function.comp_def]
 show AN rfl rfl ?_;simp! [e_C];show#[by simp only[cC];lia,?_];rw[AL rfl];show bf (n:=2) (k:=3) (List.range w.length) (λi=>(dZ B w i).map λt=>S.sh (kW t)) (λi hi l vs K J hl hK=>?_) (λvs J=>?_)
 .obtain⟨a,b,c,rfl⟩:=Cc J;rw[O,qp,qp,qp]at hl;simp! [eI,lG,tB,zK,RZ];refine UU (λl o o'=>[⇑(.sh (zK B)),⇑(.sh (.str w)),⇑(.lst l),⇑(.sh (.int (i:Int))),o,o']) (List.range B.length) (λk=>if ↥(eF w i (i+((B[k]?).getD []).length)=(B[k]?).getD [])=true then ⇑(S.sh (kW (i,i+((B[k]?).getD []).length,k)))else none) (λk hk l2 o o' K2 F I=>?_) λo o'=>?_
  .let L:(List.range B.length).filterMap (λk=>if ↥(eF w i (i+((B[k]?).getD []).length)=(B[k]?).getD [])=true then ⇑(S.sh (kW (i,i+((B[k]?).getD []).length,k)))else none)=(dZ B w i).map λt=>S.sh (kW t):=by unfold dZ;rw[List.map_filterMap];show Gm λx _=>?_;split<;>rfl
   rw[L,qp]at F;let Y:aL w ⇑(i:Int) ⇑((i:Int)+((((B[k]?).getD []).length:Nat):Int))=eF w i (i+((B[k]?).getD []).length):=by rw[<-Int.natCast_add];show FX w _ _
   cases q:↥(eF w i (i+((B[k]?).getD []).length)=(B[k]?).getD [])
   .simp! [eI,zK,length_cons,length_nil,Y,q,dv];let:=I ⇑(.sh (.int (k:Int))) ⇑(.sh (.str ((B[k]?).getD [])));rw[q,q9 ⋯,toList_none,qA]at this;show this
   .simp! [eI,zK,length_cons,length_nil,Y,q,lG,tD];let:=I ⇑(.sh (.int (k:Int))) ⇑(.sh (.str ((B[k]?).getD [])));rw[q,q8 rfl,Option.toList_some]at this F;simp only[qC]at F;show#[by simp only[cC];lia,?_];rw[kq,Int.natCast_add]at this;show this
  .let L:(List.range B.length).filterMap (λk=>if ↥(eF w i (i+((B[k]?).getD []).length)=(B[k]?).getD [])=true then ⇑(S.sh (kW (i,i+((B[k]?).getD []).length,k)))else none)=(dZ B w i).map λt=>S.sh (kW t):=by unfold dZ;rw[List.map_filterMap];show Gm λx _=>?_;split<;>rfl
   rw[L];show hK _ rfl
 .obtain⟨a,b,c,rfl⟩:=Cc J;rw[O];simp! [zaz,QP (Ky v.nd v.ne) G];show h
def TN{B:List Wd}{b:D}{w:Wd}(hb:∀z,eM (.str z) b=⇑↥(z∈B))(h5:w.length<=60)
  (h:P (.lst ((bE B w).map .sh)) [.sh b,.sh (.str w)]):oB [.sh b,.sh (.str w)] P PX:=by
 show AN rfl rfl ?_;simp! [e_C];show#[by simp only[cC];lia,?_];rw[AL (n:=w.length+1) ∅];show Fi (n:=5) (List.range (w.length+1)) (λ_=>S.lst []) (λp hp l o K hl hK=>?_) λo=>?_
 .rw[qE]at hl;simp! [eI,lG,oQ];show#[by simp only[cC];lia,hK _]
 rw[show((List.range (w.length+1)).map λ_=>S.lst [])=kM w.length λ_=>[] from rfl];simp! [e_C];show#[by simp only[cC];lia,?_];rw[AL (n:=w.length) rfl];show Bk (λv U=>∃(f:Nat->List Nat)(O I:Option S),cX B w v.length (v.length+1) f/\U=[⇑(.sh b),⇑(.sh (.str w)),⇑(.lst (kM w.length f)),O,I]) (List.range w.length) (λv i h6 D2 U e L Y e4 e1 hk=>?_) (λU L=>?_) #[λ_=>[],none,none,Tv,rfl]
 .obtain⟨f,O,I,G,rfl⟩:=L;let hi:v.length=i/\i<w.length:=Fc e;let#[rfl,hi]:=hi;simp! [oR];show#[by simp only[cC];lia,?_];rw[Ec (a:=v.length+1) (n:=w.length+1) ∅ ∅];refine Bk (λF U=>∃(f:Nat->List Nat)(I:Option S),cX B w v.length (v.length+1+F.length) f/\U=[⇑(.sh b),⇑(.sh (.str w)),⇑(.lst (kM w.length f)),⇑(.sh (zP v.length)),I]) (List.range' (v.length+1) (w.length+1-(v.length+1))) (λF j M D3 U e2 L J h8 h7 h9=>?_) (λU L=>?_) #[f,I,↑G,rfl]
  .obtain⟨f,I,G,rfl⟩:=L;let hj:j=v.length+1+F.length/\j<=w.length:=by let:=Tj e2;lia
   let#[h4,h3]:=hj;rw[<-h4]at G;let ht:↥(eF w v.length j∈B)=dY B w v.length j:=by unfold dY;rw[qS (show v.length<j by lia),qS h3];rfl
   simp! [oS,zP,FX,hb];rw[ht];cases q:dY B w v.length j
   .simp! [e_C];show J _ #[f,_,?_,rfl];rw[qr,qC,show v.length+1+(F.length+1)=j+1 by lia];show Ot ∅ G q
   .simp! [e_C];rw[Ju ∅ (show(kM w.length f)[((v.length:Nat):Int).toNat]?=_ by rw[qX];show Jk ∅)];simp! [length_map];let h2:=JU G v.length;show#[by simp only[cC];lia,?_];rw[qX,show(((f v.length).map λq=>S.sh (zP q))++[S.sh (D.int (j:Int))])=(((f v.length).map λq=>S.sh (zP q))++[S.sh (zP j)]) from rfl,IY ∅];rw[Ju ∅ (show(kM w.length (cW f v.length j))[((j:Nat):Int).toNat]?=_ by rw[qX];show Jk ∅)];simp! [length_map];let h1:=JU G j;let e3:cW f v.length j j=f j:=by unfold cW;rw[q9 ∅]
    show#[by rw[e3];simp only[cC];lia,?_];rw[qX,show(((cW f v.length j j).map λq=>S.sh (zP q))++[S.sh (D.int (v.length:Int))])=(((cW f v.length j j).map λq=>S.sh (zP q))++[S.sh (zP v.length)]) from rfl,IY ∅];show J _ #[_,_,?_,rfl];rw[qr,qC,show v.length+1+(F.length+1)=j+1 by lia];show Qu ∅ G q
  .obtain⟨f,I,G,rfl⟩:=L;rw[List.length_range',show v.length+1+(w.length+1-(v.length+1))=w.length+1 by lia]at G;show Y _ #[f,_,_,?_,rfl];rw[qr,qC];show QZ (zb _) G
 .obtain⟨f,O,I,G,rfl⟩:=L;rw[qE]at G;simp! [e_C];rw[show(kM w.length f).map S.toD=(List.range (w.length+1)).map λp=>D.lst ((f p).map zP) by unfold kM;rw[qF];show map_congr_left λp _=>?_;simp[Function.comp_def]]
  show Fi (n:=5) (List.range (w.length+1)) (λp=>.sh (.lst ((nb B w p).map zP))) (λp hp l o K hl hK=>?_) λo=>?_
  .rw[qE]at hl;simp! [eI,lG,oP,NV (Sb (le_refl _) G) h5,zaz];show#[by simp only[cC];lia,hK _]
  .rw[show((List.range (w.length+1)).map λp=>S.sh (.lst ((nb B w p).map zP)))=(bE B w).map S.sh by unfold bE;rw[qF];rfl];simp! [e_C];show h
def Sv{B:List Wd}{w:Wd}(i:w.length<=60)
  (h:P (.lst ((bE B w).map .sh)) [.sh (zK B),.sh (.str w)]):oB [.sh (zK B),.sh (.str w)] P PX:=TN (λ_=>PP) i h
def ak:Nat->D->Bool
 |0,_=>false
 |n+1,.tup l=>↥(l.length<=1000)&&l.all (ak n)
 |_+1,.str _=>true
 |_+1,.int _=>true
 |_+1,_=>false
def EF:∀l:List D,bJ l l=l.map λx=>D.tup [x,x]
 |[]=>rfl
 |x::l=>by show D.tup [x,x]::bJ l l=_;rw[EF l];rfl
def Tp{n:Nat}{d:D}(h:ak n d=true)(k:P (.sh (.bl true)) [.sh d,.sh d]):oC dw n [.sh d,.sh d] P PX:=by
 induction n generalizing d P PX with
 |zero=>cases h
 |succ n i=>
  cases d with
  |tup l=>
   let h':(↥(l.length<=1000)&&l.all (ak n))=true:=h;rw[and_eq_true,decide_eq_true_iff,qJ]at h';show AN rfl rfl ?_;simp! [show eD "tuple" (D.tup l)=true from rfl,decide_true];rw[EF];show LG (n:=2) l (λ_=>.sh (.bl true)) (λx v m o o' K F B=>?_) λo o'=>?_
   .simp! [eI,lG,oN,length_cons,length_nil];show i (h'.2 x v) ?_;simp! [e_C];show#[by simp only[cC];lia,B _ _]
   .rw[show(l.map λ_=>S.sh (.bl true))=((l.map λ_=>true).map D.bl).map S.sh by simp[Function.comp_def]];simp! [zaz,Mn];rw[all_map,show(l.all (id∘λ_=>true))=true by simp];show k
  |str x=>show AN rfl rfl ?_;simp! [show eD "tuple" (D.str x)=false from rfl,show eD "str" (D.str x)=true from rfl,decide_true];show k
  |int x=>show AN rfl rfl ?_;simp! [show eD "tuple" (D.int x)=false from rfl,show eD "str" (D.int x)=false from rfl,show eD "int" (D.int x)=true from rfl,show eD "bool" (D.int x)=false from rfl,decide_true];show k
  |_=>cases h
structure Sc where
 col:List Nat
 B:List Wd
 w:Wd
 pr:List Int
def kv(c:Sc):D:=.tup [.str c.col,zK c.B,.str c.w,.tup (c.pr.map D.int)]
def nj(c:Sc):Prop:=gF c.col 6 6 c.B/\c.w.length<=12/\c.pr.length=c.B.length/\∀z∈c.pr,0<=z
def gF.fit{v:List Nat}{B:List Wd}{w:Wd}(h:gF v 6 6 B)(F:w.length<=12):rO B w:=#[h.2.1,λx i=>(h.2.2 x i).1,λx i=>by let:=(h.2.2 x i).2.1;lia,h.1,F]
def To{a s:Int}(ha:0<=a)(hs:1<=s)(i:s<=2147483629)
  (h:∀(c:Sc) a' s',nj c->0<=a'->1<=s'->s'<=2147483629->P (.sh (kv c)) [aQ a' s',.sh (.int 100)]):sM [aQ a s,.sh (.int 100)] P PX:=by
 refine AN rfl rfl ?_;simp! [aQ];show AM ha hs i ⋯ ⋯ λr a1 s1 hr hr2 hd e3 h3=>?_;simp! [aQ];show Uz hd e3 h3 ∅ ∅ λG a2 s2 r3 k3 hle hl i h2=>?_;simp! [aQ];show SX hl i h2 ∅ ∅ ⋯ ⋯ ⋯ ⋯ λB a3 s3 hB hc e2 h1=>?_;let F:gF G 6 6 B:=hB;simp! [aQ];show QC hc e2 h1 ∅ ∅ ⋯ ⋯ (by let:=F.1;lia) (λw hw=>#[by let:=(F.2.2 w hw).2.1;lia,(F.2.2 w hw).2.2]) λt a4 s4 ht k2 hi e1 Y=>?_;let h8:t.length<=12:=ht;simp! [aQ];show AM hi e1 Y ⋯ ⋯ λr5 a5 s5 hr5 r2 h4 M I=>?_;let h5:∀(w:Wd)(b t:Int),0<=b->1<=t->t<=2147483629->w.length<=12->
   (zM (zO (zy 5) (dB (cS (zw (wC (.int 2)) (zw (wC (.int 4)) (zw (zv 1) zx)))) (zN fG [true,true] (zw (zv 0) (zw (wC (.int 3)) zx)))))
  (bL (bK (zw (zv 2) (zw (zv 3) (zw (zv 4) (zw (wB dQ (zw (iB 6 1 (cQ (zv 3)) (zy 7) dJ gL) zx)) zx)))))))
   (jy 2 [.lst [.sh (.int a),.sh (.int s)],.sh (.int 100)] P PX) [⇑(.lst [.sh (.int b),.sh (.int t)]),⇑(.sh (.int 100)),⇑(.sh (.str G)),⇑(.sh (zK B)),⇑(.sh (.str w)),none]:=λw b t hb ht h7 hw=>by
  simp! [aQ];show AM hb ht h7 ⋯ ⋯ λr6 a6 s6 hr6 r1 L J v=>?_;let hq:∃q:Int,0<q/\q<=100/\atI [S.sh (D.int 2),S.sh (D.int 4),S.sh (D.int 100)] r6=⇑(S.sh (D.int q)):=by
   let:r6=0\/r6=1\/r6=2:=∅
   rcases this with rfl|rfl|rfl
   .show#[2,⋯,⋯,zpr]
   .show#[4,⋯,⋯,zog]
   .show#[100,⋯,⋯,zoa]
  let#[q,hk,hq2,eq]:=hq;simp! [aQ,eq,zK];show UV (n:=6) (λz:Int=>S.sh (.int z)) _ (λU=>∃a s,0<=a/\1<=s/\s<=2147483629/\U=[⇑(aQ a s),⇑(.sh (.int 100)),⇑(.sh (.str G)),⇑(.sh (zK B)),⇑(.sh (.str w)),⇑(.sh (.int q))]) (λz=>0<=z) (λx hx U A o K hI hA hK=>?_) (λU A o hI hA hP=>?_) #[a6,s6,L,J,v,rfl]
  .obtain⟨a,s,ha,hs,i,rfl⟩:=hI;let:=F.1;rw[qp]at hA;simp! [eI,lG,oO,aQ];show AM ha hs i hk ∅ λr7 a7 s7 e4 hm hp h9 O=>?_;simp! [length_map];show#[by simp only[cC];lia,hK _ _ _ #[a7,s7,hp,h9,O,rfl] e4]
  .obtain⟨a,s,ha,hs,i,rfl⟩:=hI;rw[show(A.map λz:Int=>S.sh (.int z))=(A.map D.int).map S.sh by rw[qF];rfl];simp! [aQ,zaz];show h #[G,B,w,A] a s #[F,hw,by rw[hA,qp],hP] ha hs i
 simp! [aQ];cases q:↥(r5=0)
 .simp! [e_C];let:=h5 t a5 s5 h4 M I h8;simp! [e_C]at this;show this
 .simp! [aQ];show KJ h4 M I ⋯ ⋯ ∅ ∅ λw a6 s6 h6 k1 L J v=>?_;simp! [aQ];let:=h5 w a6 s6 L J v h6;simp! [e_C]at this;show this
section
variable{κ α:Type}[DecidableEq κ]
def aA:List (κ×α)->κ->Option α
 |[],_=>none
 |e::r,k=>if e.1=k then ⇑e.2 else aA r k
def aY:List (κ×α)->κ->α->List (κ×α)
 |[],k,v=>[(k,v)]
 |e::r,k,v=>if e.1=k then(k,v)::r else e::aY r k v
def eW:List (κ×α)->κ->List (κ×α)
 |[],_=>[]
 |e::r,k=>if e.1=k then r else e::eW r k
def AJ{k j:κ}{v:α}:∀{L:List (κ×α)},aA (aY L k v) j=if k=j then ⇑v else aA L j
 |[]=>rfl
 |e::r=>by
  let i:=AJ (k:=k) (j:=j) (v:=v) (L:=r);unfold aY;by_cases h:e.1=k
  .rw[q8 h];show(if k=j then ⇑v else aA r j)=if k=j then ⇑v else if e.1=j then ⇑e.2 else aA r j
   by_cases h2:k=j
   .rw[q8 h2,q8 h2]
   .rw[q9 h2,q9 h2,q9 (by rw[h];show h2)]
  .rw[q9 h];show(if e.1=j then ⇑e.2 else aA (aY r k v) j)=if k=j then ⇑v else if e.1=j then ⇑e.2 else aA r j
   rw[i];by_cases h2:k=j
   .rw[q8 h2,q8 h2,q9 (by rw[<-h2];show h)]
   .rw[q9 h2,q9 h2]
def Gd{k:κ}:∀{L:List (κ×α)},aA L k=none↔k∉L.map (·.1)
 |[]=>by simp[aA]
 |e::r=>by
  let i:=Gd (k:=k) (L:=r);unfold aA;by_cases h:e.1=k
  .rw[q8 h];simp[h]
  .rw[q9 h,i];simp[Ne.symm h]
def Cj{k:κ}{v:α}:∀{L:List (κ×α)},aA L k=⇑v->(k,v)∈L
 |e::r,h=>by
  unfold aA at h;by_cases h2:e.1=k
  .rw[q8 h2]at h;cases h;rw[<-h2];show qo
  .rw[q9 h2]at h;show qm _ (Cj h)
def CN{k:κ}{v:α}:∀{L:List (κ×α)},(L.map (·.1)).Nodup->(k,v)∈L->aA L k=⇑v
 |e::r,hn,h=>by
  rw[qz,qM]at hn;unfold aA;rcases qB.mp h with rfl|h
  .rw[q8 rfl]
  .rw[q9 λz=>hn.1 (by rw[z];show qL.mpr #[_,h,rfl])];show CN hn.2 h
def BK{k:κ}{v:α}:∀{L:List (κ×α)},(L.map (·.1)).Nodup->((aY L k v).map (·.1)).Nodup/\(∀j,j∈(aY L k v).map (·.1)↔j=k\/j∈L.map (·.1))/\(aY L k v).length<=L.length+1
 |[],_=>by simp[aY]
 |e::r,hn=>by
  rw[qz,qM]at hn;let#[h1,h2,i]:=BK (k:=k) (v:=v) hn.2;unfold aY;by_cases h:e.1=k
  .rw[q8 h];rw[h]at hn;simp[hn.1,hn.2,h]
  .rw[q9 h];refine#[?_,λj=>?_,↑i]
   .rw[qz,qM];show#[λz=>((h2 _).mp z).elim h hn.1,h1]
   .rw[qz,qB,h2,qz,qB];grind
def HP{k:κ}:∀{L:List (κ×α)},(L.map (·.1)).Nodup->((eW L k).map (·.1)).Nodup/\(∀j,aA (eW L k) j=if k=j then none else aA L j)/\∀j,j∈(eW L k).map (·.1)->j∈L.map (·.1)
 |[],_=>by simp[eW,aA]
 |e::r,hn=>by
  rw[qz,qM]at hn;let#[h1,h2,B]:=HP (k:=k) hn.2;unfold eW;by_cases h:e.1=k
  .rw[q8 h];rw[h]at hn;show#[hn.2,λj=>?_,λj v=>by simp only[qz];show qm _ v];by_cases i:k=j
   .rw[q8 i,Gd,<-i];show hn.1
   .rw[q9 i];show _=if e.1=j then _ else _
    rw[q9 (by rw[h];show i)]
  .rw[q9 h];refine#[?_,λj=>?_,λj v=>?_]
   .rw[qz,qM];show#[λz=>hn.1 (B _ z),h1]
   .show(if e.1=j then ⇑e.2 else aA (eW r k) j)=if k=j then none else if e.1=j then ⇑e.2 else aA r j
    rw[h2];by_cases i:k=j
    .rw[q8 i,q8 i,q9 (by rw[<-i];show h)]
    .rw[q9 i,q9 i]
   .rw[qz,qB]at v⊢;show v.imp id (B j)
def bF(kD:κ->D)(L:List (κ×α)):List D:=L.map λe=>kD e.1
def cI(fD:α->D)(L:List (κ×α)):List D:=L.map λe=>fD e.2
variable{kD:κ->D}{fD:α->D}
def BX{L:List (κ×α)}:(bF kD L).length=L.length:=by unfold bF;rw[qp]
def BM(i:∀a b,kD a=kD b->a=b){L:List (κ×α)}(hn:(L.map (·.1)).Nodup):(bF kD L).Nodup:=by unfold bF;rw[show(L.map λe=>kD e.1)=(L.map (·.1)).map kD by rw[qF];rfl];show pairwise_map.mpr (hn.imp λh z=>h (i _ _ z))
def Fm(i:∀a b,kD a=kD b->a=b){k:κ}:∀{L:List (κ×α)},lk (bF kD L) (cI fD L) (kD k)=(aA L k).map fD
 |[]=>rfl
 |e::r=>by
  show(open Classical in if kD e.1=kD k then ⇑(fD e.2)else lk (bF kD r) (cI fD r) (kD k))=_;unfold aA;by_cases h:e.1=k
  .rw[q8 (by rw[h]),q8 h];rfl
  .rw[q9 λz=>h (i _ _ z),q9 h,Fm i]
def ID(i:∀a b,kD a=kD b->a=b){k:κ}{L:List (κ×α)}:kD k∈bF kD L↔aA L k≠none:=by rw[Ne,Gd,Decidable.not_not];unfold bF;rw[qL,qL];show#[λ⟨e,h1,h2⟩=>#[e,h1,i _ _ h2],λ⟨e,h1,h2⟩=>#[e,h1,by rw[h2]]]
open Classical in
def JR{x k:D}{ks:List D}:hW (x::ks) k=if x=k then some 0 else(hW ks k).map (·+1):=by
 unfold hW;rw[List.findIdx?_cons];by_cases h:x=k
 .rw[q8 h,qS h];rfl
 .rw[q9 h,qT h];rfl
def Cg(F:∀a b,kD a=kD b->a=b){t:Bool}{k:κ}{v:α}:∀{L:List (κ×α)},aV t (bF kD L) ((cI fD L).map .sh) (kD k) (.sh (fD v))=.dct t (bF kD (aY L k v)) ((cI fD (aY L k v)).map .sh)
 |[]=>rfl
 |e::r=>by
  let B:=Cg F (t:=t) (k:=k) (v:=v) (L:=r);unfold aV at B⊢;rw[show bF kD (e::r)=kD e.1::bF kD r from rfl,JR];unfold aY;by_cases h:e.1=k
  .rw[q8 h,q8 (by rw[h])];show S.dct t (kD e.1::bF kD r) _=S.dct t (kD k::bF kD r) _;rw[h];rfl
  .rw[q9 h,q9 λz=>h (F _ _ z)];cases q:hW (bF kD r) (kD k)with
   |none=>rw[q]at B;simp only[S.dct.injEq,true_and]at B;show S.dct t (kD e.1::bF kD r++[kD k]) (S.sh (fD e.2)::(cI fD r).map .sh++[S.sh (fD v)])=S.dct t (kD e.1::bF kD (aY r k v)) (S.sh (fD e.2)::(cI fD (aY r k v)).map .sh);rw[<-B.1,<-B.2];rfl
   |some i=>rw[q]at B;simp only[S.dct.injEq,true_and]at B;show S.dct t (kD e.1::bF kD r) ((S.sh (fD e.2)::(cI fD r).map .sh).set (i+1) (S.sh (fD v)))=S.dct t (kD e.1::bF kD (aY r k v)) (S.sh (fD e.2)::(cI fD (aY r k v)).map .sh);rw[<-B.1,<-B.2];rfl
def Iu(i:∀a b,kD a=kD b->a=b){k:κ}:∀{L:List (κ×α)},aA L k≠none->∃m,hW (bF kD L) (kD k)=⇑m/\(bF kD L).eraseIdx m=bF kD (eW L k)/\((cI fD L).map S.sh).eraseIdx m=(cI fD (eW L k)).map .sh
 |[],h=>(h rfl).elim
 |e::r,h=>by
  rw[show bF kD (e::r)=kD e.1::bF kD r from rfl,JR];unfold eW;by_cases h2:e.1=k
  .show#[0,by rw[q8 (by rw[h2])],by rw[q8 h2];rfl,by rw[q8 h2];rfl]
  .unfold aA at h;rw[q9 h2]at h;let#[m,F,B,v]:=Iu i h;refine#[m+1,by rw[q9 λz=>h2 (i _ _ z),F];rfl,?_,?_]
   .rw[q9 h2,List.eraseIdx_cons_succ,B];rfl
   .rw[q9 h2];show(S.sh (fD e.2)::(cI fD r).map S.sh).eraseIdx (m+1)=_;rw[List.eraseIdx_cons_succ,v];rfl
def Dj:∀{L:List (κ×α)},bJ (bF kD L) (cI fD L)=L.map λe=>D.tup [kD e.1,fD e.2]
 |[]=>rfl
 |e::r=>by show D.tup [kD e.1,fD e.2]::bJ (bF kD r) (cI fD r)=_;rw[Dj];rfl
end
def nI(s:List Nat):List Int:=s.map λ(k:Nat)=>(k:Int)
def NC{s t:List Nat}(h:nI s=nI t):s=t:=(List.map_inj_right λ(a b:Nat)(e:(a:Int)=b)=>by lia).mp h
def kT(a:Int)(l:List Nat):List Int:=a::(l.length:Int)::nI l
def HZ{a b:Int}{l m:List Nat}(h:kT a l=kT b m):a=b/\l=m:=by unfold kT at h;let#[h1,h2]:=List.cons.inj h;show#[h1,NC (List.cons.inj h2).2]
theorem zj7{a b:Int}{l m:List Nat}:kT a l<=kT b m↔a<b\/a=b/\(l.length<m.length\/l.length=m.length/\nI l<=nI m):=by
 unfold kT;rw[List.cons_le_cons_iff,List.cons_le_cons_iff];constructor
 .rintro(h|⟨h,h2|⟨h2,i⟩⟩)
  .show .inl h
  .show .inr #[h,.inl ∅]
  .show .inr #[h,.inr #[∅,i]]
 .rintro(h|⟨h,h2|⟨h2,i⟩⟩)
  .show .inl h
  .show .inr #[h,.inl ∅]
  .show .inr #[h,.inr #[∅,i]]
def Jd{x y:List Int}:∀{a b:List Int},a.length=b.length->a<b->a++x<b++y
 |[],[],_,h=>by simp at h
 |u::a,z::b,hl,h=>by rw[qD]at h;rw[qP,qP,qD];show h.imp id λh=>#[h.1,Jd ↑hl h.2]
def HX{x y:List Int}(h:x<y):∀{a:List Int},a++x<a++y
 |[]=>h
 |u::a=>by rw[qP,qP,qD];show .inr #[rfl,HX h]
def Eo(s t:List Nat):nI (s++t)=nI s++nI t:=map_append
def Ds{a b z:Int}{l m:List Nat}{p:Nat}(h:kT a l<=kT b m):kT (a+z) (l++[p])<=kT (b+z) (m++[p]):=by
 rw[zj7]at h⊢;rw[qr,qr,Eo,Eo];rcases h with h|⟨h,h2|⟨h2,i⟩⟩
 .show .inl ∅
 .show .inr #[∅,.inl ∅]
 .show .inr #[∅,.inr #[∅,?_]];rcases List.le_iff_lt_or_eq.mp i with i|i
  .show List.le_of_lt (Jd (by simpa[nI] using h2) i)
  .rw[i];show List.le_refl _
structure gJ(N:Nat->List Nat)(c:Nat->Nat->Int)(n:Nat):Prop where
 sym:∀{p q:Nat},q∈N p->p∈N q
 le:∀{p q:Nat},q∈N p->p<=n/\q<=n
 nn:∀p q:Nat,0<=c p q
 cs:∀p q:Nat,c p q=c q p
section
variable{N:Nat->List Nat}{c:Nat->Nat->Int}{n g:Nat}
inductive WR(N:Nat->List Nat)(c:Nat->Nat->Int):List Nat->Nat->Int->Prop
 |z:WR N c [0] 0 0
 |s {l:List Nat} {p q:Nat} {a:Int}:WR N c l q a->p∈N q->WR N c (l++[p]) p (a+c q p)
inductive WG(N:Nat->List Nat)(c:Nat->Nat->Int)(g:Nat):List Nat->Nat->Int->Prop
 |z:WG N c g [g] g 0
 |s {l:List Nat} {p q:Nat} {a:Int}:WG N c g l q a->q∈N p->WG N c g (p::l) p (a+c p q)
def CS{l:List Nat}{p:Nat}{a:Int}(h:WG N c g l p a):∃m,l=p::m:=by cases h<;>show#[_,rfl]
def HC(G:gJ N c n){l:List Nat}{p:Nat}{a:Int}(h:WG N c g l p a):0<=a:=by
 induction h with
 |z=>show Int.le_refl _
 |@s _ p q _ _ _ i=>have:=G.nn p q;lia
def Hj{l:List Nat}{p:Nat}{a:Int}(h:WR N c l p a):∀{m:List Nat}{b:Int},WG N c g (p::m) p b->WG N c g (l++m) 0 (a+b):=by
 induction h with
 |z=>intro m b h;rw[zero_add];show h
 |@s l p q a h v i=>intro m b h2;let:=i (.s h2 v);rw[qq];rw[show a+c q p+b=a+(b+c q p) by lia];show this
def Hk{l':List Nat}{p:Nat}{b:Int}(h:WG N c g l' p b):∀{l m:List Nat}{a:Int},l'=p::m->WR N c l p a->WR N c (l++m) g (a+b):=by
 induction h with
 |z=>intro l m a e h;cases e;rw[qA,Int.add_zero];show h
 |@s l' p q b h v i=>intro l m a e h2;cases e;let#[B,rfl]:=CS h;let:=i rfl (.s h2 v);rw[qq]at this;rw[show a+(b+c p q)=a+c p q+b by lia];show this
def El(G:gJ N c n){l:List Nat}{p:Nat}{a:Int}(h:WR N c l p a):p∈l/\∀x∈l,x<=n:=by
 induction h with
 |z=>show#[by simp,λx i=>by rw[qv.mp i];show zero_le _]
 |s _ B v=>show#[by simp,λx i=>(qy.mp i).elim (v.2 x) λz=>by rw[qv.mp z];show(G.le B).2]
def Mq(G:gJ N c n){l:List Nat}{q p:Nat}{a:Int}(h:WR N c l q a):p∈l->∃v B a1,l=(v++[p])++B/\WR N c (v++[p]) p a1/\a1<=a:=by
 induction h with
 |z=>intro i;rw[qv.mp i];show#[[],[],0,rfl,.z,Int.le_refl _]
 |@s l r q a h I F=>
  intro i;rcases qy.mp i with i|i
  .obtain⟨v,B,a1,e,h1,h2⟩:=F i;let:=G.nn q r;show#[v,B++[r],a1,by rw[e,qq],h1,∅]
  .rw[qv.mp i];show#[l,[],_,by rw[qA],.s h I,Int.le_refl _]
def RP(G:gJ N c n){l:List Nat}{p:Nat}{a:Int}(h:WR N c l p a):∃l' i,WR N c l' p i/\l'.Nodup/\kT i l'<=kT a l:=by
 induction h with
 |z=>show#[[0],0,.z,by simp,List.le_refl _]
 |@s l p q a h M I=>
  let#[l',i,h1,h2,h3]:=I;let B:=Ds (z:=c q p) (p:=p) h3;by_cases v:p∈l'
  .obtain⟨F,l2,a1,e,Y,h6⟩:=Mq G h1 v;refine#[F++[p],a1,Y,?_,List.le_trans (zj7.mpr ?_) B]
   .rw[e]at h2;show(qx.mp h2).1
   .let:=G.nn q p;by_cases O:a1<i+c q p
    .show .inl O
    .show .inr #[∅,.inl ?_];rw[e];simp
  .show#[l'++[p],_,.s h1 M,?_,B];show qx.mpr #[h2,by simp,λx L y J z=>v (by rw[<-qv.mp J,<-z];show L)]
def Gx(G:gJ N c n){l:List Nat}{p:Nat}{a:Int}(h:WR N c l p a):∃l' i,WR N c l' p i/\l'.length<=n+1/\kT i l'<=kT a l:=by let#[l',i,h1,h2,B]:=RP G h;show#[l',i,h1,?_,B];let:=CA l' (List.range (n+1)) h2 λx v=>qK.mpr (by let:=(El G h1).2 x v;lia);rwa[qE]at this
@[inline]def BP(N:Nat->List Nat)(c:Nat->Nat->Int)(g p:Nat)(x:Int×Nat):Prop:=(∃l,WG N c g l p x.1/\l.length=x.2+1)/\∀l b,WG N c g l p b->x.1<b\/x.1=b/\x.2+1<=l.length
def Il{p:Nat}{x y:Int×Nat}(h:BP N c g p x)(k:BP N c g p y):x=y:=by let#[#[l,h1,h2],B]:=h;let#[#[m,v,F],i]:=k;let a1:=B m _ v;let a2:=i l _ h1;show Prod.ext ∅ ∅
def OY(G:gJ N c n):BP N c g g (0,0):=⟨#[[g],.z,rfl],λl b h=>by
 let:=HC G h;let#[m,rfl]:=CS h;by_cases i:0<b
 .show .inl i
 .show .inr #[by show(0:Int)=b;lia,by simp]⟩
structure DJ(N:Nat->List Nat)(c:Nat->Nat->Int)(n g:Nat)(P:Nat->Nat->Prop)(L Bg:List (Nat×(Int×Nat))):Prop where
 nl:(L.map (·.1)).Nodup
 nb:(Bg.map (·.1)).Nodup
 dis:∀p x,aA L p=⇑x->aA Bg p=none
 okl:∀p x,aA L p=⇑x->BP N c g p x
 okb:∀p x,aA Bg p=⇑x->∃l,WG N c g l p x.1/\l.length=x.2+1
 nbr:∀p x q,aA L p=⇑x->q∈N p->P p q->(∃y,aA L q=⇑y)\/∃y,aA Bg q=⇑y/\(y.1<x.1+c p q\/y.1=x.1+c p q/\y.2<=x.2+1)
 goal:(∃y,aA L g=⇑y)\/aA Bg g=⇑(0,0)
 le:(∀p∈L.map (·.1),p<=n)/\∀p∈Bg.map (·.1),p<=n
def Ra(hg:g<=n):DJ N c n g (λ_ _=>True) [] [(g,(0,0))] where
 nl:=.nil
 nb:=by simp
 dis:=λp x h=>nomatch h
 okl:=λp x h=>nomatch h
 okb:=λp x h=>by
  let h':(if g=p then ⇑((0:Int),0)else none)=⇑x:=h;split at h'
  .rename_i e;cases h';rw[<-e];show#[[g],.z,rfl]
  .cases h'
 nbr:=λp x q h=>nomatch h
 goal:=.inr (q8 rfl)
 le:=#[λp hp=>(nomatch hp),λp hp=>by rw[qv.mp hp];show hg]
def Ou(G:gJ N c n){L J:List (Nat×(Int×Nat))}(h:DJ N c n g (λ_ _=>True) L J){p:Nat}{x:Int×Nat}(M:aA J p=⇑x)(O:∀q y,aA J q=⇑y->x.1<y.1\/x.1=y.1/\x.2<=y.2):BP N c g p x:=by
 refine#[h.okb p x M,λl b hl=>?_];let B:∀l q b,WG N c g l q b->aA L q=none->x.1<b\/x.1=b/\x.2+1<=l.length:=λl q b F=>by
  induction F with
  |z=>
   intro I;rcases h.goal with⟨y,i⟩|i
   .rw[I]at i;cases i
   .let:=O _ _ i;simp at this;rcases this with z|z
    .show .inl z
    .show .inr #[z.1,by rw[z.2];simp]
  |@s l q r b F hr Y=>
   intro I;let hc:=G.nn q r;cases e:aA L r with
   |none=>rcases Y e with z|z<;>simp<;>lia
   |some y=>
    let#[_,i]:=h.okl r y e;let i:=i l b F;rcases h.nbr r y q e (G.sym hr) trivial with⟨u,v⟩|⟨u,v,h1⟩
    .rw[I]at v;cases v
    .let:=O q u v;rw[G.cs q r];simp;lia
 show B l p b hl ?_;cases e:aA L p with
 |none=>rfl
 |some y=>have:=h.dis p y e;rw[M]at this;cases this
def MW(G:gJ N c n){L I:List (Nat×(Int×Nat))}(h:DJ N c n g (λ_ _=>True) L I){p:Nat}{x:Int×Nat}(M:aA I p=⇑x)(hm:∀q y,aA I q=⇑y->x.1<y.1\/x.1=y.1/\x.2<=y.2):
  DJ N c n g (λr _=>r≠p) (aY L p x) (eW I p)/\aA (aY L p x) p=⇑x/\aA L p=none:=by
 have hb:=Ou G h M hm;let F:aA L p=none:=by
  cases e:aA L p with
  |none=>rfl
  |some y=>have:=h.dis p y e;rw[M]at this;cases this
 let#[k1,k2,_]:=BK (k:=p) (v:=x) h.nl;let#[d1,J,d3]:=HP (k:=p) h.nb;let h1:p∈I.map (·.1):=by let:=Cj M;show qL.mpr #[_,this,rfl]
 show#[#[k1,d1,λq y i=>?_,λq y i=>?_,λq y i=>?_,λq y r i hr O=>?_,?_,λq i=>?_,λq i=>h.le.2 q (d3 q i)],by rw[AJ,q8 rfl],F]
 .rw[AJ]at i;rw[J];split at i
  .rename_i e;rw[q8 e]
  .rename_i e;rw[q9 e];show h.dis q y i
 .rw[AJ]at i;split at i
  .rename_i e;cases i;rw[<-e];show hb
  .show h.okl q y i
 .rw[J]at i;split at i
  .cases i
  .show h.okb q y i
 .rw[AJ,q9 (Ne.symm O)]at i;by_cases e:p=r
  .show .inl #[x,by rw[AJ,q8 e]]
  .rcases h.nbr q y r i hr trivial with⟨u,B⟩|⟨u,B,Y⟩
   .show .inl #[u,by rw[AJ,q9 e];show B]
   .show .inr #[u,by rw[J,q9 e];show B,Y]
 .by_cases e:p=g
  .show .inl #[x,by rw[AJ,q8 e]]
  .rcases h.goal with⟨u,B⟩|B
   .show .inl #[u,by rw[AJ,q9 e];show B]
   .show .inr (by rw[J,q9 e];show B)
 .rcases(k2 q).mp i with e|e
  .rw[e];show h.le.2 p h1
  .show h.le.1 q e
def IL{L B:List (Nat×(Int×Nat))}{Q:Nat->Nat->Prop}{p q:Nat}{x:Int×Nat}(h:DJ N c n g Q L B)(I:aA L p=⇑x)
  (G:(∃y,aA L q=⇑y)\/∃y,aA B q=⇑y/\(y.1<x.1+c p q\/y.1=x.1+c p q/\y.2<=x.2+1)):DJ N c n g (λr s=>Q r s\/r=p/\s=q) L B:=
 ⟨h.nl,h.nb,h.dis,h.okl,h.okb,λr y s i F v=>by
  rcases v with v|⟨rfl,rfl⟩
  .show h.nbr r y s i F v
  .rw[I]at i;cases i;show G,h.goal,h.le⟩
def Nu(G:gJ N c n){L J:List (Nat×(Int×Nat))}{Q:Nat->Nat->Prop}{p q:Nat}{x:Int×Nat}(h:DJ N c n g Q L J)(hp:aA L p=⇑x)(hq:q∈N p)(hn:aA L q=none)
  (F:∀y,aA J q=⇑y->x.1+c p q<y.1\/x.1+c p q=y.1/\x.2+1<y.2):DJ N c n g (λr s=>Q r s\/r=p/\s=q) L (aY J q (x.1+c p q,x.2+1)):=by
 let#[k1,k2,_]:=BK (k:=q) (v:=(x.1+c p q,x.2+1)) h.nb;let hx:=h.okl p x hp;let#[#[lx,wx,B],_]:=hx;let h1:=HC G wx;let hc:=G.nn p q;show#[h.nl,k1,λr y i=>?_,h.okl,λr y i=>?_,λr y s i hs I=>?_,?_,h.le.1,λr i=>?_]
 .rw[AJ,q9 λz=>by rw[<-z,hn]at i;cases i];show h.dis r y i
 .rw[AJ]at i;split at i
  .rename_i e;cases i;rw[<-e];show#[q::lx,?_,by rw[qu,B]];show WG N c g (q::lx) q (x.1+c p q);rw[G.cs p q];show .s wx (G.sym hq)
  .show h.okb r y i
 .have M:Q r s->(∃y,aA L s=⇑y)\/∃u,aA (aY J q (x.1+c p q,x.2+1)) s=⇑u/\(u.1<y.1+c r s\/u.1=y.1+c r s/\u.2<=y.2+1):=λI=>by
   rcases h.nbr r y s i hs I with z|⟨u,O,Y⟩
   .show .inl z
   .show .inr ?_;rw[AJ];by_cases e:q=s
    .rw[q8 e];rw[<-e]at O;let:=F u O;show#[_,rfl,by simp only;lia]
    .rw[q9 e];show#[u,O,Y]
  rcases I with I|⟨rfl,rfl⟩
  .show M I
  .rw[hp]at i;cases i;show .inr #[_,by rw[AJ,q8 rfl],.inr #[rfl,zb _]]
 .rcases h.goal with z|z
  .show .inl z
  .show .inr ?_;rw[AJ];by_cases e:q=g
   .let:=F (0,0) (by rw[e];show z);simp at this;lia
   .rw[q9 e];show z
 .rcases(k2 r).mp i with e|e
  .rw[e];show(G.le hq).2
  .show h.le.2 r e
def ON(G:gJ N c n){L v:List (Nat×(Int×Nat))}{Q:Nat->Nat->Prop}{p:Nat}{x:Int×Nat}(h:DJ N c n g Q L v)(I:aA L p=⇑x)(F:∀r s,s∈N r->Q r s):DJ N c n g (λ_ _=>True) L v:=
 #[h.nl,h.nb,h.dis,h.okl,h.okb,λr y s B i _=>h.nbr r y s B i (F r s i),h.goal,h.le]
@[inline]def Told(N:Nat->List Nat)(c:Nat->Nat->Int)(g:Nat)(L:List (Nat×(Int×Nat))):Prop:=(L.map (·.1)).Nodup/\(∀p x,aA L p=some x->BP N c g p x)/\∀l p b,WG N c g l p b->∃x,aA L p=some x
def OE(G:gJ N c n){L:List (Nat×(Int×Nat))}(h:DJ N c n g (λ_ _=>True) L []):Told N c g L:=by
 show#[h.nl,h.okl,λl p b i=>?_];induction i with
 |z=>
  rcases h.goal with z|z
  .show z
  .cases z
 |@s l p q b i I v=>
  let#[x,B]:=v;rcases h.nbr q x p B (G.sym I) trivial with z|⟨u,F,_⟩
  .show z
  .cases F
def FK{L v:List (Nat×(Int×Nat))}{Q:Nat->Nat->Prop}(h:DJ N c n g Q L v):L.length<=n+1/\v.length<=n+1:=by let h1:=CA _ (List.range (n+1)) h.nl λx i=>qK.mpr (by let:=h.le.1 x i;lia);let h2:=CA _ (List.range (n+1)) h.nb λx i=>qK.mpr (by let:=h.le.2 x i;lia);rw[qp,qE]at h1 h2;show#[h1,h2]
def Ka{κ α:Type}[DecidableEq κ]{k:κ}{v:α}:∀{L:List (κ×α)},aA L k=none->(aY L k v).length=L.length+1
 |[],_=>rfl
 |e::r,h=>by
  unfold aA at h;unfold aY;by_cases h2:e.1=k
  .rw[q8 h2]at h;cases h
  .rw[q9 h2]at h⊢;rw[qu,Ka h,qu]
structure cf(N:Nat->List Nat)(c:Nat->Nat->Int)(g:Nat)(X:Int×Nat)(pre:List Nat)(p:Nat)(x:Int×Nat):Prop where
 wr:∃a,WR N c (pre++[p]) p a/\a+x.1=X.1/\pre.length+x.2=X.2
 bp:BP N c g p x
 le:∀r,WR N c r g X.1->r.length=X.2+1->(∃m,r=pre++p::m/\WG N c g (p::m) p x.1/\m.length=x.2)\/∀m:List Nat,m.length=x.2->nI (pre++p::m)<nI r
def DL{l:List Nat}{p:Nat}{a:Int}(h:WR N c l p a):∃m,l=0::m:=by
 induction h with
 |z=>show#[[],rfl]
 |@s l p q a h v i=>let#[m,rfl]:=i;show#[m++[p],rfl]
def BQ{l:List Nat}{b:Int}(h:WR N c l g b):WG N c g l 0 b:=by let:=Hj (g:=g) h (m:=[]) (b:=0) .z;rwa[qA,Int.add_zero]at this
def RL{X:Int×Nat}(h:BP N c g 0 X):cf N c g X [] 0 X where
 wr:=#[0,.z,zero_add _,Nat.zero_add _]
 bp:=h
 le:=λr hr hl=>by let#[m,rfl]:=DL hr;show .inl #[m,rfl,BQ hr,↑hl]
def fQ(N:Nat->List Nat)(c:Nat->Nat->Int)(g p:Nat)(x:Int×Nat)(q:Nat):Prop:=q∈N p/\∃y,BP N c g q y/\y.1=x.1-c p q/\y.2+1=x.2
def IW(G:gJ N c n){p:Nat}{x:Int×Nat}(h:BP N c g p x){q:Nat}{m:List Nat}(i:WG N c g (p::q::m) p x.1)(F:m.length+1=x.2):fQ N c g p x q/\WG N c g (q::m) q (x.1-c p q):=by
 generalize B:p::q::m=l at i;generalize L:x.1=b at i;cases i with
 |z=>cases B
 |@s Y _ M a i v=>cases B;let#[O,J]:=CS i;cases J;rw[show a+c p q-c p q=a by lia];show#[#[v,(a,m.length),#[#[_,i,rfl],λl b I=>?_],by rw[L];show a=a+c p q-c p q;lia,by rw[<-F]],i];let:=h.2 _ _ (.s I v);simp only[qu]at this;show a<b\/a=b/\m.length+1<=l.length;lia
def OZ(G:gJ N c n){p:Nat}{x:Int×Nat}(h:BP N c g p x)(B:p≠g):∃q,fQ N c g p x q:=by
 let#[#[l,i,F],_]:=id h;let#[m,rfl]:=CS i;cases m with
 |nil=>
  generalize v:[p]=l at i;generalize I:x.1=b at i;cases i with
  |z=>cases v;show absurd rfl B
  |s i _=>cases v;let#[_,e]:=CS i;cases e
 |cons q m=>show#[q,(IW G h i ↑F).1]
def HB(G:gJ N c n){x:Int×Nat}(h:BP N c g g x):x=(0,0):=Il h (OY G)
def Qv(G:gJ N c n){X x:Int×Nat}{i:List Nat}{p q:Nat}(h:cf N c g X i p x)(hq:fQ N c g p x q)(hm:∀r,fQ N c g p x r->q<=r):
  ∃y,BP N c g q y/\y.1=x.1-c p q/\y.2+1=x.2/\cf N c g X (i++[p]) q y:=by
 let#[I,y,M,O,e2]:=hq;show#[y,M,O,e2,?_,M,λr hr hl=>?_]
 .obtain⟨a,h1,h2,h3⟩:=h.wr;show#[a+c p q,.s h1 I,∅,by rw[qr,qC];lia]
 .rcases h.le r hr hl with⟨m,e,Y,v⟩|z
  .cases m with
   |nil=>rw[qw]at v;lia
   |cons B L=>
    let#[h1,h2]:=IW G h.bp Y ↑v;let h4:=hm B h1;rw[qu]at v;by_cases F:q=B
    .subst F;show .inl #[L,by rw[e,qq];rfl,by rw[O];show h2,∅]
    .show .inr λm J=>?_;rw[e,qq,Eo i,Eo i];show HX ?_;show nI (p::q::m)<nI (p::B::L);unfold nI;rw[qz,qz,qz,qz,qD,qD];show .inr #[rfl,.inl ∅]
  .show .inr λm J=>?_;rw[qq];show z (q::m) (by rw[qu];lia)
def OI(G:gJ N c n){X x:Int×Nat}{i:List Nat}(h:cf N c g X i g x)(M:BP N c g 0 X):WR N c (i++[g]) g X.1/\∀l b,WR N c l g b->kT X.1 (i++[g])<=kT b l:=by
 let J:=HB G h.bp;subst J;let#[a,h1,h2,Y]:=h.wr;let B:a=X.1:=↑h2
 let O:i.length=X.2:=↑Y
 rw[B]at h1;show#[h1,λl b I=>?_];rw[zj7,qr,qC];rcases M.2 l b (BQ I)with z|⟨F,z2⟩
 .show .inl z
 .refine .inr #[F,?_];by_cases v:i.length+1<l.length
  .show .inl v
  .show .inr #[∅,?_];rcases h.le l (by rw[F];show I) ∅with⟨m,e,_,L⟩|z
   .rw[List.length_eq_zero_iff.mp L]at e;rw[e];show List.le_refl _
   .show List.le_of_lt (z [] rfl)
abbrev Fd:=List (Nat×(Int×List Nat))
structure xD(N:Nat->List Nat)(c:Nat->Nat->Int)(n:Nat)(F:Fd):Prop where
 nd:(F.map (·.1)).Nodup
 wr:∀p x,aA F p=⇑x->WR N c x.2 p x.1
 z:∃x,aA F 0=⇑x/\kT x.1 x.2<=kT 0 [0]
def xM(N:Nat->List Nat)(c:Nat->Nat->Int)(k:Nat)(F:Fd):Prop:=∀l p a,WR N c l p a->l.length<=k+1->∃x,aA F p=⇑x/\kT x.1 x.2<=kT a l
def kh(N:Nat->List Nat)(c:Nat->Nat->Int)(F:Fd):Prop:=∀l p a,WR N c l p a->∃x,aA F p=⇑x/\kT x.1 x.2<=kT a l
structure rN(N:Nat->List Nat)(c:Nat->Nat->Int)(n k:Nat)(F0 F:Fd)(ps:List (Nat×Nat))(more:Bool):Prop where
 f:xD N c n F
 up:∀p x,aA F0 p=⇑x->∃y,aA F p=⇑y/\kT y.1 y.2<=kT x.1 x.2
 done:∀q p x,(q,p)∈ps->aA F0 q=⇑x->∃y,aA F p=⇑y/\kT y.1 y.2<=kT (x.1+c q p) (x.2++[p])
 no:more=false->F=F0
 yes:more=true->k<n
def Kn:xD N c n [(0,(0,[0]))] where
 nd:=by simp
 wr:=λp x h=>by
  let h':(if 0=p then ⇑((0:Int),[0])else none)=⇑x:=h;split at h'
  .rename_i e;cases h';rw[<-e];show .z
  .cases h'
 z:=#[_,rfl,List.le_refl _]
def Jp(G:gJ N c n){F:Fd}(h:xD N c n F):F.length<=n+1:=by
 let:=CA _ (List.range (n+1)) h.nd λp i=>by let#[e,v,rfl]:=qL.mp i;let:=El G (h.wr e.1 e.2 (CN h.nd v));show qK.mpr (by let:=this.2 _ this.1;lia)
 rwa[qp,qE]at this
def LM{F:Fd}(h:xD N c n F):xM N c 0 F:=λl p a i v=>by
 cases i with
 |z=>show h.z
 |s i _=>let#[m,rfl]:=DL i;simp at v
def SF{F:Fd}{k:Nat}(h:xD N c n F):rN N c n k F F [] false:=#[h,λ_ x e=>#[x,e,List.le_refl _],λ_ _ _ h=>(nomatch h),λ_=>rfl,λh=>nomatch h]
def JE{k:Nat}{J F:Fd}{ps:List (Nat×Nat)}{i:Bool}{q p:Nat}(h:rN N c n k J F ps i)(O:∀x,aA F q=⇑x->∃y,aA F p=⇑y/\kT y.1 y.2<=kT (x.1+c q p) (x.2++[p])):rN N c n k J F (ps++[(q,p)]) i:=
 ⟨h.f,h.up,λr s x v I=>by
  rcases qy.mp v with v|v
  .show h.done r s x v I
  .cases qv.mp v;let#[y,M,G]:=h.up _ x I;let#[z,L,B]:=O y M;show#[z,L,List.le_trans B (Ds G)],h.no,h.yes⟩
def Pm(G:gJ N c n){k:Nat}{F0 F:Fd}{ps:List (Nat×Nat)}{L:Bool}{q p:Nat}{x:Int×List Nat}(h:rN N c n k F0 F ps L)(hk:xM N c k F0)(hp:p∈N q)(hx:aA F q=⇑x)(Y:∀y,aA F p=⇑y->kT (x.1+c q p) (x.2++[p])<kT y.1 y.2):
  rN N c n k F0 (aY F p (x.1+c q p,x.2++[p])) (ps++[(q,p)]) true:=by
 obtain⟨k1,_,_⟩:=BK (k:=p) (v:=(x.1+c q p,x.2++[p])) h.f.nd;let hw:WR N c (x.2++[p]) p (x.1+c q p):=.s (h.f.wr q x hx) hp;let up:∀r u,aA F r=⇑u->∃y,aA (aY F p (x.1+c q p,x.2++[p])) r=⇑y/\kT y.1 y.2<=kT u.1 u.2:=λr u I=>by
  rw[AJ];by_cases e:p=r
  .rw[q8 e];rw[<-e]at I;show#[_,rfl,List.le_of_lt (Y u I)]
  .rw[q9 e];show#[u,I,List.le_refl _]
 show#[#[k1,λr u I=>?_,?_],λr u I=>?_,λr s u O I=>?_,λh=>(nomatch h),λ_=>?_]
 .rw[AJ]at I;split at I
  .rename_i e;cases I;rw[<-e];show hw
  .show h.f.wr r u I
 .obtain⟨u,I,B⟩:=h.f.z;let#[y,M,i]:=up 0 u I;show#[y,M,List.le_trans i B]
 .obtain⟨v,J,B⟩:=h.up r u I;let#[y,M,i]:=up r v J;show#[y,M,List.le_trans i B]
 .rcases qy.mp O with O|O
  .obtain⟨v,J,B⟩:=h.done r s u O I;let#[y,M,i]:=up s v J;show#[y,M,List.le_trans i B]
  .cases qv.mp O;let#[v,J,B]:=h.up _ u I;rw[hx]at J;cases J;show#[_,by rw[AJ,q8 rfl],Ds B]
 .by_cases h4:k<n
  .show h4
  .obtain⟨l',a',h1,h2,h3⟩:=Gx G hw;let#[u,I,B]:=hk l' p a' h1 ∅;let#[v,J,i]:=h.up p u I;show absurd (Y v J) (List.not_lt.mpr (List.le_trans i (List.le_trans B h3)))
def IF{k:Nat}{O F:Fd}{ps:List (Nat×Nat)}{v:Bool}(h:rN N c n k O F ps v)(hk:xM N c k O)(I:∀q p,p∈N q->(q,p)∈ps):xM N c (k+1) F/\(v=false->kh N c F):=by
 show#[λl p a G hl=>?_,λhm l p a G=>?_]
 .cases G with
  |z=>show h.f.z
  |@s l p q a G M=>rw[qr,qC]at hl;let#[x,L,B]:=hk l q a G ∅;let#[y,J,i]:=h.done q p x (I q p M) L;show#[y,J,List.le_trans i (Ds B)]
 .let e:=h.no hm;induction G with
  |z=>show h.f.z
  |@s l p q a G M Y=>let#[x,L,B]:=Y;let#[y,J,i]:=h.done q p x (I q p M) (e▸L);show#[y,J,List.le_trans i (Ds B)]
@[inline]def Due(N:Nat->List Nat)(c:Nat->Nat->Int)(g:Nat)(d:D):Prop:=(d=.non/\∀l a,¬WR N c l g a)\/∃a l,d=.tup [.int a,.tup (l.map zP)]/\WR N c l g a/\∀m b,WR N c m g b->kT a l<=kT b m
def NW{d e:D}(h:Due N c g d)(k:Due N c g e):d=e:=by
 rcases h with⟨rfl,h⟩|⟨a,l,rfl,h1,h2⟩
 .rcases k with⟨rfl,_⟩|⟨b,m,rfl,i,_⟩
  .rfl
  .show absurd i (h m b)
 .rcases k with⟨rfl,k⟩|⟨b,m,rfl,i,v⟩
  .show absurd h1 (k l a)
  .obtain⟨F,B⟩:=HZ (le_antisymm (h2 m b i) (v l a h1));rw[F,B]
def ML(h:Told N c g L)(B:aA L 0=none):Due N c g .non:=.inl #[rfl,λl a v=>by let#[x,i]:=h.2.2 l 0 a (BQ v);rw[B]at i;cases i]
end
def AR:∀a b:Nat,zP a=zP b->a=b:=λa b h=>by unfold zP at h;let:=D.int.inj h;lia
def cP(B:List Wd)(w:Wd)(i:List Int)(p q:Nat):Int:=(i[B.idxOf (eF w (min p q) (max p q))]?).getD 0
def Fh{B:List Wd}{w:Wd}{pr:List Int}(h0:∀z∈pr,0<=z):gJ (nb B w) (cP B w pr) w.length where
 sym:=λh=>by rw[zb5]at h⊢;rw[Gk];show h
 le:=λh=>#[(CH h).2.1,(CH h).1]
 nn:=λp q=>by
  unfold cP;cases e:pr[B.idxOf (eF w (min p q) (max p q))]? with
  |none=>show Int.le_refl _
  |some z=>show h0 z (qN e)
 cs:=λp q=>by unfold cP;rw[min_comm,max_comm]
abbrev Gs:=Nat->List (Nat×Int)
def dS(A:List (Nat×Int)):S:=.dct false (bF zP A) ((cI D.int A).map .sh)
def dD(A:List (Nat×Int)):D:=.dct false (bF zP A) (cI D.int A)
def Ez(l:List D):(l.map S.sh).map S.toD=l:=by rw[qF];show List.map_id' l
def Nz{A:List (Nat×Int)}:(dS A).toD=dD A:=by show D.dct false _ (S.toDs _)=_;rw[S.toDs_map,Ez];rfl
def nC(n:Nat)(G:Gs):List S:=(List.range (n+1)).map λp=>dS (G p)
def nE(n:Nat)(G:Gs):D:=.lst ((List.range (n+1)).map λp=>dD (G p))
def MV{n:Nat}{G:Gs}:(S.lst (nC n G)).toD=nE n G:=by unfold nC nE;show D.lst (S.toDs _)=_;rw[S.toDs_map,qF];show congrArg D.lst (map_congr_left λp _=>Nz)
def rD(G:Gs)(i:Nat)(A:List (Nat×Int)):Gs:=λp=>if p=i then A else G p
def HU{n i:Nat}{G:Gs}(h:i<=n):(nC n G)[i]?=⇑(dS (G i)):=by unfold nC;rw[qG,getElem?_range ∅];rfl
def Ij{n i:Nat}{G:Gs}{A:List (Nat×Int)}:(nC n G).set i (dS A)=nC n (rD G i A):=by
 apply ext_getElem?;intro j;unfold nC;rw[getElem?_set];simp only[qp,qE,qG];by_cases h:i=j
 .subst h;rw[q8 rfl];by_cases h2:i<n+1
  .rw[q8 h2,getElem?_range h2];simp[rD]
  .rw[q9 h2,qR (by simp;lia -verbose)];rfl
 .rw[q9 h];by_cases h2:j<n+1
  .rw[getElem?_range h2];simp[rD,Ne.symm h]
  .rw[qR (by simp;lia -verbose)];rfl
def rM(i:List Tr)(p q:Nat):Prop:=∃t∈i,(t.1=p/\t.2.1=q)\/(t.1=q/\t.2.1=p)
structure cc(B:List Wd)(w:Wd)(pr:List Int)(ts:List Tr)(G:Gs):Prop where
 nd:∀p,((G p).map (·.1)).Nodup
 get:∀p q,aA (G p) q=(open Classical in if rM ts p q then ⇑(cP B w pr p q)else none)
 len:∀p,(G p).length<=2*ts.length
theorem OO{B:List Wd}{w:Wd}{J:List Int}{L:List Tr}{G:Gs}(h:cc B w J L G){t:Tr}(ht:t.1≠t.2.1):
  cc B w J (L++[t]) (rD (rD G t.1 (aY (G t.1) t.2.1 (cP B w J t.1 t.2.1))) t.2.1 (aY (G t.2.1) t.1 (cP B w J t.1 t.2.1))):=by
 let hc:cP B w J t.1 t.2.1=cP B w J t.2.1 t.1:=by unfold cP;rw[min_comm,max_comm]
 have i:∀p q,rM (L++[t]) p q↔rM L p q\/(t.1=p/\t.2.1=q)\/(t.1=q/\t.2.1=p):=λp q=>by
  unfold rM;constructor
  .rintro⟨u,M,k⟩;rcases qy.mp M with M|M
   .show .inl #[u,M,k]
   .rw[qv.mp M]at k;show .inr k
  .rintro(⟨u,M,k⟩|k)
   .show#[u,qk _ M,k]
   .show#[t,by simp,k]
 show#[λp=>?_,λp q=>?_,λp=>?_]
 .unfold rD;split
  .show(BK (h.nd _)).1
  .split
   .show(BK (h.nd _)).1
   .show h.nd p
 .unfold rD;by_cases O:p=t.2.1
  .rw[q8 O,AJ,h.get];subst O;by_cases I:t.1=q
   .rw[q8 I,q8 ((i _ _).mpr (.inr (.inr #[I,rfl]))),hc,I]
   .rw[q9 I];by_cases F:rM L t.2.1 q
    .rw[q8 F,q8 ((i _ _).mpr (.inl F))]
    .rw[q9 F,q9 λz=>by
      rcases(i _ _).mp z with z|⟨z,_⟩|⟨z,_⟩
      .show F z
      .show ht z
      .show I z]
  .rw[q9 O];by_cases Y:p=t.1
   .rw[q8 Y,AJ,h.get];subst Y;by_cases I:t.2.1=q
    .rw[q8 I,q8 ((i _ _).mpr (.inr (.inl #[rfl,I]))),I]
    .rw[q9 I];by_cases F:rM L t.1 q
     .rw[q8 F,q8 ((i _ _).mpr (.inl F))]
     .rw[q9 F,q9 λz=>by
       rcases(i _ _).mp z with z|⟨_,z⟩|⟨_,z⟩
       .show F z
       .show I z
       .show ht z.symm]
   .rw[q9 Y,h.get];by_cases F:rM L p q
    .rw[q8 F,q8 ((i _ _).mpr (.inl F))]
    .rw[q9 F,q9 λz=>by
      rcases(i _ _).mp z with z|⟨z,_⟩|⟨_,z⟩
      .show F z
      .show Y z.symm
      .show O z.symm]
 .rw[qr,qC];unfold rD;let a:=h.len p;split
  .rename_i e;let:=(BK (k:=t.1) (v:=cP B w J t.1 t.2.1) (h.nd t.2.1)).2.2;let:=h.len t.2.1;lia
  .split
   .let:=(BK (k:=t.2.1) (v:=cP B w J t.1 t.2.1) (h.nd t.1)).2.2;let:=h.len t.1;lia
   .lia
theorem zdJ{B:List Wd}{w:Wd}{p q:Nat}:rM (dN B w) p q↔q∈nb B w p:=by
 rw[zb5];unfold lD rM;rw[or_eq_true];constructor
 .rintro⟨t,i,⟨rfl,rfl⟩|⟨rfl,rfl⟩⟩
  .show .inl (zb2.mp i).1
  .show .inr (zb2.mp i).1
 .rintro(h|h)
  .show#[(p,q,B.idxOf (eF w p q)),zb2.mpr #[h,rfl],.inl #[rfl,rfl]]
  .show#[(q,p,B.idxOf (eF w q p)),zb2.mpr #[h,rfl],.inr #[rfl,rfl]]
def Sm{B:List Wd}{w:Wd}{i:List Int}(I:rO B w)(h2:i.length=B.length)
  (h:∀G,cc B w i (dN B w) G->P (.lst (nC w.length G)) [.sh (zK B),.sh (.str w),.sh (.tup (i.map D.int))]):fe [.sh (zK B),.sh (.str w),.sh (.tup (i.map D.int))] P PX:=by
 let e4:=I.tw;let e3:=Gn I.nd I.ne I.six I.tw;show AN rfl rfl ?_;simp! [e_C];show#[by simp only[cC];lia,?_];rw[AL (n:=w.length+1) ∅];show Fi (n:=7) (List.range (w.length+1)) (λ_=>dS []) (λp hp l o K hl hK=>?_) λo=>?_
 .rw[qE]at hl;simp! [eI,lG,sW];show#[by simp only[cC];lia,hK _]
 rw[show((List.range (w.length+1)).map λ_=>dS [])=nC w.length λ_=>[] from rfl];simp! [e_C];show UG I ?_;simp! [zaz];show Bk (λv U=>∃(G:Gs)(o4 o5 o6:Option S),cc B w i v G/\U=[⇑(.sh (zK B)),⇑(.sh (.str w)),⇑(.sh (.tup (i.map D.int))),⇑(.lst (nC w.length G)),o4,o5,o6]) (dN B w) (λv t h4 D2 U e hI h3 h8 h6 h9=>?_) (λU hI=>?_) #[λ_=>[],none,none,none,#[λ_=>.nil,λp q=>by rw[q9 λ⟨_,z,_⟩=>nomatch z];rfl,λ_=>zero_le _],rfl]
 .obtain⟨G,o4,o5,o6,F,rfl⟩:=hI;let ht:t∈dN B w:=by rw[<-e];simp
  let h5:v.length<64:=by let:=congrArg List.length e;rw[qr,qu]at this;lia
  let#[h1,J]:=zb2.mp ht;let#[O,h7,L]:=zaF.mp h1;let hk:t.2.2<i.length:=by rw[J,h2];show List.idxOf_lt_length_of_mem L
  let Y:atI (i.map D.int) (t.2.2:Int)=⇑(.int (cP B w i t.1 t.2.1)):=Bp ∅ (by rw[qX,qG,qi hk];unfold cP;rw[min_eq_left (le_of_lt O),Nat.max_eq_right (le_of_lt O),<-J,qi hk];rfl)
  let l1:=F.len t.1;let l2:=F.len t.2.1;let M:t.2.1≠t.1:=∅
  let eG:rD G t.1 (aY (G t.1) t.2.1 (cP B w i t.1 t.2.1)) t.2.1=G t.2.1:=q9 M;simp! [sX,kq,length_cons,length_nil,Y];let e1:aV false (bF zP (G t.1)) ((cI D.int (G t.1)).map .sh) (D.int (t.2.1:Int)) (.sh (.int (cP B w i t.1 t.2.1)))=dS (aY (G t.1) t.2.1 (cP B w i t.1 t.2.1)):=Cg AR;let e2:aV false (bF zP (G t.2.1)) ((cI D.int (G t.2.1)).map .sh) (D.int (t.1:Int)) (.sh (.int (cP B w i t.1 t.2.1)))=dS (aY (G t.2.1) t.1 (cP B w i t.1 t.2.1)):=Cg AR;rw[ziU ∅ rfl (HU ∅)];simp! [dS];show#[rfl,BM AR (F.nd _),by rw[BX];simp only[cC];lia,?_];rw[e1,Ij];simp! [Y];rw[ziU ∅ rfl (HU ∅),eG];simp! [dS];show#[rfl,BM AR (F.nd _),by rw[BX];simp only[cC];lia,?_];rw[e2,Ij];show h3 _ #[_,_,_,_,OO F (Ne.symm M),rfl]
 .obtain⟨G,o4,o5,o6,F,rfl⟩:=hI;simp! [e_C];show h G F
def cN(x:Int×Nat):D:=.tup [.int x.1,.int (x.2:Int)]
def kY(e:Nat×(Int×Nat)):D:=.tup [cN e.2,zP e.1]
def Ft{x y:Int×Nat}:aO (cN x) (cN y)=.lt↔x.1<y.1\/x.1=y.1/\x.2<y.2:=by
 unfold cN;rw[aO,aJ,aJ,aJ,aO,aO];by_cases h1:x.1<y.1
 .simp[h1]
 .by_cases h2:y.1<x.1
  .simp[h1,h2];lia
  .rw[q9 h1,q9 h2];let e:x.1=y.1:=by lia
   by_cases i:(x.2:Int)<y.2
   .simp[i,e];lia
   .by_cases v:(y.2:Int)<x.2
    .simp[i,v,e];lia
    .simp[i,v,e];lia
theorem zk5{x y:Int×Nat}:aO (cN x) (cN y)=.gt↔y.1<x.1\/y.1=x.1/\y.2<x.2:=by
 unfold cN;rw[aO,aJ,aJ,aJ,aO,aO];by_cases h1:x.1<y.1
 .simp[h1];lia
 .by_cases h2:y.1<x.1
  .simp[h1,h2]
  .rw[q9 h1,q9 h2];let e:x.1=y.1:=by lia
   by_cases i:(x.2:Int)<y.2
   .simp[i,e];lia
   .by_cases v:(y.2:Int)<x.2
    .simp[i,v,e];lia
    .simp[i,v,e];lia
def kE(e:Nat×(Int×Nat)):List Int:=[e.2.1,(e.2.2:Int),(e.1:Int)]
def HD{e f:Nat×(Int×Nat)}:kE e<kE f↔(e.2.1<f.2.1\/e.2.1=f.2.1/\e.2.2<f.2.2)\/e.2=f.2/\e.1<f.1:=by
 unfold kE;rw[qD,qD,qD];let:¬([]:List Int)<[]:=List.lt_irrefl _;rw[Prod.ext_iff];constructor
 .rintro(h|⟨h,h2|⟨h2,i|⟨_,i⟩⟩⟩)
  .show .inl (.inl h)
  .show .inl (.inr #[h,∅])
  .show .inr #[#[h,∅],∅]
  .show absurd i this
 .rintro((h|⟨h,h2⟩)|⟨⟨h,h2⟩,i⟩)
  .show .inl h
  .show .inr #[h,.inl ∅]
  .show .inr #[h,.inr #[∅,.inl ∅]]
def Oc{e f:Nat×(Int×Nat)}:aO (kY e) (kY f)=.lt↔kE e<kE f:=by
 rw[HD,<-Ft];unfold kY zP;rw[aO,aJ,aJ,aJ,aO];cases q:aO (cN e.2) (cN f.2)with
 |lt=>simp
 |gt=>have:=zk5.mp q;simp;intro h;rw[h]at this;lia
 |eq=>
  let h1:¬aO (cN e.2) (cN f.2)=.lt:=by rw[q];show λz=>nomatch z
  let h2:¬aO (cN e.2) (cN f.2)=.gt:=by rw[q];show λz=>nomatch z
  rw[Ft]at h1;rw[zk5]at h2;let B:e.2=f.2:=Prod.ext ∅ ∅;simp only[B];by_cases i:(e.1:Int)<f.1
  .simp[i];lia
  .by_cases v:(f.1:Int)<e.1
   .simp[i,v];lia
   .simp[i,v];lia
def Oy{x y:Int×Nat}:cB (cN x) (cN y)=true/\cZ (cN x)<=9:=#[rfl,by show max 0 (max 0 0)+1<=9;decide]
def LV{x y:Int×Nat}:gY (cN x) (cN y)=⇑↥(x.1<y.1\/x.1=y.1/\x.2<y.2):=by unfold gY;rw[q8 Oy];show congrArg some (decide_eq_decide.mpr Ft)
def Gy{β:Type}{f:β->D}{k:β->List Int}(B:∀s t,aO (f s) (f t)=.lt↔k s<k t):∀(b:β)(r:List β),∃m∈b::r,eC (f b) (r.map f)=f m/\∀u∈b::r,k m<=k u
 |b,[]=>#[b,by simp,rfl,λu i=>by rw[qv.mp i];show List.le_refl _]
 |b,d::r=>by
  show∃m∈b::d::r,eC (if aO (f d) (f b)=.lt then f d else f b) (r.map f)=f m/\_;by_cases h:k d<k b
  .rw[q8 ((B _ _).mpr h)];let#[m,h1,h2,v]:=Gy (f:=f) (k:=k) B d r;show#[m,qm _ h1,h2,λu i=>?_];rcases qB.mp i with rfl|i
   .show List.le_trans (v d qo) (List.le_of_lt h)
   .show v u i
  .rw[q9 λz=>h ((B _ _).mp z)];let#[m,h1,h2,v]:=Gy (f:=f) (k:=k) B b r;show#[m,(qB.mp h1).elim (λe=>e▸qo) λe=>qm _ (qm _ e),h2,λu i=>?_];rcases qB.mp i with rfl|i
   .show v u qo
   .rcases qB.mp i with rfl|i
    .show List.le_trans (v b qo) (List.not_lt.mp h)
    .show v u (qm _ i)
def OJ{L:List (Nat×(Int×Nat))}(i:L≠[]):∃m∈L,kQ [.lst (L.map kY)]=⇑(.sh (kY m))/\∀u∈L,m.2.1<u.2.1\/m.2.1=u.2.1/\m.2.2<=u.2.2:=by
 cases L with
 |nil=>show absurd rfl i
 |cons b r=>
  let#[m,h1,h2,I]:=Gy (f:=kY) (k:=kE) (λs t=>Oc) b r;show#[m,h1,?_,λu F=>?_]
  .rw[<-h2];show q8 (qJ.mpr λx B=>qJ.mpr λy v=>?_);let#[x,_,rfl]:=qL.mp (show x∈(b::r).map kY from B);let#[y,_,rfl]:=qL.mp (show y∈(b::r).map kY from v);rfl
  .let:=I u F;let G:¬kE u<kE m:=List.not_lt.mpr this;rw[HD]at G;lia
def kN(L:List (Nat×(Int×Nat))):S:=.dct false (bF zP L) ((cI cN L).map .sh)
def md(L:List (Nat×(Int×Nat))):D:=.dct false (bF zP L) (cI cN L)
def Nm{l:List D}:(l.map S.sh).all S.isSh=true:=by rw[all_map];show qJ.mpr λ_ _=>rfl
def Fq{α:Type}{L:List (Nat×α)}:(bF zP L).all dG=true:=by unfold bF;rw[all_map];show qJ.mpr λ_ _=>rfl
def mv{ks:List D}{l:List S}:kL ⇑(.dct false ks l)=True:=rfl
def mw{q:Nat}:bN false (.int (q:Int))=true:=rfl
open Classical in
def De{α:Type}{fD:α->D}{L:List (Nat×α)}{q:Nat}:nU (.int (q:Int)) (.dct false (bF zP L) (cI fD L))=⇑(!(aA L q).isNone):=by
 unfold nU;dsimp only;rw[q8 mw];show congrArg some ?_;cases e:aA L q with
 |none=>show qT λz=>(ID AR).mp z e
 |some v=>show qS ((ID AR).mpr (by rw[e];show λz=>nomatch z))
theorem lk_d{α:Type}{fD:α->D}{L:List (Nat×α)}{q:Nat}:lk (bF zP L) (cI fD L) (.int (q:Int))=(aA L q).map fD:=Fm AR
def Ck{α:Type}{fD:α->D}{L:List (Nat×α)}:((cI fD L).map S.sh).map S.toD=cI fD L:=Ez _
def LJ{L:List (Nat×(Int×Nat))}:bJ (bF zP L) (cI cN L)=L.map λe=>D.tup [zP e.1,cN e.2]:=Dj
def HJ{A:List (Nat×Int)}:bJ (bF zP A) (cI D.int A)=A.map λe=>D.tup [zP e.1,.int e.2]:=Dj
def MF{n p:Nat}{G:Gs}(h:p<=n):atI ((List.range (n+1)).map λp=>dD (G p)) (p:Int)=⇑(dD (G p)):=Bp ∅ (by rw[qX,qG,getElem?_range ∅];rfl)
def HG{n p:Nat}{G:Gs}(h:p<=n):iI (S.sh (nE n G)) (zP p)=⇑(.sh (dD (G p))):=by show(atI _ _).map S.sh=_;rw[MF h];rfl
def cz(o:Option S):Prop:=o=none\/∃s,o=⇑s/\dh s=true
def Cb{j:Nat}:∀{i:Nat}{l m:List (Option S)},(∀o∈m,cz o)->jV j i l m
 |_,[],[],_=>trivial
 |_,[],_::_,_=>trivial
 |_,_::_,[],_=>trivial
 |i,x::l,y::m,h=>#[.inr (.inr (h y qo)),Cb λo v=>h o (qm _ v)]
def HL{α:Type}{L:List (Nat×α)}:(bF zP L).isEmpty=L.isEmpty:=by cases L<;>rfl
def IU{N:Nat->List Nat}{c:Nat->Nat->Int}{n g:Nat}{Q Q':Nat->Nat->Prop}{L i:List (Nat×(Int×Nat))}(h:DJ N c n g Q L i)(F:∀r s,Q' r s->Q r s):DJ N c n g Q' L i:=
 #[h.nl,h.nb,h.dis,h.okl,h.okb,λr y s B v G=>h.nbr r y s B v (F r s G),h.goal,h.le]
theorem Sa{B:List Wd}{w:Wd}{pr:List Int}{G:Gs}(h0:∀z∈pr,0<=z)(k3:w.length<=60)(hG:cc B w pr (dN B w) G)
  (h:∀L,Told (nb B w) (cP B w pr) w.length L->P (kN L) [.sh (nE w.length G),.sh (.int (w.length:Int))]):fc [.sh (nE w.length G),.sh (.int (w.length:Int))] P PX:=by
 have GG:=Fh (B:=B) (w:=w) h0;show AN rfl rfl ?_;simp! [e_C];refine Fp (λm U=>∃(L I:List (Nat×(Int×Nat)))(o4 o5 o6 o7 o8 O:Option S),DJ (nb B w) (cP B w pr) w.length w.length (λ_ _=>True) L I/\L.length+m=w.length+1/\(∀o∈[o4,o5,o6,o7,o8,O],cz o)/\
  U=[⇑(.sh (nE w.length G)),⇑(.sh (.int (w.length:Int))),⇑(kN L),⇑(kN I),o4,o5,o6,o7,o8,O]) (w.length+1) #[[],[(w.length,(0,0))],none,none,none,none,none,none,Ra (zb _),by simp,λo M=>.inl ↑M,rfl] λm U hJ=>?_
 let#[L,I,o4,o5,o6,o7,o8,O,hd,hm,h3,rfl]:=hJ;let#[r3,r2]:=FK hd;cases I with
 |nil=>simp! [kN,HL,List.isEmpty_nil,Bool.not_true,oA];show h L (OE GG hd)
 |cons b r=>
  generalize hB:b::r=I at*;let h8:I≠[]:=by rw[<-hB];show λz=>nomatch z
  let e4:I.isEmpty=false:=by rw[<-hB];rfl
  simp! [kN,HL,e4,sJ,sU,mv,Nm,Fq,Ck,LJ];show LG (n:=10) (toD:=λe:Nat×(Int×Nat)=>D.tup [zP e.1,cN e.2]) I (λe=>.sh (kY e)) (λe he l o o' K hl hK=>?_) λo o'=>?_
  .simp! [eI,lG,sT,length_cons,length_nil];show#[by simp only[cC];lia,hK _ _]
  rw[show(I.map λe=>S.sh (kY e))=(I.map kY).map S.sh by rw[qF];rfl];simp! [e_C];show#[_,_,_,rfl,λv hv=>?_,rfl,?_,rfl,?_,?_]
  .unfold cI at hv;let#[e,_,rfl]:=qL.mp hv;rfl
  .show((I.map kY).map S.sh).all rC=true;rw[all_map,all_map];show qJ.mpr λ_ _=>rfl
  .refine#[.inr (.inl #[_,rfl,rfl]),.inr (.inl #[_,rfl,rfl]),.inr (.inr (.inr #[_,rfl,?_])),.inl rfl,?_]
   .show((cI cN L).map S.sh).all rC=true;unfold cI;rw[all_map,all_map];show qJ.mpr λ_ _=>rfl
   .show Cb h3
  obtain⟨e,he,em,h4⟩:=OJ h8;let hg:aA I e.1=⇑e.2:=CN hd.nb he;let h9:∀q y,aA I q=⇑y->e.2.1<y.1\/e.2.1=y.1/\e.2.2<=y.2:=λq y hy=>h4 (q,y) (Cj hy);let#[d1,d2,d3]:=MW GG hd hg h9;let e3:e.1<=w.length:=hd.le.2 _ (qL.mpr #[e,he,rfl]);let#[i,f1,f2,f3]:=Iu (fD:=cN) AR (by rw[hg];show λz=>nomatch z);let ep:aV false (bF zP L) ((cI cN L).map .sh) (zP e.1) (.sh (.tup [.int e.2.1,.int (e.2.2:Int)]))=kN (aY L e.1 e.2):=Cg AR;let r1:=Ka (v:=e.2) d3;simp! [zaz,em,kY,cN,length_cons,length_nil];rw[HG e3];show#[rfl,BM AR hd.nb,i,f1,rfl,BM AR hd.nl,by rw[BX];simp only[cC];lia,?_];rw[f2,f3,ep];generalize k1:aY L e.1 e.2=L' at*;generalize k2:eW I e.1=hx at*;simp! [dD,Fq,HJ];let ha:=(FK d1).1;refine Bk (toD:=λf:Nat×Int=>D.tup [zP f.1,.int f.2]) (λh1 U=>∃(I:List (Nat×(Int×Nat)))(o7 o8 O:Option S),DJ (nb B w) (cP B w pr) w.length w.length (λr s=>r≠e.1\/∃v,(s,v)∈h1) L' I/\(∀o∈[o7,o8,O],cz o)/\
   U=[⇑(.sh (nE w.length G)),⇑(.sh (.int (w.length:Int))),⇑(kN L'),⇑(kN I),⇑(.sh (.int e.2.1)),⇑(.sh (.int (e.2.2:Int))),⇑(.sh (zP e.1)),o7,o8,O]) (G e.1) (λh1 f hp D2 U e2 hI h7 s1 hc s2=>?_) (λU hI=>?_) #[hx,o7,o8,O,IU d1 λr s k=>k.elim id λ⟨_,z⟩=>(nomatch z),λo M=>h3 o (by simp at M⊢;grind),rfl]
  .obtain⟨J,p7,p8,p9,F,h2,rfl⟩:=hI;let hf:aA (G e.1) f.1=⇑f.2:=CN (hG.nd _) (by rw[<-e2];simp);rw[hG.get]at hf;split at hf
   .rename_i e1;let hq:=zdJ.mp e1;let hv:=qg hf;let#[hb,hi]:=FK F;let nx:∀{Y:List (Nat×(Int×Nat))}{O:Option S},DJ (nb B w) (cP B w pr) w.length w.length (λr s=>(r≠e.1\/∃v,(s,v)∈h1)\/r=e.1/\s=f.1) L' Y->cz O->D2.nx [⇑(.sh (nE w.length G)),⇑(.sh (.int (w.length:Int))),⇑(kN L'),⇑(kN Y),⇑(.sh (.int e.2.1)),⇑(.sh (.int (e.2.2:Int))),⇑(.sh (zP e.1)),⇑(.sh (zP f.1)),⇑(.sh (.int f.2)),O]:=λ{Y O} k k9=>h7 _ ⟨Y,_,_,_,IU k λr s z=>by
      rcases z with z|⟨v,z⟩
      .show .inl (.inl z)
      .rcases qy.mp z with z|z
       .show .inl (.inr #[v,z])
       .cases qv.mp z;by_cases hr:r=e.1
        .show .inr #[hr,rfl]
        .show .inl (.inl hr),λo M=>by
      rcases qB.mp M with rfl|M
      .show .inr #[_,rfl,rfl]
      .rcases qB.mp M with rfl|M
       .show .inr #[_,rfl,rfl]
       .rw[qv.mp M];show k9,rfl⟩
    simp! [sV,zP,kN,Ck,length_cons,length_nil,De,map_some,not_not];cases q1:aA L' f.1 with
    |some y=>simp! [isNone_some];show nx (IL F d2 (.inl #[y,q1])) (.inr #[_,rfl,rfl])
    |none=>
     simp! [isNone_none,zP,kN,Ck,De,map_some,not_not];let h6:aV false (bF zP J) ((cI cN J).map .sh) (D.int (f.1:Int)) (.sh (.tup [.int (e.2.1+f.2),.int ((e.2.2:Int)+1)]))=kN (aY J f.1 (e.2.1+f.2,e.2.2+1)):=Cg (fD:=cN) (v:=(e.2.1+f.2,e.2.2+1)) AR;let put:(∀y,aA J f.1=⇑y->e.2.1+cP B w pr e.1 f.1<y.1\/e.2.1+cP B w pr e.1 f.1=y.1/\e.2.2+1<y.2)->_:=λhl=>Nu GG F d2 hq q1 hl;rw[hv]at put;cases q2:aA J f.1 with
     |none=>simp! [isNone_none];show#[BM AR F.nb,by rw[BX];simp only[cC];lia,?_];rw[h6];show nx (put λy hy=>by rw[q2]at hy;cases hy) (.inr #[_,rfl,rfl])
     |some y=>
      let hk:gY (D.tup [.int (e.2.1+f.2),.int ((e.2.2:Int)+1)]) (cN y)=⇑↥(e.2.1+f.2<y.1\/e.2.1+f.2=y.1/\e.2.2+1<y.2):=LV (x:=(e.2.1+f.2,e.2.2+1));simp! [isNone_some,lk_d,q2,map_some,hk];by_cases hl:e.2.1+f.2<y.1\/e.2.1+f.2=y.1/\e.2.2+1<y.2
      .rw[qS hl];simp! [e_C];show#[BM AR F.nb,by rw[BX];simp only[cC];lia,?_];rw[h6];show nx (put λu hu=>by rw[q2]at hu;cases hu;show hl) (.inr #[_,rfl,rfl])
      .rw[qT hl];simp! [e_C];show nx (IL F d2 (.inr #[y,q2,by rw[hv];lia])) (.inr #[_,rfl,rfl])
   .cases hf
  .obtain⟨J,p7,p8,p9,F,h2,rfl⟩:=hI;refine Ek (m':=m-1) ∅ #[L',J,_,_,_,p7,p8,p9,ON GG F d2 λr s hs=>?_,∅,λo M=>?_,rfl]
   .by_cases hr:r=e.1
    .subst hr;let h5:=hG.get e.1 s;rw[q8 (zdJ.mpr hs)]at h5;show .inr #[_,Cj h5]
    .show .inl hr
   .simp only[qB]at M;rcases M with rfl|rfl|rfl|M
    .show .inr #[_,rfl,rfl]
    .show .inr #[_,rfl,rfl]
    .show .inr #[_,rfl,rfl]
    .show h2 o ↑M
def MP{l:List Nat}(h:l≠[]):∃m,kO [.lst (l.map zP)]=⇑(.sh (zP m))/\m∈l/\∀z∈l,m<=z:=by
 let e:l.map zP=(l.map λ(q:Nat)=>(q:Int)).map D.int:=by rw[qF];rfl
 cases q:(l.map λ(q:Nat)=>(q:Int)).min? with
 |none=>show(h (by let:=List.min?_eq_none_iff.mp q;simpa using this)).elim
 |some m=>
  let#[h1,h2]:=List.min?_eq_some_iff.mp q;let#[k,v,rfl]:=qL.mp h1;show#[k,?_,v,λz i=>?_]
  .show(bO (l.map zP)).bind _=_;rw[e,ET,Option.bind_some,q];rfl
  .let:=h2 (z:Int) (qL.mpr #[z,i,rfl]);lia
def IM{N:Nat->List Nat}{c:Nat->Nat->Int}{g p:Nat}{L:List (Nat×(Int×Nat))}(h:Told N c g L){x:Int×Nat}(v:BP N c g p x):aA L p=⇑x:=by let#[#[l,B,F],_]:=id v;let#[y,i]:=h.2.1|>λ_=>h.2.2 l p _ B;rw[i,Il (h.2.1 p y i) v]
def Qg{N:Nat->List Nat}{c:Nat->Nat->Int}{n g:Nat}(G:gJ N c n){X:Int×Nat}(h:BP N c g 0 X):X.2<=n:=by let#[#[l,i,L],h2]:=h;let#[m,rfl]:=CS i;let v:=Hk i rfl .z;rw[zero_add]at v;let#[B,J,I,O,F]:=Gx G v;let M:=h2 B J (BQ I);rw[zj7]at F;lia
def lC(L:List (Nat×(Int×Nat)))(x:Int×Nat)(f:Nat×Int):Bool:=match aA L f.1 with
 |some y=>↥(y.1=x.1-f.2/\y.2+1=x.2)
 |none=>false
def LN{y:Int×Nat}{a b:Int}:eS (.tup [.int y.1,.int (y.2:Int)]) (.tup [.int a,.int b])=⇑↥(y.1=a/\(y.2:Int)=b):=by unfold eS;rw[q9 (by simp[aT,bG,cZ,aW])];show congrArg some (decide_eq_decide.mpr (by simp))
def Ma{n:Nat}{G:Gs}:D.lst ((nC n G).map S.toD)=nE n G:=by rw[<-MV];show D.lst _=D.lst (S.toDs _);rw[S.toDs_map]
def Rw{B:List Wd}{w:Wd}{v:List Int}(i:rO B w)(hk:v.length=B.length)(h0:∀z∈v,0<=z)
  (h:∀d,Due (nb B w) (cP B w v) w.length d->P (.sh d) [.sh (zK B),.sh (.str w),.sh (.tup (v.map D.int))]):ff [.sh (zK B),.sh (.str w),.sh (.tup (v.map D.int))] P PX:=by
 let Y:=Fh (B:=B) (w:=w) h0;let r3:=i.tw;show AN rfl rfl ?_;simp! [e_C];show Sm i hk λG hG=>?_;simp! [Ma];show Sa h0 ∅ hG λL hL=>?_;let eL:(kN L).toD=md L:=by show D.dct false _ (S.toDs _)=_;rw[S.toDs_map,Ez];rfl
 let c0:nU (.int 0) (.dct false (bF zP L) (cI cN L))=⇑(!(aA L 0).isNone):=De (q:=0);simp! [eL,md,eM,c0,map_some,not_not];cases q0:aA L 0 with
 |none=>simp! [isNone_none];show h _ (ML hL q0)
 |some X=>
  let hX:=hL.2.1 0 X q0;simp! [isNone_some];show Fp (λm U=>∃(I:List Nat)(p:Nat)(x:Int×Nat)(o7 o8:Option S),cf (nb B w) (cP B w v) w.length X I p x/\x.2=m/\U=[⇑(.sh (zK B)),⇑(.sh (.str w)),⇑(.sh (.tup (v.map D.int))),⇑(.sh (nE w.length G)),⇑(.sh (.dct false (bF zP L) (cI cN L))),⇑(.sh (.int (p:Int))),⇑(.lst (((I++[p]).map zP).map .sh)),o7,o8]) X.2 #[[],0,X,none,none,RL hX,rfl,rfl] λm U hJ=>?_;let#[I,p,x,o7,o8,hF,ha,rfl]:=hJ;let#[a,h4,_,hs]:=hF.wr;let e4:p<=w.length:=(El Y h4).2 p (El Y h4).1;simp! [e_C];by_cases hp:p=w.length
  .subst hp;let h7:lk (bF zP L) (cI cN L) (.int 0)=⇑(cN X):=by let:=lk_d (fD:=cN) (L:=L) (q:=0);rw[q0]at this;exact this
   let#[h9,hi]:=OI Y hF hX;simp! [decide_true,Bool.not_true,oA,h7,cN,zaz,length_cons,length_nil,length_map,length_append];show h _ (.inr #[X.1,_,rfl,h9,hi])
  .rw[qT (show¬((p:Int)=(w.length:Int)) by lia)];let h6:lk (bF zP L) (cI cN L) (.int (p:Int))=⇑(cN x):=lk_d.trans (by rw[IM hL hF.bp];rfl);let h8:iI (S.sh (nE w.length G)) (.int (p:Int))=⇑(.sh (dD (G p))):=HG e4;simp! [sJ,sZ,h6,cN,length_cons,length_nil];rw[h8];simp! [dD,Fq,HJ];let hm:=Qg Y hX;let r1:=hG.len p;let r2:=Gn i.nd i.ne i.six i.tw;let h3:∀f∈G p,f.1∈nb B w p/\f.2=cP B w v p f.1/\∃y,aA L f.1=⇑y:=λf i=>by
    let O:=CN (hG.nd p) i;rw[hG.get]at O;split at O
    .rename_i hb;let M:=zdJ.mp hb;let#[#[l,hw,_],_]:=hF.bp;show#[M,(qg O).symm,hL.2.2 _ _ _ (.s hw (Y.sym M))]
    .cases O
   show LH (n:=9) (toD:=λf:Nat×Int=>D.tup [zP f.1,.int f.2]) (G p) (λf=>if lC L x f=true then ⇑(.sh (zP f.1))else none) (λf i l o o' K hl hK=>?_) λo o'=>?_
   .obtain⟨M,hv,y,J⟩:=h3 f i;let hx:lk (bF zP L) (cI cN L) (.int (f.1:Int))=⇑(.tup [.int y.1,.int (y.2:Int)]):=lk_d.trans (by rw[J];rfl);simp! [eI,zP,hx,length_cons,length_nil,LN];let et:↥(y.1=x.1-f.2/\(y.2:Int)=(x.2:Int)-1)=lC L x f:=by unfold lC;rw[J];exact decide_eq_decide.mpr ∅
    rw[et];cases q:lC L x f
    .simp! [dv];let:=hK ⇑(.sh (.int (f.1:Int))) ⇑(.sh (.int f.2));rw[q,q9 ⋯,toList_none,qA]at this;show this
    .simp! [lG,sY];rw[q,q8 rfl]at hK;show#[by simp only[cC];lia,hK _ _]
   .rw[Fo (λf:Nat×Int=>lC L x f) (λf=>S.sh (zP f.1)),show(((G p).filter λf=>lC L x f).map λf=>S.sh (zP f.1))=((((G p).filter λf=>lC L x f).map (·.1)).map zP).map S.sh by rw[qF,qF];rfl];let F:∀q,q∈((G p).filter λf=>lC L x f).map (·.1)↔fQ (nb B w) (cP B w v) w.length p x q:=λq=>by
     rw[qL];constructor
     .rintro⟨f,i,rfl⟩;rw[mem_filter]at i;let#[M,hv,y,J]:=h3 f i.1;let ht:=i.2;unfold lC at ht;rw[J]at ht;let ht:=qV ht;show#[M,y,hL.2.1 _ y J,by rw[<-hv];show ht.1,ht.2]
     .rintro⟨M,y,J,h1,h2⟩;let O:=hG.get p q;rw[q8 (zdJ.mpr M)]at O;show#[(q,cP B w v p q),mem_filter.mpr #[Cj O,?_],rfl];show lC L x (q,cP B w v p q)=true;unfold lC;rw[show aA L (q,cP B w v p q).1=⇑y from IM hL J];show qS #[h1,h2]
    let#[h5,e3]:=OZ Y hF.bp hp;let#[q,eb,e2,e1]:=MP (l:=((G p).filter λf=>lC L x f).map (·.1)) λz=>by let:=(F h5).mpr e3;rw[z]at this;cases this
    let#[y,_,_,hd,hc]:=Qv Y hF ((F q).mp e2) λr hr=>e1 r ((F r).mpr hr);simp! [zaz,eb,zP,length_append,length_map,length_cons,length_nil];show#[by simp only[cC];lia,Ek (m':=y.2) ∅ #[I++[p],q,y,⇑(.sh (.int x.1)),⇑(.sh (.int (x.2:Int))),hc,rfl,?_]];simp[zP]
def Nv{B:List Wd}{z:Wd}(h:z∈B):wL ((B.map λb=>↥(b=z)).map D.bl) (.bl true)=⇑(B.idxOf z):=by
 unfold wL;rw[q8 (by rw[qJ];intro d v;let#[b,_,rfl]:=qL.mp v;rfl)]
 rw[List.findIdx?_eq_some_iff_getElem];let hi:B.idxOf z<B.length:=List.idxOf_lt_length_iff.mpr h;show#[↑hi,?_,λj i=>?_]
 .simp[List.getElem_idxOf hi]
 .let:¬B[j]'∅=z:=by let:=List.not_of_lt_findIdx i;simpa using this
  simp[this]
def Fx:nS .non .non=⇑true:=by simp[nS]
def FH{l:List D}:nS (.tup l) .non=⇑false:=by simp[nS]
def NZ:cV .non .non=⇑false:=by unfold cV;rw[Fx];rfl
def Oz{l:List D}:cV (.tup l) .non=⇑true:=by unfold cV;rw[FH];rfl
def kP(k:Nat×Nat):D:=.tup [zP k.1,zP k.2]
def Fw:∀a b:Nat×Nat,kP a=kP b->a=b:=λa b h=>by unfold kP zP at h;simp at h;show Prod.ext ∅ ∅
def fW(x:Int×List Nat):D:=.tup [.int x.1,.int (x.2.length:Int),.tup (x.2.map zP)]
def Nt{x y:Int×List Nat}:aO (fW x) (fW y)=.lt↔kT x.1 x.2<kT y.1 y.2:=by
 unfold fW kT;let e:∀s:List Nat,s.map zP=(nI s).map D.int:=λs=>by unfold nI;rw[qF];rfl
 rw[aO,aJ,aJ,aJ,aO,aO,aO,e,e,Hc,aJ,qD,qD];by_cases h1:x.1<y.1
 .simp[h1]
 .by_cases h2:y.1<x.1
  .simp[h1,h2];lia
  .have e:x.1=y.1:=by lia
   rw[q9 h1,q9 h2];by_cases v:(x.2.length:Int)<y.2.length
   .simp[v,e]
   .by_cases F:(y.2.length:Int)<x.2.length
    .simp[v,F,e];lia
    .have G:(x.2.length:Int)=y.2.length:=by lia
     rw[q9 v,q9 F];simp only[e,G,Int.lt_irrefl,false_or,true_and];by_cases i:nI x.2<nI y.2
     .simp[i]
     .by_cases B:nI y.2<nI x.2
      .simp[i,B]
      .simp[i,B]
def JL:∀s t:List Nat,cF (s.map zP) (t.map zP)=true
 |[],_=>rfl
 |_::_,[]=>rfl
 |a::s,b::t=>by show(true&&cF (s.map zP) (t.map zP))=true;rw[JL s t];rfl
def Pw{x y:Int×List Nat}:cB (fW x) (fW y)=true/\cZ (fW x)<=9:=by
 unfold fW;show#[?_,?_]
 .show(true&&(true&&(cF (x.2.map zP) (y.2.map zP)&&true)))=true;rw[JL];rfl
 .show max 0 (max 0 (max (aW (x.2.map zP)+1) 0))+1<=9;rw[show x.2.map zP=(nI x.2).map D.int by unfold nI;rw[qF];rfl,Kv];decide
def Me{x y:Int×List Nat}:gY (fW x) (fW y)=⇑↥(kT x.1 x.2<kT y.1 y.2):=by unfold gY;rw[q8 Pw];show congrArg some (decide_eq_decide.mpr Nt)
abbrev Cs:=List ((Nat×Nat)×Int)
structure xQ(B:List Wd)(w:Wd)(pr:List Int)(R:Nat×Nat->Prop)(k:Nat)(C:Cs):Prop where
 nd:(C.map (·.1)).Nodup
 get:∀e,aA C e=(open Classical in if R e then ⇑(cP B w pr e.1 e.2)else none)
 len:C.length<=k
def OA{B:List Wd}{w:Wd}{F:List Int}{R:Nat×Nat->Prop}{k:Nat}{C:Cs}(h:xQ B w F R k C)(e:Nat×Nat):xQ B w F (λf=>R f\/f=e) (k+1) (aY C e (cP B w F e.1 e.2)):=by
 let#[h1,h2,I]:=BK (k:=e) (v:=cP B w F e.1 e.2) h.nd;show#[h1,λf=>?_,by let:=h.len;lia];rw[AJ,h.get];by_cases i:e=f
 .rw[q8 i,q8 (.inr i.symm),i]
 .rw[q9 i];by_cases G:R f
  .rw[q8 G,q8 (.inl G)]
  .rw[q9 G,q9 λz=>z.elim G λz=>i z.symm]
def Gq{B:List Wd}{w:Wd}{v:List Int}{R i:Nat×Nat->Prop}{k F:Nat}{C:Cs}(h:xQ B w v R k C)(G:∀e,R e↔i e)(I:k<=F):xQ B w v i F C:=by let e:R=i:=funext λe=>propext (G e);subst e;show#[h.nd,h.get,le_trans h.len I]
def lE(F:Fd):S:=.dct false (bF zP F) ((cI fW F).map .sh)
def nR(C:Cs):D:=.dct true (bF kP C) (cI D.int C)
def wR(C:Cs):S:=.dct true (bF kP C) ((cI D.int C).map .sh)
def Mt{B:List Wd}{w:Wd}{p:Nat}(i:p<=w.length):atI (bE B w) (p:Int)=⇑(.lst ((nb B w p).map zP)):=by show Bp ∅ ?_;rw[qX];unfold bE;rw[qG,getElem?_range ∅];rfl
def HN{C:Cs}:(bF kP C).all nB=true:=by unfold bF;rw[all_map];show qJ.mpr λ_ _=>rfl
theorem Qr{B:List Wd}{w:Wd}{J:List Int}(hf:rO B w)(hpl:J.length=B.length)(h0:∀z∈J,0<=z)
  (h:∀d,Due (nb B w) (cP B w J) w.length d->P (.sh d) [.sh (zK B),.sh (.str w),.sh (.lst (bE B w)),.sh (.tup (J.map D.int))]):sL [.sh (zK B),.sh (.str w),.sh (.lst (bE B w)),.sh (.tup (J.map D.int))] P PX:=by
 let GG:=Fh (B:=B) (w:=w) h0;let h12:=hf.tw;let k2:(bE B w).length=w.length+1:=by unfold bE;rw[qp,qE]
 show AN rfl rfl ?_;simp! [k2];show#[by simp only[cC];lia,?_];rw[AL (n:=w.length+1) ∅];show Bk (λh3 U=>∃(C:Cs)(O L:Option S),xQ B w J (λe=>e.2<h3.length/\e.1∈nb B w e.2) (h3.length*13) C/\U=[⇑(.sh (zK B)),⇑(.sh (.str w)),⇑(.sh (.lst (bE B w))),⇑(.sh (.tup (J.map D.int))),⇑(wR C),O,L,none,none,none,none,none,none,none]) (List.range (w.length+1)) (λh3 p h9 D2 U e hI h5 hct k3 hbk=>?_) (λU hI=>?_) #[[],none,none,#[.nil,λe=>by rw[q9 λz=>by simp at z];rfl,zero_le _],rfl]
 .obtain⟨C,O,L,hC,rfl⟩:=hI;let#[hp1,hp2]:=Fc e;let hpn:p<=w.length:=by lia
  simp! [oK,Mt hpn];let hnl:=Fz (B:=B) (w:=w) (p:=p);show Bk (toD:=zP) (λh2 U=>∃(C:Cs)(L:Option S),xQ B w J (λe=>(e.2<h3.length/\e.1∈nb B w e.2)\/(e.2=p/\e.1∈h2)) (h3.length*13+h2.length) C/\U=[⇑(.sh (zK B)),⇑(.sh (.str w)),⇑(.sh (.lst (bE B w))),⇑(.sh (.tup (J.map D.int))),⇑(wR C),⇑(.sh (.int (p:Int))),L,none,none,none,none,none,none,none]) (nb B w p) (λh2 q r1 D3 U e2 hI hd hct2 hrt2 hbk2=>?_) (λU hI=>?_) #[C,L,Gq hC (λe=>by simp) (by simp),rfl]
  .obtain⟨C,L,hC,rfl⟩:=hI;let hq:q∈nb B w p:=by rw[<-e2];simp
   let hp2l:h2.length<=13:=by let:=congrArg List.length e2;rw[qr,qu]at this;lia
   have ha:=hC.len;simp! [oM,zP,zK,wR,DZ,Ea];let h6:eF w (min p q) (max p q)∈B:=by
    let:=zb5.mp hq;unfold lD at this;rw[or_eq_true]at this;rcases this with z|z
    .obtain⟨z1,_,z3⟩:=zaF.mp z;rw[min_eq_left (le_of_lt z1),Nat.max_eq_right (le_of_lt z1)];show z3
    .obtain⟨z1,_,z3⟩:=zaF.mp z;rw[min_eq_right (le_of_lt z1),Nat.max_eq_left (le_of_lt z1)];show z3
   let hk:B.idxOf (eF w (min p q) (max p q))<J.length:=by rw[hpl];show List.idxOf_lt_length_of_mem h6
   let hat:atI (J.map D.int) (B.idxOf (eF w (min p q) (max p q)):Int)=⇑(.int (cP B w J q p)):=Bp ∅ (by rw[qX,qG,qi hk];unfold cP;rw[min_comm q p,max_comm q p,qi hk];rfl)
   let ep:aV true (bF kP C) ((cI D.int C).map .sh) (.tup [.int (q:Int),.int (p:Int)]) (.sh (.int (cP B w J q p)))=wR (aY C (q,p) (cP B w J q p)):=Cg Fw (k:=(q,p));show Fi (n:=14) (toD:=D.str) B (λb=>.sh (.bl ↥(b=eF w (min p q) (max p q)))) (λb hb l o K hl hK=>?_) λo=>?_
   .simp! [eI,lG,oH,DZ,Ea,FX];let:=hf.six;show#[by simp only[cC];lia,hK _]
   .rw[show(B.map λb=>S.sh (D.bl ↥(b=eF w (min p q) (max p q))))=((B.map λb=>↥(b=eF w (min p q) (max p q))).map D.bl).map S.sh by rw[qF,qF];rfl];simp! [zaz,zfU (Nv h6),hat,length_cons,length_nil];show#[rfl,BM Fw hC.nd,by rw[BX];simp only[cC];lia,?_];rw[ep];exact hd _ ⟨_,_,Gq (OA hC (q,p)) (λe=>by
     rw[qy,qv];constructor
     .rintro((z|⟨z1,z2⟩)|rfl)
      .show .inl z
      .show .inr #[z1,.inl z2]
      .show .inr #[rfl,.inr rfl]
     .rintro(z|⟨z1,z2|z2⟩)
      .show .inl (.inl z)
      .show .inl (.inr #[z1,z2])
      .show .inr (Prod.ext z2 z1)) (by rw[qr,qC];lia),rfl⟩
  .obtain⟨C,L,hC,rfl⟩:=hI;refine h5 _ #[C,_,L,Gq hC (λe=>?_) ?_,rfl]
   .rw[qr,qC,<-hp1];constructor
    .rintro(⟨z1,z2⟩|⟨z1,z2⟩)
     .show#[∅,z2]
     .show#[∅,by rw[z1];show z2]
    .rintro⟨z1,z2⟩;by_cases hz:e.2=p
     .show .inr #[∅,?_];let z3:=z2;rw[show e.2=h3.length by lia]at z3;show z3
     .show .inl #[∅,z2]
   .rw[qr,qC];lia
 .obtain⟨C,O,L,hC,rfl⟩:=hI;rw[qE]at hC;simp! [e_C];let hs:∀q p,p∈nb B w q->(q,p)∈C.map (·.1):=λq p hp=>by let Y:=hC.get (q,p);rw[q8 #[by let:=(CH hp).1;show p<_;lia,by show q∈nb B w p;show GG.sym hp]]at Y;exact qL.mpr #[_,Cj Y,rfl]
  have hcg:∀q p,(q,p)∈C.map (·.1)->p∈nb B w q/\aA C (q,p)=⇑(cP B w J q p):=λq p hm=>by
   let#[e,he,e1]:=qL.mp hm;let Y:=CN hC.nd he;rw[hC.get]at Y;split at Y
   .rename_i hr;rw[e1]at hr;show#[GG.sym hr.2,by rw[hC.get,q8 hr]]
   .cases Y
  refine Fp (λm U=>∃(F:Fd)(k:Nat)(i:Bool)(o4 O L o9 I G v:Option S),xD (nb B w) (cP B w J) w.length F/\(i=true->xM (nb B w) (cP B w J) k F/\k<=w.length/\m=w.length+1-k)/\(i=false->kh (nb B w) (cP B w J) F)/\(∀p x,aA F p=⇑x->x.2.length<=k*200+1)/\(o4=⇑(wR C)\/o4=⇑(.sh (nR C)))/\
   U=[⇑(.sh (zK B)),⇑(.sh (.str w)),⇑(.sh (.lst (bE B w))),⇑(.sh (.tup (J.map D.int))),o4,O,L,⇑(lE F),⇑(.sh (.bl i)),o9,I,G,v,none]) (w.length+1) ⟨[(0,(0,[0]))],0,true,_,O,L,none,none,none,none,Kn,λ_=>#[LM (n:=w.length) Kn,zero_le _,rfl],λz=>(nomatch z),λp x hx=>by
   let:=Cj hx;cases qv.mp this;simp,.inl rfl,rfl⟩ λm U hJ=>?_
  let#[F,k,i,o4,O,L,o9,I,G,v,hF,hmt,hmf,hrl,h4,rfl]:=hJ;cases i with
  |false=>
   let hO:=hmf rfl;let e3:lk (bF zP F) (cI fW F) (.int (w.length:Int))=(aA F w.length).map fW:=lk_d;cases q:aA F w.length with
   |none=>simp! [oA,lE,Ck,e3,q,Option.map_none,Fx];show h _ (.inl #[rfl,λl a hw=>?_]);let#[x,hx,_]:=hO l _ a hw;rw[q]at hx;cases hx
   |some x=>simp! [oA,lE,Ck,e3,q,map_some,fW,FH];show h _ (.inr #[x.1,x.2,rfl,hF.wr _ x q,λm b hw=>?_]);let#[z,hz,hle]:=hO m _ b hw;rw[q]at hz;cases hz;show hle
  |true=>
   obtain⟨hk,hkn,rfl⟩:=hmt rfl;let h8:∀D2:Ends,(∀(F':Fd)(i:Bool)(O L o9 I G v:Option S),rN (nb B w) (cP B w J) w.length k F F' (C.map (·.1)) i->(∀p x,aA F' p=⇑x->x.2.length<=k*200+1+C.length)->D2.nx [⇑(.sh (zK B)),⇑(.sh (.str w)),⇑(.sh (.lst (bE B w))),⇑(.sh (.tup (J.map D.int))),⇑(.sh (nR C)),O,L,⇑(lE F'),⇑(.sh (.bl i)),o9,I,G,v,none])->
     cK (bP [zy 6,zy 5]) gK (bF kP C) D2 [⇑(.sh (zK B)),⇑(.sh (.str w)),⇑(.sh (.lst (bE B w))),⇑(.sh (.tup (J.map D.int))),⇑(.sh (nR C)),O,L,⇑(lE F),⇑(.sh (.bl false)),o9,I,G,v,none]:=λD2 hn=>by
    rw[show bF kP C=(C.map (·.1)).map kP by unfold bF;rw[qF];rfl];show Bk (λps U=>∃(F':Fd)(i:Bool)(O L o9 I G v:Option S),rN (nb B w) (cP B w J) w.length k F F' ps i/\(∀p x,aA F' p=⇑x->x.2.length<=k*200+1+ps.length)/\U=[⇑(.sh (zK B)),⇑(.sh (.str w)),⇑(.sh (.lst (bE B w))),⇑(.sh (.tup (J.map D.int))),⇑(.sh (nR C)),O,L,⇑(lE F'),⇑(.sh (.bl i)),o9,I,G,v,none]) (C.map (·.1)) (λps e h9 D3 U e2 hI h5 hct k3 hbk=>?_) (λU hI=>?_) #[F,false,O,L,o9,I,G,v,SF hF,hrl,rfl]
    .obtain⟨F',i,O,L,o9,I,G,v,Y,M,rfl⟩:=hI;let hpl2:ps.length<C.length:=by let:=congrArg List.length e2;rw[qr,qu,qp]at this;lia
     let#[q,p]:=e;let#[hp,hc]:=hcg q p (by rw[<-e2];simp);let hfl:=Jp GG Y.f;let e4:∀r:Nat,lk (bF zP F') (cI fW F') (.int (r:Int))=(aA F' r).map fW:=λr=>lk_d;let s2:lk (bF kP C) (cI D.int C) (.tup [.int (q:Int),.int (p:Int)])=⇑(.int (cP B w J q p)):=(Fm (kD:=kP) Fw (k:=(q,p))).trans (by rw[hc];rfl);simp! [oJ,kP,zP,length_cons,length_nil,lE,Ck,eM,De];cases q1:aA F' q with
     |none=>simp! [isNone_none,Bool.not_true];show h5 _ #[F',i,_,_,o9,I,G,v,JE Y (λx hx=>by rw[q1]at hx;cases hx),λr x hx=>le_trans (M r x hx) (by rw[qr];lia),rfl]
     |some x=>
      let hxl:=M q x q1;let ha:=hC.len;let hxl2:x.2.length<=5000:=by let:k*200<=12*200:=Nat.mul_le_mul_right _ ∅;let:(w.length+1)*13<=13*13:=Nat.mul_le_mul_right _ ∅;lia
      let hi:D.tup [.int (x.1+cP B w J q p),.int ((x.2.length:Int)+1),.tup (x.2.map zP++[.int (p:Int)])]=fW (x.1+cP B w J q p,x.2++[p]):=by unfold fW;simp[zP]
      have ep:aV false (bF zP F') ((cI fW F').map .sh) (.int (p:Int)) (.sh (fW (x.1+cP B w J q p,x.2++[p])))=lE (aY F' p (x.1+cP B w J q p,x.2++[p])):=Cg AR;let put:(∀y,aA F' p=⇑y->kT (x.1+cP B w J q p) (x.2++[p])<kT y.1 y.2)->_:=λhl=>h5 [⇑(.sh (zK B)),⇑(.sh (.str w)),⇑(.sh (.lst (bE B w))),⇑(.sh (.tup (J.map D.int))),⇑(.sh (nR C)),⇑(.sh (.int (p:Int))),⇑(.sh (.int (q:Int))),⇑(lE (aY F' p (x.1+cP B w J q p,x.2++[p]))),⇑(.sh (.bl true)),⇑(.sh (.int x.1)),⇑(.sh (.int (x.2.length:Int))),⇑(.sh (.tup (x.2.map zP))),⇑(.sh (fW (x.1+cP B w J q p,x.2++[p]))),none] ⟨_,_,_,_,_,_,_,_,Pm GG Y hk hp q1 hl,λr y hy=>by
       rw[qr,qC];rw[AJ]at hy;split at hy
       .cases hy;rw[qr,qC];lia
       .let:=M r y hy;lia,rfl⟩
      simp! [isNone_some,Bool.not_false,e4,q1,map_some,fW,length_cons,length_nil,length_map,nR,s2];rw[hi,De];cases q2:aA F' p with
      |none=>simp! [map_some,isNone_none,not_not];show#[BM AR Y.f.nd,by rw[BX];simp only[cC];lia,?_];rw[ep];show put λy hy=>by rw[q2]at hy;cases hy
      |some y=>
       simp! [map_some,isNone_some,not_not,lE,Ck,e4,q2,Me];by_cases hl:kT (x.1+cP B w J q p) (x.2++[p])<kT y.1 y.2
       .rw[qS hl];simp! [e_C];show#[BM AR Y.f.nd,by rw[BX];simp only[cC];lia,?_];rw[ep];show put λu hu=>by rw[q2]at hu;cases hu;show hl
       .rw[qT hl];simp! [e_C];show h5 _ #[F',i,_,_,_,_,_,_,JE Y (λu hu=>by rw[q1]at hu;cases hu;show#[y,q2,List.not_lt.mp hl]),λr x hx=>le_trans (M r x hx) (by rw[qr];lia),rfl]
    .obtain⟨F',i,O,L,o9,I,G,v,Y,M,rfl⟩:=hI;show hn F' i O L o9 I G v Y (by rw[qp]at M;show M)
   let ha:=hC.len;let hcl2:C.length<=169:=by let:(w.length+1)*13<=13*13:=Nat.mul_le_mul_right _ ∅;lia
   have h7:∀(F':Fd)(i:Bool)(O L o9 I G v:Option S),rN (nb B w) (cP B w J) w.length k F F' (C.map (·.1)) i->(∀p x,aA F' p=⇑x->x.2.length<=k*200+1+C.length)->_:=λF' i O L o9 I G v Y M=>(#[F',k+1,i,⇑(.sh (nR C)),O,L,o9,I,G,v,Y.f,λhm=>#[(IF Y hk hs).1,Y.yes hm,rfl],λhm=>(IF Y hk hs).2 hm,λp x hx=>by let:=M p x hx;lia,.inr rfl,rfl]:
    (∃(F1:Fd)(k1:Nat)(h1:Bool)(o4 p5 p6 p9 s1 r3 r2:Option S),xD (nb B w) (cP B w J) w.length F1/\(h1=true->xM (nb B w) (cP B w J) k1 F1/\k1<=w.length/\w.length+1-(k+1)=w.length+1-k1)/\(h1=false->kh (nb B w) (cP B w J) F1)/\(∀p x,aA F1 p=⇑x->x.2.length<=k1*200+1)/\(o4=⇑(wR C)\/o4=⇑(.sh (nR C)))/\
   [⇑(.sh (zK B)),⇑(.sh (.str w)),⇑(.sh (.lst (bE B w))),⇑(.sh (.tup (J.map D.int))),⇑(.sh (nR C)),O,L,⇑(lE F'),⇑(.sh (.bl i)),o9,I,G,v,none]=[⇑(.sh (zK B)),⇑(.sh (.str w)),⇑(.sh (.lst (bE B w))),⇑(.sh (.tup (J.map D.int))),o4,p5,p6,⇑(lE F1),⇑(.sh (.bl h1)),p9,s1,r3,r2,none]))
   simp! [sJ,oI];rcases h4 with rfl|rfl
   .simp! [wR,Ez,HN];show h8 _ λF' i O L o9 I G v Y M=>Ek (m':=w.length+1-(k+1)) ∅ (h7 F' i O L o9 I G v Y M)
   .simp! [nR,HN];show h8 _ λF' i O L o9 I G v Y M=>Ek (m':=w.length+1-(k+1)) ∅ (h7 F' i O L o9 I G v Y M)
structure Q4 where
 B:List Wd
 w:Wd
 pr:List Int
 d:D
def xI(c:Q4):D:=.tup [zK c.B,.str c.w,.tup (c.pr.map D.int),c.d]
@[inline]def Q4.ok(c:Q4):Prop:=rO c.B c.w/\c.pr.length=c.B.length/\(∀z∈c.pr,0<=z)/\Due (nb c.B c.w) (cP c.B c.w c.pr) c.w.length c.d
abbrev ot:=List Wd×List Int
def me(c:ot):D:=.tup [zK c.1,.tup (c.2.map D.int)]
def OK{B G:List Wd}{w:Wd}(v:G.Sublist B)(i:rO B w):rO G w:=#[i.nd.sublist v,λx F=>i.ne x (v.subset F),λx F=>i.le x (v.subset F),le_trans v.length_le i.six,i.tw]
def Bx:∀ns:List Int,ns.length<=63->lQ [.sh (.lst (ns.map .int))] (λs _=>s=.sh (.bl true)) λ_ _=>False:=by
 intro ns hl;show AN rfl rfl ?_;simp! [e_C];show#[by simp only[cC];lia,?_];rw[AL (n:=2) ∅];show Bk (λO U=>∃(A:List Q4)(o2 o3 o4 o5 o6 M B v i:Option S),A.length=3*O.length/\(∀c∈A,c.ok)/\U=[⇑(.sh (.lst (ns.map .int))),⇑(.lst ((A.map xI).map .sh)),o2,o3,o4,o5,o6,M,B,v,i]) (List.range 2) (λO k h7 D2 U e L Y hb e4 r1=>?_) (λU L=>?_) #[[],none,none,none,none,none,none,none,none,none,rfl,(λ_ h=>nomatch h),rfl]
 .obtain⟨A,o2,o3,o4,o5,o6,M,B,v,i,hA,hF,rfl⟩:=L;let hk:=Fc e;simp! [oF];show Rr ∅ λa s ha hs e3=>?_;simp! [aQ];show To ha hs e3 λc a' s' hc ha' hs' s1=>?_;let#[hB,hw,I,G]:=hc;let hf:=hB.fit hw;simp! [kv,aQ,length_cons,length_nil,zK,length_map,zaz];let h6:=hf.six;show#[by rw[I];simp only[cC];lia,?_];rw[Gi,Gi,<-List.map_reverse];let hq:aL c.B (some 1) none=c.B.drop 1:=ES c.B ⋯;let hm:aL c.pr (some 1) none=c.pr.drop 1:=ES c.pr ⋯;refine Bk (toD:=me) (λJ U=>∃(A2:List Q4)(M B v i:Option S),A2.length=A.length+J.length/\(∀c∈A2,c.ok)/\U=[⇑(.sh (.lst (ns.map .int))),⇑(.lst ((A2.map xI).map .sh)),⇑(.sh (.int (k:Int))),⇑(.sh (.str c.col)),⇑(.sh (zK c.B)),⇑(.sh (.str c.w)),⇑(.sh (.tup (c.pr.map D.int))),M,B,v,i]) [(c.B,c.pr),(c.B,c.pr.reverse),(aL c.B (some 1) none,aL c.pr (some 1) none)] (λJ x e1 D3 U e2 L h8 k1 s2 k3=>?_) (λU L=>?_) #[A,M,B,v,i,rfl,hF,rfl]
  .obtain⟨A2,M,B,v,i,h5,h4,rfl⟩:=L;let hx:x∈[(c.B,c.pr),(c.B,c.pr.reverse),(aL c.B (some 1) none,aL c.pr (some 1) none)]:=by rw[<-e2];simp
   let hl2:J.length<3:=by let:=congrArg List.length e2;simp only[qr,qu,qw]at this;lia
   have F:rO x.1 c.w/\x.2.length=x.1.length/\∀z∈x.2,0<=z:=by
    simp only[qB,not_mem_nil,or_false]at hx;rcases hx with rfl|rfl|rfl
    .show#[hf,I,G]
    .show#[hf,by rw[List.length_reverse];show I,λz hz=>G z (List.mem_reverse.mp hz)]
    .rw[hq,hm];show#[OK (List.drop_sublist _ _) hf,by rw[qH,qH,I],λz hz=>G z (List.mem_of_mem_drop hz)]
   simp! [oG,me,length_cons,length_nil];let r3:=hf.tw;show Sv ∅ ?_;simp! [zaz];show Qr F.1 F.2.1 F.2.2 λd hd=>?_;simp! [length_cons,length_nil,length_map];show#[by simp only[cC];let:=Fc e;lia,?_];let:=h8 _ #[A2++[#[x.1,c.w,x.2,d]],⇑(.sh (zK x.1)),⇑(.sh (.tup (x.2.map D.int))),v,i,by rw[qr,qr,h5];rfl,λy hy=>?_,rfl]
   .rw[map_append,map_append]at this;show this
   .rcases qy.mp hy with hy|hy
    .show h4 y hy
    .rw[qv.mp hy];show#[F.1,F.2.1,F.2.2,hd]
  .obtain⟨A2,M,B,v,i,h5,h4,rfl⟩:=L;show Y _ #[A2,_,_,_,_,_,M,B,v,i,by rw[h5,hA,qr];simp only[qu,qw];lia,h4,rfl]
 .obtain⟨A,o2,o3,o4,o5,o6,M,B,v,i,hA,hF,rfl⟩:=L;let hr:=CV (A.map xI) none (some 1);rw[qp]at hr;let hA:A.length=6:=hA;simp! [zaz,length_map];rw[Gi,<-map_append];let k2:=CV A none (some 1);refine Bk (toD:=xI) (λO U=>∃(o4 o5 B v i:Option S),U=[⇑(.sh (.lst (ns.map .int))),⇑(.lst ((A.map xI).map .sh)),o2,o3,o4,o5,o6,M,B,v,i]) (A++aL A none (some 1)) (λO c h7 D2 U e L Y hb e4 r1=>?_) (λU L=>?_) #[o4,o5,B,v,i,rfl]
  .obtain⟨o4,o5,B,v,i,rfl⟩:=L;let hp:c.ok:=by
    let hc:c∈A++aL A none (some 1):=by rw[<-e];simp
    rcases qy.mp hc with hc|hc
    .show hF c hc
    .show hF c (CW hc)
   let#[hf,I,G,hd]:=hp;simp! [oE,xI,length_cons,length_nil];show Rw hf I G λd' hi=>?_;rw[NW hi hd];rcases hd with⟨hd,_⟩|⟨a,l,hd,hw,h9⟩
   .rw[hd];simp! [Fx,NZ];show Y _ #[_,_,_,_,_,rfl]
   .rw[hd];simp! [FH,Oz];let r2:ak 4 (D.tup [D.int a,D.tup (l.map zP)])=true:=by
     let r3:=hf.tw;let#[l',a',h1,h2,h3]:=Gx (Fh G) hw;let#[_,e2]:=HZ (le_antisymm (h9 l' a' h1) h3);rw[<-e2]at h2;let h2:ak 3 (.tup (l.map zP))=true:=by show(↥((l.map zP).length<=1000)&&(l.map zP).all (ak 2))=true;rw[qp,qS ∅,all_map];show qJ.mpr λx _=>rfl
     show(↥(2<=1000)&&(ak 3 (.int _)&&(ak 3 (.tup (l.map zP))&&true)))=true;rw[h2];rfl
    show Tp (n:=4) r2 ?_;simp! [e_C];show Y _ #[_,_,_,_,_,rfl]
  .obtain⟨o4,o5,B,v,i,rfl⟩:=L;simp! [e_C]
end pu
end Law
section
set_option maxHeartbeats 4000000
namespace Law
open PySem PySem.Spec PyProof.Rows L2 FL
local macro_rules
 |`(tactic|trivial)=>`(tactic|first|exact Or.inl rfl|exact Or.inr rfl)
@[inline]def top(i:Nat):Stmt:=PySem.Challenge.pw_walktold_k28_cheapest_zigzags.main.body.getD i (.Pass #[0,0,0,0])
@[reducible]def ie:Stmt:=top 1
def oh:List Str:=["board","word"]
abbrev jb:List Str:=["board","word"]
def Hn:aG oh jb (aB ie):=AW
@[reducible]def ic:Stmt:=top 3
def og:List Str:=["board","word","prices","goes","left","place","places","paid","steps"]
abbrev ja:List Str:=["board","word","prices"]
def AV:aG og ja (aB ic):=AW
@[reducible]def ib:Stmt:=top 4
def oa:List Str:=["board","word","prices","goes","i","j","k"]
abbrev iz:List Str:=["board","word","prices"]
def Bv:aG oa iz (aB ib):=AW
@[reducible]def ia:Stmt:=top 5
def ny:List Str:=["goes","goal","left","begun","paid","steps","place","other","price","cost"]
abbrev iy:List Str:=["goes","goal"]
def AO:aG ny iy (aB ia):=AW
@[reducible]def gz:Stmt:=top 7
def nv:List Str:=["_law_script","_law_k","_law_cell","_law_seed"]
abbrev ix:List Str:=["_law_script","_law_k"]
def Bu:aG nv ix (aB gz):=AW
@[reducible]def gy:Stmt:=top 8
def nu:List Str:=["_law_box_here","_law_many","_law_digit","_law_one"]
abbrev iw:List Str:=["_law_box_here","_law_many"]
def CF:aG nu iw (aB gy):=AW
@[reducible]def gx:Stmt:=top 9
def nt:List Str:=["_law_box_here","_law_many","_law_left"]
abbrev iu:List Str:=["_law_box_here","_law_many"]
def DO:aG nt iu (aB gx):=AW
@[reducible]def gw:Stmt:=top 10
def nr:List Str:=["_law_box_here","_law_colours_here","_law_most","_law_many"]
abbrev ir:List Str:=["_law_box_here","_law_colours_here","_law_most"]
def DN:aG nr ir (aB gw):=AW
@[reducible]def gu:Stmt:=top 11
def nq:List Str:=["_law_box_here","_law_colours_here","_law_board_here","_law_one","_law_kind","_law_colour","_law_at"]
abbrev iq:List Str:=["_law_box_here","_law_colours_here","_law_board_here"]
def Bt:aG nq iq (aB gu):=AW
@[reducible]def gq:Stmt:=top 12
def nk:List Str:=["_law_box_here","_law_colours_here","_law_many","_law_most","_law_found","_law_k","_law_word_here"]
abbrev il:List Str:=["_law_box_here","_law_colours_here","_law_many","_law_most"]
def Bs:aG nk il (aB gq):=AW
@[reducible]def tT:Stmt:=top 13
def ji:List Str:=["_law_board_here","_law_text","_law_p","_law_most","_law_found","_law_one"]
abbrev uI:List Str:=["_law_board_here","_law_text","_law_p","_law_most"]
def Bw:aG ji uI (aB tT):=AW
@[reducible]def tS:Stmt:=top 14
def jh:List Str:=["_law_box_here","_law_board_here","_law_colours_here","_law_most","_law_text","_law_p","_law_turn","_law_some","_law_one","_law_goal","_law_at"]
abbrev uH:List Str:=["_law_box_here","_law_board_here","_law_colours_here","_law_most"]
def As:aG jh uH (aB tS):=AW
@[reducible]def tR:Stmt:=top 15
def jg:List Str:=["_law_board_here","_law_word_here","_law_found","_law_i","_law_j"]
abbrev uG:List Str:=["_law_board_here","_law_word_here"]
def Be:aG jg uG (aB tR):=AW
@[reducible]def tQ:Stmt:=top 16
def jf:List Str:=["_law_box_here","_law_top","_law_colours_here","_law_board_here","_law_word_here","_law_most"]
abbrev uF:List Str:=["_law_box_here","_law_top"]
def AK:aG jf uF (aB tQ):=AW
@[reducible]def tP:Stmt:=top 17
def je:List Str:=["_law_found","_law_due"]
abbrev uE:List Str:=["_law_found","_law_due"]
def DP:aG je uE (aB tP):=AW
@[reducible]def tO:Stmt:=top 18
def jd:List Str:=["_law_board_here","_law_word_here","_law_ties_here","_law_prices","_law_costs","_law_p","_law_q","_law_found","_law_more","_law_price","_law_many","_law_row","_law_fresh","_law_best"]
abbrev uD:List Str:=["_law_board_here","_law_word_here","_law_ties_here","_law_prices"]
def Ao:aG jd uD (aB tO):=AW
@[reducible]def tN:Stmt:=top 19
def jc:List Str:=["_law_script","_law_asked","_law_k","_law_colours_here","_law_board_here","_law_word_here","_law_prices","_law_one","_law_some","_law_due","_law_found"]
abbrev uC:List Str:=["_law_script"]
def Ap:aG jc uC (aB tN):=AW
structure Txt(K:W.Frag)(mg:Str->Option Value)(af:Nat->Addr):Prop where
 t_0:Tx K mg (af 0) "stretches" ie jb
 t_1:Tx K mg (af 1) "cheapest" ic ja
 t_2:Tx K mg (af 2) "priced_goes" ib iz
 t_3:Tx K mg (af 3) "costs_left" ia iy
 t_4:Tx K mg (af 4) "_law_box" gz ix
 t_5:Tx K mg (af 5) "_law_take" gy iw
 t_6:Tx K mg (af 6) "_law_colours" gx iu
 t_7:Tx K mg (af 7) "_law_word" gw ir
 t_8:Tx K mg (af 8) "_law_near" gu iq
 t_9:Tx K mg (af 9) "_law_board" gq il
 t_10:Tx K mg (af 10) "_law_moves" tT uI
 t_11:Tx K mg (af 11) "_law_led" tS uH
 t_12:Tx K mg (af 12) "_law_ties" tR uG
 t_13:Tx K mg (af 13) "_law_any_scene" tQ uF
 t_14:Tx K mg (af 14) "_law_alike" tP uE
 t_15:Tx K mg (af 15) "_law_cheapest" tO uD
 t_16:Tx K mg (af 16) "law" tN uC
 n_all:mg "all"=none
 n_bool:mg "bool"=none
 n_enumerate:mg "enumerate"=none
 n_int:mg "int"=none
 n_isinstance:mg "isinstance"=none
 n_len:mg "len"=none
 n_list:mg "list"=none
 n_max:mg "max"=none
 n_min:mg "min"=none
 n_range:mg "range"=none
 n_reversed:mg "reversed"=none
 n_sorted:mg "sorted"=none
 n_str:mg "str"=none
 n_tuple:mg "tuple"=none
 n_zip:mg "zip"=none
section
variable{P:Program}{w:World}{K:W.Frag}{mg:Str->Option Value}{base:Heap}{af:Nat->Addr}
def Hx(T:Txt K mg af):iP P w K mg base af 1 0 jb (dR K fg 2):=Ba T.t_0 Hn λ_ _ _ _ _ _ i=>Ak (AE (Gp (by rfl) T.n_sorted GR (Aa (MI (vars:=["i","k","one"]) rfl (Sh i) (by rfl) (Am (by kernel_rfl)) rfl (BI (by rfl) T.n_range (Az (by rfl) T.n_len (Aa (fw 1) Ac))) (λ_ _ _=>AX 3) (λ_ _ _=>BH) (λ_ _ _=>On (by rfl) (by rfl) T.n_enumerate Uy (fw 0)) (λ_ _ _=>AZ (by rfl) (Ar (AX 4) (Ar (AX 5) AY))) (λ_ _ _=>Gb rfl (Ay (λ_ _=>BC (Bn i)) BG (Di (fw 1) (fw 3) (Au (fw 3) (Az (by rfl) T.n_len (Aa (fw 5) Ac)))) (fw 5) (Ab _))) (λ_ _ _=>AG (Aa (fw 3) (Aa (Au (fw 3) (Az (by rfl) T.n_len (Aa (fw 5) Ac))) (Aa (fw 4) Ac))))) Ac)))
def Hu(T:Txt K mg af):iP P w K mg base af 1 3 iy (dR K fc 2):=Ba T.t_3 AO λ_ _ _ _ _ _ i=>Aj (An Iz (Af 2 AO.nd))
  (Aj (An (JX (fw 1) (AG (Aa Ag (Aa Ag Ac)))) (Af 3 AO.nd))
  (Aj (Gu (NF (fw 3)) (Aj (An (OL i (by rfl) T.n_min FN (Aa (OB 3 (BW (vars:=["place","cost"]) rfl (by rfl) (Am (by kernel_rfl)) rfl (Qq (j:=3) (fw 3)) (λ_ _ _=>AZ (by rfl) (Ar (AX 11) (Ar (AX 12) AY))) (λ_ _ _=>BH) (λ_ _ _=>AG (Aa (fw 12) (Aa (fw 11) Ac))))) Ac)) (AZ (by rfl) (Ar (AZ (by rfl) (Ar (Af 4 AO.nd) (Ar (Af 5 AO.nd) AY))) (Ar (Af 6 AO.nd) AY))))
  (Aj (Oh (j:=3) (fw 3) (fw 6))
  (Aj (EA (j:=2) (Bb i) (fw 2) (fw 6) (AG (Aa (fw 4) (Aa (fw 5) Ac))))
  (Ak (Bj (by rfl) (Kx (AC (fw 0) (fw 6))) (AZ (by rfl) (Ar (Af 7 AO.nd) (Ar (Af 8 AO.nd) AY))) (Aj (An (AG (Aa (Au (fw 4) (fw 8)) (Aa (Au (fw 5) Ag) Ac))) (Af 9 AO.nd))
  (Ak (AH (Bo (Cm (Ay (λ_ _=>Dx (Bd i)) DI (fw 7) (fw 2) (by with_unfolding_all rfl)) (Ct (Bo (Ej (Ay (λ_ _=>Dx (Bd i)) DI (fw 7) (fw 3) (by with_unfolding_all rfl)) (Em (Ay (λ_ _=>HV (Bn i)) JT (fw 9) (Ci (Bb i) (fw 3) (fw 7)) (Ab _)))))))) (Ak (EA (j:=3) (Bb i) (fw 3) (fw 7) (fw 9))) AI)))))))))
  (Ak (AE (fw 2)))))
def Ht(T:Txt K mg af):iP P w K mg base af 1 4 ix (dR K eu 2):=Ba T.t_4 Bu λ_ _ _ _ _ _ i=>Aj (An (Au (BN Ag (fw 1)) Ag) (Af 2 Bu.nd))
  (Aj (AH (Ay (λ_ _=>NJ) Pc (fw 1) (Az (by rfl) T.n_len (Aa (fw 0) Ac)) (Ab _)) (Ak (An (AC (fw 0) (fw 1)) (Af 2 Bu.nd))) (Ak (AH (Ay (λ_ _=>Dg) Dq (Az (by rfl) T.n_len (Aa (fw 0) Ac)) Ag (Ab _)) (Ak (An (Au (fw 2) (BN (BV (AC (fw 0) (BV (fw 1) (Az (by rfl) T.n_len (Aa (fw 0) Ac)))) Ag) Ag)) (Af 2 Bu.nd))) AI)))
  (Aj (An (Au (BV (Au (BN (BV (fw 2) Ag) Ag) (BN Ag (fw 1))) Ag) Ag) (Af 3 Bu.nd))
  (Ak (AE (Bm (Aa (AC (Bm (Aa Ag (Aa (fw 2) Ac))) (FR (by rfl) T.n_int Ep (Aa (CL (λ_ _=>Iq) Js (fw 2) (Nf Ag Ag) (Ab _)) Ac))) (Aa (fw 3) Ac)))))))
def Aq(T:Txt K mg af):iP P w K mg base af 1 5 iw (dR K fG 2):=Ba T.t_5 CF λ_ _ _ _ _ _ i=>Aj (AH (Ay (λ_ _=>Dg) Dq (AC (fw 0) Ag) Ag (Ab _)) (Aj (An (BV (AC (fw 0) Ag) (fw 1)) (Af 2 CF.nd))
  (Aj (JZ (j:=0) (fw 0) Ag (Iw (AC (fw 0) Ag) (fw 1)))
  (Ak (AE (fw 2))))) AI)
  (Aj (An (BV (BN (AC (fw 0) Ag) Ag) Ag) (Af 3 CF.nd))
  (Aj (JZ (j:=0) (fw 0) Ag (Au (BV (Au (BN (fw 3) Ag) Ag) Ag) Ag))
  (Ak (AE (BV (Iw (Au (BN (fw 3) Ag) (AC (fw 0) Ag)) Ag) (fw 1))))))
def DY(T:Txt K mg af):iP P w K mg base af 1 10 uI (dR K sO 4):=Ba T.t_10 Bw λ_ _ _ _ _ _ i=>Aj (An (Bm Ac) (Af 4 Bw.nd))
  (Aj (Bj (by rfl) (BL (fw 0)) (Af 5 Bw.nd) (Aj (AH (Bo (Cm (Ay (λ_ _=>BC (Bn i)) BG (Di (fw 1) (fw 2) (Au (fw 2) (Az (by rfl) T.n_len (Aa (fw 5) Ac)))) (CM (fw 5) (CK (Az (by rfl) T.n_len (Aa (fw 1) Ac)) (fw 2))) (Ab _)) (Ct (Ay (λ_ _=>Nk) Of (Au (fw 2) (Az (by rfl) T.n_len (Aa (fw 5) Ac))) (fw 3) (Ab _))))) (Ak (Cq (Dv (j:=4) (fw 4) (AG (Aa (fw 5) (Aa (Au (fw 2) (Az (by rfl) T.n_len (Aa (fw 5) Ac))) Ac)))))) AI)
  (Ak (AH (Bo (Cm (Ay (λ_ _=>Iq) Js (fw 2) (Az (by rfl) T.n_len (Aa (fw 5) Ac)) (Ab _)) (Ct (Ay (λ_ _=>BC (Bn i)) BG (Di (fw 1) (CK (fw 2) (Az (by rfl) T.n_len (Aa (fw 5) Ac))) (fw 2)) (fw 5) (Ab _))))) (Ak (Cq (Dv (j:=4) (fw 4) (AG (Aa (fw 5) (Aa (CK (fw 2) (Az (by rfl) T.n_len (Aa (fw 5) Ac))) Ac)))))) AI))))
  (Ak (AE (fw 4))))
def DW(T:Txt K mg af):iP P w K mg base af 1 12 uG (dR K oB 2):=Ba T.t_12 Be λ_ _ _ _ _ _ v=>Aj (GL (i:=2) ⋯ (λj B=>EH Be.nd B rfl) rfl (by rfl) (by rfl) (vars:=["_law_p"]) rfl (by rfl) (Am (by kernel_rfl)) rfl (BI (by rfl) T.n_range (Au (Az (by rfl) T.n_len (Aa (fw 1) Ac)) Ag)) (λ_ _ _=>AX 6) (λ_ _ _=>BH) (λ_ _ _=>Bm Ac))
  (Aj (Bj (by rfl) (BI (by rfl) T.n_range (Az (by rfl) T.n_len (Aa (fw 1) Ac))) (Af 3 Be.nd) (Ak (Bj (by rfl) (Sz (by rfl) T.n_range (Au (fw 3) Ag) (Au (Az (by rfl) T.n_len (Aa (fw 1) Ac)) Ag)) (Af 4 Be.nd) (Ak (AH (Ay (λ_ _=>Io (Bd v)) JG (Di (fw 1) (fw 3) (fw 4)) (fw 0) (by with_unfolding_all rfl)) (Aj (Cq (Ll (j:=2) (fw 2) (fw 3) (fw 4)))
  (Ak (Cq (Ll (j:=2) (fw 2) (fw 4) (fw 3))))) AI)))))
  (Ak (AE (BW (vars:=["_law_some"]) rfl (by rfl) (Am (by kernel_rfl)) rfl (BL (fw 2)) (λ_ _ _=>AX 6) (λ_ _ _=>BH) (λ_ _ _=>Bl (Gp (by rfl) T.n_sorted GR (Aa (fw 6) Ac)))))))
def DT(T:Txt K mg af):iP P w K mg base af 1 15 uD (dR K sL 4):=Ba T.t_15 Ao λ_ _ _ _ _ _ i=>Aj (An Rb (Af 4 Ao.nd))
  (Aj (Bj (by rfl) (BI (by rfl) T.n_range (Az (by rfl) T.n_len (Aa (fw 2) Ac))) (Af 5 Ao.nd) (Ak (Bj (by rfl) (BL (AC (fw 2) (fw 5))) (Af 6 Ao.nd) (Ak (EA (j:=4) (Bb i) (fw 4) (AG (Aa (fw 6) (Aa (fw 5) Ac))) (AC (fw 3) (RI (Bl (BW (vars:=["_law_one"]) rfl (by rfl) (Am (by kernel_rfl)) rfl (BL (fw 0)) (λ_ _ _=>AX 15) (λ_ _ _=>BH) (λ_ _ _=>CL (λ_ _=>BC (Bn i)) BG (fw 15) (Di (fw 1) (Ni (by rfl) (by rfl) T.n_min FN (Aa (fw 5) (Aa (fw 6) Ac))) (MR (by rfl) (by rfl) T.n_max Ml (Aa (fw 5) (Aa (fw 6) Ac)))) (Ab _)))) (Aa Cf Ac))))))))
  (@Aj _ _ _ _ _ _ (@An _ _ _ _ _ _ _ (@JX _ _ _ _ _ _ Ag (AG (Aa Ag (Aa Ag (Aa (AG (Aa Ag Ac)) Ac))))) (Af 7 Ao.nd) (by rfl) (by rfl) (by rfl))
  (Aj (An Cf (Af 8 Ao.nd))
  (Aj (Gu (Dh (fw 8)) (Aj (An Cf (Af 8 Ao.nd))
  (Ak (Bj (by rfl) (Qw (fw 4)) (AZ (by rfl) (Ar (Af 6 Ao.nd) (Ar (Af 5 Ao.nd) AY))) (Ak (AH (Ay (λ_ _=>Io (Bd i)) JG (fw 6) (fw 7) (by with_unfolding_all rfl)) (Aj (An (Ci (Bb i) (fw 7) (fw 6)) (AZ (by rfl) (Ar (Af 9 Ao.nd) (Ar (Af 10 Ao.nd) (Ar (Af 11 Ao.nd) AY)))))
  (Aj (An (AG (Aa (Au (fw 9) (Ci (Bb i) (fw 4) (AG (Aa (fw 6) (Aa (fw 5) Ac))))) (Aa (Au (fw 10) Ag) (Aa (Au (fw 11) (AG (Aa (fw 5) Ac))) Ac)))) (Af 12 Ao.nd))
  (Ak (AH (Bo (Ej (Ay (λ_ _=>Dx (Bd i)) DI (fw 5) (fw 7) (by with_unfolding_all rfl)) (Em (Ay (λ_ _=>HV (Bn i)) JT (fw 12) (Ci (Bb i) (fw 7) (fw 5)) (Ab _))))) (Aj (EA (j:=7) (Bb i) (fw 7) (fw 5) (fw 12))
  (Ak (An Cf (Af 8 Ao.nd)))) AI)))) AI))))))
  (Aj (An (NO (Bb i) (fw 7) (Az (by rfl) T.n_len (Aa (fw 1) Ac)) Co #[rfl,rfl,rfl,rfl]) (Af 13 Ao.nd))
  (Aj (AH (Ay (λ_ _=>Ib) IA (fw 13) Co (Ab _)) (Ak (AE Co)) AI)
  (Ak (AE (AG (Aa (AC (fw 13) Ag) (Aa (AC (fw 13) Ag) Ac)))))))))))
def Hv(T:Txt K mg af):iP P w K mg base af 2 2 iz (dR K fe 3):=Ba T.t_2 Bv λ_ _ _ _ _ _ v=>Aj (GL (i:=3) ⋯ (λj B=>EH Bv.nd B rfl) rfl (by rfl) (by rfl) (vars:=["place"]) rfl (by rfl) (Am (by kernel_rfl)) rfl (BI (by rfl) T.n_range (Au (Az (by rfl) T.n_len (Aa (fw 1) Ac)) Ag)) (λ_ _ _=>AX 8) (λ_ _ _=>BH) (λ_ _ _=>Iz))
  (Aj (Bj (by rfl) (BL (Av [true,true] T.t_0 (Hx T) v (Aa (fw 0) (Aa (fw 1) Ac)))) (AZ (by rfl) (Ar (Af 4 Bv.nd) (Ar (Af 5 Bv.nd) (Ar (Af 6 Bv.nd) AY)))) (Aj (Kp (j:=3) (Bb v) (fw 3) (fw 4) (fw 5) (AC (fw 2) (fw 6)))
  (Ak (Kp (j:=3) (Bb v) (fw 3) (fw 5) (fw 4) (AC (fw 2) (fw 6))))))
  (Ak (AE (fw 3))))
def Hs(T:Txt K mg af):iP P w K mg base af 2 6 iu (dR K ek 2):=Ba T.t_6 DO λ_ _ _ _ _ _ i=>Aj (An (Rc (by rfl) (by rfl) T.n_list Pd (Aa (Cn (by rfl) ⋯) Ac)) (Af 2 DO.nd))
  (Ak (AE (Jg (Cn (by rfl) ⋯) (Aa (Gp (by rfl) T.n_sorted GR (Aa (BW (vars:=["_law_k"]) rfl (by rfl) (Am (by kernel_rfl)) rfl (BI (by rfl) T.n_range (fw 1)) (λ_ _ _=>AX 4) (λ_ _ _=>BH) (λ_ _ _=>Bl (PY (j:=2) (fw 2) (Av [true,true] T.t_5 (Aq T) i (Aa (fw 0) (Aa (Az (by rfl) T.n_len (Aa (fw 2) Ac)) Ac)))))) Ac)) Ac))))
def DR(T:Txt K mg af):iP P w K mg base af 2 7 ir (dR K cq 3):=Ba T.t_7 DN λ_ _ _ _ _ _ i=>Aj (An (BN (Av [true,true] T.t_5 (Aq T) i (Aa (fw 0) (Aa (Au (fw 2) Ag) Ac))) (FR (by rfl) T.n_int Ep (Aa (CL (λ_ _=>Cp (Bd i)) Cr (fw 1) (Cn (by rfl) ⋯) (Ab _)) Ac))) (Af 3 DN.nd))
  (Ak (AE (Jg (Cn (by rfl) ⋯) (Aa (BW (vars:=["_law_k"]) rfl (by rfl) (Am (by kernel_rfl)) rfl (BI (by rfl) T.n_range (fw 3)) (λ_ _ _=>AX 5) (λ_ _ _=>BH) (λ_ _ _=>AC (fw 1) (Av [true,true] T.t_5 (Aq T) i (Aa (fw 0) (Aa (Az (by rfl) T.n_len (Aa (fw 1) Ac)) Ac))))) Ac))))
def Hr(T:Txt K mg af):iP P w K mg base af 2 8 iq (dR K eh 3):=Ba T.t_8 Bt λ_ _ _ _ _ _ i=>Aj (An (AC (fw 2) (Av [true,true] T.t_5 (Aq T) i (Aa (fw 0) (Aa (Az (by rfl) T.n_len (Aa (fw 2) Ac)) Ac)))) (Af 3 Bt.nd))
  (Aj (An (Av [true,true] T.t_5 (Aq T) i (Aa (fw 0) (Aa Ag Ac))) (Af 4 Bt.nd))
  (Aj (An (AC (fw 1) (Av [true,true] T.t_5 (Aq T) i (Aa (fw 0) (Aa (Az (by rfl) T.n_len (Aa (fw 1) Ac)) Ac)))) (Af 5 Bt.nd))
  (Aj (An (Av [true,true] T.t_5 (Aq T) i (Aa (fw 0) (Aa (Az (by rfl) T.n_len (Aa (fw 3) Ac)) Ac))) (Af 6 Bt.nd))
  (Ak (AE (AC (Bm (Aa (CM (fw 3) (Au (fw 6) Ag)) (Aa (Dk (fw 3) (fw 6)) (Aa (Au (fw 5) (fw 3)) (Aa (Au (fw 3) (fw 5)) (Aa (Au (fw 3) (fw 3)) Ac)))))) (fw 4)))))))
def DX(T:Txt K mg af):iP P w K mg base af 2 11 uH (dR K sN 4):=Ba T.t_11 As λ_ _ _ _ _ _ v=>Aj (An (AG (Aa (Cn (by rfl) ⋯) (Aa Ag Ac))) (AZ (by rfl) (Ar (Af 4 As.nd) (Ar (Af 5 As.nd) AY))))
  (Aj (Bj (by rfl) (BI (by rfl) T.n_range (Au Ag (Av [true,true] T.t_5 (Aq T) v (Aa (fw 0) (Aa Ag Ac))))) (Af 6 As.nd) (Aj (An (Bl (Av [true,true,true,true] T.t_10 (DY T) v (Aa (fw 1) (Aa (fw 4) (Aa (fw 5) (Aa (fw 3) Ac)))))) (Af 7 As.nd))
  (Aj (AH (Ay (λ_ _=>Dg) Dq (fw 6) Ag (Ab _)) (Ak (Mg (GL (i:=7) ⋯ (λj B=>EH As.nd B rfl) rfl (by rfl) (by rfl) (vars:=["_law_move"]) rfl (by rfl) (Am (by kernel_rfl)) rfl (BL (fw 7)) (λ_ _ _=>AX 12) (λ_ _ _=>Gb rfl (Ay (λ_ _=>Dg) Dq (AC (fw 12) Ag) (fw 5) (Ab _))) (λ_ _ _=>fw 12)))) AI)
  (Ak (AH (Ay (λ_ _=>Cp (Bd v)) Cr (fw 7) (Bm Ac) (Ab _)) (Aj (An (AC (fw 7) (Av [true,true] T.t_5 (Aq T) v (Aa (fw 0) (Aa (Az (by rfl) T.n_len (Aa (fw 7) Ac)) Ac)))) (AZ (by rfl) (Ar (Af 8 As.nd) (Ar (Af 9 As.nd) AY))))
  (Aj (AH (Ay (λ_ _=>Dg) Dq (fw 9) (fw 5) (Ab _)) (Ak (An (Au (Au (CM (fw 4) (fw 5)) (fw 8)) (Dk (fw 4) (fw 9))) (Af 4 As.nd))) AI)
  (Ak (An (fw 9) (Af 5 As.nd))))) AI)))))
  (Aj (AH (Bo (Cm (Ay (λ_ _=>Cp (Bd v)) Cr (fw 4) (Cn (by rfl) ⋯) (Ab _)) (Ct (Ay (λ_ _=>BC (Bn v)) BG (Av [true,true] T.t_5 (Aq T) v (Aa (fw 0) (Aa Ag Ac))) Ag (Ab _))))) (Aj (An (Av [true,true] T.t_5 (Aq T) v (Aa (fw 0) (Aa (Az (by rfl) T.n_len (Aa (fw 4) Ac)) Ac))) (Af 10 As.nd))
  (Ak (An (Au (Au (CM (fw 4) (fw 10)) (AC (fw 2) (Av [true,true] T.t_5 (Aq T) v (Aa (fw 0) (Aa (Az (by rfl) T.n_len (Aa (fw 2) Ac)) Ac))))) (Dk (fw 4) (Au (fw 10) Ag))) (Af 4 As.nd)))) AI)
  (Ak (AE (fw 4)))))
def Hw(T:Txt K mg af):iP P w K mg base af 3 1 ja (dR K ff 3):=Ba T.t_1 AV λ_ _ _ _ _ _ i=>Aj (An (Bl (Av [true,true,true] T.t_2 (Hv T) i (Aa (fw 0) (Aa (fw 1) (Aa (fw 2) Ac))))) (Af 3 AV.nd))
  (Aj (An (Bl (Av [true,true] T.t_3 (Hu T) i (Aa (fw 3) (Aa (Az (by rfl) T.n_len (Aa (fw 1) Ac)) Ac)))) (Af 4 AV.nd))
  (Aj (AH (Ay (λ_ _=>Dx (Bd i)) DI Ag (fw 4) (by with_unfolding_all rfl)) (Ak (AE Co)) AI)
  (Aj (An Ag (Af 5 AV.nd))
  (Aj (An (Bm (Aa (fw 5) Ac)) (Af 6 AV.nd))
  (Aj (Gu (Ay (λ_ _=>Cp (Bd i)) Cr (fw 5) (Az (by rfl) T.n_len (Aa (fw 1) Ac)) (Ab _)) (Aj (An (Ci (Bb i) (fw 4) (fw 5)) (AZ (by rfl) (Ar (Af 7 AV.nd) (Ar (Af 8 AV.nd) AY))))
  (Aj (An (Bl (NN (by rfl) (by rfl) T.n_min FN (Aa (BW (vars:=["other","price"]) rfl (by rfl) (Am (by kernel_rfl)) rfl (Kx (AC (fw 3) (fw 5))) (λ_ _ _=>AZ (by rfl) (Ar (AX 10) (Ar (AX 11) AY))) (λ_ _ _=>Gb rfl (Ay (λ_ _=>BC (Bn i)) BG (Ci (Bb i) (fw 4) (fw 10)) (AG (Aa (CK (fw 7) (fw 11)) (Aa (CK (fw 8) Ag) Ac))) (Ab _))) (λ_ _ _=>fw 10)) Ac))) (Af 5 AV.nd))
  (Ak (Cq (Dv (j:=6) (fw 6) (fw 5)))))))
  (Ak (AE (AG (Aa (AC (Ci (Bb i) (fw 4) Ag) Ag) (Aa (GJ (by rfl) T.n_tuple CY (Aa (fw 6) Ac)) Ac))))))))))
def Hq(T:Txt K mg af):iP P w K mg base af 3 9 il (dR K dz 4):=Ba T.t_9 Bs λ_ _ _ _ _ _ i=>Aj (An (Bm Ac) (Af 4 Bs.nd))
  (Aj (Bj (by rfl) (BI (by rfl) T.n_range (BN (Av [true,true] T.t_5 (Aq T) i (Aa (fw 0) (Aa (Au (fw 2) Ag) Ac))) (FR (by rfl) T.n_int Ep (Aa (CL (λ_ _=>Cp (Bd i)) Cr (fw 1) (Cn (by rfl) ⋯) (Ab _)) Ac)))) (Af 5 Bs.nd) (Aj (An (Au (AC (fw 1) (Av [true,true] T.t_5 (Aq T) i (Aa (fw 0) (Aa (Az (by rfl) T.n_len (Aa (fw 1) Ac)) Ac)))) (Av [true,true,true] T.t_7 (DR T) i (Aa (fw 0) (Aa (fw 1) (Aa (CK (fw 3) Ag) Ac))))) (Af 6 Bs.nd))
  (Aj (AH (Bo (Cm (Ay (λ_ _=>Cp (Bd i)) Cr (fw 4) (Bm Ac) (Ab _)) (Ct (Ay (λ_ _=>BC (Bn i)) BG (Av [true,true] T.t_5 (Aq T) i (Aa (fw 0) (Aa Ag Ac))) Ag (Ab _))))) (Ak (An (CM (Av [true,true,true] T.t_8 (Hr T) i (Aa (fw 0) (Aa (fw 1) (Aa (fw 4) Ac)))) (fw 3)) (Af 6 Bs.nd))) AI)
  (Ak (AH (Ay (λ_ _=>Dx (Bd i)) DI (fw 6) (fw 4) (by with_unfolding_all rfl)) (Ak (Cq (Dv (j:=4) (fw 4) (fw 6)))) AI)))))
  (Ak (AE (GJ (by rfl) T.n_tuple CY (Aa (fw 4) Ac)))))
def DV(T:Txt K mg af):iP P w K mg base af 4 13 uF (dR K sM 2):=Ba T.t_13 AK λ_ _ _ _ _ _ i=>Aj (An (Av [true,true] T.t_6 (Hs T) i (Aa (fw 0) (Aa (Au Ag (Av [true,true] T.t_5 (Aq T) i (Aa (fw 0) (Aa Ag Ac)))) Ac))) (Af 2 AK.nd))
  (Aj (An (Bl (Av [true,true,true,true] T.t_9 (Hq T) i (Aa (fw 0) (Aa (fw 2) (Aa Ag (Aa Ag Ac)))))) (Af 3 AK.nd))
  (Aj (An (Bl (Av [true,true,true,true] T.t_11 (DX T) i (Aa (fw 0) (Aa (fw 3) (Aa (fw 2) (Aa Ag Ac)))))) (Af 4 AK.nd))
  (Aj (AH (Ay (λ_ _=>BC (Bn i)) BG (Av [true,true] T.t_5 (Aq T) i (Aa (fw 0) (Aa Ag Ac))) Ag (Ab _)) (Ak (An (Av [true,true,true] T.t_7 (DR T) i (Aa (fw 0) (Aa (fw 2) (Aa Ag Ac)))) (Af 4 AK.nd))) AI)
  (Aj (An (AC (Bm (Aa Ag (Aa Ag (Aa (fw 1) Ac)))) (Av [true,true] T.t_5 (Aq T) i (Aa (fw 0) (Aa Ag Ac)))) (Af 5 AK.nd))
  (Ak (AE (AG (Aa (fw 2) (Aa (fw 3) (Aa (fw 4) (Aa (GJ (by rfl) T.n_tuple CY (Aa (BW (vars:=["_law_one"]) rfl (by rfl) (Am (by kernel_rfl)) rfl (BL (fw 3)) (λ_ _ _=>AX 7) (λ_ _ _=>BH) (λ_ _ _=>Av [true,true] T.t_5 (Aq T) i (Aa (fw 0) (Aa (fw 5) Ac)))) Ac)) Ac)))))))))))
def DU(T:Txt K mg af):cY P w K mg base (fV P w) 4 (af 14) (dO K (af 14)) uE (dR K xR 2):=by
 refine Ig (k:=0) (n:=2) (step:=dw) rfl (λr j B F=>?_) (λ_ _ _ _ h=>h.1) 4;show Ed (k:=0+j) T.t_14.F DP rfl rfl λG A v s H E i=>?_;exact Aj (AH (Dh (CO (by rfl) T.n_isinstance Da (by rfl) T.n_tuple CY ⋯ (fw 1))) (Aj (AH (Bo (Ej (HW (Dh (CO (by rfl) T.n_isinstance Da (by rfl) T.n_tuple CY ⋯ (fw 0)))) (Em (Ay (λ_ _=>Cp (Bd i)) Cr (Az (by rfl) T.n_len (Aa (fw 0) Ac)) (Az (by rfl) T.n_len (Aa (fw 1) Ac)) (Ab _))))) (Ak (AE Cf)) AI)
  (Ak (AE (MN (by rfl) (by rfl) T.n_all MS (Aa (BW (vars:=["_law_one","_law_other"]) rfl (by rfl) (Am (by kernel_rfl)) rfl (MH (by rfl) (by rfl) T.n_zip Mu (fw 0) (fw 1)) (λ_ _ _=>AZ (by rfl) (Ar (AX 3) (Ar (AX 4) AY))) (λ_ _ _=>BH) (λ_ _ _=>Bl (Av [true,true] T.t_14 F i (Aa (fw 3) (Aa (fw 4) Ac)) (hj:=zb _) (zX:=B)))) Ac))))) AI)
  (Aj (AH (Dh (CO (by rfl) T.n_isinstance Da (by rfl) T.n_str Ip ⋯ (fw 1))) (Ak (AE (Fs (CO (by rfl) T.n_isinstance Da (by rfl) T.n_str Ip ⋯ (fw 0)) (Ie (CL (λ_ _=>BC (Bn i)) BG (fw 0) (fw 1) (Ab _)))))) AI)
  (Ak (AE (Fs (CO (by rfl) T.n_isinstance Da (by rfl) T.n_int Ep ⋯ (fw 0)) (Fs (NB (CO (by rfl) T.n_isinstance Da (by rfl) T.n_bool OR ⋯ (fw 0))) (Ie (CL (λ_ _=>BC (Bn i)) BG (fw 0) (fw 1) (Ab _))))))))
def DS(T:Txt K mg af):iP P w K mg base af 5 16 uC (dR K lQ 1):=Ba T.t_16 Ap λ_ _ _ _ _ _ i=>Aj (An (Bm Ac) (Af 1 Ap.nd))
  (Aj (Bj (by rfl) (BI (by rfl) T.n_range Ag) (Af 2 Ap.nd) (Aj (An (Av [true,true] T.t_13 (DV T) i (Aa (Av [true,true] T.t_4 (Ht T) i (Aa (fw 0) (Aa (fw 2) Ac))) (Aa Ag Ac))) (AZ (by rfl) (Ar (Af 3 Ap.nd) (Ar (Af 4 Ap.nd) (Ar (Af 5 Ap.nd) (Ar (Af 6 Ap.nd) AY))))))
  (Ak (Bj (by rfl) (BL (Bm (Aa (AG (Aa (fw 4) (Aa (fw 6) Ac))) (Aa (AG (Aa (fw 4) (Aa (SM (by rfl) (by rfl) T.n_tuple CY (by rfl) T.n_reversed (fw 6)) Ac))) (Aa (AG (Aa (Dk (fw 4) Ag) (Aa (Dk (fw 6) Ag) Ac))) Ac))))) (AZ (by rfl) (Ar (Af 7 Ap.nd) (Ar (Af 8 Ap.nd) AY))) (Ak (Cq (Dv (j:=1) (fw 1) (AG (Aa (fw 7) (Aa (fw 5) (Aa (fw 8) (Aa (Av [true,true,true,true] T.t_15 (DT T) i (Aa (fw 7) (Aa (fw 5) (Aa (Bl (Av [true,true] T.t_12 (DW T) i (Aa (fw 7) (Aa (fw 5) Ac)))) (Aa (fw 8) Ac))))) Ac))))))))))))
  (Aj (Bj (by rfl) (BL (Au (fw 1) (CM (fw 1) Ag))) (AZ (by rfl) (Ar (Af 4 Ap.nd) (Ar (Af 5 Ap.nd) (Ar (Af 8 Ap.nd) (Ar (Af 9 Ap.nd) AY))))) (Aj (An (Bl (Av [true,true,true] T.t_1 (Hw T) i (Aa (fw 4) (Aa (fw 5) (Aa (fw 8) Ac))))) (Af 10 Ap.nd))
  (Ak (AH (Bo (Ej (Bo (Cm (Ay (λ_ _=>Ib) IA (fw 9) Co (Ab _)) (Ct (Ay (λ_ _=>KF) Lo (fw 10) Co (Ab _))))) (Em (Bo (Cm (Ay (λ_ _=>KF) Lo (fw 9) Co (Ab _)) (Ct (HW (Dh (Av [true,true] T.t_14 (DU T) i (Aa (fw 10) (Aa (fw 9) Ac))))))))))) (Ak (AE Cf)) AI))))
  (Ak (AE Cf))))
end
theorem all_mk{l:W.OpenLaw}{w:World}{K:W.Frag}{h:Heap}{mg:Str->Option Value}{fa:Addr}(X:K.In h)(G:h.Ns mainGlobals mg)(hfa:mg "law"=⇑(.ref fa))
  {f_0 f_1 f_2 f_3 f_4 f_5 f_6 f_7 f_8 f_9 f_10 f_11 f_12 f_13 f_14 f_15 f_16:Addr}
  (h_0:Lk K "stretches" ie f_0)
  (h_1:Lk K "cheapest" ic f_1)
  (h_2:Lk K "priced_goes" ib f_2)
  (h_3:Lk K "costs_left" ia f_3)
  (h_4:Lk K "_law_box" gz f_4)
  (h_5:Lk K "_law_take" gy f_5)
  (h_6:Lk K "_law_colours" gx f_6)
  (h_7:Lk K "_law_word" gw f_7)
  (h_8:Lk K "_law_near" gu f_8)
  (h_9:Lk K "_law_board" gq f_9)
  (h_10:Lk K "_law_moves" tT f_10)
  (h_11:Lk K "_law_led" tS f_11)
  (h_12:Lk K "_law_ties" tR f_12)
  (h_13:Lk K "_law_any_scene" tQ f_13)
  (h_14:Lk K "_law_alike" tP f_14)
  (h_15:Lk K "_law_cheapest" tO f_15)
  (h_16:Lk K "law" tN f_16)
  (z_all:W.nsIn K mainGlobals "all"=⇑none)
  (z_bool:W.nsIn K mainGlobals "bool"=⇑none)
  (z_enumerate:W.nsIn K mainGlobals "enumerate"=⇑none)
  (z_int:W.nsIn K mainGlobals "int"=⇑none)
  (z_isinstance:W.nsIn K mainGlobals "isinstance"=⇑none)
  (z_len:W.nsIn K mainGlobals "len"=⇑none)
  (z_list:W.nsIn K mainGlobals "list"=⇑none)
  (z_max:W.nsIn K mainGlobals "max"=⇑none)
  (z_min:W.nsIn K mainGlobals "min"=⇑none)
  (z_range:W.nsIn K mainGlobals "range"=⇑none)
  (z_reversed:W.nsIn K mainGlobals "reversed"=⇑none)
  (z_sorted:W.nsIn K mainGlobals "sorted"=⇑none)
  (z_str:W.nsIn K mainGlobals "str"=⇑none)
  (z_tuple:W.nsIn K mainGlobals "tuple"=⇑none)
  (z_zip:W.nsIn K mainGlobals "zip"=⇑none):
  ∃fd:FuncData,(∀(s:Shared)(v:Value),BindsTo s fd #[[v],[]] [("_law_script",v)])/\∀base:Heap,K.In base->base.Ns mainGlobals mg->cY l.prog w K mg base (fV l.prog w) 5 fa fd ["_law_script"] (dR K lQ 1):=by
 let e:=hfa.symm.trans (h_16.mm X G);cases e;let T:Txt K mg (λn=>[f_0,f_1,f_2,f_3,f_4,f_5,f_6,f_7,f_8,f_9,f_10,f_11,f_12,f_13,f_14,f_15,fa].getD n 0):=#[h_0.tx X G,h_1.tx X G,h_2.tx X G,h_3.tx X G,h_4.tx X G,h_5.tx X G,h_6.tx X G,h_7.tx X G,h_8.tx X G,h_9.tx X G,h_10.tx X G,h_11.tx X G,h_12.tx X G,h_13.tx X G,h_14.tx X G,h_15.tx X G,h_16.tx X G,W.mg_none_of X G z_all,W.mg_none_of X G z_bool,W.mg_none_of X G z_enumerate,W.mg_none_of X G z_int,W.mg_none_of X G z_isinstance,W.mg_none_of X G z_len,W.mg_none_of X G z_list,W.mg_none_of X G z_max,W.mg_none_of X G z_min,W.mg_none_of X G z_range,W.mg_none_of X G z_reversed,W.mg_none_of X G z_sorted,W.mg_none_of X G z_str,W.mg_none_of X G z_tuple,W.mg_none_of X G z_zip]
 show#[_,λs v=>h_16.bt s v,λbase _ _=>DS T]
theorem walk{l:W.OpenLaw}{q:Program}{i:List Str}{O:(Str->Option Value)->Heap->Prop}{G:World->Heap->Prop}{d:DefRec}{K:Params->W.Frag}(hn:l.most=some 63)(v:d.params.defaults=[])
  (L:∀(w:World)(h:Heap),G w h->(K w.params).In h)
  (F:∀(w:World)(mg:Str->Option Value)(B:Addr)(h:Heap),(K w.params).In h->h.Ns mainGlobals mg->mg d.name=⇑(.ref B)->
   ∃fd:FuncData,(∀(s:Shared)(u:Value),BindsTo s fd #[[u],[]] [("_law_script",u)])/\∀base:Heap,(K w.params).In base->base.Ns mainGlobals mg->cY l.prog w (K w.params) mg base (fV l.prog w) 5 B fd ["_law_script"] (dR (K w.params) lQ 1)):
  W.WalkO q i O G l.row.toRowW d [] (λf vs=>PySem.call f vs):=
 L2.walk_of (n:=63) (k:=5) (x:="_law_script") (CX:=λw=>fV l.prog w) (sp:=λw=>dR (K w.params) lQ 1) hn ⋯ v #[rfl,⋯,⋯,rfl] L F (λ_ H a I J _ M=>Ms Bx H a I J M) λ_ _ _ _ _ h=>(show False from h).elim
end Law
end
end
open PySem PySem.W PyProof.Rows
namespace PySem.W.Fast
theorem tw5217386272411380391:True:=⟨⟩
theorem tw16982526986278979815:True:=⟨⟩
theorem tw1418465382987192322:True:=⟨⟩
theorem tw12085797449984901222:True:=⟨⟩
theorem tw13824268222427271588:True:=⟨⟩
theorem tw13596377995223329734:True:=⟨⟩
theorem tw4712689388382786129:True:=⟨⟩
theorem tw10336932763254961271:True:=⟨⟩
theorem tw8532249053291941487:True:=⟨⟩
theorem tw8597178977864506623:True:=⟨⟩
theorem tw16689566513154248266:True:=⟨⟩
theorem tw15258980206008779151:True:=⟨⟩
theorem tw10848126266412240809:True:=⟨⟩
theorem tw2078284087247173011:True:=⟨⟩
theorem tw15634229599627863999:True:=⟨⟩
theorem tw6604370171497929212:True:=⟨⟩
theorem tw7226676056861517351:True:=⟨⟩
theorem tw4442070870766951858:True:=⟨⟩
theorem tw7899870649569119511:True:=⟨⟩
theorem tw5861094164426769867:True:=⟨⟩
theorem tw16960114834450024498:True:=⟨⟩
theorem tw109136900653924826:True:=⟨⟩
theorem tw14271686090720582947:True:=⟨⟩
theorem tw13528584985681881847:True:=⟨⟩
theorem tw5358253538743889783:True:=⟨⟩
theorem tw11071707775463427217:True:=⟨⟩
theorem tw7460879852779895821:True:=⟨⟩
theorem tw3158952449118207218:True:=⟨⟩
theorem tw10397395318308780951:True:=⟨⟩
theorem tw17069319318088439850:True:=⟨⟩
theorem tw7785434003394278412:True:=⟨⟩
theorem tw6332449076743948655:True:=⟨⟩
theorem tw9406768048287558990:True:=⟨⟩
theorem tw11370943380352309226:True:=⟨⟩
theorem tw4086590514114086335:True:=⟨⟩
theorem tw6102075263293275899:True:=⟨⟩
theorem tw8201528304308221105:True:=⟨⟩
theorem tw14809541662890610299:True:=⟨⟩
theorem tw11598709351301826025:True:=⟨⟩
theorem tw8723874182686907991:True:=⟨⟩
theorem tw7727976413692422401:True:=⟨⟩
theorem tw9288308931282803020:True:=⟨⟩
theorem tw12132907557393423639:True:=⟨⟩
theorem tw6843984918802780223:True:=⟨⟩
theorem tw3136854638245334492:True:=⟨⟩
theorem tw3374240378236212419:True:=⟨⟩
theorem tw3290734775594566266:True:=⟨⟩
theorem tw3353171876771119557:True:=⟨⟩
theorem tw6684980718582934769:True:=⟨⟩
theorem tw10949241775811313679:True:=⟨⟩
theorem tw8457486540785234581:True:=⟨⟩
theorem tw1717971984138021011:True:=⟨⟩
theorem tw9207167340444295178:True:=⟨⟩
theorem tw4341991963894987696:True:=⟨⟩
theorem tw14014655379903139788:True:=⟨⟩
theorem tw3630796273891942491:True:=⟨⟩
theorem tw2831529343724664178:True:=⟨⟩
theorem tw12414027058910455715:True:=⟨⟩
theorem tw14159389142593060353:True:=⟨⟩
theorem tw14134548694402382406:True:=⟨⟩
theorem tw8937977863039392844:True:=⟨⟩
theorem tw8623689803390163894:True:=⟨⟩
theorem tw15372568477197817401:True:=⟨⟩
theorem tw9675386464253064608:True:=⟨⟩
theorem tw4143858099899318840:True:=⟨⟩
theorem tw8914606952245558442:True:=⟨⟩
theorem tw10282096164183031244:True:=⟨⟩
theorem tw16846299092448512861:True:=⟨⟩
theorem tw17892814132268417737:True:=⟨⟩
theorem tw8932547943459895463:True:=⟨⟩
theorem tw3223493752774352305:True:=⟨⟩
theorem tw7021385114901781227:True:=⟨⟩
theorem tw11687532196408748754:True:=⟨⟩
end PySem.W.Fast
set_option maxRecDepth 100000 in
set_option maxHeartbeats 0 in
theorem PySem.Challenge.cw_walktold_k28_cheapest_zigzags_holds : PySem.Challenge.rw_walktold_k28_cheapest_zigzags.Holds := by
 w_on; o_law; k_head; (case hw=>w_witness2)
 k_fill
 refine Law.walk (l:=PySem.Challenge.rw_walktold_k28_cheapest_zigzags) rfl rfl (fun w h Y=>PySem.W.kIn_of Y) ?F
 case F=>
  intro w mg fa h KX G hmg
  refine' Law.all_mk KX G hmg ..
  all_goals try first | k_is | (refine' ⟨?_,?_,?_,?_⟩ <;> try k_is)
