import PyProof.Rows.All
import Wide.All
import OpenK.AllK
import Wide.FinOn
import PySem.SetTable
import PyProof.SetScanFacts
import PyProof.DictFindH
import PyProof.SetKind
import PyProof.IsRules
import PyProof.TupleKey
import PyProof.StrWalks
import PyProof.FactsAll.set
import PyProof.SetRoads
import PyProof.MakeMany
import PyProof.CollectIter
import PyProof.ListNew
import PyProof.Rows.SortShell
import PyProof.Rows.SortStr
import PyProof.SetNew
import PyProof.Rows.SetFrom
import PyProof.WalksMore
import PyProof.DictIter
import PyProof.DictWalks
import KE.KDictList
import PyProof.TupleOfGen
import PyProof.TupleOfSeq
import PyProof.AttrMissHeap
import KE.KDictOf
import PyProof.DictItems
import KE.KItemsList
import Lean
import PyProof.EqAt
import PyProof.EqKinds
import PyProof.TupleCall
import PyProof.StationsW
import PyProof.RulesAs
import PyProof.Rows.Own
import PySem.Str
import PyProof.NsDelKeeps
import KE.KIsAll
import PyProof.ExcArgsOwn
import PyProof.ExcAttrAll.ValueError
import OpenK.KOwn
import PyProof.ExcBaseAll.ValueError
import PyProof.InstStoreFacts
import PyProof.NeKinds
import PyProof.Draws
import PyProof.EnumMake
import PyProof.ZipIter
import PyProof.Rows.SumAny
import KE.KSortTup
import PyProof.Rows.MinMaxN
import PyProof.ListRange
import KE.KRevIter
import PyProof.ReprLen
import PyProof.FitsInt
import PyProof.StrBlock2
import PyProof.FactsAll.tuple_2
import PyProof.ListMulRoad
import PyProof.MeetsDict
import PyProof.Rows.Range3
import PyProof.Rows.SortRuns
import PyProof.Rows.StrStep
import KE.KMinKey
import PyProof.Rows.CallKwBuiltin
import PySem.Challenge.RW_walktold_k92_words_enough
set_option Elab.async false
set_option linter.all false
set_option maxRecDepth 100000
set_option compiler.extract_closed false
set_option bootstrap.genMatcherCode false
open Array (getElem?_eq_getElem getElem?_toList length_toList toArray_toList toList_append)
open Bool (and_eq_true false_eq_true or_eq_true)
open Int (mul_one toNat_natCast)
open List (all_cons all_eq_true all_map any_cons append_assoc append_nil cons_append cons_lt_cons_iff countP_cons drop_of_length_le drop_zero ext_getElem? filterMap_cons find?_cons flatMap_cons getElem?_append_left getElem?_append_right getElem?_eq_none getElem?_map getElem?_range getElem?_set getElem?_set_ne getElem?_set_self getElem_mem le_antisymm length_append length_cons length_drop length_map length_nil length_pos_iff length_range length_singleton length_take lookup_cons lt_asymm map_append map_congr_left map_cons map_id map_map map_nil map_set mem_append mem_append_left mem_append_right mem_cons mem_cons_of_mem mem_cons_self mem_filter mem_filterMap mem_flatMap mem_iff_getElem? mem_map mem_of_getElem? mem_range mem_set mem_singleton nil_append nodup_append nodup_cons of_mem_zip pairwise_cons pairwise_map perm_append_comm perm_middle range_succ size_toArray sum_cons take_nil take_of_length_le take_zero)
open Nat (le_of_lt le_refl le_succ le_trans lt_irrefl lt_of_lt_of_le lt_or_ge lt_trans min_eq_left min_eq_right ne_of_gt ne_of_lt not_lt pow_succ sub_self sub_zero zero_le)
open Option (isSome_map isSome_some map_eq_some_iff map_some none_or some_or toList_none)
noncomputable def qa:=@PySem.wpAny_bind
noncomputable def qb:=@PySem.wpAny_pure
noncomputable def qc:=@PySem.Heap.get?_push_of_some
noncomputable def qd:=@PySem.Heap.get?_push_size
noncomputable def qe:=@PySem.Heap.lt_size
noncomputable def qg.{u}:=@Option.some.inj.{u}
noncomputable def qh.{u}:=@List.getElem?_eq_some_iff.{u}
noncomputable def qi.{u}:=@List.getElem?_eq_getElem.{u}
noncomputable def qj.{u}:=@List.mem_append_right.{u}
noncomputable def qk.{u}:=@List.mem_append_left.{u}
noncomputable def qm.{u}:=@List.mem_cons_of_mem.{u}
noncomputable def qo.{u}:=@List.mem_cons_self.{u}
noncomputable section
section
namespace ST
open PySem PySem.SetTable
noncomputable def Rising (xs:Array Nat):Prop:=∀ i j (hi:i < xs.size) (hj:j < xs.size),i < j->xs[i] < xs[j]
noncomputable def path (t:SetTable) (p:Probe):Nat->Probe
 | 0=>p
 | n + 1=>path t (t.advance p) n
noncomputable def okMask (mask:Nat):Prop:=mask=7\/mask=31\/mask=127\/mask=511
structure Tab (t:SetTable) (hs:List Int):Prop where
 ris:Rising t.place
 dum:t.dummies=#[]
 mask:okMask t.mask
 size:t.place.size=hs.length
 le:∀ i (hi:i < t.place.size),t.place[i]<=t.mask
 few:hs.length<=t.mask
 reach:∀ i (hi:i < t.place.size) (h:Int),hs[i]?=some h->∃ n,(path t (t.probeStart h) n).j=t.place[i]/\∀ m,m < n->t.slot (path t (t.probeStart h) m).j≠.empty
section
variable {prog:Program} {w:World} {K:Type} [DecidableEq K] (knd:HeapKind prog w K)
noncomputable def ents (xs:List (K×Addr)):List (Int×Value):=xs.map fun p=>(knd.hash p.1,Value.ref p.2)
variable {knd}
variable {A:Around} {E:Value->Shared->Prop} {s:Shared} {a b:Addr} {o:Obj} {es:Array (Int×Value)} {ep:Nat} {t:SetTable} {xs:List (K×Addr)} {k:K}
noncomputable def okRoom (t:SetTable) (n:Nat):Prop:=(t.mask=7/\n<=4)\/(t.mask=31/\n<=18)\/(t.mask=127/\n<=76)\/(t.mask=511/\n<=306)
end
end ST
end
section
namespace ST
open PySem
end ST
end
section
namespace ST
open PySem PySem.SetTable
end ST
end
section
namespace ST
open PySem PySem.SetTable PyProof.Rows
end ST
end
section
namespace ST
open PySem PySem.SetTable
structure WTab (t:SetTable) (n:Nat) (ld:Bool):Prop where
 ris:Rising t.place
 dum:t.dummies=#[]
 fit:t.fits n=true
 ldd:t.led=ld
section
variable {prog:Program} {w:World} {A:Around} {E:Value->Shared->Prop} {s:Shared} {a:Addr} {K:Type} [DecidableEq K] {knd:KeyKind prog w K} {xs:List (K×Value)}
noncomputable def entV (knd:KeyKind prog w K) (xs:List (K×Value)):List (Int×Value):=xs.map fun p=>(knd.hash p.1,p.2)
noncomputable def VSet (ld:Bool) (knd:KeyKind prog w K) (h:Heap) (a:Addr) (xs:List (K×Value)):Prop:=∃ o es ep t,h.get? a=some o/\o.ExactSet/\o.data=.set es ep t/\WTab t es.size ld/\es.toList=entV knd xs/\(∀ p∈xs,knd.is p.1 p.2=true/\p.2.scannable=true)/\(xs.map (·.1)).Nodup
end
end ST
end
section
namespace ST
open PySem PySem.SetTable PyProof.Rows
noncomputable def freshSet (ld:Bool):Obj:={ cls:=.type "set",dict:=none,data:=.set #[] 0 (.fresh 0 0 ld) }
section
variable {prog:Program} {w:World} {A:Around} {E:Value->Shared->Prop} {s:Shared}
noncomputable def ldOf (w:World):Bool:=!w.params.followText "set-order"
end
end ST
end
section
namespace ST
open PySem PySem.SetTable
section
variable {prog:Program} {w:World} {A:Around} {E:Value->Shared->Prop} {s:Shared} {a b:Addr} {K:Type} [DecidableEq K] {knd:KeyKind prog w K} {ks:List K} {ld:Bool} {xs:List (List K×Addr)}
noncomputable def TRaw (ld:Bool) (knd:HeapKind prog w K) (h:Heap) (a:Addr) (xs:List (K×Addr)):Prop:=∃ o es ep t,h.get? a=some o/\o.ExactSet/\o.data=.set es ep t/\t.led=ld/\Tab t (es.toList.map (·.1))/\okRoom t es.size/\es.toList=ents knd xs/\(xs.map (·.1)).Nodup
end
end ST
end
section
namespace ST
open PySem PySem.W
noncomputable def RawD (h:Heap) (d:Addr) (es:Array DictEntry) (ep:Nat):Prop:=∃ o,h.get? d=some o/\o.ExactDict/\o.data=.dict es ep
section
variable {prog:Program} {w:World} {A:Around} {E:Value->Shared->Prop} {s:Shared} {d it:Addr} {es:Array DictEntry} {ep i:Nat}
theorem RawD.type (x:RawD s.heap d es ep):s.TypeIs (.ref d) "dict":=let ⟨o,ho,hc,_⟩:=x; ⟨o,ho,hc.1⟩
theorem RawD.at {h h':Heap} (x:RawD h d es ep) (e:∀ o,h.get? d=some o->h'.get? d=some o):RawD h' d es ep:=let ⟨o,ho,r⟩:=x; ⟨o,e o ho,r⟩
end
end ST
end
section
namespace ST
open PySem
end ST
end
section
namespace ST
open PySem PySem.W
abbrev tup2 (k v:Value):Obj:={ cls:=.type "tuple",data:=.seq #[k,v] }
abbrev ItP (h:Heap) (it d:Addr) (x:Value) (f:Bool) (i n ep:Nat) (ok ov:Value):Prop:=
 h.get? it=some { cls:=.type "dict_itemiterator",dict:=none,data:=.fields #[x,.bool f,.ref d,.int i 0,.int n 0,.int ep 0,ok,ov],slots:=#[] }
section
variable {prog:Program} {w:World} {A:Around} {E:Value->Shared->Prop} {s:Shared} {d it:Addr} {es:Array DictEntry} {ep i:Nat} {x ok ov:Value} {f:Bool}
theorem pair_next {Q:Option Value->Shared->Prop} (hit:ItP s.heap it d x f i es.size ep ok ov) (hx:(x=.none/\f=false)\/∃ (a:Nat) (oa:Obj),x=rawInt a/\s.heap.get? a=some oa/\a≠it) (hm:RawD s.heap d es ep) (hi:i < es.size)
  (hQ:∀ h' (a:Nat) oa f' ok' ov',ItP h' it d (rawInt a) f' (i + 1) es.size ep ok' ov'->h'.get? a=some oa->a≠it->(x=.none->a=s.heap.objs.size/\f'=false)->(x≠.none->x=rawInt a)->h'.get? s.heap.objs.size=some (tup2 es[i].key es[i].val)->
   (∀ b o,b≠it->s.heap.get? b=some o->h'.get? b=some o)->Q (some (.ref s.heap.objs.size)) { s with heap:=h' }):wpAny (model prog w) A (pyNext (.ref it)) Q E s:=by
 obtain ⟨hp,g,dr,tk,os⟩:=s
 obtain ⟨od,hod,hcd,hdd⟩:=id hm
 have hT:Shared.TypeIs ⟨hp,g,dr,tk,os⟩ (.ref it) "dict_itemiterator":=⟨_,hit,rfl⟩
 unfold pyNext
 refine qa (wpAny_attempt (wpAny_callSpecial?_slot (name:=Str.ofString "__next__") hT F.slot_dict_itemiterator_next
  (wpAny_call_entry F.slot_dict_itemiterator_next hT F.entry_dict_itemiterator_next ?_ (F.args_dict_itemiterator_next_1 _))))
 refine qa (qb (qa (qa ?_)))
 first | refine qa (wpAny_typeNameOfWhole_itemiter hT (qb ?_)) | refine qa (wpAny_typeNameOf_itemiter hT (qb ?_))
 refine qa (wpAny_fieldsOf hit rfl ?_)
 have hown:Builtin.Dict_items.ownsTuple "dict_itemiterator"=true:=by decide
 simp only [hown,if_true]
 show wpAny _ _ (if (Value.ref d == Value.none)=true then _ else _) _ _ _
 rw [if_neg (show ¬ ((Value.ref d == Value.none)=true) from Bool.false_ne_true)]
 refine qa (qb (qa (wpAny_dictEntries hod hdd ?_)))
 rw [if_neg (by simp)]
 refine qa (qb (qa (wpAny_dictEpoch hod hdd ?_)))
 rw [if_neg (by simp)]
 refine qb ?_
 simp only [show ¬ ((i:Int) < 0) from by omega,if_false,toNat_natCast,getElem?_eq_getElem hi]
 refine qa ?_
 first | refine qa (wpAny_typeNameOfWhole_itemiter hT (qb ?_)) | refine qa (wpAny_typeNameOf_itemiter hT (qb ?_))
 refine qa (wpAny_isOneOf_itemiter hT ?_)
 show wpAny _ _ (setField (.ref it) 3 (rawInt ((i:Int) + 1)) >>= _) _ _ ⟨hp,g,dr,tk,os⟩
 refine qa (wpAny_setField_rec hit (by simp) fun h₁ he₁ hs₁=>?_)
 replace hs₁:Heap.SameBut it hp h₁:=hs₁
 replace he₁:ItP h₁ it d x f (i + 1) es.size ep ok ov:=by
  have e:((i + 1:Nat):Int)=(i:Int) + 1:=by omega
  unfold ItP; rw [e]; simpa [rawInt] using he₁
 have hT₁:Shared.TypeIs ⟨h₁,g,dr,tk,os⟩ (.ref it) "dict_itemiterator":=⟨_,he₁,rfl⟩
 refine qa (wpAny_holding (qa (wpAny_isOneOf_itemiter hT₁ (qa (wpAny_isOneOf_itemiter hT₁ ?_)))))
 show wpAny _ _ (Builtin.Dict_items.pairFromOwner (.ref it) 6 es[i].key es[i].val) _ _ ⟨h₁,g,dr,tk,os⟩
 unfold Builtin.Dict_items.pairFromOwner
 refine qa (wpAny_newTuple ?_)
 have he₂:ItP (h₁.push (tup2 es[i].key es[i].val)) it d x f (i + 1) es.size ep ok ov:=qc _ he₁
 generalize hh₂:h₁.push (tup2 es[i].key es[i].val)=h₂ at he₂
 have hz₁:h₁.objs.size=hp.objs.size:=hs₁.1
 have hil:it < hp.objs.size:=qe hit
 have ht₂:h₂.get? hp.objs.size=some (tup2 es[i].key es[i].val):=by rw [<- hh₂,<- hz₁]; exact qd _ rfl
 have hk₂:∀ b o,b≠it->hp.get? b=some o->h₂.get? b=some o:=fun b o hb e=>by rw [<- hh₂]; exact qc _ (hs₁.extBut b o hb e)
 show wpAny _ _ (Builtin.Dict_items.ownedTupleIsFree (.ref it) >>= _) _ _ ⟨h₂,g,dr,tk,os⟩
 rw [hz₁]
 clear hh₂ he₁ hs₁ hT₁ hz₁ h₁
 refine qa ?_
 unfold Builtin.Dict_items.ownedTupleIsFree
 refine qa (wpAny_field he₂ rfl (x:=x) rfl ?_)
 rcases hx with ⟨rfl,rfl⟩ | ⟨a,oa,rfl,ha,hai⟩
 ·refine qb ?_
  simp only [if_true]
  refine qa (wpAny_field he₂ rfl (x:=ok) rfl (qa (wpAny_field he₂ rfl (x:=ov) rfl ?_)))
  refine qa (wpAny_setField_rec he₂ (by simp) fun h₃ he₃ hs₃=>?_)
  replace hs₃:Heap.SameBut it h₂ h₃:=hs₃
  replace he₃:ItP h₃ it d .none false (i + 1) es.size ep es[i].key ov:=he₃
  refine qa (wpAny_setField_rec he₃ (by simp) fun h₄ he₄ hs₄=>?_)
  replace hs₄:Heap.SameBut it h₃ h₄:=hs₄
  replace he₄:ItP h₄ it d .none false (i + 1) es.size ep es[i].key es[i].val:=he₄
  refine qa (wpAny_setField_rec he₄ (by simp) fun h₅ he₅ hs₅=>?_)
  replace hs₅:Heap.SameBut it h₄ h₅:=hs₅
  replace he₅:ItP h₅ it d (rawInt hp.objs.size) false (i + 1) es.size ep es[i].key es[i].val:=he₅
  refine qa (wpAny_setField_rec he₅ (by simp) fun h₆ he₆ hs₆=>?_)
  replace hs₆:Heap.SameBut it h₅ h₆:=hs₆
  replace he₆:ItP h₆ it d (rawInt hp.objs.size) false (i + 1) es.size ep es[i].key es[i].val:=he₆
  have kp:∀ b o,b≠it->h₂.get? b=some o->h₆.get? b=some o:=fun b o hb e=>hs₆.extBut b o hb (hs₅.extBut b o hb (hs₄.extBut b o hb (hs₃.extBut b o hb e)))
  have hn:=ne_of_gt hil
  exact qa (wpAny_letGo (qb (qb ⟨_,rfl,qb (hQ h₆ _ _ _ _ _ he₆ (kp _ _ hn ht₂) hn (fun _=>⟨rfl,rfl⟩) (fun z=>absurd rfl z) (kp _ _ hn ht₂) fun b o hb e=>kp b o hb (hk₂ b o hb e))⟩)))
 ·have ha₂:h₂.get? a=some oa:=hk₂ a oa hai ha
  show wpAny _ _ (loadIfAlive ((a:Int).toNat) >>= _) _ _ _
  rw [toNat_natCast]
  refine qa (kdx_alive ha₂ ?_)
  simp only [Option.isNone_some,false_eq_true,if_false]
  refine qa (wpAny_field he₂ rfl (x:=.bool f) rfl ?_)
  have fin:∀ h₃:Heap,ItP h₃ it d (rawInt a) true (i + 1) es.size ep ok ov->Heap.SameBut it h₂ h₃->Q (some (.ref hp.objs.size)) ⟨h₃,g,dr,tk,os⟩:=fun h₃ he₃ hs₃=>
   hQ h₃ a oa _ _ _ he₃ (hs₃.extBut _ _ hai ha₂) hai (fun z=>nomatch z) (fun _=>rfl) (hs₃.extBut _ _ (ne_of_gt hil) ht₂) fun b o hb e=>hs₃.extBut b o hb (hk₂ b o hb e)
  cases f with
  | true=>
    rw [if_neg (show ¬ ((Value.bool true !=Value.bool true)=true) from Bool.false_ne_true)]
    refine qb ?_
    simp only [false_eq_true,if_false]
    exact qb (qb ⟨_,rfl,qb (fin h₂ he₂ (Heap.SameBut.refl _ _))⟩)
  | false=>
    rw [if_pos (show (Value.bool false !=Value.bool true)=true from rfl)]
    refine qa (wpAny_setField_rec he₂ (by simp) fun h₃ he₃ hs₃=>qb ?_)
    simp only [false_eq_true,if_false]
    exact qb (qb ⟨_,rfl,qb (fin h₃ he₃ hs₃)⟩)
theorem pair_end {Q:Option Value->Shared->Prop} (hh:A.handled=none) (hit:ItP s.heap it d x f i es.size ep ok ov) (hm:RawD s.heap d es ep) (hi:es.size<=i)
  (hQ:∀ h',Heap.ExtBut it s.heap h'->Q none { s with heap:=h' }):wpAny (model prog w) A (pyNext (.ref it)) Q E s:=by
 obtain ⟨od,hod,hcd,hdd⟩:=id hm
 have hT:s.TypeIs (.ref it) "dict_itemiterator":=⟨_,hit,rfl⟩
 unfold pyNext
 refine qa (wpAny_attempt (wpAny_callSpecial?_slot (name:=Str.ofString "__next__") hT F.slot_dict_itemiterator_next
  (wpAny_call_entry F.slot_dict_itemiterator_next hT F.entry_dict_itemiterator_next ?_ (F.args_dict_itemiterator_next_1 _))))
 refine qa (qb (qa (qa ?_)))
 first | refine qa (wpAny_typeNameOfWhole_itemiter hT (qb ?_)) | refine qa (wpAny_typeNameOf_itemiter hT (qb ?_))
 refine qa (wpAny_fieldsOf hit rfl ?_)
 have hown:Builtin.Dict_items.ownsTuple "dict_itemiterator"=true:=by decide
 simp only [hown,if_true]
 show wpAny _ _ (if (Value.ref d == Value.none)=true then _ else _) _ _ s
 rw [if_neg (show ¬ ((Value.ref d == Value.none)=true) from Bool.false_ne_true)]
 refine qa (qb (qa (wpAny_dictEntries hod hdd ?_)))
 rw [if_neg (by simp)]
 refine qa (qb (qa (wpAny_dictEpoch hod hdd ?_)))
 rw [if_neg (by simp)]
 refine qb ?_
 simp only [show ¬ ((i:Int) < 0) from by omega,if_false,toNat_natCast,Array.getElem?_eq_none hi]
 refine qa ?_
 first | refine qa (wpAny_typeNameOfWhole_itemiter hT (qb ?_)) | refine qa (wpAny_typeNameOf_itemiter hT (qb ?_))
 show wpAny _ _ (setField (.ref it) 2 .none >>= _) _ _ s
 refine qa (wpAny_setField hit rfl (by simp) ?_)
 show wpAny _ _ (newExc (.type "StopIteration") [] >>= _) _ _ _
 refine qa ?_
 simp only [newExc,newTuple]
 refine qa (wpAny_newObj_type ?_ (by size_fits))
 refine qa (m:=firstArgMember _ _) (wpAny_of_eq (a:=Value.none) (by first | rfl | (simp only [firstArgMember]; rfl)) (wpAny_newObj_type ?_ (by size_fits)))
 simp only [raiseNew]
 refine qa (wpAny_handled ?_)
 rw [show A.in1.handled=none from hh]
 refine qa (qb (wpAny_throw ?_))
 refine qa (wpAny_isInstance (T:="StopIteration") (b:=true) ⟨_,qd _ rfl,rfl⟩ isSubtype_stop ?_)
 exact qb (hQ _ (((Heap.SameBut.update ..).extBut.push _).push _))
theorem pair_view (hd:(d == sysModules)=false):MeetsIn prog w (Builtin.«dict.items» ⟨[.ref d],[]⟩) (fun _ R s=>(∃ es ep,RawD s.heap d es ep)/\
   R (.ok (.ret (.ref s.heap.objs.size))) { s with heap:=s.heap.push { cls:=.type "dict_items",data:=.fields #[.ref d] } }):=
 .of_wp fun A R s h=>by
  obtain ⟨⟨es,ep,hm⟩,h⟩:=h
  unfold Builtin.«dict.items»
  refine qa ?_
  unfold Builtin.Dict.noArgs
  refine qa (wpAny_notOrdered_dict hm.type (qb ?_))
  show wpAny _ _ (Builtin.Dict.showsAll d >>= _) _ _ s
  unfold Builtin.Dict.showsAll
  rw [if_neg (by rw [hd]; exact Bool.false_ne_true)]
  exact qa (qb (qa (wpAny_newObj_type (qb ⟨_,rfl,h⟩))))
abbrev itP0 (d:Addr) (n ep:Nat):Obj:={ cls:=.type "dict_itemiterator",data:=.fields #[.none,.bool false,.ref d,.int 0 0,.int n 0,.int ep 0,.none,.none] }
theorem pair_iter {v:Addr} {Q:Value->Shared->Prop} (hv:s.heap.IsItemsView v d) (hm:RawD s.heap d es ep) (hQ:Q (.ref s.heap.objs.size) { s with heap:=s.heap.push (itP0 d es.size ep) }):wpAny (model prog w) A (pyIter (.ref v)) Q E s:=by
 obtain ⟨ov,hov,hcv,hdv⟩:=id hv
 obtain ⟨o,ho,hc,hdat⟩:=id hm
 refine wpAny_pyIter_slot hv.typeIs F.slot_dict_items_iter (wpAny_call_entry F.slot_dict_items_iter hv.typeIs F.entry_dict_items_iter ?_ (F.args_dict_items_iter_1 _))
 unfold Builtin.«dict_items.__iter__»
 refine qa (qb (qa ?_))
 unfold Builtin.Dict_items.dictOf
 refine qa (wpAny_field hov hdv (x:=.ref d) rfl (qb (qa ?_)))
 unfold Builtin.Dict_items.newIterator
 refine qa (wpAny_dictEntries ho hdat (qa (wpAny_dictEpoch ho hdat ?_)))
 have hown:Builtin.Dict_items.ownsTuple "dict_itemiterator"=true:=by decide
 simp only [hown,if_true]
 refine wpAny_newObj_type (qb ⟨_,rfl,"dict_itemiterator",_,⟨_,qd _ rfl,rfl⟩,F.slot_dict_itemiterator_next.lookup,?_⟩)
  (by simp only [sizeOk,Builtin.Dict_items.ownedTupleFields,size_toArray,length_append,length_cons,length_nil,sizeLine_eq]; omega)
 simpa [rawInt,Builtin.Dict_items.ownedTupleFields] using hQ
end
structure PG (es:Array DictEntry) (lo:Addr) (h:Heap) (as:List Addr):Prop where
 ab:∀ a∈as,lo < a
 pr:∀ (j:Nat) (a:Addr),as[j]?=some a->∃ hj:j < es.size,h.get? a=some (tup2 es[j].key es[j].val)
abbrev lstO (acc:Array Value) (c:Nat):Obj:={ cls:=.type "list",dict:=none,data:=.seq acc c,slots:=#[] }
section
variable {prog:Program} {w:World} {A:Around} {E:Value->Shared->Prop} {s:Shared} {R:Result->Shared->Prop} {es:Array DictEntry} {ep:Nat} {S I d:Addr} {h₁:Heap}
theorem pair_loop (hh:A.handled=none) (hSI:S < I) (hSd:d≠S) (hId:d≠I) (hn:es.size<=sizeLine) (res:Value)
  (hR:∀ h' tk acc c as,(∀ b o,b≠S->b≠I->h₁.get? b=some o->h'.get? b=some o)->h'.get? S=some (lstO acc c)->as.length=es.size->PG es I h' as->acc.toList=as.map Value.ref->R (.ok (.ret res)) { s with heap:=h',toks:=tk }):
  ∀ (k i:Nat) (h:Heap) (tk c:Nat) (acc:Array Value) (as:List Addr),es.size - i=k->i<=es.size->(∃ x f ok ov,ItP h I d x f i es.size ep ok ov/\((x=.none/\f=false)\/∃ (a:Nat) (oa:Obj),x=rawInt a/\h.get? a=some oa/\a≠I/\a≠S))->RawD h d es ep->
    (∀ b o,b≠S->b≠I->h₁.get? b=some o->h.get? b=some o)->h.get? S=some (lstO acc c)->acc.toList=as.map Value.ref->as.length=i->PG es I h as->I < h.objs.size->
    codeAny (model prog w) A (.builtin "list.extend.loop" ⟨[.ref S,.ref I,res],[]⟩) R { s with heap:=h,toks:=tk }:=by
 have hne:S≠I:=ne_of_lt hSI
 intro k
 induction k with
 | zero=>
   intro i h tk c acc as hk hi hst hD hkeep hS hacc hal hG hIs
   obtain ⟨x,f,ok,ov,hit,_⟩:=hst
   refine codeAny_builtin PySem.F.entry_extend_loop ?_
   rw [Around.under_plainId PySem.F.plain_extend_loop _]
   show wpAny _ A.in1 (pyNext (.ref I) >>= _) _ _ _
   refine qa (pair_end (s:={ s with heap:=h,toks:=tk }) (A:=A.in1) hh hit hD (by omega) fun h' he=>?_)
   refine qb (hR h' tk acc c as (fun b o h1 h2 e=>he b o h2 (hkeep b o h1 h2 e)) (he S _ hne hS) (by omega) ⟨hG.ab,fun j a hj=>?_⟩ hacc)
   obtain ⟨q,e⟩:=hG.pr j a hj
   exact ⟨q,he a _ (ne_of_gt (hG.ab a (mem_of_getElem? hj))) e⟩
 | succ k ih=>
   intro i h tk c acc as hk hi hst hD hkeep hS hacc hal hG hIs
   have hlt:i < es.size:=by omega
   obtain ⟨x,f,ok,ov,hit,hx⟩:=hst
   have hsz:acc.size=i:=by rw [<- length_toList,hacc,length_map,hal]
   have hSl:S < h.objs.size:=qe hS
   refine codeAny_builtin PySem.F.entry_extend_loop ?_
   rw [Around.under_plainId PySem.F.plain_extend_loop _]
   show wpAny _ A.in1 (pyNext (.ref I) >>= _) _ _ _
   refine qa (pair_next (s:={ s with heap:=h,toks:=tk }) hit (hx.imp id fun z=>let ⟨a,oa,e1,e2,e3,_⟩:=z; ⟨a,oa,e1,e2,e3⟩) hD hlt fun h' a oa f' ok' ov' hit' ha hai hxn hxs ht hkp=>?_)
   dsimp only at ht hkp hxn hxs ⊢
   have hS':=hkp S _ hne hS
   have up:∀ b o,b≠S->h'.get? b=some o->(h'.update S (Obj.mapSeq (·.push (Value.ref h.objs.size)))).get? b=some o:=fun b o hb e=>(Heap.get?_update_other _ _ (Ne.symm hb)).trans e
   have haS:a≠S:=fun z=>by
    subst z
    rcases hx with ⟨q,_⟩ | ⟨b,ob,q,_,_,hb⟩
    ·exact ne_of_lt hSl (hxn q).1
    ·have e:=q.symm.trans (hxs (by rw [q]; exact fun z=>nomatch z))
     have e2:(b:Int)=(a:Int):=by simpa [rawInt] using e
     exact hb (by omega)
   show wpAny _ A.in1 (updateSeq S (·.push (Value.ref h.objs.size)) >>= _) _ _ _
   refine qa ?_
   refine wpAny_updateSeq hS' rfl (qb ⟨plainId_quiet PySem.F.plain_extend_loop _,ih (i + 1) _ tk _ (acc.push (Value.ref h.objs.size)) (as++[h.objs.size]) (by omega) hlt ⟨_,f',ok',ov',up I _ hne.symm hit',.inr ⟨a,oa,rfl,up a oa haS ha,hai,haS⟩⟩ (hD.at fun o e=>up d o hSd (hkp d o hId e))
    (fun b o h1 h2 e=>up b o h1 (hkp b o h2 (hkeep b o h1 h2 e))) (Heap.get?_update_self _ hS' rfl) (by rw [Array.toList_push,hacc,map_append]; rfl) (by rw [length_append,hal]; rfl) ⟨?_,?_⟩ ?_⟩) (by rw [hsz]; omega) (by show (acc.push (Value.ref h.objs.size)).size<=sizeLine + 1; rw [Array.size_push,hsz]; omega)
   ·intro a ha
    rcases mem_append.mp ha with ha | ha
    ·exact hG.ab a ha
    ·rw [mem_singleton.mp ha]; exact hIs
   ·intro j b hj
    rcases lt_or_ge j as.length with h1 | h1
    ·rw [getElem?_append_left h1] at hj
     obtain ⟨q,e⟩:=hG.pr j b hj
     have hb:=hG.ab b (mem_of_getElem? hj)
     exact ⟨q,up b _ (ne_of_gt (lt_trans hSI hb)) (hkp b _ (ne_of_gt hb) e)⟩
    ·rw [getElem?_append_right h1,List.getElem?_singleton] at hj
     split at hj
     ·have hj':j=i:=by omega
      subst hj'
      cases hj
      exact ⟨hlt,up _ _ (ne_of_gt hSl) ht⟩
     ·cases hj
   ·have e:(h'.update S (Obj.mapSeq (·.push (Value.ref h.objs.size)))).get? h.objs.size=_:=up _ _ (ne_of_gt hSl) ht
    exact lt_trans hIs (qe e)
end
section
variable {prog:Program} {w:World} {A:Around} {E:Value->Shared->Prop} {s:Shared} {es:Array DictEntry} {ep:Nat} {d r:Addr}
theorem pair_extend {R:Result->Shared->Prop} (hh:A.handled=none) (hv:s.heap.IsItemsView r d) (hm:RawD s.heap d es ep) (S:Addr) (hSr:S≠r) (hSd:d≠S) (res:Value) (c₀:Nat) (hS:s.heap.get? S=some { cls:=.type "list",data:=.seq #[] c₀ })
  (hR:∀ h' tk acc c as,(∀ b o,b≠S->s.heap.get? b=some o->h'.get? b=some o)->h'.get? S=some (lstO acc c)->as.length=es.size->PG es s.heap.objs.size h' as->acc.toList=as.map Value.ref->R (.ok (.ret res)) { s with heap:=h',toks:=tk }) (hn:es.size<=sizeLine):
  wpAny (model prog w) A.in1 (Builtin.List.listExtendWith (.ref S) (.ref r) res)
   (fun fin s'=>match fin with | .done f=>R (.ok f) s' | .again c'=>c'.quiet=true/\codeAny (model prog w) A c' R s') (fun e s'=>R (.error e) s') s:=by
 have hSI:S < s.heap.objs.size:=qe hS
 have hdI:d < s.heap.objs.size:=let ⟨_,ho,_⟩:=hm; qe ho
 have key:∀ (h:Heap) (c₁ tk:Nat),(∀ b o,b≠S->(s.heap.push (itP0 d es.size ep)).get? b=some o->h.get? b=some o)->h.get? S=some { cls:=.type "list",data:=.seq #[] c₁ }->
   codeAny (model prog w) A (.builtin "list.extend.loop" ⟨[.ref S,.ref s.heap.objs.size,res],[]⟩) R { s with heap:=h,toks:=tk }:=by
  intro h c₁ tk hk hS₁
  have hI:=hk s.heap.objs.size _ (ne_of_gt hSI) (qd _ rfl)
  exact pair_loop (s:=s) (h₁:=s.heap) hh hSI hSd (ne_of_lt hdI) hn res (fun h' tk' acc c as hk' hS' hl hG hacc=>hR h' tk' acc c as (fun b o hb e=>hk' b o hb (ne_of_lt (qe e)) e) hS' hl hG hacc)
   es.size 0 h tk c₁ #[] [] (sub_zero _) (zero_le _) ⟨_,_,_,_,hI,.inl ⟨rfl,rfl⟩⟩ (hm.at fun o e=>hk d o hSd (qc _ e)) (fun b o hb _ e=>hk b o hb (qc _ e)) hS₁ rfl rfl
   ⟨(fun _ ha=>nomatch ha),(fun j a hj=>by simp at hj)⟩ (qe hI)
 unfold Builtin.List.listExtendWith
 refine qa (wpAny_typeOf (T:="dict_items") hv.typeIs ?_)
 have h1:Builtin.List.listSameRef (.ref S) (.ref r)=false:=by simp [Builtin.List.listSameRef,hSr]
 have h2:(Value.type "dict_items" == Value.type "list")=false:=by decide
 have h3:(Value.type "dict_items" == Value.type "tuple")=false:=by decide
 simp only [h1,h2,h3,Bool.or_false,false_eq_true,if_false]
 refine qa (pair_iter hv hm ?_)
 have hS₁:=qc (itP0 d es.size ep) hS
 refine qa (wpAny_holding (kdx_hint (let ⟨o,ho,hc,_⟩:=hv; ⟨o,qc _ ho,hc⟩) ?_))
 refine wpAny_ite_split (fun _=>?_) (fun _=>qb ⟨plainId_quiet PySem.F.plain_extend_loop _,key _ c₀ _ (fun b o _ e=>e) hS₁⟩)
 refine qa (wpAny_rule (qa ?_))
 show wpAny _ _ (updateSeq S (·.push .none) >>= fun _=>updateSeq S (·.pop)) _ _ _
 refine qa (wpAny_updateSeq hS₁ rfl ?_)
 have hS₂:=Heap.get?_update_self (Obj.mapSeq (·.push Value.none)) hS₁ rfl
 refine wpAny_updateSeq (hz:=by seq_fits) hS₂ rfl ?_
 have hS₃:=Heap.get?_update_self (Obj.mapSeq (·.pop)) hS₂ rfl
 exact qb ⟨plainId_quiet PySem.F.plain_extend_loop _,key _ _ _ (fun b o hb e=>(Heap.get?_update_other _ _ (Ne.symm hb)).trans ((Heap.get?_update_other _ _ (Ne.symm hb)).trans e)) hS₃⟩
theorem pair_call {Q:Value->Shared->Prop} (hh:A.handled=none) (hv:s.heap.IsItemsView r d) (hm:RawD s.heap d es ep) (hn:es.size<=sizeLine)
  (hQ:∀ h' tk acc c as,(∀ b o,s.heap.get? b=some o->h'.get? b=some o)->h'.get? s.heap.objs.size=some (lstO acc c)->as.length=es.size->PG es s.heap.objs.size h' as->acc.toList=as.map Value.ref->Q (.ref s.heap.objs.size) { s with heap:=h',toks:=tk }):
  wpAny (model prog w) A (call (.type "list") [.ref r]) Q E s:=by
 refine callType_codes (Q₁:=fun obj s₁=>obj=.ref s.heap.objs.size/\s₁={ s with heap:=s.heap.push { cls:=.type "list",data:=.seq #[] } }) PySem.F.called_list (PySem.F.typeCall_list_1 _) PySem.F.entry_list_init (code_list_new _ ⟨rfl,rfl⟩) fun obj s₁ h₁=>?_
 obtain ⟨rfl,rfl⟩:=h₁
 have hS:(s.heap.push { cls:=.type "list",data:=.seq #[] }).get? s.heap.objs.size=some { cls:=.type "list",data:=.seq #[] }:=qd _ rfl
 have hr:r < s.heap.objs.size:=let ⟨_,ho,_⟩:=hv; qe ho
 have hd:d < s.heap.objs.size:=let ⟨_,ho,_⟩:=hm; qe ho
 refine ⟨⟨_,hS,rfl⟩,PySem.F.args_list_init_2 _ _,?_⟩
 generalize hS1:s.heap.objs.size=S at hS hr hd hQ
 have old:∀ b o,b≠S->s.heap.get? b=some o->(s.heap.push { cls:=.type "list",data:=.seq #[] }).get? b=some o:=fun b o _ e=>qc _ e
 show wpAny _ _ (do let old <- Builtin.List.listItems (.ref S); Builtin.List.listUpdate (.ref S) (fun _=>#[]); letGo old.toList.reverse; Builtin.List.listExtendWith (.ref S) (.ref r) .none) _ _ _
 refine qa ?_
 unfold Builtin.List.listItems
 refine qa (wpAny_seqItems hS rfl (qb ?_))
 show wpAny _ _ (updateSeq S (fun _=>#[]) >>= fun _=>letGo (#[]:Array Value).toList.reverse >>= fun _=>Builtin.List.listExtendWith (.ref S) (.ref r) .none) _ _ _
 refine qa (wpAny_updateSeq hS rfl ?_)
 have hS₂:=Heap.get?_update_self (Obj.mapSeq (fun _=>(#[]:Array Value))) hS rfl
 refine qa (wpAny_letGo ?_)
 generalize hh1:(s.heap.push { cls:=.type "list",data:=.seq #[] }).update S (Obj.mapSeq (fun _=>(#[]:Array Value)))=h1 at hS₂
 have oth:∀ b o,b≠S->s.heap.get? b=some o->h1.get? b=some o:=fun b o hb e=>by rw [<- hh1]; exact (Heap.get?_update_other _ _ (Ne.symm hb)).trans (old b o hb e)
 refine pair_extend (A:=A.in1) (R:=wants (fun r s₂=>r=Value.none/\Q (Value.ref S) s₂) E) (s:={ s with heap:=h1 }) hh (let ⟨o,ho,x⟩:=hv; ⟨o,oth r o (ne_of_lt hr) ho,x⟩) (hm.at fun o e=>oth d o (ne_of_lt hd) e) S (ne_of_gt hr) (ne_of_lt hd) .none _ hS₂ (fun h' tk acc c as hk hS' hl hG hacc=>?_) hn
 exact ⟨rfl,hQ h' tk acc c as (fun b o e=>hk b o (ne_of_lt (hS1 ▸ qe e)) (oth b o (ne_of_lt (hS1 ▸ qe e)) e)) hS' hl ⟨fun a ha=>lt_trans (qe hS₂) (hG.ab a ha),hG.pr⟩ hacc⟩
end
end ST
end
section
namespace L2
open PySem PySem.Spec PyProof.Rows
abbrev Key:=Sum Int Str
noncomputable def keyIs:Key->Value->Bool
 | .inl k,v=>Value.isInt k v
 | .inr x,v=>Value.isStrOf x v
noncomputable def keyH (w:World):Key->Int
 | .inl k=>hashInt k
 | .inr x=>hashStr w x
theorem zaq:∀ {k:Key} {v:Value},keyIs k v=true->(∃ i t,k=Sum.inl i/\v=Value.int i t)\/(∃ x t,k=Sum.inr x/\v=Value.str x t)
 | .inl i,v,h=>by
   obtain ⟨t,e⟩:=Value.isInt_shape (k:=i) (v:=v) h
   exact .inl ⟨i,t,rfl,e⟩
 | .inr x,v,h=>by
   obtain ⟨t,e⟩:=Value.isStrOf_shape (x:=x) (v:=v) h
   exact .inr ⟨x,t,rfl,e⟩
theorem zg4 (i:Int) (t:Tok):keyIs (.inl i) (.int i t)=true:=by simp [keyIs,Value.isInt]
theorem zhH (x:Str) (t:Tok):keyIs (.inr x) (.str x t)=true:=by simp [keyIs,Value.isStrOf]
theorem zmN (a b:Int):decide ((Sum.inl a:Key)=Sum.inl b)=(a == b):=by
 grind
theorem zmm (a b:Str):decide ((Sum.inr a:Key)=Sum.inr b)=decide (a=b):=by
 grind
theorem zno (a:Int) (b:Str):decide ((Sum.inl a:Key)=Sum.inr b)=false:=decide_eq_false (fun q=>nomatch q)
theorem znn (a:Str) (b:Int):decide ((Sum.inr a:Key)=Sum.inl b)=false:=decide_eq_false (fun q=>nomatch q)
noncomputable def mixKind (prog:Program) (w:World):PySem.KeyKind prog w Key where
 is:=keyIs
 hash:=keyH w
 inj:=fun v a b ha hb=>by
  rcases zaq ha with ⟨i,t,rfl,rfl⟩ | ⟨x,t,rfl,rfl⟩
  ·rcases zaq hb with ⟨j,u,rfl,e⟩ | ⟨y,u,rfl,e⟩
   ·injection e with e1 _; rw [e1]
   ·exact nomatch e
  ·rcases zaq hb with ⟨j,u,rfl,e⟩ | ⟨y,u,rfl,e⟩
   ·exact nomatch e
   ·injection e with e1 _; rw [e1]
 byValue:=fun k v h=>by
  rcases zaq h with ⟨i,t,rfl,rfl⟩ | ⟨x,t,rfl,rfl⟩ <;> rfl
 pyHash:=fun hv h=>by
  rcases zaq hv with ⟨i,t,rfl,rfl⟩ | ⟨x,t,rfl,rfl⟩
  ·exact wpAny_pyHash_int h
  ·exact wpAny_pyHash_str h
 eqBool:=fun hu hv h=>by
  rcases zaq hu with ⟨i,t,rfl,rfl⟩ | ⟨x,t,rfl,rfl⟩
  ·rcases zaq hv with ⟨j,u,rfl,rfl⟩ | ⟨y,u,rfl,rfl⟩
   ·rw [zmN] at h; exact wpAny_eqBool_int h
   ·rw [zno] at h; exact SeqAt.EqAt.int_str i t y u _ _ _ _ h
  ·rcases zaq hv with ⟨j,u,rfl,rfl⟩ | ⟨y,u,rfl,rfl⟩
   ·rw [znn] at h; exact SeqAt.EqAt.str_int x t j u _ _ _ _ h
   ·rw [zmm] at h; exact wpAny_eqBool_str h
 «strs»:=fun k x t v h=>by
  rcases zaq h with ⟨i,u,rfl,e⟩ | ⟨y,u,rfl,e⟩
  ·exact nomatch e
  ·injection e with e1 _
   subst e1
   cases v <;> rfl
theorem zfl (prog:Program) (w:World) (i:Int) (t:Tok):(mixKind prog w).is (.inl i) (.int i t)=true:=zg4 i t
theorem zfc (prog:Program) (w:World) (x:Str) (t:Tok):(mixKind prog w).is (.inr x) (.str x t)=true:=zhH x t
end L2
namespace L2
open PySem PySem.Spec PyProof.Rows
inductive V where
 | non | bl (b:Bool) | int (i:Int) | str (x:Str) | byt (b:Array UInt8) | flt (b:UInt64) | ref (a:Addr) | ty (n:String)
 deriving DecidableEq
noncomputable def RelV:V->Value->Prop
 | .non,u=>u=Value.none
 | .bl b,u=>u=Value.bool b
 | .int i,u=>∃ t,u=Value.int i t
 | .str x,u=>∃ t,u=Value.str x t
 | .byt b,u=>∃ t,u=Value.bytes b t
 | .flt b,u=>∃ t,u=Value.float b t
 | .ref a,u=>u=Value.ref a
 | .ty n,u=>u=Value.type n
abbrev Vals:List V->List Value->Prop:=Paired RelV
theorem Vals.length (r:Vals xs us):xs.length=us.length:=Paired.length r
theorem Vals.get:∀ {xs:List V} {us:List Value} {i:Nat} {x:V},Vals xs us->xs[i]?=some x->∃ u,us[i]?=some u/\RelV x u
 | _,_,_,_,.nil,e=>by simp at e
 | _,_,0,_,.cons r _,e=>by simp at e; subst e; exact ⟨_,rfl,r⟩
 | _,_,i + 1,x,.cons _ t,e=>by
   obtain ⟨u,h1,h2⟩:=Vals.get (i:=i) (x:=x) t (by simpa using e)
   exact ⟨u,by simpa using h1,h2⟩
theorem Vals.set (r:RelV x u):∀ {xs:List V} {us:List Value} (i:Nat),Vals xs us->Vals (xs.set i x) (us.set i u)
 | _,_,_,.nil=>.nil
 | _,_,0,.cons _ t=>.cons r t
 | _,_,i + 1,.cons q t=>.cons q (Vals.set r i t)
theorem Vals.append:∀ {xs ys:List V} {us ws:List Value},Vals xs us->Vals ys ws->Vals (xs++ys) (us++ws):=by
 intro xs ys us ws r s
 induction r with
 | nil=>exact s
 | cons r _ ih=>exact .cons r ih
theorem Vals.take:∀ {xs:List V} {us:List Value} (n:Nat),Vals xs us->Vals (xs.take n) (us.take n)
 | _,_,0,_=>.nil
 | _,_,_ + 1,.nil=>.nil
 | _,_,n + 1,.cons r t=>.cons r (Vals.take n t)
theorem Vals.drop:∀ {xs:List V} {us:List Value} (n:Nat),Vals xs us->Vals (xs.drop n) (us.drop n)
 | _,_,0,r=>r
 | _,_,_ + 1,.nil=>.nil
 | _,_,n + 1,.cons _ t=>Vals.drop n t
noncomputable def RelO:Option V->Option Value->Prop
 | some v,some u=>RelV v u
 | none,none=>True
 | _,_=>False
noncomputable def KV {κ:Type}:List (κ×V)->List (κ×Value)->Prop:=Paired fun (p:κ×V) (q:κ×Value)=>p.1=q.1/\RelV p.2 q.2
noncomputable def kV:Key->V
 | .inl i=>.int i
 | .inr x=>.str x
inductive HO where
 | lst (xs:List V)
 | tup (xs:List V)
 | dK (kvs:List (Key×V)) | dT (kvs:List (List Key×V))
 | set (vs:List V)
 | ins (C dx:Addr) (fs:List (Str×V))
 | own (x:Addr)
 | xd (fs:List (Str×V))
 | met (f x:Addr)
 | rng (lo hi:Int)
 | frz (o:Obj) (u:HO)
 | tbl (ps:Array Value)
 | ext (φ:Heap->Prop)
abbrev Hp:=Addr->Option HO
noncomputable def upd (H:Hp) (a:Addr) (o:HO):Hp:=fun b=>if b=a then some o else H b
theorem zai:upd H a o a=some o:=by unfold upd; rw [if_pos rfl]
theorem zaf (h:b≠a):upd H a o b=H b:=by unfold upd; rw [if_neg h]
theorem zmU {H:Hp} (h:H a=some o) (h':H b=some u) (d:o≠u):a≠b:=by
 grind
theorem zar {H:Hp} (h:H a=some o) (h':H b=none):a≠b:=by
 intro e; subst e; rw [h] at h'; cases h'
section
variable (P:Program) (w:World)
noncomputable def NoDc (h:Heap) (a:Addr):Prop:=∀ o,h.get? a=some o->o.dict=none
theorem NoDc.new {h:Heap} {c:Value} {x:Data} {n:Addr} (e:n=h.objs.size) (hx:(h.push { cls:=c,data:=x }).get? h.objs.size=some { cls:=c,data:=x }):NoDc (h.push { cls:=c,data:=x }) n:=fun o q=>by subst e; rw [hx] at q; cases q; rfl
noncomputable def ObjOk (H:Hp) (h:Heap) (a:Addr):HO->Prop
 | .lst xs=>xs.length<=sizeLine/\∃ (its:List Value) (n:Nat),Vals xs its/\h.get? a=some { cls:=.type "list",data:=.seq its.toArray n }
 | .tup xs=>(xs.length<=sizeLine/\NoDc h a)/\∃ its:List Value,Vals xs its/\IsTup h a its.toArray
 | .dK kvs=>kvs.length<=sizeLine/\(a == sysModules)=false/\∃ vs,KV kvs vs/\h.DictOf (mixKind P w) a vs
 | .dT kvs=>kvs.length<=sizeLine/\(a == sysModules)=false/\∃ xs:List (List Key×Addr×Value),
   Paired (fun (p:List Key×V) (q:List Key×Addr×Value)=>p.1=q.1/\H q.2.1=some (.tup (p.1.map kV))/\RelV p.2 q.2.2) kvs xs/\
   ∃ o es ep,h.get? a=some o/\o.ExactDict/\o.data=.dict es ep/\es.toList=xs.map (entryOfKey (tupleKind (mixKind P w)))/\(xs.map (·.1)).Nodup
 | .set vs=>vs.length<=301/\((vs=[]/\h.get? a=some (ST.freshSet (ST.ldOf w)))\/(vs≠[]/\∃ xs:List (Key×Value),vs.Perm (xs.map fun p=>kV p.1)/\ST.VSet (ST.ldOf w) (mixKind P w) h a xs)\/vs≠[]/\∃ xs:List (List Key×Addr),vs.Perm (xs.map fun p=>V.ref p.2)/\(∀ p∈xs,H p.2=some (.tup (p.1.map kV)))/\ST.TRaw (ST.ldOf w) (tupleKind (mixKind P w)) h a xs)
 | .ins C dx fs=>H dx=some (.own a)/\fs.length<=1000/\dx≠a/\h.get? a=some (W.instObj C dx)/\
   ∃ mA,h.Ns1 dx mA/\(∀ f,RelO (fs.lookup f) (mA f))/\PySem.Within mA (fs.map (·.1))
 | .own _=>∃ o,h.get? a=some o
 | .xd fs=>∃ mA,h.Ns1 a mA/\∀ f,RelO (fs.lookup f) (mA f)
 | .rng lo hi=>∃ t u v,h.get? a=some { cls:=.type "range",data:=.fields #[.int lo t,.int hi u,.int 1 v] }
 | .frz o u=>h.get? a=some o/\ObjOk H h a u
 | .tbl ps=>h.get? a=some { cls:=.none,data:=.fields ps }
 | .met f x=>h.get? a=some (W.methodObj (.ref f) (.ref x))
 | .ext φ=>φ h/\(∃ o,h.get? a=some o)/\∀ h1 h2:Heap,φ h1->(∀ o,h1.get? a=some o->h2.get? a=some o)->φ h2
noncomputable def HOk (H:Hp) (h:Heap):Prop:=∀ a o,H a=some o->ObjOk P w H h a o
end
section
variable {P:Program} {w:World} {H H':Hp} {h h':Heap} {a:Addr} {o:HO}
theorem ObjOk.lt (x:ObjOk P w H h a o):a < h.objs.size:=by
 cases o with
 | lst xs=>obtain ⟨_,_,_,_,e⟩:=x; exact qe e
 | tup xs=>obtain ⟨_,_,_,p⟩:=x; exact p.lt
 | dK kvs=>obtain ⟨_,_,_,_,o,_,_,e,_⟩:=x; exact qe e
 | dT kvs=>obtain ⟨_,_,_,_,o,_,_,e,_⟩:=x; exact qe e
 | set vs=>
   rcases x with ⟨_,⟨_,e⟩ | ⟨_,_,_,_,_,_,_,e,_⟩ | ⟨_,_,_,_,_,_,_,_,e,_⟩⟩
   ·exact qe e
   ·exact qe e
   ·exact qe e
 | ins C dx fs=>obtain ⟨_,_,_,e,_⟩:=x; exact qe e
 | own y=>obtain ⟨_,e⟩:=x; exact qe e
 | xd fs=>obtain ⟨_,⟨_,_,_,e,_⟩,_⟩:=x; exact qe e
 | rng lo hi=>obtain ⟨_,_,_,e⟩:=x; exact qe e
 | frz ob u=>obtain ⟨e,_⟩:=x; exact qe e
 | tbl ps=>exact qe (show h.get? a=some _ from x)
 | met f y=>exact qe (show h.get? a=some _ from x)
 | ext φ=>obtain ⟨_,⟨_,e⟩,_⟩:=x; exact qe e
theorem Paired.mapP:∀ {l₁:List α} {l₂:List β},Paired F l₁ l₂->(∀ a b,F a b->G a b)->Paired G l₁ l₂
 | _,_,.nil,_=>.nil
 | _,_,.cons r t,f=>.cons (f _ _ r) (Paired.mapP t f)
theorem ObjOk.stay (x:ObjOk P w H h a o) (k:∀ b u,(b=a\/H b=some (.own a))->h.get? b=some u->h'.get? b=some u)
  (ho:∀ b,H b=some (.own a)->H' b=some (.own a)) (ht:∀ b xs,H b=some (.tup xs)->H' b=some (.tup xs)):ObjOk P w H' h' a o:=by
 induction o with
 | lst xs=>obtain ⟨z,its,n,r,e⟩:=x; exact ⟨z,its,n,r,k _ _ (.inl rfl) e⟩
 | tup xs=>obtain ⟨⟨z,nd⟩,its,r,ob,e,c⟩:=x; exact ⟨⟨z,fun o q=>by rw [k _ _ (.inl rfl) e] at q; cases q; exact nd _ e⟩,its,r,ob,k _ _ (.inl rfl) e,c⟩
 | dK kvs=>obtain ⟨z,y,vs,r,ob,es,ep,e,c⟩:=x; exact ⟨z,y,vs,r,ob,es,ep,k _ _ (.inl rfl) e,c⟩
 | dT kvs=>
   obtain ⟨z,y,xs,r,ob,es,ep,e,c⟩:=x
   exact ⟨z,y,xs,Paired.mapP r fun p q z=>⟨z.1,ht _ _ z.2.1,z.2.2⟩,ob,es,ep,k _ _ (.inl rfl) e,c⟩
 | set vs=>
   rcases x with ⟨z,⟨n,e⟩ | ⟨n,xs,p,ob,es,ep,t,e,c⟩ | ⟨n,xs,p,hx,ob,es,ep,t,e,c⟩⟩
   ·exact ⟨z,.inl ⟨n,k _ _ (.inl rfl) e⟩⟩
   ·exact ⟨z,.inr (.inl ⟨n,xs,p,ob,es,ep,t,k _ _ (.inl rfl) e,c⟩)⟩
   ·exact ⟨z,.inr (.inr ⟨n,xs,p,fun q hq=>ht _ _ (hx q hq),ob,es,ep,t,k _ _ (.inl rfl) e,c⟩)⟩
 | ins C dx fs=>
   obtain ⟨d,z,ne,e,mA,⟨od,es,ep,e2,c⟩,r⟩:=x
   exact ⟨ho _ d,z,ne,k _ _ (.inl rfl) e,mA,⟨od,es,ep,k _ _ (.inr d) e2,c⟩,r⟩
 | own y=>obtain ⟨ob,e⟩:=x; exact ⟨ob,k _ _ (.inl rfl) e⟩
 | xd fs=>obtain ⟨mA,⟨od,es,ep,e,c⟩,r⟩:=x; exact ⟨mA,⟨od,es,ep,k _ _ (.inl rfl) e,c⟩,r⟩
 | rng lo hi=>obtain ⟨t,u,v,e⟩:=x; exact ⟨t,u,v,k _ _ (.inl rfl) e⟩
 | frz ob u ih=>obtain ⟨e,q⟩:=x; exact ⟨k _ _ (.inl rfl) e,ih q⟩
 | tbl ps=>
   have e:h.get? a=some { cls:=.none,data:=.fields ps }:=x
   show h'.get? a=some { cls:=.none,data:=.fields ps }
   exact k a _ (.inl rfl) e
 | met f y=>
   have e:h.get? a=some (W.methodObj (.ref f) (.ref y)):=x
   show h'.get? a=some (W.methodObj (.ref f) (.ref y))
   exact k a _ (.inl rfl) e
 | ext φ=>obtain ⟨p,⟨o,e⟩,st⟩:=x; exact ⟨st _ _ p fun o q=>k _ _ (.inl rfl) q,⟨o,k _ _ (.inl rfl) e⟩,st⟩
theorem HOk.lt (x:HOk P w H h) (e:H a=some o):a < h.objs.size:=(x a o e).lt
theorem HOk.fresh (x:HOk P w H h) (e:h.objs.size<=a):H a=none:=by
 cases q:H a with
 | none=>rfl
 | some u=>exact absurd (lt_of_lt_of_le (x.lt q) e) (lt_irrefl _)
theorem HOk.kept (x:HOk P w H h) (k:∀ b u,h.get? b=some u->h'.get? b=some u):HOk P w H h':=fun a o e=>
 (x a o e).stay (fun b u _ q=>k b u q) (fun _ q=>q) fun _ _ q=>q
theorem HOk.laid (x:HOk P w H h) (k:∀ b u,h.get? b=some u->h'.get? b=some u) (hp:h.objs.size<=a) (new:ObjOk P w (upd H a o) h' a o):HOk P w (upd H a o) h':=fun b u e=>by
 have hn:=x.fresh hp
 by_cases hb:b=a
 ·subst hb; rw [zai] at e; cases e; exact new
 ·rw [zaf hb] at e
  exact (x b u e).stay (fun c v _ q=>k c v q) (fun c q=>by rw [zaf (zar q hn)]; exact q) fun c xs q=>by rw [zaf (zar q hn)]; exact q
end
noncomputable def Rd (H:Hp) (a:Addr) (u:HO):Prop:=H a=some u\/∃ o,H a=some (.frz o u)
theorem Rd.of (h:H a=some u):Rd H a u:=.inl h
theorem Rd.ok (r:Rd H a u) (x:HOk P w H h):ObjOk P w H h a u:=by
 rcases r with r | ⟨o,r⟩
 ·exact x a u r
 ·obtain ⟨_,q⟩:=x a _ r
  exact q
noncomputable def Mut:Option HO->Prop
 | some (.lst _)=>True
 | some (.dK _)=>True
 | some (.dT _)=>True
 | some (.set _)=>True
 | some (.ins _ _ _)=>True
 | some (.ext _)=>True
 | _=>False
section
variable {P:Program} {w:World} {H:Hp} {h h':Heap} {x e:Addr} {o':HO}
theorem HOk.write (ok:HOk P w H h) (mu:Mut (H x)) (he:e=x\/H e=some (.own x)) (k:∀ b u,b≠e->h.get? b=some u->h'.get? b=some u) (heo:∃ u,h'.get? e=some u)
  (new:ObjOk P w (upd H x o') h' x o'):HOk P w (upd H x o') h':=fun b u q=>by
 have nown:∀ c y,H c=some (.own y)->c≠x:=fun c y r z=>by subst z; rw [r] at mu; exact mu
 have ntup:∀ c xs,H c=some (.tup xs)->c≠x:=fun c xs r z=>by subst z; rw [r] at mu; exact mu
 by_cases hb:b=x
 ·subst hb; rw [zai] at q; cases q; exact new
 ·rw [zaf hb] at q
  by_cases hbe:b=e
  ·have q':H b=some (.own x):=by
    grind
   rw [q] at q'; cases q'
   obtain ⟨v,hv⟩:=heo
   exact ⟨v,by rw [hbe]; exact hv⟩
  ·refine (ok b u q).stay (fun c v hc r=>k c v ?_ r) (fun c r=>by rw [zaf (nown c b r)]; exact r) fun c xs r=>by rw [zaf (ntup c xs r)]; exact r
   grind
end
structure Un (fs ex:List Addr) (H H':Hp) (h h':Heap):Prop where
 keep:∀ b o,h.get? b=some o->H b=none->b∉fs->b∉ex->h'.get? b=some o
 slot:∀ b o,h.get? b=some o->H b=none->b∈fs->b∉ex->∃ sl,h'.get? b=some { o with slots:=sl }
 free:∀ b o,h.get? b=some o->H b=none->b∉ex->H' b=none
 there:∀ b o,h.get? b=some o->b∉ex->∃ o',h'.get? b=some o'
 tups:∀ b xs,H b=some (.tup xs)->H' b=some (.tup xs)
 frzs:∀ b o u,H b=some (.frz o u)->H' b=some (.frz o u)
 tbls:∀ b ps,H b=some (.tbl ps)->∃ more,H' b=some (.tbl (ps++more))
section
variable {fs fs' ex ex':List Addr} {H H1 H2:Hp} {h h1 h2 h':Heap} {a x e:Addr} {o:HO}
theorem Un.any (u:Un fs ex H H1 h h1) (q:h.get? b=some ob) (n:H b=none) (hx:b∉ex):∃ sl,h1.get? b=some { ob with slots:=sl }:=by
 by_cases hb:b∈fs
 ·exact u.slot b ob q n hb hx
 ·exact ⟨ob.slots,u.keep b ob q n hb hx⟩
theorem Un.kept (k:∀ b u,h.get? b=some u->h'.get? b=some u):Un fs ex H H h h':=
 ⟨fun b ob q _ _ _=>k b ob q,fun b ob q _ _ _=>⟨ob.slots,k b ob q⟩,fun _ _ _ n _=>n,fun b ob q _=>⟨ob,k b ob q⟩,fun _ _ q=>q,fun _ _ _ q=>q,fun _ ps q=>⟨#[],by rw [q]; simp⟩⟩
theorem Un.refl:Un fs ex H H h h:=Un.kept fun _ _ q=>q
theorem Un.laid (k:∀ b u,h.get? b=some u->h'.get? b=some u) (hp:h.objs.size<=a) (hn:H a=none):Un fs ex H (upd H a o) h h' where
 keep:=fun b u q _ _ _=>k b u q
 slot:=fun b u q _ _ _=>⟨u.slots,k b u q⟩
 free:=fun b u q n _=>by rw [zaf (ne_of_lt (lt_of_lt_of_le (qe q) hp))]; exact n
 there:=fun b u q _=>⟨u,k b u q⟩
 tups:=fun b xs q=>by rw [zaf (zar q hn)]; exact q
 frzs:=fun b u xs q=>by rw [zaf (zar q hn)]; exact q
 tbls:=fun b ps q=>⟨#[],by rw [zaf (zar q hn),q]; simp⟩
theorem Un.write (mu:Mut (H x)) (he:e=x\/H e=some (.own x)) (k:∀ b u,b≠e->h.get? b=some u->h'.get? b=some u) (heo:∃ u,h'.get? e=some u):Un fs ex H (upd H x o) h h':=by
 have hx:∀ b,H b=none->b≠x:=fun b n z=>by subst z; rw [n] at mu; exact mu
 have hb:∀ b,H b=none->b≠e:=fun b n z=>by
  grind
 have hm:∀ b u,H b=some u->¬ Mut (some u)->b≠x:=fun b u q nm z=>by subst z; rw [q] at mu; exact nm mu
 refine ⟨fun b u q n _ _=>k b u (hb b n) q,fun b u q n _ _=>⟨u.slots,k b u (hb b n) q⟩,fun b u q n _=>by rw [zaf (hx b n)]; exact n,fun b u q _=>?_,
  fun b xs q=>by rw [zaf (hm b _ q fun z=>z)]; exact q,fun b u xs q=>by rw [zaf (hm b _ q fun z=>z)]; exact q,fun b ps q=>⟨#[],by rw [zaf (hm b _ q fun z=>z),q]; simp⟩⟩
 grind
end
noncomputable def trk (h:Heap) (H:Hp):List Addr:=(List.range h.objs.size).filter fun a=>(H a).isSome
noncomputable def hidT (h:Heap) (H:Hp):Heap:=W.hideAll h (trk h H)
theorem zhl (h:Heap) (H:Hp):(hidT h H).objs.size=h.objs.size:=W.hideAll_size _ _
theorem zkd (e:h.get? b=some o) (n:H b=none):(hidT h H).get? b=some o:=
 W.hideAll_get _ e fun hm=>by
  have q:(H b).isSome=true:=(mem_filter.mp hm).2
  rw [n] at q; simp at q
theorem zld (e:(hidT h H).get? b=some o):h.get? b=some o/\H b=none:=by
 have e':h.get? b=some o:=W.of_hideAll (trk h H) e
 refine ⟨e',?_⟩
 cases q:H b with
 | none=>rfl
 | some x=>
   grind [trk,mem_filter,mem_range,Heap.lt_size,hidT,W.hideAll_none]
noncomputable def allNews (g h:Heap) (L:Addr):List (Addr×Obj):=(List.range h.objs.size).filterMap fun a=>if a=L\/(g.get? a).isSome=true then none else (h.get? a).map fun o=>(a,o)
theorem zfk (h1:a≠L) (h2:g.get? a=none) (h3:h.get? a=some o):(a,o)∈allNews g h L:=
 mem_filterMap.mpr ⟨a,mem_range.mpr (qe h3),by simp [h1,h2,h3]⟩
noncomputable def rest (g h:Heap) (L d:Addr):List (Addr×Obj):=(allNews g h L).filter fun p=>decide (p.1≠d)
theorem zcr (h1:a≠L) (h2:g.get? a=none) (h3:h.get? a=some o) (h4:a≠d):(a,o)∈rest g h L d:=
 mem_filter.mpr ⟨zfk h1 h2 h3,decide_eq_true h4⟩
end L2
namespace L2
open PySem PySem.Spec PyProof.Rows
structure Mod (K:W.Frag) (mg:Str->Option Value) (base:Heap):Prop where
 kin:K.In base
 glob:base.Ns mainGlobals mg
 blt:∃ mb,base.Ns builtinsNs mb/\∀ x:Str,x≠"__name__"->mb x=bootBuiltins x
 nolimit:base.NoLimit
structure Cx where
 prog:Program
 w:World
 K:W.Frag
 mg:Str->Option Value
 base:Heap
 A:Around
 N:List Str
 s₀:Shared
 H₀:Hp
 env:Env
 outer:List Env
 stack:List Env
 ex:List Addr
 fn:Str->Bool
 calm:Bool
 pn:List (Addr×Obj)
 xe:Value->Shared->Prop
noncomputable def frs (l:List Env):List Addr:=l.filterMap (·.frame)
abbrev Cx.fs (X:Cx):List Addr:=frs X.outer
noncomputable def Vis (sc:Scope) (x:Str):Prop:=sc.names.lookup x=some .local\/sc.names.lookup x=some .cell\/sc.names.lookup x=some .free
noncomputable def Loc (sc:Scope) (x:Str):Prop:=sc.names.lookup x=some .local\/sc.names.lookup x=some .cell
noncomputable def Look (env:Env) (h:Heap) (m:Str->Option Value) (x:Str) (u:Value):Prop:=
 (env.kindOf x=some .local/\m x=some u)\/((env.kindOf x=some .cell\/env.kindOf x=some .free)/\∃ c,env.cells.lookup x=some c/\h.IsCell c (some u))
structure Cx.Ok (X:Cx):Prop where
 mod:Mod X.K X.mg X.base
 kind:X.env.scope.kind=.function
 glob:X.env.globals=mainGlobals
 blt:X.env.builtins=builtinsNs
 above:X.s₀.heap.objs.size<=X.env.locals
 inj:∀ x y c,X.env.cells.lookup x=some c->X.env.cells.lookup y=some c->x=y
 has:∀ x,(X.env.kindOf x=some .cell\/X.env.kindOf x=some .free)->∃ c,X.env.cells.lookup x=some c
 cab:∀ x c,X.fn x=true->X.env.cells.lookup x=some c->X.s₀.heap.objs.size<=c
 hd:X.calm=true->X.A.handled=none
 frames:X.A.frames=some X.stack
 stk:X.stack=X.outer\/(X.stack=X.env::X.outer/\X.env.frame=some X.env.locals)
 exf:∀ b∈X.ex,b≠X.env.locals/\∀ x c,X.env.cells.lookup x=some c->c≠b
 bs:∀ b o,X.base.get? b=some o->X.s₀.heap.get? b=some o/\X.H₀ b=none
 bsz:X.base.objs.size<=X.s₀.heap.objs.size
 noex:∀ b o,X.base.get? b=some o->b∉X.ex
 exfs:∀ b∈X.ex,b∉X.fs
 funs:X.s₀.heap.FunFrames X.base X.outer
 frf:∀ b∈X.fs,X.H₀ b=none
structure Inv (X:Cx) (pins:List (Addr×Obj)) (U:List (Option V)) (H:Hp) (s:Shared):Prop where
 ok:X.Ok
 os:s.os=X.s₀.os
 bare:AllBare s.gens
 base:Un X.fs X.ex X.H₀ H X.s₀.heap s.heap
 loc:∃ m,s.heap.Ns X.env.locals m/\∀ (i:Nat) (x:Str) (v:V),X.N[i]?=some x->U[i]?=some (some v)->Vis X.env.scope x->∃ u,RelV v u/\Look X.env s.heap m x u
 cell:∀ x c,X.env.cells.lookup x=some c->∃ v,s.heap.IsCell c v
 free:H X.env.locals=none
 freeC:∀ x c,X.env.cells.lookup x=some c->H c=none
 pin:∀ p∈X.pn++pins,s.heap.get? p.1=some p.2/\H p.1=none/\p.1≠X.env.locals/\p.1∉X.fs/\∀ v,p.2.data≠.cell v
 hok:HOk X.prog X.w H s.heap
 len:U.length=X.N.length
section
variable {X:Cx} {pins:List (Addr×Obj)} {U:List (Option V)} {H H':Hp} {s:Shared} {h':Heap}
theorem Cx.Ok.nofr (ok:X.Ok) (e:X.base.get? b=some o):b∉X.fs:=fun hb=>by
 have:=(ok.funs.mem hb).1
 rw [e] at this; cases this
theorem Inv.bs (I:Inv X pins U H s):∀ b o,X.base.get? b=some o->s.heap.get? b=some o/\H b=none:=fun b o e=>
 ⟨I.base.keep b o (I.ok.bs b o e).1 (I.ok.bs b o e).2 (I.ok.nofr e) (I.ok.noex b o e),I.base.free b o (I.ok.bs b o e).1 (I.ok.bs b o e).2 (I.ok.noex b o e)⟩
theorem Inv.bk (I:Inv X pins U H s):∀ b o,X.base.get? b=some o->s.heap.get? b=some o:=fun b o e=>(I.bs b o e).1
theorem Inv.mod (I:Inv X pins U H s):Mod X.K X.mg X.base:=I.ok.mod
theorem Inv.kIn (I:Inv X pins U H s):X.K.In s.heap:=I.ok.mod.kin.keeps I.bk
theorem Inv.fr (I:Inv X pins U H s):∃ m,Fr X.base X.env.locals s.heap m:=
 let ⟨m,hn,_⟩:=I.loc
 ⟨m,hn,I.bk,le_trans I.ok.bsz I.ok.above⟩
theorem Inv.lt (I:Inv X pins U H s):X.env.locals < s.heap.objs.size:=let ⟨_,hn,_⟩:=I.loc; hn.lt
theorem Inv.sz (I:Inv X pins U H s):X.s₀.heap.objs.size<=s.heap.objs.size:=le_trans I.ok.above (le_of_lt I.lt)
theorem Inv.nofs (I:Inv X pins U H s) (h:s.heap.objs.size<=a):a∉X.fs:=fun hb=>by
 obtain ⟨_,o,ho,_⟩:=I.ok.funs.mem hb
 exact absurd (lt_of_lt_of_le (qe ho) (le_trans I.sz h)) (lt_irrefl _)
theorem Inv.cne (I:Inv X pins U H s):∀ x c,X.env.cells.lookup x=some c->c≠X.env.locals:=fun x c e z=>by
 obtain ⟨v,o,ho,hd⟩:=I.cell x c e
 obtain ⟨m,⟨o',es,ep,ho',hd',_⟩,_⟩:=I.loc
 rw [z,ho'] at ho; cases ho; rw [hd'] at hd; cases hd
theorem Inv.funs (I:Inv X pins U H s):s.heap.FunFrames X.base X.outer:=by
 have all:∀ (l:List Env),(∀ b∈frs l,b∈X.fs)->X.s₀.heap.FunFrames X.base l->s.heap.FunFrames X.base l:=by
  intro l
  induction l with
  | nil=>intro _ _; trivial
  | cons env r ih=>
    intro hs hl
    obtain ⟨hk,⟨L,o,hf,hn,ho,hd⟩,hr⟩:=hl
    have hL:L∈X.fs:=hs L (by unfold frs; rw [filterMap_cons,hf]; exact qo)
    obtain ⟨sl,e⟩:=I.base.slot L o ho (I.ok.frf L hL) hL fun z=>I.ok.exfs L z hL
    exact ⟨hk,⟨L,_,hf,hn,e,hd⟩,ih (fun b hb=>hs b (by unfold frs; rw [filterMap_cons,hf]; exact qm _ hb)) hr⟩
 exact all X.outer (fun _ hb=>hb) I.ok.funs
theorem Inv.stack (I:Inv X pins U H s):s.heap.FunFrames X.base X.stack:=by
 rcases I.ok.stk with e | ⟨e,hf⟩
 ·rw [e]; exact I.funs
 ·rw [e]
  obtain ⟨m,hn,_⟩:=I.loc
  refine .cons (by rw [I.ok.kind]; decide) hf hn ?_ I.funs
  exact Heap.get?_none_of_le (le_trans I.ok.bsz I.ok.above)
theorem Inv.stkSub (I:Inv X pins U H s):∀ b∈frs X.stack,b∈X.env.locals::X.fs:=fun b hb=>by
 rcases I.ok.stk with e | ⟨e,hf⟩
 ·rw [e] at hb; exact qm _ hb
 ·rw [e] at hb
  unfold frs at hb
  rw [filterMap_cons,hf] at hb
  exact hb
theorem Inv.stkFree (I:Inv X pins U H s):∀ b∈frs X.stack,H b=none:=fun b hb=>by
 rcases mem_cons.mp (I.stkSub b hb) with e | hb
 ·rw [e]; exact I.free
 ·obtain ⟨_,o,ho,_⟩:=I.ok.funs.mem hb
  exact I.base.free b o ho (I.ok.frf b hb) fun z=>I.ok.exfs b z hb
theorem Inv.step {ch:List Addr} (I:Inv X pins U H s)
  (hch:∀ b∈ch,(b∈X.ex\/X.s₀.heap.get? b=none)/\b≠X.env.locals/\(∀ x c,X.env.cells.lookup x=some c->c≠b)/\∀ p∈X.pn++pins,p.1≠b)
  (keep:∀ b o,b≠X.env.locals->b∉X.fs->b∉ch->s.heap.get? b=some o->H b=none->h'.get? b=some o)
  (slot:∀ b o,b≠X.env.locals->b∈X.fs->b∉ch->s.heap.get? b=some o->H b=none->∃ sl,h'.get? b=some { o with slots:=sl }) (free:∀ b o,b∉ch->s.heap.get? b=some o->H b=none->H' b=none)
  (there:∀ b o,b∉ch->s.heap.get? b=some o->∃ o',h'.get? b=some o')
  (tups:∀ b xs,H b=some (.tup xs)->H' b=some (.tup xs)) (frzs:∀ b o u,H b=some (.frz o u)->H' b=some (.frz o u)) (tbls:∀ b ps,H b=some (.tbl ps)->∃ more,H' b=some (.tbl (ps++more)))
  (ns:∀ m,s.heap.Ns X.env.locals m->h'.Ns X.env.locals m) (hok:HOk X.prog X.w H' h') (hg:AllBare g'):
  Inv X pins U H' { s with heap:=h',gens:=g',drawn:=d',toks:=t' }:=by
 have neL:∀ b o,X.s₀.heap.get? b=some o->b≠X.env.locals:=fun b o e=>ne_of_lt (lt_of_lt_of_le (qe e) I.ok.above)
 have neC:∀ b o,X.s₀.heap.get? b=some o->b∉X.ex->b∉ch:=fun b o e hx hb=>by
  rcases (hch b hb).1 with z | z
  ·exact hx z
  ·rw [z] at e; cases e
 have cellK:∀ x c,X.env.cells.lookup x=some c->∀ v,s.heap.IsCell c v->h'.IsCell c v:=fun x c e v ⟨o,ho,hd⟩=>by
  have nch:c∉ch:=fun z=>(hch c z).2.2.1 x c e rfl
  by_cases hc:c∈X.fs
  ·obtain ⟨sl,q⟩:=slot c o (I.cne x c e) hc nch ho (I.freeC x c e)
   exact ⟨_,q,hd⟩
  ·exact ⟨o,keep c o (I.cne x c e) hc nch ho (I.freeC x c e),hd⟩
 refine ⟨I.ok,I.os,hg,⟨fun b o e n hb hx=>?_,fun b o e n hb hx=>?_,fun b o e n hx=>?_,fun b o e hx=>?_,fun b xs e=>tups b xs (I.base.tups b xs e),fun b o xs e=>frzs b o xs (I.base.frzs b o xs e),fun b ps e=>?_⟩,?_,fun x c e=>?_,?_,fun x c e=>?_,fun p hp=>?_,hok,I.len⟩
 ·exact keep b o (neL b o e) hb (neC b o e hx) (I.base.keep b o e n hb hx) (I.base.free b o e n hx)
 ·obtain ⟨sl,e1⟩:=I.base.slot b o e n hb hx
  obtain ⟨sl',e2⟩:=slot b _ (neL b o e) hb (neC b o e hx) e1 (I.base.free b o e n hx)
  exact ⟨sl',e2⟩
 ·obtain ⟨o',e1⟩:=I.base.there b o e hx
  exact free b o' (neC b o e hx) e1 (I.base.free b o e n hx)
 ·obtain ⟨o',e1⟩:=I.base.there b o e hx
  exact there b o' (neC b o e hx) e1
 ·obtain ⟨m1,e1⟩:=I.base.tbls b ps e
  obtain ⟨m2,e2⟩:=tbls b _ e1
  exact ⟨m1++m2,by rw [e2,Array.append_assoc]⟩
 ·obtain ⟨m,hn,hl⟩:=I.loc
  refine ⟨m,ns m hn,fun i x v e1 e2 e3=>?_⟩
  obtain ⟨u,r,l⟩:=hl i x v e1 e2 e3
  refine ⟨u,r,?_⟩
  rcases l with l | ⟨k,c,e,z⟩
  ·exact .inl l
  ·exact .inr ⟨k,c,e,cellK x c e _ z⟩
 ·obtain ⟨v,z⟩:=I.cell x c e
  exact ⟨v,cellK x c e v z⟩
 ·obtain ⟨m,⟨o,_,_,ho,_⟩,_⟩:=I.loc
  exact free _ o (fun z=>(hch _ z).2.1 rfl) ho I.free
 ·obtain ⟨v,o,ho,hd⟩:=I.cell x c e
  exact free c o (fun z=>(hch c z).2.2.1 x c e rfl) ho (I.freeC x c e)
 ·obtain ⟨e,n,ne,nf,d⟩:=I.pin p hp
  have nch:p.1∉ch:=fun z=>(hch p.1 z).2.2.2 p hp rfl
  exact ⟨keep p.1 p.2 ne nf nch e n,free p.1 p.2 nch e n,ne,nf,d⟩
theorem Inv.un (I:Inv X pins U H s) (u:Un X.fs [] H H' s.heap h') (hok:HOk X.prog X.w H' h'):Inv X pins U H' { s with heap:=h',toks:=t' }:=by
 obtain ⟨m,⟨o,es,ep,ho,r⟩,_⟩:=id I.loc
 obtain ⟨sl,hL⟩:=u.any ho I.free (by simp)
 exact I.step (g':=s.gens) (d':=s.drawn) (ch:=[]) (fun _ z=>nomatch z) (fun b o _ hb _ e n=>u.keep b o e n hb (by simp)) (fun b o _ hb _ e n=>u.slot b o e n hb (by simp)) (fun b o _ e n=>u.free b o e n (by simp)) (fun b o _ e=>u.there b o e (by simp)) u.tups u.frzs u.tbls (fun m' hm=>by
  obtain ⟨o',es',ep',ho',r'⟩:=hm
  rw [ho] at ho'; cases ho'
  exact ⟨_,es',ep',hL,r'⟩) hok I.bare
theorem Inv.call (I:Inv X pins U H s) (u:Un (frs X.stack) ch H H' s.heap h') (hok:HOk X.prog X.w H' h') (hg:AllBare g')
  (hch:∀ b∈ch,(b∈X.ex\/X.s₀.heap.get? b=none)/\b≠X.env.locals/\(∀ x c,X.env.cells.lookup x=some c->c≠b)/\∀ p∈X.pn++pins,p.1≠b):
  Inv X pins U H' { s with heap:=h',gens:=g',drawn:=d',toks:=t' }:=by
 obtain ⟨m,⟨o,es,ep,ho,r⟩,_⟩:=id I.loc
 obtain ⟨sl,hL⟩:=u.any ho I.free fun z=>(hch _ z).2.1 rfl
 exact I.step (ch:=ch) hch (fun b o hL hb hc e n=>u.keep b o e n (fun z=>(mem_cons.mp (I.stkSub b z)).elim hL hb) hc) (fun b o _ _ hc e n=>u.any e n hc) (fun b o hc e n=>u.free b o e n hc) (fun b o hc e=>u.there b o e hc) u.tups u.frzs u.tbls (fun m' hm=>by
  obtain ⟨o',es',ep',ho',r'⟩:=hm
  rw [ho] at ho'; cases ho'
  exact ⟨_,es',ep',hL,r'⟩) hok hg
theorem Inv.turned (I:Inv X pins U H s) (k:∀ b o,b≠it->s.heap.get? b=some o->h'.get? b=some o) (hn:H it=none) (hL:it≠X.env.locals)
  (h1:it∈X.ex\/X.s₀.heap.get? it=none) (h2:∀ x c,X.env.cells.lookup x=some c->c≠it) (h3:∀ p∈X.pn++pins,p.1≠it):Inv X pins U H { s with heap:=h',toks:=t' }:=by
 have nit:∀ b u,H b=some u->b≠it:=fun b u e z=>by rw [z,hn] at e; cases e
 refine I.step (g':=s.gens) (d':=s.drawn) (ch:=[it]) (fun b hb=>?_) (fun b o _ _ hc e _=>k b o (fun z=>hc (by simp [z])) e) (fun b o _ _ hc e _=>⟨o.slots,k b o (fun z=>hc (by simp [z])) e⟩) (fun _ _ _ _ n=>n)
  (fun b o hc e=>⟨o,k b o (fun z=>hc (by simp [z])) e⟩) (fun _ _ e=>e) (fun _ _ _ e=>e) (fun b ps e=>⟨#[],by rw [e]; simp⟩) (fun m hm=>?_) (fun b u e=>?_) I.bare
 ·have e:b=it:=by simpa using hb
  subst e
  exact ⟨h1,hL,h2,h3⟩
 ·obtain ⟨o,es,ep,ho,r⟩:=hm
  exact ⟨o,es,ep,k _ o (Ne.symm hL) ho,r⟩
 ·refine (I.hok b u e).stay (fun c v hc q=>k c v ?_ q) (fun _ q=>q) fun _ _ q=>q
  rcases hc with z | z
  ·rw [z]; exact nit b u e
  ·exact nit c _ z
theorem Inv.tok (I:Inv X pins U H s) (t:Nat):Inv X pins U H { s with toks:=t }:=I.un (h':=s.heap) (t':=t) Un.refl I.hok
theorem Inv.kept (I:Inv X pins U H s) (k:∀ b u,s.heap.get? b=some u->h'.get? b=some u):Inv X pins U H { s with heap:=h',toks:=t' }:=I.un (Un.kept k) (I.hok.kept k)
theorem Inv.laid (I:Inv X pins U H s) (k:∀ b u,s.heap.get? b=some u->h'.get? b=some u) (hp:s.heap.objs.size<=a) (new:ObjOk X.prog X.w (upd H a o) h' a o):
  Inv X pins U (upd H a o) { s with heap:=h',toks:=t' }:=I.un (Un.laid k hp (I.hok.fresh hp)) (I.hok.laid k hp new)
theorem Inv.write (I:Inv X pins U H s) (mu:Mut (H x)) (he:e=x\/H e=some (.own x)) (k:∀ b u,b≠e->s.heap.get? b=some u->h'.get? b=some u) (heo:∃ u,h'.get? e=some u)
  (new:ObjOk X.prog X.w (upd H x o) h' x o):Inv X pins U (upd H x o) { s with heap:=h',toks:=t' }:=I.un (Un.write mu he k heo) (I.hok.write mu he k heo new)
theorem Inv.pins_of (I:Inv X pins U H s) (h:∀ p∈pins',s.heap.get? p.1=some p.2/\H p.1=none/\p.1≠X.env.locals/\p.1∉X.fs/\∀ v,p.2.data≠.cell v):Inv X pins' U H s:=
 ⟨I.ok,I.os,I.bare,I.base,I.loc,I.cell,I.free,I.freeC,fun p hp=>(mem_append.mp hp).elim (fun z=>I.pin p (qk _ z)) (h p),I.hok,I.len⟩
theorem zco {N:List Str} (hN:N.Nodup) {i j:Nat} (a:N[i]?=some x) (b:N[j]?=some x):i=j:=by
 obtain ⟨h1,e1⟩:=qh.mp a
 obtain ⟨h2,e2⟩:=qh.mp b
 exact (List.getElem_inj hN).mp (e1.trans e2.symm)
theorem Inv.call' (I:Inv X pins U H s) (ho:s'.os=s.os) (u:Un (frs X.stack) ch H H' s.heap s'.heap) (hok:HOk X.prog X.w H' s'.heap) (hg:AllBare s'.gens)
  (hch:∀ b∈ch,(b∈X.ex\/X.s₀.heap.get? b=none)/\b≠X.env.locals/\(∀ x c,X.env.cells.lookup x=some c->c≠b)/\∀ p∈X.pn++pins,p.1≠b):Inv X pins U H' s':=by
 obtain ⟨h',g',d',t',o'⟩:=s'
 have e:o'=s.os:=ho
 subst e
 exact I.call (g':=g') (t':=t') (d':=d') u hok hg hch
end
abbrev XK:=Value->Option Addr->Hp->Prop
abbrev St:=List (Option V)
abbrev VK:=V->Hp->Prop
abbrev TE:=St->Hp->VK->Prop
abbrev TT:=St->Hp->(Bool->Hp->Prop)->Prop
abbrev TA:=St->Hp->(List V->Hp->Prop)->Prop
structure Ends where
 nx:St->Hp->Prop
 rt:VK
 bk:St->Hp->Prop:=fun _ _=>False
 ct:St->Hp->Prop:=fun _ _=>False
abbrev TS:=Ends->St->Hp->Prop
noncomputable def EP (X:Cx) (pins:List (Addr×Obj)) (U:St) (Q:VK) (u:Value) (s':Shared):Prop:=∃ v H',Inv X pins U H' s'/\RelV v u/\Q v H'
noncomputable def TP (X:Cx) (pins:List (Addr×Obj)) (U:St) (Q:Bool->Hp->Prop) (b:Bool) (s':Shared):Prop:=∃ H',Inv X pins U H' s'/\Q b H'
noncomputable def AP (X:Cx) (pins:List (Addr×Obj)) (U:St) (Q:List V->Hp->Prop) (us:List Value) (s':Shared):Prop:=∃ vs H',Inv X pins U H' s'/\Vals vs us/\Q vs H'
noncomputable def SP (X:Cx) (pins:List (Addr×Obj)) (D:Ends) (f:Flow) (s':Shared):Prop:=
 match f with
 | .next=>∃ U' H',Inv X pins U' H' s'/\D.nx U' H'
 | .brk=>∃ U' H',Inv X pins U' H' s'/\D.bk U' H'
 | .cont=>∃ U' H',Inv X pins U' H' s'/\D.ct U' H'
 | .ret u=>∃ v U' H',Inv X pins U' H' s'/\RelV v u/\D.rt v H'
noncomputable def PE (X:Cx) (e:Expr) (t:TE):Prop:=
 ∀ (pins:List (Addr×Obj)) (s:Shared) (U:St) (H:Hp) (Q:VK),Inv X pins U H s->t U H Q->wpAny (model X.prog X.w) X.A (eval e X.env) (EP X pins U Q) X.xe s
noncomputable def PT (X:Cx) (e:Expr) (t:TT):Prop:=
 ∀ (pins:List (Addr×Obj)) (s:Shared) (U:St) (H:Hp) (Q:Bool->Hp->Prop),Inv X pins U H s->t U H Q->wpAny (model X.prog X.w) X.A (isTrue e X.env (eval e X.env)) (TP X pins U Q) X.xe s
noncomputable def PW (X:Cx) (e:Expr) (t:TT):Prop:=
 ∀ (whole:Sem Value) (pins:List (Addr×Obj)) (s:Shared) (U:St) (H:Hp) (Q:Bool->Hp->Prop),Inv X pins U H s->t U H Q->wpAny (model X.prog X.w) X.A (isTrue e X.env whole) (TP X pins U Q) X.xe s
theorem PW.pt (h:PW X e t):PT X e t:=h _
noncomputable def PA (X:Cx) (es:List Expr) (t:TA):Prop:=
 ∀ (pos:Pos) (pins:List (Addr×Obj)) (s:Shared) (U:St) (H:Hp) (Q:List V->Hp->Prop),Inv X pins U H s->t U H Q->wpAny (model X.prog X.w) X.A (spliced (backTo pos (starEach es X.env))) (AP X pins U Q) X.xe s
noncomputable def PS (X:Cx) (st:Stmt) (t:TS):Prop:=
 ∀ (pins:List (Addr×Obj)) (s:Shared) (U:St) (H:Hp) (D:Ends),Inv X pins U H s->t D U H->wpAny (model X.prog X.w) X.A (exec st X.env) (SP X pins D) X.xe s
noncomputable def PSs (X:Cx) (st:List Stmt) (t:TS):Prop:=
 ∀ (pins:List (Addr×Obj)) (s:Shared) (U:St) (H:Hp) (D:Ends),Inv X pins U H s->t D U H->wpAny (model X.prog X.w) X.A (execs st X.env) (SP X pins D) X.xe s
theorem thn (h:wpAny M A t Q E s) (hQ:∀ a s,Q a s->Q' a s):wpAny M A t Q' E s:=wpAny_mono h hQ fun _ _ x=>x
end L2
namespace L2
open PySem PySem.Spec PyProof.Rows
section
variable {X:Cx}
noncomputable def tVar (i:Nat):TE:=fun U H Q=>∃ v,U[i]?=some (some v)/\Q v H
noncomputable def tC (v:V):TE:=fun _ H Q=>Q v H
theorem zng (hN:X.N[i]?=some x) (hv:Vis X.env.scope x) (hd:(x == ("__debug__":Str))=false:=by decide) (hcd:(x == ("__classdict__":Str))=false:=by decide):PE X (.Name x pos) (tVar i):=by
 intro pins s U H Q I h
 obtain ⟨v,e,h⟩:=h
 obtain ⟨m,hn,hl⟩:=I.loc
 obtain ⟨u,r,l⟩:=hl i x v hN e hv
 have fin:EP X pins U Q u s:=⟨v,H,I,r,h⟩
 rcases l with ⟨hk,hm⟩ | ⟨hk,c,hc,hcell⟩
 ·exact wpAny_Name (wpAny_loadName_local I.ok.kind hk hn hm fin) hd
 ·rcases hk with hk | hk
  ·exact wpAny_Name (wpAny_loadName_cell I.ok.kind hk hc hcell fin) hd
  ·exact wpAny_Name (wpAny_loadName_free I.ok.kind hk hc hcell fin hcd) hd
theorem zn2:PE X (.Constant (.int i) j pos) (tC (.int i)):=fun _ _ _ H _ I h=>wpAny_Constant_int ⟨.int i,H,I.tok _,⟨_,rfl⟩,h⟩
theorem znp:PE X (.Constant .none j pos) (tC .non):=fun _ _ _ H _ I h=>Constant_none ⟨.non,H,I,rfl,h⟩
theorem zmw:PE X (.Constant (.str x) j pos) (tC (.str x)):=fun _ _ _ H _ I h=>Calls.Constant_str ⟨.str x,H,I.tok _,⟨_,rfl⟩,h⟩
noncomputable def Gl (X:Cx) (x:Str):Prop:=X.env.kindOf x=some .globalImplicit
theorem zli (I:Inv X pins U H s) (hg:Gl X x) (hm:X.mg x=some u) (h:Q u s)
  (hd:(x == ("__debug__":Str))=false:=by decide):wpAny (model X.prog X.w) X.A (eval (.Name x pos) X.env) Q E s:=
 Calls.Name_function_global I.ok.kind hg (Calls.loadGlobal_global (by rw [I.ok.glob]; exact I.mod.glob.keeps I.bk) hm h) hd
theorem zcy (I:Inv X pins U H s) (hg:Gl X x) (hm:X.mg x=none) (hv:bootBuiltins x=some u) (h:Q u s)
  (hn:x≠"__name__":=by decide) (hd:(x == ("__debug__":Str))=false:=by decide):wpAny (model X.prog X.w) X.A (eval (.Name x pos) X.env) Q E s:=by
 obtain ⟨mb,h1,h2⟩:=I.mod.blt
 exact Calls.Name_function_global I.ok.kind hg (Calls.loadGlobal_builtin (by rw [I.ok.glob]; exact I.mod.glob.keeps I.bk) hm (by rw [I.ok.blt]; exact h1.keeps I.bk) ((h2 x hn).trans hv) h) hd
variable {a b:Expr} {ta tb:TE} {pos:Pos}
variable {tA tB':TT} {rest:List Expr}
noncomputable def tAnd (t u:TT):TT:=fun U H Q=>t U H fun c H1=>if c=true then u U H1 Q else Q false H1
noncomputable def tOr (t u:TT):TT:=fun U H Q=>t U H fun c H1=>if c=true then Q true H1 else u U H1 Q
theorem zlp (ha:PT X a tA):PW X (.BoolOp .And [a] pos) tA:=by
 intro wh pins s U H Q I h
 refine isTrue_and (thn (ha pins s U H Q I h) fun c s1 e=>?_)
 cases c with
 | true=>exact isTrue_and_nil e
 | false=>exact e
theorem zod (ha:PT X a tA):PW X (.BoolOp .Or [a] pos) tA:=by
 intro wh pins s U H Q I h
 refine isTrue_or (thn (ha pins s U H Q I h) fun c s1 e=>?_)
 cases c with
 | false=>exact isTrue_or_nil e
 | true=>exact e
theorem zoy (ha:PT X a tA) (hb:PW X (.BoolOp .And (b::rest) pos) tB'):PW X (.BoolOp .And (a::b::rest) pos) (tAnd tA tB'):=by
 intro wh pins s U H Q I h
 refine isTrue_and (thn (ha pins s U H _ I h) fun c s1 zq=>?_)
 obtain ⟨H1,I1,q1⟩:=zq
 cases c with
 | true=>exact hb wh pins s1 U H1 Q I1 q1
 | false=>exact ⟨H1,I1,q1⟩
theorem zqp (ha:PT X a tA) (hb:PW X (.BoolOp .Or (b::rest) pos) tB'):PW X (.BoolOp .Or (a::b::rest) pos) (tOr tA tB'):=by
 intro wh pins s U H Q I h
 refine isTrue_or (thn (ha pins s U H _ I h) fun c s1 zq=>?_)
 obtain ⟨H1,I1,q1⟩:=zq
 cases c with
 | true=>exact ⟨H1,I1,q1⟩
 | false=>exact hb wh pins s1 U H1 Q I1 q1
noncomputable def tIf (t:TT) (ta tb:TE):TE:=fun U H Q=>t U H fun c H1=>if c=true then ta U H1 Q else tb U H1 Q
theorem zjk (hc:PT X c tA) (ha:PE X a ta) (hb:PE X b tb):PE X (.IfExp c a b pos) (tIf tA ta tb):=by
 intro pins s U H Q I h
 refine wpAny_IfExp (thn (hc pins s U H _ I h) fun d s1 zq=>?_)
 obtain ⟨H1,I1,q1⟩:=zq
 cases d with
 | true=>exact ha pins s1 U H1 Q I1 q1
 | false=>exact hb pins s1 U H1 Q I1 q1
end
end L2
namespace L2
open PySem PySem.Spec PyProof.Rows
noncomputable def SqL (K:W.Frag) (H:Hp) (a:Addr) (xs:List V):Prop:=
 Rd H a (.lst xs)\/
  ∃ (o:Obj) (its:Array Value) (n:Nat),K.lookup a=some o/\o.cls=.type "list"/\o.dict=none/\o.data=.seq its n/\its.size<=sizeLine/\Vals xs its.toList
noncomputable def SqT (K:W.Frag) (H:Hp) (a:Addr) (xs:List V):Prop:=
 Rd H a (.tup xs)\/
  ∃ (o:Obj) (its:Array Value) (n:Nat),K.lookup a=some o/\o.cls=.type "tuple"/\o.data=.seq its n/\its.size<=sizeLine/\Vals xs its.toList
noncomputable def absV:Value->Option V
 | .none=>some .non
 | .bool b=>some (.bl b)
 | .int i _=>some (.int i)
 | .str x _=>some (.str x)
 | .bytes b _=>some (.byt b)
 | .float b _=>some (.flt b)
 | .ref a=>some (.ref a)
 | .type n=>some (.ty n)
 | _=>none
theorem RelV.abs (r:RelV x u):absV u=some x:=by
 cases x with
 | non=>cases r; rfl
 | bl _=>cases r; rfl
 | int _=>obtain ⟨t,rfl⟩:=r; rfl
 | str _=>obtain ⟨t,rfl⟩:=r; rfl
 | byt _=>obtain ⟨t,rfl⟩:=r; rfl
 | flt _=>obtain ⟨t,rfl⟩:=r; rfl
 | ref _=>cases r; rfl
 | ty _=>cases r; rfl
theorem RelV.inj (r:RelV x u) (q:RelV y u):x=y:=qg (r.abs.symm.trans q.abs)
theorem Vals.inj:∀ {xs ys:List V} {us:List Value},Vals xs us->Vals ys us->xs=ys:=by
 intro xs ys us r q
 induction r generalizing ys with
 | nil=>cases q; rfl
 | cons r _ ih=>cases q with
   | cons r' t'=>rw [r.inj r',ih t']
section
variable {X:Cx} {pins:List (Addr×Obj)} {U:St} {H:Hp} {s:Shared} {a:Addr} {xs ys:List V}
theorem SqL.of {K:W.Frag} (h:H a=some (.lst xs)):SqL K H a xs:=.inl (.inl h)
theorem SqT.of {K:W.Frag} (h:H a=some (.tup xs)):SqT K H a xs:=.inl (.inl h)
theorem Inv.list (I:Inv X pins U H s) (h:SqL X.K H a xs):∃ its:List Value,Vals xs its/\PlainL s.heap a its.toArray/\xs.length<=sizeLine:=by
 rcases h with h | ⟨o,its,n,hk,hc,hd,hs,hz,r⟩
 ·obtain ⟨z,its,n,r,e⟩:=h.ok I.hok
  exact ⟨its,r,⟨_,n,e,rfl,rfl,rfl⟩,z⟩
 ·refine ⟨its.toList,r,⟨o,n,I.kIn a o hk,hc,hd,by simpa using hs⟩,?_⟩
  have e:=r.length
  simp only [length_toList] at e
  lia
theorem Inv.tuple (I:Inv X pins U H s) (h:SqT X.K H a xs):∃ its:List Value,Vals xs its/\IsTup s.heap a its.toArray/\xs.length<=sizeLine:=by
 rcases h with h | ⟨o,its,n,hk,hc,hs,hz,r⟩
 ·obtain ⟨z,its,r,p⟩:=h.ok I.hok
  exact ⟨its,r,p,z.1⟩
 ·refine ⟨its.toList,r,⟨o,I.kIn a o hk,hc,n,by simpa using hs⟩,?_⟩
  have e:=r.length
  simp only [length_toList] at e
  lia
theorem Inv.list_inj (I:Inv X pins U H s) (h:SqL X.K H a xs) (h':SqL X.K H a ys):xs=ys:=by
 obtain ⟨its,r,⟨o,n,e,_,_,d⟩,_⟩:=I.list h
 obtain ⟨its',r',⟨o',n',e',_,_,d'⟩,_⟩:=I.list h'
 rw [e] at e'; cases e'
 rw [d] at d'
 injection d' with d1 _
 have:its=its':=by simpa using congrArg Array.toList d1
 subst this
 exact r.inj r'
theorem Inv.tuple_inj (I:Inv X pins U H s) (h:SqT X.K H a xs) (h':SqT X.K H a ys):xs=ys:=by
 obtain ⟨its,r,⟨o,e,_,n,d⟩,_⟩:=I.tuple h
 obtain ⟨its',r',⟨o',e',_,n',d'⟩,_⟩:=I.tuple h'
 rw [e] at e'; cases e'
 rw [d] at d'
 injection d' with d1 _
 have:its=its':=by simpa using congrArg Array.toList d1
 subst this
 exact r.inj r'
end
section
variable {X:Cx} {st:Stmt} {rest:List Stmt} {t u:TS} {e:Expr} {te:TE} {pos:Pos}
noncomputable def tNext:TS:=fun D U H=>D.nx U H
noncomputable def tSeq (t u:TS):TS:=fun D U H=>t { D with nx:=u D } U H
theorem zk8:PSs X [] tNext:=fun _ _ U H _ I h=>wpAny_execs_nil ⟨U,H,I,h⟩
theorem zjV (h1:PS X st t) (h2:PSs X rest u):PSs X (st::rest) (tSeq t u):=by
 intro pins s U H D I h
 refine wpAny_execs_cons (thn (h1 pins s U H { D with nx:=u D } I h) fun f s1 q=>?_)
 cases f with
 | next=>
   obtain ⟨U',H',I',q⟩:=q
   exact h2 pins s1 U' H' D I' q
 | ret v=>exact q
 | brk=>exact q
 | cont=>exact q
theorem zkY (h1:PS X st t):PSs X [st] t:=by
 intro pins s U H D I h
 refine wpAny_execs_cons (thn (h1 pins s U H D I h) fun f s1 q=>?_)
 cases f with
 | next=>exact wpAny_execs_nil q
 | ret v=>exact q
 | brk=>exact q
 | cont=>exact q
theorem Inv.quiet (I:Inv X pins U H s):interactive X.env=false:=by simp [interactive,I.ok.kind]
noncomputable def tDrop (te:TE):TS:=fun D U H=>te U H fun _ H1=>D.nx U H1
theorem zk2 (he:PE X e te) (hs:swapsWith e none pos.line X.env=pure false:=by rfl):PS X (.Expr e pos) (tDrop te):=by
 intro pins s U H D I h
 exact wpAny_Expr_any (thn (he pins s U H _ I h) fun v s1 ⟨x,H1,I1,r1,q1⟩=>⟨U,H1,I1,q1⟩) I.quiet hs
noncomputable def tRet (te:TE):TS:=fun D U H=>te U H D.rt
theorem zm9 (he:PE X e te):PS X (.Return (some e) pos) (tRet te):=by
 intro pins s U H D I h
 exact wpAny_Return_some (thn (he pins s U H _ I h) fun v s1 ⟨x,H1,I1,r1,q1⟩=>⟨x,U,H1,I1,r1,q1⟩)
noncomputable def tIfS (c:TT) (t u:TS):TS:=fun D U H=>c U H fun b H1=>if b=true then t D U H1 else u D U H1
theorem zqA (hc:PT X c tc) (ha:PSs X a t) (hb:PSs X b u):PS X (.If c a b pos) (tIfS tc t u):=by
 intro pins s U H D I h
 refine wpAny_If (thn (hc pins s U H _ I h) fun d s1 zq=>?_)
 obtain ⟨H1,I1,q1⟩:=zq
 cases d with
 | true=>exact ha pins s1 U H1 D I1 q1
 | false=>exact hb pins s1 U H1 D I1 q1
end
abbrev TG:=V->St->Hp->(St->Hp->Prop)->Prop
abbrev TGs:=List V->St->Hp->(St->Hp->Prop)->Prop
noncomputable def PG (X:Cx) (target:Expr) (t:TG):Prop:=
 ∀ (pins:List (Addr×Obj)) (s:Shared) (U:St) (H:Hp) (v:V) (u:Value) (Q:St->Hp->Prop),Inv X pins U H s->RelV v u->t v U H Q->
   wpAny (model X.prog X.w) X.A (assign target X.env u) (fun _ s'=>∃ U' H',Inv X pins U' H' s'/\Q U' H') X.xe s
noncomputable def PGs (X:Cx) (ts:List Expr) (t:TGs):Prop:=
 ∀ (pins:List (Addr×Obj)) (s:Shared) (U:St) (H:Hp) (vs:List V) (us:List Value) (Q:St->Hp->Prop),Inv X pins U H s->Vals vs us->t vs U H Q->
   wpAny (model X.prog X.w) X.A (assignInOrder ((assignEach ts X.env).map (·.2)) us) (fun _ s'=>∃ U' H',Inv X pins U' H' s'/\Q U' H') X.xe s
abbrev TSet:=V->V->V->Hp->(Hp->Prop)->Prop
noncomputable def PSet (X:Cx) (t:TSet):Prop:=
 ∀ (pins:List (Addr×Obj)) (s:Shared) (U:St) (H:Hp) (o i v:V) (ov iv u:Value) (Q:Hp->Prop),Inv X pins U H s->RelV o ov->RelV i iv->RelV v u->t o i v H Q->
   wpAny (model X.prog X.w) X.A (setItem ov iv u) (fun _ s'=>∃ H',Inv X pins U H' s'/\Q H') X.xe s
section
variable {X:Cx} {pos:Pos}
noncomputable def gNil:TGs:=fun vs U H Q=>vs=[]/\Q U H
noncomputable def gCons (t:TG) (u:TGs):TGs:=fun vs U H Q=>∃ v r,vs=v::r/\t v U H fun U' H'=>u r U' H' Q
theorem zky:PGs X [] gNil:=by
 intro pins s U H vs us Q I r h
 obtain ⟨e,h⟩:=h
 subst e
 cases r
 exact assignInOrder_nil ⟨U,H,I,h⟩
theorem zjC (h1:PG X e t) (h2:PGs X es u)
  (hs:(assignEach (e::es) X.env).map (·.2)=assign e X.env::(assignEach es X.env).map (·.2):=by rfl):PGs X (e::es) (gCons t u):=by
 intro pins s U H vs us Q I r h
 obtain ⟨v,vr,e1,h⟩:=h
 subst e1
 cases r with
 | cons r rr=>
   rw [hs]
   refine assignInOrder_cons (thn (h1 pins s U H _ _ _ I r h) fun _ s1 zq=>?_)
   obtain ⟨U1,H1,I1,q1⟩:=zq
   exact h2 pins s1 U1 H1 _ _ Q I1 rr q1
noncomputable def gTup (K:W.Frag) (n:Nat) (t:TGs):TG:=fun v U H Q=>∃ a xs,v=.ref a/\SqT K H a xs/\xs.length=n/\t xs U H Q
theorem znq (hc:X.calm=true) (h:PGs X es t)
  (hn:(assignEach es X.env).length=n:=by rfl) (hst:(assignEach es X.env).findIdx? (·.1)=none:=by rfl):PG X (.Tuple es k pos) (gTup X.K n t):=by
 intro pins s U H v u Q I r hw
 obtain ⟨a,xs,e1,hq,hl,hw⟩:=hw
 subst e1
 cases r
 obtain ⟨its,rv,ht,hz⟩:=I.tuple hq
 refine assign_Tuple_tuple (I.ok.hd hc) ht (by simp [hn,<- hl,rv.length]) hst fun h' hx=>?_
 have I1:Inv X pins U H { s with heap:=h' }:=I.kept (t':=s.toks) fun b o e=>hx b o (ne_of_lt (qe e)) e
 exact h pins _ U H xs _ Q I1 (by simpa using rv) hw
noncomputable def gSub (to ti:TE) (t:TSet):TG:=fun v U H Q=>to U H fun o H1=>ti U H1 fun i H2=>t o i v H2 fun H3=>Q U H3
theorem zok (ho:PE X o to) (hi:PE X i ti) (hs:PSet X t)
  (ha:∀ v,assign (.Subscript o i pos) X.env v=(do
   let ov <- holding [v] (eval o X.env)
   let iv <- holding [v,ov] (eval i X.env)
   standAt pos
   holding [v,ov,iv] (setItem ov iv v)
   release [v,ov,iv] []):=by intro _; rfl):PG X (.Subscript o i pos) (gSub to ti t):=by
 intro pins s U H v u Q I r h
 rw [ha]
 refine qa (wpAny_holding (thn (ho pins s U H _ I h) fun ov s1 zq=>?_))
 obtain ⟨x,H1,I1,r1,q1⟩:=zq
 refine qa (wpAny_holding (thn (hi pins s1 U H1 _ I1 q1) fun iv s2 zq=>?_))
 obtain ⟨y,H2,I2,r2,q2⟩:=zq
 refine qa (wpAny_standAt (qa (wpAny_holding (thn (hs pins s2 U H2 x y v ov iv u _ I2 r1 r2 r q2) fun _ s3 zq=>?_))))
 obtain ⟨H3,I3,q3⟩:=zq
 exact wpAny_release ⟨U,H3,I3,q3⟩
noncomputable def tAsg (te:TE) (g:TG):TS:=fun D U H=>te U H fun x H1=>g x U H1 D.nx
theorem zkv (he:PE X e te) (hg:PG X tg g) (hs:swapsWithSole [tg] e pos.line X.env=pure false:=by rfl) (hw:swappedStores [tg] e X.env=pure none:=by rfl)
  (h1:(assignEach [tg] X.env).map (·.2)=[assign tg X.env]:=by rfl):PS X (.Assign [tg] e pos) (tAsg te g):=by
 intro pins s U H D I h
 refine wpAny_Assign_stores (thn (he pins s U H _ I h) fun v s1 zq=>?_) hs hw
 obtain ⟨x,H1,I1,r1,q1⟩:=zq
 rw [h1]
 exact thn (hg pins s1 U H1 x v _ I1 r1 q1) fun _ s2 q=>q
end
section
variable {X:Cx} {pos:Pos}
noncomputable def tWhile (c:TT) (tb:TS):TS:=fun D U H=>∃ W:Nat->St->Hp->Prop,(∃ m,W m U H)/\∀ m U H,W m U H->
 c U H fun b H1=>if b=true then ∃ N:St->Hp->Prop,(∀ U' H',N U' H'->∃ m',m' < m/\W m' U' H')/\tb { D with nx:=N,ct:=N,bk:=D.nx } U H1 else D.nx U H1
theorem ziZ (hp:PassesOwn (model X.prog X.w) X.A X.env X.xe) (hc:PT X c tc) (hb:PSs X body tb):PS X (.While c body [] pos) (tWhile tc tb):=by
 intro pins s U H D I h
 obtain ⟨W,⟨m0,w0⟩,turn⟩:=h
 refine wpAny_While (codeAny_whileLoop (fun n s'=>∃ U' H',Inv X pins U' H' s'/\W n U' H') ?_ m0 ⟨U,H,I,w0⟩)
 rintro n s1 ⟨U1,H1,I1,w1⟩
 refine wpAny_passesOwn hp (thn (hc pins s1 U1 H1 _ I1 (turn n U1 H1 w1)) fun b s2 zq=>?_)
 obtain ⟨H2,I2,q2⟩:=zq
 cases b with
 | true=>
   obtain ⟨N,hN,q2⟩:=q2
   rw [if_pos rfl]
   refine wpAny_passesOwn hp (thn (hb pins s2 U1 H2 _ I2 q2) fun f s3 q3=>?_)
   cases f with
   | next=>
     obtain ⟨U3,H3,I3,n3⟩:=q3
     obtain ⟨m',hm,w3⟩:=hN U3 H3 n3
     exact ⟨m',hm,U3,H3,I3,w3⟩
   | cont=>
     obtain ⟨U3,H3,I3,n3⟩:=q3
     obtain ⟨m',hm,w3⟩:=hN U3 H3 n3
     exact ⟨m',hm,U3,H3,I3,w3⟩
   | brk=>exact q3
   | ret v=>exact q3
 | false=>
   rw [if_neg Bool.false_ne_true]
   exact wpAny_execs_nil ⟨U1,H2,I2,q2⟩
end
structure It where
 go:Nat->Hp->Prop
 yld:Nat->Hp->V->Hp->Prop
 stop:Nat->Hp->Prop
noncomputable def FpOk (X:Cx) (pins:List (Addr×Obj)) (H:Hp) (b:Addr):Prop:=
 H b=none/\b≠X.env.locals/\b∉X.fs/\(b∈X.ex\/X.s₀.heap.get? b=none)/\(∀ x c,X.env.cells.lookup x=some c->c≠b)/\∀ p∈X.pn++pins,p.1≠b
theorem Inv.fpOk (I:Inv X pins U H s) (hb:s.heap.objs.size<=b) (hn:H' b=none):FpOk X pins H' b:=by
 refine ⟨hn,ne_of_gt (lt_of_lt_of_le I.lt hb),I.nofs hb,.inr (Heap.get?_none_of_le (le_trans I.sz hb)),fun x c e z=>?_,fun p hp z=>?_⟩
 ·obtain ⟨v,q⟩:=I.cell x c e
  exact absurd (lt_of_lt_of_le q.lt (by rw [z]; exact hb)) (lt_irrefl _)
 ·exact absurd (lt_of_lt_of_le (qe (I.pin p hp).1) (by rw [z]; exact hb)) (lt_irrefl _)
structure Turn (P:Program) (w:World) (K:W.Frag) (tg:Expr) (J:It) (fp:List Addr) (it:Addr) (tn:Nat->Heap->Prop):Prop where
 mem:it∈fp
 obj:∀ i h,tn i h->∀ b∈fp,∃ o,h.get? b=some o/\∀ v,o.data≠.cell v
 keep:∀ i h h',tn i h->(∀ b∈fp,∀ o,h.get? b=some o->h'.get? b=some o)->tn i h'
 item:∀ (X:Cx),X.prog=P->X.w=w->X.K=K->X.calm=true->∀ (i:Nat) (pins:List (Addr×Obj)) (s:Shared) (U:St) (H:Hp) (E:Value->Shared->Prop),Inv X pins U H s->(∀ b∈fp,FpOk X pins H b)->tn i s.heap->J.go i H->
  wpAny (model P w) X.A (pyNext (.ref it)) (fun r s1=>∃ u,r=some u/\
   wpAny (model P w) X.A (letOwnedTupleGo tg (.ref it) u) (fun _ s2=>∃ x H',Inv X pins U H' s2/\RelV x u/\J.yld i H x H'/\tn (i + 1) s2.heap/\∀ b∈fp,H' b=none) E s1) E s
 done:∀ (X:Cx),X.prog=P->X.w=w->X.K=K->X.calm=true->∀ (i:Nat) (pins:List (Addr×Obj)) (s:Shared) (U:St) (H:Hp) (E:Value->Shared->Prop),Inv X pins U H s->(∀ b∈fp,FpOk X pins H b)->tn i s.heap->J.stop i H->
  wpAny (model P w) X.A (pyNext (.ref it)) (fun r s1=>r=none/\Inv X pins U H s1) E s
 self:∀ (A:Around) (i:Nat) (s:Shared) (Q:Value->Shared->Prop) (E:Value->Shared->Prop),tn i s.heap->Q (.ref it) s->wpAny (model P w) A (pyIter (.ref it)) Q E s
abbrev TI:=St->Hp->(It->Hp->Prop)->Prop
noncomputable def PIE (X:Cx) (pins:List (Addr×Obj)) (U:St) (tg:Expr) (R:It->Hp->Prop) (itv:Value) (s2:Shared):Prop:=
 ∃ (it:Addr) (fp:List Addr) (tn:Nat->Heap->Prop) (J:It) (H':Hp),itv=.ref it/\Inv X pins U H' s2/\Turn X.prog X.w X.K tg J fp it tn/\tn 0 s2.heap/\(∀ b∈fp,FpOk X pins H' b)/\R J H'
noncomputable def PI (X:Cx) (tg iter:Expr) (wi:TI):Prop:=
 ∀ (pins:List (Addr×Obj)) (s:Shared) (U:St) (H:Hp) (R:It->Hp->Prop),Inv X pins U H s->wi U H R->
   wpAny (model X.prog X.w) X.A (eval iter X.env) (fun v s1=>wpAny (model X.prog X.w) X.A (pyIter v) (PIE X pins U tg R) X.xe s1) X.xe s
theorem zjh (ho:s.heap.get? it=some o) (hc:o.cls=.type n) (hd:o.data=.fields vs)
  (hn:["enumerate","zip","dict_itemiterator","dict_reverseitemiterator","odict_iterator","itertools.zip_longest","itertools.pairwise"].contains n=false) (hQ:Q () s):wpAny M A (letOwnedTupleGo tg (.ref it) u) Q E s:=by
 unfold letOwnedTupleGo
 cases tg <;> first
  | exact qb hQ
  | (cases u <;> first
    | exact qb hQ
    | (refine qa (wpAny_load ho ?_)
       rw [hc,hd]
       show wpAny M A (if (["enumerate","zip","dict_itemiterator","dict_reverseitemiterator","odict_iterator","itertools.zip_longest","itertools.pairwise"].contains n && vs[0]? == some (rawInt _))=true then _ else _) Q E s
       rw [if_neg (by intro h; rw [hn,Bool.false_and] at h; cases h)]
       exact qb hQ))
noncomputable def Itl (K:W.Frag) (a:Addr):It:=
 ⟨fun i H=>∃ xs x,SqL K H a xs/\xs[i]?=some x,fun i H x H'=>H'=H/\∀ xs,SqL K H a xs->xs[i]?=some x,fun i H=>∃ xs,SqL K H a xs/\xs.length<=i⟩
noncomputable def Itt (K:W.Frag) (a:Addr):It:=
 ⟨fun i H=>∃ xs x,SqT K H a xs/\xs[i]?=some x,fun i H x H'=>H'=H/\∀ xs,SqT K H a xs->xs[i]?=some x,fun i H=>∃ xs,SqT K H a xs/\xs.length<=i⟩
noncomputable def Itr (lo:Int) (n:Nat):It:=⟨fun i _=>i < n,fun i H x H'=>H'=H/\x=.int (lo + i),fun i _=>n<=i⟩
theorem zg1 {P:Program} {w:World} {K:W.Frag} {tg:Expr} (a it:Addr):Turn P w K tg (Itl K a) [it] it (fun i h=>h.IsListIter it a i) where
 mem:=by simp
 obj:=fun i h st b hb=>by
  have e:b=it:=by simpa using hb
  subst e
  obtain ⟨o,e,c,d⟩:=st
  exact ⟨o,e,fun v z=>by rw [d] at z; cases z⟩
 keep:=fun i h h' st k=>st.at fun o e=>k it (by simp) o e
 item:=by
  intro X hP hw hK hc i pins s U H E I hf st hg
  subst hP hw hK
  obtain ⟨xs,x,hq,hx⟩:=hg
  obtain ⟨its,rv,p,hz⟩:=I.list hq
  obtain ⟨u,hu,ru⟩:=rv.get hx
  obtain ⟨f0,f1,f2,f3,f4,f5⟩:=hf it (by simp)
  refine wpAny_pyNext_list_item st p.isList (x:=u) (by simpa using hu) fun h' st' sb=>?_
  have I1:Inv X pins U H { s with heap:=h' }:=I.turned (t':=s.toks) (fun b o hb e=>(sb.2 b hb).trans e) f0 f1 f3 f4 f5
  obtain ⟨o,e,c,d⟩:=id st'
  exact ⟨u,rfl,zjh (s:={ s with heap:=h' }) e c d (by decide) ⟨x,H,I1,ru,⟨rfl,fun ys hy=>by rw [I.list_inj hy hq]; exact hx⟩,st',fun b hb=>(hf b hb).1⟩⟩
 done:=by
  intro X hP hw hK hc i pins s U H E I hf st hg
  subst hP hw hK
  obtain ⟨xs,hq,hx⟩:=hg
  obtain ⟨its,rv,p,hz⟩:=I.list hq
  obtain ⟨f0,f1,f2,f3,f4,f5⟩:=hf it (by simp)
  have hl:=rv.length
  exact wpAny_pyNext_list_end (I.ok.hd hc) st p.isList (by simp; lia) fun h' eb=>⟨rfl,I.turned (t':=s.toks) (fun b o hb e=>eb b o hb e) f0 f1 f3 f4 f5⟩
 self:=fun _ _ _ _ _ st h=>wpAny_pyIter_listiter st h
theorem zgq {P:Program} {w:World} {K:W.Frag} {tg:Expr} (a it:Addr):Turn P w K tg (Itt K a) [it] it (fun i h=>h.IsTupleIter it a i) where
 mem:=by simp
 obj:=fun i h st b hb=>by
  have e:b=it:=by simpa using hb
  subst e
  obtain ⟨o,e,c,d⟩:=st
  exact ⟨o,e,fun v z=>by rw [d] at z; cases z⟩
 keep:=fun i h h' st k=>st.at fun o e=>k it (by simp) o e
 item:=by
  intro X hP hw hK hc i pins s U H E I hf st hg
  subst hP hw hK
  obtain ⟨xs,x,hq,hx⟩:=hg
  obtain ⟨its,rv,p,hz⟩:=I.tuple hq
  obtain ⟨u,hu,ru⟩:=rv.get hx
  obtain ⟨f0,f1,f2,f3,f4,f5⟩:=hf it (by simp)
  refine wpAny_pyNext_tuple_item st (show s.heap.IsTuple a its.toArray from p) (x:=u) (by simpa using hu) fun h' st' sb=>?_
  have I1:Inv X pins U H { s with heap:=h' }:=I.turned (t':=s.toks) (fun b o hb e=>(sb.2 b hb).trans e) f0 f1 f3 f4 f5
  obtain ⟨o,e,c,d⟩:=id st'
  exact ⟨u,rfl,zjh (s:={ s with heap:=h' }) e c d (by decide) ⟨x,H,I1,ru,⟨rfl,fun ys hy=>by rw [I.tuple_inj hy hq]; exact hx⟩,st',fun b hb=>(hf b hb).1⟩⟩
 done:=by
  intro X hP hw hK hc i pins s U H E I hf st hg
  subst hP hw hK
  obtain ⟨xs,hq,hx⟩:=hg
  obtain ⟨its,rv,p,hz⟩:=I.tuple hq
  obtain ⟨f0,f1,f2,f3,f4,f5⟩:=hf it (by simp)
  have hl:=rv.length
  exact wpAny_pyNext_tuple_end (I.ok.hd hc) st (show s.heap.IsTuple a its.toArray from p) (by simp; lia) fun h' eb=>⟨rfl,I.turned (t':=s.toks) (fun b o hb e=>eb b o hb e) f0 f1 f3 f4 f5⟩
 self:=fun _ _ _ _ _ st h=>wpAny_pyIter_tupleiter st h
theorem zgs {P:Program} {w:World} {K:W.Frag} {tg:Expr} (it:Addr) (lo:Int) (n:Nat):Turn P w K tg (Itr lo n) [it] it (fun i h=>IsRangeIter h it (lo + (i:Nat) * 1) ((n:Int) - (i:Nat)) 1) where
 mem:=by simp
 obj:=fun i h st b hb=>by
  have e:b=it:=by simpa using hb
  subst e
  exact ⟨_,st,fun v z=>by
   have z':Data.fields _=Data.cell v:=z
   cases z'⟩
 keep:=fun i h h' st k=>k it (by simp) _ st
 item:=by
  intro X hP hw hK hc i pins s U H E I hf st hg
  subst hP hw hK
  obtain ⟨f0,f1,f2,f3,f4,f5⟩:=hf it (by simp)
  have W:=Walks.range (prog:=X.prog) (w:=X.w) (I.ok.hd hc) it lo 1 n
  refine W.item i s _ _ hg st fun v h' tk hv st' kk=>?_
  obtain ⟨t,rfl⟩:=hv
  have I1:Inv X pins U H { s with heap:=h',toks:=tk }:=I.turned (fun b o hb e=>kk b o (by simpa using hb) e) f0 f1 f3 f4 f5
  refine ⟨_,rfl,zjh (s:={ s with heap:=h',toks:=tk }) (n:="range_iterator") st' rfl rfl (by decide) ⟨.int (lo + i),H,I1,⟨t,?_⟩,⟨rfl,rfl⟩,st',fun b hb=>(hf b hb).1⟩⟩
  rw [mul_one]
 done:=by
  intro X hP hw hK hc i pins s U H E I hf st hg
  subst hP hw hK
  obtain ⟨f0,f1,f2,f3,f4,f5⟩:=hf it (by simp)
  exact wpAny_pyNext_range_end (I.ok.hd hc) st (by have:n<=i:=hg; lia) fun h' eb=>⟨rfl,I.turned (t':=s.toks) (fun b o hb e=>eb b o hb e) f0 f1 f3 f4 f5⟩
 self:=fun _ _ _ _ _ st h=>wpAny_pyIter_rangeiter st h
end L2
namespace L2
open PySem PySem.Spec PyProof.Rows
section
variable {X:Cx} {tg:Expr}
theorem zf2 {lo hi:Int} (I:Inv X pins U H s) (h1:-(2 ^ 62)<=lo) (h2:lo < 2 ^ 62) (h3:-(2 ^ 62)<=hi) (h4:hi < 2 ^ 62)
  (q:R (Itr lo (hi - lo).toNat) H):wpAny (model X.prog X.w) X.A (pyIter (.ref s.heap.objs.size)) (PIE X pins U tg R) E { s with heap:=s.heap.push { cls:=.type "range",data:=.fields #[.int lo t,.int hi u,.int 1 v] },toks:=tk }:=by
 refine wpAny_pyIter_range (IsRange.new ..) (small_one h1 h2 h3 h4) ?_
 have I1:Inv X pins U H { s with heap:=s.heap.push { cls:=.type "range",data:=.fields #[.int lo t,.int hi u,.int 1 v] },toks:=tk }:=I.kept fun b o e=>qc _ e
 refine ⟨(s.heap.push { cls:=.type "range",data:=.fields #[.int lo t,.int hi u,.int 1 v] }).objs.size,[(s.heap.push { cls:=.type "range",data:=.fields #[.int lo t,.int hi u,.int 1 v] }).objs.size],_,_,H,rfl,
  I1.kept (t':=tk) fun b o e=>qc _ e,zgs _ lo (hi - lo).toNat,?_,fun b hb=>?_,q⟩
 ·have e1:lo + ((0:Nat):Int) * 1=lo:=by simp
  have e2:(((hi - lo).toNat:Nat):Int) - ((0:Nat):Int)=Builtin.Range.rangeSize lo hi 1:=by rw [rangeSize_one]; split <;> lia
  show IsRangeIter _ _ (lo + ((0:Nat):Int) * 1) ((((hi - lo).toNat:Nat):Int) - ((0:Nat):Int)) 1
  rw [e1,e2]
  exact qd _ rfl
 ·have e:b=(s.heap.push { cls:=.type "range",data:=.fields #[.int lo t,.int hi u,.int 1 v] }).objs.size:=by simpa using hb
  subst e
  exact I1.fpOk (le_refl _) (I1.hok.fresh (le_refl _))
noncomputable def iRng1 (ta:TA):TI:=fun U H R=>ta U H fun vs H1=>∃ j:Int,vs=[.int j]/\-(2 ^ 62)<=j/\j < 2 ^ 62/\R (Itr 0 j.toNat) H1
noncomputable def iRng2 (ta:TA):TI:=fun U H R=>ta U H fun vs H1=>∃ i j:Int,vs=[.int i,.int j]/\(-(2 ^ 62)<=i/\i < 2 ^ 62/\-(2 ^ 62)<=j/\j < 2 ^ 62)/\R (Itr i (j - i).toNat) H1
theorem zhM (hg:Gl X "range") (hm:X.mg "range"=none) (ha:PA X [a] ta) (hs:starEach [a] X.env=[(false,eval a X.env)]:=by rfl):PI X tg (.Call (.Name "range" p) [a] [] pos) (iRng1 ta):=by
 intro pins s U H R I h
 refine Call_ (zcy I hg hm boot_range (PyProof.Rows.callWith_type1 (thn (ha pos pins s U H _ I h) fun us s1 zq=>?_) hs rfl))
 obtain ⟨vs,H1,I1,r1,q1⟩:=zq
 obtain ⟨j,e,q1,q2,q⟩:=q1
 subst e
 cases r1 with
 | cons r rr=>
   cases rr
   obtain ⟨t,rfl⟩:=r
   exact call_range_1 (zf2 I1 (by lia) (by lia) q1 q2 (by simpa using q))
theorem zib (hg:Gl X "range") (hm:X.mg "range"=none) (ha:PA X [a,b] ta) (hs:starEach [a,b] X.env=[(false,eval a X.env),(false,eval b X.env)]:=by rfl) (hs2:starEach [b] X.env=[(false,eval b X.env)]:=by rfl):
  PI X tg (.Call (.Name "range" p) [a,b] [] pos) (iRng2 ta):=by
 intro pins s U H R I h
 refine Call_ (zcy I hg hm boot_range (PyProof.Rows.callWith_type1 (thn (ha pos pins s U H _ I h) fun us s1 zq=>?_) (by rw [hs,hs2]) (by rw [hs2]; rfl)))
 obtain ⟨vs,H1,I1,r1,q1⟩:=zq
 obtain ⟨i,j,e,⟨q1,q2,q3,q4⟩,q⟩:=q1
 subst e
 cases r1 with
 | cons r rr=>
   cases rr with
   | cons r' rr=>
     cases rr
     obtain ⟨t,rfl⟩:=r
     obtain ⟨t',rfl⟩:=r'
     exact call_range_2 (zf2 I1 q1 q2 q3 q4 q)
noncomputable def tFor (wi:TI) (g:TG) (tb:TS):TS:=fun D U H=>wi U H fun J H1=>∃ W:Nat->Nat->St->Hp->Prop,(∃ m,W 0 m U H1)/\∀ i m U H,W i m U H->
 (J.stop i H/\D.nx U H)\/(J.go i H/\∃ N:St->Hp->Prop,(∀ U' H',N U' H'->∃ m',m' < m/\W (i + 1) m' U' H')/\∀ x H',J.yld i H x H'->g x U H' fun U2 H2=>tb { D with nx:=N,ct:=N,bk:=D.nx } U2 H2)
noncomputable def pinsAt (fp:List Addr) (h:Heap):List (Addr×Obj):=fp.filterMap fun b=>(h.get? b).map fun o=>(b,o)
theorem zbr (hb:b∈fp) (e:h.get? b=some o):(b,o)∈pinsAt fp h:=mem_filterMap.mpr ⟨b,hb,by rw [e]; rfl⟩
theorem zij (hp:p∈pinsAt fp h):p.1∈fp/\h.get? p.1=some p.2:=by
 obtain ⟨b,hb,e⟩:=mem_filterMap.mp hp
 cases q:h.get? b with
 | none=>rw [q] at e; cases e
 | some o=>
   grind
theorem Inv.pinned (I:Inv X pins U H s) (hf:∀ b∈fp,FpOk X pins H b) (ho:∀ b∈fp,∃ o,s.heap.get? b=some o/\∀ v,o.data≠.cell v):Inv X (pins++pinsAt fp s.heap) U H s:=
 I.pins_of fun p hp=>(mem_append.mp hp).elim (fun z=>I.pin p (qj _ z)) fun z=>by
  obtain ⟨hb,e⟩:=zij z
  obtain ⟨f0,f1,f2,_⟩:=hf p.1 hb
  obtain ⟨o,e',d⟩:=ho p.1 hb
  rw [e] at e'; cases e'
  exact ⟨e,f0,f1,f2,d⟩
theorem Inv.unpinned (I:Inv X (pins++pl) U H s):Inv X pins U H s:=I.pins_of fun p hp=>I.pin p (qj _ (qk _ hp))
theorem zmn (hp:PassesOwn (model X.prog X.w) X.A X.env X.xe) (hc:X.calm=true) (hi:PI X tg iter wi) (hg:PG X tg g) (hb:PSs X body tb)
  (hs:∀ x,foldedSetIterable iter X.env x=pure x:=by intro _; rfl):PS X (.For tg iter body [] pos) (tFor wi g tb):=by
 intro pins s U H D I h
 refine wpAny_For (thn (hi pins s U H _ I h) fun v s1 h1=>thn h1 fun itv s2 h2=>?_) hs
 obtain ⟨it,fp,tn,J,H2,e,I2,T,st2,f2,W,⟨m0,w0⟩,turn⟩:=h2
 subst e
 -- what stays true of the iterator's objects through the loop
 have stat:∀ {H':Hp},(∀ b∈fp,H' b=none)->∀ b∈fp,FpOk X pins H' b:=fun hn b hb=>⟨hn b hb,(f2 b hb).2⟩
 refine codeAny_forLoop_any (fun n s'=>∃ i U' H',Inv X pins U' H' s'/\tn i s'.heap/\(∀ b∈fp,H' b=none)/\W i n U' H') ?_ m0 ⟨0,U,H2,I2,st2,fun b hb=>(f2 b hb).1,w0⟩
 rintro n s3 ⟨i,U3,H3,I3,st3,fr3,w3⟩
 rcases turn i n U3 H3 w3 with ⟨stop,qn⟩ | ⟨go,N,hN,step⟩
 ·refine wpAny_passesOwn hp (thn (T.done X rfl rfl rfl hc i pins s3 U3 H3 X.xe I3 (stat fr3) st3 stop) fun r s4 ⟨hr,I4⟩=>?_)
  subst hr
  exact wpAny_execs_nil ⟨U3,H3,I4,qn⟩
 ·refine wpAny_passesOwn hp (thn (T.item X rfl rfl rfl hc i pins s3 U3 H3 X.xe I3 (stat fr3) st3 go) fun r s4 zq=>?_)
  obtain ⟨u,hr,h4⟩:=zq
  subst hr
  refine wpAny_passesOwn hp (thn h4 fun _ s5 zq=>?_)
  obtain ⟨x,H5,I5,r5,y5,st5,fr5⟩:=zq
  have I5':=I5.pinned (stat fr5) (T.obj _ _ st5)
  refine wpAny_passesOwn hp (thn (hg _ s5 U3 H5 x u _ I5' r5 (step x H5 y5)) fun _ s6 zq=>?_)
  obtain ⟨U6,H6,I6,q6⟩:=zq
  refine wpAny_passesOwn hp (thn (hb _ s6 U6 H6 _ I6 q6) fun f s7 q7=>?_)
  have again:∀ {U7:St} {H7:Hp},Inv X (pins++pinsAt fp s5.heap) U7 H7 s7->N U7 H7->∃ m,m < n/\∃ i U' H',Inv X pins U' H' s7/\tn i s7.heap/\(∀ b∈fp,H' b=none)/\W i m U' H':=fun {U7 H7} I7 n7=>by
   obtain ⟨m',hm,w7⟩:=hN U7 H7 n7
   refine ⟨m',hm,i + 1,U7,H7,I7.unpinned,T.keep _ _ _ st5 fun b hb o e=>(I7.pin (b,o) (qj _ (qj _ (zbr hb e)))).1,fun b hb=>?_,w7⟩
   obtain ⟨o,e,d⟩:=T.obj _ _ st5 b hb
   exact (I7.pin (b,o) (qj _ (qj _ (zbr hb e)))).2.1
  cases f with
  | next=>obtain ⟨U7,H7,I7,n7⟩:=q7; exact again I7 n7
  | cont=>obtain ⟨U7,H7,I7,n7⟩:=q7; exact again I7 n7
  | brk=>obtain ⟨U7,H7,I7,q7⟩:=q7; exact ⟨U7,H7,I7.unpinned,q7⟩
  | ret v=>obtain ⟨x7,U7,H7,I7,r7,q7⟩:=q7; exact ⟨x7,U7,H7,I7.unpinned,r7,q7⟩
end
end L2
namespace L2
open PySem PySem.Spec PyProof.Rows
abbrev R2:=V->V->Hp->VK->Prop
noncomputable def OpR (X:Cx) (f:Value->Value->Sem Value) (r:R2):Prop:=
 ∀ (pins:List (Addr×Obj)) (s:Shared) (U:St) (H:Hp) (x y:V) (v u:Value) (Q:VK),Inv X pins U H s->RelV x v->RelV y u->r x y H Q->
   wpAny (model X.prog X.w) X.A (f v u) (EP X pins U Q) X.xe s
noncomputable def UnR (X:Cx) (f:Value->Sem Value) (r:V->Hp->VK->Prop):Prop:=
 ∀ (pins:List (Addr×Obj)) (s:Shared) (U:St) (H:Hp) (x:V) (v:Value) (Q:VK),Inv X pins U H s->RelV x v->r x H Q->
   wpAny (model X.prog X.w) X.A (f v) (EP X pins U Q) X.xe s
noncomputable def CallR (X:Cx) (f:Value) (r:List V->Hp->VK->Prop):Prop:=
 ∀ (pins:List (Addr×Obj)) (s:Shared) (U:St) (H:Hp) (xs:List V) (us:List Value) (Q:VK),Inv X pins U H s->Vals xs us->r xs H Q->
   wpAny (model X.prog X.w) X.A (call f us) (EP X pins U Q) X.xe s
noncomputable def tOp (r:R2) (ta tb:TE):TE:=fun U H Q=>ta U H fun x H1=>tb U H1 fun y H2=>r x y H2 Q
noncomputable def tUn (r:V->Hp->VK->Prop) (ta:TE):TE:=fun U H Q=>ta U H fun x H1=>r x H1 Q
noncomputable def rI (C:Int->Int->Prop) (g:Int->Int->V):R2:=fun x y H Q=>∃ i j,x=.int i/\y=.int j/\C i j/\Q (g i j) H
noncomputable def rI0 (g:Int->Int->V):R2:=fun x y H Q=>∃ i j,x=.int i/\y=.int j/\Q (g i j) H
noncomputable def rU (g:Int->V):V->Hp->VK->Prop:=fun x H Q=>∃ i,x=.int i/\Q (g i) H
section
variable {X:Cx} {a b c:Expr} {ta tb tc:TE} {pos:Pos}
theorem binT (ha:PE X a ta) (hb:PE X b tb) {R:V->V->Hp->Prop} (I:Inv X pins U H s)
  (h:ta U H fun x H1=>tb U H1 fun y H2=>R x y H2) {f:Value->Value->Sem Value}
  (hf:∀ v u s2 x y H2,Inv X pins U H2 s2->RelV x v->RelV y u->R x y H2->wpAny (model X.prog X.w) X.A (f v u) Q X.xe s2):
  wpAny (model X.prog X.w) X.A (eval a X.env) (fun v s₁=>wpAny (model X.prog X.w) X.A (eval b X.env) (fun u s₂=>wpAny (model X.prog X.w) X.A (f v u) Q X.xe s₂) X.xe s₁) X.xe s:=by
 refine thn (ha pins s U H _ I h) fun v s1 zq=>?_
 obtain ⟨x,H1,I1,r1,q1⟩:=zq
 refine thn (hb pins s1 U H1 _ I1 q1) fun u s2 zq=>?_
 obtain ⟨y,H2,I2,r2,q2⟩:=zq
 exact hf v u s2 x y H2 I2 r1 r2 q2
theorem zoU (ho:OpR X (binaryOp op) r) (ha:PE X a ta) (hb:PE X b tb):PE X (.BinOp a op b pos) (tOp r ta tb):=by
 intro pins s U H Q I h
 exact wpAny_BinOp (binT ha hb I h fun v u s2 x y H2 I2 rx ry q=>ho pins s2 U H2 x y v u Q I2 rx ry q)
theorem zpc (ho:UnR X (unaryOp op) r) (ha:PE X a ta):PE X (.UnaryOp op a pos) (tUn r ta):=by
 intro pins s U H Q I h
 exact UnaryOp_ (thn (ha pins s U H _ I h) fun v s1 ⟨x,H1,I1,r1,q1⟩=>ho pins s1 U H1 x v Q I1 r1 q1)
theorem opI {g:Int->Int->Int}
  (rule:∀ (i j:Int) (t u:Tok) (s:Shared) (Q:Value->Shared->Prop) (E:Value->Shared->Prop),C i j->Q (.int (g i j) s.toks) { s with toks:=s.toks + 1 }->wpAny (model X.prog X.w) X.A (f (.int i t) (.int j u)) Q E s):
  OpR X f (rI C fun i j=>.int (g i j)):=by
 intro pins s U H x y v u Q I rx ry h
 obtain ⟨i,j,rfl,rfl,hc,q⟩:=h
 obtain ⟨t,rfl⟩:=rx
 obtain ⟨t',rfl⟩:=ry
 exact rule i j t t' s _ _ hc ⟨.int (g i j),H,I.tok _,⟨_,rfl⟩,q⟩
theorem opI0 {g:Int->Int->Int}
  (rule:∀ (i j:Int) (t u:Tok) (s:Shared) (Q:Value->Shared->Prop) (E:Value->Shared->Prop),Q (.int (g i j) s.toks) { s with toks:=s.toks + 1 }->wpAny (model X.prog X.w) X.A (f (.int i t) (.int j u)) Q E s):
  OpR X f (rI0 fun i j=>.int (g i j)):=by
 intro pins s U H x y v u Q I rx ry h
 obtain ⟨i,j,rfl,rfl,q⟩:=h
 obtain ⟨t,rfl⟩:=rx
 obtain ⟨t',rfl⟩:=ry
 exact rule i j t t' s _ _ ⟨.int (g i j),H,I.tok _,⟨_,rfl⟩,q⟩
theorem opB0 {g:Int->Int->Bool}
  (rule:∀ (i j:Int) (t u:Tok) (s:Shared) (Q:Value->Shared->Prop) (E:Value->Shared->Prop),Q (.bool (g i j)) s->wpAny (model X.prog X.w) X.A (f (.int i t) (.int j u)) Q E s):
  OpR X f (rI0 fun i j=>.bl (g i j)):=by
 intro pins s U H x y v u Q I rx ry h
 obtain ⟨i,j,rfl,rfl,q⟩:=h
 obtain ⟨t,rfl⟩:=rx
 obtain ⟨t',rfl⟩:=ry
 exact rule i j t t' s _ _ ⟨.bl (g i j),H,I,rfl,q⟩
noncomputable def CPow (i j:Int):Prop:=0<=j/\j<=1000000/\i.natAbs < 2 ^ 64
noncomputable def CMul (i j:Int):Prop:=(-(2 ^ 64) < i/\i < 2 ^ 64)\/(-(2 ^ 64) < j/\j < 2 ^ 64)
theorem CMul.ok (h:CMul i j):IntMulOk i j:=by
 rcases h with ⟨h1,h2⟩ | ⟨h1,h2⟩
 ·exact .of_left (intBits_le_64 h1 h2)
 ·exact .of_right (intBits_le_64 h1 h2)
theorem zgx (k:Nat):(0:Int)<=2 ^ k:=by
 rw [two_pow_cast]
 exact Int.natCast_nonneg _
theorem znT:OpR X (binaryOp .Add) (rI0 fun i j=>.int (i + j)):=opI0 fun _ _ _ _ _ _ _ q=>add_int q
theorem zot:OpR X (binaryOp .Mult) (rI CMul fun i j=>.int (i * j)):=opI fun _ _ _ _ _ _ _ hc q=>mul_int q hc.ok
theorem zn5:OpR X (binaryOp .Mod) (rI (fun _ j=>0 < j) fun i j=>.int (i % j)):=opI fun i j _ _ _ _ _ hc q=>by
 have h1:(0:Int) < j:=hc
 exact mod_int' (by lia) (by rw [Int.fmod_eq_emod_of_nonneg i (by lia)]; exact q)
theorem zmR:OpR X (binaryOp .Pow) (rI CPow fun i j=>.int (i ^ j.toNat)):=opI fun _ _ _ _ _ _ _ hc q=>pow_int_small hc.1 hc.2.1 hc.2.2 q
theorem zl4:OpR X (binaryOp .LShift) (rI CPow fun i j=>.int (i * 2 ^ j.toNat)):=opI fun _ _ _ _ _ _ _ hc q=>lshift_int_small hc.1 hc.2.1 hc.2.2 q
theorem zmF:OpR X (binaryOp .RShift) (rI (fun _ j=>0<=j) fun i j=>.int (i / 2 ^ j.toNat)):=opI fun i j _ _ _ _ _ hc q=>
 rshift_int hc (by rw [Int.fdiv_eq_ediv_of_nonneg i (zgx _)]; exact q)
theorem zl5:OpR X (binaryOp .BitAnd) (rI0 fun i j=>.int (Builtin.bitAnd i j)):=opI0 fun _ _ _ _ _ _ _ q=>and_int q
theorem unI {g:Int->Int}
  (rule:∀ (i:Int) (t:Tok) (s:Shared) (Q:Value->Shared->Prop) (E:Value->Shared->Prop),Q (.int (g i) s.toks) { s with toks:=s.toks + 1 }->wpAny (model X.prog X.w) X.A (f (.int i t)) Q E s):
  UnR X f (rU fun i=>.int (g i)):=by
 intro pins s U H x v Q I rx h
 obtain ⟨i,rfl,q⟩:=h
 obtain ⟨t,rfl⟩:=rx
 exact rule i t s _ _ ⟨.int (g i),H,I.tok _,⟨_,rfl⟩,q⟩
theorem zow:UnR X (unaryOp .USub) (rU fun i=>.int (-i)):=unI fun _ _ _ _ _ q=>neg_int q
end
noncomputable def scal:V->V->Bool
 | .non,.non=>true | .non,.int _=>true | .int _,.non=>true | .non,.bl _=>true | .bl _,.non=>true | .non,.str _=>true | .str _,.non=>true
 | .int _,.int _=>true | .bl _,.bl _=>true | .str _,.str _=>true | .byt _,.byt _=>true
 | .int _,.str _=>true | .str _,.int _=>true | .bl _,.str _=>true | .str _,.bl _=>true
 | _,_=>false
noncomputable def rNe:R2:=fun x y H Q=>scal x y=true/\Q (.bl (!decide (x=y))) H
theorem zlo:decide (V.int i=V.int j)=(i == j):=by
 rw [Bool.eq_iff_iff]
 simp
theorem zm4:decide (V.bl i=V.bl j)=(i == j):=by
 rw [Bool.eq_iff_iff]
 simp
theorem zlj:decide (V.str i=V.str j)=(i == j):=by
 rw [Bool.eq_iff_iff]
 simp
theorem zlK:decide (V.byt i=V.byt j)=(i.toList == j.toList):=by
 rw [Bool.eq_iff_iff]
 cases i
 cases j
 simp
section
variable {X:Cx} {a b c:Expr} {ta tb tc:TE} {pos:Pos}
theorem zaH (I:Inv X pins U H s) (q:Q (.bl k) H) (e:k=k'):EP X pins U Q (.bool k') s:=by
 subst e
 exact ⟨.bl k,H,I,rfl,q⟩
theorem zpG:OpR X (compareOp .NotEq) rNe:=by
 intro pins s U H x y v u Q I rx ry h
 obtain ⟨hs,q⟩:=h
 cases x with
 | non=>
   cases rx
   cases y with
   | non=>cases ry; exact PySem.EqNone.ne_none_none (zaH I q (by simp))
   | bl j=>cases ry; exact PySem.EqNone.ne_none_bool (zaH I q (by simp))
   | int j=>obtain ⟨t',rfl⟩:=ry; exact PySem.EqNone.ne_none_int (zaH I q (by simp))
   | str j=>obtain ⟨t',rfl⟩:=ry; exact PySem.EqNone.ne_none_str (zaH I q (by simp))
   | _=>exact absurd (show false=true from hs) Bool.false_ne_true
 | bl i=>
   cases rx
   cases y with
   | non=>cases ry; exact PySem.EqNone.ne_bool_none (zaH I q (by simp))
   | bl j=>cases ry; exact ne_bool (zaH I q (congrArg not zm4))
   | str j=>obtain ⟨t',rfl⟩:=ry; exact PySem.EqMixed.ne_bool_str (zaH I q (by simp))
   | _=>exact absurd (show false=true from hs) Bool.false_ne_true
 | int i=>
   obtain ⟨t,rfl⟩:=rx
   cases y with
   | non=>cases ry; exact PySem.EqNone.ne_int_none (zaH I q (by simp))
   | int j=>obtain ⟨t',rfl⟩:=ry; exact ne_int (zaH I q (congrArg not zlo))
   | str j=>obtain ⟨t',rfl⟩:=ry; exact PySem.EqMixed.ne_int_str (zaH I q (by simp))
   | _=>exact absurd (show false=true from hs) Bool.false_ne_true
 | str i=>
   obtain ⟨t,rfl⟩:=rx
   cases y with
   | non=>cases ry; exact PySem.EqNone.ne_str_none (zaH I q (by simp))
   | bl j=>cases ry; exact PySem.EqMixed.ne_str_bool (zaH I q (by simp))
   | int j=>obtain ⟨t',rfl⟩:=ry; exact PySem.EqMixed.ne_str_int (zaH I q (by simp))
   | str j=>obtain ⟨t',rfl⟩:=ry; exact ne_str (zaH I q (congrArg not zlj))
   | _=>exact absurd (show false=true from hs) Bool.false_ne_true
 | byt i=>
   obtain ⟨t,rfl⟩:=rx
   cases y with
   | byt j=>obtain ⟨t',rfl⟩:=ry; exact W.ne_bytes (zaH I q (congrArg not zlK))
   | _=>exact absurd (show false=true from hs) Bool.false_ne_true
 | _=>cases y <;> exact absurd (show false=true from hs) Bool.false_ne_true
theorem zo3:OpR X (compareOp .Lt) (rI0 fun i j=>.bl (decide (i < j))):=opB0 fun _ _ _ _ _ _ _ q=>lt_int q
theorem zpw:OpR X (compareOp .LtE) (rI0 fun i j=>.bl (decide (i<=j))):=opB0 fun _ _ _ _ _ _ _ q=>le_int q
theorem zqT:OpR X (compareOp .Gt) (rI0 fun i j=>.bl (decide (j < i))):=opB0 fun _ _ _ _ _ _ _ q=>gt_int q
theorem zqG:OpR X (compareOp .GtE) (rI0 fun i j=>.bl (decide (j<=i))):=opB0 fun _ _ _ _ _ _ _ q=>ge_int q
theorem zna:OpR X (compareOp .Is) (fun x y H Q=>y=.non/\Q (.bl (decide (x=.non))) H):=by
 intro pins s U H x y v u Q I rx ry h
 obtain ⟨rfl,q⟩:=h
 cases ry
 refine is_none_gen (zaH I q ?_)
 cases x <;> first
  | (cases rx; rfl)
  | (obtain ⟨t,rfl⟩:=rx; rfl)
theorem nomark (b:Expr) (h:op≠.In:=by decide) (h2:op≠.NotIn:=by decide):behindInMarks op b=false:=by
 have e1:(op == CmpOp.In)=false:=by cases op <;> first | rfl | exact absurd rfl h
 have e2:(op == CmpOp.NotIn)=false:=by cases op <;> first | rfl | exact absurd rfl h2
 cases b <;> simp [behindInMarks,e1,e2]
theorem ziT (ho:OpR X (compareOp op) r) (ha:PE X a ta) (hb:PE X b tb) (hm:behindInMarks op b=false):PE X (.Compare a [op] [b] pos) (tOp r ta tb):=by
 intro pins s U H Q I h
 exact wpAny_Compare1 (binT ha hb I h fun v u s2 x y H2 I2 rx ry q=>ho pins s2 U H2 x y v u Q I2 rx ry q) hm
noncomputable def tTest (t:TE):TT:=fun U H Q=>t U H fun x H'=>∃ k,x=.bl k/\Q k H'
theorem zkR (ho:OpR X (compareOp op) r) (ha:PE X a ta) (hb:PE X b tb) (hm:behindInMarks op b=false):PT X (.Compare a [op] [b] pos) (tTest (tOp r ta tb)):=by
 intro pins s U H Q I h
 refine wpAny_isTrue_Compare1 (thn (ha pins s U H _ I h) fun v s1 ⟨x,H1,I1,r1,q1⟩=>thn (hb pins s1 U H1 _ I1 q1) fun u s2 ⟨y,H2,I2,r2,q2⟩=>
  thn (ho pins s2 U H2 x y v u _ I2 r1 r2 q2) fun c s3 ⟨z,H3,I3,r3,k,e,q3⟩=>?_) hm
 subst e
 cases r3
 exact wpAny_truthy_bool ⟨H3,I3,q3⟩
theorem line63:(sizeLine:Nat) < 2 ^ 63:=by rw [sizeLine_eq]; decide
theorem zgi:OpR X (binaryOp .Add) (fun x y H Q=>∃ i j,x=.str i/\y=.str j/\i.length + j.length<=sizeLine/\Q (.str (i++j)) H):=by
 intro pins s U H x y v u Q I rx ry h
 obtain ⟨i,j,rfl,rfl,hz,q⟩:=h
 obtain ⟨t,rfl⟩:=rx
 obtain ⟨t',rfl⟩:=ry
 exact add_str (fun t' tk=>⟨.str (i++j),H,I.tok _,⟨_,rfl⟩,q⟩) hz
theorem vals1 (r:Vals [x] us):∃ u,us=[u]/\RelV x u:=by
 cases r with
 | cons r1 r2=>cases r2; exact ⟨_,rfl,r1⟩
theorem vals2 (r:Vals [x,y] us):∃ u w',us=[u,w']/\RelV x u/\RelV y w':=by
 cases r with
 | cons r1 r2=>
   cases r2 with
   | cons r3 r4=>cases r4; exact ⟨_,_,rfl,r1,r3⟩
theorem zh6 (hc:X.calm=true):CallR X (.builtin "max") (fun xs H Q=>∃ i j,xs=[.int i,.int j]/\Q (.int (if j > i then j else i)) H):=by
 intro pins s U H xs us Q I r h
 obtain ⟨i,j,rfl,q⟩:=h
 obtain ⟨u,w',rfl,⟨t,rfl⟩,⟨t',rfl⟩⟩:=vals2 r
 refine max_two_ints (I.ok.hd hc) fun h' tk k=>⟨_,H,I.kept k,?_,q⟩
 by_cases hj:j > i
 ·rw [if_pos hj,if_pos hj]; exact ⟨_,rfl⟩
 ·rw [if_neg hj,if_neg hj]; exact ⟨_,rfl⟩
theorem zis (hc:X.calm=true):CallR X (.builtin "min") (fun xs H Q=>∃ i j,xs=[.int i,.int j]/\Q (.int (if j < i then j else i)) H):=by
 intro pins s U H xs us Q I r h
 obtain ⟨i,j,rfl,q⟩:=h
 obtain ⟨u,w',rfl,⟨t,rfl⟩,⟨t',rfl⟩⟩:=vals2 r
 refine min_two_ints (I.ok.hd hc) fun h' tk k=>⟨_,H,I.kept k,?_,q⟩
 by_cases hj:j < i
 ·rw [if_pos hj,if_pos hj]; exact ⟨_,rfl⟩
 ·rw [if_neg hj,if_neg hj]; exact ⟨_,rfl⟩
theorem zhu:CallR X (.type "int") (fun xs H Q=>(∃ i,xs=[.int i]/\Q (.int i) H)\/∃ k,xs=[.bl k]/\Q (.int (if k then 1 else 0)) H):=by
 intro pins s U H xs us Q I r h
 rcases h with ⟨i,rfl,q⟩ | ⟨k,rfl,q⟩
 ·obtain ⟨u,rfl,t,rfl⟩:=vals1 r
  exact call_int_int ⟨.int i,H,I,⟨_,rfl⟩,q⟩
 ·obtain ⟨u,rfl,r1⟩:=vals1 r
  cases r1
  exact call_int_bool ⟨.int (if k then 1 else 0),H,I.tok _,⟨_,rfl⟩,q⟩
end
end L2
namespace L2
open PySem PySem.Spec PyProof.Rows
theorem RelO.some_of (r:RelO (some v) o):∃ u,o=some u/\RelV v u:=by
 cases o with
 | none=>exact (show False from r).elim
 | some u=>exact ⟨u,rfl,r⟩
end L2
namespace L2
open PySem PySem.Spec PyProof.Rows
structure Room (k:Nat) (A:Around):Prop where
 hd:A.handled=none
 dp:A.depth + 3 * k + 5 < recursionLimit
 un:A.units + 16 * k + 200 < cLine
 gd:A.guards=some []
theorem Room.mono (r:Room k A) (h:j<=k):Room j A:=⟨r.hd,by have:=r.dp; lia,by have:=r.un; lia,r.gd⟩
theorem Room.deeper (r:Room (k + 1) A) (env:Env):Room k (A.deeper env):=
 ⟨r.hd,by have:=r.dp; show A.depth + 1 + 3 * k + 5 < _; lia,by have:=r.un; show A.units + 3 + 16 * k + 200 < _; lia,r.gd⟩
theorem Room.depth (r:Room k A):A.depth < recursionLimit:=by have:=r.dp; lia
theorem Room.units (r:Room k A):A.units + 64 < cLine:=by have:=r.un; lia
noncomputable def tNil:TA:=fun _ H Q=>Q [] H
noncomputable def tCons (ta:TE) (tr:TA):TA:=fun U H Q=>ta U H fun x H1=>tr U H1 fun xs H2=>Q (x::xs) H2
section
variable {X:Cx} {e:Expr} {es:List Expr} {te:TE} {t:TA} {pos:Pos}
theorem zf4:PA X [] tNil:=fun _ _ _ _ H Q I h=>Calls.spliced_nil ⟨[],H,I,.nil,h⟩
theorem zdO (ha:PE X e te) (hr:PA X es t) (hs:starEach (e::es) X.env=(false,eval e X.env)::starEach es X.env:=by rfl):PA X (e::es) (tCons te t):=by
 intro pos pins s U H Q I h
 rw [hs]
 show wpAny _ _ (spliced ((false,eval e X.env)::backTo pos (starEach es X.env))) _ _ s
 refine Calls.spliced_cons (thn (ha pins s U H _ I h) fun u s1 zq=>?_)
 obtain ⟨x,H1,I1,r1,q1⟩:=zq
 exact thn (hr pos pins s1 U H1 _ I1 q1) fun us s2 ⟨xs,H2,I2,r2,q2⟩=>⟨x::xs,H2,I2,.cons r1 r2,q2⟩
noncomputable def tTup (t:TA):TE:=fun U H Q=>t U H fun xs H1=>xs.length<=sizeLine/\∀ p,H1 p=none->Q (.ref p) (upd H1 p (.tup xs))
noncomputable def tLst (t:TA):TE:=fun U H Q=>t U H fun xs H1=>xs.length<=sizeLine/\∀ p,H1 p=none->Q (.ref p) (upd H1 p (.lst xs))
theorem zl7 (h:PA X es t):PE X (.Tuple es x1 pos) (tTup t):=by
 intro pins s U H Q I hq
 refine wpAny_Tuple_spliced (thn (h pos pins s U H _ I hq) fun us s1 ⟨xs,H1,I1,r,z,q⟩=>⟨by rw [<- r.length]; exact z,?_⟩)
 have hf:H1 s1.heap.objs.size=none:=I1.hok.fresh (le_refl _)
 refine ⟨.ref s1.heap.objs.size,upd H1 s1.heap.objs.size (.tup xs),I1.laid (t':=s1.toks) (fun b u e=>qc _ e) (le_refl _) ?_,rfl,q _ hf⟩
 exact ⟨⟨z,NoDc.new rfl (qd _ rfl)⟩,us,r,⟨_,qd _ rfl,rfl,_,rfl⟩⟩
theorem znl (h:PA X es t):PE X (.List es pos) (tLst t):=by
 intro pins s U H Q I hq
 refine wpAny_List_spliced (thn (h pos pins s U H _ I hq) fun us s1 ⟨xs,H1,I1,r,z,q⟩=>⟨by rw [<- r.length]; exact z,?_⟩)
 have hf:H1 s1.heap.objs.size=none:=I1.hok.fresh (le_refl _)
 refine ⟨.ref s1.heap.objs.size,upd H1 s1.heap.objs.size (.lst xs),I1.laid (t':=s1.toks) (fun b u e=>qc _ e) (le_refl _) ?_,rfl,q _ hf⟩
 exact ⟨z,us,0,r,qd _ rfl⟩
end
abbrev Sp:=List V->Hp->VK->XK->Prop
abbrev CXT:=List Env->Hp->Shared->XK->Value->Shared->Prop
structure Env0 (P:Program) (w:World) (K:W.Frag) (mg:Str->Option Value) (base:Heap) (A:Around) (outer:List Env) (s:Shared) (H:Hp):Prop where
 frames:A.frames=some outer
 mod:Mod K mg base
 bs:∀ b o,base.get? b=some o->s.heap.get? b=some o/\H b=none
 bsz:base.objs.size<=s.heap.objs.size
 funs:s.heap.FunFrames base outer
 frf:∀ b∈frs outer,H b=none
 hok:HOk P w H s.heap
 bare:AllBare s.gens
noncomputable def CE (outer:List Env) (P:Program) (w:World) (H:Hp) (s:Shared) (Q:VK) (u:Value) (s':Shared):Prop:=
 ∃ v H',s'.os=s.os/\AllBare s'.gens/\Un (frs outer) [] H H' s.heap s'.heap/\HOk P w H' s'.heap/\RelV v u/\Q v H'
noncomputable def CR (CX:CXT) (outer:List Env) (P:Program) (w:World) (H:Hp) (s:Shared) (Q:VK) (E:XK) (r:Result) (s':Shared):Prop:=
 match r with
 | .ok (.ret u)=>CE outer P w H s Q u s'
 | .ok _=>False
 | .error e=>CX outer H s E e s'
structure FnOk (P:Program) (w:World) (K:W.Frag) (mg:Str->Option Value) (base:Heap) (CX:CXT) (k:Nat) (f:Addr) (fd:FuncData) (ps:List Str) (sp:Sp):Prop where
 len:∀ vs H Q E,sp vs H Q E->vs.length=ps.length
 run:∀ (A:Around) (outer:List Env) (s:Shared) (H:Hp) (args:Args) (us:List Value) (vs:List V) (Q:VK) (E:XK),Room k A->Env0 P w K mg base A outer s H->BindsTo s fd args (ps.zip us)->Vals vs us->sp vs H Q E->
  codeAny (model P w) A (.call (.ref f) args) (CR CX outer P w H s Q E) s
section
variable {X:Cx} {pins:List (Addr×Obj)} {U:St} {H:Hp} {s s':Shared}
theorem Inv.env0 (I:Inv X pins U H s):Env0 X.prog X.w X.K X.mg X.base X.A X.stack s H:=
 ⟨I.ok.frames,I.ok.mod,I.bs,le_trans I.ok.bsz I.sz,I.stack,I.stkFree,I.hok,I.bare⟩
theorem Inv.after (I:Inv X pins U H s) (h:CE X.stack X.prog X.w H s Q u s'):EP X pins U Q u s':=by
 obtain ⟨v,H',os,bare,un,hok,r,q⟩:=h
 obtain ⟨hh,g,d,t,os'⟩:=s'
 obtain rfl:os'=s.os:=os
 exact ⟨v,H',I.call (h':=hh) (g':=g) (d':=d) (t':=t) (ch:=[]) un hok bare (fun b z=>absurd z (by simp)),r,q⟩
end
noncomputable def Binds (K:W.Frag) (fd:FuncData) (ps:List Str) (ds:List Value):Prop:=
 ∀ (s:Shared) (us:List Value),K.In s.heap->(us++ds).length=ps.length->BindsTo s fd ⟨us,[]⟩ (ps.zip (us++ds))
theorem Binds.all {K:W.Frag} (h:∀ us:List Value,us.length=ps.length->bindArgs fd ⟨us,[]⟩=pure (ps.zip us)):Binds K fd ps []:=fun s us _ hl=>by
 rw [append_nil] at hl ⊢
 exact .of_eq (h us hl)
section
variable {X:Cx} {CX:CXT} {k:Nat} {f C:Addr} {fd:FuncData} {ps ks:List Str} {sp:Sp} {E:XK} {x m:Str} {p pos apos kpos:Pos} {e o:Expr} {es:List Expr} {kws:List Keyword} {te ta:TE} {t tk:TA} {nm:Option Str}
variable {g:List Value->List Value->List Value} {gV:List V->List V->List V}
end
structure FnScope (N P:List Str) (sc:Scope):Prop where
 kind:sc.kind=.function
 co:sc.isCoroutine=false
 gen:sc.isGenerator=false
 nd:N.Nodup
 pre:N.take P.length=P
 par:∀ x∈P,sc.names.lookup x=some .local\/sc.names.lookup x=some .cell
 nofree:∀ y∈sc.names,y.2≠.free
theorem zdV {kindOf:Str->Option NameKind}:∀ {binds:List (Str×Value)} {m:Str->Option Value},(∀ v,(x,v)∉binds)->bindL kindOf binds m x=m x
 | [],_,_=>rfl
 | (n,v)::r,m,h=>by
   unfold bindL
   rw [zdV fun w hw=>h w (qm _ hw)]
   split
   ·have:x≠n:=by rintro rfl; exact h v qo
    simp [this]
   ·rfl
theorem zdQ {kindOf:Str->Option NameKind}:∀ {binds:List (Str×Value)} {m:Str->Option Value},(∀ v,(x,v)∉binds)->bindC kindOf binds m x=m x
 | [],_,_=>rfl
 | (n,v)::r,m,h=>by
   unfold bindC
   rw [zdQ fun w hw=>h w (qm _ hw)]
   split
   ·rfl
   ·have:x≠n:=by rintro rfl; exact h v qo
    simp [this]
theorem zdY {kindOf:Str->Option NameKind}:∀ {P:List Str} {vs:List Value} {i:Nat} {m:Str->Option Value},P.Nodup->P[i]?=some x->vs[i]?=some v->kindOf x=some .local->
  bindL kindOf (P.zip vs) m x=some v
 | [],_,_,_,_,h,_,_=>by simp at h
 | _::_,[],_,_,_,_,h,_=>by simp at h
 | p::P,w::vs,0,m,nd,h1,h2,hk=>by
   simp at h1 h2; subst h1; subst h2
   show bindL kindOf ((p,w)::P.zip vs) m p=_
   unfold bindL
   rw [zdV fun v hv=>(nodup_cons.mp nd).1 (of_mem_zip hv).1,if_pos hk]
   simp
 | p::P,w::vs,i + 1,m,nd,h1,h2,hk=>by
   show bindL kindOf ((p,w)::P.zip vs) m x=_
   unfold bindL
   exact zdY (i:=i) (nodup_cons.mp nd).2 (by simpa using h1) (by simpa using h2) hk
theorem zeq {kindOf:Str->Option NameKind}:∀ {P:List Str} {vs:List Value} {i:Nat} {m:Str->Option Value},P.Nodup->P[i]?=some x->vs[i]?=some v->kindOf x≠some .local->
  bindC kindOf (P.zip vs) m x=some v
 | [],_,_,_,_,h,_,_=>by simp at h
 | _::_,[],_,_,_,_,h,_=>by simp at h
 | p::P,w::vs,0,m,nd,h1,h2,hk=>by
   simp at h1 h2; subst h1; subst h2
   show bindC kindOf ((p,w)::P.zip vs) m p=_
   unfold bindC
   rw [zdQ fun v hv=>(nodup_cons.mp nd).1 (of_mem_zip hv).1,if_neg hk]
   simp
 | p::P,w::vs,i + 1,m,nd,h1,h2,hk=>by
   show bindC kindOf ((p,w)::P.zip vs) m x=_
   unfold bindC
   exact zeq (i:=i) (nodup_cons.mp nd).2 (by simpa using h1) (by simpa using h2) hk
noncomputable def start (N:List Str) (vs:List V):St:=vs.map some++List.replicate (N.length - vs.length) none
noncomputable def cxOf (CX:CXT) (P:Program) (w:World) (K:W.Frag) (mg:Str->Option Value) (base:Heap) (N:List Str) (qual:Str) (scope:Scope) (f:Addr) (cd:Value) (A:Around) (outer:List Env) (s:Shared) (H:Hp) (E:XK):Cx where
 prog:=P
 w:=w
 K:=K
 mg:=mg
 base:=base
 A:=A.deeper (envOfC qual scope s.heap.objs.size f cd)
 N:=N
 s₀:=s
 H₀:=H
 env:=envOfC qual scope s.heap.objs.size f cd
 outer:=outer
 stack:=envOfC qual scope s.heap.objs.size f cd::outer
 ex:=[]
 calm:=true
 fn:=fun _=>true
 pn:=[]
 xe:=fun e s'=>wpAny (model P w) (A.deeper (envOfC qual scope s.heap.objs.size f cd)) (leaving (envOfC qual scope s.heap.objs.size f cd) e) (fun _ s''=>CX outer H s E e s'') (fun e' s''=>CX outer H s E e' s'') s'
theorem zfF {sc:Scope} (h:sc.names.lookup x=some .cell):∃ c,(cellsFrom n sc.names []).lookup x=some c:=by
 have q:=W.cellsFrom_some sc.names n [] (.inl h)
 exact Option.isSome_iff_exists.mp q
theorem ziy {K:W.Frag}
  (S:FnScope N ps scope) (hd:A.handled=none) (e0:Env0 P w K mg base A outer s H) (hl:vs.length=ps.length) (r:Vals vs us)
  (x:InCallC s s.heap.objs.size (bindL (envOfC qual scope s.heap.objs.size f cd).kindOf (ps.zip us) fun _=>none) (cellsFrom (s.heap.objs.size + 1) scope.names []) (bindC (envOfC qual scope s.heap.objs.size f cd).kindOf (ps.zip us) fun _=>none) s1):
  Inv (cxOf CX P w K mg base N qual scope f cd A outer s H E) [] (start N vs) H s1:=by
 have hpl:ps.length<=N.length:=by have:=congrArg List.length S.pre; rw [length_take] at this; lia
 obtain ⟨h1,tk,rfl,hk⟩:=x.done
 have noA:∀ b:Addr,b∉(cxOf CX P w K mg base N qual scope f cd A outer s H E).ex:=fun b z=>absurd (show b∈([]:List Addr) from z) (by simp)
 refine ⟨⟨e0.mod,S.kind,rfl,rfl,le_refl _,fun y z c h1 h2=>?_,fun y hy=>?_,fun y c _ h=>?_,fun _=>hd,Around.frames_deeper e0.frames,.inr ⟨rfl,rfl⟩,fun b z=>absurd z (noA b),e0.bs,e0.bsz,fun b _ _=>noA b,fun b z=>absurd z (noA b),e0.funs,e0.frf⟩,
  rfl,e0.bare,Un.kept hk,⟨_,x.toInCall.ns,fun i y v h1 h2 h3=>?_⟩,fun y c h=>⟨_,x.cell y c h⟩,e0.hok.fresh (le_refl _),fun y c h=>?_,fun p hp=>absurd (show p∈([]:List (Addr×Obj)) from hp) (by simp),e0.hok.kept hk,?_⟩
 ·exact name_of_addr x.apart (PySem.mem_of_lookup h1) (PySem.mem_of_lookup h2)
 ·have hy:scope.names.lookup y=some .cell\/scope.names.lookup y=some .free:=hy
  rcases hy with hy | hy
  ·exact zfF hy
  ·exact absurd rfl (S.nofree _ (PySem.mem_of_lookup hy))
 ·exact le_of_lt (x.above y c (PySem.mem_of_lookup h))
 ·have hi:i < vs.length:=by
   unfold start at h2
   by_cases hi:i < vs.length
   ·exact hi
   ·rw [getElem?_append_right (by simpa using hi)] at h2
    rw [List.getElem?_replicate] at h2
    split at h2 <;> cases h2
  have ha:vs[i]?=some v:=by
   unfold start at h2
   rw [getElem?_append_left (by simpa using hi),getElem?_map] at h2
   cases e:vs[i]? with
   | none=>rw [e] at h2; cases h2
   | some a=>rw [e] at h2; cases h2; rfl
  obtain ⟨u,hu,rv⟩:=r.get ha
  have hp:ps[i]?=some y:=by
   rw [<- S.pre,List.getElem?_take_of_lt (by lia)]; exact h1
  have ndP:ps.Nodup:=by rw [<- S.pre]; exact S.nd.sublist (List.take_sublist _ _)
  refine ⟨u,rv,?_⟩
  rcases S.par y (mem_of_getElem? hp) with k | k
  ·exact .inl ⟨k,zdY ndP hp hu k⟩
  ·obtain ⟨c,e⟩:=zfF (n:=s.heap.objs.size + 1) k
   refine .inr ⟨.inl k,c,e,?_⟩
   have q:=x.cell y c e
   rw [zeq ndP hp hu (by show scope.names.lookup y≠_; rw [k]; decide)] at q
   exact q
 ·exact e0.hok.fresh (le_of_lt (x.above y c (PySem.mem_of_lookup h)))
 ·unfold start
  show _=N.length
  rw [length_append,length_map,List.length_replicate]
  lia
theorem zrd {K:W.Frag} {dV kV doc pm cdv ct oc:Value} (lk:K.lookup f=some ⟨oc,od,.func (W.fnOf name qual params body scope dV kV doc pm an cdv ct),osl⟩) (hcd:W.codeIn K cdv qual=true) (S:FnScope N ps scope)
  (len:∀ vs H Q E,sp vs H Q E->vs.length=ps.length)
  (hbody:∀ (A:Around) (outer:List Env) (s:Shared) (H:Hp) (vs:List V) (Q:VK) (E:XK),Room k (A.deeper (envOfC qual scope s.heap.objs.size f cdv))->sp vs H Q E->
   ∃ t,PSs (cxOf CX P w K mg base N qual scope f cdv A outer s H E) body t/\t { nx:=fun _ H'=>Q .non H',rt:=Q } (start N vs) H):
  FnOk P w K mg base CX (k + 1) f (W.fnOf name qual params body scope dV kV doc pm an cdv ct) ps sp:=by
 refine ⟨len,fun A outer s H args us vs Q E hr e0 hb r hsp=>?_⟩
 have hl:=len _ _ _ _ hsp
 have KX:K.In s.heap:=e0.mod.kin.keeps fun b o e=>(e0.bs b o e).1
 have lim:s.heap.NoLimit:=e0.mod.nolimit.keeps fun b o e=>(e0.bs b o e).1
 have hkind:∀ y∈ps.zip us,scope.names.lookup y.1=some .local\/(scope.names.lookup y.1=some .cell/\((cellsFrom (s.heap.objs.size + 1) scope.names []).lookup y.1).isSome=true):=fun ⟨n,v⟩ hy=>by
  rcases S.par n (of_mem_zip hy).1 with q | q
  ·exact .inl q
  ·exact .inr ⟨q,W.cellsFrom_some _ _ _ (.inl q)⟩
 refine codeAny_call_function hr.depth (KX _ _ lk) rfl S.co S.gen rfl (W.codeRec_of KX hcd) (hb _ _ _ _ ?_)
 refine wpAny_newFunctionEnv_cells S.kind hkind fun env he s1 x=>?_
 subst he
 refine ⟨lim.keeps x.toInCall.keep,codeAny_func ?_⟩
 obtain ⟨t,ht,hq⟩:=hbody A outer s H vs Q E (hr.deeper _) hsp
 have I:Inv (cxOf CX P w K mg base N qual scope f cdv A outer s H E) [] (start N vs) H s1:=ziy S hr.hd e0 hl r x
 refine wpAny_mono (ht [] s1 (start N vs) H _ I hq) (fun fl s' hs=>?_) fun e s' hs=>hs
 have fin:∀ {U':St} {H':Hp} {v:V} {u:Value},Inv (cxOf CX P w K mg base N qual scope f cdv A outer s H E) [] U' H' s'->RelV v u->Q v H'->CE outer P w H s Q u s':=
  fun {U' H' v u} J rv q=>⟨v,H',J.os,J.bare,J.base,J.hok,rv,q⟩
 cases fl with
 | ret u=>
   obtain ⟨v,U',H',J,rv,q⟩:=hs
   exact fin J rv q
 | next=>
   obtain ⟨U',H',J,q⟩:=hs
   exact fin (v:=V.non) (u:=Value.none) J rfl q
 | brk=>
   obtain ⟨_,_,_,q⟩:=hs
   exact False.elim q
 | cont=>
   obtain ⟨_,_,_,q⟩:=hs
   exact False.elim q
end L2
namespace L2
open PySem PySem.Spec PyProof.Rows
section
variable {X:Cx} {x:Str} {p pos:Pos} {e:Expr} {es:List Expr} {t:TA} {id T:String} {r:List V->Hp->VK->Prop}
noncomputable def tCB (r:List V->Hp->VK->Prop) (t:TA):TE:=fun U H Q=>t U H fun vs H1=>r vs H1 Q
theorem zdL (hc:CallR X (.builtin id) r) (hg:Gl X x) (hm:X.mg x=none) (hv:bootBuiltins x=some (.builtin id)) (ha:PA X (e::es) t) (hn:x≠"__name__":=by decide) (hdb:(x == ("__debug__":Str))=false:=by decide)
  (he:starEach (e::es) X.env=(false,eval e X.env)::starEach es X.env:=by rfl) (hpl:(backTo pos (starEach es X.env)).any (·.1)=false:=by rfl):PE X (.Call (.Name x p) (e::es) [] pos) (tCB r t):=by
 intro pins s U H Q I h
 refine wpAny_Call_Name_kw (zcy I hg hm hv ?_ hn hdb)
 exact PyProof.Rows.callWith_builtin1 (thn (ha pos pins s U H _ I h) fun us s1 ⟨vs,H1,I1,r1,q1⟩=>hc pins s1 U H1 vs us Q I1 r1 q1) he hpl
theorem zcO (hc:CallR X (.type T) r) (hg:Gl X x) (hm:X.mg x=none) (hv:bootBuiltins x=some (.type T)) (ha:PA X (e::es) t) (hn:x≠"__name__":=by decide) (hdb:(x == ("__debug__":Str))=false:=by decide)
  (he:starEach (e::es) X.env=(false,eval e X.env)::starEach es X.env:=by rfl) (hpl:(backTo pos (starEach es X.env)).any (·.1)=false:=by rfl):PE X (.Call (.Name x p) (e::es) [] pos) (tCB r t):=by
 intro pins s U H Q I h
 refine wpAny_Call_Name_kw (zcy I hg hm hv ?_ hn hdb)
 exact PyProof.Rows.callWith_type1 (thn (ha pos pins s U H _ I h) fun us s1 ⟨vs,H1,I1,r1,q1⟩=>hc pins s1 U H1 vs us Q I1 r1 q1) he hpl
end
section
variable {κ:Type} [DecidableEq κ]
noncomputable def valV (kvs:List (κ×V)) (k:κ):Option V:=(kvs.find? fun kv=>decide (kv.1=k)).map (·.2)
noncomputable def putK (kvs:List (κ×V)) (k:κ) (v:V):List (κ×V):=
 if (kvs.any fun kv=>decide (kv.1=k))=true then kvs.map (fun kv=>if kv.1=k then (kv.1,v) else kv) else kvs++[(k,v)]
theorem zbK {p:κ×V} {r:List (κ×V)} {k:κ} (e:p.1=k):valV (p::r) k=some p.2:=by simp [valV,find?_cons,e]
theorem zbZ {p:κ×V} {r:List (κ×V)} {k:κ} (e:¬ p.1=k):valV (p::r) k=valV r k:=by simp [valV,find?_cons,e]
theorem zf6 (k:κ):∀ kvs:List (κ×V),(kvs.any fun kv=>decide (kv.1=k))=(valV kvs k).isSome
 | []=>rfl
 | p::r=>by
   rw [any_cons]
   by_cases e:p.1=k
   ·simp only [zbK e,decide_eq_true e,Bool.true_or,isSome_some]
   ·rw [zbZ e,decide_eq_false e,Bool.false_or]; exact zf6 k r
theorem zaJ (kvs:List (κ×V)) (k:κ) (v:V):(putK kvs k v).length<=kvs.length + 1:=by
 unfold putK
 grind
theorem RelO.isSome_eq (r:RelO o u):o.isSome=u.isSome:=by
 cases o with
 | none=>cases u with
   | none=>rfl
   | some _=>exact (show False from r).elim
 | some _=>cases u with
   | none=>exact (show False from r).elim
   | some _=>rfl
theorem KV.val {kvs:List (κ×V)} {vs:List (κ×Value)} (r:KV kvs vs) (k:κ):RelO (valV kvs k) (valueAt vs k):=by
 unfold KV at r
 induction r with
 | nil=>exact True.intro
 | @cons p q ps qs h t ih=>
   obtain ⟨h1,h2⟩:=h
   by_cases e:p.1=k
   ·have e':q.1=k:=h1.symm.trans e
    have b:valueAt (q::qs) k=some q.2:=by simp [valueAt,find?_cons,e']
    rw [zbK e,b]; exact h2
   ·have e':¬ q.1=k:=fun z=>e (h1.trans z)
    have b:valueAt (q::qs) k=valueAt qs k:=by simp [valueAt,find?_cons,e']
    rw [zbZ e,b]; exact ih
theorem KV.any (r:KV kvs vs) (k:κ):(kvs.any fun kv=>decide (kv.1=k))=vs.any fun kv=>decide (kv.1=k):=by
 unfold KV at r
 induction r with
 | nil=>rfl
 | cons h t ih=>rw [any_cons,any_cons,ih,h.1]
theorem KV.repl (r:KV kvs vs) (k:κ) (ry:RelV y u):
  KV (kvs.map fun kv=>if kv.1=k then (kv.1,y) else kv) (vs.map fun kv=>if kv.1=k then (kv.1,u) else kv):=by
 unfold KV at r ⊢
 induction r with
 | nil=>exact .nil
 | @cons p q ps qs h t ih=>
   rw [map_cons,map_cons]
   refine .cons ?_ ih
   grind
theorem KV.put (r:KV kvs vs) (k:κ) (ry:RelV y u):KV (putK kvs k y) (stored vs k u):=by
 unfold putK stored
 rw [r.any k]
 by_cases e:(vs.any fun kv=>decide (kv.1=k))=true
 ·rw [if_pos e,if_pos e]; exact r.repl k ry
 ·rw [if_neg e,if_neg e]; exact Paired.snoc r ⟨rfl,ry⟩
theorem KV.length (r:KV kvs vs):kvs.length=vs.length:=Paired.length r
end
theorem ze9 (r:RelV (kV k) u):(mixKind P w).is k u=true:=by
 cases k with
 | inl i=>obtain ⟨t,e⟩:=(show ∃ t,u=Value.int i t from r); subst e; exact zfl P w i t
 | inr x=>obtain ⟨t,e⟩:=(show ∃ t,u=Value.str x t from r); subst e; exact zfc P w x t
theorem zd3:∀ {ks:List Key} {us:List Value},Vals (ks.map kV) us->ItemsAre (mixKind P w) ks us
 | [],_,r=>by rw [map_nil] at r; cases r; exact .nil
 | k::ks,_,r=>by
   rw [map_cons] at r
   cases r with
   | cons h t=>exact .cons (ze9 h) (zd3 t)
abbrev KT (H:Hp):List (List Key×V)->List (List Key×Addr×Value)->Prop:=Paired fun p q=>p.1=q.1/\H q.2.1=some (.tup (p.1.map kV))/\RelV p.2 q.2.2
theorem KT.val {H:Hp} {kvs:List (List Key×V)} {xs:List (List Key×Addr×Value)} (r:KT H kvs xs) (k:List Key):RelO (valV kvs k) ((atKey xs k).map (·.2)):=by
 induction r with
 | nil=>exact True.intro
 | @cons p q ps qs h t ih=>
   obtain ⟨h1,_,h2⟩:=h
   by_cases e:p.1=k
   ·have e':q.1=k:=h1.symm.trans e
    have b:atKey (q::qs) k=some q.2:=by simp [atKey,find?_cons,e']
    rw [zbK e,b]; exact h2
   ·have e':¬ q.1=k:=fun z=>e (h1.trans z)
    have b:atKey (q::qs) k=atKey qs k:=by simp [atKey,find?_cons,e']
    rw [zbZ e,b]; exact ih
theorem KT.repl (r:KT H kvs xs) (k:List Key) (ry:RelV y u):
  KT H (kvs.map fun kv=>if kv.1=k then (kv.1,y) else kv) (xs.map (putAt k u)):=by
 induction r with
 | nil=>exact .nil
 | @cons p q ps qs h t ih=>
   rw [map_cons,map_cons]
   refine .cons ?_ ih
   obtain ⟨h1,h2,h3⟩:=h
   unfold putAt
   by_cases e:p.1=k
   ·rw [if_pos e,if_pos (h1.symm.trans e)]; exact ⟨h1,h2,ry⟩
   ·rw [if_neg e,if_neg (fun z=>e (h1.trans z))]; exact ⟨h1,h2,h3⟩
theorem KT.put (r:KT H kvs xs) (k:List Key) (hb:H b=some (.tup (k.map kV))) (ry:RelV y u):
  KT H (putK kvs k y) (storedH xs k b u):=by
 have e:(kvs.any fun kv=>decide (kv.1=k))=(atKey xs k).isSome:=by
  rw [zf6,(r.val k).isSome_eq,isSome_map]
 unfold putK storedH
 rw [e]
 by_cases q:(atKey xs k).isSome=true
 ·rw [if_pos q,if_pos q]; exact r.repl k ry
 ·rw [if_neg q,if_neg q]; exact Paired.snoc r ⟨rfl,hb,ry⟩
theorem KT.keeps (r:KT H kvs xs) (ht:∀ b ys,H b=some (.tup ys)->H' b=some (.tup ys)):KT H' kvs xs:=
 Paired.mapP r fun _ _ z=>⟨z.1,ht _ _ z.2.1,z.2.2⟩
section
variable {P:Program} {w:World} {H:Hp} {h:Heap} {a:Addr}
theorem znt (ok:HOk P w H h) (e:Rd H a u):ObjOk P w H h a u:=e.ok ok
theorem ziJ (ok:HOk P w H h) (e:Rd H a (.dK kvs)):kvs.length<=sizeLine/\(a == sysModules)=false/\∃ vs,KV kvs vs/\h.DictOf (mixKind P w) a vs:=
 show ObjOk P w H h a (.dK kvs) from znt ok e
theorem zkS (ok:HOk P w H h) (e:H a=some (.dK kvs)):kvs.length<=sizeLine/\(a == sysModules)=false/\∃ vs,KV kvs vs/\h.DictOf (mixKind P w) a vs:=ziJ ok (.inl e)
theorem zdh (ok:HOk P w H h) (e:H a=some (.tup (ks.map kV))):(tupleKind (mixKind P w)).is h ks a:=by
 obtain ⟨_,its,r,o,h1,h2,n,h3⟩:=(show ObjOk P w H h a (.tup (ks.map kV)) from ok a _ e)
 exact ⟨o,its.toArray,n,h1,h2,h3,by simpa using zd3 r⟩
theorem zgl (ok:HOk P w H h) (e:Rd H a (.dT kvs)):kvs.length<=sizeLine/\(a == sysModules)=false/\
  ∃ xs,KT H kvs xs/\h.DictOfH (tupleKind (mixKind P w)) a xs:=by
 obtain ⟨z,y,xs,r,o,es,ep,h1,h2,h3,h4,h5⟩:=(show ObjOk P w H h a (.dT kvs) from znt ok e)
 refine ⟨z,y,xs,r,o,es,ep,h1,h2,h3,h4,fun x hx=>?_,h5⟩
 have all:∀ {l:List (List Key×V)} {m:List (List Key×Addr×Value)},KT H l m->∀ x∈m,(tupleKind (mixKind P w)).is h x.1 x.2.1:=by
  intro l m q
  induction q with
  | nil=>intro x hx; exact nomatch hx
  | @cons p q ps qs hq t ih=>
    intro x hx
    rcases mem_cons.mp hx with e | hx
    ·subst e
     exact zdh ok (by rw [<- hq.1]; exact hq.2.1)
    ·exact ih x hx
 exact all r x hx
theorem zmo (ok:HOk P w H h) (e:H a=some (.dT kvs)):kvs.length<=sizeLine/\(a == sysModules)=false/\
  ∃ xs,KT H kvs xs/\h.DictOfH (tupleKind (mixKind P w)) a xs:=zgl ok (.inl e)
end
noncomputable def DGet (H:Hp) (a:Addr) (y:V) (r:Option V):Prop:=
 (∃ kvs k,Rd H a (.dK kvs)/\y=kV k/\r=valV kvs k)\/∃ kvs k b,Rd H a (.dT kvs)/\y=.ref b/\H b=some (.tup (k.map kV))/\r=valV kvs k
noncomputable def DPut (H:Hp) (a:Addr) (y v:V) (H':Hp):Prop:=
 (∃ kvs k,H a=some (.dK kvs)/\y=kV k/\kvs.length < sizeLine/\H'=upd H a (.dK (putK kvs k v)))\/
 ∃ kvs k b,H a=some (.dT kvs)/\y=.ref b/\H b=some (.tup (k.map kV))/\kvs.length < sizeLine/\H'=upd H a (.dT (putK kvs k v))
section
variable {X:Cx} {pins:List (Addr×Obj)} {U:St} {H:Hp} {s:Shared} {a:Addr} {y v:V} {u r:Value} {o:Option V} {A:Around} {E:Value->Shared->Prop}
theorem Inv.big (I:Inv X pins U H s):sysModules < s.heap.objs.size:=by
 have h:mainGlobals < s.heap.objs.size:=(I.mod.glob.keeps I.bk).lt
 exact lt_trans (by decide) h
theorem zhZ (hu:A.units + 1 < cLine) (I:Inv X pins U H s) (g:DGet H a y (some v)) (ry:RelV y u) (h:∀ w' s',Inv X pins U H s'->RelV v w'->Q w' s'):
  wpAny (model X.prog X.w) A (getItem (.ref a) u) Q E s:=by
 rcases g with ⟨kvs,k,e,ey,l⟩ | ⟨kvs,k,b,e,ey,eb,l⟩
 ·subst ey
  obtain ⟨z,hd,vs,rel,dd⟩:=ziJ I.hok e
  obtain ⟨w',hw,rw'⟩:=RelO.some_of (v:=v) (o:=valueAt vs k) (by rw [l]; exact rel.val k)
  exact wpAny_getItem_of (ze9 ry) dd.mapOf hw (h w' _ (I.tok _) rw')
 ·subst ey
  cases (show u=Value.ref b from ry)
  obtain ⟨z,hd,xs,rel,dd⟩:=zgl I.hok e
  obtain ⟨w',hw,rw'⟩:=RelO.some_of (v:=v) (o:=(atKey xs k).map (·.2)) (by rw [l]; exact rel.val k)
  obtain ⟨p,hp,hp2⟩:=map_eq_some_iff.mp hw
  refine wpAny_getItem_heap (tupleKind_room_in1 hu) (zdh I.hok eb) dd hp ?_
  rw [hp2]
  exact h w' _ (I.tok _) rw'
theorem d_in (hu:A.units + 1 < cLine) (I:Inv X pins U H s) (g:DGet H a y o) (ry:RelV y u) (h:∀ s',Inv X pins U H s'->Q (.bool o.isSome) s'):
  wpAny (model X.prog X.w) A (compareOp .In u (.ref a)) Q E s:=by
 rcases g with ⟨kvs,k,e,ey,l⟩ | ⟨kvs,k,b,e,ey,eb,l⟩
 ·subst ey
  obtain ⟨z,hd,vs,rel,dd⟩:=ziJ I.hok e
  refine wpAny_in_of (ze9 ry) hd dd.mapOf ?_
  rw [<- (rel.val k).isSome_eq,<- l]
  exact h _ (I.tok _)
 ·subst ey
  cases (show u=Value.ref b from ry)
  obtain ⟨z,hd,xs,rel,dd⟩:=zgl I.hok e
  refine wpAny_in_heap (tupleKind_room_in1 hu) (zdh I.hok eb) hd dd ?_
  have q:=(rel.val k).isSome_eq
  rw [isSome_map] at q
  rw [<- q,<- l]
  exact h _ (I.tok _)
theorem zlu (hu:A.units + 1 < cLine) (I:Inv X pins U H s) (g:DGet H a y o) (ry:RelV y u) (h:∀ s',Inv X pins U H s'->Q (.bool (!o.isSome)) s'):
  wpAny (model X.prog X.w) A (compareOp .NotIn u (.ref a)) Q E s:=by
 rcases g with ⟨kvs,k,e,ey,l⟩ | ⟨kvs,k,b,e,ey,eb,l⟩
 ·subst ey
  obtain ⟨z,hd,vs,rel,dd⟩:=ziJ I.hok e
  refine wpAny_notIn_of (ze9 ry) hd dd.mapOf ?_
  rw [<- (rel.val k).isSome_eq,<- l]
  exact h _ (I.tok _)
 ·subst ey
  cases (show u=Value.ref b from ry)
  obtain ⟨z,hd,xs,rel,dd⟩:=zgl I.hok e
  refine wpAny_notIn_heap (tupleKind_room_in1 hu) (zdh I.hok eb) hd dd ?_
  have q:=(rel.val k).isSome_eq
  rw [isSome_map] at q
  rw [<- q,<- l]
  exact h _ (I.tok _)
theorem zc3 (I:Inv X pins U H s) (mu:Mut (H a)) (hs:Heap.SameBut a s.heap h') (he:∃ q,h'.get? a=some q) (new:ObjOk X.prog X.w (upd H a ob) h' a ob):
  Inv X pins U (upd H a ob) { s with heap:=h',toks:=t' }:=
 I.write (x:=a) (e:=a) mu (.inl rfl) (fun b q hb z=>(hs.2 b hb).trans z) he new
theorem zh0 (z:kvs.length<=sizeLine) (hd:(a == sysModules)=false) (rel:KV kvs vs) (dd:h'.DictOf (mixKind P w) a vs):
  ObjOk P w H' h' a (.dK kvs):=⟨z,hd,vs,rel,dd⟩
theorem ziO (hu:A.units + 1 < cLine) (I:Inv X pins U H s) (g:DPut H a y v H') (ry:RelV y u) (rv:RelV v r) (h:∀ s',Inv X pins U H' s'->Q () s'):
  wpAny (model X.prog X.w) A (setItem (.ref a) u r) Q E s:=by
 rcases g with ⟨kvs,k,e,ey,l,eH⟩ | ⟨kvs,k,b,e,ey,eb,l,eH⟩
 ·subst ey eH
  obtain ⟨z,hd,vs,rel,dd⟩:=zkS I.hok e
  have hz:vs.length<=sizeLine:=by rw [<- rel.length]; exact z
  have hl:(putK kvs k v).length<=sizeLine:=by have:=zaJ kvs k v; lia
  refine wpAny_setItem_pairs (hsz:=hz) (ze9 ry) dd fun h' dd' hs=>h _ ?_
  have he:∃ q,h'.get? a=some q:=let ⟨q,_,_,hq,_⟩:=dd'; ⟨q,hq⟩
  exact zc3 I (by rw [e]; exact True.intro) hs he (zh0 hl hd (rel.put k rv) dd')
 ·subst ey eH
  cases (show u=Value.ref b from ry)
  obtain ⟨z,hd,xs,rel,dd⟩:=zmo I.hok e
  have hz:xs.length<=sizeLine:=by rw [<- Paired.length rel]; exact z
  have hl:(putK kvs k v).length<=sizeLine:=by have:=zaJ kvs k v; lia
  refine wpAny_setItem_heap (hsz:=hz) (tupleKind_room_in1 hu) (zdh I.hok eb) dd fun h' dd' hs=>h _ ?_
  obtain ⟨q,es,ep,hq,h2,h3,h4,_,h5⟩:=dd'
  refine zc3 I (by rw [e]; exact True.intro) hs ⟨q,hq⟩ ⟨hl,hd,_,(rel.put k eb rv).keeps fun c ys ec=>?_,q,es,ep,hq,h2,h3,h4,h5⟩
  rw [zaf (zmU ec e (fun z=>nomatch z))]
  exact ec
end
theorem ze3 (I:Inv X pins U H s) (g:DGet H a y o):s.TypeIs (.ref a) "dict":=by
 rcases g with ⟨kvs,k,e,_,_⟩ | ⟨kvs,k,b,e,_,_,_⟩
 ·obtain ⟨_,_,vs,_,dd⟩:=ziJ I.hok e
  exact dd.typeIs
 ·obtain ⟨_,_,xs,_,dd⟩:=zgl I.hok e
  exact dd.typeIs
noncomputable def sDPut (td ty tv:TE):TS:=fun D U H=>tv U H fun v H1=>td U H1 fun x H2=>ty U H2 fun y H3=>∃ a H4,x=.ref a/\DPut H3 a y v H4/\D.nx U H4
section
variable {X:Cx} {o i e value:Expr} {pos pos' tpos:Pos} {td ty tv:TE}
theorem zlL (hu:X.A.units + 1 < cLine) (ho:PE X o td) (hi:PE X i ty) (hv:PE X value tv) (hs:swapsWith value (some (.Subscript o i pos')) pos.line X.env=pure false):
  PS X (.Assign [.Subscript o i pos'] value pos) (sDPut td ty tv):=by
 intro pins s U H D I h
 refine wpAny_Assign_Subscript (thn (hv pins s U H _ I h) fun r s1 ⟨v,H1,I1,rv,q1⟩=>thn (ho pins s1 U H1 _ I1 q1) fun u s2 ⟨x,H2,I2,rx,q2⟩=>thn (hi pins s2 U H2 _ I2 q2) fun iv s3 zq=>?_) hs
 obtain ⟨y,H3,I3,ry,a,H4,ex,g,q3⟩:=zq
 subst ex
 obtain rfl:u=Value.ref a:=rx
 exact ziO hu I3 g ry rv fun s4 I4=>⟨U,H4,I4,q3⟩
end
theorem zjv (h:Heap) (hb:sysModules < h.objs.size):ObjOk P w H (h.push { cls:=.type "dict",data:=.dict #[] }) h.objs.size (.dK []):=
 ⟨zero_le _,beq_eq_false_iff_ne.mpr (Ne.symm (ne_of_lt hb)),[],.nil,Heap.DictOf.new h⟩
theorem zjb (h:Heap) (hb:sysModules < h.objs.size):ObjOk P w H (h.push { cls:=.type "dict",data:=.dict #[] }) h.objs.size (.dT []):=
 ⟨zero_le _,beq_eq_false_iff_ne.mpr (Ne.symm (ne_of_lt hb)),[],.nil,_,#[],0,qd _ rfl,⟨rfl,rfl,rfl⟩,rfl,rfl,List.nodup_nil⟩
noncomputable def tPairs:List (TE×TE)->St->Hp->(List (V×V)->Hp->Prop)->Prop
 | [],_,H,Q=>Q [] H
 | (tk,tv)::r,U,H,Q=>tk U H fun x H1=>tv U H1 fun y H2=>tPairs r U H2 fun ps H3=>Q ((x,y)::ps) H3
abbrev VV:List (V×V)->List (Value×Value)->Prop:=Paired fun p q=>RelV p.1 q.1/\RelV p.2 q.2
noncomputable def PPs (X:Cx) (pos:Pos) (keys:List (Option Expr)) (values:List Expr) (trs:List (TE×TE)):Prop:=
 ∀ (pins:List (Addr×Obj)) (s:Shared) (U:St) (H:Hp) (Q:List (V×V)->Hp->Prop),Inv X pins U H s->tPairs trs U H Q->
   wpAny (model X.prog X.w) X.A (evalPairs (pairTrees keys values X.env pos)) (fun vs s'=>∃ ps H',Inv X pins U H' s'/\VV ps vs/\Q ps H') X.xe s
theorem zkE:PPs X pos [] [] []:=fun pins s U H Q I h=>pairTrees_nil_walk ⟨[],H,I,.nil,h⟩
theorem zjD (hk:PE X k tk) (hv:PE X v tv) (hr:PPs X pos ks vs trs):
  PPs X pos (some k::ks) (v::vs) ((tk,tv)::trs):=fun pins s U H Q I h=>
 pairTrees_cons_walk (thn (hk pins s U H _ I h) fun u s1 ⟨x,H1,I1,rx,q1⟩=>thn (hv pins s1 U H1 _ I1 q1) fun w2 s2 ⟨y,H2,I2,ry,q2⟩=>
  thn (hr pins s2 U H2 _ I2 q2) fun ws s3 ⟨ps,H3,I3,rel,q3⟩=>⟨(x,y)::ps,H3,I3,.cons ⟨rx,ry⟩ rel,q3⟩)
noncomputable def mergeK (kvs more:List (Key×V)):List (Key×V):=more.foldl (fun acc kv=>putK acc kv.1 kv.2) kvs
theorem KV.merge:∀ {more:List (Key×V)} {rs:List (Key×Value)} {kvs:List (Key×V)} {vs:List (Key×Value)},KV more rs->KV kvs vs->KV (mergeK kvs more) (merged vs rs):=by
 intro more rs kvs vs r
 unfold KV at r
 induction r generalizing kvs vs with
 | nil=>intro q; exact q
 | @cons p q ps qs h t ih=>
   intro r0
   have e:KV (putK kvs p.1 p.2) (stored vs q.1 q.2):=by
    have:=r0.put p.1 h.2
    rw [<- h.1]; exact this
   exact ih e
theorem zbB:∀ (more kvs:List (Key×V)),(mergeK kvs more).length<=kvs.length + more.length
 | [],kvs=>by show kvs.length<=kvs.length + 0; lia
 | p::r,kvs=>by
   have h1:=zbB r (putK kvs p.1 p.2)
   have h2:=zaJ kvs p.1 p.2
   show (mergeK (putK kvs p.1 p.2) r).length<=_
   rw [length_cons]; lia
theorem zdl:∀ {kvs:List (Key×V)} {ws:List (Value×Value)},VV (kvs.map fun kv=>(kV kv.1,kv.2)) ws->∃ rs,Carries (mixKind P w) ws rs/\KV kvs rs
 | [],_,r=>by rw [map_nil] at r; cases r; exact ⟨[],True.intro,.nil⟩
 | p::kvs,_,r=>by
   rw [map_cons] at r
   cases r with
   | @cons a b as bs h t=>
     obtain ⟨rs,c,q⟩:=zdl (P:=P) (w:=w) t
     obtain ⟨b1,b2⟩:=b
     exact ⟨(p.1,b2)::rs,⟨ze9 h.1,rfl,c⟩,.cons ⟨rfl,h.2⟩ q⟩
noncomputable def tDisp (trs:List (TE×TE)):TE:=fun U H Q=>∀ p,H p=none->tPairs trs U (upd H p (.dK [])) fun ps H2=>H2 p=some (.dK [])/\∃ kvs:List (Key×V),ps=kvs.map (fun kv=>(kV kv.1,kv.2))/\kvs.length<=15/\Q (.ref p) (upd H2 p (.dK (mergeK [] kvs)))
theorem zkV (h:PPs X pos keys values trs) (hall:keys.all (·.isSome)=true) (hl:keys.length=values.length) (h0:keys≠[])
  (h15:keys.length<=15):PE X (.Dict keys values pos) (tDisp trs):=by
 intro pins s U H Q I q
 have hn:=I.hok.fresh (le_refl s.heap.objs.size)
 have I1:=I.laid (a:=s.heap.objs.size) (o:=.dK []) (h':=s.heap.push { cls:=.type "dict",data:=.dict #[] }) (t':=s.toks) (fun _ _ q=>qc _ q) (le_refl _) (zjv s.heap I.big)
 refine wpAny_Dict_walk (knd:=mixKind X.prog X.w) hall hl h0 h15 (thn (h pins _ U _ _ I1 (q _ hn)) fun ws s2 zq=>?_)
 obtain ⟨ps,H2,I2,rel,e,kvs,ep,lk,q2⟩:=zq
 subst ep
 obtain ⟨rs,c,rk⟩:=zdl (P:=X.prog) (w:=X.w) rel
 obtain ⟨z,hd,vs0,r0,dd⟩:=zkS I2.hok e
 cases r0
 refine ⟨rs,c,dd,fun h' dd' hs=>⟨.ref s.heap.objs.size,_,?_,rfl,q2⟩⟩
 have hz:(mergeK [] kvs).length<=sizeLine:=by
  have h1:=zbB kvs []
  rw [length_nil] at h1
  rw [sizeLine_eq]; lia
 have he:∃ q,h'.get? s.heap.objs.size=some q:=let ⟨q,_,_,hq,_⟩:=dd'; ⟨q,hq⟩
 exact zc3 I2 (by rw [e]; exact True.intro) hs he (zh0 hz hd (rk.merge .nil) dd')
end L2
end
section
namespace HT
open PySem PyProof.Rows
noncomputable def lexLt:List Int->List Int->Bool
 | [],[]=>false
 | [],_::_=>true
 | _::_,[]=>false
 | x::xs,y::ys=>if x=y then lexLt xs ys else decide (x < y)
theorem zaB (x y:Int) (xs ys:List Int):lexLt (x::xs) (y::ys)=if x=y then lexLt xs ys else decide (x < y):=rfl
theorem rcLt_int (A:Around) (s:Shared) (a:Int) (t:Tok) (c:Int) (u:Tok) (prog:Program) (w:World) (E:Value->Shared->Prop) (Q:Value->Shared->Prop) (h:Q (.bool (decide (a < c))) s):
  wpAny (model prog w) A (richCompare .Lt (.int a t) (.int c u)) Q E s:=
 (PyProof.Rows.lt_int h:wpAny (model prog w) A (compareOp .Lt (.int a t) (.int c u)) Q E s)
section
open PySem.SeqAt
open PySem.AutoSeq1 (wpAny_loadPart')
open PySem.MeetsSeq PySem.MeetsSeq2 PySem.MeetsSeq3
end
section
variable {prog:Program} {w:World} {A:Around} {E:Value->Shared->Prop} {s:Shared}
theorem cat_tup (ht:IsTup s.heap t vs.toArray) (hb:IsTup s.heap b ws.toArray) (hv:vs≠[])
  (h1:ws=[]->Q (.ref t) s) (h2:ws≠[]->Q (.ref s.heap.objs.size) { s with heap:=s.heap.push { cls:=.type "tuple",data:=.seq (vs++ws).toArray } })
  (hsz:vs.length + ws.length<=sizeLine):wpAny (model prog w) A (binaryOp .Add (.ref t) (.ref b)) Q E s:=by
 obtain ⟨⟨cls,dd,data,sl⟩,ho,hc,n,hd⟩:=id ht
 obtain ⟨⟨cls2,dd2,data2,sl2⟩,ho2,hc2,n2,hd2⟩:=id hb
 simp only at hc hd hc2 hd2
 subst hc hd hc2 hd2
 have e:vs.toArray++ws.toArray=(vs++ws).toArray:=by simp
 by_cases hw:ws=[]
 ·exact concat_meets ⟨_,ho,rfl⟩ ⟨_,ho2,rfl⟩ noFill_tuple_add seq_tuple_add PySem.F.slot_tuple_add PySem.F.entry_tuple_add (PySem.F.args_tuple_add_2 _ _)
   (tuple_addW1 t b vs.toArray ws.toArray n n2 dd dd2 sl sl2 (by simpa using hv) (by simp [hw])) ⟨ho,ho2,h1 hw⟩
 ·refine concat_meets ⟨_,ho,rfl⟩ ⟨_,ho2,rfl⟩ noFill_tuple_add seq_tuple_add PySem.F.slot_tuple_add PySem.F.entry_tuple_add (PySem.F.args_tuple_add_2 _ _)
   (tuple_addW2 t b vs.toArray ws.toArray n n2 dd dd2 sl sl2 (by simpa using hv) (by simpa using hw) (by rw [size_toArray,size_toArray]; exact hsz)) ⟨ho,ho2,?_⟩
  rw [e]
  exact h2 hw
noncomputable def sIx (n d:Nat):Option Int->Nat
 | none=>d
 | some v=>if v < 0 then (v + (n:Int)).toNat else min v.toNat n
theorem sIx_le (n d:Nat) (hd:d<=n) (o:Option Int):sIx n d o<=n:=by
 cases o with
 | none=>exact hd
 | some v=>
   show (if v < 0 then (v + (n:Int)).toNat else min v.toNat n)<=n
   by_cases hv:v < 0
   ·rw [if_pos hv]; lia
   ·rw [if_neg hv]; exact Nat.min_le_right _ _
theorem zid (v:Int) (n d:Nat):(if v < 0 then max (v + (n:Int)) 0 else min v (n:Int))=((sIx n d (some v):Nat):Int):=by
 show (if v < 0 then max (v + (n:Int)) 0 else min v (n:Int))=(((if v < 0 then (v + (n:Int)).toNat else min v.toNat n):Nat):Int)
 grind
theorem zgQ (lo hi:Option Int) (n:Nat):Builtin.Slice.sliceAdjust lo hi 1 (n:Int)=(((sIx n 0 lo:Nat):Int),((sIx n n hi:Nat):Int)):=by
 have h1:¬ ((1:Int) < 0):=by lia
 unfold Builtin.Slice.sliceAdjust
 simp only [h1,if_false]
 refine Prod.ext ?_ ?_
 ·cases lo with
  | none=>rfl
  | some v=>exact zid v n 0
 ·cases hi with
  | none=>rfl
  | some v=>exact zid v n n
theorem zgy (i j:Nat):Builtin.Slice.slicePlaces (i:Int) (j:Int) 1=j - i:=by
 unfold Builtin.Slice.slicePlaces
 have h1:(1:Int) > 0:=by lia
 simp only [h1,if_true,Int.ediv_one]
 split <;> lia
theorem zdb (p:IsPart v o) (h:Q o s):wpAny (model prog w) A (Builtin.Slice.slicePartIndex v) Q E s:=by
 cases p with
 | none=>exact slicePart_none h
 | int i t=>exact slicePart_int h
theorem sliceApplied_gen {lo hi:Option Int} {n:Nat} (hs:s.heap.IsSliceOf sl vl vu .none) (pl:IsPart vl lo) (pu:IsPart vu hi)
  (h:Q (((sIx n 0 lo:Nat):Int),1,sIx n n hi - sIx n 0 lo) s):wpAny (model prog w) A (Builtin.Slice.sliceApplied (.ref sl) (pure (n:Int))) Q E s:=by
 obtain ⟨os,hos,hcs,hds⟩:=id hs
 unfold Builtin.Slice.sliceApplied Builtin.Slice.sliceFields
 refine qa (qa (wpAny_field hos hds (x:=vl) rfl (qa (wpAny_field hos hds (x:=vu) rfl (qa (wpAny_field hos hds (x:=.none) rfl (qb ?_)))))))
 refine qa (slicePart_none ?_)
 show wpAny _ _ (if ((1:Int) == 0)=true then _ else _) _ _ s
 rw [if_neg (by decide)]
 refine qa (zdb pl (qa (zdb pu (qa (qb ?_)))))
 show wpAny _ _ (match Builtin.Slice.sliceAdjust lo hi 1 (n:Int) with | (lo,hi)=>pure (lo,(1:Int),Builtin.Slice.slicePlaces lo hi 1)) _ _ s
 rw [zgQ lo hi n]
 show wpAny _ _ (pure (((sIx n 0 lo:Nat):Int),(1:Int),Builtin.Slice.slicePlaces ((sIx n 0 lo:Nat):Int) ((sIx n n hi:Nat):Int) 1)) _ _ s
 rw [zgy]
 exact qb h
theorem zkb (xs:Array Value) (i k:Nat):((List.range k).filterMap fun (m:Nat)=>xs[((i:Int) + (m:Int) * 1).toNat]?).toArray=((xs.toList.drop i).take k).toArray:=by
 have e:(fun (m:Nat)=>xs[((i:Int) + (m:Int) * 1).toNat]?)=fun m=>xs[i + m]?:=by
  funext m
  have:((i:Int) + (m:Int) * 1).toNat=i + m:=by lia
  rw [this]
 rw [e]
 have:=pick_run xs i k
 rw [List.filterMap_map] at this
 have e2:((fun x=>xs[x]?) ∘ fun x=>i + x)=fun m=>xs[i + m]?:=rfl
 rw [e2] at this
 rw [this]
theorem getItem_tuple_cut {lo hi:Option Int} (ht:IsTup s.heap t items) (hs:s.heap.IsSliceOf sl vl vu .none) (pl:IsPart vl lo) (pu:IsPart vu hi)
  (hw:¬ (sIx items.size 0 lo=0/\sIx items.size items.size hi=items.size))
  (h:Q (.ref s.heap.objs.size) { s with heap:=s.heap.push { cls:=.type "tuple",data:=.seq ((items.toList.drop (sIx items.size 0 lo)).take (sIx items.size items.size hi - sIx items.size 0 lo)).toArray } })
  (hsz:items.size<=sizeLine):wpAny (model prog w) A (getItem (.ref t) (.ref sl)) Q E s:=by
 have htake:sizeOk (.seq ((items.toList.drop (sIx items.size 0 lo)).take (sIx items.size items.size hi - sIx items.size 0 lo)).toArray):=by
  show ((items.toList.drop (sIx items.size 0 lo)).take (sIx items.size items.size hi - sIx items.size 0 lo)).toArray.size<=sizeLine
  grind
 have hj:sIx items.size items.size hi<=items.size:=sIx_le _ _ (le_refl _) hi
 obtain ⟨os,hos,hcs,hds⟩:=id hs
 have hTs:s.TypeIs (.ref sl) "slice":=⟨os,hos,hcs⟩
 unfold getItem
 try with_reducible refine wpAny_holding ?_
 first | refine qa (qb ?_) | skip
 refine qa (wpAny_sequenceKey ht.typeIs (by decide) ?_)
 refine qa (wpAny_callSpecial?_slot (name:=Str.ofString "__getitem__") ht.typeIs PyProof.Rows.slot_tuple_getitem
  (wpAny_call_entry PyProof.Rows.slot_tuple_getitem ht.typeIs entry_tuple_getitem ?_ (args_tuple_getitem _ _)))
 show wpAny _ _ (Builtin.Tuple.tupleItemsOf (.ref t) >>= _) _ _ s
 refine qa (tupleItemsOf_ ht ?_)
 refine qa (wpAny_typeOf hTs ?_)
 rw [if_pos (by decide)]
 refine qa (sliceApplied_gen hs pl pu ?_)
 have hno:¬ ((((sIx items.size 0 lo:Nat):Int) == 0 && (1:Int) == 1 && (sIx items.size items.size hi - sIx items.size 0 lo) == items.size)=true):=by
  grind
 show wpAny _ _ (if (((sIx items.size 0 lo:Nat):Int) == 0 && (1:Int) == 1 && (sIx items.size items.size hi - sIx items.size 0 lo) == items.size)=true then _ else _) _ _ s
 rw [if_neg hno,zkb]
 first
  | exact qa (m:=Builtin.Tuple.tupleExact _) (wpAny_newObj_type (qb ⟨_,rfl,qb h⟩) htake)
  | exact qa (m:=Builtin.Tuple.tupleExact _) (wpAny_newObj_type (qa (qb (qb ⟨_,rfl,qb h⟩))) htake)
  | exact qa (qa (m:=Builtin.Tuple.tupleExact _) (wpAny_newObj_type (qb (qb ⟨_,rfl,qb h⟩)) htake))
  | exact qa (qa (m:=Builtin.Tuple.tupleExact _) (wpAny_newObj_type (qb ⟨_,rfl,qb h⟩) htake))
end
end HT
namespace L2
open PySem PySem.Spec PyProof.Rows
abbrev TO:=St->Hp->(Option Int->Hp->Prop)->Prop
noncomputable def PO (X:Cx) (e:Option Expr) (t:TO):Prop:=
 ∀ (pins:List (Addr×Obj)) (s:Shared) (U:St) (H:Hp) (Q:Option Int->Hp->Prop),Inv X pins U H s->t U H Q->
   wpAny (model X.prog X.w) X.A (evalPart e X.env) (fun u s'=>∃ o H',Inv X pins U H' s'/\IsPart u o/\Q o H') X.xe s
noncomputable def tNoPart:TO:=fun _ H Q=>Q none H
noncomputable def tPart (t:TE):TO:=fun U H Q=>t U H fun x H1=>∃ i,x=.int i/\Q (some i) H1
theorem zbq:∀ {us:List Value},Vals (ns.map V.int) us->IntsAre us ns:=by
 induction ns with
 | nil=>intro us r; rw [map_nil] at r; cases r; exact .nil
 | cons n ns ih=>
   intro us r
   rw [map_cons] at r
   cases r with
   | cons r1 r2=>
     obtain ⟨t,e⟩:=r1
     subst e
     exact .cons n t (ih r2)
section
variable {X:Cx} {e:Expr} {te:TE} {lo hi:Option Expr} {tl th:TO} {pos p2:Pos}
theorem zgT:PO X none tNoPart:=by
 intro pins s U H Q I h
 rw [evalPart_none]
 exact qb ⟨none,H,I,.none,h⟩
theorem zdp (h:PE X e te):PO X (some e) (tPart te):=by
 intro pins s U H Q I hw
 rw [evalPart_some]
 refine thn (h pins s U H _ I hw) fun u s1 zq=>?_
 obtain ⟨x,H1,I1,r1,q1⟩:=zq
 obtain ⟨i,rfl,q⟩:=q1
 obtain ⟨t,rfl⟩:=r1
 exact ⟨some i,H1,I1,.int i t,q⟩
noncomputable def SlR (X:Cx) (r:V->Option Int->Option Int->Hp->VK->Prop):Prop:=
 ∀ (pins:List (Addr×Obj)) (s:Shared) (U:St) (H:Hp) (x:V) (v vl vu:Value) (lo hi:Option Int) (sl:Addr) (Q:VK),Inv X pins U H s->RelV x v->s.heap.IsSliceOf sl vl vu .none->IsPart vl lo->IsPart vu hi->r x lo hi H Q->
   ∃ T id,typeLookup (.type T) "__getitem__"=pure (some (.builtin id))/\s.TypeIs v T/\wpAny (model X.prog X.w) X.A (getItem v (.ref sl)) (EP X pins U Q) X.xe s
theorem SlR.or (h:SlR X r) (h':SlR X r'):SlR X (fun x lo hi H Q=>r x lo hi H Q\/r' x lo hi H Q):=by
 intro pins s U H x v vl vu lo hi sl Q I rx hs pl pu q
 rcases q with q | q
 ·exact h pins s U H x v vl vu lo hi sl Q I rx hs pl pu q
 ·exact h' pins s U H x v vl vu lo hi sl Q I rx hs pl pu q
noncomputable def tSl (r:V->Option Int->Option Int->Hp->VK->Prop) (te:TE) (tl th:TO):TE:=fun U H Q=>te U H fun x H1=>tl U H1 fun l H2=>th U H2 fun u H3=>r x l u H3 Q
theorem zds (hr:SlR X r) (he:PE X e te) (hl:PO X lo tl) (hu:PO X hi th):PE X (.Subscript e (.Slice lo hi none p2) pos) (tSl r te tl th):=by
 intro pins s U H Q I h
 refine Subscript_ (thn (he pins s U H _ I h) fun v s1 zq=>?_)
 obtain ⟨x,H1,I1,r1,q1⟩:=zq
 refine wpAny_Slice (thn (hl pins s1 U H1 _ I1 q1) fun vl s2 ⟨l,H2,I2,pl,q2⟩=>thn (hu pins s2 U H2 _ I2 q2) fun vu s3 zq=>?_)
 obtain ⟨u,H3,I3,pu,q3⟩:=zq
 rw [evalPart_none]
 refine qb ?_
 have I4:Inv X pins U H3 { s3 with heap:=s3.heap.push { cls:=.type "slice",data:=.fields #[vl,vu,.none] } }:=I3.kept (t':=s3.toks) fun b ob q=>qc _ q
 obtain ⟨T,id,hT,ht,hg⟩:=hr pins { s3 with heap:=s3.heap.push { cls:=.type "slice",data:=.fields #[vl,vu,.none] } } U H3 x v vl vu l u s3.heap.objs.size Q I4 r1 (Heap.IsSliceOf.new ..) pl pu q3
 show wpAny (model X.prog X.w) X.A (subscriptTail e (.Slice lo hi none p2) v (.ref s3.heap.objs.size)) (EP X pins U Q) X.xe { s3 with heap:=s3.heap.push { cls:=.type "slice",data:=.fields #[vl,vu,.none] } }
 exact tail_any (ops:=[.ref s3.heap.objs.size,v]) ht hT hg (by with_unfolding_all rfl)
noncomputable def cutV (xs:List V) (lo hi:Option Int):List V:=(xs.drop (HT.sIx xs.length 0 lo)).take (HT.sIx xs.length xs.length hi - HT.sIx xs.length 0 lo)
theorem zc1 (xs:List V) (lo hi:Option Int):(cutV xs lo hi).length<=xs.length:=by
 unfold cutV
 rw [length_take,length_drop]
 lia
noncomputable def rSlT (K:W.Frag):V->Option Int->Option Int->Hp->VK->Prop:=fun x lo hi H Q=>∃ a xs,x=.ref a/\SqT K H a xs/\
 ¬ (HT.sIx xs.length 0 lo=0/\HT.sIx xs.length xs.length hi=xs.length)/\∀ p,H p=none->Q (.ref p) (upd H p (.tup (cutV xs lo hi)))
theorem zox:SlR X (rSlT X.K):=by
 intro pins s U H x v vl vu lo hi sl Q I rx hs pl pu h
 obtain ⟨a,xs,rfl,hx,hw,q⟩:=h
 cases rx
 obtain ⟨its,r,ht,hz⟩:=I.tuple hx
 have hlen:its.toArray.size=xs.length:=by rw [size_toArray]; exact r.length.symm
 refine ⟨"tuple",_,PyProof.Rows.slot_tuple_getitem.lookup,ht.typeIs,?_⟩
 refine HT.getItem_tuple_cut ht hs pl pu (by rw [hlen]; exact hw) ?_ (by rw [hlen]; exact hz)
 rw [hlen]
 refine ⟨.ref s.heap.objs.size,_,I.laid (t':=s.toks) (o:=.tup (cutV xs lo hi)) (fun b ob q=>qc _ q) (le_refl _) ?_,rfl,q _ (I.hok.fresh (le_refl _))⟩
 exact ⟨⟨le_trans (zc1 xs lo hi) hz,NoDc.new rfl (qd _ rfl)⟩,_,(r.drop (HT.sIx xs.length 0 lo)).take (HT.sIx xs.length xs.length hi - HT.sIx xs.length 0 lo),IsTup.new _ _⟩
noncomputable def rCatT (K:W.Frag):R2:=fun x y H Q=>∃ a b xs ys,x=.ref a/\y=.ref b/\SqT K H a xs/\SqT K H b ys/\xs≠[]/\xs.length + ys.length<=sizeLine/\
 (ys=[]->Q (.ref a) H)/\(ys≠[]->∀ p,H p=none->Q (.ref p) (upd H p (.tup (xs++ys))))
theorem Vals.nil_iff (r:Vals xs us):us=[]↔xs=[]:=by
 cases r with
 | nil=>simp
 | cons _ _=>simp
theorem zlD:OpR X (binaryOp .Add) (rCatT X.K):=by
 intro pins s U H x y v u Q I rx ry h
 obtain ⟨a,b,xs,ys,rfl,rfl,ha,hb,hx,hz,q1,q2⟩:=h
 cases rx
 cases ry
 obtain ⟨its,r1,p1,_⟩:=I.tuple ha
 obtain ⟨its2,r2,p2,_⟩:=I.tuple hb
 refine HT.cat_tup p1 p2 (fun z=>hx (r1.nil_iff.mp z)) (fun z=>⟨.ref a,H,I,rfl,q1 (r2.nil_iff.mp z)⟩) (fun z=>?_) (by rw [<- r1.length,<- r2.length]; exact hz)
 refine ⟨.ref s.heap.objs.size,_,I.laid (t':=s.toks) (o:=.tup (xs++ys)) (fun b ob q=>qc _ q) (le_refl _) ?_,rfl,q2 (fun w=>z (r2.nil_iff.mpr w)) _ (I.hok.fresh (le_refl _))⟩
 exact ⟨⟨by rw [length_append]; exact hz,NoDc.new rfl (qd _ rfl)⟩,_,r1.append r2,IsTup.new _ _⟩
end
end L2
namespace L2
open PySem PySem.Spec PyProof.Rows
noncomputable def ixN (n:Nat) (i:Int):Option Nat:=if 0<=i then (if i < n then some i.toNat else none) else if -(n:Int)<=i then some (i + n).toNat else none
noncomputable def atI {α:Type} (xs:List α) (i:Int):Option α:=(ixN xs.length i).bind fun j=>xs[j]?
theorem zeO (h:ixN n i=some j):seqIndex? i n=some j/\j < n/\-(n:Int)<=i/\i < n:=by
 unfold ixN at h
 by_cases h0:0<=i
 ·rw [if_pos h0] at h
  by_cases h1:i < n
  ·rw [if_pos h1] at h
   have e:i.toNat=j:=qg h
   exact ⟨by rw [seqIndex_of h0 h1,e],by lia,by lia,h1⟩
  ·rw [if_neg h1] at h; cases h
 ·rw [if_neg h0] at h
  by_cases h1:-(n:Int)<=i
  ·rw [if_pos h1] at h
   have e:(i + n).toNat=j:=qg h
   exact ⟨by rw [seqIndex_neg (by lia) h1,e],by lia,h1,by lia⟩
  ·rw [if_neg h1] at h; cases h
theorem zeZ (h:atI xs i=some v):∃ j,seqIndex? i xs.length=some j/\xs[j]?=some v/\j < xs.length/\-(xs.length:Int)<=i/\i < xs.length:=by
 unfold atI at h
 cases e:ixN xs.length i with
 | none=>rw [e] at h; cases h
 | some j=>
   rw [e] at h
   obtain ⟨h1,h2,h3,h4⟩:=zeO e
   exact ⟨j,h1,h,h2,h3,h4⟩
theorem zfw (xs:List α) (v:α):atI (xs++[v]) (-1)=some v:=by
 have hl:(xs++[v]).length=xs.length + 1:=by simp
 have e:ixN (xs++[v]).length (-1)=some xs.length:=by
  unfold ixN
  rw [hl,if_neg (by decide),if_pos (by lia)]
  congr 1
  lia
 unfold atI
 rw [e]
 show (xs++[v])[xs.length]?=some v
 simp
noncomputable def PlainIx (b:Expr):Prop:=∀ o i,subscripted b false o i=operate [o,i] (getItem o i)
noncomputable def IxR (X:Cx) (r:R2):Prop:=
 ∀ (value slice:Expr) (pins:List (Addr×Obj)) (s:Shared) (U:St) (H:Hp) (x y:V) (v u:Value) (Q:VK),Inv X pins U H s->RelV x v->RelV y u->r x y H Q->
   subscripted slice false v u=operate [v,u] (getItem v u)->wpAny (model X.prog X.w) X.A (subscriptTail value slice v u) (EP X pins U Q) X.xe s
noncomputable def MtR (X:Cx) (id:String) (r:V->List V->Hp->VK->Prop):Prop:=
 ∀ (pins:List (Addr×Obj)) (s:Shared) (U:St) (H:Hp) (x:V) (xs:List V) (v:Value) (us:List Value) (Q:VK),Inv X pins U H s->RelV x v->Vals xs us->r x xs H Q->
   wpAny (model X.prog X.w) X.A (call (.builtin id) (v::us)) (EP X pins U Q) X.xe s
section
variable {X:Cx} {a b:Expr} {ta tb:TE} {pos:Pos}
theorem IxR.or (h:IxR X r) (h':IxR X r'):IxR X (fun x y H Q=>r x y H Q\/r' x y H Q):=by
 intro value slice pins s U H x y v u Q I rx ry q hs
 rcases q with q | q
 ·exact h value slice pins s U H x y v u Q I rx ry q hs
 ·exact h' value slice pins s U H x y v u Q I rx ry q hs
theorem zkx (hr:IxR X r) (ha:PE X a ta) (hb:PE X b tb) (hs:PlainIx b):PE X (.Subscript a b pos) (tOp r ta tb):=by
 intro pins s U H Q I h
 exact Subscript_ (binT ha hb I h fun v u s2 x y H2 I2 rx ry q=>hr a b pins s2 U H2 x y v u Q I2 rx ry q (hs _ _))
noncomputable def rIxL (K:W.Frag):R2:=fun x y H Q=>∃ p xs i v,x=.ref p/\y=.int i/\SqL K H p xs/\atI xs i=some v/\Q v H
noncomputable def rIxT (K:W.Frag):R2:=fun x y H Q=>∃ p xs i v,x=.ref p/\y=.int i/\SqT K H p xs/\atI xs i=some v/\Q v H
noncomputable def rIxS:R2:=fun x y H Q=>∃ z i c,x=.str z/\y=.int i/\z.length<=sizeLine/\atI z.cps.toList i=some c/\Q (.str ⟨#[c]⟩) H
theorem zlx:IxR X (rIxL X.K):=by
 intro value slice pins s U H x y v u Q I rx ry h hs
 obtain ⟨p,xs,i,z,rfl,rfl,hq,he,q⟩:=h
 cases rx
 obtain ⟨t,rfl⟩:=ry
 obtain ⟨its,r,pl,hz⟩:=I.list hq
 obtain ⟨j,h1,h2,h3,h4,h5⟩:=zeZ he
 obtain ⟨w,ew,rw'⟩:=r.get h2
 have hl:=r.length
 have hn:=line63
 have fin:EP X pins U Q w s:=⟨z,H,I,rw',q⟩
 by_cases h0:0<=i
 ·have hj:i.toNat=j:=by
   rw [seqIndex_of h0 h5] at h1
   exact qg h1
  exact item_listR pl.isList h0 (by lia) (by rw [hj]; simpa using ew) fin hs
 ·have hj:(i + (its.toArray.size:Int)).toNat=j:=by
   rw [seqIndex_neg (by lia) h4] at h1
   rw [size_toArray,<- hl]
   exact qg h1
  exact subscriptTail_builtinR (x:=w) pl.isList.typeIs slot_list_getitem.lookup
   (wpAny_getItem_list_neg (Q:=fun r s'=>r=w/\EP X pins U Q r s') pl.isList (by lia) (by rw [size_toArray] <;> lia) (by lia) (by rw [hj]; simpa using ew) ⟨rfl,fin⟩) hs
theorem zm6:IxR X (rIxT X.K):=by
 intro value slice pins s U H x y v u Q I rx ry h hs
 obtain ⟨p,xs,i,z,rfl,rfl,hq,he,q⟩:=h
 cases rx
 obtain ⟨t,rfl⟩:=ry
 obtain ⟨its,r,pl,hz⟩:=I.tuple hq
 obtain ⟨j,h1,h2,h3,h4,h5⟩:=zeZ he
 obtain ⟨w,ew,rw'⟩:=r.get h2
 have hl:=r.length
 have hn:=line63
 have fin:EP X pins U Q w s:=⟨z,H,I,rw',q⟩
 exact subscriptTail_builtinR (x:=w) pl.typeIs slot_tuple_getitem.lookup
  (getItem_tuple (j:=j) (Q:=fun r s'=>r=w/\EP X pins U Q r s') pl (by lia) (by lia) (by rw [size_toArray,<- hl]; exact h1) (by simpa using ew) ⟨rfl,fin⟩) hs
theorem zmV:IxR X rIxS:=by
 intro value slice pins s U H x y v u Q I rx ry h hs
 obtain ⟨z,i,c,rfl,rfl,hz,he,q⟩:=h
 obtain ⟨t,rfl⟩:=rx
 obtain ⟨t',rfl⟩:=ry
 obtain ⟨j,h1,h2,h3,h4,h5⟩:=zeZ he
 have hl:z.cps.toList.length=z.length:=by simp [Str.length]
 rw [hl] at h1 h4 h5
 have hn:=line63
 exact tail_any (typeIs_str s z t) slot_str_getitem.lookup (getItem_str (c:=c) (by
  have e1:decide (i < -(2 ^ 63:Int))=false:=decide_eq_false (by lia)
  have e2:decide (i ≥ 2 ^ 63)=false:=decide_eq_false (by lia)
  rw [e1,e2,Bool.or_false]) (by rw [h1]; simpa using h2) ⟨.str ⟨#[c]⟩,H,I.tok _,⟨_,rfl⟩,q⟩) hs
noncomputable def rIx (K:W.Frag):R2:=fun x y H Q=>rIxL K x y H Q\/rIxT K x y H Q\/rIxS x y H Q
theorem zkp:IxR X (rIx X.K):=zlx.or (zm6.or zmV)
theorem zgP (its:List Value) (n j:Nat) (u:Value):Obj.mapSeq (·.setIfInBounds j u) { cls:=.type "list",data:=.seq its.toArray n }={ cls:=.type "list",data:=.seq (its.set j u).toArray n }:=by
 simp [Obj.mapSeq]
theorem Inv.lst (I:Inv X pins U H s) (h:H p=some (.lst xs)):
  ∃ (its:List Value) (n:Nat),Vals xs its/\s.heap.get? p=some { cls:=.type "list",data:=.seq its.toArray n }/\xs.length<=sizeLine:=by
 obtain ⟨z,its,n,r,e⟩:=I.hok p _ h
 exact ⟨its,n,r,e,z⟩
theorem Inv.lstUpd {its its':List Value} (I:Inv X pins U H s) (h:H p=some (.lst xs))
  (ho:s.heap.get? p=some { cls:=.type "list",data:=.seq its.toArray n }) (hf:f { cls:=.type "list",data:=.seq its.toArray n }={ cls:=.type "list",data:=.seq its'.toArray n' }) (r:Vals ys its') (hz:ys.length<=sizeLine) (t:Nat):
  Inv X pins U (upd H p (.lst ys)) { s with heap:=s.heap.update p f,toks:=t }:=by
 have e:(s.heap.update p f).get? p=some { cls:=.type "list",data:=.seq its'.toArray n' }:=by
  rw [Heap.get?_update_self f ho (by rw [hf] <;> rfl),hf]
 refine I.write (x:=p) (e:=p) (by rw [h]; trivial) (.inl rfl) (fun b u hb q=>(Heap.get?_update_other _ _ (Ne.symm hb)).trans q) ⟨_,e⟩ ?_
 exact ⟨hz,its',n',r,e⟩
noncomputable def rSetL:V->V->V->Hp->(Hp->Prop)->Prop:=fun o i v H Q=>∃ p xs k j,o=.ref p/\i=.int k/\H p=some (.lst xs)/\ixN xs.length k=some j/\Q (upd H p (.lst (xs.set j v)))
theorem ziX:PSet X rSetL:=by
 intro pins s U H o i v ov iv u Q I ro ri rv h
 obtain ⟨p,xs,k,j,rfl,rfl,hp,hj,q⟩:=h
 cases ro
 obtain ⟨t,rfl⟩:=ri
 obtain ⟨its,n,r,ho,hz⟩:=I.lst hp
 obtain ⟨h1,h2,h3,h4⟩:=zeO hj
 have hl:=r.length
 have hn:=line63
 have I':Inv X pins U (upd H p (.lst (xs.set j v))) { s with heap:=s.heap.update p (Obj.mapSeq (·.setIfInBounds j u)) }:=
  I.lstUpd hp ho (zgP its n j u) (r.set rv j) (by rw [List.length_set]; exact hz) s.toks
 by_cases h0:0<=k
 ·have hk:k.toNat=j:=by
   rw [seqIndex_of h0 h4] at h1
   exact qg h1
  exact W.ki_setAt ho h0 (by lia) (by rw [size_toArray,<- hl]; exact h4) (by rw [hk]; exact ⟨_,I',q⟩)
 ·have hk:(k + (its.toArray.size:Int)).toNat=j:=by
   rw [seqIndex_neg (by lia) h3] at h1
   rw [size_toArray,<- hl]
   exact qg h1
  exact W.ki_setBack ho (by lia) (by rw [size_toArray,<- hl]; exact h3) (by lia) (by rw [hk]; exact ⟨_,I',q⟩)
theorem zd2 (lo hi:Option Int) (n:Nat):(sliceBounds lo hi none n).1=((HT.sIx n 0 lo:Nat):Int)/\(sliceBounds lo hi none n).2.1=((HT.sIx n n hi:Nat):Int)/\(sliceBounds lo hi none n).2.2=1:=by
 have clip:∀ (i:Int) (n d:Nat),max 0 (min (if i < 0 then i + (n:Int) else i) (n:Int))=((HT.sIx n d (some i):Nat):Int):=fun i n d=>by
  show _=((if i < 0 then (i + (n:Int)).toNat else min i.toNat n:Nat):Int)
  split <;> lia
 refine ⟨?_,?_,rfl⟩
 ·cases lo with
  | none=>rfl
  | some i=>exact clip i n 0
 ·cases hi with
  | none=>rfl
  | some i=>exact clip i n n
theorem zdI (its:List Value) (lo hi:Option Int):slicePick its.toArray lo hi none=((its.drop (HT.sIx its.length 0 lo)).take (HT.sIx its.length its.length hi - HT.sIx its.length 0 lo)).toArray:=by
 obtain ⟨h1,h2,h3⟩:=zd2 lo hi its.toArray.size
 unfold slicePick
 rw [h1,h2,h3]
 simp only [sliceRange_one,pick_run,size_toArray] <;> rfl
noncomputable def rSlL (K:W.Frag):V->Option Int->Option Int->Hp->VK->Prop:=fun x lo hi H Q=>∃ a xs,x=.ref a/\SqL K H a xs/\∀ p,H p=none->Q (.ref p) (upd H p (.lst (cutV xs lo hi)))
theorem zk7:SlR X (rSlL X.K):=by
 intro pins s U H x v vl vu lo hi sl Q I rx hs pl pu h
 obtain ⟨a,xs,rfl,hx,q⟩:=h
 cases rx
 obtain ⟨its,r,ht,hz⟩:=I.list hx
 have hlen:=r.length
 refine ⟨"list",_,slot_list_getitem.lookup,ht.isList.typeIs,?_⟩
 refine wpAny_getItem_list_slice ht.isList hs pl pu .none (by simp) ?_ (by rw [size_toArray] <;> lia)
 rw [zdI,<- hlen]
 refine ⟨.ref s.heap.objs.size,_,I.laid (t':=s.toks) (o:=.lst (cutV xs lo hi)) (fun b ob q=>qc _ q) (le_refl _) ?_,rfl,q _ (I.hok.fresh (le_refl _))⟩
 exact ⟨le_trans (zc1 xs lo hi) hz,_,0,(r.drop (HT.sIx xs.length 0 lo)).take (HT.sIx xs.length xs.length hi - HT.sIx xs.length 0 lo),qd _ rfl⟩
theorem zel:CallR X (.builtin "len") (fun xs H Q=>∃ p ys,xs=[.ref p]/\(SqL X.K H p ys\/SqT X.K H p ys)/\Q (.int ys.length) H):=by
 intro pins s U H xs us Q I r h
 obtain ⟨p,ys,rfl,hq,q⟩:=h
 obtain ⟨u,rfl,rx⟩:=vals1 r
 cases rx
 have hn:=line63
 rcases hq with hq | hq
 ·obtain ⟨its,r',pl,hz⟩:=I.list hq
  have hlen:=r'.length
  exact Calls.call_len_list pl.isList (by simp only [size_toArray] <;> lia) ⟨.int ys.length,H,I.tok _,⟨s.toks + 1,by rw [size_toArray,hlen]⟩,q⟩
 ·obtain ⟨its,r',pl,hz⟩:=I.tuple hq
  have hlen:=r'.length
  exact len_tuple pl (by simp only [size_toArray] <;> lia) ⟨.int ys.length,H,I.tok _,⟨s.toks + 1,by rw [size_toArray,hlen]⟩,q⟩
theorem zdZ:CallR X (.builtin "len") (fun xs H Q=>∃ z,xs=[.str z]/\z.length<=sizeLine/\Q (.int z.length) H):=by
 intro pins s U H xs us Q I r h
 obtain ⟨z,rfl,hz,q⟩:=h
 obtain ⟨u,rfl,t,rfl⟩:=vals1 r
 have hn:=line63
 exact len_str (by lia) ⟨.int z.length,H,I.tok _,⟨_,rfl⟩,q⟩
theorem zdS:CallR X (.type "list") (fun xs H Q=>∃ p ys,xs=[.ref p]/\(SqL X.K H p ys\/SqT X.K H p ys)/\∀ l,H l=none->Q (.ref l) (upd H l (.lst ys))):=by
 intro pins s U H xs us Q I r h
 obtain ⟨p,ys,rfl,hq,q⟩:=h
 obtain ⟨u,rfl,rx⟩:=vals1 r
 cases rx
 have fin:∀ (its:List Value),Vals ys its->ys.length<=sizeLine->∀ (h':Heap) (c':Nat),(∀ b o',s.heap.get? b=some o'->h'.get? b=some o')->
   h'.get? s.heap.objs.size=some { cls:=.type "list",dict:=none,data:=.seq its.toArray c',slots:=#[] }->EP X pins U Q (.ref s.heap.objs.size) { s with heap:=h' }:=fun its r' hz h' c' kp e=>
  ⟨.ref s.heap.objs.size,_,I.laid (t':=s.toks) kp (le_refl _) (show ObjOk X.prog X.w _ h' _ (.lst ys) from ⟨hz,its,c',r',e⟩),rfl,q _ (I.hok.fresh (le_refl _))⟩
 rcases hq with hq | hq
 ·obtain ⟨its,r',pl,hz⟩:=I.list hq
  have hlen:=r'.length
  obtain ⟨o,ho,hc,n,hd⟩:=pl.isList
  exact call_list_seq p (.inl rfl) ho hc hd (fun h' c' kp e=>fin its r' hz h' c' kp e) (by simp only [size_toArray] <;> lia)
 ·obtain ⟨its,r',pl,hz⟩:=I.tuple hq
  have hlen:=r'.length
  obtain ⟨o,ho,hc,n,hd⟩:=pl
  exact call_list_seq p (.inr rfl) ho hc hd (fun h' c' kp e=>fin its r' hz h' c' kp e) (by simp only [size_toArray] <;> lia)
theorem zdu:CallR X (.type "tuple") (fun xs H Q=>∃ p ys,xs=[.ref p]/\((SqL X.K H p ys/\∀ l,H l=none->Q (.ref l) (upd H l (.tup ys)))\/(SqT X.K H p ys/\Q (.ref p) H))):=by
 intro pins s U H xs us Q I r h
 obtain ⟨p,ys,rfl,h⟩:=h
 obtain ⟨u,rfl,rx⟩:=vals1 r
 cases rx
 rcases h with ⟨hq,q⟩ | ⟨hq,q⟩
 ·obtain ⟨its,r',pl,hz⟩:=I.list hq
  have hlen:=r'.length
  refine call_tuple_list pl.isList (fun h' kp=>?_) (by simp only [size_toArray] <;> lia)
  have I1:Inv X pins U H { s with heap:=h' }:=I.kept (t':=s.toks) kp
  have I2:Inv X pins U (upd H h'.objs.size (.tup ys)) { s with heap:=h'.push { cls:=.type "tuple",data:=.seq its.toArray } }:=
   I1.laid (t':=s.toks) (fun b o e=>qc _ e) (le_refl _) (show ObjOk X.prog X.w _ _ _ (.tup ys) from ⟨⟨hz,NoDc.new rfl (qd _ rfl)⟩,its,r',IsTup.new _ _⟩)
  exact ⟨.ref h'.objs.size,_,I2,rfl,q _ (I1.hok.fresh (le_refl _))⟩
 ·obtain ⟨its,r',pl,hz⟩:=I.tuple hq
  exact call_tuple_same pl ⟨.ref p,H,I,rfl,q⟩
noncomputable def tyV (K:W.Frag) (T:String) (x:V) (H:Hp):Prop:=match x with
 | .str _=>T="str"
 | .int _=>T="int"
 | .ref p=>(T="list"/\∃ xs,SqL K H p xs)\/(T="tuple"/\∃ o,K.lookup p=some o/\o.cls=.type "tuple"/\o.dict=none)\/
   (T="dict"/\((∃ kvs,H p=some (.dK kvs))\/∃ kvs,H p=some (.dT kvs)))
 | _=>False
theorem zmy (I:Inv X pins U H s) (r:RelV x v) (ty:tyV X.K T x H):
  s.TypeIs v T/\∀ a,v=.ref a->∃ ob,s.heap.get? a=some ob/\ob.dict=none:=by
 cases x with
 | str z=>
   obtain ⟨t,rfl⟩:=r
   cases (show T="str" from ty)
   exact ⟨typeIs_str s z t,fun _ e=>nomatch e⟩
 | int i=>
   obtain ⟨t,rfl⟩:=r
   cases (show T="int" from ty)
   exact ⟨typeIs_int s i t,fun _ e=>nomatch e⟩
 | ref p=>
   cases r
   rcases ty with ⟨rfl,xs,hq⟩ | ⟨rfl,o,hk,hc,hd⟩ | ⟨rfl,hk⟩
   ·obtain ⟨its,_,pl,_⟩:=I.list hq
    refine ⟨pl.isList.typeIs,fun a e=>?_⟩
    cases e
    obtain ⟨o,n,e,c,hd,_⟩:=pl
    exact ⟨o,e,hd⟩
   ·refine ⟨⟨o,I.kIn p o hk,hc⟩,fun a e=>?_⟩
    cases e
    exact ⟨o,I.kIn _ o hk,hd⟩
   ·have z:∃ o,s.heap.get? p=some o/\o.ExactDict:=by
     rcases hk with ⟨kvs,hk⟩ | ⟨kvs,hk⟩
     ·obtain ⟨_,_,_,_,o,_,_,e,ex,_⟩:=I.hok p _ hk
      exact ⟨o,e,ex⟩
     ·obtain ⟨_,_,_,_,o,_,_,e,ex,_⟩:=I.hok p _ hk
      exact ⟨o,e,ex⟩
    obtain ⟨o,e,ex⟩:=z
    refine ⟨⟨o,e,ex.1⟩,fun a e2=>?_⟩
    cases e2
    exact ⟨o,e,ex.2.1⟩
 | _=>exact False.elim ty
noncomputable def tBM (K:W.Frag) (T:String) (r:V->List V->Hp->VK->Prop) (to:TE) (t:TA):TE:=fun U H Q=>to U H fun x H1=>tyV K T x H1/\t U H1 fun xs H2=>r x xs H2 Q
variable {o e:Expr} {es:List Expr} {to:TE} {t:TA} {name:Str} {apos cpos:Pos} {T id:String} {r:V->List V->Hp->VK->Prop}
theorem zi3 (pa:PlainAttrs T) (slot:Slot T name id) (hty:typeOf (.builtin id)=pure (.type "method_descriptor")) (hm:MtR X id r) (ho:PE X o to) (ha:PA X (e::es) t)
  (hbase:attributeBase o name X.env (eval o X.env)=eval o X.env:=by rfl)
  (hfew:((backTo cpos (starEach (e::es) X.env)).all (fun x=>!x.1) && (backToKw cpos (keywordEach [] X.env)).all (fun x=>x.1.isSome)
   && decide ((e::es).length + ([]:List Keyword).length + (if ([]:List Keyword).isEmpty then 0 else 1) < 30))=true:=by rfl)
  (hline:(apos.endLine == cpos.line)=true:=by rfl) (hs:starEach (e::es) X.env=(false,eval e X.env)::starEach es X.env:=by rfl) (hplain:(backTo cpos (starEach es X.env)).any (·.1)=false:=by rfl):
  PE X (.Call (.Attribute o name apos) (e::es) [] cpos) (tBM X.K T r to t):=by
 intro pins s U H Q I h
 refine wpAny_Call_method_late hbase hfew hline rfl (thn (ho pins s U H _ I h) fun v s1 zq=>?_)
 obtain ⟨x,H1,I1,r1,ty,q1⟩:=zq
 obtain ⟨h1,h2⟩:=zmy I1 r1 ty
 refine ⟨T,id,pa,slot,hty,h1,h2,?_⟩
 have hA:=ha cpos pins s1 U H1 _ I1 q1
 rw [hs] at hA ⊢
 refine Calls.callWith_builtin (by show (false || (backTo cpos (starEach es X.env)).any (·.1))=false; rw [hplain] <;> rfl) (Calls.evalArgs_plain ?_)
 exact thn hA fun us s2 ⟨vs,H2,I2,r2,q2⟩=>hm pins s2 U H2 x vs v us Q I2 r1 r2 q2
end
end L2
namespace L2
open PySem PySem.Spec PyProof.Rows
noncomputable def MtM (X:Cx) (id:String) (r:V->List V->Hp->VK->Prop):Prop:=
 ∀ (pins:List (Addr×Obj)) (s:Shared) (U:St) (H:Hp) (x:V) (xs:List V) (v:Value) (us:List Value) (Q:VK),Inv X pins U H s->RelV x v->Vals xs us->r x xs H Q->
   wpAny (model X.prog X.w) X.A (call (.builtin id) (v::us)) (EP X pins U Q) X.xe s
theorem Vals.one:∀ {x:V} {us:List Value},Vals [x] us->∃ u,us=[u]/\RelV x u:=by
 intro x us h
 cases h with
 | cons r t=>cases t; exact ⟨_,rfl,r⟩
theorem Vals.eraseIdx:∀ {xs:List V} {us:List Value} (i:Nat),Vals xs us->Vals (xs.eraseIdx i) (us.eraseIdx i)
 | _,_,_,.nil=>.nil
 | _,_,0,.cons _ t=>t
 | _,_,i + 1,.cons r t=>.cons r (Vals.eraseIdx i t)
theorem zd4 {α:Type}:∀ (l:List α) (i:Nat),(l.eraseIdx i).length<=l.length
 | [],_=>le_refl _
 | _::_,0=>le_succ _
 | _::r,i + 1=>Nat.succ_le_succ (zd4 r i)
section
variable {X:Cx} {pins:List (Addr×Obj)} {U:St} {H:Hp} {s:Shared} {l b:Addr} {xs ys zs:List V}
theorem Inv.lset {its its':List Value} (I:Inv X pins U H s) (hH:H l=some (.lst xs))
  (e:s.heap.get? l=some { cls:=.type "list",data:=.seq its.toArray n }) (hf:f its.toArray=its'.toArray) (hv:Vals ys its') (hz:ys.length<=sizeLine):
  Inv X pins U (upd H l (.lst ys)) { s with heap:=s.heap.update l (Obj.mapSeq f),toks:=t' }:=by
 have q:=PySem.IsL.update e f
 rw [hf] at q
 refine I.write (x:=l) (e:=l) (by rw [hH]; exact trivial) (.inl rfl) (fun b' u hb hu=>(Heap.get?_update_other s.heap (Obj.mapSeq f) (Ne.symm hb)).trans hu) ⟨_,q⟩ ?_
 exact ⟨hz,its',_,hv,q⟩
theorem Inv.lnew (I:Inv X pins U H s) (hv:Vals ys its) (hz:ys.length<=sizeLine):
  Inv X pins U (upd H s.heap.objs.size (.lst ys)) { s with heap:=s.heap.push { cls:=.type "list",data:=.seq its.toArray },toks:=t' }:=
 I.laid (fun _ _ q=>qc _ q) (le_refl _) ⟨hz,its,0,hv,qd _ rfl⟩
theorem Inv.fresh (I:Inv X pins U H s):H s.heap.objs.size=none:=I.hok.fresh (le_refl _)
theorem Inv.lstM (I:Inv X pins U H s) (hH:H l=some (.lst xs)):xs.length<=sizeLine/\∃ (its:List Value) (n:Nat),Vals xs its/\xs.length=its.length/\s.heap.get? l=some { cls:=.type "list",data:=.seq its.toArray n }:=by
 obtain ⟨z,its,n,r,e⟩:=I.hok l _ hH
 exact ⟨z,its,n,r,r.length,e⟩
end
section
variable {X:Cx}
noncomputable def rAppend:V->List V->Hp->VK->Prop:=fun x vs H Q=>∃ l xs y,x=.ref l/\vs=[y]/\H l=some (.lst xs)/\xs.length < sizeLine/\Q .non (upd H l (.lst (xs++[y])))
theorem zcT:MtM X "list.append" rAppend:=by
 intro pins s U H x vs v us Q I rx rv h
 obtain ⟨l,xs,y,rfl,rfl,hH,hz,q⟩:=h
 cases rx
 obtain ⟨u,rfl,ru⟩:=rv.one
 obtain ⟨z,its,n,r,hl,e⟩:=I.lstM hH
 refine call_meets F.slot_list_append ⟨_,e,rfl⟩ F.entry_list_append (F.args_list_append_2 _ _) (PySem.list_append l its.toArray n u (by rw [size_toArray]; lia)) ⟨e,?_⟩
 refine ⟨.non,_,I.lset (its':=its++[u]) hH e (by simp) (r.append (.cons ru .nil)) ?_,rfl,q⟩
 rw [length_append,length_singleton]
 lia
noncomputable def rPopAt:V->List V->Hp->VK->Prop:=fun x vs H Q=>∃ l xs i k y,x=.ref l/\vs=[.int i]/\H l=some (.lst xs)/\-(2 ^ 63)<=i/\i < 2 ^ 63/\seqIndex? i xs.length=some k/\xs[k]?=some y/\Q y (upd H l (.lst (xs.eraseIdx k)))
theorem zj5:MtM X "list.pop" rPopAt:=by
 intro pins s U H x vs v us Q I rx rv h
 obtain ⟨l,xs,i,k,y,rfl,rfl,hH,h1,h2,hk,hy,q⟩:=h
 cases rx
 obtain ⟨u,rfl,ru⟩:=rv.one
 obtain ⟨t,rfl⟩:=ru
 obtain ⟨z,its,n,r,hl,e⟩:=I.lstM hH
 obtain ⟨w,hw,rw'⟩:=r.get hy
 refine call_meets F.slot_list_pop ⟨_,e,rfl⟩ F.entry_list_pop (F.args_list_pop_2 _ _)
  (MeetsSeq.list_pop_at l its.toArray n i t k w (fitsIndex_both h1 h2) (by rw [size_toArray,<- hl]; exact hk) (by rw [<- getElem?_toList]; exact hw) (by rw [size_toArray]; lia)) ⟨e,?_⟩
 refine ⟨y,_,I.lset (its':=its.eraseIdx k) hH e ?_ (r.eraseIdx k) ?_,rw',q⟩
 ·show its.toArray.eraseIdxIfInBounds k=(its.eraseIdx k).toArray
  rw [List.eraseIdxIfInBounds_toArray]
 ·have:=zd4 xs k
  lia
end
end L2
end
section
namespace Att
open PySem PySem.W PySem.Calls PyProof.Rows
theorem zcM:∀ (ns:List Int) (vs:List Value),WellAll P h vs (ns.map WData.int)->IntsAre vs ns:=by
 intro ns
 induction ns with
 | nil=>
   intro vs w
   rw [map_nil] at w
   cases w
   exact .nil
 | cons n ns ih=>
   intro vs w
   rw [map_cons] at w
   cases w with
   | cons a b=>
     cases a
     exact .cons _ _ (ih _ b)
theorem zir {l:OpenLaw} (hn:l.most=some n)
  (hpre:l.row.toRowW.claim.pre args=true) (hwl:WellAll P h vals args):
  ∃ a vs ns,vals=[Value.ref a]/\args=[WData.list (ns.map WData.int)]/\h.get? a=some { cls:=.type "list",data:=.seq vs.toArray }/\IntsAre vs ns/\ns.length<=n:=by
 have hsh:WShape.hasAll [] args [.list .int]=true:=(pre_splitW hpre).1
 have hc:l.pre.holds [] { args:=args }=true:=(pre_splitW hpre).2
 obtain ⟨d,r,rfl,h1,h2⟩:=hasAllW_cons hsh
 obtain rfl:=hasAllW_nil h2
 obtain ⟨xs,rfl,h3⟩:=hasW_list h1
 obtain ⟨ns,rfl⟩:=items_int h3
 have hlen:ns.length<=n:=by
  unfold OpenLaw.pre at hc
  have h4:(WTm.not (.lt (.lit (.int (n:Int))) (.len (.arg 0)))).holds [] { args:=[.list (ns.map .int)] }=true:=by
   have h4:=(holds_andW hc).1
   rw [hn] at h4
   exact h4
  have h5:=condW_of h4 (w_not (w_lt w_lit (w_len_list (w_arg rfl))))
  grind
 cases hwl with
 | cons w1 w2=>
   cases w2
   cases w1 with
   | list ho hall=>exact ⟨_,_,ns,rfl,rfl,ho,zcM ns _ hall,hlen⟩
theorem zhB (l:OpenLaw) (args:List WData):l.row.toRowW.claim.post args (.bool true) args=true:=
 postW_of (r:=l.row.toRowW) (X:=(true == true))
  (show WShape.has [] (.bool true) .bool=true by first | rfl | decide | simp [WShape.has,WShape.arms,WShape.armsAll])
  (show (WTm.eq .res (.lit (.bool true))).value [] { args:=args,res:=some (.bool true),after:=args }=some (.bool (true == true)) from w_eq_bool (w_res rfl) w_lit) rfl
theorem attach_call {l:OpenLaw}
  (hn:l.most=some n) (hdf:d.params.defaults=[])
  (call:∀ (w:World) (s₀ s₁:Shared) (mg mb:Str->Option Value) (fa:Addr) (o:Obj) (pm cd doc:Value) (a:Addr) (vs:List Value) (ns:List Int),
   Ground q loose [] XP w s₀ mg mb s₁.heap->YP w s₁.heap->
   s₁.heap.get? fa=some o->o.data=.func (docDef d.name d.params d.body d.scope pm cd doc)->s₁.heap.CodeRec cd d.name->mg d.name=some (.ref fa)->
   s₁.heap.get? a=some { cls:=.type "list",data:=.seq vs.toArray }->IntsAre vs ns->ns.length<=n->s₁.gens=#[]->
   codeAny (model l.prog w) callerA (.call (.ref fa) ⟨[.ref a],[]⟩) (fun r s'=>r=.ok (.ret (.bool true))/\OldK s₁.heap s'.heap/\s'.os=s₁.os/\AllBare s'.gens) s₁):
  WalkO q loose XP YP l.row.toRowW d [] (fun f vs=>PySem.call f vs):=by
 intro w s₀ s₁ mg mb G Y fa o pm cd doc dV kV ho hd hcd hD hmg hg args vals as hpre hlay hrd hwl hlo
 obtain rfl:dV=.none:=Dflts.none hD hdf
 obtain rfl:kV=.none:=Dflts.noKw hD
 obtain ⟨a,vs,ns,rfl,rfl,hobj,hints,hlen⟩:=zir hn hpre hwl
 refine enter_call (codeAny_mono (call w s₀ s₁ mg mb fa o pm cd doc a vs ns G Y ho (fd_plain hd) hcd hmg hobj hints hlen hg) fun r s' hq=>?_)
 obtain ⟨rfl,h2,h3,h4⟩:=hq
 exact ⟨.inl ⟨.bool true,.bool true,[],rfl,fun _=>rfl,.bool true,zhB l _,fun _=>⟨List.Pairwise.nil,fun _ hm=>(nomatch hm)⟩⟩,h2,h3,h4⟩
end Att
namespace L2
open PySem PySem.Spec PyProof.Rows
theorem zbe:∀ {vs:List Value} {ns:List Int},IntsAre vs ns->Vals (ns.map V.int) vs
 | _,_,.nil=>.nil
 | _,_,.cons n t h=>.cons ⟨t,rfl⟩ (zbe h)
noncomputable def Only (H:Hp):Prop:=∀ b,H b=none\/∃ o xs,H b=some (.frz o (.lst xs))
theorem zjy {K:W.Frag}
  (KX:K.In s₁.heap) (hns:s₁.heap.Ns mainGlobals mg) (hb:s₁.heap.Ns builtinsNs mb) (hbb:∀ x:Str,x≠"__name__"->mb x=bootBuiltins x) (hlim:s₁.heap.NoLimit) (hg:s₁.gens=#[])
  (ha:s₁.heap.get? a=some { cls:=.type "list",data:=.seq vs.toArray }) (hi:IntsAre vs ns) (hl:ns.length<=sizeLine) (hr:Room k callerA)
  (F:∀ base:Heap,K.In base->base.Ns mainGlobals mg->FnOk P w K mg base CX k fa fd [x] sp) (hbind:∀ (s:Shared) (u:Value),BindsTo s fd ⟨[u],[]⟩ [(x,u)])
  (hsp:∀ H:Hp,Only H->SqL K H a (ns.map V.int)->sp [.ref a] H (fun v _=>v=.bl true) fun _ _ _=>False)
  (hCX:∀ H e s',CX [] H s₁ (fun _ _ _=>False) e s'->False):
  codeAny (model P w) callerA (.call (.ref fa) ⟨[.ref a],[]⟩) (fun r s'=>r=.ok (.ret (.bool true))/\OldK s₁.heap s'.heap/\s'.os=s₁.os/\AllBare s'.gens) s₁:=by
 have rv:=zbe hi
 have lenV:=hi.length
 -- from an abstract heap in which nothing but the script may be tracked
 have core:∀ H:Hp,Only H->SqL K H a (ns.map V.int)->HOk P w H s₁.heap->(∀ b,H b≠none->b=a)->(H a≠none->K.lookup a=none)->
   codeAny (model P w) callerA (.call (.ref fa) ⟨[.ref a],[]⟩) (fun r s'=>r=.ok (.ret (.bool true))/\OldK s₁.heap s'.heap/\s'.os=s₁.os/\AllBare s'.gens) s₁:=by
  intro H hO hS hok hA hK
  have base_of:∀ {b:Addr} {o:Obj},s₁.heap.get? b=some o->H b=none->(hidT s₁.heap H).get? b=some o:=fun e n=>zkd e n
  have noA:∀ {b:Addr} {o:Obj} {es:Array DictEntry} {ep:Nat},s₁.heap.get? b=some o->o.data=.dict es ep->H b=none:=fun {b o es ep} e d=>by
   cases q:H b with
   | none=>rfl
   | some u=>
     grind
  have nsK:∀ {b:Addr} {m:Str->Option Value},s₁.heap.Ns b m->(hidT s₁.heap H).Ns b m:=fun {b m} ⟨o,es,ep,e,d,r⟩=>⟨o,es,ep,base_of e (noA e d),d,r⟩
  have hKb:K.In (hidT s₁.heap H):=fun b o e=>base_of (KX b o e) (by
   cases q:H b with
   | none=>rfl
   | some u=>
     have e':b=a:=hA b (by rw [q]; simp)
     subst e'
     rw [hK (by rw [q]; simp)] at e; cases e)
  have hM:Mod K mg (hidT s₁.heap H):=⟨hKb,nsK hns,⟨mb,nsK hb,hbb⟩,let ⟨mc,h1,h2⟩:=hlim; ⟨mc,nsK h1,h2⟩⟩
  have e0:Env0 P w K mg (hidT s₁.heap H) callerA [] s₁ H:=⟨rfl,hM,fun b o e=>zld e,Nat.le_of_eq (zhl _ _),trivial,fun b hb=>absurd (show b∈([]:List Addr) from hb) (by simp),hok,.of_eq hg⟩
  refine codeAny_mono ((F _ hKb (nsK hns)).run callerA [] s₁ H ⟨[.ref a],[]⟩ [.ref a] [.ref a] _ _ hr e0 (hbind s₁ (.ref a)) (.cons rfl .nil) (hsp H hO hS)) fun r s' h=>?_
  cases r with
  | error e=>exact (hCX H e s' h).elim
  | ok fl=>
    cases fl with
    | next=>exact False.elim h
    | brk=>exact False.elim h
    | cont=>exact False.elim h
    | ret u=>
      obtain ⟨v,H',os,bare,un,hok',r',q⟩:=h
      have q':v=.bl true:=q
      subst q'
      obtain rfl:u=Value.bool true:=r'
      refine ⟨rfl,OldK.of_keep fun b o e=>?_,os,bare⟩
      cases q:H b with
      | none=>exact un.keep b o e q (by intro z; exact absurd (show b∈([]:List Addr) from z) (by simp)) (by simp)
      | some u=>
        rcases hO b with z | ⟨ob,xs,z⟩
        ·rw [q] at z; cases z
        ·have z2:=un.frzs b ob _ z
         obtain ⟨e1,_⟩:=hok b _ z
         obtain ⟨e2,_⟩:=hok' b _ z2
         rw [e] at e1; cases e1
         exact e2
 cases hk:K.lookup a with
 | some o=>
   -- the script is one of the module's own objects
   have e:=KX a o hk
   rw [ha] at e
   cases e
   refine core (fun _=>none) (fun _=>.inl rfl) (.inr ⟨_,vs.toArray,_,hk,rfl,rfl,rfl,by rw [size_toArray,lenV]; exact hl,by simpa using rv⟩) (fun b u z=>by have z':(none:Option HO)=some u:=z; cases z') (fun b z=>absurd rfl z) fun z=>absurd rfl z
 | none=>
   refine core (fun b=>if b=a then some (.frz { cls:=.type "list",data:=.seq vs.toArray } (.lst (ns.map V.int))) else none) (fun b=>?_) (.inl (.inr ⟨{ cls:=.type "list",data:=.seq vs.toArray },if_pos rfl⟩)) (fun b u z=>?_) (fun b z=>?_) fun _=>hk
   ·grind
   ·by_cases hb:b=a
    ·have z':=(if_pos hb).symm.trans z
     cases z'
     subst hb
     exact ⟨ha,by rw [length_map]; exact hl,vs,_,rv,ha⟩
    ·have z':=(if_neg hb).symm.trans z
     cases z'
   grind
end L2
namespace L2
open PySem PySem.Spec PyProof.Rows
theorem walk_of {l:W.OpenLaw} {K:Params->W.Frag} {CX:World->CXT} {sp:World->Sp}
  (hn:l.most=some n) (hn2:n<=sizeLine) (hdf:d.params.defaults=[]) (hr:Room k callerA)
  (hY:∀ (w:World) (h:Heap),YP w h->(K w.params).In h)
  (F:∀ (w:World) (mg:Str->Option Value) (fa:Addr) (h:Heap),(K w.params).In h->h.Ns mainGlobals mg->mg d.name=some (.ref fa)->
   ∃ fd:FuncData,(∀ (s:Shared) (u:Value),BindsTo s fd ⟨[u],[]⟩ [(x,u)])/\
     ∀ base:Heap,(K w.params).In base->base.Ns mainGlobals mg->FnOk l.prog w (K w.params) mg base (CX w) k fa fd [x] (sp w))
  (hsp:∀ (w:World) (H:Hp) (a:Addr) (ns:List Int),ns.length<=n->Only H->SqL (K w.params) H a (ns.map V.int)->sp w [.ref a] H (fun v _=>v=.bl true) fun _ _ _=>False)
  (hCX:∀ (w:World) (H:Hp) (s:Shared) (e:Value) (s':Shared),CX w [] H s (fun _ _ _=>False) e s'->False):
  W.WalkO q loose XP YP l.row.toRowW d [] (fun f vs=>PySem.call f vs):=by
 refine Att.attach_call hn hdf fun w s₀ s₁ mg mb fa o pm cd doc a vs ns G Y ho hd hcd hmg hobj hints hlen hg=>?_
 have KX:=hY w _ Y
 obtain ⟨fd,hb,hF⟩:=F w mg fa _ KX G.T.g hmg
 exact zjy KX G.T.g G.T.b G.T.builtins G.T.nolimit hg hobj hints (le_trans hlen hn2) hr hF hb (fun H hO hS=>hsp w H a ns hlen hO hS) fun H e s'=>hCX w H s₁ e s'
end L2
namespace L2
open PySem PySem.Spec PyProof.Rows
noncomputable def defArgs (s:Stmt):Arguments:=match s with
 | .FunctionDef _ a _ _ _ _ _ _ _ _=>a
 | _=>{ posonlyargs:=[],args:=[],vararg:=none,kwonlyargs:=[],kw_defaults:=[],kwarg:=none,defaults:=[] }
noncomputable def defBody (s:Stmt):List Stmt:=match s with
 | .FunctionDef _ _ b _ _ _ _ _ _ _=>b
 | _=>[]
noncomputable def defScope (s:Stmt):Scope:=match s with
 | .FunctionDef _ _ _ _ _ _ sc _ _ _=>sc
 | _=>{ kind:=.function,names:=[],isGenerator:=false,isCoroutine:=false }
structure Fun (K:W.Frag) (x qual:Str) (st:Stmt) (f:Addr) (fd:FuncData):Prop where
 ex:∃ (oc:Value) (od:Option Addr) (kV doc pm:Value) (an:Option Addr) (cdv ct:Value) (osl:Array (Option Value)),
  fd=W.fnOf x qual (defArgs st) (defBody st) (defScope st) .none kV doc pm an cdv ct/\K.lookup f=some ⟨oc,od,.func fd,osl⟩/\W.codeIn K cdv qual=true
 kp:W.keepIn K (.ref f)=true
section
variable {P:Program} {w:World} {K:W.Frag} {mg:Str->Option Value} {base:Heap}
theorem Fun.binds {st:Stmt} (F:Fun K x qual st f fd)
  (h:∀ (kV doc pm:Value) (an:Option Addr) (cdv ct:Value) (us:List Value),us.length=ps.length->bindArgs (W.fnOf x qual (defArgs st) (defBody st) (defScope st) .none kV doc pm an cdv ct) ⟨us,[]⟩=pure (ps.zip us)):Binds K fd ps []:=by
 obtain ⟨oc,od,kV,doc,pm,an,cdv,ct,osl,rfl,lk,hcd⟩:=F.ex
 exact .all (h kV doc pm an cdv ct)
theorem zoa {st:Stmt} {kV doc pm cdv ct:Value} (l:K.lookup f=some ⟨oc,od,.func (W.fnOf x qual (defArgs st) (defBody st) (defScope st) .none kV doc pm an cdv ct),osl⟩)
  (c:W.codeIn K cdv qual=true) (k:W.keepIn K (.ref f)=true):Fun K x qual st f (W.fnOf x qual (defArgs st) (defBody st) (defScope st) .none kV doc pm an cdv ct):=⟨⟨oc,od,kV,doc,pm,an,cdv,ct,osl,rfl,l,c⟩,k⟩
end
theorem zfd (hr:Room k A):A.units + 1 < cLine:=Nat.lt_of_le_of_lt (Nat.add_le_add_left (by decide:1<=64) _) hr.units
noncomputable def Same (H H':Hp):Prop:=∀ b o,H b=some o->H' b=some o
theorem Same.refl (H:Hp):Same H H:=fun _ _ h=>h
theorem Same.trans (a:Same H H1) (b:Same H1 H2):Same H H2:=fun c o h=>b c o (a c o h)
end L2
end
section
namespace L2
open PySem PySem.Spec PyProof.Rows
section
variable {M:Model} {A:Around} {E:Value->Shared->Prop} {s:Shared}
structure Left (fs:List Addr) (e:Addr) (cls:Value) (dx:Option Addr) (a0:Option Value) (T:Addr) (h h':Heap):Prop where
 new:h.objs.size<=T
 keep:∀ b o,b∉fs->b≠e->h.get? b=some o->h'.get? b=some o
 slot:∀ b o,b∈fs->b≠e->h.get? b=some o->∃ sl,h'.get? b=some { o with slots:=sl }
 rcd:∃ oe vs,h'.get? e=some oe/\oe.cls=cls/\oe.dict=dx/\oe.data=.fields vs/\vs[0]?=a0/\vs[1]?=some (.ref T)
 trc:∃ oT ts,h'.get? T=some oT/\oT.data=.fields ts/\ts[3]?=some .none
theorem Obj.dict_mapFields (o:Obj) (f:Array Value->Array Value):(o.mapFields f).dict=o.dict:=by
 unfold Obj.mapFields; split <;> rfl
theorem zeo {base:Heap} {env:Env} {outer:List Env} {L e:Addr} {oe:Obj} {vs:Array Value} {head:Value} {hadNext:Bool} {Q:Unit->Shared->Prop}
  (hfr:A.frames=some (env::outer)) (hl:s.heap.FunFrames base (env::outer)) (hf:env.frame=some L) (he:s.heap.get? e=some oe) (hd:oe.data=.fields vs) (hsz:1 < vs.size)
  (h:∀ h' T,Left (frs (env::outer)) e oe.cls oe.dict vs[0]? T s.heap h'->Q () { s with heap:=h' }):
  wpAny M A (do let a <- frameOf env; let pl <- entryPlaceOf L hadNext; let b <- EntryCells.newEntry head a .none (rawInt L) .none pl; setField (.ref e) 1 b) (fun _ s'=>wpAny M A (setFlight (.ref e) none) Q E s') E s:=by
 have hene:e∉frs (env::outer):=fun hm=>by
  obtain ⟨_,o,ho,hnf⟩:=hl.mem hm
  rw [he] at ho; injection ho with ho; subst ho; exact hnf vs hd
 refine qa (wpAny_frameOf_fun hfr hl hf fun h₁ hs₁=>?_)
 refine qa (wpAny_entryPlaceOf fun pl hpl=>?_)
 unfold EntryCells.newEntry newFields
 refine qa (wpAny_newObj_type ?_ (hpl.sizeOk5 _ _ _ _ _))
 have he₁:h₁.get? e=some oe:=(hs₁.2.1 e hene).trans he
 have he₂:=qc (h:=h₁) { cls:=.type "traceback",dict:=none,data:=.fields ([head,.ref L,.none,rawInt L,.none]++(if pl.isEmpty then List.replicate 6 Value.none else pl)).toArray } he₁
 refine wpAny_setField he₂ hd hsz ?_
 have hTe:h₁.objs.size≠e:=ne_of_gt (qe he₁)
 have hd₃:=Obj.data_mapFields hd (·.setIfInBounds 1 (Value.ref h₁.objs.size))
 have he₃:=Heap.get?_update_self (Obj.mapFields (·.setIfInBounds 1 (Value.ref h₁.objs.size))) he₂ (Obj.isFreed_of_fields hd₃)
 have hT₃:=(Heap.get?_update_other (h₁.push { cls:=.type "traceback",dict:=none,data:=.fields ([head,.ref L,.none,rawInt L,.none]++(if pl.isEmpty then List.replicate 6 Value.none else pl)).toArray })
  (Obj.mapFields (·.setIfInBounds 1 (Value.ref h₁.objs.size))) (Ne.symm hTe)).trans (qd h₁ rfl)
 unfold setFlight
 refine qa (wpAny_field he₃ hd₃ (x:=.ref h₁.objs.size) (by simp [hsz]) ?_)
 rw [if_pos (show (Value.ref h₁.objs.size !=Value.none)=true from by simp)]
 refine wpAny_setField hT₃ rfl (by simp only [size_toArray,length_append,length_cons,length_nil] <;> omega) (h _ h₁.objs.size ?_)
 have keep:∀ b o,b≠e->h₁.get? b=some o->
   (((h₁.push { cls:=.type "traceback",dict:=none,data:=.fields ([head,.ref L,.none,rawInt L,.none]++(if pl.isEmpty then List.replicate 6 Value.none else pl)).toArray }).update e (Obj.mapFields (·.setIfInBounds 1 (Value.ref h₁.objs.size)))).update h₁.objs.size
     (Obj.mapFields (·.setIfInBounds 3 ((none:Option Addr).elim Value.none fun f=>rawInt f)))).get? b=some o:=fun b o hbe hb=>by
  have hbT:h₁.objs.size≠b:=ne_of_gt (qe hb)
  rw [Heap.get?_update_other _ _ hbT,Heap.get?_update_other _ _ (Ne.symm hbe)]
  exact qc _ hb
 refine ⟨by rw [hs₁.1]; exact le_refl _,fun b o hb hbe q=>keep b o hbe ((hs₁.2.1 b hb).trans q),fun b o _ hbe q=>?_,?_,?_⟩
 ·obtain ⟨sl,hs⟩:=hs₁.2.2 b o q
  exact ⟨sl,keep b _ hbe hs⟩
 ·refine ⟨_,_,?_,Obj.cls_mapFields _ _,Obj.dict_mapFields _ _,hd₃,by rw [Array.getElem?_setIfInBounds_ne (by decide)],by simp [hsz]⟩
  rw [Heap.get?_update_other _ _ hTe]; exact he₃
 ·exact ⟨_,_,Heap.get?_update_self _ hT₃ (Obj.isFreed_of_fields (Obj.data_mapFields rfl _)),Obj.data_mapFields rfl _,by first | (simp; done) | (rcases hpl with rfl | ⟨_,_,_,_,_,_,_,rfl⟩ <;> simp)⟩
end
section
variable {P:Program} {w:World} {H:Hp} {h:Heap} {a:Addr} {o:HO}
theorem ObjOk.there (x:ObjOk P w H h a o):∃ u,h.get? a=some u:=by
 cases o with
 | lst xs=>obtain ⟨_,_,_,_,e⟩:=x; exact ⟨_,e⟩
 | tup xs=>obtain ⟨_,_,_,u,e,_⟩:=x; exact ⟨_,e⟩
 | dK kvs=>obtain ⟨_,_,_,_,o,_,_,e,_⟩:=x; exact ⟨_,e⟩
 | dT kvs=>obtain ⟨_,_,_,_,o,_,_,e,_⟩:=x; exact ⟨_,e⟩
 | set vs=>
   rcases x with ⟨_,⟨_,e⟩ | ⟨_,_,_,_,_,_,_,e,_⟩ | ⟨_,_,_,_,_,_,_,_,e,_⟩⟩
   ·exact ⟨_,e⟩
   ·exact ⟨_,e⟩
   ·exact ⟨_,e⟩
 | ins C dx fs=>obtain ⟨_,_,_,e,_⟩:=x; exact ⟨_,e⟩
 | own y=>exact x
 | xd fs=>obtain ⟨_,⟨_,_,_,e,_⟩,_⟩:=x; exact ⟨_,e⟩
 | rng lo hi=>obtain ⟨_,_,_,e⟩:=x; exact ⟨_,e⟩
 | frz ob u=>exact ⟨_,x.1⟩
 | tbl ps=>exact ⟨_,(show h.get? a=some _ from x)⟩
 | met f y=>exact ⟨_,(show h.get? a=some _ from x)⟩
 | ext φ=>exact x.2.1
end
noncomputable def Fly (X:Cx) (pins:List (Addr×Obj)) (H:Hp) (h:Heap) (e:Addr) (cls:Value) (dx:Option Addr):Prop:=FpOk X pins H e/\∃ oe vs,h.get? e=some oe/\oe.cls=cls/\oe.dict=dx/\oe.data=.fields vs/\
 (vs[1]?=some .none\/∃ T oT ts,vs[1]?=some (.ref T)/\T≠e/\FpOk X pins H T/\h.get? T=some oT/\oT.data=.fields ts/\ts[3]?=some .none)
section
variable {X:Cx} {pins:List (Addr×Obj)} {U:St} {H:Hp} {s:Shared} {E:Value->Shared->Prop} {e:Addr} {cls:Value} {dx:Option Addr}
theorem zfp {ch:List Addr} {h':Heap} (I:Inv X pins U H s) (hch:∀ b∈ch,FpOk X pins H b) (keep:∀ b o,b∉frs X.stack->b∉ch->s.heap.get? b=some o->h'.get? b=some o) (slot:∀ b o,b∈frs X.stack->b∉ch->s.heap.get? b=some o->∃ sl,h'.get? b=some { o with slots:=sl }):
  Inv X pins U H { s with heap:=h' }:=by
 have hx:∀ b u,H b=some u->b∉frs X.stack/\b∉ch:=fun b u z=>⟨fun q=>(by rw [I.stkFree b q] at z; cases z),fun q=>(by rw [(hch b q).1] at z; cases z)⟩
 refine I.call (ch:=ch) (t':=s.toks) (d':=s.drawn) (g':=s.gens) ⟨fun b o q _ n1 n2=>keep b o n1 n2 q,fun b o q _ n1 n2=>slot b o n1 n2 q,fun _ _ _ z _=>z,fun b o q n=>?_,fun _ _ z=>z,fun _ _ _ z=>z,fun b ps z=>⟨#[],by rw [z]; simp⟩⟩ (fun a o q=>?_) I.bare fun b hb=>?_
 ·by_cases hb:b∈frs X.stack
  ·obtain ⟨sl,z⟩:=slot b o hb n q
   exact ⟨_,z⟩
  ·exact ⟨o,keep b o hb n q⟩
 ·refine (I.hok a o q).stay (fun b u hb z=>?_) (fun _ z=>z) fun _ _ z=>z
  rcases hb with rfl | hb
  ·exact keep _ _ (hx _ _ q).1 (hx _ _ q).2 z
  ·exact keep _ _ (hx _ _ hb).1 (hx _ _ hb).2 z
 ·obtain ⟨_,f1,_,f3,f4,f5⟩:=hch b hb
  exact ⟨f3,f1,f4,f5⟩
theorem zj4 {Q:Unit->Shared->Prop} (hst:X.stack=X.env::X.outer) (hf:X.env.frame=some X.env.locals) (I:Inv X pins U H s) (F:Fly X pins H s.heap e cls dx)
  (k:∀ h',Inv X pins U H { s with heap:=h' }->Fly X pins H h' e cls dx->Q () { s with heap:=h' }):wpAny (model X.prog X.w) X.A (noteFrame (.ref e) X.env) (fun _ s'=>wpAny (model X.prog X.w) X.A (setFlight (.ref e) none) Q E s') E s:=by
 obtain ⟨fe,oe,vs,he,rfl,rfl,hd,ht⟩:=F
 have hfr:X.A.frames=some (X.env::X.outer):=hst ▸ I.ok.frames
 have hl:s.heap.FunFrames X.base (X.env::X.outer):=hst ▸ I.stack
 unfold noteFrame
 simp only [hf]
 rcases ht with h1 | ⟨T,oT,ts,h1,hTe,fT,hT,hdT,h3⟩
 ·refine qa (wpAny_field he hd h1 ?_)
  rw [if_neg (by decide)]
  refine zeo hfr hl hf he hd (Array.getElem?_eq_some_iff.mp h1).1 fun h' T' L=>?_
  rw [<- hst] at L
  have I':Inv X pins U H { s with heap:=h' }:=zfp (ch:=[e]) I (fun b hb=>by rw [mem_singleton.mp hb]; exact fe) (fun b o n1 n2 q=>L.keep b o n1 (fun z=>n2 (by simp [z])) q) fun b o n1 n2 q=>L.slot b o n1 (fun z=>n2 (by simp [z])) q
  obtain ⟨oe',vs',r1,r2,rd,r3,_,r5⟩:=L.rcd
  obtain ⟨oT,ts,t1,t2,t3⟩:=L.trc
  exact k h' I' ⟨fe,oe',vs',r1,r2,rd,r3,.inr ⟨T',oT,ts,r5,fun z=>absurd (qe he) (by have:=L.new; rw [z] at this; lia),I.fpOk L.new (I.hok.fresh L.new),t1,t2,t3⟩⟩
 ·refine qa (wpAny_field he hd h1 ?_)
  rw [if_pos (show (Value.ref T !=Value.none)=true from by simp)]
  refine qa (wpAny_field hT hdT h3 ?_)
  rw [if_neg (show ¬ ((Value.none == rawInt X.env.locals)=true) from by simp [rawInt])]
  refine qa (wpAny_setField hT hdT (Array.getElem?_eq_some_iff.mp h3).1 ?_)
  have other:∀ b,b≠T->(s.heap.update T (Obj.mapFields (·.setIfInBounds 3 Value.none))).get? b=s.heap.get? b:=fun b hb=>Heap.get?_update_other _ _ (Ne.symm hb)
  have noRecord:∀ b o,s.heap.get? b=some o->(∀ vs,o.data≠.fields vs)->b≠T:=fun b o hb hnf q=>by
   rw [q,hT] at hb; injection hb with hb; subst hb; exact hnf ts hdT
  refine zeo hfr (hl.of_keeps fun b o hb hnf=>⟨o,(other b (noRecord b o hb hnf)).trans hb,rfl⟩) hf ((other e (Ne.symm hTe)).trans he) hd (Array.getElem?_eq_some_iff.mp h1).1 fun h' T' L=>?_
  rw [<- hst] at L
  have hsz:(s.heap.update T (Obj.mapFields (·.setIfInBounds 3 Value.none))).objs.size=s.heap.objs.size:=Heap.size_update ..
  have I':Inv X pins U H { s with heap:=h' }:=zfp (ch:=[e,T]) I (fun b hb=>by
   rcases mem_cons.mp hb with rfl | hb
   ·exact fe
   ·rw [mem_singleton.mp hb]; exact fT) (fun b o n1 n2 q=>L.keep b o n1 (fun z=>n2 (by simp [z])) ((other b fun z=>n2 (by simp [z])).trans q)) fun b o n1 n2 q=>L.slot b o n1 (fun z=>n2 (by simp [z])) ((other b fun z=>n2 (by simp [z])).trans q)
  obtain ⟨oe',vs',r1,r2,rd,r3,_,r5⟩:=L.rcd
  obtain ⟨oT,ts,t1,t2,t3⟩:=L.trc
  have hn:s.heap.objs.size<=T':=hsz ▸ L.new
  exact k h' I' ⟨fe,oe',vs',r1,r2,rd,r3,.inr ⟨T',oT,ts,r5,fun z=>absurd (qe he) (by rw [z] at hn; lia),I.fpOk hn (I.hok.fresh hn),t1,t2,t3⟩⟩
theorem zi1 {Q:Unit->Shared->Prop} (hst:X.stack=X.env::X.outer) (hf:X.env.frame=some X.env.locals) (I:Inv X pins U H s) (F:Fly X pins H s.heap e cls dx)
  (k:∀ h',Inv X pins U H { s with heap:=h' }->Fly X pins H h' e cls dx->Q () { s with heap:=h' }):wpAny (model X.prog X.w) X.A (leaving X.env (.ref e)) Q E s:=by
 unfold leaving
 exact qa (zj4 hst hf I F k)
end
section
variable {X:Cx} {pins:List (Addr×Obj)} {U:St} {H H':Hp} {s s':Shared} {e:Addr} {cls:Value} {dx:Option Addr}
theorem Inv.fpNew (I:Inv X pins U H s) (hb:s.heap.get? b=none) (hn:H' b=none):FpOk X pins H' b:=by
 have no:∀ o,s.heap.get? b=some o->False:=fun o z=>by rw [hb] at z; cases z
 refine ⟨hn,fun z=>?_,fun z=>?_,?_,fun x c q z=>?_,fun p hp z=>?_⟩
 ·obtain ⟨m,⟨o,_,_,ho,_⟩,_⟩:=I.loc
  rw [<- z] at ho
  exact no o ho
 ·obtain ⟨_,o,ho,_⟩:=I.funs.mem z
  exact no o ho
 ·by_cases hx:b∈X.ex
  ·exact .inl hx
  ·refine .inr ?_
   cases q:X.s₀.heap.get? b with
   | none=>rfl
   | some o=>
     obtain ⟨o',z⟩:=I.base.there b o q hx
     exact (no o' z).elim
 ·obtain ⟨v,o,ho,_⟩:=I.cell x c q
  rw [z] at ho
  exact no o ho
 ·have:=(I.pin p hp).1
  rw [z] at this
  exact no _ this
theorem FpOk.few (f:FpOk X pins H b):FpOk X [] H b:=⟨f.1,f.2.1,f.2.2.1,f.2.2.2.1,f.2.2.2.2.1,fun p hp=>f.2.2.2.2.2 p (qk _ (by simpa using hp))⟩
theorem Fly.few (F:Fly X pins H h e cls dx):Fly X [] H h e cls dx:=by
 obtain ⟨f,oe,vs,h1,h2,hd,h3,h4⟩:=F
 refine ⟨f.few,oe,vs,h1,h2,hd,h3,h4.imp id ?_⟩
 rintro ⟨T,oT,ts,a1,a2,a3,a4⟩
 exact ⟨T,oT,ts,a1,a2,a3.few,a4⟩
theorem Inv.few (I:Inv X pins U H s):Inv X [] U H s:=I.pins_of fun p hp=>I.pin p (qk _ (by simpa using hp))
end
noncomputable def CXe (P:Program) (w:World):CXT:=fun outer H s E e s'=>∃ a cls dx H',e=.ref a/\s'.os=s.os/\AllBare s'.gens/\Un (frs outer) [] H H' s.heap s'.heap/\HOk P w H' s'.heap/\E cls dx H'/\s.heap.get? a=none/\H' a=none/\
 ∃ oe vs,s'.heap.get? a=some oe/\oe.cls=cls/\oe.dict=dx/\oe.data=.fields vs/\(vs[1]?=some .none\/∃ T oT ts,vs[1]?=some (.ref T)/\T≠a/\s.heap.get? T=none/\H' T=none/\s'.heap.get? T=some oT/\oT.data=.fields ts/\ts[3]?=some .none)
section
variable {P:Program} {w:World} {K:W.Frag} {mg:Str->Option Value} {base:Heap} {N:List Str} {qual:Str} {scope:Scope} {f:Addr} {cd:Value} {A:Around} {outer:List Env} {s s':Shared} {H H':Hp} {E:XK} {U:St} {e:Addr} {cls:Value} {dx:Option Addr}
theorem zjQ (I:Inv (cxOf (CXe P w) P w K mg base N qual scope f cd A outer s H E) [] U H' s') (F:Fly (cxOf (CXe P w) P w K mg base N qual scope f cd A outer s H E) [] H' s'.heap e cls dx) (q:E cls dx H'):
  (cxOf (CXe P w) P w K mg base N qual scope f cd A outer s H E).xe (.ref e) s':=by
 refine zi1 (X:=cxOf (CXe P w) P w K mg base N qual scope f cd A outer s H E) rfl rfl I F fun h' I' F'=>?_
 obtain ⟨fe,oe,vs,h1,h2,hd,h3,h4⟩:=F'
 have nw:∀ {b},FpOk (cxOf (CXe P w) P w K mg base N qual scope f cd A outer s H E) [] H' b->s.heap.get? b=none:=fun {b} z=>z.2.2.2.1.resolve_left fun z=>by cases z
 refine ⟨e,cls,dx,H',rfl,I'.os,I'.bare,I'.base,I'.hok,q,nw fe,fe.1,oe,vs,h1,h2,hd,h3,h4.imp id ?_⟩
 rintro ⟨T,oT,ts,a1,a2,a3,a4⟩
 exact ⟨T,oT,ts,a1,a2,nw a3,a3.1,a4⟩
end
section
variable {X:Cx} {pins:List (Addr×Obj)} {U:St} {H:Hp} {s s':Shared} {E:XK} {u:Value}
theorem zk4 (I:Inv X pins U H s) (h:CXe X.prog X.w X.stack H s E u s'):∃ a cls dx H',u=.ref a/\Inv X pins U H' s'/\Fly X pins H' s'.heap a cls dx/\E cls dx H':=by
 obtain ⟨a,cls,dx,H',rfl,ho,hg,un,hok,q,n1,n2,oe,vs,h1,h2,hd,h3,h4⟩:=h
 refine ⟨a,cls,dx,H',rfl,I.call' ho un hok hg (fun b z=>absurd z (by simp)),⟨I.fpNew n1 n2,oe,vs,h1,h2,hd,h3,h4.imp id ?_⟩,q⟩
 rintro ⟨T,oT,ts,a1,a2,a3,a4,a5⟩
 exact ⟨T,oT,ts,a1,a2,I.fpNew a3 a4,a5⟩
noncomputable def XW (X:Cx) (U:St):XK:=fun cls dx H'=>∀ (a:Addr) (s':Shared),Inv X [] U H' s'->Fly X [] H' s'.heap a cls dx->X.xe (.ref a) s'
noncomputable def tCallX (X:Cx) (sp:Sp) (t:TA):TE:=fun U H Q=>t U H fun vs H1=>sp vs H1 Q (XW X U)
variable {k:Nat} {f:Addr} {fd:FuncData} {ps:List Str} {sp:Sp} {x:Str} {p pos:Pos} {e:Expr} {es:List Expr} {t:TA}
theorem zjL (F:FnOk X.prog X.w X.K X.mg X.base (CXe X.prog X.w) k f fd ps sp) (hr:Room k X.A) (hg:Gl X x) (hm:X.mg x=some (.ref f)) (hk:W.keepIn X.K (.ref f)=true) (hb:Binds X.K fd ps [])
  (ha:PA X (e::es) t) (hdb:(x == ("__debug__":Str))=false:=by decide) (he:starEach (e::es) X.env=(false,eval e X.env)::starEach es X.env:=by rfl) (hpl:(backTo pos (starEach es X.env)).any (·.1)=false:=by rfl):
  PE X (.Call (.Name x p) (e::es) [] pos) (tCallX X sp t):=by
 intro pins s U H Q I h
 refine wpAny_Call_Name_kw (zli I hg hm ?_ hdb)
 refine W.callWith_K (h₀:=X.base) I.ok.mod.kin hk (thn (ha pos pins s U H _ I h) fun us s1 zq=>?_) he hpl
 obtain ⟨vs,H1,I1,r,q⟩:=zq
 refine ⟨I1.kIn,?_⟩
 have hl:(us++[]).length=ps.length:=by rw [append_nil,<- r.length]; exact F.len _ _ _ _ q
 refine wpAny_call (codeAny_mono (F.run X.A X.stack s1 H1 ⟨us,[]⟩ us vs Q (XW X U) hr I1.env0 (by have:=hb s1 us I1.kIn hl; rwa [append_nil] at this) r q) fun r s' hq=>?_)
 cases r with
 | error e=>
   obtain ⟨a,cls,dx,H',rfl,I',F',q'⟩:=zk4 I1 hq
   exact q' a s' I'.few F'.few
 | ok fl=>
   cases fl with
   | ret u=>exact I1.after hq
   | next=>exact False.elim hq
   | brk=>exact False.elim hq
   | cont=>exact False.elim hq
variable {C:Addr} {bm:List Value} {B newId initId:String} {np cpos:Pos}
end
section
variable {P:Program} {w:World} {K:W.Frag} {mg:Str->Option Value} {base:Heap}
theorem Fun.okX {st:Stmt} (F:Fun K x qual st f fd) (S:FnScope N ps (defScope st)) (len:∀ vs H Q E,sp vs H Q E->vs.length=ps.length)
  (hbody:∀ (cdv:Value) (A:Around) (outer:List Env) (s:Shared) (H:Hp) (vs:List V) (Q:VK) (E:XK),Room k (A.deeper (envOfC qual (defScope st) s.heap.objs.size f cdv))->sp vs H Q E->
   ∃ t,PSs (cxOf (CXe P w) P w K mg base N qual (defScope st) f cdv A outer s H E) (defBody st) t/\t { nx:=fun _ H'=>Q .non H',rt:=Q } (start N vs) H):FnOk P w K mg base (CXe P w) (k + 1) f fd ps sp:=by
 obtain ⟨oc,od,kV,doc,pm,an,cdv,ct,osl,rfl,lk,hcd⟩:=F.ex
 exact zrd lk hcd S len fun A outer s H vs Q E hr hsp=>hbody cdv A outer s H vs Q E hr hsp
end
end L2
end
section
namespace FL
open PySem
inductive D where
 | non
 | bl (b:Bool)
 | int (i:Int)
 | str (l:List Nat)
 | tup (l:List D)
 | lst (l:List D)
 | dct (t:Bool) (ks vs:List D)
 | set (l:List D)
 | exc (c:List Nat) (fs:List (List Nat)) (vs:List D)
 deriving Inhabited
inductive S where
 | sh (d:D)
 | lst (l:List S)
 | dct (t:Bool) (ks:List D) (vs:List S)
 | set (l:List D)
 deriving Inhabited
mutual
noncomputable def S.toD:S->D
 | .sh d=>d
 | .lst l=>.lst (S.toDs l)
 | .dct t ks vs=>.dct t ks (S.toDs vs)
 | .set l=>.set l
noncomputable def S.toDs:List S->List D
 | []=>[]
 | s::r=>S.toD s::S.toDs r
end
@[simp] theorem S.toDs_map:∀ l:List S,S.toDs l=l.map S.toD
  | []=>rfl
  | s::r=>by rw [S.toDs,S.toDs_map r,map_cons]
@[simp] theorem S.toD_sh (d:D):(S.sh d).toD=d:=rfl
@[simp] theorem S.toD_lst (l:List S):(S.lst l).toD=.lst (l.map S.toD):=by rw [<- S.toDs_map]; rfl
@[simp] theorem S.toD_dct (t:Bool) (ks:List D) (l:List S):(S.dct t ks l).toD=.dct t ks (l.map S.toD):=by rw [<- S.toDs_map]; rfl
@[simp] theorem S.toD_set (l:List D):(S.set l).toD=.set l:=rfl
noncomputable def S.isSh:S->Bool
 | .sh _=>true
 | _=>false
noncomputable def S.flat:S->Bool
 | .sh _=>true
 | .lst l=>l.all S.isSh
 | .dct _ _ vs=>vs.all S.isSh
 | .set _=>false
inductive R where
 | v (s:S)
 | loc (i:Nat)
abbrev Env:=List (Option S)
abbrev WQ:=R->Env->Prop
abbrev WX:=D->Env->Prop
noncomputable def NX:WX:=fun _ _=>False
abbrev WE:=Env->WQ->WX->Prop
abbrev WT:=Env->(Bool->Env->Prop)->WX->Prop
abbrev WA:=Env->(List R->Env->Prop)->WX->Prop
structure Ends where
 nx:Env->Prop
 rt:WQ
 bk:Env->Prop
 ct:Env->Prop
 ex:WX
abbrev WS:=Ends->Env->Prop
noncomputable def slot (O:Env) (i:Nat):Option S:=match O,i with
 | [],_=>none
 | s::_,0=>s
 | _::r,i + 1=>slot r i
@[simp] theorem znx (s:Option S) (r:Env):slot (s::r) 0=s:=rfl
@[simp] theorem znO (s:Option S) (r:Env) (i:Nat):slot (s::r) (i + 1)=slot r i:=rfl
noncomputable def view (r:R) (O:Env):Option D:=match r with
 | .v s=>some s.toD
 | .loc i=>(slot O i).map S.toD
noncomputable def viewC (r:R) (O:Env):Option D:=match r with
 | .v s=>some s.toD
 | .loc i=>match slot O i with
   | some s=>if s.flat then some s.toD else none
   | none=>none
noncomputable def give (r:R) (O:Env):Option (S×Env):=match r with
 | .v s=>some (s,O)
 | .loc i=>match slot O i with
   | some s=>some (.sh s.toD,O.set i (some (.sh s.toD)))
   | none=>none
noncomputable def giveAll:List R->Env->Option (List S×Env)
 | [],O=>some ([],O)
 | r::rs,O=>match give r O with
   | some (s,O1)=>match giveAll rs O1 with
     | some (ss,O2)=>some (s::ss,O2)
     | none=>none
   | none=>none
noncomputable def ixN (n:Nat) (i:Int):Option Nat:=if 0<=i then (if i < n then some i.toNat else none) else if -(n:Int)<=i then some (i + n).toNat else none
noncomputable def atI {α:Type} (xs:List α) (i:Int):Option α:=(ixN xs.length i).bind fun j=>xs[j]?
noncomputable def sIx (n d:Nat):Option Int->Nat
 | none=>d
 | some i=>if i < 0 then (i + n).toNat else min i.toNat n
noncomputable def cutL {α:Type} (xs:List α) (lo hi:Option Int):List α:=(xs.drop (sIx xs.length 0 lo)).take (sIx xs.length xs.length hi - sIx xs.length 0 lo)
noncomputable def big:Nat:=1000000
noncomputable def need {α:Type} (o:Option α) (k:α->Prop):Prop:=match o with
 | some a=>k a
 | none=>False
@[simp] theorem zbJ {α:Type} (a:α) (k:α->Prop):need (some a) k=k a:=rfl
@[simp] theorem zmB {α:Type} (k:α->Prop):need (none:Option α) k=False:=rfl
@[simp] theorem zoz {α:Type} {c:Prop} [Decidable c] (a:α) (k:α->Prop):need (if c then some a else none) k=(c/\k a):=by
  by_cases h:c <;> simp [h]
noncomputable def wVar (i:Nat):WE:=fun O Q _=>match slot O i with
 | some (.sh d)=>Q (.v (.sh d)) O
 | some _=>Q (.loc i) O
 | none=>False
noncomputable def wC (d:D):WE:=fun O Q _=>Q (.v (.sh d)) O
noncomputable def wBin (op:D->D->Option S) (a b:WE):WE:=fun O Q E=>a O (fun x O1=>b O1 (fun y O2=>
 need (viewC x O2) fun p=>need (viewC y O2) fun q=>need (op p q) fun s=>Q (.v s) O2) E) E
noncomputable def wUn (op:D->Option S) (a:WE):WE:=fun O Q E=>a O (fun x O1=>need (viewC x O1) fun p=>need (op p) fun s=>Q (.v s) O1) E
noncomputable def oAdd:D->D->Option S
 | .int i,.int j=>some (.sh (.int (i + j)))
 | .str x,.str y=>if x.length + y.length<=big then some (.sh (.str (x++y))) else none
 | .lst x,.lst y=>if x.length + y.length<=big then some (.lst ((x++y).map .sh)) else none
 | .tup x,.tup y=>if x.length + y.length<=big then some (.sh (.tup (x++y))) else none
 | _,_=>none
noncomputable def oSub:D->D->Option S
 | .int i,.int j=>some (.sh (.int (i - j)))
 | _,_=>none
noncomputable def mulOk (i j:Int):Bool:=(decide (-(2 ^ 64) < i) && decide (i < 2 ^ 64)) || (decide (-(2 ^ 64) < j) && decide (j < 2 ^ 64))
noncomputable def oMul:D->D->Option S
 | .int i,.int j=>if mulOk i j then some (.sh (.int (i * j))) else none
 | _,_=>none
noncomputable def oFdiv:D->D->Option S
 | .int i,.int j=>if 0 < j/\j < 18446744073709551616 then some (.sh (.int (i / j))) else none
 | _,_=>none
noncomputable def oMod:D->D->Option S
 | .int i,.int j=>if 0 < j then some (.sh (.int (i % j))) else none
 | _,_=>none
noncomputable def oPow:D->D->Option S
 | .int i,.int j=>if 0<=j/\j<=1000/\i.natAbs < 2 ^ 64 then some (.sh (.int (i ^ j.toNat))) else none
 | _,_=>none
noncomputable def oNeg:D->Option S
 | .int i=>some (.sh (.int (-i)))
 | _=>none
mutual
noncomputable def clash:D->D->Bool
 | .tup l,.tup m=>clashs l m
 | .lst l,.lst m=>clashs l m
 | .int _,.int _=>false
 | .int _,.str _=>false
 | .int _,.non=>false
 | .str _,.int _=>false
 | .str _,.str _=>false
 | .str _,.non=>false
 | .str _,.bl _=>false
 | .bl _,.bl _=>false
 | .bl _,.str _=>false
 | .bl _,.non=>false
 | .non,.int _=>false
 | .non,.str _=>false
 | .non,.bl _=>false
 | .non,.non=>false
 | _,_=>true
noncomputable def clashs:List D->List D->Bool
 | a::l,b::m=>clash a b || clashs l m
 | _,_=>false
end
mutual
noncomputable def dep:D->Nat
 | .tup l=>deps l + 1
 | .lst l=>deps l + 1
 | _=>0
noncomputable def deps:List D->Nat
 | []=>0
 | a::l=>max (dep a) (deps l)
end
open Classical in
noncomputable def cEq (a b:D):Option Bool:=if clash a b || decide (30 < dep a) then none else some (decide (a=b))
noncomputable def cNe (a b:D):Option Bool:=(cEq a b).map (!·)
noncomputable def ltD:D->D->Option Bool
 | .int i,.int j=>some (decide (i < j))
 | .str x,.str y=>some (decide (x < y))
 | _,_=>none
noncomputable def cLt (a b:D):Option Bool:=ltD a b
noncomputable def cGt (a b:D):Option Bool:=ltD b a
noncomputable def cLe:D->D->Option Bool
 | .int i,.int j=>some (decide (i<=j))
 | .str x,.str y=>some (!decide (y < x))
 | _,_=>none
noncomputable def cGe:D->D->Option Bool
 | .int i,.int j=>some (decide (j<=i))
 | .str x,.str y=>some (!decide (x < y))
 | _,_=>none
noncomputable def isKey1:D->Bool
 | .int _=>true
 | .str _=>true
 | _=>false
noncomputable def isKey:Bool->D->Bool
 | true,.tup l=>l.all isKey1
 | false,d=>isKey1 d
 | _,_=>false
open Classical in
noncomputable def cIn (a:D):D->Option Bool
 | .lst l=>if l.any (fun x=>clash x a || decide (30 < dep x)) then none else some (decide (a∈l))
 | .tup l=>if l.any (fun x=>clash x a || decide (30 < dep x)) then none else some (decide (a∈l))
 | .dct t ks _=>if isKey t a then some (decide (a∈ks)) else none
 | _=>none
open Classical in
noncomputable def cIs (a:D):D->Option Bool
 | .non=>some (decide (a=.non))
 | .bl b=>some (decide (a=.bl b))
 | _=>none
noncomputable def wCmp (op:D->D->Option Bool) (a b:WE):WT:=fun O Q E=>a O (fun x O1=>b O1 (fun y O2=>
 need (view x O2) fun p=>need (view y O2) fun q=>need (op p q) fun c=>Q c O2) E) E
noncomputable def wtAnd (a b:WT):WT:=fun O Q E=>a O (fun c O1=>if c then b O1 Q E else Q false O1) E
noncomputable def wtOr (a b:WT):WT:=fun O Q E=>a O (fun c O1=>if c then Q true O1 else b O1 Q E) E
noncomputable def wOfT (t:WT):WE:=fun O Q E=>t O (fun c O1=>Q (.v (.sh (.bl c))) O1) E
noncomputable def wIfE (c:WT) (a b:WE):WE:=fun O Q E=>c O (fun k O1=>if k then a O1 Q E else b O1 Q E) E
noncomputable def wNil:WA:=fun O Q _=>Q [] O
noncomputable def wCons (a:WE) (b:WA):WA:=fun O Q E=>a O (fun r O1=>b O1 (fun rs O2=>Q (r::rs) O2) E) E
noncomputable def wTup (a:WA):WE:=fun O Q E=>a O (fun rs O1=>need (if rs.length<=big then giveAll rs O1 else none) fun p=>Q (.v (.sh (.tup (p.1.map S.toD)))) p.2) E
noncomputable def wLst (a:WA):WE:=fun O Q E=>a O (fun rs O1=>need (if rs.length<=big then giveAll rs O1 else none) fun p=>Q (.v (.lst p.1)) p.2) E
open Classical in
noncomputable def lk {α:Type}:List D->List α->D->Option α
 | k'::ks,v::vs,k=>if k'=k then some v else lk ks vs k
 | _,_,_=>none
noncomputable def ixS:S->D->Option S
 | .sh (.tup l),.int i=>(atI l i).map .sh
 | .sh (.lst l),.int i=>(atI l i).map .sh
 | .sh (.str l),.int i=>(atI l i).map fun c=>.sh (.str [c])
 | .lst l,.int i=>atI l i
 | _,_=>none
noncomputable def wIx (a b:WE):WE:=fun O Q E=>a O (fun x O1=>b O1 (fun y O2=>need (view y O2) fun q=>match x with
 | .v s=>need (ixS s q) fun t=>Q (.v t) O2
 | .loc i=>match slot O2 i with
   | some s=>match ixS s q with
     | some (.sh d)=>Q (.v (.sh d)) O2
     | _=>False
   | none=>False) E) E
noncomputable def wPart (a:Option WE):Env->(Option Int->Env->Prop)->WX->Prop:=match a with
 | none=>fun O Q _=>Q none O
 | some a=>fun O Q E=>a O (fun x O1=>match view x O1 with
   | some (.int i)=>Q (some i) O1
   | _=>False) E
noncomputable def slD (d:D) (lo hi:Option Int):Option S:=match d with
 | .str l=>some (.sh (.str (cutL l lo hi)))
 | .tup l=>some (.sh (.tup (cutL l lo hi)))
 | .lst l=>some (.lst ((cutL l lo hi).map .sh))
 | _=>none
noncomputable def wSl (a:WE) (lo hi:Option WE):WE:=fun O Q E=>a O (fun x O1=>wPart lo O1 (fun l O2=>wPart hi O2 (fun h O3=>
 need (viewC x O3) fun d=>need (slD d l h) fun s=>Q (.v s) O3) E) E) E
abbrev WF:=List S->(S->List S->Prop)->(D->List S->Prop)->Prop
noncomputable def prep:List Bool->List R->Env->Option (List S×Env)
 | _,[],O=>some ([],O)
 | ms,.v s::rs,O=>match prep ms.tail rs O with
   | some (ss,O1)=>some (s::ss,O1)
   | none=>none
 | ms,.loc i::rs,O=>match slot O i with
   | some s=>if ms.headD false then (match prep ms.tail rs (O.set i none) with
     | some (ss,O1)=>some (s::ss,O1)
     | none=>none)
     else (match prep ms.tail rs (O.set i (some (.sh s.toD))) with
      | some (ss,O1)=>some (.sh s.toD::ss,O1)
      | none=>none)
   | none=>none
noncomputable def back:List Bool->List R->List S->Env->Env
 | ms,.v _::rs,_::ss,O=>back ms.tail rs ss O
 | ms,.loc i::rs,s::ss,O=>if ms.headD false then back ms.tail rs ss (O.set i (some s)) else back ms.tail rs ss O
 | _,_,_,O=>O
noncomputable def wCall (f:WF) (ms:List Bool) (a:WA):WE:=fun O Q E=>a O (fun rs O1=>need (prep ms rs O1) fun p=>
 f p.1 (fun s ss=>Q (.v s) (back ms rs ss p.2)) (fun x ss=>E x (back ms rs ss p.2))) E
noncomputable def wB (f:List D->Option S) (a:WA):WE:=fun O Q E=>a O (fun rs O1=>need (rs.mapM fun r=>viewC r O1) fun ds=>need (f ds) fun s=>Q (.v s) O1) E
noncomputable def wAppend (j:Nat) (e:WE):WE:=fun O Q E=>match slot O j with
 | some (.lst _)=>e O (fun r O2=>need (give r O2) fun p=>match slot p.2 j with
   | some (.lst l)=>l.length < big/\Q (.v (.sh .non)) (p.2.set j (some (.lst (l++[p.1]))))
   | _=>False) E
 | _=>False
noncomputable def bLen:List D->Option S
 | [.str l]=>some (.sh (.int l.length))
 | [.tup l]=>some (.sh (.int l.length))
 | [.lst l]=>some (.sh (.int l.length))
 | _=>none
noncomputable def bInt:List D->Option S
 | [.int i]=>some (.sh (.int i))
 | [.bl b]=>some (.sh (.int (if b then 1 else 0)))
 | _=>none
noncomputable def bTuple:List D->Option S
 | [.tup l]=>some (.sh (.tup l))
 | [.lst l]=>some (.sh (.tup l))
 | _=>none
noncomputable def bList:List D->Option S
 | [.tup l]=>some (.lst (l.map .sh))
 | [.lst l]=>some (.lst (l.map .sh))
 | _=>none
noncomputable def bMax:List D->Option S
 | [.int i,.int j]=>some (.sh (.int (if j > i then j else i)))
 | _=>none
noncomputable def bMin:List D->Option S
 | [.int i,.int j]=>some (.sh (.int (if j < i then j else i)))
 | _=>none
noncomputable def wPass:WS:=fun D O=>D.nx O
noncomputable def wSeq (a b:WS):WS:=fun D O=>a { D with nx:=b D } O
noncomputable def wIf (c:WT) (a b:WS):WS:=fun D O=>c O (fun k O1=>if k then a D O1 else b D O1) D.ex
noncomputable def wRet (a:WE):WS:=fun D O=>a O D.rt D.ex
noncomputable def wExpr (a:WE):WS:=fun D O=>a O (fun _ O1=>D.nx O1) D.ex
abbrev WG:=S->Env->(Env->Prop)->Prop
noncomputable def gName (i:Nat):WG:=fun s O Q=>Q (O.set i (some s))
noncomputable def gTups:List WG->List D->Env->(Env->Prop)->Prop
 | [],[],O,Q=>Q O
 | g::gs,d::ds,O,Q=>g (.sh d) O fun O1=>gTups gs ds O1 Q
 | _,_,_,_=>False
noncomputable def gTup (gs:List WG):WG:=fun s O Q=>match s.toD with
 | .tup ds=>ds.length=gs.length/\gTups gs ds O Q
 | _=>False
noncomputable def wSetIx (j:Nat) (i e:WE):WS:=fun D O=>e O (fun r O1=>wVar j O1 (fun x O2=>i O2 (fun y O3=>need (view y O3) fun q=>need (give r O3) fun p=>match x,q,slot p.2 j with
 | .loc k,.int n,some (.lst l)=>k=j/\need (ixN l.length n) fun m=>D.nx (p.2.set j (some (.lst (l.set m p.1))))
 | _,_,_=>False) D.ex) D.ex) D.ex
noncomputable def wAsg (g:WG) (a:WE):WS:=fun D O=>a O (fun r O1=>need (give r O1) fun p=>g p.1 p.2 D.nx) D.ex
abbrev WI:=Env->(List D->Env->Prop)->WX->Prop
noncomputable def items:D->Option (List D)
 | .lst l=>some l
 | .tup l=>some l
 | .str l=>some (l.map fun c=>.str [c])
 | _=>none
noncomputable def wIter (a:WE):WI:=fun O Q E=>a O (fun r O1=>need (give r O1) fun p=>need (items p.1.toD) fun l=>Q l p.2) E
noncomputable def fromTo (lo:Int) (n:Nat):List D:=(List.range n).map fun (k:Nat)=>.int (lo + (k:Int))
noncomputable def wRange1 (a:WE):WI:=fun O Q E=>a O (fun r O1=>match view r O1 with
 | some (.int j)=>(-big<=j/\j<=big)/\Q (fromTo 0 j.toNat) O1
 | _=>False) E
noncomputable def wRange2 (a b:WE):WI:=fun O Q E=>a O (fun r O1=>b O1 (fun t O2=>match view r O2,view t O2 with
 | some (.int i),some (.int j)=>(-big<=i/\i<=big/\-big<=j/\j<=big)/\Q (fromTo i (j - i).toNat) O2
 | _,_=>False) E) E
noncomputable def wLoop (g:WG) (body:WS):List D->WS
 | [],D,O=>D.nx O
 | x::xs,D,O=>g (.sh x) O fun O1=>body { D with nx:=wLoop g body xs D,ct:=wLoop g body xs D,bk:=D.nx } O1
noncomputable def wFor (it:WI) (g:WG) (body:WS):WS:=fun D O=>it O (fun l O1=>wLoop g body l D O1) D.ex
noncomputable def wWhile (c:WT) (body:WS):WS:=fun D O=>∃ J:Nat->Env->Prop,(∃ m,J m O)/\∀ m O,J m O->c O (fun k O1=>if k then
 body { D with nx:=fun O2=>∃ m',m' < m/\J m' O2,ct:=fun O2=>∃ m',m' < m/\J m' O2,bk:=D.nx } O1 else D.nx O1) D.ex
abbrev WB:=Env->(Env->Prop)->WX->Prop
noncomputable def wYes:WT:=fun O Q _=>Q true O
noncomputable def bLoop (g:WG) (c:WT) (b:WB):List D->WB
 | [],O,Q,_=>Q O
 | x::xs,O,Q,E=>g (.sh x) O fun O1=>c O1 (fun k O2=>if k then b O2 (fun O3=>bLoop g c b xs O3 Q E) E else bLoop g c b xs O2 Q E) E
noncomputable def bFor (it:WI) (g:WG) (c:WT) (b:WB):WB:=fun O Q E=>it O (fun l O1=>bLoop g c b l O1 Q E) E
noncomputable def bEmit (n:Nat) (a:WE):WB:=fun O Q E=>a O (fun r O1=>need (give r O1) fun p=>match slot p.2 n with
 | some (.lst l)=>l.length < big/\Q (p.2.set n (some (.lst (l++[p.1]))))
 | _=>False) E
noncomputable def wLC (n k:Nat) (it:WI) (g:WG) (c:WT) (b:WB):WE:=fun O Q E=>it O (fun l O1=>
 bLoop g c b l (O1++some (.lst [])::List.replicate k none) (fun O2=>need (slot O2 n) fun s=>Q (.v s) (O2.take n)) NX) E
noncomputable def finals:List S->Env->Option (List S)
 | [],_=>some []
 | .sh d::ss,_::O=>(finals ss O).map (.sh d::·)
 | _::ss,some s::O=>(finals ss O).map (s::·)
 | _,_=>none
noncomputable def wFn (n m:Nat) (ks:List Nat) (body:WS):WF:=fun ss P PX=>ss.length=n/\(∀ i s,ss[i]?=some s->i∈ks\/s.isSh=true)/\
 body { nx:=fun O=>need (finals ss O) fun fs=>P (.sh .non) fs
        rt:=fun r O=>match r with
         | .v s=>need (finals ss O) fun fs=>P s fs
         | .loc i=>need (slot O i) fun s=>if i < n then need (finals ss (O.set i (some (.sh s.toD)))) fun fs=>P (.sh s.toD) fs else need (finals ss O) fun fs=>P s fs
        bk:=fun _=>False
        ct:=fun _=>False
        ex:=fun x O=>need (finals ss O) fun fs=>PX x fs } (ss.map some++List.replicate (m - n) none)
end FL
end
section
namespace FL
open PySem L2
noncomputable def keyD:Key->D
 | .inl i=>.int i
 | .inr x=>.str x.cps.toList
noncomputable def excφ (a C:Addr) (dx:Option Addr) (h:Heap):Prop:=∃ o vs,h.get? a=some o/\o.cls=.ref C/\o.dict=dx/\o.data=.fields vs
noncomputable def noTup:HO->Bool
 | .tup _=>false
 | _=>true
noncomputable def XDct (F:Hp) (dx:Option Addr) (fs:List (List Nat)) (vs:List D):Prop:=(dx=none/\fs=[]/\vs=[])\/∃ p f i,dx=some p/\fs=[f]/\vs=[.int i]/\F p=some (.xd [((⟨f.toArray⟩:Str),.int i)])
mutual
inductive Rep (K:W.Frag) (F:Hp):V->D->Prop
 | non:Rep K F .non .non
 | bl (b:Bool):Rep K F (.bl b) (.bl b)
 | int (i:Int):Rep K F (.int i) (.int i)
 | str {x:Str} {l:List Nat}:x.cps.toList=l->l.length<=16777216->Rep K F (.str x) (.str l)
 | tup {a:Addr} {xs:List V} {ds:List D}:F a=some (.tup xs)->Reps K F xs ds->Rep K F (.ref a) (.tup ds)
 | lst {a:Addr} {xs:List V} {ds:List D}:SqL K F a xs->Reps K F xs ds->Rep K F (.ref a) (.lst ds)
 | dK {a:Addr} {kvs:List (Key×V)} {ks vs:List D}:Rd F a (.dK kvs)->ks=kvs.map (fun p=>keyD p.1)->Reps K F (kvs.map (·.2)) vs->Rep K F (.ref a) (.dct false ks vs)
 | dT {a:Addr} {kvs:List (List Key×V)} {ks vs:List D}:Rd F a (.dT kvs)->ks=kvs.map (fun p=>D.tup (p.1.map keyD))->Reps K F (kvs.map (·.2)) vs->Rep K F (.ref a) (.dct true ks vs)
 | st {a:Addr} {xs:List V} {ds:List D}:F a=some (.set xs)->Reps K F xs ds->Rep K F (.ref a) (.set ds)
 | exc {a C:Addr} {dx:Option Addr} {c:List Nat} {fs:List (List Nat)} {vs:List D}:F a=some (.ext (excφ a C dx))->W.nsIn K mainGlobals (⟨c.toArray⟩:Str)=some (some (.ref C))->XDct F dx fs vs->Rep K F (.ref a) (.exc c fs vs)
inductive Reps (K:W.Frag) (F:Hp):List V->List D->Prop
 | nil:Reps K F [] []
 | cons {x:V} {d:D} {xs:List V} {ds:List D}:Rep K F x d->Reps K F xs ds->Reps K F (x::xs) (d::ds)
end
mutual
inductive SRep (K:W.Frag) (F H:Hp):V->S->List Addr->Prop
 | sh {v:V} {d:D}:Rep K F v d->SRep K F H v (.sh d) []
 | lst {a:Addr} {xs:List V} {l:List S} {fp:List Addr}:H a=some (.lst xs)->SReps K F H xs l fp->SRep K F H (.ref a) (.lst l) (a::fp)
 | dK {a:Addr} {kvs:List (Key×V)} {ks:List D} {l:List S} {fp:List Addr}:H a=some (.dK kvs)->ks=kvs.map (fun p=>keyD p.1)->SReps K F H (kvs.map (·.2)) l fp->SRep K F H (.ref a) (.dct false ks l) (a::fp)
 | dT {a:Addr} {kvs:List (List Key×V)} {ks:List D} {l:List S} {fp:List Addr}:H a=some (.dT kvs)->ks=kvs.map (fun p=>D.tup (p.1.map keyD))->SReps K F H (kvs.map (·.2)) l fp->SRep K F H (.ref a) (.dct true ks l) (a::fp)
 | st {a:Addr} {xs:List V} {ds:List D}:H a=some (.set xs)->Reps K F xs ds->SRep K F H (.ref a) (.set ds) [a]
inductive SReps (K:W.Frag) (F H:Hp):List V->List S->List Addr->Prop
 | nil:SReps K F H [] [] []
 | cons {x:V} {s:S} {xs:List V} {l:List S} {fp fq:List Addr}:SRep K F H x s fp->SReps K F H xs l fq->SReps K F H (x::xs) (s::l) (fp++fq)
end
section
variable {K:W.Frag} {F F' H H' G:Hp}
theorem Rd.mono (h:Same F F') (r:Rd F a u):Rd F' a u:=by
 rcases r with r | ⟨o,r⟩
 ·exact .inl (h _ _ r)
 ·exact .inr ⟨o,h _ _ r⟩
theorem SqL.mono (h:Same F F') (r:SqL K F a xs):SqL K F' a xs:=r.elim (fun r=>.inl (Rd.mono h r)) .inr
theorem SqT.mono (h:Same F F') (r:SqT K F a xs):SqT K F' a xs:=r.elim (fun r=>.inl (Rd.mono h r)) .inr
theorem Reps.ind {P:List V->List D->Prop} (hn:P [] []) (hc:∀ {x:V} {d:D} {xs:List V} {ds:List D},Rep K F x d->Reps K F xs ds->P xs ds->P (x::xs) (d::ds)) (r:Reps K F xs ds):P xs ds:=
 Reps.rec (motive_1:=fun _ _ _=>True) (motive_2:=fun xs ds _=>P xs ds) trivial (fun _=>trivial) (fun _=>trivial) (fun _ _=>trivial) (fun _ _ _=>trivial) (fun _ _ _=>trivial) (fun _ _ _ _=>trivial) (fun _ _ _ _=>trivial) (fun _ _ _=>trivial) (fun _ _ _=>trivial) hn (fun a b _ ih=>hc a b ih) r
theorem SReps.ind {P:List V->List S->List Addr->Prop} (hn:P [] [] []) (hc:∀ {x:V} {s:S} {xs:List V} {l:List S} {fp fq:List Addr},SRep K F H x s fp->SReps K F H xs l fq->P xs l fq->P (x::xs) (s::l) (fp++fq)) (r:SReps K F H xs l fp):P xs l fp:=
 SReps.rec (motive_1:=fun _ _ _ _=>True) (motive_2:=fun xs l fp _=>P xs l fp) (fun _=>trivial) (fun _ _ _=>trivial) (fun _ _ _ _=>trivial) (fun _ _ _ _=>trivial) (fun _ _=>trivial) hn (fun a b _ ih=>hc a b ih) r
theorem XDct.mono (h:Same F F') (x:XDct F dx fs vs):XDct F' dx fs vs:=x.imp id fun ⟨p,f,i,e1,e2,e3,e4⟩=>⟨p,f,i,e1,e2,e3,h _ _ e4⟩
theorem Rep.mono (h:Same F F') (r:Rep K F v d):Rep K F' v d:=
 Rep.rec (motive_1:=fun v d _=>Rep K F' v d) (motive_2:=fun v d _=>Reps K F' v d) .non .bl .int (fun e z=>.str e z) (fun e _ ih=>.tup (h _ _ e) ih) (fun e _ ih=>.lst (SqL.mono h e) ih) (fun e k _ ih=>.dK (Rd.mono h e) k ih) (fun e k _ ih=>.dT (Rd.mono h e) k ih) (fun e _ ih=>.st (h _ _ e) ih) (fun e k x=>.exc (h _ _ e) k (x.mono h)) .nil (fun _ _ a b=>.cons a b) r
theorem Reps.mono (h:Same F F') (r:Reps K F v d):Reps K F' v d:=Reps.ind .nil (fun a _ ih=>.cons (Rep.mono h a) ih) r
theorem SRep.mono (h:Same F F') (r:SRep K F H v s fp):(∀ a∈fp,H' a=H a)->SRep K F' H' v s fp:=
 SRep.rec (motive_1:=fun v s fp _=>(∀ a∈fp,H' a=H a)->SRep K F' H' v s fp) (motive_2:=fun v s fp _=>(∀ a∈fp,H' a=H a)->SReps K F' H' v s fp)
  (fun r _=>.sh (Rep.mono h r)) (fun e _ ih k=>.lst ((k _ qo).trans e) (ih fun a ha=>k a (qm _ ha)))
  (fun e q _ ih k=>.dK ((k _ qo).trans e) q (ih fun a ha=>k a (qm _ ha))) (fun e q _ ih k=>.dT ((k _ qo).trans e) q (ih fun a ha=>k a (qm _ ha)))
  (fun e r k=>.st ((k _ qo).trans e) (Reps.mono h r)) (fun _=>.nil) (fun _ _ a b k=>.cons (a fun c hc=>k c (qk _ hc)) (b fun c hc=>k c (qj _ hc))) r
theorem SReps.mono (h:Same F F') (r:SReps K F H v s fp):(∀ a∈fp,H' a=H a)->SReps K F' H' v s fp:=
 SReps.ind (P:=fun v s fp=>(∀ a∈fp,H' a=H a)->SReps K F' H' v s fp) (fun _=>.nil) (fun a _ b k=>.cons (SRep.mono h a fun c hc=>k c (qk _ hc)) (b fun c hc=>k c (qj _ hc))) r
theorem SRep.frz (h:Same F F') (r:SRep K F H v s fp):(∀ a∈fp,F' a=H a)->Rep K F' v s.toD:=
 SRep.rec (motive_1:=fun v s fp _=>(∀ a∈fp,F' a=H a)->Rep K F' v s.toD) (motive_2:=fun v s fp _=>(∀ a∈fp,F' a=H a)->Reps K F' v (S.toDs s))
  (fun r _=>Rep.mono h r) (fun e _ ih k=>.lst (SqL.of ((k _ qo).trans e)) (ih fun a ha=>k a (qm _ ha)))
  (fun e q _ ih k=>.dK (.of ((k _ qo).trans e)) q (ih fun a ha=>k a (qm _ ha))) (fun e q _ ih k=>.dT (.of ((k _ qo).trans e)) q (ih fun a ha=>k a (qm _ ha)))
  (fun e r k=>.st ((k _ qo).trans e) (Reps.mono h r)) (fun _=>.nil) (fun _ _ a b k=>.cons (a fun c hc=>k c (qk _ hc)) (b fun c hc=>k c (qj _ hc))) r
theorem SReps.frz (h:Same F F') (r:SReps K F H v s fp):(∀ a∈fp,F' a=H a)->Reps K F' v (S.toDs s):=
 SReps.ind (P:=fun v s fp=>(∀ a∈fp,F' a=H a)->Reps K F' v (S.toDs s)) (fun _=>.nil) (fun a _ b k=>.cons (SRep.frz h a fun c hc=>k c (qk _ hc)) (b fun c hc=>k c (qj _ hc))) r
theorem SRep.view (h:Same F H) (r:SRep K F H v s fp):Rep K H v s.toD:=SRep.frz h r fun _ _=>rfl
theorem SRep.in_:∀ {v:V} {s:S} {fp:List Addr},SRep K F H v s fp->∀ a∈fp,∃ o,H a=some o/\noTup o=true:=by
 intro v s fp r
 refine SRep.rec (motive_1:=fun v s fp _=>∀ a∈fp,∃ o,H a=some o/\noTup o=true) (motive_2:=fun v s fp _=>∀ a∈fp,∃ o,H a=some o/\noTup o=true) ?_ ?_ ?_ ?_ ?_ ?_ ?_ r
 ·intro v d r a ha; cases ha
 ·grind [noTup]
 ·grind [noTup]
 ·grind [noTup]
 ·grind [noTup]
 ·intro a ha; cases ha
 grind
end
inductive EnvRep (K:W.Frag) (F H:Hp):Env->St->List Addr->Prop
 | nil:EnvRep K F H [] [] []
 | no {O:Env} {U:St} {o:Option V} {fp:List Addr}:EnvRep K F H O U fp->EnvRep K F H (none::O) (o::U) fp
 | so {O:Env} {U:St} {v:V} {s:S} {fp fq:List Addr}:SRep K F H v s fp->EnvRep K F H O U fq->EnvRep K F H (some s::O) (some v::U) (fp++fq)
section
variable {K:W.Frag} {F F' H H' G G':Hp}
theorem EnvRep.len (r:EnvRep K F H O U fp):O.length=U.length:=by
 induction r with
 | nil=>rfl
 | no _ ih=>exact congrArg (· + 1) ih
 | so _ _ ih=>exact congrArg (· + 1) ih
theorem EnvRep.mono (h:Same F F') (r:EnvRep K F H O U fp) (k:∀ a∈fp,H' a=H a):EnvRep K F' H' O U fp:=by
 induction r with
 | nil=>exact .nil
 | no _ ih=>exact .no (ih k)
 | so a _ ih=>exact .so (SRep.mono h a fun c hc=>k c (qk _ hc)) (ih fun c hc=>k c (qj _ hc))
theorem EnvRep.in_ (r:EnvRep K F H O U fp):∀ a∈fp,∃ o,H a=some o/\noTup o=true:=by
 induction r with
 | nil=>exact fun a ha=>nomatch ha
 | no _ ih=>exact ih
 | so q _ ih=>exact fun a ha=>(mem_append.mp ha).elim (fun z=>SRep.in_ q a z) fun z=>ih a z
theorem EnvRep.app (r:EnvRep K F H O U fp) (r':EnvRep K F H O' U' fq):EnvRep K F H (O++O') (U++U') (fp++fq):=by
 induction r with
 | nil=>exact r'
 | no _ ih=>exact .no ih
 | so a _ ih=>rw [append_assoc]; exact .so a ih
theorem EnvRep.cut (e:O.length=U.length) (r:EnvRep K F H (O++O') (U++U') fp):∃ f1 f2,fp=f1++f2/\EnvRep K F H O U f1/\EnvRep K F H O' U' f2:=by
 induction O generalizing U fp with
 | nil=>cases U with
   | nil=>exact ⟨[],fp,rfl,.nil,r⟩
   | cons _ _=>exact absurd e.symm (Nat.succ_ne_zero _)
 | cons x O ih=>cases U with
   | nil=>exact absurd e (Nat.succ_ne_zero _)
   | cons y U=>cases r with
     | no r=>
       obtain ⟨f1,f2,rfl,a,b⟩:=ih (Nat.succ.inj e) r
       exact ⟨f1,f2,rfl,.no a,b⟩
     | so q r=>
       obtain ⟨f1,f2,rfl,a,b⟩:=ih (Nat.succ.inj e) r
       exact ⟨_,f2,(append_assoc ..).symm,.so q a,b⟩
theorem EnvRep.at:∀ {O:Env} {U:St} {fp:List Addr} {i:Nat} {s:S},EnvRep K F H O U fp->slot O i=some s->
  ∃ v fa fi fb,U[i]?=some (some v)/\fp=fa++(fi++fb)/\SRep K F H v s fi/\
    ∀ {F' H':Hp} {o:Option S} {u:Option V} {fi':List Addr},Same F F'->(∀ a∈fa++fb,H' a=H a)->(EnvRep K F' H' [o] [u] fi')->EnvRep K F' H' (O.set i o) (U.set i u) (fa++(fi'++fb))
 | _,_,_,_,_,.nil,e=>by simp [slot] at e
 | _,_,_,0,_,.no r,e=>by simp at e
 | _,_,_,0,s,.so (fp:=fp) (fq:=fq) q r,e=>by
   simp at e; subst e
   refine ⟨_,[],fp,fq,rfl,rfl,q,fun {F' H' o u fi'} h k x=>?_⟩
   have r':=EnvRep.mono (H':=H') h r fun a ha=>k a ha
   exact x.app r'
 | _,_,_,i + 1,s,.no r,e=>by
   obtain ⟨v,fa,fi,fb,e1,rfl,q,up⟩:=EnvRep.at r (by simpa using e)
   exact ⟨v,fa,fi,fb,by simpa using e1,rfl,q,fun h k x=>.no (up h k x)⟩
 | _,_,_,i + 1,s,.so (fp:=fp) (fq:=fq) p r,e=>by
   obtain ⟨v,fa,fi,fb,e1,rfl,q,up⟩:=EnvRep.at r (by simpa using e)
   refine ⟨v,fp++fa,fi,fb,by simpa using e1,(append_assoc ..).symm,q,fun {F' H' o u fi'} h k x=>?_⟩
   rw [append_assoc]
   exact .so (SRep.mono h p fun a ha=>k a (qk _ (qk _ ha))) (up h (fun a ha=>k a ((mem_append.mp ha).elim (fun z=>qk _ (qj _ z)) fun z=>qj _ z)) x)
theorem EnvRep.put:∀ {O:Env} {U:St} {fp:List Addr} {i:Nat},EnvRep K F H O U fp->i < O.length->
  ∃ fa fi fb,fp=fa++(fi++fb)/\
    ∀ {F' H':Hp} {o:Option S} {u:Option V} {fi':List Addr},Same F F'->(∀ a∈fa++fb,H' a=H a)->(EnvRep K F' H' [o] [u] fi')->EnvRep K F' H' (O.set i o) (U.set i u) (fa++(fi'++fb))
 | _,_,_,_,.nil,e=>by simp at e
 | _,_,fp,0,.no r,e=>⟨[],[],fp,rfl,fun {F' H' o u fi'} h k x=>x.app (EnvRep.mono (H':=H') h r fun a ha=>k a ha)⟩
 | _,_,_,0,.so (fp:=fp) (fq:=fq) q r,e=>⟨[],fp,fq,rfl,fun {F' H' o u fi'} h k x=>x.app (EnvRep.mono (H':=H') h r fun a ha=>k a ha)⟩
 | _,_,_,i + 1,.no r,e=>by
   obtain ⟨fa,fi,fb,rfl,up⟩:=EnvRep.put (i:=i) r (by simpa using e)
   exact ⟨fa,fi,fb,rfl,fun h k x=>.no (up h k x)⟩
 | _,_,_,i + 1,.so (fp:=fp) (fq:=fq) p r,e=>by
   obtain ⟨fa,fi,fb,rfl,up⟩:=EnvRep.put (i:=i) r (by simpa using e)
   refine ⟨fp++fa,fi,fb,(append_assoc ..).symm,fun {F' H' o u fi'} h k x=>?_⟩
   rw [append_assoc]
   exact .so (SRep.mono h p fun a ha=>k a (qk _ (qk _ ha))) (up h (fun a ha=>k a ((mem_append.mp ha).elim (fun z=>qk _ (qj _ z)) fun z=>qj _ z)) x)
end
structure Rel (K:W.Frag) (O:Env) (U:St) (F G H:Hp):Prop where
 fr:Same F H
 gr:∀ a o,G a=some o->(H a=some o/\noTup o=true)/\F a=none
 en:∃ fp,EnvRep K F H O U fp/\fp.Nodup/\∀ a∈fp,F a=none/\G a=none
section
variable {K:W.Frag} {F F' H H' G G':Hp} {O O':Env} {U U':St}
theorem Rel.len (r:Rel K O U F G H):O.length=U.length:=let ⟨_,e,_⟩:=r.en; e.len
theorem Rel.free (r:Rel K O U F G H) (h:H p=none):F p=none/\G p=none/\∀ fp,EnvRep K F H O U fp->p∉fp:=by
 refine ⟨?_,?_,fun fp e hp=>?_⟩
 ·cases q:F p with
  | none=>rfl
  | some o=>rw [r.fr p o q] at h; cases h
 ·cases q:G p with
  | none=>rfl
  | some o=>rw [(r.gr p o q).1.1] at h; cases h
 ·obtain ⟨o,q,_⟩:=e.in_ p hp
  rw [h] at q; cases q
theorem Same.upd (h:F p=none):Same F (upd F p o):=fun b u e=>by
 rw [zaf (fun z=>by rw [z,h] at e; cases e)]; exact e
theorem Same.upd2 (h:Same F H):Same (L2.upd F p o) (L2.upd H p o):=fun b u e=>by
 by_cases q:b=p
 ·subst q; rw [zai] at e ⊢; exact e
 ·rw [zaf q] at e ⊢; exact h b u e
theorem Same.updR (h:Same F H) (n:F p=none):Same F (L2.upd H p o):=fun b u e=>by
 rw [zaf (fun z=>by rw [z,n] at e; cases e)]; exact h b u e
theorem Rel.newF (r:Rel K O U F G H) (h:H p=none):Rel K O U (upd F p o) G (upd H p o):=by
 obtain ⟨f0,g0,n0⟩:=r.free h
 obtain ⟨fp,e,nd,ap⟩:=r.en
 have hne:∀ a∈fp,a≠p:=fun a ha z=>n0 fp e (z ▸ ha)
 refine ⟨Same.upd2 r.fr,fun a u q=>?_,fp,e.mono (Same.upd f0) fun a ha=>zaf (hne a ha),nd,fun a ha=>?_⟩
 ·have hp:a≠p:=fun z=>by rw [z,g0] at q; cases q
  rw [zaf hp,zaf hp]; exact r.gr a u q
 ·rw [zaf (hne a ha)]; exact ap a ha
theorem Rel.newO (r:Rel K O U F G H) (h:H p=none) (q:SRep K F (upd H p o) (.ref p) s [p]):Rel K (O++[some s]) (U++[some (.ref p)]) F G (upd H p o):=by
 obtain ⟨f0,g0,n0⟩:=r.free h
 obtain ⟨fp,e,nd,ap⟩:=r.en
 have hne:∀ a∈fp,a≠p:=fun a ha z=>n0 fp e (z ▸ ha)
 refine ⟨Same.updR r.fr f0,fun a u q=>?_,fp++([p]++[]),(e.mono (Same.refl F) fun a ha=>zaf (hne a ha)).app (.so q .nil),?_,fun a ha=>?_⟩
 ·have hp:a≠p:=fun z=>by rw [z,g0] at q; cases q
  rw [zaf hp]; exact r.gr a u q
 ·grind
 grind
theorem Rel.drop (r:Rel K (O++O') (U++U') F G H) (h:O.length=U.length):Rel K O U F G H:=by
 obtain ⟨fp,e,nd,ap⟩:=r.en
 obtain ⟨f1,f2,rfl,a,b⟩:=e.cut h
 exact ⟨r.fr,r.gr,f1,a,(nodup_append.mp nd).1,fun c hc=>ap c (qk _ hc)⟩
theorem Rel.hide (r:Rel K (O++O') (U++U') F G H) (h:O.length=U.length):∃ G',Rel K O U F G' H/\Same G G'/\
  ∀ {O2:Env} {U2:St} {F2 H2:Hp},Same F F2->Rel K O2 U2 F2 G' H2->Rel K (O2++O') (U2++U') F2 G H2:=by
 classical
 obtain ⟨fp,e,nd,ap⟩:=r.en
 obtain ⟨f1,f2,rfl,a,b⟩:=e.cut h
 obtain ⟨n1,n2,n12⟩:=nodup_append.mp nd
 refine ⟨fun x=>if x∈f2 then H x else G x,⟨r.fr,fun x o q=>?_,f1,a,n1,fun x hx=>?_⟩,fun x o q=>?_,fun {O2 U2 F2 H2} sm r2=>?_⟩
 ·by_cases z:x∈f2
  ·have:=b.in_ x z
   grind
  ·simp only [z,if_false] at q
   exact r.gr x o q
 ·grind
 ·grind
 ·obtain ⟨fp2,e2,nd2,ap2⟩:=r2.en
  have hk:∀ x∈f2,H2 x=H x/\F2 x=none/\x∉fp2:=fun x hx=>by
   obtain ⟨o,q,_⟩:=b.in_ x hx
   have w:=r2.gr x o (by simp only [hx,if_true]; exact q)
   grind
  refine ⟨r2.fr,fun x o q=>?_,fp2++f2,e2.app (b.mono sm fun x hx=>(hk x hx).1),?_,fun x hx=>?_⟩
  ·have z:x∉f2:=fun z=>by
    grind
   exact r2.gr x o (by simp only [z,if_false]; exact q)
  ·grind
  grind
theorem Rel.weakG (r:Rel K O U F G' H) (h:Same G G'):Rel K O U F G H:=by
 obtain ⟨fp,e,nd,ap⟩:=r.en
 refine ⟨r.fr,fun a o q=>r.gr a o (h a o q),fp,e,nd,fun a ha=>⟨(ap a ha).1,?_⟩⟩
 cases q:G a with
 | none=>rfl
 | some o=>have:=(ap a ha).2; rw [h a o q] at this; cases this
theorem Rel.swap (h:O.length=U.length) (h1:O1.length=U1.length) (r:Rel K (O++(O1++O2)) (U++(U1++U2)) F G H):Rel K (O++(O2++O1)) (U++(U2++U1)) F G H:=by
 obtain ⟨fp,e,nd,ap⟩:=r.en
 obtain ⟨f0,f12,rfl,a,b⟩:=e.cut h
 obtain ⟨f1,f2,rfl,b,c⟩:=b.cut h1
 have p:(f0++(f2++f1)).Perm (f0++(f1++f2)):=List.Perm.append_left _ perm_append_comm
 exact ⟨r.fr,r.gr,_,a.app (c.app b),p.nodup_iff.mpr nd,fun x hx=>ap x (p.mem_iff.mp hx)⟩
theorem Rel.push (r:Rel K O U F G H) (h:Rep K F v d):Rel K (O++[some (.sh d)]) (U++[some v]) F G H:=by
 obtain ⟨fp,e,nd,ap⟩:=r.en
 refine ⟨r.fr,r.gr,fp++([]++[]),e.app (.so (.sh h) .nil),?_,fun x hx=>ap x ?_⟩
 ·simpa using nd
 ·simpa using hx
theorem Rel.pushN (r:Rel K O U F G H):Rel K (O++[none]) (U++[u]) F G H:=by
 obtain ⟨fp,e,nd,ap⟩:=r.en
 refine ⟨r.fr,r.gr,fp++[],e.app (.no .nil),?_,fun x hx=>ap x ?_⟩
 ·simpa using nd
 ·simpa using hx
theorem zbN (h:slot O i=some s):O[i]?=some (some s):=by
 induction O generalizing i with
 | nil=>simp [slot] at h
 | cons a r ih=>cases i with
   | zero=>simp at h; simp [h]
   | succ i=>simp at h; simpa using ih h
theorem zb7 (h:slot O i=some s):i < O.length:=(qh.mp (zbN h)).1
theorem zbU (h:i < O.length):slot (O++O') i=slot O i:=by
 induction O generalizing i with
 | nil=>simp at h
 | cons a r ih=>cases i with
   | zero=>rfl
   | succ i=>simpa using ih (by simpa using h)
theorem zax:slot (O++o::O') O.length=o:=by
 induction O with
 | nil=>rfl
 | cons a r ih=>simpa using ih
theorem Rel.at (r:Rel K O U F G H) (h:slot O i=some s):∃ v fp,U[i]?=some (some v)/\SRep K F H v s fp:=by
 obtain ⟨fp,e,nd,ap⟩:=r.en
 obtain ⟨v,fa,fi,fb,e1,_,q,_⟩:=e.at h
 exact ⟨v,fi,e1,q⟩
theorem Rel.give (r:Rel K O U F G H) (h:slot O i=some s):∃ v F',U[i]?=some (some v)/\Same F F'/\Rep K F' v s.toD/\Rel K (O.set i (some (.sh s.toD))) U F' G H:=by
 classical
 obtain ⟨fp,e,nd,ap⟩:=r.en
 obtain ⟨v,fa,fi,fb,e1,rfl,q,up⟩:=e.at h
 obtain ⟨na,nib,nab⟩:=nodup_append.mp nd
 obtain ⟨ni,nb,nib⟩:=nodup_append.mp nib
 have nofi:∀ x∈fa++fb,x∉fi:=fun x hx z=>by
  grind
 have sm:Same F (fun x=>if x∈fi then H x else F x):=fun x o w=>by
  grind
 have rp:Rep K (fun x=>if x∈fi then H x else F x) v s.toD:=q.frz sm fun x hx=>by simp only [hx,if_true]
 have e2:U.set i (some v)=U:=by
  apply ext_getElem?
  grind
 refine ⟨v,_,e1,sm,rp,fun x o w=>?_,fun x o w=>?_,fa++([]++fb),?_,?_,fun x hx=>?_⟩
 ·by_cases z:x∈fi
  ·simp only [z,if_true] at w; exact w
  ·simp only [z,if_false] at w; exact r.fr x o w
 ·have w2:=r.gr x o w
  grind
 ·have:=up (F':=fun x=>if x∈fi then H x else F x) (H':=H) (o:=some (.sh s.toD)) (u:=some v) (fi':=[]) sm (fun _ _=>rfl) (.so (.sh rp) .nil)
  rw [e2] at this
  exact this
 ·grind
 grind
theorem Rel.store (r:Rel K (O++[o]) (U++[u]) F G H) (h:O.length=U.length) (hi:i < O.length):Rel K (O.set i o) (U.set i u) F G H:=by
 obtain ⟨fp,e,nd,ap⟩:=r.en
 obtain ⟨f1,f2,rfl,a,b⟩:=e.cut h
 obtain ⟨fa,fi,fb,rfl,up⟩:=a.put hi
 obtain ⟨n1,n2,n12⟩:=nodup_append.mp nd
 obtain ⟨na,nib,nab⟩:=nodup_append.mp n1
 obtain ⟨ni,nb,nib⟩:=nodup_append.mp nib
 refine ⟨r.fr,r.gr,fa++(f2++fb),up (Same.refl F) (fun _ _=>rfl) b,?_,fun x hx=>?_⟩
 ·grind
 grind
end
end FL
end
section
namespace FL
open PySem PySem.Spec PyProof.Rows L2
abbrev St:=L2.St
abbrev wp (X:Cx) (pn:List (Addr×Obj)) (xe:Value->Shared->Prop):Cx:={ X with pn:=pn,xe:=xe }
noncomputable def slotOf:R->Option S
 | .v s=>some s
 | .loc _=>none
noncomputable def RV (U:St) (v:V):R->Prop
 | .v _=>True
 | .loc i=>U[i]?=some (some v)
noncomputable def RVs (U:St):List V->List R->Prop
 | [],[]=>True
 | v::vs,r::rs=>RV U v r/\RVs U vs rs
 | _,_=>False
noncomputable def clsD (K:W.Frag) (F:Hp) (d:D) (C:Addr) (dx:Option Addr):Prop:=∃ c fs vs,d=.exc c fs vs/\W.nsIn K mainGlobals (⟨c.toArray⟩:Str)=some (some (.ref C))/\XDct F dx fs vs
noncomputable def XRep (X:Cx) (F H:Hp) (h:Heap) (u:Value) (d:D):Prop:=∃ e C dx,u=.ref e/\clsD X.K F d C dx/\Fly X [] H h e (.ref C) dx
noncomputable def KP (ks:List Nat) (U U':St):Prop:=∀ i∈ks,U'[i]?=U[i]?
noncomputable def XC (X:Cx) (T:St->Prop) (F G:Hp) (PX:WX):Prop:=∀ (d:D) (O':Env) (U':St) (F' H':Hp) (u:Value) (s':Shared),PX d O'->T U'->Same F F'->Rel X.K O' U' F' G H'->Inv X [] U' H' s'->XRep X F' H' s'.heap u d->X.xe u s'
theorem XC.mono (h:XC X T F G PX) (t:∀ U,T' U->T U) (f:Same F F') (g:Same G G'):XC X T' F' G' PX:=
 fun d O' U' F2 H2 u s' p q sm r I x=>h d O' U' F2 H2 u s' p (t _ q) (f.trans sm) (r.weakG g) I x
theorem XC.grow (h:XC X T F G PX) (f:Same F F'):XC X T F' G PX:=h.mono (fun _ z=>z) f (Same.refl G)
inductive tW (X:Cx) (w:WE) (U:St) (H:Hp) (Q:VK):Prop
 | mk (F G:Hp) (O:Env) (P:WQ) (PX:WX) (rel:Rel X.K O U F G H) (hw:w O P PX) (hok:∀ r O' v F' H',P r O'->Same F F'->Rel X.K (O'++[slotOf r]) (U++[some v]) F' G H'->RV U v r->Q v H') (hx:XC X (·=U) F G PX):tW X w U H Q
noncomputable def FE (X:Cx) (e:Expr) (w:WE):Prop:=∀ (pn:List (Addr×Obj)) (xe:Value->Shared->Prop),PassesOwn (model X.prog X.w) X.A X.env xe->PE (wp X pn xe) e (tW (wp X pn xe) w)
inductive tWT (X:Cx) (w:WT) (U:St) (H:Hp) (Q:Bool->Hp->Prop):Prop
 | mk (F G:Hp) (O:Env) (P:Bool->Env->Prop) (PX:WX) (rel:Rel X.K O U F G H) (hw:w O P PX) (hok:∀ b O' F' H',P b O'->Same F F'->Rel X.K O' U F' G H'->Q b H') (hx:XC X (·=U) F G PX):tWT X w U H Q
noncomputable def FT (X:Cx) (e:Expr) (w:WT):Prop:=∀ (pn:List (Addr×Obj)) (xe:Value->Shared->Prop),PassesOwn (model X.prog X.w) X.A X.env xe->PT (wp X pn xe) e (tWT (wp X pn xe) w)
noncomputable def FW (X:Cx) (e:Expr) (w:WT):Prop:=∀ (pn:List (Addr×Obj)) (xe:Value->Shared->Prop),PassesOwn (model X.prog X.w) X.A X.env xe->PW (wp X pn xe) e (tWT (wp X pn xe) w)
inductive tWA (X:Cx) (w:WA) (U:St) (H:Hp) (Q:List V->Hp->Prop):Prop
 | mk (F G:Hp) (O:Env) (P:List R->Env->Prop) (PX:WX) (rel:Rel X.K O U F G H) (hw:w O P PX) (hok:∀ rs O' vs F' H',P rs O'->Same F F'->Rel X.K (O'++rs.map slotOf) (U++vs.map some) F' G H'->O'.length=U.length->RVs U vs rs->Q vs H') (hx:XC X (·=U) F G PX):tWA X w U H Q
noncomputable def FA (X:Cx) (es:List Expr) (w:WA):Prop:=∀ (pn:List (Addr×Obj)) (xe:Value->Shared->Prop),PassesOwn (model X.prog X.w) X.A X.env xe->PA (wp X pn xe) es (tWA (wp X pn xe) w)
theorem PE.imp (h:PE X e t) (k:∀ U H Q,t' U H Q->t U H Q):PE X e t':=fun pins s U H Q I q=>h pins s U H Q I (k U H Q q)
theorem PT.imp (h:PT X e t) (k:∀ U H Q,t' U H Q->t U H Q):PT X e t':=fun pins s U H Q I q=>h pins s U H Q I (k U H Q q)
theorem PW.imp (h:PW X e t) (k:∀ U H Q,t' U H Q->t U H Q):PW X e t':=fun wh pins s U H Q I q=>h wh pins s U H Q I (k U H Q q)
theorem PA.imp (h:PA X e t) (k:∀ U H Q,t' U H Q->t U H Q):PA X e t':=fun p pins s U H Q I q=>h p pins s U H Q I (k U H Q q)
section
variable {K:W.Frag} {F F' H H' G G':Hp} {O O':Env} {U U':St} {v u:V}
theorem Rel.mid (r:Rel K (O++o::O') (U++w::U') F G H) (h:O.length=U.length):Rel K (O++O') (U++U') F G H:=by
 obtain ⟨fp,e,nd,ap⟩:=r.en
 obtain ⟨f1,f2,rfl,a,b⟩:=e.cut h
 obtain ⟨f2,f3,rfl,b,c⟩:=EnvRep.cut (O:=[o]) (U:=[w]) rfl b
 obtain ⟨n1,n2,n3⟩:=nodup_append.mp nd
 obtain ⟨n4,n5,n6⟩:=nodup_append.mp n2
 refine ⟨r.fr,r.gr,f1++f3,a.app c,nodup_append.mpr ⟨n1,n5,fun x hx y hy=>n3 x hx y (qj _ hy)⟩,fun x hx=>ap x ?_⟩
 grind
theorem len1 (r:Rel K (O++[o]) (U++[w]) F G H):O.length=U.length:=by
 have:=r.len
 simpa using this
theorem zbu:(O++o::O').set O.length o'=O++o'::O':=by
 induction O with
 | nil=>rfl
 | cons a r ih=>simpa using ih
theorem zae (h:need o k):∃ a,o=some a/\k a:=by
 cases o with
 | none=>exact h.elim
 | some a=>exact ⟨a,rfl,h⟩
noncomputable def RepE (K:W.Frag) (F H:Hp) (v:V) (d:D):Prop:=Rep K F v d\/
 (∃ a xs ds,v=.ref a/\d=.lst ds/\H a=some (.lst xs)/\Reps K F xs ds)\/
 (∃ a kvs ks vs,v=.ref a/\d=.dct false ks vs/\H a=some (.dK kvs)/\ks=kvs.map (fun p=>keyD p.1)/\Reps K F (kvs.map (·.2)) vs)\/
 (∃ a kvs ks vs,v=.ref a/\d=.dct true ks vs/\H a=some (.dT kvs)/\ks=kvs.map (fun p=>D.tup (p.1.map keyD))/\Reps K F (kvs.map (·.2)) vs)
theorem RepE.mono (h:Same F F') (r:RepE K F H v d):RepE K F' H v d:=by
 rcases r with r | ⟨a,xs,ds,e1,e2,e3,r⟩ | ⟨a,kvs,ks,vs,e1,e2,e3,e4,r⟩ | ⟨a,kvs,ks,vs,e1,e2,e3,e4,r⟩
 ·exact .inl (r.mono h)
 ·exact .inr (.inl ⟨a,xs,ds,e1,e2,e3,r.mono h⟩)
 ·exact .inr (.inr (.inl ⟨a,kvs,ks,vs,e1,e2,e3,e4,r.mono h⟩))
 ·exact .inr (.inr (.inr ⟨a,kvs,ks,vs,e1,e2,e3,e4,r.mono h⟩))
theorem SReps.sh (r:SReps K F H xs l fp):l.all S.isSh=true->Reps K F xs (l.map S.toD)/\fp=[]:=
 SReps.ind (P:=fun xs l fp=>l.all S.isSh=true->Reps K F xs (l.map S.toD)/\fp=[]) (fun _=>⟨.nil,rfl⟩) (fun a _ ih h=>by
  rw [all_cons,and_eq_true] at h
  obtain ⟨q,e⟩:=ih h.2
  cases a with
  | sh r=>exact ⟨.cons r q,e⟩
  | _=>exact absurd h.1 (by simp [S.isSh])) r
theorem look (r:Rel K (O++(slotOf x::O')) (U++(some v::U')) F G H) (h:O.length=U.length) (rv:RV U v x) (e:view x O=some d):Rep K H v d:=by
 cases x with
 | v s=>
   obtain ⟨u,fp,e1,q⟩:=r.at (i:=O.length) (s:=s) zax
   rw [h,getElem?_append_right (le_refl _),sub_self] at e1
   have e2:v=u:=by simpa using e1
   subst e2
   have e3:s.toD=d:=qg e
   rw [<- e3]
   exact q.view r.fr
 | loc i=>
   have e':(slot O i).map S.toD=some d:=e
   cases q:slot O i with
   | none=>rw [q] at e'; cases e'
   | some s=>
     rw [q] at e'
     have e3:s.toD=d:=qg e'
     have hi:=zb7 q
     obtain ⟨u,fp,e1,w⟩:=r.at (i:=i) (s:=s) (by rw [zbU hi]; exact q)
     rw [getElem?_append_left (h ▸ hi)] at e1
     have rv':U[i]?=some (some v):=rv
     rw [rv'] at e1
     have e2:v=u:=by simpa using e1
     subst e2
     rw [<- e3]
     exact w.view r.fr
theorem takeC (r:Rel K (O++(slotOf x::O')) (U++(some v::U')) F G H) (h:O.length=U.length) (rv:RV U v x) (e:viewC x O=some d):
  ∃ F',Same F F'/\RepE K F' H v d/\Rel K (O++O') (U++U') F' G H:=by
 cases x with
 | v s=>
   obtain ⟨u,F',e1,sm,rp,r'⟩:=r.give (i:=O.length) (s:=s) zax
   rw [h,getElem?_append_right (le_refl _),sub_self] at e1
   have e2:v=u:=by simpa using e1
   subst e2
   have e3:s.toD=d:=qg e
   rw [show (O++slotOf (.v s)::O').set O.length (some (S.sh s.toD))=O++some (S.sh s.toD)::O' from zbu] at r'
   exact ⟨F',sm,.inl (e3 ▸ rp),r'.mid h⟩
 | loc i=>
   have e':(match slot O i with | some s=>if s.flat then some s.toD else none | none=>none)=some d:=e
   cases q:slot O i with
   | none=>rw [q] at e'; cases e'
   | some s=>
     rw [q] at e'
     have hi:=zb7 q
     obtain ⟨u,fp,e1,w⟩:=r.at (i:=i) (s:=s) (by rw [zbU hi]; exact q)
     rw [getElem?_append_left (h ▸ hi)] at e1
     have rv':U[i]?=some (some v):=rv
     rw [rv'] at e1
     have e2:v=u:=by simpa using e1
     subst e2
     refine ⟨F,Same.refl F,?_,r.mid h⟩
     by_cases hf:s.flat=true
     ·have e3:s.toD=d:=by
       grind
      subst e3
      cases w with
      | sh r=>exact .inl r
      | lst e0 r0=>
        obtain ⟨r1,_⟩:=r0.sh hf
        exact .inr (.inl ⟨_,_,_,rfl,by simp,e0,r1⟩)
      | dK e0 k0 r0=>
        obtain ⟨r1,_⟩:=r0.sh hf
        exact .inr (.inr (.inl ⟨_,_,_,_,rfl,by simp,e0,k0,r1⟩))
      | dT e0 k0 r0=>
        obtain ⟨r1,_⟩:=r0.sh hf
        exact .inr (.inr (.inr ⟨_,_,_,_,rfl,by simp,e0,k0,r1⟩))
      | st _ _=>exact absurd hf (by simp [S.flat])
     grind
theorem giveR (r:Rel K (O++(slotOf x::O')) (U++(some v::U')) F G H) (h:O.length=U.length) (rv:RV U v x) (e:give x O=some (s,O1)):
  ∃ F',Same F F'/\O1.length=O.length/\Rel K (O1++(some s::O')) (U++(some v::U')) F' G H:=by
 cases x with
 | v t=>
   have e':some (t,O)=some (s,O1):=e
   cases e'
   exact ⟨F,Same.refl F,rfl,r⟩
 | loc i=>
   have e':(match slot O i with | some s=>some (S.sh s.toD,O.set i (some (.sh s.toD))) | none=>none)=some (s,O1):=e
   cases q:slot O i with
   | none=>rw [q] at e'; cases e'
   | some t=>
     rw [q] at e'
     cases e'
     have hi:=zb7 q
     obtain ⟨u,F',e1,sm,rp,r'⟩:=r.give (i:=i) (s:=t) (by rw [zbU hi]; exact q)
     rw [getElem?_append_left (h ▸ hi)] at e1
     have rv':U[i]?=some (some v):=rv
     rw [rv'] at e1
     have e2:v=u:=by simpa using e1
     subst e2
     rw [List.set_append_left _ _ hi] at r'
     refine ⟨F',sm,by simp,?_⟩
     obtain ⟨fp,en,nd,ap⟩:=r'.en
     have hl:(O.set i (some (S.sh t.toD))).length=U.length:=by simpa using h
     obtain ⟨f1,f2,rfl,a,b⟩:=en.cut hl
     have b':EnvRep K F' H (none::O') (some v::U') f2:=b
     cases b' with
     | no b=>exact ⟨r'.fr,r'.gr,f1++([]++f2),a.app (.so (.sh rp) b),by simpa using nd,fun x hx=>ap x (by simpa using hx)⟩
end
theorem tW.mono (h:tW X w U H Q) (k:∀ v H',Q v H'->Q' v H'):tW X w U H Q':=by
 obtain ⟨F,G,O,P,PX,rel,hw,hok,hx⟩:=h
 exact ⟨F,G,O,P,PX,rel,hw,fun r O' v F' H' a b c d=>k _ _ (hok r O' v F' H' a b c d),hx⟩
section
variable {X:Cx} {U:St} {H:Hp} {Q:VK}
inductive Two (X:Cx) (U:St) (k:R->R->Env->WQ->WX->Prop) (Q:VK) (v u:V) (H:Hp):Prop
 | mk (F G:Hp) (O:Env) (x y:R) (P:WQ) (PX:WX) (rel:Rel X.K (O++[slotOf x,slotOf y]) (U++[some v,some u]) F G H) (hl:O.length=U.length) (rx:RV U v x) (ry:RV U u y) (hk:k x y O P PX) (hok:∀ r O' v F' H',P r O'->Same F F'->Rel X.K (O'++[slotOf r]) (U++[some v]) F' G H'->RV U v r->Q v H') (hx:XC X (·=U) F G PX):Two X U k Q v u H
theorem two (h:tW X (fun O Q E=>wa O (fun x O1=>wb O1 (fun y O2=>k x y O2 Q E) E) E) U H Q):
  tW X wa U H fun v H1=>tW X wb U H1 fun u H2=>Two X U k Q v u H2:=by
 obtain ⟨F,G,O,P,PX,rel,hw,hok,hx⟩:=h
 refine ⟨F,G,O,_,PX,rel,hw,fun x O1 v F1 H1 hp1 s1 r1 rv1=>?_,hx⟩
 have h1:=len1 r1
 obtain ⟨G1,rel1,gg,back⟩:=r1.hide h1
 refine ⟨F1,G1,O1,_,PX,rel1,hp1,fun y O2 u F2 H2 hp2 s2 r2 rv2=>?_,hx.mono (fun _ z=>z) s1 gg⟩
 have h2:=len1 r2
 have r3:=back s2 r2
 rw [append_assoc,append_assoc] at r3
 exact ⟨F2,G,O2,x,y,P,PX,Rel.swap (O1:=[slotOf y]) (U1:=[some u]) (O2:=[slotOf x]) (U2:=[some v]) h2 rfl r3,h2,rv1,rv2,hp2,fun r O' v F' H' a b c d=>hok r O' v F' H' a (s1.trans (s2.trans b)) c d,hx.grow (s1.trans s2)⟩
inductive One (X:Cx) (U:St) (k:R->Env->WQ->WX->Prop) (Q:VK) (v:V) (H:Hp):Prop
 | mk (F G:Hp) (O:Env) (x:R) (P:WQ) (PX:WX) (rel:Rel X.K (O++[slotOf x]) (U++[some v]) F G H) (hl:O.length=U.length) (rx:RV U v x) (hk:k x O P PX) (hok:∀ r O' v F' H',P r O'->Same F F'->Rel X.K (O'++[slotOf r]) (U++[some v]) F' G H'->RV U v r->Q v H') (hx:XC X (·=U) F G PX):One X U k Q v H
theorem one (h:tW X (fun O Q E=>wa O (fun x O1=>k x O1 Q E) E) U H Q):tW X wa U H fun v H1=>One X U k Q v H1:=by
 obtain ⟨F,G,O,P,PX,rel,hw,hok,hx⟩:=h
 exact ⟨F,G,O,_,PX,rel,hw,fun x O1 v F1 H1 hp1 s1 r1 rv1=>⟨F1,G,O1,x,P,PX,r1,len1 r1,rv1,hp1,fun r O' v F' H' a b c d=>hok r O' v F' H' a (s1.trans b) c d,hx.grow s1⟩,hx⟩
end
section
variable {X:Cx}
theorem zlX (hN:X.N[i]?=some x) (hv:Vis X.env.scope x) (hd:(x == ("__debug__":Str))=false:=by decide) (hcd:(x == ("__classdict__":Str))=false:=by decide):FE X (.Name x pos) (wVar i):=by
 intro pn xe hp
 refine PE.imp (zng (X:=wp X pn xe) hN hv hd hcd) fun U H Q h=>?_
 obtain ⟨F,G,O,P,PX,rel,hw,hok,hx⟩:=h
 unfold wVar at hw
 cases q:slot O i with
 | none=>rw [q] at hw; exact hw.elim
 | some s=>
   obtain ⟨v,fp,e1,sr⟩:=rel.at q
   rw [q] at hw
   cases s with
   | sh d=>
     cases sr with
     | sh r=>exact ⟨v,e1,hok _ _ v F H hw (Same.refl F) (rel.push r) trivial⟩
   | lst l=>exact ⟨v,e1,hok _ _ v F H hw (Same.refl F) rel.pushN e1⟩
   | dct t a b=>exact ⟨v,e1,hok _ _ v F H hw (Same.refl F) rel.pushN e1⟩
   | set l=>exact ⟨v,e1,hok _ _ v F H hw (Same.refl F) rel.pushN e1⟩
theorem fe_c (h:∀ X:Cx,PE X e (tC v)) (r:∀ K F,Rep K F v d):FE X e (wC d):=by
 intro pn xe hp
 refine PE.imp (h _) fun U H Q h=>?_
 obtain ⟨F,G,O,P,PX,rel,hw,hok,hx⟩:=h
 exact hok _ _ v F H hw (Same.refl F) (rel.push (r _ _)) trivial
theorem zad:FE X (.Constant (.int i) j pos) (wC (.int i)):=fe_c (fun _=>zn2) fun _ _=>.int i
theorem zfn:FE X (.Constant .none j pos) (wC .non):=fe_c (fun _=>znp) fun _ _=>.non
theorem zbC (e:x.cps.toList=l) (z:l.length<=16777216):FE X (.Constant (.str x) j pos) (wC (.str l)):=fe_c (fun _=>zmw) fun _ _=>.str e z
end
section
variable {X:Cx} {a b c:Expr} {wa wb wc:WE} {pos:Pos}
theorem OpR.or (h:OpR X f r) (h':OpR X f r'):OpR X f (fun x y H Q=>r x y H Q\/r' x y H Q):=fun pins s U H x y v u Q I rx ry q=>
 q.elim (fun z=>h pins s U H x y v u Q I rx ry z) fun z=>h' pins s U H x y v u Q I rx ry z
noncomputable def Does (K:W.Frag) (r:R2) (op:D->D->Option S):Prop:=∀ (U:St) (O:Env) (F G H:Hp) (x y:V) (p q:D) (s:S) (Q:VK),Rel K O U F G H->RepE K F H x p->RepE K F H y q->op p q=some s->
 (∀ v F' H',Same F F'->Rel K (O++[some s]) (U++[some v]) F' G H'->Q v H')->r x y H Q
theorem zbT (ho:∀ pn xe,OpR (wp X pn xe) (binaryOp op) r) (hd:Does X.K r o) (ha:FE X a wa) (hb:FE X b wb):FE X (.BinOp a op b pos) (wBin o wa wb):=by
 intro pn xe hp
 refine PE.imp (zoU (ho pn xe) (ha pn xe hp) (hb pn xe hp)) fun U H Q h=>?_
 refine (two (k:=fun x y O2 Q E=>need (viewC x O2) fun p=>need (viewC y O2) fun q=>need (o p q) fun s=>Q (.v s) O2) h).mono fun v H1 h1=>h1.mono fun u H2 h2=>?_
 obtain ⟨F,G,O,x,y,P,PX,rel,hl,rx,ry,hk,hok,hx⟩:=h2
 obtain ⟨p,ep,hk⟩:=zae hk
 obtain ⟨q,eq,hk⟩:=zae hk
 obtain ⟨t,et,hk⟩:=zae hk
 obtain ⟨F1,s1,re1,rel1⟩:=takeC rel hl rx ep
 obtain ⟨F2,s2,re2,rel2⟩:=takeC (O':=[]) (U':=[]) rel1 hl ry eq
 rw [append_nil,append_nil] at rel2
 exact hd U O F2 G H2 v u p q t Q rel2 (re1.mono s2) re2 et fun v' F' H' sm r'=>hok (.v t) O v' F' H' hk (s1.trans (s2.trans sm)) r' trivial
end
theorem tWA.mono (h:tWA X w U H Q) (k:∀ v H',Q v H'->Q' v H'):tWA X w U H Q':=by
 obtain ⟨F,G,O,P,PX,rel,hw,hok,hx⟩:=h
 exact ⟨F,G,O,P,PX,rel,hw,fun r O' v F' H' a b c d e=>k _ _ (hok r O' v F' H' a b c d e),hx⟩
section
variable {X:Cx} {a b c:Expr} {wa wb wc:WE} {ta tb:WT} {pos:Pos} {U:St} {H:Hp}
inductive TwoT (X:Cx) (U:St) (k:R->R->Env->(Bool->Env->Prop)->WX->Prop) (Q:Bool->Hp->Prop) (v u:V) (H:Hp):Prop
 | mk (F G:Hp) (O:Env) (x y:R) (P:Bool->Env->Prop) (PX:WX) (rel:Rel X.K (O++[slotOf x,slotOf y]) (U++[some v,some u]) F G H) (hl:O.length=U.length) (rx:RV U v x) (ry:RV U u y) (hk:k x y O P PX) (hok:∀ r O' F' H',P r O'->Same F F'->Rel X.K O' U F' G H'->Q r H') (hx:XC X (·=U) F G PX):TwoT X U k Q v u H
theorem twoT (h:tWT X (fun O Q E=>wa O (fun x O1=>wb O1 (fun y O2=>k x y O2 Q E) E) E) U H Q):
  tW X wa U H fun v H1=>tW X wb U H1 fun u H2=>TwoT X U k Q v u H2:=by
 obtain ⟨F,G,O,P,PX,rel,hw,hok,hx⟩:=h
 refine ⟨F,G,O,_,PX,rel,hw,fun x O1 v F1 H1 hp1 s1 r1 rv1=>?_,hx⟩
 have h1:=len1 r1
 obtain ⟨G1,rel1,gg,back⟩:=r1.hide h1
 refine ⟨F1,G1,O1,_,PX,rel1,hp1,fun y O2 u F2 H2 hp2 s2 r2 rv2=>?_,hx.mono (fun _ z=>z) s1 gg⟩
 have h2:=len1 r2
 have r3:=back s2 r2
 rw [append_assoc,append_assoc] at r3
 exact ⟨F2,G,O2,x,y,P,PX,Rel.swap (O1:=[slotOf y]) (U1:=[some u]) (O2:=[slotOf x]) (U2:=[some v]) h2 rfl r3,h2,rv1,rv2,hp2,fun r O' F' H' a b c=>hok r O' F' H' a (s1.trans (s2.trans b)) c,hx.grow (s1.trans s2)⟩
noncomputable def DoesC (K:W.Frag) (r:R2) (op:D->D->Option Bool):Prop:=∀ (H:Hp) (x y:V) (p q:D) (k:Bool) (Q:VK),Rep K H x p->Rep K H y q->op p q=some k->Q (.bl k) H->r x y H Q
theorem look2 {K:W.Frag} (rel:Rel K (O++[slotOf x,slotOf y]) (U++[some v,some u]) F G H) (hl:O.length=U.length) (rx:RV U v x) (ry:RV U u y) (ep:view x O=some p) (eq:view y O=some q):
  Rep K H v p/\Rep K H u q/\Rel K O U F G H:=by
 have rel':Rel K (O++[slotOf y]) (U++[some u]) F G H:=rel.mid hl
 exact ⟨look rel hl rx ep,look (O':=[]) (U':=[]) rel' hl ry eq,rel'.drop hl⟩
theorem zan (ho:∀ pn xe,OpR (wp X pn xe) (compareOp op) r) (hd:DoesC X.K r o) (ha:FE X a wa) (hb:FE X b wb) (hm:behindInMarks op b=false):FT X (.Compare a [op] [b] pos) (wCmp o wa wb):=by
 intro pn xe hp
 refine PT.imp (zkR (ho pn xe) (ha pn xe hp) (hb pn xe hp) hm) fun U H Q h=>?_
 refine (twoT (k:=fun x y O2 Q E=>need (view x O2) fun p=>need (view y O2) fun q=>need (o p q) fun c=>Q c O2) h).mono fun v H1 h1=>h1.mono fun u H2 h2=>?_
 obtain ⟨F,G,O,x,y,P,PX,rel,hl,rx,ry,hk,hok,hx⟩:=h2
 obtain ⟨p,ep,hk⟩:=zae hk
 obtain ⟨q,eq,hk⟩:=zae hk
 obtain ⟨t,et,hk⟩:=zae hk
 obtain ⟨r1,r2,rel'⟩:=look2 rel hl rx ry ep eq
 exact hd H2 v u p q t _ r1 r2 et ⟨t,rfl,hok t O F H2 hk (Same.refl F) rel'⟩
theorem zht (ho:∀ pn xe,OpR (wp X pn xe) (compareOp op) r) (hd:DoesC X.K r o) (ha:FE X a wa) (hb:FE X b wb) (hm:behindInMarks op b=false):FE X (.Compare a [op] [b] pos) (wOfT (wCmp o wa wb)):=by
 intro pn xe hp
 refine PE.imp (ziT (ho pn xe) (ha pn xe hp) (hb pn xe hp) hm) fun U H Q h=>?_
 refine (two (k:=fun x y O2 Q E=>need (view x O2) fun p=>need (view y O2) fun q=>need (o p q) fun c=>Q (.v (.sh (.bl c))) O2) h).mono fun v H1 h1=>h1.mono fun u H2 h2=>?_
 obtain ⟨F,G,O,x,y,P,PX,rel,hl,rx,ry,hk,hok,hx⟩:=h2
 obtain ⟨p,ep,hk⟩:=zae hk
 obtain ⟨q,eq,hk⟩:=zae hk
 obtain ⟨t,et,hk⟩:=zae hk
 obtain ⟨r1,r2,rel'⟩:=look2 rel hl rx ry ep eq
 exact hd H2 v u p q t _ r1 r2 et (hok _ O (.bl t) F H2 hk (Same.refl F) (rel'.push (.bl t)) trivial)
theorem thenT {k:Bool->Env->(Bool->Env->Prop)->WX->Prop} (h:tWT X (fun O Q E=>ta O (fun c O1=>k c O1 Q E) E) U H Q)
  (hk:∀ (c:Bool) (F G:Hp) (O:Env) (P:Bool->Env->Prop) (PX:WX) (H1:Hp),Rel X.K O U F G H1->k c O P PX->(∀ r O' F' H',P r O'->Same F F'->Rel X.K O' U F' G H'->Q r H')->XC X (·=U) F G PX->Q' c H1):tWT X ta U H Q':=by
 obtain ⟨F,G,O,P,PX,rel,hw,hok,hx⟩:=h
 exact ⟨F,G,O,_,PX,rel,hw,fun c O1 F1 H1 hp s1 r1=>hk c F1 G O1 P PX H1 r1 hp (fun r O' F' H' a b c=>hok r O' F' H' a (s1.trans b) c) (hx.grow s1),hx⟩
theorem zgN (h:FW X a ta):FT X a ta:=fun pn xe hp=>(h pn xe hp).pt
theorem zcD (h:FT X a ta):FW X (.BoolOp .And [a] pos) ta:=fun pn xe hp=>zlp (h pn xe hp)
theorem znL (h:FT X a ta):FW X (.BoolOp .Or [a] pos) ta:=fun pn xe hp=>zod (h pn xe hp)
theorem zdX {rest:List Expr} (h:FT X a ta) (h':FW X (.BoolOp .And (b::rest) pos) tb):FW X (.BoolOp .And (a::b::rest) pos) (wtAnd ta tb):=fun pn xe hp=>by
 refine PW.imp (zoy (h pn xe hp) (h' pn xe hp)) fun U H Q q=>?_
 refine thenT (k:=fun c O1 Q E=>if c then tb O1 Q E else Q false O1) q fun c F G O P PX H1 rel hk hok hx=>?_
 cases c with
 | true=>exact ⟨F,G,O,P,PX,rel,hk,hok,hx⟩
 | false=>exact hok false O F H1 hk (Same.refl F) rel
theorem zoW {rest:List Expr} (h:FT X a ta) (h':FW X (.BoolOp .Or (b::rest) pos) tb):FW X (.BoolOp .Or (a::b::rest) pos) (wtOr ta tb):=fun pn xe hp=>by
 refine PW.imp (zqp (h pn xe hp) (h' pn xe hp)) fun U H Q q=>?_
 refine thenT (k:=fun c O1 Q E=>if c then Q true O1 else tb O1 Q E) q fun c F G O P PX H1 rel hk hok hx=>?_
 cases c with
 | false=>exact ⟨F,G,O,P,PX,rel,hk,hok,hx⟩
 | true=>exact hok true O F H1 hk (Same.refl F) rel
theorem zgc (hc:FT X c tc) (ha:FE X a wa) (hb:FE X b wb):FE X (.IfExp c a b pos) (wIfE tc wa wb):=fun pn xe hp=>by
 refine PE.imp (zjk (hc pn xe hp) (ha pn xe hp) (hb pn xe hp)) fun U H Q q=>?_
 obtain ⟨F,G,O,P,PX,rel,hw,hok,hx⟩:=q
 refine ⟨F,G,O,_,PX,rel,hw,fun c O1 F1 H1 hk s1 r1=>?_,hx⟩
 cases c with
 | true=>exact ⟨F1,G,O1,P,PX,r1,hk,fun r O' v F' H' a b c d=>hok r O' v F' H' a (s1.trans b) c d,hx.grow s1⟩
 | false=>exact ⟨F1,G,O1,P,PX,r1,hk,fun r O' v F' H' a b c d=>hok r O' v F' H' a (s1.trans b) c d,hx.grow s1⟩
end
section
variable {X:Cx} {e:Expr} {es:List Expr} {wa:WE} {wb:WA} {pos:Pos} {K:W.Frag}
theorem zab:FA X [] wNil:=fun pn xe hp=>PA.imp zf4 fun U H Q q=>by
 obtain ⟨F,G,O,P,PX,rel,hw,hok,hx⟩:=q
 exact hok [] O [] F H hw (Same.refl F) (by simpa using rel) rel.len trivial
theorem zaa (ha:FE X e wa) (hb:FA X es wb) (hs:starEach (e::es) X.env=(false,eval e X.env)::starEach es X.env:=by rfl):FA X (e::es) (wCons wa wb):=fun pn xe hp=>by
 refine PA.imp (zdO (ha pn xe hp) (hb pn xe hp) hs) fun U H Q q=>?_
 obtain ⟨F,G,O,P,PX,rel,hw,hok,hx⟩:=q
 refine ⟨F,G,O,_,PX,rel,hw,fun x O1 v F1 H1 hp1 s1 r1 rv1=>?_,hx⟩
 have h1:=len1 r1
 obtain ⟨G1,rel1,gg,back⟩:=r1.hide h1
 refine ⟨F1,G1,O1,_,PX,rel1,hp1,fun rs O2 vs F2 H2 hp2 s2 r2 h2 rv2=>?_,hx.mono (fun _ z=>z) s1 gg⟩
 have r3:=back s2 r2
 rw [append_assoc,append_assoc] at r3
 have hl:(rs.map slotOf).length=(vs.map some).length:=by
  have:=r2.len
  grind
 exact hok (x::rs) O2 (v::vs) F2 H2 hp2 (s1.trans s2) (Rel.swap (O1:=rs.map slotOf) (U1:=vs.map some) (O2:=[slotOf x]) (U2:=[some v]) h2 hl r3) h2 ⟨rv1,rv2⟩
end
section
variable {K:W.Frag} {F F' H H' G G':Hp} {U U':St} {v u:V}
theorem RVs.len:∀ {vs:List V} {rs:List R},RVs U vs rs->vs.length=rs.length
 | [],[],_=>rfl
 | [],_::_,h=>h.elim
 | _::_,[],h=>h.elim
 | _::vs,_::rs,h=>by simp [RVs.len h.2]
theorem zcb:∀ {rs:List R} {vs:List V} {O O' O1:Env} {ss:List S} {F:Hp} {U':St},Rel K (O++(rs.map slotOf++O')) (U++(vs.map some++U')) F G H->O.length=U.length->RVs U vs rs->giveAll rs O=some (ss,O1)->
  ∃ F',Same F F'/\O1.length=O.length/\ss.length=rs.length/\Rel K (O1++(ss.map some++O')) (U++(vs.map some++U')) F' G H
 | [],[],O,O',O1,ss,F,U',r,h,_,e=>by
   have e':some (([]:List S),O)=some (ss,O1):=e
   cases e'
   exact ⟨F,Same.refl F,rfl,rfl,r⟩
 | [],_::_,_,_,_,_,_,_,_,_,h,_=>h.elim
 | _::_,[],_,_,_,_,_,_,_,_,h,_=>h.elim
 | x::rs,v::vs,O,O',O1,ss,F,U',r,h,rv,e=>by
   have e':(match give x O with | some (s,O1)=>(match giveAll rs O1 with | some (ss,O2)=>some (s::ss,O2) | none=>none) | none=>none)=some (ss,O1):=e
   cases q:give x O with
   | none=>rw [q] at e'; cases e'
   | some p=>
     obtain ⟨s,O2⟩:=p
     rw [q] at e'
     cases q2:giveAll rs O2 with
     | none=>simp only [q2] at e'; cases e'
     | some p2=>
       obtain ⟨ts,O3⟩:=p2
       simp only [q2] at e'
       cases e'
       obtain ⟨F1,s1,l1,r1⟩:=giveR (O':=rs.map slotOf++O') (U':=vs.map some++U') r h rv.1 q
       have h2:O2.length=U.length:=l1.trans h
       have hl:(rs.map slotOf++O').length=(vs.map some++U').length:=by
        have:=r1.len
        rw [length_append,length_append,h2,length_cons,length_cons] at this
        lia
       have hl':O'.length=U'.length:=by
        have:=rv.2.len
        simp at hl
        lia
       have r2:=Rel.swap (O1:=[some s]) (U1:=[some v]) (O2:=rs.map slotOf++O') (U2:=vs.map some++U') h2 rfl r1
       rw [append_assoc,append_assoc] at r2
       obtain ⟨F2,s2,l2,l3,r3⟩:=zcb (rs:=rs) (vs:=vs) r2 h2 rv.2 q2
       have h3:O1.length=U.length:=l2.trans h2
       rw [<- append_assoc (ts.map some),<- append_assoc (vs.map some)] at r3
       have r4:=Rel.swap (O1:=ts.map some++O') (U1:=vs.map some++U') (O2:=[some s]) (U2:=[some v]) h3 (by simp [l3,rv.2.len,hl']) r3
       exact ⟨F2,s1.trans s2,l2.trans l1,by simp [l3],r4⟩
theorem envReps:∀ {vs:List V} {ss:List S} {fp:List Addr},EnvRep K F H (ss.map some) (vs.map some) fp->SReps K F H vs ss fp
 | [],[],_,.nil=>.nil
 | [],_::_,_,h=>nomatch h
 | _::_,[],_,h=>nomatch h
 | v::vs,s::ss,_,.so a b=>.cons a (envReps b)
theorem Rel.newL (r:Rel K (O++ss.map some) (U++vs.map some) F G H) (h:O.length=U.length) (hp:H p=none):
  Rel K (O++[some (.lst ss)]) (U++[some (.ref p)]) F G (upd H p (.lst vs)):=by
 obtain ⟨f0,g0,n0⟩:=r.free hp
 obtain ⟨fp,e,nd,ap⟩:=r.en
 have hne:∀ a∈fp,a≠p:=fun a ha z=>n0 fp e (z ▸ ha)
 obtain ⟨f1,f2,rfl,en1,en2⟩:=(e.mono (H':=upd H p (.lst vs)) (Same.refl F) fun a ha=>zaf (hne a ha)).cut h
 refine ⟨Same.updR r.fr f0,fun a u q=>?_,f1++((p::f2)++[]),en1.app (.so (.lst zai (envReps en2)) .nil),?_,fun a ha=>?_⟩
 ·have hp:a≠p:=fun z=>by rw [z,g0] at q; cases q
  rw [zaf hp]; exact r.gr a u q
 ·grind
 grind
theorem Rel.giveD {ss:List S} (r:Rel K (O++ss.map some) (U++vs.map some) F G H) (h:O.length=U.length):∃ F',Same F F'/\Reps K F' vs (ss.map S.toD)/\Rel K O U F' G H:=by
 classical
 obtain ⟨fp,e,nd,ap⟩:=r.en
 obtain ⟨f1,f2,rfl,a,b⟩:=e.cut h
 obtain ⟨n1,n2,n3⟩:=nodup_append.mp nd
 have sm:Same F (fun x=>if x∈f2 then H x else F x):=fun x o w=>by
  grind
 have rp:=(envReps b).frz sm fun x hx=>by simp only [hx,if_true]
 rw [S.toDs_map] at rp
 refine ⟨_,sm,rp,fun x o w=>?_,fun x o w=>?_,f1,a.mono sm fun _ _=>rfl,n1,fun x hx=>?_⟩
 ·by_cases z:x∈f2
  ·simp only [z,if_true] at w; exact w
  ·simp only [z,if_false] at w; exact r.fr x o w
 ·have w2:=r.gr x o w
  grind
 grind
end
section
variable {X:Cx} {es:List Expr} {wa:WA} {pos:Pos}
inductive Many (X:Cx) (U:St) (k:List R->Env->WQ->WX->Prop) (Q:VK) (vs:List V) (H:Hp):Prop
 | mk (F G:Hp) (O:Env) (rs:List R) (P:WQ) (PX:WX) (rel:Rel X.K (O++rs.map slotOf) (U++vs.map some) F G H) (hl:O.length=U.length) (rv:RVs U vs rs) (hk:k rs O P PX) (hok:∀ r O' v F' H',P r O'->Same F F'->Rel X.K (O'++[slotOf r]) (U++[some v]) F' G H'->RV U v r->Q v H') (hx:XC X (·=U) F G PX):Many X U k Q vs H
theorem many (h:tW X (fun O Q E=>wa O (fun rs O1=>k rs O1 Q E) E) U H Q):tWA X wa U H fun vs H1=>Many X U k Q vs H1:=by
 obtain ⟨F,G,O,P,PX,rel,hw,hok,hx⟩:=h
 exact ⟨F,G,O,_,PX,rel,hw,fun rs O1 vs F1 H1 hp1 s1 r1 h1 rv1=>⟨F1,G,O1,rs,P,PX,r1,h1,rv1,hp1,fun r O' v F' H' a b c d=>hok r O' v F' H' a (s1.trans b) c d,hx.grow s1⟩,hx⟩
theorem zaM (h:FA X es wa):FE X (.List es pos) (wLst wa):=fun pn xe hp=>by
 refine PE.imp (znl (h pn xe hp)) fun U H Q q=>?_
 refine (many (k:=fun rs O1 Q E=>need (if rs.length<=big then giveAll rs O1 else none) fun p=>Q (.v (.lst p.1)) p.2) q).mono fun vs H1 h1=>?_
 obtain ⟨F,G,O,rs,P,PX,rel,hl,rv,hk,hok,hx⟩:=h1
 obtain ⟨⟨ss,O1⟩,ep,hk⟩:=zae hk
 by_cases hz:rs.length<=big
 ·rw [if_pos hz] at ep
  obtain ⟨F1,s1,l1,l2,r1⟩:=zcb (O':=[]) (U':=[]) (by simpa using rel) hl rv ep
  refine ⟨by rw [rv.len,sizeLine_eq]; exact le_trans hz (by decide),fun p hp=>hok _ O1 (.ref p) F1 _ hk s1 (Rel.newL (by simpa using r1) (l1.trans hl) hp) trivial⟩
 ·rw [if_neg hz] at ep; cases ep
theorem zaA (h:FA X es wa):FE X (.Tuple es k pos) (wTup wa):=fun pn xe hp=>by
 refine PE.imp (zl7 (h pn xe hp)) fun U H Q q=>?_
 refine (many (k:=fun rs O1 Q E=>need (if rs.length<=big then giveAll rs O1 else none) fun p=>Q (.v (.sh (.tup (p.1.map S.toD)))) p.2) q).mono fun vs H1 h1=>?_
 obtain ⟨F,G,O,rs,P,PX,rel,hl,rv,hk,hok,hx⟩:=h1
 obtain ⟨⟨ss,O1⟩,ep,hk⟩:=zae hk
 by_cases hz:rs.length<=big
 ·rw [if_pos hz] at ep
  obtain ⟨F1,s1,l1,l2,r1⟩:=zcb (O':=[]) (U':=[]) (by simpa using rel) hl rv ep
  obtain ⟨F2,s2,rp,r2⟩:=Rel.giveD (O:=O1) (by simpa using r1) (l1.trans hl)
  refine ⟨by rw [rv.len,sizeLine_eq]; exact le_trans hz (by decide),fun p hp=>?_⟩
  have n2:=(r2.free hp).1
  exact hok _ O1 (.ref p) _ _ hk (s1.trans (s2.trans (Same.upd n2))) ((r2.newF hp).push (.tup zai (rp.mono (Same.upd n2)))) trivial
 ·rw [if_neg hz] at ep; cases ep
end
theorem KP.refl:KP ks U U:=fun _ _=>rfl
theorem KP.trans (a:KP ks U U1) (b:KP ks U1 U2):KP ks U U2:=fun i h=>(b i h).trans (a i h)
inductive tWS (X:Cx) (ks:List Nat) (w:WS) (D:L2.Ends) (U:St) (H:Hp):Prop
 | mk (F G:Hp) (O:Env) (E:Ends) (rel:Rel X.K O U F G H) (hw:w E O) (n:∀ O' U' F' H',E.nx O'->KP ks U U'->Same F F'->Rel X.K O' U' F' G H'->D.nx U' H') (b:∀ O' U' F' H',E.bk O'->KP ks U U'->Same F F'->Rel X.K O' U' F' G H'->D.bk U' H') (c:∀ O' U' F' H',E.ct O'->KP ks U U'->Same F F'->Rel X.K O' U' F' G H'->D.ct U' H') (r:∀ r O' U' v F' H',E.rt r O'->KP ks U U'->Same F F'->Rel X.K (O'++[slotOf r]) (U'++[some v]) F' G H'->RV U' v r->D.rt v H') (hx:XC X (KP ks U) F G E.ex):tWS X ks w D U H
noncomputable def FS (X:Cx) (ks:List Nat) (st:Stmt) (w:WS):Prop:=∀ (pn:List (Addr×Obj)) (xe:Value->Shared->Prop),PassesOwn (model X.prog X.w) X.A X.env xe->PS (wp X pn xe) st (tWS (wp X pn xe) ks w)
noncomputable def FSs (X:Cx) (ks:List Nat) (st:List Stmt) (w:WS):Prop:=∀ (pn:List (Addr×Obj)) (xe:Value->Shared->Prop),PassesOwn (model X.prog X.w) X.A X.env xe->PSs (wp X pn xe) st (tWS (wp X pn xe) ks w)
theorem PS.imp (h:PS X e t) (k:∀ D U H,t' D U H->t D U H):PS X e t':=fun pins s U H D I q=>h pins s U H D I (k D U H q)
theorem PSs.imp (h:PSs X e t) (k:∀ D U H,t' D U H->t D U H):PSs X e t':=fun pins s U H D I q=>h pins s U H D I (k D U H q)
inductive tWG (X:Cx) (ks:List Nat) (g:WG) (v:V) (U:St) (H:Hp) (Q:St->Hp->Prop):Prop
 | mk (F G:Hp) (O:Env) (s:S) (P:Env->Prop) (rel:Rel X.K (O++[some s]) (U++[some v]) F G H) (hw:g s O P) (n:∀ O' U' F' H',P O'->KP ks U U'->Same F F'->Rel X.K O' U' F' G H'->Q U' H'):tWG X ks g v U H Q
noncomputable def FG (X:Cx) (ks:List Nat) (tg:Expr) (g:WG):Prop:=∀ (pn:List (Addr×Obj)) (xe:Value->Shared->Prop),PassesOwn (model X.prog X.w) X.A X.env xe->PG (wp X pn xe) tg (tWG (wp X pn xe) ks g)
theorem PG.imp (h:PG X e t) (k:∀ v U H Q,t' v U H Q->t v U H Q):PG X e t':=fun pins s U H v u Q I r q=>h pins s U H v u Q I r (k v U H Q q)
section
variable {X:Cx} {ks:List Nat} {st:Stmt} {rest:List Stmt} {w1 w2:WS} {e:Expr} {we:WE} {pos:Pos}
theorem zau:FSs X ks [] wPass:=fun pn xe hp=>PSs.imp zk8 fun D U H q=>by
 obtain ⟨F,G,O,E,rel,hw,n,b,c,r,x⟩:=q
 exact n O U F H hw KP.refl (Same.refl F) rel
theorem zac (h1:FS X ks st w1) (h2:FSs X ks rest w2):FSs X ks (st::rest) (wSeq w1 w2):=fun pn xe hp=>PSs.imp (zjV (h1 pn xe hp) (h2 pn xe hp)) fun D U H q=>by
 obtain ⟨F,G,O,E,rel,hw,n,b,c,r,x⟩:=q
 refine ⟨F,G,O,{ E with nx:=w2 E },rel,hw,fun O1 U1 F1 H1 hp k s1 r1=>?_,b,c,r,x⟩
 exact ⟨F1,G,O1,E,r1,hp,fun O' U' F' H' h k' s r=>n O' U' F' H' h (k.trans k') (s1.trans s) r,fun O' U' F' H' h k' s r=>b O' U' F' H' h (k.trans k') (s1.trans s) r,
  fun O' U' F' H' h k' s r=>c O' U' F' H' h (k.trans k') (s1.trans s) r,fun a O' U' v F' H' h k' s q rv=>r a O' U' v F' H' h (k.trans k') (s1.trans s) q rv,x.mono (fun U2 k'=>k.trans k') s1 (Same.refl G)⟩
theorem zag (h1:FS X ks st w1):FSs X ks [st] w1:=fun pn xe hp=>zkY (h1 pn xe hp)
theorem zbm (h:FE X e we) (hs:swapsWith e none pos.line X.env=pure false:=by rfl):FS X ks (.Expr e pos) (wExpr we):=fun pn xe hp=>PS.imp (zk2 (h pn xe hp) hs) fun D U H q=>by
 obtain ⟨F,G,O,E,rel,hw,n,b,c,r,x⟩:=q
 exact ⟨F,G,O,_,_,rel,hw,fun a O1 v F1 H1 hp s1 r1 rv=>n O1 U F1 H1 hp KP.refl s1 (r1.drop (len1 r1)),x.mono (fun U2 z=>by rw [z]; exact KP.refl) (Same.refl F) (Same.refl G)⟩
theorem zav (h:FE X e we):FS X ks (.Return (some e) pos) (wRet we):=fun pn xe hp=>PS.imp (zm9 (h pn xe hp)) fun D U H q=>by
 obtain ⟨F,G,O,E,rel,hw,n,b,c,r,x⟩:=q
 exact ⟨F,G,O,_,_,rel,hw,fun a O1 v F1 H1 hp s1 r1 rv=>r a O1 U v F1 H1 hp KP.refl s1 r1 rv,x.mono (fun U2 z=>by rw [z]; exact KP.refl) (Same.refl F) (Same.refl G)⟩
theorem zbb (hc:FT X c tc) (ha:FSs X ks a w1) (hb:FSs X ks b w2):FS X ks (.If c a b pos) (wIf tc w1 w2):=fun pn xe hp=>PS.imp (zqA (hc pn xe hp) (ha pn xe hp) (hb pn xe hp)) fun D U H q=>by
 obtain ⟨F,G,O,E,rel,hw,n,b,c,r,x⟩:=q
 refine ⟨F,G,O,_,_,rel,hw,fun k O1 F1 H1 hp s1 r1=>?_,x.mono (fun U2 z=>by rw [z]; exact KP.refl) (Same.refl F) (Same.refl G)⟩
 have go:∀ w:WS,w E O1->tWS (wp X pn xe) ks w D U H1:=fun w hw=>⟨F1,G,O1,E,r1,hw,fun O' U' F' H' h k' s r=>n O' U' F' H' h k' (s1.trans s) r,fun O' U' F' H' h k' s r=>b O' U' F' H' h k' (s1.trans s) r,
  fun O' U' F' H' h k' s r=>c O' U' F' H' h k' (s1.trans s) r,fun a O' U' v F' H' h k' s q rv=>r a O' U' v F' H' h k' (s1.trans s) q rv,x.grow s1⟩
 cases k with
 | true=>exact go _ hp
 | false=>exact go _ hp
theorem zak (he:FE X e we) (hg:FG X ks tg g) (hs:swapsWithSole [tg] e pos.line X.env=pure false:=by rfl) (hw:swappedStores [tg] e X.env=pure none:=by rfl)
  (h1:(assignEach [tg] X.env).map (·.2)=[assign tg X.env]:=by rfl):FS X ks (.Assign [tg] e pos) (wAsg g we):=fun pn xe hp=>PS.imp (zkv (he pn xe hp) (hg pn xe hp) hs hw h1) fun D U H q=>by
 obtain ⟨F,G,O,E,rel,hw,n,b,c,r,x⟩:=q
 refine ⟨F,G,O,_,_,rel,hw,fun a O1 v F1 H1 hp s1 r1 rv=>?_,x.mono (fun U2 z=>by rw [z]; exact KP.refl) (Same.refl F) (Same.refl G)⟩
 obtain ⟨⟨s,O2⟩,eg,hk⟩:=zae hp
 obtain ⟨F2,s2,l2,r2⟩:=giveR (O':=[]) (U':=[]) r1 (len1 r1) rv eg
 exact ⟨F2,G,O2,s,_,r2,hk,fun O' U' F' H' h k' s r=>n O' U' F' H' h k' (s1.trans (s2.trans s)) r⟩
end
theorem zea (I:Inv X pins U H s) (hN:∀ j,X.N[j]?=some x->j=i) (hi:X.N[i]?=some x) (hx:Loc X.env.scope x) (r:RelV v u)
  (h:∀ s',Inv X pins (U.set i (some v)) H s'->(∃ a,Heap.SameBut a s.heap s'.heap/\(a=X.env.locals\/X.env.cells.lookup x=some a))->Q () s') (hf:X.fn x=true\/X.env.scope.names.lookup x=some .local):wpAny M A (storeName X.env x u) Q E s:=by
 obtain ⟨m,hn,hl⟩:=id I.loc
 have hcls:(X.env.scope.kind == .class || (X.env.scope.kind == .module && X.env.locals !=X.env.globals))=false:=by rw [I.ok.kind]; rfl
 have hiU:i < U.length:=by rw [I.len]; exact (qh.mp hi).1
 have cne:=I.cne
 have tracked:∀ {a:Addr} {h':Heap},(∃ o,s.heap.get? a=some o/\H a=none)->Heap.SameBut a s.heap h'->HOk X.prog X.w H h':=fun {a h'} ha hs b ob e=>by
  obtain ⟨_,_,hfree⟩:=ha
  refine (I.hok b ob e).stay (fun c w' hc q=>(hs.2 c ?_).trans q) (fun _ q=>q) fun _ _ q=>q
  rintro rfl
  rcases hc with rfl | hc
  ·rw [hfree] at e; cases e
  ·rw [hfree] at hc; cases hc
 rcases hx with hk | hk
 ·refine wpAny_storeName_local hk hn (fun h' hn' hs=>?_) hcls
  obtain ⟨oL,_,_,hoL,_⟩:=id hn
  refine h _ ⟨I.ok,I.os,I.bare,⟨fun b o e n hb hx=>?_,fun b o e n hb hx=>?_,I.base.free,fun b o e hx=>?_,I.base.tups,I.base.frzs,I.base.tbls⟩,⟨_,hn',fun j y v' e1 e2 e3=>?_⟩,fun y c e=>?_,I.free,I.freeC,fun p hp=>?_,tracked ⟨oL,hoL,I.free⟩ hs,by simpa using I.len⟩ ⟨_,hs,.inl rfl⟩
  ·exact (hs.2 b (ne_of_lt (lt_of_lt_of_le (qe e) I.ok.above))).trans (I.base.keep b o e n hb hx)
  ·obtain ⟨sl,e1⟩:=I.base.slot b o e n hb hx
   exact ⟨sl,(hs.2 b (ne_of_lt (lt_of_lt_of_le (qe e) I.ok.above))).trans e1⟩
  ·obtain ⟨o',e1⟩:=I.base.there b o e hx
   exact ⟨o',(hs.2 b (ne_of_lt (lt_of_lt_of_le (qe e) I.ok.above))).trans e1⟩
  ·by_cases hj:j=i
   ·subst hj
    rw [hi] at e1; cases e1
    rw [getElem?_set_self hiU] at e2
    cases e2
    exact ⟨u,r,.inl ⟨hk,by simp⟩⟩
   ·rw [getElem?_set_ne (Ne.symm hj)] at e2
    obtain ⟨u',r',q⟩:=hl j y v' e1 e2 e3
    refine ⟨u',r',?_⟩
    rcases q with ⟨k,e⟩ | ⟨k,c,e,z⟩
    ·refine .inl ⟨k,?_⟩
     have:y≠x:=fun e=>hj (hN j (e ▸ e1))
     simp [this,e]
    ·exact .inr ⟨k,c,e,z.sameBut hs (cne y c e)⟩
  ·obtain ⟨w',z⟩:=I.cell y c e
   exact ⟨w',z.sameBut hs (cne y c e)⟩
  ·obtain ⟨e,n,ne,nf,d⟩:=I.pin p hp
   exact ⟨(hs.2 p.1 ne).trans e,n,ne,nf,d⟩
 ·have hfn:X.fn x=true:=by
   rcases hf with z | z
   ·exact z
   ·rw [z] at hk; cases hk
  obtain ⟨c,hc⟩:=I.ok.has x (.inl hk)
  obtain ⟨w',z⟩:=I.cell x c hc
  refine wpAny_storeName_cell I.ok.kind hk hc z (fun h' hc' hs=>?_)
  obtain ⟨oc,hoc,hocd⟩:=id z
  refine h { s with heap:=h' } ⟨I.ok,I.os,I.bare,⟨fun b o e n hb hx=>?_,fun b o e n hb hx=>?_,I.base.free,fun b o e hx=>?_,I.base.tups,I.base.frzs,I.base.tbls⟩,⟨m,hn.sameBut hs (Ne.symm (cne x c hc)),fun j y v' e1 e2 e3=>?_⟩,fun y c' e=>?_,I.free,I.freeC,fun p hp=>?_,tracked ⟨oc,hoc,I.freeC x c hc⟩ hs,by simpa using I.len⟩ ⟨c,hs,.inr hc⟩
  ·exact (hs.2 b (ne_of_lt (lt_of_lt_of_le (qe e) (I.ok.cab x c hfn hc)))).trans (I.base.keep b o e n hb hx)
  ·obtain ⟨sl,e1⟩:=I.base.slot b o e n hb hx
   exact ⟨sl,(hs.2 b (ne_of_lt (lt_of_lt_of_le (qe e) (I.ok.cab x c hfn hc)))).trans e1⟩
  ·obtain ⟨o',e1⟩:=I.base.there b o e hx
   exact ⟨o',(hs.2 b (ne_of_lt (lt_of_lt_of_le (qe e) (I.ok.cab x c hfn hc)))).trans e1⟩
  ·by_cases hj:j=i
   ·subst hj
    rw [hi] at e1; cases e1
    rw [getElem?_set_self hiU] at e2
    cases e2
    exact ⟨u,r,.inr ⟨.inl hk,c,hc,hc'⟩⟩
   ·rw [getElem?_set_ne (Ne.symm hj)] at e2
    obtain ⟨u',r',q⟩:=hl j y v' e1 e2 e3
    refine ⟨u',r',?_⟩
    rcases q with q | ⟨k,c',e,z'⟩
    ·exact .inl q
    ·refine .inr ⟨k,c',e,z'.sameBut hs ?_⟩
     rintro rfl
     exact hj (hN j (I.ok.inj _ _ _ e hc ▸ e1))
  ·by_cases hcc:c'=c
   ·subst hcc; exact ⟨_,hc'⟩
   ·obtain ⟨w2,z2⟩:=I.cell y c' e
    exact ⟨w2,z2.sameBut hs hcc⟩
  ·obtain ⟨e,n,ne,nf,d⟩:=I.pin p hp
   refine ⟨(hs.2 p.1 ?_).trans e,n,ne,nf,d⟩
   intro q
   rw [q,hoc] at e
   have q':oc=p.2:=qg e
   exact d w' (by rw [<- q']; exact hocd)
section
variable {X:Cx} {ks:List Nat} {pos:Pos}
theorem KP.set (h:i∉ks):KP ks U (U.set i u):=fun j hj=>getElem?_set_ne (fun (z:i=j)=>h (z ▸ hj))
theorem zhk (hk:i∉ks) (hN:∀ j,X.N[j]?=some x->j=i) (hi:X.N[i]?=some x) (hx:Loc X.env.scope x) (hf:X.fn x=true\/X.env.scope.names.lookup x=some .local):FG X ks (.Name x pos) (gName i):=by
 intro pn xe hp pins s U H v u Q I rv q
 obtain ⟨F,G,O,t,P,rel,hw,n⟩:=q
 have hl:=len1 rel
 have hiO:i < O.length:=by rw [hl,I.len]; exact (qh.mp hi).1
 exact wpAny_assign_Name (zea (X:=wp X pn xe) I hN hi hx rv (fun s' I' _=>⟨_,H,I',n _ _ F H hw (KP.set hk) (Same.refl F) (rel.store hl hiO)⟩) hf)
inductive tWGs (X:Cx) (ks:List Nat) (gs:List WG) (vs:List V) (U:St) (H:Hp) (Q:St->Hp->Prop):Prop
 | mk (F G:Hp) (O:Env) (ds:List D) (P:Env->Prop) (rel:Rel X.K O U F G H) (rp:Reps X.K F vs ds) (hw:gTups gs ds O P) (n:∀ O' U' F' H',P O'->KP ks U U'->Same F F'->Rel X.K O' U' F' G H'->Q U' H'):tWGs X ks gs vs U H Q
noncomputable def FGs (X:Cx) (ks:List Nat) (tg:List Expr) (g:List WG):Prop:=∀ (pn:List (Addr×Obj)) (xe:Value->Shared->Prop),PassesOwn (model X.prog X.w) X.A X.env xe->PGs (wp X pn xe) tg (tWGs (wp X pn xe) ks g)
theorem zaF:FGs X ks [] []:=fun pn xe hp pins s U H vs us Q I r q=>by
 obtain ⟨F,G,O,ds,P,rel,rp,hw,n⟩:=q
 refine zky pins s U H vs us Q I r ?_
 cases rp with
 | nil=>exact ⟨rfl,n O U F H hw KP.refl (Same.refl F) rel⟩
 | cons a b=>exact hw.elim
theorem zaj (h1:FG X ks e g) (h2:FGs X ks es gs)
  (hs:(assignEach (e::es) X.env).map (·.2)=assign e X.env::(assignEach es X.env).map (·.2):=by rfl):FGs X ks (e::es) (g::gs):=fun pn xe hp pins s U H vs us Q I r q=>by
 obtain ⟨F,G,O,ds,P,rel,rp,hw,n⟩:=q
 refine zjC (X:=wp X pn xe) (h1 pn xe hp) (h2 pn xe hp) hs pins s U H vs us Q I r ?_
 cases rp with
 | nil=>exact hw.elim
 | cons a b=>
   refine ⟨_,_,rfl,F,G,O,_,_,rel.push a,hw,fun O1 U1 F1 H1 hp k s1 r1=>⟨F1,G,O1,_,P,r1,b.mono s1,hp,fun O' U' F' H' h k' s r=>n O' U' F' H' h (k.trans k') (s1.trans s) r⟩⟩
theorem Reps.len {K:W.Frag} (r:Reps K F xs ds):xs.length=ds.length:=Reps.ind (P:=fun xs ds=>xs.length=ds.length) rfl (fun _ _ ih=>congrArg (· + 1) ih) r
theorem za9 (hc:X.calm=true) (h:FGs X ks es gs) (hn:(assignEach es X.env).length=gs.length:=by rfl) (hst:(assignEach es X.env).findIdx? (·.1)=none:=by rfl):FG X ks (.Tuple es k pos) (gTup gs):=fun pn xe hp=>by
 refine PG.imp (znq (X:=wp X pn xe) hc (h pn xe hp) hn hst) fun v U H Q q=>?_
 obtain ⟨F,G,O,s,P,rel,hw,n⟩:=q
 obtain ⟨F1,s1,rp,r1⟩:=Rel.giveD (O:=O) (vs:=[v]) (ss:=[s]) rel (len1 rel)
 cases rp with
 | cons a b=>
   have hw':(match s.toD with | .tup ds=>ds.length=gs.length/\gTups gs ds O P | _=>False):=hw
   generalize s.toD=d at a hw'
   cases a with
   | tup e r=>exact ⟨_,_,rfl,SqT.of (r1.fr _ _ e),by rw [r.len]; exact hw'.1,F1,G,O,_,P,r1,r,hw'.2,fun O' U' F' H' h k' s r=>n O' U' F' H' h k' (s1.trans s) r⟩
   | _=>exact hw'.elim
end
noncomputable def ItOk (K:W.Frag) (J:It) (l:List D) (F0:Hp):Prop:=∀ (i:Nat) (O:Env) (U:St) (F G H:Hp),Same F0 F->Rel K O U F G H->
 (∀ d,l[i]?=some d->J.go i H/\∀ x H',J.yld i H x H'->∃ F',Same F F'/\Rel K O U F' G H'/\Rep K F' x d)/\(l.length<=i->J.stop i H)
inductive tWI (X:Cx) (wi:WI) (U:St) (H:Hp) (R:It->Hp->Prop):Prop
 | mk (F G:Hp) (O:Env) (P:List D->Env->Prop) (PX:WX) (rel:Rel X.K O U F G H) (hw:wi O P PX) (hok:∀ l O' F' H' J,P l O'->Same F F'->Rel X.K O' U F' G H'->ItOk X.K J l F'->R J H') (hx:XC X (·=U) F G PX):tWI X wi U H R
noncomputable def FI (X:Cx) (tg iter:Expr) (wi:WI):Prop:=∀ (pn:List (Addr×Obj)) (xe:Value->Shared->Prop),PassesOwn (model X.prog X.w) X.A X.env xe->PI (wp X pn xe) tg iter (tWI (wp X pn xe) wi)
theorem PI.imp (h:PI X tg e t) (k:∀ U H R,t' U H R->t U H R):PI X tg e t':=fun pins s U H R I q=>h pins s U H R I (k U H R q)
theorem Reps.get {K:W.Frag} {i:Nat} (r:Reps K F xs ds) (h:ds[i]?=some d):∃ x,xs[i]?=some x/\Rep K F x d:=
 Reps.ind (P:=fun xs ds=>∀ i d,ds[i]?=some d->∃ x,xs[i]?=some x/\Rep K F x d) (fun _ _ e=>by cases e) (fun a _ ih i d e=>by
  cases i with
  | zero=>cases e; exact ⟨_,rfl,a⟩
  | succ i=>exact ih i d e) r i d h
section
variable {X:Cx} {tg e:Expr} {we:WE} {pos:Pos} {K:W.Frag}
theorem zem (e:SqL K F0 a xs) (r:Reps K F0 xs l):ItOk K (Itl K a) l F0:=fun i O U F G H sm rel=>by
 have e':SqL K H a xs:=SqL.mono (sm.trans rel.fr) e
 refine ⟨fun d hd=>?_,fun h=>⟨xs,e',by rw [r.len]; exact h⟩⟩
 obtain ⟨x,hx,rx⟩:=r.get hd
 refine ⟨⟨xs,x,e',hx⟩,fun y H' hy=>?_⟩
 obtain ⟨rfl,hy⟩:=hy
 have:x=y:=qg (hx.symm.trans (hy xs e'))
 subst this
 exact ⟨F,Same.refl F,rel,rx.mono sm⟩
theorem zjq (e:SqT K F0 a xs) (r:Reps K F0 xs l):ItOk K (Itt K a) l F0:=fun i O U F G H sm rel=>by
 have e':SqT K H a xs:=SqT.mono (sm.trans rel.fr) e
 refine ⟨fun d hd=>?_,fun h=>⟨xs,e',by rw [r.len]; exact h⟩⟩
 obtain ⟨x,hx,rx⟩:=r.get hd
 refine ⟨⟨xs,x,e',hx⟩,fun y H' hy=>?_⟩
 obtain ⟨rfl,hy⟩:=hy
 have:x=y:=qg (hx.symm.trans (hy xs e'))
 subst this
 exact ⟨F,Same.refl F,rel,rx.mono sm⟩
theorem zgH {lo:Int} (h:(fromTo lo n)[i]?=some d):i < n/\d=.int (lo + i):=by
 unfold fromTo at h
 rw [getElem?_map] at h
 by_cases hi:i < n
 ·rw [getElem?_range hi] at h
  exact ⟨hi,(qg h).symm⟩
 ·rw [getElem?_eq_none (by simpa using hi)] at h; cases h
theorem zdf {lo:Int}:ItOk K (Itr lo n) (fromTo lo n) F0:=fun i O U F G H sm rel=>by
 refine ⟨fun d hd=>?_,fun h=>?_⟩
 ·obtain ⟨hi,rfl⟩:=zgH hd
  refine ⟨hi,fun x H' hy=>?_⟩
  obtain ⟨rfl,rfl⟩:=hy
  exact ⟨F,Same.refl F,rel,.int _⟩
 ·have:n<=i:=by simpa [fromTo] using h
  exact this
end
noncomputable def Its (x:Str):It:=⟨fun i _=>i < x.cps.size,fun i H v H'=>H'=H/\∃ c,x.cps[i]?=some c/\v=.str ⟨#[c]⟩,fun i _=>x.cps.size<=i⟩
theorem zi6 {P:Program} {w:World} {K:W.Frag} {tg:Expr} (it:Addr) (x:Str) (t:Tok) (ty:String) (hty:ty="str_ascii_iterator"\/ty="str_iterator"):Turn P w K tg (Its x) [it] it (fun i h=>h.IsStrIter it ty x t i) where
 mem:=by simp
 obj:=fun i h st b hb=>by
  have e:b=it:=by simpa using hb
  subst e
  obtain ⟨o,e,c,d⟩:=st
  exact ⟨o,e,fun v z=>by rw [d] at z; cases z⟩
 keep:=fun i h h' st k=>by
  obtain ⟨o,e,r⟩:=st
  exact ⟨o,k it (by simp) o e,r⟩
 item:=by
  intro X hP hw hK hc i pins s U H E I hf st hg
  subst hP hw hK
  obtain ⟨f0,f1,f2,f3,f4,f5⟩:=hf it (by simp)
  have W:Walks X.prog X.w X.A it [it] [it] x.cps.size (SignAt x) (fun i h=>h.IsStrIter it ty x t i):=by
   rcases hty with rfl | rfl
   ·exact Walks.strAscii (I.ok.hd hc) it x t
   ·exact Walks.strWide (I.ok.hd hc) it x t
  refine W.item i s _ _ hg st fun v h' tk hv st' kk=>?_
  obtain ⟨c,u,e1,rfl⟩:=hv
  have I1:Inv X pins U H { s with heap:=h',toks:=tk }:=I.turned (fun b o hb e=>kk b o (by simpa using hb) e) f0 f1 f3 f4 f5
  obtain ⟨o,e,cl,d⟩:=id st'
  exact ⟨_,rfl,zjh (s:={ s with heap:=h',toks:=tk }) e cl d (by rcases hty with rfl | rfl <;> decide) ⟨.str ⟨#[c]⟩,H,I1,⟨u,rfl⟩,⟨rfl,c,e1,rfl⟩,st',fun b hb=>(hf b hb).1⟩⟩
 done:=by
  intro X hP hw hK hc i pins s U H E I hf st hg
  subst hP hw hK
  obtain ⟨f0,f1,f2,f3,f4,f5⟩:=hf it (by simp)
  have hn:x.cps[i]?=none:=by
   have:x.cps.size<=i:=hg
   simp [this]
  rcases hty with rfl | rfl
  ·exact wpAny_pyNext_ascii_end (I.ok.hd hc) st hn fun h' eb=>⟨rfl,I.turned (t':=s.toks) (fun b o hb e=>eb b o hb e) f0 f1 f3 f4 f5⟩
  ·exact wpAny_pyNext_wide_end (I.ok.hd hc) st hn fun h' eb=>⟨rfl,I.turned (t':=s.toks) (fun b o hb e=>eb b o hb e) f0 f1 f3 f4 f5⟩
 self:=fun A i s Q E st h=>by
  rcases hty with rfl | rfl
  ·exact wpAny_pyIter_striter_ascii st h
  ·exact wpAny_pyIter_striter_wide st h
noncomputable def iAny (K:W.Frag) (tl:TE):TI:=fun U H R=>tl U H fun v H1=>(∃ a,v=.ref a/\(∃ xs,SqL K H1 a xs)/\R (Itl K a) H1)\/(∃ a,v=.ref a/\(∃ xs,SqT K H1 a xs)/\R (Itt K a) H1)\/∃ x,v=.str x/\R (Its x) H1
theorem zl6 (hl:PE X l tl):PI X tg l (iAny X.K tl):=by
 intro pins s U H R I h
 refine thn (hl pins s U H _ I h) fun v s1 zq=>?_
 obtain ⟨y,H1,I1,r1,q1⟩:=zq
 rcases q1 with ⟨a,e,⟨xs,hq⟩,q⟩ | ⟨a,e,⟨xs,hq⟩,q⟩ | ⟨x,e,q⟩
 ·subst e
  cases r1
  obtain ⟨its,rv,p,hz⟩:=I1.list hq
  refine wpAny_pyIter_list p.isList ?_
  refine ⟨s1.heap.objs.size,[s1.heap.objs.size],_,_,H1,rfl,I1.kept (t':=s1.toks) fun b o e=>qc _ e,zg1 a _,⟨_,qd _ rfl,rfl,rfl⟩,fun b hb=>?_,q⟩
  have e:b=s1.heap.objs.size:=by simpa using hb
  subst e
  exact I1.fpOk (le_refl _) (I1.hok.fresh (le_refl _))
 ·subst e
  cases r1
  obtain ⟨its,rv,p,hz⟩:=I1.tuple hq
  refine wpAny_pyIter_tuple (show s1.heap.IsTuple a its.toArray from p) ?_
  refine ⟨s1.heap.objs.size,[s1.heap.objs.size],_,_,H1,rfl,I1.kept (t':=s1.toks) fun b o e=>qc _ e,zgq a _,⟨_,qd _ rfl,rfl,rfl⟩,fun b hb=>?_,q⟩
  have e:b=s1.heap.objs.size:=by simpa using hb
  subst e
  exact I1.fpOk (le_refl _) (I1.hok.fresh (le_refl _))
 ·subst e
  obtain ⟨t,rfl⟩:=r1
  have fin:∀ (ty:String) (o:Obj),(ty="str_ascii_iterator"\/ty="str_iterator")->o.cls=.type ty->o.data=.fields #[.str x t,.int 0 0]->o.isFreed=false->PIE X pins U tg R (.ref s1.heap.objs.size) { s1 with heap:=s1.heap.push o }:=fun ty o hty hc hd hf=>by
   refine ⟨s1.heap.objs.size,[s1.heap.objs.size],_,_,H1,rfl,I1.kept (t':=s1.toks) fun b o e=>qc _ e,zi6 _ x t ty hty,⟨_,qd _ hf,hc,hd⟩,fun b hb=>?_,q⟩
   have e:b=s1.heap.objs.size:=by simpa using hb
   subst e
   exact I1.fpOk (le_refl _) (I1.hok.fresh (le_refl _))
  cases ha:x.cps.all (· < 128)
  ·exact wpAny_pyIter_wide ha (fin "str_iterator" _ (.inr rfl) rfl rfl rfl)
  ·exact wpAny_pyIter_ascii ha (fin "str_ascii_iterator" _ (.inl rfl) rfl rfl rfl)
section
variable {X:Cx} {tg e:Expr} {we:WE} {pos:Pos} {K:W.Frag}
theorem zgf (e:x.cps.toList=l):ItOk K (Its x) (l.map fun c=>.str [c]) F0:=fun i O U F G H sm rel=>by
 have hs:x.cps.size=l.length:=by rw [<- e]; simp
 refine ⟨fun d hd=>?_,fun h=>by show x.cps.size<=i; rw [hs]; simpa using h⟩
 rw [getElem?_map] at hd
 cases q:l[i]? with
 | none=>rw [q] at hd; cases hd
 | some c=>
   rw [q] at hd
   have hd':D.str [c]=d:=qg hd
   have hi:i < l.length:=(qh.mp q).1
   have hx:x.cps[i]?=some c:=by rw [<- getElem?_toList,e]; exact q
   refine ⟨by show i < x.cps.size; rw [hs]; exact hi,fun y H' hy=>?_⟩
   obtain ⟨rfl,c',e1,rfl⟩:=hy
   rw [hx] at e1
   have:c=c':=qg e1
   subst this
   rw [<- hd']
   exact ⟨F,Same.refl F,rel,.str rfl (by show 1<=_; decide)⟩
theorem za8 (h:FE X e we):FI X tg e (wIter we):=fun pn xe hp=>by
 refine PI.imp (zl6 (h pn xe hp)) fun U H R q=>?_
 obtain ⟨F,G,O,P,PX,rel,hw,hok,hx⟩:=q
 refine ⟨F,G,O,_,PX,rel,hw,fun r O1 v F1 H1 hk s1 r1 rv=>?_,hx⟩
 obtain ⟨⟨s,O2⟩,eg,hk⟩:=zae hk
 obtain ⟨l,el,hk⟩:=zae hk
 obtain ⟨F2,s2,l2,r2⟩:=giveR (O':=[]) (U':=[]) r1 (len1 r1) rv eg
 obtain ⟨F3,s3,rp,r3⟩:=Rel.giveD (O:=O2) (vs:=[v]) (ss:=[s]) r2 (len1 r2)
 have sm:=s1.trans (s2.trans s3)
 cases rp with
 | cons a b=>
   have el':items s.toD=some l:=el
   generalize s.toD=d at a el'
   cases a with
   | lst e r=>
     have:l=_:=(qg el').symm
     subst this
     exact .inl ⟨_,rfl,⟨_,SqL.mono r3.fr e⟩,hok _ O2 F3 H1 _ hk sm r3 (zem e r)⟩
   | tup e r=>
     have:l=_:=(qg el').symm
     subst this
     exact .inr (.inl ⟨_,rfl,⟨_,SqT.of (r3.fr _ _ e)⟩,hok _ O2 F3 H1 _ hk sm r3 (zjq (SqT.of e) r)⟩)
   | str e z=>
     have:l=_:=(qg el').symm
     subst this
     exact .inr (.inr ⟨_,rfl,hok _ O2 F3 H1 _ hk sm r3 (zgf e)⟩)
   | _=>cases el'
theorem zat (hg:Gl X "range") (hm:X.mg "range"=none) (ha:FE X a we) (hs:starEach [a] X.env=[(false,eval a X.env)]:=by rfl):FI X tg (.Call (.Name "range" p) [a] [] pos) (wRange1 we):=fun pn xe hp=>by
 refine PI.imp (zhM (X:=wp X pn xe) hg hm (zaa ha zab hs pn xe hp) hs) fun U H R q=>?_
 obtain ⟨F,G,O,P,PX,rel,hw,hok,hx⟩:=q
 refine ⟨F,G,O,fun rs O1=>match rs with | [r]=>(match view r O1 with | some (.int j)=>(-big<=j/\j<=big)/\P (fromTo 0 j.toNat) O1 | _=>False) | _=>False,PX,rel,hw,fun rs O1 vs F1 H1 hk s1 r1 hl rv=>?_,hx⟩
 match rs,vs,rv,r1,hk with
 | [r],[v],rv,r1,hk=>
   dsimp only at hk
   split at hk
   ·rename_i j ej
    have rp:=look (O':=[]) (U':=[]) r1 hl rv.1 ej
    cases rp
    obtain ⟨⟨h1,h2⟩,hk⟩:=hk
    have eb:(big:Int)=1000000:=rfl
    rw [eb] at h1 h2
    exact ⟨j,rfl,by lia,by lia,hok _ O1 F1 H1 _ hk s1 ((show Rel X.K (O1++[slotOf r]) (U++[some (.int j)]) F1 G H1 from r1).drop hl) zdf⟩
   ·exact hk.elim
 | [],_,_,_,hk=>exact hk.elim
 | [_],[],rv,_,_=>exact rv.elim
 | [_],_::_::_,rv,_,_=>exact rv.2.elim
 | _::_::_,_,_,_,hk=>exact hk.elim
theorem zhQ (hg:Gl X "range") (hm:X.mg "range"=none) (ha:FE X a we) (hb:FE X b wb) (hs:starEach [a,b] X.env=[(false,eval a X.env),(false,eval b X.env)]:=by rfl) (hs2:starEach [b] X.env=[(false,eval b X.env)]:=by rfl):
  FI X tg (.Call (.Name "range" p) [a,b] [] pos) (wRange2 we wb):=fun pn xe hp=>by
 refine PI.imp (zib (X:=wp X pn xe) hg hm (zaa ha (zaa hb zab hs2) (by rw [hs,hs2]) pn xe hp) hs hs2) fun U H R q=>?_
 obtain ⟨F,G,O,P,PX,rel,hw,hok,hx⟩:=q
 refine ⟨F,G,O,fun rs O1=>match rs with | [r,t]=>(match view r O1,view t O1 with | some (.int i),some (.int j)=>(-big<=i/\i<=big/\-big<=j/\j<=big)/\P (fromTo i (j - i).toNat) O1 | _,_=>False) | _=>False,PX,rel,hw,fun rs O1 vs F1 H1 hk s1 r1 hl rv=>?_,hx⟩
 match rs,vs,rv,r1,hk with
 | [r,t],[v,u],rv,r1,hk=>
   dsimp only at hk
   split at hk
   ·rename_i i j ei ej
    obtain ⟨rp,rq,r2⟩:=look2 r1 hl rv.1 rv.2.1 ei ej
    cases rp
    cases rq
    obtain ⟨⟨h1,h2,h3,h4⟩,hk⟩:=hk
    have eb:(big:Int)=1000000:=rfl
    rw [eb] at h1 h2 h3 h4
    exact ⟨i,j,rfl,⟨by lia,by lia,by lia,by lia⟩,hok _ O1 F1 H1 _ hk s1 r2 zdf⟩
   ·exact hk.elim
 | [],_,_,_,hk=>exact hk.elim
 | [_],_,_,_,hk=>exact hk.elim
 | [_,_],[],rv,_,_=>exact rv.elim
 | [_,_],[_],rv,_,_=>exact rv.2.elim
 | [_,_],_::_::_::_,rv,_,_=>exact rv.2.2.elim
 | _::_::_::_,_,_,_,hk=>exact hk.elim
end
section
variable {X:Cx} {ks:List Nat} {tg iter:Expr} {body:List Stmt} {wi:WI} {g:WG} {wb:WS} {pos:Pos}
theorem zbl (hc:X.calm=true) (hi:FI X tg iter wi) (hg:FG X ks tg g) (hb:FSs X ks body wb) (hs:∀ x,foldedSetIterable iter X.env x=pure x:=by intro _; rfl):FS X ks (.For tg iter body [] pos) (wFor wi g wb):=fun pn xe hp=>by
 refine PS.imp (zmn (X:=wp X pn xe) hp hc (hi pn xe hp) (hg pn xe hp) (hb pn xe hp) hs) fun D U H q=>?_
 obtain ⟨F,G,O,E,rel,hw,n,b,c,r,x⟩:=q
 refine ⟨F,G,O,_,_,rel,hw,fun l O1 F1 H1 J hk s1 r1 it=>?_,x.mono (fun U2 z=>by rw [z]; exact KP.refl) (Same.refl F) (Same.refl G)⟩
 refine ⟨fun i m U2 H2=>m=l.length - i/\i<=l.length/\∃ F2 O2,KP ks U U2/\Same F1 F2/\Rel X.K O2 U2 F2 G H2/\wLoop g wb (l.drop i) E O2,⟨l.length,by simp,zero_le _,F1,O1,KP.refl,Same.refl F1,r1,by simpa using hk⟩,?_⟩
 rintro i m U2 H2 ⟨rfl,hi,F2,O2,kp,s2,r2,hw2⟩
 obtain ⟨it1,it2⟩:=it i O2 U2 F2 G H2 s2 r2
 by_cases hlt:i < l.length
 ·obtain ⟨go,yld⟩:=it1 l[i] (by simp [hlt])
  refine .inr ⟨go,fun U3 H3=>i + 1<=l.length/\∃ F3 O3,KP ks U U3/\Same F1 F3/\Rel X.K O3 U3 F3 G H3/\wLoop g wb (l.drop (i + 1)) E O3,fun U3 H3 h=>⟨l.length - (i + 1),by lia,rfl,h⟩,fun y H3 hy=>?_⟩
  obtain ⟨F3,s3,r3,rp⟩:=yld y H3 hy
  rw [List.drop_eq_getElem_cons hlt] at hw2
  refine ⟨F3,G,O2,_,_,r3.push rp,hw2,fun O4 U4 F4 H4 hp4 k4 s4 r4=>?_⟩
  have kp4:=kp.trans k4
  have sm4:=s1.trans (s2.trans (s3.trans s4))
  exact ⟨F4,G,O4,_,r4,hp4,fun O' U' F' H' h k' s r=>⟨hlt,F',O',kp4.trans k',s2.trans (s3.trans (s4.trans s)),r,h⟩,fun O' U' F' H' h k' s r=>n O' U' F' H' h (kp4.trans k') (sm4.trans s) r,
   fun O' U' F' H' h k' s r=>⟨hlt,F',O',kp4.trans k',s2.trans (s3.trans (s4.trans s)),r,h⟩,fun a O' U' v F' H' h k' s q rv=>r a O' U' v F' H' h (kp4.trans k') (sm4.trans s) q rv,x.mono (fun U5 k'=>kp4.trans k') sm4 (Same.refl G)⟩
 ·have e:i=l.length:=Nat.le_antisymm hi (not_lt.mp hlt)
  subst e
  rw [List.drop_length] at hw2
  exact .inl ⟨it2 (le_refl _),n O2 U2 F2 H2 hw2 kp (s1.trans s2) r2⟩
theorem zfv (hc:FT X c wc) (hb:FSs X ks body wb):FS X ks (.While c body [] pos) (wWhile wc wb):=fun pn xe hp=>by
 refine PS.imp (ziZ (X:=wp X pn xe) hp (hc pn xe hp) (hb pn xe hp)) fun D U H q=>?_
 obtain ⟨F,G,O,E,rel,⟨J,⟨m0,j0⟩,step⟩,n,b,c,r,x⟩:=q
 refine ⟨fun m U2 H2=>∃ F2 O2,KP ks U U2/\Same F F2/\Rel X.K O2 U2 F2 G H2/\J m O2,⟨m0,F,O,KP.refl,Same.refl F,rel,j0⟩,?_⟩
 rintro m U2 H2 ⟨F2,O2,kp,s2,r2,j2⟩
 refine ⟨F2,G,O2,_,_,r2,step m O2 j2,fun k O3 F3 H3 hk s3 r3=>?_,x.mono (fun U5 z=>by rw [z]; exact kp) s2 (Same.refl G)⟩
 have sm3:=s2.trans s3
 cases k with
 | true=>
   dsimp only
   rw [if_pos rfl]
   refine ⟨fun U4 H4=>∃ m',m' < m/\∃ F2 O2,KP ks U U4/\Same F F2/\Rel X.K O2 U4 F2 G H4/\J m' O2,fun U4 H4 h=>h,?_⟩
   exact ⟨F3,G,O3,_,r3,hk,fun O' U' F' H' ⟨m',hm,h⟩ k' s r=>⟨m',hm,F',O',kp.trans k',sm3.trans s,r,h⟩,fun O' U' F' H' h k' s r=>n O' U' F' H' h (kp.trans k') (sm3.trans s) r,
    fun O' U' F' H' ⟨m',hm,h⟩ k' s r=>⟨m',hm,F',O',kp.trans k',sm3.trans s,r,h⟩,fun a O' U' v F' H' h k' s q rv=>r a O' U' v F' H' h (kp.trans k') (sm3.trans s) q rv,x.mono (fun U5 k'=>kp.trans k') sm3 (Same.refl G)⟩
 | false=>
   dsimp only
   rw [if_neg Bool.false_ne_true]
   exact n O3 U2 F3 H3 hk kp sm3 r3
end
inductive spW (K:W.Frag) (f:WF) (n:Nat) (vs:List V) (H:Hp) (Q:VK) (Z:XK):Prop
 | mk (F G:Hp) (ss:List S) (P:S->List S->Prop) (PX:D->List S->Prop) (hn:vs.length=n) (rel:Rel K (ss.map some) (vs.map some) F G H) (hw:f ss P PX) (hok:∀ s ss' v F' H',P s ss'->Same F F'->ss'.length=ss.length->Rel K (ss'.map some++[some s]) (vs.map some++[some v]) F' G H'->Q v H') (hex:∀ d ss' F' H' C dx,PX d ss'->Same F F'->ss'.length=ss.length->Rel K (ss'.map some) (vs.map some) F' G H'->clsD K F' d C dx->Z (.ref C) dx H'):spW K f n vs H Q Z
section
variable {K:W.Frag} {F F' H H' G G':Hp} {U U':St} {v u:V}
theorem Rel.comm (h:O.length=U.length) (r:Rel K (O++O') (U++U') F G H):Rel K (O'++O) (U'++U) F G H:=by
 have:=Rel.swap (O:=[]) (U:=[]) (O1:=O) (U1:=U) (O2:=O') (U2:=U') rfl h (by simpa using r)
 simpa using this
theorem Rel.lend (r:Rel K (O++(none::O')) (U++(some v::U')) F G H) (h:O.length=U.length) (hs:slot O i=some s) (hv:U[i]?=some (some v)):
  Rel K (O.set i none++(some s::O')) (U++(some v::U')) F G H:=by
 obtain ⟨fp,e,nd,ap⟩:=r.en
 obtain ⟨f1,f2,rfl,a,b⟩:=e.cut h
 obtain ⟨v',fa,fi,fb,e1,rfl,q,up⟩:=a.at hs
 rw [hv] at e1
 have e2:v=v':=by simpa using e1
 subst e2
 have a2:=up (F':=F) (H':=H) (o:=none) (u:=some v) (fi':=[]) (Same.refl F) (fun _ _=>rfl) (.no .nil)
 have es:U.set i (some v)=U:=by
  apply ext_getElem?
  intro j
  by_cases hj:i=j
  ·subst hj
   rw [getElem?_set_self (qh.mp hv).1,hv]
  ·rw [getElem?_set_ne hj]
 rw [es] at a2
 cases b with
 | no b=>
   have p:((fa++([]++fb))++(fi++f2)).Perm ((fa++(fi++fb))++f2):=by
    simp only [nil_append,append_assoc]
    refine List.Perm.append_left _ ?_
    rw [<- append_assoc,<- append_assoc fi]
    exact List.Perm.append_right _ perm_append_comm
   exact ⟨r.fr,r.gr,_,a2.app (.so q b),p.nodup_iff.mpr nd,fun x hx=>ap x (p.mem_iff.mp hx)⟩
theorem Rel.back1 (r:Rel K (O++(some s::O')) (U++(some v::U')) F G H) (h:O.length=U.length) (hv:U[i]?=some (some v)):Rel K (O.set i (some s)++O') (U++U') F G H:=by
 have hi:i < U.length:=(qh.mp hv).1
 have es:U.set i (some v)=U:=by
  apply ext_getElem?
  grind
 have hl:O'.length=U'.length:=by
  have:=r.len
  grind
 have r1:=Rel.swap (O1:=[some s]) (U1:=[some v]) (O2:=O') (U2:=U') h rfl r
 rw [<- append_assoc,<- append_assoc] at r1
 have r2:=Rel.store (i:=i) r1 (by simp [h,hl]) (by simp [h]; lia)
 grind
theorem zio:∀ {rs:List R} {vs:List V} {ms:List Bool} {O O' O1:Env} {ss:List S} {F:Hp} {U':St},Rel K (O++(rs.map slotOf++O')) (U++(vs.map some++U')) F G H->O.length=U.length->RVs U vs rs->prep ms rs O=some (ss,O1)->
  ∃ F',Same F F'/\O1.length=O.length/\ss.length=rs.length/\Rel K (O1++(ss.map some++O')) (U++(vs.map some++U')) F' G H
 | [],[],ms,O,O',O1,ss,F,U',r,h,_,e=>by
   have e':some (([]:List S),O)=some (ss,O1):=by cases ms <;> exact e
   cases e'
   exact ⟨F,Same.refl F,rfl,rfl,r⟩
 | [],_::_,_,_,_,_,_,_,_,_,_,h,_=>h.elim
 | _::_,[],_,_,_,_,_,_,_,_,_,h,_=>h.elim
 | x::rs,v::vs,ms,O,O',O1,ss,F,U',r,h,rv,e=>by
   -- the first one,as it is handed on
   have first:∃ s O2 ts F1,prep ms.tail rs O2=some (ts,O1)/\ss=s::ts/\Same F F1/\O2.length=O.length/\Rel K (O2++(some s::(rs.map slotOf++O'))) (U++(some v::(vs.map some++U'))) F1 G H:=by
    cases x with
    | v s=>
      have e':(match prep ms.tail rs O with | some (ss,O1)=>some (s::ss,O1) | none=>none)=some (ss,O1):=by cases ms <;> exact e
      cases q:prep ms.tail rs O with
      | none=>rw [q] at e'; cases e'
      | some p=>
        obtain ⟨ts,O3⟩:=p
        rw [q] at e'
        cases e'
        exact ⟨s,O,ts,F,q,rfl,Same.refl F,rfl,r⟩
    | loc i=>
      have e':(match slot O i with
       | some s=>if ms.headD false then (match prep ms.tail rs (O.set i none) with
         | some (ss,O1)=>some (s::ss,O1)
         | none=>none)
         else (match prep ms.tail rs (O.set i (some (.sh s.toD))) with
          | some (ss,O1)=>some (.sh s.toD::ss,O1)
          | none=>none)
       | none=>none)=some (ss,O1):=by cases ms <;> exact e
      cases q:slot O i with
      | none=>rw [q] at e'; cases e'
      | some s=>
        rw [q] at e'
        dsimp only at e'
        by_cases hm:ms.headD false=true
        ·rw [if_pos hm] at e'
         cases q2:prep ms.tail rs (O.set i none) with
         | none=>rw [q2] at e'; cases e'
         | some p=>
           obtain ⟨ts,O3⟩:=p
           rw [q2] at e'
           cases e'
           exact ⟨s,O.set i none,ts,F,q2,rfl,Same.refl F,by simp,Rel.lend r h q rv.1⟩
        ·rw [if_neg hm] at e'
         cases q2:prep ms.tail rs (O.set i (some (.sh s.toD))) with
         | none=>rw [q2] at e'; cases e'
         | some p=>
           obtain ⟨ts,O3⟩:=p
           rw [q2] at e'
           cases e'
           obtain ⟨F1,s1,l1,r1⟩:=giveR (x:=.loc i) (s:=.sh s.toD) (O1:=O.set i (some (.sh s.toD))) r h rv.1 (by show (match slot O i with | some s=>some (S.sh s.toD,O.set i (some (.sh s.toD))) | none=>none)=_; rw [q])
           exact ⟨_,_,ts,F1,q2,rfl,s1,by simp,r1⟩
   obtain ⟨s,O2,ts,F1,q2,rfl,s1,l1,r1⟩:=first
   have h2:O2.length=U.length:=l1.trans h
   have hl:(rs.map slotOf++O').length=(vs.map some++U').length:=by
    have:=r1.len
    rw [length_append,length_append,h2,length_cons,length_cons] at this
    lia
   have hl':O'.length=U'.length:=by
    have:=rv.2.len
    simp at hl
    lia
   have r2:=Rel.swap (O1:=[some s]) (U1:=[some v]) (O2:=rs.map slotOf++O') (U2:=vs.map some++U') h2 rfl r1
   rw [append_assoc,append_assoc] at r2
   obtain ⟨F2,s2,l2,l3,r3⟩:=zio (rs:=rs) (vs:=vs) r2 h2 rv.2 q2
   have h3:O1.length=U.length:=l2.trans h2
   rw [<- append_assoc (ts.map some),<- append_assoc (vs.map some)] at r3
   have r4:=Rel.swap (O1:=ts.map some++O') (U1:=vs.map some++U') (O2:=[some s]) (U2:=[some v]) h3 (by simp [l3,rv.2.len,hl']) r3
   exact ⟨F2,s1.trans s2,l2.trans l1,by simp [l3],r4⟩
theorem zcL:∀ {rs:List R} {vs:List V} {ms:List Bool} {O O':Env} {ss:List S} {U':St},Rel K (O++(ss.map some++O')) (U++(vs.map some++U')) F G H->O.length=U.length->ss.length=rs.length->RVs U vs rs->
  (back ms rs ss O).length=O.length/\Rel K (back ms rs ss O++O') (U++U') F G H
 | [],[],ms,O,O',[],U',r,h,_,_=>by
   have e:back ms [] [] O=O:=by cases ms <;> rfl
   rw [e]
   exact ⟨rfl,r⟩
 | [],_,_,_,_,_::_,_,_,_,hl,_=>by simp at hl
 | _::_,_,_,_,_,[],_,_,_,hl,_=>by simp at hl
 | [],_::_,_,_,_,_,_,_,_,_,h=>h.elim
 | _::_,[],_,_,_,_,_,_,_,_,h=>h.elim
 | x::rs,v::vs,ms,O,O',s::ss,U',r,h,hl,rv=>by
   cases x with
   | v t=>
     have e:back ms (.v t::rs) (s::ss) O=back ms.tail rs ss O:=by cases ms <;> rfl
     rw [e]
     exact zcL (rs:=rs) (vs:=vs) (r.mid h) h (by simpa using hl) rv.2
   | loc i=>
     have e:back ms (.loc i::rs) (s::ss) O=if ms.headD false then back ms.tail rs ss (O.set i (some s)) else back ms.tail rs ss O:=by cases ms <;> rfl
     rw [e]
     by_cases hm:ms.headD false=true
     ·rw [if_pos hm]
      have q:=zcL (rs:=rs) (vs:=vs) (ms:=ms.tail) (O:=O.set i (some s)) (Rel.back1 r h rv.1) (by simpa using h) (by simpa using hl) rv.2
      exact ⟨q.1.trans (by simp),q.2⟩
     ·rw [if_neg hm]
      exact zcL (rs:=rs) (vs:=vs) (r.mid h) h (by simpa using hl) rv.2
end
section
variable {X:Cx} {k n:Nat} {f:Addr} {fd:FuncData} {ps:List Str} {wf:WF} {ms:List Bool} {x:Str} {p pos:Pos} {e:Expr} {es:List Expr} {wa:WA}
theorem zk6 (Fk:FnOk X.prog X.w X.K X.mg X.base (CXe X.prog X.w) k f fd ps (spW X.K wf n)) (hr:Room k X.A) (hg:Gl X x) (hm:X.mg x=some (.ref f)) (hk:W.keepIn X.K (.ref f)=true) (hb:Binds X.K fd ps [])
  (ha:FA X (e::es) wa) (hlen:∀ ss P PX,wf ss P PX->ss.length=n) (hdb:(x == ("__debug__":Str))=false:=by decide) (he:starEach (e::es) X.env=(false,eval e X.env)::starEach es X.env:=by rfl) (hpl:(backTo pos (starEach es X.env)).any (·.1)=false:=by rfl):
  FE X (.Call (.Name x p) (e::es) [] pos) (wCall wf ms wa):=fun pn xe hp=>by
 refine PE.imp (zjL (X:=wp X pn xe) Fk hr hg hm hk hb (ha pn xe hp) hdb he hpl) fun U H Q q=>?_
 refine (many (k:=fun rs O1 Q E=>need (prep ms rs O1) fun p=>wf p.1 (fun s ss=>Q (.v s) (back ms rs ss p.2)) (fun x ss=>E x (back ms rs ss p.2))) q).mono fun vs H1 h1=>?_
 obtain ⟨F,G,O,rs,P,PX,rel,hl,rv,hk,hok,hx⟩:=h1
 obtain ⟨⟨ss,O1⟩,ep,hk⟩:=zae hk
 obtain ⟨F1,s1,l1,l2,r1⟩:=zio (O':=[]) (U':=[]) (by simpa using rel) hl rv ep
 have h1:O1.length=U.length:=l1.trans hl
 have r2:=Rel.comm (O':=ss.map some) (U':=vs.map some) h1 (by simpa using r1)
 have hsv:(ss.map some).length=(vs.map some).length:=by simp [l2,rv.len]
 obtain ⟨G',r3,gg,bk⟩:=r2.hide hsv
 have hn:=hlen _ _ _ hk
 show spW X.K wf n vs H1 Q (XW (wp X pn xe) U)
 refine ⟨F1,G',ss,_,_,by rw [rv.len,<- l2]; exact hn,r3,hk,fun s ss' v F2 H2 hp s2 l3 r4=>?_,fun d ss' F2 H2 C dx hp s2 l3 r4 cd a s' I Fl=>?_⟩
 ·have r5:=bk s2 r4
  have hsv':(ss'.map some++[some s]).length=(vs.map some++[some v]).length:=by simp [l3,l2,rv.len]
  have r6:=Rel.comm hsv' r5
  obtain ⟨l7,r7⟩:=zcL (ms:=ms) (rs:=rs) (vs:=vs) (O':=[some s]) (U':=[some v]) r6 h1 (l3.trans l2) rv
  exact hok _ _ v F2 H2 hp (s1.trans s2) r7 trivial
 ·have r5:=bk s2 r4
  have hsv':(ss'.map some).length=(vs.map some).length:=by simp [l3,l2,rv.len]
  have r6:=Rel.comm hsv' r5
  obtain ⟨l7,r7⟩:=zcL (ms:=ms) (rs:=rs) (vs:=vs) (O':=[]) (U':=[]) (by simpa using r6) h1 (l3.trans l2) rv
  exact hx d _ U F2 H2 (.ref a) s' hp rfl (s1.trans s2) (by simpa using r7) I ⟨a,C,dx,rfl,cd,Fl⟩
end
section
variable {K:W.Frag} {F F' H H' G G':Hp}
theorem Rel.pushNs (r:Rel K O U F G H):∀ m:Nat,Rel K (O++List.replicate m none) (U++List.replicate m none) F G H
 | 0=>by simpa using r
 | m + 1=>by
   have:=(Rel.pushNs r m).pushN (u:=none)
   rw [append_assoc,append_assoc,<- List.replicate_succ',<- List.replicate_succ'] at this
   exact this
noncomputable def Args (K:W.Frag) (F:Hp):List S->List V->St->Prop
 | [],[],_=>True
 | s::ss,v::vs,u::U=>((∃ d,s=.sh d/\Rep K F v d)\/(s.isSh=false/\u=some v))/\Args K F ss vs U
 | _,_,_=>False
theorem zbE:∀ {ss:List S} {vs:List V} {fs:List S} {O O' Oa:Env} {U U' Ua:St},finals ss O=some fs->Rel K (Oa++(O++O')) (Ua++(U++U')) F G H->Oa.length=Ua.length->O.length=U.length->Args K F ss vs U->
  fs.length=ss.length/\vs.length=ss.length/\Rel K (Oa++(fs.map some++O')) (Ua++(vs.map some++U')) F G H
 | [],[],fs,O,O',Oa,U,U',Ua,e,r,h,h2,_=>by
   have e':some ([]:List S)=some fs:=by cases O <;> exact e
   cases e'
   refine ⟨rfl,rfl,?_⟩
   have r1:=Rel.swap (O1:=O) (U1:=U) (O2:=O') (U2:=U') h h2 r
   rw [<- append_assoc,<- append_assoc] at r1
   have hl:(Oa++O').length=(Ua++U').length:=by
    have:=r.len
    simp at this
    simp
    lia
   simpa using r1.drop hl
 | [],_::_,_,_,_,_,_,_,_,_,_,_,_,h=>by cases h
 | _::_,[],_,_,_,_,_,_,_,_,_,_,_,h=>by cases h
 | _::_,_::_,_,_,_,_,[],_,_,_,_,_,_,h=>by cases h
 | _::_,_::_,_,[],_,_,_::_,_,_,_,_,_,h2,_=>by simp at h2
 | s::ss,v::vs,fs,o::O,O',Oa,u::U,U',Ua,e,r,h,h2,ha=>by
   have h2':O.length=U.length:=by simpa using h2
   obtain ⟨ha1,ha2⟩:=ha
   rcases ha1 with ⟨d,rfl,rp⟩ | ⟨hs,hu⟩
   ·have e':(finals ss O).map (S.sh d::·)=some fs:=e
    cases q:finals ss O with
    | none=>rw [q] at e'; cases e'
    | some gs=>
      rw [q] at e'
      have e'':S.sh d::gs=fs:=qg e'
      subst e''
      have r1:Rel K (Oa++(O++O')) (Ua++(U++U')) F G H:=Rel.mid (O:=Oa) (U:=Ua) r h
      obtain ⟨l1,l2,r2⟩:=zbE q r1 h h2' ha2
      have hl:(gs.map some++O').length=(vs.map some++U').length:=by
       have:=r2.len
       simp at this
       simp
       lia
      have r3:=r2.push rp
      rw [append_assoc Oa,append_assoc Ua] at r3
      have r4:=Rel.swap (O1:=gs.map some++O') (U1:=vs.map some++U') (O2:=[some (.sh d)]) (U2:=[some v]) h hl r3
      exact ⟨by simp [l1],by simp [l2],r4⟩
   ·subst hu
    have e':∃ t gs,o=some t/\finals ss O=some gs/\fs=t::gs:=by
     cases s with
     | sh d=>cases hs
     | _=>
       cases o with
       | none=>cases e
       | some t=>
         have e':(finals ss O).map (t::·)=some fs:=e
         cases q:finals ss O with
         | none=>rw [q] at e'; cases e'
         | some gs=>rw [q] at e'; exact ⟨t,gs,rfl,rfl,(qg e').symm⟩
    obtain ⟨t,gs,rfl,q,rfl⟩:=e'
    have r1:Rel K ((Oa++[some t])++(O++O')) ((Ua++[some v])++(U++U')) F G H:=by simpa using r
    obtain ⟨l1,l2,r2⟩:=zbE q r1 (by simp [h]) h2' ha2
    exact ⟨by simp [l1],by simp [l2],by simpa using r2⟩
theorem ziv {ks:List Nat}:∀ {ss:List S} {vs:List V} {U:St} {j:Nat} {fp:List Addr},EnvRep K F0 H (ss.map some) (vs.map some) fp->Same F0 F->(∀ i s,ss[i]?=some s->(j + i)∈ks\/s.isSh=true)->
  (∀ i v,vs[i]?=some v->(j + i)∈ks->U[i]?=some (some v))->vs.length<=U.length->Args K F ss vs U
 | [],[],_,_,_,_,_,_,_,_=>by simp [Args]
 | [],_::_,_,_,_,r,_,_,_,_=>by cases r
 | _::_,[],_,_,_,r,_,_,_,_=>by cases r
 | _::_,_::_,[],_,_,_,_,_,_,h=>by simp at h
 | s::ss,v::vs,u::U,j,_,.so a b,sm,hk,hv,hl=>by
   refine ⟨?_,ziv (j:=j + 1) b sm (fun i t e=>by have:=hk (i + 1) t (by simpa using e); rwa [show j + (i + 1)=j + 1 + i by lia] at this) (fun i t e z=>by simpa using hv (i + 1) t (by simpa using e) (by rwa [show j + (i + 1)=j + 1 + i by lia])) (by simpa using hl)⟩
   cases hs:s.isSh with
   | true=>
     cases s with
     | sh d=>cases a with
       | sh r=>exact .inl ⟨d,rfl,r.mono sm⟩
     | _=>cases hs
   | false=>
     refine .inr ⟨rfl,?_⟩
     have:=hk 0 s rfl
     rw [hs] at this
     have z:(j + 0)∈ks:=this.resolve_right (by simp)
     simpa using hv 0 v rfl z
theorem fn_w {st:Stmt} (Fn:Fun K x qual st f fd) (Sc:FnScope N ps (defScope st)) (hn:ps.length=n) (hm:N.length=m)
  (hb:∀ (cdv:Value) (A:Around) (outer:List PySem.Env) (s:Shared) (H:Hp) (E:XK),Room k (A.deeper (envOfC qual (defScope st) s.heap.objs.size f cdv))->FSs (cxOf (CXe P w) P w K mg base N qual (defScope st) f cdv A outer s H E) ks (defBody st) wb):
  FnOk P w K mg base (CXe P w) (k + 1) f fd ps (spW K (wFn n m ks wb) n):=by
 refine Fn.okX Sc (fun vs H Q E h=>?_) (fun cdv A outer s H vs Q E hr h=>?_)
 ·obtain ⟨F,G,ss,P',PX,hl,_⟩:=h
  rw [hl,hn]
 ·obtain ⟨F,G,ss,P',PX,hvl,rel,⟨hsl,hks,hbody⟩,hok,hex⟩:=h
  refine ⟨_,hb cdv A outer s H E hr [] (cxOf (CXe P w) P w K mg base N qual (defScope st) f cdv A outer s H E).xe PassesOwn.leaving,?_⟩
  have hmn:N.length - vs.length=m - n:=by rw [hvl,hm]
  have hr0:Rel K (ss.map some++List.replicate (m - n) none) (L2.start N vs) F G H:=by
   unfold L2.start
   rw [hmn]
   exact rel.pushNs (m - n)
  have hpl:ps.length<=N.length:=by have:=congrArg List.length Sc.pre; rw [length_take] at this; lia
  have hst:∀ i v,vs[i]?=some v->(L2.start N vs)[i]?=some (some v):=fun i v e=>by
   unfold L2.start
   have hi:i < vs.length:=(qh.mp e).1
   rw [getElem?_append_left (by simpa using hi),getElem?_map,e]
   rfl
  -- how the arguments are at an end
  have arg:∀ {O':Env} {U':St} {F':Hp} {fs:List S},KP ks (L2.start N vs) U'->Same F F'->O'.length=U'.length->finals ss O'=some fs->Args K F' ss vs U':=by
   intro O' U' F' fs kp sm hlen e
   obtain ⟨fp,en,_⟩:=rel.en
   have hU:vs.length<=U'.length:=by
    -- finals reads as many slots as there are arguments
    have:∀ (ss:List S) (O:Env) (fs:List S),finals ss O=some fs->ss.length<=O.length:=by
     intro ss
     induction ss with
     | nil=>intro O fs _; simp
     | cons s ss ih=>
       intro O fs e
       cases O with
       | nil=>cases s <;> cases e
       | cons o O=>
         have:∃ gs,finals ss O=some gs:=by
          cases q:finals ss O with
          | some gs=>exact ⟨gs,rfl⟩
          | none=>
            cases s with
            | sh d=>have e':(finals ss O).map (S.sh d::·)=some fs:=e; rw [q] at e'; cases e'
            | _=>
              cases o with
              | none=>cases e
              | some t=>have e':(finals ss O).map (t::·)=some fs:=e; rw [q] at e'; cases e'
         obtain ⟨gs,q⟩:=this
         have:=ih O gs q
         simp
         exact this
    have:=this ss O' fs e
    rw [hsl] at this
    lia
   exact ziv (ks:=ks) (F:=F') (U:=U') (j:=0) en sm (fun i s e=>by simpa using hks i s e) (fun i v e z=>by
    rw [kp i (by simpa using z)]
    exact hst i v e) hU
  have fin:∀ {O':Env} {U':St} {F' H':Hp} {t:S} {v:V} {fs:List S},KP ks (L2.start N vs) U'->Same F F'->Rel K (O'++[some t]) (U'++[some v]) F' G H'->finals ss O'=some fs->P' t fs->Q v H':=by
   intro O' U' F' H' t v fs kp sm r e hp
   have hlen:O'.length=U'.length:=len1 r
   obtain ⟨l1,l2,r1⟩:=zbE (Oa:=[]) (Ua:=[]) (O':=[some t]) (U':=[some v]) e (by simpa using r) rfl hlen (arg kp sm hlen e)
   exact hok t fs v F' H' hp sm l1 (by simpa using r1)
  refine ⟨F,G,_,_,hr0,hbody,fun O' U' F' H' h kp sm r=>?_,fun O' U' F' H' h=>h.elim,fun O' U' F' H' h=>h.elim,fun a O' U' v F' H' h kp sm r rv=>?_,fun d O' U' F' H' u s' h kp sm r I xr=>?_⟩
  ·obtain ⟨fs,e,h⟩:=zae h
   exact fin kp sm (r.push .non) e h
  ·cases a with
   | v t=>
     obtain ⟨fs,e,h⟩:=zae h
     exact fin kp sm r e h
   | loc i=>
     obtain ⟨t,et,h⟩:=zae h
     have hl:=len1 r
     by_cases hi:i < n
     ·rw [if_pos hi] at h
      obtain ⟨fs,e,h⟩:=zae h
      obtain ⟨F2,s2,_,r2⟩:=giveR (x:=.loc i) (s:=.sh t.toD) (O1:=O'.set i (some (.sh t.toD))) (O':=[]) (U':=[]) r hl rv (by show (match slot O' i with | some s=>some (S.sh s.toD,O'.set i (some (.sh s.toD))) | none=>none)=_; rw [et])
      exact fin kp (sm.trans s2) r2 e h
     ·rw [if_neg hi] at h
      obtain ⟨fs,e,h⟩:=zae h
      have r2:=Rel.lend (O':=[]) (U':=[]) r hl et rv
      refine fin kp sm r2 ?_ h
      -- the slot lies behind the parameters
      have:∀ (ss:List S) (O:Env) (i:Nat),ss.length<=i->finals ss (O.set i none)=finals ss O:=by
       intro ss
       induction ss with
       | nil=>intro O i _; cases O <;> cases i <;> rfl
       | cons s ss ih=>
         intro O i hi
         cases O with
         | nil=>rfl
         | cons o O=>
           cases i with
           | zero=>simp at hi
           | succ i=>
             have e:=ih O i (by simpa using hi)
             show finals (s::ss) (o::O.set i none)=finals (s::ss) (o::O)
             cases s with
             | sh d=>show (finals ss (O.set i none)).map _=(finals ss O).map _; rw [e]
             | _=>
               cases o with
               | none=>rfl
               | some t=>show (finals ss (O.set i none)).map _=(finals ss O).map _; rw [e]
      rw [this ss O' i (by lia)]
      exact e
  ·obtain ⟨fs,e,h⟩:=zae h
   obtain ⟨a,C,dx,rfl,cd,Fl⟩:=xr
   obtain ⟨l1,l2,r1⟩:=zbE (K:=K) (Oa:=[]) (Ua:=[]) (O':=[]) (U':=[]) e (by simpa using (show Rel K O' U' F' G H' from r)) rfl r.len (arg kp sm r.len e)
   exact zjQ I Fl (hex d fs F' H' C dx h sm l1 (by simpa using r1) cd)
end
end FL
end
section
namespace FL
open PySem PySem.Spec PySem.Calls PyProof.Rows PySem.W L2
end FL
end
section
namespace FL
open PySem PySem.Spec PyProof.Rows L2
open PySem.W (kitOne kitAny nsIn kia_one kia_tup kitx_none)
end FL
end
section
namespace FL
open PySem PySem.Spec PyProof.Rows L2
open PySem.W (nsIn excIn mroIn clsIn isNs_of_in nsMap_none_of_in tail_of_in)
end FL
end
section
namespace FL
open PySem PySem.Spec PySem.Calls PyProof.Rows PySem.W L2
section
variable {prog:Program} {w:World} {A:Around} {E:Value->Shared->Prop} {h:Heap} {g:Array GenState} {d:Drawn} {t:Nat} {os:OsState}
variable {nm q:Str} {C N:Addr} {bs bm bmB:List Value} {hdct:Bool} {sn:List Str} {sub:List Value} {ab:Bool} {col:Option Bool} {dd:Option Addr} {k0 k1 k2 k3 k5:Option Value} {B newId initId:String} {K:Frag} {fI:Addr} {rest:List Value}
end
section
variable {M:Model} {prog:Program} {w:World} {A:Around} {E:Value->Shared->Prop} {s:Shared} {env:PySem.Env}
variable {nm q:Str} {C N:Addr} {bs bm bmB:List Value} {hdct:Bool} {sn:List Str} {sub:List Value} {ab:Bool} {col:Option Bool} {dd:Option Addr} {k0 k1 k2 k3 k5:Option Value} {B newId initId:String} {K:Frag} {fI:Addr}
end
end FL
end
section
namespace FL
open PySem PySem.Spec PySem.Calls PyProof.Rows PySem.W L2
open Builtin Builtin.ObjectAttr
end FL
end
section
namespace FL
open PySem PySem.Spec PyProof.Rows L2
open PySem.W (Frag nsIn findIn findObj)
section
variable {P:Program} {w:World} {H:Hp} {h:Heap} {e C:Addr} {dx:Option Addr}
variable {X:Cx} {pins:List (Addr×Obj)} {U:St} {s:Shared} {Wb fI:Addr} {n:Str} {y:V} {u:Value} {A:Around} {E:Value->Shared->Prop} {Q:Unit->Shared->Prop}
variable {o value:Expr} {pos pos':Pos} {ta tv:TE}
end
end FL
end
section
namespace L2
open PySem PySem.Spec PyProof.Rows
noncomputable def closL (cells:List (Str×Addr)):List (Str×NameKind)->List (Str×Addr)->List (Str×Addr)
 | [],acc=>acc
 | (n,k)::r,acc=>if k == .free then (match cells.lookup n with | some c=>closL cells r ((n,c)::acc) | none=>closL cells r acc) else closL cells r acc
theorem zb5 (f:Str×NameKind->List (Str×Addr)->Sem (ForInStep (List (Str×Addr))))
  (hf:∀ n k cs,f (n,k) cs=if k == .free then (do let a <- cellOf env n; pure (.yield ((n,a)::cs))) else pure (.yield cs)):
  ∀ (names:List (Str×NameKind)) (acc:List (Str×Addr)),(∀ x∈names,x.2=.free->∃ c,env.cells.lookup x.1=some c)->(forIn names acc f:Sem _)=pure (closL env.cells names acc)
 | [],acc,_=>by rw [List.forIn_nil]; rfl
 | (n,k)::r,acc,h=>by
   rw [List.forIn_cons,hf]
   have hr:∀ x∈r,x.2=.free->∃ c,env.cells.lookup x.1=some c:=fun x hx=>h x (qm _ hx)
   by_cases hk:(k == .free)=true
   ·obtain ⟨c,hc⟩:=h (n,k) qo (by simpa using hk)
    have hc':env.cells.lookup n=some c:=hc
    have e:cellOf env n=pure c:=by unfold cellOf; rw [hc']
    rw [if_pos hk,e]
    have ih:=zb5 f hf r ((n,c)::acc) hr
    unfold closL
    rw [if_pos hk,hc']
    rw [<- ih]
    simp
   ·rw [if_neg hk]
    have ih:=zb5 f hf r acc hr
    unfold closL
    rw [if_neg hk,<- ih]
    simp
theorem zdB (h:∀ x∈scope.names,x.2=.free->∃ c,env.cells.lookup x.1=some c):closureFor scope env=pure (closL env.cells scope.names []):=by
 show (forIn scope.names ([]:List (Str×Addr)) _ >>= fun cs=>pure cs)=_
 rw [zb5 (env:=env) _ (fun n k cs=>rfl) scope.names [] h]
 rfl
theorem zbG:∀ {names:List (Str×NameKind)} {acc:List (Str×Addr)},(n,c)∈closL cells names acc->(n,c)∈acc\/((n,NameKind.free)∈names/\cells.lookup n=some c)
 | [],_,h=>.inl h
 | (m,k)::r,acc,h=>by
   unfold closL at h
   by_cases hk:(k == .free)=true
   ·rw [if_pos hk] at h
    have hk':k=.free:=by simpa using hk
    cases q:cells.lookup m with
    | none=>
      rw [q] at h
      rcases zbG h with z | ⟨z,w⟩
      ·exact .inl z
      ·exact .inr ⟨qm _ z,w⟩
    | some d=>
      rw [q] at h
      rcases zbG h with z | ⟨z,w⟩
      ·rcases mem_cons.mp z with e | z
       ·cases e
        exact .inr ⟨by rw [<- hk']; exact qo,q⟩
       ·exact .inl z
      ·exact .inr ⟨qm _ z,w⟩
   ·rw [if_neg hk] at h
    rcases zbG h with z | ⟨z,w⟩
    ·exact .inl z
    ·exact .inr ⟨qm _ z,w⟩
theorem zbo (hc:cells.lookup n=some c):∀ {names:List (Str×NameKind)} {acc:List (Str×Addr)},((n,c)∈acc\/(n,NameKind.free)∈names)->(n,c)∈closL cells names acc
 | [],_,h=>h.elim id fun z=>by simp at z
 | (m,k)::r,acc,h=>by
   unfold closL
   by_cases hk:(k == .free)=true
   ·rw [if_pos hk]
    have hk':k=.free:=by simpa using hk
    cases q:cells.lookup m with
    | none=>
      refine zbo hc ?_
      rcases h with z | z
      ·exact .inl z
      ·rcases mem_cons.mp z with e | z
       ·cases e; rw [hc] at q; cases q
       ·exact .inr z
    | some d=>
      refine zbo hc ?_
      rcases h with z | z
      ·exact .inl (qm _ z)
      ·rcases mem_cons.mp z with e | z
       ·cases e; rw [hc] at q; cases q; exact .inl qo
       ·exact .inr z
   ·rw [if_neg hk]
    refine zbo hc ?_
    rcases h with z | z
    ·exact .inl z
    ·rcases mem_cons.mp z with e | z
     ·cases e; exact (hk (by decide)).elim
     ·exact .inr z
theorem zaN {α:Type}:∀ {l:List (Str×α)} {n:Str} {c:α},(n,c)∈l->(∀ c',(n,c')∈l->c'=c)->l.lookup n=some c
 | [],_,_,h,_=>by simp at h
 | (m,d)::r,n,c,h,u=>by
   rw [lookup_cons]
   cases hb:n == m with
   | true=>
     have e:n=m:=by simpa using hb
     subst e
     exact congrArg some (u d qo)
   | false=>
     refine zaN (l:=r) ?_ fun c' hc=>u c' (qm _ hc)
     rcases mem_cons.mp h with e | h
     ·cases e; simp at hb
     ·exact h
theorem za2:∀ {names:List (Str×NameKind)} {n:Nat} {acc:List (Str×Addr)} {x:Str} {c:Addr},(x,c)∈cellsFrom n names acc->(x,c)∈acc\/((x,NameKind.cell)∈names/\n<=c)
 | [],_,_,_,_,h=>.inl h
 | (m,k)::r,n,acc,x,c,h=>by
   unfold cellsFrom at h
   by_cases hk:(k == .cell)=true
   ·rw [if_pos hk] at h
    have hk':k=.cell:=by simpa using hk
    rcases za2 h with z | ⟨z,w⟩
    ·rcases mem_cons.mp z with e | z
     ·cases e; exact .inr ⟨by rw [<- hk']; exact qo,le_refl _⟩
     ·exact .inl z
    ·exact .inr ⟨qm _ z,by lia⟩
   ·rw [if_neg hk] at h
    rcases za2 h with z | ⟨z,w⟩
    ·exact .inl z
    ·exact .inr ⟨qm _ z,w⟩
theorem zaz:∀ {names:List (Str×NameKind)} {n:Nat} {acc:List (Str×Addr)} {x:Str},((x,NameKind.cell)∈names\/∃ c,(x,c)∈acc)->∃ c,(x,c)∈cellsFrom n names acc
 | [],_,_,_,h=>h.elim (fun z=>by simp at z) id
 | (m,k)::r,n,acc,x,h=>by
   unfold cellsFrom
   by_cases hk:(k == .cell)=true
   ·rw [if_pos hk]
    refine zaz ?_
    rcases h with z | ⟨c,z⟩
    ·rcases mem_cons.mp z with e | z
     ·cases e; exact .inr ⟨n,qo⟩
     ·exact .inl z
    ·exact .inr ⟨c,qm _ z⟩
   ·rw [if_neg hk]
    refine zaz ?_
    rcases h with z | z
    ·rcases mem_cons.mp z with e | z
     ·cases e; exact (hk (by decide)).elim
     ·exact .inl z
    ·exact .inr z
theorem zas {α:Type}:∀ {l:List (Str×α)} {x:Str},(∃ c,(x,c)∈l)->∃ c,l.lookup x=some c
 | [],_,⟨_,h⟩=>by simp at h
 | (m,d)::r,x,⟨c,h⟩=>by
   rw [lookup_cons]
   cases hb:x == m with
   | true=>exact ⟨d,rfl⟩
   | false=>
     refine zas (l:=r) ⟨c,?_⟩
     rcases mem_cons.mp h with e | h
     ·cases e; simp at hb
     ·exact h
theorem zaL:∀ {names:List (Str×NameKind)} {n:Nat} {acc:List (Str×Addr)},(∀ p∈acc,p.2 < n)->(∀ p∈acc,∀ q∈acc,p.2=q.2->p.1=q.1)->
  ∀ p∈cellsFrom n names acc,∀ q∈cellsFrom n names acc,p.2=q.2->p.1=q.1
 | [],_,_,_,h=>h
 | (m,k)::r,n,acc,hb,h=>by
   unfold cellsFrom
   by_cases hk:(k == .cell)=true
   ·rw [if_pos hk]
    refine zaL (fun p hp=>?_) fun p hp q hq e=>?_
    ·rcases mem_cons.mp hp with rfl | hp
     ·exact Nat.lt_succ_self _
     ·exact Nat.lt_succ_of_lt (hb p hp)
    ·rcases mem_cons.mp hp with rfl | hp <;> rcases mem_cons.mp hq with rfl | hq
     ·rfl
     ·have h1:=hb q hq
      have e':n=q.2:=e
      exact absurd h1 (by rw [<- e']; exact lt_irrefl _)
     ·have h1:=hb p hp
      have e':p.2=n:=e
      exact absurd h1 (by rw [e']; exact lt_irrefl _)
     ·exact h p hp q hq e
   ·rw [if_neg hk]
    exact zaL hb h
section
variable {M:Model} {A:Around} {E:Value->Shared->Prop} {s:Shared}
theorem zeS
  (hQ:∀ h':Heap,(∀ b o,s.heap.get? b=some o->h'.get? b=some o)->h'.Ns s.heap.objs.size (fun _=>none)->(∀ x c,(x,c)∈cellsFrom (s.heap.objs.size + 1) scope.names cl->(x,c)∈cl\/h'.IsCell c none)->
   Q { scope:=scope,locals:=s.heap.objs.size,globals:=globals,cells:=cellsFrom (s.heap.objs.size + 1) scope.names cl,qual:=qual,func:=none,code:=env.code,frame:=env.frame,builtins:=env.builtins } { s with heap:=h' }):
  wpAny M A (newFunctionEnv scope globals cl [] qual none .none (some env)) Q E s:=by
 simp only [newFunctionEnv,isSome_some,if_true]
 refine qa (wpAny_alloc ?_)
 refine qa (wpAny_layCells _ (fun name kind cells=>by cases hkc:kind == NameKind.cell <;> simp [hkc]) _ _ _ _ ?_)
 rw [show ({ s with heap:=s.heap.push { cls:=.type "dict",data:=.dict #[] } }:Shared).heap.objs.size=s.heap.objs.size + 1 from Heap.size_push ..]
 refine qb (hQ _ (fun b o e=>pushCells_keeps _ _ b o (qc _ e)) ((Heap.Ns.new s.heap (.type "dict")).keeps (pushCells_keeps _ _)) fun x c h=>?_)
 -- the new cells are empty
 have all:∀ (names:List (Str×NameKind)) (h:Heap) (acc:List (Str×Addr)),(∀ p∈acc,p∈cl\/h.IsCell p.2 none)->∀ p∈cellsFrom h.objs.size names acc,p∈cl\/(pushCells h names).IsCell p.2 none:=by
  intro names
  induction names with
  | nil=>intro h acc ha p hp; exact ha p hp
  | cons q r ih=>
    intro h acc ha p hp
    obtain ⟨m,k⟩:=q
    unfold cellsFrom at hp
    unfold pushCells
    by_cases hk:(k == .cell)=true
    ·rw [if_pos hk] at hp ⊢
     have e:(h.push { cls:=.type "cell",data:=.cell none }).objs.size=h.objs.size + 1:=Heap.size_push ..
     rw [<- e] at hp
     refine ih _ _ (fun p hp=>?_) p hp
     rcases mem_cons.mp hp with rfl | hp
     ·exact .inr ⟨_,qd _ rfl,rfl⟩
     ·rcases ha p hp with z | z
      ·exact .inl z
      ·exact .inr (z.keeps fun b o e=>qc _ e)
    ·rw [if_neg hk] at hp ⊢
     exact ih h acc ha p hp
 have:=all scope.names (s.heap.push { cls:=.type "dict",data:=.dict #[] }) cl (fun p hp=>.inl hp) (x,c) (by rw [Heap.size_push]; exact h)
 exact this
end
noncomputable def compN (N vars:List Str):List Str:=N.map (fun x=>if x∈vars then Str.empty else x)++Str.empty::vars
noncomputable def compCx (X:Cx) (scope:Scope) (vars:List Str) (s:Shared) (H:Hp) (ex:List Addr):Cx where
 prog:=X.prog
 w:=X.w
 K:=X.K
 mg:=X.mg
 base:=X.base
 A:=X.A
 N:=compN X.N vars
 s₀:=s
 H₀:=H
 env:=compEnvC scope (cellsFrom (s.heap.objs.size + 1) scope.names (closL X.env.cells scope.names [])) s.heap.objs.size X.env
 outer:=X.stack
 stack:=X.stack
 ex:=ex
 fn:=fun x=>decide ((x,NameKind.cell)∈scope.names)
 calm:=X.calm
 pn:=[]
 xe:=fun _ _=>False
structure CompScope (outer scope:Scope) (N vars:List Str):Prop where
 kind:scope.kind=.function
 fr:∀ x∈scope.names,x.2=.free->outer.names.lookup x.1=some .cell\/outer.names.lookup x.1=some .free
 nd:(scope.names.map (·.1)).Nodup
 own:∀ x∈N,x∉vars->(x,NameKind.local)∉scope.names/\(x,NameKind.cell)∉scope.names
 emp:scope.names.lookup Str.empty=none
theorem zaC {α:Type} {l:List (Str×α)} {c:α} (nd:(l.map (·.1)).Nodup):l.lookup n=some c↔(n,c)∈l:=by
 refine ⟨mem_of_lookup,fun h=>zaN h fun c' h'=>?_⟩
 induction l with
 | nil=>simp at h
 | cons p r ih=>
   grind
theorem zbv {α β:Type} (g:Str->α->β):∀ (l:List (Str×α)) (n:Str),(l.map fun p=>(p.1,g p.1 p.2)).lookup n=(l.lookup n).map (g n)
 | [],_=>rfl
 | (m,d)::r,n=>by
   rw [map_cons,lookup_cons,lookup_cons]
   cases hb:n == m with
   | true=>have e:n=m:=by simpa using hb
           subst e; rfl
   | false=>exact zbv g r n
noncomputable def rl (env:PySem.Env) (n:Str) (k:NameKind):NameKind:=if (k == NameKind.free && env.scope.kind == .function && env.kindOf n == some .cell) then NameKind.cell else k
theorem zdt (scope:Scope) (env:PySem.Env):(relabel scope env).names=scope.names.map fun p=>(p.1,rl env p.1 p.2):=by
 unfold relabel
 show scope.names.map _=scope.names.map _
 refine map_congr_left fun p _=>?_
 obtain ⟨n,k⟩:=p
 show (if (k == NameKind.free && env.scope.kind == .function && env.kindOf n == some .cell)=true then (n,NameKind.cell) else (n,k))=(n,rl env n k)
 unfold rl
 by_cases h:(k == NameKind.free && env.scope.kind == .function && env.kindOf n == some .cell)=true
 ·rw [if_pos h,if_pos h]
 ·rw [if_neg h,if_neg h]
theorem zaD (scope:Scope) (env:PySem.Env) (x:Str):(relabel scope env).names.lookup x=(scope.names.lookup x).map (rl env x):=by
 rw [zdt,zbv]
theorem zeA (h:k≠.free):rl env x k=k:=by
 unfold rl
 rw [if_neg]
 intro z
 simp at z
 exact h z.1.1
theorem zk5:rl env x .free=.cell\/rl env x .free=.free:=by
 unfold rl
 split
 ·exact .inl rfl
 ·exact .inr rfl
section
variable {X:Cx} {pins:List (Addr×Obj)} {U:St} {H:Hp} {s:Shared} {scope:Scope} {vars:List Str} {ex:List Addr}
theorem ziM (h:(compN N vars)[i]?=some x) (hi:i < N.length):(N[i]?=some x/\x∉vars)\/x=Str.empty:=by
 unfold compN at h
 rw [getElem?_append_left (by simpa using hi),getElem?_map] at h
 cases q:N[i]? with
 | none=>rw [q] at h; cases h
 | some y=>
   grind
theorem Inv.comp (I:Inv X pins U H s) (S:CompScope X.env.scope scope X.N vars) (hex:∀ b∈ex,FpOk X pins H b/\b < s.heap.objs.size) (kept:∀ b o,s.heap.get? b=some o->h'.get? b=some o) (hns:h'.Ns s.heap.objs.size (fun _=>none))
  (hcl:∀ x c,(x,c)∈cellsFrom (s.heap.objs.size + 1) scope.names (closL X.env.cells scope.names [])->(x,c)∈closL X.env.cells scope.names []\/h'.IsCell c none) (hk:vars.length=k) (w0:Option V):
  Inv (compCx X scope vars s H ex) [] (U++w0::List.replicate k none) H { s with heap:=h' }:=by
 have cm:∀ {x:Str} {c:Addr},(x,c)∈closL X.env.cells scope.names []->(x,NameKind.free)∈scope.names/\X.env.cells.lookup x=some c:=fun {x c} h=>by
  rcases zbG h with z | z
  ·simp at z
  ·exact z
 have lt:∀ {x:Str} {c:Addr},X.env.cells.lookup x=some c->c < s.heap.objs.size:=fun {x c} h=>by
  obtain ⟨v,z⟩:=I.cell x c h
  exact z.lt
 have look:∀ {x:Str} {c:Addr},(compCx X scope vars s H ex).env.cells.lookup x=some c->(X.env.cells.lookup x=some c/\(x,NameKind.free)∈scope.names)\/((x,NameKind.cell)∈scope.names/\s.heap.objs.size + 1<=c):=fun {x c} h=>by
  rcases za2 (mem_of_lookup h) with z | z
  ·exact .inl ⟨(cm z).2,(cm z).1⟩
  ·exact .inr z
 have uniq:∀ {x:Str} {a b:NameKind},(x,a)∈scope.names->(x,b)∈scope.names->a=b:=fun {x a b} h1 h2=>by
  have e1:=(zaC S.nd).mpr h1
  have e2:=(zaC S.nd).mpr h2
  rw [e1] at e2
  exact qg e2
 -- what a visible name is,seen from around
 have vis:∀ {x:Str},((relabel scope X.env).names.lookup x=some .cell\/(relabel scope X.env).names.lookup x=some .free)->(x,NameKind.cell)∈scope.names\/(x,NameKind.free)∈scope.names:=fun {x} h=>by
  rw [zaD] at h
  cases q:scope.names.lookup x with
  | none=>rw [q] at h; rcases h with h | h <;> cases h
  | some k=>
    have hm:=mem_of_lookup q
    rw [q] at h
    have h0:some (rl X.env x k)=some .cell\/some (rl X.env x k)=some .free:=h
    cases k with
    | cell=>exact .inl hm
    | free=>exact .inr hm
    | «local»=>rw [zeA (by decide)] at h0; rcases h0 with h | h <;> cases h
    | globalImplicit=>rw [zeA (by decide)] at h0; rcases h0 with h | h <;> cases h
    | globalExplicit=>rw [zeA (by decide)] at h0; rcases h0 with h | h <;> cases h
 have ok:(compCx X scope vars s H ex).Ok:=by
  refine ⟨I.ok.mod,S.kind,I.ok.glob,I.ok.blt,le_refl _,fun x y c h1 h2=>?_,fun x h=>?_,fun x c hf h=>?_,I.ok.hd,I.ok.frames,.inl rfl,fun b hb=>⟨?_,fun x c h z=>?_⟩,I.bs,le_trans I.ok.bsz I.sz,fun b o e hb=>?_,fun b hb z=>?_,I.stack,I.stkFree⟩
  ·refine zaL (fun p hp=>?_) (fun p hp q hq e=>?_) (x,c) (mem_of_lookup h1) (y,c) (mem_of_lookup h2) rfl
   ·exact Nat.lt_succ_of_lt (lt (cm (x:=p.1) (c:=p.2) hp).2)
   ·exact I.ok.inj _ _ _ (cm (x:=p.1) (c:=p.2) hp).2 (e ▸ (cm (x:=q.1) (c:=q.2) hq).2)
  ·rcases vis h with z | z
   ·exact zas (zaz (.inl z))
   ·obtain ⟨c,hc⟩:=I.ok.has x (S.fr (x,.free) z rfl)
    exact zas (zaz (.inr ⟨c,zbo hc (.inr z)⟩))
  ·have hf':(x,NameKind.cell)∈scope.names:=of_decide_eq_true hf
   rcases look h with ⟨_,z⟩ | ⟨_,z⟩
   ·cases uniq hf' z
   ·exact Nat.le_of_succ_le z
  ·exact ne_of_lt (hex b hb).2
  ·rcases look h with ⟨w,_⟩ | ⟨_,w⟩
   ·exact (hex b hb).1.2.2.2.2.1 x c w z
   ·have h1:=(hex b hb).2
    rw [<- z] at h1
    exact absurd (lt_of_lt_of_le h1 (Nat.le_of_succ_le w)) (lt_irrefl _)
  ·obtain ⟨_,_,_,h1,_⟩:=(hex b hb).1
   rcases h1 with z | z
   ·exact I.ok.noex b o e z
   ·rw [(I.ok.bs b o e).1] at z; cases z
  ·obtain ⟨_,h2,h3,_⟩:=(hex b hb).1
   rcases mem_cons.mp (I.stkSub b z) with w | w
   ·exact h2 w
   ·exact h3 w
 have cellK:∀ {c:Addr} {v:Option Value},s.heap.IsCell c v->h'.IsCell c v:=fun z=>z.keeps kept
 refine ⟨ok,rfl,I.bare,Un.kept kept,⟨_,hns,fun i x v h1 h2 h3=>?_⟩,fun x c h=>?_,I.hok.fresh (le_refl _),fun x c h=>?_,fun p hp=>absurd (show p∈([]:List (Addr×Obj)) from hp) (by simp),I.hok.kept kept,?_⟩
 ·-- a slot of the context
  have noE:¬ Vis (compCx X scope vars s H ex).env.scope Str.empty:=fun h3=>by
   have h3':(relabel scope X.env).names.lookup Str.empty=some .local\/(relabel scope X.env).names.lookup Str.empty=some .cell\/(relabel scope X.env).names.lookup Str.empty=some .free:=h3
   rw [zaD,S.emp] at h3'
   rcases h3' with z | z | z <;> cases z
  have hi:i < U.length:=by
   by_cases hi:i < U.length
   ·exact hi
   ·exfalso
    rw [getElem?_append_right (not_lt.mp hi)] at h2
    cases q:i - U.length with
    | zero=>
      have e:i=X.N.length:=by have:=I.len; lia
      rw [e] at h1
      have h1':(compN X.N vars)[X.N.length]?=some x:=h1
      unfold compN at h1'
      rw [getElem?_append_right (by simp)] at h1'
      simp at h1'
      subst h1'
      exact noE h3
    | succ j=>
      rw [q,List.getElem?_cons_succ,List.getElem?_replicate] at h2
      split at h2 <;> cases h2
  rw [getElem?_append_left hi] at h2
  rcases ziM h1 (by rw [<- I.len]; exact hi) with ⟨h1,hx⟩ | rfl
  ·have own:=S.own x (mem_of_getElem? h1) hx
   have hfree:(x,NameKind.free)∈scope.names:=by
    have h3':(relabel scope X.env).names.lookup x=some .local\/(relabel scope X.env).names.lookup x=some .cell\/(relabel scope X.env).names.lookup x=some .free:=h3
    rcases h3' with z | z
    ·rw [zaD] at z
     cases q:scope.names.lookup x with
     | none=>rw [q] at z; cases z
     | some kk=>
       rw [q] at z
       have z0:some (rl X.env x kk)=some .local:=z
       have hm:=mem_of_lookup q
       cases kk with
       | «local»=>exact absurd hm own.1
       | cell=>exact absurd hm own.2
       | free=>exact hm
       | globalImplicit=>rw [zeA (by decide)] at z0; cases z0
       | globalExplicit=>rw [zeA (by decide)] at z0; cases z0
    ·rcases vis z with w | w
     ·exact absurd w own.2
     ·exact w
   have hout:=S.fr (x,.free) hfree rfl
   obtain ⟨m,hm,hl⟩:=I.loc
   obtain ⟨u,r,l⟩:=hl i x v h1 h2 (hout.elim (fun z=>.inr (.inl z)) fun z=>.inr (.inr z))
   refine ⟨u,r,.inr ⟨?_,?_⟩⟩
   ·show (relabel scope X.env).names.lookup x=some .cell\/(relabel scope X.env).names.lookup x=some .free
    rw [zaD,(zaC S.nd).mpr hfree]
    show some (rl X.env x .free)=_\/some (rl X.env x .free)=_
    rcases zk5 (env:=X.env) (x:=x) with e | e <;> rw [e]
    ·exact .inl rfl
    ·exact .inr rfl
   ·rcases l with ⟨z,_⟩ | ⟨_,c,hc,z⟩
    ·have z':X.env.scope.names.lookup x=some .local:=z
     rcases hout with w | w <;> (have w':X.env.scope.names.lookup x=_:=w; rw [w'] at z'; cases z')
    ·refine ⟨c,?_,cellK z⟩
     show (cellsFrom (s.heap.objs.size + 1) scope.names (closL X.env.cells scope.names [])).lookup x=some c
     obtain ⟨c',hc'⟩:=zas (zaz (n:=s.heap.objs.size + 1) (names:=scope.names) (.inr ⟨c,zbo hc (.inr hfree)⟩))
     rcases look hc' with ⟨w,_⟩ | ⟨w,_⟩
     ·rw [hc] at w
      cases w
      exact hc'
     ·cases uniq hfree w
  ·exact absurd h3 noE
 ·rcases hcl x c (mem_of_lookup h) with z | z
  ·obtain ⟨v,w⟩:=I.cell x c (cm z).2
   exact ⟨v,cellK w⟩
  ·exact ⟨none,z⟩
 ·rcases look h with ⟨w,_⟩ | ⟨_,w⟩
  ·exact I.freeC x c w
  ·exact I.hok.fresh (Nat.le_of_succ_le w)
 ·show _=(compN X.N vars).length
  unfold compN
  simp [I.len,hk]
end
abbrev TB:=St->Hp->(St->Hp->Prop)->Prop
noncomputable def PRest (X:Cx) (m:Sem Unit) (t:TB):Prop:=∀ (pins:List (Addr×Obj)) (s:Shared) (U:St) (H:Hp) (Q:St->Hp->Prop),Inv X pins U H s->t U H Q->
 wpAny (model X.prog X.w) X.A m (fun _ s'=>∃ U' H',Inv X pins U' H' s'/\Q U' H') (fun _ _=>False) s
noncomputable def PIfs (X:Cx) (ifs:List Expr) (t:TT):Prop:=∀ (pins:List (Addr×Obj)) (s:Shared) (U:St) (H:Hp) (Q:Bool->Hp->Prop),Inv X pins U H s->t U H Q->
 wpAny (model X.prog X.w) X.A (forIn ifs true fun c r=>if r=true then do let ok <- isTrue c X.env (eval c X.env); pure (ForInStep.yield ok) else pure (ForInStep.yield r)) (TP X pins U Q) X.xe s
theorem zjj:PIfs X [] (fun _ H Q=>Q true H):=fun pins s U H Q I q=>wpAny_tests_nil ⟨H,I,q⟩
theorem zjW (h:PT X c t):PIfs X [c] t:=fun pins s U H Q I q=>wpAny_tests_one (h pins s U H Q I q)
noncomputable def tLoopB (g:TG) (tc:TT) (tb:TB) (J:It):TB:=fun U H Q=>∃ W:Nat->Nat->St->Hp->Prop,(∃ m,W 0 m U H)/\∀ i m U H,W i m U H->
 (J.stop i H/\Q U H)\/(J.go i H/\∃ N:St->Hp->Prop,(∀ U' H',N U' H'->∃ m',m' < m/\W (i + 1) m' U' H')/\∀ x H',J.yld i H x H'->g x U H' fun U2 H2=>tc U2 H2 fun b H3=>if b=true then tb U2 H3 N else N U2 H3)
noncomputable def PLoop (X:Cx) (e:Expr) (d:Nat) (acc:Value) (tg:Expr) (tl:It->TB):Prop:=∀ (pins:List (Addr×Obj)) (s:Shared) (U:St) (H:Hp) (J:It) (fp:List Addr) (it:Addr) (tn:Nat->Heap->Prop) (Q:St->Hp->Prop),Inv X pins U H s->
 Turn X.prog X.w X.K tg J fp it tn->tn 0 s.heap->(∀ b∈fp,FpOk X pins H b)->tl J U H Q->
 codeAny (model X.prog X.w) X.A (.compLoop e d (.ref it) acc X.env) (fun r s'=>∃ U' H',r=.ok .next/\Inv X pins U' H' s'/\Q U' H') s
noncomputable def PRestF (X:Cx) (m:Sem Fin) (c:Code) (t:TB):Prop:=∀ (pins:List (Addr×Obj)) (s:Shared) (U:St) (H:Hp) (Q:St->Hp->Prop),Inv X pins U H s->t U H Q->
 wpAny (model X.prog X.w) X.A m (fun f s'=>f=.again c/\∃ U' H',Inv X pins U' H' s'/\Q U' H') (fun _ _=>False) s
theorem PRest.f (h:PRest X m t):PRestF X (m >>= fun _=>again c) c t:=fun pins s U H Q I q=>
 qa (wpAny_mono (h pins s U H Q I q) (fun _ s' z=>qb ⟨rfl,z⟩) fun _ _ z=>z)
theorem zbI {inner:Addr->Sem Fin} (hc:X.calm=true) (hxe:X.xe=fun _ _=>False) (hg:PG X tg g) (ht:PIfs X ifs tc) (hr:∀ it,PRestF X (inner it) (.compLoop e d (.ref it) acc X.env) tb)
  (hq:∀ it,(Code.compLoop e d (.ref it) acc X.env).quiet=true) (hun:∀ it,X.A.under (.compLoop e d (.ref it) acc X.env)=X.A)
  (hden:∀ it,(model X.prog X.w).den (.compLoop e d (.ref it) acc X.env)=(compTurn e d (.ref it) acc X.env).onRaise (fun x=>do noteFrame x X.env; theTreesLotGoes x))
  (heq:∀ it,compTurn e d (.ref it) acc X.env=(standAt ipos >>= fun _=>pyNext (.ref it) >>= fun r=>match r with
   | none=>pure (.done .next)
   | some v=>letOwnedTupleGo tg (.ref it) v >>= fun _=>assign tg X.env v >>= fun _=>
     (forIn ifs true fun c r=>if r=true then do let ok <- isTrue c X.env (eval c X.env); pure (ForInStep.yield ok) else pure (ForInStep.yield r)) >>= fun ok=>
      if ok=true then inner it else again (.compLoop e d (.ref it) acc X.env))):
  PLoop X e d acc tg (tLoopB g tc tb):=by
 intro pins s U H J fp it tn Q I T st f ⟨W,⟨m0,w0⟩,turn⟩
 have stat:∀ {H':Hp},(∀ b∈fp,H' b=none)->∀ b∈fp,FpOk X pins H' b:=fun hn b hb=>⟨hn b hb,(f b hb).2⟩
 have nox:∀ {α:Type} {m:Sem α} {Q:α->Shared->Prop} {E:Value->Shared->Prop} {s:Shared},wpAny (model X.prog X.w) X.A m Q X.xe s->wpAny (model X.prog X.w) X.A m Q E s:=fun h=>wpAny_mono h (fun _ _ q=>q) fun _ _ x=>by rw [hxe] at x; exact x.elim
 refine codeAny_loop (hq it) (fun n s'=>∃ i U' H',Inv X pins U' H' s'/\tn i s'.heap/\(∀ b∈fp,H' b=none)/\W i n U' H') ?_ m0 ⟨0,U,H,I,st,fun b hb=>(f b hb).1,w0⟩
 rintro n s3 ⟨i,U3,H3,I3,st3,fr3,w3⟩
 rw [hun,hden]
 refine wpAny_noted ?_
 rw [heq]
 refine qa (wpAny_standAt (qa ?_))
 rcases turn i n U3 H3 w3 with ⟨stop,qn⟩ | ⟨go,N,hN,step⟩
 ·refine thn (T.done X rfl rfl rfl hc i pins s3 U3 H3 _ I3 (stat fr3) st3 stop) fun r s4 ⟨hr,I4⟩=>?_
  subst hr
  exact qb ⟨U3,H3,rfl,I4,qn⟩
 ·refine thn (T.item X rfl rfl rfl hc i pins s3 U3 H3 _ I3 (stat fr3) st3 go) fun r s4 zq=>?_
  obtain ⟨u,hr',h4⟩:=zq
  subst hr'
  refine qa (thn h4 fun _ s5 zq=>?_)
  obtain ⟨x,H5,I5,r5,y5,st5,fr5⟩:=zq
  have I5':=I5.pinned (stat fr5) (T.obj _ _ st5)
  refine qa (nox (thn (hg _ s5 U3 H5 x u _ I5' r5 (step x H5 y5)) fun _ s6 zq=>?_))
  obtain ⟨U6,H6,I6,q6⟩:=zq
  have again:∀ {U7:St} {H7:Hp} {s7:Shared},Inv X (pins++pinsAt fp s5.heap) U7 H7 s7->N U7 H7->∃ m,m < n/\∃ i U' H',Inv X pins U' H' s7/\tn i s7.heap/\(∀ b∈fp,H' b=none)/\W i m U' H':=fun {U7 H7 s7} I7 n7=>by
   obtain ⟨m',hm,w7⟩:=hN U7 H7 n7
   refine ⟨m',hm,i + 1,U7,H7,I7.unpinned,T.keep _ _ _ st5 fun b hb o e=>(I7.pin (b,o) (qj _ (qj _ (zbr hb e)))).1,fun b hb=>?_,w7⟩
   obtain ⟨o,e,d⟩:=T.obj _ _ st5 b hb
   exact (I7.pin (b,o) (qj _ (qj _ (zbr hb e)))).2.1
  refine qa (nox (thn (ht _ s6 U6 H6 _ I6 q6) fun b s7 zq=>?_))
  obtain ⟨H7,I7,q7⟩:=zq
  cases b with
  | true=>
    rw [if_pos rfl] at q7
    rw [if_pos rfl]
    refine wpAny_mono (hr it _ s7 U6 H7 _ I7 q7) (fun f s8 zq=>?_) fun _ _ z=>z.elim
    obtain ⟨ef,U8,H8,I8,n8⟩:=zq
    subst ef
    exact ⟨rfl,again I8 n8⟩
  | false=>
    rw [if_neg Bool.false_ne_true] at q7
    rw [if_neg Bool.false_ne_true]
    exact qb ⟨rfl,again I7 q7⟩
theorem zdi (hl:PLoop X e d acc tg tl)
  (hq:∀ it,(Code.compLoop e d (.ref it) acc X.env).quiet=true) (hun:∀ it,X.A.under (.compStart e d (.ref it) acc X.env)=X.A)
  (hden:∀ it,(model X.prog X.w).den (.compStart e d (.ref it) acc X.env)=(compStart e d (.ref it) acc X.env).onRaise (fun x=>do noteFrame x X.env; standAt theWindowsPlace))
  (heq:∀ it,∃ p,compStart e d (.ref it) acc X.env=(ask >>= fun c=>if c.params.followText "comprehension-iter-twice"=true then again (.compLoop e d (.ref it) acc X.env) else
   rule "comprehension.iter-twice" >>= fun _=>standAt p >>= fun _=>pyIter (.ref it) >>= fun it'=>again (.compLoop e d it' acc X.env))) (I:Inv X pins U H s)
  (T:Turn X.prog X.w X.K tg J fp it tn) (st:tn 0 s.heap) (f:∀ b∈fp,FpOk X pins H b) (q:tl J U H Q):
  codeAny (model X.prog X.w) X.A (.compStart e d (.ref it) acc X.env) (fun r s'=>∃ U' H',r=.ok .next/\Inv X pins U' H' s'/\Q U' H') s:=by
 have h0:=hl pins s U H J fp it tn Q I T st f q
 refine codeAny_of_tree ?_
 rw [hun,hden]
 refine wpAny_notedAt ?_
 obtain ⟨p,e⟩:=heq it
 rw [e]
 refine qa (wpAny_askSetting (wpAny_ite ?_))
 split
 ·exact qb ⟨hq it,h0⟩
 ·exact qa (wpAny_rule (qa (wpAny_standAt (qa (T.self X.A 0 s _ _ st (qb ⟨hq it,h0⟩))))))
end L2
end
section
namespace FL
open PySem PySem.Spec PyProof.Rows L2
inductive tWB (X:Cx) (n:Nat) (D:Addr) (b:WB) (U:St) (H:Hp) (Q:St->Hp->Prop):Prop
 | mk (F G:Hp) (O:Env) (P:Env->Prop) (rel:Rel X.K O U F G H) (hs:U[n]?=some (some (.ref D))) (hw:b O P NX) (hn:∀ O' U' F' H',P O'->KP (List.range (n + 1)) U U'->Same F F'->Rel X.K O' U' F' G H'->Q U' H'):tWB X n D b U H Q
theorem xc0:XC X T F G NX:=fun _ _ _ _ _ _ _ z=>z.elim
section
variable {K:W.Frag} {F F' H H' G G':Hp} {U U':St} {v u:V}
theorem SReps.snoc (b:SReps K F H xs l fp) (r:SRep K F H v s fq):SReps K F H (xs++[v]) (l++[s]) (fp++fq):=
 SReps.ind (P:=fun xs l fp=>SReps K F H (xs++[v]) (l++[s]) (fp++fq)) (by have:=SReps.cons r .nil; rwa [append_nil] at this) (fun a _ ih=>by rw [append_assoc]; exact .cons a ih) b
theorem SReps.len (r:SReps K F H xs l fp):xs.length=l.length:=SReps.ind (P:=fun xs l _=>xs.length=l.length) rfl (fun _ _ ih=>congrArg (· + 1) ih) r
theorem Rel.append {D:Addr} (r:Rel K (O++[some s]) (U++[some v]) F G H) (hs:slot O n=some (.lst l)) (hU:U[n]?=some (some (.ref D))):
  ∃ xs,H D=some (.lst xs)/\xs.length=l.length/\Rel K (O.set n (some (.lst (l++[s])))) U F G (upd H D (.lst (xs++[v]))):=by
 have hl:=len1 r
 obtain ⟨fp,e,nd,ap⟩:=r.en
 obtain ⟨f1,f2,rfl,a,b⟩:=e.cut hl
 obtain ⟨v',fa,fi,fb,e1,rfl,q,up⟩:=a.at hs
 rw [hU] at e1
 have e2:V.ref D=v':=by simpa using e1
 subst e2
 cases q with
 | lst hD rl=>
   rename_i xs fl
   cases b with
   | so sr nl=>
     cases nl
     rename_i fs
     refine ⟨xs,hD,rl.len,?_⟩
     have es:U.set n (some (.ref D))=U:=by
      apply ext_getElem?
      intro j
      by_cases hj:n=j
      ·subst hj
       rw [getElem?_set_self (qh.mp hU).1,hU]
      ·rw [getElem?_set_ne hj]
     -- D is nobody else's
     obtain ⟨n1,n2,n12⟩:=nodup_append.mp nd
     obtain ⟨na,nib,nab⟩:=nodup_append.mp n1
     obtain ⟨ni,nb,nib⟩:=nodup_append.mp nib
     obtain ⟨nD,nfl⟩:=nodup_cons.mp ni
     have hDa:D∉fa:=fun z=>nab D z D (qk _ qo) rfl
     have hDb:D∉fb:=fun z=>nib D qo D z rfl
     have hDs:D∉fs:=fun z=>n12 D (qj _ (qk _ qo)) D (by simpa using z) rfl
     have apD:=ap D (qk _ (qj _ (qk _ qo)))
     have ne:∀ {l:List Addr},D∉l->∀ x∈l,upd H D (.lst (xs++[v])) x=H x:=fun h x hx=>zaf fun z=>h (z ▸ hx)
     have new:SRep K F (upd H D (.lst (xs++[v]))) (.ref D) (.lst (l++[s])) (D::(fl++fs)):=.lst zai (SReps.snoc (rl.mono (Same.refl F) (ne nD)) (sr.mono (Same.refl F) (ne hDs)))
     have a2:=up (F':=F) (H':=upd H D (.lst (xs++[v]))) (o:=some (.lst (l++[s]))) (u:=some (.ref D)) (Same.refl F) (fun x hx=>zaf fun z=>(mem_append.mp hx).elim (fun w=>hDa (z ▸ w)) fun w=>hDb (z ▸ w)) (.so new .nil)
     rw [es] at a2
     have p:(fa++((D::(fl++fs))++[]++fb)).Perm (fa++((D::fl)++fb)++(fs++[])):=by
      simp only [append_nil,append_assoc,cons_append]
      refine List.Perm.append_left _ (List.Perm.cons _ (List.Perm.append_left _ perm_append_comm))
     refine ⟨Same.updR r.fr apD.1,fun x o w=>?_,_,a2,p.nodup_iff.mpr (by simpa using nd),fun x hx=>ap x (by simpa using p.mem_iff.mp hx)⟩
     have hx:x≠D:=fun z=>by rw [z,apD.2] at w; cases w
     rw [zaf hx]
     exact r.gr x o w
end
section
variable {X:Cx} {n:Nat} {D:Addr} {ks:List Nat}
theorem zcW (hxe:X.xe=fun _ _=>False) (h:FE X elt we):PRest X (eval elt X.env >>= fun x=>call (.builtin "list.append") [.ref D,x] >>= fun _=>pure ()) (tWB X n D (bEmit n we)):=by
 intro pins s U H Q I q
 obtain ⟨F,G,O,P,rel,hU,hw,hok⟩:=q
 have hp:PassesOwn (model X.prog X.w) X.A X.env X.xe:=by rw [hxe]; exact PassesOwn.never
 have he:=h X.pn X.xe hp pins s U H (fun v H1=>∃ F1 O1 t l,Same F F1/\Rel X.K (O1++[some t]) (U++[some v]) F1 G H1/\slot O1 n=some (.lst l)/\l.length < big/\P (O1.set n (some (.lst (l++[t]))))) I
  ⟨F,G,O,_,NX,rel,hw,fun r O1 v F1 H1 hk s1 r1 rv=>?_,xc0⟩
 ·have xe0:∀ e s',X.xe e s'->False:=fun e s' z=>by rw [hxe] at z; exact z
  refine qa (wpAny_mono he (fun u s1 zq=>?_) fun e s' z=>xe0 e s' z)
  obtain ⟨v,H1,I1,rv,F1,O1,t,l,sm,r1,hs,hz,hP⟩:=zq
  obtain ⟨xs,hD,hlen,r2⟩:=Rel.append r1 hs hU
  refine qa (wpAny_mono (zcT pins s1 U H1 (.ref D) [v] (.ref D) [u] (fun w H'=>w=.non/\H'=upd H1 D (.lst (xs++[v]))) I1 rfl (.cons rv .nil) ⟨D,xs,v,rfl,rfl,hD,by rw [hlen,sizeLine_eq]; exact lt_trans hz (by decide),rfl,rfl⟩) (fun w s2 zq=>?_) fun e s' z=>xe0 e s' z)
  obtain ⟨w',H2,I2,_,_,e2⟩:=zq
  subst e2
  exact qb ⟨U,_,I2,hok _ U F1 _ hP KP.refl sm r2⟩
 ·obtain ⟨⟨t,O2⟩,eg,hk⟩:=zae hk
  obtain ⟨F2,s2,l2,r2⟩:=giveR (O':=[]) (U':=[]) r1 (len1 r1) rv eg
  dsimp only at hk
  split at hk
  ·rename_i l e
   exact ⟨F2,O2,t,l,s1.trans s2,r2,e,hk.1,hk.2⟩
  ·exact hk.elim
theorem zaO:PIfs X [] (tWT X wYes):=fun pins s U H Q I q=>zjj pins s U H Q I (by
 obtain ⟨F,G,O,P,PX,rel,hw,hok,hx⟩:=q
 exact hok true O F H hw (Same.refl F) rel)
theorem zb4 (hxe:X.xe=fun _ _=>False) (h:FT X c wc):PIfs X [c] (tWT X wc):=zjW (h X.pn X.xe (by rw [hxe]; exact PassesOwn.never))
theorem zfS (it:ItOk X.K J l F) (rel:Rel X.K O U F G H) (hU:U[n]?=some (some (.ref D)))
  (hw:bLoop g wc b l O P NX) (hok:∀ O' U' F' H',P O'->KP (List.range (n + 1)) U U'->Same F F'->Rel X.K O' U' F' G H'->Q U' H'):
  tLoopB (tWG X (List.range (n + 1)) g) (tWT X wc) (tWB X n D b) J U H Q:=by
 have hU':∀ {U':St},KP (List.range (n + 1)) U U'->U'[n]?=some (some (.ref D)):=fun k=>by rw [k n (by simp)]; exact hU
 refine ⟨fun i m U2 H2=>m=l.length - i/\i<=l.length/\∃ F2 O2,KP (List.range (n + 1)) U U2/\Same F F2/\Rel X.K O2 U2 F2 G H2/\bLoop g wc b (l.drop i) O2 P NX,⟨l.length,by simp,zero_le _,F,O,KP.refl,Same.refl F,rel,by simpa using hw⟩,?_⟩
 rintro i m U2 H2 ⟨rfl,hi,F2,O2,kp,s2,r2,hw2⟩
 obtain ⟨it1,it2⟩:=it i O2 U2 F2 G H2 s2 r2
 by_cases hlt:i < l.length
 ·obtain ⟨go,yld⟩:=it1 l[i] (by simp [hlt])
  refine .inr ⟨go,fun U3 H3=>i + 1<=l.length/\∃ F3 O3,KP (List.range (n + 1)) U U3/\Same F F3/\Rel X.K O3 U3 F3 G H3/\bLoop g wc b (l.drop (i + 1)) O3 P NX,fun U3 H3 h=>⟨l.length - (i + 1),by lia,rfl,h⟩,fun y H3 hy=>?_⟩
  obtain ⟨F3,s3,r3,rp⟩:=yld y H3 hy
  rw [List.drop_eq_getElem_cons hlt] at hw2
  refine ⟨F3,G,O2,_,_,r3.push rp,hw2,fun O4 U4 F4 H4 hp4 k4 s4 r4=>?_⟩
  have kp4:=kp.trans k4
  have sm4:=s2.trans (s3.trans s4)
  refine ⟨F4,G,O4,_,_,r4,hp4,fun k O5 F5 H5 hp5 s5 r5=>?_,xc0⟩
  cases k with
  | true=>
    dsimp only
    rw [if_pos rfl]
    exact ⟨F5,G,O5,_,r5,hU' kp4,hp5,fun O' U' F' H' h k' s r=>⟨hlt,F',O',kp4.trans k',sm4.trans (s5.trans s),r,h⟩⟩
  | false=>
    dsimp only
    rw [if_neg Bool.false_ne_true]
    exact ⟨hlt,F5,O5,kp4,sm4.trans s5,r5,hp5⟩
 ·have e:i=l.length:=Nat.le_antisymm hi (not_lt.mp hlt)
  subst e
  rw [List.drop_length] at hw2
  exact .inl ⟨it2 (le_refl _),hok O2 U2 F2 H2 hw2 kp s2 r2⟩
theorem zi8 (hxe:X.xe=fun _ _=>False) (hi:FI X tg iter wi) (hl:PLoop X e d (.ref D) tg (tLoopB (tWG X (List.range (n + 1)) g) (tWT X wc) (tWB X n D b)))
  (hs:∀ x,foldedSetIterable iter X.env x=pure x) (hm:X.A.mark none=X.A)
  (hq:∀ it,(Code.compLoop e d (.ref it) (.ref D) X.env).quiet=true) (hun:∀ it,X.A.under (.compStart e d (.ref it) (.ref D) X.env)=X.A)
  (hden:∀ it,(model X.prog X.w).den (.compStart e d (.ref it) (.ref D) X.env)=(compStart e d (.ref it) (.ref D) X.env).onRaise (fun x=>do noteFrame x X.env; standAt theWindowsPlace))
  (heq:∀ it,∃ p,compStart e d (.ref it) (.ref D) X.env=(ask >>= fun c=>if c.params.followText "comprehension-iter-twice"=true then again (.compLoop e d (.ref it) (.ref D) X.env) else
   rule "comprehension.iter-twice" >>= fun _=>standAt p >>= fun _=>pyIter (.ref it) >>= fun it'=>again (.compLoop e d it' (.ref D) X.env))):
  PRestF X (eval iter X.env >>= fun x=>standAt ip >>= fun _=>foldedSetIterable iter X.env x >>= fun x=>holding [x] (pyIter x) >>= fun it=>runOwn (.compStart e d it (.ref D) X.env) X.env >>= fun _=>again c0) c0 (tWB X n D (bFor wi g wc b)):=by
 intro pins s U H Q I q
 obtain ⟨F,G,O,P,rel,hU,hw,hok⟩:=q
 have hp:PassesOwn (model X.prog X.w) X.A X.env X.xe:=by rw [hxe]; exact PassesOwn.never
 have xe0:∀ e s',X.xe e s'->False:=fun e s' z=>by rw [hxe] at z; exact z
 have hi':=hi X.pn X.xe hp pins s U H (fun J H1=>tLoopB (tWG X (List.range (n + 1)) g) (tWT X wc) (tWB X n D b) J U H1 Q) I
  ⟨F,G,O,_,NX,rel,hw,fun l O1 F1 H1 J hk s1 r1 it=>zfS it r1 hU hk fun O' U' F' H' a k s r=>hok O' U' F' H' a k (s1.trans s) r,xc0⟩
 refine qa (wpAny_mono hi' (fun x s1 h1=>?_) fun e s' z=>xe0 e s' z)
 refine qa (wpAny_standAt (qa (wpAny_of_eq (hs x) (qa (wpAny_holding (wpAny_mono h1 (fun itv s2 h2=>?_) fun e s' z=>xe0 e s' z))))))
 obtain ⟨it,fp,tn,J,H2,e1,I2,T,st,f,q2⟩:=h2
 subst e1
 refine qa (wpAny_runOwn ?_)
 rw [hm]
 refine codeAny_mono (zdi hl hq hun hden heq I2 T st f q2) fun r s3 zq=>?_
 obtain ⟨U3,H3,er,I3,q3⟩:=zq
 subst er
 exact qb ⟨rfl,U3,H3,I3,q3⟩
end
theorem zcR {α:Type} {l:List α} {a:α} (h:l[n]?=some a):l=l.take n++a::l.drop (n + 1):=by
 obtain ⟨hn,e⟩:=qh.mp h
 rw [<- e,<- List.drop_eq_getElem_cons hn,List.take_append_drop]
section
variable {X:Cx} {k:Nat} {vars:List Str}
theorem zfe (hmk:∀ (A:Around) (E:Value->Shared->Prop) (s:Shared) (Q:Value->Shared->Prop),Q (.ref s.heap.objs.size) { s with heap:=s.heap.push { cls:=.type ty,dict:=none,data:=dat } }->wpAny (model X.prog X.w) A mk Q E s) (ho:∀ (H:Hp) (h:Heap),sysModules < h.objs.size->ObjOk X.prog X.w H (h.push { cls:=.type ty,dict:=none,data:=dat }) h.objs.size o0) (hs0:∀ (F H:Hp) (p:Addr),H p=some o0->SRep X.K F H (.ref p) s0 [p]) (hcl:clausesOf e=⟨tg,iter,ifs,0⟩::gs) (hs:∀ x,foldedSetIterable iter X.env x=pure x)
  (Sc:CompScope X.env.scope scope X.N vars) (hk:vars.length=k) (hi:FI X tg iter wi)
  (hb:∀ (s:Shared) (H:Hp) (ex:List Addr) (D:Addr),PLoop (compCx X scope vars s H ex) e 0 (.ref D) tg (tLoopB (tWG (compCx X scope vars s H ex) (List.range (X.N.length + 1)) g) (tWT (compCx X scope vars s H ex) wc) (tWB (compCx X scope vars s H ex) X.N.length D b)))
  (hq:∀ it acc env,(Code.compLoop e 0 (.ref it) acc env).quiet=true) (hun:∀ it acc env,X.A.under (.compStart e 0 (.ref it) acc env)=X.A)
  (hden:∀ it acc env,(model X.prog X.w).den (.compStart e 0 (.ref it) acc env)=(compStart e 0 (.ref it) acc env).onRaise (fun x=>do noteFrame x env; standAt theWindowsPlace))
  (heq:∀ it acc env,∃ p,compStart e 0 (.ref it) acc env=(ask >>= fun c=>if c.params.followText "comprehension-iter-twice"=true then again (.compLoop e 0 (.ref it) acc env) else
   rule "comprehension.iter-twice" >>= fun _=>standAt p >>= fun _=>pyIter (.ref it) >>= fun it'=>again (.compLoop e 0 it' acc env))) (hp:PassesOwn (model X.prog X.w) X.A X.env xe) {P:WQ} (I:Inv (wp X pn xe) pins U H s)
  (rel:Rel X.K O U F G H) (hw:wi O (fun l O1=>bLoop g wc b l (O1++some s0::List.replicate k none) (fun O2=>need (slot O2 X.N.length) fun s=>P (.v s) (O2.take X.N.length)) NX) PX) (hx:XC (wp X pn xe) (·=U) F G PX)
  (fin:∀ (D C:Addr) (s4:Shared) (H4 F4:Hp) (m:Str->Option Value) (t:S) (O4:Env),s4.heap.Ns C m->Inv (wp X pn xe) pins U H4 s4->H4 C=none->C≠X.env.locals->X.s₀.heap.objs.size<=C->(∀ x c,X.env.cells.lookup x=some c->c≠C)->(∀ p∈pn++pins,p.1≠C)->
   P (.v t) O4->Same F F4->Rel X.K (O4++[some t]) (U++[some (.ref D)]) F4 G H4->compPost (model X.prog X.w) X.A xe use Q' (.ref D) C (.ok .next) s4):
  wpAny (model X.prog X.w) X.A (comprehension e scope X.env cpos mk false (eval iter X.env) use) Q' xe s:=by
 have hi':=hi pn xe hp pins s U H (fun J H1=>∃ F1 O1 l,Same F F1/\Rel X.K O1 U F1 G H1/\ItOk X.K J l F1/\
   bLoop g wc b l (O1++some s0::List.replicate k none) (fun O2=>need (slot O2 X.N.length) fun s=>P (.v s) (O2.take X.N.length)) NX) I
  ⟨F,G,O,_,PX,rel,hw,fun l O1 F1 H1 J hk s1 r1 it=>⟨F1,O1,l,s1,r1,it,hk⟩,hx⟩
 have hfree:∀ x∈scope.names,x.2=.free->∃ c,X.env.cells.lookup x.1=some c:=fun x hx hf=>I.ok.has x.1 (Sc.fr x hx hf)
 refine wpAny_comprehension_free (use:=use) hcl hs (zdB hfree) Sc.kind (fun x hx hl=>(zaC Sc.nd).mpr (by obtain ⟨a,b⟩:=x; have hl':b=.local:=hl; subst hl'; exact hx)) (wpAny_mono hi' (fun v s1 h1=>wpAny_mono h1 (fun itv s2 h2=>?_) fun _ _ z=>z) fun _ _ z=>z)
 obtain ⟨it,fp,tn,J,H2,e1,I2,T,st,f,F1,O1,l,s1',r1,ito,hk2⟩:=h2
 subst e1
 -- the acc
 refine hmk _ _ _ _ ?_
 generalize hs3:({ s2 with heap:=s2.heap.push { cls:=.type ty,dict:=none,data:=dat } }:Shared)=s3
 have k23:∀ b o,s2.heap.get? b=some o->s3.heap.get? b=some o:=fun b o e=>by rw [<- hs3]; exact qc _ e
 have sz3:s3.heap.objs.size=s2.heap.objs.size + 1:=by rw [<- hs3]; exact Heap.size_push ..
 have hD:H2 s2.heap.objs.size=none:=I2.hok.fresh (le_refl _)
 have I3:Inv (wp X pn xe) pins U (upd H2 s2.heap.objs.size o0) s3:=by
  rw [<- hs3]
  exact I2.laid (t':=s2.toks) (fun b o e=>qc _ e) (le_refl _) (ho _ _ I2.big)
 have r3:Rel X.K (O1++[some s0]) (U++[some (.ref s2.heap.objs.size)]) F1 G (upd H2 s2.heap.objs.size o0):=r1.newO hD (hs0 _ _ _ zai)
 have fplt:∀ b∈fp,b < s2.heap.objs.size:=fun b hb=>by
  obtain ⟨o,e,_⟩:=T.obj _ _ st b hb
  exact qe e
 have fne:∀ b∈fp,b≠s2.heap.objs.size:=fun b hb=>ne_of_lt (fplt b hb)
 have f3:∀ b∈fp,FpOk (wp X pn xe) pins (upd H2 s2.heap.objs.size o0) b:=fun b hb=>by
  obtain ⟨h1,h2⟩:=f b hb
  exact ⟨by rw [zaf (fne b hb)]; exact h1,h2⟩
 refine zeS fun h' kept hns hcl'=>?_
 have I4:=Inv.comp (X:=wp X pn xe) (ex:=fp) I3 Sc (fun b hb=>⟨f3 b hb,by rw [sz3]; exact Nat.lt_succ_of_lt (fplt b hb)⟩) kept hns hcl' hk (some (.ref s2.heap.objs.size))
 have hUn:(U++some (.ref s2.heap.objs.size)::List.replicate k none)[X.N.length]?=some (some (.ref s2.heap.objs.size)):=by
  have hl:X.N.length=U.length:=I2.len.symm
  rw [hl,getElem?_append_right (le_refl _),sub_self]
  rfl
 have r4:Rel X.K (O1++some s0::List.replicate k none) (U++some (.ref s2.heap.objs.size)::List.replicate k none) F1 G (upd H2 s2.heap.objs.size o0):=by
  have:=r3.pushNs k
  simpa using this
 have st4:tn 0 h':=T.keep _ _ _ st fun b hb o e=>kept b o (k23 b o e)
 have f4:∀ b∈fp,FpOk (compCx X scope vars s3 (upd H2 s2.heap.objs.size o0) fp) [] (upd H2 s2.heap.objs.size o0) b:=fun b hb=>by
  obtain ⟨h1,h2,h3,h4,h5,h6⟩:=f3 b hb
  have e:=I4.ok.exf b hb
  exact ⟨h1,e.1,I4.ok.exfs b hb,.inl hb,e.2,fun p hp=>absurd (show p∈([]:List (Addr×Obj)) from hp) (by simp)⟩
 have go:=zdi (hb s3 (upd H2 s2.heap.objs.size o0) fp s2.heap.objs.size) (fun it=>hq it _ _) (fun it=>hun it _ _) (fun it=>hden it _ _) (fun it=>heq it _ _) I4 T st4 f4
  (Q:=fun U' H'=>∃ F' O',need (slot O' X.N.length) (fun s=>P (.v s) (O'.take X.N.length))/\KP (List.range (X.N.length + 1)) (U++some (.ref s2.heap.objs.size)::List.replicate k none) U'/\Same F1 F'/\Rel X.K O' U' F' G H')
  (zfS ito r4 hUn hk2 fun O' U' F' H' a kp sm r=>⟨F',O',a,kp,sm,r⟩)
 refine codeAny_mono go fun r s4 zq=>?_
 obtain ⟨U4,H4,er,I5,F4,O4,hn4,kp4,sm4,r5⟩:=zq
 subst er
 obtain ⟨m,hm,_⟩:=id I5.loc
 have I6:Inv (wp X pn xe) pins U H4 s4:=Inv.call' (ch:=fp) I3 I5.os I5.base I5.hok I5.bare fun b hb=>by
  obtain ⟨h1,h2,h3,h4,h5,h6⟩:=f3 b hb
  exact ⟨h4,h2,h5,h6⟩
 -- the block's names go
 obtain ⟨t,et,hP⟩:=zae hn4
 have hl:X.N.length=U.length:=I2.len.symm
 have hU4:U4[X.N.length]?=some (some (.ref s2.heap.objs.size)):=by rw [kp4 X.N.length (by simp)]; exact hUn
 have eU:U4.take X.N.length=U:=by
  apply ext_getElem?
  intro j
  by_cases hj:j < X.N.length
  ·rw [List.getElem?_take_of_lt hj,kp4 j (by simp; lia),getElem?_append_left (by lia)]
  ·rw [List.getElem?_take_eq_none (not_lt.mp hj),getElem?_eq_none (by lia)]
 have e1:=zcR (zbN et)
 have e2:=zcR hU4
 rw [e1,e2,eU] at r5
 have r6:Rel X.K ((O4.take X.N.length++[some t])++O4.drop (X.N.length + 1)) ((U++[some (.ref s2.heap.objs.size)])++U4.drop (X.N.length + 1)) F4 G H4:=by simpa using r5
 have hlt:X.N.length < O4.length:=zb7 et
 have ltC:∀ {b:Addr} {o:Obj},s3.heap.get? b=some o->b≠s3.heap.objs.size:=fun e=>ne_of_lt (qe e)
 refine fin s2.heap.objs.size s3.heap.objs.size s4 H4 F4 m t (O4.take X.N.length) hm I6 I5.free (Ne.symm (ne_of_lt I3.lt)) I3.sz (fun x c e z=>?_) (fun p hp z=>?_) hP (s1'.trans sm4) (r6.drop (by simp; lia))
 ·obtain ⟨v,o,ho,_⟩:=I3.cell x c e
  exact ltC ho z
 ·exact ltC (I3.pin p hp).1 z
theorem ziP {P:WQ} (hok:∀ r O' v F' H',P r O'->Same F F'->Rel X.K (O'++[slotOf r]) (U++[some v]) F' G H'->RV U v r->Q v H'):
  ∀ (D C:Addr) (s4:Shared) (H4 F4:Hp) (m:Str->Option Value) (t:S) (O4:Env),s4.heap.Ns C m->Inv (wp X pn xe) pins U H4 s4->H4 C=none->C≠X.env.locals->X.s₀.heap.objs.size<=C->(∀ x c,X.env.cells.lookup x=some c->c≠C)->(∀ p∈pn++pins,p.1≠C)->
    P (.v t) O4->Same F F4->Rel X.K (O4++[some t]) (U++[some (.ref D)]) F4 G H4->compPost (model X.prog X.w) X.A xe none (EP (wp X pn xe) pins U Q) (.ref D) C (.ok .next) s4:=
 fun D C s4 H4 F4 m t O4 hm I n1 n2 n3 n4 n5 hP sm r=>⟨m,hm,fun h'' sb=>⟨.ref D,H4,I.turned (t':=s4.toks) (fun b o hb e=>(sb.2 b hb).trans e) n1 n2 (.inr (Heap.get?_none_of_le n3)) n4 n5,rfl,hok (.v t) O4 _ F4 H4 hP sm r trivial⟩⟩
theorem zlE {P:WQ} {Nx:Env->Prop} (hk:i∉ks) (hN:∀ j,X.N[j]?=some y->j=i) (hi:X.N[i]?=some y) (hy:X.env.scope.names.lookup y=some .local)
  (hP:∀ s O,P (.v s) O->Nx (O.set i (some s))) (hok:∀ O' U' F' H',Nx O'->KP ks U U'->Same F F'->Rel X.K O' U' F' G H'->DD.nx U' H'):
  ∀ (D C:Addr) (s4:Shared) (H4 F4:Hp) (m:Str->Option Value) (t:S) (O4:Env),s4.heap.Ns C m->Inv (wp X pn xe) pins U H4 s4->H4 C=none->C≠X.env.locals->X.s₀.heap.objs.size<=C->(∀ x c,X.env.cells.lookup x=some c->c≠C)->(∀ p∈pn++pins,p.1≠C)->
    P (.v t) O4->Same F F4->Rel X.K (O4++[some t]) (U++[some (.ref D)]) F4 G H4->compPost (model X.prog X.w) X.A xe (some (assign (.Name y py) X.env)) (fun _ s'=>SP (wp X pn xe) pins DD .next s') (.ref D) C (.ok .next) s4:=
 fun D C s4 H4 F4 m t O4 hm I n1 n2 n3 n4 n5 hp sm r=>by
  have hl:=len1 r
  have hiO:i < O4.length:=by rw [hl,I.len]; exact (qh.mp hi).1
  refine wpAny_assign_Name (zea (X:=wp X pn xe) (v:=.ref D) I hN hi (.inl hy) rfl (fun s5 I5 zq=>?_) (.inr hy))
  obtain ⟨a,sb,ha⟩:=zq
  have haC:C≠a:=by
   rcases ha with e | e
   ·rw [e]; exact n2
   ·exact Ne.symm (n4 y a e)
  refine ⟨m,hm.sameBut sb haC,fun h'' sb2=>⟨_,H4,I5.turned (t':=s5.toks) (fun b o hb e=>(sb2.2 b hb).trans e) n1 n2 (.inr (Heap.get?_none_of_le n3)) n4 n5,?_⟩⟩
  exact hok _ _ F4 H4 (hP t O4 hp) (KP.set hk) sm (r.store hl hiO)
theorem zff (A:Around) (E:Value->Shared->Prop) (s:Shared) (Q:Value->Shared->Prop) (h:Q (.ref s.heap.objs.size) { s with heap:=s.heap.push { cls:=.type ty,dict:=none,data:=dat } }) (hz:sizeOk dat:=by size_fits):wpAny (model X.prog X.w) A (newObj (.type ty) dat) Q E s:=wpAny_newObj_type h hz
theorem ze8 (H:Hp) (h:Heap) (_:sysModules < h.objs.size):ObjOk X.prog X.w H (h.push { cls:=.type "list",dict:=none,data:=.seq ([]:List Value).toArray }) h.objs.size (.lst []):=⟨zero_le _,[],0,.nil,qd _ rfl⟩
theorem zhd (F H:Hp) (p:Addr) (e:H p=some (.lst [])):SRep X.K F H (.ref p) (.lst []) [p]:=.lst e .nil
theorem zbn (hn:X.N.length=n) (hc:X.calm=true) (Sc:CompScope X.env.scope scope X.N vars) (hk:vars.length=k) (hi:FI X tg iter wi)
  (hg:∀ s H ex,FG (compCx X scope vars s H ex) (List.range (n + 1)) tg g) (ht:∀ s H ex,PIfs (compCx X scope vars s H ex) ifs (tWT (compCx X scope vars s H ex) wc)) (he:∀ s H ex,FE (compCx X scope vars s H ex) elt we)
  (hs:∀ x,foldedSetIterable iter X.env x=pure x:=by intro _; rfl):FE X (.ListComp elt [⟨tg,iter,ifs,0⟩] scope pos) (wLC n k wi g wc (bEmit n we)):=by
 subst hn
 intro pn xe hp pins s U H Q I q
 show wpAny (model X.prog X.w) X.A (eval (.ListComp elt [⟨tg,iter,ifs,0⟩] scope pos) X.env) (EP (wp X pn xe) pins U Q) xe s
 rw [eval_ListComp]
 obtain ⟨F,G,O,P,PX,rel,hw,hok,hx⟩:=q
 refine zfe (fun A E s Q h=>zff A E s Q h) (s0:=.lst []) ze8 zhd rfl hs Sc hk hi (fun s H ex D=>?_) (fun _ _ _=>rfl) (fun _ _ _=>rfl) (fun _ _ _=>rfl) (fun _ _ _=>⟨_,rfl⟩) hp I rel hw hx (ziP hok)
 exact zbI (X:=compCx X scope vars s H ex) hc rfl (hg s H ex [] (fun _ _=>False) PassesOwn.never) (ht s H ex) (fun _=>(zcW (X:=compCx X scope vars s H ex) rfl (he s H ex)).f) (fun _=>rfl) (fun _=>rfl) (fun _=>rfl) (fun _=>rfl)
theorem zcN (hki:i∉ks) (hN:∀ j,X.N[j]?=some y->j=i) (hiN:X.N[i]?=some y) (hy:X.env.scope.names.lookup y=some .local)
  (hsw:swapsWith (.ListComp elt [⟨tg,iter,ifs,0⟩] scope pos) (some (.Name y py)) spos.line X.env=pure true)
  (hn:X.N.length=n) (hc:X.calm=true) (Sc:CompScope X.env.scope scope X.N vars) (hk:vars.length=k) (hi:FI X tg iter wi)
  (hg:∀ s H ex,FG (compCx X scope vars s H ex) (List.range (n + 1)) tg g) (ht:∀ s H ex,PIfs (compCx X scope vars s H ex) ifs (tWT (compCx X scope vars s H ex) wc)) (he:∀ s H ex,FE (compCx X scope vars s H ex) elt we)
  (hs:∀ x,foldedSetIterable iter X.env x=pure x:=by intro _; rfl):FS X ks (.Assign [.Name y py] (.ListComp elt [⟨tg,iter,ifs,0⟩] scope pos) spos) (wAsg (gName i) (wLC n k wi g wc (bEmit n we))):=by
 subst hn
 intro pn xe hp pins s U H D I q
 show wpAny (model X.prog X.w) X.A (exec (.Assign [.Name y py] (.ListComp elt [⟨tg,iter,ifs,0⟩] scope pos) spos) X.env) (SP (wp X pn xe) pins D) xe s
 rw [exec_Assign_Name_used _ _ _ _ hsw]
 refine qa (wpAny_standAt (qa ?_))
 obtain ⟨F,G,O,E,rel,hw,n,b,c,r,x⟩:=q
 show wpAny _ X.A (do let _ <- comprehension (.ListComp elt [⟨tg,iter,ifs,0⟩] scope pos) scope X.env _ (newList []) false (eval iter X.env) (some (assign (.Name y py) X.env))) _ _ s
 refine qa (wpAny_mono (zfe (fun A E s Q h=>zff A E s Q h) (s0:=.lst []) (P:=fun r O1=>need (give r O1) fun p=>gName i p.1 p.2 E.nx) (PX:=E.ex) (g:=g) (wc:=wc) (b:=bEmit X.N.length we) (Q':=fun _ s'=>SP (wp X pn xe) pins D .next s') ze8 zhd rfl hs Sc hk hi (fun s H ex D=>?_) (fun _ _ _=>rfl) (fun _ _ _=>rfl) (fun _ _ _=>rfl) (fun _ _ _=>⟨_,rfl⟩) hp I rel hw (x.mono (fun U2 z=>by rw [z]; exact KP.refl) (Same.refl F) (Same.refl G))
  (zlE (P:=fun r O1=>need (give r O1) fun p=>gName i p.1 p.2 E.nx) (Nx:=E.nx) hki hN hiN hy (fun s O h=>h) n)) (fun _ s' hq=>qb (qb hq)) fun _ _ e=>e)
 exact zbI (X:=compCx X scope vars s H ex) hc rfl (hg s H ex [] (fun _ _=>False) PassesOwn.never) (ht s H ex) (fun _=>(zcW (X:=compCx X scope vars s H ex) rfl (he s H ex)).f) (fun _=>rfl) (fun _=>rfl) (fun _=>rfl) (fun _=>rfl)
set_option maxHeartbeats 4000000 in
theorem zne (hn:X.N.length=n) (hm:X.A.mark none=X.A) (hc:X.calm=true) (Sc:CompScope X.env.scope scope X.N vars) (hk:vars.length=k) (hi:FI X tg iter wi)
  (hg:∀ s H ex,FG (compCx X scope vars s H ex) (List.range (n + 1)) tg g) (ht:∀ s H ex,PIfs (compCx X scope vars s H ex) ifs (tWT (compCx X scope vars s H ex) wc))
  (hi2:∀ s H ex,FI (compCx X scope vars s H ex) tg2 iter2 wi2) (hg2:∀ s H ex,FG (compCx X scope vars s H ex) (List.range (n + 1)) tg2 g2) (ht2:∀ s H ex,PIfs (compCx X scope vars s H ex) ifs2 (tWT (compCx X scope vars s H ex) wc2))
  (he:∀ s H ex,FE (compCx X scope vars s H ex) elt we)
  (hs:∀ x,foldedSetIterable iter X.env x=pure x:=by intro _; rfl) (hs2:∀ env x,foldedSetIterable iter2 env x=pure x:=by intro _ _; rfl):FE X (.ListComp elt [⟨tg,iter,ifs,0⟩,⟨tg2,iter2,ifs2,0⟩] scope pos) (wLC n k wi g wc (bFor wi2 g2 wc2 (bEmit n we))):=by
 subst hn
 intro pn xe hp pins s U H Q I q
 show wpAny (model X.prog X.w) X.A (eval (.ListComp elt [⟨tg,iter,ifs,0⟩,⟨tg2,iter2,ifs2,0⟩] scope pos) X.env) (EP (wp X pn xe) pins U Q) xe s
 rw [eval_ListComp]
 obtain ⟨F,G,O,P,PX,rel,hw,hok,hx⟩:=q
 refine zfe (fun A E s Q h=>zff A E s Q h) (s0:=.lst []) ze8 zhd rfl hs Sc hk hi (fun s H ex D=>?_) (fun _ _ _=>rfl) (fun _ _ _=>rfl) (fun _ _ _=>rfl) (fun _ _ _=>⟨_,rfl⟩) hp I rel hw hx (ziP hok)
 have inner:PLoop (compCx X scope vars s H ex) (.ListComp elt [⟨tg,iter,ifs,0⟩,⟨tg2,iter2,ifs2,0⟩] scope pos) 1 (.ref D) tg2 _:=
  zbI (X:=compCx X scope vars s H ex) hc rfl (hg2 s H ex [] (fun _ _=>False) PassesOwn.never) (ht2 s H ex) (fun _=>(zcW (X:=compCx X scope vars s H ex) (n:=X.N.length) rfl (he s H ex)).f) (fun _=>rfl) (fun _=>rfl) (fun _=>rfl) (fun _=>rfl)
 exact zbI (X:=compCx X scope vars s H ex) hc rfl (hg s H ex [] (fun _ _=>False) PassesOwn.never) (ht s H ex) (fun _=>zi8 (X:=compCx X scope vars s H ex) rfl (hi2 s H ex) inner (hs2 _) hm (fun _=>rfl) (fun _=>rfl) (fun _=>rfl) (fun _=>⟨_,rfl⟩)) (fun _=>rfl) (fun _=>rfl) (fun _=>rfl) (fun _=>rfl)
end
section
variable {X:Cx} {K:W.Frag}
theorem zb8 {x:Str} (e:x.cps.toList=l):x.length=l.length:=by rw [<- e]; rfl
theorem zkC {x y:Str} (e:x.cps.toList=l) (e':y.cps.toList=m):(x++y).cps.toList=l++m:=by
 show (x.cps++y.cps).toList=_
 rw [toList_append,e,e']
theorem RepE.int (h:RepE K F H v (.int i)):v=.int i:=by
 rcases h with h | ⟨_,_,_,_,h,_⟩ | ⟨_,_,_,_,_,h,_⟩ | ⟨_,_,_,_,_,h,_⟩
 ·cases h; rfl
 ·cases h
 ·cases h
 ·cases h
theorem RepE.str (h:RepE K F H v (.str l)):∃ x,v=.str x/\x.cps.toList=l/\l.length<=16777216:=by
 rcases h with h | ⟨_,_,_,_,h,_⟩ | ⟨_,_,_,_,_,h,_⟩ | ⟨_,_,_,_,_,h,_⟩
 ·cases h with
  | str e z=>exact ⟨_,rfl,e,z⟩
 ·cases h
 ·cases h
 ·cases h
theorem RepE.tup (h:RepE K F H v (.tup l)):∃ a xs,v=.ref a/\F a=some (.tup xs)/\Reps K F xs l:=by
 rcases h with h | ⟨_,_,_,_,h,_⟩ | ⟨_,_,_,_,_,h,_⟩ | ⟨_,_,_,_,_,h,_⟩
 ·cases h with
  | tup e r=>exact ⟨_,_,rfl,e,r⟩
 ·cases h
 ·cases h
 ·cases h
theorem RepE.lst (sm:Same F H) (h:RepE K F H v (.lst l)):∃ a xs,v=.ref a/\SqL K H a xs/\Reps K F xs l:=by
 rcases h with h | ⟨a,xs,ds,e1,h,e2,r⟩ | ⟨_,_,_,_,_,h,_⟩ | ⟨_,_,_,_,_,h,_⟩
 ·cases h with
  | lst e r=>exact ⟨_,_,rfl,SqL.mono sm e,r⟩
 ·cases h
  exact ⟨a,xs,e1,SqL.of e2,r⟩
 ·cases h
 ·cases h
theorem Reps.append (a:Reps K F xs l) (r:Reps K F ys m):Reps K F (xs++ys) (l++m):=Reps.ind (P:=fun xs l=>Reps K F (xs++ys) (l++m)) r (fun a _ ih=>.cons a ih) a
theorem Rel.newLD (r:Rel K O U F G H) (hp:H p=none) (rx:Reps K F xs l):Rel K (O++[some (.lst (l.map .sh))]) (U++[some (.ref p)]) F G (upd H p (.lst xs)):=by
 have sr:∀ {xs:List V} {l:List D},Reps K F xs l->SReps K F (upd H p (.lst xs)) xs (l.map .sh) []:=by
  intro xs l h
  generalize upd H p (.lst xs)=H'
  induction xs generalizing l with
  | nil=>cases h; exact .nil
  | cons x xs ih=>cases h with
    | cons a b=>
      have:=SReps.cons (SRep.sh (H:=H') a) (ih b)
      exact this
 refine r.newO hp (.lst zai ?_)
 have:=sr rx
 exact this
noncomputable def rCatL (K:W.Frag):R2:=fun x y H Q=>∃ l b xs zs,x=.ref l/\y=.ref b/\SqL K H l xs/\SqL K H b zs/\xs.length + zs.length<=sizeLine/\∀ p,H p=none->Q (.ref p) (upd H p (.lst (xs++zs)))
theorem zkQ:OpR X (binaryOp .Add) (rCatL X.K):=by
 intro pins s U H x y v u Q I rx ry h
 obtain ⟨l,b,xs,zs,rfl,rfl,hl,hb,hz,q⟩:=h
 cases rx
 cases ry
 obtain ⟨its,r1,⟨⟨cls,dd,data,sl⟩,n,ho,hc,hd0,hd⟩,_⟩:=I.list hl
 obtain ⟨its2,r2,⟨⟨cls2,dd2,data2,sl2⟩,n2,ho2,hc2,hd02,hd2⟩,_⟩:=I.list hb
 simp only at hc hd0 hd hc2 hd02 hd2
 subst hc hd0 hd hc2 hd02 hd2
 refine concat_meets ⟨_,ho,rfl⟩ ⟨_,ho2,rfl⟩ noFill_list_add seq_list_add PySem.F.slot_list_add PySem.F.entry_list_add (PySem.F.args_list_add_2 _ _) (list_addW l b its.toArray its2.toArray n n2 none none sl sl2 (by rw [size_toArray,size_toArray,<- r1.length,<- r2.length]; exact hz)) ⟨ho,ho2,?_⟩
 have ea:its.toArray++its2.toArray=(its++its2).toArray:=by simp
 rw [ea]
 exact ⟨.ref _,_,I.lnew (t':=s.toks) (r1.append r2) (by rw [length_append]; exact hz),rfl,q _ I.fresh⟩
noncomputable def rCatTT (K:W.Frag):R2:=fun x y H Q=>∃ a b xs ys,x=.ref a/\y=.ref b/\SqT K H a xs/\SqT K H b ys/\xs.length + ys.length<=sizeLine/\
 (xs=[]->Q (.ref b) H)/\(xs≠[]->ys=[]->Q (.ref a) H)/\(xs≠[]->ys≠[]->∀ p,H p=none->Q (.ref p) (upd H p (.tup (xs++ys))))
theorem zj8:OpR X (binaryOp .Add) (rCatTT X.K):=by
 intro pins s U H x y v u Q I rx ry h
 obtain ⟨a,b,xs,ys,rfl,rfl,ha,hb,hz,q0,q1,q2⟩:=h
 by_cases hx:xs=[]
 ·cases rx
  cases ry
  obtain ⟨its,r1,p1,_⟩:=I.tuple ha
  obtain ⟨its2,r2,p2,_⟩:=I.tuple hb
  obtain ⟨⟨cls,dd,data,sl⟩,ho,hc,n,hd⟩:=id p1
  obtain ⟨⟨cls2,dd2,data2,sl2⟩,ho2,hc2,n2,hd2⟩:=id p2
  simp only at hc hd hc2 hd2
  subst hc hd hc2 hd2
  have hi:its=[]:=r1.nil_iff.mpr hx
  exact concat_meets ⟨_,ho,rfl⟩ ⟨_,ho2,rfl⟩ noFill_tuple_add seq_tuple_add PySem.F.slot_tuple_add PySem.F.entry_tuple_add (PySem.F.args_tuple_add_2 _ _)
   (tuple_addW0 a b its.toArray its2.toArray n n2 dd dd2 sl sl2 (by simp [hi])) ⟨ho,ho2,.ref b,H,I,rfl,q0 hx⟩
 ·exact zlD pins s U H _ _ v u Q I rx ry ⟨a,b,xs,ys,rfl,rfl,ha,hb,hx,hz,q1 hx,q2 hx⟩
noncomputable def rStrAdd:R2:=fun x y H Q=>∃ i j,x=.str i/\y=.str j/\i.length + j.length<=sizeLine/\Q (.str (i++j)) H
noncomputable def rAddAll (K:W.Frag):R2:=fun x y H Q=>rI0 (fun i j=>.int (i + j)) x y H Q\/(rStrAdd x y H Q\/(rCatL K x y H Q\/rCatTT K x y H Q))
theorem zhm:OpR X (binaryOp .Add) (rAddAll X.K):=OpR.or znT (OpR.or zgi (OpR.or zkQ zj8))
theorem zcn (h:n<=big):n<=sizeLine:=by rw [sizeLine_eq]; exact le_trans h (by decide)
theorem zjd:Does K (rAddAll K) oAdd:=by
 intro U O F G H x y p q s Q rel ex ey e hq
 unfold oAdd at e
 split at e
 ·cases e
  have h1:=ex.int
  have h2:=ey.int
  subst h1 h2
  exact .inl ⟨_,_,rfl,rfl,hq _ F H (Same.refl F) (rel.push (.int _))⟩
 ·rename_i a b
  split at e
  ·rename_i hz
   cases e
   obtain ⟨x,rfl,e1,z1⟩:=ex.str
   obtain ⟨y,rfl,e2,z2⟩:=ey.str
   refine .inr (.inl ⟨_,_,rfl,rfl,by rw [zb8 e1,zb8 e2]; exact zcn hz,hq _ F H (Same.refl F) (rel.push (.str (zkC e1 e2) (by rw [length_append]; exact le_trans hz (by decide))))⟩)
  ·cases e
 ·rename_i a b
  split at e
  ·rename_i hz
   cases e
   obtain ⟨l,xs,rfl,h1,r1⟩:=ex.lst rel.fr
   obtain ⟨m,ys,rfl,h2,r2⟩:=ey.lst rel.fr
   refine .inr (.inr (.inl ⟨l,m,xs,ys,rfl,rfl,h1,h2,by rw [r1.len,r2.len]; exact zcn hz,fun p hp=>?_⟩))
   exact hq _ F _ (Same.refl F) (rel.newLD hp (r1.append r2))
  ·cases e
 ·rename_i a b
  split at e
  ·rename_i hz
   cases e
   obtain ⟨l,xs,rfl,h1,r1⟩:=ex.tup
   obtain ⟨m,ys,rfl,h2,r2⟩:=ey.tup
   refine .inr (.inr (.inr ⟨l,m,xs,ys,rfl,rfl,SqT.of (rel.fr _ _ h1),SqT.of (rel.fr _ _ h2),by rw [r1.len,r2.len]; exact zcn hz,fun hx=>?_,fun _ hy=>?_,fun _ _ p hp=>?_⟩))
   ·subst hx
    cases r1
    exact hq _ F H (Same.refl F) (rel.push (.tup h2 r2))
   ·subst hy
    cases r2
    rw [append_nil] at hq
    exact hq _ F H (Same.refl F) (rel.push (.tup h1 r1))
   ·have n2:=(rel.free hp).1
    exact hq _ _ _ (Same.upd n2) ((rel.newF hp).push (.tup zai ((r1.append r2).mono (Same.upd n2))))
  ·cases e
 ·cases e
theorem za3 {g:Int->Int->Int} (ho:∀ p q s,o p q=some s->∃ i j,p=.int i/\q=.int j/\C i j/\s=.sh (.int (g i j))):Does K (rI C fun i j=>.int (g i j)) o:=by
 intro U O F G H x y p q s Q rel ex ey e hq
 obtain ⟨i,j,rfl,rfl,hc,rfl⟩:=ho p q s e
 have h1:=ex.int
 have h2:=ey.int
 subst h1 h2
 exact ⟨i,j,rfl,rfl,hc,hq _ F H (Same.refl F) (rel.push (.int _))⟩
theorem zjx:Does K (rI (fun _ _=>True) fun i j=>.int (i - j)) oSub:=za3 fun p q s e=>by
 unfold oSub at e
 split at e
 ·cases e; exact ⟨_,_,rfl,rfl,trivial,rfl⟩
 ·cases e
theorem zlO:OpR X (binaryOp .Sub) (rI (fun _ _=>True) fun i j=>.int (i - j)):=opI fun _ _ _ _ _ _ _ _ q=>sub_int q
theorem zjK:Does K (rI CMul fun i j=>.int (i * j)) oMul:=za3 fun p q s e=>by
 unfold oMul at e
 split at e
 ·rename_i i j
  split at e
  ·rename_i h
   cases e
   refine ⟨_,_,rfl,rfl,?_,rfl⟩
   simp only [mulOk,or_eq_true,and_eq_true,decide_eq_true_eq] at h
   exact h
  ·cases e
 ·cases e
theorem zj0:Does K (rI (fun _ j=>0 < j) fun i j=>.int (i % j)) oMod:=za3 fun p q s e=>by
 unfold oMod at e
 split at e
 ·split at e
  ·rename_i h; cases e; exact ⟨_,_,rfl,rfl,h,rfl⟩
  ·cases e
 ·cases e
theorem zjH:Does K (rI CPow fun i j=>.int (i ^ j.toNat)) oPow:=za3 fun p q s e=>by
 unfold oPow at e
 split at e
 ·split at e
  ·rename_i h; cases e; exact ⟨_,_,rfl,rfl,⟨h.1,by lia,h.2.2⟩,rfl⟩
  ·cases e
 ·cases e
noncomputable def CDivB (i j:Int):Prop:=0 < j/\j < 18446744073709551616
theorem zjA:OpR X (binaryOp .FloorDiv) (rI CDivB fun i j=>.int (i / j)):=opI fun i j _ _ _ _ _ hc q=>by
 have h1:(0:Int) < j:=hc.1
 have h2:j < 18446744073709551616:=hc.2
 refine floordiv_int (by lia) ?_ (.inl (PyProof.noPylong_of_log2 ?_))
 ·rw [Int.fdiv_eq_ediv_of_nonneg _ (by lia)]; exact q
 ·have h0:j.natAbs≠0:=by lia
  have:j.natAbs.log2 < 64:=(Nat.log2_lt h0).mpr (by lia)
  lia
theorem zhL:Does K (rI CDivB fun i j=>.int (i / j)) oFdiv:=za3 fun p q s e=>by
 unfold oFdiv at e
 split at e
 ·split at e
  ·rename_i h; cases e; exact ⟨_,_,rfl,rfl,h,rfl⟩
  ·cases e
 ·cases e
end
section
variable {X:Cx} {a b:Expr} {wa wb:WE} {pos:Pos}
theorem zam (ha:FE X a wa) (hb:FE X b wb):FE X (.BinOp a .Add b pos) (wBin oAdd wa wb):=zbT (fun _ _=>zhm) zjd ha hb
theorem zcg (ha:FE X a wa) (hb:FE X b wb):FE X (.BinOp a .Sub b pos) (wBin oSub wa wb):=zbT (fun _ _=>zlO) zjx ha hb
theorem zci (ha:FE X a wa) (hb:FE X b wb):FE X (.BinOp a .Mod b pos) (wBin oMod wa wb):=zbT (fun _ _=>zn5) zj0 ha hb
theorem ziQ (ha:FE X a wa) (hb:FE X b wb):FE X (.BinOp a .FloorDiv b pos) (wBin oFdiv wa wb):=zbT (fun _ _=>zjA) zhL ha hb
theorem znH (ha:FE X a wa) (hb:FE X b wb):FE X (.BinOp a .Pow b pos) (wBin oPow wa wb):=zbT (fun _ _=>zmR) zjH ha hb
end
section
variable {X:Cx} {pins:List (Addr×Obj)} {U:St} {H:Hp} {s:Shared}
open PySem.SeqAt
theorem zhs (h:clash (.tup l) (.tup m)=false):clashs l m=false:=h
theorem zbP:∀ {l m:List D} {j:Nat} {a b:D},clashs l m=false->l[j]?=some a->m[j]?=some b->clash a b=false
 | [],_,_,_,_,_,h,_=>by simp at h
 | _::_,[],_,_,_,_,_,h=>by simp at h
 | x::l,y::m,0,a,b,h,h1,h2=>by
   simp at h1 h2
   subst h1 h2
   have h':(clash x y || clashs l m)=false:=h
   rw [Bool.or_eq_false_iff] at h'
   exact h'.1
 | x::l,y::m,j + 1,a,b,h,h1,h2=>by
   have h':(clash x y || clashs l m)=false:=h
   rw [Bool.or_eq_false_iff] at h'
   exact zbP h'.2 (by simpa using h1) (by simpa using h2)
theorem zdJ:∀ {l:List D} {j:Nat} {a:D},l[j]?=some a->dep a<=deps l
 | [],_,_,h=>by simp at h
 | x::l,0,a,h=>by
   simp at h
   subst h
   show dep x<=max (dep x) (deps l)
   lia
 | x::l,j + 1,a,h=>by
   have:=zdJ (l:=l) (j:=j) (a:=a) (by simpa using h)
   show dep a<=max (dep x) (deps l)
   lia
open Classical in
theorem zfx {l m:List D} (n:Nat) (hn:n=min l.length m.length):((List.range n).all (fun j=>decide (l[j]?=m[j]?)) && (l.length == m.length))=decide (l=m):=by
 by_cases h:l=m
 ·subst h
  simp
 ·rw [decide_eq_false h]
  by_cases hl:l.length=m.length
  ·have:(List.range n).all (fun j=>decide (l[j]?=m[j]?))=false:=by
    cases q:(List.range n).all (fun j=>decide (l[j]?=m[j]?)) with
    | false=>rfl
    | true=>
      exfalso
      apply h
      apply ext_getElem?
      intro j
      by_cases hj:j < n
      ·exact of_decide_eq_true (all_eq_true.mp q j (by simpa using hj))
      ·rw [getElem?_eq_none (by lia),getElem?_eq_none (by lia)]
   rw [this]; rfl
  ·have:(l.length == m.length)=false:=by simpa using hl
   rw [this,Bool.and_false]
inductive Sc:V->D->Prop
 | non:Sc .non .non
 | bl (b:Bool):Sc (.bl b) (.bl b)
 | int (i:Int):Sc (.int i) (.int i)
 | str {x:Str} {l:List Nat}:x.cps.toList=l->Sc (.str x) (.str l)
theorem zoe {K:W.Frag} (r:Rep K H v d) (hc:clash d e=false) (h1:∀ l,d≠.tup l) (h2:∀ l,d≠.lst l):Sc v d:=by
 cases r with
 | tup=>exact absurd rfl (h1 _)
 | lst=>exact absurd rfl (h2 _)
 | dK=>cases e <;> cases hc
 | dT=>cases e <;> cases hc
 | st=>cases e <;> cases hc
 | exc=>cases e <;> cases hc
 | non=>exact .non
 | bl=>exact .bl _
 | int=>exact .int _
 | str e _=>exact .str e
theorem zkj {K:W.Frag} (r:Rep K H u e) (s:Sc v d) (hc:clash d e=false):Sc u e:=by
 cases r with
 | non=>exact .non
 | bl=>exact .bl _
 | int=>exact .int _
 | str e _=>exact .str e
 | _=>cases s <;> cases hc
open Classical in
theorem zg6 {K:W.Frag} (r1:Rep K H v d) (r2:Rep K H u e) (rv:RelV v vv) (ru:RelV u uu) (hc:clash d e=false) (h1:∀ l,d≠.tup l) (h2:∀ l,d≠.lst l):
  EqAt A s vv uu (decide (d=e))/\RcAt A s vv uu (decide (d=e)):=by
 have s1:=zoe r1 hc h1 h2
 have s2:=zkj r2 s1 hc
 clear r1 r2 h1 h2
 cases s1 with
 | non=>
   cases rv
   cases s2 with
   | non=>cases ru; simp; exact ⟨EqAt.same _,RcAt.none_none⟩
   | bl b=>cases ru; simp; exact ⟨EqAt.none_bool _,RcAt.none_bool _⟩
   | int i=>obtain ⟨t,rfl⟩:=ru; simp; exact ⟨EqAt.none_int _ _,RcAt.none_int _ _⟩
   | str e=>obtain ⟨t,rfl⟩:=ru; simp; exact ⟨EqAt.none_str _ _,RcAt.none_str _ _⟩
 | bl a=>
   cases rv
   cases s2 with
   | non=>cases ru; simp; exact ⟨EqAt.bool_none _,RcAt.bool_none _⟩
   | bl b=>
     cases ru
     have e:(decide (D.bl a=D.bl b))=(a == b):=by cases a <;> cases b <;> simp
     rw [e]; exact ⟨EqAt.bool_bool _ _,RcAt.bool_bool _ _⟩
   | str e=>obtain ⟨t,rfl⟩:=ru; simp; exact ⟨EqAt.bool_str _ _ _,RcAt.bool_str _ _ _⟩
   | int=>cases hc
 | int i=>
   obtain ⟨t,rfl⟩:=rv
   cases s2 with
   | non=>cases ru; simp; exact ⟨EqAt.int_none _ _,RcAt.int_none _ _⟩
   | int j=>
     obtain ⟨t',rfl⟩:=ru
     have e:(decide (D.int i=D.int j))=(i == j):=by by_cases h:i=j <;> simp [h]
     rw [e]; exact ⟨EqAt.int_int _ _ _ _,RcAt.int_int _ _ _ _⟩
   | str e=>obtain ⟨t',rfl⟩:=ru; simp; exact ⟨EqAt.int_str _ _ _ _,RcAt.int_str _ _ _ _⟩
   | bl=>cases hc
 | str e1=>
   obtain ⟨t,rfl⟩:=rv
   cases s2 with
   | non=>cases ru; simp; exact ⟨EqAt.str_none _ _,RcAt.str_none _ _⟩
   | bl b=>cases ru; simp; exact ⟨EqAt.str_bool _ _ _,RcAt.str_bool _ _ _⟩
   | int j=>obtain ⟨t',rfl⟩:=ru; simp; exact ⟨EqAt.str_int _ _ _ _,RcAt.str_int _ _ _ _⟩
   | str e2=>
     obtain ⟨t',rfl⟩:=ru
     rename_i x l y m
     have e:(decide (D.str l=D.str m))=(x == y):=by
      by_cases h:x=y
      ·subst h
       rw [<- e1,<- e2]; simp
      ·have hb:(x == y)=false:=by simpa using h
       rw [hb]
       refine decide_eq_false fun q=>h ?_
       obtain ⟨⟨a⟩⟩:=x
       obtain ⟨⟨b⟩⟩:=y
       have a1:a=l:=e1
       have b1:b=m:=e2
       rw [a1,b1,D.str.inj q]
     rw [e]; exact ⟨EqAt.str_str _ _ _ _,RcAt.str_str _ _ _ _⟩
theorem zaK (r:Vals xs us) (h:j < us.toArray.size):∃ x,xs[j]?=some x/\RelV x us.toArray[j]:=by
 have hl:=r.length
 have hj:j < us.length:=by simpa using h
 have hj':j < xs.length:=by lia
 obtain ⟨u,hu,ru⟩:=r.get (i:=j) (x:=xs[j]) (by simp [hj'])
 refine ⟨xs[j],by simp [hj'],?_⟩
 have:us.toArray[j]=u:=by
  have:=qh.mp hu
  simpa using this.2
 rw [this]; exact ru
mutual
theorem Rep.uniq (I:Inv X pins U H s) (r:Rep X.K H v d) (q:Rep X.K H v e) (hc:clash d e=false):d=e:=by
 cases r with
 | non=>cases q; rfl
 | bl _=>cases q; rfl
 | int _=>cases q; rfl
 | str e1 _=>cases q with | str e2 _=>rw [<- e1,<- e2]
 | tup e1 r1=>cases q with
   | tup e2 r2=>
     cases I.tuple_inj (SqT.of e1) (SqT.of e2)
     rw [Reps.uniq I r1 r2 hc]
   | _=>cases hc
 | lst e1 r1=>cases q with
   | lst e2 r2=>
     cases I.list_inj e1 e2
     rw [Reps.uniq I r1 r2 hc]
   | _=>cases hc
 | dK=>cases e <;> cases hc
 | dT=>cases e <;> cases hc
 | st=>cases e <;> cases hc
 | exc=>cases e <;> cases hc
theorem Reps.uniq (I:Inv X pins U H s) (r:Reps X.K H v d) (q:Reps X.K H v e) (hc:clashs d e=false):d=e:=by
 cases r with
 | nil=>cases q; rfl
 | @cons _ a _ l a1 b1=>cases q with
   | @cons _ b _ m a2 b2=>
     have h':(clash a b || clashs l m)=false:=hc
     rw [Bool.or_eq_false_iff] at h'
     rw [Rep.uniq I a1 a2 h'.1,Reps.uniq I b1 b2 h'.2]
end
open Classical in
theorem zjg:∀ (n:Nat) {A:Around} {v u:V} {vv uu:Value} {d e:D},dep d<=n->Inv X pins U H s->Rep X.K H v d->Rep X.K H u e->RelV v vv->RelV u uu->clash d e=false->A.units + n < cLine->
  EqAt A s vv uu (decide (d=e))/\RcAt A s vv uu (decide (d=e)):=by
 intro n
 induction n with
 | zero=>
   intro A v u vv uu d e hd I r1 r2 rv ru hc hu
   exact zg6 r1 r2 rv ru hc (fun l z=>by subst z; exact absurd hd (by show ¬ deps l + 1<=0; lia)) (fun l z=>by subst z; exact absurd hd (by show ¬ deps l + 1<=0; lia))
 | succ n ih=>
   intro A v u vv uu d e hd I r1 r2 rv ru hc hu
   have hin:A.in1.units + n < cLine:=by show A.units + 1 + n < cLine; lia
   cases r1 with
   | tup e1 q1=>
     cases r2 with
     | tup e2 q2=>
       rename_i a xs l b ys m
       cases rv
       cases ru
       obtain ⟨its,w1,p1,_⟩:=I.tuple (SqT.of e1)
       obtain ⟨its2,w2,p2,_⟩:=I.tuple (SqT.of e2)
       have hdl:deps l<=n:=by have:deps l + 1<=n + 1:=hd; lia
       have el1:its.toArray.size=l.length:=by rw [size_toArray,<- w1.length,q1.len]
       have el2:its2.toArray.size=m.length:=by rw [size_toArray,<- w2.length,q2.len]
       have items:∀ j (h1:j < its.toArray.size) (h2:j < its2.toArray.size),EqAt A.in1 s its.toArray[j] its2.toArray[j] (decide (l[j]?=m[j]?)):=fun j h1 h2=>by
        obtain ⟨x,hx,rx⟩:=zaK w1 h1
        obtain ⟨y,hy,ry⟩:=zaK w2 h2
        have hj1:j < l.length:=by lia
        have hj2:j < m.length:=by lia
        obtain ⟨x',hx',rp1⟩:=q1.get (i:=j) (d:=l[j]) (by simp [hj1])
        obtain ⟨y',hy',rp2⟩:=q2.get (i:=j) (d:=m[j]) (by simp [hj2])
        rw [hx] at hx'; cases hx'
        rw [hy] at hy'; cases hy'
        have:=(ih (A:=A.in1) (le_trans (zdJ (l:=l) (j:=j) (by simp [hj1])) hdl) I rp1 rp2 rx ry (zbP (j:=j) (a:=l[j]) (b:=m[j]) (zhs hc) (by simp [hj1]) (by simp [hj2])) hin).1
        have e:decide (l[j]?=m[j]?)=decide (l[j]=m[j]):=by simp [hj1,hj2]
        rw [e]; exact this
       have hrc:RcAt A s (.ref a) (.ref b) (decide (D.tup l=D.tup m)):=by
        have:=RcAt.tuples (s:=s) (show s.heap.IsTuple a its.toArray from p1) (show s.heap.IsTuple b its2.toArray from p2) (by lia) items
        rw [el1,el2,zfx (l:=l) (m:=m) _ rfl] at this
        have e:decide (D.tup l=D.tup m)=decide (l=m):=by by_cases h:l=m <;> simp [h]
        rw [e]; exact this
       refine ⟨?_,hrc⟩
       by_cases hab:a=b
       ·subst hab
        have hxy:l=m:=by
         have z:=Rep.uniq I (.tup e1 q1) (.tup e2 q2) hc
         cases z; rfl
        subst hxy
        simp
        exact EqAt.same _
       ·exact EqAt.of_refs hab hrc
     | _=>cases hc
   | lst e1 q1=>
     cases r2 with
     | lst e2 q2=>
       rename_i a xs l b ys m
       cases rv
       cases ru
       obtain ⟨its,w1,p1,_⟩:=I.list e1
       obtain ⟨its2,w2,p2,_⟩:=I.list e2
       have hdl:deps l<=n:=by have:deps l + 1<=n + 1:=hd; lia
       have el1:its.toArray.size=l.length:=by rw [size_toArray,<- w1.length,q1.len]
       have el2:its2.toArray.size=m.length:=by rw [size_toArray,<- w2.length,q2.len]
       have items:∀ j (h1:j < its.toArray.size) (h2:j < its2.toArray.size),EqAt A.in1 s its.toArray[j] its2.toArray[j] (decide (l[j]?=m[j]?)):=fun j h1 h2=>by
        obtain ⟨x,hx,rx⟩:=zaK w1 h1
        obtain ⟨y,hy,ry⟩:=zaK w2 h2
        have hj1:j < l.length:=by lia
        have hj2:j < m.length:=by lia
        obtain ⟨x',hx',rp1⟩:=q1.get (i:=j) (d:=l[j]) (by simp [hj1])
        obtain ⟨y',hy',rp2⟩:=q2.get (i:=j) (d:=m[j]) (by simp [hj2])
        rw [hx] at hx'; cases hx'
        rw [hy] at hy'; cases hy'
        have hc':clashs l m=false:=hc
        have:=(ih (A:=A.in1) (le_trans (zdJ (l:=l) (j:=j) (by simp [hj1])) hdl) I rp1 rp2 rx ry (zbP (j:=j) (a:=l[j]) (b:=m[j]) hc' (by simp [hj1]) (by simp [hj2])) hin).1
        have e:decide (l[j]?=m[j]?)=decide (l[j]=m[j]):=by simp [hj1,hj2]
        rw [e]; exact this
       have hrc:RcAt A s (.ref a) (.ref b) (decide (D.lst l=D.lst m)):=by
        have e:decide (D.lst l=D.lst m)=decide (l=m):=by by_cases h:l=m <;> simp [h]
        rw [e]
        by_cases hlen:l.length=m.length
        ·have:=RcAt.lists (s:=s) p1.isList p2.isList (by lia) (by lia) items
         rw [el1] at this
         have e2:=zfx (l:=l) (m:=m) l.length (by lia)
         have e3:(l.length == m.length)=true:=by simpa using hlen
         rw [e3,Bool.and_true] at e2
         rw [<- e2]; exact this
        ·have:=RcAt.lists_lengths (A:=A) (s:=s) p1.isList p2.isList (by simp only [el1,el2]; simpa using hlen) (by lia)
         have e2:decide (l=m)=false:=decide_eq_false fun z=>hlen (by rw [z])
         rw [e2]; exact this
       refine ⟨?_,hrc⟩
       by_cases hab:a=b
       ·subst hab
        have hxy:l=m:=by
         have z:=Rep.uniq I (.lst e1 q1) (.lst e2 q2) hc
         cases z; rfl
        subst hxy
        simp
        exact EqAt.same _
       ·exact EqAt.of_refs hab hrc
     | _=>cases hc
   | _=>exact zg6 (by first | exact .non | exact .bl _ | exact .int _ | (rename_i e z; exact .str e z) | (rename_i e k r; exact .dK e k r) | (rename_i e k r; exact .dT e k r) | (rename_i e r; exact .st e r) | (rename_i e k z; exact .exc e k z)) r2 rv ru hc (fun l z=>by cases z) (fun l z=>by cases z)
end
section
variable {X:Cx} {K:W.Frag}
open PySem.SeqAt
open Classical in
noncomputable def rEqD (K:W.Frag):R2:=fun x y H Q=>∃ p q,Rep K H x p/\Rep K H y q/\clash p q=false/\dep p<=30/\Q (.bl (decide (p=q))) H
theorem zaQ (hu:X.A.units + 31 < cLine):OpR X (compareOp .Eq) (rEqD X.K):=by
 intro pins s U H x y v u Q I rx ry h
 obtain ⟨p,q,r1,r2,hc,hd,hq⟩:=h
 exact (zjg 30 hd I r1 r2 rx ry hc (by lia)).2 X.prog X.w X.xe _ ⟨.bl _,H,I,rfl,hq⟩
theorem zkm (h:cEq p q=some k):clash p q=false/\dep p<=30:=by
 grind [cEq]
open Classical in
theorem zg0 (h:cEq p q=some k):k=decide (p=q):=by
 unfold cEq at h
 split at h
 ·cases h
 ·exact (qg h).symm
theorem zaG:DoesC K (rEqD K) cEq:=by
 intro H x y p q k Q r1 r2 e hq
 obtain ⟨h1,h2⟩:=zkm e
 have:=zg0 e
 subst this
 exact ⟨p,q,r1,r2,h1,h2,hq⟩
open Classical in
noncomputable def rNeD (K:W.Frag):R2:=fun x y H Q=>∃ p q,Rep K H x p/\Rep K H y q/\clash p q=false/\dep p<=30/\Q (.bl (!decide (p=q))) H
theorem zfD (I:Inv X pins U H s) (q1:Reps X.K H xs l) (q2:Reps X.K H ys m) (w1:Vals xs us) (w2:Vals ys ws) (hc:clashs l m=false) (hd:deps l<=30) (hu:A.units + 30 < cLine):
  ∀ j (h1:j < us.toArray.size) (h2:j < ws.toArray.size),EqAt A s us.toArray[j] ws.toArray[j] (open Classical in decide (l[j]?=m[j]?)):=fun j h1 h2=>by
 obtain ⟨x,hx,rx⟩:=zaK w1 h1
 obtain ⟨y,hy,ry⟩:=zaK w2 h2
 have el1:us.toArray.size=l.length:=by rw [size_toArray,<- w1.length,q1.len]
 have el2:ws.toArray.size=m.length:=by rw [size_toArray,<- w2.length,q2.len]
 have hj1:j < l.length:=by lia
 have hj2:j < m.length:=by lia
 obtain ⟨x',hx',rp1⟩:=q1.get (i:=j) (d:=l[j]) (by simp [hj1])
 obtain ⟨y',hy',rp2⟩:=q2.get (i:=j) (d:=m[j]) (by simp [hj2])
 rw [hx] at hx'; cases hx'
 rw [hy] at hy'; cases hy'
 have:=(zjg 30 (A:=A) (le_trans (zdJ (l:=l) (j:=j) (by simp [hj1])) hd) I rp1 rp2 rx ry (zbP (j:=j) (a:=l[j]) (b:=m[j]) hc (by simp [hj1]) (by simp [hj2])) hu).1
 have e:(open Classical in decide (l[j]?=m[j]?))=(open Classical in decide (l[j]=m[j])):=by simp [hj1,hj2]
 rw [e]; exact this
theorem kindD (p:D):(∃ l,p=.tup l)\/(∃ l,p=.lst l)\/((∀ l,p≠.tup l)/\∀ l,p≠.lst l):=by
 cases p with
 | tup l=>exact .inl ⟨l,rfl⟩
 | lst l=>exact .inr (.inl ⟨l,rfl⟩)
 | _=>exact .inr (.inr ⟨fun l z=>D.noConfusion z,fun l z=>D.noConfusion z⟩)
theorem zlM (h:clash (.tup l) q=false):∃ m,q=.tup m:=by
 cases q with
 | tup m=>exact ⟨m,rfl⟩
 | _=>cases h
theorem zk0 (h:clash (.lst l) q=false):∃ m,q=.lst m:=by
 cases q with
 | lst m=>exact ⟨m,rfl⟩
 | _=>cases h
theorem zlP (r1:Rep K H x p) (r2:Rep K H y q) (hc:clash p q=false) (h1:∀ l,p≠.tup l) (h2:∀ l,p≠.lst l):scal x y=true/\(p=q↔x=y):=by
 have s1:=zoe r1 hc h1 h2
 have s2:=zkj r2 s1 hc
 clear r1 r2 h1 h2
 cases s1 with
 | str e1=>
   cases s2 with
   | str e2=>
     rename_i x l y m
     refine ⟨rfl,fun z=>?_,fun z=>?_⟩
     ·obtain ⟨⟨a⟩⟩:=x
      obtain ⟨⟨b⟩⟩:=y
      grind
     ·cases z
      rw [<- e1,<- e2]
   | _=>exact ⟨rfl,fun z=>D.noConfusion z,fun z=>V.noConfusion z⟩
 | _=>cases s2 <;> first | exact ⟨rfl,fun z=>D.noConfusion z,fun z=>V.noConfusion z⟩ | exact ⟨rfl,fun z=>by cases z; rfl,fun z=>by cases z; rfl⟩ | cases hc
theorem zb0 (hu:X.A.units + 32 < cLine):OpR X (compareOp .NotEq) (rNeD X.K):=by
 classical
 intro pins s U H x y v u Q I rx ry h
 obtain ⟨p,q,r1,r2,hc,hd,hq⟩:=h
 have fin:EP X pins U Q (.bool (!decide (p=q))) s:=⟨.bl _,H,I,rfl,hq⟩
 have hin:X.A.in1.units + 30 < cLine:=by show X.A.units + 1 + 30 < cLine; lia
 rcases kindD p with ⟨l,rfl⟩ | ⟨l,rfl⟩ | ⟨n1,n2⟩
 ·obtain ⟨m,rfl⟩:=zlM hc
  cases r1 with
  | tup e1 q1=>
  cases r2 with
  | tup e2 q2=>
    rename_i a xs b ys
    cases rx
    cases ry
    obtain ⟨its,w1,p1,_⟩:=I.tuple (SqT.of e1)
    obtain ⟨its2,w2,p2,_⟩:=I.tuple (SqT.of e2)
    have hdl:deps l<=30:=by have:deps l + 1<=30:=hd; lia
    have el1:its.toArray.size=l.length:=by rw [size_toArray,<- w1.length,q1.len]
    have el2:its2.toArray.size=m.length:=by rw [size_toArray,<- w2.length,q2.len]
    have:=RcNeAt.tuples (A:=X.A) (s:=s) (show s.heap.IsTuple a its.toArray from p1) (show s.heap.IsTuple b its2.toArray from p2) (by lia) (zfD I q1 q2 w1 w2 hc hdl hin)
    rw [el1,el2,zfx (l:=l) (m:=m) _ rfl] at this
    have e:decide (D.tup l=D.tup m)=decide (l=m):=by by_cases h:l=m <;> simp [h]
    rw [e] at fin
    exact this X.prog X.w X.xe _ fin
 ·obtain ⟨m,rfl⟩:=zk0 hc
  cases r1 with
  | lst e1 q1=>
  cases r2 with
  | lst e2 q2=>
    rename_i a xs b ys
    cases rx
    cases ry
    obtain ⟨its,w1,p1,_⟩:=I.list e1
    obtain ⟨its2,w2,p2,_⟩:=I.list e2
    have hdl:deps l<=30:=by have:deps l + 1<=30:=hd; lia
    have el1:its.toArray.size=l.length:=by rw [size_toArray,<- w1.length,q1.len]
    have el2:its2.toArray.size=m.length:=by rw [size_toArray,<- w2.length,q2.len]
    have e:decide (D.lst l=D.lst m)=decide (l=m):=by by_cases h:l=m <;> simp [h]
    rw [e] at fin
    by_cases hlen:l.length=m.length
    ·have:=RcNeAt.lists (A:=X.A) (s:=s) p1.isList p2.isList (by lia) (by lia) (zfD I q1 q2 w1 w2 hc hdl hin)
     rw [el1] at this
     have e2:=zfx (l:=l) (m:=m) l.length (by lia)
     have e3:(l.length == m.length)=true:=by simpa using hlen
     rw [e3,Bool.and_true] at e2
     rw [<- e2] at fin
     exact this X.prog X.w X.xe _ fin
    ·have:=RcNeAt.lists_lengths (A:=X.A) (s:=s) p1.isList p2.isList (by simp only [el1,el2]; simpa using hlen) (by lia)
     have e2:decide (l=m)=false:=decide_eq_false fun z=>hlen (by rw [z])
     rw [e2] at fin
     exact this X.prog X.w X.xe _ fin
 ·obtain ⟨h1,h2⟩:=zlP r1 r2 hc n1 n2
  rw [decide_eq_decide.mpr h2] at hq
  exact zpG pins s U H x y v u Q I rx ry ⟨h1,hq⟩
theorem zaY:DoesC K (rNeD K) cNe:=by
 intro H x y p q k Q r1 r2 e hq
 unfold cNe at e
 cases q1:cEq p q with
 | none=>rw [q1] at e; cases e
 | some b=>
   rw [q1] at e
   have e':(!b)=k:=qg e
   obtain ⟨h1,h2⟩:=zkm q1
   have:=zg0 q1
   subst this
   subst e'
   exact ⟨p,q,r1,r2,h1,h2,hq⟩
noncomputable def rOrd (f:Int->Int->Bool) (g:List Nat->List Nat->Bool):R2:=fun x y H Q=>(∃ i j,x=.int i/\y=.int j/\Q (.bl (f i j)) H)\/∃ i j,x=.str i/\y=.str j/\Q (.bl (g i.cps.toList j.cps.toList)) H
theorem zdD {g:List Nat->List Nat->Bool} (rule:∀ (i j:Str) (t u:Tok) (s:Shared) (Q:Value->Shared->Prop) (E:Value->Shared->Prop),Q (.bool (g i.cps.toList j.cps.toList)) s->wpAny (model X.prog X.w) X.A (compareOp op (.str i t) (.str j u)) Q E s):
  OpR X (compareOp op) (fun x y H Q=>∃ i j,x=.str i/\y=.str j/\Q (.bl (g i.cps.toList j.cps.toList)) H):=by
 intro pins s U H x y v u Q I rx ry h
 obtain ⟨i,j,rfl,rfl,q⟩:=h
 obtain ⟨t,rfl⟩:=rx
 obtain ⟨t',rfl⟩:=ry
 exact rule i j t t' s _ _ ⟨.bl _,H,I,rfl,q⟩
theorem zmQ:OpR X (compareOp .Lt) (rOrd (fun i j=>decide (i < j)) fun l m=>decide (l < m)):=FL.OpR.or zo3 (zdD (g:=fun l m=>decide (l < m)) fun _ _ _ _ _ _ _ q=>PyProof.Rows.lt_str q)
theorem zmk:OpR X (compareOp .LtE) (rOrd (fun i j=>decide (i<=j)) fun l m=>!decide (m < l)):=FL.OpR.or zpw (zdD (g:=fun l m=>!decide (m < l)) fun _ _ _ _ _ _ _ q=>PySem.P.le_str q)
theorem zd1:OpR X (compareOp .Gt) (rOrd (fun i j=>decide (j < i)) fun l m=>decide (m < l)):=FL.OpR.or zqT (zdD (g:=fun l m=>decide (m < l)) fun _ _ _ _ _ _ _ q=>PySem.P.gt_str q)
theorem zkn:OpR X (compareOp .GtE) (rOrd (fun i j=>decide (j<=i)) fun l m=>!decide (l < m)):=FL.OpR.or zqG (zdD (g:=fun l m=>!decide (l < m)) fun _ _ _ _ _ _ _ q=>PySem.P.ge_str q)
theorem zcl (h:∀ p q k,o p q=some k->(∃ i j,p=.int i/\q=.int j/\k=f i j)\/∃ l m,p=.str l/\q=.str m/\k=g l m):DoesC K (rOrd f g) o:=by
 intro H x y p q k Q r1 r2 e hq
 rcases h p q k e with ⟨i,j,rfl,rfl,rfl⟩ | ⟨l,m,rfl,rfl,rfl⟩
 ·cases r1
  cases r2
  exact .inl ⟨i,j,rfl,rfl,hq⟩
 ·cases r1 with
  | str e1 z1=>cases r2 with
    | str e2 z2=>
      subst e1 e2
      exact .inr ⟨_,_,rfl,rfl,hq⟩
theorem zkX:DoesC K (rOrd (fun i j=>decide (i < j)) fun l m=>decide (l < m)) cLt:=zcl fun p q k e=>by
 unfold cLt ltD at e
 split at e
 ·exact .inl ⟨_,_,rfl,rfl,(qg e).symm⟩
 ·exact .inr ⟨_,_,rfl,rfl,(qg e).symm⟩
 ·cases e
theorem zcQ:DoesC K (rOrd (fun i j=>decide (j < i)) fun l m=>decide (m < l)) cGt:=zcl fun p q k e=>by
 unfold cGt ltD at e
 split at e
 ·exact .inl ⟨_,_,rfl,rfl,(qg e).symm⟩
 ·exact .inr ⟨_,_,rfl,rfl,(qg e).symm⟩
 ·cases e
theorem zlc:DoesC K (rOrd (fun i j=>decide (i<=j)) fun l m=>!decide (m < l)) cLe:=zcl fun p q k e=>by
 unfold cLe at e
 split at e
 ·exact .inl ⟨_,_,rfl,rfl,(qg e).symm⟩
 ·exact .inr ⟨_,_,rfl,rfl,(qg e).symm⟩
 ·cases e
theorem zhT:DoesC K (rOrd (fun i j=>decide (j<=i)) fun l m=>!decide (l < m)) cGe:=zcl fun p q k e=>by
 unfold cGe at e
 split at e
 ·exact .inl ⟨_,_,rfl,rfl,(qg e).symm⟩
 ·exact .inr ⟨_,_,rfl,rfl,(qg e).symm⟩
 ·cases e
end
section
variable {X:Cx} {K:W.Frag}
open PySem.SeqAt
open Classical in
noncomputable def rInD (K:W.Frag) (neg:Bool):R2:=fun x y H Q=>∃ p l,Rep K H x p/\(Rep K H y (.lst l)\/Rep K H y (.tup l))/\(∀ d∈l,clash d p=false/\dep d<=30)/\Q (.bl (if neg then !decide (p∈l) else decide (p∈l))) H
theorem zcq (I:Inv X pins U H s) (rx:RelV x v) (r1:Rep X.K H x p) (q1:Reps X.K H xs l) (w1:Vals xs us) (hc:∀ d∈l,clash d p=false/\dep d<=30) (hu:A.units + 30 < cLine):
  ∃ e:Value->Bool,(∀ y,y∈us.toArray->EqAt A s y v (e y))/\us.toArray.any e=(open Classical in decide (p∈l)):=by
 classical
 have item:∀ {y:Value},y∈us->∃ z d,RelV z y/\Rep X.K H z d/\d∈l:=fun {y} hy=>by
  obtain ⟨j,hj,e⟩:=List.getElem_of_mem hy
  obtain ⟨z,hz,rz⟩:=zaK (j:=j) w1 (by simpa using hj)
  have hl:j < l.length:=by rw [<- q1.len,w1.length]; exact hj
  obtain ⟨z',hz',rp⟩:=q1.get (i:=j) (d:=l[j]) (by simp [hl])
  rw [hz] at hz'; cases hz'
  refine ⟨z,l[j],?_,rp,by simp⟩
  have:us.toArray[j]=y:=by simpa using e
  rw [<- this]; exact rz
 refine ⟨fun y=>decide (∃ z,RelV z y/\Rep X.K H z p),fun y hy=>?_,?_⟩
 ·have hy':y∈us:=by simpa using hy
  obtain ⟨z,d,rz,rp,hd⟩:=item hy'
  have hcd:=hc d hd
  have:=(zjg 30 (A:=A) hcd.2 I rp r1 rz rx hcd.1 hu).1
  have e:decide (d=p)=decide (∃ z,RelV z y/\Rep X.K H z p):=by
   by_cases h:d=p
   ·subst h
    rw [decide_eq_true rfl,decide_eq_true ⟨z,rz,rp⟩]
   ·rw [decide_eq_false h]
    refine (decide_eq_false ?_).symm
    rintro ⟨z',rz',rp'⟩
    have:z=z':=rz.inj rz'
    subst this
    exact h (Rep.uniq I rp rp' hcd.1)
  show EqAt A s y v (decide (∃ z,RelV z y/\Rep X.K H z p))
  rw [<- e]; exact this
 ·by_cases h:p∈l
  ·rw [decide_eq_true h]
   obtain ⟨j,hj,e⟩:=List.getElem_of_mem h
   obtain ⟨z,hz,rp⟩:=q1.get (i:=j) (d:=l[j]) (by simp [hj])
   obtain ⟨u,hu',ru⟩:=w1.get hz
   rw [Array.any_eq_true']
   exact ⟨u,by simpa using mem_of_getElem? hu',decide_eq_true ⟨z,ru,e ▸ rp⟩⟩
  ·rw [decide_eq_false h]
   rw [Array.any_eq_false']
   intro y hy z
   obtain ⟨z',rz',rp'⟩:=of_decide_eq_true z
   obtain ⟨z2,d,rz,rp,hd⟩:=item (y:=y) (by simpa using hy)
   have:z2=z':=rz.inj rz'
   subst this
   exact h (Rep.uniq I rp rp' (hc d hd).1 ▸ hd)
theorem zn0 (hu:X.A.units + 32 < cLine):OpR X (compareOp .In) (rInD X.K false):=by
 intro pins s U H x y v u Q I rx ry h
 obtain ⟨p,l,r1,r2,hc,hq⟩:=h
 have hin:X.A.in1.units + 30 < cLine:=by show X.A.units + 1 + 30 < cLine; lia
 rcases r2 with r2 | r2
 ·cases r2 with
  | lst e q=>
    cases ry
    obtain ⟨its,w1,p1,_⟩:=I.list e
    obtain ⟨f,hf,ha⟩:=zcq (A:=X.A.in1) I rx r1 q w1 hc hin
    exact in_listAt f p1.isList hf ⟨.bl _,H,I,rfl,by rw [ha]; exact hq⟩
 ·cases r2 with
  | tup e q=>
    cases ry
    obtain ⟨its,w1,p1,_⟩:=I.tuple (SqT.of e)
    obtain ⟨f,hf,ha⟩:=zcq (A:=X.A.in1) I rx r1 q w1 hc hin
    exact in_tupleAt f (show s.heap.IsTuple _ its.toArray from p1) hf ⟨.bl _,H,I,rfl,by rw [ha]; exact hq⟩
theorem zh5 (hu:X.A.units + 32 < cLine):OpR X (compareOp .NotIn) (rInD X.K true):=by
 intro pins s U H x y v u Q I rx ry h
 obtain ⟨p,l,r1,r2,hc,hq⟩:=h
 have hin:X.A.in1.units + 30 < cLine:=by show X.A.units + 1 + 30 < cLine; lia
 rcases r2 with r2 | r2
 ·cases r2 with
  | lst e q=>
    cases ry
    obtain ⟨its,w1,p1,_⟩:=I.list e
    obtain ⟨f,hf,ha⟩:=zcq (A:=X.A.in1) I rx r1 q w1 hc hin
    exact notIn_listAt f p1.isList hf ⟨.bl _,H,I,rfl,by rw [ha]; exact hq⟩
 ·cases r2 with
  | tup e q=>
    cases ry
    obtain ⟨its,w1,p1,_⟩:=I.tuple (SqT.of e)
    obtain ⟨f,hf,ha⟩:=zcq (A:=X.A.in1) I rx r1 q w1 hc hin
    exact notIn_tupleAt f (show s.heap.IsTuple _ its.toArray from p1) hf ⟨.bl _,H,I,rfl,by rw [ha]; exact hq⟩
end
section
variable {K:W.Frag} {F H G:Hp} {U:St} {O:Env}
theorem zik (hl:xs.length=l.length) (h:atI l i=some d):∃ j,ixN l.length i=some j/\l[j]?=some d/\∀ x,xs[j]?=some x->L2.atI xs i=some x:=by
 unfold atI at h
 cases q:ixN l.length i with
 | none=>rw [q] at h; cases h
 | some j=>
   rw [q] at h
   refine ⟨j,rfl,h,fun x hx=>?_⟩
   have e:L2.ixN xs.length i=some j:=by rw [hl]; exact q
   unfold L2.atI
   rw [e]; exact hx
theorem Reps.atI (r:Reps K F xs l) (h:FL.atI l i=some d):∃ x,L2.atI xs i=some x/\Rep K F x d:=by
 obtain ⟨j,_,h1,h2⟩:=zik (xs:=xs) r.len h
 obtain ⟨x,hx,rx⟩:=r.get h1
 exact ⟨x,h2 x hx,rx⟩
theorem SReps.get {j:Nat} (r:SReps K F H xs l fp) (h:l[j]?=some t):∃ x fa fi fb,xs[j]?=some x/\SRep K F H x t fi/\fp=fa++(fi++fb):=
 SReps.ind (P:=fun xs l fp=>∀ j t,l[j]?=some t->∃ x fa fi fb,xs[j]?=some x/\SRep K F H x t fi/\fp=fa++(fi++fb)) (fun _ _ e=>by cases e) (fun a _ ih j t e=>by
  cases j with
  | zero=>cases e; exact ⟨_,[],_,_,rfl,a,rfl⟩
  | succ j=>
    obtain ⟨x,fa,fi,fb,h1,h2,rfl⟩:=ih j t e
    exact ⟨x,_++fa,fi,fb,h1,h2,(append_assoc ..).symm⟩) r j t h
theorem Rel.item {j:Nat} (r:Rel K (O++[some (.lst l)]) (U++[some (.ref a)]) F G H) (h:l[j]?=some t):∃ xs x,H a=some (.lst xs)/\xs.length=l.length/\xs[j]?=some x/\Rel K (O++[some t]) (U++[some x]) F G H:=by
 obtain ⟨fp,e,nd,ap⟩:=r.en
 obtain ⟨f1,f2,rfl,en,b⟩:=e.cut (len1 r)
 cases b with
 | so sr nl=>
   cases nl
   cases sr with
   | lst hD rl=>
     rename_i xs fl
     obtain ⟨x,fa,fi,fb,h1,h2,rfl⟩:=rl.get h
     refine ⟨xs,x,hD,rl.len,h1,r.fr,r.gr,f1++(fi++[]),en.app (.so h2 .nil),?_,fun y hy=>ap y ?_⟩
     ·have sub:List.Sublist (f1++(fi++[])) (f1++(a::(fa++(fi++fb))++[])):=by
       refine List.Sublist.append (List.Sublist.refl _) ?_
       simp only [append_nil]
       exact (List.Sublist.cons _ ((List.sublist_append_left fi fb).trans (List.sublist_append_right fa _)))
      exact sub.nodup nd
     ·rcases mem_append.mp hy with z | z
      ·exact qk _ z
      ·refine qj _ ?_
       simp only [append_nil] at z ⊢
       exact qm _ (qj _ (qk _ z))
end
section
variable {X:Cx} {a b:Expr} {wa wb:WE} {pos:Pos}
theorem zkJ {K:W.Frag} (e:SqT K H c xs) (r:Reps K F xs l) (h:atI l i=some d) (hq:∀ x,Rep K F x d->Q x H):rIx K (.ref c) (.int i) H Q:=by
 obtain ⟨x,hx,rx⟩:=r.atI h
 exact .inr (.inl ⟨c,xs,i,x,rfl,rfl,e,hx,hq x rx⟩)
theorem zkM {K:W.Frag} (e:SqL K H c xs) (r:Reps K F xs l) (h:atI l i=some d) (hq:∀ x,Rep K F x d->Q x H):rIx K (.ref c) (.int i) H Q:=by
 obtain ⟨x,hx,rx⟩:=r.atI h
 exact .inl ⟨c,xs,i,x,rfl,rfl,e,hx,hq x rx⟩
theorem zkU (h:ixS s q=some t):(∃ l i d,s=.sh (.tup l)/\q=.int i/\atI l i=some d/\t=.sh d)\/(∃ l i d,s=.sh (.lst l)/\q=.int i/\atI l i=some d/\t=.sh d)\/
  (∃ l i c,s=.sh (.str l)/\q=.int i/\atI l i=some c/\t=.sh (.str [c]))\/∃ l i,s=.lst l/\q=.int i/\atI l i=some t:=by
 unfold ixS at h
 split at h
 ·obtain ⟨d,e,e'⟩:=map_eq_some_iff.mp h
  exact .inl ⟨_,_,d,rfl,rfl,e,e'.symm⟩
 ·obtain ⟨d,e,e'⟩:=map_eq_some_iff.mp h
  exact .inr (.inl ⟨_,_,d,rfl,rfl,e,e'.symm⟩)
 ·obtain ⟨d,e,e'⟩:=map_eq_some_iff.mp h
  exact .inr (.inr (.inl ⟨_,_,d,rfl,rfl,e,e'.symm⟩))
 ·exact .inr (.inr (.inr ⟨_,_,rfl,rfl,h⟩))
 ·cases h
theorem zeM {K:W.Frag} (h:SRep K F H v (.sh d) fp):Rep K F v d:=by cases h; assumption
theorem zfQ {K:W.Frag} (h:SRep K F H v (.lst l) fp):∃ a xs fq,v=.ref a/\H a=some (.lst xs)/\SReps K F H xs l fq:=by
 cases h with
 | lst h1 h2=>exact ⟨_,_,_,rfl,h1,h2⟩
theorem zkq {K:W.Frag} (fr:Same F H) (r:Rep K F v d) (ru:Rep K F2 u q) (et:ixS (.sh d) q=some t) (done:∀ e x,t=.sh e->Rep K F x e->Q x H):rIx K v u H Q:=by
 rcases zkU et with ⟨l,i,e,e1,rfl,ed,rfl⟩ | ⟨l,i,e,e1,rfl,ed,rfl⟩ | ⟨l,i,c,e1,rfl,ec,rfl⟩ | ⟨l,i,e1,_⟩
 ·injection e1 with e1
  subst e1
  obtain rfl:=RepE.int (H:=H) (.inl ru)
  obtain ⟨a,xs,rfl,h1,r1⟩:=RepE.tup (H:=H) (.inl r)
  exact zkJ (SqT.of (fr _ _ h1)) r1 ed fun x rx=>done _ x rfl rx
 ·injection e1 with e1
  subst e1
  obtain rfl:=RepE.int (H:=H) (.inl ru)
  obtain ⟨a,xs,rfl,h1,r1⟩:=RepE.lst (H:=H) fr (.inl r)
  exact zkM h1 r1 ed fun x rx=>done _ x rfl rx
 ·injection e1 with e1
  subst e1
  obtain rfl:=RepE.int (H:=H) (.inl ru)
  obtain ⟨x,rfl,h1,z⟩:=RepE.str (H:=H) (.inl r)
  exact .inr (.inr ⟨_,i,c,rfl,rfl,by rw [zb8 h1,sizeLine_eq]; exact z,by rw [h1]; exact ec,done _ _ rfl (.str rfl (by show 1<=_; decide))⟩)
 ·cases e1
theorem zhG (h:ixS (.lst l) q=some t):∃ i,q=.int i/\atI l i=some t:=by
 cases q with
 | int i=>exact ⟨i,rfl,h⟩
 | _=>cases h
theorem zay (ha:FE X a wa) (hb:FE X b wb) (hs:PlainIx b:=by intro _ _; rfl):FE X (.Subscript a b pos) (wIx wa wb):=fun pn xe hp=>by
 refine PE.imp (zkx (zkp (X:=wp X pn xe)) (ha pn xe hp) (hb pn xe hp) hs) fun U H Q q=>?_
 refine (two (k:=fun x y O2 Q E=>need (view y O2) fun q=>match x with
  | .v s=>need (ixS s q) fun t=>Q (.v t) O2
  | .loc i=>match slot O2 i with
    | some s=>match ixS s q with
      | some (.sh d)=>Q (.v (.sh d)) O2
      | _=>False
    | none=>False) q).mono fun v H1 h1=>h1.mono fun u H2 h2=>?_
 obtain ⟨F,G,O,x,y,P,PX,rel,hl,rx,ry,hk,hok,hx⟩:=h2
 obtain ⟨q,eq,hk⟩:=zae hk
 have relx:Rel X.K (O++[slotOf x]) (U++[some v]) F G H2:=by
  have:=Rel.swap (O1:=[slotOf x]) (U1:=[some v]) (O2:=[slotOf y]) (U2:=[some u]) hl rfl rel
  exact Rel.mid (O:=O) (U:=U) this hl
 have rely:Rel X.K (O++[slotOf y]) (U++[some u]) F G H2:=rel.mid hl
 have ru:=look (O':=[]) (U':=[]) rely hl ry eq
 have done:∀ {d:D} {x:V},P (.v (.sh d)) O->Rep X.K F x d->Q x H2:=fun hP r=>hok _ O _ F H2 hP (Same.refl F) ((relx.drop hl).push r) trivial
 cases x with
 | v s=>
   obtain ⟨t,et,hP⟩:=zae hk
   obtain ⟨w,fp,e1,sr⟩:=relx.at (i:=O.length) (s:=s) zax
   rw [hl,getElem?_append_right (le_refl _),sub_self] at e1
   have e2:v=w:=by simpa using e1
   subst e2
   cases s with
   | sh d=>exact zkq relx.fr (zeM sr) ru et fun e x z rx=>done (by rw [<- z]; exact hP) rx
   | lst l=>
     obtain ⟨i,rfl,et⟩:=zhG et
     obtain rfl:=RepE.int (H:=H2) (.inl ru)
     obtain ⟨a,ys,fq,rfl,hD,rl⟩:=zfQ sr
     obtain ⟨j,_,hj,hat⟩:=zik rl.len et
     obtain ⟨xs,x,hD',hlen,hxj,r2⟩:=Rel.item relx hj
     rw [hD] at hD'
     cases hD'
     exact .inl ⟨_,_,i,x,rfl,rfl,SqL.of hD,hat x hxj,hok _ O _ F H2 hP (Same.refl F) r2 trivial⟩
   | _=>cases q <;> cases et
 | loc k=>
   dsimp only at hk
   cases qs:slot O k with
   | none=>rw [qs] at hk; exact hk.elim
   | some s=>
     rw [qs] at hk
     dsimp only at hk
     split at hk
     ·rename_i d et
      obtain ⟨w,fp,e1,sr⟩:=(relx.drop hl).at qs
      have rx':U[k]?=some (some v):=rx
      rw [rx'] at e1
      have e2:v=w:=by simpa using e1
      subst e2
      cases s with
      | sh d'=>exact zkq relx.fr (zeM sr) ru et fun e x z rx=>done (by injection z with z; rw [<- z]; exact hk) rx
      | lst l=>
        obtain ⟨i,rfl,et⟩:=zhG et
        obtain rfl:=RepE.int (H:=H2) (.inl ru)
        obtain ⟨a,ys,fq,rfl,hD,rl⟩:=zfQ sr
        obtain ⟨j,_,hj,hat⟩:=zik rl.len et
        obtain ⟨x,fa,fi,fb,hxj,sx,_⟩:=rl.get hj
        exact .inl ⟨_,_,i,x,rfl,rfl,SqL.of hD,hat x hxj,done hk (zeM sx)⟩
      | _=>cases q <;> cases et
     ·exact hk.elim
end
section
variable {K:W.Frag} {F H G:Hp} {U:St} {O:Env}
theorem SReps.set:∀ {xs:List V} {l:List S} {fp:List Addr} {m:Nat},SReps K F H xs l fp->m < l.length->∃ fa fi fb,fp=fa++(fi++fb)/\
  ∀ {H':Hp} {v:V} {s:S} {fq:List Addr},(∀ a∈fa++fb,H' a=H a)->SRep K F H' v s fq->SReps K F H' (xs.set m v) (l.set m s) (fa++(fq++fb))
 | _,_,_,_,.nil,h=>by simp at h
 | _,_,_,0,.cons (fp:=fp) (fq:=fq) a b,h=>⟨[],fp,fq,rfl,fun hk r=>by rw [nil_append]; exact .cons r (b.mono (Same.refl F) fun c hc=>hk c hc)⟩
 | _,_,_,m + 1,.cons (fp:=fp) (fq:=fq) a b,h=>by
   obtain ⟨fa,fi,fb,rfl,up⟩:=SReps.set (m:=m) b (by simpa using h)
   refine ⟨fp++fa,fi,fb,(append_assoc ..).symm,fun hk r=>?_⟩
   rw [append_assoc]
   exact .cons (a.mono (Same.refl F) fun c hc=>hk c (qk _ (qk _ hc))) (up (fun c hc=>hk c ((mem_append.mp hc).elim (fun z=>qk _ (qj _ z)) fun z=>qj _ z)) r)
theorem zcm (h:U[n]?=some (some v)):U.set n (some v)=U:=by
 apply ext_getElem?
 intro j
 by_cases hj:n=j
 ·subst hj
  rw [getElem?_set_self (qh.mp h).1,h]
 ·rw [getElem?_set_ne hj]
theorem Rel.setItem {D:Addr} (r:Rel K (O++[some s]) (U++[some v]) F G H) (hs:slot O n=some (.lst l)) (hU:U[n]?=some (some (.ref D))) (hm:m < l.length):
  ∃ xs,H D=some (.lst xs)/\xs.length=l.length/\Rel K (O.set n (some (.lst (l.set m s)))) U F G (upd H D (.lst (xs.set m v))):=by
 have hl:=len1 r
 obtain ⟨fp,e,nd,ap⟩:=r.en
 obtain ⟨f1,f2,rfl,a,b⟩:=e.cut hl
 obtain ⟨v',fa,fi,fb,e1,rfl,q,up⟩:=a.at hs
 rw [hU] at e1
 have e2:V.ref D=v':=by simpa using e1
 subst e2
 cases q with
 | lst hD rl=>
   rename_i xs fl
   cases b with
   | so sr nl=>
     cases nl
     rename_i fs
     obtain ⟨ga,gi,gb,rfl,sup⟩:=rl.set hm
     refine ⟨xs,hD,rl.len,?_⟩
     obtain ⟨n1,n2,n12⟩:=nodup_append.mp nd
     obtain ⟨na,nib,nab⟩:=nodup_append.mp n1
     obtain ⟨ni,nb,nib⟩:=nodup_append.mp nib
     obtain ⟨nD,nfl⟩:=nodup_cons.mp ni
     have hDa:D∉fa:=fun z=>nab D z D (qk _ qo) rfl
     have hDb:D∉fb:=fun z=>nib D qo D z rfl
     have hDs:D∉fs:=fun z=>n12 D (qj _ (qk _ qo)) D (by simpa using z) rfl
     have apD:=ap D (qk _ (qj _ (qk _ qo)))
     have ne:∀ {l:List Addr},D∉l->∀ x∈l,upd H D (.lst (xs.set m v)) x=H x:=fun h x hx=>zaf fun z=>h (z ▸ hx)
     have hDg:D∉ga++gb:=fun z=>nD ((mem_append.mp z).elim (fun w=>qk _ w) fun w=>qj _ (qj _ w))
     have new:SRep K F (upd H D (.lst (xs.set m v))) (.ref D) (.lst (l.set m s)) (D::(ga++(fs++gb))):=.lst zai (sup (ne hDg) (sr.mono (Same.refl F) (ne hDs)))
     have a2:=up (F':=F) (H':=upd H D (.lst (xs.set m v))) (o:=some (.lst (l.set m s))) (u:=some (.ref D)) (Same.refl F) (fun x hx=>zaf fun z=>(mem_append.mp hx).elim (fun w=>hDa (z ▸ w)) fun w=>hDb (z ▸ w)) (.so new .nil)
     rw [zcm hU] at a2
     have sub:∃ l2,l2.Perm (fa++((D::(ga++(gi++gb)))++fb)++(fs++[]))/\List.Sublist (fa++((D::(ga++(fs++gb)))++[]++fb)) l2:=by
      refine ⟨fa++((D::(ga++(fs++(gi++gb))))++[]++fb),?_,?_⟩
      ·simp only [append_nil,append_assoc,cons_append]
       refine List.Perm.append_left _ (List.Perm.cons _ (List.Perm.append_left _ ?_))
       exact perm_append_comm.trans (by simp)
      first | rfl | assumption | (simp_all; done)
     obtain ⟨l2,p,sb⟩:=sub
     refine ⟨Same.updR r.fr apD.1,fun x o w=>?_,_,a2,sb.nodup (p.nodup_iff.mpr nd),fun x hx=>ap x (p.mem_iff.mp (sb.subset hx))⟩
     have hx:x≠D:=fun z=>by rw [z,apD.2] at w; cases w
     rw [zaf hx]
     exact r.gr x o w
end
section
variable {X:Cx} {ks:List Nat} {pos tpos:Pos}
theorem zfs (ho:FE X o (wVar j)) (hi:FE X i wi) (he:FE X e we) (hs:swapsWithSole [.Subscript o i tpos] e pos.line X.env=pure false:=by rfl) (hw:swappedStores [.Subscript o i tpos] e X.env=pure none:=by rfl)
  (h1:(assignEach [.Subscript o i tpos] X.env).map (·.2)=[assign (.Subscript o i tpos) X.env]:=by rfl)
  (ha:∀ v,assign (.Subscript o i tpos) X.env v=(do
   let ov <- holding [v] (eval o X.env)
   let iv <- holding [v,ov] (eval i X.env)
   standAt tpos
   holding [v,ov,iv] (setItem ov iv v)
   release [v,ov,iv] []):=by intro _; rfl):FS X ks (.Assign [.Subscript o i tpos] e pos) (wSetIx j wi we):=fun pn xe hp=>by
 refine PS.imp (zkv (X:=wp X pn xe) (he pn xe hp) (zok (X:=wp X pn xe) (ho pn xe hp) (hi pn xe hp) ziX ha) hs hw h1) fun D U H q=>?_
 obtain ⟨F,G,O,E,rel,hw,n,b,c,r,x⟩:=q
 have x0:XC (wp X pn xe) (·=U) F G E.ex:=x.mono (fun U2 z=>by rw [z]; exact KP.refl) (Same.refl F) (Same.refl G)
 refine ⟨F,G,O,_,_,rel,hw,fun r O1 v F1 H1 hk s1 r1 rv=>?_,x0⟩
 have l1:=len1 r1
 obtain ⟨G1,rel1,gg,back⟩:=r1.hide l1
 refine ⟨F1,G1,O1,_,_,rel1,hk,fun y O2 o' F2 H2 hk2 s2 r2 rv2=>?_,x0.mono (fun _ z=>z) s1 gg⟩
 have l2:=len1 r2
 obtain ⟨G2,rel2,gg2,back2⟩:=r2.hide l2
 refine ⟨F2,G2,O2,_,_,rel2,hk2,fun z O3 i' F3 H3 hk3 s3 r3 rv3=>?_,x0.mono (fun _ z=>z) (s1.trans s2) (gg.trans gg2)⟩
 have l3:=len1 r3
 obtain ⟨q,eq,hk3⟩:=zae hk3
 obtain ⟨⟨t,O4⟩,eg,hk4⟩:=zae hk3
 -- all three stand at the end
 have r4:=back (s2.trans s3) (back2 s3 r3)
 simp only [append_assoc,cons_append,nil_append] at r4
 have ri:=look (O':=[slotOf y,slotOf r]) (U':=[some o',some v]) r4 l3 rv3 eq
 have r5:Rel X.K (O3++[slotOf r]) (U++[some v]) F3 G H3:=Rel.mid (O:=O3) (U:=U) (Rel.mid (O:=O3) (U:=U) r4 l3) l3
 obtain ⟨F4,s4,l4,r6⟩:=giveR (O':=[]) (U':=[]) r5 l3 rv eg
 cases y with
 | v y0=>exact hk4.elim
 | loc k=>
   cases q with
   | int m=>
     cases qs:slot O4 j with
     | none=>simp only [qs] at hk4
     | some sj=>
       cases sj with
       | lst l=>
         simp only [qs] at hk4
         obtain ⟨rfl,hk4⟩:=hk4
         obtain ⟨w,ew,hnx⟩:=zae hk4
         have hU:U[k]?=some (some o'):=rv2
         obtain ⟨v',fp,e1,sr⟩:=r6.at (i:=k) (s:=.lst l) (by rw [zbU (zb7 qs)]; exact qs)
         have hkl:k < U.length:=(qh.mp hU).1
         rw [getElem?_append_left hkl,hU] at e1
         have e2:o'=v':=by simpa using e1
         subst e2
         have hw:w < l.length:=by
          unfold ixN at ew
          split at ew
          ·split at ew
           ·have e:=qg ew
            lia
           ·cases ew
          ·split at ew
           ·have e:=qg ew
            lia
           ·cases ew
         cases sr with
         | lst hD rl=>
           rename_i a xs fl
           obtain ⟨xs',hD',hlen,r7⟩:=Rel.setItem r6 qs hU hw
           rw [hD] at hD'
           cases hD'
           cases ri
           exact ⟨a,xs,m,w,rfl,rfl,hD,by rw [hlen]; exact ew,n _ U F4 _ hnx KP.refl (s1.trans (s2.trans (s3.trans s4))) r7⟩
       | _=>simp only [qs] at hk4
   | _=>exact hk4.elim
theorem zaR (ho:FE X o (wVar j)) (he:FE X e we)
  (hbase:attributeBase o "append" X.env (eval o X.env)=eval o X.env:=by rfl)
  (hfew:((backTo cpos (starEach [e] X.env)).all (fun x=>!x.1) && (backToKw cpos (keywordEach [] X.env)).all (fun x=>x.1.isSome)
   && decide ([e].length + ([]:List Keyword).length + (if ([]:List Keyword).isEmpty then 0 else 1) < 30))=true:=by rfl)
  (hline:(apos.endLine == cpos.line)=true:=by rfl) (hs:starEach [e] X.env=[(false,eval e X.env)]:=by rfl):FE X (.Call (.Attribute o "append" apos) [e] [] cpos) (wAppend j we):=fun pn xe hp=>by
 refine PE.imp (zi3 (X:=wp X pn xe) PySem.F.plainAttrs_list PySem.F.slot_list_append PySem.F.type_list_append zcT (ho pn xe hp) (zaa he zab hs pn xe hp) hbase hfew hline hs rfl) fun U H Q q=>?_
 obtain ⟨F,G,O,P,PX,rel,hw,hok,hx⟩:=q
 have hw':(match slot O j with
  | some (.lst _)=>we O (fun r O2=>need (give r O2) fun p=>(match slot p.2 j with
    | some (.lst l)=>l.length < big/\P (.v (.sh .non)) (p.2.set j (some (.lst (l++[p.1]))))
    | _=>False)) PX
  | _=>False):=hw
 cases qs:slot O j with
 | none=>rw [qs] at hw'; exact hw'.elim
 | some s0=>
   cases s0 with
   | lst l0=>
     rw [qs] at hw'
     refine ⟨F,G,O,fun y O1=>y=.loc j/\O1=O,PX,rel,by unfold wVar; rw [qs]; exact ⟨rfl,rfl⟩,fun y O1 o' F1 H1 hk s1 r1 rv=>?_,hx⟩
     obtain ⟨rfl,rfl⟩:=hk
     have l1:=len1 r1
     have hU:U[j]?=some (some o'):=rv
     have r2:=r1.drop l1
     obtain ⟨v',fp,e1,sr⟩:=r2.at qs
     rw [hU] at e1
     have e2:o'=v':=by simpa using e1
     subst e2
     cases sr with
     | lst hD rl=>
       rename_i a xs fl
       refine ⟨.inl ⟨rfl,_,SqL.of hD⟩,F1,G,O1,fun rs O2=>match rs with | [r]=>(need (give r O2) fun p=>match slot p.2 j with | some (.lst l)=>l.length < big/\P (.v (.sh .non)) (p.2.set j (some (.lst (l++[p.1])))) | _=>False) | _=>False,PX,r2,hw',fun rs O2 vs F2 H2 hk s2 r3 hl rvs=>?_,hx.grow s1⟩
       match rs,vs,rvs,r3,hk with
       | [r],[v],rvs,r3,hk=>
         dsimp only at hk
         obtain ⟨⟨t,O3⟩,eg,hk⟩:=zae hk
         obtain ⟨F3,s3,l3,r4⟩:=giveR (O':=[]) (U':=[]) r3 hl rvs.1 eg
         dsimp only at hk
         split at hk
         ·rename_i l ql
          obtain ⟨ys,hD2,hlen,r5⟩:=Rel.append r4 ql hU
          exact ⟨a,ys,v,rfl,rfl,hD2,by rw [hlen,sizeLine_eq]; exact lt_trans hk.1 (by decide),hok _ _ .non F3 _ hk.2 (s1.trans (s2.trans s3)) (r5.push .non) trivial⟩
         ·exact hk.elim
       | [],_,_,_,hk=>exact hk.elim
       | [_],[],rvs,_,_=>exact rvs.elim
       | [_],_::_::_,rvs,_,_=>exact rvs.2.elim
       | _::_::_,_,_,_,hk=>exact hk.elim
   | _=>rw [qs] at hw'; exact hw'.elim
end
section
variable {K:W.Frag} {F F' H G:Hp} {U U':St}
noncomputable def RepEs (K:W.Frag) (F H:Hp):List V->List D->Prop
 | [],[]=>True
 | v::vs,d::ds=>RepE K F H v d/\RepEs K F H vs ds
 | _,_=>False
theorem arg1 {b:List D->Option S} (h2:∀ x y r,b (x::y::r)=none) (h0:b []=none) (re:RepEs K F H vs ds) (e:b ds=some s):∃ d v,ds=[d]/\vs=[v]:=by
 cases ds with
 | nil=>rw [h0] at e; cases e
 | cons x ds=>
   cases ds with
   | cons y r=>rw [h2] at e; cases e
   | nil=>
     cases vs with
     | nil=>exact re.elim
     | cons v vs=>
       cases vs with
       | nil=>exact ⟨x,v,rfl,rfl⟩
       | cons u vs=>exact re.2.elim
theorem arg2 {b:List D->Option S} (h1:∀ x,b [x]=none) (h3:∀ x y z r,b (x::y::z::r)=none) (h0:b []=none) (re:RepEs K F H vs ds) (e:b ds=some s):∃ d d2 v u,ds=[d,d2]/\vs=[v,u]:=by
 cases ds with
 | nil=>rw [h0] at e; cases e
 | cons x ds=>
   cases ds with
   | nil=>rw [h1] at e; cases e
   | cons y ds=>
     cases ds with
     | cons z r=>rw [h3] at e; cases e
     | nil=>
       cases vs with
       | nil=>exact re.elim
       | cons v vs=>
         cases vs with
         | nil=>exact re.2.elim
         | cons u vs=>
           cases vs with
           | nil=>exact ⟨x,y,v,u,rfl,rfl⟩
           | cons u vs=>exact re.2.2.elim
theorem takeAll:∀ {rs:List R} {vs:List V} {ds:List D} {O O':Env} {F:Hp} {U':St},Rel K (O++(rs.map slotOf++O')) (U++(vs.map some++U')) F G H->O.length=U.length->RVs U vs rs->(rs.mapM fun r=>viewC r O)=some ds->
  ∃ F',Same F F'/\RepEs K F' H vs ds/\Rel K (O++O') (U++U') F' G H
 | [],[],ds,O,O',F,U',r,h,_,e=>by
   have e':ds=[]:=by simpa using e.symm
   subst e'
   exact ⟨F,Same.refl F,trivial,r⟩
 | [],_::_,_,_,_,_,_,_,_,h,_=>h.elim
 | _::_,[],_,_,_,_,_,_,_,h,_=>h.elim
 | x::rs,v::vs,ds,O,O',F,U',r,h,rv,e=>by
   rw [List.mapM_cons] at e
   cases q:viewC x O with
   | none=>rw [q] at e; cases e
   | some d=>
     rw [q] at e
     cases q2:(rs.mapM fun r=>viewC r O) with
     | none=>rw [q2] at e; cases e
     | some es=>
       rw [q2] at e
       have e':d::es=ds:=qg e
       subst e'
       obtain ⟨F1,s1,re,r1⟩:=takeC (O':=rs.map slotOf++O') (U':=vs.map some++U') r h rv.1 q
       obtain ⟨F2,s2,res,r2⟩:=takeAll (rs:=rs) (vs:=vs) r1 h rv.2 q2
       exact ⟨F2,s1.trans s2,⟨re.mono s2,res⟩,r2⟩
noncomputable def DoesB (K:W.Frag) (r:List V->Hp->VK->Prop) (f:List D->Option S):Prop:=∀ (U:St) (O:Env) (F G H:Hp) (vs:List V) (ds:List D) (s:S) (Q:VK),Rel K O U F G H->RepEs K F H vs ds->f ds=some s->
 (∀ v F' H',Same F F'->Rel K (O++[some s]) (U++[some v]) F' G H'->Q v H')->r vs H Q
end
section
variable {X:Cx} {x:Str} {p pos:Pos} {e:Expr} {es:List Expr} {wa:WA} {id T:String} {r:List V->Hp->VK->Prop} {f:List D->Option S}
theorem zf0 (hd:DoesB X.K r f) (U:St) (H:Hp) (Q:VK) (q:tW (wp X pn xe) (wB f wa) U H Q):tCB r (tWA (wp X pn xe) wa) U H Q:=by
 refine (many (k:=fun rs O1 Q E=>need (rs.mapM fun r=>viewC r O1) fun ds=>need (f ds) fun s=>Q (.v s) O1) q).mono fun vs H1 h1=>?_
 obtain ⟨F,G,O,rs,P,PX,rel,hl,rv,hk,hok,hx⟩:=h1
 obtain ⟨ds,ed,hk⟩:=zae hk
 obtain ⟨s,es,hk⟩:=zae hk
 obtain ⟨F1,s1,re,r1⟩:=takeAll (O':=[]) (U':=[]) (by simpa using rel) hl rv ed
 exact hd U O F1 G H1 vs ds s Q (by simpa using r1) re es fun v F' H' sm r'=>hok _ O v F' H' hk (s1.trans sm) r' trivial
theorem zbt (hc:∀ pn xe,CallR (wp X pn xe) (.builtin id) r) (hd:DoesB X.K r f) (hg:Gl X x) (hm:X.mg x=none) (hv:bootBuiltins x=some (.builtin id)) (ha:FA X (e::es) wa) (hn:x≠"__name__":=by decide) (hdb:(x == ("__debug__":Str))=false:=by decide)
  (he:starEach (e::es) X.env=(false,eval e X.env)::starEach es X.env:=by rfl) (hpl:(backTo pos (starEach es X.env)).any (·.1)=false:=by rfl):FE X (.Call (.Name x p) (e::es) [] pos) (wB f wa):=fun pn xe hp=>
 PE.imp (zdL (X:=wp X pn xe) (hc pn xe) hg hm hv (ha pn xe hp) hn hdb he hpl) (zf0 hd)
theorem zcK (hc:∀ pn xe,CallR (wp X pn xe) (.type T) r) (hd:DoesB X.K r f) (hg:Gl X x) (hm:X.mg x=none) (hv:bootBuiltins x=some (.type T)) (ha:FA X (e::es) wa) (hn:x≠"__name__":=by decide) (hdb:(x == ("__debug__":Str))=false:=by decide)
  (he:starEach (e::es) X.env=(false,eval e X.env)::starEach es X.env:=by rfl) (hpl:(backTo pos (starEach es X.env)).any (·.1)=false:=by rfl):FE X (.Call (.Name x p) (e::es) [] pos) (wB f wa):=fun pn xe hp=>
 PE.imp (zcO (X:=wp X pn xe) (hc pn xe) hg hm hv (ha pn xe hp) hn hdb he hpl) (zf0 hd)
noncomputable def rLen (K:W.Frag):List V->Hp->VK->Prop:=fun xs H Q=>(∃ p ys,xs=[.ref p]/\(SqL K H p ys\/SqT K H p ys)/\Q (.int ys.length) H)\/∃ z,xs=[.str z]/\z.length<=sizeLine/\Q (.int z.length) H
theorem CallR.or' {f:Value} (h:CallR X f r) (h':CallR X f r'):CallR X f (fun x H Q=>r x H Q\/r' x H Q):=fun pins s U H xs us Q I rr q=>q.elim (h pins s U H xs us Q I rr) (h' pins s U H xs us Q I rr)
theorem zie:CallR X (.builtin "len") (rLen X.K):=CallR.or' zel zdZ
theorem zi9 {K:W.Frag}:DoesB K (rLen K) bLen:=by
 intro U O F G H vs ds s Q rel re e hq
 obtain ⟨d,v,rfl,rfl⟩:=arg1 (fun x y r=>by cases x <;> rfl) rfl re e
 cases d with
 | str l=>
   cases e
   obtain ⟨x,rfl,e1,z⟩:=re.1.str
   exact .inr ⟨x,rfl,by rw [zb8 e1,sizeLine_eq]; exact z,by rw [zb8 e1]; exact hq _ F H (Same.refl F) (rel.push (.int _))⟩
 | tup l=>
   cases e
   obtain ⟨a,xs,rfl,h1,r1⟩:=re.1.tup
   exact .inl ⟨a,xs,rfl,.inr (SqT.of (rel.fr _ _ h1)),by rw [r1.len]; exact hq _ F H (Same.refl F) (rel.push (.int _))⟩
 | lst l=>
   cases e
   obtain ⟨a,xs,rfl,h1,r1⟩:=re.1.lst rel.fr
   exact .inl ⟨a,xs,rfl,.inl h1,by rw [r1.len]; exact hq _ F H (Same.refl F) (rel.push (.int _))⟩
 | _=>cases e
theorem zao (hg:Gl X "len") (hm:X.mg "len"=none) (ha:FA X (e::es) wa) (he:starEach (e::es) X.env=(false,eval e X.env)::starEach es X.env:=by rfl) (hpl:(backTo pos (starEach es X.env)).any (·.1)=false:=by rfl):FE X (.Call (.Name "len" p) (e::es) [] pos) (wB bLen wa):=
 zbt (fun _ _=>zie) zi9 hg hm PySem.boot_len ha (by decide) (by decide) he hpl
end
section
variable {X:Cx} {p pos:Pos} {e:Expr} {es:List Expr} {wa:WA} {K:W.Frag}
noncomputable def rInt:List V->Hp->VK->Prop:=fun xs H Q=>(∃ i,xs=[.int i]/\Q (.int i) H)\/∃ k,xs=[.bl k]/\Q (.int (if k then 1 else 0)) H
theorem RepE.bl (h:RepE K F H v (.bl b)):v=.bl b:=by
 rcases h with h | ⟨_,_,_,_,h,_⟩ | ⟨_,_,_,_,_,h,_⟩ | ⟨_,_,_,_,_,h,_⟩
 ·cases h; rfl
 ·cases h
 ·cases h
 ·cases h
theorem zg5:DoesB K rInt bInt:=by
 intro U O F G H vs ds s Q rel re e hq
 obtain ⟨d,v,rfl,rfl⟩:=arg1 (fun x y r=>by cases x <;> rfl) rfl re e
 cases d with
 | int i=>
   cases e
   have:=re.1.int
   subst this
   exact .inl ⟨i,rfl,hq _ F H (Same.refl F) (rel.push (.int _))⟩
 | bl b=>
   cases e
   have:=re.1.bl
   subst this
   exact .inr ⟨b,rfl,hq _ F H (Same.refl F) (rel.push (.int _))⟩
 | _=>cases e
theorem ze0 (hg:Gl X "int") (hm:X.mg "int"=none) (hv:bootBuiltins "int"=some (.type "int")) (ha:FA X (e::es) wa) (he:starEach (e::es) X.env=(false,eval e X.env)::starEach es X.env:=by rfl) (hpl:(backTo pos (starEach es X.env)).any (·.1)=false:=by rfl):FE X (.Call (.Name "int" p) (e::es) [] pos) (wB bInt wa):=
 zcK (fun _ _=>zhu) zg5 hg hm hv ha (by decide) (by decide) he hpl
noncomputable def rTuple (K:W.Frag):List V->Hp->VK->Prop:=fun xs H Q=>∃ p ys,xs=[.ref p]/\((SqL K H p ys/\∀ l,H l=none->Q (.ref l) (upd H l (.tup ys)))\/(SqT K H p ys/\Q (.ref p) H))
theorem zgk:DoesB K (rTuple K) bTuple:=by
 intro U O F G H vs ds s Q rel re e hq
 obtain ⟨d,v,rfl,rfl⟩:=arg1 (fun x y r=>by cases x <;> rfl) rfl re e
 cases d with
 | tup l=>
   cases e
   obtain ⟨a,xs,rfl,h1,r1⟩:=re.1.tup
   exact ⟨a,xs,rfl,.inr ⟨SqT.of (rel.fr _ _ h1),hq _ F H (Same.refl F) (rel.push (.tup h1 r1))⟩⟩
 | lst l=>
   cases e
   obtain ⟨a,xs,rfl,h1,r1⟩:=re.1.lst rel.fr
   refine ⟨a,xs,rfl,.inl ⟨h1,fun p hp=>?_⟩⟩
   have n2:=(rel.free hp).1
   exact hq _ _ _ (Same.upd n2) ((rel.newF hp).push (.tup zai (r1.mono (Same.upd n2))))
 | _=>cases e
theorem zbY (hg:Gl X "tuple") (hm:X.mg "tuple"=none) (hv:bootBuiltins "tuple"=some (.type "tuple")) (ha:FA X (e::es) wa) (he:starEach (e::es) X.env=(false,eval e X.env)::starEach es X.env:=by rfl) (hpl:(backTo pos (starEach es X.env)).any (·.1)=false:=by rfl):FE X (.Call (.Name "tuple" p) (e::es) [] pos) (wB bTuple wa):=
 zcK (fun _ _=>zdu) zgk hg hm hv ha (by decide) (by decide) he hpl
noncomputable def rList (K:W.Frag):List V->Hp->VK->Prop:=fun xs H Q=>∃ p ys,xs=[.ref p]/\(SqL K H p ys\/SqT K H p ys)/\∀ l,H l=none->Q (.ref l) (upd H l (.lst ys))
theorem zex:DoesB K (rList K) bList:=by
 intro U O F G H vs ds s Q rel re e hq
 obtain ⟨d,v,rfl,rfl⟩:=arg1 (fun x y r=>by cases x <;> rfl) rfl re e
 cases d with
 | tup l=>
   cases e
   obtain ⟨a,xs,rfl,h1,r1⟩:=re.1.tup
   exact ⟨a,xs,rfl,.inr (SqT.of (rel.fr _ _ h1)),fun p hp=>hq _ F _ (Same.refl F) (rel.newLD hp r1)⟩
 | lst l=>
   cases e
   obtain ⟨a,xs,rfl,h1,r1⟩:=re.1.lst rel.fr
   exact ⟨a,xs,rfl,.inl h1,fun p hp=>hq _ F _ (Same.refl F) (rel.newLD hp r1)⟩
 | _=>cases e
end
theorem zbA (h:keyD a=keyD b):a=b:=by
 cases a with
 | inl i=>cases b with
   | inl j=>have h':D.int i=D.int j:=h; cases h'; rfl
   | inr y=>have h':D.int i=D.str y.cps.toList:=h; cases h'
 | inr x=>cases b with
   | inl j=>have h':D.str x.cps.toList=D.int j:=h; cases h'
   | inr y=>
     have h':D.str x.cps.toList=D.str y.cps.toList:=h
     obtain ⟨⟨a⟩⟩:=x
     first | rfl | assumption | (simp_all; done)
theorem zbX:∀ {a b:List Key},a.map keyD=b.map keyD->a=b
 | [],[],_=>rfl
 | [],_::_,h=>by simp at h
 | _::_,[],h=>by simp at h
 | x::a,y::b,h=>by
   rw [map_cons,map_cons] at h
   injection h with h1 h2
   rw [zbA h1,zbX h2]
section
variable {K:W.Frag} {H:Hp}
theorem zcX (r:Rep K H x d) (h:isKey1 d=true):∃ k:Key,x=kV k/\d=keyD k:=by
 cases r with
 | int i=>exact ⟨.inl i,rfl,rfl⟩
 | str e z=>exact ⟨.inr _,rfl,by rw [<- e]; rfl⟩
 | _=>cases h
theorem ze6 (r:Reps K H xs l):l.all isKey1=true->∃ ks:List Key,xs=ks.map kV/\l=ks.map keyD:=
 Reps.ind (P:=fun xs l=>l.all isKey1=true->∃ ks:List Key,xs=ks.map kV/\l=ks.map keyD) (fun _=>⟨[],rfl,rfl⟩) (fun a _ ih h=>by
  rw [all_cons,and_eq_true] at h
  obtain ⟨k,rfl,rfl⟩:=zcX a h.1
  obtain ⟨ks,rfl,rfl⟩:=ih h.2
  exact ⟨k::ks,rfl,rfl⟩) r
open Classical in
theorem zcs {κ:Type} [DecidableEq κ] (g:κ->D) (hg:∀ a b,g a=g b->a=b):∀ (kvs:List (κ×V)) (k:κ),(valV kvs k).isSome=decide (g k∈kvs.map fun p=>g p.1)
 | [],k=>by simp [valV]
 | p::r,k=>by
   by_cases e:p.1=k
   ·rw [zbK e]
    have:g k∈(p::r).map fun p=>g p.1:=by rw [map_cons,e]; exact qo
    exact (decide_eq_true this).symm
   ·rw [zbZ e,zcs g hg r k]
    have:(g k∈(p::r).map fun p=>g p.1)↔(g k∈r.map fun p=>g p.1):=by
     rw [map_cons,mem_cons]
     exact ⟨fun z=>z.elim (fun w=>absurd (hg _ _ w).symm e) id,.inr⟩
    exact (decide_eq_decide.2 this).symm
open Classical in
theorem zcU {κ:Type} [DecidableEq κ] (g:κ->D) (hg:∀ a b,g a=g b->a=b) {α:Type}:∀ (kvs:List (κ×V)) (vs:List α) (k:κ) (P:V->α->Prop),kvs.length=vs.length->(∀ (i:Nat) x y,(kvs.map (·.2))[i]?=some x->vs[i]?=some y->P x y)->
  (lk (kvs.map fun p=>g p.1) vs (g k)=none/\valV kvs k=none)\/∃ x y,valV kvs k=some x/\lk (kvs.map fun p=>g p.1) vs (g k)=some y/\P x y
 | [],[],k,P,_,_=>.inl ⟨rfl,rfl⟩
 | [],_::_,_,_,h,_=>by simp at h
 | _::_,[],_,_,h,_=>by simp at h
 | p::r,v::vs,k,P,hl,h=>by
   by_cases e:p.1=k
   ·refine .inr ⟨p.2,v,zbK e,?_,h 0 p.2 v rfl rfl⟩
    show (if g p.1=g k then some v else lk (r.map fun p=>g p.1) vs (g k))=some v
    rw [if_pos (by rw [e])]
   ·have hne:¬ g p.1=g k:=fun z=>e (hg _ _ z)
    rw [zbZ e]
    have e2:lk ((p::r).map fun p=>g p.1) (v::vs) (g k)=lk (r.map fun p=>g p.1) vs (g k):=by
     show (if g p.1=g k then some v else lk (r.map fun p=>g p.1) vs (g k))=_
     rw [if_neg hne]
    rw [e2]
    exact zcU g hg r vs k P (by simpa using hl) fun i x y h1 h2=>h (i + 1) x y (by simpa using h1) (by simpa using h2)
theorem zlt (r1:Rep K H x d) (r2:Rep K H (.ref a) (.dct t ks vs)) (hk:isKey t d=true):∃ o,DGet H a x o/\o.isSome=(open Classical in decide (d∈ks))/\
  ((lk ks vs d=none/\o=none)\/∃ v e,o=some v/\lk ks vs d=some e/\Rep K H v e):=by
 cases r2 with
 | dK e k r=>
   rename_i kvs
   obtain ⟨key,rfl,rfl⟩:=zcX r1 hk
   refine ⟨_,.inl ⟨kvs,key,e,rfl,rfl⟩,?_,?_⟩
   ·rw [k]; exact zcs keyD (fun _ _=>zbA) kvs key
   ·rw [k]
    rcases zcU keyD (fun _ _=>zbA) kvs vs key (fun v e=>Rep K H v e) (by have:=r.len; simpa using this) (fun i x y h1 h2=>by
     obtain ⟨x',hx',rx⟩:=r.get h2
     rw [h1] at hx'; cases hx'; exact rx) with ⟨h1,h2⟩ | ⟨v,e,h1,h2,h3⟩
    ·exact .inl ⟨h1,h2⟩
    ·exact .inr ⟨v,e,h1,h2,h3⟩
 | dT e k r=>
   rename_i kvs
   cases r1 with
   | tup e1 q=>
     obtain ⟨keys,rfl,rfl⟩:=ze6 q hk
     have inj:∀ a b:List Key,D.tup (a.map keyD)=D.tup (b.map keyD)->a=b:=fun a b z=>zbX (D.tup.inj z)
     refine ⟨_,.inr ⟨kvs,keys,_,e,rfl,e1,rfl⟩,?_,?_⟩
     ·rw [k]; exact zcs (fun l=>D.tup (l.map keyD)) inj kvs keys
     ·rw [k]
      rcases zcU (fun l=>D.tup (l.map keyD)) inj kvs vs keys (fun v e=>Rep K H v e) (by have:=r.len; simpa using this) (fun i x y h1 h2=>by
       obtain ⟨x',hx',rx⟩:=r.get h2
       rw [h1] at hx'; cases hx'; exact rx) with ⟨h1,h2⟩ | ⟨v,e,h1,h2,h3⟩
      ·exact .inl ⟨h1,h2⟩
      ·exact .inr ⟨v,e,h1,h2,h3⟩
   | _=>cases hk
end
section
variable {X:Cx} {K:W.Frag}
noncomputable def rInDict (neg:Bool):R2:=fun x y H Q=>∃ a o,y=.ref a/\DGet H a x o/\Q (.bl (if neg then !o.isSome else o.isSome)) H
theorem zhD (hu:X.A.units + 1 < cLine):OpR X (compareOp .In) (rInDict false):=by
 intro pins s U H x y v u Q I rx ry h
 obtain ⟨a,o,rfl,g,q⟩:=h
 cases ry
 exact d_in hu I g rx fun s' I'=>⟨.bl _,H,I',rfl,q⟩
theorem zeu (hu:X.A.units + 1 < cLine):OpR X (compareOp .NotIn) (rInDict true):=by
 intro pins s U H x y v u Q I rx ry h
 obtain ⟨a,o,rfl,g,q⟩:=h
 cases ry
 exact zlu hu I g rx fun s' I'=>⟨.bl _,H,I',rfl,q⟩
noncomputable def rInAll (K:W.Frag) (neg:Bool):R2:=fun x y H Q=>rInD K neg x y H Q\/rInDict neg x y H Q
theorem zjG (hu:X.A.units + 32 < cLine):OpR X (compareOp .In) (rInAll X.K false):=FL.OpR.or (zn0 hu) (zhD (by lia))
theorem zeH (hu:X.A.units + 32 < cLine):OpR X (compareOp .NotIn) (rInAll X.K true):=FL.OpR.or (zh5 hu) (zeu (by lia))
open Classical in
theorem zlm (r1:Rep K H x p) (r2:Rep K H y q) (e:cIn p q=some k) (hq:Q (.bl (if neg then !k else k)) H):rInAll K neg x y H Q:=by
 unfold cIn at e
 split at e
 ·rename_i l
  split at e
  ·cases e
  ·rename_i h
   have e':=qg e
   subst e'
   refine .inl ⟨p,l,r1,.inl r2,fun d hd=>?_,hq⟩
   grind
 ·rename_i l
  split at e
  ·cases e
  ·rename_i h
   have e':=qg e
   subst e'
   refine .inl ⟨p,l,r1,.inr r2,fun d hd=>?_,hq⟩
   grind
 ·rename_i t ks vs
  split at e
  ·rename_i h
   have e':=qg e
   cases y with
   | ref a=>
     obtain ⟨o,g,ho,_⟩:=zlt r1 r2 h
     refine .inr ⟨a,o,rfl,g,?_⟩
     rw [ho,e']
     exact hq
   | _=>cases r2
  ·cases e
 ·cases e
end
open PySem.Builtin.Str (strSliceIndices)
theorem zb1 (n d:Nat) (o:Option Int):HT.sIx n d o=FL.sIx n d o:=by cases o <;> rfl
theorem zh8 (n d:Nat) (hd:d<=n) (o:Option Int):FL.sIx n d o<=n:=by rw [<- zb1]; exact HT.sIx_le n d hd o
noncomputable def cutS (z:Str) (lo hi:Option Int):Str:=⟨(cutL z.cps.toList lo hi).toArray⟩
theorem zgI (lo hi:Option Int) (n:Nat):strSliceIndices lo hi 1 n=(List.range (FL.sIx n n hi - FL.sIx n 0 lo)).map (FL.sIx n 0 lo + ·):=by
 rw [<- sliceRange_one]
 have clip:∀ i:Int,max 0 (min (if i < 0 then i + (n:Int) else i) (n:Int))=(((if i < 0 then (i + (n:Int)).toNat else min i.toNat n):Nat):Int):=by
  intro i
  by_cases h:i < 0
  ·rw [if_pos h,if_pos h]; lia
  ·rw [if_neg h,if_neg h]; lia
 unfold strSliceIndices
 cases lo <;> cases hi <;> simp only [show (1:Int) > 0 by decide,if_true,FL.sIx,clip] <;> rfl
theorem zh3 (x:Str) (lo hi:Option Int):Txt.slice x lo hi=cutS x lo hi:=by
 have hlen:x.length=x.cps.toList.length:=by show x.cps.size=_; rw [length_toList]
 unfold Txt.slice cutS cutL
 rw [zgI,pick_run,<- hlen]
 split
 ·rename_i h
  simp only [beq_self_eq_true,Bool.true_and,length_map,length_range,beq_iff_eq] at h
  have h1:=zh8 x.length x.length (le_refl _) hi
  have h2:FL.sIx x.length 0 lo=0\/x.length=0:=by lia
  have h3:FL.sIx x.length 0 lo=0:=h2.elim id fun z=>by have:=zh8 x.length 0 (zero_le _) lo; lia
  rw [h,h3,drop_zero,take_of_length_le (by rw [hlen]; exact le_refl _)]
 ·rfl
section
variable {X:Cx}
noncomputable def rSlS:V->Option Int->Option Int->Hp->VK->Prop:=fun x lo hi H Q=>∃ z,x=.str z/\z.length<=sizeLine/\Q (.str (cutS z lo hi)) H
theorem zhw (p:IsPart v o):∃ l:Option (Int×Tok),v=partValue l/\o=l.map (·.1):=by
 cases p with
 | none=>exact ⟨none,rfl,rfl⟩
 | int i t=>exact ⟨some (i,t),rfl,rfl⟩
theorem zmO:SlR X rSlS:=by
 intro pins s U H x v vl vu lo hi sl Q I rx hs pl pu h
 obtain ⟨z,rfl,hz,q⟩:=h
 obtain ⟨t,rfl⟩:=rx
 obtain ⟨l,rfl,rfl⟩:=zhw pl
 obtain ⟨u,rfl,rfl⟩:=zhw pu
 rw [<- zh3] at q
 exact ⟨"str",_,F.slot_str_getitem.lookup,typeIs_str _ _ _,wpAny_getItem_str_slice (l:=l) (u:=u) (st:=none) hs rfl
  (post_val_or_str ⟨le_trans (Txt.slice_le z _ _) hz,fun t' k=>⟨.str (Txt.slice z (l.map (·.1)) (u.map (·.1))),H,I.tok _,⟨_,rfl⟩,q⟩⟩)⟩
noncomputable def rSlW (K:W.Frag):V->Option Int->Option Int->Hp->VK->Prop:=fun x lo hi H Q=>∃ a xs,x=.ref a/\SqT K H a xs/\
 (HT.sIx xs.length 0 lo=0/\HT.sIx xs.length xs.length hi=xs.length)/\Q (.ref a) H
end
section
variable {prog:Program} {w:World} {A:Around} {E:Value->Shared->Prop} {s:Shared}
theorem zby {items:Array Value} {lo hi:Option Int} (ht:IsTup s.heap t items) (hs:s.heap.IsSliceOf sl vl vu .none) (pl:IsPart vl lo) (pu:IsPart vu hi)
  (hw:HT.sIx items.size 0 lo=0/\HT.sIx items.size items.size hi=items.size) (h:Q (.ref t) s):wpAny (model prog w) A (getItem (.ref t) (.ref sl)) Q E s:=by
 obtain ⟨os,hos,hcs,hds⟩:=id hs
 have hTs:s.TypeIs (.ref sl) "slice":=⟨os,hos,hcs⟩
 unfold getItem
 try with_reducible refine wpAny_holding ?_
 first | refine qa (qb ?_) | skip
 refine qa (wpAny_sequenceKey ht.typeIs (by decide) ?_)
 refine qa (wpAny_callSpecial?_slot (name:=Str.ofString "__getitem__") ht.typeIs PyProof.Rows.slot_tuple_getitem
  (wpAny_call_entry PyProof.Rows.slot_tuple_getitem ht.typeIs entry_tuple_getitem ?_ (args_tuple_getitem _ _)))
 show wpAny _ _ (Builtin.Tuple.tupleItemsOf (.ref t) >>= _) _ _ s
 refine qa (tupleItemsOf_ ht ?_)
 refine qa (wpAny_typeOf hTs ?_)
 rw [if_pos (by decide)]
 refine qa (HT.sliceApplied_gen hs pl pu ?_)
 have hyes:(((HT.sIx items.size 0 lo:Nat):Int) == 0 && (1:Int) == 1 && (HT.sIx items.size items.size hi - HT.sIx items.size 0 lo) == items.size)=true:=by
  rw [hw.1,hw.2]; simp
 show wpAny _ _ (if (((HT.sIx items.size 0 lo:Nat):Int) == 0 && (1:Int) == 1 && (HT.sIx items.size items.size hi - HT.sIx items.size 0 lo) == items.size)=true then _ else _) _ _ s
 rw [if_pos hyes]
 unfold Builtin.Tuple.tupleIsExact
 refine qa (qa (wpAny_typeOf ht.typeIs (qb ?_)))
 rw [if_pos (by decide)]
 first
  | exact qa (wpAny_rule (qb ⟨_,rfl,qb h⟩))
  | exact qa (qb (qb ⟨_,rfl,qb h⟩))
  | exact qb ⟨_,rfl,qb h⟩
end
section
variable {X:Cx}
theorem ziW:SlR X (rSlW X.K):=by
 intro pins s U H x v vl vu lo hi sl Q I rx hs pl pu h
 obtain ⟨a,xs,rfl,hx,hw,q⟩:=h
 cases rx
 obtain ⟨its,r,ht,hz⟩:=I.tuple hx
 have hlen:its.toArray.size=xs.length:=by rw [size_toArray]; exact r.length.symm
 refine ⟨"tuple",_,PyProof.Rows.slot_tuple_getitem.lookup,ht.typeIs,?_⟩
 exact zby ht hs pl pu (by rw [hlen]; exact hw) ⟨.ref a,H,I,rfl,q⟩
end
section
variable {K:W.Frag} {F H:Hp}
theorem Reps.drop:∀ {xs:List V} {l:List D} (n:Nat),Reps K F xs l->Reps K F (xs.drop n) (l.drop n)
 | _,_,0,r=>by rw [drop_zero,drop_zero]; exact r
 | _,_,n + 1,.nil=>by rw [List.drop_nil,List.drop_nil]; exact .nil
 | _,_,n + 1,.cons a b=>by rw [List.drop_succ_cons,List.drop_succ_cons]; exact Reps.drop n b
theorem Reps.take:∀ {xs:List V} {l:List D} (n:Nat),Reps K F xs l->Reps K F (xs.take n) (l.take n)
 | _,_,0,r=>by rw [take_zero,take_zero]; exact .nil
 | _,_,n + 1,.nil=>by rw [take_nil,take_nil]; exact .nil
 | _,_,n + 1,.cons a b=>by rw [List.take_succ_cons,List.take_succ_cons]; exact .cons a (Reps.take n b)
theorem Reps.cut {lo hi:Option Int} (r:Reps K F xs l):Reps K F (cutV xs lo hi) (cutL l lo hi):=by
 unfold cutV cutL
 rw [zb1,zb1,r.len]
 exact (r.drop _).take _
noncomputable def rSl (K:W.Frag):V->Option Int->Option Int->Hp->VK->Prop:=fun x lo hi H Q=>rSlL K x lo hi H Q\/rSlT K x lo hi H Q\/rSlW K x lo hi H Q\/rSlS x lo hi H Q
theorem zhR:SlR X (rSl X.K):=SlR.or zk7 (SlR.or zox (SlR.or ziW zmO))
theorem zkT {lo hi:Option Int} (rel:Rel K O U F G H) (re:RepE K F H v d) (e:slD d lo hi=some s)
  (hq:∀ v F' H',Same F F'->Rel K (O++[some s]) (U++[some v]) F' G H'->Q v H'):rSl K v lo hi H Q:=by
 cases d with
 | str l=>
   cases e
   obtain ⟨x,rfl,h1,h2⟩:=re.str
   subst h1
   refine .inr (.inr (.inr ⟨x,rfl,?_,hq _ F H (Same.refl F) (rel.push (.str rfl ?_))⟩))
   ·have:x.length=x.cps.toList.length:=by show x.cps.size=_; rw [length_toList]
    rw [this]; exact h2
   ·refine le_trans ?_ h2
    unfold cutL
    rw [length_take,length_drop]
    lia
 | tup l=>
   cases e
   obtain ⟨a,xs,rfl,h1,r1⟩:=re.tup
   by_cases hw:HT.sIx xs.length 0 lo=0/\HT.sIx xs.length xs.length hi=xs.length
   ·refine .inr (.inr (.inl ⟨a,xs,rfl,SqT.of (rel.fr _ _ h1),hw,hq _ F H (Same.refl F) (rel.push ?_)⟩))
    have:cutL l lo hi=l:=by
     unfold cutL
     rw [<- r1.len,<- zb1,<- zb1,hw.1,hw.2,drop_zero,take_of_length_le (by rw [<- r1.len]; lia)]
    rw [this]
    exact .tup h1 r1
   ·refine .inr (.inl ⟨a,xs,rfl,SqT.of (rel.fr _ _ h1),hw,fun p hp=>?_⟩)
    have n2:=(rel.free hp).1
    exact hq _ _ _ (Same.upd n2) ((rel.newF hp).push (.tup zai (r1.cut.mono (Same.upd n2))))
 | lst l=>
   cases e
   obtain ⟨a,xs,rfl,h1,r1⟩:=re.lst rel.fr
   exact .inl ⟨a,xs,rfl,h1,fun p hp=>hq _ F _ (Same.refl F) (rel.newLD hp r1.cut)⟩
 | _=>cases e
end
section
variable {X:Cx} {U:St} {H1:Hp} {Q:VK}
theorem nextOf (r1:Rel X.K (O1++[slotOf x]) (U++[some v]) F G H1) (rv1:RV U v x) (hp1:wb O1 (fun y O2=>k x y O2 P PX) PX)
  (hok:∀ r O' v F' H',P r O'->Same F F'->Rel X.K (O'++[slotOf r]) (U++[some v]) F' G H'->RV U v r->Q v H') (hx:XC X (·=U) F G PX):tW X wb U H1 fun u H2=>Two X U k Q v u H2:=by
 have h1:=len1 r1
 obtain ⟨G1,rel1,gg,back⟩:=r1.hide h1
 refine ⟨F,G1,O1,_,PX,rel1,hp1,fun y O2 u F2 H2 hp2 s2 r2 rv2=>?_,hx.mono (fun _ z=>z) (Same.refl F) gg⟩
 have h2:=len1 r2
 have r3:=back s2 r2
 rw [append_assoc,append_assoc] at r3
 exact ⟨F2,G,O2,x,y,P,PX,Rel.swap (O1:=[slotOf y]) (U1:=[some u]) (O2:=[slotOf x]) (U2:=[some v]) h2 rfl r3,h2,rv1,rv2,hp2,fun r O' v F' H' a b c d=>hok r O' v F' H' a (s2.trans b) c d,hx.grow s2⟩
end
section
variable {X:Cx} {a b c:Expr} {wa wb wc:WE} {pos p2:Pos}
theorem match_int {O:Env} {o:Option D} {k:Int->Prop} (h:(match o with | some (.int i)=>k i | _=>False)):∃ i,o=some (.int i)/\k i:=by
 split at h
 ·exact ⟨_,rfl,h⟩
 ·exact h.elim
theorem zg9 {K:W.Frag} {O:Env} {U:St} {F G H:Hp} {x y:R} {v u:V} {lo hi:Option Int} {P:WQ} {Q:VK} {q:D} (rel:Rel K (O++[slotOf x,slotOf y]) (U++[some v,some u]) F G H) (hl:O.length=U.length) (rx:RV U v x)
  (hk:need (viewC x O) fun d=>need (slD d lo hi) fun s=>P (.v s) O)
  (hok:∀ r O' v F' H',P r O'->Same F F'->Rel K (O'++[slotOf r]) (U++[some v]) F' G H'->RV U v r->Q v H'):rSl K v lo hi H Q:=by
 obtain ⟨d,ed,hk⟩:=zae hk
 obtain ⟨s,es,hk⟩:=zae hk
 have relx:Rel K (O++[slotOf x]) (U++[some v]) F G H:=by
  have:=Rel.swap (O1:=[slotOf x]) (U1:=[some v]) (O2:=[slotOf y]) (U2:=[some u]) hl rfl rel
  exact Rel.mid (O:=O) (U:=U) this hl
 obtain ⟨F1,s1,re,r1⟩:=takeC (O':=[]) (U':=[]) relx hl rx ed
 exact zkT (O:=O) (U:=U) (by simpa using r1) re es fun v F' H' sm r'=>hok _ O v F' H' hk (s1.trans sm) r' trivial
theorem zhI (ha:FE X a wa) (hb:FE X b wb):FE X (.Subscript a (.Slice (some b) none none p2) pos) (wSl wa (some wb) none):=fun pn xe hp=>by
 refine PE.imp (zds (zhR (X:=wp X pn xe)) (ha pn xe hp) (zdp (hb pn xe hp)) zgT) fun U H Q q=>?_
 refine (two (k:=fun x y O2 Q E=>match view y O2 with
  | some (.int i)=>need (viewC x O2) fun d=>need (slD d (some i) none) fun s=>Q (.v s) O2
  | _=>False) q).mono fun v H1 h1=>h1.mono fun u H2 h2=>?_
 obtain ⟨F,G,O,x,y,P,PX,rel,hl,rx,ry,hk,hok,hx⟩:=h2
 obtain ⟨i,ei,hk⟩:=match_int (O:=O) (k:=fun i=>need (viewC x O) fun d=>need (slD d (some i) none) fun s=>P (.v s) O) hk
 have ru:=look (O':=[]) (U':=[]) (rel.mid hl) hl ry ei
 cases ru
 exact ⟨i,rfl,zg9 (q:=.non) rel hl rx hk hok⟩
theorem zcf (ha:FE X a wa) (hb:FE X b wb):FE X (.Subscript a (.Slice none (some b) none p2) pos) (wSl wa none (some wb)):=fun pn xe hp=>by
 refine PE.imp (zds (zhR (X:=wp X pn xe)) (ha pn xe hp) zgT (zdp (hb pn xe hp))) fun U H Q q=>?_
 refine (two (k:=fun x y O2 Q E=>match view y O2 with
  | some (.int i)=>need (viewC x O2) fun d=>need (slD d none (some i)) fun s=>Q (.v s) O2
  | _=>False) q).mono fun v H1 h1=>h1.mono fun u H2 h2=>?_
 obtain ⟨F,G,O,x,y,P,PX,rel,hl,rx,ry,hk,hok,hx⟩:=h2
 obtain ⟨i,ei,hk⟩:=match_int (O:=O) (k:=fun i=>need (viewC x O) fun d=>need (slD d none (some i)) fun s=>P (.v s) O) hk
 have ru:=look (O':=[]) (U':=[]) (rel.mid hl) hl ry ei
 cases ru
 exact ⟨i,rfl,zg9 (q:=.non) rel hl rx hk hok⟩
theorem zfq (ha:FE X a wa) (hb:FE X b wb) (hc:FE X c wc):FE X (.Subscript a (.Slice (some b) (some c) none p2) pos) (wSl wa (some wb) (some wc)):=fun pn xe hp=>by
 refine PE.imp (zds (zhR (X:=wp X pn xe)) (ha pn xe hp) (zdp (hb pn xe hp)) (zdp (hc pn xe hp))) fun U H Q q=>?_
 refine (two (k:=fun x y O2 Q E=>match view y O2 with
  | some (.int i)=>wc O2 (fun z O3=>match view z O3 with
    | some (.int j)=>need (viewC x O3) fun d=>need (slD d (some i) (some j)) fun s=>Q (.v s) O3
    | _=>False) E
  | _=>False) q).mono fun v H1 h1=>h1.mono fun u H2 h2=>?_
 obtain ⟨F,G,O,x,y,P,PX,rel,hl,rx,ry,hk,hok,hx⟩:=h2
 obtain ⟨i,ei,hk⟩:=match_int (O:=O) (k:=fun i=>wc O (fun z O3=>match view z O3 with
   | some (.int j)=>need (viewC x O3) fun d=>need (slD d (some i) (some j)) fun s=>P (.v s) O3
   | _=>False) PX) hk
 have ru:=look (O':=[]) (U':=[]) (rel.mid hl) hl ry ei
 cases ru
 have relx:Rel X.K (O++[slotOf x]) (U++[some v]) F G H2:=by
  have:=Rel.swap (O1:=[slotOf x]) (U1:=[some v]) (O2:=[slotOf y]) (U2:=[some (.int i)]) hl rfl rel
  exact Rel.mid (O:=O) (U:=U) this hl
 refine ⟨i,rfl,(nextOf (X:=wp X pn xe) (k:=fun x z O3 P PX=>match view z O3 with
   | some (.int j)=>need (viewC x O3) fun d=>need (slD d (some i) (some j)) fun s=>P (.v s) O3
   | _=>False) relx rx hk hok hx).mono fun t H3 h3=>?_⟩
 obtain ⟨F,G,O,x,y,P,PX,rel,hl,rx,ry,hk,hok,hx⟩:=h3
 obtain ⟨j,ej,hk⟩:=match_int (O:=O) (k:=fun j=>need (viewC x O) fun d=>need (slD d (some i) (some j)) fun s=>P (.v s) O) hk
 have ru:=look (O':=[]) (U':=[]) (rel.mid hl) hl ry ej
 cases ru
 exact ⟨j,rfl,zg9 (q:=.non) rel hl rx hk hok⟩
end
end FL
end
section
namespace FL
open PySem
noncomputable def wMS (f:List Nat->List D->Option S) (o:WE) (a:WA):WE:=fun O Q E=>o O (fun x O1=>match x with
 | .v (.sh (.str l))=>a O1 (fun rs O2=>need (rs.mapM fun r=>viewC r O2) fun ds=>need (f l ds) fun s=>Q (.v s) O2) E
 | _=>False) E
noncomputable def strsD:List D->Option (List (List Nat))
 | []=>some []
 | .str x::r=>(strsD r).map (x::·)
 | _::_=>none
@[simp] theorem zd5 (l:List (List Nat)):strsD (l.map .str)=some l:=by
  induction l with
  | nil=>rfl
  | cons a r ih=>rw [map_cons,strsD,ih]; rfl
noncomputable def joinD (sep:List Nat):List (List Nat)->List Nat
 | []=>[]
 | [x]=>x
 | x::r=>x++sep++joinD sep r
theorem zce (sep:List Nat):∀ ys:List (List Nat),(joinD sep ys).length<=(ys.map List.length).sum + ys.length * sep.length
 | []=>zero_le _
 | [x]=>by simp [joinD]
 | x::y::r=>by
   have:=zce sep (y::r)
   rw [joinD,length_append,length_append,map_cons,sum_cons,length_cons (a:=x),Nat.succ_mul]
   ·lia
   ·intro h; cases h
theorem zeh (ys:List (List Nat)):joinD [] ys=ys.flatten:=by
 induction ys with
 | nil=>rfl
 | cons x r ih=>
   cases r with
   | nil=>simp [joinD]
   | cons y r=>rw [joinD,ih]; simp; intro h; cases h
noncomputable def joinS (sep:List Nat) (l:List D):Option S:=(strsD l).bind fun ys=>if (ys.map List.length).sum + ys.length * sep.length<=big then some (.sh (.str (joinD sep ys))) else none
noncomputable def mJoin (sep:List Nat):List D->Option S
 | [.lst l]=>joinS sep l
 | [.tup l]=>joinS sep l
 | _=>none
noncomputable def wPopAt (j:Nat) (e:WE):WE:=fun O Q E=>match slot O j with
 | some (.lst _)=>e O (fun r O2=>match view r O2,slot O2 j with
   | some (.int i),some (.lst l)=>need (if l.length<=big then ixN l.length i else none) fun k=>need l[k]? fun s=>Q (.v s) (O2.set j (some (.lst (l.eraseIdx k))))
   | _,_=>False) E
 | _=>False
noncomputable def bools:List D->Option (List Bool)
 | []=>some []
 | .bl x::r=>(bools r).map (x::·)
 | _::_=>none
@[simp] theorem zhp (l:List Bool):bools (l.map .bl)=some l:=by
  induction l with
  | nil=>rfl
  | cons a r ih=>rw [map_cons,bools,ih]; rfl
noncomputable def bAll:List D->Option S
 | [.lst l]=>(bools l).map fun bs=>.sh (.bl (bs.all id))
 | _=>none
end FL
end
section
namespace FL
open PySem PySem.Spec PyProof.Rows L2
section
variable {X:Cx} {e:Expr} {es:List Expr} {wo:WE} {wa:WA} {o:Expr} {name:Str} {apos cpos:Pos} {id:String} {r:V->List V->Hp->VK->Prop} {f:List Nat->List D->Option S}
noncomputable def DoesMS (K:W.Frag) (r:V->List V->Hp->VK->Prop) (f:List Nat->List D->Option S):Prop:=∀ (U:St) (O:Env) (F G H:Hp) (x:Str) (vs:List V) (ds:List D) (s:S) (Q:VK),Rel K O U F G H->x.cps.toList.length<=16777216->RepEs K F H vs ds->f x.cps.toList ds=some s->
 (∀ v F' H',Same F F'->Rel K (O++[some s]) (U++[some v]) F' G H'->Q v H')->r (.str x) vs H Q
theorem zq3 (hm:∀ pn xe,MtM (wp X pn xe) id r) (hd:DoesMS X.K r f) (slot:Slot "str" name id) (hty:typeOf (.builtin id)=pure (.type "method_descriptor")) (ho:FE X o wo) (ha:FA X (e::es) wa)
  (hbase:attributeBase o name X.env (eval o X.env)=eval o X.env:=by rfl)
  (hfew:((backTo cpos (starEach (e::es) X.env)).all (fun x=>!x.1) && (backToKw cpos (keywordEach [] X.env)).all (fun x=>x.1.isSome)
   && decide ((e::es).length + ([]:List Keyword).length + (if ([]:List Keyword).isEmpty then 0 else 1) < 30))=true:=by rfl)
  (hline:(apos.endLine == cpos.line)=true:=by rfl) (hs:starEach (e::es) X.env=(false,eval e X.env)::starEach es X.env:=by rfl) (hplain:(backTo cpos (starEach es X.env)).any (·.1)=false:=by rfl):
  FE X (.Call (.Attribute o name apos) (e::es) [] cpos) (wMS f wo wa):=fun pn xe hp=>by
 refine PE.imp (zi3 (X:=wp X pn xe) PySem.F.plainAttrs_str slot hty (hm pn xe) (ho pn xe hp) (ha pn xe hp) hbase hfew hline hs hplain) fun U H Q q=>?_
 refine (one (k:=fun x O1 Q E=>match x with
  | .v (.sh (.str l))=>wa O1 (fun rs O2=>need (rs.mapM fun r=>viewC r O2) fun ds=>need (f l ds) fun s=>Q (.v s) O2) E
  | _=>False) q).mono fun v H1 h1=>?_
 obtain ⟨F,G,O,x,P,PX,rel,hl,rx,hk,hok,hx⟩:=h1
 split at hk
 ·rename_i l
  have rp:=look (O':=[]) (U':=[]) (x:=.v (.sh (.str l))) rel hl rx rfl
  cases rp with
  | str e1 z=>
    rename_i y
    subst e1
    refine ⟨rfl,F,G,O,_,PX,rel.drop hl,hk,fun rs O2 vs F2 H2 hk2 s2 r2 hl2 rvs=>?_,hx⟩
    obtain ⟨ds,ed,hk2⟩:=zae hk2
    obtain ⟨s,es,hk2⟩:=zae hk2
    obtain ⟨F3,s3,re,r3⟩:=takeAll (O':=[]) (U':=[]) (by simpa using r2) hl2 rvs ed
    exact hd U O2 F3 G H2 y vs ds s Q (by simpa using r3) z re es fun v F' H' sm r'=>hok _ O2 v F' H' hk2 (s2.trans (s3.trans sm)) r' trivial
 ·exact hk.elim
end
section
variable {X:Cx} {K:W.Frag}
theorem zhv (r:Reps K F xs l) (h:strsD l=some ys):∃ zs:List Str,xs=zs.map V.str/\ys=zs.map fun z=>z.cps.toList:=
 Reps.ind (P:=fun xs l=>∀ ys,strsD l=some ys->∃ zs:List Str,xs=zs.map V.str/\ys=zs.map fun z=>z.cps.toList) (fun ys h=>by cases h; exact ⟨[],rfl,rfl⟩) (fun a _ ih ys h=>by
  cases a with
  | @str x _ e z=>
    rw [strsD] at h
    obtain ⟨ys',h1,rfl⟩:=map_eq_some_iff.mp h
    obtain ⟨zs,rfl,rfl⟩:=ih _ h1
    exact ⟨x::zs,rfl,by rw [map_cons,e]⟩
  | _=>cases h) r ys h
theorem zfX (sep:Str):∀ zs:List Str,(Str.join sep zs).cps.toList=joinD sep.cps.toList (zs.map fun z=>z.cps.toList)
 | []=>rfl
 | [x]=>rfl
 | x::y::r=>by
   show ((x++sep++Str.join sep (y::r):Str)).cps.toList=x.cps.toList++sep.cps.toList++joinD sep.cps.toList ((y::r).map fun z=>z.cps.toList)
   rw [<- zfX sep (y::r)]
   show (x.cps++sep.cps++(Str.join sep (y::r)).cps).toList=_
   rw [toList_append,toList_append]
theorem zb6:∀ {us:List Value},Vals (ys.map V.str) us->StrsAre us ys:=by
 induction ys with
 | nil=>intro us r; rw [map_nil] at r; cases r; exact .nil
 | cons n ns ih=>
   intro us r
   rw [map_cons] at r
   cases r with
   | cons r1 r2=>
     obtain ⟨t,e⟩:=r1
     subst e
     exact .cons n t (ih r2)
noncomputable def rJoin (K:W.Frag):V->List V->Hp->VK->Prop:=fun x vs H Q=>∃ z a ys,x=.str z/\vs=[.ref a]/\(SqL K H a (ys.map V.str)\/SqT K H a (ys.map V.str))/\(ys.map (·.length)).sum + ys.length * z.length<=16777216/\Q (.str (Str.join z ys)) H
theorem zkW:MtM X "str.join" (rJoin X.K):=by
 intro pins s U H x vs v us Q I rx rv h
 obtain ⟨z,a,ys,rfl,rfl,hq,hz,q⟩:=h
 obtain ⟨t,rfl⟩:=rx
 cases rv with
 | cons r1 r2=>
   cases r2
   cases r1
   have e:Txt.join z ys=Str.join z ys:=StrLaws.glued_eq_join z ys
   rcases hq with hq | hq
   ·obtain ⟨its,r,pl,_⟩:=I.list hq
    exact join_list pl.isList (zb6 r) hz fun t' k=>⟨.str (Str.join z ys),H,I.tok _,⟨_,by rw [e]⟩,q⟩
   ·obtain ⟨its,r,pl,_⟩:=I.tuple hq
    exact join_tuple pl (zb6 r) hz fun t' k=>⟨.str (Str.join z ys),H,I.tok _,⟨_,by rw [e]⟩,q⟩
theorem zev (rel:Rel K O U F G H) (hq:SqL K H a xs\/SqT K H a xs) (r:Reps K F xs l) (e:joinS x.cps.toList l=some s)
  (k:∀ v F' H',Same F F'->Rel K (O++[some s]) (U++[some v]) F' G H'->Q v H'):rJoin K (.str x) [.ref a] H Q:=by
 unfold joinS at e
 obtain ⟨ys,e1,e2⟩:=Option.bind_eq_some_iff.mp e
 obtain ⟨zs,rfl,rfl⟩:=zhv r e1
 split at e2
 ·rename_i hz
  cases e2
  have hl:∀ z:Str,z.cps.toList.length=z.length:=fun z=>by rw [length_toList]; rfl
  have e3:((zs.map fun z=>z.cps.toList).map List.length)=zs.map (·.length):=by rw [map_map]; exact map_congr_left fun z _=>hl z
  have hz2:=hz
  rw [e3,length_map,hl] at hz
  refine ⟨x,a,zs,rfl,rfl,hq,le_trans hz (by decide),k _ F H (Same.refl F) (rel.push (.str (zfX x zs) ?_))⟩
  exact le_trans (zce _ _) (le_trans hz2 (by decide))
 ·cases e2
theorem zhW:DoesMS K (rJoin K) mJoin:=by
 intro U O F G H x vs ds s Q rel hz re e hq
 obtain ⟨d,v,rfl,rfl⟩:=arg1 (fun x y r=>by cases x <;> rfl) rfl re e
 cases d with
 | tup l=>
   obtain ⟨a,xs,rfl,h1,r1⟩:=re.1.tup
   exact zev rel (.inr (SqT.of (rel.fr _ _ h1))) r1 e hq
 | lst l=>
   obtain ⟨a,xs,rfl,h1,r1⟩:=re.1.lst rel.fr
   exact zev rel (.inl h1) r1 e hq
 | _=>cases e
end
section
variable {X:Cx} {e:Expr} {wo:WE} {wa:WA} {o:Expr} {apos cpos:Pos}
theorem ze1 (ho:FE X o wo) (ha:FA X [e] wa)
  (hbase:attributeBase o "join" X.env (eval o X.env)=eval o X.env:=by rfl)
  (hfew:((backTo cpos (starEach [e] X.env)).all (fun x=>!x.1) && (backToKw cpos (keywordEach [] X.env)).all (fun x=>x.1.isSome)
   && decide ([e].length + ([]:List Keyword).length + (if ([]:List Keyword).isEmpty then 0 else 1) < 30))=true:=by rfl)
  (hline:(apos.endLine == cpos.line)=true:=by rfl) (hs:starEach [e] X.env=(false,eval e X.env)::starEach [] X.env:=by rfl) (hplain:(backTo cpos (starEach [] X.env)).any (·.1)=false:=by rfl):
  FE X (.Call (.Attribute o "join" apos) [e] [] cpos) (wMS mJoin wo wa):=zq3 (fun _ _=>zkW) zhW PySem.F.slot_str_join PySem.F.type_str_join ho ha hbase hfew hline hs hplain
end
section
variable {K:W.Frag} {F H G:Hp} {U:St} {O:Env}
theorem SReps.erase:∀ {xs:List V} {l:List S} {fp:List Addr} {m:Nat} {s:S},SReps K F H xs l fp->l[m]?=some s->∃ y fa fi fb,fp=fa++(fi++fb)/\xs[m]?=some y/\SRep K F H y s fi/\SReps K F H (xs.eraseIdx m) (l.eraseIdx m) (fa++fb)
 | _,_,_,_,_,.nil,h=>by simp at h
 | _,_,_,0,s,.cons (x:=x) (fp:=fp) (fq:=fq) a b,h=>by
   have e:=qg h
   subst e
   exact ⟨x,[],fp,fq,rfl,rfl,a,b⟩
 | _,_,_,m + 1,s,.cons (fp:=fp) (fq:=fq) a b,h=>by
   obtain ⟨y,fa,fi,fb,rfl,h1,h2,h3⟩:=SReps.erase (m:=m) b (by simpa using h)
   refine ⟨y,fp++fa,fi,fb,(append_assoc ..).symm,by simpa using h1,h2,?_⟩
   rw [append_assoc]
   exact .cons a h3
theorem Rel.popItem {D:Addr} (r:Rel K O U F G H) (hs:slot O n=some (.lst l)) (hU:U[n]?=some (some (.ref D))) (hm:l[m]?=some s):
  ∃ xs y,H D=some (.lst xs)/\xs.length=l.length/\xs[m]?=some y/\Rel K (O.set n (some (.lst (l.eraseIdx m)))++[some s]) (U++[some y]) F G (upd H D (.lst (xs.eraseIdx m))):=by
 obtain ⟨fp,e,nd,ap⟩:=r.en
 obtain ⟨v',fa,fi,fb,e1,rfl,q,up⟩:=e.at hs
 rw [hU] at e1
 have e2:V.ref D=v':=by simpa using e1
 subst e2
 cases q with
 | lst hD rl=>
   rename_i xs fl
   obtain ⟨y,ga,gi,gb,rfl,hy,sr,rl2⟩:=rl.erase hm
   refine ⟨xs,y,hD,rl.len,hy,?_⟩
   obtain ⟨na,nib,nab⟩:=nodup_append.mp nd
   obtain ⟨ni,nb,nib⟩:=nodup_append.mp nib
   obtain ⟨nD,nfl⟩:=nodup_cons.mp ni
   have hDa:D∉fa:=fun z=>nab D z D (qk _ qo) rfl
   have hDb:D∉fb:=fun z=>nib D qo D z rfl
   have apD:=ap D (qj _ (qk _ qo))
   have ne:∀ {l:List Addr},D∉l->∀ x∈l,upd H D (.lst (xs.eraseIdx m)) x=H x:=fun h x hx=>zaf fun z=>h (z ▸ hx)
   have hDg:D∉ga++gb:=fun z=>nD ((mem_append.mp z).elim (fun w=>qk _ w) fun w=>qj _ (qj _ w))
   have hDi:D∉gi:=fun z=>nD (qj _ (qk _ z))
   have new:SRep K F (upd H D (.lst (xs.eraseIdx m))) (.ref D) (.lst (l.eraseIdx m)) (D::(ga++gb)):=.lst zai (rl2.mono (Same.refl F) (ne hDg))
   have a2:=up (F':=F) (H':=upd H D (.lst (xs.eraseIdx m))) (o:=some (.lst (l.eraseIdx m))) (u:=some (.ref D)) (Same.refl F) (fun x hx=>zaf fun z=>(mem_append.mp hx).elim (fun w=>hDa (z ▸ w)) fun w=>hDb (z ▸ w)) (.so new .nil)
   rw [zcm hU] at a2
   have a3:=a2.app (.so (sr.mono (Same.refl F) (ne hDi)) .nil)
   have pm:(fa++((D::(ga++gb))++[]++fb)++(gi++[])).Perm (fa++((D::(ga++(gi++gb)))++fb)):=by
    simp only [append_nil,append_assoc,cons_append]
    refine List.Perm.append_left _ (List.Perm.cons _ (List.Perm.append_left _ ?_))
    rw [<- append_assoc gi gb fb,<- append_assoc gb fb gi]
    refine (perm_append_comm (l₁:=gb++fb) (l₂:=gi)).trans ?_
    rw [append_assoc]
   refine ⟨Same.updR r.fr apD.1,fun x o w=>?_,_,a3,pm.nodup_iff.mpr nd,fun x hx=>ap x (pm.mem_iff.mp hx)⟩
   have hx:x≠D:=fun z=>by rw [z,apD.2] at w; cases w
   rw [zaf hx]
   exact r.gr x o w
end
section
variable {X:Cx} {pos tpos:Pos}
theorem zfO (ho:FE X o (wVar j)) (he:FE X e we)
  (hbase:attributeBase o "pop" X.env (eval o X.env)=eval o X.env:=by rfl)
  (hfew:((backTo cpos (starEach [e] X.env)).all (fun x=>!x.1) && (backToKw cpos (keywordEach [] X.env)).all (fun x=>x.1.isSome)
   && decide ([e].length + ([]:List Keyword).length + (if ([]:List Keyword).isEmpty then 0 else 1) < 30))=true:=by rfl)
  (hline:(apos.endLine == cpos.line)=true:=by rfl) (hs:starEach [e] X.env=[(false,eval e X.env)]:=by rfl):FE X (.Call (.Attribute o "pop" apos) [e] [] cpos) (wPopAt j we):=fun pn xe hp=>by
 refine PE.imp (zi3 (X:=wp X pn xe) PySem.F.plainAttrs_list PySem.F.slot_list_pop PySem.F.type_list_pop zj5 (ho pn xe hp) (zaa he zab hs pn xe hp) hbase hfew hline hs rfl) fun U H Q q=>?_
 obtain ⟨F,G,O,P,PX,rel,hw,hok,hx⟩:=q
 have hw':(match slot O j with
  | some (.lst _)=>we O (fun r O2=>match view r O2,slot O2 j with
    | some (.int i),some (.lst l)=>need (if l.length<=big then ixN l.length i else none) fun k=>need l[k]? fun s=>P (.v s) (O2.set j (some (.lst (l.eraseIdx k))))
    | _,_=>False) PX
  | _=>False):=hw
 cases qs:slot O j with
 | none=>rw [qs] at hw'; exact hw'.elim
 | some s0=>
   cases s0 with
   | lst l0=>
     rw [qs] at hw'
     refine ⟨F,G,O,fun y O1=>y=.loc j/\O1=O,PX,rel,by unfold wVar; rw [qs]; exact ⟨rfl,rfl⟩,fun y O1 o' F1 H1 hk s1 r1 rv=>?_,hx⟩
     obtain ⟨rfl,rfl⟩:=hk
     have l1:=len1 r1
     have hU:U[j]?=some (some o'):=rv
     have r2:=r1.drop l1
     obtain ⟨v',fp,e1,sr⟩:=r2.at qs
     rw [hU] at e1
     have e2:o'=v':=by simpa using e1
     subst e2
     cases sr with
     | lst hD rl=>
       rename_i a xs fl
       refine ⟨.inl ⟨rfl,_,SqL.of hD⟩,F1,G,O1,fun rs O2=>match rs with | [r]=>(match view r O2,slot O2 j with | some (.int i),some (.lst l)=>need (if l.length<=big then ixN l.length i else none) fun k=>need l[k]? fun s=>P (.v s) (O2.set j (some (.lst (l.eraseIdx k)))) | _,_=>False) | _=>False,PX,r2,hw',fun rs O2 vs F2 H2 hk s2 r3 hl rvs=>?_,hx.grow s1⟩
       match rs,vs,rvs,r3,hk with
       | [r],[v],rvs,r3,hk=>
         dsimp only at hk
         split at hk
         ·rename_i i l ei ql
          obtain ⟨m,em,hk⟩:=zae hk
          obtain ⟨s,es,hk⟩:=zae hk
          have rp:=look (O':=[]) (U':=[]) r3 hl rvs.1 ei
          cases rp
          split at em
          ·rename_i hz
           have r4:=r3.drop hl
           obtain ⟨ys,y,hD2,hlen,hy,r5⟩:=Rel.popItem r4 ql hU es
           rw [<- hlen] at em hz
           obtain ⟨b1,b2,b3,b4⟩:=zeO em
           have hb:ys.length<=1000000:=hz
           exact ⟨a,ys,i,m,y,rfl,rfl,hD2,by lia,by lia,b1,hy,hok _ _ y F2 _ hk (s1.trans s2) r5 trivial⟩
          ·cases em
         ·exact hk.elim
       | [],_,_,_,hk=>exact hk.elim
       | [_],[],rvs,_,_=>exact rvs.elim
       | [_],_::_::_,rvs,_,_=>exact rvs.2.elim
       | _::_::_,_,_,_,hk=>exact hk.elim
   | _=>rw [qs] at hw'; exact hw'.elim
end
section
variable {X:Cx} {K:W.Frag} {p pos:Pos} {e:Expr} {es:List Expr} {wa:WA}
theorem zj1:DoesB K (fun xs H Q=>∃ i j,xs=[.int i,.int j]/\Q (.int (if j > i then j else i)) H) bMax:=by
 intro U O F G H vs ds s Q rel re e hq
 obtain ⟨d,d2,v,u,rfl,rfl⟩:=arg2 (fun x=>by cases x <;> rfl) (fun x y z r=>by cases x <;> first | rfl | (cases y <;> rfl)) rfl re e
 cases d with
 | int i=>
   cases d2 with
   | int j=>
     cases e
     have h1:=re.1.int
     have h2:=re.2.1.int
     subst h1
     subst h2
     exact ⟨i,j,rfl,hq _ F H (Same.refl F) (rel.push (.int _))⟩
   | _=>cases e
 | _=>cases e
theorem zju:DoesB K (fun xs H Q=>∃ i j,xs=[.int i,.int j]/\Q (.int (if j < i then j else i)) H) bMin:=by
 intro U O F G H vs ds s Q rel re e hq
 obtain ⟨d,d2,v,u,rfl,rfl⟩:=arg2 (fun x=>by cases x <;> rfl) (fun x y z r=>by cases x <;> first | rfl | (cases y <;> rfl)) rfl re e
 cases d with
 | int i=>
   cases d2 with
   | int j=>
     cases e
     have h1:=re.1.int
     have h2:=re.2.1.int
     subst h1
     subst h2
     exact ⟨i,j,rfl,hq _ F H (Same.refl F) (rel.push (.int _))⟩
   | _=>cases e
 | _=>cases e
theorem zko (hc:X.calm=true) (hg:Gl X "max") (hm:X.mg "max"=none) (hv:bootBuiltins "max"=some (.builtin "max")) (ha:FA X (e::es) wa) (he:starEach (e::es) X.env=(false,eval e X.env)::starEach es X.env:=by rfl) (hpl:(backTo pos (starEach es X.env)).any (·.1)=false:=by rfl):FE X (.Call (.Name "max" p) (e::es) [] pos) (wB bMax wa):=
 zbt (fun _ _=>zh6 hc) zj1 hg hm hv ha (by decide) (by decide) he hpl
theorem zkh (hc:X.calm=true) (hg:Gl X "min") (hm:X.mg "min"=none) (hv:bootBuiltins "min"=some (.builtin "min")) (ha:FA X (e::es) wa) (he:starEach (e::es) X.env=(false,eval e X.env)::starEach es X.env:=by rfl) (hpl:(backTo pos (starEach es X.env)).any (·.1)=false:=by rfl):FE X (.Call (.Name "min" p) (e::es) [] pos) (wB bMin wa):=
 zbt (fun _ _=>zis hc) zju hg hm hv ha (by decide) (by decide) he hpl
end
section
variable {K:W.Frag}
theorem zfZ:∀ {xs:List V} {l:List D} {ys:List Bool},Reps K F xs l->bools l=some ys->xs=ys.map V.bl
 | _,_,ys,.nil,h=>by cases h; rfl
 | _,d::l,ys,.cons a b,h=>by
   cases a with
   | bl c=>
     rw [bools] at h
     obtain ⟨ys',h1,rfl⟩:=map_eq_some_iff.mp h
     rw [zfZ b h1]
     rfl
   | _=>cases h
theorem zfj:∀ {us:List Value},Vals (ys.map V.bl) us->LSm.BoolsAre us ys:=by
 induction ys with
 | nil=>intro us r; rw [map_nil] at r; cases r; exact .nil
 | cons n ns ih=>
   intro us r
   rw [map_cons] at r
   cases r with
   | cons r1 r2=>
     cases r1
     exact .cons n (ih r2)
end
section
variable {prog:Program} {w:World} {A:Around} {E:Value->Shared->Prop} {s:Shared} {l:Addr} {vs:List Value} {bs:List Bool} {Q:Value->Shared->Prop}
theorem zgh (hh:A.handled=none) (hl:s.heap.IsList l vs.toArray) (hb:LSm.BoolsAre vs bs) (h:∀ h' tk,(∀ b x,s.heap.get? b=some x->h'.get? b=some x)->Q (.bool (bs.all id)) { s with heap:=h',toks:=tk }):
  wpAny (model prog w) A (call (.builtin "all") [.ref l]) Q E s:=by
 have hlt:l < s.heap.objs.size:=by obtain ⟨_,e,_⟩:=hl; exact qe e
 refine call_all_walk (wpAny_pyIter_list hl ?_)
 refine ⟨s.heap.objs.size,[s.heap.objs.size,l],[s.heap.objs.size],vs.toArray.size,_,_,fun i=>(bs[i]?).getD true,rfl,Walks.list (A:=A.in1) hh _ l (ne_of_lt hlt) vs.toArray,
  ⟨⟨_,qd _ rfl,rfl,rfl⟩,hl.push _⟩,fun i v s' Q' E' hP hQ=>?_,fun h' tk hk=>?_⟩
 ·obtain ⟨b,e,rfl⟩:=hb.get i v (by simpa using hP)
  simp only [e,Option.getD_some] at hQ
  exact wpAny_truthy_bool hQ
 ·have e:((List.range vs.toArray.size).all fun i=>(bs[i]?).getD true)=bs.all id:=by
   rw [size_toArray,hb.length]; exact LSm.range_all bs
  rw [e]
  exact h h' tk (LSm.kept_iter hk)
end
section
variable {X:Cx} {K:W.Frag} {p pos:Pos} {e:Expr} {es:List Expr} {wa:WA}
noncomputable def rAll (K:W.Frag):List V->Hp->VK->Prop:=fun xs H Q=>∃ (a:Addr) (bs:List Bool),xs=[.ref a]/\SqL K H a (bs.map V.bl)/\Q (.bl (bs.all id)) H
theorem zhc (hc:X.calm=true):CallR X (.builtin "all") (rAll X.K):=by
 intro pins s U H xs us Q I r h
 obtain ⟨a,bs,rfl,hq,q⟩:=h
 cases r with
 | cons r1 r2=>
   cases r2
   cases r1
   obtain ⟨its,r,pl,_⟩:=I.list hq
   exact zgh (I.ok.hd hc) pl.isList (zfj r) fun h' tk k=>⟨.bl _,H,I.kept k,rfl,q⟩
theorem zi2:DoesB K (rAll K) bAll:=by
 intro U O F G H vs ds s Q rel re e hq
 obtain ⟨d,v,rfl,rfl⟩:=arg1 (fun x y r=>by cases x <;> rfl) rfl re e
 cases d with
 | lst l=>
   obtain ⟨bs,e1,rfl⟩:=map_eq_some_iff.mp e
   obtain ⟨a,xs,rfl,h1,r1⟩:=re.1.lst rel.fr
   have:=zfZ r1 e1
   subst this
   exact ⟨a,bs,rfl,h1,hq _ F H (Same.refl F) (rel.push (.bl _))⟩
 | _=>cases e
theorem zm3 (hc:X.calm=true) (hg:Gl X "all") (hm:X.mg "all"=none) (hv:bootBuiltins "all"=some (.builtin "all")) (ha:FA X (e::es) wa) (he:starEach (e::es) X.env=(false,eval e X.env)::starEach es X.env:=by rfl) (hpl:(backTo pos (starEach es X.env)).any (·.1)=false:=by rfl):FE X (.Call (.Name "all" p) (e::es) [] pos) (wB bAll wa):=
 zbt (fun pn xe=>zhc (X:=wp X pn xe) hc) zi2 hg hm hv ha (by decide) (by decide) he hpl
end
end FL
end
section
namespace FL
open PySem
mutual
noncomputable def cmpD:D->D->Ordering
 | .int i,.int j=>if i < j then .lt else if j < i then .gt else .eq
 | .str x,.str y=>if x < y then .lt else if y < x then .gt else .eq
 | .tup l,.tup m=>cmpDs l m
 | _,_=>.eq
noncomputable def cmpDs:List D->List D->Ordering
 | [],[]=>.eq
 | [],_::_=>.lt
 | _::_,[]=>.gt
 | a::l,b::m=>match cmpD a b with
   | .eq=>cmpDs l m
   | o=>o
end
noncomputable def leD (a b:D):Bool:=match cmpD a b with
 | .gt=>false
 | _=>true
@[simp] theorem zdP (i j:Int):leD (.int i) (.int j)=decide (i<=j):=by
  unfold leD cmpD
  by_cases h:i < j
  ·rw [if_pos h,decide_eq_true (by lia)]
  ·rw [if_neg h]
   by_cases h2:j < i
   ·rw [if_pos h2,decide_eq_false (by lia)]
   ·rw [if_neg h2,decide_eq_true (by lia)]
@[simp] theorem zcu (x y:List Nat):leD (.str x) (.str y)=!decide (y < x):=by
  unfold leD cmpD
  by_cases h:x < y
  ·rw [if_pos h,decide_eq_false (fun h'=>lt_asymm h h')]; rfl
  ·rw [if_neg h]
   by_cases h2:y < x
   ·rw [if_pos h2,decide_eq_true h2]; rfl
   ·rw [if_neg h2,decide_eq_false h2]; rfl
noncomputable def insD (x:D):List D->List D
 | []=>[x]
 | y::r=>if leD x y then x::y::r else y::insD x r
noncomputable def sortD:List D->List D
 | []=>[]
 | x::r=>insD x (sortD r)
theorem zcE (x:D):∀ l:List D,(insD x l).Perm (x::l)
 | []=>.refl _
 | y::r=>by
   unfold insD
   split
   ·exact .refl _
   ·exact (List.Perm.cons y (zcE x r)).trans (.swap x y r)
theorem zaP:∀ l:List D,(sortD l).Perm l
 | []=>.refl _
 | x::r=>(zcE x _).trans (.cons x (zaP r))
structure OrdOn (P:D->Prop):Prop where
 tot:∀ a b,P a->P b->leD a b=true\/leD b a=true
 tr:∀ a b c,P a->P b->P c->leD a b=true->leD b c=true->leD a c=true
 anti:∀ a b,P a->P b->leD a b=true->leD b a=true->a=b
theorem zcv (o:OrdOn P) (x:D) (hx:P x):∀ l:List D,(∀ d∈l,P d)->l.Pairwise (leD · ·=true)->(insD x l).Pairwise (leD · ·=true)
 | [],_,_=>List.pairwise_singleton _ _
 | y::r,hp,h=>by
   obtain ⟨h1,h2⟩:=pairwise_cons.mp h
   have hy:=hp y qo
   have hr:∀ d∈r,P d:=fun d hd=>hp d (qm _ hd)
   unfold insD
   split
   ·rename_i c
    refine pairwise_cons.mpr ⟨fun d hd=>?_,h⟩
    rcases mem_cons.mp hd with rfl | hd
    ·exact c
    ·exact o.tr x y d hx hy (hr d hd) c (h1 d hd)
   ·rename_i c
    refine pairwise_cons.mpr ⟨fun d hd=>?_,zcv o x hx r hr h2⟩
    rcases mem_cons.mp ((zcE x r).mem_iff.mp hd) with rfl | hd
    ·exact (o.tot d y hx hy).resolve_left c
    ·exact h1 d hd
theorem zbg (o:OrdOn P):∀ l:List D,(∀ d∈l,P d)->(sortD l).Pairwise (leD · ·=true)
 | [],_=>.nil
 | x::r,hp=>zcv o x (hp x qo) _ (fun d hd=>hp d (qm _ ((zaP r).mem_iff.mp hd))) (zbg o r fun d hd=>hp d (qm _ hd))
theorem zbM (o:OrdOn P):∀ l m:List D,(∀ d∈l,P d)->l.Perm m->l.Pairwise (leD · ·=true)->m.Pairwise (leD · ·=true)->l=m
 | [],m,_,p,_,_=>(List.nil_perm.mp p).symm
 | x::r,[],_,p,_,_=>absurd p.length_eq (by simp)
 | x::r,y::t,hp,p,h1,h2=>by
   obtain ⟨a1,a2⟩:=pairwise_cons.mp h1
   obtain ⟨b1,b2⟩:=pairwise_cons.mp h2
   have hx:=hp x qo
   have hy:P y:=hp y (p.mem_iff.mpr qo)
   have e:x=y:=by
    have m1:x∈y::t:=p.mem_iff.mp qo
    have m2:y∈x::r:=p.mem_iff.mpr qo
    rcases mem_cons.mp m1 with e | m1
    ·exact e
    ·rcases mem_cons.mp m2 with e | m2
     ·exact e.symm
     ·exact o.anti x y hx hy (a1 y m2) (b1 x m1)
   subst e
   rw [zbM o r t (fun d hd=>hp d (qm _ hd)) (List.Perm.cons_inv p) a2 b2]
theorem zbD (o:OrdOn P) (hp:∀ d∈l,P d) (p:m.Perm l) (h:m.Pairwise (leD · ·=true)):sortD l=m:=
 zbM o _ _ (fun d hd=>hp d ((zaP l).mem_iff.mp hd)) ((zaP l).trans p.symm) (zbg o l hp) h
noncomputable def IsInt:D->Prop
 | .int _=>True
 | _=>False
noncomputable def IsStr:D->Prop
 | .str _=>True
 | _=>False
theorem zhx:OrdOn IsInt where
 tot
  | .int a,.int b,_,_=>by simp only [zdP,decide_eq_true_eq]; lia
 tr
  | .int a,.int b,.int c,_,_,_=>by simp only [zdP,decide_eq_true_eq]; lia
 anti
  | .int a,.int b,_,_=>by simp only [zdP,decide_eq_true_eq]; intro h1 h2; rw [Int.le_antisymm h1 h2]
theorem zfa:OrdOn IsStr where
 tot
  | .str a,.str b,_,_=>by
    simp only [zcu,Bool.not_eq_true',decide_eq_false_iff_not]
    by_cases h:b < a
    ·exact .inr fun h'=>lt_asymm h h'
    ·exact .inl h
 tr
  | .str a,.str b,.str c,_,_,_=>by
    simp only [zcu,Bool.not_eq_true',decide_eq_false_iff_not]
    intro h1 h2
    exact fun h=>(List.le_trans (l₁:=a) (l₂:=b) (l₃:=c) h1 h2) h
 anti
  | .str a,.str b,_,_=>by
    simp only [zcu,Bool.not_eq_true',decide_eq_false_iff_not]
    intro h1 h2
    have:a=b:=le_antisymm (as:=a) (bs:=b) h1 h2
    rw [this]
noncomputable def intsD:List D->Option (List Int)
 | []=>some []
 | .int x::r=>(intsD r).map (x::·)
 | _::_=>none
@[simp] theorem zbh (l:List Int):intsD (l.map .int)=some l:=by
  induction l with
  | nil=>rfl
  | cons a r ih=>rw [map_cons,intsD,ih]; rfl
noncomputable def sortS (l:List D):Option S:=if l.length < 64/\((intsD l).isSome\/(strsD l).isSome) then some (.lst ((sortD l).map .sh)) else none
noncomputable def bSorted:List D->Option S
 | [.lst l]=>sortS l
 | _=>none
end FL
end
section
namespace FL
open PySem PySem.Spec PyProof.Rows L2
section
variable {X:Cx} {K:W.Frag} {p pos:Pos} {e:Expr} {es:List Expr} {wa:WA}
theorem zeI (r:Reps K F xs l) (h:intsD l=some ys):xs=ys.map V.int/\l=ys.map D.int:=
 Reps.ind (P:=fun xs l=>∀ ys,intsD l=some ys->xs=ys.map V.int/\l=ys.map D.int) (fun ys h=>by cases h; exact ⟨rfl,rfl⟩) (fun a _ ih ys h=>by
  cases a with
  | int c=>
    rw [intsD] at h
    obtain ⟨ys',h1,rfl⟩:=map_eq_some_iff.mp h
    obtain ⟨e1,e2⟩:=ih _ h1
    rw [e1,e2]
    exact ⟨rfl,rfl⟩
  | _=>cases h) r ys h
theorem zbe:∀ {us:List Value} {ns:List Int},IntsAre us ns->Vals (ns.map V.int) us
 | _,_,.nil=>.nil
 | _,_,.cons i t r=>.cons ⟨t,rfl⟩ (zbe r)
theorem zeE:∀ {us:List Value} {ns:List Str},StrsAre us ns->Vals (ns.map V.str) us
 | _,_,.nil=>.nil
 | _,_,.cons i t r=>.cons ⟨t,rfl⟩ (zeE r)
noncomputable def rSorted (K:W.Frag):List V->Hp->VK->Prop:=fun xs H Q=>∃ a,xs=[.ref a]/\
 ((∃ ns:List Int,ns.length < 64/\SqL K H a (ns.map V.int)/\∀ ns':List Int,ns'.Perm ns->ns'.Pairwise (·<=·)->∀ q,H q=none->Q (.ref q) (upd H q (.lst (ns'.map V.int))))\/
  (∃ zs:List Str,zs.length < 64/\SqL K H a (zs.map V.str)/\∀ zs':List Str,zs'.Perm zs->sortedS zs'=true->∀ q,H q=none->Q (.ref q) (upd H q (.lst (zs'.map V.str)))))
theorem zen:CallR X (.builtin "sorted") (rSorted X.K):=by
 intro pins s U H xs us Q I r h
 obtain ⟨a,rfl,h⟩:=h
 cases r with
 | cons r1 r2=>
   cases r2
   cases r1
   rcases h with ⟨ns,h64,hq,q⟩ | ⟨zs,h64,hq,q⟩
   ·obtain ⟨its,r,pl,_⟩:=I.list hq
    have hlen:its.length=ns.length:=by have:=r.length; rw [length_map] at this; exact this.symm
    refine sorted_ints pl.isList (zbq r) (by rw [hlen]; exact h64) fun out ns' a1 a2 a3=>?_
    obtain ⟨e,he⟩:=sortedAll_at s.heap its out
    have hz:ns'.length<=sizeLine:=by rw [a2.length_eq,sizeLine_eq]; lia
    refine ⟨.ref (s.heap.objs.size + 1),_,I.laid (t':=s.toks) (o:=.lst (ns'.map V.int)) (fun b ob w=>sortedAll_old w) (le_succ _) ?_,rfl,q ns' a2 a3 _ (I.hok.fresh (le_succ _))⟩
    exact ⟨by rw [length_map]; exact hz,out.toList,e,zbe a1,by rw [toArray_toList]; exact he⟩
   ·obtain ⟨its,r,pl,_⟩:=I.list hq
    have hlen:its.length=zs.length:=by have:=r.length; rw [length_map] at this; exact this.symm
    refine sorted_strs pl.isList (zb6 r) (by rw [hlen]; exact h64) fun out ns' a1 a2 a3=>?_
    obtain ⟨e,he⟩:=sortedAll_at s.heap its out
    have hz:ns'.length<=sizeLine:=by rw [a2.length_eq,sizeLine_eq]; lia
    refine ⟨.ref (s.heap.objs.size + 1),_,I.laid (t':=s.toks) (o:=.lst (ns'.map V.str)) (fun b ob w=>sortedAll_old w) (le_succ _) ?_,rfl,q ns' a2 a3 _ (I.hok.fresh (le_succ _))⟩
    exact ⟨by rw [length_map]; exact hz,out.toList,e,zeE a1,by rw [toArray_toList]; exact he⟩
theorem zbF:∀ ns:List Int,Reps K F (ns.map V.int) (ns.map D.int)
 | []=>.nil
 | n::ns=>.cons (.int n) (zbF ns)
theorem zei:∀ zs:List Str,(∀ z∈zs,z.cps.toList.length<=16777216)->Reps K F (zs.map V.str) (zs.map fun z=>D.str z.cps.toList)
 | [],_=>.nil
 | z::zs,h=>.cons (.str rfl (h z qo)) (zei zs fun y hy=>h y (qm _ hy))
theorem zdd:∀ {xs:List V} {l:List D} {zs:List Str},Reps K F xs l->xs=zs.map V.str->l=(zs.map fun z=>D.str z.cps.toList)/\∀ z∈zs,z.cps.toList.length<=16777216
 | _,_,[],.nil,_=>⟨rfl,fun _ h=>by cases h⟩
 | _,_,_::_,.nil,h=>by simp at h
 | _,_,[],.cons _ _,h=>by simp at h
 | _,_,z::zs,.cons a b,h=>by
   rw [map_cons] at h
   injection h with h1 h2
   subst h1
   obtain ⟨e,k⟩:=zdd b h2
   cases a with
   | str e1 z1=>
     subst e1
     refine ⟨by rw [e]; rfl,fun y hy=>?_⟩
     rcases mem_cons.mp hy with rfl | hy
     ·exact z1
     ·exact k y hy
theorem zeF:∀ (r:List Str) (p:Str),risingS p r=true->((p::r).map fun z=>D.str z.cps.toList).Pairwise (leD · ·=true)
 | [],p,_=>List.pairwise_singleton _ _
 | x::r,p,h=>by
   have h':(!ltCps x.cps.toList p.cps.toList && risingS x r)=true:=h
   rw [and_eq_true,ltCps_eq] at h'
   have ih:=zeF r x h'.2
   have px:leD (.str p.cps.toList) (.str x.cps.toList)=true:=by rw [zcu]; exact h'.1
   rw [map_cons]
   refine pairwise_cons.mpr ⟨fun d hd=>?_,ih⟩
   rw [map_cons] at hd ih
   rcases mem_cons.mp hd with rfl | hd
   ·exact px
   ·obtain ⟨z,_,rfl⟩:=mem_map.mp hd
    exact zfa.tr _ (.str x.cps.toList) _ trivial trivial trivial px ((pairwise_cons.mp ih).1 _ hd)
theorem zgB:∀ r:List Str,sortedS r=true->(r.map fun z=>D.str z.cps.toList).Pairwise (leD · ·=true)
 | [],_=>.nil
 | x::r,h=>zeF r x h
theorem zeX:DoesB K (rSorted K) bSorted:=by
 intro U O F G H vs ds s Q rel re e hq
 obtain ⟨d,v,rfl,rfl⟩:=arg1 (fun x y r=>by cases x <;> rfl) rfl re e
 cases d with
 | lst l=>
   have e:sortS l=some s:=e
   unfold sortS at e
   split at e
   ·rename_i hc
    cases e
    obtain ⟨a,xs,rfl,h1,r1⟩:=re.1.lst rel.fr
    refine ⟨a,rfl,?_⟩
    cases q1:intsD l with
    | some ns=>
      obtain ⟨e1,e2⟩:=zeI r1 q1
      subst e1
      subst e2
      refine .inl ⟨ns,by have:=hc.1; rwa [length_map] at this,h1,fun ns' p pw q hq'=>?_⟩
      have es:sortD (ns.map D.int)=ns'.map D.int:=zbD zhx (fun d hd=>by obtain ⟨z,_,rfl⟩:=mem_map.mp hd; trivial) (p.map _) (pairwise_map.mpr (pw.imp fun {a b} h=>by rw [zdP]; exact decide_eq_true h))
      rw [es] at hq
      exact hq _ F _ (Same.refl F) (rel.newLD hq' (zbF ns'))
    | none=>
      cases q2:strsD l with
      | none=>rw [q1,q2] at hc; simp at hc
      | some ys=>
        obtain ⟨zs,e1,e2⟩:=zhv r1 q2
        subst e1
        obtain ⟨e3,sm⟩:=zdd r1 rfl
        subst e3
        refine .inr ⟨zs,by have:=hc.1; rwa [length_map] at this,h1,fun zs' p pw q hq'=>?_⟩
        have es:sortD (zs.map fun z=>D.str z.cps.toList)=zs'.map fun z=>D.str z.cps.toList:=zbD zfa (fun d hd=>by obtain ⟨z,_,rfl⟩:=mem_map.mp hd; trivial) (p.map _) (zgB zs' pw)
        rw [es] at hq
        exact hq _ F _ (Same.refl F) (rel.newLD hq' (zei zs' fun z hz=>sm z (p.mem_iff.mp hz)))
   ·cases e
 | _=>cases e
end
section
variable {M:Model} {A:Around} {E:Value->Shared->Prop} {s:Shared} {Q:Value->Shared->Prop}
theorem zeN (hv:∀ id,v≠.builtin id) (h:Q (.bool (v == .bool d)) s):wpAny M A (compareOp .Is v (.bool d)) Q E s:=by
 cases v <;> first | exact qb h | exact absurd rfl (hv _)
end
section
variable {X:Cx} {K:W.Frag}
theorem RelV.bool_iff (r:RelV x v) (d:Bool):(v == Value.bool d)=decide (x=.bl d):=by
 cases x with
 | bl b=>cases r; cases b <;> cases d <;> rfl
 | _=>first
   | (cases r; rfl)
   | (obtain ⟨t,rfl⟩:=r; rfl)
theorem RelV.noBuiltin (r:RelV x v):∀ id,v≠.builtin id:=by
 intro id e
 subst e
 cases x <;> first
  | (cases r; done)
  | (obtain ⟨t,h⟩:=r; cases h)
noncomputable def rIs (neg:Bool):R2:=fun x y H Q=>(y=.non/\Q (.bl (if neg then !decide (x=.non) else decide (x=.non))) H)\/∃ b,y=.bl b/\Q (.bl (if neg then !decide (x=.bl b) else decide (x=.bl b))) H
theorem zmv:OpR X (compareOp .Is) (rIs false):=by
 intro pins s U H x y v u Q I rx ry h
 rcases h with ⟨rfl,q⟩ | ⟨b,rfl,q⟩
 ·exact zna pins s U H x .non v u Q I rx ry ⟨rfl,q⟩
 ·cases ry
  exact zeN (RelV.noBuiltin rx) ⟨.bl _,H,I,by rw [RelV.bool_iff rx]; rfl,q⟩
open Classical in
theorem zlk (r1:Rep K H x p) (r2:Rep K H y q) (e:cIs p q=some k) (hq:Q (.bl (if neg then !k else k)) H):rIs neg x y H Q:=by
 cases q with
 | non=>
   cases r2
   have e':decide (p=.non)=k:=qg e
   have:decide (x=V.non)=k:=by
    rw [<- e']
    cases r1 <;> simp
   exact .inl ⟨rfl,by rw [this]; exact hq⟩
 | bl b=>
   cases r2
   have e':decide (p=.bl b)=k:=qg e
   have:decide (x=V.bl b)=k:=by
    rw [<- e']
    cases r1 <;> simp
   exact .inr ⟨b,rfl,by rw [this]; exact hq⟩
 | _=>cases e
theorem zlN:DoesC K (rIs false) cIs:=fun H x y p q k Q r1 r2 e hq=>zlk r1 r2 e hq
end
mutual
noncomputable def toPy:D->PyData
 | .non=>.none
 | .bl b=>.bool b
 | .int i=>.int i
 | .str l=>.str ⟨l.toArray⟩
 | .tup l=>.tuple (toPys l)
 | .lst l=>.list (toPys l)
 | _=>.none
noncomputable def toPys:List D->List PyData
 | []=>[]
 | d::r=>toPy d::toPys r
end
mutual
noncomputable def showD:D->Bool
 | .non=>true
 | .bl _=>true
 | .int i=>decide (i.natAbs.log2 < 1920)
 | .str _=>true
 | .tup l=>showDs l
 | .lst l=>showDs l
 | _=>false
noncomputable def showDs:List D->Bool
 | []=>true
 | d::r=>showD d && showDs r
end
noncomputable def isSeq:D->Bool
 | .tup _=>true
 | .lst _=>true
 | _=>false
mutual
theorem zcP:∀ d:D,showD d=true->(toPy d).showable=true
 | .non,_=>rfl
 | .bl _,_=>rfl
 | .int i,h=>h
 | .str _,_=>rfl
 | .tup l,h=>by
   have h':showDs l=true:=h
   simpa [toPy,PyData.showable] using zbj l h'
 | .lst l,h=>by
   have h':showDs l=true:=h
   simpa [toPy,PyData.showable] using zbj l h'
 | .dct _ _ _,h=>by cases h
 | .set _,h=>by cases h
 | .exc _ _ _,h=>by cases h
theorem zbj:∀ l:List D,showDs l=true->PyData.showableAll (toPys l)=true
 | [],_=>rfl
 | d::r,h=>by
   rw [showDs,and_eq_true] at h
   rw [toPys,PyData.showableAll,zcP d h.1,zbj r h.2]
   rfl
end
mutual
theorem zek:∀ d:D,(toPy d).hasDict=false
 | .non=>rfl
 | .bl _=>rfl
 | .int i=>rfl
 | .str _=>rfl
 | .tup l=>by simpa [toPy,PyData.hasDict] using zcc l
 | .lst l=>by simpa [toPy,PyData.hasDict] using zcc l
 | .dct _ _ _=>rfl
 | .set _=>rfl
 | .exc _ _ _=>rfl
theorem zcc:∀ l:List D,PyData.hasDictAll (toPys l)=false
 | []=>rfl
 | d::r=>by
   rw [toPys,PyData.hasDictAll,zek d,zcc r]
   rfl
end
mutual
theorem zfP:∀ d:D,(toPy d).depth<=dep d
 | .non=>le_refl _
 | .bl _=>le_refl _
 | .int i=>le_refl _
 | .str _=>le_refl _
 | .tup l=>by
   have:=zcC l
   simp only [toPy,PyData.depth,dep]
   lia
 | .lst l=>by
   have:=zcC l
   simp only [toPy,PyData.depth,dep]
   lia
 | .dct _ _ _=>le_refl _
 | .set _=>le_refl _
 | .exc _ _ _=>le_refl _
theorem zcC:∀ l:List D,PyData.depthAll (toPys l)<=deps l
 | []=>le_refl _
 | d::r=>by
   have h1:=zfP d
   have h2:=zcC r
   simp only [toPys,PyData.depthAll,deps]
   lia
end
section
variable {X:Cx} {pins:List (Addr×Obj)} {U:St} {H:Hp} {s:Shared}
theorem zjP (I:Inv X pins U H s) (q:Rep X.K H v d) (r:RelV v u) (h:showD d=true):∃ as,Reads s.heap u (toPy d) as:=by
 refine Rep.rec (motive_1:=fun v d _=>∀ u,RelV v u->showD d=true->∃ as,Reads s.heap u (toPy d) as) (motive_2:=fun vs l _=>∀ us,Vals vs us->showDs l=true->∃ as,ReadsAll s.heap us (toPys l) as) ?_ ?_ ?_ ?_ ?_ ?_ ?_ ?_ ?_ ?_ ?_ ?_ q u r h
 ·intro u r _; cases r; exact ⟨[],.none⟩
 ·intro b u r _; cases r; exact ⟨[],.bool b⟩
 ·intro i u r _; obtain ⟨t,rfl⟩:=r; exact ⟨[],.int i t⟩
 ·intro x l e z u r _
  obtain ⟨t,rfl⟩:=r
  subst e
  exact ⟨[],.str _ t⟩
 ·intro a xs ds e q ih u r h
  cases r
  obtain ⟨its,rv,⟨o,g,c,n,dt⟩,_⟩:=I.tuple (SqT.of e)
  obtain ⟨as,ra⟩:=ih _ rv h
  exact ⟨as,.tuple g c dt ra⟩
 ·intro a xs ds e q ih u r h
  cases r
  obtain ⟨its,rv,⟨o,n,g,c,_,dt⟩,_⟩:=I.list e
  obtain ⟨as,ra⟩:=ih _ rv h
  exact ⟨_::as,.list g c dt ra⟩
 ·intro _ _ _ _ _ _ _ _ _ _ h; cases h
 ·intro _ _ _ _ _ _ _ _ _ _ h; cases h
 ·intro _ _ _ _ _ _ _ _ h; cases h
 ·intro _ _ _ _ _ _ _ _ _ _ _ h; cases h
 ·intro us r _; cases r; exact ⟨[],.nil⟩
 ·intro x d xs ds _ _ i1 i2 us r h
  rw [showDs,and_eq_true] at h
  cases r with
  | cons r1 r2=>
    obtain ⟨as,h1⟩:=i1 _ r1 h.1
    obtain ⟨bs,h2⟩:=i2 _ r2 h.2
    exact ⟨as++bs,.cons h1 h2⟩
end
end FL
end
section
namespace FL
open PySem
noncomputable def atD (l m:List Nat) (i:Nat):Bool:=decide (i + m.length<=l.length) && decide ((l.drop i).take m.length=m)
noncomputable def findD (l m:List Nat):Option Nat:=(List.range (l.length + 1)).find? (atD l m)
noncomputable def bListA:List D->Option S
 | [.tup l]=>some (.lst (l.map .sh))
 | [.lst l]=>some (.lst (l.map .sh))
 | [.str l]=>if l.length<=big then some (.lst (l.map fun c=>.sh (.str [c]))) else none
 | _=>none
theorem find?_first (h:i < n) (hp:p i=true) (hn:∀ k,k < i->p k=false):(List.range n).find? p=some i:=by
 first | rfl | assumption | (simp_all; done)
theorem find?_not (hn:∀ k,p k=false):(List.range n).find? p=none:=by
 grind
end FL
end
section
namespace FL
open PySem PySem.Spec PyProof.Rows L2
section
variable {X:Cx} {K:W.Frag}
theorem zkr:StrLaws.At x y x.length i↔atD x.cps.toList y.cps.toList i=true:=by
 have h1:x.length=x.cps.toList.length:=by show x.cps.size=_; rw [length_toList]
 have h2:y.length=y.cps.toList.length:=by show y.cps.size=_; rw [length_toList]
 unfold StrLaws.At atD Builtin.Str.subAt
 rw [and_eq_true,decide_eq_true_eq,decide_eq_true_eq,h1,h2,beq_iff_eq]
 refine and_congr_right fun _=>?_
 rw [<- Array.toList_inj,Array.toList_extract,List.extract_eq_take_drop]
 have:i + y.cps.toList.length - i=y.cps.toList.length:=by lia
 rw [this]
theorem zkZ (x y:Str):Txt.find x y=(match findD x.cps.toList y.cps.toList with | some i=>(i:Int) | none=>-1):=by
 have hn:∀ {i},¬ StrLaws.At x y x.length i->atD x.cps.toList y.cps.toList i=false:=fun {i} h=>by
  cases q:atD x.cps.toList y.cps.toList i with
  | false=>rfl
  | true=>exact absurd (zkr.mpr q) h
 rcases find_whole x y with ⟨e,h⟩ | ⟨i,e,hi,h⟩
 ·rw [e]
  unfold findD
  rw [find?_not fun k=>hn (h k)]
 ·rw [e]
  unfold findD
  have h3:=hi.1
  have h1:x.length=x.cps.toList.length:=by show x.cps.size=_; rw [length_toList]
  rw [find?_first (i:=i) (by rw [<- h1]; lia) (zkr.mp hi) fun k hk=>hn (h k hk)]
end
section
variable {X:Cx} {K:W.Frag} {p pos:Pos} {e:Expr} {es:List Expr} {wa:WA}
noncomputable def rListS:List V->Hp->VK->Prop:=fun xs H Q=>∃ x:Str,xs=[.str x]/\x.length<=sizeLine/\∀ l,H l=none->Q (.ref l) (upd H l (.lst (x.cps.toList.map fun c=>.str ⟨#[c]⟩)))
theorem za6:∀ {xs:List V} {us:List Value},xs.length=us.length->(∀ (j:Nat) x u,xs[j]?=some x->us[j]?=some u->RelV x u)->Vals xs us
 | [],[],_,_=>.nil
 | [],_::_,h,_=>by simp at h
 | _::_,[],h,_=>by simp at h
 | x::xs,u::us,h,k=>.cons (k 0 x u rfl rfl) (za6 (by simpa using h) fun j x' u' h1 h2=>k (j + 1) x' u' (by simpa using h1) (by simpa using h2))
theorem zc5 (hc:X.calm=true):CallR X (.type "list") rListS:=by
 intro pins s U H xs us Q I r h
 obtain ⟨x,rfl,hz,q⟩:=h
 obtain ⟨u,rfl,rx⟩:=vals1 r
 obtain ⟨t,rfl⟩:=rx
 refine call_list_str (I.ok.hd hc) x t (hn:=hz) fun h' tk acc' c' hk hS' hacc=>?_
 have hv:Vals (x.cps.toList.map fun c=>V.str ⟨#[c]⟩) acc'.toList:=za6 (by rw [length_map,length_toList,length_toList,hacc.1]) fun j y v h1 h2=>by
  obtain ⟨c,u,hc,rfl⟩:=hacc.2 j v (by rw [<- getElem?_toList]; exact h2)
  rw [getElem?_map,getElem?_toList,hc] at h1
  cases h1
  exact ⟨u,rfl⟩
 refine ⟨.ref s.heap.objs.size,_,I.laid (t':=tk) hk (le_refl _) (show ObjOk X.prog X.w _ h' _ (.lst (x.cps.toList.map fun c=>V.str ⟨#[c]⟩)) from ⟨?_,acc'.toList,c',hv,by simpa using hS'⟩),rfl,q _ (I.hok.fresh (le_refl _))⟩
 rw [length_map,length_toList]; exact hz
noncomputable def rListA (K:W.Frag):List V->Hp->VK->Prop:=fun xs H Q=>rList K xs H Q\/rListS xs H Q
theorem zda:∀ l:List Nat,Reps K F (l.map fun c=>V.str ⟨#[c]⟩) (l.map fun c=>D.str [c])
 | []=>.nil
 | c::l=>.cons (.str rfl (by show 1<=16777216; decide)) (zda l)
theorem zgu:DoesB K (rListA K) bListA:=by
 intro U O F G H vs ds s Q rel re e hq
 obtain ⟨d,v,rfl,rfl⟩:=arg1 (fun x y r=>by cases x <;> rfl) rfl re e
 cases d with
 | tup l=>exact .inl (zex U O F G H [v] [.tup l] s Q rel re e hq)
 | lst l=>exact .inl (zex U O F G H [v] [.lst l] s Q rel re e hq)
 | str l=>
   obtain ⟨x,rfl,e1,z⟩:=re.1.str
   have e:(if l.length<=big then some (S.lst (l.map fun c=>S.sh (.str [c]))) else none)=some s:=e
   split at e
   ·rename_i hb
    cases e
    refine .inr ⟨x,rfl,by rw [zb8 e1]; exact zcn hb,fun p hp=>?_⟩
    rw [e1]
    have h:=rel.newLD hp (zda l)
    rw [map_map] at h
    exact hq (.ref p) F (upd H p (.lst (l.map fun c=>V.str ⟨#[c]⟩))) (Same.refl F) h
   ·cases e
 | _=>cases e
theorem zfB (hc:X.calm=true) (hg:Gl X "list") (hm:X.mg "list"=none) (hv:bootBuiltins "list"=some (.type "list")) (ha:FA X (e::es) wa) (he:starEach (e::es) X.env=(false,eval e X.env)::starEach es X.env:=by rfl) (hpl:(backTo pos (starEach es X.env)).any (·.1)=false:=by rfl):FE X (.Call (.Name "list" p) (e::es) [] pos) (wB bListA wa):=
 zcK (fun pn xe=>CallR.or' zdS (zc5 (X:=wp X pn xe) hc)) zgu hg hm hv ha (by decide) (by decide) he hpl
end
theorem zh2:bootBuiltins "int"=some (.type "int"):=by decide +kernel
theorem zbO:bootBuiltins "tuple"=some (.type "tuple"):=by decide +kernel
theorem zeV:bootBuiltins "list"=some (.type "list"):=by decide +kernel
theorem zku:bootBuiltins "max"=some (.builtin "max"):=by decide +kernel
theorem zft:bootBuiltins "min"=some (.builtin "min"):=by decide +kernel
theorem znB:bootBuiltins "all"=some (.builtin "all"):=by decide +kernel
theorem zcw:bootBuiltins "sorted"=some (.builtin "sorted"):=by decide +kernel
section
variable {X:Cx} {k:Nat}
theorem u32 (hr:Room k A):A.units + 32 < cLine:=by have:=hr.units; lia
theorem u31 (hr:Room k A):A.units + 31 < cLine:=by have:=hr.units; lia
theorem uq {N:List Str} (h:(N.zipIdx.all fun p=>!(p.1 == x) || p.2 == i)=true):∀ j,N[j]?=some x->j=i:=by
 intro j hj
 have hj':j < N.length:=(qh.mp hj).1
 have:=all_eq_true.mp h (x,j) (by rw [List.mem_zipIdx_iff_getElem?]; simpa using hj)
 simpa using this
instance (outer scope:Scope) (N vars:List Str):Decidable (scope.kind=.function/\(∀ x∈scope.names,x.2=.free->outer.names.lookup x.1=some .cell\/outer.names.lookup x.1=some .free)/\(scope.names.map (·.1)).Nodup/\
  (∀ x∈N,x∉vars->(x,NameKind.local)∉scope.names/\(x,NameKind.cell)∉scope.names)/\scope.names.lookup Str.empty=none):=inferInstance
noncomputable def compOk (outer scope:Scope) (N vars:List Str):Bool:=decide (scope.kind=.function/\(∀ x∈scope.names,x.2=.free->outer.names.lookup x.1=some .cell\/outer.names.lookup x.1=some .free)/\(scope.names.map (·.1)).Nodup/\
    (∀ x∈N,x∉vars->(x,NameKind.local)∉scope.names/\(x,NameKind.cell)∉scope.names)/\scope.names.lookup Str.empty=none)
theorem compSc (h:compOk outer scope N vars=true):CompScope outer scope N vars:=
 let ⟨a,b,c,d,e⟩:=of_decide_eq_true h
 ⟨a,b,c,d,e⟩
end
theorem zka {K:W.Frag} (r:SRep K F H v (.sh (.bl true)) fp):v=.bl true:=by
 cases r with
 | sh r=>cases r; rfl
theorem znR {K:W.Frag} (h:∀ ns:List Int,ns.length<=63->wf [.sh (.lst (ns.map .int))] (fun s _=>s=.sh (.bl true)) fun _ _=>False) (H:Hp) (a:Addr) (ns:List Int) (hl:ns.length<=63) (hS:SqL K H a (ns.map V.int)):
  spW K wf 1 [.ref a] H (fun v _=>v=.bl true) fun _ _ _=>False:=by
 refine ⟨H,fun _=>none,[.sh (.lst (ns.map .int))],_,_,rfl,⟨Same.refl H,fun _ _ z=>(nomatch z),[]++[],.so (.sh (.lst hS (zbF ns))) .nil,List.nodup_nil,fun _ z=>(nomatch z)⟩,h ns hl,fun s ss' v F' H' hs sm hlen r=>?_,fun _ _ _ _ _ _ z=>z.elim⟩
 subst hs
 obtain ⟨u,fp,e1,q⟩:=r.at (i:=ss'.length) (s:=.sh (.bl true)) (by
  have:=zax (O:=ss'.map some) (o:=some (.sh (.bl true))) (O':=[])
  simpa using this)
 have hl1:ss'.length=1:=hlen
 rw [hl1] at e1
 have:u=v:=by simpa using e1.symm
 rw [<- this]
 exact zka q
end FL
end
section
namespace FL
end FL
end
section
namespace FL
open PySem PySem.Spec PyProof.Rows L2
section
variable {X:Cx} {a b c:Expr} {wa wb wc:WE} {pos:Pos}
theorem zfT (ha:FE X a wa):FE X (.UnaryOp .USub a pos) (wUn oNeg wa):=fun pn xe hp=>by
 refine PE.imp (zpc zow (ha pn xe hp)) fun U H Q q=>?_
 refine (one (k:=fun x O1 Q E=>need (viewC x O1) fun p=>need (oNeg p) fun s=>Q (.v s) O1) q).mono fun v H1 h1=>?_
 obtain ⟨F,G,O,x,P,PX,rel,hl,rx,hk,hok,hx⟩:=h1
 obtain ⟨p,ep,hk⟩:=zae hk
 obtain ⟨s,es,hk⟩:=zae hk
 obtain ⟨F1,s1,re,r1⟩:=takeC (O':=[]) (U':=[]) rel hl rx ep
 cases p with
 | int i=>
   cases es
   have e:=re.int
   subst e
   exact ⟨i,rfl,hok _ O _ F1 H1 hk s1 ((show Rel _ O U F1 G H1 by simpa using r1).push (.int _)) trivial⟩
 | _=>cases es
end
open AutoSeq1 (wpAny_loadPart')
section
variable {prog:Program} {w:World} {A:Around} {E:Value->Shared->Prop} {s:Shared}
theorem znA (hu:s.heap.IsTupleIter u z n) (hz:s.heap.IsTuple z xs) (hv:xs[n]?=some v) (k:∀ h',h'.IsTupleIter u z (n + 1)->Heap.SameBut u s.heap h'->Q v { s with heap:=h' }):
  wpAny (model prog w) A (Builtin.SmallTypes.nextOf (.ref u)) Q E s:=by
 obtain ⟨ob,e0,e1,e2⟩:=id hu
 obtain ⟨zb,f0,_,zn,f2⟩:=hz
 unfold Builtin.SmallTypes.nextOf
 apply qa
 refine wpAny_callSpecial?_slot (name:=Str.ofString "__next__") hu.typeIs F.slot_tuple_iterator_next (wpAny_call_entry F.slot_tuple_iterator_next hu.typeIs F.entry_tuple_iterator_next ?_ (F.args_tuple_iterator_next_1 _))
 show wpAny _ _ (field (.ref u) 0 >>= _) _ _ _
 apply qa
 refine wpAny_field e0 e2 (x:=.ref z) rfl ?_
 show wpAny _ _ (if (Value.ref z == Value.none)=true then _ else _) _ _ _
 rw [if_neg (show ¬ ((Value.ref z == Value.none)=true) from Bool.false_ne_true)]
 show wpAny _ _ (field (.ref u) 1 >>= _) _ _ _
 apply qa
 refine wpAny_field e0 e2 (x:=.int n 0) rfl ?_
 show wpAny _ _ (seqItems? (.ref z) >>= _) _ _ _
 apply qa
 refine wpAny_seqItems f0 f2 ?_
 simp only [toNat_natCast,hv]
 apply qa
 refine wpAny_setField e0 e2 (by simp) (qb ⟨v,rfl,qb (k _ ⟨_,Heap.get?_update_self _ e0 (Obj.isFreed_of_fields (Obj.data_mapFields e2 _)),(Obj.cls_mapFields ..).trans e1,?_⟩ (Heap.SameBut.update ..))⟩)
 rw [Obj.data_mapFields e2]
 simp [rawInt]
theorem zdc (hh:A.handled=none) (hu:s.heap.IsTupleIter u z n) (hz:s.heap.IsTuple z xs) (hv:xs[n]?=none)
  (k:∀ h' e,Heap.ExtBut u s.heap h'->(∃ o,h'.get? e=some o/\o.cls=.type "StopIteration")->E (.ref e) { s with heap:=h' }):wpAny (model prog w) A (Builtin.SmallTypes.nextOf (.ref u)) Q E s:=by
 obtain ⟨ob,e0,e1,e2⟩:=id hu
 obtain ⟨zb,f0,_,zn,f2⟩:=hz
 unfold Builtin.SmallTypes.nextOf
 apply qa
 refine wpAny_callSpecial?_slot (name:=Str.ofString "__next__") hu.typeIs F.slot_tuple_iterator_next (wpAny_call_entry F.slot_tuple_iterator_next hu.typeIs F.entry_tuple_iterator_next ?_ (F.args_tuple_iterator_next_1 _))
 show wpAny _ _ (field (.ref u) 0 >>= _) _ _ _
 apply qa
 refine wpAny_field e0 e2 (x:=.ref z) rfl ?_
 show wpAny _ _ (if (Value.ref z == Value.none)=true then _ else _) _ _ _
 rw [if_neg (show ¬ ((Value.ref z == Value.none)=true) from Bool.false_ne_true)]
 show wpAny _ _ (field (.ref u) 1 >>= _) _ _ _
 apply qa
 refine wpAny_field e0 e2 (x:=.int n 0) rfl ?_
 show wpAny _ _ (seqItems? (.ref z) >>= _) _ _ _
 apply qa
 refine wpAny_seqItems f0 f2 ?_
 simp only [toNat_natCast,hv]
 apply qa
 apply wpAny_rule
 apply qa
 refine wpAny_setField e0 e2 (by simp) ?_
 show wpAny _ _ (newExc (.type "StopIteration") [] >>= _) _ _ _
 apply qa
 simp only [newExc,newTuple]
 apply qa
 refine wpAny_newObj_type ?_ (by size_fits)
 refine qa (m:=firstArgMember _ _) (wpAny_of_eq (a:=Value.none) (by first | rfl | (simp only [firstArgMember]; rfl)) (wpAny_newObj_type ?_ (by size_fits)))
 simp only [raiseNew]
 apply qa
 refine wpAny_handled ?_
 first | rw [show A.in1.handled=none from hh] | rw [hh]
 exact qa (qb (wpAny_throw (k _ _ (((Heap.SameBut.update ..).extBut.push _).push _) ⟨_,qd _ rfl,rfl⟩)))
end
theorem zhg {prog:Program} {w:World} {A:Around} (hh:A.handled=none) (u z:Addr) (hne:z≠u) (xs:Array Value):
  Draws prog w A u [u,z] xs.size (fun i v=>xs[i]?=some v) (fun i h=>h.IsTupleIter u z i/\h.IsTuple z xs) where
 live:=fun _ _ st=>let ⟨o,e,_⟩:=st.1; ⟨o,e⟩
 frame:=fun _ _ _ st k=>⟨st.1.at fun o e=>k u (by simp) o e,by obtain ⟨o,e,r⟩:=st.2; exact ⟨o,k z (by simp) o e,r⟩⟩
 item:=fun i s Q E hi st k=>znA st.1 st.2 (v:=xs[i]) (by simp [hi]) fun h' a b=>k _ h' s.toks (by simp [hi]) ⟨a,by obtain ⟨o,e,r⟩:=st.2; exact ⟨o,b.extBut _ _ hne e,r⟩⟩ b
 done:=fun s Q E st k=>zdc hh st.1 st.2 (by simp) k
structure Src (P:Program) (w:World) (K:W.Frag) (J:It) (it:Addr) (tn:Nat->Heap->Prop):Prop where
 live:∀ i h,tn i h->∃ o,h.get? it=some o/\(∀ v,o.data≠.cell v)/\o.cls≠.type "enumerate"/\o.cls≠.type "zip"/\o.cls≠.type "tuple"/\o.cls≠.type "list"
 keep:∀ i h h',tn i h->(∀ o,h.get? it=some o->h'.get? it=some o)->tn i h'
 yl:∀ i H x H',J.yld i H x H'->H'=H
 item:∀ (X:Cx),X.prog=P->X.w=w->X.K=K->∀ (i:Nat) (pins:List (Addr×Obj)) (s:Shared) (U:St) (H:Hp) (A:Around),A.handled=none->Inv X pins U H s->tn i s.heap->H it=none->J.go i H->
  ∃ fp n Pr Sx,Draws P w A it fp n Pr Sx/\Sx i s.heap/\i < n/\it∈fp/\(∀ b∈fp,b=it\/(H b≠none/\∃ o,s.heap.get? b=some o/\o.cls=.type "tuple")\/∃ o,s.heap.get? b=some o/\o.cls=.type "list")/\(∀ v,Pr i v->∃ x,RelV x v/\J.yld i H x H)/\∀ h',Sx (i + 1) h'->tn (i + 1) h'
 done:∀ (X:Cx),X.prog=P->X.w=w->X.K=K->∀ (i:Nat) (pins:List (Addr×Obj)) (s:Shared) (U:St) (H:Hp) (A:Around),A.handled=none->Inv X pins U H s->tn i s.heap->J.stop i H->∀ (Q:Value->Shared->Prop) (E:Value->Shared->Prop),
  (∀ h' e,Heap.ExtBut it s.heap h'->(∃ o,h'.get? e=some o/\o.cls=.type "StopIteration")->E (.ref e) { s with heap:=h' })->wpAny (model P w) A (Builtin.SmallTypes.nextOf (.ref it)) Q E s
theorem zjc {P:Program} {w:World} {K:W.Frag} (a it:Addr):Src P w K (Itl K a) it (fun i h=>h.IsListIter it a i) where
 live:=fun i h st=>by
  obtain ⟨o,e,c,d⟩:=st
  exact ⟨o,e,fun v z=>by (rw [d] at z; cases z),by rw [c]; decide,by rw [c]; decide,by rw [c]; decide,by rw [c]; decide⟩
 keep:=fun i h h' st k=>st.at k
 yl:=fun i H x H' h=>h.1
 item:=by
  intro X hP hw hK i pins s U H A hh I st hn hg
  subst hP hw hK
  obtain ⟨xs,x,hq,hx⟩:=hg
  obtain ⟨its,rv,p,hz⟩:=I.list hq
  obtain ⟨lo,l1,l2,l3⟩:=id p.isList
  have hne:a≠it:=fun z=>by
   obtain ⟨o,e,c,d⟩:=id st
   rw [<- z,l1] at e
   cases e
   rw [l2] at c
   exact absurd c (by decide)
  have hl:=rv.length
  have hi:i < its.toArray.size:=by
   have:=(qh.mp hx).1
   rw [size_toArray]; lia
  refine ⟨_,_,_,_,Draws.list hh it a hne its.toArray,⟨st,p.isList⟩,hi,by simp,fun b hb=>?_,fun v hv=>?_,fun h' z=>z.1⟩
  ·simp at hb
   rcases hb with rfl | rfl
   ·exact .inl rfl
   ·exact .inr (.inr ⟨lo,l1,l2⟩)
  ·obtain ⟨u,hu,ru⟩:=rv.get hx
   have:u=v:=by
    have hv':its[i]?=some v:=by simpa using hv
    rw [hu] at hv'; exact qg hv'
   subst this
   exact ⟨x,ru,rfl,fun ys hy=>by rw [I.list_inj hy hq]; exact hx⟩
 done:=by
  intro X hP hw hK i pins s U H A hh I st hg Q E k
  subst hP hw hK
  obtain ⟨xs,hq,hx⟩:=hg
  obtain ⟨its,rv,p,hz⟩:=I.list hq
  have hl:=rv.length
  exact wpAny_nextOf_list_end hh st p.isList (by simp; lia) k
noncomputable def Itu (a:Addr):It:=⟨fun i H=>∃ xs x,H a=some (.tup xs)/\xs[i]?=some x,fun i H x H'=>H'=H/\∀ xs,H a=some (.tup xs)->xs[i]?=some x,fun i H=>∃ xs,H a=some (.tup xs)/\xs.length<=i⟩
theorem zly {P:Program} {w:World} {K:W.Frag} (a it:Addr):Src P w K (Itu a) it (fun i h=>h.IsTupleIter it a i) where
 live:=fun i h st=>by
  obtain ⟨o,e,c,d⟩:=st
  exact ⟨o,e,fun v z=>by (rw [d] at z; cases z),by rw [c]; decide,by rw [c]; decide,by rw [c]; decide,by rw [c]; decide⟩
 keep:=fun i h h' st k=>st.at k
 yl:=fun i H x H' h=>h.1
 item:=by
  intro X hP hw hK i pins s U H A hh I st hn hg
  subst hP hw hK
  obtain ⟨xs,x,hq,hx⟩:=hg
  obtain ⟨its,rv,p,hz⟩:=I.tuple (SqT.of hq)
  obtain ⟨lo,l1,l2,l3⟩:=id p
  have hne:a≠it:=fun z=>by rw [z,hn] at hq; cases hq
  have hl:=rv.length
  have hi:i < its.toArray.size:=by
   grind
  refine ⟨_,_,_,_,zhg hh it a hne its.toArray,⟨st,p⟩,hi,by simp,fun b hb=>?_,fun v hv=>?_,fun h' z=>z.1⟩
  ·grind
  ·obtain ⟨u,hu,ru⟩:=rv.get hx
   have:u=v:=by
    grind
   subst this
   exact ⟨x,ru,rfl,fun ys hy=>by rw [hq] at hy; cases hy; exact hx⟩
 done:=by
  intro X hP hw hK i pins s U H A hh I st hg Q E k
  subst hP hw hK
  obtain ⟨xs,hq,hx⟩:=hg
  obtain ⟨its,rv,p,hz⟩:=I.tuple (SqT.of hq)
  have hl:=rv.length
  exact zdc hh st p (by simp; lia) k
theorem zk9 {P:Program} {w:World} {K:W.Frag} (it:Addr) (x:Str) (t:Tok):Src P w K (Its x) it (fun i h=>h.IsStrIter it (strIterType x) x t i) where
 live:=fun i h st=>by
  obtain ⟨o,e,c,d⟩:=st
  have hc:o.cls=.type "str_ascii_iterator"\/o.cls=.type "str_iterator":=by
   rw [c]; unfold strIterType; split
   ·exact .inl rfl
   ·exact .inr rfl
  grind
 keep:=fun i h h' st k=>by
  obtain ⟨o,e,r⟩:=st
  exact ⟨o,k o e,r⟩
 yl:=fun i H x H' h=>h.1
 item:=by
  intro X hP hw hK i pins s U H A hh I st hn hg
  subst hP hw hK
  have fin:∀ v:Value,(∃ c u,x.cps[i]?=some c/\v=.str ⟨#[c]⟩ u)->∃ y,RelV y v/\(Its x).yld i H y H:=fun v ⟨c,u,e,ev⟩=>⟨.str ⟨#[c]⟩,by rw [ev]; exact ⟨u,rfl⟩,rfl,c,e,rfl⟩
  cases ha:x.cps.all (· < 128)
  ·have e:strIterType x="str_iterator":=by unfold strIterType; rw [ha]; rfl
   rw [e] at st ⊢
   exact ⟨_,_,_,_,Draws.strWide hh it x t,st,hg,by simp,fun b hb=>.inl (by simpa using hb),fin,fun _ z=>z⟩
  ·have e:strIterType x="str_ascii_iterator":=by unfold strIterType; rw [ha]; rfl
   rw [e] at st ⊢
   exact ⟨_,_,_,_,Draws.strAscii hh it x t,st,hg,by simp,fun b hb=>.inl (by simpa using hb),fin,fun _ z=>z⟩
 done:=by
  intro X hP hw hK i pins s U H A hh I st hg Q E k
  have hn:x.cps[i]?=none:=by
   have:x.cps.size<=i:=hg
   simp [this]
  cases ha:x.cps.all (· < 128)
  ·have e:strIterType x="str_iterator":=by unfold strIterType; rw [ha]; rfl
   rw [e] at st
   exact wpAny_nextOf_wide_end hh st hn k
  ·have e:strIterType x="str_ascii_iterator":=by unfold strIterType; rw [ha]; rfl
   rw [e] at st
   exact wpAny_nextOf_ascii_end hh st hn k
end FL
end
section
namespace FL
noncomputable def enumF (k:Nat):List D->List D
 | []=>[]
 | d::l=>.tup [.int k,d]::enumF (k + 1) l
noncomputable def wEnum (a:WE):WI:=fun O Q E=>a O (fun r O1=>need (give r O1) fun p=>need (items p.1.toD) fun l=>Q (enumF 0 l) p.2) E
noncomputable def zipD:List D->List D->List D
 | d::l,e::m=>.tup [d,e]::zipD l m
 | _,_=>[]
theorem zec:∀ (l:List D) (k i:Nat) (d:D),(enumF k l)[i]?=some d->∃ e,l[i]?=some e/\d=.tup [.int ((k + i:Nat):Int),e]
 | [],_,_,_,h=>by simp [enumF] at h
 | e::l,k,0,d,h=>by
   simp [enumF] at h
   exact ⟨e,rfl,by simpa using h.symm⟩
 | e::l,k,i + 1,d,h=>by
   obtain ⟨e',h1,h2⟩:=zec l (k + 1) i d (by simpa [enumF] using h)
   exact ⟨e',by simpa using h1,by rw [h2]; congr 4; lia⟩
theorem zeB:∀ (l:List D) (k:Nat),(enumF k l).length=l.length
 | [],_=>rfl
 | _::l,k=>by simp [enumF,zeB l]
theorem zfY:∀ (l m:List D) (i:Nat) (d:D),(zipD l m)[i]?=some d->∃ e f,l[i]?=some e/\m[i]?=some f/\d=.tup [e,f]
 | [],_,_,_,h=>by simp [zipD] at h
 | _::_,[],_,_,h=>by simp [zipD] at h
 | e::l,f::m,0,d,h=>by
   simp [zipD] at h
   exact ⟨e,f,rfl,rfl,h.symm⟩
 | e::l,f::m,i + 1,d,h=>by
   obtain ⟨e',f',h1,h2,h3⟩:=zfY l m i d (by simpa [zipD] using h)
   exact ⟨e',f',by simpa using h1,by simpa using h2,h3⟩
theorem zfr:∀ (l m:List D),(zipD l m).length=min l.length m.length
 | [],_=>by simp [zipD]
 | _::_,[]=>by simp [zipD]
 | _::l,_::m=>by simp [zipD,zfr l m]
end FL
end
section
namespace FL
open PySem PySem.Spec PyProof.Rows L2
open AutoSeq1 (wpAny_loadPart')
section
variable {X:Cx} {pins:List (Addr×Obj)} {U:St} {H:Hp} {s:Shared} {h':Heap}
theorem zcF {ch:List Addr} (I:Inv X pins U H s) (hf:∀ b∈ch,FpOk X pins H b) (k:∀ b o,b∉ch->s.heap.get? b=some o->h'.get? b=some o):Inv X pins U H { s with heap:=h',toks:=t' }:=by
 have nit:∀ b u,H b=some u->b∉ch:=fun b u e z=>by rw [(hf b z).1] at e; cases e
 refine I.step (g':=s.gens) (d':=s.drawn) (ch:=ch) (fun b hb=>?_) (fun b o _ _ hc e _=>k b o hc e) (fun b o _ _ hc e _=>⟨o.slots,k b o hc e⟩) (fun _ _ _ _ n=>n)
  (fun b o hc e=>⟨o,k b o hc e⟩) (fun _ _ e=>e) (fun _ _ _ e=>e) (fun b ps e=>⟨#[],by rw [e]; simp⟩) (fun m hm=>?_) (fun b u e=>?_) I.bare
 ·obtain ⟨f0,f1,f2,f3,f4,f5⟩:=hf b hb
  exact ⟨f3,f1,f4,f5⟩
 ·obtain ⟨o,es,ep,ho,r⟩:=hm
  exact ⟨o,es,ep,k _ o (fun z=>(hf _ z).2.1 rfl) ho,r⟩
 ·refine (I.hok b u e).stay (fun c v hc q=>k c v ?_ q) (fun _ q=>q) fun _ _ q=>q
  grind
theorem zfC (f:FpOk X pins H b) (h:b≠T):FpOk X pins (L2.upd H T o) b:=⟨by rw [zaf h]; exact f.1,f.2⟩
theorem zct {ch:List Addr} (I:Inv X pins U H s) (hf:∀ b∈ch,FpOk X pins H b) (hl:∀ b∈ch,b < s.heap.objs.size) (hz:xs.length<=sizeLine) (rv:Vals xs us)
  (hT:∃ o,h'.get? s.heap.objs.size=some o/\o.cls=.type "tuple"/\o.dict=none/\∃ n,o.data=.seq us.toArray n) (k:∀ b o,b∉ch->s.heap.get? b=some o->h'.get? b=some o):
  Inv X pins U (L2.upd H s.heap.objs.size (.tup xs)) { s with heap:=h',toks:=t' }:=by
 obtain ⟨o,e,c,nd,n,d⟩:=hT
 have hfree:o.isFreed=false:=by
  obtain ⟨oc,od,odt,osl⟩:=o
  have d':odt=.seq us.toArray n:=d
  subst d'
  rfl
 have I1:Inv X pins U (L2.upd H s.heap.objs.size (.tup xs)) { s with heap:=s.heap.push o }:=I.laid (t':=s.toks) (fun b u q=>qc _ q) (le_refl _) ⟨⟨hz,fun o' q=>by rw [qd _ hfree] at q; cases q; exact nd⟩,us,rv,⟨o,qd _ hfree,c,n,d⟩⟩
 have I2:=zcF I1 (h':=h') (t':=t') (ch:=ch) (fun b hb=>zfC (hf b hb) (ne_of_lt (hl b hb))) fun b u hb q=>by
  rcases Heap.get?_push_cases q with ⟨rfl,rfl⟩ | q
  ·exact e
  ·exact k b u hb q
 exact I2
end
noncomputable def Ite (J:It):It:=⟨J.go,fun i H x H'=>∃ p y,H p=none/\J.yld i H y H/\x=.ref p/\H'=upd H p (.tup [.int i,y]),J.stop⟩
section
variable {prog:Program} {w:World} {A:Around} {E:Value->Shared->Prop} {s:Shared}
theorem zjM (he:IsEnum s.heap e it i old) (hd:∀ (Q:Value->Shared->Prop) (E:Value->Shared->Prop),(∀ h' x,Heap.ExtBut it s.heap h'->(∃ o,h'.get? x=some o/\o.cls=.type "StopIteration")->E (.ref x) { s with heap:=h' })->wpAny (model prog w) A.in1 (Builtin.SmallTypes.nextOf (.ref it)) Q E s)
  (hQ:∀ h',Heap.ExtBut it s.heap h'->Q none { s with heap:=h' }):wpAny (model prog w) A (pyNext (.ref e)) Q E s:=by
 have ty:s.TypeIs (.ref e) "enumerate":=⟨_,he,rfl⟩
 unfold pyNext
 apply qa
 apply wpAny_attempt
 refine wpAny_callSpecial?_slot (name:=Str.ofString "__next__") ty F.slot_enumerate_next (wpAny_call_entry F.slot_enumerate_next ty F.entry_enumerate_next ?_ (F.args_enumerate_next_1 _))
 show wpAny _ _ (field (.ref e) 2 >>= _) _ _ _
 apply qa
 refine wpAny_field he rfl (x:=.ref it) rfl (qa (hd _ _ fun h' x hx1 hx2=>?_))
 obtain ⟨o,ho,hc⟩:=hx2
 exact qa (wpAny_isInstance (T:="StopIteration") (b:=true) ⟨o,ho,hc⟩ isSubtype_stop (qb (hQ _ hx1)))
end
theorem zhS {P:Program} {w:World} {K:W.Frag} {J:It} {it e:Addr} {tn:Nat->Heap->Prop} {elts:List Expr} {k:Nat} {pos:Pos} (S:Src P w K J it tn) (hei:e≠it):
  Turn P w K (.Tuple elts k pos) (Ite J) [e,it] e (fun i h=>(∃ old,IsEnum h e it i old)/\tn i h) where
 mem:=by simp
 obj:=fun i h st b hb=>by
  simp at hb
  rcases hb with rfl | rfl
  ·obtain ⟨old,q⟩:=st.1
   exact ⟨_,q,fun v z=>by cases z⟩
  ·obtain ⟨o,h1,h2,_⟩:=S.live i h st.2
   exact ⟨o,h1,h2⟩
 keep:=fun i h h' st kk=>by
  obtain ⟨⟨old,q⟩,t⟩:=st
  exact ⟨⟨old,kk e (by simp) _ q⟩,S.keep i h h' t fun o q=>kk it (by simp) o q⟩
 item:=by
  intro X hP hw hK hc i pins s U H E I hf st hg
  obtain ⟨⟨old,he⟩,ht⟩:=st
  have hh:X.A.in1.handled=none:=I.ok.hd hc
  obtain ⟨fp,n,Pr,Sx,D,hS,hin,hif,hfp,hv,hs⟩:=S.item X hP hw hK i pins s U H X.A.in1 hh I ht (hf it (by simp)).1 hg
  have hef:e∉fp:=fun z=>by
   grind
  have hel:e < s.heap.objs.size:=qe he
  obtain ⟨oi,hoi,_⟩:=S.live i _ ht
  have hil:it < s.heap.objs.size:=qe hoi
  subst hP hw hK
  refine wpAny_pyNext_enum_itemD (A:=X.A) D he hS hin hei hef fun x h1 tk hPx ho hS1 hT hsz hk=>?_
  obtain ⟨y,ry,hy⟩:=hv x hPx
  refine ⟨_,rfl,wpAny_letOwnedTupleGo_enum ho fun h2 he2 sb=>?_⟩
  have ne:s.heap.objs.size≠e:=ne_of_gt hel
  have I2:Inv X pins U (upd H s.heap.objs.size (.tup [.int i,y])) { s with heap:=h2,toks:=tk + 1 }:=zct I (ch:=[e,it]) (us:=[.int i tk,x]) hf (fun b hb=>by
    simp at hb
    rcases hb with rfl | rfl
    ·exact hel
    ·exact hil) (by show 2<=_; decide) (.cons ⟨_,rfl⟩ (.cons ry .nil)) ⟨_,sb.extBut _ _ ne hT,rfl,rfl,_,rfl⟩ fun b o hb q=>by
   simp at hb
   exact sb.extBut _ _ hb.1 (hk b o hb.1 hb.2 q)
  refine ⟨.ref s.heap.objs.size,_,I2,rfl,⟨s.heap.objs.size,y,I.hok.fresh (le_refl _),hy,rfl,rfl⟩,⟨⟨x,by simpa using he2⟩,S.keep _ _ _ (hs _ hS1) fun o q=>sb.extBut _ _ (Ne.symm hei) q⟩,fun b hb=>?_⟩
  simp at hb
  rcases hb with rfl | rfl
  ·rw [zaf (ne_of_lt hel)]; exact (hf _ (by simp)).1
  ·rw [zaf (ne_of_lt hil)]; exact (hf _ (by simp)).1
 done:=by
  intro X hP hw hK hc i pins s U H E I hf st hg
  obtain ⟨⟨old,he⟩,ht⟩:=st
  have hh:X.A.in1.handled=none:=I.ok.hd hc
  refine zjM he (S.done X hP hw hK i pins s U H X.A.in1 hh I ht hg) fun h' hx=>⟨rfl,zcF I (t':=s.toks) (ch:=[it]) (fun b hb=>hf b (by simp at hb; simp [hb])) fun b o hb q=>hx b o (by simpa using hb) q⟩
 self:=fun A i s Q E st h=>by
  obtain ⟨⟨old,he⟩,_⟩:=st
  exact wpAny_pyIter_enum he h
abbrev enumH (h:Heap) (z:Addr):Heap:=(h.push { cls:=.type "tuple_iterator",data:=.fields #[.ref z,.int 0 0] }).push { cls:=.type "enumerate",data:=.fields #[.none,.bool false,.ref h.objs.size,rawInt 0,.none,.none] }
set_option maxHeartbeats 1000000 in
theorem zgZ (z:Addr) (xs:Array Value) (n:Nat) (dd:Option Addr) (sl:Array (Option Value)):Meets (Builtin.«enumerate.__new__» ⟨[.type "enumerate",.ref z],[]⟩) (fun _ R s=>s.heap.get? z=some { cls:=.type "tuple",dict:=dd,data:=.seq xs n,slots:=sl }/\
  R (.ok (.ret (.ref (s.heap.objs.size + 1)))) { s with heap:=enumH s.heap z }):=
 .of_wp fun prog w A R s hyp=>by
  obtain ⟨hp,g,d,tk,os⟩:=s
  obtain ⟨hl,hr⟩:=hyp
  have ss:=sub_enumerate
  have hz:(hp.push { cls:=.type "tuple_iterator",data:=.fields #[.ref z,.int 0 0] }).objs.size=hp.objs.size + 1:=Heap.size_push ..
  have hr':R (.ok (.ret (.ref (hp.push { cls:=.type "tuple_iterator",data:=.fields #[.ref z,.int 0 0] }).objs.size))) { heap:=enumH hp z,gens:=g,drawn:=d,toks:=tk,os:=os }:=by rw [hz]; exact hr
  have hT:Heap.IsTuple (Shared.heap ⟨hp,g,d,tk,os⟩) z xs:=⟨_,hl,rfl,n,rfl⟩
  wp_walk using wpAny_loadPart' hl
  refine wpAny_stack_any fun st=>qb ?_
  split
  ·rename_i c _ _ _ _ _
   cases (c == Value.type "enumerate") <;> (wp_walk using wpAny_loadPart' hl,wpAny_pyIter_tuple hT; exact ⟨_,rfl,hr'⟩)
  ·wp_walk using wpAny_loadPart' hl,wpAny_pyIter_tuple hT
   exact ⟨_,rfl,hr'⟩
theorem zi4 (hT:s.heap.IsTuple z xs)
  (k:∀ h',IsEnum h' (s.heap.objs.size + 1) s.heap.objs.size 0 .none->h'.IsTupleIter s.heap.objs.size z 0->(∀ b o,s.heap.get? b=some o->h'.get? b=some o)->Q (.ref (s.heap.objs.size + 1)) { s with heap:=h' }):
  wpAny (model prog w) A (call (.type "enumerate") [.ref z]) Q E s:=by
 obtain ⟨⟨c,dd,dt,sl⟩,hl,hc,n,hd⟩:=hT
 have e1:c=.type "tuple":=hc
 have e2:dt=.seq xs n:=hd
 subst e1 e2
 refine callType_new F.called_enumerate (by decide) (F.typeCall_enumerate_1 _) (F.newCall_enumerate_1 _) (fun obj=>F.args_object_init_2 obj _) F.entry_enumerate_new (zgZ z xs n dd sl) ⟨hl,?_⟩
 have hz:(s.heap.push { cls:=.type "tuple_iterator",data:=.fields #[.ref z,.int 0 0] }).objs.size=s.heap.objs.size + 1:=Heap.size_push ..
 have he:IsEnum (enumH s.heap z) (s.heap.objs.size + 1) s.heap.objs.size 0 .none:=by
  have:=qd (s.heap.push { cls:=.type "tuple_iterator",data:=.fields #[.ref z,.int 0 0] }) (o:={ cls:=.type "enumerate",data:=.fields #[.none,.bool false,.ref s.heap.objs.size,rawInt 0,.none,.none] }) rfl
  rw [hz] at this
  exact this
 exact ⟨⟨_,he,rfl⟩,k _ he ⟨_,qc _ (qd _ rfl),rfl,rfl⟩ fun b o x=>qc _ (qc _ x)⟩
noncomputable def iEnum (K:W.Frag) (tl:TA):TI:=fun U H R=>tl U H fun vs H1=>(∃ a,vs=[.ref a]/\(∃ xs,SqL K H1 a xs)/\R (Ite (Itl K a)) H1)\/(∃ a,vs=[.ref a]/\(∃ xs,H1 a=some (.tup xs))/\R (Ite (Itu a)) H1)\/∃ x,vs=[.str x]/\R (Ite (Its x)) H1
section
variable {X:Cx} {elts:List Expr} {kk:Nat} {tpos p pos:Pos} {a:Expr}
theorem zlr (hc:X.calm=true) (hg:Gl X "enumerate") (hm:X.mg "enumerate"=none) (hv:bootBuiltins "enumerate"=some (.type "enumerate")) (hl:PA X [a] tl)
  (hs:starEach [a] X.env=[(false,eval a X.env)]:=by rfl):PI X (.Tuple elts kk tpos) (.Call (.Name "enumerate" p) [a] [] pos) (iEnum X.K tl):=by
 intro pins s U H R I h
 refine wpAny_Call_Name_kw (zcy I hg hm hv ?_ (by decide) (by decide))
 refine PyProof.Rows.callWith_type1 (thn (hl pos pins s U H _ I h) fun us s1 zq=>?_) hs rfl
 obtain ⟨vs,H1,I1,r1,q1⟩:=zq
 have fin:∀ {J:It} {tn:Nat->Heap->Prop} {h':Heap},Src X.prog X.w X.K J s1.heap.objs.size tn->R (Ite J) H1->IsEnum h' (s1.heap.objs.size + 1) s1.heap.objs.size 0 .none->tn 0 h'->(∀ b o,s1.heap.get? b=some o->h'.get? b=some o)->
   wpAny (model X.prog X.w) X.A (pyIter (.ref (s1.heap.objs.size + 1))) (PIE X pins U (.Tuple elts kk tpos) R) X.xe { s1 with heap:=h' }:=fun {J tn h'} S hR he ht kp=>by
  refine wpAny_pyIter_enum (s:={ s1 with heap:=h' }) he ?_
  refine ⟨s1.heap.objs.size + 1,[s1.heap.objs.size + 1,s1.heap.objs.size],_,_,H1,rfl,I1.kept (t':=s1.toks) kp,zhS S (Nat.succ_ne_self _),⟨⟨_,he⟩,ht⟩,fun b hb=>?_,hR⟩
  simp at hb
  rcases hb with rfl | rfl
  ·exact I1.fpOk (le_succ _) (I1.hok.fresh (le_succ _))
  ·exact I1.fpOk (le_refl _) (I1.hok.fresh (le_refl _))
 rcases q1 with ⟨b,e,⟨xs,hq⟩,q⟩ | ⟨b,e,⟨xs,hq⟩,q⟩ | ⟨x,e,q⟩
 ·subst e
  obtain ⟨u,rfl,ru⟩:=vals1 r1
  cases ru
  obtain ⟨its,rv,pl,hz⟩:=I1.list hq
  exact call_enumerate_list pl.isList fun h' he hi _ kp=>fin (zjc b _) q he hi kp
 ·subst e
  obtain ⟨u,rfl,ru⟩:=vals1 r1
  cases ru
  obtain ⟨its,rv,pl,hz⟩:=I1.tuple (SqT.of hq)
  exact zi4 pl fun h' he hi kp=>fin (zly b _) q he hi kp
 ·subst e
  obtain ⟨u,rfl,ru⟩:=vals1 r1
  obtain ⟨t,rfl⟩:=ru
  exact call_enumerate_str fun h' he hi _ kp=>fin (zk9 _ x t) q he hi kp
theorem zcZ {K:W.Frag} (hy:∀ i H x H',J.yld i H x H'->H'=H) (h:ItOk K J l F0):ItOk K (Ite J) (enumF 0 l) F0:=fun i O U F G H sm rel=>by
 obtain ⟨h1,h2⟩:=h i O U F G H sm rel
 refine ⟨fun d hd=>?_,fun hl=>h2 (by rw [zeB] at hl; exact hl)⟩
 obtain ⟨e,he,rfl⟩:=zec l 0 i d hd
 obtain ⟨g1,g2⟩:=h1 e he
 refine ⟨g1,fun x H' zq=>?_⟩
 obtain ⟨p,y,hp,hyl,ex,eH⟩:=zq
 subst ex eH
 obtain ⟨F',s1,r1,rp⟩:=g2 y H hyl
 obtain ⟨f0,_,_⟩:=r1.free hp
 refine ⟨upd F' p (.tup [.int i,y]),s1.trans (Same.upd f0),r1.newF hp,?_⟩
 have:=Rep.tup (K:=K) (F:=upd F' p (.tup [.int i,y])) (a:=p) (xs:=[.int i,y]) (ds:=[.int i,e]) zai (.cons (.int i) (.cons (rp.mono (Same.upd f0)) .nil))
 simpa using this
theorem zjN {K:W.Frag} {a:Addr} (e:F0 a=some (.tup xs)) (r:Reps K F0 xs l):ItOk K (Itu a) l F0:=fun i O U F G H sm rel=>by
 have e':H a=some (.tup xs):=(sm.trans rel.fr) _ _ e
 refine ⟨fun d hd=>?_,fun h=>⟨xs,e',by rw [r.len]; exact h⟩⟩
 obtain ⟨x,hx,rx⟩:=r.get hd
 refine ⟨⟨xs,x,e',hx⟩,fun y H' hy=>?_⟩
 obtain ⟨rfl,hy⟩:=hy
 have:x=y:=qg (hx.symm.trans (hy xs e'))
 subst this
 exact ⟨F,Same.refl F,rel,rx.mono sm⟩
theorem zch:bootBuiltins "enumerate"=some (.type "enumerate"):=by decide +kernel
theorem ziN (hc:X.calm=true) (hg:Gl X "enumerate") (hm:X.mg "enumerate"=none) (hv:bootBuiltins "enumerate"=some (.type "enumerate")) (ha:FE X a we) (hs:starEach [a] X.env=[(false,eval a X.env)]:=by rfl):
  FI X (.Tuple elts kk tpos) (.Call (.Name "enumerate" p) [a] [] pos) (wEnum we):=fun pn xe hp=>by
 refine PI.imp (zlr (X:=wp X pn xe) hc hg hm hv (zaa ha zab hs pn xe hp) hs) fun U H R q=>?_
 obtain ⟨F,G,O,P,PX,rel,hw,hok,hx⟩:=q
 refine ⟨F,G,O,fun rs O1=>match rs with | [r]=>(need (give r O1) fun p=>need (items p.1.toD) fun l=>P (enumF 0 l) p.2) | _=>False,PX,rel,hw,fun rs O1 vs F1 H1 hk s1 r1 hl rv=>?_,hx⟩
 match rs,vs,rv,r1,hk with
 | [r],[v],rv,r1,hk=>
   dsimp only at hk
   obtain ⟨⟨s,O2⟩,eg,hk⟩:=zae hk
   obtain ⟨l,el,hk⟩:=zae hk
   obtain ⟨F2,s2,l2,r2⟩:=giveR (O':=[]) (U':=[]) r1 hl rv.1 eg
   obtain ⟨F3,s3,rp,r3⟩:=Rel.giveD (O:=O2) (vs:=[v]) (ss:=[s]) r2 (l2.trans hl)
   have sm:=s1.trans (s2.trans s3)
   cases rp with
   | cons a0 b0=>
     have el':items s.toD=some l:=el
     generalize s.toD=d at a0 el'
     cases a0 with
     | lst e0 r0=>
       cases el'
       exact .inl ⟨_,rfl,⟨_,SqL.mono r3.fr e0⟩,hok _ O2 F3 H1 _ hk sm r3 (zcZ (fun _ _ _ _ z=>z.1) (zem e0 r0))⟩
     | tup e0 r0=>
       cases el'
       exact .inr (.inl ⟨_,rfl,⟨_,r3.fr _ _ e0⟩,hok _ O2 F3 H1 _ hk sm r3 (zcZ (fun _ _ _ _ z=>z.1) (zjN e0 r0))⟩)
     | str e0 z0=>
       cases el'
       exact .inr (.inr ⟨_,rfl,hok _ O2 F3 H1 _ hk sm r3 (zcZ (fun _ _ _ _ z=>z.1) (zgf e0))⟩)
     | _=>cases el'
 | [],_,_,_,hk=>exact hk.elim
 | [_],[],rv,_,_=>exact rv.elim
 | [_],_::_::_,rv,_,_=>exact rv.2.elim
 | _::_::_,_,_,_,hk=>exact hk.elim
end
end FL
end
section
namespace FL
open PySem PySem.Spec PyProof.Rows L2
theorem zit (hr:Room k A):A.mark none=A:=by
 first | rfl | assumption | (simp_all; done)
end FL
end
section
namespace FL
open Classical in
noncomputable def fIx (ks:List D) (k:D):Option Nat:=ks.findIdx? fun x=>decide (x=k)
noncomputable def dputS (t:Bool) (ks:List D) (l:List S) (k:D) (s:S):S:=match fIx ks k with
 | some i=>.dct t ks (l.set i s)
 | none=>.dct t (ks++[k]) (l++[s])
noncomputable def wDput (j:Nat) (i e:WE):WS:=fun D O=>e O (fun r O1=>wVar j O1 (fun x O2=>i O2 (fun y O3=>need (view y O3) fun q=>need (give r O3) fun p=>match x,slot p.2 j with
 | .loc k,some (.dct t ks l)=>k=j/\isKey t q=true/\ks.Nodup/\ks.length < big/\D.nx (p.2.set j (some (dputS t ks l q p.1)))
 | _,_=>False) D.ex) D.ex) D.ex
end FL
end
section
namespace FL
open PySem PySem.Spec PyProof.Rows L2
theorem zf8 (h:fIx ks k=some i):ks[i]?=some k:=by
 unfold fIx at h
 rw [List.findIdx?_eq_some_iff_getElem] at h
 obtain ⟨hi,h1,_⟩:=h
 rw [qi hi]
 congr 1
 simpa using h1
theorem zjs (h:fIx ks k=none):k∉ks:=by
 unfold fIx at h
 grind
section
variable {κ:Type} [DecidableEq κ] {kd:κ->D} (inj:∀ a b,kd a=kd b->a=b)
include inj
theorem zjt {kvs:List (κ×V)} {k:κ} {v:V} {i:Nat} (hn:(kvs.map fun p=>kd p.1).Nodup) (h:(kvs.map fun p=>kd p.1)[i]?=some (kd k)):putK kvs k v=kvs.set i (k,v):=by
 have hi:i < kvs.length:=by
  have:=(qh.mp h).1
  simpa using this
 have hk:kvs[i].1=k:=by
  rw [getElem?_map,qi hi] at h
  exact inj _ _ (qg h)
 have hany:(kvs.any fun kv=>decide (kv.1=k))=true:=List.any_eq_true.mpr ⟨kvs[i],getElem_mem hi,by simp [hk]⟩
 unfold putK
 rw [if_pos hany]
 apply ext_getElem?
 intro j
 rw [getElem?_map,getElem?_set]
 by_cases hj:i=j
 ·subst hj
  rw [qi hi]
  simp [hk]
  exact hi
 ·rw [if_neg hj]
  cases q:kvs[j]? with
  | none=>rfl
  | some p=>
    have hne:¬ p.1=k:=fun z=>by
     apply hj
     have h2:(kvs.map fun p=>kd p.1)[j]?=some (kd k):=by rw [getElem?_map,q,<- z]; rfl
     exact (List.getElem?_inj (by simpa using hi) hn).mp (h.trans h2.symm)
    simp [hne]
omit inj in
theorem zjI {kvs:List (κ×V)} {k:κ} {v:V} (h:kd k∉kvs.map fun p=>kd p.1):putK kvs k v=kvs++[(k,v)]:=by
 unfold putK
 grind
theorem zil {kvs:List (κ×V)} {k:κ} {v:V} {ks:List D} (hks:ks=kvs.map fun p=>kd p.1) (hn:ks.Nodup):
  (∀ m,fIx ks (kd k)=some m->ks=(putK kvs k v).map (fun p=>kd p.1)/\(kvs.map (·.2)).set m v=(putK kvs k v).map (·.2))/\(fIx ks (kd k)=none->ks++[kd k]=(putK kvs k v).map (fun p=>kd p.1)/\kvs.map (·.2)++[v]=(putK kvs k v).map (·.2)):=by
 subst hks
 refine ⟨fun m hm=>?_,fun hm=>?_⟩
 ·have h:=zf8 hm
  rw [zjt inj hn h,map_set,map_set]
  refine ⟨?_,rfl⟩
  apply ext_getElem?
  intro j
  rw [getElem?_set]
  by_cases hj:m=j
  ·subst hj; rw [if_pos rfl,if_pos (qh.mp h).1,h]
  ·rw [if_neg hj]
 ·rw [zjI (zjs hm),map_append,map_append]
  exact ⟨rfl,rfl⟩
end
inductive DOb (ks:List D) (xs:List V):Bool->HO->Prop
 | k {kvs:List (Key×V)}:ks=kvs.map (fun p=>keyD p.1)->xs=kvs.map (·.2)->DOb ks xs false (.dK kvs)
 | t {kvs:List (List Key×V)}:ks=kvs.map (fun p=>D.tup (p.1.map keyD))->xs=kvs.map (·.2)->DOb ks xs true (.dT kvs)
section
variable {K:W.Frag} {F H G:Hp} {U:St} {O:Env}
theorem zdE (r:SRep K F H v (.dct t ks l) fp):∃ a o xs fl,v=.ref a/\fp=a::fl/\H a=some o/\DOb ks xs t o/\SReps K F H xs l fl:=by
 cases r with
 | dK e q r=>exact ⟨_,_,_,_,rfl,rfl,e,.k q rfl,r⟩
 | dT e q r=>exact ⟨_,_,_,_,rfl,rfl,e,.t q rfl,r⟩
theorem DOb.mk {a:Addr} {o:HO} {t:Bool} {ks:List D} {xs:List V} {l:List S} {fl:List Addr} (d:DOb ks xs t o) (e:H a=some o) (r:SReps K F H xs l fl):SRep K F H (.ref a) (.dct t ks l) (a::fl):=by
 cases d with
 | k q z=>subst z; exact .dK e q r
 | t q z=>subst z; exact .dT e q r
theorem DOb.len {o:HO} {t:Bool} {ks:List D} {xs:List V} (d:DOb ks xs t o):ks.length=xs.length:=by
 cases d with
 | k q z=>subst z; subst q; simp
 | t q z=>subst z; subst q; simp
theorem DOb.put {a:Addr} {o:HO} {t:Bool} {ks:List D} {xs:List V} {y v:V} {q:D} (d:DOb ks xs t o) (e:H a=some o) (r:Rep K H y q) (hk:isKey t q=true) (hn:ks.Nodup) (hb:ks.length < sizeLine):
  ∃ o',DPut H a y v (upd H a o')/\(∀ m,fIx ks q=some m->DOb ks (xs.set m v) t o')/\(fIx ks q=none->DOb (ks++[q]) (xs++[v]) t o'):=by
 cases d with
 | @k kvs h1 h2=>
   subst h2
   obtain ⟨key,rfl,rfl⟩:=zcX r hk
   obtain ⟨p1,p2⟩:=zil (fun _ _=>zbA) (k:=key) (v:=v) h1 hn
   exact ⟨_,.inl ⟨kvs,key,e,rfl,by rw [h1,length_map] at hb; exact hb,rfl⟩,fun m hm=>.k (p1 m hm).1 (p1 m hm).2,fun hm=>.k (p2 hm).1 (p2 hm).2⟩
 | @t kvs h1 h2=>
   subst h2
   cases r with
   | tup e1 q=>
     obtain ⟨keys,rfl,rfl⟩:=ze6 q hk
     obtain ⟨p1,p2⟩:=zil (kd:=fun l:List Key=>D.tup (l.map keyD)) (fun a b z=>zbX (D.tup.inj z)) (k:=keys) (v:=v) h1 hn
     exact ⟨_,.inr ⟨kvs,keys,_,e,rfl,e1,by rw [h1,length_map] at hb; exact hb,rfl⟩,fun m hm=>.t (p1 m hm).1 (p1 m hm).2,fun hm=>.t (p2 hm).1 (p2 hm).2⟩
   | _=>cases hk
theorem Rel.dct {D:Addr} (r:Rel K (O++[some s]) (U++[some v]) F G H) (hs:slot O n=some (.dct t ks l)) (hU:U[n]?=some (some (.ref D))) (hD:H D=some o) (ho:DOb ks xs t o) (ho':DOb ks' xs' t o')
  (hin:∀ (H':Hp) (fl fs:List Addr),SReps K F H' xs l fl->SRep K F H' v s fs->∃ fl' rest,SReps K F H' xs' l' fl'/\(fl'++rest).Perm (fl++fs)):
  Rel K (O.set n (some (.dct t ks' l'))) U F G (upd H D o'):=by
 have hl:=len1 r
 obtain ⟨fp,e,nd,ap⟩:=r.en
 obtain ⟨f1,f2,rfl,a,b⟩:=e.cut hl
 obtain ⟨v',fa,fi,fb,e1,rfl,q,up⟩:=a.at hs
 rw [hU] at e1
 have e2:V.ref D=v':=by simpa using e1
 subst e2
 obtain ⟨a',o2,xs2,fl,z1,rfl,hD2,ho2,rl⟩:=zdE q
 cases z1
 rw [hD] at hD2
 cases hD2
 have ex:xs2=xs:=by
  cases ho with
  | k _ z=>cases ho2 with | k _ z'=>rw [z,z']
  | t _ z=>cases ho2 with | t _ z'=>rw [z,z']
 subst ex
 cases b with
 | so sr nl=>
   cases nl
   rename_i fs
   obtain ⟨n1,n2,n12⟩:=nodup_append.mp nd
   obtain ⟨na,nib,nab⟩:=nodup_append.mp n1
   obtain ⟨ni,nb,nib⟩:=nodup_append.mp nib
   obtain ⟨nD,nfl⟩:=nodup_cons.mp ni
   have hDa:D∉fa:=fun z=>nab D z D (qk _ qo) rfl
   have hDb:D∉fb:=fun z=>nib D qo D z rfl
   have hDs:D∉fs:=fun z=>n12 D (qj _ (qk _ qo)) D (by simpa using z) rfl
   have apD:=ap D (qk _ (qj _ (qk _ qo)))
   have ne:∀ {l:List Addr},D∉l->∀ x∈l,upd H D o' x=H x:=fun h x hx=>zaf fun z=>h (z ▸ hx)
   obtain ⟨fl',rest,rl',pm⟩:=hin (upd H D o') fl fs (rl.mono (Same.refl F) (ne nD)) (sr.mono (Same.refl F) (ne hDs))
   have a2:=up (F':=F) (H':=upd H D o') (o:=some (.dct t ks' l')) (u:=some (.ref D)) (Same.refl F) (fun x hx=>zaf fun z=>(mem_append.mp hx).elim (fun w=>hDa (z ▸ w)) fun w=>hDb (z ▸ w)) (.so (ho'.mk zai rl') .nil)
   rw [zcm hU] at a2
   have p:(fa++((D::(fl'++rest))++[]++fb)).Perm (fa++((D::fl)++fb)++(fs++[])):=by
    refine (List.Perm.append_left _ (List.Perm.append_right _ (List.Perm.append_right _ (List.Perm.cons _ pm)))).trans ?_
    simp only [append_nil,append_assoc,cons_append]
    refine List.Perm.append_left _ (List.Perm.cons _ (List.Perm.append_left _ perm_append_comm))
   have sb:List.Sublist (fa++((D::fl')++[]++fb)) (fa++((D::(fl'++rest))++[]++fb)):=by
    simp only [append_nil,append_assoc,cons_append]
    exact List.Sublist.append (List.Sublist.refl _) (List.Sublist.cons_cons _ (List.Sublist.append (List.Sublist.refl _) (List.sublist_append_right _ _)))
   refine ⟨Same.updR r.fr apD.1,fun x o w=>?_,_,a2,sb.nodup (p.nodup_iff.mpr nd),fun x hx=>ap x (p.mem_iff.mp (sb.subset hx))⟩
   have hx:x≠D:=fun z=>by rw [z,apD.2] at w; cases w
   rw [zaf hx]
   exact r.gr x o w
theorem Rel.dput {D:Addr} (r:Rel K (O++[some s]) (U++[some v]) F G H) (hs:slot O n=some (.dct t ks l)) (hU:U[n]?=some (some (.ref D))) (ry:Rep K H y q) (hk:isKey t q=true) (hn:ks.Nodup) (hb:ks.length < big):
  ∃ H',DPut H D y v H'/\Rel K (O.set n (some (dputS t ks l q s))) U F G H':=by
 obtain ⟨v',fp,e1,sr⟩:=(r.drop (len1 r)).at hs
 rw [hU] at e1
 have e2:V.ref D=v':=by simpa using e1
 subst e2
 obtain ⟨a',o,xs,fl,z1,_,hD,ho,rl⟩:=zdE sr
 cases z1
 have hlen:=ho.len
 have hll:=rl.len
 obtain ⟨o',dp,h1,h2⟩:=ho.put (v:=v) hD ry hk hn (by rw [sizeLine_eq]; exact lt_trans hb (by decide))
 refine ⟨_,dp,?_⟩
 cases qf:fIx ks q with
 | some m=>
   have ed:dputS t ks l q s=.dct t ks (l.set m s):=by unfold dputS; rw [qf]
   rw [ed]
   have hml:m < l.length:=by
    have:=(qh.mp (zf8 qf)).1
    lia
   refine r.dct hs hU hD ho (h1 m qf) fun H' fl fs rl sr=>?_
   obtain ⟨ga,gi,gb,rfl,sup⟩:=rl.set hml
   refine ⟨_,gi,sup (fun _ _=>rfl) sr,?_⟩
   simp only [append_assoc]
   exact List.Perm.append_left _ ((List.Perm.append_left _ perm_append_comm).trans (perm_append_comm.trans (by simp)))
 | none=>
   have ed:dputS t ks l q s=.dct t (ks++[q]) (l++[s]):=by unfold dputS; rw [qf]
   rw [ed]
   exact r.dct hs hU hD ho (h2 qf) fun H' fl fs rl sr=>⟨fl++fs,[],SReps.snoc rl sr,by simp⟩
end
section
variable {X:Cx} {ks:List Nat} {pos tpos:Pos}
theorem zh4 (hu:X.A.units + 1 < cLine) (ho:FE X o (wVar j)) (hi:FE X i wi) (he:FE X e we) (hs:swapsWith e (some (.Subscript o i tpos)) pos.line X.env=pure false:=by rfl):FS X ks (.Assign [.Subscript o i tpos] e pos) (wDput j wi we):=fun pn xe hp=>by
 refine PS.imp (zlL (X:=wp X pn xe) hu (ho pn xe hp) (hi pn xe hp) (he pn xe hp) hs) fun D U H q=>?_
 obtain ⟨F,G,O,E,rel,hw,n,b,c,r,x⟩:=q
 have x0:XC (wp X pn xe) (·=U) F G E.ex:=x.mono (fun U2 z=>by rw [z]; exact KP.refl) (Same.refl F) (Same.refl G)
 refine ⟨F,G,O,_,_,rel,hw,fun r O1 v F1 H1 hk s1 r1 rv=>?_,x0⟩
 have l1:=len1 r1
 obtain ⟨G1,rel1,gg,back⟩:=r1.hide l1
 refine ⟨F1,G1,O1,_,_,rel1,hk,fun y O2 o' F2 H2 hk2 s2 r2 rv2=>?_,x0.mono (fun _ z=>z) s1 gg⟩
 have l2:=len1 r2
 obtain ⟨G2,rel2,gg2,back2⟩:=r2.hide l2
 refine ⟨F2,G2,O2,_,_,rel2,hk2,fun z O3 i' F3 H3 hk3 s3 r3 rv3=>?_,x0.mono (fun _ z=>z) (s1.trans s2) (gg.trans gg2)⟩
 have l3:=len1 r3
 obtain ⟨q,eq,hk3⟩:=zae hk3
 obtain ⟨⟨t,O4⟩,eg,hk4⟩:=zae hk3
 have r4:=back (s2.trans s3) (back2 s3 r3)
 simp only [append_assoc,cons_append,nil_append] at r4
 have ri:=look (O':=[slotOf y,slotOf r]) (U':=[some o',some v]) r4 l3 rv3 eq
 have r5:Rel X.K (O3++[slotOf r]) (U++[some v]) F3 G H3:=Rel.mid (O:=O3) (U:=U) (Rel.mid (O:=O3) (U:=U) r4 l3) l3
 obtain ⟨F4,s4,l4,r6⟩:=giveR (O':=[]) (U':=[]) r5 l3 rv eg
 cases y with
 | v y0=>exact hk4.elim
 | loc k=>
   cases qs:slot O4 j with
   | none=>simp only [qs] at hk4
   | some sj=>
     rw [qs] at hk4
     match sj,qs,hk4 with
     | .dct t kk l,qs,⟨ekj,hkey,hnd,hbig,hnx⟩=>
       subst ekj
       have hU:U[k]?=some (some o'):=rv2
       obtain ⟨v',fp,e1,sr⟩:=r6.at (i:=k) (s:=.dct t kk l) (by rw [zbU (zb7 qs)]; exact qs)
       have hkl:k < U.length:=(qh.mp hU).1
       rw [getElem?_append_left hkl,hU] at e1
       have e2:o'=v':=by simpa using e1
       subst e2
       obtain ⟨a,o2,xs,fl,rfl,_,_,_,_⟩:=zdE sr
       obtain ⟨H',dp,r7⟩:=Rel.dput r6 qs hU ri hkey hnd hbig
       exact ⟨a,_,rfl,dp,n _ U F4 _ hnx KP.refl (s1.trans (s2.trans (s3.trans s4))) r7⟩
end
end FL
end
section
namespace FL
noncomputable def wDisp1 (k v:WE):WE:=fun O Q E=>k O (fun x O1=>v O1 (fun y O2=>need (view x O2) fun q=>need (give y O2) fun p=>isKey1 q=true/\Q (.v (.dct false [q] [p.1])) p.2) E) E
end FL
end
section
namespace FL
open PySem PySem.Spec PyProof.Rows L2
theorem zlC:entryFor table "dict_itemiterator.__iter__"=some Builtin.«dict_keyiterator.__iter__»:=entryFor_alias (id':="dict_keyiterator.__iter__") (by kernel_rfl) (by first | rfl | decide +kernel) (by decide +kernel) (by kernel_rfl)
section
variable {X:Cx} {elts:List Expr} {kk:Nat} {tpos apos cpos:Pos} {o:Expr}
theorem zja (hk:FE X k wk) (hv:FE X v wv):FE X (.Dict [some k] [v] pos) (wDisp1 wk wv):=fun pn xe hp=>by
 refine PE.imp (zkV (X:=wp X pn xe) (zjD (hk pn xe hp) (hv pn xe hp) zkE) rfl rfl (by simp) (by show 1<=15; decide)) fun U H Q q=>?_
 obtain ⟨F,G,O,P,PX,rel,hw,hok,hx⟩:=q
 intro p hp
 have r0:=Rel.newO (s:=.dct false [] []) rel hp (.dK (kvs:=[]) zai rfl .nil)
 obtain ⟨G0,rel0,g0,back0⟩:=r0.hide (len1 r0)
 refine ⟨F,G0,O,_,PX,rel0,hw,fun rx O1 vx F1 H1 hk1 s1 r1 rv1=>?_,hx.mono (fun _ z=>z) (Same.refl F) g0⟩
 have l1:=len1 r1
 obtain ⟨G1,rel1,g1,back1⟩:=r1.hide l1
 refine ⟨F1,G1,O1,_,PX,rel1,hk1,fun ry O2 vy F2 H2 hk2 s2 r2 rv2=>?_,hx.mono (fun _ z=>z) s1 (g0.trans g1)⟩
 have l2:=len1 r2
 obtain ⟨q,eq,hk3⟩:=zae hk2
 obtain ⟨⟨t,O3⟩,eg,hkey,hk4⟩:=zae hk3
 have r3:=back0 (s1.trans s2) (back1 s2 r2)
 simp only [append_assoc,cons_append,nil_append] at r3
 -- y,x,the dict
 obtain ⟨F3,s3,l3,r4⟩:=giveR (O':=[slotOf rx,some (.dct false [] [])]) (U':=[some vx,some (.ref p)]) r3 l2 rv2 eg
 have r3':Rel X.K (O2++slotOf rx::[some (.dct false [] [])]) (U++some vx::[some (.ref p)]) F2 G H2:=r3.mid l2
 have rq:=look (O':=[some (.dct false [] [])]) (U':=[some (.ref p)]) r3' l2 rv1 eq
 obtain ⟨key,rfl,rfl⟩:=zcX rq hkey
 have l3':O3.length=U.length:=l3.trans l2
 have r5:Rel X.K (O3++[some t,some (.dct false [] [])]) (U++[some vy,some (.ref p)]) F3 G H2:=by
  have:=Rel.mid (O:=O3++[some t]) (U:=U++[some vy]) (O':=[some (.dct false [] [])]) (U':=[some (.ref p)]) (o:=slotOf rx) (w:=some (kV key)) (by simpa using r4) (by simp [l3'])
  simpa using this
 have r6:=Rel.swap (O1:=[some t]) (U1:=[some vy]) (O2:=[some (.dct false [] [])]) (U2:=[some (.ref p)]) l3' rfl r5
 have r7:Rel X.K ((O3++[some (.dct false [] [])])++[some t]) ((U++[some (.ref p)])++[some vy]) F3 G H2:=by simpa using r6
 have hs7:slot (O3++[some (.dct false [] [])]) O3.length=some (.dct false [] []):=zax (O':=[])
 have hU7:(U++[some (V.ref p)])[O3.length]?=some (some (.ref p)):=by rw [l3']; simp
 have hp2:H2 p=some (.dK []):=by
  obtain ⟨v',fp,e1,sr⟩:=(r7.drop (len1 r7)).at hs7
  rw [hU7] at e1
  have e2:V.ref p=v':=by simpa using e1
  subst e2
  cases sr with
  | @dK _ kvs _ _ fl hH hks rl=>
    first | rfl | assumption | (simp_all; done)
 have r8:=r7.dct (ks':=[keyD key]) (l':=[t]) (o':=.dK [(key,vy)]) hs7 hU7 hp2 (.k rfl rfl) (.k rfl rfl) fun H' fl fs rl sr=>⟨fs++[],[],.cons sr .nil,by cases rl; simp⟩
 refine ⟨hp2,[(key,vy)],rfl,by show 1<=15; decide,?_⟩
 have e9:(O3++[some (S.dct false [] [])]).set O3.length (some (.dct false [keyD key] [t]))=O3++[some (.dct false [keyD key] [t])]:=zbu (O':=[])
 rw [e9] at r8
 exact hok _ O3 _ F3 _ hk4 (s1.trans (s2.trans s3)) r8 trivial
end
section
variable {X:Cx} {K:W.Frag} {p pos:Pos} {e:Expr} {es:List Expr} {wa:WA}
theorem zbq:∀ {us:List Value},Vals (ns.map V.int) us->IntsAre us ns:=by
 induction ns with
 | nil=>intro us r; cases r; exact .nil
 | cons n ns ih=>
   intro us r
   rw [map_cons] at r
   cases r with
   | cons r1 r2=>
     obtain ⟨t,rfl⟩:=r1
     exact .cons _ t (ih r2)
end
end FL
end
section
namespace FL
end FL
end
section
namespace FL
open PySem PySem.Spec PyProof.Rows L2
end FL
end
section
namespace FL
open PySem PySem.W PyProof.Rows
section
variable {n:Nat} {rk:Nat->Int} {α β:Type}
noncomputable def AskOk (n:Nat) (rk:Nat->Int) {α:Type}:KasT α->(α->Prop)->Prop
 | .ret a,P=>P a
 | .ask i j k,P=>i < n/\j < n/\AskOk n rk (k (decide (rk i < rk j))) P
theorem zbp:∀ {t:KasT α},AskOk n rk t (fun a=>AskOk n rk (f a) P)->AskOk n rk (t.bind f) P
 | .ret _,h=>h
 | .ask _ _ _,h=>⟨h.1,h.2.1,zbp h.2.2⟩
noncomputable def kA (rk:Nat->Int) (p:Array Nat) (k:Nat):Int:=rk ((p[k]?).getD 0)
theorem zc7 (p:Array Nat) (k:Nat):rk (p.getD k 0)=kA rk p k:=by unfold kA; rw [Array.getD_eq_getD_getElem?]
noncomputable def InR (n:Nat) (p:Array Nat):Prop:=p.size=n/\∀ k,p.getD k 0 < n
noncomputable def Srt (rk:Nat->Int) (p:Array Nat) (m:Nat):Prop:=∀ a b,a<=b->b < m->kA rk p a<=kA rk p b
noncomputable def Dsc (rk:Nat->Int) (p:Array Nat) (m:Nat):Prop:=∀ a b,a<=b->b < m->kA rk p b<=kA rk p a
theorem zb3 (h:InR n q) (hp:p.Perm q) (hn:0 < n):InR n p:=by
 refine ⟨hp.size_eq.trans h.1,fun k=>?_⟩
 rw [Array.getD_eq_getD_getElem?]
 cases e:p[k]? with
 | none=>exact hn
 | some x=>
   have hm:x∈q:=hp.mem_iff.mp (Array.mem_of_getElem? e)
   obtain ⟨j,hj,ej⟩:=Array.getElem_of_mem hm
   have:=h.2 j
   first | rfl | assumption | (simp_all; done)
theorem zfh (hr:InR n p):∀ (f m:Nat),1<=m->Srt rk p m->(∀ m',m<=m'->m'<=m + f->Srt rk p m'->(m' < m + f->kA rk p m' < kA rk p (m' - 1))->P m')->AskOk n rk (kas_asc p f m) P
 | 0,m,_,hs,h=>h m (le_refl _) (le_refl _) hs fun z=>absurd z (by lia)
 | f + 1,m,h1,hs,h=>by
   refine ⟨hr.2 m,hr.2 (m - 1),?_⟩
   rw [zc7 (rk:=rk),zc7 (rk:=rk)]
   by_cases hc:kA rk p m < kA rk p (m - 1)
   ·rw [decide_eq_true hc]
    exact h m (le_refl _) (by lia) hs fun _=>hc
   ·rw [decide_eq_false hc]
    refine zfh hr f (m + 1) (by lia) (fun a b hab hb=>?_) fun m' h2 h3 h4 h5=>h m' (by lia) (by lia) h4 fun z=>h5 (by lia)
    by_cases hbm:b < m
    ·exact hs a b hab hbm
    ·have:b=m:=by lia
     subst this
     by_cases ha:a=b
     ·rw [ha]; exact Int.le_refl _
     ·have:=hs a (b - 1) (by lia) (by lia)
      lia
theorem zcS (hr:InR n p) (hs:Srt rk p k):∀ (f l r:Nat),l<=r->r<=k->r - l<=f->(∀ a,a < l->kA rk p a<=kA rk p k)->(∀ a,r<=a->a < k->kA rk p k < kA rk p a)->
  (∀ l',l'<=k->(∀ a,a < l'->kA rk p a<=kA rk p k)->(∀ a,l'<=a->a < k->kA rk p k < kA rk p a)->P l')->AskOk n rk (kas_place p k f l r) P
 | 0,l,r,h1,h2,h3,h4,h5,h=>by
   have:l=r:=by lia
   subst this
   exact h l h2 h4 h5
 | f + 1,l,r,h1,h2,h3,h4,h5,h=>by
   unfold kas_place
   by_cases hl:l ≥ r
   ·rw [if_pos hl]
    have:l=r:=by lia
    subst this
    exact h l h2 h4 h5
   ·rw [if_neg hl]
    refine ⟨hr.2 k,hr.2 _,?_⟩
    rw [zc7 (rk:=rk),zc7 (rk:=rk)]
    by_cases hc:kA rk p k < kA rk p ((l + r) / 2)
    ·rw [decide_eq_true hc]
     refine zcS hr hs f l ((l + r) / 2) (by lia) (by lia) (by lia) h4 (fun a h6 h7=>?_) h
     have:=hs _ a h6 h7
     lia
    ·rw [decide_eq_false hc]
     refine zcS hr hs f ((l + r) / 2 + 1) r (by lia) h2 (by lia) (fun a h6=>?_) h5 h
     have:=hs a ((l + r) / 2) (by lia) (by lia)
     lia
theorem zd0 (hk:k < p.size) (hd:d<=k) (j:Nat):kA rk (bubble p k d) j=if j=k - d then kA rk p k else if k - d < j/\j<=k then kA rk p (j - 1) else kA rk p j:=by
 unfold kA
 rw [getElem?_bubble hk d hd j]
 grind
theorem zhX (hn:0 < n):∀ (f:Nat) (p:Array Nat) (k:Nat),InR n p->Srt rk p k->k + f<=n->(∀ p',p'.Perm p->InR n p'->Srt rk p' (k + f)->P p')->AskOk n rk (kas_bin f p k) P
 | 0,p,k,hr,hs,_,h=>h p (Array.Perm.refl _) hr hs
 | f + 1,p,k,hr,hs,hk,h=>by
   unfold kas_bin
   refine zbp (zcS hr hs k 0 k (zero_le _) (le_refl _) (by lia) (fun a z=>absurd z (by lia)) (fun a z1 z2=>absurd z1 (by lia)) fun l hl h1 h2=>?_)
   have hks:k < p.size:=by rw [hr.1]; lia
   have hp:=bubble_perm p k (k - l)
   refine zhX hn f _ (k + 1) (zb3 hr hp hn) (fun a b hab hb=>?_) (by lia) fun p' q1 q2 q3=>h p' (q1.trans hp) q2 (by rw [show k + (f + 1)=k + 1 + f by lia]; exact q3)
   rw [zd0 hks (by lia),zd0 hks (by lia)]
   have ekl:k - (k - l)=l:=by lia
   rw [ekl]
   by_cases ha:a=l
   ·rw [if_pos ha]
    by_cases hb2:b=l
    ·rw [if_pos hb2]; exact Int.le_refl _
    ·rw [if_neg hb2,if_pos ⟨by lia,by lia⟩]
     have:=h2 (b - 1) (by lia) (by lia)
     lia
   ·rw [if_neg ha]
    by_cases ha2:l < a/\a<=k
    ·rw [if_pos ha2,if_neg (by lia),if_pos ⟨by lia,by lia⟩]
     exact hs (a - 1) (b - 1) (by lia) (by lia)
    ·rw [if_neg ha2]
     have hal:a < l:=by lia
     by_cases hb2:b=l
     ·rw [if_pos hb2]; exact h1 a hal
     ·rw [if_neg hb2]
      by_cases hb3:l < b/\b<=k
      ·rw [if_pos hb3]; exact hs a (b - 1) (by lia) (by lia)
      ·rw [if_neg hb3]; exact hs a b hab (by lia)
theorem zeD (hj:j<=p.size) (k:Nat):kA rk (kas_rev p i j) k=if i<=k/\k < j then kA rk p (i + j - 1 - k) else kA rk p k:=by
 unfold kA kas_rev
 rw [getElem?_mirror_all hj]
 by_cases h:i<=k/\k < j
 ·rw [if_pos h,if_pos h]
 ·rw [if_neg h,if_neg h]
theorem zaT (p:Array Nat) (i j:Nat):(kas_rev p i j).Perm p:=mirror_perm ..
theorem zdq (hn:0 < n):∀ (f:Nat) (p:Array Nat) (m q:Nat),InR n p->Dsc rk p m->m + f<=n->q + 1<=m->(∀ a,m - (q + 1)<=a->a < m->kA rk p a=kA rk p (m - 1))->
  (∀ p' m' q',p'.Perm p->InR n p'->Dsc rk p' m'->m'<=m + f->m<=m'->q' + 1<=m'->(∀ a,m' - (q' + 1)<=a->a < m'->kA rk p' a=kA rk p' (m' - 1))->P (p',m',q'))->AskOk n rk (kas_desc f p m q) P
 | 0,p,m,q,hr,hd,_,hq,he,h=>h p m q (Array.Perm.refl _) hr hd (le_refl _) (le_refl _) hq he
 | f + 1,p,m,q,hr,hd,hm,hq,he,h=>by
   unfold kas_desc
   refine ⟨hr.2 m,hr.2 (m - 1),?_⟩
   rw [zc7 (rk:=rk),zc7 (rk:=rk)]
   by_cases hc:kA rk p m < kA rk p (m - 1)
   ·(rw [decide_eq_true hc]; dsimp only; rw [if_pos rfl])
    have go:∀ p2:Array Nat,p2.Perm p->(∀ k,kA rk p2 k=kA rk p k)->AskOk n rk (kas_desc f p2 (m + 1) 0) P:=by
     intro p2 hp hk
     refine zdq hn f p2 (m + 1) 0 (zb3 hr hp hn) (fun a b hab hb=>?_) (by lia) (by lia) (fun a h1 h2=>?_) fun p' m' q' g1 g2 g3 g4 g5 g6 g7=>h p' m' q' (g1.trans hp) g2 g3 (by lia) (by lia) g6 g7
     ·rw [hk,hk]
      by_cases hbm:b < m
      ·exact hd a b hab hbm
      ·have:b=m:=by lia
       subst this
       by_cases ha:a=b
       ·rw [ha]; exact Int.le_refl _
       ·have:=hd a (b - 1) (by lia) (by lia)
        lia
     ·have:a=m + 1 - 1:=by lia
      rw [this]
    by_cases hq0:q > 0
    ·rw [if_pos hq0]
     refine go _ (zaT ..) fun k=>?_
     rw [zeD (by rw [hr.1]; lia)]
     by_cases hk:m - (q + 1)<=k/\k < m
     ·rw [if_pos hk,he k hk.1 hk.2,he _ (by lia) (by lia)]
     ·rw [if_neg hk]
    ·rw [if_neg hq0]
     exact go p (Array.Perm.refl _) fun _=>rfl
   ·(rw [decide_eq_false hc]; dsimp only; rw [if_neg Bool.false_ne_true])
    refine ⟨hr.2 (m - 1),hr.2 m,?_⟩
    rw [zc7 (rk:=rk),zc7 (rk:=rk)]
    by_cases hc2:kA rk p (m - 1) < kA rk p m
    ·(rw [decide_eq_true hc2]; dsimp only; rw [if_pos rfl])
     exact h p m q (Array.Perm.refl _) hr hd (by lia) (le_refl _) hq he
    ·(rw [decide_eq_false hc2]; dsimp only; rw [if_neg Bool.false_ne_true])
     have heq:kA rk p m=kA rk p (m - 1):=by lia
     refine zdq hn f p (m + 1) (q + 1) hr (fun a b hab hb=>?_) (by lia) (by lia) (fun a h1 h2=>?_) fun p' m' q' g1 g2 g3 g4 g5 g6 g7=>h p' m' q' g1 g2 g3 (by lia) (by lia) g6 g7
     ·by_cases hbm:b < m
      ·exact hd a b hab hbm
      ·have:b=m:=by lia
       subst this
       by_cases ha:a=b
       ·rw [ha]; exact Int.le_refl _
       ·have:=hd a (b - 1) (by lia) (by lia)
        lia
     ·show kA rk p a=kA rk p m
      by_cases ha:a=m
      ·rw [ha]
      ·rw [heq]; exact he a (by lia) (by lia)
theorem zkL (hm:m<=p.size) (hd:Dsc rk p m):Srt rk (kas_rev p 0 m) m:=fun a b hab hb=>by
 rw [zeD hm,zeD hm,if_pos ⟨zero_le _,by lia⟩,if_pos ⟨zero_le _,hb⟩]
 exact hd _ _ (by lia) (by lia)
theorem zfJ (hn:0 < n) (hr:InR n p) (hd:Dsc rk p m) (h1:1<=m) (hm:m<=n)
  (h:∀ m' p',p'.Perm p->InR n p'->m<=m'->m'<=n->Srt rk p' m'->P (m',p')):AskOk n rk (kas_tail3 m n p) P:=by
 have hs:=zkL (by rw [hr.1]; exact hm) hd
 have hr2:=zb3 hr (zaT p 0 m) hn
 unfold kas_tail3
 exact zbp (zfh hr2 (n - m) m h1 hs fun m' g1 g2 g3 _=>h m' _ (zaT ..) hr2 g1 (by lia) g3)
theorem zd9 (hn:0 < n) (hr:InR n p) (hd:Dsc rk p (m + 1)) (h1:1<=m) (hm:m + 1<=n)
  (h:∀ m' p',p'.Perm p->InR n p'->1<=m'->m'<=n->Srt rk p' m'->P (m',p')):AskOk n rk (kas_descPart m n p) P:=by
 unfold kas_descPart
 refine zbp (zdq hn (n - (m + 1)) p (m + 1) 0 hr hd (by lia) (by lia) (fun a g1 g2=>by rw [show a=m + 1 - 1 by lia]) fun p' m' q' g1 g2 g3 g4 g5 g6 g7=>?_)
 show AskOk n rk (if q' > 0 then kas_tail3 m' n (kas_rev p' (m' - (q' + 1)) m') else kas_tail3 m' n p') P
 by_cases hq:q' > 0
 ·rw [if_pos hq]
  have hk:∀ k,kA rk (kas_rev p' (m' - (q' + 1)) m') k=kA rk p' k:=fun k=>by
   rw [zeD (by rw [g2.1]; lia)]
   by_cases hk:m' - (q' + 1)<=k/\k < m'
   ·rw [if_pos hk,g7 k hk.1 hk.2,g7 _ (by lia) (by lia)]
   ·rw [if_neg hk]
  refine zfJ hn (zb3 g2 (zaT ..) hn) (fun a b hab hb=>by rw [hk,hk]; exact g3 a b hab hb) (by lia) (by lia) fun m2 p2 e1 e2 e3 e4 e5=>h m2 p2 (e1.trans ((zaT ..).trans g1)) e2 (by lia) e4 e5
 ·rw [if_neg hq]
  exact zfJ hn g2 g3 (by lia) (by lia) fun m2 p2 e1 e2 e3 e4 e5=>h m2 p2 (e1.trans g1) e2 (by lia) e4 e5
theorem zha (hn:2<=n) (hr:InR n p) (h:∀ m' p',p'.Perm p->InR n p'->1<=m'->m'<=n->Srt rk p' m'->P (m',p')):AskOk n rk (kas_count n p) P:=by
 unfold kas_count
 refine zbp (zfh hr (n - 1) 1 (le_refl _) (fun a b hab hb=>by rw [show a=b by lia]; exact Int.le_refl _) fun m g1 g2 g3 g4=>?_)
 by_cases hm:(m == n)=true
 ·rw [if_pos hm]
  have:m=n:=by simpa using hm
  exact h m p (Array.Perm.refl _) hr g1 (by lia) g3
 ·rw [if_neg hm]
  have hne:m≠n:=by simpa using hm
  have hlt:=g4 (by lia)
  by_cases hm1:m > 1
  ·rw [if_pos hm1]
   refine ⟨hr.2 0,hr.2 (m - 1),?_⟩
   rw [zc7 (rk:=rk),zc7 (rk:=rk)]
   by_cases hc:kA rk p 0 < kA rk p (m - 1)
   ·(rw [decide_eq_true hc]; dsimp only; rw [if_pos rfl])
    exact h m p (Array.Perm.refl _) hr g1 (by lia) g3
   ·(rw [decide_eq_false hc]; dsimp only; rw [if_neg Bool.false_ne_true])
    have heq:∀ a,a < m->kA rk p a=kA rk p (m - 1):=fun a ha=>by
     have e1:=g3 0 a (zero_le _) ha
     have e2:=g3 a (m - 1) (by lia) (by lia)
     lia
    have hk:∀ k,kA rk (kas_rev p 0 m) k=kA rk p k:=fun k=>by
     rw [zeD (by rw [hr.1]; lia)]
     grind
    refine zd9 (by lia) (zb3 hr (zaT ..) (by lia)) (fun a b hab hb=>?_) g1 (by lia) fun m2 p2 e1 e2 e3 e4 e5=>h m2 p2 (e1.trans (zaT ..)) e2 e3 e4 e5
    grind
  ·rw [if_neg hm1]
   have:m=1:=by lia
   subst this
   refine zd9 (by lia) hr (fun a b hab hb=>?_) (le_refl _) (by lia) h
   grind
theorem ziA (hn:0 < n):InR n (List.range n).toArray:=by
 refine ⟨by simp,fun k=>?_⟩
 rw [Array.getD_eq_getD_getElem?]
 by_cases hk:k < n
 ·simp [hk]
 ·simp [hk]; exact hn
theorem zjX (hn:2<=n) (h:∀ p,p.Perm (List.range n).toArray->Srt rk p n->P p):AskOk n rk (kas_sort n) P:=by
 unfold kas_sort
 refine zbp (zha hn (ziA (by lia)) fun m p g1 g2 g3 g4 g5=>?_)
 show AskOk n rk (if m < n then kas_bin (n - max m 1) p (max m 1) else .ret p) P
 have hmax:max m 1=m:=by lia
 rw [hmax]
 by_cases hm:m < n
 ·rw [if_pos hm]
  exact zhX (by lia) (n - m) p m g2 g5 (by lia) fun p' e1 e2 e3=>h p' (e1.trans g1) (by rw [show m + (n - m)=n by lia] at e3; exact e3)
 ·rw [if_neg hm]
  have:m=n:=by lia
  subst this
  exact h p g1 g5
end
end FL
end
section
namespace FL
open PySem PySem.Spec PyProof.Rows L2
section
variable {X:Cx} {pins:List (Addr×Obj)} {U:List (Option V)} {H:Hp} {s:Shared} {h':Heap}
theorem zm2 {h:Heap} (x:h.Ns a m) (y:h.Ns a m'):m=m':=by
 obtain ⟨o,es,ep,e,d,_,f⟩:=x
 obtain ⟨o',es',ep',e',d',_,f'⟩:=y
 grind
theorem Inv.laidF (I:Inv X pins U H s) (hn:∀ m,s.heap.Ns X.env.locals m->h'.Ns X.env.locals m) (k:∀ b u,b≠X.env.locals->s.heap.get? b=some u->h'.get? b=some u)
  (hp:s.heap.get? a=none) (new:ObjOk X.prog X.w (upd H a o) h' a o):Inv X pins U (upd H a o) { s with heap:=h',toks:=t' }:=by
 have ha:H a=none:=by
  cases e:H a with
  | none=>rfl
  | some u=>obtain ⟨v,z⟩:=ObjOk.there (I.hok a u e); rw [hp] at z; cases z
 refine I.step (g':=s.gens) (d':=s.drawn) (ch:=[]) (fun _ z=>nomatch z) (fun b ob nL _ _ e _=>k b ob nL e) (fun b ob nL _ _ e _=>⟨ob.slots,k b ob nL e⟩) (fun b ob _ e n=>by rw [zaf (fun z=>by rw [z,hp] at e; cases e)]; exact n)
  (fun b ob _ e=>?_) (fun b xs q=>by rw [zaf (zar q ha)]; exact q) (fun b u xs q=>by rw [zaf (zar q ha)]; exact q) (fun b ps q=>⟨#[],by rw [zaf (zar q ha),q]; simp⟩) hn (fun b ob e=>?_) I.bare
 ·by_cases hb:b=X.env.locals
  ·obtain ⟨m,x,_⟩:=I.loc
   obtain ⟨o',_,_,e',_⟩:=hn m x
   exact ⟨o',by rw [hb]; exact e'⟩
  ·exact ⟨ob,k b ob hb e⟩
 ·by_cases hb:b=a
  ·subst hb; rw [zai] at e; cases e; exact new
  ·rw [zaf hb] at e
   refine (I.hok b ob e).stay (fun c v hc q=>k c v (fun z=>?_) q) (fun c q=>by rw [zaf (zar q ha)]; exact q) fun c xs q=>by rw [zaf (zar q ha)]; exact q
   rw [z] at hc
   rcases hc with r | r
   ·rw [<- r,I.free] at e; cases e
   ·rw [I.free] at r; cases r
end
section
open HT
theorem ziK:∀ l:List Int,lexLt l l=false
 | []=>rfl
 | x::l=>by rw [zaB,if_pos rfl,ziK l]
theorem zdv:∀ k j i:List Int,lexLt k j=true->lexLt i j=false->lexLt k i=true
 | [],[],_,h,_=>by cases h
 | [],_::_,[],_,g=>by cases g
 | [],_::_,_::_,_,_=>rfl
 | _::_,[],_,h,_=>by cases h
 | _::_,_::_,[],_,g=>by cases g
 | x::k,y::j,z::i,h,g=>by
   rw [zaB] at h g ⊢
   by_cases xy:x=y
   ·by_cases zy:z=y
    ·rw [if_pos xy] at h
     rw [if_pos zy] at g
     rw [if_pos (xy.trans zy.symm)]
     exact zdv k j i h g
    ·rw [if_neg zy] at g
     have:=of_decide_eq_false g
     rw [if_neg (by lia)]
     exact decide_eq_true (by lia)
   ·rw [if_neg xy] at h
    have:=of_decide_eq_true h
    by_cases zy:z=y
    ·rw [if_neg (by lia)]
     exact decide_eq_true (by lia)
    ·rw [if_neg zy] at g
     have:=of_decide_eq_false g
     rw [if_neg (by lia)]
     exact decide_eq_true (by lia)
theorem zcp:∀ i j:List Int,lexLt i j=true->lexLt j i=false
 | [],[],h=>by cases h
 | [],_::_,_=>rfl
 | _::_,[],h=>by cases h
 | x::i,y::j,h=>by
   rw [zaB] at h ⊢
   by_cases xy:x=y
   ·rw [if_pos xy] at h
    rw [if_pos xy.symm]
    exact zcp i j h
   ·rw [if_neg xy] at h
    have:=of_decide_eq_true h
    rw [if_neg (by lia)]
    exact decide_eq_false (by lia)
theorem zhK (h:∀ x,p x=true->q x=true):∀ l:List Nat,l.countP p<=l.countP q
 | []=>le_refl _
 | a::l=>by
   rw [countP_cons,countP_cons]
   have:=zhK h l
   cases e:p a with
   | true=>rw [h a e]; lia
   | false=>simp only [false_eq_true,if_false]; lia
theorem zkw (h:∀ x,p x=true->q x=true):∀ l:List Nat,(∃ x,x∈l/\q x=true/\p x=false)->l.countP p < l.countP q
 | [],z=>by obtain ⟨_,z,_⟩:=z; cases z
 | a::l,z=>by
   rw [countP_cons,countP_cons]
   obtain ⟨x,hx,qx,px⟩:=z
   by_cases e:x=a
   ·subst e
    have:=zhK h l
    rw [qx,px]
    simp only [false_eq_true,if_false,if_true]
    lia
   ·have:=zkw h l ⟨x,(mem_cons.mp hx).resolve_left e,qx,px⟩
    cases e:p a with
    | true=>rw [h a e]; lia
    | false=>simp only [false_eq_true,if_false]; lia
noncomputable def rkL (ls:List (List Int)) (i:Nat):Int:=((List.range ls.length).countP fun j=>lexLt (ls.getD j []) (ls.getD i []):Nat)
theorem zmp (hi:i < ls.length):decide (rkL ls i < rkL ls j)=lexLt (ls.getD i []) (ls.getD j []):=by
 unfold rkL
 cases e:lexLt (ls.getD i []) (ls.getD j []) with
 | true=>
   refine decide_eq_true (Int.ofNat_lt.mpr (zkw (fun k hk=>?_) _ ⟨i,mem_range.mpr hi,e,ziK _⟩))
   exact zdv _ _ _ hk (zcp _ _ e)
 | false=>
   refine decide_eq_false fun h=>?_
   have:=zhK (p:=fun k=>lexLt (ls.getD k []) (ls.getD j [])) (q:=fun k=>lexLt (ls.getD k []) (ls.getD i [])) (fun k hk=>zdv _ _ _ hk e) (List.range ls.length)
   lia
end
section
open PySem.W HT
variable {prog:Program} {w:World} {A:Around} {s:Shared} {b:Bool} {Q:Bool->Shared->Prop} {κ:SortKind}
theorem zeR (i:Nat) (r:IntsAre us ns) (r':IntsAre vs ms) (h:Q (lexLt ns ms) s):KatLex prog w A b (decide (ns.length < ms.length)) Q (us.zip vs) i s:=by
 induction r generalizing vs ms i with
 | nil=>cases r' <;> exact kat_nil h
 | @cons n _ _ ns r ih=>cases r' with
   | nil=>exact kat_nil h
   | @cons m _ _ ms r'=>
     have e:decide ((n::ns).length < (m::ms).length)=decide (ns.length < ms.length):=decide_eq_decide.2 Nat.succ_lt_succ_iff
     rw [e]
     refine kat_cons (wpAny_eqBool_int ?_)
     rw [zaB] at h
     by_cases nm:n=m
     ·rw [if_pos nm] at h
      rw [show (n == m)=true by simp [nm]]
      exact kat_yes (ih (i + 1) r' h)
     ·rw [if_neg nm] at h
      rw [show (n == m)=false by simp [nm]]
      refine kat_no ?_
      cases (b && i == 0) with
      | true=>exact oneLt_int h
      | false=>exact kat_one _ _ (PyProof.Rows.lt_int h)
theorem zdj {P:α->Prop} {R:α->Shared->Prop} (hc:∀ i j (C:Bool->Shared->Prop),i < n->j < n->C (decide (rk i < rk j)) s->kas_ask prog w A κ vs i j C s):
  ∀ (t:KasT α),AskOk n rk t P->(∀ a,P a->R a s)->t.kasWp (kas_ask prog w A κ vs) R s
 | .ret a,h,q=>q a h
 | .ask i j k,h,q=>hc i j _ h.1 h.2.1 (zdj hc (k _) h.2.2 q)
end
section
open PySem.W HT
variable {X:Cx} {pins:List (Addr×Obj)} {U:List (Option V)} {H:Hp} {s:Shared}
noncomputable def rest (h₀:Heap) (L:Addr) (h:Heap):List (Addr×Obj):=(List.range h.objs.size).filterMap fun b=>if b=L then none else if (h₀.get? b).isSome then none else (h.get? b).map fun o=>(b,o)
theorem zcr:p∈rest h₀ L h↔h.get? p.1=some p.2/\p.1≠L/\h₀.get? p.1=none:=by
 unfold rest
 rw [mem_filterMap]
 constructor
 ·rintro ⟨b,_,e⟩
  by_cases h1:b=L
  ·rw [if_pos h1] at e; cases e
  ·rw [if_neg h1] at e
   cases h2:h₀.get? b with
   | some o=>rw [h2] at e; cases e
   | none=>
     rw [h2] at e
     simp only [Option.isSome_none,false_eq_true,if_false] at e
     obtain ⟨o,e1,e2⟩:=map_eq_some_iff.mp e
     cases e2
     exact ⟨e1,h1,h2⟩
 ·rintro ⟨e1,e2,e3⟩
  refine ⟨p.1,mem_range.mpr (qe e1),?_⟩
  rw [if_neg e2,e3,e1]
  rfl
theorem zhO:∀ {bs:List Addr} {its:List Value},Vals (bs.map V.ref) its->its=bs.map Value.ref
 | [],_,.nil=>rfl
 | b::bs,_,.cons r t=>by
   have e:_=Value.ref b:=r
   rw [e,zhO t]
   rfl
theorem zep:∀ bs:List Addr,Vals (bs.map V.ref) (bs.map Value.ref)
 | []=>.nil
 | _::bs=>.cons rfl (zep bs)
noncomputable def TupI (h:Heap) (b:Addr) (l:List Int):Prop:=∃ us,IntsAre us l/\IsTup h b us.toArray
theorem katTups:∀ {bs:List Addr} {ls:List (List Int)},Paired (fun b l=>l≠[]/\TupI h b l) bs ls->∃ fs:List Value,KatTups h (bs.map Value.ref) fs/\fs.length=bs.length/\∀ v∈fs,∃ z t,v=Value.int z t
 | _,_,.nil=>⟨[],.nil,rfl,fun _ z=>nomatch z⟩
 | _,_,.cons ⟨hne,us,r,o,e,c,n,d⟩ t=>by
   obtain ⟨fs,t1,t2,t3⟩:=katTups t
   cases r with
   | nil=>exact absurd rfl hne
   | cons i tk r'=>
     refine ⟨_::fs,.cons e c d rfl t1,by simp [t2],fun v hv=>?_⟩
     rcases mem_cons.mp hv with z | z
     ·exact ⟨_,_,z⟩
     ·exact t3 v z
theorem zbQ {R:α->β->Prop}:∀ {l:List α} {m:List β} (i:Nat) (da:α) (db:β),Paired R l m->i < l.length->R (l.getD i da) (m.getD i db)
 | _,_,0,_,_,.cons r _,_=>r
 | _,_,i + 1,da,db,.cons _ t,h=>zbQ i da db t (by simpa using h)
noncomputable def rSortT (K:W.Frag):List V->Hp->VK->Prop:=fun xs H Q=>∃ (a:Addr) (bs:List Addr) (ls:List (List Int)),xs=[.ref a]/\SqL K H a (bs.map V.ref)/\2<=bs.length/\bs.length < 64/\
 Paired (fun b l=>l≠[]/\SqT K H b (l.map V.int)) bs ls/\
 ∀ p:Array Nat,p.Perm (List.range bs.length).toArray->Srt (rkL ls) p bs.length->∀ q,H q=none->Q (.ref q) (upd H q (.lst ((p.toList.map fun i=>bs.getD i 0).map V.ref)))
theorem zey:CallR X (.builtin "sorted") (rSortT X.K):=by
 intro pins s U H xs us Q I r h
 obtain ⟨a,bs,ls,rfl,hq,h2,h64,ht,q⟩:=h
 cases r with
 | cons r1 r2=>
   cases r2
   cases r1
   obtain ⟨its,rv,pl,_⟩:=I.list hq
   have hv:=zhO rv
   subst hv
   obtain ⟨m,F⟩:=I.fr
   have N:News X.base X.env.locals s.heap (rest X.base X.env.locals s.heap):=fun p hp=>zcr.mp hp
   refine kat_sorted F N pl.isList (by rw [length_map]; exact h2) (by rw [length_map]; exact h64) fun D e1 h' F' N' hD=>?_
   have kp:∀ {h':Heap},Fr X.base X.env.locals h' m->News X.base X.env.locals h' (rest X.base X.env.locals s.heap)->∀ b u,b≠X.env.locals->s.heap.get? b=some u->h'.get? b=some u:=fun {h'} F' N' b u hb e=>by
    cases hb0:X.base.get? b with
    | some o=>
      rw [F.keep b o hb0] at e
      rw [<- e]
      exact F'.keep b o hb0
    | none=>exact (N' (b,u) (zcr.mpr ⟨e,hb,hb0⟩)).1
   have tl:∀ {d o news},News X.base X.env.locals h' ((d,o)::news)->News X.base X.env.locals h' news:=fun N p hp=>N p (qm _ hp)
   have hDn:s.heap.get? D=none:=by
    cases e:s.heap.get? D with
    | none=>rfl
    | some u=>
      obtain ⟨_,n1,n2⟩:=N' (D,seqObj "list" #[] e1) qo
      exact absurd (hD (D,u) (zcr.mpr ⟨e,n1,n2⟩)) (lt_irrefl _)
   have tp:Paired (fun b l=>l≠[]/\TupI h' b l) bs ls:=Paired.mapP ht fun b l ⟨hne,hs⟩=>by
    obtain ⟨us,r,⟨o,e,c,n,d⟩,_⟩:=I.tuple hs
    refine ⟨hne,us,zbq r,o,kp F' (tl N') b o (fun z=>?_) e,c,n,d⟩
    obtain ⟨m,⟨o',es,ep,e',d',_⟩,_⟩:=I.loc
    rw [z,e'] at e; cases e
    rw [d'] at d; cases d
   obtain ⟨fs,t1,t2,t3⟩:=katTups tp
   have hll:ls.length=bs.length:=(Paired.length tp).symm
   refine kat_kind (T:=.type "int") t1 (by lia) (fun v hv=>?_) (by rfl) ?_
   ·obtain ⟨z,t,rfl⟩:=t3 v hv
    exact Looks.of_pure rfl
   ·refine zdj (n:=bs.length) (rk:=rkL ls) (P:=fun p=>p.Perm (List.range bs.length).toArray/\Srt (rkL ls) p bs.length) (fun i j C hi hj hc=>?_) _ (by rw [length_map]; exact zjX h2 fun p a b=>⟨a,b⟩) fun p ⟨p1,p2⟩=>?_
    ·rw [zmp (by lia)] at hc
     obtain ⟨_,us,r,o,e,c,n,d⟩:=zbQ i 0 [] tp hi
     obtain ⟨_,us',r',o',e',c',n',d'⟩:=zbQ j 0 [] tp hj
     have g:∀ i,i < bs.length->(bs.map Value.ref).getD i Value.none=.ref (bs.getD i 0):=fun i hi=>by simp [hi]
     unfold kas_ask
     rw [g i hi,g j hj]
     refine kat_lt e d e' d' ?_
     have l1:us.toArray.size=(ls.getD i []).length:=by rw [size_toArray]; exact r.length
     have l2:us'.toArray.size=(ls.getD j []).length:=by rw [size_toArray]; exact r'.length
     rw [l1,l2]
     exact zeR 0 r r' hc
    ·refine KasFin.intro F' N' (.head fun p hp=>ne_of_lt (hD p hp)) fun h3 c F3 N3=>?_
     have eo:(p.toList.map fun i=>(bs.map Value.ref).getD i Value.none)=(p.toList.map fun i=>bs.getD i 0).map Value.ref:=by
      rw [map_map]
      refine map_congr_left fun i hi=>?_
      have hi':i < bs.length:=by
       have:=p1.mem_iff.mp (Array.mem_toList_iff.mp hi)
       simpa using this
      simp [hi']
     rw [eo] at N3
     have hsz:p.toList.length=bs.length:=by
      have:=p1.size_eq
      simpa using this
     refine ⟨.ref D,_,Inv.laidF (s:=s) (t':=s.toks) (o:=.lst ((p.toList.map fun i=>bs.getD i 0).map V.ref)) I (fun m' x=>by rw [zm2 x F.ns]; exact F3.ns) (fun b u hb e=>kp F3 (fun p hp=>N3 p (qm _ hp)) b u hb e) hDn ?_,rfl,q p p1 p2 D ?_⟩
     ·refine ⟨by simp only [length_map]; rw [sizeLine_eq]; lia,_,c,zep _,(N3 (D,_) qo).1⟩
     ·cases e:H D with
      | none=>rfl
      | some u=>obtain ⟨v,z⟩:=ObjOk.there (I.hok D u e); rw [hDn] at z; cases z
end
end FL
end
section
namespace FL
noncomputable def tI (ns:List Int):D:=.tup (ns.map .int)
noncomputable def tupsD:List D->Option (List (List Int))
 | []=>some []
 | .tup ds::r=>match intsD ds with
   | some (x::xs)=>(tupsD r).map ((x::xs)::·)
   | _=>none
 | _::_=>none
noncomputable def sortT (l:List D):Option S:=if 2<=l.length/\l.length < 64/\(tupsD l).isSome=true then some (.lst ((sortD l).map .sh)) else none
noncomputable def bSortT:List D->Option S
 | [.lst l]=>sortT l
 | _=>none
theorem zf1:∀ {l:List D} {ns:List Int},intsD l=some ns->l=ns.map .int
 | [],_,h=>by cases h; rfl
 | .int x::r,ns,h=>by
   rw [intsD] at h
   obtain ⟨ys,h1,rfl⟩:=map_eq_some_iff.mp h
   rw [zf1 h1]; rfl
theorem zfH:∀ {l:List D} {ls:List (List Int)},tupsD l=some ls->l=ls.map tI/\∀ x∈ls,x≠[]
 | [],_,h=>by cases h; exact ⟨rfl,fun _ z=>nomatch z⟩
 | .tup ds::r,ls,h=>by
   rw [tupsD] at h
   split at h
   ·rename_i x xs e
    obtain ⟨ys,h1,rfl⟩:=map_eq_some_iff.mp h
    obtain ⟨e1,e2⟩:=zfH h1
    refine ⟨by rw [e1,zf1 e]; rfl,fun z hz=>?_⟩
    rcases mem_cons.mp hz with rfl | hz
    ·exact fun q=>nomatch q
    ·exact e2 z hz
   ·cases h
theorem zed:∀ {ls:List (List Int)},(∀ x∈ls,x≠[])->tupsD (ls.map tI)=some ls
 | [],_=>rfl
 | []::_,h=>absurd rfl (h [] qo)
 | (x::xs)::ls,h=>by
   rw [map_cons]
   show (match intsD ((x::xs).map D.int) with | some (x::xs)=>(tupsD (ls.map tI)).map ((x::xs)::·) | _=>none)=_
   rw [zbh,zed fun y hy=>h y (qm _ hy)]
   rfl
noncomputable def sort3 (l:List D):Option S:=if l.length < 2 then some (.lst (l.map .sh)) else match sortT l with
 | some s=>some s
 | none=>sortS l
noncomputable def bSort3:List D->Option S
 | [.lst l]=>sort3 l
 | _=>none
theorem zgm {ls:List (List Int)} (h64:ls.length < 64) (hne:∀ x∈ls,x≠[]):bSort3 [.lst (ls.map tI)]=some (.lst ((sortD (ls.map tI)).map .sh)):=by
 show sort3 _=_
 unfold sort3
 by_cases h2:(ls.map tI).length < 2
 ·rw [if_pos h2]
  match ls,h2 with
  | [],_=>rfl
  | [_],_=>rfl
  | _::_::_,h2=>simp at h2; lia
 ·rw [if_neg h2]
  rw [length_map] at h2
  have e:sortT (ls.map tI)=some (.lst ((sortD (ls.map tI)).map .sh)):=by
   unfold sortT
   rw [if_pos ⟨by rw [length_map]; lia,by rw [length_map]; exact h64,by rw [zed hne]; rfl⟩]
  rw [e]
end FL
end
section
namespace FL
open PySem PySem.Spec PyProof.Rows L2
open HT
theorem zdm:∀ ns ms:List Int,cmpDs (ns.map .int) (ms.map .int)=if lexLt ns ms=true then .lt else if lexLt ms ns=true then .gt else .eq
 | [],[]=>rfl
 | [],_::_=>rfl
 | _::_,[]=>rfl
 | x::ns,y::ms=>by
   rw [map_cons,map_cons,zaB,zaB,cmpDs,cmpD]
   by_cases h:x < y
   ·rw [if_pos h,if_neg (show ¬ x=y by lia),if_pos (decide_eq_true h)]
   ·rw [if_neg h]
    by_cases h2:y < x
    ·rw [if_pos h2,if_neg (show ¬ x=y by lia),if_neg (show ¬ y=x by lia),if_neg (by simp; lia),if_pos (decide_eq_true h2)]
    ·have e:x=y:=by lia
     subst e
     rw [if_neg h2,if_pos rfl,if_pos rfl]
     exact zdm ns ms
theorem zbx (ns ms:List Int):leD (tI ns) (tI ms)=!lexLt ms ns:=by
 unfold leD tI
 rw [cmpD,zdm]
 cases e:lexLt ns ms with
 | true=>rw [zcp _ _ e]; rfl
 | false=>
   cases e2:lexLt ms ns with
   | true=>rfl
   | false=>rfl
theorem zfV:∀ a b:List Int,lexLt a b=false->lexLt b a=false->a=b
 | [],[],_,_=>rfl
 | [],_::_,h,_=>by cases h
 | _::_,[],_,h=>by cases h
 | x::a,y::b,h,g=>by
   rw [zaB] at h g
   by_cases e:x=y
   ·subst e
    rw [if_pos rfl] at h g
    rw [zfV a b h g]
   ·rw [if_neg e] at h
    rw [if_neg (Ne.symm e)] at g
    have:=of_decide_eq_false h
    have:=of_decide_eq_false g
    lia
noncomputable def IsTI (d:D):Prop:=∃ ns,d=tI ns
theorem zle:OrdOn IsTI where
 tot:=by
  rintro _ _ ⟨a,rfl⟩ ⟨b,rfl⟩
  rw [zbx,zbx]
  cases e:lexLt b a with
  | false=>exact .inl rfl
  | true=>exact .inr (by rw [zcp _ _ e]; rfl)
 tr:=by
  rintro _ _ _ ⟨a,rfl⟩ ⟨b,rfl⟩ ⟨c,rfl⟩
  rw [zbx,zbx,zbx]
  intro h1 h2
  cases e:lexLt c a with
  | false=>rfl
  | true=>
    grind [zdv]
 anti:=by
  rintro _ _ ⟨a,rfl⟩ ⟨b,rfl⟩
  grind [zbx,zfV]
section
variable {X:Cx} {K:W.Frag} {p pos:Pos} {e:Expr} {es:List Expr} {wa:WA}
theorem zhe:∀ {xs:List V} {ls:List (List Int)},Reps K F xs (ls.map tI)->∃ bs:List Addr,xs=bs.map V.ref/\Paired (fun b l=>F b=some (.tup (l.map V.int))) bs ls
 | _,[],.nil=>⟨[],rfl,.nil⟩
 | _,l::ls,.cons a b=>by
   obtain ⟨bs,e,t⟩:=zhe b
   cases a with
   | tup h r=>
     obtain ⟨e1,_⟩:=zeI r (zbh l)
     subst e1
     exact ⟨_::bs,by rw [e]; rfl,.cons h t⟩
theorem zdR:∀ {bs:List Addr} {ls:List (List Int)},Paired (fun b l=>F b=some (.tup (l.map V.int))) bs ls->Reps K F (bs.map V.ref) (ls.map tI)
 | _,_,.nil=>.nil
 | _,_,.cons h t=>.cons (.tup h (zbF _)) (zdR t)
theorem zdo {R:α->β->Prop} {l:List α} {m:List β} {da:α} {db:β} (h:Paired R l m):∀ {q:List Nat},(∀ i∈q,i < l.length)->Paired R (q.map fun i=>l.getD i da) (q.map fun i=>m.getD i db)
 | [],_=>.nil
 | i::q,z=>.cons (zbQ i da db h (z i qo)) (zdo h fun j hj=>z j (qm _ hj))
theorem zim {R R':α->β->Prop} {l:List α} {m:List β} (h:Paired R l m) (f:∀ a b,b∈m->R a b->R' a b):Paired R' l m:=by
 induction h with
 | nil=>exact .nil
 | cons r _ ih=>exact .cons (f _ _ qo r) (ih fun a b hb=>f a b (qm _ hb))
theorem zgD {α:Type} (d:α):∀ l:List α,(List.range l.length).map (fun i=>l.getD i d)=l:=fun l=>by
 refine List.ext_getElem (by simp) fun i h1 h2=>?_
 simp [h2]
theorem zgL:DoesB K (rSortT K) bSortT:=by
 intro U O F G H vs ds s Q rel re e hq
 obtain ⟨d,v,rfl,rfl⟩:=arg1 (fun x y r=>by cases x <;> rfl) rfl re e
 cases d with
 | lst l=>
   have e:sortT l=some s:=e
   unfold sortT at e
   split at e
   ·rename_i hc
    cases e
    obtain ⟨h2,h64,h3⟩:=hc
    obtain ⟨ls,q1⟩:=Option.isSome_iff_exists.mp h3
    obtain ⟨el,hne⟩:=zfH q1
    subst el
    rw [length_map] at h2 h64
    obtain ⟨a,xs,rfl,h1,r1⟩:=re.1.lst rel.fr
    obtain ⟨bs,rfl,t⟩:=zhe r1
    have hl:bs.length=ls.length:=Paired.length t
    refine ⟨a,bs,ls,rfl,h1,by lia,by lia,zim t fun b l hb h=>⟨hne l hb,SqT.of (rel.fr _ _ h)⟩,fun p p1 p2 q hq'=>?_⟩
    have hin:∀ i∈p.toList,i < bs.length:=fun i hi=>by
     have:=p1.mem_iff.mp (Array.mem_toList_iff.mp hi)
     simpa using this
    have t2:=zdo (da:=0) (db:=[]) t (q:=p.toList) hin
    have pp:p.toList.Perm (List.range ls.length):=by
     have:=Array.perm_iff_toList_perm.mp p1
     rw [<- hl]; simpa using this
    have perm:(p.toList.map fun i=>ls.getD i []).Perm ls:=(pp.map _).trans (by rw [zgD])
    have hsz:p.size=bs.length:=by have:=p1.size_eq; simpa using this
    have es:sortD (ls.map tI)=(p.toList.map fun i=>ls.getD i []).map tI:=by
     refine zbD zle (fun d hd=>by obtain ⟨z,_,rfl⟩:=mem_map.mp hd; exact ⟨z,rfl⟩) (perm.map _) ?_
     rw [map_map,pairwise_map]
     refine List.pairwise_iff_getElem.mpr fun i j hi hj hij=>?_
     simp only [Function.comp]
     rw [zbx]
     have hj':j < bs.length:=by rw [<- hsz]; simpa using hj
     have hi':i < bs.length:=by lia
     have k:=p2 i j (by lia) hj'
     have gi:∀ i (h:i < p.toList.length),kA (rkL ls) p i=rkL ls p.toList[i]:=fun i h=>by
      unfold kA
      rw [getElem?_eq_getElem (by simpa using h)]
      simp
     rw [gi i hi,gi j hj] at k
     have hb:=hin _ (getElem_mem hj)
     have:=zmp (ls:=ls) (i:=p.toList[j]) (j:=p.toList[i]) (by lia)
     rw [<- this,decide_eq_false (by lia)]
     rfl
    rw [es] at hq
    exact hq _ F _ (Same.refl F) (rel.newLD hq' (zdR t2))
   ·cases e
 | _=>cases e
end
end FL
end
section
namespace FL
open PySem PySem.Spec PyProof.Rows L2
section
variable {prog:Program} {w:World} {A:Around} {E:Value->Shared->Prop} {s:Shared}
theorem zkG {vs:List Value} (few:vs.length < 2):(vs.toArray.zip vs.toArray).map (·.2)=vs.toArray:=by
 rw [List.zip_toArray,List.map_toArray,List.map_snd_zip (le_refl _)]
theorem zke (at_:s.heap.get? a=some (seqObj "list" vs.toArray n)) (few:vs.length < 2)
  (k:P (.done (.ret .none)) { s with heap:=sortedHeap s.heap a vs vs.toArray }):wpAny (model prog w) A (Builtin.«list.sort» ⟨[.ref a],[]⟩) P E s:=by
 rw [list_sort_plain]
 have few':vs.toArray.size < 2:=by simpa using few
 have hmid:∃ e,(s.heap.update a (Obj.mapSeq fun _=>#[])).get? a=some (seqObj "list" #[] e):=⟨_,get?_update_seq at_ _⟩
 obtain ⟨e,mid⟩:=hmid
 have end_:(((s.heap.update a (Obj.mapSeq fun _=>#[])).push (seqObj "tuple" vs.toArray 0)).push (seqObj "list" #[] 0)).get? a=some (seqObj "list" #[] e):=
  qc _ (qc _ mid)
 refine qa (listItems_at at_ rfl (qa (listUpdate_at at_ rfl (qa (seqEpoch_at mid rfl (qa (wpAny_newTuple (qa (wpAny_newList (wpAny_holding ?_))))))))))
 show wpAny (model prog w) A _ P E (Shared.mk (((s.heap.update a (Obj.mapSeq fun _=>#[])).push (seqObj "tuple" vs.toArray 0)).push (seqObj "list" #[] 0)) s.gens s.drawn s.toks s.os)
 dsimp only
 rw [if_pos few',if_pos few']
 refine qa (qb (?_:wpAny _ _ _ _ _ _))
 rw [StateT.run_pure]
 have eo:(arrOf (SortSt.mk' general' (vs.toArray.zip vs.toArray) #[] 7 none)).map (·.2)=vs.toArray:=by
  show (vs.toArray.zip vs.toArray).map (·.2)=_
  exact zkG few
 refine qa (qb (?_:wpAny _ _ _ _ _ _))
 dsimp only
 rw [eo]
 refine qa (seqEpoch_at end_ rfl (qa (listUpdate_at end_ rfl ?_ (hsz2:=by rw [sizeLine_eq]; lia))))
 simp only [bne_self_eq_false,false_eq_true,if_false]
 exact qb k
theorem zgr (is:s.heap.IsList l vs.toArray) (few:vs.length < 2)
  (k:Q (.ref (s.heap.objs.size + 1)) { s with heap:=sortedAll s.heap vs vs.toArray }):wpAny (model prog w) A (call (.builtin "sorted") [.ref l]) Q E s:=by
 refine Calls.call_function_entry kind_sorted plain_sorted entry_sorted (args_sorted1 _) (?_:wpAny _ _ _ _ _ _)
 unfold Builtin.«sorted»
 refine qa (m:=checkCount "sorted" 1 1 _) (qb (qa (collect_list is (qa (wpAny_newList ?_)))))
 generalize eh:((s.heap.push (seqObj "list" #[] 0)).update s.heap.objs.size (Obj.mapSeq (·++vs.toArray)))=h1
 have z:h1.objs.size=s.heap.objs.size + 1:=by rw [<- eh,Heap.size_update,size_push']
 have new:(h1.push (seqObj "list" vs.toArray 0)).get? (s.heap.objs.size + 1)=some (seqObj "list" vs.toArray 0):=z ▸ qd _ rfl
 show wpAny _ _ _ _ _ (Shared.mk (h1.push (seqObj "list" vs.toArray 0)) s.gens s.drawn s.toks s.os)
 rw [z]
 refine qa (wpAny_holding (wpAny_call_entry slot_list_sort ⟨_,new,rfl⟩ entry_list_sort (zke new few ⟨_,rfl,?_⟩) (args_list_sort _)))
 subst eh
 exact qb ⟨_,rfl,k⟩
end
section
variable {X:Cx} {K:W.Frag} {p pos:Pos} {e:Expr} {es:List Expr} {wa:WA}
noncomputable def rSort1 (K:W.Frag):List V->Hp->VK->Prop:=fun xs H Q=>∃ a ys,xs=[.ref a]/\SqL K H a ys/\ys.length < 2/\∀ q,H q=none->Q (.ref q) (upd H q (.lst ys))
theorem zew:CallR X (.builtin "sorted") (rSort1 X.K):=by
 intro pins s U H xs us Q I r h
 obtain ⟨a,ys,rfl,hq,h2,q⟩:=h
 cases r with
 | cons r1 r2=>
   cases r2
   cases r1
   obtain ⟨its,r,pl,_⟩:=I.list hq
   refine zgr pl.isList (by rw [<- r.length]; exact h2) ?_
   obtain ⟨e,he⟩:=sortedAll_at s.heap its its.toArray
   refine ⟨.ref (s.heap.objs.size + 1),_,I.laid (t':=s.toks) (o:=.lst ys) (fun b ob w=>sortedAll_old w) (le_succ _) ?_,rfl,q _ (I.hok.fresh (le_succ _))⟩
   exact ⟨by rw [sizeLine_eq]; lia,its,e,r,he⟩
theorem zeG:∀ {xs:List V} {l:List D},Reps K F xs l->xs.length=l.length
 | _,_,.nil=>rfl
 | _,_,.cons _ t=>by rw [length_cons,length_cons,zeG t]
noncomputable def rSort3 (K:W.Frag):List V->Hp->VK->Prop:=fun xs H Q=>rSort1 K xs H Q\/rSortT K xs H Q\/rSorted K xs H Q
theorem zgz:CallR X (.builtin "sorted") (rSort3 X.K):=fun pins s U H xs us Q I r h=>by
 rcases h with h | h | h
 ·exact zew pins s U H xs us Q I r h
 ·exact zey pins s U H xs us Q I r h
 ·exact zen pins s U H xs us Q I r h
theorem zgG:DoesB K (rSort3 K) bSort3:=by
 intro U O F G H vs ds s Q rel re e hq
 obtain ⟨d,v,rfl,rfl⟩:=arg1 (fun x y r=>by cases x <;> rfl) rfl re e
 cases d with
 | lst l=>
   have e:sort3 l=some s:=e
   unfold sort3 at e
   by_cases h2:l.length < 2
   ·rw [if_pos h2] at e
    cases e
    obtain ⟨a,xs,rfl,h1,r1⟩:=re.1.lst rel.fr
    exact .inl ⟨a,xs,rfl,h1,by rw [zeG r1]; exact h2,fun q hq'=>hq _ F _ (Same.refl F) (rel.newLD hq' r1)⟩
   ·rw [if_neg h2] at e
    cases e1:sortT l with
    | some t=>rw [e1] at e; exact .inr (.inl (zgL U O F G H [v] [.lst l] s Q rel re (e1.trans e) hq))
    | none=>rw [e1] at e; exact .inr (.inr (zeX U O F G H [v] [.lst l] s Q rel re e hq))
 | _=>cases e
theorem zdz (hg:Gl X "sorted") (hm:X.mg "sorted"=none) (hv:bootBuiltins "sorted"=some (.builtin "sorted")) (ha:FA X (e::es) wa) (he:starEach (e::es) X.env=(false,eval e X.env)::starEach es X.env:=by rfl) (hpl:(backTo pos (starEach es X.env)).any (·.1)=false:=by rfl):FE X (.Call (.Name "sorted" p) (e::es) [] pos) (wB bSort3 wa):=
 zbt (fun pn xe=>zgz (X:=wp X pn xe)) zgG hg hm hv ha (by decide) (by decide) he hpl
end
end FL
end
section
namespace FL
noncomputable def cInA (a b:D):Option Bool:=match b with
 | .str l=>match a with
   | .str x=>some (findD l x).isSome
   | _=>none
 | d=>cIn a d
noncomputable def cNotInA (a b:D):Option Bool:=(cInA a b).map (!·)
noncomputable def wAppendAt (j:Nat) (i e:WE):WE:=fun O Q E=>match slot O j with
 | some (.lst _)=>i O (fun y O1=>match view y O1,slot O1 j with
   | some (.int n),some (.lst l)=>need (ixN l.length n) fun m=>match l[m]? with
     | some (.lst l')=>e (O1.set j none) (fun r O2=>need (give r O2) fun p=>l'.length < big/\Q (.v (.sh .non)) (p.2.set j (some (.lst (l.set m (.lst (l'++[p.1]))))))) E
     | _=>False
   | _,_=>False) E
 | _=>False
noncomputable def wFrz (a:WE):WE:=fun O Q E=>a O (fun r O1=>need (give r O1) fun p=>Q (.v (.sh p.1.toD)) p.2) E
noncomputable def wFz (i:Nat) (w:WS):WS:=fun D O=>w { D with nx:=fun O1=>need (slot O1 i) fun s=>D.nx (O1.set i (some (.sh s.toD))) } O
noncomputable def lkD (d q:D):Option (Option D):=match d with
 | .dct t ks vs=>if isKey t q then some (lk ks vs q) else none
 | _=>none
noncomputable def wIxA (a b:WE):WE:=fun O Q E=>a O (fun x O1=>b O1 (fun y O2=>need (viewC x O2) fun dd=>need (view y O2) fun q=>need (lkD dd q) fun o=>need o fun e=>Q (.v (.sh e)) O2) E) E
noncomputable def bMinL:List D->Option S
 | [.lst l]=>(intsD l).bind fun ns=>(ns.min?).map fun m=>S.sh (.int m)
 | _=>none
noncomputable def wTupI (it:WI):WE:=fun O Q E=>it O (fun l O1=>l.length<=big/\Q (.v (.sh (.tup l))) O1) E
mutual
noncomputable def okSh:D->Bool
 | .non=>true
 | .bl _=>true
 | .int i=>decide (-1000000000000 < i) && decide (i < 1000000000000)
 | .str l=>l.all fun c=>decide (c < 1114112)
 | .tup l=>okShs l
 | .lst l=>okShs l
 | _=>false
noncomputable def okShs:List D->Bool
 | []=>true
 | d::r=>okSh d && okShs r
end
mutual
noncomputable def wtD:D->Nat
 | .int _=>41
 | .str l=>l.length
 | .tup l=>wtDs l
 | .lst l=>wtDs l
 | _=>0
noncomputable def wtDs:List D->Nat
 | []=>0
 | d::r=>wtD d + 1 + wtDs r
end
noncomputable def okShow (d:D):Bool:=okSh d && (decide (dep d<=30) && decide (wtD d<=1000000))
noncomputable def wReprEq (res:Bool) (a b:WE):WT:=fun O Q E=>a O (fun x O1=>need (viewC x O1) fun p=>okShow p=true/\b O1 (fun y O2=>need (viewC y O2) fun q=>p=q/\Q res O2) E) E
noncomputable def oMulA (p q:D):Option S:=match p,q with
 | .str x,.int n=>if 0<=n/\n<=1000/\x.length<=500 then some (.sh (.str (List.replicate n.toNat x).flatten)) else none
 | p,q=>oMul p q
end FL
end
section
namespace FL
open PySem PySem.Spec PyProof.Rows L2
section
variable {X:Cx} {K:W.Frag}
theorem zeT (x y:Str):Txt.contains x y=(findD x.cps.toList y.cps.toList).isSome:=by
 have h:=zkZ x y
 unfold Txt.find at h
 unfold Txt.contains
 cases q:Builtin.Str.occurrences x y 0 x.length 1 with
 | nil=>
   rw [q] at h
   cases e:findD x.cps.toList y.cps.toList with
   | none=>rfl
   | some i=>rw [e] at h; have h':(-1:Int)=(i:Int):=h; lia
 | cons i r=>
   rw [q] at h
   cases e:findD x.cps.toList y.cps.toList with
   | none=>rw [e] at h; have h':((i:Nat):Int)=-1:=h; lia
   | some i=>rfl
noncomputable def rInS (neg:Bool):R2:=fun x y H Q=>∃ z u,x=.str z/\y=.str u/\Q (.bl (if neg then !(Txt.contains u z) else Txt.contains u z)) H
theorem znW:OpR X (compareOp .In) (rInS false):=by
 intro pins s U H x y v u Q I rx ry h
 obtain ⟨z,t,rfl,rfl,q⟩:=h
 obtain ⟨t1,rfl⟩:=rx
 obtain ⟨t2,rfl⟩:=ry
 exact SB.contains ⟨.bl _,H,I,rfl,q⟩
theorem ziL:OpR X (compareOp .NotIn) (rInS true):=by
 intro pins s U H x y v u Q I rx ry h
 obtain ⟨z,t,rfl,rfl,q⟩:=h
 obtain ⟨t1,rfl⟩:=rx
 obtain ⟨t2,rfl⟩:=ry
 exact SB.notContains ⟨.bl _,H,I,rfl,q⟩
noncomputable def rInX (K:W.Frag) (neg:Bool):R2:=fun x y H Q=>rInAll K neg x y H Q\/rInS neg x y H Q
theorem zmZ (hu:X.A.units + 32 < cLine):OpR X (compareOp .In) (rInX X.K false):=FL.OpR.or (zjG hu) znW
theorem zbH (hu:X.A.units + 32 < cLine):OpR X (compareOp .NotIn) (rInX X.K true):=FL.OpR.or (zeH hu) ziL
theorem zf5 (r1:Rep K H x p) (r2:Rep K H y q) (e:cInA p q=some k) (hq:Q (.bl (if neg then !k else k)) H):rInX K neg x y H Q:=by
 unfold cInA at e
 split at e
 ·split at e
  ·cases r1 with
   | str e1 z1=>cases r2 with
     | str e2 z2=>
       refine .inr ⟨_,_,rfl,rfl,?_⟩
       rw [zeT,e1,e2,qg e]
       exact hq
  ·cases e
 ·exact .inl (zlm r1 r2 e hq)
theorem zjR:DoesC K (rInX K false) cInA:=fun H x y p q k Q r1 r2 e hq=>zf5 r1 r2 e hq
theorem za7:DoesC K (rInX K true) cNotInA:=fun H x y p q k Q r1 r2 e hq=>by
 unfold cNotInA at e
 cases q1:cInA p q with
 | none=>rw [q1] at e; cases e
 | some b=>
   rw [q1] at e
   have e':(!b)=k:=qg e
   subst e'
   exact zf5 r1 r2 q1 hq
end
section
variable {K:W.Frag} {F H G:Hp} {U U':St} {O O':Env}
theorem SReps.at:∀ {xs:List V} {l:List S} {fp:List Addr} {m:Nat} {s:S},SReps K F H xs l fp->l[m]?=some s->∃ x fa fi fb,xs[m]?=some x/\SRep K F H x s fi/\fp=fa++(fi++fb)/\
  ∀ {H':Hp} {v':V} {s':S} {fq:List Addr},(∀ a∈fa++fb,H' a=H a)->SRep K F H' v' s' fq->SReps K F H' (xs.set m v') (l.set m s') (fa++(fq++fb))
 | _,_,_,_,_,.nil,h=>by simp at h
 | _,_,_,0,_,.cons (fp:=fp) (fq:=fq) a b,h=>by
   simp at h
   subst h
   exact ⟨_,[],fp,fq,rfl,a,rfl,fun hk r=>by rw [nil_append]; exact .cons r (b.mono (Same.refl F) fun c hc=>hk c hc)⟩
 | _,_,_,m + 1,_,.cons (fp:=fp) (fq:=fq) a b,h=>by
   obtain ⟨x,fa,fi,fb,h1,h2,rfl,up⟩:=SReps.at (m:=m) b (by simpa using h)
   refine ⟨x,fp++fa,fi,fb,by simpa using h1,h2,(append_assoc ..).symm,fun hk r=>?_⟩
   rw [append_assoc]
   exact .cons (a.mono (Same.refl F) fun c hc=>hk c (qk _ (qk _ hc))) (up (fun c hc=>hk c ((mem_append.mp hc).elim (fun z=>qk _ (qj _ z)) fun z=>qj _ z)) r)
theorem Rel.hide2 (r:Rel K (O++[some s]) (U++[some v]) F G H) (h:O.length=U.length):∃ G' fp,Rel K O U F G' H/\Same G G'/\SRep K F H v s fp/\(∀ a∈fp,∃ o,G' a=some o/\H a=some o)/\
  ∀ {O2:Env} {U2:St} {F2 H2:Hp},Same F F2->Rel K O2 U2 F2 G' H2->Rel K (O2++[some s]) (U2++[some v]) F2 G H2:=by
 classical
 obtain ⟨fp,e,nd,ap⟩:=r.en
 obtain ⟨f1,f2,rfl,a,b⟩:=e.cut h
 obtain ⟨n1,n2,n12⟩:=nodup_append.mp nd
 have b':=b
 cases b' with
 | @so _ _ _ _ fs fn sr nl=>
 cases nl
 refine ⟨fun x=>if x∈fs++[] then H x else G x,fs,⟨r.fr,fun x o q=>?_,f1,a,n1,fun x hx=>?_⟩,fun x o q=>?_,sr,fun x hx=>?_,fun {O2 U2 F2 H2} sm r2=>?_⟩
 ·by_cases z:x∈fs++[]
  ·have:=b.in_ x z
   grind
  ·simp only [z,if_false] at q
   exact r.gr x o q
 ·grind
 ·grind
 ·obtain ⟨o,q,_⟩:=b.in_ x (qk _ hx)
  grind
 ·obtain ⟨fp2,e2,nd2,ap2⟩:=r2.en
  have hk:∀ x∈fs++[],H2 x=H x/\F2 x=none/\x∉fp2:=fun x hx=>by
   obtain ⟨o,q,_⟩:=b.in_ x hx
   have w:=r2.gr x o (by simp only [hx,if_true]; exact q)
   grind
  refine ⟨r2.fr,fun x o q=>?_,fp2++(fs++[]),e2.app (b.mono sm fun x hx=>(hk x hx).1),?_,fun x hx=>?_⟩
  ·have z:x∉fs++[]:=fun z=>by
    grind
   exact r2.gr x o (by simp only [z,if_false]; exact q)
  ·grind
  grind
theorem Rel.appendAt {D b:Addr} (r:Rel K (O++[some t,some (.lst l)]) (U++[some v,some (.ref D)]) F G H) (h:O.length=U.length) (hm:l[m]?=some (.lst l'))
  (hD:H D=some (.lst xs)) (hb:xs[m]?=some (.ref b)) (hy:H b=some (.lst ys)):
  ys.length=l'.length/\Rel K (O++[some (.lst (l.set m (.lst (l'++[t]))))]) (U++[some (.ref D)]) F G (upd H b (.lst (ys++[v]))):=by
 obtain ⟨fp,e,nd,ap⟩:=r.en
 obtain ⟨f1,f2,rfl,a,c⟩:=e.cut h
 cases c with
 | @so _ _ _ _ ft f3 st c=>
 cases c with
 | @so _ _ _ _ fD fn sd nl=>
 cases nl
 cases sd with
 | @lst _ xs' _ fl hD' rl=>
 rw [hD] at hD'
 cases hD'
 obtain ⟨x,fa,fi,fb,hx,sx,rfl,up⟩:=rl.at hm
 rw [hb] at hx
 cases hx
 cases sx with
 | @lst _ ys' _ fy hy' ry=>
 rw [hy] at hy'
 cases hy'
 refine ⟨ry.len,?_⟩
 have hp:(f1++(ft++(D::(fa++(b::fy++fb))++[]))).Perm (b::(f1++(ft++(D::(fa++(fy++fb)))))):=by
  simp only [append_nil,cons_append]
  have h1:(fa++b::(fy++fb)).Perm (b::(fa++(fy++fb))):=perm_middle
  refine ((h1.cons D).append_left (f1++ft) |>.trans ?_ |> fun z=>(by simpa using z))
  have h2:(D::b::(fa++(fy++fb))).Perm (b::D::(fa++(fy++fb))):=List.Perm.swap ..
  refine (h2.append_left (f1++ft)).trans ?_
  exact perm_middle.trans (by rw [append_assoc])
 have nd':=hp.nodup_iff.mp nd
 obtain ⟨nb,_⟩:=nodup_cons.mp nd'
 have ne:∀ {w:List Addr},(∀ x∈w,x∈f1++(ft++(D::(fa++(fy++fb)))))->∀ x∈w,upd H b (.lst (ys++[v])) x=H x:=fun hw x hx=>zaf fun z=>nb (z ▸ hw x hx)
 have apb:=ap b (hp.mem_iff.mpr qo)
 have new:SRep K F (upd H b (.lst (ys++[v]))) (.ref b) (.lst (l'++[t])) (b::(fy++ft)):=.lst zai (SReps.snoc (ry.mono (Same.refl F) (ne fun x hx=>by simp [hx])) (st.mono (Same.refl F) (ne fun x hx=>by simp [hx])))
 have r2:=up (H':=upd H b (.lst (ys++[v]))) (ne fun x hx=>by
  rcases mem_append.mp hx with z | z <;> simp [z]) new
 have e2:xs.set m (.ref b)=xs:=by
  apply ext_getElem?
  intro j
  by_cases hj:m=j
  ·subst hj
   rw [getElem?_set_self (qh.mp hb).1,hb]
  ·rw [getElem?_set_ne hj]
 rw [e2] at r2
 have hDb:D≠b:=fun z=>nb (by simp [z])
 have top:SRep K F (upd H b (.lst (ys++[v]))) (.ref D) (.lst (l.set m (.lst (l'++[t])))) (D::(fa++((b::(fy++ft))++fb))):=.lst ((zaf hDb).trans hD) r2
 have p:(f1++((D::(fa++((b::(fy++ft))++fb)))++[])).Perm (f1++(ft++(D::(fa++(b::fy++fb))++[]))):=by
  refine List.Perm.append_left _ ?_
  simp only [append_nil,cons_append,append_assoc]
  have h1:(fy++(ft++fb)).Perm (ft++(fy++fb)):=by
   rw [<- append_assoc,<- append_assoc]
   exact List.Perm.append_right _ perm_append_comm
  have h2:(fa++b::(fy++(ft++fb))).Perm (ft++(fa++b::(fy++fb))):=by
   refine ((h1.cons b).append_left fa).trans ?_
   have h3:(b::(ft++(fy++fb))).Perm (ft++(b::(fy++fb))):=perm_middle.symm
   refine (h3.append_left fa).trans ?_
   rw [<- append_assoc,<- append_assoc]
   exact List.Perm.append_right _ perm_append_comm
  refine (h2.cons D).trans ?_
  exact perm_middle.symm
 refine ⟨Same.updR r.fr apb.1,fun x o w=>?_,_,(a.mono (Same.refl F) (ne fun x hx=>by simp [hx])).app (.so top .nil),p.nodup_iff.mpr nd,fun x hx=>ap x (p.mem_iff.mp hx)⟩
 have hx:x≠b:=fun z=>by rw [z,apb.2] at w; cases w
 rw [zaf hx]
 exact r.gr x o w
end
section
variable {X:Cx} {pos spos:Pos}
theorem zc2 (ho:FE X o (wVar j)) (hi:FE X i wi) (he:FE X e we) (hix:PlainIx i:=by intro _ _; rfl)
  (hbase:attributeBase (.Subscript o i spos) "append" X.env (eval (.Subscript o i spos) X.env)=eval (.Subscript o i spos) X.env:=by rfl)
  (hfew:((backTo cpos (starEach [e] X.env)).all (fun x=>!x.1) && (backToKw cpos (keywordEach [] X.env)).all (fun x=>x.1.isSome)
   && decide ([e].length + ([]:List Keyword).length + (if ([]:List Keyword).isEmpty then 0 else 1) < 30))=true:=by rfl)
  (hline:(apos.endLine == cpos.line)=true:=by rfl) (hs:starEach [e] X.env=[(false,eval e X.env)]:=by rfl):FE X (.Call (.Attribute (.Subscript o i spos) "append" apos) [e] [] cpos) (wAppendAt j wi we):=fun pn xe hp=>by
 refine PE.imp (zi3 (X:=wp X pn xe) PySem.F.plainAttrs_list PySem.F.slot_list_append PySem.F.type_list_append zcT (zkx (zkp (X:=wp X pn xe)) (ho pn xe hp) (hi pn xe hp) hix) (zaa he zab hs pn xe hp) hbase hfew hline hs rfl) fun U H Q q=>?_
 obtain ⟨F,G,O,P,PX,rel,hw,hok,hx⟩:=q
 unfold wAppendAt at hw
 cases qs:slot O j with
 | none=>rw [qs] at hw; exact hw.elim
 | some s0=>
   cases s0 with
   | lst l0=>
     rw [qs] at hw
     dsimp only at hw
     refine ⟨F,G,O,fun y O1=>y=.loc j/\O1=O,PX,rel,by unfold wVar; rw [qs]; exact ⟨rfl,rfl⟩,fun y O1 o' F1 H1 hk s1 r1 rv=>?_,hx⟩
     obtain ⟨rfl,rfl⟩:=hk
     have l1:=len1 r1
     have hU:U[j]?=some (some o'):=rv
     have r2:=r1.drop l1
     refine ⟨F1,G,O1,_,PX,r2,hw,fun z O2 i' F2 H2 hk2 s2 r3 rv2=>?_,hx.grow s1⟩
     have l2:=len1 r3
     split at hk2
     ·rename_i n l ei ql
      obtain ⟨m,em,hk2⟩:=zae hk2
      split at hk2
      ·rename_i l' el
       have ri:=look (O':=[]) (U':=[]) r3 l2 rv2 ei
       have r4:=r3.drop l2
       obtain ⟨v',fp,e1,sr⟩:=r4.at ql
       rw [hU] at e1
       have e2:o'=v':=by simpa using e1
       subst e2
       have r5:=Rel.lend (O':=[]) (U':=[]) (r4.pushN (u:=some o')) l2 ql hU
       have l5:(O2.set j none).length=U.length:=by simpa using l2
       obtain ⟨G2,fq,r6,gg,sq,hG,back⟩:=r5.hide2 l5
       cases sq with
       | @lst a xs _ fl hD rl=>
       obtain ⟨x,fa,fi,fb,hx1,sx,efl,_⟩:=rl.at el
       cases sx with
       | @lst b ys _ fy hy ry=>
       cases ri
       have hat:L2.atI xs n=some (.ref b):=by
        have e':L2.ixN xs.length n=some m:=by rw [rl.len]; exact em
        unfold L2.atI
        rw [e']; exact hx1
       refine .inl ⟨a,xs,n,_,rfl,rfl,SqL.of hD,hat,.inl ⟨rfl,_,SqL.of hy⟩,F2,G2,O2.set j none,fun rs O3=>match rs with | [r]=>(need (give r O3) fun p=>l'.length < big/\P (.v (.sh .non)) (p.2.set j (some (.lst (l.set m (.lst (l'++[p.1]))))))) | _=>False,PX,r6,hk2,fun rs O3 vs F3 H3 hk s3 r7 hl rvs=>?_,hx.mono (fun _ z=>z) (s1.trans s2) gg⟩
       match rs,vs,rvs,r7,hk with
       | [r],[v],rvs,r7,hk=>
         dsimp only at hk
         obtain ⟨⟨t,O4⟩,eg,hk⟩:=zae hk
         have r8:=back s3 r7
         simp only [map_cons,map_nil,append_assoc,cons_append,nil_append] at r8
         have l3:O3.length=U.length:=hl
         obtain ⟨F4,s4,l4,r9⟩:=giveR (O':=[some (.lst l)]) (U':=[some (.ref a)]) r8 l3 rvs.1 eg
         have kept:∀ c∈a::fl,H3 c=H2 c:=fun c hc=>by
          obtain ⟨o,h1,h2⟩:=hG c hc
          rw [(r7.gr c o h1).1.1,h2]
         have hb:b∈a::fl:=qm _ (by rw [efl]; simp)
         obtain ⟨hlen,r10⟩:=Rel.appendAt r9 (l4.trans l3) el ((kept a qo).trans hD) hx1 ((kept b hb).trans hy)
         have r11:=Rel.back1 (O':=[]) (U':=[]) (i:=j) r10 (l4.trans l3) hU
         rw [append_nil,append_nil] at r11
         exact ⟨b,ys,v,rfl,rfl,(kept b hb).trans hy,by rw [hlen,sizeLine_eq]; exact lt_trans hk.1 (by decide),hok _ _ .non F4 _ hk.2 (s1.trans (s2.trans (s3.trans s4))) (r11.push .non) trivial⟩
       | [],_,_,_,hk=>exact hk.elim
       | [_],[],rvs,_,_=>exact rvs.elim
       | [_],_::_::_,rvs,_,_=>exact rvs.2.elim
       | _::_::_,_,_,_,hk=>exact hk.elim
      ·exact hk2.elim
     ·exact hk2.elim
   | _=>rw [qs] at hw; exact hw.elim
end
section
variable {K:W.Frag} {F H G:Hp} {U:St} {O:Env}
theorem Rel.frzEnd (r:Rel K (O++[some s]) (U++[some v]) F G H) (h:O.length=U.length):∃ F',Same F F'/\Rel K (O++[some (.sh s.toD)]) (U++[some v]) F' G H:=by
 obtain ⟨u,F',e1,sm,rp,r'⟩:=r.give (i:=O.length) (s:=s) zax
 rw [show (O++[some s]).set O.length (some (S.sh s.toD))=O++[some (S.sh s.toD)] from zbu] at r'
 exact ⟨F',sm,r'⟩
end
section
variable {X:Cx} {e:Expr} {we:WE} {ks:List Nat} {st:Stmt} {w:WS}
theorem zaE (he:FE X e we):FE X e (wFrz we):=fun pn xe hp=>by
 refine PE.imp (he pn xe hp) fun U H Q q=>?_
 obtain ⟨F,G,O,P,PX,rel,hw,hok,hx⟩:=q
 refine ⟨F,G,O,_,PX,rel,hw,fun r O1 v F1 H1 hk s1 r1 rv=>?_,hx⟩
 obtain ⟨⟨s,O2⟩,eg,hk⟩:=zae hk
 obtain ⟨F2,s2,l2,r2⟩:=giveR (O':=[]) (U':=[]) r1 (len1 r1) rv eg
 obtain ⟨F3,s3,r3⟩:=Rel.frzEnd r2 (len1 r2)
 exact hok _ O2 v F3 H1 hk (s1.trans (s2.trans s3)) r3 trivial
theorem zms (h:FS X ks st w):FS X ks st (wFz i w):=fun pn xe hp=>by
 refine PS.imp (h pn xe hp) fun D U H q=>?_
 obtain ⟨F,G,O,E,rel,hw,n,b,c,r,x⟩:=q
 refine ⟨F,G,O,_,rel,hw,fun O' U' F' H' hk kp sm rel'=>?_,b,c,r,x⟩
 obtain ⟨s,es,hk⟩:=zae hk
 obtain ⟨v,F2,_,s2,_,r2⟩:=rel'.give es
 exact n _ U' F2 H' hk kp (sm.trans s2) r2
end
section
variable {X:Cx} {K:W.Frag} {F H G:Hp}
theorem zlH (h:lkD d q=some o):∃ t ks vs,d=.dct t ks vs/\isKey t q=true/\lk ks vs q=o:=by
 unfold lkD at h
 grind
noncomputable def rIxD:R2:=fun x y H Q=>∃ a v,x=.ref a/\DGet H a y (some v)/\Q v H
theorem zlq (hu:X.A.units + 1 < cLine):IxR X rIxD:=by
 intro value slice pins s U H x y v u Q I rx ry h hs
 obtain ⟨a,r,rfl,g,q⟩:=h
 cases rx
 unfold subscriptTail
 have hT:=ze3 I g
 have h2:=zhZ (E:=X.xe) hu I g ry (Q:=EP X pins U Q) fun w' s3 I3 rw'=>⟨r,H,I3,rw',q⟩
 refine qa ?_
 rw [getitemInPython_of_ne hT.not_modules]
 refine qa (wpAny_specialOf hT PySem.F.slot_dict_getitem.lookup ?_)
 have fin:wpAny (model X.prog X.w) X.A (subscripted slice false (.ref a) u) (fun r s₃=>wpAny (model X.prog X.w) X.A (letTemporaryGo value (.ref a) r >>= fun _=>pure r) (EP X pins U Q) X.xe s₃) X.xe s:=by
  rw [hs]
  exact wpAny_operating (wpAny_mono h2 (fun r s₃ h₃=>qa (wpAny_letTemporaryGo (qb h₃))) fun _ _ x=>x)
 first
  | exact qb (qa fin)
  | exact qa (qb (qa fin))
  | exact qa fin
theorem lk_K {vs:List α} {P:V->α->Prop} (hl:kvs.length=vs.length) (h:∀ (i:Nat) x y,(kvs.map (·.2))[i]?=some x->vs[i]?=some y->P x y):
  (lk (kvs.map fun p=>keyD p.1) vs (keyD key)=none/\valV kvs key=none)\/∃ x y,valV kvs key=some x/\lk (kvs.map fun p=>keyD p.1) vs (keyD key)=some y/\P x y:=
 zcU keyD (fun _ _=>zbA) kvs vs key P hl h
theorem lk_T {vs:List α} {key:List Key} {P:V->α->Prop} (hl:kvs.length=vs.length) (h:∀ (i:Nat) x y,(kvs.map (·.2))[i]?=some x->vs[i]?=some y->P x y):
  (lk (kvs.map fun p=>D.tup (p.1.map keyD)) vs (D.tup (key.map keyD))=none/\valV kvs key=none)\/∃ x y,valV kvs key=some x/\lk (kvs.map fun p=>D.tup (p.1.map keyD)) vs (D.tup (key.map keyD))=some y/\P x y:=
 zcU (fun l=>D.tup (l.map keyD)) (fun a b z=>zbX (D.tup.inj z)) kvs vs key P hl h
theorem zkA (r1:Rep K H x d) (hk:isKey t d=true)
  (r2:(∃ kvs,t=false/\Rd H a (.dK kvs)/\ks=kvs.map (fun p=>keyD p.1)/\Reps K F (kvs.map (·.2)) vs)\/∃ kvs,t=true/\Rd H a (.dT kvs)/\ks=kvs.map (fun p=>D.tup (p.1.map keyD))/\Reps K F (kvs.map (·.2)) vs):
  ∃ o,DGet H a x o/\((lk ks vs d=none/\o=none)\/∃ v e,o=some v/\lk ks vs d=some e/\Rep K F v e):=by
 rcases r2 with ⟨kvs,rfl,e,k,r⟩ | ⟨kvs,rfl,e,k,r⟩
 ·obtain ⟨key,rfl,rfl⟩:=zcX r1 hk
  refine ⟨_,.inl ⟨kvs,key,e,rfl,rfl⟩,?_⟩
  rw [k]
  rcases lk_K (kvs:=kvs) (vs:=vs) (key:=key) (P:=fun v e=>Rep K F v e) (by have:=r.len; simpa using this) (fun i x y h1 h2=>by
   obtain ⟨x',hx',rx⟩:=r.get h2
   rw [h1] at hx'; cases hx'; exact rx) with ⟨h1,h2⟩ | ⟨v,e,h1,h2,h3⟩
  ·exact .inl ⟨h1,h2⟩
  ·exact .inr ⟨v,e,h1,h2,h3⟩
 ·cases r1 with
  | tup e1 q=>
    obtain ⟨keys,rfl,rfl⟩:=ze6 q hk
    refine ⟨_,.inr ⟨kvs,keys,_,e,rfl,e1,rfl⟩,?_⟩
    rw [k]
    rcases lk_T (kvs:=kvs) (vs:=vs) (key:=keys) (P:=fun v e=>Rep K F v e) (by have:=r.len; simpa using this) (fun i x y h1 h2=>by
     obtain ⟨x',hx',rx⟩:=r.get h2
     rw [h1] at hx'; cases hx'; exact rx) with ⟨h1,h2⟩ | ⟨v,e,h1,h2,h3⟩
    ·exact .inl ⟨h1,h2⟩
    ·exact .inr ⟨v,e,h1,h2,h3⟩
  | _=>cases hk
theorem RepE.dct (r:RepE K F H v (.dct t ks vs)) (sm:Same F H):∃ a,v=.ref a/\((∃ kvs,t=false/\Rd H a (.dK kvs)/\ks=kvs.map (fun p=>keyD p.1)/\Reps K F (kvs.map (·.2)) vs)\/
  ∃ kvs,t=true/\Rd H a (.dT kvs)/\ks=kvs.map (fun p=>D.tup (p.1.map keyD))/\Reps K F (kvs.map (·.2)) vs):=by
 rcases r with r | ⟨a,xs,ds,e1,e2,e3,r⟩ | ⟨a,kvs,ks',vs',e1,e2,e3,e4,r⟩ | ⟨a,kvs,ks',vs',e1,e2,e3,e4,r⟩
 ·cases r with
  | dK e k r=>exact ⟨_,rfl,.inl ⟨_,rfl,Rd.mono sm e,k,r⟩⟩
  | dT e k r=>exact ⟨_,rfl,.inr ⟨_,rfl,Rd.mono sm e,k,r⟩⟩
 ·cases e2
 ·cases e2
  exact ⟨a,e1,.inl ⟨kvs,rfl,.inl e3,e4,r⟩⟩
 ·cases e2
  exact ⟨a,e1,.inr ⟨kvs,rfl,.inl e3,e4,r⟩⟩
end
section
variable {X:Cx} {a b:Expr} {wa wb:WE} {pos:Pos}
theorem zfG (hu:X.A.units + 1 < cLine) (ha:FE X a wa) (hb:FE X b wb) (hs:PlainIx b:=by intro _ _; rfl):FE X (.Subscript a b pos) (wIxA wa wb):=fun pn xe hp=>by
 refine PE.imp (zkx (zlq (X:=wp X pn xe) hu) (ha pn xe hp) (hb pn xe hp) hs) fun U H Q q=>?_
 refine (two (k:=fun x y O2 Q E=>need (viewC x O2) fun dd=>need (view y O2) fun q=>need (lkD dd q) fun o=>need o fun e=>Q (.v (.sh e)) O2) q).mono fun v H1 h1=>h1.mono fun u H2 h2=>?_
 obtain ⟨F,G,O,x,y,P,PX,rel,hl,rx,ry,hk,hok,hx⟩:=h2
 obtain ⟨dd,ed,hk1⟩:=zae hk
 obtain ⟨q,eq,hk2⟩:=zae hk1
 obtain ⟨o,eo,hk3⟩:=zae hk2
 obtain ⟨e,ee,hk4⟩:=zae hk3
 have relx:Rel X.K (O++[slotOf x]) (U++[some v]) F G H2:=Rel.mid (O:=O) (U:=U) (Rel.swap (O1:=[slotOf x]) (U1:=[some v]) (O2:=[slotOf y]) (U2:=[some u]) hl rfl rel) hl
 have ru:=look (O':=[]) (U':=[]) (rel.mid hl) hl ry eq
 obtain ⟨F4,s4,re,r8⟩:=takeC (O':=[]) (U':=[]) relx hl rx ed
 rw [append_nil,append_nil] at r8
 obtain ⟨t,ks,vs,rfl,hkey,hlk⟩:=zlH eo
 obtain ⟨c,rfl,hh⟩:=re.dct r8.fr
 obtain ⟨o2,g,h⟩:=zkA ru hkey hh
 rcases h with ⟨h1,rfl⟩ | ⟨w,e',rfl,h1,h2⟩
 ·rw [hlk,ee] at h1; cases h1
 ·rw [hlk,ee] at h1
  cases h1
  exact ⟨c,w,rfl,g,hok _ O _ F4 H2 hk4 s4 (r8.push h2) trivial⟩
end
section
variable {prog:Program} {w:World} {A:Around} {E:Value->Shared->Prop} {s:Shared} {l:Addr} {vs:List Value} {ns:List Int} {Q:Value->Shared->Prop}
theorem zif (hh:A.handled=none) (hl:s.heap.IsList l vs.toArray) (hi:IntsAre vs ns) (hne:0 < ns.length)
  (h:∀ h' M (t:Tok) tk,(∀ b x,s.heap.get? b=some x->h'.get? b=some x)->M∈ns->(∀ a,a∈ns->M<=a)->Q (.int M t) { s with heap:=h',toks:=tk }):wpAny (model prog w) A (call (.builtin "min") [.ref l]) Q E s:=by
 obtain ⟨xs,e⟩:=hi.allInts.items
 have hns:ns=xs.toList.map (·.1):=by
  rw [<- hi.numsOf,<- nums_intItems,<- e]
 have hsz:0 < xs.size:=by
  grind
 rw [e] at hl
 refine min_intList hh hl hsz fun v h' tk hv hk=>?_
 obtain ⟨t,rfl⟩:=intItems_at hv
 obtain ⟨h1,h2⟩:=argBest_lt (numAt xs) (xs.size - 1)
 refine h _ _ t tk hk ?_ fun a ha=>?_
 ·rw [hns,numAt_eq]; exact getD_mem (by rw [length_map,length_toList]; lia)
 ·rw [hns] at ha
  obtain ⟨j,hj,rfl⟩:=mem_getD ha
  rw [length_map,length_toList] at hj
  rw [<- numAt_eq]; exact h2 j (by lia)
end
section
variable {X:Cx} {K:W.Frag} {p pos:Pos} {e:Expr} {es:List Expr} {wa:WA}
noncomputable def rMinL (K:W.Frag):List V->Hp->VK->Prop:=fun xs H Q=>∃ (a:Addr) (ns:List Int),xs=[.ref a]/\SqL K H a (ns.map V.int)/\0 < ns.length/\∀ M,M∈ns->(∀ a,a∈ns->M<=a)->Q (.int M) H
theorem ziF (hc:X.calm=true):CallR X (.builtin "min") (rMinL X.K):=by
 intro pins s U H xs us Q I r h
 obtain ⟨a,ns,rfl,hq,hne,q⟩:=h
 obtain ⟨u,rfl,rx⟩:=vals1 r
 cases rx
 obtain ⟨its,rv,pl,hz⟩:=I.list hq
 exact zif (I.ok.hd hc) pl.isList (zbq rv) hne fun h' M t tk kp h1 h2=>⟨.int _,H,I.kept kp,⟨_,rfl⟩,q M h1 h2⟩
theorem zh9:DoesB K (rMinL K) bMinL:=by
 intro U O F G H vs ds s Q rel re e hq
 obtain ⟨d,v,rfl,rfl⟩:=arg1 (fun x y r=>by cases x <;> rfl) rfl re e
 cases d with
 | lst l=>
   obtain ⟨a,xs,rfl,h1,r1⟩:=re.1.lst rel.fr
   obtain ⟨ns,en,e⟩:=Option.bind_eq_some_iff.mp e
   obtain ⟨m,em,rfl⟩:=map_eq_some_iff.mp e
   obtain ⟨rfl,_⟩:=zeI r1 en
   refine ⟨a,ns,rfl,h1,by cases ns with | nil=>cases em | cons _ _=>simp,fun M h2 h3=>?_⟩
   obtain ⟨h4,h5⟩:=List.min?_eq_some_iff.mp em
   have:M=m:=Int.le_antisymm (h3 m h4) (h5 M h2)
   subst this
   exact hq _ F H (Same.refl F) (rel.push (.int _))
 | _=>cases e
theorem zls (hc:X.calm=true) (hg:Gl X "min") (hm:X.mg "min"=none) (hv:bootBuiltins "min"=some (.builtin "min")) (ha:FA X (e::es) wa) (he:starEach (e::es) X.env=(false,eval e X.env)::starEach es X.env:=by rfl) (hpl:(backTo pos (starEach es X.env)).any (·.1)=false:=by rfl):FE X (.Call (.Name "min" p) (e::es) [] pos) (wB bMinL wa):=
 zbt (fun pn xe=>ziF (X:=wp X pn xe) hc) zh9 hg hm hv ha (by decide) (by decide) he hpl
end
section
variable {prog:Program} {w:World} {A:Around} {E:Value->Shared->Prop} {s:Shared}
theorem zdw {n:Nat} (hh:A.handled=none) (hr:IsRange s.heap r a b c t u v) (hsmall:Builtin.Range.small a b c=true)
  (hn:Builtin.Range.rangeSize a b c=n) (hlen:n<=2 ^ 24)
  (hQ:∀ (h':Heap) tk acc,(∀ b o,s.heap.get? b=some o->Heap.get? h' b=some o)->s.heap.objs.size<=h'.objs.size->ItemsOf (fun i v=>∃ t,v=.int (a + i * c) t) acc n->Q acc.toList { s with heap:=h',toks:=tk }):wpAny (model prog w) A (collect (.ref r)) Q E s:=by
 unfold collect
 refine qa (wpAny_runValue (codeAny_builtin F.entry_proto_collect ?_))
 rw [Around.under_plainId F.plain_proto_collect _]
 show wpAny _ A.in1 (newList [] >>= fun l=>again (.builtin "list.__iadd__" ⟨[l,.ref r],[]⟩)) _ _ s
 refine qa (wpAny_newObj_type ?_)
 refine qb ⟨plainId_quiet F.plain_list_iadd _,codeAny_builtin F.entry_list_iadd ?_⟩
 rw [Around.under_plainId F.plain_list_iadd _]
 show wpAny _ A.in1 (Builtin.List.listExtendWith (.ref s.heap.objs.size) (.ref r) (.ref s.heap.objs.size)) _ _ _
 have hS₁:(s.heap.push { cls:=.type "list",data:=.seq ([]:List Value).toArray }).get? s.heap.objs.size=some { cls:=.type "list",data:=.seq #[] }:=qd _ rfl
 refine wpAny_extend_range (R:=fun r s'=>match r with
  | .ok (.ret v)=>wpAny (model prog w) A (match v with
    | .ref a=>do
      let __do_lift <- load a
      match __do_lift.data with
       | .seq xs epoch=>pure xs.toList
       | x=>unsupported "internal:collect"
    | x=>unsupported "internal:collect") Q E s'
  | .ok a=>False
  | .error e=>E e s') (s:={ s with heap:=s.heap.push { cls:=.type "list",data:=.seq ([]:List Value).toArray } }) hh (qc _ hr) hsmall hn hlen _ _ 0 hS₁ fun h' tk acc' c' hk hS' hacc=>?_
 show wpAny _ A (load s.heap.objs.size >>= _) _ _ _
 refine qa (wpAny_load hS' ?_)
 exact qb (hQ h' tk acc' (fun b o e=>hk b o (ne_of_lt (qe e)) (qc _ e)) (le_of_lt (qe hS')) hacc)
theorem zck {n:Nat} (hh:A.handled=none) (hr:IsRange s.heap r a b c t u v) (hsmall:Builtin.Range.small a b c=true)
  (hn:Builtin.Range.rangeSize a b c=n) (hlen:n<=2 ^ 24)
  (h:∀ (h':Heap) tk acc,(∀ b o,s.heap.get? b=some o->Heap.get? h' b=some o)->s.heap.objs.size<=h'.objs.size->ItemsOf (fun i v=>∃ t,v=.int (a + i * c) t) acc n->Q₁ (.ref h'.objs.size) { s with heap:=h'.push { cls:=.type "tuple",data:=.seq acc },toks:=tk }):
  codeAny (model prog w) A (.call (.builtin "tuple.__new__") ⟨[.type "tuple",.ref r],[]⟩) (wants Q₁ E) s:=by
 refine codeAny_of_tree ?_
 show wpAny _ A.in1 (do checkBuiltinCall "tuple.__new__" ⟨[.type "tuple",.ref r],[]⟩; again (.builtin "tuple.__new__" ⟨[.type "tuple",.ref r],[]⟩)) _ _ s
 refine qa (wpAny_of_eq (F.newCall_tuple_1 _) (qb ⟨plainId_quiet F.plain_tuple_new _,codeAny_builtin F.entry_tuple_new ?_⟩))
 rw [Around.under_plainId F.plain_tuple_new _]
 have hsub:=sub_tuple_self
 have hinit:=init_tuple_lookup
 have hmh:=madeHere_tuple
 have hTI:s.TypeIs (.ref r) "range":=⟨_,hr,rfl⟩
 wp_walk using wpAny_typeOf hTI,zdw (A:=A.in1) hh hr hsmall hn hlen
 intro h' tk acc hm hle hacc
 show wpAny _ _ (Builtin.Tuple.tupleExact acc.toList.toArray >>= fun v=>ret v) _ _ _
 unfold Builtin.Tuple.tupleExact
 refine qa (wpAny_newObj_type ?_ (by show acc.toList.toArray.size<=sizeLine; simp only [toArray_toList]; rw [hacc.1,sizeLine_eq]; exact hlen))
 refine qb ?_
 have e:acc.toList.toArray=acc:=by simp
 rw [e]
 exact h h' tk acc hm hle hacc
theorem zcj {n:Nat} (hh:A.handled=none) (hr:IsRange s.heap r a b c t u v) (hsmall:Builtin.Range.small a b c=true)
  (hn:Builtin.Range.rangeSize a b c=n) (hlen:n<=2 ^ 24)
  (hQ:∀ (h':Heap) tk acc,(∀ b o,s.heap.get? b=some o->Heap.get? h' b=some o)->s.heap.objs.size<=h'.objs.size->ItemsOf (fun i v=>∃ t,v=.int (a + i * c) t) acc n->Q (.ref h'.objs.size) { s with heap:=h'.push { cls:=.type "tuple",data:=.seq acc },toks:=tk }):
  wpAny (model prog w) A (call (.type "tuple") [.ref r]) Q E s:=by
 refine callType_codes (Q₁:=fun obj s₁=>s₁.TypeIs obj "tuple"/\Q obj s₁) F.called_tuple (F.typeCall_tuple_1 _) F.entry_object_init
  (zck (A:=A.in1) hh hr hsmall hn hlen fun s' tk acc hm hle hacc=>⟨⟨_,qd _ rfl,rfl⟩,hQ s' tk acc hm hle hacc⟩) fun obj s₁ h₁=>?_
 exact ⟨h₁.1,F.args_object_init_2 obj _,object_init_meets F.called_tuple.init.lookup F.called_tuple.made (by decide) prog w A.in1 _ s₁ ⟨h₁.1,rfl,h₁.2⟩⟩
end
section
variable {X:Cx} {K:W.Frag}
noncomputable def tRng1 (ta:TA):TE:=fun U H Q=>ta U H fun vs H1=>∃ j:Int,vs=[.int j]/\∀ p,H1 p=none->Q (.ref p) (upd H1 p (.rng 0 j))
theorem ziC (hg:Gl X "range") (hm:X.mg "range"=none) (ha:PA X [a] ta) (hs:starEach [a] X.env=[(false,eval a X.env)]):PE X (.Call (.Name "range" p) [a] [] pos) (tRng1 ta):=by
 intro pins s U H Q I h
 refine Call_ (zcy I hg hm boot_range (PyProof.Rows.callWith_type1 (thn (ha pos pins s U H _ I h) fun us s1 zq=>?_) hs rfl))
 obtain ⟨vs,H1,I1,r1,q1⟩:=zq
 obtain ⟨j,e,q⟩:=q1
 subst e
 cases r1 with
 | cons r rr=>
   cases rr
   obtain ⟨t,rfl⟩:=r
   refine call_range_1 ⟨.ref s1.heap.objs.size,_,I1.laid (a:=s1.heap.objs.size) (o:=.rng 0 j) (t':=s1.toks + 1 + 1) (fun _ _ q=>qc _ q) (le_refl _) ?_,rfl,q _ (I1.hok.fresh (le_refl _))⟩
   exact ⟨_,_,_,qd _ rfl⟩
noncomputable def rngVs (i:Int) (n:Nat):List V:=(List.range n).map fun (k:Nat)=>V.int (i + (k:Int))
noncomputable def rOfRng (f:List V->HO):List V->Hp->VK->Prop:=fun xs H Q=>∃ (a:Addr) (i j:Int),xs=[.ref a]/\H a=some (.rng i j)/\(-(2 ^ 62)<=i/\i < 2 ^ 62/\-(2 ^ 62)<=j/\j < 2 ^ 62)/\j - i<=2 ^ 24/\∀ p,H p=none->Q (.ref p) (upd H p (f (rngVs i (j - i).toNat)))
theorem zjJ (h:ItemsOf (fun k v=>∃ t,v=.int (i + k * 1) t) acc n):Vals (rngVs i n) acc.toList:=by
 unfold rngVs
 refine za6 (by rw [length_map,length_range,length_toList,h.1]) fun j y v h1 h2=>?_
 obtain ⟨t,rfl⟩:=h.2 j v (by rw [<- getElem?_toList]; exact h2)
 rw [getElem?_map] at h1
 have hj:j < n:=by
  have:=(qh.mp h2).1
  rw [length_toList,h.1] at this
  exact this
 rw [getElem?_range hj] at h1
 cases h1
 exact ⟨t,by simp⟩
theorem zc6 (hc:X.calm=true):CallR X (.type "tuple") (rOfRng .tup):=by
 intro pins s U H xs us Q I r h
 obtain ⟨a,i,j,rfl,hH,⟨b1,b2,b3,b4⟩,hz,q⟩:=h
 obtain ⟨u,rfl,rx⟩:=vals1 r
 cases rx
 obtain ⟨t,u,v,ho⟩:=I.hok a _ hH
 have hn:Builtin.Range.rangeSize i j 1=((j - i).toNat:Nat):=by rw [rangeSize_one]; split <;> lia
 refine zcj (I.ok.hd hc) (show IsRange s.heap a i j 1 t u v from ho) (small_one b1 b2 b3 b4) hn (by lia) fun h' tk acc hk hle hacc=>?_
 refine ⟨.ref h'.objs.size,_,I.laid (t':=tk) (fun b o e=>qc _ (hk b o e)) hle (show ObjOk X.prog X.w _ (h'.push _) _ (.tup (rngVs i (j - i).toNat)) from ⟨⟨?_,NoDc.new rfl (qd _ rfl)⟩,acc.toList,zjJ hacc,?_⟩),rfl,q _ (I.hok.fresh hle)⟩
 ·unfold rngVs
  rw [length_map,length_range,sizeLine_eq]; lia
 ·simpa using IsTup.new h' acc
theorem zj3:Reps K F (rngVs i n) (fromTo i n):=by
 unfold rngVs fromTo
 generalize List.range n=l
 induction l with
 | nil=>exact .nil
 | cons k l ih=>exact .cons (.int _) ih
theorem zkz {k:List D->Env->WQ->Prop} (hcall:∀ pn xe,CallR (wp X pn xe) (.type T) (rOfRng f)) (hg:Gl X x) (hm:X.mg x=none) (hv:bootBuiltins x=some (.type T)) (hgr:Gl X "range") (hmr:X.mg "range"=none) (ha:FE X a wa)
  (hk:∀ {O:Env} {U:St} {F G H:Hp} {l:List D} {xs:List V} {P:WQ} {q:Addr},Rel X.K O U F G H->Reps X.K F xs l->k l O P->H q=none->∃ r F',Same F F'/\P r O/\RV U (.ref q) r/\Rel X.K (O++[slotOf r]) (U++[some (.ref q)]) F' G (upd H q (f xs)))
  (hs:starEach [a] X.env=[(false,eval a X.env)]) (he:starEach [.Call (.Name "range" p1) [a] [] pos1] X.env=[(false,eval (.Call (.Name "range" p1) [a] [] pos1) X.env)]) (hn:x≠"__name__") (hdb:(x == ("__debug__":Str))=false):
  FE X (.Call (.Name x p) [.Call (.Name "range" p1) [a] [] pos1] [] pos) (fun O Q E=>wRange1 wa O (fun l O1=>l.length<=big/\k l O1 Q) E):=fun pn xe hp=>by
 refine PE.imp (zcO (X:=wp X pn xe) (hcall pn xe) hg hm hv (zdO (ziC (X:=wp X pn xe) hgr hmr (zaa ha zab hs pn xe hp) hs) zf4 (by rw [he]; rfl)) hn hdb (by rw [he]; rfl) (by rfl)) fun U H Q q=>?_
 obtain ⟨F,G,O,P,PX,rel,hw,hok,hx⟩:=q
 refine ⟨F,G,O,fun rs O1=>match rs with | [r]=>(match view r O1 with | some (.int j)=>(-big<=j/\j<=big)/\(fromTo 0 j.toNat).length<=big/\k (fromTo 0 j.toNat) O1 P | _=>False) | _=>False,PX,rel,hw,fun rs O1 vs F1 H1 hk1 s1 r1 hl rv=>?_,hx⟩
 match rs,vs,rv,r1,hk1 with
 | [r],[v],rv,r1,hk1=>
   dsimp only at hk1
   split at hk1
   ·rename_i j ej
    have rp:=look (O':=[]) (U':=[]) r1 hl rv.1 ej
    cases rp
    obtain ⟨⟨h1,h2⟩,_,hk1⟩:=hk1
    have eb:(big:Int)=1000000:=rfl
    rw [eb] at h1 h2
    have r2:Rel X.K O1 U F1 G H1:=(show Rel X.K (O1++[slotOf r]) (U++[some (.int j)]) F1 G H1 from r1).drop hl
    refine ⟨j,rfl,fun p hp=>?_⟩
    have r3:=r2.newF (o:=.rng 0 j) hp
    obtain ⟨f0,_,_⟩:=r2.free hp
    refine ⟨p,0,j,rfl,zai,⟨by lia,by lia,by lia,by lia⟩,by lia,fun q hq=>?_⟩
    rw [Int.sub_zero]
    obtain ⟨r,F',s',hP,rv',r4⟩:=hk (xs:=rngVs 0 j.toNat) r3 zj3 hk1 hq
    exact hok r O1 _ F' _ hP (s1.trans ((Same.upd f0).trans s')) r4 rv'
   ·exact hk1.elim
 | [],_,_,_,hk=>exact hk.elim
 | [_],[],rv,_,_=>exact rv.elim
 | [_],_::_::_,rv,_,_=>exact rv.2.elim
 | _::_::_,_,_,_,hk=>exact hk.elim
theorem zjS (hc:X.calm=true) (hg:Gl X "tuple") (hm:X.mg "tuple"=none) (hv:bootBuiltins "tuple"=some (.type "tuple")) (hgr:Gl X "range") (hmr:X.mg "range"=none) (ha:FE X a wa)
  (hs:starEach [a] X.env=[(false,eval a X.env)]:=by rfl) (he:starEach [.Call (.Name "range" p1) [a] [] pos1] X.env=[(false,eval (.Call (.Name "range" p1) [a] [] pos1) X.env)]:=by rfl):
  FE X (.Call (.Name "tuple" p) [.Call (.Name "range" p1) [a] [] pos1] [] pos) (wTupI (wRange1 wa)):=
 zkz (f:=.tup) (k:=fun l O1 Q=>Q (.v (.sh (.tup l))) O1) (fun pn xe=>zc6 (X:=wp X pn xe) hc) hg hm hv hgr hmr ha (fun rel rx hP hq=>by
  obtain ⟨f0,_,_⟩:=rel.free hq
  exact ⟨_,_,Same.upd f0,hP,trivial,(rel.newF (o:=.tup _) hq).push (.tup zai (rx.mono (Same.upd f0)))⟩) hs he (by decide) (by decide)
end
end FL
end
section
namespace FL
open PySem PySem.Spec PyProof.Rows
end FL
end
section
namespace FL
open PySem PySem.Spec PyProof.Rows L2
theorem ze5 (h1:-1000000000000 < i) (h2:i < 1000000000000):i.natAbs.log2 < 40:=by
 have:i.natAbs < 2 ^ 40:=by lia
 by_cases h0:i.natAbs=0
 ·rw [h0]; decide
 ·exact (Nat.log2_lt h0).mpr this
mutual
theorem zc0:∀ d:D,okSh d=true->showD d=true
 | .non,_=>rfl
 | .bl _,_=>rfl
 | .int i,h=>by
   have h':(decide (-1000000000000 < i) && decide (i < 1000000000000))=true:=h
   rw [and_eq_true,decide_eq_true_eq,decide_eq_true_eq] at h'
   have:=ze5 h'.1 h'.2
   show decide (i.natAbs.log2 < 1920)=true
   rw [decide_eq_true_eq]; lia
 | .str _,_=>rfl
 | .tup l,h=>zca l h
 | .lst l,h=>zca l h
 | .dct _ _ _,h=>by cases h
 | .set _,h=>by cases h
 | .exc _ _ _,h=>by cases h
theorem zca:∀ l:List D,okShs l=true->showDs l=true
 | [],_=>rfl
 | d::r,h=>by
   rw [okShs,and_eq_true] at h
   rw [showDs,zc0 d h.1,zca r h.2]
   rfl
end
mutual
theorem zaZ:∀ d:D,okSh d=true->(toPy d).leavesShort 13=true
 | .non,_=>rfl
 | .bl _,_=>rfl
 | .int i,h=>by
   have h':(decide (-1000000000000 < i) && decide (i < 1000000000000))=true:=h
   rw [and_eq_true,decide_eq_true_eq,decide_eq_true_eq] at h'
   have:=int_text_length_le10 (a:=i) (k:=12) (by decide) (by lia)
   simp only [toPy,PyData.leavesShort,decide_eq_true_eq]
   show (Str.ofString (toString i)).length<=13
   rw [PySem.ofString_length]
   exact this
 | .str l,h=>by
   have h':(l.all fun c=>decide (c < 1114112))=true:=h
   simp only [toPy,PyData.leavesShort,all_eq_true,decide_eq_true_eq] at h' ⊢
   intro c hc
   have:=h' c (by simpa using hc)
   lia
 | .tup l,h=>by
   simp only [toPy,PyData.leavesShort]
   exact zbk l h
 | .lst l,h=>by
   simp only [toPy,PyData.leavesShort]
   exact zbk l h
 | .dct _ _ _,h=>by cases h
 | .set _,h=>by cases h
 | .exc _ _ _,h=>by cases h
theorem zbk:∀ l:List D,okShs l=true->PyData.leavesShortAll 13 (toPys l)=true
 | [],_=>rfl
 | d::r,h=>by
   rw [okShs,and_eq_true] at h
   simp only [toPys,PyData.leavesShortAll,and_eq_true]
   exact ⟨zaZ d h.1,zbk r h.2⟩
end
mutual
theorem za0:∀ d:D,okSh d=true->(toPy d).weight<=wtD d
 | .non,_=>le_refl _
 | .bl _,_=>le_refl _
 | .int i,h=>by
   have h':(decide (-1000000000000 < i) && decide (i < 1000000000000))=true:=h
   rw [and_eq_true,decide_eq_true_eq,decide_eq_true_eq] at h'
   have:=ze5 h'.1 h'.2
   simp only [toPy,PyData.weight,wtD]
   split <;> lia
 | .str l,h=>by simp [toPy,PyData.weight,wtD]
 | .tup l,h=>by
   simp only [toPy,PyData.weight,wtD]
   exact zbi l h
 | .lst l,h=>by
   simp only [toPy,PyData.weight,wtD]
   exact zbi l h
 | .dct _ _ _,h=>by cases h
 | .set _,h=>by cases h
 | .exc _ _ _,h=>by cases h
theorem zbi:∀ l:List D,okShs l=true->PyData.weightAll (toPys l)<=wtDs l
 | [],_=>le_refl _
 | d::r,h=>by
   rw [okShs,and_eq_true] at h
   have h1:=za0 d h.1
   have h2:=zbi r h.2
   simp only [toPys,PyData.weightAll,wtDs]
   lia
end
theorem RepE.view {K:W.Frag} (h:RepE K F H v d) (sm:Same F H):Rep K H v d:=by
 rcases h with h | ⟨a,xs,ds,rfl,rfl,e,r⟩ | ⟨a,kvs,ks,vs,rfl,rfl,e,k,r⟩ | ⟨a,kvs,ks,vs,rfl,rfl,e,k,r⟩
 ·exact h.mono sm
 ·exact .lst (SqL.of e) (r.mono sm)
 ·exact .dK (.of e) k (r.mono sm)
 ·exact .dT (.of e) k (r.mono sm)
section
variable {X:Cx} {K:W.Frag} {k:Nat} {p p2 pos pos1 pos2:Pos}
noncomputable def txD:D->Str
 | .non=>"None"
 | .bl b=>if b then "True" else "False"
 | .int i=>toString i
 | d=>(toPy d).shown
noncomputable def rRepr2 (K:W.Frag):List V->Hp->VK->Prop:=fun xs H Q=>∃ v d,xs=[v]/\Rep K H v d/\okShow d=true/\Q (.str (txD d)) H
theorem zdg (hr:Room k X.A):CallR X (.builtin "repr") (rRepr2 X.K):=by
 intro pins s U H xs us Q I r h
 obtain ⟨v,d,rfl,rp,hok,q⟩:=h
 unfold okShow at hok
 rw [and_eq_true,and_eq_true,decide_eq_true_eq,decide_eq_true_eq] at hok
 obtain ⟨hs,hd,hw⟩:=hok
 obtain ⟨u,rfl,rx⟩:=vals1 r
 have seq:∀ a,v=.ref a->isSeq d=true->wpAny (model X.prog X.w) X.A (call (.builtin "repr") [u]) (EP X pins U Q) X.xe s:=fun a e hq=>by
  subst e
  cases rx
  obtain ⟨as,rd⟩:=zjP I rp rfl (zc0 d hs)
  have h1:=zfP d
  have h2:=hr.units
  have etx:txD d=(toPy d).shown:=by cases d <;> first | rfl | cases hq
  rw [etx] at q
  refine repr_of_reads' (h₀:=s.heap) rd (zcP d (zc0 d hs)) (fun h=>by rw [zek] at h; cases h) hr.gd (by lia) (fun _ _ z=>z) (fun h' u tk hk=>⟨.str _,H,I.kept hk,⟨u,rfl⟩,q⟩) ?_
  have hw2:=za0 d hs
  exact PyData.shown_fits (B:=13) (by decide) (by decide) (zaZ d hs) (by lia)
 cases rp with
 | non=>
   cases rx
   exact P.repr_of_none ⟨.str _,H,I.kept fun _ _ z=>z,⟨_,rfl⟩,q⟩
 | bl b=>
   cases rx
   exact P.repr_of_bool ⟨.str _,H,I.kept fun _ _ z=>z,⟨_,rfl⟩,q⟩
 | int i=>
   obtain ⟨t,rfl⟩:=rx
   have h':(decide (-1000000000000 < i) && decide (i < 1000000000000))=true:=hs
   rw [and_eq_true,decide_eq_true_eq,decide_eq_true_eq] at h'
   have:=ze5 h'.1 h'.2
   exact P.repr_of_int (by lia) ⟨.str _,H,I.kept fun _ _ z=>z,⟨_,rfl⟩,q⟩
 | @str x l e z=>
   obtain ⟨t,rfl⟩:=rx
   have ex:x=⟨l.toArray⟩:=by
    obtain ⟨⟨a⟩⟩:=x
    have e':a=l:=e
    rw [e']
   subst ex
   have hw2:=za0 (.str l) hs
   exact P.repr_of_str ⟨.str _,H,I.kept fun _ _ z=>z,⟨_,rfl⟩,q⟩ (PyData.shown_fits (d:=toPy (.str l)) (B:=13) (by decide) (by decide) (zaZ _ hs) (by lia))
 | tup e r=>exact seq _ rfl rfl
 | lst e r=>exact seq _ rfl rfl
 | dK e k r=>cases hs
 | dT e k r=>cases hs
 | st e r=>cases hs
 | exc e k=>cases hs
theorem zkB (hs:okShow d=true):(txD d).cps.toList.length<=16777216:=by
 unfold okShow at hs
 rw [and_eq_true,and_eq_true,decide_eq_true_eq,decide_eq_true_eq] at hs
 obtain ⟨hs,hd,hw⟩:=hs
 have hw2:=za0 d hs
 have h:=PyData.shown_fits (d:=toPy d) (B:=13) (by decide) (by decide) (zaZ _ hs) (by lia)
 have e:txD d=(toPy d).shown:=by
  cases d with
  | non=>rfl
  | bl b=>rfl
  | int i=>rfl
  | str l=>rfl
  | tup l=>rfl
  | lst l=>rfl
  | _=>cases hs
 rw [e,length_toList]
 exact h
theorem zgC {a b:Expr} {wa wb:WE} {res:Bool} {X':Cx} {U:St} {H:Hp} {Q:Bool->Hp->Prop} {C:V->V->Hp->Prop} (hC:∀ (z:Str) H2,z.cps.toList.length<=16777216->Q res H2->C (.str z) (.str z) H2) (q:tWT X' (wReprEq res wa wb) U H Q):
  tCB (rRepr2 X'.K) (tWA X' (wCons wa wNil)) U H fun v H1=>tCB (rRepr2 X'.K) (tWA X' (wCons wb wNil)) U H1 fun u H2=>C v u H2:=by
 obtain ⟨F,G,O,P,PX,rel,hw,hok,hx⟩:=q
 refine ⟨F,G,O,fun rs O1=>match rs with | [r]=>(need (viewC r O1) fun p=>okShow p=true/\wb O1 (fun y O2=>need (viewC y O2) fun q=>p=q/\P res O2) PX) | _=>False,PX,rel,hw,fun rs O1 vs F1 H1 hk s1 r1 hl rv=>?_,hx⟩
 match rs,vs,rv,r1,hk with
 | [r],[v],rv,r1,hk=>
   dsimp only at hk
   obtain ⟨d,ed,hsh,hk⟩:=zae hk
   obtain ⟨F2,s2,re,r2⟩:=takeC (O':=[]) (U':=[]) r1 hl rv.1 ed
   rw [append_nil,append_nil] at r2
   refine ⟨v,d,rfl,re.view r2.fr,hsh,F2,G,O1,fun rs O2=>match rs with | [r]=>(need (viewC r O2) fun q=>d=q/\P res O2) | _=>False,PX,r2,hk,fun rs O2 us F3 H3 hk2 s3 r3 hl3 rv3=>?_,hx.grow (s1.trans s2)⟩
   match rs,us,rv3,r3,hk2 with
   | [r],[u],rv3,r3,hk2=>
     dsimp only at hk2
     obtain ⟨d2,ed2,e12,hk2⟩:=zae hk2
     subst e12
     obtain ⟨F4,s4,re4,r4⟩:=takeC (O':=[]) (U':=[]) r3 hl3 rv3.1 ed2
     rw [append_nil,append_nil] at r4
     exact ⟨u,d,rfl,re4.view r4.fr,hsh,hC _ _ (zkB hsh) (hok _ O2 F4 H3 hk2 (s1.trans (s2.trans (s3.trans s4))) r4)⟩
   | [],_,_,_,hk=>exact hk.elim
   | [_],[],rv,_,_=>exact rv.elim
   | [_],_::_::_,rv,_,_=>exact rv.2.elim
   | _::_::_,_,_,_,hk=>exact hk.elim
 | [],_,_,_,hk=>exact hk.elim
 | [_],[],rv,_,_=>exact rv.elim
 | [_],_::_::_,rv,_,_=>exact rv.2.elim
 | _::_::_,_,_,_,hk=>exact hk.elim
theorem zf3:bootBuiltins "repr"=some (.builtin "repr"):=by decide +kernel
theorem zho (hr:Room k X.A) (hg:Gl X "repr") (hm:X.mg "repr"=none) (ha:FE X a wa) (hb:FE X b wb) (hs:starEach [a] X.env=[(false,eval a X.env)]:=by rfl) (hs2:starEach [b] X.env=[(false,eval b X.env)]:=by rfl):
  FE X (.Compare (.Call (.Name "repr" p) [a] [] pos1) [.Eq] [.Call (.Name "repr" p2) [b] [] pos2] pos) (wOfT (wReprEq true wa wb)):=fun pn xe hp=>by
 refine PE.imp (ziT (zaQ (X:=wp X pn xe) (u31 hr)) (zdL (X:=wp X pn xe) (zdg (X:=wp X pn xe) hr) hg hm zf3 (zaa ha zab hs pn xe hp) (by decide) (by decide) hs (by rfl)) (zdL (X:=wp X pn xe) (zdg (X:=wp X pn xe) hr) hg hm zf3 (zaa hb zab hs2 pn xe hp) (by decide) (by decide) hs2 (by rfl)) (nomark _)) fun U H Q q=>?_
 obtain ⟨F,G,O,P,PX,rel,hw,hok,hx⟩:=q
 refine zgC (a:=a) (b:=b) (C:=fun v u H2=>rEqD X.K v u H2 fun z H3=>Q z H3) (Q:=fun c H3=>Q (.bl c) H3) (fun z H2 hz hq=>?_) ⟨F,G,O,fun c O1=>P (.v (.sh (.bl c))) O1,PX,rel,hw,fun c O' F' H' hk s r=>hok _ O' (.bl c) F' H' hk s (r.push (.bl c)) trivial,hx⟩
 exact ⟨.str z.cps.toList,.str z.cps.toList,.str rfl hz,.str rfl hz,rfl,zero_le _,by simpa using hq⟩
end
section
variable {X:Cx} {K:W.Frag} {a b:Expr} {wa wb:WE} {pos:Pos}
theorem zee (a:Array Nat):∀ (n:Nat) (b:Array Nat),((List.replicate n a).foldl (·++·) b).toList=b.toList++(List.replicate n a.toList).flatten
 | 0,b=>by simp
 | n + 1,b=>by
   rw [List.replicate_succ,List.foldl_cons,zee a n,List.replicate_succ,List.flatten_cons,toList_append,append_assoc]
theorem znP (h0:0<=n):(Txt.mul x n).cps.toList=(List.replicate n.toNat x.cps.toList).flatten:=by
 unfold Txt.mul
 by_cases h1:n < 1
 ·rw [if_pos h1,show n=0 by lia]; rfl
 ·rw [if_neg h1]
  by_cases h2:(n == 1 || x.length == 0)=true
  ·rw [if_pos h2]
   rw [or_eq_true,beq_iff_eq,beq_iff_eq] at h2
   rcases h2 with h2 | h2
   ·subst h2; simp
   ·have:x.cps.toList=[]:=by
     have e:x.cps.size=0:=h2
     rw [<- List.length_eq_zero_iff,length_toList]; exact e
    rw [this]; simp
  ·rw [if_neg h2]
   show ((List.replicate n.toNat x.cps).foldl (·++·) #[]).toList=_
   rw [zee]; simp
noncomputable def rMulS:R2:=fun x y H Q=>∃ z n,x=.str z/\y=.int n/\0<=n/\n<=1000/\z.length<=500/\Q (.str (Txt.mul z n)) H
theorem zln:OpR X (binaryOp .Mult) rMulS:=by
 intro pins s U H x y v u Q I rx ry h
 obtain ⟨z,n,rfl,rfl,h0,h1,hz,q⟩:=h
 obtain ⟨t,rfl⟩:=rx
 obtain ⟨t',rfl⟩:=ry
 refine SB.mul ⟨?_,fun h _=>?_,fun h _=>?_⟩ fun t2 k=>⟨.str _,H,I.kept fun _ _ z=>z,⟨_,rfl⟩,q⟩
 ·grind
 ·have h3:(9223372036854775807:Int) / 1000<=(2 ^ 63 - 1) / n:=by
   rw [Int.le_ediv_iff_mul_le (by lia)]
   grind
  grind
 ·have h4:z.length * n.toNat<=500 * 1000:=Nat.mul_le_mul hz (by lia)
  simp only [Builtin.Str.tooLong,decide_eq_false_iff_not,sizeLine_eq]
  lia
theorem zhE:Does K (fun x y H Q=>(rI CMul fun i j=>.int (i * j)) x y H Q\/rMulS x y H Q) oMulA:=by
 intro U O F G H x y p q s Q rel rx ry e hq
 unfold oMulA at e
 split at e
 ·rename_i l n
  split at e
  ·rename_i hc
   cases e
   obtain ⟨h0,h1,hz⟩:=hc
   obtain ⟨z,rfl,e1,_⟩:=rx.str
   have ey:y=.int n:=by
    rcases ry with ry | ⟨_,_,_,_,e,_⟩ | ⟨_,_,_,_,_,e,_⟩ | ⟨_,_,_,_,_,e,_⟩
    ·cases ry; rfl
    ·cases e
    ·cases e
    ·cases e
   subst ey
   have hzl:z.length=l.length:=by rw [<- e1,length_toList]; rfl
   refine .inr ⟨z,n,rfl,rfl,h0,h1,by lia,?_⟩
   refine hq _ F H (Same.refl F) (rel.push (.str ?_ ?_))
   ·rw [znP h0,e1]
   ·have h4:n.toNat * l.length<=1000 * 500:=Nat.mul_le_mul (by lia) hz
    have e5:∀ m,((List.replicate m l).flatten).length=m * l.length:=fun m=>by simp [List.length_flatten]
    rw [e5]; lia
  ·cases e
 ·exact .inl (zjK U O F G H x y _ _ s Q rel rx ry e hq)
theorem zaW (ha:FE X a wa) (hb:FE X b wb):FE X (.BinOp a .Mult b pos) (wBin oMulA wa wb):=zbT (fun _ _=>OpR.or zot zln) zhE ha hb
end
end FL
end
section
namespace FL
end FL
end
section
namespace FL
open PySem PySem.Spec PyProof.Rows L2
end FL
end
section
namespace FL
end FL
end
section
namespace FL
open PySem PySem.Spec PyProof.Rows L2
section
variable {X:Cx} {pins:List (Addr×Obj)} {U:St} {H:Hp} {s:Shared} {a:Addr} {y v:V} {u r:Value} {A:Around} {E:Value->Shared->Prop}
theorem zhC (hu:A.units < cLine) (I:Inv X pins U H s) (g:DPut H a y v H') (ry:RelV y u) (rv:RelV v r) (h:∀ s',Inv X pins U H' s'->Q () s'):
  wpAny (model X.prog X.w) A (dictSet a u r) Q E s:=by
 rcases g with ⟨kvs,k,e,ey,l,eH⟩ | ⟨kvs,k,b,e,ey,eb,l,eH⟩
 ·subst ey eH
  obtain ⟨z,hd,vs,rel,dd⟩:=zkS I.hok e
  refine wpAny_dictSet_pairs (hsz:=by rw [<- rel.length]; exact z) (ze9 ry) dd fun h' dd' hs=>h _ ?_
  exact zc3 I (by rw [e]; exact True.intro) hs (let ⟨q,_,_,hq,_⟩:=dd'; ⟨q,hq⟩) (zh0 (by have:=zaJ kvs k v; lia) hd (rel.put k rv) dd')
 ·subst ey eH
  cases (show u=Value.ref b from ry)
  obtain ⟨z,hd,xs,rel,dd⟩:=zmo I.hok e
  refine wpAny_dictSet_heap (hsz:=by rw [<- Paired.length rel]; exact z) hu (zdh I.hok eb) dd fun h' dd' hs=>h _ ?_
  obtain ⟨q,es,ep,hq,h2,h3,h4,_,h5⟩:=dd'
  refine zc3 I (by rw [e]; exact True.intro) hs ⟨q,hq⟩ ⟨by have:=zaJ kvs k v; lia,hd,_,(rel.put k eb rv).keeps fun c ys ec=>?_,q,es,ep,hq,h2,h3,h4,h5⟩
  rw [zaf (zmU ec e (fun z=>nomatch z))]
  exact ec
end
section
variable {X:Cx} {pos:Pos}
theorem zme (hr:Room k A):A.units < cLine:=Nat.lt_of_succ_lt (zfd hr)
end
end FL
end
section
namespace FL
end FL
end
section
namespace FL
open PySem PySem.Spec PyProof.Rows L2
noncomputable def dO (K:W.Frag) (f:Addr):FuncData:=match K.lookup f with
 | some ⟨_,_,.func d,_⟩=>d
 | _=>default
theorem zns {K:W.Frag} (l:K.lookup f=some ⟨oc,od,.func d,sl⟩):dO K f=d:=by unfold dO; rw [l]
inductive Lk (K:W.Frag) (n:Str) (st:Stmt) (f:Addr):Prop
 | mk {oc kV dc pm cd ct:Value} {od an:Option Addr} {sl:Array (Option Value)} (a:W.nsIn K mainGlobals n=some (some (.ref f))) (l:K.lookup f=some ⟨oc,od,.func (W.fnOf n n (defArgs st) (defBody st) (defScope st) .none kV dc pm an cd ct),sl⟩)
   (c:W.codeIn K cd n=true) (k:W.keepIn K (.ref f)=true):Lk K n st f
structure Tx (K:W.Frag) (mg:Str->Option Value) (f:Addr) (n:Str) (st:Stmt) (ps:List Str):Prop where
 F:Fun K n n st f (dO K f)
 m:mg n=some (.ref f)
 k:W.keepIn K (.ref f)=true
 b:Binds K (dO K f) ps []
noncomputable def Bd0 (n:Str) (st:Stmt) (ps:List Str):Prop:=∀ (kV doc pm:Value) (an:Option Addr) (cdv ct:Value) (us:List Value),us.length=ps.length->bindArgs (W.fnOf n n (defArgs st) (defBody st) (defScope st) .none kV doc pm an cdv ct) ⟨us,[]⟩=pure (ps.zip us)
section
variable {K:W.Frag} {mg:Str->Option Value} {f:Addr} {n:Str} {st:Stmt} {ps:List Str} {h:Heap}
theorem Lk.mm (t:Lk K n st f) (X:K.In h) (G:h.Ns mainGlobals mg):mg n=some (.ref f):=by
 obtain ⟨a,l,c,k⟩:=t
 exact W.mg_of X G a
theorem Lk.tx (t:Lk K n st f) (X:K.In h) (G:h.Ns mainGlobals mg) (b:Bd0 n st ps:=by intro _ _ _ _ _ _ us hl; first | (obtain ⟨_,rfl⟩:=vlen1 (l:=us) hl; rfl) | (obtain ⟨_,_,rfl⟩:=vlen2 (l:=us) hl; rfl) | (obtain ⟨_,_,_,rfl⟩:=vlen3 (l:=us) hl; rfl) | (obtain ⟨_,_,_,_,rfl⟩:=vlen4 (l:=us) hl; rfl) | (obtain ⟨_,_,_,_,_,rfl⟩:=vlen5 (l:=us) hl; rfl)):Tx K mg f n st ps:=by
 obtain ⟨a,l,c,k⟩:=t
 have e:=zns l
 have F:=zoa l c k
 refine ⟨?_,W.mg_of X G a,k,?_⟩
 ·rw [e]; exact F
 ·rw [e]; exact F.binds b
theorem Lk.bt (t:Lk K n st f) (s:Shared) (v:Value) (b:Bd0 n st [x]:=by intro _ _ _ _ _ _ us hl; obtain ⟨_,rfl⟩:=vlen1 (l:=us) hl; rfl):BindsTo s (dO K f) ⟨[v],[]⟩ [(x,v)]:=by
 obtain ⟨a,l,c,k⟩:=t
 have e:=zns l
 rw [e]
 exact .of_eq (b _ _ _ _ _ _ [v] rfl)
end
section
variable {X:Cx} {ks:List Nat} {pos:Pos} {x:Str}
theorem fw (i:Nat) (hN:X.N[i]?=some x:=by rfl) (hv:Vis X.env.scope x:=by first | exact Or.inl rfl | exact Or.inr (Or.inl rfl) | exact Or.inr (Or.inr rfl)) (hd:(x == ("__debug__":Str))=false:=by decide)
  (hcd:(x == ("__classdict__":Str))=false:=by decide):FE X (.Name x pos) (wVar i):=zlX hN hv hd hcd
theorem gnm (i:Nat) (hnd:X.N.Nodup) (hk:i∉ks:=by decide) (hi:X.N[i]?=some x:=by rfl) (hx:Loc X.env.scope x:=by first | exact Or.inl rfl | exact Or.inr rfl) (hf:X.fn x=true\/X.env.scope.names.lookup x=some .local:=by exact Or.inl rfl):FG X ks (.Name x pos) (FL.gName i):=zhk hk (fun j hj=>zco hnd hj hi) hi hx hf
theorem gcm (i:Nat) (hk:i∉ks:=by decide) (hu:(X.N.zipIdx.all fun p=>!(p.1 == x) || p.2 == i)=true:=by kernel_rfl) (hi:X.N[i]?=some x:=by rfl) (hx:Loc X.env.scope x:=by first | exact Or.inl rfl | exact Or.inr rfl) (hf:X.fn x=true\/X.env.scope.names.lookup x=some .local:=by first | exact Or.inr rfl | exact Or.inl rfl):FG X ks (.Name x pos) (FL.gName i):=zhk hk (uq hu) hi hx hf
variable {k j n:Nat} {f:Addr} {ps:List Str} {st:Stmt} {wf:WF} {wa:WA} {e:Expr} {es:List Expr} {p:Pos}
theorem fcl (ms:List Bool) (t:Tx X.K X.mg f x st ps) (Fk:FnOk X.prog X.w X.K X.mg X.base (CXe X.prog X.w) k f (dO X.K f) ps (spW X.K wf n)) (hr:Room j X.A) (ha:FA X (e::es) wa) (hj:k<=j:=by decide) (hg:Gl X x:=by rfl) (hlen:∀ ss P PX,wf ss P PX->ss.length=n:=by exact fun _ _ _ h=>h.1)
  (hdb:(x == ("__debug__":Str))=false:=by decide) (he:starEach (e::es) X.env=(false,eval e X.env)::starEach es X.env:=by rfl) (hpl:(backTo pos (starEach es X.env)).any (·.1)=false:=by rfl):
  FE X (.Call (.Name x p) (e::es) [] pos) (wCall wf ms wa):=zk6 Fk (hr.mono hj) hg t.m t.k t.b ha hlen hdb he hpl
end
end FL
end
section
namespace FL
end FL
end
section
namespace FL
open PySem PySem.Spec PyProof.Rows L2
section
open PySem.W HT
variable {prog:Program} {w:World} {A:Around} {s:Shared} {b:Bool} {Q:Bool->Shared->Prop}
end
end FL
end
section
namespace FL
end FL
end
section
namespace FL
open PySem PySem.Spec PyProof.Rows L2
end FL
end
section
namespace TS
open PySem PyProof.Rows
end TS
end
section
namespace FL
open PySem PySem.Spec PyProof.Rows L2 PySem.W
end FL
end
section
namespace FL
open PySem PySem.Spec PyProof.Rows L2
open PySem.Builtin.Str (strSliceIndices)
end FL
end
section
namespace FL
open PySem PySem.Spec PyProof.Rows L2
end FL
end
section
namespace ST
open PySem
section
variable {prog:Program} {w:World} {A:Around} {E:Value->Shared->Prop} {s:Shared} {Q:Value->Shared->Prop}
variable {K:Type} [DecidableEq K] {knd:KeyKind prog w K} {a:Addr} {xs:List (K×Value)} {ld:Bool}
end
end ST
namespace FL
open PySem PySem.Spec PyProof.Rows L2
end FL
end
section
namespace FL
noncomputable def wDispT (k v:WE):WE:=fun O Q E=>k O (fun x O1=>v O1 (fun y O2=>need (view x O2) fun q=>need (give y O2) fun p=>isKey true q=true/\Q (.v (.dct true [q] [p.1])) p.2) E) E
noncomputable def isIT:D->Bool
 | .tup l=>(intsD l).isSome
 | _=>false
end FL
end
section
namespace FL
open PySem PySem.Spec PyProof.Rows L2
section
variable {prog:Program} {w:World} {A:Around} {E:Value->Shared->Prop} {s:Shared} {env:PySem.Env}
theorem zjw {k v:Expr} {pos:Pos} {Q:Value->Shared->Prop}
  (h:wpAny (model prog w) A (eval k env) (fun kv s1=>wpAny (model prog w) A (eval v env) (fun vv s2=>wpAny (model prog w) A (dictSet s.heap.objs.size kv vv) (fun _ s3=>Q (.ref s.heap.objs.size) s3) E s2) E s1) E
   { s with heap:=s.heap.push { cls:=.type "dict",data:=.dict #[] } }):wpAny (model prog w) A (eval (.Dict [some k] [v] pos) env) Q E s:=by
 rw [arm_eval_Dict,zip_pairTrees [some k] [v] env pos rfl rfl,dictDisplay_pairs (pairTrees [some k] [v] env pos) (by intro z; cases z) (by show 1 < 17; decide)]
 refine qa (wpAny_standAt (qa ?_))
 unfold subDict
 refine qa (wpAny_alloc (qa (wpAny_holding ?_)))
 rw [if_pos (by show 1<=15; decide)]
 refine qa (pairTrees_cons_walk (wpAny_mono h (fun kv s1 h1=>wpAny_mono h1 (fun vv s2 h2=>pairTrees_nil_walk ?_) fun _ _ e=>e) fun _ _ e=>e))
 refine wpAny_holding ?_
 refine qa ?_
 rw [List.forIn_cons]
 refine qa (qa (wpAny_mono h2 (fun _ s3 h3=>?_) fun _ _ e=>e))
 refine qb ?_
 simp only [List.forIn_nil]
 exact qb (qb (qb (qb h3)))
end
section
variable {X:Cx} {pos:Pos}
noncomputable def tDispT (tk tv:TE):TE:=fun U H Q=>∀ p,H p=none->tk U (upd H p (.dT [])) fun x H1=>tv U H1 fun y H2=>∃ H3,DPut H2 p x y H3/\Q (.ref p) H3
theorem zjZ {k v:Expr} {tk tv:TE} (hu:X.A.units < cLine) (hk:PE X k tk) (hv:PE X v tv):PE X (.Dict [some k] [v] pos) (tDispT tk tv):=by
 intro pins s U H Q I q
 have hn:=I.hok.fresh (le_refl s.heap.objs.size)
 have I1:=I.laid (a:=s.heap.objs.size) (o:=.dT []) (h':=s.heap.push { cls:=.type "dict",data:=.dict #[] }) (t':=s.toks) (fun _ _ q=>qc _ q) (le_refl _) (zjb s.heap I.big)
 exact zjw (wpAny_mono (hk pins _ U _ _ I1 (q _ hn)) (fun kv s1 ⟨x,H1,I2,rv,q1⟩=>wpAny_mono (hv pins s1 U H1 _ I2 q1) (fun vv s2 ⟨y,H2,I3,ru,H3,dp,q2⟩=>zhC hu I3 dp rv ru fun s' I'=>⟨.ref _,H3,I',rfl,q2⟩) fun _ _ e=>e) fun _ _ e=>e)
theorem zi0 {k v:Expr} {wk wv:WE} (hu:X.A.units < cLine) (hk:FE X k wk) (hv:FE X v wv):FE X (.Dict [some k] [v] pos) (wDispT wk wv):=fun pn xe hp=>by
 refine PE.imp (zjZ (X:=wp X pn xe) hu (hk pn xe hp) (hv pn xe hp)) fun U H Q q=>?_
 obtain ⟨F,G,O,P,PX,rel,hw,hok,hx⟩:=q
 intro p hp
 have r0:=Rel.newO (s:=.dct true [] []) rel hp (.dT (kvs:=[]) zai rfl .nil)
 obtain ⟨G0,rel0,g0,back0⟩:=r0.hide (len1 r0)
 refine ⟨F,G0,O,_,PX,rel0,hw,fun rx O1 vx F1 H1 hk1 s1 r1 rv1=>?_,hx.mono (fun _ z=>z) (Same.refl F) g0⟩
 have l1:=len1 r1
 obtain ⟨G1,rel1,g1,back1⟩:=r1.hide l1
 refine ⟨F1,G1,O1,_,PX,rel1,hk1,fun ry O2 vy F2 H2 hk2 s2 r2 rv2=>?_,hx.mono (fun _ z=>z) s1 (g0.trans g1)⟩
 have l2:=len1 r2
 obtain ⟨q,eq,hk3⟩:=zae hk2
 obtain ⟨⟨t,O3⟩,eg,hkey,hk4⟩:=zae hk3
 have r3:=back0 (s1.trans s2) (back1 s2 r2)
 simp only [append_assoc,cons_append,nil_append] at r3
 obtain ⟨F3,s3,l3,r4⟩:=giveR (O':=[slotOf rx,some (.dct true [] [])]) (U':=[some vx,some (.ref p)]) r3 l2 rv2 eg
 have r3':Rel X.K (O2++slotOf rx::[some (.dct true [] [])]) (U++some vx::[some (.ref p)]) F2 G H2:=r3.mid l2
 have rq:=look (O':=[some (.dct true [] [])]) (U':=[some (.ref p)]) r3' l2 rv1 eq
 have l3':O3.length=U.length:=l3.trans l2
 have r5:Rel X.K (O3++[some t,some (.dct true [] [])]) (U++[some vy,some (.ref p)]) F3 G H2:=by
  have:=Rel.mid (O:=O3++[some t]) (U:=U++[some vy]) (O':=[some (.dct true [] [])]) (U':=[some (.ref p)]) (o:=slotOf rx) (w:=some vx) (by simpa using r4) (by simp [l3'])
  simpa using this
 have r6:=Rel.swap (O1:=[some t]) (U1:=[some vy]) (O2:=[some (.dct true [] [])]) (U2:=[some (.ref p)]) l3' rfl r5
 have r7:Rel X.K ((O3++[some (.dct true [] [])])++[some t]) ((U++[some (.ref p)])++[some vy]) F3 G H2:=by simpa using r6
 have hs7:slot (O3++[some (.dct true [] [])]) O3.length=some (.dct true [] []):=zax (O':=[])
 have hU7:(U++[some (V.ref p)])[O3.length]?=some (some (.ref p)):=by rw [l3']; simp
 obtain ⟨H',dp,r8⟩:=Rel.dput r7 hs7 hU7 rq hkey .nil (by decide)
 have e9:(O3++[some (S.dct true [] [])]).set O3.length (some (dputS true [] [] q t))=O3++[some (.dct true [q] [t])]:=zbu (O':=[])
 rw [e9] at r8
 exact ⟨H',dp,hok _ O3 _ F3 _ hk4 (s1.trans (s2.trans s3)) r8 trivial⟩
end
section
variable {K:W.Frag} {F G H:Hp} {O:Env} {U:St}
theorem Rel.growT (r:Rel K O U F G H) (bs:List Addr) (hb:∀ b∈bs,∃ xs,H b=some (.tup xs)):∃ F',Same F F'/\Rel K O U F' G H/\∀ b∈bs,F' b=H b:=by
 obtain ⟨fp,e,nd,ap⟩:=r.en
 have sm:Same F fun a=>(F a).or (if a∈bs then H a else none):=fun a o q=>by simp only [q,some_or]
 have key:∀ {a o},H a=some o->noTup o=true->F a=none->(F a).or (if a∈bs then H a else none)=none:=fun {a o} h1 h2 h3=>by
  rw [h3,none_or,if_neg]
  intro z
  obtain ⟨xs,q⟩:=hb a z
  rw [h1] at q
  cases q
  cases h2
 refine ⟨_,sm,⟨fun a o q=>?_,fun a o q=>?_,fp,e.mono sm fun _ _=>rfl,nd,fun a ha=>?_⟩,fun b hb'=>?_⟩
 ·cases qf:F a with
  | some u=>rw [qf,some_or] at q; cases q; exact r.fr a _ qf
  | none=>
    rw [qf,none_or] at q
    split at q
    ·exact q
    ·cases q
 ·obtain ⟨⟨h1,h2⟩,h3⟩:=r.gr a o q
  exact ⟨⟨h1,h2⟩,key h1 h2 h3⟩
 ·obtain ⟨o,h1,h2⟩:=e.in_ a ha
  exact ⟨key h1 h2 (ap a ha).1,(ap a ha).2⟩
 ·cases qf:F b with
  | some u=>rw [some_or,r.fr b u qf]
  | none=>rw [none_or,if_pos hb']
end
section
variable {X:Cx} {K:W.Frag}
theorem zcd {α β:Type} {R:α->β->Prop} {l:List α} {m:List β} (r:Paired R l m) {i:Nat} {x:α} {y:β} (h1:l[i]?=some x) (h2:m[i]?=some y):R x y:=by
 induction r generalizing i with
 | nil=>cases h1
 | cons a b ih=>
   cases i with
   | zero=>cases h1; cases h2; exact a
   | succ i=>exact ih h1 h2
theorem intKeys (F:Hp):∀ ks:List Key,(intsD (ks.map keyD)).isSome=true->Reps K F (ks.map kV) (ks.map keyD)
 | [],_=>.nil
 | .inl i::ks,h=>.cons (.int i) (intKeys F ks (by
   have h':((intsD (ks.map keyD)).map (i::·)).isSome=true:=h
   rwa [isSome_map] at h'))
 | .inr x::ks,h=>nomatch h
end
end FL
end
section
namespace FL
end FL
end
section
namespace FL
open PySem PySem.Spec PyProof.Rows L2
end FL
end
section
namespace FL
noncomputable def oShl:D->D->Option S
 | .int i,.int j=>if 0<=j/\j<=1000/\i.natAbs < 2 ^ 64 then some (.sh (.int (i * 2 ^ j.toNat))) else none
 | _,_=>none
noncomputable def oShr:D->D->Option S
 | .int i,.int j=>if 0<=j then some (.sh (.int (i / 2 ^ j.toNat))) else none
 | _,_=>none
noncomputable def oAnd1:D->D->Option S
 | .int i,.int j=>if 0<=i/\j=1 then some (.sh (.int (i % 2))) else none
 | _,_=>none
mutual
noncomputable def like:D->D->Bool
 | .int _,.int _=>true
 | .tup l,.tup m=>likes l m
 | _,_=>false
noncomputable def likes:List D->List D->Bool
 | a::l,b::m=>like a b && likes l m
 | _,_=>true
end
noncomputable def cLtT (a b:D):Option Bool:=if like a b=true/\dep a<=9 then some (decide (cmpD a b=.lt)) else none
noncomputable def least:D->List D->D
 | b,[]=>b
 | b,d::r=>least (if cmpD d b=.lt then d else b) r
noncomputable def minDf:D->D->Option S
 | .lst [],.non=>some (.sh .non)
 | .lst [],.tup l=>some (.sh (.tup l))
 | .lst (b::r),_=>if (b::r).all (fun x=>(b::r).all fun y=>like x y && decide (dep x<=9))=true then some (.sh (least b r)) else none
 | _,_=>none
noncomputable def wListIt (j:Nat):WE:=fun O Q _=>match slot O j with
 | some (.dct true ks l)=>(l.all S.isSh=true/\ks.all isIT=true/\ks.length<=big)/\Q (.v (.lst ((zipD ks (l.map S.toD)).map .sh))) O
 | _=>False
noncomputable def wItemsT (j:Nat):WI:=fun O Q _=>match slot O j with
 | some (.dct true ks l)=>l.all S.isSh=true/\ks.all isIT=true/\Q (zipD ks (l.map S.toD)) (O.set j (some (.sh (.dct true ks (l.map S.toD)))))
 | _=>False
end FL
end
section
namespace FL
open PySem PySem.Spec PyProof.Rows L2
noncomputable def addH (H N:Hp):Hp:=fun a=>(N a).or (H a)
section
variable {X:Cx} {pins:List (Addr×Obj)} {U:St} {H N F G:Hp} {s:Shared} {h':Heap} {K:W.Frag} {O:Env}
theorem za1 (hN:∀ a o,N a=some o->H a=none) (e:H b=some o):addH H N b=some o:=by
 unfold addH
 cases q:N b with
 | none=>exact e
 | some u=>rw [hN b u q] at e; cases e
theorem Inv.many (I:Inv X pins U H s) (k:∀ b u,s.heap.get? b=some u->h'.get? b=some u) (hN:∀ a o,N a=some o->s.heap.objs.size<=a) (new:∀ a o,N a=some o->ObjOk X.prog X.w (addH H N) h' a o):
  Inv X pins U (addH H N) { s with heap:=h',toks:=t' }:=by
 have hn:∀ a o,N a=some o->H a=none:=fun a o e=>I.hok.fresh (hN a o e)
 refine I.un ⟨fun b u q _ _ _=>k b u q,fun b u q _ _ _=>⟨u.slots,k b u q⟩,fun b u q n _=>?_,fun b u q _=>⟨u,k b u q⟩,fun b xs q=>za1 hn q,fun b u xs q=>za1 hn q,fun b ps q=>⟨#[],by rw [za1 hn q]; simp⟩⟩ fun b u e=>?_
 ·unfold addH
  cases e:N b with
  | none=>exact n
  | some v=>exact absurd (hN b v e) (Nat.not_le.mpr (qe q))
 ·cases q:N b with
  | some v=>
    have e2:addH H N b=some v:=by unfold addH; rw [q]; rfl
    rw [e2] at e
    cases e
    exact new b _ q
  | none=>
    have e2:H b=some u:=by unfold addH at e; rw [q] at e; exact e
    exact (I.hok b u e2).stay (fun c v _ z=>k c v z) (fun c z=>za1 hn z) fun c xs z=>za1 hn z
theorem Rel.many (r:Rel K O U F G H) (hN:∀ a o,N a=some o->H a=none):Same F (addH F N)/\Rel K O U (addH F N) G (addH H N):=by
 have hF:∀ a o,N a=some o->F a=none:=fun a o e=>(r.free (hN a o e)).1
 have sm:Same F (addH F N):=fun a o e=>za1 hF e
 obtain ⟨fp,e,nd,ap⟩:=r.en
 have key:∀ a,(∃ o,H a=some o)->N a=none:=fun a ⟨o,h⟩=>by
  cases q:N a with
  | none=>rfl
  | some u=>rw [hN a u q] at h; cases h
 refine ⟨sm,fun a o q=>?_,fun a o q=>?_,fp,e.mono sm fun a ha=>?_,nd,fun a ha=>⟨?_,(ap a ha).2⟩⟩
 ·unfold addH at q ⊢
  cases z:N a with
  | some u=>rw [z] at q; exact q
  | none=>rw [z] at q; exact r.fr a o q
 ·obtain ⟨⟨h1,h2⟩,h3⟩:=r.gr a o q
  exact ⟨⟨za1 hN h1,h2⟩,by unfold addH; rw [key a ⟨o,h1⟩]; exact h3⟩
 ·obtain ⟨o,h,_⟩:=e.in_ a ha
  unfold addH; rw [key a ⟨o,h⟩]; rfl
 ·obtain ⟨o,h,_⟩:=e.in_ a ha
  unfold addH; rw [key a ⟨o,h⟩]; exact (ap a ha).1
end
theorem Rel.newX {K:W.Frag} {O:Env} {U:St} {F G H:Hp} {u:HO} (r:Rel K O U F G H) (hv:H v=none):Rel K O U F G (upd H v u):=by
 obtain ⟨f0,g0,n0⟩:=r.free hv
 obtain ⟨fp,e,nd,ap⟩:=r.en
 refine ⟨Same.updR r.fr f0,fun b ob z=>?_,fp,e.mono (Same.refl F) fun b hb=>zaf fun w=>n0 fp e (w ▸ hb),nd,ap⟩
 have hb:b≠v:=fun w=>by rw [w,g0] at z; cases z
 rw [zaf hb]; exact r.gr b ob z
noncomputable def vwφ (v a:Addr) (h:Heap):Prop:=h.IsItemsView v a
section
variable {X:Cx} {tpos apos cpos:Pos} {o:Expr} {K:W.Frag}
noncomputable def tItems (tl:TE):TE:=fun U H Q=>tl U H fun x H1=>∃ a kvs,x=.ref a/\Rd H1 a (.dT kvs)/\∀ v,H1 v=none->Q (.ref v) (upd H1 v (.ext (vwφ v a)))
theorem zhf {kvs:List (List Key×V)} (ok:HOk P w H h) (hq:Rd H a (.dT kvs)):∃ ys es ep,ST.RawD h a es ep/\KT H kvs ys/\es.toList=ys.map (entryOfKey (tupleKind (mixKind P w)))/\kvs.length<=sizeLine/\(a == sysModules)=false:=by
 obtain ⟨z,hm,ys,kt,o,es,ep,h1,h2,h3,h4,h5,h6⟩:=zgl ok hq
 exact ⟨ys,es,ep,⟨o,h1,h2,h3⟩,kt,h4,z,hm⟩
theorem zfR (hl:PE X o tl) (hbase:attributeBase o "items" X.env (eval o X.env)=eval o X.env:=by rfl) (hline:(apos.endLine == cpos.line)=true:=by rfl):PE X (.Call (.Attribute o "items" apos) [] [] cpos) (tItems tl):=by
 intro pins s U H Q I h
 refine wpAny_Call_method (T:="dict") (id:="dict.items") hbase rfl hline F.plainAttrs_dict F.slot_dict_items F.type_dict_items (thn (hl pins s U H _ I h) fun u s1 zq=>?_)
 obtain ⟨x,H1,I1,rx,a,kvs,ex,hH,q⟩:=zq
 subst ex
 obtain rfl:u=Value.ref a:=rx
 obtain ⟨ys,es,ep,raw,_,_,_,hm⟩:=zhf I1.hok hH
 obtain ⟨ob,g1,g2,g3⟩:=id raw
 refine ⟨raw.type,fun b e=>by cases e; exact ⟨ob,g1,g2.2.1⟩,?_⟩
 show wpAny _ _ (callWith cpos (.builtin "dict.items") [.ref a] [] []) _ _ s1
 refine method_meetsIn F.slot_dict_items F.entry_dict_items rfl (PySem.evalArgs_none ⟨rfl,raw.type,F.args_dict_items_1 _,_,ST.pair_view hm,⟨es,ep,raw⟩,?_⟩)
 refine ⟨.ref _,_,I1.laid (t':=s1.toks) (o:=.ext (vwφ _ a)) (fun _ _ q=>qc _ q) (le_refl _) ⟨⟨_,qd _ rfl,rfl,rfl⟩,⟨_,qd _ rfl⟩,fun h1 h2 φ kp=>?_⟩,rfl,q _ (I1.hok.fresh (le_refl _))⟩
 obtain ⟨o',e,r⟩:=φ
 exact ⟨o',kp _ e,r⟩
noncomputable def nwT (as:List Addr) (h:Heap):Hp:=fun a=>if a∈as then (match h.get? a with
 | some o=>match o.data with
   | .seq its _=>(its.toList.mapM absV).map .tup
   | _=>none
 | none=>none) else none
theorem zmD {as:List Addr} {h:Heap} (ha:a∈as) (e:h.get? a=some (ST.tup2 u v)) (r1:RelV x u) (r2:RelV y v):nwT as h a=some (.tup [x,y]):=by
 unfold nwT
 rw [if_pos ha,e]
 show (([u,v]:List Value).mapM absV).map HO.tup=_
 simp [r1.abs,r2.abs]
noncomputable def rListIt:List V->Hp->VK->Prop:=fun xs H Q=>∃ v a,∃ kvs:List (List Key×V),xs=[.ref v]/\H v=some (.ext (vwφ v a))/\Rd H a (.dT kvs)/\∀ (bs as:List Addr) (N:Hp),bs.length=kvs.length->as.length=kvs.length->
 (∀ (i:Nat) (b:Addr) (kv:List Key×V),bs[i]?=some b->kvs[i]?=some kv->H b=some (.tup (kv.1.map kV)))->(∀ a o,N a=some o->H a=none)->
 (∀ (i:Nat) (c b:Addr) (kv:List Key×V),as[i]?=some c->bs[i]?=some b->kvs[i]?=some kv->N c=some (.tup [.ref b,kv.2]))->∀ p,addH H N p=none->Q (.ref p) (upd (addH H N) p (.lst (as.map .ref)))
theorem zeL (hc:X.calm=true):CallR X (.type "list") rListIt:=by
 intro pins s U H xs us Q I r h
 obtain ⟨v,a,kvs,rfl,hv,hq,q⟩:=h
 obtain ⟨u,rfl,rx⟩:=vals1 r
 cases (show u=Value.ref v from rx)
 obtain ⟨ys,es,ep,raw,kt,h4,z,hm⟩:=zhf I.hok hq
 have hl:=Paired.length kt
 have hes:es.size=ys.length:=by rw [<- length_toList,h4,length_map]
 obtain ⟨hvw,_⟩:=(show ObjOk X.prog X.w H s.heap v (.ext (vwφ v a)) from I.hok v _ hv)
 refine ST.pair_call (I.ok.hd hc) hvw raw (by rw [hes,<- hl]; exact z) fun h' tk acc c as hk hS' hal hG hacc=>?_
 have key:∀ (j:Nat) (b:Addr),as[j]?=some b->∃ kv y,kvs[j]?=some kv/\ys[j]?=some y/\H y.2.1=some (.tup (kv.1.map kV))/\nwT as h' b=some (.tup [.ref y.2.1,kv.2])/\h'.get? b=some (ST.tup2 (.ref y.2.1) y.2.2)/\RelV kv.2 y.2.2:=fun j b hj=>by
  obtain ⟨hjs,e⟩:=hG.pr j b hj
  have hjy:j < ys.length:=hes ▸ hjs
  have hjk:j < kvs.length:=hl.symm ▸ hjy
  have e3:(ys.map (entryOfKey (tupleKind (mixKind X.prog X.w))))[j]?=some es[j]:=by rw [<- h4,getElem?_toList,getElem?_eq_getElem hjs]
  rw [getElem?_map,qi hjy] at e3
  have e4:=qg e3
  obtain ⟨_,p2,p3⟩:=zcd kt (qi hjk) (qi hjy)
  rw [<- e4] at e
  exact ⟨_,_,qi hjk,qi hjy,p2,zmD (mem_of_getElem? hj) e rfl p3,e,p3⟩
 have hin:∀ b o,nwT as h' b=some o->b∈as:=fun b o e=>by
  unfold nwT at e
  split at e
  ·assumption
  ·cases e
 have hp:nwT as h' s.heap.objs.size=none:=by
  cases e:nwT as h' s.heap.objs.size with
  | none=>rfl
  | some o=>exact absurd (hG.ab _ (hin _ _ e)) (lt_irrefl _)
 have hx:upd (addH H (nwT as h')) s.heap.objs.size (.lst (as.map .ref))=addH H (upd (nwT as h') s.heap.objs.size (.lst (as.map .ref))):=by
  funext b
  unfold addH
  by_cases hb:b=s.heap.objs.size
  ·subst hb; rw [zai,zai]; rfl
  ·rw [zaf hb,zaf hb]
 have hge:∀ b o,upd (nwT as h') s.heap.objs.size (.lst (as.map .ref)) b=some o->s.heap.objs.size<=b:=fun b o e=>by
  by_cases hb:b=s.heap.objs.size
  ·rw [hb]; exact le_refl _
  ·rw [zaf hb] at e
   exact le_of_lt (hG.ab b (hin b o e))
 refine ⟨.ref s.heap.objs.size,_,Inv.many (N:=upd (nwT as h') s.heap.objs.size (.lst (as.map .ref))) I hk hge fun b o e=>?_,rfl,hx ▸ q (ys.map (·.2.1)) as (nwT as h') (by rw [length_map,hl]) (by rw [hal,hes,hl]) (fun i b kv e1 e2=>?_) (fun b o e=>I.hok.fresh (le_of_lt (hG.ab b (hin b o e)))) (fun i c b kv e1 e2 e3=>?_) _ ?_⟩
 ·by_cases hb:b=s.heap.objs.size
  ·subst hb
   rw [zai] at e
   cases e
   refine ⟨by rw [length_map,hal,hes,<- hl]; exact z,acc.toList,c,?_,by simpa using hS'⟩
   rw [hacc]
   refine za6 (by simp) fun j y v e1 e2=>?_
   rw [getElem?_map] at e1 e2
   cases e3:as[j]? with
   | none=>rw [e3] at e1; cases e1
   | some b=>rw [e3] at e1 e2; cases e1; cases e2; rfl
  ·rw [zaf hb] at e
   obtain ⟨j,hj⟩:=mem_iff_getElem?.mp (hin b o e)
   obtain ⟨kv,y,_,_,_,e1,e2,e3⟩:=key j b hj
   rw [e] at e1
   cases e1
   exact ⟨⟨by show 2<=sizeLine; rw [sizeLine_eq]; decide,fun o' e'=>by rw [e2] at e'; cases e'; rfl⟩,[_,_],.cons rfl (.cons e3 .nil),_,e2,rfl,_,rfl⟩
 ·rw [getElem?_map,map_eq_some_iff] at e1
  obtain ⟨w,e3,rfl⟩:=e1
  exact (zcd kt e2 e3).2.1
 ·obtain ⟨kv',y,g1,g2,_,g3,_⟩:=key i c e1
  rw [getElem?_map,g2] at e2
  rw [g1] at e3
  cases e2; cases e3
  exact g3
 ·unfold addH; rw [hp]; exact I.fresh
theorem zgd {F:Hp}:∀ (kvs:List (List Key×V)) (bs as:List Addr) (ds:List D),bs.length=kvs.length->as.length=kvs.length->(∀ (i:Nat) (b:Addr) (kv:List Key×V),bs[i]?=some b->kvs[i]?=some kv->F b=some (.tup (kv.1.map kV)))->
  (∀ (i:Nat) (c b:Addr) (kv:List Key×V),as[i]?=some c->bs[i]?=some b->kvs[i]?=some kv->F c=some (.tup [.ref b,kv.2]))->(kvs.map fun p=>D.tup (p.1.map keyD)).all isIT=true->Reps K F (kvs.map (·.2)) ds->Reps K F (as.map V.ref) (zipD (kvs.map fun p=>D.tup (p.1.map keyD)) ds)
 | [],[],[],[],_,_,_,_,_,_=>.nil
 | kv::kvs,b::bs,c::as,ds,h1,h2,h3,h4,h5,h6=>by
   cases h6 with
   | cons r t=>
     rw [map_cons,all_cons,and_eq_true] at h5
     exact .cons (.tup (h4 0 c b kv rfl rfl rfl) (.cons (.tup (h3 0 b kv rfl rfl) (intKeys F kv.1 h5.1)) (.cons r .nil))) (zgd kvs bs as _ (Nat.succ.inj h1) (Nat.succ.inj h2) (fun i b' kv' e1 e2=>h3 (i + 1) b' kv' e1 e2) (fun i c' b' kv' e1 e2 e3=>h4 (i + 1) c' b' kv' e1 e2 e3) h5.2 t)
theorem zhz (ho:FE X o (wVar j)) (hc:X.calm=true) (hg:Gl X "list") (hm:X.mg "list"=none) (hbase:attributeBase o "items" X.env (eval o X.env)=eval o X.env:=by rfl) (hline:(apos.endLine == cpos.line)=true:=by rfl)
  (he:starEach [.Call (.Attribute o "items" apos) [] [] cpos] X.env=(false,eval (.Call (.Attribute o "items" apos) [] [] cpos) X.env)::starEach [] X.env:=by rfl):
  FE X (.Call (.Name "list" p) [.Call (.Attribute o "items" apos) [] [] cpos] [] pos) (wListIt j):=fun pn xe hp=>by
 refine PE.imp (zcO (X:=wp X pn xe) (zeL hc) hg hm zeV (zdO (zfR (X:=wp X pn xe) (ho pn xe hp) hbase hline) zf4) (by decide) (by decide) he rfl) fun U H Q q=>?_
 obtain ⟨F,G,O,P,PX,rel,hw,hok,hx⟩:=q
 have hw':(match slot O j with
  | some (.dct true ks l)=>(l.all S.isSh=true/\ks.all isIT=true/\ks.length<=big)/\P (.v (.lst ((zipD ks (l.map S.toD)).map .sh))) O
  | _=>False):=hw
 cases qs:slot O j with
 | none=>rw [qs] at hw'; exact hw'.elim
 | some s0=>
   rw [qs] at hw'
   match s0,qs,hw' with
   | .dct true ks l,qs,⟨⟨hl,hko,hz⟩,hk⟩=>
     refine ⟨F,G,O,fun y O1=>y=.loc j/\O1=O,PX,rel,by unfold wVar; rw [qs]; exact ⟨rfl,rfl⟩,fun y O1 o' F1 H1 hk1 s1 r1 rv=>?_,hx⟩
     obtain ⟨rfl,rfl⟩:=hk1
     have hU:U[j]?=some (some o'):=rv
     have r2:=r1.drop (len1 r1)
     obtain ⟨v',fp,e1,sr⟩:=r2.at qs
     rw [hU] at e1
     have e2:o'=v':=by simpa using e1
     subst e2
     cases sr with
     | @dT a kvs _ _ fl hD hks rl=>
       obtain ⟨rp,_⟩:=rl.sh hl
       subst hks
       refine ⟨a,kvs,rfl,.inl hD,fun v hv=>?_⟩
       have hva:v≠a:=fun z=>by rw [z,hD] at hv; cases hv
       have r3:=r2.newX (u:=.ext (vwφ v a)) hv
       refine ⟨v,a,kvs,rfl,zai,.inl (by rw [zaf (Ne.symm hva)]; exact hD),fun bs as N hb1 hb2 hb3 hN hN2 p hp2=>?_⟩
       obtain ⟨F2,sm,r4,hF⟩:=r3.growT bs fun b hb'=>by
        obtain ⟨i,hi⟩:=mem_iff_getElem?.mp hb'
        have hlt:=(qh.mp hi).1
        exact ⟨_,hb3 i b kvs[i] hi (qi (hb1 ▸ hlt))⟩
       obtain ⟨sm2,r5⟩:=r4.many hN
       have hFN:∀ b ob,F2 b=some ob->addH F2 N b=some ob:=fun b ob e=>sm2 b ob e
       have hrep:Reps X.K (addH F2 N) (as.map V.ref) (zipD (kvs.map fun p=>D.tup (p.1.map keyD)) (l.map S.toD)):=zgd kvs bs as _ hb1 hb2 (fun i b kv e1 e2=>hFN b _ ((hF b (mem_of_getElem? e1)).trans (hb3 i b kv e1 e2))) (fun i c b kv e1 e2 e3=>by unfold addH; rw [hN2 i c b kv e1 e2 e3]; rfl) hko ((rp.mono sm).mono sm2)
       exact hok _ _ _ _ _ hk (s1.trans (sm.trans sm2)) (r5.newLD hp2 hrep) trivial
end
section
variable {K:W.Frag} {F H G:Hp} {U:St} {O:Env}
theorem Rel.frzT (r:Rel K O U F G H) (hs:slot O j=some (.dct true ks l)) (hl:l.all S.isSh=true):
  ∃ a kvs,U[j]?=some (some (.ref a))/\H a=some (.dT kvs)/\ks=kvs.map (fun p=>D.tup (p.1.map keyD))/\Reps K F (kvs.map (·.2)) (l.map S.toD)/\F a=none/\
    ∀ o,Rel K (O.set j (some (.sh (.dct true ks (l.map S.toD))))) U (upd F a (.frz o (.dT kvs))) G (upd H a (.frz o (.dT kvs))):=by
 obtain ⟨fp,e,nd,ap⟩:=r.en
 obtain ⟨v',fa,fi,fb,e1,rfl,q,up⟩:=e.at hs
 cases q with
 | @dT a kvs _ _ fl hD hks rl=>
   obtain ⟨rp,rfl⟩:=rl.sh hl
   obtain ⟨na,nib,nab⟩:=nodup_append.mp nd
   obtain ⟨ni,nb,nib⟩:=nodup_append.mp nib
   have hDa:a∉fa:=fun z=>nab a z a (qk _ qo) rfl
   have hDb:a∉fb:=fun z=>nib a qo a z rfl
   have apD:=ap a (qj _ (qk _ qo))
   refine ⟨a,kvs,e1,hD,hks,rp,apD.1,fun o=>?_⟩
   have sm:Same F (upd F a (.frz o (.dT kvs))):=Same.upd apD.1
   have a2:=up (F':=upd F a (.frz o (.dT kvs))) (H':=upd H a (.frz o (.dT kvs))) (o:=some (.sh (.dct true ks (l.map S.toD)))) (u:=some (.ref a)) sm (fun x hx=>zaf fun z=>(mem_append.mp hx).elim (fun w=>hDa (z ▸ w)) fun w=>hDb (z ▸ w)) (.so (.sh (.dT (.inr ⟨o,zai⟩) hks (rp.mono sm))) .nil)
   rw [zcm e1] at a2
   refine ⟨Same.upd2 r.fr,fun x u w=>?_,_,a2,?_,fun x hx=>?_⟩
   ·have hx:x≠a:=fun z=>by rw [z,apD.2] at w; cases w
    rw [zaf hx,zaf hx]
    exact r.gr x u w
   ·have:(fa++([]++[]++fb)).Sublist (fa++([a]++fb)):=by simp
    exact this.nodup nd
   ·have hm:x∈fa\/x∈fb:=by simpa using hx
    have hne:x≠a:=fun z=>hm.elim (fun w=>hDa (z ▸ w)) fun w=>hDb (z ▸ w)
    rw [zaf hne]
    exact ap x (hm.elim (fun w=>qk _ w) fun w=>qj _ (qj _ w))
end
noncomputable def ItdT (a:Addr) (o:Obj) (kvs:List (List Key×V)):It:=⟨fun i H=>H a=some (.frz o (.dT kvs))/\i < kvs.length,fun i H x H'=>∃ q b p,H q=none/\kvs[i]?=some p/\H b=some (.tup (p.1.map kV))/\x=.ref q/\H'=upd H q (.tup [.ref b,p.2]),fun i H=>H a=some (.frz o (.dT kvs))/\kvs.length<=i⟩
theorem zh1 {kvs:List (List Key×V)} (ok:HOk P w H h) (hH:H a=some (.frz o (.dT kvs))) (hd:o.data=.dict es ep):∃ ys,ST.RawD h a es ep/\KT H kvs ys/\es.toList=ys.map (entryOfKey (tupleKind (mixKind P w)))/\es.size=kvs.length:=by
 obtain ⟨ys,es',ep',⟨o',h1,h2,h3⟩,kt,h4,_⟩:=zhf ok (.inr ⟨o,hH⟩)
 obtain ⟨h0,_⟩:=(show ObjOk P w H h a (.frz o (.dT kvs)) from ok a _ hH)
 rw [h0] at h1
 cases h1
 rw [hd] at h3
 cases h3
 exact ⟨ys,⟨o,h0,h2,hd⟩,kt,h4,by rw [<- length_toList,h4,length_map,<- Paired.length kt]⟩
theorem ze7 {P:Program} {w:World} {K:W.Frag} {a it:Addr} {o:Obj} {kvs:List (List Key×V)} {es:Array DictEntry} {ep:Nat} {elts:List Expr} {k:Nat} {pos:Pos} (hd:o.data=.dict es ep):
  Turn P w K (.Tuple elts k pos) (ItdT a o kvs) [it] it (fun i h=>∃ ok ov,IsItemIter h it a i kvs.length ep ok ov) where
 mem:=by simp
 obj:=fun i h st b hb=>by
  obtain ⟨ok,ov,q⟩:=st
  have e:b=it:=by simpa using hb
  subst e
  exact ⟨_,q,fun v z=>by cases z⟩
 keep:=fun i h h' st kk=>by
  obtain ⟨ok,ov,q⟩:=st
  exact ⟨ok,ov,kk it (by simp) _ q⟩
 item:=by
  intro X hP hw hK hc i pins s U H E I hf st hg
  subst hP hw hK
  obtain ⟨ok,ov,q⟩:=st
  obtain ⟨hH,hi⟩:=hg
  obtain ⟨ys,raw,kt,h4,hes⟩:=zh1 I.hok hH hd
  have hjs:i < es.size:=hes ▸ hi
  have hl:=Paired.length kt
  have hjy:i < ys.length:=hl ▸ hi
  have e3:(ys.map (entryOfKey (tupleKind (mixKind X.prog X.w))))[i]?=some es[i]:=by rw [<- h4,getElem?_toList,getElem?_eq_getElem hjs]
  rw [getElem?_map,qi hjy] at e3
  have e4:=qg e3
  obtain ⟨_,p2,p3⟩:=zcd kt (qi hi) (qi hjy)
  have hil:it < s.heap.objs.size:=qe q
  rw [<- hes] at q
  refine ST.pair_next q (.inl ⟨rfl,rfl⟩) raw hjs fun h1 a1 oa f' ok' ov' hit ha hai hx _ hT hk=>?_
  obtain ⟨rfl,rfl⟩:=hx rfl
  refine ⟨_,rfl,wpAny_letOwnedTupleGo_items hit fun h2 he2 sb=>?_⟩
  have ne:s.heap.objs.size≠it:=ne_of_gt hil
  rw [<- e4] at hT
  have I2:Inv X pins U (upd H s.heap.objs.size (.tup [.ref ys[i].2.1,kvs[i].2])) { s with heap:=h2 }:=zct I (t':=s.toks) (ch:=[it]) (us:=[.ref ys[i].2.1,ys[i].2.2]) hf (fun b hb=>by rw [mem_singleton.mp hb]; exact hil) (by show 2<=_; decide) (.cons rfl (.cons p3 .nil)) ⟨_,sb.extBut _ _ ne hT,rfl,rfl,_,rfl⟩ fun b u hb z=>by
   have hb':b≠it:=by simpa using hb
   exact sb.extBut _ _ hb' (hk b u hb' z)
  refine ⟨.ref s.heap.objs.size,_,I2,rfl,⟨s.heap.objs.size,_,kvs[i],I.hok.fresh (le_refl _),qi hi,p2,rfl,rfl⟩,⟨_,_,by rw [<- hes]; exact he2⟩,fun b hb=>?_⟩
  rw [mem_singleton.mp hb,zaf (ne_of_lt hil)]
  exact (hf it (by simp)).1
 done:=by
  intro X hP hw hK hc i pins s U H E I hf st hg
  subst hP hw hK
  obtain ⟨ok,ov,q⟩:=st
  obtain ⟨hH,hi⟩:=hg
  obtain ⟨ys,raw,kt,h4,hes⟩:=zh1 I.hok hH hd
  rw [<- hes] at q
  exact ST.pair_end (I.ok.hd hc) q raw (by rw [hes]; exact hi) fun h' hx=>⟨rfl,zcF I (t':=s.toks) (ch:=[it]) hf fun b u hb z=>hx b u (by simpa using hb) z⟩
 self:=fun A i s Q E st h=>by
  obtain ⟨ok,ov,q⟩:=st
  have ty:s.TypeIs (.ref it) "dict_itemiterator":=⟨_,q,rfl⟩
  refine wpAny_pyIter_slot ty F.slot_dict_itemiterator_iter (wpAny_call_entry F.slot_dict_itemiterator_iter ty zlC ?_ (F.args_dict_itemiterator_iter_1 _))
  show wpAny _ _ (ret (.ref it)) _ _ s
  exact qb ⟨_,rfl,"dict_itemiterator",_,ty,F.slot_dict_itemiterator_next.lookup,h⟩
noncomputable def iItemsT (tl:TE):TI:=fun U H R=>tItems tl U H fun v H1=>∃ b a kvs,v=.ref b/\H1 b=some (.ext (vwφ b a))/\H1 a=some (.dT kvs)/\∀ o,R (ItdT a o kvs) (upd H1 a (.frz o (.dT kvs)))
section
variable {X:Cx} {elts:List Expr} {kk:Nat} {tpos apos cpos:Pos} {o:Expr}
theorem zhh (hl:PE X o tl) (hbase:attributeBase o "items" X.env (eval o X.env)=eval o X.env:=by rfl) (hline:(apos.endLine == cpos.line)=true:=by rfl):PI X (.Tuple elts kk tpos) (.Call (.Attribute o "items" apos) [] [] cpos) (iItemsT tl):=by
 intro pins s U H R I h
 refine thn (zfR hl hbase hline pins s U H _ I h) fun v s1 zq=>?_
 obtain ⟨x,H1,I1,rx,b,a,kvs,ex,hb,hH,q⟩:=zq
 subst ex
 obtain rfl:v=Value.ref b:=rx
 obtain ⟨hvw,_⟩:=(show ObjOk X.prog X.w H1 s1.heap b (.ext (vwφ b a)) from I1.hok b _ hb)
 obtain ⟨z,hm,xs,rel,ob,es,ep,g1,g2,g3,g4,g5⟩:=(show ObjOk X.prog X.w H1 s1.heap a (.dT kvs) from I1.hok a _ hH)
 have hes:es.size=kvs.length:=by rw [<- length_toList,g4,length_map,<- Paired.length rel]
 refine ST.pair_iter hvw ⟨ob,g1,g2,g3⟩ ?_
 have hle:=le_refl s1.heap.objs.size
 have hfr:=I1.fpOk hle (I1.hok.fresh hle)
 have hne:s1.heap.objs.size≠a:=fun z=>by rw [<- z] at hH; rw [hfr.1] at hH; cases hH
 generalize hh:s1.heap.push (ST.itP0 a es.size ep)=h2
 have kp:∀ b w,s1.heap.get? b=some w->h2.get? b=some w:=fun b w e=>by rw [<- hh]; exact qc _ e
 have I2:Inv X pins U H1 { s1 with heap:=h2 }:=I1.kept (t':=s1.toks) kp
 have hok2:=I2.hok a _ hH
 have I3:Inv X pins U (upd H1 a (.frz ob (.dT kvs))) { s1 with heap:=h2 }:=I2.write (t':=s1.toks) (x:=a) (e:=a) (o:=.frz ob (.dT kvs)) (by rw [hH]; exact True.intro) (.inl rfl) (fun _ _ _ z=>z) ⟨ob,kp _ _ g1⟩ ⟨kp _ _ g1,hok2.stay (fun _ _ _ z=>z) (fun c e=>by rw [zaf (fun z=>by rw [z,hH] at e; cases e)]; exact e) fun c xs e=>by rw [zaf (fun z=>by rw [z,hH] at e; cases e)]; exact e⟩
 refine ⟨s1.heap.objs.size,[s1.heap.objs.size],_,_,_,rfl,I3,ze7 (kvs:=kvs) g3,⟨.none,.none,?_⟩,fun b hb=>?_,q ob⟩
 ·rw [<- hh,<- hes]
  exact qd _ rfl
 ·rw [mem_singleton.mp hb]
  exact zfC hfr hne
theorem zeW {K:W.Frag} (e:F0 a=some (.frz ob (.dT kvs))) (hk:ks=kvs.map fun p=>D.tup (p.1.map keyD)) (r:Reps K F0 (kvs.map (·.2)) ds) (hs:ks.all isIT=true):ItOk K (ItdT a ob kvs) (zipD ks ds) F0:=fun i O U F G H sm rel=>by
 have e':H a=some (.frz ob (.dT kvs)):=(sm.trans rel.fr) _ _ e
 have hl:=r.len
 refine ⟨fun d hd=>?_,fun h=>⟨e',?_⟩⟩
 ·obtain ⟨k,v,h1,h2,rfl⟩:=zfY ks ds i d hd
  obtain ⟨y,hy,ry⟩:=r.get h2
  have hi:i < kvs.length:=by
   have:=(qh.mp hy).1
   simpa using this
  refine ⟨⟨e',hi⟩,fun x H' zq=>?_⟩
  obtain ⟨q,b,p,hq,hp,hb,ex,eH⟩:=zq
  subst ex eH
  obtain ⟨F1,s1,r1,hF⟩:=rel.growT [b] fun c hc=>by rw [mem_singleton.mp hc]; exact ⟨_,hb⟩
  obtain ⟨f0,_,_⟩:=r1.free hq
  have hpy:p.2=y:=by rw [getElem?_map,hp] at hy; exact qg hy
  have hpk:D.tup (p.1.map keyD)=k:=by rw [hk,getElem?_map,hp] at h1; exact qg h1
  have hit:isIT k=true:=all_eq_true.mp hs _ (mem_of_getElem? h1)
  subst hpk
  subst hpy
  have sF:Same F1 (upd F1 q (.tup [.ref b,p.2])):=Same.upd f0
  refine ⟨upd F1 q (.tup [.ref b,p.2]),s1.trans sF,r1.newF hq,.tup (xs:=[.ref b,p.2]) zai (.cons (.tup (sF b _ ((hF b (mem_singleton.mpr rfl)).trans hb)) (intKeys _ p.1 hit)) (.cons (((ry.mono sm).mono s1).mono sF) .nil))⟩
 ·rw [zfr,hk] at h
  simp at h hl
  lia
theorem ziG (ho:FE X o (wVar j)) (hbase:attributeBase o "items" X.env (eval o X.env)=eval o X.env:=by rfl) (hline:(apos.endLine == cpos.line)=true:=by rfl):
  FI X (.Tuple elts kk tpos) (.Call (.Attribute o "items" apos) [] [] cpos) (wItemsT j):=fun pn xe hp=>by
 refine PI.imp (zhh (X:=wp X pn xe) (ho pn xe hp) hbase hline) fun U H R q=>?_
 obtain ⟨F,G,O,P,PX,rel,hw,hok,hx⟩:=q
 cases qs:slot O j with
 | none=>unfold wItemsT at hw; rw [qs] at hw; exact hw.elim
 | some s0=>
   unfold wItemsT at hw
   rw [qs] at hw
   match s0,qs,hw with
   | .dct true ks l,qs,⟨hl,hko,hw⟩=>
     refine ⟨F,G,O,fun y O1=>y=.loc j/\O1=O,PX,rel,by unfold wVar; rw [qs]; exact ⟨rfl,rfl⟩,fun y O1 o' F1 H1 hk s1 r1 rv=>?_,hx⟩
     obtain ⟨rfl,rfl⟩:=hk
     have hU:U[j]?=some (some o'):=rv
     have r2:=r1.drop (len1 r1)
     obtain ⟨a,kvs,e1,hH,hks,_⟩:=Rel.frzT r2 qs hl
     rw [hU] at e1
     have e2:o'=.ref a:=by simpa using e1
     subst e2
     refine ⟨a,kvs,rfl,.inl hH,fun v hv=>?_⟩
     have hva:v≠a:=fun z=>by rw [z,hH] at hv; cases hv
     obtain ⟨a',kvs',e1',hH',hks',rp,hF,fz⟩:=Rel.frzT (r2.newX hv) qs hl
     rw [hU] at e1'
     cases e1'
     rw [zaf (Ne.symm hva),hH] at hH'
     cases hH'
     exact ⟨v,a,kvs,rfl,zai,by rw [zaf (Ne.symm hva)]; exact hH,fun ob=>hok _ _ _ _ _ hw (s1.trans (Same.upd hF)) (fz ob) (zeW zai hks (rp.mono (Same.upd hF)) hko)⟩
end
section
variable {X:Cx} {a b:Expr} {wa wb:WE} {pos:Pos} {K:W.Frag}
theorem zmd (ha:FE X a wa) (hb:FE X b wb):FE X (.BinOp a .LShift b pos) (wBin oShl wa wb):=zbT (fun _ _=>zl4) (za3 fun p q s e=>by
 unfold oShl at e
 split at e
 ·split at e
  ·rename_i h; cases e; exact ⟨_,_,rfl,rfl,⟨h.1,by lia,h.2.2⟩,rfl⟩
  ·cases e
 ·cases e) ha hb
theorem znV (ha:FE X a wa) (hb:FE X b wb):FE X (.BinOp a .RShift b pos) (wBin oShr wa wb):=zbT (fun _ _=>zmF) (za3 fun p q s e=>by
 unfold oShr at e
 split at e
 ·split at e
  ·rename_i h; cases e; exact ⟨_,_,rfl,rfl,h,rfl⟩
  ·cases e
 ·cases e) ha hb
theorem zkK (ha:FE X a wa) (hb:FE X b wb):FE X (.BinOp a .BitAnd b pos) (wBin oAnd1 wa wb):=zbT (fun _ _=>zl5) (fun {U O F G H x y p q s Q} rel ex ey e hq=>by
 unfold oAnd1 at e
 split at e
 ·split at e
  ·rename_i i j h
   cases e
   have h1:=ex.int
   have h2:=ey.int
   subst h1 h2
   obtain ⟨h0,rfl⟩:=h
   refine ⟨i,1,rfl,rfl,?_⟩
   have e:Builtin.bitAnd i 1=i % 2:=by
    obtain ⟨n,rfl⟩:=Int.eq_ofNat_of_zero_le h0
    show ((n &&& 1:Nat):Int)=(n:Int) % 2
    rw [Nat.and_one_is_mod]; rfl
   show Q (.int (Builtin.bitAnd i 1)) H
   rw [e]
   exact hq _ F H (Same.refl F) (rel.push (.int _))
  ·cases e
 ·cases e) ha hb
end
open PySem.SeqAt AutoSeq1
noncomputable def LtAt (A:Around) (s:Shared) (y x:Value) (b:Bool):Prop:=
 ∀ (prog:Program) (w:World) (E:Value->Shared->Prop) (Q:Value->Shared->Prop),Q (.bool b) s->wpAny (model prog w) A (richCompare .Lt y x) Q E s
open Classical in
noncomputable def LexOk (A:Around) (s:Shared):List Value->List Value->List D->List D->Prop
 | v::vs,w::ws,d::ds,e::es=>(like d e=true/\EqAt A s v w (decide (d=e))/\LtAt A s v w (decide (cmpD d e=.lt)))/\LexOk A s vs ws ds es
 | [],ws,[],es=>ws.length=es.length
 | _::_,[],_::_,[]=>True
 | _,_,_,_=>False
mutual
theorem zfu:∀ (d:D),like d d=true->cmpD d d=.eq
 | .int i,_=>by rw [cmpD,if_neg (Int.lt_irrefl i),if_neg (Int.lt_irrefl i)]
 | .tup l,h=>by rw [like] at h; rw [cmpD]; exact zeC l h
 | .non,h=>by simp [like] at h
 | .bl _,h=>by simp [like] at h
 | .str _,h=>by simp [like] at h
 | .lst _,h=>by simp [like] at h
 | .dct ..,h=>by simp [like] at h
 | .set _,h=>by simp [like] at h
 | .exc ..,h=>by simp [like] at h
theorem zeC:∀ (l:List D),likes l l=true->cmpDs l l=.eq
 | [],_=>by rw [cmpDs]
 | d::l,h=>by
   rw [likes,and_eq_true] at h
   rw [cmpDs,zfu d h.1]
   exact zeC l h.2
end
mutual
theorem zkt:∀ (d e:D),like d e=true->cmpD d e=.eq->d=e
 | .int i,e,h,c=>by
   cases e with
   | int j=>
     rw [cmpD] at c
     split at c
     ·cases c
     ·split at c
      ·cases c
      ·rw [show i=j by lia]
   | _=>simp [like] at h
 | .tup l,e,h,c=>by
   cases e with
   | tup m=>
     rw [like] at h
     rw [cmpD] at c
     rw [zin l m h c]
   | _=>simp [like] at h
 | .non,_,h,_=>by simp [like] at h
 | .bl _,_,h,_=>by simp [like] at h
 | .str _,_,h,_=>by simp [like] at h
 | .lst _,_,h,_=>by simp [like] at h
 | .dct ..,_,h,_=>by simp [like] at h
 | .set _,_,h,_=>by simp [like] at h
 | .exc ..,_,h,_=>by simp [like] at h
theorem zin:∀ (l m:List D),likes l m=true->cmpDs l m=.eq->l=m
 | [],[],_,_=>rfl
 | [],_::_,_,c=>by rw [cmpDs] at c; cases c
 | _::_,[],_,c=>by rw [cmpDs] at c; cases c
 | d::l,e::m,h,c=>by
   rw [likes,and_eq_true] at h
   rw [cmpDs] at c
   cases q:cmpD d e with
   | eq=>
     rw [q] at c
     rw [zkt d e h.1 q,zin l m h.2 c]
   | lt=>rw [q] at c; cases c
   | gt=>rw [q] at c; cases c
end
mutual
theorem zdn:∀ (d e:D),like d e=true->clash d e=false
 | .int i,e,h=>by cases e <;> first | rfl | simp [like] at h
 | .tup l,e,h=>by
   cases e with
   | tup m=>rw [like] at h; rw [clash]; exact zcB l m h
   | _=>simp [like] at h
 | .non,_,h=>by simp [like] at h
 | .bl _,_,h=>by simp [like] at h
 | .str _,_,h=>by simp [like] at h
 | .lst _,_,h=>by simp [like] at h
 | .dct ..,_,h=>by simp [like] at h
 | .set _,_,h=>by simp [like] at h
 | .exc ..,_,h=>by simp [like] at h
theorem zcB:∀ (l m:List D),likes l m=true->clashs l m=false
 | [],[],_=>rfl
 | [],_::_,_=>rfl
 | _::_,[],_=>rfl
 | d::l,e::m,h=>by
   rw [likes,and_eq_true] at h
   rw [clashs,zdn d e h.1,zcB l m h.2]; rfl
end
open Classical in
theorem zgV (l b:Addr) (items items2:Array Value) (n n2:Nat) (dd dd2:Option Addr) (sl sl2:Array (Option Value)) (ds es:List D) (z1:items.size=ds.length) (z2:items2.size=es.length):
  Meets (Builtin.«tuple.__lt__» ⟨[.ref l,.ref b],[]⟩)
   (fun A R s=>s.heap.get? l=some { cls:=.type "tuple",dict:=dd,data:=.seq items n,slots:=sl }/\s.heap.get? b=some { cls:=.type "tuple",dict:=dd2,data:=.seq items2 n2,slots:=sl2 }/\
    LexOk A.in1 s items.toList items2.toList ds es/\R (.ok (.ret (.bool (decide (cmpDs ds es=.lt))))) s):=
 .of_wp fun prog w A R s h=>by
  obtain ⟨hp,g,d,tk,os⟩:=s; obtain ⟨hl,hb,hL,h⟩:=h
  have f2:=AutoSeq1.sub_tuple_tuple
  wp_walk using wpAny_loadPart' hl,wpAny_loadPart' hb,wpAny_forIn_list _ (fun rest b s'=>b.1=none/\s'=⟨hp,g,d,tk,os⟩/\∃ (vs ws:List Value) (ds' es':List D),rest=vs.zip ws/\
   LexOk A.in1 ⟨hp,g,d,tk,os⟩ vs ws ds' es'/\ds'.length + items2.size=es'.length + items.size/\R (.ok (.ret (.bool (decide (cmpDs ds' es'=.lt))))) ⟨hp,g,d,tk,os⟩) _
  case turn=>
   rintro ⟨y,x⟩ rest b s' ⟨hb',rfl,vs,ws,ds',es',hz,hL,hlen,hR⟩
   match vs,ws,ds',es',hz,hL,hlen,hR with
   | [],_,_,_,hz,_,_,_=>rw [List.zip_nil_left] at hz; cases hz
   | _::_,[],_,_,hz,_,_,_=>rw [List.zip_nil_right] at hz; cases hz
   | v::vs,w'::ws,d1::ds',e1::es',hz,hL,hlen,hR=>
     rw [List.zip_cons_cons] at hz
     injection hz with hyx hrest
     injection hyx with hy hx
     subst hy hx
     obtain ⟨⟨hk,he,ht⟩,hL⟩:=hL
     simp only [length_cons] at hlen
     refine qa (he prog w _ _ ?_)
     rw [cmpDs] at hR
     by_cases q:d1=e1
     ·subst q
      rw [zfu d1 hk] at hR
      simp only [decide_true]
      wp_walk
      exact ⟨rfl,rfl,_,_,_,_,hrest,hL,by lia,hR⟩
     ·simp only [decide_eq_false q]
      have hR2:R (.ok (.ret (.bool (decide (cmpD d1 e1=.lt))))) ⟨hp,g,d,tk,os⟩:=by
       cases q2:cmpD d1 e1 with
       | eq=>exact absurd (zkt d1 e1 hk q2) q
       | lt=>rw [q2] at hR; exact hR
       | gt=>rw [q2] at hR; exact hR
      have hri:∀ (E Q:Value->Shared->Prop),Q (.bool (decide (cmpD d1 e1=.lt))) ⟨hp,g,d,tk,os⟩->wpAny (model prog w) A.in1 (richCompare .Lt y x) Q E ⟨hp,g,d,tk,os⟩:=fun E Q h=>ht prog w E Q h
      wp_walk using hri
      exact ⟨_,rfl,hR2⟩
  case fin=>
   rintro ⟨b1,b2⟩ s' ⟨hb',rfl,vs,ws,ds',es',hz,hL,hlen,hR⟩
   simp only at hb'
   subst hb'
   have hv:decide (cmpDs ds' es'=.lt)=decide (items.size < items2.size):=by
    match vs,ws,ds',es',hz,hL,hlen with
    | [],[],[],[],_,_,hlen=>simp at hlen; rw [cmpDs,hlen]; simp
    | [],_::_,[],_::_,_,_,hlen=>rw [cmpDs,decide_eq_true rfl,decide_eq_true (by simp at hlen; lia)]
    | _::_,[],_::_,[],_,_,hlen=>rw [cmpDs,decide_eq_false (by decide),decide_eq_false (by simp at hlen; lia)]
    | [],[],[],_::_,_,hL,_=>cases hL
    | [],_::_,[],[],_,hL,_=>cases hL
   rw [hv] at hR
   wp_walk
   exact ⟨_,rfl,by simpa [Builtin.Tuple.tupleCompareSizes] using hR⟩
  case h=>
   exact ⟨rfl,rfl,items.toList,items2.toList,ds,es,rfl,hL,by lia,h⟩
section
variable {X:Cx} {pins:List (Addr×Obj)} {U:St} {H:Hp} {s:Shared}
theorem zj2 {A:Around} (hE:∀ {v u:V} {vv uu:Value} {d e:D},Rep X.K H v d->Rep X.K H u e->RelV v vv->RelV u uu->dep d<=n->like d e=true->EqAt A s vv uu (open Classical in decide (d=e))/\LtAt A s vv uu (decide (cmpD d e=.lt))):
  ∀ {xs ys:List V} {us ws:List Value} {l m:List D},Reps X.K H xs l->Reps X.K H ys m->Vals xs us->Vals ys ws->deps l<=n->likes l m=true->LexOk A s us ws l m:=by
 intro xs
 induction xs with
 | nil=>
   intro ys us ws l m r1 r2 w1 w2 _ _
   cases r1; cases w1
   exact w2.length.symm.trans r2.len
 | cons x xs ih=>
   intro ys us ws l m r1 r2 w1 w2 hd hk
   cases r1 with
   | cons a1 b1=>
     cases w1 with
     | cons c1 d1=>
       cases r2 with
       | nil=>cases w2; exact trivial
       | cons a2 b2=>
         cases w2 with
         | cons c2 d2=>
           rw [likes,and_eq_true] at hk
           rw [deps] at hd
           obtain ⟨h1,h2⟩:=hE a1 a2 c1 c2 (le_trans (Nat.le_max_left _ _) hd) hk.1
           exact ⟨⟨hk.1,h1,h2⟩,ih b1 b2 d1 d2 (le_trans (Nat.le_max_right _ _) hd) hk.2⟩
theorem ziR {A:Around} {v u:V} {vv uu:Value} {i:Int} {e:D} (r1:Rep X.K H v (.int i)) (r2:Rep X.K H u e) (rv:RelV v vv) (ru:RelV u uu) (hc:like (.int i) e=true):LtAt A s vv uu (decide (cmpD (.int i) e=.lt)):=by
 cases e with
 | int j=>
   cases r1; cases r2
   obtain ⟨t,rfl⟩:=rv
   obtain ⟨t',rfl⟩:=ru
   intro prog w E Q hq
   refine HT.rcLt_int A s i t j t' prog w E Q ?_
   have:decide (cmpD (.int i) (.int j)=.lt)=decide (i < j):=by
    rw [cmpD]
    split
    ·simp [*]
    ·split <;> simp [*]
   rwa [this] at hq
 | _=>simp [like] at hc
theorem zmb:∀ (n:Nat) {A:Around} {v u:V} {vv uu:Value} {d e:D},dep d<=n->Inv X pins U H s->Rep X.K H v d->Rep X.K H u e->RelV v vv->RelV u uu->like d e=true->A.units + n < cLine->LtAt A s vv uu (decide (cmpD d e=.lt)):=by
 intro n
 induction n with
 | zero=>
   intro A v u vv uu d e hd I r1 r2 rv ru hc hu
   cases d with
   | int i=>exact ziR r1 r2 rv ru hc
   | tup l=>exact absurd hd (by show ¬ deps l + 1<=0; lia)
   | _=>simp [like] at hc
 | succ n ih=>
   intro A v u vv uu d e hd I r1 r2 rv ru hc hu
   cases d with
   | int i=>exact ziR r1 r2 rv ru hc
   | tup l=>
     cases e with
     | tup m=>
       cases r1 with
       | tup e1 q1=>
         cases r2 with
         | tup e2 q2=>
           cases rv
           cases ru
           obtain ⟨its,w1,⟨⟨c1,d1,dt1,sl1⟩,o1,rfl,k1,rfl⟩,_⟩:=I.tuple (SqT.of e1)
           obtain ⟨its2,w2,⟨⟨c2,d2,dt2,sl2⟩,o2,rfl,k2,rfl⟩,_⟩:=I.tuple (SqT.of e2)
           rw [like] at hc
           have hdl:deps l<=n:=by have:deps l + 1<=n + 1:=hd; lia
           have hin:A.in1.units + n < cLine:=by show A.units + 1 + n < cLine; lia
           intro prog w E Q hq
           refine richCompare_meets_room (op:=.Lt) ⟨_,o1,rfl⟩ ⟨_,o2,rfl⟩ PySem.F.slot_tuple_lt PySem.F.entry_tuple_lt (PySem.F.args_tuple_lt_2 _ _) (zgV _ _ its.toArray its2.toArray k1 k2 d1 d2 sl1 sl2 l m (by rw [size_toArray,<- w1.length,q1.len]) (by rw [size_toArray,<- w2.length,q2.len]))
            ⟨o1,o2,zj2 (n:=n) (fun a1 a2 a3 a4 a5 a6=>⟨(zjg n a5 I a1 a2 a3 a4 (zdn _ _ a6) hin).1,ih a5 I a1 a2 a3 a4 a6 hin⟩) q1 q2 w1 w2 hdl hc,(fun x=>nomatch x),?_⟩ (by lia)
           rwa [cmpD] at hq
     | _=>simp [like] at hc
   | _=>simp [like] at hc
noncomputable def rLtN (K:W.Frag):R2:=fun x y H Q=>∃ p q,Rep K H x p/\Rep K H y q/\like p q=true/\dep p<=9/\Q (.bl (decide (cmpD p q=.lt))) H
theorem znS (hu:X.A.units + 31 < cLine):OpR X (compareOp .Lt) (rLtN X.K):=by
 intro pins s U H x y v u Q I rx ry h
 obtain ⟨p,q,r1,r2,hc,hd,hq⟩:=h
 exact zmb 9 hd I r1 r2 rx ry hc (by lia) X.prog X.w X.xe _ ⟨.bl _,H,I,rfl,hq⟩
theorem zjn {K:W.Frag}:DoesC K (rLtN K) cLtT:=by
 intro H x y p q k Q r1 r2 e hq
 unfold cLtT at e
 split at e
 ·rename_i h
  cases e
  exact ⟨p,q,r1,r2,h.1,h.2,hq⟩
 ·cases e
end
section
variable {prog:Program} {w:World} {A:Around} {R:Result->Shared->Prop} {I:Addr} {fp wr:List Addr} {P:Nat->Value->Prop} {St:Nat->Heap->Prop} {s:Shared} {n:Nat}
theorem zhN (W:Walks prog w A.in1 I fp wr n P St) (S:Addr) (hSf:S∉fp) (kw:List (Str×Value)) (bt:Nat->Nat->Bool) (J:Heap->Prop) (hJ:∀ h h',J h->(∀ b o,b∉wr->b≠S->h.get? b=some o->h'.get? b=some o)->J h')
  (hcmp:∀ i j vi vj h tk (Q E:Value->Shared->Prop),P i vi->P j vj->J h->Q (.bool (bt i j)) { s with heap:=h,toks:=tk }->wpAny (model prog w) A.in1 (richCompare .Lt vi vj) Q E { s with heap:=h,toks:=tk })
  (hR:∀ v h' tk,P (argBest bt (n - 1)) v->J h'->R (.ok (.ret v)) { s with heap:=h',toks:=tk }):
  ∀ (k j:Nat) (h:Heap) (tk:Nat) (vb:Value) (c:Nat),n - (j + 1)=k->j + 1<=n->J h->St (j + 1) h->P (argBest bt j) vb->h.get? S=some { cls:=.type "list",dict:=none,data:=.seq #[vb,vb] c,slots:=#[] }->
  codeAny (model prog w) A (.builtin "min.loop" ⟨[.ref I,.none,.ref S],kw⟩) R { s with heap:=h,toks:=tk }:=by
 have hSw:S∉wr:=fun h=>hSf (W.sub _ h)
 have hname:(toString "min"++toString ".loop":String)="min.loop":=by decide
 have fr:∀ {b:Addr},b∈fp->S≠b:=fun hb h=>hSf (h ▸ hb)
 intro k
 induction k with
 | zero=>
   intro j h tk vb c hk hj hJh hst hPb hS
   have hin:j + 1=n:=by lia
   refine codeAny_builtin F.entry_min_loop ?_
   rw [Around.under_plainId F.plain_min_loop _]
   refine qa (m:=seqItems? (.ref S)) (wpAny_seqItems hS rfl (qa (m:=tryCatch (pyNext (.ref I)) _) (wpAny_tryCatch (W.done _ _ _ (hin ▸ hst) fun h' tk' hk'=>?_))))
   refine qa (m:=updateSeq S fun _=>#[]) (wpAny_updateSeq (hk' S _ hSw hS) rfl (qa (wpAny_letGo (qb ?_))))
   exact hR vb _ tk' (by rw [<- hin]; exact hPb) (hJ _ _ hJh fun b o hb hbS e=>(Heap.get?_update_other _ _ (Ne.symm hbS)).trans (hk' b o hb e))
 | succ k ih=>
   intro j h tk vb c hk hj hJh hst hPb hS
   have hlt:j + 1 < n:=by lia
   refine codeAny_builtin F.entry_min_loop ?_
   rw [Around.under_plainId F.plain_min_loop _]
   refine qa (m:=seqItems? (.ref S)) (wpAny_seqItems hS rfl (qa (m:=tryCatch (pyNext (.ref I)) _) (wpAny_tryCatch (W.item (j + 1) _ _ _ hlt hst fun v h' tk' hP hst' hk'=>?_))))
   have hS':=hk' S _ hSw hS
   have hJ':=hJ _ _ hJh fun b o hb _ e=>hk' b o hb e
   refine qa (m:=tryCatch (holding [v,v] (richCompare .Lt v vb >>= _)) _) (wpAny_tryCatch (wpAny_holding (qa (hcmp (j + 1) (argBest bt j) v vb _ _ _ _ hP hPb hJ' ?_))))
   refine qa (wpAny_holding (wpAny_truthy_bool (qa (wpAny_letGo (qb ?_)))))
   cases hb:bt (j + 1) (argBest bt j) with
   | true=>
     simp only [if_true]
     refine qa (wpAny_updateSeq (s:={ s with heap:=_,toks:=_ }) hS' rfl (qa (wpAny_letGo ?_)))
     rw [hname]
     exact qb ⟨plainId_quiet F.plain_min_loop _,ih (j + 1) _ _ v _ (by lia) hlt (hJ _ _ hJ' fun b o _ hbS e=>(Heap.get?_update_other _ _ (Ne.symm hbS)).trans e) (W.frame _ _ _ hst' fun b hbf o e=>(Heap.get?_update_other _ _ (fr hbf)).trans e) (by simp only [argBest,hb,if_true]; exact hP) (Heap.get?_update_self _ hS' rfl)⟩
   | false=>
     simp only [false_eq_true,if_false]
     refine qa (wpAny_letGo ?_)
     rw [hname]
     exact qb ⟨plainId_quiet F.plain_min_loop _,ih (j + 1) _ _ vb c (by lia) hlt hJ' hst' (by simp only [argBest,hb,false_eq_true,if_false]; exact hPb) hS'⟩
end
theorem ziD (a v:Value):argsOk "min" ⟨[a],[(Str.ofString "default",v)]⟩:=by unfold argsOk; kernel_rfl
noncomputable def btD (ds:List D) (i j:Nat):Bool:=decide (cmpD (ds.getD i .non) (ds.getD j .non)=.lt)
theorem zdk:∀ (b:D) (l:List D) (x:D),least b (l++[x])=if cmpD x (least b l)=.lt then x else least b l
 | _,[],_=>rfl
 | b,d::l,x=>zdk (if cmpD d b=.lt then d else b) l x
theorem zdT (b:D) (r:List D):∀ k,k<=r.length->least b (r.take k)=(b::r).getD (argBest (btD (b::r)) k) .non
 | 0,_=>rfl
 | k + 1,h=>by
   have ih:=zdT b r k (by lia)
   have e:r.take (k + 1)=r.take k++[r[k]]:=by rw [List.take_succ,qi (by lia)]; rfl
   have e2:(b::r).getD (k + 1) .non=r[k]:=by rw [List.getD_eq_getElem?_getD,List.getElem?_cons_succ,qi (by lia)]; rfl
   rw [e,zdk,argBest,ih]
   unfold btD
   rw [e2]
   by_cases hc:cmpD r[k] ((b::r).getD (argBest (fun i j=>decide (cmpD ((b::r).getD i .non) ((b::r).getD j .non)=.lt)) k) .non)=.lt
   ·rw [if_pos hc,if_pos (decide_eq_true hc),e2]
   ·rw [if_neg hc,if_neg (by rw [decide_eq_false hc]; exact Bool.false_ne_true)]
theorem zb9 (bt:Nat->Nat->Bool):∀ k,argBest bt k<=k
 | 0=>le_refl _
 | k + 1=>by
   have:=zb9 bt k
   unfold argBest
   split <;> lia
section
variable {X:Cx} {K:W.Frag} {p pos kp:Pos} {e dv:Expr}
noncomputable def rMinD (K:W.Frag):R2:=fun x y H Q=>∃ a xs ds,x=.ref a/\SqL K H a xs/\Reps K H xs ds/\((xs=[]/\Q y H)\/(xs≠[]/\(∀ a∈ds,∀ b∈ds,like a b=true/\dep a<=9)/\∀ v,xs[argBest (btD ds) (xs.length - 1)]?=some v->Q v H))
theorem zhA (hr:Room k X.A) (I:Inv X pins U H s) (rx:RelV x v) (ry:RelV y u) (h:rMinD X.K x y H Q):wpAny (model X.prog X.w) X.A (call (.builtin "min") [v] [(Str.ofString "default",u)]) (EP X pins U Q) X.xe s:=by
 obtain ⟨a,xs,ds,rfl,hq,rp,hQ⟩:=h
 cases rx
 have hu:X.A.units + 20 < cLine:=by have:=hr.units; lia
 obtain ⟨its,rv,pl,hz⟩:=I.list hq
 have hls:s.heap.IsList a its.toArray:=pl.isList
 have la:a < s.heap.objs.size:=by obtain ⟨o,e,_⟩:=hls; exact qe e
 have hname:(toString "min"++toString ".loop":String)="min.loop":=by decide
 refine kmk_tree F.kind_min F.plain_min F.entry_min (ziD _ _) ?_
 refine qa (wpAny_of_eq (show Builtin.Builtins.bindParams "min" ["key","default"] 0 ⟨[],[(Str.ofString "default",u)]⟩=pure [none,some u] from rfl) (qa (qb ?_)))
 refine qa (wpAny_pyIter_list hls (qa (wpAny_newObj_type ?_)))
 rw [hname]
 generalize hh1:s.heap.push { cls:=.type "list_iterator",data:=.fields #[.ref a,.int 0 0] }=h1
 have hsz:h1.objs.size=s.heap.objs.size + 1:=by rw [<- hh1]; exact Heap.size_push ..
 generalize hh2:h1.push _=h2
 have kp:∀ b o,s.heap.get? b=some o->h2.get? b=some o:=fun b o e=>by rw [<- hh2]; exact qc _ (by rw [<- hh1]; exact qc _ e)
 have hlen:=rv.length
 have W:=Walks.list (prog:=X.prog) (w:=X.w) (A:=X.A.in1) (show X.A.in1.handled=none from hr.hd) s.heap.objs.size a (ne_of_lt la) its.toArray
 have st0:h2.IsListIter s.heap.objs.size a 0/\h2.IsList a its.toArray:=⟨⟨_,by rw [<- hh2]; exact qc _ (by rw [<- hh1]; exact qd _ rfl),rfl,rfl⟩,hls.at fun o e=>kp _ _ e⟩
 have hS:h2.get? h1.objs.size=some { cls:=.type "list",dict:=none,data:=.seq #[] 0,slots:=#[] }:=by rw [<- hh2]; exact qd _ rfl
 have hSf:h1.objs.size∉[s.heap.objs.size,a]:=fun z=>by
  rcases mem_cons.mp z with z | z
  ·lia
  ·have:=mem_singleton.mp z; lia
 rcases hQ with ⟨rfl,hQ⟩ | ⟨hne,hall,hQ⟩
 ·have h0:its.toArray.size=0:=by rw [size_toArray,<- hlen]; rfl
  refine qb ⟨plainId_quiet F.plain_min_loop _,codeAny_builtin F.entry_min_loop ?_⟩
  rw [Around.under_plainId F.plain_min_loop _]
  refine qa (m:=seqItems? (.ref h1.objs.size)) (wpAny_seqItems (s:={ s with heap:=h2 }) hS rfl (qa (m:=tryCatch (pyNext (.ref s.heap.objs.size)) _) (wpAny_tryCatch (W.done _ _ _ (h0 ▸ st0) fun h' tk' hk'=>?_))))
  refine qa (wpAny_rule (qb ?_))
  exact ⟨_,H,I.kept (t':=tk') fun b o e=>hk' b o (fun z=>by have:=qe e; have:=mem_singleton.mp z; lia) (kp b o e),ry,hQ⟩
 ·have hn:0 < its.length:=by rw [<- hlen]; exact length_pos_iff.mpr hne
  rw [hlen] at hQ
  have hSw:h1.objs.size∉[s.heap.objs.size]:=fun z=>hSf (mem_cons.mpr (.inl (mem_singleton.mp z)))
  refine qb ⟨plainId_quiet F.plain_min_loop _,codeAny_builtin F.entry_min_loop ?_⟩
  rw [Around.under_plainId F.plain_min_loop _]
  refine qa (m:=seqItems? (.ref h1.objs.size)) (wpAny_seqItems (s:={ s with heap:=h2 }) hS rfl (qa (m:=tryCatch (pyNext (.ref s.heap.objs.size)) _) (wpAny_tryCatch (W.item 0 _ _ _ (by rw [size_toArray]; exact hn) st0 fun v h3 tk3 hP hst hk3=>?_))))
  have hS3:=hk3 _ _ hSw hS
  refine qa (m:=updateSeq h1.objs.size fun _=>#[v,v]) (wpAny_updateSeq hS3 rfl ?_)
  rw [hname]
  have old:∀ b o,s.heap.get? b=some o->b∉[s.heap.objs.size]/\b≠h1.objs.size:=fun b o e=>by
   have:=qe e
   exact ⟨fun z=>by have:=mem_singleton.mp z; lia,by lia⟩
  have up:∀ b o,b≠h1.objs.size->h3.get? b=some o->(h3.update h1.objs.size (Obj.mapSeq fun _=>#[v,v])).get? b=some o:=fun b o hb e=>(Heap.get?_update_other _ _ (Ne.symm hb)).trans e
  refine qb ⟨plainId_quiet F.plain_min_loop _,zhN (s:=s) W h1.objs.size hSf _ (btD ds) (fun h=>∀ b o,s.heap.get? b=some o->h.get? b=some o) (fun h h' J k b o e=>k b o (old b o e).1 (old b o e).2 (J b o e)) (fun i j vi vj h tk Q' E' hi hj J hq=>?_) (fun v' h' tk hP' J=>?_)
   _ 0 _ tk3 v _ rfl (by rw [size_toArray]; exact hn) (fun b o e=>up b o (old b o e).2 (hk3 b o (old b o e).1 (kp b o e))) (W.frame _ _ _ hst fun b hb o e=>up b o (fun z=>hSf (z ▸ hb)) e) hP (Heap.get?_update_self _ hS3 rfl)⟩
  ·have hi:its[i]?=some vi:=by simpa using hi
   have hj:its[j]?=some vj:=by simpa using hj
   have li:=(qh.mp hi).1
   have lj:=(qh.mp hj).1
   have hrl:=rp.len
   obtain ⟨y1,g1,r1⟩:=rp.get (qi (show i < ds.length by lia))
   obtain ⟨y2,g2,r2⟩:=rp.get (qi (show j < ds.length by lia))
   obtain ⟨u1,g3,r3⟩:=rv.get g1
   obtain ⟨u2,g4,r4⟩:=rv.get g2
   rw [hi] at g3
   rw [hj] at g4
   cases g3
   cases g4
   obtain ⟨c1,c2⟩:=hall ds[i] (getElem_mem _) ds[j] (getElem_mem _)
   refine zmb 9 c2 (I.kept (t':=tk) J) r1 r2 r3 r4 c1 (by show X.A.units + 1 + 9 < cLine; lia) X.prog X.w E' Q' ?_
   have e1:ds.getD i .non=ds[i]:=by rw [List.getD_eq_getElem?_getD,qi (show i < ds.length by lia)]; rfl
   have e2:ds.getD j .non=ds[j]:=by rw [List.getD_eq_getElem?_getD,qi (show j < ds.length by lia)]; rfl
   unfold btD at hq
   rwa [e1,e2] at hq
  ·have hP':its[argBest (btD ds) (its.length - 1)]?=some v':=by simpa using hP'
   have la:=zb9 (btD ds) (its.length - 1)
   obtain ⟨u1,g3,r3⟩:=rv.get (qi (show argBest (btD ds) (its.length - 1) < xs.length by lia))
   rw [hP'] at g3
   cases g3
   exact ⟨_,H,I.kept (t':=tk) J,r3,hQ _ (qi _)⟩
theorem zlI (hr:Room k X.A) (hg:Gl X "min") (hm:X.mg "min"=none) (ha:PE X e ta) (hd:PE X dv td) (he:starEach [e] X.env=(false,eval e X.env)::starEach [] X.env:=by rfl) (he2:backTo pos (starEach [e] X.env)=(false,eval e X.env)::backTo pos (starEach [] X.env):=by rfl) (hpl:(backTo pos (starEach [e] X.env)).any (·.1)=false:=by rfl):PE X (.Call (.Name "min" p) [e] [⟨some "default",dv,kp⟩] pos) (tOp (rMinD X.K) ta td):=by
 intro pins s U H Q I h
 refine wpAny_Call_Name_kw (zcy I hg hm zft ?_ (by decide) (by decide))
 refine callWith_kw (thn ((zdO ha zf4 he) pos pins s U H (fun vs H1=>match vs with
  | [x]=>td U H1 fun y H2=>rMinD X.K x y H2 Q
  | _=>False) I h) fun us s1 zq=>?_) he2 hpl
 obtain ⟨vs,H1,I1,r1,q1⟩:=zq
 match vs,r1,q1 with
 | [x],r1,q1=>
   obtain ⟨v,rfl,rx⟩:=vals1 r1
   refine kws_cons (thn (hd pins s1 U H1 _ I1 q1) fun u s2 zq=>kws_nil ?_)
   obtain ⟨y,H2,I2,ry,q2⟩:=zq
   exact zhA hr I2 rx ry q2
theorem RepE.kept0 {F H:Hp} {v:V} {d:D} (h:RepE K F H v d) (hl:∀ l,d≠.lst l:=by intro _ z; cases z) (hk:∀ t ks vs,d≠.dct t ks vs:=by intro _ _ _ z; cases z):Rep K F v d:=by
 rcases h with h | ⟨_,_,_,_,h,_⟩ | ⟨_,_,_,_,_,h,_⟩ | ⟨_,_,_,_,_,h,_⟩
 ·exact h
 ·exact absurd h (hl _)
 ·exact absurd h (hk _ _ _)
 ·exact absurd h (hk _ _ _)
theorem zhU:Does K (rMinD K) minDf:=by
 intro U O F G H x y p q t Q rel ex ey e hq
 cases p with
 | lst l=>
   obtain ⟨a,xs,rfl,h1,r1⟩:=ex.lst rel.fr
   refine ⟨a,xs,l,rfl,h1,r1.mono rel.fr,?_⟩
   cases l with
   | nil=>
     cases r1
     refine .inl ⟨rfl,?_⟩
     cases q with
     | non=>cases e; exact hq y F H (Same.refl F) (rel.push ey.kept0)
     | tup m=>cases e; exact hq y F H (Same.refl F) (rel.push ey.kept0)
     | _=>cases e
   | cons b r=>
     have e:(if (b::r).all (fun x=>(b::r).all fun y=>like x y && decide (dep x<=9))=true then some (S.sh (least b r)) else none)=some t:=e
     split at e
     ·rename_i hall
      cases e
      refine .inr ⟨(fun z=>by subst z; cases r1),fun a ha b hb=>?_,fun v hv=>?_⟩
      ·have:=all_eq_true.mp (all_eq_true.mp hall a ha) b hb
       simpa using this
      ·have hl:=r1.len
       have hle:=zdT b r r.length (le_refl _)
       rw [List.take_length] at hle
       have hl2:xs.length - 1=r.length:=by rw [hl]; rfl
       rw [hl2] at hv
       have la:=zb9 (btD (b::r)) r.length
       have hlt:argBest (btD (b::r)) r.length < (b::r).length:=by simp only [length_cons]; lia
       obtain ⟨y',hy,ry⟩:=r1.get (qi hlt)
       rw [hv] at hy
       cases hy
       refine hq v F H (Same.refl F) (rel.push ?_)
       rw [hle,List.getD_eq_getElem?_getD,qi hlt]
       exact ry
     ·cases e
 | _=>cases e
theorem zhY (hr:Room k X.A) (hg:Gl X "min") (hm:X.mg "min"=none) (ha:FE X e wa) (hb:FE X dv wb) (he:starEach [e] X.env=(false,eval e X.env)::starEach [] X.env:=by rfl) (he2:backTo pos (starEach [e] X.env)=(false,eval e X.env)::backTo pos (starEach [] X.env):=by rfl) (hpl:(backTo pos (starEach [e] X.env)).any (·.1)=false:=by rfl):FE X (.Call (.Name "min" p) [e] [⟨some "default",dv,kp⟩] pos) (wBin minDf wa wb):=by
 intro pn xe hp
 refine PE.imp (zlI (X:=wp X pn xe) hr hg hm (ha pn xe hp) (hb pn xe hp) he he2 hpl) fun U H Q h=>?_
 refine (two (k:=fun x y O2 Q E=>need (viewC x O2) fun p=>need (viewC y O2) fun q=>need (minDf p q) fun s=>Q (.v s) O2) h).mono fun v H1 h1=>h1.mono fun u H2 h2=>?_
 obtain ⟨F,G,O,x,y,P,PX,rel,hl,rx,ry,hk,hok,hx⟩:=h2
 obtain ⟨p,ep,hk⟩:=zae hk
 obtain ⟨q,eq,hk⟩:=zae hk
 obtain ⟨t,et,hk⟩:=zae hk
 obtain ⟨F1,s1,re1,rel1⟩:=takeC rel hl rx ep
 obtain ⟨F2,s2,re2,rel2⟩:=takeC (O':=[]) (U':=[]) rel1 hl ry eq
 rw [append_nil,append_nil] at rel2
 exact zhU U O F2 G H2 v u p q t Q rel2 (re1.mono s2) re2 et fun v' F' H' sm r'=>hok (.v t) O v' F' H' hk (s1.trans (s2.trans sm)) r' trivial
end
end FL
end
section
namespace FL
section
variable {O O1 O2:Env} {Q:WQ} {QT:Bool->Env->Prop} {QA:List R->Env->Prop} {QI:List D->Env->Prop} {QE:Env->Prop} {E:WX} {a b c:WE} {t u:WT} {wa:WA} {r x y:R} {rs:List R} {s:S} {ss:List S} {d p q:D} {i j n m k:Nat} {o:D->D->Option S} {oc oc':D->D->Option Bool}
theorem e_C:wC d O Q E=Q (.v (.sh d)) O:=rfl
noncomputable def kV (o:Option S) (Q:WQ) (O:Env):Prop:=need o fun s=>Q (.v s) O
theorem e_V:kV (some s) Q O=Q (.v s) O:=rfl
noncomputable def kBin3 (o:D->D->Option S) (x y:Option D) (Q:WQ) (O:Env):Prop:=need x fun p=>need y fun q=>kV (o p q) Q O
noncomputable def kBin2 (o:D->D->Option S) (x:R) (Q:WQ):WQ:=fun y O2=>kBin3 o (viewC x O2) (viewC y O2) Q O2
noncomputable def kBin1 (o:D->D->Option S) (b:WE) (Q:WQ) (E:WX):WQ:=fun x O1=>b O1 (kBin2 o x Q) E
theorem zqD:wBin o a b O Q E=a O (kBin1 o b Q E) E:=rfl
theorem zmA:kBin1 o b Q E x O=b O (kBin2 o x Q) E:=rfl
theorem zmL:kBin3 o (some p) (some q) Q O=kV (o p q) Q O:=rfl
noncomputable def kUn2 (o:D->Option S) (x:Option D) (Q:WQ) (O:Env):Prop:=need x fun p=>kV (o p) Q O
noncomputable def kUn (o:D->Option S) (Q:WQ):WQ:=fun x O=>kUn2 o (viewC x O) Q O
theorem e_Un {o:D->Option S}:wUn o a O Q E=a O (kUn o Q) E:=rfl
theorem zps {o:D->Option S}:kUn o Q x O=kUn2 o (viewC x O) Q O:=rfl
theorem zpI {o:D->Option S}:kUn2 o (some p) Q O=kV (o p) Q O:=rfl
noncomputable def kC (o:Option Bool) (Q:Bool->Env->Prop) (O:Env):Prop:=need o fun c=>Q c O
theorem e_Ck {c:Bool}:kC (some c) QT O=QT c O:=rfl
noncomputable def kCmp3 (o:D->D->Option Bool) (x y:Option D) (Q:Bool->Env->Prop) (O:Env):Prop:=need x fun p=>need y fun q=>kC (o p q) Q O
noncomputable def kCmp2 (o:D->D->Option Bool) (x:R) (Q:Bool->Env->Prop):WQ:=fun y O2=>kCmp3 o (view x O2) (view y O2) Q O2
noncomputable def kCmp1 (o:D->D->Option Bool) (b:WE) (Q:Bool->Env->Prop) (E:WX):WQ:=fun x O1=>b O1 (kCmp2 o x Q) E
theorem zqq:wCmp oc a b O QT E=a O (kCmp1 oc b QT E) E:=rfl
theorem zoq:kCmp1 oc b QT E x O=b O (kCmp2 oc x QT) E:=rfl
theorem zmg:kCmp3 oc (some p) (some q) QT O=kC (oc p q) QT O:=rfl
noncomputable def kAnd (b:WT) (Q:Bool->Env->Prop) (E:WX):Bool->Env->Prop:=fun c O1=>if c then b O1 Q E else Q false O1
theorem zq4:wtAnd t u O QT E=t O (kAnd u QT E) E:=rfl
theorem znd:kAnd u QT E true O=u O QT E:=rfl
theorem zmY:kAnd u QT E false O=QT false O:=rfl
noncomputable def kOr (b:WT) (Q:Bool->Env->Prop) (E:WX):Bool->Env->Prop:=fun c O1=>if c then Q true O1 else b O1 Q E
theorem e_Or:wtOr t u O QT E=t O (kOr u QT E) E:=rfl
theorem zqx:kOr u QT E true O=QT true O:=rfl
theorem zp2:kOr u QT E false O=u O QT E:=rfl
noncomputable def kOfT (Q:WQ):Bool->Env->Prop:=fun c O1=>Q (.v (.sh (.bl c))) O1
theorem zp6:wOfT t O Q E=t O (kOfT Q) E:=rfl
theorem znu {c:Bool}:kOfT Q c O=Q (.v (.sh (.bl c))) O:=rfl
noncomputable def kIfE (a b:WE) (Q:WQ) (E:WX):Bool->Env->Prop:=fun k O1=>if k then a O1 Q E else b O1 Q E
theorem zo1:wIfE t a b O Q E=t O (kIfE a b Q E) E:=rfl
theorem zml:kIfE a b Q E true O=a O Q E:=rfl
theorem zn8:kIfE a b Q E false O=b O Q E:=rfl
theorem zpo:wNil O QA E=QA [] O:=rfl
noncomputable def kCons2 (r:R) (Q:List R->Env->Prop):List R->Env->Prop:=fun rs O=>Q (r::rs) O
noncomputable def kCons1 (b:WA) (Q:List R->Env->Prop) (E:WX):WQ:=fun r O1=>b O1 (kCons2 r Q) E
theorem zn7:wCons a wa O QA E=a O (kCons1 wa QA E) E:=rfl
theorem zla:kCons1 wa QA E r O=wa O (kCons2 r QA) E:=rfl
theorem zlg:kCons2 r QA rs O=QA (r::rs) O:=rfl
noncomputable def gA2 (s:S):Option (List S×Env)->Option (List S×Env)
 | some (ss,O)=>some (s::ss,O)
 | none=>none
noncomputable def gA1 (rs:List R):Option (S×Env)->Option (List S×Env)
 | some (s,O)=>gA2 s (giveAll rs O)
 | none=>none
theorem zqV:giveAll [] O=some ([],O):=rfl
theorem e_gA:giveAll (r::rs) O=gA1 rs (give r O):=by
 rw [giveAll]; unfold gA1
 cases give r O with
 | none=>rfl
 | some z=>obtain ⟨s,O1⟩:=z; show (match giveAll rs O1 with | some (ss,O2)=>some (s::ss,O2) | none=>none)=gA2 s (giveAll rs O1); unfold gA2; rfl
theorem zrn:gA1 rs (some (s,O))=gA2 s (giveAll rs O):=rfl
theorem zpj:gA2 s (some (ss,O))=some (s::ss,O):=rfl
noncomputable def gv (i:Nat) (O:Env):Option S->Option (S×Env)
 | some s=>some (.sh s.toD,O.set i (some (.sh s.toD)))
 | none=>none
theorem e_gv:give (.v s) O=some (s,O):=rfl
theorem e_gl:give (.loc i) O=gv i O (slot O i):=by unfold give gv; rfl
theorem zrp:gv i O (some s)=some (.sh s.toD,O.set i (some (.sh s.toD))):=rfl
noncomputable def kTup2 (l:Bool) (x:Option (List S×Env)) (Q:WQ):Prop:=need (if l then x else none) fun p=>Q (.v (.sh (.tup (p.1.map S.toD)))) p.2
noncomputable def kLst2 (l:Bool) (x:Option (List S×Env)) (Q:WQ):Prop:=need (if l then x else none) fun p=>Q (.v (.lst p.1)) p.2
noncomputable def lenOk (rs:List R):Bool:=decide (rs.length<=big)
noncomputable def kTup (Q:WQ):List R->Env->Prop:=fun rs O=>kTup2 (lenOk rs) (giveAll rs O) Q
noncomputable def kLst (Q:WQ):List R->Env->Prop:=fun rs O=>kLst2 (lenOk rs) (giveAll rs O) Q
theorem zqF:wTup wa O Q E=wa O (kTup Q) E:=by unfold wTup kTup kTup2 lenOk; simp
theorem zmE:kTup Q rs O=kTup2 (lenOk rs) (giveAll rs O) Q:=rfl
theorem znf:kTup2 true (some (ss,O)) Q=Q (.v (.sh (.tup (ss.map S.toD)))) O:=rfl
theorem zpe:wLst wa O Q E=wa O (kLst Q) E:=by unfold wLst kLst kLst2 lenOk; simp
theorem znI:kLst Q rs O=kLst2 (lenOk rs) (giveAll rs O) Q:=rfl
theorem zn9:kLst2 true (some (ss,O)) Q=Q (.v (.lst ss)) O:=rfl
theorem e_l0:lenOk []=true:=rfl
theorem e_l1:lenOk [r1]=true:=rfl
theorem e_l2:lenOk [r1,r2]=true:=rfl
theorem e_l3:lenOk [r1,r2,r3]=true:=rfl
theorem e_l5:lenOk [r1,r2,r3,r4,r5]=true:=rfl
theorem e_vv:view (.v s) O=some s.toD:=rfl
theorem e_vl:view (.loc i) O=(slot O i).map S.toD:=rfl
theorem e_cv:viewC (.v s) O=some s.toD:=rfl
noncomputable def vC:Option S->Option D
 | some s=>if s.flat then some s.toD else none
 | none=>none
theorem e_cl:viewC (.loc i) O=vC (slot O i):=by unfold viewC vC; rfl
theorem znZ (h:l.all S.isSh=true):vC (some (.lst l))=some (.lst (l.map S.toD)):=by
 show (if l.all S.isSh=true then some (S.toD (.lst l)) else none)=_
 rw [if_pos h,S.toD_lst]
theorem e_sh {l:List D}:(l.map S.sh).all S.isSh=true:=by simp [S.isSh]
theorem zap {l:List D}:(l.map S.sh).map S.toD=l:=by
 rw [map_map]; exact map_id l
theorem zqE:vC (some (.lst (l.map S.sh)))=some (.lst l):=by rw [znZ e_sh,zap]
noncomputable def kIx5 (o:Option S) (Q:WQ) (O:Env):Prop:=match o with | some (.sh d)=>Q (.v (.sh d)) O | _=>False
noncomputable def kIx4 (o:Option S) (q:D) (Q:WQ) (O:Env):Prop:=match o with | some s=>kIx5 (ixS s q) Q O | none=>False
noncomputable def kIx3 (x:R) (o:Option D) (Q:WQ) (O:Env):Prop:=need o fun q=>match x with | .v s=>kV (ixS s q) Q O | .loc i=>kIx4 (slot O i) q Q O
noncomputable def kIx2 (x:R) (Q:WQ):WQ:=fun y O2=>kIx3 x (view y O2) Q O2
noncomputable def kIx1 (b:WE) (Q:WQ) (E:WX):WQ:=fun x O1=>b O1 (kIx2 x Q) E
theorem e_Ix:wIx a b O Q E=a O (kIx1 b Q E) E:=by
 unfold wIx kIx1 kIx2 kIx3 kIx4 kIx5 kV
 rfl
theorem zqK:kIx1 b Q E x O=b O (kIx2 x Q) E:=rfl
theorem zqh:kIx2 x Q y O=kIx3 x (view y O) Q O:=rfl
theorem zos:kIx3 (.v s) (some q) Q O=kV (ixS s q) Q O:=rfl
theorem zlV:kIx3 (.loc i) (some q) Q O=kIx4 (slot O i) q Q O:=rfl
theorem zph:kIx4 (some s) q Q O=kIx5 (ixS s q) Q O:=rfl
theorem zpq:kIx5 (some (.sh d)) Q O=Q (.v (.sh d)) O:=rfl
theorem zpl:ixS (.sh (.tup l)) (.int z)=(atI l z).map S.sh:=rfl
theorem zoY:ixS (.sh (.lst l)) (.int z)=(atI l z).map S.sh:=rfl
theorem zqX:ixS (.sh (.str l)) (.int z)=(atI l z).map fun c=>S.sh (.str [c]):=rfl
theorem zrc:ixS (.lst l) (.int z)=atI l z:=rfl
theorem zbw (h0:0<=z) (h:l[z.toNat]?=some v):atI l z=some v:=by
 have:z.toNat < l.length:=(qh.mp h).1
 unfold atI ixN
 rw [if_pos h0,if_pos (by lia)]
 exact h
theorem zqR:atI (v::l) 0=some v:=zbw (by decide) rfl
theorem zpJ:atI (v1::v::l) 1=some v:=zbw (by decide) rfl
theorem zpx:atI (v1::v2::v::l) 2=some v:=zbw (by decide) rfl
theorem zrk:atI (v1::v2::v3::v::l) 3=some v:=zbw (by decide) rfl
theorem zpt:atI (v1::v2::v3::v4::v::l) 4=some v:=zbw (by decide) rfl
noncomputable def pA (s:S):Option (List S×Env)->Option (List S×Env)
 | some (ss,O)=>some (s::ss,O)
 | none=>none
theorem e_p0:prep ms [] O=some ([],O):=by cases ms <;> rfl
theorem e_pv:prep (h::ms) (.v s::rs) O=pA s (prep ms rs O):=by rw [prep]; unfold pA; rfl
noncomputable def pL (i:Nat) (o:Option S) (ms:List Bool) (rs:List R) (O:Env):Option (List S×Env):=match o with
 | some s=>pA s (prep ms rs (O.set i none))
 | none=>none
theorem e_pl:prep (true::ms) (.loc i::rs) O=pL i (slot O i) ms rs O:=by
 rw [prep]; unfold pL pA
 cases slot O i <;> rfl
theorem zq7:pL i (some s) ms rs O=pA s (prep ms rs (O.set i none)):=rfl
theorem e_pA:pA s (some (ss,O))=some (s::ss,O):=rfl
theorem e_b0:back ms [] ss O=O:=by unfold back; cases ss <;> rfl
theorem e_bv {s t:S}:back (h::ms) (.v s::rs) (t::ss) O=back ms rs ss O:=by rw [back]; rfl
theorem e_bl {t:S}:back (true::ms) (.loc i::rs) (t::ss) O=back ms rs ss (O.set i (some t)):=by rw [back]; rfl
noncomputable def kCret (ms:List Bool) (rs:List R) (O:Env) (Q:WQ):S->List S->Prop:=fun s ss=>Q (.v s) (back ms rs ss O)
noncomputable def kCex (ms:List Bool) (rs:List R) (O:Env) (E:WX):D->List S->Prop:=fun x ss=>E x (back ms rs ss O)
noncomputable def kCall2 (f:WF) (ms:List Bool) (rs:List R) (o:Option (List S×Env)) (Q:WQ) (E:WX):Prop:=need o fun p=>f p.1 (kCret ms rs p.2 Q) (kCex ms rs p.2 E)
noncomputable def kCall (f:WF) (ms:List Bool) (Q:WQ) (E:WX):List R->Env->Prop:=fun rs O=>kCall2 f ms rs (prep ms rs O) Q E
theorem zor:wCall f ms wa O Q E=wa O (kCall f ms Q E) E:=rfl
theorem zlB:kCall f ms Q E rs O=kCall2 f ms rs (prep ms rs O) Q E:=rfl
theorem zkN:kCall2 f ms rs (some (ss,O)) Q E=f ss (kCret ms rs O Q) (kCex ms rs O E):=rfl
theorem zmJ:kCret ms rs O Q s ss=Q (.v s) (back ms rs ss O):=rfl
noncomputable def vA:Option D->Option (List D)->Option (List D)
 | some d,some ds=>some (d::ds)
 | _,_=>none
noncomputable def vAll (rs:List R) (O:Env):Option (List D):=match rs with
 | []=>some []
 | r::rs=>vA (viewC r O) (vAll rs O)
theorem zeJ:∀ rs:List R,(rs.mapM fun r=>viewC r O)=vAll rs O
 | []=>rfl
 | r::rs=>by
   rw [List.mapM_cons,zeJ rs,vAll]
   cases viewC r O with
   | none=>rfl
   | some d=>cases vAll rs O <;> rfl
theorem zoJ:vAll [] O=some []:=rfl
theorem e_vA:vAll (r::rs) O=vA (viewC r O) (vAll rs O):=rfl
theorem zp8:vA (some d) (some ds)=some (d::ds):=rfl
noncomputable def kB2 (f:List D->Option S) (o:Option (List D)) (Q:WQ) (O:Env):Prop:=need o fun ds=>kV (f ds) Q O
noncomputable def kB (f:List D->Option S) (Q:WQ):List R->Env->Prop:=fun rs O=>kB2 f (vAll rs O) Q O
theorem e_B:wB f wa O Q E=wa O (kB f Q) E:=by
 unfold wB kB kB2 kV
 simp only [zeJ]
theorem e_B1:kB f Q rs O=kB2 f (vAll rs O) Q O:=rfl
theorem e_B2:kB2 f (some ds) Q O=kV (f ds) Q O:=rfl
noncomputable def kMS2 (f:List Nat->List D->Option S) (l:List Nat) (Q:WQ):List R->Env->Prop:=fun rs O=>kB2 (f l) (vAll rs O) Q O
noncomputable def kMS (f:List Nat->List D->Option S) (wa:WA) (Q:WQ) (E:WX):WQ:=fun x O=>match x with
 | .v (.sh (.str l))=>wa O (kMS2 f l Q) E
 | _=>False
theorem e_MS:wMS f a wa O Q E=a O (kMS f wa Q E) E:=by
 unfold wMS kMS kMS2 kB2 kV
 simp only [zeJ]
 all_goals rfl
theorem zqb:kMS f wa Q E (.v (.sh (.str l))) O=wa O (kMS2 f l Q) E:=rfl
theorem zqZ:kMS2 f l Q rs O=kB2 (f l) (vAll rs O) Q O:=rfl
noncomputable def kAp4 (j:Nat) (s:S) (o:Option S) (O:Env) (Q:WQ):Prop:=match o with
 | some (.lst l)=>l.length < big/\Q (.v (.sh .non)) (O.set j (some (.lst (l++[s]))))
 | _=>False
noncomputable def kAp3 (j:Nat) (o:Option (S×Env)) (Q:WQ):Prop:=need o fun p=>kAp4 j p.1 (slot p.2 j) p.2 Q
noncomputable def kAp2 (j:Nat) (Q:WQ):WQ:=fun r O=>kAp3 j (give r O) Q
noncomputable def kAp (j:Nat) (o:Option S) (a:WE) (O:Env) (Q:WQ) (E:WX):Prop:=match o with
 | some (.lst _)=>a O (kAp2 j Q) E
 | _=>False
theorem e_Ap:wAppend j a O Q E=kAp j (slot O j) a O Q E:=by unfold wAppend kAp kAp2 kAp3 kAp4; rfl
theorem zpE:kAp j (some (.lst l)) a O Q E=a O (kAp2 j Q) E:=rfl
theorem zqj:kAp2 j Q r O=kAp3 j (give r O) Q:=rfl
theorem zqm:kAp3 j (some (s,O)) Q=kAp4 j s (slot O j) O Q:=rfl
theorem zq2:kAp4 j s (some (.lst l)) O Q=(l.length < big/\Q (.v (.sh .non)) (O.set j (some (.lst (l++[s]))))):=rfl
noncomputable def kPop3 (j:Nat) (o:Option D) (p:Option S) (O:Env) (Q:WQ):Prop:=match o,p with
 | some (.int i),some (.lst l)=>need (if l.length<=big then ixN l.length i else none) fun k=>need l[k]? fun s=>Q (.v s) (O.set j (some (.lst (l.eraseIdx k))))
 | _,_=>False
noncomputable def kPop2 (j:Nat) (Q:WQ):WQ:=fun r O=>kPop3 j (view r O) (slot O j) O Q
noncomputable def kPop (j:Nat) (o:Option S) (a:WE) (O:Env) (Q:WQ) (E:WX):Prop:=match o with
 | some (.lst _)=>a O (kPop2 j Q) E
 | _=>False
theorem zpn:wPopAt j a O Q E=kPop j (slot O j) a O Q E:=by unfold wPopAt kPop kPop2 kPop3; rfl
theorem zn4:kPop j (some (.lst l)) a O Q E=a O (kPop2 j Q) E:=rfl
theorem znk:kPop2 j Q r O=kPop3 j (view r O) (slot O j) O Q:=rfl
theorem zkg (h0:0<=z) (hb:l.length<=big) (h:l[z.toNat]?=some s) (hq:Q (.v s) (O.set j (some (.lst (l.eraseIdx z.toNat))))):kPop3 j (some (.int z)) (some (.lst l)) O Q:=by
 have:z.toNat < l.length:=(qh.mp h).1
 have e:(if l.length<=big then ixN l.length z else none)=some z.toNat:=by
  unfold ixN
  rw [if_pos hb,if_pos h0,if_pos (by lia)]
 show need (if l.length<=big then ixN l.length z else none) _
 rw [e,zbJ,h]
 exact hq
noncomputable def kDi3 (o:Option D) (p:Option (S×Env)) (Q:WQ):Prop:=need o fun q=>need p fun p=>isKey1 q=true/\Q (.v (.dct false [q] [p.1])) p.2
noncomputable def kDi2 (x:R) (Q:WQ):WQ:=fun y O=>kDi3 (view x O) (give y O) Q
noncomputable def kDi1 (v:WE) (Q:WQ) (E:WX):WQ:=fun x O=>v O (kDi2 x Q) E
theorem e_Di:wDisp1 a b O Q E=a O (kDi1 b Q E) E:=rfl
theorem zoL:kDi1 b Q E x O=b O (kDi2 x Q) E:=rfl
theorem zoO:kDi2 x Q y O=kDi3 (view x O) (give y O) Q:=rfl
theorem zpb:kDi3 (some q) (some (s,O)) Q=(isKey1 q=true/\Q (.v (.dct false [q] [s])) O):=rfl
theorem znz:isKey1 (.int z)=true:=rfl
noncomputable def kPt2 (o:Option D) (Q:Option Int->Env->Prop) (O:Env):Prop:=match o with | some (.int i)=>Q (some i) O | _=>False
noncomputable def kPt (Q:Option Int->Env->Prop):WQ:=fun x O=>kPt2 (view x O) Q O
theorem zo8 {Q:Option Int->Env->Prop}:wPart none O Q E=Q none O:=rfl
theorem e_Pt {Q:Option Int->Env->Prop}:wPart (some a) O Q E=a O (kPt Q) E:=rfl
theorem zro {Q:Option Int->Env->Prop}:kPt Q x O=kPt2 (view x O) Q O:=rfl
theorem zqi {Q:Option Int->Env->Prop}:kPt2 (some (.int z)) Q O=Q (some z) O:=rfl
noncomputable def kSl3 (o:Option D) (l h:Option Int) (Q:WQ) (O:Env):Prop:=need o fun d=>kV (slD d l h) Q O
noncomputable def kSl2 (x:R) (l:Option Int) (Q:WQ):Option Int->Env->Prop:=fun h O=>kSl3 (viewC x O) l h Q O
noncomputable def kSl1 (x:R) (hi:Option WE) (Q:WQ) (E:WX):Option Int->Env->Prop:=fun l O=>wPart hi O (kSl2 x l Q) E
noncomputable def kSl (lo hi:Option WE) (Q:WQ) (E:WX):WQ:=fun x O=>wPart lo O (kSl1 x hi Q E) E
theorem e_Sl:wSl a lo hi O Q E=a O (kSl lo hi Q E) E:=rfl
theorem zrh:kSl lo hi Q E x O=wPart lo O (kSl1 x hi Q E) E:=rfl
theorem zqW:kSl1 x hi Q E l O=wPart hi O (kSl2 x l Q) E:=rfl
theorem zpu:kSl2 x l Q h O=kSl3 (viewC x O) l h Q O:=rfl
theorem zq0:kSl3 (some d) l h Q O=kV (slD d l h) Q O:=rfl
end
section
variable {O O1 O2:Env} {K:Env->Prop} {QI:List D->Env->Prop} {QE:Env->Prop} {E:WX} {Q:WQ} {D':Ends} {a b:WE} {v w:WS} {t:WT} {r x y:R} {s:S} {ss:List S} {d q:D} {i j n m:Nat} {g:WG}
noncomputable def wNx (D:Ends) (k:Env->Prop):Ends:={ D with nx:=k }
theorem e_nx:(wNx D' K).nx=K:=rfl
theorem e_rt:(wNx D' K).rt=D'.rt:=rfl
theorem e_ex:(wNx D' K).ex=D'.ex:=rfl
theorem znD:wPass D' O=D'.nx O:=rfl
theorem zpd:wSeq v w D' O=v (wNx D' (w D')) O:=rfl
noncomputable def kIf (a b:WS) (D:Ends):Bool->Env->Prop:=fun k O=>if k then a D O else b D O
theorem e_If:wIf t v w D' O=t O (kIf v w D') D'.ex:=rfl
theorem zqk:kIf v w D' true O=v D' O:=rfl
theorem zqH:kIf v w D' false O=w D' O:=rfl
theorem zoZ:wRet a D' O=a O D'.rt D'.ex:=rfl
noncomputable def kEx (D:Ends):WQ:=fun _ O=>D.nx O
theorem znb:wExpr a D' O=a O (kEx D') D'.ex:=rfl
theorem zk1:kEx D' r O=D'.nx O:=rfl
noncomputable def kAsg2 (g:WG) (D:Ends) (o:Option (S×Env)):Prop:=need o fun p=>g p.1 p.2 D.nx
noncomputable def kAsg (g:WG) (D:Ends):WQ:=fun r O=>kAsg2 g D (give r O)
theorem zp4:wAsg g a D' O=a O (kAsg g D') D'.ex:=rfl
theorem zmM:kAsg g D' r O=kAsg2 g D' (give r O):=rfl
theorem zni:kAsg2 g D' (some (s,O))=g s O D'.nx:=rfl
theorem e_gN:gName i s O K=K (O.set i (some s)):=rfl
noncomputable def kGT (gs:List WG) (d:D) (O:Env) (Q:Env->Prop):Prop:=match d with | .tup ds=>ds.length=gs.length/\gTups gs ds O Q | _=>False
theorem e_gT:gTup gs s O K=kGT gs s.toD O K:=rfl
theorem zoS:kGT gs (.tup ds) O K=(ds.length=gs.length/\gTups gs ds O K):=rfl
noncomputable def kGTs (gs:List WG) (ds:List D) (Q:Env->Prop):Env->Prop:=fun O=>gTups gs ds O Q
theorem zpX:gTups [] [] O K=K O:=rfl
theorem zpr:gTups (g::gs) (d::ds) O K=g (.sh d) O (kGTs gs ds K):=rfl
theorem zpf:kGTs gs ds K O=gTups gs ds O K:=rfl
noncomputable def kSet5 (j:Nat) (D:Ends) (x:R) (q:FL.D) (s:S) (o:Option S) (O:Env):Prop:=match x,q,o with
 | .loc k,.int n,some (.lst l)=>k=j/\need (ixN l.length n) fun m=>D.nx (O.set j (some (.lst (l.set m s))))
 | _,_,_=>False
noncomputable def kSet4 (j:Nat) (D:Ends) (x:R) (o:Option FL.D) (p:Option (S×Env)):Prop:=need o fun q=>need p fun p=>kSet5 j D x q p.1 (slot p.2 j) p.2
noncomputable def kSet3 (j:Nat) (D:Ends) (r x:R):WQ:=fun y O=>kSet4 j D x (view y O) (give r O)
noncomputable def kSet2 (j:Nat) (i:WE) (D:Ends) (r:R):WQ:=fun x O=>i O (kSet3 j D r x) D.ex
noncomputable def kSet1 (j:Nat) (i:WE) (D:Ends):WQ:=fun r O=>wVar j O (kSet2 j i D r) D.ex
theorem zq8:wSetIx j a b D' O=b O (kSet1 j a D') D'.ex:=by unfold wSetIx kSet1 kSet2 kSet3 kSet4 kSet5; rfl
theorem zoc:kSet1 j a D' r O=wVar j O (kSet2 j a D' r) D'.ex:=rfl
theorem zl1:kSet2 j a D' r x O=a O (kSet3 j D' r x) D'.ex:=rfl
theorem znC:kSet3 j D' r x y O=kSet4 j D' x (view y O) (give r O):=rfl
theorem zm1:kSet4 j D' x (some q) (some (s,O))=kSet5 j D' x q s (slot O j) O:=rfl
theorem zkf (h0:0<=z) (h1:z < l.length):kSet5 j D' (.loc j) (.int z) s (some (.lst l)) O=D'.nx (O.set j (some (.lst (l.set z.toNat s)))):=by
 show (j=j/\need (ixN l.length z) _)=_
 unfold ixN
 rw [if_pos h0,if_pos h1,zbJ]
 simp
theorem zlT:kSet5 j D' (.loc j) (.int 0) s (some (.lst [s0,s1])) O=D'.nx (O.set j (some (.lst [s,s1]))):=zkf (by decide) (by show (0:Int) < 2; decide)
theorem zlJ:kSet5 j D' (.loc j) (.int 1) s (some (.lst [s0,s1])) O=D'.nx (O.set j (some (.lst [s0,s]))):=zkf (by decide) (by show (1:Int) < 2; decide)
noncomputable def kDp5 (j:Nat) (D:Ends) (q:FL.D) (s:S) (o:Option S) (O:Env):Prop:=match o with
 | some (.dct t ks l)=>isKey t q=true/\ks.Nodup/\ks.length < big/\D.nx (O.set j (some (dputS t ks l q s)))
 | _=>False
noncomputable def kDp4 (j:Nat) (D:Ends) (x:R) (o:Option FL.D) (p:Option (S×Env)):Prop:=need o fun q=>need p fun p=>match x with
 | .loc k=>k=j/\kDp5 j D q p.1 (slot p.2 j) p.2
 | _=>False
noncomputable def kDp3 (j:Nat) (D:Ends) (r x:R):WQ:=fun y O=>kDp4 j D x (view y O) (give r O)
noncomputable def kDp2 (j:Nat) (i:WE) (D:Ends) (r:R):WQ:=fun x O=>i O (kDp3 j D r x) D.ex
noncomputable def kDp1 (j:Nat) (i:WE) (D:Ends):WQ:=fun r O=>wVar j O (kDp2 j i D r) D.ex
theorem e_Dp:wDput j a b D' O=b O (kDp1 j a D') D'.ex:=by
 have e:(fun (r:R) (O1:Env)=>wVar j O1 (fun x O2=>a O2 (fun y O3=>need (view y O3) fun q=>need (give r O3) fun p=>match x,slot p.2 j with
  | .loc k,some (.dct t ks l)=>k=j/\isKey t q=true/\ks.Nodup/\ks.length < big/\D'.nx (p.2.set j (some (dputS t ks l q p.1)))
  | _,_=>False) D'.ex) D'.ex)=kDp1 j a D':=by
  funext r O1
  unfold kDp1 kDp2 kDp3 kDp4 kDp5
  congr 1
  funext x O2
  congr 1
  funext y O3
  cases view y O3 with
  | none=>rfl
  | some q=>
    cases give r O3 with
    | none=>rfl
    | some p=>
      simp only [zbJ]
      cases x with
      | v s=>cases slot p.2 j <;> rfl
      | loc k=>
        cases slot p.2 j with
        | none=>simp
        | some s=>
          cases s with
          | dct t ks l=>simp
          | _=>simp
 exact congrArg (fun z=>b O z D'.ex) e
theorem zpY:kDp1 j a D' r O=wVar j O (kDp2 j a D' r) D'.ex:=rfl
theorem zoA:kDp2 j a D' r x O=a O (kDp3 j D' r x) D'.ex:=rfl
theorem zqr:kDp3 j D' r x y O=kDp4 j D' x (view y O) (give r O):=rfl
theorem zqS:kDp4 j D' (.loc j) (some q) (some (s,O))=kDp5 j D' q s (slot O j) O:=by show (j=j/\_)=_; simp
theorem zqt:kDp5 j D' q s (some (.dct false ks l)) O=(isKey1 q=true/\ks.Nodup/\ks.length < big/\D'.nx (O.set j (some (dputS false ks l q s)))):=rfl
theorem znj:kDp5 j D' q s (some (.dct true ks l)) O=(isKey true q=true/\ks.Nodup/\ks.length < big/\D'.nx (O.set j (some (dputS true ks l q s)))):=rfl
noncomputable def kIt3 (o:Option (List D)) (O:Env) (Q:List D->Env->Prop):Prop:=need o fun l=>Q l O
noncomputable def kIt2 (o:Option (S×Env)) (Q:List D->Env->Prop):Prop:=need o fun p=>kIt3 (items p.1.toD) p.2 Q
noncomputable def kIt (Q:List D->Env->Prop):WQ:=fun r O=>kIt2 (give r O) Q
theorem e_It:wIter a O QI E=a O (kIt QI) E:=rfl
theorem zrl:kIt QI r O=kIt2 (give r O) QI:=rfl
theorem zpQ:kIt2 (some (s,O)) QI=kIt3 (items s.toD) O QI:=rfl
theorem zoT:kIt3 (some l) O QI=QI l O:=rfl
theorem zoI:items (.lst l)=some l:=rfl
theorem zqu:items (.tup l)=some l:=rfl
noncomputable def kEn3 (o:Option (List D)) (O:Env) (Q:List D->Env->Prop):Prop:=need o fun l=>Q (enumF 0 l) O
noncomputable def kEn2 (o:Option (S×Env)) (Q:List D->Env->Prop):Prop:=need o fun p=>kEn3 (items p.1.toD) p.2 Q
noncomputable def kEn (Q:List D->Env->Prop):WQ:=fun r O=>kEn2 (give r O) Q
theorem e_En:wEnum a O QI E=a O (kEn QI) E:=rfl
theorem zqI:kEn QI r O=kEn2 (give r O) QI:=rfl
theorem zoN:kEn2 (some (s,O)) QI=kEn3 (items s.toD) O QI:=rfl
theorem zo2:kEn3 (some l) O QI=QI (enumF 0 l) O:=rfl
noncomputable def kR1b (o:Option D) (Q:List D->Env->Prop) (O:Env):Prop:=match o with | some (.int j)=>(-big<=j/\j<=big)/\Q (fromTo 0 j.toNat) O | _=>False
noncomputable def kR1 (Q:List D->Env->Prop):WQ:=fun r O=>kR1b (view r O) Q O
theorem e_R1:wRange1 a O QI E=a O (kR1 QI) E:=rfl
theorem zqC:kR1 QI r O=kR1b (view r O) QI O:=rfl
theorem zp7:kR1b (some (.int z)) QI O=((-big<=z/\z<=big)/\QI (fromTo 0 z.toNat) O):=rfl
noncomputable def kR2b (o p:Option D) (Q:List D->Env->Prop) (O:Env):Prop:=match o,p with | some (.int i),some (.int j)=>(-big<=i/\i<=big/\-big<=j/\j<=big)/\Q (fromTo i (j - i).toNat) O | _,_=>False
noncomputable def kR2a (r:R) (Q:List D->Env->Prop):WQ:=fun t O=>kR2b (view r O) (view t O) Q O
noncomputable def kR2 (b:WE) (Q:List D->Env->Prop) (E:WX):WQ:=fun r O=>b O (kR2a r Q) E
theorem e_R2:wRange2 a b O QI E=a O (kR2 b QI E) E:=rfl
theorem zql:kR2 b QI E r O=b O (kR2a r QI) E:=rfl
theorem zpR:kR2a r QI x O=kR2b (view r O) (view x O) QI O:=rfl
theorem zqs:kR2b (some (.int z)) (some (.int z')) QI O=((-big<=z/\z<=big/\-big<=z'/\z'<=big)/\QI (fromTo z (z' - z).toNat) O):=rfl
noncomputable def kFor (g:WG) (b:WS) (D:Ends):List FL.D->Env->Prop:=fun l O=>wLoop g b l D O
theorem zqY:wFor it g v D' O=it O (kFor g v D') D'.ex:=rfl
theorem zl8:kFor g v D' l O=wLoop g v l D' O:=rfl
noncomputable def lpE (g:WG) (b:WS) (xs:List FL.D) (D:Ends):Ends:={ D with nx:=wLoop g b xs D,ct:=wLoop g b xs D,bk:=D.nx }
noncomputable def kLp (g:WG) (b:WS) (xs:List FL.D) (D:Ends):Env->Prop:=fun O=>b (lpE g b xs D) O
theorem e_Lp:wLoop g v (d::xs) D' O=g (.sh d) O (kLp g v xs D'):=rfl
variable {c:WT} {bb:WB}
noncomputable def kLCr2 (n:Nat) (o:Option S) (O:Env) (Q:WQ):Prop:=need o fun s=>Q (.v s) (O.take n)
noncomputable def kLCr (n:Nat) (Q:WQ):Env->Prop:=fun O=>kLCr2 n (slot O n) O Q
noncomputable def kLCx (n:Nat) (E:WX):WX:=NX
noncomputable def kLC (n k:Nat) (g:WG) (c:WT) (b:WB) (Q:WQ) (E:WX):List D->Env->Prop:=fun l O=>bLoop g c b l (O++some (.lst [])::List.replicate k none) (kLCr n Q) (kLCx n E)
theorem e_LC:wLC n m it g c bb O Q E=it O (kLC n m g c bb Q E) E:=rfl
theorem zqo:kLC n m g c bb Q E l O=bLoop g c bb l (O++some (.lst [])::List.replicate m none) (kLCr n Q) (kLCx n E):=rfl
theorem zpP:kLCr n Q O=kLCr2 n (slot O n) O Q:=rfl
theorem zmt:kLCr2 n (some s) O Q=Q (.v s) (O.take n):=rfl
noncomputable def kbL3 (g:WG) (c:WT) (b:WB) (xs:List D) (Q:Env->Prop) (E:WX):Env->Prop:=fun O=>bLoop g c b xs O Q E
noncomputable def kbL2 (g:WG) (c:WT) (b:WB) (xs:List D) (Q:Env->Prop) (E:WX):Bool->Env->Prop:=fun k O=>if k then b O (kbL3 g c b xs Q E) E else bLoop g c b xs O Q E
noncomputable def kbL (g:WG) (c:WT) (b:WB) (xs:List D) (Q:Env->Prop) (E:WX):Env->Prop:=fun O=>c O (kbL2 g c b xs Q E) E
theorem e_bL:bLoop g c bb (d::xs) O QE E=g (.sh d) O (kbL g c bb xs QE E):=rfl
theorem zpp:kbL g c bb xs QE E O=c O (kbL2 g c bb xs QE E) E:=rfl
theorem zl0:kbL2 g c bb xs QE E true O=bb O (kbL3 g c bb xs QE E) E:=rfl
theorem zpV:kbL3 g c bb xs QE E O=bLoop g c bb xs O QE E:=rfl
noncomputable def kEm3 (n:Nat) (s:S) (o:Option S) (O:Env) (Q:Env->Prop):Prop:=match o with
 | some (.lst l)=>l.length < big/\Q (O.set n (some (.lst (l++[s]))))
 | _=>False
noncomputable def kEm2 (n:Nat) (o:Option (S×Env)) (Q:Env->Prop):Prop:=need o fun p=>kEm3 n p.1 (slot p.2 n) p.2 Q
noncomputable def kEm (n:Nat) (Q:Env->Prop):WQ:=fun r O=>kEm2 n (give r O) Q
theorem e_Em:bEmit n a O QE E=a O (kEm n QE) E:=by unfold bEmit kEm kEm2 kEm3; rfl
theorem zo7:kEm n QE r O=kEm2 n (give r O) QE:=rfl
theorem zp0:kEm2 n (some (s,O)) QE=kEm3 n s (slot O n) O QE:=rfl
theorem zqB:kEm3 n s (some (.lst l)) O QE=(l.length < big/\QE (O.set n (some (.lst (l++[s]))))):=rfl
noncomputable def kbF (g:WG) (c:WT) (b:WB) (Q:Env->Prop) (E:WX):List D->Env->Prop:=fun l O=>bLoop g c b l O Q E
theorem e_bF:bFor it g c bb O QE E=it O (kbF g c bb QE E) E:=rfl
theorem zrj:kbF g c bb QE E l O=bLoop g c bb l O QE E:=rfl
theorem zoF:wYes O QT E=QT true O:=rfl
noncomputable def kFn (o:Option (List S)) (P:S->List S->Prop) (s:S):Prop:=need o fun fs=>P s fs
noncomputable def kRt2 (n:Nat) (ss:List S) (P:S->List S->Prop) (i:Nat) (o:Option S) (O:Env):Prop:=need o fun s=>if i < n then kFn (finals ss (O.set i (some (.sh s.toD)))) P (.sh s.toD) else kFn (finals ss O) P s
noncomputable def kRt (n:Nat) (ss:List S) (P:S->List S->Prop):WQ:=fun r O=>match r with
 | .v s=>kFn (finals ss O) P s
 | .loc i=>kRt2 n ss P i (slot O i) O
noncomputable def fnE (n:Nat) (ss:List S) (P:S->List S->Prop) (PX:D->List S->Prop):Ends where
 nx:=fun O=>kFn (finals ss O) P (.sh .non)
 rt:=kRt n ss P
 bk:=fun _=>False
 ct:=fun _=>False
 ex:=fun x O=>need (finals ss O) fun fs=>PX x fs
variable {P:S->List S->Prop} {PX:D->List S->Prop}
theorem za5 (hl:ss.length=n) (hk:((List.range ss.length).all fun i=>decide (i∈ks))=true) (h:v (fnE n ss P PX) (ss.map some++List.replicate (m - n) none)):wFn n m ks v ss P PX:=by
 refine ⟨hl,fun i s hi=>?_,h⟩
 have:=(qh.mp hi).1
 exact .inl (by simpa using all_eq_true.mp hk i (by simpa using this))
theorem zqe:(fnE n ss P PX).rt=kRt n ss P:=rfl
theorem e_Rt:kRt n ss P (.v s) O=kFn (finals ss O) P s:=rfl
theorem zo6:kRt n ss P (.loc i) O=kRt2 n ss P i (slot O i) O:=rfl
theorem zpv (h:¬ i < n):kRt2 n ss P i (some s) O=kFn (finals ss O) P s:=by show (if i < n then _ else _)=_; rw [if_neg h]
theorem e_Fn:kFn (some fs) P s=P s fs:=rfl
noncomputable def fA (s:S):Option (List S)->Option (List S)
 | some fs=>some (s::fs)
 | none=>none
theorem e_f0:finals [] O=some []:=by cases O <;> rfl
theorem e_fs:finals (.sh d::ss) (o::O)=fA (.sh d) (finals ss O):=by
 rw [finals]; unfold fA; cases finals ss O <;> rfl
theorem e_fl:finals (.lst l::ss) (some s::O)=fA s (finals ss O):=by
 rw [finals]; unfold fA; cases finals ss O <;> rfl
 intro d h; cases h
theorem e_fA:fA s (some fs)=some (s::fs):=rfl
end
section
variable {i j:Int} {x y:List Nat} {l m:List D}
theorem zpF:oAdd (.int i) (.int j)=some (.sh (.int (i + j))):=rfl
theorem znv (h:x.length + y.length<=big):oAdd (.str x) (.str y)=some (.sh (.str (x++y))):=if_pos h
theorem znY (h:l.length + m.length<=big):oAdd (.lst l) (.lst m)=some (.lst ((l++m).map .sh)):=if_pos h
theorem znM (h:l.length + m.length<=big):oAdd (.tup l) (.tup m)=some (.sh (.tup (l++m))):=if_pos h
theorem zpO:oSub (.int i) (.int j)=some (.sh (.int (i - j))):=rfl
theorem zmu (h:-(2 ^ 64) < i/\i < 2 ^ 64):oMul (.int i) (.int j)=some (.sh (.int (i * j))):=by
 show (if mulOk i j=true then _ else none)=_
 rw [if_pos (by simp only [mulOk,h.1,h.2,decide_true,Bool.and_self,Bool.true_or])]
theorem zoV (h:0 < j):oMod (.int i) (.int j)=some (.sh (.int (i % j))):=if_pos h
theorem zmG (h:0 < j) (h2:j < 18446744073709551616):oFdiv (.int i) (.int j)=some (.sh (.int (i / j))):=if_pos ⟨h,h2⟩
theorem zpA (h:0<=j/\j<=1000/\i.natAbs < 2 ^ 64):oPow (.int i) (.int j)=some (.sh (.int (i ^ j.toNat))):=if_pos h
theorem zoE:oNeg (.int i)=some (.sh (.int (-i))):=rfl
theorem e_lt:cLt (.int i) (.int j)=some (decide (i < j)):=rfl
theorem e_gt:cGt (.int i) (.int j)=some (decide (j < i)):=rfl
theorem e_le:cLe (.int i) (.int j)=some (decide (i<=j)):=rfl
theorem e_ge:cGe (.int i) (.int j)=some (decide (j<=i)):=rfl
theorem zoo:cEq (.int i) (.int j)=some (decide (i=j)):=by
 unfold cEq
 rw [if_neg (by exact fun z=>Bool.noConfusion (show false=true from z))]
 simp
theorem zoD:cNe (.int i) (.int j)=some (!decide (i=j)):=by unfold cNe; rw [zoo]; rfl
theorem znE:cEq (.str x) (.str y)=some (decide (x=y)):=by
 unfold cEq
 rw [if_neg (by exact fun z=>Bool.noConfusion (show false=true from z))]
 simp
theorem zri:cNe (.str x) (.str y)=some (!decide (x=y)):=by unfold cNe; rw [znE]; rfl
theorem zlY:bLen [.str x]=some (.sh (.int x.length)):=rfl
theorem znN:bLen [.tup l]=some (.sh (.int l.length)):=rfl
theorem zmj:bLen [.lst l]=some (.sh (.int l.length)):=rfl
theorem zlU:bInt [.bl b]=some (.sh (.int (if b then 1 else 0))):=rfl
theorem zmr:bTuple [.lst l]=some (.sh (.tup l)):=rfl
theorem zmi:bListA [.tup l]=some (.lst (l.map .sh)):=rfl
theorem zon (h:x.length<=big):bListA [.str x]=some (.lst (x.map fun c=>.sh (.str [c]))):=if_pos h
theorem zpM:bMax [.int i,.int j]=some (.sh (.int (if j > i then j else i))):=rfl
theorem zoP:bMin [.int i,.int j]=some (.sh (.int (if j < i then j else i))):=rfl
theorem zp9:slD (.str x) a b=some (.sh (.str (cutL x a b))):=rfl
theorem zpz:slD (.tup l) a b=some (.sh (.tup (cutL l a b))):=rfl
theorem zq9:slD (.lst l) a b=some (.lst ((cutL l a b).map .sh)):=rfl
end
section
variable {Q:WQ} {QT:Bool->Env->Prop} {E:WX} {O:Env} {d p q:D} {l m:List S} {t:Bool} {ks:List D} {s:S} {v:Option S} {o:D->D->Option S} {oc:D->D->Option Bool} {j k:Nat} {s0 s1 s2 s3 s4 s5 s6 s7 s8 s9 s10 s11 s12 s13 s14:Option S}
theorem zpH:wVar 0 (some (.sh d)::O) Q E=Q (.v (.sh d)) (some (.sh d)::O):=rfl
theorem zqg:wVar 0 (some (.lst l)::O) Q E=Q (.loc 0) (some (.lst l)::O):=rfl
theorem zp3:slot (v::O) 0=v:=rfl
theorem zpa:List.set (u::O) 0 v=v::O:=rfl
theorem zqL:wVar 1 (s0::some (.sh d)::O) Q E=Q (.v (.sh d)) (s0::some (.sh d)::O):=rfl
theorem zpB:List.set (s0::u::O) 1 v=s0::v::O:=rfl
theorem zqv:wVar 2 (s0::s1::some (.sh d)::O) Q E=Q (.v (.sh d)) (s0::s1::some (.sh d)::O):=rfl
theorem zpm:wVar 2 (s0::s1::some (.lst l)::O) Q E=Q (.loc 2) (s0::s1::some (.lst l)::O):=rfl
theorem zqw:wVar 2 (s0::s1::some (.dct t ks l)::O) Q E=Q (.loc 2) (s0::s1::some (.dct t ks l)::O):=rfl
theorem zpK:slot (s0::s1::v::O) 2=v:=rfl
theorem zqN:List.set (s0::s1::u::O) 2 v=s0::s1::v::O:=rfl
theorem zpg:wVar 3 (s0::s1::s2::some (.sh d)::O) Q E=Q (.v (.sh d)) (s0::s1::s2::some (.sh d)::O):=rfl
theorem zq6:wVar 3 (s0::s1::s2::some (.lst l)::O) Q E=Q (.loc 3) (s0::s1::s2::some (.lst l)::O):=rfl
theorem zrm:wVar 3 (s0::s1::s2::some (.dct t ks l)::O) Q E=Q (.loc 3) (s0::s1::s2::some (.dct t ks l)::O):=rfl
theorem zrg:slot (s0::s1::s2::v::O) 3=v:=rfl
theorem zqM:List.set (s0::s1::s2::u::O) 3 v=s0::s1::s2::v::O:=rfl
theorem zpi:wVar 4 (s0::s1::s2::s3::some (.sh d)::O) Q E=Q (.v (.sh d)) (s0::s1::s2::s3::some (.sh d)::O):=rfl
theorem zo9:wVar 4 (s0::s1::s2::s3::some (.lst l)::O) Q E=Q (.loc 4) (s0::s1::s2::s3::some (.lst l)::O):=rfl
theorem zqP:slot (s0::s1::s2::s3::v::O) 4=v:=rfl
theorem zpS:List.set (s0::s1::s2::s3::u::O) 4 v=s0::s1::s2::s3::v::O:=rfl
theorem zpD:wVar 5 (s0::s1::s2::s3::s4::some (.sh d)::O) Q E=Q (.v (.sh d)) (s0::s1::s2::s3::s4::some (.sh d)::O):=rfl
theorem zqa:slot (s0::s1::s2::s3::s4::v::O) 5=v:=rfl
theorem zrb:List.set (s0::s1::s2::s3::s4::u::O) 5 v=s0::s1::s2::s3::s4::v::O:=rfl
theorem zqJ:wVar 6 (s0::s1::s2::s3::s4::s5::some (.sh d)::O) Q E=Q (.v (.sh d)) (s0::s1::s2::s3::s4::s5::some (.sh d)::O):=rfl
theorem zra:wVar 6 (s0::s1::s2::s3::s4::s5::some (.lst l)::O) Q E=Q (.loc 6) (s0::s1::s2::s3::s4::s5::some (.lst l)::O):=rfl
theorem zoH:slot (s0::s1::s2::s3::s4::s5::v::O) 6=v:=rfl
theorem zqf:List.set (s0::s1::s2::s3::s4::s5::u::O) 6 v=s0::s1::s2::s3::s4::s5::v::O:=rfl
theorem zoC:wVar 7 (s0::s1::s2::s3::s4::s5::s6::some (.sh d)::O) Q E=Q (.v (.sh d)) (s0::s1::s2::s3::s4::s5::s6::some (.sh d)::O):=rfl
theorem zoG:slot (s0::s1::s2::s3::s4::s5::s6::v::O) 7=v:=rfl
theorem zq5:List.set (s0::s1::s2::s3::s4::s5::s6::u::O) 7 v=s0::s1::s2::s3::s4::s5::s6::v::O:=rfl
theorem zq1:wVar 8 (s0::s1::s2::s3::s4::s5::s6::s7::some (.sh d)::O) Q E=Q (.v (.sh d)) (s0::s1::s2::s3::s4::s5::s6::s7::some (.sh d)::O):=rfl
theorem zqd:List.set (s0::s1::s2::s3::s4::s5::s6::s7::u::O) 8 v=s0::s1::s2::s3::s4::s5::s6::s7::v::O:=rfl
theorem zre:wVar 9 (s0::s1::s2::s3::s4::s5::s6::s7::s8::some (.sh d)::O) Q E=Q (.v (.sh d)) (s0::s1::s2::s3::s4::s5::s6::s7::s8::some (.sh d)::O):=rfl
theorem zpk:List.set (s0::s1::s2::s3::s4::s5::s6::s7::s8::u::O) 9 v=s0::s1::s2::s3::s4::s5::s6::s7::s8::v::O:=rfl
theorem zmc:wVar 10 (s0::s1::s2::s3::s4::s5::s6::s7::s8::s9::some (.sh d)::O) Q E=Q (.v (.sh d)) (s0::s1::s2::s3::s4::s5::s6::s7::s8::s9::some (.sh d)::O):=rfl
theorem zmx:List.set (s0::s1::s2::s3::s4::s5::s6::s7::s8::s9::u::O) 10 v=s0::s1::s2::s3::s4::s5::s6::s7::s8::s9::v::O:=rfl
theorem znw:wVar 11 (s0::s1::s2::s3::s4::s5::s6::s7::s8::s9::s10::some (.sh d)::O) Q E=Q (.v (.sh d)) (s0::s1::s2::s3::s4::s5::s6::s7::s8::s9::s10::some (.sh d)::O):=rfl
theorem zl9:slot (s0::s1::s2::s3::s4::s5::s6::s7::s8::s9::s10::v::O) 11=v:=rfl
theorem zoh:List.set (s0::s1::s2::s3::s4::s5::s6::s7::s8::s9::s10::u::O) 11 v=s0::s1::s2::s3::s4::s5::s6::s7::s8::s9::s10::v::O:=rfl
theorem zmS:wVar 12 (s0::s1::s2::s3::s4::s5::s6::s7::s8::s9::s10::s11::some (.sh d)::O) Q E=Q (.v (.sh d)) (s0::s1::s2::s3::s4::s5::s6::s7::s8::s9::s10::s11::some (.sh d)::O):=rfl
theorem zmT:List.set (s0::s1::s2::s3::s4::s5::s6::s7::s8::s9::s10::s11::u::O) 12 v=s0::s1::s2::s3::s4::s5::s6::s7::s8::s9::s10::s11::v::O:=rfl
theorem zol:slot (s0::s1::s2::s3::s4::s5::s6::s7::s8::s9::s10::s11::s12::v::O) 13=v:=rfl
theorem zmW:List.set (s0::s1::s2::s3::s4::s5::s6::s7::s8::s9::s10::s11::s12::u::O) 13 v=s0::s1::s2::s3::s4::s5::s6::s7::s8::s9::s10::s11::s12::v::O:=rfl
theorem zmq:wVar 14 (s0::s1::s2::s3::s4::s5::s6::s7::s8::s9::s10::s11::s12::s13::some (.sh d)::O) Q E=Q (.v (.sh d)) (s0::s1::s2::s3::s4::s5::s6::s7::s8::s9::s10::s11::s12::s13::some (.sh d)::O):=rfl
theorem zl3:List.set (s0::s1::s2::s3::s4::s5::s6::s7::s8::s9::s10::s11::s12::s13::u::O) 14 v=s0::s1::s2::s3::s4::s5::s6::s7::s8::s9::s10::s11::s12::s13::v::O:=rfl
theorem zmH:kBin2 o (.v (.sh p)) Q (.v (.sh q)) O=kV (o p q) Q O:=rfl
theorem zom:kCmp2 oc (.v (.sh p)) QT (.v (.sh q)) O=kC (oc p q) QT O:=rfl
theorem znc:kBin2 o (.v (.sh p)) Q (.v (.lst m)) O=kBin3 o (some p) (some (S.lst m).toD) Q O:=rfl
theorem zmf:kCmp2 oc (.v (.sh p)) QT (.v (.lst m)) O=kCmp3 oc (some p) (some (S.lst m).toD) QT O:=rfl
theorem znJ:kCmp2 oc (.v (.sh p)) QT (.loc k) O=kCmp3 oc (some p) (view (.loc k) O) QT O:=rfl
theorem zl2:kBin2 o (.v (.lst l)) Q (.v (.sh q)) O=kBin3 o (some (S.lst l).toD) (some q) Q O:=rfl
theorem zn3:kBin2 o (.loc j) Q (.v (.sh q)) O=kBin3 o (viewC (.loc j) O) (some q) Q O:=rfl
theorem zn6:kCmp2 oc (.loc j) QT (.v (.lst m)) O=kCmp3 oc (view (.loc j) O) (some (S.lst m).toD) QT O:=rfl
end
section
variable {O O1 O2:Env} {Q:WQ} {QT:Bool->Env->Prop} {QI:List D->Env->Prop} {E:WX} {a b c:WE} {r x y z:R} {s:S} {d p q:D} {i j n m k:Nat} {D':Ends} {v:WS} {l:List D} {z':Int}
theorem zp5:cInA d (.lst l)=cIn d (.lst l):=rfl
theorem zoM:cInA d (.dct t ks vs)=cIn d (.dct t ks vs):=rfl
theorem zn1:cNotInA p q=(cInA p q).map (!·):=rfl
noncomputable def kAA4 (j m:Nat) (l l':List S) (Q:WQ) (o:Option (S×Env)):Prop:=need o fun p=>l'.length < big/\Q (.v (.sh .non)) (p.2.set j (some (.lst (l.set m (.lst (l'++[p.1]))))))
noncomputable def kAA3 (j m:Nat) (l l':List S) (Q:WQ):WQ:=fun r O=>kAA4 j m l l' Q (give r O)
noncomputable def kAA2b (j m:Nat) (l:List S) (e:WE) (o:Option S) (O:Env) (Q:WQ) (E:WX):Prop:=match o with
 | some (.lst l')=>e (O.set j none) (kAA3 j m l l' Q) E
 | _=>False
noncomputable def kAA2 (j:Nat) (e:WE) (n:Int) (l:List S) (O:Env) (Q:WQ) (E:WX):Prop:=need (ixN l.length n) fun m=>kAA2b j m l e l[m]? O Q E
noncomputable def kAA1 (j:Nat) (e:WE) (o:Option D) (p:Option S) (O:Env) (Q:WQ) (E:WX):Prop:=match o,p with
 | some (.int n),some (.lst l)=>kAA2 j e n l O Q E
 | _,_=>False
noncomputable def kAA0 (j:Nat) (e:WE) (Q:WQ) (E:WX):WQ:=fun y O=>kAA1 j e (view y O) (slot O j) O Q E
noncomputable def kAA (j:Nat) (o:Option S) (i e:WE) (O:Env) (Q:WQ) (E:WX):Prop:=match o with
 | some (.lst _)=>i O (kAA0 j e Q E) E
 | _=>False
theorem e_AA:wAppendAt j a b O Q E=kAA j (slot O j) a b O Q E:=by first | rfl | assumption | (simp_all; done)
theorem zpN {l:List S}:kAA j (some (.lst l)) a b O Q E=a O (kAA0 j b Q E) E:=rfl
theorem zpT:kAA0 j b Q E y O=kAA1 j b (view y O) (slot O j) O Q E:=rfl
theorem zo5 {n:Int} {l:List S}:kAA1 j b (some (.int n)) (some (.lst l)) O Q E=kAA2 j b n l O Q E:=rfl
theorem zqQ {l l':List S}:kAA3 j m l l' Q r O=kAA4 j m l l' Q (give r O):=rfl
theorem zpU {l l':List S}:kAA4 j m l l' Q (some (s,O))=(l'.length < big/\Q (.v (.sh .non)) (O.set j (some (.lst (l.set m (.lst (l'++[s]))))))):=rfl
theorem zgb {z:Int} {l l':List S} (h0:0<=z) (h1:l[z.toNat]?=some (.lst l')):kAA2 j b z l O Q E=b (O.set j none) (kAA3 j z.toNat l l' Q) E:=by
 have:z.toNat < l.length:=(qh.mp h1).1
 unfold kAA2 ixN
 rw [if_pos h0,if_pos (by lia),zbJ,h1]
 rfl
noncomputable def kFz2 (Q:WQ) (o:Option (S×Env)):Prop:=need o fun p=>Q (.v (.sh p.1.toD)) p.2
noncomputable def kFz (Q:WQ):WQ:=fun r O=>kFz2 Q (give r O)
theorem zpW:wFrz a O Q E=a O (kFz Q) E:=rfl
theorem zof:kFz Q r O=kFz2 Q (give r O):=rfl
theorem zmP:kFz2 Q (some (s,O))=Q (.v (.sh s.toD)) O:=rfl
noncomputable def kFzN2 (i:Nat) (D:Ends) (o:Option S) (O:Env):Prop:=need o fun s=>D.nx (O.set i (some (.sh s.toD)))
noncomputable def kFzN (i:Nat) (D:Ends):Env->Prop:=fun O=>kFzN2 i D (slot O i) O
theorem zrf:wFz i v D' O=v (wNx D' (kFzN i D')) O:=rfl
theorem znG:kFzN i D' O=kFzN2 i D' (slot O i) O:=rfl
theorem zny:kFzN2 i D' (some s) O=D'.nx (O.set i (some (.sh s.toD))):=rfl
theorem zoK {z:Int}:lkD (.dct false ks vs) (.int z)=some (lk ks vs (.int z)):=rfl
noncomputable def kXA4 (o:Option (Option D)) (Q:WQ) (O:Env):Prop:=need o fun o=>need o fun e=>Q (.v (.sh e)) O
noncomputable def kXA3 (o p:Option D) (Q:WQ) (O:Env):Prop:=need o fun d=>need p fun q=>kXA4 (lkD d q) Q O
noncomputable def kXA2 (x:R) (Q:WQ):WQ:=fun y O=>kXA3 (viewC x O) (view y O) Q O
noncomputable def kXA1 (b:WE) (Q:WQ) (E:WX):WQ:=fun x O=>b O (kXA2 x Q) E
theorem e_XA:wIxA a b O Q E=a O (kXA1 b Q E) E:=rfl
theorem zqO:kXA1 b Q E x O=b O (kXA2 x Q) E:=rfl
theorem zpC:kXA2 x Q y O=kXA3 (viewC x O) (view y O) Q O:=rfl
theorem zoQ:kXA3 (some d) (some q) Q O=kXA4 (lkD d q) Q O:=rfl
theorem zpL:kXA4 (some (some d)) Q O=Q (.v (.sh d)) O:=rfl
theorem zfb:vC (some (.dct t ks (vs.map S.sh)))=some (.dct t ks vs):=by
 show (if (vs.map S.sh).all S.isSh=true then some (S.toD (.dct t ks (vs.map S.sh))) else none)=_
 rw [if_pos e_sh,S.toD_dct,zap]
noncomputable def kTI (Q:WQ):List D->Env->Prop:=fun l O=>l.length<=big/\Q (.v (.sh (.tup l))) O
theorem e_TI:wTupI it O Q E=it O (kTI Q) E:=rfl
theorem zpZ:kTI Q l O=(l.length<=big/\Q (.v (.sh (.tup l))) O):=rfl
noncomputable def kRe4 (res:Bool) (p:D) (o:Option D) (Q:Bool->Env->Prop) (O:Env):Prop:=need o fun q=>p=q/\Q res O
noncomputable def kRe3 (res:Bool) (p:D) (Q:Bool->Env->Prop):WQ:=fun y O=>kRe4 res p (viewC y O) Q O
noncomputable def kRe2 (res:Bool) (b:WE) (o:Option D) (Q:Bool->Env->Prop) (E:WX) (O:Env):Prop:=need o fun p=>okShow p=true/\b O (kRe3 res p Q) E
noncomputable def kRe1 (res:Bool) (b:WE) (Q:Bool->Env->Prop) (E:WX):WQ:=fun x O=>kRe2 res b (viewC x O) Q E O
theorem e_Re:wReprEq res a b O QT E=a O (kRe1 res b QT E) E:=rfl
theorem zqz:kRe1 res b QT E x O=kRe2 res b (viewC x O) QT E O:=rfl
theorem zqU:kRe2 res b (some p) QT E O=(okShow p=true/\b O (kRe3 res p QT) E):=rfl
theorem zo4:kRe3 res p QT y O=kRe4 res p (viewC y O) QT O:=rfl
theorem zpy:kRe4 res p (some q) QT O=(p=q/\QT res O):=rfl
theorem zop {z z':Int}:oMulA (.int z) (.int z')=oMul (.int z) (.int z'):=rfl
end
theorem uB {w v:WB} (h:w=v):w O Q E=v O Q E:=by rw [h]
theorem uS {w v:WS} (h:w=v):w D' O=v D' O:=by rw [h]
section
variable {O:Env} {Q:WQ} {QE:Env->Prop} {E:WX} {a b:WE} {x y r:R} {s:S} {q d:D} {n m j:Nat} {l:List D}
variable {fr:D->Option S}
variable {c:WE} {QI:List D->Env->Prop}
end
section
variable {O:Env} {Q:WQ} {E:WX} {a:WE} {r:R} {j:Nat} {d:D} {l:List D} {x:List Nat} {s:S} {o:Option S}
noncomputable def kDt3 (o:Option D) (p:Option (S×Env)) (Q:WQ):Prop:=need o fun q=>need p fun p=>isKey true q=true/\Q (.v (.dct true [q] [p.1])) p.2
noncomputable def kDt2 (x:R) (Q:WQ):WQ:=fun y O=>kDt3 (view x O) (give y O) Q
noncomputable def kDt1 (v:WE) (Q:WQ) (E:WX):WQ:=fun x O=>v O (kDt2 x Q) E
theorem e_Dt:wDispT a b O Q E=a O (kDt1 b Q E) E:=rfl
theorem zqn {x:R}:kDt1 b Q E x O=b O (kDt2 x Q) E:=rfl
theorem zqc {x y:R}:kDt2 x Q y O=kDt3 (view x O) (give y O) Q:=rfl
theorem zqy:kDt3 (some q) (some (s,O)) Q=(isKey true q=true/\Q (.v (.dct true [q] [s])) O):=rfl
noncomputable def kLIt (j:Nat) (o:Option S) (O:Env) (Q:WQ):Prop:=match o with
 | some (.dct true ks l)=>(l.all S.isSh=true/\ks.all isIT=true/\ks.length<=big)/\Q (.v (.lst ((zipD ks (l.map S.toD)).map .sh))) O
 | _=>False
theorem zp1 {O:Env} {Q:WQ} {E:WX} {j:Nat}:wListIt j O Q E=kLIt j (slot O j) O Q:=by unfold wListIt kLIt; rfl
theorem znr {O:Env} {Q:WQ} {j:Nat} {ks:List D} {l:List S}:kLIt j (some (.dct true ks l)) O Q=((l.all S.isSh=true/\ks.all isIT=true/\ks.length<=big)/\Q (.v (.lst ((zipD ks (l.map S.toD)).map .sh))) O):=rfl
noncomputable def kItT (j:Nat) (o:Option S) (O:Env) (Q:List D->Env->Prop):Prop:=match o with
 | some (.dct true ks l)=>l.all S.isSh=true/\ks.all isIT=true/\Q (zipD ks (l.map S.toD)) (O.set j (some (.sh (.dct true ks (l.map S.toD)))))
 | _=>False
theorem zoX {O:Env} {QI:List D->Env->Prop} {E:WX} {j:Nat}:wItemsT j O QI E=kItT j (slot O j) O QI:=by unfold wItemsT kItT; rfl
theorem znU {O:Env} {QI:List D->Env->Prop} {j:Nat} {ks:List D} {l:List S}:kItT j (some (.dct true ks l)) O QI=(l.all S.isSh=true/\ks.all isIT=true/\QI (zipD ks (l.map S.toD)) (O.set j (some (.sh (.dct true ks (l.map S.toD)))))):=rfl
theorem zo0 {i j:Int} (h:0<=j) (h2:j<=1000) (h3:i.natAbs < 2 ^ 64):oShl (.int i) (.int j)=some (.sh (.int (i * 2 ^ j.toNat))):=if_pos ⟨h,h2,h3⟩
theorem zoB {i j:Int} (h:0<=j):oShr (.int i) (.int j)=some (.sh (.int (i / 2 ^ j.toNat))):=if_pos h
theorem zhr {i:Int} (h:0<=i):oAnd1 (.int i) (.int 1)=some (.sh (.int (i % 2))):=if_pos ⟨h,rfl⟩
theorem zma {s0 s1 s2 s3 s4 s5 s6 s7 s8 s9 s10 s11 s12 s13 s14:Option S} {O:Env} {Q:WQ} {E:WX} {d:D}:wVar 15 (s0::s1::s2::s3::s4::s5::s6::s7::s8::s9::s10::s11::s12::s13::s14::some (.sh d)::O) Q E=Q (.v (.sh d)) (s0::s1::s2::s3::s4::s5::s6::s7::s8::s9::s10::s11::s12::s13::s14::some (.sh d)::O):=rfl
theorem zmz {s0 s1 s2 s3 s4 s5 s6 s7 s8 s9 s10 s11 s12 s13 s14:Option S} {u v:Option S} {O:Env}:List.set (s0::s1::s2::s3::s4::s5::s6::s7::s8::s9::s10::s11::s12::s13::s14::u::O) 15 v=s0::s1::s2::s3::s4::s5::s6::s7::s8::s9::s10::s11::s12::s13::s14::v::O:=rfl
theorem znm {s0 s1 s2 s3 s4 s5 s6 s7 s8 s9 s10 s11 s12 s13 s14 s15:Option S} {O:Env} {Q:WQ} {E:WX} {d:D}:wVar 16 (s0::s1::s2::s3::s4::s5::s6::s7::s8::s9::s10::s11::s12::s13::s14::s15::some (.sh d)::O) Q E=Q (.v (.sh d)) (s0::s1::s2::s3::s4::s5::s6::s7::s8::s9::s10::s11::s12::s13::s14::s15::some (.sh d)::O):=rfl
theorem znh {s0 s1 s2 s3 s4 s5 s6 s7 s8 s9 s10 s11 s12 s13 s14 s15:Option S} {u v:Option S} {O:Env}:List.set (s0::s1::s2::s3::s4::s5::s6::s7::s8::s9::s10::s11::s12::s13::s14::s15::u::O) 16 v=s0::s1::s2::s3::s4::s5::s6::s7::s8::s9::s10::s11::s12::s13::s14::s15::v::O:=rfl
end
noncomputable def sg (c:Nat):D:=.str [c]
theorem zlR (l:List Nat):strsD (l.map sg)=some (l.map fun c=>[c]):=by
 have:=zd5 (l.map fun c=>[c])
 rw [map_map] at this
 exact this
theorem zf9:∀ l:List Nat,((l.map fun c=>[c]).map List.length).sum=l.length
 | []=>rfl
 | c::l=>by
   have:=zf9 l
   simp only [map_cons,sum_cons,length_cons,length_nil] at this ⊢
   lia
theorem zer:∀ l:List Nat,(l.map fun c=>[c]).flatten=l
 | []=>rfl
 | c::l=>by
   have:=zer l
   simp only [map_cons,List.flatten_cons,List.singleton_append]
   rw [this]
theorem ziI (h:l.length<=big):mJoin [] [.lst (l.map sg)]=some (.sh (.str l)):=by
 show (strsD (l.map sg)).bind _=_
 grind [zlR,List.length,big,joinD,zf9,zeh,zer]
noncomputable def unsg:D->Nat
 | .str [c]=>c
 | _=>0
theorem zlw (h:l.Perm (A.map sg)):∃ A':List Nat,A'.Perm A/\l=A'.map sg:=by
 refine ⟨l.map unsg,?_,?_⟩
 ·have:=h.map unsg
  rw [map_map] at this
  have e:(unsg ∘ sg)=id:=funext fun c=>rfl
  rw [e,map_id] at this
  exact this
 ·rw [map_map]
  have:∀ d∈l,(sg ∘ unsg) d=id d:=fun d hd=>by
   obtain ⟨c,_,rfl⟩:=mem_map.mp (h.mem_iff.mp hd)
   rfl
  rw [map_congr_left this,map_id]
theorem zah:big=1000000:=rfl
theorem zaI:(fromTo lo n).length=n:=by simp [fromTo]
theorem zgn {l:List D} {k:Nat} (h:l[k]?=some d):(l.map S.sh)[k]?=some (.sh d):=by rw [getElem?_map,h]; rfl
theorem zcJ {α β:Type} {f:α->β} {l:List α} {z:Int} (h0:0<=z) (h1:z < l.length):∃ v,v∈l/\l[z.toNat]?=some v/\atI (l.map f) z=some (f v):=by
 have hz:z.toNat < l.length:=by lia
 exact ⟨l[z.toNat],getElem_mem hz,qi hz,zbw h0 (by rw [getElem?_map,qi hz]; rfl)⟩
theorem zd8 (h0:0<=z) (h1:z < l.length):∃ v,v∈l/\l[z.toNat]?=some v/\atI l z=some v:=by
 have hz:z.toNat < l.length:=by lia
 exact ⟨l[z.toNat],getElem_mem hz,qi hz,zbw h0 (qi hz)⟩
theorem zcG {α β:Type} {f:α->β}:∀ (l:List α) (k:Nat),(l.map f).eraseIdx k=(l.eraseIdx k).map f
 | [],_=>rfl
 | _::_,0=>rfl
 | x::l,k + 1=>by
   show f x::(l.map f).eraseIdx k=f x::(l.eraseIdx k).map f
   rw [zcG l k]
theorem zge (f:α->β) (l:List α) (a b:Option Int):cutL (l.map f) a b=(cutL l a b).map f:=by
 unfold cutL
 first | rfl | assumption | (simp_all; done)
theorem zaX (l:List α) (a b:Option Int):(cutL l a b).length<=l.length:=by
 unfold cutL
 rw [length_take,length_drop]
 lia
theorem zaV (h:x∈cutL l a b):x∈l:=by
 unfold cutL at h
 exact List.mem_of_mem_drop (List.mem_of_mem_take h)
theorem zhP (l:List α) {k:Int} (h0:0<=k) (h1:k<=l.length):cutL l none (some k)=l.take k.toNat:=by
 unfold cutL sIx
 grind
theorem zej (l:List α) (h0:0<=k):cutL l (some k) none=l.drop k.toNat:=by
 unfold cutL sIx
 have:¬ k < 0:=by lia
 simp only [if_neg this]
 by_cases h:k.toNat<=l.length
 ·rw [min_eq_left h,take_of_length_le]
  rw [length_drop]; lia
 ·have h2:l.length<=k.toNat:=by lia
  rw [min_eq_right h2,drop_of_length_le (le_refl _),drop_of_length_le h2,take_nil]
theorem zbc:∀ l:List Int,deps (l.map D.int)=0
 | []=>rfl
 | z::l=>by
   show max (dep (.int z)) (deps (l.map D.int))=0
   rw [zbc l]; rfl
theorem znX (l:List Bool):bAll [.lst (l.map D.bl)]=some (.sh (.bl (l.all id))):=by
 show (bools (l.map D.bl)).map _=_
 rw [zhp]; rfl
theorem zc8 {α:Type}:∀ (l:List α) (i:Nat) (h:i < l.length),(l[i]::l.eraseIdx i).Perm l
 | x::l,0,_=>List.Perm.refl _
 | x::l,i + 1,h=>by
   have hi:i < l.length:=by simpa using h
   exact (List.Perm.swap x l[i] _).trans (List.Perm.cons x (zc8 l i hi))
noncomputable def kbX2 (b:WB) (K:Env->Prop) (E:WX):Bool->Env->Prop:=fun k O=>if k then b O K E else K O
noncomputable def kbX (c:WT) (b:WB) (K:Env->Prop) (E:WX):Env->Prop:=fun O=>c O (kbX2 b K E) E
theorem x_bX:kbX c b K E O=c O (kbX2 b K E) E:=rfl
theorem zb2:kbX2 b K E true O=b O K E:=rfl
theorem zgJ:kbX2 b K E false O=K O:=rfl
theorem zks {α:Type} {toD:α->D} (I:List α->Env->Prop) (xs:List α)
  (step:∀ (pre:List α) (x:α) (post:List α) (K:Env->Prop) (O:Env),pre++x::post=xs->I pre O->(∀ O',I (pre++[x]) O'->K O')->g (.sh (toD x)) O (kbX c b K E))
  (fin:∀ O,I xs O->Q O) (h0:I [] O):bLoop g c b (xs.map toD) O Q E:=by
 have gen:∀ (post pre:List α) (O:Env),pre++post=xs->I pre O->bLoop g c b (post.map toD) O Q E:=by
  intro post
  induction post with
  | nil=>intro pre O e h; rw [append_nil] at e; subst e; exact fin O h
  | cons x post ih=>
    intro pre O e h
    rw [map_cons,e_bL]
    exact step pre x post (kbL3 g c b (post.map toD) Q E) O e h fun O' h'=>ih (pre++[x]) O' (by rw [<- e]; simp) h'
 exact gen xs [] O rfl h0
theorem zbd {α:Type} {toD:α->D} (I:List α->Env->Prop) (xs:List α)
  (step:∀ (pre:List α) (x:α) (post:List α) (D2:Ends) (O:Env),pre++x::post=xs->I pre O->(∀ O',I (pre++[x]) O'->D2.nx O')->(∀ O',I (pre++[x]) O'->D2.ct O')->D2.rt=D'.rt->D2.bk=D'.nx->g (.sh (toD x)) O (fun O=>b D2 O))
  (fin:∀ O,I xs O->D'.nx O) (h0:I [] O):wLoop g b (xs.map toD) D' O:=by
 have gen:∀ (post pre:List α) (O:Env),pre++post=xs->I pre O->wLoop g b (post.map toD) D' O:=by
  intro post
  induction post with
  | nil=>intro pre O e h; rw [append_nil] at e; subst e; exact fin O h
  | cons x post ih=>
    intro pre O e h
    rw [map_cons,e_Lp]
    have k:=fun O' h'=>ih (pre++[x]) O' (by rw [<- e]; simp) h'
    exact step pre x post (lpE g b (post.map toD) D') O e h k k rfl rfl
 exact gen xs [] O rfl h0
theorem zg7 {α:Type} {toD:α->D} (I:List α->List S->Env->Prop) (xs:List α)
  (step:∀ (pre:List α) (x:α) (post:List α) (l:List S) (O:Env) (vs:List (Option S)) (K:Env->Prop),pre++x::post=xs->vs.length=k->I pre l O->(∀ l' O1 vs',vs'.length=k->I (pre++[x]) l' O1->K (O1++some (.lst l')::vs'))->g (.sh (toD x)) (O++some (.lst l)::vs) (kbX c b K E))
  (fin:∀ l O vs,vs.length=k->I xs l O->Q (O++some (.lst l)::vs)) (hv:vs.length=k) (h0:I [] [] O):bLoop g c b (xs.map toD) (O++some (.lst [])::vs) Q E:=by
 refine zks (fun pre O'=>∃ l O1 vs',vs'.length=k/\I pre l O1/\O'=O1++some (.lst l)::vs') xs (fun pre x post K O' e hI hK=>?_) (fun O' hI=>?_) ⟨[],O,vs,hv,h0,rfl⟩
 ·obtain ⟨l,O1,vs',h1,h2,rfl⟩:=hI
  exact step pre x post l O1 vs' K e h1 h2 fun l' O2 vs2 h3 h4=>hK _ ⟨l',O2,vs2,h3,h4,rfl⟩
 ·obtain ⟨l,O1,vs',h1,h2,rfl⟩:=hI
  exact fin l O1 vs' h1 h2
theorem zgY {α:Type} {toD:α->D} (xs:List α) (h:α->Option S)
  (step:∀ x∈xs,∀ (l:List S) (vs:List (Option S)) (K:Env->Prop),vs.length=k->l.length < xs.length->(∀ vs',vs'.length=k->K (O++some (.lst (l++(h x).toList))::vs'))->g (.sh (toD x)) (O++some (.lst l)::vs) (kbX c b K E))
  (fin:∀ vs,vs.length=k->Q (O++some (.lst (xs.filterMap h))::vs)) (hv:vs.length=k):bLoop g c b (xs.map toD) (O++some (.lst [])::vs) Q E:=by
 refine zg7 (fun pre l O'=>O'=O/\l=pre.filterMap h) xs (fun pre x post l O' vs K e h1 h2 hK=>?_) (fun l O' vs h1 h2=>?_) hv ⟨rfl,rfl⟩
 ·obtain ⟨rfl,rfl⟩:=h2
  have hl:(pre.filterMap h).length < xs.length:=by
   have:=List.length_filterMap_le h pre
   rw [<- e]; simp only [length_append,length_cons]; lia
  refine step x (by rw [<- e]; simp) _ vs K h1 hl fun vs' h3=>hK _ _ vs' h3 ⟨rfl,?_⟩
  rw [List.filterMap_append]
  cases q:h x <;> simp [q]
 ·obtain ⟨rfl,rfl⟩:=h2
  exact fin vs h1
theorem len1v {vs:List (Option S)} (h:vs.length=1):∃ a,vs=[a]:=by
 match vs,h with
 | [a],_=>exact ⟨a,rfl⟩
theorem len2v {vs:List (Option S)} (h:vs.length=2):∃ a b,vs=[a,b]:=by
 match vs,h with
 | [a,b],_=>exact ⟨a,b,rfl⟩
theorem len3v {vs:List (Option S)} (h:vs.length=3):∃ a b c,vs=[a,b,c]:=by
 match vs,h with
 | [a,b,c],_=>exact ⟨a,b,c,rfl⟩
section
variable {α:Type} {toD:α->D} {n:Nat} {c:WT} {b:WB} {E:WX} {Q:Env->Prop} {O:Env}
theorem bl1 (xs:List α) (h:α->Option S)
  (step:∀ x∈xs,∀ (l:List S) (o:Option S) (K:Env->Prop),l.length < xs.length->(∀ o,K (O.take n++[some (.lst (l++(h x).toList)),o]))->gName (n + 1) (.sh (toD x)) (O.take n++[some (.lst l),o]) (kbX c b K E))
  (fin:∀ o,Q (O.take n++[some (.lst (xs.filterMap h)),o])) (e:O=O.take n++[some (.lst []),o0]:=by rfl):bLoop (gName (n + 1)) c b (xs.map toD) O Q E:=by
 rw [e]
 refine zgY (k:=1) xs h (fun x hx l vs K hv hl hK=>?_) (fun vs hv=>?_) rfl
 ·obtain ⟨a,rfl⟩:=len1v hv
  exact step x hx l a K hl fun o=>hK [o] rfl
 ·obtain ⟨a,rfl⟩:=len1v hv
  exact fin a
theorem bl2 (xs:List α) (h:α->Option S)
  (step:∀ x∈xs,∀ (l:List S) (o o':Option S) (K:Env->Prop),l.length < xs.length->(∀ o o',K (O.take n++[some (.lst (l++(h x).toList)),o,o']))->gTup [gName (n + 1),gName (n + 2)] (.sh (toD x)) (O.take n++[some (.lst l),o,o']) (kbX c b K E))
  (fin:∀ o o',Q (O.take n++[some (.lst (xs.filterMap h)),o,o'])) (e:O=O.take n++[some (.lst []),o0,o1]:=by rfl):bLoop (gTup [gName (n + 1),gName (n + 2)]) c b (xs.map toD) O Q E:=by
 rw [e]
 refine zgY (k:=2) xs h (fun x hx l vs K hv hl hK=>?_) (fun vs hv=>?_) rfl
 ·obtain ⟨a,a',rfl⟩:=len2v hv
  exact step x hx l a a' K hl fun o o'=>hK [o,o'] rfl
 ·obtain ⟨a,a',rfl⟩:=len2v hv
  exact fin a a'
theorem bl3 (xs:List α) (h:α->Option S)
  (step:∀ x∈xs,∀ (l:List S) (o o' o'':Option S) (K:Env->Prop),l.length < xs.length->(∀ o o' o'',K (O.take n++[some (.lst (l++(h x).toList)),o,o',o'']))->gTup [gName (n + 1),gName (n + 2),gName (n + 3)] (.sh (toD x)) (O.take n++[some (.lst l),o,o',o'']) (kbX c b K E))
  (fin:∀ o o' o'',Q (O.take n++[some (.lst (xs.filterMap h)),o,o',o''])) (e:O=O.take n++[some (.lst []),o0,o1,o2]:=by rfl):bLoop (gTup [gName (n + 1),gName (n + 2),gName (n + 3)]) c b (xs.map toD) O Q E:=by
 rw [e]
 refine zgY (k:=3) xs h (fun x hx l vs K hv hl hK=>?_) (fun vs hv=>?_) rfl
 ·obtain ⟨a,a',a'',rfl⟩:=len3v hv
  exact step x hx l a a' a'' K hl fun o o' o''=>hK [o,o',o''] rfl
 ·obtain ⟨a,a',a'',rfl⟩:=len3v hv
  exact fin a a' a''
theorem bm1 (xs:List α) (h:α->S)
  (step:∀ x∈xs,∀ (l:List S) (o:Option S) (K:Env->Prop),l.length < xs.length->(∀ o,K (O.take n++[some (.lst (l++[h x])),o]))->gName (n + 1) (.sh (toD x)) (O.take n++[some (.lst l),o]) (kbX c b K E))
  (fin:∀ o,Q (O.take n++[some (.lst (xs.map h)),o])) (e:O=O.take n++[some (.lst []),o0]:=by rfl):bLoop (gName (n + 1)) c b (xs.map toD) O Q E:=
 bl1 xs (fun x=>some (h x)) step (fun o=>by rw [show (xs.filterMap fun x=>some (h x))=xs.map h from List.filterMap_eq_map ▸ rfl]; exact fin o) e
theorem bm2 (xs:List α) (h:α->S)
  (step:∀ x∈xs,∀ (l:List S) (o o':Option S) (K:Env->Prop),l.length < xs.length->(∀ o o',K (O.take n++[some (.lst (l++[h x])),o,o']))->gTup [gName (n + 1),gName (n + 2)] (.sh (toD x)) (O.take n++[some (.lst l),o,o']) (kbX c b K E))
  (fin:∀ o o',Q (O.take n++[some (.lst (xs.map h)),o,o'])) (e:O=O.take n++[some (.lst []),o0,o1]:=by rfl):bLoop (gTup [gName (n + 1),gName (n + 2)]) c b (xs.map toD) O Q E:=
 bl2 xs (fun x=>some (h x)) step (fun o o'=>by rw [show (xs.filterMap fun x=>some (h x))=xs.map h from List.filterMap_eq_map ▸ rfl]; exact fin o o') e
end
theorem bd1 {β:Type} (emb:β->S) (xs:List D) (I:Env->Prop) (P:β->Prop)
  (step:∀ x∈xs,∀ (O:Env) (A:List β) (o:Option S) (K:Env->Prop),I O->A.length < xs.length->(∀ O1 y o1,I O1->P y->K (O1++[some (.lst (A.map emb++[emb y])),o1]))->gName (n + 1) (.sh x) (O++[some (.lst (A.map emb)),o]) (kbX c b K E))
  (fin:∀ O (A:List β) o,I O->A.length=xs.length->(∀ y∈A,P y)->Q (O++[some (.lst (A.map emb)),o])) (h0:I (O.take n)) (e:O=O.take n++[some (.lst []),o0]:=by rfl):bLoop (gName (n + 1)) c b xs O Q E:=by
 rw [e]
 have:=zg7 (toD:=fun x:D=>x) (k:=1) (g:=gName (n + 1)) (c:=c) (b:=b) (E:=E) (Q:=Q) (fun pre l O'=>I O'/\∃ A:List β,l=A.map emb/\A.length=pre.length/\∀ y∈A,P y) xs (fun pre x post l O' vs K e h1 h2 hK=>?_) (fun l O' vs h1 h2=>?_) (O:=O.take n) (vs:=[o0]) rfl ⟨h0,[],rfl,rfl,fun y hy=>nomatch hy⟩
 ·rwa [List.map_id'] at this
 ·obtain ⟨hI,A,rfl,hA,hP⟩:=h2
  obtain ⟨a,rfl⟩:=len1v h1
  refine step x (by rw [<- e]; simp) O' A a K hI (by rw [hA,<- e]; simp only [length_append,length_cons]; lia) fun O1 y o1 h3 h4=>hK _ O1 [o1] rfl ⟨h3,A++[y],by simp,by simp [hA],fun z hz=>?_⟩
  grind
 grind [len1v]
theorem lpn (I:Nat->Env->Prop) (xs:List D)
  (step:∀ (k:Nat) (x:D),xs[k]?=some x->∀ (D2:Ends) (O:Env),I k O->(∀ O',I (k + 1) O'->D2.nx O')->(∀ O',I (k + 1) O'->D2.ct O')->D2.rt=D'.rt->D2.bk=D'.nx->g (.sh x) O (fun O=>b D2 O))
  (fin:∀ O,I xs.length O->D'.nx O) (h0:I 0 O):wLoop g b xs D' O:=by
 have:=zbd (toD:=fun x:D=>x) (g:=g) (b:=b) (D':=D') (fun pre O=>I pre.length O) xs (fun pre x post D2 O e hI hnx hct hrt hbk=>step pre.length x (by rw [<- e]; simp) D2 O hI (fun O' h=>hnx O' (by simpa using h)) (fun O' h=>hct O' (by simpa using h)) hrt hbk) fin h0
 rwa [List.map_id'] at this
theorem bf {α:Type} {toD:α->D} (xs:List α) (h:α->List S)
  (step:∀ x∈xs,∀ (l:List S) (vs:List (Option S)) (K:Env->Prop),vs.length=k->l.length + (h x).length<=(xs.flatMap h).length->(∀ vs',vs'.length=k->K (O.take n++some (.lst (l++h x))::vs'))->g (.sh (toD x)) (O.take n++some (.lst l)::vs) (kbX c b K E))
  (fin:∀ vs,vs.length=k->Q (O.take n++some (.lst (xs.flatMap h))::vs)) (e:O=O.take n++some (.lst [])::vs:=by rfl) (hv:vs.length=k:=by rfl):bLoop g c b (xs.map toD) O Q E:=by
 rw [e]
 refine zg7 (fun pre l O'=>O'=O.take n/\l=pre.flatMap h) xs (fun pre x post l O' vs K e h1 h2 hK=>?_) (fun l O' vs h1 h2=>?_) hv ⟨rfl,rfl⟩
 ·obtain ⟨rfl,rfl⟩:=h2
  have hl:(pre.flatMap h).length + (h x).length<=(xs.flatMap h).length:=by
   rw [<- e,List.flatMap_append,flatMap_cons,length_append,length_append]; lia
  exact step x (by rw [<- e]; simp) _ vs K h1 hl fun vs' h3=>hK _ _ vs' h3 ⟨rfl,by rw [List.flatMap_append]; simp⟩
 ·obtain ⟨rfl,rfl⟩:=h2
  exact fin vs h1
section
variable {α:Type} {toD:α->D} {g:WG} {c:WT} {b:WB} {E:WX} {Q:Env->Prop}
theorem bi2 (F:List S->Option S->Option S->Env) (xs:List α) (h:α->Option S)
  (step:∀ x∈xs,∀ (l:List S) (o o':Option S) (K:Env->Prop),l.length + (h x).toList.length<=l0.length + (xs.filterMap h).length->(∀ o o',K (F (l++(h x).toList) o o'))->g (.sh (toD x)) (F l o o') (kbX c b K E))
  (fin:∀ o o',Q (F (l0++xs.filterMap h) o o')):bLoop g c b (xs.map toD) (F l0 o0 o1) Q E:=by
 refine zks (fun pre O'=>∃ o o',O'=F (l0++pre.filterMap h) o o') xs (fun pre x post K O' e hI hK=>?_) (fun O' hI=>?_) ⟨o0,o1,by simp⟩
 ·obtain ⟨o,o',rfl⟩:=hI
  refine step x (by rw [<- e]; simp) _ o o' K ?_ fun o o'=>hK _ ⟨o,o',?_⟩
  ·rw [<- e,List.filterMap_append,length_append,length_append]
   cases q:h x <;> simp [q] <;> lia
  ·rw [List.filterMap_append]
   cases q:h x <;> simp [q]
 ·obtain ⟨o,o',rfl⟩:=hI
  exact fin o o'
end
theorem zj6:tupsD ((x::l).map D.int)=none:=rfl
theorem zi7:tupsD ((x::l).map D.str)=none:=rfl
theorem zjY:∀ l:List Int,∀ d∈l.map D.int,IsInt d:=fun l d hd=>by
 obtain ⟨x,_,rfl⟩:=mem_map.mp hd
 trivial
theorem zfU:∀ l:List (List Nat),∀ d∈l.map D.str,IsStr d:=fun l d hd=>by
 obtain ⟨x,_,rfl⟩:=mem_map.mp hd
 trivial
theorem zfW (h64:l.length < 64) (ht:sortT l=none) (hk:(intsD l).isSome\/(strsD l).isSome):bSort3 [.lst l]=some (.lst ((sortD l).map .sh)):=by
 show sort3 _=_
 unfold sort3
 by_cases h2:l.length < 2
 ·rw [if_pos h2]
  match l,h2 with
  | [],_=>rfl
  | [_],_=>rfl
  | _::_::_,h2=>simp at h2; lia
 ·rw [if_neg h2,ht]
  show sortS l=_
  unfold sortS
  rw [if_pos ⟨h64,hk⟩]
theorem zgO {l:List Int} (h64:l.length < 64):bSort3 [.lst (l.map .int)]=some (.lst ((sortD (l.map .int)).map .sh)):=by
 refine zfW (by simpa using h64) ?_ (.inl (by rw [zbh]; rfl))
 unfold sortT
 cases l with
 | nil=>rfl
 | cons x l=>rw [if_neg]; rw [zj6]; simp
theorem zgE {l:List (List Nat)} (h64:l.length < 64):bSort3 [.lst (l.map .str)]=some (.lst ((sortD (l.map .str)).map .sh)):=by
 refine zfW (by simpa using h64) ?_ (.inr (by rw [zd5]; rfl))
 unfold sortT
 cases l with
 | nil=>rfl
 | cons x l=>rw [if_neg]; rw [zi7]; simp
theorem ziu {l m:List Int} (h64:l.length < 64) (p:m.Perm l) (hs:m.Pairwise (·<=·)):bSort3 [.lst (l.map .int)]=some (.lst ((m.map .int).map .sh)):=by
 rw [zgO h64,zbD zhx (zjY l) (p.map _)]
 rw [pairwise_map]
 exact hs.imp fun h=>by simpa using h
theorem zob:([a]:List Nat) < [b]↔a < b:=by simp [cons_lt_cons_iff]
theorem zlv (h:A.length < 64):∃ A':List Nat,A'.Perm A/\A'.Pairwise (·<=·)/\bSort3 [.lst (A.map sg)]=some (.lst ((A'.map sg).map .sh)):=by
 have e:A.map sg=(A.map fun c=>[c]).map D.str:=by rw [map_map]; rfl
 obtain ⟨A',hp,e2⟩:=zlw (zaP (A.map sg))
 refine ⟨A',hp,?_,?_⟩
 ·have hs:=zbg zfa (A.map sg) (by rw [e]; exact zfU _)
  rw [e2,pairwise_map] at hs
  refine hs.imp fun {a b} h=>?_
  have h':(!decide (([b]:List Nat) < [a]))=true:=by rw [<- zcu]; exact h
  grind [zob]
 ·rw [e,zgE (by simpa using h),<- e,e2]
theorem zhb {l:List Nat} (h:l.Pairwise (·<=·)) (hn:l.Nodup):l.Pairwise (· < ·):=by
 have:=h.and hn
 exact this.imp fun ⟨h1,h2⟩=>by lia
theorem zog (h:IsStr x):(clash x (.str z) || decide (30 < dep x))=false:=by
 cases x with
 | str i=>rfl
 | _=>exact h.elim
theorem ze2 {ns:List (List Nat)}:(if (ns.map D.str).any (fun x=>clash x (.str z) || decide (30 < dep x)) then none else some (open Classical in decide (D.str z∈ns.map D.str)))=some (decide (z∈ns)):=by
 grind [mem_map,List.any_eq_true.mp,zog,zfU]
theorem zgg {ns:List (List Nat)}:cIn (.str z) (.lst (ns.map D.str))=some (decide (z∈ns)):=ze2
theorem zgv {α β:Type} (p:α->Bool) (f:α->β):∀ l:List α,(l.filterMap fun x=>if p x=true then some (f x) else none)=(l.filter p).map f
 | []=>rfl
 | x::l=>by
   have ih:=zgv p f l
   cases q:p x <;> simp [q,ih]
theorem zbL {α:Type} [DecidableEq α]:∀ (l m:List α),l.Nodup->(∀ x∈l,x∈m)->l.length<=m.length
 | [],m,_,_=>by simp
 | x::l,m,hn,hs=>by
   obtain ⟨h1,h2⟩:=nodup_cons.mp hn
   have hx:x∈m:=hs x (by simp)
   have:=zbL l (m.erase x) h2 fun y hy=>by
    refine (List.mem_erase_of_ne ?_).mpr (hs y (by simp [hy]))
    intro z; subst z; exact h1 hy
   rw [List.length_erase_of_mem hx] at this
   have hp:=List.length_pos_of_mem hx
   rw [length_cons]
   lia
theorem zcH:∀ l:List (List Nat),deps (l.map D.str)=0
 | []=>rfl
 | z::l=>by
   show max (dep (.str z)) (deps (l.map D.str))=0
   rw [zcH l]; rfl
theorem zjp:cNe (.lst (l.map D.str)) (.lst [])=some (!decide (l=[])):=by
 unfold cNe cEq
 rw [if_neg (by
  have:dep (.lst (l.map D.str))=1:=by show deps (l.map D.str) + 1=1; rw [zcH]
  rw [this]
  cases l <;> exact fun z=>Bool.noConfusion (show false=true from z))]
 simp
theorem zjE:cNe (.tup (l.map D.str)) (.tup [])=some (!decide (l=[])):=by
 unfold cNe cEq
 rw [if_neg (by
  have:dep (.tup (l.map D.str))=1:=by show deps (l.map D.str) + 1=1; rw [zcH]
  rw [this]
  cases l <;> exact fun z=>Bool.noConfusion (show false=true from z))]
 simp
theorem zeU:∀ l:List D,(∀ d∈l,dep d<=n)->deps l<=n
 | [],_=>zero_le _
 | d::l,h=>by
   show max (dep d) (deps l)<=n
   have h1:=h d (by simp)
   have h2:=zeU l fun x hx=>h x (by simp [hx])
   lia
theorem zfi (h:deps l<=29):cNe (.lst l) (.lst [])=some (!l.isEmpty):=by
 unfold cNe cEq
 rw [if_neg (by
  have:dep (.lst l)=deps l + 1:=rfl
  rw [this]
  cases l with
  | nil=>exact fun z=>Bool.noConfusion (show false=true from z)
  | cons x l=>exact fun z=>absurd (of_decide_eq_true (show decide (30 < deps (x::l) + 1)=true from z)) (by lia))]
 cases l <;> simp
theorem vcons {α:Type} {l:List α} (h:l.length=n + 1):∃ a r,l=a::r/\r.length=n:=by
 cases l with
 | nil=>cases h
 | cons a r=>exact ⟨a,r,rfl,Nat.succ.inj h⟩
theorem vnil {α:Type} {l:List α} (h:l.length=0):l=[]:=List.length_eq_zero_iff.mp h
theorem vlen1 {α:Type} {l:List α} (h:l.length=1):∃ a,l=[a]:=by
 obtain ⟨a,r,rfl,k⟩:=vcons h
 obtain rfl:=vnil k
 exact ⟨a,rfl⟩
theorem vlen2 {α:Type} {l:List α} (h:l.length=2):∃ a0 a1,l=[a0,a1]:=by
 obtain ⟨a0,r,rfl,k⟩:=vcons h
 obtain ⟨a1,rfl⟩:=vlen1 k
 exact ⟨a0,a1,rfl⟩
theorem vlen3 {α:Type} {l:List α} (h:l.length=3):∃ a0 a1 a2,l=[a0,a1,a2]:=by
 obtain ⟨a0,r,rfl,k⟩:=vcons h
 obtain ⟨a1,a2,rfl⟩:=vlen2 k
 exact ⟨a0,a1,a2,rfl⟩
theorem vlen4 {α:Type} {l:List α} (h:l.length=4):∃ a0 a1 a2 a3,l=[a0,a1,a2,a3]:=by
 obtain ⟨a0,r,rfl,k⟩:=vcons h
 obtain ⟨a1,a2,a3,rfl⟩:=vlen3 k
 exact ⟨a0,a1,a2,a3,rfl⟩
theorem za4:∀ l m:List Int,cmpDs (l.map D.int) (m.map D.int)=if l < m then .lt else if m < l then .gt else .eq
 | [],[]=>by simp [cmpDs]
 | [],b::m=>by simp [cmpDs]
 | a::l,[]=>by simp [cmpDs]
 | a::l,b::m=>by
   have ih:=za4 l m
   rw [map_cons,map_cons,cmpDs]
   unfold cmpD
   by_cases h1:a < b
   ·rw [if_pos h1,if_pos (cons_lt_cons_iff.mpr (.inl h1))]
   ·rw [if_neg h1]
    by_cases h2:b < a
    ·rw [if_pos h2,if_neg (by rw [cons_lt_cons_iff]; rintro (h | ⟨h,_⟩) <;> lia),if_pos (cons_lt_cons_iff.mpr (.inl h2))]
    ·have e:a=b:=by lia
     subst e
     rw [if_neg h2]
     show cmpDs (l.map D.int) (m.map D.int)=_
     rw [ih]
     have e1:(a::l < a::m)↔l < m:=by rw [cons_lt_cons_iff]; constructor
                                     ·rintro (h | ⟨_,h⟩)
                                      ·lia
                                      ·exact h
                                     ·intro h; exact .inr ⟨rfl,h⟩
     have e2:(a::m < a::l)↔m < l:=by rw [cons_lt_cons_iff]; constructor
                                     ·rintro (h | ⟨_,h⟩)
                                      ·lia
                                      ·exact h
                                     ·intro h; exact .inr ⟨rfl,h⟩
     simp only [e1,e2]
theorem zfM (l m:List Int):leD (tI l) (tI m)=!decide (m < l):=by
 grind [leD,tI,cmpD,cmpDs,za4,lt_asymm]
noncomputable def IsTP (d:D):Prop:=∃ l:List Int,d=tI l
theorem zov:OrdOn IsTP where
 tot:=by
  rintro _ _ ⟨a,rfl⟩ ⟨b,rfl⟩
  grind [zfM,Bool.not_eq_true',lt_asymm]
 tr:=by
  rintro _ _ _ ⟨a,rfl⟩ ⟨b,rfl⟩ ⟨c,rfl⟩
  grind [zfM,Bool.not_eq_true',List.le_trans]
 anti:=by
  rintro _ _ ⟨a,rfl⟩ ⟨b,rfl⟩
  grind [zfM,Bool.not_eq_true',le_antisymm]
theorem zjo {ls ms:List (List Int)} (h64:ls.length < 64) (hne:∀ x∈ls,x≠[]) (p:ms.Perm ls) (hs:ms.Pairwise fun a b=>¬ b < a):bSort3 [.lst (ls.map tI)]=some (.lst ((ms.map tI).map .sh)):=by
 rw [zgm h64 hne,zbD zov (fun d hd=>by obtain ⟨x,_,rfl⟩:=mem_map.mp hd; exact ⟨x,rfl⟩) (p.map _)]
 grind [pairwise_map,zfM]
abbrev Wd:=List Nat
noncomputable def seg (w:Wd) (i j:Nat):Wd:=(w.drop i).take (j - i)
theorem zkc (l:List α) (i j:Nat):cutL l (some (i:Int)) (some (j:Int))=(l.drop i).take (j - i):=by
 unfold cutL sIx
 have h1:¬ (i:Int) < 0:=by lia
 have h2:¬ (j:Int) < 0:=by lia
 simp only [if_neg h1,if_neg h2,toNat_natCast]
 by_cases hi:i<=l.length
 ·rw [min_eq_left hi]
  by_cases hj:j<=l.length
  ·rw [min_eq_left hj]
  ·rw [min_eq_right (by lia),take_of_length_le (by rw [length_drop]; lia),take_of_length_le (by rw [length_drop]; lia)]
 ·rw [min_eq_right (a:=i) (by lia),drop_of_length_le (i:=l.length) (le_refl _),drop_of_length_le (i:=i) (by lia),take_nil,take_nil]
theorem zg8 (w:Wd) (i j:Nat):cutL w (some (i:Int)) (some (j:Int))=seg w i j:=zkc w i j
theorem zkF (h1:i<=j) (h2:j<=w.length):(seg w i j).length=j - i:=by
 unfold seg; rw [length_take,length_drop]; lia
noncomputable def tieB (B:List Wd) (w:Wd) (i j:Nat):Bool:=decide (i < j) && (decide (j<=w.length) && decide (seg w i j∈B))
theorem zaw:tieB B w i j=true↔i < j/\j<=w.length/\seg w i j∈B:=by
 unfold tieB; simp [and_eq_true]
noncomputable def tie (B:List Wd) (w:Wd) (p q:Nat):Bool:=tieB B w p q || tieB B w q p
theorem zdM:tie B w p q=tie B w q p:=by unfold tie; rw [Bool.or_comm]
noncomputable def nb (B:List Wd) (w:Wd) (p:Nat):List Nat:=(List.range (w.length + 1)).filter fun q=>tie B w p q
theorem zba:q∈nb B w p↔tie B w p q=true:=by
 grind [nb,mem_filter,mem_range,tie,zaw]
theorem zcV:(nb B w p).Pairwise (· < ·):=List.Pairwise.filter _ List.pairwise_lt_range
theorem ziV (h:q∈nb B w p):q<=w.length/\p<=w.length/\p≠q:=by
 grind [zba,tie,zaw]
abbrev Tr:=Nat×Nat×Nat
noncomputable def strI (B:List Wd) (w:Wd) (i:Nat):List Tr:=(List.range (w.length + 1)).filterMap fun j=>if tieB B w i j=true then some (i,j,B.idxOf (seg w i j)) else none
noncomputable def strP (B:List Wd) (w:Wd):List Tr:=(List.range w.length).flatMap (strI B w)
noncomputable def rawI (B:List Wd) (w:Wd) (i:Nat):List Tr:=(List.range B.length).filterMap fun k=>if decide (seg w i (i + ((B[k]?).getD []).length)=(B[k]?).getD [])=true then some (i,i + ((B[k]?).getD []).length,k) else none
theorem zbs:t∈strI B w i↔t.1=i/\tieB B w i t.2.1=true/\t.2.2=B.idxOf (seg w i t.2.1):=by
 unfold strI
 rw [mem_filterMap]
 constructor
 ·rintro ⟨j,_,h⟩
  split at h
  ·rename_i hj
   cases h
   exact ⟨rfl,hj,rfl⟩
  ·cases h
 ·rintro ⟨h1,h2,h3⟩
  refine ⟨t.2.1,?_,?_⟩
  ·rw [mem_range]; have:=zaw.mp h2; lia
  ·subst h1
   rw [if_pos h2,<- h3]
theorem zdG:t∈strP B w↔tieB B w t.1 t.2.1=true/\t.2.2=B.idxOf (seg w t.1 t.2.1):=by
 unfold strP
 rw [mem_flatMap]
 constructor
 ·grind [zbs]
 ·rintro ⟨h1,h2⟩
  refine ⟨t.1,?_,zbs.mpr ⟨rfl,h1,h2⟩⟩
  rw [mem_range]; have:=zaw.mp h1; lia
theorem zbz:(strI B w i).Pairwise fun t u=>t.1=u.1/\t.2.1 < u.2.1:=by
 unfold strI
 rw [List.pairwise_filterMap]
 refine List.pairwise_lt_range.imp fun {a b} hab=>?_
 intro x hx y hy
 split at hx
 ·split at hy
  ·cases hx; cases hy
   exact ⟨rfl,hab⟩
  ·cases hy
 ·cases hx
theorem zfg:(strP B w).Pairwise fun t u=>t.1 < u.1\/(t.1=u.1/\t.2.1 < u.2.1):=by
 unfold strP
 rw [List.pairwise_flatMap]
 refine ⟨fun i _=>zbz.imp fun h=>.inr h,List.pairwise_lt_range.imp fun {a b} hab=>?_⟩
 intro x hx y hy
 have h1:=(zbs.mp hx).1
 have h2:=(zbs.mp hy).1
 left; lia
theorem zji:t∈rawI B w i↔t.1=i/\∃ o,B[t.2.2]?=some o/\t.2.1=i + o.length/\seg w i (i + o.length)=o:=by
 unfold rawI
 grind
theorem zga (hB:B.Nodup) (hne:∀ x∈B,x≠[]) (hi:i<=w.length):(strI B w i).Perm (rawI B w i):=by
 refine (List.perm_ext_iff_of_nodup ?_ ?_).mpr fun t=>?_
 ·exact zbz.imp fun ⟨_,h⟩ e=>by rw [e] at h; lia
 ·unfold rawI
  rw [List.Nodup,List.pairwise_filterMap]
  refine List.nodup_range.imp fun {a b} hab x hx y hy e=>?_
  subst e
  split at hx
  ·split at hy
   ·cases hx
    injection hy with hy
    injection hy with _ hy
    injection hy with _ hy
    exact hab hy.symm
   ·cases hy
  ·cases hx
 ·rw [zbs,zji]
  constructor
  ·rintro ⟨h1,h2,h3⟩
   obtain ⟨a1,a2,a3⟩:=zaw.mp h2
   have hl:=zkF (w:=w) (i:=i) (j:=t.2.1) (by lia) a2
   refine ⟨h1,seg w i t.2.1,?_,by rw [hl]; lia,by rw [hl]; congr 1; lia⟩
   rw [h3]
   rw [qi (List.idxOf_lt_length_of_mem a3),List.getElem_idxOf]
  ·rintro ⟨h1,o,h2,h3,h4⟩
   have hm:o∈B:=mem_of_getElem? h2
   have ho:=hne o hm
   have hpos:0 < o.length:=length_pos_iff.mpr ho
   have hle:i + o.length<=w.length:=by
    have:=congrArg List.length h4
    unfold seg at this
    rw [length_take,length_drop] at this
    lia
   refine ⟨h1,zaw.mpr ⟨by lia,by lia,by rw [h3,h4]; exact hm⟩,?_⟩
   rw [h3,h4]
   obtain ⟨hk,e⟩:=qh.mp h2
   rw [<- e]
   exact (hB.idxOf_getElem _ hk).symm
theorem ziY (hB:B.Nodup) (hne:∀ x∈B,x≠[]) (hi:i<=w.length):(strI B w i).length<=min B.length (w.length - i):=by
 refine Nat.le_min.mpr ⟨?_,?_⟩
 ·rw [(zga hB hne hi).length_eq]
  unfold rawI
  grind
 ·have h:=zbL ((strI B w i).map (·.2.1)) (List.range' (i + 1) (w.length - i)) ?_ ?_
  ·simpa using h
  ·rw [List.Nodup,pairwise_map]
   exact zbz.imp fun ⟨_,h⟩=>by lia
  grind [mem_map,zaw,zbs,List.mem_range'_1]
theorem zdW {α:Type} {f g:α->Nat}:∀ l:List α,(∀ x∈l,f x<=g x)->(l.map f).sum<=(l.map g).sum
 | [],_=>by simp
 | x::l,h=>by
   have h1:=h x (by simp)
   have h2:=zdW l fun y hy=>h y (by simp [hy])
   simp only [map_cons,sum_cons]
   lia
theorem zfL (hB:B.Nodup) (hne:∀ x∈B,x≠[]) (h6:B.length<=6) (h12:w.length<=12):(strP B w).length < 64:=by
 unfold strP
 rw [List.length_flatMap]
 have h1:=zdW (f:=fun i=>(strI B w i).length) (g:=fun i=>min 6 (w.length - i)) (List.range w.length) fun i hi=>by
  have:=ziY (w:=w) (i:=i) hB hne (by rw [mem_range] at hi; lia)
  lia
 have h2:∀ n,n<=12->((List.range n).map fun i=>min 6 (n - i)).sum < 64:=by decide
 exact Nat.lt_of_le_of_lt h1 (h2 _ h12)
theorem zdU {α β:Type} {f g:α->List β}:∀ l:List α,(∀ x∈l,(f x).Perm (g x))->(l.flatMap f).Perm (l.flatMap g)
 | [],_=>.refl _
 | x::l,h=>by
   rw [flatMap_cons,flatMap_cons]
   exact (h x (by simp)).append (zdU l fun y hy=>h y (by simp [hy]))
theorem zes (hB:B.Nodup) (hne:∀ x∈B,x≠[]):(strP B w).Perm ((List.range w.length).flatMap (rawI B w)):=
 zdU _ fun i hi=>zga hB hne (by rw [mem_range] at hi; lia)
noncomputable def trI (t:Tr):List Int:=[(t.1:Int),(t.2.1:Int),(t.2.2:Int)]
noncomputable def trD (t:Tr):D:=tI (trI t)
theorem ziB (t:Tr):trD t=.tup [.int t.1,.int t.2.1,.int t.2.2]:=rfl
theorem ziH (hp:(strP B w).Perm l) (h64:l.length < 64):bSort3 [.lst (l.map trD)]=some (.lst (((strP B w).map trD).map .sh)):=by
 have e:∀ l:List Tr,l.map trD=(l.map trI).map tI:=fun l=>by rw [map_map]; rfl
 rw [e,e]
 refine zjo (by simpa using h64) (fun x hx=>?_) (hp.map _) ?_
 ·obtain ⟨t,_,rfl⟩:=mem_map.mp hx
  exact fun z=>nomatch z
 ·rw [pairwise_map]
  refine zfg.imp fun {t u} h=>?_
  grind [trI,cons_lt_cons_iff]
theorem zdF {α:Type} (f:α->D):∀ (B:List α) (k:Nat),enumF k (B.map f)=(List.range B.length).map fun i=>D.tup [.int ((k + i:Nat):Int),(B[i]?).elim .non f]
 | [],k=>rfl
 | b::B,k=>by
   rw [map_cons,enumF,zdF f B (k + 1),length_cons,List.range_succ_eq_map,map_cons,map_map]
   congr 1
   refine map_congr_left fun i _=>?_
   show D.tup [.int ((k + 1 + i:Nat):Int),_]=D.tup [.int ((k + (i + 1):Nat):Int),_]
   rw [show k + 1 + i=k + (i + 1) by lia]
   rfl
theorem zii (B:List Wd):enumF 0 (B.map D.str)=(List.range B.length).map fun (k:Nat)=>D.tup [.int (k:Int),.str ((B[k]?).getD [])]:=by
 rw [zdF]
 first | rfl | assumption | (simp_all; done)
theorem from0 {z:Int} {n:Nat} (h:z=n):fromTo 0 z.toNat=(List.range n).map fun (k:Nat)=>D.int (k:Int):=by
 subst h
 unfold fromTo
 rw [toNat_natCast]
 refine map_congr_left fun k _=>?_
 rw [Int.zero_add]
theorem from1 {i z:Int} {a n:Nat} (hi:i=a) (h:z=n):fromTo i (z - i).toNat=(List.range' a (n - a)).map fun (k:Nat)=>D.int (k:Int):=by
 subst hi; subst h
 unfold fromTo
 rw [show ((n:Int) - (a:Int)).toNat=n - a by lia,List.range'_eq_map_range,map_map]
 first | rfl | assumption | (simp_all; done)
theorem zdC {α β:Type} {f g:α->Option β}:∀ {l:List α},(∀ x∈l,f x=g x)->l.filterMap f=l.filterMap g
 | [],_=>rfl
 | x::l,h=>by
   rw [filterMap_cons,filterMap_cons,h x (by simp),zdC fun y hy=>h y (by simp [hy])]
noncomputable def natD (q:Nat):D:=.int (q:Int)
noncomputable def fnd (n:Nat) (f:Nat->List Nat):List S:=(List.range (n + 1)).map fun p=>S.lst ((f p).map fun q=>S.sh (natD q))
theorem zhJ (h:i<=n):(fnd n f)[i]?=some (.lst ((f i).map fun q=>S.sh (natD q))):=by
 unfold fnd
 rw [getElem?_map,getElem?_range (by lia)]
 rfl
noncomputable def addTo (f:Nat->List Nat) (i j:Nat):Nat->List Nat:=fun p=>if p=i then f p++[j] else f p
theorem zix (h:i<=n):(fnd n f).set i (.lst (((f i).map fun q=>S.sh (natD q))++[.sh (natD j)]))=fnd n (addTo f i j):=by
 apply ext_getElem?
 intro k
 rw [getElem?_set]
 unfold fnd
 by_cases hk:i=k
 ·subst hk
  rw [if_pos rfl,if_pos (by simp; lia),getElem?_map,getElem?_range (by lia)]
  simp [addTo]
 ·rw [if_neg hk,getElem?_map,getElem?_map]
  by_cases h2:k < n + 1
  ·rw [getElem?_range h2]
   simp only [map_some,addTo,if_neg (Ne.symm hk)]
  ·rw [getElem?_eq_none (by simp; lia)]
   rfl
noncomputable def Dn (i j p q:Nat):Prop:=p < i\/q < i\/p=i/\q < j\/q=i/\p < j
noncomputable def GoneT (B:List Wd) (w:Wd) (i j:Nat) (f:Nat->List Nat):Prop:=∀ p,(f p).Nodup/\∀ q,q∈f p↔(tie B w p q=true/\Dn i j p q)
theorem DnS:Dn i (j + 1) p q↔Dn i j p q\/p=i/\q=j\/q=i/\p=j:=by
 unfold Dn
 rw [Nat.lt_succ_iff_lt_or_eq,Nat.lt_succ_iff_lt_or_eq]
 constructor
 ·rintro (h | h | ⟨h,k | k⟩ | ⟨h,k | k⟩)
  ·exact .inl (.inl h)
  ·exact .inl (.inr (.inl h))
  ·exact .inl (.inr (.inr (.inl ⟨h,k⟩)))
  ·exact .inr (.inl ⟨h,k⟩)
  ·exact .inl (.inr (.inr (.inr ⟨h,k⟩)))
  ·exact .inr (.inr ⟨h,k⟩)
 ·rintro ((h | h | h | h) | h | h)
  ·exact .inl h
  ·exact .inr (.inl h)
  ·exact .inr (.inr (.inl ⟨h.1,.inl h.2⟩))
  ·exact .inr (.inr (.inr ⟨h.1,.inl h.2⟩))
  ·exact .inr (.inr (.inl ⟨h.1,.inr h.2⟩))
  ·exact .inr (.inr (.inr ⟨h.1,.inr h.2⟩))
theorem zoi (hij:i < j):¬Dn i j i j/\¬Dn i j j i:=by unfold Dn; lia
theorem ziz (hij:i < j):tie B w i j=tieB B w i j:=by
 cases e:tieB B w j i with
 | false=>unfold tie; rw [e,Bool.or_false]
 | true=>exact absurd (zaw.mp e).1 (Nat.lt_asymm hij)
theorem zlG (hij:i < j) (h:GoneT B w i j f) (ht:tieB B w i j=false):GoneT B w i (j + 1) f:=fun p=>⟨(h p).1,fun q=>by
 rw [(h p).2 q,DnS]
 refine and_congr_right fun z=>⟨.inl,fun k=>k.elim id fun k=>?_⟩
 rcases k with ⟨rfl,rfl⟩ | ⟨rfl,rfl⟩
 ·rw [ziz hij,ht] at z; cases z
 ·rw [zdM,ziz hij,ht] at z; cases z⟩
theorem addOne {P Q:Nat->Prop} (h1:l.Nodup) (h2:∀ q,q∈l↔P q) (hn:¬P a) (h:∀ q,P q\/q=a↔Q q):(l++[a]).Nodup/\∀ q,q∈l++[a]↔Q q:=
 ⟨nodup_append.mpr ⟨h1,by simp,fun x hx b hb e=>hn ((h2 a).mp (by rw [mem_singleton.mp hb] at e; rwa [<- e]))⟩,fun q=>by rw [mem_append,mem_singleton,h2 q,h q]⟩
theorem zj7 (hij:i < j) (h:GoneT B w i j f) (ht:tieB B w i j=true):GoneT B w i (j + 1) (addTo (addTo f i j) j i):=fun p=>by
 obtain ⟨h1,h2⟩:=h p
 rw [<- ziz hij] at ht
 show (addTo (addTo f i j) j i p).Nodup/\_
 unfold addTo
 by_cases hj:p=j
 ·subst hj
  rw [if_pos rfl,if_neg (ne_of_gt hij)]
  rw [zdM] at ht
  refine addOne h1 h2 (fun k=>(zoi hij).2 k.2) fun q=>?_
  rw [DnS]
  constructor
  ·rintro (⟨a,b⟩ | rfl)
   ·exact ⟨a,.inl b⟩
   ·exact ⟨ht,.inr (.inr ⟨rfl,rfl⟩)⟩
  ·rintro ⟨a,b | ⟨b,_⟩ | ⟨b,_⟩⟩
   ·exact .inl ⟨a,b⟩
   ·exact absurd b (ne_of_gt hij)
   ·exact .inr b
 ·rw [if_neg hj]
  by_cases hi:p=i
  ·subst hi
   rw [if_pos rfl]
   refine addOne h1 h2 (fun k=>(zoi hij).1 k.2) fun q=>?_
   rw [DnS]
   constructor
   ·rintro (⟨a,b⟩ | rfl)
    ·exact ⟨a,.inl b⟩
    ·exact ⟨ht,.inr (.inl ⟨rfl,rfl⟩)⟩
   ·rintro ⟨a,b | ⟨_,b⟩ | ⟨_,b⟩⟩
    ·exact .inl ⟨a,b⟩
    ·exact .inr b
    ·exact absurd b hj
  ·rw [if_neg hi]
   refine ⟨h1,fun q=>?_⟩
   rw [h2 q,DnS]
   refine and_congr_right fun _=>⟨.inl,fun k=>k.elim id fun k=>?_⟩
   rcases k with ⟨k,_⟩ | ⟨_,k⟩
   ·exact absurd k hi
   ·exact absurd k hj
theorem zjl (hw:w.length<=n) (h:GoneT B w i (n + 1) f):GoneT B w (i + 1) (i + 2) f:=fun p=>by
 obtain ⟨h1,h2⟩:=h p
 refine ⟨h1,fun q=>?_⟩
 rw [h2 q]
 refine and_congr_right fun htq=>?_
 have:p<=n/\q<=n/\p≠q:=by
  have:=ziV (zba.mpr htq); lia
 unfold Dn
 lia
theorem zgF:GoneT B w 0 1 fun _=>[]:=fun p=>⟨by simp,fun q=>by
 simp only [List.not_mem_nil,false_iff]
 rintro ⟨h,h2⟩
 have:=ziV (zba.mpr h)
 unfold Dn at h2
 lia⟩
theorem zih (hi:w.length<=i) (h:GoneT B w i j f):(nb B w p).Perm (f p):=by
 obtain ⟨h1,h2⟩:=h p
 refine (List.perm_ext_iff_of_nodup (zcV.imp fun h=>by lia) h1).mpr fun q=>?_
 rw [zba,h2 q]
 refine ⟨fun ht=>⟨ht,?_⟩,fun ht=>ht.1⟩
 have:=ziV (zba.mpr ht)
 unfold Dn
 lia
theorem zfE:(nb B w p).length<=w.length + 1:=by
 unfold nb
 exact le_trans (List.length_filter_le _ _) (by simp)
noncomputable def tiesL (B:List Wd) (w:Wd):List D:=(List.range (w.length + 1)).map fun p=>D.lst ((nb B w p).map natD)
theorem zll (hp:(nb B w p).Perm l) (hw:w.length<=60):bSort3 [.lst (l.map natD)]=some (.lst (((nb B w p).map natD).map .sh)):=by
 have e:∀ l:List Nat,l.map natD=(l.map fun (q:Nat)=>(q:Int)).map D.int:=fun l=>by rw [map_map]; rfl
 rw [e,e]
 refine ziu (by rw [length_map,<- hp.length_eq]; have:=zfE (B:=B) (w:=w) (p:=p); lia) (hp.map _) ?_
 rw [pairwise_map]
 exact zcV.imp fun h=>by lia
theorem zbW (h:pre++i::post=List.range n):pre.length=i/\i < n:=by
 have h1:(List.range n)[pre.length]?=some i:=by rw [<- h]; simp
 obtain ⟨h2,h3⟩:=qh.mp h1
 rw [List.getElem_range] at h3
 rw [length_range] at h2
 lia
theorem zgM (h:pre++i::post=List.range' a n):i=a + pre.length/\pre.length < n:=by
 have h1:(List.range' a n)[pre.length]?=some i:=by rw [<- h]; simp
 obtain ⟨h2,h3⟩:=qh.mp h1
 rw [List.getElem_range'] at h3
 rw [List.length_range'] at h2
 lia
theorem zfy (h:GoneT B w i j f) (p:Nat):(f p).length<=w.length + 1:=by
 obtain ⟨h1,h2⟩:=h p
 have:=zbL (f p) (nb B w p) h1 fun q hq=>zba.mpr ((h2 q).mp hq).1
 have:=zfE (B:=B) (w:=w) (p:=p)
 lia
inductive Conn (R:Nat->Nat->Prop):Nat->Nat->Prop
 | refl (p:Nat):Conn R p p
 | step {p q r:Nat}:Conn R p q->R q r->Conn R p r
theorem Conn.trans {R:Nat->Nat->Prop} (h1:Conn R p q) (h2:Conn R q r):Conn R p r:=by
 induction h2 with
 | refl=>exact h1
 | step _ e ih=>exact .step ih e
theorem Conn.one {R:Nat->Nat->Prop} (h:R p q):Conn R p q:=.step (.refl p) h
theorem Conn.symm {R:Nat->Nat->Prop} (hR:∀ p q,R p q->R q p) (h:Conn R p q):Conn R q p:=by
 induction h with
 | refl=>exact .refl _
 | step _ e ih=>exact (Conn.one (hR _ _ e)).trans ih
theorem Conn.mono {R R':Nat->Nat->Prop} (h:∀ p q,R p q->R' p q) (c:Conn R p q):Conn R' p q:=by
 induction c with
 | refl=>exact .refl _
 | step _ e ih=>exact .step ih (h _ _ e)
structure IsLand (R:Nat->Nat->Prop) (L:Nat->Nat):Prop where
 conn:∀ p,Conn R p (L p)
 same:∀ p q,R p q->L p=L q
 le:∀ p,L p<=p
theorem IsLand.eq {R:Nat->Nat->Prop} (h:IsLand R L) (c:Conn R p q):L p=L q:=by
 induction c with
 | refl=>rfl
 | step _ e ih=>exact ih.trans (h.same _ _ e)
theorem IsLand.zero {R:Nat->Nat->Prop} (hR:∀ p q,R p q->R q p) (h:IsLand R L) (p:Nat):L p=0↔Conn R 0 p:=by
 have h0:L 0=0:=by have:=h.le 0; lia
 constructor
 ·intro e
  have:=h.conn p
  rw [e] at this
  exact this.symm hR
 ·intro c
  rw [<- h.eq c,h0]
theorem zgt:IsLand (fun _ _=>False) fun p=>p:=⟨fun p=>.refl p,fun _ _ h=>h.elim,fun p=>le_refl p⟩
noncomputable def glue (L:Nat->Nat) (i j:Nat):Nat->Nat:=fun p=>if L p=max (L i) (L j) then min (L i) (L j) else L p
theorem ziS {R R':Nat->Nat->Prop} {L:Nat->Nat} {i j:Nat} (hR:∀ p q,R' p q->R' q p) (hsub:∀ p q,R p q->R' p q) (hij:R' i j) (hall:∀ p q,R' p q->R p q\/(p=i/\q=j)\/(p=j/\q=i)) (h:IsLand R L):IsLand R' (glue L i j) where
 conn p:=by
  unfold glue
  split
  ·rename_i e
   have cp:Conn R' p (L p):=(h.conn p).mono hsub
   have ci:Conn R' i (L i):=(h.conn i).mono hsub
   have cj:Conn R' j (L j):=(h.conn j).mono hsub
   have cij:Conn R' (L i) (L j):=(ci.symm hR).trans ((Conn.one hij).trans cj)
   rw [e] at cp
   rcases Nat.le_total (L i) (L j) with hh | hh
   ·rw [Nat.max_eq_right hh] at cp
    rw [min_eq_left hh]
    exact cp.trans (cij.symm hR)
   ·rw [Nat.max_eq_left hh] at cp
    rw [min_eq_right hh]
    exact cp.trans cij
  ·exact (h.conn p).mono hsub
 same p q e:=by
  have key:glue L i j i=glue L i j j:=by unfold glue; split <;> split <;> lia
  rcases hall p q e with e | ⟨rfl,rfl⟩ | ⟨rfl,rfl⟩
  ·unfold glue; rw [h.same p q e]
  ·exact key
  ·exact key.symm
 le p:=by
  have:=h.le p
  unfold glue
  split <;> lia
noncomputable def TieR (B:List Wd) (w:Wd) (p q:Nat):Prop:=tie B w p q=true
theorem zbR (p q:Nat) (h:TieR B w p q):TieR B w q p:=by unfold TieR at *; rw [zdM]; exact h
noncomputable def StrR (pre:List Tr) (p q:Nat):Prop:=∃ t∈pre,(t.1=p/\t.2.1=q)\/(t.1=q/\t.2.1=p)
theorem zhy (p q:Nat) (h:StrR pre p q):StrR pre q p:=by
 obtain ⟨t,ht,h⟩:=h
 exact ⟨t,ht,h.symm⟩
theorem zh7 (h:IsLand (StrR pre) L):IsLand (StrR (pre++[t])) (glue L t.1 t.2.1):=by
 refine ziS zhy (fun p q ⟨u,hu,e⟩=>⟨u,qk _ hu,e⟩) ⟨t,by simp,.inl ⟨rfl,rfl⟩⟩ (fun p q zq=>?_) h
 obtain ⟨u,hu,e⟩:=zq
 rcases mem_append.mp hu with z | z
 ·exact .inl ⟨u,z,e⟩
 ·rw [mem_singleton.mp z] at e
  rcases e with ⟨a,b⟩ | ⟨a,b⟩
  ·exact .inr (.inl ⟨a.symm,b.symm⟩)
  ·exact .inr (.inr ⟨b.symm,a.symm⟩)
theorem IsLand.congr {R R':Nat->Nat->Prop} (h:∀ p q,R p q↔R' p q) (k:IsLand R L):IsLand R' L:=
 ⟨fun p=>(k.conn p).mono fun p q e=>(h p q).mp e,fun p q e=>k.same p q ((h p q).mpr e),k.le⟩
noncomputable def landOf:List Tr->(Nat->Nat)->Nat->Nat
 | [],L=>L
 | t::r,L=>landOf r (glue L t.1 t.2.1)
theorem zeg:∀ (post pre:List Tr) (L:Nat->Nat),IsLand (StrR pre) L->IsLand (StrR (pre++post)) (landOf post L)
 | [],pre,L,h=>by rw [append_nil]; exact h
 | t::r,pre,L,h=>by
   have:=zeg r (pre++[t]) _ (zh7 (t:=t) h)
   rw [append_assoc] at this
   exact this
noncomputable def fixedP (B:List Wd) (w:Wd):Prop:=Conn (TieR B w) 0 w.length
theorem zaU:∀ (a b:List Tr) (L:Nat->Nat),landOf (a++b) L=landOf b (landOf a L)
 | [],_,_=>rfl
 | t::a,b,L=>zaU a b _
theorem zgX:∀ {l m:List Int},l.map D.int=m.map D.int->l=m
 | [],[],_=>rfl
 | [],_::_,h=>nomatch h
 | _::_,[],h=>nomatch h
 | a::l,b::m,h=>by
   simp only [map_cons,List.cons.injEq] at h
   rw [zgX h.2]
   injection h.1 with e
   rw [e]
noncomputable def vecN (n:Nat) (f:Nat->Nat):List D:=(List.range (n + 1)).map fun p=>natD (f p)
noncomputable def vecI (n:Nat) (f:Nat->Nat):List Int:=(List.range (n + 1)).map fun p=>((f p:Nat):Int)
theorem zdK (n:Nat) (f:Nat->Nat):vecN n f=(vecI n f).map D.int:=by unfold vecN vecI; rw [map_map]; rfl
theorem zjm:(vecN n f).length=n + 1:=by simp [vecN]
theorem zjr (h:p<=n):(vecN n f)[p]?=some (natD (f p)):=by
 unfold vecN; rw [getElem?_map,getElem?_range (by lia)]; rfl
theorem zgU (h:p<=n):atI (vecN n f) (p:Int)=some (.int ((f p:Nat):Int)):=by
 refine zbw (by lia) ?_
 rw [toNat_natCast]; exact zjr h
theorem zlQ:vecI n f=vecI n g↔∀ p,p<=n->f p=g p:=by
 unfold vecI
 constructor
 ·intro h p hp
  have:=congrArg (fun l=>l[p]?) h
  simp only [getElem?_map,getElem?_range (show p < n + 1 by lia),map_some,Option.some.injEq] at this
  lia
 ·intro h
  exact map_congr_left fun p hp=>by rw [h p (by have:=mem_range.mp hp; lia)]
theorem minN {a b:Nat}:(if (b:Int) < (a:Int) then (b:Int) else (a:Int))=((min a b:Nat):Int):=by split <;> lia
theorem maxN {a b:Nat}:(if (b:Int) > (a:Int) then (b:Int) else (a:Int))=((max a b:Nat):Int):=by split <;> lia
theorem zou {x:Int} {l:List Int}:∃ m,(x::l).min?=some m/\m∈x::l/\∀ y∈x::l,m<=y:=by
 cases e:(x::l).min? with
 | none=>cases List.min?_eq_none_iff.mp e
 | some m=>exact ⟨m,rfl,List.min?_mem e,fun y hy=>(List.le_min?_iff e).mp (Int.le_refl m) y hy⟩
theorem zkP (p q:Nat) (h:TieR B w p q):p<=w.length/\q<=w.length:=by
 have:=ziV (zba.mpr h)
 exact ⟨this.2.1,this.1⟩
theorem zoj (l:List (List Nat)):strsD (l.map D.str)=some l:=by
 induction l with
 | nil=>rfl
 | cons a l ih=>show (strsD (l.map D.str)).map (a::·)=_; rw [ih]; rfl
theorem zhn {l:List (List Nat)} (h:(l.map List.length).sum<=big):mJoin [] [.lst (l.map D.str)]=some (.sh (.str l.flatten)):=by
 show (strsD (l.map D.str)).bind _=_
 rw [zoj]
 show (if (l.map List.length).sum + l.length * [].length<=big then some (S.sh (.str (joinD [] l))) else none)=_
 rw [if_pos (by simpa using h),zeh]
theorem zc9:∀ l:List Int,(∀ z∈l,-1000000000000 < z/\z < 1000000000000)->okShs (l.map D.int)=true
 | [],_=>rfl
 | a::l,h=>by
   show (okSh (.int a) && okShs (l.map D.int))=true
   have h1:=h a (by simp)
   rw [zc9 l fun z hz=>h z (by simp [hz]),Bool.and_true]
   show (decide (-1000000000000 < a) && decide (a < 1000000000000))=true
   rw [decide_eq_true h1.1,decide_eq_true h1.2]; rfl
theorem zd6:∀ l:List Int,wtDs (l.map D.int)=42 * l.length
 | []=>rfl
 | a::l=>by
   show 41 + 1 + wtDs (l.map D.int)=_
   rw [zd6 l,length_cons]; lia
theorem zgK {l:List Int} (h:∀ z∈l,-1000000000000 < z/\z < 1000000000000) (hl:l.length<=20000):okShow (.tup (l.map D.int))=true:=by
 unfold okShow
 grind [okSh,okShs,zc9,dep,deps,zbc,wtD,wtDs,zd6]
noncomputable def whE (D':Ends) (m:Nat) (J:Nat->Env->Prop):Ends:={ D' with nx:=fun O2=>∃ m',m' < m/\J m' O2,ct:=fun O2=>∃ m',m' < m/\J m' O2,bk:=D'.nx }
noncomputable def kWh (b:WS) (D':Ends) (m:Nat) (J:Nat->Env->Prop) (k:Bool) (O:Env):Prop:=if k then b (whE D' m J) O else D'.nx O
theorem x_Wt:kWh b D' m J true O=b (whE D' m J) O:=rfl
theorem x_Wf:kWh b D' m J false O=D'.nx O:=rfl
theorem zmh (hm:m' < m) (h:J m' O):(whE D' m J).nx O:=⟨m',hm,h⟩
theorem zm5 (J:Nat->Env->Prop) (m:Nat) (h0:J m O) (h:∀ m O,J m O->c O (kWh b D' m J) D'.ex):wWhile c b D' O:=⟨J,⟨m,h0⟩,fun m O hJ=>h m O hJ⟩
theorem zfw {l:List α} (h:0 < l.length):∃ v,v∈l/\l.getLast?=some v/\atI l (-1)=some v:=by
 refine ⟨l.getLast (length_pos_iff.mp h),List.getLast_mem _,List.getLast?_eq_some_getLast (length_pos_iff.mp h),?_⟩
 unfold atI ixN
 rw [if_neg (by decide),if_pos (by lia)]
 show l[((-1:Int) + (l.length:Int)).toNat]?=_
 rw [show ((-1:Int) + (l.length:Int)).toNat=l.length - 1 by lia,qi (by lia),List.getLast_eq_getElem]
inductive Walk (R:Nat->Nat->Prop) (g:Nat):Nat->Nat->Prop
 | zero:Walk R g 0 g
 | step {d p q:Nat}:Walk R g d p->R p q->Walk R g (d + 1) q
noncomputable def IsDist (R:Nat->Nat->Prop) (g q d:Nat):Prop:=Walk R g d q/\∀ d',d' < d->¬ Walk R g d' q
section
variable {R:Nat->Nat->Prop} {g:Nat}
theorem Walk.inv (h:Walk R g d q):(d=0/\q=g)\/∃ e p,d=e + 1/\Walk R g e p/\R p q:=by
 cases h with
 | zero=>exact .inl ⟨rfl,rfl⟩
 | step h e=>exact .inr ⟨_,_,rfl,h,e⟩
theorem zdA (h:IsDist R g q d) (k:IsDist R g q e):d=e:=by
 rcases Nat.lt_trichotomy d e with z | z | z
 ·exact (k.2 d z h.1).elim
 ·exact z
 ·exact (h.2 e z k.1).elim
theorem zhi:∀ {d:Nat},Walk R g d q->∃ e,e<=d/\IsDist R g q e:=by
 intro d
 induction d using Nat.strongRecOn with
 | _ d ih=>
   intro h
   by_cases z:∃ d',d' < d/\Walk R g d' q
   ·obtain ⟨d',hd,hw⟩:=z
    obtain ⟨e,he,hi⟩:=ih d' hd hw
    exact ⟨e,by lia,hi⟩
   ·exact ⟨d,le_refl _,h,fun d' hd hw=>z ⟨d',hd,hw⟩⟩
theorem zez:IsDist R g g 0:=⟨.zero,fun d' h=>by lia⟩
theorem ziw (h:IsDist R g q 0):q=g:=by
 rcases h.1.inv with ⟨_,e⟩ | ⟨_,_,e,_⟩
 ·exact e
 ·lia
theorem znQ (h:IsDist R g g d):d=0:=zdA h zez
theorem zbS (h:IsDist R g q (d + 1)):∃ p,IsDist R g p d/\R p q:=by
 rcases h.1.inv with ⟨e,_⟩ | ⟨e,p,z,hw,hr⟩
 ·lia
 ·obtain rfl:d=e:=by lia
  refine ⟨p,⟨hw,fun d' hd hw'=>h.2 (d' + 1) (by lia) (.step hw' hr)⟩,hr⟩
theorem zaS (h:Walk R g d q):Conn R g q:=by
 induction h with
 | zero=>exact .refl _
 | step _ e ih=>exact .step ih e
theorem zig (h:Conn R g q):∃ d,Walk R g d q:=by
 induction h with
 | refl=>exact ⟨0,.zero⟩
 | step _ e ih=>obtain ⟨d,h⟩:=ih; exact ⟨d + 1,.step h e⟩
theorem zbf:Conn R g q↔∃ d,IsDist R g q d:=by
 constructor
 ·grind [zig,zhi]
 ·rintro ⟨d,h⟩
  exact zaS h.1
open Classical in
noncomputable def dst (R:Nat->Nat->Prop) (g q:Nat):Nat:=if h:∃ d,IsDist R g q d then Classical.choose h else 0
theorem zde (h:IsDist R g q d):dst R g q=d:=by
 unfold dst
 rw [dif_pos ⟨d,h⟩]
 exact zdA (Classical.choose_spec (⟨d,h⟩:∃ d,IsDist R g q d)) h
structure Right (R:Nat->Nat->Prop) (g:Nat) (L:List (Nat×Nat)):Prop where
 ok:∀ t∈L,IsDist R g t.1 t.2
 nd:(L.map (·.1)).Nodup
theorem Right.at (h:Right R g L) (h1:(q,d)∈L) (h2:IsDist R g q e):d=e:=zdA (h.ok _ h1) h2
structure Queue (R:Nat->Nat->Prop) (g:Nat) (L:List (Nat×Nat)) (qu:List (Nat×Nat)):Prop where
 right:Right R g L
 sub:∀ t∈qu,t∈L
 out:∀ t∈L,t∉qu->∀ q,R t.1 q->∃ e,(q,e)∈L
 up:qu.Pairwise fun t u=>t.2<=u.2
 near:∀ t r,qu=t::r->∀ u∈r,u.2<=t.2 + 1
 all:∀ t r,qu=t::r->∀ q e,IsDist R g q e->e<=t.2->(q,e)∈L
 gin:(g,0)∈L
theorem Queue.done (h:Queue R g L []) (k:IsDist R g q d):(q,d)∈L:=by
 induction d generalizing q with
 | zero=>rw [ziw k]; exact h.gin
 | succ d ih=>
   obtain ⟨p,hp,hr⟩:=zbS k
   obtain ⟨e,he⟩:=h.out _ (ih hp) (by simp) q hr
   have:=h.right.at he k
   rw [<- this]; exact he
structure Mid (R:Nat->Nat->Prop) (g:Nat) (L qu:List (Nat×Nat)) (t:Nat×Nat) (pre:List Nat):Prop where
 right:Right R g L
 tin:t∈L
 sub:∀ u∈qu,u∈L
 out:∀ u∈L,u∉qu->u≠t->∀ q,R u.1 q->∃ e,(q,e)∈L
 gone:∀ q∈pre,∃ e,(q,e)∈L
 up:qu.Pairwise fun t u=>t.2<=u.2
 lo:∀ u∈qu,t.2<=u.2/\u.2<=t.2 + 1
 all:∀ q e,IsDist R g q e->e<=t.2->(q,e)∈L
 gin:(g,0)∈L
theorem Queue.take {L qu:List (Nat×Nat)} {t:Nat×Nat} (h:Queue R g L (t::qu)):Mid R g L qu t [] where
 right:=h.right
 tin:=h.sub t (by simp)
 sub u hu:=h.sub u (by simp [hu])
 out u hu hn ht:=h.out u hu (by simp [hn,ht])
 gone:=by simp
 up:=(pairwise_cons.mp h.up).2
 lo u hu:=⟨(pairwise_cons.mp h.up).1 u hu,h.near t qu rfl u hu⟩
 all q e hq he:=h.all t qu rfl q e hq he
 gin:=h.gin
theorem Mid.skip (h:Mid R g L qu t pre) (hq:(q,e)∈L):Mid R g L qu t (pre++[q]):=
 ⟨h.right,h.tin,h.sub,h.out,fun x hx=>(mem_append.mp hx).elim (h.gone x) fun z=>⟨e,by rw [mem_singleton.mp z]; exact hq⟩,h.up,h.lo,h.all,h.gin⟩
theorem Mid.put (h:Mid R g L qu t pre) (hr:R t.1 q) (hn:∀ e,(q,e)∉L):Mid R g (L++[(q,t.2 + 1)]) (qu++[(q,t.2 + 1)]) t (pre++[q]):=by
 have hd:IsDist R g q (t.2 + 1):=by
  refine ⟨.step (h.right.ok t h.tin).1 hr,fun d' hd' hw=>?_⟩
  obtain ⟨e,he,hi⟩:=zhi hw
  exact hn e (h.all q e hi (by lia))
 refine ⟨⟨fun u hu=>?_,?_⟩,qk _ h.tin,fun u hu=>?_,fun u hu hnu hut=>?_,fun x hx=>?_,?_,fun u hu=>?_,fun x e hx he=>qk _ (h.all x e hx he),qk _ h.gin⟩
 ·rcases mem_append.mp hu with z | z
  ·exact h.right.ok u z
  ·rw [mem_singleton.mp z]; exact hd
 ·rw [map_append]
  refine nodup_append.mpr ⟨h.right.nd,by simp,fun x hx y hy e=>?_⟩
  grind
 ·rcases mem_append.mp hu with z | z
  ·exact qk _ (h.sub u z)
  ·exact qj _ z
 ·rcases mem_append.mp hu with z | z
  ·intro x hx
   obtain ⟨e,he⟩:=h.out u z (fun k=>hnu (qk _ k)) hut x hx
   exact ⟨e,qk _ he⟩
  ·exact (hnu (qj _ z)).elim
 ·rcases mem_append.mp hx with z | z
  ·obtain ⟨e,he⟩:=h.gone x z
   exact ⟨e,qk _ he⟩
  grind
 ·refine List.pairwise_append.mpr ⟨h.up,by simp,fun x hx y hy=>?_⟩
  rw [mem_singleton.mp hy]
  exact (h.lo x hx).2
 ·rcases mem_append.mp hu with z | z
  ·exact h.lo u z
  grind
theorem Mid.queue (h:Mid R g L qu t l) (hl:∀ q,R t.1 q->q∈l):Queue R g L qu:=by
 have hout:∀ u∈L,u∉qu->∀ q,R u.1 q->∃ e,(q,e)∈L:=fun u hu hn q hq=>by
  by_cases e:u=t
  ·subst e; exact h.gone q (hl q hq)
  ·exact h.out u hu hn e q hq
 refine ⟨h.right,h.sub,hout,h.up,fun t' r e u hu=>?_,fun t' r e q d hq hd=>?_,h.gin⟩
 ·subst e
  have h1:=h.lo u (by simp [hu])
  have h2:=h.lo t' (by simp)
  lia
 ·subst e
  have h2:=h.lo t' (by simp)
  rcases lt_or_ge t.2 d with z | z
  ·obtain ⟨k,rfl⟩:∃ k,d=k + 1:=⟨d - 1,by lia⟩
   obtain ⟨p,hp,hr⟩:=zbS hq
   have hpL:=h.all p k hp (by lia)
   -- p was taken out,or it is in the queue with less than the first has
   by_cases hm:(p,k)∈t'::r
   ·have h3:=h.lo _ hm
    have h4:t'.2<=k:=by
     rcases mem_cons.mp hm with z2 | z2
     ·rw [<- z2]; exact le_refl _
     ·exact (pairwise_cons.mp h.up).1 _ z2
    lia
   ·obtain ⟨e,he⟩:=hout _ hpL hm q hr
    have:=h.right.at he hq
    rw [<- this]; exact he
  ·exact h.all q d hq z
theorem Queue.start:Queue R g [(g,0)] [(g,0)] where
 right:=⟨fun t ht=>by rw [mem_singleton.mp ht]; exact zez,by simp⟩
 sub t ht:=ht
 out t ht hn:=(hn ht).elim
 up:=by simp
 near t r e u hu:=by
  injection e with _ e
  rw [<- e] at hu; cases hu
 all t r e q d hq hd:=by
  grind [ziw]
 gin:=by simp
end
noncomputable def keyL (L:List (Nat×Nat)):List D:=L.map fun t=>natD t.1
noncomputable def valL (L:List (Nat×Nat)):List D:=L.map fun t=>natD t.2
theorem zdr (h:natD a=natD b):a=b:=by
 unfold natD at h
 injection h with h
 lia
theorem zf7 {q:Nat}:D.int (q:Int)∈keyL L↔∃ d,(q,d)∈L:=by
 unfold keyL
 rw [mem_map]
 constructor
 ·rintro ⟨t,ht,e⟩
  exact ⟨t.2,by rw [<- zdr (a:=t.1) (b:=q) e]; exact ht⟩
 ·rintro ⟨d,hd⟩
  exact ⟨(q,d),hd,rfl⟩
theorem zlf (h:(L.map (·.1)).Nodup):(keyL L).Nodup:=by
 unfold keyL
 have:(L.map fun t=>natD t.1)=(L.map (·.1)).map natD:=by rw [map_map]; rfl
 rw [this,List.Nodup,pairwise_map]
 exact h.imp fun hab e=>hab (zdr e)
open Classical in
theorem zhj {q:Nat}:cInA (.int (q:Int)) (.dct false (keyL L) vs)=some (decide (∃ d,(q,d)∈L)):=by
 show cIn (.int (q:Int)) (.dct false (keyL L) vs)=_
 show (if isKey false (.int (q:Int)) then some (decide (D.int (q:Int)∈keyL L)) else none)=_
 rw [if_pos (show isKey false (.int (q:Int))=true from rfl)]
 congr 1
 exact decide_eq_decide.mpr zf7
open Classical in
theorem zhq {L:List (Nat×Nat)} {vs:List D} {q:Nat} (h:∃ d,(q,d)∈L):cIn (.int (q:Int)) (.dct false (keyL L) vs)=some true:=by
 have:=zhj (L:=L) (vs:=vs) (q:=q)
 rw [decide_eq_true h] at this
 exact this
open Classical in
theorem zkl {L:List (Nat×Nat)} {vs:List D} {q:Nat} (h:¬ ∃ d,(q,d)∈L):cIn (.int (q:Int)) (.dct false (keyL L) vs)=some false:=by
 have:=zhj (L:=L) (vs:=vs) (q:=q)
 rw [decide_eq_false h] at this
 exact this
open Classical in
theorem zeQ {f:Nat->α}:∀ {L:List (Nat×Nat)} {q d:Nat},(L.map (·.1)).Nodup->(q,d)∈L->lk (keyL L) (L.map fun t=>f t.2) (.int (q:Int))=some (f d)
 | [],_,_,_,h=>nomatch h
 | t::L,q,d,hn,h=>by
   show (if natD t.1=.int (q:Int) then some (f t.2) else lk (keyL L) (L.map fun t=>f t.2) (.int (q:Int)))=_
   rw [map_cons,nodup_cons] at hn
   rcases mem_cons.mp h with e | h
   ·rw [<- e,if_pos (show natD (q,d).1=.int (q:Int) from rfl)]
   ·have hne:¬ natD t.1=.int (q:Int):=fun e=>hn.1 (by rw [zdr (a:=t.1) (b:=q) e]; exact mem_map.mpr ⟨_,h,rfl⟩)
    rw [if_neg hne]
    exact zeQ hn.2 h
theorem zjB {L:List (Nat×Nat)} {l:List S} {q:Nat} {s:S} (h:∀ d,(q,d)∉L):dputS false (keyL L) l (.int (q:Int)) s=.dct false (keyL L++[.int (q:Int)]) (l++[s]):=by
 unfold dputS
 have:fIx (keyL L) (.int (q:Int))=none:=by
  unfold fIx
  rw [List.findIdx?_eq_none_iff]
  intro x hx
  rw [decide_eq_false_iff_not]
  intro e
  subst e
  obtain ⟨d,hd⟩:=zf7.mp hx
  exact h d hd
 rw [this]
noncomputable def nearer (B:List Wd) (w:Wd) (p:Nat):Nat:=(((nb B w p).filter fun q=>decide (dst (TieR B w) w.length q + 1=dst (TieR B w) w.length p)).head?).getD p
noncomputable def wayP (B:List Wd) (w:Wd):Nat->Nat->List Nat
 | 0,p=>[p]
 | d + 1,p=>p::wayP B w d (nearer B w p)
theorem zdy:atI (l++[x]) (-1)=some x:=by
 obtain ⟨v,_,h1,h2⟩:=zfw (l:=l++[x]) (by simp)
 grind
theorem zjf (h:(x::l).Pairwise (· < ·)):((x::l).map fun q=>((q:Nat):Int)).min?=some ((x:Nat):Int):=by
 rw [map_cons]
 obtain ⟨m,em,hm,hle⟩:=zou (x:=((x:Nat):Int)) (l:=l.map fun q=>((q:Nat):Int))
 grind [mem_cons_self,mem_cons,mem_map,pairwise_cons.mp]
theorem zhF (h:IsDist (TieR B w) w.length p (d + 1)):∃ r,((nb B w p).filter fun q=>decide (dst (TieR B w) w.length q + 1=dst (TieR B w) w.length p))=nearer B w p::r/\IsDist (TieR B w) w.length (nearer B w p) d:=by
 obtain ⟨q,hq,hr⟩:=zbS h
 have hm:q∈(nb B w p).filter fun q=>decide (dst (TieR B w) w.length q + 1=dst (TieR B w) w.length p):=by
  rw [mem_filter]
  exact ⟨zba.mpr (zbR _ _ hr),decide_eq_true (by rw [zde hq,zde h])⟩
 cases e:(nb B w p).filter fun q=>decide (dst (TieR B w) w.length q + 1=dst (TieR B w) w.length p) with
 | nil=>rw [e] at hm; cases hm
 | cons x r=>
   have hx:nearer B w p=x:=by unfold nearer; rw [e]; rfl
   rw [hx]
   refine ⟨r,rfl,?_⟩
   have hxm:x∈(nb B w p).filter fun q=>decide (dst (TieR B w) w.length q + 1=dst (TieR B w) w.length p):=by rw [e]; simp
   obtain ⟨h1,h2⟩:=mem_filter.mp hxm
   have h2:=of_decide_eq_true h2
   obtain ⟨k,hk⟩:=zbf.mp ((zaS h.1).step (zba.mp h1))
   rw [zde hk,zde h] at h2
   obtain rfl:k=d:=by lia
   exact hk
theorem zfK {R:Nat->Nat->Prop}:∀ {d p:Nat},IsDist R g p d->∀ k,k<=d->∃ q,IsDist R g q k
 | 0,p,h,k,hk=>by
   obtain rfl:k=0:=by lia
   exact ⟨p,h⟩
 | d + 1,p,h,k,hk=>by
   rcases lt_or_ge d k with z | z
   ·obtain rfl:k=d + 1:=by lia
    exact ⟨p,h⟩
   ·obtain ⟨q,hq,_⟩:=zbS h
    exact zfK hq k z
theorem zjO {R:Nat->Nat->Prop} (hq:Queue R g L []) (hd:IsDist R g p d):d + 1<=L.length:=by
 have:=zbL (List.range (d + 1)) (L.map (·.2)) List.nodup_range fun k hk=>by
  obtain ⟨q,h⟩:=zfK hd k (by have:=mem_range.mp hk; lia)
  exact mem_map.mpr ⟨(q,k),hq.done h,rfl⟩
 rw [length_range,length_map] at this
 exact this
end FL
end
noncomputable section
namespace Law
open FL
noncomputable def w_0_c1:WB:=bEmit 2 (wTup (wCons (wVar 3) (wCons (wBin oAdd (wVar 3) (wB bLen (wCons (wVar 5) wNil))) (wCons (wVar 4) wNil))))
noncomputable def u_0_c1 {Q:Env->Prop} {E:WX} {O:Env}:=uB (O:=O) (Q:=Q) (E:=E) w_0_c1.eq_1
noncomputable def w_0_c2:WB:=bFor (wEnum (wVar 0)) (gTup [gName 4,gName 5]) (wCmp cEq (wSl (wVar 1) (some (wVar 3)) (some (wBin oAdd (wVar 3) (wB bLen (wCons (wVar 5) wNil))))) (wVar 5)) w_0_c1
noncomputable def u_0_c2 {Q:Env->Prop} {E:WX} {O:Env}:=uB (O:=O) (Q:=Q) (E:=E) w_0_c2.eq_1
noncomputable def w_0:WF:=wFn 2 2 [0,1]
 (wRet (wB bSort3 (wCons (wLC 2 3 (wRange1 (wB bLen (wCons (wVar 1) wNil))) (gName 3) wYes w_0_c2) wNil)))
noncomputable def w_2_c1:WB:=bEmit 5 (wIfE (wCmp cEq (wVar 6) (wVar 4)) (wVar 3) (wVar 6))
noncomputable def u_2_c1 {Q:Env->Prop} {E:WX} {O:Env}:=uB (O:=O) (Q:=Q) (E:=E) w_2_c1.eq_1
noncomputable def w_2:WF:=wFn 3 5 [0,1,2]
 (wSeq (wAsg (gTup [gName 3,gName 4]) (wTup (wCons (wB bMin (wCons (wIx (wVar 0) (wVar 1)) (wCons (wIx (wVar 0) (wVar 2)) wNil))) (wCons (wB bMax (wCons (wIx (wVar 0) (wVar 1)) (wCons (wIx (wVar 0) (wVar 2)) wNil))) wNil))))
  (wRet (wLC 5 1 (wIter (wVar 0)) (gName 6) wYes w_2_c1)))
noncomputable def w_5:WF:=wFn 2 4 [0,1]
 (wSeq (wAsg (gName 2) (wBin oAdd (wBin oMulA (wC (.int 7919)) (wVar 1)) (wC (.int 11))))
  (wSeq (wIf (wCmp cLt (wVar 1) (wB bLen (wCons (wVar 0) wNil))) (wAsg (gName 2) (wIx (wVar 0) (wVar 1))) (wIf (wCmp cGt (wB bLen (wCons (wVar 0) wNil)) (wC (.int 0))) (wAsg (gName 2) (wBin oAdd (wVar 2) (wBin oMulA (wBin oMod (wIx (wVar 0) (wBin oMod (wVar 1) (wB bLen (wCons (wVar 0) wNil)))) (wC (.int 2147483629))) (wC (.int 69623))))) wPass))
  (wSeq (wAsg (gName 3) (wBin oAdd (wBin oMod (wBin oAdd (wBin oMulA (wBin oMod (wVar 2) (wC (.int 2147483629))) (wC (.int 48271))) (wBin oMulA (wC (.int 40692)) (wVar 1))) (wC (.int 2147483629))) (wC (.int 1))))
  (wRet (wLst (wCons (wIx (wLst (wCons (wC (.int 0)) (wCons (wVar 2) wNil))) (wB bInt (wCons (wOfT (wCmp cGe (wVar 2) (wBin oPow (wC (.int 10)) (wC (.int 18))))) wNil))) (wCons (wVar 3) wNil)))))))
noncomputable def w_6:WF:=wFn 2 4 [0,1]
 (wSeq (wIf (wCmp cGt (wIx (wVar 0) (wC (.int 0))) (wC (.int 0))) (wSeq (wAsg (gName 2) (wBin oMod (wIx (wVar 0) (wC (.int 0))) (wVar 1)))
  (wSeq (wSetIx 0 (wC (.int 0)) (wBin oFdiv (wIx (wVar 0) (wC (.int 0))) (wVar 1)))
  (wRet (wVar 2)))) wPass)
  (wSeq (wAsg (gName 3) (wBin oMod (wBin oMulA (wIx (wVar 0) (wC (.int 1))) (wC (.int 69623))) (wC (.int 2147483647))))
  (wSeq (wSetIx 0 (wC (.int 1)) (wBin oAdd (wBin oMod (wBin oAdd (wBin oMulA (wVar 3) (wC (.int 48271))) (wC (.int 30103))) (wC (.int 2147483629))) (wC (.int 1))))
  (wRet (wBin oMod (wBin oFdiv (wBin oAdd (wBin oMulA (wVar 3) (wC (.int 2147483647))) (wIx (wVar 0) (wC (.int 1)))) (wC (.int 8191))) (wVar 1))))))
noncomputable def w_11_b1:WS:=wSeq (wIf (wtAnd (wCmp cEq (wSl (wVar 1) (some (wVar 2)) (some (wBin oAdd (wVar 2) (wB bLen (wCons (wVar 5) wNil))))) (wSl (wVar 5) none (some (wBin oSub (wB bLen (wCons (wVar 1) wNil)) (wVar 2))))) (wCmp cLe (wBin oAdd (wVar 2) (wB bLen (wCons (wVar 5) wNil))) (wVar 3))) (wExpr (wAppend 4 (wTup (wCons (wVar 5) (wCons (wBin oAdd (wVar 2) (wB bLen (wCons (wVar 5) wNil))) wNil))))) wPass)
  (wIf (wtAnd (wCmp cGe (wVar 2) (wB bLen (wCons (wVar 5) wNil))) (wCmp cEq (wSl (wVar 1) (some (wBin oSub (wVar 2) (wB bLen (wCons (wVar 5) wNil)))) (some (wVar 2))) (wVar 5))) (wExpr (wAppend 4 (wTup (wCons (wVar 5) (wCons (wBin oSub (wVar 2) (wB bLen (wCons (wVar 5) wNil))) wNil))))) wPass)
noncomputable def u_11_b1 {D':Ends} {O:Env}:=uS (D':=D') (O:=O) w_11_b1.eq_1
noncomputable def w_11:WF:=wFn 4 6 [0,1,2,3]
 (wSeq (wAsg (gName 4) (wLst wNil))
  (wSeq (wFor (wIter (wVar 0)) (gName 5) w_11_b1)
  (wRet (wVar 4))))
noncomputable def w_13_c1:WB:=bEmit 5 (wLst wNil)
noncomputable def u_13_c1 {Q:Env->Prop} {E:WX} {O:Env}:=uB (O:=O) (Q:=Q) (E:=E) w_13_c1.eq_1
noncomputable def w_13_b2:WS:=wIf (wCmp cInA (wSl (wVar 1) (some (wVar 3)) (some (wVar 4))) (wVar 0)) (wSeq (wExpr (wAppendAt 2 (wVar 3) (wVar 4)))
  (wExpr (wAppendAt 2 (wVar 4) (wVar 3)))) wPass
noncomputable def u_13_b2 {D':Ends} {O:Env}:=uS (D':=D') (O:=O) w_13_b2.eq_1
noncomputable def w_13_b3:WS:=wFor (wRange2 (wBin oAdd (wVar 3) (wC (.int 1))) (wBin oAdd (wB bLen (wCons (wVar 1) wNil)) (wC (.int 1)))) (gName 4) w_13_b2
noncomputable def u_13_b3 {D':Ends} {O:Env}:=uS (D':=D') (O:=O) w_13_b3.eq_1
noncomputable def w_13_c4:WB:=bEmit 5 (wFrz (wB bSort3 (wCons (wVar 6) wNil)))
noncomputable def u_13_c4 {Q:Env->Prop} {E:WX} {O:Env}:=uB (O:=O) (Q:=Q) (E:=E) w_13_c4.eq_1
noncomputable def w_13:WF:=wFn 2 5 [0,1]
 (wSeq (wAsg (gName 2) (wLC 5 1 (wRange1 (wBin oAdd (wB bLen (wCons (wVar 1) wNil)) (wC (.int 1)))) (gName 6) wYes w_13_c1))
  (wSeq (wFor (wRange1 (wB bLen (wCons (wVar 1) wNil))) (gName 3) w_13_b3)
  (wRet (wLC 5 1 (wIter (wVar 2)) (gName 6) wYes w_13_c4))))
noncomputable def w_14_b1:WS:=wIf (wCmp cNotInA (wVar 5) (wVar 2)) (wSeq (wDput 2 (wVar 5) (wBin oAdd (wIxA (wVar 2) (wVar 4)) (wC (.int 1))))
  (wExpr (wAppend 3 (wVar 5)))) wPass
noncomputable def u_14_b1 {D':Ends} {O:Env}:=uS (D':=D') (O:=O) w_14_b1.eq_1
noncomputable def w_14_b2:WS:=wSeq (wAsg (gName 4) (wFrz (wPopAt 3 (wC (.int 0)))))
  (wFor (wIter (wIx (wVar 0) (wVar 4))) (gName 5) w_14_b1)
noncomputable def u_14_b2 {D':Ends} {O:Env}:=uS (D':=D') (O:=O) w_14_b2.eq_1
noncomputable def w_14_c3:WB:=bEmit 7 (wVar 8)
noncomputable def u_14_c3 {Q:Env->Prop} {E:WX} {O:Env}:=uB (O:=O) (Q:=Q) (E:=E) w_14_c3.eq_1
noncomputable def w_14_b4:WS:=wExpr (wAppend 6 (wFrz (wB bMinL (wCons (wLC 7 1 (wIter (wIx (wVar 0) (wIx (wVar 6) (wUn oNeg (wC (.int 1)))))) (gName 8) (wCmp cEq (wIxA (wVar 2) (wVar 8)) (wBin oSub (wIxA (wVar 2) (wIx (wVar 6) (wUn oNeg (wC (.int 1))))) (wC (.int 1)))) w_14_c3) wNil))))
noncomputable def u_14_b4 {D':Ends} {O:Env}:=uS (D':=D') (O:=O) w_14_b4.eq_1
noncomputable def w_14:WF:=wFn 2 7 [0,1]
 (wSeq (wAsg (gName 2) (wDisp1 (wBin oSub (wB bLen (wCons (wVar 0) wNil)) (wC (.int 1))) (wC (.int 0))))
  (wSeq (wAsg (gName 3) (wLst (wCons (wBin oSub (wB bLen (wCons (wVar 0) wNil)) (wC (.int 1))) wNil)))
  (wSeq (wWhile (wCmp cNe (wVar 3) (wLst wNil)) w_14_b2)
  (wSeq (wIf (wCmp cNotInA (wVar 1) (wVar 2)) (wRet (wTup wNil)) wPass)
  (wSeq (wAsg (gName 6) (wLst (wCons (wVar 1) wNil)))
  (wSeq (wWhile (wCmp cNe (wIx (wVar 6) (wUn oNeg (wC (.int 1)))) (wBin oSub (wB bLen (wCons (wVar 0) wNil)) (wC (.int 1)))) w_14_b4)
  (wRet (wB bTuple (wCons (wVar 6) wNil)))))))))
noncomputable def w_1_b1:WS:=wAsg (gName 2) (wFrz (wCall w_2 [true,true,true] (wCons (wVar 2) (wCons (wVar 3) (wCons (wVar 4) wNil)))))
noncomputable def u_1_b1 {D':Ends} {O:Env}:=uS (D':=D') (O:=O) w_1_b1.eq_1
noncomputable def w_1:WF:=wFn 2 5 [0,1]
 (wSeq (wAsg (gName 2) (wFrz (wB bListA (wCons (wVar 0) wNil))))
  (wSeq (wFor (wIter (wVar 1)) (gTup [gName 3,gName 4]) w_1_b1)
  (wRet (wB bTuple (wCons (wVar 2) wNil)))))
noncomputable def w_7_c1:WB:=bEmit 3 (wFrz (wPopAt 2 (wCall w_6 [true,true] (wCons (wVar 0) (wCons (wB bLen (wCons (wVar 2) wNil)) wNil)))))
noncomputable def u_7_c1 {Q:Env->Prop} {E:WX} {O:Env}:=uB (O:=O) (Q:=Q) (E:=E) w_7_c1.eq_1
noncomputable def w_7:WF:=wFn 2 3 [0,1]
 (wSeq (wAsg (gName 2) (wB bListA (wCons (wC (.str [97,98,99,100,101,102,103,104,105,106,107,108,109,110,111,112,113,114,115,116,117,118,119,120,121,122])) wNil)))
  (wRet (wMS mJoin (wC (.str [])) (wCons (wB bSort3 (wCons (wLC 3 1 (wRange1 (wVar 1)) (gName 4) wYes w_7_c1) wNil)) wNil))))
noncomputable def w_8_c1:WB:=bEmit 4 (wIx (wVar 1) (wCall w_6 [true,true] (wCons (wVar 0) (wCons (wB bLen (wCons (wVar 1) wNil)) wNil))))
noncomputable def u_8_c1 {Q:Env->Prop} {E:WX} {O:Env}:=uB (O:=O) (Q:=Q) (E:=E) w_8_c1.eq_1
noncomputable def w_8:WF:=wFn 3 4 [0,1,2]
 (wSeq (wAsg (gName 3) (wBin oMulA (wCall w_6 [true,true] (wCons (wVar 0) (wCons (wBin oAdd (wVar 2) (wC (.int 1))) wNil))) (wB bInt (wCons (wOfT (wCmp cNe (wVar 1) (wC (.str [])))) wNil))))
  (wRet (wMS mJoin (wC (.str [])) (wCons (wLC 4 1 (wRange1 (wVar 3)) (gName 5) wYes w_8_c1) wNil))))
noncomputable def w_9:WF:=wFn 3 7 [0,1,2]
 (wSeq (wAsg (gName 3) (wIx (wVar 2) (wCall w_6 [true,true] (wCons (wVar 0) (wCons (wB bLen (wCons (wVar 2) wNil)) wNil)))))
  (wSeq (wAsg (gName 4) (wCall w_6 [true,true] (wCons (wVar 0) (wCons (wC (.int 5)) wNil))))
  (wSeq (wAsg (gName 5) (wIx (wVar 1) (wCall w_6 [true,true] (wCons (wVar 0) (wCons (wB bLen (wCons (wVar 1) wNil)) wNil)))))
  (wSeq (wAsg (gName 6) (wCall w_6 [true,true] (wCons (wVar 0) (wCons (wB bLen (wCons (wVar 3) wNil)) wNil))))
  (wRet (wIx (wLst (wCons (wSl (wVar 3) none (some (wBin oAdd (wVar 6) (wC (.int 1))))) (wCons (wSl (wVar 3) (some (wVar 6)) none) (wCons (wBin oAdd (wVar 5) (wVar 3)) (wCons (wBin oAdd (wVar 3) (wVar 5)) (wCons (wBin oAdd (wVar 3) (wVar 3)) wNil)))))) (wVar 4)))))))
noncomputable def w_12_c1:WB:=bEmit 11 (wVar 12)
noncomputable def u_12_c1 {Q:Env->Prop} {E:WX} {O:Env}:=uB (O:=O) (Q:=Q) (E:=E) w_12_c1.eq_1
noncomputable def w_12_b2:WS:=wSeq (wAsg (gName 7) (wFrz (wCall w_11 [true,true,true,true] (wCons (wVar 1) (wCons (wVar 4) (wCons (wVar 5) (wCons (wVar 3) wNil)))))))
  (wSeq (wIf (wCmp cGt (wVar 6) (wC (.int 4))) (wFz 7 (wAsg (gName 7) (wLC 11 1 (wIter (wVar 7)) (gName 12) (wCmp cGt (wIx (wVar 12) (wC (.int 1))) (wVar 5)) w_12_c1))) wPass)
  (wIf (wCmp cNe (wVar 7) (wLst wNil)) (wSeq (wAsg (gTup [gName 8,gName 9]) (wIx (wVar 7) (wCall w_6 [true,true] (wCons (wVar 0) (wCons (wB bLen (wCons (wVar 7) wNil)) wNil)))))
  (wSeq (wIf (wCmp cGt (wVar 9) (wVar 5)) (wAsg (gName 4) (wBin oAdd (wBin oAdd (wSl (wVar 4) none (some (wVar 5))) (wVar 8)) (wSl (wVar 4) (some (wVar 9)) none))) wPass)
  (wAsg (gName 5) (wVar 9)))) wPass))
noncomputable def u_12_b2 {D':Ends} {O:Env}:=uS (D':=D') (O:=O) w_12_b2.eq_1
noncomputable def w_12:WF:=wFn 4 11 [0,1,2,3]
 (wSeq (wAsg (gTup [gName 4,gName 5]) (wTup (wCons (wC (.str [])) (wCons (wC (.int 0)) wNil))))
  (wSeq (wFor (wRange1 (wBin oAdd (wC (.int 1)) (wCall w_6 [true,true] (wCons (wVar 0) (wCons (wC (.int 9)) wNil))))) (gName 6) w_12_b2)
  (wSeq (wIf (wtAnd (wCmp cNe (wVar 4) (wC (.str []))) (wCmp cEq (wCall w_6 [true,true] (wCons (wVar 0) (wCons (wC (.int 5)) wNil))) (wC (.int 0)))) (wSeq (wAsg (gName 10) (wCall w_6 [true,true] (wCons (wVar 0) (wCons (wB bLen (wCons (wVar 4) wNil)) wNil))))
  (wAsg (gName 4) (wBin oAdd (wBin oAdd (wSl (wVar 4) none (some (wVar 10))) (wIx (wVar 2) (wCall w_6 [true,true] (wCons (wVar 0) (wCons (wB bLen (wCons (wVar 2) wNil)) wNil))))) (wSl (wVar 4) (some (wBin oAdd (wVar 10) (wC (.int 1)))) none)))) wPass)
  (wRet (wVar 4)))))
noncomputable def w_16_c1:WB:=bEmit 5 (wVar 6)
noncomputable def u_16_c1 {Q:Env->Prop} {E:WX} {O:Env}:=uB (O:=O) (Q:=Q) (E:=E) w_16_c1.eq_1
noncomputable def w_16_c2:WB:=bEmit 5 (wIx (wVar 0) (wVar 6))
noncomputable def u_16_c2 {Q:Env->Prop} {E:WX} {O:Env}:=uB (O:=O) (Q:=Q) (E:=E) w_16_c2.eq_1
noncomputable def w_16_b3:WS:=wSeq (wAsg (gName 4) (wB bTuple (wCons (wLC 5 1 (wRange1 (wB bLen (wCons (wVar 0) wNil))) (gName 6) (wCmp cEq (wBin oAnd1 (wBin oShr (wVar 3) (wVar 6)) (wC (.int 1))) (wC (.int 1))) w_16_c1) wNil)))
  (wIf (wCmp cNe (wCall w_14 [true,true] (wCons (wFrz (wCall w_13 [true,true] (wCons (wFrz (wLC 5 1 (wIter (wVar 4)) (gName 6) wYes w_16_c2)) (wCons (wVar 1) wNil)))) (wCons (wC (.int 0)) wNil))) (wTup wNil)) (wExpr (wAppend 2 (wTup (wCons (wB bLen (wCons (wVar 4) wNil)) (wCons (wVar 4) wNil))))) wPass)
noncomputable def u_16_b3 {D':Ends} {O:Env}:=uS (D':=D') (O:=O) w_16_b3.eq_1
noncomputable def w_16:WF:=wFn 2 5 [0,1]
 (wSeq (wAsg (gName 2) (wLst wNil))
  (wSeq (wFor (wRange1 (wBin oShl (wC (.int 1)) (wB bLen (wCons (wVar 0) wNil)))) (gName 3) w_16_b3)
  (wRet (wIx (wBin minDf (wVar 2) (wTup (wCons (wC (.int 0)) (wCons (wC .non) wNil)))) (wC (.int 1))))))
noncomputable def w_4_c1:WB:=bEmit 13 (wTup (wCons (wVar 14) (wCons (wVar 15) wNil)))
noncomputable def u_4_c1 {Q:Env->Prop} {E:WX} {O:Env}:=uB (O:=O) (Q:=Q) (E:=E) w_4_c1.eq_1
noncomputable def w_4_b2:WS:=wSeq (wAsg (gName 11) (wFrz (wCall w_1 [true,true] (wCons (wVar 7) (wCons (wVar 6) wNil)))))
  (wSeq (wAsg (gName 12) (wTup (wCons (wBin oAdd (wVar 8) (wVar 5)) (wCons (wBin oAdd (wVar 9) (wC (.int 1))) (wCons (wBin oAdd (wVar 10) (wTup (wCons (wVar 4) wNil))) wNil)))))
  (wIf (wtOr (wCmp cNotInA (wVar 11) (wVar 3)) (wCmp cLtT (wVar 12) (wIxA (wVar 3) (wVar 11)))) (wDput 3 (wVar 11) (wVar 12)) wPass))
noncomputable def u_4_b2 {D':Ends} {O:Env}:=uS (D':=D') (O:=O) w_4_b2.eq_1
noncomputable def w_4_b3:WS:=wSeq (wFz 6 (wAsg (gName 6) (wLC 13 3 (wIter (wCall w_0 [true,true] (wCons (wVar 0) (wCons (wVar 1) wNil)))) (gTup [gName 14,gName 15,gName 16]) (wCmp cEq (wVar 16) (wVar 4)) w_4_c1)))
  (wFor (wIter (wListIt 3)) (gTup [gName 7,gTup [gName 8,gName 9,gName 10]]) w_4_b2)
noncomputable def u_4_b3 {D':Ends} {O:Env}:=uS (D':=D') (O:=O) w_4_b3.eq_1
noncomputable def w_4_c4:WB:=bEmit 13 (wVar 15)
noncomputable def u_4_c4 {Q:Env->Prop} {E:WX} {O:Env}:=uB (O:=O) (Q:=Q) (E:=E) w_4_c4.eq_1
noncomputable def w_4:WF:=wFn 3 13 [0,1,2]
 (wSeq (wAsg (gName 3) (wDispT (wTupI (wRange1 (wBin oAdd (wB bLen (wCons (wVar 1) wNil)) (wC (.int 1))))) (wTup (wCons (wC (.int 0)) (wCons (wC (.int 0)) (wCons (wTup wNil) wNil))))))
  (wSeq (wFor (wEnum (wVar 2)) (gTup [gName 4,gName 5]) w_4_b3)
  (wRet (wBin minDf (wLC 13 2 (wItemsT 3) (gTup [gName 14,gName 15]) (wCmp cEq (wIx (wVar 14) (wUn oNeg (wC (.int 1)))) (wC (.int 0))) w_4_c4) (wC .non)))))
noncomputable def w_10_b1:WS:=wSeq (wAsg (gName 6) (wBin oAdd (wIx (wVar 1) (wCall w_6 [true,true] (wCons (wVar 0) (wCons (wB bLen (wCons (wVar 1) wNil)) wNil)))) (wCall w_8 [true,true,true] (wCons (wVar 0) (wCons (wVar 1) (wCons (wBin oSub (wVar 3) (wC (.int 1))) wNil))))))
  (wSeq (wIf (wtAnd (wCmp cNe (wVar 4) (wLst wNil)) (wCmp cEq (wCall w_6 [true,true] (wCons (wVar 0) (wCons (wC (.int 2)) wNil))) (wC (.int 0)))) (wAsg (gName 6) (wSl (wCall w_9 [true,true,true] (wCons (wVar 0) (wCons (wVar 1) (wCons (wVar 4) wNil)))) none (some (wVar 3)))) wPass)
  (wIf (wCmp cNotInA (wVar 6) (wVar 4)) (wExpr (wAppend 4 (wVar 6))) wPass))
noncomputable def u_10_b1 {D':Ends} {O:Env}:=uS (D':=D') (O:=O) w_10_b1.eq_1
noncomputable def w_10:WF:=wFn 4 7 [0,1,2,3]
 (wSeq (wAsg (gName 4) (wLst wNil))
  (wSeq (wFor (wRange1 (wBin oMulA (wCall w_6 [true,true] (wCons (wVar 0) (wCons (wBin oAdd (wVar 2) (wC (.int 1))) wNil))) (wB bInt (wCons (wOfT (wCmp cNe (wVar 1) (wC (.str [])))) wNil)))) (gName 5) w_10_b1)
  (wRet (wB bTuple (wCons (wVar 4) wNil)))))
noncomputable def w_3_c1:WB:=bEmit 3 (wC (.int 1))
noncomputable def u_3_c1 {Q:Env->Prop} {E:WX} {O:Env}:=uB (O:=O) (Q:=Q) (E:=E) w_3_c1.eq_1
noncomputable def w_3:WF:=wFn 2 3 [0,1]
 (wSeq (wAsg (gName 2) (wFrz (wCall w_4 [true,true,true] (wCons (wVar 0) (wCons (wVar 1) (wCons (wFrz (wLC 3 1 (wIter (wVar 0)) (gName 4) wYes w_3_c1)) wNil))))))
  (wRet (wIfE (wCmp cIs (wVar 2) (wC .non)) (wC .non) (wIx (wVar 2) (wC (.int 2))))))
noncomputable def w_15_c1:WB:=bEmit 7 (wIx (wVar 4) (wCall w_6 [true,true] (wCons (wVar 0) (wCons (wB bLen (wCons (wVar 4) wNil)) wNil))))
noncomputable def u_15_c1 {Q:Env->Prop} {E:WX} {O:Env}:=uB (O:=O) (Q:=Q) (E:=E) w_15_c1.eq_1
noncomputable def w_15:WF:=wFn 3 7 [0,1,2]
 (wSeq (wAsg (gName 3) (wCall w_7 [true,true] (wCons (wVar 0) (wCons (wBin oAdd (wC (.int 1)) (wCall w_6 [true,true] (wCons (wVar 0) (wCons (wVar 1) wNil)))) wNil))))
  (wSeq (wAsg (gName 4) (wFrz (wCall w_10 [true,true,true,true] (wCons (wVar 0) (wCons (wVar 3) (wCons (wC (.int 6)) (wCons (wVar 2) wNil)))))))
  (wSeq (wAsg (gName 5) (wCall w_6 [true,true] (wCons (wVar 0) (wCons (wC (.int 5)) wNil))))
  (wSeq (wAsg (gName 6) (wFrz (wCall w_12 [true,true,true,true] (wCons (wVar 0) (wCons (wVar 4) (wCons (wVar 3) (wCons (wC (.int 12)) wNil)))))))
  (wSeq (wIf (wCmp cEq (wVar 5) (wC (.int 0))) (wAsg (gName 6) (wCall w_8 [true,true,true] (wCons (wVar 0) (wCons (wVar 3) (wCons (wC (.int 12)) wNil))))) wPass)
  (wSeq (wIf (wtAnd (wCmp cEq (wVar 5) (wC (.int 1))) (wCmp cNe (wVar 4) (wTup wNil))) (wAsg (gName 6) (wSl (wMS mJoin (wC (.str [])) (wCons (wLC 7 1 (wRange1 (wCall w_6 [true,true] (wCons (wVar 0) (wCons (wC (.int 5)) wNil)))) (gName 8) wYes w_15_c1) wNil)) none (some (wC (.int 12))))) wPass)
  (wRet (wTup (wCons (wVar 4) (wCons (wVar 6) (wCons (wVar 3) wNil)))))))))))
noncomputable def w_17:WF:=wFn 2 2 [0,1]
 (wRet (wOfT (wReprEq true (wCall w_3 [true,true] (wCons (wVar 0) (wCons (wVar 1) wNil))) (wCall w_16 [true,true] (wCons (wVar 0) (wCons (wVar 1) wNil))))))
noncomputable def w_18_b1:WS:=wSeq (wAsg (gTup [gName 3,gName 4,gName 5]) (wCall w_15 [true,true,true] (wCons (wCall w_5 [true,true] (wCons (wVar 0) (wCons (wVar 2) wNil))) (wCons (wC (.int 5)) (wCons (wC (.int 6)) wNil)))))
  (wAsg (gName 1) (wFrz (wBin oAdd (wVar 1) (wLst (wCons (wTup (wCons (wVar 3) (wCons (wVar 4) wNil))) (wCons (wTup (wCons (wSl (wVar 3) none (some (wC (.int 3)))) (wCons (wC (.str [])) wNil))) wNil))))))
noncomputable def u_18_b1 {D':Ends} {O:Env}:=uS (D':=D') (O:=O) w_18_b1.eq_1
noncomputable def w_18_c2:WB:=bEmit 6 (wFrz (wCall w_17 [true,true] (wCons (wVar 7) (wCons (wVar 8) wNil))))
noncomputable def u_18_c2 {Q:Env->Prop} {E:WX} {O:Env}:=uB (O:=O) (Q:=Q) (E:=E) w_18_c2.eq_1
noncomputable def w_18:WF:=wFn 1 6 [0]
 (wSeq (wAsg (gName 1) (wFrz (wLst wNil)))
  (wSeq (wFor (wRange1 (wB bMax (wCons (wC (.int 3)) (wCons (wB bMin (wCons (wB bLen (wCons (wVar 0) wNil)) (wCons (wC (.int 6)) wNil))) wNil)))) (gName 2) w_18_b1)
  (wRet (wB bAll (wCons (wLC 6 2 (wIter (wBin oAdd (wVar 1) (wSl (wVar 1) none (some (wC (.int 1)))))) (gTup [gName 7,gName 8]) wYes w_18_c2) wNil)))))
end Law
end
end
section
namespace Law
open FL
variable {P:S->List S->Prop} {PX:D->List S->Prop}
set_option hygiene false in
local macro_rules
 | `(tactic| simp! [$xs,*] $[$l:location]?)=>do
   let ls <- ("e_C e_V zqD zmA zmL e_Un zps zpI e_Ck zqq zoq zmg zq4 znd zmY e_Or zqx zp2 zp6 znu zo1 zml zn8 zpo zn7 zla zlg zqV e_gA zrn zpj e_gv e_gl zrp zqF zmE znf zpe znI zn9 e_l0 e_l1 e_l2 e_l3 e_l5 e_vv e_vl e_cv e_cl znZ e_sh zap zqE e_Ix zqK zqh zos zlV zph zpq zpl zoY zqX zrc zqR zpJ zpx zrk zpt e_p0 e_pv e_pl zq7 e_pA e_b0 e_bv e_bl zor zlB zkN zmJ zoJ e_vA zp8 e_B e_B1 e_B2 e_MS zqb zqZ e_Ap zpE zqj zqm zq2 zpn zn4 znk e_Di zoL zoO zpb znz zo8 e_Pt zro zqi e_Sl zrh zqW zpu zq0 e_nx e_rt e_ex znD zpd e_If zqk zqH zoZ znb zk1 zp4 zmM zni e_gN e_gT zoS zpX zpr zpf zq8 zoc zl1 znC zm1 zlT zlJ e_Dp zpY zoA zqr zqS zqt znj e_It zrl zpQ zoT zoI zqu e_En zqI zoN zo2 e_R1 zqC zp7 e_R2 zql zpR zqs zqY zl8 e_LC zqo zpP zmt zpp zl0 zpV e_Em zo7 zp0 zqB e_bF zrj zoF zqe e_Rt zo6 zpv e_Fn e_f0 e_fs e_fl e_fA zpF znv znY znM zpO zmu zoV zmG zpA zoE e_lt e_gt e_le e_ge zoo zoD znE zri zlY znN zmj zlU zmr zmi zon zpM zoP zp9 zpz zq9 zpH zqg zp3 zpa zqL zpB zqv zpm zqw zpK zqN zpg zq6 zrm zrg zqM zpi zo9 zqP zpS zpD zqa zrb zqJ zra zoH zqf zoC zoG zq5 zq1 zqd zre zpk zmc zmx znw zl9 zoh zmS zmT zol zmW zmq zl3 zmH zom znc zmf znJ zl2 zn3 zn6 zp5 zoM zn1 e_AA zpN zpT zo5 zqQ zpU zpW zof zmP zrf znG zny zoK e_XA zqO zpC zoQ zpL zfb e_TI zpZ e_Re zqz zqU zo4 zpy zop e_Dt zqn zqc zqy zp1 znr zoX znU zo0 zoB zhr zma zmz znm znh map_some S.toD_sh S.toD_lst map_cons map_nil cons_append nil_append List.replicate_succ List.replicate_zero Nat.reduceSub Nat.reduceAdd append_nil List.take_succ_cons take_zero true_and S.toDs_map S.toD_dct Int.reduceEq Int.reduceLT Int.reduceLE decide_true decide_false Bool.not_true Bool.not_false".splitOn " ").toArray.mapM fun n=>`(Lean.Parser.Tactic.simpLemma| $(Lean.mkIdent n.toName):ident)
   let ls:=ls++xs.getElems
   `(tactic| simp -implicitDefEqProofs (disch:=first | omega | decide | rfl | (simp only [length_map,length_append,length_cons,length_nil,length_range,zah]; omega) | (simp only [length_map,length_append,length_cons,length_nil,length_range,zah]; done)) only [$ls,*] $[$l:location]?)
noncomputable section pu
noncomputable def box (a s:Int):S:=.lst [.sh (.int a),.sh (.int s)]
theorem zal {a s m:Int} (ha:0<=a) (hs:1<=s) (hs2:s<=2147483629) (hm:0 < m) (hm2:m < 18446744073709551616)
  (h:∀ r a' s',0<=r->r < m->0<=a'->1<=s'->s'<=2147483629->P (.sh (.int r)) [box a' s',.sh (.int m)]):w_6 [box a s,.sh (.int m)] P PX:=by
 refine za5 rfl rfl ?_
 simp! [box]
 cases hc:decide (0 < a)
 ·simp! [e_C]
  exact h _ _ _ (Int.emod_nonneg _ (by lia)) (Int.emod_lt_of_pos _ hm) ha (by lia) (by lia)
 ·simp! [e_C]
  exact h _ _ _ (Int.emod_nonneg _ (by lia)) (Int.emod_lt_of_pos _ hm) (Int.ediv_nonneg ha (by lia)) hs hs2
theorem zjz {ns:List Int} {k:Int} (hk:0<=k)
  (h:∀ a s,0<=a->1<=s->s<=2147483629->P (box a s) [.sh (.lst (ns.map .int)),.sh (.int k)]):w_5 [.sh (.lst (ns.map .int)),.sh (.int k)] P PX:=by
 refine za5 rfl rfl ?_
 simp! [length_map]
 by_cases h1:k < ns.length
 ·obtain ⟨v,hv,_,e⟩:=zcJ (f:=D.int) hk h1
  simp! [length_map,h1,decide_true,e]
  cases hc:decide ((10:Int) ^ (18:Int).toNat<=v)
  ·simp! [if_true,false_eq_true,if_false]
   exact h _ _ (by decide) (by lia) (by lia)
  ·simp! [if_true]
   have:(0:Int)<=v:=by
    have:=of_decide_eq_true hc
    have e:(10:Int) ^ (18:Int).toNat=1000000000000000000:=by decide
    lia
   exact h _ _ this (by lia) (by lia)
 ·by_cases h2:0 < ns.length
  ·have hp:(0:Int) < ns.length:=by lia
   obtain ⟨v,hv,_,e⟩:=zcJ (f:=D.int) (l:=ns) (z:=k % ns.length) (Int.emod_nonneg _ (by lia)) (Int.emod_lt_of_pos _ hp)
   simp! [length_map,h1,hp,decide_true,decide_false,e]
   generalize 7919 * k + 11 + v % 2147483629 * 69623=cell
   cases hc:decide ((10:Int) ^ (18:Int).toNat<=cell)
   ·simp! [if_true,false_eq_true,if_false]
    exact h _ _ (by decide) (by lia) (by lia)
   ·simp! [if_true]
    have:(0:Int)<=cell:=by
     have:=of_decide_eq_true hc
     have e:(10:Int) ^ (18:Int).toNat=1000000000000000000:=by decide
     lia
    exact h _ _ this (by lia) (by lia)
  ·have hp:¬ (0:Int) < ns.length:=by lia
   simp! [length_map,h1,hp,decide_true,decide_false]
   generalize 7919 * k + 11=cell
   cases hc:decide ((10:Int) ^ (18:Int).toNat<=cell)
   ·simp! [if_true,false_eq_true,if_false]
    exact h _ _ (by decide) (by lia) (by lia)
   ·simp! [if_true]
    have:(0:Int)<=cell:=by
     have:=of_decide_eq_true hc
     have e:(10:Int) ^ (18:Int).toNat=1000000000000000000:=by decide
     lia
    exact h _ _ this (by lia) (by lia)
noncomputable def letters:List Nat:=[97,98,99,100,101,102,103,104,105,106,107,108,109,110,111,112,113,114,115,116,117,118,119,120,121,122]
theorem zjF {Q:Env->Prop} {E:WX} {m:Int}:∀ (xs:List D) (a s:Int) (L A:List Nat) (o:Option S),xs.length<=L.length->0<=a->1<=s->s<=2147483629->(A++L).Perm letters->
  (∀ a' s' (L' A':List Nat) o',0<=a'->1<=s'->s'<=2147483629->A'.length=A.length + xs.length->(A'++L').Perm letters->Q [some (box a' s'),some (.sh (.int m)),some (.lst ((L'.map sg).map .sh)),some (.lst ((A'.map sg).map .sh)),o'])->
  bLoop (gName 4) wYes w_7_c1 xs [some (box a s),some (.sh (.int m)),some (.lst ((L.map sg).map .sh)),some (.lst ((A.map sg).map .sh)),o] Q E:=by
 intro xs
 induction xs with
 | nil=>
   intro a s L A o h1 ha hs hs2 hnd h
   exact h a s L A o ha hs hs2 (by simp) hnd
 | cons x xs ih=>
   intro a s L A o h1 ha hs hs2 hnd h
   have hlen:=hnd.length_eq
   have h26:letters.length=26:=rfl
   simp only [length_cons,length_append] at h1 h hlen
   rw [e_bL]
   simp! [u_7_c1,e_sh,zap,box,length_map]
   refine zal ha hs hs2 ?_ ?_ fun r a' s' hr hr2 ha' hs' hs2'=>?_
   ·lia
   ·lia
   simp! [e_sh,zap,box,length_map]
   obtain ⟨c,hc,hg,_⟩:=zd8 (l:=L) hr hr2
   refine zkg hr (by simp only [length_map,zah]; lia) (zgn (d:=sg c) (by rw [getElem?_map,hg]; rfl)) ?_
   simp! [e_sh,zap,box,length_map]
   refine ⟨by simp only [zah]; lia,?_⟩
   have e1:((L.map sg).map S.sh).eraseIdx r.toNat=((L.eraseIdx r.toNat).map sg).map S.sh:=by rw [zcG,zcG]
   have e2:((A.map sg).map S.sh)++[S.sh (sg c)]=(((A++[c]).map sg).map S.sh):=by simp
   rw [e1,e2]
   have hlt:r.toNat < L.length:=by lia
   have hl:(L.eraseIdx r.toNat).length=L.length - 1:=List.length_eraseIdx_of_lt hlt
   have hgc:L[r.toNat]=c:=by rw [qi hlt] at hg; exact qg hg
   have hperm:(A++[c]++L.eraseIdx r.toNat).Perm (A++L):=by
    rw [append_assoc]
    refine List.Perm.append_left A ?_
    have:=zc8 L r.toNat hlt
    rw [hgc] at this
    exact this
   refine ih a' s' _ _ _ (by lia) ha' hs' hs2' (hperm.trans hnd) fun a2 s2 L' A' o' x1 x2 x3 x4 x5=>h a2 s2 L' A' o' x1 x2 x3 (by rw [x4]; simp only [length_append,length_singleton]; lia) x5
theorem zef {a s m:Int} (ha:0<=a) (hs:1<=s) (hs2:s<=2147483629) (hm:0<=m) (hm2:m<=26)
  (h:∀ (l:List Nat) a' s',l.length=m.toNat->l.Pairwise (· < ·)->(∀ c∈l,97<=c/\c<=122)->0<=a'->1<=s'->s'<=2147483629->P (.sh (.str l)) [box a' s',.sh (.int m)]):w_7 [box a s,.sh (.int m)] P PX:=by
 refine za5 rfl rfl ?_
 simp! [box,e_sh,zap]
 refine ⟨by simp only [zah]; lia,?_⟩
 have hf:(fromTo 0 m.toNat).length=m.toNat:=zaI
 have h26:letters.length=26:=rfl
 refine zjF (fromTo 0 m.toNat) a s letters [] none (by rw [hf,h26]; lia) ha hs hs2 (List.Perm.refl _)
  fun a' s' L' A' o' ha' hs' hs2' hA hpm=>?_
 rw [hf,length_nil,Nat.zero_add] at hA
 have hnd:A'.Nodup:=(nodup_append.mp (hpm.nodup_iff.mpr (by decide))).1
 have hle:∀ c∈A',97<=c/\c<=122:=fun c hc=>by
  have:c∈letters:=hpm.mem_iff.mp (qk _ hc)
  have hall:∀ c∈letters,97<=c/\c<=122:=by decide
  exact hall c this
 obtain ⟨A2,hp,hso,e⟩:=zlv (A:=A') (by lia)
 have hl:A2.length=m.toNat:=hp.length_eq.trans hA
 simp! [box,e_sh,zap,e,ziI (show A2.length<=big by simp only [zah]; lia)]
 exact h A2 a' s' hl (zhb hso (hp.nodup_iff.mpr hnd)) (fun c hc=>hle c (hp.mem_iff.mp hc)) ha' hs' hs2'
theorem zia {Q:Env->Prop} {E:WX} {m many:Int} {col:List Nat} (hc:0 < col.length) (hc2:col.length<=26):∀ (xs:List D) (a s:Int) (A:List Nat) (o:Option S),0<=a->1<=s->s<=2147483629->A.length + xs.length<=1000->
  (∀ a' s' (A':List Nat) o',0<=a'->1<=s'->s'<=2147483629->A'.length=A.length + xs.length->(∀ z∈A',z∈A\/z∈col)->Q [some (box a' s'),some (.sh (.str col)),some (.sh (.int m)),some (.sh (.int many)),some (.lst ((A'.map sg).map .sh)),o'])->
  bLoop (gName 5) wYes w_8_c1 xs [some (box a s),some (.sh (.str col)),some (.sh (.int m)),some (.sh (.int many)),some (.lst ((A.map sg).map .sh)),o] Q E:=by
 intro xs
 induction xs with
 | nil=>
   intro a s A o ha hs hs2 h3 h
   exact h a s A o ha hs hs2 (by simp) fun z hz=>.inl hz
 | cons x xs ih=>
   intro a s A o ha hs hs2 h3 h
   simp only [length_cons] at h3 h
   rw [e_bL]
   simp! [u_8_c1,e_sh,zap,box,length_map]
   refine zal ha hs hs2 (by lia) (by lia) fun r a' s' hr hr2 ha' hs' hs2'=>?_
   obtain ⟨c,hcm,_,e⟩:=zd8 (l:=col) hr hr2
   simp! [e,e_sh,zap,box,length_map]
   refine ⟨by simp only [zah]; lia,?_⟩
   have e2:((A.map sg).map S.sh)++[S.sh (.str [c])]=(((A++[c]).map sg).map S.sh):=by simp [sg]
   rw [e2]
   refine ih a' s' _ _ ha' hs' hs2' (by simp only [length_append,length_singleton]; lia) fun a2 s2 A' o' x1 x2 x3 x4 x5=>h a2 s2 A' o' x1 x2 x3 (by rw [x4]; simp only [length_append,length_singleton]; lia) fun z hz=>?_
   rcases x5 z hz with q | q
   ·rcases mem_append.mp q with q | q
    ·exact .inl q
    ·rw [mem_singleton.mp q]; exact .inr hcm
   ·exact .inr q
theorem zeb {a s m:Int} {col:List Nat} (ha:0<=a) (hs:1<=s) (hs2:s<=2147483629) (hm:0<=m) (hm2:m<=900) (hc:0 < col.length) (hc2:col.length<=26)
  (h:∀ (l:List Nat) a' s',l.length<=m.toNat->(∀ z∈l,z∈col)->0<=a'->1<=s'->s'<=2147483629->P (.sh (.str l)) [box a' s',.sh (.str col),.sh (.int m)]):w_8 [box a s,.sh (.str col),.sh (.int m)] P PX:=by
 refine za5 rfl rfl ?_
 simp! [box,e_sh,zap]
 refine zal ha hs hs2 (by lia) (by lia) fun r a1 s1 hr hr2 ha1 hs1 hs21=>?_
 have hne:(decide (col=[]))=false:=by simp; intro z; rw [z] at hc; simp at hc
 simp! [box,e_sh,zap,hne,Bool.not_false,if_true,mul_one]
 refine ⟨by simp only [zah]; lia,?_⟩
 have hf:(fromTo 0 r.toNat).length=r.toNat:=zaI
 refine zia (A:=[]) hc hc2 _ a1 s1 none ha1 hs1 hs21 (by rw [hf]; simp only [length_nil]; lia) fun a' s' A' o' ha' hs' hs2' hA hg=>?_
 rw [hf,length_nil,Nat.zero_add] at hA
 simp! [box,e_sh,zap]
 rw [ziI (by simp only [zah]; lia)]
 simp! [box,e_sh,zap]
 exact h A' a' s' (by lia) (fun z hz=>(hg z hz).resolve_left (by simp)) ha' hs' hs2'
theorem ziU {a s:Int} {col:List Nat} {B:List Wd} (ha:0<=a) (hs:1<=s) (hs2:s<=2147483629) (hc:0 < col.length) (hc2:col.length<=26) (hB:0 < B.length) (hB2:B.length<=1000) (hw:∀ w∈B,w≠[]/\w.length<=1000/\∀ c∈w,c∈col)
  (h:∀ (w:Wd) a' s',w≠[]->w.length<=2000->(∀ c∈w,c∈col)->0<=a'->1<=s'->s'<=2147483629->P (.sh (.str w)) [box a' s',.sh (.str col),.lst ((B.map D.str).map .sh)]):w_9 [box a s,.sh (.str col),.lst ((B.map D.str).map .sh)] P PX:=by
 refine za5 rfl rfl ?_
 simp! [box,e_sh,zap,length_map]
 refine zal ha hs hs2 (by lia) (by lia) fun r a1 s1 hr hr2 ha1 hs1 hs21=>?_
 obtain ⟨w,hwm,_,e⟩:=zcJ (f:=fun z=>S.sh (D.str z)) (l:=B) hr hr2
 have e':atI ((B.map D.str).map S.sh) r=some (S.sh (.str w)):=by rw [map_map]; exact e
 obtain ⟨hw1,hw2,hw3⟩:=hw w hwm
 have hwl:0 < w.length:=length_pos_iff.mpr hw1
 simp! [box,e']
 refine zal ha1 hs1 hs21 (by decide) (by decide) fun kd a2 s2 hk0 hk1 ha2 hs2 hs22=>?_
 simp! [box]
 refine zal ha2 hs2 hs22 (by lia) (by lia) fun r3 a3 s3 hr3 hr32 ha3 hs3 hs23=>?_
 obtain ⟨c,hcm,_,ec⟩:=zd8 (l:=col) hr3 hr32
 simp! [box,ec]
 refine zal ha3 hs3 hs23 (by lia) (by lia) fun p a4 s4 hp0 hp1 ha4 hs4 hs24=>?_
 simp! [box]
 rw [zhP w (by lia) (by lia),zej w hp0]
 have hkd:kd=0\/kd=1\/kd=2\/kd=3\/kd=4:=by lia
 rcases hkd with rfl | rfl | rfl | rfl | rfl
 ·simp! [box]
  refine h _ _ _ ?_ ?_ (fun c hc=>hw3 c (List.mem_of_mem_take hc)) ha4 hs4 hs24
  ·intro z
   have:=congrArg List.length z
   rw [length_take,length_nil] at this
   lia
  ·rw [length_take]; lia
 ·simp! [box]
  refine h _ _ _ ?_ ?_ (fun c hc=>hw3 c (List.mem_of_mem_drop hc)) ha4 hs4 hs24
  ·intro z
   have:=congrArg List.length z
   rw [length_drop,length_nil] at this
   lia
  ·rw [length_drop]; lia
 ·simp! [box]
  refine h _ _ _ (by simp) (by simp; lia) (fun x hx=>?_) ha4 hs4 hs24
  rcases mem_cons.mp hx with rfl | hx
  ·exact hcm
  ·exact hw3 x hx
 ·simp! [box]
  refine h _ _ _ (by simp) (by simp; lia) (fun x hx=>?_) ha4 hs4 hs24
  rcases mem_append.mp hx with hx | hx
  ·exact hw3 x hx
  ·rw [mem_singleton.mp hx]; exact hcm
 ·simp! [box]
  refine h _ _ _ (by simp [hw1]) (by simp; lia) (fun x hx=>?_) ha4 hs4 hs24
  rcases mem_append.mp hx with hx | hx <;> exact hw3 x hx
noncomputable def goodB (col:List Nat) (many most:Nat) (B:List Wd):Prop:=B.length<=many/\B.Nodup/\∀ w∈B,w≠[]/\w.length<=most/\∀ c∈w,c∈col
noncomputable def boardD (B:List Wd):D:=.tup (B.map D.str)
theorem zgp {a s many most:Int} {col:List Nat} (ha:0<=a) (hs:1<=s) (hs2:s<=2147483629) (hc:0 < col.length) (hc2:col.length<=26) (hm:0<=many) (hm2:many<=500) (ho:1<=most) (ho2:most<=500)
  (h:∀ (B:List Wd) a' s',goodB col many.toNat most.toNat B->0<=a'->1<=s'->s'<=2147483629->P (.sh (boardD B)) [box a' s',.sh (.str col),.sh (.int many),.sh (.int most)]):w_10 [box a s,.sh (.str col),.sh (.int many),.sh (.int most)] P PX:=by
 refine za5 rfl rfl ?_
 simp! [box]
 refine zal ha hs hs2 (by lia) (by lia) fun r a1 s1 hr hr2 ha1 hs1 hs21=>?_
 have hne:(decide (col=[]))=false:=by simp; intro z; rw [z] at hc; simp at hc
 simp! [box,hne,if_true,mul_one]
 refine ⟨by simp only [zah]; lia,?_⟩
 refine lpn (fun k O=>∃ (a s:Int) (B:List Wd) (o5 o6:Option S),0<=a/\1<=s/\s<=2147483629/\goodB col k most.toNat B/\O=[some (box a s),some (.sh (.str col)),some (.sh (.int many)),some (.sh (.int most)),some (.lst ((B.map D.str).map .sh)),o5,o6]) _ (fun k x hk D2 O hI hnx hct hrt hbk=>?_) (fun O hI=>?_) ⟨a1,s1,[],none,none,ha1,hs1,hs21,⟨by simp,by simp,by simp⟩,rfl⟩
 ·obtain ⟨a,s,B,o5,o6,ha,hs,hs2,hB,rfl⟩:=hI
  have hkl:=(qh.mp hk).1
  rw [zaI] at hkl
  obtain ⟨hB1,hB2,hB3⟩:=hB
  simp! [box,u_10_b1]
  refine zal ha hs hs2 (by lia) (by lia) fun r3 a2 s2 hr3 hr32 ha2 hs2 hs22=>?_
  obtain ⟨c,hcm,_,ec⟩:=zd8 (l:=col) hr3 hr32
  simp! [box,ec]
  refine zeb ha2 hs2 hs22 (by lia) (by lia) hc hc2 fun w a3 s3 hw1 hw2 ha3 hs3 hs23=>?_
  -- what is done with a word
  have put:∀ (w:Wd) (a s:Int),0<=a->1<=s->s<=2147483629->w≠[]->w.length<=most.toNat->(∀ c∈w,c∈col)->
    (wIf (wCmp cNotInA (wVar 6) (wVar 4)) (wExpr (wAppend 4 (wVar 6))) wPass) D2 [some (box a s),some (.sh (.str col)),some (.sh (.int many)),some (.sh (.int most)),some (.lst ((B.map D.str).map .sh)),some (.sh x),some (.sh (.str w))]:=fun w a s ha hs hs2 h1 h2 h3=>by
   simp! [box,zap,zgg]
   cases q:decide (w∈B)
   ·simp! [length_map]
    rw [show ((B.map D.str).map S.sh)++[S.sh (.str w)]=((B++[w]).map D.str).map S.sh by simp]
    refine ⟨by simp only [zah]; lia,hnx _ ⟨a,s,_,_,_,ha,hs,hs2,⟨by simp only [length_append,length_singleton]; lia,?_,fun x hx=>?_⟩,rfl⟩⟩
    ·refine nodup_append.mpr ⟨hB2,by simp,fun x hx y hy e=>?_⟩
     rw [mem_singleton.mp hy] at e
     subst e
     have:=of_decide_eq_false q
     exact this hx
    ·rcases mem_append.mp hx with z | z
     ·exact hB3 x z
     ·rw [mem_singleton.mp z]; exact ⟨h1,h2,h3⟩
   ·simp! [e_C]
    exact hnx _ ⟨a,s,B,_,_,ha,hs,hs2,⟨by lia,hB2,hB3⟩,rfl⟩
  have hword:([c]++w)≠[]/\([c]++w).length<=most.toNat/\∀ x∈[c]++w,x∈col:=by
   refine ⟨by simp,by simp; lia,fun x hx=>?_⟩
   rcases mem_append.mp hx with z | z
   ·rw [mem_singleton.mp z]; exact hcm
   ·exact hw2 x z
  simp! [box,zap,zjp,length_cons,length_nil]
  cases q:decide (B=[])
  ·simp! [box]
   refine zal ha3 hs3 hs23 (by decide) (by decide) fun r4 a4 s4 hr4 hr42 ha4 hs4 hs24=>?_
   simp! [box]
   cases q2:decide (r4=0)
   ·simp! [e_C]
    have:=put _ a4 s4 ha4 hs4 hs24 hword.1 hword.2.1 hword.2.2
    simp! [box] at this
    exact this
   ·simp! [box]
    refine ziU ha4 hs4 hs24 hc hc2 (length_pos_iff.mpr (of_decide_eq_false q)) (by lia) (fun w hw=>⟨(hB3 w hw).1,by have:=(hB3 w hw).2.1; lia,(hB3 w hw).2.2⟩) fun w2 a5 s5 hn hl hm5 ha5 hs5 hs25=>?_
    simp! [box]
    have hw2l:0 < w2.length:=length_pos_iff.mpr hn
    have:=put (cutL w2 none (some most)) a5 s5 ha5 hs5 hs25 (fun z=>?_) ?_ fun c hc=>hm5 c (zaV hc)
    ·simp! [box] at this
     exact this
    ·have z2:=congrArg List.length z
     unfold cutL sIx at z2
     have:¬ most < 0:=by lia
     simp only [if_neg this,drop_zero,sub_zero,length_take,length_nil] at z2
     lia
    ·unfold cutL sIx
     have:¬ most < 0:=by lia
     simp only [if_neg this,drop_zero,sub_zero,length_take]
     lia
  ·simp! [e_C]
   have:=put _ a3 s3 ha3 hs3 hs23 hword.1 hword.2.1 hword.2.2
   simp! [box] at this
   exact this
 ·obtain ⟨a,s,B,o5,o6,ha,hs,hs2,hB,rfl⟩:=hI
  rw [zaI] at hB
  simp! [box,zap]
  exact h B a s ⟨by have:=hB.1; lia,hB.2⟩ ha hs hs2
abbrev Mv:=Wd×Int
noncomputable def mvD (m:Mv):D:=.tup [.str m.1,.int m.2]
theorem zlh (l:List Mv):deps (l.map mvD)<=29:=zeU _ fun d hd=>by
 obtain ⟨m,_,rfl⟩:=mem_map.mp hd
 show 1<=29
 decide
theorem zoR {l:List Mv}:cNe (.lst (l.map mvD)) (.lst [])=some (!l.isEmpty):=by rw [zfi (zlh l),List.isEmpty_map]
theorem zgA {B:List Wd} {t:Wd} {p most:Int} (hB:B.length<=1000) (ht:t.length<=1000) (hp:0<=p) (hp2:p<=most)
  (h:∀ ms:List Mv,ms.length<=2000->(∀ m∈ms,m.1∈B/\0<=m.2/\m.2<=most/\(m.2=p + m.1.length\/m.2<=p))->P (.lst ((ms.map mvD).map .sh)) [.sh (boardD B),.sh (.str t),.sh (.int p),.sh (.int most)]):w_11 [.sh (boardD B),.sh (.str t),.sh (.int p),.sh (.int most)] P PX:=by
 refine za5 rfl rfl ?_
 simp! [boardD]
 refine zbd (fun pre O=>∃ (ms:List Mv) (o:Option S),ms.length<=2 * pre.length/\(∀ m∈ms,m.1∈B/\0<=m.2/\m.2<=most/\(m.2=p + m.1.length\/m.2<=p))/\O=[some (.sh (boardD B)),some (.sh (.str t)),some (.sh (.int p)),some (.sh (.int most)),some (.lst ((ms.map mvD).map .sh)),o]) B (fun pre w post D2 O e hI hnx hct hrt hbk=>?_) (fun O hI=>?_) ⟨[],none,by simp,by simp,rfl⟩
 ·obtain ⟨ms,o,hl,hm,rfl⟩:=hI
  have hlen:pre.length + 1<=B.length:=by rw [<- e]; simp only [length_append,length_cons]; lia
  have hwB:w∈B:=by rw [<- e]; simp
  have snd:∀ ms:List Mv,ms.length<=2 * pre.length + 1->(∀ m∈ms,m.1∈B/\0<=m.2/\m.2<=most/\(m.2=p + m.1.length\/m.2<=p))->
    (wIf (wtAnd (wCmp cGe (wVar 2) (wB bLen (wCons (wVar 5) wNil))) (wCmp cEq (wSl (wVar 1) (some (wBin oSub (wVar 2) (wB bLen (wCons (wVar 5) wNil)))) (some (wVar 2))) (wVar 5))) (wExpr (wAppend 4 (wTup (wCons (wVar 5) (wCons (wBin oSub (wVar 2) (wB bLen (wCons (wVar 5) wNil))) wNil))))) wPass) D2 [some (.sh (boardD B)),some (.sh (.str t)),some (.sh (.int p)),some (.sh (.int most)),some (.lst ((ms.map mvD).map .sh)),some (.sh (.str w))]:=fun ms hl hm=>by
   have stop:D2.nx [some (.sh (boardD B)),some (.sh (.str t)),some (.sh (.int p)),some (.sh (.int most)),some (.lst ((ms.map mvD).map .sh)),some (.sh (.str w))]:=hnx _ ⟨ms,_,by simp only [length_append,length_singleton]; lia,hm,rfl⟩
   simp! [boardD]
   cases q1:decide ((w.length:Int)<=p)
   ·simp! [e_C]
    exact stop
   have q1':=of_decide_eq_true q1
   simp! [boardD]
   cases q2:decide (cutL t (some (p - (w.length:Int))) (some p)=w)
   ·simp! [e_C]
    exact stop
   simp! [length_map]
   rw [show ((ms.map mvD).map S.sh)++[S.sh (.tup [.str w,.int (p - w.length)])]=((ms++[(w,p - w.length)]).map mvD).map S.sh by simp [mvD]]
   refine ⟨by simp only [zah]; lia,hnx _ ⟨_,_,by simp only [length_append,length_singleton]; lia,fun m hmm=>?_,rfl⟩⟩
   rcases mem_append.mp hmm with z | z
   ·exact hm m z
   ·rw [mem_singleton.mp z]; exact ⟨hwB,by show 0<=p - w.length; lia,by show p - (w.length:Int)<=most; lia,.inr (by show p - (w.length:Int)<=p; lia)⟩
  simp! [u_11_b1,boardD]
  have snd0:=snd ms (by lia) hm
  simp! [boardD] at snd0
  cases q1:decide (cutL t (some p) (some (p + (w.length:Int)))=cutL w none (some ((t.length:Int) - p)))
  ·simp! [e_C]
   exact snd0
  simp! [e_C]
  cases q2:decide (p + (w.length:Int)<=most)
  ·simp! [e_C]
   exact snd0
  have q2':=of_decide_eq_true q2
  simp! [length_map]
  rw [show ((ms.map mvD).map S.sh)++[S.sh (.tup [.str w,.int (p + w.length)])]=((ms++[(w,p + w.length)]).map mvD).map S.sh by simp [mvD]]
  refine ⟨by simp only [zah]; lia,?_⟩
  have snd1:=snd (ms++[(w,p + w.length)]) (by simp only [length_append,length_singleton]; lia) fun m hmm=>by
   rcases mem_append.mp hmm with z | z
   ·exact hm m z
   ·rw [mem_singleton.mp z]; exact ⟨hwB,by show 0<=p + (w.length:Int); lia,q2',.inl rfl⟩
  simp! [boardD] at snd1
  exact snd1
 ·obtain ⟨ms,o,hl,hm,rfl⟩:=hI
  simp! [boardD]
  exact h ms (by lia) hm
theorem cut3 {t w:Wd} {p g:Int} (hp:0<=p) (hp2:p<=t.length) (hg:g=p + w.length):((cutL t none (some p)++w)++cutL t (some g) none).length=max g.toNat t.length:=by
 obtain ⟨k,rfl⟩:=Int.eq_ofNat_of_zero_le hp
 have hk:k<=t.length:=Int.ofNat_le.mp hp2
 rw [<- Int.natCast_add] at hg
 subst hg
 rw [zhP t hp hp2,zej t (Int.natCast_nonneg _)]
 simp only [length_append,length_take,length_drop,toNat_natCast]
 rw [min_eq_left hk,Nat.add_comm,Nat.sub_add_eq_max,Nat.max_comm]
theorem zi5 {a s most:Int} {col:List Nat} {B:List Wd} (ha:0<=a) (hs:1<=s) (hs2:s<=2147483629) (hc:0 < col.length) (hc2:col.length<=26) (hm:0<=most) (hm2:most<=500) (hB:B.length<=1000) (hw:∀ w∈B,w.length<=1000/\∀ c∈w,c∈col)
  (h:∀ (t:Wd) a' s',t.length<=most.toNat->(∀ c∈t,c∈col)->0<=a'->1<=s'->s'<=2147483629->P (.sh (.str t)) [box a' s',.sh (boardD B),.sh (.str col),.sh (.int most)]):w_12 [box a s,.sh (boardD B),.sh (.str col),.sh (.int most)] P PX:=by
 refine za5 rfl rfl ?_
 simp! [box,length_cons,length_nil]
 refine zal ha hs hs2 (by decide) (by decide) fun r a1 s1 hr hr2 ha1 hs1 hs21=>?_
 simp! [box]
 refine ⟨by simp only [zah]; lia,?_⟩
 refine zbd (toD:=fun k:Nat=>D.int (0 + (k:Int))) (fun pre O=>∃ (a s:Int) (t:Wd) (p:Int) (o6 o7 o8 o9 o10:Option S),0<=a/\1<=s/\s<=2147483629/\t.length<=most.toNat/\(∀ c∈t,c∈col)/\0<=p/\p<=t.length/\O=[some (box a s),some (.sh (boardD B)),some (.sh (.str col)),some (.sh (.int most)),some (.sh (.str t)),some (.sh (.int p)),o6,o7,o8,o9,o10]) (List.range _) (fun pre k post D2 O e hI hnx hct hrt hbk=>?_) (fun O hI=>?_) ⟨a1,s1,[],0,none,none,none,none,none,ha1,hs1,hs21,by simp,by simp,by decide,by simp,rfl⟩
 ·obtain ⟨a,s,t,p,o6,o7,o8,o9,o10,ha,hs,hs2,ht,htc,hp,hp2,rfl⟩:=hI
  simp! [box,u_12_b2]
  refine zgA hB (by lia) hp (by lia) fun ms hml hm=>?_
  -- the choice among some moves
  have pick:∀ ms:List Mv,ms.length<=2000->(∀ m∈ms,m.1∈B/\0<=m.2/\m.2<=most/\(m.2=p + m.1.length\/m.2<=p))->
    (wIf (wCmp cNe (wVar 7) (wLst wNil)) (wSeq (wAsg (gTup [gName 8,gName 9]) (wIx (wVar 7) (wCall w_6 [true,true] (wCons (wVar 0) (wCons (wB bLen (wCons (wVar 7) wNil)) wNil)))))
  (wSeq (wIf (wCmp cGt (wVar 9) (wVar 5)) (wAsg (gName 4) (wBin oAdd (wBin oAdd (wSl (wVar 4) none (some (wVar 5))) (wVar 8)) (wSl (wVar 4) (some (wVar 9)) none))) wPass)
  (wAsg (gName 5) (wVar 9)))) wPass) D2 [some (box a s),some (.sh (boardD B)),some (.sh (.str col)),some (.sh (.int most)),some (.sh (.str t)),some (.sh (.int p)),some (.sh (.int (0 + (k:Int)))),some (.sh (.lst (ms.map mvD))),o8,o9,o10]:=fun ms hml hm=>by
   simp! [box,zoR]
   cases q:ms.isEmpty
   ·simp! [box,length_map]
    have hpos:0 < ms.length:=by
     cases ms with
     | nil=>cases q
     | cons _ _=>simp
    refine zal ha hs hs2 (by lia) (by lia) fun r a1 s1 hr hr2 ha1 hs1 hs21=>?_
    obtain ⟨m,hmm,_,em⟩:=zcJ (f:=mvD) hr hr2
    obtain ⟨hmB,hg0,hg1,hg2⟩:=hm m hmm
    obtain ⟨hw1,hw2⟩:=hw m.1 hmB
    simp! [box,em,mvD,length_cons,length_nil]
    cases q2:decide (p < m.2)
    ·simp! [e_C]
     have:=of_decide_eq_false q2
     exact hnx _ ⟨a1,s1,t,m.2,_,_,_,_,_,ha1,hs1,hs21,ht,htc,hg0,by lia,rfl⟩
    ·have q2':=of_decide_eq_true q2
     have hgp:m.2=p + m.1.length:=by lia
     have hl3:=cut3 hp hp2 hgp
     have l1:(cutL t none (some p)).length<=1000:=le_trans (zaX _ _ _) (by lia)
     have l2:(cutL t (some m.2) none).length<=1000:=le_trans (zaX _ _ _) (by lia)
     simp! [length_append]
     refine hnx _ ⟨a1,s1,(cutL t none (some p)++m.1)++cutL t (some m.2) none,m.2,_,_,_,_,_,ha1,hs1,hs21,by rw [hl3]; lia,fun c hc=>?_,hg0,by rw [hl3]; lia,rfl⟩
     rcases mem_append.mp hc with z | z
     ·rcases mem_append.mp z with z | z
      ·exact htc c (zaV z)
      ·exact hw2 c z
     ·exact htc c (zaV z)
   ·simp! [e_C]
    exact hnx _ ⟨a,s,t,p,_,_,_,_,_,ha,hs,hs2,ht,htc,hp,hp2,rfl⟩
  simp! [box,zap]
  cases q:decide ((4:Int) < 0 + (k:Int))
  ·simp! [e_C]
   have:=pick ms hml hm
   simp! [box] at this
   exact this
  ·simp! [e_C]
   refine bl1 (n:=11) (toD:=mvD) ms (fun m=>if decide (p < m.2)=true then some (.sh (mvD m)) else none) (fun m hmm l o K hl hK=>?_) fun o=>?_
   ·cases q3:decide (p < m.2)
    ·simp! [x_bX,zgJ,u_12_c1,mvD,q3]
     rw [q3] at hK
     have:=hK (some (.sh (mvD m)))
     rw [if_neg (by decide),toList_none,append_nil] at this
     exact this
    ·simp! [x_bX,zb2,u_12_c1,mvD,q3]
     rw [q3] at hK
     exact ⟨by simp only [zah]; lia,hK _⟩
   ·rw [zgv (fun m:Mv=>decide (p < m.2)) (fun m=>S.sh (mvD m)),show ((ms.filter fun m:Mv=>decide (p < m.2)).map fun m=>S.sh (mvD m))=((ms.filter fun m:Mv=>decide (p < m.2)).map mvD).map S.sh by rw [map_map]; rfl]
    simp! [zap]
    have:=pick (ms.filter fun m:Mv=>decide (p < m.2)) (le_trans (List.length_filter_le _ _) hml) fun m hmm=>hm m (mem_filter.mp hmm).1
    simp! [box] at this
    exact this
 ·obtain ⟨a,s,t,p,o6,o7,o8,o9,o10,ha,hs,hs2,ht,htc,hp,hp2,rfl⟩:=hI
  simp! [box]
  cases q:decide (t=[])
  ·have hpos:0 < t.length:=length_pos_iff.mpr (of_decide_eq_false q)
   simp! [box]
   refine zal ha hs hs2 (by decide) (by decide) fun r a1 s1 hr hr2 ha1 hs1 hs21=>?_
   simp! [box]
   cases q2:decide (r=0)
   ·simp! [e_C]
    exact h t a1 s1 ht htc ha1 hs1 hs21
   ·simp! [box]
    refine zal ha1 hs1 hs21 (by lia) (by lia) fun x a2 s2 hx0 hx1 ha2 hs2 hs22=>?_
    simp! [box]
    refine zal ha2 hs2 hs22 (by lia) (by lia) fun r3 a3 s3 hr3 hr32 ha3 hs3 hs23=>?_
    obtain ⟨c,hcm,_,ec⟩:=zd8 (l:=col) hr3 hr32
    have l1:(cutL t none (some x)).length<=1000:=le_trans (zaX _ _ _) (by lia)
    have l2:(cutL t (some (x + 1)) none).length<=1000:=le_trans (zaX _ _ _) (by lia)
    have l3:=cut3 (t:=t) (w:=[c]) (p:=x) (g:=x + 1) hx0 (by lia) (by simp)
    simp! [box,ec,length_append,length_cons,length_nil]
    refine h _ a3 s3 (by rw [l3]; lia) (fun y hy=>?_) ha3 hs3 hs23
    rcases mem_append.mp hy with z | z
    ·rcases mem_append.mp z with z | z
     ·exact htc y (zaV z)
     ·rw [mem_singleton.mp z]; exact hcm
    ·exact htc y (zaV z)
  ·simp! [e_C]
   exact h t a s ht htc ha hs hs2
structure Fit (B:List Wd) (w:Wd):Prop where
 nd:B.Nodup
 ne:∀ x∈B,x≠[]
 le:∀ x∈B,x.length<=1000
 six:B.length<=6
 tw:w.length<=12
theorem zc4 {B:List Wd} {w:Wd} (hf:Fit B w)
  (h:P (.lst (((strP B w).map trD).map .sh)) [.sh (boardD B),.sh (.str w)]):w_0 [.sh (boardD B),.sh (.str w)] P PX:=by
 have h12:=hf.tw
 have h6:=hf.six
 have hlen:((List.range w.length).flatMap (rawI B w)).length < 64:=by rw [<- (zes hf.nd hf.ne).length_eq]; exact zfL hf.nd hf.ne h6 h12
 have he:(List.range w.length).flatMap (fun i=>(rawI B w i).map fun t=>S.sh (trD t))=(((List.range w.length).flatMap (rawI B w)).map trD).map S.sh:=by simp [List.map_flatMap,Function.comp_def]
 refine za5 rfl rfl ?_
 simp! [e_C]
 refine ⟨by simp only [zah]; lia,?_⟩
 rw [from0 rfl]
 refine bf (n:=2) (k:=3) (List.range w.length) (fun i=>(rawI B w i).map fun t=>S.sh (trD t)) (fun i hi l vs K hv hl hK=>?_) (fun vs hv=>?_)
 ·obtain ⟨a,b,c,rfl⟩:=len3v hv
  rw [he,length_map,length_map,length_map] at hl
  simp! [x_bX,zb2,u_0_c2,boardD,zii]
  refine bi2 (fun l o o'=>[some (.sh (boardD B)),some (.sh (.str w)),some (.lst l),some (.sh (.int (i:Int))),o,o']) (List.range B.length) (fun k=>if decide (seg w i (i + ((B[k]?).getD []).length)=(B[k]?).getD [])=true then some (S.sh (trD (i,i + ((B[k]?).getD []).length,k))) else none) (fun k hk l2 o o' K2 hl2 hK2=>?_) fun o o'=>?_
  ·have hm:(List.range B.length).filterMap (fun k=>if decide (seg w i (i + ((B[k]?).getD []).length)=(B[k]?).getD [])=true then some (S.sh (trD (i,i + ((B[k]?).getD []).length,k))) else none)=(rawI B w i).map fun t=>S.sh (trD t):=by
    unfold rawI
    rw [List.map_filterMap]
    refine zdC fun x _=>?_
    split <;> rfl
   rw [hm,length_map] at hl2
   have ec:cutL w (some (i:Int)) (some ((i:Int) + ((((B[k]?).getD []).length:Nat):Int)))=seg w i (i + ((B[k]?).getD []).length):=by rw [<- Int.natCast_add]; exact zg8 w _ _
   cases q:decide (seg w i (i + ((B[k]?).getD []).length)=(B[k]?).getD [])
   ·simp! [x_bX,boardD,length_cons,length_nil,ec,q,zgJ]
    have:=hK2 (some (.sh (.int (k:Int)))) (some (.sh (.str ((B[k]?).getD []))))
    rw [q,if_neg (by decide),toList_none,append_nil] at this
    exact this
   ·simp! [x_bX,boardD,length_cons,length_nil,ec,q,zb2,u_0_c1]
    have:=hK2 (some (.sh (.int (k:Int)))) (some (.sh (.str ((B[k]?).getD []))))
    rw [q,if_pos rfl,Option.toList_some] at this hl2
    simp only [length_singleton] at hl2
    refine ⟨by simp only [zah]; lia,?_⟩
    rw [ziB,Int.natCast_add] at this
    exact this
  ·have hm:(List.range B.length).filterMap (fun k=>if decide (seg w i (i + ((B[k]?).getD []).length)=(B[k]?).getD [])=true then some (S.sh (trD (i,i + ((B[k]?).getD []).length,k))) else none)=(rawI B w i).map fun t=>S.sh (trD t):=by
    unfold rawI
    rw [List.map_filterMap]
    refine zdC fun x _=>?_
    split <;> rfl
   rw [hm]
   exact hK _ rfl
 ·obtain ⟨a,b,c,rfl⟩:=len3v hv
  rw [he]
  simp! [zap,ziH (zes hf.nd hf.ne) hlen]
  exact h
theorem zgw {B:List Wd} {b:D} {w:Wd} (hb:∀ z,cInA (.str z) b=some (decide (z∈B))) (h12:w.length<=60)
  (h:P (.lst ((tiesL B w).map .sh)) [.sh b,.sh (.str w)]):w_13 [.sh b,.sh (.str w)] P PX:=by
 refine za5 rfl rfl ?_
 simp! [e_C]
 refine ⟨by simp only [zah]; lia,?_⟩
 rw [from0 (n:=w.length + 1) (by lia)]
 refine bm1 (n:=5) (List.range (w.length + 1)) (fun _=>S.lst []) (fun p hp l o K hl hK=>?_) fun o=>?_
 ·rw [length_range] at hl
  simp! [x_bX,zb2,u_13_c1]
  exact ⟨by simp only [zah]; lia,hK _⟩
 rw [show ((List.range (w.length + 1)).map fun _=>S.lst [])=fnd w.length fun _=>[] from rfl]
 simp! [e_C]
 refine ⟨by simp only [zah]; lia,?_⟩
 rw [from0 (n:=w.length) rfl]
 refine zbd (fun pre O=>∃ (f:Nat->List Nat) (o3 o4:Option S),GoneT B w pre.length (pre.length + 1) f/\O=[some (.sh b),some (.sh (.str w)),some (.lst (fnd w.length f)),o3,o4]) (List.range w.length) (fun pre i post D2 O e hI hnx hct hrt hbk=>?_) (fun O hI=>?_) ⟨fun _=>[],none,none,zgF,rfl⟩
 ·obtain ⟨f,o3,o4,hg,rfl⟩:=hI
  have hi:pre.length=i/\i < w.length:=zbW e
  obtain ⟨rfl,hi⟩:=hi
  simp! [u_13_b3]
  refine ⟨by simp only [zah]; lia,?_⟩
  rw [from1 (a:=pre.length + 1) (n:=w.length + 1) (by lia) (by lia)]
  refine zbd (fun pre2 O=>∃ (f:Nat->List Nat) (o4:Option S),GoneT B w pre.length (pre.length + 1 + pre2.length) f/\O=[some (.sh b),some (.sh (.str w)),some (.lst (fnd w.length f)),some (.sh (natD pre.length)),o4]) (List.range' (pre.length + 1) (w.length + 1 - (pre.length + 1))) (fun pre2 j post2 D3 O e2 hI hnx2 hct2 hrt2 hbk2=>?_) (fun O hI=>?_) ⟨f,o4,by simpa using hg,rfl⟩
  ·obtain ⟨f,o4,hg,rfl⟩:=hI
   have hj:j=pre.length + 1 + pre2.length/\j<=w.length:=by
    have:=zgM e2; lia
   obtain ⟨hj1,hj2⟩:=hj
   rw [<- hj1] at hg
   have ht:decide (seg w pre.length j∈B)=tieB B w pre.length j:=by
    unfold tieB
    rw [decide_eq_true (show pre.length < j by lia),decide_eq_true hj2]; rfl
   simp! [u_13_b2,natD,zg8,hb]
   rw [ht]
   cases q:tieB B w pre.length j
   ·simp! [e_C]
    refine hnx2 _ ⟨f,_,?_,rfl⟩
    rw [length_append,length_singleton,show pre.length + 1 + (pre2.length + 1)=j + 1 by lia]
    exact zlG (by lia) hg q
   ·simp! [e_C]
    rw [zgb (by lia) (show (fnd w.length f)[((pre.length:Nat):Int).toNat]?=_ by rw [toNat_natCast]; exact zhJ (by lia))]
    simp! [length_map]
    have hlen1:=zfy hg pre.length
    refine ⟨by simp only [zah]; lia,?_⟩
    rw [toNat_natCast,show (((f pre.length).map fun q=>S.sh (natD q))++[S.sh (D.int (j:Int))])=(((f pre.length).map fun q=>S.sh (natD q))++[S.sh (natD j)]) from rfl,zix (by lia)]
    rw [zgb (by lia) (show (fnd w.length (addTo f pre.length j))[((j:Nat):Int).toNat]?=_ by rw [toNat_natCast]; exact zhJ (by lia))]
    simp! [length_map]
    have hlen2:=zfy hg j
    have e3:addTo f pre.length j j=f j:=by unfold addTo; rw [if_neg (by lia)]
    refine ⟨by rw [e3]; simp only [zah]; lia,?_⟩
    rw [toNat_natCast,show (((addTo f pre.length j j).map fun q=>S.sh (natD q))++[S.sh (D.int (pre.length:Int))])=(((addTo f pre.length j j).map fun q=>S.sh (natD q))++[S.sh (natD pre.length)]) from rfl,zix (by lia)]
    refine hnx2 _ ⟨_,_,?_,rfl⟩
    rw [length_append,length_singleton,show pre.length + 1 + (pre2.length + 1)=j + 1 by lia]
    exact zj7 (by lia) hg q
  ·obtain ⟨f,o4,hg,rfl⟩:=hI
   rw [List.length_range',show pre.length + 1 + (w.length + 1 - (pre.length + 1))=w.length + 1 by lia] at hg
   refine hnx _ ⟨f,_,_,?_,rfl⟩
   rw [length_append,length_singleton]
   exact zjl (le_refl _) hg
 ·obtain ⟨f,o3,o4,hg,rfl⟩:=hI
  rw [length_range] at hg
  simp! [e_C]
  rw [show (fnd w.length f).map S.toD=(List.range (w.length + 1)).map fun p=>D.lst ((f p).map natD) by
   unfold fnd; rw [map_map]; refine map_congr_left fun p _=>?_; simp [Function.comp_def]]
  refine bm1 (n:=5) (List.range (w.length + 1)) (fun p=>.sh (.lst ((nb B w p).map natD))) (fun p hp l o K hl hK=>?_) fun o=>?_
  ·rw [length_range] at hl
   simp! [x_bX,zb2,u_13_c4,zll (zih (le_refl _) hg) h12,zap]
   exact ⟨by simp only [zah]; lia,hK _⟩
  ·rw [show ((List.range (w.length + 1)).map fun p=>S.sh (.lst ((nb B w p).map natD)))=(tiesL B w).map S.sh by unfold tiesL; rw [map_map]; rfl]
   simp! [e_C]
   exact h
noncomputable def prD (t:Tr):D:=.tup [.int (t.1:Int),.int (t.2.1:Int)]
theorem zet {n:Nat} {f:Nat->Nat}:atI (vecN n f) (-1)=some (.int ((f n:Nat):Int)):=by
 unfold vecN
 rw [range_succ,map_append]
 exact zdy
theorem zeK {n i j:Nat} {L:Nat->Nat} (hn:n<=60) (hi:i<=n) (hj:j<=n)
  (h:P (.lst ((vecN n (glue L i j)).map .sh)) [.sh (.lst (vecN n L)),.sh (.int (i:Int)),.sh (.int (j:Int))]):w_2 [.sh (.lst (vecN n L)),.sh (.int (i:Int)),.sh (.int (j:Int))] P PX:=by
 refine za5 rfl rfl ?_
 simp! [zgU hi,zgU hj,minN,maxN,length_cons,length_nil]
 rw [show vecN n L=(List.range (n + 1)).map fun p=>natD (L p) from rfl]
 refine bm1 (n:=5) (List.range (n + 1)) (fun p=>.sh (natD (glue L i j p))) (fun p hp l o K hl hK=>?_) fun o=>?_
 ·rw [length_range] at hl
  have e:natD (glue L i j p)=.int (if decide (((L p:Nat):Int)=((max (L i) (L j):Nat):Int))=true then ((min (L i) (L j):Nat):Int) else ((L p:Nat):Int)):=by
   unfold glue natD
   by_cases q:L p=max (L i) (L j)
   ·rw [if_pos q,if_pos (decide_eq_true (by lia))]
   ·rw [if_neg q,if_neg (by rw [decide_eq_true_eq]; lia)]
  cases q:decide (((L p:Nat):Int)=((max (L i) (L j):Nat):Int)) <;> rw [e,q] at hK <;> simp! [x_bX,zb2,u_2_c1,natD,q]
  ·exact ⟨by simp only [zah]; lia,hK _⟩
  ·exact ⟨by simp only [zah]; lia,hK _⟩
 ·rw [show ((List.range (n + 1)).map fun p=>S.sh (natD (glue L i j p)))=(vecN n (glue L i j)).map S.sh by unfold vecN; rw [map_map]; rfl]
  simp! [e_C]
  exact h
theorem zcI {n:Nat} {L:Nat->Nat} {ts:List Tr} (hn:n<=60) (ht:∀ t∈ts,t.1<=n/\t.2.1<=n)
  (h:P (.sh (.tup (vecN n (landOf ts L)))) [.sh (.tup (vecN n L)),.sh (.lst (ts.map prD))]):w_1 [.sh (.tup (vecN n L)),.sh (.lst (ts.map prD))] P PX:=by
 refine za5 rfl rfl ?_
 simp! [zap]
 refine zbd (fun pre O=>∃ o3 o4,O=[some (.sh (.tup (vecN n L))),some (.sh (.lst (ts.map prD))),some (.sh (.lst (vecN n (landOf pre L)))),o3,o4]) ts (fun pre t post D2 O e hI hnx hct hrt hbk=>?_) (fun O hI=>?_) ⟨none,none,rfl⟩
 ·obtain ⟨o3,o4,rfl⟩:=hI
  have htt:=ht t (by rw [<- e]; simp)
  simp! [prD,length_cons,length_nil,u_1_b1]
  refine zeK hn htt.1 htt.2 ?_
  simp! [zap]
  refine hnx _ ⟨some (.sh (.int (t.1:Int))),some (.sh (.int (t.2.1:Int))),?_⟩
  rw [zaU]
  rfl
 ·obtain ⟨o3,o4,rfl⟩:=hI
  simp! [e_C]
  exact h
abbrev Sb:=List Nat
noncomputable def subB (B:List Wd) (s:Sb):List Wd:=s.map fun k=>(B[k]?).getD []
noncomputable def endsK (B:List Wd) (w:Wd) (k:Nat):List Tr:=(strP B w).filter fun t=>decide (t.2.2=k)
noncomputable def trsS (B:List Wd) (w:Wd) (s:Sb):List Tr:=s.flatMap (endsK B w)
noncomputable def lnd (B:List Wd) (w:Wd) (s:Sb):Nat->Nat:=landOf (trsS B w s) fun p=>p
theorem zdN {B:List Wd} {w:Wd} {s:Sb} {k:Nat}:lnd B w (s++[k])=landOf (endsK B w k) (lnd B w s):=by
 unfold lnd trsS
 rw [List.flatMap_append,zaU]
 simp
theorem zg2 {B:List Wd} {w:Wd} {k:Nat}:∀ t∈endsK B w k,t.1<=w.length/\t.2.1<=w.length:=fun t ht=>by
 have:=zaw.mp (zdG.mp (mem_filter.mp ht).1).1
 lia
theorem zkD {B:List Wd} {w:Wd} {s:Sb} (hf:Fit B w) (hs:∀ k∈s,k < B.length) (p q:Nat):StrR (trsS B w s) p q↔TieR (subB B s) w p q:=by
 have key:∀ i j,tieB (subB B s) w i j=true↔∃ t∈trsS B w s,t.1=i/\t.2.1=j:=fun i j=>by
  rw [zaw]
  constructor
  ·rintro ⟨h1,h2,h3⟩
   obtain ⟨k,hk,e⟩:=mem_map.mp h3
   have hkl:=hs k hk
   rw [qi hkl] at e
   have e:B[k]=seg w i j:=e
   refine ⟨(i,j,k),mem_flatMap.mpr ⟨k,hk,mem_filter.mpr ⟨zdG.mpr ⟨zaw.mpr ⟨h1,h2,e ▸ getElem_mem hkl⟩,?_⟩,by simp⟩⟩,rfl,rfl⟩
   show k=B.idxOf (seg w i j)
   rw [<- e,hf.nd.idxOf_getElem]
  ·rintro ⟨t,ht,rfl,rfl⟩
   obtain ⟨k,hk,ht⟩:=mem_flatMap.mp ht
   obtain ⟨ht,e⟩:=mem_filter.mp ht
   have e:t.2.2=k:=by simpa using e
   obtain ⟨h1,h2⟩:=zdG.mp ht
   obtain ⟨h3,h4,h5⟩:=zaw.mp h1
   refine ⟨h3,h4,mem_map.mpr ⟨k,hk,?_⟩⟩
   rw [<- e,h2,qi (List.idxOf_lt_length_of_mem h5)]
   exact List.getElem_idxOf _
 unfold StrR TieR tie
 rw [or_eq_true,key,key]
 constructor
 ·rintro ⟨t,ht,h | h⟩
  ·exact .inl ⟨t,ht,h⟩
  ·exact .inr ⟨t,ht,h⟩
 ·rintro (⟨t,ht,h⟩ | ⟨t,ht,h⟩)
  ·exact ⟨t,ht,.inl h⟩
  ·exact ⟨t,ht,.inr h⟩
theorem zmI {B:List Wd} {w:Wd} {s:Sb} (hf:Fit B w) (hs:∀ k∈s,k < B.length):IsLand (TieR (subB B s) w) (lnd B w s):=by
 have h:=zeg (trsS B w s) [] (fun p=>p) (zgt.congr fun p q=>⟨fun h=>h.elim,fun ⟨t,ht,_⟩=>nomatch ht⟩)
 exact IsLand.congr (zkD hf hs) h
theorem zgW {B:List Wd} {w:Wd} {s:Sb} (hf:Fit B w) (hs:∀ k∈s,k < B.length):lnd B w s w.length=0↔fixedP (subB B s) w:=(zmI hf hs).zero zbR _
theorem zcY {n:Nat}:∀ (ts:List Tr) (L M:Nat->Nat),(∀ t∈ts,t.1<=n/\t.2.1<=n)->(∀ p,p<=n->L p=M p)->∀ p,p<=n->landOf ts L p=landOf ts M p
 | [],_,_,_,h=>h
 | t::ts,L,M,ht,h=>zcY ts _ _ (fun u hu=>ht u (qm _ hu)) fun p hp=>by
   have:=ht t qo
   unfold glue
   rw [h p hp,h _ this.1,h _ this.2]
noncomputable def kyD (B:List Wd) (w:Wd) (s:Sb):D:=.tup (vecN w.length (lnd B w s))
theorem zgS {B:List Wd} {w:Wd} {s t:Sb}:kyD B w s=kyD B w t↔∀ p,p<=w.length->lnd B w s p=lnd B w t p:=by
 unfold kyD
 rw [zdK,zdK,<- zlQ]
 exact ⟨fun h=>zgX (by injection h),fun h=>by rw [h]⟩
theorem zkH {B:List Wd} {w:Wd} {s t:Sb} {k:Nat} (h:kyD B w s=kyD B w t):kyD B w (s++[k])=kyD B w (t++[k]):=by
 rw [zgS] at h ⊢
 rw [zdN,zdN]
 exact zcY _ _ _ zg2 h
noncomputable def paid (pr:List Int) (s:Sb):Int:=(s.map fun k=>(pr[k]?).getD 0).sum
noncomputable def nI (s:Sb):List Int:=s.map fun (k:Nat)=>(k:Int)
noncomputable def cst (pr:List Int) (s:Sb):List Int:=paid pr s::(s.length:Int)::nI s
noncomputable def cstD (pr:List Int) (s:Sb):D:=.tup [.int (paid pr s),.int (s.length:Int),.tup (s.map natD)]
theorem zm7 {s t:Sb} (h:nI s=nI t):s=t:=(List.map_inj_right fun (a b:Nat) (e:(a:Int)=b)=>by lia).mp h
theorem nI_D (s:Sb):s.map natD=(nI s).map D.int:=by unfold nI; rw [map_map]; rfl
theorem zlF {pr:List Int} {s t:Sb} (h:cst pr s=cst pr t):s=t:=zm7 (List.cons.inj (List.cons.inj h).2).2
theorem ziq {pr:List Int} {s t:Sb}:cmpD (cstD pr s) (cstD pr t)=.lt↔cst pr s < cst pr t:=by
 unfold cstD cst
 rw [cmpD,cmpDs,cmpDs,cmpDs,cmpD,cmpD,cmpD,nI_D,nI_D,za4,cmpDs,cons_lt_cons_iff,cons_lt_cons_iff]
 by_cases h1:paid pr s < paid pr t
 ·simp [h1]
 ·by_cases h2:paid pr t < paid pr s
  ·simp [h1,h2]
   lia
  ·have e:paid pr s=paid pr t:=by lia
   rw [if_neg h1,if_neg h2]
   by_cases h3:(s.length:Int) < t.length
   ·simp [h3,e]
   ·by_cases h4:(t.length:Int) < s.length
    ·simp [h3,h4,e]
     lia
    ·have e2:(s.length:Int)=t.length:=by lia
     rw [if_neg h3,if_neg h4]
     simp only [e,e2,Int.lt_irrefl,false_or,true_and]
     by_cases h5:nI s < nI t
     ·simp [h5]
     ·by_cases h6:nI t < nI s
      ·simp [h5,h6]
      ·simp [h5,h6]
theorem zic {x:Int}:∀ {a b:List Int},a.length=b.length->a++[x] < b++[x]->a < b
 | [],[],_,h=>by simp at h
 | y::a,z::b,hl,h=>by
   rw [cons_append,cons_append,cons_lt_cons_iff] at h
   rw [cons_lt_cons_iff]
   exact h.imp id fun h=>⟨h.1,zic (by simpa using hl) h.2⟩
theorem zjU {pr:List Int} {s t:Sb} {k:Nat} (h:cst pr s<=cst pr t):cst pr (s++[k])<=cst pr (t++[k]):=by
 rw [<- List.not_lt] at h ⊢
 intro z
 refine h ?_
 have e:∀ s:Sb,cst pr (s++[k])=(paid pr s + (pr[k]?).getD 0)::((s.length:Int) + 1)::(nI s++[(k:Int)]):=fun s=>by
  unfold cst paid nI
  simp
 rw [e,e,cons_lt_cons_iff,cons_lt_cons_iff] at z
 unfold cst
 rw [cons_lt_cons_iff,cons_lt_cons_iff]
 rcases z with z | ⟨z,y⟩
 ·exact .inl (by lia)
 ·refine .inr ⟨by lia,?_⟩
  rcases y with y | ⟨y,x⟩
  ·exact .inl (by lia)
  ·exact .inr ⟨by lia,zic (by unfold nI; rw [length_map,length_map]; lia) x⟩
structure DP (B:List Wd) (w:Wd) (pr:List Int) (m:Nat) (all:Sb->Prop) (es:List Sb):Prop where
 sub:∀ s∈es,s.Sublist (List.range m)
 nd:(es.map (kyD B w)).Nodup
 best:∀ t,all t->∃ s∈es,kyD B w s=kyD B w t/\cst pr s<=cst pr t
theorem DP.add (h:DP B w pr m all es) (ht:t.Sublist (List.range m)) (hn:kyD B w t∉es.map (kyD B w)):DP B w pr m (fun u=>all u\/u=t) (es++[t]) where
 sub:=fun s hs=>(mem_append.mp hs).elim (h.sub s) fun z=>by rw [mem_singleton.mp z]; exact ht
 nd:=by
  rw [map_append,nodup_append]
  refine ⟨h.nd,by simp,fun a ha b hb e=>hn ?_⟩
  have:b=kyD B w t:=by simpa using hb
  rw [<- this,<- e]; exact ha
 best:=fun u hu=>by
  rcases hu with hu | rfl
  ·obtain ⟨s,hs,e⟩:=h.best u hu
   exact ⟨s,qk _ hs,e⟩
  ·exact ⟨u,by simp,rfl,List.le_refl _⟩
theorem DP.stay (h:DP B w pr m all es) (hu:u∈es) (hk:kyD B w u=kyD B w t) (hc:¬ cst pr t < cst pr u):DP B w pr m (fun u=>all u\/u=t) es where
 sub:=h.sub
 nd:=h.nd
 best:=fun v hv=>by
  rcases hv with hv | rfl
  ·exact h.best v hv
  ·exact ⟨u,hu,hk,List.not_lt.mp hc⟩
theorem DP.put {i:Nat} (h:DP B w pr m all es) (ht:t.Sublist (List.range m)) (hu:es[i]?=some u) (hk:kyD B w u=kyD B w t) (hc:cst pr t < cst pr u):DP B w pr m (fun u=>all u\/u=t) (es.set i t)/\(es.set i t).map (kyD B w)=es.map (kyD B w):=by
 obtain ⟨hi,e⟩:=qh.mp hu
 have hm:(es.set i t).map (kyD B w)=es.map (kyD B w):=by
  rw [map_set,<- hk,<- e,<- List.getElem_map (kyD B w) (h:=by rw [length_map]; exact hi)]
  exact List.set_getElem_self _
 refine ⟨⟨fun s hs=>?_,by rw [hm]; exact h.nd,fun v hv=>?_⟩,hm⟩
 ·rcases List.mem_or_eq_of_mem_set hs with hs | rfl
  ·exact h.sub s hs
  ·exact ht
 ·rcases hv with hv | rfl
  ·obtain ⟨s,hs,e1,e2⟩:=h.best v hv
   obtain ⟨j,hj⟩:=mem_iff_getElem?.mp hs
   by_cases hij:i=j
   ·subst hij
    rw [hu] at hj
    cases hj
    exact ⟨t,mem_set hi t,by rw [<- hk,e1],List.le_trans (List.le_of_lt hc) e2⟩
   ·exact ⟨s,mem_iff_getElem?.mpr ⟨j,by rw [getElem?_set_ne hij]; exact hj⟩,e1,e2⟩
  ·exact ⟨v,mem_set hi v,rfl,List.le_refl _⟩
theorem zfo {t:Sb} (h:t.Sublist (List.range (m + 1))):t.Sublist (List.range m)\/∃ s,s.Sublist (List.range m)/\t=s++[m]:=by
 rw [range_succ,List.sublist_append_iff] at h
 obtain ⟨a,b,rfl,h1,h2⟩:=h
 cases b with
 | nil=>exact .inl (by simpa using h1)
 | cons x b=>
   have:=h2.length_le
   have hb:b=[]:=by simpa using this
   subst hb
   have:x=m:=by simpa using h2.subset (qo)
   subst this
   exact .inr ⟨a,h1,rfl⟩
theorem zjT {s:Sb} (h:s.Sublist (List.range m)):(s++[m]).Sublist (List.range (m + 1)):=by
 rw [range_succ]; exact h.append (List.Sublist.refl _)
theorem DP.begin:DP B w pr 0 (fun t=>t.Sublist (List.range 0)) [[]] where
 sub:=fun s hs=>by rw [mem_singleton.mp hs]; exact List.nil_sublist _
 nd:=by simp
 best:=fun t ht=>⟨[],by simp,by rw [List.eq_nil_of_sublist_nil ht]; exact ⟨rfl,List.le_refl _⟩⟩
theorem DP.turn (h:DP B w pr m (fun t=>t.Sublist (List.range m)) es):DP B w pr (m + 1) (fun t=>t∈es\/∃ s∈([]:List Sb),t=s++[m]) es where
 sub:=fun s hs=>(h.sub s hs).trans (by rw [range_succ]; exact List.sublist_append_left _ _)
 nd:=h.nd
 best:=fun t ht=>by
  rcases ht with ht | ⟨_,z,_⟩
  ·exact ⟨t,ht,rfl,List.le_refl _⟩
  ·cases z
theorem DP.weak {all2:Sb->Prop} (h:DP B w pr m all es) (ha:∀ t,all2 t->all t):DP B w pr m all2 es:=⟨h.sub,h.nd,fun t ht=>h.best t (ha t ht)⟩
theorem DP.next {es':List Sb} (h:DP B w pr m (fun t=>t.Sublist (List.range m)) es) (h':DP B w pr (m + 1) (fun t=>t∈es\/∃ s∈es,t=s++[m]) es'):DP B w pr (m + 1) (fun t=>t.Sublist (List.range (m + 1))) es' where
 sub:=h'.sub
 nd:=h'.nd
 best:=fun t ht=>by
  rcases zfo ht with ht | ⟨s,hs,rfl⟩
  ·obtain ⟨s,hs,e1,e2⟩:=h.best t ht
   obtain ⟨u,hu,e3,e4⟩:=h'.best s (.inl hs)
   exact ⟨u,hu,e3.trans e1,List.le_trans e4 e2⟩
  ·obtain ⟨v,hv,e1,e2⟩:=h.best s hs
   obtain ⟨u,hu,e3,e4⟩:=h'.best (v++[m]) (.inr ⟨v,hv,rfl⟩)
   exact ⟨u,hu,e3.trans (zkH e1),List.le_trans e4 (zjU e2)⟩
noncomputable def bstS (B:List Wd) (w:Wd) (pr:List Int) (es:List Sb):S:=.dct true (es.map (kyD B w)) (es.map fun s=>.sh (cstD pr s))
theorem znF {B:List Wd} {w:Wd} {s:Sb}:isIT (kyD B w s)=true:=by
 unfold kyD isIT
 rw [zdK]
 show (intsD _).isSome=true
 rw [zbh]; rfl
theorem zd7 {B:List Wd} {w:Wd} {s:Sb}:isKey true (kyD B w s)=true:=by
 unfold kyD
 rw [zdK]
 show ((vecI w.length (lnd B w s)).map D.int).all isKey1=true
 simp [isKey1]
theorem zeY {B:List Wd} {w:Wd} {pr:List Int}:∀ es:List Sb,zipD (es.map (kyD B w)) ((es.map fun s=>S.sh (cstD pr s)).map S.toD)=es.map fun s=>D.tup [kyD B w s,cstD pr s]
 | []=>rfl
 | s::es=>by
   show D.tup [kyD B w s,cstD pr s]::zipD _ _=_
   rw [zeY es]; rfl
theorem ziE (pr:List Int):enumF 0 (pr.map D.int)=(List.range pr.length).map fun (k:Nat)=>D.tup [.int (k:Int),.int ((pr[k]?).getD 0)]:=by
 rw [zdF]
 refine map_congr_left fun k hk=>?_
 rw [qi (mem_range.mp hk)]
 simp
open Classical in
theorem zlb {B:List Wd} {w:Wd} {t:Sb}:∀ {es:List Sb},kyD B w t∈es.map (kyD B w)->∃ i u,fIx (es.map (kyD B w)) (kyD B w t)=some i/\es[i]?=some u/\kyD B w u=kyD B w t:=by
 intro es h
 unfold fIx
 cases q:(es.map (kyD B w)).findIdx? (fun x=>decide (x=kyD B w t)) with
 | none=>
   rw [List.findIdx?_eq_none_iff] at q
   simpa using q _ h
 | some i=>
   obtain ⟨hi,h1,_⟩:=List.findIdx?_eq_some_iff_getElem.mp q
   rw [length_map] at hi
   exact ⟨i,es[i],rfl,qi hi,by simpa using h1⟩
theorem zm0 {B:List Wd} {w:Wd} {pr:List Int} {es:List Sb}:vC (some (S.dct true (es.map (kyD B w)) (es.map fun s=>S.sh (cstD pr s))))=some (.dct true (es.map (kyD B w)) (es.map (cstD pr))):=by
 rw [show es.map (fun s=>S.sh (cstD pr s))=(es.map (cstD pr)).map S.sh by rw [map_map]; rfl,zfb]
theorem zki {B:List Wd} {w:Wd} {pr:List Int} {t u:Sb} (hk:kyD B w u=kyD B w t):∀ {es:List Sb},(es.map (kyD B w)).Nodup->u∈es->lk (es.map (kyD B w)) (es.map (cstD pr)) (kyD B w t)=some (cstD pr u)
 | e::es,hn,hu=>by
   rw [map_cons,nodup_cons] at hn
   rw [map_cons,map_cons,lk]
   rcases mem_cons.mp hu with rfl | hu
   ·rw [if_pos hk]
   ·rw [if_neg fun z=>hn.1 (by rw [z,<- hk]; exact List.mem_map_of_mem hu)]
    exact zki hk hn.2 hu
theorem zcz:∀ s t:Sb,likes (s.map natD) (t.map natD)=true
 | [],_=>by rw [map_nil]; unfold likes; rfl
 | _::_,[]=>by rw [map_nil]; unfold likes; rfl
 | a::s,b::t=>by
   rw [map_cons,map_cons,likes,zcz s t]
   unfold natD like; rfl
theorem zfI {pr:List Int} {s t:Sb}:like (cstD pr s) (cstD pr t)=true/\dep (cstD pr s)<=9:=by
 unfold cstD
 refine ⟨?_,?_⟩
 ·rw [like,likes,likes,likes,like,like,like,zcz]
  unfold likes; rfl
 ·show max 0 (max 0 (max (deps (s.map natD) + 1) 0)) + 1<=9
  rw [nI_D,zbc]
  decide
theorem zlW {pr:List Int} {s t:Sb}:cLtT (cstD pr s) (cstD pr t)=some (decide (cst pr s < cst pr t)):=by
 unfold cLtT
 rw [if_pos zfI]
 exact congrArg some (decide_eq_decide.mpr ziq)
theorem zcx {f:Sb->D} {g:Sb->List Int} (hc:∀ s t,cmpD (f s) (f t)=.lt↔g s < g t):∀ (b:Sb) (r:List Sb),∃ m∈b::r,least (f b) (r.map f)=f m/\∀ u∈b::r,g m<=g u
 | b,[]=>⟨b,by simp,rfl,fun u hu=>by rw [mem_singleton.mp hu]; exact List.le_refl _⟩
 | b,d::r=>by
   show ∃ m∈b::d::r,least (if cmpD (f d) (f b)=.lt then f d else f b) (r.map f)=f m/\_
   by_cases h:g d < g b
   ·rw [if_pos ((hc _ _).mpr h)]
    obtain ⟨m,h1,h2,h3⟩:=zcx hc d r
    refine ⟨m,qm _ h1,h2,fun u hu=>?_⟩
    rcases mem_cons.mp hu with rfl | hu
    ·exact List.le_trans (h3 d qo) (List.le_of_lt h)
    ·exact h3 u hu
   ·rw [if_neg fun z=>h ((hc _ _).mp z)]
    obtain ⟨m,h1,h2,h3⟩:=zcx hc b r
    refine ⟨m,(mem_cons.mp h1).elim (fun e=>e ▸ qo) fun e=>qm _ (qm _ e),h2,fun u hu=>?_⟩
    rcases mem_cons.mp hu with rfl | hu
    ·exact h3 u qo
    ·rcases mem_cons.mp hu with rfl | hu
     ·exact List.le_trans (h3 b qo) (List.not_lt.mp h)
     ·exact h3 u (qm _ hu)
theorem zhV {f:Sb->D} {g:Sb->List Int} (hc:∀ s t,cmpD (f s) (f t)=.lt↔g s < g t) (hk:∀ s t,like (f s) (f t)=true/\dep (f s)<=9) {df:D} (fx:List Sb) (hne:fx≠[]):∃ m∈fx,minDf (.lst (fx.map f)) df=some (.sh (f m))/\∀ u∈fx,g m<=g u:=by
 cases fx with
 | nil=>exact absurd rfl hne
 | cons b r=>
   obtain ⟨m,h1,h2,h3⟩:=zcx hc b r
   refine ⟨m,h1,?_,h3⟩
   rw [<- h2]
   refine if_pos (all_eq_true.mpr fun x hx=>all_eq_true.mpr fun y hy=>?_)
   obtain ⟨x,_,rfl⟩:=mem_map.mp (show x∈(b::r).map f from hx)
   obtain ⟨y,_,rfl⟩:=mem_map.mp (show y∈(b::r).map f from hy)
   rw [(hk x y).1,decide_eq_true (hk x y).2]; rfl
open Classical in
theorem zdx {B:List Wd} {w:Wd} {pr:List Int} {pc:D} (hf:Fit B w) (hpl:pr.length=B.length) (hpc:items pc=some (pr.map D.int))
  (h1:(∀ t,t.Sublist (List.range B.length)->lnd B w t w.length≠0)->P (.sh .non) [.sh (boardD B),.sh (.str w),.sh pc])
  (h2:∀ s,s.Sublist (List.range B.length)->lnd B w s w.length=0->(∀ t,t.Sublist (List.range B.length)->lnd B w t w.length=0->cst pr s<=cst pr t)->P (.sh (cstD pr s)) [.sh (boardD B),.sh (.str w),.sh pc]):
  w_4 [.sh (boardD B),.sh (.str w),.sh pc] P PX:=by
 have h12:=hf.tw
 have h6:=hf.six
 have h64:=zfL hf.nd hf.ne hf.six hf.tw
 refine za5 rfl rfl ?_
 simp! [e_C]
 refine ⟨by simp only [zah]; lia,?_⟩
 rw [from0 (n:=w.length + 1) (by lia),show ((List.range (w.length + 1)).map fun (k:Nat)=>D.int (k:Int))=vecN w.length (lnd B w []) from rfl]
 refine ⟨by rw [zjm]; simp only [zah]; lia,zd7,?_⟩
 rw [hpc]
 simp! [ziE]
 refine zbd (fun pre O=>∃ (es:List Sb) (o4 o5 o6 o7 o8 o9 o10 o11 o12:Option S),DP B w pr pre.length (fun t=>t.Sublist (List.range pre.length)) es/\es.length<=2 ^ pre.length/\O=[some (.sh (boardD B)),some (.sh (.str w)),some (.sh pc),some (bstS B w pr es),o4,o5,o6,o7,o8,o9,o10,o11,o12]) (List.range pr.length) (fun pre k post D2 O e hI hnx hct hrt hbk=>?_) (fun O hI=>?_) ⟨[[]],none,none,none,none,none,none,none,none,none,DP.begin,by simp,rfl⟩
 ·obtain ⟨es,o4,o5,o6,o7,o8,o9,o10,o11,o12,hdp,hel,rfl⟩:=hI
  obtain ⟨rfl,hk⟩:=zbW e
  have hp64:2 ^ pre.length<=64:=by
   have:pre.length<=6:=by lia
   exact Nat.pow_le_pow_right (by decide:0 < 2) this
  simp! [u_4_b3,length_cons,length_nil]
  refine zc4 hf ?_
  simp! [zap]
  refine bl3 (n:=13) (strP B w) (fun t=>if decide (t.2.2=pre.length)=true then some (.sh (prD t)) else none) (fun t ht l o1 o2 o3 K hl hK=>?_) fun o1 o2 o3=>?_
  ·have e1:decide (((t.2.2:Nat):Int)=((pre.length:Nat):Int))=decide (t.2.2=pre.length):=decide_eq_decide.mpr (by lia)
   have hl2:=List.length_filterMap_le (fun t:Tr=>if decide (t.2.2=pre.length)=true then some (S.sh (prD t)) else none) (strP B w)
   cases q:decide (t.2.2=pre.length)
   ·simp! [x_bX,zgJ,ziB,length_cons,length_nil,e1,q]
    have:=hK (some (.sh (.int (t.1:Int)))) (some (.sh (.int (t.2.1:Int)))) (some (.sh (.int (t.2.2:Int))))
    rw [q,if_neg (by decide),toList_none,append_nil] at this
    exact this
   ·simp! [x_bX,zb2,u_4_c1,ziB,length_cons,length_nil,e1,q]
    rw [q,if_pos rfl] at hK
    exact ⟨by simp only [zah]; lia,hK _ _ _⟩
  ·rw [show (strP B w).filterMap (fun t=>if decide (t.2.2=pre.length)=true then some (S.sh (prD t)) else none)=((endsK B w pre.length).map prD).map S.sh by rw [zgv (fun t:Tr=>decide (t.2.2=pre.length)) (fun t=>S.sh (prD t)),map_map]; rfl]
   simp! [zap,bstS]
   refine ⟨⟨by simp [S.isSh],?_,by rw [length_map]; simp only [zah]; lia⟩,?_⟩
   ·rw [all_map]
    exact all_eq_true.mpr fun s _=>znF
   rw [zeY]
   refine zbd (fun pre2 O=>∃ (es':List Sb) (o7 o8 o9 o10 o11 o12:Option S),DP B w pr (pre.length + 1) (fun t=>t∈es\/∃ s∈pre2,t=s++[pre.length]) es'/\es'.length<=es.length + pre2.length/\O=[some (.sh (boardD B)),some (.sh (.str w)),some (.sh pc),some (bstS B w pr es'),some (.sh (.int (pre.length:Int))),some (.sh (.int ((pr[pre.length]?).getD 0))),some (.sh (.lst ((endsK B w pre.length).map prD))),o7,o8,o9,o10,o11,o12]) es (fun pre2 s post2 D3 O e2 hI hnx2 hct2 hrt2 hbk2=>?_) (fun O hI=>?_) ⟨es,o7,o8,o9,o10,o11,o12,hdp.turn,le_refl _,rfl⟩
   ·obtain ⟨es',o7,o8,o9,o10,o11,o12,hd2,hel2,rfl⟩:=hI
    have hs:s.Sublist (List.range pre.length):=hdp.sub s (by rw [<- e2]; simp)
    have hsl:s.length<=6:=by have:=hs.length_le; rw [length_range] at this; lia
    have hpl2:pre2.length < es.length:=by rw [<- e2]; simp
    have hky:D.tup (vecN w.length (landOf (endsK B w pre.length) (lnd B w s)))=kyD B w (s++[pre.length]):=by unfold kyD; rw [zdN]
    have hcs:D.tup [.int (paid pr s + (pr[pre.length]?).getD 0),.int ((s.length:Int) + 1),.tup (s.map natD++[.int (pre.length:Int)])]=cstD pr (s++[pre.length]):=by
     unfold cstD paid
     simp [natD]
    have hw:∀ es2,DP B w pr (pre.length + 1) (fun u=>(u∈es\/∃ s∈pre2,u=s++[pre.length])\/u=s++[pre.length]) es2->DP B w pr (pre.length + 1) (fun t=>t∈es\/∃ u∈pre2++[s],t=u++[pre.length]) es2:=fun es2 h=>h.weak fun t ht=>by
     rcases ht with ht | ⟨u,hu,e⟩
     ·exact .inl (.inl ht)
     ·rcases mem_append.mp hu with hu | hu
      ·exact .inl (.inr ⟨u,hu,e⟩)
      ·rw [mem_singleton.mp hu] at e
       exact .inr e
    simp! [u_4_b2,length_cons,length_nil,cstD,kyD]
    refine zcI (by lia) zg2 ?_
    simp! [length_cons,length_nil,bstS]
    rw [hky,hcs]
    have hT:=zjT hs
    have hin:cIn (kyD B w (s++[pre.length])) (D.dct true (List.map (kyD B w) es') (List.map S.toD (List.map (fun s=>S.sh (cstD pr s)) es')))=some (decide (kyD B w (s++[pre.length])∈es'.map (kyD B w))):=if_pos zd7
    rw [hin]
    by_cases hmem:kyD B w (s++[pre.length])∈es'.map (kyD B w)
    ·rw [decide_eq_true hmem]
     obtain ⟨i,u,hu1,hu2,hu3⟩:=zlb hmem
     simp! [zm0]
     rw [show lkD (.dct true (es'.map (kyD B w)) (es'.map (cstD pr))) (kyD B w (s++[pre.length]))=some (lk (es'.map (kyD B w)) (es'.map (cstD pr)) (kyD B w (s++[pre.length]))) from if_pos zd7,zki hu3 hd2.nd (mem_of_getElem? hu2)]
     simp! [zlW]
     by_cases hlt:cst pr (s++[pre.length]) < cst pr u
     ·rw [decide_eq_true hlt]
      simp! [e_C]
      refine ⟨zd7,hd2.nd,by rw [length_map]; simp only [zah]; lia,?_⟩
      obtain ⟨hd3,hkm⟩:=hd2.put hT hu2 hu3 hlt
      have he:dputS true (es'.map (kyD B w)) (es'.map fun s=>S.sh (cstD pr s)) (kyD B w (s++[pre.length])) (S.sh (cstD pr (s++[pre.length])))=bstS B w pr (es'.set i (s++[pre.length])):=by
       unfold bstS dputS
       rw [hu1,hkm,map_set]
      rw [he]
      exact hnx2 _ ⟨es'.set i (s++[pre.length]),_,_,_,_,_,_,hw _ hd3,by rw [List.length_set,length_append]; lia,rfl⟩
     ·rw [decide_eq_false hlt]
      simp! [e_C]
      exact hnx2 _ ⟨es',_,_,_,_,_,_,hw _ (hd2.stay (mem_of_getElem? hu2) hu3 hlt),by rw [length_append]; lia,rfl⟩
    ·rw [decide_eq_false hmem]
     simp! [e_C]
     refine ⟨zd7,hd2.nd,by rw [length_map]; simp only [zah]; lia,?_⟩
     have hno:fIx (es'.map (kyD B w)) (kyD B w (s++[pre.length]))=none:=by
      unfold fIx
      rw [List.findIdx?_eq_none_iff]
      intro x hx
      exact decide_eq_false fun z=>hmem (z ▸ hx)
     have he:dputS true (es'.map (kyD B w)) (es'.map fun s=>S.sh (cstD pr s)) (kyD B w (s++[pre.length])) (S.sh (cstD pr (s++[pre.length])))=bstS B w pr (es'++[s++[pre.length]]):=by
      unfold bstS dputS
      rw [hno,map_append,map_append]
      rfl
     rw [he]
     exact hnx2 _ ⟨es'++[s++[pre.length]],_,_,_,_,_,_,hw _ (hd2.add hT hmem),by rw [length_append,length_append,length_singleton,length_singleton]; lia,rfl⟩
   ·obtain ⟨es',o7,o8,o9,o10,o11,o12,hd2,hel2,rfl⟩:=hI
    refine hnx _ ⟨es',_,_,_,o7,o8,o9,o10,o11,o12,?_,?_,rfl⟩
    ·rw [length_append]
     exact hdp.next hd2
    ·rw [length_append,length_singleton,pow_succ]
     lia
 ·obtain ⟨es,o4,o5,o6,o7,o8,o9,o10,o11,o12,hdp,hel,rfl⟩:=hI
  rw [length_range] at hdp hel
  simp! [bstS]
  refine ⟨by simp [S.isSh],by rw [all_map]; exact all_eq_true.mpr fun s _=>znF,?_⟩
  rw [zeY]
  have h64e:es.length<=64:=le_trans hel (by rw [hpl]; exact Nat.pow_le_pow_right (by decide:0 < 2) h6)
  refine bl2 (n:=13) es (fun s=>if decide (lnd B w s w.length=0)=true then some (.sh (cstD pr s)) else none) (fun s hs l o1 o2 K hl hK=>?_) fun o1 o2=>?_
  ·have e1:decide (((lnd B w s w.length:Nat):Int)=0)=decide (lnd B w s w.length=0):=decide_eq_decide.mpr (by lia)
   cases q:decide (lnd B w s w.length=0)
   ·simp! [x_bX,zgJ,length_cons,length_nil,kyD,zet,e1,q]
    have:=hK (some (.sh (kyD B w s))) (some (.sh (cstD pr s)))
    rw [q,if_neg (by decide),toList_none,append_nil] at this
    exact this
   ·simp! [x_bX,zb2,u_4_c4,length_cons,length_nil,kyD,zet,e1,q]
    rw [q,if_pos rfl] at hK
    exact ⟨by simp only [zah]; lia,hK _ _⟩
  ·rw [show es.filterMap (fun s=>if decide (lnd B w s w.length=0)=true then some (S.sh (cstD pr s)) else none)=((es.filter fun s=>decide (lnd B w s w.length=0)).map (cstD pr)).map S.sh by rw [zgv (fun s:Sb=>decide (lnd B w s w.length=0)) (fun s=>S.sh (cstD pr s)),map_map]; rfl]
   simp! [zap]
   by_cases hfx:es.filter (fun s=>decide (lnd B w s w.length=0))=[]
   ·rw [hfx]
    refine h1 fun t ht hz=>?_
    obtain ⟨s,hs,e1,_⟩:=hdp.best t (hpl ▸ ht)
    have:s∈es.filter fun s=>decide (lnd B w s w.length=0):=mem_filter.mpr ⟨hs,decide_eq_true ((zgS.mp e1 _ (le_refl _)).trans hz)⟩
    rw [hfx] at this
    cases this
   ·obtain ⟨m,hm1,hm2,hm3⟩:=zhV (fun _ _=>ziq) (fun _ _=>zfI) (df:=.non) _ hfx
    rw [hm2]
    obtain ⟨hm1,hm4⟩:=mem_filter.mp hm1
    simp! [e_C]
    refine h2 m (hpl ▸ hdp.sub m hm1) (of_decide_eq_true hm4) fun t ht hz=>?_
    obtain ⟨s,hs,e1,e2⟩:=hdp.best t (hpl ▸ ht)
    exact List.le_trans (hm3 s (mem_filter.mpr ⟨hs,decide_eq_true ((zgS.mp e1 _ (le_refl _)).trans hz)⟩)) e2
noncomputable def bitsOf (n k:Nat):Sb:=(List.range n).filter fun i=>decide (k / 2 ^ i % 2=1)
theorem zfN (n k:Nat):(bitsOf n k).Sublist (List.range n):=List.filter_sublist
theorem zdH:∀ (n:Nat) (t:Sb),t.Sublist (List.range n)->∃ k,k < 2 ^ n/\bitsOf n k=t
 | 0,t,h=>⟨0,by simp,(List.eq_nil_of_sublist_nil h).symm⟩
 | n + 1,t,h=>by
   have low:∀ (k j:Nat),(∀ i,i < n->k.testBit i=j.testBit i)->(List.range n).filter (fun i=>decide (k / 2 ^ i % 2=1))=bitsOf n j:=fun k j hkj=>by
    unfold bitsOf
    refine List.filter_congr fun i hi=>?_
    rw [<- Nat.testBit_eq_decide_div_mod_eq,<- Nat.testBit_eq_decide_div_mod_eq,hkj i (mem_range.mp hi)]
   have e:∀ k,bitsOf (n + 1) k=(List.range n).filter (fun i=>decide (k / 2 ^ i % 2=1))++if k.testBit n then [n] else []:=fun k=>by
    unfold bitsOf
    rw [range_succ,List.filter_append]
    congr 1
    rw [Nat.testBit_eq_decide_div_mod_eq]
    by_cases q:k / 2 ^ n % 2=1
    ·simp [q]
    ·simp [q]
   rcases zfo h with h | ⟨s,hs,rfl⟩
   ·obtain ⟨k,hk,rfl⟩:=zdH n t h
    refine ⟨k,by rw [pow_succ]; lia,?_⟩
    rw [e,low k k fun _ _=>rfl,if_neg (by rw [Nat.testBit_lt_two_pow hk]; decide),append_nil]
   ·obtain ⟨k,hk,rfl⟩:=zdH n s hs
    refine ⟨2 ^ n + k,by rw [pow_succ]; lia,?_⟩
    rw [e,low (2 ^ n + k) k fun i hi=>Nat.testBit_two_pow_add_gt hi k,if_pos (by rw [Nat.testBit_two_pow_add_eq,Nat.testBit_lt_two_pow hk]; rfl)]
theorem zg3 {k i:Nat}:decide (((k:Int) / 2 ^ ((i:Int)).toNat) % 2=1)=decide (k / 2 ^ i % 2=1):=by
 rw [toNat_natCast]
 refine decide_eq_decide.mpr ?_
 have:((k:Int) / 2 ^ i) % 2=((k / 2 ^ i % 2:Nat):Int):=by simp
 rw [this]
 lia
structure Ask where
 B:List Wd
 w:Wd
 col:List Nat
structure Ask.ok (c:Ask) (most:Nat):Prop where
 B:goodB c.col 6 most c.B
 w:c.w.length<=12
 wc:∀ x∈c.w,x∈c.col
 c0:0 < c.col.length
 c1:c.col.length<=26
 cs:c.col.Pairwise (· < ·)
 cl:∀ x∈c.col,97<=x/\x<=122
noncomputable def askD (c:Ask):D:=.tup [boardD c.B,.str c.w,.str c.col]
theorem zfA {n:Nat}:∀ l:List Wd,(∀ x∈l,x.length<=n)->(l.map List.length).sum<=l.length * n
 | [],_=>by simp
 | a::l,h=>by
   have h1:=h a (by simp)
   have h2:=zfA l fun x hx=>h x (by simp [hx])
   simp only [map_cons,sum_cons,length_cons,Nat.add_mul]
   lia
theorem zgo {a s many most:Int} (ha:0<=a) (hs:1<=s) (hs2:s<=2147483629) (hm:0 < many) (hm2:many<=26) (ho:1<=most) (ho2:most<=500)
  (h:∀ (c:Ask) a' s',c.ok most.toNat->0<=a'->1<=s'->s'<=2147483629->P (.sh (askD c)) [box a' s',.sh (.int many),.sh (.int most)]):w_15 [box a s,.sh (.int many),.sh (.int most)] P PX:=by
 refine za5 rfl rfl ?_
 simp! [box]
 refine zal ha hs hs2 (by lia) (by lia) fun r a1 s1 hr hr2 ha1 hs1 hs21=>?_
 simp! [box]
 refine zef ha1 hs1 hs21 (by lia) (by lia) fun col a2 s2 hcol hso hle ha2 hs2 hs22=>?_
 simp! [box]
 refine zgp ha2 hs2 hs22 (by lia) (by lia) (by decide) (by decide) (by lia) (by lia) fun B a3 s3 hB ha3 hs3 hs23=>?_
 have hB':goodB col 6 most.toNat B:=hB
 simp! [box]
 refine zal ha3 hs3 hs23 (by decide) (by decide) fun r5 a5 s5 hr5 hr52 ha5 hs5 hs25=>?_
 simp! [box]
 refine zi5 ha5 hs5 hs25 (by lia) (by lia) (by decide) (by decide) (by have:=hB'.1; lia) (fun w hw=>⟨by have:=(hB'.2.2 w hw).2.1; lia,(hB'.2.2 w hw).2.2⟩) fun t a4 s4 ht htc ha4 hs4 hs24=>?_
 have ht':t.length<=12:=ht
 have fin:∀ (w:Wd) (b t:Int),0<=b->1<=t->t<=2147483629->w.length<=12->(∀ x∈w,x∈col)->
   (wSeq (wIf (wtAnd (wCmp cEq (wVar 5) (wC (.int 1))) (wCmp cNe (wVar 4) (wTup wNil))) (wAsg (gName 6) (wSl (wMS mJoin (wC (.str [])) (wCons (wLC 7 1 (wRange1 (wCall w_6 [true,true] (wCons (wVar 0) (wCons (wC (.int 5)) wNil)))) (gName 8) wYes w_15_c1) wNil)) none (some (wC (.int 12))))) wPass)
  (wRet (wTup (wCons (wVar 4) (wCons (wVar 6) (wCons (wVar 3) wNil))))))
   (fnE 3 [.lst [.sh (.int a),.sh (.int s)],.sh (.int many),.sh (.int most)] P PX) [some (.lst [.sh (.int b),.sh (.int t)]),some (.sh (.int many)),some (.sh (.int most)),some (.sh (.str col)),some (.sh (boardD B)),some (.sh (.int r5)),some (.sh (.str w))]:=fun w b t hb ht ht2 hw hwc=>by
  simp! [box]
  cases q:decide (r5=1)
  ·simp! [e_C]
   exact h ⟨B,w,col⟩ b t ⟨hB',hw,hwc,by show 0 < col.length; lia,by show col.length<=26; lia,hso,hle⟩ hb ht ht2
  simp! [boardD,zjE]
  cases q2:decide (B=[])
  ·have hpos:0 < B.length:=length_pos_iff.mpr (of_decide_eq_false q2)
   simp! [e_C]
   refine zal hb ht ht2 (by decide) (by decide) fun r6 a6 s6 hr6 hr62 ha6 hs6 hs26=>?_
   simp! [box]
   refine ⟨by simp only [zah]; lia,?_⟩
   refine bd1 (n:=7) (fun z:Wd=>S.sh (.str z)) _ (fun O=>∃ a s,0<=a/\1<=s/\s<=2147483629/\O=[some (box a s),some (.sh (.int many)),some (.sh (.int most)),some (.sh (.str col)),some (.sh (boardD B)),some (.sh (.int r5)),some (.sh (.str w))]) (fun z=>z∈B) (fun x hx O A o K hI hA hK=>?_) (fun O A o hI hA hP=>?_) ⟨a6,s6,ha6,hs6,hs26,rfl⟩
   ·obtain ⟨a,s,ha,hs,hs2,rfl⟩:=hI
    have:=hB'.1
    rw [zaI] at hA
    simp! [x_bX,zb2,u_15_c1,box,boardD,length_map]
    refine zal ha hs hs2 (by lia) (by lia) fun r7 a7 s7 hr7 hr72 ha7 hs7 hs27=>?_
    obtain ⟨z,hz,_,ez⟩:=zcJ (f:=D.str) (l:=B) hr7 hr72
    simp! [ez,length_map]
    exact ⟨by simp only [zah]; lia,hK _ _ _ ⟨a7,s7,ha7,hs7,hs27,rfl⟩ hz⟩
   ·obtain ⟨a,s,ha,hs,hs2,rfl⟩:=hI
    rw [zaI] at hA
    have hfl:=zfA (n:=500) A fun x hx=>by have:=(hB'.2.2 x (hP x hx)).2.1; lia
    rw [show (A.map fun z:Wd=>S.sh (.str z))=(A.map D.str).map S.sh by rw [map_map]; rfl]
    simp! [box,zap,zhn (show (A.map List.length).sum<=big by simp only [zah]; lia)]
    refine h ⟨B,cutL A.flatten none (some 12),col⟩ a s ⟨hB',?_,fun x hx=>?_,by show 0 < col.length; lia,by show col.length<=26; lia,hso,hle⟩ ha hs hs2
    ·show (cutL A.flatten none (some 12)).length<=12
     unfold cutL sIx
     simp
     lia
    ·have:=zaV (show x∈cutL A.flatten none (some 12) from hx)
     obtain ⟨z,hz,hxz⟩:=List.mem_flatten.mp this
     exact (hB'.2.2 z (hP z hz)).2.2 x hxz
  ·simp! [e_C]
   exact h ⟨B,w,col⟩ b t ⟨hB',hw,hwc,by show 0 < col.length; lia,by show col.length<=26; lia,hso,hle⟩ hb ht ht2
 simp! [box,zap]
 cases q:decide (r5=0)
 ·have:=fin t a4 s4 ha4 hs4 hs24 ht' htc
  simp! [e_C] at this ⊢
  exact this
 ·simp! [box]
  refine zeb ha4 hs4 hs24 (by decide) (by decide) (by lia) (by lia) fun w a6 s6 hw1 hw2 ha6 hs6 hs26=>?_
  have:=fin w a6 s6 ha6 hs6 hs26 hw1 hw2
  simp! [box] at this ⊢
  exact this
theorem zlS {B:List Wd} {w:Wd} {p:Nat} (hp:p<=w.length):atI (tiesL B w) (p:Int)=some (.lst ((nb B w p).map natD)):=by
 refine zbw (by lia) ?_
 rw [toNat_natCast]
 unfold tiesL
 rw [getElem?_map,getElem?_range (by lia)]; rfl
abbrev TS:=List (Nat×Nat)
noncomputable def dctL (L:TS):S:=.dct false (keyL L) ((valL L).map .sh)
theorem zfm {B:List Wd} {w:Wd} {q:Nat} (h:Conn (TieR B w) w.length q):q<=w.length:=by
 cases h with
 | refl=>exact le_refl _
 | step _ e=>exact (zkP _ _ e).2
theorem zbV {B:List Wd} {w:Wd} {L:TS} (h:Right (TieR B w) w.length L):L.length<=w.length + 1:=by
 have:=zbL (L.map (·.1)) (List.range (w.length + 1)) h.nd fun x hx=>by
  obtain ⟨t,ht,rfl⟩:=mem_map.mp hx
  have:=zfm (zaS (h.ok t ht).1)
  exact mem_range.mpr (by lia)
 rw [length_map,length_range] at this
 exact this
theorem ze4 {B:List Wd} {w:Wd} {D':Ends} {s1 o6:Option S} (h12:w.length<=60)
  (fin:∀ (L:TS) (o4 o5:Option S),Queue (TieR B w) w.length L []->D'.nx [some (.sh (.lst (tiesL B w))),s1,some (dctL L),some (.lst []),o4,o5,o6]):
  wWhile (wCmp cNe (wVar 3) (wLst wNil)) w_14_b2 D' [some (.sh (.lst (tiesL B w))),s1,some (dctL [(w.length,0)]),some (.lst [.sh (natD w.length)]),none,none,o6]:=by
 refine zm5 (fun m O=>∃ (L qu:TS) (o4 o5:Option S),Queue (TieR B w) w.length L qu/\m + 2 * L.length=2 * (w.length + 1) + qu.length/\m<=2 * (w.length + 1)/\O=[some (.sh (.lst (tiesL B w))),s1,some (dctL L),some (.lst ((keyL qu).map .sh)),o4,o5,o6]) (2 * (w.length + 1) - 1) ⟨[(w.length,0)],[(w.length,0)],none,none,Queue.start,by simp; lia,by lia,rfl⟩ fun m O hJ=>?_
 obtain ⟨L,qu,o4,o5,hq,hm,hmb,rfl⟩:=hJ
 have hLl:=zbV hq.right
 cases qu with
 | nil=>
   simp! [x_Wf,keyL,map_nil,zfi (show deps []<=29 by decide),List.isEmpty_nil]
   exact fin L o4 o5 hq
 | cons t qu=>
   have hmid:=hq.take
   have hle:t.1<=w.length:=zfm (zaS (hq.right.ok t hmid.tin).1)
   have hdk:deps (keyL (t::qu))<=29:=zeU _ fun d hd=>by
    unfold keyL at hd
    obtain ⟨u,_,rfl⟩:=mem_map.mp hd
    show 0<=29
    decide
   rw [length_cons] at hm
   have hql:qu.length<=2 * (w.length + 1):=by lia
   have hkl:(keyL (t::qu)).length=qu.length + 1:=by simp [keyL]
   simp! [x_Wt,zap,zfi hdk,show (keyL (t::qu)).isEmpty=false from rfl,u_14_b2,length_map,hkl,zlS hle]
   refine zkg (s:=.sh (natD t.1)) (by decide) (by rw [length_map,hkl]; simp only [zah]; lia) rfl ?_
   rw [show (List.map S.sh (keyL (t::qu))).eraseIdx (Int.toNat 0)=(keyL qu).map S.sh from rfl]
   simp! [natD,zlS hle]
   refine zbd (toD:=natD) (fun pre O=>∃ (L2 qu2:TS) (o5:Option S),Mid (TieR B w) w.length L2 qu2 t pre/\L2.length + qu.length=L.length + qu2.length/\L.length<=L2.length/\O=[some (.sh (.lst (tiesL B w))),s1,some (dctL L2),some (.lst ((keyL qu2).map .sh)),some (.sh (.int (t.1:Int))),o5,o6]) (nb B w t.1) (fun pre q post D2 O e hI hnx hct hrt hbk=>?_) (fun O hI=>?_) ⟨L,qu,o5,hmid,rfl,le_refl _,rfl⟩
   ·obtain ⟨L2,qu2,o5,hm2,hl2,hl3,rfl⟩:=hI
    have hqn:q∈nb B w t.1:=by rw [<- e]; simp
    have hr:TieR B w t.1 q:=zba.mp hqn
    have hL2:=zbV hm2.right
    by_cases hin:∃ d,(q,d)∈L2
    ·have hn:=zhq (vs:=valL L2) hin
     simp! [u_14_b1,natD,dctL,zfb,hn]
     obtain ⟨d,hd⟩:=hin
     exact hnx _ ⟨L2,qu2,_,hm2.skip hd,hl2,hl3,rfl⟩
    ·have hn:=zkl (vs:=valL L2) hin
     have hlk:lk (keyL L2) (valL L2) (.int (t.1:Int))=some (.int (t.2:Int)):=zeQ (f:=natD) hm2.right.nd (show (t.1,t.2)∈L2 from hm2.tin)
     simp! [u_14_b1,natD,dctL,zfb,hn,hlk]
     have k1:(keyL L2).length=L2.length:=by simp [keyL]
     have k2:((keyL qu2).map S.sh).length=qu2.length:=by simp [keyL]
     refine ⟨zlf hm2.right.nd,by rw [k1]; simp only [zah]; lia,by rw [k2]; simp only [zah]; lia,?_⟩
     rw [zjB fun d hd=>hin ⟨d,hd⟩]
     refine hnx _ ⟨L2++[(q,t.2 + 1)],qu2++[(q,t.2 + 1)],some (.sh (.int (q:Int))),hm2.put hr (fun e he=>hin ⟨e,he⟩),by simp only [length_append,length_singleton]; lia,by simp only [length_append,length_singleton]; lia,?_⟩
     simp [dctL,keyL,valL,natD]
   ·obtain ⟨L2,qu2,o5,hm2,hl2,hl3,rfl⟩:=hI
    have hL2:=zbV hm2.right
    refine zmh (m':=2 * (w.length + 1) + qu2.length - 2 * L2.length) (by lia) ⟨L2,qu2,_,_,hm2.queue fun q hq=>zba.mpr hq,by lia,by lia,rfl⟩
theorem zkk {B:List Wd} {w:Wd} {L:TS} (hq:Queue (TieR B w) w.length L []) {q d:Nat} (h:IsDist (TieR B w) w.length q d):lk (keyL L) (valL L) (.int (q:Int))=some (.int (d:Int)):=zeQ (f:=natD) hq.right.nd (hq.done h)
theorem zgR {B:List Wd} {w:Wd} {D':Ends} {s1 o3 o4 o5:Option S} {L:TS} {p:Nat} (h12:w.length<=60) (hq:Queue (TieR B w) w.length L []) {d:Nat} (hd:IsDist (TieR B w) w.length p d)
  (fin:D'.nx [some (.sh (.lst (tiesL B w))),s1,some (dctL L),o3,o4,o5,some (.lst (((wayP B w d p).map natD).map .sh))]):
  wWhile (wCmp cNe (wIx (wVar 6) (wUn oNeg (wC (.int 1)))) (wBin oSub (wB bLen (wCons (wVar 0) wNil)) (wC (.int 1)))) w_14_b4 D' [some (.sh (.lst (tiesL B w))),s1,some (dctL L),o3,o4,o5,some (.lst [.sh (natD p)])]:=by
 have htl:(tiesL B w).length=w.length + 1:=by simp [tiesL]
 refine zm5 (fun m O=>∃ (pre:List Nat) (cur:Nat),IsDist (TieR B w) w.length cur m/\pre++wayP B w m cur=wayP B w d p/\pre.length + m<=d/\O=[some (.sh (.lst (tiesL B w))),s1,some (dctL L),o3,o4,o5,some (.lst (((pre.map natD).map .sh)++[.sh (.int (cur:Int))]))]) d ⟨[],p,hd,rfl,by simp,rfl⟩ fun m O hJ=>?_
 obtain ⟨pre,cur,hc,hw,hpl,rfl⟩:=hJ
 have hcl:cur<=w.length:=zfm (zaS hc.1)
 have e1:(((w.length + 1:Nat):Int) - 1)=(w.length:Int):=by lia
 simp! [zdy,htl,e1]
 cases m with
 | zero=>
   have:=ziw hc
   subst this
   simp! [x_Wf,decide_true,Bool.not_true]
   have e2:((pre.map natD).map S.sh)++[S.sh (.int (w.length:Int))]=((wayP B w d p).map natD).map S.sh:=by
    rw [<- hw]; simp [wayP,natD]
   rw [e2]
   exact fin
 | succ m=>
   have hne:¬ (cur:Int)=(w.length:Int):=fun z=>by
    have:cur=w.length:=by lia
    subst this
    have:=znQ hc
    lia
   have hdl:d<=w.length + 1:=by have:=zjO hq hd; have:=zbV hq.right; lia
   rw [decide_eq_false hne]
   simp! [x_Wt,u_14_b4,zdy,zlS hcl]
   obtain ⟨r,hr,hn⟩:=zhF hc
   refine bl1 (n:=7) (toD:=natD) (nb B w cur) (fun q=>if decide (dst (TieR B w) w.length q + 1=dst (TieR B w) w.length cur)=true then some (.sh (natD q)) else none) (fun q hqm l o K hl hK=>?_) fun o=>?_
   ·obtain ⟨k,hk⟩:=zbf.mp ((zaS hc.1).step (zba.mp hqm))
    simp! [x_bX,natD,dctL,zfb,zkk hq hk,zkk hq hc,zdy,u_14_c3]
    have hl1:=zfE (B:=B) (w:=w) (p:=cur)
    have eq:decide (dst (TieR B w) w.length q + 1=dst (TieR B w) w.length cur)=decide ((k:Int)=((m + 1:Nat):Int) - 1):=by
     rw [zde hk,zde hc]
     exact decide_eq_decide.mpr (by lia)
    rw [eq] at hK
    cases q2:decide ((k:Int)=((m + 1:Nat):Int) - 1)
    ·rw [q2] at hK
     simp! [zgJ]
     have:=hK (some (.sh (.int (q:Int))))
     rw [if_neg (by decide),toList_none,append_nil] at this
     exact this
    ·rw [q2] at hK
     simp! [zb2,u_14_c3]
     exact ⟨by simp only [zah]; lia,hK _⟩
   ·have hl1:=zfE (B:=B) (w:=w) (p:=cur)
    rw [zgv (fun q=>decide (dst (TieR B w) w.length q + 1=dst (TieR B w) w.length cur)) (fun q=>S.sh (natD q)),hr]
    have hso:(nearer B w cur::r).Pairwise (· < ·):=by rw [<- hr]; exact zcV.filter _
    have eb:bMinL [.lst (natD (nearer B w cur)::r.map natD)]=some (.sh (.int ((nearer B w cur:Nat):Int))):=by
     show (intsD _).bind _=_
     rw [show (natD (nearer B w cur)::r.map natD)=((nearer B w cur::r).map fun q=>((q:Nat):Int)).map D.int by rw [map_map]; rfl,zbh,Option.bind_some,zjf hso]; rfl
    rw [show ((nearer B w cur::r).map fun q=>S.sh (natD q))=((nearer B w cur::r).map natD).map S.sh by rw [map_map]; rfl]
    simp! [zap,eb,length_append,length_map,length_singleton,length_cons,length_nil]
    refine ⟨by simp only [zah]; lia,zmh (m':=m) (by lia) ⟨pre++[cur],nearer B w cur,hn,?_,by rw [length_append,length_singleton]; lia,?_⟩⟩
    ·rw [<- hw]
     show pre++[cur]++wayP B w m (nearer B w cur)=pre++(cur::wayP B w m (nearer B w cur))
     simp
    ·simp [natD,dctL]
theorem zj9 {B:List Wd} {w:Wd} {p:Nat} (h12:w.length<=60) (hp:p<=w.length)
  (h1:∀ d,IsDist (TieR B w) w.length p d->P (.sh (.tup ((wayP B w d p).map natD))) [.sh (.lst (tiesL B w)),.sh (.int (p:Int))])
  (h2:¬ Conn (TieR B w) w.length p->P (.sh (.tup [])) [.sh (.lst (tiesL B w)),.sh (.int (p:Int))]):w_14 [.sh (.lst (tiesL B w)),.sh (.int (p:Int))] P PX:=by
 have htl:(tiesL B w).length=w.length + 1:=by simp [tiesL]
 have e1:(((w.length + 1:Nat):Int) - 1)=(w.length:Int):=by lia
 refine za5 rfl rfl ?_
 simp! [htl,e1]
 refine ze4 h12 fun L o4 o5 hq=>?_
 by_cases hc:Conn (TieR B w) w.length p
 ·obtain ⟨d,hd⟩:=zbf.mp hc
  have hn:=zhq (vs:=valL L) ⟨d,hq.done hd⟩
  simp! [dctL,zfb,hn]
  refine zgR h12 hq hd ?_
  simp! [zap]
  exact h1 d hd
 ·have hn:=zkl (vs:=valL L) (L:=L) (q:=p) fun ⟨d,hd⟩=>hc (zbf.mpr ⟨d,hq.right.ok _ hd⟩)
  simp! [dctL,zfb,hn]
  exact h2 hc
theorem zk3 {l:List Nat} (h:0 < l.length):cEq (.tup (l.map natD)) (.tup [])=some false:=by
 unfold cEq
 rw [if_neg (by
  have:dep (.tup (l.map natD))=1:=by show deps (l.map natD) + 1=1; rw [show l.map natD=(l.map fun q=>((q:Nat):Int)).map D.int by rw [map_map]; rfl,zbc]
  rw [this]
  exact fun z=>by cases l <;> exact Bool.noConfusion (show false=true from z))]
 cases l with
 | nil=>cases h
 | cons a l=>
   refine congrArg some ?_
   rw [decide_eq_false_iff_not]
   exact fun z=>by cases z
theorem zje:cEq (.tup []) (.tup [])=some true:=by
 unfold cEq
 rw [if_neg (by decide)]
 simp
theorem zkI (B:List Wd) (w:Wd):∀ d p,0 < (wayP B w d p).length
 | 0,_=>by simp [wayP]
 | _ + 1,_=>by simp [wayP]
theorem znK:cIs .non .non=some true:=by simp [cIs]
theorem zmX {l:List D}:cIs (.tup l) .non=some false:=by simp [cIs]
theorem zeP {B:List Wd} {w:Wd} (hf:Fit B w)
  (h1:(∀ t,t.Sublist (List.range B.length)->lnd B w t w.length≠0)->P (.sh .non) [.sh (boardD B),.sh (.str w)])
  (h2:∀ s,s.Sublist (List.range B.length)->lnd B w s w.length=0->(∀ t,t.Sublist (List.range B.length)->lnd B w t w.length=0->cst (List.replicate B.length 1) s<=cst (List.replicate B.length 1) t)->P (.sh (.tup (s.map natD))) [.sh (boardD B),.sh (.str w)]):
  w_3 [.sh (boardD B),.sh (.str w)] P PX:=by
 have h6:=hf.six
 refine za5 rfl rfl ?_
 simp! [boardD]
 refine bm1 (n:=3) B (fun _=>.sh (.int 1)) (fun x hx l o K hl hK=>?_) fun o=>?_
 ·simp! [x_bX,zb2,u_3_c1]
  exact ⟨by simp only [zah]; lia,hK _⟩
 ·rw [show B.map (fun _=>S.sh (D.int 1))=((List.replicate B.length (1:Int)).map D.int).map S.sh by rw [map_map,List.map_const',List.map_replicate]; rfl]
  simp! [zap]
  refine zdx (pr:=List.replicate B.length 1) hf (by simp) rfl (fun hn=>?_) fun s hs hz hm=>?_
  ·simp! [znK]
   exact h1 hn
  ·simp! [cstD,zmX,show atI [D.int (paid (List.replicate B.length 1) s),D.int (s.length:Int),D.tup (s.map natD)] 2=some (D.tup (s.map natD)) from rfl]
   exact h2 s hs hz hm
noncomputable def c2 (s:Sb):List Int:=(s.length:Int)::nI s
noncomputable def pD2 (s:Sb):D:=.tup [.int (s.length:Int),.tup (s.map natD)]
theorem zm8 (s t:Sb):cmpD (pD2 s) (pD2 t)=.lt↔c2 s < c2 t:=by
 unfold pD2 c2
 rw [cmpD,cmpDs,cmpDs,cmpD,cmpD,nI_D,nI_D,za4,cmpDs,cons_lt_cons_iff]
 by_cases h3:(s.length:Int) < t.length
 ·simp [h3]
 ·by_cases h4:(t.length:Int) < s.length
  ·simp [h3,h4]
   lia
  ·have e2:(s.length:Int)=t.length:=by lia
   rw [if_neg h3,if_neg h4]
   simp only [e2,Int.lt_irrefl,false_or,true_and]
   by_cases h5:nI s < nI t
   ·simp [h5]
   ·by_cases h6:nI t < nI s
    ·simp [h5,h6]
    ·simp [h5,h6]
theorem zlA (s t:Sb):like (pD2 s) (pD2 t)=true/\dep (pD2 s)<=9:=by
 unfold pD2
 refine ⟨?_,?_⟩
 ·rw [like,likes,likes,like,like,zcz]
  unfold likes; rfl
 ·show max 0 (max (deps (s.map natD) + 1) 0) + 1<=9
  rw [nI_D,zbc]
  decide
theorem zcA {n:Nat}:∀ {s:Sb},(∀ k∈s,k < n)->paid (List.replicate n 1) s=s.length
 | [],_=>rfl
 | k::s,h=>by
   have ih:=zcA fun j hj=>h j (qm _ hj)
   unfold paid at ih ⊢
   rw [map_cons,sum_cons,ih,List.getElem?_replicate,if_pos (h k qo)]
   simp
   lia
theorem zlZ {n:Nat} {s t:Sb} (hs:s.Sublist (List.range n)) (ht:t.Sublist (List.range n)):cst (List.replicate n 1) s<=cst (List.replicate n 1) t↔c2 s<=c2 t:=by
 rw [<- List.not_lt,<- List.not_lt]
 unfold cst c2
 rw [zcA fun k hk=>mem_range.mp (hs.subset hk),zcA fun k hk=>mem_range.mp (ht.subset hk),cons_lt_cons_iff,cons_lt_cons_iff]
 refine not_congr ⟨fun h=>h.elim .inl fun h=>h.2,fun h=>h.elim (fun z=>.inl z) fun z=>.inr ⟨z.1,.inr z⟩⟩
noncomputable def fxs (B:List Wd) (w:Wd) (pre:List Nat):List Sb:=(pre.map (bitsOf B.length)).filter fun s=>decide (lnd B w s w.length=0)
theorem zkO {B:List Wd} {w:Wd} {pre:List Nat} {k:Nat} (h:lnd B w (bitsOf B.length k) w.length=0):fxs B w (pre++[k])=fxs B w pre++[bitsOf B.length k]:=by simp [fxs,h]
theorem zmC {B:List Wd} {w:Wd} {pre:List Nat} {k:Nat} (h:¬ lnd B w (bitsOf B.length k) w.length=0):fxs B w (pre++[k])=fxs B w pre:=by simp [fxs,h]
theorem zfz {B:List Wd} {w:Wd} (hf:Fit B w)
  (h1:(∀ t,t.Sublist (List.range B.length)->lnd B w t w.length≠0)->P (.sh .non) [.sh (boardD B),.sh (.str w)])
  (h2:∀ s,s.Sublist (List.range B.length)->lnd B w s w.length=0->(∀ t,t.Sublist (List.range B.length)->lnd B w t w.length=0->c2 s<=c2 t)->P (.sh (.tup (s.map natD))) [.sh (boardD B),.sh (.str w)]):
  w_16 [.sh (boardD B),.sh (.str w)] P PX:=by
 have h6:=hf.six
 have h12:=hf.tw
 have hp64:2 ^ B.length<=64:=Nat.pow_le_pow_right (by decide:0 < 2) h6
 refine za5 rfl rfl ?_
 simp! [boardD,length_map]
 have e0:(1 * 2 ^ ((B.length:Nat):Int).toNat:Int)=((2 ^ B.length:Nat):Int):=by
  rw [toNat_natCast,Int.one_mul]
  simp
 rw [e0]
 refine ⟨by simp only [zah]; lia,?_⟩
 rw [from0 (n:=2 ^ B.length) rfl]
 refine zbd (fun pre O=>∃ (o3 o4:Option S),O=[some (.sh (boardD B)),some (.sh (.str w)),some (.lst (((fxs B w pre).map pD2).map .sh)),o3,o4]) (List.range (2 ^ B.length)) (fun pre k post D2 O e hI hnx hct hrt hbk=>?_) (fun O hI=>?_) ⟨none,none,rfl⟩
 ·obtain ⟨o3,o4,rfl⟩:=hI
  obtain ⟨hk1,hk2⟩:=zbW e
  have hsub:=zfN B.length k
  have hlt:∀ j∈bitsOf B.length k,j < B.length:=fun j hj=>mem_range.mp (hsub.subset hj)
  have hsl:(bitsOf B.length k).length<=6:=by have:=hsub.length_le; rw [length_range] at this; lia
  have hpl:(fxs B w pre).length<=pre.length:=by
   have:=List.length_filter_le (fun s=>decide (lnd B w s w.length=0)) (pre.map (bitsOf B.length))
   rwa [length_map] at this
  simp! [u_16_b3,boardD,length_map]
  refine ⟨by simp only [zah]; lia,?_⟩
  rw [from0 (n:=B.length) rfl]
  refine bl1 (n:=5) (List.range B.length) (fun i=>if decide (k / 2 ^ i % 2=1)=true then some (.sh (natD i)) else none) (fun i hi l o K hl hK=>?_) fun o=>?_
  ·rw [length_range] at hl
   have hpos:(0:Int)<=(k:Int) / 2 ^ ((i:Int)).toNat:=Int.ediv_nonneg (by lia) (Int.le_of_lt (Int.pow_pos (by decide)))
   cases q:decide (k / 2 ^ i % 2=1)
   ·simp! [x_bX,zhr hpos,zg3,q,zgJ]
    have:=hK (some (.sh (.int (i:Int))))
    rw [q,if_neg (by decide),toList_none,append_nil] at this
    exact this
   ·simp! [x_bX,zhr hpos,zg3,q,zb2,u_16_c1]
    rw [q,if_pos rfl] at hK
    exact ⟨by simp only [zah]; lia,hK _⟩
  ·rw [zgv (fun i=>decide (k / 2 ^ i % 2=1)) (fun i=>S.sh (natD i)),show ((List.range B.length).filter fun i=>decide (k / 2 ^ i % 2=1))=bitsOf B.length k from rfl,show ((bitsOf B.length k).map fun i=>S.sh (natD i))=((bitsOf B.length k).map natD).map S.sh by rw [map_map]; rfl]
   simp! [zap]
   refine bm1 (n:=5) (bitsOf B.length k) (fun i=>.sh (.str ((B[i]?).getD []))) (fun i hi l o K hl hK=>?_) fun o=>?_
   ·have hat:atI (B.map D.str) (i:Int)=some (.str ((B[i]?).getD [])):=zbw (by lia) (by rw [toNat_natCast,getElem?_map,qi (hlt i hi)]; rfl)
    simp! [x_bX,zb2,u_16_c2,natD,hat]
    exact ⟨by simp only [zah]; lia,hK _⟩
   ·rw [show ((bitsOf B.length k).map fun i=>S.sh (D.str ((B[i]?).getD [])))=((subB B (bitsOf B.length k)).map D.str).map S.sh by unfold subB; rw [map_map,map_map]; rfl]
    simp! [zap]
    refine zgw (B:=subB B (bitsOf B.length k)) (fun z=>zgg) (by lia) ?_
    simp! [zap]
    refine zj9 (B:=subB B (bitsOf B.length k)) (p:=0) (by lia) (by lia) (fun d hd=>?_) fun hn=>?_
    ·have hz:lnd B w (bitsOf B.length k) w.length=0:=(zgW hf hlt).mpr ((zbf.mpr ⟨d,hd⟩).symm zbR)
     have hne:cNe (.tup ((wayP (subB B (bitsOf B.length k)) w d 0).map natD)) (.tup [])=some true:=by unfold cNe; rw [zk3 (zkI _ _ _ _)]; rfl
     simp! [hne,length_map,length_cons,length_nil]
     refine ⟨by simp only [zah]; lia,?_⟩
     have:=hnx _ ⟨some (.sh (.int (k:Int))),some (.sh (.tup ((bitsOf B.length k).map natD))),rfl⟩
     rw [zkO hz,map_append,map_append] at this
     exact this
    ·have hz:¬ lnd B w (bitsOf B.length k) w.length=0:=fun z=>hn (((zgW hf hlt).mp z).symm zbR)
     have hne:cNe (.tup []) (.tup [])=some false:=by unfold cNe; rw [zje]; rfl
     simp! [hne]
     have:=hnx _ ⟨some (.sh (.int (k:Int))),some (.sh (.tup ((bitsOf B.length k).map natD))),rfl⟩
     rw [zmC hz] at this
     exact this
 ·obtain ⟨o3,o4,rfl⟩:=hI
  have hmem:∀ t,t∈fxs B w (List.range (2 ^ B.length))↔t.Sublist (List.range B.length)/\lnd B w t w.length=0:=fun t=>by
   unfold fxs
   rw [mem_filter,decide_eq_true_eq]
   refine and_congr_left fun _=>⟨fun h=>?_,fun h=>?_⟩
   ·obtain ⟨k,_,rfl⟩:=mem_map.mp h
    exact zfN _ _
   ·obtain ⟨k,hk,rfl⟩:=zdH _ _ h
    exact mem_map.mpr ⟨k,mem_range.mpr hk,rfl⟩
  simp! [zap,length_cons,length_nil]
  by_cases hfx:fxs B w (List.range (2 ^ B.length))=[]
  ·rw [hfx]
   simp! [show minDf (.lst []) (.tup [.int 0,.non])=some (.sh (.tup [.int 0,.non])) from rfl,show atI [D.int 0,D.non] 1=some D.non from rfl]
   refine h1 fun t ht hz=>?_
   have:=(hmem t).mpr ⟨ht,hz⟩
   rw [hfx] at this
   cases this
  ·obtain ⟨m,hm1,hm2,hm3⟩:=zhV zm8 zlA (df:=.tup [.int 0,.non]) _ hfx
   rw [hm2]
   simp! [pD2,show atI [D.int (m.length:Int),D.tup (m.map natD)] 1=some (D.tup (m.map natD)) from rfl]
   obtain ⟨h3,h4⟩:=(hmem m).mp hm1
   exact h2 m h3 h4 fun t ht hz=>hm3 t ((hmem t).mpr ⟨ht,hz⟩)
theorem zgj {B:List Wd} {w:Wd} (hf:Fit B w)
  (h:P (.sh (.bl true)) [.sh (boardD B),.sh (.str w)]):w_17 [.sh (boardD B),.sh (.str w)] P PX:=by
 have h6:=hf.six
 refine za5 rfl rfl ?_
 simp! [e_C]
 refine zeP hf (fun hn=>?_) fun s hs hz hm=>?_
 ·simp! [e_C]
  refine ⟨by rfl,?_⟩
  refine zfz hf (fun _=>?_) fun t ht hz _=>absurd hz (hn t ht)
  simp! [e_C]
  exact h
 ·simp! [e_C]
  refine ⟨?_,?_⟩
  ·rw [nI_D]
   have hl:=hs.length_le
   rw [length_range] at hl
   refine zgK (fun z hz=>?_) (by unfold nI; rw [length_map]; lia)
   obtain ⟨p,hp,rfl⟩:=mem_map.mp hz
   have:=mem_range.mp (hs.subset hp)
   lia
  refine zfz hf (fun hn=>absurd hz (hn s hs)) fun t ht hzt hmt=>?_
  have e:s=t:=zlF (le_antisymm (hm t ht hzt) ((zlZ ht hs).mpr (hmt s hs hz)))
  subst e
  simp! [e_C]
  exact h
abbrev BW:=List Wd×Wd
noncomputable def bwD (c:BW):D:=.tup [boardD c.1,.str c.2]
theorem zmK {col:List Nat} {B:List Wd} {w:Wd} (h:goodB col 6 6 B) (hw:w.length<=12):Fit B w:=⟨h.2.1,fun x hx=>(h.2.2 x hx).1,fun x hx=>by have:=(h.2.2 x hx).2.1; lia,h.1,hw⟩
theorem zlz {B:List Wd} {w:Wd} (hf:Fit B w):Fit (cutL B none (some 3)) []:=by
 have hc:cutL B none (some 3)=B.take 3:=by unfold cutL sIx; simp
 have hs:(B.take 3).Sublist B:=List.take_sublist _ _
 rw [hc]
 exact ⟨hf.nd.sublist hs,fun x hx=>hf.ne x (hs.subset hx),fun x hx=>hf.le x (hs.subset hx),le_trans hs.length_le hf.six,by simp⟩
theorem pure_law:∀ ns:List Int,ns.length<=63->w_18 [.sh (.lst (ns.map .int))] (fun s _=>s=.sh (.bl true)) fun _ _=>False:=by
 intro ns hl
 refine za5 rfl rfl ?_
 simp! [length_map,zap]
 generalize hz:(if (if (6:Int) < (ns.length:Int) then (6:Int) else (ns.length:Int)) > 3 then (if (6:Int) < (ns.length:Int) then (6:Int) else (ns.length:Int)) else 3)=z
 have hz1:3<=z/\z<=6:=by subst hz; split <;> split <;> lia
 refine ⟨by simp only [zah]; lia,?_⟩
 rw [from0 (n:=z.toNat) (by lia)]
 refine zbd (fun pre O=>∃ (A:List BW) (o2 o3 o4 o5:Option S),A.length=2 * pre.length/\(∀ c∈A,Fit c.1 c.2)/\O=[some (.sh (.lst (ns.map .int))),some (.sh (.lst (A.map bwD))),o2,o3,o4,o5]) (List.range z.toNat) (fun pre k post D2 O e hI hnx hct hrt hbk=>?_) (fun O hI=>?_) ⟨[],none,none,none,none,rfl,(fun _ h=>nomatch h),rfl⟩
 ·obtain ⟨A,o2,o3,o4,o5,hA,hF,rfl⟩:=hI
  have hk:=zbW e
  simp! [u_18_b1]
  refine zjz (by lia) fun a s ha hs hs2=>?_
  simp! [box]
  refine zgo ha hs hs2 (by decide) (by decide) (by decide) (by decide) fun c a' s' hc ha' hs' hs2'=>?_
  have hf:=zmK hc.B hc.w
  have hcl:=zaX (c.B.map D.str) none (some 3)
  rw [length_map] at hcl
  simp! [askD,box,length_cons,length_nil,boardD,length_map,zap]
  rw [zge]
  have:=hnx _ ⟨A++[(c.B,c.w),(cutL c.B none (some 3),[])],some (.sh (.int (k:Int))),some (.sh (boardD c.B)),some (.sh (.str c.w)),some (.sh (.str c.col)),by simp only [length_append,length_cons,length_nil]; lia,fun x hx=>?_,rfl⟩
  ·rw [map_append] at this
   exact this
  ·rcases mem_append.mp hx with hx | hx
   ·exact hF x hx
   ·simp only [mem_cons,List.not_mem_nil,or_false] at hx
    rcases hx with rfl | rfl
    ·exact hf
    ·exact zlz hf
 ·obtain ⟨A,o2,o3,o4,o5,hA,hF,rfl⟩:=hI
  rw [length_range] at hA
  have hcl:=zaX (A.map bwD) none (some 1)
  rw [length_map] at hcl
  simp! [zap,length_map]
  rw [zge,<- map_append]
  have hcl2:=zaX A none (some 1)
  refine bm2 (n:=6) (A++cutL A none (some 1)) (fun _=>.sh (.bl true)) (fun c hc l o o' K hl hK=>?_) fun o o'=>?_
  ·have hf:Fit c.1 c.2:=by
    rcases mem_append.mp hc with hc | hc
    ·exact hF c hc
    ·exact hF c (zaV hc)
   rw [length_append] at hl
   simp! [x_bX,zb2,u_18_c2,bwD,length_cons,length_nil]
   refine zgj hf ?_
   simp! [e_C]
   exact ⟨by simp only [zah]; lia,hK _ _⟩
  ·rw [show ((A++cutL A none (some 1)).map fun _=>S.sh (.bl true))=(((A++cutL A none (some 1)).map fun _=>true).map D.bl).map S.sh by rw [map_map,map_map]; rfl]
   simp! [zap,znX,all_map]
   simp
end pu
end Law
end
section
set_option maxHeartbeats 4000000
namespace Law
open PySem PySem.Spec PyProof.Rows L2 FL
local macro_rules
 | `(tactic| trivial)=>`(tactic| first | exact Or.inl rfl | exact Or.inr rfl)
def top (i:Nat):Stmt:=PySem.Challenge.pw_walktold_k92_words_enough.main.body.getD i (.Pass ⟨0,0,0,0⟩)
abbrev s_0:Stmt:=top 1
noncomputable def n_0:List Str:=["board","word"]
abbrev p_0:List Str:=["board","word"]
theorem sc_0:FnScope n_0 p_0 (defScope s_0):=⟨rfl,rfl,rfl,by decide +kernel,rfl,by decide +kernel,by decide +kernel⟩
abbrev s_1:Stmt:=top 2
noncomputable def n_1:List Str:=["land","ends","told","i","j"]
abbrev p_1:List Str:=["land","ends"]
theorem sc_1:FnScope n_1 p_1 (defScope s_1):=⟨rfl,rfl,rfl,by decide +kernel,rfl,by decide +kernel,by decide +kernel⟩
abbrev s_2:Stmt:=top 3
noncomputable def n_2:List Str:=["land","i","j","low","high"]
abbrev p_2:List Str:=["land","i","j"]
theorem sc_2:FnScope n_2 p_2 (defScope s_2):=⟨rfl,rfl,rfl,by decide +kernel,rfl,by decide +kernel,by decide +kernel⟩
abbrev s_3:Stmt:=top 5
noncomputable def n_3:List Str:=["board","word","told"]
abbrev p_3:List Str:=["board","word"]
theorem sc_3:FnScope n_3 p_3 (defScope s_3):=⟨rfl,rfl,rfl,by decide +kernel,rfl,by decide +kernel,by decide +kernel⟩
abbrev s_4:Stmt:=top 6
noncomputable def n_4:List Str:=["board","word","prices","best","number","price","ends","land","paid","many","numbers","further","cost"]
abbrev p_4:List Str:=["board","word","prices"]
theorem sc_4:FnScope n_4 p_4 (defScope s_4):=⟨rfl,rfl,rfl,by decide +kernel,rfl,by decide +kernel,by decide +kernel⟩
abbrev s_5:Stmt:=top 8
noncomputable def n_5:List Str:=["_law_script","_law_k","_law_cell","_law_seed"]
abbrev p_5:List Str:=["_law_script","_law_k"]
theorem sc_5:FnScope n_5 p_5 (defScope s_5):=⟨rfl,rfl,rfl,by decide +kernel,rfl,by decide +kernel,by decide +kernel⟩
abbrev s_6:Stmt:=top 9
noncomputable def n_6:List Str:=["_law_box_here","_law_many","_law_digit","_law_one"]
abbrev p_6:List Str:=["_law_box_here","_law_many"]
theorem sc_6:FnScope n_6 p_6 (defScope s_6):=⟨rfl,rfl,rfl,by decide +kernel,rfl,by decide +kernel,by decide +kernel⟩
abbrev s_7:Stmt:=top 10
noncomputable def n_7:List Str:=["_law_box_here","_law_many","_law_left"]
abbrev p_7:List Str:=["_law_box_here","_law_many"]
theorem sc_7:FnScope n_7 p_7 (defScope s_7):=⟨rfl,rfl,rfl,by decide +kernel,rfl,by decide +kernel,by decide +kernel⟩
abbrev s_8:Stmt:=top 11
noncomputable def n_8:List Str:=["_law_box_here","_law_colours_here","_law_most","_law_many"]
abbrev p_8:List Str:=["_law_box_here","_law_colours_here","_law_most"]
theorem sc_8:FnScope n_8 p_8 (defScope s_8):=⟨rfl,rfl,rfl,by decide +kernel,rfl,by decide +kernel,by decide +kernel⟩
abbrev s_9:Stmt:=top 12
noncomputable def n_9:List Str:=["_law_box_here","_law_colours_here","_law_board_here","_law_one","_law_kind","_law_colour","_law_at"]
abbrev p_9:List Str:=["_law_box_here","_law_colours_here","_law_board_here"]
theorem sc_9:FnScope n_9 p_9 (defScope s_9):=⟨rfl,rfl,rfl,by decide +kernel,rfl,by decide +kernel,by decide +kernel⟩
abbrev s_10:Stmt:=top 13
noncomputable def n_10:List Str:=["_law_box_here","_law_colours_here","_law_many","_law_most","_law_found","_law_k","_law_word_here"]
abbrev p_10:List Str:=["_law_box_here","_law_colours_here","_law_many","_law_most"]
theorem sc_10:FnScope n_10 p_10 (defScope s_10):=⟨rfl,rfl,rfl,by decide +kernel,rfl,by decide +kernel,by decide +kernel⟩
abbrev s_11:Stmt:=top 14
noncomputable def n_11:List Str:=["_law_board_here","_law_text","_law_p","_law_most","_law_found","_law_one"]
abbrev p_11:List Str:=["_law_board_here","_law_text","_law_p","_law_most"]
theorem sc_11:FnScope n_11 p_11 (defScope s_11):=⟨rfl,rfl,rfl,by decide +kernel,rfl,by decide +kernel,by decide +kernel⟩
abbrev s_12:Stmt:=top 15
noncomputable def n_12:List Str:=["_law_box_here","_law_board_here","_law_colours_here","_law_most","_law_text","_law_p","_law_turn","_law_some","_law_one","_law_goal","_law_at"]
abbrev p_12:List Str:=["_law_box_here","_law_board_here","_law_colours_here","_law_most"]
theorem sc_12:FnScope n_12 p_12 (defScope s_12):=⟨rfl,rfl,rfl,by decide +kernel,rfl,by decide +kernel,by decide +kernel⟩
abbrev s_13:Stmt:=top 16
noncomputable def n_13:List Str:=["_law_board_here","_law_word_here","_law_found","_law_i","_law_j"]
abbrev p_13:List Str:=["_law_board_here","_law_word_here"]
theorem sc_13:FnScope n_13 p_13 (defScope s_13):=⟨rfl,rfl,rfl,by decide +kernel,rfl,by decide +kernel,by decide +kernel⟩
abbrev s_14:Stmt:=top 17
noncomputable def n_14:List Str:=["_law_ties_here","_law_p","_law_steps","_law_here","_law_one","_law_q","_law_found"]
abbrev p_14:List Str:=["_law_ties_here","_law_p"]
theorem sc_14:FnScope n_14 p_14 (defScope s_14):=⟨rfl,rfl,rfl,by decide +kernel,rfl,by decide +kernel,by decide +kernel⟩
abbrev s_15:Stmt:=top 18
noncomputable def n_15:List Str:=["_law_box_here","_law_many","_law_most","_law_colours_here","_law_board_here","_law_kind","_law_word_here"]
abbrev p_15:List Str:=["_law_box_here","_law_many","_law_most"]
theorem sc_15:FnScope n_15 p_15 (defScope s_15):=⟨rfl,rfl,rfl,by decide +kernel,rfl,by decide +kernel,by decide +kernel⟩
abbrev s_16:Stmt:=top 19
noncomputable def n_16:List Str:=["_law_board_here","_law_word_here","_law_found","_law_number","_law_some"]
abbrev p_16:List Str:=["_law_board_here","_law_word_here"]
theorem sc_16:FnScope n_16 p_16 (defScope s_16):=⟨rfl,rfl,rfl,by decide +kernel,rfl,by decide +kernel,by decide +kernel⟩
abbrev s_17:Stmt:=top 20
noncomputable def n_17:List Str:=["_law_board_here","_law_word_here"]
abbrev p_17:List Str:=["_law_board_here","_law_word_here"]
theorem sc_17:FnScope n_17 p_17 (defScope s_17):=⟨rfl,rfl,rfl,by decide +kernel,rfl,by decide +kernel,by decide +kernel⟩
abbrev s_18:Stmt:=top 21
noncomputable def n_18:List Str:=["_law_script","_law_asked_here","_law_k","_law_board_here","_law_word_here","_law_colours_here"]
abbrev p_18:List Str:=["_law_script"]
theorem sc_18:FnScope n_18 p_18 (defScope s_18):=⟨rfl,rfl,rfl,by decide +kernel,rfl,by decide +kernel,by decide +kernel⟩
structure Txt (K:W.Frag) (mg:Str->Option Value) (af:Nat->Addr):Prop where
 t_0:Tx K mg (af 0) "stretches" s_0 p_0
 t_1:Tx K mg (af 1) "all_joined" s_1 p_1
 t_2:Tx K mg (af 2) "land_joined" s_2 p_2
 t_3:Tx K mg (af 3) "enough" s_3 p_3
 t_4:Tx K mg (af 4) "cheapest_words" s_4 p_4
 t_5:Tx K mg (af 5) "_law_box" s_5 p_5
 t_6:Tx K mg (af 6) "_law_take" s_6 p_6
 t_7:Tx K mg (af 7) "_law_colours" s_7 p_7
 t_8:Tx K mg (af 8) "_law_word" s_8 p_8
 t_9:Tx K mg (af 9) "_law_near" s_9 p_9
 t_10:Tx K mg (af 10) "_law_board" s_10 p_10
 t_11:Tx K mg (af 11) "_law_moves" s_11 p_11
 t_12:Tx K mg (af 12) "_law_led" s_12 p_12
 t_13:Tx K mg (af 13) "_law_ties" s_13 p_13
 t_14:Tx K mg (af 14) "_law_way" s_14 p_14
 t_15:Tx K mg (af 15) "_law_asked" s_15 p_15
 t_16:Tx K mg (af 16) "_law_due" s_16 p_16
 t_17:Tx K mg (af 17) "_law_right" s_17 p_17
 t_18:Tx K mg (af 18) "law" s_18 p_18
 n_all:mg "all"=none
 n_enumerate:mg "enumerate"=none
 n_int:mg "int"=none
 n_len:mg "len"=none
 n_list:mg "list"=none
 n_max:mg "max"=none
 n_min:mg "min"=none
 n_range:mg "range"=none
 n_repr:mg "repr"=none
 n_sorted:mg "sorted"=none
 n_tuple:mg "tuple"=none
section
variable {P:Program} {w:World} {K:W.Frag} {mg:Str->Option Value} {base:Heap} {af:Nat->Addr}
theorem ok_0 (T:Txt K mg af):FnOk P w K mg base (CXe P w) 1 (af 0) (dO K (af 0)) p_0 (spW K w_0 2):=by
 refine fn_w (k:=0) T.t_0.F sc_0 rfl rfl fun cdv A outer s H E hr=>?_
 exact zag (zav (zdz (by rfl) T.n_sorted zcw (zaa (zne (vars:=["i","k","one"]) rfl (zit hr) (by rfl) (compSc (by kernel_rfl)) rfl (zat (by rfl) T.n_range (zao (by rfl) T.n_len (zaa (fw 1) zab))) (fun _ _ _=>gcm 3) (fun _ _ _=>zaO) (fun _ _ _=>ziN (by rfl) (by rfl) T.n_enumerate zch (fw 0)) (fun _ _ _=>za9 (by rfl) (zaj (gcm 4) (zaj (gcm 5) zaF))) (fun _ _ _=>zb4 rfl (zan (fun _ _=>zaQ (u31 hr)) zaG (zfq (fw 1) (fw 3) (zam (fw 3) (zao (by rfl) T.n_len (zaa (fw 5) zab)))) (fw 5) (nomark _))) (fun _ _ _=>zaA (zaa (fw 3) (zaa (zam (fw 3) (zao (by rfl) T.n_len (zaa (fw 5) zab))) (zaa (fw 4) zab))))) zab)))
theorem ok_2 (T:Txt K mg af):FnOk P w K mg base (CXe P w) 1 (af 2) (dO K (af 2)) p_2 (spW K w_2 3):=by
 refine fn_w (k:=0) T.t_2.F sc_2 rfl rfl fun cdv A outer s H E hr=>?_
 exact zac (zak (zaA (zaa (zkh (by rfl) (by rfl) T.n_min zft (zaa (zay (fw 0) (fw 1)) (zaa (zay (fw 0) (fw 2)) zab))) (zaa (zko (by rfl) (by rfl) T.n_max zku (zaa (zay (fw 0) (fw 1)) (zaa (zay (fw 0) (fw 2)) zab))) zab))) (za9 (by rfl) (zaj (gnm 3 sc_2.nd) (zaj (gnm 4 sc_2.nd) zaF))))
  (zag (zav (zbn (vars:=["one"]) rfl (by rfl) (compSc (by kernel_rfl)) rfl (za8 (fw 0)) (fun _ _ _=>gcm 6) (fun _ _ _=>zaO) (fun _ _ _=>zgc (zan (fun _ _=>zaQ (u31 hr)) zaG (fw 6) (fw 4) (nomark _)) (fw 3) (fw 6)))))
theorem ok_5 (T:Txt K mg af):FnOk P w K mg base (CXe P w) 1 (af 5) (dO K (af 5)) p_5 (spW K w_5 2):=by
 refine fn_w (k:=0) T.t_5.F sc_5 rfl rfl fun cdv A outer s H E hr=>?_
 exact zac (zak (zam (zaW zad (fw 1)) zad) (gnm 2 sc_5.nd))
  (zac (zbb (zan (fun _ _=>zmQ) zkX (fw 1) (zao (by rfl) T.n_len (zaa (fw 0) zab)) (nomark _)) (zag (zak (zay (fw 0) (fw 1)) (gnm 2 sc_5.nd))) (zag (zbb (zan (fun _ _=>zd1) zcQ (zao (by rfl) T.n_len (zaa (fw 0) zab)) zad (nomark _)) (zag (zak (zam (fw 2) (zaW (zci (zay (fw 0) (zci (fw 1) (zao (by rfl) T.n_len (zaa (fw 0) zab)))) zad) zad)) (gnm 2 sc_5.nd))) zau)))
  (zac (zak (zam (zci (zam (zaW (zci (fw 2) zad) zad) (zaW zad (fw 1))) zad) zad) (gnm 3 sc_5.nd))
  (zag (zav (zaM (zaa (zay (zaM (zaa zad (zaa (fw 2) zab))) (ze0 (by rfl) T.n_int zh2 (zaa (zht (fun _ _=>zkn) zhT (fw 2) (znH zad zad) (nomark _)) zab))) (zaa (fw 3) zab)))))))
theorem ok_6 (T:Txt K mg af):FnOk P w K mg base (CXe P w) 1 (af 6) (dO K (af 6)) p_6 (spW K w_6 2):=by
 refine fn_w (k:=0) T.t_6.F sc_6 rfl rfl fun cdv A outer s H E hr=>?_
 exact zac (zbb (zan (fun _ _=>zd1) zcQ (zay (fw 0) zad) zad (nomark _)) (zac (zak (zci (zay (fw 0) zad) (fw 1)) (gnm 2 sc_6.nd))
  (zac (zfs (j:=0) (fw 0) zad (ziQ (zay (fw 0) zad) (fw 1)))
  (zag (zav (fw 2))))) zau)
  (zac (zak (zci (zaW (zay (fw 0) zad) zad) zad) (gnm 3 sc_6.nd))
  (zac (zfs (j:=0) (fw 0) zad (zam (zci (zam (zaW (fw 3) zad) zad) zad) zad))
  (zag (zav (zci (ziQ (zam (zaW (fw 3) zad) (zay (fw 0) zad)) zad) (fw 1))))))
theorem ok_11 (T:Txt K mg af):FnOk P w K mg base (CXe P w) 1 (af 11) (dO K (af 11)) p_11 (spW K w_11 4):=by
 refine fn_w (k:=0) T.t_11.F sc_11 rfl rfl fun cdv A outer s H E hr=>?_
 exact zac (zak (zaM zab) (gnm 4 sc_11.nd))
  (zac (zbl (by rfl) (za8 (fw 0)) (gnm 5 sc_11.nd) (zac (zbb (zgN (zdX (zan (fun _ _=>zaQ (u31 hr)) zaG (zfq (fw 1) (fw 2) (zam (fw 2) (zao (by rfl) T.n_len (zaa (fw 5) zab)))) (zcf (fw 5) (zcg (zao (by rfl) T.n_len (zaa (fw 1) zab)) (fw 2))) (nomark _)) (zcD (zan (fun _ _=>zmk) zlc (zam (fw 2) (zao (by rfl) T.n_len (zaa (fw 5) zab))) (fw 3) (nomark _))))) (zag (zbm (zaR (j:=4) (fw 4) (zaA (zaa (fw 5) (zaa (zam (fw 2) (zao (by rfl) T.n_len (zaa (fw 5) zab))) zab)))))) zau)
  (zag (zbb (zgN (zdX (zan (fun _ _=>zkn) zhT (fw 2) (zao (by rfl) T.n_len (zaa (fw 5) zab)) (nomark _)) (zcD (zan (fun _ _=>zaQ (u31 hr)) zaG (zfq (fw 1) (zcg (fw 2) (zao (by rfl) T.n_len (zaa (fw 5) zab))) (fw 2)) (fw 5) (nomark _))))) (zag (zbm (zaR (j:=4) (fw 4) (zaA (zaa (fw 5) (zaa (zcg (fw 2) (zao (by rfl) T.n_len (zaa (fw 5) zab))) zab)))))) zau))))
  (zag (zav (fw 4))))
theorem ok_13 (T:Txt K mg af):FnOk P w K mg base (CXe P w) 1 (af 13) (dO K (af 13)) p_13 (spW K w_13 2):=by
 refine fn_w (k:=0) T.t_13.F sc_13 rfl rfl fun cdv A outer s H E hr=>?_
 exact zac (zcN (i:=2) (by decide) (fun j hj=>zco sc_13.nd hj rfl) rfl (by rfl) (by rfl) (vars:=["_law_p"]) rfl (by rfl) (compSc (by kernel_rfl)) rfl (zat (by rfl) T.n_range (zam (zao (by rfl) T.n_len (zaa (fw 1) zab)) zad)) (fun _ _ _=>gcm 6) (fun _ _ _=>zaO) (fun _ _ _=>zaM zab))
  (zac (zbl (by rfl) (zat (by rfl) T.n_range (zao (by rfl) T.n_len (zaa (fw 1) zab))) (gnm 3 sc_13.nd) (zag (zbl (by rfl) (zhQ (by rfl) T.n_range (zam (fw 3) zad) (zam (zao (by rfl) T.n_len (zaa (fw 1) zab)) zad)) (gnm 4 sc_13.nd) (zag (zbb (zan (fun _ _=>zmZ (u32 hr)) zjR (zfq (fw 1) (fw 3) (fw 4)) (fw 0) (by with_unfolding_all rfl)) (zac (zbm (zc2 (j:=2) (fw 2) (fw 3) (fw 4)))
  (zag (zbm (zc2 (j:=2) (fw 2) (fw 4) (fw 3))))) zau)))))
  (zag (zav (zbn (vars:=["_law_some"]) rfl (by rfl) (compSc (by kernel_rfl)) rfl (za8 (fw 2)) (fun _ _ _=>gcm 6) (fun _ _ _=>zaO) (fun _ _ _=>zaE (zdz (by rfl) T.n_sorted zcw (zaa (fw 6) zab)))))))
theorem ok_14 (T:Txt K mg af):FnOk P w K mg base (CXe P w) 1 (af 14) (dO K (af 14)) p_14 (spW K w_14 2):=by
 refine fn_w (k:=0) T.t_14.F sc_14 rfl rfl fun cdv A outer s H E hr=>?_
 exact zac (zak (zja (zcg (zao (by rfl) T.n_len (zaa (fw 0) zab)) zad) zad) (gnm 2 sc_14.nd))
  (zac (zak (zaM (zaa (zcg (zao (by rfl) T.n_len (zaa (fw 0) zab)) zad) zab)) (gnm 3 sc_14.nd))
  (zac (zfv (zan (fun _ _=>zb0 (u32 hr)) zaY (fw 3) (zaM zab) (nomark _)) (zac (zak (zaE (zfO (j:=3) (fw 3) zad)) (gnm 4 sc_14.nd))
  (zag (zbl (by rfl) (za8 (zay (fw 0) (fw 4))) (gnm 5 sc_14.nd) (zag (zbb (zan (fun _ _=>zbH (u32 hr)) za7 (fw 5) (fw 2) (by with_unfolding_all rfl)) (zac (zh4 (j:=2) (zfd hr) (fw 2) (fw 5) (zam (zfG (zfd hr) (fw 2) (fw 4)) zad))
  (zag (zbm (zaR (j:=3) (fw 3) (fw 5))))) zau))))))
  (zac (zbb (zan (fun _ _=>zbH (u32 hr)) za7 (fw 1) (fw 2) (by with_unfolding_all rfl)) (zag (zav (zaA zab))) zau)
  (zac (zak (zaM (zaa (fw 1) zab)) (gnm 6 sc_14.nd))
  (zac (zfv (zan (fun _ _=>zb0 (u32 hr)) zaY (zay (fw 6) (zfT zad)) (zcg (zao (by rfl) T.n_len (zaa (fw 0) zab)) zad) (nomark _)) (zag (zbm (zaR (j:=6) (fw 6) (zaE (zls (by rfl) (by rfl) T.n_min zft (zaa (zbn (vars:=["_law_q"]) rfl (by rfl) (compSc (by kernel_rfl)) rfl (za8 (zay (fw 0) (zay (fw 6) (zfT zad)))) (fun _ _ _=>gcm 8) (fun _ _ _=>zb4 rfl (zan (fun _ _=>zaQ (u31 hr)) zaG (zfG (zfd hr) (fw 2) (fw 8)) (zcg (zfG (zfd hr) (fw 2) (zay (fw 6) (zfT zad))) zad) (nomark _))) (fun _ _ _=>fw 8)) zab)))))))
  (zag (zav (zbY (by rfl) T.n_tuple zbO (zaa (fw 6) zab)))))))))
theorem ok_1 (T:Txt K mg af):FnOk P w K mg base (CXe P w) 2 (af 1) (dO K (af 1)) p_1 (spW K w_1 2):=by
 refine fn_w (k:=1) T.t_1.F sc_1 rfl rfl fun cdv A outer s H E hr=>?_
 exact zac (zak (zaE (zfB (by rfl) (by rfl) T.n_list zeV (zaa (fw 0) zab))) (gnm 2 sc_1.nd))
  (zac (zbl (by rfl) (za8 (fw 1)) (za9 (by rfl) (zaj (gnm 3 sc_1.nd) (zaj (gnm 4 sc_1.nd) zaF))) (zag (zak (zaE (fcl [true,true,true] T.t_2 (ok_2 T) hr (zaa (fw 2) (zaa (fw 3) (zaa (fw 4) zab))))) (gnm 2 sc_1.nd))))
  (zag (zav (zbY (by rfl) T.n_tuple zbO (zaa (fw 2) zab)))))
theorem ok_7 (T:Txt K mg af):FnOk P w K mg base (CXe P w) 2 (af 7) (dO K (af 7)) p_7 (spW K w_7 2):=by
 refine fn_w (k:=1) T.t_7.F sc_7 rfl rfl fun cdv A outer s H E hr=>?_
 exact zac (zak (zfB (by rfl) (by rfl) T.n_list zeV (zaa (zbC (by rfl) (by decide)) zab)) (gnm 2 sc_7.nd))
  (zag (zav (ze1 (zbC (by rfl) (by decide)) (zaa (zdz (by rfl) T.n_sorted zcw (zaa (zbn (vars:=["_law_k"]) rfl (by rfl) (compSc (by kernel_rfl)) rfl (zat (by rfl) T.n_range (fw 1)) (fun _ _ _=>gcm 4) (fun _ _ _=>zaO) (fun _ _ _=>zaE (zfO (j:=2) (fw 2) (fcl [true,true] T.t_6 (ok_6 T) hr (zaa (fw 0) (zaa (zao (by rfl) T.n_len (zaa (fw 2) zab)) zab)))))) zab)) zab))))
theorem ok_8 (T:Txt K mg af):FnOk P w K mg base (CXe P w) 2 (af 8) (dO K (af 8)) p_8 (spW K w_8 3):=by
 refine fn_w (k:=1) T.t_8.F sc_8 rfl rfl fun cdv A outer s H E hr=>?_
 exact zac (zak (zaW (fcl [true,true] T.t_6 (ok_6 T) hr (zaa (fw 0) (zaa (zam (fw 2) zad) zab))) (ze0 (by rfl) T.n_int zh2 (zaa (zht (fun _ _=>zb0 (u32 hr)) zaY (fw 1) (zbC (by rfl) (by decide)) (nomark _)) zab))) (gnm 3 sc_8.nd))
  (zag (zav (ze1 (zbC (by rfl) (by decide)) (zaa (zbn (vars:=["_law_k"]) rfl (by rfl) (compSc (by kernel_rfl)) rfl (zat (by rfl) T.n_range (fw 3)) (fun _ _ _=>gcm 5) (fun _ _ _=>zaO) (fun _ _ _=>zay (fw 1) (fcl [true,true] T.t_6 (ok_6 T) hr (zaa (fw 0) (zaa (zao (by rfl) T.n_len (zaa (fw 1) zab)) zab))))) zab))))
theorem ok_9 (T:Txt K mg af):FnOk P w K mg base (CXe P w) 2 (af 9) (dO K (af 9)) p_9 (spW K w_9 3):=by
 refine fn_w (k:=1) T.t_9.F sc_9 rfl rfl fun cdv A outer s H E hr=>?_
 exact zac (zak (zay (fw 2) (fcl [true,true] T.t_6 (ok_6 T) hr (zaa (fw 0) (zaa (zao (by rfl) T.n_len (zaa (fw 2) zab)) zab)))) (gnm 3 sc_9.nd))
  (zac (zak (fcl [true,true] T.t_6 (ok_6 T) hr (zaa (fw 0) (zaa zad zab))) (gnm 4 sc_9.nd))
  (zac (zak (zay (fw 1) (fcl [true,true] T.t_6 (ok_6 T) hr (zaa (fw 0) (zaa (zao (by rfl) T.n_len (zaa (fw 1) zab)) zab)))) (gnm 5 sc_9.nd))
  (zac (zak (fcl [true,true] T.t_6 (ok_6 T) hr (zaa (fw 0) (zaa (zao (by rfl) T.n_len (zaa (fw 3) zab)) zab))) (gnm 6 sc_9.nd))
  (zag (zav (zay (zaM (zaa (zcf (fw 3) (zam (fw 6) zad)) (zaa (zhI (fw 3) (fw 6)) (zaa (zam (fw 5) (fw 3)) (zaa (zam (fw 3) (fw 5)) (zaa (zam (fw 3) (fw 3)) zab)))))) (fw 4)))))))
theorem ok_12 (T:Txt K mg af):FnOk P w K mg base (CXe P w) 2 (af 12) (dO K (af 12)) p_12 (spW K w_12 4):=by
 refine fn_w (k:=1) T.t_12.F sc_12 rfl rfl fun cdv A outer s H E hr=>?_
 exact zac (zak (zaA (zaa (zbC (by rfl) (by decide)) (zaa zad zab))) (za9 (by rfl) (zaj (gnm 4 sc_12.nd) (zaj (gnm 5 sc_12.nd) zaF))))
  (zac (zbl (by rfl) (zat (by rfl) T.n_range (zam zad (fcl [true,true] T.t_6 (ok_6 T) hr (zaa (fw 0) (zaa zad zab))))) (gnm 6 sc_12.nd) (zac (zak (zaE (fcl [true,true,true,true] T.t_11 (ok_11 T) hr (zaa (fw 1) (zaa (fw 4) (zaa (fw 5) (zaa (fw 3) zab)))))) (gnm 7 sc_12.nd))
  (zac (zbb (zan (fun _ _=>zd1) zcQ (fw 6) zad (nomark _)) (zag (zms (zcN (i:=7) (by decide) (fun j hj=>zco sc_12.nd hj rfl) rfl (by rfl) (by rfl) (vars:=["_law_move"]) rfl (by rfl) (compSc (by kernel_rfl)) rfl (za8 (fw 7)) (fun _ _ _=>gcm 12) (fun _ _ _=>zb4 rfl (zan (fun _ _=>zd1) zcQ (zay (fw 12) zad) (fw 5) (nomark _))) (fun _ _ _=>fw 12)))) zau)
  (zag (zbb (zan (fun _ _=>zb0 (u32 hr)) zaY (fw 7) (zaM zab) (nomark _)) (zac (zak (zay (fw 7) (fcl [true,true] T.t_6 (ok_6 T) hr (zaa (fw 0) (zaa (zao (by rfl) T.n_len (zaa (fw 7) zab)) zab)))) (za9 (by rfl) (zaj (gnm 8 sc_12.nd) (zaj (gnm 9 sc_12.nd) zaF))))
  (zac (zbb (zan (fun _ _=>zd1) zcQ (fw 9) (fw 5) (nomark _)) (zag (zak (zam (zam (zcf (fw 4) (fw 5)) (fw 8)) (zhI (fw 4) (fw 9))) (gnm 4 sc_12.nd))) zau)
  (zag (zak (fw 9) (gnm 5 sc_12.nd))))) zau)))))
  (zac (zbb (zgN (zdX (zan (fun _ _=>zb0 (u32 hr)) zaY (fw 4) (zbC (by rfl) (by decide)) (nomark _)) (zcD (zan (fun _ _=>zaQ (u31 hr)) zaG (fcl [true,true] T.t_6 (ok_6 T) hr (zaa (fw 0) (zaa zad zab))) zad (nomark _))))) (zac (zak (fcl [true,true] T.t_6 (ok_6 T) hr (zaa (fw 0) (zaa (zao (by rfl) T.n_len (zaa (fw 4) zab)) zab))) (gnm 10 sc_12.nd))
  (zag (zak (zam (zam (zcf (fw 4) (fw 10)) (zay (fw 2) (fcl [true,true] T.t_6 (ok_6 T) hr (zaa (fw 0) (zaa (zao (by rfl) T.n_len (zaa (fw 2) zab)) zab))))) (zhI (fw 4) (zam (fw 10) zad))) (gnm 4 sc_12.nd)))) zau)
  (zag (zav (fw 4)))))
theorem ok_16 (T:Txt K mg af):FnOk P w K mg base (CXe P w) 2 (af 16) (dO K (af 16)) p_16 (spW K w_16 2):=by
 refine fn_w (k:=1) T.t_16.F sc_16 rfl rfl fun cdv A outer s H E hr=>?_
 exact zac (zak (zaM zab) (gnm 2 sc_16.nd))
  (zac (zbl (by rfl) (zat (by rfl) T.n_range (zmd zad (zao (by rfl) T.n_len (zaa (fw 0) zab)))) (gnm 3 sc_16.nd) (zac (zak (zbY (by rfl) T.n_tuple zbO (zaa (zbn (vars:=["_law_k"]) rfl (by rfl) (compSc (by kernel_rfl)) rfl (zat (by rfl) T.n_range (zao (by rfl) T.n_len (zaa (fw 0) zab))) (fun _ _ _=>gcm 6) (fun _ _ _=>zb4 rfl (zan (fun _ _=>zaQ (u31 hr)) zaG (zkK (znV (fw 3) (fw 6)) zad) zad (nomark _))) (fun _ _ _=>fw 6)) zab)) (gnm 4 sc_16.nd))
  (zag (zbb (zan (fun _ _=>zb0 (u32 hr)) zaY (fcl [true,true] T.t_14 (ok_14 T) hr (zaa (zaE (fcl [true,true] T.t_13 (ok_13 T) hr (zaa (zaE (zbn (vars:=["_law_k"]) rfl (by rfl) (compSc (by kernel_rfl)) rfl (za8 (fw 4)) (fun _ _ _=>gcm 6) (fun _ _ _=>zaO) (fun _ _ _=>zay (fw 0) (fw 6)))) (zaa (fw 1) zab)))) (zaa zad zab))) (zaA zab) (nomark _)) (zag (zbm (zaR (j:=2) (fw 2) (zaA (zaa (zao (by rfl) T.n_len (zaa (fw 4) zab)) (zaa (fw 4) zab)))))) zau))))
  (zag (zav (zay (zhY hr (by rfl) T.n_min (fw 2) (zaA (zaa zad (zaa zfn zab)))) zad))))
theorem ok_4 (T:Txt K mg af):FnOk P w K mg base (CXe P w) 3 (af 4) (dO K (af 4)) p_4 (spW K w_4 3):=by
 refine fn_w (k:=2) T.t_4.F sc_4 rfl rfl fun cdv A outer s H E hr=>?_
 exact zac (zak (zi0 (zme hr) (zjS (by rfl) (by rfl) T.n_tuple zbO (by rfl) T.n_range (zam (zao (by rfl) T.n_len (zaa (fw 1) zab)) zad)) (zaA (zaa zad (zaa zad (zaa (zaA zab) zab))))) (gnm 3 sc_4.nd))
  (zac (zbl (by rfl) (ziN (by rfl) (by rfl) T.n_enumerate zch (fw 2)) (za9 (by rfl) (zaj (gnm 4 sc_4.nd) (zaj (gnm 5 sc_4.nd) zaF))) (zac (zms (zcN (i:=6) (by decide) (fun j hj=>zco sc_4.nd hj rfl) rfl (by rfl) (by rfl) (vars:=["i","j","k"]) rfl (by rfl) (compSc (by kernel_rfl)) rfl (za8 (fcl [true,true] T.t_0 (ok_0 T) hr (zaa (fw 0) (zaa (fw 1) zab)))) (fun _ _ _=>za9 (by rfl) (zaj (gcm 14) (zaj (gcm 15) (zaj (gcm 16) zaF)))) (fun _ _ _=>zb4 rfl (zan (fun _ _=>zaQ (u31 hr)) zaG (fw 16) (fw 4) (nomark _))) (fun _ _ _=>zaA (zaa (fw 14) (zaa (fw 15) zab)))))
  (zag (zbl (by rfl) (za8 (zhz (j:=3) (fw 3) (by rfl) (by rfl) T.n_list)) (za9 (by rfl) (zaj (gnm 7 sc_4.nd) (zaj (za9 (by rfl) (zaj (gnm 8 sc_4.nd) (zaj (gnm 9 sc_4.nd) (zaj (gnm 10 sc_4.nd) zaF)))) zaF))) (zac (zak (zaE (fcl [true,true] T.t_1 (ok_1 T) hr (zaa (fw 7) (zaa (fw 6) zab)))) (gnm 11 sc_4.nd))
  (zac (zak (zaA (zaa (zam (fw 8) (fw 5)) (zaa (zam (fw 9) zad) (zaa (zam (fw 10) (zaA (zaa (fw 4) zab))) zab)))) (gnm 12 sc_4.nd))
  (zag (zbb (zgN (zoW (zan (fun _ _=>zbH (u32 hr)) za7 (fw 11) (fw 3) (by with_unfolding_all rfl)) (znL (zan (fun _ _=>znS (u31 hr)) zjn (fw 12) (zfG (zfd hr) (fw 3) (fw 11)) (nomark _))))) (zag (zh4 (j:=3) (zfd hr) (fw 3) (fw 11) (fw 12))) zau))))))))
  (zag (zav (zhY hr (by rfl) T.n_min (zbn (vars:=["land","cost"]) rfl (by rfl) (compSc (by kernel_rfl)) rfl (ziG (j:=3) (fw 3)) (fun _ _ _=>za9 (by rfl) (zaj (gcm 14) (zaj (gcm 15) zaF))) (fun _ _ _=>zb4 rfl (zan (fun _ _=>zaQ (u31 hr)) zaG (zay (fw 14) (zfT zad)) zad (nomark _))) (fun _ _ _=>fw 15)) zfn))))
theorem ok_10 (T:Txt K mg af):FnOk P w K mg base (CXe P w) 3 (af 10) (dO K (af 10)) p_10 (spW K w_10 4):=by
 refine fn_w (k:=2) T.t_10.F sc_10 rfl rfl fun cdv A outer s H E hr=>?_
 exact zac (zak (zaM zab) (gnm 4 sc_10.nd))
  (zac (zbl (by rfl) (zat (by rfl) T.n_range (zaW (fcl [true,true] T.t_6 (ok_6 T) hr (zaa (fw 0) (zaa (zam (fw 2) zad) zab))) (ze0 (by rfl) T.n_int zh2 (zaa (zht (fun _ _=>zb0 (u32 hr)) zaY (fw 1) (zbC (by rfl) (by decide)) (nomark _)) zab)))) (gnm 5 sc_10.nd) (zac (zak (zam (zay (fw 1) (fcl [true,true] T.t_6 (ok_6 T) hr (zaa (fw 0) (zaa (zao (by rfl) T.n_len (zaa (fw 1) zab)) zab)))) (fcl [true,true,true] T.t_8 (ok_8 T) hr (zaa (fw 0) (zaa (fw 1) (zaa (zcg (fw 3) zad) zab))))) (gnm 6 sc_10.nd))
  (zac (zbb (zgN (zdX (zan (fun _ _=>zb0 (u32 hr)) zaY (fw 4) (zaM zab) (nomark _)) (zcD (zan (fun _ _=>zaQ (u31 hr)) zaG (fcl [true,true] T.t_6 (ok_6 T) hr (zaa (fw 0) (zaa zad zab))) zad (nomark _))))) (zag (zak (zcf (fcl [true,true,true] T.t_9 (ok_9 T) hr (zaa (fw 0) (zaa (fw 1) (zaa (fw 4) zab)))) (fw 3)) (gnm 6 sc_10.nd))) zau)
  (zag (zbb (zan (fun _ _=>zbH (u32 hr)) za7 (fw 6) (fw 4) (by with_unfolding_all rfl)) (zag (zbm (zaR (j:=4) (fw 4) (fw 6)))) zau)))))
  (zag (zav (zbY (by rfl) T.n_tuple zbO (zaa (fw 4) zab)))))
theorem ok_3 (T:Txt K mg af):FnOk P w K mg base (CXe P w) 4 (af 3) (dO K (af 3)) p_3 (spW K w_3 2):=by
 refine fn_w (k:=3) T.t_3.F sc_3 rfl rfl fun cdv A outer s H E hr=>?_
 exact zac (zak (zaE (fcl [true,true,true] T.t_4 (ok_4 T) hr (zaa (fw 0) (zaa (fw 1) (zaa (zaE (zbn (vars:=["one"]) rfl (by rfl) (compSc (by kernel_rfl)) rfl (za8 (fw 0)) (fun _ _ _=>gcm 4) (fun _ _ _=>zaO) (fun _ _ _=>zad))) zab))))) (gnm 2 sc_3.nd))
  (zag (zav (zgc (zan (fun _ _=>zmv) zlN (fw 2) zfn (nomark _)) zfn (zay (fw 2) zad))))
theorem ok_15 (T:Txt K mg af):FnOk P w K mg base (CXe P w) 4 (af 15) (dO K (af 15)) p_15 (spW K w_15 3):=by
 refine fn_w (k:=3) T.t_15.F sc_15 rfl rfl fun cdv A outer s H E hr=>?_
 exact zac (zak (fcl [true,true] T.t_7 (ok_7 T) hr (zaa (fw 0) (zaa (zam zad (fcl [true,true] T.t_6 (ok_6 T) hr (zaa (fw 0) (zaa (fw 1) zab)))) zab))) (gnm 3 sc_15.nd))
  (zac (zak (zaE (fcl [true,true,true,true] T.t_10 (ok_10 T) hr (zaa (fw 0) (zaa (fw 3) (zaa zad (zaa (fw 2) zab)))))) (gnm 4 sc_15.nd))
  (zac (zak (fcl [true,true] T.t_6 (ok_6 T) hr (zaa (fw 0) (zaa zad zab))) (gnm 5 sc_15.nd))
  (zac (zak (zaE (fcl [true,true,true,true] T.t_12 (ok_12 T) hr (zaa (fw 0) (zaa (fw 4) (zaa (fw 3) (zaa zad zab)))))) (gnm 6 sc_15.nd))
  (zac (zbb (zan (fun _ _=>zaQ (u31 hr)) zaG (fw 5) zad (nomark _)) (zag (zak (fcl [true,true,true] T.t_8 (ok_8 T) hr (zaa (fw 0) (zaa (fw 3) (zaa zad zab)))) (gnm 6 sc_15.nd))) zau)
  (zac (zbb (zgN (zdX (zan (fun _ _=>zaQ (u31 hr)) zaG (fw 5) zad (nomark _)) (zcD (zan (fun _ _=>zb0 (u32 hr)) zaY (fw 4) (zaA zab) (nomark _))))) (zag (zak (zcf (ze1 (zbC (by rfl) (by decide)) (zaa (zbn (vars:=["_law_k"]) rfl (by rfl) (compSc (by kernel_rfl)) rfl (zat (by rfl) T.n_range (fcl [true,true] T.t_6 (ok_6 T) hr (zaa (fw 0) (zaa zad zab)))) (fun _ _ _=>gcm 8) (fun _ _ _=>zaO) (fun _ _ _=>zay (fw 4) (fcl [true,true] T.t_6 (ok_6 T) hr (zaa (fw 0) (zaa (zao (by rfl) T.n_len (zaa (fw 4) zab)) zab))))) zab)) zad) (gnm 6 sc_15.nd))) zau)
  (zag (zav (zaA (zaa (fw 4) (zaa (fw 6) (zaa (fw 3) zab)))))))))))
theorem ok_17 (T:Txt K mg af):FnOk P w K mg base (CXe P w) 5 (af 17) (dO K (af 17)) p_17 (spW K w_17 2):=by
 refine fn_w (k:=4) T.t_17.F sc_17 rfl rfl fun cdv A outer s H E hr=>?_
 exact zag (zav (zho hr (by rfl) T.n_repr (fcl [true,true] T.t_3 (ok_3 T) hr (zaa (fw 0) (zaa (fw 1) zab))) (fcl [true,true] T.t_16 (ok_16 T) hr (zaa (fw 0) (zaa (fw 1) zab)))))
theorem ok_18 (T:Txt K mg af):FnOk P w K mg base (CXe P w) 6 (af 18) (dO K (af 18)) p_18 (spW K w_18 1):=by
 refine fn_w (k:=5) T.t_18.F sc_18 rfl rfl fun cdv A outer s H E hr=>?_
 exact zac (zak (zaE (zaM zab)) (gnm 1 sc_18.nd))
  (zac (zbl (by rfl) (zat (by rfl) T.n_range (zko (by rfl) (by rfl) T.n_max zku (zaa zad (zaa (zkh (by rfl) (by rfl) T.n_min zft (zaa (zao (by rfl) T.n_len (zaa (fw 0) zab)) (zaa zad zab))) zab)))) (gnm 2 sc_18.nd) (zac (zak (fcl [true,true,true] T.t_15 (ok_15 T) hr (zaa (fcl [true,true] T.t_5 (ok_5 T) hr (zaa (fw 0) (zaa (fw 2) zab))) (zaa zad (zaa zad zab)))) (za9 (by rfl) (zaj (gnm 3 sc_18.nd) (zaj (gnm 4 sc_18.nd) (zaj (gnm 5 sc_18.nd) zaF)))))
  (zag (zak (zaE (zam (fw 1) (zaM (zaa (zaA (zaa (fw 3) (zaa (fw 4) zab))) (zaa (zaA (zaa (zcf (fw 3) zad) (zaa (zbC (by rfl) (by decide)) zab))) zab))))) (gnm 1 sc_18.nd)))))
  (zag (zav (zm3 (by rfl) (by rfl) T.n_all znB (zaa (zbn (vars:=["_law_board_here","_law_word_here"]) rfl (by rfl) (compSc (by kernel_rfl)) rfl (za8 (zam (fw 1) (zcf (fw 1) zad))) (fun _ _ _=>za9 (by rfl) (zaj (gcm 7) (zaj (gcm 8) zaF))) (fun _ _ _=>zaO) (fun _ _ _=>zaE (fcl [true,true] T.t_17 (ok_17 T) hr (zaa (fw 7) (zaa (fw 8) zab))))) zab)))))
end
theorem all_mk {l:W.OpenLaw} {w:World} {K:W.Frag} {h:Heap} {mg:Str->Option Value} {fa:Addr} (X:K.In h) (G:h.Ns mainGlobals mg) (hfa:mg "law"=some (.ref fa))
  {f_0 f_1 f_2 f_3 f_4 f_5 f_6 f_7 f_8 f_9 f_10 f_11 f_12 f_13 f_14 f_15 f_16 f_17 f_18:Addr}
  (h_0:Lk K "stretches" s_0 f_0)
  (h_1:Lk K "all_joined" s_1 f_1)
  (h_2:Lk K "land_joined" s_2 f_2)
  (h_3:Lk K "enough" s_3 f_3)
  (h_4:Lk K "cheapest_words" s_4 f_4)
  (h_5:Lk K "_law_box" s_5 f_5)
  (h_6:Lk K "_law_take" s_6 f_6)
  (h_7:Lk K "_law_colours" s_7 f_7)
  (h_8:Lk K "_law_word" s_8 f_8)
  (h_9:Lk K "_law_near" s_9 f_9)
  (h_10:Lk K "_law_board" s_10 f_10)
  (h_11:Lk K "_law_moves" s_11 f_11)
  (h_12:Lk K "_law_led" s_12 f_12)
  (h_13:Lk K "_law_ties" s_13 f_13)
  (h_14:Lk K "_law_way" s_14 f_14)
  (h_15:Lk K "_law_asked" s_15 f_15)
  (h_16:Lk K "_law_due" s_16 f_16)
  (h_17:Lk K "_law_right" s_17 f_17)
  (h_18:Lk K "law" s_18 f_18)
  (z_all:W.nsIn K mainGlobals "all"=some none)
  (z_enumerate:W.nsIn K mainGlobals "enumerate"=some none)
  (z_int:W.nsIn K mainGlobals "int"=some none)
  (z_len:W.nsIn K mainGlobals "len"=some none)
  (z_list:W.nsIn K mainGlobals "list"=some none)
  (z_max:W.nsIn K mainGlobals "max"=some none)
  (z_min:W.nsIn K mainGlobals "min"=some none)
  (z_range:W.nsIn K mainGlobals "range"=some none)
  (z_repr:W.nsIn K mainGlobals "repr"=some none)
  (z_sorted:W.nsIn K mainGlobals "sorted"=some none)
  (z_tuple:W.nsIn K mainGlobals "tuple"=some none):
  ∃ fd:FuncData,(∀ (s:Shared) (v:Value),BindsTo s fd ⟨[v],[]⟩ [("_law_script",v)])/\∀ base:Heap,K.In base->base.Ns mainGlobals mg->FnOk l.prog w K mg base (CXe l.prog w) 6 fa fd ["_law_script"] (spW K w_18 1):=by
 have e:=hfa.symm.trans (h_18.mm X G)
 cases e
 have T:Txt K mg (fun n=>[f_0,f_1,f_2,f_3,f_4,f_5,f_6,f_7,f_8,f_9,f_10,f_11,f_12,f_13,f_14,f_15,f_16,f_17,fa].getD n 0):=⟨h_0.tx X G,h_1.tx X G,h_2.tx X G,h_3.tx X G,h_4.tx X G,h_5.tx X G,h_6.tx X G,h_7.tx X G,h_8.tx X G,h_9.tx X G,h_10.tx X G,h_11.tx X G,h_12.tx X G,h_13.tx X G,h_14.tx X G,h_15.tx X G,h_16.tx X G,h_17.tx X G,h_18.tx X G,W.mg_none_of X G z_all,W.mg_none_of X G z_enumerate,W.mg_none_of X G z_int,W.mg_none_of X G z_len,W.mg_none_of X G z_list,W.mg_none_of X G z_max,W.mg_none_of X G z_min,W.mg_none_of X G z_range,W.mg_none_of X G z_repr,W.mg_none_of X G z_sorted,W.mg_none_of X G z_tuple⟩
 exact ⟨_,fun s v=>h_18.bt s v,fun base _ _=>ok_18 T⟩
theorem walk {l:W.OpenLaw} {q:Program} {loose:List Str} {XP:(Str->Option Value)->Heap->Prop} {YP:World->Heap->Prop} {d:DefRec} {K:Params->W.Frag} (hn:l.most=some 63) (hdf:d.params.defaults=[])
  (hY:∀ (w:World) (h:Heap),YP w h->(K w.params).In h)
  (F:∀ (w:World) (mg:Str->Option Value) (fa:Addr) (h:Heap),(K w.params).In h->h.Ns mainGlobals mg->mg d.name=some (.ref fa)->
   ∃ fd:FuncData,(∀ (s:Shared) (u:Value),BindsTo s fd ⟨[u],[]⟩ [("_law_script",u)])/\∀ base:Heap,(K w.params).In base->base.Ns mainGlobals mg->FnOk l.prog w (K w.params) mg base (CXe l.prog w) 6 fa fd ["_law_script"] (spW (K w.params) w_18 1)):
  W.WalkO q loose XP YP l.row.toRowW d [] (fun f vs=>PySem.call f vs):=
 L2.walk_of (n:=63) (k:=6) (x:="_law_script") (CX:=fun w=>CXe l.prog w) (sp:=fun w=>spW (K w.params) w_18 1) hn (by decide) hdf ⟨rfl,by decide,by decide,rfl⟩ hY F (fun _ H a ns hl _ hS=>znR pure_law H a ns hl hS) fun _ _ _ _ _ ⟨_,_,_,_,_,_,_,_,_,q,_⟩=>q
end Law
end
open PySem PySem.W PyProof.Rows
set_option maxRecDepth 100000 in
set_option maxHeartbeats 0 in
theorem PySem.Challenge.cw_walktold_k92_words_enough_holds : PySem.Challenge.rw_walktold_k92_words_enough.Holds := by
 w_on; o_law; k_head; (case hw=>w_witness2)
 k_fill
 refine Law.walk (l:=PySem.Challenge.rw_walktold_k92_words_enough) rfl rfl (fun w h Y=>PySem.W.kIn_of Y) ?F
 case F=>
  intro w mg fa h KX G hmg
  refine' Law.all_mk KX G hmg ⟨?a_0,?l_0,?c_0,?k_0⟩ ⟨?a_1,?l_1,?c_1,?k_1⟩ ⟨?a_2,?l_2,?c_2,?k_2⟩ ⟨?a_3,?l_3,?c_3,?k_3⟩ ⟨?a_4,?l_4,?c_4,?k_4⟩ ⟨?a_5,?l_5,?c_5,?k_5⟩ ⟨?a_6,?l_6,?c_6,?k_6⟩ ⟨?a_7,?l_7,?c_7,?k_7⟩ ⟨?a_8,?l_8,?c_8,?k_8⟩ ⟨?a_9,?l_9,?c_9,?k_9⟩ ⟨?a_10,?l_10,?c_10,?k_10⟩ ⟨?a_11,?l_11,?c_11,?k_11⟩ ⟨?a_12,?l_12,?c_12,?k_12⟩ ⟨?a_13,?l_13,?c_13,?k_13⟩ ⟨?a_14,?l_14,?c_14,?k_14⟩ ⟨?a_15,?l_15,?c_15,?k_15⟩ ⟨?a_16,?l_16,?c_16,?k_16⟩ ⟨?a_17,?l_17,?c_17,?k_17⟩ ⟨?a_18,?l_18,?c_18,?k_18⟩ ?z_all ?z_enumerate ?z_int ?z_len ?z_list ?z_max ?z_min ?z_range ?z_repr ?z_sorted ?z_tuple
  case a_0 | l_0 | c_0 | k_0 | a_1 | l_1 | c_1 | k_1 | a_2 | l_2 | c_2 | k_2 | a_3 | l_3 | c_3 | k_3 | a_4 | l_4 | c_4 | k_4 | a_5 | l_5 | c_5 | k_5 | a_6 | l_6 | c_6 | k_6 | a_7 | l_7 | c_7 | k_7 | a_8 | l_8 | c_8 | k_8 | a_9 | l_9 | c_9 | k_9 | a_10 | l_10 | c_10 | k_10 | a_11 | l_11 | c_11 | k_11 | a_12 | l_12 | c_12 | k_12 | a_13 | l_13 | c_13 | k_13 | a_14 | l_14 | c_14 | k_14 | a_15 | l_15 | c_15 | k_15 | a_16 | l_16 | c_16 | k_16 | a_17 | l_17 | c_17 | k_17 | a_18 | l_18 | c_18 | k_18 | z_all | z_enumerate | z_int | z_len | z_list | z_max | z_min | z_range | z_repr | z_sorted | z_tuple=>k_is
