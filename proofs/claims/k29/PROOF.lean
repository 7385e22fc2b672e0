import PyProof.Rows.All
import Wide.All
import OpenK.AllK
import Wide.FinOn
import PySem.SetTable
import PyProof.SetScanFacts
import PyProof.DictFindH
import PyProof.SetKind
import PyProof.IsRules
import PyProof.TupleKey
import PyProof.StrWalks
import PyProof.FactsAll.set
import PyProof.SetRoads
import PyProof.MakeMany
import PyProof.CollectIter
import PyProof.ListNew
import PyProof.Rows.SortShell
import PyProof.Rows.SortStr
import PyProof.SetNew
import PyProof.Rows.SetFrom
import PyProof.WalksMore
import PyProof.DictIter
import PyProof.DictWalks
import KE.KDictList
import PyProof.TupleOfGen
import PyProof.TupleOfSeq
import PyProof.AttrMissHeap
import KE.KDictOf
import PyProof.DictItems
import KE.KItemsList
import Lean
import PyProof.EqAt
import PyProof.EqKinds
import PyProof.TupleCall
import PyProof.StationsW
import PyProof.RulesAs
import PyProof.Rows.Own
import PySem.Str
import PyProof.NsDelKeeps
import KE.KIsAll
import PyProof.ExcArgsOwn
import PyProof.ExcAttrAll.ValueError
import OpenK.KOwn
import PyProof.ExcBaseAll.ValueError
import PyProof.InstStoreFacts
import PyProof.NeKinds
import PyProof.Draws
import PyProof.EnumMake
import PyProof.ZipIter
import PyProof.Rows.SumAny
import KE.KSortTup
import PyProof.Rows.MinMaxN
import PyProof.ListRange
import KE.KRevIter
import PyProof.ReprLen
import PyProof.FitsInt
import PyProof.StrBlock2
import PyProof.FactsAll.tuple_2
import PyProof.ListMulRoad
import PyProof.MeetsDict
import PyProof.Rows.Range3
import PyProof.Rows.SortRuns
import PyProof.Rows.StrStep
import KE.KMinKey
import PyProof.Rows.CallKwBuiltin
import PySem.Challenge.RW_walktold_k29_words_bought
set_option Elab.async false
set_option linter.all false
set_option maxRecDepth 100000
set_option compiler.extract_closed false
set_option bootstrap.genMatcherCode false
open Array (getElem?_eq_getElem getElem?_toList length_toList mem_toList_iff toArray_toList toList_append)
open Bool (and_eq_true false_eq_true or_eq_true)
open Int (mul_one ofNat_le toNat_natCast)
open List (all_cons all_eq_true all_map any_cons append_assoc append_nil cons_append cons_lt_cons_iff countP_cons drop_of_length_le drop_zero ext_getElem? filterMap_cons find?_cons flatMap_cons forIn_cons forIn_nil getElem?_append_left getElem?_append_right getElem?_eq_none getElem?_map getElem?_range getElem?_set getElem?_set_ne getElem?_set_self getElem_mem le_antisymm length_append length_cons length_drop length_map length_nil length_pos_iff length_range length_singleton length_take lookup_cons lt_asymm map_append map_congr_left map_cons map_id map_map map_nil map_set mem_append mem_cons mem_filter mem_filterMap mem_flatMap mem_iff_getElem? mem_map mem_of_getElem? mem_range mem_set mem_singleton nil_append nodup_append nodup_cons not_mem_nil of_mem_zip pairwise_cons pairwise_map perm_append_comm perm_middle range_succ size_toArray sum_cons take_nil take_of_length_le take_zero zipIdx_cons zipIdx_nil)
open Nat (le_of_lt le_of_lt_succ le_refl le_succ le_trans lt_irrefl lt_of_lt_of_le lt_or_ge lt_succ_of_lt lt_trans min_eq_left min_eq_right min_le_right ne_of_gt ne_of_lt not_lt pow_succ sub_le sub_self sub_zero zero_add zero_le)
open Option (isSome_map isSome_some map_eq_some_iff map_some none_or some_or toList_none)
def qa:=@PySem.wpAny_bind
def qb:=@PySem.wpAny_pure
def qc:=@PySem.Heap.get?_push_of_some
def qd:=@PySem.Heap.get?_push_size
def qg:=@PySem.Heap.lt_size
def qh.{u}:=@Option.some.inj.{u}
def qi.{u}:=@List.getElem?_eq_some_iff.{u}
def qj.{u}:=@List.getElem?_eq_getElem.{u}
def qk.{u}:=@List.mem_append_right.{u}
def qm.{u}:=@List.mem_append_left.{u}
def qo.{u}:=@List.mem_cons_of_mem.{u}
def qp.{u}:=@List.mem_cons_self.{u}
def qq:=@List.length_map
def qr:=@List.append_assoc
def qt:=@List.length_append
def qu:=@List.size_toArray
def qv:=@List.length_cons
def qw:=@List.mem_singleton
def qy:=@List.length_nil
def qz:=@List.nodup_append
def qA:=@List.mem_append
def qB:=@List.map_cons
def qC:=@List.append_nil
def qD:=@List.mem_cons
def qE:=@List.length_singleton
def qF:=@List.cons_lt_cons_iff
def qG:=@List.length_range
def qH:=@List.map_map
def qI:=@List.getElem?_map
def qJ:=@List.length_drop
def qK:=@List.length_take
def qL:=@List.all_eq_true
def qM:=@List.mem_range
def qN:=@List.mem_map
def qO:=@List.nodup_cons
def qP:=@List.mem_of_getElem?
def qQ:=@List.perm_append_comm
def qR:=@List.cons_append
def qS:=@List.length_pos_iff
def qT:=@List.getElem?_eq_none
def qU:=@decide_eq_true
def qV:=@decide_eq_false
def qW:=@decide_eq_true_eq
def qX:=@of_decide_eq_true
def qY:=@Array.length_toList
def qZ:=@Int.toNat_natCast
def q5:=Bool.false_ne_true
def q8:=@Option.map_eq_some_iff
def q9:=@Array.getElem?_toList
def zc:=@if_pos
def zi:=@if_neg
def zj:=@Nat.le_refl
def zk:=@PySem.Heap.get?_update_other
def zm:=@PySem.Heap.get?_update_self
def zo:=@PySem.wpAny_field
def zp:=@PySem.wpAny_newObj_type
def zr:=@PySem.wpAny_call_entry
def zt:=@PySem.sizeLine_eq
def zu:=@PySem.wpAny_setField_rec
def zv:=@PySem.wpAny_holding
def zw:=@PySem.wpAny_of_eq
def zx:=@PySem.wpAny_mono
abbrev zz:=PySem.Value->PySem.Shared->Prop
noncomputable section
namespace ST
open PySem PySem.SetTable
def Rising (xs:Array Nat):Prop:=∀ i j (hi:i < xs.size) (hj:j < xs.size),i < j->xs[i] < xs[j]
def path (t:SetTable) (p:Probe):Nat->Probe
 | 0=>p
 | n + 1=>path t (t.advance p) n
def okMask (mask:Nat):Prop:=mask=7\/mask=31\/mask=127\/mask=511
structure Tab (t:SetTable) (hs:List Int):Prop where
 ris:Rising t.place
 dum:t.dummies=#[]
 mask:okMask t.mask
 size:t.place.size=hs.length
 le:∀ i (hi:i < t.place.size),t.place[i]<=t.mask
 few:hs.length<=t.mask
 reach:∀ i (hi:i < t.place.size) (h:Int),hs[i]?=some h->∃ n,(path t (t.probeStart h) n).j=t.place[i]/\∀ m,m < n->t.slot (path t (t.probeStart h) m).j≠.empty
section
variable {prog:Program} {w:World} {K:Type} [DecidableEq K] (knd:HeapKind prog w K)
def ents (xs:List (K×Addr)):List (Int×Value):=xs.map fun p=>(knd.hash p.1,Value.ref p.2)
variable {knd}
def okRoom (t:SetTable) (n:Nat):Prop:=(t.mask=7/\n<=4)\/(t.mask=31/\n<=18)\/(t.mask=127/\n<=76)\/(t.mask=511/\n<=306)
end
structure WTab (t:SetTable) (n:Nat) (ld:Bool):Prop where
 ris:Rising t.place
 dum:t.dummies=#[]
 fit:t.fits n=true
 ldd:t.led=ld
section
variable {prog:Program} {w:World} {A:Around} {E:zz} {s:Shared} {a:Addr} {K:Type} [DecidableEq K] {knd:KeyKind prog w K} {xs:List (K×Value)}
def entV (knd:KeyKind prog w K) (xs:List (K×Value)):List (Int×Value):=xs.map fun p=>(knd.hash p.1,p.2)
def VSet (ld:Bool) (knd:KeyKind prog w K) (h:Heap) (a:Addr) (xs:List (K×Value)):Prop:=∃ o es ep t,h.get? a=some o/\o.ExactSet/\o.data=.set es ep t/\WTab t es.size ld/\es.toList=entV knd xs/\(∀ p∈xs,knd.is p.1 p.2=true/\p.2.scannable=true)/\(xs.map (·.1)).Nodup
end
end ST
namespace ST
open PySem PySem.SetTable PyProof.Rows
def freshSet (ld:Bool):Obj:={ cls:=.type "set",dict:=none,data:=.set #[] 0 (.fresh 0 0 ld) }
def ldOf (w:World):Bool:=!w.params.followText "set-order"
end ST
theorem m1 {α:Type} {a:α} {l:List α}:a∈a::l:=.head _
theorem m2 {α:Type} {a b:α} {l:List α}:b∈a::b::l:=.tail _ m1
theorem m3 {α:Type} {a b c:α} {l:List α}:c∈a::b::c::l:=.tail _ m2
theorem m4 {α:Type} {a b c d:α} {l:List α}:d∈a::b::c::d::l:=.tail _ m3
theorem m5 {α:Type} {a b c d e:α} {l:List α}:e∈a::b::c::d::e::l:=.tail _ m4
theorem clipI (i:Int) (n:Nat):max 0 (min (if i < 0 then i + (n:Int) else i) (n:Int))=(((if i < 0 then (i + (n:Int)).toNat else min i.toNat n):Nat):Int):=by
 by_cases h:i < 0
 ·rw [zc h,zc h,Int.min_eq_left (by lia),Int.ofNat_toNat,Int.max_comm]
 ·rw [zi h,zi h]
  obtain ⟨k,rfl⟩:=Int.eq_ofNat_of_zero_le (Int.not_lt.mp h)
  rw [qZ]
  rcases Nat.le_total k n with q | q
  ·rw [min_eq_left q,Int.min_eq_left (ofNat_le.mpr q),Int.max_eq_right (Int.natCast_nonneg k)]
  ·rw [min_eq_right q,Int.min_eq_right (ofNat_le.mpr q),Int.max_eq_right (Int.natCast_nonneg n)]
theorem cps {A:Prop} (h:∀ G:Prop,(A->G)->G):A:=h A id
namespace ST
open PySem PySem.SetTable
section
variable {prog:Program} {w:World} {A:Around} {E:zz} {s:Shared} {a b:Addr} {K:Type} [DecidableEq K] {knd:KeyKind prog w K} {ks:List K} {ld:Bool} {xs:List (List K×Addr)}
def TRaw (ld:Bool) (knd:HeapKind prog w K) (h:Heap) (a:Addr) (xs:List (K×Addr)):Prop:=∃ o es ep t,h.get? a=some o/\o.ExactSet/\o.data=.set es ep t/\t.led=ld/\Tab t (es.toList.map (·.1))/\okRoom t es.size/\es.toList=ents knd xs/\(xs.map (·.1)).Nodup
end
end ST
namespace ST
open PySem PySem.W
def RawD (h:Heap) (d:Addr) (es:Array DictEntry) (ep:Nat):Prop:=∃ o,h.get? d=some o/\o.ExactDict/\o.data=.dict es ep
section
variable {s:Shared} {d it:Addr}
theorem RawD.type (x:RawD s.heap d es ep):s.TypeIs (.ref d) "dict":=let ⟨o,ho,hc,_⟩:=x; ⟨o,ho,hc.1⟩
theorem RawD.at {h h':Heap} (x:RawD h d es ep) (e:∀ o,h.get? d=some o->h'.get? d=some o):RawD h' d es ep:=let ⟨o,ho,r⟩:=x; ⟨o,e o ho,r⟩
end
abbrev tup2 (k v:Value):Obj:={ cls:=.type "tuple",data:=.seq #[k,v] }
abbrev ItP (h:Heap) (it d:Addr) (x:Value) (f:Bool) (i n ep:Nat) (ok ov:Value):Prop:=
 h.get? it=some { cls:=.type "dict_itemiterator",dict:=none,data:=.fields #[x,.bool f,.ref d,.int i 0,.int n 0,.int ep 0,ok,ov],slots:=#[] }
section
variable {d it:Addr}
theorem pair_both {Q:Option Value->Shared->Prop} (hh:A.handled=none) (hit:ItP s.heap it d x f i es.size ep ok ov) (hx:(x=.none/\f=false)\/∃ (a:Nat) (oa:Obj),x=rawInt a/\s.heap.get? a=some oa/\a≠it) (hm:RawD s.heap d es ep)
  (hQ:∀ (hi:i < es.size) h' (a:Nat) oa f' ok' ov',ItP h' it d (rawInt a) f' (i + 1) es.size ep ok' ov'->h'.get? a=some oa->a≠it->(x=.none->a=s.heap.objs.size/\f'=false)->(x≠.none->x=rawInt a)->h'.get? s.heap.objs.size=some (tup2 es[i].key es[i].val)->
   (∀ b o,b≠it->s.heap.get? b=some o->h'.get? b=some o)->Q (some (.ref s.heap.objs.size)) { s with heap:=h' })
  (hE:es.size<=i->∀ h',Heap.ExtBut it s.heap h'->Q none { s with heap:=h' }):wpAny (model prog w) A (pyNext (.ref it)) Q E s:=by
 obtain ⟨hp,g,dr,tk,os⟩:=s
 obtain ⟨od,hod,hcd,hdd⟩:=id hm
 have hT:Shared.TypeIs ⟨hp,g,dr,tk,os⟩ (.ref it) "dict_itemiterator":=⟨_,hit,rfl⟩
 unfold pyNext
 refine qa (wpAny_attempt (wpAny_callSpecial?_slot (name:=Str.ofString "__next__") hT F.slot_dict_itemiterator_next
  (zr F.slot_dict_itemiterator_next hT F.entry_dict_itemiterator_next ?_ (F.args_dict_itemiterator_next_1 _))))
 refine qa (qb (qa (qa ?_)))
 first | refine qa (wpAny_typeNameOfWhole_itemiter hT (qb ?_)) | refine qa (wpAny_typeNameOf_itemiter hT (qb ?_))
 refine qa (wpAny_fieldsOf hit rfl ?_)
 have hown:Builtin.Dict_items.ownsTuple "dict_itemiterator"=true:=by decide
 simp -iota only [hown,if_true]
 show wpAny _ _ (if (Value.ref d == Value.none)=true then _ else _) _ _ _
 rw [zi (show ¬ ((Value.ref d == Value.none)=true) from q5)]
 refine qa (qb (qa (wpAny_dictEntries hod hdd ?_)))
 rw [zi (by simp)]
 refine qa (qb (qa (wpAny_dictEpoch hod hdd ?_)))
 rw [zi (by simp)]
 refine qb ?_
 dsimp only
 simp -iota only [show ¬ ((i:Int) < 0) from by omega,if_false,qZ]
 by_cases hi:i < es.size
 ·simp -iota only [getElem?_eq_getElem hi]
  dsimp only
  replace hQ:=hQ hi
  clear hE
  refine qa ?_
  first | refine qa (wpAny_typeNameOfWhole_itemiter hT (qb ?_)) | refine qa (wpAny_typeNameOf_itemiter hT (qb ?_))
  refine qa (wpAny_isOneOf_itemiter hT ?_)
  show wpAny _ _ (setField (.ref it) 3 (rawInt ((i:Int) + 1)) >>= _) _ _ ⟨hp,g,dr,tk,os⟩
  refine qa (zu hit (by simp) fun h₁ he₁ hs₁=>?_)
  replace hs₁:Heap.SameBut it hp h₁:=hs₁
  replace he₁:ItP h₁ it d x f (i + 1) es.size ep ok ov:=by
   have e:((i + 1:Nat):Int)=(i:Int) + 1:=by omega
   unfold ItP; rw [e]; simpa [rawInt] using he₁
  have hT₁:Shared.TypeIs ⟨h₁,g,dr,tk,os⟩ (.ref it) "dict_itemiterator":=⟨_,he₁,rfl⟩
  refine qa (zv (qa (wpAny_isOneOf_itemiter hT₁ (qa (wpAny_isOneOf_itemiter hT₁ ?_)))))
  show wpAny _ _ (Builtin.Dict_items.pairFromOwner (.ref it) 6 es[i].key es[i].val) _ _ ⟨h₁,g,dr,tk,os⟩
  unfold Builtin.Dict_items.pairFromOwner
  refine qa (wpAny_newTuple ?_)
  have he₂:ItP (h₁.push (tup2 es[i].key es[i].val)) it d x f (i + 1) es.size ep ok ov:=qc _ he₁
  generalize hh₂:h₁.push (tup2 es[i].key es[i].val)=h₂ at he₂
  have hz₁:h₁.objs.size=hp.objs.size:=hs₁.1
  have hil:it < hp.objs.size:=qg hit
  have ht₂:h₂.get? hp.objs.size=some (tup2 es[i].key es[i].val):=by rw [<- hh₂,<- hz₁]; exact qd _ rfl
  have hk₂:∀ b o,b≠it->hp.get? b=some o->h₂.get? b=some o:=fun b o hb e=>by rw [<- hh₂]; exact qc _ (hs₁.extBut b o hb e)
  show wpAny _ _ (Builtin.Dict_items.ownedTupleIsFree (.ref it) >>= _) _ _ ⟨h₂,g,dr,tk,os⟩
  rw [hz₁]
  clear hh₂ he₁ hs₁ hT₁ hz₁ h₁
  refine qa ?_
  unfold Builtin.Dict_items.ownedTupleIsFree
  refine qa (zo he₂ rfl (x:=x) rfl ?_)
  rcases hx with ⟨rfl,rfl⟩ | ⟨a,oa,rfl,ha,hai⟩
  ·refine qb ?_
   simp only [if_true]
   refine qa (zo he₂ rfl (x:=ok) rfl (qa (zo he₂ rfl (x:=ov) rfl ?_)))
   refine qa (zu he₂ (by simp) fun h₃ he₃ hs₃=>?_)
   replace hs₃:Heap.SameBut it h₂ h₃:=hs₃
   replace he₃:ItP h₃ it d .none false (i + 1) es.size ep es[i].key ov:=he₃
   refine qa (zu he₃ (by simp) fun h₄ he₄ hs₄=>?_)
   replace hs₄:Heap.SameBut it h₃ h₄:=hs₄
   replace he₄:ItP h₄ it d .none false (i + 1) es.size ep es[i].key es[i].val:=he₄
   refine qa (zu he₄ (by simp) fun h₅ he₅ hs₅=>?_)
   replace hs₅:Heap.SameBut it h₄ h₅:=hs₅
   replace he₅:ItP h₅ it d (rawInt hp.objs.size) false (i + 1) es.size ep es[i].key es[i].val:=he₅
   refine qa (zu he₅ (by simp) fun h₆ he₆ hs₆=>?_)
   replace hs₆:Heap.SameBut it h₅ h₆:=hs₆
   replace he₆:ItP h₆ it d (rawInt hp.objs.size) false (i + 1) es.size ep es[i].key es[i].val:=he₆
   have kp:∀ b o,b≠it->h₂.get? b=some o->h₆.get? b=some o:=fun b o hb e=>hs₆.extBut b o hb (hs₅.extBut b o hb (hs₄.extBut b o hb (hs₃.extBut b o hb e)))
   have hn:=ne_of_gt hil
   exact qa (wpAny_letGo (qb (qb ⟨_,rfl,qb (hQ h₆ _ _ _ _ _ he₆ (kp _ _ hn ht₂) hn (fun _=>⟨rfl,rfl⟩) (fun z=>absurd rfl z) (kp _ _ hn ht₂) fun b o hb e=>kp b o hb (hk₂ b o hb e))⟩)))
  ·have ha₂:h₂.get? a=some oa:=hk₂ a oa hai ha
   show wpAny _ _ (loadIfAlive ((a:Int).toNat) >>= _) _ _ _
   rw [qZ]
   refine qa (kdx_alive ha₂ ?_)
   simp only [Option.isNone_some,false_eq_true,if_false]
   refine qa (zo he₂ rfl (x:=.bool f) rfl ?_)
   have fin:∀ h₃:Heap,ItP h₃ it d (rawInt a) true (i + 1) es.size ep ok ov->Heap.SameBut it h₂ h₃->Q (some (.ref hp.objs.size)) ⟨h₃,g,dr,tk,os⟩:=fun h₃ he₃ hs₃=>
    hQ h₃ a oa _ _ _ he₃ (hs₃.extBut _ _ hai ha₂) hai (fun z=>nomatch z) (fun _=>rfl) (hs₃.extBut _ _ (ne_of_gt hil) ht₂) fun b o hb e=>hs₃.extBut b o hb (hk₂ b o hb e)
   cases f with
   | true=>
     rw [zi (show ¬ ((Value.bool true !=Value.bool true)=true) from q5)]
     refine qb ?_
     simp only [false_eq_true,if_false]
     exact qb (qb ⟨_,rfl,qb (fin h₂ he₂ (Heap.SameBut.refl _ _))⟩)
   | false=>
     rw [zc (show (Value.bool false !=Value.bool true)=true from rfl)]
     refine qa (zu he₂ (by simp) fun h₃ he₃ hs₃=>qb ?_)
     simp only [false_eq_true,if_false]
     exact qb (qb ⟨_,rfl,qb (fin h₃ he₃ hs₃)⟩)
 ·simp -iota only [Array.getElem?_eq_none (Nat.le_of_not_lt hi)]
  dsimp only
  refine qa ?_
  first | refine qa (wpAny_typeNameOfWhole_itemiter hT (qb ?_)) | refine qa (wpAny_typeNameOf_itemiter hT (qb ?_))
  show wpAny _ _ (setField (.ref it) 2 .none >>= _) _ _ _
  refine qa (wpAny_setField hit rfl (by simp) ?_)
  show wpAny _ _ (newExc (.type "StopIteration") [] >>= _) _ _ _
  refine qa ?_
  simp only [newExc,newTuple]
  refine qa (zp ?_ (by size_fits))
  refine qa (m:=firstArgMember _ _) (zw (a:=Value.none) (by first | rfl | (simp only [firstArgMember]; rfl)) (zp ?_ (by size_fits)))
  simp only [raiseNew]
  refine qa (wpAny_handled ?_)
  rw [show A.in1.handled=none from hh]
  refine qa (qb (wpAny_throw ?_))
  refine qa (wpAny_isInstance (T:="StopIteration") (b:=true) ⟨_,qd _ rfl,rfl⟩ isSubtype_stop ?_)
  exact qb (hE (by omega) _ (((Heap.SameBut.update ..).extBut.push _).push _))
theorem pair_view (hd:(d == sysModules)=false):MeetsIn prog w (Builtin.«dict.items» ⟨[.ref d],[]⟩) (fun _ R s=>(∃ es ep,RawD s.heap d es ep)/\
   R (.ok (.ret (.ref s.heap.objs.size))) { s with heap:=s.heap.push { cls:=.type "dict_items",data:=.fields #[.ref d] } }):=
 .of_wp fun A R s h=>by
  obtain ⟨⟨es,ep,hm⟩,h⟩:=h
  unfold Builtin.«dict.items»
  refine qa ?_
  unfold Builtin.Dict.noArgs
  refine qa (wpAny_notOrdered_dict hm.type (qb ?_))
  show wpAny _ _ (Builtin.Dict.showsAll d >>= _) _ _ s
  unfold Builtin.Dict.showsAll
  rw [zi (by rw [hd]; exact q5)]
  exact qa (qb (qa (zp (qb ⟨_,rfl,h⟩))))
abbrev itP0 (d:Addr) (n ep:Nat):Obj:={ cls:=.type "dict_itemiterator",data:=.fields #[.none,.bool false,.ref d,.int 0 0,.int n 0,.int ep 0,.none,.none] }
theorem pair_iter {v:Addr} {Q:zz} (hv:s.heap.IsItemsView v d) (hm:RawD s.heap d es ep) (hQ:Q (.ref s.heap.objs.size) { s with heap:=s.heap.push (itP0 d es.size ep) }):wpAny (model prog w) A (pyIter (.ref v)) Q E s:=by
 obtain ⟨ov,hov,hcv,hdv⟩:=id hv
 obtain ⟨o,ho,hc,hdat⟩:=id hm
 refine wpAny_pyIter_slot hv.typeIs F.slot_dict_items_iter (zr F.slot_dict_items_iter hv.typeIs F.entry_dict_items_iter ?_ (F.args_dict_items_iter_1 _))
 unfold Builtin.«dict_items.__iter__»
 refine qa (qb (qa ?_))
 unfold Builtin.Dict_items.dictOf
 refine qa (zo hov hdv (x:=.ref d) rfl (qb (qa ?_)))
 unfold Builtin.Dict_items.newIterator
 refine qa (wpAny_dictEntries ho hdat (qa (wpAny_dictEpoch ho hdat ?_)))
 have hown:Builtin.Dict_items.ownsTuple "dict_itemiterator"=true:=by decide
 simp -iota only [hown,if_true]
 refine zp (qb ⟨_,rfl,"dict_itemiterator",_,⟨_,qd _ rfl,rfl⟩,F.slot_dict_itemiterator_next.lookup,?_⟩)
  (by simp only [sizeOk,Builtin.Dict_items.ownedTupleFields,qu,qt,qv,qy,zt]; omega)
 simpa [rawInt,Builtin.Dict_items.ownedTupleFields] using hQ
end
structure PG (es:Array DictEntry) (lo:Addr) (h:Heap) (as:List Addr):Prop where
 ab:∀ a∈as,lo < a
 pr:∀ (j:Nat) (a:Addr),as[j]?=some a->∃ hj:j < es.size,h.get? a=some (tup2 es[j].key es[j].val)
abbrev lstO (z7:Array Value) (c:Nat):Obj:={ cls:=.type "list",dict:=none,data:=.seq z7 c,slots:=#[] }
section
variable {s:Shared} {h₁:Heap}
theorem pair_loop (hh:A.handled=none) (hSI:S < I) (hSd:d≠S) (hId:d≠I) (hn:es.size<=sizeLine) (res:Value)
  (hR:∀ h' tk z7 c as,(∀ b o,b≠S->b≠I->h₁.get? b=some o->h'.get? b=some o)->h'.get? S=some (lstO z7 c)->as.length=es.size->PG es I h' as->z7.toList=as.map Value.ref->R (.ok (.ret res)) { s with heap:=h',toks:=tk }):
  ∀ (k i:Nat) (h:Heap) (tk c:Nat) (z7:Array Value) (as:List Addr),es.size - i=k->i<=es.size->(∃ x f ok ov,ItP h I d x f i es.size ep ok ov/\((x=.none/\f=false)\/∃ (a:Nat) (oa:Obj),x=rawInt a/\h.get? a=some oa/\a≠I/\a≠S))->RawD h d es ep->
    (∀ b o,b≠S->b≠I->h₁.get? b=some o->h.get? b=some o)->h.get? S=some (lstO z7 c)->z7.toList=as.map Value.ref->as.length=i->PG es I h as->I < h.objs.size->
    codeAny (model prog w) A (.builtin "list.extend.loop" ⟨[.ref S,.ref I,res],[]⟩) R { s with heap:=h,toks:=tk }:=by
 have hne:S≠I:=ne_of_lt hSI
 intro k
 induction k with
 | zero=>
   intro i h tk c z7 as hk hi hst hD hkeep hS hacc hal hG hIs
   obtain ⟨x,f,ok,ov,hit,hx⟩:=hst
   refine codeAny_builtin PySem.F.entry_extend_loop ?_
   rw [Around.under_plainId PySem.F.plain_extend_loop _]
   show wpAny _ A.in1 (pyNext (.ref I) >>= _) _ _ _
   refine qa (pair_both (s:={ s with heap:=h,toks:=tk }) (A:=A.in1) hh hit (hx.imp id fun z=>let ⟨a,oa,e1,e2,e3,_⟩:=z; ⟨a,oa,e1,e2,e3⟩) hD (fun z=>by omega) fun _ h' he=>?_)
   refine qb (hR h' tk z7 c as (fun b o h1 h2 e=>he b o h2 (hkeep b o h1 h2 e)) (he S _ hne hS) (by omega) ⟨hG.ab,fun j a hj=>?_⟩ hacc)
   obtain ⟨q,e⟩:=hG.pr j a hj
   exact ⟨q,he a _ (ne_of_gt (hG.ab a (qP hj))) e⟩
 | succ k ih=>
   intro i h tk c z7 as hk hi hst hD hkeep hS hacc hal hG hIs
   have hlt:i < es.size:=by omega
   obtain ⟨x,f,ok,ov,hit,hx⟩:=hst
   have hsz:z7.size=i:=by rw [<- qY,hacc,qq,hal]
   have hSl:S < h.objs.size:=qg hS
   refine codeAny_builtin PySem.F.entry_extend_loop ?_
   rw [Around.under_plainId PySem.F.plain_extend_loop _]
   show wpAny _ A.in1 (pyNext (.ref I) >>= _) _ _ _
   refine qa (pair_both (s:={ s with heap:=h,toks:=tk }) (A:=A.in1) hh hit (hx.imp id fun z=>let ⟨a,oa,e1,e2,e3,_⟩:=z; ⟨a,oa,e1,e2,e3⟩) hD (fun _ h' a oa f' ok' ov' hit' ha hai hxn hxs ht hkp=>?_) fun z=>by omega)
   dsimp only at ht hkp hxn hxs ⊢
   have hS':=hkp S _ hne hS
   have up:∀ b o,b≠S->h'.get? b=some o->(h'.update S (Obj.mapSeq (·.push (Value.ref h.objs.size)))).get? b=some o:=fun b o hb e=>(zk _ _ (Ne.symm hb)).trans e
   have haS:a≠S:=fun z=>by
    subst z
    rcases hx with ⟨q,_⟩ | ⟨b,ob,q,_,_,hb⟩
    ·exact ne_of_lt hSl (hxn q).1
    ·have e:=q.symm.trans (hxs (by rw [q]; exact fun z=>nomatch z))
     have e2:(b:Int)=(a:Int):=by simpa [rawInt] using e
     exact hb (by omega)
   show wpAny _ A.in1 (updateSeq S (·.push (Value.ref h.objs.size)) >>= _) _ _ _
   refine qa ?_
   refine wpAny_updateSeq hS' rfl (qb ⟨plainId_quiet PySem.F.plain_extend_loop _,ih (i + 1) _ tk _ (z7.push (Value.ref h.objs.size)) (as++[h.objs.size]) (by omega) hlt ⟨_,f',ok',ov',up I _ hne.symm hit',.inr ⟨a,oa,rfl,up a oa haS ha,hai,haS⟩⟩ (hD.at fun o e=>up d o hSd (hkp d o hId e))
    (fun b o h1 h2 e=>up b o h1 (hkp b o h2 (hkeep b o h1 h2 e))) (zm _ hS' rfl) (by rw [Array.toList_push,hacc,map_append]; rfl) (by rw [qt,hal]; rfl) ⟨?_,?_⟩ ?_⟩) (by rw [hsz]; omega) (by show (z7.push (Value.ref h.objs.size)).size<=sizeLine + 1; rw [Array.size_push,hsz]; omega)
   ·intro a ha
    rcases qA.mp ha with ha | ha
    ·exact hG.ab a ha
    ·rw [qw.mp ha]; exact hIs
   ·intro j b hj
    rcases lt_or_ge j as.length with h1 | h1
    ·rw [getElem?_append_left h1] at hj
     obtain ⟨q,e⟩:=hG.pr j b hj
     have hb:=hG.ab b (qP hj)
     exact ⟨q,up b _ (ne_of_gt (lt_trans hSI hb)) (hkp b _ (ne_of_gt hb) e)⟩
    ·rw [getElem?_append_right h1,List.getElem?_singleton] at hj
     split at hj
     ·have hj':j=i:=by omega
      subst hj'
      cases hj
      exact ⟨hlt,up _ _ (ne_of_gt hSl) ht⟩
     ·cases hj
   ·have e:(h'.update S (Obj.mapSeq (·.push (Value.ref h.objs.size)))).get? h.objs.size=_:=up _ _ (ne_of_gt hSl) ht
    exact lt_trans hIs (qg e)
end
theorem pair_extend {R:Result->Shared->Prop} (hh:A.handled=none) (hv:s.heap.IsItemsView r d) (hm:RawD s.heap d es ep) (S:Addr) (hSr:S≠r) (hSd:d≠S) (res:Value) (c₀:Nat) (hS:s.heap.get? S=some { cls:=.type "list",data:=.seq #[] c₀ })
  (hR:∀ h' tk z7 c as,(∀ b o,b≠S->s.heap.get? b=some o->h'.get? b=some o)->h'.get? S=some (lstO z7 c)->as.length=es.size->PG es s.heap.objs.size h' as->z7.toList=as.map Value.ref->R (.ok (.ret res)) { s with heap:=h',toks:=tk }) (hn:es.size<=sizeLine):
  wpAny (model prog w) A.in1 (Builtin.List.listExtendWith (.ref S) (.ref r) res)
   (fun fin s'=>match fin with | .done f=>R (.ok f) s' | .again c'=>c'.quiet=true/\codeAny (model prog w) A c' R s') (fun e s'=>R (.error e) s') s:=by
 have hSI:S < s.heap.objs.size:=qg hS
 have hdI:d < s.heap.objs.size:=let ⟨_,ho,_⟩:=hm; qg ho
 have key:∀ (h:Heap) (c₁ tk:Nat),(∀ b o,b≠S->(s.heap.push (itP0 d es.size ep)).get? b=some o->h.get? b=some o)->h.get? S=some { cls:=.type "list",data:=.seq #[] c₁ }->
   codeAny (model prog w) A (.builtin "list.extend.loop" ⟨[.ref S,.ref s.heap.objs.size,res],[]⟩) R { s with heap:=h,toks:=tk }:=by
  intro h c₁ tk hk hS₁
  have hI:=hk s.heap.objs.size _ (ne_of_gt hSI) (qd _ rfl)
  exact pair_loop (s:=s) (h₁:=s.heap) hh hSI hSd (ne_of_lt hdI) hn res (fun h' tk' z7 c as hk' hS' hl hG hacc=>hR h' tk' z7 c as (fun b o hb e=>hk' b o hb (ne_of_lt (qg e)) e) hS' hl hG hacc)
   es.size 0 h tk c₁ #[] [] (sub_zero _) (zero_le _) ⟨_,_,_,_,hI,.inl ⟨rfl,rfl⟩⟩ (hm.at fun o e=>hk d o hSd (qc _ e)) (fun b o hb _ e=>hk b o hb (qc _ e)) hS₁ rfl rfl
   ⟨(fun _ ha=>nomatch ha),(fun j a hj=>by simp at hj)⟩ (qg hI)
 unfold Builtin.List.listExtendWith
 refine qa (wpAny_typeOf (T:="dict_items") hv.typeIs ?_)
 have h1:Builtin.List.listSameRef (.ref S) (.ref r)=false:=by simp [Builtin.List.listSameRef,hSr]
 have h2:(Value.type "dict_items" == Value.type "list")=false:=by decide
 have h3:(Value.type "dict_items" == Value.type "tuple")=false:=by decide
 simp only [h1,h2,h3,Bool.or_false,false_eq_true,if_false]
 refine qa (pair_iter hv hm ?_)
 have hS₁:=qc (itP0 d es.size ep) hS
 refine qa (zv (kdx_hint (let ⟨o,ho,hc,_⟩:=hv; ⟨o,qc _ ho,hc⟩) ?_))
 refine wpAny_ite_split (fun _=>?_) (fun _=>qb ⟨plainId_quiet PySem.F.plain_extend_loop _,key _ c₀ _ (fun b o _ e=>e) hS₁⟩)
 refine qa (wpAny_rule (qa ?_))
 show wpAny _ _ (updateSeq S (·.push .none) >>= fun _=>updateSeq S (·.pop)) _ _ _
 refine qa (wpAny_updateSeq hS₁ rfl ?_)
 have hS₂:=zm (Obj.mapSeq (·.push Value.none)) hS₁ rfl
 refine wpAny_updateSeq (hz:=by seq_fits) hS₂ rfl ?_
 have hS₃:=zm (Obj.mapSeq (·.pop)) hS₂ rfl
 exact qb ⟨plainId_quiet PySem.F.plain_extend_loop _,key _ _ _ (fun b o hb e=>(zk _ _ (Ne.symm hb)).trans ((zk _ _ (Ne.symm hb)).trans e)) hS₃⟩
theorem pair_call {Q:zz} (hh:A.handled=none) (hv:s.heap.IsItemsView r d) (hm:RawD s.heap d es ep) (hn:es.size<=sizeLine)
  (hQ:∀ h' tk z7 c as,(∀ b o,s.heap.get? b=some o->h'.get? b=some o)->h'.get? s.heap.objs.size=some (lstO z7 c)->as.length=es.size->PG es s.heap.objs.size h' as->z7.toList=as.map Value.ref->Q (.ref s.heap.objs.size) { s with heap:=h',toks:=tk }):
  wpAny (model prog w) A (call (.type "list") [.ref r]) Q E s:=by
 refine callType_codes (Q₁:=fun obj s₁=>obj=.ref s.heap.objs.size/\s₁={ s with heap:=s.heap.push { cls:=.type "list",data:=.seq #[] } }) PySem.F.called_list (PySem.F.typeCall_list_1 _) PySem.F.entry_list_init (code_list_new _ ⟨rfl,rfl⟩) fun obj s₁ h₁=>?_
 obtain ⟨rfl,rfl⟩:=h₁
 have hS:(s.heap.push { cls:=.type "list",data:=.seq #[] }).get? s.heap.objs.size=some { cls:=.type "list",data:=.seq #[] }:=qd _ rfl
 have hr:r < s.heap.objs.size:=let ⟨_,ho,_⟩:=hv; qg ho
 have hd:d < s.heap.objs.size:=let ⟨_,ho,_⟩:=hm; qg ho
 refine ⟨⟨_,hS,rfl⟩,PySem.F.args_list_init_2 _ _,?_⟩
 generalize hS1:s.heap.objs.size=S at hS hr hd hQ
 have old:∀ b o,b≠S->s.heap.get? b=some o->(s.heap.push { cls:=.type "list",data:=.seq #[] }).get? b=some o:=fun b o _ e=>qc _ e
 show wpAny _ _ (do let old <- Builtin.List.listItems (.ref S); Builtin.List.listUpdate (.ref S) (fun _=>#[]); letGo old.toList.reverse; Builtin.List.listExtendWith (.ref S) (.ref r) .none) _ _ _
 refine qa ?_
 unfold Builtin.List.listItems
 refine qa (wpAny_seqItems hS rfl (qb ?_))
 show wpAny _ _ (updateSeq S (fun _=>#[]) >>= fun _=>letGo (#[]:Array Value).toList.reverse >>= fun _=>Builtin.List.listExtendWith (.ref S) (.ref r) .none) _ _ _
 refine qa (wpAny_updateSeq hS rfl ?_)
 have hS₂:=zm (Obj.mapSeq (fun _=>(#[]:Array Value))) hS rfl
 refine qa (wpAny_letGo ?_)
 generalize hh1:(s.heap.push { cls:=.type "list",data:=.seq #[] }).update S (Obj.mapSeq (fun _=>(#[]:Array Value)))=h1 at hS₂
 have oth:∀ b o,b≠S->s.heap.get? b=some o->h1.get? b=some o:=fun b o hb e=>by rw [<- hh1]; exact (zk _ _ (Ne.symm hb)).trans (old b o hb e)
 refine pair_extend (A:=A.in1) (R:=wants (fun r s₂=>r=Value.none/\Q (Value.ref S) s₂) E) (s:={ s with heap:=h1 }) hh (let ⟨o,ho,x⟩:=hv; ⟨o,oth r o (ne_of_lt hr) ho,x⟩) (hm.at fun o e=>oth d o (ne_of_lt hd) e) S (ne_of_gt hr) (ne_of_lt hd) .none _ hS₂ (fun h' tk z7 c as hk hS' hl hG hacc=>?_) hn
 exact ⟨rfl,hQ h' tk z7 c as (fun b o e=>hk b o (ne_of_lt (hS1 ▸ qg e)) (oth b o (ne_of_lt (hS1 ▸ qg e)) e)) hS' hl ⟨fun a ha=>lt_trans (qg hS₂) (hG.ab a ha),hG.pr⟩ hacc⟩
end ST
namespace L2
open PySem PySem.Spec PyProof.Rows
abbrev Key:=Sum Int Str
def keyIs:Key->Value->Bool
 | .inl k,v=>Value.isInt k v
 | .inr x,v=>Value.isStrOf x v
def keyH (w:World):Key->Int
 | .inl k=>hashInt k
 | .inr x=>hashStr w x
theorem zas:∀ {k:Key} {v:Value},keyIs k v=true->(∃ i t,k=Sum.inl i/\v=Value.int i t)\/(∃ x t,k=Sum.inr x/\v=Value.str x t)
 | .inl i,v,h=>by
   obtain ⟨t,e⟩:=Value.isInt_shape (k:=i) (v:=v) h
   exact .inl ⟨i,t,rfl,e⟩
 | .inr x,v,h=>by
   obtain ⟨t,e⟩:=Value.isStrOf_shape (x:=x) (v:=v) h
   exact .inr ⟨x,t,rfl,e⟩
theorem zhn (i:Int) (t:Tok):keyIs (.inl i) (.int i t)=true:=by simp [keyIs,Value.isInt]
theorem zh1 (x:Str) (t:Tok):keyIs (.inr x) (.str x t)=true:=by simp [keyIs,Value.isStrOf]
theorem znC (a b:Int):decide ((Sum.inl a:Key)=Sum.inl b)=(a == b):=by
 grind
theorem znb (a b:Str):decide ((Sum.inr a:Key)=Sum.inr b)=decide (a=b):=by
 grind
theorem zoh (a:Int) (b:Str):decide ((Sum.inl a:Key)=Sum.inr b)=false:=qV (fun q=>nomatch q)
theorem zog (a:Str) (b:Int):decide ((Sum.inr a:Key)=Sum.inl b)=false:=qV (fun q=>nomatch q)
def mixKind (prog:Program) (w:World):PySem.KeyKind prog w Key where
 is:=keyIs
 hash:=keyH w
 inj:=fun v a b ha hb=>by
  rcases zas ha with ⟨i,t,rfl,rfl⟩ | ⟨x,t,rfl,rfl⟩
  ·rcases zas hb with ⟨j,u,rfl,e⟩ | ⟨y,u,rfl,e⟩
   ·injection e with e1 _; rw [e1]
   ·exact nomatch e
  ·rcases zas hb with ⟨j,u,rfl,e⟩ | ⟨y,u,rfl,e⟩
   ·exact nomatch e
   ·injection e with e1 _; rw [e1]
 byValue:=fun k v h=>by
  rcases zas h with ⟨i,t,rfl,rfl⟩ | ⟨x,t,rfl,rfl⟩ <;> rfl
 pyHash:=fun hv h=>by
  rcases zas hv with ⟨i,t,rfl,rfl⟩ | ⟨x,t,rfl,rfl⟩
  ·exact wpAny_pyHash_int h
  ·exact wpAny_pyHash_str h
 eqBool:=fun hu hv h=>by
  rcases zas hu with ⟨i,t,rfl,rfl⟩ | ⟨x,t,rfl,rfl⟩
  ·rcases zas hv with ⟨j,u,rfl,rfl⟩ | ⟨y,u,rfl,rfl⟩
   ·rw [znC] at h; exact wpAny_eqBool_int h
   ·rw [zoh] at h; exact SeqAt.EqAt.int_str i t y u _ _ _ _ h
  ·rcases zas hv with ⟨j,u,rfl,rfl⟩ | ⟨y,u,rfl,rfl⟩
   ·rw [zog] at h; exact SeqAt.EqAt.str_int x t j u _ _ _ _ h
   ·rw [znb] at h; exact wpAny_eqBool_str h
 «strs»:=fun k x t v h=>by
  rcases zas h with ⟨i,u,rfl,e⟩ | ⟨y,u,rfl,e⟩
  ·exact nomatch e
  ·injection e with e1 _
   subst e1
   cases v <;> rfl
theorem zfK (prog:Program) (w:World) (i:Int) (t:Tok):(mixKind prog w).is (.inl i) (.int i t)=true:=zhn i t
theorem zfC (prog:Program) (w:World) (x:Str) (t:Tok):(mixKind prog w).is (.inr x) (.str x t)=true:=zh1 x t
inductive V where
 | non | bl (b:Bool) | int (i:Int) | str (x:Str) | byt (b:Array UInt8) | flt (b:UInt64) | ref (a:Addr) | ty (n:String)
 deriving DecidableEq
def zO:V->Value->Prop
 | .non,u=>u=Value.none
 | .bl b,u=>u=Value.bool b
 | .int i,u=>∃ t,u=Value.int i t
 | .str x,u=>∃ t,u=Value.str x t
 | .byt b,u=>∃ t,u=Value.bytes b t
 | .flt b,u=>∃ t,u=Value.float b t
 | .ref a,u=>u=Value.ref a
 | .ty n,u=>u=Value.type n
abbrev zW:List V->List Value->Prop:=Paired zO
theorem zW.length (r:zW xs us):xs.length=us.length:=Paired.length r
theorem zW.get:∀ {xs:List V} {us:List Value} {i:Nat} {x:V},zW xs us->xs[i]?=some x->∃ u,us[i]?=some u/\zO x u
 | _,_,_,_,.nil,e=>by simp at e
 | _,_,0,_,.cons r _,e=>by simp at e; subst e; exact ⟨_,rfl,r⟩
 | _,_,i + 1,x,.cons _ t,e=>by
   obtain ⟨u,h1,h2⟩:=zW.get (i:=i) (x:=x) t (by simpa using e)
   exact ⟨u,by simpa using h1,h2⟩
theorem zW.set (r:zO x u):∀ {xs:List V} {us:List Value} (i:Nat),zW xs us->zW (xs.set i x) (us.set i u)
 | _,_,_,.nil=>.nil
 | _,_,0,.cons _ t=>.cons r t
 | _,_,i + 1,.cons q t=>.cons q (zW.set r i t)
theorem zW.append:∀ {xs ys:List V} {us ws:List Value},zW xs us->zW ys ws->zW (xs++ys) (us++ws):=by
 intro xs ys us ws r s
 induction r with
 | nil=>exact s
 | cons r _ ih=>exact .cons r ih
theorem zW.take:∀ {xs:List V} {us:List Value} (n:Nat),zW xs us->zW (xs.take n) (us.take n)
 | _,_,0,_=>.nil
 | _,_,_ + 1,.nil=>.nil
 | _,_,n + 1,.cons r t=>.cons r (zW.take n t)
theorem zW.drop:∀ {xs:List V} {us:List Value} (n:Nat),zW xs us->zW (xs.drop n) (us.drop n)
 | _,_,0,r=>r
 | _,_,_ + 1,.nil=>.nil
 | _,_,n + 1,.cons _ t=>zW.drop n t
def RelO:Option V->Option Value->Prop
 | some v,some u=>zO v u
 | none,none=>True
 | _,_=>False
def KV {κ:Type}:List (κ×V)->List (κ×Value)->Prop:=Paired fun (p:κ×V) (q:κ×Value)=>p.1=q.1/\zO p.2 q.2
def kV:Key->V
 | .inl i=>.int i
 | .inr x=>.str x
inductive HO where
 | lst (xs:List V)
 | tup (xs:List V)
 | dK (z3:List (Key×V)) | dT (z3:List (List Key×V))
 | set (vs:List V)
 | ins (C dx:Addr) (fs:List (Str×V))
 | own (x:Addr)
 | xd (fs:List (Str×V))
 | met (f x:Addr)
 | rng (lo hi:Int)
 | frz (o:Obj) (u:HO)
 | tbl (ps:Array Value)
 | ext (φ:Heap->Prop)
abbrev Hp:=Addr->Option HO
def upd (H:Hp) (a:Addr) (o:HO):Hp:=fun b=>if b=a then some o else H b
theorem zai:upd H a o a=some o:=by unfold upd; rw [zc rfl]
theorem zag (h:b≠a):upd H a o b=H b:=by unfold upd; rw [zi h]
theorem znM {H:Hp} (h:H a=some o) (h':H b=some u) (d:o≠u):a≠b:=by
 grind
theorem zau {H:Hp} (h:H a=some o) (h':H b=none):a≠b:=by
 intro e; subst e; rw [h] at h'; cases h'
section
variable (P:Program) (w:World)
def NoDc (h:Heap) (a:Addr):Prop:=∀ o,h.get? a=some o->o.dict=none
theorem NoDc.new {h:Heap} {c:Value} {x:Data} {n:Addr} (e:n=h.objs.size) (hx:(h.push { cls:=c,data:=x }).get? h.objs.size=some { cls:=c,data:=x }):NoDc (h.push { cls:=c,data:=x }) n:=fun o q=>by subst e; rw [hx] at q; cases q; rfl
def zY (H:Hp) (h:Heap) (a:Addr):HO->Prop
 | .lst xs=>xs.length<=sizeLine/\∃ (z6:List Value) (n:Nat),zW xs z6/\h.get? a=some { cls:=.type "list",data:=.seq z6.toArray n }
 | .tup xs=>(xs.length<=sizeLine/\NoDc h a)/\∃ z6:List Value,zW xs z6/\IsTup h a z6.toArray
 | .dK z3=>z3.length<=sizeLine/\(a == sysModules)=false/\∃ vs,KV z3 vs/\h.DictOf (mixKind P w) a vs
 | .dT z3=>z3.length<=sizeLine/\(a == sysModules)=false/\∃ xs:List (List Key×Addr×Value),
   Paired (fun (p:List Key×V) (q:List Key×Addr×Value)=>p.1=q.1/\H q.2.1=some (.tup (p.1.map kV))/\zO p.2 q.2.2) z3 xs/\
   ∃ o es ep,h.get? a=some o/\o.ExactDict/\o.data=.dict es ep/\es.toList=xs.map (entryOfKey (tupleKind (mixKind P w)))/\(xs.map (·.1)).Nodup
 | .set vs=>vs.length<=301/\((vs=[]/\h.get? a=some (ST.freshSet (ST.ldOf w)))\/(vs≠[]/\∃ xs:List (Key×Value),vs.Perm (xs.map fun p=>kV p.1)/\ST.VSet (ST.ldOf w) (mixKind P w) h a xs)\/vs≠[]/\∃ xs:List (List Key×Addr),vs.Perm (xs.map fun p=>V.ref p.2)/\(∀ p∈xs,H p.2=some (.tup (p.1.map kV)))/\ST.TRaw (ST.ldOf w) (tupleKind (mixKind P w)) h a xs)
 | .ins C dx fs=>H dx=some (.own a)/\fs.length<=1000/\dx≠a/\h.get? a=some (W.instObj C dx)/\
   ∃ mA,h.Ns1 dx mA/\(∀ f,RelO (fs.lookup f) (mA f))/\PySem.Within mA (fs.map (·.1))
 | .own _=>∃ o,h.get? a=some o
 | .xd fs=>∃ mA,h.Ns1 a mA/\∀ f,RelO (fs.lookup f) (mA f)
 | .rng lo hi=>∃ t u v,h.get? a=some { cls:=.type "range",data:=.fields #[.int lo t,.int hi u,.int 1 v] }
 | .frz o u=>h.get? a=some o/\zY H h a u
 | .tbl ps=>h.get? a=some { cls:=.none,data:=.fields ps }
 | .met f x=>h.get? a=some (W.methodObj (.ref f) (.ref x))
 | .ext φ=>φ h/\(∃ o,h.get? a=some o)/\∀ h1 h2:Heap,φ h1->(∀ o,h1.get? a=some o->h2.get? a=some o)->φ h2
def HOk (H:Hp) (h:Heap):Prop:=∀ a o,H a=some o->zY P w H h a o
end
section
variable {P:Program} {w:World} {H H':Hp} {h h':Heap} {a:Addr} {o:HO}
theorem zY.lt (x:zY P w H h a o):a < h.objs.size:=by
 cases o with
 | lst xs=>obtain ⟨_,_,_,_,e⟩:=x; exact qg e
 | tup xs=>obtain ⟨_,_,_,p⟩:=x; exact p.lt
 | dK z3=>obtain ⟨_,_,_,_,o,_,_,e,_⟩:=x; exact qg e
 | dT z3=>obtain ⟨_,_,_,_,o,_,_,e,_⟩:=x; exact qg e
 | set vs=>
   rcases x with ⟨_,⟨_,e⟩ | ⟨_,_,_,_,_,_,_,e,_⟩ | ⟨_,_,_,_,_,_,_,_,e,_⟩⟩
   ·exact qg e
   ·exact qg e
   ·exact qg e
 | ins C dx fs=>obtain ⟨_,_,_,e,_⟩:=x; exact qg e
 | own y=>obtain ⟨_,e⟩:=x; exact qg e
 | xd fs=>obtain ⟨_,⟨_,_,_,e,_⟩,_⟩:=x; exact qg e
 | rng lo hi=>obtain ⟨_,_,_,e⟩:=x; exact qg e
 | frz ob u=>obtain ⟨e,_⟩:=x; exact qg e
 | tbl ps=>exact qg (show h.get? a=some _ from x)
 | met f y=>exact qg (show h.get? a=some _ from x)
 | ext φ=>obtain ⟨_,⟨_,e⟩,_⟩:=x; exact qg e
theorem Paired.mapP:∀ {l₁:List α} {l₂:List β},Paired F l₁ l₂->(∀ a b,F a b->G a b)->Paired G l₁ l₂
 | _,_,.nil,_=>.nil
 | _,_,.cons r t,f=>.cons (f _ _ r) (Paired.mapP t f)
theorem zY.stay (x:zY P w H h a o) (k:∀ b u,(b=a\/H b=some (.own a))->h.get? b=some u->h'.get? b=some u)
  (ho:∀ b,H b=some (.own a)->H' b=some (.own a)) (ht:∀ b xs,H b=some (.tup xs)->H' b=some (.tup xs)):zY P w H' h' a o:=by
 induction o with
 | lst xs=>obtain ⟨z,z6,n,r,e⟩:=x; exact ⟨z,z6,n,r,k _ _ (.inl rfl) e⟩
 | tup xs=>obtain ⟨⟨z,nd⟩,z6,r,ob,e,c⟩:=x; exact ⟨⟨z,fun o q=>by rw [k _ _ (.inl rfl) e] at q; cases q; exact nd _ e⟩,z6,r,ob,k _ _ (.inl rfl) e,c⟩
 | dK z3=>obtain ⟨z,y,vs,r,ob,es,ep,e,c⟩:=x; exact ⟨z,y,vs,r,ob,es,ep,k _ _ (.inl rfl) e,c⟩
 | dT z3=>
   obtain ⟨z,y,xs,r,ob,es,ep,e,c⟩:=x
   exact ⟨z,y,xs,Paired.mapP r fun p q z=>⟨z.1,ht _ _ z.2.1,z.2.2⟩,ob,es,ep,k _ _ (.inl rfl) e,c⟩
 | set vs=>
   rcases x with ⟨z,⟨n,e⟩ | ⟨n,xs,p,ob,es,ep,t,e,c⟩ | ⟨n,xs,p,hx,ob,es,ep,t,e,c⟩⟩
   ·exact ⟨z,.inl ⟨n,k _ _ (.inl rfl) e⟩⟩
   ·exact ⟨z,.inr (.inl ⟨n,xs,p,ob,es,ep,t,k _ _ (.inl rfl) e,c⟩)⟩
   ·exact ⟨z,.inr (.inr ⟨n,xs,p,fun q hq=>ht _ _ (hx q hq),ob,es,ep,t,k _ _ (.inl rfl) e,c⟩)⟩
 | ins C dx fs=>
   obtain ⟨d,z,ne,e,mA,⟨od,es,ep,e2,c⟩,r⟩:=x
   exact ⟨ho _ d,z,ne,k _ _ (.inl rfl) e,mA,⟨od,es,ep,k _ _ (.inr d) e2,c⟩,r⟩
 | own y=>obtain ⟨ob,e⟩:=x; exact ⟨ob,k _ _ (.inl rfl) e⟩
 | xd fs=>obtain ⟨mA,⟨od,es,ep,e,c⟩,r⟩:=x; exact ⟨mA,⟨od,es,ep,k _ _ (.inl rfl) e,c⟩,r⟩
 | rng lo hi=>obtain ⟨t,u,v,e⟩:=x; exact ⟨t,u,v,k _ _ (.inl rfl) e⟩
 | frz ob u ih=>obtain ⟨e,q⟩:=x; exact ⟨k _ _ (.inl rfl) e,ih q⟩
 | tbl ps=>
   have e:h.get? a=some { cls:=.none,data:=.fields ps }:=x
   show h'.get? a=some { cls:=.none,data:=.fields ps }
   exact k a _ (.inl rfl) e
 | met f y=>
   have e:h.get? a=some (W.methodObj (.ref f) (.ref y)):=x
   show h'.get? a=some (W.methodObj (.ref f) (.ref y))
   exact k a _ (.inl rfl) e
 | ext φ=>obtain ⟨p,⟨o,e⟩,st⟩:=x; exact ⟨st _ _ p fun o q=>k _ _ (.inl rfl) q,⟨o,k _ _ (.inl rfl) e⟩,st⟩
theorem HOk.lt (x:HOk P w H h) (e:H a=some o):a < h.objs.size:=(x a o e).lt
theorem HOk.fresh (x:HOk P w H h) (e:h.objs.size<=a):H a=none:=by
 cases q:H a with
 | none=>rfl
 | some u=>exact absurd (lt_of_lt_of_le (x.lt q) e) (lt_irrefl _)
theorem HOk.kept (x:HOk P w H h) (k:∀ b u,h.get? b=some u->h'.get? b=some u):HOk P w H h':=fun a o e=>
 (x a o e).stay (fun b u _ q=>k b u q) (fun _ q=>q) fun _ _ q=>q
theorem HOk.laid (x:HOk P w H h) (k:∀ b u,h.get? b=some u->h'.get? b=some u) (hp:h.objs.size<=a) (new:zY P w (upd H a o) h' a o):HOk P w (upd H a o) h':=fun b u e=>by
 have hn:=x.fresh hp
 by_cases hb:b=a
 ·subst hb; rw [zai] at e; cases e; exact new
 ·rw [zag hb] at e
  exact (x b u e).stay (fun c v _ q=>k c v q) (fun c q=>by rw [zag (zau q hn)]; exact q) fun c xs q=>by rw [zag (zau q hn)]; exact q
end
def Rd (H:Hp) (a:Addr) (u:HO):Prop:=H a=some u\/∃ o,H a=some (.frz o u)
theorem Rd.of (h:H a=some u):Rd H a u:=.inl h
theorem Rd.ok (r:Rd H a u) (x:HOk P w H h):zY P w H h a u:=by
 rcases r with r | ⟨o,r⟩
 ·exact x a u r
 ·obtain ⟨_,q⟩:=x a _ r
  exact q
def Mut:Option HO->Prop
 | some (.lst _)=>True
 | some (.dK _)=>True
 | some (.dT _)=>True
 | some (.set _)=>True
 | some (.ins _ _ _)=>True
 | some (.ext _)=>True
 | _=>False
section
variable {P:Program} {w:World} {H:Hp} {h h':Heap} {x e:Addr} {o':HO}
theorem HOk.write (ok:HOk P w H h) (mu:Mut (H x)) (he:e=x\/H e=some (.own x)) (k:∀ b u,b≠e->h.get? b=some u->h'.get? b=some u) (heo:∃ u,h'.get? e=some u)
  (new:zY P w (upd H x o') h' x o'):HOk P w (upd H x o') h':=fun b u q=>by
 have nown:∀ c y,H c=some (.own y)->c≠x:=fun c y r z=>by subst z; rw [r] at mu; exact mu
 have ntup:∀ c xs,H c=some (.tup xs)->c≠x:=fun c xs r z=>by subst z; rw [r] at mu; exact mu
 by_cases hb:b=x
 ·subst hb; rw [zai] at q; cases q; exact new
 ·rw [zag hb] at q
  by_cases hbe:b=e
  ·have q':H b=some (.own x):=by
    grind
   rw [q] at q'; cases q'
   obtain ⟨v,hv⟩:=heo
   exact ⟨v,by rw [hbe]; exact hv⟩
  ·refine (ok b u q).stay (fun c v hc r=>k c v ?_ r) (fun c r=>by rw [zag (nown c b r)]; exact r) fun c xs r=>by rw [zag (ntup c xs r)]; exact r
   grind
end
structure Un (fs ex:List Addr) (H H':Hp) (h h':Heap):Prop where
 keep:∀ b o,h.get? b=some o->H b=none->b∉fs->b∉ex->h'.get? b=some o
 slot:∀ b o,h.get? b=some o->H b=none->b∈fs->b∉ex->∃ sl,h'.get? b=some { o with slots:=sl }
 free:∀ b o,h.get? b=some o->H b=none->b∉ex->H' b=none
 there:∀ b o,h.get? b=some o->b∉ex->∃ o',h'.get? b=some o'
 tups:∀ b xs,H b=some (.tup xs)->H' b=some (.tup xs)
 frzs:∀ b o u,H b=some (.frz o u)->H' b=some (.frz o u)
 tbls:∀ b ps,H b=some (.tbl ps)->∃ more,H' b=some (.tbl (ps++more))
section
variable {fs fs' ex ex':List Addr} {H H1 H2:Hp} {h h1 h2 h':Heap} {a x e:Addr} {o:HO}
theorem Un.any (u:Un fs ex H H1 h h1) (q:h.get? b=some ob) (n:H b=none) (hx:b∉ex):∃ sl,h1.get? b=some { ob with slots:=sl }:=by
 by_cases hb:b∈fs
 ·exact u.slot b ob q n hb hx
 ·exact ⟨ob.slots,u.keep b ob q n hb hx⟩
theorem Un.kept (k:∀ b u,h.get? b=some u->h'.get? b=some u):Un fs ex H H h h':=
 ⟨fun b ob q _ _ _=>k b ob q,fun b ob q _ _ _=>⟨ob.slots,k b ob q⟩,fun _ _ _ n _=>n,fun b ob q _=>⟨ob,k b ob q⟩,fun _ _ q=>q,fun _ _ _ q=>q,fun _ ps q=>⟨#[],by rw [q]; simp⟩⟩
theorem Un.refl:Un fs ex H H h h:=Un.kept fun _ _ q=>q
theorem Un.laid (k:∀ b u,h.get? b=some u->h'.get? b=some u) (hp:h.objs.size<=a) (hn:H a=none):Un fs ex H (upd H a o) h h' where
 keep:=fun b u q _ _ _=>k b u q
 slot:=fun b u q _ _ _=>⟨u.slots,k b u q⟩
 free:=fun b u q n _=>by rw [zag (ne_of_lt (lt_of_lt_of_le (qg q) hp))]; exact n
 there:=fun b u q _=>⟨u,k b u q⟩
 tups:=fun b xs q=>by rw [zag (zau q hn)]; exact q
 frzs:=fun b u xs q=>by rw [zag (zau q hn)]; exact q
 tbls:=fun b ps q=>⟨#[],by rw [zag (zau q hn),q]; simp⟩
theorem Un.write (mu:Mut (H x)) (he:e=x\/H e=some (.own x)) (k:∀ b u,b≠e->h.get? b=some u->h'.get? b=some u) (heo:∃ u,h'.get? e=some u):Un fs ex H (upd H x o) h h':=by
 have hx:∀ b,H b=none->b≠x:=fun b n z=>by subst z; rw [n] at mu; exact mu
 have hb:∀ b,H b=none->b≠e:=fun b n z=>by
  grind
 have hm:∀ b u,H b=some u->¬ Mut (some u)->b≠x:=fun b u q nm z=>by subst z; rw [q] at mu; exact nm mu
 refine ⟨fun b u q n _ _=>k b u (hb b n) q,fun b u q n _ _=>⟨u.slots,k b u (hb b n) q⟩,fun b u q n _=>by rw [zag (hx b n)]; exact n,fun b u q _=>?_,
  fun b xs q=>by rw [zag (hm b _ q fun z=>z)]; exact q,fun b u xs q=>by rw [zag (hm b _ q fun z=>z)]; exact q,fun b ps q=>⟨#[],by rw [zag (hm b _ q fun z=>z),q]; simp⟩⟩
 grind
end
def trk (h:Heap) (H:Hp):List Addr:=(List.range h.objs.size).filter fun a=>(H a).isSome
def hidT (h:Heap) (H:Hp):Heap:=W.hideAll h (trk h H)
theorem zhG (h:Heap) (H:Hp):(hidT h H).objs.size=h.objs.size:=W.hideAll_size _ _
theorem zkM (e:h.get? b=some o) (n:H b=none):(hidT h H).get? b=some o:=
 W.hideAll_get _ e fun hm=>by
  have q:(H b).isSome=true:=(mem_filter.mp hm).2
  rw [n] at q; simp at q
theorem zlS (e:(hidT h H).get? b=some o):h.get? b=some o/\H b=none:=by
 have e':h.get? b=some o:=W.of_hideAll (trk h H) e
 refine ⟨e',?_⟩
 cases q:H b with
 | none=>rfl
 | some x=>
   grind [trk,mem_filter,mem_range,Heap.lt_size,hidT,W.hideAll_none]
def allNews (g h:Heap) (L:Addr):List (Addr×Obj):=(List.range h.objs.size).filterMap fun a=>if a=L\/(g.get? a).isSome=true then none else (h.get? a).map fun o=>(a,o)
theorem zfJ (h1:a≠L) (h2:g.get? a=none) (h3:h.get? a=some o):(a,o)∈allNews g h L:=
 mem_filterMap.mpr ⟨a,qM.mpr (qg h3),by simp [h1,h2,h3]⟩
def rest (g h:Heap) (L d:Addr):List (Addr×Obj):=(allNews g h L).filter fun p=>decide (p.1≠d)
theorem zcx (h1:a≠L) (h2:g.get? a=none) (h3:h.get? a=some o) (h4:a≠d):(a,o)∈rest g h L d:=
 mem_filter.mpr ⟨zfJ h1 h2 h3,qU h4⟩
structure Mod (K:W.Frag) (mg:Str->Option Value) (base:Heap):Prop where
 kin:K.In base
 glob:base.Ns mainGlobals mg
 blt:∃ mb,base.Ns builtinsNs mb/\∀ x:Str,x≠"__name__"->mb x=bootBuiltins x
 nolimit:base.NoLimit
structure Cx where
 prog:Program
 w:World
 K:W.Frag
 mg:Str->Option Value
 base:Heap
 A:Around
 N:List Str
 s₀:Shared
 H₀:Hp
 env:Env
 outer:List Env
 stack:List Env
 ex:List Addr
 fn:Str->Bool
 calm:Bool
 pn:List (Addr×Obj)
 xe:zz
def frs (l:List Env):List Addr:=l.filterMap (·.frame)
abbrev Cx.fs (X:Cx):List Addr:=frs X.outer
def Vis (sc:Scope) (x:Str):Prop:=sc.names.lookup x=some .local\/sc.names.lookup x=some .cell\/sc.names.lookup x=some .free
def Loc (sc:Scope) (x:Str):Prop:=sc.names.lookup x=some .local\/sc.names.lookup x=some .cell
def Look (env:Env) (h:Heap) (m:Str->Option Value) (x:Str) (u:Value):Prop:=
 (env.kindOf x=some .local/\m x=some u)\/((env.kindOf x=some .cell\/env.kindOf x=some .free)/\∃ c,env.cells.lookup x=some c/\h.IsCell c (some u))
structure Cx.Ok (X:Cx):Prop where
 mod:Mod X.K X.mg X.base
 kind:X.env.scope.kind=.function
 glob:X.env.globals=mainGlobals
 blt:X.env.builtins=builtinsNs
 above:X.s₀.heap.objs.size<=X.env.locals
 inj:∀ x y c,X.env.cells.lookup x=some c->X.env.cells.lookup y=some c->x=y
 has:∀ x,(X.env.kindOf x=some .cell\/X.env.kindOf x=some .free)->∃ c,X.env.cells.lookup x=some c
 cab:∀ x c,X.fn x=true->X.env.cells.lookup x=some c->X.s₀.heap.objs.size<=c
 hd:X.calm=true->X.A.handled=none
 frames:X.A.frames=some X.stack
 stk:X.stack=X.outer\/(X.stack=X.env::X.outer/\X.env.frame=some X.env.locals)
 exf:∀ b∈X.ex,b≠X.env.locals/\∀ x c,X.env.cells.lookup x=some c->c≠b
 bs:∀ b o,X.base.get? b=some o->X.s₀.heap.get? b=some o/\X.H₀ b=none
 bsz:X.base.objs.size<=X.s₀.heap.objs.size
 noex:∀ b o,X.base.get? b=some o->b∉X.ex
 exfs:∀ b∈X.ex,b∉X.fs
 funs:X.s₀.heap.FunFrames X.base X.outer
 frf:∀ b∈X.fs,X.H₀ b=none
structure Inv (X:Cx) (zZ:List (Addr×Obj)) (σ:List (Option V)) (H:Hp) (s:Shared):Prop where
 ok:X.Ok
 os:s.os=X.s₀.os
 bare:AllBare s.gens
 base:Un X.fs X.ex X.H₀ H X.s₀.heap s.heap
 loc:∃ m,s.heap.Ns X.env.locals m/\∀ (i:Nat) (x:Str) (v:V),X.N[i]?=some x->σ[i]?=some (some v)->Vis X.env.scope x->∃ u,zO v u/\Look X.env s.heap m x u
 cell:∀ x c,X.env.cells.lookup x=some c->∃ v,s.heap.IsCell c v
 free:H X.env.locals=none
 freeC:∀ x c,X.env.cells.lookup x=some c->H c=none
 pin:∀ p∈X.pn++zZ,s.heap.get? p.1=some p.2/\H p.1=none/\p.1≠X.env.locals/\p.1∉X.fs/\∀ v,p.2.data≠.cell v
 hok:HOk X.prog X.w H s.heap
 len:σ.length=X.N.length
section
variable {X:Cx} {zZ:List (Addr×Obj)} {σ:List (Option V)} {H H':Hp} {s:Shared} {h':Heap}
theorem Cx.Ok.nofr (ok:X.Ok) (e:X.base.get? b=some o):b∉X.fs:=fun hb=>by
 have:=(ok.funs.mem hb).1
 rw [e] at this; cases this
theorem Inv.bs (I:Inv X zZ σ H s):∀ b o,X.base.get? b=some o->s.heap.get? b=some o/\H b=none:=fun b o e=>
 ⟨I.base.keep b o (I.ok.bs b o e).1 (I.ok.bs b o e).2 (I.ok.nofr e) (I.ok.noex b o e),I.base.free b o (I.ok.bs b o e).1 (I.ok.bs b o e).2 (I.ok.noex b o e)⟩
theorem Inv.bk (I:Inv X zZ σ H s):∀ b o,X.base.get? b=some o->s.heap.get? b=some o:=fun b o e=>(I.bs b o e).1
theorem Inv.mod (I:Inv X zZ σ H s):Mod X.K X.mg X.base:=I.ok.mod
theorem Inv.kIn (I:Inv X zZ σ H s):X.K.In s.heap:=I.ok.mod.kin.keeps I.bk
theorem Inv.fr (I:Inv X zZ σ H s):∃ m,Fr X.base X.env.locals s.heap m:=
 let ⟨m,hn,_⟩:=I.loc
 ⟨m,hn,I.bk,le_trans I.ok.bsz I.ok.above⟩
theorem Inv.lt (I:Inv X zZ σ H s):X.env.locals < s.heap.objs.size:=let ⟨_,hn,_⟩:=I.loc; hn.lt
theorem Inv.sz (I:Inv X zZ σ H s):X.s₀.heap.objs.size<=s.heap.objs.size:=le_trans I.ok.above (le_of_lt I.lt)
theorem Inv.nofs (I:Inv X zZ σ H s) (h:s.heap.objs.size<=a):a∉X.fs:=fun hb=>by
 obtain ⟨_,o,ho,_⟩:=I.ok.funs.mem hb
 exact absurd (lt_of_lt_of_le (qg ho) (le_trans I.sz h)) (lt_irrefl _)
theorem Inv.cne (I:Inv X zZ σ H s):∀ x c,X.env.cells.lookup x=some c->c≠X.env.locals:=fun x c e z=>by
 obtain ⟨v,o,ho,hd⟩:=I.cell x c e
 obtain ⟨m,⟨o',es,ep,ho',hd',_⟩,_⟩:=I.loc
 rw [z,ho'] at ho; cases ho; rw [hd'] at hd; cases hd
theorem Inv.funs (I:Inv X zZ σ H s):s.heap.FunFrames X.base X.outer:=by
 have all:∀ (l:List Env),(∀ b∈frs l,b∈X.fs)->X.s₀.heap.FunFrames X.base l->s.heap.FunFrames X.base l:=by
  intro l
  induction l with
  | nil=>intro _ _; trivial
  | cons env r ih=>
    intro hs hl
    obtain ⟨hk,⟨L,o,hf,hn,ho,hd⟩,hr⟩:=hl
    have hL:L∈X.fs:=hs L (by unfold frs; rw [filterMap_cons,hf]; exact qp)
    obtain ⟨sl,e⟩:=I.base.slot L o ho (I.ok.frf L hL) hL fun z=>I.ok.exfs L z hL
    exact ⟨hk,⟨L,_,hf,hn,e,hd⟩,ih (fun b hb=>hs b (by unfold frs; rw [filterMap_cons,hf]; exact qo _ hb)) hr⟩
 exact all X.outer (fun _ hb=>hb) I.ok.funs
theorem Inv.stack (I:Inv X zZ σ H s):s.heap.FunFrames X.base X.stack:=by
 rcases I.ok.stk with e | ⟨e,hf⟩
 ·rw [e]; exact I.funs
 ·rw [e]
  obtain ⟨m,hn,_⟩:=I.loc
  refine .cons (by rw [I.ok.kind]; decide) hf hn ?_ I.funs
  exact Heap.get?_none_of_le (le_trans I.ok.bsz I.ok.above)
theorem Inv.stkSub (I:Inv X zZ σ H s):∀ b∈frs X.stack,b∈X.env.locals::X.fs:=fun b hb=>by
 rcases I.ok.stk with e | ⟨e,hf⟩
 ·rw [e] at hb; exact qo _ hb
 ·rw [e] at hb
  unfold frs at hb
  rw [filterMap_cons,hf] at hb
  exact hb
theorem Inv.stkFree (I:Inv X zZ σ H s):∀ b∈frs X.stack,H b=none:=fun b hb=>by
 rcases qD.mp (I.stkSub b hb) with e | hb
 ·rw [e]; exact I.free
 ·obtain ⟨_,o,ho,_⟩:=I.ok.funs.mem hb
  exact I.base.free b o ho (I.ok.frf b hb) fun z=>I.ok.exfs b z hb
theorem Inv.step {ch:List Addr} (I:Inv X zZ σ H s)
  (hch:∀ b∈ch,(b∈X.ex\/X.s₀.heap.get? b=none)/\b≠X.env.locals/\(∀ x c,X.env.cells.lookup x=some c->c≠b)/\∀ p∈X.pn++zZ,p.1≠b)
  (keep:∀ b o,b≠X.env.locals->b∉X.fs->b∉ch->s.heap.get? b=some o->H b=none->h'.get? b=some o)
  (slot:∀ b o,b≠X.env.locals->b∈X.fs->b∉ch->s.heap.get? b=some o->H b=none->∃ sl,h'.get? b=some { o with slots:=sl }) (free:∀ b o,b∉ch->s.heap.get? b=some o->H b=none->H' b=none)
  (there:∀ b o,b∉ch->s.heap.get? b=some o->∃ o',h'.get? b=some o')
  (tups:∀ b xs,H b=some (.tup xs)->H' b=some (.tup xs)) (frzs:∀ b o u,H b=some (.frz o u)->H' b=some (.frz o u)) (tbls:∀ b ps,H b=some (.tbl ps)->∃ more,H' b=some (.tbl (ps++more)))
  (ns:∀ m,s.heap.Ns X.env.locals m->h'.Ns X.env.locals m) (hok:HOk X.prog X.w H' h') (hg:AllBare g'):
  Inv X zZ σ H' { s with heap:=h',gens:=g',drawn:=d',toks:=t' }:=by
 have neL:∀ b o,X.s₀.heap.get? b=some o->b≠X.env.locals:=fun b o e=>ne_of_lt (lt_of_lt_of_le (qg e) I.ok.above)
 have neC:∀ b o,X.s₀.heap.get? b=some o->b∉X.ex->b∉ch:=fun b o e hx hb=>by
  rcases (hch b hb).1 with z | z
  ·exact hx z
  ·rw [z] at e; cases e
 have cellK:∀ x c,X.env.cells.lookup x=some c->∀ v,s.heap.IsCell c v->h'.IsCell c v:=fun x c e v ⟨o,ho,hd⟩=>by
  have nch:c∉ch:=fun z=>(hch c z).2.2.1 x c e rfl
  by_cases hc:c∈X.fs
  ·obtain ⟨sl,q⟩:=slot c o (I.cne x c e) hc nch ho (I.freeC x c e)
   exact ⟨_,q,hd⟩
  ·exact ⟨o,keep c o (I.cne x c e) hc nch ho (I.freeC x c e),hd⟩
 refine ⟨I.ok,I.os,hg,⟨fun b o e n hb hx=>?_,fun b o e n hb hx=>?_,fun b o e n hx=>?_,fun b o e hx=>?_,fun b xs e=>tups b xs (I.base.tups b xs e),fun b o xs e=>frzs b o xs (I.base.frzs b o xs e),fun b ps e=>?_⟩,?_,fun x c e=>?_,?_,fun x c e=>?_,fun p hp=>?_,hok,I.len⟩
 ·exact keep b o (neL b o e) hb (neC b o e hx) (I.base.keep b o e n hb hx) (I.base.free b o e n hx)
 ·obtain ⟨sl,e1⟩:=I.base.slot b o e n hb hx
  obtain ⟨sl',e2⟩:=slot b _ (neL b o e) hb (neC b o e hx) e1 (I.base.free b o e n hx)
  exact ⟨sl',e2⟩
 ·obtain ⟨o',e1⟩:=I.base.there b o e hx
  exact free b o' (neC b o e hx) e1 (I.base.free b o e n hx)
 ·obtain ⟨o',e1⟩:=I.base.there b o e hx
  exact there b o' (neC b o e hx) e1
 ·obtain ⟨m1,e1⟩:=I.base.tbls b ps e
  obtain ⟨m2,e2⟩:=tbls b _ e1
  exact ⟨m1++m2,by rw [e2,Array.append_assoc]⟩
 ·obtain ⟨m,hn,hl⟩:=I.loc
  refine ⟨m,ns m hn,fun i x v e1 e2 e3=>?_⟩
  obtain ⟨u,r,l⟩:=hl i x v e1 e2 e3
  refine ⟨u,r,?_⟩
  rcases l with l | ⟨k,c,e,z⟩
  ·exact .inl l
  ·exact .inr ⟨k,c,e,cellK x c e _ z⟩
 ·obtain ⟨v,z⟩:=I.cell x c e
  exact ⟨v,cellK x c e v z⟩
 ·obtain ⟨m,⟨o,_,_,ho,_⟩,_⟩:=I.loc
  exact free _ o (fun z=>(hch _ z).2.1 rfl) ho I.free
 ·obtain ⟨v,o,ho,hd⟩:=I.cell x c e
  exact free c o (fun z=>(hch c z).2.2.1 x c e rfl) ho (I.freeC x c e)
 ·obtain ⟨e,n,ne,nf,d⟩:=I.pin p hp
  have nch:p.1∉ch:=fun z=>(hch p.1 z).2.2.2 p hp rfl
  exact ⟨keep p.1 p.2 ne nf nch e n,free p.1 p.2 nch e n,ne,nf,d⟩
theorem Inv.un (I:Inv X zZ σ H s) (u:Un X.fs [] H H' s.heap h') (hok:HOk X.prog X.w H' h'):Inv X zZ σ H' { s with heap:=h',toks:=t' }:=by
 obtain ⟨m,⟨o,es,ep,ho,r⟩,_⟩:=id I.loc
 obtain ⟨sl,hL⟩:=u.any ho I.free (by simp)
 exact I.step (g':=s.gens) (d':=s.drawn) (ch:=[]) (fun _ z=>nomatch z) (fun b o _ hb _ e n=>u.keep b o e n hb (by simp)) (fun b o _ hb _ e n=>u.slot b o e n hb (by simp)) (fun b o _ e n=>u.free b o e n (by simp)) (fun b o _ e=>u.there b o e (by simp)) u.tups u.frzs u.tbls (fun m' hm=>by
  obtain ⟨o',es',ep',ho',r'⟩:=hm
  rw [ho] at ho'; cases ho'
  exact ⟨_,es',ep',hL,r'⟩) hok I.bare
theorem Inv.call (I:Inv X zZ σ H s) (u:Un (frs X.stack) ch H H' s.heap h') (hok:HOk X.prog X.w H' h') (hg:AllBare g')
  (hch:∀ b∈ch,(b∈X.ex\/X.s₀.heap.get? b=none)/\b≠X.env.locals/\(∀ x c,X.env.cells.lookup x=some c->c≠b)/\∀ p∈X.pn++zZ,p.1≠b):
  Inv X zZ σ H' { s with heap:=h',gens:=g',drawn:=d',toks:=t' }:=by
 obtain ⟨m,⟨o,es,ep,ho,r⟩,_⟩:=id I.loc
 obtain ⟨sl,hL⟩:=u.any ho I.free fun z=>(hch _ z).2.1 rfl
 exact I.step (ch:=ch) hch (fun b o hL hb hc e n=>u.keep b o e n (fun z=>(qD.mp (I.stkSub b z)).elim hL hb) hc) (fun b o _ _ hc e n=>u.any e n hc) (fun b o hc e n=>u.free b o e n hc) (fun b o hc e=>u.there b o e hc) u.tups u.frzs u.tbls (fun m' hm=>by
  obtain ⟨o',es',ep',ho',r'⟩:=hm
  rw [ho] at ho'; cases ho'
  exact ⟨_,es',ep',hL,r'⟩) hok hg
theorem Inv.turned (I:Inv X zZ σ H s) (k:∀ b o,b≠it->s.heap.get? b=some o->h'.get? b=some o) (hn:H it=none) (hL:it≠X.env.locals)
  (h1:it∈X.ex\/X.s₀.heap.get? it=none) (h2:∀ x c,X.env.cells.lookup x=some c->c≠it) (h3:∀ p∈X.pn++zZ,p.1≠it):Inv X zZ σ H { s with heap:=h',toks:=t' }:=by
 have nit:∀ b u,H b=some u->b≠it:=fun b u e z=>by rw [z,hn] at e; cases e
 refine I.step (g':=s.gens) (d':=s.drawn) (ch:=[it]) (fun b hb=>?_) (fun b o _ _ hc e _=>k b o (fun z=>hc (by simp [z])) e) (fun b o _ _ hc e _=>⟨o.slots,k b o (fun z=>hc (by simp [z])) e⟩) (fun _ _ _ _ n=>n)
  (fun b o hc e=>⟨o,k b o (fun z=>hc (by simp [z])) e⟩) (fun _ _ e=>e) (fun _ _ _ e=>e) (fun b ps e=>⟨#[],by rw [e]; simp⟩) (fun m hm=>?_) (fun b u e=>?_) I.bare
 ·have e:b=it:=by simpa using hb
  subst e
  exact ⟨h1,hL,h2,h3⟩
 ·obtain ⟨o,es,ep,ho,r⟩:=hm
  exact ⟨o,es,ep,k _ o (Ne.symm hL) ho,r⟩
 ·refine (I.hok b u e).stay (fun c v hc q=>k c v ?_ q) (fun _ q=>q) fun _ _ q=>q
  rcases hc with z | z
  ·rw [z]; exact nit b u e
  ·exact nit c _ z
theorem Inv.tok (I:Inv X zZ σ H s) (t:Nat):Inv X zZ σ H { s with toks:=t }:=I.un (h':=s.heap) (t':=t) Un.refl I.hok
theorem Inv.kept (I:Inv X zZ σ H s) (k:∀ b u,s.heap.get? b=some u->h'.get? b=some u):Inv X zZ σ H { s with heap:=h',toks:=t' }:=I.un (Un.kept k) (I.hok.kept k)
theorem Inv.laid (I:Inv X zZ σ H s) (k:∀ b u,s.heap.get? b=some u->h'.get? b=some u) (hp:s.heap.objs.size<=a) (new:zY X.prog X.w (upd H a o) h' a o):
  Inv X zZ σ (upd H a o) { s with heap:=h',toks:=t' }:=I.un (Un.laid k hp (I.hok.fresh hp)) (I.hok.laid k hp new)
theorem Inv.write (I:Inv X zZ σ H s) (mu:Mut (H x)) (he:e=x\/H e=some (.own x)) (k:∀ b u,b≠e->s.heap.get? b=some u->h'.get? b=some u) (heo:∃ u,h'.get? e=some u)
  (new:zY X.prog X.w (upd H x o) h' x o):Inv X zZ σ (upd H x o) { s with heap:=h',toks:=t' }:=I.un (Un.write mu he k heo) (I.hok.write mu he k heo new)
theorem Inv.pins_of (I:Inv X zZ σ H s) (h:∀ p∈pins',s.heap.get? p.1=some p.2/\H p.1=none/\p.1≠X.env.locals/\p.1∉X.fs/\∀ v,p.2.data≠.cell v):Inv X pins' σ H s:=
 ⟨I.ok,I.os,I.bare,I.base,I.loc,I.cell,I.free,I.freeC,fun p hp=>(qA.mp hp).elim (fun z=>I.pin p (qm _ z)) (h p),I.hok,I.len⟩
theorem zcr {N:List Str} (hN:N.Nodup) {i j:Nat} (a:N[i]?=some x) (b:N[j]?=some x):i=j:=by
 obtain ⟨h1,e1⟩:=qi.mp a
 obtain ⟨h2,e2⟩:=qi.mp b
 exact (List.getElem_inj hN).mp (e1.trans e2.symm)
theorem Inv.call' (I:Inv X zZ σ H s) (ho:s'.os=s.os) (u:Un (frs X.stack) ch H H' s.heap s'.heap) (hok:HOk X.prog X.w H' s'.heap) (hg:AllBare s'.gens)
  (hch:∀ b∈ch,(b∈X.ex\/X.s₀.heap.get? b=none)/\b≠X.env.locals/\(∀ x c,X.env.cells.lookup x=some c->c≠b)/\∀ p∈X.pn++zZ,p.1≠b):Inv X zZ σ H' s':=by
 obtain ⟨h',g',d',t',o'⟩:=s'
 have e:o'=s.os:=ho
 subst e
 exact I.call (g':=g') (t':=t') (d':=d') u hok hg hch
end
abbrev XK:=Value->Option Addr->Hp->Prop
abbrev St:=List (Option V)
abbrev VK:=V->Hp->Prop
abbrev TE:=St->Hp->VK->Prop
abbrev TT:=St->Hp->(Bool->Hp->Prop)->Prop
abbrev TA:=St->Hp->(List V->Hp->Prop)->Prop
structure Ends where
 nx:St->Hp->Prop
 rt:VK
 bk:St->Hp->Prop:=fun _ _=>False
 ct:St->Hp->Prop:=fun _ _=>False
abbrev TS:=Ends->St->Hp->Prop
inductive EP (X:Cx) (zZ:List (Addr×Obj)) (σ:St) (Q:VK) (u:Value) (s':Shared):Prop
 | mk (v:V) (H':Hp):Inv X zZ σ H' s'->zO v u->Q v H'->EP X zZ σ Q u s'
inductive TP (X:Cx) (zZ:List (Addr×Obj)) (σ:St) (Q:Bool->Hp->Prop) (b:Bool) (s':Shared):Prop
 | mk (H':Hp):Inv X zZ σ H' s'->Q b H'->TP X zZ σ Q b s'
inductive AP (X:Cx) (zZ:List (Addr×Obj)) (σ:St) (Q:List V->Hp->Prop) (us:List Value) (s':Shared):Prop
 | mk (vs:List V) (H':Hp):Inv X zZ σ H' s'->zW vs us->Q vs H'->AP X zZ σ Q us s'
def SP (X:Cx) (zZ:List (Addr×Obj)) (D:Ends) (f:Flow) (s':Shared):Prop:=
 match f with
 | .next=>∃ σ' H',Inv X zZ σ' H' s'/\D.nx σ' H'
 | .brk=>∃ σ' H',Inv X zZ σ' H' s'/\D.bk σ' H'
 | .cont=>∃ σ' H',Inv X zZ σ' H' s'/\D.ct σ' H'
 | .ret u=>∃ v σ' H',Inv X zZ σ' H' s'/\zO v u/\D.rt v H'
def PE (X:Cx) (e:Expr) (t:TE):Prop:=
 ∀ (zZ:List (Addr×Obj)) (s:Shared) (σ:St) (H:Hp) (Q:VK),Inv X zZ σ H s->t σ H Q->wpAny (model X.prog X.w) X.A (eval e X.env) (EP X zZ σ Q) X.xe s
def PT (X:Cx) (e:Expr) (t:TT):Prop:=
 ∀ (zZ:List (Addr×Obj)) (s:Shared) (σ:St) (H:Hp) (Q:Bool->Hp->Prop),Inv X zZ σ H s->t σ H Q->wpAny (model X.prog X.w) X.A (isTrue e X.env (eval e X.env)) (TP X zZ σ Q) X.xe s
def PW (X:Cx) (e:Expr) (t:TT):Prop:=
 ∀ (whole:Sem Value) (zZ:List (Addr×Obj)) (s:Shared) (σ:St) (H:Hp) (Q:Bool->Hp->Prop),Inv X zZ σ H s->t σ H Q->wpAny (model X.prog X.w) X.A (isTrue e X.env whole) (TP X zZ σ Q) X.xe s
theorem PW.pt (h:PW X e t):PT X e t:=h _
def PA (X:Cx) (es:List Expr) (t:TA):Prop:=
 ∀ (pos:Pos) (zZ:List (Addr×Obj)) (s:Shared) (σ:St) (H:Hp) (Q:List V->Hp->Prop),Inv X zZ σ H s->t σ H Q->wpAny (model X.prog X.w) X.A (spliced (backTo pos (starEach es X.env))) (AP X zZ σ Q) X.xe s
def PS (X:Cx) (st:Stmt) (t:TS):Prop:=
 ∀ (zZ:List (Addr×Obj)) (s:Shared) (σ:St) (H:Hp) (D:Ends),Inv X zZ σ H s->t D σ H->wpAny (model X.prog X.w) X.A (exec st X.env) (SP X zZ D) X.xe s
def PSs (X:Cx) (st:List Stmt) (t:TS):Prop:=
 ∀ (zZ:List (Addr×Obj)) (s:Shared) (σ:St) (H:Hp) (D:Ends),Inv X zZ σ H s->t D σ H->wpAny (model X.prog X.w) X.A (execs st X.env) (SP X zZ D) X.xe s
theorem thn (h:wpAny M A t Q E s) (hQ:∀ a s,Q a s->Q' a s):wpAny M A t Q' E s:=zx h hQ fun _ _ x=>x
section
variable {X:Cx}
def tVar (i:Nat):TE:=fun σ H Q=>∃ v,σ[i]?=some (some v)/\Q v H
def tC (v:V):TE:=fun _ H Q=>Q v H
theorem zn9 (hN:X.N[i]?=some x) (hv:Vis X.env.scope x) (hd:(x == ("__debug__":Str))=false:=by decide) (hcd:(x == ("__classdict__":Str))=false:=by decide):PE X (.Name x pos) (tVar i):=by
 intro zZ s σ H Q I h
 obtain ⟨v,e,h⟩:=h
 obtain ⟨m,hn,hl⟩:=I.loc
 obtain ⟨u,r,l⟩:=hl i x v hN e hv
 have fin:EP X zZ σ Q u s:=⟨v,H,I,r,h⟩
 rcases l with ⟨hk,hm⟩ | ⟨hk,c,hc,hcell⟩
 ·exact wpAny_Name (wpAny_loadName_local I.ok.kind hk hn hm fin) hd
 ·rcases hk with hk | hk
  ·exact wpAny_Name (wpAny_loadName_cell I.ok.kind hk hc hcell fin) hd
  ·exact wpAny_Name (wpAny_loadName_free I.ok.kind hk hc hcell fin hcd) hd
theorem zoZ:PE X (.Constant (.int i) j pos) (tC (.int i)):=fun _ _ _ H _ I h=>wpAny_Constant_int ⟨.int i,H,I.tok _,⟨_,rfl⟩,h⟩
theorem zqH:PE X (.Constant (.bool b) j pos) (tC (.bl b)):=fun _ _ _ H _ I h=>Constant_bool ⟨.bl b,H,I,rfl,h⟩
theorem zoi:PE X (.Constant .none j pos) (tC .non):=fun _ _ _ H _ I h=>Constant_none ⟨.non,H,I,rfl,h⟩
theorem znl:PE X (.Constant (.str x) j pos) (tC (.str x)):=fun _ _ _ H _ I h=>Calls.Constant_str ⟨.str x,H,I.tok _,⟨_,rfl⟩,h⟩
def Gl (X:Cx) (x:Str):Prop:=X.env.kindOf x=some .globalImplicit
theorem zlZ (I:Inv X zZ σ H s) (hg:Gl X x) (hm:X.mg x=some u) (h:Q u s)
  (hd:(x == ("__debug__":Str))=false:=by decide):wpAny (model X.prog X.w) X.A (eval (.Name x pos) X.env) Q E s:=
 Calls.Name_function_global I.ok.kind hg (Calls.loadGlobal_global (by rw [I.ok.glob]; exact I.mod.glob.keeps I.bk) hm h) hd
theorem zbf (I:Inv X zZ σ H s) (hg:Gl X x) (hm:X.mg x=none) (hv:bootBuiltins x=some u) (h:Q u s)
  (hn:x≠"__name__":=by decide) (hd:(x == ("__debug__":Str))=false:=by decide):wpAny (model X.prog X.w) X.A (eval (.Name x pos) X.env) Q E s:=by
 obtain ⟨mb,h1,h2⟩:=I.mod.blt
 exact Calls.Name_function_global I.ok.kind hg (Calls.loadGlobal_builtin (by rw [I.ok.glob]; exact I.mod.glob.keeps I.bk) hm (by rw [I.ok.blt]; exact h1.keeps I.bk) ((h2 x hn).trans hv) h) hd
variable {a b:Expr} {ta tb:TE} {pos:Pos}
theorem nobehind (b:Expr) (h:op≠.In) (h2:op≠.NotIn):behindInMarks op b=false:=by
 have e1:(op == CmpOp.In)=false:=by cases op <;> first | rfl | exact absurd rfl h
 have e2:(op == CmpOp.NotIn)=false:=by cases op <;> first | rfl | exact absurd rfl h2
 cases b <;> first | rfl | (show (_ && (op == .In || op == .NotIn) && _)=false; rw [e1,e2,Bool.or_false,Bool.and_false]; rfl)
variable {tA tB':TT} {rest:List Expr}
def tAnd (t u:TT):TT:=fun σ H Q=>t σ H fun c H1=>if c=true then u σ H1 Q else Q false H1
def tOr (t u:TT):TT:=fun σ H Q=>t σ H fun c H1=>if c=true then Q true H1 else u σ H1 Q
def tNot (t:TT):TT:=fun σ H Q=>t σ H fun c H1=>Q (!c) H1
theorem zl8 (ha:PT X a tA):PW X (.BoolOp .And [a] pos) tA:=by
 intro wh zZ s σ H Q I h
 refine isTrue_and (thn (ha zZ s σ H Q I h) fun c s1 e=>?_)
 cases c with
 | true=>exact isTrue_and_nil e
 | false=>exact e
theorem zpb (ha:PT X a tA):PW X (.BoolOp .Or [a] pos) tA:=by
 intro wh zZ s σ H Q I h
 refine isTrue_or (thn (ha zZ s σ H Q I h) fun c s1 e=>?_)
 cases c with
 | false=>exact isTrue_or_nil e
 | true=>exact e
theorem zpx (ha:PT X a tA) (hb:PW X (.BoolOp .And (b::rest) pos) tB'):PW X (.BoolOp .And (a::b::rest) pos) (tAnd tA tB'):=by
 intro wh zZ s σ H Q I h
 refine isTrue_and (thn (ha zZ s σ H _ I h) fun c s1 zq=>?_)
 obtain ⟨H1,I1,q1⟩:=zq
 cases c with
 | true=>exact hb wh zZ s1 σ H1 Q I1 q1
 | false=>exact ⟨H1,I1,q1⟩
theorem zrq (ha:PT X a tA) (hb:PW X (.BoolOp .Or (b::rest) pos) tB'):PW X (.BoolOp .Or (a::b::rest) pos) (tOr tA tB'):=by
 intro wh zZ s σ H Q I h
 refine isTrue_or (thn (ha zZ s σ H _ I h) fun c s1 zq=>?_)
 obtain ⟨H1,I1,q1⟩:=zq
 cases c with
 | true=>exact ⟨H1,I1,q1⟩
 | false=>exact hb wh zZ s1 σ H1 Q I1 q1
theorem znJ (ha:PT X a tA):PT X (.UnaryOp .Not a pos) (tNot tA):=by
 intro zZ s σ H Q I h
 exact isTrue_not (thn (ha zZ s σ H (fun c H1=>Q (!c) H1) I h) fun c s1 z=>by obtain ⟨H1,I1,q1⟩:=z; exact ⟨H1,I1,q1⟩)
def tAndV (ta tb:TE):TE:=fun σ H Q=>ta σ H fun x H1=>∃ c,x=.bl c/\if c=true then tb σ H1 Q else Q (.bl false) H1
theorem zmG (h:PE X a t):PE X (.BoolOp op [a] pos) t:=by first | rfl | assumption | (simp_all; done)
theorem zo0 (ha:PE X a ta) (hb:PE X (.BoolOp .And (b::rest) pos) tb):PE X (.BoolOp .And (a::b::rest) pos) (tAndV ta tb):=by
 intro zZ s σ H Q I h
 refine BoolOp_and (thn (ha zZ s σ H _ I h) fun v s1 zq=>?_)
 obtain ⟨x,H1,I1,r1,q1⟩:=zq
 obtain ⟨c,rfl,q1⟩:=q1
 cases r1
 refine wpAny_truthy_bool ?_
 cases c with
 | true=>exact hb zZ s1 σ H1 Q I1 q1
 | false=>exact ⟨.bl false,H1,I1,rfl,q1⟩
def tIf (t:TT) (ta tb:TE):TE:=fun σ H Q=>t σ H fun c H1=>if c=true then ta σ H1 Q else tb σ H1 Q
theorem zjQ (hc:PT X c tA) (ha:PE X a ta) (hb:PE X b tb):PE X (.IfExp c a b pos) (tIf tA ta tb):=by
 intro zZ s σ H Q I h
 refine wpAny_IfExp (thn (hc zZ s σ H _ I h) fun d s1 zq=>?_)
 obtain ⟨H1,I1,q1⟩:=zq
 cases d with
 | true=>exact ha zZ s1 σ H1 Q I1 q1
 | false=>exact hb zZ s1 σ H1 Q I1 q1
end
def SqL (K:W.Frag) (H:Hp) (a:Addr) (xs:List V):Prop:=
 Rd H a (.lst xs)\/
  ∃ (o:Obj) (z6:Array Value) (n:Nat),K.lookup a=some o/\o.cls=.type "list"/\o.dict=none/\o.data=.seq z6 n/\z6.size<=sizeLine/\zW xs z6.toList
def SqT (K:W.Frag) (H:Hp) (a:Addr) (xs:List V):Prop:=
 Rd H a (.tup xs)\/
  ∃ (o:Obj) (z6:Array Value) (n:Nat),K.lookup a=some o/\o.cls=.type "tuple"/\o.data=.seq z6 n/\z6.size<=sizeLine/\zW xs z6.toList
def absV:Value->Option V
 | .none=>some .non
 | .bool b=>some (.bl b)
 | .int i _=>some (.int i)
 | .str x _=>some (.str x)
 | .bytes b _=>some (.byt b)
 | .float b _=>some (.flt b)
 | .ref a=>some (.ref a)
 | .type n=>some (.ty n)
 | _=>none
theorem zO.abs (r:zO x u):absV u=some x:=by
 cases x with
 | non=>cases r; rfl
 | bl _=>cases r; rfl
 | int _=>obtain ⟨t,rfl⟩:=r; rfl
 | str _=>obtain ⟨t,rfl⟩:=r; rfl
 | byt _=>obtain ⟨t,rfl⟩:=r; rfl
 | flt _=>obtain ⟨t,rfl⟩:=r; rfl
 | ref _=>cases r; rfl
 | ty _=>cases r; rfl
theorem zO.inj (r:zO x u) (q:zO y u):x=y:=qh (r.abs.symm.trans q.abs)
theorem zW.inj:∀ {xs ys:List V} {us:List Value},zW xs us->zW ys us->xs=ys:=by
 intro xs ys us r q
 induction r generalizing ys with
 | nil=>cases q; rfl
 | cons r _ ih=>cases q with
   | cons r' t'=>rw [r.inj r',ih t']
inductive ItsL (xs:List V) (h:Heap) (a:Addr):Prop
 | mk (z6:List Value):zW xs z6->PlainL h a z6.toArray->xs.length<=sizeLine->ItsL xs h a
inductive ItsT (xs:List V) (h:Heap) (a:Addr):Prop
 | mk (z6:List Value):zW xs z6->IsTup h a z6.toArray->xs.length<=sizeLine->ItsT xs h a
section
variable {X:Cx} {zZ:List (Addr×Obj)} {σ:St} {H:Hp} {s:Shared} {a:Addr} {xs ys:List V}
theorem SqL.of {K:W.Frag} (h:H a=some (.lst xs)):SqL K H a xs:=.inl (.inl h)
theorem SqT.of {K:W.Frag} (h:H a=some (.tup xs)):SqT K H a xs:=.inl (.inl h)
theorem Inv.list (I:Inv X zZ σ H s) (h:SqL X.K H a xs):ItsL xs s.heap a:=by
 rcases h with h | ⟨o,z6,n,hk,hc,hd,hs,hz,r⟩
 ·obtain ⟨z,z6,n,r,e⟩:=h.ok I.hok
  exact ⟨z6,r,⟨_,n,e,rfl,rfl,rfl⟩,z⟩
 ·refine ⟨z6.toList,r,⟨o,n,I.kIn a o hk,hc,hd,by simpa using hs⟩,?_⟩
  have e:=r.length
  simp only [qY] at e
  lia
theorem Inv.tuple (I:Inv X zZ σ H s) (h:SqT X.K H a xs):ItsT xs s.heap a:=by
 rcases h with h | ⟨o,z6,n,hk,hc,hs,hz,r⟩
 ·obtain ⟨z,z6,r,p⟩:=h.ok I.hok
  exact ⟨z6,r,p,z.1⟩
 ·refine ⟨z6.toList,r,⟨o,I.kIn a o hk,hc,n,by simpa using hs⟩,?_⟩
  have e:=r.length
  simp only [qY] at e
  lia
theorem Inv.list_inj (I:Inv X zZ σ H s) (h:SqL X.K H a xs) (h':SqL X.K H a ys):xs=ys:=by
 obtain ⟨z6,r,⟨o,n,e,_,_,d⟩,_⟩:=I.list h
 obtain ⟨its',r',⟨o',n',e',_,_,d'⟩,_⟩:=I.list h'
 rw [e] at e'; cases e'
 rw [d] at d'
 injection d' with d1 _
 have:z6=its':=by simpa using congrArg Array.toList d1
 subst this
 exact r.inj r'
theorem Inv.tuple_inj (I:Inv X zZ σ H s) (h:SqT X.K H a xs) (h':SqT X.K H a ys):xs=ys:=by
 obtain ⟨z6,r,⟨o,e,_,n,d⟩,_⟩:=I.tuple h
 obtain ⟨its',r',⟨o',e',_,n',d'⟩,_⟩:=I.tuple h'
 rw [e] at e'; cases e'
 rw [d] at d'
 injection d' with d1 _
 have:z6=its':=by simpa using congrArg Array.toList d1
 subst this
 exact r.inj r'
end
section
variable {X:Cx} {st:Stmt} {rest:List Stmt} {t u:TS} {e:Expr} {te:TE} {pos:Pos}
def tNext:TS:=fun D σ H=>D.nx σ H
def tSeq (t u:TS):TS:=fun D σ H=>t { D with nx:=u D } σ H
theorem zlN:PSs X [] tNext:=fun _ _ σ H _ I h=>wpAny_execs_nil ⟨σ,H,I,h⟩
theorem zkr (h1:PS X st t) (h2:PSs X rest u):PSs X (st::rest) (tSeq t u):=by
 intro zZ s σ H D I h
 refine wpAny_execs_cons (thn (h1 zZ s σ H { D with nx:=u D } I h) fun f s1 q=>?_)
 cases f with
 | next=>
   obtain ⟨σ',H',I',q⟩:=q
   exact h2 zZ s1 σ' H' D I' q
 | ret v=>exact q
 | brk=>exact q
 | cont=>exact q
theorem zlz (h1:PS X st t):PSs X [st] t:=by
 intro zZ s σ H D I h
 refine wpAny_execs_cons (thn (h1 zZ s σ H D I h) fun f s1 q=>?_)
 cases f with
 | next=>exact wpAny_execs_nil q
 | ret v=>exact q
 | brk=>exact q
 | cont=>exact q
theorem Inv.quiet (I:Inv X zZ σ H s):interactive X.env=false:=by simp [interactive,I.ok.kind]
def tDrop (te:TE):TS:=fun D σ H=>te σ H fun _ H1=>D.nx σ H1
theorem zlE (he:PE X e te) (hs:swapsWith e none pos.line X.env=pure false:=by rfl):PS X (.Expr e pos) (tDrop te):=by
 intro zZ s σ H D I h
 exact wpAny_Expr_any (thn (he zZ s σ H _ I h) fun v s1 ⟨x,H1,I1,r1,q1⟩=>⟨σ,H1,I1,q1⟩) I.quiet hs
def tRet (te:TE):TS:=fun D σ H=>te σ H D.rt
theorem zn1 (he:PE X e te):PS X (.Return (some e) pos) (tRet te):=by
 intro zZ s σ H D I h
 exact wpAny_Return_some (thn (he zZ s σ H _ I h) fun v s1 ⟨x,H1,I1,r1,q1⟩=>⟨x,σ,H1,I1,r1,q1⟩)
def tIfS (c:TT) (t u:TS):TS:=fun D σ H=>c σ H fun b H1=>if b=true then t D σ H1 else u D σ H1
theorem zrA (hc:PT X c tc) (ha:PSs X a t) (hb:PSs X b u):PS X (.If c a b pos) (tIfS tc t u):=by
 intro zZ s σ H D I h
 refine wpAny_If (thn (hc zZ s σ H _ I h) fun d s1 zq=>?_)
 obtain ⟨H1,I1,q1⟩:=zq
 cases d with
 | true=>exact ha zZ s1 σ H1 D I1 q1
 | false=>exact hb zZ s1 σ H1 D I1 q1
end
abbrev TG:=V->St->Hp->(St->Hp->Prop)->Prop
abbrev TGs:=List V->St->Hp->(St->Hp->Prop)->Prop
def PG (X:Cx) (target:Expr) (t:TG):Prop:=
 ∀ (zZ:List (Addr×Obj)) (s:Shared) (σ:St) (H:Hp) (v:V) (u:Value) (Q:St->Hp->Prop),Inv X zZ σ H s->zO v u->t v σ H Q->
   wpAny (model X.prog X.w) X.A (assign target X.env u) (fun _ s'=>∃ σ' H',Inv X zZ σ' H' s'/\Q σ' H') X.xe s
def PGs (X:Cx) (ts:List Expr) (t:TGs):Prop:=
 ∀ (zZ:List (Addr×Obj)) (s:Shared) (σ:St) (H:Hp) (vs:List V) (us:List Value) (Q:St->Hp->Prop),Inv X zZ σ H s->zW vs us->t vs σ H Q->
   wpAny (model X.prog X.w) X.A (assignInOrder ((assignEach ts X.env).map (·.2)) us) (fun _ s'=>∃ σ' H',Inv X zZ σ' H' s'/\Q σ' H') X.xe s
abbrev TSet:=V->V->V->Hp->(Hp->Prop)->Prop
def PSet (X:Cx) (t:TSet):Prop:=
 ∀ (zZ:List (Addr×Obj)) (s:Shared) (σ:St) (H:Hp) (o i v:V) (ov iv u:Value) (Q:Hp->Prop),Inv X zZ σ H s->zO o ov->zO i iv->zO v u->t o i v H Q->
   wpAny (model X.prog X.w) X.A (setItem ov iv u) (fun _ s'=>∃ H',Inv X zZ σ H' s'/\Q H') X.xe s
section
variable {X:Cx} {pos:Pos}
def gNil:TGs:=fun vs σ H Q=>vs=[]/\Q σ H
def gCons (t:TG) (u:TGs):TGs:=fun vs σ H Q=>∃ v r,vs=v::r/\t v σ H fun σ' H'=>u r σ' H' Q
theorem zk8:PGs X [] gNil:=by
 intro zZ s σ H vs us Q I r h
 obtain ⟨e,h⟩:=h
 subst e
 cases r
 exact assignInOrder_nil ⟨σ,H,I,h⟩
theorem zj8 (h1:PG X e t) (h2:PGs X es u)
  (hs:(assignEach (e::es) X.env).map (·.2)=assign e X.env::(assignEach es X.env).map (·.2):=by rfl):PGs X (e::es) (gCons t u):=by
 intro zZ s σ H vs us Q I r h
 obtain ⟨v,vr,e1,h⟩:=h
 subst e1
 cases r with
 | cons r rr=>
   rw [hs]
   refine assignInOrder_cons (thn (h1 zZ s σ H _ _ _ I r h) fun _ s1 zq=>?_)
   obtain ⟨σ1,H1,I1,q1⟩:=zq
   exact h2 zZ s1 σ1 H1 _ _ Q I1 rr q1
def gTup (K:W.Frag) (n:Nat) (t:TGs):TG:=fun v σ H Q=>∃ a xs,v=.ref a/\SqT K H a xs/\xs.length=n/\t xs σ H Q
theorem zoj (hc:X.calm=true) (h:PGs X es t)
  (hn:(assignEach es X.env).length=n:=by rfl) (hst:(assignEach es X.env).findIdx? (·.1)=none:=by rfl):PG X (.Tuple es k pos) (gTup X.K n t):=by
 intro zZ s σ H v u Q I r hw
 obtain ⟨a,xs,e1,hq,hl,hw⟩:=hw
 subst e1
 cases r
 obtain ⟨z6,rv,ht,hz⟩:=I.tuple hq
 refine assign_Tuple_tuple (I.ok.hd hc) ht (by simp [hn,<- hl,rv.length]) hst fun h' hx=>?_
 have I1:Inv X zZ σ H { s with heap:=h' }:=I.kept (t':=s.toks) fun b o e=>hx b o (ne_of_lt (qg e)) e
 exact h zZ _ σ H xs _ Q I1 (by simpa using rv) hw
def gSub (to ti:TE) (t:TSet):TG:=fun v σ H Q=>to σ H fun o H1=>ti σ H1 fun i H2=>t o i v H2 fun H3=>Q σ H3
theorem zpi (ho:PE X o to) (hi:PE X i ti) (hs:PSet X t)
  (ha:∀ v,assign (.Subscript o i pos) X.env v=(do
   let ov <- holding [v] (eval o X.env)
   let iv <- holding [v,ov] (eval i X.env)
   standAt pos
   holding [v,ov,iv] (setItem ov iv v)
   release [v,ov,iv] []):=by intro _; rfl):PG X (.Subscript o i pos) (gSub to ti t):=by
 intro zZ s σ H v u Q I r h
 rw [ha]
 refine qa (zv (thn (ho zZ s σ H _ I h) fun ov s1 zq=>?_))
 obtain ⟨x,H1,I1,r1,q1⟩:=zq
 refine qa (zv (thn (hi zZ s1 σ H1 _ I1 q1) fun iv s2 zq=>?_))
 obtain ⟨y,H2,I2,r2,q2⟩:=zq
 refine qa (wpAny_standAt (qa (zv (thn (hs zZ s2 σ H2 x y v ov iv u _ I2 r1 r2 r q2) fun _ s3 zq=>?_))))
 obtain ⟨H3,I3,q3⟩:=zq
 exact wpAny_release ⟨σ,H3,I3,q3⟩
def tAsg (te:TE) (g:TG):TS:=fun D σ H=>te σ H fun x H1=>g x σ H1 D.nx
theorem zk5 (he:PE X e te) (hg:PG X tg g) (hs:swapsWithSole [tg] e pos.line X.env=pure false:=by rfl) (hw:swappedStores [tg] e X.env=pure none:=by rfl)
  (h1:(assignEach [tg] X.env).map (·.2)=[assign tg X.env]:=by rfl):PS X (.Assign [tg] e pos) (tAsg te g):=by
 intro zZ s σ H D I h
 refine wpAny_Assign_stores (thn (he zZ s σ H _ I h) fun v s1 zq=>?_) hs hw
 obtain ⟨x,H1,I1,r1,q1⟩:=zq
 rw [h1]
 exact thn (hg zZ s1 σ H1 x v _ I1 r1 q1) fun _ s2 q=>q
def tWhile (c:TT) (tb:TS):TS:=fun D σ H=>∃ W:Nat->St->Hp->Prop,(∃ m,W m σ H)/\∀ m σ H,W m σ H->
 c σ H fun b H1=>if b=true then ∃ N:St->Hp->Prop,(∀ σ' H',N σ' H'->∃ m',m' < m/\W m' σ' H')/\tb { D with nx:=N,ct:=N,bk:=D.nx } σ H1 else D.nx σ H1
theorem zjt (hp:PassesOwn (model X.prog X.w) X.A X.env X.xe) (hc:PT X c tc) (hb:PSs X body tb):PS X (.While c body [] pos) (tWhile tc tb):=by
 intro zZ s σ H D I h
 obtain ⟨W,⟨m0,w0⟩,turn⟩:=h
 refine wpAny_While (codeAny_whileLoop (fun n s'=>∃ σ' H',Inv X zZ σ' H' s'/\W n σ' H') ?_ m0 ⟨σ,H,I,w0⟩)
 rintro n s1 ⟨σ1,H1,I1,w1⟩
 refine wpAny_passesOwn hp (thn (hc zZ s1 σ1 H1 _ I1 (turn n σ1 H1 w1)) fun b s2 zq=>?_)
 obtain ⟨H2,I2,q2⟩:=zq
 cases b with
 | true=>
   obtain ⟨N,hN,q2⟩:=q2
   rw [zc rfl]
   refine wpAny_passesOwn hp (thn (hb zZ s2 σ1 H2 _ I2 q2) fun f s3 q3=>?_)
   cases f with
   | next=>
     obtain ⟨σ3,H3,I3,n3⟩:=q3
     obtain ⟨m',hm,w3⟩:=hN σ3 H3 n3
     exact ⟨m',hm,σ3,H3,I3,w3⟩
   | cont=>
     obtain ⟨σ3,H3,I3,n3⟩:=q3
     obtain ⟨m',hm,w3⟩:=hN σ3 H3 n3
     exact ⟨m',hm,σ3,H3,I3,w3⟩
   | brk=>exact q3
   | ret v=>exact q3
 | false=>
   rw [zi q5]
   exact wpAny_execs_nil ⟨σ1,H2,I2,q2⟩
end
structure It where
 go:Nat->Hp->Prop
 yld:Nat->Hp->V->Hp->Prop
 stop:Nat->Hp->Prop
def FpOk (X:Cx) (zZ:List (Addr×Obj)) (H:Hp) (b:Addr):Prop:=
 H b=none/\b≠X.env.locals/\b∉X.fs/\(b∈X.ex\/X.s₀.heap.get? b=none)/\(∀ x c,X.env.cells.lookup x=some c->c≠b)/\∀ p∈X.pn++zZ,p.1≠b
theorem Inv.fpOk (I:Inv X zZ σ H s) (hb:s.heap.objs.size<=b) (hn:H' b=none):FpOk X zZ H' b:=by
 refine ⟨hn,ne_of_gt (lt_of_lt_of_le I.lt hb),I.nofs hb,.inr (Heap.get?_none_of_le (le_trans I.sz hb)),fun x c e z=>?_,fun p hp z=>?_⟩
 ·obtain ⟨v,q⟩:=I.cell x c e
  exact absurd (lt_of_lt_of_le q.lt (by rw [z]; exact hb)) (lt_irrefl _)
 ·exact absurd (lt_of_lt_of_le (qg (I.pin p hp).1) (by rw [z]; exact hb)) (lt_irrefl _)
structure Turn (P:Program) (w:World) (K:W.Frag) (tg:Expr) (J:It) (fp:List Addr) (it:Addr) (tn:Nat->Heap->Prop):Prop where
 mem:it∈fp
 obj:∀ i h,tn i h->∀ b∈fp,∃ o,h.get? b=some o/\∀ v,o.data≠.cell v
 keep:∀ i h h',tn i h->(∀ b∈fp,∀ o,h.get? b=some o->h'.get? b=some o)->tn i h'
 item:∀ (X:Cx),X.prog=P->X.w=w->X.K=K->X.calm=true->∀ (i:Nat) (zZ:List (Addr×Obj)) (s:Shared) (σ:St) (H:Hp) (E:zz),Inv X zZ σ H s->(∀ b∈fp,FpOk X zZ H b)->tn i s.heap->J.go i H->
  wpAny (model P w) X.A (pyNext (.ref it)) (fun r s1=>∃ u,r=some u/\
   wpAny (model P w) X.A (letOwnedTupleGo tg (.ref it) u) (fun _ s2=>∃ x H',Inv X zZ σ H' s2/\zO x u/\J.yld i H x H'/\tn (i + 1) s2.heap/\∀ b∈fp,H' b=none) E s1) E s
 done:∀ (X:Cx),X.prog=P->X.w=w->X.K=K->X.calm=true->∀ (i:Nat) (zZ:List (Addr×Obj)) (s:Shared) (σ:St) (H:Hp) (E:zz),Inv X zZ σ H s->(∀ b∈fp,FpOk X zZ H b)->tn i s.heap->J.stop i H->
  wpAny (model P w) X.A (pyNext (.ref it)) (fun r s1=>r=none/\Inv X zZ σ H s1) E s
 self:∀ (A:Around) (i:Nat) (s:Shared) (Q:zz) (E:zz),tn i s.heap->Q (.ref it) s->wpAny (model P w) A (pyIter (.ref it)) Q E s
abbrev TI:=St->Hp->(It->Hp->Prop)->Prop
inductive PIE (X:Cx) (zZ:List (Addr×Obj)) (σ:St) (tg:Expr) (R:It->Hp->Prop) (itv:Value) (s2:Shared):Prop
 | mk (it:Addr) (fp:List Addr) (tn:Nat->Heap->Prop) (J:It) (H':Hp):itv=.ref it->Inv X zZ σ H' s2->Turn X.prog X.w X.K tg J fp it tn->tn 0 s2.heap->(∀ b∈fp,FpOk X zZ H' b)->R J H'->PIE X zZ σ tg R itv s2
def PI (X:Cx) (tg iter:Expr) (wi:TI):Prop:=
 ∀ (zZ:List (Addr×Obj)) (s:Shared) (σ:St) (H:Hp) (R:It->Hp->Prop),Inv X zZ σ H s->wi σ H R->
   wpAny (model X.prog X.w) X.A (eval iter X.env) (fun v s1=>wpAny (model X.prog X.w) X.A (pyIter v) (PIE X zZ σ tg R) X.xe s1) X.xe s
theorem zjM (ho:s.heap.get? it=some o) (hc:o.cls=.type n) (hd:o.data=.fields vs)
  (hn:["enumerate","zip","dict_itemiterator","dict_reverseitemiterator","odict_iterator","itertools.zip_longest","itertools.pairwise"].contains n=false) (hQ:Q () s):wpAny M A (letOwnedTupleGo tg (.ref it) u) Q E s:=by
 unfold letOwnedTupleGo
 cases tg <;> first
  | exact qb hQ
  | (cases u <;> first
    | exact qb hQ
    | (refine qa (wpAny_load ho ?_)
       rw [hc,hd]
       show wpAny M A (if (["enumerate","zip","dict_itemiterator","dict_reverseitemiterator","odict_iterator","itertools.zip_longest","itertools.pairwise"].contains n && vs[0]? == some (rawInt _))=true then _ else _) Q E s
       rw [zi (by intro h; rw [hn,Bool.false_and] at h; cases h)]
       exact qb hQ))
def Itl (K:W.Frag) (a:Addr):It:=
 ⟨fun i H=>∃ xs x,SqL K H a xs/\xs[i]?=some x,fun i H x H'=>H'=H/\∀ xs,SqL K H a xs->xs[i]?=some x,fun i H=>∃ xs,SqL K H a xs/\xs.length<=i⟩
def Itt (K:W.Frag) (a:Addr):It:=
 ⟨fun i H=>∃ xs x,SqT K H a xs/\xs[i]?=some x,fun i H x H'=>H'=H/\∀ xs,SqT K H a xs->xs[i]?=some x,fun i H=>∃ xs,SqT K H a xs/\xs.length<=i⟩
def Itr (lo:Int) (n:Nat):It:=⟨fun i _=>i < n,fun i H x H'=>H'=H/\x=.int (lo + i),fun i _=>n<=i⟩
theorem zhk {P:Program} {w:World} {K:W.Frag} {tg:Expr} (a it:Addr):Turn P w K tg (Itl K a) [it] it (fun i h=>h.IsListIter it a i) where
 mem:=by simp
 obj:=fun i h st b hb=>by
  have e:b=it:=by simpa using hb
  subst e
  obtain ⟨o,e,c,d⟩:=st
  exact ⟨o,e,fun v z=>by rw [d] at z; cases z⟩
 keep:=fun i h h' st k=>st.at fun o e=>k it (by simp) o e
 item:=by
  intro X hP hw hK hc i zZ s σ H E I hf st hg
  subst hP hw hK
  obtain ⟨xs,x,hq,hx⟩:=hg
  obtain ⟨z6,rv,p,hz⟩:=I.list hq
  obtain ⟨u,hu,ru⟩:=rv.get hx
  obtain ⟨f0,f1,f2,f3,f4,f5⟩:=hf it (by simp)
  refine wpAny_pyNext_list_item st p.isList (x:=u) (by simpa using hu) fun h' st' sb=>?_
  have I1:Inv X zZ σ H { s with heap:=h' }:=I.turned (t':=s.toks) (fun b o hb e=>(sb.2 b hb).trans e) f0 f1 f3 f4 f5
  obtain ⟨o,e,c,d⟩:=id st'
  exact ⟨u,rfl,zjM (s:={ s with heap:=h' }) e c d (by decide) ⟨x,H,I1,ru,⟨rfl,fun ys hy=>by rw [I.list_inj hy hq]; exact hx⟩,st',fun b hb=>(hf b hb).1⟩⟩
 done:=by
  intro X hP hw hK hc i zZ s σ H E I hf st hg
  subst hP hw hK
  obtain ⟨xs,hq,hx⟩:=hg
  obtain ⟨z6,rv,p,hz⟩:=I.list hq
  obtain ⟨f0,f1,f2,f3,f4,f5⟩:=hf it (by simp)
  have hl:=rv.length
  exact wpAny_pyNext_list_end (I.ok.hd hc) st p.isList (by simp; lia) fun h' eb=>⟨rfl,I.turned (t':=s.toks) (fun b o hb e=>eb b o hb e) f0 f1 f3 f4 f5⟩
 self:=fun _ _ _ _ _ st h=>wpAny_pyIter_listiter st h
theorem zgF {P:Program} {w:World} {K:W.Frag} {tg:Expr} (a it:Addr):Turn P w K tg (Itt K a) [it] it (fun i h=>h.IsTupleIter it a i) where
 mem:=by simp
 obj:=fun i h st b hb=>by
  have e:b=it:=by simpa using hb
  subst e
  obtain ⟨o,e,c,d⟩:=st
  exact ⟨o,e,fun v z=>by rw [d] at z; cases z⟩
 keep:=fun i h h' st k=>st.at fun o e=>k it (by simp) o e
 item:=by
  intro X hP hw hK hc i zZ s σ H E I hf st hg
  subst hP hw hK
  obtain ⟨xs,x,hq,hx⟩:=hg
  obtain ⟨z6,rv,p,hz⟩:=I.tuple hq
  obtain ⟨u,hu,ru⟩:=rv.get hx
  obtain ⟨f0,f1,f2,f3,f4,f5⟩:=hf it (by simp)
  refine wpAny_pyNext_tuple_item st (show s.heap.IsTuple a z6.toArray from p) (x:=u) (by simpa using hu) fun h' st' sb=>?_
  have I1:Inv X zZ σ H { s with heap:=h' }:=I.turned (t':=s.toks) (fun b o hb e=>(sb.2 b hb).trans e) f0 f1 f3 f4 f5
  obtain ⟨o,e,c,d⟩:=id st'
  exact ⟨u,rfl,zjM (s:={ s with heap:=h' }) e c d (by decide) ⟨x,H,I1,ru,⟨rfl,fun ys hy=>by rw [I.tuple_inj hy hq]; exact hx⟩,st',fun b hb=>(hf b hb).1⟩⟩
 done:=by
  intro X hP hw hK hc i zZ s σ H E I hf st hg
  subst hP hw hK
  obtain ⟨xs,hq,hx⟩:=hg
  obtain ⟨z6,rv,p,hz⟩:=I.tuple hq
  obtain ⟨f0,f1,f2,f3,f4,f5⟩:=hf it (by simp)
  have hl:=rv.length
  exact wpAny_pyNext_tuple_end (I.ok.hd hc) st (show s.heap.IsTuple a z6.toArray from p) (by simp; lia) fun h' eb=>⟨rfl,I.turned (t':=s.toks) (fun b o hb e=>eb b o hb e) f0 f1 f3 f4 f5⟩
 self:=fun _ _ _ _ _ st h=>wpAny_pyIter_tupleiter st h
theorem zgH {P:Program} {w:World} {K:W.Frag} {tg:Expr} (it:Addr) (lo:Int) (n:Nat):Turn P w K tg (Itr lo n) [it] it (fun i h=>IsRangeIter h it (lo + (i:Nat) * 1) ((n:Int) - (i:Nat)) 1) where
 mem:=by simp
 obj:=fun i h st b hb=>by
  have e:b=it:=by simpa using hb
  subst e
  exact ⟨_,st,fun v z=>by
   have z':Data.fields _=Data.cell v:=z
   cases z'⟩
 keep:=fun i h h' st k=>k it (by simp) _ st
 item:=by
  intro X hP hw hK hc i zZ s σ H E I hf st hg
  subst hP hw hK
  obtain ⟨f0,f1,f2,f3,f4,f5⟩:=hf it (by simp)
  have W:=Walks.range (prog:=X.prog) (w:=X.w) (I.ok.hd hc) it lo 1 n
  refine W.item i s _ _ hg st fun v h' tk hv st' kk=>?_
  obtain ⟨t,rfl⟩:=hv
  have I1:Inv X zZ σ H { s with heap:=h',toks:=tk }:=I.turned (fun b o hb e=>kk b o (by simpa using hb) e) f0 f1 f3 f4 f5
  refine ⟨_,rfl,zjM (s:={ s with heap:=h',toks:=tk }) (n:="range_iterator") st' rfl rfl (by decide) ⟨.int (lo + i),H,I1,⟨t,?_⟩,⟨rfl,rfl⟩,st',fun b hb=>(hf b hb).1⟩⟩
  rw [mul_one]
 done:=by
  intro X hP hw hK hc i zZ s σ H E I hf st hg
  subst hP hw hK
  obtain ⟨f0,f1,f2,f3,f4,f5⟩:=hf it (by simp)
  exact wpAny_pyNext_range_end (I.ok.hd hc) st (by have:n<=i:=hg; lia) fun h' eb=>⟨rfl,I.turned (t':=s.toks) (fun b o hb e=>eb b o hb e) f0 f1 f3 f4 f5⟩
 self:=fun _ _ _ _ _ st h=>wpAny_pyIter_rangeiter st h
section
variable {X:Cx} {tg:Expr}
theorem zgl {lo hi:Int} (I:Inv X zZ σ H s) (h1:-(2 ^ 62)<=lo) (h2:lo < 2 ^ 62) (h3:-(2 ^ 62)<=hi) (h4:hi < 2 ^ 62)
  (q:R (Itr lo (hi - lo).toNat) H):wpAny (model X.prog X.w) X.A (pyIter (.ref s.heap.objs.size)) (PIE X zZ σ tg R) E { s with heap:=s.heap.push { cls:=.type "range",data:=.fields #[.int lo t,.int hi u,.int 1 v] },toks:=tk }:=by
 refine wpAny_pyIter_range (IsRange.new ..) (small_one h1 h2 h3 h4) ?_
 have I1:Inv X zZ σ H { s with heap:=s.heap.push { cls:=.type "range",data:=.fields #[.int lo t,.int hi u,.int 1 v] },toks:=tk }:=I.kept fun b o e=>qc _ e
 refine ⟨(s.heap.push { cls:=.type "range",data:=.fields #[.int lo t,.int hi u,.int 1 v] }).objs.size,[(s.heap.push { cls:=.type "range",data:=.fields #[.int lo t,.int hi u,.int 1 v] }).objs.size],_,_,H,rfl,
  I1.kept (t':=tk) fun b o e=>qc _ e,zgH _ lo (hi - lo).toNat,?_,fun b hb=>?_,q⟩
 ·have e1:lo + ((0:Nat):Int) * 1=lo:=by simp
  have e2:(((hi - lo).toNat:Nat):Int) - ((0:Nat):Int)=Builtin.Range.rangeSize lo hi 1:=by rw [rangeSize_one]; split <;> lia
  show IsRangeIter _ _ (lo + ((0:Nat):Int) * 1) ((((hi - lo).toNat:Nat):Int) - ((0:Nat):Int)) 1
  rw [e1,e2]
  exact qd _ rfl
 ·have e:b=(s.heap.push { cls:=.type "range",data:=.fields #[.int lo t,.int hi u,.int 1 v] }).objs.size:=by simpa using hb
  subst e
  exact I1.fpOk (zj _) (I1.hok.fresh (zj _))
def iRng1 (ta:TA):TI:=fun σ H R=>ta σ H fun vs H1=>∃ j:Int,vs=[.int j]/\-(2 ^ 62)<=j/\j < 2 ^ 62/\R (Itr 0 j.toNat) H1
def iRng2 (ta:TA):TI:=fun σ H R=>ta σ H fun vs H1=>∃ i j:Int,vs=[.int i,.int j]/\(-(2 ^ 62)<=i/\i < 2 ^ 62/\-(2 ^ 62)<=j/\j < 2 ^ 62)/\R (Itr i (j - i).toNat) H1
theorem zh5 (hg:Gl X "range") (hm:X.mg "range"=none) (ha:PA X [a] ta) (hs:starEach [a] X.env=[(false,eval a X.env)]:=by rfl):PI X tg (.Call (.Name "range" p) [a] [] pos) (iRng1 ta):=by
 intro zZ s σ H R I h
 refine Call_ (zbf I hg hm boot_range (PyProof.Rows.callWith_type1 (thn (ha pos zZ s σ H _ I h) fun us s1 zq=>?_) hs rfl))
 obtain ⟨vs,H1,I1,r1,q1⟩:=zq
 obtain ⟨j,e,q1,q2,q⟩:=q1
 subst e
 cases r1 with
 | cons r rr=>
   cases rr
   obtain ⟨t,rfl⟩:=r
   exact call_range_1 (zgl I1 (by lia) (by lia) q1 q2 (by simpa using q))
theorem ziB (hg:Gl X "range") (hm:X.mg "range"=none) (ha:PA X [a,b] ta) (hs:starEach [a,b] X.env=[(false,eval a X.env),(false,eval b X.env)]:=by rfl) (hs2:starEach [b] X.env=[(false,eval b X.env)]:=by rfl):
  PI X tg (.Call (.Name "range" p) [a,b] [] pos) (iRng2 ta):=by
 intro zZ s σ H R I h
 refine Call_ (zbf I hg hm boot_range (PyProof.Rows.callWith_type1 (thn (ha pos zZ s σ H _ I h) fun us s1 zq=>?_) (by rw [hs,hs2]) (by rw [hs2]; rfl)))
 obtain ⟨vs,H1,I1,r1,q1⟩:=zq
 obtain ⟨i,j,e,⟨q1,q2,q3,q4⟩,q⟩:=q1
 subst e
 cases r1 with
 | cons r rr=>
   cases rr with
   | cons r' rr=>
     cases rr
     obtain ⟨t,rfl⟩:=r
     obtain ⟨t',rfl⟩:=r'
     exact call_range_2 (zgl I1 q1 q2 q3 q4 q)
def tFor (wi:TI) (g:TG) (tb:TS):TS:=fun D σ H=>wi σ H fun J H1=>∃ W:Nat->Nat->St->Hp->Prop,(∃ m,W 0 m σ H1)/\∀ i m σ H,W i m σ H->
 (J.stop i H/\D.nx σ H)\/(J.go i H/\∃ N:St->Hp->Prop,(∀ σ' H',N σ' H'->∃ m',m' < m/\W (i + 1) m' σ' H')/\∀ x H',J.yld i H x H'->g x σ H' fun σ2 H2=>tb { D with nx:=N,ct:=N,bk:=D.nx } σ2 H2)
def pinsAt (fp:List Addr) (h:Heap):List (Addr×Obj):=fp.filterMap fun b=>(h.get? b).map fun o=>(b,o)
theorem zbr (hb:b∈fp) (e:h.get? b=some o):(b,o)∈pinsAt fp h:=mem_filterMap.mpr ⟨b,hb,by rw [e]; rfl⟩
theorem ziK (hp:p∈pinsAt fp h):p.1∈fp/\h.get? p.1=some p.2:=by
 obtain ⟨b,hb,e⟩:=mem_filterMap.mp hp
 cases q:h.get? b with
 | none=>rw [q] at e; cases e
 | some o=>
   grind
theorem Inv.pinned (I:Inv X zZ σ H s) (hf:∀ b∈fp,FpOk X zZ H b) (ho:∀ b∈fp,∃ o,s.heap.get? b=some o/\∀ v,o.data≠.cell v):Inv X (zZ++pinsAt fp s.heap) σ H s:=
 I.pins_of fun p hp=>(qA.mp hp).elim (fun z=>I.pin p (qk _ z)) fun z=>by
  obtain ⟨hb,e⟩:=ziK z
  obtain ⟨f0,f1,f2,_⟩:=hf p.1 hb
  obtain ⟨o,e',d⟩:=ho p.1 hb
  rw [e] at e'; cases e'
  exact ⟨e,f0,f1,f2,d⟩
theorem Inv.unpinned (I:Inv X (zZ++pl) σ H s):Inv X zZ σ H s:=I.pins_of fun p hp=>I.pin p (qk _ (qm _ hp))
theorem znc (hp:PassesOwn (model X.prog X.w) X.A X.env X.xe) (hc:X.calm=true) (hi:PI X tg iter wi) (hg:PG X tg g) (hb:PSs X body tb)
  (hs:∀ x,foldedSetIterable iter X.env x=pure x:=by intro _; rfl):PS X (.For tg iter body [] pos) (tFor wi g tb):=by
 intro zZ s σ H D I h
 refine wpAny_For (thn (hi zZ s σ H _ I h) fun v s1 h1=>thn h1 fun itv s2 h2=>?_) hs
 obtain ⟨it,fp,tn,J,H2,e,I2,T,st2,f2,W,⟨m0,w0⟩,turn⟩:=h2
 subst e
 -- what stays true of the iterator's objects through the loop
 have stat:∀ {H':Hp},(∀ b∈fp,H' b=none)->∀ b∈fp,FpOk X zZ H' b:=fun hn b hb=>⟨hn b hb,(f2 b hb).2⟩
 refine codeAny_forLoop_any (fun n s'=>∃ i σ' H',Inv X zZ σ' H' s'/\tn i s'.heap/\(∀ b∈fp,H' b=none)/\W i n σ' H') ?_ m0 ⟨0,σ,H2,I2,st2,fun b hb=>(f2 b hb).1,w0⟩
 rintro n s3 ⟨i,σ3,H3,I3,st3,fr3,w3⟩
 rcases turn i n σ3 H3 w3 with ⟨stop,qn⟩ | ⟨go,N,hN,step⟩
 ·refine wpAny_passesOwn hp (thn (T.done X rfl rfl rfl hc i zZ s3 σ3 H3 X.xe I3 (stat fr3) st3 stop) fun r s4 ⟨hr,I4⟩=>?_)
  subst hr
  exact wpAny_execs_nil ⟨σ3,H3,I4,qn⟩
 ·refine wpAny_passesOwn hp (thn (T.item X rfl rfl rfl hc i zZ s3 σ3 H3 X.xe I3 (stat fr3) st3 go) fun r s4 zq=>?_)
  obtain ⟨u,hr,h4⟩:=zq
  subst hr
  refine wpAny_passesOwn hp (thn h4 fun _ s5 zq=>?_)
  obtain ⟨x,H5,I5,r5,y5,st5,fr5⟩:=zq
  have I5':=I5.pinned (stat fr5) (T.obj _ _ st5)
  refine wpAny_passesOwn hp (thn (hg _ s5 σ3 H5 x u _ I5' r5 (step x H5 y5)) fun _ s6 zq=>?_)
  obtain ⟨σ6,H6,I6,q6⟩:=zq
  refine wpAny_passesOwn hp (thn (hb _ s6 σ6 H6 _ I6 q6) fun f s7 q7=>?_)
  have again:∀ {σ7:St} {H7:Hp},Inv X (zZ++pinsAt fp s5.heap) σ7 H7 s7->N σ7 H7->∃ m,m < n/\∃ i σ' H',Inv X zZ σ' H' s7/\tn i s7.heap/\(∀ b∈fp,H' b=none)/\W i m σ' H':=fun {σ7 H7} I7 n7=>by
   obtain ⟨m',hm,w7⟩:=hN σ7 H7 n7
   refine ⟨m',hm,i + 1,σ7,H7,I7.unpinned,T.keep _ _ _ st5 fun b hb o e=>(I7.pin (b,o) (qk _ (qk _ (zbr hb e)))).1,fun b hb=>?_,w7⟩
   obtain ⟨o,e,d⟩:=T.obj _ _ st5 b hb
   exact (I7.pin (b,o) (qk _ (qk _ (zbr hb e)))).2.1
  cases f with
  | next=>obtain ⟨σ7,H7,I7,n7⟩:=q7; exact again I7 n7
  | cont=>obtain ⟨σ7,H7,I7,n7⟩:=q7; exact again I7 n7
  | brk=>obtain ⟨σ7,H7,I7,q7⟩:=q7; exact ⟨σ7,H7,I7.unpinned,q7⟩
  | ret v=>obtain ⟨x7,σ7,H7,I7,r7,q7⟩:=q7; exact ⟨x7,σ7,H7,I7.unpinned,r7,q7⟩
end
abbrev R2:=V->V->Hp->VK->Prop
def OpR (X:Cx) (f:Value->Value->Sem Value) (r:R2):Prop:=
 ∀ (zZ:List (Addr×Obj)) (s:Shared) (σ:St) (H:Hp) (x y:V) (v u:Value) (Q:VK),Inv X zZ σ H s->zO x v->zO y u->r x y H Q->
   wpAny (model X.prog X.w) X.A (f v u) (EP X zZ σ Q) X.xe s
def UnR (X:Cx) (f:Value->Sem Value) (r:V->Hp->VK->Prop):Prop:=
 ∀ (zZ:List (Addr×Obj)) (s:Shared) (σ:St) (H:Hp) (x:V) (v:Value) (Q:VK),Inv X zZ σ H s->zO x v->r x H Q->
   wpAny (model X.prog X.w) X.A (f v) (EP X zZ σ Q) X.xe s
def CallR (X:Cx) (f:Value) (r:List V->Hp->VK->Prop):Prop:=
 ∀ (zZ:List (Addr×Obj)) (s:Shared) (σ:St) (H:Hp) (xs:List V) (us:List Value) (Q:VK),Inv X zZ σ H s->zW xs us->r xs H Q->
   wpAny (model X.prog X.w) X.A (call f us) (EP X zZ σ Q) X.xe s
def TruR (X:Cx) (r:V->Hp->(Bool->Hp->Prop)->Prop):Prop:=
 ∀ (zZ:List (Addr×Obj)) (s:Shared) (σ:St) (H:Hp) (x:V) (v:Value) (Q:Bool->Hp->Prop),Inv X zZ σ H s->zO x v->r x H Q->
   wpAny (model X.prog X.w) X.A (truthy v) (TP X zZ σ Q) X.xe s
def tOp (r:R2) (ta tb:TE):TE:=fun σ H Q=>ta σ H fun x H1=>tb σ H1 fun y H2=>r x y H2 Q
def tUn (r:V->Hp->VK->Prop) (ta:TE):TE:=fun σ H Q=>ta σ H fun x H1=>r x H1 Q
def rI (C:Int->Int->Prop) (g:Int->Int->V):R2:=fun x y H Q=>∃ i j,x=.int i/\y=.int j/\C i j/\Q (g i j) H
def rI0 (g:Int->Int->V):R2:=fun x y H Q=>∃ i j,x=.int i/\y=.int j/\Q (g i j) H
def rU (g:Int->V):V->Hp->VK->Prop:=fun x H Q=>∃ i,x=.int i/\Q (g i) H
section
variable {X:Cx} {a b c:Expr} {ta tb tc:TE} {pos:Pos}
theorem binT (ha:PE X a ta) (hb:PE X b tb) {R:V->V->Hp->Prop} (I:Inv X zZ σ H s)
  (h:ta σ H fun x H1=>tb σ H1 fun y H2=>R x y H2) {f:Value->Value->Sem Value}
  (hf:∀ v u s2 x y H2,Inv X zZ σ H2 s2->zO x v->zO y u->R x y H2->wpAny (model X.prog X.w) X.A (f v u) Q X.xe s2):
  wpAny (model X.prog X.w) X.A (eval a X.env) (fun v s₁=>wpAny (model X.prog X.w) X.A (eval b X.env) (fun u s₂=>wpAny (model X.prog X.w) X.A (f v u) Q X.xe s₂) X.xe s₁) X.xe s:=by
 refine thn (ha zZ s σ H _ I h) fun v s1 zq=>?_
 obtain ⟨x,H1,I1,r1,q1⟩:=zq
 refine thn (hb zZ s1 σ H1 _ I1 q1) fun u s2 zq=>?_
 obtain ⟨y,H2,I2,r2,q2⟩:=zq
 exact hf v u s2 x y H2 I2 r1 r2 q2
theorem zpR (ho:OpR X (binaryOp op) r) (ha:PE X a ta) (hb:PE X b tb):PE X (.BinOp a op b pos) (tOp r ta tb):=by
 intro zZ s σ H Q I h
 exact wpAny_BinOp (binT ha hb I h fun v u s2 x y H2 I2 rx ry q=>ho zZ s2 σ H2 x y v u Q I2 rx ry q)
theorem zp8 (ho:UnR X (unaryOp op) r) (ha:PE X a ta):PE X (.UnaryOp op a pos) (tUn r ta):=by
 intro zZ s σ H Q I h
 exact UnaryOp_ (thn (ha zZ s σ H _ I h) fun v s1 ⟨x,H1,I1,r1,q1⟩=>ho zZ s1 σ H1 x v Q I1 r1 q1)
theorem opI {g:Int->Int->Int}
  (rule:∀ (i j:Int) (t u:Tok) (s:Shared) (Q:zz) (E:zz),C i j->Q (.int (g i j) s.toks) { s with toks:=s.toks + 1 }->wpAny (model X.prog X.w) X.A (f (.int i t) (.int j u)) Q E s):
  OpR X f (rI C fun i j=>.int (g i j)):=by
 intro zZ s σ H x y v u Q I rx ry h
 obtain ⟨i,j,rfl,rfl,hc,q⟩:=h
 obtain ⟨t,rfl⟩:=rx
 obtain ⟨t',rfl⟩:=ry
 exact rule i j t t' s _ _ hc ⟨.int (g i j),H,I.tok _,⟨_,rfl⟩,q⟩
theorem opI0 {g:Int->Int->Int}
  (rule:∀ (i j:Int) (t u:Tok) (s:Shared) (Q:zz) (E:zz),Q (.int (g i j) s.toks) { s with toks:=s.toks + 1 }->wpAny (model X.prog X.w) X.A (f (.int i t) (.int j u)) Q E s):
  OpR X f (rI0 fun i j=>.int (g i j)):=by
 intro zZ s σ H x y v u Q I rx ry h
 obtain ⟨i,j,rfl,rfl,q⟩:=h
 obtain ⟨t,rfl⟩:=rx
 obtain ⟨t',rfl⟩:=ry
 exact rule i j t t' s _ _ ⟨.int (g i j),H,I.tok _,⟨_,rfl⟩,q⟩
theorem opB0 {g:Int->Int->Bool}
  (rule:∀ (i j:Int) (t u:Tok) (s:Shared) (Q:zz) (E:zz),Q (.bool (g i j)) s->wpAny (model X.prog X.w) X.A (f (.int i t) (.int j u)) Q E s):
  OpR X f (rI0 fun i j=>.bl (g i j)):=by
 intro zZ s σ H x y v u Q I rx ry h
 obtain ⟨i,j,rfl,rfl,q⟩:=h
 obtain ⟨t,rfl⟩:=rx
 obtain ⟨t',rfl⟩:=ry
 exact rule i j t t' s _ _ ⟨.bl (g i j),H,I,rfl,q⟩
def CPow (i j:Int):Prop:=0<=j/\j<=1000000/\i.natAbs < 2 ^ 64
def CMul (i j:Int):Prop:=(-(2 ^ 64) < i/\i < 2 ^ 64)\/(-(2 ^ 64) < j/\j < 2 ^ 64)
theorem CMul.ok (h:CMul i j):IntMulOk i j:=by
 rcases h with ⟨h1,h2⟩ | ⟨h1,h2⟩
 ·exact .of_left (intBits_le_64 h1 h2)
 ·exact .of_right (intBits_le_64 h1 h2)
theorem zgL (k:Nat):(0:Int)<=2 ^ k:=by
 rw [two_pow_cast]
 exact Int.natCast_nonneg _
theorem zoM:OpR X (binaryOp .Add) (rI0 fun i j=>.int (i + j)):=opI0 fun _ _ _ _ _ _ _ q=>add_int q
theorem zpr:OpR X (binaryOp .Mult) (rI CMul fun i j=>.int (i * j)):=opI fun _ _ _ _ _ _ _ hc q=>mul_int q hc.ok
theorem zo3:OpR X (binaryOp .Mod) (rI (fun _ j=>0 < j) fun i j=>.int (i % j)):=opI fun i j _ _ _ _ _ hc q=>by
 have h1:(0:Int) < j:=hc
 exact mod_int' (by lia) (by rw [Int.fmod_eq_emod_of_nonneg i (by lia)]; exact q)
theorem znG:OpR X (binaryOp .Pow) (rI CPow fun i j=>.int (i ^ j.toNat)):=opI fun _ _ _ _ _ _ _ hc q=>pow_int_small hc.1 hc.2.1 hc.2.2 q
theorem zmR:OpR X (binaryOp .LShift) (rI CPow fun i j=>.int (i * 2 ^ j.toNat)):=opI fun _ _ _ _ _ _ _ hc q=>lshift_int_small hc.1 hc.2.1 hc.2.2 q
theorem znv:OpR X (binaryOp .RShift) (rI (fun _ j=>0<=j) fun i j=>.int (i / 2 ^ j.toNat)):=opI fun i j _ _ _ _ _ hc q=>
 rshift_int hc (by rw [Int.fdiv_eq_ediv_of_nonneg i (zgL _)]; exact q)
theorem zmS:OpR X (binaryOp .BitAnd) (rI0 fun i j=>.int (Builtin.bitAnd i j)):=opI0 fun _ _ _ _ _ _ _ q=>and_int q
theorem unI {g:Int->Int}
  (rule:∀ (i:Int) (t:Tok) (s:Shared) (Q:zz) (E:zz),Q (.int (g i) s.toks) { s with toks:=s.toks + 1 }->wpAny (model X.prog X.w) X.A (f (.int i t)) Q E s):
  UnR X f (rU fun i=>.int (g i)):=by
 intro zZ s σ H x v Q I rx h
 obtain ⟨i,rfl,q⟩:=h
 obtain ⟨t,rfl⟩:=rx
 exact rule i t s _ _ ⟨.int (g i),H,I.tok _,⟨_,rfl⟩,q⟩
theorem zpv:UnR X (unaryOp .USub) (rU fun i=>.int (-i)):=unI fun _ _ _ _ _ q=>neg_int q
end
def scal:V->V->Bool
 | .non,.non=>true | .non,.int _=>true | .int _,.non=>true | .non,.bl _=>true | .bl _,.non=>true | .non,.str _=>true | .str _,.non=>true
 | .int _,.int _=>true | .bl _,.bl _=>true | .str _,.str _=>true | .byt _,.byt _=>true
 | .int _,.str _=>true | .str _,.int _=>true | .bl _,.str _=>true | .str _,.bl _=>true
 | _,_=>false
def rNe:R2:=fun x y H Q=>scal x y=true/\Q (.bl (!decide (x=y))) H
theorem zl7:decide (V.int i=V.int j)=(i == j):=by
 rw [Bool.eq_iff_iff]
 simp
theorem znY:decide (V.bl i=V.bl j)=(i == j):=by
 rw [Bool.eq_iff_iff]
 simp
theorem zl2:decide (V.str i=V.str j)=(i == j):=by
 rw [Bool.eq_iff_iff]
 simp
theorem zmt:decide (V.byt i=V.byt j)=(i.toList == j.toList):=by
 rw [Bool.eq_iff_iff]
 cases i
 cases j
 simp
section
variable {X:Cx} {a b c:Expr} {ta tb tc:TE} {pos:Pos}
theorem zaJ (I:Inv X zZ σ H s) (q:Q (.bl k) H) (e:k=k'):EP X zZ σ Q (.bool k') s:=by
 subst e
 exact ⟨.bl k,H,I,rfl,q⟩
theorem zqE:OpR X (compareOp .NotEq) rNe:=by
 intro zZ s σ H x y v u Q I rx ry h
 obtain ⟨hs,q⟩:=h
 cases x with
 | non=>
   cases rx
   cases y with
   | non=>cases ry; exact PySem.EqNone.ne_none_none (zaJ I q (by simp))
   | bl j=>cases ry; exact PySem.EqNone.ne_none_bool (zaJ I q (by simp))
   | int j=>obtain ⟨t',rfl⟩:=ry; exact PySem.EqNone.ne_none_int (zaJ I q (by simp))
   | str j=>obtain ⟨t',rfl⟩:=ry; exact PySem.EqNone.ne_none_str (zaJ I q (by simp))
   | _=>exact absurd (show false=true from hs) q5
 | bl i=>
   cases rx
   cases y with
   | non=>cases ry; exact PySem.EqNone.ne_bool_none (zaJ I q (by simp))
   | bl j=>cases ry; exact ne_bool (zaJ I q (congrArg not znY))
   | str j=>obtain ⟨t',rfl⟩:=ry; exact PySem.EqMixed.ne_bool_str (zaJ I q (by simp))
   | _=>exact absurd (show false=true from hs) q5
 | int i=>
   obtain ⟨t,rfl⟩:=rx
   cases y with
   | non=>cases ry; exact PySem.EqNone.ne_int_none (zaJ I q (by simp))
   | int j=>obtain ⟨t',rfl⟩:=ry; exact ne_int (zaJ I q (congrArg not zl7))
   | str j=>obtain ⟨t',rfl⟩:=ry; exact PySem.EqMixed.ne_int_str (zaJ I q (by simp))
   | _=>exact absurd (show false=true from hs) q5
 | str i=>
   obtain ⟨t,rfl⟩:=rx
   cases y with
   | non=>cases ry; exact PySem.EqNone.ne_str_none (zaJ I q (by simp))
   | bl j=>cases ry; exact PySem.EqMixed.ne_str_bool (zaJ I q (by simp))
   | int j=>obtain ⟨t',rfl⟩:=ry; exact PySem.EqMixed.ne_str_int (zaJ I q (by simp))
   | str j=>obtain ⟨t',rfl⟩:=ry; exact ne_str (zaJ I q (congrArg not zl2))
   | _=>exact absurd (show false=true from hs) q5
 | byt i=>
   obtain ⟨t,rfl⟩:=rx
   cases y with
   | byt j=>obtain ⟨t',rfl⟩:=ry; exact W.ne_bytes (zaJ I q (congrArg not zmt))
   | _=>exact absurd (show false=true from hs) q5
 | _=>cases y <;> exact absurd (show false=true from hs) q5
theorem zp1:OpR X (compareOp .Lt) (rI0 fun i j=>.bl (decide (i < j))):=opB0 fun _ _ _ _ _ _ _ q=>lt_int q
theorem zqv:OpR X (compareOp .LtE) (rI0 fun i j=>.bl (decide (i<=j))):=opB0 fun _ _ _ _ _ _ _ q=>le_int q
theorem zrT:OpR X (compareOp .Gt) (rI0 fun i j=>.bl (decide (j < i))):=opB0 fun _ _ _ _ _ _ _ q=>gt_int q
theorem zrH:OpR X (compareOp .GtE) (rI0 fun i j=>.bl (decide (j<=i))):=opB0 fun _ _ _ _ _ _ _ q=>ge_int q
theorem zn2:OpR X (compareOp .Is) (fun x y H Q=>y=.non/\Q (.bl (decide (x=.non))) H):=by
 intro zZ s σ H x y v u Q I rx ry h
 obtain ⟨rfl,q⟩:=h
 cases ry
 refine is_none_gen (zaJ I q ?_)
 cases x <;> first
  | (cases rx; rfl)
  | (obtain ⟨t,rfl⟩:=rx; rfl)
theorem zll:OpR X (compareOp .IsNot) (fun x y H Q=>y=.non/\Q (.bl (!decide (x=.non))) H):=by
 intro zZ s σ H x y v u Q I rx ry h
 obtain ⟨rfl,q⟩:=h
 cases ry
 refine isnot_none_gen (zaJ I q ?_)
 cases x <;> first
  | (cases rx; rfl)
  | (obtain ⟨t,rfl⟩:=rx; rfl)
theorem nomark (b:Expr) (h:op≠.In:=by decide) (h2:op≠.NotIn:=by decide):behindInMarks op b=false:=nobehind b h h2
theorem zmB (ho:OpR X (compareOp op) r) (ha:PE X a ta) (hb:PE X b tb) (hm:behindInMarks op b=false):PE X (.Compare a [op] [b] pos) (tOp r ta tb):=by
 intro zZ s σ H Q I h
 exact wpAny_Compare1 (binT ha hb I h fun v u s2 x y H2 I2 rx ry q=>ho zZ s2 σ H2 x y v u Q I2 rx ry q) hm
def tTest (t:TE):TT:=fun σ H Q=>t σ H fun x H'=>∃ k,x=.bl k/\Q k H'
theorem zlu (ho:OpR X (compareOp op) r) (ha:PE X a ta) (hb:PE X b tb) (hm:behindInMarks op b=false):PT X (.Compare a [op] [b] pos) (tTest (tOp r ta tb)):=by
 intro zZ s σ H Q I h
 refine wpAny_isTrue_Compare1 (thn (ha zZ s σ H _ I h) fun v s1 ⟨x,H1,I1,r1,q1⟩=>thn (hb zZ s1 σ H1 _ I1 q1) fun u s2 ⟨y,H2,I2,r2,q2⟩=>
  thn (ho zZ s2 σ H2 x y v u _ I2 r1 r2 q2) fun c s3 ⟨z,H3,I3,r3,k,e,q3⟩=>?_) hm
 subst e
 cases r3
 exact wpAny_truthy_bool ⟨H3,I3,q3⟩
def TruV (K:W.Frag) (x:V) (H:Hp) (k:Bool):Prop:=
 match x with
 | .non=>k=false
 | .bl b=>k=b
 | .int i=>k=(i !=0)
 | .str y=>y.length<=sizeLine/\k=((y.length:Int) !=0)
 | .byt y=>y.size<=sizeLine/\k=((y.size:Int) !=0)
 | .ref p=>(∃ xs,SqL K H p xs/\k=!xs.isEmpty)\/(∃ xs,SqT K H p xs/\k=!xs.isEmpty)\/∃ z3,H p=some (.dK z3)/\k=!z3.isEmpty
 | _=>False
theorem zgR (r:KV z3 vs):(!vs.isEmpty)=!z3.isEmpty:=by
 cases r <;> rfl
theorem zdt (r:zW xs z6):(!z6.toArray.isEmpty)=!xs.isEmpty:=by
 cases r <;> simp
theorem line63:(sizeLine:Nat) < 2 ^ 63:=by rw [zt]; decide
theorem zkY:TruR X (fun x H Q=>∃ k,TruV X.K x H k/\Q k H):=by
 intro zZ s σ H x v Q I rx h
 obtain ⟨k,e,q⟩:=h
 have hl:=line63
 have hs:sizeLine=16777216:=zt
 cases x with
 | non=>
   cases rx
   have e':k=false:=e
   subst e'
   exact truthy_none ⟨H,I,q⟩
 | bl b=>
   cases rx
   have e':k=b:=e
   subst e'
   exact wpAny_truthy_bool ⟨H,I,q⟩
 | int i=>
   obtain ⟨t,rfl⟩:=rx
   have e':k=(i !=0):=e
   subst e'
   exact PySem.P.truthy_int ⟨H,I,q⟩
 | str y=>
   obtain ⟨t,rfl⟩:=rx
   obtain ⟨hy,e'⟩:y.length<=sizeLine/\k=((y.length:Int) !=0):=e
   subst e'
   exact PySem.P.truthy_str (by lia) ⟨H,I.tok _,q⟩
 | byt y=>
   obtain ⟨t,rfl⟩:=rx
   obtain ⟨hy,e'⟩:y.size<=sizeLine/\k=((y.size:Int) !=0):=e
   subst e'
   exact W.truthy_bytes (by lia) ⟨H,I.tok _,q⟩
 | ref p=>
   cases rx
   have e':(∃ xs,SqL X.K H p xs/\k=!xs.isEmpty)\/(∃ xs,SqT X.K H p xs/\k=!xs.isEmpty)\/∃ z3,H p=some (.dK z3)/\k=!z3.isEmpty:=e
   rcases e' with ⟨xs,hx,e'⟩ | ⟨xs,hx,e'⟩ | ⟨z3,hx,e'⟩
   ·subst e'
    obtain ⟨z6,r,pl,hz⟩:=I.list hx
    have z5:=r.length
    exact wpAny_truthy_list pl.isList (by simp only [qu]; lia) ⟨H,I.tok _,by rw [zdt r]; exact q⟩
   ·subst e'
    obtain ⟨z6,r,pl,hz⟩:=I.tuple hx
    have z5:=r.length
    exact truthy_tuple pl (by simp only [qu]; lia) ⟨H,I.tok _,by rw [zdt r]; exact q⟩
   ·subst e'
    obtain ⟨hz,hS,vs,r,m⟩:z3.length<=sizeLine/\(p == sysModules)=false/\∃ vs,KV z3 vs/\s.heap.DictOf (mixKind X.prog X.w) p vs:=I.hok p _ hx
    have z5:z3.length=vs.length:=Paired.length r
    exact wpAny_truthy_dict hS m (by lia) ⟨H,I.tok _,by rw [zgR r]; exact q⟩
 | _=>exact (show False from e).elim
theorem zkE (ha:PE X a ta) (he:∀ whole,isTrue a X.env whole=(do let v <- whole; standAt a.pos; holding [v] (truthy v))):
  PT X a (fun σ H Q=>ta σ H fun x H'=>∃ k,TruV X.K x H' k/\Q k H'):=by
 intro zZ s σ H Q I h
 exact isTrue_plain (thn (ha zZ s σ H _ I h) fun v s1 ⟨x,H1,I1,r1,q1⟩=>zkY zZ s1 σ H1 x v Q I1 r1 q1) (he _)
theorem zgx:OpR X (binaryOp .Add) (fun x y H Q=>∃ i j,x=.str i/\y=.str j/\i.length + j.length<=sizeLine/\Q (.str (i++j)) H):=by
 intro zZ s σ H x y v u Q I rx ry h
 obtain ⟨i,j,rfl,rfl,hz,q⟩:=h
 obtain ⟨t,rfl⟩:=rx
 obtain ⟨t',rfl⟩:=ry
 exact add_str (fun t' tk=>⟨.str (i++j),H,I.tok _,⟨_,rfl⟩,q⟩) hz
theorem vals1 (r:zW [x] us):∃ u,us=[u]/\zO x u:=by
 cases r with
 | cons r1 r2=>cases r2; exact ⟨_,rfl,r1⟩
theorem vals2 (r:zW [x,y] us):∃ u w',us=[u,w']/\zO x u/\zO y w':=by
 cases r with
 | cons r1 r2=>
   cases r2 with
   | cons r3 r4=>cases r4; exact ⟨_,_,rfl,r1,r3⟩
theorem ziv (hc:X.calm=true):CallR X (.builtin "max") (fun xs H Q=>∃ i j,xs=[.int i,.int j]/\Q (.int (if j > i then j else i)) H):=by
 intro zZ s σ H xs us Q I r h
 obtain ⟨i,j,rfl,q⟩:=h
 obtain ⟨u,w',rfl,⟨t,rfl⟩,⟨t',rfl⟩⟩:=vals2 r
 refine max_two_ints (I.ok.hd hc) fun h' tk k=>⟨_,H,I.kept k,?_,q⟩
 by_cases hj:j > i
 ·rw [zc hj,zc hj]; exact ⟨_,rfl⟩
 ·rw [zi hj,zi hj]; exact ⟨_,rfl⟩
theorem ziW (hc:X.calm=true):CallR X (.builtin "min") (fun xs H Q=>∃ i j,xs=[.int i,.int j]/\Q (.int (if j < i then j else i)) H):=by
 intro zZ s σ H xs us Q I r h
 obtain ⟨i,j,rfl,q⟩:=h
 obtain ⟨u,w',rfl,⟨t,rfl⟩,⟨t',rfl⟩⟩:=vals2 r
 refine min_two_ints (I.ok.hd hc) fun h' tk k=>⟨_,H,I.kept k,?_,q⟩
 by_cases hj:j < i
 ·rw [zc hj,zc hj]; exact ⟨_,rfl⟩
 ·rw [zi hj,zi hj]; exact ⟨_,rfl⟩
theorem zhO:CallR X (.type "int") (fun xs H Q=>(∃ i,xs=[.int i]/\Q (.int i) H)\/∃ k,xs=[.bl k]/\Q (.int (if k then 1 else 0)) H):=by
 intro zZ s σ H xs us Q I r h
 rcases h with ⟨i,rfl,q⟩ | ⟨k,rfl,q⟩
 ·obtain ⟨u,rfl,t,rfl⟩:=vals1 r
  exact call_int_int ⟨.int i,H,I,⟨_,rfl⟩,q⟩
 ·obtain ⟨u,rfl,r1⟩:=vals1 r
  cases r1
  exact call_int_bool ⟨.int (if k then 1 else 0),H,I.tok _,⟨_,rfl⟩,q⟩
end
structure ObjM (h:Heap) (x dx C:Addr) (mA:Str->Option Value):Prop where
 obj:h.get? x=some (W.instObj C dx)
 ns:h.Ns1 dx mA
 ne:dx≠x
theorem zis {h:Heap} (n:h.Ns1 dx mA):∃ od,h.get? dx=some od/\∀ name,W.lookIn name od=some (mA name):=by
 obtain ⟨o,es,ep,ho,hd,hk,_,hm⟩:=n
 refine ⟨o,ho,fun name=>?_⟩
 have e:=hm name
 unfold nsFind findBy at e
 rw [<- Array.find?_toList] at e
 unfold W.lookIn
 rw [hd]
 dsimp only
 split
 ·rename_i y q
  rw [q] at e
  exact congrArg some e
 ·rename_i q
  rw [q] at e
  have a:es.toList.any (·.refKey)=false:=by
   rw [List.any_eq_false]
   intro y hy
   obtain ⟨z,t,hkey⟩:=hk y (mem_toList_iff.mp hy)
   simp [DictEntry.refKey,hkey]
  grind
theorem ObjM.look (I:ObjM h x dx C mA):∃ od,W.InstAt h x (W.instObj C dx) C (some od)/\∀ name,W.lookIn name od=some (mA name):=
 let ⟨od,ho,hl⟩:=zis I.ns
 ⟨od,⟨I.obj,rfl,rfl,ho⟩,hl⟩
theorem RelO.some_of (r:RelO (some v) o):∃ u,o=some u/\zO v u:=by
 cases o with
 | none=>exact (show False from r).elim
 | some u=>exact ⟨u,rfl,r⟩
section
variable {P:Program} {w:World} {H H':Hp} {h h':Heap} {a C dx:Addr} {fs fs':List (Str×V)}
theorem zlB (hok:HOk P w H h) (e:H a=some (.ins C dx fs)):∃ mA,ObjM h a dx C mA/\(∀ f,RelO (fs.lookup f) (mA f))/\PySem.Within mA (fs.map (·.1))/\fs.length<=1000/\H dx=some (.own a):=by
 obtain ⟨d,z,ne,ob,mA,n,r,q⟩:=(show zY P w H h a (.ins C dx fs) from hok a _ e)
 exact ⟨mA,⟨ob,n,ne⟩,r,q,z,d⟩
end
structure Cls (K:W.Frag) (C:Addr):Prop where
 pg:W.plainGet K C Str.empty=true
 hd:W.hasDictIn K C=true
 po:W.plainOver K C=true
 sa:W.findIn K (.ref C) "__setattr__"=some (some (.builtin "object.__setattr__"))
theorem Cls.get {K:W.Frag} (c:Cls K C) (f:Str):W.plainGet K C f=true:=c.pg
section
variable {X:Cx} {zZ:List (Addr×Obj)} {σ:St} {H:Hp} {s:Shared} {A:Around} {E:zz} {Q:zz} {c:Value} {b:Bool}
inductive TyOf (K:W.Frag) (H:Hp):V->Value->Prop where
 | non:TyOf K H .non (.type "NoneType")
 | bl (x:Bool):TyOf K H (.bl x) (.type "bool")
 | int (i:Int):TyOf K H (.int i) (.type "int")
 | str (x:Str):TyOf K H (.str x) (.type "str")
 | flt (x:UInt64):TyOf K H (.flt x) (.type "float")
 | lst {a:Addr} {xs:List V} (e:H a=some (.lst xs)):TyOf K H (.ref a) (.type "list")
 | frz {a:Addr} {o:Obj} {xs:List V} (e:H a=some (.frz o (.lst xs))):TyOf K H (.ref a) (.type "list")
 | tup {a:Addr} {xs:List V} (e:H a=some (.tup xs)):TyOf K H (.ref a) (.type "tuple")
 | dK {a:Addr} {z3:List (Key×V)} (e:H a=some (.dK z3)):TyOf K H (.ref a) (.type "dict")
 | dT {a:Addr} {z3:List (List Key×V)} (e:H a=some (.dT z3)):TyOf K H (.ref a) (.type "dict")
 | ins {a C dx:Addr} {fs:List (Str×V)} (e:H a=some (.ins C dx fs)) (cl:Cls K C) (ha:W.findIn K (.ref C) "__class__"=some (some (.builtin "object.__class__")))
   (hn:W.specialIn K (.builtin "object.__class__") "__get__"=some (some (.builtin "getset_descriptor.__get__"))) (htk:W.takesIn K (.builtin "object.__class__")=some true)
   (hm:W.mroIn K C (.type "object")=some true):TyOf K H (.ref a) (.ref C)
theorem zaN (I:Inv X zZ σ H s) (rx:zO x u) (ty:TyOf X.K H x t) (e:W.kitOne X.K t c=some b) (h:∀ tk,Q (.bool b) { s with toks:=tk }):
  wpAny (model X.prog X.w) A (call (.builtin "isinstance") [u,c]) Q E s:=by
 cases ty with
 | non=>cases (show u=Value.none from rx); exact W.kia_one W.kitx_none I.kIn True.intro e (fun z=>nomatch z) h
 | bl y=>cases (show u=Value.bool y from rx); exact W.kia_one W.kitx_bool I.kIn True.intro e (fun z=>nomatch z) h
 | int i=>obtain ⟨t,q⟩:=(show ∃ t,u=Value.int i t from rx); cases q; exact W.kia_one W.kitx_int I.kIn True.intro e (fun z=>nomatch z) h
 | str y=>obtain ⟨t,q⟩:=(show ∃ t,u=Value.str y t from rx); cases q; exact W.kia_one W.kitx_str I.kIn True.intro e (fun z=>nomatch z) h
 | flt y=>obtain ⟨t,q⟩:=(show ∃ t,u=Value.float y t from rx); cases q; exact W.kia_one W.kitx_float I.kIn True.intro e (fun z=>nomatch z) h
 | @lst a xs ea=>
   cases (show u=Value.ref a from rx)
   obtain ⟨_,_,n,_,h1⟩:=(show zY X.prog X.w H s.heap a (.lst xs) from I.hok a _ ea)
   exact W.kia_one W.kitx_list I.kIn ⟨_,h1,rfl⟩ e (fun z=>nomatch z) h
 | @frz a ob xs ea=>
   cases (show u=Value.ref a from rx)
   obtain ⟨_,_,_,n,_,h1⟩:=(show zY X.prog X.w H s.heap a (.frz ob (.lst xs)) from I.hok a _ ea)
   exact W.kia_one W.kitx_list I.kIn ⟨_,h1,rfl⟩ e (fun z=>nomatch z) h
 | @tup a xs ea=>
   cases (show u=Value.ref a from rx)
   obtain ⟨_,_,_,p⟩:=(show zY X.prog X.w H s.heap a (.tup xs) from I.hok a _ ea)
   obtain ⟨o,h1,h2,_⟩:=p
   exact W.kia_one W.kitx_tuple I.kIn ⟨o,h1,h2⟩ e (fun z=>nomatch z) h
 | @dK a z3 ea=>
   cases (show u=Value.ref a from rx)
   obtain ⟨_,_,vs,_,p⟩:=(show zY X.prog X.w H s.heap a (.dK z3) from I.hok a _ ea)
   obtain ⟨o,es,ep,h1,h2,_⟩:=p
   exact W.kia_one W.kitx_dict I.kIn ⟨o,h1,h2.1⟩ e (fun z=>nomatch z) h
 | @dT a z3 ea=>
   cases (show u=Value.ref a from rx)
   obtain ⟨_,_,xs,_,o,es,ep,h1,h2,_⟩:=(show zY X.prog X.w H s.heap a (.dT z3) from I.hok a _ ea)
   exact W.kia_one W.kitx_dict I.kIn ⟨o,h1,h2.1⟩ e (fun z=>nomatch z) h
 | @ins a C dx fs ea cl ha hn htk hm=>
   cases (show u=Value.ref a from rx)
   obtain ⟨mA,O,_⟩:=zlB I.hok ea
   obtain ⟨od,J,_⟩:=O.look
   exact W.kia_one (W.kitx_own (cl.get _) cl.hd ha hn htk hm) I.kIn J e (fun z=>nomatch z) h
end
structure Room (k:Nat) (A:Around):Prop where
 hd:A.handled=none
 dp:A.depth + 3 * k + 5 < recursionLimit
 un:A.units + 16 * k + 200 < cLine
 gd:A.guards=some []
theorem Room.mono (r:Room k A) (h:j<=k):Room j A:=⟨r.hd,by have:=r.dp; lia,by have:=r.un; lia,r.gd⟩
theorem Room.deeper (r:Room (k + 1) A) (env:Env):Room k (A.deeper env):=
 ⟨r.hd,by have:=r.dp; show A.depth + 1 + 3 * k + 5 < _; lia,by have:=r.un; show A.units + 3 + 16 * k + 200 < _; lia,r.gd⟩
theorem Room.depth (r:Room k A):A.depth < recursionLimit:=by have:=r.dp; lia
theorem Room.units (r:Room k A):A.units + 64 < cLine:=by have:=r.un; lia
def tNil:TA:=fun _ H Q=>Q [] H
def tCons (ta:TE) (tr:TA):TA:=fun σ H Q=>ta σ H fun x H1=>tr σ H1 fun xs H2=>Q (x::xs) H2
section
variable {X:Cx} {e:Expr} {es:List Expr} {te:TE} {t:TA} {pos:Pos}
theorem zgm:PA X [] tNil:=fun _ _ _ _ H Q I h=>Calls.spliced_nil ⟨[],H,I,.nil,h⟩
theorem zea (ha:PE X e te) (hr:PA X es t) (hs:starEach (e::es) X.env=(false,eval e X.env)::starEach es X.env:=by rfl):PA X (e::es) (tCons te t):=by
 intro pos zZ s σ H Q I h
 rw [hs]
 show wpAny _ _ (spliced ((false,eval e X.env)::backTo pos (starEach es X.env))) _ _ s
 refine Calls.spliced_cons (thn (ha zZ s σ H _ I h) fun u s1 zq=>?_)
 obtain ⟨x,H1,I1,r1,q1⟩:=zq
 exact thn (hr pos zZ s1 σ H1 _ I1 q1) fun us s2 ⟨xs,H2,I2,r2,q2⟩=>⟨x::xs,H2,I2,.cons r1 r2,q2⟩
def tTup (t:TA):TE:=fun σ H Q=>t σ H fun xs H1=>xs.length<=sizeLine/\∀ p,H1 p=none->Q (.ref p) (upd H1 p (.tup xs))
def tLst (t:TA):TE:=fun σ H Q=>t σ H fun xs H1=>xs.length<=sizeLine/\∀ p,H1 p=none->Q (.ref p) (upd H1 p (.lst xs))
theorem zmU (h:PA X es t):PE X (.Tuple es x1 pos) (tTup t):=by
 intro zZ s σ H Q I hq
 refine wpAny_Tuple_spliced (thn (h pos zZ s σ H _ I hq) fun us s1 ⟨xs,H1,I1,r,z,q⟩=>⟨by rw [<- r.length]; exact z,?_⟩)
 have hf:H1 s1.heap.objs.size=none:=I1.hok.fresh (zj _)
 refine ⟨.ref s1.heap.objs.size,upd H1 s1.heap.objs.size (.tup xs),I1.laid (t':=s1.toks) (fun b u e=>qc _ e) (zj _) ?_,rfl,q _ hf⟩
 exact ⟨⟨z,NoDc.new rfl (qd _ rfl)⟩,us,r,⟨_,qd _ rfl,rfl,_,rfl⟩⟩
theorem zoe (h:PA X es t):PE X (.List es pos) (tLst t):=by
 intro zZ s σ H Q I hq
 refine wpAny_List_spliced (thn (h pos zZ s σ H _ I hq) fun us s1 ⟨xs,H1,I1,r,z,q⟩=>⟨by rw [<- r.length]; exact z,?_⟩)
 have hf:H1 s1.heap.objs.size=none:=I1.hok.fresh (zj _)
 refine ⟨.ref s1.heap.objs.size,upd H1 s1.heap.objs.size (.lst xs),I1.laid (t':=s1.toks) (fun b u e=>qc _ e) (zj _) ?_,rfl,q _ hf⟩
 exact ⟨z,us,0,r,qd _ rfl⟩
end
abbrev Sp:=List V->Hp->VK->XK->Prop
abbrev CXT:=List Env->Hp->Shared->XK->Value->Shared->Prop
structure Env0 (P:Program) (w:World) (K:W.Frag) (mg:Str->Option Value) (base:Heap) (A:Around) (outer:List Env) (s:Shared) (H:Hp):Prop where
 frames:A.frames=some outer
 mod:Mod K mg base
 bs:∀ b o,base.get? b=some o->s.heap.get? b=some o/\H b=none
 bsz:base.objs.size<=s.heap.objs.size
 funs:s.heap.FunFrames base outer
 frf:∀ b∈frs outer,H b=none
 hok:HOk P w H s.heap
 bare:AllBare s.gens
def CE (outer:List Env) (P:Program) (w:World) (H:Hp) (s:Shared) (Q:VK) (u:Value) (s':Shared):Prop:=
 ∃ v H',s'.os=s.os/\AllBare s'.gens/\Un (frs outer) [] H H' s.heap s'.heap/\HOk P w H' s'.heap/\zO v u/\Q v H'
def CR (CX:CXT) (outer:List Env) (P:Program) (w:World) (H:Hp) (s:Shared) (Q:VK) (E:XK) (r:Result) (s':Shared):Prop:=
 match r with
 | .ok (.ret u)=>CE outer P w H s Q u s'
 | .ok _=>False
 | .error e=>CX outer H s E e s'
structure FnOk (P:Program) (w:World) (K:W.Frag) (mg:Str->Option Value) (base:Heap) (CX:CXT) (k:Nat) (f:Addr) (fd:FuncData) (ps:List Str) (sp:Sp):Prop where
 len:∀ vs H Q E,sp vs H Q E->vs.length=ps.length
 run:∀ (A:Around) (outer:List Env) (s:Shared) (H:Hp) (args:Args) (us:List Value) (vs:List V) (Q:VK) (E:XK),Room k A->Env0 P w K mg base A outer s H->BindsTo s fd args (ps.zip us)->zW vs us->sp vs H Q E->
  codeAny (model P w) A (.call (.ref f) args) (CR CX outer P w H s Q E) s
section
variable {X:Cx} {zZ:List (Addr×Obj)} {σ:St} {H:Hp} {s s':Shared}
theorem Inv.env0 (I:Inv X zZ σ H s):Env0 X.prog X.w X.K X.mg X.base X.A X.stack s H:=
 ⟨I.ok.frames,I.ok.mod,I.bs,le_trans I.ok.bsz I.sz,I.stack,I.stkFree,I.hok,I.bare⟩
theorem Inv.after (I:Inv X zZ σ H s) (h:CE X.stack X.prog X.w H s Q u s'):EP X zZ σ Q u s':=by
 obtain ⟨v,H',os,bare,un,hok,r,q⟩:=h
 obtain ⟨hh,g,d,t,os'⟩:=s'
 obtain rfl:os'=s.os:=os
 exact ⟨v,H',I.call (h':=hh) (g':=g) (d':=d) (t':=t) (ch:=[]) un hok bare (fun b z=>absurd z (by simp)),r,q⟩
end
def Binds (K:W.Frag) (fd:FuncData) (ps:List Str) (ds:List Value):Prop:=
 ∀ (s:Shared) (us:List Value),K.In s.heap->(us++ds).length=ps.length->BindsTo s fd ⟨us,[]⟩ (ps.zip (us++ds))
theorem Binds.all {K:W.Frag} (h:∀ us:List Value,us.length=ps.length->bindArgs fd ⟨us,[]⟩=pure (ps.zip us)):Binds K fd ps []:=fun s us _ hl=>by
 rw [qC] at hl ⊢
 exact .of_eq (h us hl)
structure FnScope (N P:List Str) (sc:Scope):Prop where
 kind:sc.kind=.function
 co:sc.isCoroutine=false
 gen:sc.isGenerator=false
 nd:N.Nodup
 pre:N.take P.length=P
 par:∀ x∈P,sc.names.lookup x=some .local\/sc.names.lookup x=some .cell
 nofree:∀ y∈sc.names,y.2≠.free
theorem zek {kindOf:Str->Option NameKind}:∀ {binds:List (Str×Value)} {m:Str->Option Value},(∀ v,(x,v)∉binds)->bindL kindOf binds m x=m x
 | [],_,_=>rfl
 | (n,v)::r,m,h=>by
   unfold bindL
   rw [zek fun w hw=>h w (qo _ hw)]
   split
   ·have:x≠n:=by rintro rfl; exact h v qp
    simp [this]
   ·rfl
theorem zef {kindOf:Str->Option NameKind}:∀ {binds:List (Str×Value)} {m:Str->Option Value},(∀ v,(x,v)∉binds)->bindC kindOf binds m x=m x
 | [],_,_=>rfl
 | (n,v)::r,m,h=>by
   unfold bindC
   rw [zef fun w hw=>h w (qo _ hw)]
   split
   ·rfl
   ·have:x≠n:=by rintro rfl; exact h v qp
    simp [this]
theorem zem {kindOf:Str->Option NameKind}:∀ {P:List Str} {vs:List Value} {i:Nat} {m:Str->Option Value},P.Nodup->P[i]?=some x->vs[i]?=some v->kindOf x=some .local->
  bindL kindOf (P.zip vs) m x=some v
 | [],_,_,_,_,h,_,_=>by simp at h
 | _::_,[],_,_,_,_,h,_=>by simp at h
 | p::P,w::vs,0,m,nd,h1,h2,hk=>by
   simp at h1 h2; subst h1; subst h2
   show bindL kindOf ((p,w)::P.zip vs) m p=_
   unfold bindL
   rw [zek fun v hv=>(qO.mp nd).1 (of_mem_zip hv).1,zc hk]
   simp
 | p::P,w::vs,i + 1,m,nd,h1,h2,hk=>by
   show bindL kindOf ((p,w)::P.zip vs) m x=_
   unfold bindL
   exact zem (i:=i) (qO.mp nd).2 (by simpa using h1) (by simpa using h2) hk
theorem zeQ {kindOf:Str->Option NameKind}:∀ {P:List Str} {vs:List Value} {i:Nat} {m:Str->Option Value},P.Nodup->P[i]?=some x->vs[i]?=some v->kindOf x≠some .local->
  bindC kindOf (P.zip vs) m x=some v
 | [],_,_,_,_,h,_,_=>by simp at h
 | _::_,[],_,_,_,_,h,_=>by simp at h
 | p::P,w::vs,0,m,nd,h1,h2,hk=>by
   simp at h1 h2; subst h1; subst h2
   show bindC kindOf ((p,w)::P.zip vs) m p=_
   unfold bindC
   rw [zef fun v hv=>(qO.mp nd).1 (of_mem_zip hv).1,zi hk]
   simp
 | p::P,w::vs,i + 1,m,nd,h1,h2,hk=>by
   show bindC kindOf ((p,w)::P.zip vs) m x=_
   unfold bindC
   exact zeQ (i:=i) (qO.mp nd).2 (by simpa using h1) (by simpa using h2) hk
def start (N:List Str) (vs:List V):St:=vs.map some++List.replicate (N.length - vs.length) none
def cxOf (CX:CXT) (P:Program) (w:World) (K:W.Frag) (mg:Str->Option Value) (base:Heap) (N:List Str) (qual:Str) (scope:Scope) (f:Addr) (cd:Value) (A:Around) (outer:List Env) (s:Shared) (H:Hp) (E:XK):Cx where
 prog:=P
 w:=w
 K:=K
 mg:=mg
 base:=base
 A:=A.deeper (envOfC qual scope s.heap.objs.size f cd)
 N:=N
 s₀:=s
 H₀:=H
 env:=envOfC qual scope s.heap.objs.size f cd
 outer:=outer
 stack:=envOfC qual scope s.heap.objs.size f cd::outer
 ex:=[]
 calm:=true
 fn:=fun _=>true
 pn:=[]
 xe:=fun e s'=>wpAny (model P w) (A.deeper (envOfC qual scope s.heap.objs.size f cd)) (leaving (envOfC qual scope s.heap.objs.size f cd) e) (fun _ s''=>CX outer H s E e s'') (fun e' s''=>CX outer H s E e' s'') s'
theorem zfZ {sc:Scope} (h:sc.names.lookup x=some .cell):∃ c,(cellsFrom n sc.names []).lookup x=some c:=by
 have q:=W.cellsFrom_some sc.names n [] (.inl h)
 exact Option.isSome_iff_exists.mp q
theorem zi1 {K:W.Frag}
  (S:FnScope N ps scope) (hd:A.handled=none) (e0:Env0 P w K mg base A outer s H) (hl:vs.length=ps.length) (r:zW vs us)
  (x:InCallC s s.heap.objs.size (bindL (envOfC qual scope s.heap.objs.size f cd).kindOf (ps.zip us) fun _=>none) (cellsFrom (s.heap.objs.size + 1) scope.names []) (bindC (envOfC qual scope s.heap.objs.size f cd).kindOf (ps.zip us) fun _=>none) s1):
  Inv (cxOf CX P w K mg base N qual scope f cd A outer s H E) [] (start N vs) H s1:=by
 have hpl:ps.length<=N.length:=by have:=congrArg List.length S.pre; rw [qK] at this; lia
 obtain ⟨h1,tk,rfl,hk⟩:=x.done
 have noA:∀ b:Addr,b∉(cxOf CX P w K mg base N qual scope f cd A outer s H E).ex:=fun b z=>absurd (show b∈([]:List Addr) from z) (by simp)
 refine ⟨⟨e0.mod,S.kind,rfl,rfl,zj _,fun y z c h1 h2=>?_,fun y hy=>?_,fun y c _ h=>?_,fun _=>hd,Around.frames_deeper e0.frames,.inr ⟨rfl,rfl⟩,fun b z=>absurd z (noA b),e0.bs,e0.bsz,fun b _ _=>noA b,fun b z=>absurd z (noA b),e0.funs,e0.frf⟩,
  rfl,e0.bare,Un.kept hk,⟨_,x.toInCall.ns,fun i y v h1 h2 h3=>?_⟩,fun y c h=>⟨_,x.cell y c h⟩,e0.hok.fresh (zj _),fun y c h=>?_,fun p hp=>absurd (show p∈([]:List (Addr×Obj)) from hp) (by simp),e0.hok.kept hk,?_⟩
 ·exact name_of_addr x.apart (PySem.mem_of_lookup h1) (PySem.mem_of_lookup h2)
 ·have hy:scope.names.lookup y=some .cell\/scope.names.lookup y=some .free:=hy
  rcases hy with hy | hy
  ·exact zfZ hy
  ·exact absurd rfl (S.nofree _ (PySem.mem_of_lookup hy))
 ·exact le_of_lt (x.above y c (PySem.mem_of_lookup h))
 ·have hi:i < vs.length:=by
   unfold start at h2
   by_cases hi:i < vs.length
   ·exact hi
   ·rw [getElem?_append_right (by simpa using hi)] at h2
    rw [List.getElem?_replicate] at h2
    split at h2 <;> cases h2
  have ha:vs[i]?=some v:=by
   unfold start at h2
   rw [getElem?_append_left (by simpa using hi),qI] at h2
   cases e:vs[i]? with
   | none=>rw [e] at h2; cases h2
   | some a=>rw [e] at h2; cases h2; rfl
  obtain ⟨u,hu,rv⟩:=r.get ha
  have hp:ps[i]?=some y:=by
   rw [<- S.pre,List.getElem?_take_of_lt (by lia)]; exact h1
  have ndP:ps.Nodup:=by rw [<- S.pre]; exact S.nd.sublist (List.take_sublist _ _)
  refine ⟨u,rv,?_⟩
  rcases S.par y (qP hp) with k | k
  ·exact .inl ⟨k,zem ndP hp hu k⟩
  ·obtain ⟨c,e⟩:=zfZ (n:=s.heap.objs.size + 1) k
   refine .inr ⟨.inl k,c,e,?_⟩
   have q:=x.cell y c e
   rw [zeQ ndP hp hu (by show scope.names.lookup y≠_; rw [k]; decide)] at q
   exact q
 ·exact e0.hok.fresh (le_of_lt (x.above y c (PySem.mem_of_lookup h)))
 ·unfold start
  show _=N.length
  rw [qt,qq,List.length_replicate]
  lia
theorem zsb {K:W.Frag} {dV kV doc pm cdv ct oc:Value} (lk:K.lookup f=some ⟨oc,od,.func (W.fnOf name qual params body scope dV kV doc pm an cdv ct),osl⟩) (hcd:W.codeIn K cdv qual=true) (S:FnScope N ps scope)
  (len:∀ vs H Q E,sp vs H Q E->vs.length=ps.length)
  (hbody:∀ (A:Around) (outer:List Env) (s:Shared) (H:Hp) (vs:List V) (Q:VK) (E:XK),Room k (A.deeper (envOfC qual scope s.heap.objs.size f cdv))->sp vs H Q E->
   ∃ t,PSs (cxOf CX P w K mg base N qual scope f cdv A outer s H E) body t/\t { nx:=fun _ H'=>Q .non H',rt:=Q } (start N vs) H):
  FnOk P w K mg base CX (k + 1) f (W.fnOf name qual params body scope dV kV doc pm an cdv ct) ps sp:=by
 refine ⟨len,fun A outer s H args us vs Q E hr e0 hb r hsp=>?_⟩
 have hl:=len _ _ _ _ hsp
 have KX:K.In s.heap:=e0.mod.kin.keeps fun b o e=>(e0.bs b o e).1
 have lim:s.heap.NoLimit:=e0.mod.nolimit.keeps fun b o e=>(e0.bs b o e).1
 have hkind:∀ y∈ps.zip us,scope.names.lookup y.1=some .local\/(scope.names.lookup y.1=some .cell/\((cellsFrom (s.heap.objs.size + 1) scope.names []).lookup y.1).isSome=true):=fun ⟨n,v⟩ hy=>by
  rcases S.par n (of_mem_zip hy).1 with q | q
  ·exact .inl q
  ·exact .inr ⟨q,W.cellsFrom_some _ _ _ (.inl q)⟩
 refine codeAny_call_function hr.depth (KX _ _ lk) rfl S.co S.gen rfl (W.codeRec_of KX hcd) (hb _ _ _ _ ?_)
 refine wpAny_newFunctionEnv_cells S.kind hkind fun env he s1 x=>?_
 subst he
 refine ⟨lim.keeps x.toInCall.keep,codeAny_func ?_⟩
 obtain ⟨t,ht,hq⟩:=hbody A outer s H vs Q E (hr.deeper _) hsp
 have I:Inv (cxOf CX P w K mg base N qual scope f cdv A outer s H E) [] (start N vs) H s1:=zi1 S hr.hd e0 hl r x
 refine zx (ht [] s1 (start N vs) H _ I hq) (fun fl s' hs=>?_) fun e s' hs=>hs
 have fin:∀ {σ':St} {H':Hp} {v:V} {u:Value},Inv (cxOf CX P w K mg base N qual scope f cdv A outer s H E) [] σ' H' s'->zO v u->Q v H'->CE outer P w H s Q u s':=
  fun {σ' H' v u} J rv q=>⟨v,H',J.os,J.bare,J.base,J.hok,rv,q⟩
 cases fl with
 | ret u=>
   obtain ⟨v,σ',H',J,rv,q⟩:=hs
   exact fin J rv q
 | next=>
   obtain ⟨σ',H',J,q⟩:=hs
   exact fin (v:=V.non) (u:=Value.none) J rfl q
 | brk=>
   obtain ⟨_,_,_,q⟩:=hs
   exact False.elim q
 | cont=>
   obtain ⟨_,_,_,q⟩:=hs
   exact False.elim q
section
variable {X:Cx} {x:Str} {p pos:Pos} {e:Expr} {es:List Expr} {t:TA} {id T:String} {r:List V->Hp->VK->Prop}
def tCB (r:List V->Hp->VK->Prop) (t:TA):TE:=fun σ H Q=>t σ H fun vs H1=>r vs H1 Q
theorem zkI (hc:CallR X (.builtin id) r) (hg:Gl X x) (hm:X.mg x=none) (hv:bootBuiltins x=some (.builtin id)) (ha:PA X (e::es) t) (hn:x≠"__name__":=by decide) (hdb:(x == ("__debug__":Str))=false:=by decide)
  (he:starEach (e::es) X.env=(false,eval e X.env)::starEach es X.env:=by rfl) (hpl:(backTo pos (starEach es X.env)).any (·.1)=false:=by rfl):PE X (.Call (.Name x p) (e::es) [] pos) (tCB r t):=by
 intro zZ s σ H Q I h
 refine wpAny_Call_Name_kw (zbf I hg hm hv ?_ hn hdb)
 exact PyProof.Rows.callWith_builtin1 (thn (ha pos zZ s σ H _ I h) fun us s1 ⟨vs,H1,I1,r1,q1⟩=>hc zZ s1 σ H1 vs us Q I1 r1 q1) he hpl
theorem zcW (hc:CallR X (.type T) r) (hg:Gl X x) (hm:X.mg x=none) (hv:bootBuiltins x=some (.type T)) (ha:PA X (e::es) t) (hn:x≠"__name__":=by decide) (hdb:(x == ("__debug__":Str))=false:=by decide)
  (he:starEach (e::es) X.env=(false,eval e X.env)::starEach es X.env:=by rfl) (hpl:(backTo pos (starEach es X.env)).any (·.1)=false:=by rfl):PE X (.Call (.Name x p) (e::es) [] pos) (tCB r t):=by
 intro zZ s σ H Q I h
 refine wpAny_Call_Name_kw (zbf I hg hm hv ?_ hn hdb)
 exact PyProof.Rows.callWith_type1 (thn (ha pos zZ s σ H _ I h) fun us s1 ⟨vs,H1,I1,r1,q1⟩=>hc zZ s1 σ H1 vs us Q I1 r1 q1) he hpl
end
section
variable {κ:Type} [DecidableEq κ]
def valV (z3:List (κ×V)) (k:κ):Option V:=(z3.find? fun kv=>decide (kv.1=k)).map (·.2)
def putK (z3:List (κ×V)) (k:κ) (v:V):List (κ×V):=
 if (z3.any fun kv=>decide (kv.1=k))=true then z3.map (fun kv=>if kv.1=k then (kv.1,v) else kv) else z3++[(k,v)]
theorem zbN {p:κ×V} {r:List (κ×V)} {k:κ} (e:p.1=k):valV (p::r) k=some p.2:=by simp [valV,find?_cons,e]
theorem zb3 {p:κ×V} {r:List (κ×V)} {k:κ} (e:¬ p.1=k):valV (p::r) k=valV r k:=by simp [valV,find?_cons,e]
theorem zgo (k:κ):∀ z3:List (κ×V),(z3.any fun kv=>decide (kv.1=k))=(valV z3 k).isSome
 | []=>rfl
 | p::r=>by
   rw [any_cons]
   by_cases e:p.1=k
   ·simp only [zbN e,qU e,Bool.true_or,isSome_some]
   ·rw [zb3 e,qV e,Bool.false_or]; exact zgo k r
theorem za9 (z3:List (κ×V)) (k:κ) (v:V):(putK z3 k v).length<=z3.length + 1:=by
 unfold putK
 grind
theorem RelO.isSome_eq (r:RelO o u):o.isSome=u.isSome:=by
 cases o with
 | none=>cases u with
   | none=>rfl
   | some _=>exact (show False from r).elim
 | some _=>cases u with
   | none=>exact (show False from r).elim
   | some _=>rfl
theorem KV.val {z3:List (κ×V)} {vs:List (κ×Value)} (r:KV z3 vs) (k:κ):RelO (valV z3 k) (valueAt vs k):=by
 unfold KV at r
 induction r with
 | nil=>exact True.intro
 | @cons p q ps qs h t ih=>
   obtain ⟨h1,h2⟩:=h
   by_cases e:p.1=k
   ·have e':q.1=k:=h1.symm.trans e
    have b:valueAt (q::qs) k=some q.2:=by simp [valueAt,find?_cons,e']
    rw [zbN e,b]; exact h2
   ·have e':¬ q.1=k:=fun z=>e (h1.trans z)
    have b:valueAt (q::qs) k=valueAt qs k:=by simp [valueAt,find?_cons,e']
    rw [zb3 e,b]; exact ih
theorem KV.any (r:KV z3 vs) (k:κ):(z3.any fun kv=>decide (kv.1=k))=vs.any fun kv=>decide (kv.1=k):=by
 unfold KV at r
 induction r with
 | nil=>rfl
 | cons h t ih=>rw [any_cons,any_cons,ih,h.1]
theorem KV.repl (r:KV z3 vs) (k:κ) (ry:zO y u):
  KV (z3.map fun kv=>if kv.1=k then (kv.1,y) else kv) (vs.map fun kv=>if kv.1=k then (kv.1,u) else kv):=by
 unfold KV at r ⊢
 induction r with
 | nil=>exact .nil
 | @cons p q ps qs h t ih=>
   rw [qB,qB]
   refine .cons ?_ ih
   grind
theorem KV.put (r:KV z3 vs) (k:κ) (ry:zO y u):KV (putK z3 k y) (stored vs k u):=by
 unfold putK stored
 rw [r.any k]
 by_cases e:(vs.any fun kv=>decide (kv.1=k))=true
 ·rw [zc e,zc e]; exact r.repl k ry
 ·rw [zi e,zi e]; exact Paired.snoc r ⟨rfl,ry⟩
theorem KV.length (r:KV z3 vs):z3.length=vs.length:=Paired.length r
end
theorem zgZ (r:zO (kV k) u):(mixKind P w).is k u=true:=by
 cases k with
 | inl i=>obtain ⟨t,e⟩:=(show ∃ t,u=Value.int i t from r); subst e; exact zfK P w i t
 | inr x=>obtain ⟨t,e⟩:=(show ∃ t,u=Value.str x t from r); subst e; exact zfC P w x t
theorem zes:∀ {ks:List Key} {us:List Value},zW (ks.map kV) us->ItemsAre (mixKind P w) ks us
 | [],_,r=>by rw [map_nil] at r; cases r; exact .nil
 | k::ks,_,r=>by
   rw [qB] at r
   cases r with
   | cons h t=>exact .cons (zgZ h) (zes t)
abbrev KT (H:Hp):List (List Key×V)->List (List Key×Addr×Value)->Prop:=Paired fun p q=>p.1=q.1/\H q.2.1=some (.tup (p.1.map kV))/\zO p.2 q.2.2
theorem KT.val {H:Hp} {z3:List (List Key×V)} {xs:List (List Key×Addr×Value)} (r:KT H z3 xs) (k:List Key):RelO (valV z3 k) ((atKey xs k).map (·.2)):=by
 induction r with
 | nil=>exact True.intro
 | @cons p q ps qs h t ih=>
   obtain ⟨h1,_,h2⟩:=h
   by_cases e:p.1=k
   ·have e':q.1=k:=h1.symm.trans e
    have b:atKey (q::qs) k=some q.2:=by simp [atKey,find?_cons,e']
    rw [zbN e,b]; exact h2
   ·have e':¬ q.1=k:=fun z=>e (h1.trans z)
    have b:atKey (q::qs) k=atKey qs k:=by simp [atKey,find?_cons,e']
    rw [zb3 e,b]; exact ih
theorem KT.repl (r:KT H z3 xs) (k:List Key) (ry:zO y u):
  KT H (z3.map fun kv=>if kv.1=k then (kv.1,y) else kv) (xs.map (putAt k u)):=by
 induction r with
 | nil=>exact .nil
 | @cons p q ps qs h t ih=>
   rw [qB,qB]
   refine .cons ?_ ih
   obtain ⟨h1,h2,h3⟩:=h
   unfold putAt
   by_cases e:p.1=k
   ·rw [zc e,zc (h1.symm.trans e)]; exact ⟨h1,h2,ry⟩
   ·rw [zi e,zi (fun z=>e (h1.trans z))]; exact ⟨h1,h2,h3⟩
theorem KT.put (r:KT H z3 xs) (k:List Key) (hb:H b=some (.tup (k.map kV))) (ry:zO y u):
  KT H (putK z3 k y) (storedH xs k b u):=by
 have e:(z3.any fun kv=>decide (kv.1=k))=(atKey xs k).isSome:=by
  rw [zgo,(r.val k).isSome_eq,isSome_map]
 unfold putK storedH
 rw [e]
 by_cases q:(atKey xs k).isSome=true
 ·rw [zc q,zc q]; exact r.repl k ry
 ·rw [zi q,zi q]; exact Paired.snoc r ⟨rfl,hb,ry⟩
theorem KT.keeps (r:KT H z3 xs) (ht:∀ b ys,H b=some (.tup ys)->H' b=some (.tup ys)):KT H' z3 xs:=
 Paired.mapP r fun _ _ z=>⟨z.1,ht _ _ z.2.1,z.2.2⟩
theorem zon (ok:HOk P w H h) (e:Rd H a u):zY P w H h a u:=e.ok ok
theorem zjd (ok:HOk P w H h) (e:Rd H a (.dK z3)):z3.length<=sizeLine/\(a == sysModules)=false/\∃ vs,KV z3 vs/\h.DictOf (mixKind P w) a vs:=
 show zY P w H h a (.dK z3) from zon ok e
theorem znr (ok:HOk P w H h) (e:H a=some (.dK z3)):z3.length<=sizeLine/\(a == sysModules)=false/\∃ vs,KV z3 vs/\h.DictOf (mixKind P w) a vs:=zjd ok (.inl e)
theorem zds (ok:HOk P w H h) (e:H a=some (.tup (ks.map kV))):(tupleKind (mixKind P w)).is h ks a:=by
 obtain ⟨_,z6,r,o,h1,h2,n,h3⟩:=(show zY P w H h a (.tup (ks.map kV)) from ok a _ e)
 exact ⟨o,z6.toArray,n,h1,h2,h3,by simpa using zes r⟩
theorem zgz (ok:HOk P w H h) (e:Rd H a (.dT z3)):z3.length<=sizeLine/\(a == sysModules)=false/\
  ∃ xs,KT H z3 xs/\h.DictOfH (tupleKind (mixKind P w)) a xs:=by
 obtain ⟨z,y,xs,r,o,es,ep,h1,h2,h3,h4,h5⟩:=(show zY P w H h a (.dT z3) from zon ok e)
 refine ⟨z,y,xs,r,o,es,ep,h1,h2,h3,h4,fun x hx=>?_,h5⟩
 have all:∀ {l:List (List Key×V)} {m:List (List Key×Addr×Value)},KT H l m->∀ x∈m,(tupleKind (mixKind P w)).is h x.1 x.2.1:=by
  intro l m q
  induction q with
  | nil=>intro x hx; exact nomatch hx
  | @cons p q ps qs hq t ih=>
    intro x hx
    rcases qD.mp hx with e | hx
    ·subst e
     exact zds ok (by rw [<- hq.1]; exact hq.2.1)
    ·exact ih x hx
 exact all r x hx
theorem znd (ok:HOk P w H h) (e:H a=some (.dT z3)):z3.length<=sizeLine/\(a == sysModules)=false/\
  ∃ xs,KT H z3 xs/\h.DictOfH (tupleKind (mixKind P w)) a xs:=zgz ok (.inl e)
def DGet (H:Hp) (a:Addr) (y:V) (r:Option V):Prop:=
 (∃ z3 k,Rd H a (.dK z3)/\y=kV k/\r=valV z3 k)\/∃ z3 k b,Rd H a (.dT z3)/\y=.ref b/\H b=some (.tup (k.map kV))/\r=valV z3 k
def DPut (H:Hp) (a:Addr) (y v:V) (H':Hp):Prop:=
 (∃ z3 k,H a=some (.dK z3)/\y=kV k/\z3.length < sizeLine/\H'=upd H a (.dK (putK z3 k v)))\/
 ∃ z3 k b,H a=some (.dT z3)/\y=.ref b/\H b=some (.tup (k.map kV))/\z3.length < sizeLine/\H'=upd H a (.dT (putK z3 k v))
theorem Inv.big (I:Inv X zZ σ H s):sysModules < s.heap.objs.size:=by
 have h:mainGlobals < s.heap.objs.size:=(I.mod.glob.keeps I.bk).lt
 exact lt_trans (by decide) h
theorem zio (hu:A.units + 1 < cLine) (I:Inv X zZ σ H s) (g:DGet H a y (some v)) (ry:zO y u) (h:∀ w' s',Inv X zZ σ H s'->zO v w'->Q w' s'):
  wpAny (model X.prog X.w) A (getItem (.ref a) u) Q E s:=by
 rcases g with ⟨z3,k,e,ey,l⟩ | ⟨z3,k,b,e,ey,eb,l⟩
 ·subst ey
  obtain ⟨z,hd,vs,z4,dd⟩:=zjd I.hok e
  obtain ⟨w',hw,rw'⟩:=RelO.some_of (v:=v) (o:=valueAt vs k) (by rw [l]; exact z4.val k)
  exact wpAny_getItem_of (zgZ ry) dd.mapOf hw (h w' _ (I.tok _) rw')
 ·subst ey
  cases (show u=Value.ref b from ry)
  obtain ⟨z,hd,xs,z4,dd⟩:=zgz I.hok e
  obtain ⟨w',hw,rw'⟩:=RelO.some_of (v:=v) (o:=(atKey xs k).map (·.2)) (by rw [l]; exact z4.val k)
  obtain ⟨p,hp,hp2⟩:=q8.mp hw
  refine wpAny_getItem_heap (tupleKind_room_in1 hu) (zds I.hok eb) dd hp ?_
  rw [hp2]
  exact h w' _ (I.tok _) rw'
theorem d_in (hu:A.units + 1 < cLine) (I:Inv X zZ σ H s) (g:DGet H a y o) (ry:zO y u) (h:∀ s',Inv X zZ σ H s'->Q (.bool o.isSome) s'):
  wpAny (model X.prog X.w) A (compareOp .In u (.ref a)) Q E s:=by
 rcases g with ⟨z3,k,e,ey,l⟩ | ⟨z3,k,b,e,ey,eb,l⟩
 ·subst ey
  obtain ⟨z,hd,vs,z4,dd⟩:=zjd I.hok e
  refine wpAny_in_of (zgZ ry) hd dd.mapOf ?_
  rw [<- (z4.val k).isSome_eq,<- l]
  exact h _ (I.tok _)
 ·subst ey
  cases (show u=Value.ref b from ry)
  obtain ⟨z,hd,xs,z4,dd⟩:=zgz I.hok e
  refine wpAny_in_heap (tupleKind_room_in1 hu) (zds I.hok eb) hd dd ?_
  have q:=(z4.val k).isSome_eq
  rw [isSome_map] at q
  rw [<- q,<- l]
  exact h _ (I.tok _)
theorem zmd (hu:A.units + 1 < cLine) (I:Inv X zZ σ H s) (g:DGet H a y o) (ry:zO y u) (h:∀ s',Inv X zZ σ H s'->Q (.bool (!o.isSome)) s'):
  wpAny (model X.prog X.w) A (compareOp .NotIn u (.ref a)) Q E s:=by
 rcases g with ⟨z3,k,e,ey,l⟩ | ⟨z3,k,b,e,ey,eb,l⟩
 ·subst ey
  obtain ⟨z,hd,vs,z4,dd⟩:=zjd I.hok e
  refine wpAny_notIn_of (zgZ ry) hd dd.mapOf ?_
  rw [<- (z4.val k).isSome_eq,<- l]
  exact h _ (I.tok _)
 ·subst ey
  cases (show u=Value.ref b from ry)
  obtain ⟨z,hd,xs,z4,dd⟩:=zgz I.hok e
  refine wpAny_notIn_heap (tupleKind_room_in1 hu) (zds I.hok eb) hd dd ?_
  have q:=(z4.val k).isSome_eq
  rw [isSome_map] at q
  rw [<- q,<- l]
  exact h _ (I.tok _)
theorem zec (I:Inv X zZ σ H s) (mu:Mut (H a)) (hs:Heap.SameBut a s.heap h') (he:∃ q,h'.get? a=some q) (new:zY X.prog X.w (upd H a ob) h' a ob):
  Inv X zZ σ (upd H a ob) { s with heap:=h',toks:=t' }:=
 I.write (x:=a) (e:=a) mu (.inl rfl) (fun b q hb z=>(hs.2 b hb).trans z) he new
theorem zkZ (z:z3.length<=sizeLine) (hd:(a == sysModules)=false) (z4:KV z3 vs) (dd:h'.DictOf (mixKind P w) a vs):
  zY P w H' h' a (.dK z3):=⟨z,hd,vs,z4,dd⟩
theorem zjk (hu:A.units + 1 < cLine) (I:Inv X zZ σ H s) (g:DPut H a y v H') (ry:zO y u) (rv:zO v r) (h:∀ s',Inv X zZ σ H' s'->Q () s'):
  wpAny (model X.prog X.w) A (setItem (.ref a) u r) Q E s:=by
 rcases g with ⟨z3,k,e,ey,l,eH⟩ | ⟨z3,k,b,e,ey,eb,l,eH⟩
 ·subst ey eH
  obtain ⟨z,hd,vs,z4,dd⟩:=znr I.hok e
  have hz:vs.length<=sizeLine:=by rw [<- z4.length]; exact z
  have hl:(putK z3 k v).length<=sizeLine:=by have:=za9 z3 k v; lia
  refine wpAny_setItem_pairs (hsz:=hz) (zgZ ry) dd fun h' dd' hs=>h _ ?_
  have he:∃ q,h'.get? a=some q:=let ⟨q,_,_,hq,_⟩:=dd'; ⟨q,hq⟩
  exact zec I (by rw [e]; exact True.intro) hs he (zkZ hl hd (z4.put k rv) dd')
 ·subst ey eH
  cases (show u=Value.ref b from ry)
  obtain ⟨z,hd,xs,z4,dd⟩:=znd I.hok e
  have hz:xs.length<=sizeLine:=by rw [<- Paired.length z4]; exact z
  have hl:(putK z3 k v).length<=sizeLine:=by have:=za9 z3 k v; lia
  refine wpAny_setItem_heap (hsz:=hz) (tupleKind_room_in1 hu) (zds I.hok eb) dd fun h' dd' hs=>h _ ?_
  obtain ⟨q,es,ep,hq,h2,h3,h4,_,h5⟩:=dd'
  refine zec I (by rw [e]; exact True.intro) hs ⟨q,hq⟩ ⟨hl,hd,_,(z4.put k eb rv).keeps fun c ys ec=>?_,q,es,ep,hq,h2,h3,h4,h5⟩
  rw [zag (znM ec e (fun z=>nomatch z))]
  exact ec
theorem zft (I:Inv X zZ σ H s) (g:DGet H a y o):s.TypeIs (.ref a) "dict":=by
 rcases g with ⟨z3,k,e,_,_⟩ | ⟨z3,k,b,e,_,_,_⟩
 ·obtain ⟨_,_,vs,_,dd⟩:=zjd I.hok e
  exact dd.typeIs
 ·obtain ⟨_,_,xs,_,dd⟩:=zgz I.hok e
  exact dd.typeIs
def sDPut (td ty tv:TE):TS:=fun D σ H=>tv σ H fun v H1=>td σ H1 fun x H2=>ty σ H2 fun y H3=>∃ a H4,x=.ref a/\DPut H3 a y v H4/\D.nx σ H4
theorem zmu (hu:X.A.units + 1 < cLine) (ho:PE X o td) (hi:PE X i ty) (hv:PE X value tv) (hs:swapsWith value (some (.Subscript o i pos')) pos.line X.env=pure false):
  PS X (.Assign [.Subscript o i pos'] value pos) (sDPut td ty tv):=by
 intro zZ s σ H D I h
 refine wpAny_Assign_Subscript (thn (hv zZ s σ H _ I h) fun r s1 ⟨v,H1,I1,rv,q1⟩=>thn (ho zZ s1 σ H1 _ I1 q1) fun u s2 ⟨x,H2,I2,rx,q2⟩=>thn (hi zZ s2 σ H2 _ I2 q2) fun iv s3 zq=>?_) hs
 obtain ⟨y,H3,I3,ry,a,H4,ex,g,q3⟩:=zq
 subst ex
 obtain rfl:u=Value.ref a:=rx
 exact zjk hu I3 g ry rv fun s4 I4=>⟨σ,H4,I4,q3⟩
theorem zjG (h:Heap) (hb:sysModules < h.objs.size):zY P w H (h.push { cls:=.type "dict",data:=.dict #[] }) h.objs.size (.dT []):=
 ⟨zero_le _,beq_eq_false_iff_ne.mpr (Ne.symm (ne_of_lt hb)),[],.nil,_,#[],0,qd _ rfl,⟨rfl,rfl,rfl⟩,rfl,rfl,List.nodup_nil⟩
end L2
namespace HT
open PySem PyProof.Rows
def lexLt:List Int->List Int->Bool
 | [],[]=>false
 | [],_::_=>true
 | _::_,[]=>false
 | x::xs,y::ys=>if x=y then lexLt xs ys else decide (x < y)
def zaF (x y:Int) (xs ys:List Int):lexLt (x::xs) (y::ys)=if x=y then lexLt xs ys else decide (x < y):=rfl
theorem rcLt_int (A:Around) (s:Shared) (a:Int) (t:Tok) (c:Int) (u:Tok) (prog:Program) (w:World) (E:zz) (Q:zz) (h:Q (.bool (decide (a < c))) s):
  wpAny (model prog w) A (richCompare .Lt (.int a t) (.int c u)) Q E s:=
 (PyProof.Rows.lt_int h:wpAny (model prog w) A (compareOp .Lt (.int a t) (.int c u)) Q E s)
theorem cat_tup (ht:IsTup s.heap t vs.toArray) (hb:IsTup s.heap b ws.toArray) (hv:vs≠[])
  (h1:ws=[]->Q (.ref t) s) (h2:ws≠[]->Q (.ref s.heap.objs.size) { s with heap:=s.heap.push { cls:=.type "tuple",data:=.seq (vs++ws).toArray } })
  (hsz:vs.length + ws.length<=sizeLine):wpAny (model prog w) A (binaryOp .Add (.ref t) (.ref b)) Q E s:=by
 obtain ⟨⟨cls,dd,data,sl⟩,ho,hc,n,hd⟩:=id ht
 obtain ⟨⟨cls2,dd2,data2,sl2⟩,ho2,hc2,n2,hd2⟩:=id hb
 simp only at hc hd hc2 hd2
 subst hc hd hc2 hd2
 have e:vs.toArray++ws.toArray=(vs++ws).toArray:=by simp
 by_cases hw:ws=[]
 ·exact concat_meets ⟨_,ho,rfl⟩ ⟨_,ho2,rfl⟩ noFill_tuple_add seq_tuple_add PySem.F.slot_tuple_add PySem.F.entry_tuple_add (PySem.F.args_tuple_add_2 _ _)
   (tuple_addW1 t b vs.toArray ws.toArray n n2 dd dd2 sl sl2 (by simpa using hv) (by simp [hw])) ⟨ho,ho2,h1 hw⟩
 ·refine concat_meets ⟨_,ho,rfl⟩ ⟨_,ho2,rfl⟩ noFill_tuple_add seq_tuple_add PySem.F.slot_tuple_add PySem.F.entry_tuple_add (PySem.F.args_tuple_add_2 _ _)
   (tuple_addW2 t b vs.toArray ws.toArray n n2 dd dd2 sl sl2 (by simpa using hv) (by simpa using hw) (by rw [qu,qu]; exact hsz)) ⟨ho,ho2,?_⟩
  rw [e]
  exact h2 hw
def sIx (n d:Nat):Option Int->Nat
 | none=>d
 | some v=>if v < 0 then (v + (n:Int)).toNat else min v.toNat n
theorem sIx_le (n d:Nat) (hd:d<=n) (o:Option Int):sIx n d o<=n:=by
 cases o with
 | none=>exact hd
 | some v=>
   show (if v < 0 then (v + (n:Int)).toNat else min v.toNat n)<=n
   by_cases hv:v < 0
   ·rw [zc hv]; lia
   ·rw [zi hv]; exact min_le_right _ _
theorem ziD (v:Int) (n d:Nat):(if v < 0 then max (v + (n:Int)) 0 else min v (n:Int))=((sIx n d (some v):Nat):Int):=by
 show (if v < 0 then max (v + (n:Int)) 0 else min v (n:Int))=(((if v < 0 then (v + (n:Int)).toNat else min v.toNat n):Nat):Int)
 grind
theorem zg6 (lo hi:Option Int) (n:Nat):Builtin.Slice.sliceAdjust lo hi 1 (n:Int)=(((sIx n 0 lo:Nat):Int),((sIx n n hi:Nat):Int)):=by
 have h1:¬ ((1:Int) < 0):=by lia
 unfold Builtin.Slice.sliceAdjust
 simp only [h1,if_false]
 refine Prod.ext ?_ ?_
 ·cases lo with
  | none=>rfl
  | some v=>exact ziD v n 0
 ·cases hi with
  | none=>rfl
  | some v=>exact ziD v n n
theorem zgM (i j:Nat):Builtin.Slice.slicePlaces (i:Int) (j:Int) 1=j - i:=by
 unfold Builtin.Slice.slicePlaces
 have h1:(1:Int) > 0:=by lia
 simp only [h1,if_true,Int.ediv_one]
 split <;> lia
theorem zdl (p:IsPart v o) (h:Q o s):wpAny (model prog w) A (Builtin.Slice.slicePartIndex v) Q E s:=by
 cases p with
 | none=>exact slicePart_none h
 | int i t=>exact slicePart_int h
theorem sliceApplied_gen {lo hi:Option Int} {n:Nat} (hs:s.heap.IsSliceOf sl vl vu .none) (pl:IsPart vl lo) (pu:IsPart vu hi)
  (h:Q (((sIx n 0 lo:Nat):Int),1,sIx n n hi - sIx n 0 lo) s):wpAny (model prog w) A (Builtin.Slice.sliceApplied (.ref sl) (pure (n:Int))) Q E s:=by
 obtain ⟨os,hos,hcs,hds⟩:=id hs
 unfold Builtin.Slice.sliceApplied Builtin.Slice.sliceFields
 refine qa (qa (zo hos hds (x:=vl) rfl (qa (zo hos hds (x:=vu) rfl (qa (zo hos hds (x:=.none) rfl (qb ?_)))))))
 refine qa (slicePart_none ?_)
 show wpAny _ _ (if ((1:Int) == 0)=true then _ else _) _ _ s
 rw [zi (by decide)]
 refine qa (zdl pl (qa (zdl pu (qa (qb ?_)))))
 show wpAny _ _ (match Builtin.Slice.sliceAdjust lo hi 1 (n:Int) with | (lo,hi)=>pure (lo,(1:Int),Builtin.Slice.slicePlaces lo hi 1)) _ _ s
 rw [zg6 lo hi n]
 show wpAny _ _ (pure (((sIx n 0 lo:Nat):Int),(1:Int),Builtin.Slice.slicePlaces ((sIx n 0 lo:Nat):Int) ((sIx n n hi:Nat):Int) 1)) _ _ s
 rw [zgM]
 exact qb h
theorem zkK (xs:Array Value) (i k:Nat):((List.range k).filterMap fun (m:Nat)=>xs[((i:Int) + (m:Int) * 1).toNat]?).toArray=((xs.toList.drop i).take k).toArray:=by
 have e:(fun (m:Nat)=>xs[((i:Int) + (m:Int) * 1).toNat]?)=fun m=>xs[i + m]?:=by
  funext m
  have:((i:Int) + (m:Int) * 1).toNat=i + m:=by lia
  rw [this]
 rw [e]
 have:=pick_run xs i k
 rw [List.filterMap_map] at this
 have e2:((fun x=>xs[x]?) ∘ fun x=>i + x)=fun m=>xs[i + m]?:=rfl
 rw [e2] at this
 rw [this]
theorem getItem_tuple_cut {lo hi:Option Int} (ht:IsTup s.heap t items) (hs:s.heap.IsSliceOf sl vl vu .none) (pl:IsPart vl lo) (pu:IsPart vu hi)
  (hw:¬ (sIx items.size 0 lo=0/\sIx items.size items.size hi=items.size))
  (h:Q (.ref s.heap.objs.size) { s with heap:=s.heap.push { cls:=.type "tuple",data:=.seq ((items.toList.drop (sIx items.size 0 lo)).take (sIx items.size items.size hi - sIx items.size 0 lo)).toArray } })
  (hsz:items.size<=sizeLine):wpAny (model prog w) A (getItem (.ref t) (.ref sl)) Q E s:=by
 have htake:sizeOk (.seq ((items.toList.drop (sIx items.size 0 lo)).take (sIx items.size items.size hi - sIx items.size 0 lo)).toArray):=by
  show ((items.toList.drop (sIx items.size 0 lo)).take (sIx items.size items.size hi - sIx items.size 0 lo)).toArray.size<=sizeLine
  rw [qu,qK,qJ]
  exact le_trans (min_le_right ..) (le_trans (sub_le ..) hsz)
 have hj:sIx items.size items.size hi<=items.size:=sIx_le _ _ (zj _) hi
 obtain ⟨os,hos,hcs,hds⟩:=id hs
 have hTs:s.TypeIs (.ref sl) "slice":=⟨os,hos,hcs⟩
 unfold getItem
 try with_reducible refine zv ?_
 first | refine qa (qb ?_) | skip
 refine qa (wpAny_sequenceKey ht.typeIs (by decide) ?_)
 refine qa (wpAny_callSpecial?_slot (name:=Str.ofString "__getitem__") ht.typeIs PyProof.Rows.slot_tuple_getitem
  (zr PyProof.Rows.slot_tuple_getitem ht.typeIs entry_tuple_getitem ?_ (args_tuple_getitem _ _)))
 show wpAny _ _ (Builtin.Tuple.tupleItemsOf (.ref t) >>= _) _ _ s
 refine qa (tupleItemsOf_ ht ?_)
 refine qa (wpAny_typeOf hTs ?_)
 rw [zc (by decide)]
 refine qa (sliceApplied_gen hs pl pu ?_)
 have hno:¬ ((((sIx items.size 0 lo:Nat):Int) == 0 && (1:Int) == 1 && (sIx items.size items.size hi - sIx items.size 0 lo) == items.size)=true):=by
  grind
 show wpAny _ _ (if (((sIx items.size 0 lo:Nat):Int) == 0 && (1:Int) == 1 && (sIx items.size items.size hi - sIx items.size 0 lo) == items.size)=true then _ else _) _ _ s
 rw [zi hno,zkK]
 first
  | exact qa (m:=Builtin.Tuple.tupleExact _) (zp (qb ⟨_,rfl,qb h⟩) htake)
  | exact qa (m:=Builtin.Tuple.tupleExact _) (zp (qa (qb (qb ⟨_,rfl,qb h⟩))) htake)
  | exact qa (qa (m:=Builtin.Tuple.tupleExact _) (zp (qb (qb ⟨_,rfl,qb h⟩)) htake))
  | exact qa (qa (m:=Builtin.Tuple.tupleExact _) (zp (qb ⟨_,rfl,qb h⟩) htake))
end HT
namespace L2
open PySem PySem.Spec PyProof.Rows
abbrev TO:=St->Hp->(Option Int->Hp->Prop)->Prop
def PO (X:Cx) (e:Option Expr) (t:TO):Prop:=
 ∀ (zZ:List (Addr×Obj)) (s:Shared) (σ:St) (H:Hp) (Q:Option Int->Hp->Prop),Inv X zZ σ H s->t σ H Q->
   wpAny (model X.prog X.w) X.A (evalPart e X.env) (fun u s'=>∃ o H',Inv X zZ σ H' s'/\IsPart u o/\Q o H') X.xe s
def tNoPart:TO:=fun _ H Q=>Q none H
def tPart (t:TE):TO:=fun σ H Q=>t σ H fun x H1=>∃ i,x=.int i/\Q (some i) H1
theorem zaZ:∀ {us:List Value},zW (ns.map V.int) us->IntsAre us ns:=by
 induction ns with
 | nil=>intro us r; rw [map_nil] at r; cases r; exact .nil
 | cons n ns ih=>
   intro us r
   rw [qB] at r
   cases r with
   | cons r1 r2=>
     obtain ⟨t,e⟩:=r1
     subst e
     exact .cons n t (ih r2)
section
variable {lo hi:Option Expr}
theorem zha:PO X none tNoPart:=by
 intro zZ s σ H Q I h
 rw [evalPart_none]
 exact qb ⟨none,H,I,.none,h⟩
theorem zdC (h:PE X e te):PO X (some e) (tPart te):=by
 intro zZ s σ H Q I hw
 rw [evalPart_some]
 refine thn (h zZ s σ H _ I hw) fun u s1 zq=>?_
 obtain ⟨x,H1,I1,r1,q1⟩:=zq
 obtain ⟨i,rfl,q⟩:=q1
 obtain ⟨t,rfl⟩:=r1
 exact ⟨some i,H1,I1,.int i t,q⟩
def SlR (X:Cx) (r:V->Option Int->Option Int->Hp->VK->Prop):Prop:=
 ∀ (zZ:List (Addr×Obj)) (s:Shared) (σ:St) (H:Hp) (x:V) (v vl vu:Value) (lo hi:Option Int) (sl:Addr) (Q:VK),Inv X zZ σ H s->zO x v->s.heap.IsSliceOf sl vl vu .none->IsPart vl lo->IsPart vu hi->r x lo hi H Q->
   ∃ T id,typeLookup (.type T) "__getitem__"=pure (some (.builtin id))/\s.TypeIs v T/\wpAny (model X.prog X.w) X.A (getItem v (.ref sl)) (EP X zZ σ Q) X.xe s
theorem SlR.or (h:SlR X r) (h':SlR X r'):SlR X (fun x lo hi H Q=>r x lo hi H Q\/r' x lo hi H Q):=by
 intro zZ s σ H x v vl vu lo hi sl Q I rx hs pl pu q
 rcases q with q | q
 ·exact h zZ s σ H x v vl vu lo hi sl Q I rx hs pl pu q
 ·exact h' zZ s σ H x v vl vu lo hi sl Q I rx hs pl pu q
def tSl (r:V->Option Int->Option Int->Hp->VK->Prop) (te:TE) (tl th:TO):TE:=fun σ H Q=>te σ H fun x H1=>tl σ H1 fun l H2=>th σ H2 fun u H3=>r x l u H3 Q
theorem zdK (hr:SlR X r) (he:PE X e te) (hl:PO X lo tl) (hu:PO X hi th):PE X (.Subscript e (.Slice lo hi none p2) pos) (tSl r te tl th):=by
 intro zZ s σ H Q I h
 refine Subscript_ (thn (he zZ s σ H _ I h) fun v s1 zq=>?_)
 obtain ⟨x,H1,I1,r1,q1⟩:=zq
 refine wpAny_Slice (thn (hl zZ s1 σ H1 _ I1 q1) fun vl s2 ⟨l,H2,I2,pl,q2⟩=>thn (hu zZ s2 σ H2 _ I2 q2) fun vu s3 zq=>?_)
 obtain ⟨u,H3,I3,pu,q3⟩:=zq
 rw [evalPart_none]
 refine qb ?_
 have I4:Inv X zZ σ H3 { s3 with heap:=s3.heap.push { cls:=.type "slice",data:=.fields #[vl,vu,.none] } }:=I3.kept (t':=s3.toks) fun b ob q=>qc _ q
 obtain ⟨T,id,hT,ht,hg⟩:=hr zZ { s3 with heap:=s3.heap.push { cls:=.type "slice",data:=.fields #[vl,vu,.none] } } σ H3 x v vl vu l u s3.heap.objs.size Q I4 r1 (Heap.IsSliceOf.new ..) pl pu q3
 show wpAny (model X.prog X.w) X.A (subscriptTail e (.Slice lo hi none p2) v (.ref s3.heap.objs.size)) (EP X zZ σ Q) X.xe { s3 with heap:=s3.heap.push { cls:=.type "slice",data:=.fields #[vl,vu,.none] } }
 exact tail_any (ops:=[.ref s3.heap.objs.size,v]) ht hT hg (by with_unfolding_all rfl)
def cutV (xs:List V) (lo hi:Option Int):List V:=(xs.drop (HT.sIx xs.length 0 lo)).take (HT.sIx xs.length xs.length hi - HT.sIx xs.length 0 lo)
theorem zc6 (xs:List V) (lo hi:Option Int):(cutV xs lo hi).length<=xs.length:=by
 unfold cutV
 rw [qK,qJ]
 exact le_trans (min_le_right ..) (sub_le ..)
def rSlT (K:W.Frag):V->Option Int->Option Int->Hp->VK->Prop:=fun x lo hi H Q=>∃ a xs,x=.ref a/\SqT K H a xs/\
 ¬ (HT.sIx xs.length 0 lo=0/\HT.sIx xs.length xs.length hi=xs.length)/\∀ p,H p=none->Q (.ref p) (upd H p (.tup (cutV xs lo hi)))
theorem zpw:SlR X (rSlT X.K):=by
 intro zZ s σ H x v vl vu lo hi sl Q I rx hs pl pu h
 obtain ⟨a,xs,rfl,hx,hw,q⟩:=h
 cases rx
 obtain ⟨z6,r,ht,hz⟩:=I.tuple hx
 have z5:z6.toArray.size=xs.length:=by rw [qu]; exact r.length.symm
 refine ⟨"tuple",_,PyProof.Rows.slot_tuple_getitem.lookup,ht.typeIs,?_⟩
 refine HT.getItem_tuple_cut ht hs pl pu (by rw [z5]; exact hw) ?_ (by rw [z5]; exact hz)
 rw [z5]
 refine ⟨.ref s.heap.objs.size,_,I.laid (t':=s.toks) (o:=.tup (cutV xs lo hi)) (fun b ob q=>qc _ q) (zj _) ?_,rfl,q _ (I.hok.fresh (zj _))⟩
 exact ⟨⟨le_trans (zc6 xs lo hi) hz,NoDc.new rfl (qd _ rfl)⟩,_,(r.drop (HT.sIx xs.length 0 lo)).take (HT.sIx xs.length xs.length hi - HT.sIx xs.length 0 lo),IsTup.new _ _⟩
def rCatT (K:W.Frag):R2:=fun x y H Q=>∃ a b xs ys,x=.ref a/\y=.ref b/\SqT K H a xs/\SqT K H b ys/\xs≠[]/\xs.length + ys.length<=sizeLine/\
 (ys=[]->Q (.ref a) H)/\(ys≠[]->∀ p,H p=none->Q (.ref p) (upd H p (.tup (xs++ys))))
theorem zW.nil_iff (r:zW xs us):us=[]↔xs=[]:=by
 cases r with
 | nil=>simp
 | cons _ _=>simp
theorem zml:OpR X (binaryOp .Add) (rCatT X.K):=by
 intro zZ s σ H x y v u Q I rx ry h
 obtain ⟨a,b,xs,ys,rfl,rfl,ha,hb,hx,hz,q1,q2⟩:=h
 cases rx
 cases ry
 obtain ⟨z6,r1,p1,_⟩:=I.tuple ha
 obtain ⟨its2,r2,p2,_⟩:=I.tuple hb
 refine HT.cat_tup p1 p2 (fun z=>hx (r1.nil_iff.mp z)) (fun z=>⟨.ref a,H,I,rfl,q1 (r2.nil_iff.mp z)⟩) (fun z=>?_) (by rw [<- r1.length,<- r2.length]; exact hz)
 refine ⟨.ref s.heap.objs.size,_,I.laid (t':=s.toks) (o:=.tup (xs++ys)) (fun b ob q=>qc _ q) (zj _) ?_,rfl,q2 (fun w=>z (r2.nil_iff.mpr w)) _ (I.hok.fresh (zj _))⟩
 exact ⟨⟨by rw [qt]; exact hz,NoDc.new rfl (qd _ rfl)⟩,_,r1.append r2,IsTup.new _ _⟩
end
def ixN (n:Nat) (i:Int):Option Nat:=if 0<=i then (if i < n then some i.toNat else none) else if -(n:Int)<=i then some (i + n).toNat else none
def atI {α:Type} (xs:List α) (i:Int):Option α:=(ixN xs.length i).bind fun j=>xs[j]?
theorem zfi (h:ixN n i=some j):seqIndex? i n=some j/\j < n/\-(n:Int)<=i/\i < n:=by
 unfold ixN at h
 by_cases h0:0<=i
 ·rw [zc h0] at h
  by_cases h1:i < n
  ·rw [zc h1] at h
   have e:i.toNat=j:=qh h
   exact ⟨by rw [seqIndex_of h0 h1,e],by lia,by lia,h1⟩
  ·rw [zi h1] at h; cases h
 ·rw [zi h0] at h
  by_cases h1:-(n:Int)<=i
  ·rw [zc h1] at h
   have e:(i + n).toNat=j:=qh h
   exact ⟨by rw [seqIndex_neg (by lia) h1,e],by lia,h1,by lia⟩
  ·rw [zi h1] at h; cases h
theorem zfq (h:atI xs i=some v):∃ j,seqIndex? i xs.length=some j/\xs[j]?=some v/\j < xs.length/\-(xs.length:Int)<=i/\i < xs.length:=by
 unfold atI at h
 cases e:ixN xs.length i with
 | none=>rw [e] at h; cases h
 | some j=>
   rw [e] at h
   obtain ⟨h1,h2,h3,h4⟩:=zfi e
   exact ⟨j,h1,h,h2,h3,h4⟩
theorem zfR (xs:List α) (v:α):atI (xs++[v]) (-1)=some v:=by
 have hl:(xs++[v]).length=xs.length + 1:=by simp
 have e:ixN (xs++[v]).length (-1)=some xs.length:=by
  unfold ixN
  rw [hl,zi (by decide),zc (by lia)]
  congr 1
  lia
 unfold atI
 rw [e]
 show (xs++[v])[xs.length]?=some v
 simp
def PlainIx (b:Expr):Prop:=∀ o i,subscripted b false o i=operate [o,i] (getItem o i)
def IxR (X:Cx) (r:R2):Prop:=
 ∀ (value slice:Expr) (zZ:List (Addr×Obj)) (s:Shared) (σ:St) (H:Hp) (x y:V) (v u:Value) (Q:VK),Inv X zZ σ H s->zO x v->zO y u->r x y H Q->
   subscripted slice false v u=operate [v,u] (getItem v u)->wpAny (model X.prog X.w) X.A (subscriptTail value slice v u) (EP X zZ σ Q) X.xe s
def MtR (X:Cx) (id:String) (r:V->List V->Hp->VK->Prop):Prop:=
 ∀ (zZ:List (Addr×Obj)) (s:Shared) (σ:St) (H:Hp) (x:V) (xs:List V) (v:Value) (us:List Value) (Q:VK),Inv X zZ σ H s->zO x v->zW xs us->r x xs H Q->
   wpAny (model X.prog X.w) X.A (call (.builtin id) (v::us)) (EP X zZ σ Q) X.xe s
section
theorem IxR.or (h:IxR X r) (h':IxR X r'):IxR X (fun x y H Q=>r x y H Q\/r' x y H Q):=by
 intro value slice zZ s σ H x y v u Q I rx ry q hs
 rcases q with q | q
 ·exact h value slice zZ s σ H x y v u Q I rx ry q hs
 ·exact h' value slice zZ s σ H x y v u Q I rx ry q hs
theorem zk7 (hr:IxR X r) (ha:PE X a ta) (hb:PE X b tb) (hs:PlainIx b):PE X (.Subscript a b pos) (tOp r ta tb):=by
 intro zZ s σ H Q I h
 exact Subscript_ (binT ha hb I h fun v u s2 x y H2 I2 rx ry q=>hr a b zZ s2 σ H2 x y v u Q I2 rx ry q (hs _ _))
def rIxL (K:W.Frag):R2:=fun x y H Q=>∃ p xs i v,x=.ref p/\y=.int i/\SqL K H p xs/\atI xs i=some v/\Q v H
def rIxT (K:W.Frag):R2:=fun x y H Q=>∃ p xs i v,x=.ref p/\y=.int i/\SqT K H p xs/\atI xs i=some v/\Q v H
def rIxS:R2:=fun x y H Q=>∃ z i c,x=.str z/\y=.int i/\z.length<=sizeLine/\atI z.cps.toList i=some c/\Q (.str ⟨#[c]⟩) H
theorem zmg:IxR X (rIxL X.K):=by
 intro value slice zZ s σ H x y v u Q I rx ry h hs
 obtain ⟨p,xs,i,z,rfl,rfl,hq,he,q⟩:=h
 cases rx
 obtain ⟨t,rfl⟩:=ry
 obtain ⟨z6,r,pl,hz⟩:=I.list hq
 obtain ⟨j,h1,h2,h3,h4,h5⟩:=zfq he
 obtain ⟨w,ew,rw'⟩:=r.get h2
 have hl:=r.length
 have hn:=line63
 have fin:EP X zZ σ Q w s:=⟨z,H,I,rw',q⟩
 by_cases h0:0<=i
 ·have hj:i.toNat=j:=by
   rw [seqIndex_of h0 h5] at h1
   exact qh h1
  exact item_listR pl.isList h0 (by lia) (by rw [hj]; simpa using ew) fin hs
 ·have hj:(i + (z6.toArray.size:Int)).toNat=j:=by
   rw [seqIndex_neg (by lia) h4] at h1
   rw [qu,<- hl]
   exact qh h1
  exact subscriptTail_builtinR (x:=w) pl.isList.typeIs slot_list_getitem.lookup
   (wpAny_getItem_list_neg (Q:=fun r s'=>r=w/\EP X zZ σ Q r s') pl.isList (by lia) (by rw [qu] <;> lia) (by lia) (by rw [hj]; simpa using ew) ⟨rfl,fin⟩) hs
theorem znZ:IxR X (rIxT X.K):=by
 intro value slice zZ s σ H x y v u Q I rx ry h hs
 obtain ⟨p,xs,i,z,rfl,rfl,hq,he,q⟩:=h
 cases rx
 obtain ⟨t,rfl⟩:=ry
 obtain ⟨z6,r,pl,hz⟩:=I.tuple hq
 obtain ⟨j,h1,h2,h3,h4,h5⟩:=zfq he
 obtain ⟨w,ew,rw'⟩:=r.get h2
 have hl:=r.length
 have hn:=line63
 have fin:EP X zZ σ Q w s:=⟨z,H,I,rw',q⟩
 exact subscriptTail_builtinR (x:=w) pl.typeIs slot_tuple_getitem.lookup
  (getItem_tuple (j:=j) (Q:=fun r s'=>r=w/\EP X zZ σ Q r s') pl (by lia) (by lia) (by rw [qu,<- hl]; exact h1) (by simpa using ew) ⟨rfl,fin⟩) hs
theorem znN:IxR X rIxS:=by
 intro value slice zZ s σ H x y v u Q I rx ry h hs
 obtain ⟨z,i,c,rfl,rfl,hz,he,q⟩:=h
 obtain ⟨t,rfl⟩:=rx
 obtain ⟨t',rfl⟩:=ry
 obtain ⟨j,h1,h2,h3,h4,h5⟩:=zfq he
 have hl:z.cps.toList.length=z.length:=by simp [Str.length]
 rw [hl] at h1 h4 h5
 have hn:=line63
 exact tail_any (typeIs_str s z t) slot_str_getitem.lookup (getItem_str (c:=c) (by
  have e1:decide (i < -(2 ^ 63:Int))=false:=qV (by lia)
  have e2:decide (i ≥ 2 ^ 63)=false:=qV (by lia)
  rw [e1,e2,Bool.or_false]) (by rw [h1]; simpa using h2) ⟨.str ⟨#[c]⟩,H,I.tok _,⟨_,rfl⟩,q⟩) hs
def rIx (K:W.Frag):R2:=fun x y H Q=>rIxL K x y H Q\/rIxT K x y H Q\/rIxS x y H Q
theorem zkV:IxR X (rIx X.K):=zmg.or (znZ.or znN)
theorem zg5 (z6:List Value) (n j:Nat) (u:Value):Obj.mapSeq (·.setIfInBounds j u) { cls:=.type "list",data:=.seq z6.toArray n }={ cls:=.type "list",data:=.seq (z6.set j u).toArray n }:=by
 simp [Obj.mapSeq]
theorem Inv.lst (I:Inv X zZ σ H s) (h:H p=some (.lst xs)):
  ∃ (z6:List Value) (n:Nat),zW xs z6/\s.heap.get? p=some { cls:=.type "list",data:=.seq z6.toArray n }/\xs.length<=sizeLine:=by
 obtain ⟨z,z6,n,r,e⟩:=I.hok p _ h
 exact ⟨z6,n,r,e,z⟩
theorem Inv.lstUpd {z6 its':List Value} (I:Inv X zZ σ H s) (h:H p=some (.lst xs))
  (ho:s.heap.get? p=some { cls:=.type "list",data:=.seq z6.toArray n }) (hf:f { cls:=.type "list",data:=.seq z6.toArray n }={ cls:=.type "list",data:=.seq its'.toArray n' }) (r:zW ys its') (hz:ys.length<=sizeLine) (t:Nat):
  Inv X zZ σ (upd H p (.lst ys)) { s with heap:=s.heap.update p f,toks:=t }:=by
 have e:(s.heap.update p f).get? p=some { cls:=.type "list",data:=.seq its'.toArray n' }:=by
  rw [zm f ho (by rw [hf] <;> rfl),hf]
 refine I.write (x:=p) (e:=p) (by rw [h]; trivial) (.inl rfl) (fun b u hb q=>(zk _ _ (Ne.symm hb)).trans q) ⟨_,e⟩ ?_
 exact ⟨hz,its',n',r,e⟩
def rSetL:V->V->V->Hp->(Hp->Prop)->Prop:=fun o i v H Q=>∃ p xs k j,o=.ref p/\i=.int k/\H p=some (.lst xs)/\ixN xs.length k=some j/\Q (upd H p (.lst (xs.set j v)))
theorem zjr:PSet X rSetL:=by
 intro zZ s σ H o i v ov iv u Q I ro ri rv h
 obtain ⟨p,xs,k,j,rfl,rfl,hp,hj,q⟩:=h
 cases ro
 obtain ⟨t,rfl⟩:=ri
 obtain ⟨z6,n,r,ho,hz⟩:=I.lst hp
 obtain ⟨h1,h2,h3,h4⟩:=zfi hj
 have hl:=r.length
 have hn:=line63
 have I':Inv X zZ σ (upd H p (.lst (xs.set j v))) { s with heap:=s.heap.update p (Obj.mapSeq (·.setIfInBounds j u)) }:=
  I.lstUpd hp ho (zg5 z6 n j u) (r.set rv j) (by rw [List.length_set]; exact hz) s.toks
 by_cases h0:0<=k
 ·have hk:k.toNat=j:=by
   rw [seqIndex_of h0 h4] at h1
   exact qh h1
  exact W.ki_setAt ho h0 (by lia) (by rw [qu,<- hl]; exact h4) (by rw [hk]; exact ⟨_,I',q⟩)
 ·have hk:(k + (z6.toArray.size:Int)).toNat=j:=by
   rw [seqIndex_neg (by lia) h3] at h1
   rw [qu,<- hl]
   exact qh h1
  exact W.ki_setBack ho (by lia) (by rw [qu,<- hl]; exact h3) (by lia) (by rw [hk]; exact ⟨_,I',q⟩)
theorem zer (lo hi:Option Int) (n:Nat):(sliceBounds lo hi none n).1=((HT.sIx n 0 lo:Nat):Int)/\(sliceBounds lo hi none n).2.1=((HT.sIx n n hi:Nat):Int)/\(sliceBounds lo hi none n).2.2=1:=by
 have clip:∀ (i:Int) (n d:Nat),max 0 (min (if i < 0 then i + (n:Int) else i) (n:Int))=((HT.sIx n d (some i):Nat):Int):=fun i n _=>clipI i n
 refine ⟨?_,?_,rfl⟩
 ·cases lo with
  | none=>rfl
  | some i=>exact clip i n 0
 ·cases hi with
  | none=>rfl
  | some i=>exact clip i n n
theorem zd3 (z6:List Value) (lo hi:Option Int):slicePick z6.toArray lo hi none=((z6.drop (HT.sIx z6.length 0 lo)).take (HT.sIx z6.length z6.length hi - HT.sIx z6.length 0 lo)).toArray:=by
 obtain ⟨h1,h2,h3⟩:=zer lo hi z6.toArray.size
 unfold slicePick
 rw [h1,h2,h3]
 simp only [sliceRange_one,pick_run,qu] <;> rfl
def rSlL (K:W.Frag):V->Option Int->Option Int->Hp->VK->Prop:=fun x lo hi H Q=>∃ a xs,x=.ref a/\SqL K H a xs/\∀ p,H p=none->Q (.ref p) (upd H p (.lst (cutV xs lo hi)))
theorem zlM:SlR X (rSlL X.K):=by
 intro zZ s σ H x v vl vu lo hi sl Q I rx hs pl pu h
 obtain ⟨a,xs,rfl,hx,q⟩:=h
 cases rx
 obtain ⟨z6,r,ht,hz⟩:=I.list hx
 have z5:=r.length
 refine ⟨"list",_,slot_list_getitem.lookup,ht.isList.typeIs,?_⟩
 refine wpAny_getItem_list_slice ht.isList hs pl pu .none (by simp) ?_ (by rw [qu] <;> lia)
 rw [zd3,<- z5]
 refine ⟨.ref s.heap.objs.size,_,I.laid (t':=s.toks) (o:=.lst (cutV xs lo hi)) (fun b ob q=>qc _ q) (zj _) ?_,rfl,q _ (I.hok.fresh (zj _))⟩
 exact ⟨le_trans (zc6 xs lo hi) hz,_,0,(r.drop (HT.sIx xs.length 0 lo)).take (HT.sIx xs.length xs.length hi - HT.sIx xs.length 0 lo),qd _ rfl⟩
theorem zeM:CallR X (.builtin "len") (fun xs H Q=>∃ p ys,xs=[.ref p]/\(SqL X.K H p ys\/SqT X.K H p ys)/\Q (.int ys.length) H):=by
 intro zZ s σ H xs us Q I r h
 obtain ⟨p,ys,rfl,hq,q⟩:=h
 obtain ⟨u,rfl,rx⟩:=vals1 r
 cases rx
 have hn:=line63
 rcases hq with hq | hq
 ·obtain ⟨z6,r',pl,hz⟩:=I.list hq
  have z5:=r'.length
  exact Calls.call_len_list pl.isList (by simp only [qu] <;> lia) ⟨.int ys.length,H,I.tok _,⟨s.toks + 1,by rw [qu,z5]⟩,q⟩
 ·obtain ⟨z6,r',pl,hz⟩:=I.tuple hq
  have z5:=r'.length
  exact len_tuple pl (by simp only [qu] <;> lia) ⟨.int ys.length,H,I.tok _,⟨s.toks + 1,by rw [qu,z5]⟩,q⟩
theorem zeo:CallR X (.builtin "len") (fun xs H Q=>∃ z,xs=[.str z]/\z.length<=sizeLine/\Q (.int z.length) H):=by
 intro zZ s σ H xs us Q I r h
 obtain ⟨z,rfl,hz,q⟩:=h
 obtain ⟨u,rfl,t,rfl⟩:=vals1 r
 have hn:=line63
 exact len_str (by lia) ⟨.int z.length,H,I.tok _,⟨_,rfl⟩,q⟩
theorem zeh:CallR X (.type "list") (fun xs H Q=>∃ p ys,xs=[.ref p]/\(SqL X.K H p ys\/SqT X.K H p ys)/\∀ l,H l=none->Q (.ref l) (upd H l (.lst ys))):=by
 intro zZ s σ H xs us Q I r h
 obtain ⟨p,ys,rfl,hq,q⟩:=h
 obtain ⟨u,rfl,rx⟩:=vals1 r
 cases rx
 have fin:∀ (z6:List Value),zW ys z6->ys.length<=sizeLine->∀ (h':Heap) (c':Nat),(∀ b o',s.heap.get? b=some o'->h'.get? b=some o')->
   h'.get? s.heap.objs.size=some { cls:=.type "list",dict:=none,data:=.seq z6.toArray c',slots:=#[] }->EP X zZ σ Q (.ref s.heap.objs.size) { s with heap:=h' }:=fun z6 r' hz h' c' kp e=>
  ⟨.ref s.heap.objs.size,_,I.laid (t':=s.toks) kp (zj _) (show zY X.prog X.w _ h' _ (.lst ys) from ⟨hz,z6,c',r',e⟩),rfl,q _ (I.hok.fresh (zj _))⟩
 rcases hq with hq | hq
 ·obtain ⟨z6,r',pl,hz⟩:=I.list hq
  have z5:=r'.length
  obtain ⟨o,ho,hc,n,hd⟩:=pl.isList
  exact call_list_seq p (.inl rfl) ho hc hd (fun h' c' kp e=>fin z6 r' hz h' c' kp e) (by simp only [qu] <;> lia)
 ·obtain ⟨z6,r',pl,hz⟩:=I.tuple hq
  have z5:=r'.length
  obtain ⟨o,ho,hc,n,hd⟩:=pl
  exact call_list_seq p (.inr rfl) ho hc hd (fun h' c' kp e=>fin z6 r' hz h' c' kp e) (by simp only [qu] <;> lia)
theorem zdO:CallR X (.type "tuple") (fun xs H Q=>∃ p ys,xs=[.ref p]/\((SqL X.K H p ys/\∀ l,H l=none->Q (.ref l) (upd H l (.tup ys)))\/(SqT X.K H p ys/\Q (.ref p) H))):=by
 intro zZ s σ H xs us Q I r h
 obtain ⟨p,ys,rfl,h⟩:=h
 obtain ⟨u,rfl,rx⟩:=vals1 r
 cases rx
 rcases h with ⟨hq,q⟩ | ⟨hq,q⟩
 ·obtain ⟨z6,r',pl,hz⟩:=I.list hq
  have z5:=r'.length
  refine call_tuple_list pl.isList (fun h' kp=>?_) (by simp only [qu] <;> lia)
  have I1:Inv X zZ σ H { s with heap:=h' }:=I.kept (t':=s.toks) kp
  have I2:Inv X zZ σ (upd H h'.objs.size (.tup ys)) { s with heap:=h'.push { cls:=.type "tuple",data:=.seq z6.toArray } }:=
   I1.laid (t':=s.toks) (fun b o e=>qc _ e) (zj _) (show zY X.prog X.w _ _ _ (.tup ys) from ⟨⟨hz,NoDc.new rfl (qd _ rfl)⟩,z6,r',IsTup.new _ _⟩)
  exact ⟨.ref h'.objs.size,_,I2,rfl,q _ (I1.hok.fresh (zj _))⟩
 ·obtain ⟨z6,r',pl,hz⟩:=I.tuple hq
  exact call_tuple_same pl ⟨.ref p,H,I,rfl,q⟩
def tyV (K:W.Frag) (T:String) (x:V) (H:Hp):Prop:=match x with
 | .str _=>T="str"
 | .int _=>T="int"
 | .ref p=>(T="list"/\∃ xs,SqL K H p xs)\/(T="tuple"/\∃ o,K.lookup p=some o/\o.cls=.type "tuple"/\o.dict=none)\/
   (T="dict"/\((∃ z3,H p=some (.dK z3))\/∃ z3,H p=some (.dT z3)))
 | _=>False
theorem znn (I:Inv X zZ σ H s) (r:zO x v) (ty:tyV X.K T x H):
  s.TypeIs v T/\∀ a,v=.ref a->∃ ob,s.heap.get? a=some ob/\ob.dict=none:=by
 cases x with
 | str z=>
   obtain ⟨t,rfl⟩:=r
   cases (show T="str" from ty)
   exact ⟨typeIs_str s z t,fun _ e=>nomatch e⟩
 | int i=>
   obtain ⟨t,rfl⟩:=r
   cases (show T="int" from ty)
   exact ⟨typeIs_int s i t,fun _ e=>nomatch e⟩
 | ref p=>
   cases r
   rcases ty with ⟨rfl,xs,hq⟩ | ⟨rfl,o,hk,hc,hd⟩ | ⟨rfl,hk⟩
   ·obtain ⟨z6,_,pl,_⟩:=I.list hq
    refine ⟨pl.isList.typeIs,fun a e=>?_⟩
    cases e
    obtain ⟨o,n,e,c,hd,_⟩:=pl
    exact ⟨o,e,hd⟩
   ·refine ⟨⟨o,I.kIn p o hk,hc⟩,fun a e=>?_⟩
    cases e
    exact ⟨o,I.kIn _ o hk,hd⟩
   ·have z:∃ o,s.heap.get? p=some o/\o.ExactDict:=by
     rcases hk with ⟨z3,hk⟩ | ⟨z3,hk⟩
     ·obtain ⟨_,_,_,_,o,_,_,e,ex,_⟩:=I.hok p _ hk
      exact ⟨o,e,ex⟩
     ·obtain ⟨_,_,_,_,o,_,_,e,ex,_⟩:=I.hok p _ hk
      exact ⟨o,e,ex⟩
    obtain ⟨o,e,ex⟩:=z
    refine ⟨⟨o,e,ex.1⟩,fun a e2=>?_⟩
    cases e2
    exact ⟨o,e,ex.2.1⟩
 | _=>exact False.elim ty
def tBM (K:W.Frag) (T:String) (r:V->List V->Hp->VK->Prop) (to:TE) (t:TA):TE:=fun σ H Q=>to σ H fun x H1=>tyV K T x H1/\t σ H1 fun xs H2=>r x xs H2 Q
variable {T id:String}
theorem zjx (pa:PlainAttrs T) (slot:Slot T name id) (hty:typeOf (.builtin id)=pure (.type "method_descriptor")) (hm:MtR X id r) (ho:PE X o to) (ha:PA X (e::es) t)
  (hbase:attributeBase o name X.env (eval o X.env)=eval o X.env:=by rfl)
  (hfew:((backTo cpos (starEach (e::es) X.env)).all (fun x=>!x.1) && (backToKw cpos (keywordEach [] X.env)).all (fun x=>x.1.isSome)
   && decide ((e::es).length + ([]:List Keyword).length + (if ([]:List Keyword).isEmpty then 0 else 1) < 30))=true:=by rfl)
  (hline:(apos.endLine == cpos.line)=true:=by rfl) (hs:starEach (e::es) X.env=(false,eval e X.env)::starEach es X.env:=by rfl) (hplain:(backTo cpos (starEach es X.env)).any (·.1)=false:=by rfl):
  PE X (.Call (.Attribute o name apos) (e::es) [] cpos) (tBM X.K T r to t):=by
 intro zZ s σ H Q I h
 refine wpAny_Call_method_late hbase hfew hline rfl (thn (ho zZ s σ H _ I h) fun v s1 zq=>?_)
 obtain ⟨x,H1,I1,r1,ty,q1⟩:=zq
 obtain ⟨h1,h2⟩:=znn I1 r1 ty
 refine ⟨T,id,pa,slot,hty,h1,h2,?_⟩
 have hA:=ha cpos zZ s1 σ H1 _ I1 q1
 rw [hs] at hA ⊢
 refine Calls.callWith_builtin (by show (false || (backTo cpos (starEach es X.env)).any (·.1))=false; rw [hplain] <;> rfl) (Calls.evalArgs_plain ?_)
 exact thn hA fun us s2 ⟨vs,H2,I2,r2,q2⟩=>hm zZ s2 σ H2 x vs v us Q I2 r1 r2 q2
end
def MtM (X:Cx) (id:String) (r:V->List V->Hp->VK->Prop):Prop:=
 ∀ (zZ:List (Addr×Obj)) (s:Shared) (σ:St) (H:Hp) (x:V) (xs:List V) (v:Value) (us:List Value) (Q:VK),Inv X zZ σ H s->zO x v->zW xs us->r x xs H Q->
   wpAny (model X.prog X.w) X.A (call (.builtin id) (v::us)) (EP X zZ σ Q) X.xe s
theorem zW.one:∀ {x:V} {us:List Value},zW [x] us->∃ u,us=[u]/\zO x u:=by
 intro x us h
 cases h with
 | cons r t=>cases t; exact ⟨_,rfl,r⟩
theorem zW.eraseIdx:∀ {xs:List V} {us:List Value} (i:Nat),zW xs us->zW (xs.eraseIdx i) (us.eraseIdx i)
 | _,_,_,.nil=>.nil
 | _,_,0,.cons _ t=>t
 | _,_,i + 1,.cons r t=>.cons r (zW.eraseIdx i t)
theorem zet {α:Type}:∀ (l:List α) (i:Nat),(l.eraseIdx i).length<=l.length
 | [],_=>zj _
 | _::_,0=>le_succ _
 | _::r,i + 1=>Nat.succ_le_succ (zet r i)
theorem Inv.lset {z6 its':List Value} (I:Inv X zZ σ H s) (hH:H l=some (.lst xs))
  (e:s.heap.get? l=some { cls:=.type "list",data:=.seq z6.toArray n }) (hf:f z6.toArray=its'.toArray) (hv:zW ys its') (hz:ys.length<=sizeLine):
  Inv X zZ σ (upd H l (.lst ys)) { s with heap:=s.heap.update l (Obj.mapSeq f),toks:=t' }:=by
 have q:=PySem.IsL.update e f
 rw [hf] at q
 refine I.write (x:=l) (e:=l) (by rw [hH]; exact trivial) (.inl rfl) (fun b' u hb hu=>(zk s.heap (Obj.mapSeq f) (Ne.symm hb)).trans hu) ⟨_,q⟩ ?_
 exact ⟨hz,its',_,hv,q⟩
theorem Inv.lnew (I:Inv X zZ σ H s) (hv:zW ys z6) (hz:ys.length<=sizeLine):
  Inv X zZ σ (upd H s.heap.objs.size (.lst ys)) { s with heap:=s.heap.push { cls:=.type "list",data:=.seq z6.toArray },toks:=t' }:=
 I.laid (fun _ _ q=>qc _ q) (zj _) ⟨hz,z6,0,hv,qd _ rfl⟩
theorem Inv.fresh (I:Inv X zZ σ H s):H s.heap.objs.size=none:=I.hok.fresh (zj _)
theorem Inv.lstM (I:Inv X zZ σ H s) (hH:H l=some (.lst xs)):xs.length<=sizeLine/\∃ (z6:List Value) (n:Nat),zW xs z6/\xs.length=z6.length/\s.heap.get? l=some { cls:=.type "list",data:=.seq z6.toArray n }:=by
 obtain ⟨z,z6,n,r,e⟩:=I.hok l _ hH
 exact ⟨z,z6,n,r,r.length,e⟩
def rAppend:V->List V->Hp->VK->Prop:=fun x vs H Q=>∃ l xs y,x=.ref l/\vs=[y]/\H l=some (.lst xs)/\xs.length < sizeLine/\Q .non (upd H l (.lst (xs++[y])))
theorem zc0:MtM X "list.append" rAppend:=by
 intro zZ s σ H x vs v us Q I rx rv h
 obtain ⟨l,xs,y,rfl,rfl,hH,hz,q⟩:=h
 cases rx
 obtain ⟨u,rfl,ru⟩:=rv.one
 obtain ⟨z,z6,n,r,hl,e⟩:=I.lstM hH
 refine call_meets F.slot_list_append ⟨_,e,rfl⟩ F.entry_list_append (F.args_list_append_2 _ _) (PySem.list_append l z6.toArray n u (by rw [qu]; lia)) ⟨e,?_⟩
 refine ⟨.non,_,I.lset (its':=z6++[u]) hH e (by simp) (r.append (.cons ru .nil)) ?_,rfl,q⟩
 rw [qt,qE]
 lia
def rPopAt:V->List V->Hp->VK->Prop:=fun x vs H Q=>∃ l xs i k y,x=.ref l/\vs=[.int i]/\H l=some (.lst xs)/\-(2 ^ 63)<=i/\i < 2 ^ 63/\seqIndex? i xs.length=some k/\xs[k]?=some y/\Q y (upd H l (.lst (xs.eraseIdx k)))
theorem zkD:MtM X "list.pop" rPopAt:=by
 intro zZ s σ H x vs v us Q I rx rv h
 obtain ⟨l,xs,i,k,y,rfl,rfl,hH,h1,h2,hk,hy,q⟩:=h
 cases rx
 obtain ⟨u,rfl,ru⟩:=rv.one
 obtain ⟨t,rfl⟩:=ru
 obtain ⟨z,z6,n,r,hl,e⟩:=I.lstM hH
 obtain ⟨w,hw,rw'⟩:=r.get hy
 refine call_meets F.slot_list_pop ⟨_,e,rfl⟩ F.entry_list_pop (F.args_list_pop_2 _ _)
  (MeetsSeq.list_pop_at l z6.toArray n i t k w (fitsIndex_both h1 h2) (by rw [qu,<- hl]; exact hk) (by rw [<- q9]; exact hw) (by rw [qu]; lia)) ⟨e,?_⟩
 refine ⟨y,_,I.lset (its':=z6.eraseIdx k) hH e ?_ (r.eraseIdx k) ?_,rw',q⟩
 ·show z6.toArray.eraseIdxIfInBounds k=(z6.eraseIdx k).toArray
  rw [List.eraseIdxIfInBounds_toArray]
 ·have:=zet xs k
  lia
end L2
namespace Att
open PySem PySem.W PySem.Calls PyProof.Rows
theorem zcT:∀ (ns:List Int) (vs:List Value),WellAll P h vs (ns.map WData.int)->IntsAre vs ns:=by
 intro ns
 induction ns with
 | nil=>
   intro vs w
   rw [map_nil] at w
   cases w
   exact .nil
 | cons n ns ih=>
   intro vs w
   rw [qB] at w
   cases w with
   | cons a b=>
     cases a
     exact .cons _ _ (ih _ b)
theorem ziV {l:OpenLaw} (hn:l.most=some n)
  (hpre:l.row.toRowW.claim.pre args=true) (hwl:WellAll P h vals args):
  ∃ a vs ns,vals=[Value.ref a]/\args=[WData.list (ns.map WData.int)]/\h.get? a=some { cls:=.type "list",data:=.seq vs.toArray }/\IntsAre vs ns/\ns.length<=n:=by
 have hsh:WShape.hasAll [] args [.list .int]=true:=(pre_splitW hpre).1
 have hc:l.pre.holds [] { args:=args }=true:=(pre_splitW hpre).2
 obtain ⟨d,r,rfl,h1,h2⟩:=hasAllW_cons hsh
 obtain rfl:=hasAllW_nil h2
 obtain ⟨xs,rfl,h3⟩:=hasW_list h1
 obtain ⟨ns,rfl⟩:=items_int h3
 have z5:ns.length<=n:=by
  unfold OpenLaw.pre at hc
  have h4:(WTm.not (.lt (.lit (.int (n:Int))) (.len (.arg 0)))).holds [] { args:=[.list (ns.map .int)] }=true:=by
   have h4:=(holds_andW hc).1
   rw [hn] at h4
   exact h4
  have h5:=condW_of h4 (w_not (w_lt w_lit (w_len_list (w_arg rfl))))
  grind
 cases hwl with
 | cons w1 w2=>
   cases w2
   cases w1 with
   | list ho hall=>exact ⟨_,_,ns,rfl,rfl,ho,zcT ns _ hall,z5⟩
theorem zhW (l:OpenLaw) (args:List WData):l.row.toRowW.claim.post args (.bool true) args=true:=
 postW_of (r:=l.row.toRowW) (X:=(true == true))
  (show WShape.has [] (.bool true) .bool=true by first | rfl | decide | simp [WShape.has,WShape.arms,WShape.armsAll])
  (show (WTm.eq .res (.lit (.bool true))).value [] { args:=args,res:=some (.bool true),after:=args }=some (.bool (true == true)) from w_eq_bool (w_res rfl) w_lit) rfl
theorem attach_call {l:OpenLaw}
  (hn:l.most=some n) (hdf:d.params.defaults=[])
  (call:∀ (w:World) (s₀ s₁:Shared) (mg mb:Str->Option Value) (fa:Addr) (o:Obj) (pm cd doc:Value) (a:Addr) (vs:List Value) (ns:List Int),
   Ground q loose [] XP w s₀ mg mb s₁.heap->YP w s₁.heap->
   s₁.heap.get? fa=some o->o.data=.func (docDef d.name d.params d.body d.scope pm cd doc)->s₁.heap.CodeRec cd d.name->mg d.name=some (.ref fa)->
   s₁.heap.get? a=some { cls:=.type "list",data:=.seq vs.toArray }->IntsAre vs ns->ns.length<=n->s₁.gens=#[]->
   codeAny (model l.prog w) callerA (.call (.ref fa) ⟨[.ref a],[]⟩) (fun r s'=>r=.ok (.ret (.bool true))/\OldK s₁.heap s'.heap/\s'.os=s₁.os/\AllBare s'.gens) s₁):
  WalkO q loose XP YP l.row.toRowW d [] (fun f vs=>PySem.call f vs):=by
 intro w s₀ s₁ mg mb G Y fa o pm cd doc dV kV ho hd hcd hD hmg hg args vals as hpre hlay hrd hwl hlo
 obtain rfl:dV=.none:=Dflts.none hD hdf
 obtain rfl:kV=.none:=Dflts.noKw hD
 obtain ⟨a,vs,ns,rfl,rfl,hobj,hints,z5⟩:=ziV hn hpre hwl
 refine enter_call (codeAny_mono (call w s₀ s₁ mg mb fa o pm cd doc a vs ns G Y ho (fd_plain hd) hcd hmg hobj hints z5 hg) fun r s' hq=>?_)
 obtain ⟨rfl,h2,h3,h4⟩:=hq
 exact ⟨.inl ⟨.bool true,.bool true,[],rfl,fun _=>rfl,.bool true,zhW l _,fun _=>⟨List.Pairwise.nil,fun _ hm=>(nomatch hm)⟩⟩,h2,h3,h4⟩
end Att
namespace L2
open PySem PySem.Spec PyProof.Rows
theorem zbg:∀ {vs:List Value} {ns:List Int},IntsAre vs ns->zW (ns.map V.int) vs
 | _,_,.nil=>.nil
 | _,_,.cons n t h=>.cons ⟨t,rfl⟩ (zbg h)
def Only (H:Hp):Prop:=∀ b,H b=none\/∃ o xs,H b=some (.frz o (.lst xs))
theorem zj4 {K:W.Frag}
  (KX:K.In s₁.heap) (hns:s₁.heap.Ns mainGlobals mg) (hb:s₁.heap.Ns builtinsNs mb) (hbb:∀ x:Str,x≠"__name__"->mb x=bootBuiltins x) (hlim:s₁.heap.NoLimit) (hg:s₁.gens=#[])
  (ha:s₁.heap.get? a=some { cls:=.type "list",data:=.seq vs.toArray }) (hi:IntsAre vs ns) (hl:ns.length<=sizeLine) (hr:Room k callerA)
  (F:∀ base:Heap,K.In base->base.Ns mainGlobals mg->FnOk P w K mg base CX k fa fd [x] sp) (hbind:∀ (s:Shared) (u:Value),BindsTo s fd ⟨[u],[]⟩ [(x,u)])
  (hsp:∀ H:Hp,Only H->SqL K H a (ns.map V.int)->sp [.ref a] H (fun v _=>v=.bl true) fun _ _ _=>False)
  (hCX:∀ H e s',CX [] H s₁ (fun _ _ _=>False) e s'->False):
  codeAny (model P w) callerA (.call (.ref fa) ⟨[.ref a],[]⟩) (fun r s'=>r=.ok (.ret (.bool true))/\OldK s₁.heap s'.heap/\s'.os=s₁.os/\AllBare s'.gens) s₁:=by
 have rv:=zbg hi
 have lenV:=hi.length
 -- from an abstract heap in which nothing but the script may be tracked
 have core:∀ H:Hp,Only H->SqL K H a (ns.map V.int)->HOk P w H s₁.heap->(∀ b,H b≠none->b=a)->(H a≠none->K.lookup a=none)->
   codeAny (model P w) callerA (.call (.ref fa) ⟨[.ref a],[]⟩) (fun r s'=>r=.ok (.ret (.bool true))/\OldK s₁.heap s'.heap/\s'.os=s₁.os/\AllBare s'.gens) s₁:=by
  intro H hO hS hok hA hK
  have base_of:∀ {b:Addr} {o:Obj},s₁.heap.get? b=some o->H b=none->(hidT s₁.heap H).get? b=some o:=fun e n=>zkM e n
  have noA:∀ {b:Addr} {o:Obj} {es:Array DictEntry} {ep:Nat},s₁.heap.get? b=some o->o.data=.dict es ep->H b=none:=fun {b o es ep} e d=>by
   cases q:H b with
   | none=>rfl
   | some u=>
     grind
  have nsK:∀ {b:Addr} {m:Str->Option Value},s₁.heap.Ns b m->(hidT s₁.heap H).Ns b m:=fun {b m} ⟨o,es,ep,e,d,r⟩=>⟨o,es,ep,base_of e (noA e d),d,r⟩
  have hKb:K.In (hidT s₁.heap H):=fun b o e=>base_of (KX b o e) (by
   cases q:H b with
   | none=>rfl
   | some u=>
     have e':b=a:=hA b (by rw [q]; simp)
     subst e'
     rw [hK (by rw [q]; simp)] at e; cases e)
  have hM:Mod K mg (hidT s₁.heap H):=⟨hKb,nsK hns,⟨mb,nsK hb,hbb⟩,let ⟨mc,h1,h2⟩:=hlim; ⟨mc,nsK h1,h2⟩⟩
  have e0:Env0 P w K mg (hidT s₁.heap H) callerA [] s₁ H:=⟨rfl,hM,fun b o e=>zlS e,Nat.le_of_eq (zhG _ _),trivial,fun b hb=>absurd (show b∈([]:List Addr) from hb) (by simp),hok,.of_eq hg⟩
  refine codeAny_mono ((F _ hKb (nsK hns)).run callerA [] s₁ H ⟨[.ref a],[]⟩ [.ref a] [.ref a] _ _ hr e0 (hbind s₁ (.ref a)) (.cons rfl .nil) (hsp H hO hS)) fun r s' h=>?_
  cases r with
  | error e=>exact (hCX H e s' h).elim
  | ok fl=>
    cases fl with
    | next=>exact False.elim h
    | brk=>exact False.elim h
    | cont=>exact False.elim h
    | ret u=>
      obtain ⟨v,H',os,bare,un,hok',r',q⟩:=h
      have q':v=.bl true:=q
      subst q'
      obtain rfl:u=Value.bool true:=r'
      refine ⟨rfl,OldK.of_keep fun b o e=>?_,os,bare⟩
      cases q:H b with
      | none=>exact un.keep b o e q (by intro z; exact absurd (show b∈([]:List Addr) from z) (by simp)) (by simp)
      | some u=>
        rcases hO b with z | ⟨ob,xs,z⟩
        ·rw [q] at z; cases z
        ·have z2:=un.frzs b ob _ z
         obtain ⟨e1,_⟩:=hok b _ z
         obtain ⟨e2,_⟩:=hok' b _ z2
         rw [e] at e1; cases e1
         exact e2
 cases hk:K.lookup a with
 | some o=>
   -- the script is one of the module's own objects
   have e:=KX a o hk
   rw [ha] at e
   cases e
   refine core (fun _=>none) (fun _=>.inl rfl) (.inr ⟨_,vs.toArray,_,hk,rfl,rfl,rfl,by rw [qu,lenV]; exact hl,by simpa using rv⟩) (fun b u z=>by have z':(none:Option HO)=some u:=z; cases z') (fun b z=>absurd rfl z) fun z=>absurd rfl z
 | none=>
   refine core (fun b=>if b=a then some (.frz { cls:=.type "list",data:=.seq vs.toArray } (.lst (ns.map V.int))) else none) (fun b=>?_) (.inl (.inr ⟨{ cls:=.type "list",data:=.seq vs.toArray },zc rfl⟩)) (fun b u z=>?_) (fun b z=>?_) fun _=>hk
   ·grind
   ·by_cases hb:b=a
    ·have z':=(zc hb).symm.trans z
     cases z'
     subst hb
     exact ⟨ha,by rw [qq]; exact hl,vs,_,rv,ha⟩
    ·have z':=(zi hb).symm.trans z
     cases z'
   grind
theorem walk_of {l:W.OpenLaw} {K:Params->W.Frag} {CX:World->CXT} {sp:World->Sp}
  (hn:l.most=some n) (hn2:n<=sizeLine) (hdf:d.params.defaults=[]) (hr:Room k callerA)
  (hY:∀ (w:World) (h:Heap),YP w h->(K w.params).In h)
  (F:∀ (w:World) (mg:Str->Option Value) (fa:Addr) (h:Heap),(K w.params).In h->h.Ns mainGlobals mg->mg d.name=some (.ref fa)->
   ∃ fd:FuncData,(∀ (s:Shared) (u:Value),BindsTo s fd ⟨[u],[]⟩ [(x,u)])/\
     ∀ base:Heap,(K w.params).In base->base.Ns mainGlobals mg->FnOk l.prog w (K w.params) mg base (CX w) k fa fd [x] (sp w))
  (hsp:∀ (w:World) (H:Hp) (a:Addr) (ns:List Int),ns.length<=n->Only H->SqL (K w.params) H a (ns.map V.int)->sp w [.ref a] H (fun v _=>v=.bl true) fun _ _ _=>False)
  (hCX:∀ (w:World) (H:Hp) (s:Shared) (e:Value) (s':Shared),CX w [] H s (fun _ _ _=>False) e s'->False):
  W.WalkO q loose XP YP l.row.toRowW d [] (fun f vs=>PySem.call f vs):=by
 refine Att.attach_call hn hdf fun w s₀ s₁ mg mb fa o pm cd doc a vs ns G Y ho hd hcd hmg hobj hints z5 hg=>?_
 have KX:=hY w _ Y
 obtain ⟨fd,hb,hF⟩:=F w mg fa _ KX G.T.g hmg
 exact zj4 KX G.T.g G.T.b G.T.builtins G.T.nolimit hg hobj hints (le_trans z5 hn2) hr hF hb (fun H hO hS=>hsp w H a ns z5 hO hS) fun H e s'=>hCX w H s₁ e s'
def defArgs (s:Stmt):Arguments:=match s with
 | .FunctionDef _ a _ _ _ _ _ _ _ _=>a
 | _=>{ posonlyargs:=[],args:=[],vararg:=none,kwonlyargs:=[],kw_defaults:=[],kwarg:=none,defaults:=[] }
def defBody (s:Stmt):List Stmt:=match s with
 | .FunctionDef _ _ b _ _ _ _ _ _ _=>b
 | _=>[]
def defScope (s:Stmt):Scope:=match s with
 | .FunctionDef _ _ _ _ _ _ sc _ _ _=>sc
 | _=>{ kind:=.function,names:=[],isGenerator:=false,isCoroutine:=false }
structure Fun (K:W.Frag) (x qual:Str) (st:Stmt) (f:Addr) (fd:FuncData):Prop where
 ex:∃ (oc:Value) (od:Option Addr) (kV doc pm:Value) (an:Option Addr) (cdv ct:Value) (osl:Array (Option Value)),
  fd=W.fnOf x qual (defArgs st) (defBody st) (defScope st) .none kV doc pm an cdv ct/\K.lookup f=some ⟨oc,od,.func fd,osl⟩/\W.codeIn K cdv qual=true
 kp:W.keepIn K (.ref f)=true
section
variable {K:W.Frag}
theorem Fun.binds {st:Stmt} (F:Fun K x qual st f fd)
  (h:∀ (kV doc pm:Value) (an:Option Addr) (cdv ct:Value) (us:List Value),us.length=ps.length->bindArgs (W.fnOf x qual (defArgs st) (defBody st) (defScope st) .none kV doc pm an cdv ct) ⟨us,[]⟩=pure (ps.zip us)):Binds K fd ps []:=by
 obtain ⟨oc,od,kV,doc,pm,an,cdv,ct,osl,rfl,lk,hcd⟩:=F.ex
 exact .all (h kV doc pm an cdv ct)
theorem zo8 {st:Stmt} {kV doc pm cdv ct:Value} (l:K.lookup f=some ⟨oc,od,.func (W.fnOf x qual (defArgs st) (defBody st) (defScope st) .none kV doc pm an cdv ct),osl⟩)
  (c:W.codeIn K cdv qual=true) (k:W.keepIn K (.ref f)=true):Fun K x qual st f (W.fnOf x qual (defArgs st) (defBody st) (defScope st) .none kV doc pm an cdv ct):=⟨⟨oc,od,kV,doc,pm,an,cdv,ct,osl,rfl,l,c⟩,k⟩
end
theorem zmp (hr:Room k A):A.units + 1 < cLine:=Nat.lt_of_le_of_lt (Nat.add_le_add_left (by decide:1<=64) _) hr.units
def zK (H H':Hp):Prop:=∀ b o,H b=some o->H' b=some o
theorem zK.refl (H:Hp):zK H H:=fun _ _ h=>h
theorem zK.trans (a:zK H H1) (b:zK H1 H2):zK H H2:=fun c o h=>b c o (a c o h)
structure Left (fs:List Addr) (e:Addr) (cls:Value) (dx:Option Addr) (a0:Option Value) (T:Addr) (h h':Heap):Prop where
 new:h.objs.size<=T
 keep:∀ b o,b∉fs->b≠e->h.get? b=some o->h'.get? b=some o
 slot:∀ b o,b∈fs->b≠e->h.get? b=some o->∃ sl,h'.get? b=some { o with slots:=sl }
 rcd:∃ oe vs,h'.get? e=some oe/\oe.cls=cls/\oe.dict=dx/\oe.data=.fields vs/\vs[0]?=a0/\vs[1]?=some (.ref T)
 trc:∃ oT ts,h'.get? T=some oT/\oT.data=.fields ts/\ts[3]?=some .none
theorem Obj.dict_mapFields (o:Obj) (f:Array Value->Array Value):(o.mapFields f).dict=o.dict:=by
 unfold Obj.mapFields; split <;> rfl
theorem zeO {base:Heap} {env:Env} {outer:List Env} {L e:Addr} {oe:Obj} {vs:Array Value} {head:Value} {hadNext:Bool} {Q:Unit->Shared->Prop}
  (hfr:A.frames=some (env::outer)) (hl:s.heap.FunFrames base (env::outer)) (hf:env.frame=some L) (he:s.heap.get? e=some oe) (hd:oe.data=.fields vs) (hsz:1 < vs.size)
  (h:∀ h' T,Left (frs (env::outer)) e oe.cls oe.dict vs[0]? T s.heap h'->Q () { s with heap:=h' }):
  wpAny M A (do let a <- frameOf env; let pl <- entryPlaceOf L hadNext; let b <- EntryCells.newEntry head a .none (rawInt L) .none pl; setField (.ref e) 1 b) (fun _ s'=>wpAny M A (setFlight (.ref e) none) Q E s') E s:=by
 have hene:e∉frs (env::outer):=fun hm=>by
  obtain ⟨_,o,ho,hnf⟩:=hl.mem hm
  rw [he] at ho; injection ho with ho; subst ho; exact hnf vs hd
 refine qa (wpAny_frameOf_fun hfr hl hf fun h₁ hs₁=>?_)
 refine qa (wpAny_entryPlaceOf fun pl hpl=>?_)
 unfold EntryCells.newEntry newFields
 refine qa (zp ?_ (hpl.sizeOk5 _ _ _ _ _))
 have he₁:h₁.get? e=some oe:=(hs₁.2.1 e hene).trans he
 have he₂:=qc (h:=h₁) { cls:=.type "traceback",dict:=none,data:=.fields ([head,.ref L,.none,rawInt L,.none]++(if pl.isEmpty then List.replicate 6 Value.none else pl)).toArray } he₁
 refine wpAny_setField he₂ hd hsz ?_
 have hTe:h₁.objs.size≠e:=ne_of_gt (qg he₁)
 have hd₃:=Obj.data_mapFields hd (·.setIfInBounds 1 (Value.ref h₁.objs.size))
 have he₃:=zm (Obj.mapFields (·.setIfInBounds 1 (Value.ref h₁.objs.size))) he₂ (Obj.isFreed_of_fields hd₃)
 have hT₃:=(zk (h₁.push { cls:=.type "traceback",dict:=none,data:=.fields ([head,.ref L,.none,rawInt L,.none]++(if pl.isEmpty then List.replicate 6 Value.none else pl)).toArray })
  (Obj.mapFields (·.setIfInBounds 1 (Value.ref h₁.objs.size))) (Ne.symm hTe)).trans (qd h₁ rfl)
 unfold setFlight
 refine qa (zo he₃ hd₃ (x:=.ref h₁.objs.size) (by simp [hsz]) ?_)
 rw [zc (show (Value.ref h₁.objs.size !=Value.none)=true from by simp)]
 refine wpAny_setField hT₃ rfl (by simp only [qu,qt,qv,qy] <;> omega) (h _ h₁.objs.size ?_)
 have keep:∀ b o,b≠e->h₁.get? b=some o->
   (((h₁.push { cls:=.type "traceback",dict:=none,data:=.fields ([head,.ref L,.none,rawInt L,.none]++(if pl.isEmpty then List.replicate 6 Value.none else pl)).toArray }).update e (Obj.mapFields (·.setIfInBounds 1 (Value.ref h₁.objs.size)))).update h₁.objs.size
     (Obj.mapFields (·.setIfInBounds 3 ((none:Option Addr).elim Value.none fun f=>rawInt f)))).get? b=some o:=fun b o hbe hb=>by
  have hbT:h₁.objs.size≠b:=ne_of_gt (qg hb)
  rw [zk _ _ hbT,zk _ _ (Ne.symm hbe)]
  exact qc _ hb
 refine ⟨by rw [hs₁.1]; exact zj _,fun b o hb hbe q=>keep b o hbe ((hs₁.2.1 b hb).trans q),fun b o _ hbe q=>?_,?_,?_⟩
 ·obtain ⟨sl,hs⟩:=hs₁.2.2 b o q
  exact ⟨sl,keep b _ hbe hs⟩
 ·refine ⟨_,_,?_,Obj.cls_mapFields _ _,Obj.dict_mapFields _ _,hd₃,by rw [Array.getElem?_setIfInBounds_ne (by decide)],by simp [hsz]⟩
  rw [zk _ _ hTe]; exact he₃
 ·exact ⟨_,_,zm _ hT₃ (Obj.isFreed_of_fields (Obj.data_mapFields rfl _)),Obj.data_mapFields rfl _,by first | (simp; done) | (rcases hpl with rfl | ⟨_,_,_,_,_,_,_,rfl⟩ <;> simp)⟩
theorem zY.there (x:zY P w H h a o):∃ u,h.get? a=some u:=by
 cases o with
 | lst xs=>obtain ⟨_,_,_,_,e⟩:=x; exact ⟨_,e⟩
 | tup xs=>obtain ⟨_,_,_,u,e,_⟩:=x; exact ⟨_,e⟩
 | dK z3=>obtain ⟨_,_,_,_,o,_,_,e,_⟩:=x; exact ⟨_,e⟩
 | dT z3=>obtain ⟨_,_,_,_,o,_,_,e,_⟩:=x; exact ⟨_,e⟩
 | set vs=>
   rcases x with ⟨_,⟨_,e⟩ | ⟨_,_,_,_,_,_,_,e,_⟩ | ⟨_,_,_,_,_,_,_,_,e,_⟩⟩
   ·exact ⟨_,e⟩
   ·exact ⟨_,e⟩
   ·exact ⟨_,e⟩
 | ins C dx fs=>obtain ⟨_,_,_,e,_⟩:=x; exact ⟨_,e⟩
 | own y=>exact x
 | xd fs=>obtain ⟨_,⟨_,_,_,e,_⟩,_⟩:=x; exact ⟨_,e⟩
 | rng lo hi=>obtain ⟨_,_,_,e⟩:=x; exact ⟨_,e⟩
 | frz ob u=>exact ⟨_,x.1⟩
 | tbl ps=>exact ⟨_,(show h.get? a=some _ from x)⟩
 | met f y=>exact ⟨_,(show h.get? a=some _ from x)⟩
 | ext φ=>exact x.2.1
def Fly (X:Cx) (zZ:List (Addr×Obj)) (H:Hp) (h:Heap) (e:Addr) (cls:Value) (dx:Option Addr):Prop:=FpOk X zZ H e/\∃ oe vs,h.get? e=some oe/\oe.cls=cls/\oe.dict=dx/\oe.data=.fields vs/\
 (vs[1]?=some .none\/∃ T oT ts,vs[1]?=some (.ref T)/\T≠e/\FpOk X zZ H T/\h.get? T=some oT/\oT.data=.fields ts/\ts[3]?=some .none)
theorem zfM {ch:List Addr} {h':Heap} (I:Inv X zZ σ H s) (hch:∀ b∈ch,FpOk X zZ H b) (keep:∀ b o,b∉frs X.stack->b∉ch->s.heap.get? b=some o->h'.get? b=some o) (slot:∀ b o,b∈frs X.stack->b∉ch->s.heap.get? b=some o->∃ sl,h'.get? b=some { o with slots:=sl }):
  Inv X zZ σ H { s with heap:=h' }:=by
 have hx:∀ b u,H b=some u->b∉frs X.stack/\b∉ch:=fun b u z=>⟨fun q=>(by rw [I.stkFree b q] at z; cases z),fun q=>(by rw [(hch b q).1] at z; cases z)⟩
 refine I.call (ch:=ch) (t':=s.toks) (d':=s.drawn) (g':=s.gens) ⟨fun b o q _ n1 n2=>keep b o n1 n2 q,fun b o q _ n1 n2=>slot b o n1 n2 q,fun _ _ _ z _=>z,fun b o q n=>?_,fun _ _ z=>z,fun _ _ _ z=>z,fun b ps z=>⟨#[],by rw [z]; simp⟩⟩ (fun a o q=>?_) I.bare fun b hb=>?_
 ·by_cases hb:b∈frs X.stack
  ·obtain ⟨sl,z⟩:=slot b o hb n q
   exact ⟨_,z⟩
  ·exact ⟨o,keep b o hb n q⟩
 ·refine (I.hok a o q).stay (fun b u hb z=>?_) (fun _ z=>z) fun _ _ z=>z
  rcases hb with rfl | hb
  ·exact keep _ _ (hx _ _ q).1 (hx _ _ q).2 z
  ·exact keep _ _ (hx _ _ hb).1 (hx _ _ hb).2 z
 ·obtain ⟨_,f1,_,f3,f4,f5⟩:=hch b hb
  exact ⟨f3,f1,f4,f5⟩
theorem zkC {Q:Unit->Shared->Prop} (hst:X.stack=X.env::X.outer) (hf:X.env.frame=some X.env.locals) (I:Inv X zZ σ H s) (F:Fly X zZ H s.heap e cls dx)
  (k:∀ h',Inv X zZ σ H { s with heap:=h' }->Fly X zZ H h' e cls dx->Q () { s with heap:=h' }):wpAny (model X.prog X.w) X.A (noteFrame (.ref e) X.env) (fun _ s'=>wpAny (model X.prog X.w) X.A (setFlight (.ref e) none) Q E s') E s:=by
 obtain ⟨fe,oe,vs,he,rfl,rfl,hd,ht⟩:=F
 have hfr:X.A.frames=some (X.env::X.outer):=hst ▸ I.ok.frames
 have hl:s.heap.FunFrames X.base (X.env::X.outer):=hst ▸ I.stack
 unfold noteFrame
 simp only [hf]
 rcases ht with h1 | ⟨T,oT,ts,h1,hTe,fT,hT,hdT,h3⟩
 ·refine qa (zo he hd h1 ?_)
  rw [zi (by decide)]
  refine zeO hfr hl hf he hd (Array.getElem?_eq_some_iff.mp h1).1 fun h' T' L=>?_
  rw [<- hst] at L
  have I':Inv X zZ σ H { s with heap:=h' }:=zfM (ch:=[e]) I (fun b hb=>by rw [qw.mp hb]; exact fe) (fun b o n1 n2 q=>L.keep b o n1 (fun z=>n2 (by simp [z])) q) fun b o n1 n2 q=>L.slot b o n1 (fun z=>n2 (by simp [z])) q
  obtain ⟨oe',vs',r1,r2,rd,r3,_,r5⟩:=L.rcd
  obtain ⟨oT,ts,t1,t2,t3⟩:=L.trc
  exact k h' I' ⟨fe,oe',vs',r1,r2,rd,r3,.inr ⟨T',oT,ts,r5,fun z=>absurd (qg he) (by have:=L.new; rw [z] at this; lia),I.fpOk L.new (I.hok.fresh L.new),t1,t2,t3⟩⟩
 ·refine qa (zo he hd h1 ?_)
  rw [zc (show (Value.ref T !=Value.none)=true from by simp)]
  refine qa (zo hT hdT h3 ?_)
  rw [zi (show ¬ ((Value.none == rawInt X.env.locals)=true) from by simp [rawInt])]
  refine qa (wpAny_setField hT hdT (Array.getElem?_eq_some_iff.mp h3).1 ?_)
  have other:∀ b,b≠T->(s.heap.update T (Obj.mapFields (·.setIfInBounds 3 Value.none))).get? b=s.heap.get? b:=fun b hb=>zk _ _ (Ne.symm hb)
  have noRecord:∀ b o,s.heap.get? b=some o->(∀ vs,o.data≠.fields vs)->b≠T:=fun b o hb hnf q=>by
   rw [q,hT] at hb; injection hb with hb; subst hb; exact hnf ts hdT
  refine zeO hfr (hl.of_keeps fun b o hb hnf=>⟨o,(other b (noRecord b o hb hnf)).trans hb,rfl⟩) hf ((other e (Ne.symm hTe)).trans he) hd (Array.getElem?_eq_some_iff.mp h1).1 fun h' T' L=>?_
  rw [<- hst] at L
  have hsz:(s.heap.update T (Obj.mapFields (·.setIfInBounds 3 Value.none))).objs.size=s.heap.objs.size:=Heap.size_update ..
  have I':Inv X zZ σ H { s with heap:=h' }:=zfM (ch:=[e,T]) I (fun b hb=>by
   rcases qD.mp hb with rfl | hb
   ·exact fe
   ·rw [qw.mp hb]; exact fT) (fun b o n1 n2 q=>L.keep b o n1 (fun z=>n2 (by simp [z])) ((other b fun z=>n2 (by simp [z])).trans q)) fun b o n1 n2 q=>L.slot b o n1 (fun z=>n2 (by simp [z])) ((other b fun z=>n2 (by simp [z])).trans q)
  obtain ⟨oe',vs',r1,r2,rd,r3,_,r5⟩:=L.rcd
  obtain ⟨oT,ts,t1,t2,t3⟩:=L.trc
  have hn:s.heap.objs.size<=T':=hsz ▸ L.new
  exact k h' I' ⟨fe,oe',vs',r1,r2,rd,r3,.inr ⟨T',oT,ts,r5,fun z=>absurd (qg he) (by rw [z] at hn; lia),I.fpOk hn (I.hok.fresh hn),t1,t2,t3⟩⟩
theorem zjv {Q:Unit->Shared->Prop} (hst:X.stack=X.env::X.outer) (hf:X.env.frame=some X.env.locals) (I:Inv X zZ σ H s) (F:Fly X zZ H s.heap e cls dx)
  (k:∀ h',Inv X zZ σ H { s with heap:=h' }->Fly X zZ H h' e cls dx->Q () { s with heap:=h' }):wpAny (model X.prog X.w) X.A (leaving X.env (.ref e)) Q E s:=by
 unfold leaving
 exact qa (zkC hst hf I F k)
theorem Inv.fpNew (I:Inv X zZ σ H s) (hb:s.heap.get? b=none) (hn:H' b=none):FpOk X zZ H' b:=by
 have no:∀ o,s.heap.get? b=some o->False:=fun o z=>by rw [hb] at z; cases z
 refine ⟨hn,fun z=>?_,fun z=>?_,?_,fun x c q z=>?_,fun p hp z=>?_⟩
 ·obtain ⟨m,⟨o,_,_,ho,_⟩,_⟩:=I.loc
  rw [<- z] at ho
  exact no o ho
 ·obtain ⟨_,o,ho,_⟩:=I.funs.mem z
  exact no o ho
 ·by_cases hx:b∈X.ex
  ·exact .inl hx
  ·refine .inr ?_
   cases q:X.s₀.heap.get? b with
   | none=>rfl
   | some o=>
     obtain ⟨o',z⟩:=I.base.there b o q hx
     exact (no o' z).elim
 ·obtain ⟨v,o,ho,_⟩:=I.cell x c q
  rw [z] at ho
  exact no o ho
 ·have:=(I.pin p hp).1
  rw [z] at this
  exact no _ this
theorem FpOk.few (f:FpOk X zZ H b):FpOk X [] H b:=⟨f.1,f.2.1,f.2.2.1,f.2.2.2.1,f.2.2.2.2.1,fun p hp=>f.2.2.2.2.2 p (qm _ (by simpa using hp))⟩
theorem Fly.few (F:Fly X zZ H h e cls dx):Fly X [] H h e cls dx:=by
 obtain ⟨f,oe,vs,h1,h2,hd,h3,h4⟩:=F
 refine ⟨f.few,oe,vs,h1,h2,hd,h3,h4.imp id ?_⟩
 rintro ⟨T,oT,ts,a1,a2,a3,a4⟩
 exact ⟨T,oT,ts,a1,a2,a3.few,a4⟩
theorem Inv.few (I:Inv X zZ σ H s):Inv X [] σ H s:=I.pins_of fun p hp=>I.pin p (qm _ (by simpa using hp))
def CXe (P:Program) (w:World):CXT:=fun outer H s E e s'=>∃ a cls dx H',e=.ref a/\s'.os=s.os/\AllBare s'.gens/\Un (frs outer) [] H H' s.heap s'.heap/\HOk P w H' s'.heap/\E cls dx H'/\s.heap.get? a=none/\H' a=none/\
 ∃ oe vs,s'.heap.get? a=some oe/\oe.cls=cls/\oe.dict=dx/\oe.data=.fields vs/\(vs[1]?=some .none\/∃ T oT ts,vs[1]?=some (.ref T)/\T≠a/\s.heap.get? T=none/\H' T=none/\s'.heap.get? T=some oT/\oT.data=.fields ts/\ts[3]?=some .none)
section
variable {K:W.Frag}
theorem zkm (I:Inv (cxOf (CXe P w) P w K mg base N qual scope f cd A outer s H E) [] σ H' s') (F:Fly (cxOf (CXe P w) P w K mg base N qual scope f cd A outer s H E) [] H' s'.heap e cls dx) (q:E cls dx H'):
  (cxOf (CXe P w) P w K mg base N qual scope f cd A outer s H E).xe (.ref e) s':=by
 refine zjv (X:=cxOf (CXe P w) P w K mg base N qual scope f cd A outer s H E) rfl rfl I F fun h' I' F'=>?_
 obtain ⟨fe,oe,vs,h1,h2,hd,h3,h4⟩:=F'
 have nw:∀ {b},FpOk (cxOf (CXe P w) P w K mg base N qual scope f cd A outer s H E) [] H' b->s.heap.get? b=none:=fun {b} z=>z.2.2.2.1.resolve_left fun z=>by cases z
 refine ⟨e,cls,dx,H',rfl,I'.os,I'.bare,I'.base,I'.hok,q,nw fe,fe.1,oe,vs,h1,h2,hd,h3,h4.imp id ?_⟩
 rintro ⟨T,oT,ts,a1,a2,a3,a4⟩
 exact ⟨T,oT,ts,a1,a2,nw a3,a3.1,a4⟩
end
theorem zlI (I:Inv X zZ σ H s) (h:CXe X.prog X.w X.stack H s E u s'):∃ a cls dx H',u=.ref a/\Inv X zZ σ H' s'/\Fly X zZ H' s'.heap a cls dx/\E cls dx H':=by
 obtain ⟨a,cls,dx,H',rfl,ho,hg,un,hok,q,n1,n2,oe,vs,h1,h2,hd,h3,h4⟩:=h
 refine ⟨a,cls,dx,H',rfl,I.call' ho un hok hg (fun b z=>absurd z (by simp)),⟨I.fpNew n1 n2,oe,vs,h1,h2,hd,h3,h4.imp id ?_⟩,q⟩
 rintro ⟨T,oT,ts,a1,a2,a3,a4,a5⟩
 exact ⟨T,oT,ts,a1,a2,I.fpNew a3 a4,a5⟩
def XW (X:Cx) (σ:St):XK:=fun cls dx H'=>∀ (a:Addr) (s':Shared),Inv X [] σ H' s'->Fly X [] H' s'.heap a cls dx->X.xe (.ref a) s'
def tCallX (X:Cx) (sp:Sp) (t:TA):TE:=fun σ H Q=>t σ H fun vs H1=>sp vs H1 Q (XW X σ)
theorem zkk (F:FnOk X.prog X.w X.K X.mg X.base (CXe X.prog X.w) k f fd ps sp) (hr:Room k X.A) (hg:Gl X x) (hm:X.mg x=some (.ref f)) (hk:W.keepIn X.K (.ref f)=true) (hb:Binds X.K fd ps [])
  (ha:PA X (e::es) t) (hdb:(x == ("__debug__":Str))=false:=by decide) (he:starEach (e::es) X.env=(false,eval e X.env)::starEach es X.env:=by rfl) (hpl:(backTo pos (starEach es X.env)).any (·.1)=false:=by rfl):
  PE X (.Call (.Name x p) (e::es) [] pos) (tCallX X sp t):=by
 intro zZ s σ H Q I h
 refine wpAny_Call_Name_kw (zlZ I hg hm ?_ hdb)
 refine W.callWith_K (h₀:=X.base) I.ok.mod.kin hk (thn (ha pos zZ s σ H _ I h) fun us s1 zq=>?_) he hpl
 obtain ⟨vs,H1,I1,r,q⟩:=zq
 refine ⟨I1.kIn,?_⟩
 have hl:(us++[]).length=ps.length:=by rw [qC,<- r.length]; exact F.len _ _ _ _ q
 refine wpAny_call (codeAny_mono (F.run X.A X.stack s1 H1 ⟨us,[]⟩ us vs Q (XW X σ) hr I1.env0 (by have:=hb s1 us I1.kIn hl; rwa [qC] at this) r q) fun r s' hq=>?_)
 cases r with
 | error e=>
   obtain ⟨a,cls,dx,H',rfl,I',F',q'⟩:=zlI I1 hq
   exact q' a s' I'.few F'.few
 | ok fl=>
   cases fl with
   | ret u=>exact I1.after hq
   | next=>exact False.elim hq
   | brk=>exact False.elim hq
   | cont=>exact False.elim hq
section
variable {K:W.Frag}
theorem Fun.okX {st:Stmt} (F:Fun K x qual st f fd) (S:FnScope N ps (defScope st)) (len:∀ vs H Q E,sp vs H Q E->vs.length=ps.length)
  (hbody:∀ (cdv:Value) (A:Around) (outer:List Env) (s:Shared) (H:Hp) (vs:List V) (Q:VK) (E:XK),Room k (A.deeper (envOfC qual (defScope st) s.heap.objs.size f cdv))->sp vs H Q E->
   ∃ t,PSs (cxOf (CXe P w) P w K mg base N qual (defScope st) f cdv A outer s H E) (defBody st) t/\t { nx:=fun _ H'=>Q .non H',rt:=Q } (start N vs) H):FnOk P w K mg base (CXe P w) (k + 1) f fd ps sp:=by
 obtain ⟨oc,od,kV,doc,pm,an,cdv,ct,osl,rfl,lk,hcd⟩:=F.ex
 exact zsb lk hcd S len fun A outer s H vs Q E hr hsp=>hbody cdv A outer s H vs Q E hr hsp
end
end L2
namespace FL
open PySem
inductive D where
 | non
 | bl (b:Bool)
 | int (i:Int)
 | str (l:List Nat)
 | tup (l:List D)
 | lst (l:List D)
 | dct (t:Bool) (ks vs:List D)
 | set (l:List D)
 | exc (c:List Nat) (fs:List (List Nat)) (vs:List D)
 deriving Inhabited
inductive S where
 | sh (d:D)
 | lst (l:List S)
 | dct (t:Bool) (ks:List D) (vs:List S)
 | set (l:List D)
 deriving Inhabited
mutual
def S.toD:S->D
 | .sh d=>d
 | .lst l=>.lst (S.toDs l)
 | .dct t ks vs=>.dct t ks (S.toDs vs)
 | .set l=>.set l
def S.toDs:List S->List D
 | []=>[]
 | s::r=>S.toD s::S.toDs r
end
@[simp] theorem S.toDs_map:∀ l:List S,S.toDs l=l.map S.toD
  | []=>rfl
  | s::r=>by rw [S.toDs,S.toDs_map r,qB]
@[simp] theorem S.toD_sh (d:D):(S.sh d).toD=d:=rfl
@[simp] theorem S.toD_lst (l:List S):(S.lst l).toD=.lst (l.map S.toD):=by rw [<- S.toDs_map]; rfl
@[simp] theorem S.toD_dct (t:Bool) (ks:List D) (l:List S):(S.dct t ks l).toD=.dct t ks (l.map S.toD):=by rw [<- S.toDs_map]; rfl
@[simp] theorem S.toD_set (l:List D):(S.set l).toD=.set l:=rfl
def S.isSh:S->Bool
 | .sh _=>true
 | _=>false
def S.flat:S->Bool
 | .sh _=>true
 | .lst l=>l.all S.isSh
 | .dct _ _ vs=>vs.all S.isSh
 | .set _=>false
inductive R where
 | v (s:S)
 | loc (i:Nat)
abbrev Env:=List (Option S)
abbrev WQ:=R->Env->Prop
abbrev WX:=D->Env->Prop
def NX:WX:=fun _ _=>False
abbrev WE:=Env->WQ->WX->Prop
abbrev WT:=Env->(Bool->Env->Prop)->WX->Prop
abbrev WA:=Env->(List R->Env->Prop)->WX->Prop
structure Ends where
 nx:Env->Prop
 rt:WQ
 bk:Env->Prop
 ct:Env->Prop
 ex:WX
abbrev WS:=Ends->Env->Prop
def slot (U:Env) (i:Nat):Option S:=match U,i with
 | [],_=>none
 | s::_,0=>s
 | _::r,i + 1=>slot r i
@[simp] theorem zos (s:Option S) (r:Env):slot (s::r) 0=s:=rfl
@[simp] theorem zoH (s:Option S) (r:Env) (i:Nat):slot (s::r) (i + 1)=slot r i:=rfl
def view (r:R) (U:Env):Option D:=match r with
 | .v s=>some s.toD
 | .loc i=>(slot U i).map S.toD
def zV (r:R) (U:Env):Option D:=match r with
 | .v s=>some s.toD
 | .loc i=>match slot U i with
   | some s=>if s.flat then some s.toD else none
   | none=>none
def give (r:R) (U:Env):Option (S×Env):=match r with
 | .v s=>some (s,U)
 | .loc i=>match slot U i with
   | some s=>some (.sh s.toD,U.set i (some (.sh s.toD)))
   | none=>none
def giveAll:List R->Env->Option (List S×Env)
 | [],U=>some ([],U)
 | r::rs,U=>match give r U with
   | some (s,U1)=>match giveAll rs U1 with
     | some (ss,U2)=>some (s::ss,U2)
     | none=>none
   | none=>none
def ixN (n:Nat) (i:Int):Option Nat:=if 0<=i then (if i < n then some i.toNat else none) else if -(n:Int)<=i then some (i + n).toNat else none
def atI {α:Type} (xs:List α) (i:Int):Option α:=(ixN xs.length i).bind fun j=>xs[j]?
def sIx (n d:Nat):Option Int->Nat
 | none=>d
 | some i=>if i < 0 then (i + n).toNat else min i.toNat n
def cutL {α:Type} (xs:List α) (lo hi:Option Int):List α:=(xs.drop (sIx xs.length 0 lo)).take (sIx xs.length xs.length hi - sIx xs.length 0 lo)
def big:Nat:=1000000
def zJ {α:Type} (o:Option α) (k:α->Prop):Prop:=match o with
 | some a=>k a
 | none=>False
@[simp] theorem zbM {α:Type} (a:α) (k:α->Prop):zJ (some a) k=k a:=rfl
@[simp] theorem znq {α:Type} (k:α->Prop):zJ (none:Option α) k=False:=rfl
@[simp] theorem zpy {α:Type} {c:Prop} [Decidable c] (a:α) (k:α->Prop):zJ (if c then some a else none) k=(c/\k a):=by
  by_cases h:c <;> simp [h]
def zF (i:Nat):WE:=fun U Q _=>match slot U i with
 | some (.sh d)=>Q (.v (.sh d)) U
 | some _=>Q (.loc i) U
 | none=>False
def wC (d:D):WE:=fun U Q _=>Q (.v (.sh d)) U
def zQ (op:D->D->Option S) (a b:WE):WE:=fun U Q E=>a U (fun x U1=>b U1 (fun y U2=>
 zJ (zV x U2) fun p=>zJ (zV y U2) fun q=>zJ (op p q) fun s=>Q (.v s) U2) E) E
def wUn (op:D->Option S) (a:WE):WE:=fun U Q E=>a U (fun x U1=>zJ (zV x U1) fun p=>zJ (op p) fun s=>Q (.v s) U1) E
def oAdd:D->D->Option S
 | .int i,.int j=>some (.sh (.int (i + j)))
 | .str x,.str y=>if x.length + y.length<=big then some (.sh (.str (x++y))) else none
 | .lst x,.lst y=>if x.length + y.length<=big then some (.lst ((x++y).map .sh)) else none
 | .tup x,.tup y=>if x.length + y.length<=big then some (.sh (.tup (x++y))) else none
 | _,_=>none
def oSub:D->D->Option S
 | .int i,.int j=>some (.sh (.int (i - j)))
 | _,_=>none
def mulOk (i j:Int):Bool:=(decide (-(2 ^ 64) < i) && decide (i < 2 ^ 64)) || (decide (-(2 ^ 64) < j) && decide (j < 2 ^ 64))
def oMul:D->D->Option S
 | .int i,.int j=>if mulOk i j then some (.sh (.int (i * j))) else none
 | _,_=>none
def oFdiv:D->D->Option S
 | .int i,.int j=>if 0 < j/\j < 18446744073709551616 then some (.sh (.int (i / j))) else none
 | _,_=>none
def oMod:D->D->Option S
 | .int i,.int j=>if 0 < j then some (.sh (.int (i % j))) else none
 | _,_=>none
def oPow:D->D->Option S
 | .int i,.int j=>if 0<=j/\j<=1000/\i.natAbs < 2 ^ 64 then some (.sh (.int (i ^ j.toNat))) else none
 | _,_=>none
def oNeg:D->Option S
 | .int i=>some (.sh (.int (-i)))
 | _=>none
mutual
def clash:D->D->Bool
 | .tup l,.tup m=>clashs l m
 | .lst l,.lst m=>clashs l m
 | .int _,.int _=>false
 | .int _,.str _=>false
 | .int _,.non=>false
 | .str _,.int _=>false
 | .str _,.str _=>false
 | .str _,.non=>false
 | .str _,.bl _=>false
 | .bl _,.bl _=>false
 | .bl _,.str _=>false
 | .bl _,.non=>false
 | .non,.int _=>false
 | .non,.str _=>false
 | .non,.bl _=>false
 | .non,.non=>false
 | _,_=>true
def clashs:List D->List D->Bool
 | a::l,b::m=>clash a b || clashs l m
 | _,_=>false
end
mutual
def dep:D->Nat
 | .tup l=>deps l + 1
 | .lst l=>deps l + 1
 | _=>0
def deps:List D->Nat
 | []=>0
 | a::l=>max (dep a) (deps l)
end
open Classical in
def cEq (a b:D):Option Bool:=if clash a b || decide (30 < dep a) then none else some (decide (a=b))
def cNe (a b:D):Option Bool:=(cEq a b).map (!·)
def ltD:D->D->Option Bool
 | .int i,.int j=>some (decide (i < j))
 | .str x,.str y=>some (decide (x < y))
 | _,_=>none
def cLt (a b:D):Option Bool:=ltD a b
def cGt (a b:D):Option Bool:=ltD b a
def cLe:D->D->Option Bool
 | .int i,.int j=>some (decide (i<=j))
 | .str x,.str y=>some (!decide (y < x))
 | _,_=>none
def cGe:D->D->Option Bool
 | .int i,.int j=>some (decide (j<=i))
 | .str x,.str y=>some (!decide (x < y))
 | _,_=>none
def isKey1:D->Bool
 | .int _=>true
 | .str _=>true
 | _=>false
def isKey:Bool->D->Bool
 | true,.tup l=>l.all isKey1
 | false,d=>isKey1 d
 | _,_=>false
open Classical in
def cIn (a:D):D->Option Bool
 | .lst l=>if l.any (fun x=>clash x a || decide (30 < dep x)) then none else some (decide (a∈l))
 | .tup l=>if l.any (fun x=>clash x a || decide (30 < dep x)) then none else some (decide (a∈l))
 | .dct t ks _=>if isKey t a then some (decide (a∈ks)) else none
 | _=>none
open Classical in
def cIs (a:D):D->Option Bool
 | .non=>some (decide (a=.non))
 | .bl b=>some (decide (a=.bl b))
 | _=>none
def cIsNot (a b:D):Option Bool:=(cIs a b).map (!·)
def truth:D->Option Bool
 | .non=>some false
 | .bl b=>some b
 | .int i=>some (decide (i≠0))
 | .str l=>some (!l.isEmpty)
 | .tup l=>some (!l.isEmpty)
 | .lst l=>some (!l.isEmpty)
 | _=>none
def wCmp (op:D->D->Option Bool) (a b:WE):WT:=fun U Q E=>a U (fun x U1=>b U1 (fun y U2=>
 zJ (view x U2) fun p=>zJ (view y U2) fun q=>zJ (op p q) fun c=>Q c U2) E) E
def wTest (a:WE):WT:=fun U Q E=>a U (fun x U1=>zJ (view x U1) fun p=>zJ (truth p) fun c=>Q c U1) E
def wtAnd (a b:WT):WT:=fun U Q E=>a U (fun c U1=>if c then b U1 Q E else Q false U1) E
def wtOr (a b:WT):WT:=fun U Q E=>a U (fun c U1=>if c then Q true U1 else b U1 Q E) E
def wtNot (a:WT):WT:=fun U Q E=>a U (fun c U1=>Q (!c) U1) E
def wOfT (t:WT):WE:=fun U Q E=>t U (fun c U1=>Q (.v (.sh (.bl c))) U1) E
def wIfE (c:WT) (a b:WE):WE:=fun U Q E=>c U (fun k U1=>if k then a U1 Q E else b U1 Q E) E
def wAndV (a b:WE):WE:=fun U Q E=>a U (fun x U1=>match view x U1 with
 | some (.bl c)=>if c then b U1 Q E else Q (.v (.sh (.bl false))) U1
 | _=>False) E
def wNotV (a:WE):WE:=fun U Q E=>a U (fun x U1=>zJ (view x U1) fun p=>zJ (truth p) fun c=>Q (.v (.sh (.bl (!c)))) U1) E
def zH:WA:=fun U Q _=>Q [] U
def zG (a:WE) (b:WA):WA:=fun U Q E=>a U (fun r U1=>b U1 (fun rs U2=>Q (r::rs) U2) E) E
def wTup (a:WA):WE:=fun U Q E=>a U (fun rs U1=>zJ (if rs.length<=big then giveAll rs U1 else none) fun p=>Q (.v (.sh (.tup (p.1.map S.toD)))) p.2) E
def wLst (a:WA):WE:=fun U Q E=>a U (fun rs U1=>zJ (if rs.length<=big then giveAll rs U1 else none) fun p=>Q (.v (.lst p.1)) p.2) E
open Classical in
def lk {α:Type}:List D->List α->D->Option α
 | k'::ks,v::vs,k=>if k'=k then some v else lk ks vs k
 | _,_,_=>none
def ixS:S->D->Option S
 | .sh (.tup l),.int i=>(atI l i).map .sh
 | .sh (.lst l),.int i=>(atI l i).map .sh
 | .sh (.str l),.int i=>(atI l i).map fun c=>.sh (.str [c])
 | .lst l,.int i=>atI l i
 | _,_=>none
def wIx (a b:WE):WE:=fun U Q E=>a U (fun x U1=>b U1 (fun y U2=>zJ (view y U2) fun q=>match x with
 | .v s=>zJ (ixS s q) fun t=>Q (.v t) U2
 | .loc i=>match slot U2 i with
   | some s=>match ixS s q with
     | some (.sh d)=>Q (.v (.sh d)) U2
     | _=>False
   | none=>False) E) E
def wPart (a:Option WE):Env->(Option Int->Env->Prop)->WX->Prop:=match a with
 | none=>fun U Q _=>Q none U
 | some a=>fun U Q E=>a U (fun x U1=>match view x U1 with
   | some (.int i)=>Q (some i) U1
   | _=>False) E
def slD (d:D) (lo hi:Option Int):Option S:=match d with
 | .str l=>some (.sh (.str (cutL l lo hi)))
 | .tup l=>some (.sh (.tup (cutL l lo hi)))
 | .lst l=>some (.lst ((cutL l lo hi).map .sh))
 | _=>none
def wSl (a:WE) (lo hi:Option WE):WE:=fun U Q E=>a U (fun x U1=>wPart lo U1 (fun l U2=>wPart hi U2 (fun h U3=>
 zJ (zV x U3) fun d=>zJ (slD d l h) fun s=>Q (.v s) U3) E) E) E
abbrev WF:=List S->(S->List S->Prop)->(D->List S->Prop)->Prop
def prep:List Bool->List R->Env->Option (List S×Env)
 | _,[],U=>some ([],U)
 | ms,.v s::rs,U=>match prep ms.tail rs U with
   | some (ss,U1)=>some (s::ss,U1)
   | none=>none
 | ms,.loc i::rs,U=>match slot U i with
   | some s=>if ms.headD false then (match prep ms.tail rs (U.set i none) with
     | some (ss,U1)=>some (s::ss,U1)
     | none=>none)
     else (match prep ms.tail rs (U.set i (some (.sh s.toD))) with
      | some (ss,U1)=>some (.sh s.toD::ss,U1)
      | none=>none)
   | none=>none
def back:List Bool->List R->List S->Env->Env
 | ms,.v _::rs,_::ss,U=>back ms.tail rs ss U
 | ms,.loc i::rs,s::ss,U=>if ms.headD false then back ms.tail rs ss (U.set i (some s)) else back ms.tail rs ss U
 | _,_,_,U=>U
def zS (f:WF) (ms:List Bool) (a:WA):WE:=fun U Q E=>a U (fun rs U1=>zJ (prep ms rs U1) fun p=>
 f p.1 (fun s ss=>Q (.v s) (back ms rs ss p.2)) (fun x ss=>E x (back ms rs ss p.2))) E
def wB (f:List D->Option S) (a:WA):WE:=fun U Q E=>a U (fun rs U1=>zJ (rs.mapM fun r=>zV r U1) fun ds=>zJ (f ds) fun s=>Q (.v s) U1) E
def wAppend (j:Nat) (e:WE):WE:=fun U Q E=>match slot U j with
 | some (.lst _)=>e U (fun r U2=>zJ (give r U2) fun p=>match slot p.2 j with
   | some (.lst l)=>l.length < big/\Q (.v (.sh .non)) (p.2.set j (some (.lst (l++[p.1]))))
   | _=>False) E
 | _=>False
def bLen:List D->Option S
 | [.str l]=>some (.sh (.int l.length))
 | [.tup l]=>some (.sh (.int l.length))
 | [.lst l]=>some (.sh (.int l.length))
 | _=>none
def bInt:List D->Option S
 | [.int i]=>some (.sh (.int i))
 | [.bl b]=>some (.sh (.int (if b then 1 else 0)))
 | _=>none
def bTuple:List D->Option S
 | [.tup l]=>some (.sh (.tup l))
 | [.lst l]=>some (.sh (.tup l))
 | _=>none
def bList:List D->Option S
 | [.tup l]=>some (.lst (l.map .sh))
 | [.lst l]=>some (.lst (l.map .sh))
 | _=>none
def bMax:List D->Option S
 | [.int i,.int j]=>some (.sh (.int (if j > i then j else i)))
 | _=>none
def bMin:List D->Option S
 | [.int i,.int j]=>some (.sh (.int (if j < i then j else i)))
 | _=>none
def wPass:WS:=fun D U=>D.nx U
def zR (a b:WS):WS:=fun D U=>a { D with nx:=b D } U
def wIf (c:WT) (a b:WS):WS:=fun D U=>c U (fun k U1=>if k then a D U1 else b D U1) D.ex
def wRet (a:WE):WS:=fun D U=>a U D.rt D.ex
def wExpr (a:WE):WS:=fun D U=>a U (fun _ U1=>D.nx U1) D.ex
abbrev WG:=S->Env->(Env->Prop)->Prop
def zI (i:Nat):WG:=fun s U Q=>Q (U.set i (some s))
def gTups:List WG->List D->Env->(Env->Prop)->Prop
 | [],[],U,Q=>Q U
 | g::gs,d::ds,U,Q=>g (.sh d) U fun U1=>gTups gs ds U1 Q
 | _,_,_,_=>False
def gTup (gs:List WG):WG:=fun s U Q=>match s.toD with
 | .tup ds=>ds.length=gs.length/\gTups gs ds U Q
 | _=>False
def wSetIx (j:Nat) (i e:WE):WS:=fun D U=>e U (fun r U1=>zF j U1 (fun x U2=>i U2 (fun y U3=>zJ (view y U3) fun q=>zJ (give r U3) fun p=>match x,q,slot p.2 j with
 | .loc k,.int n,some (.lst l)=>k=j/\zJ (ixN l.length n) fun m=>D.nx (p.2.set j (some (.lst (l.set m p.1))))
 | _,_,_=>False) D.ex) D.ex) D.ex
def zT (g:WG) (a:WE):WS:=fun D U=>a U (fun r U1=>zJ (give r U1) fun p=>g p.1 p.2 D.nx) D.ex
abbrev WI:=Env->(List D->Env->Prop)->WX->Prop
def items:D->Option (List D)
 | .lst l=>some l
 | .tup l=>some l
 | .str l=>some (l.map fun c=>.str [c])
 | _=>none
def wIter (a:WE):WI:=fun U Q E=>a U (fun r U1=>zJ (give r U1) fun p=>zJ (items p.1.toD) fun l=>Q l p.2) E
def fromTo (lo:Int) (n:Nat):List D:=(List.range n).map fun (k:Nat)=>.int (lo + (k:Int))
def wRange1 (a:WE):WI:=fun U Q E=>a U (fun r U1=>match view r U1 with
 | some (.int j)=>(-big<=j/\j<=big)/\Q (fromTo 0 j.toNat) U1
 | _=>False) E
def wRange2 (a b:WE):WI:=fun U Q E=>a U (fun r U1=>b U1 (fun t U2=>match view r U2,view t U2 with
 | some (.int i),some (.int j)=>(-big<=i/\i<=big/\-big<=j/\j<=big)/\Q (fromTo i (j - i).toNat) U2
 | _,_=>False) E) E
def wLoop (g:WG) (body:WS):List D->WS
 | [],D,U=>D.nx U
 | x::xs,D,U=>g (.sh x) U fun U1=>body { D with nx:=wLoop g body xs D,ct:=wLoop g body xs D,bk:=D.nx } U1
def wFor (it:WI) (g:WG) (body:WS):WS:=fun D U=>it U (fun l U1=>wLoop g body l D U1) D.ex
def wWhile (c:WT) (body:WS):WS:=fun D U=>∃ J:Nat->Env->Prop,(∃ m,J m U)/\∀ m U,J m U->c U (fun k U1=>if k then
 body { D with nx:=fun U2=>∃ m',m' < m/\J m' U2,ct:=fun U2=>∃ m',m' < m/\J m' U2,bk:=D.nx } U1 else D.nx U1) D.ex
abbrev WB:=Env->(Env->Prop)->WX->Prop
def wYes:WT:=fun U Q _=>Q true U
def bLoop (g:WG) (c:WT) (b:WB):List D->WB
 | [],U,Q,_=>Q U
 | x::xs,U,Q,E=>g (.sh x) U fun U1=>c U1 (fun k U2=>if k then b U2 (fun U3=>bLoop g c b xs U3 Q E) E else bLoop g c b xs U2 Q E) E
def bFor (it:WI) (g:WG) (c:WT) (b:WB):WB:=fun U Q E=>it U (fun l U1=>bLoop g c b l U1 Q E) E
def bEmit (n:Nat) (a:WE):WB:=fun U Q E=>a U (fun r U1=>zJ (give r U1) fun p=>match slot p.2 n with
 | some (.lst l)=>l.length < big/\Q (p.2.set n (some (.lst (l++[p.1]))))
 | _=>False) E
def wLC (n k:Nat) (it:WI) (g:WG) (c:WT) (b:WB):WE:=fun U Q E=>it U (fun l U1=>
 bLoop g c b l (U1++some (.lst [])::List.replicate k none) (fun U2=>zJ (slot U2 n) fun s=>Q (.v s) (U2.take n)) NX) E
def finals:List S->Env->Option (List S)
 | [],_=>some []
 | .sh d::ss,_::U=>(finals ss U).map (.sh d::·)
 | _::ss,some s::U=>(finals ss U).map (s::·)
 | _,_=>none
def wFn (n m:Nat) (ks:List Nat) (body:WS):WF:=fun ss P PX=>ss.length=n/\(∀ i s,ss[i]?=some s->i∈ks\/s.isSh=true)/\
 body { nx:=fun U=>zJ (finals ss U) fun fs=>P (.sh .non) fs
        rt:=fun r U=>match r with
         | .v s=>zJ (finals ss U) fun fs=>P s fs
         | .loc i=>zJ (slot U i) fun s=>if i < n then zJ (finals ss (U.set i (some (.sh s.toD)))) fun fs=>P (.sh s.toD) fs else zJ (finals ss U) fun fs=>P s fs
        bk:=fun _=>False
        ct:=fun _=>False
        ex:=fun x U=>zJ (finals ss U) fun fs=>PX x fs } (ss.map some++List.replicate (m - n) none)
end FL
namespace FL
open PySem L2
def keyD:Key->D
 | .inl i=>.int i
 | .inr x=>.str x.cps.toList
def excφ (a C:Addr) (dx:Option Addr) (h:Heap):Prop:=∃ o vs,h.get? a=some o/\o.cls=.ref C/\o.dict=dx/\o.data=.fields vs
def noTup:HO->Bool
 | .tup _=>false
 | _=>true
def XDct (F:Hp) (dx:Option Addr) (fs:List (List Nat)) (vs:List D):Prop:=(dx=none/\fs=[]/\vs=[])\/∃ p f i,dx=some p/\fs=[f]/\vs=[.int i]/\F p=some (.xd [((⟨f.toArray⟩:Str),.int i)])
mutual
inductive Rep (K:W.Frag) (F:Hp):V->D->Prop
 | non:Rep K F .non .non
 | bl (b:Bool):Rep K F (.bl b) (.bl b)
 | int (i:Int):Rep K F (.int i) (.int i)
 | str {x:Str} {l:List Nat}:x.cps.toList=l->l.length<=16777216->Rep K F (.str x) (.str l)
 | tup {a:Addr} {xs:List V} {ds:List D}:F a=some (.tup xs)->zX K F xs ds->Rep K F (.ref a) (.tup ds)
 | lst {a:Addr} {xs:List V} {ds:List D}:SqL K F a xs->zX K F xs ds->Rep K F (.ref a) (.lst ds)
 | dK {a:Addr} {z3:List (Key×V)} {ks vs:List D}:Rd F a (.dK z3)->ks=z3.map (fun p=>keyD p.1)->zX K F (z3.map (·.2)) vs->Rep K F (.ref a) (.dct false ks vs)
 | dT {a:Addr} {z3:List (List Key×V)} {ks vs:List D}:Rd F a (.dT z3)->ks=z3.map (fun p=>D.tup (p.1.map keyD))->zX K F (z3.map (·.2)) vs->Rep K F (.ref a) (.dct true ks vs)
 | st {a:Addr} {xs:List V} {ds:List D}:F a=some (.set xs)->zX K F xs ds->Rep K F (.ref a) (.set ds)
 | exc {a C:Addr} {dx:Option Addr} {c:List Nat} {fs:List (List Nat)} {vs:List D}:F a=some (.ext (excφ a C dx))->W.nsIn K mainGlobals (⟨c.toArray⟩:Str)=some (some (.ref C))->XDct F dx fs vs->Rep K F (.ref a) (.exc c fs vs)
inductive zX (K:W.Frag) (F:Hp):List V->List D->Prop
 | nil:zX K F [] []
 | cons {x:V} {d:D} {xs:List V} {ds:List D}:Rep K F x d->zX K F xs ds->zX K F (x::xs) (d::ds)
end
mutual
inductive SRep (K:W.Frag) (F H:Hp):V->S->List Addr->Prop
 | sh {v:V} {d:D}:Rep K F v d->SRep K F H v (.sh d) []
 | lst {a:Addr} {xs:List V} {l:List S} {fp:List Addr}:H a=some (.lst xs)->zN K F H xs l fp->SRep K F H (.ref a) (.lst l) (a::fp)
 | dK {a:Addr} {z3:List (Key×V)} {ks:List D} {l:List S} {fp:List Addr}:H a=some (.dK z3)->ks=z3.map (fun p=>keyD p.1)->zN K F H (z3.map (·.2)) l fp->SRep K F H (.ref a) (.dct false ks l) (a::fp)
 | dT {a:Addr} {z3:List (List Key×V)} {ks:List D} {l:List S} {fp:List Addr}:H a=some (.dT z3)->ks=z3.map (fun p=>D.tup (p.1.map keyD))->zN K F H (z3.map (·.2)) l fp->SRep K F H (.ref a) (.dct true ks l) (a::fp)
 | st {a:Addr} {xs:List V} {ds:List D}:H a=some (.set xs)->zX K F xs ds->SRep K F H (.ref a) (.set ds) [a]
inductive zN (K:W.Frag) (F H:Hp):List V->List S->List Addr->Prop
 | nil:zN K F H [] [] []
 | cons {x:V} {s:S} {xs:List V} {l:List S} {fp fq:List Addr}:SRep K F H x s fp->zN K F H xs l fq->zN K F H (x::xs) (s::l) (fp++fq)
end
theorem Rd.mono (h:zK F F') (r:Rd F a u):Rd F' a u:=by
 rcases r with r | ⟨o,r⟩
 ·exact .inl (h _ _ r)
 ·exact .inr ⟨o,h _ _ r⟩
theorem SqL.mono (h:zK F F') (r:SqL K F a xs):SqL K F' a xs:=r.elim (fun r=>.inl (Rd.mono h r)) .inr
theorem SqT.mono (h:zK F F') (r:SqT K F a xs):SqT K F' a xs:=r.elim (fun r=>.inl (Rd.mono h r)) .inr
theorem zX.ind {P:List V->List D->Prop} (hn:P [] []) (hc:∀ {x:V} {d:D} {xs:List V} {ds:List D},Rep K F x d->zX K F xs ds->P xs ds->P (x::xs) (d::ds)) (r:zX K F xs ds):P xs ds:=
 zX.rec (motive_1:=fun _ _ _=>True) (motive_2:=fun xs ds _=>P xs ds) trivial (fun _=>trivial) (fun _=>trivial) (fun _ _=>trivial) (fun _ _ _=>trivial) (fun _ _ _=>trivial) (fun _ _ _ _=>trivial) (fun _ _ _ _=>trivial) (fun _ _ _=>trivial) (fun _ _ _=>trivial) hn (fun a b _ ih=>hc a b ih) r
theorem zN.ind {P:List V->List S->List Addr->Prop} (hn:P [] [] []) (hc:∀ {x:V} {s:S} {xs:List V} {l:List S} {fp fq:List Addr},SRep K F H x s fp->zN K F H xs l fq->P xs l fq->P (x::xs) (s::l) (fp++fq)) (r:zN K F H xs l fp):P xs l fp:=
 zN.rec (motive_1:=fun _ _ _ _=>True) (motive_2:=fun xs l fp _=>P xs l fp) (fun _=>trivial) (fun _ _ _=>trivial) (fun _ _ _ _=>trivial) (fun _ _ _ _=>trivial) (fun _ _=>trivial) hn (fun a b _ ih=>hc a b ih) r
theorem XDct.mono (h:zK F F') (x:XDct F dx fs vs):XDct F' dx fs vs:=x.imp id fun ⟨p,f,i,e1,e2,e3,e4⟩=>⟨p,f,i,e1,e2,e3,h _ _ e4⟩
theorem Rep.mono (h:zK F F') (r:Rep K F v d):Rep K F' v d:=
 Rep.rec (motive_1:=fun v d _=>Rep K F' v d) (motive_2:=fun v d _=>zX K F' v d) .non .bl .int (fun e z=>.str e z) (fun e _ ih=>.tup (h _ _ e) ih) (fun e _ ih=>.lst (SqL.mono h e) ih) (fun e k _ ih=>.dK (Rd.mono h e) k ih) (fun e k _ ih=>.dT (Rd.mono h e) k ih) (fun e _ ih=>.st (h _ _ e) ih) (fun e k x=>.exc (h _ _ e) k (x.mono h)) .nil (fun _ _ a b=>.cons a b) r
theorem zX.mono (h:zK F F') (r:zX K F v d):zX K F' v d:=zX.ind .nil (fun a _ ih=>.cons (Rep.mono h a) ih) r
theorem SRep.mono (h:zK F F') (r:SRep K F H v s fp):(∀ a∈fp,H' a=H a)->SRep K F' H' v s fp:=
 SRep.rec (motive_1:=fun v s fp _=>(∀ a∈fp,H' a=H a)->SRep K F' H' v s fp) (motive_2:=fun v s fp _=>(∀ a∈fp,H' a=H a)->zN K F' H' v s fp)
  (fun r _=>.sh (Rep.mono h r)) (fun e _ ih k=>.lst ((k _ qp).trans e) (ih fun a ha=>k a (qo _ ha)))
  (fun e q _ ih k=>.dK ((k _ qp).trans e) q (ih fun a ha=>k a (qo _ ha))) (fun e q _ ih k=>.dT ((k _ qp).trans e) q (ih fun a ha=>k a (qo _ ha)))
  (fun e r k=>.st ((k _ qp).trans e) (zX.mono h r)) (fun _=>.nil) (fun _ _ a b k=>.cons (a fun c hc=>k c (qm _ hc)) (b fun c hc=>k c (qk _ hc))) r
theorem zN.mono (h:zK F F') (r:zN K F H v s fp):(∀ a∈fp,H' a=H a)->zN K F' H' v s fp:=
 zN.ind (P:=fun v s fp=>(∀ a∈fp,H' a=H a)->zN K F' H' v s fp) (fun _=>.nil) (fun a _ b k=>.cons (SRep.mono h a fun c hc=>k c (qm _ hc)) (b fun c hc=>k c (qk _ hc))) r
theorem SRep.frz (h:zK F F') (r:SRep K F H v s fp):(∀ a∈fp,F' a=H a)->Rep K F' v s.toD:=
 SRep.rec (motive_1:=fun v s fp _=>(∀ a∈fp,F' a=H a)->Rep K F' v s.toD) (motive_2:=fun v s fp _=>(∀ a∈fp,F' a=H a)->zX K F' v (S.toDs s))
  (fun r _=>Rep.mono h r) (fun e _ ih k=>.lst (SqL.of ((k _ qp).trans e)) (ih fun a ha=>k a (qo _ ha)))
  (fun e q _ ih k=>.dK (.of ((k _ qp).trans e)) q (ih fun a ha=>k a (qo _ ha))) (fun e q _ ih k=>.dT (.of ((k _ qp).trans e)) q (ih fun a ha=>k a (qo _ ha)))
  (fun e r k=>.st ((k _ qp).trans e) (zX.mono h r)) (fun _=>.nil) (fun _ _ a b k=>.cons (a fun c hc=>k c (qm _ hc)) (b fun c hc=>k c (qk _ hc))) r
theorem zN.frz (h:zK F F') (r:zN K F H v s fp):(∀ a∈fp,F' a=H a)->zX K F' v (S.toDs s):=
 zN.ind (P:=fun v s fp=>(∀ a∈fp,F' a=H a)->zX K F' v (S.toDs s)) (fun _=>.nil) (fun a _ b k=>.cons (SRep.frz h a fun c hc=>k c (qm _ hc)) (b fun c hc=>k c (qk _ hc))) r
theorem SRep.view (h:zK F H) (r:SRep K F H v s fp):Rep K H v s.toD:=SRep.frz h r fun _ _=>rfl
theorem SRep.in_:∀ {v:V} {s:S} {fp:List Addr},SRep K F H v s fp->∀ a∈fp,∃ o,H a=some o/\noTup o=true:=by
 intro v s fp r
 refine SRep.rec (motive_1:=fun v s fp _=>∀ a∈fp,∃ o,H a=some o/\noTup o=true) (motive_2:=fun v s fp _=>∀ a∈fp,∃ o,H a=some o/\noTup o=true) ?_ ?_ ?_ ?_ ?_ ?_ ?_ r
 ·intro v d r a ha; cases ha
 ·grind [noTup]
 ·grind [noTup]
 ·grind [noTup]
 ·grind [noTup]
 ·intro a ha; cases ha
 grind
inductive zM (K:W.Frag) (F H:Hp):Env->St->List Addr->Prop
 | nil:zM K F H [] [] []
 | no {U:Env} {σ:St} {o:Option V} {fp:List Addr}:zM K F H U σ fp->zM K F H (none::U) (o::σ) fp
 | so {U:Env} {σ:St} {v:V} {s:S} {fp fq:List Addr}:SRep K F H v s fp->zM K F H U σ fq->zM K F H (some s::U) (some v::σ) (fp++fq)
theorem zM.len (r:zM K F H U σ fp):U.length=σ.length:=by
 induction r with
 | nil=>rfl
 | no _ ih=>exact congrArg (· + 1) ih
 | so _ _ ih=>exact congrArg (· + 1) ih
theorem zM.mono (h:zK F F') (r:zM K F H U σ fp) (k:∀ a∈fp,H' a=H a):zM K F' H' U σ fp:=by
 induction r with
 | nil=>exact .nil
 | no _ ih=>exact .no (ih k)
 | so a _ ih=>exact .so (SRep.mono h a fun c hc=>k c (qm _ hc)) (ih fun c hc=>k c (qk _ hc))
theorem zM.in_ (r:zM K F H U σ fp):∀ a∈fp,∃ o,H a=some o/\noTup o=true:=by
 induction r with
 | nil=>exact fun a ha=>nomatch ha
 | no _ ih=>exact ih
 | so q _ ih=>exact fun a ha=>(qA.mp ha).elim (fun z=>SRep.in_ q a z) fun z=>ih a z
theorem zM.app (r:zM K F H U σ fp) (r':zM K F H U' σ' fq):zM K F H (U++U') (σ++σ') (fp++fq):=by
 induction r with
 | nil=>exact r'
 | no _ ih=>exact .no ih
 | so a _ ih=>rw [qr]; exact .so a ih
inductive ECut (K:W.Frag) (F H:Hp) (U:Env) (σ:St) (U':Env) (σ':St) (fp:List Addr):Prop
 | mk (f1 f2:List Addr):fp=f1++f2->zM K F H U σ f1->zM K F H U' σ' f2->ECut K F H U σ U' σ' fp
theorem zM.cut (e:U.length=σ.length) (r:zM K F H (U++U') (σ++σ') fp):ECut K F H U σ U' σ' fp:=by
 induction U generalizing σ fp with
 | nil=>cases σ with
   | nil=>exact ⟨[],fp,rfl,.nil,r⟩
   | cons _ _=>exact absurd e.symm (Nat.succ_ne_zero _)
 | cons x U ih=>cases σ with
   | nil=>exact absurd e (Nat.succ_ne_zero _)
   | cons y σ=>cases r with
     | no r=>
       obtain ⟨f1,f2,rfl,a,b⟩:=ih (Nat.succ.inj e) r
       exact ⟨f1,f2,rfl,.no a,b⟩
     | so q r=>
       obtain ⟨f1,f2,rfl,a,b⟩:=ih (Nat.succ.inj e) r
       exact ⟨_,f2,(qr ..).symm,.so q a,b⟩
def EUp (K:W.Frag) (F H:Hp) (U:Env) (σ:St) (i:Nat) (fa fb:List Addr):Prop:=∀ {F' H':Hp} {o:Option S} {u:Option V} {fi':List Addr},zK F F'->(∀ a∈fa++fb,H' a=H a)->(zM K F' H' [o] [u] fi')->zM K F' H' (U.set i o) (σ.set i u) (fa++(fi'++fb))
inductive EAt (K:W.Frag) (F H:Hp) (U:Env) (σ:St) (fp:List Addr) (i:Nat) (s:S):Prop
 | mk (v:V) (fa fi fb:List Addr):σ[i]?=some (some v)->fp=fa++(fi++fb)->SRep K F H v s fi->EUp K F H U σ i fa fb->EAt K F H U σ fp i s
inductive EPut (K:W.Frag) (F H:Hp) (U:Env) (σ:St) (fp:List Addr) (i:Nat):Prop
 | mk (fa fi fb:List Addr):fp=fa++(fi++fb)->EUp K F H U σ i fa fb->EPut K F H U σ fp i
theorem zM.at:∀ {U:Env} {σ:St} {fp:List Addr} {i:Nat} {s:S},zM K F H U σ fp->slot U i=some s->EAt K F H U σ fp i s
 | _,_,_,_,_,.nil,e=>by simp [slot] at e
 | _,_,_,0,_,.no r,e=>by simp at e
 | _,_,_,0,s,.so (fp:=fp) (fq:=fq) q r,e=>by
   simp at e; subst e
   refine ⟨_,[],fp,fq,rfl,rfl,q,fun {F' H' o u fi'} h k x=>?_⟩
   have r':=zM.mono (H':=H') h r fun a ha=>k a ha
   exact x.app r'
 | _,_,_,i + 1,s,.no r,e=>by
   obtain ⟨v,fa,fi,fb,e1,rfl,q,up⟩:=zM.at r (by simpa using e)
   exact ⟨v,fa,fi,fb,by simpa using e1,rfl,q,fun h k x=>.no (up h k x)⟩
 | _,_,_,i + 1,s,.so (fp:=fp) (fq:=fq) p r,e=>by
   obtain ⟨v,fa,fi,fb,e1,rfl,q,up⟩:=zM.at r (by simpa using e)
   refine ⟨v,fp++fa,fi,fb,by simpa using e1,(qr ..).symm,q,fun {F' H' o u fi'} h k x=>?_⟩
   rw [qr]
   exact .so (SRep.mono h p fun a ha=>k a (qm _ (qm _ ha))) (up h (fun a ha=>k a ((qA.mp ha).elim (fun z=>qm _ (qk _ z)) fun z=>qk _ z)) x)
theorem zM.put:∀ {U:Env} {σ:St} {fp:List Addr} {i:Nat},zM K F H U σ fp->i < U.length->EPut K F H U σ fp i
 | _,_,_,_,.nil,e=>by simp at e
 | _,_,fp,0,.no r,e=>⟨[],[],fp,rfl,fun {F' H' o u fi'} h k x=>x.app (zM.mono (H':=H') h r fun a ha=>k a ha)⟩
 | _,_,_,0,.so (fp:=fp) (fq:=fq) q r,e=>⟨[],fp,fq,rfl,fun {F' H' o u fi'} h k x=>x.app (zM.mono (H':=H') h r fun a ha=>k a ha)⟩
 | _,_,_,i + 1,.no r,e=>by
   obtain ⟨fa,fi,fb,rfl,up⟩:=zM.put (i:=i) r (by simpa using e)
   exact ⟨fa,fi,fb,rfl,fun h k x=>.no (up h k x)⟩
 | _,_,_,i + 1,.so (fp:=fp) (fq:=fq) p r,e=>by
   obtain ⟨fa,fi,fb,rfl,up⟩:=zM.put (i:=i) r (by simpa using e)
   refine ⟨fp++fa,fi,fb,(qr ..).symm,fun {F' H' o u fi'} h k x=>?_⟩
   rw [qr]
   exact .so (SRep.mono h p fun a ha=>k a (qm _ (qm _ ha))) (up h (fun a ha=>k a ((qA.mp ha).elim (fun z=>qm _ (qk _ z)) fun z=>qk _ z)) x)
inductive Own (K:W.Frag) (U:Env) (σ:St) (F G H:Hp):Prop
 | mk (fp:List Addr):zM K F H U σ fp->fp.Nodup->(∀ a∈fp,F a=none/\G a=none)->Own K U σ F G H
structure Rel (K:W.Frag) (U:Env) (σ:St) (F G H:Hp):Prop where
 fr:zK F H
 gr:∀ a o,G a=some o->(H a=some o/\noTup o=true)/\F a=none
 en:Own K U σ F G H
theorem Rel.len (r:Rel K U σ F G H):U.length=σ.length:=let ⟨_,e,_,_⟩:=r.en; e.len
theorem Rel.free (r:Rel K U σ F G H) (h:H p=none):F p=none/\G p=none/\∀ fp,zM K F H U σ fp->p∉fp:=by
 refine ⟨?_,?_,fun fp e hp=>?_⟩
 ·cases q:F p with
  | none=>rfl
  | some o=>rw [r.fr p o q] at h; cases h
 ·cases q:G p with
  | none=>rfl
  | some o=>rw [(r.gr p o q).1.1] at h; cases h
 ·obtain ⟨o,q,_⟩:=e.in_ p hp
  rw [h] at q; cases q
theorem zK.upd (h:F p=none):zK F (upd F p o):=fun b u e=>by
 rw [zag (fun z=>by rw [z,h] at e; cases e)]; exact e
theorem zK.upd2 (h:zK F H):zK (L2.upd F p o) (L2.upd H p o):=fun b u e=>by
 by_cases q:b=p
 ·subst q; rw [zai] at e ⊢; exact e
 ·rw [zag q] at e ⊢; exact h b u e
theorem zK.updR (h:zK F H) (n:F p=none):zK F (L2.upd H p o):=fun b u e=>by
 rw [zag (fun z=>by rw [z,n] at e; cases e)]; exact h b u e
theorem Rel.newF (r:Rel K U σ F G H) (h:H p=none):Rel K U σ (upd F p o) G (upd H p o):=by
 obtain ⟨f0,g0,n0⟩:=r.free h
 obtain ⟨fp,e,nd,ap⟩:=r.en
 have hne:∀ a∈fp,a≠p:=fun a ha z=>n0 fp e (z ▸ ha)
 refine ⟨zK.upd2 r.fr,fun a u q=>?_,fp,e.mono (zK.upd f0) fun a ha=>zag (hne a ha),nd,fun a ha=>?_⟩
 ·have hp:a≠p:=fun z=>by rw [z,g0] at q; cases q
  rw [zag hp,zag hp]; exact r.gr a u q
 ·rw [zag (hne a ha)]; exact ap a ha
theorem Rel.newO (r:Rel K U σ F G H) (h:H p=none) (q:SRep K F (upd H p o) (.ref p) s [p]):Rel K (U++[some s]) (σ++[some (.ref p)]) F G (upd H p o):=by
 obtain ⟨f0,g0,n0⟩:=r.free h
 obtain ⟨fp,e,nd,ap⟩:=r.en
 have hne:∀ a∈fp,a≠p:=fun a ha z=>n0 fp e (z ▸ ha)
 refine ⟨zK.updR r.fr f0,fun a u q=>?_,fp++([p]++[]),(e.mono (zK.refl F) fun a ha=>zag (hne a ha)).app (.so q .nil),?_,fun a ha=>?_⟩
 ·have hp:a≠p:=fun z=>by rw [z,g0] at q; cases q
  rw [zag hp]; exact r.gr a u q
 ·grind
 grind
theorem Rel.drop (r:Rel K (U++U') (σ++σ') F G H) (h:U.length=σ.length):Rel K U σ F G H:=by
 obtain ⟨fp,e,nd,ap⟩:=r.en
 obtain ⟨f1,f2,rfl,a,b⟩:=e.cut h
 exact ⟨r.fr,r.gr,f1,a,(qz.mp nd).1,fun c hc=>ap c (qm _ hc)⟩
theorem Rel.hide (r:Rel K (U++U') (σ++σ') F G H) (h:U.length=σ.length):∃ G',Rel K U σ F G' H/\zK G G'/\
  ∀ {U2:Env} {σ2:St} {F2 H2:Hp},zK F F2->Rel K U2 σ2 F2 G' H2->Rel K (U2++U') (σ2++σ') F2 G H2:=by
 classical
 obtain ⟨fp,e,nd,ap⟩:=r.en
 obtain ⟨f1,f2,rfl,a,b⟩:=e.cut h
 obtain ⟨n1,n2,n12⟩:=qz.mp nd
 refine ⟨fun x=>if x∈f2 then H x else G x,⟨r.fr,fun x o q=>?_,f1,a,n1,fun x hx=>?_⟩,fun x o q=>?_,fun {U2 σ2 F2 H2} sm r2=>?_⟩
 ·by_cases z:x∈f2
  ·have:=b.in_ x z
   grind
  ·simp only [z,if_false] at q
   exact r.gr x o q
 ·grind
 ·grind
 ·obtain ⟨fp2,e2,nd2,ap2⟩:=r2.en
  have hk:∀ x∈f2,H2 x=H x/\F2 x=none/\x∉fp2:=fun x hx=>by
   obtain ⟨o,q,_⟩:=b.in_ x hx
   have w:=r2.gr x o (by simp only [hx,if_true]; exact q)
   grind
  refine ⟨r2.fr,fun x o q=>?_,fp2++f2,e2.app (b.mono sm fun x hx=>(hk x hx).1),?_,fun x hx=>?_⟩
  ·have z:x∉f2:=fun z=>by
    grind
   exact r2.gr x o (by simp only [z,if_false]; exact q)
  ·grind
  grind
theorem Rel.weakG (r:Rel K U σ F G' H) (h:zK G G'):Rel K U σ F G H:=by
 obtain ⟨fp,e,nd,ap⟩:=r.en
 refine ⟨r.fr,fun a o q=>r.gr a o (h a o q),fp,e,nd,fun a ha=>⟨(ap a ha).1,?_⟩⟩
 cases q:G a with
 | none=>rfl
 | some o=>have:=(ap a ha).2; rw [h a o q] at this; cases this
theorem Rel.swap (h:U.length=σ.length) (h1:U1.length=σ1.length) (r:Rel K (U++(U1++U2)) (σ++(σ1++σ2)) F G H):Rel K (U++(U2++U1)) (σ++(σ2++σ1)) F G H:=by
 obtain ⟨fp,e,nd,ap⟩:=r.en
 obtain ⟨f0,f12,rfl,a,b⟩:=e.cut h
 obtain ⟨f1,f2,rfl,b1,c⟩:=b.cut h1
 have p:(f0++(f2++f1)).Perm (f0++(f1++f2)):=List.Perm.append_left _ qQ
 exact ⟨r.fr,r.gr,_,a.app (c.app b1),p.nodup_iff.mpr nd,fun x hx=>ap x (p.mem_iff.mp hx)⟩
theorem Rel.push (r:Rel K U σ F G H) (h:Rep K F v d):Rel K (U++[some (.sh d)]) (σ++[some v]) F G H:=by
 obtain ⟨fp,e,nd,ap⟩:=r.en
 refine ⟨r.fr,r.gr,fp++([]++[]),e.app (.so (.sh h) .nil),?_,fun x hx=>ap x ?_⟩
 ·simpa using nd
 ·simpa using hx
theorem Rel.pushN (r:Rel K U σ F G H):Rel K (U++[none]) (σ++[u]) F G H:=by
 obtain ⟨fp,e,nd,ap⟩:=r.en
 refine ⟨r.fr,r.gr,fp++[],e.app (.no .nil),?_,fun x hx=>ap x ?_⟩
 ·simpa using nd
 ·simpa using hx
theorem zbQ (h:slot U i=some s):U[i]?=some (some s):=by
 induction U generalizing i with
 | nil=>simp [slot] at h
 | cons a r ih=>cases i with
   | zero=>simp at h; simp [h]
   | succ i=>simp at h; simpa using ih h
theorem zcb (h:slot U i=some s):i < U.length:=(qi.mp (zbQ h)).1
theorem zbV (h:i < U.length):slot (U++U') i=slot U i:=by
 induction U generalizing i with
 | nil=>simp at h
 | cons a r ih=>cases i with
   | zero=>rfl
   | succ i=>simpa using ih (by simpa using h)
theorem zaE:slot (U++o::U') U.length=o:=by
 induction U with
 | nil=>rfl
 | cons a r ih=>simpa using ih
inductive RAt (K:W.Frag) (F H:Hp) (σ:St) (i:Nat) (s:S):Prop
 | mk (v:V) (fp:List Addr):σ[i]?=some (some v)->SRep K F H v s fp->RAt K F H σ i s
theorem Rel.at (r:Rel K U σ F G H) (h:slot U i=some s):RAt K F H σ i s:=by
 obtain ⟨fp,e,nd,ap⟩:=r.en
 obtain ⟨v,fa,fi,fb,e1,_,q,_⟩:=e.at h
 exact ⟨v,fi,e1,q⟩
theorem Rel.give (r:Rel K U σ F G H) (h:slot U i=some s):∃ v F',σ[i]?=some (some v)/\zK F F'/\Rep K F' v s.toD/\Rel K (U.set i (some (.sh s.toD))) σ F' G H:=by
 classical
 obtain ⟨fp,e,nd,ap⟩:=r.en
 obtain ⟨v,fa,fi,fb,e1,rfl,q,up⟩:=e.at h
 obtain ⟨na,nib,nab⟩:=qz.mp nd
 obtain ⟨ni,nb,nib⟩:=qz.mp nib
 have nofi:∀ x∈fa++fb,x∉fi:=fun x hx z=>by
  grind
 have sm:zK F (fun x=>if x∈fi then H x else F x):=fun x o w=>by
  grind
 have rp:Rep K (fun x=>if x∈fi then H x else F x) v s.toD:=q.frz sm fun x hx=>by simp only [hx,if_true]
 have e2:σ.set i (some v)=σ:=by
  apply ext_getElem?
  grind
 refine ⟨v,_,e1,sm,rp,fun x o w=>?_,fun x o w=>?_,fa++([]++fb),?_,?_,fun x hx=>?_⟩
 ·by_cases z:x∈fi
  ·simp only [z,if_true] at w; exact w
  ·simp only [z,if_false] at w; exact r.fr x o w
 ·have w2:=r.gr x o w
  grind
 ·have:=up (F':=fun x=>if x∈fi then H x else F x) (H':=H) (o:=some (.sh s.toD)) (u:=some v) (fi':=[]) sm (fun _ _=>rfl) (.so (.sh rp) .nil)
  rw [e2] at this
  exact this
 ·grind
 grind
theorem Rel.store (r:Rel K (U++[o]) (σ++[u]) F G H) (h:U.length=σ.length) (hi:i < U.length):Rel K (U.set i o) (σ.set i u) F G H:=by
 obtain ⟨fp,e,nd,ap⟩:=r.en
 obtain ⟨f1,f2,rfl,a,b⟩:=e.cut h
 obtain ⟨fa,fi,fb,rfl,up⟩:=a.put hi
 obtain ⟨n1,n2,n12⟩:=qz.mp nd
 obtain ⟨na,nib,nab⟩:=qz.mp n1
 obtain ⟨ni,nb,nib⟩:=qz.mp nib
 refine ⟨r.fr,r.gr,fa++(f2++fb),up (zK.refl F) (fun _ _=>rfl) b,?_,fun x hx=>?_⟩
 ·grind
 grind
end FL
namespace FL
open PySem PySem.Spec PyProof.Rows L2
abbrev St:=L2.St
abbrev wp (X:Cx) (pn:List (Addr×Obj)) (xe:zz):Cx:={ X with pn:=pn,xe:=xe }
def zL:R->Option S
 | .v s=>some s
 | .loc _=>none
def RV (σ:St) (v:V):R->Prop
 | .v _=>True
 | .loc i=>σ[i]?=some (some v)
def RVs (σ:St):List V->List R->Prop
 | [],[]=>True
 | v::vs,r::rs=>RV σ v r/\RVs σ vs rs
 | _,_=>False
def clsD (K:W.Frag) (F:Hp) (d:D) (C:Addr) (dx:Option Addr):Prop:=∃ c fs vs,d=.exc c fs vs/\W.nsIn K mainGlobals (⟨c.toArray⟩:Str)=some (some (.ref C))/\XDct F dx fs vs
def XRep (X:Cx) (F H:Hp) (h:Heap) (u:Value) (d:D):Prop:=∃ e C dx,u=.ref e/\clsD X.K F d C dx/\Fly X [] H h e (.ref C) dx
def KP (ks:List Nat) (σ σ':St):Prop:=∀ i∈ks,σ'[i]?=σ[i]?
def XC (X:Cx) (T:St->Prop) (F G:Hp) (PX:WX):Prop:=∀ (d:D) (U':Env) (σ':St) (F' H':Hp) (u:Value) (s':Shared),PX d U'->T σ'->zK F F'->Rel X.K U' σ' F' G H'->Inv X [] σ' H' s'->XRep X F' H' s'.heap u d->X.xe u s'
theorem XC.mono (h:XC X T F G PX) (t:∀ σ,T' σ->T σ) (f:zK F F') (g:zK G G'):XC X T' F' G' PX:=
 fun d U' σ' F2 H2 u s' p q sm r I x=>h d U' σ' F2 H2 u s' p (t _ q) (f.trans sm) (r.weakG g) I x
theorem XC.grow (h:XC X T F G PX) (f:zK F F'):XC X T F' G PX:=h.mono (fun _ z=>z) f (zK.refl G)
inductive tW (X:Cx) (w:WE) (σ:St) (H:Hp) (Q:VK):Prop
 | mk (F G:Hp) (U:Env) (P:WQ) (PX:WX) (z4:Rel X.K U σ F G H) (hw:w U P PX) (hok:∀ r U' v F' H',P r U'->zK F F'->Rel X.K (U'++[zL r]) (σ++[some v]) F' G H'->RV σ v r->Q v H') (hx:XC X (·=σ) F G PX):tW X w σ H Q
def FE (X:Cx) (e:Expr) (w:WE):Prop:=∀ (pn:List (Addr×Obj)) (xe:zz),PassesOwn (model X.prog X.w) X.A X.env xe->PE (wp X pn xe) e (tW (wp X pn xe) w)
inductive tWT (X:Cx) (w:WT) (σ:St) (H:Hp) (Q:Bool->Hp->Prop):Prop
 | mk (F G:Hp) (U:Env) (P:Bool->Env->Prop) (PX:WX) (z4:Rel X.K U σ F G H) (hw:w U P PX) (hok:∀ b U' F' H',P b U'->zK F F'->Rel X.K U' σ F' G H'->Q b H') (hx:XC X (·=σ) F G PX):tWT X w σ H Q
def FT (X:Cx) (e:Expr) (w:WT):Prop:=∀ (pn:List (Addr×Obj)) (xe:zz),PassesOwn (model X.prog X.w) X.A X.env xe->PT (wp X pn xe) e (tWT (wp X pn xe) w)
def FW (X:Cx) (e:Expr) (w:WT):Prop:=∀ (pn:List (Addr×Obj)) (xe:zz),PassesOwn (model X.prog X.w) X.A X.env xe->PW (wp X pn xe) e (tWT (wp X pn xe) w)
inductive tWA (X:Cx) (w:WA) (σ:St) (H:Hp) (Q:List V->Hp->Prop):Prop
 | mk (F G:Hp) (U:Env) (P:List R->Env->Prop) (PX:WX) (z4:Rel X.K U σ F G H) (hw:w U P PX) (hok:∀ rs U' vs F' H',P rs U'->zK F F'->Rel X.K (U'++rs.map zL) (σ++vs.map some) F' G H'->U'.length=σ.length->RVs σ vs rs->Q vs H') (hx:XC X (·=σ) F G PX):tWA X w σ H Q
def FA (X:Cx) (es:List Expr) (w:WA):Prop:=∀ (pn:List (Addr×Obj)) (xe:zz),PassesOwn (model X.prog X.w) X.A X.env xe->PA (wp X pn xe) es (tWA (wp X pn xe) w)
theorem PE.imp (h:PE X e t) (k:∀ σ H Q,t' σ H Q->t σ H Q):PE X e t':=fun zZ s σ H Q I q=>h zZ s σ H Q I (k σ H Q q)
theorem PT.imp (h:PT X e t) (k:∀ σ H Q,t' σ H Q->t σ H Q):PT X e t':=fun zZ s σ H Q I q=>h zZ s σ H Q I (k σ H Q q)
theorem PW.imp (h:PW X e t) (k:∀ σ H Q,t' σ H Q->t σ H Q):PW X e t':=fun wh zZ s σ H Q I q=>h wh zZ s σ H Q I (k σ H Q q)
theorem PA.imp (h:PA X e t) (k:∀ σ H Q,t' σ H Q->t σ H Q):PA X e t':=fun p zZ s σ H Q I q=>h p zZ s σ H Q I (k σ H Q q)
section
variable {K:W.Frag}
theorem Rel.mid (r:Rel K (U++o::U') (σ++w::σ') F G H) (h:U.length=σ.length):Rel K (U++U') (σ++σ') F G H:=by
 obtain ⟨fp,e,nd,ap⟩:=r.en
 obtain ⟨f1,f2,rfl,a,b⟩:=e.cut h
 obtain ⟨f2,f3,rfl,b,c⟩:=zM.cut (U:=[o]) (σ:=[w]) rfl b
 obtain ⟨n1,n2,n3⟩:=qz.mp nd
 obtain ⟨n4,n5,n6⟩:=qz.mp n2
 refine ⟨r.fr,r.gr,f1++f3,a.app c,qz.mpr ⟨n1,n5,fun x hx y hy=>n3 x hx y (qk _ hy)⟩,fun x hx=>ap x ?_⟩
 grind
theorem len1 (r:Rel K (U++[o]) (σ++[w]) F G H):U.length=σ.length:=by
 have:=r.len
 simpa using this
theorem zce:(U++o::U').set U.length o'=U++o'::U':=by
 induction U with
 | nil=>rfl
 | cons a r ih=>simpa using ih
inductive Nd {α:Type} (o:Option α) (k:α->Prop):Prop
 | mk (a:α):o=some a->k a->Nd o k
theorem zad (h:zJ o k):Nd o k:=by
 cases o with
 | none=>exact h.elim
 | some a=>exact ⟨a,rfl,h⟩
def RepE (K:W.Frag) (F H:Hp) (v:V) (d:D):Prop:=Rep K F v d\/
 (∃ a xs ds,v=.ref a/\d=.lst ds/\H a=some (.lst xs)/\zX K F xs ds)\/
 (∃ a z3 ks vs,v=.ref a/\d=.dct false ks vs/\H a=some (.dK z3)/\ks=z3.map (fun p=>keyD p.1)/\zX K F (z3.map (·.2)) vs)\/
 (∃ a z3 ks vs,v=.ref a/\d=.dct true ks vs/\H a=some (.dT z3)/\ks=z3.map (fun p=>D.tup (p.1.map keyD))/\zX K F (z3.map (·.2)) vs)
theorem RepE.mono (h:zK F F') (r:RepE K F H v d):RepE K F' H v d:=by
 rcases r with r | ⟨a,xs,ds,e1,e2,e3,r⟩ | ⟨a,z3,ks,vs,e1,e2,e3,e4,r⟩ | ⟨a,z3,ks,vs,e1,e2,e3,e4,r⟩
 ·exact .inl (r.mono h)
 ·exact .inr (.inl ⟨a,xs,ds,e1,e2,e3,r.mono h⟩)
 ·exact .inr (.inr (.inl ⟨a,z3,ks,vs,e1,e2,e3,e4,r.mono h⟩))
 ·exact .inr (.inr (.inr ⟨a,z3,ks,vs,e1,e2,e3,e4,r.mono h⟩))
theorem zN.sh (r:zN K F H xs l fp):l.all S.isSh=true->zX K F xs (l.map S.toD)/\fp=[]:=
 zN.ind (P:=fun xs l fp=>l.all S.isSh=true->zX K F xs (l.map S.toD)/\fp=[]) (fun _=>⟨.nil,rfl⟩) (fun a _ ih h=>by
  rw [all_cons,and_eq_true] at h
  obtain ⟨q,e⟩:=ih h.2
  cases a with
  | sh r=>exact ⟨.cons r q,e⟩
  | _=>exact absurd h.1 (by simp [S.isSh])) r
theorem look (r:Rel K (U++(zL x::U')) (σ++(some v::σ')) F G H) (h:U.length=σ.length) (rv:RV σ v x) (e:view x U=some d):Rep K H v d:=by
 cases x with
 | v s=>
   obtain ⟨u,fp,e1,q⟩:=r.at (i:=U.length) (s:=s) zaE
   rw [h,getElem?_append_right (zj _),sub_self] at e1
   have e2:v=u:=by simpa using e1
   subst e2
   have e3:s.toD=d:=qh e
   rw [<- e3]
   exact q.view r.fr
 | loc i=>
   have e':(slot U i).map S.toD=some d:=e
   cases q:slot U i with
   | none=>rw [q] at e'; cases e'
   | some s=>
     rw [q] at e'
     have e3:s.toD=d:=qh e'
     have hi:=zcb q
     obtain ⟨u,fp,e1,w⟩:=r.at (i:=i) (s:=s) (by rw [zbV hi]; exact q)
     rw [getElem?_append_left (h ▸ hi)] at e1
     have rv':σ[i]?=some (some v):=rv
     rw [rv'] at e1
     have e2:v=u:=by simpa using e1
     subst e2
     rw [<- e3]
     exact w.view r.fr
inductive TkC (K:W.Frag) (U:Env) (σ:St) (F G H:Hp) (v:V) (d:D):Prop
 | mk (F':Hp):zK F F'->RepE K F' H v d->Rel K U σ F' G H->TkC K U σ F G H v d
theorem takeC (r:Rel K (U++(zL x::U')) (σ++(some v::σ')) F G H) (h:U.length=σ.length) (rv:RV σ v x) (e:zV x U=some d):
  TkC K (U++U') (σ++σ') F G H v d:=by
 cases x with
 | v s=>
   obtain ⟨u,F',e1,sm,rp,r'⟩:=r.give (i:=U.length) (s:=s) zaE
   rw [h,getElem?_append_right (zj _),sub_self] at e1
   have e2:v=u:=by simpa using e1
   subst e2
   have e3:s.toD=d:=qh e
   rw [show (U++zL (.v s)::U').set U.length (some (S.sh s.toD))=U++some (S.sh s.toD)::U' from zce] at r'
   exact ⟨F',sm,.inl (e3 ▸ rp),r'.mid h⟩
 | loc i=>
   have e':(match slot U i with | some s=>if s.flat then some s.toD else none | none=>none)=some d:=e
   cases q:slot U i with
   | none=>rw [q] at e'; cases e'
   | some s=>
     rw [q] at e'
     have hi:=zcb q
     obtain ⟨u,fp,e1,w⟩:=r.at (i:=i) (s:=s) (by rw [zbV hi]; exact q)
     rw [getElem?_append_left (h ▸ hi)] at e1
     have rv':σ[i]?=some (some v):=rv
     rw [rv'] at e1
     have e2:v=u:=by simpa using e1
     subst e2
     refine ⟨F,zK.refl F,?_,r.mid h⟩
     by_cases hf:s.flat=true
     ·have e3:s.toD=d:=by
       grind
      subst e3
      cases w with
      | sh r=>exact .inl r
      | lst e0 r0=>
        obtain ⟨r1,_⟩:=r0.sh hf
        exact .inr (.inl ⟨_,_,_,rfl,by simp,e0,r1⟩)
      | dK e0 k0 r0=>
        obtain ⟨r1,_⟩:=r0.sh hf
        exact .inr (.inr (.inl ⟨_,_,_,_,rfl,by simp,e0,k0,r1⟩))
      | dT e0 k0 r0=>
        obtain ⟨r1,_⟩:=r0.sh hf
        exact .inr (.inr (.inr ⟨_,_,_,_,rfl,by simp,e0,k0,r1⟩))
      | st _ _=>exact absurd hf (by simp [S.flat])
     grind
inductive GvR (K:W.Frag) (L:Prop) (U:Env) (σ:St) (F G H:Hp):Prop
 | mk (F':Hp):zK F F'->L->Rel K U σ F' G H->GvR K L U σ F G H
theorem giveR (r:Rel K (U++(zL x::U')) (σ++(some v::σ')) F G H) (h:U.length=σ.length) (rv:RV σ v x) (e:give x U=some (s,U1)):
  GvR K (U1.length=U.length) (U1++(some s::U')) (σ++(some v::σ')) F G H:=by
 cases x with
 | v t=>
   have e':some (t,U)=some (s,U1):=e
   cases e'
   exact ⟨F,zK.refl F,rfl,r⟩
 | loc i=>
   have e':(match slot U i with | some s=>some (S.sh s.toD,U.set i (some (.sh s.toD))) | none=>none)=some (s,U1):=e
   cases q:slot U i with
   | none=>rw [q] at e'; cases e'
   | some t=>
     rw [q] at e'
     cases e'
     have hi:=zcb q
     obtain ⟨u,F',e1,sm,rp,r'⟩:=r.give (i:=i) (s:=t) (by rw [zbV hi]; exact q)
     rw [getElem?_append_left (h ▸ hi)] at e1
     have rv':σ[i]?=some (some v):=rv
     rw [rv'] at e1
     have e2:v=u:=by simpa using e1
     subst e2
     rw [List.set_append_left _ _ hi] at r'
     refine ⟨F',sm,by simp,?_⟩
     obtain ⟨fp,en,nd,ap⟩:=r'.en
     have hl:(U.set i (some (S.sh t.toD))).length=σ.length:=by simpa using h
     obtain ⟨f1,f2,rfl,a,b⟩:=en.cut hl
     have b':zM K F' H (none::U') (some v::σ') f2:=b
     cases b' with
     | no b=>exact ⟨r'.fr,r'.gr,f1++([]++f2),a.app (.so (.sh rp) b),by simpa using nd,fun x hx=>ap x (by simpa using hx)⟩
end
theorem tW.mono (h:tW X w σ H Q) (k:∀ v H',Q v H'->Q' v H'):tW X w σ H Q':=by
 obtain ⟨F,G,U,P,PX,z4,hw,hok,hx⟩:=h
 exact ⟨F,G,U,P,PX,z4,hw,fun r U' v F' H' a b c d=>k _ _ (hok r U' v F' H' a b c d),hx⟩
inductive Two (X:Cx) (σ:St) (k:R->R->Env->WQ->WX->Prop) (Q:VK) (v u:V) (H:Hp):Prop
 | mk (F G:Hp) (U:Env) (x y:R) (P:WQ) (PX:WX) (z4:Rel X.K (U++[zL x,zL y]) (σ++[some v,some u]) F G H) (hl:U.length=σ.length) (rx:RV σ v x) (ry:RV σ u y) (hk:k x y U P PX) (hok:∀ r U' v F' H',P r U'->zK F F'->Rel X.K (U'++[zL r]) (σ++[some v]) F' G H'->RV σ v r->Q v H') (hx:XC X (·=σ) F G PX):Two X σ k Q v u H
theorem two (h:tW X (fun U Q E=>wa U (fun x U1=>wb U1 (fun y U2=>k x y U2 Q E) E) E) σ H Q):
  tW X wa σ H fun v H1=>tW X wb σ H1 fun u H2=>Two X σ k Q v u H2:=by
 obtain ⟨F,G,U,P,PX,z4,hw,hok,hx⟩:=h
 refine ⟨F,G,U,_,PX,z4,hw,fun x U1 v F1 H1 hp1 s1 r1 rv1=>?_,hx⟩
 have h1:=len1 r1
 obtain ⟨G1,rel1,gg,back⟩:=r1.hide h1
 refine ⟨F1,G1,U1,_,PX,rel1,hp1,fun y U2 u F2 H2 hp2 s2 r2 rv2=>?_,hx.mono (fun _ z=>z) s1 gg⟩
 have h2:=len1 r2
 have r3:=back s2 r2
 rw [qr,qr] at r3
 exact ⟨F2,G,U2,x,y,P,PX,Rel.swap (U1:=[zL y]) (σ1:=[some u]) (U2:=[zL x]) (σ2:=[some v]) h2 rfl r3,h2,rv1,rv2,hp2,fun r U' v F' H' a b c d=>hok r U' v F' H' a (s1.trans (s2.trans b)) c d,hx.grow (s1.trans s2)⟩
inductive One (X:Cx) (σ:St) (k:R->Env->WQ->WX->Prop) (Q:VK) (v:V) (H:Hp):Prop
 | mk (F G:Hp) (U:Env) (x:R) (P:WQ) (PX:WX) (z4:Rel X.K (U++[zL x]) (σ++[some v]) F G H) (hl:U.length=σ.length) (rx:RV σ v x) (hk:k x U P PX) (hok:∀ r U' v F' H',P r U'->zK F F'->Rel X.K (U'++[zL r]) (σ++[some v]) F' G H'->RV σ v r->Q v H') (hx:XC X (·=σ) F G PX):One X σ k Q v H
theorem one (h:tW X (fun U Q E=>wa U (fun x U1=>k x U1 Q E) E) σ H Q):tW X wa σ H fun v H1=>One X σ k Q v H1:=by
 obtain ⟨F,G,U,P,PX,z4,hw,hok,hx⟩:=h
 exact ⟨F,G,U,_,PX,z4,hw,fun x U1 v F1 H1 hp1 s1 r1 rv1=>⟨F1,G,U1,x,P,PX,r1,len1 r1,rv1,hp1,fun r U' v F' H' a b c d=>hok r U' v F' H' a (s1.trans b) c d,hx.grow s1⟩,hx⟩
theorem zmJ (hN:X.N[i]?=some x) (hv:Vis X.env.scope x) (hd:(x == ("__debug__":Str))=false:=by decide) (hcd:(x == ("__classdict__":Str))=false:=by decide):FE X (.Name x pos) (zF i):=by
 intro pn xe hp
 refine PE.imp (zn9 (X:=wp X pn xe) hN hv hd hcd) fun σ H Q h=>?_
 obtain ⟨F,G,U,P,PX,z4,hw,hok,hx⟩:=h
 unfold zF at hw
 cases q:slot U i with
 | none=>rw [q] at hw; exact hw.elim
 | some s=>
   obtain ⟨v,fp,e1,sr⟩:=z4.at q
   rw [q] at hw
   cases s with
   | sh d=>
     cases sr with
     | sh r=>exact ⟨v,e1,hok _ _ v F H hw (zK.refl F) (z4.push r) trivial⟩
   | lst l=>exact ⟨v,e1,hok _ _ v F H hw (zK.refl F) z4.pushN e1⟩
   | dct t a b=>exact ⟨v,e1,hok _ _ v F H hw (zK.refl F) z4.pushN e1⟩
   | set l=>exact ⟨v,e1,hok _ _ v F H hw (zK.refl F) z4.pushN e1⟩
theorem fe_c (h:∀ X:Cx,PE X e (tC v)) (r:∀ K F,Rep K F v d):FE X e (wC d):=by
 intro pn xe hp
 refine PE.imp (h _) fun σ H Q h=>?_
 obtain ⟨F,G,U,P,PX,z4,hw,hok,hx⟩:=h
 exact hok _ _ v F H hw (zK.refl F) (z4.push (r _ _)) trivial
theorem zae:FE X (.Constant (.int i) j pos) (wC (.int i)):=fe_c (fun _=>zoZ) fun _ _=>.int i
theorem zmh:FE X (.Constant (.bool b) j pos) (wC (.bl b)):=fe_c (fun _=>zqH) fun _ _=>.bl b
theorem zbx:FE X (.Constant .none j pos) (wC .non):=fe_c (fun _=>zoi) fun _ _=>.non
theorem zcD (e:x.cps.toList=l) (z:l.length<=16777216):FE X (.Constant (.str x) j pos) (wC (.str l)):=fe_c (fun _=>znl) fun _ _=>.str e z
theorem OpR.or (h:OpR X f r) (h':OpR X f r'):OpR X f (fun x y H Q=>r x y H Q\/r' x y H Q):=fun zZ s σ H x y v u Q I rx ry q=>
 q.elim (fun z=>h zZ s σ H x y v u Q I rx ry z) fun z=>h' zZ s σ H x y v u Q I rx ry z
def Does (K:W.Frag) (r:R2) (op:D->D->Option S):Prop:=∀ (σ:St) (U:Env) (F G H:Hp) (x y:V) (p q:D) (s:S) (Q:VK),Rel K U σ F G H->RepE K F H x p->RepE K F H y q->op p q=some s->
 (∀ v F' H',zK F F'->Rel K (U++[some s]) (σ++[some v]) F' G H'->Q v H')->r x y H Q
theorem zbU (ho:∀ pn xe,OpR (wp X pn xe) (binaryOp op) r) (hd:Does X.K r o) (ha:FE X a wa) (hb:FE X b wb):FE X (.BinOp a op b pos) (zQ o wa wb):=by
 intro pn xe hp
 refine PE.imp (zpR (ho pn xe) (ha pn xe hp) (hb pn xe hp)) fun σ H Q h=>?_
 refine (two (k:=fun x y U2 Q E=>zJ (zV x U2) fun p=>zJ (zV y U2) fun q=>zJ (o p q) fun s=>Q (.v s) U2) h).mono fun v H1 h1=>h1.mono fun u H2 h2=>?_
 obtain ⟨F,G,U,x,y,P,PX,z4,hl,rx,ry,hk,hok,hx⟩:=h2
 obtain ⟨p,ep,hk⟩:=zad hk
 obtain ⟨q,eq,hk⟩:=zad hk
 obtain ⟨t,et,hk⟩:=zad hk
 obtain ⟨F1,s1,re1,rel1⟩:=takeC z4 hl rx ep
 obtain ⟨F2,s2,re2,rel2⟩:=takeC (U':=[]) (σ':=[]) rel1 hl ry eq
 rw [qC,qC] at rel2
 exact hd σ U F2 G H2 v u p q t Q rel2 (re1.mono s2) re2 et fun v' F' H' sm r'=>hok (.v t) U v' F' H' hk (s1.trans (s2.trans sm)) r' trivial
theorem tWA.mono (h:tWA X w σ H Q) (k:∀ v H',Q v H'->Q' v H'):tWA X w σ H Q':=by
 obtain ⟨F,G,U,P,PX,z4,hw,hok,hx⟩:=h
 exact ⟨F,G,U,P,PX,z4,hw,fun r U' v F' H' a b c d e=>k _ _ (hok r U' v F' H' a b c d e),hx⟩
inductive TwoT (X:Cx) (σ:St) (k:R->R->Env->(Bool->Env->Prop)->WX->Prop) (Q:Bool->Hp->Prop) (v u:V) (H:Hp):Prop
 | mk (F G:Hp) (U:Env) (x y:R) (P:Bool->Env->Prop) (PX:WX) (z4:Rel X.K (U++[zL x,zL y]) (σ++[some v,some u]) F G H) (hl:U.length=σ.length) (rx:RV σ v x) (ry:RV σ u y) (hk:k x y U P PX) (hok:∀ r U' F' H',P r U'->zK F F'->Rel X.K U' σ F' G H'->Q r H') (hx:XC X (·=σ) F G PX):TwoT X σ k Q v u H
theorem twoT (h:tWT X (fun U Q E=>wa U (fun x U1=>wb U1 (fun y U2=>k x y U2 Q E) E) E) σ H Q):
  tW X wa σ H fun v H1=>tW X wb σ H1 fun u H2=>TwoT X σ k Q v u H2:=by
 obtain ⟨F,G,U,P,PX,z4,hw,hok,hx⟩:=h
 refine ⟨F,G,U,_,PX,z4,hw,fun x U1 v F1 H1 hp1 s1 r1 rv1=>?_,hx⟩
 have h1:=len1 r1
 obtain ⟨G1,rel1,gg,back⟩:=r1.hide h1
 refine ⟨F1,G1,U1,_,PX,rel1,hp1,fun y U2 u F2 H2 hp2 s2 r2 rv2=>?_,hx.mono (fun _ z=>z) s1 gg⟩
 have h2:=len1 r2
 have r3:=back s2 r2
 rw [qr,qr] at r3
 exact ⟨F2,G,U2,x,y,P,PX,Rel.swap (U1:=[zL y]) (σ1:=[some u]) (U2:=[zL x]) (σ2:=[some v]) h2 rfl r3,h2,rv1,rv2,hp2,fun r U' F' H' a b c=>hok r U' F' H' a (s1.trans (s2.trans b)) c,hx.grow (s1.trans s2)⟩
def DoesC (K:W.Frag) (r:R2) (op:D->D->Option Bool):Prop:=∀ (H:Hp) (x y:V) (p q:D) (k:Bool) (Q:VK),Rep K H x p->Rep K H y q->op p q=some k->Q (.bl k) H->r x y H Q
theorem look2 {K:W.Frag} (z4:Rel K (U++[zL x,zL y]) (σ++[some v,some u]) F G H) (hl:U.length=σ.length) (rx:RV σ v x) (ry:RV σ u y) (ep:view x U=some p) (eq:view y U=some q):
  Rep K H v p/\Rep K H u q/\Rel K U σ F G H:=by
 have rel':Rel K (U++[zL y]) (σ++[some u]) F G H:=z4.mid hl
 exact ⟨look z4 hl rx ep,look (U':=[]) (σ':=[]) rel' hl ry eq,rel'.drop hl⟩
theorem zan (ho:∀ pn xe,OpR (wp X pn xe) (compareOp op) r) (hd:DoesC X.K r o) (ha:FE X a wa) (hb:FE X b wb) (hm:behindInMarks op b=false):FT X (.Compare a [op] [b] pos) (wCmp o wa wb):=by
 intro pn xe hp
 refine PT.imp (zlu (ho pn xe) (ha pn xe hp) (hb pn xe hp) hm) fun σ H Q h=>?_
 refine (twoT (k:=fun x y U2 Q E=>zJ (view x U2) fun p=>zJ (view y U2) fun q=>zJ (o p q) fun c=>Q c U2) h).mono fun v H1 h1=>h1.mono fun u H2 h2=>?_
 obtain ⟨F,G,U,x,y,P,PX,z4,hl,rx,ry,hk,hok,hx⟩:=h2
 obtain ⟨p,ep,hk⟩:=zad hk
 obtain ⟨q,eq,hk⟩:=zad hk
 obtain ⟨t,et,hk⟩:=zad hk
 obtain ⟨r1,r2,rel'⟩:=look2 z4 hl rx ry ep eq
 exact hd H2 v u p q t _ r1 r2 et ⟨t,rfl,hok t U F H2 hk (zK.refl F) rel'⟩
theorem zeE (ho:∀ pn xe,OpR (wp X pn xe) (compareOp op) r) (hd:DoesC X.K r o) (ha:FE X a wa) (hb:FE X b wb) (hm:behindInMarks op b=false):FE X (.Compare a [op] [b] pos) (wOfT (wCmp o wa wb)):=by
 intro pn xe hp
 refine PE.imp (zmB (ho pn xe) (ha pn xe hp) (hb pn xe hp) hm) fun σ H Q h=>?_
 refine (two (k:=fun x y U2 Q E=>zJ (view x U2) fun p=>zJ (view y U2) fun q=>zJ (o p q) fun c=>Q (.v (.sh (.bl c))) U2) h).mono fun v H1 h1=>h1.mono fun u H2 h2=>?_
 obtain ⟨F,G,U,x,y,P,PX,z4,hl,rx,ry,hk,hok,hx⟩:=h2
 obtain ⟨p,ep,hk⟩:=zad hk
 obtain ⟨q,eq,hk⟩:=zad hk
 obtain ⟨t,et,hk⟩:=zad hk
 obtain ⟨r1,r2,rel'⟩:=look2 z4 hl rx ry ep eq
 exact hd H2 v u p q t _ r1 r2 et (hok _ U (.bl t) F H2 hk (zK.refl F) (rel'.push (.bl t)) trivial)
theorem ziO {K:W.Frag} (r:Rep K H v d) (e:truth d=some k):TruV K v H k:=by
 cases r with
 | non=>exact (qh e).symm
 | bl b=>exact (qh e).symm
 | int i=>
   have e':=(qh e).symm
   rw [e']
   show decide (i≠0)=(i !=0)
   by_cases h:i=0 <;> simp [h]
 | str e1 z=>
   rename_i x l
   have e':=(qh e).symm
   have hl:x.length=l.length:=by rw [<- e1]; rfl
   refine ⟨by rw [hl,zt]; exact z,?_⟩
   rw [e',hl]
   cases l with
   | nil=>rfl
   | cons a r=>simp; lia
 | tup h r=>
   refine .inr (.inl ⟨_,SqT.of h,?_⟩)
   have e':=(qh e).symm
   rw [e']
   cases r <;> rfl
 | lst h r=>
   refine .inl ⟨_,h,?_⟩
   have e':=(qh e).symm
   rw [e']
   cases r <;> rfl
 | dK h k r=>cases e
 | dT h k r=>cases e
 | st h r=>cases e
 | exc h k=>cases e
theorem zfO (ha:FE X a wa) (he:∀ whole,isTrue a X.env whole=(do let v <- whole; standAt a.pos; holding [v] (truthy v)):=by intro _; rfl):FT X a (wTest wa):=by
 intro pn xe hp
 refine PT.imp (zkE (ha pn xe hp) he) fun σ H Q h=>?_
 obtain ⟨F,G,U,P,PX,z4,hw,hok,hx⟩:=h
 refine ⟨F,G,U,_,PX,z4,hw,fun x U1 v F1 H1 hk s1 r1 rv1=>?_,hx⟩
 obtain ⟨p,ep,hk⟩:=zad hk
 obtain ⟨t,et,hk⟩:=zad hk
 have hl:=len1 r1
 exact ⟨t,ziO (look (U':=[]) (σ':=[]) r1 hl rv1 ep) et,hok t U1 F1 H1 hk s1 (r1.drop hl)⟩
theorem thenT {k:Bool->Env->(Bool->Env->Prop)->WX->Prop} (h:tWT X (fun U Q E=>ta U (fun c U1=>k c U1 Q E) E) σ H Q)
  (hk:∀ (c:Bool) (F G:Hp) (U:Env) (P:Bool->Env->Prop) (PX:WX) (H1:Hp),Rel X.K U σ F G H1->k c U P PX->(∀ r U' F' H',P r U'->zK F F'->Rel X.K U' σ F' G H'->Q r H')->XC X (·=σ) F G PX->Q' c H1):tWT X ta σ H Q':=by
 obtain ⟨F,G,U,P,PX,z4,hw,hok,hx⟩:=h
 exact ⟨F,G,U,_,PX,z4,hw,fun c U1 F1 H1 hp s1 r1=>hk c F1 G U1 P PX H1 r1 hp (fun r U' F' H' a b c=>hok r U' F' H' a (s1.trans b) c) (hx.grow s1),hx⟩
theorem zdi (h:FW X a ta):FT X a ta:=fun pn xe hp=>(h pn xe hp).pt
theorem zb8 (h:FT X a ta):FW X (.BoolOp .And [a] pos) ta:=fun pn xe hp=>zl8 (h pn xe hp)
theorem zgh (h:FT X a ta):FW X (.BoolOp .Or [a] pos) ta:=fun pn xe hp=>zpb (h pn xe hp)
theorem zdm {rest:List Expr} (h:FT X a ta) (h':FW X (.BoolOp .And (b::rest) pos) tb):FW X (.BoolOp .And (a::b::rest) pos) (wtAnd ta tb):=fun pn xe hp=>by
 refine PW.imp (zpx (h pn xe hp) (h' pn xe hp)) fun σ H Q q=>?_
 refine thenT (k:=fun c U1 Q E=>if c then tb U1 Q E else Q false U1) q fun c F G U P PX H1 z4 hk hok hx=>?_
 cases c with
 | true=>exact ⟨F,G,U,P,PX,z4,hk,hok,hx⟩
 | false=>exact hok false U F H1 hk (zK.refl F) z4
theorem zjK {rest:List Expr} (h:FT X a ta) (h':FW X (.BoolOp .Or (b::rest) pos) tb):FW X (.BoolOp .Or (a::b::rest) pos) (wtOr ta tb):=fun pn xe hp=>by
 refine PW.imp (zrq (h pn xe hp) (h' pn xe hp)) fun σ H Q q=>?_
 refine thenT (k:=fun c U1 Q E=>if c then Q true U1 else tb U1 Q E) q fun c F G U P PX H1 z4 hk hok hx=>?_
 cases c with
 | false=>exact ⟨F,G,U,P,PX,z4,hk,hok,hx⟩
 | true=>exact hok true U F H1 hk (zK.refl F) z4
theorem zk2 (h:FT X a ta):FT X (.UnaryOp .Not a pos) (wtNot ta):=fun pn xe hp=>by
 refine PT.imp (znJ (h pn xe hp)) fun σ H Q q=>?_
 exact thenT (k:=fun c U1 Q E=>Q (!c) U1) q fun c F G U P PX H1 z4 hk hok hx=>hok _ U F H1 hk (zK.refl F) z4
theorem zgt (hc:FT X c tc) (ha:FE X a wa) (hb:FE X b wb):FE X (.IfExp c a b pos) (wIfE tc wa wb):=fun pn xe hp=>by
 refine PE.imp (zjQ (hc pn xe hp) (ha pn xe hp) (hb pn xe hp)) fun σ H Q q=>?_
 obtain ⟨F,G,U,P,PX,z4,hw,hok,hx⟩:=q
 refine ⟨F,G,U,_,PX,z4,hw,fun c U1 F1 H1 hk s1 r1=>?_,hx⟩
 cases c with
 | true=>exact ⟨F1,G,U1,P,PX,r1,hk,fun r U' v F' H' a b c d=>hok r U' v F' H' a (s1.trans b) c d,hx.grow s1⟩
 | false=>exact ⟨F1,G,U1,P,PX,r1,hk,fun r U' v F' H' a b c d=>hok r U' v F' H' a (s1.trans b) c d,hx.grow s1⟩
theorem zrr {K:W.Frag} {c:Bool} (r:Rep K H v (.bl c)):v=.bl c:=by cases r; rfl
theorem zkQ (h:FE X a wa):FE X (.BoolOp op [a] pos) wa:=fun pn xe hp=>zmG (h pn xe hp)
theorem zjj {rest:List Expr} (ha:FE X a wa) (hb:FE X (.BoolOp .And (b::rest) pos) wb):FE X (.BoolOp .And (a::b::rest) pos) (wAndV wa wb):=fun pn xe hp=>by
 refine PE.imp (zo0 (ha pn xe hp) (hb pn xe hp)) fun σ H Q q=>?_
 refine (one (k:=fun x U1 Q E=>match view x U1 with | some (.bl c)=>if c then wb U1 Q E else Q (.v (.sh (.bl false))) U1 | _=>False) q).mono fun v H1 h1=>?_
 obtain ⟨F,G,U,x,P,PX,z4,hl,rx,hk,hok,hx⟩:=h1
 split at hk
 ·rename_i c e
  refine ⟨c,zrr (look (U':=[]) (σ':=[]) z4 hl rx e),?_⟩
  cases c with
  | true=>exact ⟨F,G,U,P,PX,z4.drop hl,hk,hok,hx⟩
  | false=>exact hok _ U (.bl false) F H1 hk (zK.refl F) ((z4.drop hl).push (.bl false)) trivial
 ·exact hk.elim
theorem znh (ha:FE X a wa):FE X (.UnaryOp .Not a pos) (wNotV wa):=fun pn xe hp zZ s σ H Q I q=>by
 have q':=one (k:=fun x U1 Q E=>zJ (view x U1) fun p=>zJ (truth p) fun c=>Q (.v (.sh (.bl (!c)))) U1) q
 refine UnaryOp_ (thn (ha pn xe hp zZ s σ H _ I q') fun v s1 zq=>?_)
 obtain ⟨x,H1,I1,r1,q1⟩:=zq
 obtain ⟨F,G,U,y,P,PX,z4,hl,rx,hk,hok,hx⟩:=q1
 obtain ⟨p,ep,hk⟩:=zad hk
 obtain ⟨t,et,hk⟩:=zad hk
 refine not_of (thn (zkY (X:=wp X pn xe) zZ s1 σ H1 x v (fun b H'=>b=t/\H'=H1) I1 r1 ⟨t,ziO (look (U':=[]) (σ':=[]) z4 hl rx ep) et,rfl,rfl⟩) fun b s2 zq=>?_)
 obtain ⟨H2,I2,e1,e2⟩:=zq
 subst e1 e2
 exact ⟨.bl (!b),H2,I2,rfl,hok _ U (.bl (!b)) F H2 hk (zK.refl F) ((z4.drop hl).push (.bl _)) trivial⟩
theorem zab:FA X [] zH:=fun pn xe hp=>PA.imp zgm fun σ H Q q=>by
 obtain ⟨F,G,U,P,PX,z4,hw,hok,hx⟩:=q
 exact hok [] U [] F H hw (zK.refl F) (by simpa using z4) z4.len trivial
theorem zaa (ha:FE X e wa) (hb:FA X es wb) (hs:starEach (e::es) X.env=(false,eval e X.env)::starEach es X.env:=by rfl):FA X (e::es) (zG wa wb):=fun pn xe hp=>by
 refine PA.imp (zea (ha pn xe hp) (hb pn xe hp) hs) fun σ H Q q=>?_
 obtain ⟨F,G,U,P,PX,z4,hw,hok,hx⟩:=q
 refine ⟨F,G,U,_,PX,z4,hw,fun x U1 v F1 H1 hp1 s1 r1 rv1=>?_,hx⟩
 have h1:=len1 r1
 obtain ⟨G1,rel1,gg,back⟩:=r1.hide h1
 refine ⟨F1,G1,U1,_,PX,rel1,hp1,fun rs U2 vs F2 H2 hp2 s2 r2 h2 rv2=>?_,hx.mono (fun _ z=>z) s1 gg⟩
 have r3:=back s2 r2
 rw [qr,qr] at r3
 have hl:(rs.map zL).length=(vs.map some).length:=by
  have:=r2.len
  grind
 exact hok (x::rs) U2 (v::vs) F2 H2 hp2 (s1.trans s2) (Rel.swap (U1:=rs.map zL) (σ1:=vs.map some) (U2:=[zL x]) (σ2:=[some v]) h2 hl r3) h2 ⟨rv1,rv2⟩
section
variable {K:W.Frag}
theorem RVs.len:∀ {vs:List V} {rs:List R},RVs σ vs rs->vs.length=rs.length
 | [],[],_=>rfl
 | [],_::_,h=>h.elim
 | _::_,[],h=>h.elim
 | _::vs,_::rs,h=>by simp [RVs.len h.2]
theorem zbv:∀ {rs:List R} {vs:List V} {U U' U1:Env} {ss:List S} {F:Hp} {σ':St},Rel K (U++(rs.map zL++U')) (σ++(vs.map some++σ')) F G H->U.length=σ.length->RVs σ vs rs->giveAll rs U=some (ss,U1)->
  ∃ F',zK F F'/\U1.length=U.length/\ss.length=rs.length/\Rel K (U1++(ss.map some++U')) (σ++(vs.map some++σ')) F' G H
 | [],[],U,U',U1,ss,F,σ',r,h,_,e=>by
   have e':some (([]:List S),U)=some (ss,U1):=e
   cases e'
   exact ⟨F,zK.refl F,rfl,rfl,r⟩
 | [],_::_,_,_,_,_,_,_,_,_,h,_=>h.elim
 | _::_,[],_,_,_,_,_,_,_,_,h,_=>h.elim
 | x::rs,v::vs,U,U',U1,ss,F,σ',r,h,rv,e=>by
   have e':(match give x U with | some (s,U1)=>(match giveAll rs U1 with | some (ss,U2)=>some (s::ss,U2) | none=>none) | none=>none)=some (ss,U1):=e
   cases q:give x U with
   | none=>rw [q] at e'; cases e'
   | some p=>
     obtain ⟨s,U2⟩:=p
     rw [q] at e'
     cases q2:giveAll rs U2 with
     | none=>simp only [q2] at e'; cases e'
     | some p2=>
       obtain ⟨ts,U3⟩:=p2
       simp only [q2] at e'
       cases e'
       obtain ⟨F1,s1,l1,r1⟩:=giveR (U':=rs.map zL++U') (σ':=vs.map some++σ') r h rv.1 q
       have h2:U2.length=σ.length:=l1.trans h
       have hl:(rs.map zL++U').length=(vs.map some++σ').length:=by
        have:=r1.len
        rw [qt,qt,h2,qv,qv] at this
        lia
       have hl':U'.length=σ'.length:=by
        have:=rv.2.len
        simp at hl
        lia
       have r2:=Rel.swap (U1:=[some s]) (σ1:=[some v]) (U2:=rs.map zL++U') (σ2:=vs.map some++σ') h2 rfl r1
       rw [qr,qr] at r2
       obtain ⟨F2,s2,l2,l3,r3⟩:=zbv (rs:=rs) (vs:=vs) r2 h2 rv.2 q2
       have h3:U1.length=σ.length:=l2.trans h2
       rw [<- qr (ts.map some),<- qr (vs.map some)] at r3
       have r4:=Rel.swap (U1:=ts.map some++U') (σ1:=vs.map some++σ') (U2:=[some s]) (σ2:=[some v]) h3 (by simp [l3,rv.2.len,hl']) r3
       exact ⟨F2,s1.trans s2,l2.trans l1,by simp [l3],r4⟩
theorem envReps:∀ {vs:List V} {ss:List S} {fp:List Addr},zM K F H (ss.map some) (vs.map some) fp->zN K F H vs ss fp
 | [],[],_,.nil=>.nil
 | [],_::_,_,h=>nomatch h
 | _::_,[],_,h=>nomatch h
 | v::vs,s::ss,_,.so a b=>.cons a (envReps b)
theorem Rel.newL (r:Rel K (U++ss.map some) (σ++vs.map some) F G H) (h:U.length=σ.length) (hp:H p=none):
  Rel K (U++[some (.lst ss)]) (σ++[some (.ref p)]) F G (upd H p (.lst vs)):=by
 obtain ⟨f0,g0,n0⟩:=r.free hp
 obtain ⟨fp,e,nd,ap⟩:=r.en
 have hne:∀ a∈fp,a≠p:=fun a ha z=>n0 fp e (z ▸ ha)
 obtain ⟨f1,f2,rfl,en1,en2⟩:=(e.mono (H':=upd H p (.lst vs)) (zK.refl F) fun a ha=>zag (hne a ha)).cut h
 refine ⟨zK.updR r.fr f0,fun a u q=>?_,f1++((p::f2)++[]),en1.app (.so (.lst zai (envReps en2)) .nil),?_,fun a ha=>?_⟩
 ·have hp:a≠p:=fun z=>by rw [z,g0] at q; cases q
  rw [zag hp]; exact r.gr a u q
 ·grind
 grind
theorem Rel.giveD {ss:List S} (r:Rel K (U++ss.map some) (σ++vs.map some) F G H) (h:U.length=σ.length):∃ F',zK F F'/\zX K F' vs (ss.map S.toD)/\Rel K U σ F' G H:=by
 classical
 obtain ⟨fp,e,nd,ap⟩:=r.en
 obtain ⟨f1,f2,rfl,a,b⟩:=e.cut h
 obtain ⟨n1,n2,n3⟩:=qz.mp nd
 have sm:zK F (fun x=>if x∈f2 then H x else F x):=fun x o w=>by
  grind
 have rp:=(envReps b).frz sm fun x hx=>by simp only [hx,if_true]
 rw [S.toDs_map] at rp
 refine ⟨_,sm,rp,fun x o w=>?_,fun x o w=>?_,f1,a.mono sm fun _ _=>rfl,n1,fun x hx=>?_⟩
 ·by_cases z:x∈f2
  ·simp only [z,if_true] at w; exact w
  ·simp only [z,if_false] at w; exact r.fr x o w
 ·have w2:=r.gr x o w
  grind
 grind
end
inductive Many (X:Cx) (σ:St) (k:List R->Env->WQ->WX->Prop) (Q:VK) (vs:List V) (H:Hp):Prop
 | mk (F G:Hp) (U:Env) (rs:List R) (P:WQ) (PX:WX) (z4:Rel X.K (U++rs.map zL) (σ++vs.map some) F G H) (hl:U.length=σ.length) (rv:RVs σ vs rs) (hk:k rs U P PX) (hok:∀ r U' v F' H',P r U'->zK F F'->Rel X.K (U'++[zL r]) (σ++[some v]) F' G H'->RV σ v r->Q v H') (hx:XC X (·=σ) F G PX):Many X σ k Q vs H
theorem many (h:tW X (fun U Q E=>wa U (fun rs U1=>k rs U1 Q E) E) σ H Q):tWA X wa σ H fun vs H1=>Many X σ k Q vs H1:=by
 obtain ⟨F,G,U,P,PX,z4,hw,hok,hx⟩:=h
 exact ⟨F,G,U,_,PX,z4,hw,fun rs U1 vs F1 H1 hp1 s1 r1 h1 rv1=>⟨F1,G,U1,rs,P,PX,r1,h1,rv1,hp1,fun r U' v F' H' a b c d=>hok r U' v F' H' a (s1.trans b) c d,hx.grow s1⟩,hx⟩
theorem zaW (h:FA X es wa):FE X (.List es pos) (wLst wa):=fun pn xe hp=>by
 refine PE.imp (zoe (h pn xe hp)) fun σ H Q q=>?_
 refine (many (k:=fun rs U1 Q E=>zJ (if rs.length<=big then giveAll rs U1 else none) fun p=>Q (.v (.lst p.1)) p.2) q).mono fun vs H1 h1=>?_
 obtain ⟨F,G,U,rs,P,PX,z4,hl,rv,hk,hok,hx⟩:=h1
 obtain ⟨⟨ss,U1⟩,ep,hk⟩:=zad hk
 by_cases hz:rs.length<=big
 ·rw [zc hz] at ep
  obtain ⟨F1,s1,l1,l2,r1⟩:=zbv (U':=[]) (σ':=[]) (by simpa using z4) hl rv ep
  refine ⟨by rw [rv.len,zt]; exact le_trans hz (by decide),fun p hp=>hok _ U1 (.ref p) F1 _ hk s1 (Rel.newL (by simpa using r1) (l1.trans hl) hp) trivial⟩
 ·rw [zi hz] at ep; cases ep
theorem zaD (h:FA X es wa):FE X (.Tuple es k pos) (wTup wa):=fun pn xe hp=>by
 refine PE.imp (zmU (h pn xe hp)) fun σ H Q q=>?_
 refine (many (k:=fun rs U1 Q E=>zJ (if rs.length<=big then giveAll rs U1 else none) fun p=>Q (.v (.sh (.tup (p.1.map S.toD)))) p.2) q).mono fun vs H1 h1=>?_
 obtain ⟨F,G,U,rs,P,PX,z4,hl,rv,hk,hok,hx⟩:=h1
 obtain ⟨⟨ss,U1⟩,ep,hk⟩:=zad hk
 by_cases hz:rs.length<=big
 ·rw [zc hz] at ep
  obtain ⟨F1,s1,l1,l2,r1⟩:=zbv (U':=[]) (σ':=[]) (by simpa using z4) hl rv ep
  obtain ⟨F2,s2,rp,r2⟩:=Rel.giveD (U:=U1) (by simpa using r1) (l1.trans hl)
  refine ⟨by rw [rv.len,zt]; exact le_trans hz (by decide),fun p hp=>?_⟩
  have n2:=(r2.free hp).1
  exact hok _ U1 (.ref p) _ _ hk (s1.trans (s2.trans (zK.upd n2))) ((r2.newF hp).push (.tup zai (rp.mono (zK.upd n2)))) trivial
 ·rw [zi hz] at ep; cases ep
theorem KP.refl:KP ks σ σ:=fun _ _=>rfl
theorem KP.trans (a:KP ks σ σ1) (b:KP ks σ1 σ2):KP ks σ σ2:=fun i h=>(b i h).trans (a i h)
inductive tWS (X:Cx) (ks:List Nat) (w:WS) (D:L2.Ends) (σ:St) (H:Hp):Prop
 | mk (F G:Hp) (U:Env) (E:Ends) (z4:Rel X.K U σ F G H) (hw:w E U) (n:∀ U' σ' F' H',E.nx U'->KP ks σ σ'->zK F F'->Rel X.K U' σ' F' G H'->D.nx σ' H') (b:∀ U' σ' F' H',E.bk U'->KP ks σ σ'->zK F F'->Rel X.K U' σ' F' G H'->D.bk σ' H') (c:∀ U' σ' F' H',E.ct U'->KP ks σ σ'->zK F F'->Rel X.K U' σ' F' G H'->D.ct σ' H') (r:∀ r U' σ' v F' H',E.rt r U'->KP ks σ σ'->zK F F'->Rel X.K (U'++[zL r]) (σ'++[some v]) F' G H'->RV σ' v r->D.rt v H') (hx:XC X (KP ks σ) F G E.ex):tWS X ks w D σ H
def FS (X:Cx) (ks:List Nat) (st:Stmt) (w:WS):Prop:=∀ (pn:List (Addr×Obj)) (xe:zz),PassesOwn (model X.prog X.w) X.A X.env xe->PS (wp X pn xe) st (tWS (wp X pn xe) ks w)
def FSs (X:Cx) (ks:List Nat) (st:List Stmt) (w:WS):Prop:=∀ (pn:List (Addr×Obj)) (xe:zz),PassesOwn (model X.prog X.w) X.A X.env xe->PSs (wp X pn xe) st (tWS (wp X pn xe) ks w)
theorem PS.imp (h:PS X e t) (k:∀ D σ H,t' D σ H->t D σ H):PS X e t':=fun zZ s σ H D I q=>h zZ s σ H D I (k D σ H q)
theorem PSs.imp (h:PSs X e t) (k:∀ D σ H,t' D σ H->t D σ H):PSs X e t':=fun zZ s σ H D I q=>h zZ s σ H D I (k D σ H q)
inductive tWG (X:Cx) (ks:List Nat) (g:WG) (v:V) (σ:St) (H:Hp) (Q:St->Hp->Prop):Prop
 | mk (F G:Hp) (U:Env) (s:S) (P:Env->Prop) (z4:Rel X.K (U++[some s]) (σ++[some v]) F G H) (hw:g s U P) (n:∀ U' σ' F' H',P U'->KP ks σ σ'->zK F F'->Rel X.K U' σ' F' G H'->Q σ' H'):tWG X ks g v σ H Q
def FG (X:Cx) (ks:List Nat) (tg:Expr) (g:WG):Prop:=∀ (pn:List (Addr×Obj)) (xe:zz),PassesOwn (model X.prog X.w) X.A X.env xe->PG (wp X pn xe) tg (tWG (wp X pn xe) ks g)
theorem PG.imp (h:PG X e t) (k:∀ v σ H Q,t' v σ H Q->t v σ H Q):PG X e t':=fun zZ s σ H v u Q I r q=>h zZ s σ H v u Q I r (k v σ H Q q)
section
variable {st:Stmt} {rest:List Stmt}
theorem zaq:FSs X ks [] wPass:=fun pn xe hp=>PSs.imp zlN fun D σ H q=>by
 obtain ⟨F,G,U,E,z4,hw,n,b,c,r,x⟩:=q
 exact n U σ F H hw KP.refl (zK.refl F) z4
theorem zac (h1:FS X ks st w1) (h2:FSs X ks rest w2):FSs X ks (st::rest) (zR w1 w2):=fun pn xe hp=>PSs.imp (zkr (h1 pn xe hp) (h2 pn xe hp)) fun D σ H q=>by
 obtain ⟨F,G,U,E,z4,hw,n,b,c,r,x⟩:=q
 refine ⟨F,G,U,{ E with nx:=w2 E },z4,hw,fun U1 σ1 F1 H1 hp k s1 r1=>?_,b,c,r,x⟩
 exact ⟨F1,G,U1,E,r1,hp,fun U' σ' F' H' h k' s r=>n U' σ' F' H' h (k.trans k') (s1.trans s) r,fun U' σ' F' H' h k' s r=>b U' σ' F' H' h (k.trans k') (s1.trans s) r,
  fun U' σ' F' H' h k' s r=>c U' σ' F' H' h (k.trans k') (s1.trans s) r,fun a U' σ' v F' H' h k' s q rv=>r a U' σ' v F' H' h (k.trans k') (s1.trans s) q rv,x.mono (fun σ2 k'=>k.trans k') s1 (zK.refl G)⟩
theorem zaf (h1:FS X ks st w1):FSs X ks [st] w1:=fun pn xe hp=>zlz (h1 pn xe hp)
theorem zcf (h:FE X e we) (hs:swapsWith e none pos.line X.env=pure false:=by rfl):FS X ks (.Expr e pos) (wExpr we):=fun pn xe hp=>PS.imp (zlE (h pn xe hp) hs) fun D σ H q=>by
 obtain ⟨F,G,U,E,z4,hw,n,b,c,r,x⟩:=q
 exact ⟨F,G,U,_,_,z4,hw,fun a U1 v F1 H1 hp s1 r1 rv=>n U1 σ F1 H1 hp KP.refl s1 (r1.drop (len1 r1)),x.mono (fun σ2 z=>by rw [z]; exact KP.refl) (zK.refl F) (zK.refl G)⟩
theorem zat (h:FE X e we):FS X ks (.Return (some e) pos) (wRet we):=fun pn xe hp=>PS.imp (zn1 (h pn xe hp)) fun D σ H q=>by
 obtain ⟨F,G,U,E,z4,hw,n,b,c,r,x⟩:=q
 exact ⟨F,G,U,_,_,z4,hw,fun a U1 v F1 H1 hp s1 r1 rv=>r a U1 σ v F1 H1 hp KP.refl s1 r1 rv,x.mono (fun σ2 z=>by rw [z]; exact KP.refl) (zK.refl F) (zK.refl G)⟩
theorem zaT (hc:FT X c tc) (ha:FSs X ks a w1) (hb:FSs X ks b w2):FS X ks (.If c a b pos) (wIf tc w1 w2):=fun pn xe hp=>PS.imp (zrA (hc pn xe hp) (ha pn xe hp) (hb pn xe hp)) fun D σ H q=>by
 obtain ⟨F,G,U,E,z4,hw,n,b,c,r,x⟩:=q
 refine ⟨F,G,U,_,_,z4,hw,fun k U1 F1 H1 hp s1 r1=>?_,x.mono (fun σ2 z=>by rw [z]; exact KP.refl) (zK.refl F) (zK.refl G)⟩
 have go:∀ w:WS,w E U1->tWS (wp X pn xe) ks w D σ H1:=fun w hw=>⟨F1,G,U1,E,r1,hw,fun U' σ' F' H' h k' s r=>n U' σ' F' H' h k' (s1.trans s) r,fun U' σ' F' H' h k' s r=>b U' σ' F' H' h k' (s1.trans s) r,
  fun U' σ' F' H' h k' s r=>c U' σ' F' H' h k' (s1.trans s) r,fun a U' σ' v F' H' h k' s q rv=>r a U' σ' v F' H' h k' (s1.trans s) q rv,x.grow s1⟩
 cases k with
 | true=>exact go _ hp
 | false=>exact go _ hp
theorem zak (he:FE X e we) (hg:FG X ks tg g) (hs:swapsWithSole [tg] e pos.line X.env=pure false:=by rfl) (hw:swappedStores [tg] e X.env=pure none:=by rfl)
  (h1:(assignEach [tg] X.env).map (·.2)=[assign tg X.env]:=by rfl):FS X ks (.Assign [tg] e pos) (zT g we):=fun pn xe hp=>PS.imp (zk5 (he pn xe hp) (hg pn xe hp) hs hw h1) fun D σ H q=>by
 obtain ⟨F,G,U,E,z4,hw,n,b,c,r,x⟩:=q
 refine ⟨F,G,U,_,_,z4,hw,fun a U1 v F1 H1 hp s1 r1 rv=>?_,x.mono (fun σ2 z=>by rw [z]; exact KP.refl) (zK.refl F) (zK.refl G)⟩
 obtain ⟨⟨s,U2⟩,eg,hk⟩:=zad hp
 obtain ⟨F2,s2,l2,r2⟩:=giveR (U':=[]) (σ':=[]) r1 (len1 r1) rv eg
 exact ⟨F2,G,U2,s,_,r2,hk,fun U' σ' F' H' h k' s r=>n U' σ' F' H' h k' (s1.trans (s2.trans s)) r⟩
end
theorem zey (I:Inv X zZ σ H s) (hN:∀ j,X.N[j]?=some x->j=i) (hi:X.N[i]?=some x) (hx:Loc X.env.scope x) (r:zO v u)
  (h:∀ s',Inv X zZ (σ.set i (some v)) H s'->(∃ a,Heap.SameBut a s.heap s'.heap/\(a=X.env.locals\/X.env.cells.lookup x=some a))->Q () s') (hf:X.fn x=true\/X.env.scope.names.lookup x=some .local):wpAny M A (storeName X.env x u) Q E s:=by
 obtain ⟨m,hn,hl⟩:=id I.loc
 have hcls:(X.env.scope.kind == .class || (X.env.scope.kind == .module && X.env.locals !=X.env.globals))=false:=by rw [I.ok.kind]; rfl
 have hiσ:i < σ.length:=by rw [I.len]; exact (qi.mp hi).1
 have cne:=I.cne
 have tracked:∀ {a:Addr} {h':Heap},(∃ o,s.heap.get? a=some o/\H a=none)->Heap.SameBut a s.heap h'->HOk X.prog X.w H h':=fun {a h'} ha hs b ob e=>by
  obtain ⟨_,_,hfree⟩:=ha
  refine (I.hok b ob e).stay (fun c w' hc q=>(hs.2 c ?_).trans q) (fun _ q=>q) fun _ _ q=>q
  rintro rfl
  rcases hc with rfl | hc
  ·rw [hfree] at e; cases e
  ·rw [hfree] at hc; cases hc
 rcases hx with hk | hk
 ·refine wpAny_storeName_local hk hn (fun h' hn' hs=>?_) hcls
  obtain ⟨oL,_,_,hoL,_⟩:=id hn
  refine h _ ⟨I.ok,I.os,I.bare,⟨fun b o e n hb hx=>?_,fun b o e n hb hx=>?_,I.base.free,fun b o e hx=>?_,I.base.tups,I.base.frzs,I.base.tbls⟩,⟨_,hn',fun j y v' e1 e2 e3=>?_⟩,fun y c e=>?_,I.free,I.freeC,fun p hp=>?_,tracked ⟨oL,hoL,I.free⟩ hs,by simpa using I.len⟩ ⟨_,hs,.inl rfl⟩
  ·exact (hs.2 b (ne_of_lt (lt_of_lt_of_le (qg e) I.ok.above))).trans (I.base.keep b o e n hb hx)
  ·obtain ⟨sl,e1⟩:=I.base.slot b o e n hb hx
   exact ⟨sl,(hs.2 b (ne_of_lt (lt_of_lt_of_le (qg e) I.ok.above))).trans e1⟩
  ·obtain ⟨o',e1⟩:=I.base.there b o e hx
   exact ⟨o',(hs.2 b (ne_of_lt (lt_of_lt_of_le (qg e) I.ok.above))).trans e1⟩
  ·by_cases hj:j=i
   ·subst hj
    rw [hi] at e1; cases e1
    rw [getElem?_set_self hiσ] at e2
    cases e2
    exact ⟨u,r,.inl ⟨hk,by simp⟩⟩
   ·rw [getElem?_set_ne (Ne.symm hj)] at e2
    obtain ⟨u',r',q⟩:=hl j y v' e1 e2 e3
    refine ⟨u',r',?_⟩
    rcases q with ⟨k,e⟩ | ⟨k,c,e,z⟩
    ·refine .inl ⟨k,?_⟩
     have:y≠x:=fun e=>hj (hN j (e ▸ e1))
     simp [this,e]
    ·exact .inr ⟨k,c,e,z.sameBut hs (cne y c e)⟩
  ·obtain ⟨w',z⟩:=I.cell y c e
   exact ⟨w',z.sameBut hs (cne y c e)⟩
  ·obtain ⟨e,n,ne,nf,d⟩:=I.pin p hp
   exact ⟨(hs.2 p.1 ne).trans e,n,ne,nf,d⟩
 ·have hfn:X.fn x=true:=by
   rcases hf with z | z
   ·exact z
   ·rw [z] at hk; cases hk
  obtain ⟨c,hc⟩:=I.ok.has x (.inl hk)
  obtain ⟨w',z⟩:=I.cell x c hc
  refine wpAny_storeName_cell I.ok.kind hk hc z (fun h' hc' hs=>?_)
  obtain ⟨oc,hoc,hocd⟩:=id z
  refine h { s with heap:=h' } ⟨I.ok,I.os,I.bare,⟨fun b o e n hb hx=>?_,fun b o e n hb hx=>?_,I.base.free,fun b o e hx=>?_,I.base.tups,I.base.frzs,I.base.tbls⟩,⟨m,hn.sameBut hs (Ne.symm (cne x c hc)),fun j y v' e1 e2 e3=>?_⟩,fun y c' e=>?_,I.free,I.freeC,fun p hp=>?_,tracked ⟨oc,hoc,I.freeC x c hc⟩ hs,by simpa using I.len⟩ ⟨c,hs,.inr hc⟩
  ·exact (hs.2 b (ne_of_lt (lt_of_lt_of_le (qg e) (I.ok.cab x c hfn hc)))).trans (I.base.keep b o e n hb hx)
  ·obtain ⟨sl,e1⟩:=I.base.slot b o e n hb hx
   exact ⟨sl,(hs.2 b (ne_of_lt (lt_of_lt_of_le (qg e) (I.ok.cab x c hfn hc)))).trans e1⟩
  ·obtain ⟨o',e1⟩:=I.base.there b o e hx
   exact ⟨o',(hs.2 b (ne_of_lt (lt_of_lt_of_le (qg e) (I.ok.cab x c hfn hc)))).trans e1⟩
  ·by_cases hj:j=i
   ·subst hj
    rw [hi] at e1; cases e1
    rw [getElem?_set_self hiσ] at e2
    cases e2
    exact ⟨u,r,.inr ⟨.inl hk,c,hc,hc'⟩⟩
   ·rw [getElem?_set_ne (Ne.symm hj)] at e2
    obtain ⟨u',r',q⟩:=hl j y v' e1 e2 e3
    refine ⟨u',r',?_⟩
    rcases q with q | ⟨k,c',e,z'⟩
    ·exact .inl q
    ·refine .inr ⟨k,c',e,z'.sameBut hs ?_⟩
     rintro rfl
     exact hj (hN j (I.ok.inj _ _ _ e hc ▸ e1))
  ·by_cases hcc:c'=c
   ·subst hcc; exact ⟨_,hc'⟩
   ·obtain ⟨w2,z2⟩:=I.cell y c' e
    exact ⟨w2,z2.sameBut hs hcc⟩
  ·obtain ⟨e,n,ne,nf,d⟩:=I.pin p hp
   refine ⟨(hs.2 p.1 ?_).trans e,n,ne,nf,d⟩
   intro q
   rw [q,hoc] at e
   have q':oc=p.2:=qh e
   exact d w' (by rw [<- q']; exact hocd)
theorem KP.set (h:i∉ks):KP ks σ (σ.set i u):=fun j hj=>getElem?_set_ne (fun (z:i=j)=>h (z ▸ hj))
theorem zhF (hk:i∉ks) (hN:∀ j,X.N[j]?=some x->j=i) (hi:X.N[i]?=some x) (hx:Loc X.env.scope x) (hf:X.fn x=true\/X.env.scope.names.lookup x=some .local):FG X ks (.Name x pos) (zI i):=by
 intro pn xe hp zZ s σ H v u Q I rv q
 obtain ⟨F,G,U,t,P,z4,hw,n⟩:=q
 have hl:=len1 z4
 have hiU:i < U.length:=by rw [hl,I.len]; exact (qi.mp hi).1
 exact wpAny_assign_Name (zey (X:=wp X pn xe) I hN hi hx rv (fun s' I' _=>⟨_,H,I',n _ _ F H hw (KP.set hk) (zK.refl F) (z4.store hl hiU)⟩) hf)
inductive tWGs (X:Cx) (ks:List Nat) (gs:List WG) (vs:List V) (σ:St) (H:Hp) (Q:St->Hp->Prop):Prop
 | mk (F G:Hp) (U:Env) (ds:List D) (P:Env->Prop) (z4:Rel X.K U σ F G H) (rp:zX X.K F vs ds) (hw:gTups gs ds U P) (n:∀ U' σ' F' H',P U'->KP ks σ σ'->zK F F'->Rel X.K U' σ' F' G H'->Q σ' H'):tWGs X ks gs vs σ H Q
def FGs (X:Cx) (ks:List Nat) (tg:List Expr) (g:List WG):Prop:=∀ (pn:List (Addr×Obj)) (xe:zz),PassesOwn (model X.prog X.w) X.A X.env xe->PGs (wp X pn xe) tg (tWGs (wp X pn xe) ks g)
theorem zaz:FGs X ks [] []:=fun pn xe hp zZ s σ H vs us Q I r q=>by
 obtain ⟨F,G,U,ds,P,z4,rp,hw,n⟩:=q
 refine zk8 zZ s σ H vs us Q I r ?_
 cases rp with
 | nil=>exact ⟨rfl,n U σ F H hw KP.refl (zK.refl F) z4⟩
 | cons a b=>exact hw.elim
theorem zah (h1:FG X ks e g) (h2:FGs X ks es gs)
  (hs:(assignEach (e::es) X.env).map (·.2)=assign e X.env::(assignEach es X.env).map (·.2):=by rfl):FGs X ks (e::es) (g::gs):=fun pn xe hp zZ s σ H vs us Q I r q=>by
 obtain ⟨F,G,U,ds,P,z4,rp,hw,n⟩:=q
 refine zj8 (X:=wp X pn xe) (h1 pn xe hp) (h2 pn xe hp) hs zZ s σ H vs us Q I r ?_
 cases rp with
 | nil=>exact hw.elim
 | cons a b=>
   refine ⟨_,_,rfl,F,G,U,_,_,z4.push a,hw,fun U1 σ1 F1 H1 hp k s1 r1=>⟨F1,G,U1,_,P,r1,b.mono s1,hp,fun U' σ' F' H' h k' s r=>n U' σ' F' H' h (k.trans k') (s1.trans s) r⟩⟩
theorem zX.len {K:W.Frag} (r:zX K F xs ds):xs.length=ds.length:=zX.ind (P:=fun xs ds=>xs.length=ds.length) rfl (fun _ _ ih=>congrArg (· + 1) ih) r
theorem zaM (hc:X.calm=true) (h:FGs X ks es gs) (hn:(assignEach es X.env).length=gs.length:=by rfl) (hst:(assignEach es X.env).findIdx? (·.1)=none:=by rfl):FG X ks (.Tuple es k pos) (gTup gs):=fun pn xe hp=>by
 refine PG.imp (zoj (X:=wp X pn xe) hc (h pn xe hp) hn hst) fun v σ H Q q=>?_
 obtain ⟨F,G,U,s,P,z4,hw,n⟩:=q
 obtain ⟨F1,s1,rp,r1⟩:=Rel.giveD (U:=U) (vs:=[v]) (ss:=[s]) z4 (len1 z4)
 cases rp with
 | cons a b=>
   have hw':(match s.toD with | .tup ds=>ds.length=gs.length/\gTups gs ds U P | _=>False):=hw
   generalize s.toD=d at a hw'
   cases a with
   | tup e r=>exact ⟨_,_,rfl,SqT.of (r1.fr _ _ e),by rw [r.len]; exact hw'.1,F1,G,U,_,P,r1,r,hw'.2,fun U' σ' F' H' h k' s r=>n U' σ' F' H' h k' (s1.trans s) r⟩
   | _=>exact hw'.elim
def ItOk (K:W.Frag) (J:It) (l:List D) (F0:Hp):Prop:=∀ (i:Nat) (U:Env) (σ:St) (F G H:Hp),zK F0 F->Rel K U σ F G H->
 (∀ d,l[i]?=some d->J.go i H/\∀ x H',J.yld i H x H'->∃ F',zK F F'/\Rel K U σ F' G H'/\Rep K F' x d)/\(l.length<=i->J.stop i H)
inductive tWI (X:Cx) (wi:WI) (σ:St) (H:Hp) (R:It->Hp->Prop):Prop
 | mk (F G:Hp) (U:Env) (P:List D->Env->Prop) (PX:WX) (z4:Rel X.K U σ F G H) (hw:wi U P PX) (hok:∀ l U' F' H' J,P l U'->zK F F'->Rel X.K U' σ F' G H'->ItOk X.K J l F'->R J H') (hx:XC X (·=σ) F G PX):tWI X wi σ H R
def FI (X:Cx) (tg iter:Expr) (wi:WI):Prop:=∀ (pn:List (Addr×Obj)) (xe:zz),PassesOwn (model X.prog X.w) X.A X.env xe->PI (wp X pn xe) tg iter (tWI (wp X pn xe) wi)
theorem PI.imp (h:PI X tg e t) (k:∀ σ H R,t' σ H R->t σ H R):PI X tg e t':=fun zZ s σ H R I q=>h zZ s σ H R I (k σ H R q)
theorem zX.get {K:W.Frag} {i:Nat} (r:zX K F xs ds) (h:ds[i]?=some d):∃ x,xs[i]?=some x/\Rep K F x d:=
 zX.ind (P:=fun xs ds=>∀ i d,ds[i]?=some d->∃ x,xs[i]?=some x/\Rep K F x d) (fun _ _ e=>by cases e) (fun a _ ih i d e=>by
  cases i with
  | zero=>cases e; exact ⟨_,rfl,a⟩
  | succ i=>exact ih i d e) r i d h
section
variable {K:W.Frag}
theorem zcV (e:SqL K F0 a xs) (r:zX K F0 xs l):ItOk K (Itl K a) l F0:=fun i U σ F G H sm z4=>by
 have e':SqL K H a xs:=SqL.mono (sm.trans z4.fr) e
 refine ⟨fun d hd=>?_,fun h=>⟨xs,e',by rw [r.len]; exact h⟩⟩
 obtain ⟨x,hx,rx⟩:=r.get hd
 refine ⟨⟨xs,x,e',hx⟩,fun y H' hy=>?_⟩
 obtain ⟨rfl,hy⟩:=hy
 have:x=y:=qh (hx.symm.trans (hy xs e'))
 subst this
 exact ⟨F,zK.refl F,z4,rx.mono sm⟩
theorem zjV (e:SqT K F0 a xs) (r:zX K F0 xs l):ItOk K (Itt K a) l F0:=fun i U σ F G H sm z4=>by
 have e':SqT K H a xs:=SqT.mono (sm.trans z4.fr) e
 refine ⟨fun d hd=>?_,fun h=>⟨xs,e',by rw [r.len]; exact h⟩⟩
 obtain ⟨x,hx,rx⟩:=r.get hd
 refine ⟨⟨xs,x,e',hx⟩,fun y H' hy=>?_⟩
 obtain ⟨rfl,hy⟩:=hy
 have:x=y:=qh (hx.symm.trans (hy xs e'))
 subst this
 exact ⟨F,zK.refl F,z4,rx.mono sm⟩
theorem zgX {lo:Int} (h:(fromTo lo n)[i]?=some d):i < n/\d=.int (lo + i):=by
 unfold fromTo at h
 rw [qI] at h
 by_cases hi:i < n
 ·rw [getElem?_range hi] at h
  exact ⟨hi,(qh h).symm⟩
 ·rw [qT (by simpa using hi)] at h; cases h
theorem zdr {lo:Int}:ItOk K (Itr lo n) (fromTo lo n) F0:=fun i U σ F G H sm z4=>by
 refine ⟨fun d hd=>?_,fun h=>?_⟩
 ·obtain ⟨hi,rfl⟩:=zgX hd
  refine ⟨hi,fun x H' hy=>?_⟩
  obtain ⟨rfl,rfl⟩:=hy
  exact ⟨F,zK.refl F,z4,.int _⟩
 ·have:n<=i:=by simpa [fromTo] using h
  exact this
end
def Its (x:Str):It:=⟨fun i _=>i < x.cps.size,fun i H v H'=>H'=H/\∃ c,x.cps[i]?=some c/\v=.str ⟨#[c]⟩,fun i _=>x.cps.size<=i⟩
theorem zjC {P:Program} {w:World} {K:W.Frag} {tg:Expr} (it:Addr) (x:Str) (t:Tok) (ty:String) (hty:ty="str_ascii_iterator"\/ty="str_iterator"):Turn P w K tg (Its x) [it] it (fun i h=>h.IsStrIter it ty x t i) where
 mem:=m1
 obj:=fun i h st b hb=>by
  have e:b=it:=by simpa using hb
  subst e
  obtain ⟨o,e,c,d⟩:=st
  exact ⟨o,e,fun v z=>by rw [d] at z; cases z⟩
 keep:=fun i h h' st k=>by
  obtain ⟨o,e,r⟩:=st
  exact ⟨o,k it (m1) o e,r⟩
 item:=by
  intro X hP hw hK hc i zZ s σ H E I hf st hg
  subst hP hw hK
  obtain ⟨f0,f1,f2,f3,f4,f5⟩:=hf it (m1)
  have W:Walks X.prog X.w X.A it [it] [it] x.cps.size (SignAt x) (fun i h=>h.IsStrIter it ty x t i):=by
   rcases hty with rfl | rfl
   ·exact Walks.strAscii (I.ok.hd hc) it x t
   ·exact Walks.strWide (I.ok.hd hc) it x t
  refine W.item i s _ _ hg st fun v h' tk hv st' kk=>?_
  obtain ⟨c,u,e1,rfl⟩:=hv
  have I1:Inv X zZ σ H { s with heap:=h',toks:=tk }:=I.turned (fun b o hb e=>kk b o (by simpa using hb) e) f0 f1 f3 f4 f5
  obtain ⟨o,e,cl,d⟩:=id st'
  exact ⟨_,rfl,zjM (s:={ s with heap:=h',toks:=tk }) e cl d (by rcases hty with rfl | rfl <;> decide) ⟨.str ⟨#[c]⟩,H,I1,⟨u,rfl⟩,⟨rfl,c,e1,rfl⟩,st',fun b hb=>(hf b hb).1⟩⟩
 done:=by
  intro X hP hw hK hc i zZ s σ H E I hf st hg
  subst hP hw hK
  obtain ⟨f0,f1,f2,f3,f4,f5⟩:=hf it (m1)
  have hn:x.cps[i]?=none:=by
   have:x.cps.size<=i:=hg
   simp [this]
  rcases hty with rfl | rfl
  ·exact wpAny_pyNext_ascii_end (I.ok.hd hc) st hn fun h' eb=>⟨rfl,I.turned (t':=s.toks) (fun b o hb e=>eb b o hb e) f0 f1 f3 f4 f5⟩
  ·exact wpAny_pyNext_wide_end (I.ok.hd hc) st hn fun h' eb=>⟨rfl,I.turned (t':=s.toks) (fun b o hb e=>eb b o hb e) f0 f1 f3 f4 f5⟩
 self:=fun A i s Q E st h=>by
  rcases hty with rfl | rfl
  ·exact wpAny_pyIter_striter_ascii st h
  ·exact wpAny_pyIter_striter_wide st h
def iAny (K:W.Frag) (tl:TE):TI:=fun σ H R=>tl σ H fun v H1=>(∃ a,v=.ref a/\(∃ xs,SqL K H1 a xs)/\R (Itl K a) H1)\/(∃ a,v=.ref a/\(∃ xs,SqT K H1 a xs)/\R (Itt K a) H1)\/∃ x,v=.str x/\R (Its x) H1
theorem zmT (hl:PE X l tl):PI X tg l (iAny X.K tl):=by
 intro zZ s σ H R I h
 refine thn (hl zZ s σ H _ I h) fun v s1 zq=>?_
 obtain ⟨y,H1,I1,r1,q1⟩:=zq
 rcases q1 with ⟨a,e,⟨xs,hq⟩,q⟩ | ⟨a,e,⟨xs,hq⟩,q⟩ | ⟨x,e,q⟩
 ·subst e
  cases r1
  obtain ⟨z6,rv,p,hz⟩:=I1.list hq
  refine wpAny_pyIter_list p.isList ?_
  refine ⟨s1.heap.objs.size,[s1.heap.objs.size],_,_,H1,rfl,I1.kept (t':=s1.toks) fun b o e=>qc _ e,zhk a _,⟨_,qd _ rfl,rfl,rfl⟩,fun b hb=>?_,q⟩
  have e:b=s1.heap.objs.size:=by simpa using hb
  subst e
  exact I1.fpOk (zj _) (I1.hok.fresh (zj _))
 ·subst e
  cases r1
  obtain ⟨z6,rv,p,hz⟩:=I1.tuple hq
  refine wpAny_pyIter_tuple (show s1.heap.IsTuple a z6.toArray from p) ?_
  refine ⟨s1.heap.objs.size,[s1.heap.objs.size],_,_,H1,rfl,I1.kept (t':=s1.toks) fun b o e=>qc _ e,zgF a _,⟨_,qd _ rfl,rfl,rfl⟩,fun b hb=>?_,q⟩
  have e:b=s1.heap.objs.size:=by simpa using hb
  subst e
  exact I1.fpOk (zj _) (I1.hok.fresh (zj _))
 ·subst e
  obtain ⟨t,rfl⟩:=r1
  have fin:∀ (ty:String) (o:Obj),(ty="str_ascii_iterator"\/ty="str_iterator")->o.cls=.type ty->o.data=.fields #[.str x t,.int 0 0]->o.isFreed=false->PIE X zZ σ tg R (.ref s1.heap.objs.size) { s1 with heap:=s1.heap.push o }:=fun ty o hty hc hd hf=>by
   refine ⟨s1.heap.objs.size,[s1.heap.objs.size],_,_,H1,rfl,I1.kept (t':=s1.toks) fun b o e=>qc _ e,zjC _ x t ty hty,⟨_,qd _ hf,hc,hd⟩,fun b hb=>?_,q⟩
   have e:b=s1.heap.objs.size:=by simpa using hb
   subst e
   exact I1.fpOk (zj _) (I1.hok.fresh (zj _))
  cases ha:x.cps.all (· < 128)
  ·exact wpAny_pyIter_wide ha (fin "str_iterator" _ (.inr rfl) rfl rfl rfl)
  ·exact wpAny_pyIter_ascii ha (fin "str_ascii_iterator" _ (.inl rfl) rfl rfl rfl)
section
variable {K:W.Frag}
theorem zed (e:x.cps.toList=l):ItOk K (Its x) (l.map fun c=>.str [c]) F0:=fun i U σ F G H sm z4=>by
 have hs:x.cps.size=l.length:=by rw [<- e]; simp
 refine ⟨fun d hd=>?_,fun h=>by show x.cps.size<=i; rw [hs]; simpa using h⟩
 rw [qI] at hd
 cases q:l[i]? with
 | none=>rw [q] at hd; cases hd
 | some c=>
   rw [q] at hd
   have hd':D.str [c]=d:=qh hd
   have hi:i < l.length:=(qi.mp q).1
   have hx:x.cps[i]?=some c:=by rw [<- q9,e]; exact q
   refine ⟨by show i < x.cps.size; rw [hs]; exact hi,fun y H' hy=>?_⟩
   obtain ⟨rfl,c',e1,rfl⟩:=hy
   rw [hx] at e1
   have:c=c':=qh e1
   subst this
   rw [<- hd']
   exact ⟨F,zK.refl F,z4,.str rfl (by show 1<=_; decide)⟩
theorem za2 (h:FE X e we):FI X tg e (wIter we):=fun pn xe hp=>by
 refine PI.imp (zmT (h pn xe hp)) fun σ H R q=>?_
 obtain ⟨F,G,U,P,PX,z4,hw,hok,hx⟩:=q
 refine ⟨F,G,U,_,PX,z4,hw,fun r U1 v F1 H1 hk s1 r1 rv=>?_,hx⟩
 obtain ⟨⟨s,U2⟩,eg,hk⟩:=zad hk
 obtain ⟨l,el,hk⟩:=zad hk
 obtain ⟨F2,s2,l2,r2⟩:=giveR (U':=[]) (σ':=[]) r1 (len1 r1) rv eg
 obtain ⟨F3,s3,rp,r3⟩:=Rel.giveD (U:=U2) (vs:=[v]) (ss:=[s]) r2 (len1 r2)
 have sm:=s1.trans (s2.trans s3)
 cases rp with
 | cons a b=>
   have el':items s.toD=some l:=el
   generalize s.toD=d at a el'
   cases a with
   | lst e r=>
     have:l=_:=(qh el').symm
     subst this
     exact .inl ⟨_,rfl,⟨_,SqL.mono r3.fr e⟩,hok _ U2 F3 H1 _ hk sm r3 (zcV e r)⟩
   | tup e r=>
     have:l=_:=(qh el').symm
     subst this
     exact .inr (.inl ⟨_,rfl,⟨_,SqT.of (r3.fr _ _ e)⟩,hok _ U2 F3 H1 _ hk sm r3 (zjV (SqT.of e) r)⟩)
   | str e z=>
     have:l=_:=(qh el').symm
     subst this
     exact .inr (.inr ⟨_,rfl,hok _ U2 F3 H1 _ hk sm r3 (zed e)⟩)
   | _=>cases el'
theorem zax (hg:Gl X "range") (hm:X.mg "range"=none) (ha:FE X a we) (hs:starEach [a] X.env=[(false,eval a X.env)]:=by rfl):FI X tg (.Call (.Name "range" p) [a] [] pos) (wRange1 we):=fun pn xe hp=>by
 refine PI.imp (zh5 (X:=wp X pn xe) hg hm (zaa ha zab hs pn xe hp) hs) fun σ H R q=>?_
 obtain ⟨F,G,U,P,PX,z4,hw,hok,hx⟩:=q
 refine ⟨F,G,U,fun rs U1=>match rs with | [r]=>(match view r U1 with | some (.int j)=>(-big<=j/\j<=big)/\P (fromTo 0 j.toNat) U1 | _=>False) | _=>False,PX,z4,hw,fun rs U1 vs F1 H1 hk s1 r1 hl rv=>?_,hx⟩
 match rs,vs,rv,r1,hk with
 | [r],[v],rv,r1,hk=>
   dsimp only at hk
   split at hk
   ·rename_i j ej
    have rp:=look (U':=[]) (σ':=[]) r1 hl rv.1 ej
    cases rp
    obtain ⟨⟨h1,h2⟩,hk⟩:=hk
    have eb:(big:Int)=1000000:=rfl
    rw [eb] at h1 h2
    exact ⟨j,rfl,by lia,by lia,hok _ U1 F1 H1 _ hk s1 ((show Rel X.K (U1++[zL r]) (σ++[some (.int j)]) F1 G H1 from r1).drop hl) zdr⟩
   ·exact hk.elim
 | [],_,_,_,hk=>exact hk.elim
 | [_],[],rv,_,_=>exact rv.elim
 | [_],_::_::_,rv,_,_=>exact rv.2.elim
 | _::_::_,_,_,_,hk=>exact hk.elim
theorem zib (hg:Gl X "range") (hm:X.mg "range"=none) (ha:FE X a we) (hb:FE X b wb) (hs:starEach [a,b] X.env=[(false,eval a X.env),(false,eval b X.env)]:=by rfl) (hs2:starEach [b] X.env=[(false,eval b X.env)]:=by rfl):
  FI X tg (.Call (.Name "range" p) [a,b] [] pos) (wRange2 we wb):=fun pn xe hp=>by
 refine PI.imp (ziB (X:=wp X pn xe) hg hm (zaa ha (zaa hb zab hs2) (by rw [hs,hs2]) pn xe hp) hs hs2) fun σ H R q=>?_
 obtain ⟨F,G,U,P,PX,z4,hw,hok,hx⟩:=q
 refine ⟨F,G,U,fun rs U1=>match rs with | [r,t]=>(match view r U1,view t U1 with | some (.int i),some (.int j)=>(-big<=i/\i<=big/\-big<=j/\j<=big)/\P (fromTo i (j - i).toNat) U1 | _,_=>False) | _=>False,PX,z4,hw,fun rs U1 vs F1 H1 hk s1 r1 hl rv=>?_,hx⟩
 match rs,vs,rv,r1,hk with
 | [r,t],[v,u],rv,r1,hk=>
   dsimp only at hk
   split at hk
   ·rename_i i j ei ej
    obtain ⟨rp,rq,r2⟩:=look2 r1 hl rv.1 rv.2.1 ei ej
    cases rp
    cases rq
    obtain ⟨⟨h1,h2,h3,h4⟩,hk⟩:=hk
    have eb:(big:Int)=1000000:=rfl
    rw [eb] at h1 h2 h3 h4
    exact ⟨i,j,rfl,⟨by lia,by lia,by lia,by lia⟩,hok _ U1 F1 H1 _ hk s1 r2 zdr⟩
   ·exact hk.elim
 | [],_,_,_,hk=>exact hk.elim
 | [_],_,_,_,hk=>exact hk.elim
 | [_,_],[],rv,_,_=>exact rv.elim
 | [_,_],[_],rv,_,_=>exact rv.2.elim
 | [_,_],_::_::_::_,rv,_,_=>exact rv.2.2.elim
 | _::_::_::_,_,_,_,hk=>exact hk.elim
end
theorem za5 (hc:X.calm=true) (hi:FI X tg iter wi) (hg:FG X ks tg g) (hb:FSs X ks body wb) (hs:∀ x,foldedSetIterable iter X.env x=pure x:=by intro _; rfl):FS X ks (.For tg iter body [] pos) (wFor wi g wb):=fun pn xe hp=>by
 refine PS.imp (znc (X:=wp X pn xe) hp hc (hi pn xe hp) (hg pn xe hp) (hb pn xe hp) hs) fun D σ H q=>?_
 obtain ⟨F,G,U,E,z4,hw,n,b,c,r,x⟩:=q
 refine ⟨F,G,U,_,_,z4,hw,fun l U1 F1 H1 J hk s1 r1 it=>?_,x.mono (fun σ2 z=>by rw [z]; exact KP.refl) (zK.refl F) (zK.refl G)⟩
 refine ⟨fun i m σ2 H2=>m=l.length - i/\i<=l.length/\∃ F2 U2,KP ks σ σ2/\zK F1 F2/\Rel X.K U2 σ2 F2 G H2/\wLoop g wb (l.drop i) E U2,⟨l.length,rfl,zero_le _,F1,U1,KP.refl,zK.refl F1,r1,by simpa using hk⟩,?_⟩
 rintro i m σ2 H2 ⟨rfl,hi,F2,U2,kp,s2,r2,hw2⟩
 obtain ⟨it1,it2⟩:=it i U2 σ2 F2 G H2 s2 r2
 by_cases hlt:i < l.length
 ·obtain ⟨go,yld⟩:=it1 l[i] (by simp [hlt])
  refine .inr ⟨go,fun σ3 H3=>i + 1<=l.length/\∃ F3 U3,KP ks σ σ3/\zK F1 F3/\Rel X.K U3 σ3 F3 G H3/\wLoop g wb (l.drop (i + 1)) E U3,fun σ3 H3 h=>⟨l.length - (i + 1),by lia,rfl,h⟩,fun y H3 hy=>?_⟩
  obtain ⟨F3,s3,r3,rp⟩:=yld y H3 hy
  rw [List.drop_eq_getElem_cons hlt] at hw2
  refine ⟨F3,G,U2,_,_,r3.push rp,hw2,fun U4 σ4 F4 H4 hp4 k4 s4 r4=>?_⟩
  have kp4:=kp.trans k4
  have sm4:=s1.trans (s2.trans (s3.trans s4))
  exact ⟨F4,G,U4,_,r4,hp4,fun U' σ' F' H' h k' s r=>⟨hlt,F',U',kp4.trans k',s2.trans (s3.trans (s4.trans s)),r,h⟩,fun U' σ' F' H' h k' s r=>n U' σ' F' H' h (kp4.trans k') (sm4.trans s) r,
   fun U' σ' F' H' h k' s r=>⟨hlt,F',U',kp4.trans k',s2.trans (s3.trans (s4.trans s)),r,h⟩,fun a U' σ' v F' H' h k' s q rv=>r a U' σ' v F' H' h (kp4.trans k') (sm4.trans s) q rv,x.mono (fun σ5 k'=>kp4.trans k') sm4 (zK.refl G)⟩
 ·have e:i=l.length:=Nat.le_antisymm hi (not_lt.mp hlt)
  subst e
  rw [List.drop_length] at hw2
  exact .inl ⟨it2 (zj _),n U2 σ2 F2 H2 hw2 kp (s1.trans s2) r2⟩
theorem zjI (hc:FT X c wc) (hb:FSs X ks body wb):FS X ks (.While c body [] pos) (wWhile wc wb):=fun pn xe hp=>by
 refine PS.imp (zjt (X:=wp X pn xe) hp (hc pn xe hp) (hb pn xe hp)) fun D σ H q=>?_
 obtain ⟨F,G,U,E,z4,⟨J,⟨m0,j0⟩,step⟩,n,b,c,r,x⟩:=q
 refine ⟨fun m σ2 H2=>∃ F2 U2,KP ks σ σ2/\zK F F2/\Rel X.K U2 σ2 F2 G H2/\J m U2,⟨m0,F,U,KP.refl,zK.refl F,z4,j0⟩,?_⟩
 rintro m σ2 H2 ⟨F2,U2,kp,s2,r2,j2⟩
 refine ⟨F2,G,U2,_,_,r2,step m U2 j2,fun k U3 F3 H3 hk s3 r3=>?_,x.mono (fun σ5 z=>by rw [z]; exact kp) s2 (zK.refl G)⟩
 have sm3:=s2.trans s3
 cases k with
 | true=>
   dsimp only
   rw [zc rfl]
   refine ⟨fun σ4 H4=>∃ m',m' < m/\∃ F2 U2,KP ks σ σ4/\zK F F2/\Rel X.K U2 σ4 F2 G H4/\J m' U2,fun σ4 H4 h=>h,?_⟩
   exact ⟨F3,G,U3,_,r3,hk,fun U' σ' F' H' ⟨m',hm,h⟩ k' s r=>⟨m',hm,F',U',kp.trans k',sm3.trans s,r,h⟩,fun U' σ' F' H' h k' s r=>n U' σ' F' H' h (kp.trans k') (sm3.trans s) r,
    fun U' σ' F' H' ⟨m',hm,h⟩ k' s r=>⟨m',hm,F',U',kp.trans k',sm3.trans s,r,h⟩,fun a U' σ' v F' H' h k' s q rv=>r a U' σ' v F' H' h (kp.trans k') (sm3.trans s) q rv,x.mono (fun σ5 k'=>kp.trans k') sm3 (zK.refl G)⟩
 | false=>
   dsimp only
   rw [zi q5]
   exact n U3 σ2 F3 H3 hk kp sm3 r3
inductive spW (K:W.Frag) (f:WF) (n:Nat) (vs:List V) (H:Hp) (Q:VK) (Z:XK):Prop
 | mk (F G:Hp) (ss:List S) (P:S->List S->Prop) (PX:D->List S->Prop) (hn:vs.length=n) (z4:Rel K (ss.map some) (vs.map some) F G H) (hw:f ss P PX) (hok:∀ s ss' v F' H',P s ss'->zK F F'->ss'.length=ss.length->Rel K (ss'.map some++[some s]) (vs.map some++[some v]) F' G H'->Q v H') (hex:∀ d ss' F' H' C dx,PX d ss'->zK F F'->ss'.length=ss.length->Rel K (ss'.map some) (vs.map some) F' G H'->clsD K F' d C dx->Z (.ref C) dx H'):spW K f n vs H Q Z
section
variable {K:W.Frag}
theorem Rel.comm (h:U.length=σ.length) (r:Rel K (U++U') (σ++σ') F G H):Rel K (U'++U) (σ'++σ) F G H:=by
 have:=Rel.swap (U:=[]) (σ:=[]) (U1:=U) (σ1:=σ) (U2:=U') (σ2:=σ') rfl h (by simpa using r)
 simpa using this
theorem Rel.lend (r:Rel K (U++(none::U')) (σ++(some v::σ')) F G H) (h:U.length=σ.length) (hs:slot U i=some s) (hv:σ[i]?=some (some v)):
  Rel K (U.set i none++(some s::U')) (σ++(some v::σ')) F G H:=by
 obtain ⟨fp,e,nd,ap⟩:=r.en
 obtain ⟨f1,f2,rfl,a,b⟩:=e.cut h
 obtain ⟨v',fa,fi,fb,e1,rfl,q,up⟩:=a.at hs
 rw [hv] at e1
 have e2:v=v':=by simpa using e1
 subst e2
 have a2:=up (F':=F) (H':=H) (o:=none) (u:=some v) (fi':=[]) (zK.refl F) (fun _ _=>rfl) (.no .nil)
 have es:σ.set i (some v)=σ:=by
  apply ext_getElem?
  intro j
  by_cases hj:i=j
  ·subst hj
   rw [getElem?_set_self (qi.mp hv).1,hv]
  ·rw [getElem?_set_ne hj]
 rw [es] at a2
 cases b with
 | no b=>
   have p:((fa++([]++fb))++(fi++f2)).Perm ((fa++(fi++fb))++f2):=by
    simp only [nil_append,qr]
    refine List.Perm.append_left _ ?_
    rw [<- qr,<- qr fi]
    exact List.Perm.append_right _ qQ
   exact ⟨r.fr,r.gr,_,a2.app (.so q b),p.nodup_iff.mpr nd,fun x hx=>ap x (p.mem_iff.mp hx)⟩
theorem Rel.back1 (r:Rel K (U++(some s::U')) (σ++(some v::σ')) F G H) (h:U.length=σ.length) (hv:σ[i]?=some (some v)):Rel K (U.set i (some s)++U') (σ++σ') F G H:=by
 have hi:i < σ.length:=(qi.mp hv).1
 have es:σ.set i (some v)=σ:=by
  apply ext_getElem?
  grind
 have hl:U'.length=σ'.length:=by
  have:=r.len
  grind
 have r1:=Rel.swap (U1:=[some s]) (σ1:=[some v]) (U2:=U') (σ2:=σ') h rfl r
 rw [<- qr,<- qr] at r1
 have r2:=Rel.store (i:=i) r1 (by simp [h,hl]) (by simp [h]; lia)
 grind
theorem ziS:∀ {rs:List R} {vs:List V} {ms:List Bool} {U U' U1:Env} {ss:List S} {F:Hp} {σ':St},Rel K (U++(rs.map zL++U')) (σ++(vs.map some++σ')) F G H->U.length=σ.length->RVs σ vs rs->prep ms rs U=some (ss,U1)->
  ∃ F',zK F F'/\U1.length=U.length/\ss.length=rs.length/\Rel K (U1++(ss.map some++U')) (σ++(vs.map some++σ')) F' G H
 | [],[],ms,U,U',U1,ss,F,σ',r,h,_,e=>by
   have e':some (([]:List S),U)=some (ss,U1):=by cases ms <;> exact e
   cases e'
   exact ⟨F,zK.refl F,rfl,rfl,r⟩
 | [],_::_,_,_,_,_,_,_,_,_,_,h,_=>h.elim
 | _::_,[],_,_,_,_,_,_,_,_,_,h,_=>h.elim
 | x::rs,v::vs,ms,U,U',U1,ss,F,σ',r,h,rv,e=>by
   -- the first one,as it is handed on
   have first:∃ s U2 ts F1,prep ms.tail rs U2=some (ts,U1)/\ss=s::ts/\zK F F1/\U2.length=U.length/\Rel K (U2++(some s::(rs.map zL++U'))) (σ++(some v::(vs.map some++σ'))) F1 G H:=by
    cases x with
    | v s=>
      have e':(match prep ms.tail rs U with | some (ss,U1)=>some (s::ss,U1) | none=>none)=some (ss,U1):=by cases ms <;> exact e
      cases q:prep ms.tail rs U with
      | none=>rw [q] at e'; cases e'
      | some p=>
        obtain ⟨ts,U3⟩:=p
        rw [q] at e'
        cases e'
        exact ⟨s,U,ts,F,q,rfl,zK.refl F,rfl,r⟩
    | loc i=>
      have e':(match slot U i with
       | some s=>if ms.headD false then (match prep ms.tail rs (U.set i none) with
         | some (ss,U1)=>some (s::ss,U1)
         | none=>none)
         else (match prep ms.tail rs (U.set i (some (.sh s.toD))) with
          | some (ss,U1)=>some (.sh s.toD::ss,U1)
          | none=>none)
       | none=>none)=some (ss,U1):=by cases ms <;> exact e
      cases q:slot U i with
      | none=>rw [q] at e'; cases e'
      | some s=>
        rw [q] at e'
        dsimp only at e'
        by_cases hm:ms.headD false=true
        ·rw [zc hm] at e'
         cases q2:prep ms.tail rs (U.set i none) with
         | none=>rw [q2] at e'; cases e'
         | some p=>
           obtain ⟨ts,U3⟩:=p
           rw [q2] at e'
           cases e'
           exact ⟨s,U.set i none,ts,F,q2,rfl,zK.refl F,by simp,Rel.lend r h q rv.1⟩
        ·rw [zi hm] at e'
         cases q2:prep ms.tail rs (U.set i (some (.sh s.toD))) with
         | none=>rw [q2] at e'; cases e'
         | some p=>
           obtain ⟨ts,U3⟩:=p
           rw [q2] at e'
           cases e'
           obtain ⟨F1,s1,l1,r1⟩:=giveR (x:=.loc i) (s:=.sh s.toD) (U1:=U.set i (some (.sh s.toD))) r h rv.1 (by show (match slot U i with | some s=>some (S.sh s.toD,U.set i (some (.sh s.toD))) | none=>none)=_; rw [q])
           exact ⟨_,_,ts,F1,q2,rfl,s1,by simp,r1⟩
   obtain ⟨s,U2,ts,F1,q2,rfl,s1,l1,r1⟩:=first
   have h2:U2.length=σ.length:=l1.trans h
   have hl:(rs.map zL++U').length=(vs.map some++σ').length:=by
    have:=r1.len
    rw [qt,qt,h2,qv,qv] at this
    lia
   have hl':U'.length=σ'.length:=by
    have:=rv.2.len
    simp at hl
    lia
   have r2:=Rel.swap (U1:=[some s]) (σ1:=[some v]) (U2:=rs.map zL++U') (σ2:=vs.map some++σ') h2 rfl r1
   rw [qr,qr] at r2
   obtain ⟨F2,s2,l2,l3,r3⟩:=ziS (rs:=rs) (vs:=vs) r2 h2 rv.2 q2
   have h3:U1.length=σ.length:=l2.trans h2
   rw [<- qr (ts.map some),<- qr (vs.map some)] at r3
   have r4:=Rel.swap (U1:=ts.map some++U') (σ1:=vs.map some++σ') (U2:=[some s]) (σ2:=[some v]) h3 (by simp [l3,rv.2.len,hl']) r3
   exact ⟨F2,s1.trans s2,l2.trans l1,by simp [l3],r4⟩
theorem zcS:∀ {rs:List R} {vs:List V} {ms:List Bool} {U U':Env} {ss:List S} {σ':St},Rel K (U++(ss.map some++U')) (σ++(vs.map some++σ')) F G H->U.length=σ.length->ss.length=rs.length->RVs σ vs rs->
  (back ms rs ss U).length=U.length/\Rel K (back ms rs ss U++U') (σ++σ') F G H
 | [],[],ms,U,U',[],σ',r,h,_,_=>by
   have e:back ms [] [] U=U:=by cases ms <;> rfl
   rw [e]
   exact ⟨rfl,r⟩
 | [],_,_,_,_,_::_,_,_,_,hl,_=>by simp at hl
 | _::_,_,_,_,_,[],_,_,_,hl,_=>by simp at hl
 | [],_::_,_,_,_,_,_,_,_,_,h=>h.elim
 | _::_,[],_,_,_,_,_,_,_,_,h=>h.elim
 | x::rs,v::vs,ms,U,U',s::ss,σ',r,h,hl,rv=>by
   cases x with
   | v t=>
     have e:back ms (.v t::rs) (s::ss) U=back ms.tail rs ss U:=by cases ms <;> rfl
     rw [e]
     exact zcS (rs:=rs) (vs:=vs) (r.mid h) h (by simpa using hl) rv.2
   | loc i=>
     have e:back ms (.loc i::rs) (s::ss) U=if ms.headD false then back ms.tail rs ss (U.set i (some s)) else back ms.tail rs ss U:=by cases ms <;> rfl
     rw [e]
     by_cases hm:ms.headD false=true
     ·rw [zc hm]
      have q:=zcS (rs:=rs) (vs:=vs) (ms:=ms.tail) (U:=U.set i (some s)) (Rel.back1 r h rv.1) (by simpa using h) (by simpa using hl) rv.2
      exact ⟨q.1.trans (by simp),q.2⟩
     ·rw [zi hm]
      exact zcS (rs:=rs) (vs:=vs) (r.mid h) h (by simpa using hl) rv.2
end
theorem zlL (Fk:FnOk X.prog X.w X.K X.mg X.base (CXe X.prog X.w) k f fd ps (spW X.K wf n)) (hr:Room k X.A) (hg:Gl X x) (hm:X.mg x=some (.ref f)) (hk:W.keepIn X.K (.ref f)=true) (hb:Binds X.K fd ps [])
  (ha:FA X (e::es) wa) (z5:∀ ss P PX,wf ss P PX->ss.length=n) (hdb:(x == ("__debug__":Str))=false:=by decide) (he:starEach (e::es) X.env=(false,eval e X.env)::starEach es X.env:=by rfl) (hpl:(backTo pos (starEach es X.env)).any (·.1)=false:=by rfl):
  FE X (.Call (.Name x p) (e::es) [] pos) (zS wf ms wa):=fun pn xe hp=>by
 refine PE.imp (zkk (X:=wp X pn xe) Fk hr hg hm hk hb (ha pn xe hp) hdb he hpl) fun σ H Q q=>?_
 refine (many (k:=fun rs U1 Q E=>zJ (prep ms rs U1) fun p=>wf p.1 (fun s ss=>Q (.v s) (back ms rs ss p.2)) (fun x ss=>E x (back ms rs ss p.2))) q).mono fun vs H1 h1=>?_
 obtain ⟨F,G,U,rs,P,PX,z4,hl,rv,hk,hok,hx⟩:=h1
 obtain ⟨⟨ss,U1⟩,ep,hk⟩:=zad hk
 obtain ⟨F1,s1,l1,l2,r1⟩:=ziS (U':=[]) (σ':=[]) (by simpa using z4) hl rv ep
 have h1:U1.length=σ.length:=l1.trans hl
 have r2:=Rel.comm (U':=ss.map some) (σ':=vs.map some) h1 (by simpa using r1)
 have hsv:(ss.map some).length=(vs.map some).length:=by simp [l2,rv.len]
 obtain ⟨G',r3,gg,bk⟩:=r2.hide hsv
 have hn:=z5 _ _ _ hk
 show spW X.K wf n vs H1 Q (XW (wp X pn xe) σ)
 refine ⟨F1,G',ss,_,_,by rw [rv.len,<- l2]; exact hn,r3,hk,fun s ss' v F2 H2 hp s2 l3 r4=>?_,fun d ss' F2 H2 C dx hp s2 l3 r4 cd a s' I Fl=>?_⟩
 ·have r5:=bk s2 r4
  have hsv':(ss'.map some++[some s]).length=(vs.map some++[some v]).length:=by simp [l3,l2,rv.len]
  have r6:=Rel.comm hsv' r5
  obtain ⟨l7,r7⟩:=zcS (ms:=ms) (rs:=rs) (vs:=vs) (U':=[some s]) (σ':=[some v]) r6 h1 (l3.trans l2) rv
  exact hok _ _ v F2 H2 hp (s1.trans s2) r7 trivial
 ·have r5:=bk s2 r4
  have hsv':(ss'.map some).length=(vs.map some).length:=by simp [l3,l2,rv.len]
  have r6:=Rel.comm hsv' r5
  obtain ⟨l7,r7⟩:=zcS (ms:=ms) (rs:=rs) (vs:=vs) (U':=[]) (σ':=[]) (by simpa using r6) h1 (l3.trans l2) rv
  exact hx d _ σ F2 H2 (.ref a) s' hp rfl (s1.trans s2) (by simpa using r7) I ⟨a,C,dx,rfl,cd,Fl⟩
section
variable {K:W.Frag}
theorem Rel.pushNs (r:Rel K U σ F G H):∀ m:Nat,Rel K (U++List.replicate m none) (σ++List.replicate m none) F G H
 | 0=>by simpa using r
 | m + 1=>by
   have:=(Rel.pushNs r m).pushN (u:=none)
   rw [qr,qr,<- List.replicate_succ',<- List.replicate_succ'] at this
   exact this
def Args (K:W.Frag) (F:Hp):List S->List V->St->Prop
 | [],[],_=>True
 | s::ss,v::vs,u::σ=>((∃ d,s=.sh d/\Rep K F v d)\/(s.isSh=false/\u=some v))/\Args K F ss vs σ
 | _,_,_=>False
theorem zbI:∀ {ss:List S} {vs:List V} {fs:List S} {U U' Ua:Env} {σ σ' σa:St},finals ss U=some fs->Rel K (Ua++(U++U')) (σa++(σ++σ')) F G H->Ua.length=σa.length->U.length=σ.length->Args K F ss vs σ->
  fs.length=ss.length/\vs.length=ss.length/\Rel K (Ua++(fs.map some++U')) (σa++(vs.map some++σ')) F G H
 | [],[],fs,U,U',Ua,σ,σ',σa,e,r,h,h2,_=>by
   have e':some ([]:List S)=some fs:=by cases U <;> exact e
   cases e'
   refine ⟨rfl,rfl,?_⟩
   have r1:=Rel.swap (U1:=U) (σ1:=σ) (U2:=U') (σ2:=σ') h h2 r
   rw [<- qr,<- qr] at r1
   have hl:(Ua++U').length=(σa++σ').length:=by
    have:=r.len
    simp at this
    simp
    lia
   simpa using r1.drop hl
 | [],_::_,_,_,_,_,_,_,_,_,_,_,_,h=>by cases h
 | _::_,[],_,_,_,_,_,_,_,_,_,_,_,h=>by cases h
 | _::_,_::_,_,_,_,_,[],_,_,_,_,_,_,h=>by cases h
 | _::_,_::_,_,[],_,_,_::_,_,_,_,_,_,h2,_=>by simp at h2
 | s::ss,v::vs,fs,o::U,U',Ua,u::σ,σ',σa,e,r,h,h2,ha=>by
   have h2':U.length=σ.length:=by simpa using h2
   obtain ⟨ha1,ha2⟩:=ha
   rcases ha1 with ⟨d,rfl,rp⟩ | ⟨hs,hu⟩
   ·have e':(finals ss U).map (S.sh d::·)=some fs:=e
    cases q:finals ss U with
    | none=>rw [q] at e'; cases e'
    | some gs=>
      rw [q] at e'
      have e'':S.sh d::gs=fs:=qh e'
      subst e''
      have r1:Rel K (Ua++(U++U')) (σa++(σ++σ')) F G H:=Rel.mid (U:=Ua) (σ:=σa) r h
      obtain ⟨l1,l2,r2⟩:=zbI q r1 h h2' ha2
      have hl:(gs.map some++U').length=(vs.map some++σ').length:=by
       have:=r2.len
       simp at this
       simp
       lia
      have r3:=r2.push rp
      rw [qr Ua,qr σa] at r3
      have r4:=Rel.swap (U1:=gs.map some++U') (σ1:=vs.map some++σ') (U2:=[some (.sh d)]) (σ2:=[some v]) h hl r3
      exact ⟨by simp [l1],by simp [l2],r4⟩
   ·subst hu
    have e':∃ t gs,o=some t/\finals ss U=some gs/\fs=t::gs:=by
     cases s with
     | sh d=>cases hs
     | _=>
       cases o with
       | none=>cases e
       | some t=>
         have e':(finals ss U).map (t::·)=some fs:=e
         cases q:finals ss U with
         | none=>rw [q] at e'; cases e'
         | some gs=>rw [q] at e'; exact ⟨t,gs,rfl,rfl,(qh e').symm⟩
    obtain ⟨t,gs,rfl,q,rfl⟩:=e'
    have r1:Rel K ((Ua++[some t])++(U++U')) ((σa++[some v])++(σ++σ')) F G H:=by simpa using r
    obtain ⟨l1,l2,r2⟩:=zbI q r1 (by simp [h]) h2' ha2
    exact ⟨by simp [l1],by simp [l2],by simpa using r2⟩
theorem ziZ {ks:List Nat}:∀ {ss:List S} {vs:List V} {σ:St} {j:Nat} {fp:List Addr},zM K F0 H (ss.map some) (vs.map some) fp->zK F0 F->(∀ i s,ss[i]?=some s->(j + i)∈ks\/s.isSh=true)->
  (∀ i v,vs[i]?=some v->(j + i)∈ks->σ[i]?=some (some v))->vs.length<=σ.length->Args K F ss vs σ
 | [],[],_,_,_,_,_,_,_,_=>trivial
 | [],_::_,_,_,_,r,_,_,_,_=>by cases r
 | _::_,[],_,_,_,r,_,_,_,_=>by cases r
 | _::_,_::_,[],_,_,_,_,_,_,h=>by simp at h
 | s::ss,v::vs,u::σ,j,_,.so a b,sm,hk,hv,hl=>by
   refine ⟨?_,ziZ (j:=j + 1) b sm (fun i t e=>by have:=hk (i + 1) t (by simpa using e); rwa [show j + (i + 1)=j + 1 + i by lia] at this) (fun i t e z=>by simpa using hv (i + 1) t (by simpa using e) (by rwa [show j + (i + 1)=j + 1 + i by lia])) (by simpa using hl)⟩
   cases hs:s.isSh with
   | true=>
     cases s with
     | sh d=>cases a with
       | sh r=>exact .inl ⟨d,rfl,r.mono sm⟩
     | _=>cases hs
   | false=>
     refine .inr ⟨rfl,?_⟩
     have:=hk 0 s rfl
     rw [hs] at this
     have z:(j + 0)∈ks:=this.resolve_right (by simp)
     simpa using hv 0 v rfl z
theorem fn_w {st:Stmt} (Fn:Fun K x qual st f fd) (Sc:FnScope N ps (defScope st)) (hn:ps.length=n) (hm:N.length=m)
  (hb:∀ (cdv:Value) (A:Around) (outer:List PySem.Env) (s:Shared) (H:Hp) (E:XK),Room k (A.deeper (envOfC qual (defScope st) s.heap.objs.size f cdv))->FSs (cxOf (CXe P w) P w K mg base N qual (defScope st) f cdv A outer s H E) ks (defBody st) wb):
  FnOk P w K mg base (CXe P w) (k + 1) f fd ps (spW K (wFn n m ks wb) n):=by
 refine Fn.okX Sc (fun vs H Q E h=>?_) (fun cdv A outer s H vs Q E hr h=>?_)
 ·obtain ⟨F,G,ss,P',PX,hl,_⟩:=h
  rw [hl,hn]
 ·obtain ⟨F,G,ss,P',PX,hvl,z4,⟨hsl,hks,hbody⟩,hok,hex⟩:=h
  refine ⟨_,hb cdv A outer s H E hr [] (cxOf (CXe P w) P w K mg base N qual (defScope st) f cdv A outer s H E).xe PassesOwn.leaving,?_⟩
  have hmn:N.length - vs.length=m - n:=by rw [hvl,hm]
  have hr0:Rel K (ss.map some++List.replicate (m - n) none) (L2.start N vs) F G H:=by
   unfold L2.start
   rw [hmn]
   exact z4.pushNs (m - n)
  have hpl:ps.length<=N.length:=by have:=congrArg List.length Sc.pre; rw [qK] at this; lia
  have hst:∀ i v,vs[i]?=some v->(L2.start N vs)[i]?=some (some v):=fun i v e=>by
   unfold L2.start
   have hi:i < vs.length:=(qi.mp e).1
   rw [getElem?_append_left (by simpa using hi),qI,e]
   rfl
  -- how the arguments are at an end
  have arg:∀ {U':Env} {σ':St} {F':Hp} {fs:List S},KP ks (L2.start N vs) σ'->zK F F'->U'.length=σ'.length->finals ss U'=some fs->Args K F' ss vs σ':=by
   intro U' σ' F' fs kp sm z5 e
   obtain ⟨fp,en,_⟩:=z4.en
   have hσ:vs.length<=σ'.length:=by
    -- finals reads as many slots as there are arguments
    have:∀ (ss:List S) (U:Env) (fs:List S),finals ss U=some fs->ss.length<=U.length:=by
     intro ss
     induction ss with
     | nil=>intro U fs _; simp
     | cons s ss ih=>
       intro U fs e
       cases U with
       | nil=>cases s <;> cases e
       | cons o U=>
         have:∃ gs,finals ss U=some gs:=by
          cases q:finals ss U with
          | some gs=>exact ⟨gs,rfl⟩
          | none=>
            cases s with
            | sh d=>have e':(finals ss U).map (S.sh d::·)=some fs:=e; rw [q] at e'; cases e'
            | _=>
              cases o with
              | none=>cases e
              | some t=>have e':(finals ss U).map (t::·)=some fs:=e; rw [q] at e'; cases e'
         obtain ⟨gs,q⟩:=this
         have:=ih U gs q
         simp
         exact this
    have:=this ss U' fs e
    rw [hsl] at this
    lia
   exact ziZ (ks:=ks) (F:=F') (σ:=σ') (j:=0) en sm (fun i s e=>by simpa using hks i s e) (fun i v e z=>by
    rw [kp i (by simpa using z)]
    exact hst i v e) hσ
  have fin:∀ {U':Env} {σ':St} {F' H':Hp} {t:S} {v:V} {fs:List S},KP ks (L2.start N vs) σ'->zK F F'->Rel K (U'++[some t]) (σ'++[some v]) F' G H'->finals ss U'=some fs->P' t fs->Q v H':=by
   intro U' σ' F' H' t v fs kp sm r e hp
   have z5:U'.length=σ'.length:=len1 r
   obtain ⟨l1,l2,r1⟩:=zbI (Ua:=[]) (σa:=[]) (U':=[some t]) (σ':=[some v]) e (by simpa using r) rfl z5 (arg kp sm z5 e)
   exact hok t fs v F' H' hp sm l1 (by simpa using r1)
  refine ⟨F,G,_,_,hr0,hbody,fun U' σ' F' H' h kp sm r=>?_,fun U' σ' F' H' h=>h.elim,fun U' σ' F' H' h=>h.elim,fun a U' σ' v F' H' h kp sm r rv=>?_,fun d U' σ' F' H' u s' h kp sm r I xr=>?_⟩
  ·obtain ⟨fs,e,h⟩:=zad h
   exact fin kp sm (r.push .non) e h
  ·cases a with
   | v t=>
     obtain ⟨fs,e,h⟩:=zad h
     exact fin kp sm r e h
   | loc i=>
     obtain ⟨t,et,h⟩:=zad h
     have hl:=len1 r
     by_cases hi:i < n
     ·rw [zc hi] at h
      obtain ⟨fs,e,h⟩:=zad h
      obtain ⟨F2,s2,_,r2⟩:=giveR (x:=.loc i) (s:=.sh t.toD) (U1:=U'.set i (some (.sh t.toD))) (U':=[]) (σ':=[]) r hl rv (by show (match slot U' i with | some s=>some (S.sh s.toD,U'.set i (some (.sh s.toD))) | none=>none)=_; rw [et])
      exact fin kp (sm.trans s2) r2 e h
     ·rw [zi hi] at h
      obtain ⟨fs,e,h⟩:=zad h
      have r2:=Rel.lend (U':=[]) (σ':=[]) r hl et rv
      refine fin kp sm r2 ?_ h
      -- the slot lies behind the parameters
      have:∀ (ss:List S) (U:Env) (i:Nat),ss.length<=i->finals ss (U.set i none)=finals ss U:=by
       intro ss
       induction ss with
       | nil=>intro U i _; cases U <;> cases i <;> rfl
       | cons s ss ih=>
         intro U i hi
         cases U with
         | nil=>rfl
         | cons o U=>
           cases i with
           | zero=>simp at hi
           | succ i=>
             have e:=ih U i (by simpa using hi)
             show finals (s::ss) (o::U.set i none)=finals (s::ss) (o::U)
             cases s with
             | sh d=>show (finals ss (U.set i none)).map _=(finals ss U).map _; rw [e]
             | _=>
               cases o with
               | none=>rfl
               | some t=>show (finals ss (U.set i none)).map _=(finals ss U).map _; rw [e]
      rw [this ss U' i (by lia)]
      exact e
  ·obtain ⟨fs,e,h⟩:=zad h
   obtain ⟨a,C,dx,rfl,cd,Fl⟩:=xr
   obtain ⟨l1,l2,r1⟩:=zbI (K:=K) (Ua:=[]) (σa:=[]) (U':=[]) (σ':=[]) e (by simpa using (show Rel K U' σ' F' G H' from r)) rfl r.len (arg kp sm r.len e)
   exact zkm I Fl (hex d fs F' H' C dx h sm l1 (by simpa using r1) cd)
end
end FL
namespace L2
open PySem PySem.Spec PyProof.Rows
def closL (cells:List (Str×Addr)):List (Str×NameKind)->List (Str×Addr)->List (Str×Addr)
 | [],z7=>z7
 | (n,k)::r,z7=>if k == .free then (match cells.lookup n with | some c=>closL cells r ((n,c)::z7) | none=>closL cells r z7) else closL cells r z7
theorem zb9 (f:Str×NameKind->List (Str×Addr)->Sem (ForInStep (List (Str×Addr))))
  (hf:∀ n k cs,f (n,k) cs=if k == .free then (do let a <- cellOf env n; pure (.yield ((n,a)::cs))) else pure (.yield cs)):
  ∀ (names:List (Str×NameKind)) (z7:List (Str×Addr)),(∀ x∈names,x.2=.free->∃ c,env.cells.lookup x.1=some c)->(forIn names z7 f:Sem _)=pure (closL env.cells names z7)
 | [],z7,_=>by rw [forIn_nil]; rfl
 | (n,k)::r,z7,h=>by
   rw [forIn_cons,hf]
   have hr:∀ x∈r,x.2=.free->∃ c,env.cells.lookup x.1=some c:=fun x hx=>h x (qo _ hx)
   by_cases hk:(k == .free)=true
   ·obtain ⟨c,hc⟩:=h (n,k) qp (by simpa using hk)
    have hc':env.cells.lookup n=some c:=hc
    have e:cellOf env n=pure c:=by unfold cellOf; rw [hc']
    rw [zc hk,e]
    have ih:=zb9 f hf r ((n,c)::z7) hr
    unfold closL
    rw [zc hk,hc']
    rw [<- ih]
    simp
   ·rw [zi hk]
    have ih:=zb9 f hf r z7 hr
    unfold closL
    rw [zi hk,<- ih]
    simp
theorem zdU (h:∀ x∈scope.names,x.2=.free->∃ c,env.cells.lookup x.1=some c):closureFor scope env=pure (closL env.cells scope.names []):=by
 show (forIn scope.names ([]:List (Str×Addr)) _ >>= fun cs=>pure cs)=_
 rw [zb9 (env:=env) _ (fun n k cs=>rfl) scope.names [] h]
 rfl
theorem zbK:∀ {names:List (Str×NameKind)} {z7:List (Str×Addr)},(n,c)∈closL cells names z7->(n,c)∈z7\/((n,NameKind.free)∈names/\cells.lookup n=some c)
 | [],_,h=>.inl h
 | (m,k)::r,z7,h=>by
   unfold closL at h
   by_cases hk:(k == .free)=true
   ·rw [zc hk] at h
    have hk':k=.free:=by simpa using hk
    cases q:cells.lookup m with
    | none=>
      rw [q] at h
      rcases zbK h with z | ⟨z,w⟩
      ·exact .inl z
      ·exact .inr ⟨qo _ z,w⟩
    | some d=>
      rw [q] at h
      rcases zbK h with z | ⟨z,w⟩
      ·rcases qD.mp z with e | z
       ·cases e
        exact .inr ⟨by rw [<- hk']; exact qp,q⟩
       ·exact .inl z
      ·exact .inr ⟨qo _ z,w⟩
   ·rw [zi hk] at h
    rcases zbK h with z | ⟨z,w⟩
    ·exact .inl z
    ·exact .inr ⟨qo _ z,w⟩
theorem zbo (hc:cells.lookup n=some c):∀ {names:List (Str×NameKind)} {z7:List (Str×Addr)},((n,c)∈z7\/(n,NameKind.free)∈names)->(n,c)∈closL cells names z7
 | [],_,h=>h.elim id fun z=>by simp at z
 | (m,k)::r,z7,h=>by
   unfold closL
   by_cases hk:(k == .free)=true
   ·rw [zc hk]
    have hk':k=.free:=by simpa using hk
    cases q:cells.lookup m with
    | none=>
      refine zbo hc ?_
      rcases h with z | z
      ·exact .inl z
      ·rcases qD.mp z with e | z
       ·cases e; rw [hc] at q; cases q
       ·exact .inr z
    | some d=>
      refine zbo hc ?_
      rcases h with z | z
      ·exact .inl (qo _ z)
      ·rcases qD.mp z with e | z
       ·cases e; rw [hc] at q; cases q; exact .inl qp
       ·exact .inr z
   ·rw [zi hk]
    refine zbo hc ?_
    rcases h with z | z
    ·exact .inl z
    ·rcases qD.mp z with e | z
     ·cases e; exact (hk (by decide)).elim
     ·exact .inr z
theorem zaS {α:Type}:∀ {l:List (Str×α)} {n:Str} {c:α},(n,c)∈l->(∀ c',(n,c')∈l->c'=c)->l.lookup n=some c
 | [],_,_,h,_=>by simp at h
 | (m,d)::r,n,c,h,u=>by
   rw [lookup_cons]
   cases hb:n == m with
   | true=>
     have e:n=m:=by simpa using hb
     subst e
     exact congrArg some (u d qp)
   | false=>
     refine zaS (l:=r) ?_ fun c' hc=>u c' (qo _ hc)
     rcases qD.mp h with e | h
     ·cases e; simp at hb
     ·exact h
theorem zbc:∀ {names:List (Str×NameKind)} {n:Nat} {z7:List (Str×Addr)} {x:Str} {c:Addr},(x,c)∈cellsFrom n names z7->(x,c)∈z7\/((x,NameKind.cell)∈names/\n<=c)
 | [],_,_,_,_,h=>.inl h
 | (m,k)::r,n,z7,x,c,h=>by
   unfold cellsFrom at h
   by_cases hk:(k == .cell)=true
   ·rw [zc hk] at h
    have hk':k=.cell:=by simpa using hk
    rcases zbc h with z | ⟨z,w⟩
    ·rcases qD.mp z with e | z
     ·cases e; exact .inr ⟨by rw [<- hk']; exact qp,zj _⟩
     ·exact .inl z
    ·exact .inr ⟨qo _ z,by lia⟩
   ·rw [zi hk] at h
    rcases zbc h with z | ⟨z,w⟩
    ·exact .inl z
    ·exact .inr ⟨qo _ z,w⟩
theorem zaB:∀ {names:List (Str×NameKind)} {n:Nat} {z7:List (Str×Addr)} {x:Str},((x,NameKind.cell)∈names\/∃ c,(x,c)∈z7)->∃ c,(x,c)∈cellsFrom n names z7
 | [],_,_,_,h=>h.elim (fun z=>by simp at z) id
 | (m,k)::r,n,z7,x,h=>by
   unfold cellsFrom
   by_cases hk:(k == .cell)=true
   ·rw [zc hk]
    refine zaB ?_
    rcases h with z | ⟨c,z⟩
    ·rcases qD.mp z with e | z
     ·cases e; exact .inr ⟨n,qp⟩
     ·exact .inl z
    ·exact .inr ⟨c,qo _ z⟩
   ·rw [zi hk]
    refine zaB ?_
    rcases h with z | z
    ·rcases qD.mp z with e | z
     ·cases e; exact (hk (by decide)).elim
     ·exact .inl z
    ·exact .inr z
theorem zav {α:Type}:∀ {l:List (Str×α)} {x:Str},(∃ c,(x,c)∈l)->∃ c,l.lookup x=some c
 | [],_,⟨_,h⟩=>by simp at h
 | (m,d)::r,x,⟨c,h⟩=>by
   rw [lookup_cons]
   cases hb:x == m with
   | true=>exact ⟨d,rfl⟩
   | false=>
     refine zav (l:=r) ⟨c,?_⟩
     rcases qD.mp h with e | h
     ·cases e; simp at hb
     ·exact h
theorem zaP:∀ {names:List (Str×NameKind)} {n:Nat} {z7:List (Str×Addr)},(∀ p∈z7,p.2 < n)->(∀ p∈z7,∀ q∈z7,p.2=q.2->p.1=q.1)->
  ∀ p∈cellsFrom n names z7,∀ q∈cellsFrom n names z7,p.2=q.2->p.1=q.1
 | [],_,_,_,h=>h
 | (m,k)::r,n,z7,hb,h=>by
   unfold cellsFrom
   by_cases hk:(k == .cell)=true
   ·rw [zc hk]
    refine zaP (fun p hp=>?_) fun p hp q hq e=>?_
    ·rcases qD.mp hp with rfl | hp
     ·exact Nat.lt_succ_self _
     ·exact lt_succ_of_lt (hb p hp)
    ·rcases qD.mp hp with rfl | hp <;> rcases qD.mp hq with rfl | hq
     ·rfl
     ·have h1:=hb q hq
      have e':n=q.2:=e
      exact absurd h1 (by rw [<- e']; exact lt_irrefl _)
     ·have h1:=hb p hp
      have e':p.2=n:=e
      exact absurd h1 (by rw [e']; exact lt_irrefl _)
     ·exact h p hp q hq e
   ·rw [zi hk]
    exact zaP hb h
theorem zfk
  (hQ:∀ h':Heap,(∀ b o,s.heap.get? b=some o->h'.get? b=some o)->h'.Ns s.heap.objs.size (fun _=>none)->(∀ x c,(x,c)∈cellsFrom (s.heap.objs.size + 1) scope.names cl->(x,c)∈cl\/h'.IsCell c none)->
   Q { scope:=scope,locals:=s.heap.objs.size,globals:=globals,cells:=cellsFrom (s.heap.objs.size + 1) scope.names cl,qual:=qual,func:=none,code:=env.code,frame:=env.frame,builtins:=env.builtins } { s with heap:=h' }):
  wpAny M A (newFunctionEnv scope globals cl [] qual none .none (some env)) Q E s:=by
 simp only [newFunctionEnv,isSome_some,if_true]
 refine qa (wpAny_alloc ?_)
 refine qa (wpAny_layCells _ (fun name kind cells=>by cases hkc:kind == NameKind.cell <;> simp [hkc]) _ _ _ _ ?_)
 rw [show ({ s with heap:=s.heap.push { cls:=.type "dict",data:=.dict #[] } }:Shared).heap.objs.size=s.heap.objs.size + 1 from Heap.size_push ..]
 refine qb (hQ _ (fun b o e=>pushCells_keeps _ _ b o (qc _ e)) ((Heap.Ns.new s.heap (.type "dict")).keeps (pushCells_keeps _ _)) fun x c h=>?_)
 -- the new cells are empty
 have all:∀ (names:List (Str×NameKind)) (h:Heap) (z7:List (Str×Addr)),(∀ p∈z7,p∈cl\/h.IsCell p.2 none)->∀ p∈cellsFrom h.objs.size names z7,p∈cl\/(pushCells h names).IsCell p.2 none:=by
  intro names
  induction names with
  | nil=>intro h z7 ha p hp; exact ha p hp
  | cons q r ih=>
    intro h z7 ha p hp
    obtain ⟨m,k⟩:=q
    unfold cellsFrom at hp
    unfold pushCells
    by_cases hk:(k == .cell)=true
    ·rw [zc hk] at hp ⊢
     have e:(h.push { cls:=.type "cell",data:=.cell none }).objs.size=h.objs.size + 1:=Heap.size_push ..
     rw [<- e] at hp
     refine ih _ _ (fun p hp=>?_) p hp
     rcases qD.mp hp with rfl | hp
     ·exact .inr ⟨_,qd _ rfl,rfl⟩
     ·rcases ha p hp with z | z
      ·exact .inl z
      ·exact .inr (z.keeps fun b o e=>qc _ e)
    ·rw [zi hk] at hp ⊢
     exact ih h z7 ha p hp
 have:=all scope.names (s.heap.push { cls:=.type "dict",data:=.dict #[] }) cl (fun p hp=>.inl hp) (x,c) (by rw [Heap.size_push]; exact h)
 exact this
def compN (N vars:List Str):List Str:=N.map (fun x=>if x∈vars then Str.empty else x)++Str.empty::vars
def compCx (X:Cx) (scope:Scope) (vars:List Str) (s:Shared) (H:Hp) (ex:List Addr):Cx where
 prog:=X.prog
 w:=X.w
 K:=X.K
 mg:=X.mg
 base:=X.base
 A:=X.A
 N:=compN X.N vars
 s₀:=s
 H₀:=H
 env:=compEnvC scope (cellsFrom (s.heap.objs.size + 1) scope.names (closL X.env.cells scope.names [])) s.heap.objs.size X.env
 outer:=X.stack
 stack:=X.stack
 ex:=ex
 fn:=fun x=>decide ((x,NameKind.cell)∈scope.names)
 calm:=X.calm
 pn:=[]
 xe:=fun _ _=>False
structure CompScope (outer scope:Scope) (N vars:List Str):Prop where
 kind:scope.kind=.function
 fr:∀ x∈scope.names,x.2=.free->outer.names.lookup x.1=some .cell\/outer.names.lookup x.1=some .free
 nd:(scope.names.map (·.1)).Nodup
 own:∀ x∈N,x∉vars->(x,NameKind.local)∉scope.names/\(x,NameKind.cell)∉scope.names
 emp:scope.names.lookup Str.empty=none
theorem zaH {α:Type} {l:List (Str×α)} {c:α} (nd:(l.map (·.1)).Nodup):l.lookup n=some c↔(n,c)∈l:=by
 refine ⟨mem_of_lookup,fun h=>zaS h fun c' h'=>?_⟩
 induction l with
 | nil=>simp at h
 | cons p r ih=>
   grind
theorem zby {α β:Type} (g:Str->α->β):∀ (l:List (Str×α)) (n:Str),(l.map fun p=>(p.1,g p.1 p.2)).lookup n=(l.lookup n).map (g n)
 | [],_=>rfl
 | (m,d)::r,n=>by
   rw [qB,lookup_cons,lookup_cons]
   cases hb:n == m with
   | true=>have e:n=m:=by simpa using hb
           subst e; rfl
   | false=>exact zby g r n
def rl (env:PySem.Env) (n:Str) (k:NameKind):NameKind:=if (k == NameKind.free && env.scope.kind == .function && env.kindOf n == some .cell) then NameKind.cell else k
theorem zdN (scope:Scope) (env:PySem.Env):(relabel scope env).names=scope.names.map fun p=>(p.1,rl env p.1 p.2):=by
 unfold relabel
 show scope.names.map _=scope.names.map _
 refine map_congr_left fun p _=>?_
 obtain ⟨n,k⟩:=p
 show (if (k == NameKind.free && env.scope.kind == .function && env.kindOf n == some .cell)=true then (n,NameKind.cell) else (n,k))=(n,rl env n k)
 unfold rl
 by_cases h:(k == NameKind.free && env.scope.kind == .function && env.kindOf n == some .cell)=true
 ·rw [zc h,zc h]
 ·rw [zi h,zi h]
theorem zaI (scope:Scope) (env:PySem.Env) (x:Str):(relabel scope env).names.lookup x=(scope.names.lookup x).map (rl env x):=by
 rw [zdN,zby]
theorem ze2 (h:k≠.free):rl env x k=k:=by
 unfold rl
 rw [zi]
 intro z
 simp at z
 exact h z.1.1
theorem zlK:rl env x .free=.cell\/rl env x .free=.free:=by
 unfold rl
 split
 ·exact .inl rfl
 ·exact .inr rfl
theorem zji (h:(compN N vars)[i]?=some x) (hi:i < N.length):(N[i]?=some x/\x∉vars)\/x=Str.empty:=by
 unfold compN at h
 rw [getElem?_append_left (by simpa using hi),qI] at h
 cases q:N[i]? with
 | none=>rw [q] at h; cases h
 | some y=>
   grind
theorem Inv.comp (I:Inv X zZ σ H s) (S:CompScope X.env.scope scope X.N vars) (hex:∀ b∈ex,FpOk X zZ H b/\b < s.heap.objs.size) (kept:∀ b o,s.heap.get? b=some o->h'.get? b=some o) (hns:h'.Ns s.heap.objs.size (fun _=>none))
  (hcl:∀ x c,(x,c)∈cellsFrom (s.heap.objs.size + 1) scope.names (closL X.env.cells scope.names [])->(x,c)∈closL X.env.cells scope.names []\/h'.IsCell c none) (hk:vars.length=k) (w0:Option V):
  Inv (compCx X scope vars s H ex) [] (σ++w0::List.replicate k none) H { s with heap:=h' }:=by
 have cm:∀ {x:Str} {c:Addr},(x,c)∈closL X.env.cells scope.names []->(x,NameKind.free)∈scope.names/\X.env.cells.lookup x=some c:=fun {x c} h=>by
  rcases zbK h with z | z
  ·simp at z
  ·exact z
 have lt:∀ {x:Str} {c:Addr},X.env.cells.lookup x=some c->c < s.heap.objs.size:=fun {x c} h=>by
  obtain ⟨v,z⟩:=I.cell x c h
  exact z.lt
 have look:∀ {x:Str} {c:Addr},(compCx X scope vars s H ex).env.cells.lookup x=some c->(X.env.cells.lookup x=some c/\(x,NameKind.free)∈scope.names)\/((x,NameKind.cell)∈scope.names/\s.heap.objs.size + 1<=c):=fun {x c} h=>by
  rcases zbc (mem_of_lookup h) with z | z
  ·exact .inl ⟨(cm z).2,(cm z).1⟩
  ·exact .inr z
 have uniq:∀ {x:Str} {a b:NameKind},(x,a)∈scope.names->(x,b)∈scope.names->a=b:=fun {x a b} h1 h2=>by
  have e1:=(zaH S.nd).mpr h1
  have e2:=(zaH S.nd).mpr h2
  rw [e1] at e2
  exact qh e2
 -- what a visible name is,seen from around
 have vis:∀ {x:Str},((relabel scope X.env).names.lookup x=some .cell\/(relabel scope X.env).names.lookup x=some .free)->(x,NameKind.cell)∈scope.names\/(x,NameKind.free)∈scope.names:=fun {x} h=>by
  rw [zaI] at h
  cases q:scope.names.lookup x with
  | none=>rw [q] at h; rcases h with h | h <;> cases h
  | some k=>
    have hm:=mem_of_lookup q
    rw [q] at h
    have h0:some (rl X.env x k)=some .cell\/some (rl X.env x k)=some .free:=h
    cases k with
    | cell=>exact .inl hm
    | free=>exact .inr hm
    | «local»=>rw [ze2 (by decide)] at h0; rcases h0 with h | h <;> cases h
    | globalImplicit=>rw [ze2 (by decide)] at h0; rcases h0 with h | h <;> cases h
    | globalExplicit=>rw [ze2 (by decide)] at h0; rcases h0 with h | h <;> cases h
 have ok:(compCx X scope vars s H ex).Ok:=by
  refine ⟨I.ok.mod,S.kind,I.ok.glob,I.ok.blt,zj _,fun x y c h1 h2=>?_,fun x h=>?_,fun x c hf h=>?_,I.ok.hd,I.ok.frames,.inl rfl,fun b hb=>⟨?_,fun x c h z=>?_⟩,I.bs,le_trans I.ok.bsz I.sz,fun b o e hb=>?_,fun b hb z=>?_,I.stack,I.stkFree⟩
  ·refine zaP (fun p hp=>?_) (fun p hp q hq e=>?_) (x,c) (mem_of_lookup h1) (y,c) (mem_of_lookup h2) rfl
   ·exact lt_succ_of_lt (lt (cm (x:=p.1) (c:=p.2) hp).2)
   ·exact I.ok.inj _ _ _ (cm (x:=p.1) (c:=p.2) hp).2 (e ▸ (cm (x:=q.1) (c:=q.2) hq).2)
  ·rcases vis h with z | z
   ·exact zav (zaB (.inl z))
   ·obtain ⟨c,hc⟩:=I.ok.has x (S.fr (x,.free) z rfl)
    exact zav (zaB (.inr ⟨c,zbo hc (.inr z)⟩))
  ·have hf':(x,NameKind.cell)∈scope.names:=qX hf
   rcases look h with ⟨_,z⟩ | ⟨_,z⟩
   ·cases uniq hf' z
   ·exact Nat.le_of_succ_le z
  ·exact ne_of_lt (hex b hb).2
  ·rcases look h with ⟨w,_⟩ | ⟨_,w⟩
   ·exact (hex b hb).1.2.2.2.2.1 x c w z
   ·have h1:=(hex b hb).2
    rw [<- z] at h1
    exact absurd (lt_of_lt_of_le h1 (Nat.le_of_succ_le w)) (lt_irrefl _)
  ·obtain ⟨_,_,_,h1,_⟩:=(hex b hb).1
   rcases h1 with z | z
   ·exact I.ok.noex b o e z
   ·rw [(I.ok.bs b o e).1] at z; cases z
  ·obtain ⟨_,h2,h3,_⟩:=(hex b hb).1
   rcases qD.mp (I.stkSub b z) with w | w
   ·exact h2 w
   ·exact h3 w
 have cellK:∀ {c:Addr} {v:Option Value},s.heap.IsCell c v->h'.IsCell c v:=fun z=>z.keeps kept
 refine ⟨ok,rfl,I.bare,Un.kept kept,⟨_,hns,fun i x v h1 h2 h3=>?_⟩,fun x c h=>?_,I.hok.fresh (zj _),fun x c h=>?_,fun p hp=>absurd (show p∈([]:List (Addr×Obj)) from hp) (by simp),I.hok.kept kept,?_⟩
 ·-- a slot of the context
  have noE:¬ Vis (compCx X scope vars s H ex).env.scope Str.empty:=fun h3=>by
   have h3':(relabel scope X.env).names.lookup Str.empty=some .local\/(relabel scope X.env).names.lookup Str.empty=some .cell\/(relabel scope X.env).names.lookup Str.empty=some .free:=h3
   rw [zaI,S.emp] at h3'
   rcases h3' with z | z | z <;> cases z
  have hi:i < σ.length:=by
   by_cases hi:i < σ.length
   ·exact hi
   ·exfalso
    rw [getElem?_append_right (not_lt.mp hi)] at h2
    cases q:i - σ.length with
    | zero=>
      have e:i=X.N.length:=by have:=I.len; lia
      rw [e] at h1
      have h1':(compN X.N vars)[X.N.length]?=some x:=h1
      unfold compN at h1'
      rw [getElem?_append_right (by simp)] at h1'
      simp at h1'
      subst h1'
      exact noE h3
    | succ j=>
      rw [q,List.getElem?_cons_succ,List.getElem?_replicate] at h2
      split at h2 <;> cases h2
  rw [getElem?_append_left hi] at h2
  rcases zji h1 (by rw [<- I.len]; exact hi) with ⟨h1,hx⟩ | rfl
  ·have own:=S.own x (qP h1) hx
   have hfree:(x,NameKind.free)∈scope.names:=by
    have h3':(relabel scope X.env).names.lookup x=some .local\/(relabel scope X.env).names.lookup x=some .cell\/(relabel scope X.env).names.lookup x=some .free:=h3
    rcases h3' with z | z
    ·rw [zaI] at z
     cases q:scope.names.lookup x with
     | none=>rw [q] at z; cases z
     | some kk=>
       rw [q] at z
       have z0:some (rl X.env x kk)=some .local:=z
       have hm:=mem_of_lookup q
       cases kk with
       | «local»=>exact absurd hm own.1
       | cell=>exact absurd hm own.2
       | free=>exact hm
       | globalImplicit=>rw [ze2 (by decide)] at z0; cases z0
       | globalExplicit=>rw [ze2 (by decide)] at z0; cases z0
    ·rcases vis z with w | w
     ·exact absurd w own.2
     ·exact w
   have hout:=S.fr (x,.free) hfree rfl
   obtain ⟨m,hm,hl⟩:=I.loc
   obtain ⟨u,r,l⟩:=hl i x v h1 h2 (hout.elim (fun z=>.inr (.inl z)) fun z=>.inr (.inr z))
   refine ⟨u,r,.inr ⟨?_,?_⟩⟩
   ·show (relabel scope X.env).names.lookup x=some .cell\/(relabel scope X.env).names.lookup x=some .free
    rw [zaI,(zaH S.nd).mpr hfree]
    show some (rl X.env x .free)=_\/some (rl X.env x .free)=_
    rcases zlK (env:=X.env) (x:=x) with e | e <;> rw [e]
    ·exact .inl rfl
    ·exact .inr rfl
   ·rcases l with ⟨z,_⟩ | ⟨_,c,hc,z⟩
    ·have z':X.env.scope.names.lookup x=some .local:=z
     rcases hout with w | w <;> (have w':X.env.scope.names.lookup x=_:=w; rw [w'] at z'; cases z')
    ·refine ⟨c,?_,cellK z⟩
     show (cellsFrom (s.heap.objs.size + 1) scope.names (closL X.env.cells scope.names [])).lookup x=some c
     obtain ⟨c',hc'⟩:=zav (zaB (n:=s.heap.objs.size + 1) (names:=scope.names) (.inr ⟨c,zbo hc (.inr hfree)⟩))
     rcases look hc' with ⟨w,_⟩ | ⟨w,_⟩
     ·rw [hc] at w
      cases w
      exact hc'
     ·cases uniq hfree w
  ·exact absurd h3 noE
 ·rcases hcl x c (mem_of_lookup h) with z | z
  ·obtain ⟨v,w⟩:=I.cell x c (cm z).2
   exact ⟨v,cellK w⟩
  ·exact ⟨none,z⟩
 ·rcases look h with ⟨w,_⟩ | ⟨_,w⟩
  ·exact I.freeC x c w
  ·exact I.hok.fresh (Nat.le_of_succ_le w)
 ·show _=(compN X.N vars).length
  unfold compN
  simp [I.len,hk]
abbrev TB:=St->Hp->(St->Hp->Prop)->Prop
def PRest (X:Cx) (m:Sem Unit) (t:TB):Prop:=∀ (zZ:List (Addr×Obj)) (s:Shared) (σ:St) (H:Hp) (Q:St->Hp->Prop),Inv X zZ σ H s->t σ H Q->
 wpAny (model X.prog X.w) X.A m (fun _ s'=>∃ σ' H',Inv X zZ σ' H' s'/\Q σ' H') (fun _ _=>False) s
def PIfs (X:Cx) (ifs:List Expr) (t:TT):Prop:=∀ (zZ:List (Addr×Obj)) (s:Shared) (σ:St) (H:Hp) (Q:Bool->Hp->Prop),Inv X zZ σ H s->t σ H Q->
 wpAny (model X.prog X.w) X.A (forIn ifs true fun c r=>if r=true then do let ok <- isTrue c X.env (eval c X.env); pure (ForInStep.yield ok) else pure (ForInStep.yield r)) (TP X zZ σ Q) X.xe s
theorem zjP:PIfs X [] (fun _ H Q=>Q true H):=fun zZ s σ H Q I q=>wpAny_tests_nil ⟨H,I,q⟩
theorem zks (h:PT X c t):PIfs X [c] t:=fun zZ s σ H Q I q=>wpAny_tests_one (h zZ s σ H Q I q)
def tLoopB (g:TG) (tc:TT) (tb:TB) (J:It):TB:=fun σ H Q=>∃ W:Nat->Nat->St->Hp->Prop,(∃ m,W 0 m σ H)/\∀ i m σ H,W i m σ H->
 (J.stop i H/\Q σ H)\/(J.go i H/\∃ N:St->Hp->Prop,(∀ σ' H',N σ' H'->∃ m',m' < m/\W (i + 1) m' σ' H')/\∀ x H',J.yld i H x H'->g x σ H' fun σ2 H2=>tc σ2 H2 fun b H3=>if b=true then tb σ2 H3 N else N σ2 H3)
def PLoop (X:Cx) (e:Expr) (d:Nat) (z7:Value) (tg:Expr) (tl:It->TB):Prop:=∀ (zZ:List (Addr×Obj)) (s:Shared) (σ:St) (H:Hp) (J:It) (fp:List Addr) (it:Addr) (tn:Nat->Heap->Prop) (Q:St->Hp->Prop),Inv X zZ σ H s->
 Turn X.prog X.w X.K tg J fp it tn->tn 0 s.heap->(∀ b∈fp,FpOk X zZ H b)->tl J σ H Q->
 codeAny (model X.prog X.w) X.A (.compLoop e d (.ref it) z7 X.env) (fun r s'=>∃ σ' H',r=.ok .next/\Inv X zZ σ' H' s'/\Q σ' H') s
def PRestF (X:Cx) (m:Sem Fin) (c:Code) (t:TB):Prop:=∀ (zZ:List (Addr×Obj)) (s:Shared) (σ:St) (H:Hp) (Q:St->Hp->Prop),Inv X zZ σ H s->t σ H Q->
 wpAny (model X.prog X.w) X.A m (fun f s'=>f=.again c/\∃ σ' H',Inv X zZ σ' H' s'/\Q σ' H') (fun _ _=>False) s
theorem PRest.f (h:PRest X m t):PRestF X (m >>= fun _=>again c) c t:=fun zZ s σ H Q I q=>
 qa (zx (h zZ s σ H Q I q) (fun _ s' z=>qb ⟨rfl,z⟩) fun _ _ z=>z)
theorem zbL {inner:Addr->Sem Fin} (hc:X.calm=true) (hxe:X.xe=fun _ _=>False) (hg:PG X tg g) (ht:PIfs X ifs tc) (hr:∀ it,PRestF X (inner it) (.compLoop e d (.ref it) z7 X.env) tb)
  (hq:∀ it,(Code.compLoop e d (.ref it) z7 X.env).quiet=true) (hun:∀ it,X.A.under (.compLoop e d (.ref it) z7 X.env)=X.A)
  (hden:∀ it,(model X.prog X.w).den (.compLoop e d (.ref it) z7 X.env)=(compTurn e d (.ref it) z7 X.env).onRaise (fun x=>do noteFrame x X.env; theTreesLotGoes x))
  (heq:∀ it,compTurn e d (.ref it) z7 X.env=(standAt ipos >>= fun _=>pyNext (.ref it) >>= fun r=>match r with
   | none=>pure (.done .next)
   | some v=>letOwnedTupleGo tg (.ref it) v >>= fun _=>assign tg X.env v >>= fun _=>
     (forIn ifs true fun c r=>if r=true then do let ok <- isTrue c X.env (eval c X.env); pure (ForInStep.yield ok) else pure (ForInStep.yield r)) >>= fun ok=>
      if ok=true then inner it else again (.compLoop e d (.ref it) z7 X.env))):
  PLoop X e d z7 tg (tLoopB g tc tb):=by
 intro zZ s σ H J fp it tn Q I T st f ⟨W,⟨m0,w0⟩,turn⟩
 have stat:∀ {H':Hp},(∀ b∈fp,H' b=none)->∀ b∈fp,FpOk X zZ H' b:=fun hn b hb=>⟨hn b hb,(f b hb).2⟩
 have nox:∀ {α:Type} {m:Sem α} {Q:α->Shared->Prop} {E:zz} {s:Shared},wpAny (model X.prog X.w) X.A m Q X.xe s->wpAny (model X.prog X.w) X.A m Q E s:=fun h=>zx h (fun _ _ q=>q) fun _ _ x=>by rw [hxe] at x; exact x.elim
 refine codeAny_loop (hq it) (fun n s'=>∃ i σ' H',Inv X zZ σ' H' s'/\tn i s'.heap/\(∀ b∈fp,H' b=none)/\W i n σ' H') ?_ m0 ⟨0,σ,H,I,st,fun b hb=>(f b hb).1,w0⟩
 rintro n s3 ⟨i,σ3,H3,I3,st3,fr3,w3⟩
 rw [hun,hden]
 refine wpAny_noted ?_
 rw [heq]
 refine qa (wpAny_standAt (qa ?_))
 rcases turn i n σ3 H3 w3 with ⟨stop,qn⟩ | ⟨go,N,hN,step⟩
 ·refine thn (T.done X rfl rfl rfl hc i zZ s3 σ3 H3 _ I3 (stat fr3) st3 stop) fun r s4 ⟨hr,I4⟩=>?_
  subst hr
  exact qb ⟨σ3,H3,rfl,I4,qn⟩
 ·refine thn (T.item X rfl rfl rfl hc i zZ s3 σ3 H3 _ I3 (stat fr3) st3 go) fun r s4 zq=>?_
  obtain ⟨u,hr',h4⟩:=zq
  subst hr'
  refine qa (thn h4 fun _ s5 zq=>?_)
  refine cps fun _ kk=>?_
  obtain ⟨x,H5,I5,r5,y5,st5,fr5⟩:=zq
  refine kk ?_
  have I5':=I5.pinned (stat fr5) (T.obj _ _ st5)
  refine qa (nox (thn (hg _ s5 σ3 H5 x u _ I5' r5 (step x H5 y5)) fun _ s6 zq=>?_))
  obtain ⟨σ6,H6,I6,q6⟩:=zq
  have again:∀ {σ7:St} {H7:Hp} {s7:Shared},Inv X (zZ++pinsAt fp s5.heap) σ7 H7 s7->N σ7 H7->∃ m,m < n/\∃ i σ' H',Inv X zZ σ' H' s7/\tn i s7.heap/\(∀ b∈fp,H' b=none)/\W i m σ' H':=fun {σ7 H7 s7} I7 n7=>by
   obtain ⟨m',hm,w7⟩:=hN σ7 H7 n7
   refine ⟨m',hm,i + 1,σ7,H7,I7.unpinned,T.keep _ _ _ st5 fun b hb o e=>(I7.pin (b,o) (qk _ (qk _ (zbr hb e)))).1,fun b hb=>?_,w7⟩
   obtain ⟨o,e,d⟩:=T.obj _ _ st5 b hb
   exact (I7.pin (b,o) (qk _ (qk _ (zbr hb e)))).2.1
  refine qa (nox (thn (ht _ s6 σ6 H6 _ I6 q6) fun b s7 zq=>?_))
  obtain ⟨H7,I7,q7⟩:=zq
  cases b with
  | true=>
    rw [zc rfl] at q7
    rw [zc rfl]
    refine zx (hr it _ s7 σ6 H7 _ I7 q7) (fun f s8 zq=>?_) fun _ _ z=>z.elim
    obtain ⟨ef,σ8,H8,I8,n8⟩:=zq
    subst ef
    exact ⟨rfl,again I8 n8⟩
  | false=>
    rw [zi q5] at q7
    rw [zi q5]
    exact qb ⟨rfl,again I7 q7⟩
theorem zdu (hl:PLoop X e d z7 tg tl)
  (hq:∀ it,(Code.compLoop e d (.ref it) z7 X.env).quiet=true) (hun:∀ it,X.A.under (.compStart e d (.ref it) z7 X.env)=X.A)
  (hden:∀ it,(model X.prog X.w).den (.compStart e d (.ref it) z7 X.env)=(compStart e d (.ref it) z7 X.env).onRaise (fun x=>do noteFrame x X.env; standAt theWindowsPlace))
  (heq:∀ it,∃ p,compStart e d (.ref it) z7 X.env=(ask >>= fun c=>if c.params.followText "comprehension-iter-twice"=true then again (.compLoop e d (.ref it) z7 X.env) else
   rule "comprehension.iter-twice" >>= fun _=>standAt p >>= fun _=>pyIter (.ref it) >>= fun it'=>again (.compLoop e d it' z7 X.env))) (I:Inv X zZ σ H s)
  (T:Turn X.prog X.w X.K tg J fp it tn) (st:tn 0 s.heap) (f:∀ b∈fp,FpOk X zZ H b) (q:tl J σ H Q):
  codeAny (model X.prog X.w) X.A (.compStart e d (.ref it) z7 X.env) (fun r s'=>∃ σ' H',r=.ok .next/\Inv X zZ σ' H' s'/\Q σ' H') s:=by
 have h0:=hl zZ s σ H J fp it tn Q I T st f q
 refine codeAny_of_tree ?_
 rw [hun,hden]
 refine wpAny_notedAt ?_
 obtain ⟨p,e⟩:=heq it
 rw [e]
 refine qa (wpAny_askSetting (wpAny_ite ?_))
 split
 ·exact qb ⟨hq it,h0⟩
 ·exact qa (wpAny_rule (qa (wpAny_standAt (qa (T.self X.A 0 s _ _ st (qb ⟨hq it,h0⟩))))))
end L2
namespace FL
open PySem PySem.Spec PyProof.Rows L2
inductive tWB (X:Cx) (n:Nat) (D:Addr) (b:WB) (σ:St) (H:Hp) (Q:St->Hp->Prop):Prop
 | mk (F G:Hp) (U:Env) (P:Env->Prop) (z4:Rel X.K U σ F G H) (hs:σ[n]?=some (some (.ref D))) (hw:b U P NX) (hn:∀ U' σ' F' H',P U'->KP (List.range (n + 1)) σ σ'->zK F F'->Rel X.K U' σ' F' G H'->Q σ' H'):tWB X n D b σ H Q
theorem xc0:XC X T F G NX:=fun _ _ _ _ _ _ _ z=>z.elim
section
variable {K:W.Frag}
theorem zN.snoc (b:zN K F H xs l fp) (r:SRep K F H v s fq):zN K F H (xs++[v]) (l++[s]) (fp++fq):=
 zN.ind (P:=fun xs l fp=>zN K F H (xs++[v]) (l++[s]) (fp++fq)) (by have:=zN.cons r .nil; rwa [qC] at this) (fun a _ ih=>by rw [qr]; exact .cons a ih) b
theorem zN.len (r:zN K F H xs l fp):xs.length=l.length:=zN.ind (P:=fun xs l _=>xs.length=l.length) rfl (fun _ _ ih=>congrArg (· + 1) ih) r
theorem Rel.append {D:Addr} (r:Rel K (U++[some s]) (σ++[some v]) F G H) (hs:slot U n=some (.lst l)) (hσ:σ[n]?=some (some (.ref D))):
  ∃ xs,H D=some (.lst xs)/\xs.length=l.length/\Rel K (U.set n (some (.lst (l++[s])))) σ F G (upd H D (.lst (xs++[v]))):=by
 have hl:=len1 r
 obtain ⟨fp,e,nd,ap⟩:=r.en
 obtain ⟨f1,f2,rfl,a,b⟩:=e.cut hl
 obtain ⟨v',fa,fi,fb,e1,rfl,q,up⟩:=a.at hs
 rw [hσ] at e1
 have e2:V.ref D=v':=by simpa using e1
 subst e2
 cases q with
 | lst hD rl=>
   rename_i xs fl
   cases b with
   | so sr nl=>
     cases nl
     rename_i fs
     refine ⟨xs,hD,rl.len,?_⟩
     have es:σ.set n (some (.ref D))=σ:=by
      apply ext_getElem?
      intro j
      by_cases hj:n=j
      ·subst hj
       rw [getElem?_set_self (qi.mp hσ).1,hσ]
      ·rw [getElem?_set_ne hj]
     -- D is nobody else's
     obtain ⟨n1,n2,n12⟩:=qz.mp nd
     obtain ⟨na,nib,nab⟩:=qz.mp n1
     obtain ⟨ni,nb,nib⟩:=qz.mp nib
     obtain ⟨nD,nfl⟩:=qO.mp ni
     have hDa:D∉fa:=fun z=>nab D z D (qm _ qp) rfl
     have hDb:D∉fb:=fun z=>nib D qp D z rfl
     have hDs:D∉fs:=fun z=>n12 D (qk _ (qm _ qp)) D (by simpa using z) rfl
     have apD:=ap D (qm _ (qk _ (qm _ qp)))
     have ne:∀ {l:List Addr},D∉l->∀ x∈l,upd H D (.lst (xs++[v])) x=H x:=fun h x hx=>zag fun z=>h (z ▸ hx)
     have new:SRep K F (upd H D (.lst (xs++[v]))) (.ref D) (.lst (l++[s])) (D::(fl++fs)):=.lst zai (zN.snoc (rl.mono (zK.refl F) (ne nD)) (sr.mono (zK.refl F) (ne hDs)))
     have a2:=up (F':=F) (H':=upd H D (.lst (xs++[v]))) (o:=some (.lst (l++[s]))) (u:=some (.ref D)) (zK.refl F) (fun x hx=>zag fun z=>(qA.mp hx).elim (fun w=>hDa (z ▸ w)) fun w=>hDb (z ▸ w)) (.so new .nil)
     rw [es] at a2
     have p:(fa++((D::(fl++fs))++[]++fb)).Perm (fa++((D::fl)++fb)++(fs++[])):=by
      simp only [qC,qr,qR]
      refine List.Perm.append_left _ (List.Perm.cons _ (List.Perm.append_left _ qQ))
     refine ⟨zK.updR r.fr apD.1,fun x o w=>?_,_,a2,p.nodup_iff.mpr (by simpa using nd),fun x hx=>ap x (by simpa using p.mem_iff.mp hx)⟩
     have hx:x≠D:=fun z=>by rw [z,apD.2] at w; cases w
     rw [zag hx]
     exact r.gr x o w
end
section
variable {D:Addr}
theorem zc2 (hxe:X.xe=fun _ _=>False) (h:FE X elt we):PRest X (eval elt X.env >>= fun x=>call (.builtin "list.append") [.ref D,x] >>= fun _=>pure ()) (tWB X n D (bEmit n we)):=by
 intro zZ s σ H Q I q
 obtain ⟨F,G,U,P,z4,hσ,hw,hok⟩:=q
 have hp:PassesOwn (model X.prog X.w) X.A X.env X.xe:=by rw [hxe]; exact PassesOwn.never
 have he:=h X.pn X.xe hp zZ s σ H (fun v H1=>∃ F1 U1 t l,zK F F1/\Rel X.K (U1++[some t]) (σ++[some v]) F1 G H1/\slot U1 n=some (.lst l)/\l.length < big/\P (U1.set n (some (.lst (l++[t]))))) I
  ⟨F,G,U,_,NX,z4,hw,fun r U1 v F1 H1 hk s1 r1 rv=>?_,xc0⟩
 ·have xe0:∀ e s',X.xe e s'->False:=fun e s' z=>by rw [hxe] at z; exact z
  refine qa (zx he (fun u s1 zq=>?_) fun e s' z=>xe0 e s' z)
  refine cps fun _ kk=>?_
  obtain ⟨v,H1,I1,rv,F1,U1,t,l,sm,r1,hs,hz,hP⟩:=zq
  obtain ⟨xs,hD,z5,r2⟩:=Rel.append r1 hs hσ
  refine kk ?_
  refine qa (zx (zc0 zZ s1 σ H1 (.ref D) [v] (.ref D) [u] (fun w H'=>w=.non/\H'=upd H1 D (.lst (xs++[v]))) I1 rfl (.cons rv .nil) ⟨D,xs,v,rfl,rfl,hD,by rw [z5,zt]; exact lt_trans hz (by decide),rfl,rfl⟩) (fun w s2 zq=>?_) fun e s' z=>xe0 e s' z)
  obtain ⟨w',H2,I2,_,_,e2⟩:=zq
  subst e2
  exact qb ⟨σ,_,I2,hok _ σ F1 _ hP KP.refl sm r2⟩
 ·obtain ⟨⟨t,U2⟩,eg,hk⟩:=zad hk
  obtain ⟨F2,s2,l2,r2⟩:=giveR (U':=[]) (σ':=[]) r1 (len1 r1) rv eg
  dsimp only at hk
  split at hk
  ·rename_i l e
   exact ⟨F2,U2,t,l,s1.trans s2,r2,e,hk.1,hk.2⟩
  ·exact hk.elim
theorem zaL:PIfs X [] (tWT X wYes):=fun zZ s σ H Q I q=>zjP zZ s σ H Q I (by
 obtain ⟨F,G,U,P,PX,z4,hw,hok,hx⟩:=q
 exact hok true U F H hw (zK.refl F) z4)
theorem zcB (hxe:X.xe=fun _ _=>False) (h:FT X c wc):PIfs X [c] (tWT X wc):=zks (h X.pn X.xe (by rw [hxe]; exact PassesOwn.never))
theorem zgb (it:ItOk X.K J l F) (z4:Rel X.K U σ F G H) (hσ:σ[n]?=some (some (.ref D)))
  (hw:bLoop g wc b l U P NX) (hok:∀ U' σ' F' H',P U'->KP (List.range (n + 1)) σ σ'->zK F F'->Rel X.K U' σ' F' G H'->Q σ' H'):
  tLoopB (tWG X (List.range (n + 1)) g) (tWT X wc) (tWB X n D b) J σ H Q:=by
 have hσ':∀ {σ':St},KP (List.range (n + 1)) σ σ'->σ'[n]?=some (some (.ref D)):=fun k=>by rw [k n (by simp)]; exact hσ
 refine ⟨fun i m σ2 H2=>m=l.length - i/\i<=l.length/\∃ F2 U2,KP (List.range (n + 1)) σ σ2/\zK F F2/\Rel X.K U2 σ2 F2 G H2/\bLoop g wc b (l.drop i) U2 P NX,⟨l.length,by simp,zero_le _,F,U,KP.refl,zK.refl F,z4,by simpa using hw⟩,?_⟩
 rintro i m σ2 H2 ⟨rfl,hi,F2,U2,kp,s2,r2,hw2⟩
 obtain ⟨it1,it2⟩:=it i U2 σ2 F2 G H2 s2 r2
 by_cases hlt:i < l.length
 ·obtain ⟨go,yld⟩:=it1 l[i] (by simp [hlt])
  refine .inr ⟨go,fun σ3 H3=>i + 1<=l.length/\∃ F3 U3,KP (List.range (n + 1)) σ σ3/\zK F F3/\Rel X.K U3 σ3 F3 G H3/\bLoop g wc b (l.drop (i + 1)) U3 P NX,fun σ3 H3 h=>⟨l.length - (i + 1),by lia,rfl,h⟩,fun y H3 hy=>?_⟩
  obtain ⟨F3,s3,r3,rp⟩:=yld y H3 hy
  rw [List.drop_eq_getElem_cons hlt] at hw2
  refine ⟨F3,G,U2,_,_,r3.push rp,hw2,fun U4 σ4 F4 H4 hp4 k4 s4 r4=>?_⟩
  have kp4:=kp.trans k4
  have sm4:=s2.trans (s3.trans s4)
  refine ⟨F4,G,U4,_,_,r4,hp4,fun k U5 F5 H5 hp5 s5 r5=>?_,xc0⟩
  cases k with
  | true=>
    dsimp only
    rw [zc rfl]
    exact ⟨F5,G,U5,_,r5,hσ' kp4,hp5,fun U' σ' F' H' h k' s r=>⟨hlt,F',U',kp4.trans k',sm4.trans (s5.trans s),r,h⟩⟩
  | false=>
    dsimp only
    rw [zi q5]
    exact ⟨hlt,F5,U5,kp4,sm4.trans s5,r5,hp5⟩
 ·have e:i=l.length:=Nat.le_antisymm hi (not_lt.mp hlt)
  subst e
  rw [List.drop_length] at hw2
  exact .inl ⟨it2 (zj _),hok U2 σ2 F2 H2 hw2 kp s2 r2⟩
theorem zjE (hxe:X.xe=fun _ _=>False) (hi:FI X tg iter wi) (hl:PLoop X e d (.ref D) tg (tLoopB (tWG X (List.range (n + 1)) g) (tWT X wc) (tWB X n D b)))
  (hs:∀ x,foldedSetIterable iter X.env x=pure x) (hm:X.A.mark none=X.A)
  (hq:∀ it,(Code.compLoop e d (.ref it) (.ref D) X.env).quiet=true) (hun:∀ it,X.A.under (.compStart e d (.ref it) (.ref D) X.env)=X.A)
  (hden:∀ it,(model X.prog X.w).den (.compStart e d (.ref it) (.ref D) X.env)=(compStart e d (.ref it) (.ref D) X.env).onRaise (fun x=>do noteFrame x X.env; standAt theWindowsPlace))
  (heq:∀ it,∃ p,compStart e d (.ref it) (.ref D) X.env=(ask >>= fun c=>if c.params.followText "comprehension-iter-twice"=true then again (.compLoop e d (.ref it) (.ref D) X.env) else
   rule "comprehension.iter-twice" >>= fun _=>standAt p >>= fun _=>pyIter (.ref it) >>= fun it'=>again (.compLoop e d it' (.ref D) X.env))):
  PRestF X (eval iter X.env >>= fun x=>standAt ip >>= fun _=>foldedSetIterable iter X.env x >>= fun x=>holding [x] (pyIter x) >>= fun it=>runOwn (.compStart e d it (.ref D) X.env) X.env >>= fun _=>again c0) c0 (tWB X n D (bFor wi g wc b)):=by
 intro zZ s σ H Q I q
 obtain ⟨F,G,U,P,z4,hσ,hw,hok⟩:=q
 have hp:PassesOwn (model X.prog X.w) X.A X.env X.xe:=by rw [hxe]; exact PassesOwn.never
 have xe0:∀ e s',X.xe e s'->False:=fun e s' z=>by rw [hxe] at z; exact z
 have hi':=hi X.pn X.xe hp zZ s σ H (fun J H1=>tLoopB (tWG X (List.range (n + 1)) g) (tWT X wc) (tWB X n D b) J σ H1 Q) I
  ⟨F,G,U,_,NX,z4,hw,fun l U1 F1 H1 J hk s1 r1 it=>zgb it r1 hσ hk fun U' σ' F' H' a k s r=>hok U' σ' F' H' a k (s1.trans s) r,xc0⟩
 refine qa (zx hi' (fun x s1 h1=>?_) fun e s' z=>xe0 e s' z)
 refine qa (wpAny_standAt (qa (zw (hs x) (qa (zv (zx h1 (fun itv s2 h2=>?_) fun e s' z=>xe0 e s' z))))))
 obtain ⟨it,fp,tn,J,H2,e1,I2,T,st,f,q2⟩:=h2
 subst e1
 refine qa (wpAny_runOwn ?_)
 rw [hm]
 refine codeAny_mono (zdu hl hq hun hden heq I2 T st f q2) fun r s3 zq=>?_
 obtain ⟨σ3,H3,er,I3,q3⟩:=zq
 subst er
 exact qb ⟨rfl,σ3,H3,I3,q3⟩
end
theorem zcY {α:Type} {l:List α} {a:α} (h:l[n]?=some a):l=l.take n++a::l.drop (n + 1):=by
 obtain ⟨hn,e⟩:=qi.mp h
 rw [<- e,<- List.drop_eq_getElem_cons hn,List.take_append_drop]
section
variable {X:Cx}
theorem zfD (hmk:∀ (A:Around) (E:zz) (s:Shared) (Q:zz),Q (.ref s.heap.objs.size) { s with heap:=s.heap.push { cls:=.type ty,dict:=none,data:=dat } }->wpAny (model X.prog X.w) A mk Q E s) (ho:∀ (H:Hp) (h:Heap),sysModules < h.objs.size->zY X.prog X.w H (h.push { cls:=.type ty,dict:=none,data:=dat }) h.objs.size o0) (hs0:∀ (F H:Hp) (p:Addr),H p=some o0->SRep X.K F H (.ref p) s0 [p]) (hcl:clausesOf e=⟨tg,iter,ifs,0⟩::gs) (hs:∀ x,foldedSetIterable iter X.env x=pure x)
  (Sc:CompScope X.env.scope scope X.N vars) (hk:vars.length=k) (hi:FI X tg iter wi)
  (hb:∀ (s:Shared) (H:Hp) (ex:List Addr) (D:Addr),PLoop (compCx X scope vars s H ex) e 0 (.ref D) tg (tLoopB (tWG (compCx X scope vars s H ex) (List.range (X.N.length + 1)) g) (tWT (compCx X scope vars s H ex) wc) (tWB (compCx X scope vars s H ex) X.N.length D b)))
  (hq:∀ it z7 env,(Code.compLoop e 0 (.ref it) z7 env).quiet=true) (hun:∀ it z7 env,X.A.under (.compStart e 0 (.ref it) z7 env)=X.A)
  (hden:∀ it z7 env,(model X.prog X.w).den (.compStart e 0 (.ref it) z7 env)=(compStart e 0 (.ref it) z7 env).onRaise (fun x=>do noteFrame x env; standAt theWindowsPlace))
  (heq:∀ it z7 env,∃ p,compStart e 0 (.ref it) z7 env=(ask >>= fun c=>if c.params.followText "comprehension-iter-twice"=true then again (.compLoop e 0 (.ref it) z7 env) else
   rule "comprehension.iter-twice" >>= fun _=>standAt p >>= fun _=>pyIter (.ref it) >>= fun it'=>again (.compLoop e 0 it' z7 env))) (hp:PassesOwn (model X.prog X.w) X.A X.env xe) {P:WQ} (I:Inv (wp X pn xe) zZ σ H s)
  (z4:Rel X.K U σ F G H) (hw:wi U (fun l U1=>bLoop g wc b l (U1++some s0::List.replicate k none) (fun U2=>zJ (slot U2 X.N.length) fun s=>P (.v s) (U2.take X.N.length)) NX) PX) (hx:XC (wp X pn xe) (·=σ) F G PX)
  (fin:∀ (D C:Addr) (s4:Shared) (H4 F4:Hp) (m:Str->Option Value) (t:S) (U4:Env),s4.heap.Ns C m->Inv (wp X pn xe) zZ σ H4 s4->H4 C=none->C≠X.env.locals->X.s₀.heap.objs.size<=C->(∀ x c,X.env.cells.lookup x=some c->c≠C)->(∀ p∈pn++zZ,p.1≠C)->
   P (.v t) U4->zK F F4->Rel X.K (U4++[some t]) (σ++[some (.ref D)]) F4 G H4->compPost (model X.prog X.w) X.A xe use Q' (.ref D) C (.ok .next) s4):
  wpAny (model X.prog X.w) X.A (comprehension e scope X.env cpos mk false (eval iter X.env) use) Q' xe s:=by
 have hi':=hi pn xe hp zZ s σ H (fun J H1=>∃ F1 U1 l,zK F F1/\Rel X.K U1 σ F1 G H1/\ItOk X.K J l F1/\
   bLoop g wc b l (U1++some s0::List.replicate k none) (fun U2=>zJ (slot U2 X.N.length) fun s=>P (.v s) (U2.take X.N.length)) NX) I
  ⟨F,G,U,_,PX,z4,hw,fun l U1 F1 H1 J hk s1 r1 it=>⟨F1,U1,l,s1,r1,it,hk⟩,hx⟩
 have hfree:∀ x∈scope.names,x.2=.free->∃ c,X.env.cells.lookup x.1=some c:=fun x hx hf=>I.ok.has x.1 (Sc.fr x hx hf)
 refine wpAny_comprehension_free (use:=use) hcl hs (zdU hfree) Sc.kind (fun x hx hl=>(zaH Sc.nd).mpr (by obtain ⟨a,b⟩:=x; have hl':b=.local:=hl; subst hl'; exact hx)) (zx hi' (fun v s1 h1=>zx h1 (fun itv s2 h2=>?_) fun _ _ z=>z) fun _ _ z=>z)
 refine cps fun _ kk=>?_
 obtain ⟨it,fp,tn,J,H2,e1,I2,T,st,f,F1,U1,l,s1',r1,ito,hk2⟩:=h2
 refine kk ?_
 subst e1
 -- the z7
 refine hmk _ _ _ _ ?_
 generalize hs3:({ s2 with heap:=s2.heap.push { cls:=.type ty,dict:=none,data:=dat } }:Shared)=s3
 have k23:∀ b o,s2.heap.get? b=some o->s3.heap.get? b=some o:=fun b o e=>by rw [<- hs3]; exact qc _ e
 have sz3:s3.heap.objs.size=s2.heap.objs.size + 1:=by rw [<- hs3]; exact Heap.size_push ..
 have hD:H2 s2.heap.objs.size=none:=I2.hok.fresh (zj _)
 have I3:Inv (wp X pn xe) zZ σ (upd H2 s2.heap.objs.size o0) s3:=by
  rw [<- hs3]
  exact I2.laid (t':=s2.toks) (fun b o e=>qc _ e) (zj _) (ho _ _ I2.big)
 have r3:Rel X.K (U1++[some s0]) (σ++[some (.ref s2.heap.objs.size)]) F1 G (upd H2 s2.heap.objs.size o0):=r1.newO hD (hs0 _ _ _ zai)
 have fplt:∀ b∈fp,b < s2.heap.objs.size:=fun b hb=>by
  obtain ⟨o,e,_⟩:=T.obj _ _ st b hb
  exact qg e
 have fne:∀ b∈fp,b≠s2.heap.objs.size:=fun b hb=>ne_of_lt (fplt b hb)
 have f3:∀ b∈fp,FpOk (wp X pn xe) zZ (upd H2 s2.heap.objs.size o0) b:=fun b hb=>by
  obtain ⟨h1,h2⟩:=f b hb
  exact ⟨by rw [zag (fne b hb)]; exact h1,h2⟩
 refine zfk fun h' kept hns hcl'=>?_
 have I4:=Inv.comp (X:=wp X pn xe) (ex:=fp) I3 Sc (fun b hb=>⟨f3 b hb,by rw [sz3]; exact lt_succ_of_lt (fplt b hb)⟩) kept hns hcl' hk (some (.ref s2.heap.objs.size))
 have hσn:(σ++some (.ref s2.heap.objs.size)::List.replicate k none)[X.N.length]?=some (some (.ref s2.heap.objs.size)):=by
  have hl:X.N.length=σ.length:=I2.len.symm
  rw [hl,getElem?_append_right (zj _),sub_self]
  rfl
 have r4:Rel X.K (U1++some s0::List.replicate k none) (σ++some (.ref s2.heap.objs.size)::List.replicate k none) F1 G (upd H2 s2.heap.objs.size o0):=by
  have:=r3.pushNs k
  simpa using this
 have st4:tn 0 h':=T.keep _ _ _ st fun b hb o e=>kept b o (k23 b o e)
 have f4:∀ b∈fp,FpOk (compCx X scope vars s3 (upd H2 s2.heap.objs.size o0) fp) [] (upd H2 s2.heap.objs.size o0) b:=fun b hb=>by
  obtain ⟨h1,h2,h3,h4,h5,h6⟩:=f3 b hb
  have e:=I4.ok.exf b hb
  exact ⟨h1,e.1,I4.ok.exfs b hb,.inl hb,e.2,fun p hp=>absurd (show p∈([]:List (Addr×Obj)) from hp) (by simp)⟩
 have go:=zdu (hb s3 (upd H2 s2.heap.objs.size o0) fp s2.heap.objs.size) (fun it=>hq it _ _) (fun it=>hun it _ _) (fun it=>hden it _ _) (fun it=>heq it _ _) I4 T st4 f4
  (Q:=fun σ' H'=>∃ F' U',zJ (slot U' X.N.length) (fun s=>P (.v s) (U'.take X.N.length))/\KP (List.range (X.N.length + 1)) (σ++some (.ref s2.heap.objs.size)::List.replicate k none) σ'/\zK F1 F'/\Rel X.K U' σ' F' G H')
  (zgb ito r4 hσn hk2 fun U' σ' F' H' a kp sm r=>⟨F',U',a,kp,sm,r⟩)
 refine codeAny_mono go fun r s4 zq=>?_
 refine cps fun _ kk=>?_
 obtain ⟨σ4,H4,er,I5,F4,U4,hn4,kp4,sm4,r5⟩:=zq
 subst er
 obtain ⟨m,hm,_⟩:=id I5.loc
 refine kk ?_
 have I6:Inv (wp X pn xe) zZ σ H4 s4:=Inv.call' (ch:=fp) I3 I5.os I5.base I5.hok I5.bare fun b hb=>by
  obtain ⟨h1,h2,h3,h4,h5,h6⟩:=f3 b hb
  exact ⟨h4,h2,h5,h6⟩
 -- the block's names go
 obtain ⟨t,et,hP⟩:=zad hn4
 have hl:X.N.length=σ.length:=I2.len.symm
 have hσ4:σ4[X.N.length]?=some (some (.ref s2.heap.objs.size)):=by rw [kp4 X.N.length (by simp)]; exact hσn
 have eσ:σ4.take X.N.length=σ:=by
  apply ext_getElem?
  intro j
  by_cases hj:j < X.N.length
  ·rw [List.getElem?_take_of_lt hj,kp4 j (by simp; lia),getElem?_append_left (by lia)]
  ·rw [List.getElem?_take_eq_none (not_lt.mp hj),qT (by lia)]
 have e1:=zcY (zbQ et)
 have e2:=zcY hσ4
 rw [e1,e2,eσ] at r5
 have r6:Rel X.K ((U4.take X.N.length++[some t])++U4.drop (X.N.length + 1)) ((σ++[some (.ref s2.heap.objs.size)])++σ4.drop (X.N.length + 1)) F4 G H4:=by simpa using r5
 have hlt:X.N.length < U4.length:=zcb et
 have ltC:∀ {b:Addr} {o:Obj},s3.heap.get? b=some o->b≠s3.heap.objs.size:=fun e=>ne_of_lt (qg e)
 refine fin s2.heap.objs.size s3.heap.objs.size s4 H4 F4 m t (U4.take X.N.length) hm I6 I5.free (Ne.symm (ne_of_lt I3.lt)) I3.sz (fun x c e z=>?_) (fun p hp z=>?_) hP (s1'.trans sm4) (r6.drop (by simp; lia))
 ·obtain ⟨v,o,ho,_⟩:=I3.cell x c e
  exact ltC ho z
 ·exact ltC (I3.pin p hp).1 z
theorem zjl {P:WQ} (hok:∀ r U' v F' H',P r U'->zK F F'->Rel X.K (U'++[zL r]) (σ++[some v]) F' G H'->RV σ v r->Q v H'):
  ∀ (D C:Addr) (s4:Shared) (H4 F4:Hp) (m:Str->Option Value) (t:S) (U4:Env),s4.heap.Ns C m->Inv (wp X pn xe) zZ σ H4 s4->H4 C=none->C≠X.env.locals->X.s₀.heap.objs.size<=C->(∀ x c,X.env.cells.lookup x=some c->c≠C)->(∀ p∈pn++zZ,p.1≠C)->
    P (.v t) U4->zK F F4->Rel X.K (U4++[some t]) (σ++[some (.ref D)]) F4 G H4->compPost (model X.prog X.w) X.A xe none (EP (wp X pn xe) zZ σ Q) (.ref D) C (.ok .next) s4:=
 fun D C s4 H4 F4 m t U4 hm I n1 n2 n3 n4 n5 hP sm r=>⟨m,hm,fun h'' sb=>⟨.ref D,H4,I.turned (t':=s4.toks) (fun b o hb e=>(sb.2 b hb).trans e) n1 n2 (.inr (Heap.get?_none_of_le n3)) n4 n5,rfl,hok (.v t) U4 _ F4 H4 hP sm r trivial⟩⟩
theorem zmm {P:WQ} {Nx:Env->Prop} (hk:i∉ks) (hN:∀ j,X.N[j]?=some y->j=i) (hi:X.N[i]?=some y) (hy:X.env.scope.names.lookup y=some .local)
  (hP:∀ s U,P (.v s) U->Nx (U.set i (some s))) (hok:∀ U' σ' F' H',Nx U'->KP ks σ σ'->zK F F'->Rel X.K U' σ' F' G H'->DD.nx σ' H'):
  ∀ (D C:Addr) (s4:Shared) (H4 F4:Hp) (m:Str->Option Value) (t:S) (U4:Env),s4.heap.Ns C m->Inv (wp X pn xe) zZ σ H4 s4->H4 C=none->C≠X.env.locals->X.s₀.heap.objs.size<=C->(∀ x c,X.env.cells.lookup x=some c->c≠C)->(∀ p∈pn++zZ,p.1≠C)->
    P (.v t) U4->zK F F4->Rel X.K (U4++[some t]) (σ++[some (.ref D)]) F4 G H4->compPost (model X.prog X.w) X.A xe (some (assign (.Name y py) X.env)) (fun _ s'=>SP (wp X pn xe) zZ DD .next s') (.ref D) C (.ok .next) s4:=
 fun D C s4 H4 F4 m t U4 hm I n1 n2 n3 n4 n5 hp sm r=>by
  have hl:=len1 r
  have hiU:i < U4.length:=by rw [hl,I.len]; exact (qi.mp hi).1
  refine wpAny_assign_Name (zey (X:=wp X pn xe) (v:=.ref D) I hN hi (.inl hy) rfl (fun s5 I5 zq=>?_) (.inr hy))
  obtain ⟨a,sb,ha⟩:=zq
  have haC:C≠a:=by
   rcases ha with e | e
   ·rw [e]; exact n2
   ·exact Ne.symm (n4 y a e)
  refine ⟨m,hm.sameBut sb haC,fun h'' sb2=>⟨_,H4,I5.turned (t':=s5.toks) (fun b o hb e=>(sb2.2 b hb).trans e) n1 n2 (.inr (Heap.get?_none_of_le n3)) n4 n5,?_⟩⟩
  exact hok _ _ F4 H4 (hP t U4 hp) (KP.set hk) sm (r.store hl hiU)
theorem zfE (A:Around) (E:zz) (s:Shared) (Q:zz) (h:Q (.ref s.heap.objs.size) { s with heap:=s.heap.push { cls:=.type ty,dict:=none,data:=dat } }) (hz:sizeOk dat:=by size_fits):wpAny (model X.prog X.w) A (newObj (.type ty) dat) Q E s:=zp h hz
theorem zfy (H:Hp) (h:Heap) (_:sysModules < h.objs.size):zY X.prog X.w H (h.push { cls:=.type "list",dict:=none,data:=.seq ([]:List Value).toArray }) h.objs.size (.lst []):=⟨zero_le _,[],0,.nil,qd _ rfl⟩
theorem zhx (F H:Hp) (p:Addr) (e:H p=some (.lst [])):SRep X.K F H (.ref p) (.lst []) [p]:=.lst e .nil
theorem zbn (hn:X.N.length=n) (hc:X.calm=true) (Sc:CompScope X.env.scope scope X.N vars) (hk:vars.length=k) (hi:FI X tg iter wi)
  (hg:∀ s H ex,FG (compCx X scope vars s H ex) (List.range (n + 1)) tg g) (ht:∀ s H ex,PIfs (compCx X scope vars s H ex) ifs (tWT (compCx X scope vars s H ex) wc)) (he:∀ s H ex,FE (compCx X scope vars s H ex) elt we)
  (hs:∀ x,foldedSetIterable iter X.env x=pure x:=by intro _; rfl):FE X (.ListComp elt [⟨tg,iter,ifs,0⟩] scope pos) (wLC n k wi g wc (bEmit n we)):=by
 subst hn
 intro pn xe hp zZ s σ H Q I q
 show wpAny (model X.prog X.w) X.A (eval (.ListComp elt [⟨tg,iter,ifs,0⟩] scope pos) X.env) (EP (wp X pn xe) zZ σ Q) xe s
 rw [eval_ListComp]
 obtain ⟨F,G,U,P,PX,z4,hw,hok,hx⟩:=q
 refine zfD (fun A E s Q h=>zfE A E s Q h) (s0:=.lst []) zfy zhx rfl hs Sc hk hi (fun s H ex D=>?_) (fun _ _ _=>rfl) (fun _ _ _=>rfl) (fun _ _ _=>rfl) (fun _ _ _=>⟨_,rfl⟩) hp I z4 hw hx (zjl hok)
 exact zbL (X:=compCx X scope vars s H ex) hc rfl (hg s H ex [] (fun _ _=>False) PassesOwn.never) (ht s H ex) (fun _=>(zc2 (X:=compCx X scope vars s H ex) rfl (he s H ex)).f) (fun _=>rfl) (fun _=>rfl) (fun _=>rfl) (fun _=>rfl)
theorem zcU (hki:i∉ks) (hN:∀ j,X.N[j]?=some y->j=i) (hiN:X.N[i]?=some y) (hy:X.env.scope.names.lookup y=some .local)
  (hsw:swapsWith (.ListComp elt [⟨tg,iter,ifs,0⟩] scope pos) (some (.Name y py)) spos.line X.env=pure true)
  (hn:X.N.length=n) (hc:X.calm=true) (Sc:CompScope X.env.scope scope X.N vars) (hk:vars.length=k) (hi:FI X tg iter wi)
  (hg:∀ s H ex,FG (compCx X scope vars s H ex) (List.range (n + 1)) tg g) (ht:∀ s H ex,PIfs (compCx X scope vars s H ex) ifs (tWT (compCx X scope vars s H ex) wc)) (he:∀ s H ex,FE (compCx X scope vars s H ex) elt we)
  (hs:∀ x,foldedSetIterable iter X.env x=pure x:=by intro _; rfl):FS X ks (.Assign [.Name y py] (.ListComp elt [⟨tg,iter,ifs,0⟩] scope pos) spos) (zT (zI i) (wLC n k wi g wc (bEmit n we))):=by
 subst hn
 intro pn xe hp zZ s σ H D I q
 show wpAny (model X.prog X.w) X.A (exec (.Assign [.Name y py] (.ListComp elt [⟨tg,iter,ifs,0⟩] scope pos) spos) X.env) (SP (wp X pn xe) zZ D) xe s
 rw [exec_Assign_Name_used _ _ _ _ hsw]
 refine qa (wpAny_standAt (qa ?_))
 obtain ⟨F,G,U,E,z4,hw,n,b,c,r,x⟩:=q
 show wpAny _ X.A (do let _ <- comprehension (.ListComp elt [⟨tg,iter,ifs,0⟩] scope pos) scope X.env _ (newList []) false (eval iter X.env) (some (assign (.Name y py) X.env))) _ _ s
 refine qa (zx (zfD (fun A E s Q h=>zfE A E s Q h) (s0:=.lst []) (P:=fun r U1=>zJ (give r U1) fun p=>zI i p.1 p.2 E.nx) (PX:=E.ex) (g:=g) (wc:=wc) (b:=bEmit X.N.length we) (Q':=fun _ s'=>SP (wp X pn xe) zZ D .next s') zfy zhx rfl hs Sc hk hi (fun s H ex D=>?_) (fun _ _ _=>rfl) (fun _ _ _=>rfl) (fun _ _ _=>rfl) (fun _ _ _=>⟨_,rfl⟩) hp I z4 hw (x.mono (fun σ2 z=>by rw [z]; exact KP.refl) (zK.refl F) (zK.refl G))
  (zmm (P:=fun r U1=>zJ (give r U1) fun p=>zI i p.1 p.2 E.nx) (Nx:=E.nx) hki hN hiN hy (fun s U h=>h) n)) (fun _ s' hq=>qb (qb hq)) fun _ _ e=>e)
 exact zbL (X:=compCx X scope vars s H ex) hc rfl (hg s H ex [] (fun _ _=>False) PassesOwn.never) (ht s H ex) (fun _=>(zc2 (X:=compCx X scope vars s H ex) rfl (he s H ex)).f) (fun _=>rfl) (fun _=>rfl) (fun _=>rfl) (fun _=>rfl)
set_option maxHeartbeats 4000000 in
theorem zn6 (hn:X.N.length=n) (hm:X.A.mark none=X.A) (hc:X.calm=true) (Sc:CompScope X.env.scope scope X.N vars) (hk:vars.length=k) (hi:FI X tg iter wi)
  (hg:∀ s H ex,FG (compCx X scope vars s H ex) (List.range (n + 1)) tg g) (ht:∀ s H ex,PIfs (compCx X scope vars s H ex) ifs (tWT (compCx X scope vars s H ex) wc))
  (hi2:∀ s H ex,FI (compCx X scope vars s H ex) tg2 iter2 wi2) (hg2:∀ s H ex,FG (compCx X scope vars s H ex) (List.range (n + 1)) tg2 g2) (ht2:∀ s H ex,PIfs (compCx X scope vars s H ex) ifs2 (tWT (compCx X scope vars s H ex) wc2))
  (he:∀ s H ex,FE (compCx X scope vars s H ex) elt we)
  (hs:∀ x,foldedSetIterable iter X.env x=pure x:=by intro _; rfl) (hs2:∀ env x,foldedSetIterable iter2 env x=pure x:=by intro _ _; rfl):FE X (.ListComp elt [⟨tg,iter,ifs,0⟩,⟨tg2,iter2,ifs2,0⟩] scope pos) (wLC n k wi g wc (bFor wi2 g2 wc2 (bEmit n we))):=by
 subst hn
 intro pn xe hp zZ s σ H Q I q
 show wpAny (model X.prog X.w) X.A (eval (.ListComp elt [⟨tg,iter,ifs,0⟩,⟨tg2,iter2,ifs2,0⟩] scope pos) X.env) (EP (wp X pn xe) zZ σ Q) xe s
 rw [eval_ListComp]
 obtain ⟨F,G,U,P,PX,z4,hw,hok,hx⟩:=q
 refine zfD (fun A E s Q h=>zfE A E s Q h) (s0:=.lst []) zfy zhx rfl hs Sc hk hi (fun s H ex D=>?_) (fun _ _ _=>rfl) (fun _ _ _=>rfl) (fun _ _ _=>rfl) (fun _ _ _=>⟨_,rfl⟩) hp I z4 hw hx (zjl hok)
 have inner:PLoop (compCx X scope vars s H ex) (.ListComp elt [⟨tg,iter,ifs,0⟩,⟨tg2,iter2,ifs2,0⟩] scope pos) 1 (.ref D) tg2 _:=
  zbL (X:=compCx X scope vars s H ex) hc rfl (hg2 s H ex [] (fun _ _=>False) PassesOwn.never) (ht2 s H ex) (fun _=>(zc2 (X:=compCx X scope vars s H ex) (n:=X.N.length) rfl (he s H ex)).f) (fun _=>rfl) (fun _=>rfl) (fun _=>rfl) (fun _=>rfl)
 exact zbL (X:=compCx X scope vars s H ex) hc rfl (hg s H ex [] (fun _ _=>False) PassesOwn.never) (ht s H ex) (fun _=>zjE (X:=compCx X scope vars s H ex) rfl (hi2 s H ex) inner (hs2 _) hm (fun _=>rfl) (fun _=>rfl) (fun _=>rfl) (fun _=>⟨_,rfl⟩)) (fun _=>rfl) (fun _=>rfl) (fun _=>rfl) (fun _=>rfl)
end
section
variable {K:W.Frag}
theorem zcc {x:Str} (e:x.cps.toList=l):x.length=l.length:=by rw [<- e]; rfl
theorem zlb {x y:Str} (e:x.cps.toList=l) (e':y.cps.toList=m):(x++y).cps.toList=l++m:=by
 show (x.cps++y.cps).toList=_
 rw [toList_append,e,e']
theorem RepE.int (h:RepE K F H v (.int i)):v=.int i:=by
 rcases h with h | ⟨_,_,_,_,h,_⟩ | ⟨_,_,_,_,_,h,_⟩ | ⟨_,_,_,_,_,h,_⟩
 ·cases h; rfl
 ·cases h
 ·cases h
 ·cases h
theorem RepE.str (h:RepE K F H v (.str l)):∃ x,v=.str x/\x.cps.toList=l/\l.length<=16777216:=by
 rcases h with h | ⟨_,_,_,_,h,_⟩ | ⟨_,_,_,_,_,h,_⟩ | ⟨_,_,_,_,_,h,_⟩
 ·cases h with
  | str e z=>exact ⟨_,rfl,e,z⟩
 ·cases h
 ·cases h
 ·cases h
theorem RepE.tup (h:RepE K F H v (.tup l)):∃ a xs,v=.ref a/\F a=some (.tup xs)/\zX K F xs l:=by
 rcases h with h | ⟨_,_,_,_,h,_⟩ | ⟨_,_,_,_,_,h,_⟩ | ⟨_,_,_,_,_,h,_⟩
 ·cases h with
  | tup e r=>exact ⟨_,_,rfl,e,r⟩
 ·cases h
 ·cases h
 ·cases h
theorem RepE.lst (sm:zK F H) (h:RepE K F H v (.lst l)):∃ a xs,v=.ref a/\SqL K H a xs/\zX K F xs l:=by
 rcases h with h | ⟨a,xs,ds,e1,h,e2,r⟩ | ⟨_,_,_,_,_,h,_⟩ | ⟨_,_,_,_,_,h,_⟩
 ·cases h with
  | lst e r=>exact ⟨_,_,rfl,SqL.mono sm e,r⟩
 ·cases h
  exact ⟨a,xs,e1,SqL.of e2,r⟩
 ·cases h
 ·cases h
theorem zX.append (a:zX K F xs l) (r:zX K F ys m):zX K F (xs++ys) (l++m):=zX.ind (P:=fun xs l=>zX K F (xs++ys) (l++m)) r (fun a _ ih=>.cons a ih) a
theorem Rel.newLD (r:Rel K U σ F G H) (hp:H p=none) (rx:zX K F xs l):Rel K (U++[some (.lst (l.map .sh))]) (σ++[some (.ref p)]) F G (upd H p (.lst xs)):=by
 have sr:∀ {xs:List V} {l:List D},zX K F xs l->zN K F (upd H p (.lst xs)) xs (l.map .sh) []:=by
  intro xs l h
  generalize upd H p (.lst xs)=H'
  induction xs generalizing l with
  | nil=>cases h; exact .nil
  | cons x xs ih=>cases h with
    | cons a b=>
      have:=zN.cons (SRep.sh (H:=H') a) (ih b)
      exact this
 refine r.newO hp (.lst zai ?_)
 have:=sr rx
 exact this
def rCatL (K:W.Frag):R2:=fun x y H Q=>∃ l b xs zs,x=.ref l/\y=.ref b/\SqL K H l xs/\SqL K H b zs/\xs.length + zs.length<=sizeLine/\∀ p,H p=none->Q (.ref p) (upd H p (.lst (xs++zs)))
theorem zls:OpR X (binaryOp .Add) (rCatL X.K):=by
 intro zZ s σ H x y v u Q I rx ry h
 obtain ⟨l,b,xs,zs,rfl,rfl,hl,hb,hz,q⟩:=h
 cases rx
 cases ry
 obtain ⟨z6,r1,⟨⟨cls,dd,data,sl⟩,n,ho,hc,hd0,hd⟩,_⟩:=I.list hl
 obtain ⟨its2,r2,⟨⟨cls2,dd2,data2,sl2⟩,n2,ho2,hc2,hd02,hd2⟩,_⟩:=I.list hb
 simp only at hc hd0 hd hc2 hd02 hd2
 subst hc hd0 hd hc2 hd02 hd2
 refine concat_meets ⟨_,ho,rfl⟩ ⟨_,ho2,rfl⟩ noFill_list_add seq_list_add PySem.F.slot_list_add PySem.F.entry_list_add (PySem.F.args_list_add_2 _ _) (list_addW l b z6.toArray its2.toArray n n2 none none sl sl2 (by rw [qu,qu,<- r1.length,<- r2.length]; exact hz)) ⟨ho,ho2,?_⟩
 have ea:z6.toArray++its2.toArray=(z6++its2).toArray:=by simp
 rw [ea]
 exact ⟨.ref _,_,I.lnew (t':=s.toks) (r1.append r2) (by rw [qt]; exact hz),rfl,q _ I.fresh⟩
def rCatTT (K:W.Frag):R2:=fun x y H Q=>∃ a b xs ys,x=.ref a/\y=.ref b/\SqT K H a xs/\SqT K H b ys/\xs.length + ys.length<=sizeLine/\
 (xs=[]->Q (.ref b) H)/\(xs≠[]->ys=[]->Q (.ref a) H)/\(xs≠[]->ys≠[]->∀ p,H p=none->Q (.ref p) (upd H p (.tup (xs++ys))))
theorem zkH:OpR X (binaryOp .Add) (rCatTT X.K):=by
 intro zZ s σ H x y v u Q I rx ry h
 obtain ⟨a,b,xs,ys,rfl,rfl,ha,hb,hz,q0,q1,q2⟩:=h
 by_cases hx:xs=[]
 ·cases rx
  cases ry
  obtain ⟨z6,r1,p1,_⟩:=I.tuple ha
  obtain ⟨its2,r2,p2,_⟩:=I.tuple hb
  obtain ⟨⟨cls,dd,data,sl⟩,ho,hc,n,hd⟩:=id p1
  obtain ⟨⟨cls2,dd2,data2,sl2⟩,ho2,hc2,n2,hd2⟩:=id p2
  simp only at hc hd hc2 hd2
  subst hc hd hc2 hd2
  have hi:z6=[]:=r1.nil_iff.mpr hx
  exact concat_meets ⟨_,ho,rfl⟩ ⟨_,ho2,rfl⟩ noFill_tuple_add seq_tuple_add PySem.F.slot_tuple_add PySem.F.entry_tuple_add (PySem.F.args_tuple_add_2 _ _)
   (tuple_addW0 a b z6.toArray its2.toArray n n2 dd dd2 sl sl2 (by simp [hi])) ⟨ho,ho2,.ref b,H,I,rfl,q0 hx⟩
 ·exact zml zZ s σ H _ _ v u Q I rx ry ⟨a,b,xs,ys,rfl,rfl,ha,hb,hx,hz,q1 hx,q2 hx⟩
def rStrAdd:R2:=fun x y H Q=>∃ i j,x=.str i/\y=.str j/\i.length + j.length<=sizeLine/\Q (.str (i++j)) H
def rAddAll (K:W.Frag):R2:=fun x y H Q=>rI0 (fun i j=>.int (i + j)) x y H Q\/(rStrAdd x y H Q\/(rCatL K x y H Q\/rCatTT K x y H Q))
theorem zhH:OpR X (binaryOp .Add) (rAddAll X.K):=OpR.or zoM (OpR.or zgx (OpR.or zls zkH))
theorem zcq (h:n<=big):n<=sizeLine:=by rw [zt]; exact le_trans h (by decide)
theorem zjJ:Does K (rAddAll K) oAdd:=by
 intro σ U F G H x y p q s Q z4 ex ey e hq
 unfold oAdd at e
 split at e
 ·cases e
  have h1:=ex.int
  have h2:=ey.int
  subst h1 h2
  exact .inl ⟨_,_,rfl,rfl,hq _ F H (zK.refl F) (z4.push (.int _))⟩
 ·rename_i a b
  split at e
  ·rename_i hz
   cases e
   obtain ⟨x,rfl,e1,z1⟩:=ex.str
   obtain ⟨y,rfl,e2,z2⟩:=ey.str
   refine .inr (.inl ⟨_,_,rfl,rfl,by rw [zcc e1,zcc e2]; exact zcq hz,hq _ F H (zK.refl F) (z4.push (.str (zlb e1 e2) (by rw [qt]; exact le_trans hz (by decide))))⟩)
  ·cases e
 ·rename_i a b
  split at e
  ·rename_i hz
   cases e
   obtain ⟨l,xs,rfl,h1,r1⟩:=ex.lst z4.fr
   obtain ⟨m,ys,rfl,h2,r2⟩:=ey.lst z4.fr
   refine .inr (.inr (.inl ⟨l,m,xs,ys,rfl,rfl,h1,h2,by rw [r1.len,r2.len]; exact zcq hz,fun p hp=>?_⟩))
   exact hq _ F _ (zK.refl F) (z4.newLD hp (r1.append r2))
  ·cases e
 ·rename_i a b
  split at e
  ·rename_i hz
   cases e
   obtain ⟨l,xs,rfl,h1,r1⟩:=ex.tup
   obtain ⟨m,ys,rfl,h2,r2⟩:=ey.tup
   refine .inr (.inr (.inr ⟨l,m,xs,ys,rfl,rfl,SqT.of (z4.fr _ _ h1),SqT.of (z4.fr _ _ h2),by rw [r1.len,r2.len]; exact zcq hz,fun hx=>?_,fun _ hy=>?_,fun _ _ p hp=>?_⟩))
   ·subst hx
    cases r1
    exact hq _ F H (zK.refl F) (z4.push (.tup h2 r2))
   ·subst hy
    cases r2
    rw [qC] at hq
    exact hq _ F H (zK.refl F) (z4.push (.tup h1 r1))
   ·have n2:=(z4.free hp).1
    exact hq _ _ _ (zK.upd n2) ((z4.newF hp).push (.tup zai ((r1.append r2).mono (zK.upd n2))))
  ·cases e
 ·cases e
theorem zbd {g:Int->Int->Int} (ho:∀ p q s,o p q=some s->∃ i j,p=.int i/\q=.int j/\C i j/\s=.sh (.int (g i j))):Does K (rI C fun i j=>.int (g i j)) o:=by
 intro σ U F G H x y p q s Q z4 ex ey e hq
 obtain ⟨i,j,rfl,rfl,hc,rfl⟩:=ho p q s e
 have h1:=ex.int
 have h2:=ey.int
 subst h1 h2
 exact ⟨i,j,rfl,rfl,hc,hq _ F H (zK.refl F) (z4.push (.int _))⟩
theorem zj1:Does K (rI (fun _ _=>True) fun i j=>.int (i - j)) oSub:=zbd fun p q s e=>by
 unfold oSub at e
 split at e
 ·cases e; exact ⟨_,_,rfl,rfl,trivial,rfl⟩
 ·cases e
theorem zmy:OpR X (binaryOp .Sub) (rI (fun _ _=>True) fun i j=>.int (i - j)):=opI fun _ _ _ _ _ _ _ _ q=>sub_int q
theorem zkj:Does K (rI CMul fun i j=>.int (i * j)) oMul:=zbd fun p q s e=>by
 unfold oMul at e
 split at e
 ·rename_i i j
  split at e
  ·rename_i h
   cases e
   refine ⟨_,_,rfl,rfl,?_,rfl⟩
   simp only [mulOk,or_eq_true,and_eq_true,qW] at h
   exact h
  ·cases e
 ·cases e
theorem zkw:Does K (rI (fun _ j=>0 < j) fun i j=>.int (i % j)) oMod:=zbd fun p q s e=>by
 unfold oMod at e
 split at e
 ·split at e
  ·rename_i h; cases e; exact ⟨_,_,rfl,rfl,h,rfl⟩
  ·cases e
 ·cases e
theorem zkf:Does K (rI CPow fun i j=>.int (i ^ j.toNat)) oPow:=zbd fun p q s e=>by
 unfold oPow at e
 split at e
 ·split at e
  ·rename_i h; cases e; exact ⟨_,_,rfl,rfl,⟨h.1,by lia,h.2.2⟩,rfl⟩
  ·cases e
 ·cases e
def CDivB (i j:Int):Prop:=0 < j/\j < 18446744073709551616
theorem zj6:OpR X (binaryOp .FloorDiv) (rI CDivB fun i j=>.int (i / j)):=opI fun i j _ _ _ _ _ hc q=>by
 have h1:(0:Int) < j:=hc.1
 have h2:j < 18446744073709551616:=hc.2
 refine floordiv_int (by lia) ?_ (.inl (PyProof.noPylong_of_log2 ?_))
 ·rw [Int.fdiv_eq_ediv_of_nonneg _ (by lia)]; exact q
 ·have h0:j.natAbs≠0:=by lia
  have:j.natAbs.log2 < 64:=(Nat.log2_lt h0).mpr (by lia)
  lia
theorem zh4:Does K (rI CDivB fun i j=>.int (i / j)) oFdiv:=zbd fun p q s e=>by
 unfold oFdiv at e
 split at e
 ·split at e
  ·rename_i h; cases e; exact ⟨_,_,rfl,rfl,h,rfl⟩
  ·cases e
 ·cases e
end
theorem zao (ha:FE X a wa) (hb:FE X b wb):FE X (.BinOp a .Add b pos) (zQ oAdd wa wb):=zbU (fun _ _=>zhH) zjJ ha hb
theorem zf1 (ha:FE X a wa) (hb:FE X b wb):FE X (.BinOp a .Sub b pos) (zQ oSub wa wb):=zbU (fun _ _=>zmy) zj1 ha hb
theorem zcl (ha:FE X a wa) (hb:FE X b wb):FE X (.BinOp a .Mod b pos) (zQ oMod wa wb):=zbU (fun _ _=>zo3) zkw ha hb
theorem zjm (ha:FE X a wa) (hb:FE X b wb):FE X (.BinOp a .FloorDiv b pos) (zQ oFdiv wa wb):=zbU (fun _ _=>zj6) zh4 ha hb
theorem zoB (ha:FE X a wa) (hb:FE X b wb):FE X (.BinOp a .Pow b pos) (zQ oPow wa wb):=zbU (fun _ _=>znG) zkf ha hb
section
open PySem.SeqAt
theorem zhL (h:clash (.tup l) (.tup m)=false):clashs l m=false:=h
theorem zbS:∀ {l m:List D} {j:Nat} {a b:D},clashs l m=false->l[j]?=some a->m[j]?=some b->clash a b=false
 | [],_,_,_,_,_,h,_=>by simp at h
 | _::_,[],_,_,_,_,_,h=>by simp at h
 | x::l,y::m,0,a,b,h,h1,h2=>by
   simp at h1 h2
   subst h1 h2
   have h':(clash x y || clashs l m)=false:=h
   rw [Bool.or_eq_false_iff] at h'
   exact h'.1
 | x::l,y::m,j + 1,a,b,h,h1,h2=>by
   have h':(clash x y || clashs l m)=false:=h
   rw [Bool.or_eq_false_iff] at h'
   exact zbS h'.2 (by simpa using h1) (by simpa using h2)
theorem zd4:∀ {l:List D} {j:Nat} {a:D},l[j]?=some a->dep a<=deps l
 | [],_,_,h=>by simp at h
 | x::l,0,a,h=>by
   simp at h
   subst h
   show dep x<=max (dep x) (deps l)
   lia
 | x::l,j + 1,a,h=>by
   have:=zd4 (l:=l) (j:=j) (a:=a) (by simpa using h)
   show dep a<=max (dep x) (deps l)
   lia
open Classical in
theorem zfS {l m:List D} (n:Nat) (hn:n=min l.length m.length):((List.range n).all (fun j=>decide (l[j]?=m[j]?)) && (l.length == m.length))=decide (l=m):=by
 by_cases h:l=m
 ·subst h
  simp
 ·rw [qV h]
  by_cases hl:l.length=m.length
  ·have:(List.range n).all (fun j=>decide (l[j]?=m[j]?))=false:=by
    cases q:(List.range n).all (fun j=>decide (l[j]?=m[j]?)) with
    | false=>rfl
    | true=>
      exfalso
      apply h
      apply ext_getElem?
      intro j
      by_cases hj:j < n
      ·exact qX (qL.mp q j (by simpa using hj))
      ·rw [qT (by lia),qT (by lia)]
   rw [this]; rfl
  ·have:(l.length == m.length)=false:=by simpa using hl
   rw [this,Bool.and_false]
inductive Sc:V->D->Prop
 | non:Sc .non .non
 | bl (b:Bool):Sc (.bl b) (.bl b)
 | int (i:Int):Sc (.int i) (.int i)
 | str {x:Str} {l:List Nat}:x.cps.toList=l->Sc (.str x) (.str l)
theorem zpc {K:W.Frag} (r:Rep K H v d) (hc:clash d e=false) (h1:∀ l,d≠.tup l) (h2:∀ l,d≠.lst l):Sc v d:=by
 cases r with
 | tup=>exact absurd rfl (h1 _)
 | lst=>exact absurd rfl (h2 _)
 | dK=>cases e <;> cases hc
 | dT=>cases e <;> cases hc
 | st=>cases e <;> cases hc
 | exc=>cases e <;> cases hc
 | non=>exact .non
 | bl=>exact .bl _
 | int=>exact .int _
 | str e _=>exact .str e
theorem zkS {K:W.Frag} (r:Rep K H u e) (s:Sc v d) (hc:clash d e=false):Sc u e:=by
 cases r with
 | non=>exact .non
 | bl=>exact .bl _
 | int=>exact .int _
 | str e _=>exact .str e
 | _=>cases s <;> cases hc
open Classical in
theorem zhp {K:W.Frag} (r1:Rep K H v d) (r2:Rep K H u e) (rv:zO v vv) (ru:zO u uu) (hc:clash d e=false) (h1:∀ l,d≠.tup l) (h2:∀ l,d≠.lst l):
  EqAt A s vv uu (decide (d=e))/\RcAt A s vv uu (decide (d=e)):=by
 have s1:=zpc r1 hc h1 h2
 have s2:=zkS r2 s1 hc
 clear r1 r2 h1 h2
 cases s1 with
 | non=>
   cases rv
   cases s2 with
   | non=>cases ru; simp; exact ⟨EqAt.same _,RcAt.none_none⟩
   | bl b=>cases ru; simp; exact ⟨EqAt.none_bool _,RcAt.none_bool _⟩
   | int i=>obtain ⟨t,rfl⟩:=ru; simp; exact ⟨EqAt.none_int _ _,RcAt.none_int _ _⟩
   | str e=>obtain ⟨t,rfl⟩:=ru; simp; exact ⟨EqAt.none_str _ _,RcAt.none_str _ _⟩
 | bl a=>
   cases rv
   cases s2 with
   | non=>cases ru; simp; exact ⟨EqAt.bool_none _,RcAt.bool_none _⟩
   | bl b=>
     cases ru
     have e:(decide (D.bl a=D.bl b))=(a == b):=by cases a <;> cases b <;> simp
     rw [e]; exact ⟨EqAt.bool_bool _ _,RcAt.bool_bool _ _⟩
   | str e=>obtain ⟨t,rfl⟩:=ru; simp; exact ⟨EqAt.bool_str _ _ _,RcAt.bool_str _ _ _⟩
   | int=>cases hc
 | int i=>
   obtain ⟨t,rfl⟩:=rv
   cases s2 with
   | non=>cases ru; simp; exact ⟨EqAt.int_none _ _,RcAt.int_none _ _⟩
   | int j=>
     obtain ⟨t',rfl⟩:=ru
     have e:(decide (D.int i=D.int j))=(i == j):=by by_cases h:i=j <;> simp [h]
     rw [e]; exact ⟨EqAt.int_int _ _ _ _,RcAt.int_int _ _ _ _⟩
   | str e=>obtain ⟨t',rfl⟩:=ru; simp; exact ⟨EqAt.int_str _ _ _ _,RcAt.int_str _ _ _ _⟩
   | bl=>cases hc
 | str e1=>
   obtain ⟨t,rfl⟩:=rv
   cases s2 with
   | non=>cases ru; simp; exact ⟨EqAt.str_none _ _,RcAt.str_none _ _⟩
   | bl b=>cases ru; simp; exact ⟨EqAt.str_bool _ _ _,RcAt.str_bool _ _ _⟩
   | int j=>obtain ⟨t',rfl⟩:=ru; simp; exact ⟨EqAt.str_int _ _ _ _,RcAt.str_int _ _ _ _⟩
   | str e2=>
     obtain ⟨t',rfl⟩:=ru
     rename_i x l y m
     have e:(decide (D.str l=D.str m))=(x == y):=by
      by_cases h:x=y
      ·subst h
       rw [<- e1,<- e2]; simp
      ·have hb:(x == y)=false:=by simpa using h
       rw [hb]
       refine qV fun q=>h ?_
       obtain ⟨⟨a⟩⟩:=x
       obtain ⟨⟨b⟩⟩:=y
       have a1:a=l:=e1
       have b1:b=m:=e2
       rw [a1,b1,D.str.inj q]
     rw [e]; exact ⟨EqAt.str_str _ _ _ _,RcAt.str_str _ _ _ _⟩
theorem zaO (r:zW xs us) (h:j < us.toArray.size):∃ x,xs[j]?=some x/\zO x us.toArray[j]:=by
 have hl:=r.length
 have hj:j < us.length:=by simpa using h
 have hj':j < xs.length:=by lia
 obtain ⟨u,hu,ru⟩:=r.get (i:=j) (x:=xs[j]) (by simp [hj'])
 refine ⟨xs[j],by simp [hj'],?_⟩
 have:us.toArray[j]=u:=by
  have:=qi.mp hu
  simpa using this.2
 rw [this]; exact ru
mutual
theorem Rep.uniq (I:Inv X zZ σ H s) (r:Rep X.K H v d) (q:Rep X.K H v e) (hc:clash d e=false):d=e:=by
 cases r with
 | non=>cases q; rfl
 | bl _=>cases q; rfl
 | int _=>cases q; rfl
 | str e1 _=>cases q with | str e2 _=>rw [<- e1,<- e2]
 | tup e1 r1=>cases q with
   | tup e2 r2=>
     cases I.tuple_inj (SqT.of e1) (SqT.of e2)
     rw [zX.uniq I r1 r2 hc]
   | _=>cases hc
 | lst e1 r1=>cases q with
   | lst e2 r2=>
     cases I.list_inj e1 e2
     rw [zX.uniq I r1 r2 hc]
   | _=>cases hc
 | dK=>cases e <;> cases hc
 | dT=>cases e <;> cases hc
 | st=>cases e <;> cases hc
 | exc=>cases e <;> cases hc
theorem zX.uniq (I:Inv X zZ σ H s) (r:zX X.K H v d) (q:zX X.K H v e) (hc:clashs d e=false):d=e:=by
 cases r with
 | nil=>cases q; rfl
 | @cons _ a _ l a1 b1=>cases q with
   | @cons _ b _ m a2 b2=>
     have h':(clash a b || clashs l m)=false:=hc
     rw [Bool.or_eq_false_iff] at h'
     rw [Rep.uniq I a1 a2 h'.1,zX.uniq I b1 b2 h'.2]
end
open Classical in
theorem zjL:∀ (n:Nat) {A:Around} {v u:V} {vv uu:Value} {d e:D},dep d<=n->Inv X zZ σ H s->Rep X.K H v d->Rep X.K H u e->zO v vv->zO u uu->clash d e=false->A.units + n < cLine->
  EqAt A s vv uu (decide (d=e))/\RcAt A s vv uu (decide (d=e)):=by
 intro n
 induction n with
 | zero=>
   intro A v u vv uu d e hd I r1 r2 rv ru hc hu
   exact zhp r1 r2 rv ru hc (fun l z=>by subst z; exact absurd hd (by show ¬ deps l + 1<=0; lia)) (fun l z=>by subst z; exact absurd hd (by show ¬ deps l + 1<=0; lia))
 | succ n ih=>
   intro A v u vv uu d e hd I r1 r2 rv ru hc hu
   have hin:A.in1.units + n < cLine:=by show A.units + 1 + n < cLine; lia
   cases r1 with
   | tup e1 q1=>
     cases r2 with
     | tup e2 q2=>
       rename_i a xs l b ys m
       cases rv
       cases ru
       obtain ⟨z6,w1,p1,_⟩:=I.tuple (SqT.of e1)
       obtain ⟨its2,w2,p2,_⟩:=I.tuple (SqT.of e2)
       have hdl:deps l<=n:=by have:deps l + 1<=n + 1:=hd; lia
       have el1:z6.toArray.size=l.length:=by rw [qu,<- w1.length,q1.len]
       have el2:its2.toArray.size=m.length:=by rw [qu,<- w2.length,q2.len]
       have items:∀ j (h1:j < z6.toArray.size) (h2:j < its2.toArray.size),EqAt A.in1 s z6.toArray[j] its2.toArray[j] (decide (l[j]?=m[j]?)):=fun j h1 h2=>by
        obtain ⟨x,hx,rx⟩:=zaO w1 h1
        obtain ⟨y,hy,ry⟩:=zaO w2 h2
        have hj1:j < l.length:=by lia
        have hj2:j < m.length:=by lia
        obtain ⟨x',hx',rp1⟩:=q1.get (i:=j) (d:=l[j]) (by simp [hj1])
        obtain ⟨y',hy',rp2⟩:=q2.get (i:=j) (d:=m[j]) (by simp [hj2])
        rw [hx] at hx'; cases hx'
        rw [hy] at hy'; cases hy'
        have:=(ih (A:=A.in1) (le_trans (zd4 (l:=l) (j:=j) (by simp [hj1])) hdl) I rp1 rp2 rx ry (zbS (j:=j) (a:=l[j]) (b:=m[j]) (zhL hc) (by simp [hj1]) (by simp [hj2])) hin).1
        have e:decide (l[j]?=m[j]?)=decide (l[j]=m[j]):=by simp [hj1,hj2]
        rw [e]; exact this
       have hrc:RcAt A s (.ref a) (.ref b) (decide (D.tup l=D.tup m)):=by
        have:=RcAt.tuples (s:=s) (show s.heap.IsTuple a z6.toArray from p1) (show s.heap.IsTuple b its2.toArray from p2) (by lia) items
        rw [el1,el2,zfS (l:=l) (m:=m) _ rfl] at this
        have e:decide (D.tup l=D.tup m)=decide (l=m):=by by_cases h:l=m <;> simp [h]
        rw [e]; exact this
       refine ⟨?_,hrc⟩
       by_cases hab:a=b
       ·subst hab
        have hxy:l=m:=by
         have z:=Rep.uniq I (.tup e1 q1) (.tup e2 q2) hc
         cases z; rfl
        subst hxy
        simp
        exact EqAt.same _
       ·exact EqAt.of_refs hab hrc
     | _=>cases hc
   | lst e1 q1=>
     cases r2 with
     | lst e2 q2=>
       rename_i a xs l b ys m
       cases rv
       cases ru
       obtain ⟨z6,w1,p1,_⟩:=I.list e1
       obtain ⟨its2,w2,p2,_⟩:=I.list e2
       have hdl:deps l<=n:=by have:deps l + 1<=n + 1:=hd; lia
       have el1:z6.toArray.size=l.length:=by rw [qu,<- w1.length,q1.len]
       have el2:its2.toArray.size=m.length:=by rw [qu,<- w2.length,q2.len]
       have items:∀ j (h1:j < z6.toArray.size) (h2:j < its2.toArray.size),EqAt A.in1 s z6.toArray[j] its2.toArray[j] (decide (l[j]?=m[j]?)):=fun j h1 h2=>by
        obtain ⟨x,hx,rx⟩:=zaO w1 h1
        obtain ⟨y,hy,ry⟩:=zaO w2 h2
        have hj1:j < l.length:=by lia
        have hj2:j < m.length:=by lia
        obtain ⟨x',hx',rp1⟩:=q1.get (i:=j) (d:=l[j]) (by simp [hj1])
        obtain ⟨y',hy',rp2⟩:=q2.get (i:=j) (d:=m[j]) (by simp [hj2])
        rw [hx] at hx'; cases hx'
        rw [hy] at hy'; cases hy'
        have hc':clashs l m=false:=hc
        have:=(ih (A:=A.in1) (le_trans (zd4 (l:=l) (j:=j) (by simp [hj1])) hdl) I rp1 rp2 rx ry (zbS (j:=j) (a:=l[j]) (b:=m[j]) hc' (by simp [hj1]) (by simp [hj2])) hin).1
        have e:decide (l[j]?=m[j]?)=decide (l[j]=m[j]):=by simp [hj1,hj2]
        rw [e]; exact this
       have hrc:RcAt A s (.ref a) (.ref b) (decide (D.lst l=D.lst m)):=by
        have e:decide (D.lst l=D.lst m)=decide (l=m):=by by_cases h:l=m <;> simp [h]
        rw [e]
        by_cases z5:l.length=m.length
        ·have:=RcAt.lists (s:=s) p1.isList p2.isList (by lia) (by lia) items
         rw [el1] at this
         have e2:=zfS (l:=l) (m:=m) l.length (by lia)
         have e3:(l.length == m.length)=true:=by simpa using z5
         rw [e3,Bool.and_true] at e2
         rw [<- e2]; exact this
        ·have:=RcAt.lists_lengths (A:=A) (s:=s) p1.isList p2.isList (by simp only [el1,el2]; simpa using z5) (by lia)
         have e2:decide (l=m)=false:=qV fun z=>z5 (by rw [z])
         rw [e2]; exact this
       refine ⟨?_,hrc⟩
       by_cases hab:a=b
       ·subst hab
        have hxy:l=m:=by
         have z:=Rep.uniq I (.lst e1 q1) (.lst e2 q2) hc
         cases z; rfl
        subst hxy
        simp
        exact EqAt.same _
       ·exact EqAt.of_refs hab hrc
     | _=>cases hc
   | _=>exact zhp (by first | exact .non | exact .bl _ | exact .int _ | (rename_i e z; exact .str e z) | (rename_i e k r; exact .dK e k r) | (rename_i e k r; exact .dT e k r) | (rename_i e r; exact .st e r) | (rename_i e k z; exact .exc e k z)) r2 rv ru hc (fun l z=>by cases z) (fun l z=>by cases z)
end
section
variable {K:W.Frag}
open PySem.SeqAt
open Classical in
def rEqD (K:W.Frag):R2:=fun x y H Q=>∃ p q,Rep K H x p/\Rep K H y q/\clash p q=false/\dep p<=30/\Q (.bl (decide (p=q))) H
theorem za3 (hu:X.A.units + 31 < cLine):OpR X (compareOp .Eq) (rEqD X.K):=by
 intro zZ s σ H x y v u Q I rx ry h
 obtain ⟨p,q,r1,r2,hc,hd,hq⟩:=h
 exact (zjL 30 hd I r1 r2 rx ry hc (by lia)).2 X.prog X.w X.xe _ ⟨.bl _,H,I,rfl,hq⟩
theorem zkT (h:cEq p q=some k):clash p q=false/\dep p<=30:=by
 grind [cEq]
open Classical in
theorem zhj (h:cEq p q=some k):k=decide (p=q):=by
 unfold cEq at h
 split at h
 ·cases h
 ·exact (qh h).symm
theorem zaG:DoesC K (rEqD K) cEq:=by
 intro H x y p q k Q r1 r2 e hq
 obtain ⟨h1,h2⟩:=zkT e
 have:=zhj e
 subst this
 exact ⟨p,q,r1,r2,h1,h2,hq⟩
open Classical in
def rNeD (K:W.Frag):R2:=fun x y H Q=>∃ p q,Rep K H x p/\Rep K H y q/\clash p q=false/\dep p<=30/\Q (.bl (!decide (p=q))) H
theorem zfY (I:Inv X zZ σ H s) (q1:zX X.K H xs l) (q2:zX X.K H ys m) (w1:zW xs us) (w2:zW ys ws) (hc:clashs l m=false) (hd:deps l<=30) (hu:A.units + 30 < cLine):
  ∀ j (h1:j < us.toArray.size) (h2:j < ws.toArray.size),EqAt A s us.toArray[j] ws.toArray[j] (open Classical in decide (l[j]?=m[j]?)):=fun j h1 h2=>by
 obtain ⟨x,hx,rx⟩:=zaO w1 h1
 obtain ⟨y,hy,ry⟩:=zaO w2 h2
 have el1:us.toArray.size=l.length:=by rw [qu,<- w1.length,q1.len]
 have el2:ws.toArray.size=m.length:=by rw [qu,<- w2.length,q2.len]
 have hj1:j < l.length:=by lia
 have hj2:j < m.length:=by lia
 obtain ⟨x',hx',rp1⟩:=q1.get (i:=j) (d:=l[j]) (by simp [hj1])
 obtain ⟨y',hy',rp2⟩:=q2.get (i:=j) (d:=m[j]) (by simp [hj2])
 rw [hx] at hx'; cases hx'
 rw [hy] at hy'; cases hy'
 have:=(zjL 30 (A:=A) (le_trans (zd4 (l:=l) (j:=j) (by simp [hj1])) hd) I rp1 rp2 rx ry (zbS (j:=j) (a:=l[j]) (b:=m[j]) hc (by simp [hj1]) (by simp [hj2])) hu).1
 have e:(open Classical in decide (l[j]?=m[j]?))=(open Classical in decide (l[j]=m[j])):=by simp [hj1,hj2]
 rw [e]; exact this
theorem kindD (p:D):(∃ l,p=.tup l)\/(∃ l,p=.lst l)\/((∀ l,p≠.tup l)/\∀ l,p≠.lst l):=by
 cases p with
 | tup l=>exact .inl ⟨l,rfl⟩
 | lst l=>exact .inr (.inl ⟨l,rfl⟩)
 | _=>exact .inr (.inr ⟨fun l z=>D.noConfusion z,fun l z=>D.noConfusion z⟩)
theorem zmx (h:clash (.tup l) q=false):∃ m,q=.tup m:=by
 cases q with
 | tup m=>exact ⟨m,rfl⟩
 | _=>cases h
theorem zlC (h:clash (.lst l) q=false):∃ m,q=.lst m:=by
 cases q with
 | lst m=>exact ⟨m,rfl⟩
 | _=>cases h
theorem zmz (r1:Rep K H x p) (r2:Rep K H y q) (hc:clash p q=false) (h1:∀ l,p≠.tup l) (h2:∀ l,p≠.lst l):scal x y=true/\(p=q↔x=y):=by
 have s1:=zpc r1 hc h1 h2
 have s2:=zkS r2 s1 hc
 clear r1 r2 h1 h2
 cases s1 with
 | str e1=>
   cases s2 with
   | str e2=>
     rename_i x l y m
     refine ⟨rfl,fun z=>?_,fun z=>?_⟩
     ·obtain ⟨⟨a⟩⟩:=x
      obtain ⟨⟨b⟩⟩:=y
      grind
     ·cases z
      rw [<- e1,<- e2]
   | _=>exact ⟨rfl,fun z=>D.noConfusion z,fun z=>V.noConfusion z⟩
 | _=>cases s2 <;> first | exact ⟨rfl,fun z=>D.noConfusion z,fun z=>V.noConfusion z⟩ | exact ⟨rfl,fun z=>by cases z; rfl,fun z=>by cases z; rfl⟩ | cases hc
theorem zc5 (hu:X.A.units + 32 < cLine):OpR X (compareOp .NotEq) (rNeD X.K):=by
 classical
 intro zZ s σ H x y v u Q I rx ry h
 obtain ⟨p,q,r1,r2,hc,hd,hq⟩:=h
 have fin:EP X zZ σ Q (.bool (!decide (p=q))) s:=⟨.bl _,H,I,rfl,hq⟩
 have hin:X.A.in1.units + 30 < cLine:=by show X.A.units + 1 + 30 < cLine; lia
 rcases kindD p with ⟨l,rfl⟩ | ⟨l,rfl⟩ | ⟨n1,n2⟩
 ·obtain ⟨m,rfl⟩:=zmx hc
  cases r1 with
  | tup e1 q1=>
  cases r2 with
  | tup e2 q2=>
    rename_i a xs b ys
    cases rx
    cases ry
    obtain ⟨z6,w1,p1,_⟩:=I.tuple (SqT.of e1)
    obtain ⟨its2,w2,p2,_⟩:=I.tuple (SqT.of e2)
    have hdl:deps l<=30:=by have:deps l + 1<=30:=hd; lia
    have el1:z6.toArray.size=l.length:=by rw [qu,<- w1.length,q1.len]
    have el2:its2.toArray.size=m.length:=by rw [qu,<- w2.length,q2.len]
    have:=RcNeAt.tuples (A:=X.A) (s:=s) (show s.heap.IsTuple a z6.toArray from p1) (show s.heap.IsTuple b its2.toArray from p2) (by lia) (zfY I q1 q2 w1 w2 hc hdl hin)
    rw [el1,el2,zfS (l:=l) (m:=m) _ rfl] at this
    have e:decide (D.tup l=D.tup m)=decide (l=m):=by by_cases h:l=m <;> simp [h]
    rw [e] at fin
    exact this X.prog X.w X.xe _ fin
 ·obtain ⟨m,rfl⟩:=zlC hc
  cases r1 with
  | lst e1 q1=>
  cases r2 with
  | lst e2 q2=>
    rename_i a xs b ys
    cases rx
    cases ry
    obtain ⟨z6,w1,p1,_⟩:=I.list e1
    obtain ⟨its2,w2,p2,_⟩:=I.list e2
    have hdl:deps l<=30:=by have:deps l + 1<=30:=hd; lia
    have el1:z6.toArray.size=l.length:=by rw [qu,<- w1.length,q1.len]
    have el2:its2.toArray.size=m.length:=by rw [qu,<- w2.length,q2.len]
    have e:decide (D.lst l=D.lst m)=decide (l=m):=by by_cases h:l=m <;> simp [h]
    rw [e] at fin
    by_cases z5:l.length=m.length
    ·have:=RcNeAt.lists (A:=X.A) (s:=s) p1.isList p2.isList (by lia) (by lia) (zfY I q1 q2 w1 w2 hc hdl hin)
     rw [el1] at this
     have e2:=zfS (l:=l) (m:=m) l.length (by lia)
     have e3:(l.length == m.length)=true:=by simpa using z5
     rw [e3,Bool.and_true] at e2
     rw [<- e2] at fin
     exact this X.prog X.w X.xe _ fin
    ·have:=RcNeAt.lists_lengths (A:=X.A) (s:=s) p1.isList p2.isList (by simp only [el1,el2]; simpa using z5) (by lia)
     have e2:decide (l=m)=false:=qV fun z=>z5 (by rw [z])
     rw [e2] at fin
     exact this X.prog X.w X.xe _ fin
 ·obtain ⟨h1,h2⟩:=zmz r1 r2 hc n1 n2
  rw [decide_eq_decide.mpr h2] at hq
  exact zqE zZ s σ H x y v u Q I rx ry ⟨h1,hq⟩
theorem zbE:DoesC K (rNeD K) cNe:=by
 intro H x y p q k Q r1 r2 e hq
 unfold cNe at e
 cases q1:cEq p q with
 | none=>rw [q1] at e; cases e
 | some b=>
   rw [q1] at e
   have e':(!b)=k:=qh e
   obtain ⟨h1,h2⟩:=zkT q1
   have:=zhj q1
   subst this
   subst e'
   exact ⟨p,q,r1,r2,h1,h2,hq⟩
def rOrd (f:Int->Int->Bool) (g:List Nat->List Nat->Bool):R2:=fun x y H Q=>(∃ i j,x=.int i/\y=.int j/\Q (.bl (f i j)) H)\/∃ i j,x=.str i/\y=.str j/\Q (.bl (g i.cps.toList j.cps.toList)) H
theorem zdX {g:List Nat->List Nat->Bool} (rule:∀ (i j:Str) (t u:Tok) (s:Shared) (Q:zz) (E:zz),Q (.bool (g i.cps.toList j.cps.toList)) s->wpAny (model X.prog X.w) X.A (compareOp op (.str i t) (.str j u)) Q E s):
  OpR X (compareOp op) (fun x y H Q=>∃ i j,x=.str i/\y=.str j/\Q (.bl (g i.cps.toList j.cps.toList)) H):=by
 intro zZ s σ H x y v u Q I rx ry h
 obtain ⟨i,j,rfl,rfl,q⟩:=h
 obtain ⟨t,rfl⟩:=rx
 obtain ⟨t',rfl⟩:=ry
 exact rule i j t t' s _ _ ⟨.bl _,H,I,rfl,q⟩
theorem znF:OpR X (compareOp .Lt) (rOrd (fun i j=>decide (i < j)) fun l m=>decide (l < m)):=FL.OpR.or zp1 (zdX (g:=fun l m=>decide (l < m)) fun _ _ _ _ _ _ _ q=>PyProof.Rows.lt_str q)
theorem zm7:OpR X (compareOp .LtE) (rOrd (fun i j=>decide (i<=j)) fun l m=>!decide (m < l)):=FL.OpR.or zqv (zdX (g:=fun l m=>!decide (m < l)) fun _ _ _ _ _ _ _ q=>PySem.P.le_str q)
theorem zeq:OpR X (compareOp .Gt) (rOrd (fun i j=>decide (j < i)) fun l m=>decide (m < l)):=FL.OpR.or zrT (zdX (g:=fun l m=>decide (m < l)) fun _ _ _ _ _ _ _ q=>PySem.P.gt_str q)
theorem zkU:OpR X (compareOp .GtE) (rOrd (fun i j=>decide (j<=i)) fun l m=>!decide (l < m)):=FL.OpR.or zrH (zdX (g:=fun l m=>!decide (l < m)) fun _ _ _ _ _ _ _ q=>PySem.P.ge_str q)
theorem zco (h:∀ p q k,o p q=some k->(∃ i j,p=.int i/\q=.int j/\k=f i j)\/∃ l m,p=.str l/\q=.str m/\k=g l m):DoesC K (rOrd f g) o:=by
 intro H x y p q k Q r1 r2 e hq
 rcases h p q k e with ⟨i,j,rfl,rfl,rfl⟩ | ⟨l,m,rfl,rfl,rfl⟩
 ·cases r1
  cases r2
  exact .inl ⟨i,j,rfl,rfl,hq⟩
 ·cases r1 with
  | str e1 z1=>cases r2 with
    | str e2 z2=>
      subst e1 e2
      exact .inr ⟨_,_,rfl,rfl,hq⟩
theorem zly:DoesC K (rOrd (fun i j=>decide (i < j)) fun l m=>decide (l < m)) cLt:=zco fun p q k e=>by
 unfold cLt ltD at e
 split at e
 ·exact .inl ⟨_,_,rfl,rfl,(qh e).symm⟩
 ·exact .inr ⟨_,_,rfl,rfl,(qh e).symm⟩
 ·cases e
theorem zcX:DoesC K (rOrd (fun i j=>decide (j < i)) fun l m=>decide (m < l)) cGt:=zco fun p q k e=>by
 unfold cGt ltD at e
 split at e
 ·exact .inl ⟨_,_,rfl,rfl,(qh e).symm⟩
 ·exact .inr ⟨_,_,rfl,rfl,(qh e).symm⟩
 ·cases e
theorem zlR:DoesC K (rOrd (fun i j=>decide (i<=j)) fun l m=>!decide (m < l)) cLe:=zco fun p q k e=>by
 unfold cLe at e
 split at e
 ·exact .inl ⟨_,_,rfl,rfl,(qh e).symm⟩
 ·exact .inr ⟨_,_,rfl,rfl,(qh e).symm⟩
 ·cases e
theorem zig:DoesC K (rOrd (fun i j=>decide (j<=i)) fun l m=>!decide (l < m)) cGe:=zco fun p q k e=>by
 unfold cGe at e
 split at e
 ·exact .inl ⟨_,_,rfl,rfl,(qh e).symm⟩
 ·exact .inr ⟨_,_,rfl,rfl,(qh e).symm⟩
 ·cases e
end
section
open PySem.SeqAt
open Classical in
def rInD (K:W.Frag) (neg:Bool):R2:=fun x y H Q=>∃ p l,Rep K H x p/\(Rep K H y (.lst l)\/Rep K H y (.tup l))/\(∀ d∈l,clash d p=false/\dep d<=30)/\Q (.bl (if neg then !decide (p∈l) else decide (p∈l))) H
theorem zcw (I:Inv X zZ σ H s) (rx:zO x v) (r1:Rep X.K H x p) (q1:zX X.K H xs l) (w1:zW xs us) (hc:∀ d∈l,clash d p=false/\dep d<=30) (hu:A.units + 30 < cLine):
  ∃ e:Value->Bool,(∀ y,y∈us.toArray->EqAt A s y v (e y))/\us.toArray.any e=(open Classical in decide (p∈l)):=by
 classical
 have item:∀ {y:Value},y∈us->∃ z d,zO z y/\Rep X.K H z d/\d∈l:=fun {y} hy=>by
  obtain ⟨j,hj,e⟩:=List.getElem_of_mem hy
  obtain ⟨z,hz,rz⟩:=zaO (j:=j) w1 (by simpa using hj)
  have hl:j < l.length:=by rw [<- q1.len,w1.length]; exact hj
  obtain ⟨z',hz',rp⟩:=q1.get (i:=j) (d:=l[j]) (by simp [hl])
  rw [hz] at hz'; cases hz'
  refine ⟨z,l[j],?_,rp,by simp⟩
  have:us.toArray[j]=y:=by simpa using e
  rw [<- this]; exact rz
 refine ⟨fun y=>decide (∃ z,zO z y/\Rep X.K H z p),fun y hy=>?_,?_⟩
 ·have hy':y∈us:=by simpa using hy
  obtain ⟨z,d,rz,rp,hd⟩:=item hy'
  have hcd:=hc d hd
  have:=(zjL 30 (A:=A) hcd.2 I rp r1 rz rx hcd.1 hu).1
  have e:decide (d=p)=decide (∃ z,zO z y/\Rep X.K H z p):=by
   by_cases h:d=p
   ·subst h
    rw [qU rfl,qU ⟨z,rz,rp⟩]
   ·rw [qV h]
    refine (qV ?_).symm
    rintro ⟨z',rz',rp'⟩
    have:z=z':=rz.inj rz'
    subst this
    exact h (Rep.uniq I rp rp' hcd.1)
  show EqAt A s y v (decide (∃ z,zO z y/\Rep X.K H z p))
  rw [<- e]; exact this
 ·by_cases h:p∈l
  ·rw [qU h]
   obtain ⟨j,hj,e⟩:=List.getElem_of_mem h
   obtain ⟨z,hz,rp⟩:=q1.get (i:=j) (d:=l[j]) (by simp [hj])
   obtain ⟨u,hu',ru⟩:=w1.get hz
   rw [Array.any_eq_true']
   exact ⟨u,by simpa using qP hu',qU ⟨z,ru,e ▸ rp⟩⟩
  ·rw [qV h]
   rw [Array.any_eq_false']
   intro y hy z
   obtain ⟨z',rz',rp'⟩:=qX z
   obtain ⟨z2,d,rz,rp,hd⟩:=item (y:=y) (by simpa using hy)
   have:z2=z':=rz.inj rz'
   subst this
   exact h (Rep.uniq I rp rp' (hc d hd).1 ▸ hd)
theorem zoU (hu:X.A.units + 32 < cLine):OpR X (compareOp .In) (rInD X.K false):=by
 intro zZ s σ H x y v u Q I rx ry h
 obtain ⟨p,l,r1,r2,hc,hq⟩:=h
 have hin:X.A.in1.units + 30 < cLine:=by show X.A.units + 1 + 30 < cLine; lia
 rcases r2 with r2 | r2
 ·cases r2 with
  | lst e q=>
    cases ry
    obtain ⟨z6,w1,p1,_⟩:=I.list e
    obtain ⟨f,hf,ha⟩:=zcw (A:=X.A.in1) I rx r1 q w1 hc hin
    exact in_listAt f p1.isList hf ⟨.bl _,H,I,rfl,by rw [ha]; exact hq⟩
 ·cases r2 with
  | tup e q=>
    cases ry
    obtain ⟨z6,w1,p1,_⟩:=I.tuple (SqT.of e)
    obtain ⟨f,hf,ha⟩:=zcw (A:=X.A.in1) I rx r1 q w1 hc hin
    exact in_tupleAt f (show s.heap.IsTuple _ z6.toArray from p1) hf ⟨.bl _,H,I,rfl,by rw [ha]; exact hq⟩
theorem ziu (hu:X.A.units + 32 < cLine):OpR X (compareOp .NotIn) (rInD X.K true):=by
 intro zZ s σ H x y v u Q I rx ry h
 obtain ⟨p,l,r1,r2,hc,hq⟩:=h
 have hin:X.A.in1.units + 30 < cLine:=by show X.A.units + 1 + 30 < cLine; lia
 rcases r2 with r2 | r2
 ·cases r2 with
  | lst e q=>
    cases ry
    obtain ⟨z6,w1,p1,_⟩:=I.list e
    obtain ⟨f,hf,ha⟩:=zcw (A:=X.A.in1) I rx r1 q w1 hc hin
    exact notIn_listAt f p1.isList hf ⟨.bl _,H,I,rfl,by rw [ha]; exact hq⟩
 ·cases r2 with
  | tup e q=>
    cases ry
    obtain ⟨z6,w1,p1,_⟩:=I.tuple (SqT.of e)
    obtain ⟨f,hf,ha⟩:=zcw (A:=X.A.in1) I rx r1 q w1 hc hin
    exact notIn_tupleAt f (show s.heap.IsTuple _ z6.toArray from p1) hf ⟨.bl _,H,I,rfl,by rw [ha]; exact hq⟩
end
section
variable {K:W.Frag}
theorem ziM (hl:xs.length=l.length) (h:atI l i=some d):∃ j,ixN l.length i=some j/\l[j]?=some d/\∀ x,xs[j]?=some x->L2.atI xs i=some x:=by
 unfold atI at h
 cases q:ixN l.length i with
 | none=>rw [q] at h; cases h
 | some j=>
   rw [q] at h
   refine ⟨j,rfl,h,fun x hx=>?_⟩
   have e:L2.ixN xs.length i=some j:=by rw [hl]; exact q
   unfold L2.atI
   rw [e]; exact hx
theorem zX.atI (r:zX K F xs l) (h:FL.atI l i=some d):∃ x,L2.atI xs i=some x/\Rep K F x d:=by
 obtain ⟨j,_,h1,h2⟩:=ziM (xs:=xs) r.len h
 obtain ⟨x,hx,rx⟩:=r.get h1
 exact ⟨x,h2 x hx,rx⟩
theorem zN.get {j:Nat} (r:zN K F H xs l fp) (h:l[j]?=some t):∃ x fa fi fb,xs[j]?=some x/\SRep K F H x t fi/\fp=fa++(fi++fb):=
 zN.ind (P:=fun xs l fp=>∀ j t,l[j]?=some t->∃ x fa fi fb,xs[j]?=some x/\SRep K F H x t fi/\fp=fa++(fi++fb)) (fun _ _ e=>by cases e) (fun a _ ih j t e=>by
  cases j with
  | zero=>cases e; exact ⟨_,[],_,_,rfl,a,rfl⟩
  | succ j=>
    obtain ⟨x,fa,fi,fb,h1,h2,rfl⟩:=ih j t e
    exact ⟨x,_++fa,fi,fb,h1,h2,(qr ..).symm⟩) r j t h
theorem Rel.item {j:Nat} (r:Rel K (U++[some (.lst l)]) (σ++[some (.ref a)]) F G H) (h:l[j]?=some t):∃ xs x,H a=some (.lst xs)/\xs.length=l.length/\xs[j]?=some x/\Rel K (U++[some t]) (σ++[some x]) F G H:=by
 obtain ⟨fp,e,nd,ap⟩:=r.en
 obtain ⟨f1,f2,rfl,en,b⟩:=e.cut (len1 r)
 cases b with
 | so sr nl=>
   cases nl
   cases sr with
   | lst hD rl=>
     rename_i xs fl
     obtain ⟨x,fa,fi,fb,h1,h2,rfl⟩:=rl.get h
     refine ⟨xs,x,hD,rl.len,h1,r.fr,r.gr,f1++(fi++[]),en.app (.so h2 .nil),?_,fun y hy=>ap y ?_⟩
     ·have sub:List.Sublist (f1++(fi++[])) (f1++(a::(fa++(fi++fb))++[])):=by
       refine List.Sublist.append (List.Sublist.refl _) ?_
       simp only [qC]
       exact (List.Sublist.cons _ ((List.sublist_append_left fi fb).trans (List.sublist_append_right fa _)))
      exact sub.nodup nd
     ·rcases qA.mp hy with z | z
      ·exact qm _ z
      ·refine qk _ ?_
       simp only [qC] at z ⊢
       exact qo _ (qk _ (qm _ z))
end
theorem zlj {K:W.Frag} (e:SqT K H c xs) (r:zX K F xs l) (h:atI l i=some d) (hq:∀ x,Rep K F x d->Q x H):rIx K (.ref c) (.int i) H Q:=by
 obtain ⟨x,hx,rx⟩:=r.atI h
 exact .inr (.inl ⟨c,xs,i,x,rfl,rfl,e,hx,hq x rx⟩)
theorem zlp {K:W.Frag} (e:SqL K H c xs) (r:zX K F xs l) (h:atI l i=some d) (hq:∀ x,Rep K F x d->Q x H):rIx K (.ref c) (.int i) H Q:=by
 obtain ⟨x,hx,rx⟩:=r.atI h
 exact .inl ⟨c,xs,i,x,rfl,rfl,e,hx,hq x rx⟩
theorem zlw (h:ixS s q=some t):(∃ l i d,s=.sh (.tup l)/\q=.int i/\atI l i=some d/\t=.sh d)\/(∃ l i d,s=.sh (.lst l)/\q=.int i/\atI l i=some d/\t=.sh d)\/
  (∃ l i c,s=.sh (.str l)/\q=.int i/\atI l i=some c/\t=.sh (.str [c]))\/∃ l i,s=.lst l/\q=.int i/\atI l i=some t:=by
 refine cps fun _ kk=>?_
 rcases s with d | l | _ | _
 ·rcases d with _ | _ | _ | l | l | l | _ | _ | _
  case str | tup | lst=>
   rcases q with _ | _ | i | _ | _ | _ | _ | _ | _
   case int=>
    obtain ⟨d,e,e'⟩:=q8.mp h
    first | exact kk (.inl ⟨_,_,d,rfl,rfl,e,e'.symm⟩) | exact kk (.inr (.inl ⟨_,_,d,rfl,rfl,e,e'.symm⟩)) | exact kk (.inr (.inr (.inl ⟨_,_,d,rfl,rfl,e,e'.symm⟩)))
   all_goals cases h
  all_goals cases h
 ·rcases q with _ | _ | i | _ | _ | _ | _ | _ | _
  case int=>exact kk (.inr (.inr (.inr ⟨_,_,rfl,rfl,h⟩)))
  all_goals cases h
 all_goals cases h
theorem zff {K:W.Frag} (h:SRep K F H v (.sh d) fp):Rep K F v d:=by cases h; assumption
theorem zf7 {K:W.Frag} (h:SRep K F H v (.lst l) fp):∃ a xs fq,v=.ref a/\H a=some (.lst xs)/\zN K F H xs l fq:=by
 cases h with
 | lst h1 h2=>exact ⟨_,_,_,rfl,h1,h2⟩
theorem zkX {K:W.Frag} (fr:zK F H) (r:Rep K F v d) (ru:Rep K F2 u q) (et:ixS (.sh d) q=some t) (done:∀ e x,t=.sh e->Rep K F x e->Q x H):rIx K v u H Q:=by
 rcases zlw et with ⟨l,i,e,e1,rfl,ed,rfl⟩ | ⟨l,i,e,e1,rfl,ed,rfl⟩ | ⟨l,i,c,e1,rfl,ec,rfl⟩ | ⟨l,i,e1,_⟩
 ·injection e1 with e1
  subst e1
  obtain rfl:=RepE.int (H:=H) (.inl ru)
  obtain ⟨a,xs,rfl,h1,r1⟩:=RepE.tup (H:=H) (.inl r)
  exact zlj (SqT.of (fr _ _ h1)) r1 ed fun x rx=>done _ x rfl rx
 ·injection e1 with e1
  subst e1
  obtain rfl:=RepE.int (H:=H) (.inl ru)
  obtain ⟨a,xs,rfl,h1,r1⟩:=RepE.lst (H:=H) fr (.inl r)
  exact zlp h1 r1 ed fun x rx=>done _ x rfl rx
 ·injection e1 with e1
  subst e1
  obtain rfl:=RepE.int (H:=H) (.inl ru)
  obtain ⟨x,rfl,h1,z⟩:=RepE.str (H:=H) (.inl r)
  exact .inr (.inr ⟨_,i,c,rfl,rfl,by rw [zcc h1,zt]; exact z,by rw [h1]; exact ec,done _ _ rfl (.str rfl (by show 1<=_; decide))⟩)
 ·cases e1
theorem zh0 (h:ixS (.lst l) q=some t):∃ i,q=.int i/\atI l i=some t:=by
 cases q with
 | int i=>exact ⟨i,rfl,h⟩
 | _=>cases h
theorem zaA (ha:FE X a wa) (hb:FE X b wb) (hs:PlainIx b:=by intro _ _; rfl):FE X (.Subscript a b pos) (wIx wa wb):=fun pn xe hp=>by
 refine PE.imp (zk7 (zkV (X:=wp X pn xe)) (ha pn xe hp) (hb pn xe hp) hs) fun σ H Q q=>?_
 refine (two (k:=fun x y U2 Q E=>zJ (view y U2) fun q=>match x with
  | .v s=>zJ (ixS s q) fun t=>Q (.v t) U2
  | .loc i=>match slot U2 i with
    | some s=>match ixS s q with
      | some (.sh d)=>Q (.v (.sh d)) U2
      | _=>False
    | none=>False) q).mono fun v H1 h1=>h1.mono fun u H2 h2=>?_
 obtain ⟨F,G,U,x,y,P,PX,z4,hl,rx,ry,hk,hok,hx⟩:=h2
 obtain ⟨q,eq,hk⟩:=zad hk
 have relx:Rel X.K (U++[zL x]) (σ++[some v]) F G H2:=by
  have:=Rel.swap (U1:=[zL x]) (σ1:=[some v]) (U2:=[zL y]) (σ2:=[some u]) hl rfl z4
  exact Rel.mid (U:=U) (σ:=σ) this hl
 have rely:Rel X.K (U++[zL y]) (σ++[some u]) F G H2:=z4.mid hl
 have ru:=look (U':=[]) (σ':=[]) rely hl ry eq
 have done:∀ {d:D} {x:V},P (.v (.sh d)) U->Rep X.K F x d->Q x H2:=fun hP r=>hok _ U _ F H2 hP (zK.refl F) ((relx.drop hl).push r) trivial
 cases x with
 | v s=>
   obtain ⟨t,et,hP⟩:=zad hk
   obtain ⟨w,fp,e1,sr⟩:=relx.at (i:=U.length) (s:=s) zaE
   rw [hl,getElem?_append_right (zj _),sub_self] at e1
   have e2:v=w:=by simpa using e1
   subst e2
   cases s with
   | sh d=>exact zkX relx.fr (zff sr) ru et fun e x z rx=>done (by rw [<- z]; exact hP) rx
   | lst l=>
     obtain ⟨i,rfl,et⟩:=zh0 et
     obtain rfl:=RepE.int (H:=H2) (.inl ru)
     obtain ⟨a,ys,fq,rfl,hD,rl⟩:=zf7 sr
     obtain ⟨j,_,hj,hat⟩:=ziM rl.len et
     obtain ⟨xs,x,hD',z5,hxj,r2⟩:=Rel.item relx hj
     rw [hD] at hD'
     cases hD'
     exact .inl ⟨_,_,i,x,rfl,rfl,SqL.of hD,hat x hxj,hok _ U _ F H2 hP (zK.refl F) r2 trivial⟩
   | _=>cases q <;> cases et
 | loc k=>
   dsimp only at hk
   cases qs:slot U k with
   | none=>rw [qs] at hk; exact hk.elim
   | some s=>
     rw [qs] at hk
     dsimp only at hk
     split at hk
     ·rename_i d et
      obtain ⟨w,fp,e1,sr⟩:=(relx.drop hl).at qs
      have rx':σ[k]?=some (some v):=rx
      rw [rx'] at e1
      have e2:v=w:=by simpa using e1
      subst e2
      cases s with
      | sh d'=>exact zkX relx.fr (zff sr) ru et fun e x z rx=>done (by injection z with z; rw [<- z]; exact hk) rx
      | lst l=>
        obtain ⟨i,rfl,et⟩:=zh0 et
        obtain rfl:=RepE.int (H:=H2) (.inl ru)
        obtain ⟨a,ys,fq,rfl,hD,rl⟩:=zf7 sr
        obtain ⟨j,_,hj,hat⟩:=ziM rl.len et
        obtain ⟨x,fa,fi,fb,hxj,sx,_⟩:=rl.get hj
        exact .inl ⟨_,_,i,x,rfl,rfl,SqL.of hD,hat x hxj,done hk (zff sx)⟩
      | _=>cases q <;> cases et
     ·exact hk.elim
section
variable {K:W.Frag} {σ:St}
theorem zN.set:∀ {xs:List V} {l:List S} {fp:List Addr} {m:Nat},zN K F H xs l fp->m < l.length->∃ fa fi fb,fp=fa++(fi++fb)/\
  ∀ {H':Hp} {v:V} {s:S} {fq:List Addr},(∀ a∈fa++fb,H' a=H a)->SRep K F H' v s fq->zN K F H' (xs.set m v) (l.set m s) (fa++(fq++fb))
 | _,_,_,_,.nil,h=>by simp at h
 | _,_,_,0,.cons (fp:=fp) (fq:=fq) a b,h=>⟨[],fp,fq,rfl,fun hk r=>by rw [nil_append]; exact .cons r (b.mono (zK.refl F) fun c hc=>hk c hc)⟩
 | _,_,_,m + 1,.cons (fp:=fp) (fq:=fq) a b,h=>by
   obtain ⟨fa,fi,fb,rfl,up⟩:=zN.set (m:=m) b (by simpa using h)
   refine ⟨fp++fa,fi,fb,(qr ..).symm,fun hk r=>?_⟩
   rw [qr]
   exact .cons (a.mono (zK.refl F) fun c hc=>hk c (qm _ (qm _ hc))) (up (fun c hc=>hk c ((qA.mp hc).elim (fun z=>qm _ (qk _ z)) fun z=>qk _ z)) r)
theorem zcp (h:σ[n]?=some (some v)):σ.set n (some v)=σ:=by
 apply ext_getElem?
 intro j
 by_cases hj:n=j
 ·subst hj
  rw [getElem?_set_self (qi.mp h).1,h]
 ·rw [getElem?_set_ne hj]
theorem Rel.setItem {D:Addr} (r:Rel K (U++[some s]) (σ++[some v]) F G H) (hs:slot U n=some (.lst l)) (hσ:σ[n]?=some (some (.ref D))) (hm:m < l.length):
  ∃ xs,H D=some (.lst xs)/\xs.length=l.length/\Rel K (U.set n (some (.lst (l.set m s)))) σ F G (upd H D (.lst (xs.set m v))):=by
 have hl:=len1 r
 obtain ⟨fp,e,nd,ap⟩:=r.en
 obtain ⟨f1,f2,rfl,a,b⟩:=e.cut hl
 obtain ⟨v',fa,fi,fb,e1,rfl,q,up⟩:=a.at hs
 rw [hσ] at e1
 have e2:V.ref D=v':=by simpa using e1
 subst e2
 cases q with
 | lst hD rl=>
   rename_i xs fl
   cases b with
   | so sr nl=>
     cases nl
     rename_i fs
     obtain ⟨ga,gi,gb,rfl,sup⟩:=rl.set hm
     refine ⟨xs,hD,rl.len,?_⟩
     obtain ⟨n1,n2,n12⟩:=qz.mp nd
     obtain ⟨na,nib,nab⟩:=qz.mp n1
     obtain ⟨ni,nb,nib⟩:=qz.mp nib
     obtain ⟨nD,nfl⟩:=qO.mp ni
     have hDa:D∉fa:=fun z=>nab D z D (qm _ qp) rfl
     have hDb:D∉fb:=fun z=>nib D qp D z rfl
     have hDs:D∉fs:=fun z=>n12 D (qk _ (qm _ qp)) D (by simpa using z) rfl
     have apD:=ap D (qm _ (qk _ (qm _ qp)))
     have ne:∀ {l:List Addr},D∉l->∀ x∈l,upd H D (.lst (xs.set m v)) x=H x:=fun h x hx=>zag fun z=>h (z ▸ hx)
     have hDg:D∉ga++gb:=fun z=>nD ((qA.mp z).elim (fun w=>qm _ w) fun w=>qk _ (qk _ w))
     have new:SRep K F (upd H D (.lst (xs.set m v))) (.ref D) (.lst (l.set m s)) (D::(ga++(fs++gb))):=.lst zai (sup (ne hDg) (sr.mono (zK.refl F) (ne hDs)))
     have a2:=up (F':=F) (H':=upd H D (.lst (xs.set m v))) (o:=some (.lst (l.set m s))) (u:=some (.ref D)) (zK.refl F) (fun x hx=>zag fun z=>(qA.mp hx).elim (fun w=>hDa (z ▸ w)) fun w=>hDb (z ▸ w)) (.so new .nil)
     rw [zcp hσ] at a2
     have sub:∃ l2,l2.Perm (fa++((D::(ga++(gi++gb)))++fb)++(fs++[]))/\List.Sublist (fa++((D::(ga++(fs++gb)))++[]++fb)) l2:=by
      refine ⟨fa++((D::(ga++(fs++(gi++gb))))++[]++fb),?_,?_⟩
      ·simp only [qC,qr,qR]
       refine List.Perm.append_left _ (List.Perm.cons _ (List.Perm.append_left _ ?_))
       exact qQ.trans (by simp)
      first | rfl | assumption | (simp_all; done)
     obtain ⟨l2,p,sb⟩:=sub
     refine ⟨zK.updR r.fr apD.1,fun x o w=>?_,_,a2,sb.nodup (p.nodup_iff.mpr nd),fun x hx=>ap x (p.mem_iff.mp (sb.subset hx))⟩
     have hx:x≠D:=fun z=>by rw [z,apD.2] at w; cases w
     rw [zag hx]
     exact r.gr x o w
end
theorem zdH (ho:FE X o (zF j)) (hi:FE X i wi) (he:FE X e we) (hs:swapsWithSole [.Subscript o i tpos] e pos.line X.env=pure false:=by rfl) (hw:swappedStores [.Subscript o i tpos] e X.env=pure none:=by rfl)
  (h1:(assignEach [.Subscript o i tpos] X.env).map (·.2)=[assign (.Subscript o i tpos) X.env]:=by rfl)
  (ha:∀ v,assign (.Subscript o i tpos) X.env v=(do
   let ov <- holding [v] (eval o X.env)
   let iv <- holding [v,ov] (eval i X.env)
   standAt tpos
   holding [v,ov,iv] (setItem ov iv v)
   release [v,ov,iv] []):=by intro _; rfl):FS X ks (.Assign [.Subscript o i tpos] e pos) (wSetIx j wi we):=fun pn xe hp=>by
 refine PS.imp (zk5 (X:=wp X pn xe) (he pn xe hp) (zpi (X:=wp X pn xe) (ho pn xe hp) (hi pn xe hp) zjr ha) hs hw h1) fun D σ H q=>?_
 obtain ⟨F,G,U,E,z4,hw,n,b,c,r,x⟩:=q
 have x0:XC (wp X pn xe) (·=σ) F G E.ex:=x.mono (fun σ2 z=>by rw [z]; exact KP.refl) (zK.refl F) (zK.refl G)
 refine ⟨F,G,U,_,_,z4,hw,fun r U1 v F1 H1 hk s1 r1 rv=>?_,x0⟩
 have l1:=len1 r1
 obtain ⟨G1,rel1,gg,back⟩:=r1.hide l1
 refine ⟨F1,G1,U1,_,_,rel1,hk,fun y U2 o' F2 H2 hk2 s2 r2 rv2=>?_,x0.mono (fun _ z=>z) s1 gg⟩
 have l2:=len1 r2
 obtain ⟨G2,rel2,gg2,back2⟩:=r2.hide l2
 refine ⟨F2,G2,U2,_,_,rel2,hk2,fun z U3 i' F3 H3 hk3 s3 r3 rv3=>?_,x0.mono (fun _ z=>z) (s1.trans s2) (gg.trans gg2)⟩
 have l3:=len1 r3
 obtain ⟨q,eq,hk3⟩:=zad hk3
 obtain ⟨⟨t,U4⟩,eg,hk4⟩:=zad hk3
 -- all three stand at the end
 have r4:=back (s2.trans s3) (back2 s3 r3)
 simp only [qr,qR,nil_append] at r4
 have ri:=look (U':=[zL y,zL r]) (σ':=[some o',some v]) r4 l3 rv3 eq
 have r5:Rel X.K (U3++[zL r]) (σ++[some v]) F3 G H3:=Rel.mid (U:=U3) (σ:=σ) (Rel.mid (U:=U3) (σ:=σ) r4 l3) l3
 obtain ⟨F4,s4,l4,r6⟩:=giveR (U':=[]) (σ':=[]) r5 l3 rv eg
 cases y with
 | v y0=>exact hk4.elim
 | loc k=>
   cases q with
   | int m=>
     cases qs:slot U4 j with
     | none=>simp only [qs] at hk4
     | some sj=>
       cases sj with
       | lst l=>
         simp only [qs] at hk4
         obtain ⟨rfl,hk4⟩:=hk4
         obtain ⟨w,ew,hnx⟩:=zad hk4
         have hσ:σ[k]?=some (some o'):=rv2
         obtain ⟨v',fp,e1,sr⟩:=r6.at (i:=k) (s:=.lst l) (by rw [zbV (zcb qs)]; exact qs)
         have hkl:k < σ.length:=(qi.mp hσ).1
         rw [getElem?_append_left hkl,hσ] at e1
         have e2:o'=v':=by simpa using e1
         subst e2
         have hw:w < l.length:=by
          unfold ixN at ew
          split at ew
          ·split at ew
           ·have e:=qh ew
            lia
           ·cases ew
          ·split at ew
           ·have e:=qh ew
            lia
           ·cases ew
         cases sr with
         | lst hD rl=>
           rename_i a xs fl
           obtain ⟨xs',hD',z5,r7⟩:=Rel.setItem r6 qs hσ hw
           rw [hD] at hD'
           cases hD'
           cases ri
           exact ⟨a,xs,m,w,rfl,rfl,hD,by rw [z5]; exact ew,n _ σ F4 _ hnx KP.refl (s1.trans (s2.trans (s3.trans s4))) r7⟩
       | _=>simp only [qs] at hk4
   | _=>exact hk4.elim
theorem zbY (ho:FE X o (zF j)) (he:FE X e we)
  (hbase:attributeBase o "append" X.env (eval o X.env)=eval o X.env:=by rfl)
  (hfew:((backTo cpos (starEach [e] X.env)).all (fun x=>!x.1) && (backToKw cpos (keywordEach [] X.env)).all (fun x=>x.1.isSome)
   && decide ([e].length + ([]:List Keyword).length + (if ([]:List Keyword).isEmpty then 0 else 1) < 30))=true:=by rfl)
  (hline:(apos.endLine == cpos.line)=true:=by rfl) (hs:starEach [e] X.env=[(false,eval e X.env)]:=by rfl):FE X (.Call (.Attribute o "append" apos) [e] [] cpos) (wAppend j we):=fun pn xe hp=>by
 refine PE.imp (zjx (X:=wp X pn xe) PySem.F.plainAttrs_list PySem.F.slot_list_append PySem.F.type_list_append zc0 (ho pn xe hp) (zaa he zab hs pn xe hp) hbase hfew hline hs rfl) fun σ H Q q=>?_
 obtain ⟨F,G,U,P,PX,z4,hw,hok,hx⟩:=q
 have hw':(match slot U j with
  | some (.lst _)=>we U (fun r U2=>zJ (give r U2) fun p=>(match slot p.2 j with
    | some (.lst l)=>l.length < big/\P (.v (.sh .non)) (p.2.set j (some (.lst (l++[p.1]))))
    | _=>False)) PX
  | _=>False):=hw
 cases qs:slot U j with
 | none=>rw [qs] at hw'; exact hw'.elim
 | some s0=>
   cases s0 with
   | lst l0=>
     rw [qs] at hw'
     refine ⟨F,G,U,fun y U1=>y=.loc j/\U1=U,PX,z4,by unfold zF; rw [qs]; exact ⟨rfl,rfl⟩,fun y U1 o' F1 H1 hk s1 r1 rv=>?_,hx⟩
     obtain ⟨rfl,rfl⟩:=hk
     have l1:=len1 r1
     have hσ:σ[j]?=some (some o'):=rv
     have r2:=r1.drop l1
     obtain ⟨v',fp,e1,sr⟩:=r2.at qs
     rw [hσ] at e1
     have e2:o'=v':=by simpa using e1
     subst e2
     cases sr with
     | lst hD rl=>
       rename_i a xs fl
       refine ⟨.inl ⟨rfl,_,SqL.of hD⟩,F1,G,U1,fun rs U2=>match rs with | [r]=>(zJ (give r U2) fun p=>match slot p.2 j with | some (.lst l)=>l.length < big/\P (.v (.sh .non)) (p.2.set j (some (.lst (l++[p.1])))) | _=>False) | _=>False,PX,r2,hw',fun rs U2 vs F2 H2 hk s2 r3 hl rvs=>?_,hx.grow s1⟩
       match rs,vs,rvs,r3,hk with
       | [r],[v],rvs,r3,hk=>
         dsimp only at hk
         obtain ⟨⟨t,U3⟩,eg,hk⟩:=zad hk
         obtain ⟨F3,s3,l3,r4⟩:=giveR (U':=[]) (σ':=[]) r3 hl rvs.1 eg
         dsimp only at hk
         split at hk
         ·rename_i l ql
          obtain ⟨ys,hD2,z5,r5⟩:=Rel.append r4 ql hσ
          exact ⟨a,ys,v,rfl,rfl,hD2,by rw [z5,zt]; exact lt_trans hk.1 (by decide),hok _ _ .non F3 _ hk.2 (s1.trans (s2.trans s3)) (r5.push .non) trivial⟩
         ·exact hk.elim
       | [],_,_,_,hk=>exact hk.elim
       | [_],[],rvs,_,_=>exact rvs.elim
       | [_],_::_::_,rvs,_,_=>exact rvs.2.elim
       | _::_::_,_,_,_,hk=>exact hk.elim
   | _=>rw [qs] at hw'; exact hw'.elim
section
variable {K:W.Frag}
def RepEs (K:W.Frag) (F H:Hp):List V->List D->Prop
 | [],[]=>True
 | v::vs,d::ds=>RepE K F H v d/\RepEs K F H vs ds
 | _,_=>False
theorem arg1 {b:List D->Option S} (h2:∀ x y r,b (x::y::r)=none) (h0:b []=none) (re:RepEs K F H vs ds) (e:b ds=some s):∃ d v,ds=[d]/\vs=[v]:=by
 cases ds with
 | nil=>rw [h0] at e; cases e
 | cons x ds=>
   cases ds with
   | cons y r=>rw [h2] at e; cases e
   | nil=>
     cases vs with
     | nil=>exact re.elim
     | cons v vs=>
       cases vs with
       | nil=>exact ⟨x,v,rfl,rfl⟩
       | cons u vs=>exact re.2.elim
theorem arg2 {b:List D->Option S} (h1:∀ x,b [x]=none) (h3:∀ x y z r,b (x::y::z::r)=none) (h0:b []=none) (re:RepEs K F H vs ds) (e:b ds=some s):∃ d d2 v u,ds=[d,d2]/\vs=[v,u]:=by
 cases ds with
 | nil=>rw [h0] at e; cases e
 | cons x ds=>
   cases ds with
   | nil=>rw [h1] at e; cases e
   | cons y ds=>
     cases ds with
     | cons z r=>rw [h3] at e; cases e
     | nil=>
       cases vs with
       | nil=>exact re.elim
       | cons v vs=>
         cases vs with
         | nil=>exact re.2.elim
         | cons u vs=>
           cases vs with
           | nil=>exact ⟨x,y,v,u,rfl,rfl⟩
           | cons u vs=>exact re.2.2.elim
theorem takeAll:∀ {rs:List R} {vs:List V} {ds:List D} {U U':Env} {F:Hp} {σ':St},Rel K (U++(rs.map zL++U')) (σ++(vs.map some++σ')) F G H->U.length=σ.length->RVs σ vs rs->(rs.mapM fun r=>zV r U)=some ds->
  ∃ F',zK F F'/\RepEs K F' H vs ds/\Rel K (U++U') (σ++σ') F' G H
 | [],[],ds,U,U',F,σ',r,h,_,e=>by
   have e':ds=[]:=by simpa using e.symm
   subst e'
   exact ⟨F,zK.refl F,trivial,r⟩
 | [],_::_,_,_,_,_,_,_,_,h,_=>h.elim
 | _::_,[],_,_,_,_,_,_,_,h,_=>h.elim
 | x::rs,v::vs,ds,U,U',F,σ',r,h,rv,e=>by
   rw [List.mapM_cons] at e
   cases q:zV x U with
   | none=>rw [q] at e; cases e
   | some d=>
     rw [q] at e
     cases q2:(rs.mapM fun r=>zV r U) with
     | none=>rw [q2] at e; cases e
     | some es=>
       rw [q2] at e
       have e':d::es=ds:=qh e
       subst e'
       obtain ⟨F1,s1,re,r1⟩:=takeC (U':=rs.map zL++U') (σ':=vs.map some++σ') r h rv.1 q
       obtain ⟨F2,s2,res,r2⟩:=takeAll (rs:=rs) (vs:=vs) r1 h rv.2 q2
       exact ⟨F2,s1.trans s2,⟨re.mono s2,res⟩,r2⟩
def DoesB (K:W.Frag) (r:List V->Hp->VK->Prop) (f:List D->Option S):Prop:=∀ (σ:St) (U:Env) (F G H:Hp) (vs:List V) (ds:List D) (s:S) (Q:VK),Rel K U σ F G H->RepEs K F H vs ds->f ds=some s->
 (∀ v F' H',zK F F'->Rel K (U++[some s]) (σ++[some v]) F' G H'->Q v H')->r vs H Q
end
section
variable {id T:String}
theorem zgj (hd:DoesB X.K r f) (σ:St) (H:Hp) (Q:VK) (q:tW (wp X pn xe) (wB f wa) σ H Q):tCB r (tWA (wp X pn xe) wa) σ H Q:=by
 refine (many (k:=fun rs U1 Q E=>zJ (rs.mapM fun r=>zV r U1) fun ds=>zJ (f ds) fun s=>Q (.v s) U1) q).mono fun vs H1 h1=>?_
 obtain ⟨F,G,U,rs,P,PX,z4,hl,rv,hk,hok,hx⟩:=h1
 obtain ⟨ds,ed,hk⟩:=zad hk
 obtain ⟨s,es,hk⟩:=zad hk
 obtain ⟨F1,s1,re,r1⟩:=takeAll (U':=[]) (σ':=[]) (by simpa using z4) hl rv ed
 exact hd σ U F1 G H1 vs ds s Q (by simpa using r1) re es fun v F' H' sm r'=>hok _ U v F' H' hk (s1.trans sm) r' trivial
theorem zba (hc:∀ pn xe,CallR (wp X pn xe) (.builtin id) r) (hd:DoesB X.K r f) (hg:Gl X x) (hm:X.mg x=none) (hv:bootBuiltins x=some (.builtin id)) (ha:FA X (e::es) wa) (hn:x≠"__name__":=by decide) (hdb:(x == ("__debug__":Str))=false:=by decide)
  (he:starEach (e::es) X.env=(false,eval e X.env)::starEach es X.env:=by rfl) (hpl:(backTo pos (starEach es X.env)).any (·.1)=false:=by rfl):FE X (.Call (.Name x p) (e::es) [] pos) (wB f wa):=fun pn xe hp=>
 PE.imp (zkI (X:=wp X pn xe) (hc pn xe) hg hm hv (ha pn xe hp) hn hdb he hpl) (zgj hd)
theorem zcR (hc:∀ pn xe,CallR (wp X pn xe) (.type T) r) (hd:DoesB X.K r f) (hg:Gl X x) (hm:X.mg x=none) (hv:bootBuiltins x=some (.type T)) (ha:FA X (e::es) wa) (hn:x≠"__name__":=by decide) (hdb:(x == ("__debug__":Str))=false:=by decide)
  (he:starEach (e::es) X.env=(false,eval e X.env)::starEach es X.env:=by rfl) (hpl:(backTo pos (starEach es X.env)).any (·.1)=false:=by rfl):FE X (.Call (.Name x p) (e::es) [] pos) (wB f wa):=fun pn xe hp=>
 PE.imp (zcW (X:=wp X pn xe) (hc pn xe) hg hm hv (ha pn xe hp) hn hdb he hpl) (zgj hd)
def rLen (K:W.Frag):List V->Hp->VK->Prop:=fun xs H Q=>(∃ p ys,xs=[.ref p]/\(SqL K H p ys\/SqT K H p ys)/\Q (.int ys.length) H)\/∃ z,xs=[.str z]/\z.length<=sizeLine/\Q (.int z.length) H
theorem CallR.or' {f:Value} (h:CallR X f r) (h':CallR X f r'):CallR X f (fun x H Q=>r x H Q\/r' x H Q):=fun zZ s σ H xs us Q I rr q=>q.elim (h zZ s σ H xs us Q I rr) (h' zZ s σ H xs us Q I rr)
theorem ziF:CallR X (.builtin "len") (rLen X.K):=CallR.or' zeM zeo
theorem zjF {K:W.Frag}:DoesB K (rLen K) bLen:=by
 intro σ U F G H vs ds s Q z4 re e hq
 obtain ⟨d,v,rfl,rfl⟩:=arg1 (fun x y r=>by cases x <;> rfl) rfl re e
 cases d with
 | str l=>
   cases e
   obtain ⟨x,rfl,e1,z⟩:=re.1.str
   exact .inr ⟨x,rfl,by rw [zcc e1,zt]; exact z,by rw [zcc e1]; exact hq _ F H (zK.refl F) (z4.push (.int _))⟩
 | tup l=>
   cases e
   obtain ⟨a,xs,rfl,h1,r1⟩:=re.1.tup
   exact .inl ⟨a,xs,rfl,.inr (SqT.of (z4.fr _ _ h1)),by rw [r1.len]; exact hq _ F H (zK.refl F) (z4.push (.int _))⟩
 | lst l=>
   cases e
   obtain ⟨a,xs,rfl,h1,r1⟩:=re.1.lst z4.fr
   exact .inl ⟨a,xs,rfl,.inl h1,by rw [r1.len]; exact hq _ F H (zK.refl F) (z4.push (.int _))⟩
 | _=>cases e
theorem zap (hg:Gl X "len") (hm:X.mg "len"=none) (ha:FA X (e::es) wa) (he:starEach (e::es) X.env=(false,eval e X.env)::starEach es X.env:=by rfl) (hpl:(backTo pos (starEach es X.env)).any (·.1)=false:=by rfl):FE X (.Call (.Name "len" p) (e::es) [] pos) (wB bLen wa):=
 zba (fun _ _=>ziF) zjF hg hm PySem.boot_len ha (by decide) (by decide) he hpl
end
section
variable {K:W.Frag}
def rInt:List V->Hp->VK->Prop:=fun xs H Q=>(∃ i,xs=[.int i]/\Q (.int i) H)\/∃ k,xs=[.bl k]/\Q (.int (if k then 1 else 0)) H
theorem RepE.bl (h:RepE K F H v (.bl b)):v=.bl b:=by
 rcases h with h | ⟨_,_,_,_,h,_⟩ | ⟨_,_,_,_,_,h,_⟩ | ⟨_,_,_,_,_,h,_⟩
 ·cases h; rfl
 ·cases h
 ·cases h
 ·cases h
theorem zho:DoesB K rInt bInt:=by
 intro σ U F G H vs ds s Q z4 re e hq
 obtain ⟨d,v,rfl,rfl⟩:=arg1 (fun x y r=>by cases x <;> rfl) rfl re e
 cases d with
 | int i=>
   cases e
   have:=re.1.int
   subst this
   exact .inl ⟨i,rfl,hq _ F H (zK.refl F) (z4.push (.int _))⟩
 | bl b=>
   cases e
   have:=re.1.bl
   subst this
   exact .inr ⟨b,rfl,hq _ F H (zK.refl F) (z4.push (.int _))⟩
 | _=>cases e
theorem zfr (hg:Gl X "int") (hm:X.mg "int"=none) (hv:bootBuiltins "int"=some (.type "int")) (ha:FA X (e::es) wa) (he:starEach (e::es) X.env=(false,eval e X.env)::starEach es X.env:=by rfl) (hpl:(backTo pos (starEach es X.env)).any (·.1)=false:=by rfl):FE X (.Call (.Name "int" p) (e::es) [] pos) (wB bInt wa):=
 zcR (fun _ _=>zhO) zho hg hm hv ha (by decide) (by decide) he hpl
def rTuple (K:W.Frag):List V->Hp->VK->Prop:=fun xs H Q=>∃ p ys,xs=[.ref p]/\((SqL K H p ys/\∀ l,H l=none->Q (.ref l) (upd H l (.tup ys)))\/(SqT K H p ys/\Q (.ref p) H))
theorem zgy:DoesB K (rTuple K) bTuple:=by
 intro σ U F G H vs ds s Q z4 re e hq
 obtain ⟨d,v,rfl,rfl⟩:=arg1 (fun x y r=>by cases x <;> rfl) rfl re e
 cases d with
 | tup l=>
   cases e
   obtain ⟨a,xs,rfl,h1,r1⟩:=re.1.tup
   exact ⟨a,xs,rfl,.inr ⟨SqT.of (z4.fr _ _ h1),hq _ F H (zK.refl F) (z4.push (.tup h1 r1))⟩⟩
 | lst l=>
   cases e
   obtain ⟨a,xs,rfl,h1,r1⟩:=re.1.lst z4.fr
   refine ⟨a,xs,rfl,.inl ⟨h1,fun p hp=>?_⟩⟩
   have n2:=(z4.free hp).1
   exact hq _ _ _ (zK.upd n2) ((z4.newF hp).push (.tup zai (r1.mono (zK.upd n2))))
 | _=>cases e
theorem zb1 (hg:Gl X "tuple") (hm:X.mg "tuple"=none) (hv:bootBuiltins "tuple"=some (.type "tuple")) (ha:FA X (e::es) wa) (he:starEach (e::es) X.env=(false,eval e X.env)::starEach es X.env:=by rfl) (hpl:(backTo pos (starEach es X.env)).any (·.1)=false:=by rfl):FE X (.Call (.Name "tuple" p) (e::es) [] pos) (wB bTuple wa):=
 zcR (fun _ _=>zdO) zgy hg hm hv ha (by decide) (by decide) he hpl
def rList (K:W.Frag):List V->Hp->VK->Prop:=fun xs H Q=>∃ p ys,xs=[.ref p]/\(SqL K H p ys\/SqT K H p ys)/\∀ l,H l=none->Q (.ref l) (upd H l (.lst ys))
theorem ze0:DoesB K (rList K) bList:=by
 intro σ U F G H vs ds s Q z4 re e hq
 obtain ⟨d,v,rfl,rfl⟩:=arg1 (fun x y r=>by cases x <;> rfl) rfl re e
 cases d with
 | tup l=>
   cases e
   obtain ⟨a,xs,rfl,h1,r1⟩:=re.1.tup
   exact ⟨a,xs,rfl,.inr (SqT.of (z4.fr _ _ h1)),fun p hp=>hq _ F _ (zK.refl F) (z4.newLD hp r1)⟩
 | lst l=>
   cases e
   obtain ⟨a,xs,rfl,h1,r1⟩:=re.1.lst z4.fr
   exact ⟨a,xs,rfl,.inl h1,fun p hp=>hq _ F _ (zK.refl F) (z4.newLD hp r1)⟩
 | _=>cases e
end
theorem zbG (h:keyD a=keyD b):a=b:=by
 cases a with
 | inl i=>cases b with
   | inl j=>have h':D.int i=D.int j:=h; cases h'; rfl
   | inr y=>have h':D.int i=D.str y.cps.toList:=h; cases h'
 | inr x=>cases b with
   | inl j=>have h':D.str x.cps.toList=D.int j:=h; cases h'
   | inr y=>
     have h':D.str x.cps.toList=D.str y.cps.toList:=h
     obtain ⟨⟨a⟩⟩:=x
     first | rfl | assumption | (simp_all; done)
theorem zbZ:∀ {a b:List Key},a.map keyD=b.map keyD->a=b
 | [],[],_=>rfl
 | [],_::_,h=>by simp at h
 | _::_,[],h=>by simp at h
 | x::a,y::b,h=>by
   rw [qB,qB] at h
   injection h with h1 h2
   rw [zbG h1,zbZ h2]
section
variable {K:W.Frag}
theorem zd2 (r:Rep K H x d) (h:isKey1 d=true):∃ k:Key,x=kV k/\d=keyD k:=by
 cases r with
 | int i=>exact ⟨.inl i,rfl,rfl⟩
 | str e z=>exact ⟨.inr _,rfl,by rw [<- e]; rfl⟩
 | _=>cases h
theorem zfv (r:zX K H xs l):l.all isKey1=true->∃ ks:List Key,xs=ks.map kV/\l=ks.map keyD:=
 zX.ind (P:=fun xs l=>l.all isKey1=true->∃ ks:List Key,xs=ks.map kV/\l=ks.map keyD) (fun _=>⟨[],rfl,rfl⟩) (fun a _ ih h=>by
  rw [all_cons,and_eq_true] at h
  obtain ⟨k,rfl,rfl⟩:=zd2 a h.1
  obtain ⟨ks,rfl,rfl⟩:=ih h.2
  exact ⟨k::ks,rfl,rfl⟩) r
open Classical in
theorem zcz {κ:Type} [DecidableEq κ] (g:κ->D) (hg:∀ a b,g a=g b->a=b):∀ (z3:List (κ×V)) (k:κ),(valV z3 k).isSome=decide (g k∈z3.map fun p=>g p.1)
 | [],k=>by simp [valV]
 | p::r,k=>by
   by_cases e:p.1=k
   ·rw [zbN e]
    have:g k∈(p::r).map fun p=>g p.1:=by rw [qB,e]; exact qp
    exact (qU this).symm
   ·rw [zb3 e,zcz g hg r k]
    have:(g k∈(p::r).map fun p=>g p.1)↔(g k∈r.map fun p=>g p.1):=by
     rw [qB,qD]
     exact ⟨fun z=>z.elim (fun w=>absurd (hg _ _ w).symm e) id,.inr⟩
    exact (decide_eq_decide.2 this).symm
open Classical in
theorem zc1 {κ:Type} [DecidableEq κ] (g:κ->D) (hg:∀ a b,g a=g b->a=b) {α:Type}:∀ (z3:List (κ×V)) (vs:List α) (k:κ) (P:V->α->Prop),z3.length=vs.length->(∀ (i:Nat) x y,(z3.map (·.2))[i]?=some x->vs[i]?=some y->P x y)->
  (lk (z3.map fun p=>g p.1) vs (g k)=none/\valV z3 k=none)\/∃ x y,valV z3 k=some x/\lk (z3.map fun p=>g p.1) vs (g k)=some y/\P x y
 | [],[],k,P,_,_=>.inl ⟨rfl,rfl⟩
 | [],_::_,_,_,h,_=>by simp at h
 | _::_,[],_,_,h,_=>by simp at h
 | p::r,v::vs,k,P,hl,h=>by
   by_cases e:p.1=k
   ·refine .inr ⟨p.2,v,zbN e,?_,h 0 p.2 v rfl rfl⟩
    show (if g p.1=g k then some v else lk (r.map fun p=>g p.1) vs (g k))=some v
    rw [zc (by rw [e])]
   ·have hne:¬ g p.1=g k:=fun z=>e (hg _ _ z)
    rw [zb3 e]
    have e2:lk ((p::r).map fun p=>g p.1) (v::vs) (g k)=lk (r.map fun p=>g p.1) vs (g k):=by
     show (if g p.1=g k then some v else lk (r.map fun p=>g p.1) vs (g k))=_
     rw [zi hne]
    rw [e2]
    exact zc1 g hg r vs k P (by simpa using hl) fun i x y h1 h2=>h (i + 1) x y (by simpa using h1) (by simpa using h2)
theorem zmc (r1:Rep K H x d) (r2:Rep K H (.ref a) (.dct t ks vs)) (hk:isKey t d=true):∃ o,DGet H a x o/\o.isSome=(open Classical in decide (d∈ks))/\
  ((lk ks vs d=none/\o=none)\/∃ v e,o=some v/\lk ks vs d=some e/\Rep K H v e):=by
 cases r2 with
 | dK e k r=>
   rename_i z3
   obtain ⟨key,rfl,rfl⟩:=zd2 r1 hk
   refine ⟨_,.inl ⟨z3,key,e,rfl,rfl⟩,?_,?_⟩
   ·rw [k]; exact zcz keyD (fun _ _=>zbG) z3 key
   ·rw [k]
    rcases zc1 keyD (fun _ _=>zbG) z3 vs key (fun v e=>Rep K H v e) (by have:=r.len; simpa using this) (fun i x y h1 h2=>by
     obtain ⟨x',hx',rx⟩:=r.get h2
     rw [h1] at hx'; cases hx'; exact rx) with ⟨h1,h2⟩ | ⟨v,e,h1,h2,h3⟩
    ·exact .inl ⟨h1,h2⟩
    ·exact .inr ⟨v,e,h1,h2,h3⟩
 | dT e k r=>
   rename_i z3
   cases r1 with
   | tup e1 q=>
     obtain ⟨keys,rfl,rfl⟩:=zfv q hk
     have inj:∀ a b:List Key,D.tup (a.map keyD)=D.tup (b.map keyD)->a=b:=fun a b z=>zbZ (D.tup.inj z)
     refine ⟨_,.inr ⟨z3,keys,_,e,rfl,e1,rfl⟩,?_,?_⟩
     ·rw [k]; exact zcz (fun l=>D.tup (l.map keyD)) inj z3 keys
     ·rw [k]
      rcases zc1 (fun l=>D.tup (l.map keyD)) inj z3 vs keys (fun v e=>Rep K H v e) (by have:=r.len; simpa using this) (fun i x y h1 h2=>by
       obtain ⟨x',hx',rx⟩:=r.get h2
       rw [h1] at hx'; cases hx'; exact rx) with ⟨h1,h2⟩ | ⟨v,e,h1,h2,h3⟩
      ·exact .inl ⟨h1,h2⟩
      ·exact .inr ⟨v,e,h1,h2,h3⟩
   | _=>cases hk
def rInDict (neg:Bool):R2:=fun x y H Q=>∃ a o,y=.ref a/\DGet H a x o/\Q (.bl (if neg then !o.isSome else o.isSome)) H
theorem zhY (hu:X.A.units + 1 < cLine):OpR X (compareOp .In) (rInDict false):=by
 intro zZ s σ H x y v u Q I rx ry h
 obtain ⟨a,o,rfl,g,q⟩:=h
 cases ry
 exact d_in hu I g rx fun s' I'=>⟨.bl _,H,I',rfl,q⟩
theorem zeX (hu:X.A.units + 1 < cLine):OpR X (compareOp .NotIn) (rInDict true):=by
 intro zZ s σ H x y v u Q I rx ry h
 obtain ⟨a,o,rfl,g,q⟩:=h
 cases ry
 exact zmd hu I g rx fun s' I'=>⟨.bl _,H,I',rfl,q⟩
def rInAll (K:W.Frag) (neg:Bool):R2:=fun x y H Q=>rInD K neg x y H Q\/rInDict neg x y H Q
theorem zkd (hu:X.A.units + 32 < cLine):OpR X (compareOp .In) (rInAll X.K false):=FL.OpR.or (zoU hu) (zhY (by lia))
theorem zfa (hu:X.A.units + 32 < cLine):OpR X (compareOp .NotIn) (rInAll X.K true):=FL.OpR.or (ziu hu) (zeX (by lia))
open Classical in
theorem zl5 (r1:Rep K H x p) (r2:Rep K H y q) (e:cIn p q=some k) (hq:Q (.bl (if neg then !k else k)) H):rInAll K neg x y H Q:=by
 unfold cIn at e
 split at e
 ·rename_i l
  split at e
  ·cases e
  ·rename_i h
   have e':=qh e
   subst e'
   refine .inl ⟨p,l,r1,.inl r2,fun d hd=>?_,hq⟩
   grind
 ·rename_i l
  split at e
  ·cases e
  ·rename_i h
   have e':=qh e
   subst e'
   refine .inl ⟨p,l,r1,.inr r2,fun d hd=>?_,hq⟩
   grind
 ·rename_i t ks vs
  split at e
  ·rename_i h
   have e':=qh e
   cases y with
   | ref a=>
     obtain ⟨o,g,ho,_⟩:=zmc r1 r2 h
     refine .inr ⟨a,o,rfl,g,?_⟩
     rw [ho,e']
     exact hq
   | _=>cases r2
  ·cases e
 ·cases e
end
open PySem.Builtin.Str (strSliceIndices)
theorem zb4 (n d:Nat) (o:Option Int):HT.sIx n d o=FL.sIx n d o:=by cases o <;> rfl
theorem zix (n d:Nat) (hd:d<=n) (o:Option Int):FL.sIx n d o<=n:=by rw [<- zb4]; exact HT.sIx_le n d hd o
def cutS (z:Str) (lo hi:Option Int):Str:=⟨(cutL z.cps.toList lo hi).toArray⟩
theorem zgY (lo hi:Option Int) (n:Nat):strSliceIndices lo hi 1 n=(List.range (FL.sIx n n hi - FL.sIx n 0 lo)).map (FL.sIx n 0 lo + ·):=by
 rw [<- sliceRange_one]
 unfold strSliceIndices
 cases lo <;> cases hi <;> simp only [show (1:Int) > 0 by decide,if_true,FL.sIx,clipI] <;> rfl
theorem zit (x:Str) (lo hi:Option Int):Txt.slice x lo hi=cutS x lo hi:=by
 have z5:x.length=x.cps.toList.length:=by show x.cps.size=_; rw [qY]
 unfold Txt.slice cutS cutL
 rw [zgY,pick_run,<- z5]
 split
 ·rename_i h
  simp only [beq_self_eq_true,Bool.true_and,qq,qG,beq_iff_eq] at h
  have h1:=zix x.length x.length (zj _) hi
  have h2:FL.sIx x.length 0 lo=0\/x.length=0:=by lia
  have h3:FL.sIx x.length 0 lo=0:=h2.elim id fun z=>by have:=zix x.length 0 (zero_le _) lo; lia
  rw [h,h3,drop_zero,take_of_length_le (by rw [z5]; exact zj _)]
 ·rfl
def rSlS:V->Option Int->Option Int->Hp->VK->Prop:=fun x lo hi H Q=>∃ z,x=.str z/\z.length<=sizeLine/\Q (.str (cutS z lo hi)) H
theorem zhR (p:IsPart v o):∃ l:Option (Int×Tok),v=partValue l/\o=l.map (·.1):=by
 cases p with
 | none=>exact ⟨none,rfl,rfl⟩
 | int i t=>exact ⟨some (i,t),rfl,rfl⟩
theorem znD:SlR X rSlS:=by
 intro zZ s σ H x v vl vu lo hi sl Q I rx hs pl pu h
 obtain ⟨z,rfl,hz,q⟩:=h
 obtain ⟨t,rfl⟩:=rx
 obtain ⟨l,rfl,rfl⟩:=zhR pl
 obtain ⟨u,rfl,rfl⟩:=zhR pu
 rw [<- zit] at q
 exact ⟨"str",_,F.slot_str_getitem.lookup,typeIs_str _ _ _,wpAny_getItem_str_slice (l:=l) (u:=u) (st:=none) hs rfl
  (post_val_or_str ⟨le_trans (Txt.slice_le z _ _) hz,fun t' k=>⟨.str (Txt.slice z (l.map (·.1)) (u.map (·.1))),H,I.tok _,⟨_,rfl⟩,q⟩⟩)⟩
def rSlW (K:W.Frag):V->Option Int->Option Int->Hp->VK->Prop:=fun x lo hi H Q=>∃ a xs,x=.ref a/\SqT K H a xs/\
 (HT.sIx xs.length 0 lo=0/\HT.sIx xs.length xs.length hi=xs.length)/\Q (.ref a) H
theorem zbC {items:Array Value} {lo hi:Option Int} (ht:IsTup s.heap t items) (hs:s.heap.IsSliceOf sl vl vu .none) (pl:IsPart vl lo) (pu:IsPart vu hi)
  (hw:HT.sIx items.size 0 lo=0/\HT.sIx items.size items.size hi=items.size) (h:Q (.ref t) s):wpAny (model prog w) A (getItem (.ref t) (.ref sl)) Q E s:=by
 obtain ⟨os,hos,hcs,hds⟩:=id hs
 have hTs:s.TypeIs (.ref sl) "slice":=⟨os,hos,hcs⟩
 unfold getItem
 try with_reducible refine zv ?_
 first | refine qa (qb ?_) | skip
 refine qa (wpAny_sequenceKey ht.typeIs (by decide) ?_)
 refine qa (wpAny_callSpecial?_slot (name:=Str.ofString "__getitem__") ht.typeIs PyProof.Rows.slot_tuple_getitem
  (zr PyProof.Rows.slot_tuple_getitem ht.typeIs entry_tuple_getitem ?_ (args_tuple_getitem _ _)))
 show wpAny _ _ (Builtin.Tuple.tupleItemsOf (.ref t) >>= _) _ _ s
 refine qa (tupleItemsOf_ ht ?_)
 refine qa (wpAny_typeOf hTs ?_)
 rw [zc (by decide)]
 refine qa (HT.sliceApplied_gen hs pl pu ?_)
 have hyes:(((HT.sIx items.size 0 lo:Nat):Int) == 0 && (1:Int) == 1 && (HT.sIx items.size items.size hi - HT.sIx items.size 0 lo) == items.size)=true:=by
  rw [hw.1,hw.2]; simp
 show wpAny _ _ (if (((HT.sIx items.size 0 lo:Nat):Int) == 0 && (1:Int) == 1 && (HT.sIx items.size items.size hi - HT.sIx items.size 0 lo) == items.size)=true then _ else _) _ _ s
 rw [zc hyes]
 unfold Builtin.Tuple.tupleIsExact
 refine qa (qa (wpAny_typeOf ht.typeIs (qb ?_)))
 rw [zc (by decide)]
 first
  | exact qa (wpAny_rule (qb ⟨_,rfl,qb h⟩))
  | exact qa (qb (qb ⟨_,rfl,qb h⟩))
  | exact qb ⟨_,rfl,qb h⟩
theorem zjq:SlR X (rSlW X.K):=by
 intro zZ s σ H x v vl vu lo hi sl Q I rx hs pl pu h
 obtain ⟨a,xs,rfl,hx,hw,q⟩:=h
 cases rx
 obtain ⟨z6,r,ht,hz⟩:=I.tuple hx
 have z5:z6.toArray.size=xs.length:=by rw [qu]; exact r.length.symm
 refine ⟨"tuple",_,PyProof.Rows.slot_tuple_getitem.lookup,ht.typeIs,?_⟩
 exact zbC ht hs pl pu (by rw [z5]; exact hw) ⟨.ref a,H,I,rfl,q⟩
section
variable {K:W.Frag}
theorem zX.drop:∀ {xs:List V} {l:List D} (n:Nat),zX K F xs l->zX K F (xs.drop n) (l.drop n)
 | _,_,0,r=>by rw [drop_zero,drop_zero]; exact r
 | _,_,n + 1,.nil=>by rw [List.drop_nil,List.drop_nil]; exact .nil
 | _,_,n + 1,.cons a b=>by rw [List.drop_succ_cons,List.drop_succ_cons]; exact zX.drop n b
theorem zX.take:∀ {xs:List V} {l:List D} (n:Nat),zX K F xs l->zX K F (xs.take n) (l.take n)
 | _,_,0,r=>by rw [take_zero,take_zero]; exact .nil
 | _,_,n + 1,.nil=>by rw [take_nil,take_nil]; exact .nil
 | _,_,n + 1,.cons a b=>by rw [List.take_succ_cons,List.take_succ_cons]; exact .cons a (zX.take n b)
theorem zX.cut {lo hi:Option Int} (r:zX K F xs l):zX K F (cutV xs lo hi) (cutL l lo hi):=by
 unfold cutV cutL
 rw [zb4,zb4,r.len]
 exact (r.drop _).take _
def rSl (K:W.Frag):V->Option Int->Option Int->Hp->VK->Prop:=fun x lo hi H Q=>rSlL K x lo hi H Q\/rSlT K x lo hi H Q\/rSlW K x lo hi H Q\/rSlS x lo hi H Q
theorem zie:SlR X (rSl X.K):=SlR.or zlM (SlR.or zpw (SlR.or zjq znD))
theorem zlv {lo hi:Option Int} (z4:Rel K U σ F G H) (re:RepE K F H v d) (e:slD d lo hi=some s)
  (hq:∀ v F' H',zK F F'->Rel K (U++[some s]) (σ++[some v]) F' G H'->Q v H'):rSl K v lo hi H Q:=by
 cases d with
 | str l=>
   cases e
   obtain ⟨x,rfl,h1,h2⟩:=re.str
   subst h1
   refine .inr (.inr (.inr ⟨x,rfl,?_,hq _ F H (zK.refl F) (z4.push (.str rfl ?_))⟩))
   ·have:x.length=x.cps.toList.length:=by show x.cps.size=_; rw [qY]
    rw [this]; exact h2
   ·refine le_trans ?_ h2
    unfold cutL
    rw [qK,qJ]
    lia
 | tup l=>
   cases e
   obtain ⟨a,xs,rfl,h1,r1⟩:=re.tup
   by_cases hw:HT.sIx xs.length 0 lo=0/\HT.sIx xs.length xs.length hi=xs.length
   ·refine .inr (.inr (.inl ⟨a,xs,rfl,SqT.of (z4.fr _ _ h1),hw,hq _ F H (zK.refl F) (z4.push ?_)⟩))
    have:cutL l lo hi=l:=by
     unfold cutL
     rw [<- r1.len,<- zb4,<- zb4,hw.1,hw.2,drop_zero,take_of_length_le (by rw [<- r1.len]; lia)]
    rw [this]
    exact .tup h1 r1
   ·refine .inr (.inl ⟨a,xs,rfl,SqT.of (z4.fr _ _ h1),hw,fun p hp=>?_⟩)
    have n2:=(z4.free hp).1
    exact hq _ _ _ (zK.upd n2) ((z4.newF hp).push (.tup zai (r1.cut.mono (zK.upd n2))))
 | lst l=>
   cases e
   obtain ⟨a,xs,rfl,h1,r1⟩:=re.lst z4.fr
   exact .inl ⟨a,xs,rfl,h1,fun p hp=>hq _ F _ (zK.refl F) (z4.newLD hp r1.cut)⟩
 | _=>cases e
end
theorem nextOf (r1:Rel X.K (U1++[zL x]) (σ++[some v]) F G H1) (rv1:RV σ v x) (hp1:wb U1 (fun y U2=>k x y U2 P PX) PX)
  (hok:∀ r U' v F' H',P r U'->zK F F'->Rel X.K (U'++[zL r]) (σ++[some v]) F' G H'->RV σ v r->Q v H') (hx:XC X (·=σ) F G PX):tW X wb σ H1 fun u H2=>Two X σ k Q v u H2:=by
 have h1:=len1 r1
 obtain ⟨G1,rel1,gg,back⟩:=r1.hide h1
 refine ⟨F,G1,U1,_,PX,rel1,hp1,fun y U2 u F2 H2 hp2 s2 r2 rv2=>?_,hx.mono (fun _ z=>z) (zK.refl F) gg⟩
 have h2:=len1 r2
 have r3:=back s2 r2
 rw [qr,qr] at r3
 exact ⟨F2,G,U2,x,y,P,PX,Rel.swap (U1:=[zL y]) (σ1:=[some u]) (U2:=[zL x]) (σ2:=[some v]) h2 rfl r3,h2,rv1,rv2,hp2,fun r U' v F' H' a b c d=>hok r U' v F' H' a (s2.trans b) c d,hx.grow s2⟩
theorem match_int {U:Env} {o:Option D} {k:Int->Prop} (h:(match o with | some (.int i)=>k i | _=>False)):∃ i,o=some (.int i)/\k i:=by
 split at h
 ·exact ⟨_,rfl,h⟩
 ·exact h.elim
theorem zhs {K:W.Frag} {U:Env} {σ:St} {F G H:Hp} {x y:R} {v u:V} {lo hi:Option Int} {P:WQ} {Q:VK} {q:D} (z4:Rel K (U++[zL x,zL y]) (σ++[some v,some u]) F G H) (hl:U.length=σ.length) (rx:RV σ v x)
  (hk:zJ (zV x U) fun d=>zJ (slD d lo hi) fun s=>P (.v s) U)
  (hok:∀ r U' v F' H',P r U'->zK F F'->Rel K (U'++[zL r]) (σ++[some v]) F' G H'->RV σ v r->Q v H'):rSl K v lo hi H Q:=by
 obtain ⟨d,ed,hk⟩:=zad hk
 obtain ⟨s,es,hk⟩:=zad hk
 have relx:Rel K (U++[zL x]) (σ++[some v]) F G H:=by
  have:=Rel.swap (U1:=[zL x]) (σ1:=[some v]) (U2:=[zL y]) (σ2:=[some u]) hl rfl z4
  exact Rel.mid (U:=U) (σ:=σ) this hl
 obtain ⟨F1,s1,re,r1⟩:=takeC (U':=[]) (σ':=[]) relx hl rx ed
 exact zlv (U:=U) (σ:=σ) (by simpa using r1) re es fun v F' H' sm r'=>hok _ U v F' H' hk (s1.trans sm) r' trivial
theorem zeI (ha:FE X a wa) (hb:FE X b wb):FE X (.Subscript a (.Slice (some b) none none p2) pos) (wSl wa (some wb) none):=fun pn xe hp=>by
 refine PE.imp (zdK (zie (X:=wp X pn xe)) (ha pn xe hp) (zdC (hb pn xe hp)) zha) fun σ H Q q=>?_
 refine (two (k:=fun x y U2 Q E=>match view y U2 with
  | some (.int i)=>zJ (zV x U2) fun d=>zJ (slD d (some i) none) fun s=>Q (.v s) U2
  | _=>False) q).mono fun v H1 h1=>h1.mono fun u H2 h2=>?_
 obtain ⟨F,G,U,x,y,P,PX,z4,hl,rx,ry,hk,hok,hx⟩:=h2
 obtain ⟨i,ei,hk⟩:=match_int (U:=U) (k:=fun i=>zJ (zV x U) fun d=>zJ (slD d (some i) none) fun s=>P (.v s) U) hk
 have ru:=look (U':=[]) (σ':=[]) (z4.mid hl) hl ry ei
 cases ru
 exact ⟨i,rfl,zhs (q:=.non) z4 hl rx hk hok⟩
theorem zdp (ha:FE X a wa) (hb:FE X b wb):FE X (.Subscript a (.Slice none (some b) none p2) pos) (wSl wa none (some wb)):=fun pn xe hp=>by
 refine PE.imp (zdK (zie (X:=wp X pn xe)) (ha pn xe hp) zha (zdC (hb pn xe hp))) fun σ H Q q=>?_
 refine (two (k:=fun x y U2 Q E=>match view y U2 with
  | some (.int i)=>zJ (zV x U2) fun d=>zJ (slD d none (some i)) fun s=>Q (.v s) U2
  | _=>False) q).mono fun v H1 h1=>h1.mono fun u H2 h2=>?_
 obtain ⟨F,G,U,x,y,P,PX,z4,hl,rx,ry,hk,hok,hx⟩:=h2
 obtain ⟨i,ei,hk⟩:=match_int (U:=U) (k:=fun i=>zJ (zV x U) fun d=>zJ (slD d none (some i)) fun s=>P (.v s) U) hk
 have ru:=look (U':=[]) (σ':=[]) (z4.mid hl) hl ry ei
 cases ru
 exact ⟨i,rfl,zhs (q:=.non) z4 hl rx hk hok⟩
theorem zfN (ha:FE X a wa) (hb:FE X b wb) (hc:FE X c wc):FE X (.Subscript a (.Slice (some b) (some c) none p2) pos) (wSl wa (some wb) (some wc)):=fun pn xe hp=>by
 refine PE.imp (zdK (zie (X:=wp X pn xe)) (ha pn xe hp) (zdC (hb pn xe hp)) (zdC (hc pn xe hp))) fun σ H Q q=>?_
 refine (two (k:=fun x y U2 Q E=>match view y U2 with
  | some (.int i)=>wc U2 (fun z U3=>match view z U3 with
    | some (.int j)=>zJ (zV x U3) fun d=>zJ (slD d (some i) (some j)) fun s=>Q (.v s) U3
    | _=>False) E
  | _=>False) q).mono fun v H1 h1=>h1.mono fun u H2 h2=>?_
 obtain ⟨F,G,U,x,y,P,PX,z4,hl,rx,ry,hk,hok,hx⟩:=h2
 obtain ⟨i,ei,hk⟩:=match_int (U:=U) (k:=fun i=>wc U (fun z U3=>match view z U3 with
   | some (.int j)=>zJ (zV x U3) fun d=>zJ (slD d (some i) (some j)) fun s=>P (.v s) U3
   | _=>False) PX) hk
 have ru:=look (U':=[]) (σ':=[]) (z4.mid hl) hl ry ei
 cases ru
 have relx:Rel X.K (U++[zL x]) (σ++[some v]) F G H2:=by
  have:=Rel.swap (U1:=[zL x]) (σ1:=[some v]) (U2:=[zL y]) (σ2:=[some (.int i)]) hl rfl z4
  exact Rel.mid (U:=U) (σ:=σ) this hl
 refine ⟨i,rfl,(nextOf (X:=wp X pn xe) (k:=fun x z U3 P PX=>match view z U3 with
   | some (.int j)=>zJ (zV x U3) fun d=>zJ (slD d (some i) (some j)) fun s=>P (.v s) U3
   | _=>False) relx rx hk hok hx).mono fun t H3 h3=>?_⟩
 obtain ⟨F,G,U,x,y,P,PX,z4,hl,rx,ry,hk,hok,hx⟩:=h3
 obtain ⟨j,ej,hk⟩:=match_int (U:=U) (k:=fun j=>zJ (zV x U) fun d=>zJ (slD d (some i) (some j)) fun s=>P (.v s) U) hk
 have ru:=look (U':=[]) (σ':=[]) (z4.mid hl) hl ry ej
 cases ru
 exact ⟨j,rfl,zhs (q:=.non) z4 hl rx hk hok⟩
end FL
namespace FL
open PySem
def wMS (f:List Nat->List D->Option S) (o:WE) (a:WA):WE:=fun U Q E=>o U (fun x U1=>match x with
 | .v (.sh (.str l))=>a U1 (fun rs U2=>zJ (rs.mapM fun r=>zV r U2) fun ds=>zJ (f l ds) fun s=>Q (.v s) U2) E
 | _=>False) E
def strsD:List D->Option (List (List Nat))
 | []=>some []
 | .str x::r=>(strsD r).map (x::·)
 | _::_=>none
@[simp] theorem zeu (l:List (List Nat)):strsD (l.map .str)=some l:=by
  induction l with
  | nil=>rfl
  | cons a r ih=>rw [qB,strsD,ih]; rfl
def joinD (sep:List Nat):List (List Nat)->List Nat
 | []=>[]
 | [x]=>x
 | x::r=>x++sep++joinD sep r
theorem zcj (sep:List Nat):∀ ys:List (List Nat),(joinD sep ys).length<=(ys.map List.length).sum + ys.length * sep.length
 | []=>zero_le _
 | [x]=>by simp [joinD]
 | x::y::r=>by
   have:=zcj sep (y::r)
   rw [joinD,qt,qt,qB,sum_cons,qv (a:=x),Nat.succ_mul]
   ·lia
   ·intro h; cases h
theorem zid (ys:List (List Nat)):joinD [] ys=ys.flatten:=by
 induction ys with
 | nil=>rfl
 | cons x r ih=>
   cases r with
   | nil=>simp [joinD]
   | cons y r=>rw [joinD,ih]; simp; intro h; cases h
def joinS (sep:List Nat) (l:List D):Option S:=(strsD l).bind fun ys=>if (ys.map List.length).sum + ys.length * sep.length<=big then some (.sh (.str (joinD sep ys))) else none
def mJoin (sep:List Nat):List D->Option S
 | [.lst l]=>joinS sep l
 | [.tup l]=>joinS sep l
 | _=>none
def wPopAt (j:Nat) (e:WE):WE:=fun U Q E=>match slot U j with
 | some (.lst _)=>e U (fun r U2=>match view r U2,slot U2 j with
   | some (.int i),some (.lst l)=>zJ (if l.length<=big then ixN l.length i else none) fun k=>zJ l[k]? fun s=>Q (.v s) (U2.set j (some (.lst (l.eraseIdx k))))
   | _,_=>False) E
 | _=>False
def bools:List D->Option (List Bool)
 | []=>some []
 | .bl x::r=>(bools r).map (x::·)
 | _::_=>none
@[simp] theorem zhI (l:List Bool):bools (l.map .bl)=some l:=by
  induction l with
  | nil=>rfl
  | cons a r ih=>rw [qB,bools,ih]; rfl
def bAll:List D->Option S
 | [.lst l]=>(bools l).map fun bs=>.sh (.bl (bs.all id))
 | _=>none
end FL
namespace FL
open PySem PySem.Spec PyProof.Rows L2
section
variable {id:String}
def DoesMS (K:W.Frag) (r:V->List V->Hp->VK->Prop) (f:List Nat->List D->Option S):Prop:=∀ (σ:St) (U:Env) (F G H:Hp) (x:Str) (vs:List V) (ds:List D) (s:S) (Q:VK),Rel K U σ F G H->x.cps.toList.length<=16777216->RepEs K F H vs ds->f x.cps.toList ds=some s->
 (∀ v F' H',zK F F'->Rel K (U++[some s]) (σ++[some v]) F' G H'->Q v H')->r (.str x) vs H Q
theorem zr3 (hm:∀ pn xe,MtM (wp X pn xe) id r) (hd:DoesMS X.K r f) (slot:Slot "str" name id) (hty:typeOf (.builtin id)=pure (.type "method_descriptor")) (ho:FE X o wo) (ha:FA X (e::es) wa)
  (hbase:attributeBase o name X.env (eval o X.env)=eval o X.env:=by rfl)
  (hfew:((backTo cpos (starEach (e::es) X.env)).all (fun x=>!x.1) && (backToKw cpos (keywordEach [] X.env)).all (fun x=>x.1.isSome)
   && decide ((e::es).length + ([]:List Keyword).length + (if ([]:List Keyword).isEmpty then 0 else 1) < 30))=true:=by rfl)
  (hline:(apos.endLine == cpos.line)=true:=by rfl) (hs:starEach (e::es) X.env=(false,eval e X.env)::starEach es X.env:=by rfl) (hplain:(backTo cpos (starEach es X.env)).any (·.1)=false:=by rfl):
  FE X (.Call (.Attribute o name apos) (e::es) [] cpos) (wMS f wo wa):=fun pn xe hp=>by
 refine PE.imp (zjx (X:=wp X pn xe) PySem.F.plainAttrs_str slot hty (hm pn xe) (ho pn xe hp) (ha pn xe hp) hbase hfew hline hs hplain) fun σ H Q q=>?_
 refine (one (k:=fun x U1 Q E=>match x with
  | .v (.sh (.str l))=>wa U1 (fun rs U2=>zJ (rs.mapM fun r=>zV r U2) fun ds=>zJ (f l ds) fun s=>Q (.v s) U2) E
  | _=>False) q).mono fun v H1 h1=>?_
 obtain ⟨F,G,U,x,P,PX,z4,hl,rx,hk,hok,hx⟩:=h1
 split at hk
 ·rename_i l
  have rp:=look (U':=[]) (σ':=[]) (x:=.v (.sh (.str l))) z4 hl rx rfl
  cases rp with
  | str e1 z=>
    rename_i y
    subst e1
    refine ⟨rfl,F,G,U,_,PX,z4.drop hl,hk,fun rs U2 vs F2 H2 hk2 s2 r2 hl2 rvs=>?_,hx⟩
    obtain ⟨ds,ed,hk2⟩:=zad hk2
    obtain ⟨s,es,hk2⟩:=zad hk2
    obtain ⟨F3,s3,re,r3⟩:=takeAll (U':=[]) (σ':=[]) (by simpa using r2) hl2 rvs ed
    exact hd σ U2 F3 G H2 y vs ds s Q (by simpa using r3) z re es fun v F' H' sm r'=>hok _ U2 v F' H' hk2 (s2.trans (s3.trans sm)) r' trivial
 ·exact hk.elim
end
section
variable {K:W.Frag}
theorem zhQ (r:zX K F xs l) (h:strsD l=some ys):∃ zs:List Str,xs=zs.map V.str/\ys=zs.map fun z=>z.cps.toList:=
 zX.ind (P:=fun xs l=>∀ ys,strsD l=some ys->∃ zs:List Str,xs=zs.map V.str/\ys=zs.map fun z=>z.cps.toList) (fun ys h=>by cases h; exact ⟨[],rfl,rfl⟩) (fun a _ ih ys h=>by
  cases a with
  | @str x _ e z=>
    rw [strsD] at h
    obtain ⟨ys',h1,rfl⟩:=q8.mp h
    obtain ⟨zs,rfl,rfl⟩:=ih _ h1
    exact ⟨x::zs,rfl,by rw [qB,e]⟩
  | _=>cases h) r ys h
theorem zgg (sep:Str):∀ zs:List Str,(Str.join sep zs).cps.toList=joinD sep.cps.toList (zs.map fun z=>z.cps.toList)
 | []=>rfl
 | [x]=>rfl
 | x::y::r=>by
   show ((x++sep++Str.join sep (y::r):Str)).cps.toList=x.cps.toList++sep.cps.toList++joinD sep.cps.toList ((y::r).map fun z=>z.cps.toList)
   rw [<- zgg sep (y::r)]
   show (x.cps++sep.cps++(Str.join sep (y::r)).cps).toList=_
   rw [toList_append,toList_append]
theorem zca:∀ {us:List Value},zW (ys.map V.str) us->StrsAre us ys:=by
 induction ys with
 | nil=>intro us r; rw [map_nil] at r; cases r; exact .nil
 | cons n ns ih=>
   intro us r
   rw [qB] at r
   cases r with
   | cons r1 r2=>
     obtain ⟨t,e⟩:=r1
     subst e
     exact .cons n t (ih r2)
def rJoin (K:W.Frag):V->List V->Hp->VK->Prop:=fun x vs H Q=>∃ z a ys,x=.str z/\vs=[.ref a]/\(SqL K H a (ys.map V.str)\/SqT K H a (ys.map V.str))/\(ys.map (·.length)).sum + ys.length * z.length<=16777216/\Q (.str (Str.join z ys)) H
theorem zlx:MtM X "str.join" (rJoin X.K):=by
 intro zZ s σ H x vs v us Q I rx rv h
 obtain ⟨z,a,ys,rfl,rfl,hq,hz,q⟩:=h
 obtain ⟨t,rfl⟩:=rx
 cases rv with
 | cons r1 r2=>
   cases r2
   cases r1
   have e:Txt.join z ys=Str.join z ys:=StrLaws.glued_eq_join z ys
   rcases hq with hq | hq
   ·obtain ⟨z6,r,pl,_⟩:=I.list hq
    exact join_list pl.isList (zca r) hz fun t' k=>⟨.str (Str.join z ys),H,I.tok _,⟨_,by rw [e]⟩,q⟩
   ·obtain ⟨z6,r,pl,_⟩:=I.tuple hq
    exact join_tuple pl (zca r) hz fun t' k=>⟨.str (Str.join z ys),H,I.tok _,⟨_,by rw [e]⟩,q⟩
theorem zeY (z4:Rel K U σ F G H) (hq:SqL K H a xs\/SqT K H a xs) (r:zX K F xs l) (e:joinS x.cps.toList l=some s)
  (k:∀ v F' H',zK F F'->Rel K (U++[some s]) (σ++[some v]) F' G H'->Q v H'):rJoin K (.str x) [.ref a] H Q:=by
 unfold joinS at e
 obtain ⟨ys,e1,e2⟩:=Option.bind_eq_some_iff.mp e
 obtain ⟨zs,rfl,rfl⟩:=zhQ r e1
 split at e2
 ·rename_i hz
  cases e2
  have hl:∀ z:Str,z.cps.toList.length=z.length:=fun z=>by rw [qY]; rfl
  have e3:((zs.map fun z=>z.cps.toList).map List.length)=zs.map (·.length):=by rw [qH]; exact map_congr_left fun z _=>hl z
  have hz2:=hz
  rw [e3,qq,hl] at hz
  refine ⟨x,a,zs,rfl,rfl,hq,le_trans hz (by decide),k _ F H (zK.refl F) (z4.push (.str (zgg x zs) ?_))⟩
  exact le_trans (zcj _ _) (le_trans hz2 (by decide))
 ·cases e2
theorem zil:DoesMS K (rJoin K) mJoin:=by
 intro σ U F G H x vs ds s Q z4 hz re e hq
 obtain ⟨d,v,rfl,rfl⟩:=arg1 (fun x y r=>by cases x <;> rfl) rfl re e
 cases d with
 | tup l=>
   obtain ⟨a,xs,rfl,h1,r1⟩:=re.1.tup
   exact zeY z4 (.inr (SqT.of (z4.fr _ _ h1))) r1 e hq
 | lst l=>
   obtain ⟨a,xs,rfl,h1,r1⟩:=re.1.lst z4.fr
   exact zeY z4 (.inl h1) r1 e hq
 | _=>cases e
end
theorem zic (ho:FE X o wo) (ha:FA X [e] wa)
  (hbase:attributeBase o "join" X.env (eval o X.env)=eval o X.env:=by rfl)
  (hfew:((backTo cpos (starEach [e] X.env)).all (fun x=>!x.1) && (backToKw cpos (keywordEach [] X.env)).all (fun x=>x.1.isSome)
   && decide ([e].length + ([]:List Keyword).length + (if ([]:List Keyword).isEmpty then 0 else 1) < 30))=true:=by rfl)
  (hline:(apos.endLine == cpos.line)=true:=by rfl) (hs:starEach [e] X.env=(false,eval e X.env)::starEach [] X.env:=by rfl) (hplain:(backTo cpos (starEach [] X.env)).any (·.1)=false:=by rfl):
  FE X (.Call (.Attribute o "join" apos) [e] [] cpos) (wMS mJoin wo wa):=zr3 (fun _ _=>zlx) zil PySem.F.slot_str_join PySem.F.type_str_join ho ha hbase hfew hline hs hplain
section
variable {K:W.Frag}
theorem zN.erase:∀ {xs:List V} {l:List S} {fp:List Addr} {m:Nat} {s:S},zN K F H xs l fp->l[m]?=some s->∃ y fa fi fb,fp=fa++(fi++fb)/\xs[m]?=some y/\SRep K F H y s fi/\zN K F H (xs.eraseIdx m) (l.eraseIdx m) (fa++fb)
 | _,_,_,_,_,.nil,h=>by simp at h
 | _,_,_,0,s,.cons (x:=x) (fp:=fp) (fq:=fq) a b,h=>by
   have e:=qh h
   subst e
   exact ⟨x,[],fp,fq,rfl,rfl,a,b⟩
 | _,_,_,m + 1,s,.cons (fp:=fp) (fq:=fq) a b,h=>by
   obtain ⟨y,fa,fi,fb,rfl,h1,h2,h3⟩:=zN.erase (m:=m) b (by simpa using h)
   refine ⟨y,fp++fa,fi,fb,(qr ..).symm,by simpa using h1,h2,?_⟩
   rw [qr]
   exact .cons a h3
theorem Rel.popItem {D:Addr} (r:Rel K U σ F G H) (hs:slot U n=some (.lst l)) (hσ:σ[n]?=some (some (.ref D))) (hm:l[m]?=some s):
  ∃ xs y,H D=some (.lst xs)/\xs.length=l.length/\xs[m]?=some y/\Rel K (U.set n (some (.lst (l.eraseIdx m)))++[some s]) (σ++[some y]) F G (upd H D (.lst (xs.eraseIdx m))):=by
 obtain ⟨fp,e,nd,ap⟩:=r.en
 obtain ⟨v',fa,fi,fb,e1,rfl,q,up⟩:=e.at hs
 rw [hσ] at e1
 have e2:V.ref D=v':=by simpa using e1
 subst e2
 cases q with
 | lst hD rl=>
   rename_i xs fl
   obtain ⟨y,ga,gi,gb,rfl,hy,sr,rl2⟩:=rl.erase hm
   refine ⟨xs,y,hD,rl.len,hy,?_⟩
   obtain ⟨na,nib,nab⟩:=qz.mp nd
   obtain ⟨ni,nb,nib⟩:=qz.mp nib
   obtain ⟨nD,nfl⟩:=qO.mp ni
   have hDa:D∉fa:=fun z=>nab D z D (qm _ qp) rfl
   have hDb:D∉fb:=fun z=>nib D qp D z rfl
   have apD:=ap D (qk _ (qm _ qp))
   have ne:∀ {l:List Addr},D∉l->∀ x∈l,upd H D (.lst (xs.eraseIdx m)) x=H x:=fun h x hx=>zag fun z=>h (z ▸ hx)
   have hDg:D∉ga++gb:=fun z=>nD ((qA.mp z).elim (fun w=>qm _ w) fun w=>qk _ (qk _ w))
   have hDi:D∉gi:=fun z=>nD (qk _ (qm _ z))
   have new:SRep K F (upd H D (.lst (xs.eraseIdx m))) (.ref D) (.lst (l.eraseIdx m)) (D::(ga++gb)):=.lst zai (rl2.mono (zK.refl F) (ne hDg))
   have a2:=up (F':=F) (H':=upd H D (.lst (xs.eraseIdx m))) (o:=some (.lst (l.eraseIdx m))) (u:=some (.ref D)) (zK.refl F) (fun x hx=>zag fun z=>(qA.mp hx).elim (fun w=>hDa (z ▸ w)) fun w=>hDb (z ▸ w)) (.so new .nil)
   rw [zcp hσ] at a2
   have a3:=a2.app (.so (sr.mono (zK.refl F) (ne hDi)) .nil)
   have pm:(fa++((D::(ga++gb))++[]++fb)++(gi++[])).Perm (fa++((D::(ga++(gi++gb)))++fb)):=by
    simp only [qC,qr,qR]
    refine List.Perm.append_left _ (List.Perm.cons _ (List.Perm.append_left _ ?_))
    rw [<- qr gi gb fb,<- qr gb fb gi]
    refine (qQ (l₁:=gb++fb) (l₂:=gi)).trans ?_
    rw [qr]
   refine ⟨zK.updR r.fr apD.1,fun x o w=>?_,_,a3,pm.nodup_iff.mpr nd,fun x hx=>ap x (pm.mem_iff.mp hx)⟩
   have hx:x≠D:=fun z=>by rw [z,apD.2] at w; cases w
   rw [zag hx]
   exact r.gr x o w
end
theorem zkh (ho:FE X o (zF j)) (he:FE X e we)
  (hbase:attributeBase o "pop" X.env (eval o X.env)=eval o X.env:=by rfl)
  (hfew:((backTo cpos (starEach [e] X.env)).all (fun x=>!x.1) && (backToKw cpos (keywordEach [] X.env)).all (fun x=>x.1.isSome)
   && decide ([e].length + ([]:List Keyword).length + (if ([]:List Keyword).isEmpty then 0 else 1) < 30))=true:=by rfl)
  (hline:(apos.endLine == cpos.line)=true:=by rfl) (hs:starEach [e] X.env=[(false,eval e X.env)]:=by rfl):FE X (.Call (.Attribute o "pop" apos) [e] [] cpos) (wPopAt j we):=fun pn xe hp=>by
 refine PE.imp (zjx (X:=wp X pn xe) PySem.F.plainAttrs_list PySem.F.slot_list_pop PySem.F.type_list_pop zkD (ho pn xe hp) (zaa he zab hs pn xe hp) hbase hfew hline hs rfl) fun σ H Q q=>?_
 obtain ⟨F,G,U,P,PX,z4,hw,hok,hx⟩:=q
 have hw':(match slot U j with
  | some (.lst _)=>we U (fun r U2=>match view r U2,slot U2 j with
    | some (.int i),some (.lst l)=>zJ (if l.length<=big then ixN l.length i else none) fun k=>zJ l[k]? fun s=>P (.v s) (U2.set j (some (.lst (l.eraseIdx k))))
    | _,_=>False) PX
  | _=>False):=hw
 cases qs:slot U j with
 | none=>rw [qs] at hw'; exact hw'.elim
 | some s0=>
   cases s0 with
   | lst l0=>
     rw [qs] at hw'
     refine ⟨F,G,U,fun y U1=>y=.loc j/\U1=U,PX,z4,by unfold zF; rw [qs]; exact ⟨rfl,rfl⟩,fun y U1 o' F1 H1 hk s1 r1 rv=>?_,hx⟩
     obtain ⟨rfl,rfl⟩:=hk
     have l1:=len1 r1
     have hσ:σ[j]?=some (some o'):=rv
     have r2:=r1.drop l1
     obtain ⟨v',fp,e1,sr⟩:=r2.at qs
     rw [hσ] at e1
     have e2:o'=v':=by simpa using e1
     subst e2
     cases sr with
     | lst hD rl=>
       rename_i a xs fl
       refine ⟨.inl ⟨rfl,_,SqL.of hD⟩,F1,G,U1,fun rs U2=>match rs with | [r]=>(match view r U2,slot U2 j with | some (.int i),some (.lst l)=>zJ (if l.length<=big then ixN l.length i else none) fun k=>zJ l[k]? fun s=>P (.v s) (U2.set j (some (.lst (l.eraseIdx k)))) | _,_=>False) | _=>False,PX,r2,hw',fun rs U2 vs F2 H2 hk s2 r3 hl rvs=>?_,hx.grow s1⟩
       match rs,vs,rvs,r3,hk with
       | [r],[v],rvs,r3,hk=>
         dsimp only at hk
         split at hk
         ·rename_i i l ei ql
          obtain ⟨m,em,hk⟩:=zad hk
          obtain ⟨s,es,hk⟩:=zad hk
          have rp:=look (U':=[]) (σ':=[]) r3 hl rvs.1 ei
          cases rp
          split at em
          ·rename_i hz
           have r4:=r3.drop hl
           obtain ⟨ys,y,hD2,z5,hy,r5⟩:=Rel.popItem r4 ql hσ es
           rw [<- z5] at em hz
           obtain ⟨b1,b2,b3,b4⟩:=zfi em
           have hb:ys.length<=1000000:=hz
           exact ⟨a,ys,i,m,y,rfl,rfl,hD2,by lia,by lia,b1,hy,hok _ _ y F2 _ hk (s1.trans s2) r5 trivial⟩
          ·cases em
         ·exact hk.elim
       | [],_,_,_,hk=>exact hk.elim
       | [_],[],rvs,_,_=>exact rvs.elim
       | [_],_::_::_,rvs,_,_=>exact rvs.2.elim
       | _::_::_,_,_,_,hk=>exact hk.elim
   | _=>rw [qs] at hw'; exact hw'.elim
section
variable {K:W.Frag}
theorem zkz:DoesB K (fun xs H Q=>∃ i j,xs=[.int i,.int j]/\Q (.int (if j > i then j else i)) H) bMax:=by
 intro σ U F G H vs ds s Q z4 re e hq
 obtain ⟨d,d2,v,u,rfl,rfl⟩:=arg2 (fun x=>by cases x <;> rfl) (fun x y z r=>by cases x <;> first | rfl | (cases y <;> rfl)) rfl re e
 cases d with
 | int i=>
   cases d2 with
   | int j=>
     cases e
     have h1:=re.1.int
     have h2:=re.2.1.int
     subst h1
     subst h2
     exact ⟨i,j,rfl,hq _ F H (zK.refl F) (z4.push (.int _))⟩
   | _=>cases e
 | _=>cases e
theorem zjY:DoesB K (fun xs H Q=>∃ i j,xs=[.int i,.int j]/\Q (.int (if j < i then j else i)) H) bMin:=by
 intro σ U F G H vs ds s Q z4 re e hq
 obtain ⟨d,d2,v,u,rfl,rfl⟩:=arg2 (fun x=>by cases x <;> rfl) (fun x y z r=>by cases x <;> first | rfl | (cases y <;> rfl)) rfl re e
 cases d with
 | int i=>
   cases d2 with
   | int j=>
     cases e
     have h1:=re.1.int
     have h2:=re.2.1.int
     subst h1
     subst h2
     exact ⟨i,j,rfl,hq _ F H (zK.refl F) (z4.push (.int _))⟩
   | _=>cases e
 | _=>cases e
theorem znL (hc:X.calm=true) (hg:Gl X "max") (hm:X.mg "max"=none) (hv:bootBuiltins "max"=some (.builtin "max")) (ha:FA X (e::es) wa) (he:starEach (e::es) X.env=(false,eval e X.env)::starEach es X.env:=by rfl) (hpl:(backTo pos (starEach es X.env)).any (·.1)=false:=by rfl):FE X (.Call (.Name "max" p) (e::es) [] pos) (wB bMax wa):=
 zba (fun _ _=>ziv hc) zkz hg hm hv ha (by decide) (by decide) he hpl
theorem zna (hc:X.calm=true) (hg:Gl X "min") (hm:X.mg "min"=none) (hv:bootBuiltins "min"=some (.builtin "min")) (ha:FA X (e::es) wa) (he:starEach (e::es) X.env=(false,eval e X.env)::starEach es X.env:=by rfl) (hpl:(backTo pos (starEach es X.env)).any (·.1)=false:=by rfl):FE X (.Call (.Name "min" p) (e::es) [] pos) (wB bMin wa):=
 zba (fun _ _=>ziW hc) zjY hg hm hv ha (by decide) (by decide) he hpl
theorem zgi:∀ {xs:List V} {l:List D} {ys:List Bool},zX K F xs l->bools l=some ys->xs=ys.map V.bl
 | _,_,ys,.nil,h=>by cases h; rfl
 | _,d::l,ys,.cons a b,h=>by
   cases a with
   | bl c=>
     rw [bools] at h
     obtain ⟨ys',h1,rfl⟩:=q8.mp h
     rw [zgi b h1]
     rfl
   | _=>cases h
theorem zfI:∀ {us:List Value},zW (ys.map V.bl) us->LSm.BoolsAre us ys:=by
 induction ys with
 | nil=>intro us r; rw [map_nil] at r; cases r; exact .nil
 | cons n ns ih=>
   intro us r
   rw [qB] at r
   cases r with
   | cons r1 r2=>
     cases r1
     exact .cons n (ih r2)
end
theorem zgw (hh:A.handled=none) (hl:s.heap.IsList l vs.toArray) (hb:LSm.BoolsAre vs bs) (h:∀ h' tk,(∀ b x,s.heap.get? b=some x->h'.get? b=some x)->Q (.bool (bs.all id)) { s with heap:=h',toks:=tk }):
  wpAny (model prog w) A (call (.builtin "all") [.ref l]) Q E s:=by
 have hlt:l < s.heap.objs.size:=by obtain ⟨_,e,_⟩:=hl; exact qg e
 refine call_all_walk (wpAny_pyIter_list hl ?_)
 refine ⟨s.heap.objs.size,[s.heap.objs.size,l],[s.heap.objs.size],vs.toArray.size,_,_,fun i=>(bs[i]?).getD true,rfl,Walks.list (A:=A.in1) hh _ l (ne_of_lt hlt) vs.toArray,
  ⟨⟨_,qd _ rfl,rfl,rfl⟩,hl.push _⟩,fun i v s' Q' E' hP hQ=>?_,fun h' tk hk=>?_⟩
 ·obtain ⟨b,e,rfl⟩:=hb.get i v (by simpa using hP)
  simp only [e,Option.getD_some] at hQ
  exact wpAny_truthy_bool hQ
 ·have e:((List.range vs.toArray.size).all fun i=>(bs[i]?).getD true)=bs.all id:=by
   rw [qu,hb.length]; exact LSm.range_all bs
  rw [e]
  exact h h' tk (LSm.kept_iter hk)
section
variable {K:W.Frag}
def rAll (K:W.Frag):List V->Hp->VK->Prop:=fun xs H Q=>∃ (a:Addr) (bs:List Bool),xs=[.ref a]/\SqL K H a (bs.map V.bl)/\Q (.bl (bs.all id)) H
theorem zhw (hc:X.calm=true):CallR X (.builtin "all") (rAll X.K):=by
 intro zZ s σ H xs us Q I r h
 obtain ⟨a,bs,rfl,hq,q⟩:=h
 cases r with
 | cons r1 r2=>
   cases r2
   cases r1
   obtain ⟨z6,r,pl,_⟩:=I.list hq
   exact zgw (I.ok.hd hc) pl.isList (zfI r) fun h' tk k=>⟨.bl _,H,I.kept k,rfl,q⟩
theorem zjw:DoesB K (rAll K) bAll:=by
 intro σ U F G H vs ds s Q z4 re e hq
 obtain ⟨d,v,rfl,rfl⟩:=arg1 (fun x y r=>by cases x <;> rfl) rfl re e
 cases d with
 | lst l=>
   obtain ⟨bs,e1,rfl⟩:=q8.mp e
   obtain ⟨a,xs,rfl,h1,r1⟩:=re.1.lst z4.fr
   have:=zgi r1 e1
   subst this
   exact ⟨a,bs,rfl,h1,hq _ F H (zK.refl F) (z4.push (.bl _))⟩
 | _=>cases e
theorem znW (hc:X.calm=true) (hg:Gl X "all") (hm:X.mg "all"=none) (hv:bootBuiltins "all"=some (.builtin "all")) (ha:FA X (e::es) wa) (he:starEach (e::es) X.env=(false,eval e X.env)::starEach es X.env:=by rfl) (hpl:(backTo pos (starEach es X.env)).any (·.1)=false:=by rfl):FE X (.Call (.Name "all" p) (e::es) [] pos) (wB bAll wa):=
 zba (fun pn xe=>zhw (X:=wp X pn xe) hc) zjw hg hm hv ha (by decide) (by decide) he hpl
end
end FL
namespace FL
open PySem
mutual
def cmpD:D->D->Ordering
 | .int i,.int j=>if i < j then .lt else if j < i then .gt else .eq
 | .str x,.str y=>if x < y then .lt else if y < x then .gt else .eq
 | .tup l,.tup m=>cmpDs l m
 | _,_=>.eq
def cmpDs:List D->List D->Ordering
 | [],[]=>.eq
 | [],_::_=>.lt
 | _::_,[]=>.gt
 | a::l,b::m=>match cmpD a b with
   | .eq=>cmpDs l m
   | o=>o
end
def leD (a b:D):Bool:=match cmpD a b with
 | .gt=>false
 | _=>true
@[simp] theorem zee (i j:Int):leD (.int i) (.int j)=decide (i<=j):=by
  show (match (if i < j then Ordering.lt else if j < i then .gt else .eq) with | .gt=>false | _=>true)=_
  by_cases h:i < j
  ·rw [zc h,qU (by lia)]
  ·rw [zi h]
   by_cases h2:j < i
   ·rw [zc h2,qV (by lia)]
   ·rw [zi h2,qU (by lia)]
@[simp] theorem zcA (x y:List Nat):leD (.str x) (.str y)=!decide (y < x):=by
  show (match (if x < y then Ordering.lt else if y < x then .gt else .eq) with | .gt=>false | _=>true)=_
  by_cases h:x < y
  ·rw [zc h,qV (fun h'=>lt_asymm h h')]; rfl
  ·rw [zi h]
   by_cases h2:y < x
   ·rw [zc h2,qU h2]; rfl
   ·rw [zi h2,qV h2]; rfl
def insD (x:D):List D->List D
 | []=>[x]
 | y::r=>if leD x y then x::y::r else y::insD x r
def sortD:List D->List D
 | []=>[]
 | x::r=>insD x (sortD r)
theorem zcL (x:D):∀ l:List D,(insD x l).Perm (x::l)
 | []=>.refl _
 | y::r=>by
   unfold insD
   split
   ·exact .refl _
   ·exact (List.Perm.cons y (zcL x r)).trans (.swap x y r)
theorem zaY:∀ l:List D,(sortD l).Perm l
 | []=>.refl _
 | x::r=>(zcL x _).trans (.cons x (zaY r))
structure OrdOn (P:D->Prop):Prop where
 tot:∀ a b,P a->P b->leD a b=true\/leD b a=true
 tr:∀ a b c,P a->P b->P c->leD a b=true->leD b c=true->leD a c=true
 anti:∀ a b,P a->P b->leD a b=true->leD b a=true->a=b
theorem zcF (o:OrdOn P) (x:D) (hx:P x):∀ l:List D,(∀ d∈l,P d)->l.Pairwise (leD · ·=true)->(insD x l).Pairwise (leD · ·=true)
 | [],_,_=>List.pairwise_singleton _ _
 | y::r,hp,h=>by
   obtain ⟨h1,h2⟩:=pairwise_cons.mp h
   have hy:=hp y qp
   have hr:∀ d∈r,P d:=fun d hd=>hp d (qo _ hd)
   unfold insD
   split
   ·rename_i c
    refine pairwise_cons.mpr ⟨fun d hd=>?_,h⟩
    rcases qD.mp hd with rfl | hd
    ·exact c
    ·exact o.tr x y d hx hy (hr d hd) c (h1 d hd)
   ·rename_i c
    refine pairwise_cons.mpr ⟨fun d hd=>?_,zcF o x hx r hr h2⟩
    rcases qD.mp ((zcL x r).mem_iff.mp hd) with rfl | hd
    ·exact (o.tot d y hx hy).resolve_left c
    ·exact h1 d hd
theorem zbh (o:OrdOn P):∀ l:List D,(∀ d∈l,P d)->(sortD l).Pairwise (leD · ·=true)
 | [],_=>.nil
 | x::r,hp=>zcF o x (hp x qp) _ (fun d hd=>hp d (qo _ ((zaY r).mem_iff.mp hd))) (zbh o r fun d hd=>hp d (qo _ hd))
theorem zbP (o:OrdOn P):∀ l m:List D,(∀ d∈l,P d)->l.Perm m->l.Pairwise (leD · ·=true)->m.Pairwise (leD · ·=true)->l=m
 | [],m,_,p,_,_=>(List.nil_perm.mp p).symm
 | x::r,[],_,p,_,_=>absurd p.length_eq (by simp)
 | x::r,y::t,hp,p,h1,h2=>by
   obtain ⟨a1,a2⟩:=pairwise_cons.mp h1
   obtain ⟨b1,b2⟩:=pairwise_cons.mp h2
   have hx:=hp x qp
   have hy:P y:=hp y (p.mem_iff.mpr qp)
   have e:x=y:=by
    have m1:x∈y::t:=p.mem_iff.mp qp
    have m2:y∈x::r:=p.mem_iff.mpr qp
    rcases qD.mp m1 with e | m1
    ·exact e
    ·rcases qD.mp m2 with e | m2
     ·exact e.symm
     ·exact o.anti x y hx hy (a1 y m2) (b1 x m1)
   subst e
   rw [zbP o r t (fun d hd=>hp d (qo _ hd)) (List.Perm.cons_inv p) a2 b2]
theorem zbH (o:OrdOn P) (hp:∀ d∈l,P d) (p:m.Perm l) (h:m.Pairwise (leD · ·=true)):sortD l=m:=
 zbP o _ _ (fun d hd=>hp d ((zaY l).mem_iff.mp hd)) ((zaY l).trans p.symm) (zbh o l hp) h
def IsInt:D->Prop
 | .int _=>True
 | _=>False
def IsStr:D->Prop
 | .str _=>True
 | _=>False
theorem zhS:OrdOn IsInt where
 tot
  | .int a,.int b,_,_=>by simp only [zee,qW]; lia
 tr
  | .int a,.int b,.int c,_,_,_=>by simp only [zee,qW]; lia
 anti
  | .int a,.int b,_,_=>by simp only [zee,qW]; intro h1 h2; rw [Int.le_antisymm h1 h2]
theorem zfA:OrdOn IsStr where
 tot
  | .str a,.str b,_,_=>by
    simp only [zcA,Bool.not_eq_true',decide_eq_false_iff_not]
    by_cases h:b < a
    ·exact .inr fun h'=>lt_asymm h h'
    ·exact .inl h
 tr
  | .str a,.str b,.str c,_,_,_=>by
    simp only [zcA,Bool.not_eq_true',decide_eq_false_iff_not]
    intro h1 h2
    exact fun h=>(List.le_trans (l₁:=a) (l₂:=b) (l₃:=c) h1 h2) h
 anti
  | .str a,.str b,_,_=>by
    simp only [zcA,Bool.not_eq_true',decide_eq_false_iff_not]
    intro h1 h2
    have:a=b:=le_antisymm (as:=a) (bs:=b) h1 h2
    rw [this]
def intsD:List D->Option (List Int)
 | []=>some []
 | .int x::r=>(intsD r).map (x::·)
 | _::_=>none
@[simp] theorem za1 (l:List Int):intsD (l.map .int)=some l:=by
  induction l with
  | nil=>rfl
  | cons a r ih=>rw [qB,intsD,ih]; rfl
def sortS (l:List D):Option S:=if l.length < 64/\((intsD l).isSome\/(strsD l).isSome) then some (.lst ((sortD l).map .sh)) else none
def bSorted:List D->Option S
 | [.lst l]=>sortS l
 | _=>none
end FL
namespace FL
open PySem PySem.Spec PyProof.Rows L2
section
variable {K:W.Frag}
theorem zdD (r:zX K F xs l) (h:intsD l=some ys):xs=ys.map V.int/\l=ys.map D.int:=
 zX.ind (P:=fun xs l=>∀ ys,intsD l=some ys->xs=ys.map V.int/\l=ys.map D.int) (fun ys h=>by cases h; exact ⟨rfl,rfl⟩) (fun a _ ih ys h=>by
  cases a with
  | int c=>
    rw [intsD] at h
    obtain ⟨ys',h1,rfl⟩:=q8.mp h
    obtain ⟨e1,e2⟩:=ih _ h1
    rw [e1,e2]
    exact ⟨rfl,rfl⟩
  | _=>cases h) r ys h
theorem zbg:∀ {us:List Value} {ns:List Int},IntsAre us ns->zW (ns.map V.int) us
 | _,_,.nil=>.nil
 | _,_,.cons i t r=>.cons ⟨t,rfl⟩ (zbg r)
theorem ze6:∀ {us:List Value} {ns:List Str},StrsAre us ns->zW (ns.map V.str) us
 | _,_,.nil=>.nil
 | _,_,.cons i t r=>.cons ⟨t,rfl⟩ (ze6 r)
def rSorted (K:W.Frag):List V->Hp->VK->Prop:=fun xs H Q=>∃ a,xs=[.ref a]/\
 ((∃ ns:List Int,ns.length < 64/\SqL K H a (ns.map V.int)/\∀ ns':List Int,ns'.Perm ns->ns'.Pairwise (·<=·)->∀ q,H q=none->Q (.ref q) (upd H q (.lst (ns'.map V.int))))\/
  (∃ zs:List Str,zs.length < 64/\SqL K H a (zs.map V.str)/\∀ zs':List Str,zs'.Perm zs->sortedS zs'=true->∀ q,H q=none->Q (.ref q) (upd H q (.lst (zs'.map V.str)))))
theorem zeN:CallR X (.builtin "sorted") (rSorted X.K):=by
 intro zZ s σ H xs us Q I r h
 obtain ⟨a,rfl,h⟩:=h
 cases r with
 | cons r1 r2=>
   cases r2
   cases r1
   rcases h with ⟨ns,h64,hq,q⟩ | ⟨zs,h64,hq,q⟩
   ·obtain ⟨z6,r,pl,_⟩:=I.list hq
    have z5:z6.length=ns.length:=by have:=r.length; rw [qq] at this; exact this.symm
    refine sorted_ints pl.isList (zaZ r) (by rw [z5]; exact h64) fun out ns' a1 a2 a3=>?_
    obtain ⟨e,he⟩:=sortedAll_at s.heap z6 out
    have hz:ns'.length<=sizeLine:=by rw [a2.length_eq,zt]; lia
    refine ⟨.ref (s.heap.objs.size + 1),_,I.laid (t':=s.toks) (o:=.lst (ns'.map V.int)) (fun b ob w=>sortedAll_old w) (le_succ _) ?_,rfl,q ns' a2 a3 _ (I.hok.fresh (le_succ _))⟩
    exact ⟨by rw [qq]; exact hz,out.toList,e,zbg a1,by rw [toArray_toList]; exact he⟩
   ·obtain ⟨z6,r,pl,_⟩:=I.list hq
    have z5:z6.length=zs.length:=by have:=r.length; rw [qq] at this; exact this.symm
    refine sorted_strs pl.isList (zca r) (by rw [z5]; exact h64) fun out ns' a1 a2 a3=>?_
    obtain ⟨e,he⟩:=sortedAll_at s.heap z6 out
    have hz:ns'.length<=sizeLine:=by rw [a2.length_eq,zt]; lia
    refine ⟨.ref (s.heap.objs.size + 1),_,I.laid (t':=s.toks) (o:=.lst (ns'.map V.str)) (fun b ob w=>sortedAll_old w) (le_succ _) ?_,rfl,q ns' a2 a3 _ (I.hok.fresh (le_succ _))⟩
    exact ⟨by rw [qq]; exact hz,out.toList,e,ze6 a1,by rw [toArray_toList]; exact he⟩
theorem zbJ:∀ ns:List Int,zX K F (ns.map V.int) (ns.map D.int)
 | []=>.nil
 | n::ns=>.cons (.int n) (zbJ ns)
theorem zeL:∀ zs:List Str,(∀ z∈zs,z.cps.toList.length<=16777216)->zX K F (zs.map V.str) (zs.map fun z=>D.str z.cps.toList)
 | [],_=>.nil
 | z::zs,h=>.cons (.str rfl (h z qp)) (zeL zs fun y hy=>h y (qo _ hy))
theorem zdo:∀ {xs:List V} {l:List D} {zs:List Str},zX K F xs l->xs=zs.map V.str->l=(zs.map fun z=>D.str z.cps.toList)/\∀ z∈zs,z.cps.toList.length<=16777216
 | _,_,[],.nil,_=>⟨rfl,fun _ h=>by cases h⟩
 | _,_,_::_,.nil,h=>by simp at h
 | _,_,[],.cons _ _,h=>by simp at h
 | _,_,z::zs,.cons a b,h=>by
   rw [qB] at h
   injection h with h1 h2
   subst h1
   obtain ⟨e,k⟩:=zdo b h2
   cases a with
   | str e1 z1=>
     subst e1
     refine ⟨by rw [e]; rfl,fun y hy=>?_⟩
     rcases qD.mp hy with rfl | hy
     ·exact z1
     ·exact k y hy
theorem ze7:∀ (r:List Str) (p:Str),risingS p r=true->((p::r).map fun z=>D.str z.cps.toList).Pairwise (leD · ·=true)
 | [],p,_=>List.pairwise_singleton _ _
 | x::r,p,h=>by
   have h':(!ltCps x.cps.toList p.cps.toList && risingS x r)=true:=h
   rw [and_eq_true,ltCps_eq] at h'
   have ih:=ze7 r x h'.2
   have px:leD (.str p.cps.toList) (.str x.cps.toList)=true:=by rw [zcA]; exact h'.1
   rw [qB]
   refine pairwise_cons.mpr ⟨fun d hd=>?_,ih⟩
   rw [qB] at hd ih
   rcases qD.mp hd with rfl | hd
   ·exact px
   ·obtain ⟨z,_,rfl⟩:=qN.mp hd
    exact zfA.tr _ (.str x.cps.toList) _ trivial trivial trivial px ((pairwise_cons.mp ih).1 _ hd)
theorem zgQ:∀ r:List Str,sortedS r=true->(r.map fun z=>D.str z.cps.toList).Pairwise (leD · ·=true)
 | [],_=>.nil
 | x::r,h=>ze7 r x h
theorem zfo:DoesB K (rSorted K) bSorted:=by
 intro σ U F G H vs ds s Q z4 re e hq
 obtain ⟨d,v,rfl,rfl⟩:=arg1 (fun x y r=>by cases x <;> rfl) rfl re e
 cases d with
 | lst l=>
   have e:sortS l=some s:=e
   unfold sortS at e
   split at e
   ·rename_i hc
    cases e
    obtain ⟨a,xs,rfl,h1,r1⟩:=re.1.lst z4.fr
    refine ⟨a,rfl,?_⟩
    cases q1:intsD l with
    | some ns=>
      obtain ⟨e1,e2⟩:=zdD r1 q1
      subst e1
      subst e2
      refine .inl ⟨ns,by have:=hc.1; rwa [qq] at this,h1,fun ns' p pw q hq'=>?_⟩
      have es:sortD (ns.map D.int)=ns'.map D.int:=zbH zhS (fun d hd=>by obtain ⟨z,_,rfl⟩:=qN.mp hd; trivial) (p.map _) (pairwise_map.mpr (pw.imp fun {a b} h=>by rw [zee]; exact qU h))
      rw [es] at hq
      exact hq _ F _ (zK.refl F) (z4.newLD hq' (zbJ ns'))
    | none=>
      cases q2:strsD l with
      | none=>rw [q1,q2] at hc; simp at hc
      | some ys=>
        obtain ⟨zs,e1,e2⟩:=zhQ r1 q2
        subst e1
        obtain ⟨e3,sm⟩:=zdo r1 rfl
        subst e3
        refine .inr ⟨zs,by have:=hc.1; rwa [qq] at this,h1,fun zs' p pw q hq'=>?_⟩
        have es:sortD (zs.map fun z=>D.str z.cps.toList)=zs'.map fun z=>D.str z.cps.toList:=zbH zfA (fun d hd=>by obtain ⟨z,_,rfl⟩:=qN.mp hd; trivial) (p.map _) (zgQ zs' pw)
        rw [es] at hq
        exact hq _ F _ (zK.refl F) (z4.newLD hq' (zeL zs' fun z hz=>sm z (p.mem_iff.mp hz)))
   ·cases e
 | _=>cases e
end
theorem zfg (hv:∀ id,v≠.builtin id) (h:Q (.bool (v == .bool d)) s):wpAny M A (compareOp .Is v (.bool d)) Q E s:=by
 cases v <;> first | exact qb h | exact absurd rfl (hv _)
theorem zdh (hv:∀ id,v≠.builtin id) (h:Q (.bool (!(v == .bool d))) s):wpAny M A (compareOp .IsNot v (.bool d)) Q E s:=by
 cases v <;> first | exact qb h | exact absurd rfl (hv _)
section
variable {K:W.Frag}
theorem zO.bool_iff (r:zO x v) (d:Bool):(v == Value.bool d)=decide (x=.bl d):=by
 cases x with
 | bl b=>cases r; cases b <;> cases d <;> rfl
 | _=>first
   | (cases r; rfl)
   | (obtain ⟨t,rfl⟩:=r; rfl)
theorem zO.noBuiltin (r:zO x v):∀ id,v≠.builtin id:=by
 intro id e
 subst e
 cases x <;> first
  | (cases r; done)
  | (obtain ⟨t,h⟩:=r; cases h)
def rIs (neg:Bool):R2:=fun x y H Q=>(y=.non/\Q (.bl (if neg then !decide (x=.non) else decide (x=.non))) H)\/∃ b,y=.bl b/\Q (.bl (if neg then !decide (x=.bl b) else decide (x=.bl b))) H
theorem zfW:OpR X (compareOp .Is) (rIs false):=by
 intro zZ s σ H x y v u Q I rx ry h
 rcases h with ⟨rfl,q⟩ | ⟨b,rfl,q⟩
 ·exact zn2 zZ s σ H x .non v u Q I rx ry ⟨rfl,q⟩
 ·cases ry
  exact zfg (zO.noBuiltin rx) ⟨.bl _,H,I,by rw [zO.bool_iff rx]; rfl,q⟩
theorem zeF:OpR X (compareOp .IsNot) (rIs true):=by
 intro zZ s σ H x y v u Q I rx ry h
 rcases h with ⟨rfl,q⟩ | ⟨b,rfl,q⟩
 ·exact zll zZ s σ H x .non v u Q I rx ry ⟨rfl,q⟩
 ·cases ry
  exact zdh (zO.noBuiltin rx) ⟨.bl _,H,I,by rw [zO.bool_iff rx]; rfl,q⟩
open Classical in
theorem ziA (r1:Rep K H x p) (r2:Rep K H y q) (e:cIs p q=some k) (hq:Q (.bl (if neg then !k else k)) H):rIs neg x y H Q:=by
 cases q with
 | non=>
   cases r2
   have e':decide (p=.non)=k:=qh e
   have:decide (x=V.non)=k:=by
    rw [<- e']
    cases r1 <;> simp
   exact .inl ⟨rfl,by rw [this]; exact hq⟩
 | bl b=>
   cases r2
   have e':decide (p=.bl b)=k:=qh e
   have:decide (x=V.bl b)=k:=by
    rw [<- e']
    cases r1 <;> simp
   exact .inr ⟨b,rfl,by rw [this]; exact hq⟩
 | _=>cases e
theorem zd8:DoesC K (rIs false) cIs:=fun H x y p q k Q r1 r2 e hq=>ziA r1 r2 e hq
theorem zdy:DoesC K (rIs true) cIsNot:=fun H x y p q k Q r1 r2 e hq=>by
 unfold cIsNot at e
 cases q1:cIs p q with
 | none=>rw [q1] at e; cases e
 | some b=>
   rw [q1] at e
   have e':(!b)=k:=qh e
   subst e'
   exact ziA r1 r2 q1 hq
end
mutual
def toPy:D->PyData
 | .non=>.none
 | .bl b=>.bool b
 | .int i=>.int i
 | .str l=>.str ⟨l.toArray⟩
 | .tup l=>.tuple (toPys l)
 | .lst l=>.list (toPys l)
 | _=>.none
def toPys:List D->List PyData
 | []=>[]
 | d::r=>toPy d::toPys r
end
mutual
def showD:D->Bool
 | .non=>true
 | .bl _=>true
 | .int i=>decide (i.natAbs.log2 < 1920)
 | .str _=>true
 | .tup l=>showDs l
 | .lst l=>showDs l
 | _=>false
def showDs:List D->Bool
 | []=>true
 | d::r=>showD d && showDs r
end
mutual
theorem zfw:∀ d:D,showD d=true->(toPy d).showable=true
 | .non,_=>rfl
 | .bl _,_=>rfl
 | .int i,h=>h
 | .str _,_=>rfl
 | .tup l,h=>zbk l h
 | .lst l,h=>zbk l h
 | .dct _ _ _,h=>by cases h
 | .set _,h=>by cases h
 | .exc _ _ _,h=>by cases h
theorem zbk:∀ l:List D,showDs l=true->PyData.showableAll (toPys l)=true
 | [],_=>rfl
 | d::r,h=>by
   rw [showDs,and_eq_true] at h
   rw [toPys,PyData.showableAll,zfw d h.1,zbk r h.2]
   rfl
end
mutual
theorem zin:∀ d:D,(toPy d).hasDict=false
 | .non=>rfl
 | .bl _=>rfl
 | .int i=>rfl
 | .str _=>rfl
 | .tup l=>zch l
 | .lst l=>zch l
 | .dct _ _ _=>rfl
 | .set _=>rfl
 | .exc _ _ _=>rfl
theorem zch:∀ l:List D,PyData.hasDictAll (toPys l)=false
 | []=>rfl
 | d::r=>by
   rw [toPys,PyData.hasDictAll,zin d,zch r]
   rfl
end
mutual
theorem zki:∀ d:D,(toPy d).depth<=dep d
 | .non=>zj _
 | .bl _=>zj _
 | .int i=>zj _
 | .str _=>zj _
 | .tup l=>Nat.succ_le_succ (zcK l)
 | .lst l=>Nat.succ_le_succ (zcK l)
 | .dct _ _ _=>zj _
 | .set _=>zj _
 | .exc _ _ _=>zj _
theorem zcK:∀ l:List D,PyData.depthAll (toPys l)<=deps l
 | []=>zj _
 | d::r=>by
   have h1:=zki d
   have h2:=zcK r
   simp only [toPys,PyData.depthAll,deps]
   lia
end
end FL
namespace FL
open PySem
def atD (l m:List Nat) (i:Nat):Bool:=decide (i + m.length<=l.length) && decide ((l.drop i).take m.length=m)
def findD (l m:List Nat):Option Nat:=(List.range (l.length + 1)).find? (atD l m)
def bListA:List D->Option S
 | [.tup l]=>some (.lst (l.map .sh))
 | [.lst l]=>some (.lst (l.map .sh))
 | [.str l]=>if l.length<=big then some (.lst (l.map fun c=>.sh (.str [c]))) else none
 | _=>none
def tyD:D->String
 | .non=>"NoneType"
 | .bl _=>"bool"
 | .int _=>"int"
 | .str _=>"str"
 | .tup _=>"tuple"
 | .lst _=>"list"
 | .dct _ _ _=>"dict"
 | .set _=>"set"
 | .exc _ _ _=>"?"
def isTy (T:String) (d:D):Bool:=tyD d == T || (tyD d == "bool" && T == "int")
def noExc:D->Bool
 | .exc _ _ _=>false
 | _=>true
def wIsI (T:String) (a:WE):WE:=fun U Q E=>a U (fun x U1=>zJ (view x U1) fun d=>noExc d=true/\Q (.v (.sh (.bl (isTy T d)))) U1) E
theorem find?_first (h:i < n) (hp:p i=true) (hn:∀ k,k < i->p k=false):(List.range n).find? p=some i:=by
 first | rfl | assumption | (simp_all; done)
theorem find?_not (hn:∀ k,p k=false):(List.range n).find? p=none:=by
 grind
end FL
namespace FL
open PySem PySem.Spec PyProof.Rows L2
section
variable {K:W.Frag}
theorem zk0:StrLaws.At x y x.length i↔atD x.cps.toList y.cps.toList i=true:=by
 have h1:x.length=x.cps.toList.length:=by show x.cps.size=_; rw [qY]
 have h2:y.length=y.cps.toList.length:=by show y.cps.size=_; rw [qY]
 unfold StrLaws.At atD Builtin.Str.subAt
 rw [and_eq_true,qW,qW,h1,h2,beq_iff_eq]
 refine and_congr_right fun _=>?_
 rw [<- Array.toList_inj,Array.toList_extract,List.extract_eq_take_drop]
 have:i + y.cps.toList.length - i=y.cps.toList.length:=by lia
 rw [this]
theorem zlA (x y:Str):Txt.find x y=(match findD x.cps.toList y.cps.toList with | some i=>(i:Int) | none=>-1):=by
 have hn:∀ {i},¬ StrLaws.At x y x.length i->atD x.cps.toList y.cps.toList i=false:=fun {i} h=>by
  cases q:atD x.cps.toList y.cps.toList i with
  | false=>rfl
  | true=>exact absurd (zk0.mpr q) h
 rcases find_whole x y with ⟨e,h⟩ | ⟨i,e,hi,h⟩
 ·rw [e]
  unfold findD
  rw [find?_not fun k=>hn (h k)]
 ·rw [e]
  unfold findD
  have h3:=hi.1
  have h1:x.length=x.cps.toList.length:=by show x.cps.size=_; rw [qY]
  rw [find?_first (i:=i) (by rw [<- h1]; lia) (zk0.mp hi) fun k hk=>hn (h k hk)]
def rListS:List V->Hp->VK->Prop:=fun xs H Q=>∃ x:Str,xs=[.str x]/\x.length<=sizeLine/\∀ l,H l=none->Q (.ref l) (upd H l (.lst (x.cps.toList.map fun c=>.str ⟨#[c]⟩)))
theorem zaQ:∀ {xs:List V} {us:List Value},xs.length=us.length->(∀ (j:Nat) x u,xs[j]?=some x->us[j]?=some u->zO x u)->zW xs us
 | [],[],_,_=>.nil
 | [],_::_,h,_=>by simp at h
 | _::_,[],h,_=>by simp at h
 | x::xs,u::us,h,k=>.cons (k 0 x u rfl rfl) (zaQ (by simpa using h) fun j x' u' h1 h2=>k (j + 1) x' u' (by simpa using h1) (by simpa using h2))
theorem zde (hc:X.calm=true):CallR X (.type "list") rListS:=by
 intro zZ s σ H xs us Q I r h
 obtain ⟨x,rfl,hz,q⟩:=h
 obtain ⟨u,rfl,rx⟩:=vals1 r
 obtain ⟨t,rfl⟩:=rx
 refine call_list_str (I.ok.hd hc) x t (hn:=hz) fun h' tk acc' c' hk hS' hacc=>?_
 have hv:zW (x.cps.toList.map fun c=>V.str ⟨#[c]⟩) acc'.toList:=zaQ (by rw [qq,qY,qY,hacc.1]) fun j y v h1 h2=>by
  obtain ⟨c,u,hc,rfl⟩:=hacc.2 j v (by rw [<- q9]; exact h2)
  rw [qI,q9,hc] at h1
  cases h1
  exact ⟨u,rfl⟩
 refine ⟨.ref s.heap.objs.size,_,I.laid (t':=tk) hk (zj _) (show zY X.prog X.w _ h' _ (.lst (x.cps.toList.map fun c=>V.str ⟨#[c]⟩)) from ⟨?_,acc'.toList,c',hv,by simpa using hS'⟩),rfl,q _ (I.hok.fresh (zj _))⟩
 rw [qq,qY]; exact hz
def rListA (K:W.Frag):List V->Hp->VK->Prop:=fun xs H Q=>rList K xs H Q\/rListS xs H Q
theorem zdk:∀ l:List Nat,zX K F (l.map fun c=>V.str ⟨#[c]⟩) (l.map fun c=>D.str [c])
 | []=>.nil
 | c::l=>.cons (.str rfl (by show 1<=16777216; decide)) (zdk l)
theorem zgJ:DoesB K (rListA K) bListA:=by
 intro σ U F G H vs ds s Q z4 re e hq
 obtain ⟨d,v,rfl,rfl⟩:=arg1 (fun x y r=>by cases x <;> rfl) rfl re e
 cases d with
 | tup l=>exact .inl (ze0 σ U F G H [v] [.tup l] s Q z4 re e hq)
 | lst l=>exact .inl (ze0 σ U F G H [v] [.lst l] s Q z4 re e hq)
 | str l=>
   obtain ⟨x,rfl,e1,z⟩:=re.1.str
   have e:(if l.length<=big then some (S.lst (l.map fun c=>S.sh (.str [c]))) else none)=some s:=e
   split at e
   ·rename_i hb
    cases e
    refine .inr ⟨x,rfl,by rw [zcc e1]; exact zcq hb,fun p hp=>?_⟩
    rw [e1]
    have h:=z4.newLD hp (zdk l)
    rw [qH] at h
    exact hq (.ref p) F (upd H p (.lst (l.map fun c=>V.str ⟨#[c]⟩))) (zK.refl F) h
   ·cases e
 | _=>cases e
theorem zdL (hc:X.calm=true) (hg:Gl X "list") (hm:X.mg "list"=none) (hv:bootBuiltins "list"=some (.type "list")) (ha:FA X (e::es) wa) (he:starEach (e::es) X.env=(false,eval e X.env)::starEach es X.env:=by rfl) (hpl:(backTo pos (starEach es X.env)).any (·.1)=false:=by rfl):FE X (.Call (.Name "list" p) (e::es) [] pos) (wB bListA wa):=
 zcR (fun pn xe=>CallR.or' zeh (zde (X:=wp X pn xe) hc)) zgJ hg hm hv ha (by decide) (by decide) he hpl
end
def tyOk (T:String):Bool:=T == "bool" || T == "int" || T == "str" || T == "tuple" || T == "list"
theorem zqr (K:W.Frag):∀ (T:String),tyOk T=true->∀ d:D,noExc d=true->W.kitOne K (.type (tyD d)) (.type T)=some (isTy T d):=by
 intro T hT d h2
 simp only [tyOk,or_eq_true,beq_iff_eq] at hT
 rcases hT with (((rfl | rfl) | rfl) | rfl) | rfl <;> cases d <;> first | exact absurd h2 q5 | kernel_rfl
theorem zjH (I:Inv X zZ σ H s) (rx:zO x u) (rp:Rep X.K H x d) (hd:noExc d=true) (e:W.kitOne X.K (.type (tyD d)) c=some b) (h:∀ tk,Q (.bool b) { s with toks:=tk }):
  wpAny (model X.prog X.w) A (call (.builtin "isinstance") [u,c]) Q E s:=by
 cases rp with
 | non=>exact zaN I rx .non e h
 | bl y=>exact zaN I rx (.bl y) e h
 | int i=>exact zaN I rx (.int i) e h
 | str e1 z=>exact zaN I rx (.str _) e h
 | tup ea r=>exact zaN I rx (.tup ea) e h
 | lst ea r=>
   cases rx
   obtain ⟨z6,r,pl,_⟩:=I.list ea
   obtain ⟨o,ho,hc,_⟩:=pl.isList
   exact W.kia_one W.kitx_list I.kIn ⟨o,ho,hc⟩ e (fun z=>nomatch z) h
 | @dK a z3 ks vs ea k r=>
   cases rx
   rcases ea with ea | ⟨ob,ea⟩
   ·exact zaN (x:=.ref a) I rfl (.dK ea) e h
   ·obtain ⟨_,_,_,_,p⟩:=(show zY X.prog X.w H s.heap a (.frz ob (.dK z3)) from I.hok a _ ea)
    obtain ⟨_,o,es,ep,h1,h2,_⟩:=p
    exact W.kia_one W.kitx_dict I.kIn ⟨o,h1,h2.1⟩ e (fun z=>nomatch z) h
 | @dT a z3 ks vs ea k r=>
   cases rx
   rcases ea with ea | ⟨ob,ea⟩
   ·exact zaN (x:=.ref a) I rfl (.dT ea) e h
   ·obtain ⟨_,_,_,_,p⟩:=(show zY X.prog X.w H s.heap a (.frz ob (.dT z3)) from I.hok a _ ea)
    obtain ⟨_,o,es,ep,h1,h2,_⟩:=p
    exact W.kia_one W.kitx_dict I.kIn ⟨o,h1,h2.1⟩ e (fun z=>nomatch z) h
 | @st a xs ds ea r=>
   cases rx
   have t:∃ o,s.heap.get? a=some o/\o.cls=.type "set":=by
    rcases I.hok a _ ea with ⟨_,⟨_,h1⟩ | ⟨_,_,_,o,_,_,_,h1,h2,_⟩ | ⟨_,_,_,_,o,_,_,_,h1,h2,_⟩⟩
    ·exact ⟨_,h1,rfl⟩
    ·exact ⟨o,h1,h2.1⟩
    ·exact ⟨o,h1,h2.1⟩
   exact W.kia_one W.kitx_set I.kIn t e (fun z=>nomatch z) h
 | exc _ _=>cases hd
section
variable {TS:String}
theorem zdA (hg:Gl X "isinstance") (hm:X.mg "isinstance"=none) (hv:bootBuiltins "isinstance"=some (.builtin "isinstance")) (hgT:Gl X T) (hmT:X.mg T=none) (hvT:bootBuiltins T=some (.type TS)) (hT:tyOk TS=true) (ha:FE X a wa)
  (hnT:T≠"__name__":=by decide) (hdT:(T == ("__debug__":Str))=false:=by decide)
  (he:starEach [a,.Name T pt] X.env=(false,eval a X.env)::starEach [.Name T pt] X.env:=by rfl) (he2:starEach [.Name T pt] X.env=[(false,eval (.Name T pt) X.env)]:=by rfl) (hpl:(backTo pos (starEach [.Name T pt] X.env)).any (·.1)=false:=by rfl):
  FE X (.Call (.Name "isinstance" p) [a,.Name T pt] [] pos) (wIsI TS wa):=fun pn xe hp=>by
 intro zZ s σ H Q I h
 refine wpAny_Call_Name_kw (zbf (X:=wp X pn xe) I hg hm hv ?_ (by decide) (by decide))
 refine PyProof.Rows.callWith_builtin1 ?_ he hpl
 show wpAny _ _ (spliced (backTo pos (starEach [a,.Name T pt] X.env))) _ _ s
 rw [he,he2]
 show wpAny _ _ (spliced ((false,eval a X.env)::[(false,eval (.Name T pt) X.env)])) _ _ s
 refine Calls.spliced_cons (thn (ha pn xe hp zZ s σ H _ I (one (k:=fun x U1 Q E=>zJ (view x U1) fun d=>noExc d=true/\Q (.v (.sh (.bl (isTy TS d)))) U1) h)) fun u s1 zq=>?_)
 obtain ⟨x,H1,I1,r1,q1⟩:=zq
 refine Calls.spliced_cons (zbf (X:=wp X pn xe) I1 hgT hmT hvT (Calls.spliced_nil ?_) hnT hdT)
 obtain ⟨F,G,U,y,P,PX,z4,hl,ry,hk,hok,hx⟩:=q1
 obtain ⟨d,ed,hd,hk⟩:=zad hk
 have rp:=look (U':=[]) (σ':=[]) z4 hl ry ed
 refine zjH I1 r1 rp hd (zqr _ TS hT d hd) fun tk=>⟨.bl _,H1,I1.kept fun _ _ z=>z,rfl,?_⟩
 exact hok _ U _ F H1 hk (zK.refl F) ((z4.drop hl).push (.bl _)) trivial
end
theorem zf9:bootBuiltins "int"=some (.type "int"):=by decide +kernel
theorem zaR:bootBuiltins "tuple"=some (.type "tuple"):=by decide +kernel
theorem zcM:bootBuiltins "list"=some (.type "list"):=by decide +kernel
theorem zlf:bootBuiltins "bool"=some (.type "bool"):=by decide +kernel
theorem zkW:bootBuiltins "str"=some (.type "str"):=by decide +kernel
theorem zoV:bootBuiltins "max"=some (.builtin "max"):=by decide +kernel
theorem zhi:bootBuiltins "min"=some (.builtin "min"):=by decide +kernel
theorem zov:bootBuiltins "all"=some (.builtin "all"):=by decide +kernel
theorem zcG:bootBuiltins "sorted"=some (.builtin "sorted"):=by decide +kernel
theorem zaw:bootBuiltins "isinstance"=some (.builtin "isinstance"):=by decide +kernel
theorem u32 (hr:Room k A):A.units + 32 < cLine:=by have:=hr.units; lia
theorem u31 (hr:Room k A):A.units + 31 < cLine:=by have:=hr.units; lia
theorem uq {N:List Str} (h:(N.zipIdx.all fun p=>!(p.1 == x) || p.2 == i)=true):∀ j,N[j]?=some x->j=i:=by
 intro j hj
 have hj':j < N.length:=(qi.mp hj).1
 have:=qL.mp h (x,j) (by rw [List.mem_zipIdx_iff_getElem?]; simpa using hj)
 simpa using this
instance (outer scope:Scope) (N vars:List Str):Decidable (scope.kind=.function/\(∀ x∈scope.names,x.2=.free->outer.names.lookup x.1=some .cell\/outer.names.lookup x.1=some .free)/\(scope.names.map (·.1)).Nodup/\
  (∀ x∈N,x∉vars->(x,NameKind.local)∉scope.names/\(x,NameKind.cell)∉scope.names)/\scope.names.lookup Str.empty=none):=inferInstance
def compOk (outer scope:Scope) (N vars:List Str):Bool:=decide (scope.kind=.function/\(∀ x∈scope.names,x.2=.free->outer.names.lookup x.1=some .cell\/outer.names.lookup x.1=some .free)/\(scope.names.map (·.1)).Nodup/\
    (∀ x∈N,x∉vars->(x,NameKind.local)∉scope.names/\(x,NameKind.cell)∉scope.names)/\scope.names.lookup Str.empty=none)
theorem compSc (h:compOk outer scope N vars=true):CompScope outer scope N vars:=
 let ⟨a,b,c,d,e⟩:=qX h
 ⟨a,b,c,d,e⟩
theorem zkJ {K:W.Frag} (r:SRep K F H v (.sh (.bl true)) fp):v=.bl true:=by
 cases r with
 | sh r=>cases r; rfl
theorem zoL {K:W.Frag} (h:∀ ns:List Int,ns.length<=63->wf [.sh (.lst (ns.map .int))] (fun s _=>s=.sh (.bl true)) fun _ _=>False) (H:Hp) (a:Addr) (ns:List Int) (hl:ns.length<=63) (hS:SqL K H a (ns.map V.int)):
  spW K wf 1 [.ref a] H (fun v _=>v=.bl true) fun _ _ _=>False:=by
 refine ⟨H,fun _=>none,[.sh (.lst (ns.map .int))],_,_,rfl,⟨zK.refl H,fun _ _ z=>(nomatch z),[]++[],.so (.sh (.lst hS (zbJ ns))) .nil,List.nodup_nil,fun _ z=>(nomatch z)⟩,h ns hl,fun s ss' v F' H' hs sm z5 r=>?_,fun _ _ _ _ _ _ z=>z.elim⟩
 subst hs
 obtain ⟨u,fp,e1,q⟩:=r.at (i:=ss'.length) (s:=.sh (.bl true)) (by
  have:=zaE (U:=ss'.map some) (o:=some (.sh (.bl true))) (U':=[])
  simpa using this)
 have hl1:ss'.length=1:=z5
 rw [hl1] at e1
 have:u=v:=by simpa using e1.symm
 rw [<- this]
 exact zkJ q
end FL
namespace FL
open PySem PySem.Spec PyProof.Rows L2
theorem zor (ha:FE X a wa):FE X (.UnaryOp .USub a pos) (wUn oNeg wa):=fun pn xe hp=>by
 refine PE.imp (zp8 zpv (ha pn xe hp)) fun σ H Q q=>?_
 refine (one (k:=fun x U1 Q E=>zJ (zV x U1) fun p=>zJ (oNeg p) fun s=>Q (.v s) U1) q).mono fun v H1 h1=>?_
 obtain ⟨F,G,U,x,P,PX,z4,hl,rx,hk,hok,hx⟩:=h1
 obtain ⟨p,ep,hk⟩:=zad hk
 obtain ⟨s,es,hk⟩:=zad hk
 obtain ⟨F1,s1,re,r1⟩:=takeC (U':=[]) (σ':=[]) z4 hl rx ep
 cases p with
 | int i=>
   cases es
   have e:=re.int
   subst e
   exact ⟨i,rfl,hok _ U _ F1 H1 hk s1 ((show Rel _ U σ F1 G H1 by simpa using r1).push (.int _)) trivial⟩
 | _=>cases es
open AutoSeq1 (wpAny_loadPart')
theorem zou (hu:s.heap.IsTupleIter u z n) (hz:s.heap.IsTuple z xs) (hv:xs[n]?=some v) (k:∀ h',h'.IsTupleIter u z (n + 1)->Heap.SameBut u s.heap h'->Q v { s with heap:=h' }):
  wpAny (model prog w) A (Builtin.SmallTypes.nextOf (.ref u)) Q E s:=by
 obtain ⟨ob,e0,e1,e2⟩:=id hu
 obtain ⟨zb,f0,_,zn,f2⟩:=hz
 unfold Builtin.SmallTypes.nextOf
 apply qa
 refine wpAny_callSpecial?_slot (name:=Str.ofString "__next__") hu.typeIs F.slot_tuple_iterator_next (zr F.slot_tuple_iterator_next hu.typeIs F.entry_tuple_iterator_next ?_ (F.args_tuple_iterator_next_1 _))
 show wpAny _ _ (field (.ref u) 0 >>= _) _ _ _
 apply qa
 refine zo e0 e2 (x:=.ref z) rfl ?_
 show wpAny _ _ (if (Value.ref z == Value.none)=true then _ else _) _ _ _
 rw [zi (show ¬ ((Value.ref z == Value.none)=true) from q5)]
 show wpAny _ _ (field (.ref u) 1 >>= _) _ _ _
 apply qa
 refine zo e0 e2 (x:=.int n 0) rfl ?_
 show wpAny _ _ (seqItems? (.ref z) >>= _) _ _ _
 apply qa
 refine wpAny_seqItems f0 f2 ?_
 simp only [qZ,hv]
 apply qa
 refine wpAny_setField e0 e2 (by simp) (qb ⟨v,rfl,qb (k _ ⟨_,zm _ e0 (Obj.isFreed_of_fields (Obj.data_mapFields e2 _)),(Obj.cls_mapFields ..).trans e1,?_⟩ (Heap.SameBut.update ..))⟩)
 rw [Obj.data_mapFields e2]
 simp [rawInt]
theorem zdn (hh:A.handled=none) (hu:s.heap.IsTupleIter u z n) (hz:s.heap.IsTuple z xs) (hv:xs[n]?=none)
  (k:∀ h' e,Heap.ExtBut u s.heap h'->(∃ o,h'.get? e=some o/\o.cls=.type "StopIteration")->E (.ref e) { s with heap:=h' }):wpAny (model prog w) A (Builtin.SmallTypes.nextOf (.ref u)) Q E s:=by
 obtain ⟨ob,e0,e1,e2⟩:=id hu
 obtain ⟨zb,f0,_,zn,f2⟩:=hz
 unfold Builtin.SmallTypes.nextOf
 apply qa
 refine wpAny_callSpecial?_slot (name:=Str.ofString "__next__") hu.typeIs F.slot_tuple_iterator_next (zr F.slot_tuple_iterator_next hu.typeIs F.entry_tuple_iterator_next ?_ (F.args_tuple_iterator_next_1 _))
 show wpAny _ _ (field (.ref u) 0 >>= _) _ _ _
 apply qa
 refine zo e0 e2 (x:=.ref z) rfl ?_
 show wpAny _ _ (if (Value.ref z == Value.none)=true then _ else _) _ _ _
 rw [zi (show ¬ ((Value.ref z == Value.none)=true) from q5)]
 show wpAny _ _ (field (.ref u) 1 >>= _) _ _ _
 apply qa
 refine zo e0 e2 (x:=.int n 0) rfl ?_
 show wpAny _ _ (seqItems? (.ref z) >>= _) _ _ _
 apply qa
 refine wpAny_seqItems f0 f2 ?_
 simp only [qZ,hv]
 apply qa
 apply wpAny_rule
 apply qa
 refine wpAny_setField e0 e2 (by simp) ?_
 show wpAny _ _ (newExc (.type "StopIteration") [] >>= _) _ _ _
 apply qa
 simp only [newExc,newTuple]
 apply qa
 refine zp ?_ (by size_fits)
 refine qa (m:=firstArgMember _ _) (zw (a:=Value.none) (by first | rfl | (simp only [firstArgMember]; rfl)) (zp ?_ (by size_fits)))
 simp only [raiseNew]
 apply qa
 refine wpAny_handled ?_
 first | rw [show A.in1.handled=none from hh] | rw [hh]
 exact qa (qb (wpAny_throw (k _ _ (((Heap.SameBut.update ..).extBut.push _).push _) ⟨_,qd _ rfl,rfl⟩)))
theorem zhA {prog:Program} {w:World} {A:Around} (hh:A.handled=none) (u z:Addr) (hne:z≠u) (xs:Array Value):
  Draws prog w A u [u,z] xs.size (fun i v=>xs[i]?=some v) (fun i h=>h.IsTupleIter u z i/\h.IsTuple z xs) where
 live:=fun _ _ st=>let ⟨o,e,_⟩:=st.1; ⟨o,e⟩
 frame:=fun _ _ _ st k=>⟨st.1.at fun o e=>k u (by simp) o e,by obtain ⟨o,e,r⟩:=st.2; exact ⟨o,k z (by simp) o e,r⟩⟩
 item:=fun i s Q E hi st k=>zou st.1 st.2 (v:=xs[i]) (by simp [hi]) fun h' a b=>k _ h' s.toks (by simp [hi]) ⟨a,by obtain ⟨o,e,r⟩:=st.2; exact ⟨o,b.extBut _ _ hne e,r⟩⟩ b
 done:=fun s Q E st k=>zdn hh st.1 st.2 (by simp) k
inductive SrcI (P:Program) (w:World) (A:Around) (it:Addr) (J:It) (tn:Nat->Heap->Prop) (i:Nat) (s:Shared) (H:Hp):Prop
 | mk (fp:List Addr) (n:Nat) (Pr:Nat->Value->Prop) (Sx:Nat->Heap->Prop):Draws P w A it fp n Pr Sx->Sx i s.heap->i < n->it∈fp->(∀ b∈fp,b=it\/(H b≠none/\∃ o,s.heap.get? b=some o/\o.cls=.type "tuple")\/∃ o,s.heap.get? b=some o/\o.cls=.type "list")->(∀ v,Pr i v->∃ x,zO x v/\J.yld i H x H)->(∀ h',Sx (i + 1) h'->tn (i + 1) h')->SrcI P w A it J tn i s H
structure Src (P:Program) (w:World) (K:W.Frag) (J:It) (it:Addr) (tn:Nat->Heap->Prop):Prop where
 live:∀ i h,tn i h->∃ o,h.get? it=some o/\(∀ v,o.data≠.cell v)/\o.cls≠.type "enumerate"/\o.cls≠.type "zip"/\o.cls≠.type "tuple"/\o.cls≠.type "list"
 keep:∀ i h h',tn i h->(∀ o,h.get? it=some o->h'.get? it=some o)->tn i h'
 yl:∀ i H x H',J.yld i H x H'->H'=H
 item:∀ (X:Cx),X.prog=P->X.w=w->X.K=K->∀ (i:Nat) (zZ:List (Addr×Obj)) (s:Shared) (σ:St) (H:Hp) (A:Around),A.handled=none->Inv X zZ σ H s->tn i s.heap->H it=none->J.go i H->
  SrcI P w A it J tn i s H
 done:∀ (X:Cx),X.prog=P->X.w=w->X.K=K->∀ (i:Nat) (zZ:List (Addr×Obj)) (s:Shared) (σ:St) (H:Hp) (A:Around),A.handled=none->Inv X zZ σ H s->tn i s.heap->J.stop i H->∀ (Q:zz) (E:zz),
  (∀ h' e,Heap.ExtBut it s.heap h'->(∃ o,h'.get? e=some o/\o.cls=.type "StopIteration")->E (.ref e) { s with heap:=h' })->wpAny (model P w) A (Builtin.SmallTypes.nextOf (.ref it)) Q E s
theorem zfQ {P:Program} {w:World} {K:W.Frag} (a it:Addr):Src P w K (Itl K a) it (fun i h=>h.IsListIter it a i) where
 live:=fun i h st=>by
  obtain ⟨o,e,c,d⟩:=st
  exact ⟨o,e,fun v z=>by (rw [d] at z; cases z),by rw [c]; decide,by rw [c]; decide,by rw [c]; decide,by rw [c]; decide⟩
 keep:=fun i h h' st k=>st.at k
 yl:=fun i H x H' h=>h.1
 item:=by
  intro X hP hw hK i zZ s σ H A hh I st hn hg
  subst hP hw hK
  obtain ⟨xs,x,hq,hx⟩:=hg
  obtain ⟨z6,rv,p,hz⟩:=I.list hq
  obtain ⟨lo,l1,l2,l3⟩:=id p.isList
  have hne:a≠it:=fun z=>by
   obtain ⟨o,e,c,d⟩:=id st
   rw [<- z,l1] at e
   cases e
   rw [l2] at c
   exact absurd c (by decide)
  have hl:=rv.length
  have hi:i < z6.toArray.size:=by
   have:=(qi.mp hx).1
   rw [qu]; lia
  refine ⟨_,_,_,_,Draws.list hh it a hne z6.toArray,⟨st,p.isList⟩,hi,m1,fun b hb=>?_,fun v hv=>?_,fun h' z=>z.1⟩
  ·simp at hb
   rcases hb with rfl | rfl
   ·exact .inl rfl
   ·exact .inr (.inr ⟨lo,l1,l2⟩)
  ·obtain ⟨u,hu,ru⟩:=rv.get hx
   have:u=v:=by
    have hv':z6[i]?=some v:=by simpa using hv
    rw [hu] at hv'; exact qh hv'
   subst this
   exact ⟨x,ru,rfl,fun ys hy=>by rw [I.list_inj hy hq]; exact hx⟩
 done:=by
  intro X hP hw hK i zZ s σ H A hh I st hg Q E k
  subst hP hw hK
  obtain ⟨xs,hq,hx⟩:=hg
  obtain ⟨z6,rv,p,hz⟩:=I.list hq
  have hl:=rv.length
  exact wpAny_nextOf_list_end hh st p.isList (by simp; lia) k
def Itu (a:Addr):It:=⟨fun i H=>∃ xs x,H a=some (.tup xs)/\xs[i]?=some x,fun i H x H'=>H'=H/\∀ xs,H a=some (.tup xs)->xs[i]?=some x,fun i H=>∃ xs,H a=some (.tup xs)/\xs.length<=i⟩
theorem ziL {P:Program} {w:World} {K:W.Frag} (a it:Addr):Src P w K (Itu a) it (fun i h=>h.IsTupleIter it a i) where
 live:=fun i h st=>by
  obtain ⟨o,e,c,d⟩:=st
  exact ⟨o,e,fun v z=>by (rw [d] at z; cases z),by rw [c]; decide,by rw [c]; decide,by rw [c]; decide,by rw [c]; decide⟩
 keep:=fun i h h' st k=>st.at k
 yl:=fun i H x H' h=>h.1
 item:=by
  intro X hP hw hK i zZ s σ H A hh I st hn hg
  subst hP hw hK
  obtain ⟨xs,x,hq,hx⟩:=hg
  obtain ⟨z6,rv,p,hz⟩:=I.tuple (SqT.of hq)
  obtain ⟨lo,l1,l2,l3⟩:=id p
  have hne:a≠it:=fun z=>by rw [z,hn] at hq; cases hq
  have hl:=rv.length
  have hi:i < z6.toArray.size:=by
   grind
  refine ⟨_,_,_,_,zhA hh it a hne z6.toArray,⟨st,p⟩,hi,m1,fun b hb=>?_,fun v hv=>?_,fun h' z=>z.1⟩
  ·grind
  ·obtain ⟨u,hu,ru⟩:=rv.get hx
   have:u=v:=by
    grind
   subst this
   exact ⟨x,ru,rfl,fun ys hy=>by rw [hq] at hy; cases hy; exact hx⟩
 done:=by
  intro X hP hw hK i zZ s σ H A hh I st hg Q E k
  subst hP hw hK
  obtain ⟨xs,hq,hx⟩:=hg
  obtain ⟨z6,rv,p,hz⟩:=I.tuple (SqT.of hq)
  have hl:=rv.length
  exact zdn hh st p (by simp; lia) k
theorem zii {P:Program} {w:World} {K:W.Frag} (it:Addr) (x:Str) (t:Tok):Src P w K (Its x) it (fun i h=>h.IsStrIter it (strIterType x) x t i) where
 live:=fun i h st=>by
  obtain ⟨o,e,c,d⟩:=st
  have hc:o.cls=.type "str_ascii_iterator"\/o.cls=.type "str_iterator":=by
   rw [c]; unfold strIterType; split
   ·exact .inl rfl
   ·exact .inr rfl
  grind
 keep:=fun i h h' st k=>by
  obtain ⟨o,e,r⟩:=st
  exact ⟨o,k o e,r⟩
 yl:=fun i H x H' h=>h.1
 item:=by
  intro X hP hw hK i zZ s σ H A hh I st hn hg
  subst hP hw hK
  have fin:∀ v:Value,(∃ c u,x.cps[i]?=some c/\v=.str ⟨#[c]⟩ u)->∃ y,zO y v/\(Its x).yld i H y H:=fun v ⟨c,u,e,ev⟩=>⟨.str ⟨#[c]⟩,by rw [ev]; exact ⟨u,rfl⟩,rfl,c,e,rfl⟩
  cases ha:x.cps.all (· < 128)
  ·have e:strIterType x="str_iterator":=by unfold strIterType; rw [ha]; rfl
   rw [e] at st ⊢
   exact ⟨_,_,_,_,Draws.strWide hh it x t,st,hg,m1,fun b hb=>.inl (by simpa using hb),fin,fun _ z=>z⟩
  ·have e:strIterType x="str_ascii_iterator":=by unfold strIterType; rw [ha]; rfl
   rw [e] at st ⊢
   exact ⟨_,_,_,_,Draws.strAscii hh it x t,st,hg,m1,fun b hb=>.inl (by simpa using hb),fin,fun _ z=>z⟩
 done:=by
  intro X hP hw hK i zZ s σ H A hh I st hg Q E k
  have hn:x.cps[i]?=none:=by
   have:x.cps.size<=i:=hg
   simp [this]
  cases ha:x.cps.all (· < 128)
  ·have e:strIterType x="str_iterator":=by unfold strIterType; rw [ha]; rfl
   rw [e] at st
   exact wpAny_nextOf_wide_end hh st hn k
  ·have e:strIterType x="str_ascii_iterator":=by unfold strIterType; rw [ha]; rfl
   rw [e] at st
   exact wpAny_nextOf_ascii_end hh st hn k
end FL
namespace FL
def enumF (k:Nat):List D->List D
 | []=>[]
 | d::l=>.tup [.int k,d]::enumF (k + 1) l
def wEnum (a:WE):WI:=fun U Q E=>a U (fun r U1=>zJ (give r U1) fun p=>zJ (items p.1.toD) fun l=>Q (enumF 0 l) p.2) E
def zipD:List D->List D->List D
 | d::l,e::m=>.tup [d,e]::zipD l m
 | _,_=>[]
def wZip (a b:WE):WI:=fun U Q E=>a U (fun r U1=>b U1 (fun t U2=>zJ (give r U2) fun p=>zJ (give t p.2) fun q=>zJ (items p.1.toD) fun l=>zJ (items q.1.toD) fun m=>Q (zipD l m) q.2) E) E
theorem zeA:∀ (l:List D) (k i:Nat) (d:D),(enumF k l)[i]?=some d->∃ e,l[i]?=some e/\d=.tup [.int ((k + i:Nat):Int),e]
 | [],_,_,_,h=>by simp [enumF] at h
 | e::l,k,0,d,h=>by
   simp [enumF] at h
   exact ⟨e,rfl,by simpa using h.symm⟩
 | e::l,k,i + 1,d,h=>by
   obtain ⟨e',h1,h2⟩:=zeA l (k + 1) i d (by simpa [enumF] using h)
   exact ⟨e',by simpa using h1,by rw [h2]; congr 4; lia⟩
theorem ze3:∀ (l:List D) (k:Nat),(enumF k l).length=l.length
 | [],_=>rfl
 | _::l,k=>by simp [enumF,ze3 l]
theorem zd1:∀ (l m:List D) (i:Nat) (d:D),(zipD l m)[i]?=some d->∃ e f,l[i]?=some e/\m[i]?=some f/\d=.tup [e,f]
 | [],_,_,_,h=>by simp [zipD] at h
 | _::_,[],_,_,h=>by simp [zipD] at h
 | e::l,f::m,0,d,h=>by
   simp [zipD] at h
   exact ⟨e,f,rfl,rfl,h.symm⟩
 | e::l,f::m,i + 1,d,h=>by
   obtain ⟨e',f',h1,h2,h3⟩:=zd1 l m i d (by simpa [zipD] using h)
   exact ⟨e',f',by simpa using h1,by simpa using h2,h3⟩
theorem zdG:∀ (l m:List D),(zipD l m).length=min l.length m.length
 | [],_=>by simp [zipD]
 | _::_,[]=>by simp [zipD]
 | _::l,_::m=>by simp [zipD,zdG l m]
end FL
namespace FL
open PySem PySem.Spec PyProof.Rows L2
open AutoSeq1 (wpAny_loadPart')
theorem za0 {ch:List Addr} (I:Inv X zZ σ H s) (hf:∀ b∈ch,FpOk X zZ H b) (k:∀ b o,b∉ch->s.heap.get? b=some o->h'.get? b=some o):Inv X zZ σ H { s with heap:=h',toks:=t' }:=by
 have nit:∀ b u,H b=some u->b∉ch:=fun b u e z=>by rw [(hf b z).1] at e; cases e
 refine I.step (g':=s.gens) (d':=s.drawn) (ch:=ch) (fun b hb=>?_) (fun b o _ _ hc e _=>k b o hc e) (fun b o _ _ hc e _=>⟨o.slots,k b o hc e⟩) (fun _ _ _ _ n=>n)
  (fun b o hc e=>⟨o,k b o hc e⟩) (fun _ _ e=>e) (fun _ _ _ e=>e) (fun b ps e=>⟨#[],by rw [e]; simp⟩) (fun m hm=>?_) (fun b u e=>?_) I.bare
 ·obtain ⟨f0,f1,f2,f3,f4,f5⟩:=hf b hb
  exact ⟨f3,f1,f4,f5⟩
 ·obtain ⟨o,es,ep,ho,r⟩:=hm
  exact ⟨o,es,ep,k _ o (fun z=>(hf _ z).2.1 rfl) ho,r⟩
 ·refine (I.hok b u e).stay (fun c v hc q=>k c v ?_ q) (fun _ q=>q) fun _ _ q=>q
  grind
theorem zfX (f:FpOk X zZ H b) (h:b≠T):FpOk X zZ (L2.upd H T o) b:=⟨by rw [zag h]; exact f.1,f.2⟩
theorem zbA {ch:List Addr} (I:Inv X zZ σ H s) (hf:∀ b∈ch,FpOk X zZ H b) (hl:∀ b∈ch,b < s.heap.objs.size) (hz:xs.length<=sizeLine) (rv:zW xs us)
  (hT:∃ o,h'.get? s.heap.objs.size=some o/\o.cls=.type "tuple"/\o.dict=none/\∃ n,o.data=.seq us.toArray n) (k:∀ b o,b∉ch->s.heap.get? b=some o->h'.get? b=some o):
  Inv X zZ σ (L2.upd H s.heap.objs.size (.tup xs)) { s with heap:=h',toks:=t' }:=by
 obtain ⟨o,e,c,nd,n,d⟩:=hT
 have hfree:o.isFreed=false:=by
  obtain ⟨oc,od,odt,osl⟩:=o
  have d':odt=.seq us.toArray n:=d
  subst d'
  rfl
 have I1:Inv X zZ σ (L2.upd H s.heap.objs.size (.tup xs)) { s with heap:=s.heap.push o }:=I.laid (t':=s.toks) (fun b u q=>qc _ q) (zj _) ⟨⟨hz,fun o' q=>by rw [qd _ hfree] at q; cases q; exact nd⟩,us,rv,⟨o,qd _ hfree,c,n,d⟩⟩
 have I2:=za0 I1 (h':=h') (t':=t') (ch:=ch) (fun b hb=>zfX (hf b hb) (ne_of_lt (hl b hb))) fun b u hb q=>by
  rcases Heap.get?_push_cases q with ⟨rfl,rfl⟩ | q
  ·exact e
  ·exact k b u hb q
 exact I2
def Ite (J:It):It:=⟨J.go,fun i H x H'=>∃ p y,H p=none/\J.yld i H y H/\x=.ref p/\H'=upd H p (.tup [.int i,y]),J.stop⟩
theorem zkl (he:IsEnum s.heap e it i old) (hd:∀ (Q:zz) (E:zz),(∀ h' x,Heap.ExtBut it s.heap h'->(∃ o,h'.get? x=some o/\o.cls=.type "StopIteration")->E (.ref x) { s with heap:=h' })->wpAny (model prog w) A.in1 (Builtin.SmallTypes.nextOf (.ref it)) Q E s)
  (hQ:∀ h',Heap.ExtBut it s.heap h'->Q none { s with heap:=h' }):wpAny (model prog w) A (pyNext (.ref e)) Q E s:=by
 have ty:s.TypeIs (.ref e) "enumerate":=⟨_,he,rfl⟩
 unfold pyNext
 apply qa
 apply wpAny_attempt
 refine wpAny_callSpecial?_slot (name:=Str.ofString "__next__") ty F.slot_enumerate_next (zr F.slot_enumerate_next ty F.entry_enumerate_next ?_ (F.args_enumerate_next_1 _))
 show wpAny _ _ (field (.ref e) 2 >>= _) _ _ _
 apply qa
 refine zo he rfl (x:=.ref it) rfl (qa (hd _ _ fun h' x hx1 hx2=>?_))
 obtain ⟨o,ho,hc⟩:=hx2
 exact qa (wpAny_isInstance (T:="StopIteration") (b:=true) ⟨o,ho,hc⟩ isSubtype_stop (qb (hQ _ hx1)))
theorem zif {P:Program} {w:World} {K:W.Frag} {J:It} {it e:Addr} {tn:Nat->Heap->Prop} {elts:List Expr} {k:Nat} {pos:Pos} (S:Src P w K J it tn) (hei:e≠it):
  Turn P w K (.Tuple elts k pos) (Ite J) [e,it] e (fun i h=>(∃ old,IsEnum h e it i old)/\tn i h) where
 mem:=m1
 obj:=fun i h st b hb=>by
  simp at hb
  rcases hb with rfl | rfl
  ·obtain ⟨old,q⟩:=st.1
   exact ⟨_,q,fun v z=>by cases z⟩
  ·obtain ⟨o,h1,h2,_⟩:=S.live i h st.2
   exact ⟨o,h1,h2⟩
 keep:=fun i h h' st kk=>by
  obtain ⟨⟨old,q⟩,t⟩:=st
  exact ⟨⟨old,kk e (m1) _ q⟩,S.keep i h h' t fun o q=>kk it (m2) o q⟩
 item:=by
  intro X hP hw hK hc i zZ s σ H E I hf st hg
  obtain ⟨⟨old,he⟩,ht⟩:=st
  have hh:X.A.in1.handled=none:=I.ok.hd hc
  obtain ⟨fp,n,Pr,Sx,D,hS,hin,hif,hfp,hv,hs⟩:=S.item X hP hw hK i zZ s σ H X.A.in1 hh I ht (hf it (m2)).1 hg
  have hef:e∉fp:=fun z=>by
   grind
  have hel:e < s.heap.objs.size:=qg he
  obtain ⟨oi,hoi,_⟩:=S.live i _ ht
  have hil:it < s.heap.objs.size:=qg hoi
  subst hP hw hK
  refine wpAny_pyNext_enum_itemD (A:=X.A) D he hS hin hei hef fun x h1 tk hPx ho hS1 hT hsz hk=>?_
  obtain ⟨y,ry,hy⟩:=hv x hPx
  refine ⟨_,rfl,wpAny_letOwnedTupleGo_enum ho fun h2 he2 sb=>?_⟩
  have ne:s.heap.objs.size≠e:=ne_of_gt hel
  have I2:Inv X zZ σ (upd H s.heap.objs.size (.tup [.int i,y])) { s with heap:=h2,toks:=tk + 1 }:=zbA I (ch:=[e,it]) (us:=[.int i tk,x]) hf (fun b hb=>by
    simp at hb
    rcases hb with rfl | rfl
    ·exact hel
    ·exact hil) (by show 2<=_; decide) (.cons ⟨_,rfl⟩ (.cons ry .nil)) ⟨_,sb.extBut _ _ ne hT,rfl,rfl,_,rfl⟩ fun b o hb q=>by
   simp at hb
   exact sb.extBut _ _ hb.1 (hk b o hb.1 hb.2 q)
  refine ⟨.ref s.heap.objs.size,_,I2,rfl,⟨s.heap.objs.size,y,I.hok.fresh (zj _),hy,rfl,rfl⟩,⟨⟨x,by simpa using he2⟩,S.keep _ _ _ (hs _ hS1) fun o q=>sb.extBut _ _ (Ne.symm hei) q⟩,fun b hb=>?_⟩
  simp at hb
  rcases hb with rfl | rfl
  ·rw [zag (ne_of_lt hel)]; exact (hf _ (m1)).1
  ·rw [zag (ne_of_lt hil)]; exact (hf _ (m2)).1
 done:=by
  intro X hP hw hK hc i zZ s σ H E I hf st hg
  obtain ⟨⟨old,he⟩,ht⟩:=st
  have hh:X.A.in1.handled=none:=I.ok.hd hc
  refine zkl he (S.done X hP hw hK i zZ s σ H X.A.in1 hh I ht hg) fun h' hx=>⟨rfl,za0 I (t':=s.toks) (ch:=[it]) (fun b hb=>hf b (by simp at hb; simp [hb])) fun b o hb q=>hx b o (by simpa using hb) q⟩
 self:=fun A i s Q E st h=>by
  obtain ⟨⟨old,he⟩,_⟩:=st
  exact wpAny_pyIter_enum he h
abbrev enumH (h:Heap) (z:Addr):Heap:=(h.push { cls:=.type "tuple_iterator",data:=.fields #[.ref z,.int 0 0] }).push { cls:=.type "enumerate",data:=.fields #[.none,.bool false,.ref h.objs.size,rawInt 0,.none,.none] }
set_option maxHeartbeats 1000000 in
theorem zhh (z:Addr) (xs:Array Value) (n:Nat) (dd:Option Addr) (sl:Array (Option Value)):Meets (Builtin.«enumerate.__new__» ⟨[.type "enumerate",.ref z],[]⟩) (fun _ R s=>s.heap.get? z=some { cls:=.type "tuple",dict:=dd,data:=.seq xs n,slots:=sl }/\
  R (.ok (.ret (.ref (s.heap.objs.size + 1)))) { s with heap:=enumH s.heap z }):=
 .of_wp fun prog w A R s hyp=>by
  obtain ⟨hp,g,d,tk,os⟩:=s
  obtain ⟨hl,hr⟩:=hyp
  have ss:=sub_enumerate
  have hz:(hp.push { cls:=.type "tuple_iterator",data:=.fields #[.ref z,.int 0 0] }).objs.size=hp.objs.size + 1:=Heap.size_push ..
  have hr':R (.ok (.ret (.ref (hp.push { cls:=.type "tuple_iterator",data:=.fields #[.ref z,.int 0 0] }).objs.size))) { heap:=enumH hp z,gens:=g,drawn:=d,toks:=tk,os:=os }:=by rw [hz]; exact hr
  have hT:Heap.IsTuple (Shared.heap ⟨hp,g,d,tk,os⟩) z xs:=⟨_,hl,rfl,n,rfl⟩
  wp_walk using wpAny_loadPart' hl
  refine wpAny_stack_any fun st=>qb ?_
  split
  ·rename_i c _ _ _ _ _
   cases (c == Value.type "enumerate") <;> (wp_walk using wpAny_loadPart' hl,wpAny_pyIter_tuple hT; exact ⟨_,rfl,hr'⟩)
  ·wp_walk using wpAny_loadPart' hl,wpAny_pyIter_tuple hT
   exact ⟨_,rfl,hr'⟩
theorem zjy (hT:s.heap.IsTuple z xs)
  (k:∀ h',IsEnum h' (s.heap.objs.size + 1) s.heap.objs.size 0 .none->h'.IsTupleIter s.heap.objs.size z 0->(∀ b o,s.heap.get? b=some o->h'.get? b=some o)->Q (.ref (s.heap.objs.size + 1)) { s with heap:=h' }):
  wpAny (model prog w) A (call (.type "enumerate") [.ref z]) Q E s:=by
 obtain ⟨⟨c,dd,dt,sl⟩,hl,hc,n,hd⟩:=hT
 have e1:c=.type "tuple":=hc
 have e2:dt=.seq xs n:=hd
 subst e1 e2
 refine callType_new F.called_enumerate (by decide) (F.typeCall_enumerate_1 _) (F.newCall_enumerate_1 _) (fun obj=>F.args_object_init_2 obj _) F.entry_enumerate_new (zhh z xs n dd sl) ⟨hl,?_⟩
 have hz:(s.heap.push { cls:=.type "tuple_iterator",data:=.fields #[.ref z,.int 0 0] }).objs.size=s.heap.objs.size + 1:=Heap.size_push ..
 have he:IsEnum (enumH s.heap z) (s.heap.objs.size + 1) s.heap.objs.size 0 .none:=by
  have:=qd (s.heap.push { cls:=.type "tuple_iterator",data:=.fields #[.ref z,.int 0 0] }) (o:={ cls:=.type "enumerate",data:=.fields #[.none,.bool false,.ref s.heap.objs.size,rawInt 0,.none,.none] }) rfl
  rw [hz] at this
  exact this
 exact ⟨⟨_,he,rfl⟩,k _ he ⟨_,qc _ (qd _ rfl),rfl,rfl⟩ fun b o x=>qc _ (qc _ x)⟩
def iEnum (K:W.Frag) (tl:TA):TI:=fun σ H R=>tl σ H fun vs H1=>(∃ a,vs=[.ref a]/\(∃ xs,SqL K H1 a xs)/\R (Ite (Itl K a)) H1)\/(∃ a,vs=[.ref a]/\(∃ xs,H1 a=some (.tup xs))/\R (Ite (Itu a)) H1)\/∃ x,vs=[.str x]/\R (Ite (Its x)) H1
theorem zma (hc:X.calm=true) (hg:Gl X "enumerate") (hm:X.mg "enumerate"=none) (hv:bootBuiltins "enumerate"=some (.type "enumerate")) (hl:PA X [a] tl)
  (hs:starEach [a] X.env=[(false,eval a X.env)]:=by rfl):PI X (.Tuple elts kk tpos) (.Call (.Name "enumerate" p) [a] [] pos) (iEnum X.K tl):=by
 intro zZ s σ H R I h
 refine wpAny_Call_Name_kw (zbf I hg hm hv ?_ (by decide) (by decide))
 refine PyProof.Rows.callWith_type1 (thn (hl pos zZ s σ H _ I h) fun us s1 zq=>?_) hs rfl
 obtain ⟨vs,H1,I1,r1,q1⟩:=zq
 have fin:∀ {J:It} {tn:Nat->Heap->Prop} {h':Heap},Src X.prog X.w X.K J s1.heap.objs.size tn->R (Ite J) H1->IsEnum h' (s1.heap.objs.size + 1) s1.heap.objs.size 0 .none->tn 0 h'->(∀ b o,s1.heap.get? b=some o->h'.get? b=some o)->
   wpAny (model X.prog X.w) X.A (pyIter (.ref (s1.heap.objs.size + 1))) (PIE X zZ σ (.Tuple elts kk tpos) R) X.xe { s1 with heap:=h' }:=fun {J tn h'} S hR he ht kp=>by
  refine wpAny_pyIter_enum (s:={ s1 with heap:=h' }) he ?_
  refine ⟨s1.heap.objs.size + 1,[s1.heap.objs.size + 1,s1.heap.objs.size],_,_,H1,rfl,I1.kept (t':=s1.toks) kp,zif S (Nat.succ_ne_self _),⟨⟨_,he⟩,ht⟩,fun b hb=>?_,hR⟩
  simp at hb
  rcases hb with rfl | rfl
  ·exact I1.fpOk (le_succ _) (I1.hok.fresh (le_succ _))
  ·exact I1.fpOk (zj _) (I1.hok.fresh (zj _))
 rcases q1 with ⟨b,e,⟨xs,hq⟩,q⟩ | ⟨b,e,⟨xs,hq⟩,q⟩ | ⟨x,e,q⟩
 ·subst e
  obtain ⟨u,rfl,ru⟩:=vals1 r1
  cases ru
  obtain ⟨z6,rv,pl,hz⟩:=I1.list hq
  exact call_enumerate_list pl.isList fun h' he hi _ kp=>fin (zfQ b _) q he hi kp
 ·subst e
  obtain ⟨u,rfl,ru⟩:=vals1 r1
  cases ru
  obtain ⟨z6,rv,pl,hz⟩:=I1.tuple (SqT.of hq)
  exact zjy pl fun h' he hi kp=>fin (ziL b _) q he hi kp
 ·subst e
  obtain ⟨u,rfl,ru⟩:=vals1 r1
  obtain ⟨t,rfl⟩:=ru
  exact call_enumerate_str fun h' he hi _ kp=>fin (zii _ x t) q he hi kp
theorem zc4 {K:W.Frag} (hy:∀ i H x H',J.yld i H x H'->H'=H) (h:ItOk K J l F0):ItOk K (Ite J) (enumF 0 l) F0:=fun i U σ F G H sm z4=>by
 obtain ⟨h1,h2⟩:=h i U σ F G H sm z4
 refine ⟨fun d hd=>?_,fun hl=>h2 (by rw [ze3] at hl; exact hl)⟩
 obtain ⟨e,he,rfl⟩:=zeA l 0 i d hd
 obtain ⟨g1,g2⟩:=h1 e he
 refine ⟨g1,fun x H' zq=>?_⟩
 obtain ⟨p,y,hp,hyl,ex,eH⟩:=zq
 subst ex eH
 obtain ⟨F',s1,r1,rp⟩:=g2 y H hyl
 obtain ⟨f0,_,_⟩:=r1.free hp
 refine ⟨upd F' p (.tup [.int i,y]),s1.trans (zK.upd f0),r1.newF hp,?_⟩
 have:=Rep.tup (K:=K) (F:=upd F' p (.tup [.int i,y])) (a:=p) (xs:=[.int i,y]) (ds:=[.int i,e]) zai (.cons (.int i) (.cons (rp.mono (zK.upd f0)) .nil))
 simpa using this
theorem zgc {K:W.Frag} {a:Addr} (e:F0 a=some (.tup xs)) (r:zX K F0 xs l):ItOk K (Itu a) l F0:=fun i U σ F G H sm z4=>by
 have e':H a=some (.tup xs):=(sm.trans z4.fr) _ _ e
 refine ⟨fun d hd=>?_,fun h=>⟨xs,e',by rw [r.len]; exact h⟩⟩
 obtain ⟨x,hx,rx⟩:=r.get hd
 refine ⟨⟨xs,x,e',hx⟩,fun y H' hy=>?_⟩
 obtain ⟨rfl,hy⟩:=hy
 have:x=y:=qh (hx.symm.trans (hy xs e'))
 subst this
 exact ⟨F,zK.refl F,z4,rx.mono sm⟩
theorem zbm:bootBuiltins "enumerate"=some (.type "enumerate"):=by decide +kernel
theorem zfH (hc:X.calm=true) (hg:Gl X "enumerate") (hm:X.mg "enumerate"=none) (hv:bootBuiltins "enumerate"=some (.type "enumerate")) (ha:FE X a we) (hs:starEach [a] X.env=[(false,eval a X.env)]:=by rfl):
  FI X (.Tuple elts kk tpos) (.Call (.Name "enumerate" p) [a] [] pos) (wEnum we):=fun pn xe hp=>by
 refine PI.imp (zma (X:=wp X pn xe) hc hg hm hv (zaa ha zab hs pn xe hp) hs) fun σ H R q=>?_
 obtain ⟨F,G,U,P,PX,z4,hw,hok,hx⟩:=q
 refine ⟨F,G,U,fun rs U1=>match rs with | [r]=>(zJ (give r U1) fun p=>zJ (items p.1.toD) fun l=>P (enumF 0 l) p.2) | _=>False,PX,z4,hw,fun rs U1 vs F1 H1 hk s1 r1 hl rv=>?_,hx⟩
 match rs,vs,rv,r1,hk with
 | [r],[v],rv,r1,hk=>
   dsimp only at hk
   obtain ⟨⟨s,U2⟩,eg,hk⟩:=zad hk
   obtain ⟨l,el,hk⟩:=zad hk
   obtain ⟨F2,s2,l2,r2⟩:=giveR (U':=[]) (σ':=[]) r1 hl rv.1 eg
   obtain ⟨F3,s3,rp,r3⟩:=Rel.giveD (U:=U2) (vs:=[v]) (ss:=[s]) r2 (l2.trans hl)
   have sm:=s1.trans (s2.trans s3)
   cases rp with
   | cons a0 b0=>
     have el':items s.toD=some l:=el
     generalize s.toD=d at a0 el'
     cases a0 with
     | lst e0 r0=>
       cases el'
       exact .inl ⟨_,rfl,⟨_,SqL.mono r3.fr e0⟩,hok _ U2 F3 H1 _ hk sm r3 (zc4 (fun _ _ _ _ z=>z.1) (zcV e0 r0))⟩
     | tup e0 r0=>
       cases el'
       exact .inr (.inl ⟨_,rfl,⟨_,r3.fr _ _ e0⟩,hok _ U2 F3 H1 _ hk sm r3 (zc4 (fun _ _ _ _ z=>z.1) (zgc e0 r0))⟩)
     | str e0 z0=>
       cases el'
       exact .inr (.inr ⟨_,rfl,hok _ U2 F3 H1 _ hk sm r3 (zc4 (fun _ _ _ _ z=>z.1) (zed e0))⟩)
     | _=>cases el'
 | [],_,_,_,hk=>exact hk.elim
 | [_],[],rv,_,_=>exact rv.elim
 | [_],_::_::_,rv,_,_=>exact rv.2.elim
 | _::_::_,_,_,_,hk=>exact hk.elim
end FL
namespace FL
open PySem PySem.Spec PyProof.Rows L2
structure ZAp (z TI TO i1 i2:Addr) (f1 f2:List Addr):Prop where
 a1:TI≠z
 a2:TO≠z
 a3:TI≠TO
 a4:TI≠i1
 a5:TI≠i2
 m1:i1∈f1
 m2:i2∈f2
 z1:z∉f1
 z2:z∉f2
 o1:TO∉f1
 o2:TO∉f2
 c1:i1∉f2
 c2:i2∉f1
section
variable {z TI TO i1 i2:Addr}
theorem zam {f:List Addr} (ha:a∈f) (hb:b∉f):a≠b:=fun q=>hb (q ▸ ha)
theorem zmF {Q:zz} (Z:ZAp z TI TO i1 i2 f1 f2) (D1:Draws prog w A i1 f1 n1 P1 S1) (D2:Draws prog w A i2 f2 n2 P2 S2)
  (hz:IsZip s.heap z TI TO .none) (hI:IsPair s.heap TI (.ref i1) (.ref i2)) (hO:IsPair s.heap TO a b) (t1:S1 k1 s.heap) (t2:S2 k2 s.heap) (l1:k1 < n1) (l2:k2 < n2)
  (k:∀ x y h' tk,P1 k1 x->P2 k2 y->IsZip h' z TI TO (rawInt s.heap.objs.size)->(∃ c d,IsPair h' TO c d)->S1 (k1 + 1) h'->S2 (k2 + 1) h'->IsPair h' s.heap.objs.size x y->
   (∀ c o,c≠z->c≠TO->c≠i1->c≠i2->s.heap.get? c=some o->h'.get? c=some o)->Q (.ref s.heap.objs.size) { s with heap:=h',toks:=tk }):
  wpAny (model prog w) A (Builtin.«zip.__next__» ⟨[.ref z],[]⟩) (fun fin s'=>∃ v,fin=.done (.ret v)/\Q v s') E s:=by
 have i1z:=zam Z.m1 Z.z1
 have i2z:=zam Z.m2 Z.z2
 have i1o:=zam Z.m1 Z.o1
 have i2o:=zam Z.m2 Z.o2
 have i12:=zam Z.m1 Z.c2
 show wpAny _ _ (field (.ref z) 2 >>= _) _ _ _
 apply qa
 refine zo hz rfl (x:=.bool false) rfl ?_
 show wpAny _ _ (field (.ref z) 3 >>= _) _ _ _
 apply qa
 refine zo hz rfl (x:=.ref TI) rfl ?_
 apply qa
 refine wpAny_seqItems hI rfl ?_
 show wpAny _ _ (Builtin.SmallTypes.ownedTupleIsFree (.ref z) >>= _) _ _ _
 apply qa
 unfold Builtin.SmallTypes.ownedTupleIsFree
 apply qa
 refine zo hz rfl (x:=.none) rfl (qb ?_)
 simp only [if_true]
 apply qa
 apply wpAny_rule
 apply qa
 refine zo hz rfl (x:=.ref TO) rfl ?_
 apply qa
 refine zu hz (by simp) fun ha za sa=>?_
 have za':IsZip ha z TI TO .ellipsis:=za
 apply qa
 simp only [zipIdx_cons,zipIdx_nil,forIn_cons,forIn_nil]
 apply qa
 apply qa
 apply wpAny_onRaise
 show wpAny _ _ (Builtin.SmallTypes.nextOf (.ref i1) >>= _) _ _ _
 apply qa
 have t1a:S1 k1 ha:=D1.frame _ _ _ t1 fun c hc o q=>sa.extBut _ _ (zam hc Z.z1) q
 have t2a:S2 k2 ha:=D2.frame _ _ _ t2 fun c hc o q=>sa.extBut _ _ (zam hc Z.z2) q
 refine D1.item k1 _ _ _ l1 t1a fun x hb tb px t1b sb=>qb ?_
 have hOb:IsPair hb TO a b:=sb.extBut _ _ (Ne.symm i1o) (sa.extBut _ _ Z.a2 hO)
 apply qa
 refine wpAny_seqItems hOb rfl ?_
 apply qa
 refine wpAny_updateSeq_pair hOb fun hc hOc sc=>?_
 have hOc':IsPair hc TO x b:=hOc
 refine qa (wpAny_letGo (qb ?_))
 apply qa
 apply qa
 apply wpAny_onRaise
 show wpAny _ _ (Builtin.SmallTypes.nextOf (.ref i2) >>= _) _ _ _
 apply qa
 have t2c:S2 k2 hc:=D2.frame _ _ _ t2a fun c hcm o q=>sc.extBut _ _ (zam hcm Z.o2) (sb.extBut _ _ (zam hcm Z.c1) q)
 refine D2.item k2 _ _ _ l2 t2c fun y hd td py t2d sd=>qb ?_
 have hOd:IsPair hd TO x b:=sd.extBut _ _ (Ne.symm i2o) hOc'
 apply qa
 refine wpAny_seqItems hOd rfl ?_
 apply qa
 refine wpAny_updateSeq_pair hOd fun he hOe se=>?_
 have hOe':IsPair he TO x y:=hOe
 refine qa (wpAny_letGo (qb (qb ?_)))
 apply qa
 refine wpAny_seqItems hOe' rfl ?_
 apply qa
 refine wpAny_newTuple ?_
 have hsz:he.objs.size=s.heap.objs.size:=by rw [se.1,sd.1,sc.1,sb.1,sa.1]
 have ze:IsZip he z TI TO .ellipsis:=se.extBut _ _ (Ne.symm Z.a2) (sd.extBut _ _ (Ne.symm i2z) (sc.extBut _ _ (Ne.symm Z.a2) (sb.extBut _ _ (Ne.symm i1z) za')))
 have t1e:S1 (k1 + 1) he:=D1.frame _ _ _ t1b fun c hcm o q=>se.extBut _ _ (zam hcm Z.o1) (sd.extBut _ _ (zam hcm Z.c2) (sc.extBut _ _ (zam hcm Z.o1) q))
 have t2e:S2 (k2 + 1) he:=D2.frame _ _ _ t2d fun c hcm o q=>se.extBut _ _ (zam hcm Z.o2) q
 have old:∀ c o,c≠z->c≠TO->c≠i1->c≠i2->s.heap.get? c=some o->he.get? c=some o:=fun c o q1 q2 q3 q4 q=>se.extBut _ _ q2 (sd.extBut _ _ q4 (sc.extBut _ _ q2 (sb.extBut _ _ q3 (sa.extBut _ _ q1 q))))
 have zlt:z < he.objs.size:=qg ze
 show wpAny _ _ (Builtin.SmallTypes.ownedTupleHandOut (.ref z) (.ref he.objs.size) >>= _) _ _ _
 apply qa
 unfold Builtin.SmallTypes.ownedTupleHandOut
 have zf:IsZip (he.push { cls:=.type "tuple",data:=.seq #[x,y] }) z TI TO .ellipsis:=qc _ ze
 apply qa
 refine zu zf (by simp) fun hg zg sg=>?_
 have zg':IsZip hg z TI TO (rawInt he.objs.size):=zg
 refine zu zg' (by simp) fun hh zh sh=>?_
 have zh':IsZip hh z TI TO (rawInt he.objs.size):=zh
 have up:∀ c o,c≠z->he.get? c=some o->hh.get? c=some o:=fun c o q1 q=>sh.extBut _ _ q1 (sg.extBut _ _ q1 (qc _ q))
 have pT:IsPair hh he.objs.size x y:=sh.extBut _ _ (ne_of_gt zlt) (sg.extBut _ _ (ne_of_gt zlt) (qd _ rfl))
 rw [hsz] at zh' pT
 refine qb ⟨_,rfl,?_⟩
 show Q (.ref he.objs.size) _
 rw [hsz]
 exact k x y hh _ px py zh' ⟨_,_,up _ _ Z.a2 hOe'⟩ (D1.frame _ _ _ t1e fun c hcm o q=>up c o (zam hcm Z.z1) q) (D2.frame _ _ _ t2e fun c hcm o q=>up c o (zam hcm Z.z2) q) pT fun c o q1 q2 q3 q4 q=>up c o q1 (old c o q1 q2 q3 q4 q)
theorem zjN (i1z:i1≠z) (hz:IsZip s.heap z TI TO .none) (hI:IsPair s.heap TI (.ref i1) (.ref i2))
  (d:∀ ha,Heap.SameBut z s.heap ha->∀ (Q:zz) (E:zz),(∀ h' e,Heap.ExtBut i1 ha h'->(∃ o,h'.get? e=some o/\o.cls=.type "StopIteration")->E (.ref e) { s with heap:=h' })->wpAny (model prog w) A (Builtin.SmallTypes.nextOf (.ref i1)) Q E { s with heap:=ha })
  (k:∀ h' e,(∀ c o,c≠z->c≠i1->s.heap.get? c=some o->h'.get? c=some o)->(∃ o,h'.get? e=some o/\o.cls=.type "StopIteration")->E (.ref e) { s with heap:=h' }):
  wpAny (model prog w) A (Builtin.«zip.__next__» ⟨[.ref z],[]⟩) Q E s:=by
 show wpAny _ _ (field (.ref z) 2 >>= _) _ _ _
 apply qa
 refine zo hz rfl (x:=.bool false) rfl ?_
 show wpAny _ _ (field (.ref z) 3 >>= _) _ _ _
 apply qa
 refine zo hz rfl (x:=.ref TI) rfl ?_
 apply qa
 refine wpAny_seqItems hI rfl ?_
 show wpAny _ _ (Builtin.SmallTypes.ownedTupleIsFree (.ref z) >>= _) _ _ _
 apply qa
 unfold Builtin.SmallTypes.ownedTupleIsFree
 apply qa
 refine zo hz rfl (x:=.none) rfl (qb ?_)
 simp only [if_true]
 apply qa
 apply wpAny_rule
 apply qa
 refine zo hz rfl (x:=.ref TO) rfl ?_
 apply qa
 refine zu hz (by simp) fun ha za sa=>?_
 have za':IsZip ha z TI TO .ellipsis:=za
 apply qa
 simp only [zipIdx_cons,zipIdx_nil,forIn_cons,forIn_nil]
 apply qa
 apply qa
 apply wpAny_onRaise
 show wpAny _ _ (Builtin.SmallTypes.nextOf (.ref i1) >>= _) _ _ _
 apply qa
 refine d ha sa _ _ fun hb e xb st=>?_
 obtain ⟨oe,q1,q2⟩:=st
 have zb:IsZip hb z TI TO .ellipsis:=xb _ _ (Ne.symm i1z) za'
 have ez:e≠z:=fun q=>by subst q; rw [zb] at q1; cases q1; simp at q2
 exact zu zb (by simp) fun hc _ sc=>k hc e (fun c o c1 c2 q=>sc.extBut _ _ c1 (xb _ _ c2 (sa.extBut _ _ c1 q))) ⟨oe,sc.extBut _ _ ez q1,q2⟩
theorem zjA (D1:Draws prog w A i1 f1 n1 P1 S1) (m1:i1∈f1) (z1:z∉f1) (o1:TO∉f1) (TOz:TO≠z) (i2z:i2≠z)
  (hz:IsZip s.heap z TI TO .none) (hI:IsPair s.heap TI (.ref i1) (.ref i2)) (hO:IsPair s.heap TO a b) (t1:S1 k1 s.heap) (l1:k1 < n1)
  (d:∀ hc tk,(∀ c o,c≠z->c≠TO->c≠i1->s.heap.get? c=some o->hc.get? c=some o)->∀ (Q:zz) (E:zz),(∀ h' e,Heap.ExtBut i2 hc h'->(∃ o,h'.get? e=some o/\o.cls=.type "StopIteration")->E (.ref e) { s with heap:=h',toks:=tk })->wpAny (model prog w) A (Builtin.SmallTypes.nextOf (.ref i2)) Q E { s with heap:=hc,toks:=tk })
  (k:∀ h' e tk,(∀ c o,c≠z->c≠TO->c≠i1->c≠i2->s.heap.get? c=some o->h'.get? c=some o)->(∃ o,h'.get? e=some o/\o.cls=.type "StopIteration")->E (.ref e) { s with heap:=h',toks:=tk }):
  wpAny (model prog w) A (Builtin.«zip.__next__» ⟨[.ref z],[]⟩) Q E s:=by
 have i1z:=zam m1 z1
 have i1o:=zam m1 o1
 show wpAny _ _ (field (.ref z) 2 >>= _) _ _ _
 apply qa
 refine zo hz rfl (x:=.bool false) rfl ?_
 show wpAny _ _ (field (.ref z) 3 >>= _) _ _ _
 apply qa
 refine zo hz rfl (x:=.ref TI) rfl ?_
 apply qa
 refine wpAny_seqItems hI rfl ?_
 show wpAny _ _ (Builtin.SmallTypes.ownedTupleIsFree (.ref z) >>= _) _ _ _
 apply qa
 unfold Builtin.SmallTypes.ownedTupleIsFree
 apply qa
 refine zo hz rfl (x:=.none) rfl (qb ?_)
 simp only [if_true]
 apply qa
 apply wpAny_rule
 apply qa
 refine zo hz rfl (x:=.ref TO) rfl ?_
 apply qa
 refine zu hz (by simp) fun ha za sa=>?_
 have za':IsZip ha z TI TO .ellipsis:=za
 apply qa
 simp only [zipIdx_cons,zipIdx_nil,forIn_cons,forIn_nil]
 apply qa
 apply qa
 apply wpAny_onRaise
 show wpAny _ _ (Builtin.SmallTypes.nextOf (.ref i1) >>= _) _ _ _
 apply qa
 have t1a:S1 k1 ha:=D1.frame _ _ _ t1 fun c hc o q=>sa.extBut _ _ (zam hc z1) q
 refine D1.item k1 _ _ _ l1 t1a fun x hb tb px t1b sb=>qb ?_
 have hOb:IsPair hb TO a b:=sb.extBut _ _ (Ne.symm i1o) (sa.extBut _ _ TOz hO)
 apply qa
 refine wpAny_seqItems hOb rfl ?_
 apply qa
 refine wpAny_updateSeq_pair hOb fun hc hOc sc=>?_
 refine qa (wpAny_letGo (qb ?_))
 apply qa
 apply qa
 apply wpAny_onRaise
 show wpAny _ _ (Builtin.SmallTypes.nextOf (.ref i2) >>= _) _ _ _
 apply qa
 refine d hc tb (fun c o c1 c2 c3 q=>sc.extBut _ _ c2 (sb.extBut _ _ c3 (sa.extBut _ _ c1 q))) _ _ fun hd e xd st=>?_
 obtain ⟨oe,q1,q2⟩:=st
 have zd:IsZip hd z TI TO .ellipsis:=xd _ _ (Ne.symm i2z) (sc.extBut _ _ (Ne.symm TOz) (sb.extBut _ _ (Ne.symm i1z) za'))
 have ez:e≠z:=fun q=>by subst q; rw [zd] at q1; cases q1; simp at q2
 exact zu zd (by simp) fun he _ se=>k he e tb (fun c o c1 c2 c3 c4 q=>se.extBut _ _ c1 (xd _ _ c4 (sc.extBut _ _ c2 (sb.extBut _ _ c3 (sa.extBut _ _ c1 q))))) ⟨oe,se.extBut _ _ ez q1,q2⟩
end
def Itz (J1 J2:It):It:=⟨fun i H=>J1.go i H/\J2.go i H,fun i H x H'=>∃ p y1 y2,H p=none/\J1.yld i H y1 H/\J2.yld i H y2 H/\x=.ref p/\H'=upd H p (.tup [y1,y2]),fun i H=>J1.stop i H\/(J1.go i H/\J2.stop i H)⟩
theorem zj0 {P:Program} {w:World} {K:W.Frag} {J1 J2:It} {z TI TO i1 i2:Addr} {t1 t2:Nat->Heap->Prop} {elts:List Expr} {k:Nat} {pos:Pos} (S1:Src P w K J1 i1 t1) (S2:Src P w K J2 i2 t2) (nd:[z,TI,TO,i1,i2].Nodup):
  Turn P w K (.Tuple elts k pos) (Itz J1 J2) [z,TI,TO,i1,i2] z (fun i h=>IsZip h z TI TO .none/\IsPair h TI (.ref i1) (.ref i2)/\(∃ a b,IsPair h TO a b)/\t1 i h/\t2 i h) where
 mem:=m1
 obj:=fun i h st b hb=>by
  obtain ⟨hz,hI,⟨a,c,hO⟩,q1,q2⟩:=st
  simp at hb
  rcases hb with rfl | rfl | rfl | rfl | rfl
  ·exact ⟨_,hz,fun v z=>by cases z⟩
  ·exact ⟨_,hI,fun v z=>by cases z⟩
  ·exact ⟨_,hO,fun v z=>by cases z⟩
  ·obtain ⟨o,e1,e2,_⟩:=S1.live i h q1
   exact ⟨o,e1,e2⟩
  ·obtain ⟨o,e1,e2,_⟩:=S2.live i h q2
   exact ⟨o,e1,e2⟩
 keep:=fun i h h' st kk=>by
  obtain ⟨hz,hI,⟨a,c,hO⟩,q1,q2⟩:=st
  exact ⟨kk _ (m1) _ hz,kk _ (m2) _ hI,⟨a,c,kk _ (m3) _ hO⟩,S1.keep i h h' q1 fun o e=>kk _ (m4) o e,S2.keep i h h' q2 fun o e=>kk _ (m5) o e⟩
 item:=by
  intro X hP hw hK hc i zZ s σ H E I hf st hg
  refine cps fun G kk=>?_
  obtain ⟨hz,hI,⟨a,c,hO⟩,q1,q2⟩:=st
  have hh:X.A.in1.handled=none:=I.ok.hd hc
  obtain ⟨f1,n1,P1,T1,D1,u1,l1,m1,e1,v1,w1⟩:=S1.item X hP hw hK i zZ s σ H X.A.in1 hh I q1 (hf i1 (m4)).1 hg.1
  obtain ⟨f2,n2,P2,T2,D2,u2,l2,m2,e2,v2,w2⟩:=S2.item X hP hw hK i zZ s σ H X.A.in1 hh I q2 (hf i2 (m5)).1 hg.2
  obtain ⟨o1,g1,_,_,_,_,cl1⟩:=S1.live i _ q1
  obtain ⟨o2,g2,_,_,_,_,cl2⟩:=S2.live i _ q2
  simp only [qO,qD,not_mem_nil,or_false,not_or] at nd
  obtain ⟨⟨d1,d2,d3,d4⟩,⟨d5,d6,d7⟩,⟨d8,d9⟩,d10,_⟩:=nd
  have hn:∀ b∈[z,TI,TO,i1,i2],H b=none:=fun b hb=>(hf b hb).1
  have out:∀ {f:List Addr} {it b:Addr} {ob:Obj},(∀ x∈f,x=it\/(H x≠none/\∃ o,s.heap.get? x=some o/\o.cls=.type "tuple")\/∃ o,s.heap.get? x=some o/\o.cls=.type "list")->b≠it->H b=none->s.heap.get? b=some ob->ob.cls≠.type "list"->b∉f:=fun {f it b ob} hf0 n1 n2 g n3 m=>by
   grind
  have zl:Value.type "zip"≠Value.type "list":=by decide
  have tl:Value.type "tuple"≠Value.type "list":=by decide
  have Z:ZAp z TI TO i1 i2 f1 f2:=⟨Ne.symm d1,Ne.symm d2,d5,d6,d7,m1,m2,out e1 d3 (hn z (by simp)) hz zl,out e2 d4 (hn z (by simp)) hz zl,out e1 d8 (hn TO (by simp)) hO tl,out e2 d9 (hn TO (by simp)) hO tl,out e2 d10 (hn i1 (by simp)) g1 cl1,out e1 (Ne.symm d10) (hn i2 (by simp)) g2 cl2⟩
  have lt:∀ b∈[z,TI,TO,i1,i2],b < s.heap.objs.size:=fun b hb=>by
   simp at hb
   rcases hb with rfl | rfl | rfl | rfl | rfl
   ·exact qg hz
   ·exact qg hI
   ·exact qg hO
   ·exact qg g1
   ·exact qg g2
  subst hP hw hK
  have ty:s.TypeIs (.ref z) "zip":=⟨_,hz,rfl⟩
  refine kk ?_
  unfold pyNext
  apply qa
  apply wpAny_attempt
  refine wpAny_callSpecial?_slot (name:=Str.ofString "__next__") ty F.slot_zip_next (zr F.slot_zip_next ty F.entry_zip_next (zmF Z D1 D2 hz hI hO u1 u2 l1 l2 fun x y h1 tk px py hz1 hO1 t1' t2' hT hk=>?_) (F.args_zip_next_1 _))
  refine qb ⟨_,rfl,?_⟩
  refine cps fun _ kk=>?_
  obtain ⟨y1,ry1,hy1⟩:=v1 x px
  obtain ⟨y2,ry2,hy2⟩:=v2 y py
  refine kk ?_
  refine wpAny_letOwnedTupleGo_zip hz1 fun h2 hz2 sb=>?_
  have nT:s.heap.objs.size≠z:=ne_of_gt (qg hz)
  have I2:Inv X zZ σ (upd H s.heap.objs.size (.tup [y1,y2])) { s with heap:=h2,toks:=tk }:=zbA I (ch:=[z,TI,TO,i1,i2]) (us:=[x,y]) hf lt (by show 2<=_; decide) (.cons ry1 (.cons ry2 .nil)) ⟨_,sb.extBut _ _ nT hT,rfl,rfl,_,rfl⟩ fun b o hb q=>by
   simp at hb
   exact sb.extBut _ _ hb.1 (hk b o hb.1 hb.2.2.1 hb.2.2.2.1 hb.2.2.2.2 q)
  obtain ⟨ca,cb,hO1⟩:=hO1
  refine ⟨.ref s.heap.objs.size,_,I2,rfl,⟨s.heap.objs.size,y1,y2,I.hok.fresh (zj _),hy1,hy2,rfl,rfl⟩,⟨hz2,sb.extBut _ _ (Ne.symm d1) (hk _ _ (Ne.symm d1) d5 d6 d7 hI),⟨_,_,sb.extBut _ _ (Ne.symm d2) hO1⟩,S1.keep _ _ _ (w1 _ t1') fun o q=>sb.extBut _ _ (Ne.symm d3) q,S2.keep _ _ _ (w2 _ t2') fun o q=>sb.extBut _ _ (Ne.symm d4) q⟩,fun b hb=>?_⟩
  rw [zag (ne_of_lt (lt b hb))]; exact (hf b hb).1
 done:=by
  intro X hP hw hK hc i zZ s σ H E I hf st hg
  refine cps fun G kk=>?_
  obtain ⟨hz,hI,⟨a,c,hO⟩,q1,q2⟩:=st
  have hh:X.A.in1.handled=none:=I.ok.hd hc
  simp only [qO,qD,not_mem_nil,or_false,not_or] at nd
  obtain ⟨⟨d1,d2,d3,d4⟩,⟨d5,d6,d7⟩,⟨d8,d9⟩,d10,_⟩:=nd
  have ty:s.TypeIs (.ref z) "zip":=⟨_,hz,rfl⟩
  have stop:∀ (h':Heap) (e:Addr) (tk:Nat),(∀ b o,b≠z->b≠TO->b≠i1->b≠i2->s.heap.get? b=some o->h'.get? b=some o)->Inv X zZ σ H { s with heap:=h',toks:=tk }:=fun h' e tk hk=>za0 I (ch:=[z,TI,TO,i1,i2]) hf fun b o hb q=>by
   grind
  refine kk ?_
  unfold pyNext
  apply qa
  apply wpAny_attempt
  rcases hg with hg | ⟨hg1,hg2⟩
  ·refine wpAny_callSpecial?_slot (name:=Str.ofString "__next__") ty F.slot_zip_next (zr F.slot_zip_next ty F.entry_zip_next (zjN (Ne.symm d3) hz hI (fun ha sa=>?_) fun h' e hk st=>?_) (F.args_zip_next_1 _))
   ·have Ia:Inv X zZ σ H { s with heap:=ha }:=za0 I (t':=s.toks) (ch:=[z]) (fun b hb=>hf b (by simp at hb; simp [hb])) fun b o hb q=>sa.extBut _ _ (by simpa using hb) q
    exact S1.done X hP hw hK i zZ { s with heap:=ha } σ H X.A.in1 hh Ia (S1.keep _ _ _ q1 fun o q=>sa.extBut _ _ (Ne.symm d3) q) hg
   ·obtain ⟨o,r1,r2⟩:=st
    exact qa (wpAny_isInstance (T:="StopIteration") (b:=true) ⟨o,r1,r2⟩ isSubtype_stop (qb ⟨rfl,stop h' e s.toks fun b o c1 c2 c3 c4 q=>hk b o c1 c3 q⟩))
  ·obtain ⟨f1,n1,P1,T1,D1,u1,l1,m1,e1,v1,w1⟩:=S1.item X hP hw hK i zZ s σ H X.A.in1 hh I q1 (hf i1 (m4)).1 hg1
   have hn:∀ b∈[z,TI,TO,i1,i2],H b=none:=fun b hb=>(hf b hb).1
   have out:∀ {f:List Addr} {it b:Addr} {ob:Obj},(∀ x∈f,x=it\/(H x≠none/\∃ o,s.heap.get? x=some o/\o.cls=.type "tuple")\/∃ o,s.heap.get? x=some o/\o.cls=.type "list")->b≠it->H b=none->s.heap.get? b=some ob->ob.cls≠.type "list"->b∉f:=fun {f it b ob} hf0 n1 n2 g n3 m=>by
    grind
   have zl:Value.type "zip"≠Value.type "list":=by decide
   have tl:Value.type "tuple"≠Value.type "list":=by decide
   have X1:=hP
   have X2:=hw
   subst hP hw
   refine wpAny_callSpecial?_slot (name:=Str.ofString "__next__") ty F.slot_zip_next (zr F.slot_zip_next ty F.entry_zip_next (zjA D1 m1 (out e1 d3 (hn z (by simp)) hz zl) (out e1 d8 (hn TO (by simp)) hO tl) (Ne.symm d2) (Ne.symm d4) hz hI hO u1 l1 (fun hc2 tk sa=>?_) fun h' e tk hk st=>?_) (F.args_zip_next_1 _))
   ·have Ia:Inv X zZ σ H { s with heap:=hc2,toks:=tk }:=za0 I (ch:=[z,TO,i1]) (fun b hb=>hf b (by simp at hb; rcases hb with q | q | q <;> simp [q])) fun b o hb q=>by
     simp at hb
     exact sa b o hb.1 hb.2.1 hb.2.2 q
    exact S2.done X rfl rfl hK i zZ { s with heap:=hc2,toks:=tk } σ H X.A.in1 hh Ia (S2.keep _ _ _ q2 fun o q=>sa _ _ (Ne.symm d4) (Ne.symm d9) (Ne.symm d10) q) hg2
   ·obtain ⟨o,r1,r2⟩:=st
    exact qa (wpAny_isInstance (T:="StopIteration") (b:=true) ⟨o,r1,r2⟩ isSubtype_stop (qb ⟨rfl,stop h' e tk hk⟩))
 self:=fun A i s Q E st h=>wpAny_pyIter_zip st.1 h
def MkIt (v:Value) (o:Obj) (s:Shared):Prop:=∀ (prog:Program) (w:World) (A:Around) (Q:zz) (E:zz),Q (.ref s.heap.objs.size) { s with heap:=s.heap.push o }->wpAny (model prog w) A (pyIter v) Q E s
abbrev zA (h:Heap) (o1:Obj):Heap:=h.push o1
abbrev zB (h:Heap) (o1 o2:Obj):Heap:=(zA h o1).push o2
abbrev zC (h:Heap) (o1 o2:Obj):Heap:=(zB h o1 o2).push { cls:=.type "tuple",data:=.seq #[.ref h.objs.size,.ref (zA h o1).objs.size] }
abbrev zD (h:Heap) (o1 o2:Obj):Heap:=(zC h o1 o2).push { cls:=.type "tuple",data:=.seq #[.none,.none] }
abbrev zE (h:Heap) (o1 o2:Obj):Heap:=(zD h o1 o2).push { cls:=.type "zip",data:=.fields #[.none,.bool false,.bool false,.ref (zB h o1 o2).objs.size,.ref (zC h o1 o2).objs.size] }
theorem zlG (v1 v2:Value) (o1 o2:Obj):Meets (Builtin.«zip.__new__» ⟨[.type "zip",v1,v2],[]⟩) (fun _ R s=>MkIt v1 o1 s/\MkIt v2 o2 { s with heap:=zA s.heap o1 }/\R (.ok (.ret (.ref (zD s.heap o1 o2).objs.size))) { s with heap:=zE s.heap o1 o2 }):=
 .of_wp fun prog w A R s hyp=>by
  obtain ⟨hp,g,d,tk,os⟩:=s
  obtain ⟨k1,k2,hr⟩:=hyp
  have ss:=sub_zip
  have k1':=fun (A:Around) (Q:zz) (E:zz)=>k1 prog w A Q E
  have k2':=fun (A:Around) (Q:zz) (E:zz)=>k2 prog w A Q E
  wp_walk using k1',k2'
  exact ⟨_,rfl,hr⟩
theorem zmO (m1:MkIt v1 o1 s) (m2:MkIt v2 o2 { s with heap:=zA s.heap o1 }) (f1:o1.isFreed=false) (f2:o2.isFreed=false)
  (k:∀ h',IsZip h' (s.heap.objs.size + 4) (s.heap.objs.size + 2) (s.heap.objs.size + 3) .none->IsPair h' (s.heap.objs.size + 2) (.ref s.heap.objs.size) (.ref (s.heap.objs.size + 1))->IsPair h' (s.heap.objs.size + 3) .none .none->
   h'.get? s.heap.objs.size=some o1->h'.get? (s.heap.objs.size + 1)=some o2->(∀ c o,s.heap.get? c=some o->h'.get? c=some o)->Q (.ref (s.heap.objs.size + 4)) { s with heap:=h' }):
  wpAny (model prog w) A (call (.type "zip") [v1,v2]) Q E s:=by
 refine callType_new F.called_zip (by decide) (F.typeCall_zip_2 _ _) (F.newCall_zip_2 _ _) (fun obj=>F.args_object_init_3 obj _ _) F.entry_zip_new (zlG v1 v2 o1 o2) ⟨m1,m2,?_⟩
 have q1:(zA s.heap o1).objs.size=s.heap.objs.size + 1:=Heap.size_push ..
 have q2:(zB s.heap o1 o2).objs.size=s.heap.objs.size + 2:=by rw [Heap.size_push,q1]
 have q3:(zC s.heap o1 o2).objs.size=s.heap.objs.size + 3:=by rw [Heap.size_push,q2]
 have q4:(zD s.heap o1 o2).objs.size=s.heap.objs.size + 4:=by rw [Heap.size_push,q3]
 have g5:(zE s.heap o1 o2).get? (zD s.heap o1 o2).objs.size=some _:=qd _ rfl
 have g4:(zE s.heap o1 o2).get? (zC s.heap o1 o2).objs.size=some _:=qc _ (qd _ rfl)
 have g3:(zE s.heap o1 o2).get? (zB s.heap o1 o2).objs.size=some _:=qc _ (qc _ (qd _ rfl))
 have g2:(zE s.heap o1 o2).get? (zA s.heap o1).objs.size=some o2:=qc _ (qc _ (qc _ (qd _ f2)))
 have g1:(zE s.heap o1 o2).get? s.heap.objs.size=some o1:=qc _ (qc _ (qc _ (qc _ (qd _ f1))))
 show _/\_
 rw [q2,q3,q4] at g5
 rw [q1,q2] at g3
 rw [q3] at g4
 rw [q1] at g2
 rw [q4]
 exact ⟨⟨_,g5,rfl⟩,k _ g5 g3 g4 g1 g2 fun c o x=>qc _ (qc _ (qc _ (qc _ (qc _ x))))⟩
def SrcV (X:Cx) (H:Hp) (v:V) (J:It):Prop:=(∃ a xs,v=.ref a/\SqL X.K H a xs/\J=Itl X.K a)\/(∃ a xs,v=.ref a/\H a=some (.tup xs)/\J=Itu a)\/∃ x,v=.str x/\J=Its x
theorem zh6 (I:Inv X zZ σ H s) (r:zO v u) (h:SrcV X H v J):
  ∃ o:Obj,MkIt u o s/\o.isFreed=false/\∀ it,∃ tn,Src X.prog X.w X.K J it tn/\∀ h':Heap,h'.get? it=some o->tn 0 h':=by
 rcases h with ⟨a,xs,rfl,hq,rfl⟩ | ⟨a,xs,rfl,hq,rfl⟩ | ⟨x,rfl,rfl⟩
 ·cases r
  obtain ⟨z6,rv,pl,hz⟩:=I.list hq
  exact ⟨{ cls:=.type "list_iterator",data:=.fields #[.ref a,.int 0 0] },fun prog w A Q E k=>wpAny_pyIter_list pl.isList k,rfl,fun it=>⟨_,zfQ a it,fun h' e=>⟨_,e,rfl,rfl⟩⟩⟩
 ·cases r
  obtain ⟨z6,rv,pl,hz⟩:=I.tuple (SqT.of hq)
  exact ⟨{ cls:=.type "tuple_iterator",data:=.fields #[.ref a,.int 0 0] },fun prog w A Q E k=>wpAny_pyIter_tuple pl k,rfl,fun it=>⟨_,ziL a it,fun h' e=>⟨_,e,rfl,rfl⟩⟩⟩
 ·obtain ⟨t,rfl⟩:=r
  exact ⟨{ cls:=.type (strIterType x),data:=.fields #[.str x t,.int 0 0] },fun prog w A Q E k=>wpAny_pyIter_strU k,rfl,fun it=>⟨_,zii it x t,fun h' e=>⟨_,e,rfl,rfl⟩⟩⟩
def iZip (X:Cx) (tl:TA):TI:=fun σ H R=>tl σ H fun vs H1=>∃ v1 v2 J1 J2,vs=[v1,v2]/\SrcV X H1 v1 J1/\SrcV X H1 v2 J2/\R (Itz J1 J2) H1
theorem zoI (hc:X.calm=true) (hg:Gl X "zip") (hm:X.mg "zip"=none) (hv:bootBuiltins "zip"=some (.type "zip")) (hl:PA X [a,b] tl)
  (hs:starEach [a,b] X.env=[(false,eval a X.env),(false,eval b X.env)]:=by rfl) (hs2:starEach [b] X.env=[(false,eval b X.env)]:=by rfl):PI X (.Tuple elts kk tpos) (.Call (.Name "zip" p) [a,b] [] pos) (iZip X tl):=by
 intro zZ s σ H R I h
 refine wpAny_Call_Name_kw (zbf I hg hm hv ?_ (by decide) (by decide))
 refine PyProof.Rows.callWith_type1 (thn (hl pos zZ s σ H _ I h) fun us s1 zq=>?_) (by rw [hs,hs2]) (by rw [hs2]; rfl)
 obtain ⟨vs,H1,I1,r1,q1⟩:=zq
 obtain ⟨v1,v2,J1,J2,rfl,k1,k2,q⟩:=q1
 cases r1 with
 | cons ra rb=>
   cases rb with
   | cons rb rn=>
     cases rn
     obtain ⟨o1,m1,f1,g1⟩:=zh6 I1 ra k1
     have I2:Inv X zZ σ H1 { s1 with heap:=zA s1.heap o1 }:=I1.kept (t':=s1.toks) fun _ _ e=>qc _ e
     obtain ⟨o2,m2,f2,g2⟩:=zh6 I2 rb k2
     refine zmO m1 m2 f1 f2 fun h' hz hI hO e1 e2 kp=>?_
     obtain ⟨t1,S1,b1⟩:=g1 s1.heap.objs.size
     obtain ⟨t2,S2,b2⟩:=g2 (s1.heap.objs.size + 1)
     refine wpAny_pyIter_zip (s:={ s1 with heap:=h' }) hz ?_
     have lt:∀ k:Nat,s1.heap.objs.size<=s1.heap.objs.size + k:=fun k=>Nat.le_add_right _ _
     refine ⟨s1.heap.objs.size + 4,[s1.heap.objs.size + 4,s1.heap.objs.size + 2,s1.heap.objs.size + 3,s1.heap.objs.size,s1.heap.objs.size + 1],_,_,H1,rfl,I1.kept (t':=s1.toks) kp,zj0 S1 S2 ?_,⟨hz,hI,⟨_,_,hO⟩,b1 h' e1,b2 h' e2⟩,fun c hcm=>?_,q⟩
     ·simp
     ·simp at hcm
      rcases hcm with rfl | rfl | rfl | rfl | rfl
      ·exact I1.fpOk (lt 4) (I1.hok.fresh (lt 4))
      ·exact I1.fpOk (lt 2) (I1.hok.fresh (lt 2))
      ·exact I1.fpOk (lt 3) (I1.hok.fresh (lt 3))
      ·exact I1.fpOk (lt 0) (I1.hok.fresh (lt 0))
      ·exact I1.fpOk (lt 1) (I1.hok.fresh (lt 1))
theorem zkx {K:W.Frag} (h1:ItOk K J1 l F0) (h2:ItOk K J2 m F0):ItOk K (Itz J1 J2) (zipD l m) F0:=fun i U σ F G H sm z4=>by
 obtain ⟨p1,p2⟩:=h1 i U σ F G H sm z4
 obtain ⟨q1,q2⟩:=h2 i U σ F G H sm z4
 refine ⟨fun d hd=>?_,fun hl=>?_⟩
 ·obtain ⟨e,f,he,hf,rfl⟩:=zd1 l m i d hd
  obtain ⟨g1,g2⟩:=p1 e he
  obtain ⟨g3,g4⟩:=q1 f hf
  refine ⟨⟨g1,g3⟩,fun x H' zq=>?_⟩
  refine cps fun _ kk=>?_
  obtain ⟨p,y1,y2,hp,hy1,hy2,ex,eH⟩:=zq
  subst ex eH
  obtain ⟨F1,s1,r1,rp1⟩:=g2 y1 H hy1
  obtain ⟨F2,s2,r2,rp2⟩:=(h2 i U σ F1 G H (sm.trans s1) r1).1 f hf |>.2 y2 H hy2
  obtain ⟨f0,_,_⟩:=r2.free hp
  refine kk ?_
  exact ⟨upd F2 p (.tup [y1,y2]),(s1.trans s2).trans (zK.upd f0),r2.newF hp,.tup (xs:=[y1,y2]) zai (.cons ((rp1.mono s2).mono (zK.upd f0)) (.cons (rp2.mono (zK.upd f0)) .nil))⟩
 ·rw [zdG] at hl
  by_cases h:l.length<=i
  ·exact .inl (p2 h)
  ·have hlt:i < l.length:=by lia
   exact .inr ⟨(p1 l[i] (qj hlt)).1,q2 (by lia)⟩
theorem zoK:bootBuiltins "zip"=some (.type "zip"):=by decide +kernel
theorem zhJ (sm:zK F H) (r:Rep X.K F v d) (e:items d=some l):∃ J,SrcV (wp X pn xe) H v J/\ItOk X.K J l F:=by
 cases r with
 | lst e0 r0=>
   cases e
   exact ⟨_,.inl ⟨_,_,rfl,SqL.mono sm e0,rfl⟩,zcV e0 r0⟩
 | tup e0 r0=>
   cases e
   exact ⟨_,.inr (.inl ⟨_,_,rfl,sm _ _ e0,rfl⟩),zgc e0 r0⟩
 | str e0 z0=>
   cases e
   exact ⟨_,.inr (.inr ⟨_,rfl,rfl⟩),zed e0⟩
 | _=>cases e
theorem zn8 (hc:X.calm=true) (hg:Gl X "zip") (hm:X.mg "zip"=none) (hv:bootBuiltins "zip"=some (.type "zip")) (ha:FE X a wa) (hb:FE X b wb) (hs:starEach [a,b] X.env=[(false,eval a X.env),(false,eval b X.env)]:=by rfl) (hs2:starEach [b] X.env=[(false,eval b X.env)]:=by rfl):
  FI X (.Tuple elts kk tpos) (.Call (.Name "zip" p) [a,b] [] pos) (wZip wa wb):=fun pn xe hp=>by
 refine PI.imp (zoI (X:=wp X pn xe) hc hg hm hv (zaa ha (zaa hb zab hs2) (by rw [hs,hs2]) pn xe hp) hs hs2) fun σ H R q=>?_
 obtain ⟨F,G,U,P,PX,z4,hw,hok,hx⟩:=q
 refine ⟨F,G,U,fun rs U1=>match rs with | [r,t]=>(zJ (give r U1) fun p=>zJ (give t p.2) fun q=>zJ (items p.1.toD) fun l=>zJ (items q.1.toD) fun m=>P (zipD l m) q.2) | _=>False,PX,z4,hw,fun rs U1 vs F1 H1 hk s1 r1 hl rv=>?_,hx⟩
 match rs,vs,rv,r1,hk with
 | [r,t],[v,u],rv,r1,hk=>
   dsimp only at hk
   refine cps fun _ kk=>?_
   obtain ⟨⟨s,U2⟩,eg,hk⟩:=zad hk
   obtain ⟨⟨s',U3⟩,eg',hk⟩:=zad hk
   obtain ⟨l,el,hk⟩:=zad hk
   obtain ⟨m,em,hk⟩:=zad hk
   obtain ⟨F2,s2,ss,e3,l3,r3⟩:∃ F2,zK F1 F2/\∃ ss,ss=[s,s']/\U3.length=U1.length/\Rel X.K (U3++ss.map some) (σ++[v,u].map some) F2 G H1:=by
    have e:giveAll [r,t] U1=some ([s,s'],U3):=by
     show (match give r U1 with | some (s,U1)=>(match giveAll [t] U1 with | some (ss,U2)=>some (s::ss,U2) | none=>none) | none=>none)=_
     rw [eg]
     show (match (match give t U2 with | some (s,U1)=>some ([s],U1) | none=>none) with | some (ss,U2)=>some (s::ss,U2) | none=>none)=_
     rw [eg']
    obtain ⟨F2,s2,l2,z,r2⟩:=zbv (rs:=[r,t]) (vs:=[v,u]) (U':=[]) (σ':=[]) (by simpa using r1) hl rv e
    exact ⟨F2,s2,_,rfl,by simpa using l2,by simpa using r2⟩
   subst e3
   obtain ⟨F3,s3,rp,r4⟩:=Rel.giveD (U:=U3) (vs:=[v,u]) (ss:=[s,s']) r3 (l3.trans hl)
   refine kk ?_
   have sm:=s1.trans (s2.trans s3)
   cases rp with
   | cons a0 b0=>
     cases b0 with
     | cons b0 n0=>
       obtain ⟨J1,k1,i1⟩:=zhJ (pn:=pn) (xe:=xe) r4.fr a0 el
       obtain ⟨J2,k2,i2⟩:=zhJ (pn:=pn) (xe:=xe) r4.fr b0 em
       exact ⟨v,u,J1,J2,rfl,k1,k2,hok _ U3 F3 H1 _ hk sm r4 (zkx i1 i2)⟩
 | [],_,_,_,hk=>exact hk.elim
 | [_],_,_,_,hk=>exact hk.elim
 | [_,_],[],rv,_,_=>exact rv.elim
 | [_,_],[_],rv,_,_=>exact rv.2.elim
 | [_,_],_::_::_::_,rv,_,_=>exact rv.2.2.elim
 | _::_::_::_,_,_,_,hk=>exact hk.elim
theorem ziX (hr:Room k A):A.mark none=A:=by
 first | rfl | assumption | (simp_all; done)
end FL
namespace FL
open Classical in
def fIx (ks:List D) (k:D):Option Nat:=ks.findIdx? fun x=>decide (x=k)
def dputS (t:Bool) (ks:List D) (l:List S) (k:D) (s:S):S:=match fIx ks k with
 | some i=>.dct t ks (l.set i s)
 | none=>.dct t (ks++[k]) (l++[s])
def wDput (j:Nat) (i e:WE):WS:=fun D U=>e U (fun r U1=>zF j U1 (fun x U2=>i U2 (fun y U3=>zJ (view y U3) fun q=>zJ (give r U3) fun p=>match x,slot p.2 j with
 | .loc k,some (.dct t ks l)=>k=j/\isKey t q=true/\ks.Nodup/\ks.length < big/\D.nx (p.2.set j (some (dputS t ks l q p.1)))
 | _,_=>False) D.ex) D.ex) D.ex
end FL
namespace FL
open PySem PySem.Spec PyProof.Rows L2
theorem zgp (h:fIx ks k=some i):ks[i]?=some k:=by
 unfold fIx at h
 rw [List.findIdx?_eq_some_iff_getElem] at h
 obtain ⟨hi,h1,_⟩:=h
 rw [qj hi]
 congr 1
 simpa using h1
theorem zjW (h:fIx ks k=none):k∉ks:=by
 unfold fIx at h
 grind
section
variable {κ:Type} [DecidableEq κ] {kd:κ->D} (inj:∀ a b,kd a=kd b->a=b)
include inj
theorem zjX {z3:List (κ×V)} {k:κ} {v:V} {i:Nat} (hn:(z3.map fun p=>kd p.1).Nodup) (h:(z3.map fun p=>kd p.1)[i]?=some (kd k)):putK z3 k v=z3.set i (k,v):=by
 have hi:i < z3.length:=by
  have:=(qi.mp h).1
  simpa using this
 have hk:z3[i].1=k:=by
  rw [qI,qj hi] at h
  exact inj _ _ (qh h)
 have hany:(z3.any fun kv=>decide (kv.1=k))=true:=List.any_eq_true.mpr ⟨z3[i],getElem_mem hi,by simp [hk]⟩
 unfold putK
 rw [zc hany]
 apply ext_getElem?
 intro j
 rw [qI,getElem?_set]
 by_cases hj:i=j
 ·subst hj
  rw [qj hi]
  simp [hk]
  exact hi
 ·rw [zi hj]
  cases q:z3[j]? with
  | none=>rfl
  | some p=>
    have hne:¬ p.1=k:=fun z=>by
     apply hj
     have h2:(z3.map fun p=>kd p.1)[j]?=some (kd k):=by rw [qI,q,<- z]; rfl
     exact (List.getElem?_inj (by simpa using hi) hn).mp (h.trans h2.symm)
    simp [hne]
omit inj in
theorem zkg {z3:List (κ×V)} {k:κ} {v:V} (h:kd k∉z3.map fun p=>kd p.1):putK z3 k v=z3++[(k,v)]:=by
 unfold putK
 grind
theorem ziP {z3:List (κ×V)} {k:κ} {v:V} {ks:List D} (hks:ks=z3.map fun p=>kd p.1) (hn:ks.Nodup):
  (∀ m,fIx ks (kd k)=some m->ks=(putK z3 k v).map (fun p=>kd p.1)/\(z3.map (·.2)).set m v=(putK z3 k v).map (·.2))/\(fIx ks (kd k)=none->ks++[kd k]=(putK z3 k v).map (fun p=>kd p.1)/\z3.map (·.2)++[v]=(putK z3 k v).map (·.2)):=by
 subst hks
 refine ⟨fun m hm=>?_,fun hm=>?_⟩
 ·have h:=zgp hm
  rw [zjX inj hn h,map_set,map_set]
  refine ⟨?_,rfl⟩
  apply ext_getElem?
  intro j
  rw [getElem?_set]
  by_cases hj:m=j
  ·subst hj; rw [zc rfl,zc (qi.mp h).1,h]
  ·rw [zi hj]
 ·rw [zkg (zjW hm),map_append,map_append]
  exact ⟨rfl,rfl⟩
end
inductive DOb (ks:List D) (xs:List V):Bool->HO->Prop
 | k {z3:List (Key×V)}:ks=z3.map (fun p=>keyD p.1)->xs=z3.map (·.2)->DOb ks xs false (.dK z3)
 | t {z3:List (List Key×V)}:ks=z3.map (fun p=>D.tup (p.1.map keyD))->xs=z3.map (·.2)->DOb ks xs true (.dT z3)
section
variable {K:W.Frag}
theorem zdY (r:SRep K F H v (.dct t ks l) fp):∃ a o xs fl,v=.ref a/\fp=a::fl/\H a=some o/\DOb ks xs t o/\zN K F H xs l fl:=by
 cases r with
 | dK e q r=>exact ⟨_,_,_,_,rfl,rfl,e,.k q rfl,r⟩
 | dT e q r=>exact ⟨_,_,_,_,rfl,rfl,e,.t q rfl,r⟩
theorem DOb.mk {a:Addr} {o:HO} {t:Bool} {ks:List D} {xs:List V} {l:List S} {fl:List Addr} (d:DOb ks xs t o) (e:H a=some o) (r:zN K F H xs l fl):SRep K F H (.ref a) (.dct t ks l) (a::fl):=by
 cases d with
 | k q z=>subst z; exact .dK e q r
 | t q z=>subst z; exact .dT e q r
theorem DOb.len {o:HO} {t:Bool} {ks:List D} {xs:List V} (d:DOb ks xs t o):ks.length=xs.length:=by
 cases d with
 | k q z=>subst z; subst q; simp
 | t q z=>subst z; subst q; simp
theorem DOb.put {a:Addr} {o:HO} {t:Bool} {ks:List D} {xs:List V} {y v:V} {q:D} (d:DOb ks xs t o) (e:H a=some o) (r:Rep K H y q) (hk:isKey t q=true) (hn:ks.Nodup) (hb:ks.length < sizeLine):
  ∃ o',DPut H a y v (upd H a o')/\(∀ m,fIx ks q=some m->DOb ks (xs.set m v) t o')/\(fIx ks q=none->DOb (ks++[q]) (xs++[v]) t o'):=by
 cases d with
 | @k z3 h1 h2=>
   subst h2
   obtain ⟨key,rfl,rfl⟩:=zd2 r hk
   obtain ⟨p1,p2⟩:=ziP (fun _ _=>zbG) (k:=key) (v:=v) h1 hn
   exact ⟨_,.inl ⟨z3,key,e,rfl,by rw [h1,qq] at hb; exact hb,rfl⟩,fun m hm=>.k (p1 m hm).1 (p1 m hm).2,fun hm=>.k (p2 hm).1 (p2 hm).2⟩
 | @t z3 h1 h2=>
   subst h2
   cases r with
   | tup e1 q=>
     obtain ⟨keys,rfl,rfl⟩:=zfv q hk
     obtain ⟨p1,p2⟩:=ziP (kd:=fun l:List Key=>D.tup (l.map keyD)) (fun a b z=>zbZ (D.tup.inj z)) (k:=keys) (v:=v) h1 hn
     exact ⟨_,.inr ⟨z3,keys,_,e,rfl,e1,by rw [h1,qq] at hb; exact hb,rfl⟩,fun m hm=>.t (p1 m hm).1 (p1 m hm).2,fun hm=>.t (p2 hm).1 (p2 hm).2⟩
   | _=>cases hk
theorem Rel.dct {D:Addr} (r:Rel K (U++[some s]) (σ++[some v]) F G H) (hs:slot U n=some (.dct t ks l)) (hσ:σ[n]?=some (some (.ref D))) (hD:H D=some o) (ho:DOb ks xs t o) (ho':DOb ks' xs' t o')
  (hin:∀ (H':Hp) (fl fs:List Addr),zN K F H' xs l fl->SRep K F H' v s fs->∃ fl' rest,zN K F H' xs' l' fl'/\(fl'++rest).Perm (fl++fs)):
  Rel K (U.set n (some (.dct t ks' l'))) σ F G (upd H D o'):=by
 have hl:=len1 r
 obtain ⟨fp,e,nd,ap⟩:=r.en
 obtain ⟨f1,f2,rfl,a,b⟩:=e.cut hl
 obtain ⟨v',fa,fi,fb,e1,rfl,q,up⟩:=a.at hs
 rw [hσ] at e1
 have e2:V.ref D=v':=by simpa using e1
 subst e2
 obtain ⟨a',o2,xs2,fl,z1,rfl,hD2,ho2,rl⟩:=zdY q
 cases z1
 rw [hD] at hD2
 cases hD2
 have ex:xs2=xs:=by
  cases ho with
  | k _ z=>cases ho2 with | k _ z'=>rw [z,z']
  | t _ z=>cases ho2 with | t _ z'=>rw [z,z']
 subst ex
 cases b with
 | so sr nl=>
   cases nl
   rename_i fs
   obtain ⟨n1,n2,n12⟩:=qz.mp nd
   obtain ⟨na,nib,nab⟩:=qz.mp n1
   obtain ⟨ni,nb,nib⟩:=qz.mp nib
   obtain ⟨nD,nfl⟩:=qO.mp ni
   have hDa:D∉fa:=fun z=>nab D z D (qm _ qp) rfl
   have hDb:D∉fb:=fun z=>nib D qp D z rfl
   have hDs:D∉fs:=fun z=>n12 D (qk _ (qm _ qp)) D (by simpa using z) rfl
   have apD:=ap D (qm _ (qk _ (qm _ qp)))
   have ne:∀ {l:List Addr},D∉l->∀ x∈l,upd H D o' x=H x:=fun h x hx=>zag fun z=>h (z ▸ hx)
   obtain ⟨fl',rest,rl',pm⟩:=hin (upd H D o') fl fs (rl.mono (zK.refl F) (ne nD)) (sr.mono (zK.refl F) (ne hDs))
   have a2:=up (F':=F) (H':=upd H D o') (o:=some (.dct t ks' l')) (u:=some (.ref D)) (zK.refl F) (fun x hx=>zag fun z=>(qA.mp hx).elim (fun w=>hDa (z ▸ w)) fun w=>hDb (z ▸ w)) (.so (ho'.mk zai rl') .nil)
   rw [zcp hσ] at a2
   have p:(fa++((D::(fl'++rest))++[]++fb)).Perm (fa++((D::fl)++fb)++(fs++[])):=by
    refine (List.Perm.append_left _ (List.Perm.append_right _ (List.Perm.append_right _ (List.Perm.cons _ pm)))).trans ?_
    simp only [qC,qr,qR]
    refine List.Perm.append_left _ (List.Perm.cons _ (List.Perm.append_left _ qQ))
   have sb:List.Sublist (fa++((D::fl')++[]++fb)) (fa++((D::(fl'++rest))++[]++fb)):=by
    simp only [qC,qr,qR]
    exact List.Sublist.append (List.Sublist.refl _) (List.Sublist.cons_cons _ (List.Sublist.append (List.Sublist.refl _) (List.sublist_append_right _ _)))
   refine ⟨zK.updR r.fr apD.1,fun x o w=>?_,_,a2,sb.nodup (p.nodup_iff.mpr nd),fun x hx=>ap x (p.mem_iff.mp (sb.subset hx))⟩
   have hx:x≠D:=fun z=>by rw [z,apD.2] at w; cases w
   rw [zag hx]
   exact r.gr x o w
theorem Rel.dput {D:Addr} (r:Rel K (U++[some s]) (σ++[some v]) F G H) (hs:slot U n=some (.dct t ks l)) (hσ:σ[n]?=some (some (.ref D))) (ry:Rep K H y q) (hk:isKey t q=true) (hn:ks.Nodup) (hb:ks.length < big):
  ∃ H',DPut H D y v H'/\Rel K (U.set n (some (dputS t ks l q s))) σ F G H':=by
 refine cps fun _ kk=>?_
 obtain ⟨v',fp,e1,sr⟩:=(r.drop (len1 r)).at hs
 rw [hσ] at e1
 have e2:V.ref D=v':=by simpa using e1
 subst e2
 obtain ⟨a',o,xs,fl,z1,_,hD,ho,rl⟩:=zdY sr
 cases z1
 have z5:=ho.len
 have hll:=rl.len
 obtain ⟨o',dp,h1,h2⟩:=ho.put (v:=v) hD ry hk hn (by rw [zt]; exact lt_trans hb (by decide))
 refine kk ?_
 refine ⟨_,dp,?_⟩
 cases qf:fIx ks q with
 | some m=>
   have ed:dputS t ks l q s=.dct t ks (l.set m s):=by unfold dputS; rw [qf]
   rw [ed]
   have hml:m < l.length:=by
    have:=(qi.mp (zgp qf)).1
    lia
   refine r.dct hs hσ hD ho (h1 m qf) fun H' fl fs rl sr=>?_
   obtain ⟨ga,gi,gb,rfl,sup⟩:=rl.set hml
   refine ⟨_,gi,sup (fun _ _=>rfl) sr,?_⟩
   simp only [qr]
   exact List.Perm.append_left _ ((List.Perm.append_left _ qQ).trans (qQ.trans (by simp)))
 | none=>
   have ed:dputS t ks l q s=.dct t (ks++[q]) (l++[s]):=by unfold dputS; rw [qf]
   rw [ed]
   exact r.dct hs hσ hD ho (h2 qf) fun H' fl fs rl sr=>⟨fl++fs,[],zN.snoc rl sr,by simp⟩
end
theorem zl1 (hu:X.A.units + 1 < cLine) (ho:FE X o (zF j)) (hi:FE X i wi) (he:FE X e we) (hs:swapsWith e (some (.Subscript o i tpos)) pos.line X.env=pure false:=by rfl):FS X ks (.Assign [.Subscript o i tpos] e pos) (wDput j wi we):=fun pn xe hp=>by
 refine PS.imp (zmu (X:=wp X pn xe) hu (ho pn xe hp) (hi pn xe hp) (he pn xe hp) hs) fun D σ H q=>?_
 obtain ⟨F,G,U,E,z4,hw,n,b,c,r,x⟩:=q
 have x0:XC (wp X pn xe) (·=σ) F G E.ex:=x.mono (fun σ2 z=>by rw [z]; exact KP.refl) (zK.refl F) (zK.refl G)
 refine ⟨F,G,U,_,_,z4,hw,fun r U1 v F1 H1 hk s1 r1 rv=>?_,x0⟩
 have l1:=len1 r1
 obtain ⟨G1,rel1,gg,back⟩:=r1.hide l1
 refine ⟨F1,G1,U1,_,_,rel1,hk,fun y U2 o' F2 H2 hk2 s2 r2 rv2=>?_,x0.mono (fun _ z=>z) s1 gg⟩
 have l2:=len1 r2
 obtain ⟨G2,rel2,gg2,back2⟩:=r2.hide l2
 refine ⟨F2,G2,U2,_,_,rel2,hk2,fun z U3 i' F3 H3 hk3 s3 r3 rv3=>?_,x0.mono (fun _ z=>z) (s1.trans s2) (gg.trans gg2)⟩
 have l3:=len1 r3
 obtain ⟨q,eq,hk3⟩:=zad hk3
 obtain ⟨⟨t,U4⟩,eg,hk4⟩:=zad hk3
 have r4:=back (s2.trans s3) (back2 s3 r3)
 simp only [qr,qR,nil_append] at r4
 have ri:=look (U':=[zL y,zL r]) (σ':=[some o',some v]) r4 l3 rv3 eq
 have r5:Rel X.K (U3++[zL r]) (σ++[some v]) F3 G H3:=Rel.mid (U:=U3) (σ:=σ) (Rel.mid (U:=U3) (σ:=σ) r4 l3) l3
 obtain ⟨F4,s4,l4,r6⟩:=giveR (U':=[]) (σ':=[]) r5 l3 rv eg
 cases y with
 | v y0=>exact hk4.elim
 | loc k=>
   cases qs:slot U4 j with
   | none=>simp only [qs] at hk4
   | some sj=>
     rw [qs] at hk4
     match sj,qs,hk4 with
     | .dct t kk l,qs,⟨ekj,hkey,hnd,hbig,hnx⟩=>
       subst ekj
       have hσ:σ[k]?=some (some o'):=rv2
       obtain ⟨v',fp,e1,sr⟩:=r6.at (i:=k) (s:=.dct t kk l) (by rw [zbV (zcb qs)]; exact qs)
       have hkl:k < σ.length:=(qi.mp hσ).1
       rw [getElem?_append_left hkl,hσ] at e1
       have e2:o'=v':=by simpa using e1
       subst e2
       obtain ⟨a,o2,xs,fl,rfl,_,_,_,_⟩:=zdY sr
       obtain ⟨H',dp,r7⟩:=Rel.dput r6 qs hσ ri hkey hnd hbig
       exact ⟨a,_,rfl,dp,n _ σ F4 _ hnx KP.refl (s1.trans (s2.trans (s3.trans s4))) r7⟩
end FL
namespace FL
def bSum:List D->Option S
 | [.lst l]=>(intsD l).map fun ns=>.sh (.int ns.sum)
 | _=>none
end FL
namespace FL
open PySem PySem.Spec PyProof.Rows L2
theorem zmk:entryFor table "dict_itemiterator.__iter__"=some Builtin.«dict_keyiterator.__iter__»:=entryFor_alias (id':="dict_keyiterator.__iter__") (by kernel_rfl) (by first | rfl | decide +kernel) (by decide +kernel) (by kernel_rfl)
theorem zik (hh:A.handled=none) (hl:s.heap.IsList l vs.toArray) (hi:IntsAre vs ns)
  (h:∀ h' tk t',(∀ b x,s.heap.get? b=some x->h'.get? b=some x)->Q (.int ns.sum t') { s with heap:=h',toks:=tk }):wpAny (model prog w) A (call (.builtin "sum") [.ref l]) Q E s:=by
 have hn:=hi.numsOf
 obtain ⟨xs,e⟩:=hi.allInts.items
 have hn2:numsOf (intItems xs).toList=ns:=by rw [<- e]; exact hn
 rw [nums_intItems] at hn2
 rw [e] at hl
 refine sum_intListG hh hl fun h' tk t' hk=>?_
 have:=h h' tk t' hk
 rw [<- hn2] at this
 rw [preSum_eq,take_of_length_le (by simp)]
 exact this
section
variable {K:W.Frag}
def rSum (K:W.Frag):List V->Hp->VK->Prop:=fun xs H Q=>∃ (a:Addr) (ns:List Int),xs=[.ref a]/\SqL K H a (ns.map V.int)/\Q (.int ns.sum) H
theorem zaZ:∀ {us:List Value},zW (ns.map V.int) us->IntsAre us ns:=by
 induction ns with
 | nil=>intro us r; cases r; exact .nil
 | cons n ns ih=>
   intro us r
   rw [qB] at r
   cases r with
   | cons r1 r2=>
     obtain ⟨t,rfl⟩:=r1
     exact .cons _ t (ih r2)
theorem zhu (hc:X.calm=true):CallR X (.builtin "sum") (rSum X.K):=by
 intro zZ s σ H xs us Q I r h
 obtain ⟨a,ns,rfl,hq,q⟩:=h
 obtain ⟨u,rfl,rx⟩:=vals1 r
 cases rx
 obtain ⟨z6,rv,pl,hz⟩:=I.list hq
 exact zik (I.ok.hd hc) pl.isList (zaZ rv) fun h' tk t' kp=>⟨.int _,H,I.kept kp,⟨_,rfl⟩,q⟩
theorem zj9:DoesB K (rSum K) bSum:=by
 intro σ U F G H vs ds s Q z4 re e hq
 obtain ⟨d,v,rfl,rfl⟩:=arg1 (fun x y r=>by cases x <;> rfl) rfl re e
 cases d with
 | lst l=>
   obtain ⟨a,xs,rfl,h1,r1⟩:=re.1.lst z4.fr
   obtain ⟨ns,en,rfl⟩:=q8.mp e
   obtain ⟨rfl,_⟩:=zdD r1 en
   exact ⟨a,ns,rfl,h1,hq _ F H (zK.refl F) (z4.push (.int _))⟩
 | _=>cases e
theorem zph:bootBuiltins "sum"=some (.builtin "sum"):=by decide +kernel
theorem zo1 (hc:X.calm=true) (hg:Gl X "sum") (hm:X.mg "sum"=none) (hv:bootBuiltins "sum"=some (.builtin "sum")) (ha:FA X (e::es) wa) (he:starEach (e::es) X.env=(false,eval e X.env)::starEach es X.env:=by rfl) (hpl:(backTo pos (starEach es X.env)).any (·.1)=false:=by rfl):FE X (.Call (.Name "sum" p) (e::es) [] pos) (wB bSum wa):=
 zba (fun pn xe=>zhu (X:=wp X pn xe) hc) zj9 hg hm hv ha (by decide) (by decide) he hpl
end
end FL
namespace FL
open PySem PySem.W PyProof.Rows
def AskOk (n:Nat) (rk:Nat->Int) {α:Type}:KasT α->(α->Prop)->Prop
 | .ret a,P=>P a
 | .ask i j k,P=>i < n/\j < n/\AskOk n rk (k (decide (rk i < rk j))) P
theorem zbp:∀ {t:KasT α},AskOk n rk t (fun a=>AskOk n rk (f a) P)->AskOk n rk (t.bind f) P
 | .ret _,h=>h
 | .ask _ _ _,h=>⟨h.1,h.2.1,zbp h.2.2⟩
def kA (rk:Nat->Int) (p:Array Nat) (k:Nat):Int:=rk ((p[k]?).getD 0)
theorem zdg (p:Array Nat) (k:Nat):rk (p.getD k 0)=kA rk p k:=by unfold kA; rw [Array.getD_eq_getD_getElem?]
def InR (n:Nat) (p:Array Nat):Prop:=p.size=n/\∀ k,p.getD k 0 < n
def Srt (rk:Nat->Int) (p:Array Nat) (m:Nat):Prop:=∀ a b,a<=b->b < m->kA rk p a<=kA rk p b
def Dsc (rk:Nat->Int) (p:Array Nat) (m:Nat):Prop:=∀ a b,a<=b->b < m->kA rk p b<=kA rk p a
theorem zb7 (h:InR n q) (hp:p.Perm q) (hn:0 < n):InR n p:=by
 refine ⟨hp.size_eq.trans h.1,fun k=>?_⟩
 rw [Array.getD_eq_getD_getElem?]
 cases e:p[k]? with
 | none=>exact hn
 | some x=>
   have hm:x∈q:=hp.mem_iff.mp (Array.mem_of_getElem? e)
   obtain ⟨j,hj,ej⟩:=Array.getElem_of_mem hm
   have:=h.2 j
   first | rfl | assumption | (simp_all; done)
theorem zfG (hr:InR n p):∀ (f m:Nat),1<=m->Srt rk p m->(∀ m',m<=m'->m'<=m + f->Srt rk p m'->(m' < m + f->kA rk p m' < kA rk p (m' - 1))->P m')->AskOk n rk (kas_asc p f m) P
 | 0,m,_,hs,h=>h m (zj _) (zj _) hs fun z=>absurd z (by lia)
 | f + 1,m,h1,hs,h=>by
   refine ⟨hr.2 m,hr.2 (m - 1),?_⟩
   rw [zdg (rk:=rk),zdg (rk:=rk)]
   by_cases hc:kA rk p m < kA rk p (m - 1)
   ·rw [qU hc]
    exact h m (zj _) (by lia) hs fun _=>hc
   ·rw [qV hc]
    refine zfG hr f (m + 1) (by lia) (fun a b hab hb=>?_) fun m' h2 h3 h4 h5=>h m' (by lia) (by lia) h4 fun z=>h5 (by lia)
    by_cases hbm:b < m
    ·exact hs a b hab hbm
    ·have:b=m:=by lia
     subst this
     by_cases ha:a=b
     ·rw [ha]; exact Int.le_refl _
     ·have:=hs a (b - 1) (by lia) (by lia)
      lia
theorem zcZ (hr:InR n p) (hs:Srt rk p k):∀ (f l r:Nat),l<=r->r<=k->r - l<=f->(∀ a,a < l->kA rk p a<=kA rk p k)->(∀ a,r<=a->a < k->kA rk p k < kA rk p a)->
  (∀ l',l'<=k->(∀ a,a < l'->kA rk p a<=kA rk p k)->(∀ a,l'<=a->a < k->kA rk p k < kA rk p a)->P l')->AskOk n rk (kas_place p k f l r) P
 | 0,l,r,h1,h2,h3,h4,h5,h=>by
   have:l=r:=by lia
   subst this
   exact h l h2 h4 h5
 | f + 1,l,r,h1,h2,h3,h4,h5,h=>by
   unfold kas_place
   by_cases hl:l ≥ r
   ·rw [zc hl]
    have:l=r:=by lia
    subst this
    exact h l h2 h4 h5
   ·rw [zi hl]
    refine ⟨hr.2 k,hr.2 _,?_⟩
    rw [zdg (rk:=rk),zdg (rk:=rk)]
    by_cases hc:kA rk p k < kA rk p ((l + r) / 2)
    ·rw [qU hc]
     refine zcZ hr hs f l ((l + r) / 2) (by lia) (by lia) (by lia) h4 (fun a h6 h7=>?_) h
     have:=hs _ a h6 h7
     lia
    ·rw [qV hc]
     refine zcZ hr hs f ((l + r) / 2 + 1) r (by lia) h2 (by lia) (fun a h6=>?_) h5 h
     have:=hs a ((l + r) / 2) (by lia) (by lia)
     lia
theorem zep (hk:k < p.size) (hd:d<=k) (j:Nat):kA rk (bubble p k d) j=if j=k - d then kA rk p k else if k - d < j/\j<=k then kA rk p (j - 1) else kA rk p j:=by
 unfold kA
 rw [getElem?_bubble hk d hd j]
 grind
theorem zim (hn:0 < n):∀ (f:Nat) (p:Array Nat) (k:Nat),InR n p->Srt rk p k->k + f<=n->(∀ p',p'.Perm p->InR n p'->Srt rk p' (k + f)->P p')->AskOk n rk (kas_bin f p k) P
 | 0,p,k,hr,hs,_,h=>h p (Array.Perm.refl _) hr hs
 | f + 1,p,k,hr,hs,hk,h=>by
   unfold kas_bin
   refine zbp (zcZ hr hs k 0 k (zero_le _) (zj _) (by lia) (fun a z=>absurd z (by lia)) (fun a z1 z2=>absurd z1 (by lia)) fun l hl h1 h2=>?_)
   have hks:k < p.size:=by rw [hr.1]; lia
   have hp:=bubble_perm p k (k - l)
   refine zim hn f _ (k + 1) (zb7 hr hp hn) (fun a b hab hb=>?_) (by lia) fun p' q1 q2 q3=>h p' (q1.trans hp) q2 (by rw [show k + (f + 1)=k + 1 + f by lia]; exact q3)
   rw [zep hks (by lia),zep hks (by lia)]
   have ekl:k - (k - l)=l:=by lia
   rw [ekl]
   by_cases ha:a=l
   ·rw [zc ha]
    by_cases hb2:b=l
    ·rw [zc hb2]; exact Int.le_refl _
    ·rw [zi hb2,zc ⟨by lia,by lia⟩]
     have:=h2 (b - 1) (by lia) (by lia)
     lia
   ·rw [zi ha]
    by_cases ha2:l < a/\a<=k
    ·rw [zc ha2,zi (by lia),zc ⟨by lia,by lia⟩]
     exact hs (a - 1) (b - 1) (by lia) (by lia)
    ·rw [zi ha2]
     have hal:a < l:=by lia
     by_cases hb2:b=l
     ·rw [zc hb2]; exact h1 a hal
     ·rw [zi hb2]
      by_cases hb3:l < b/\b<=k
      ·rw [zc hb3]; exact hs a (b - 1) (by lia) (by lia)
      ·rw [zi hb3]; exact hs a b hab (by lia)
theorem ze5 (hj:j<=p.size) (k:Nat):kA rk (kas_rev p i j) k=if i<=k/\k < j then kA rk p (i + j - 1 - k) else kA rk p k:=by
 unfold kA kas_rev
 rw [getElem?_mirror_all hj]
 by_cases h:i<=k/\k < j
 ·rw [zc h,zc h]
 ·rw [zi h,zi h]
theorem za6 (p:Array Nat) (i j:Nat):(kas_rev p i j).Perm p:=mirror_perm ..
theorem zdJ (hn:0 < n):∀ (f:Nat) (p:Array Nat) (m q:Nat),InR n p->Dsc rk p m->m + f<=n->q + 1<=m->(∀ a,m - (q + 1)<=a->a < m->kA rk p a=kA rk p (m - 1))->
  (∀ p' m' q',p'.Perm p->InR n p'->Dsc rk p' m'->m'<=m + f->m<=m'->q' + 1<=m'->(∀ a,m' - (q' + 1)<=a->a < m'->kA rk p' a=kA rk p' (m' - 1))->P (p',m',q'))->AskOk n rk (kas_desc f p m q) P
 | 0,p,m,q,hr,hd,_,hq,he,h=>h p m q (Array.Perm.refl _) hr hd (zj _) (zj _) hq he
 | f + 1,p,m,q,hr,hd,hm,hq,he,h=>by
   unfold kas_desc
   refine ⟨hr.2 m,hr.2 (m - 1),?_⟩
   rw [zdg (rk:=rk),zdg (rk:=rk)]
   by_cases hc:kA rk p m < kA rk p (m - 1)
   ·(rw [qU hc]; dsimp only; rw [zc rfl])
    have go:∀ p2:Array Nat,p2.Perm p->(∀ k,kA rk p2 k=kA rk p k)->AskOk n rk (kas_desc f p2 (m + 1) 0) P:=by
     intro p2 hp hk
     refine zdJ hn f p2 (m + 1) 0 (zb7 hr hp hn) (fun a b hab hb=>?_) (by lia) (by lia) (fun a h1 h2=>?_) fun p' m' q' g1 g2 g3 g4 g5 g6 g7=>h p' m' q' (g1.trans hp) g2 g3 (by lia) (by lia) g6 g7
     ·rw [hk,hk]
      by_cases hbm:b < m
      ·exact hd a b hab hbm
      ·have:b=m:=by lia
       subst this
       by_cases ha:a=b
       ·rw [ha]; exact Int.le_refl _
       ·have:=hd a (b - 1) (by lia) (by lia)
        lia
     ·have:a=m + 1 - 1:=by lia
      rw [this]
    by_cases hq0:q > 0
    ·rw [zc hq0]
     refine go _ (za6 ..) fun k=>?_
     rw [ze5 (by rw [hr.1]; lia)]
     by_cases hk:m - (q + 1)<=k/\k < m
     ·rw [zc hk,he k hk.1 hk.2,he _ (by lia) (by lia)]
     ·rw [zi hk]
    ·rw [zi hq0]
     exact go p (Array.Perm.refl _) fun _=>rfl
   ·(rw [qV hc]; dsimp only; rw [zi q5])
    refine ⟨hr.2 (m - 1),hr.2 m,?_⟩
    rw [zdg (rk:=rk),zdg (rk:=rk)]
    by_cases hc2:kA rk p (m - 1) < kA rk p m
    ·(rw [qU hc2]; dsimp only; rw [zc rfl])
     exact h p m q (Array.Perm.refl _) hr hd (by lia) (zj _) hq he
    ·(rw [qV hc2]; dsimp only; rw [zi q5])
     have heq:kA rk p m=kA rk p (m - 1):=by lia
     refine zdJ hn f p (m + 1) (q + 1) hr (fun a b hab hb=>?_) (by lia) (by lia) (fun a h1 h2=>?_) fun p' m' q' g1 g2 g3 g4 g5 g6 g7=>h p' m' q' g1 g2 g3 (by lia) (by lia) g6 g7
     ·by_cases hbm:b < m
      ·exact hd a b hab hbm
      ·have:b=m:=by lia
       subst this
       by_cases ha:a=b
       ·rw [ha]; exact Int.le_refl _
       ·have:=hd a (b - 1) (by lia) (by lia)
        lia
     ·show kA rk p a=kA rk p m
      by_cases ha:a=m
      ·rw [ha]
      ·rw [heq]; exact he a (by lia) (by lia)
theorem zln (hm:m<=p.size) (hd:Dsc rk p m):Srt rk (kas_rev p 0 m) m:=fun a b hab hb=>by
 rw [ze5 hm,ze5 hm,zc ⟨zero_le _,by lia⟩,zc ⟨zero_le _,hb⟩]
 exact hd _ _ (by lia) (by lia)
theorem zf4 (hn:0 < n) (hr:InR n p) (hd:Dsc rk p m) (h1:1<=m) (hm:m<=n)
  (h:∀ m' p',p'.Perm p->InR n p'->m<=m'->m'<=n->Srt rk p' m'->P (m',p')):AskOk n rk (kas_tail3 m n p) P:=by
 have hs:=zln (by rw [hr.1]; exact hm) hd
 have hr2:=zb7 hr (za6 p 0 m) hn
 unfold kas_tail3
 exact zbp (zfG hr2 (n - m) m h1 hs fun m' g1 g2 g3 _=>h m' _ (za6 ..) hr2 g1 (by lia) g3)
theorem zex (hn:0 < n) (hr:InR n p) (hd:Dsc rk p (m + 1)) (h1:1<=m) (hm:m + 1<=n)
  (h:∀ m' p',p'.Perm p->InR n p'->1<=m'->m'<=n->Srt rk p' m'->P (m',p')):AskOk n rk (kas_descPart m n p) P:=by
 unfold kas_descPart
 refine zbp (zdJ hn (n - (m + 1)) p (m + 1) 0 hr hd (by lia) (by lia) (fun a g1 g2=>by rw [show a=m + 1 - 1 by lia]) fun p' m' q' g1 g2 g3 g4 g5 g6 g7=>?_)
 show AskOk n rk (if q' > 0 then kas_tail3 m' n (kas_rev p' (m' - (q' + 1)) m') else kas_tail3 m' n p') P
 by_cases hq:q' > 0
 ·rw [zc hq]
  have hk:∀ k,kA rk (kas_rev p' (m' - (q' + 1)) m') k=kA rk p' k:=fun k=>by
   rw [ze5 (by rw [g2.1]; lia)]
   by_cases hk:m' - (q' + 1)<=k/\k < m'
   ·rw [zc hk,g7 k hk.1 hk.2,g7 _ (by lia) (by lia)]
   ·rw [zi hk]
  refine zf4 hn (zb7 g2 (za6 ..) hn) (fun a b hab hb=>by rw [hk,hk]; exact g3 a b hab hb) (by lia) (by lia) fun m2 p2 e1 e2 e3 e4 e5=>h m2 p2 (e1.trans ((za6 ..).trans g1)) e2 (by lia) e4 e5
 ·rw [zi hq]
  exact zf4 hn g2 g3 (by lia) (by lia) fun m2 p2 e1 e2 e3 e4 e5=>h m2 p2 (e1.trans g1) e2 (by lia) e4 e5
theorem zht (hn:2<=n) (hr:InR n p) (h:∀ m' p',p'.Perm p->InR n p'->1<=m'->m'<=n->Srt rk p' m'->P (m',p')):AskOk n rk (kas_count n p) P:=by
 unfold kas_count
 refine zbp (zfG hr (n - 1) 1 (zj _) (fun a b hab hb=>by rw [show a=b by lia]; exact Int.le_refl _) fun m g1 g2 g3 g4=>?_)
 by_cases hm:(m == n)=true
 ·rw [zc hm]
  have:m=n:=by simpa using hm
  exact h m p (Array.Perm.refl _) hr g1 (by lia) g3
 ·rw [zi hm]
  have hne:m≠n:=by simpa using hm
  have hlt:=g4 (by lia)
  by_cases hm1:m > 1
  ·rw [zc hm1]
   refine ⟨hr.2 0,hr.2 (m - 1),?_⟩
   rw [zdg (rk:=rk),zdg (rk:=rk)]
   by_cases hc:kA rk p 0 < kA rk p (m - 1)
   ·(rw [qU hc]; dsimp only; rw [zc rfl])
    exact h m p (Array.Perm.refl _) hr g1 (by lia) g3
   ·(rw [qV hc]; dsimp only; rw [zi q5])
    have heq:∀ a,a < m->kA rk p a=kA rk p (m - 1):=fun a ha=>by
     have e1:=g3 0 a (zero_le _) ha
     have e2:=g3 a (m - 1) (by lia) (by lia)
     lia
    have hk:∀ k,kA rk (kas_rev p 0 m) k=kA rk p k:=fun k=>by
     rw [ze5 (by rw [hr.1]; lia)]
     grind
    refine zex (by lia) (zb7 hr (za6 ..) (by lia)) (fun a b hab hb=>?_) g1 (by lia) fun m2 p2 e1 e2 e3 e4 e5=>h m2 p2 (e1.trans (za6 ..)) e2 e3 e4 e5
    grind
  ·rw [zi hm1]
   have:m=1:=by lia
   subst this
   refine zex (by lia) hr (fun a b hab hb=>?_) (zj _) (by lia) h
   grind
theorem zi3 (hn:0 < n):InR n (List.range n).toArray:=by
 refine ⟨by simp,fun k=>?_⟩
 rw [Array.getD_eq_getD_getElem?]
 by_cases hk:k < n
 ·simp [hk]
 ·simp [hk]; exact hn
theorem zkt (hn:2<=n) (h:∀ p,p.Perm (List.range n).toArray->Srt rk p n->P p):AskOk n rk (kas_sort n) P:=by
 unfold kas_sort
 refine zbp (zht hn (zi3 (by lia)) fun m p g1 g2 g3 g4 g5=>?_)
 show AskOk n rk (if m < n then kas_bin (n - max m 1) p (max m 1) else .ret p) P
 have hmax:max m 1=m:=by lia
 rw [hmax]
 by_cases hm:m < n
 ·rw [zc hm]
  exact zim (by lia) (n - m) p m g2 g5 (by lia) fun p' e1 e2 e3=>h p' (e1.trans g1) (by rw [show m + (n - m)=n by lia] at e3; exact e3)
 ·rw [zi hm]
  have:m=n:=by lia
  subst this
  exact h p g1 g5
end FL
namespace FL
open PySem PySem.Spec PyProof.Rows L2
theorem znV {h:Heap} (x:h.Ns a m) (y:h.Ns a m'):m=m':=by
 obtain ⟨o,es,ep,e,d,_,f⟩:=x
 obtain ⟨o',es',ep',e',d',_,f'⟩:=y
 grind
theorem Inv.laidF (I:Inv X zZ σ H s) (hn:∀ m,s.heap.Ns X.env.locals m->h'.Ns X.env.locals m) (k:∀ b u,b≠X.env.locals->s.heap.get? b=some u->h'.get? b=some u)
  (hp:s.heap.get? a=none) (new:zY X.prog X.w (upd H a o) h' a o):Inv X zZ σ (upd H a o) { s with heap:=h',toks:=t' }:=by
 have ha:H a=none:=by
  cases e:H a with
  | none=>rfl
  | some u=>obtain ⟨v,z⟩:=zY.there (I.hok a u e); rw [hp] at z; cases z
 refine I.step (g':=s.gens) (d':=s.drawn) (ch:=[]) (fun _ z=>nomatch z) (fun b ob nL _ _ e _=>k b ob nL e) (fun b ob nL _ _ e _=>⟨ob.slots,k b ob nL e⟩) (fun b ob _ e n=>by rw [zag (fun z=>by rw [z,hp] at e; cases e)]; exact n)
  (fun b ob _ e=>?_) (fun b xs q=>by rw [zag (zau q ha)]; exact q) (fun b u xs q=>by rw [zag (zau q ha)]; exact q) (fun b ps q=>⟨#[],by rw [zag (zau q ha),q]; simp⟩) hn (fun b ob e=>?_) I.bare
 ·by_cases hb:b=X.env.locals
  ·obtain ⟨m,x,_⟩:=I.loc
   obtain ⟨o',_,_,e',_⟩:=hn m x
   exact ⟨o',by rw [hb]; exact e'⟩
  ·exact ⟨ob,k b ob hb e⟩
 ·by_cases hb:b=a
  ·subst hb; rw [zai] at e; cases e; exact new
  ·rw [zag hb] at e
   refine (I.hok b ob e).stay (fun c v hc q=>k c v (fun z=>?_) q) (fun c q=>by rw [zag (zau q ha)]; exact q) fun c xs q=>by rw [zag (zau q ha)]; exact q
   rw [z] at hc
   rcases hc with r | r
   ·rw [<- r,I.free] at e; cases e
   ·rw [I.free] at r; cases r
section
open HT
theorem zjf:∀ l:List Int,lexLt l l=false
 | []=>rfl
 | x::l=>by rw [zaF,zc rfl,zjf l]
theorem zdP:∀ k j i:List Int,lexLt k j=true->lexLt i j=false->lexLt k i=true
 | [],[],_,h,_=>by cases h
 | [],_::_,[],_,g=>by cases g
 | [],_::_,_::_,_,_=>rfl
 | _::_,[],_,h,_=>by cases h
 | _::_,_::_,[],_,g=>by cases g
 | x::k,y::j,z::i,h,g=>by
   rw [zaF] at h g ⊢
   by_cases xy:x=y
   ·by_cases zy:z=y
    ·rw [zc xy] at h
     rw [zc zy] at g
     rw [zc (xy.trans zy.symm)]
     exact zdP k j i h g
    ·rw [zi zy] at g
     have:=of_decide_eq_false g
     rw [zi (by lia)]
     exact qU (by lia)
   ·rw [zi xy] at h
    have:=qX h
    by_cases zy:z=y
    ·rw [zi (by lia)]
     exact qU (by lia)
    ·rw [zi zy] at g
     have:=of_decide_eq_false g
     rw [zi (by lia)]
     exact qU (by lia)
theorem zcs:∀ i j:List Int,lexLt i j=true->lexLt j i=false
 | [],[],h=>by cases h
 | [],_::_,_=>rfl
 | _::_,[],h=>by cases h
 | x::i,y::j,h=>by
   rw [zaF] at h ⊢
   by_cases xy:x=y
   ·rw [zc xy] at h
    rw [zc xy.symm]
    exact zcs i j h
   ·rw [zi xy] at h
    have:=qX h
    rw [zi (by lia)]
    exact qV (by lia)
theorem zh3 (h:∀ x,p x=true->q x=true):∀ l:List Nat,l.countP p<=l.countP q
 | []=>zj _
 | a::l=>by
   rw [countP_cons,countP_cons]
   have:=zh3 h l
   cases e:p a with
   | true=>rw [h a e]; lia
   | false=>simp only [false_eq_true,if_false]; lia
theorem zk6 (h:∀ x,p x=true->q x=true):∀ l:List Nat,(∃ x,x∈l/\q x=true/\p x=false)->l.countP p < l.countP q
 | [],z=>by obtain ⟨_,z,_⟩:=z; cases z
 | a::l,z=>by
   rw [countP_cons,countP_cons]
   obtain ⟨x,hx,qx,px⟩:=z
   by_cases e:x=a
   ·subst e
    have:=zh3 h l
    rw [qx,px]
    simp only [false_eq_true,if_false,if_true]
    lia
   ·have:=zk6 h l ⟨x,(qD.mp hx).resolve_left e,qx,px⟩
    cases e:p a with
    | true=>rw [h a e]; lia
    | false=>simp only [false_eq_true,if_false]; lia
def rkL (ls:List (List Int)) (i:Nat):Int:=((List.range ls.length).countP fun j=>lexLt (ls.getD j []) (ls.getD i []):Nat)
theorem zne (hi:i < ls.length):decide (rkL ls i < rkL ls j)=lexLt (ls.getD i []) (ls.getD j []):=by
 unfold rkL
 cases e:lexLt (ls.getD i []) (ls.getD j []) with
 | true=>
   refine qU (Int.ofNat_lt.mpr (zk6 (fun k hk=>?_) _ ⟨i,qM.mpr hi,e,zjf _⟩))
   exact zdP _ _ _ hk (zcs _ _ e)
 | false=>
   refine qV fun h=>?_
   have:=zh3 (p:=fun k=>lexLt (ls.getD k []) (ls.getD j [])) (q:=fun k=>lexLt (ls.getD k []) (ls.getD i [])) (fun k hk=>zdP _ _ _ hk e) (List.range ls.length)
   lia
end
section
open PySem.W HT
theorem zfj (i:Nat) (r:IntsAre us ns) (r':IntsAre vs ms) (h:Q (lexLt ns ms) s):KatLex prog w A b (decide (ns.length < ms.length)) Q (us.zip vs) i s:=by
 induction r generalizing vs ms i with
 | nil=>cases r' <;> exact kat_nil h
 | @cons n _ _ ns r ih=>cases r' with
   | nil=>exact kat_nil h
   | @cons m _ _ ms r'=>
     have e:decide ((n::ns).length < (m::ms).length)=decide (ns.length < ms.length):=decide_eq_decide.2 Nat.succ_lt_succ_iff
     rw [e]
     refine kat_cons (wpAny_eqBool_int ?_)
     rw [zaF] at h
     by_cases nm:n=m
     ·rw [zc nm] at h
      rw [show (n == m)=true by simp [nm]]
      exact kat_yes (ih (i + 1) r' h)
     ·rw [zi nm] at h
      rw [show (n == m)=false by simp [nm]]
      refine kat_no ?_
      cases (b && i == 0) with
      | true=>exact oneLt_int h
      | false=>exact kat_one _ _ (PyProof.Rows.lt_int h)
theorem zdv {P:α->Prop} {R:α->Shared->Prop} (hc:∀ i j (C:Bool->Shared->Prop),i < n->j < n->C (decide (rk i < rk j)) s->kas_ask prog w A κ vs i j C s):
  ∀ (t:KasT α),AskOk n rk t P->(∀ a,P a->R a s)->t.kasWp (kas_ask prog w A κ vs) R s
 | .ret a,h,q=>q a h
 | .ask i j k,h,q=>hc i j _ h.1 h.2.1 (zdv hc (k _) h.2.2 q)
def rest (h₀:Heap) (L:Addr) (h:Heap):List (Addr×Obj):=(List.range h.objs.size).filterMap fun b=>if b=L then none else if (h₀.get? b).isSome then none else (h.get? b).map fun o=>(b,o)
theorem zcx:p∈rest h₀ L h↔h.get? p.1=some p.2/\p.1≠L/\h₀.get? p.1=none:=by
 unfold rest
 rw [mem_filterMap]
 constructor
 ·rintro ⟨b,_,e⟩
  by_cases h1:b=L
  ·rw [zc h1] at e; cases e
  ·rw [zi h1] at e
   cases h2:h₀.get? b with
   | some o=>rw [h2] at e; cases e
   | none=>
     rw [h2] at e
     simp only [Option.isSome_none,false_eq_true,if_false] at e
     obtain ⟨o,e1,e2⟩:=q8.mp e
     cases e2
     exact ⟨e1,h1,h2⟩
 ·rintro ⟨e1,e2,e3⟩
  refine ⟨p.1,qM.mpr (qg e1),?_⟩
  rw [zi e2,e3,e1]
  rfl
theorem zh9:∀ {bs:List Addr} {z6:List Value},zW (bs.map V.ref) z6->z6=bs.map Value.ref
 | [],_,.nil=>rfl
 | b::bs,_,.cons r t=>by
   have e:_=Value.ref b:=r
   rw [e,zh9 t]
   rfl
theorem zeP:∀ bs:List Addr,zW (bs.map V.ref) (bs.map Value.ref)
 | []=>.nil
 | _::bs=>.cons rfl (zeP bs)
def TupI (h:Heap) (b:Addr) (l:List Int):Prop:=∃ us,IntsAre us l/\IsTup h b us.toArray
theorem katTups:∀ {bs:List Addr} {ls:List (List Int)},Paired (fun b l=>l≠[]/\TupI h b l) bs ls->∃ fs:List Value,KatTups h (bs.map Value.ref) fs/\fs.length=bs.length/\∀ v∈fs,∃ z t,v=Value.int z t
 | _,_,.nil=>⟨[],.nil,rfl,fun _ z=>nomatch z⟩
 | _,_,.cons ⟨hne,us,r,o,e,c,n,d⟩ t=>by
   obtain ⟨fs,t1,t2,t3⟩:=katTups t
   cases r with
   | nil=>exact absurd rfl hne
   | cons i tk r'=>
     refine ⟨_::fs,.cons e c d rfl t1,by simp [t2],fun v hv=>?_⟩
     rcases qD.mp hv with z | z
     ·exact ⟨_,_,z⟩
     ·exact t3 v z
theorem zbT {R:α->β->Prop}:∀ {l:List α} {m:List β} (i:Nat) (da:α) (db:β),Paired R l m->i < l.length->R (l.getD i da) (m.getD i db)
 | _,_,0,_,_,.cons r _,_=>r
 | _,_,i + 1,da,db,.cons _ t,h=>zbT i da db t (by simpa using h)
def rSortT (K:W.Frag):List V->Hp->VK->Prop:=fun xs H Q=>∃ (a:Addr) (bs:List Addr) (ls:List (List Int)),xs=[.ref a]/\SqL K H a (bs.map V.ref)/\2<=bs.length/\bs.length < 64/\
 Paired (fun b l=>l≠[]/\SqT K H b (l.map V.int)) bs ls/\
 ∀ p:Array Nat,p.Perm (List.range bs.length).toArray->Srt (rkL ls) p bs.length->∀ q,H q=none->Q (.ref q) (upd H q (.lst ((p.toList.map fun i=>bs.getD i 0).map V.ref)))
theorem ze1:CallR X (.builtin "sorted") (rSortT X.K):=by
 intro zZ s σ H xs us Q I r h
 obtain ⟨a,bs,ls,rfl,hq,h2,h64,ht,q⟩:=h
 cases r with
 | cons r1 r2=>
   cases r2
   cases r1
   obtain ⟨z6,rv,pl,_⟩:=I.list hq
   have hv:=zh9 rv
   subst hv
   obtain ⟨m,F⟩:=I.fr
   have N:News X.base X.env.locals s.heap (rest X.base X.env.locals s.heap):=fun p hp=>zcx.mp hp
   refine kat_sorted F N pl.isList (by rw [qq]; exact h2) (by rw [qq]; exact h64) fun D e1 h' F' N' hD=>?_
   have kp:∀ {h':Heap},Fr X.base X.env.locals h' m->News X.base X.env.locals h' (rest X.base X.env.locals s.heap)->∀ b u,b≠X.env.locals->s.heap.get? b=some u->h'.get? b=some u:=fun {h'} F' N' b u hb e=>by
    cases hb0:X.base.get? b with
    | some o=>
      rw [F.keep b o hb0] at e
      rw [<- e]
      exact F'.keep b o hb0
    | none=>exact (N' (b,u) (zcx.mpr ⟨e,hb,hb0⟩)).1
   have tl:∀ {d o news},News X.base X.env.locals h' ((d,o)::news)->News X.base X.env.locals h' news:=fun N p hp=>N p (qo _ hp)
   have hDn:s.heap.get? D=none:=by
    cases e:s.heap.get? D with
    | none=>rfl
    | some u=>
      obtain ⟨_,n1,n2⟩:=N' (D,seqObj "list" #[] e1) qp
      exact absurd (hD (D,u) (zcx.mpr ⟨e,n1,n2⟩)) (lt_irrefl _)
   have tp:Paired (fun b l=>l≠[]/\TupI h' b l) bs ls:=Paired.mapP ht fun b l ⟨hne,hs⟩=>by
    obtain ⟨us,r,⟨o,e,c,n,d⟩,_⟩:=I.tuple hs
    refine ⟨hne,us,zaZ r,o,kp F' (tl N') b o (fun z=>?_) e,c,n,d⟩
    obtain ⟨m,⟨o',es,ep,e',d',_⟩,_⟩:=I.loc
    rw [z,e'] at e; cases e
    rw [d'] at d; cases d
   obtain ⟨fs,t1,t2,t3⟩:=katTups tp
   have hll:ls.length=bs.length:=(Paired.length tp).symm
   refine kat_kind (T:=.type "int") t1 (by lia) (fun v hv=>?_) (by rfl) ?_
   ·obtain ⟨z,t,rfl⟩:=t3 v hv
    exact Looks.of_pure rfl
   ·refine zdv (n:=bs.length) (rk:=rkL ls) (P:=fun p=>p.Perm (List.range bs.length).toArray/\Srt (rkL ls) p bs.length) (fun i j C hi hj hc=>?_) _ (by rw [qq]; exact zkt h2 fun p a b=>⟨a,b⟩) fun p ⟨p1,p2⟩=>?_
    ·rw [zne (by lia)] at hc
     refine cps fun _ kk=>?_
     obtain ⟨_,us,r,o,e,c,n,d⟩:=zbT i 0 [] tp hi
     obtain ⟨_,us',r',o',e',c',n',d'⟩:=zbT j 0 [] tp hj
     refine kk ?_
     have g:∀ i,i < bs.length->(bs.map Value.ref).getD i Value.none=.ref (bs.getD i 0):=fun i hi=>by simp [hi]
     unfold kas_ask
     rw [g i hi,g j hj]
     refine kat_lt e d e' d' ?_
     have l1:us.toArray.size=(ls.getD i []).length:=by rw [qu]; exact r.length
     have l2:us'.toArray.size=(ls.getD j []).length:=by rw [qu]; exact r'.length
     rw [l1,l2]
     exact zfj 0 r r' hc
    ·refine KasFin.intro F' N' (.head fun p hp=>ne_of_lt (hD p hp)) fun h3 c F3 N3=>?_
     have eo:(p.toList.map fun i=>(bs.map Value.ref).getD i Value.none)=(p.toList.map fun i=>bs.getD i 0).map Value.ref:=by
      rw [qH]
      refine map_congr_left fun i hi=>?_
      have hi':i < bs.length:=by
       have:=p1.mem_iff.mp (mem_toList_iff.mp hi)
       simpa using this
      simp [hi']
     rw [eo] at N3
     have hsz:p.toList.length=bs.length:=by
      have:=p1.size_eq
      simpa using this
     refine ⟨.ref D,_,Inv.laidF (s:=s) (t':=s.toks) (o:=.lst ((p.toList.map fun i=>bs.getD i 0).map V.ref)) I (fun m' x=>by rw [znV x F.ns]; exact F3.ns) (fun b u hb e=>kp F3 (fun p hp=>N3 p (qo _ hp)) b u hb e) hDn ?_,rfl,q p p1 p2 D ?_⟩
     ·refine ⟨by simp only [qq]; rw [zt]; lia,_,c,zeP _,(N3 (D,_) qp).1⟩
     ·cases e:H D with
      | none=>rfl
      | some u=>obtain ⟨v,z⟩:=zY.there (I.hok D u e); rw [hDn] at z; cases z
end
end FL
namespace FL
def tI (ns:List Int):D:=.tup (ns.map .int)
def tupsD:List D->Option (List (List Int))
 | []=>some []
 | .tup ds::r=>match intsD ds with
   | some (x::xs)=>(tupsD r).map ((x::xs)::·)
   | _=>none
 | _::_=>none
def sortT (l:List D):Option S:=if 2<=l.length/\l.length < 64/\(tupsD l).isSome=true then some (.lst ((sortD l).map .sh)) else none
def bSortT:List D->Option S
 | [.lst l]=>sortT l
 | _=>none
theorem zgk:∀ {l:List D} {ns:List Int},intsD l=some ns->l=ns.map .int
 | [],_,h=>by cases h; rfl
 | .int x::r,ns,h=>by
   rw [intsD] at h
   obtain ⟨ys,h1,rfl⟩:=q8.mp h
   rw [zgk h1]; rfl
theorem zf2:∀ {l:List D} {ls:List (List Int)},tupsD l=some ls->l=ls.map tI/\∀ x∈ls,x≠[]
 | [],_,h=>by cases h; exact ⟨rfl,fun _ z=>nomatch z⟩
 | .tup ds::r,ls,h=>by
   rw [tupsD] at h
   split at h
   ·rename_i x xs e
    obtain ⟨ys,h1,rfl⟩:=q8.mp h
    obtain ⟨e1,e2⟩:=zf2 h1
    refine ⟨by rw [e1,zgk e]; rfl,fun z hz=>?_⟩
    rcases qD.mp hz with rfl | hz
    ·exact fun q=>nomatch q
    ·exact e2 z hz
   ·cases h
theorem zeB:∀ {ls:List (List Int)},(∀ x∈ls,x≠[])->tupsD (ls.map tI)=some ls
 | [],_=>rfl
 | []::_,h=>absurd rfl (h [] qp)
 | (x::xs)::ls,h=>by
   rw [qB]
   show (match intsD ((x::xs).map D.int) with | some (x::xs)=>(tupsD (ls.map tI)).map ((x::xs)::·) | _=>none)=_
   rw [za1,zeB fun y hy=>h y (qo _ hy)]
   rfl
def sort3 (l:List D):Option S:=if l.length < 2 then some (.lst (l.map .sh)) else match sortT l with
 | some s=>some s
 | none=>sortS l
def bSort3:List D->Option S
 | [.lst l]=>sort3 l
 | _=>none
theorem zgA {ls:List (List Int)} (h64:ls.length < 64) (hne:∀ x∈ls,x≠[]):bSort3 [.lst (ls.map tI)]=some (.lst ((sortD (ls.map tI)).map .sh)):=by
 show sort3 _=_
 unfold sort3
 by_cases h2:(ls.map tI).length < 2
 ·rw [zc h2]
  match ls,h2 with
  | [],_=>rfl
  | [_],_=>rfl
  | _::_::_,h2=>simp at h2; lia
 ·rw [zi h2]
  rw [qq] at h2
  have e:sortT (ls.map tI)=some (.lst ((sortD (ls.map tI)).map .sh)):=by
   unfold sortT
   rw [zc ⟨by rw [qq]; lia,by rw [qq]; exact h64,by rw [zeB hne]; rfl⟩]
  rw [e]
end FL
namespace FL
open PySem PySem.Spec PyProof.Rows L2
open HT
theorem zdx:∀ ns ms:List Int,cmpDs (ns.map .int) (ms.map .int)=if lexLt ns ms=true then .lt else if lexLt ms ns=true then .gt else .eq
 | [],[]=>rfl
 | [],_::_=>rfl
 | _::_,[]=>rfl
 | x::ns,y::ms=>by
   rw [qB,qB,zaF,zaF,cmpDs,cmpD]
   by_cases h:x < y
   ·rw [zc h,zi (show ¬ x=y by lia),zc (qU h)]
   ·rw [zi h]
    by_cases h2:y < x
    ·rw [zc h2,zi (show ¬ x=y by lia),zi (show ¬ y=x by lia),zi (by simp; lia),zc (qU h2)]
    ·have e:x=y:=by lia
     subst e
     rw [zi h2,zc rfl,zc rfl]
     exact zdx ns ms
theorem zbB (ns ms:List Int):leD (tI ns) (tI ms)=!lexLt ms ns:=by
 unfold leD tI
 rw [cmpD,zdx]
 cases e:lexLt ns ms with
 | true=>rw [zcs _ _ e]; rfl
 | false=>
   cases e2:lexLt ms ns with
   | true=>rfl
   | false=>rfl
theorem zge:∀ a b:List Int,lexLt a b=false->lexLt b a=false->a=b
 | [],[],_,_=>rfl
 | [],_::_,h,_=>by cases h
 | _::_,[],_,h=>by cases h
 | x::a,y::b,h,g=>by
   rw [zaF] at h g
   by_cases e:x=y
   ·subst e
    rw [zc rfl] at h g
    rw [zge a b h g]
   ·rw [zi e] at h
    rw [zi (Ne.symm e)] at g
    have:=of_decide_eq_false h
    have:=of_decide_eq_false g
    lia
def IsTI (d:D):Prop:=∃ ns,d=tI ns
theorem zlU:OrdOn IsTI where
 tot:=by
  rintro _ _ ⟨a,rfl⟩ ⟨b,rfl⟩
  rw [zbB,zbB]
  cases e:lexLt b a with
  | false=>exact .inl rfl
  | true=>exact .inr (by rw [zcs _ _ e]; rfl)
 tr:=by
  rintro _ _ _ ⟨a,rfl⟩ ⟨b,rfl⟩ ⟨c,rfl⟩
  rw [zbB,zbB,zbB]
  intro h1 h2
  cases e:lexLt c a with
  | false=>rfl
  | true=>
    grind [zdP]
 anti:=by
  rintro _ _ ⟨a,rfl⟩ ⟨b,rfl⟩
  grind [zbB,zge]
section
variable {K:W.Frag}
theorem zhy:∀ {xs:List V} {ls:List (List Int)},zX K F xs (ls.map tI)->∃ bs:List Addr,xs=bs.map V.ref/\Paired (fun b l=>F b=some (.tup (l.map V.int))) bs ls
 | _,[],.nil=>⟨[],rfl,.nil⟩
 | _,l::ls,.cons a b=>by
   obtain ⟨bs,e,t⟩:=zhy b
   cases a with
   | tup h r=>
     obtain ⟨e1,_⟩:=zdD r (za1 l)
     subst e1
     exact ⟨_::bs,by rw [e]; rfl,.cons h t⟩
theorem zeg:∀ {bs:List Addr} {ls:List (List Int)},Paired (fun b l=>F b=some (.tup (l.map V.int))) bs ls->zX K F (bs.map V.ref) (ls.map tI)
 | _,_,.nil=>.nil
 | _,_,.cons h t=>.cons (.tup h (zbJ _)) (zeg t)
theorem zdB {R:α->β->Prop} {l:List α} {m:List β} {da:α} {db:β} (h:Paired R l m):∀ {q:List Nat},(∀ i∈q,i < l.length)->Paired R (q.map fun i=>l.getD i da) (q.map fun i=>m.getD i db)
 | [],_=>.nil
 | i::q,z=>.cons (zbT i da db h (z i qp)) (zdB h fun j hj=>z j (qo _ hj))
theorem ziQ {R R':α->β->Prop} {l:List α} {m:List β} (h:Paired R l m) (f:∀ a b,b∈m->R a b->R' a b):Paired R' l m:=by
 induction h with
 | nil=>exact .nil
 | cons r _ ih=>exact .cons (f _ _ qp r) (ih fun a b hb=>f a b (qo _ hb))
theorem zgS {α:Type} (d:α):∀ l:List α,(List.range l.length).map (fun i=>l.getD i d)=l:=fun l=>by
 refine List.ext_getElem (by simp) fun i h1 h2=>?_
 simp [h2]
theorem zg2:DoesB K (rSortT K) bSortT:=by
 intro σ U F G H vs ds s Q z4 re e hq
 obtain ⟨d,v,rfl,rfl⟩:=arg1 (fun x y r=>by cases x <;> rfl) rfl re e
 cases d with
 | lst l=>
   have e:sortT l=some s:=e
   unfold sortT at e
   split at e
   ·rename_i hc
    cases e
    obtain ⟨h2,h64,h3⟩:=hc
    obtain ⟨ls,q1⟩:=Option.isSome_iff_exists.mp h3
    obtain ⟨el,hne⟩:=zf2 q1
    subst el
    rw [qq] at h2 h64
    obtain ⟨a,xs,rfl,h1,r1⟩:=re.1.lst z4.fr
    obtain ⟨bs,rfl,t⟩:=zhy r1
    have hl:bs.length=ls.length:=Paired.length t
    refine ⟨a,bs,ls,rfl,h1,by lia,by lia,ziQ t fun b l hb h=>⟨hne l hb,SqT.of (z4.fr _ _ h)⟩,fun p p1 p2 q hq'=>?_⟩
    have hin:∀ i∈p.toList,i < bs.length:=fun i hi=>by
     have:=p1.mem_iff.mp (mem_toList_iff.mp hi)
     simpa using this
    have t2:=zdB (da:=0) (db:=[]) t (q:=p.toList) hin
    have pp:p.toList.Perm (List.range ls.length):=by
     have:=Array.perm_iff_toList_perm.mp p1
     rw [<- hl]; simpa using this
    have perm:(p.toList.map fun i=>ls.getD i []).Perm ls:=(pp.map _).trans (by rw [zgS])
    have hsz:p.size=bs.length:=by have:=p1.size_eq; simpa using this
    have es:sortD (ls.map tI)=(p.toList.map fun i=>ls.getD i []).map tI:=by
     refine zbH zlU (fun d hd=>by obtain ⟨z,_,rfl⟩:=qN.mp hd; exact ⟨z,rfl⟩) (perm.map _) ?_
     rw [qH,pairwise_map]
     refine List.pairwise_iff_getElem.mpr fun i j hi hj hij=>?_
     simp only [Function.comp]
     rw [zbB]
     have hj':j < bs.length:=by rw [<- hsz]; simpa using hj
     have hi':i < bs.length:=by lia
     have k:=p2 i j (by lia) hj'
     have gi:∀ i (h:i < p.toList.length),kA (rkL ls) p i=rkL ls p.toList[i]:=fun i h=>by
      unfold kA
      rw [getElem?_eq_getElem (by simpa using h)]
      simp
     rw [gi i hi,gi j hj] at k
     have hb:=hin _ (getElem_mem hj)
     have:=zne (ls:=ls) (i:=p.toList[j]) (j:=p.toList[i]) (by lia)
     rw [<- this,qV (by lia)]
     rfl
    rw [es] at hq
    exact hq _ F _ (zK.refl F) (z4.newLD hq' (zeg t2))
   ·cases e
 | _=>cases e
end
end FL
namespace FL
open PySem PySem.Spec PyProof.Rows L2
theorem zlh {vs:List Value} (few:vs.length < 2):(vs.toArray.zip vs.toArray).map (·.2)=vs.toArray:=by
 rw [List.zip_toArray,List.map_toArray,List.map_snd_zip (zj _)]
theorem zkN (at_:s.heap.get? a=some (seqObj "list" vs.toArray n)) (few:vs.length < 2)
  (k:P (.done (.ret .none)) { s with heap:=sortedHeap s.heap a vs vs.toArray }):wpAny (model prog w) A (Builtin.«list.sort» ⟨[.ref a],[]⟩) P E s:=by
 rw [list_sort_plain]
 have few':vs.toArray.size < 2:=by simpa using few
 have hmid:∃ e,(s.heap.update a (Obj.mapSeq fun _=>#[])).get? a=some (seqObj "list" #[] e):=⟨_,get?_update_seq at_ _⟩
 obtain ⟨e,mid⟩:=hmid
 have end_:(((s.heap.update a (Obj.mapSeq fun _=>#[])).push (seqObj "tuple" vs.toArray 0)).push (seqObj "list" #[] 0)).get? a=some (seqObj "list" #[] e):=
  qc _ (qc _ mid)
 refine qa (listItems_at at_ rfl (qa (listUpdate_at at_ rfl (qa (seqEpoch_at mid rfl (qa (wpAny_newTuple (qa (wpAny_newList (zv ?_))))))))))
 show wpAny (model prog w) A _ P E (Shared.mk (((s.heap.update a (Obj.mapSeq fun _=>#[])).push (seqObj "tuple" vs.toArray 0)).push (seqObj "list" #[] 0)) s.gens s.drawn s.toks s.os)
 dsimp only
 rw [zc few',zc few']
 refine qa (qb (?_:wpAny _ _ _ _ _ _))
 rw [StateT.run_pure]
 have eo:(arrOf (SortSt.mk' general' (vs.toArray.zip vs.toArray) #[] 7 none)).map (·.2)=vs.toArray:=by
  show (vs.toArray.zip vs.toArray).map (·.2)=_
  exact zlh few
 refine qa (qb (?_:wpAny _ _ _ _ _ _))
 dsimp only
 rw [eo]
 refine qa (seqEpoch_at end_ rfl (qa (listUpdate_at end_ rfl ?_ (hsz2:=by rw [zt]; lia))))
 simp only [bne_self_eq_false,false_eq_true,if_false]
 exact qb k
theorem zgG (is:s.heap.IsList l vs.toArray) (few:vs.length < 2)
  (k:Q (.ref (s.heap.objs.size + 1)) { s with heap:=sortedAll s.heap vs vs.toArray }):wpAny (model prog w) A (call (.builtin "sorted") [.ref l]) Q E s:=by
 refine Calls.call_function_entry kind_sorted plain_sorted entry_sorted (args_sorted1 _) (?_:wpAny _ _ _ _ _ _)
 unfold Builtin.«sorted»
 refine qa (m:=checkCount "sorted" 1 1 _) (qb (qa (collect_list is (qa (wpAny_newList ?_)))))
 generalize eh:((s.heap.push (seqObj "list" #[] 0)).update s.heap.objs.size (Obj.mapSeq (·++vs.toArray)))=h1
 have z:h1.objs.size=s.heap.objs.size + 1:=by rw [<- eh,Heap.size_update,size_push']
 have new:(h1.push (seqObj "list" vs.toArray 0)).get? (s.heap.objs.size + 1)=some (seqObj "list" vs.toArray 0):=z ▸ qd _ rfl
 show wpAny _ _ _ _ _ (Shared.mk (h1.push (seqObj "list" vs.toArray 0)) s.gens s.drawn s.toks s.os)
 rw [z]
 refine qa (zv (zr slot_list_sort ⟨_,new,rfl⟩ entry_list_sort (zkN new few ⟨_,rfl,?_⟩) (args_list_sort _)))
 subst eh
 exact qb ⟨_,rfl,k⟩
section
variable {K:W.Frag}
def rSort1 (K:W.Frag):List V->Hp->VK->Prop:=fun xs H Q=>∃ a ys,xs=[.ref a]/\SqL K H a ys/\ys.length < 2/\∀ q,H q=none->Q (.ref q) (upd H q (.lst ys))
theorem zeZ:CallR X (.builtin "sorted") (rSort1 X.K):=by
 intro zZ s σ H xs us Q I r h
 obtain ⟨a,ys,rfl,hq,h2,q⟩:=h
 cases r with
 | cons r1 r2=>
   cases r2
   cases r1
   obtain ⟨z6,r,pl,_⟩:=I.list hq
   refine zgG pl.isList (by rw [<- r.length]; exact h2) ?_
   obtain ⟨e,he⟩:=sortedAll_at s.heap z6 z6.toArray
   refine ⟨.ref (s.heap.objs.size + 1),_,I.laid (t':=s.toks) (o:=.lst ys) (fun b ob w=>sortedAll_old w) (le_succ _) ?_,rfl,q _ (I.hok.fresh (le_succ _))⟩
   exact ⟨by rw [zt]; lia,z6,e,r,he⟩
theorem ze8:∀ {xs:List V} {l:List D},zX K F xs l->xs.length=l.length
 | _,_,.nil=>rfl
 | _,_,.cons _ t=>by rw [qv,qv,ze8 t]
def rSort3 (K:W.Frag):List V->Hp->VK->Prop:=fun xs H Q=>rSort1 K xs H Q\/rSortT K xs H Q\/rSorted K xs H Q
theorem zgN:CallR X (.builtin "sorted") (rSort3 X.K):=fun zZ s σ H xs us Q I r h=>by
 rcases h with h | h | h
 ·exact zeZ zZ s σ H xs us Q I r h
 ·exact ze1 zZ s σ H xs us Q I r h
 ·exact zeN zZ s σ H xs us Q I r h
theorem zgW:DoesB K (rSort3 K) bSort3:=by
 intro σ U F G H vs ds s Q z4 re e hq
 obtain ⟨d,v,rfl,rfl⟩:=arg1 (fun x y r=>by cases x <;> rfl) rfl re e
 cases d with
 | lst l=>
   have e:sort3 l=some s:=e
   unfold sort3 at e
   by_cases h2:l.length < 2
   ·rw [zc h2] at e
    cases e
    obtain ⟨a,xs,rfl,h1,r1⟩:=re.1.lst z4.fr
    exact .inl ⟨a,xs,rfl,h1,by rw [ze8 r1]; exact h2,fun q hq'=>hq _ F _ (zK.refl F) (z4.newLD hq' r1)⟩
   ·rw [zi h2] at e
    cases e1:sortT l with
    | some t=>rw [e1] at e; exact .inr (.inl (zg2 σ U F G H [v] [.lst l] s Q z4 re (e1.trans e) hq))
    | none=>rw [e1] at e; exact .inr (.inr (zfo σ U F G H [v] [.lst l] s Q z4 re e hq))
 | _=>cases e
theorem zdS (hg:Gl X "sorted") (hm:X.mg "sorted"=none) (hv:bootBuiltins "sorted"=some (.builtin "sorted")) (ha:FA X (e::es) wa) (he:starEach (e::es) X.env=(false,eval e X.env)::starEach es X.env:=by rfl) (hpl:(backTo pos (starEach es X.env)).any (·.1)=false:=by rfl):FE X (.Call (.Name "sorted" p) (e::es) [] pos) (wB bSort3 wa):=
 zba (fun pn xe=>zgN (X:=wp X pn xe)) zgW hg hm hv ha (by decide) (by decide) he hpl
end
end FL
namespace FL
def cInA (a b:D):Option Bool:=match b with
 | .str l=>match a with
   | .str x=>some (findD l x).isSome
   | _=>none
 | d=>cIn a d
def cNotInA (a b:D):Option Bool:=(cInA a b).map (!·)
def wAppendAt (j:Nat) (i e:WE):WE:=fun U Q E=>match slot U j with
 | some (.lst _)=>i U (fun y U1=>match view y U1,slot U1 j with
   | some (.int n),some (.lst l)=>zJ (ixN l.length n) fun m=>match l[m]? with
     | some (.lst l')=>e (U1.set j none) (fun r U2=>zJ (give r U2) fun p=>l'.length < big/\Q (.v (.sh .non)) (p.2.set j (some (.lst (l.set m (.lst (l'++[p.1]))))))) E
     | _=>False
   | _,_=>False) E
 | _=>False
def wFrz (a:WE):WE:=fun U Q E=>a U (fun r U1=>zJ (give r U1) fun p=>Q (.v (.sh p.1.toD)) p.2) E
def wFz (i:Nat) (w:WS):WS:=fun D U=>w { D with nx:=fun U1=>zJ (slot U1 i) fun s=>D.nx (U1.set i (some (.sh s.toD))) } U
def lkD (d q:D):Option (Option D):=match d with
 | .dct t ks vs=>if isKey t q then some (lk ks vs q) else none
 | _=>none
def wIxA (a b:WE):WE:=fun U Q E=>a U (fun x U1=>b U1 (fun y U2=>zJ (zV x U2) fun dd=>zJ (view y U2) fun q=>zJ (lkD dd q) fun o=>zJ o fun e=>Q (.v (.sh e)) U2) E) E
def bMinL:List D->Option S
 | [.lst l]=>(intsD l).bind fun ns=>(ns.min?).map fun m=>S.sh (.int m)
 | _=>none
def wListI (it:WI):WE:=fun U Q E=>it U (fun l U1=>l.length<=big/\Q (.v (.lst (l.map .sh))) U1) E
def wTupI (it:WI):WE:=fun U Q E=>it U (fun l U1=>l.length<=big/\Q (.v (.sh (.tup l))) U1) E
def wTupRev (a:WE):WE:=fun U Q E=>a U (fun r U1=>zJ (zV r U1) fun d=>match d with
 | .tup l=>l.length<=big/\Q (.v (.sh (.tup l.reverse))) U1
 | _=>False) E
mutual
def okSh:D->Bool
 | .non=>true
 | .bl _=>true
 | .int i=>decide (-1000000000000 < i) && decide (i < 1000000000000)
 | .str l=>l.all fun c=>decide (c < 1114112)
 | .tup l=>okShs l
 | .lst l=>okShs l
 | _=>false
def okShs:List D->Bool
 | []=>true
 | d::r=>okSh d && okShs r
end
mutual
def wtD:D->Nat
 | .int _=>41
 | .str l=>l.length
 | .tup l=>wtDs l
 | .lst l=>wtDs l
 | _=>0
def wtDs:List D->Nat
 | []=>0
 | d::r=>wtD d + 1 + wtDs r
end
def oMulA (p q:D):Option S:=match p,q with
 | .str x,.int n=>if 0<=n/\n<=1000/\x.length<=500 then some (.sh (.str (List.replicate n.toNat x).flatten)) else none
 | p,q=>oMul p q
end FL
namespace FL
open PySem PySem.Spec PyProof.Rows L2
section
variable {K:W.Frag}
theorem zfl (x y:Str):Txt.contains x y=(findD x.cps.toList y.cps.toList).isSome:=by
 have h:=zlA x y
 unfold Txt.find at h
 unfold Txt.contains
 cases q:Builtin.Str.occurrences x y 0 x.length 1 with
 | nil=>
   rw [q] at h
   cases e:findD x.cps.toList y.cps.toList with
   | none=>rfl
   | some i=>rw [e] at h; have h':(-1:Int)=(i:Int):=h; lia
 | cons i r=>
   rw [q] at h
   cases e:findD x.cps.toList y.cps.toList with
   | none=>rw [e] at h; have h':((i:Nat):Int)=-1:=h; lia
   | some i=>rfl
def rInS (neg:Bool):R2:=fun x y H Q=>∃ z u,x=.str z/\y=.str u/\Q (.bl (if neg then !(Txt.contains u z) else Txt.contains u z)) H
theorem zoP:OpR X (compareOp .In) (rInS false):=by
 intro zZ s σ H x y v u Q I rx ry h
 obtain ⟨z,t,rfl,rfl,q⟩:=h
 obtain ⟨t1,rfl⟩:=rx
 obtain ⟨t2,rfl⟩:=ry
 exact SB.contains ⟨.bl _,H,I,rfl,q⟩
theorem zjg:OpR X (compareOp .NotIn) (rInS true):=by
 intro zZ s σ H x y v u Q I rx ry h
 obtain ⟨z,t,rfl,rfl,q⟩:=h
 obtain ⟨t1,rfl⟩:=rx
 obtain ⟨t2,rfl⟩:=ry
 exact SB.notContains ⟨.bl _,H,I,rfl,q⟩
def rInX (K:W.Frag) (neg:Bool):R2:=fun x y H Q=>rInAll K neg x y H Q\/rInS neg x y H Q
theorem znR (hu:X.A.units + 32 < cLine):OpR X (compareOp .In) (rInX X.K false):=FL.OpR.or (zkd hu) zoP
theorem zen (hu:X.A.units + 32 < cLine):OpR X (compareOp .NotIn) (rInX X.K true):=FL.OpR.or (zfa hu) zjg
theorem zgn (r1:Rep K H x p) (r2:Rep K H y q) (e:cInA p q=some k) (hq:Q (.bl (if neg then !k else k)) H):rInX K neg x y H Q:=by
 unfold cInA at e
 split at e
 ·split at e
  ·cases r1 with
   | str e1 z1=>cases r2 with
     | str e2 z2=>
       refine .inr ⟨_,_,rfl,rfl,?_⟩
       rw [zfl,e1,e2,qh e]
       exact hq
  ·cases e
 ·exact .inl (zl5 r1 r2 e hq)
theorem zkn:DoesC K (rInX K false) cInA:=fun H x y p q k Q r1 r2 e hq=>zgn r1 r2 e hq
theorem zc8:DoesC K (rInX K true) cNotInA:=fun H x y p q k Q r1 r2 e hq=>by
 unfold cNotInA at e
 cases q1:cInA p q with
 | none=>rw [q1] at e; cases e
 | some b=>
   rw [q1] at e
   have e':(!b)=k:=qh e
   subst e'
   exact zgn r1 r2 q1 hq
inductive SAt (K:W.Frag) (F H:Hp) (xs:List V) (l:List S) (fp:List Addr) (m:Nat) (s:S):Prop
 | mk (x:V) (fa fi fb:List Addr):xs[m]?=some x->SRep K F H x s fi->fp=fa++(fi++fb)->(∀ {H':Hp} {v':V} {s':S} {fq:List Addr},(∀ a∈fa++fb,H' a=H a)->SRep K F H' v' s' fq->zN K F H' (xs.set m v') (l.set m s') (fa++(fq++fb)))->SAt K F H xs l fp m s
theorem zN.at:∀ {xs:List V} {l:List S} {fp:List Addr} {m:Nat} {s:S},zN K F H xs l fp->l[m]?=some s->SAt K F H xs l fp m s
 | _,_,_,_,_,.nil,h=>by simp at h
 | _,_,_,0,_,.cons (fp:=fp) (fq:=fq) a b,h=>by
   simp at h
   subst h
   exact ⟨_,[],fp,fq,rfl,a,rfl,fun hk r=>by rw [nil_append]; exact .cons r (b.mono (zK.refl F) fun c hc=>hk c hc)⟩
 | _,_,_,m + 1,_,.cons (fp:=fp) (fq:=fq) a b,h=>by
   obtain ⟨x,fa,fi,fb,h1,h2,rfl,up⟩:=zN.at (m:=m) b (by simpa using h)
   refine ⟨x,fp++fa,fi,fb,by simpa using h1,h2,(qr ..).symm,fun hk r=>?_⟩
   rw [qr]
   exact .cons (a.mono (zK.refl F) fun c hc=>hk c (qm _ (qm _ hc))) (up (fun c hc=>hk c ((qA.mp hc).elim (fun z=>qm _ (qk _ z)) fun z=>qk _ z)) r)
theorem Rel.hide2 (r:Rel K (U++[some s]) (σ++[some v]) F G H) (h:U.length=σ.length):∃ G' fp,Rel K U σ F G' H/\zK G G'/\SRep K F H v s fp/\(∀ a∈fp,∃ o,G' a=some o/\H a=some o)/\
  ∀ {U2:Env} {σ2:St} {F2 H2:Hp},zK F F2->Rel K U2 σ2 F2 G' H2->Rel K (U2++[some s]) (σ2++[some v]) F2 G H2:=by
 classical
 refine cps fun _ kk=>?_
 obtain ⟨fp,e,nd,ap⟩:=r.en
 obtain ⟨f1,f2,rfl,a,b⟩:=e.cut h
 obtain ⟨n1,n2,n12⟩:=qz.mp nd
 refine kk ?_
 have b':=b
 cases b' with
 | @so _ _ _ _ fs fn sr nl=>
 cases nl
 refine ⟨fun x=>if x∈fs++[] then H x else G x,fs,⟨r.fr,fun x o q=>?_,f1,a,n1,fun x hx=>?_⟩,fun x o q=>?_,sr,fun x hx=>?_,fun {U2 σ2 F2 H2} sm r2=>?_⟩
 ·by_cases z:x∈fs++[]
  ·have:=b.in_ x z
   grind
  ·simp only [z,if_false] at q
   exact r.gr x o q
 ·grind
 ·grind
 ·obtain ⟨o,q,_⟩:=b.in_ x (qm _ hx)
  grind
 ·obtain ⟨fp2,e2,nd2,ap2⟩:=r2.en
  have hk:∀ x∈fs++[],H2 x=H x/\F2 x=none/\x∉fp2:=fun x hx=>by
   obtain ⟨o,q,_⟩:=b.in_ x hx
   have w:=r2.gr x o (by simp only [hx,if_true]; exact q)
   grind
  refine ⟨r2.fr,fun x o q=>?_,fp2++(fs++[]),e2.app (b.mono sm fun x hx=>(hk x hx).1),?_,fun x hx=>?_⟩
  ·have z:x∉fs++[]:=fun z=>by
    grind
   exact r2.gr x o (by simp only [z,if_false]; exact q)
  ·grind
  grind
theorem Rel.appendAt {D b:Addr} (r:Rel K (U++[some t,some (.lst l)]) (σ++[some v,some (.ref D)]) F G H) (h:U.length=σ.length) (hm:l[m]?=some (.lst l'))
  (hD:H D=some (.lst xs)) (hb:xs[m]?=some (.ref b)) (hy:H b=some (.lst ys)):
  ys.length=l'.length/\Rel K (U++[some (.lst (l.set m (.lst (l'++[t]))))]) (σ++[some (.ref D)]) F G (upd H b (.lst (ys++[v]))):=by
 obtain ⟨fp,e,nd,ap⟩:=r.en
 obtain ⟨f1,f2,rfl,a,c⟩:=e.cut h
 cases c with
 | @so _ _ _ _ ft f3 st c=>
 cases c with
 | @so _ _ _ _ fD fn sd nl=>
 cases nl
 cases sd with
 | @lst _ xs' _ fl hD' rl=>
 rw [hD] at hD'
 cases hD'
 obtain ⟨x,fa,fi,fb,hx,sx,rfl,up⟩:=rl.at hm
 rw [hb] at hx
 cases hx
 cases sx with
 | @lst _ ys' _ fy hy' ry=>
 rw [hy] at hy'
 cases hy'
 refine ⟨ry.len,?_⟩
 have hp:(f1++(ft++(D::(fa++(b::fy++fb))++[]))).Perm (b::(f1++(ft++(D::(fa++(fy++fb)))))):=by
  simp only [qC,qR]
  have h1:(fa++b::(fy++fb)).Perm (b::(fa++(fy++fb))):=perm_middle
  refine ((h1.cons D).append_left (f1++ft) |>.trans ?_ |> fun z=>(by simpa using z))
  have h2:(D::b::(fa++(fy++fb))).Perm (b::D::(fa++(fy++fb))):=List.Perm.swap ..
  refine (h2.append_left (f1++ft)).trans ?_
  exact perm_middle.trans (by rw [qr])
 have nd':=hp.nodup_iff.mp nd
 obtain ⟨nb,_⟩:=qO.mp nd'
 have ne:∀ {w:List Addr},(∀ x∈w,x∈f1++(ft++(D::(fa++(fy++fb)))))->∀ x∈w,upd H b (.lst (ys++[v])) x=H x:=fun hw x hx=>zag fun z=>nb (z ▸ hw x hx)
 have apb:=ap b (hp.mem_iff.mpr qp)
 have new:SRep K F (upd H b (.lst (ys++[v]))) (.ref b) (.lst (l'++[t])) (b::(fy++ft)):=.lst zai (zN.snoc (ry.mono (zK.refl F) (ne fun x hx=>by simp [hx])) (st.mono (zK.refl F) (ne fun x hx=>by simp [hx])))
 have r2:=up (H':=upd H b (.lst (ys++[v]))) (ne fun x hx=>by
  rcases qA.mp hx with z | z <;> simp [z]) new
 have e2:xs.set m (.ref b)=xs:=by
  apply ext_getElem?
  intro j
  by_cases hj:m=j
  ·subst hj
   rw [getElem?_set_self (qi.mp hb).1,hb]
  ·rw [getElem?_set_ne hj]
 rw [e2] at r2
 have hDb:D≠b:=fun z=>nb (by simp [z])
 have top:SRep K F (upd H b (.lst (ys++[v]))) (.ref D) (.lst (l.set m (.lst (l'++[t])))) (D::(fa++((b::(fy++ft))++fb))):=.lst ((zag hDb).trans hD) r2
 have p:(f1++((D::(fa++((b::(fy++ft))++fb)))++[])).Perm (f1++(ft++(D::(fa++(b::fy++fb))++[]))):=by
  refine List.Perm.append_left _ ?_
  simp only [qC,qR,qr]
  have h1:(fy++(ft++fb)).Perm (ft++(fy++fb)):=by
   rw [<- qr,<- qr]
   exact List.Perm.append_right _ qQ
  have h2:(fa++b::(fy++(ft++fb))).Perm (ft++(fa++b::(fy++fb))):=by
   refine ((h1.cons b).append_left fa).trans ?_
   have h3:(b::(ft++(fy++fb))).Perm (ft++(b::(fy++fb))):=perm_middle.symm
   refine (h3.append_left fa).trans ?_
   rw [<- qr,<- qr]
   exact List.Perm.append_right _ qQ
  refine (h2.cons D).trans ?_
  exact perm_middle.symm
 refine ⟨zK.updR r.fr apb.1,fun x o w=>?_,_,(a.mono (zK.refl F) (ne fun x hx=>by simp [hx])).app (.so top .nil),p.nodup_iff.mpr nd,fun x hx=>ap x (p.mem_iff.mp hx)⟩
 have hx:x≠b:=fun z=>by rw [z,apb.2] at w; cases w
 rw [zag hx]
 exact r.gr x o w
end
theorem zc7 (ho:FE X o (zF j)) (hi:FE X i wi) (he:FE X e we) (hix:PlainIx i:=by intro _ _; rfl)
  (hbase:attributeBase (.Subscript o i spos) "append" X.env (eval (.Subscript o i spos) X.env)=eval (.Subscript o i spos) X.env:=by rfl)
  (hfew:((backTo cpos (starEach [e] X.env)).all (fun x=>!x.1) && (backToKw cpos (keywordEach [] X.env)).all (fun x=>x.1.isSome)
   && decide ([e].length + ([]:List Keyword).length + (if ([]:List Keyword).isEmpty then 0 else 1) < 30))=true:=by rfl)
  (hline:(apos.endLine == cpos.line)=true:=by rfl) (hs:starEach [e] X.env=[(false,eval e X.env)]:=by rfl):FE X (.Call (.Attribute (.Subscript o i spos) "append" apos) [e] [] cpos) (wAppendAt j wi we):=fun pn xe hp=>by
 refine PE.imp (zjx (X:=wp X pn xe) PySem.F.plainAttrs_list PySem.F.slot_list_append PySem.F.type_list_append zc0 (zk7 (zkV (X:=wp X pn xe)) (ho pn xe hp) (hi pn xe hp) hix) (zaa he zab hs pn xe hp) hbase hfew hline hs rfl) fun σ H Q q=>?_
 obtain ⟨F,G,U,P,PX,z4,hw,hok,hx⟩:=q
 unfold wAppendAt at hw
 cases qs:slot U j with
 | none=>rw [qs] at hw; exact hw.elim
 | some s0=>
   cases s0 with
   | lst l0=>
     rw [qs] at hw
     dsimp only at hw
     refine ⟨F,G,U,fun y U1=>y=.loc j/\U1=U,PX,z4,by unfold zF; rw [qs]; exact ⟨rfl,rfl⟩,fun y U1 o' F1 H1 hk s1 r1 rv=>?_,hx⟩
     obtain ⟨rfl,rfl⟩:=hk
     have l1:=len1 r1
     have hσ:σ[j]?=some (some o'):=rv
     have r2:=r1.drop l1
     refine ⟨F1,G,U1,_,PX,r2,hw,fun z U2 i' F2 H2 hk2 s2 r3 rv2=>?_,hx.grow s1⟩
     have l2:=len1 r3
     split at hk2
     ·rename_i n l ei ql
      obtain ⟨m,em,hk2⟩:=zad hk2
      split at hk2
      ·rename_i l' el
       have ri:=look (U':=[]) (σ':=[]) r3 l2 rv2 ei
       have r4:=r3.drop l2
       obtain ⟨v',fp,e1,sr⟩:=r4.at ql
       rw [hσ] at e1
       have e2:o'=v':=by simpa using e1
       subst e2
       have r5:=Rel.lend (U':=[]) (σ':=[]) (r4.pushN (u:=some o')) l2 ql hσ
       have l5:(U2.set j none).length=σ.length:=by simpa using l2
       obtain ⟨G2,fq,r6,gg,sq,hG,back⟩:=r5.hide2 l5
       cases sq with
       | @lst a xs _ fl hD rl=>
       obtain ⟨x,fa,fi,fb,hx1,sx,efl,_⟩:=rl.at el
       cases sx with
       | @lst b ys _ fy hy ry=>
       cases ri
       have hat:L2.atI xs n=some (.ref b):=by
        have e':L2.ixN xs.length n=some m:=by rw [rl.len]; exact em
        unfold L2.atI
        rw [e']; exact hx1
       refine .inl ⟨a,xs,n,_,rfl,rfl,SqL.of hD,hat,.inl ⟨rfl,_,SqL.of hy⟩,F2,G2,U2.set j none,fun rs U3=>match rs with | [r]=>(zJ (give r U3) fun p=>l'.length < big/\P (.v (.sh .non)) (p.2.set j (some (.lst (l.set m (.lst (l'++[p.1]))))))) | _=>False,PX,r6,hk2,fun rs U3 vs F3 H3 hk s3 r7 hl rvs=>?_,hx.mono (fun _ z=>z) (s1.trans s2) gg⟩
       match rs,vs,rvs,r7,hk with
       | [r],[v],rvs,r7,hk=>
         dsimp only at hk
         obtain ⟨⟨t,U4⟩,eg,hk⟩:=zad hk
         have r8:=back s3 r7
         simp only [qB,map_nil,qr,qR,nil_append] at r8
         have l3:U3.length=σ.length:=hl
         obtain ⟨F4,s4,l4,r9⟩:=giveR (U':=[some (.lst l)]) (σ':=[some (.ref a)]) r8 l3 rvs.1 eg
         have kept:∀ c∈a::fl,H3 c=H2 c:=fun c hc=>by
          obtain ⟨o,h1,h2⟩:=hG c hc
          rw [(r7.gr c o h1).1.1,h2]
         have hb:b∈a::fl:=qo _ (by rw [efl]; simp)
         obtain ⟨z5,r10⟩:=Rel.appendAt r9 (l4.trans l3) el ((kept a qp).trans hD) hx1 ((kept b hb).trans hy)
         have r11:=Rel.back1 (U':=[]) (σ':=[]) (i:=j) r10 (l4.trans l3) hσ
         rw [qC,qC] at r11
         exact ⟨b,ys,v,rfl,rfl,(kept b hb).trans hy,by rw [z5,zt]; exact lt_trans hk.1 (by decide),hok _ _ .non F4 _ hk.2 (s1.trans (s2.trans (s3.trans s4))) (r11.push .non) trivial⟩
       | [],_,_,_,hk=>exact hk.elim
       | [_],[],rvs,_,_=>exact rvs.elim
       | [_],_::_::_,rvs,_,_=>exact rvs.2.elim
       | _::_::_,_,_,_,hk=>exact hk.elim
      ·exact hk2.elim
     ·exact hk2.elim
   | _=>rw [qs] at hw; exact hw.elim
section
variable {K:W.Frag}
theorem Rel.frzEnd (r:Rel K (U++[some s]) (σ++[some v]) F G H) (h:U.length=σ.length):∃ F',zK F F'/\Rel K (U++[some (.sh s.toD)]) (σ++[some v]) F' G H:=by
 obtain ⟨u,F',e1,sm,rp,r'⟩:=r.give (i:=U.length) (s:=s) zaE
 rw [show (U++[some s]).set U.length (some (S.sh s.toD))=U++[some (S.sh s.toD)] from zce] at r'
 exact ⟨F',sm,r'⟩
end
section
variable {st:Stmt}
theorem zaK (he:FE X e we):FE X e (wFrz we):=fun pn xe hp=>by
 refine PE.imp (he pn xe hp) fun σ H Q q=>?_
 obtain ⟨F,G,U,P,PX,z4,hw,hok,hx⟩:=q
 refine ⟨F,G,U,_,PX,z4,hw,fun r U1 v F1 H1 hk s1 r1 rv=>?_,hx⟩
 obtain ⟨⟨s,U2⟩,eg,hk⟩:=zad hk
 obtain ⟨F2,s2,l2,r2⟩:=giveR (U':=[]) (σ':=[]) r1 (len1 r1) rv eg
 obtain ⟨F3,s3,r3⟩:=Rel.frzEnd r2 (len1 r2)
 exact hok _ U2 v F3 H1 hk (s1.trans (s2.trans s3)) r3 trivial
theorem zni (h:FS X ks st w):FS X ks st (wFz i w):=fun pn xe hp=>by
 refine PS.imp (h pn xe hp) fun D σ H q=>?_
 obtain ⟨F,G,U,E,z4,hw,n,b,c,r,x⟩:=q
 refine ⟨F,G,U,_,z4,hw,fun U' σ' F' H' hk kp sm rel'=>?_,b,c,r,x⟩
 obtain ⟨s,es,hk⟩:=zad hk
 obtain ⟨v,F2,_,s2,_,r2⟩:=rel'.give es
 exact n _ σ' F2 H' hk kp (sm.trans s2) r2
end
section
variable {K:W.Frag}
theorem zmq (h:lkD d q=some o):∃ t ks vs,d=.dct t ks vs/\isKey t q=true/\lk ks vs q=o:=by
 unfold lkD at h
 grind
def rIxD:R2:=fun x y H Q=>∃ a v,x=.ref a/\DGet H a y (some v)/\Q v H
theorem zl9 (hu:X.A.units + 1 < cLine):IxR X rIxD:=by
 intro value slice zZ s σ H x y v u Q I rx ry h hs
 obtain ⟨a,r,rfl,g,q⟩:=h
 cases rx
 unfold subscriptTail
 have hT:=zft I g
 have h2:=zio (E:=X.xe) hu I g ry (Q:=EP X zZ σ Q) fun w' s3 I3 rw'=>⟨r,H,I3,rw',q⟩
 refine qa ?_
 rw [getitemInPython_of_ne hT.not_modules]
 refine qa (wpAny_specialOf hT PySem.F.slot_dict_getitem.lookup ?_)
 have fin:wpAny (model X.prog X.w) X.A (subscripted slice false (.ref a) u) (fun r s₃=>wpAny (model X.prog X.w) X.A (letTemporaryGo value (.ref a) r >>= fun _=>pure r) (EP X zZ σ Q) X.xe s₃) X.xe s:=by
  rw [hs]
  exact wpAny_operating (zx h2 (fun r s₃ h₃=>qa (wpAny_letTemporaryGo (qb h₃))) fun _ _ x=>x)
 first
  | exact qb (qa fin)
  | exact qa (qb (qa fin))
  | exact qa fin
theorem lk_K {vs:List α} {P:V->α->Prop} (hl:z3.length=vs.length) (h:∀ (i:Nat) x y,(z3.map (·.2))[i]?=some x->vs[i]?=some y->P x y):
  (lk (z3.map fun p=>keyD p.1) vs (keyD key)=none/\valV z3 key=none)\/∃ x y,valV z3 key=some x/\lk (z3.map fun p=>keyD p.1) vs (keyD key)=some y/\P x y:=
 zc1 keyD (fun _ _=>zbG) z3 vs key P hl h
theorem lk_T {vs:List α} {key:List Key} {P:V->α->Prop} (hl:z3.length=vs.length) (h:∀ (i:Nat) x y,(z3.map (·.2))[i]?=some x->vs[i]?=some y->P x y):
  (lk (z3.map fun p=>D.tup (p.1.map keyD)) vs (D.tup (key.map keyD))=none/\valV z3 key=none)\/∃ x y,valV z3 key=some x/\lk (z3.map fun p=>D.tup (p.1.map keyD)) vs (D.tup (key.map keyD))=some y/\P x y:=
 zc1 (fun l=>D.tup (l.map keyD)) (fun a b z=>zbZ (D.tup.inj z)) z3 vs key P hl h
theorem zla (r1:Rep K H x d) (hk:isKey t d=true)
  (r2:(∃ z3,t=false/\Rd H a (.dK z3)/\ks=z3.map (fun p=>keyD p.1)/\zX K F (z3.map (·.2)) vs)\/∃ z3,t=true/\Rd H a (.dT z3)/\ks=z3.map (fun p=>D.tup (p.1.map keyD))/\zX K F (z3.map (·.2)) vs):
  ∃ o,DGet H a x o/\((lk ks vs d=none/\o=none)\/∃ v e,o=some v/\lk ks vs d=some e/\Rep K F v e):=by
 rcases r2 with ⟨z3,rfl,e,k,r⟩ | ⟨z3,rfl,e,k,r⟩
 ·obtain ⟨key,rfl,rfl⟩:=zd2 r1 hk
  refine ⟨_,.inl ⟨z3,key,e,rfl,rfl⟩,?_⟩
  rw [k]
  rcases lk_K (z3:=z3) (vs:=vs) (key:=key) (P:=fun v e=>Rep K F v e) (by have:=r.len; simpa using this) (fun i x y h1 h2=>by
   obtain ⟨x',hx',rx⟩:=r.get h2
   rw [h1] at hx'; cases hx'; exact rx) with ⟨h1,h2⟩ | ⟨v,e,h1,h2,h3⟩
  ·exact .inl ⟨h1,h2⟩
  ·exact .inr ⟨v,e,h1,h2,h3⟩
 ·cases r1 with
  | tup e1 q=>
    obtain ⟨keys,rfl,rfl⟩:=zfv q hk
    refine ⟨_,.inr ⟨z3,keys,_,e,rfl,e1,rfl⟩,?_⟩
    rw [k]
    rcases lk_T (z3:=z3) (vs:=vs) (key:=keys) (P:=fun v e=>Rep K F v e) (by have:=r.len; simpa using this) (fun i x y h1 h2=>by
     obtain ⟨x',hx',rx⟩:=r.get h2
     rw [h1] at hx'; cases hx'; exact rx) with ⟨h1,h2⟩ | ⟨v,e,h1,h2,h3⟩
    ·exact .inl ⟨h1,h2⟩
    ·exact .inr ⟨v,e,h1,h2,h3⟩
  | _=>cases hk
theorem RepE.dct (r:RepE K F H v (.dct t ks vs)) (sm:zK F H):∃ a,v=.ref a/\((∃ z3,t=false/\Rd H a (.dK z3)/\ks=z3.map (fun p=>keyD p.1)/\zX K F (z3.map (·.2)) vs)\/
  ∃ z3,t=true/\Rd H a (.dT z3)/\ks=z3.map (fun p=>D.tup (p.1.map keyD))/\zX K F (z3.map (·.2)) vs):=by
 rcases r with r | ⟨a,xs,ds,e1,e2,e3,r⟩ | ⟨a,z3,ks',vs',e1,e2,e3,e4,r⟩ | ⟨a,z3,ks',vs',e1,e2,e3,e4,r⟩
 ·cases r with
  | dK e k r=>exact ⟨_,rfl,.inl ⟨_,rfl,Rd.mono sm e,k,r⟩⟩
  | dT e k r=>exact ⟨_,rfl,.inr ⟨_,rfl,Rd.mono sm e,k,r⟩⟩
 ·cases e2
 ·cases e2
  exact ⟨a,e1,.inl ⟨z3,rfl,.inl e3,e4,r⟩⟩
 ·cases e2
  exact ⟨a,e1,.inr ⟨z3,rfl,.inl e3,e4,r⟩⟩
end
theorem znP (hu:X.A.units + 1 < cLine) (ha:FE X a wa) (hb:FE X b wb) (hs:PlainIx b:=by intro _ _; rfl):FE X (.Subscript a b pos) (wIxA wa wb):=fun pn xe hp=>by
 refine PE.imp (zk7 (zl9 (X:=wp X pn xe) hu) (ha pn xe hp) (hb pn xe hp) hs) fun σ H Q q=>?_
 refine (two (k:=fun x y U2 Q E=>zJ (zV x U2) fun dd=>zJ (view y U2) fun q=>zJ (lkD dd q) fun o=>zJ o fun e=>Q (.v (.sh e)) U2) q).mono fun v H1 h1=>h1.mono fun u H2 h2=>?_
 obtain ⟨F,G,U,x,y,P,PX,z4,hl,rx,ry,hk,hok,hx⟩:=h2
 obtain ⟨dd,ed,hk1⟩:=zad hk
 obtain ⟨q,eq,hk2⟩:=zad hk1
 obtain ⟨o,eo,hk3⟩:=zad hk2
 obtain ⟨e,ee,hk4⟩:=zad hk3
 have relx:Rel X.K (U++[zL x]) (σ++[some v]) F G H2:=Rel.mid (U:=U) (σ:=σ) (Rel.swap (U1:=[zL x]) (σ1:=[some v]) (U2:=[zL y]) (σ2:=[some u]) hl rfl z4) hl
 have ru:=look (U':=[]) (σ':=[]) (z4.mid hl) hl ry eq
 obtain ⟨F4,s4,re,r8⟩:=takeC (U':=[]) (σ':=[]) relx hl rx ed
 rw [qC,qC] at r8
 obtain ⟨t,ks,vs,rfl,hkey,hlk⟩:=zmq eo
 obtain ⟨c,rfl,hh⟩:=re.dct r8.fr
 obtain ⟨o2,g,h⟩:=zla ru hkey hh
 rcases h with ⟨h1,rfl⟩ | ⟨w,e',rfl,h1,h2⟩
 ·rw [hlk,ee] at h1; cases h1
 ·rw [hlk,ee] at h1
  cases h1
  exact ⟨c,w,rfl,g,hok _ U _ F4 H2 hk4 s4 (r8.push h2) trivial⟩
theorem ziG (hh:A.handled=none) (hl:s.heap.IsList l vs.toArray) (hi:IntsAre vs ns) (hne:0 < ns.length)
  (h:∀ h' M (t:Tok) tk,(∀ b x,s.heap.get? b=some x->h'.get? b=some x)->M∈ns->(∀ a,a∈ns->M<=a)->Q (.int M t) { s with heap:=h',toks:=tk }):wpAny (model prog w) A (call (.builtin "min") [.ref l]) Q E s:=by
 obtain ⟨xs,e⟩:=hi.allInts.items
 have hns:ns=xs.toList.map (·.1):=by
  rw [<- hi.numsOf,<- nums_intItems,<- e]
 have hsz:0 < xs.size:=by
  grind
 rw [e] at hl
 refine min_intList hh hl hsz fun v h' tk hv hk=>?_
 obtain ⟨t,rfl⟩:=intItems_at hv
 obtain ⟨h1,h2⟩:=argBest_lt (numAt xs) (xs.size - 1)
 refine h _ _ t tk hk ?_ fun a ha=>?_
 ·rw [hns,numAt_eq]; exact getD_mem (by rw [qq,qY]; lia)
 ·rw [hns] at ha
  obtain ⟨j,hj,rfl⟩:=mem_getD ha
  rw [qq,qY] at hj
  rw [<- numAt_eq]; exact h2 j (by lia)
section
variable {K:W.Frag}
def rMinL (K:W.Frag):List V->Hp->VK->Prop:=fun xs H Q=>∃ (a:Addr) (ns:List Int),xs=[.ref a]/\SqL K H a (ns.map V.int)/\0 < ns.length/\∀ M,M∈ns->(∀ a,a∈ns->M<=a)->Q (.int M) H
theorem zi8 (hc:X.calm=true):CallR X (.builtin "min") (rMinL X.K):=by
 intro zZ s σ H xs us Q I r h
 obtain ⟨a,ns,rfl,hq,hne,q⟩:=h
 obtain ⟨u,rfl,rx⟩:=vals1 r
 cases rx
 obtain ⟨z6,rv,pl,hz⟩:=I.list hq
 exact ziG (I.ok.hd hc) pl.isList (zaZ rv) hne fun h' M t tk kp h1 h2=>⟨.int _,H,I.kept kp,⟨_,rfl⟩,q M h1 h2⟩
theorem ziy:DoesB K (rMinL K) bMinL:=by
 intro σ U F G H vs ds s Q z4 re e hq
 obtain ⟨d,v,rfl,rfl⟩:=arg1 (fun x y r=>by cases x <;> rfl) rfl re e
 cases d with
 | lst l=>
   obtain ⟨a,xs,rfl,h1,r1⟩:=re.1.lst z4.fr
   obtain ⟨ns,en,e⟩:=Option.bind_eq_some_iff.mp e
   obtain ⟨m,em,rfl⟩:=q8.mp e
   obtain ⟨rfl,_⟩:=zdD r1 en
   refine ⟨a,ns,rfl,h1,by cases ns with | nil=>cases em | cons _ _=>simp,fun M h2 h3=>?_⟩
   obtain ⟨h4,h5⟩:=List.min?_eq_some_iff.mp em
   have:M=m:=Int.le_antisymm (h3 m h4) (h5 M h2)
   subst this
   exact hq _ F H (zK.refl F) (z4.push (.int _))
 | _=>cases e
theorem zmb (hc:X.calm=true) (hg:Gl X "min") (hm:X.mg "min"=none) (hv:bootBuiltins "min"=some (.builtin "min")) (ha:FA X (e::es) wa) (he:starEach (e::es) X.env=(false,eval e X.env)::starEach es X.env:=by rfl) (hpl:(backTo pos (starEach es X.env)).any (·.1)=false:=by rfl):FE X (.Call (.Name "min" p) (e::es) [] pos) (wB bMinL wa):=
 zba (fun pn xe=>zi8 (X:=wp X pn xe) hc) ziy hg hm hv ha (by decide) (by decide) he hpl
end
theorem zdQ {n:Nat} (hh:A.handled=none) (hr:IsRange s.heap r a b c t u v) (hsmall:Builtin.Range.small a b c=true)
  (hn:Builtin.Range.rangeSize a b c=n) (z5:n<=2 ^ 24)
  (hQ:∀ (h':Heap) tk z7,(∀ b o,s.heap.get? b=some o->Heap.get? h' b=some o)->s.heap.objs.size<=h'.objs.size->ItemsOf (fun i v=>∃ t,v=.int (a + i * c) t) z7 n->Q z7.toList { s with heap:=h',toks:=tk }):wpAny (model prog w) A (collect (.ref r)) Q E s:=by
 unfold collect
 refine qa (wpAny_runValue (codeAny_builtin F.entry_proto_collect ?_))
 rw [Around.under_plainId F.plain_proto_collect _]
 show wpAny _ A.in1 (newList [] >>= fun l=>again (.builtin "list.__iadd__" ⟨[l,.ref r],[]⟩)) _ _ s
 refine qa (zp ?_)
 refine qb ⟨plainId_quiet F.plain_list_iadd _,codeAny_builtin F.entry_list_iadd ?_⟩
 rw [Around.under_plainId F.plain_list_iadd _]
 show wpAny _ A.in1 (Builtin.List.listExtendWith (.ref s.heap.objs.size) (.ref r) (.ref s.heap.objs.size)) _ _ _
 have hS₁:(s.heap.push { cls:=.type "list",data:=.seq ([]:List Value).toArray }).get? s.heap.objs.size=some { cls:=.type "list",data:=.seq #[] }:=qd _ rfl
 refine wpAny_extend_range (R:=fun r s'=>match r with
  | .ok (.ret v)=>wpAny (model prog w) A (match v with
    | .ref a=>do
      let __do_lift <- load a
      match __do_lift.data with
       | .seq xs epoch=>pure xs.toList
       | x=>unsupported "internal:collect"
    | x=>unsupported "internal:collect") Q E s'
  | .ok a=>False
  | .error e=>E e s') (s:={ s with heap:=s.heap.push { cls:=.type "list",data:=.seq ([]:List Value).toArray } }) hh (qc _ hr) hsmall hn z5 _ _ 0 hS₁ fun h' tk acc' c' hk hS' hacc=>?_
 show wpAny _ A (load s.heap.objs.size >>= _) _ _ _
 refine qa (wpAny_load hS' ?_)
 exact qb (hQ h' tk acc' (fun b o e=>hk b o (ne_of_lt (qg e)) (qc _ e)) (le_of_lt (qg hS')) hacc)
theorem zcn {n:Nat} (hh:A.handled=none) (hr:IsRange s.heap r a b c t u v) (hsmall:Builtin.Range.small a b c=true)
  (hn:Builtin.Range.rangeSize a b c=n) (z5:n<=2 ^ 24)
  (h:∀ (h':Heap) tk z7,(∀ b o,s.heap.get? b=some o->Heap.get? h' b=some o)->s.heap.objs.size<=h'.objs.size->ItemsOf (fun i v=>∃ t,v=.int (a + i * c) t) z7 n->Q₁ (.ref h'.objs.size) { s with heap:=h'.push { cls:=.type "tuple",data:=.seq z7 },toks:=tk }):
  codeAny (model prog w) A (.call (.builtin "tuple.__new__") ⟨[.type "tuple",.ref r],[]⟩) (wants Q₁ E) s:=by
 refine codeAny_of_tree ?_
 show wpAny _ A.in1 (do checkBuiltinCall "tuple.__new__" ⟨[.type "tuple",.ref r],[]⟩; again (.builtin "tuple.__new__" ⟨[.type "tuple",.ref r],[]⟩)) _ _ s
 refine qa (zw (F.newCall_tuple_1 _) (qb ⟨plainId_quiet F.plain_tuple_new _,codeAny_builtin F.entry_tuple_new ?_⟩))
 rw [Around.under_plainId F.plain_tuple_new _]
 have hsub:=sub_tuple_self
 have hinit:=init_tuple_lookup
 have hmh:=madeHere_tuple
 have hTI:s.TypeIs (.ref r) "range":=⟨_,hr,rfl⟩
 wp_walk using wpAny_typeOf hTI,zdQ (A:=A.in1) hh hr hsmall hn z5
 intro h' tk z7 hm hle hacc
 show wpAny _ _ (Builtin.Tuple.tupleExact z7.toList.toArray >>= fun v=>ret v) _ _ _
 unfold Builtin.Tuple.tupleExact
 refine qa (zp ?_ (by show z7.toList.toArray.size<=sizeLine; simp only [toArray_toList]; rw [hacc.1,zt]; exact z5))
 refine qb ?_
 have e:z7.toList.toArray=z7:=by simp
 rw [e]
 exact h h' tk z7 hm hle hacc
theorem zcm {n:Nat} (hh:A.handled=none) (hr:IsRange s.heap r a b c t u v) (hsmall:Builtin.Range.small a b c=true)
  (hn:Builtin.Range.rangeSize a b c=n) (z5:n<=2 ^ 24)
  (hQ:∀ (h':Heap) tk z7,(∀ b o,s.heap.get? b=some o->Heap.get? h' b=some o)->s.heap.objs.size<=h'.objs.size->ItemsOf (fun i v=>∃ t,v=.int (a + i * c) t) z7 n->Q (.ref h'.objs.size) { s with heap:=h'.push { cls:=.type "tuple",data:=.seq z7 },toks:=tk }):
  wpAny (model prog w) A (call (.type "tuple") [.ref r]) Q E s:=by
 refine callType_codes (Q₁:=fun obj s₁=>s₁.TypeIs obj "tuple"/\Q obj s₁) F.called_tuple (F.typeCall_tuple_1 _) F.entry_object_init
  (zcn (A:=A.in1) hh hr hsmall hn z5 fun s' tk z7 hm hle hacc=>⟨⟨_,qd _ rfl,rfl⟩,hQ s' tk z7 hm hle hacc⟩) fun obj s₁ h₁=>?_
 exact ⟨h₁.1,F.args_object_init_2 obj _,object_init_meets F.called_tuple.init.lookup F.called_tuple.made (by decide) prog w A.in1 _ s₁ ⟨h₁.1,rfl,h₁.2⟩⟩
section
variable {K:W.Frag}
def tRng1 (ta:TA):TE:=fun σ H Q=>ta σ H fun vs H1=>∃ j:Int,vs=[.int j]/\∀ p,H1 p=none->Q (.ref p) (upd H1 p (.rng 0 j))
theorem zi5 (hg:Gl X "range") (hm:X.mg "range"=none) (ha:PA X [a] ta) (hs:starEach [a] X.env=[(false,eval a X.env)]):PE X (.Call (.Name "range" p) [a] [] pos) (tRng1 ta):=by
 intro zZ s σ H Q I h
 refine Call_ (zbf I hg hm boot_range (PyProof.Rows.callWith_type1 (thn (ha pos zZ s σ H _ I h) fun us s1 zq=>?_) hs rfl))
 obtain ⟨vs,H1,I1,r1,q1⟩:=zq
 obtain ⟨j,e,q⟩:=q1
 subst e
 cases r1 with
 | cons r rr=>
   cases rr
   obtain ⟨t,rfl⟩:=r
   refine call_range_1 ⟨.ref s1.heap.objs.size,_,I1.laid (a:=s1.heap.objs.size) (o:=.rng 0 j) (t':=s1.toks + 1 + 1) (fun _ _ q=>qc _ q) (zj _) ?_,rfl,q _ (I1.hok.fresh (zj _))⟩
   exact ⟨_,_,_,qd _ rfl⟩
def rngVs (i:Int) (n:Nat):List V:=(List.range n).map fun (k:Nat)=>V.int (i + (k:Int))
def rOfRng (f:List V->HO):List V->Hp->VK->Prop:=fun xs H Q=>∃ (a:Addr) (i j:Int),xs=[.ref a]/\H a=some (.rng i j)/\(-(2 ^ 62)<=i/\i < 2 ^ 62/\-(2 ^ 62)<=j/\j < 2 ^ 62)/\j - i<=2 ^ 24/\∀ p,H p=none->Q (.ref p) (upd H p (f (rngVs i (j - i).toNat)))
theorem zf8 (h:ItemsOf (fun k v=>∃ t,v=.int (i + k * 1) t) z7 n):zW (rngVs i n) z7.toList:=by
 unfold rngVs
 refine zaQ (by rw [qq,qG,qY,h.1]) fun j y v h1 h2=>?_
 obtain ⟨t,rfl⟩:=h.2 j v (by rw [<- q9]; exact h2)
 rw [qI] at h1
 have hj:j < n:=by
  have:=(qi.mp h2).1
  rw [qY,h.1] at this
  exact this
 rw [getElem?_range hj] at h1
 cases h1
 exact ⟨t,by simp⟩
theorem zd0 (hc:X.calm=true):CallR X (.type "list") (rOfRng .lst):=by
 intro zZ s σ H xs us Q I r h
 obtain ⟨a,i,j,rfl,hH,⟨b1,b2,b3,b4⟩,hz,q⟩:=h
 obtain ⟨u,rfl,rx⟩:=vals1 r
 cases rx
 obtain ⟨t,u,v,ho⟩:=I.hok a _ hH
 have hn:Builtin.Range.rangeSize i j 1=((j - i).toNat:Nat):=by rw [rangeSize_one]; split <;> lia
 refine call_list_range (I.ok.hd hc) (show IsRange s.heap a i j 1 t u v from ho) (small_one b1 b2 b3 b4) hn (by lia) fun h' tk acc' c' hk hS' hacc=>?_
 refine ⟨.ref s.heap.objs.size,_,I.laid (t':=tk) hk (zj _) (show zY X.prog X.w _ h' _ (.lst (rngVs i (j - i).toNat)) from ⟨?_,acc'.toList,c',zf8 hacc,by simpa using hS'⟩),rfl,q _ (I.hok.fresh (zj _))⟩
 unfold rngVs
 rw [qq,qG,zt]; lia
theorem zdf (hc:X.calm=true):CallR X (.type "tuple") (rOfRng .tup):=by
 intro zZ s σ H xs us Q I r h
 obtain ⟨a,i,j,rfl,hH,⟨b1,b2,b3,b4⟩,hz,q⟩:=h
 obtain ⟨u,rfl,rx⟩:=vals1 r
 cases rx
 obtain ⟨t,u,v,ho⟩:=I.hok a _ hH
 have hn:Builtin.Range.rangeSize i j 1=((j - i).toNat:Nat):=by rw [rangeSize_one]; split <;> lia
 refine zcm (I.ok.hd hc) (show IsRange s.heap a i j 1 t u v from ho) (small_one b1 b2 b3 b4) hn (by lia) fun h' tk z7 hk hle hacc=>?_
 refine ⟨.ref h'.objs.size,_,I.laid (t':=tk) (fun b o e=>qc _ (hk b o e)) hle (show zY X.prog X.w _ (h'.push _) _ (.tup (rngVs i (j - i).toNat)) from ⟨⟨?_,NoDc.new rfl (qd _ rfl)⟩,z7.toList,zf8 hacc,?_⟩),rfl,q _ (I.hok.fresh hle)⟩
 ·unfold rngVs
  rw [qq,qG,zt]; lia
 ·simpa using IsTup.new h' z7
theorem zkB:zX K F (rngVs i n) (fromTo i n):=by
 unfold rngVs fromTo
 generalize List.range n=l
 induction l with
 | nil=>exact .nil
 | cons k l ih=>exact .cons (.int _) ih
theorem zhc {k:List D->Env->WQ->Prop} (hcall:∀ pn xe,CallR (wp X pn xe) (.type T) (rOfRng f)) (hg:Gl X x) (hm:X.mg x=none) (hv:bootBuiltins x=some (.type T)) (hgr:Gl X "range") (hmr:X.mg "range"=none) (ha:FE X a wa)
  (hk:∀ {U:Env} {σ:St} {F G H:Hp} {l:List D} {xs:List V} {P:WQ} {q:Addr},Rel X.K U σ F G H->zX X.K F xs l->k l U P->H q=none->∃ r F',zK F F'/\P r U/\RV σ (.ref q) r/\Rel X.K (U++[zL r]) (σ++[some (.ref q)]) F' G (upd H q (f xs)))
  (hs:starEach [a] X.env=[(false,eval a X.env)]) (he:starEach [.Call (.Name "range" p1) [a] [] pos1] X.env=[(false,eval (.Call (.Name "range" p1) [a] [] pos1) X.env)]) (hn:x≠"__name__") (hdb:(x == ("__debug__":Str))=false):
  FE X (.Call (.Name x p) [.Call (.Name "range" p1) [a] [] pos1] [] pos) (fun U Q E=>wRange1 wa U (fun l U1=>l.length<=big/\k l U1 Q) E):=fun pn xe hp=>by
 refine PE.imp (zcW (X:=wp X pn xe) (hcall pn xe) hg hm hv (zea (zi5 (X:=wp X pn xe) hgr hmr (zaa ha zab hs pn xe hp) hs) zgm (by rw [he]; rfl)) hn hdb (by rw [he]; rfl) (by rfl)) fun σ H Q q=>?_
 obtain ⟨F,G,U,P,PX,z4,hw,hok,hx⟩:=q
 refine ⟨F,G,U,fun rs U1=>match rs with | [r]=>(match view r U1 with | some (.int j)=>(-big<=j/\j<=big)/\(fromTo 0 j.toNat).length<=big/\k (fromTo 0 j.toNat) U1 P | _=>False) | _=>False,PX,z4,hw,fun rs U1 vs F1 H1 hk1 s1 r1 hl rv=>?_,hx⟩
 match rs,vs,rv,r1,hk1 with
 | [r],[v],rv,r1,hk1=>
   dsimp only at hk1
   split at hk1
   ·rename_i j ej
    have rp:=look (U':=[]) (σ':=[]) r1 hl rv.1 ej
    cases rp
    obtain ⟨⟨h1,h2⟩,_,hk1⟩:=hk1
    have eb:(big:Int)=1000000:=rfl
    rw [eb] at h1 h2
    have r2:Rel X.K U1 σ F1 G H1:=(show Rel X.K (U1++[zL r]) (σ++[some (.int j)]) F1 G H1 from r1).drop hl
    refine ⟨j,rfl,fun p hp=>?_⟩
    have r3:=r2.newF (o:=.rng 0 j) hp
    obtain ⟨f0,_,_⟩:=r2.free hp
    refine ⟨p,0,j,rfl,zai,⟨by lia,by lia,by lia,by lia⟩,by lia,fun q hq=>?_⟩
    rw [Int.sub_zero]
    obtain ⟨r,F',s',hP,rv',r4⟩:=hk (xs:=rngVs 0 j.toNat) r3 zkB hk1 hq
    exact hok r U1 _ F' _ hP (s1.trans ((zK.upd f0).trans s')) r4 rv'
   ·exact hk1.elim
 | [],_,_,_,hk=>exact hk.elim
 | [_],[],rv,_,_=>exact rv.elim
 | [_],_::_::_,rv,_,_=>exact rv.2.elim
 | _::_::_,_,_,_,hk=>exact hk.elim
theorem zjh (hc:X.calm=true) (hg:Gl X "list") (hm:X.mg "list"=none) (hv:bootBuiltins "list"=some (.type "list")) (hgr:Gl X "range") (hmr:X.mg "range"=none) (ha:FE X a wa)
  (hs:starEach [a] X.env=[(false,eval a X.env)]:=by rfl) (he:starEach [.Call (.Name "range" p1) [a] [] pos1] X.env=[(false,eval (.Call (.Name "range" p1) [a] [] pos1) X.env)]:=by rfl):
  FE X (.Call (.Name "list" p) [.Call (.Name "range" p1) [a] [] pos1] [] pos) (wListI (wRange1 wa)):=
 zhc (f:=.lst) (k:=fun l U1 Q=>Q (.v (.lst (l.map .sh))) U1) (fun pn xe=>zd0 (X:=wp X pn xe) hc) hg hm hv hgr hmr ha (fun z4 rx hP hq=>⟨_,_,zK.refl _,hP,trivial,Rel.newLD z4 hq rx⟩) hs he (by decide) (by decide)
theorem zko (hc:X.calm=true) (hg:Gl X "tuple") (hm:X.mg "tuple"=none) (hv:bootBuiltins "tuple"=some (.type "tuple")) (hgr:Gl X "range") (hmr:X.mg "range"=none) (ha:FE X a wa)
  (hs:starEach [a] X.env=[(false,eval a X.env)]:=by rfl) (he:starEach [.Call (.Name "range" p1) [a] [] pos1] X.env=[(false,eval (.Call (.Name "range" p1) [a] [] pos1) X.env)]:=by rfl):
  FE X (.Call (.Name "tuple" p) [.Call (.Name "range" p1) [a] [] pos1] [] pos) (wTupI (wRange1 wa)):=
 zhc (f:=.tup) (k:=fun l U1 Q=>Q (.v (.sh (.tup l))) U1) (fun pn xe=>zdf (X:=wp X pn xe) hc) hg hm hv hgr hmr ha (fun z4 rx hP hq=>by
  obtain ⟨f0,_,_⟩:=z4.free hq
  exact ⟨_,_,zK.upd f0,hP,trivial,(z4.newF (o:=.tup _) hq).push (.tup zai (rx.mono (zK.upd f0)))⟩) hs he (by decide) (by decide)
end
end FL
namespace FL
open PySem PySem.Spec PyProof.Rows
theorem ziN:typeLookup (.type "tuple") "__reversed__"=pure none:=by first | rfl | assumption | (simp_all; done)
theorem zhe:typeLookup (.type "tuple") "__getitem__"=pure (some (.builtin "tuple.__getitem__")):=by first | rfl | assumption | (simp_all; done)
theorem zgP:isSubtype (.type "tuple") (.type "dict")=pure false:=by rw [isSubtype_type]; kernel_rfl
def revT (t:Addr) (i:Int):Obj:={ cls:=.type "reversed",data:=.fields #[.ref t,rawInt i] }
theorem zkc {items:Array Value} {R:Fin->Shared->Prop} (ht:IsTup s.heap t items) (hfit:(items.size:Int) < 2 ^ 63)
  (h:R (.done (.ret (.ref s.heap.objs.size))) { s with heap:=s.heap.push (revT t ((items.size:Int) - 1)),toks:=s.toks + 1 + 1 }):
  wpAny (model prog w) A (Builtin.«reversed.__new__» ⟨[.type "reversed",.ref t],[]⟩) R E s:=by
 unfold Builtin.«reversed.__new__»
 refine qa (zw (newClass_reversed _) ?_)
 try dsimp only
 refine qa (zw (a:=()) (by first | rfl | kernel_rfl) (qa (zw (a:=()) (by first | rfl | kernel_rfl) ?_)))
 try dsimp only
 refine qa (wpAny_specialOf ht.typeIs ziN ?_)
 refine qa ?_
 wp_delta
 refine qa (wpAny_isInstance (b:=false) ht.typeIs zgP ?_)
 rw [zi (by simp)]
 refine qa (wpAny_specialOf ht.typeIs zhe ?_)
 dsimp only
 rw [zc (by decide +kernel)]
 refine qb ?_
 rw [zi (by simp)]
 refine qa (PyProof.Rows.len_tuple ht hfit ?_)
 refine qa (zw (a:=some (items.size:Int)) rfl ?_)
 dsimp only
 unfold Builtin.SmallTypes.newRecord
 refine qa (zp (qb ?_))
 exact h
theorem zi9 (t:Addr) (items:Array Value) (hfit:(items.size:Int) < 2 ^ 63):Meets (Builtin.«reversed.__new__» ⟨[.type "reversed",.ref t],[]⟩) (fun _ R s=>IsTup s.heap t items/\
   R (.ok (.ret (.ref s.heap.objs.size))) { s with heap:=s.heap.push (revT t ((items.size:Int) - 1)),toks:=s.toks + 1 + 1 }):=
 .of_wp fun prog w A R s h=>zkc h.1 hfit ⟨_,rfl,h.2⟩
theorem zcC:Slot "reversed" "__init__" "object.__init__":=
 .of (owner:="object") (n:="__init__") (by rw [typeLookup_type,builtinLookup_eq_fast]; kernel_rfl) (by decide +kernel) (by decide +kernel) (by decide +kernel) (by first | exact .inl (by decide +kernel) | exact .inr (by decide +kernel)) (by rw [isSubtype_type]; kernel_rfl)
theorem zgV:TypeCalled "reversed" "reversed.__new__" "object.__init__":=⟨by decide +kernel,by decide +kernel,⟨_,_,F.mro_reversed⟩,F.made_reversed,by decide +kernel,F.sub_reversed_self,zcC⟩
theorem zhD {items:Array Value} (ht:IsTup s.heap t items) (hfit:(items.size:Int) < 2 ^ 63)
  (h:Q (.ref s.heap.objs.size) { s with heap:=s.heap.push (revT t ((items.size:Int) - 1)),toks:=s.toks + 1 + 1 }):wpAny (model prog w) A (call (.type "reversed") [.ref t]) Q E s:=by
 refine callType_new zgV (by decide) (F.typeCall_reversed_1 _) (F.newCall_reversed_1 _) (fun obj=>F.args_object_init_2 obj _) F.entry_reversed_new (zi9 t items hfit) ⟨ht,?_⟩
 exact ⟨⟨_,qd _ rfl,rfl⟩,h⟩
section
variable {s:Shared}
theorem zaC:Slot "reversed" "__next__" "reversed.__next__":=
 .of (owner:="reversed") (n:="__next__") (by rw [typeLookup_type,builtinLookup_eq_fast]; kernel_rfl) (by decide +kernel) (by decide +kernel) (by decide +kernel) (by first | exact .inl (by decide +kernel) | exact .inr (by decide +kernel)) (by rw [isSubtype_type]; kernel_rfl)
theorem zbz:entryFor table "reversed.__next__"=some Builtin.«reversed.__next__»:=entryFor_of_tree (by kernel_rfl)
theorem zb0 (a:Value):argsOk "reversed.__next__" ⟨[a],[]⟩:=by
 first | rfl | assumption | (simp_all; done)
def IsRevT (h:Heap) (a t:Addr) (i:Int):Prop:=∃ o,h.get? a=some o/\o.cls=.type "reversed"/\o.data=.fields #[.ref t,rawInt i]
theorem IsRevT.typeIs (x:IsRevT s.heap a t i):s.TypeIs (.ref a) "reversed":=let ⟨o,ho,hc,_⟩:=x; ⟨o,ho,hc⟩
theorem zh8 {i:Nat} {items:Array Value} (hit:IsRevT s.heap it t (i:Int)) (ht:IsTup s.heap t items) (hx:items[i]?=some x) (hfit:(items.size:Int) < 2 ^ 63)
  (hQ:∀ h' tk,IsRevT h' it t ((i:Int) - 1)->Heap.SameBut it s.heap h'->Q (some x) { s with heap:=h',toks:=tk }):wpAny (model prog w) A (pyNext (.ref it)) Q E s:=by
 obtain ⟨o,ho,hc,hd⟩:=id hit
 have hi:i < items.size:=by
  grind
 unfold pyNext
 refine qa (wpAny_attempt (wpAny_callSpecial?_slot (name:=Str.ofString "__next__") hit.typeIs zaC (zr zaC hit.typeIs zbz ?_ (zb0 _))))
 unfold Builtin.«reversed.__next__»
 refine qa (zw (a:=(Value.ref it,[])) rfl ?_)
 try dsimp only
 refine qa (zo ho hd (x:=.ref t) rfl (qa (zo ho hd (x:=rawInt (i:Int)) rfl ?_)))
 show wpAny _ _ (if (i:Int) < 0 then _ else _) _ _ s
 rw [zi (by lia)]
 refine qa (wpAny_specialOf ht.typeIs zhe ?_)
 rw [zi (by simp)]
 refine qa (wpAny_mkInt ?_)
 have hj:seqIndex? (i:Int) items.size=some i:=by
  unfold seqIndex?
  have n0:¬ (i:Int) < 0:=by lia
  simp [hi,n0]
 refine qa (wpAny_attempt (PyProof.Rows.getItem_tuple (s:={ s with toks:=s.toks + 1 }) (j:=i) (x:=x) (show IsTup s.heap t items from ht) (by lia) (by lia) hj hx ?_))
 dsimp only
 refine qa (zo (s:={ s with toks:=s.toks + 1 }) ho hd (x:=rawInt (i:Int)) rfl ?_)
 show wpAny _ _ (setField (.ref it) 1 (rawInt ((i:Int) - 1)) >>= _) _ _ _
 refine qa (wpAny_setField (s:={ s with toks:=s.toks + 1 }) ho hd (by simp) ?_)
 refine qb ⟨x,rfl,qb (hQ _ (s.toks + 1) ?_ (Heap.SameBut.update ..))⟩
 exact ⟨_,zm _ ho (Obj.isFreed_of_fields (Obj.data_mapFields hd _)),(Obj.cls_mapFields ..).trans hc,by rw [Obj.data_mapFields hd]; simp⟩
theorem zj7 (hh:A.handled=none) (hit:IsRevT s.heap it t (-1)) (hQ:∀ h',Heap.ExtBut it s.heap h'->Q none { s with heap:=h' }):wpAny (model prog w) A (pyNext (.ref it)) Q E s:=by
 obtain ⟨o,ho,hc,hd⟩:=id hit
 unfold pyNext
 refine qa (wpAny_attempt (wpAny_callSpecial?_slot (name:=Str.ofString "__next__") hit.typeIs zaC (zr zaC hit.typeIs zbz ?_ (zb0 _))))
 unfold Builtin.«reversed.__next__»
 refine qa (zw (a:=(Value.ref it,[])) rfl ?_)
 try dsimp only
 refine qa (zo ho hd (x:=.ref t) rfl (qa (zo ho hd (x:=rawInt (-1)) rfl ?_)))
 show wpAny _ _ (if (-1:Int) < 0 then _ else _) _ _ s
 rw [zc (by decide)]
 refine qa (wpAny_rule ?_)
 refine qa ?_
 wp_delta
 refine qa (wpAny_setField ho hd (by simp) ?_)
 have ho2:=zm (h:=s.heap) (a:=it) (Obj.mapFields (·.setIfInBounds 1 (rawInt (-1)))) ho (Obj.isFreed_of_fields (Obj.data_mapFields hd _))
 refine wpAny_setField (s:={ s with heap:=s.heap.update it (Obj.mapFields (·.setIfInBounds 1 (rawInt (-1)))) }) ho2 (Obj.data_mapFields hd _) (by simp) ?_
 refine qa ?_
 unfold Builtin.SmallTypes.stopIteration
 show wpAny _ _ (newExc (.type "StopIteration") [] >>= _) _ _ _
 refine qa ?_
 simp only [newExc,newTuple]
 refine qa (zp ?_ (by size_fits))
 refine qa (m:=firstArgMember _ _) (zw (a:=Value.none) (by first | rfl | (simp only [firstArgMember]; rfl)) (zp ?_ (by size_fits)))
 simp only [raiseNew]
 refine qa (wpAny_handled ?_)
 first | rw [show A.in1.handled=none from hh] | rw [hh]
 refine qa (qb (wpAny_throw ?_))
 refine qa (wpAny_isInstance (T:="StopIteration") (b:=true) ?ty isSubtype_stop ?_)
 case ty=>exact ⟨_,qd _ rfl,rfl⟩
 refine qb (hQ _ ?_)
 have x1:Heap.ExtBut it s.heap (s.heap.update it (Obj.mapFields (·.setIfInBounds 1 (rawInt (-1))))):=(Heap.SameBut.update s.heap it _).extBut
 have x2:Heap.ExtBut it s.heap ((s.heap.update it (Obj.mapFields (·.setIfInBounds 1 (rawInt (-1))))).update it (Obj.mapFields (·.setIfInBounds 0 Value.none))):=fun b o hb e=>(Heap.SameBut.update _ it _).extBut b o hb (x1 b o hb e)
 exact (x2.push _).push _
theorem zb6:Slot "reversed" "__iter__" "reversed.__iter__":=
 .of (owner:="reversed") (n:="__iter__") (by rw [typeLookup_type,builtinLookup_eq_fast]; kernel_rfl) (by decide +kernel) (by decide +kernel) (by decide +kernel) (by first | exact .inl (by decide +kernel) | exact .inr (by decide +kernel)) (by rw [isSubtype_type]; kernel_rfl)
theorem zdE (a:Value):argsOk "reversed.__iter__" ⟨[a],[]⟩:=by
 first | rfl | assumption | (simp_all; done)
theorem zdc:entryFor table "reversed.__iter__"=some Builtin.«dict_keyiterator.__iter__»:=
 entryFor_alias (id':="dict_keyiterator.__iter__") (by kernel_rfl) (by first | rfl | decide +kernel | (unfold String.splitOn; simp +decide [String.splitOnAux])) (by decide +kernel) (by kernel_rfl)
theorem zeJ (hit:IsRevT s.heap it t i) (h:Q (.ref it) s):wpAny (model prog w) A (pyIter (.ref it)) Q E s:=by
 refine wpAny_pyIter_slot hit.typeIs zb6 (zr zb6 hit.typeIs zdc (?_:wpAny _ _ (ret (.ref it)) _ _ s) (zdE _))
 exact qb ⟨_,rfl,"reversed",_,hit.typeIs,zaC.lookup,h⟩
end
theorem IsRevT.at (x:IsRevT h a t i) (e:∀ o,h.get? a=some o->h'.get? a=some o):IsRevT h' a t i:=let ⟨o,ho,r⟩:=x; ⟨o,e _ ho,r⟩
theorem zb2 {items:Array Value} (x:IsTup h t items) (e:∀ o,h.get? t=some o->h'.get? t=some o):IsTup h' t items:=let ⟨o,ho,r⟩:=x; ⟨o,e _ ho,r⟩
theorem zgC {prog:Program} {w:World} {A:Around} (hh:A.handled=none) (I t:Addr) (hne:t≠I) (items:Array Value) (hfit:(items.size:Int) < 2 ^ 63):
  Walks prog w A I [I,t] [I] items.size (fun i v=>items[items.size - 1 - i]?=some v) (fun i h=>i<=items.size/\IsRevT h I t ((items.size:Int) - 1 - (i:Int))/\IsTup h t items) where
 sub:=fun b hb=>by simp at hb; simp [hb]
 frame:=fun _ _ _ x hk=>⟨x.1,x.2.1.at fun o e=>hk I (by simp) o e,zb2 x.2.2 fun o e=>hk t (by simp) o e⟩
 item:=fun i s Q E hi x hQ=>by
  have hit:=x.2.1
  rw [show (items.size:Int) - 1 - (i:Int)=((items.size - 1 - i:Nat):Int) by lia] at hit
  have hx:items[items.size - 1 - i]?=some (items[items.size - 1 - i]'(by lia)):=getElem?_eq_getElem _
  refine zh8 hit x.2.2 hx hfit fun h' tk hit' hs'=>?_
  refine hQ _ h' tk hx ⟨by lia,?_,zb2 x.2.2 fun o e=>hs'.extBut t o hne e⟩ fun b o hb e=>hs'.extBut b o (fun h=>hb (by simp [h])) e
  rw [show ((items.size - 1 - i:Nat):Int) - 1=(items.size:Int) - 1 - ((i + 1:Nat):Int) by lia] at hit'
  exact hit'
 done:=fun s Q E x hQ=>zj7 hh (by have:=x.2.1; rw [show (items.size:Int) - 1 - ((items.size:Nat):Int)=-1 by lia] at this; exact this) fun h' he'=>hQ h' s.toks fun b o hb e=>he' b o (fun h=>hb (by simp [h])) e
 self:=fun _ _ _ _ x hQ=>zeJ x.2.1 hQ
end FL
namespace FL
open PySem PySem.Spec PyProof.Rows L2
theorem zhN:typeLookup (.type "reversed") "__len__"=pure none:=by first | rfl | assumption | (simp_all; done)
theorem zbX:Slot "reversed" "__length_hint__" "reversed.__length_hint__":=
 .of (owner:="reversed") (n:="__length_hint__") (by rw [typeLookup_type,builtinLookup_eq_fast]; kernel_rfl) (by decide +kernel) (by decide +kernel) (by decide +kernel) (by first | exact .inl (by decide +kernel) | exact .inr (by decide +kernel)) (by rw [isSubtype_type]; kernel_rfl)
theorem zda:entryFor table "reversed.__length_hint__"=some Builtin.«reversed.__length_hint__»:=entryFor_of_tree (by kernel_rfl)
theorem zdW (a:Value):argsOk "reversed.__length_hint__" ⟨[a],[]⟩:=by
 first | rfl | assumption | (simp_all; done)
theorem zd5 {items:Array Value} (hit:IsRevT s.heap it t ((items.size:Int) - 1)) (ht:IsTup s.heap t items) (hfit:(items.size:Int) < 2 ^ 63)
  (h:∀ u tk,Q (.int (items.size:Int) u) { s with toks:=tk }):wpAny (model prog w) A (call (.builtin "reversed.__length_hint__") [.ref it]) Q E s:=by
 obtain ⟨o,ho,hc,hd⟩:=id hit
 refine zr zbX hit.typeIs zda ?_ (zdW _)
 unfold Builtin.«reversed.__length_hint__»
 refine qa (zw (a:=Value.ref it) rfl ?_)
 refine qa (zo ho hd (x:=.ref t) rfl ?_)
 rw [zi (by simp)]
 refine qa (PyProof.Rows.len_tuple ht hfit ?_)
 refine qa (zw (a:=some (items.size:Int)) rfl ?_)
 dsimp only
 refine qa (zo ho hd (x:=rawInt ((items.size:Int) - 1)) rfl ?_)
 show wpAny _ _ (if (items.size:Int) < (items.size:Int) - 1 + 1 then _ else retInt ((items.size:Int) - 1 + 1)) _ _ _
 rw [zi (by lia),show (items.size:Int) - 1 + 1=items.size by lia]
 unfold retInt
 refine qa (wpAny_mkInt ?_)
 exact qb ⟨_,rfl,h _ _⟩
def ziH (k:Int) (u:Tok):asInt? (.int k u)=pure (some k):=rfl
theorem zdI:typeOf (.builtin "reversed.__length_hint__")=pure (.type "method_descriptor"):=by first | rfl | assumption | (simp_all; done)
theorem zke {items:Array Value} (hit:IsRevT s.heap it t ((items.size:Int) - 1)) (ht:IsTup s.heap t items) (z5:items.size<=2 ^ 24)
  (h:∀ tk,Q ((items.size:Int) !=0) { s with toks:=tk }):wpAny (model prog w) A (Builtin.List.listLengthHint (.ref it)) Q E s:=by
 unfold Builtin.List.listLengthHint
 refine qa (wpAny_specialOf hit.typeIs zhN ?_)
 show wpAny _ A (specialOf (Value.ref it) (Str.ofString "__length_hint__") >>= _) _ _ _
 refine qa (wpAny_specialOf hit.typeIs zbX.lookup ?_)
 (generalize hid:("reversed.__length_hint__":String)=id0; wp_delta; rw [show splitId id0=some ("reversed","__length_hint__") from by subst hid; decide +kernel]; subst hid)
 refine qa (wpAny_isInstance (b:=true) hit.typeIs (by rw [isSubtype_type]; kernel_rfl) ?_)
 refine wpAny_ite_split (fun hab=>absurd hab (by decide)) (fun _=>?_)
 refine wpAny_ite_split (fun hab=>absurd hab (by decide +kernel)) (fun _=>?_)
 refine qa (wpAny_rule ?_)
 unfold bindSpecial
 refine qa (qa (zw zdI ?_))
 rw [zc (by decide)]
 refine qb ?_
 dsimp only
 refine qa (wpAny_attempt (zd5 hit ht (by lia) fun u tk=>?_))
 dsimp only
 refine qa ?_
 have htl:Builtin.List.listTooLong ((items.size:Int).toNat)=false:=by simp [Builtin.List.listTooLong,sizeLine]; lia
 have hfi:Builtin.List.listFitsIndex (items.size:Int)=true:=by simp [Builtin.List.listFitsIndex]; lia
 have h0:¬ (items.size:Int) < 0:=by lia
 have h':=h tk
 generalize (items.size:Int)=k at htl hfi h0 h' ⊢
 rw [ziH]
 refine qb ?_
 simp only [hfi,htl,h0,Bool.not_true,false_eq_true,if_false]
 exact qb h'
theorem zgI {R:Result->Shared->Prop} {items:Array Value} (hh:A.handled=none) (hit:IsRevT s.heap it t ((items.size:Int) - 1)) (ht:IsTup s.heap t items) (hne:t≠it) (z5:items.size<=2 ^ 24)
  (S:Addr) (res:Value) (c₀:Nat) (hS:s.heap.get? S=some { cls:=.type "list",data:=.seq #[] c₀ })
  (hR:∀ h' tk acc' c',(∀ b o,b≠S->b≠it->s.heap.get? b=some o->Heap.get? h' b=some o)->Heap.get? h' S=some { cls:=.type "list",dict:=none,data:=.seq acc' c',slots:=#[] }->
   ItemsOf (fun i v=>items[items.size - 1 - i]?=some v) acc' items.size->R (.ok (.ret res)) { s with heap:=h',toks:=tk }):
  wpAny (model prog w) A.in1 (Builtin.List.listExtendWith (.ref S) (.ref it) res)
   (fun fin s'=>match fin with | .done f=>R (.ok f) s' | .again c'=>c'.quiet=true/\codeAny (model prog w) A c' R s') (fun e s'=>R (.error e) s') s:=by
 have hSr:S≠it:=fun e=>by
  obtain ⟨o,ho,hc,_⟩:=hit
  rw [e,ho] at hS
  cases hS
  simp at hc
 have hSt:S≠t:=fun e=>by
  obtain ⟨o,ho,hc,_⟩:=ht
  rw [e,ho] at hS
  cases hS
  simp at hc
 have hSf:S∉[it,t]:=fun hm=>by
  rcases qD.mp hm with e | hm
  ·exact hSr e
  ·exact hSt (qw.mp hm)
 have W:=(zgC (prog:=prog) (w:=w) (A:=A.in1) hh it t hne items (by lia)).toS
 have key:∀ (h:Heap) (c₁ tk:Nat),(0<=items.size/\IsRevT h it t ((items.size:Int) - 1 - ((0:Nat):Int))/\IsTup h t items)->(∀ b o,b≠S->b≠it->s.heap.get? b=some o->h.get? b=some o)->
   h.get? S=some { cls:=.type "list",data:=.seq #[] c₁ }->codeAny (model prog w) A (.builtin "list.extend.loop" ⟨[.ref S,.ref it,res],[]⟩) R { s with heap:=h,toks:=tk }:=by
  intro h c₁ tk hit hk hS₁
  refine codeAny_extend_loopS W (by rw [zt]; lia) S hSf res items.size 0 _ #[] c₁ rfl (zero_le _) hit hS₁ (ItemsOf.nil _) fun s' acc' c' hm hS' hacc=>?_
  rw [Moved.eq_with hm]
  refine hR s'.heap s'.toks acc' c' (fun b o hb hb2 e=>hm.heap b o (fun hmem=>?_) (hk b o hb hb2 e)) hS' hacc
  rcases qD.mp hmem with e' | hmem
  ·exact hb e'
  ·exact hb2 (qw.mp hmem)
 unfold Builtin.List.listExtendWith
 refine qa (wpAny_typeOf (T:="reversed") hit.typeIs ?_)
 have h1:Builtin.List.listSameRef (.ref S) (.ref it)=false:=by simp [Builtin.List.listSameRef,hSr]
 have h2:(Value.type "reversed" == Value.type "list")=false:=by decide
 have h3:(Value.type "reversed" == Value.type "tuple")=false:=by decide
 simp only [h1,h2,h3,Bool.or_false,false_eq_true,if_false]
 refine qa (zeJ hit ?_)
 refine qa (zv (zke hit ht z5 fun tk=>?_))
 have hit0:IsRevT s.heap it t ((items.size:Int) - 1 - ((0:Nat):Int)):=by simpa using hit
 refine wpAny_ite_split (fun _=>?_) (fun _=>qb ⟨plainId_quiet F.plain_extend_loop _,key _ c₀ _ ⟨zero_le _,hit0,ht⟩ (fun b o _ _ e=>e) hS⟩)
 refine qa (wpAny_rule ?_)
 refine qa ?_
 show wpAny _ _ (updateSeq S (·.push .none) >>= fun _=>updateSeq S (·.pop)) _ _ _
 refine qa (wpAny_updateSeq (s:={ s with toks:=tk }) hS rfl ?_)
 have hS₂:=zm (Obj.mapSeq (·.push Value.none)) hS rfl
 refine wpAny_updateSeq (hz:=by seq_fits) hS₂ rfl ?_
 have hS₃:=zm (Obj.mapSeq (·.pop)) hS₂ rfl
 have kk:∀ b o,b≠S->s.heap.get? b=some o->((s.heap.update S (Obj.mapSeq (·.push Value.none))).update S (Obj.mapSeq (·.pop))).get? b=some o:=fun b o hb e=>
  (zk _ _ (Ne.symm hb)).trans ((zk _ _ (Ne.symm hb)).trans e)
 refine qb ⟨plainId_quiet F.plain_extend_loop _,key _ _ _ ⟨zero_le _,hit0.at fun o e=>kk it o (Ne.symm hSr) e,zb2 ht fun o e=>kk t o (Ne.symm hSt) e⟩ (fun b o hb _ e=>kk b o hb e) hS₃⟩
theorem zfh {items:Array Value} (hh:A.handled=none) (hit:IsRevT s.heap it t ((items.size:Int) - 1)) (ht:IsTup s.heap t items) (hne:t≠it) (z5:items.size<=2 ^ 24)
  (hQ:∀ (h':Heap) tk z7,(∀ b o,b≠it->s.heap.get? b=some o->h'.get? b=some o)->s.heap.objs.size<=h'.objs.size->ItemsOf (fun i v=>items[items.size - 1 - i]?=some v) z7 items.size->Q z7.toList { s with heap:=h',toks:=tk }):wpAny (model prog w) A (collect (.ref it)) Q E s:=by
 unfold collect
 refine qa (wpAny_runValue (codeAny_builtin F.entry_proto_collect ?_))
 rw [Around.under_plainId F.plain_proto_collect _]
 show wpAny _ A.in1 (newList [] >>= fun l=>again (.builtin "list.__iadd__" ⟨[l,.ref it],[]⟩)) _ _ s
 refine qa (zp ?_)
 refine qb ⟨plainId_quiet F.plain_list_iadd _,codeAny_builtin F.entry_list_iadd ?_⟩
 rw [Around.under_plainId F.plain_list_iadd _]
 show wpAny _ A.in1 (Builtin.List.listExtendWith (.ref s.heap.objs.size) (.ref it) (.ref s.heap.objs.size)) _ _ _
 have hS₁:(s.heap.push { cls:=.type "list",data:=.seq ([]:List Value).toArray }).get? s.heap.objs.size=some { cls:=.type "list",data:=.seq #[] }:=qd _ rfl
 refine zgI (R:=fun r s'=>match r with
  | .ok (.ret v)=>wpAny (model prog w) A (match v with
    | .ref a=>do
      let __do_lift <- load a
      match __do_lift.data with
       | .seq xs epoch=>pure xs.toList
       | x=>unsupported "internal:collect"
    | x=>unsupported "internal:collect") Q E s'
  | .ok a=>False
  | .error e=>E e s') (s:={ s with heap:=s.heap.push { cls:=.type "list",data:=.seq ([]:List Value).toArray } }) hh (hit.at fun o e=>qc _ e) (zb2 ht fun o e=>qc _ e) hne z5 _ _ 0 hS₁ fun h' tk acc' c' hk hS' hacc=>?_
 show wpAny _ A (load s.heap.objs.size >>= _) _ _ _
 refine qa (wpAny_load hS' ?_)
 exact qb (hQ h' tk acc' (fun b o hb e=>hk b o (ne_of_lt (qg e)) hb (qc _ e)) (le_of_lt (qg hS')) hacc)
theorem zc9 {items:Array Value} (hh:A.handled=none) (hit:IsRevT s.heap it t ((items.size:Int) - 1)) (ht:IsTup s.heap t items) (hne:t≠it) (z5:items.size<=2 ^ 24)
  (h:∀ (h':Heap) tk z7,(∀ b o,b≠it->s.heap.get? b=some o->h'.get? b=some o)->s.heap.objs.size<=h'.objs.size->ItemsOf (fun i v=>items[items.size - 1 - i]?=some v) z7 items.size->Q₁ (.ref h'.objs.size) { s with heap:=h'.push { cls:=.type "tuple",data:=.seq z7 },toks:=tk }):
  codeAny (model prog w) A (.call (.builtin "tuple.__new__") ⟨[.type "tuple",.ref it],[]⟩) (wants Q₁ E) s:=by
 refine codeAny_of_tree ?_
 show wpAny _ A.in1 (do checkBuiltinCall "tuple.__new__" ⟨[.type "tuple",.ref it],[]⟩; again (.builtin "tuple.__new__" ⟨[.type "tuple",.ref it],[]⟩)) _ _ s
 refine qa (zw (F.newCall_tuple_1 _) (qb ⟨plainId_quiet F.plain_tuple_new _,codeAny_builtin F.entry_tuple_new ?_⟩))
 rw [Around.under_plainId F.plain_tuple_new _]
 have hsub:=sub_tuple_self
 have hinit:=init_tuple_lookup
 have hmh:=madeHere_tuple
 have hTI:s.TypeIs (.ref it) "reversed":=hit.typeIs
 wp_walk using wpAny_typeOf hTI,zfh (A:=A.in1) hh hit ht hne z5
 intro h' tk z7 hm hle hacc
 show wpAny _ _ (Builtin.Tuple.tupleExact z7.toList.toArray >>= fun v=>ret v) _ _ _
 unfold Builtin.Tuple.tupleExact
 refine qa (zp ?_ (by show z7.toList.toArray.size<=sizeLine; simp only [toArray_toList]; rw [hacc.1,zt]; exact z5))
 refine qb ?_
 have e:z7.toList.toArray=z7:=by simp
 rw [e]
 exact h h' tk z7 hm hle hacc
theorem zdd {items:Array Value} (hh:A.handled=none) (hit:IsRevT s.heap it t ((items.size:Int) - 1)) (ht:IsTup s.heap t items) (hne:t≠it) (z5:items.size<=2 ^ 24)
  (hQ:∀ (h':Heap) tk z7,(∀ b o,b≠it->s.heap.get? b=some o->h'.get? b=some o)->s.heap.objs.size<=h'.objs.size->ItemsOf (fun i v=>items[items.size - 1 - i]?=some v) z7 items.size->Q (.ref h'.objs.size) { s with heap:=h'.push { cls:=.type "tuple",data:=.seq z7 },toks:=tk }):
  wpAny (model prog w) A (call (.type "tuple") [.ref it]) Q E s:=by
 refine callType_codes (Q₁:=fun obj s₁=>s₁.TypeIs obj "tuple"/\Q obj s₁) F.called_tuple (F.typeCall_tuple_1 _) F.entry_object_init
  (zc9 (A:=A.in1) hh hit ht hne z5 fun s' tk z7 hm hle hacc=>⟨⟨_,qd _ rfl,rfl⟩,hQ s' tk z7 hm hle hacc⟩) fun obj s₁ h₁=>?_
 exact ⟨h₁.1,F.args_object_init_2 obj _,object_init_meets F.called_tuple.init.lookup F.called_tuple.made (by decide) prog w A.in1 _ s₁ ⟨h₁.1,rfl,h₁.2⟩⟩
section
variable {K:W.Frag}
theorem zfB:bootBuiltins "reversed"=some (.type "reversed"):=by decide +kernel
def tTupRev (K:W.Frag) (ta:TA):TE:=fun σ H Q=>ta σ H fun vs H1=>∃ t xs,vs=[.ref t]/\SqT K H1 t xs/\xs.length<=2 ^ 24/\∀ q,H1 q=none->Q (.ref q) (upd H1 q (.tup xs.reverse))
theorem zij (hc:X.calm=true) (hg:Gl X "tuple") (hm:X.mg "tuple"=none) (hv:bootBuiltins "tuple"=some (.type "tuple")) (hgr:Gl X "reversed") (hmr:X.mg "reversed"=none) (ha:PA X [a] ta)
  (hs:starEach [a] X.env=[(false,eval a X.env)]) (he:starEach [.Call (.Name "reversed" p1) [a] [] pos1] X.env=[(false,eval (.Call (.Name "reversed" p1) [a] [] pos1) X.env)]):
  PE X (.Call (.Name "tuple" p) [.Call (.Name "reversed" p1) [a] [] pos1] [] pos) (tTupRev X.K ta):=by
 intro zZ s σ H Q I h
 refine Call_ (zbf I hg hm hv (PyProof.Rows.callWith_type1 (rest:=[]) ?_ he (by rfl)))
 rw [he]
 refine Calls.spliced_cons (Call_ (zbf I hgr hmr zfB (PyProof.Rows.callWith_type1 (thn (ha pos1 zZ s σ H _ I h) fun us s1 zq=>?_) hs rfl)))
 obtain ⟨vs,H1,I1,r1,q1⟩:=zq
 obtain ⟨t,xs,rfl,hq,hz,q⟩:=q1
 obtain ⟨u,rfl,rx⟩:=vals1 r1
 cases rx
 obtain ⟨z6,rv,pt,_⟩:=I1.tuple hq
 have hsz:z6.toArray.size=xs.length:=by rw [qu,rv.length]
 have hlt:t < s1.heap.objs.size:=by obtain ⟨_,e,_⟩:=pt; exact qg e
 refine zhD pt (by rw [hsz]; lia) (Calls.spliced_nil ?_)
 refine zdd (s:={ s1 with heap:=s1.heap.push (revT t ((z6.toArray.size:Int) - 1)),toks:=s1.toks + 1 + 1 }) (items:=z6.toArray) (I.ok.hd hc) ⟨_,qd _ rfl,rfl,rfl⟩ (zb2 pt fun o e=>qc _ e) (ne_of_lt hlt) (by rw [hsz]; lia) fun h' tk z7 hk hle hacc=>?_
 have hk':∀ b o,s1.heap.get? b=some o->(h'.push { cls:=.type "tuple",data:=.seq z7 }).get? b=some o:=fun b o e=>
  qc _ (hk b o (ne_of_lt (qg e)) (qc _ e))
 have hle':s1.heap.objs.size<=h'.objs.size:=by
  refine le_trans ?_ hle
  show _<=(s1.heap.push _).objs.size
  rw [Heap.size_push]
  exact le_succ _
 refine ⟨.ref h'.objs.size,_,I1.laid (t':=tk) hk' hle' (show zY X.prog X.w _ (h'.push _) _ (.tup xs.reverse) from ⟨⟨?_,NoDc.new rfl (qd _ rfl)⟩,z7.toList,?_,?_⟩),rfl,q _ (I1.hok.fresh hle')⟩
 ·rw [List.length_reverse,zt]; exact hz
 ·refine zaQ (by rw [List.length_reverse]; have:=hacc.1; rw [hsz] at this; simp [this]) fun j y v h1 h2=>?_
  have h3:=hacc.2 j v (by rw [<- q9]; exact h2)
  have hj:j < xs.length:=by
   have:=(qi.mp h1).1
   simpa using this
  rw [List.getElem?_reverse hj] at h1
  rw [List.getElem?_toArray,hsz] at h3
  obtain ⟨u,h4,h5⟩:=rv.get h1
  rw [h3] at h4
  cases h4
  exact h5
 ·simpa using IsTup.new h' z7
theorem zX.rev:∀ {xs:List V} {l:List D},zX K F xs l->zX K F xs.reverse l.reverse
 | _,_,.nil=>.nil
 | _,_,.cons a b=>by
   rw [List.reverse_cons,List.reverse_cons]
   exact (zX.rev b).append (.cons a .nil)
theorem zhM (hc:X.calm=true) (hg:Gl X "tuple") (hm:X.mg "tuple"=none) (hv:bootBuiltins "tuple"=some (.type "tuple")) (hgr:Gl X "reversed") (hmr:X.mg "reversed"=none) (ha:FE X a wa)
  (hs:starEach [a] X.env=[(false,eval a X.env)]:=by rfl) (he:starEach [.Call (.Name "reversed" p1) [a] [] pos1] X.env=[(false,eval (.Call (.Name "reversed" p1) [a] [] pos1) X.env)]:=by rfl):
  FE X (.Call (.Name "tuple" p) [.Call (.Name "reversed" p1) [a] [] pos1] [] pos) (wTupRev wa):=fun pn xe hp=>by
 refine PE.imp (zij (X:=wp X pn xe) hc hg hm hv hgr hmr (zaa ha zab hs pn xe hp) hs he) fun σ H Q q=>?_
 obtain ⟨F,G,U,P,PX,z4,hw,hok,hx⟩:=q
 refine ⟨F,G,U,fun rs U1=>match rs with | [r]=>(zJ (zV r U1) fun d=>match d with | .tup l=>l.length<=big/\P (.v (.sh (.tup l.reverse))) U1 | _=>False) | _=>False,PX,z4,hw,fun rs U1 vs F1 H1 hk1 s1 r1 hl rv=>?_,hx⟩
 cases rs with
 | nil=>exact hk1.elim
 | cons r rs=>
   cases rs with
   | cons x rs=>exact hk1.elim
   | nil=>
     cases vs with
     | nil=>exact rv.elim
     | cons v vs=>
       cases vs with
       | cons x vs=>exact rv.2.elim
       | nil=>
         dsimp only at hk1
         obtain ⟨d,ed,hk1⟩:=zad hk1
         obtain ⟨F2,s2,re,r2⟩:=takeC (U':=[]) (σ':=[]) r1 hl rv.1 ed
         rw [qC,qC] at r2
         cases d with
         | tup l=>
           obtain ⟨hz,hk1⟩:=hk1
           obtain ⟨t,xs,rfl,e,rx⟩:=RepE.tup re
           have z5:=rx.len
           have hb:l.length<=1000000:=hz
           refine ⟨t,xs,rfl,SqT.of (r2.fr _ _ e),by lia,fun q hq=>?_⟩
           obtain ⟨f0,_,_⟩:=r2.free hq
           exact hok _ U1 _ _ _ hk1 (s1.trans (s2.trans (zK.upd f0))) ((r2.newF (o:=.tup xs.reverse) hq).push (.tup zai (rx.rev.mono (zK.upd f0)))) trivial
         | _=>exact hk1.elim
end
theorem ziq (h1:-1000000000000 < i) (h2:i < 1000000000000):i.natAbs.log2 < 40:=by
 have:i.natAbs < 2 ^ 40:=by lia
 by_cases h0:i.natAbs=0
 ·rw [h0]; decide
 ·exact (Nat.log2_lt h0).mpr this
mutual
theorem ziU:∀ d:D,okSh d=true->showD d=true
 | .non,_=>rfl
 | .bl _,_=>rfl
 | .int i,h=>by
   have h':(decide (-1000000000000 < i) && decide (i < 1000000000000))=true:=h
   rw [and_eq_true,qW,qW] at h'
   have:=ziq h'.1 h'.2
   show decide (i.natAbs.log2 < 1920)=true
   rw [qW]; lia
 | .str _,_=>rfl
 | .tup l,h=>zcg l h
 | .lst l,h=>zcg l h
 | .dct _ _ _,h=>by cases h
 | .set _,h=>by cases h
 | .exc _ _ _,h=>by cases h
theorem zcg:∀ l:List D,okShs l=true->showDs l=true
 | [],_=>rfl
 | d::r,h=>by
   rw [okShs,and_eq_true] at h
   rw [showDs,ziU d h.1,zcg r h.2]
   rfl
end
mutual
theorem zfu:∀ d:D,okSh d=true->(toPy d).leavesShort 13=true
 | .non,_=>rfl
 | .bl _,_=>rfl
 | .int i,h=>by
   have h':(decide (-1000000000000 < i) && decide (i < 1000000000000))=true:=h
   rw [and_eq_true,qW,qW] at h'
   have:=int_text_length_le10 (a:=i) (k:=12) (by decide) (by lia)
   simp only [toPy,PyData.leavesShort,qW]
   show (Str.ofString (toString i)).length<=13
   rw [PySem.ofString_length]
   exact this
 | .str l,h=>by
   have h':(l.all fun c=>decide (c < 1114112))=true:=h
   simp only [toPy,PyData.leavesShort,qL,qW] at h' ⊢
   intro c hc
   have:=h' c (by simpa using hc)
   lia
 | .tup l,h=>by
   simp only [toPy,PyData.leavesShort]
   exact zbl l h
 | .lst l,h=>by
   simp only [toPy,PyData.leavesShort]
   exact zbl l h
 | .dct _ _ _,h=>by cases h
 | .set _,h=>by cases h
 | .exc _ _ _,h=>by cases h
theorem zbl:∀ l:List D,okShs l=true->PyData.leavesShortAll 13 (toPys l)=true
 | [],_=>rfl
 | d::r,h=>by
   rw [okShs,and_eq_true] at h
   simp only [toPys,PyData.leavesShortAll,and_eq_true]
   exact ⟨zfu d h.1,zbl r h.2⟩
end
mutual
theorem zfz:∀ d:D,okSh d=true->(toPy d).weight<=wtD d
 | .non,_=>zj _
 | .bl _,_=>zj _
 | .int i,h=>by
   have h':(decide (-1000000000000 < i) && decide (i < 1000000000000))=true:=h
   rw [and_eq_true,qW,qW] at h'
   have:=ziq h'.1 h'.2
   simp only [toPy,PyData.weight,wtD]
   split <;> lia
 | .str l,h=>by simp [toPy,PyData.weight,wtD]
 | .tup l,h=>by
   simp only [toPy,PyData.weight,wtD]
   exact zbi l h
 | .lst l,h=>by
   simp only [toPy,PyData.weight,wtD]
   exact zbi l h
 | .dct _ _ _,h=>by cases h
 | .set _,h=>by cases h
 | .exc _ _ _,h=>by cases h
theorem zbi:∀ l:List D,okShs l=true->PyData.weightAll (toPys l)<=wtDs l
 | [],_=>zj _
 | d::r,h=>by
   rw [okShs,and_eq_true] at h
   have h1:=zfz d h.1
   have h2:=zbi r h.2
   simp only [toPys,PyData.weightAll,wtDs]
   lia
end
section
variable {K:W.Frag}
theorem zeH (a:Array Nat):∀ (n:Nat) (b:Array Nat),((List.replicate n a).foldl (·++·) b).toList=b.toList++(List.replicate n a.toList).flatten
 | 0,b=>by simp
 | n + 1,b=>by
   rw [List.replicate_succ,List.foldl_cons,zeH a n,List.replicate_succ,List.flatten_cons,toList_append,qr]
theorem zoJ (h0:0<=n):(Txt.mul x n).cps.toList=(List.replicate n.toNat x.cps.toList).flatten:=by
 unfold Txt.mul
 by_cases h1:n < 1
 ·rw [zc h1,show n=0 by lia]; rfl
 ·rw [zi h1]
  by_cases h2:(n == 1 || x.length == 0)=true
  ·rw [zc h2]
   rw [or_eq_true,beq_iff_eq,beq_iff_eq] at h2
   rcases h2 with h2 | h2
   ·subst h2; simp
   ·have:x.cps.toList=[]:=by
     have e:x.cps.size=0:=h2
     rw [<- List.length_eq_zero_iff,qY]; exact e
    rw [this]; simp
  ·rw [zi h2]
   show ((List.replicate n.toNat x.cps).foldl (·++·) #[]).toList=_
   rw [zeH]; simp
def rMulS:R2:=fun x y H Q=>∃ z n,x=.str z/\y=.int n/\0<=n/\n<=1000/\z.length<=500/\Q (.str (Txt.mul z n)) H
theorem zl6:OpR X (binaryOp .Mult) rMulS:=by
 intro zZ s σ H x y v u Q I rx ry h
 obtain ⟨z,n,rfl,rfl,h0,h1,hz,q⟩:=h
 obtain ⟨t,rfl⟩:=rx
 obtain ⟨t',rfl⟩:=ry
 refine SB.mul ⟨?_,fun h _=>?_,fun h _=>?_⟩ fun t2 k=>⟨.str _,H,I.kept fun _ _ z=>z,⟨_,rfl⟩,q⟩
 ·grind
 ·have h3:(9223372036854775807:Int) / 1000<=(2 ^ 63 - 1) / n:=by
   rw [Int.le_ediv_iff_mul_le (by lia)]
   grind
  grind
 ·have h4:z.length * n.toNat<=500 * 1000:=Nat.mul_le_mul hz (by lia)
  simp only [Builtin.Str.tooLong,decide_eq_false_iff_not,zt]
  lia
theorem zhZ:Does K (fun x y H Q=>(rI CMul fun i j=>.int (i * j)) x y H Q\/rMulS x y H Q) oMulA:=by
 intro σ U F G H x y p q s Q z4 rx ry e hq
 unfold oMulA at e
 split at e
 ·rename_i l n
  split at e
  ·rename_i hc
   cases e
   obtain ⟨h0,h1,hz⟩:=hc
   obtain ⟨z,rfl,e1,_⟩:=rx.str
   have ey:y=.int n:=by
    rcases ry with ry | ⟨_,_,_,_,e,_⟩ | ⟨_,_,_,_,_,e,_⟩ | ⟨_,_,_,_,_,e,_⟩
    ·cases ry; rfl
    ·cases e
    ·cases e
    ·cases e
   subst ey
   have hzl:z.length=l.length:=by rw [<- e1,qY]; rfl
   refine .inr ⟨z,n,rfl,rfl,h0,h1,by lia,?_⟩
   refine hq _ F H (zK.refl F) (z4.push (.str ?_ ?_))
   ·rw [zoJ h0,e1]
   ·have h4:n.toNat * l.length<=1000 * 500:=Nat.mul_le_mul (by lia) hz
    have e5:∀ m,((List.replicate m l).flatten).length=m * l.length:=fun m=>by simp [List.length_flatten]
    rw [e5]; lia
  ·cases e
 ·exact .inl (zkj σ U F G H x y _ _ s Q z4 rx ry e hq)
theorem za8 (ha:FE X a wa) (hb:FE X b wb):FE X (.BinOp a .Mult b pos) (zQ oMulA wa wb):=zbU (fun _ _=>OpR.or zpr zl6) zhZ ha hb
end
theorem zhX (hu:A.units < cLine) (I:Inv X zZ σ H s) (g:DPut H a y v H') (ry:zO y u) (rv:zO v r) (h:∀ s',Inv X zZ σ H' s'->Q () s'):
  wpAny (model X.prog X.w) A (dictSet a u r) Q E s:=by
 rcases g with ⟨z3,k,e,ey,l,eH⟩ | ⟨z3,k,b,e,ey,eb,l,eH⟩
 ·subst ey eH
  obtain ⟨z,hd,vs,z4,dd⟩:=znr I.hok e
  refine wpAny_dictSet_pairs (hsz:=by rw [<- z4.length]; exact z) (zgZ ry) dd fun h' dd' hs=>h _ ?_
  exact zec I (by rw [e]; exact True.intro) hs (let ⟨q,_,_,hq,_⟩:=dd'; ⟨q,hq⟩) (zkZ (by have:=za9 z3 k v; lia) hd (z4.put k rv) dd')
 ·subst ey eH
  cases (show u=Value.ref b from ry)
  obtain ⟨z,hd,xs,z4,dd⟩:=znd I.hok e
  refine wpAny_dictSet_heap (hsz:=by rw [<- Paired.length z4]; exact z) hu (zds I.hok eb) dd fun h' dd' hs=>h _ ?_
  obtain ⟨q,es,ep,hq,h2,h3,h4,_,h5⟩:=dd'
  refine zec I (by rw [e]; exact True.intro) hs ⟨q,hq⟩ ⟨by have:=za9 z3 k v; lia,hd,_,(z4.put k eb rv).keeps fun c ys ec=>?_,q,es,ep,hq,h2,h3,h4,h5⟩
  rw [zag (znM ec e (fun z=>nomatch z))]
  exact ec
theorem zm1 (hr:Room k A):A.units < cLine:=Nat.lt_of_succ_lt (zmp hr)
def dO (K:W.Frag) (f:Addr):FuncData:=match K.lookup f with
 | some ⟨_,_,.func d,_⟩=>d
 | _=>default
theorem zol {K:W.Frag} (l:K.lookup f=some ⟨oc,od,.func d,sl⟩):dO K f=d:=by unfold dO; rw [l]
inductive Lk (K:W.Frag) (n:Str) (st:Stmt) (f:Addr):Prop
 | mk {oc kV dc pm cd ct:Value} {od an:Option Addr} {sl:Array (Option Value)} (a:W.nsIn K mainGlobals n=some (some (.ref f))) (l:K.lookup f=some ⟨oc,od,.func (W.fnOf n n (defArgs st) (defBody st) (defScope st) .none kV dc pm an cd ct),sl⟩)
   (c:W.codeIn K cd n=true) (k:W.keepIn K (.ref f)=true):Lk K n st f
structure Tx (K:W.Frag) (mg:Str->Option Value) (f:Addr) (n:Str) (st:Stmt) (ps:List Str):Prop where
 F:Fun K n n st f (dO K f)
 m:mg n=some (.ref f)
 k:W.keepIn K (.ref f)=true
 b:Binds K (dO K f) ps []
def Bd0 (n:Str) (st:Stmt) (ps:List Str):Prop:=∀ (kV doc pm:Value) (an:Option Addr) (cdv ct:Value) (us:List Value),us.length=ps.length->bindArgs (W.fnOf n n (defArgs st) (defBody st) (defScope st) .none kV doc pm an cdv ct) ⟨us,[]⟩=pure (ps.zip us)
section
variable {K:W.Frag} {st:Stmt}
theorem Lk.mm (t:Lk K n st f) (X:K.In h) (G:h.Ns mainGlobals mg):mg n=some (.ref f):=by
 obtain ⟨a,l,c,k⟩:=t
 exact W.mg_of X G a
theorem Lk.tx (t:Lk K n st f) (X:K.In h) (G:h.Ns mainGlobals mg) (b:Bd0 n st ps:=by intro _ _ _ _ _ _ us hl; first | (obtain ⟨_,rfl⟩:=vlen1 (l:=us) hl; rfl) | (obtain ⟨_,_,rfl⟩:=vlen2 (l:=us) hl; rfl) | (obtain ⟨_,_,_,rfl⟩:=vlen3 (l:=us) hl; rfl) | (obtain ⟨_,_,_,_,rfl⟩:=vlen4 (l:=us) hl; rfl) | (obtain ⟨_,_,_,_,_,rfl⟩:=vlen5 (l:=us) hl; rfl)):Tx K mg f n st ps:=by
 obtain ⟨a,l,c,k⟩:=t
 have e:=zol l
 have F:=zo8 l c k
 refine ⟨?_,W.mg_of X G a,k,?_⟩
 ·rw [e]; exact F
 ·rw [e]; exact F.binds b
theorem Lk.bt (t:Lk K n st f) (s:Shared) (v:Value) (b:Bd0 n st [x]:=by intro _ _ _ _ _ _ us hl; obtain ⟨_,rfl⟩:=vlen1 (l:=us) hl; rfl):BindsTo s (dO K f) ⟨[v],[]⟩ [(x,v)]:=by
 obtain ⟨a,l,c,k⟩:=t
 have e:=zol l
 rw [e]
 exact .of_eq (b _ _ _ _ _ _ [v] rfl)
end
theorem msc {N P:List Str} {sc:Scope} (a:sc.kind=.function:=by rfl) (b:sc.isCoroutine=false:=by rfl) (c:sc.isGenerator=false:=by rfl) (d:N.Nodup:=by decide +kernel) (e:N.take P.length=P:=by rfl) (f:∀ x∈P,sc.names.lookup x=some .local\/sc.names.lookup x=some .cell:=by decide +kernel) (g:∀ y∈sc.names,y.2≠.free:=by decide +kernel):FnScope N P sc:=⟨a,b,c,d,e,f,g⟩
abbrev FnK (P:Program) (w:World) (K:W.Frag) (mg:Str->Option Value) (base:Heap) (af:Nat->Addr) (k i:Nat) (ps:List Str) (sp:Sp):Prop:=FnOk P w K mg base (CXe P w) k (af i) (dO K (af i)) ps sp
theorem fn2 {K:W.Frag} {st:Stmt} (t:Tx K mg f x st ps) (Sc:FnScope N ps (defScope st))
  (hb:∀ (cdv:Value) (A:Around) (outer:List PySem.Env) (s:Shared) (H:Hp) (E:XK),Room k (A.deeper (envOfC x (defScope st) s.heap.objs.size f cdv))->FSs (cxOf (CXe P w) P w K mg base N x (defScope st) f cdv A outer s H E) ks (defBody st) wb) (hn:ps.length=n:=by rfl) (hm:N.length=m:=by rfl):
  FnOk P w K mg base (CXe P w) (k + 1) f (dO K f) ps (spW K (wFn n m ks wb) n):=fn_w t.F Sc hn hm hb
section
theorem fw (i:Nat) (hN:X.N[i]?=some x:=by rfl) (hv:Vis X.env.scope x:=by first | exact Or.inl rfl | exact Or.inr (Or.inl rfl) | exact Or.inr (Or.inr rfl)) (hd:(x == ("__debug__":Str))=false:=by decide)
  (hcd:(x == ("__classdict__":Str))=false:=by decide):FE X (.Name x pos) (zF i):=zmJ hN hv hd hcd
theorem gnm (i:Nat) (hnd:X.N.Nodup) (hk:i∉ks:=by decide) (hi:X.N[i]?=some x:=by rfl) (hx:Loc X.env.scope x:=by first | exact Or.inl rfl | exact Or.inr rfl) (hf:X.fn x=true\/X.env.scope.names.lookup x=some .local:=by exact Or.inl rfl):FG X ks (.Name x pos) (FL.zI i):=zhF hk (fun j hj=>zcr hnd hj hi) hi hx hf
theorem gcm (i:Nat) (hk:i∉ks:=by decide) (hu:(X.N.zipIdx.all fun p=>!(p.1 == x) || p.2 == i)=true:=by kernel_rfl) (hi:X.N[i]?=some x:=by rfl) (hx:Loc X.env.scope x:=by first | exact Or.inl rfl | exact Or.inr rfl) (hf:X.fn x=true\/X.env.scope.names.lookup x=some .local:=by first | exact Or.inr rfl | exact Or.inl rfl):FG X ks (.Name x pos) (FL.zI i):=zhF hk (uq hu) hi hx hf
variable {st:Stmt}
theorem fcl (ms:List Bool) (t:Tx X.K X.mg f x st ps) (Fk:FnOk X.prog X.w X.K X.mg X.base (CXe X.prog X.w) k f (dO X.K f) ps (spW X.K wf n)) (hr:Room j X.A) (ha:FA X (e::es) wa) (hj:k<=j:=by decide) (hg:Gl X x:=by rfl) (z5:∀ ss P PX,wf ss P PX->ss.length=n:=by exact fun _ _ _ h=>h.1)
  (hdb:(x == ("__debug__":Str))=false:=by decide) (he:starEach (e::es) X.env=(false,eval e X.env)::starEach es X.env:=by rfl) (hpl:(backTo pos (starEach es X.env)).any (·.1)=false:=by rfl):
  FE X (.Call (.Name x p) (e::es) [] pos) (zS wf ms wa):=zlL Fk (hr.mono hj) hg t.m t.k t.b ha z5 hdb he hpl
end
end FL
namespace FL
def wRec (step:WF->WF):Nat->WF
 | 0=>fun _ _ _=>False
 | n + 1=>step (wRec step n)
end FL
namespace FL
open PySem PySem.Spec PyProof.Rows L2
section
variable {K:W.Frag}
theorem zqI (hn:ps.length=n):FnOk P w K mg base (CXe P w) k f fd ps (spW K (fun _ _ _=>False) n):=
 ⟨fun vs H Q E h=>by obtain ⟨F,G,ss,P',PX,hl,_⟩:=h; rw [hl,hn],fun A outer s H args us vs Q E _ _ _ _ h=>by obtain ⟨F,G,ss,P',PX,hl,_,h,_⟩:=h; exact h.elim⟩
theorem zkP {step:WF->WF} (hn:ps.length=n)
  (h:∀ (r:WF) (j:Nat),(∀ ss P PX,r ss P PX->ss.length=n)->FnOk P w K mg base (CXe P w) (k + j) f fd ps (spW K r n)->FnOk P w K mg base (CXe P w) (k + j + 1) f fd ps (spW K (step r) n))
  (hl:∀ r ss P PX,step r ss P PX->ss.length=n):∀ j,FnOk P w K mg base (CXe P w) (k + j) f fd ps (spW K (wRec step j) n)
 | 0=>zqI hn
 | j + 1=>h _ j (by cases j with | zero=>exact fun _ _ _ z=>z.elim | succ j=>exact hl _) (zkP hn h hl j)
end
end FL
namespace TS
open PySem PyProof.Rows
theorem zct:∀ vs:List Value,vs.zip vs=vs.map fun v=>(v,v)
 | []=>rfl
 | v::r=>by show (v,v)::r.zip r=_; rw [zct r]; rfl
end TS
namespace FL
def wDispT (k v:WE):WE:=fun U Q E=>k U (fun x U1=>v U1 (fun y U2=>zJ (view x U2) fun q=>zJ (give y U2) fun p=>isKey true q=true/\Q (.v (.dct true [q] [p.1])) p.2) E) E
def isIT:D->Bool
 | .tup l=>(intsD l).isSome
 | _=>false
end FL
namespace FL
open PySem PySem.Spec PyProof.Rows L2
theorem zjZ {k v:Expr} {pos:Pos} {Q:zz}
  (h:wpAny (model prog w) A (eval k env) (fun kv s1=>wpAny (model prog w) A (eval v env) (fun vv s2=>wpAny (model prog w) A (dictSet s.heap.objs.size kv vv) (fun _ s3=>Q (.ref s.heap.objs.size) s3) E s2) E s1) E
   { s with heap:=s.heap.push { cls:=.type "dict",data:=.dict #[] } }):wpAny (model prog w) A (eval (.Dict [some k] [v] pos) env) Q E s:=by
 rw [arm_eval_Dict,zip_pairTrees [some k] [v] env pos rfl rfl,dictDisplay_pairs (pairTrees [some k] [v] env pos) (by intro z; cases z) (by show 1 < 17; decide)]
 refine qa (wpAny_standAt (qa ?_))
 unfold subDict
 refine qa (wpAny_alloc (qa (zv ?_)))
 rw [zc (by show 1<=15; decide)]
 refine qa (pairTrees_cons_walk (zx h (fun kv s1 h1=>zx h1 (fun vv s2 h2=>pairTrees_nil_walk ?_) fun _ _ e=>e) fun _ _ e=>e))
 refine zv ?_
 refine qa ?_
 rw [forIn_cons]
 refine qa (qa (zx h2 (fun _ s3 h3=>?_) fun _ _ e=>e))
 refine qb ?_
 simp only [forIn_nil]
 exact qb (qb (qb (qb h3)))
def tDispT (tk tv:TE):TE:=fun σ H Q=>∀ p,H p=none->tk σ (upd H p (.dT [])) fun x H1=>tv σ H1 fun y H2=>∃ H3,DPut H2 p x y H3/\Q (.ref p) H3
theorem zkv {k v:Expr} {tk tv:TE} (hu:X.A.units < cLine) (hk:PE X k tk) (hv:PE X v tv):PE X (.Dict [some k] [v] pos) (tDispT tk tv):=by
 intro zZ s σ H Q I q
 have hn:=I.hok.fresh (zj s.heap.objs.size)
 have I1:=I.laid (a:=s.heap.objs.size) (o:=.dT []) (h':=s.heap.push { cls:=.type "dict",data:=.dict #[] }) (t':=s.toks) (fun _ _ q=>qc _ q) (zj _) (zjG s.heap I.big)
 exact zjZ (zx (hk zZ _ σ _ _ I1 (q _ hn)) (fun kv s1 ⟨x,H1,I2,rv,q1⟩=>zx (hv zZ s1 σ H1 _ I2 q1) (fun vv s2 ⟨y,H2,I3,ru,H3,dp,q2⟩=>zhX hu I3 dp rv ru fun s' I'=>⟨.ref _,H3,I',rfl,q2⟩) fun _ _ e=>e) fun _ _ e=>e)
theorem zju {k v:Expr} {wk wv:WE} (hu:X.A.units < cLine) (hk:FE X k wk) (hv:FE X v wv):FE X (.Dict [some k] [v] pos) (wDispT wk wv):=fun pn xe hp=>by
 refine PE.imp (zkv (X:=wp X pn xe) hu (hk pn xe hp) (hv pn xe hp)) fun σ H Q q=>?_
 obtain ⟨F,G,U,P,PX,z4,hw,hok,hx⟩:=q
 intro p hp
 have r0:=Rel.newO (s:=.dct true [] []) z4 hp (.dT (z3:=[]) zai rfl .nil)
 obtain ⟨G0,rel0,g0,back0⟩:=r0.hide (len1 r0)
 refine ⟨F,G0,U,_,PX,rel0,hw,fun rx U1 vx F1 H1 hk1 s1 r1 rv1=>?_,hx.mono (fun _ z=>z) (zK.refl F) g0⟩
 have l1:=len1 r1
 obtain ⟨G1,rel1,g1,back1⟩:=r1.hide l1
 refine ⟨F1,G1,U1,_,PX,rel1,hk1,fun ry U2 vy F2 H2 hk2 s2 r2 rv2=>?_,hx.mono (fun _ z=>z) s1 (g0.trans g1)⟩
 have l2:=len1 r2
 obtain ⟨q,eq,hk3⟩:=zad hk2
 obtain ⟨⟨t,U3⟩,eg,hkey,hk4⟩:=zad hk3
 have r3:=back0 (s1.trans s2) (back1 s2 r2)
 simp only [qr,qR,nil_append] at r3
 obtain ⟨F3,s3,l3,r4⟩:=giveR (U':=[zL rx,some (.dct true [] [])]) (σ':=[some vx,some (.ref p)]) r3 l2 rv2 eg
 have r3':Rel X.K (U2++zL rx::[some (.dct true [] [])]) (σ++some vx::[some (.ref p)]) F2 G H2:=r3.mid l2
 have rq:=look (U':=[some (.dct true [] [])]) (σ':=[some (.ref p)]) r3' l2 rv1 eq
 have l3':U3.length=σ.length:=l3.trans l2
 have r5:Rel X.K (U3++[some t,some (.dct true [] [])]) (σ++[some vy,some (.ref p)]) F3 G H2:=by
  have:=Rel.mid (U:=U3++[some t]) (σ:=σ++[some vy]) (U':=[some (.dct true [] [])]) (σ':=[some (.ref p)]) (o:=zL rx) (w:=some vx) (by simpa using r4) (by simp [l3'])
  simpa using this
 have r6:=Rel.swap (U1:=[some t]) (σ1:=[some vy]) (U2:=[some (.dct true [] [])]) (σ2:=[some (.ref p)]) l3' rfl r5
 have r7:Rel X.K ((U3++[some (.dct true [] [])])++[some t]) ((σ++[some (.ref p)])++[some vy]) F3 G H2:=by simpa using r6
 have hs7:slot (U3++[some (.dct true [] [])]) U3.length=some (.dct true [] []):=zaE (U':=[])
 have hσ7:(σ++[some (V.ref p)])[U3.length]?=some (some (.ref p)):=by rw [l3']; simp
 obtain ⟨H',dp,r8⟩:=Rel.dput r7 hs7 hσ7 rq hkey .nil (by decide)
 have e9:(U3++[some (S.dct true [] [])]).set U3.length (some (dputS true [] [] q t))=U3++[some (.dct true [q] [t])]:=zce (U':=[])
 rw [e9] at r8
 exact ⟨H',dp,hok _ U3 _ F3 _ hk4 (s1.trans (s2.trans s3)) r8 trivial⟩
section
variable {K:W.Frag}
theorem Rel.growT (r:Rel K U σ F G H) (bs:List Addr) (hb:∀ b∈bs,∃ xs,H b=some (.tup xs)):∃ F',zK F F'/\Rel K U σ F' G H/\∀ b∈bs,F' b=H b:=by
 obtain ⟨fp,e,nd,ap⟩:=r.en
 have sm:zK F fun a=>(F a).or (if a∈bs then H a else none):=fun a o q=>by simp only [q,some_or]
 have key:∀ {a o},H a=some o->noTup o=true->F a=none->(F a).or (if a∈bs then H a else none)=none:=fun {a o} h1 h2 h3=>by
  rw [h3,none_or,zi]
  intro z
  obtain ⟨xs,q⟩:=hb a z
  rw [h1] at q
  cases q
  cases h2
 refine ⟨_,sm,⟨fun a o q=>?_,fun a o q=>?_,fp,e.mono sm fun _ _=>rfl,nd,fun a ha=>?_⟩,fun b hb'=>?_⟩
 ·cases qf:F a with
  | some u=>rw [qf,some_or] at q; cases q; exact r.fr a _ qf
  | none=>
    rw [qf,none_or] at q
    split at q
    ·exact q
    ·cases q
 ·obtain ⟨⟨h1,h2⟩,h3⟩:=r.gr a o q
  exact ⟨⟨h1,h2⟩,key h1 h2 h3⟩
 ·obtain ⟨o,h1,h2⟩:=e.in_ a ha
  exact ⟨key h1 h2 (ap a ha).1,(ap a ha).2⟩
 ·cases qf:F b with
  | some u=>rw [some_or,r.fr b u qf]
  | none=>rw [none_or,zc hb']
theorem zci {α β:Type} {R:α->β->Prop} {l:List α} {m:List β} (r:Paired R l m) {i:Nat} {x:α} {y:β} (h1:l[i]?=some x) (h2:m[i]?=some y):R x y:=by
 induction r generalizing i with
 | nil=>cases h1
 | cons a b ih=>
   cases i with
   | zero=>cases h1; cases h2; exact a
   | succ i=>exact ih h1 h2
theorem intKeys (F:Hp):∀ ks:List Key,(intsD (ks.map keyD)).isSome=true->zX K F (ks.map kV) (ks.map keyD)
 | [],_=>.nil
 | .inl i::ks,h=>.cons (.int i) (intKeys F ks (by
   have h':((intsD (ks.map keyD)).map (i::·)).isSome=true:=h
   rwa [isSome_map] at h'))
 | .inr x::ks,h=>nomatch h
end
end FL
namespace FL
def oShl:D->D->Option S
 | .int i,.int j=>if 0<=j/\j<=1000/\i.natAbs < 2 ^ 64 then some (.sh (.int (i * 2 ^ j.toNat))) else none
 | _,_=>none
def oShr:D->D->Option S
 | .int i,.int j=>if 0<=j then some (.sh (.int (i / 2 ^ j.toNat))) else none
 | _,_=>none
def oAnd1:D->D->Option S
 | .int i,.int j=>if 0<=i/\j=1 then some (.sh (.int (i % 2))) else none
 | _,_=>none
mutual
def like:D->D->Bool
 | .int _,.int _=>true
 | .tup l,.tup m=>likes l m
 | _,_=>false
def likes:List D->List D->Bool
 | a::l,b::m=>like a b && likes l m
 | _,_=>true
end
def cLtT (a b:D):Option Bool:=if like a b=true/\dep a<=9 then some (decide (cmpD a b=.lt)) else none
def least:D->List D->D
 | b,[]=>b
 | b,d::r=>least (if cmpD d b=.lt then d else b) r
def minDf:D->D->Option S
 | .lst [],.non=>some (.sh .non)
 | .lst [],.tup l=>some (.sh (.tup l))
 | .lst (b::r),_=>if (b::r).all (fun x=>(b::r).all fun y=>like x y && decide (dep x<=9))=true then some (.sh (least b r)) else none
 | _,_=>none
def wListIt (j:Nat):WE:=fun U Q _=>match slot U j with
 | some (.dct true ks l)=>(l.all S.isSh=true/\ks.all isIT=true/\ks.length<=big)/\Q (.v (.lst ((zipD ks (l.map S.toD)).map .sh))) U
 | _=>False
def wItemsT (j:Nat):WI:=fun U Q _=>match slot U j with
 | some (.dct true ks l)=>l.all S.isSh=true/\ks.all isIT=true/\Q (zipD ks (l.map S.toD)) (U.set j (some (.sh (.dct true ks (l.map S.toD)))))
 | _=>False
end FL
namespace FL
open PySem PySem.Spec PyProof.Rows L2
def addH (H N:Hp):Hp:=fun a=>(N a).or (H a)
section
variable {K:W.Frag}
theorem zbb (hN:∀ a o,N a=some o->H a=none) (e:H b=some o):addH H N b=some o:=by
 unfold addH
 cases q:N b with
 | none=>exact e
 | some u=>rw [hN b u q] at e; cases e
theorem Inv.many (I:Inv X zZ σ H s) (k:∀ b u,s.heap.get? b=some u->h'.get? b=some u) (hN:∀ a o,N a=some o->s.heap.objs.size<=a) (new:∀ a o,N a=some o->zY X.prog X.w (addH H N) h' a o):
  Inv X zZ σ (addH H N) { s with heap:=h',toks:=t' }:=by
 have hn:∀ a o,N a=some o->H a=none:=fun a o e=>I.hok.fresh (hN a o e)
 refine I.un ⟨fun b u q _ _ _=>k b u q,fun b u q _ _ _=>⟨u.slots,k b u q⟩,fun b u q n _=>?_,fun b u q _=>⟨u,k b u q⟩,fun b xs q=>zbb hn q,fun b u xs q=>zbb hn q,fun b ps q=>⟨#[],by rw [zbb hn q]; simp⟩⟩ fun b u e=>?_
 ·unfold addH
  cases e:N b with
  | none=>exact n
  | some v=>exact absurd (hN b v e) (Nat.not_le.mpr (qg q))
 ·cases q:N b with
  | some v=>
    have e2:addH H N b=some v:=by unfold addH; rw [q]; rfl
    rw [e2] at e
    cases e
    exact new b _ q
  | none=>
    have e2:H b=some u:=by unfold addH at e; rw [q] at e; exact e
    exact (I.hok b u e2).stay (fun c v _ z=>k c v z) (fun c z=>zbb hn z) fun c xs z=>zbb hn z
theorem Rel.many (r:Rel K U σ F G H) (hN:∀ a o,N a=some o->H a=none):zK F (addH F N)/\Rel K U σ (addH F N) G (addH H N):=by
 have hF:∀ a o,N a=some o->F a=none:=fun a o e=>(r.free (hN a o e)).1
 have sm:zK F (addH F N):=fun a o e=>zbb hF e
 obtain ⟨fp,e,nd,ap⟩:=r.en
 have key:∀ a,(∃ o,H a=some o)->N a=none:=fun a ⟨o,h⟩=>by
  cases q:N a with
  | none=>rfl
  | some u=>rw [hN a u q] at h; cases h
 refine ⟨sm,fun a o q=>?_,fun a o q=>?_,fp,e.mono sm fun a ha=>?_,nd,fun a ha=>⟨?_,(ap a ha).2⟩⟩
 ·unfold addH at q ⊢
  cases z:N a with
  | some u=>rw [z] at q; exact q
  | none=>rw [z] at q; exact r.fr a o q
 ·obtain ⟨⟨h1,h2⟩,h3⟩:=r.gr a o q
  exact ⟨⟨zbb hN h1,h2⟩,by unfold addH; rw [key a ⟨o,h1⟩]; exact h3⟩
 ·obtain ⟨o,h,_⟩:=e.in_ a ha
  unfold addH; rw [key a ⟨o,h⟩]; rfl
 ·obtain ⟨o,h,_⟩:=e.in_ a ha
  unfold addH; rw [key a ⟨o,h⟩]; exact (ap a ha).1
end
theorem Rel.newX {K:W.Frag} {U:Env} {σ:St} {F G H:Hp} {u:HO} (r:Rel K U σ F G H) (hv:H v=none):Rel K U σ F G (upd H v u):=by
 obtain ⟨f0,g0,n0⟩:=r.free hv
 obtain ⟨fp,e,nd,ap⟩:=r.en
 refine ⟨zK.updR r.fr f0,fun b ob z=>?_,fp,e.mono (zK.refl F) fun b hb=>zag fun w=>n0 fp e (w ▸ hb),nd,ap⟩
 have hb:b≠v:=fun w=>by rw [w,g0] at z; cases z
 rw [zag hb]; exact r.gr b ob z
def vwφ (v a:Addr) (h:Heap):Prop:=h.IsItemsView v a
section
variable {K:W.Frag}
def tItems (tl:TE):TE:=fun σ H Q=>tl σ H fun x H1=>∃ a z3,x=.ref a/\Rd H1 a (.dT z3)/\∀ v,H1 v=none->Q (.ref v) (upd H1 v (.ext (vwφ v a)))
theorem zhz {z3:List (List Key×V)} (ok:HOk P w H h) (hq:Rd H a (.dT z3)):∃ ys es ep,ST.RawD h a es ep/\KT H z3 ys/\es.toList=ys.map (entryOfKey (tupleKind (mixKind P w)))/\z3.length<=sizeLine/\(a == sysModules)=false:=by
 refine cps fun _ kk=>?_
 obtain ⟨z,hm,ys,kt,o,es,ep,h1,h2,h3,h4,h5,h6⟩:=zgz ok hq
 refine kk ?_
 exact ⟨ys,es,ep,⟨o,h1,h2,h3⟩,kt,h4,z,hm⟩
theorem zga (hl:PE X o tl) (hbase:attributeBase o "items" X.env (eval o X.env)=eval o X.env:=by rfl) (hline:(apos.endLine == cpos.line)=true:=by rfl):PE X (.Call (.Attribute o "items" apos) [] [] cpos) (tItems tl):=by
 intro zZ s σ H Q I h
 refine wpAny_Call_method (T:="dict") (id:="dict.items") hbase rfl hline F.plainAttrs_dict F.slot_dict_items F.type_dict_items (thn (hl zZ s σ H _ I h) fun u s1 zq=>?_)
 refine cps fun _ kk=>?_
 obtain ⟨x,H1,I1,rx,a,z3,ex,hH,q⟩:=zq
 subst ex
 obtain rfl:u=Value.ref a:=rx
 obtain ⟨ys,es,ep,raw,_,_,_,hm⟩:=zhz I1.hok hH
 obtain ⟨ob,g1,g2,g3⟩:=id raw
 refine kk ?_
 refine ⟨raw.type,fun b e=>by cases e; exact ⟨ob,g1,g2.2.1⟩,?_⟩
 show wpAny _ _ (callWith cpos (.builtin "dict.items") [.ref a] [] []) _ _ s1
 refine method_meetsIn F.slot_dict_items F.entry_dict_items rfl (PySem.evalArgs_none ⟨rfl,raw.type,F.args_dict_items_1 _,_,ST.pair_view hm,⟨es,ep,raw⟩,?_⟩)
 refine ⟨.ref _,_,I1.laid (t':=s1.toks) (o:=.ext (vwφ _ a)) (fun _ _ q=>qc _ q) (zj _) ⟨⟨_,qd _ rfl,rfl,rfl⟩,⟨_,qd _ rfl⟩,fun h1 h2 φ kp=>?_⟩,rfl,q _ (I1.hok.fresh (zj _))⟩
 obtain ⟨o',e,r⟩:=φ
 exact ⟨o',kp _ e,r⟩
def nwT (as:List Addr) (h:Heap):Hp:=fun a=>if a∈as then (match h.get? a with
 | some o=>match o.data with
   | .seq z6 _=>(z6.toList.mapM absV).map .tup
   | _=>none
 | none=>none) else none
theorem znt {as:List Addr} {h:Heap} (ha:a∈as) (e:h.get? a=some (ST.tup2 u v)) (r1:zO x u) (r2:zO y v):nwT as h a=some (.tup [x,y]):=by
 unfold nwT
 rw [zc ha,e]
 show (([u,v]:List Value).mapM absV).map HO.tup=_
 simp [r1.abs,r2.abs]
def rListIt:List V->Hp->VK->Prop:=fun xs H Q=>∃ v a,∃ z3:List (List Key×V),xs=[.ref v]/\H v=some (.ext (vwφ v a))/\Rd H a (.dT z3)/\∀ (bs as:List Addr) (N:Hp),bs.length=z3.length->as.length=z3.length->
 (∀ (i:Nat) (b:Addr) (kv:List Key×V),bs[i]?=some b->z3[i]?=some kv->H b=some (.tup (kv.1.map kV)))->(∀ a o,N a=some o->H a=none)->
 (∀ (i:Nat) (c b:Addr) (kv:List Key×V),as[i]?=some c->bs[i]?=some b->z3[i]?=some kv->N c=some (.tup [.ref b,kv.2]))->∀ p,addH H N p=none->Q (.ref p) (upd (addH H N) p (.lst (as.map .ref)))
theorem zfe (hc:X.calm=true):CallR X (.type "list") rListIt:=by
 intro zZ s σ H xs us Q I r h
 obtain ⟨v,a,z3,rfl,hv,hq,q⟩:=h
 obtain ⟨u,rfl,rx⟩:=vals1 r
 cases (show u=Value.ref v from rx)
 obtain ⟨ys,es,ep,raw,kt,h4,z,hm⟩:=zhz I.hok hq
 have hl:=Paired.length kt
 have hes:es.size=ys.length:=by rw [<- qY,h4,qq]
 obtain ⟨hvw,_⟩:=(show zY X.prog X.w H s.heap v (.ext (vwφ v a)) from I.hok v _ hv)
 refine ST.pair_call (I.ok.hd hc) hvw raw (by rw [hes,<- hl]; exact z) fun h' tk z7 c as hk hS' hal hG hacc=>?_
 have key:∀ (j:Nat) (b:Addr),as[j]?=some b->∃ kv y,z3[j]?=some kv/\ys[j]?=some y/\H y.2.1=some (.tup (kv.1.map kV))/\nwT as h' b=some (.tup [.ref y.2.1,kv.2])/\h'.get? b=some (ST.tup2 (.ref y.2.1) y.2.2)/\zO kv.2 y.2.2:=fun j b hj=>by
  obtain ⟨hjs,e⟩:=hG.pr j b hj
  have hjy:j < ys.length:=hes ▸ hjs
  have hjk:j < z3.length:=hl.symm ▸ hjy
  have e3:(ys.map (entryOfKey (tupleKind (mixKind X.prog X.w))))[j]?=some es[j]:=by rw [<- h4,q9,getElem?_eq_getElem hjs]
  rw [qI,qj hjy] at e3
  have e4:=qh e3
  obtain ⟨_,p2,p3⟩:=zci kt (qj hjk) (qj hjy)
  rw [<- e4] at e
  exact ⟨_,_,qj hjk,qj hjy,p2,znt (qP hj) e rfl p3,e,p3⟩
 have hin:∀ b o,nwT as h' b=some o->b∈as:=fun b o e=>by
  unfold nwT at e
  split at e
  ·assumption
  ·cases e
 have hp:nwT as h' s.heap.objs.size=none:=by
  cases e:nwT as h' s.heap.objs.size with
  | none=>rfl
  | some o=>exact absurd (hG.ab _ (hin _ _ e)) (lt_irrefl _)
 have hx:upd (addH H (nwT as h')) s.heap.objs.size (.lst (as.map .ref))=addH H (upd (nwT as h') s.heap.objs.size (.lst (as.map .ref))):=by
  funext b
  unfold addH
  by_cases hb:b=s.heap.objs.size
  ·subst hb; rw [zai,zai]; rfl
  ·rw [zag hb,zag hb]
 have hge:∀ b o,upd (nwT as h') s.heap.objs.size (.lst (as.map .ref)) b=some o->s.heap.objs.size<=b:=fun b o e=>by
  by_cases hb:b=s.heap.objs.size
  ·rw [hb]; exact zj _
  ·rw [zag hb] at e
   exact le_of_lt (hG.ab b (hin b o e))
 refine ⟨.ref s.heap.objs.size,_,Inv.many (N:=upd (nwT as h') s.heap.objs.size (.lst (as.map .ref))) I hk hge fun b o e=>?_,rfl,hx ▸ q (ys.map (·.2.1)) as (nwT as h') (by rw [qq,hl]) (by rw [hal,hes,hl]) (fun i b kv e1 e2=>?_) (fun b o e=>I.hok.fresh (le_of_lt (hG.ab b (hin b o e)))) (fun i c b kv e1 e2 e3=>?_) _ ?_⟩
 ·by_cases hb:b=s.heap.objs.size
  ·subst hb
   rw [zai] at e
   cases e
   refine ⟨by rw [qq,hal,hes,<- hl]; exact z,z7.toList,c,?_,by simpa using hS'⟩
   rw [hacc]
   refine zaQ (by simp) fun j y v e1 e2=>?_
   rw [qI] at e1 e2
   cases e3:as[j]? with
   | none=>rw [e3] at e1; cases e1
   | some b=>rw [e3] at e1 e2; cases e1; cases e2; rfl
  ·rw [zag hb] at e
   obtain ⟨j,hj⟩:=mem_iff_getElem?.mp (hin b o e)
   obtain ⟨kv,y,_,_,_,e1,e2,e3⟩:=key j b hj
   rw [e] at e1
   cases e1
   exact ⟨⟨by show 2<=sizeLine; rw [zt]; decide,fun o' e'=>by rw [e2] at e'; cases e'; rfl⟩,[_,_],.cons rfl (.cons e3 .nil),_,e2,rfl,_,rfl⟩
 ·rw [qI,q8] at e1
  obtain ⟨w,e3,rfl⟩:=e1
  exact (zci kt e2 e3).2.1
 ·obtain ⟨kv',y,g1,g2,_,g3,_⟩:=key i c e1
  rw [qI,g2] at e2
  rw [g1] at e3
  cases e2; cases e3
  exact g3
 ·unfold addH; rw [hp]; exact I.fresh
theorem zgu {F:Hp}:∀ (z3:List (List Key×V)) (bs as:List Addr) (ds:List D),bs.length=z3.length->as.length=z3.length->(∀ (i:Nat) (b:Addr) (kv:List Key×V),bs[i]?=some b->z3[i]?=some kv->F b=some (.tup (kv.1.map kV)))->
  (∀ (i:Nat) (c b:Addr) (kv:List Key×V),as[i]?=some c->bs[i]?=some b->z3[i]?=some kv->F c=some (.tup [.ref b,kv.2]))->(z3.map fun p=>D.tup (p.1.map keyD)).all isIT=true->zX K F (z3.map (·.2)) ds->zX K F (as.map V.ref) (zipD (z3.map fun p=>D.tup (p.1.map keyD)) ds)
 | [],[],[],[],_,_,_,_,_,_=>.nil
 | kv::z3,b::bs,c::as,ds,h1,h2,h3,h4,h5,h6=>by
   cases h6 with
   | cons r t=>
     rw [qB,all_cons,and_eq_true] at h5
     exact .cons (.tup (h4 0 c b kv rfl rfl rfl) (.cons (.tup (h3 0 b kv rfl rfl) (intKeys F kv.1 h5.1)) (.cons r .nil))) (zgu z3 bs as _ (Nat.succ.inj h1) (Nat.succ.inj h2) (fun i b' kv' e1 e2=>h3 (i + 1) b' kv' e1 e2) (fun i c' b' kv' e1 e2 e3=>h4 (i + 1) c' b' kv' e1 e2 e3) h5.2 t)
theorem zhU (ho:FE X o (zF j)) (hc:X.calm=true) (hg:Gl X "list") (hm:X.mg "list"=none) (hbase:attributeBase o "items" X.env (eval o X.env)=eval o X.env:=by rfl) (hline:(apos.endLine == cpos.line)=true:=by rfl)
  (he:starEach [.Call (.Attribute o "items" apos) [] [] cpos] X.env=(false,eval (.Call (.Attribute o "items" apos) [] [] cpos) X.env)::starEach [] X.env:=by rfl):
  FE X (.Call (.Name "list" p) [.Call (.Attribute o "items" apos) [] [] cpos] [] pos) (wListIt j):=fun pn xe hp=>by
 refine PE.imp (zcW (X:=wp X pn xe) (zfe hc) hg hm zcM (zea (zga (X:=wp X pn xe) (ho pn xe hp) hbase hline) zgm) (by decide) (by decide) he rfl) fun σ H Q q=>?_
 obtain ⟨F,G,U,P,PX,z4,hw,hok,hx⟩:=q
 have hw':(match slot U j with
  | some (.dct true ks l)=>(l.all S.isSh=true/\ks.all isIT=true/\ks.length<=big)/\P (.v (.lst ((zipD ks (l.map S.toD)).map .sh))) U
  | _=>False):=hw
 cases qs:slot U j with
 | none=>rw [qs] at hw'; exact hw'.elim
 | some s0=>
   rw [qs] at hw'
   match s0,qs,hw' with
   | .dct true ks l,qs,⟨⟨hl,hko,hz⟩,hk⟩=>
     refine ⟨F,G,U,fun y U1=>y=.loc j/\U1=U,PX,z4,by unfold zF; rw [qs]; exact ⟨rfl,rfl⟩,fun y U1 o' F1 H1 hk1 s1 r1 rv=>?_,hx⟩
     obtain ⟨rfl,rfl⟩:=hk1
     have hσ:σ[j]?=some (some o'):=rv
     have r2:=r1.drop (len1 r1)
     obtain ⟨v',fp,e1,sr⟩:=r2.at qs
     rw [hσ] at e1
     have e2:o'=v':=by simpa using e1
     subst e2
     cases sr with
     | @dT a z3 _ _ fl hD hks rl=>
       obtain ⟨rp,_⟩:=rl.sh hl
       subst hks
       refine ⟨a,z3,rfl,.inl hD,fun v hv=>?_⟩
       have hva:v≠a:=fun z=>by rw [z,hD] at hv; cases hv
       have r3:=r2.newX (u:=.ext (vwφ v a)) hv
       refine ⟨v,a,z3,rfl,zai,.inl (by rw [zag (Ne.symm hva)]; exact hD),fun bs as N hb1 hb2 hb3 hN hN2 p hp2=>?_⟩
       obtain ⟨F2,sm,r4,hF⟩:=r3.growT bs fun b hb'=>by
        obtain ⟨i,hi⟩:=mem_iff_getElem?.mp hb'
        have hlt:=(qi.mp hi).1
        exact ⟨_,hb3 i b z3[i] hi (qj (hb1 ▸ hlt))⟩
       obtain ⟨sm2,r5⟩:=r4.many hN
       have hFN:∀ b ob,F2 b=some ob->addH F2 N b=some ob:=fun b ob e=>sm2 b ob e
       have hrep:zX X.K (addH F2 N) (as.map V.ref) (zipD (z3.map fun p=>D.tup (p.1.map keyD)) (l.map S.toD)):=zgu z3 bs as _ hb1 hb2 (fun i b kv e1 e2=>hFN b _ ((hF b (qP e1)).trans (hb3 i b kv e1 e2))) (fun i c b kv e1 e2 e3=>by unfold addH; rw [hN2 i c b kv e1 e2 e3]; rfl) hko ((rp.mono sm).mono sm2)
       exact hok _ _ _ _ _ hk (s1.trans (sm.trans sm2)) (r5.newLD hp2 hrep) trivial
theorem Rel.frzT (r:Rel K U σ F G H) (hs:slot U j=some (.dct true ks l)) (hl:l.all S.isSh=true):
  ∃ a z3,σ[j]?=some (some (.ref a))/\H a=some (.dT z3)/\ks=z3.map (fun p=>D.tup (p.1.map keyD))/\zX K F (z3.map (·.2)) (l.map S.toD)/\F a=none/\
    ∀ o,Rel K (U.set j (some (.sh (.dct true ks (l.map S.toD))))) σ (upd F a (.frz o (.dT z3))) G (upd H a (.frz o (.dT z3))):=by
 obtain ⟨fp,e,nd,ap⟩:=r.en
 obtain ⟨v',fa,fi,fb,e1,rfl,q,up⟩:=e.at hs
 cases q with
 | @dT a z3 _ _ fl hD hks rl=>
   obtain ⟨rp,rfl⟩:=rl.sh hl
   obtain ⟨na,nib,nab⟩:=qz.mp nd
   obtain ⟨ni,nb,nib⟩:=qz.mp nib
   have hDa:a∉fa:=fun z=>nab a z a (qm _ qp) rfl
   have hDb:a∉fb:=fun z=>nib a qp a z rfl
   have apD:=ap a (qk _ (qm _ qp))
   refine ⟨a,z3,e1,hD,hks,rp,apD.1,fun o=>?_⟩
   have sm:zK F (upd F a (.frz o (.dT z3))):=zK.upd apD.1
   have a2:=up (F':=upd F a (.frz o (.dT z3))) (H':=upd H a (.frz o (.dT z3))) (o:=some (.sh (.dct true ks (l.map S.toD)))) (u:=some (.ref a)) sm (fun x hx=>zag fun z=>(qA.mp hx).elim (fun w=>hDa (z ▸ w)) fun w=>hDb (z ▸ w)) (.so (.sh (.dT (.inr ⟨o,zai⟩) hks (rp.mono sm))) .nil)
   rw [zcp e1] at a2
   refine ⟨zK.upd2 r.fr,fun x u w=>?_,_,a2,?_,fun x hx=>?_⟩
   ·have hx:x≠a:=fun z=>by rw [z,apD.2] at w; cases w
    rw [zag hx,zag hx]
    exact r.gr x u w
   ·have:(fa++([]++[]++fb)).Sublist (fa++([a]++fb)):=by simp
    exact this.nodup nd
   ·have hm:x∈fa\/x∈fb:=by simpa using hx
    have hne:x≠a:=fun z=>hm.elim (fun w=>hDa (z ▸ w)) fun w=>hDb (z ▸ w)
    rw [zag hne]
    exact ap x (hm.elim (fun w=>qm _ w) fun w=>qk _ (qk _ w))
end
def ItdT (a:Addr) (o:Obj) (z3:List (List Key×V)):It:=⟨fun i H=>H a=some (.frz o (.dT z3))/\i < z3.length,fun i H x H'=>∃ q b p,H q=none/\z3[i]?=some p/\H b=some (.tup (p.1.map kV))/\x=.ref q/\H'=upd H q (.tup [.ref b,p.2]),fun i H=>H a=some (.frz o (.dT z3))/\z3.length<=i⟩
theorem zir {z3:List (List Key×V)} (ok:HOk P w H h) (hH:H a=some (.frz o (.dT z3))) (hd:o.data=.dict es ep):∃ ys,ST.RawD h a es ep/\KT H z3 ys/\es.toList=ys.map (entryOfKey (tupleKind (mixKind P w)))/\es.size=z3.length:=by
 obtain ⟨ys,es',ep',⟨o',h1,h2,h3⟩,kt,h4,_⟩:=zhz ok (.inr ⟨o,hH⟩)
 obtain ⟨h0,_⟩:=(show zY P w H h a (.frz o (.dT z3)) from ok a _ hH)
 rw [h0] at h1
 cases h1
 rw [hd] at h3
 cases h3
 exact ⟨ys,⟨o,h0,h2,hd⟩,kt,h4,by rw [<- qY,h4,qq,<- Paired.length kt]⟩
theorem zfx {P:Program} {w:World} {K:W.Frag} {a it:Addr} {o:Obj} {z3:List (List Key×V)} {es:Array DictEntry} {ep:Nat} {elts:List Expr} {k:Nat} {pos:Pos} (hd:o.data=.dict es ep):
  Turn P w K (.Tuple elts k pos) (ItdT a o z3) [it] it (fun i h=>∃ ok ov,IsItemIter h it a i z3.length ep ok ov) where
 mem:=m1
 obj:=fun i h st b hb=>by
  obtain ⟨ok,ov,q⟩:=st
  have e:b=it:=by simpa using hb
  subst e
  exact ⟨_,q,fun v z=>by cases z⟩
 keep:=fun i h h' st kk=>by
  obtain ⟨ok,ov,q⟩:=st
  exact ⟨ok,ov,kk it (m1) _ q⟩
 item:=by
  intro X hP hw hK hc i zZ s σ H E I hf st hg
  subst hP hw hK
  refine cps fun _ kk=>?_
  obtain ⟨ok,ov,q⟩:=st
  obtain ⟨hH,hi⟩:=hg
  obtain ⟨ys,raw,kt,h4,hes⟩:=zir I.hok hH hd
  have hjs:i < es.size:=hes ▸ hi
  have hl:=Paired.length kt
  have hjy:i < ys.length:=hl ▸ hi
  have e3:(ys.map (entryOfKey (tupleKind (mixKind X.prog X.w))))[i]?=some es[i]:=by rw [<- h4,q9,getElem?_eq_getElem hjs]
  rw [qI,qj hjy] at e3
  have e4:=qh e3
  obtain ⟨_,p2,p3⟩:=zci kt (qj hi) (qj hjy)
  refine kk ?_
  have hil:it < s.heap.objs.size:=qg q
  rw [<- hes] at q
  refine ST.pair_both (I.ok.hd hc) q (.inl ⟨rfl,rfl⟩) raw (fun _ h1 a1 oa f' ok' ov' hit ha hai hx _ hT hk=>?_) fun z=>absurd hjs (not_lt.mpr z)
  obtain ⟨rfl,rfl⟩:=hx rfl
  refine ⟨_,rfl,wpAny_letOwnedTupleGo_items hit fun h2 he2 sb=>?_⟩
  have ne:s.heap.objs.size≠it:=ne_of_gt hil
  rw [<- e4] at hT
  have I2:Inv X zZ σ (upd H s.heap.objs.size (.tup [.ref ys[i].2.1,z3[i].2])) { s with heap:=h2 }:=zbA I (t':=s.toks) (ch:=[it]) (us:=[.ref ys[i].2.1,ys[i].2.2]) hf (fun b hb=>by rw [qw.mp hb]; exact hil) (by show 2<=_; decide) (.cons rfl (.cons p3 .nil)) ⟨_,sb.extBut _ _ ne hT,rfl,rfl,_,rfl⟩ fun b u hb z=>by
   have hb':b≠it:=by simpa using hb
   exact sb.extBut _ _ hb' (hk b u hb' z)
  refine ⟨.ref s.heap.objs.size,_,I2,rfl,⟨s.heap.objs.size,_,z3[i],I.hok.fresh (zj _),qj hi,p2,rfl,rfl⟩,⟨_,_,by rw [<- hes]; exact he2⟩,fun b hb=>?_⟩
  rw [qw.mp hb,zag (ne_of_lt hil)]
  exact (hf it (m1)).1
 done:=by
  intro X hP hw hK hc i zZ s σ H E I hf st hg
  subst hP hw hK
  obtain ⟨ok,ov,q⟩:=st
  obtain ⟨hH,hi⟩:=hg
  obtain ⟨ys,raw,kt,h4,hes⟩:=zir I.hok hH hd
  rw [<- hes] at q
  exact ST.pair_both (I.ok.hd hc) q (.inl ⟨rfl,rfl⟩) raw (fun z=>absurd hi (Nat.not_le.mpr (hes ▸ z))) fun _ h' hx=>⟨rfl,za0 I (t':=s.toks) (ch:=[it]) hf fun b u hb z=>hx b u (by simpa using hb) z⟩
 self:=fun A i s Q E st h=>by
  obtain ⟨ok,ov,q⟩:=st
  have ty:s.TypeIs (.ref it) "dict_itemiterator":=⟨_,q,rfl⟩
  refine wpAny_pyIter_slot ty F.slot_dict_itemiterator_iter (zr F.slot_dict_itemiterator_iter ty zmk ?_ (F.args_dict_itemiterator_iter_1 _))
  show wpAny _ _ (ret (.ref it)) _ _ s
  exact qb ⟨_,rfl,"dict_itemiterator",_,ty,F.slot_dict_itemiterator_next.lookup,h⟩
def iItemsT (tl:TE):TI:=fun σ H R=>tItems tl σ H fun v H1=>∃ b a z3,v=.ref b/\H1 b=some (.ext (vwφ b a))/\H1 a=some (.dT z3)/\∀ o,R (ItdT a o z3) (upd H1 a (.frz o (.dT z3)))
theorem zhB (hl:PE X o tl) (hbase:attributeBase o "items" X.env (eval o X.env)=eval o X.env:=by rfl) (hline:(apos.endLine == cpos.line)=true:=by rfl):PI X (.Tuple elts kk tpos) (.Call (.Attribute o "items" apos) [] [] cpos) (iItemsT tl):=by
 intro zZ s σ H R I h
 refine thn (zga hl hbase hline zZ s σ H _ I h) fun v s1 zq=>?_
 refine cps fun _ kk=>?_
 obtain ⟨x,H1,I1,rx,b,a,z3,ex,hb,hH,q⟩:=zq
 subst ex
 obtain rfl:v=Value.ref b:=rx
 obtain ⟨hvw,_⟩:=(show zY X.prog X.w H1 s1.heap b (.ext (vwφ b a)) from I1.hok b _ hb)
 obtain ⟨z,hm,xs,z4,ob,es,ep,g1,g2,g3,g4,g5⟩:=(show zY X.prog X.w H1 s1.heap a (.dT z3) from I1.hok a _ hH)
 refine kk ?_
 have hes:es.size=z3.length:=by rw [<- qY,g4,qq,<- Paired.length z4]
 refine ST.pair_iter hvw ⟨ob,g1,g2,g3⟩ ?_
 have hle:=zj s1.heap.objs.size
 have hfr:=I1.fpOk hle (I1.hok.fresh hle)
 have hne:s1.heap.objs.size≠a:=fun z=>by rw [<- z] at hH; rw [hfr.1] at hH; cases hH
 generalize hh:s1.heap.push (ST.itP0 a es.size ep)=h2
 have kp:∀ b w,s1.heap.get? b=some w->h2.get? b=some w:=fun b w e=>by rw [<- hh]; exact qc _ e
 have I2:Inv X zZ σ H1 { s1 with heap:=h2 }:=I1.kept (t':=s1.toks) kp
 have hok2:=I2.hok a _ hH
 have I3:Inv X zZ σ (upd H1 a (.frz ob (.dT z3))) { s1 with heap:=h2 }:=I2.write (t':=s1.toks) (x:=a) (e:=a) (o:=.frz ob (.dT z3)) (by rw [hH]; exact True.intro) (.inl rfl) (fun _ _ _ z=>z) ⟨ob,kp _ _ g1⟩ ⟨kp _ _ g1,hok2.stay (fun _ _ _ z=>z) (fun c e=>by rw [zag (fun z=>by rw [z,hH] at e; cases e)]; exact e) fun c xs e=>by rw [zag (fun z=>by rw [z,hH] at e; cases e)]; exact e⟩
 refine ⟨s1.heap.objs.size,[s1.heap.objs.size],_,_,_,rfl,I3,zfx (z3:=z3) g3,⟨.none,.none,?_⟩,fun b hb=>?_,q ob⟩
 ·rw [<- hh,<- hes]
  exact qd _ rfl
 ·rw [qw.mp hb]
  exact zfX hfr hne
theorem zfn {K:W.Frag} (e:F0 a=some (.frz ob (.dT z3))) (hk:ks=z3.map fun p=>D.tup (p.1.map keyD)) (r:zX K F0 (z3.map (·.2)) ds) (hs:ks.all isIT=true):ItOk K (ItdT a ob z3) (zipD ks ds) F0:=fun i U σ F G H sm z4=>by
 have e':H a=some (.frz ob (.dT z3)):=(sm.trans z4.fr) _ _ e
 have hl:=r.len
 refine ⟨fun d hd=>?_,fun h=>⟨e',?_⟩⟩
 ·obtain ⟨k,v,h1,h2,rfl⟩:=zd1 ks ds i d hd
  obtain ⟨y,hy,ry⟩:=r.get h2
  have hi:i < z3.length:=by
   have:=(qi.mp hy).1
   simpa using this
  refine ⟨⟨e',hi⟩,fun x H' zq=>?_⟩
  obtain ⟨q,b,p,hq,hp,hb,ex,eH⟩:=zq
  subst ex eH
  obtain ⟨F1,s1,r1,hF⟩:=z4.growT [b] fun c hc=>by rw [qw.mp hc]; exact ⟨_,hb⟩
  obtain ⟨f0,_,_⟩:=r1.free hq
  have hpy:p.2=y:=by rw [qI,hp] at hy; exact qh hy
  have hpk:D.tup (p.1.map keyD)=k:=by rw [hk,qI,hp] at h1; exact qh h1
  have hit:isIT k=true:=qL.mp hs _ (qP h1)
  subst hpk
  subst hpy
  have sF:zK F1 (upd F1 q (.tup [.ref b,p.2])):=zK.upd f0
  refine ⟨upd F1 q (.tup [.ref b,p.2]),s1.trans sF,r1.newF hq,.tup (xs:=[.ref b,p.2]) zai (.cons (.tup (sF b _ ((hF b (qw.mpr rfl)).trans hb)) (intKeys _ p.1 hit)) (.cons (((ry.mono sm).mono s1).mono sF) .nil))⟩
 ·rw [zdG,hk] at h
  simp at h hl
  lia
theorem zja (ho:FE X o (zF j)) (hbase:attributeBase o "items" X.env (eval o X.env)=eval o X.env:=by rfl) (hline:(apos.endLine == cpos.line)=true:=by rfl):
  FI X (.Tuple elts kk tpos) (.Call (.Attribute o "items" apos) [] [] cpos) (wItemsT j):=fun pn xe hp=>by
 refine PI.imp (zhB (X:=wp X pn xe) (ho pn xe hp) hbase hline) fun σ H R q=>?_
 obtain ⟨F,G,U,P,PX,z4,hw,hok,hx⟩:=q
 cases qs:slot U j with
 | none=>unfold wItemsT at hw; rw [qs] at hw; exact hw.elim
 | some s0=>
   unfold wItemsT at hw
   rw [qs] at hw
   match s0,qs,hw with
   | .dct true ks l,qs,⟨hl,hko,hw⟩=>
     refine ⟨F,G,U,fun y U1=>y=.loc j/\U1=U,PX,z4,by unfold zF; rw [qs]; exact ⟨rfl,rfl⟩,fun y U1 o' F1 H1 hk s1 r1 rv=>?_,hx⟩
     obtain ⟨rfl,rfl⟩:=hk
     have hσ:σ[j]?=some (some o'):=rv
     have r2:=r1.drop (len1 r1)
     obtain ⟨a,z3,e1,hH,hks,_⟩:=Rel.frzT r2 qs hl
     rw [hσ] at e1
     have e2:o'=.ref a:=by simpa using e1
     subst e2
     refine ⟨a,z3,rfl,.inl hH,fun v hv=>?_⟩
     have hva:v≠a:=fun z=>by rw [z,hH] at hv; cases hv
     obtain ⟨a',kvs',e1',hH',hks',rp,hF,fz⟩:=Rel.frzT (r2.newX hv) qs hl
     rw [hσ] at e1'
     cases e1'
     rw [zag (Ne.symm hva),hH] at hH'
     cases hH'
     exact ⟨v,a,z3,rfl,zai,by rw [zag (Ne.symm hva)]; exact hH,fun ob=>hok _ _ _ _ _ hw (s1.trans (zK.upd hF)) (fz ob) (zfn zai hks (rp.mono (zK.upd hF)) hko)⟩
theorem zm0 (ha:FE X a wa) (hb:FE X b wb):FE X (.BinOp a .LShift b pos) (zQ oShl wa wb):=zbU (fun _ _=>zmR) (zbd fun p q s e=>by
 unfold oShl at e
 split at e
 ·split at e
  ·rename_i h; cases e; exact ⟨_,_,rfl,rfl,⟨h.1,by lia,h.2.2⟩,rfl⟩
  ·cases e
 ·cases e) ha hb
theorem zoO (ha:FE X a wa) (hb:FE X b wb):FE X (.BinOp a .RShift b pos) (zQ oShr wa wb):=zbU (fun _ _=>znv) (zbd fun p q s e=>by
 unfold oShr at e
 split at e
 ·split at e
  ·rename_i h; cases e; exact ⟨_,_,rfl,rfl,h,rfl⟩
  ·cases e
 ·cases e) ha hb
theorem zlk (ha:FE X a wa) (hb:FE X b wb):FE X (.BinOp a .BitAnd b pos) (zQ oAnd1 wa wb):=zbU (fun _ _=>zmS) (fun {σ U F G H x y p q s Q} z4 ex ey e hq=>by
 unfold oAnd1 at e
 split at e
 ·split at e
  ·rename_i i j h
   cases e
   have h1:=ex.int
   have h2:=ey.int
   subst h1 h2
   obtain ⟨h0,rfl⟩:=h
   refine ⟨i,1,rfl,rfl,?_⟩
   have e:Builtin.bitAnd i 1=i % 2:=by
    obtain ⟨n,rfl⟩:=Int.eq_ofNat_of_zero_le h0
    show ((n &&& 1:Nat):Int)=(n:Int) % 2
    rw [Nat.and_one_is_mod]; rfl
   show Q (.int (Builtin.bitAnd i 1)) H
   rw [e]
   exact hq _ F H (zK.refl F) (z4.push (.int _))
  ·cases e
 ·cases e) ha hb
open PySem.SeqAt AutoSeq1
def LtAt (A:Around) (s:Shared) (y x:Value) (b:Bool):Prop:=
 ∀ (prog:Program) (w:World) (E:zz) (Q:zz),Q (.bool b) s->wpAny (model prog w) A (richCompare .Lt y x) Q E s
open Classical in
def LexOk (A:Around) (s:Shared):List Value->List Value->List D->List D->Prop
 | v::vs,w::ws,d::ds,e::es=>(like d e=true/\EqAt A s v w (decide (d=e))/\LtAt A s v w (decide (cmpD d e=.lt)))/\LexOk A s vs ws ds es
 | [],ws,[],es=>ws.length=es.length
 | _::_,[],_::_,[]=>True
 | _,_,_,_=>False
def cmpI:cmpD (.int i) (.int j)=if i < j then .lt else if j < i then .gt else .eq:=rfl
mutual
theorem zfP:∀ (d:D),like d d=true->cmpD d d=.eq
 | .int i,_=>by rw [cmpI,zi (Int.lt_irrefl i),zi (Int.lt_irrefl i)]
 | .tup l,h=>ze4 l h
 | .non,h | .bl _,h | .str _,h | .lst _,h | .dct ..,h | .set _,h | .exc ..,h=>by cases h
theorem ze4:∀ (l:List D),likes l l=true->cmpDs l l=.eq
 | [],_=>by rw [cmpDs]
 | d::l,h=>by
   rw [likes,and_eq_true] at h
   rw [cmpDs,zfP d h.1]
   exact ze4 l h.2
end
mutual
theorem zk4:∀ (d e:D),like d e=true->cmpD d e=.eq->d=e
 | .int i,e,h,c=>by
   cases e with
   | int j=>
     rw [cmpI] at c
     split at c
     ·cases c
     ·split at c
      ·cases c
      ·rw [show i=j by lia]
   | _=>cases h
 | .tup l,e,h,c=>by
   cases e with
   | tup m=>
     rw [ziR l m h c]
   | _=>cases h
 | .non,_,h,_ | .bl _,_,h,_ | .str _,_,h,_ | .lst _,_,h,_ | .dct ..,_,h,_ | .set _,_,h,_ | .exc ..,_,h,_=>by cases h
theorem ziR:∀ (l m:List D),likes l m=true->cmpDs l m=.eq->l=m
 | [],[],_,_=>rfl
 | [],_::_,_,c=>by rw [cmpDs] at c; cases c
 | _::_,[],_,c=>by rw [cmpDs] at c; cases c
 | d::l,e::m,h,c=>by
   rw [likes,and_eq_true] at h
   rw [cmpDs] at c
   cases q:cmpD d e with
   | eq=>
     rw [q] at c
     rw [zk4 d e h.1 q,ziR l m h.2 c]
   | lt=>rw [q] at c; cases c
   | gt=>rw [q] at c; cases c
end
mutual
theorem zdz:∀ (d e:D),like d e=true->clash d e=false
 | .int i,e,h=>by cases e <;> first | rfl | cases h
 | .tup l,e,h=>by
   cases e with
   | tup m=>exact zcJ l m h
   | _=>cases h
 | .non,_,h | .bl _,_,h | .str _,_,h | .lst _,_,h | .dct ..,_,h | .set _,_,h | .exc ..,_,h=>by cases h
theorem zcJ:∀ (l m:List D),likes l m=true->clashs l m=false
 | [],[],_=>rfl
 | [],_::_,_=>rfl
 | _::_,[],_=>rfl
 | d::l,e::m,h=>by
   rw [likes,and_eq_true] at h
   show (clash d e || clashs l m)=false
   rw [zdz d e h.1,zcJ l m h.2]; rfl
end
open Classical in
theorem zhd (l b:Addr) (items items2:Array Value) (n n2:Nat) (dd dd2:Option Addr) (sl sl2:Array (Option Value)) (ds es:List D) (z1:items.size=ds.length) (z2:items2.size=es.length):
  Meets (Builtin.«tuple.__lt__» ⟨[.ref l,.ref b],[]⟩)
   (fun A R s=>s.heap.get? l=some { cls:=.type "tuple",dict:=dd,data:=.seq items n,slots:=sl }/\s.heap.get? b=some { cls:=.type "tuple",dict:=dd2,data:=.seq items2 n2,slots:=sl2 }/\
    LexOk A.in1 s items.toList items2.toList ds es/\R (.ok (.ret (.bool (decide (cmpDs ds es=.lt))))) s):=
 .of_wp fun prog w A R s h=>by
  obtain ⟨hp,g,d,tk,os⟩:=s; obtain ⟨hl,hb,hL,h⟩:=h
  have f2:=AutoSeq1.sub_tuple_tuple
  wp_walk using wpAny_loadPart' hl,wpAny_loadPart' hb,wpAny_forIn_list _ (fun rest b s'=>b.1=none/\s'=⟨hp,g,d,tk,os⟩/\∃ (vs ws:List Value) (ds' es':List D),rest=vs.zip ws/\
   LexOk A.in1 ⟨hp,g,d,tk,os⟩ vs ws ds' es'/\ds'.length + items2.size=es'.length + items.size/\R (.ok (.ret (.bool (decide (cmpDs ds' es'=.lt))))) ⟨hp,g,d,tk,os⟩) _
  case turn=>
   rintro ⟨y,x⟩ rest b s' ⟨hb',rfl,vs,ws,ds',es',hz,hL,z5,hR⟩
   rcases vs with _ | ⟨v,vs⟩
   ·rw [List.zip_nil_left] at hz; cases hz
   ·rcases ws with _ | ⟨w',ws⟩
    ·rw [List.zip_nil_right] at hz; cases hz
    rcases ds' with _ | ⟨d1,ds'⟩
    ·exact hL.elim
    rcases es' with _ | ⟨e1,es'⟩
    ·exact hL.elim
    rw [List.zip_cons_cons] at hz
    injection hz with hyx hrest
    injection hyx with hy hx
    subst hy hx
    obtain ⟨⟨hk,he,ht⟩,hL⟩:=hL
    simp only [qv] at z5
    refine qa (he prog w _ _ ?_)
    rw [cmpDs] at hR
    by_cases q:d1=e1
    ·subst q
     rw [zfP d1 hk] at hR
     simp only [decide_true]
     wp_walk
     exact ⟨rfl,rfl,_,_,_,_,hrest,hL,by lia,hR⟩
    ·simp only [qV q]
     have hR2:R (.ok (.ret (.bool (decide (cmpD d1 e1=.lt))))) ⟨hp,g,d,tk,os⟩:=by
      cases q2:cmpD d1 e1 with
      | eq=>exact absurd (zk4 d1 e1 hk q2) q
      | lt=>rw [q2] at hR; exact hR
      | gt=>rw [q2] at hR; exact hR
     have hri:∀ (E Q:zz),Q (.bool (decide (cmpD d1 e1=.lt))) ⟨hp,g,d,tk,os⟩->wpAny (model prog w) A.in1 (richCompare .Lt y x) Q E ⟨hp,g,d,tk,os⟩:=fun E Q h=>ht prog w E Q h
     wp_walk using hri
     exact ⟨_,rfl,hR2⟩
  case fin=>
   rintro ⟨b1,b2⟩ s' ⟨hb',rfl,vs,ws,ds',es',hz,hL,z5,hR⟩
   simp only at hb'
   subst hb'
   have hv:decide (cmpDs ds' es'=.lt)=decide (items.size < items2.size):=by
    clear hR
    rcases vs with _ | ⟨v,vs⟩
    ·rcases ds' with _ | ⟨d1,ds'⟩
     ·have hL:ws.length=es'.length:=hL
      rcases es' with _ | ⟨e1,es'⟩
      ·simp at z5; rw [cmpDs,z5]; simp
      ·rw [cmpDs,qU rfl,qU (by simp at z5; lia)]
     ·cases ws <;> exact hL.elim
    ·rcases ws with _ | ⟨w',ws⟩
     ·rcases ds' with _ | ⟨d1,ds'⟩
      ·exact hL.elim
      ·rcases es' with _ | ⟨e1,es'⟩
       ·rw [cmpDs,qV (by decide),qV (by simp at z5; lia)]
       ·exact hL.elim
     ·rw [List.zip_cons_cons] at hz; cases hz
   rw [hv] at hR
   wp_walk
   exact ⟨_,rfl,by simpa [Builtin.Tuple.tupleCompareSizes] using hR⟩
  case h=>
   exact ⟨rfl,rfl,items.toList,items2.toList,ds,es,rfl,hL,by lia,h⟩
section
variable {X:Cx}
theorem zkA {A:Around} (hE:∀ {v u:V} {vv uu:Value} {d e:D},Rep X.K H v d->Rep X.K H u e->zO v vv->zO u uu->dep d<=n->like d e=true->EqAt A s vv uu (open Classical in decide (d=e))/\LtAt A s vv uu (decide (cmpD d e=.lt))):
  ∀ {xs ys:List V} {us ws:List Value} {l m:List D},zX X.K H xs l->zX X.K H ys m->zW xs us->zW ys ws->deps l<=n->likes l m=true->LexOk A s us ws l m:=by
 intro xs
 induction xs with
 | nil=>
   intro ys us ws l m r1 r2 w1 w2 _ _
   cases r1; cases w1
   exact w2.length.symm.trans r2.len
 | cons x xs ih=>
   intro ys us ws l m r1 r2 w1 w2 hd hk
   cases r1 with
   | cons a1 b1=>
     cases w1 with
     | cons c1 d1=>
       cases r2 with
       | nil=>cases w2; exact trivial
       | cons a2 b2=>
         cases w2 with
         | cons c2 d2=>
           rw [likes,and_eq_true] at hk
           rw [deps] at hd
           obtain ⟨h1,h2⟩:=hE a1 a2 c1 c2 (le_trans (Nat.le_max_left _ _) hd) hk.1
           exact ⟨⟨hk.1,h1,h2⟩,ih b1 b2 d1 d2 (le_trans (Nat.le_max_right _ _) hd) hk.2⟩
theorem zjn {A:Around} {v u:V} {vv uu:Value} {i:Int} {e:D} (r1:Rep X.K H v (.int i)) (r2:Rep X.K H u e) (rv:zO v vv) (ru:zO u uu) (hc:like (.int i) e=true):LtAt A s vv uu (decide (cmpD (.int i) e=.lt)):=by
 cases e with
 | int j=>
   cases r1; cases r2
   obtain ⟨t,rfl⟩:=rv
   obtain ⟨t',rfl⟩:=ru
   intro prog w E Q hq
   refine HT.rcLt_int A s i t j t' prog w E Q ?_
   have:decide (cmpD (.int i) (.int j)=.lt)=decide (i < j):=by
    rw [cmpI]
    split
    ·simp [*]
    ·split <;> simp [*]
   rwa [this] at hq
 | _=>cases hc
theorem zmY:∀ (n:Nat) {A:Around} {v u:V} {vv uu:Value} {d e:D},dep d<=n->Inv X zZ σ H s->Rep X.K H v d->Rep X.K H u e->zO v vv->zO u uu->like d e=true->A.units + n < cLine->LtAt A s vv uu (decide (cmpD d e=.lt)):=by
 intro n
 induction n with
 | zero=>
   intro A v u vv uu d e hd I r1 r2 rv ru hc hu
   cases d with
   | int i=>exact zjn r1 r2 rv ru hc
   | tup l=>exact absurd hd (by show ¬ deps l + 1<=0; lia)
   | _=>cases hc
 | succ n ih=>
   intro A v u vv uu d e hd I r1 r2 rv ru hc hu
   cases d with
   | int i=>exact zjn r1 r2 rv ru hc
   | tup l=>
     cases e with
     | tup m=>
       cases r1 with
       | tup e1 q1=>
         cases r2 with
         | tup e2 q2=>
           cases rv
           cases ru
           obtain ⟨z6,w1,⟨⟨c1,d1,dt1,sl1⟩,o1,rfl,k1,rfl⟩,_⟩:=I.tuple (SqT.of e1)
           obtain ⟨its2,w2,⟨⟨c2,d2,dt2,sl2⟩,o2,rfl,k2,rfl⟩,_⟩:=I.tuple (SqT.of e2)
           have hdl:deps l<=n:=by have:deps l + 1<=n + 1:=hd; lia
           have hin:A.in1.units + n < cLine:=by show A.units + 1 + n < cLine; lia
           intro prog w E Q hq
           refine richCompare_meets_room (op:=.Lt) ⟨_,o1,rfl⟩ ⟨_,o2,rfl⟩ PySem.F.slot_tuple_lt PySem.F.entry_tuple_lt (PySem.F.args_tuple_lt_2 _ _) (zhd _ _ z6.toArray its2.toArray k1 k2 d1 d2 sl1 sl2 l m (by rw [qu,<- w1.length,q1.len]) (by rw [qu,<- w2.length,q2.len]))
            ⟨o1,o2,zkA (n:=n) (fun a1 a2 a3 a4 a5 a6=>⟨(zjL n a5 I a1 a2 a3 a4 (zdz _ _ a6) hin).1,ih a5 I a1 a2 a3 a4 a6 hin⟩) q1 q2 w1 w2 hdl hc,(fun x=>nomatch x),?_⟩ (by lia)
           exact hq
     | _=>cases hc
   | _=>cases hc
def rLtN (K:W.Frag):R2:=fun x y H Q=>∃ p q,Rep K H x p/\Rep K H y q/\like p q=true/\dep p<=9/\Q (.bl (decide (cmpD p q=.lt))) H
theorem zk3 (hu:X.A.units + 31 < cLine):OpR X (compareOp .Lt) (rLtN X.K):=by
 intro zZ s σ H x y v u Q I rx ry h
 obtain ⟨p,q,r1,r2,hc,hd,hq⟩:=h
 exact zmY 9 hd I r1 r2 rx ry hc (by lia) X.prog X.w X.xe _ ⟨.bl _,H,I,rfl,hq⟩
theorem zfV {K:W.Frag}:DoesC K (rLtN K) cLtT:=by
 intro H x y p q k Q r1 r2 e hq
 unfold cLtT at e
 split at e
 ·rename_i h
  cases e
  exact ⟨p,q,r1,r2,h.1,h.2,hq⟩
 ·cases e
end
section
variable {R:Result->Shared->Prop} {St:Nat->Heap->Prop} {s:Shared}
theorem zh7 (W:Walks prog w A.in1 I fp wr n P St) (S:Addr) (hSf:S∉fp) (kw:List (Str×Value)) (bt:Nat->Nat->Bool) (J:Heap->Prop) (hJ:∀ h h',J h->(∀ b o,b∉wr->b≠S->h.get? b=some o->h'.get? b=some o)->J h')
  (hcmp:∀ i j vi vj h tk (Q E:zz),P i vi->P j vj->J h->Q (.bool (bt i j)) { s with heap:=h,toks:=tk }->wpAny (model prog w) A.in1 (richCompare .Lt vi vj) Q E { s with heap:=h,toks:=tk })
  (hR:∀ v h' tk,P (argBest bt (n - 1)) v->J h'->R (.ok (.ret v)) { s with heap:=h',toks:=tk }):
  ∀ (k j:Nat) (h:Heap) (tk:Nat) (vb:Value) (c:Nat),n - (j + 1)=k->j + 1<=n->J h->St (j + 1) h->P (argBest bt j) vb->h.get? S=some { cls:=.type "list",dict:=none,data:=.seq #[vb,vb] c,slots:=#[] }->
  codeAny (model prog w) A (.builtin "min.loop" ⟨[.ref I,.none,.ref S],kw⟩) R { s with heap:=h,toks:=tk }:=by
 have hSw:S∉wr:=fun h=>hSf (W.sub _ h)
 have hname:(toString "min"++toString ".loop":String)="min.loop":=by decide
 have fr:∀ {b:Addr},b∈fp->S≠b:=fun hb h=>hSf (h ▸ hb)
 intro k
 induction k with
 | zero=>
   intro j h tk vb c hk hj hJh hst hPb hS
   have hin:j + 1=n:=by lia
   refine codeAny_builtin F.entry_min_loop ?_
   rw [Around.under_plainId F.plain_min_loop _]
   refine qa (m:=seqItems? (.ref S)) (wpAny_seqItems hS rfl (qa (m:=tryCatch (pyNext (.ref I)) _) (wpAny_tryCatch (W.done _ _ _ (hin ▸ hst) fun h' tk' hk'=>?_))))
   refine qa (m:=updateSeq S fun _=>#[]) (wpAny_updateSeq (hk' S _ hSw hS) rfl (qa (wpAny_letGo (qb ?_))))
   exact hR vb _ tk' (by rw [<- hin]; exact hPb) (hJ _ _ hJh fun b o hb hbS e=>(zk _ _ (Ne.symm hbS)).trans (hk' b o hb e))
 | succ k ih=>
   intro j h tk vb c hk hj hJh hst hPb hS
   have hlt:j + 1 < n:=by lia
   refine codeAny_builtin F.entry_min_loop ?_
   rw [Around.under_plainId F.plain_min_loop _]
   refine qa (m:=seqItems? (.ref S)) (wpAny_seqItems hS rfl (qa (m:=tryCatch (pyNext (.ref I)) _) (wpAny_tryCatch (W.item (j + 1) _ _ _ hlt hst fun v h' tk' hP hst' hk'=>?_))))
   have hS':=hk' S _ hSw hS
   have hJ':=hJ _ _ hJh fun b o hb _ e=>hk' b o hb e
   refine qa (m:=tryCatch (holding [v,v] (richCompare .Lt v vb >>= _)) _) (wpAny_tryCatch (zv (qa (hcmp (j + 1) (argBest bt j) v vb _ _ _ _ hP hPb hJ' ?_))))
   refine qa (zv (wpAny_truthy_bool (qa (wpAny_letGo (qb ?_)))))
   cases hb:bt (j + 1) (argBest bt j) with
   | true=>
     simp only [if_true]
     refine qa (wpAny_updateSeq (s:={ s with heap:=_,toks:=_ }) hS' rfl (qa (wpAny_letGo ?_)))
     rw [hname]
     exact qb ⟨plainId_quiet F.plain_min_loop _,ih (j + 1) _ _ v _ (by lia) hlt (hJ _ _ hJ' fun b o _ hbS e=>(zk _ _ (Ne.symm hbS)).trans e) (W.frame _ _ _ hst' fun b hbf o e=>(zk _ _ (fr hbf)).trans e) (by simp only [argBest,hb,if_true]; exact hP) (zm _ hS' rfl)⟩
   | false=>
     simp only [false_eq_true,if_false]
     refine qa (wpAny_letGo ?_)
     rw [hname]
     exact qb ⟨plainId_quiet F.plain_min_loop _,ih (j + 1) _ _ vb c (by lia) hlt hJ' hst' (by simp only [argBest,hb,false_eq_true,if_false]; exact hPb) hS'⟩
end
theorem zi6 (a v:Value):argsOk "min" ⟨[a],[(Str.ofString "default",v)]⟩:=by unfold argsOk; kernel_rfl
def btD (ds:List D) (i j:Nat):Bool:=decide (cmpD (ds.getD i .non) (ds.getD j .non)=.lt)
theorem zdw:∀ (b:D) (l:List D) (x:D),least b (l++[x])=if cmpD x (least b l)=.lt then x else least b l
 | _,[],_=>rfl
 | b,d::l,x=>zdw (if cmpD d b=.lt then d else b) l x
theorem zei (b:D) (r:List D):∀ k,k<=r.length->least b (r.take k)=(b::r).getD (argBest (btD (b::r)) k) .non
 | 0,_=>rfl
 | k + 1,h=>by
   have ih:=zei b r k (by lia)
   have e:r.take (k + 1)=r.take k++[r[k]]:=by rw [List.take_succ,qj (by lia)]; rfl
   have e2:(b::r).getD (k + 1) .non=r[k]:=by rw [List.getD_eq_getElem?_getD,List.getElem?_cons_succ,qj (by lia)]; rfl
   rw [e,zdw,argBest,ih]
   unfold btD
   rw [e2]
   by_cases hc:cmpD r[k] ((b::r).getD (argBest (fun i j=>decide (cmpD ((b::r).getD i .non) ((b::r).getD j .non)=.lt)) k) .non)=.lt
   ·rw [zc hc,zc (qU hc),e2]
   ·rw [zi hc,zi (by rw [qV hc]; exact q5)]
theorem zcd (bt:Nat->Nat->Bool):∀ k,argBest bt k<=k
 | 0=>zj _
 | k + 1=>by
   have:=zcd bt k
   unfold argBest
   split <;> lia
section
variable {K:W.Frag}
def rMinD (K:W.Frag):R2:=fun x y H Q=>∃ a xs ds,x=.ref a/\SqL K H a xs/\zX K H xs ds/\((xs=[]/\Q y H)\/(xs≠[]/\(∀ a∈ds,∀ b∈ds,like a b=true/\dep a<=9)/\∀ v,xs[argBest (btD ds) (xs.length - 1)]?=some v->Q v H))
theorem zhV (hr:Room k X.A) (I:Inv X zZ σ H s) (rx:zO x v) (ry:zO y u) (h:rMinD X.K x y H Q):wpAny (model X.prog X.w) X.A (call (.builtin "min") [v] [(Str.ofString "default",u)]) (EP X zZ σ Q) X.xe s:=by
 obtain ⟨a,xs,ds,rfl,hq,rp,hQ⟩:=h
 cases rx
 have hu:X.A.units + 20 < cLine:=by have:=hr.units; lia
 obtain ⟨z6,rv,pl,hz⟩:=I.list hq
 have hls:s.heap.IsList a z6.toArray:=pl.isList
 have la:a < s.heap.objs.size:=by obtain ⟨o,e,_⟩:=hls; exact qg e
 have hname:(toString "min"++toString ".loop":String)="min.loop":=by decide
 refine kmk_tree F.kind_min F.plain_min F.entry_min (zi6 _ _) ?_
 refine qa (zw (show Builtin.Builtins.bindParams "min" ["key","default"] 0 ⟨[],[(Str.ofString "default",u)]⟩=pure [none,some u] from rfl) (qa (qb ?_)))
 refine qa (wpAny_pyIter_list hls (qa (zp ?_)))
 rw [hname]
 generalize hh1:s.heap.push { cls:=.type "list_iterator",data:=.fields #[.ref a,.int 0 0] }=h1
 have hsz:h1.objs.size=s.heap.objs.size + 1:=by rw [<- hh1]; exact Heap.size_push ..
 generalize hh2:h1.push _=h2
 have kp:∀ b o,s.heap.get? b=some o->h2.get? b=some o:=fun b o e=>by rw [<- hh2]; exact qc _ (by rw [<- hh1]; exact qc _ e)
 have z5:=rv.length
 have W:=Walks.list (prog:=X.prog) (w:=X.w) (A:=X.A.in1) (show X.A.in1.handled=none from hr.hd) s.heap.objs.size a (ne_of_lt la) z6.toArray
 have st0:h2.IsListIter s.heap.objs.size a 0/\h2.IsList a z6.toArray:=⟨⟨_,by rw [<- hh2]; exact qc _ (by rw [<- hh1]; exact qd _ rfl),rfl,rfl⟩,hls.at fun o e=>kp _ _ e⟩
 have hS:h2.get? h1.objs.size=some { cls:=.type "list",dict:=none,data:=.seq #[] 0,slots:=#[] }:=by rw [<- hh2]; exact qd _ rfl
 have hSf:h1.objs.size∉[s.heap.objs.size,a]:=fun z=>by
  rcases qD.mp z with z | z
  ·lia
  ·have:=qw.mp z; lia
 rcases hQ with ⟨rfl,hQ⟩ | ⟨hne,hall,hQ⟩
 ·have h0:z6.toArray.size=0:=by rw [qu,<- z5]; rfl
  refine qb ⟨plainId_quiet F.plain_min_loop _,codeAny_builtin F.entry_min_loop ?_⟩
  rw [Around.under_plainId F.plain_min_loop _]
  refine qa (m:=seqItems? (.ref h1.objs.size)) (wpAny_seqItems (s:={ s with heap:=h2 }) hS rfl (qa (m:=tryCatch (pyNext (.ref s.heap.objs.size)) _) (wpAny_tryCatch (W.done _ _ _ (h0 ▸ st0) fun h' tk' hk'=>?_))))
  refine qa (wpAny_rule (qb ?_))
  exact ⟨_,H,I.kept (t':=tk') fun b o e=>hk' b o (fun z=>by have:=qg e; have:=qw.mp z; lia) (kp b o e),ry,hQ⟩
 ·have hn:0 < z6.length:=by rw [<- z5]; exact qS.mpr hne
  rw [z5] at hQ
  have hSw:h1.objs.size∉[s.heap.objs.size]:=fun z=>hSf (qD.mpr (.inl (qw.mp z)))
  refine qb ⟨plainId_quiet F.plain_min_loop _,codeAny_builtin F.entry_min_loop ?_⟩
  rw [Around.under_plainId F.plain_min_loop _]
  refine qa (m:=seqItems? (.ref h1.objs.size)) (wpAny_seqItems (s:={ s with heap:=h2 }) hS rfl (qa (m:=tryCatch (pyNext (.ref s.heap.objs.size)) _) (wpAny_tryCatch (W.item 0 _ _ _ (by rw [qu]; exact hn) st0 fun v h3 tk3 hP hst hk3=>?_))))
  have hS3:=hk3 _ _ hSw hS
  refine qa (m:=updateSeq h1.objs.size fun _=>#[v,v]) (wpAny_updateSeq hS3 rfl ?_)
  rw [hname]
  have old:∀ b o,s.heap.get? b=some o->b∉[s.heap.objs.size]/\b≠h1.objs.size:=fun b o e=>by
   have:=qg e
   exact ⟨fun z=>by have:=qw.mp z; lia,by lia⟩
  have up:∀ b o,b≠h1.objs.size->h3.get? b=some o->(h3.update h1.objs.size (Obj.mapSeq fun _=>#[v,v])).get? b=some o:=fun b o hb e=>(zk _ _ (Ne.symm hb)).trans e
  refine qb ⟨plainId_quiet F.plain_min_loop _,zh7 (s:=s) W h1.objs.size hSf _ (btD ds) (fun h=>∀ b o,s.heap.get? b=some o->h.get? b=some o) (fun h h' J k b o e=>k b o (old b o e).1 (old b o e).2 (J b o e)) (fun i j vi vj h tk Q' E' hi hj J hq=>?_) (fun v' h' tk hP' J=>?_)
   _ 0 _ tk3 v _ rfl (by rw [qu]; exact hn) (fun b o e=>up b o (old b o e).2 (hk3 b o (old b o e).1 (kp b o e))) (W.frame _ _ _ hst fun b hb o e=>up b o (fun z=>hSf (z ▸ hb)) e) hP (zm _ hS3 rfl)⟩
  ·have hi:z6[i]?=some vi:=by simpa using hi
   have hj:z6[j]?=some vj:=by simpa using hj
   have li:=(qi.mp hi).1
   have lj:=(qi.mp hj).1
   have hrl:=rp.len
   refine cps fun _ kk=>?_
   obtain ⟨y1,g1,r1⟩:=rp.get (qj (show i < ds.length by lia))
   obtain ⟨y2,g2,r2⟩:=rp.get (qj (show j < ds.length by lia))
   obtain ⟨u1,g3,r3⟩:=rv.get g1
   obtain ⟨u2,g4,r4⟩:=rv.get g2
   rw [hi] at g3
   rw [hj] at g4
   cases g3
   cases g4
   obtain ⟨c1,c2⟩:=hall ds[i] (getElem_mem _) ds[j] (getElem_mem _)
   refine kk ?_
   refine zmY 9 c2 (I.kept (t':=tk) J) r1 r2 r3 r4 c1 (by show X.A.units + 1 + 9 < cLine; lia) X.prog X.w E' Q' ?_
   have e1:ds.getD i .non=ds[i]:=by rw [List.getD_eq_getElem?_getD,qj (show i < ds.length by lia)]; rfl
   have e2:ds.getD j .non=ds[j]:=by rw [List.getD_eq_getElem?_getD,qj (show j < ds.length by lia)]; rfl
   unfold btD at hq
   rwa [e1,e2] at hq
  ·have hP':z6[argBest (btD ds) (z6.length - 1)]?=some v':=by simpa using hP'
   have la:=zcd (btD ds) (z6.length - 1)
   obtain ⟨u1,g3,r3⟩:=rv.get (qj (show argBest (btD ds) (z6.length - 1) < xs.length by lia))
   rw [hP'] at g3
   cases g3
   exact ⟨_,H,I.kept (t':=tk) J,r3,hQ _ (qj _)⟩
theorem zmr (hr:Room k X.A) (hg:Gl X "min") (hm:X.mg "min"=none) (ha:PE X e ta) (hd:PE X dv td) (he:starEach [e] X.env=(false,eval e X.env)::starEach [] X.env:=by rfl) (he2:backTo pos (starEach [e] X.env)=(false,eval e X.env)::backTo pos (starEach [] X.env):=by rfl) (hpl:(backTo pos (starEach [e] X.env)).any (·.1)=false:=by rfl):PE X (.Call (.Name "min" p) [e] [⟨some "default",dv,kp⟩] pos) (tOp (rMinD X.K) ta td):=by
 intro zZ s σ H Q I h
 refine wpAny_Call_Name_kw (zbf I hg hm zhi ?_ (by decide) (by decide))
 refine callWith_kw (thn ((zea ha zgm he) pos zZ s σ H (fun vs H1=>match vs with
  | [x]=>td σ H1 fun y H2=>rMinD X.K x y H2 Q
  | _=>False) I h) fun us s1 zq=>?_) he2 hpl
 obtain ⟨vs,H1,I1,r1,q1⟩:=zq
 match vs,r1,q1 with
 | [x],r1,q1=>
   obtain ⟨v,rfl,rx⟩:=vals1 r1
   refine kws_cons (thn (hd zZ s1 σ H1 _ I1 q1) fun u s2 zq=>kws_nil ?_)
   obtain ⟨y,H2,I2,ry,q2⟩:=zq
   exact zhV hr I2 rx ry q2
theorem RepE.kept0 {F H:Hp} {v:V} {d:D} (h:RepE K F H v d) (hl:∀ l,d≠.lst l:=by intro _ z; cases z) (hk:∀ t ks vs,d≠.dct t ks vs:=by intro _ _ _ z; cases z):Rep K F v d:=by
 rcases h with h | ⟨_,_,_,_,h,_⟩ | ⟨_,_,_,_,_,h,_⟩ | ⟨_,_,_,_,_,h,_⟩
 ·exact h
 ·exact absurd h (hl _)
 ·exact absurd h (hk _ _ _)
 ·exact absurd h (hk _ _ _)
theorem zih:Does K (rMinD K) minDf:=by
 intro σ U F G H x y p q t Q z4 ex ey e hq
 cases p with
 | lst l=>
   obtain ⟨a,xs,rfl,h1,r1⟩:=ex.lst z4.fr
   refine ⟨a,xs,l,rfl,h1,r1.mono z4.fr,?_⟩
   cases l with
   | nil=>
     cases r1
     refine .inl ⟨rfl,?_⟩
     cases q with
     | non=>cases e; exact hq y F H (zK.refl F) (z4.push ey.kept0)
     | tup m=>cases e; exact hq y F H (zK.refl F) (z4.push ey.kept0)
     | _=>cases e
   | cons b r=>
     have e:(if (b::r).all (fun x=>(b::r).all fun y=>like x y && decide (dep x<=9))=true then some (S.sh (least b r)) else none)=some t:=e
     split at e
     ·rename_i hall
      cases e
      refine .inr ⟨(fun z=>by subst z; cases r1),fun a ha b hb=>?_,fun v hv=>?_⟩
      ·have:=qL.mp (qL.mp hall a ha) b hb
       simpa using this
      ·have hl:=r1.len
       have hle:=zei b r r.length (zj _)
       rw [List.take_length] at hle
       have hl2:xs.length - 1=r.length:=by rw [hl]; rfl
       rw [hl2] at hv
       have la:=zcd (btD (b::r)) r.length
       have hlt:argBest (btD (b::r)) r.length < (b::r).length:=by simp only [qv]; lia
       obtain ⟨y',hy,ry⟩:=r1.get (qj hlt)
       rw [hv] at hy
       cases hy
       refine hq v F H (zK.refl F) (z4.push ?_)
       rw [hle,List.getD_eq_getElem?_getD,qj hlt]
       exact ry
     ·cases e
 | _=>cases e
theorem zlT (hr:Room k X.A) (hg:Gl X "min") (hm:X.mg "min"=none) (ha:FE X e wa) (hb:FE X dv wb) (he:starEach [e] X.env=(false,eval e X.env)::starEach [] X.env:=by rfl) (he2:backTo pos (starEach [e] X.env)=(false,eval e X.env)::backTo pos (starEach [] X.env):=by rfl) (hpl:(backTo pos (starEach [e] X.env)).any (·.1)=false:=by rfl):FE X (.Call (.Name "min" p) [e] [⟨some "default",dv,kp⟩] pos) (zQ minDf wa wb):=by
 intro pn xe hp
 refine PE.imp (zmr (X:=wp X pn xe) hr hg hm (ha pn xe hp) (hb pn xe hp) he he2 hpl) fun σ H Q h=>?_
 refine (two (k:=fun x y U2 Q E=>zJ (zV x U2) fun p=>zJ (zV y U2) fun q=>zJ (minDf p q) fun s=>Q (.v s) U2) h).mono fun v H1 h1=>h1.mono fun u H2 h2=>?_
 obtain ⟨F,G,U,x,y,P,PX,z4,hl,rx,ry,hk,hok,hx⟩:=h2
 obtain ⟨p,ep,hk⟩:=zad hk
 obtain ⟨q,eq,hk⟩:=zad hk
 obtain ⟨t,et,hk⟩:=zad hk
 obtain ⟨F1,s1,re1,rel1⟩:=takeC z4 hl rx ep
 obtain ⟨F2,s2,re2,rel2⟩:=takeC (U':=[]) (σ':=[]) rel1 hl ry eq
 rw [qC,qC] at rel2
 exact zih σ U F2 G H2 v u p q t Q rel2 (re1.mono s2) re2 et fun v' F' H' sm r'=>hok (.v t) U v' F' H' hk (s1.trans (s2.trans sm)) r' trivial
end
end FL
namespace FL
def e_C:wC d U Q E=Q (.v (.sh d)) U:=rfl
def kV (o:Option S) (Q:WQ) (U:Env):Prop:=zJ o fun s=>Q (.v s) U
def e_V:kV (some s) Q U=Q (.v s) U:=rfl
def kBin3 (o:D->D->Option S) (x y:Option D) (Q:WQ) (U:Env):Prop:=zJ x fun p=>zJ y fun q=>kV (o p q) Q U
def kBin2 (o:D->D->Option S) (x:R) (Q:WQ):WQ:=fun y U2=>kBin3 o (zV x U2) (zV y U2) Q U2
def kBin1 (o:D->D->Option S) (b:WE) (Q:WQ) (E:WX):WQ:=fun x U1=>b U1 (kBin2 o x Q) E
def zrD:zQ o a b U Q E=a U (kBin1 o b Q E) E:=rfl
def znp:kBin1 o b Q E x U=b U (kBin2 o x Q) E:=rfl
def znA:kBin3 o (some p) (some q) Q U=kV (o p q) Q U:=rfl
def kUn2 (o:D->Option S) (x:Option D) (Q:WQ) (U:Env):Prop:=zJ x fun p=>kV (o p) Q U
def kUn (o:D->Option S) (Q:WQ):WQ:=fun x U=>kUn2 o (zV x U) Q U
def e_Un {o:D->Option S}:wUn o a U Q E=a U (kUn o Q) E:=rfl
def zqq {o:D->Option S}:kUn o Q x U=kUn2 o (zV x U) Q U:=rfl
def zqG {o:D->Option S}:kUn2 o (some p) Q U=kV (o p) Q U:=rfl
def kC (o:Option Bool) (Q:Bool->Env->Prop) (U:Env):Prop:=zJ o fun c=>Q c U
def e_Ck {c:Bool}:kC (some c) QT U=QT c U:=rfl
def kCmp3 (o:D->D->Option Bool) (x y:Option D) (Q:Bool->Env->Prop) (U:Env):Prop:=zJ x fun p=>zJ y fun q=>kC (o p q) Q U
def kCmp2 (o:D->D->Option Bool) (x:R) (Q:Bool->Env->Prop):WQ:=fun y U2=>kCmp3 o (view x U2) (view y U2) Q U2
def kCmp1 (o:D->D->Option Bool) (b:WE) (Q:Bool->Env->Prop) (E:WX):WQ:=fun x U1=>b U1 (kCmp2 o x Q) E
def zrs:wCmp oc a b U QT E=a U (kCmp1 oc b QT E) E:=rfl
def zpo:kCmp1 oc b QT E x U=b U (kCmp2 oc x QT) E:=rfl
def zm3:kCmp3 oc (some p) (some q) QT U=kC (oc p q) QT U:=rfl
def kTest2 (x:Option D) (Q:Bool->Env->Prop) (U:Env):Prop:=zJ x fun p=>kC (truth p) Q U
def kTest (Q:Bool->Env->Prop):WQ:=fun x U=>kTest2 (view x U) Q U
def znX:wTest a U QT E=a U (kTest QT) E:=rfl
def zlm:kTest QT x U=kTest2 (view x U) QT U:=rfl
def zld:kTest2 (some p) QT U=kC (truth p) QT U:=rfl
def kAnd (b:WT) (Q:Bool->Env->Prop) (E:WX):Bool->Env->Prop:=fun c U1=>if c then b U1 Q E else Q false U1
def zr4:wtAnd t u U QT E=t U (kAnd u QT E) E:=rfl
def zn5:kAnd u QT E true U=u U QT E:=rfl
def znQ:kAnd u QT E false U=QT false U:=rfl
def kOr (b:WT) (Q:Bool->Env->Prop) (E:WX):Bool->Env->Prop:=fun c U1=>if c then Q true U1 else b U1 Q E
def e_Or:wtOr t u U QT E=t U (kOr u QT E) E:=rfl
def zry:kOr u QT E true U=QT true U:=rfl
def zq3:kOr u QT E false U=u U QT E:=rfl
def kNot (Q:Bool->Env->Prop):Bool->Env->Prop:=fun c U1=>Q (!c) U1
def zqh:wtNot t U QT E=t U (kNot QT) E:=rfl
def zoQ {c:Bool}:kNot QT c U=QT (!c) U:=rfl
def kOfT (Q:WQ):Bool->Env->Prop:=fun c U1=>Q (.v (.sh (.bl c))) U1
def zq7:wOfT t U Q E=t U (kOfT Q) E:=rfl
def zoo {c:Bool}:kOfT Q c U=Q (.v (.sh (.bl c))) U:=rfl
def kIfE (a b:WE) (Q:WQ) (E:WX):Bool->Env->Prop:=fun k U1=>if k then a U1 Q E else b U1 Q E
def zpZ:wIfE t a b U Q E=t U (kIfE a b Q E) E:=rfl
def zm8:kIfE a b Q E true U=a U Q E:=rfl
def zo6:kIfE a b Q E false U=b U Q E:=rfl
def kNotV2 (x:Option D) (Q:WQ) (U:Env):Prop:=zJ x fun p=>zJ (truth p) fun c=>Q (.v (.sh (.bl (!c)))) U
def kNotV (Q:WQ):WQ:=fun x U=>kNotV2 (view x U) Q U
def zom:wNotV a U Q E=a U (kNotV Q) E:=rfl
def zle:kNotV Q x U=kNotV2 (view x U) Q U:=rfl
def zlo {c:Bool}:kNotV2 (some (.bl c)) Q U=Q (.v (.sh (.bl (!c)))) U:=rfl
def kAndV2 (x:Option D) (b:WE) (Q:WQ) (E:WX) (U:Env):Prop:=match x with | some (.bl c)=>if c then b U Q E else Q (.v (.sh (.bl false))) U | _=>False
def kAndV (b:WE) (Q:WQ) (E:WX):WQ:=fun x U=>kAndV2 (view x U) b Q E U
def zns:wAndV a b U Q E=a U (kAndV b Q E) E:=rfl
def zlq:kAndV b Q E x U=kAndV2 (view x U) b Q E U:=rfl
def zlJ:kAndV2 (some (.bl true)) b Q E U=b U Q E:=rfl
def zql:zH U QA E=QA [] U:=rfl
def kCons2 (r:R) (Q:List R->Env->Prop):List R->Env->Prop:=fun rs U=>Q (r::rs) U
def kCons1 (b:WA) (Q:List R->Env->Prop) (E:WX):WQ:=fun r U1=>b U1 (kCons2 r Q) E
def zo5:zG a wa U QA E=a U (kCons1 wa QA E) E:=rfl
def zlP:kCons1 wa QA E r U=wa U (kCons2 r QA) E:=rfl
def zlV:kCons2 r QA rs U=QA (r::rs) U:=rfl
def gA2 (s:S):Option (List S×Env)->Option (List S×Env)
 | some (ss,U)=>some (s::ss,U)
 | none=>none
def gA1 (rs:List R):Option (S×Env)->Option (List S×Env)
 | some (s,U)=>gA2 s (giveAll rs U)
 | none=>none
def zrU:giveAll [] U=some ([],U):=rfl
theorem e_gA:giveAll (r::rs) U=gA1 rs (give r U):=by
 rw [giveAll]; unfold gA1
 cases give r U with
 | none=>rfl
 | some z=>obtain ⟨s,U1⟩:=z; show (match giveAll rs U1 with | some (ss,U2)=>some (s::ss,U2) | none=>none)=gA2 s (giveAll rs U1); unfold gA2; rfl
def zso:gA1 rs (some (s,U))=gA2 s (giveAll rs U):=rfl
def zqf:gA2 s (some (ss,U))=some (s::ss,U):=rfl
def gv (i:Nat) (U:Env):Option S->Option (S×Env)
 | some s=>some (.sh s.toD,U.set i (some (.sh s.toD)))
 | none=>none
def e_gv:give (.v s) U=some (s,U):=rfl
theorem e_gl:give (.loc i) U=gv i U (slot U i):=by unfold give gv; rfl
def zsq:gv i U (some s)=some (.sh s.toD,U.set i (some (.sh s.toD))):=rfl
def kTup2 (l:Bool) (x:Option (List S×Env)) (Q:WQ):Prop:=zJ (if l then x else none) fun p=>Q (.v (.sh (.tup (p.1.map S.toD)))) p.2
def kLst2 (l:Bool) (x:Option (List S×Env)) (Q:WQ):Prop:=zJ (if l then x else none) fun p=>Q (.v (.lst p.1)) p.2
def lenOk (rs:List R):Bool:=decide (rs.length<=big)
def kTup (Q:WQ):List R->Env->Prop:=fun rs U=>kTup2 (lenOk rs) (giveAll rs U) Q
def kLst (Q:WQ):List R->Env->Prop:=fun rs U=>kLst2 (lenOk rs) (giveAll rs U) Q
theorem zrF:wTup wa U Q E=wa U (kTup Q) E:=by unfold wTup kTup kTup2 lenOk; simp
def znu:kTup Q rs U=kTup2 (lenOk rs) (giveAll rs U) Q:=rfl
def zn7:kTup2 true (some (ss,U)) Q=Q (.v (.sh (.tup (ss.map S.toD)))) U:=rfl
theorem zqa:wLst wa U Q E=wa U (kLst Q) E:=by unfold wLst kLst kLst2 lenOk; simp
def zoC:kLst Q rs U=kLst2 (lenOk rs) (giveAll rs U) Q:=rfl
def zo7:kLst2 true (some (ss,U)) Q=Q (.v (.lst ss)) U:=rfl
def e_l0:lenOk []=true:=rfl
def e_l1:lenOk [r1]=true:=rfl
def e_l2:lenOk [r1,r2]=true:=rfl
def e_l3:lenOk [r1,r2,r3]=true:=rfl
def e_l4:lenOk [r1,r2,r3,r4]=true:=rfl
def e_l5:lenOk [r1,r2,r3,r4,r5]=true:=rfl
def e_vv:view (.v s) U=some s.toD:=rfl
def e_vl:view (.loc i) U=(slot U i).map S.toD:=rfl
def e_cv:zV (.v s) U=some s.toD:=rfl
def vC:Option S->Option D
 | some s=>if s.flat then some s.toD else none
 | none=>none
theorem e_cl:zV (.loc i) U=vC (slot U i):=by unfold zV vC; rfl
theorem zoT (h:l.all S.isSh=true):vC (some (.lst l))=some (.lst (l.map S.toD)):=by
 show (if l.all S.isSh=true then some (S.toD (.lst l)) else none)=_
 rw [zc h,S.toD_lst]
theorem e_sh {l:List D}:(l.map S.sh).all S.isSh=true:=by simp [S.isSh]
theorem zar {l:List D}:(l.map S.sh).map S.toD=l:=by
 rw [qH]; exact map_id l
theorem zrE:vC (some (.lst (l.map S.sh)))=some (.lst l):=by rw [zoT e_sh,zar]
def kIx5 (o:Option S) (Q:WQ) (U:Env):Prop:=match o with | some (.sh d)=>Q (.v (.sh d)) U | _=>False
def kIx4 (o:Option S) (q:D) (Q:WQ) (U:Env):Prop:=match o with | some s=>kIx5 (ixS s q) Q U | none=>False
def kIx3 (x:R) (o:Option D) (Q:WQ) (U:Env):Prop:=zJ o fun q=>match x with | .v s=>kV (ixS s q) Q U | .loc i=>kIx4 (slot U i) q Q U
def kIx2 (x:R) (Q:WQ):WQ:=fun y U2=>kIx3 x (view y U2) Q U2
def kIx1 (b:WE) (Q:WQ) (E:WX):WQ:=fun x U1=>b U1 (kIx2 x Q) E
theorem e_Ix:wIx a b U Q E=a U (kIx1 b Q E) E:=by
 unfold wIx kIx1 kIx2 kIx3 kIx4 kIx5 kV
 rfl
def zrL:kIx1 b Q E x U=b U (kIx2 x Q) E:=rfl
def zri:kIx2 x Q y U=kIx3 x (view y U) Q U:=rfl
def zpq:kIx3 (.v s) (some q) Q U=kV (ixS s q) Q U:=rfl
def zmH:kIx3 (.loc i) (some q) Q U=kIx4 (slot U i) q Q U:=rfl
def zqd:kIx4 (some s) q Q U=kIx5 (ixS s q) Q U:=rfl
def zqo:kIx5 (some (.sh d)) Q U=Q (.v (.sh d)) U:=rfl
def zqi:ixS (.sh (.tup l)) (.int z)=(atI l z).map S.sh:=rfl
def zpU:ixS (.sh (.lst l)) (.int z)=(atI l z).map S.sh:=rfl
def zrX:ixS (.sh (.str l)) (.int z)=(atI l z).map fun c=>S.sh (.str [c]):=rfl
def zsa:ixS (.lst l) (.int z)=atI l z:=rfl
theorem zbj (h0:0<=z) (h:l[z.toNat]?=some v):atI l z=some v:=by
 have:z.toNat < l.length:=(qi.mp h).1
 unfold atI ixN
 rw [zc h0,zc (by lia)]
 exact h
theorem zoX:atI (v::l) 0=some v:=zbj (by decide) rfl
theorem znT:atI (v1::v::l) 1=some v:=zbj (by decide) rfl
theorem znK:atI (v1::v2::v::l) 2=some v:=zbj (by decide) rfl
theorem zsi:atI (v1::v2::v3::v::l) 3=some v:=zbj (by decide) rfl
theorem zqs:atI (v1::v2::v3::v4::v::l) 4=some v:=zbj (by decide) rfl
def pA (s:S):Option (List S×Env)->Option (List S×Env)
 | some (ss,U)=>some (s::ss,U)
 | none=>none
theorem e_p0:prep ms [] U=some ([],U):=by cases ms <;> rfl
theorem e_pv:prep (h::ms) (.v s::rs) U=pA s (prep ms rs U):=by rw [prep]; unfold pA; rfl
def pL (i:Nat) (o:Option S) (ms:List Bool) (rs:List R) (U:Env):Option (List S×Env):=match o with
 | some s=>pA s (prep ms rs (U.set i none))
 | none=>none
theorem e_pl:prep (true::ms) (.loc i::rs) U=pL i (slot U i) ms rs U:=by
 rw [prep]; unfold pL pA
 cases slot U i <;> rfl
def zr6:pL i (some s) ms rs U=pA s (prep ms rs (U.set i none)):=rfl
def e_pA:pA s (some (ss,U))=some (s::ss,U):=rfl
def e_b0:back ms [] ss U=U:=rfl
def e_bv {s t:S}:back (h::ms) (.v s::rs) (t::ss) U=back ms rs ss U:=rfl
def e_bl {t:S}:back (true::ms) (.loc i::rs) (t::ss) U=back ms rs ss (U.set i (some t)):=rfl
def kCret (ms:List Bool) (rs:List R) (U:Env) (Q:WQ):S->List S->Prop:=fun s ss=>Q (.v s) (back ms rs ss U)
def kCex (ms:List Bool) (rs:List R) (U:Env) (E:WX):D->List S->Prop:=fun x ss=>E x (back ms rs ss U)
def kCall2 (f:WF) (ms:List Bool) (rs:List R) (o:Option (List S×Env)) (Q:WQ) (E:WX):Prop:=zJ o fun p=>f p.1 (kCret ms rs p.2 Q) (kCex ms rs p.2 E)
def kCall (f:WF) (ms:List Bool) (Q:WQ) (E:WX):List R->Env->Prop:=fun rs U=>kCall2 f ms rs (prep ms rs U) Q E
def zpp:zS f ms wa U Q E=wa U (kCall f ms Q E) E:=rfl
def zmj:kCall f ms Q E rs U=kCall2 f ms rs (prep ms rs U) Q E:=rfl
def zlr:kCall2 f ms rs (some (ss,U)) Q E=f ss (kCret ms rs U Q) (kCex ms rs U E):=rfl
def znz:kCret ms rs U Q s ss=Q (.v s) (back ms rs ss U):=rfl
def vA:Option D->Option (List D)->Option (List D)
 | some d,some ds=>some (d::ds)
 | _,_=>none
def vAll (rs:List R) (U:Env):Option (List D):=match rs with
 | []=>some []
 | r::rs=>vA (zV r U) (vAll rs U)
theorem zfc:∀ rs:List R,(rs.mapM fun r=>zV r U)=vAll rs U
 | []=>rfl
 | r::rs=>by
   rw [List.mapM_cons,zfc rs,vAll]
   cases zV r U with
   | none=>rfl
   | some d=>cases vAll rs U <;> rfl
def zpJ:vAll [] U=some []:=rfl
def e_vA:vAll (r::rs) U=vA (zV r U) (vAll rs U):=rfl
def zq9:vA (some d) (some ds)=some (d::ds):=rfl
def kB2 (f:List D->Option S) (o:Option (List D)) (Q:WQ) (U:Env):Prop:=zJ o fun ds=>kV (f ds) Q U
def kB (f:List D->Option S) (Q:WQ):List R->Env->Prop:=fun rs U=>kB2 f (vAll rs U) Q U
theorem e_B:wB f wa U Q E=wa U (kB f Q) E:=by
 unfold wB kB kB2 kV
 simp only [zfc]
def e_B1:kB f Q rs U=kB2 f (vAll rs U) Q U:=rfl
def e_B2:kB2 f (some ds) Q U=kV (f ds) Q U:=rfl
def kMS2 (f:List Nat->List D->Option S) (l:List Nat) (Q:WQ):List R->Env->Prop:=fun rs U=>kB2 (f l) (vAll rs U) Q U
def kMS (f:List Nat->List D->Option S) (wa:WA) (Q:WQ) (E:WX):WQ:=fun x U=>match x with
 | .v (.sh (.str l))=>wa U (kMS2 f l Q) E
 | _=>False
theorem e_MS:wMS f a wa U Q E=a U (kMS f wa Q E) E:=by
 unfold wMS kMS kMS2 kB2 kV
 simp only [zfc]
 all_goals rfl
def zrc:kMS f wa Q E (.v (.sh (.str l))) U=wa U (kMS2 f l Q) E:=rfl
def zrZ:kMS2 f l Q rs U=kB2 (f l) (vAll rs U) Q U:=rfl
def kAp4 (j:Nat) (s:S) (o:Option S) (U:Env) (Q:WQ):Prop:=match o with
 | some (.lst l)=>l.length < big/\Q (.v (.sh .non)) (U.set j (some (.lst (l++[s]))))
 | _=>False
def kAp3 (j:Nat) (o:Option (S×Env)) (Q:WQ):Prop:=zJ o fun p=>kAp4 j p.1 (slot p.2 j) p.2 Q
def kAp2 (j:Nat) (Q:WQ):WQ:=fun r U=>kAp3 j (give r U) Q
def kAp (j:Nat) (o:Option S) (a:WE) (U:Env) (Q:WQ) (E:WX):Prop:=match o with
 | some (.lst _)=>a U (kAp2 j Q) E
 | _=>False
theorem e_Ap:wAppend j a U Q E=kAp j (slot U j) a U Q E:=by unfold wAppend kAp kAp2 kAp3 kAp4; rfl
def zqC:kAp j (some (.lst l)) a U Q E=a U (kAp2 j Q) E:=rfl
def zrk:kAp2 j Q r U=kAp3 j (give r U) Q:=rfl
def zrn:kAp3 j (some (s,U)) Q=kAp4 j s (slot U j) U Q:=rfl
def zr2:kAp4 j s (some (.lst l)) U Q=(l.length < big/\Q (.v (.sh .non)) (U.set j (some (.lst (l++[s]))))):=rfl
def kPop3 (j:Nat) (o:Option D) (p:Option S) (U:Env) (Q:WQ):Prop:=match o,p with
 | some (.int i),some (.lst l)=>zJ (if l.length<=big then ixN l.length i else none) fun k=>zJ l[k]? fun s=>Q (.v s) (U.set j (some (.lst (l.eraseIdx k))))
 | _,_=>False
def kPop2 (j:Nat) (Q:WQ):WQ:=fun r U=>kPop3 j (view r U) (slot U j) U Q
def kPop (j:Nat) (o:Option S) (a:WE) (U:Env) (Q:WQ) (E:WX):Prop:=match o with
 | some (.lst _)=>a U (kPop2 j Q) E
 | _=>False
theorem zqk:wPopAt j a U Q E=kPop j (slot U j) a U Q E:=by unfold wPopAt kPop kPop2 kPop3; rfl
def zo2:kPop j (some (.lst l)) a U Q E=a U (kPop2 j Q) E:=rfl
def zod:kPop2 j Q r U=kPop3 j (view r U) (slot U j) U Q:=rfl
theorem zm9 (h0:0<=z) (hb:l.length<=big) (h:l[z.toNat]?=some s) (hq:Q (.v s) (U.set j (some (.lst (l.eraseIdx z.toNat))))):kPop3 j (some (.int z)) (some (.lst l)) U Q:=by
 have:z.toNat < l.length:=(qi.mp h).1
 have e:(if l.length<=big then ixN l.length z else none)=some z.toNat:=by
  unfold ixN
  rw [zc hb,zc h0,zc (by lia)]
 show zJ (if l.length<=big then ixN l.length z else none) _
 rw [e,zbM,h]
 exact hq
def kIsI2 (T:String) (o:Option D) (Q:WQ) (U:Env):Prop:=zJ o fun d=>noExc d=true/\Q (.v (.sh (.bl (isTy T d)))) U
def kIsI (T:String) (Q:WQ):WQ:=fun x U=>kIsI2 T (view x U) Q U
def zsn:wIsI T a U Q E=a U (kIsI T Q) E:=rfl
def zmI:kIsI T Q x U=kIsI2 T (view x U) Q U:=rfl
theorem zlW {l:List D}:kIsI2 T (some (.tup l)) Q U=Q (.v (.sh (.bl (isTy T (.tup l))))) U:=by show (_/\_)=_; simp [noExc]
theorem zlY {z:Int}:kIsI2 T (some (.int z)) Q U=Q (.v (.sh (.bl (isTy T (.int z))))) U:=by show (_/\_)=_; simp [noExc]
theorem zmv {z:List Nat}:kIsI2 T (some (.str z)) Q U=Q (.v (.sh (.bl (isTy T (.str z))))) U:=by show (_/\_)=_; simp [noExc]
def kPt2 (o:Option D) (Q:Option Int->Env->Prop) (U:Env):Prop:=match o with | some (.int i)=>Q (some i) U | _=>False
def kPt (Q:Option Int->Env->Prop):WQ:=fun x U=>kPt2 (view x U) Q U
def zp5 {Q:Option Int->Env->Prop}:wPart none U Q E=Q none U:=rfl
def e_Pt {Q:Option Int->Env->Prop}:wPart (some a) U Q E=a U (kPt Q) E:=rfl
def zsp {Q:Option Int->Env->Prop}:kPt Q x U=kPt2 (view x U) Q U:=rfl
def zrj {Q:Option Int->Env->Prop}:kPt2 (some (.int z)) Q U=Q (some z) U:=rfl
def kSl3 (o:Option D) (l h:Option Int) (Q:WQ) (U:Env):Prop:=zJ o fun d=>kV (slD d l h) Q U
def kSl2 (x:R) (l:Option Int) (Q:WQ):Option Int->Env->Prop:=fun h U=>kSl3 (zV x U) l h Q U
def kSl1 (x:R) (hi:Option WE) (Q:WQ) (E:WX):Option Int->Env->Prop:=fun l U=>wPart hi U (kSl2 x l Q) E
def kSl (lo hi:Option WE) (Q:WQ) (E:WX):WQ:=fun x U=>wPart lo U (kSl1 x hi Q E) E
def e_Sl:wSl a lo hi U Q E=a U (kSl lo hi Q E) E:=rfl
def zsf:kSl lo hi Q E x U=wPart lo U (kSl1 x hi Q E) E:=rfl
def zrV:kSl1 x hi Q E l U=wPart hi U (kSl2 x l Q) E:=rfl
def zqt:kSl2 x l Q h U=kSl3 (zV x U) l h Q U:=rfl
def zr0:kSl3 (some d) l h Q U=kV (slD d l h) Q U:=rfl
def wNx (D:Ends) (k:Env->Prop):Ends:={ D with nx:=k }
def e_nx:(wNx D' K).nx=K:=rfl
def e_rt:(wNx D' K).rt=D'.rt:=rfl
def e_ex:(wNx D' K).ex=D'.ex:=rfl
def zox:wPass D' U=D'.nx U:=rfl
def zp9:zR v w D' U=v (wNx D' (w D')) U:=rfl
def kIf (a b:WS) (D:Ends):Bool->Env->Prop:=fun k U=>if k then a D U else b D U
def e_If:wIf t v w D' U=t U (kIf v w D') D'.ex:=rfl
def zrl:kIf v w D' true U=v D' U:=rfl
def zrI:kIf v w D' false U=w D' U:=rfl
def zpW:wRet a D' U=a U D'.rt D'.ex:=rfl
def kEx (D:Ends):WQ:=fun _ U=>D.nx U
def zn3:wExpr a D' U=a U (kEx D') D'.ex:=rfl
def zlD:kEx D' r U=D'.nx U:=rfl
def kAsg2 (g:WG) (D:Ends) (o:Option (S×Env)):Prop:=zJ o fun p=>g p.1 p.2 D.nx
def kAsg (g:WG) (D:Ends):WQ:=fun r U=>kAsg2 g D (give r U)
def zq5:zT g a D' U=a U (kAsg g D') D'.ex:=rfl
def znB:kAsg g D' r U=kAsg2 g D' (give r U):=rfl
def zob:kAsg2 g D' (some (s,U))=g s U D'.nx:=rfl
def e_gN:zI i s U K=K (U.set i (some s)):=rfl
def kGT (gs:List WG) (d:D) (U:Env) (Q:Env->Prop):Prop:=match d with | .tup ds=>ds.length=gs.length/\gTups gs ds U Q | _=>False
def e_gT:gTup gs s U K=kGT gs s.toD U K:=rfl
def zpP:kGT gs (.tup ds) U K=(ds.length=gs.length/\gTups gs ds U K):=rfl
def kGTs (gs:List WG) (ds:List D) (Q:Env->Prop):Env->Prop:=fun U=>gTups gs ds U Q
def zqY:gTups [] [] U K=K U:=rfl
def zqp:gTups (g::gs) (d::ds) U K=g (.sh d) U (kGTs gs ds K):=rfl
def zqb:kGTs gs ds K U=gTups gs ds U K:=rfl
def kSet5 (j:Nat) (D:Ends) (x:R) (q:FL.D) (s:S) (o:Option S) (U:Env):Prop:=match x,q,o with
 | .loc k,.int n,some (.lst l)=>k=j/\zJ (ixN l.length n) fun m=>D.nx (U.set j (some (.lst (l.set m s))))
 | _,_,_=>False
def kSet4 (j:Nat) (D:Ends) (x:R) (o:Option FL.D) (p:Option (S×Env)):Prop:=zJ o fun q=>zJ p fun p=>kSet5 j D x q p.1 (slot p.2 j) p.2
def kSet3 (j:Nat) (D:Ends) (r x:R):WQ:=fun y U=>kSet4 j D x (view y U) (give r U)
def kSet2 (j:Nat) (i:WE) (D:Ends) (r:R):WQ:=fun x U=>i U (kSet3 j D r x) D.ex
def kSet1 (j:Nat) (i:WE) (D:Ends):WQ:=fun r U=>zF j U (kSet2 j i D r) D.ex
theorem zr7:wSetIx j a b D' U=b U (kSet1 j a D') D'.ex:=by unfold wSetIx kSet1 kSet2 kSet3 kSet4 kSet5; rfl
def zpa:kSet1 j a D' r U=zF j U (kSet2 j a D' r) D'.ex:=rfl
def zmM:kSet2 j a D' r x U=a U (kSet3 j D' r x) D'.ex:=rfl
def zow:kSet3 j D' r x y U=kSet4 j D' x (view y U) (give r U):=rfl
def znU:kSet4 j D' x (some q) (some (s,U))=kSet5 j D' x q s (slot U j) U:=rfl
theorem zhg (h0:0<=z) (h1:z < l.length):kSet5 j D' (.loc j) (.int z) s (some (.lst l)) U=D'.nx (U.set j (some (.lst (l.set z.toNat s)))):=by
 show (j=j/\zJ (ixN l.length z) _)=_
 unfold ixN
 rw [zc h0,zc h1,zbM]
 simp
theorem zmC:kSet5 j D' (.loc j) (.int 0) s (some (.lst [s0,s1])) U=D'.nx (U.set j (some (.lst [s,s1]))):=zhg (by decide) (by show (0:Int) < 2; decide)
theorem zms:kSet5 j D' (.loc j) (.int 1) s (some (.lst [s0,s1])) U=D'.nx (U.set j (some (.lst [s0,s]))):=zhg (by decide) (by show (1:Int) < 2; decide)
def kDp5 (j:Nat) (D:Ends) (q:FL.D) (s:S) (o:Option S) (U:Env):Prop:=match o with
 | some (.dct t ks l)=>isKey t q=true/\ks.Nodup/\ks.length < big/\D.nx (U.set j (some (dputS t ks l q s)))
 | _=>False
def kDp4 (j:Nat) (D:Ends) (x:R) (o:Option FL.D) (p:Option (S×Env)):Prop:=zJ o fun q=>zJ p fun p=>match x with
 | .loc k=>k=j/\kDp5 j D q p.1 (slot p.2 j) p.2
 | _=>False
def kDp3 (j:Nat) (D:Ends) (r x:R):WQ:=fun y U=>kDp4 j D x (view y U) (give r U)
def kDp2 (j:Nat) (i:WE) (D:Ends) (r:R):WQ:=fun x U=>i U (kDp3 j D r x) D.ex
def kDp1 (j:Nat) (i:WE) (D:Ends):WQ:=fun r U=>zF j U (kDp2 j i D r) D.ex
theorem e_Dp:wDput j a b D' U=b U (kDp1 j a D') D'.ex:=by
 have e:(fun (r:R) (U1:Env)=>zF j U1 (fun x U2=>a U2 (fun y U3=>zJ (view y U3) fun q=>zJ (give r U3) fun p=>match x,slot p.2 j with
  | .loc k,some (.dct t ks l)=>k=j/\isKey t q=true/\ks.Nodup/\ks.length < big/\D'.nx (p.2.set j (some (dputS t ks l q p.1)))
  | _,_=>False) D'.ex) D'.ex)=kDp1 j a D':=by
  funext r U1
  unfold kDp1 kDp2 kDp3 kDp4 kDp5
  congr 1
  funext x U2
  congr 1
  funext y U3
  cases view y U3 with
  | none=>rfl
  | some q=>
    cases give r U3 with
    | none=>rfl
    | some p=>
      simp only [zbM]
      cases x with
      | v s=>cases slot p.2 j <;> rfl
      | loc k=>
        cases slot p.2 j with
        | none=>simp
        | some s=>
          cases s with
          | dct t ks l=>simp
          | _=>simp
 exact congrArg (fun z=>b U z D'.ex) e
def zqZ:kDp1 j a D' r U=zF j U (kDp2 j a D' r) D'.ex:=rfl
def zpz:kDp2 j a D' r x U=a U (kDp3 j D' r x) D'.ex:=rfl
def zrt:kDp3 j D' r x y U=kDp4 j D' x (view y U) (give r U):=rfl
theorem zrS:kDp4 j D' (.loc j) (some q) (some (s,U))=kDp5 j D' q s (slot U j) U:=by show (j=j/\_)=_; simp
def zoc:kDp5 j D' q s (some (.dct true ks l)) U=(isKey true q=true/\ks.Nodup/\ks.length < big/\D'.nx (U.set j (some (dputS true ks l q s)))):=rfl
def kIt3 (o:Option (List D)) (U:Env) (Q:List D->Env->Prop):Prop:=zJ o fun l=>Q l U
def kIt2 (o:Option (S×Env)) (Q:List D->Env->Prop):Prop:=zJ o fun p=>kIt3 (items p.1.toD) p.2 Q
def kIt (Q:List D->Env->Prop):WQ:=fun r U=>kIt2 (give r U) Q
def e_It:wIter a U QI E=a U (kIt QI) E:=rfl
def zsk:kIt QI r U=kIt2 (give r U) QI:=rfl
def zqQ:kIt2 (some (s,U)) QI=kIt3 (items s.toD) U QI:=rfl
def zpQ:kIt3 (some l) U QI=QI l U:=rfl
def zpI:items (.lst l)=some l:=rfl
def zrw:items (.tup l)=some l:=rfl
def kEn3 (o:Option (List D)) (U:Env) (Q:List D->Env->Prop):Prop:=zJ o fun l=>Q (enumF 0 l) U
def kEn2 (o:Option (S×Env)) (Q:List D->Env->Prop):Prop:=zJ o fun p=>kEn3 (items p.1.toD) p.2 Q
def kEn (Q:List D->Env->Prop):WQ:=fun r U=>kEn2 (give r U) Q
def e_En:wEnum a U QI E=a U (kEn QI) E:=rfl
def zrJ:kEn QI r U=kEn2 (give r U) QI:=rfl
def zpL:kEn2 (some (s,U)) QI=kEn3 (items s.toD) U QI:=rfl
def zp0:kEn3 (some l) U QI=QI (enumF 0 l) U:=rfl
def kZi4 (o p:Option (List D)) (U:Env) (Q:List D->Env->Prop):Prop:=zJ o fun l=>zJ p fun m=>Q (zipD l m) U
def kZi3 (s:S) (o:Option (S×Env)) (Q:List D->Env->Prop):Prop:=zJ o fun q=>kZi4 (items s.toD) (items q.1.toD) q.2 Q
def kZi2 (t:R) (o:Option (S×Env)) (Q:List D->Env->Prop):Prop:=zJ o fun p=>kZi3 p.1 (give t p.2) Q
def kZi1 (r:R) (Q:List D->Env->Prop):WQ:=fun t U=>kZi2 t (give r U) Q
def kZi (b:WE) (Q:List D->Env->Prop) (E:WX):WQ:=fun r U=>b U (kZi1 r Q) E
def e_Zi:wZip a b U QI E=a U (kZi b QI E) E:=rfl
def zpY:kZi b QI E r U=b U (kZi1 r QI) E:=rfl
def zpV:kZi1 r QI x U=kZi2 x (give r U) QI:=rfl
def zqw:kZi2 x (some (s,U)) QI=kZi3 s (give x U) QI:=rfl
def zrW:kZi3 s' (some (s,U)) QI=kZi4 (items s'.toD) (items s.toD) U QI:=rfl
def zsj {l m:List D}:kZi4 (some l) (some m) U QI=QI (zipD l m) U:=rfl
def kR1b (o:Option D) (Q:List D->Env->Prop) (U:Env):Prop:=match o with | some (.int j)=>(-big<=j/\j<=big)/\Q (fromTo 0 j.toNat) U | _=>False
def kR1 (Q:List D->Env->Prop):WQ:=fun r U=>kR1b (view r U) Q U
def e_R1:wRange1 a U QI E=a U (kR1 QI) E:=rfl
def zrC:kR1 QI r U=kR1b (view r U) QI U:=rfl
def zq8:kR1b (some (.int z)) QI U=((-big<=z/\z<=big)/\QI (fromTo 0 z.toNat) U):=rfl
def kR2b (o p:Option D) (Q:List D->Env->Prop) (U:Env):Prop:=match o,p with | some (.int i),some (.int j)=>(-big<=i/\i<=big/\-big<=j/\j<=big)/\Q (fromTo i (j - i).toNat) U | _,_=>False
def kR2a (r:R) (Q:List D->Env->Prop):WQ:=fun t U=>kR2b (view r U) (view t U) Q U
def kR2 (b:WE) (Q:List D->Env->Prop) (E:WX):WQ:=fun r U=>b U (kR2a r Q) E
def e_R2:wRange2 a b U QI E=a U (kR2 b QI E) E:=rfl
def zrm:kR2 b QI E r U=b U (kR2a r QI) E:=rfl
def zqR:kR2a r QI x U=kR2b (view r U) (view x U) QI U:=rfl
def zrv:kR2b (some (.int z)) (some (.int z')) QI U=((-big<=z/\z<=big/\-big<=z'/\z'<=big)/\QI (fromTo z (z' - z).toNat) U):=rfl
def kFor (g:WG) (b:WS) (D:Ends):List FL.D->Env->Prop:=fun l U=>wLoop g b l D U
def zrY:wFor it g v D' U=it U (kFor g v D') D'.ex:=rfl
def zmV:kFor g v D' l U=wLoop g v l D' U:=rfl
def lpE (g:WG) (b:WS) (xs:List FL.D) (D:Ends):Ends:={ D with nx:=wLoop g b xs D,ct:=wLoop g b xs D,bk:=D.nx }
def kLp (g:WG) (b:WS) (xs:List FL.D) (D:Ends):Env->Prop:=fun U=>b (lpE g b xs D) U
def e_Lp:wLoop g v (d::xs) D' U=g (.sh d) U (kLp g v xs D'):=rfl
def kLCr2 (n:Nat) (o:Option S) (U:Env) (Q:WQ):Prop:=zJ o fun s=>Q (.v s) (U.take n)
def kLCr (n:Nat) (Q:WQ):Env->Prop:=fun U=>kLCr2 n (slot U n) U Q
def kLCx (n:Nat) (E:WX):WX:=NX
def kLC (n k:Nat) (g:WG) (c:WT) (b:WB) (Q:WQ) (E:WX):List D->Env->Prop:=fun l U=>bLoop g c b l (U++some (.lst [])::List.replicate k none) (kLCr n Q) (kLCx n E)
def e_LC:wLC n m it g c bb U Q E=it U (kLC n m g c bb Q E) E:=rfl
def zrp:kLC n m g c bb Q E l U=bLoop g c bb l (U++some (.lst [])::List.replicate m none) (kLCr n Q) (kLCx n E):=rfl
def zqP:kLCr n Q U=kLCr2 n (slot U n) U Q:=rfl
def znj:kLCr2 n (some s) U Q=Q (.v s) (U.take n):=rfl
def kbL3 (g:WG) (c:WT) (b:WB) (xs:List D) (Q:Env->Prop) (E:WX):Env->Prop:=fun U=>bLoop g c b xs U Q E
def kbL2 (g:WG) (c:WT) (b:WB) (xs:List D) (Q:Env->Prop) (E:WX):Bool->Env->Prop:=fun k U=>if k then b U (kbL3 g c b xs Q E) E else bLoop g c b xs U Q E
def kbL (g:WG) (c:WT) (b:WB) (xs:List D) (Q:Env->Prop) (E:WX):Env->Prop:=fun U=>c U (kbL2 g c b xs Q E) E
def e_bL:bLoop g c bb (d::xs) U QE E=g (.sh d) U (kbL g c bb xs QE E):=rfl
def zqn:kbL g c bb xs QE E U=c U (kbL2 g c bb xs QE E) E:=rfl
def zmL:kbL2 g c bb xs QE E true U=bb U (kbL3 g c bb xs QE E) E:=rfl
def zqW:kbL3 g c bb xs QE E U=bLoop g c bb xs U QE E:=rfl
def kEm3 (n:Nat) (s:S) (o:Option S) (U:Env) (Q:Env->Prop):Prop:=match o with
 | some (.lst l)=>l.length < big/\Q (U.set n (some (.lst (l++[s]))))
 | _=>False
def kEm2 (n:Nat) (o:Option (S×Env)) (Q:Env->Prop):Prop:=zJ o fun p=>kEm3 n p.1 (slot p.2 n) p.2 Q
def kEm (n:Nat) (Q:Env->Prop):WQ:=fun r U=>kEm2 n (give r U) Q
theorem e_Em:bEmit n a U QE E=a U (kEm n QE) E:=by unfold bEmit kEm kEm2 kEm3; rfl
def zp4:kEm n QE r U=kEm2 n (give r U) QE:=rfl
def zq1:kEm2 n (some (s,U)) QE=kEm3 n s (slot U n) U QE:=rfl
def zrB:kEm3 n s (some (.lst l)) U QE=(l.length < big/\QE (U.set n (some (.lst (l++[s]))))):=rfl
def kbF (g:WG) (c:WT) (b:WB) (Q:Env->Prop) (E:WX):List D->Env->Prop:=fun l U=>bLoop g c b l U Q E
def e_bF:bFor it g c bb U QE E=it U (kbF g c bb QE E) E:=rfl
def zsh:kbF g c bb QE E l U=bLoop g c bb l U QE E:=rfl
def zpE:wYes U QT E=QT true U:=rfl
def kFn (o:Option (List S)) (P:S->List S->Prop) (s:S):Prop:=zJ o fun fs=>P s fs
def kRt2 (n:Nat) (ss:List S) (P:S->List S->Prop) (i:Nat) (o:Option S) (U:Env):Prop:=zJ o fun s=>if i < n then kFn (finals ss (U.set i (some (.sh s.toD)))) P (.sh s.toD) else kFn (finals ss U) P s
def kRt (n:Nat) (ss:List S) (P:S->List S->Prop):WQ:=fun r U=>match r with
 | .v s=>kFn (finals ss U) P s
 | .loc i=>kRt2 n ss P i (slot U i) U
def fnE (n:Nat) (ss:List S) (P:S->List S->Prop) (PX:D->List S->Prop):Ends where
 nx:=fun U=>kFn (finals ss U) P (.sh .non)
 rt:=kRt n ss P
 bk:=fun _=>False
 ct:=fun _=>False
 ex:=fun x U=>zJ (finals ss U) fun fs=>PX x fs
theorem zaV (hl:ss.length=n) (hk:((List.range ss.length).all fun i=>decide (i∈ks))=true) (h:v (fnE n ss P PX) (ss.map some++List.replicate (m - n) none)):wFn n m ks v ss P PX:=by
 refine ⟨hl,fun i s hi=>?_,h⟩
 have:=(qi.mp hi).1
 exact .inl (by simpa using qL.mp hk i (by simpa using this))
def zrf:(fnE n ss P PX).rt=kRt n ss P:=rfl
def e_Rt:kRt n ss P (.v s) U=kFn (finals ss U) P s:=rfl
def zp3:kRt n ss P (.loc i) U=kRt2 n ss P i (slot U i) U:=rfl
theorem zqu (h:¬ i < n):kRt2 n ss P i (some s) U=kFn (finals ss U) P s:=by show (if i < n then _ else _)=_; rw [zi h]
def e_Fn:kFn (some fs) P s=P s fs:=rfl
def fA (s:S):Option (List S)->Option (List S)
 | some fs=>some (s::fs)
 | none=>none
theorem e_f0:finals [] U=some []:=by cases U <;> rfl
theorem e_fs:finals (.sh d::ss) (o::U)=fA (.sh d) (finals ss U):=by
 show (finals ss U).map _=_; cases finals ss U <;> rfl
theorem e_fl:finals (.lst l::ss) (some s::U)=fA s (finals ss U):=by
 show (finals ss U).map _=_; cases finals ss U <;> rfl
def e_fA:fA s (some fs)=some (s::fs):=rfl
def zqD:oAdd (.int i) (.int j)=some (.sh (.int (i + j))):=rfl
theorem zop (h:x.length + y.length<=big):oAdd (.str x) (.str y)=some (.sh (.str (x++y))):=zc h
theorem zoS (h:l.length + m.length<=big):oAdd (.lst l) (.lst m)=some (.lst ((l++m).map .sh)):=zc h
theorem zoE (h:l.length + m.length<=big):oAdd (.tup l) (.tup m)=some (.sh (.tup (l++m))):=zc h
def zqO:oSub (.int i) (.int j)=some (.sh (.int (i - j))):=rfl
theorem znk (h:-(2 ^ 64) < i/\i < 2 ^ 64):oMul (.int i) (.int j)=some (.sh (.int (i * j))):=by
 show (if mulOk i j=true then _ else none)=_
 rw [zc (by simp only [mulOk,h.1,h.2,decide_true,Bool.and_self,Bool.true_or])]
theorem zpS (h:0 < j):oMod (.int i) (.int j)=some (.sh (.int (i % j))):=zc h
theorem znw (h:0 < j) (h2:j < 18446744073709551616):oFdiv (.int i) (.int j)=some (.sh (.int (i / j))):=zc ⟨h,h2⟩
theorem zqy (h:0<=j/\j<=1000/\i.natAbs < 2 ^ 64):oPow (.int i) (.int j)=some (.sh (.int (i ^ j.toNat))):=zc h
def zpD:oNeg (.int i)=some (.sh (.int (-i))):=rfl
def e_lt:cLt (.int i) (.int j)=some (decide (i < j)):=rfl
def e_gt:cGt (.int i) (.int j)=some (decide (j < i)):=rfl
def e_le:cLe (.int i) (.int j)=some (decide (i<=j)):=rfl
def e_ge:cGe (.int i) (.int j)=some (decide (j<=i)):=rfl
theorem zpm:cEq (.int i) (.int j)=some (decide (i=j)):=by
 unfold cEq
 rw [zi (by exact fun z=>Bool.noConfusion (show false=true from z))]
 simp
theorem zpC:cNe (.int i) (.int j)=some (!decide (i=j)):=by unfold cNe; rw [zpm]; rfl
theorem zoy:cEq (.str x) (.str y)=some (decide (x=y)):=by
 unfold cEq
 rw [zi (by exact fun z=>Bool.noConfusion (show false=true from z))]
 simp
theorem zsg:cNe (.str x) (.str y)=some (!decide (x=y)):=by unfold cNe; rw [zoy]; rfl
def zsl:truth (.bl b)=some b:=rfl
def zmK:bLen [.str x]=some (.sh (.int x.length)):=rfl
def zoF:bLen [.tup l]=some (.sh (.int l.length)):=rfl
def zm6:bLen [.lst l]=some (.sh (.int l.length)):=rfl
def zmE:bInt [.bl b]=some (.sh (.int (if b then 1 else 0))):=rfl
def zng:bTuple [.lst l]=some (.sh (.tup l)):=rfl
def zm5:bListA [.tup l]=some (.lst (l.map .sh)):=rfl
def zoY:bListA [.lst l]=some (.lst (l.map .sh)):=rfl
theorem zpl (h:x.length<=big):bListA [.str x]=some (.lst (x.map fun c=>.sh (.str [c]))):=zc h
def zqM:bMax [.int i,.int j]=some (.sh (.int (if j > i then j else i))):=rfl
def zpM:bMin [.int i,.int j]=some (.sh (.int (if j < i then j else i))):=rfl
def zra:slD (.str x) a b=some (.sh (.str (cutL x a b))):=rfl
def zqx:slD (.tup l) a b=some (.sh (.tup (cutL l a b))):=rfl
def zr8:slD (.lst l) a b=some (.lst ((cutL l a b).map .sh)):=rfl
def zqF:zF 0 (some (.sh d)::U) Q E=Q (.v (.sh d)) (some (.sh d)::U):=rfl
def zrh:zF 0 (some (.lst l)::U) Q E=Q (.loc 0) (some (.lst l)::U):=rfl
def zq4:slot (v::U) 0=v:=rfl
def zp7:List.set (u::U) 0 v=v::U:=rfl
def zrM:zF 1 (s0::some (.sh d)::U) Q E=Q (.v (.sh d)) (s0::some (.sh d)::U):=rfl
def zpG:zF 1 (s0::some (.lst l)::U) Q E=Q (.loc 1) (s0::some (.lst l)::U):=rfl
def zrG:slot (s0::v::U) 1=v:=rfl
def zqz:List.set (s0::u::U) 1 v=s0::v::U:=rfl
def zrx:zF 2 (s0::s1::some (.sh d)::U) Q E=Q (.v (.sh d)) (s0::s1::some (.sh d)::U):=rfl
def zqj:zF 2 (s0::s1::some (.lst l)::U) Q E=Q (.loc 2) (s0::s1::some (.lst l)::U):=rfl
def zqJ:slot (s0::s1::v::U) 2=v:=rfl
def zrO:List.set (s0::s1::u::U) 2 v=s0::s1::v::U:=rfl
def zqc:zF 3 (s0::s1::s2::some (.sh d)::U) Q E=Q (.v (.sh d)) (s0::s1::s2::some (.sh d)::U):=rfl
def zsm:zF 3 (s0::s1::s2::some (.dct t ks l)::U) Q E=Q (.loc 3) (s0::s1::s2::some (.dct t ks l)::U):=rfl
def zse:slot (s0::s1::s2::v::U) 3=v:=rfl
def zrN:List.set (s0::s1::s2::u::U) 3 v=s0::s1::s2::v::U:=rfl
def zqe:zF 4 (s0::s1::s2::s3::some (.sh d)::U) Q E=Q (.v (.sh d)) (s0::s1::s2::s3::some (.sh d)::U):=rfl
def zp6:zF 4 (s0::s1::s2::s3::some (.lst l)::U) Q E=Q (.loc 4) (s0::s1::s2::s3::some (.lst l)::U):=rfl
def zrQ:slot (s0::s1::s2::s3::v::U) 4=v:=rfl
def zqS:List.set (s0::s1::s2::s3::u::U) 4 v=s0::s1::s2::s3::v::U:=rfl
def zqB:zF 5 (s0::s1::s2::s3::s4::some (.sh d)::U) Q E=Q (.v (.sh d)) (s0::s1::s2::s3::s4::some (.sh d)::U):=rfl
def zrb:slot (s0::s1::s2::s3::s4::v::U) 5=v:=rfl
def zr9:List.set (s0::s1::s2::s3::s4::u::U) 5 v=s0::s1::s2::s3::s4::v::U:=rfl
def zrK:zF 6 (s0::s1::s2::s3::s4::s5::some (.sh d)::U) Q E=Q (.v (.sh d)) (s0::s1::s2::s3::s4::s5::some (.sh d)::U):=rfl
def zpH:slot (s0::s1::s2::s3::s4::s5::v::U) 6=v:=rfl
def zrg:List.set (s0::s1::s2::s3::s4::s5::u::U) 6 v=s0::s1::s2::s3::s4::s5::v::U:=rfl
def zpB:zF 7 (s0::s1::s2::s3::s4::s5::s6::some (.sh d)::U) Q E=Q (.v (.sh d)) (s0::s1::s2::s3::s4::s5::s6::some (.sh d)::U):=rfl
def zpF:slot (s0::s1::s2::s3::s4::s5::s6::v::U) 7=v:=rfl
def zr5:List.set (s0::s1::s2::s3::s4::s5::s6::u::U) 7 v=s0::s1::s2::s3::s4::s5::s6::v::U:=rfl
def zr1:zF 8 (s0::s1::s2::s3::s4::s5::s6::s7::some (.sh d)::U) Q E=Q (.v (.sh d)) (s0::s1::s2::s3::s4::s5::s6::s7::some (.sh d)::U):=rfl
def zre:List.set (s0::s1::s2::s3::s4::s5::s6::s7::u::U) 8 v=s0::s1::s2::s3::s4::s5::s6::s7::v::U:=rfl
def zsc:zF 9 (s0::s1::s2::s3::s4::s5::s6::s7::s8::some (.sh d)::U) Q E=Q (.v (.sh d)) (s0::s1::s2::s3::s4::s5::s6::s7::s8::some (.sh d)::U):=rfl
def zqg:List.set (s0::s1::s2::s3::s4::s5::s6::s7::s8::u::U) 9 v=s0::s1::s2::s3::s4::s5::s6::s7::s8::v::U:=rfl
def zmZ:zF 10 (s0::s1::s2::s3::s4::s5::s6::s7::s8::s9::some (.sh d)::U) Q E=Q (.v (.sh d)) (s0::s1::s2::s3::s4::s5::s6::s7::s8::s9::some (.sh d)::U):=rfl
def znm:List.set (s0::s1::s2::s3::s4::s5::s6::s7::s8::s9::u::U) 10 v=s0::s1::s2::s3::s4::s5::s6::s7::s8::s9::v::U:=rfl
def zoq:zF 11 (s0::s1::s2::s3::s4::s5::s6::s7::s8::s9::s10::some (.sh d)::U) Q E=Q (.v (.sh d)) (s0::s1::s2::s3::s4::s5::s6::s7::s8::s9::s10::some (.sh d)::U):=rfl
def zmW:slot (s0::s1::s2::s3::s4::s5::s6::s7::s8::s9::s10::v::U) 11=v:=rfl
def zpf:List.set (s0::s1::s2::s3::s4::s5::s6::s7::s8::s9::s10::u::U) 11 v=s0::s1::s2::s3::s4::s5::s6::s7::s8::s9::s10::v::U:=rfl
def znH:zF 12 (s0::s1::s2::s3::s4::s5::s6::s7::s8::s9::s10::s11::some (.sh d)::U) Q E=Q (.v (.sh d)) (s0::s1::s2::s3::s4::s5::s6::s7::s8::s9::s10::s11::some (.sh d)::U):=rfl
def znI:List.set (s0::s1::s2::s3::s4::s5::s6::s7::s8::s9::s10::s11::u::U) 12 v=s0::s1::s2::s3::s4::s5::s6::s7::s8::s9::s10::s11::v::U:=rfl
def zpj:slot (s0::s1::s2::s3::s4::s5::s6::s7::s8::s9::s10::s11::s12::v::U) 13=v:=rfl
def znO:List.set (s0::s1::s2::s3::s4::s5::s6::s7::s8::s9::s10::s11::s12::u::U) 13 v=s0::s1::s2::s3::s4::s5::s6::s7::s8::s9::s10::s11::s12::v::U:=rfl
def znf:zF 14 (s0::s1::s2::s3::s4::s5::s6::s7::s8::s9::s10::s11::s12::s13::some (.sh d)::U) Q E=Q (.v (.sh d)) (s0::s1::s2::s3::s4::s5::s6::s7::s8::s9::s10::s11::s12::s13::some (.sh d)::U):=rfl
def zmQ:List.set (s0::s1::s2::s3::s4::s5::s6::s7::s8::s9::s10::s11::s12::s13::u::U) 14 v=s0::s1::s2::s3::s4::s5::s6::s7::s8::s9::s10::s11::s12::s13::v::U:=rfl
def znx:kBin2 o (.v (.sh p)) Q (.v (.sh q)) U=kV (o p q) Q U:=rfl
def zpk:kCmp2 oc (.v (.sh p)) QT (.v (.sh q)) U=kC (oc p q) QT U:=rfl
def zm2:kCmp2 oc (.v (.sh p)) QT (.v (.lst m)) U=kCmp3 oc (some p) (some (S.lst m).toD) QT U:=rfl
def zoD:kCmp2 oc (.v (.sh p)) QT (.loc k) U=kCmp3 oc (some p) (view (.loc k) U) QT U:=rfl
def zmN:kBin2 o (.v (.lst l)) Q (.v (.sh q)) U=kBin3 o (some (S.lst l).toD) (some q) Q U:=rfl
def zn4:kBin2 o (.v (.lst l)) Q (.v (.lst m)) U=kBin3 o (some (S.lst l).toD) (some (S.lst m).toD) Q U:=rfl
def zps:kBin2 o (.loc j) Q (.v (.lst m)) U=kBin3 o (zV (.loc j) U) (some (S.lst m).toD) Q U:=rfl
def zo4:kCmp2 oc (.loc j) QT (.v (.lst m)) U=kCmp3 oc (view (.loc j) U) (some (S.lst m).toD) QT U:=rfl
def zq6:cInA d (.lst l)=cIn d (.lst l):=rfl
def zpK:cInA d (.dct t ks vs)=cIn d (.dct t ks vs):=rfl
def zoW:cNotInA p q=(cInA p q).map (!·):=rfl
def kAA4 (j m:Nat) (l l':List S) (Q:WQ) (o:Option (S×Env)):Prop:=zJ o fun p=>l'.length < big/\Q (.v (.sh .non)) (p.2.set j (some (.lst (l.set m (.lst (l'++[p.1]))))))
def kAA3 (j m:Nat) (l l':List S) (Q:WQ):WQ:=fun r U=>kAA4 j m l l' Q (give r U)
def kAA2b (j m:Nat) (l:List S) (e:WE) (o:Option S) (U:Env) (Q:WQ) (E:WX):Prop:=match o with
 | some (.lst l')=>e (U.set j none) (kAA3 j m l l' Q) E
 | _=>False
def kAA2 (j:Nat) (e:WE) (n:Int) (l:List S) (U:Env) (Q:WQ) (E:WX):Prop:=zJ (ixN l.length n) fun m=>kAA2b j m l e l[m]? U Q E
def kAA1 (j:Nat) (e:WE) (o:Option D) (p:Option S) (U:Env) (Q:WQ) (E:WX):Prop:=match o,p with
 | some (.int n),some (.lst l)=>kAA2 j e n l U Q E
 | _,_=>False
def kAA0 (j:Nat) (e:WE) (Q:WQ) (E:WX):WQ:=fun y U=>kAA1 j e (view y U) (slot U j) U Q E
def kAA (j:Nat) (o:Option S) (i e:WE) (U:Env) (Q:WQ) (E:WX):Prop:=match o with
 | some (.lst _)=>i U (kAA0 j e Q E) E
 | _=>False
theorem e_AA:wAppendAt j a b U Q E=kAA j (slot U j) a b U Q E:=by first | rfl | assumption | (simp_all; done)
def zqN {l:List S}:kAA j (some (.lst l)) a b U Q E=a U (kAA0 j b Q E) E:=rfl
def zqT:kAA0 j b Q E y U=kAA1 j b (view y U) (slot U j) U Q E:=rfl
def zp2 {n:Int} {l:List S}:kAA1 j b (some (.int n)) (some (.lst l)) U Q E=kAA2 j b n l U Q E:=rfl
def zrR {l l':List S}:kAA3 j m l l' Q r U=kAA4 j m l l' Q (give r U):=rfl
def zqU {l l':List S}:kAA4 j m l l' Q (some (s,U))=(l'.length < big/\Q (.v (.sh .non)) (U.set j (some (.lst (l.set m (.lst (l'++[s]))))))):=rfl
theorem zgs {z:Int} {l l':List S} (h0:0<=z) (h1:l[z.toNat]?=some (.lst l')):kAA2 j b z l U Q E=b (U.set j none) (kAA3 j z.toNat l l' Q) E:=by
 have:z.toNat < l.length:=(qi.mp h1).1
 unfold kAA2 ixN
 rw [zc h0,zc (by lia),zbM,h1]
 rfl
def kFz2 (Q:WQ) (o:Option (S×Env)):Prop:=zJ o fun p=>Q (.v (.sh p.1.toD)) p.2
def kFz (Q:WQ):WQ:=fun r U=>kFz2 Q (give r U)
def zqX:wFrz a U Q E=a U (kFz Q) E:=rfl
def zpd:kFz Q r U=kFz2 Q (give r U):=rfl
def znE:kFz2 Q (some (s,U))=Q (.v (.sh s.toD)) U:=rfl
def kFzN2 (i:Nat) (D:Ends) (o:Option S) (U:Env):Prop:=zJ o fun s=>D.nx (U.set i (some (.sh s.toD)))
def kFzN (i:Nat) (D:Ends):Env->Prop:=fun U=>kFzN2 i D (slot U i) U
def zsd:wFz i v D' U=v (wNx D' (kFzN i D')) U:=rfl
def zoA:kFzN i D' U=kFzN2 i D' (slot U i) U:=rfl
def zot:kFzN2 i D' (some s) U=D'.nx (U.set i (some (.sh s.toD))):=rfl
def kXA4 (o:Option (Option D)) (Q:WQ) (U:Env):Prop:=zJ o fun o=>zJ o fun e=>Q (.v (.sh e)) U
def kXA3 (o p:Option D) (Q:WQ) (U:Env):Prop:=zJ o fun d=>zJ p fun q=>kXA4 (lkD d q) Q U
def kXA2 (x:R) (Q:WQ):WQ:=fun y U=>kXA3 (zV x U) (view y U) Q U
def kXA1 (b:WE) (Q:WQ) (E:WX):WQ:=fun x U=>b U (kXA2 x Q) E
def e_XA:wIxA a b U Q E=a U (kXA1 b Q E) E:=rfl
def zrP:kXA1 b Q E x U=b U (kXA2 x Q) E:=rfl
def zqA:kXA2 x Q y U=kXA3 (zV x U) (view y U) Q U:=rfl
def zpN:kXA3 (some d) (some q) Q U=kXA4 (lkD d q) Q U:=rfl
def zqL:kXA4 (some (some d)) Q U=Q (.v (.sh d)) U:=rfl
theorem zoG:vC (some (.dct t ks (vs.map S.sh)))=some (.dct t ks vs):=by
 show (if (vs.map S.sh).all S.isSh=true then some (S.toD (.dct t ks (vs.map S.sh))) else none)=_
 rw [zc e_sh,S.toD_dct,zar]
def kLI (Q:WQ):List D->Env->Prop:=fun l U=>l.length<=big/\Q (.v (.lst (l.map .sh))) U
def kTI (Q:WQ):List D->Env->Prop:=fun l U=>l.length<=big/\Q (.v (.sh (.tup l))) U
def e_LI:wListI it U Q E=it U (kLI Q) E:=rfl
def zru:kLI Q l U=(l.length<=big/\Q (.v (.lst (l.map .sh))) U):=rfl
def e_TI:wTupI it U Q E=it U (kTI Q) E:=rfl
def zq0:kTI Q l U=(l.length<=big/\Q (.v (.sh (.tup l))) U):=rfl
def kTR2 (o:Option D) (Q:WQ) (U:Env):Prop:=zJ o fun d=>match d with
 | .tup l=>l.length<=big/\Q (.v (.sh (.tup l.reverse))) U
 | _=>False
def kTR (Q:WQ):WQ:=fun r U=>kTR2 (zV r U) Q U
theorem e_TR:wTupRev a U Q E=a U (kTR Q) E:=by unfold wTupRev kTR kTR2; rfl
def zqm:kTR Q r U=kTR2 (zV r U) Q U:=rfl
def zqV:kTR2 (some (.tup l)) Q U=(l.length<=big/\Q (.v (.sh (.tup l.reverse))) U):=rfl
def zpn {z z':Int}:oMulA (.int z) (.int z')=oMul (.int z) (.int z'):=rfl
theorem uB {w v:WB} (h:w=v) (U:Env) (Q:Env->Prop) (E:WX):w U Q E=v U Q E:=by rw [h]
theorem uS {w v:WS} (h:w=v) (D':Ends) (U:Env):w D' U=v D' U:=by rw [h]
section
variable {U:Env} {Q:WQ} {E:WX} {a:WE} {r:R} {j:Nat} {d:D} {l:List D} {x:List Nat} {s:S} {o:Option S}
def kDt3 (o:Option D) (p:Option (S×Env)) (Q:WQ):Prop:=zJ o fun q=>zJ p fun p=>isKey true q=true/\Q (.v (.dct true [q] [p.1])) p.2
def kDt2 (x:R) (Q:WQ):WQ:=fun y U=>kDt3 (view x U) (give y U) Q
def kDt1 (v:WE) (Q:WQ) (E:WX):WQ:=fun x U=>v U (kDt2 x Q) E
def e_Dt:wDispT a b U Q E=a U (kDt1 b Q E) E:=rfl
def zro {x:R}:kDt1 b Q E x U=b U (kDt2 x Q) E:=rfl
def zrd {x y:R}:kDt2 x Q y U=kDt3 (view x U) (give y U) Q:=rfl
def zrz:kDt3 (some q) (some (s,U)) Q=(isKey true q=true/\Q (.v (.dct true [q] [s])) U):=rfl
def kLIt (j:Nat) (o:Option S) (U:Env) (Q:WQ):Prop:=match o with
 | some (.dct true ks l)=>(l.all S.isSh=true/\ks.all isIT=true/\ks.length<=big)/\Q (.v (.lst ((zipD ks (l.map S.toD)).map .sh))) U
 | _=>False
theorem zq2 {U:Env} {Q:WQ} {E:WX} {j:Nat}:wListIt j U Q E=kLIt j (slot U j) U Q:=by unfold wListIt kLIt; rfl
def zok {U:Env} {Q:WQ} {j:Nat} {ks:List D} {l:List S}:kLIt j (some (.dct true ks l)) U Q=((l.all S.isSh=true/\ks.all isIT=true/\ks.length<=big)/\Q (.v (.lst ((zipD ks (l.map S.toD)).map .sh))) U):=rfl
def kItT (j:Nat) (o:Option S) (U:Env) (Q:List D->Env->Prop):Prop:=match o with
 | some (.dct true ks l)=>l.all S.isSh=true/\ks.all isIT=true/\Q (zipD ks (l.map S.toD)) (U.set j (some (.sh (.dct true ks (l.map S.toD)))))
 | _=>False
theorem zpT {U:Env} {QI:List D->Env->Prop} {E:WX} {j:Nat}:wItemsT j U QI E=kItT j (slot U j) U QI:=by unfold wItemsT kItT; rfl
def zoN {U:Env} {QI:List D->Env->Prop} {j:Nat} {ks:List D} {l:List S}:kItT j (some (.dct true ks l)) U QI=(l.all S.isSh=true/\ks.all isIT=true/\QI (zipD ks (l.map S.toD)) (U.set j (some (.sh (.dct true ks (l.map S.toD)))))):=rfl
theorem zpX {i j:Int} (h:0<=j) (h2:j<=1000) (h3:i.natAbs < 2 ^ 64):oShl (.int i) (.int j)=some (.sh (.int (i * 2 ^ j.toNat))):=zc ⟨h,h2,h3⟩
theorem zpA {i j:Int} (h:0<=j):oShr (.int i) (.int j)=some (.sh (.int (i / 2 ^ j.toNat))):=zc h
theorem zhK {i:Int} (h:0<=i):oAnd1 (.int i) (.int 1)=some (.sh (.int (i % 2))):=zc ⟨h,rfl⟩
def zmX {s0 s1 s2 s3 s4 s5 s6 s7 s8 s9 s10 s11 s12 s13 s14:Option S} {U:Env} {Q:WQ} {E:WX} {d:D}:zF 15 (s0::s1::s2::s3::s4::s5::s6::s7::s8::s9::s10::s11::s12::s13::s14::some (.sh d)::U) Q E=Q (.v (.sh d)) (s0::s1::s2::s3::s4::s5::s6::s7::s8::s9::s10::s11::s12::s13::s14::some (.sh d)::U):=rfl
def zno {s0 s1 s2 s3 s4 s5 s6 s7 s8 s9 s10 s11 s12 s13 s14:Option S} {u v:Option S} {U:Env}:List.set (s0::s1::s2::s3::s4::s5::s6::s7::s8::s9::s10::s11::s12::s13::s14::u::U) 15 v=s0::s1::s2::s3::s4::s5::s6::s7::s8::s9::s10::s11::s12::s13::s14::v::U:=rfl
def zof {s0 s1 s2 s3 s4 s5 s6 s7 s8 s9 s10 s11 s12 s13 s14 s15:Option S} {U:Env} {Q:WQ} {E:WX} {d:D}:zF 16 (s0::s1::s2::s3::s4::s5::s6::s7::s8::s9::s10::s11::s12::s13::s14::s15::some (.sh d)::U) Q E=Q (.v (.sh d)) (s0::s1::s2::s3::s4::s5::s6::s7::s8::s9::s10::s11::s12::s13::s14::s15::some (.sh d)::U):=rfl
def zoa {s0 s1 s2 s3 s4 s5 s6 s7 s8 s9 s10 s11 s12 s13 s14 s15:Option S} {u v:Option S} {U:Env}:List.set (s0::s1::s2::s3::s4::s5::s6::s7::s8::s9::s10::s11::s12::s13::s14::s15::u::U) 16 v=s0::s1::s2::s3::s4::s5::s6::s7::s8::s9::s10::s11::s12::s13::s14::s15::v::U:=rfl
end
def sg (c:Nat):D:=.str [c]
theorem zmA (l:List Nat):strsD (l.map sg)=some (l.map fun c=>[c]):=by
 have:=zeu (l.map fun c=>[c])
 rw [qH] at this
 exact this
theorem zgq:∀ l:List Nat,((l.map fun c=>[c]).map List.length).sum=l.length
 | []=>rfl
 | c::l=>by
   have:=zgq l
   simp only [qB,sum_cons,qv,qy] at this ⊢
   lia
theorem zeR:∀ l:List Nat,(l.map fun c=>[c]).flatten=l
 | []=>rfl
 | c::l=>by
   have:=zeR l
   simp only [qB,List.flatten_cons,List.singleton_append]
   rw [this]
theorem zjc (h:l.length<=big):mJoin [] [.lst (l.map sg)]=some (.sh (.str l)):=by
 show (strsD (l.map sg)).bind _=_
 grind [zmA,List.length,big,joinD,zgq,zid,zeR]
def unsg:D->Nat
 | .str [c]=>c
 | _=>0
theorem zmf (h:l.Perm (A.map sg)):∃ A':List Nat,A'.Perm A/\l=A'.map sg:=by
 refine ⟨l.map unsg,?_,?_⟩
 ·have:=h.map unsg
  rw [qH] at this
  have e:(unsg ∘ sg)=id:=funext fun c=>rfl
  rw [e,map_id] at this
  exact this
 ·rw [qH]
  have:∀ d∈l,(sg ∘ unsg) d=id d:=fun d hd=>by
   obtain ⟨c,_,rfl⟩:=qN.mp (h.mem_iff.mp hd)
   rfl
  rw [map_congr_left this,map_id]
def zaj:big=1000000:=rfl
theorem zbw:(fromTo lo n).length=n:=by simp [fromTo]
theorem zgB {l:List D} {k:Nat} (h:l[k]?=some d):(l.map S.sh)[k]?=some (.sh d):=by rw [qI,h]; rfl
theorem zdT {α β:Type} {f:α->β} {l:List α} {z:Int} (h0:0<=z) (h1:z < l.length):∃ v,v∈l/\l[z.toNat]?=some v/\atI (l.map f) z=some (f v):=by
 have hz:z.toNat < l.length:=by lia
 exact ⟨l[z.toNat],getElem_mem hz,qj hz,zbj h0 (by rw [qI,qj hz]; rfl)⟩
theorem zew (h0:0<=z) (h1:z < l.length):∃ v,v∈l/\l[z.toNat]?=some v/\atI l z=some v:=by
 have hz:z.toNat < l.length:=by lia
 exact ⟨l[z.toNat],getElem_mem hz,qj hz,zbj h0 (qj hz)⟩
theorem zcN {α β:Type} {f:α->β}:∀ (l:List α) (k:Nat),(l.map f).eraseIdx k=(l.eraseIdx k).map f
 | [],_=>rfl
 | _::_,0=>rfl
 | x::l,k + 1=>by
   show f x::(l.map f).eraseIdx k=f x::(l.eraseIdx k).map f
   rw [zcN l k]
theorem zeb (f:α->β) (l:List α) (a b:Option Int):cutL (l.map f) a b=(cutL l a b).map f:=by
 unfold cutL
 first | rfl | assumption | (simp_all; done)
theorem zbt (l:List α) (a b:Option Int):(cutL l a b).length<=l.length:=by
 unfold cutL
 rw [qK,qJ]
 exact le_trans (min_le_right ..) (sub_le ..)
theorem zbq (h:x∈cutL l a b):x∈l:=by
 unfold cutL at h
 exact List.mem_of_mem_drop (List.mem_of_mem_take h)
theorem zia (l:List α) {k:Int} (h0:0<=k) (h1:k<=l.length):cutL l none (some k)=l.take k.toNat:=by
 unfold cutL sIx
 grind
theorem zbW (l:List α) (h0:0<=k):cutL l (some k) none=l.drop k.toNat:=by
 unfold cutL sIx
 have:¬ k < 0:=by lia
 simp only [zi this]
 by_cases h:k.toNat<=l.length
 ·rw [min_eq_left h,take_of_length_le]
  rw [qJ]; lia
 ·have h2:l.length<=k.toNat:=by lia
  rw [min_eq_right h2,drop_of_length_le (zj _),drop_of_length_le h2,take_nil]
theorem zcy:∀ l:List Int,deps (l.map D.int)=0
 | []=>rfl
 | z::l=>by
   show max (dep (.int z)) (deps (l.map D.int))=0
   rw [zcy l]; rfl
theorem zoR (l:List Bool):bAll [.lst (l.map D.bl)]=some (.sh (.bl (l.all id))):=by
 show (bools (l.map D.bl)).map _=_
 rw [zhI]; rfl
theorem zdj {α:Type}:∀ (l:List α) (i:Nat) (h:i < l.length),(l[i]::l.eraseIdx i).Perm l
 | x::l,0,_=>List.Perm.refl _
 | x::l,i + 1,h=>by
   have hi:i < l.length:=by simpa using h
   exact (List.Perm.swap x l[i] _).trans (List.Perm.cons x (zdj l i hi))
def kbX2 (b:WB) (K:Env->Prop) (E:WX):Bool->Env->Prop:=fun k U=>if k then b U K E else K U
def kbX (c:WT) (b:WB) (K:Env->Prop) (E:WX):Env->Prop:=fun U=>c U (kbX2 b K E) E
def x_bX:kbX c b K E U=c U (kbX2 b K E) E:=rfl
def zb5:kbX2 b K E true U=b U K E:=rfl
def ziE:kbX2 b K E false U=K U:=rfl
theorem zk1 {α:Type} {toD:α->D} (I:List α->Env->Prop) (xs:List α)
  (step:∀ (pre:List α) (x:α) (post:List α) (K:Env->Prop) (U:Env),pre++x::post=xs->I pre U->(∀ U',I (pre++[x]) U'->K U')->g (.sh (toD x)) U (kbX c b K E))
  (fin:∀ U,I xs U->Q U) (h0:I [] U):bLoop g c b (xs.map toD) U Q E:=by
 have gen:∀ (post pre:List α) (U:Env),pre++post=xs->I pre U->bLoop g c b (post.map toD) U Q E:=by
  intro post
  induction post with
  | nil=>intro pre U e h; rw [qC] at e; subst e; exact fin U h
  | cons x post ih=>
    intro pre U e h
    rw [qB,e_bL]
    exact step pre x post (kbL3 g c b (post.map toD) Q E) U e h fun U' h'=>ih (pre++[x]) U' (by rw [<- e]; simp) h'
 exact gen xs [] U rfl h0
theorem zaX {α:Type} {toD:α->D} (I:List α->Env->Prop) (xs:List α)
  (step:∀ (pre:List α) (x:α) (post:List α) (D2:Ends) (U:Env),pre++x::post=xs->I pre U->(∀ U',I (pre++[x]) U'->D2.nx U')->(∀ U',I (pre++[x]) U'->D2.ct U')->D2.rt=D'.rt->D2.bk=D'.nx->g (.sh (toD x)) U (fun U=>b D2 U))
  (fin:∀ U,I xs U->D'.nx U) (h0:I [] U):wLoop g b (xs.map toD) D' U:=by
 have gen:∀ (post pre:List α) (U:Env),pre++post=xs->I pre U->wLoop g b (post.map toD) D' U:=by
  intro post
  induction post with
  | nil=>intro pre U e h; rw [qC] at e; subst e; exact fin U h
  | cons x post ih=>
    intro pre U e h
    rw [qB,e_Lp]
    have k:=fun U' h'=>ih (pre++[x]) U' (by rw [<- e]; simp) h'
    exact step pre x post (lpE g b (post.map toD) D') U e h k k rfl rfl
 exact gen xs [] U rfl h0
theorem zhq {α:Type} {toD:α->D} (I:List α->List S->Env->Prop) (xs:List α)
  (step:∀ (pre:List α) (x:α) (post:List α) (l:List S) (U:Env) (vs:List (Option S)) (K:Env->Prop),pre++x::post=xs->vs.length=k->I pre l U->(∀ l' U1 vs',vs'.length=k->I (pre++[x]) l' U1->K (U1++some (.lst l')::vs'))->g (.sh (toD x)) (U++some (.lst l)::vs) (kbX c b K E))
  (fin:∀ l U vs,vs.length=k->I xs l U->Q (U++some (.lst l)::vs)) (hv:vs.length=k) (h0:I [] [] U):bLoop g c b (xs.map toD) (U++some (.lst [])::vs) Q E:=by
 refine zk1 (fun pre U'=>∃ l U1 vs',vs'.length=k/\I pre l U1/\U'=U1++some (.lst l)::vs') xs (fun pre x post K U' e hI hK=>?_) (fun U' hI=>?_) ⟨[],U,vs,hv,h0,rfl⟩
 ·obtain ⟨l,U1,vs',h1,h2,rfl⟩:=hI
  exact step pre x post l U1 vs' K e h1 h2 fun l' U2 vs2 h3 h4=>hK _ ⟨l',U2,vs2,h3,h4,rfl⟩
 ·obtain ⟨l,U1,vs',h1,h2,rfl⟩:=hI
  exact fin l U1 vs' h1 h2
theorem zhf {α:Type} {toD:α->D} (xs:List α) (h:α->Option S)
  (step:∀ x∈xs,∀ (l:List S) (vs:List (Option S)) (K:Env->Prop),vs.length=k->l.length < xs.length->(∀ vs',vs'.length=k->K (U++some (.lst (l++(h x).toList))::vs'))->g (.sh (toD x)) (U++some (.lst l)::vs) (kbX c b K E))
  (fin:∀ vs,vs.length=k->Q (U++some (.lst (xs.filterMap h))::vs)) (hv:vs.length=k):bLoop g c b (xs.map toD) (U++some (.lst [])::vs) Q E:=by
 refine zhq (fun pre l U'=>U'=U/\l=pre.filterMap h) xs (fun pre x post l U' vs K e h1 h2 hK=>?_) (fun l U' vs h1 h2=>?_) hv ⟨rfl,rfl⟩
 ·obtain ⟨rfl,rfl⟩:=h2
  have hl:(pre.filterMap h).length < xs.length:=by
   have:=List.length_filterMap_le h pre
   rw [<- e]; simp only [qt,qv]; lia
  refine step x (by rw [<- e]; simp) _ vs K h1 hl fun vs' h3=>hK _ _ vs' h3 ⟨rfl,?_⟩
  rw [List.filterMap_append]
  cases q:h x <;> simp [q]
 ·obtain ⟨rfl,rfl⟩:=h2
  exact fin vs h1
theorem len1v {vs:List (Option S)} (h:vs.length=1):∃ a,vs=[a]:=by
 match vs,h with
 | [a],_=>exact ⟨a,rfl⟩
theorem len2v {vs:List (Option S)} (h:vs.length=2):∃ a b,vs=[a,b]:=by
 match vs,h with
 | [a,b],_=>exact ⟨a,b,rfl⟩
theorem len3v {vs:List (Option S)} (h:vs.length=3):∃ a b c,vs=[a,b,c]:=by
 match vs,h with
 | [a,b,c],_=>exact ⟨a,b,c,rfl⟩
section
variable {α:Type}
theorem bl1 (xs:List α) (h:α->Option S)
  (step:∀ x∈xs,∀ (l:List S) (o:Option S) (K:Env->Prop),l.length < xs.length->(∀ o,K (U.take n++[some (.lst (l++(h x).toList)),o]))->zI (n + 1) (.sh (toD x)) (U.take n++[some (.lst l),o]) (kbX c b K E))
  (fin:∀ o,Q (U.take n++[some (.lst (xs.filterMap h)),o])) (e:U=U.take n++[some (.lst []),o0]:=by rfl):bLoop (zI (n + 1)) c b (xs.map toD) U Q E:=by
 rw [e]
 refine zhf (k:=1) xs h (fun x hx l vs K hv hl hK=>?_) (fun vs hv=>?_) rfl
 ·obtain ⟨a,rfl⟩:=len1v hv
  exact step x hx l a K hl fun o=>hK [o] rfl
 ·obtain ⟨a,rfl⟩:=len1v hv
  exact fin a
theorem bl2 (xs:List α) (h:α->Option S)
  (step:∀ x∈xs,∀ (l:List S) (o o':Option S) (K:Env->Prop),l.length < xs.length->(∀ o o',K (U.take n++[some (.lst (l++(h x).toList)),o,o']))->gTup [zI (n + 1),zI (n + 2)] (.sh (toD x)) (U.take n++[some (.lst l),o,o']) (kbX c b K E))
  (fin:∀ o o',Q (U.take n++[some (.lst (xs.filterMap h)),o,o'])) (e:U=U.take n++[some (.lst []),o0,o1]:=by rfl):bLoop (gTup [zI (n + 1),zI (n + 2)]) c b (xs.map toD) U Q E:=by
 rw [e]
 refine zhf (k:=2) xs h (fun x hx l vs K hv hl hK=>?_) (fun vs hv=>?_) rfl
 ·obtain ⟨a,a',rfl⟩:=len2v hv
  exact step x hx l a a' K hl fun o o'=>hK [o,o'] rfl
 ·obtain ⟨a,a',rfl⟩:=len2v hv
  exact fin a a'
theorem bl3 (xs:List α) (h:α->Option S)
  (step:∀ x∈xs,∀ (l:List S) (o o' o'':Option S) (K:Env->Prop),l.length < xs.length->(∀ o o' o'',K (U.take n++[some (.lst (l++(h x).toList)),o,o',o'']))->gTup [zI (n + 1),zI (n + 2),zI (n + 3)] (.sh (toD x)) (U.take n++[some (.lst l),o,o',o'']) (kbX c b K E))
  (fin:∀ o o' o'',Q (U.take n++[some (.lst (xs.filterMap h)),o,o',o''])) (e:U=U.take n++[some (.lst []),o0,o1,o2]:=by rfl):bLoop (gTup [zI (n + 1),zI (n + 2),zI (n + 3)]) c b (xs.map toD) U Q E:=by
 rw [e]
 refine zhf (k:=3) xs h (fun x hx l vs K hv hl hK=>?_) (fun vs hv=>?_) rfl
 ·obtain ⟨a,a',a'',rfl⟩:=len3v hv
  exact step x hx l a a' a'' K hl fun o o' o''=>hK [o,o',o''] rfl
 ·obtain ⟨a,a',a'',rfl⟩:=len3v hv
  exact fin a a' a''
theorem bm1 (xs:List α) (h:α->S)
  (step:∀ x∈xs,∀ (l:List S) (o:Option S) (K:Env->Prop),l.length < xs.length->(∀ o,K (U.take n++[some (.lst (l++[h x])),o]))->zI (n + 1) (.sh (toD x)) (U.take n++[some (.lst l),o]) (kbX c b K E))
  (fin:∀ o,Q (U.take n++[some (.lst (xs.map h)),o])) (e:U=U.take n++[some (.lst []),o0]:=by rfl):bLoop (zI (n + 1)) c b (xs.map toD) U Q E:=
 bl1 xs (fun x=>some (h x)) step (fun o=>by rw [show (xs.filterMap fun x=>some (h x))=xs.map h from List.filterMap_eq_map ▸ rfl]; exact fin o) e
theorem bm2 (xs:List α) (h:α->S)
  (step:∀ x∈xs,∀ (l:List S) (o o':Option S) (K:Env->Prop),l.length < xs.length->(∀ o o',K (U.take n++[some (.lst (l++[h x])),o,o']))->gTup [zI (n + 1),zI (n + 2)] (.sh (toD x)) (U.take n++[some (.lst l),o,o']) (kbX c b K E))
  (fin:∀ o o',Q (U.take n++[some (.lst (xs.map h)),o,o'])) (e:U=U.take n++[some (.lst []),o0,o1]:=by rfl):bLoop (gTup [zI (n + 1),zI (n + 2)]) c b (xs.map toD) U Q E:=
 bl2 xs (fun x=>some (h x)) step (fun o o'=>by rw [show (xs.filterMap fun x=>some (h x))=xs.map h from List.filterMap_eq_map ▸ rfl]; exact fin o o') e
end
theorem bd1 {β:Type} (emb:β->S) (xs:List D) (I:Env->Prop) (P:β->Prop)
  (step:∀ x∈xs,∀ (U:Env) (A:List β) (o:Option S) (K:Env->Prop),I U->A.length < xs.length->(∀ U1 y o1,I U1->P y->K (U1++[some (.lst (A.map emb++[emb y])),o1]))->zI (n + 1) (.sh x) (U++[some (.lst (A.map emb)),o]) (kbX c b K E))
  (fin:∀ U (A:List β) o,I U->A.length=xs.length->(∀ y∈A,P y)->Q (U++[some (.lst (A.map emb)),o])) (h0:I (U.take n)) (e:U=U.take n++[some (.lst []),o0]:=by rfl):bLoop (zI (n + 1)) c b xs U Q E:=by
 rw [e]
 have:=zhq (toD:=fun x:D=>x) (k:=1) (g:=zI (n + 1)) (c:=c) (b:=b) (E:=E) (Q:=Q) (fun pre l U'=>I U'/\∃ A:List β,l=A.map emb/\A.length=pre.length/\∀ y∈A,P y) xs (fun pre x post l U' vs K e h1 h2 hK=>?_) (fun l U' vs h1 h2=>?_) (U:=U.take n) (vs:=[o0]) rfl ⟨h0,[],rfl,rfl,fun y hy=>nomatch hy⟩
 ·rwa [List.map_id'] at this
 ·obtain ⟨hI,A,rfl,hA,hP⟩:=h2
  obtain ⟨a,rfl⟩:=len1v h1
  refine step x (by rw [<- e]; simp) U' A a K hI (by rw [hA,<- e]; simp only [qt,qv]; lia) fun U1 y o1 h3 h4=>hK _ U1 [o1] rfl ⟨h3,A++[y],by simp,by simp [hA],fun z hz=>?_⟩
  grind
 grind [len1v]
theorem lpn (I:Nat->Env->Prop) (xs:List D)
  (step:∀ (k:Nat) (x:D),xs[k]?=some x->∀ (D2:Ends) (U:Env),I k U->(∀ U',I (k + 1) U'->D2.nx U')->(∀ U',I (k + 1) U'->D2.ct U')->D2.rt=D'.rt->D2.bk=D'.nx->g (.sh x) U (fun U=>b D2 U))
  (fin:∀ U,I xs.length U->D'.nx U) (h0:I 0 U):wLoop g b xs D' U:=by
 have:=zaX (toD:=fun x:D=>x) (g:=g) (b:=b) (D':=D') (fun pre U=>I pre.length U) xs (fun pre x post D2 U e hI hnx hct hrt hbk=>step pre.length x (by rw [<- e]; simp) D2 U hI (fun U' h=>hnx U' (by simpa using h)) (fun U' h=>hct U' (by simpa using h)) hrt hbk) fin h0
 rwa [List.map_id'] at this
theorem bf {α:Type} {toD:α->D} (xs:List α) (h:α->List S)
  (step:∀ x∈xs,∀ (l:List S) (vs:List (Option S)) (K:Env->Prop),vs.length=k->l.length + (h x).length<=(xs.flatMap h).length->(∀ vs',vs'.length=k->K (U.take n++some (.lst (l++h x))::vs'))->g (.sh (toD x)) (U.take n++some (.lst l)::vs) (kbX c b K E))
  (fin:∀ vs,vs.length=k->Q (U.take n++some (.lst (xs.flatMap h))::vs)) (e:U=U.take n++some (.lst [])::vs:=by rfl) (hv:vs.length=k:=by rfl):bLoop g c b (xs.map toD) U Q E:=by
 rw [e]
 refine zhq (fun pre l U'=>U'=U.take n/\l=pre.flatMap h) xs (fun pre x post l U' vs K e h1 h2 hK=>?_) (fun l U' vs h1 h2=>?_) hv ⟨rfl,rfl⟩
 ·obtain ⟨rfl,rfl⟩:=h2
  have hl:(pre.flatMap h).length + (h x).length<=(xs.flatMap h).length:=by
   rw [<- e,List.flatMap_append,flatMap_cons,qt,qt]; lia
  exact step x (by rw [<- e]; simp) _ vs K h1 hl fun vs' h3=>hK _ _ vs' h3 ⟨rfl,by rw [List.flatMap_append]; simp⟩
 ·obtain ⟨rfl,rfl⟩:=h2
  exact fin vs h1
section
variable {α:Type}
theorem bi2 (F:List S->Option S->Option S->Env) (xs:List α) (h:α->Option S)
  (step:∀ x∈xs,∀ (l:List S) (o o':Option S) (K:Env->Prop),l.length + (h x).toList.length<=l0.length + (xs.filterMap h).length->(∀ o o',K (F (l++(h x).toList) o o'))->g (.sh (toD x)) (F l o o') (kbX c b K E))
  (fin:∀ o o',Q (F (l0++xs.filterMap h) o o')):bLoop g c b (xs.map toD) (F l0 o0 o1) Q E:=by
 refine zk1 (fun pre U'=>∃ o o',U'=F (l0++pre.filterMap h) o o') xs (fun pre x post K U' e hI hK=>?_) (fun U' hI=>?_) ⟨o0,o1,by simp⟩
 ·obtain ⟨o,o',rfl⟩:=hI
  refine step x (by rw [<- e]; simp) _ o o' K ?_ fun o o'=>hK _ ⟨o,o',?_⟩
  ·rw [<- e,List.filterMap_append,qt,qt]
   cases q:h x <;> simp [q] <;> lia
  ·rw [List.filterMap_append]
   cases q:h x <;> simp [q]
 ·obtain ⟨o,o',rfl⟩:=hI
  exact fin o o'
end
def zkF:tupsD ((x::l).map D.int)=none:=rfl
def zjD:tupsD ((x::l).map D.str)=none:=rfl
theorem zku:∀ l:List Int,∀ d∈l.map D.int,IsInt d:=fun l d hd=>by
 obtain ⟨x,_,rfl⟩:=qN.mp hd
 trivial
theorem zgd:∀ l:List (List Nat),∀ d∈l.map D.str,IsStr d:=fun l d hd=>by
 obtain ⟨x,_,rfl⟩:=qN.mp hd
 trivial
theorem zgf (h64:l.length < 64) (ht:sortT l=none) (hk:(intsD l).isSome\/(strsD l).isSome):bSort3 [.lst l]=some (.lst ((sortD l).map .sh)):=by
 show sort3 _=_
 unfold sort3
 by_cases h2:l.length < 2
 ·rw [zc h2]
  match l,h2 with
  | [],_=>rfl
  | [_],_=>rfl
  | _::_::_,h2=>simp at h2; lia
 ·rw [zi h2,ht]
  show sortS l=_
  unfold sortS
  rw [zc ⟨h64,hk⟩]
theorem zg4 {l:List Int} (h64:l.length < 64):bSort3 [.lst (l.map .int)]=some (.lst ((sortD (l.map .int)).map .sh)):=by
 refine zgf (by simpa using h64) ?_ (.inl (by rw [za1]; rfl))
 unfold sortT
 cases l with
 | nil=>rfl
 | cons x l=>rw [zi]; rw [zkF]; simp
theorem zgT {l:List (List Nat)} (h64:l.length < 64):bSort3 [.lst (l.map .str)]=some (.lst ((sortD (l.map .str)).map .sh)):=by
 refine zgf (by simpa using h64) ?_ (.inr (by rw [zeu]; rfl))
 unfold sortT
 cases l with
 | nil=>rfl
 | cons x l=>rw [zi]; rw [zjD]; simp
theorem ziY {l m:List Int} (h64:l.length < 64) (p:m.Perm l) (hs:m.Pairwise (·<=·)):bSort3 [.lst (l.map .int)]=some (.lst ((m.map .int).map .sh)):=by
 rw [zg4 h64,zbH zhS (zku l) (p.map _)]
 rw [pairwise_map]
 exact hs.imp fun h=>by simpa using h
theorem zo9:([a]:List Nat) < [b]↔a < b:=by simp [qF]
theorem zme (h:A.length < 64):∃ A':List Nat,A'.Perm A/\A'.Pairwise (·<=·)/\bSort3 [.lst (A.map sg)]=some (.lst ((A'.map sg).map .sh)):=by
 have e:A.map sg=(A.map fun c=>[c]).map D.str:=by rw [qH]; rfl
 obtain ⟨A',hp,e2⟩:=zmf (zaY (A.map sg))
 refine ⟨A',hp,?_,?_⟩
 ·have hs:=zbh zfA (A.map sg) (by rw [e]; exact zgd _)
  rw [e2,pairwise_map] at hs
  refine hs.imp fun {a b} h=>?_
  have h':(!decide (([b]:List Nat) < [a]))=true:=by rw [<- zcA]; exact h
  grind [zo9]
 ·rw [e,zgT (by simpa using h),<- e,e2]
theorem zhv {l:List Nat} (h:l.Pairwise (·<=·)) (hn:l.Nodup):l.Pairwise (· < ·):=by
 have:=h.and hn
 exact this.imp fun ⟨h1,h2⟩=>by lia
theorem zpe (h:IsStr x):(clash x (.str z) || decide (30 < dep x))=false:=by
 cases x with
 | str i=>rfl
 | _=>exact h.elim
theorem zfs {ns:List (List Nat)}:(if (ns.map D.str).any (fun x=>clash x (.str z) || decide (30 < dep x)) then none else some (open Classical in decide (D.str z∈ns.map D.str)))=some (decide (z∈ns)):=by
 grind [mem_map,List.any_eq_true.mp,zpe,zgd]
theorem zgv {ns:List (List Nat)}:cIn (.str z) (.lst (ns.map D.str))=some (decide (z∈ns)):=zfs
theorem zhP {α β:Type} (p:α->Bool) (f:α->β):∀ l:List α,(l.filterMap fun x=>if p x=true then some (f x) else none)=(l.filter p).map f
 | []=>rfl
 | x::l=>by
   have ih:=zhP p f l
   cases q:p x <;> simp [q,ih]
theorem zdM {α:Type} [DecidableEq α]:∀ (l m:List α),l.Nodup->(∀ x∈l,x∈m)->l.length<=m.length
 | [],m,_,_=>by simp
 | x::l,m,hn,hs=>by
   obtain ⟨h1,h2⟩:=qO.mp hn
   have hx:x∈m:=hs x (by simp)
   have:=zdM l (m.erase x) h2 fun y hy=>by
    refine (List.mem_erase_of_ne ?_).mpr (hs y (by simp [hy]))
    intro z; subst z; exact h1 hy
   rw [List.length_erase_of_mem hx] at this
   have hp:=List.length_pos_of_mem hx
   rw [qv]
   lia
theorem zeD:∀ l:List (List Nat),deps (l.map D.str)=0
 | []=>rfl
 | z::l=>by
   show max (dep (.str z)) (deps (l.map D.str))=0
   rw [zeD l]; rfl
theorem zjU:cNe (.lst (l.map D.str)) (.lst [])=some (!decide (l=[])):=by
 unfold cNe cEq
 rw [zi (by
  have:dep (.lst (l.map D.str))=1:=by show deps (l.map D.str) + 1=1; rw [zeD]
  rw [this]
  cases l <;> exact fun z=>Bool.noConfusion (show false=true from z))]
 simp
theorem zhC:∀ l:List D,(∀ d∈l,dep d<=n)->deps l<=n
 | [],_=>zero_le _
 | d::l,h=>by
   show max (dep d) (deps l)<=n
   have h1:=h d (by simp)
   have h2:=zhC l fun x hx=>h x (by simp [hx])
   lia
theorem zmw (h:deps l<=29):cNe (.lst l) (.lst [])=some (!l.isEmpty):=by
 unfold cNe cEq
 rw [zi (by
  have:dep (.lst l)=deps l + 1:=rfl
  rw [this]
  cases l with
  | nil=>exact fun z=>Bool.noConfusion (show false=true from z)
  | cons x l=>exact fun z=>absurd (qX (show decide (30 < deps (x::l) + 1)=true from z)) (by lia))]
 cases l <;> simp
theorem vcons {α:Type} {l:List α} (h:l.length=n + 1):∃ a r,l=a::r/\r.length=n:=by
 cases l with
 | nil=>cases h
 | cons a r=>exact ⟨a,r,rfl,Nat.succ.inj h⟩
theorem vnil {α:Type} {l:List α} (h:l.length=0):l=[]:=List.length_eq_zero_iff.mp h
theorem vlen1 {α:Type} {l:List α} (h:l.length=1):∃ a,l=[a]:=by
 obtain ⟨a,r,rfl,k⟩:=vcons h
 obtain rfl:=vnil k
 exact ⟨a,rfl⟩
theorem vlen2 {α:Type} {l:List α} (h:l.length=2):∃ a0 a1,l=[a0,a1]:=by
 obtain ⟨a0,r,rfl,k⟩:=vcons h
 obtain ⟨a1,rfl⟩:=vlen1 k
 exact ⟨a0,a1,rfl⟩
theorem vlen3 {α:Type} {l:List α} (h:l.length=3):∃ a0 a1 a2,l=[a0,a1,a2]:=by
 obtain ⟨a0,r,rfl,k⟩:=vcons h
 obtain ⟨a1,a2,rfl⟩:=vlen2 k
 exact ⟨a0,a1,a2,rfl⟩
theorem vlen4 {α:Type} {l:List α} (h:l.length=4):∃ a0 a1 a2 a3,l=[a0,a1,a2,a3]:=by
 obtain ⟨a0,r,rfl,k⟩:=vcons h
 obtain ⟨a1,a2,a3,rfl⟩:=vlen3 k
 exact ⟨a0,a1,a2,a3,rfl⟩
theorem zbF:∀ l m:List Int,cmpDs (l.map D.int) (m.map D.int)=if l < m then .lt else if m < l then .gt else .eq
 | [],[]=>by simp [cmpDs]
 | [],b::m=>by simp [cmpDs]
 | a::l,[]=>by simp [cmpDs]
 | a::l,b::m=>by
   have ih:=zbF l m
   rw [qB,qB,cmpDs]
   rw [show cmpD (.int a) (.int b)=if a < b then .lt else if b < a then .gt else .eq from rfl]
   by_cases h1:a < b
   ·rw [zc h1,zc (qF.mpr (.inl h1))]
   ·rw [zi h1]
    by_cases h2:b < a
    ·rw [zc h2,zi (by rw [qF]; rintro (h | ⟨h,_⟩) <;> lia),zc (qF.mpr (.inl h2))]
    ·have e:a=b:=by lia
     subst e
     rw [zi h2]
     show cmpDs (l.map D.int) (m.map D.int)=_
     rw [ih]
     have e1:(a::l < a::m)↔l < m:=by rw [qF]; constructor
                                     ·rintro (h | ⟨_,h⟩)
                                      ·lia
                                      ·exact h
                                     ·intro h; exact .inr ⟨rfl,h⟩
     have e2:(a::m < a::l)↔m < l:=by rw [qF]; constructor
                                     ·rintro (h | ⟨_,h⟩)
                                      ·lia
                                      ·exact h
                                     ·intro h; exact .inr ⟨rfl,h⟩
     simp only [e1,e2]
theorem zf6 (l m:List Int):leD (tI l) (tI m)=!decide (m < l):=by
 show (match cmpDs (l.map D.int) (m.map D.int) with | .gt=>false | _=>true)=_
 rw [zbF]
 by_cases h:m < l
 ·rw [zi (lt_asymm h),zc h,qU h]; rfl
 ·rw [zi h,qV h]
  by_cases h2:l < m
  ·rw [zc h2]; rfl
  ·rw [zi h2]; rfl
def IsTP (d:D):Prop:=∃ l:List Int,d=tI l
theorem zpu:OrdOn IsTP where
 tot:=by
  rintro _ _ ⟨a,rfl⟩ ⟨b,rfl⟩
  grind [zf6,Bool.not_eq_true',lt_asymm]
 tr:=by
  rintro _ _ _ ⟨a,rfl⟩ ⟨b,rfl⟩ ⟨c,rfl⟩
  grind [zf6,Bool.not_eq_true',List.le_trans]
 anti:=by
  rintro _ _ ⟨a,rfl⟩ ⟨b,rfl⟩
  grind [zf6,Bool.not_eq_true',le_antisymm]
theorem zjS {ls ms:List (List Int)} (h64:ls.length < 64) (hne:∀ x∈ls,x≠[]) (p:ms.Perm ls) (hs:ms.Pairwise fun a b=>¬ b < a):bSort3 [.lst (ls.map tI)]=some (.lst ((ms.map tI).map .sh)):=by
 rw [zgA h64 hne,zbH zpu (fun d hd=>by obtain ⟨x,_,rfl⟩:=qN.mp hd; exact ⟨x,rfl⟩) (p.map _)]
 grind [pairwise_map,zf6]
abbrev Wd:=List Nat
def seg (w:Wd) (i j:Nat):Wd:=(w.drop i).take (j - i)
theorem zkL (l:List α) (i j:Nat):cutL l (some (i:Int)) (some (j:Int))=(l.drop i).take (j - i):=by
 unfold cutL sIx
 have h1:¬ (i:Int) < 0:=by lia
 have h2:¬ (j:Int) < 0:=by lia
 simp only [zi h1,zi h2,qZ]
 by_cases hi:i<=l.length
 ·rw [min_eq_left hi]
  by_cases hj:j<=l.length
  ·rw [min_eq_left hj]
  ·rw [min_eq_right (by lia),take_of_length_le (by rw [qJ]; lia),take_of_length_le (by rw [qJ]; lia)]
 ·rw [min_eq_right (a:=i) (by lia),drop_of_length_le (i:=l.length) (zj _),drop_of_length_le (i:=i) (by lia),take_nil,take_nil]
theorem zhr (w:Wd) (i j:Nat):cutL w (some (i:Int)) (some (j:Int))=seg w i j:=zkL w i j
theorem zlg (h1:i<=j) (h2:j<=w.length):(seg w i j).length=j - i:=by
 unfold seg; rw [qK,qJ]; lia
def tieB (B:List Wd) (w:Wd) (i j:Nat):Bool:=decide (i < j) && (decide (j<=w.length) && decide (seg w i j∈B))
theorem zay:tieB B w i j=true↔i < j/\j<=w.length/\seg w i j∈B:=by
 unfold tieB; simp [and_eq_true]
def tie (B:List Wd) (w:Wd) (p q:Nat):Bool:=tieB B w p q || tieB B w q p
theorem zd6:tie B w p q=tie B w q p:=by unfold tie; rw [Bool.or_comm]
def nb (B:List Wd) (w:Wd) (p:Nat):List Nat:=(List.range (w.length + 1)).filter fun q=>tie B w p q
theorem zck:q∈nb B w p↔tie B w p q=true:=by
 grind [nb,mem_filter,mem_range,tie,zay]
theorem zeW:(nb B w p).Pairwise (· < ·):=List.Pairwise.filter _ List.pairwise_lt_range
theorem zg8 (h:q∈nb B w p):q<=w.length/\p<=w.length/\p≠q:=by
 grind [zck,tie,zay]
abbrev Tr:=Nat×Nat×Nat
def strI (B:List Wd) (w:Wd) (i:Nat):List Tr:=(List.range (w.length + 1)).filterMap fun j=>if tieB B w i j=true then some (i,j,B.idxOf (seg w i j)) else none
def strP (B:List Wd) (w:Wd):List Tr:=(List.range w.length).flatMap (strI B w)
def rawI (B:List Wd) (w:Wd) (i:Nat):List Tr:=(List.range B.length).filterMap fun k=>if decide (seg w i (i + ((B[k]?).getD []).length)=(B[k]?).getD [])=true then some (i,i + ((B[k]?).getD []).length,k) else none
theorem zbs:t∈strI B w i↔t.1=i/\tieB B w i t.2.1=true/\t.2.2=B.idxOf (seg w i t.2.1):=by
 unfold strI
 rw [mem_filterMap]
 constructor
 ·rintro ⟨j,_,h⟩
  split at h
  ·rename_i hj
   cases h
   exact ⟨rfl,hj,rfl⟩
  ·cases h
 ·rintro ⟨h1,h2,h3⟩
  refine ⟨t.2.1,?_,?_⟩
  ·rw [qM]; have:=zay.mp h2; lia
  ·subst h1
   rw [zc h2,<- h3]
theorem zbu:t∈strP B w↔tieB B w t.1 t.2.1=true/\t.2.2=B.idxOf (seg w t.1 t.2.1):=by
 unfold strP
 rw [mem_flatMap]
 constructor
 ·grind [zbs]
 ·rintro ⟨h1,h2⟩
  refine ⟨t.1,?_,zbs.mpr ⟨rfl,h1,h2⟩⟩
  rw [qM]; have:=zay.mp h1; lia
theorem zbD:(strI B w i).Pairwise fun t u=>t.1=u.1/\t.2.1 < u.2.1:=by
 unfold strI
 rw [List.pairwise_filterMap]
 refine List.pairwise_lt_range.imp fun {a b} hab=>?_
 intro x hx y hy
 split at hx
 ·split at hy
  ·cases hx; cases hy
   exact ⟨rfl,hab⟩
  ·cases hy
 ·cases hx
theorem zfF:(strP B w).Pairwise fun t u=>t.1 < u.1\/(t.1=u.1/\t.2.1 < u.2.1):=by
 unfold strP
 rw [List.pairwise_flatMap]
 refine ⟨fun i _=>zbD.imp fun h=>.inr h,List.pairwise_lt_range.imp fun {a b} hab=>?_⟩
 intro x hx y hy
 have h1:=(zbs.mp hx).1
 have h2:=(zbs.mp hy).1
 left; lia
theorem zjO:t∈rawI B w i↔t.1=i/\∃ o,B[t.2.2]?=some o/\t.2.1=i + o.length/\seg w i (i + o.length)=o:=by
 unfold rawI
 rw [mem_filterMap]
 refine ⟨fun ⟨k,hk,e⟩=>?_,fun ⟨h1,o,h2,h3,h4⟩=>⟨t.2.2,qM.mpr (qi.mp h2).1,?_⟩⟩
 ·rw [qj (qM.mp hk)] at e
  split at e
  ·cases e
   exact ⟨rfl,_,qj (qM.mp hk),rfl,qX ‹_›⟩
  ·cases e
 ·rw [h2]
  refine (zc (qU h4)).trans ?_
  show some (i,i + o.length,t.2.2)=some t
  rw [<- h3,<- h1]
theorem zgr (hB:B.Nodup) (hne:∀ x∈B,x≠[]) (hi:i<=w.length):(strI B w i).Perm (rawI B w i):=by
 refine (List.perm_ext_iff_of_nodup ?_ ?_).mpr fun t=>?_
 ·exact zbD.imp fun ⟨_,h⟩ e=>by rw [e] at h; lia
 ·unfold rawI
  rw [List.Nodup,List.pairwise_filterMap]
  refine List.nodup_range.imp fun {a b} hab x hx y hy e=>?_
  subst e
  split at hx
  ·split at hy
   ·cases hx
    injection hy with hy
    injection hy with _ hy
    injection hy with _ hy
    exact hab hy.symm
   ·cases hy
  ·cases hx
 ·rw [zbs,zjO]
  constructor
  ·rintro ⟨h1,h2,h3⟩
   obtain ⟨a1,a2,a3⟩:=zay.mp h2
   have hl:=zlg (w:=w) (i:=i) (j:=t.2.1) (by lia) a2
   refine ⟨h1,seg w i t.2.1,?_,by rw [hl]; lia,by rw [hl]; congr 1; lia⟩
   rw [h3]
   rw [qj (List.idxOf_lt_length_of_mem a3),List.getElem_idxOf]
  ·rintro ⟨h1,o,h2,h3,h4⟩
   have hm:o∈B:=qP h2
   have ho:=hne o hm
   have hpos:0 < o.length:=qS.mpr ho
   have hle:i + o.length<=w.length:=by
    have:=congrArg List.length h4
    unfold seg at this
    rw [qK,qJ] at this
    lia
   refine ⟨h1,zay.mpr ⟨by lia,by lia,by rw [h3,h4]; exact hm⟩,?_⟩
   rw [h3,h4]
   obtain ⟨hk,e⟩:=qi.mp h2
   rw [<- e]
   exact (hB.idxOf_getElem _ hk).symm
theorem zjs (hB:B.Nodup) (hne:∀ x∈B,x≠[]) (hi:i<=w.length):(strI B w i).length<=min B.length (w.length - i):=by
 refine Nat.le_min.mpr ⟨?_,?_⟩
 ·rw [(zgr hB hne hi).length_eq]
  unfold rawI
  grind
 ·have h:=zdM ((strI B w i).map (·.2.1)) (List.range' (i + 1) (w.length - i)) ?_ ?_
  ·simpa using h
  ·rw [List.Nodup,pairwise_map]
   exact zbD.imp fun ⟨_,h⟩=>by lia
  grind [mem_map,zay,zbs,List.mem_range'_1]
theorem zcE {α:Type} {f g:α->Nat}:∀ l:List α,(∀ x∈l,f x<=g x)->(l.map f).sum<=(l.map g).sum
 | [],_=>by simp
 | x::l,h=>by
   have h1:=h x (by simp)
   have h2:=zcE l fun y hy=>h y (by simp [hy])
   simp only [qB,sum_cons]
   lia
theorem zf5 (hB:B.Nodup) (hne:∀ x∈B,x≠[]) (h6:B.length<=6) (h12:w.length<=12):(strP B w).length < 64:=by
 unfold strP
 rw [List.length_flatMap]
 have h1:=zcE (f:=fun i=>(strI B w i).length) (g:=fun i=>min 6 (w.length - i)) (List.range w.length) fun i hi=>by
  have:=zjs (w:=w) (i:=i) hB hne (by rw [qM] at hi; lia)
  lia
 have h2:∀ n,n<=12->((List.range n).map fun i=>min 6 (n - i)).sum < 64:=by decide
 exact Nat.lt_of_le_of_lt h1 (h2 _ h12)
theorem zej {α β:Type} {f g:α->List β}:∀ l:List α,(∀ x∈l,(f x).Perm (g x))->(l.flatMap f).Perm (l.flatMap g)
 | [],_=>.refl _
 | x::l,h=>by
   rw [flatMap_cons,flatMap_cons]
   exact (h x (by simp)).append (zej l fun y hy=>h y (by simp [hy]))
theorem zeS (hB:B.Nodup) (hne:∀ x∈B,x≠[]):(strP B w).Perm ((List.range w.length).flatMap (rawI B w)):=
 zej _ fun i hi=>zgr hB hne (by rw [qM] at hi; lia)
def trI (t:Tr):List Int:=[(t.1:Int),(t.2.1:Int),(t.2.2:Int)]
def trD (t:Tr):D:=tI (trI t)
def zi4 (t:Tr):trD t=.tup [.int t.1,.int t.2.1,.int t.2.2]:=rfl
theorem zjb (hp:(strP B w).Perm l) (h64:l.length < 64):bSort3 [.lst (l.map trD)]=some (.lst (((strP B w).map trD).map .sh)):=by
 have e:∀ l:List Tr,l.map trD=(l.map trI).map tI:=fun l=>by rw [qH]; rfl
 rw [e,e]
 refine zjS (by simpa using h64) (fun x hx=>?_) (hp.map _) ?_
 ·obtain ⟨t,_,rfl⟩:=qN.mp hx
  exact fun z=>nomatch z
 ·rw [pairwise_map]
  refine zfF.imp fun {t u} h=>?_
  grind [trI,cons_lt_cons_iff]
theorem zcu {α:Type} (f:α->D):∀ (B:List α) (k:Nat),enumF k (B.map f)=(List.range B.length).map fun i=>D.tup [.int ((k + i:Nat):Int),(B[i]?).elim .non f]
 | [],k=>rfl
 | b::B,k=>by
   rw [qB,enumF,zcu f B (k + 1),qv,List.range_succ_eq_map,qB,qH]
   congr 1
   refine map_congr_left fun i _=>?_
   show D.tup [.int ((k + 1 + i:Nat):Int),_]=D.tup [.int ((k + (i + 1):Nat):Int),_]
   rw [show k + 1 + i=k + (i + 1) by lia]
   rfl
theorem ziJ (B:List Wd):enumF 0 (B.map D.str)=(List.range B.length).map fun (k:Nat)=>D.tup [.int (k:Int),.str ((B[k]?).getD [])]:=by
 rw [zcu]
 first | rfl | assumption | (simp_all; done)
theorem from0 {z:Int} {n:Nat} (h:z=n):fromTo 0 z.toNat=(List.range n).map fun (k:Nat)=>D.int (k:Int):=by
 subst h
 unfold fromTo
 rw [qZ]
 refine map_congr_left fun k _=>?_
 rw [Int.zero_add]
theorem from1 {i z:Int} {a n:Nat} (hi:i=a) (h:z=n):fromTo i (z - i).toNat=(List.range' a (n - a)).map fun (k:Nat)=>D.int (k:Int):=by
 subst hi; subst h
 unfold fromTo
 rw [show ((n:Int) - (a:Int)).toNat=n - a by lia,List.range'_eq_map_range,qH]
 first | rfl | assumption | (simp_all; done)
theorem zdV {α β:Type} {f g:α->Option β}:∀ {l:List α},(∀ x∈l,f x=g x)->l.filterMap f=l.filterMap g
 | [],_=>rfl
 | x::l,h=>by
   rw [filterMap_cons,filterMap_cons,h x (by simp),zdV fun y hy=>h y (by simp [hy])]
def zU (q:Nat):D:=.int (q:Int)
def fnd (n:Nat) (f:Nat->List Nat):List S:=(List.range (n + 1)).map fun p=>S.lst ((f p).map fun q=>S.sh (zU q))
theorem zh2 (h:i<=n):(fnd n f)[i]?=some (.lst ((f i).map fun q=>S.sh (zU q))):=by
 unfold fnd
 rw [qI,getElem?_range (by lia)]
 rfl
def addTo (f:Nat->List Nat) (i j:Nat):Nat->List Nat:=fun p=>if p=i then f p++[j] else f p
theorem zi0 (h:i<=n):(fnd n f).set i (.lst (((f i).map fun q=>S.sh (zU q))++[.sh (zU j)]))=fnd n (addTo f i j):=by
 apply ext_getElem?
 intro k
 rw [getElem?_set]
 unfold fnd
 by_cases hk:i=k
 ·subst hk
  rw [zc rfl,zc (by simp; lia),qI,getElem?_range (by lia)]
  simp [addTo]
 ·rw [zi hk,qI,qI]
  by_cases h2:k < n + 1
  ·rw [getElem?_range h2]
   simp only [map_some,addTo,zi (Ne.symm hk)]
  ·rw [qT (by simp; lia)]
   rfl
def Dn (i j p q:Nat):Prop:=p < i\/q < i\/p=i/\q < j\/q=i/\p < j
def GoneT (B:List Wd) (w:Wd) (i j:Nat) (f:Nat->List Nat):Prop:=∀ p,(f p).Nodup/\∀ q,q∈f p↔(tie B w p q=true/\Dn i j p q)
theorem DnS:Dn i (j + 1) p q↔Dn i j p q\/p=i/\q=j\/q=i/\p=j:=by
 unfold Dn
 rw [Nat.lt_succ_iff_lt_or_eq,Nat.lt_succ_iff_lt_or_eq]
 constructor
 ·rintro (h | h | ⟨h,k | k⟩ | ⟨h,k | k⟩)
  ·exact .inl (.inl h)
  ·exact .inl (.inr (.inl h))
  ·exact .inl (.inr (.inr (.inl ⟨h,k⟩)))
  ·exact .inr (.inl ⟨h,k⟩)
  ·exact .inl (.inr (.inr (.inr ⟨h,k⟩)))
  ·exact .inr (.inr ⟨h,k⟩)
 ·rintro ((h | h | h | h) | h | h)
  ·exact .inl h
  ·exact .inr (.inl h)
  ·exact .inr (.inr (.inl ⟨h.1,.inl h.2⟩))
  ·exact .inr (.inr (.inr ⟨h.1,.inl h.2⟩))
  ·exact .inr (.inr (.inl ⟨h.1,.inr h.2⟩))
  ·exact .inr (.inr (.inr ⟨h.1,.inr h.2⟩))
theorem zpg (hij:i < j):¬Dn i j i j/\¬Dn i j j i:=by unfold Dn; lia
theorem zi2 (hij:i < j):tie B w i j=tieB B w i j:=by
 cases e:tieB B w j i with
 | false=>unfold tie; rw [e,Bool.or_false]
 | true=>exact absurd (zay.mp e).1 (Nat.lt_asymm hij)
theorem zmo (hij:i < j) (h:GoneT B w i j f) (ht:tieB B w i j=false):GoneT B w i (j + 1) f:=fun p=>⟨(h p).1,fun q=>by
 rw [(h p).2 q,DnS]
 refine and_congr_right fun z=>⟨.inl,fun k=>k.elim id fun k=>?_⟩
 rcases k with ⟨rfl,rfl⟩ | ⟨rfl,rfl⟩
 ·rw [zi2 hij,ht] at z; cases z
 ·rw [zd6,zi2 hij,ht] at z; cases z⟩
theorem addOne {P Q:Nat->Prop} (h1:l.Nodup) (h2:∀ q,q∈l↔P q) (hn:¬P a) (h:∀ q,P q\/q=a↔Q q):(l++[a]).Nodup/\∀ q,q∈l++[a]↔Q q:=
 ⟨qz.mpr ⟨h1,by simp,fun x hx b hb e=>hn ((h2 a).mp (by rw [qw.mp hb] at e; rwa [<- e]))⟩,fun q=>by rw [qA,qw,h2 q,h q]⟩
theorem zkG (hij:i < j) (h:GoneT B w i j f) (ht:tieB B w i j=true):GoneT B w i (j + 1) (addTo (addTo f i j) j i):=fun p=>by
 obtain ⟨h1,h2⟩:=h p
 rw [<- zi2 hij] at ht
 show (addTo (addTo f i j) j i p).Nodup/\_
 unfold addTo
 by_cases hj:p=j
 ·subst hj
  rw [zc rfl,zi (ne_of_gt hij)]
  rw [zd6] at ht
  refine addOne h1 h2 (fun k=>(zpg hij).2 k.2) fun q=>?_
  rw [DnS]
  constructor
  ·rintro (⟨a,b⟩ | rfl)
   ·exact ⟨a,.inl b⟩
   ·exact ⟨ht,.inr (.inr ⟨rfl,rfl⟩)⟩
  ·rintro ⟨a,b | ⟨b,_⟩ | ⟨b,_⟩⟩
   ·exact .inl ⟨a,b⟩
   ·exact absurd b (ne_of_gt hij)
   ·exact .inr b
 ·rw [zi hj]
  by_cases hi:p=i
  ·subst hi
   rw [zc rfl]
   refine addOne h1 h2 (fun k=>(zpg hij).1 k.2) fun q=>?_
   rw [DnS]
   constructor
   ·rintro (⟨a,b⟩ | rfl)
    ·exact ⟨a,.inl b⟩
    ·exact ⟨ht,.inr (.inl ⟨rfl,rfl⟩)⟩
   ·rintro ⟨a,b | ⟨_,b⟩ | ⟨_,b⟩⟩
    ·exact .inl ⟨a,b⟩
    ·exact .inr b
    ·exact absurd b hj
  ·rw [zi hi]
   refine ⟨h1,fun q=>?_⟩
   rw [h2 q,DnS]
   refine and_congr_right fun _=>⟨.inl,fun k=>k.elim id fun k=>?_⟩
   rcases k with ⟨k,_⟩ | ⟨_,k⟩
   ·exact absurd k hi
   ·exact absurd k hj
theorem zjR (hw:w.length<=n) (h:GoneT B w i (n + 1) f):GoneT B w (i + 1) (i + 2) f:=fun p=>by
 obtain ⟨h1,h2⟩:=h p
 refine ⟨h1,fun q=>?_⟩
 rw [h2 q]
 refine and_congr_right fun htq=>?_
 obtain ⟨h3,h4,h5⟩:=zg8 (zck.mpr htq)
 have e1:p < n + 1:=Nat.lt_succ_of_le (le_trans h4 hw)
 have e2:q < n + 1:=Nat.lt_succ_of_le (le_trans h3 hw)
 refine ⟨fun h=>?_,fun h=>?_⟩
 ·rcases h with h | h | ⟨h,_⟩ | ⟨h,_⟩
  ·exact .inl (lt_succ_of_lt h)
  ·exact .inr (.inl (lt_succ_of_lt h))
  ·exact .inl (h ▸ Nat.lt_succ_self _)
  ·exact .inr (.inl (h ▸ Nat.lt_succ_self _))
 ·have hk:p < i + 1\/q < i + 1:=by
   rcases h with h | h | ⟨h,h'⟩ | ⟨h,h'⟩
   ·exact .inl h
   ·exact .inr h
   ·exact .inr (Nat.lt_of_le_of_ne (le_of_lt_succ h') fun z=>h5 (h.trans z.symm))
   ·exact .inl (Nat.lt_of_le_of_ne (le_of_lt_succ h') fun z=>h5 (z.trans h.symm))
  rcases hk with h | h
  ·exact (Nat.lt_or_eq_of_le (le_of_lt_succ h)).elim .inl fun z=>.inr (.inr (.inl ⟨z,e2⟩))
  ·exact (Nat.lt_or_eq_of_le (le_of_lt_succ h)).elim (fun z=>.inr (.inl z)) fun z=>.inr (.inr (.inr ⟨z,e1⟩))
theorem zgU:GoneT B w 0 1 fun _=>[]:=fun p=>⟨by simp,fun q=>by
 simp only [not_mem_nil,false_iff]
 rintro ⟨h,h2⟩
 have:=zg8 (zck.mpr h)
 unfold Dn at h2
 lia⟩
theorem ziI (hi:w.length<=i) (h:GoneT B w i j f):(nb B w p).Perm (f p):=by
 obtain ⟨h1,h2⟩:=h p
 refine (List.perm_ext_iff_of_nodup (zeW.imp fun h=>by lia) h1).mpr fun q=>?_
 rw [zck,h2 q]
 refine ⟨fun ht=>⟨ht,?_⟩,fun ht=>ht.1⟩
 have:=zg8 (zck.mpr ht)
 unfold Dn
 lia
theorem zhE:(nb B w p).length<=w.length + 1:=by
 unfold nb
 exact le_trans (List.length_filter_le _ _) (by simp)
def tiesL (B:List Wd) (w:Wd):List D:=(List.range (w.length + 1)).map fun p=>D.lst ((nb B w p).map zU)
theorem zl4 (hp:(nb B w p).Perm l) (hw:w.length<=60):bSort3 [.lst (l.map zU)]=some (.lst (((nb B w p).map zU).map .sh)):=by
 have e:∀ l:List Nat,l.map zU=(l.map fun (q:Nat)=>(q:Int)).map D.int:=fun l=>by rw [qH]; rfl
 rw [e,e]
 refine ziY (by rw [qq,<- hp.length_eq]; have:=zhE (B:=B) (w:=w) (p:=p); lia) (hp.map _) ?_
 rw [pairwise_map]
 exact zeW.imp fun h=>by lia
theorem za4 (h:pre++i::post=List.range n):pre.length=i/\i < n:=by
 have h1:(List.range n)[pre.length]?=some i:=by rw [<- h]; simp
 obtain ⟨h2,h3⟩:=qi.mp h1
 rw [List.getElem_range] at h3
 rw [qG] at h2
 lia
theorem zg3 (h:pre++i::post=List.range' a n):i=a + pre.length/\pre.length < n:=by
 have h1:(List.range' a n)[pre.length]?=some i:=by rw [<- h]; simp
 obtain ⟨h2,h3⟩:=qi.mp h1
 rw [List.getElem_range'] at h3
 rw [List.length_range'] at h2
 lia
theorem zfT (h:GoneT B w i j f) (p:Nat):(f p).length<=w.length + 1:=by
 obtain ⟨h1,h2⟩:=h p
 have:=zdM (f p) (nb B w p) h1 fun q hq=>zck.mpr ((h2 q).mp hq).1
 have:=zhE (B:=B) (w:=w) (p:=p)
 lia
inductive Conn (R:Nat->Nat->Prop):Nat->Nat->Prop
 | refl (p:Nat):Conn R p p
 | step {p q r:Nat}:Conn R p q->R q r->Conn R p r
theorem Conn.trans {R:Nat->Nat->Prop} (h1:Conn R p q) (h2:Conn R q r):Conn R p r:=by
 induction h2 with
 | refl=>exact h1
 | step _ e ih=>exact .step ih e
theorem Conn.one {R:Nat->Nat->Prop} (h:R p q):Conn R p q:=.step (.refl p) h
theorem Conn.symm {R:Nat->Nat->Prop} (hR:∀ p q,R p q->R q p) (h:Conn R p q):Conn R q p:=by
 induction h with
 | refl=>exact .refl _
 | step _ e ih=>exact (Conn.one (hR _ _ e)).trans ih
theorem Conn.mono {R R':Nat->Nat->Prop} (h:∀ p q,R p q->R' p q) (c:Conn R p q):Conn R' p q:=by
 induction c with
 | refl=>exact .refl _
 | step _ e ih=>exact .step ih (h _ _ e)
structure IsLand (R:Nat->Nat->Prop) (L:Nat->Nat):Prop where
 conn:∀ p,Conn R p (L p)
 same:∀ p q,R p q->L p=L q
 le:∀ p,L p<=p
theorem IsLand.eq {R:Nat->Nat->Prop} (h:IsLand R L) (c:Conn R p q):L p=L q:=by
 induction c with
 | refl=>rfl
 | step _ e ih=>exact ih.trans (h.same _ _ e)
theorem IsLand.unique {R:Nat->Nat->Prop} (h:IsLand R L) (k:IsLand R M) (p:Nat):L p=M p:=by
 have h1:L p<=M p:=by rw [h.eq (k.conn p)]; exact h.le _
 have h2:M p<=L p:=by rw [k.eq (h.conn p)]; exact k.le _
 lia
theorem IsLand.zero {R:Nat->Nat->Prop} (hR:∀ p q,R p q->R q p) (h:IsLand R L) (p:Nat):L p=0↔Conn R 0 p:=by
 have h0:L 0=0:=by have:=h.le 0; lia
 constructor
 ·intro e
  have:=h.conn p
  rw [e] at this
  exact this.symm hR
 ·intro c
  rw [<- h.eq c,h0]
theorem zdq:IsLand (fun _ _=>False) fun p=>p:=⟨fun p=>.refl p,fun _ _ h=>h.elim,fun p=>zj p⟩
def glue (L:Nat->Nat) (i j:Nat):Nat->Nat:=fun p=>if L p=max (L i) (L j) then min (L i) (L j) else L p
theorem zjo {R R':Nat->Nat->Prop} {L:Nat->Nat} {i j:Nat} (hR:∀ p q,R' p q->R' q p) (hsub:∀ p q,R p q->R' p q) (hij:R' i j) (hall:∀ p q,R' p q->R p q\/(p=i/\q=j)\/(p=j/\q=i)) (h:IsLand R L):IsLand R' (glue L i j) where
 conn p:=by
  unfold glue
  split
  ·rename_i e
   have cp:Conn R' p (L p):=(h.conn p).mono hsub
   have ci:Conn R' i (L i):=(h.conn i).mono hsub
   have cj:Conn R' j (L j):=(h.conn j).mono hsub
   have cij:Conn R' (L i) (L j):=(ci.symm hR).trans ((Conn.one hij).trans cj)
   rw [e] at cp
   rcases Nat.le_total (L i) (L j) with hh | hh
   ·rw [Nat.max_eq_right hh] at cp
    rw [min_eq_left hh]
    exact cp.trans (cij.symm hR)
   ·rw [Nat.max_eq_left hh] at cp
    rw [min_eq_right hh]
    exact cp.trans cij
  ·exact (h.conn p).mono hsub
 same p q e:=by
  have key:glue L i j i=glue L i j j:=by unfold glue; split <;> split <;> lia
  rcases hall p q e with e | ⟨rfl,rfl⟩ | ⟨rfl,rfl⟩
  ·unfold glue; rw [h.same p q e]
  ·exact key
  ·exact key.symm
 le p:=by
  have:=h.le p
  unfold glue
  split <;> lia
def TieR (B:List Wd) (w:Wd) (p q:Nat):Prop:=tie B w p q=true
theorem zcO (p q:Nat) (h:TieR B w p q):TieR B w q p:=by unfold TieR at *; rw [zd6]; exact h
def StrR (pre:List Tr) (p q:Nat):Prop:=∃ t∈pre,(t.1=p/\t.2.1=q)\/(t.1=q/\t.2.1=p)
theorem zhT (p q:Nat) (h:StrR pre p q):StrR pre q p:=by
 obtain ⟨t,ht,h⟩:=h
 exact ⟨t,ht,h.symm⟩
theorem zky:StrR (strP B w) p q↔TieR B w p q:=by
 unfold StrR TieR tie
 rw [or_eq_true]
 constructor
 ·grind [zbu]
 ·rintro (h | h)
  ·exact ⟨(p,q,B.idxOf (seg w p q)),zbu.mpr ⟨h,rfl⟩,.inl ⟨rfl,rfl⟩⟩
  ·exact ⟨(q,p,B.idxOf (seg w q p)),zbu.mpr ⟨h,rfl⟩,.inr ⟨rfl,rfl⟩⟩
theorem ziw (h:IsLand (StrR pre) L):IsLand (StrR (pre++[t])) (glue L t.1 t.2.1):=by
 refine zjo zhT (fun p q ⟨u,hu,e⟩=>⟨u,qm _ hu,e⟩) ⟨t,by simp,.inl ⟨rfl,rfl⟩⟩ (fun p q zq=>?_) h
 obtain ⟨u,hu,e⟩:=zq
 rcases qA.mp hu with z | z
 ·exact .inl ⟨u,z,e⟩
 ·rw [qw.mp z] at e
  rcases e with ⟨a,b⟩ | ⟨a,b⟩
  ·exact .inr (.inl ⟨a.symm,b.symm⟩)
  ·exact .inr (.inr ⟨b.symm,a.symm⟩)
theorem IsLand.congr {R R':Nat->Nat->Prop} (h:∀ p q,R p q↔R' p q) (k:IsLand R L):IsLand R' L:=
 ⟨fun p=>(k.conn p).mono fun p q e=>(h p q).mp e,fun p q e=>k.same p q ((h p q).mpr e),k.le⟩
def landOf:List Tr->(Nat->Nat)->Nat->Nat
 | [],L=>L
 | t::r,L=>landOf r (glue L t.1 t.2.1)
def landP (B:List Wd) (w:Wd):Nat->Nat:=landOf (strP B w) fun p=>p
theorem zcQ:∀ (post pre:List Tr) (L:Nat->Nat),IsLand (StrR pre) L->IsLand (StrR (pre++post)) (landOf post L)
 | [],pre,L,h=>by rw [qC]; exact h
 | t::r,pre,L,h=>by
   have:=zcQ r (pre++[t]) _ (ziw (t:=t) h)
   rw [qr] at this
   exact this
theorem zfU (B:List Wd) (w:Wd):IsLand (TieR B w) (landP B w):=by
 have h0:IsLand (StrR []) fun p=>p:=zdq.congr fun p q=>⟨fun h=>h.elim,fun ⟨_,h,_⟩=>nomatch h⟩
 exact (zcQ (strP B w) [] _ h0).congr fun p q=>zky
def fixedP (B:List Wd) (w:Wd):Prop:=Conn (TieR B w) 0 w.length
theorem zgD:landP B w w.length=0↔fixedP B w:=(zfU B w).zero zcO _
theorem za7:∀ (a b:List Tr) (L:Nat->Nat),landOf (a++b) L=landOf b (landOf a L)
 | [],_,_=>rfl
 | t::a,b,L=>za7 a b _
theorem zcI:∀ l m:List Int,clashs (l.map D.int) (m.map D.int)=false
 | [],_=>by cases ‹List Int› <;> rfl
 | _::_,[]=>rfl
 | a::l,b::m=>by
   show (clash (.int a) (.int b) || clashs (l.map D.int) (m.map D.int))=false
   rw [zcI l m]; rfl
theorem zfb:∀ {l m:List Int},l.map D.int=m.map D.int->l=m
 | [],[],_=>rfl
 | [],_::_,h=>nomatch h
 | _::_,[],h=>nomatch h
 | a::l,b::m,h=>by
   simp only [qB,List.cons.injEq] at h
   rw [zfb h.2]
   injection h.1 with e
   rw [e]
theorem zj3 {l m:List Int}:cEq (.lst (l.map D.int)) (.lst (m.map D.int))=some (decide (l=m)):=by
 unfold cEq
 rw [zi (by
  have:dep (.lst (l.map D.int))=1:=by show deps (l.map D.int) + 1=1; rw [zcy]
  rw [this,show clash (.lst (l.map D.int)) (.lst (m.map D.int))=clashs (l.map D.int) (m.map D.int) from rfl,zcI]
  decide)]
 by_cases h:l=m
 ·subst h; simp
 ·have hz:¬ (D.lst (l.map D.int)=D.lst (m.map D.int)):=fun z=>h (zfb (by injection z))
  simp [h,hz]
theorem zjB {l m:List Int}:cNe (.lst (l.map D.int)) (.lst (m.map D.int))=some (!decide (l=m)):=by
 unfold cNe; rw [zj3]; rfl
def vecN (n:Nat) (f:Nat->Nat):List D:=(List.range (n + 1)).map fun p=>zU (f p)
def vecI (n:Nat) (f:Nat->Nat):List Int:=(List.range (n + 1)).map fun p=>((f p:Nat):Int)
theorem zbe (n:Nat) (f:Nat->Nat):vecN n f=(vecI n f).map D.int:=by unfold vecN vecI; rw [qH]; rfl
theorem zbO:(vecN n f).length=n + 1:=by simp [vecN]
theorem zbR (h:p<=n):(vecN n f)[p]?=some (zU (f p)):=by
 unfold vecN; rw [qI,getElem?_range (by lia)]; rfl
theorem zhb (h:p<=n):atI (vecN n f) (p:Int)=some (.int ((f p:Nat):Int)):=by
 refine zbj (by lia) ?_
 rw [qZ]; exact zbR h
theorem zdF (h:p<=n):atI ((vecN n f).map S.sh) (p:Int)=some (.sh (.int ((f p:Nat):Int))):=by
 refine zbj (by lia) ?_
 rw [qZ,qI,zbR h]; rfl
theorem zd9:vecI n f=vecI n g↔∀ p,p<=n->f p=g p:=by
 unfold vecI
 constructor
 ·intro h p hp
  have:=congrArg (fun l=>l[p]?) h
  simp only [qI,getElem?_range (show p < n + 1 by lia),map_some,Option.some.injEq] at this
  lia
 ·intro h
  exact map_congr_left fun p hp=>by rw [h p (by have:=qM.mp hp; lia)]
theorem zjT (h:p<=n):(vecN n f).set p (zU v)=vecN n fun q=>if q=p then v else f q:=by
 refine ext_getElem? fun j=>?_
 rw [getElem?_set]
 by_cases hj:j < n + 1
 ·by_cases e:p=j
  ·subst e
   rw [zc rfl,zc (by rw [zbO]; exact hj),zbR h,zc rfl]
  ·rw [zi e,zbR (by lia),zbR (by lia),zi (by lia)]
 ·have:(vecN n fun q=>if q=p then v else f q)[j]?=none:=List.getElem?_eq_none_iff.mpr (by rw [zbO]; lia)
  rw [this]
  have h2:(vecN n f)[j]?=none:=List.getElem?_eq_none_iff.mpr (by rw [zbO]; lia)
  rw [h2,zi (by lia)]
theorem minN {a b:Nat}:(if (b:Int) < (a:Int) then (b:Int) else (a:Int))=((min a b:Nat):Int):=by split <;> lia
theorem maxN {a b:Nat}:(if (b:Int) > (a:Int) then (b:Int) else (a:Int))=((max a b:Nat):Int):=by split <;> lia
def sumF (n:Nat) (f:Nat->Nat):Nat:=((List.range (n + 1)).map f).sum
theorem zeV {α:Type} {f g:α->Nat}:∀ l:List α,(∀ x∈l,f x<=g x)->(l.map g).sum<=(l.map f).sum->∀ x∈l,f x=g x
 | [],_,_=>by simp
 | a::l,h,e=>by
   have h1:=h a (by simp)
   have h2:=zcE l fun x hx=>h x (by simp [hx])
   simp only [qB,sum_cons] at e
   intro x hx
   rcases qD.mp hx with rfl | hx
   ·lia
   ·exact zeV l (fun y hy=>h y (by simp [hy])) (by lia) x hx
theorem zlH (h:∀ p,g p<=f p) (hne:¬ ∀ p,p<=n->g p=f p):sumF n g < sumF n f:=by
 rcases lt_or_ge (sumF n g) (sumF n f) with q | q
 ·exact q
 ·exact (hne fun p hp=>zeV (List.range (n + 1)) (fun x _=>h x) q p (qM.mpr (by lia))).elim
structure Swept (R:Nat->Nat->Prop) (n:Nat) (f:Nat->Nat):Prop where
 le:∀ p,f p<=p
 conn:∀ p,Conn R p (f p)
def Still (R:Nat->Nat->Prop) (k:Nat) (f:Nat->Nat):Prop:=∀ p,p < k->∀ q,R p q->f p<=f q
theorem zg7 {R:Nat->Nat->Prop} (hR:∀ p q,R p q->R q p) (hn:∀ p q,R p q->p<=n/\q<=n) (h:Swept R n f) (hs:Still R (n + 1) f):IsLand R f:=
 ⟨h.conn,fun p q e=>by
  have h1:=hs p (by have:=hn p q e; lia) q e
  have h2:=hs q (by have:=hn p q e; lia) p (hR p q e)
  lia,h.le⟩
theorem zpt {x:Int} {l:List Int}:∃ m,(x::l).min?=some m/\m∈x::l/\∀ y∈x::l,m<=y:=by
 cases e:(x::l).min? with
 | none=>cases List.min?_eq_none_iff.mp e
 | some m=>exact ⟨m,rfl,List.min?_mem e,fun y hy=>(List.le_min?_iff e).mp (Int.le_refl m) y hy⟩
theorem zje {R:Nat->Nat->Prop} {l:List Nat} (hl:∀ q,q∈l↔R k q) (hg:Swept R n g) (hle:∀ p,g p<=f0 p) (hst:(∀ p,p<=n->g p=f0 p)->Still R k f0) (hk:k<=n) (hn:∀ p q,R p q->p<=n/\q<=n):
  ∃ v:Nat,((((g k:Nat):Int)::l.map fun q=>((g q:Nat):Int)).min?)=some ((v:Nat):Int)/\Swept R n (fun q=>if q=k then v else g q)/\(∀ p,(if p=k then v else g p)<=f0 p)/\((∀ p,p<=n->(if p=k then v else g p)=f0 p)->Still R (k + 1) f0):=by
 obtain ⟨m,em,hm,hlem⟩:=zpt (x:=((g k:Nat):Int)) (l:=l.map fun q=>((g q:Nat):Int))
 have hv:∃ q,m=((g q:Nat):Int)/\(q=k\/R k q):=by
  grind
 obtain ⟨q,rfl,hq⟩:=hv
 have hk0:g q<=g k:=by have:=hlem _ (by simp:((g k:Nat):Int)∈_); lia
 refine ⟨g q,em,⟨fun p=>?_,fun p=>?_⟩,fun p=>?_,fun hall=>?_⟩
 ·have:=hg.le p
  grind
 ·by_cases e:p=k
  ·subst e
   simp only [if_true]
   rcases hq with rfl | hq
   ·exact hg.conn _
   ·exact (Conn.one hq).trans (hg.conn q)
  ·simp only [zi e]; exact hg.conn p
 ·grind
 ·have hall':∀ p,p<=n->g p=f0 p:=fun p hp=>by
   grind
  intro p hp r hr
  rcases lt_or_ge p k with hpk | hpk
  ·exact hst hall' p hpk r hr
  ·obtain rfl:p=k:=by lia
   have h1:=hall p hk
   simp only [if_true] at h1
   have h2:=hlem ((g r:Nat):Int) (qo _ (qN.mpr ⟨r,(hl r).mpr hr,rfl⟩))
   have h3:=hall' r (hn p r hr).2
   lia
theorem zfm (p q:Nat) (h:TieR B w p q):p<=w.length/\q<=w.length:=by
 have:=zg8 (zck.mpr h)
 exact ⟨this.2.1,this.1⟩
def whE (D':Ends) (m:Nat) (J:Nat->Env->Prop):Ends:={ D' with nx:=fun U2=>∃ m',m' < m/\J m' U2,ct:=fun U2=>∃ m',m' < m/\J m' U2,bk:=D'.nx }
def kWh (b:WS) (D':Ends) (m:Nat) (J:Nat->Env->Prop) (k:Bool) (U:Env):Prop:=if k then b (whE D' m J) U else D'.nx U
def x_Wt:kWh b D' m J true U=b (whE D' m J) U:=rfl
def x_Wf:kWh b D' m J false U=D'.nx U:=rfl
theorem zm4 (hm:m' < m) (h:J m' U):(whE D' m J).nx U:=⟨m',hm,h⟩
theorem zqK (J:Nat->Env->Prop) (m:Nat) (h0:J m U) (h:∀ m U,J m U->c U (kWh b D' m J) D'.ex):wWhile c b D' U:=⟨J,⟨m,h0⟩,fun m U hJ=>h m U hJ⟩
theorem zfR {l:List α} (h:0 < l.length):∃ v,v∈l/\l.getLast?=some v/\atI l (-1)=some v:=by
 refine ⟨l.getLast (qS.mp h),List.getLast_mem _,List.getLast?_eq_some_getLast (qS.mp h),?_⟩
 unfold atI ixN
 rw [zi (by decide),zc (by lia)]
 show l[((-1:Int) + (l.length:Int)).toNat]?=_
 rw [show ((-1:Int) + (l.length:Int)).toNat=l.length - 1 by lia,qj (by lia),List.getLast_eq_getElem]
theorem zlF:atI (l++[x]) (-1)=some x:=by
 obtain ⟨v,_,h1,h2⟩:=zfR (l:=l++[x]) (by simp)
 grind
end FL
noncomputable section
namespace Law
open FL
def w_0_c1:WB:=bEmit 2 (wTup (zG (zF 3) (zG (zQ oAdd (zF 3) (wB bLen (zG (zF 5) zH))) (zG (zF 4) zH))))
def u_0_c1:=uB w_0_c1.eq_1
def w_0_c2:WB:=bFor (wEnum (zF 0)) (gTup [zI 4,zI 5]) (wCmp cEq (wSl (zF 1) (some (zF 3)) (some (zQ oAdd (zF 3) (wB bLen (zG (zF 5) zH))))) (zF 5)) w_0_c1
def u_0_c2:=uB w_0_c2.eq_1
def w_0:WF:=wFn 2 2 [0,1]
 (wRet (wB bSort3 (zG (wLC 2 3 (wRange1 (wB bLen (zG (zF 1) zH))) (zI 3) wYes w_0_c2) zH)))
def w_2_c1:WB:=bEmit 5 (wIfE (wCmp cEq (zF 6) (zF 4)) (zF 3) (zF 6))
def u_2_c1:=uB w_2_c1.eq_1
def w_2:WF:=wFn 3 5 [0,1,2]
 (zR (zT (gTup [zI 3,zI 4]) (wTup (zG (wB bMin (zG (wIx (zF 0) (zF 1)) (zG (wIx (zF 0) (zF 2)) zH))) (zG (wB bMax (zG (wIx (zF 0) (zF 1)) (zG (wIx (zF 0) (zF 2)) zH))) zH))))
  (wRet (wLC 5 1 (wIter (zF 0)) (zI 6) wYes w_2_c1)))
def w_5:WF:=wFn 2 4 [0,1]
 (zR (zT (zI 2) (zQ oAdd (zQ oMulA (wC (.int 7919)) (zF 1)) (wC (.int 11))))
  (zR (wIf (wCmp cLt (zF 1) (wB bLen (zG (zF 0) zH))) (zT (zI 2) (wIx (zF 0) (zF 1))) (wIf (wCmp cGt (wB bLen (zG (zF 0) zH)) (wC (.int 0))) (zT (zI 2) (zQ oAdd (zF 2) (zQ oMulA (zQ oMod (wIx (zF 0) (zQ oMod (zF 1) (wB bLen (zG (zF 0) zH)))) (wC (.int 2147483629))) (wC (.int 69623))))) wPass))
  (zR (zT (zI 3) (zQ oAdd (zQ oMod (zQ oAdd (zQ oMulA (zQ oMod (zF 2) (wC (.int 2147483629))) (wC (.int 48271))) (zQ oMulA (wC (.int 40692)) (zF 1))) (wC (.int 2147483629))) (wC (.int 1))))
  (wRet (wLst (zG (wIx (wLst (zG (wC (.int 0)) (zG (zF 2) zH))) (wB bInt (zG (wOfT (wCmp cGe (zF 2) (zQ oPow (wC (.int 10)) (wC (.int 18))))) zH))) (zG (zF 3) zH)))))))
def w_6:WF:=wFn 2 4 [0,1]
 (zR (wIf (wCmp cGt (wIx (zF 0) (wC (.int 0))) (wC (.int 0))) (zR (zT (zI 2) (zQ oMod (wIx (zF 0) (wC (.int 0))) (zF 1)))
  (zR (wSetIx 0 (wC (.int 0)) (zQ oFdiv (wIx (zF 0) (wC (.int 0))) (zF 1)))
  (wRet (zF 2)))) wPass)
  (zR (zT (zI 3) (zQ oMod (zQ oMulA (wIx (zF 0) (wC (.int 1))) (wC (.int 69623))) (wC (.int 2147483647))))
  (zR (wSetIx 0 (wC (.int 1)) (zQ oAdd (zQ oMod (zQ oAdd (zQ oMulA (zF 3) (wC (.int 48271))) (wC (.int 30103))) (wC (.int 2147483629))) (wC (.int 1))))
  (wRet (zQ oMod (zQ oFdiv (zQ oAdd (zQ oMulA (zF 3) (wC (.int 2147483647))) (wIx (zF 0) (wC (.int 1)))) (wC (.int 8191))) (zF 1))))))
def w_11_b1:WS:=zR (wIf (wtAnd (wCmp cEq (wSl (zF 1) (some (zF 2)) (some (zQ oAdd (zF 2) (wB bLen (zG (zF 5) zH))))) (wSl (zF 5) none (some (zQ oSub (wB bLen (zG (zF 1) zH)) (zF 2))))) (wCmp cLe (zQ oAdd (zF 2) (wB bLen (zG (zF 5) zH))) (zF 3))) (wExpr (wAppend 4 (wTup (zG (zF 5) (zG (zQ oAdd (zF 2) (wB bLen (zG (zF 5) zH))) zH))))) wPass)
  (wIf (wtAnd (wCmp cGe (zF 2) (wB bLen (zG (zF 5) zH))) (wCmp cEq (wSl (zF 1) (some (zQ oSub (zF 2) (wB bLen (zG (zF 5) zH)))) (some (zF 2))) (zF 5))) (wExpr (wAppend 4 (wTup (zG (zF 5) (zG (zQ oSub (zF 2) (wB bLen (zG (zF 5) zH))) zH))))) wPass)
def u_11_b1:=uS w_11_b1.eq_1
def w_11:WF:=wFn 4 6 [0,1,2,3]
 (zR (zT (zI 4) (wLst zH))
  (zR (wFor (wIter (zF 0)) (zI 5) w_11_b1)
  (wRet (zF 4))))
def w_13_c1:WB:=bEmit 5 (wLst zH)
def u_13_c1:=uB w_13_c1.eq_1
def w_13_b2:WS:=wIf (wCmp cInA (wSl (zF 1) (some (zF 3)) (some (zF 4))) (zF 0)) (zR (wExpr (wAppendAt 2 (zF 3) (zF 4)))
  (wExpr (wAppendAt 2 (zF 4) (zF 3)))) wPass
def u_13_b2:=uS w_13_b2.eq_1
def w_13_b3:WS:=wFor (wRange2 (zQ oAdd (zF 3) (wC (.int 1))) (zQ oAdd (wB bLen (zG (zF 1) zH)) (wC (.int 1)))) (zI 4) w_13_b2
def u_13_b3:=uS w_13_b3.eq_1
def w_13_c4:WB:=bEmit 5 (wFrz (wB bSort3 (zG (zF 6) zH)))
def u_13_c4:=uB w_13_c4.eq_1
def w_13:WF:=wFn 2 5 [0,1]
 (zR (zT (zI 2) (wLC 5 1 (wRange1 (zQ oAdd (wB bLen (zG (zF 1) zH)) (wC (.int 1)))) (zI 6) wYes w_13_c1))
  (zR (wFor (wRange1 (wB bLen (zG (zF 1) zH))) (zI 3) w_13_b3)
  (wRet (wLC 5 1 (wIter (zF 2)) (zI 6) wYes w_13_c4))))
def w_15_c1:WB:=bEmit 5 (wIx (zF 1) (zF 6))
def u_15_c1:=uB w_15_c1.eq_1
def w_15_b2:WS:=wSetIx 1 (zF 3) (wB bMinL (zG (zQ oAdd (wLst (zG (wIx (zF 1) (zF 3)) zH)) (wLC 5 1 (wIter (zF 4)) (zI 6) wYes w_15_c1)) zH))
def u_15_b2:=uS w_15_b2.eq_1
def w_15_b3:WS:=zR (zT (zI 2) (wFrz (wB bListA (zG (zF 1) zH))))
  (wFor (wEnum (zF 0)) (gTup [zI 3,zI 4]) w_15_b2)
def u_15_b3:=uS w_15_b3.eq_1
def w_15:WF:=wFn 1 5 [0]
 (zR (zT (zI 1) (wListI (wRange1 (wB bLen (zG (zF 0) zH)))))
  (zR (zT (zI 2) (wFrz (wLst zH)))
  (zR (wWhile (wCmp cNe (zF 2) (zF 1)) w_15_b3)
  (wRet (zF 1)))))
def w_1_b1:WS:=zT (zI 2) (wFrz (zS w_2 [true,true,true] (zG (zF 2) (zG (zF 3) (zG (zF 4) zH)))))
def u_1_b1:=uS w_1_b1.eq_1
def w_1:WF:=wFn 2 5 [0,1]
 (zR (zT (zI 2) (wFrz (wB bListA (zG (zF 0) zH))))
  (zR (wFor (wIter (zF 1)) (gTup [zI 3,zI 4]) w_1_b1)
  (wRet (wB bTuple (zG (zF 2) zH)))))
def w_7_c1:WB:=bEmit 3 (wFrz (wPopAt 2 (zS w_6 [true,true] (zG (zF 0) (zG (wB bLen (zG (zF 2) zH)) zH)))))
def u_7_c1:=uB w_7_c1.eq_1
def w_7:WF:=wFn 2 3 [0,1]
 (zR (zT (zI 2) (wB bListA (zG (wC (.str [97,98,99,100,101,102,103,104,105,106,107,108,109,110,111,112,113,114,115,116,117,118,119,120,121,122])) zH)))
  (wRet (wMS mJoin (wC (.str [])) (zG (wB bSort3 (zG (wLC 3 1 (wRange1 (zF 1)) (zI 4) wYes w_7_c1) zH)) zH))))
def w_8_c1:WB:=bEmit 4 (wIx (zF 1) (zS w_6 [true,true] (zG (zF 0) (zG (wB bLen (zG (zF 1) zH)) zH))))
def u_8_c1:=uB w_8_c1.eq_1
def w_8:WF:=wFn 3 4 [0,1,2]
 (zR (zT (zI 3) (zQ oMulA (zS w_6 [true,true] (zG (zF 0) (zG (zQ oAdd (zF 2) (wC (.int 1))) zH))) (wB bInt (zG (wOfT (wCmp cNe (zF 1) (wC (.str [])))) zH))))
  (wRet (wMS mJoin (wC (.str [])) (zG (wLC 4 1 (wRange1 (zF 3)) (zI 5) wYes w_8_c1) zH))))
def w_9:WF:=wFn 3 7 [0,1,2]
 (zR (zT (zI 3) (wIx (zF 2) (zS w_6 [true,true] (zG (zF 0) (zG (wB bLen (zG (zF 2) zH)) zH)))))
  (zR (zT (zI 4) (zS w_6 [true,true] (zG (zF 0) (zG (wC (.int 5)) zH))))
  (zR (zT (zI 5) (wIx (zF 1) (zS w_6 [true,true] (zG (zF 0) (zG (wB bLen (zG (zF 1) zH)) zH)))))
  (zR (zT (zI 6) (zS w_6 [true,true] (zG (zF 0) (zG (wB bLen (zG (zF 3) zH)) zH))))
  (wRet (wIx (wLst (zG (wSl (zF 3) none (some (zQ oAdd (zF 6) (wC (.int 1))))) (zG (wSl (zF 3) (some (zF 6)) none) (zG (zQ oAdd (zF 5) (zF 3)) (zG (zQ oAdd (zF 3) (zF 5)) (zG (zQ oAdd (zF 3) (zF 3)) zH)))))) (zF 4)))))))
def w_12_c1:WB:=bEmit 11 (zF 12)
def u_12_c1:=uB w_12_c1.eq_1
def w_12_b2:WS:=zR (zT (zI 7) (wFrz (zS w_11 [true,true,true,true] (zG (zF 1) (zG (zF 4) (zG (zF 5) (zG (zF 3) zH)))))))
  (zR (wIf (wCmp cGt (zF 6) (wC (.int 4))) (wFz 7 (zT (zI 7) (wLC 11 1 (wIter (zF 7)) (zI 12) (wCmp cGt (wIx (zF 12) (wC (.int 1))) (zF 5)) w_12_c1))) wPass)
  (wIf (wCmp cNe (zF 7) (wLst zH)) (zR (zT (gTup [zI 8,zI 9]) (wIx (zF 7) (zS w_6 [true,true] (zG (zF 0) (zG (wB bLen (zG (zF 7) zH)) zH)))))
  (zR (wIf (wCmp cGt (zF 9) (zF 5)) (zT (zI 4) (zQ oAdd (zQ oAdd (wSl (zF 4) none (some (zF 5))) (zF 8)) (wSl (zF 4) (some (zF 9)) none))) wPass)
  (zT (zI 5) (zF 9)))) wPass))
def u_12_b2:=uS w_12_b2.eq_1
def w_12:WF:=wFn 4 11 [0,1,2,3]
 (zR (zT (gTup [zI 4,zI 5]) (wTup (zG (wC (.str [])) (zG (wC (.int 0)) zH))))
  (zR (wFor (wRange1 (zQ oAdd (wC (.int 1)) (zS w_6 [true,true] (zG (zF 0) (zG (wC (.int 9)) zH))))) (zI 6) w_12_b2)
  (zR (wIf (wtAnd (wCmp cNe (zF 4) (wC (.str []))) (wCmp cEq (zS w_6 [true,true] (zG (zF 0) (zG (wC (.int 5)) zH))) (wC (.int 0)))) (zR (zT (zI 10) (zS w_6 [true,true] (zG (zF 0) (zG (wB bLen (zG (zF 4) zH)) zH))))
  (zT (zI 4) (zQ oAdd (zQ oAdd (wSl (zF 4) none (some (zF 10))) (wIx (zF 2) (zS w_6 [true,true] (zG (zF 0) (zG (wB bLen (zG (zF 2) zH)) zH))))) (wSl (zF 4) (some (zQ oAdd (zF 10) (wC (.int 1)))) none)))) wPass)
  (wRet (zF 4)))))
def w_17_c1:WB:=bEmit 7 (zF 8)
def u_17_c1:=uB w_17_c1.eq_1
def w_17_c2:WB:=bEmit 7 (wIx (zF 2) (zF 8))
def u_17_c2:=uB w_17_c2.eq_1
def w_17_c3:WB:=bEmit 7 (wIx (zF 0) (zF 8))
def u_17_c3:=uB w_17_c3.eq_1
def w_17_b4:WS:=zR (zT (zI 5) (wB bTuple (zG (wLC 7 1 (wRange1 (wB bLen (zG (zF 0) zH))) (zI 8) (wCmp cEq (zQ oAnd1 (zQ oShr (zF 4) (zF 8)) (wC (.int 1))) (wC (.int 1))) w_17_c1) zH)))
  (zR (zT (zI 6) (wTup (zG (wB bSum (zG (wLC 7 1 (wIter (zF 5)) (zI 8) wYes w_17_c2) zH)) (zG (wB bLen (zG (zF 5) zH)) (zG (zF 5) zH)))))
  (wIf (wtOr (wCmp cIs (zF 3) (wC .non)) (wCmp cLtT (zF 6) (zF 3))) (wIf (wCmp cEq (wIx (zS w_15 [true] (zG (wFrz (zS w_13 [true,true] (zG (wFrz (wLC 7 1 (wIter (zF 5)) (zI 8) wYes w_17_c3)) (zG (zF 1) zH)))) zH)) (wB bLen (zG (zF 1) zH))) (wC (.int 0))) (zT (zI 3) (zF 6)) wPass) wPass))
def u_17_b4:=uS w_17_b4.eq_1
def w_17:WF:=wFn 3 7 [0,1,2]
 (zR (zT (zI 3) (wC .non))
  (zR (wFor (wRange1 (zQ oShl (wC (.int 1)) (wB bLen (zG (zF 0) zH)))) (zI 4) w_17_b4)
  (zR (wIf (wCmp cIs (zF 3) (wC .non)) (wRet (wC .non)) wPass)
  (wRet (wTup (zG (wIx (zF 3) (wC (.int 0))) (zG (wIx (zF 3) (wC (.int 2))) zH)))))))
def w_3_c1:WB:=bEmit 13 (wTup (zG (zF 14) (zG (zF 15) zH)))
def u_3_c1:=uB w_3_c1.eq_1
def w_3_b2:WS:=zR (zT (zI 11) (wFrz (zS w_1 [true,true] (zG (zF 7) (zG (zF 6) zH)))))
  (zR (zT (zI 12) (wTup (zG (zQ oAdd (zF 8) (zF 5)) (zG (zQ oAdd (zF 9) (wC (.int 1))) (zG (zQ oAdd (zF 10) (wTup (zG (zF 4) zH))) zH)))))
  (wIf (wtOr (wCmp cNotInA (zF 11) (zF 3)) (wCmp cLtT (zF 12) (wIxA (zF 3) (zF 11)))) (wDput 3 (zF 11) (zF 12)) wPass))
def u_3_b2:=uS w_3_b2.eq_1
def w_3_b3:WS:=zR (wFz 6 (zT (zI 6) (wLC 13 3 (wIter (zS w_0 [true,true] (zG (zF 0) (zG (zF 1) zH)))) (gTup [zI 14,zI 15,zI 16]) (wCmp cEq (zF 16) (zF 4)) w_3_c1)))
  (wFor (wIter (wListIt 3)) (gTup [zI 7,gTup [zI 8,zI 9,zI 10]]) w_3_b2)
def u_3_b3:=uS w_3_b3.eq_1
def w_3_c4:WB:=bEmit 13 (zF 15)
def u_3_c4:=uB w_3_c4.eq_1
def w_3:WF:=wFn 3 13 [0,1,2]
 (zR (zT (zI 3) (wDispT (wTupI (wRange1 (zQ oAdd (wB bLen (zG (zF 1) zH)) (wC (.int 1))))) (wTup (zG (wC (.int 0)) (zG (wC (.int 0)) (zG (wTup zH) zH))))))
  (zR (wFor (wEnum (zF 2)) (gTup [zI 4,zI 5]) w_3_b3)
  (wRet (zQ minDf (wLC 13 2 (wItemsT 3) (gTup [zI 14,zI 15]) (wCmp cEq (wIx (zF 14) (wUn oNeg (wC (.int 1)))) (wC (.int 0))) w_3_c4) (wC .non)))))
def w_10_b1:WS:=zR (zT (zI 6) (zQ oAdd (wIx (zF 1) (zS w_6 [true,true] (zG (zF 0) (zG (wB bLen (zG (zF 1) zH)) zH)))) (zS w_8 [true,true,true] (zG (zF 0) (zG (zF 1) (zG (zQ oSub (zF 3) (wC (.int 1))) zH))))))
  (zR (wIf (wtAnd (wCmp cNe (zF 4) (wLst zH)) (wCmp cEq (zS w_6 [true,true] (zG (zF 0) (zG (wC (.int 2)) zH))) (wC (.int 0)))) (zT (zI 6) (wSl (zS w_9 [true,true,true] (zG (zF 0) (zG (zF 1) (zG (zF 4) zH)))) none (some (zF 3)))) wPass)
  (wIf (wCmp cNotInA (zF 6) (zF 4)) (wExpr (wAppend 4 (zF 6))) wPass))
def u_10_b1:=uS w_10_b1.eq_1
def w_10:WF:=wFn 4 7 [0,1,2,3]
 (zR (zT (zI 4) (wLst zH))
  (zR (wFor (wRange1 (zQ oMulA (zS w_6 [true,true] (zG (zF 0) (zG (zQ oAdd (zF 2) (wC (.int 1))) zH))) (wB bInt (zG (wOfT (wCmp cNe (zF 1) (wC (.str [])))) zH)))) (zI 5) w_10_b1)
  (wRet (wB bTuple (zG (zF 4) zH)))))
def w_4:WF:=wFn 3 4 [0,1,2]
 (zR (zT (zI 3) (wFrz (zS w_3 [true,true,true] (zG (zF 0) (zG (zF 1) (zG (zF 2) zH))))))
  (wRet (wIfE (wCmp cIs (zF 3) (wC .non)) (wC .non) (wTup (zG (wIx (zF 3) (wC (.int 0))) (zG (wIx (zF 3) (wC (.int 2))) zH))))))
def w_14_c1:WB:=bEmit 6 (zS w_6 [true,true] (zG (zF 0) (zG (zF 5) zH)))
def u_14_c1:=uB w_14_c1.eq_1
def w_14:WF:=wFn 2 6 [0,1]
 (zR (zT (zI 2) (zS w_7 [true,true] (zG (zF 0) (zG (zQ oAdd (wC (.int 1)) (zS w_6 [true,true] (zG (zF 0) (zG (wC (.int 3)) zH)))) zH))))
  (zR (zT (zI 3) (wFrz (zS w_10 [true,true,true,true] (zG (zF 0) (zG (zF 2) (zG (wC (.int 6)) (zG (wC (.int 6)) zH)))))))
  (zR (zT (zI 4) (wFrz (zS w_12 [true,true,true,true] (zG (zF 0) (zG (zF 3) (zG (zF 2) (zG (wC (.int 12)) zH)))))))
  (zR (wIf (wCmp cEq (zS w_6 [true,true] (zG (zF 0) (zG (wC (.int 6)) zH))) (wC (.int 0))) (zT (zI 4) (zS w_8 [true,true,true] (zG (zF 0) (zG (zF 2) (zG (wC (.int 12)) zH))))) wPass)
  (zR (zT (zI 5) (wIx (wLst (zG (wC (.int 2)) (zG (wC (.int 4)) (zG (zF 1) zH)))) (zS w_6 [true,true] (zG (zF 0) (zG (wC (.int 3)) zH)))))
  (wRet (wTup (zG (zF 2) (zG (zF 3) (zG (zF 4) (zG (wB bTuple (zG (wLC 6 1 (wIter (zF 3)) (zI 7) wYes w_14_c1) zH)) zH)))))))))))
def w_16_c1 (r:WF):WB:=bEmit 2 (wFrz (zS r [true,true] (zG (zF 3) (zG (zF 4) zH))))
def u_16_c1 (r:WF):=uB (w_16_c1.eq_1 r)
def zaU (r:WF):WF:=wFn 2 2 [0,1]
 (zR (wIf (wTest (wIsI "tuple" (zF 1))) (zR (wIf (wtOr (wtNot (wTest (wIsI "tuple" (zF 0)))) (wCmp cNe (wB bLen (zG (zF 0) zH)) (wB bLen (zG (zF 1) zH)))) (wRet (wC (.bl false))) wPass)
  (wRet (wB bAll (zG (wLC 2 2 (wZip (zF 0) (zF 1)) (gTup [zI 3,zI 4]) wYes (w_16_c1 r)) zH)))) wPass)
  (zR (wIf (wTest (wIsI "str" (zF 1))) (wRet (wAndV (wIsI "str" (zF 0)) (wOfT (wCmp cEq (zF 0) (zF 1))))) wPass)
  (wRet (wAndV (wIsI "int" (zF 0)) (wAndV (wNotV (wIsI "bool" (zF 0))) (wOfT (wCmp cEq (zF 0) (zF 1))))))))
def w_16:WF:=wRec zaU 4
def w_18_b1:WS:=wExpr (wAppend 1 (wTup (zG (zF 7) (zG (zF 5) (zG (zF 8) (zG (zS w_17 [true,true,true] (zG (zF 7) (zG (zF 5) (zG (zF 8) zH)))) zH))))))
def u_18_b1:=uS w_18_b1.eq_1
def w_18_b2:WS:=zR (zT (gTup [zI 3,zI 4,zI 5,zI 6]) (zS w_14 [true,true] (zG (zS w_5 [true,true] (zG (zF 0) (zG (zF 2) zH))) (zG (wC (.int 100)) zH))))
  (wFor (wIter (wLst (zG (wTup (zG (zF 4) (zG (zF 6) zH))) (zG (wTup (zG (zF 4) (zG (wTupRev (zF 6)) zH))) (zG (wTup (zG (wSl (zF 4) (some (wC (.int 1))) none) (zG (wSl (zF 6) (some (wC (.int 1))) none) zH))) zH))))) (gTup [zI 7,zI 8]) w_18_b1)
def u_18_b2:=uS w_18_b2.eq_1
def w_18_b3:WS:=zR (zT (zI 10) (wFrz (zS w_4 [true,true,true] (zG (zF 4) (zG (zF 5) (zG (zF 8) zH))))))
  (wIf (wtOr (wtAnd (wCmp cIs (zF 9) (wC .non)) (wCmp cIsNot (zF 10) (wC .non))) (wtAnd (wCmp cIsNot (zF 9) (wC .non)) (wtNot (wTest (zS w_16 [true,true] (zG (zF 10) (zG (zF 9) zH))))))) (wRet (wC (.bl false))) wPass)
def u_18_b3:=uS w_18_b3.eq_1
def w_18:WF:=wFn 1 11 [0]
 (zR (zT (zI 1) (wLst zH))
  (zR (wFor (wRange1 (wC (.int 2))) (zI 2) w_18_b2)
  (zR (wFor (wIter (zQ oAdd (zF 1) (wSl (zF 1) none (some (wC (.int 1)))))) (gTup [zI 4,zI 5,zI 8,zI 9]) w_18_b3)
  (wRet (wC (.bl true))))))
end Law
end
end
namespace Law
open FL
variable {P:S->List S->Prop} {PX:D->List S->Prop}
set_option hygiene false in
local macro_rules
 | `(tactic| simp! [$xs,*] $[$l:location]?)=>do
   let ls <- ("e_C e_V zrD znp znA e_Un zqq zqG e_Ck zrs zpo zm3 znX zlm zld zr4 zn5 znQ e_Or zry zq3 zqh zoQ zq7 zoo zpZ zm8 zo6 zom zle zlo zns zlq zlJ zql zo5 zlP zlV zrU e_gA zso zqf e_gv e_gl zsq zrF znu zn7 zqa zoC zo7 e_l0 e_l1 e_l2 e_l3 e_l4 e_l5 e_vv e_vl e_cv e_cl zoT e_sh zar zrE e_Ix zrL zri zpq zmH zqd zqo zqi zpU zrX zsa zoX znT znK zsi zqs e_p0 e_pv e_pl zr6 e_pA e_b0 e_bv e_bl zpp zmj zlr znz zpJ e_vA zq9 e_B e_B1 e_B2 e_MS zrc zrZ e_Ap zqC zrk zrn zr2 zqk zo2 zod zsn zmI zlW zlY zmv zp5 e_Pt zsp zrj e_Sl zsf zrV zqt zr0 e_nx e_rt e_ex zox zp9 e_If zrl zrI zpW zn3 zlD zq5 znB zob e_gN e_gT zpP zqY zqp zqb zr7 zpa zmM zow znU zmC zms e_Dp zqZ zpz zrt zrS zoc e_It zsk zqQ zpQ zpI zrw e_En zrJ zpL zp0 e_Zi zpY zpV zqw zrW zsj e_R1 zrC zq8 e_R2 zrm zqR zrv zrY zmV e_LC zrp zqP znj zqn zmL zqW e_Em zp4 zq1 zrB e_bF zsh zpE zrf e_Rt zp3 zqu e_Fn e_f0 e_fs e_fl e_fA zqD zop zoS zoE zqO znk zpS znw zqy zpD e_lt e_gt e_le e_ge zpm zpC zoy zsg zsl zmK zoF zm6 zmE zng zm5 zoY zpl zqM zpM zra zqx zr8 zqF zrh zq4 zp7 zrM zpG zrG zqz zrx zqj zqJ zrO zqc zsm zse zrN zqe zp6 zrQ zqS zqB zrb zr9 zrK zpH zrg zpB zpF zr5 zr1 zre zsc zqg zmZ znm zoq zmW zpf znH znI zpj znO znf zmQ znx zpk zm2 zoD zmN zn4 zps zo4 zq6 zpK zoW e_AA zqN zqT zp2 zrR zqU zqX zpd znE zsd zoA zot e_XA zrP zqA zpN zqL zoG e_LI zru e_TI zq0 e_TR zqm zqV zpn e_Dt zro zrd zrz zq2 zok zpT zoN zpX zpA zhK zmX zno zof zoa map_some S.toD_sh S.toD_lst qB map_nil qR nil_append List.replicate_succ List.replicate_zero Nat.reduceSub Nat.reduceAdd qC List.take_succ_cons take_zero true_and S.toDs_map S.toD_dct Int.reduceEq Int.reduceLT Int.reduceLE decide_true decide_false Bool.not_true Bool.not_false".splitOn " ").toArray.mapM fun n=>`(Lean.Parser.Tactic.simpLemma| $(Lean.mkIdent n.toName):ident)
   let ls:=ls++xs.getElems
   `(tactic| simp -implicitDefEqProofs (disch:=first | omega | decide | rfl | (simp only [qq,qt,qv,qy,qG,zaj]; omega) | (simp only [qq,qt,qv,qy,qG,zaj]; done)) only [$ls,*] $[$l:location]?)
noncomputable section pu
def box (a s:Int):S:=.lst [.sh (.int a),.sh (.int s)]
theorem zal {a s m:Int} (ha:0<=a) (hs:1<=s) (hs2:s<=2147483629) (hm:0 < m) (hm2:m < 18446744073709551616)
  (h:∀ r a' s',0<=r->r < m->0<=a'->1<=s'->s'<=2147483629->P (.sh (.int r)) [box a' s',.sh (.int m)]):w_6 [box a s,.sh (.int m)] P PX:=by
 refine zaV rfl rfl ?_
 simp! [box]
 cases hc:decide (0 < a)
 ·simp! [e_C]
  exact h _ _ _ (Int.emod_nonneg _ (by lia)) (Int.emod_lt_of_pos _ hm) ha (by lia) (by lia)
 ·simp! [e_C]
  exact h _ _ _ (Int.emod_nonneg _ (by lia)) (Int.emod_lt_of_pos _ hm) (Int.ediv_nonneg ha (by lia)) hs hs2
theorem zj5 {ns:List Int} {k:Int} (hk:0<=k)
  (h:∀ a s,0<=a->1<=s->s<=2147483629->P (box a s) [.sh (.lst (ns.map .int)),.sh (.int k)]):w_5 [.sh (.lst (ns.map .int)),.sh (.int k)] P PX:=by
 refine zaV rfl rfl ?_
 simp! [length_map]
 by_cases h1:k < ns.length
 ·obtain ⟨v,hv,_,e⟩:=zdT (f:=D.int) hk h1
  simp! [length_map,h1,decide_true,e]
  cases hc:decide ((10:Int) ^ (18:Int).toNat<=v)
  ·simp! [if_true,false_eq_true,if_false]
   exact h _ _ (by decide) (by lia) (by lia)
  ·simp! [if_true]
   have:(0:Int)<=v:=by
    have:=qX hc
    have e:(10:Int) ^ (18:Int).toNat=1000000000000000000:=by decide
    lia
   exact h _ _ this (by lia) (by lia)
 ·by_cases h2:0 < ns.length
  ·have hp:(0:Int) < ns.length:=by lia
   obtain ⟨v,hv,_,e⟩:=zdT (f:=D.int) (l:=ns) (z:=k % ns.length) (Int.emod_nonneg _ (by lia)) (Int.emod_lt_of_pos _ hp)
   simp! [length_map,h1,hp,decide_true,decide_false,e]
   generalize 7919 * k + 11 + v % 2147483629 * 69623=cell
   cases hc:decide ((10:Int) ^ (18:Int).toNat<=cell)
   ·simp! [if_true,false_eq_true,if_false]
    exact h _ _ (by decide) (by lia) (by lia)
   ·simp! [if_true]
    have:(0:Int)<=cell:=by
     have:=qX hc
     have e:(10:Int) ^ (18:Int).toNat=1000000000000000000:=by decide
     lia
    exact h _ _ this (by lia) (by lia)
  ·have hp:¬ (0:Int) < ns.length:=by lia
   simp! [length_map,h1,hp,decide_true,decide_false]
   generalize 7919 * k + 11=cell
   cases hc:decide ((10:Int) ^ (18:Int).toNat<=cell)
   ·simp! [if_true,false_eq_true,if_false]
    exact h _ _ (by decide) (by lia) (by lia)
   ·simp! [if_true]
    have:(0:Int)<=cell:=by
     have:=qX hc
     have e:(10:Int) ^ (18:Int).toNat=1000000000000000000:=by decide
     lia
    exact h _ _ this (by lia) (by lia)
def letters:List Nat:=[97,98,99,100,101,102,103,104,105,106,107,108,109,110,111,112,113,114,115,116,117,118,119,120,121,122]
theorem zka {Q:Env->Prop} {E:WX} {m:Int}:∀ (xs:List D) (a s:Int) (L A:List Nat) (o:Option S),xs.length<=L.length->0<=a->1<=s->s<=2147483629->(A++L).Perm letters->
  (∀ a' s' (L' A':List Nat) o',0<=a'->1<=s'->s'<=2147483629->A'.length=A.length + xs.length->(A'++L').Perm letters->Q [some (box a' s'),some (.sh (.int m)),some (.lst ((L'.map sg).map .sh)),some (.lst ((A'.map sg).map .sh)),o'])->
  bLoop (zI 4) wYes w_7_c1 xs [some (box a s),some (.sh (.int m)),some (.lst ((L.map sg).map .sh)),some (.lst ((A.map sg).map .sh)),o] Q E:=by
 intro xs
 induction xs with
 | nil=>
   intro a s L A o h1 ha hs hs2 hnd h
   exact h a s L A o ha hs hs2 (by simp) hnd
 | cons x xs ih=>
   intro a s L A o h1 ha hs hs2 hnd h
   have z5:=hnd.length_eq
   have h26:letters.length=26:=rfl
   simp only [qv,qt] at h1 h z5
   rw [e_bL]
   simp! [u_7_c1,e_sh,zar,box,length_map]
   refine zal ha hs hs2 ?_ ?_ fun r a' s' hr hr2 ha' hs' hs2'=>?_
   ·lia
   ·lia
   simp! [e_sh,zar,box,length_map]
   obtain ⟨c,hc,hg,_⟩:=zew (l:=L) hr hr2
   refine zm9 hr (by simp only [qq,zaj]; lia) (zgB (d:=sg c) (by rw [qI,hg]; rfl)) ?_
   simp! [e_sh,zar,box,length_map]
   refine ⟨by simp only [zaj]; lia,?_⟩
   have e1:((L.map sg).map S.sh).eraseIdx r.toNat=((L.eraseIdx r.toNat).map sg).map S.sh:=by rw [zcN,zcN]
   have e2:((A.map sg).map S.sh)++[S.sh (sg c)]=(((A++[c]).map sg).map S.sh):=by simp
   rw [e1,e2]
   have hlt:r.toNat < L.length:=by lia
   have hl:(L.eraseIdx r.toNat).length=L.length - 1:=List.length_eraseIdx_of_lt hlt
   have hgc:L[r.toNat]=c:=by rw [qj hlt] at hg; exact qh hg
   have hperm:(A++[c]++L.eraseIdx r.toNat).Perm (A++L):=by
    rw [qr]
    refine List.Perm.append_left A ?_
    have:=zdj L r.toNat hlt
    rw [hgc] at this
    exact this
   refine ih a' s' _ _ _ (by lia) ha' hs' hs2' (hperm.trans hnd) fun a2 s2 L' A' o' x1 x2 x3 x4 x5=>h a2 s2 L' A' o' x1 x2 x3 (by rw [x4]; simp only [qt,qE]; lia) x5
theorem zeK {a s m:Int} (ha:0<=a) (hs:1<=s) (hs2:s<=2147483629) (hm:0<=m) (hm2:m<=26)
  (h:∀ (l:List Nat) a' s',l.length=m.toNat->l.Pairwise (· < ·)->(∀ c∈l,97<=c/\c<=122)->0<=a'->1<=s'->s'<=2147483629->P (.sh (.str l)) [box a' s',.sh (.int m)]):w_7 [box a s,.sh (.int m)] P PX:=by
 refine zaV rfl rfl ?_
 simp! [box,e_sh,zar]
 refine ⟨by simp only [zaj]; lia,?_⟩
 have hf:(fromTo 0 m.toNat).length=m.toNat:=zbw
 have h26:letters.length=26:=rfl
 refine zka (fromTo 0 m.toNat) a s letters [] none (by rw [hf,h26]; lia) ha hs hs2 (List.Perm.refl _)
  fun a' s' L' A' o' ha' hs' hs2' hA hpm=>?_
 rw [hf,qy,zero_add] at hA
 have hnd:A'.Nodup:=(qz.mp (hpm.nodup_iff.mpr (by decide))).1
 have hle:∀ c∈A',97<=c/\c<=122:=fun c hc=>by
  have:c∈letters:=hpm.mem_iff.mp (qm _ hc)
  have hall:∀ c∈letters,97<=c/\c<=122:=by decide
  exact hall c this
 obtain ⟨A2,hp,hso,e⟩:=zme (A:=A') (by lia)
 have hl:A2.length=m.toNat:=hp.length_eq.trans hA
 simp! [box,e_sh,zar,e,zjc (show A2.length<=big by simp only [zaj]; lia)]
 exact h A2 a' s' hl (zhv hso (hp.nodup_iff.mpr hnd)) (fun c hc=>hle c (hp.mem_iff.mp hc)) ha' hs' hs2'
theorem ziz {Q:Env->Prop} {E:WX} {m many:Int} {col:List Nat} (hc:0 < col.length) (hc2:col.length<=26):∀ (xs:List D) (a s:Int) (A:List Nat) (o:Option S),0<=a->1<=s->s<=2147483629->A.length + xs.length<=1000->
  (∀ a' s' (A':List Nat) o',0<=a'->1<=s'->s'<=2147483629->A'.length=A.length + xs.length->(∀ z∈A',z∈A\/z∈col)->Q [some (box a' s'),some (.sh (.str col)),some (.sh (.int m)),some (.sh (.int many)),some (.lst ((A'.map sg).map .sh)),o'])->
  bLoop (zI 5) wYes w_8_c1 xs [some (box a s),some (.sh (.str col)),some (.sh (.int m)),some (.sh (.int many)),some (.lst ((A.map sg).map .sh)),o] Q E:=by
 intro xs
 induction xs with
 | nil=>
   intro a s A o ha hs hs2 h3 h
   exact h a s A o ha hs hs2 (by simp) fun z hz=>.inl hz
 | cons x xs ih=>
   intro a s A o ha hs hs2 h3 h
   simp only [qv] at h3 h
   rw [e_bL]
   simp! [u_8_c1,e_sh,zar,box,length_map]
   refine zal ha hs hs2 (by lia) (by lia) fun r a' s' hr hr2 ha' hs' hs2'=>?_
   obtain ⟨c,hcm,_,e⟩:=zew (l:=col) hr hr2
   simp! [e,e_sh,zar,box,length_map]
   refine ⟨by simp only [zaj]; lia,?_⟩
   have e2:((A.map sg).map S.sh)++[S.sh (.str [c])]=(((A++[c]).map sg).map S.sh):=by simp [sg]
   rw [e2]
   refine ih a' s' _ _ ha' hs' hs2' (by simp only [qt,qE]; lia) fun a2 s2 A' o' x1 x2 x3 x4 x5=>h a2 s2 A' o' x1 x2 x3 (by rw [x4]; simp only [qt,qE]; lia) fun z hz=>?_
   rcases x5 z hz with q | q
   ·rcases qA.mp q with q | q
    ·exact .inl q
    ·rw [qw.mp q]; exact .inr hcm
   ·exact .inr q
theorem zez {a s m:Int} {col:List Nat} (ha:0<=a) (hs:1<=s) (hs2:s<=2147483629) (hm:0<=m) (hm2:m<=900) (hc:0 < col.length) (hc2:col.length<=26)
  (h:∀ (l:List Nat) a' s',l.length<=m.toNat->(∀ z∈l,z∈col)->0<=a'->1<=s'->s'<=2147483629->P (.sh (.str l)) [box a' s',.sh (.str col),.sh (.int m)]):w_8 [box a s,.sh (.str col),.sh (.int m)] P PX:=by
 refine zaV rfl rfl ?_
 simp! [box,e_sh,zar]
 refine zal ha hs hs2 (by lia) (by lia) fun r a1 s1 hr hr2 ha1 hs1 hs21=>?_
 have hne:(decide (col=[]))=false:=by simp; intro z; rw [z] at hc; simp at hc
 simp! [box,e_sh,zar,hne,Bool.not_false,if_true,mul_one]
 refine ⟨by simp only [zaj]; lia,?_⟩
 have hf:(fromTo 0 r.toNat).length=r.toNat:=zbw
 refine ziz (A:=[]) hc hc2 _ a1 s1 none ha1 hs1 hs21 (by rw [hf]; simp only [qy]; lia) fun a' s' A' o' ha' hs' hs2' hA hg=>?_
 rw [hf,qy,zero_add] at hA
 simp! [box,e_sh,zar]
 rw [zjc (by simp only [zaj]; lia)]
 simp! [box,e_sh,zar]
 exact h A' a' s' (by lia) (fun z hz=>(hg z hz).resolve_left (by simp)) ha' hs' hs2'
theorem zjp {a s:Int} {col:List Nat} {B:List Wd} (ha:0<=a) (hs:1<=s) (hs2:s<=2147483629) (hc:0 < col.length) (hc2:col.length<=26) (hB:0 < B.length) (hB2:B.length<=1000) (hw:∀ w∈B,w≠[]/\w.length<=1000/\∀ c∈w,c∈col)
  (h:∀ (w:Wd) a' s',w≠[]->w.length<=2000->(∀ c∈w,c∈col)->0<=a'->1<=s'->s'<=2147483629->P (.sh (.str w)) [box a' s',.sh (.str col),.lst ((B.map D.str).map .sh)]):w_9 [box a s,.sh (.str col),.lst ((B.map D.str).map .sh)] P PX:=by
 refine zaV rfl rfl ?_
 simp! [box,e_sh,zar,length_map]
 refine zal ha hs hs2 (by lia) (by lia) fun r a1 s1 hr hr2 ha1 hs1 hs21=>?_
 obtain ⟨w,hwm,_,e⟩:=zdT (f:=fun z=>S.sh (D.str z)) (l:=B) hr hr2
 have e':atI ((B.map D.str).map S.sh) r=some (S.sh (.str w)):=by rw [qH]; exact e
 obtain ⟨hw1,hw2,hw3⟩:=hw w hwm
 have hwl:0 < w.length:=qS.mpr hw1
 simp! [box,e']
 refine zal ha1 hs1 hs21 (by decide) (by decide) fun kd a2 s2 hk0 hk1 ha2 hs2 hs22=>?_
 simp! [box]
 refine zal ha2 hs2 hs22 (by lia) (by lia) fun r3 a3 s3 hr3 hr32 ha3 hs3 hs23=>?_
 obtain ⟨c,hcm,_,ec⟩:=zew (l:=col) hr3 hr32
 simp! [box,ec]
 refine zal ha3 hs3 hs23 (by lia) (by lia) fun p a4 s4 hp0 hp1 ha4 hs4 hs24=>?_
 simp! [box]
 rw [zia w (by lia) (by lia),zbW w hp0]
 have hkd:kd=0\/kd=1\/kd=2\/kd=3\/kd=4:=by lia
 rcases hkd with rfl | rfl | rfl | rfl | rfl
 ·simp! [box]
  refine h _ _ _ ?_ ?_ (fun c hc=>hw3 c (List.mem_of_mem_take hc)) ha4 hs4 hs24
  ·intro z
   have:=congrArg List.length z
   rw [qK,qy] at this
   lia
  ·rw [qK]; lia
 ·simp! [box]
  refine h _ _ _ ?_ ?_ (fun c hc=>hw3 c (List.mem_of_mem_drop hc)) ha4 hs4 hs24
  ·intro z
   have:=congrArg List.length z
   rw [qJ,qy] at this
   lia
  ·rw [qJ]; lia
 ·simp! [box]
  refine h _ _ _ (by simp) (by simp; lia) (fun x hx=>?_) ha4 hs4 hs24
  rcases qD.mp hx with rfl | hx
  ·exact hcm
  ·exact hw3 x hx
 ·simp! [box]
  refine h _ _ _ (by simp) (by simp; lia) (fun x hx=>?_) ha4 hs4 hs24
  rcases qA.mp hx with hx | hx
  ·exact hw3 x hx
  ·rw [qw.mp hx]; exact hcm
 ·simp! [box]
  refine h _ _ _ (by simp [hw1]) (by simp; lia) (fun x hx=>?_) ha4 hs4 hs24
  rcases qA.mp hx with hx | hx <;> exact hw3 x hx
def goodB (col:List Nat) (many most:Nat) (B:List Wd):Prop:=B.length<=many/\B.Nodup/\∀ w∈B,w≠[]/\w.length<=most/\∀ c∈w,c∈col
def zP (B:List Wd):D:=.tup (B.map D.str)
theorem zgE {a s many most:Int} {col:List Nat} (ha:0<=a) (hs:1<=s) (hs2:s<=2147483629) (hc:0 < col.length) (hc2:col.length<=26) (hm:0<=many) (hm2:many<=500) (ho:1<=most) (ho2:most<=500)
  (h:∀ (B:List Wd) a' s',goodB col many.toNat most.toNat B->0<=a'->1<=s'->s'<=2147483629->P (.sh (zP B)) [box a' s',.sh (.str col),.sh (.int many),.sh (.int most)]):w_10 [box a s,.sh (.str col),.sh (.int many),.sh (.int most)] P PX:=by
 refine zaV rfl rfl ?_
 simp! [box]
 refine zal ha hs hs2 (by lia) (by lia) fun r a1 s1 hr hr2 ha1 hs1 hs21=>?_
 have hne:(decide (col=[]))=false:=by simp; intro z; rw [z] at hc; simp at hc
 simp! [box,hne,if_true,mul_one]
 refine ⟨by simp only [zaj]; lia,?_⟩
 refine lpn (fun k U=>∃ (a s:Int) (B:List Wd) (o5 o6:Option S),0<=a/\1<=s/\s<=2147483629/\goodB col k most.toNat B/\U=[some (box a s),some (.sh (.str col)),some (.sh (.int many)),some (.sh (.int most)),some (.lst ((B.map D.str).map .sh)),o5,o6]) _ (fun k x hk D2 U hI hnx hct hrt hbk=>?_) (fun U hI=>?_) ⟨a1,s1,[],none,none,ha1,hs1,hs21,⟨by simp,by simp,by simp⟩,rfl⟩
 ·obtain ⟨a,s,B,o5,o6,ha,hs,hs2,hB,rfl⟩:=hI
  have hkl:=(qi.mp hk).1
  rw [zbw] at hkl
  obtain ⟨hB1,hB2,hB3⟩:=hB
  simp! [box,u_10_b1]
  refine zal ha hs hs2 (by lia) (by lia) fun r3 a2 s2 hr3 hr32 ha2 hs2 hs22=>?_
  obtain ⟨c,hcm,_,ec⟩:=zew (l:=col) hr3 hr32
  simp! [box,ec]
  refine zez ha2 hs2 hs22 (by lia) (by lia) hc hc2 fun w a3 s3 hw1 hw2 ha3 hs3 hs23=>?_
  -- what is done with a word
  have put:∀ (w:Wd) (a s:Int),0<=a->1<=s->s<=2147483629->w≠[]->w.length<=most.toNat->(∀ c∈w,c∈col)->
    (wIf (wCmp cNotInA (zF 6) (zF 4)) (wExpr (wAppend 4 (zF 6))) wPass) D2 [some (box a s),some (.sh (.str col)),some (.sh (.int many)),some (.sh (.int most)),some (.lst ((B.map D.str).map .sh)),some (.sh x),some (.sh (.str w))]:=fun w a s ha hs hs2 h1 h2 h3=>by
   simp! [box,zar,zgv]
   cases q:decide (w∈B)
   ·simp! [length_map]
    rw [show ((B.map D.str).map S.sh)++[S.sh (.str w)]=((B++[w]).map D.str).map S.sh by simp]
    refine ⟨by simp only [zaj]; lia,hnx _ ⟨a,s,_,_,_,ha,hs,hs2,⟨by simp only [qt,qE]; lia,?_,fun x hx=>?_⟩,rfl⟩⟩
    ·refine qz.mpr ⟨hB2,by simp,fun x hx y hy e=>?_⟩
     rw [qw.mp hy] at e
     subst e
     have:=of_decide_eq_false q
     exact this hx
    ·rcases qA.mp hx with z | z
     ·exact hB3 x z
     ·rw [qw.mp z]; exact ⟨h1,h2,h3⟩
   ·simp! [e_C]
    exact hnx _ ⟨a,s,B,_,_,ha,hs,hs2,⟨by lia,hB2,hB3⟩,rfl⟩
  have hword:([c]++w)≠[]/\([c]++w).length<=most.toNat/\∀ x∈[c]++w,x∈col:=by
   refine ⟨by simp,by simp; lia,fun x hx=>?_⟩
   rcases qA.mp hx with z | z
   ·rw [qw.mp z]; exact hcm
   ·exact hw2 x z
  simp! [box,zar,zjU,length_cons,length_nil]
  cases q:decide (B=[])
  ·simp! [box]
   refine zal ha3 hs3 hs23 (by decide) (by decide) fun r4 a4 s4 hr4 hr42 ha4 hs4 hs24=>?_
   simp! [box]
   cases q2:decide (r4=0)
   ·simp! [e_C]
    have:=put _ a4 s4 ha4 hs4 hs24 hword.1 hword.2.1 hword.2.2
    simp! [box] at this
    exact this
   ·simp! [box]
    refine zjp ha4 hs4 hs24 hc hc2 (qS.mpr (of_decide_eq_false q)) (by lia) (fun w hw=>⟨(hB3 w hw).1,by have:=(hB3 w hw).2.1; lia,(hB3 w hw).2.2⟩) fun w2 a5 s5 hn hl hm5 ha5 hs5 hs25=>?_
    simp! [box]
    have hw2l:0 < w2.length:=qS.mpr hn
    have:=put (cutL w2 none (some most)) a5 s5 ha5 hs5 hs25 (fun z=>?_) ?_ fun c hc=>hm5 c (zbq hc)
    ·simp! [box] at this
     exact this
    ·have z2:=congrArg List.length z
     unfold cutL sIx at z2
     have:¬ most < 0:=by lia
     simp only [zi this,drop_zero,sub_zero,qK,qy] at z2
     lia
    ·unfold cutL sIx
     have:¬ most < 0:=by lia
     simp only [zi this,drop_zero,sub_zero,qK]
     lia
  ·simp! [e_C]
   have:=put _ a3 s3 ha3 hs3 hs23 hword.1 hword.2.1 hword.2.2
   simp! [box] at this
   exact this
 ·obtain ⟨a,s,B,o5,o6,ha,hs,hs2,hB,rfl⟩:=hI
  rw [zbw] at hB
  simp! [box,zar]
  exact h B a s ⟨by have:=hB.1; lia,hB.2⟩ ha hs hs2
abbrev Mv:=Wd×Int
def mvD (m:Mv):D:=.tup [.str m.1,.int m.2]
theorem zlX (l:List Mv):deps (l.map mvD)<=29:=zhC _ fun d hd=>by
 obtain ⟨m,_,rfl⟩:=qN.mp hd
 show 1<=29
 decide
theorem zpO {l:List Mv}:cNe (.lst (l.map mvD)) (.lst [])=some (!l.isEmpty):=by rw [zmw (zlX l),List.isEmpty_map]
theorem zgO {B:List Wd} {t:Wd} {p most:Int} (hB:B.length<=1000) (ht:t.length<=1000) (hp:0<=p) (hp2:p<=most)
  (h:∀ ms:List Mv,ms.length<=2000->(∀ m∈ms,m.1∈B/\0<=m.2/\m.2<=most/\(m.2=p + m.1.length\/m.2<=p))->P (.lst ((ms.map mvD).map .sh)) [.sh (zP B),.sh (.str t),.sh (.int p),.sh (.int most)]):w_11 [.sh (zP B),.sh (.str t),.sh (.int p),.sh (.int most)] P PX:=by
 refine zaV rfl rfl ?_
 simp! [zP]
 refine zaX (fun pre U=>∃ (ms:List Mv) (o:Option S),ms.length<=2 * pre.length/\(∀ m∈ms,m.1∈B/\0<=m.2/\m.2<=most/\(m.2=p + m.1.length\/m.2<=p))/\U=[some (.sh (zP B)),some (.sh (.str t)),some (.sh (.int p)),some (.sh (.int most)),some (.lst ((ms.map mvD).map .sh)),o]) B (fun pre w post D2 U e hI hnx hct hrt hbk=>?_) (fun U hI=>?_) ⟨[],none,by simp,by simp,rfl⟩
 ·obtain ⟨ms,o,hl,hm,rfl⟩:=hI
  have z5:pre.length + 1<=B.length:=by rw [<- e]; simp only [qt,qv]; lia
  have hwB:w∈B:=by rw [<- e]; simp
  have snd:∀ ms:List Mv,ms.length<=2 * pre.length + 1->(∀ m∈ms,m.1∈B/\0<=m.2/\m.2<=most/\(m.2=p + m.1.length\/m.2<=p))->
    (wIf (wtAnd (wCmp cGe (zF 2) (wB bLen (zG (zF 5) zH))) (wCmp cEq (wSl (zF 1) (some (zQ oSub (zF 2) (wB bLen (zG (zF 5) zH)))) (some (zF 2))) (zF 5))) (wExpr (wAppend 4 (wTup (zG (zF 5) (zG (zQ oSub (zF 2) (wB bLen (zG (zF 5) zH))) zH))))) wPass) D2 [some (.sh (zP B)),some (.sh (.str t)),some (.sh (.int p)),some (.sh (.int most)),some (.lst ((ms.map mvD).map .sh)),some (.sh (.str w))]:=fun ms hl hm=>by
   have stop:D2.nx [some (.sh (zP B)),some (.sh (.str t)),some (.sh (.int p)),some (.sh (.int most)),some (.lst ((ms.map mvD).map .sh)),some (.sh (.str w))]:=hnx _ ⟨ms,_,by simp only [qt,qE]; lia,hm,rfl⟩
   simp! [zP]
   cases q1:decide ((w.length:Int)<=p)
   ·simp! [e_C]
    exact stop
   have q1':=qX q1
   simp! [zP]
   cases q2:decide (cutL t (some (p - (w.length:Int))) (some p)=w)
   ·simp! [e_C]
    exact stop
   simp! [length_map]
   rw [show ((ms.map mvD).map S.sh)++[S.sh (.tup [.str w,.int (p - w.length)])]=((ms++[(w,p - w.length)]).map mvD).map S.sh by simp [mvD]]
   refine ⟨by simp only [zaj]; lia,hnx _ ⟨_,_,by simp only [qt,qE]; lia,fun m hmm=>?_,rfl⟩⟩
   rcases qA.mp hmm with z | z
   ·exact hm m z
   ·rw [qw.mp z]; exact ⟨hwB,by show 0<=p - w.length; lia,by show p - (w.length:Int)<=most; lia,.inr (by show p - (w.length:Int)<=p; lia)⟩
  simp! [u_11_b1,zP]
  have snd0:=snd ms (by lia) hm
  simp! [zP] at snd0
  cases q1:decide (cutL t (some p) (some (p + (w.length:Int)))=cutL w none (some ((t.length:Int) - p)))
  ·simp! [e_C]
   exact snd0
  simp! [e_C]
  cases q2:decide (p + (w.length:Int)<=most)
  ·simp! [e_C]
   exact snd0
  have q2':=qX q2
  simp! [length_map]
  rw [show ((ms.map mvD).map S.sh)++[S.sh (.tup [.str w,.int (p + w.length)])]=((ms++[(w,p + w.length)]).map mvD).map S.sh by simp [mvD]]
  refine ⟨by simp only [zaj]; lia,?_⟩
  have snd1:=snd (ms++[(w,p + w.length)]) (by simp only [qt,qE]; lia) fun m hmm=>by
   rcases qA.mp hmm with z | z
   ·exact hm m z
   ·rw [qw.mp z]; exact ⟨hwB,by show 0<=p + (w.length:Int); lia,q2',.inl rfl⟩
  simp! [zP] at snd1
  exact snd1
 ·obtain ⟨ms,o,hl,hm,rfl⟩:=hI
  simp! [zP]
  exact h ms (by lia) hm
theorem cut3 {t w:Wd} {p g:Int} (hp:0<=p) (hp2:p<=t.length) (hg:g=p + w.length):((cutL t none (some p)++w)++cutL t (some g) none).length=max g.toNat t.length:=by
 obtain ⟨k,rfl⟩:=Int.eq_ofNat_of_zero_le hp
 have hk:k<=t.length:=ofNat_le.mp hp2
 rw [<- Int.natCast_add] at hg
 subst hg
 rw [zia t hp hp2,zbW t (Int.natCast_nonneg _)]
 simp only [qt,qK,qJ,qZ]
 rw [min_eq_left hk,Nat.add_comm,Nat.sub_add_eq_max,Nat.max_comm]
theorem zjz {a s most:Int} {col:List Nat} {B:List Wd} (ha:0<=a) (hs:1<=s) (hs2:s<=2147483629) (hc:0 < col.length) (hc2:col.length<=26) (hm:0<=most) (hm2:most<=500) (hB:B.length<=1000) (hw:∀ w∈B,w.length<=1000/\∀ c∈w,c∈col)
  (h:∀ (t:Wd) a' s',t.length<=most.toNat->(∀ c∈t,c∈col)->0<=a'->1<=s'->s'<=2147483629->P (.sh (.str t)) [box a' s',.sh (zP B),.sh (.str col),.sh (.int most)]):w_12 [box a s,.sh (zP B),.sh (.str col),.sh (.int most)] P PX:=by
 refine zaV rfl rfl ?_
 simp! [box,length_cons,length_nil]
 refine zal ha hs hs2 (by decide) (by decide) fun r a1 s1 hr hr2 ha1 hs1 hs21=>?_
 simp! [box]
 refine ⟨by simp only [zaj]; lia,?_⟩
 refine zaX (toD:=fun k:Nat=>D.int (0 + (k:Int))) (fun pre U=>∃ (a s:Int) (t:Wd) (p:Int) (o6 o7 o8 o9 o10:Option S),0<=a/\1<=s/\s<=2147483629/\t.length<=most.toNat/\(∀ c∈t,c∈col)/\0<=p/\p<=t.length/\U=[some (box a s),some (.sh (zP B)),some (.sh (.str col)),some (.sh (.int most)),some (.sh (.str t)),some (.sh (.int p)),o6,o7,o8,o9,o10]) (List.range _) (fun pre k post D2 U e hI hnx hct hrt hbk=>?_) (fun U hI=>?_) ⟨a1,s1,[],0,none,none,none,none,none,ha1,hs1,hs21,by simp,by simp,by decide,by simp,rfl⟩
 ·obtain ⟨a,s,t,p,o6,o7,o8,o9,o10,ha,hs,hs2,ht,htc,hp,hp2,rfl⟩:=hI
  simp! [box,u_12_b2]
  refine zgO hB (by lia) hp (by lia) fun ms hml hm=>?_
  -- the choice among some moves
  have pick:∀ ms:List Mv,ms.length<=2000->(∀ m∈ms,m.1∈B/\0<=m.2/\m.2<=most/\(m.2=p + m.1.length\/m.2<=p))->
    (wIf (wCmp cNe (zF 7) (wLst zH)) (zR (zT (gTup [zI 8,zI 9]) (wIx (zF 7) (zS w_6 [true,true] (zG (zF 0) (zG (wB bLen (zG (zF 7) zH)) zH)))))
  (zR (wIf (wCmp cGt (zF 9) (zF 5)) (zT (zI 4) (zQ oAdd (zQ oAdd (wSl (zF 4) none (some (zF 5))) (zF 8)) (wSl (zF 4) (some (zF 9)) none))) wPass)
  (zT (zI 5) (zF 9)))) wPass) D2 [some (box a s),some (.sh (zP B)),some (.sh (.str col)),some (.sh (.int most)),some (.sh (.str t)),some (.sh (.int p)),some (.sh (.int (0 + (k:Int)))),some (.sh (.lst (ms.map mvD))),o8,o9,o10]:=fun ms hml hm=>by
   simp! [box,zpO]
   cases q:ms.isEmpty
   ·simp! [box,length_map]
    have hpos:0 < ms.length:=by
     cases ms with
     | nil=>cases q
     | cons _ _=>simp
    refine zal ha hs hs2 (by lia) (by lia) fun r a1 s1 hr hr2 ha1 hs1 hs21=>?_
    obtain ⟨m,hmm,_,em⟩:=zdT (f:=mvD) hr hr2
    obtain ⟨hmB,hg0,hg1,hg2⟩:=hm m hmm
    obtain ⟨hw1,hw2⟩:=hw m.1 hmB
    simp! [box,em,mvD,length_cons,length_nil]
    cases q2:decide (p < m.2)
    ·simp! [e_C]
     have:=of_decide_eq_false q2
     exact hnx _ ⟨a1,s1,t,m.2,_,_,_,_,_,ha1,hs1,hs21,ht,htc,hg0,by lia,rfl⟩
    ·have q2':=qX q2
     have hgp:m.2=p + m.1.length:=by lia
     have hl3:=cut3 hp hp2 hgp
     have l1:(cutL t none (some p)).length<=1000:=le_trans (zbt _ _ _) (by lia)
     have l2:(cutL t (some m.2) none).length<=1000:=le_trans (zbt _ _ _) (by lia)
     simp! [length_append]
     refine hnx _ ⟨a1,s1,(cutL t none (some p)++m.1)++cutL t (some m.2) none,m.2,_,_,_,_,_,ha1,hs1,hs21,by rw [hl3]; lia,fun c hc=>?_,hg0,by rw [hl3]; lia,rfl⟩
     rcases qA.mp hc with z | z
     ·rcases qA.mp z with z | z
      ·exact htc c (zbq z)
      ·exact hw2 c z
     ·exact htc c (zbq z)
   ·simp! [e_C]
    exact hnx _ ⟨a,s,t,p,_,_,_,_,_,ha,hs,hs2,ht,htc,hp,hp2,rfl⟩
  simp! [box,zar]
  cases q:decide ((4:Int) < 0 + (k:Int))
  ·simp! [e_C]
   have:=pick ms hml hm
   simp! [box] at this
   exact this
  ·simp! [e_C]
   refine bl1 (n:=11) (toD:=mvD) ms (fun m=>if decide (p < m.2)=true then some (.sh (mvD m)) else none) (fun m hmm l o K hl hK=>?_) fun o=>?_
   ·cases q3:decide (p < m.2)
    ·simp! [x_bX,ziE,u_12_c1,mvD,q3]
     rw [q3] at hK
     have:=hK (some (.sh (mvD m)))
     rw [zi (by decide),toList_none,qC] at this
     exact this
    ·simp! [x_bX,zb5,u_12_c1,mvD,q3]
     rw [q3] at hK
     exact ⟨by simp only [zaj]; lia,hK _⟩
   ·rw [zhP (fun m:Mv=>decide (p < m.2)) (fun m=>S.sh (mvD m)),show ((ms.filter fun m:Mv=>decide (p < m.2)).map fun m=>S.sh (mvD m))=((ms.filter fun m:Mv=>decide (p < m.2)).map mvD).map S.sh by rw [qH]; rfl]
    simp! [zar]
    have:=pick (ms.filter fun m:Mv=>decide (p < m.2)) (le_trans (List.length_filter_le _ _) hml) fun m hmm=>hm m (mem_filter.mp hmm).1
    simp! [box] at this
    exact this
 ·obtain ⟨a,s,t,p,o6,o7,o8,o9,o10,ha,hs,hs2,ht,htc,hp,hp2,rfl⟩:=hI
  simp! [box]
  cases q:decide (t=[])
  ·have hpos:0 < t.length:=qS.mpr (of_decide_eq_false q)
   simp! [box]
   refine zal ha hs hs2 (by decide) (by decide) fun r a1 s1 hr hr2 ha1 hs1 hs21=>?_
   simp! [box]
   cases q2:decide (r=0)
   ·simp! [e_C]
    exact h t a1 s1 ht htc ha1 hs1 hs21
   ·simp! [box]
    refine zal ha1 hs1 hs21 (by lia) (by lia) fun x a2 s2 hx0 hx1 ha2 hs2 hs22=>?_
    simp! [box]
    refine zal ha2 hs2 hs22 (by lia) (by lia) fun r3 a3 s3 hr3 hr32 ha3 hs3 hs23=>?_
    obtain ⟨c,hcm,_,ec⟩:=zew (l:=col) hr3 hr32
    have l1:(cutL t none (some x)).length<=1000:=le_trans (zbt _ _ _) (by lia)
    have l2:(cutL t (some (x + 1)) none).length<=1000:=le_trans (zbt _ _ _) (by lia)
    have l3:=cut3 (t:=t) (w:=[c]) (p:=x) (g:=x + 1) hx0 (by lia) (by simp)
    simp! [box,ec,length_append,length_cons,length_nil]
    refine h _ a3 s3 (by rw [l3]; lia) (fun y hy=>?_) ha3 hs3 hs23
    rcases qA.mp hy with z | z
    ·rcases qA.mp z with z | z
     ·exact htc y (zbq z)
     ·rw [qw.mp z]; exact hcm
    ·exact htc y (zbq z)
  ·simp! [e_C]
   exact h t a s ht htc ha hs hs2
structure Fit (B:List Wd) (w:Wd):Prop where
 nd:B.Nodup
 ne:∀ x∈B,x≠[]
 le:∀ x∈B,x.length<=1000
 six:B.length<=6
 tw:w.length<=12
theorem zdb {B:List Wd} {w:Wd} (hf:Fit B w)
  (h:P (.lst (((strP B w).map trD).map .sh)) [.sh (zP B),.sh (.str w)]):w_0 [.sh (zP B),.sh (.str w)] P PX:=by
 have h12:=hf.tw
 have h6:=hf.six
 have z5:((List.range w.length).flatMap (rawI B w)).length < 64:=by rw [<- (zeS hf.nd hf.ne).length_eq]; exact zf5 hf.nd hf.ne h6 h12
 have he:(List.range w.length).flatMap (fun i=>(rawI B w i).map fun t=>S.sh (trD t))=(((List.range w.length).flatMap (rawI B w)).map trD).map S.sh:=by simp [List.map_flatMap,Function.comp_def]
 refine zaV rfl rfl ?_
 simp! [e_C]
 refine ⟨by simp only [zaj]; lia,?_⟩
 rw [from0 rfl]
 refine bf (n:=2) (k:=3) (List.range w.length) (fun i=>(rawI B w i).map fun t=>S.sh (trD t)) (fun i hi l vs K hv hl hK=>?_) (fun vs hv=>?_)
 ·obtain ⟨a,b,c,rfl⟩:=len3v hv
  rw [he,qq,qq,qq] at hl
  simp! [x_bX,zb5,u_0_c2,zP,ziJ]
  refine bi2 (fun l o o'=>[some (.sh (zP B)),some (.sh (.str w)),some (.lst l),some (.sh (.int (i:Int))),o,o']) (List.range B.length) (fun k=>if decide (seg w i (i + ((B[k]?).getD []).length)=(B[k]?).getD [])=true then some (S.sh (trD (i,i + ((B[k]?).getD []).length,k))) else none) (fun k hk l2 o o' K2 hl2 hK2=>?_) fun o o'=>?_
  ·have hm:(List.range B.length).filterMap (fun k=>if decide (seg w i (i + ((B[k]?).getD []).length)=(B[k]?).getD [])=true then some (S.sh (trD (i,i + ((B[k]?).getD []).length,k))) else none)=(rawI B w i).map fun t=>S.sh (trD t):=by
    unfold rawI
    rw [List.map_filterMap]
    refine zdV fun x _=>?_
    split <;> rfl
   rw [hm,qq] at hl2
   have ec:cutL w (some (i:Int)) (some ((i:Int) + ((((B[k]?).getD []).length:Nat):Int)))=seg w i (i + ((B[k]?).getD []).length):=by rw [<- Int.natCast_add]; exact zhr w _ _
   cases q:decide (seg w i (i + ((B[k]?).getD []).length)=(B[k]?).getD [])
   ·simp! [x_bX,zP,length_cons,length_nil,ec,q,ziE]
    have:=hK2 (some (.sh (.int (k:Int)))) (some (.sh (.str ((B[k]?).getD []))))
    rw [q,zi (by decide),toList_none,qC] at this
    exact this
   ·simp! [x_bX,zP,length_cons,length_nil,ec,q,zb5,u_0_c1]
    have:=hK2 (some (.sh (.int (k:Int)))) (some (.sh (.str ((B[k]?).getD []))))
    rw [q,zc rfl,Option.toList_some] at this hl2
    simp only [qE] at hl2
    refine ⟨by simp only [zaj]; lia,?_⟩
    rw [zi4,Int.natCast_add] at this
    exact this
  ·have hm:(List.range B.length).filterMap (fun k=>if decide (seg w i (i + ((B[k]?).getD []).length)=(B[k]?).getD [])=true then some (S.sh (trD (i,i + ((B[k]?).getD []).length,k))) else none)=(rawI B w i).map fun t=>S.sh (trD t):=by
    unfold rawI
    rw [List.map_filterMap]
    refine zdV fun x _=>?_
    split <;> rfl
   rw [hm]
   exact hK _ rfl
 ·obtain ⟨a,b,c,rfl⟩:=len3v hv
  rw [he]
  simp! [zar,zjb (zeS hf.nd hf.ne) z5]
  exact h
theorem zgK {B:List Wd} {b:D} {w:Wd} (hb:∀ z,cInA (.str z) b=some (decide (z∈B))) (h12:w.length<=60)
  (h:P (.lst ((tiesL B w).map .sh)) [.sh b,.sh (.str w)]):w_13 [.sh b,.sh (.str w)] P PX:=by
 refine zaV rfl rfl ?_
 simp! [e_C]
 refine ⟨by simp only [zaj]; lia,?_⟩
 rw [from0 (n:=w.length + 1) (by lia)]
 refine bm1 (n:=5) (List.range (w.length + 1)) (fun _=>S.lst []) (fun p hp l o K hl hK=>?_) fun o=>?_
 ·rw [qG] at hl
  simp! [x_bX,zb5,u_13_c1]
  exact ⟨by simp only [zaj]; lia,hK _⟩
 rw [show ((List.range (w.length + 1)).map fun _=>S.lst [])=fnd w.length fun _=>[] from rfl]
 simp! [e_C]
 refine ⟨by simp only [zaj]; lia,?_⟩
 rw [from0 (n:=w.length) rfl]
 refine zaX (fun pre U=>∃ (f:Nat->List Nat) (o3 o4:Option S),GoneT B w pre.length (pre.length + 1) f/\U=[some (.sh b),some (.sh (.str w)),some (.lst (fnd w.length f)),o3,o4]) (List.range w.length) (fun pre i post D2 U e hI hnx hct hrt hbk=>?_) (fun U hI=>?_) ⟨fun _=>[],none,none,zgU,rfl⟩
 ·obtain ⟨f,o3,o4,hg,rfl⟩:=hI
  have hi:pre.length=i/\i < w.length:=za4 e
  obtain ⟨rfl,hi⟩:=hi
  simp! [u_13_b3]
  refine ⟨by simp only [zaj]; lia,?_⟩
  rw [from1 (a:=pre.length + 1) (n:=w.length + 1) (by lia) (by lia)]
  refine zaX (fun pre2 U=>∃ (f:Nat->List Nat) (o4:Option S),GoneT B w pre.length (pre.length + 1 + pre2.length) f/\U=[some (.sh b),some (.sh (.str w)),some (.lst (fnd w.length f)),some (.sh (zU pre.length)),o4]) (List.range' (pre.length + 1) (w.length + 1 - (pre.length + 1))) (fun pre2 j post2 D3 U e2 hI hnx2 hct2 hrt2 hbk2=>?_) (fun U hI=>?_) ⟨f,o4,by simpa using hg,rfl⟩
  ·obtain ⟨f,o4,hg,rfl⟩:=hI
   have hj:j=pre.length + 1 + pre2.length/\j<=w.length:=by
    have:=zg3 e2; lia
   obtain ⟨hj1,hj2⟩:=hj
   rw [<- hj1] at hg
   have ht:decide (seg w pre.length j∈B)=tieB B w pre.length j:=by
    unfold tieB
    rw [qU (show pre.length < j by lia),qU hj2]; rfl
   simp! [u_13_b2,zU,zhr,hb]
   rw [ht]
   cases q:tieB B w pre.length j
   ·simp! [e_C]
    refine hnx2 _ ⟨f,_,?_,rfl⟩
    rw [qt,qE,show pre.length + 1 + (pre2.length + 1)=j + 1 by lia]
    exact zmo (by lia) hg q
   ·simp! [e_C]
    rw [zgs (by lia) (show (fnd w.length f)[((pre.length:Nat):Int).toNat]?=_ by rw [qZ]; exact zh2 (by lia))]
    simp! [length_map]
    have hlen1:=zfT hg pre.length
    refine ⟨by simp only [zaj]; lia,?_⟩
    rw [qZ,show (((f pre.length).map fun q=>S.sh (zU q))++[S.sh (D.int (j:Int))])=(((f pre.length).map fun q=>S.sh (zU q))++[S.sh (zU j)]) from rfl,zi0 (by lia)]
    rw [zgs (by lia) (show (fnd w.length (addTo f pre.length j))[((j:Nat):Int).toNat]?=_ by rw [qZ]; exact zh2 (by lia))]
    simp! [length_map]
    have hlen2:=zfT hg j
    have e3:addTo f pre.length j j=f j:=by unfold addTo; rw [zi (by lia)]
    refine ⟨by rw [e3]; simp only [zaj]; lia,?_⟩
    rw [qZ,show (((addTo f pre.length j j).map fun q=>S.sh (zU q))++[S.sh (D.int (pre.length:Int))])=(((addTo f pre.length j j).map fun q=>S.sh (zU q))++[S.sh (zU pre.length)]) from rfl,zi0 (by lia)]
    refine hnx2 _ ⟨_,_,?_,rfl⟩
    rw [qt,qE,show pre.length + 1 + (pre2.length + 1)=j + 1 by lia]
    exact zkG (by lia) hg q
  ·obtain ⟨f,o4,hg,rfl⟩:=hI
   rw [List.length_range',show pre.length + 1 + (w.length + 1 - (pre.length + 1))=w.length + 1 by lia] at hg
   refine hnx _ ⟨f,_,_,?_,rfl⟩
   rw [qt,qE]
   exact zjR (zj _) hg
 ·obtain ⟨f,o3,o4,hg,rfl⟩:=hI
  rw [qG] at hg
  simp! [e_C]
  rw [show (fnd w.length f).map S.toD=(List.range (w.length + 1)).map fun p=>D.lst ((f p).map zU) by
   unfold fnd; rw [qH]; refine map_congr_left fun p _=>?_; simp [Function.comp_def]]
  refine bm1 (n:=5) (List.range (w.length + 1)) (fun p=>.sh (.lst ((nb B w p).map zU))) (fun p hp l o K hl hK=>?_) fun o=>?_
  ·rw [qG] at hl
   simp! [x_bX,zb5,u_13_c4,zl4 (ziI (le_refl _) hg) h12,zar]
   exact ⟨by simp only [zaj]; lia,hK _⟩
  ·rw [show ((List.range (w.length + 1)).map fun p=>S.sh (.lst ((nb B w p).map zU)))=(tiesL B w).map S.sh by unfold tiesL; rw [qH]; rfl]
   simp! [e_C]
   exact h
def prD (t:Tr):D:=.tup [.int (t.1:Int),.int (t.2.1:Int)]
theorem zeU {n:Nat} {f:Nat->Nat}:atI (vecN n f) (-1)=some (.int ((f n:Nat):Int)):=by
 unfold vecN
 rw [range_succ,map_append]
 exact zlF
theorem zfd {n i j:Nat} {L:Nat->Nat} (hn:n<=60) (hi:i<=n) (hj:j<=n)
  (h:P (.lst ((vecN n (glue L i j)).map .sh)) [.sh (.lst (vecN n L)),.sh (.int (i:Int)),.sh (.int (j:Int))]):w_2 [.sh (.lst (vecN n L)),.sh (.int (i:Int)),.sh (.int (j:Int))] P PX:=by
 refine zaV rfl rfl ?_
 simp! [zhb hi,zhb hj,minN,maxN,length_cons,length_nil]
 rw [show vecN n L=(List.range (n + 1)).map fun p=>zU (L p) from rfl]
 refine bm1 (n:=5) (List.range (n + 1)) (fun p=>.sh (zU (glue L i j p))) (fun p hp l o K hl hK=>?_) fun o=>?_
 ·rw [qG] at hl
  have e:zU (glue L i j p)=.int (if decide (((L p:Nat):Int)=((max (L i) (L j):Nat):Int))=true then ((min (L i) (L j):Nat):Int) else ((L p:Nat):Int)):=by
   unfold glue zU
   by_cases q:L p=max (L i) (L j)
   ·rw [zc q,zc (qU (by lia))]
   ·rw [zi q,zi (by rw [qW]; lia)]
  cases q:decide (((L p:Nat):Int)=((max (L i) (L j):Nat):Int)) <;> rw [e,q] at hK <;> simp! [x_bX,zb5,u_2_c1,zU,q]
  ·exact ⟨by simp only [zaj]; lia,hK _⟩
  ·exact ⟨by simp only [zaj]; lia,hK _⟩
 ·rw [show ((List.range (n + 1)).map fun p=>S.sh (zU (glue L i j p)))=(vecN n (glue L i j)).map S.sh by unfold vecN; rw [qH]; rfl]
  simp! [e_C]
  exact h
theorem zcP {n:Nat} {L:Nat->Nat} {ts:List Tr} (hn:n<=60) (ht:∀ t∈ts,t.1<=n/\t.2.1<=n)
  (h:P (.sh (.tup (vecN n (landOf ts L)))) [.sh (.tup (vecN n L)),.sh (.lst (ts.map prD))]):w_1 [.sh (.tup (vecN n L)),.sh (.lst (ts.map prD))] P PX:=by
 refine zaV rfl rfl ?_
 simp! [zar]
 refine zaX (fun pre U=>∃ o3 o4,U=[some (.sh (.tup (vecN n L))),some (.sh (.lst (ts.map prD))),some (.sh (.lst (vecN n (landOf pre L)))),o3,o4]) ts (fun pre t post D2 U e hI hnx hct hrt hbk=>?_) (fun U hI=>?_) ⟨none,none,rfl⟩
 ·obtain ⟨o3,o4,rfl⟩:=hI
  have htt:=ht t (by rw [<- e]; simp)
  simp! [prD,length_cons,length_nil,u_1_b1]
  refine zfd hn htt.1 htt.2 ?_
  simp! [zar]
  refine hnx _ ⟨some (.sh (.int (t.1:Int))),some (.sh (.int (t.2.1:Int))),?_⟩
  rw [za7]
  rfl
 ·obtain ⟨o3,o4,rfl⟩:=hI
  simp! [e_C]
  exact h
abbrev Sb:=List Nat
def subB (B:List Wd) (s:Sb):List Wd:=s.map fun k=>(B[k]?).getD []
def endsK (B:List Wd) (w:Wd) (k:Nat):List Tr:=(strP B w).filter fun t=>decide (t.2.2=k)
def trsS (B:List Wd) (w:Wd) (s:Sb):List Tr:=s.flatMap (endsK B w)
def lnd (B:List Wd) (w:Wd) (s:Sb):Nat->Nat:=landOf (trsS B w s) fun p=>p
theorem zd7 {B:List Wd} {w:Wd} {s:Sb} {k:Nat}:lnd B w (s++[k])=landOf (endsK B w k) (lnd B w s):=by
 unfold lnd trsS
 rw [List.flatMap_append,za7]
 simp
theorem zhl {B:List Wd} {w:Wd} {k:Nat}:∀ t∈endsK B w k,t.1<=w.length/\t.2.1<=w.length:=fun t ht=>by
 have:=zay.mp (zbu.mp (mem_filter.mp ht).1).1
 lia
theorem zlc {B:List Wd} {w:Wd} {s:Sb} (hf:Fit B w) (hs:∀ k∈s,k < B.length) (p q:Nat):StrR (trsS B w s) p q↔TieR (subB B s) w p q:=by
 have key:∀ i j,tieB (subB B s) w i j=true↔∃ t∈trsS B w s,t.1=i/\t.2.1=j:=fun i j=>by
  rw [zay]
  constructor
  ·rintro ⟨h1,h2,h3⟩
   obtain ⟨k,hk,e⟩:=qN.mp h3
   have hkl:=hs k hk
   rw [qj hkl] at e
   have e:B[k]=seg w i j:=e
   refine ⟨(i,j,k),mem_flatMap.mpr ⟨k,hk,mem_filter.mpr ⟨zbu.mpr ⟨zay.mpr ⟨h1,h2,e ▸ getElem_mem hkl⟩,?_⟩,by simp⟩⟩,rfl,rfl⟩
   show k=B.idxOf (seg w i j)
   rw [<- e,hf.nd.idxOf_getElem]
  ·rintro ⟨t,ht,rfl,rfl⟩
   obtain ⟨k,hk,ht⟩:=mem_flatMap.mp ht
   obtain ⟨ht,e⟩:=mem_filter.mp ht
   have e:t.2.2=k:=by simpa using e
   obtain ⟨h1,h2⟩:=zbu.mp ht
   obtain ⟨h3,h4,h5⟩:=zay.mp h1
   refine ⟨h3,h4,qN.mpr ⟨k,hk,?_⟩⟩
   rw [<- e,h2,qj (List.idxOf_lt_length_of_mem h5)]
   exact List.getElem_idxOf _
 unfold StrR TieR tie
 rw [or_eq_true,key,key]
 constructor
 ·rintro ⟨t,ht,h | h⟩
  ·exact .inl ⟨t,ht,h⟩
  ·exact .inr ⟨t,ht,h⟩
 ·rintro (⟨t,ht,h⟩ | ⟨t,ht,h⟩)
  ·exact ⟨t,ht,.inl h⟩
  ·exact ⟨t,ht,.inr h⟩
theorem zny {B:List Wd} {w:Wd} {s:Sb} (hf:Fit B w) (hs:∀ k∈s,k < B.length):IsLand (TieR (subB B s) w) (lnd B w s):=by
 have h:=zcQ (trsS B w s) [] (fun p=>p) (zdq.congr fun p q=>⟨fun h=>h.elim,fun ⟨t,ht,_⟩=>nomatch ht⟩)
 exact IsLand.congr (zlc hf hs) h
theorem zk9 {B:List Wd} {w:Wd} {s:Sb} (hf:Fit B w) (hs:∀ k∈s,k < B.length):lnd B w s w.length=0↔fixedP (subB B s) w:=(zny hf hs).zero zcO _
theorem zc3 {n:Nat}:∀ (ts:List Tr) (L M:Nat->Nat),(∀ t∈ts,t.1<=n/\t.2.1<=n)->(∀ p,p<=n->L p=M p)->∀ p,p<=n->landOf ts L p=landOf ts M p
 | [],_,_,_,h=>h
 | t::ts,L,M,ht,h=>zc3 ts _ _ (fun u hu=>ht u (qo _ hu)) fun p hp=>by
   have:=ht t qp
   unfold glue
   rw [h p hp,h _ this.1,h _ this.2]
def kyD (B:List Wd) (w:Wd) (s:Sb):D:=.tup (vecN w.length (lnd B w s))
theorem zg9 {B:List Wd} {w:Wd} {s t:Sb}:kyD B w s=kyD B w t↔∀ p,p<=w.length->lnd B w s p=lnd B w t p:=by
 unfold kyD
 rw [zbe,zbe,<- zd9]
 exact ⟨fun h=>zfb (by injection h),fun h=>by rw [h]⟩
theorem zli {B:List Wd} {w:Wd} {s t:Sb} {k:Nat} (h:kyD B w s=kyD B w t):kyD B w (s++[k])=kyD B w (t++[k]):=by
 rw [zg9] at h ⊢
 rw [zd7,zd7]
 exact zc3 _ _ _ zhl h
def paid (pr:List Int) (s:Sb):Int:=(s.map fun k=>(pr[k]?).getD 0).sum
def nI (s:Sb):List Int:=s.map fun (k:Nat)=>(k:Int)
def cst (pr:List Int) (s:Sb):List Int:=paid pr s::(s.length:Int)::nI s
def cstD (pr:List Int) (s:Sb):D:=.tup [.int (paid pr s),.int (s.length:Int),.tup (s.map zU)]
theorem zn0 {s t:Sb} (h:nI s=nI t):s=t:=(List.map_inj_right fun (a b:Nat) (e:(a:Int)=b)=>by lia).mp h
theorem nI_D (s:Sb):s.map zU=(nI s).map D.int:=by unfold nI; rw [qH]; rfl
theorem zmn {pr:List Int} {s t:Sb} (h:cst pr s=cst pr t):s=t:=zn0 (List.cons.inj (List.cons.inj h).2).2
theorem ziT {pr:List Int} {s t:Sb}:cmpD (cstD pr s) (cstD pr t)=.lt↔cst pr s < cst pr t:=by
 unfold cstD cst
 rw [cmpD,cmpDs,cmpDs,cmpDs,cmpD,cmpD,cmpD,nI_D,nI_D,zbF,cmpDs,qF,qF]
 by_cases h1:paid pr s < paid pr t
 ·simp [h1]
 ·by_cases h2:paid pr t < paid pr s
  ·simp [h1,h2]
   lia
  ·have e:paid pr s=paid pr t:=by lia
   rw [zi h1,zi h2]
   by_cases h3:(s.length:Int) < t.length
   ·simp [h3,e]
   ·by_cases h4:(t.length:Int) < s.length
    ·simp [h3,h4,e]
     lia
    ·have e2:(s.length:Int)=t.length:=by lia
     rw [zi h3,zi h4]
     simp only [e,e2,Int.lt_irrefl,false_or,true_and]
     by_cases h5:nI s < nI t
     ·simp [h5]
     ·by_cases h6:nI t < nI s
      ·simp [h5,h6]
      ·simp [h5,h6]
theorem ziC {x:Int}:∀ {a b:List Int},a.length=b.length->a++[x] < b++[x]->a < b
 | [],[],_,h=>by simp at h
 | y::a,z::b,hl,h=>by
   rw [qR,qR,qF] at h
   rw [qF]
   exact h.imp id fun h=>⟨h.1,ziC (by simpa using hl) h.2⟩
theorem zkq {pr:List Int} {s t:Sb} {k:Nat} (h:cst pr s<=cst pr t):cst pr (s++[k])<=cst pr (t++[k]):=by
 rw [<- List.not_lt] at h ⊢
 intro z
 refine h ?_
 have e:∀ s:Sb,cst pr (s++[k])=(paid pr s + (pr[k]?).getD 0)::((s.length:Int) + 1)::(nI s++[(k:Int)]):=fun s=>by
  unfold cst paid nI
  simp
 rw [e,e,qF,qF] at z
 unfold cst
 rw [qF,qF]
 rcases z with z | ⟨z,y⟩
 ·exact .inl (by lia)
 ·refine .inr ⟨by lia,?_⟩
  rcases y with y | ⟨y,x⟩
  ·exact .inl (by lia)
  ·exact .inr ⟨by lia,ziC (by unfold nI; rw [qq,qq]; lia) x⟩
structure DP (B:List Wd) (w:Wd) (pr:List Int) (m:Nat) (all:Sb->Prop) (es:List Sb):Prop where
 sub:∀ s∈es,s.Sublist (List.range m)
 nd:(es.map (kyD B w)).Nodup
 best:∀ t,all t->∃ s∈es,kyD B w s=kyD B w t/\cst pr s<=cst pr t
theorem DP.add (h:DP B w pr m all es) (ht:t.Sublist (List.range m)) (hn:kyD B w t∉es.map (kyD B w)):DP B w pr m (fun u=>all u\/u=t) (es++[t]) where
 sub:=fun s hs=>(qA.mp hs).elim (h.sub s) fun z=>by rw [qw.mp z]; exact ht
 nd:=by
  rw [map_append,qz]
  refine ⟨h.nd,by simp,fun a ha b hb e=>hn ?_⟩
  have:b=kyD B w t:=by simpa using hb
  rw [<- this,<- e]; exact ha
 best:=fun u hu=>by
  rcases hu with hu | rfl
  ·obtain ⟨s,hs,e⟩:=h.best u hu
   exact ⟨s,qm _ hs,e⟩
  ·exact ⟨u,by simp,rfl,List.le_refl _⟩
theorem DP.stay (h:DP B w pr m all es) (hu:u∈es) (hk:kyD B w u=kyD B w t) (hc:¬ cst pr t < cst pr u):DP B w pr m (fun u=>all u\/u=t) es where
 sub:=h.sub
 nd:=h.nd
 best:=fun v hv=>by
  rcases hv with hv | rfl
  ·exact h.best v hv
  ·exact ⟨u,hu,hk,List.not_lt.mp hc⟩
theorem DP.put {i:Nat} (h:DP B w pr m all es) (ht:t.Sublist (List.range m)) (hu:es[i]?=some u) (hk:kyD B w u=kyD B w t) (hc:cst pr t < cst pr u):DP B w pr m (fun u=>all u\/u=t) (es.set i t)/\(es.set i t).map (kyD B w)=es.map (kyD B w):=by
 obtain ⟨hi,e⟩:=qi.mp hu
 have hm:(es.set i t).map (kyD B w)=es.map (kyD B w):=by
  rw [map_set,<- hk,<- e,<- List.getElem_map (kyD B w) (h:=by rw [qq]; exact hi)]
  exact List.set_getElem_self _
 refine ⟨⟨fun s hs=>?_,by rw [hm]; exact h.nd,fun v hv=>?_⟩,hm⟩
 ·rcases List.mem_or_eq_of_mem_set hs with hs | rfl
  ·exact h.sub s hs
  ·exact ht
 ·rcases hv with hv | rfl
  ·obtain ⟨s,hs,e1,e2⟩:=h.best v hv
   obtain ⟨j,hj⟩:=mem_iff_getElem?.mp hs
   by_cases hij:i=j
   ·subst hij
    rw [hu] at hj
    cases hj
    exact ⟨t,mem_set hi t,by rw [<- hk,e1],List.le_trans (List.le_of_lt hc) e2⟩
   ·exact ⟨s,mem_iff_getElem?.mpr ⟨j,by rw [getElem?_set_ne hij]; exact hj⟩,e1,e2⟩
  ·exact ⟨v,mem_set hi v,rfl,List.le_refl _⟩
theorem zfL {t:Sb} (h:t.Sublist (List.range (m + 1))):t.Sublist (List.range m)\/∃ s,s.Sublist (List.range m)/\t=s++[m]:=by
 rw [range_succ,List.sublist_append_iff] at h
 obtain ⟨a,b,rfl,h1,h2⟩:=h
 cases b with
 | nil=>exact .inl (by simpa using h1)
 | cons x b=>
   have:=h2.length_le
   have hb:b=[]:=by simpa using this
   subst hb
   have:x=m:=by simpa using h2.subset (qp)
   subst this
   exact .inr ⟨a,h1,rfl⟩
theorem zkp {s:Sb} (h:s.Sublist (List.range m)):(s++[m]).Sublist (List.range (m + 1)):=by
 rw [range_succ]; exact h.append (List.Sublist.refl _)
theorem DP.begin:DP B w pr 0 (fun t=>t.Sublist (List.range 0)) [[]] where
 sub:=fun s hs=>by rw [qw.mp hs]; exact List.nil_sublist _
 nd:=by simp
 best:=fun t ht=>⟨[],by simp,by rw [List.eq_nil_of_sublist_nil ht]; exact ⟨rfl,List.le_refl _⟩⟩
theorem DP.turn (h:DP B w pr m (fun t=>t.Sublist (List.range m)) es):DP B w pr (m + 1) (fun t=>t∈es\/∃ s∈([]:List Sb),t=s++[m]) es where
 sub:=fun s hs=>(h.sub s hs).trans (by rw [range_succ]; exact List.sublist_append_left _ _)
 nd:=h.nd
 best:=fun t ht=>by
  rcases ht with ht | ⟨_,z,_⟩
  ·exact ⟨t,ht,rfl,List.le_refl _⟩
  ·cases z
theorem DP.weak {all2:Sb->Prop} (h:DP B w pr m all es) (ha:∀ t,all2 t->all t):DP B w pr m all2 es:=⟨h.sub,h.nd,fun t ht=>h.best t (ha t ht)⟩
theorem DP.next {es':List Sb} (h:DP B w pr m (fun t=>t.Sublist (List.range m)) es) (h':DP B w pr (m + 1) (fun t=>t∈es\/∃ s∈es,t=s++[m]) es'):DP B w pr (m + 1) (fun t=>t.Sublist (List.range (m + 1))) es' where
 sub:=h'.sub
 nd:=h'.nd
 best:=fun t ht=>by
  rcases zfL ht with ht | ⟨s,hs,rfl⟩
  ·obtain ⟨s,hs,e1,e2⟩:=h.best t ht
   obtain ⟨u,hu,e3,e4⟩:=h'.best s (.inl hs)
   exact ⟨u,hu,e3.trans e1,List.le_trans e4 e2⟩
  ·obtain ⟨v,hv,e1,e2⟩:=h.best s hs
   obtain ⟨u,hu,e3,e4⟩:=h'.best (v++[m]) (.inr ⟨v,hv,rfl⟩)
   exact ⟨u,hu,e3.trans (zli e1),List.le_trans e4 (zkq e2)⟩
def bstS (B:List Wd) (w:Wd) (pr:List Int) (es:List Sb):S:=.dct true (es.map (kyD B w)) (es.map fun s=>.sh (cstD pr s))
theorem zoz {B:List Wd} {w:Wd} {s:Sb}:isIT (kyD B w s)=true:=by
 unfold kyD isIT
 rw [zbe]
 show (intsD _).isSome=true
 rw [za1]; rfl
theorem zev {B:List Wd} {w:Wd} {s:Sb}:isKey true (kyD B w s)=true:=by
 unfold kyD
 rw [zbe]
 show ((vecI w.length (lnd B w s)).map D.int).all isKey1=true
 simp [isKey1]
theorem zfp {B:List Wd} {w:Wd} {pr:List Int}:∀ es:List Sb,zipD (es.map (kyD B w)) ((es.map fun s=>S.sh (cstD pr s)).map S.toD)=es.map fun s=>D.tup [kyD B w s,cstD pr s]
 | []=>rfl
 | s::es=>by
   show D.tup [kyD B w s,cstD pr s]::zipD _ _=_
   rw [zfp es]; rfl
theorem zi7 (pr:List Int):enumF 0 (pr.map D.int)=(List.range pr.length).map fun (k:Nat)=>D.tup [.int (k:Int),.int ((pr[k]?).getD 0)]:=by
 rw [zcu]
 refine map_congr_left fun k hk=>?_
 rw [qj (qM.mp hk)]
 simp
open Classical in
theorem zlQ {B:List Wd} {w:Wd} {t:Sb}:∀ {es:List Sb},kyD B w t∈es.map (kyD B w)->∃ i u,fIx (es.map (kyD B w)) (kyD B w t)=some i/\es[i]?=some u/\kyD B w u=kyD B w t:=by
 intro es h
 unfold fIx
 cases q:(es.map (kyD B w)).findIdx? (fun x=>decide (x=kyD B w t)) with
 | none=>
   rw [List.findIdx?_eq_none_iff] at q
   simpa using q _ h
 | some i=>
   obtain ⟨hi,h1,_⟩:=List.findIdx?_eq_some_iff_getElem.mp q
   rw [qq] at hi
   exact ⟨i,es[i],rfl,qj hi,by simpa using h1⟩
theorem znS {B:List Wd} {w:Wd} {pr:List Int} {es:List Sb}:vC (some (S.dct true (es.map (kyD B w)) (es.map fun s=>S.sh (cstD pr s))))=some (.dct true (es.map (kyD B w)) (es.map (cstD pr))):=by
 rw [show es.map (fun s=>S.sh (cstD pr s))=(es.map (cstD pr)).map S.sh by rw [qH]; rfl,zoG]
theorem zkR {B:List Wd} {w:Wd} {pr:List Int} {t u:Sb} (hk:kyD B w u=kyD B w t):∀ {es:List Sb},(es.map (kyD B w)).Nodup->u∈es->lk (es.map (kyD B w)) (es.map (cstD pr)) (kyD B w t)=some (cstD pr u)
 | e::es,hn,hu=>by
   rw [qB,qO] at hn
   rw [qB,qB,lk]
   rcases qD.mp hu with rfl | hu
   ·rw [zc hk]
   ·rw [zi fun z=>hn.1 (by rw [z,<- hk]; exact List.mem_map_of_mem hu)]
    exact zkR hk hn.2 hu
theorem zel:∀ s t:Sb,likes (s.map zU) (t.map zU)=true
 | [],_=>rfl
 | _::_,[]=>rfl
 | a::s,b::t=>by
   show (true && likes (s.map zU) (t.map zU))=true
   rw [zel s t]; rfl
theorem zf3 {pr:List Int} {s t:Sb}:like (cstD pr s) (cstD pr t)=true/\dep (cstD pr s)<=9:=by
 unfold cstD
 refine ⟨?_,?_⟩
 ·show (true && (true && (likes (s.map zU) (t.map zU) && true)))=true
  rw [zel]; rfl
 ·show max 0 (max 0 (max (deps (s.map zU) + 1) 0)) + 1<=9
  rw [nI_D,zcy]
  decide
theorem zkO {pr:List Int} {s t:Sb}:cLtT (cstD pr s) (cstD pr t)=some (decide (cst pr s < cst pr t)):=by
 unfold cLtT
 rw [zc zf3]
 exact congrArg some (decide_eq_decide.mpr ziT)
theorem zcH {f:Sb->D} {g:Sb->List Int} (hc:∀ s t,cmpD (f s) (f t)=.lt↔g s < g t):∀ (b:Sb) (r:List Sb),∃ m∈b::r,least (f b) (r.map f)=f m/\∀ u∈b::r,g m<=g u
 | b,[]=>⟨b,by simp,rfl,fun u hu=>by rw [qw.mp hu]; exact List.le_refl _⟩
 | b,d::r=>by
   show ∃ m∈b::d::r,least (if cmpD (f d) (f b)=.lt then f d else f b) (r.map f)=f m/\_
   by_cases h:g d < g b
   ·rw [zc ((hc _ _).mpr h)]
    obtain ⟨m,h1,h2,h3⟩:=zcH hc d r
    refine ⟨m,qo _ h1,h2,fun u hu=>?_⟩
    rcases qD.mp hu with rfl | hu
    ·exact List.le_trans (h3 d qp) (List.le_of_lt h)
    ·exact h3 u hu
   ·rw [zi fun z=>h ((hc _ _).mp z)]
    obtain ⟨m,h1,h2,h3⟩:=zcH hc b r
    refine ⟨m,(qD.mp h1).elim (fun e=>e ▸ qp) fun e=>qo _ (qo _ e),h2,fun u hu=>?_⟩
    rcases qD.mp hu with rfl | hu
    ·exact h3 u qp
    ·rcases qD.mp hu with rfl | hu
     ·exact List.le_trans (h3 b qp) (List.not_lt.mp h)
     ·exact h3 u (qo _ hu)
theorem zlO {f:Sb->D} {g:Sb->List Int} (hc:∀ s t,cmpD (f s) (f t)=.lt↔g s < g t) (hk:∀ s t,like (f s) (f t)=true/\dep (f s)<=9) {df:D} (fx:List Sb) (hne:fx≠[]):∃ m∈fx,minDf (.lst (fx.map f)) df=some (.sh (f m))/\∀ u∈fx,g m<=g u:=by
 cases fx with
 | nil=>exact absurd rfl hne
 | cons b r=>
   obtain ⟨m,h1,h2,h3⟩:=zcH hc b r
   refine ⟨m,h1,?_,h3⟩
   rw [<- h2]
   refine zc (qL.mpr fun x hx=>qL.mpr fun y hy=>?_)
   obtain ⟨x,_,rfl⟩:=qN.mp (show x∈(b::r).map f from hx)
   obtain ⟨y,_,rfl⟩:=qN.mp (show y∈(b::r).map f from hy)
   rw [(hk x y).1,qU (hk x y).2]; rfl
open Classical in
theorem zdR {B:List Wd} {w:Wd} {pr:List Int} {pc:D} (hf:Fit B w) (hpl:pr.length=B.length) (hpc:items pc=some (pr.map D.int))
  (h1:(∀ t,t.Sublist (List.range B.length)->lnd B w t w.length≠0)->P (.sh .non) [.sh (zP B),.sh (.str w),.sh pc])
  (h2:∀ s,s.Sublist (List.range B.length)->lnd B w s w.length=0->(∀ t,t.Sublist (List.range B.length)->lnd B w t w.length=0->cst pr s<=cst pr t)->P (.sh (cstD pr s)) [.sh (zP B),.sh (.str w),.sh pc]):
  w_3 [.sh (zP B),.sh (.str w),.sh pc] P PX:=by
 have h12:=hf.tw
 have h6:=hf.six
 have h64:=zf5 hf.nd hf.ne hf.six hf.tw
 refine zaV rfl rfl ?_
 simp! [e_C]
 refine ⟨by simp only [zaj]; lia,?_⟩
 rw [from0 (n:=w.length + 1) (by lia),show ((List.range (w.length + 1)).map fun (k:Nat)=>D.int (k:Int))=vecN w.length (lnd B w []) from rfl]
 refine ⟨by rw [zbO]; simp only [zaj]; lia,zev,?_⟩
 rw [hpc]
 simp! [zi7]
 refine zaX (fun pre U=>∃ (es:List Sb) (o4 o5 o6 o7 o8 o9 o10 o11 o12:Option S),DP B w pr pre.length (fun t=>t.Sublist (List.range pre.length)) es/\es.length<=2 ^ pre.length/\U=[some (.sh (zP B)),some (.sh (.str w)),some (.sh pc),some (bstS B w pr es),o4,o5,o6,o7,o8,o9,o10,o11,o12]) (List.range pr.length) (fun pre k post D2 U e hI hnx hct hrt hbk=>?_) (fun U hI=>?_) ⟨[[]],none,none,none,none,none,none,none,none,none,DP.begin,by simp,rfl⟩
 ·obtain ⟨es,o4,o5,o6,o7,o8,o9,o10,o11,o12,hdp,hel,rfl⟩:=hI
  obtain ⟨rfl,hk⟩:=za4 e
  have hp64:2 ^ pre.length<=64:=by
   have:pre.length<=6:=by lia
   exact Nat.pow_le_pow_right (by decide:0 < 2) this
  simp! [u_3_b3,length_cons,length_nil]
  refine zdb hf ?_
  simp! [zar]
  refine bl3 (n:=13) (strP B w) (fun t=>if decide (t.2.2=pre.length)=true then some (.sh (prD t)) else none) (fun t ht l o1 o2 o3 K hl hK=>?_) fun o1 o2 o3=>?_
  ·have e1:decide (((t.2.2:Nat):Int)=((pre.length:Nat):Int))=decide (t.2.2=pre.length):=decide_eq_decide.mpr (by lia)
   have hl2:=List.length_filterMap_le (fun t:Tr=>if decide (t.2.2=pre.length)=true then some (S.sh (prD t)) else none) (strP B w)
   cases q:decide (t.2.2=pre.length)
   ·simp! [x_bX,ziE,zi4,length_cons,length_nil,e1,q]
    have:=hK (some (.sh (.int (t.1:Int)))) (some (.sh (.int (t.2.1:Int)))) (some (.sh (.int (t.2.2:Int))))
    rw [q,zi (by decide),toList_none,qC] at this
    exact this
   ·simp! [x_bX,zb5,u_3_c1,zi4,length_cons,length_nil,e1,q]
    rw [q,zc rfl] at hK
    exact ⟨by simp only [zaj]; lia,hK _ _ _⟩
  ·rw [show (strP B w).filterMap (fun t=>if decide (t.2.2=pre.length)=true then some (S.sh (prD t)) else none)=((endsK B w pre.length).map prD).map S.sh by rw [zhP (fun t:Tr=>decide (t.2.2=pre.length)) (fun t=>S.sh (prD t)),qH]; rfl]
   simp! [zar,bstS]
   refine ⟨⟨by simp [S.isSh],?_,by rw [qq]; simp only [zaj]; lia⟩,?_⟩
   ·rw [all_map]
    exact qL.mpr fun s _=>zoz
   rw [zfp]
   refine zaX (fun pre2 U=>∃ (es':List Sb) (o7 o8 o9 o10 o11 o12:Option S),DP B w pr (pre.length + 1) (fun t=>t∈es\/∃ s∈pre2,t=s++[pre.length]) es'/\es'.length<=es.length + pre2.length/\U=[some (.sh (zP B)),some (.sh (.str w)),some (.sh pc),some (bstS B w pr es'),some (.sh (.int (pre.length:Int))),some (.sh (.int ((pr[pre.length]?).getD 0))),some (.sh (.lst ((endsK B w pre.length).map prD))),o7,o8,o9,o10,o11,o12]) es (fun pre2 s post2 D3 U e2 hI hnx2 hct2 hrt2 hbk2=>?_) (fun U hI=>?_) ⟨es,o7,o8,o9,o10,o11,o12,hdp.turn,zj _,rfl⟩
   ·obtain ⟨es',o7,o8,o9,o10,o11,o12,hd2,hel2,rfl⟩:=hI
    have hs:s.Sublist (List.range pre.length):=hdp.sub s (by rw [<- e2]; simp)
    have hsl:s.length<=6:=by have:=hs.length_le; rw [qG] at this; lia
    have hpl2:pre2.length < es.length:=by rw [<- e2]; simp
    have hky:D.tup (vecN w.length (landOf (endsK B w pre.length) (lnd B w s)))=kyD B w (s++[pre.length]):=by unfold kyD; rw [zd7]
    have hcs:D.tup [.int (paid pr s + (pr[pre.length]?).getD 0),.int ((s.length:Int) + 1),.tup (s.map zU++[.int (pre.length:Int)])]=cstD pr (s++[pre.length]):=by
     unfold cstD paid
     simp [zU]
    have hw:∀ es2,DP B w pr (pre.length + 1) (fun u=>(u∈es\/∃ s∈pre2,u=s++[pre.length])\/u=s++[pre.length]) es2->DP B w pr (pre.length + 1) (fun t=>t∈es\/∃ u∈pre2++[s],t=u++[pre.length]) es2:=fun es2 h=>h.weak fun t ht=>by
     rcases ht with ht | ⟨u,hu,e⟩
     ·exact .inl (.inl ht)
     ·rcases qA.mp hu with hu | hu
      ·exact .inl (.inr ⟨u,hu,e⟩)
      ·rw [qw.mp hu] at e
       exact .inr e
    simp! [u_3_b2,length_cons,length_nil,cstD,kyD]
    refine zcP (by lia) zhl ?_
    simp! [length_cons,length_nil,bstS]
    rw [hky,hcs]
    have hT:=zkp hs
    have hin:cIn (kyD B w (s++[pre.length])) (D.dct true (List.map (kyD B w) es') (List.map S.toD (List.map (fun s=>S.sh (cstD pr s)) es')))=some (decide (kyD B w (s++[pre.length])∈es'.map (kyD B w))):=zc zev
    rw [hin]
    by_cases hmem:kyD B w (s++[pre.length])∈es'.map (kyD B w)
    ·rw [qU hmem]
     obtain ⟨i,u,hu1,hu2,hu3⟩:=zlQ hmem
     simp! [znS]
     rw [show lkD (.dct true (es'.map (kyD B w)) (es'.map (cstD pr))) (kyD B w (s++[pre.length]))=some (lk (es'.map (kyD B w)) (es'.map (cstD pr)) (kyD B w (s++[pre.length]))) from zc zev,zkR hu3 hd2.nd (qP hu2)]
     simp! [zkO]
     by_cases hlt:cst pr (s++[pre.length]) < cst pr u
     ·rw [qU hlt]
      simp! [e_C]
      refine ⟨zev,hd2.nd,by rw [qq]; simp only [zaj]; lia,?_⟩
      obtain ⟨hd3,hkm⟩:=hd2.put hT hu2 hu3 hlt
      have he:dputS true (es'.map (kyD B w)) (es'.map fun s=>S.sh (cstD pr s)) (kyD B w (s++[pre.length])) (S.sh (cstD pr (s++[pre.length])))=bstS B w pr (es'.set i (s++[pre.length])):=by
       unfold bstS dputS
       rw [hu1,hkm,map_set]
      rw [he]
      exact hnx2 _ ⟨es'.set i (s++[pre.length]),_,_,_,_,_,_,hw _ hd3,by rw [List.length_set,qt]; lia,rfl⟩
     ·rw [qV hlt]
      simp! [e_C]
      exact hnx2 _ ⟨es',_,_,_,_,_,_,hw _ (hd2.stay (qP hu2) hu3 hlt),by rw [qt]; lia,rfl⟩
    ·rw [qV hmem]
     simp! [e_C]
     refine ⟨zev,hd2.nd,by rw [qq]; simp only [zaj]; lia,?_⟩
     have hno:fIx (es'.map (kyD B w)) (kyD B w (s++[pre.length]))=none:=by
      unfold fIx
      rw [List.findIdx?_eq_none_iff]
      intro x hx
      exact qV fun z=>hmem (z ▸ hx)
     have he:dputS true (es'.map (kyD B w)) (es'.map fun s=>S.sh (cstD pr s)) (kyD B w (s++[pre.length])) (S.sh (cstD pr (s++[pre.length])))=bstS B w pr (es'++[s++[pre.length]]):=by
      unfold bstS dputS
      rw [hno,map_append,map_append]
      rfl
     rw [he]
     exact hnx2 _ ⟨es'++[s++[pre.length]],_,_,_,_,_,_,hw _ (hd2.add hT hmem),by rw [qt,qt,qE,qE]; lia,rfl⟩
   ·obtain ⟨es',o7,o8,o9,o10,o11,o12,hd2,hel2,rfl⟩:=hI
    refine hnx _ ⟨es',_,_,_,o7,o8,o9,o10,o11,o12,?_,?_,rfl⟩
    ·rw [qt]
     exact hdp.next hd2
    ·rw [qt,qE,pow_succ]
     lia
 ·obtain ⟨es,o4,o5,o6,o7,o8,o9,o10,o11,o12,hdp,hel,rfl⟩:=hI
  rw [qG] at hdp hel
  simp! [bstS]
  refine ⟨by simp [S.isSh],by rw [all_map]; exact qL.mpr fun s _=>zoz,?_⟩
  rw [zfp]
  have h64e:es.length<=64:=le_trans hel (by rw [hpl]; exact Nat.pow_le_pow_right (by decide:0 < 2) h6)
  refine bl2 (n:=13) es (fun s=>if decide (lnd B w s w.length=0)=true then some (.sh (cstD pr s)) else none) (fun s hs l o1 o2 K hl hK=>?_) fun o1 o2=>?_
  ·have e1:decide (((lnd B w s w.length:Nat):Int)=0)=decide (lnd B w s w.length=0):=decide_eq_decide.mpr (by lia)
   cases q:decide (lnd B w s w.length=0)
   ·simp! [x_bX,ziE,length_cons,length_nil,kyD,zeU,e1,q]
    have:=hK (some (.sh (kyD B w s))) (some (.sh (cstD pr s)))
    rw [q,zi (by decide),toList_none,qC] at this
    exact this
   ·simp! [x_bX,zb5,u_3_c4,length_cons,length_nil,kyD,zeU,e1,q]
    rw [q,zc rfl] at hK
    exact ⟨by simp only [zaj]; lia,hK _ _⟩
  ·rw [show es.filterMap (fun s=>if decide (lnd B w s w.length=0)=true then some (S.sh (cstD pr s)) else none)=((es.filter fun s=>decide (lnd B w s w.length=0)).map (cstD pr)).map S.sh by rw [zhP (fun s:Sb=>decide (lnd B w s w.length=0)) (fun s=>S.sh (cstD pr s)),qH]; rfl]
   simp! [zar]
   by_cases hfx:es.filter (fun s=>decide (lnd B w s w.length=0))=[]
   ·rw [hfx]
    refine h1 fun t ht hz=>?_
    obtain ⟨s,hs,e1,_⟩:=hdp.best t (hpl ▸ ht)
    have:s∈es.filter fun s=>decide (lnd B w s w.length=0):=mem_filter.mpr ⟨hs,qU ((zg9.mp e1 _ (zj _)).trans hz)⟩
    rw [hfx] at this
    cases this
   ·obtain ⟨m,hm1,hm2,hm3⟩:=zlO (fun _ _=>ziT) (fun _ _=>zf3) (df:=.non) _ hfx
    rw [hm2]
    obtain ⟨hm1,hm4⟩:=mem_filter.mp hm1
    simp! [e_C]
    refine h2 m (hpl ▸ hdp.sub m hm1) (qX hm4) fun t ht hz=>?_
    obtain ⟨s,hs,e1,e2⟩:=hdp.best t (hpl ▸ ht)
    exact List.le_trans (hm3 s (mem_filter.mpr ⟨hs,qU ((zg9.mp e1 _ (zj _)).trans hz)⟩)) e2
def bitsOf (n k:Nat):Sb:=(List.range n).filter fun i=>decide (k / 2 ^ i % 2=1)
theorem zkb (n k:Nat):(bitsOf n k).Sublist (List.range n):=List.filter_sublist
theorem zcv:∀ (n:Nat) (t:Sb),t.Sublist (List.range n)->∃ k,k < 2 ^ n/\bitsOf n k=t
 | 0,t,h=>⟨0,by simp,(List.eq_nil_of_sublist_nil h).symm⟩
 | n + 1,t,h=>by
   have low:∀ (k j:Nat),(∀ i,i < n->k.testBit i=j.testBit i)->(List.range n).filter (fun i=>decide (k / 2 ^ i % 2=1))=bitsOf n j:=fun k j hkj=>by
    unfold bitsOf
    refine List.filter_congr fun i hi=>?_
    rw [<- Nat.testBit_eq_decide_div_mod_eq,<- Nat.testBit_eq_decide_div_mod_eq,hkj i (qM.mp hi)]
   have e:∀ k,bitsOf (n + 1) k=(List.range n).filter (fun i=>decide (k / 2 ^ i % 2=1))++if k.testBit n then [n] else []:=fun k=>by
    unfold bitsOf
    rw [range_succ,List.filter_append]
    congr 1
    rw [Nat.testBit_eq_decide_div_mod_eq]
    by_cases q:k / 2 ^ n % 2=1
    ·simp [q]
    ·simp [q]
   rcases zfL h with h | ⟨s,hs,rfl⟩
   ·obtain ⟨k,hk,rfl⟩:=zcv n t h
    refine ⟨k,by rw [pow_succ]; lia,?_⟩
    rw [e,low k k fun _ _=>rfl,zi (by rw [Nat.testBit_lt_two_pow hk]; decide),qC]
   ·obtain ⟨k,hk,rfl⟩:=zcv n s hs
    refine ⟨2 ^ n + k,by rw [pow_succ]; lia,?_⟩
    rw [e,low (2 ^ n + k) k fun i hi=>Nat.testBit_two_pow_add_gt hi k,zc (by rw [Nat.testBit_two_pow_add_eq,Nat.testBit_lt_two_pow hk]; rfl)]
theorem zhm {k i:Nat}:decide (((k:Int) / 2 ^ ((i:Int)).toNat) % 2=1)=decide (k / 2 ^ i % 2=1):=by
 rw [qZ]
 refine decide_eq_decide.mpr ?_
 have:((k:Int) / 2 ^ i) % 2=((k / 2 ^ i % 2:Nat):Int):=by simp
 rw [this]
 lia
theorem zmP (l:List D):enumF 0 l=(List.range l.length).map fun (k:Nat)=>D.tup [.int (k:Int),(l[k]?).getD .non]:=by
 have:=zcu (fun d:D=>d) l 0
 rw [List.map_id'] at this
 rw [this]
 refine map_congr_left fun i _=>?_
 rw [zero_add]
 cases l[i]? <;> rfl
theorem zdZ {B:List Wd} {w:Wd} (h12:w.length<=60)
  (h:P (.lst ((vecN w.length (landP B w)).map .sh)) [.sh (.lst (tiesL B w))]):w_15 [.sh (.lst (tiesL B w))] P PX:=by
 have htl:(tiesL B w).length=w.length + 1:=by simp [tiesL]
 refine zaV rfl rfl ?_
 simp! [htl]
 refine ⟨by simp only [zaj]; lia,?_⟩
 rw [from0 (n:=w.length + 1) (by lia)]
 refine ⟨by rw [qq,qG]; simp only [zaj]; lia,?_⟩
 rw [show ((List.range (w.length + 1)).map fun (k:Nat)=>D.int (k:Int))=vecN w.length fun p=>p from rfl]
 refine zqK (fun m U=>∃ (f:Nat->Nat) (a:List Int) (o3 o4:Option S),Swept (TieR B w) w.length f/\(a=vecI w.length f->Still (TieR B w) (w.length + 1) f)/\m=(if a=vecI w.length f then 0 else 1) + sumF w.length f/\U=[some (.sh (.lst (tiesL B w))),some (.lst ((vecN w.length f).map .sh)),some (.sh (.lst (a.map D.int))),o3,o4]) _ ⟨fun p=>p,[],none,none,⟨fun p=>zj p,fun p=>.refl p⟩,fun e=>?_,rfl,rfl⟩ fun m U hJ=>?_
 ·have:=congrArg List.length e
  simp [vecI] at this
 obtain ⟨f,a,o3,o4,hf,hst,hm,rfl⟩:=hJ
 simp! [zar,zbe,zjB]
 cases q:decide (a=vecI w.length f)
 ·have q':=of_decide_eq_false q
  rw [zi q'] at hm
  simp! [x_Wt,u_15_b3,zar,zmP,htl]
  refine zaX (fun pre U=>∃ (g:Nat->Nat) (o3 o4:Option S),Swept (TieR B w) w.length g/\(∀ p,g p<=f p)/\((∀ p,p<=w.length->g p=f p)->Still (TieR B w) pre.length f)/\U=[some (.sh (.lst (tiesL B w))),some (.lst ((vecN w.length g).map .sh)),some (.sh (.lst ((vecI w.length f).map D.int))),o3,o4]) (List.range (w.length + 1)) (fun pre k post D2 U e hI hnx hct hrt hbk=>?_) (fun U hI=>?_) ⟨f,o3,o4,hf,fun p=>zj _,fun _ p hp=>by simp at hp,by rw [zbe]⟩
  ·obtain ⟨g,o3,o4,hg,hle,hs,rfl⟩:=hI
   have hk:=za4 e
   obtain ⟨hk1,hk2⟩:=hk
   rw [hk1] at hs
   have et:((tiesL B w)[k]?).getD .non=.lst ((nb B w k).map zU):=by
    unfold tiesL; rw [qI,getElem?_range hk2]; rfl
   obtain ⟨v,ev,hv1,hv2,hv3⟩:=zje (R:=TieR B w) (n:=w.length) (k:=k) (f0:=f) (g:=g) (l:=nb B w k) (fun q=>zck) hg hle hs (by lia) zfm
   have hnl:=zhE (B:=B) (w:=w) (p:=k)
   simp! [length_cons,length_nil,u_15_b2,et,zdF (show k<=w.length by lia)]
   refine bm1 (n:=5) (nb B w k) (fun q=>.sh (zU (g q))) (fun q hq l o K hl hK=>?_) fun o=>?_
   ·simp! [x_bX,zb5,u_15_c1,zU,zdF (zg8 hq).1]
    exact ⟨by simp only [zaj]; lia,hK _⟩
   ·rw [show ((nb B w k).map fun q=>S.sh (zU (g q)))=((nb B w k).map fun q=>zU (g q)).map S.sh by rw [qH]; rfl]
    have eb:bMinL [.lst (D.int ((g k:Nat):Int)::(nb B w k).map fun q=>zU (g q))]=some (.sh (.int ((v:Nat):Int))):=by
     show (intsD _).bind _=_
     rw [show (D.int ((g k:Nat):Int)::(nb B w k).map fun q=>zU (g q))=((((g k:Nat):Int)::(nb B w k).map fun q=>((g q:Nat):Int)).map D.int) by simp [zU],za1]
     rw [Option.bind_some,ev]; rfl
    simp! [zar,length_map,length_cons,length_nil,eb]
    rw [zhg (by lia) (by rw [qq,zbO]; lia)]
    refine hnx _ ⟨_,some (.sh (.int (k:Int))),some (.sh (.lst ((nb B w k).map zU))),hv1,hv2,?_,?_⟩
    ·rw [qt,qE,hk1]; exact hv3
    ·rw [qZ,<- zjT (show k<=w.length by lia),map_set]
     rfl
  ·obtain ⟨g,o3,o4,hg,hle,hs,rfl⟩:=hI
   rw [qG] at hs
   by_cases qe:∀ p,p<=w.length->g p=f p
   ·have ev:vecI w.length f=vecI w.length g:=zd9.mpr fun p hp=>(qe p hp).symm
    have es:sumF w.length g=sumF w.length f:=by
     unfold sumF
     congr 1
     exact map_congr_left fun p hp=>qe p (by have:=qM.mp hp; lia)
    refine zm4 (m':=sumF w.length f) (by lia) ⟨g,vecI w.length f,_,_,hg,fun _=>?_,?_,by rw [zbe]⟩
    ·intro p hp r hr
     have:=hs qe p hp r hr
     have h1:=qe p (by lia)
     have h2:=qe r (zfm p r hr).2
     lia
    ·rw [zc ev,es]; lia
   ·have:=zlH (n:=w.length) hle qe
    refine zm4 ?_ ⟨g,vecI w.length f,_,_,hg,fun e=>?_,rfl,by rw [zbe]⟩
    ·split <;> lia
    ·exact (qe fun p hp=>(zd9.mp e p hp).symm).elim
 ·have q':=qX q
  have hL:=zg7 zcO zfm hf (hst q')
  have e2:vecI w.length f=vecI w.length (landP B w):=zd9.mpr fun p _=>hL.unique (zfU B w) p
  simp! [x_Wf]
  rw [e2,<- zbe]
  exact h
def ak:Nat->D->Bool
 | 0,_=>false
 | n + 1,.tup l=>decide (l.length<=1000) && l.all (ak n)
 | _ + 1,.str _=>true
 | _ + 1,.int _=>true
 | _ + 1,_=>false
theorem zct:∀ l:List D,zipD l l=l.map fun x=>D.tup [x,x]
 | []=>rfl
 | x::l=>by show D.tup [x,x]::zipD l l=_; rw [zct l]; rfl
theorem zg0 {n:Nat} {d:D} (h:ak n d=true) (k:P (.sh (.bl true)) [.sh d,.sh d]):wRec zaU n [.sh d,.sh d] P PX:=by
 induction n generalizing d P PX with
 | zero=>cases h
 | succ n ih=>
   cases d with
   | tup l=>
     have h':(decide (l.length<=1000) && l.all (ak n))=true:=h
     rw [and_eq_true,decide_eq_true_iff,qL] at h'
     refine zaV rfl rfl ?_
     simp! [show isTy "tuple" (D.tup l)=true from rfl,decide_true]
     rw [zct]
     refine bm2 (n:=2) l (fun _=>.sh (.bl true)) (fun x hx m o o' K hl hK=>?_) fun o o'=>?_
     ·simp! [x_bX,zb5,u_16_c1,length_cons,length_nil]
      refine ih (h'.2 x hx) ?_
      simp! [e_C]
      exact ⟨by simp only [zaj]; lia,hK _ _⟩
     ·rw [show (l.map fun _=>S.sh (.bl true))=((l.map fun _=>true).map D.bl).map S.sh by simp [Function.comp_def]]
      simp! [zar,zoR]
      rw [all_map,show (l.all (id ∘ fun _=>true))=true by simp]
      exact k
   | str x=>
     refine zaV rfl rfl ?_
     simp! [show isTy "tuple" (D.str x)=false from rfl,show isTy "str" (D.str x)=true from rfl,decide_true]
     exact k
   | int x=>
     refine zaV rfl rfl ?_
     simp! [show isTy "tuple" (D.int x)=false from rfl,show isTy "str" (D.int x)=false from rfl,show isTy "int" (D.int x)=true from rfl,show isTy "bool" (D.int x)=false from rfl,decide_true]
     exact k
   | _=>cases h
structure Sc where
 col:List Nat
 B:List Wd
 w:Wd
 pr:List Int
def scD (c:Sc):D:=.tup [.str c.col,zP c.B,.str c.w,.tup (c.pr.map D.int)]
def okS (c:Sc):Prop:=goodB c.col 6 6 c.B/\c.w.length<=12/\c.pr.length=c.B.length
theorem goodB.fit {col:List Nat} {B:List Wd} {w:Wd} (h:goodB col 6 6 B) (hw:w.length<=12):Fit B w:=⟨h.2.1,fun x hx=>(h.2.2 x hx).1,fun x hx=>by have:=(h.2.2 x hx).2.1; lia,h.1,hw⟩
theorem zg1 {a s:Int} (ha:0<=a) (hs:1<=s) (hs2:s<=2147483629)
  (h:∀ (c:Sc) a' s',okS c->0<=a'->1<=s'->s'<=2147483629->P (.sh (scD c)) [box a' s',.sh (.int 100)]):w_14 [box a s,.sh (.int 100)] P PX:=by
 refine zaV rfl rfl ?_
 simp! [box]
 refine zal ha hs hs2 (by decide) (by decide) fun r a1 s1 hr hr2 ha1 hs1 hs21=>?_
 simp! [box]
 refine zeK ha1 hs1 hs21 (by lia) (by lia) fun col a2 s2 hcol hso hle ha2 hs2 hs22=>?_
 simp! [box]
 refine zgE ha2 hs2 hs22 (by lia) (by lia) (by decide) (by decide) (by decide) (by decide) fun B a3 s3 hB ha3 hs3 hs23=>?_
 have hB':goodB col 6 6 B:=hB
 simp! [box]
 refine zjz ha3 hs3 hs23 (by lia) (by lia) (by decide) (by decide) (by have:=hB'.1; lia) (fun w hw=>⟨by have:=(hB'.2.2 w hw).2.1; lia,(hB'.2.2 w hw).2.2⟩) fun t a4 s4 ht htc ha4 hs4 hs24=>?_
 have ht':t.length<=12:=ht
 simp! [box]
 refine zal ha4 hs4 hs24 (by decide) (by decide) fun r5 a5 s5 hr5 hr52 ha5 hs5 hs25=>?_
 have fin:∀ (w:Wd) (b t:Int),0<=b->1<=t->t<=2147483629->w.length<=12->
   (zR (zT (zI 5) (wIx (wLst (zG (wC (.int 2)) (zG (wC (.int 4)) (zG (zF 1) zH)))) (zS w_6 [true,true] (zG (zF 0) (zG (wC (.int 3)) zH)))))
  (wRet (wTup (zG (zF 2) (zG (zF 3) (zG (zF 4) (zG (wB bTuple (zG (wLC 6 1 (wIter (zF 3)) (zI 7) wYes w_14_c1) zH)) zH)))))))
   (fnE 2 [.lst [.sh (.int a),.sh (.int s)],.sh (.int 100)] P PX) [some (.lst [.sh (.int b),.sh (.int t)]),some (.sh (.int 100)),some (.sh (.str col)),some (.sh (zP B)),some (.sh (.str w)),none]:=fun w b t hb ht ht2 hw=>by
  simp! [box]
  refine zal hb ht ht2 (by decide) (by decide) fun r6 a6 s6 hr6 hr62 ha6 hs6 hs26=>?_
  have hq:∃ q:Int,0 < q/\q<=100/\atI [S.sh (D.int 2),S.sh (D.int 4),S.sh (D.int 100)] r6=some (S.sh (D.int q)):=by
   have:r6=0\/r6=1\/r6=2:=by lia
   rcases this with rfl | rfl | rfl
   ·exact ⟨2,by decide,by decide,zoX⟩
   ·exact ⟨4,by decide,by decide,znT⟩
   ·exact ⟨100,by decide,by decide,znK⟩
  obtain ⟨q,hq1,hq2,eq⟩:=hq
  simp! [box,eq,zP]
  refine bd1 (n:=6) (fun z:Int=>S.sh (.int z)) _ (fun U=>∃ a s,0<=a/\1<=s/\s<=2147483629/\U=[some (box a s),some (.sh (.int 100)),some (.sh (.str col)),some (.sh (zP B)),some (.sh (.str w)),some (.sh (.int q))]) (fun _=>True) (fun x hx U A o K hI hA hK=>?_) (fun U A o hI hA hP=>?_) ⟨a6,s6,ha6,hs6,hs26,rfl⟩
  ·obtain ⟨a,s,ha,hs,hs2,rfl⟩:=hI
   have:=hB'.1
   rw [qq] at hA
   simp! [x_bX,zb5,u_14_c1,box]
   refine zal ha hs hs2 hq1 (by lia) fun r7 a7 s7 hr7 hr72 ha7 hs7 hs27=>?_
   simp! [length_map]
   exact ⟨by simp only [zaj]; lia,hK _ _ _ ⟨a7,s7,ha7,hs7,hs27,rfl⟩ trivial⟩
  ·obtain ⟨a,s,ha,hs,hs2,rfl⟩:=hI
   rw [show (A.map fun z:Int=>S.sh (.int z))=(A.map D.int).map S.sh by rw [qH]; rfl]
   simp! [box,zar]
   exact h ⟨col,B,w,A⟩ a s ⟨hB',hw,by rw [hA,qq]⟩ ha hs hs2
 simp! [box]
 cases q:decide (r5=0)
 ·simp! [e_C]
  have:=fin t a5 s5 ha5 hs5 hs25 ht'
  simp! [e_C] at this
  exact this
 ·simp! [box]
  refine zez ha5 hs5 hs25 (by decide) (by decide) (by lia) (by lia) fun w a6 s6 hw1 hw2 ha6 hs6 hs26=>?_
  simp! [box]
  have:=fin w a6 s6 ha6 hs6 hs26 hw1
  simp! [e_C] at this
  exact this
theorem zeT:cIs .non .non=some true:=by simp [cIs]
theorem zeG {l:List D}:cIs (.tup l) .non=some false:=by simp [cIs]
theorem zl0:cIsNot .non .non=some false:=by unfold cIsNot; rw [zeT]; rfl
theorem zmi {l:List D}:cIsNot (.tup l) .non=some true:=by unfold cIsNot; rw [zeG]; rfl
def buyD (pr:List Int) (s:Sb):D:=.tup [.int (paid pr s),.tup (s.map zU)]
def Due (B:List Wd) (w:Wd) (pr:List Int) (d:D):Prop:=(d=.non/\∀ t,t.Sublist (List.range B.length)->lnd B w t w.length≠0)\/
 ∃ s,d=buyD pr s/\s.Sublist (List.range B.length)/\lnd B w s w.length=0/\∀ t,t.Sublist (List.range B.length)->lnd B w t w.length=0->cst pr s<=cst pr t
theorem zl3 {B:List Wd} {w:Wd} {pr:List Int} {d e:D} (h:Due B w pr d) (k:Due B w pr e):d=e:=by
 rcases h with ⟨rfl,h⟩ | ⟨s,rfl,h1,h2,h3⟩
 ·rcases k with ⟨rfl,_⟩ | ⟨t,rfl,k1,k2,_⟩
  ·rfl
  ·exact absurd k2 (h t k1)
 ·rcases k with ⟨rfl,k⟩ | ⟨t,rfl,k1,k2,k3⟩
  ·exact absurd h2 (k s h1)
  ·rw [zmn (le_antisymm (h3 t k1 k2) (k3 s h1 h2))]
theorem zf0 {pr:List Int} {s:Sb}:atI [D.int (paid pr s),D.int (s.length:Int),D.tup (s.map zU)] 0=some (.int (paid pr s))/\atI [D.int (paid pr s),D.int (s.length:Int),D.tup (s.map zU)] 2=some (.tup (s.map zU)):=⟨rfl,rfl⟩
theorem ze9 {B:List Wd} {w:Wd} {pr:List Int} (hf:Fit B w) (hpl:pr.length=B.length)
  (h:∀ d,Due B w pr d->P (.sh d) [.sh (zP B),.sh (.str w),.sh (.tup (pr.map D.int))]):w_4 [.sh (zP B),.sh (.str w),.sh (.tup (pr.map D.int))] P PX:=by
 refine zaV rfl rfl ?_
 simp! [e_C]
 refine zdR (pr:=pr) hf hpl rfl (fun hn=>?_) fun s hs hz hm=>?_
 ·simp! [zeT]
  exact h _ (.inl ⟨rfl,hn⟩)
 ·simp! [cstD,zeG,zf0.1,zf0.2,length_cons,length_nil]
  exact h _ (.inr ⟨s,rfl,hs,hz,hm⟩)
theorem zj2 {pr:List Int} {s:Sb}:bSum [.lst (s.map fun k=>D.int ((pr[k]?).getD 0))]=some (.sh (.int (paid pr s))):=by
 show (intsD _).map _=_
 rw [show (s.map fun k=>D.int ((pr[k]?).getD 0))=(s.map fun k=>(pr[k]?).getD 0).map D.int by rw [qH]; rfl,za1]
 rfl
theorem zeC {B:List Wd} {w:Wd} {pr:List Int} (hf:Fit B w) (hpl:pr.length=B.length)
  (h:∀ d,Due B w pr d->P (.sh d) [.sh (zP B),.sh (.str w),.sh (.tup (pr.map D.int))]):w_17 [.sh (zP B),.sh (.str w),.sh (.tup (pr.map D.int))] P PX:=by
 have h6:=hf.six
 have h12:=hf.tw
 have hp64:2 ^ B.length<=64:=Nat.pow_le_pow_right (by decide:0 < 2) h6
 refine zaV rfl rfl ?_
 simp! [zP,length_map]
 have e0:(1 * 2 ^ ((B.length:Nat):Int).toNat:Int)=((2 ^ B.length:Nat):Int):=by
  rw [qZ,Int.one_mul]
  simp
 rw [e0]
 refine ⟨by simp only [zaj]; lia,?_⟩
 rw [from0 (n:=2 ^ B.length) rfl]
 refine zaX (fun pre U=>∃ (d:D) (o4 o5 o6:Option S),((d=.non/\∀ k∈pre,lnd B w (bitsOf B.length k) w.length≠0)\/∃ s,d=cstD pr s/\s.Sublist (List.range B.length)/\lnd B w s w.length=0/\∀ k∈pre,lnd B w (bitsOf B.length k) w.length=0->cst pr s<=cst pr (bitsOf B.length k))/\U=[some (.sh (zP B)),some (.sh (.str w)),some (.sh (.tup (pr.map D.int))),some (.sh d),o4,o5,o6]) (List.range (2 ^ B.length)) (fun pre k post D2 U e hI hnx hct hrt hbk=>?_) (fun U hI=>?_) ⟨.non,none,none,none,.inl ⟨rfl,(fun _ h=>nomatch h)⟩,rfl⟩
 ·obtain ⟨d,o4,o5,o6,hd,rfl⟩:=hI
  obtain ⟨hk1,hk2⟩:=za4 e
  have hsub:=zkb B.length k
  have hlt:∀ j∈bitsOf B.length k,j < B.length:=fun j hj=>qM.mp (hsub.subset hj)
  have hsl:(bitsOf B.length k).length<=6:=by have:=hsub.length_le; rw [qG] at this; lia
  simp! [u_17_b4,zP,length_map]
  refine ⟨by simp only [zaj]; lia,?_⟩
  rw [from0 (n:=B.length) rfl]
  refine bl1 (n:=7) (List.range B.length) (fun i=>if decide (k / 2 ^ i % 2=1)=true then some (.sh (zU i)) else none) (fun i hi l o K hl hK=>?_) fun o=>?_
  ·rw [qG] at hl
   have hpos:(0:Int)<=(k:Int) / 2 ^ ((i:Int)).toNat:=Int.ediv_nonneg (by lia) (Int.le_of_lt (Int.pow_pos (by decide)))
   cases q:decide (k / 2 ^ i % 2=1)
   ·simp! [x_bX,zhK hpos,zhm,q,ziE]
    have:=hK (some (.sh (.int (i:Int))))
    rw [q,zi (by decide),toList_none,qC] at this
    exact this
   ·simp! [x_bX,zhK hpos,zhm,q,zb5,u_17_c1]
    rw [q,zc rfl] at hK
    exact ⟨by simp only [zaj]; lia,hK _⟩
  ·rw [zhP (fun i=>decide (k / 2 ^ i % 2=1)) (fun i=>S.sh (zU i)),show ((List.range B.length).filter fun i=>decide (k / 2 ^ i % 2=1))=bitsOf B.length k from rfl,show ((bitsOf B.length k).map fun i=>S.sh (zU i))=((bitsOf B.length k).map zU).map S.sh by rw [qH]; rfl]
   generalize hT:bitsOf B.length k=T at hsub hlt hsl
   simp! [zar]
   refine bm1 (n:=7) T (fun i=>.sh (.int ((pr[i]?).getD 0))) (fun i hi l o K hl hK=>?_) fun o=>?_
   ·have hat:atI (pr.map D.int) (i:Int)=some (.int ((pr[i]?).getD 0)):=zbj (by lia) (by rw [qZ,qI,qj (hpl ▸ hlt i hi)]; rfl)
    simp! [x_bX,zb5,u_17_c2,zU,hat]
    exact ⟨by simp only [zaj]; lia,hK _⟩
   ·rw [show (T.map fun i=>S.sh (D.int ((pr[i]?).getD 0)))=(T.map fun i=>D.int ((pr[i]?).getD 0)).map S.sh by rw [qH]; rfl]
    simp! [zar,zj2,length_cons,length_nil,length_map]
    rw [show D.tup [.int (paid pr T),.int (T.length:Int),.tup (T.map zU)]=cstD pr T from rfl]
    have mid:(lnd B w T w.length=0->D2.nx [some (.sh (zP B)),some (.sh (.str w)),some (.sh (.tup (pr.map D.int))),some (.sh (cstD pr T)),some (.sh (.int (k:Int))),some (.sh (.tup (T.map zU))),some (.sh (cstD pr T))])->(lnd B w T w.length≠0->D2.nx [some (.sh (zP B)),some (.sh (.str w)),some (.sh (.tup (pr.map D.int))),some (.sh d),some (.sh (.int (k:Int))),some (.sh (.tup (T.map zU))),some (.sh (cstD pr T))])->
      wIf (wCmp cEq (wIx (zS w_15 [true] (zG (wFrz (zS w_13 [true,true] (zG (wFrz (wLC 7 1 (wIter (zF 5)) (zI 8) wYes w_17_c3)) (zG (zF 1) zH)))) zH)) (wB bLen (zG (zF 1) zH))) (wC (.int 0))) (zT (zI 3) (zF 6)) wPass D2 [some (.sh (zP B)),some (.sh (.str w)),some (.sh (.tup (pr.map D.int))),some (.sh d),some (.sh (.int (k:Int))),some (.sh (.tup (T.map zU))),some (.sh (cstD pr T))]:=fun hy hno=>by
     simp! [zP]
     refine bm1 (n:=7) T (fun i=>.sh (.str ((B[i]?).getD []))) (fun i hi l o K hl hK=>?_) fun o=>?_
     ·have hat:atI (B.map D.str) (i:Int)=some (.str ((B[i]?).getD [])):=zbj (by lia) (by rw [qZ,qI,qj (hlt i hi)]; rfl)
      simp! [x_bX,zb5,u_17_c3,zU,hat]
      exact ⟨by simp only [zaj]; lia,hK _⟩
     ·rw [show (T.map fun i=>S.sh (D.str ((B[i]?).getD [])))=((subB B T).map D.str).map S.sh by unfold subB; rw [qH,qH]; rfl]
      simp! [zar]
      refine zgK (B:=subB B T) (fun z=>zgv) (by lia) ?_
      simp! [zar]
      refine zdZ (B:=subB B T) (by lia) ?_
      have hl0:landP (subB B T) w w.length=0↔lnd B w T w.length=0:=zgD.trans (zk9 hf hlt).symm
      have e1:decide (((landP (subB B T) w w.length:Nat):Int)=0)=decide (lnd B w T w.length=0):=decide_eq_decide.mpr ⟨fun z=>hl0.mp (by lia),fun z=>by have:=hl0.mpr z; lia⟩
      simp! [zar,zdF (le_refl w.length),e1]
      by_cases q:lnd B w T w.length=0
      ·rw [qU q]
       simp! [e_C]
       exact hy q
      ·rw [qV q]
       simp! [e_C]
       exact hno q
    have hpre:∀ {Q:Nat->Prop},(∀ j∈pre,Q j)->Q k->∀ j∈pre++[k],Q j:=fun h1 h2 j hj=>(qA.mp hj).elim (h1 j) fun z=>by rw [qw.mp z]; exact h2
    rcases hd with ⟨rfl,hn⟩ | ⟨s,rfl,hs,hz,hm⟩
    ·simp! [zeT]
     refine mid (fun hz=>hnx _ ⟨_,_,_,_,.inr ⟨T,rfl,hsub,hz,hpre (fun j hj z=>absurd z (hn j hj)) fun _=>by rw [hT]; exact List.le_refl _⟩,rfl⟩) fun hz=>hnx _ ⟨_,_,_,_,.inl ⟨rfl,hpre hn (by rw [hT]; exact hz)⟩,rfl⟩
    ·simp! [show cIs (cstD pr s) .non=some false from zeG,zkO]
     by_cases q:cst pr T < cst pr s
     ·rw [qU q]
      simp! [e_C]
      refine mid (fun hz=>hnx _ ⟨_,_,_,_,.inr ⟨T,rfl,hsub,hz,hpre (fun j hj z=>List.le_trans (List.le_of_lt q) (hm j hj z)) fun _=>by rw [hT]; exact List.le_refl _⟩,rfl⟩) fun hz2=>hnx _ ⟨_,_,_,_,.inr ⟨s,rfl,hs,hz,hpre hm fun z=>absurd (hT ▸ z) hz2⟩,rfl⟩
     ·rw [qV q]
      simp! [e_C]
      exact hnx _ ⟨_,_,_,_,.inr ⟨s,rfl,hs,hz,hpre hm fun _=>by rw [hT]; exact List.not_lt.mp q⟩,rfl⟩
 ·obtain ⟨d,o4,o5,o6,hd,rfl⟩:=hI
  rcases hd with ⟨rfl,hn⟩ | ⟨s,rfl,hs,hz,hm⟩
  ·simp! [zeT]
   refine h _ (.inl ⟨rfl,fun t ht=>?_⟩)
   obtain ⟨k,hk,rfl⟩:=zcv _ _ ht
   exact hn k (qM.mpr hk)
  ·simp! [cstD,zeG,zf0.1,zf0.2,length_cons,length_nil]
   refine h _ (.inr ⟨s,rfl,hs,hz,fun t ht hzt=>?_⟩)
   obtain ⟨k,hk,rfl⟩:=zcv _ _ ht
   exact hm k (qM.mpr hk) hzt
structure Q4 where
 B:List Wd
 w:Wd
 pr:List Int
 d:D
def q4D (c:Q4):D:=.tup [zP c.B,.str c.w,.tup (c.pr.map D.int),c.d]
def Q4.ok (c:Q4):Prop:=Fit c.B c.w/\c.pr.length=c.B.length/\Due c.B c.w c.pr c.d
abbrev BP:=List Wd×List Int
def bpD (c:BP):D:=.tup [zP c.1,.tup (c.2.map D.int)]
theorem zmD {B B':List Wd} {w:Wd} (hs:B'.Sublist B) (hf:Fit B w):Fit B' w:=⟨hf.nd.sublist hs,fun x hx=>hf.ne x (hs.subset hx),fun x hx=>hf.le x (hs.subset hx),le_trans hs.length_le hf.six,hf.tw⟩
theorem pure_law:∀ ns:List Int,ns.length<=63->w_18 [.sh (.lst (ns.map .int))] (fun s _=>s=.sh (.bl true)) fun _ _=>False:=by
 intro ns hl
 refine zaV rfl rfl ?_
 simp! [e_C]
 refine ⟨by simp only [zaj]; lia,?_⟩
 rw [from0 (n:=2) (by lia)]
 refine zaX (fun pre U=>∃ (A:List Q4) (o2 o3 o4 o5 o6 o7 o8 o9 o10:Option S),A.length=3 * pre.length/\(∀ c∈A,c.ok)/\U=[some (.sh (.lst (ns.map .int))),some (.lst ((A.map q4D).map .sh)),o2,o3,o4,o5,o6,o7,o8,o9,o10]) (List.range 2) (fun pre k post D2 U e hI hnx hct hrt hbk=>?_) (fun U hI=>?_) ⟨[],none,none,none,none,none,none,none,none,none,rfl,(fun _ h=>nomatch h),rfl⟩
 ·obtain ⟨A,o2,o3,o4,o5,o6,o7,o8,o9,o10,hA,hF,rfl⟩:=hI
  have hk:=za4 e
  simp! [u_18_b2]
  refine zj5 (by lia) fun a s ha hs hs2=>?_
  simp! [box]
  refine zg1 ha hs hs2 fun c a' s' hc ha' hs' hs2'=>?_
  obtain ⟨hB,hw,hpl⟩:=hc
  have hf:=hB.fit hw
  simp! [scD,box,length_cons,length_nil,zP,length_map,zar]
  have h6:=hf.six
  refine ⟨by rw [hpl]; simp only [zaj]; lia,?_⟩
  rw [zeb,zeb,<- List.map_reverse]
  have hcB:cutL c.B (some 1) none=c.B.drop 1:=zbW c.B (by decide)
  have hcp:cutL c.pr (some 1) none=c.pr.drop 1:=zbW c.pr (by decide)
  refine zaX (toD:=bpD) (fun pre2 U=>∃ (A2:List Q4) (o7 o8 o9 o10:Option S),A2.length=A.length + pre2.length/\(∀ c∈A2,c.ok)/\U=[some (.sh (.lst (ns.map .int))),some (.lst ((A2.map q4D).map .sh)),some (.sh (.int (k:Int))),some (.sh (.str c.col)),some (.sh (zP c.B)),some (.sh (.str c.w)),some (.sh (.tup (c.pr.map D.int))),o7,o8,o9,o10]) [(c.B,c.pr),(c.B,c.pr.reverse),(cutL c.B (some 1) none,cutL c.pr (some 1) none)] (fun pre2 x post2 D3 U e2 hI hnx2 hct2 hrt2 hbk2=>?_) (fun U hI=>?_) ⟨A,o7,o8,o9,o10,rfl,hF,rfl⟩
  ·obtain ⟨A2,o7,o8,o9,o10,hA2,hF2,rfl⟩:=hI
   have hx:x∈[(c.B,c.pr),(c.B,c.pr.reverse),(cutL c.B (some 1) none,cutL c.pr (some 1) none)]:=by rw [<- e2]; simp
   have hl2:pre2.length < 3:=by
    have:=congrArg List.length e2
    simp only [qt,qv,qy] at this
    lia
   have hxo:Fit x.1 c.w/\x.2.length=x.1.length:=by
    simp only [qD,not_mem_nil,or_false] at hx
    rcases hx with rfl | rfl | rfl
    ·exact ⟨hf,hpl⟩
    ·exact ⟨hf,by rw [List.length_reverse]; exact hpl⟩
    ·rw [hcB,hcp]
     exact ⟨zmD (List.drop_sublist _ _) hf,by rw [qJ,qJ,hpl]⟩
   simp! [u_18_b1,bpD,length_cons,length_nil]
   refine zeC hxo.1 hxo.2 fun d hd=>?_
   simp! [length_cons,length_nil,length_map]
   refine ⟨by simp only [zaj]; have:=za4 e; lia,?_⟩
   have:=hnx2 _ ⟨A2++[⟨x.1,c.w,x.2,d⟩],some (.sh (zP x.1)),some (.sh (.tup (x.2.map D.int))),o9,o10,by rw [qt,qt,hA2]; rfl,fun y hy=>?_,rfl⟩
   ·rw [map_append,map_append] at this
    exact this
   ·rcases qA.mp hy with hy | hy
    ·exact hF2 y hy
    ·rw [qw.mp hy]
     exact ⟨hxo.1,hxo.2,hd⟩
  ·obtain ⟨A2,o7,o8,o9,o10,hA2,hF2,rfl⟩:=hI
   exact hnx _ ⟨A2,_,_,_,_,_,o7,o8,o9,o10,by rw [hA2,hA,qt]; simp only [qv,qy]; lia,hF2,rfl⟩
 ·obtain ⟨A,o2,o3,o4,o5,o6,o7,o8,o9,o10,hA,hF,rfl⟩:=hI
  have hcl:=zbt (A.map q4D) none (some 1)
  rw [qq] at hcl
  have hA:A.length=6:=hA
  simp! [zar,length_map]
  rw [zeb,<- map_append]
  have hcl2:=zbt A none (some 1)
  refine zaX (toD:=q4D) (fun pre U=>∃ (o4 o5 o8 o9 o10:Option S),U=[some (.sh (.lst (ns.map .int))),some (.lst ((A.map q4D).map .sh)),o2,o3,o4,o5,o6,o7,o8,o9,o10]) (A++cutL A none (some 1)) (fun pre c post D2 U e hI hnx hct hrt hbk=>?_) (fun U hI=>?_) ⟨o4,o5,o8,o9,o10,rfl⟩
  ·obtain ⟨o4,o5,o8,o9,o10,rfl⟩:=hI
   have hok:c.ok:=by
    have hc:c∈A++cutL A none (some 1):=by rw [<- e]; simp
    rcases qA.mp hc with hc | hc
    ·exact hF c hc
    ·exact hF c (zbq hc)
   obtain ⟨hf,hpl,hd⟩:=hok
   simp! [u_18_b3,q4D,length_cons,length_nil]
   refine ze9 hf hpl fun d' hd'=>?_
   rw [zl3 hd' hd]
   rcases hd with ⟨hd,_⟩ | ⟨s,hd,hs,_⟩
   ·rw [hd]
    simp! [zeT,zl0]
    exact hnx _ ⟨_,_,_,_,_,rfl⟩
   ·rw [hd]
    unfold buyD
    simp! [zeG,zmi]
    have hak:ak 4 (D.tup [D.int (paid c.pr s),D.tup (s.map zU)])=true:=by
     have hsl:=hs.length_le
     rw [qG] at hsl
     have h6:=hf.six
     have h2:ak 3 (.tup (s.map zU))=true:=by
      show (decide ((s.map zU).length<=1000) && (s.map zU).all (ak 2))=true
      rw [qq,qU (by lia),all_map]
      exact qL.mpr fun x _=>rfl
     show (decide (2<=1000) && (ak 3 (.int _) && (ak 3 (.tup (s.map zU)) && true)))=true
     rw [h2]; rfl
    refine zg0 (n:=4) hak ?_
    simp! [e_C]
    exact hnx _ ⟨_,_,_,_,_,rfl⟩
  ·obtain ⟨o4,o5,o8,o9,o10,rfl⟩:=hI
   simp! [e_C]
end pu
end Law
section
set_option maxHeartbeats 4000000
namespace Law
open PySem PySem.Spec PyProof.Rows L2 FL
local macro_rules
 | `(tactic| trivial)=>`(tactic| first | exact Or.inl rfl | exact Or.inr rfl)
def top (i:Nat):Stmt:=PySem.Challenge.pw_walktold_k29_words_bought.main.body.getD i (.Pass ⟨0,0,0,0⟩)
abbrev s_0:Stmt:=top 1
def n_0:List Str:=["board","word"]
abbrev p_0:List Str:=["board","word"]
theorem sc_0:FnScope n_0 p_0 (defScope s_0):=msc
abbrev s_1:Stmt:=top 2
def n_1:List Str:=["land","ends","told","i","j"]
abbrev p_1:List Str:=["land","ends"]
theorem sc_1:FnScope n_1 p_1 (defScope s_1):=msc
abbrev s_2:Stmt:=top 3
def n_2:List Str:=["land","i","j","low","high"]
abbrev p_2:List Str:=["land","i","j"]
theorem sc_2:FnScope n_2 p_2 (defScope s_2):=msc
abbrev s_3:Stmt:=top 5
def n_3:List Str:=["board","word","prices","best","number","price","ends","land","paid","many","numbers","further","cost"]
abbrev p_3:List Str:=["board","word","prices"]
theorem sc_3:FnScope n_3 p_3 (defScope s_3):=msc
abbrev s_4:Stmt:=top 7
def n_4:List Str:=["board","word","prices","told"]
abbrev p_4:List Str:=["board","word","prices"]
theorem sc_4:FnScope n_4 p_4 (defScope s_4):=msc
abbrev s_5:Stmt:=top 9
def n_5:List Str:=["_law_script","_law_k","_law_cell","_law_seed"]
abbrev p_5:List Str:=["_law_script","_law_k"]
theorem sc_5:FnScope n_5 p_5 (defScope s_5):=msc
abbrev s_6:Stmt:=top 10
def n_6:List Str:=["_law_box_here","_law_many","_law_digit","_law_one"]
abbrev p_6:List Str:=["_law_box_here","_law_many"]
theorem sc_6:FnScope n_6 p_6 (defScope s_6):=msc
abbrev s_7:Stmt:=top 11
def n_7:List Str:=["_law_box_here","_law_many","_law_left"]
abbrev p_7:List Str:=["_law_box_here","_law_many"]
theorem sc_7:FnScope n_7 p_7 (defScope s_7):=msc
abbrev s_8:Stmt:=top 12
def n_8:List Str:=["_law_box_here","_law_colours_here","_law_most","_law_many"]
abbrev p_8:List Str:=["_law_box_here","_law_colours_here","_law_most"]
theorem sc_8:FnScope n_8 p_8 (defScope s_8):=msc
abbrev s_9:Stmt:=top 13
def n_9:List Str:=["_law_box_here","_law_colours_here","_law_board_here","_law_one","_law_kind","_law_colour","_law_at"]
abbrev p_9:List Str:=["_law_box_here","_law_colours_here","_law_board_here"]
theorem sc_9:FnScope n_9 p_9 (defScope s_9):=msc
abbrev s_10:Stmt:=top 14
def n_10:List Str:=["_law_box_here","_law_colours_here","_law_many","_law_most","_law_found","_law_k","_law_word_here"]
abbrev p_10:List Str:=["_law_box_here","_law_colours_here","_law_many","_law_most"]
theorem sc_10:FnScope n_10 p_10 (defScope s_10):=msc
abbrev s_11:Stmt:=top 15
def n_11:List Str:=["_law_board_here","_law_text","_law_p","_law_most","_law_found","_law_one"]
abbrev p_11:List Str:=["_law_board_here","_law_text","_law_p","_law_most"]
theorem sc_11:FnScope n_11 p_11 (defScope s_11):=msc
abbrev s_12:Stmt:=top 16
def n_12:List Str:=["_law_box_here","_law_board_here","_law_colours_here","_law_most","_law_text","_law_p","_law_turn","_law_some","_law_one","_law_goal","_law_at"]
abbrev p_12:List Str:=["_law_box_here","_law_board_here","_law_colours_here","_law_most"]
theorem sc_12:FnScope n_12 p_12 (defScope s_12):=msc
abbrev s_13:Stmt:=top 17
def n_13:List Str:=["_law_board_here","_law_word_here","_law_found","_law_i","_law_j"]
abbrev p_13:List Str:=["_law_board_here","_law_word_here"]
theorem sc_13:FnScope n_13 p_13 (defScope s_13):=msc
abbrev s_14:Stmt:=top 18
def n_14:List Str:=["_law_box_here","_law_top","_law_colours_here","_law_board_here","_law_word_here","_law_most"]
abbrev p_14:List Str:=["_law_box_here","_law_top"]
theorem sc_14:FnScope n_14 p_14 (defScope s_14):=msc
abbrev s_15:Stmt:=top 19
def n_15:List Str:=["_law_ties_here","_law_found","_law_ahead","_law_p","_law_some"]
abbrev p_15:List Str:=["_law_ties_here"]
theorem sc_15:FnScope n_15 p_15 (defScope s_15):=msc
abbrev s_16:Stmt:=top 20
def n_16:List Str:=["_law_found","_law_due"]
abbrev p_16:List Str:=["_law_found","_law_due"]
theorem sc_16:FnScope n_16 p_16 (defScope s_16):=msc
abbrev s_17:Stmt:=top 21
def n_17:List Str:=["_law_board_here","_law_word_here","_law_prices","_law_best","_law_bits","_law_some","_law_ahead"]
abbrev p_17:List Str:=["_law_board_here","_law_word_here","_law_prices"]
theorem sc_17:FnScope n_17 p_17 (defScope s_17):=msc
abbrev s_18:Stmt:=top 22
def n_18:List Str:=["_law_script","_law_asked","_law_k","_law_colours_here","_law_board_here","_law_word_here","_law_prices","_law_one","_law_some","_law_due","_law_found"]
abbrev p_18:List Str:=["_law_script"]
theorem sc_18:FnScope n_18 p_18 (defScope s_18):=msc
structure Txt (K:W.Frag) (mg:Str->Option Value) (af:Nat->Addr):Prop where
 t_0:Tx K mg (af 0) "stretches" s_0 p_0
 t_1:Tx K mg (af 1) "all_joined" s_1 p_1
 t_2:Tx K mg (af 2) "land_joined" s_2 p_2
 t_3:Tx K mg (af 3) "cheapest_words" s_3 p_3
 t_4:Tx K mg (af 4) "bought" s_4 p_4
 t_5:Tx K mg (af 5) "_law_box" s_5 p_5
 t_6:Tx K mg (af 6) "_law_take" s_6 p_6
 t_7:Tx K mg (af 7) "_law_colours" s_7 p_7
 t_8:Tx K mg (af 8) "_law_word" s_8 p_8
 t_9:Tx K mg (af 9) "_law_near" s_9 p_9
 t_10:Tx K mg (af 10) "_law_board" s_10 p_10
 t_11:Tx K mg (af 11) "_law_moves" s_11 p_11
 t_12:Tx K mg (af 12) "_law_led" s_12 p_12
 t_13:Tx K mg (af 13) "_law_ties" s_13 p_13
 t_14:Tx K mg (af 14) "_law_any_scene" s_14 p_14
 t_15:Tx K mg (af 15) "_law_lands" s_15 p_15
 t_16:Tx K mg (af 16) "_law_alike" s_16 p_16
 t_17:Tx K mg (af 17) "_law_bought" s_17 p_17
 t_18:Tx K mg (af 18) "law" s_18 p_18
 n_all:mg "all"=none
 n_bool:mg "bool"=none
 n_enumerate:mg "enumerate"=none
 n_int:mg "int"=none
 n_isinstance:mg "isinstance"=none
 n_len:mg "len"=none
 n_list:mg "list"=none
 n_max:mg "max"=none
 n_min:mg "min"=none
 n_range:mg "range"=none
 n_reversed:mg "reversed"=none
 n_sorted:mg "sorted"=none
 n_str:mg "str"=none
 n_sum:mg "sum"=none
 n_tuple:mg "tuple"=none
 n_zip:mg "zip"=none
section
variable {P:Program} {w:World} {K:W.Frag} {mg:Str->Option Value} {base:Heap} {af:Nat->Addr}
theorem ok_0 (T:Txt K mg af):FnK P w K mg base af 1 0 p_0 (spW K w_0 2):=fn2 T.t_0 sc_0 fun _ _ _ _ _ _ hr=>zaf (zat (zdS (by rfl) T.n_sorted zcG (zaa (zn6 (vars:=["i","k","one"]) rfl (ziX hr) (by rfl) (compSc (by kernel_rfl)) rfl (zax (by rfl) T.n_range (zap (by rfl) T.n_len (zaa (fw 1) zab))) (fun _ _ _=>gcm 3) (fun _ _ _=>zaL) (fun _ _ _=>zfH (by rfl) (by rfl) T.n_enumerate zbm (fw 0)) (fun _ _ _=>zaM (by rfl) (zah (gcm 4) (zah (gcm 5) zaz))) (fun _ _ _=>zcB rfl (zan (fun _ _=>za3 (u31 hr)) zaG (zfN (fw 1) (fw 3) (zao (fw 3) (zap (by rfl) T.n_len (zaa (fw 5) zab)))) (fw 5) (nomark _))) (fun _ _ _=>zaD (zaa (fw 3) (zaa (zao (fw 3) (zap (by rfl) T.n_len (zaa (fw 5) zab))) (zaa (fw 4) zab))))) zab)))
theorem ok_2 (T:Txt K mg af):FnK P w K mg base af 1 2 p_2 (spW K w_2 3):=fn2 T.t_2 sc_2 fun _ _ _ _ _ _ hr=>zac (zak (zaD (zaa (zna (by rfl) (by rfl) T.n_min zhi (zaa (zaA (fw 0) (fw 1)) (zaa (zaA (fw 0) (fw 2)) zab))) (zaa (znL (by rfl) (by rfl) T.n_max zoV (zaa (zaA (fw 0) (fw 1)) (zaa (zaA (fw 0) (fw 2)) zab))) zab))) (zaM (by rfl) (zah (gnm 3 sc_2.nd) (zah (gnm 4 sc_2.nd) zaz))))
  (zaf (zat (zbn (vars:=["one"]) rfl (by rfl) (compSc (by kernel_rfl)) rfl (za2 (fw 0)) (fun _ _ _=>gcm 6) (fun _ _ _=>zaL) (fun _ _ _=>zgt (zan (fun _ _=>za3 (u31 hr)) zaG (fw 6) (fw 4) (nomark _)) (fw 3) (fw 6)))))
theorem ok_5 (T:Txt K mg af):FnK P w K mg base af 1 5 p_5 (spW K w_5 2):=fn2 T.t_5 sc_5 fun _ _ _ _ _ _ hr=>zac (zak (zao (za8 zae (fw 1)) zae) (gnm 2 sc_5.nd))
  (zac (zaT (zan (fun _ _=>znF) zly (fw 1) (zap (by rfl) T.n_len (zaa (fw 0) zab)) (nomark _)) (zaf (zak (zaA (fw 0) (fw 1)) (gnm 2 sc_5.nd))) (zaf (zaT (zan (fun _ _=>zeq) zcX (zap (by rfl) T.n_len (zaa (fw 0) zab)) zae (nomark _)) (zaf (zak (zao (fw 2) (za8 (zcl (zaA (fw 0) (zcl (fw 1) (zap (by rfl) T.n_len (zaa (fw 0) zab)))) zae) zae)) (gnm 2 sc_5.nd))) zaq)))
  (zac (zak (zao (zcl (zao (za8 (zcl (fw 2) zae) zae) (za8 zae (fw 1))) zae) zae) (gnm 3 sc_5.nd))
  (zaf (zat (zaW (zaa (zaA (zaW (zaa zae (zaa (fw 2) zab))) (zfr (by rfl) T.n_int zf9 (zaa (zeE (fun _ _=>zkU) zig (fw 2) (zoB zae zae) (nomark _)) zab))) (zaa (fw 3) zab)))))))
theorem ok_6 (T:Txt K mg af):FnK P w K mg base af 1 6 p_6 (spW K w_6 2):=fn2 T.t_6 sc_6 fun _ _ _ _ _ _ hr=>zac (zaT (zan (fun _ _=>zeq) zcX (zaA (fw 0) zae) zae (nomark _)) (zac (zak (zcl (zaA (fw 0) zae) (fw 1)) (gnm 2 sc_6.nd))
  (zac (zdH (j:=0) (fw 0) zae (zjm (zaA (fw 0) zae) (fw 1)))
  (zaf (zat (fw 2))))) zaq)
  (zac (zak (zcl (za8 (zaA (fw 0) zae) zae) zae) (gnm 3 sc_6.nd))
  (zac (zdH (j:=0) (fw 0) zae (zao (zcl (zao (za8 (fw 3) zae) zae) zae) zae))
  (zaf (zat (zcl (zjm (zao (za8 (fw 3) zae) (zaA (fw 0) zae)) zae) (fw 1))))))
theorem ok_11 (T:Txt K mg af):FnK P w K mg base af 1 11 p_11 (spW K w_11 4):=fn2 T.t_11 sc_11 fun _ _ _ _ _ _ hr=>zac (zak (zaW zab) (gnm 4 sc_11.nd))
  (zac (za5 (by rfl) (za2 (fw 0)) (gnm 5 sc_11.nd) (zac (zaT (zdi (zdm (zan (fun _ _=>za3 (u31 hr)) zaG (zfN (fw 1) (fw 2) (zao (fw 2) (zap (by rfl) T.n_len (zaa (fw 5) zab)))) (zdp (fw 5) (zf1 (zap (by rfl) T.n_len (zaa (fw 1) zab)) (fw 2))) (nomark _)) (zb8 (zan (fun _ _=>zm7) zlR (zao (fw 2) (zap (by rfl) T.n_len (zaa (fw 5) zab))) (fw 3) (nomark _))))) (zaf (zcf (zbY (j:=4) (fw 4) (zaD (zaa (fw 5) (zaa (zao (fw 2) (zap (by rfl) T.n_len (zaa (fw 5) zab))) zab)))))) zaq)
  (zaf (zaT (zdi (zdm (zan (fun _ _=>zkU) zig (fw 2) (zap (by rfl) T.n_len (zaa (fw 5) zab)) (nomark _)) (zb8 (zan (fun _ _=>za3 (u31 hr)) zaG (zfN (fw 1) (zf1 (fw 2) (zap (by rfl) T.n_len (zaa (fw 5) zab))) (fw 2)) (fw 5) (nomark _))))) (zaf (zcf (zbY (j:=4) (fw 4) (zaD (zaa (fw 5) (zaa (zf1 (fw 2) (zap (by rfl) T.n_len (zaa (fw 5) zab))) zab)))))) zaq))))
  (zaf (zat (fw 4))))
theorem ok_13 (T:Txt K mg af):FnK P w K mg base af 1 13 p_13 (spW K w_13 2):=fn2 T.t_13 sc_13 fun _ _ _ _ _ _ hr=>zac (zcU (i:=2) (by decide) (fun j hj=>zcr sc_13.nd hj rfl) rfl (by rfl) (by rfl) (vars:=["_law_p"]) rfl (by rfl) (compSc (by kernel_rfl)) rfl (zax (by rfl) T.n_range (zao (zap (by rfl) T.n_len (zaa (fw 1) zab)) zae)) (fun _ _ _=>gcm 6) (fun _ _ _=>zaL) (fun _ _ _=>zaW zab))
  (zac (za5 (by rfl) (zax (by rfl) T.n_range (zap (by rfl) T.n_len (zaa (fw 1) zab))) (gnm 3 sc_13.nd) (zaf (za5 (by rfl) (zib (by rfl) T.n_range (zao (fw 3) zae) (zao (zap (by rfl) T.n_len (zaa (fw 1) zab)) zae)) (gnm 4 sc_13.nd) (zaf (zaT (zan (fun _ _=>znR (u32 hr)) zkn (zfN (fw 1) (fw 3) (fw 4)) (fw 0) (by with_unfolding_all rfl)) (zac (zcf (zc7 (j:=2) (fw 2) (fw 3) (fw 4)))
  (zaf (zcf (zc7 (j:=2) (fw 2) (fw 4) (fw 3))))) zaq)))))
  (zaf (zat (zbn (vars:=["_law_some"]) rfl (by rfl) (compSc (by kernel_rfl)) rfl (za2 (fw 2)) (fun _ _ _=>gcm 6) (fun _ _ _=>zaL) (fun _ _ _=>zaK (zdS (by rfl) T.n_sorted zcG (zaa (fw 6) zab)))))))
theorem ok_15 (T:Txt K mg af):FnK P w K mg base af 1 15 p_15 (spW K w_15 1):=fn2 T.t_15 sc_15 fun _ _ _ _ _ _ hr=>zac (zak (zjh (by rfl) (by rfl) T.n_list zcM (by rfl) T.n_range (zap (by rfl) T.n_len (zaa (fw 0) zab))) (gnm 1 sc_15.nd))
  (zac (zak (zaK (zaW zab)) (gnm 2 sc_15.nd))
  (zac (zjI (zan (fun _ _=>zc5 (u32 hr)) zbE (fw 2) (fw 1) (nomark _)) (zac (zak (zaK (zdL (by rfl) (by rfl) T.n_list zcM (zaa (fw 1) zab))) (gnm 2 sc_15.nd))
  (zaf (za5 (by rfl) (zfH (by rfl) (by rfl) T.n_enumerate zbm (fw 0)) (zaM (by rfl) (zah (gnm 3 sc_15.nd) (zah (gnm 4 sc_15.nd) zaz))) (zaf (zdH (j:=1) (fw 1) (fw 3) (zmb (by rfl) (by rfl) T.n_min zhi (zaa (zao (zaW (zaa (zaA (fw 1) (fw 3)) zab)) (zbn (vars:=["_law_q"]) rfl (by rfl) (compSc (by kernel_rfl)) rfl (za2 (fw 4)) (fun _ _ _=>gcm 6) (fun _ _ _=>zaL) (fun _ _ _=>zaA (fw 1) (fw 6)))) zab))))))))
  (zaf (zat (fw 1)))))
theorem ok_1 (T:Txt K mg af):FnK P w K mg base af 2 1 p_1 (spW K w_1 2):=fn2 T.t_1 sc_1 fun _ _ _ _ _ _ hr=>zac (zak (zaK (zdL (by rfl) (by rfl) T.n_list zcM (zaa (fw 0) zab))) (gnm 2 sc_1.nd))
  (zac (za5 (by rfl) (za2 (fw 1)) (zaM (by rfl) (zah (gnm 3 sc_1.nd) (zah (gnm 4 sc_1.nd) zaz))) (zaf (zak (zaK (fcl [true,true,true] T.t_2 (ok_2 T) hr (zaa (fw 2) (zaa (fw 3) (zaa (fw 4) zab))))) (gnm 2 sc_1.nd))))
  (zaf (zat (zb1 (by rfl) T.n_tuple zaR (zaa (fw 2) zab)))))
theorem ok_7 (T:Txt K mg af):FnK P w K mg base af 2 7 p_7 (spW K w_7 2):=fn2 T.t_7 sc_7 fun _ _ _ _ _ _ hr=>zac (zak (zdL (by rfl) (by rfl) T.n_list zcM (zaa (zcD (by rfl) (by decide)) zab)) (gnm 2 sc_7.nd))
  (zaf (zat (zic (zcD (by rfl) (by decide)) (zaa (zdS (by rfl) T.n_sorted zcG (zaa (zbn (vars:=["_law_k"]) rfl (by rfl) (compSc (by kernel_rfl)) rfl (zax (by rfl) T.n_range (fw 1)) (fun _ _ _=>gcm 4) (fun _ _ _=>zaL) (fun _ _ _=>zaK (zkh (j:=2) (fw 2) (fcl [true,true] T.t_6 (ok_6 T) hr (zaa (fw 0) (zaa (zap (by rfl) T.n_len (zaa (fw 2) zab)) zab)))))) zab)) zab))))
theorem ok_8 (T:Txt K mg af):FnK P w K mg base af 2 8 p_8 (spW K w_8 3):=fn2 T.t_8 sc_8 fun _ _ _ _ _ _ hr=>zac (zak (za8 (fcl [true,true] T.t_6 (ok_6 T) hr (zaa (fw 0) (zaa (zao (fw 2) zae) zab))) (zfr (by rfl) T.n_int zf9 (zaa (zeE (fun _ _=>zc5 (u32 hr)) zbE (fw 1) (zcD (by rfl) (by decide)) (nomark _)) zab))) (gnm 3 sc_8.nd))
  (zaf (zat (zic (zcD (by rfl) (by decide)) (zaa (zbn (vars:=["_law_k"]) rfl (by rfl) (compSc (by kernel_rfl)) rfl (zax (by rfl) T.n_range (fw 3)) (fun _ _ _=>gcm 5) (fun _ _ _=>zaL) (fun _ _ _=>zaA (fw 1) (fcl [true,true] T.t_6 (ok_6 T) hr (zaa (fw 0) (zaa (zap (by rfl) T.n_len (zaa (fw 1) zab)) zab))))) zab))))
theorem ok_9 (T:Txt K mg af):FnK P w K mg base af 2 9 p_9 (spW K w_9 3):=fn2 T.t_9 sc_9 fun _ _ _ _ _ _ hr=>zac (zak (zaA (fw 2) (fcl [true,true] T.t_6 (ok_6 T) hr (zaa (fw 0) (zaa (zap (by rfl) T.n_len (zaa (fw 2) zab)) zab)))) (gnm 3 sc_9.nd))
  (zac (zak (fcl [true,true] T.t_6 (ok_6 T) hr (zaa (fw 0) (zaa zae zab))) (gnm 4 sc_9.nd))
  (zac (zak (zaA (fw 1) (fcl [true,true] T.t_6 (ok_6 T) hr (zaa (fw 0) (zaa (zap (by rfl) T.n_len (zaa (fw 1) zab)) zab)))) (gnm 5 sc_9.nd))
  (zac (zak (fcl [true,true] T.t_6 (ok_6 T) hr (zaa (fw 0) (zaa (zap (by rfl) T.n_len (zaa (fw 3) zab)) zab))) (gnm 6 sc_9.nd))
  (zaf (zat (zaA (zaW (zaa (zdp (fw 3) (zao (fw 6) zae)) (zaa (zeI (fw 3) (fw 6)) (zaa (zao (fw 5) (fw 3)) (zaa (zao (fw 3) (fw 5)) (zaa (zao (fw 3) (fw 3)) zab)))))) (fw 4)))))))
theorem ok_12 (T:Txt K mg af):FnK P w K mg base af 2 12 p_12 (spW K w_12 4):=fn2 T.t_12 sc_12 fun _ _ _ _ _ _ hr=>zac (zak (zaD (zaa (zcD (by rfl) (by decide)) (zaa zae zab))) (zaM (by rfl) (zah (gnm 4 sc_12.nd) (zah (gnm 5 sc_12.nd) zaz))))
  (zac (za5 (by rfl) (zax (by rfl) T.n_range (zao zae (fcl [true,true] T.t_6 (ok_6 T) hr (zaa (fw 0) (zaa zae zab))))) (gnm 6 sc_12.nd) (zac (zak (zaK (fcl [true,true,true,true] T.t_11 (ok_11 T) hr (zaa (fw 1) (zaa (fw 4) (zaa (fw 5) (zaa (fw 3) zab)))))) (gnm 7 sc_12.nd))
  (zac (zaT (zan (fun _ _=>zeq) zcX (fw 6) zae (nomark _)) (zaf (zni (zcU (i:=7) (by decide) (fun j hj=>zcr sc_12.nd hj rfl) rfl (by rfl) (by rfl) (vars:=["_law_move"]) rfl (by rfl) (compSc (by kernel_rfl)) rfl (za2 (fw 7)) (fun _ _ _=>gcm 12) (fun _ _ _=>zcB rfl (zan (fun _ _=>zeq) zcX (zaA (fw 12) zae) (fw 5) (nomark _))) (fun _ _ _=>fw 12)))) zaq)
  (zaf (zaT (zan (fun _ _=>zc5 (u32 hr)) zbE (fw 7) (zaW zab) (nomark _)) (zac (zak (zaA (fw 7) (fcl [true,true] T.t_6 (ok_6 T) hr (zaa (fw 0) (zaa (zap (by rfl) T.n_len (zaa (fw 7) zab)) zab)))) (zaM (by rfl) (zah (gnm 8 sc_12.nd) (zah (gnm 9 sc_12.nd) zaz))))
  (zac (zaT (zan (fun _ _=>zeq) zcX (fw 9) (fw 5) (nomark _)) (zaf (zak (zao (zao (zdp (fw 4) (fw 5)) (fw 8)) (zeI (fw 4) (fw 9))) (gnm 4 sc_12.nd))) zaq)
  (zaf (zak (fw 9) (gnm 5 sc_12.nd))))) zaq)))))
  (zac (zaT (zdi (zdm (zan (fun _ _=>zc5 (u32 hr)) zbE (fw 4) (zcD (by rfl) (by decide)) (nomark _)) (zb8 (zan (fun _ _=>za3 (u31 hr)) zaG (fcl [true,true] T.t_6 (ok_6 T) hr (zaa (fw 0) (zaa zae zab))) zae (nomark _))))) (zac (zak (fcl [true,true] T.t_6 (ok_6 T) hr (zaa (fw 0) (zaa (zap (by rfl) T.n_len (zaa (fw 4) zab)) zab))) (gnm 10 sc_12.nd))
  (zaf (zak (zao (zao (zdp (fw 4) (fw 10)) (zaA (fw 2) (fcl [true,true] T.t_6 (ok_6 T) hr (zaa (fw 0) (zaa (zap (by rfl) T.n_len (zaa (fw 2) zab)) zab))))) (zeI (fw 4) (zao (fw 10) zae))) (gnm 4 sc_12.nd)))) zaq)
  (zaf (zat (fw 4)))))
theorem ok_17 (T:Txt K mg af):FnK P w K mg base af 2 17 p_17 (spW K w_17 3):=fn2 T.t_17 sc_17 fun _ _ _ _ _ _ hr=>zac (zak zbx (gnm 3 sc_17.nd))
  (zac (za5 (by rfl) (zax (by rfl) T.n_range (zm0 zae (zap (by rfl) T.n_len (zaa (fw 0) zab)))) (gnm 4 sc_17.nd) (zac (zak (zb1 (by rfl) T.n_tuple zaR (zaa (zbn (vars:=["_law_k"]) rfl (by rfl) (compSc (by kernel_rfl)) rfl (zax (by rfl) T.n_range (zap (by rfl) T.n_len (zaa (fw 0) zab))) (fun _ _ _=>gcm 8) (fun _ _ _=>zcB rfl (zan (fun _ _=>za3 (u31 hr)) zaG (zlk (zoO (fw 4) (fw 8)) zae) zae (nomark _))) (fun _ _ _=>fw 8)) zab)) (gnm 5 sc_17.nd))
  (zac (zak (zaD (zaa (zo1 (by rfl) (by rfl) T.n_sum zph (zaa (zbn (vars:=["_law_k"]) rfl (by rfl) (compSc (by kernel_rfl)) rfl (za2 (fw 5)) (fun _ _ _=>gcm 8) (fun _ _ _=>zaL) (fun _ _ _=>zaA (fw 2) (fw 8))) zab)) (zaa (zap (by rfl) T.n_len (zaa (fw 5) zab)) (zaa (fw 5) zab)))) (gnm 6 sc_17.nd))
  (zaf (zaT (zdi (zjK (zan (fun _ _=>zfW) zd8 (fw 3) zbx (nomark _)) (zgh (zan (fun _ _=>zk3 (u31 hr)) zfV (fw 6) (fw 3) (nomark _))))) (zaf (zaT (zan (fun _ _=>za3 (u31 hr)) zaG (zaA (fcl [true] T.t_15 (ok_15 T) hr (zaa (zaK (fcl [true,true] T.t_13 (ok_13 T) hr (zaa (zaK (zbn (vars:=["_law_k"]) rfl (by rfl) (compSc (by kernel_rfl)) rfl (za2 (fw 5)) (fun _ _ _=>gcm 8) (fun _ _ _=>zaL) (fun _ _ _=>zaA (fw 0) (fw 8)))) (zaa (fw 1) zab)))) zab)) (zap (by rfl) T.n_len (zaa (fw 1) zab))) zae (nomark _)) (zaf (zak (fw 6) (gnm 3 sc_17.nd))) zaq)) zaq)))))
  (zac (zaT (zan (fun _ _=>zfW) zd8 (fw 3) zbx (nomark _)) (zaf (zat zbx)) zaq)
  (zaf (zat (zaD (zaa (zaA (fw 3) zae) (zaa (zaA (fw 3) zae) zab)))))))
theorem ok_3 (T:Txt K mg af):FnK P w K mg base af 3 3 p_3 (spW K w_3 3):=fn2 T.t_3 sc_3 fun _ _ _ _ _ _ hr=>zac (zak (zju (zm1 hr) (zko (by rfl) (by rfl) T.n_tuple zaR (by rfl) T.n_range (zao (zap (by rfl) T.n_len (zaa (fw 1) zab)) zae)) (zaD (zaa zae (zaa zae (zaa (zaD zab) zab))))) (gnm 3 sc_3.nd))
  (zac (za5 (by rfl) (zfH (by rfl) (by rfl) T.n_enumerate zbm (fw 2)) (zaM (by rfl) (zah (gnm 4 sc_3.nd) (zah (gnm 5 sc_3.nd) zaz))) (zac (zni (zcU (i:=6) (by decide) (fun j hj=>zcr sc_3.nd hj rfl) rfl (by rfl) (by rfl) (vars:=["i","j","k"]) rfl (by rfl) (compSc (by kernel_rfl)) rfl (za2 (fcl [true,true] T.t_0 (ok_0 T) hr (zaa (fw 0) (zaa (fw 1) zab)))) (fun _ _ _=>zaM (by rfl) (zah (gcm 14) (zah (gcm 15) (zah (gcm 16) zaz)))) (fun _ _ _=>zcB rfl (zan (fun _ _=>za3 (u31 hr)) zaG (fw 16) (fw 4) (nomark _))) (fun _ _ _=>zaD (zaa (fw 14) (zaa (fw 15) zab)))))
  (zaf (za5 (by rfl) (za2 (zhU (j:=3) (fw 3) (by rfl) (by rfl) T.n_list)) (zaM (by rfl) (zah (gnm 7 sc_3.nd) (zah (zaM (by rfl) (zah (gnm 8 sc_3.nd) (zah (gnm 9 sc_3.nd) (zah (gnm 10 sc_3.nd) zaz)))) zaz))) (zac (zak (zaK (fcl [true,true] T.t_1 (ok_1 T) hr (zaa (fw 7) (zaa (fw 6) zab)))) (gnm 11 sc_3.nd))
  (zac (zak (zaD (zaa (zao (fw 8) (fw 5)) (zaa (zao (fw 9) zae) (zaa (zao (fw 10) (zaD (zaa (fw 4) zab))) zab)))) (gnm 12 sc_3.nd))
  (zaf (zaT (zdi (zjK (zan (fun _ _=>zen (u32 hr)) zc8 (fw 11) (fw 3) (by with_unfolding_all rfl)) (zgh (zan (fun _ _=>zk3 (u31 hr)) zfV (fw 12) (znP (zmp hr) (fw 3) (fw 11)) (nomark _))))) (zaf (zl1 (j:=3) (zmp hr) (fw 3) (fw 11) (fw 12))) zaq))))))))
  (zaf (zat (zlT hr (by rfl) T.n_min (zbn (vars:=["land","cost"]) rfl (by rfl) (compSc (by kernel_rfl)) rfl (zja (j:=3) (fw 3)) (fun _ _ _=>zaM (by rfl) (zah (gcm 14) (zah (gcm 15) zaz))) (fun _ _ _=>zcB rfl (zan (fun _ _=>za3 (u31 hr)) zaG (zaA (fw 14) (zor zae)) zae (nomark _))) (fun _ _ _=>fw 15)) zbx))))
theorem ok_10 (T:Txt K mg af):FnK P w K mg base af 3 10 p_10 (spW K w_10 4):=fn2 T.t_10 sc_10 fun _ _ _ _ _ _ hr=>zac (zak (zaW zab) (gnm 4 sc_10.nd))
  (zac (za5 (by rfl) (zax (by rfl) T.n_range (za8 (fcl [true,true] T.t_6 (ok_6 T) hr (zaa (fw 0) (zaa (zao (fw 2) zae) zab))) (zfr (by rfl) T.n_int zf9 (zaa (zeE (fun _ _=>zc5 (u32 hr)) zbE (fw 1) (zcD (by rfl) (by decide)) (nomark _)) zab)))) (gnm 5 sc_10.nd) (zac (zak (zao (zaA (fw 1) (fcl [true,true] T.t_6 (ok_6 T) hr (zaa (fw 0) (zaa (zap (by rfl) T.n_len (zaa (fw 1) zab)) zab)))) (fcl [true,true,true] T.t_8 (ok_8 T) hr (zaa (fw 0) (zaa (fw 1) (zaa (zf1 (fw 3) zae) zab))))) (gnm 6 sc_10.nd))
  (zac (zaT (zdi (zdm (zan (fun _ _=>zc5 (u32 hr)) zbE (fw 4) (zaW zab) (nomark _)) (zb8 (zan (fun _ _=>za3 (u31 hr)) zaG (fcl [true,true] T.t_6 (ok_6 T) hr (zaa (fw 0) (zaa zae zab))) zae (nomark _))))) (zaf (zak (zdp (fcl [true,true,true] T.t_9 (ok_9 T) hr (zaa (fw 0) (zaa (fw 1) (zaa (fw 4) zab)))) (fw 3)) (gnm 6 sc_10.nd))) zaq)
  (zaf (zaT (zan (fun _ _=>zen (u32 hr)) zc8 (fw 6) (fw 4) (by with_unfolding_all rfl)) (zaf (zcf (zbY (j:=4) (fw 4) (fw 6)))) zaq)))))
  (zaf (zat (zb1 (by rfl) T.n_tuple zaR (zaa (fw 4) zab)))))
theorem ok_4 (T:Txt K mg af):FnK P w K mg base af 4 4 p_4 (spW K w_4 3):=fn2 T.t_4 sc_4 fun _ _ _ _ _ _ hr=>zac (zak (zaK (fcl [true,true,true] T.t_3 (ok_3 T) hr (zaa (fw 0) (zaa (fw 1) (zaa (fw 2) zab))))) (gnm 3 sc_4.nd))
  (zaf (zat (zgt (zan (fun _ _=>zfW) zd8 (fw 3) zbx (nomark _)) zbx (zaD (zaa (zaA (fw 3) zae) (zaa (zaA (fw 3) zae) zab))))))
theorem ok_14 (T:Txt K mg af):FnK P w K mg base af 4 14 p_14 (spW K w_14 2):=fn2 T.t_14 sc_14 fun _ _ _ _ _ _ hr=>zac (zak (fcl [true,true] T.t_7 (ok_7 T) hr (zaa (fw 0) (zaa (zao zae (fcl [true,true] T.t_6 (ok_6 T) hr (zaa (fw 0) (zaa zae zab)))) zab))) (gnm 2 sc_14.nd))
  (zac (zak (zaK (fcl [true,true,true,true] T.t_10 (ok_10 T) hr (zaa (fw 0) (zaa (fw 2) (zaa zae (zaa zae zab)))))) (gnm 3 sc_14.nd))
  (zac (zak (zaK (fcl [true,true,true,true] T.t_12 (ok_12 T) hr (zaa (fw 0) (zaa (fw 3) (zaa (fw 2) (zaa zae zab)))))) (gnm 4 sc_14.nd))
  (zac (zaT (zan (fun _ _=>za3 (u31 hr)) zaG (fcl [true,true] T.t_6 (ok_6 T) hr (zaa (fw 0) (zaa zae zab))) zae (nomark _)) (zaf (zak (fcl [true,true,true] T.t_8 (ok_8 T) hr (zaa (fw 0) (zaa (fw 2) (zaa zae zab)))) (gnm 4 sc_14.nd))) zaq)
  (zac (zak (zaA (zaW (zaa zae (zaa zae (zaa (fw 1) zab)))) (fcl [true,true] T.t_6 (ok_6 T) hr (zaa (fw 0) (zaa zae zab)))) (gnm 5 sc_14.nd))
  (zaf (zat (zaD (zaa (fw 2) (zaa (fw 3) (zaa (fw 4) (zaa (zb1 (by rfl) T.n_tuple zaR (zaa (zbn (vars:=["_law_one"]) rfl (by rfl) (compSc (by kernel_rfl)) rfl (za2 (fw 3)) (fun _ _ _=>gcm 7) (fun _ _ _=>zaL) (fun _ _ _=>fcl [true,true] T.t_6 (ok_6 T) hr (zaa (fw 0) (zaa (fw 5) zab)))) zab)) zab)))))))))))
theorem ok_16 (T:Txt K mg af):FnOk P w K mg base (CXe P w) 4 (af 16) (dO K (af 16)) p_16 (spW K w_16 2):=by
 refine zkP (k:=0) (n:=2) (step:=zaU) rfl (fun r j hl hF=>?_) (fun _ _ _ _ h=>h.1) 4
 refine fn_w (k:=0 + j) T.t_16.F sc_16 rfl rfl fun cdv A outer s H E hr=>?_
 exact zac (zaT (zfO (zdA (by rfl) T.n_isinstance zaw (by rfl) T.n_tuple zaR (by decide) (fw 1))) (zac (zaT (zdi (zjK (zk2 (zfO (zdA (by rfl) T.n_isinstance zaw (by rfl) T.n_tuple zaR (by decide) (fw 0)))) (zgh (zan (fun _ _=>zc5 (u32 hr)) zbE (zap (by rfl) T.n_len (zaa (fw 0) zab)) (zap (by rfl) T.n_len (zaa (fw 1) zab)) (nomark _))))) (zaf (zat zmh)) zaq)
  (zaf (zat (znW (by rfl) (by rfl) T.n_all zov (zaa (zbn (vars:=["_law_one","_law_other"]) rfl (by rfl) (compSc (by kernel_rfl)) rfl (zn8 (by rfl) (by rfl) T.n_zip zoK (fw 0) (fw 1)) (fun _ _ _=>zaM (by rfl) (zah (gcm 3) (zah (gcm 4) zaz))) (fun _ _ _=>zaL) (fun _ _ _=>zaK (fcl [true,true] T.t_16 hF hr (zaa (fw 3) (zaa (fw 4) zab)) (hj:=zj _) (z5:=hl)))) zab))))) zaq)
  (zac (zaT (zfO (zdA (by rfl) T.n_isinstance zaw (by rfl) T.n_str zkW (by decide) (fw 1))) (zaf (zat (zjj (zdA (by rfl) T.n_isinstance zaw (by rfl) T.n_str zkW (by decide) (fw 0)) (zkQ (zeE (fun _ _=>za3 (u31 hr)) zaG (fw 0) (fw 1) (nomark _)))))) zaq)
  (zaf (zat (zjj (zdA (by rfl) T.n_isinstance zaw (by rfl) T.n_int zf9 (by decide) (fw 0)) (zjj (znh (zdA (by rfl) T.n_isinstance zaw (by rfl) T.n_bool zlf (by decide) (fw 0))) (zkQ (zeE (fun _ _=>za3 (u31 hr)) zaG (fw 0) (fw 1) (nomark _))))))))
theorem ok_18 (T:Txt K mg af):FnK P w K mg base af 5 18 p_18 (spW K w_18 1):=fn2 T.t_18 sc_18 fun _ _ _ _ _ _ hr=>zac (zak (zaW zab) (gnm 1 sc_18.nd))
  (zac (za5 (by rfl) (zax (by rfl) T.n_range zae) (gnm 2 sc_18.nd) (zac (zak (fcl [true,true] T.t_14 (ok_14 T) hr (zaa (fcl [true,true] T.t_5 (ok_5 T) hr (zaa (fw 0) (zaa (fw 2) zab))) (zaa zae zab))) (zaM (by rfl) (zah (gnm 3 sc_18.nd) (zah (gnm 4 sc_18.nd) (zah (gnm 5 sc_18.nd) (zah (gnm 6 sc_18.nd) zaz))))))
  (zaf (za5 (by rfl) (za2 (zaW (zaa (zaD (zaa (fw 4) (zaa (fw 6) zab))) (zaa (zaD (zaa (fw 4) (zaa (zhM (by rfl) (by rfl) T.n_tuple zaR (by rfl) T.n_reversed (fw 6)) zab))) (zaa (zaD (zaa (zeI (fw 4) zae) (zaa (zeI (fw 6) zae) zab))) zab))))) (zaM (by rfl) (zah (gnm 7 sc_18.nd) (zah (gnm 8 sc_18.nd) zaz))) (zaf (zcf (zbY (j:=1) (fw 1) (zaD (zaa (fw 7) (zaa (fw 5) (zaa (fw 8) (zaa (fcl [true,true,true] T.t_17 (ok_17 T) hr (zaa (fw 7) (zaa (fw 5) (zaa (fw 8) zab)))) zab))))))))))))
  (zac (za5 (by rfl) (za2 (zao (fw 1) (zdp (fw 1) zae))) (zaM (by rfl) (zah (gnm 4 sc_18.nd) (zah (gnm 5 sc_18.nd) (zah (gnm 8 sc_18.nd) (zah (gnm 9 sc_18.nd) zaz))))) (zac (zak (zaK (fcl [true,true,true] T.t_4 (ok_4 T) hr (zaa (fw 4) (zaa (fw 5) (zaa (fw 8) zab))))) (gnm 10 sc_18.nd))
  (zaf (zaT (zdi (zjK (zdi (zdm (zan (fun _ _=>zfW) zd8 (fw 9) zbx (nomark _)) (zb8 (zan (fun _ _=>zeF) zdy (fw 10) zbx (nomark _))))) (zgh (zdi (zdm (zan (fun _ _=>zeF) zdy (fw 9) zbx (nomark _)) (zb8 (zk2 (zfO (fcl [true,true] T.t_16 (ok_16 T) hr (zaa (fw 10) (zaa (fw 9) zab))))))))))) (zaf (zat zmh)) zaq))))
  (zaf (zat zmh))))
end
theorem all_mk {l:W.OpenLaw} {w:World} {K:W.Frag} {h:Heap} {mg:Str->Option Value} {fa:Addr} (X:K.In h) (G:h.Ns mainGlobals mg) (hfa:mg "law"=some (.ref fa))
  {f_0 f_1 f_2 f_3 f_4 f_5 f_6 f_7 f_8 f_9 f_10 f_11 f_12 f_13 f_14 f_15 f_16 f_17 f_18:Addr}
  (h_0:Lk K "stretches" s_0 f_0)
  (h_1:Lk K "all_joined" s_1 f_1)
  (h_2:Lk K "land_joined" s_2 f_2)
  (h_3:Lk K "cheapest_words" s_3 f_3)
  (h_4:Lk K "bought" s_4 f_4)
  (h_5:Lk K "_law_box" s_5 f_5)
  (h_6:Lk K "_law_take" s_6 f_6)
  (h_7:Lk K "_law_colours" s_7 f_7)
  (h_8:Lk K "_law_word" s_8 f_8)
  (h_9:Lk K "_law_near" s_9 f_9)
  (h_10:Lk K "_law_board" s_10 f_10)
  (h_11:Lk K "_law_moves" s_11 f_11)
  (h_12:Lk K "_law_led" s_12 f_12)
  (h_13:Lk K "_law_ties" s_13 f_13)
  (h_14:Lk K "_law_any_scene" s_14 f_14)
  (h_15:Lk K "_law_lands" s_15 f_15)
  (h_16:Lk K "_law_alike" s_16 f_16)
  (h_17:Lk K "_law_bought" s_17 f_17)
  (h_18:Lk K "law" s_18 f_18)
  (z_all:W.nsIn K mainGlobals "all"=some none)
  (z_bool:W.nsIn K mainGlobals "bool"=some none)
  (z_enumerate:W.nsIn K mainGlobals "enumerate"=some none)
  (z_int:W.nsIn K mainGlobals "int"=some none)
  (z_isinstance:W.nsIn K mainGlobals "isinstance"=some none)
  (z_len:W.nsIn K mainGlobals "len"=some none)
  (z_list:W.nsIn K mainGlobals "list"=some none)
  (z_max:W.nsIn K mainGlobals "max"=some none)
  (z_min:W.nsIn K mainGlobals "min"=some none)
  (z_range:W.nsIn K mainGlobals "range"=some none)
  (z_reversed:W.nsIn K mainGlobals "reversed"=some none)
  (z_sorted:W.nsIn K mainGlobals "sorted"=some none)
  (z_str:W.nsIn K mainGlobals "str"=some none)
  (z_sum:W.nsIn K mainGlobals "sum"=some none)
  (z_tuple:W.nsIn K mainGlobals "tuple"=some none)
  (z_zip:W.nsIn K mainGlobals "zip"=some none):
  ∃ fd:FuncData,(∀ (s:Shared) (v:Value),BindsTo s fd ⟨[v],[]⟩ [("_law_script",v)])/\∀ base:Heap,K.In base->base.Ns mainGlobals mg->FnOk l.prog w K mg base (CXe l.prog w) 5 fa fd ["_law_script"] (spW K w_18 1):=by
 have e:=hfa.symm.trans (h_18.mm X G)
 cases e
 have T:Txt K mg (fun n=>[f_0,f_1,f_2,f_3,f_4,f_5,f_6,f_7,f_8,f_9,f_10,f_11,f_12,f_13,f_14,f_15,f_16,f_17,fa].getD n 0):=⟨h_0.tx X G,h_1.tx X G,h_2.tx X G,h_3.tx X G,h_4.tx X G,h_5.tx X G,h_6.tx X G,h_7.tx X G,h_8.tx X G,h_9.tx X G,h_10.tx X G,h_11.tx X G,h_12.tx X G,h_13.tx X G,h_14.tx X G,h_15.tx X G,h_16.tx X G,h_17.tx X G,h_18.tx X G,W.mg_none_of X G z_all,W.mg_none_of X G z_bool,W.mg_none_of X G z_enumerate,W.mg_none_of X G z_int,W.mg_none_of X G z_isinstance,W.mg_none_of X G z_len,W.mg_none_of X G z_list,W.mg_none_of X G z_max,W.mg_none_of X G z_min,W.mg_none_of X G z_range,W.mg_none_of X G z_reversed,W.mg_none_of X G z_sorted,W.mg_none_of X G z_str,W.mg_none_of X G z_sum,W.mg_none_of X G z_tuple,W.mg_none_of X G z_zip⟩
 exact ⟨_,fun s v=>h_18.bt s v,fun base _ _=>ok_18 T⟩
theorem walk {l:W.OpenLaw} {q:Program} {loose:List Str} {XP:(Str->Option Value)->Heap->Prop} {YP:World->Heap->Prop} {d:DefRec} {K:Params->W.Frag} (hn:l.most=some 63) (hdf:d.params.defaults=[])
  (hY:∀ (w:World) (h:Heap),YP w h->(K w.params).In h)
  (F:∀ (w:World) (mg:Str->Option Value) (fa:Addr) (h:Heap),(K w.params).In h->h.Ns mainGlobals mg->mg d.name=some (.ref fa)->
   ∃ fd:FuncData,(∀ (s:Shared) (u:Value),BindsTo s fd ⟨[u],[]⟩ [("_law_script",u)])/\∀ base:Heap,(K w.params).In base->base.Ns mainGlobals mg->FnOk l.prog w (K w.params) mg base (CXe l.prog w) 5 fa fd ["_law_script"] (spW (K w.params) w_18 1)):
  W.WalkO q loose XP YP l.row.toRowW d [] (fun f vs=>PySem.call f vs):=
 L2.walk_of (n:=63) (k:=5) (x:="_law_script") (CX:=fun w=>CXe l.prog w) (sp:=fun w=>spW (K w.params) w_18 1) hn (by decide) hdf ⟨rfl,by decide,by decide,rfl⟩ hY F (fun _ H a ns hl _ hS=>zoL pure_law H a ns hl hS) fun _ _ _ _ _ h=>by obtain ⟨_,_,_,_,_,_,_,_,_,q,_⟩:=h; exact q
end Law
end
open PySem PySem.W PyProof.Rows
theorem PySem.W.Fast.te12525641208263630547:True:=trivial
set_option maxRecDepth 100000 in
set_option maxHeartbeats 0 in
theorem PySem.Challenge.cw_walktold_k29_words_bought_holds : PySem.Challenge.rw_walktold_k29_words_bought.Holds := by
 w_on; o_law; k_head; (case hw=>w_witness2)
 k_fill
 refine Law.walk (l:=PySem.Challenge.rw_walktold_k29_words_bought) rfl rfl (fun w h Y=>PySem.W.kIn_of Y) ?F
 case F=>
  intro w mg fa h KX G hmg
  refine' Law.all_mk KX G hmg ..
  all_goals try first | k_is | (refine' ⟨?_,?_,?_,?_⟩ <;> try k_is)
