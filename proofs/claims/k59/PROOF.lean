import PyProof.Rows.All
import Wide.All
import OpenK.AllK
import Wide.FinOn
import PySem.SetTable
import PyProof.SetScanFacts
import PyProof.DictFindH
import PyProof.SetKind
import PyProof.IsRules
import PyProof.TupleKey
import PyProof.StrWalks
import PyProof.FactsAll.set
import PyProof.SetRoads
import PyProof.MakeMany
import PyProof.CollectIter
import PyProof.ListNew
import PyProof.Rows.SortShell
import PyProof.Rows.SortStr
import PyProof.SetNew
import PyProof.Rows.SetFrom
import PyProof.WalksMore
import PyProof.DictIter
import PyProof.DictWalks
import KE.KDictList
import PyProof.AttrMissHeap
import KE.KDictOf
import Lean
import PyProof.EqAt
import PyProof.EqKinds
import PyProof.TupleCall
import PyProof.StationsW
import PyProof.RulesAs
import PyProof.Rows.Own
import PySem.Str
import PyProof.NsDelKeeps
import KE.KIsAll
import PyProof.ExcArgsOwn
import PyProof.ExcAttrAll.ValueError
import OpenK.KOwn
import PyProof.ExcBaseAll.ValueError
import PyProof.InstStoreFacts
import PyProof.NeKinds
import PyProof.Draws
import PyProof.EnumMake
import PyProof.ZipIter
import PyProof.DictItems
import PyProof.Rows.SumAny
import KE.KSortTup
import PyProof.Rows.MinMaxN
import PyProof.TupleOfGen
import PyProof.ListRange
import KE.KRevIter
import PyProof.ReprLen
import PyProof.FitsInt
import PyProof.StrBlock2
import PyProof.FactsAll.tuple_2
import PyProof.ListMulRoad
import PyProof.MeetsDict
import PyProof.Rows.Range3
import PyProof.Rows.SortRuns
import PyProof.Rows.StrStep
import PySem.Challenge.RW_walktold_k59_two_way_readers_gone
set_option Elab.async false
set_option linter.all false
set_option maxRecDepth 100000
set_option compiler.extract_closed false
set_option bootstrap.genMatcherCode false
open Array (getElem?_toList length_toList mem_toList_iff toList_append)
open Bool (and_eq_true false_eq_true or_eq_true)
open Int (toNat_natCast)
open List (all_cons all_eq_true any_cons append_assoc append_nil cons_append countP_cons drop_zero ext_getElem? filterMap_cons find?_cons getElem?_append_left getElem?_append_right getElem?_eq_getElem getElem?_eq_none getElem?_map getElem?_set_ne getElem?_set_self getElem_mem length_append length_cons length_drop length_map length_nil length_range length_singleton length_take lookup_cons map_append map_congr_left map_cons map_id map_map map_nil map_set mem_append mem_append_left mem_append_right mem_cons mem_cons_of_mem mem_cons_self mem_filter mem_filterMap mem_map mem_of_getElem? mem_range mem_singleton nil_append nodup_append nodup_cons nodup_nil of_mem_zip pairwise_cons pairwise_map perm_append_comm set_comm size_toArray take_nil take_of_length_le take_zero)
open Nat (le_of_lt le_refl le_succ le_trans lt_irrefl lt_of_lt_of_le lt_trans ne_of_gt ne_of_lt not_lt sub_self zero_le)
open Option (isSome_map isSome_some map_eq_some_iff none_or some_or)
def qa:=@PySem.wpAny_bind
def qb:=@PySem.wpAny_pure
def qc:=@PySem.Heap.get?_push_of_some
def qd:=@PySem.Heap.get?_push_size
def qe:=@PySem.Heap.lt_size
def qg.{u}:=@Option.some.inj.{u}
def qh.{u}:=@List.getElem?_eq_some_iff.{u}
def qj.{u}:=@List.mem_append_right.{u}
def qk.{u}:=@List.mem_append_left.{u}
def qm.{u}:=@List.mem_cons_of_mem.{u}
def qo.{u}:=@List.mem_cons_self.{u}
noncomputable section
section
namespace ST
open PySem PySem.SetTable
def Rising (xs:Array Nat):Prop:=∀ i j (hi:i < xs.size) (hj:j < xs.size),i < j->xs[i] < xs[j]
def path (t:SetTable) (p:Probe):Nat->Probe
 | 0=>p
 | n + 1=>path t (t.advance p) n
def okMask (mask:Nat):Prop:=mask=7\/mask=31\/mask=127\/mask=511
structure Tab (t:SetTable) (hs:List Int):Prop where
 ris:Rising t.place
 dum:t.dummies=#[]
 mask:okMask t.mask
 size:t.place.size=hs.length
 le:∀ i (hi:i < t.place.size),t.place[i]<=t.mask
 few:hs.length<=t.mask
 reach:∀ i (hi:i < t.place.size) (h:Int),hs[i]?=some h->∃ n,(path t (t.probeStart h) n).j=t.place[i]/\∀ m,m < n->t.slot (path t (t.probeStart h) m).j≠.empty
section
variable {prog:Program} {w:World} {K:Type} [DecidableEq K] (knd:HeapKind prog w K)
def ents (xs:List (K×Addr)):List (Int×Value):=xs.map fun p=>(knd.hash p.1,Value.ref p.2)
variable {knd}
variable {A:Around} {E:Value->Shared->Prop} {s:Shared} {a b:Addr} {o:Obj} {es:Array (Int×Value)} {ep:Nat} {t:SetTable} {xs:List (K×Addr)} {k:K}
def okRoom (t:SetTable) (n:Nat):Prop:=(t.mask=7/\n<=4)\/(t.mask=31/\n<=18)\/(t.mask=127/\n<=76)\/(t.mask=511/\n<=306)
end
end ST
end
section
namespace ST
open PySem
end ST
end
section
namespace ST
open PySem PySem.SetTable
theorem lt_of_get {h:Heap} (e:h.get? b=some o):b < h.objs.size:=Nat.lt_of_not_le fun z=>by
 have:h.get? b=none:=by
  unfold Heap.get?
  rw [Array.getElem?_eq_none z]
 rw [this] at e; cases e
end ST
end
section
namespace ST
open PySem PySem.SetTable PyProof.Rows
end ST
end
section
namespace ST
open PySem PySem.SetTable
structure WTab (t:SetTable) (n:Nat) (ld:Bool):Prop where
 ris:Rising t.place
 dum:t.dummies=#[]
 fit:t.fits n=true
 ldd:t.led=ld
section
variable {prog:Program} {w:World} {A:Around} {E:Value->Shared->Prop} {s:Shared} {a:Addr} {K:Type} [DecidableEq K] {knd:KeyKind prog w K} {xs:List (K×Value)}
def entV (knd:KeyKind prog w K) (xs:List (K×Value)):List (Int×Value):=xs.map fun p=>(knd.hash p.1,p.2)
def VSet (ld:Bool) (knd:KeyKind prog w K) (h:Heap) (a:Addr) (xs:List (K×Value)):Prop:=∃ o es ep t,h.get? a=some o/\o.ExactSet/\o.data=.set es ep t/\WTab t es.size ld/\es.toList=entV knd xs/\(∀ p∈xs,knd.is p.1 p.2=true/\p.2.scannable=true)/\(xs.map (·.1)).Nodup
end
end ST
end
section
namespace ST
open PySem PySem.SetTable PyProof.Rows
def freshSet (ld:Bool):Obj:={ cls:=.type "set",dict:=none,data:=.set #[] 0 (.fresh 0 0 ld) }
section
variable {prog:Program} {w:World} {A:Around} {E:Value->Shared->Prop} {s:Shared}
def ldOf (w:World):Bool:=!w.params.followText "set-order"
end
end ST
end
section
namespace ST
open PySem PySem.SetTable
section
variable {prog:Program} {w:World} {A:Around} {E:Value->Shared->Prop} {s:Shared} {a b:Addr} {K:Type} [DecidableEq K] {knd:KeyKind prog w K} {ks:List K} {ld:Bool} {xs:List (List K×Addr)}
def TRaw (ld:Bool) (knd:HeapKind prog w K) (h:Heap) (a:Addr) (xs:List (K×Addr)):Prop:=∃ o es ep t,h.get? a=some o/\o.ExactSet/\o.data=.set es ep t/\t.led=ld/\Tab t (es.toList.map (·.1))/\okRoom t es.size/\es.toList=ents knd xs/\(xs.map (·.1)).Nodup
end
end ST
end
section
namespace ST
open PySem PySem.W
def RawD (h:Heap) (d:Addr) (es:Array DictEntry) (ep:Nat):Prop:=∃ o,h.get? d=some o/\o.ExactDict/\o.data=.dict es ep
section
variable {prog:Program} {w:World} {A:Around} {E:Value->Shared->Prop} {s:Shared} {d it:Addr} {es:Array DictEntry} {ep i:Nat}
theorem RawD.type (x:RawD s.heap d es ep):s.TypeIs (.ref d) "dict":=let ⟨o,ho,hc,_⟩:=x; ⟨o,ho,hc.1⟩
theorem RawD.at {h h':Heap} (x:RawD h d es ep) (e:∀ o,h.get? d=some o->h'.get? d=some o):RawD h' d es ep:=let ⟨o,ho,r⟩:=x; ⟨o,e o ho,r⟩
theorem raw_iter {Q:Value->Shared->Prop} (hd:(d == sysModules)=false) (hm:RawD s.heap d es ep)
  (hQ:Q (.ref s.heap.objs.size) { s with heap:=s.heap.push { cls:=.type "dict_keyiterator",data:=.fields #[.ref d,.int 0 0,.int es.size 0,.int ep 0] } }):wpAny (model prog w) A (pyIter (.ref d)) Q E s:=by
 have hT:=hm.type
 obtain ⟨o,ho,hc,hdat⟩:=id hm
 refine wpAny_pyIter_slot hT F.slot_dict_iter (wpAny_call_entry F.slot_dict_iter hT F.entry_dict_iter ?_ (F.args_dict_iter_1 _))
 unfold Builtin.«dict.__iter__» Builtin.Dict.dictSlotNone
 refine qa (qa (wpAny_notOrdered_dict hT (qb ?_)))
 show wpAny _ _ (Builtin.Dict.showsAll d >>= _) _ _ s
 unfold Builtin.Dict.showsAll
 rw [if_neg (by rw [hd]; exact Bool.false_ne_true)]
 refine qa (qb (qa (wpAny_dictEntries ho hdat (qa (wpAny_dictEpoch ho hdat (qa (wpAny_newObj_type (qb ⟨_,rfl,"dict_keyiterator",_,⟨_,qd _ rfl,rfl⟩,F.slot_dict_keyiterator_next.lookup,?_⟩))))))))
 simpa [rawInt] using hQ
theorem raw_item {Q:Option Value->Shared->Prop} (hit:s.heap.IsKeyIter it d i es.size ep) (hm:RawD s.heap d es ep) (hi:i < es.size)
  (hQ:∀ h',h'.IsKeyIter it d (i + 1) es.size ep->Heap.SameBut it s.heap h'->Q (some es[i].key) { s with heap:=h' }):wpAny (model prog w) A (pyNext (.ref it)) Q E s:=by
 obtain ⟨o,ho,hc,hd⟩:=id hit
 obtain ⟨od,hod,hcd,hdd⟩:=id hm
 unfold pyNext
 refine qa (wpAny_attempt (wpAny_callSpecial?_slot (name:=Str.ofString "__next__") hit.typeIs F.slot_dict_keyiterator_next
  (wpAny_call_entry F.slot_dict_keyiterator_next hit.typeIs F.entry_dict_keyiterator_next ?_ (F.args_dict_keyiterator_next_1 _))))
 refine qa (qb (qa (qa ?_)))
 first | refine qa (wpAny_typeNameOfWhole_keyiter hit.typeIs (qb ?_)) | refine qa (wpAny_typeNameOf_keyiter hit.typeIs (qb ?_))
 refine qa (wpAny_fieldsOf ho hd ?_)
 have hown:Builtin.Dict_items.ownsTuple "dict_keyiterator"=false:=by decide
 simp only [hown,false_eq_true,if_false]
 show wpAny _ _ (if (Value.ref d == Value.none)=true then _ else _) _ _ s
 rw [if_neg (show ¬ ((Value.ref d == Value.none)=true) from Bool.false_ne_true)]
 refine qa (qb (qa (wpAny_dictEntries hod hdd ?_)))
 rw [if_neg (by simp)]
 refine qa (qb (qa (wpAny_dictEpoch hod hdd ?_)))
 rw [if_neg (by simp)]
 refine qb ?_
 simp only [show ¬ ((i:Int) < 0) from by omega,if_false,toNat_natCast,Array.getElem?_eq_getElem hi]
 refine qa ?_
 first | refine qa (wpAny_typeNameOfWhole_keyiter hit.typeIs (qb ?_)) | refine qa (wpAny_typeNameOf_keyiter hit.typeIs (qb ?_))
 refine qa (wpAny_isOneOf_keyiter hit.typeIs ?_)
 show wpAny _ _ (setField (.ref it) 1 (rawInt ((i:Int) + 1)) >>= _) _ _ s
 refine qa (wpAny_setField ho hd (by simp) ?_)
 have hit':(s.heap.update it (Obj.mapFields (·.setIfInBounds 1 (rawInt ((i:Int) + 1))))).IsKeyIter it d (i + 1) es.size ep:=
  ⟨_,Heap.get?_update_self _ ho (Obj.isFreed_of_fields (Obj.data_mapFields hd _)),(Obj.cls_mapFields ..).trans hc,by rw [Obj.data_mapFields hd]; simp [rawInt]⟩
 refine qa (wpAny_holding (qa (wpAny_isOneOf_keyiter (s:={ s with heap:=s.heap.update it (Obj.mapFields (·.setIfInBounds 1 (rawInt ((i:Int) + 1)))) }) hit'.typeIs ?_)))
 show wpAny _ _ (pure es[i].key) _ _ _
 exact qb (qb ⟨_,rfl,qb (hQ _ hit' (Heap.SameBut.update ..))⟩)
theorem raw_end {Q:Option Value->Shared->Prop} (hh:A.handled=none) (hit:s.heap.IsKeyIter it d i es.size ep) (hm:RawD s.heap d es ep) (hi:es.size<=i)
  (hQ:∀ h',Heap.ExtBut it s.heap h'->Q none { s with heap:=h' }):wpAny (model prog w) A (pyNext (.ref it)) Q E s:=by
 obtain ⟨o,ho,hc,hd⟩:=id hit
 obtain ⟨od,hod,hcd,hdd⟩:=id hm
 unfold pyNext
 refine qa (wpAny_attempt (wpAny_callSpecial?_slot (name:=Str.ofString "__next__") hit.typeIs F.slot_dict_keyiterator_next
  (wpAny_call_entry F.slot_dict_keyiterator_next hit.typeIs F.entry_dict_keyiterator_next ?_ (F.args_dict_keyiterator_next_1 _))))
 refine qa (qb (qa (qa ?_)))
 first | refine qa (wpAny_typeNameOfWhole_keyiter hit.typeIs (qb ?_)) | refine qa (wpAny_typeNameOf_keyiter hit.typeIs (qb ?_))
 refine qa (wpAny_fieldsOf ho hd ?_)
 have hown:Builtin.Dict_items.ownsTuple "dict_keyiterator"=false:=by decide
 simp only [hown,false_eq_true,if_false]
 show wpAny _ _ (if (Value.ref d == Value.none)=true then _ else _) _ _ s
 rw [if_neg (show ¬ ((Value.ref d == Value.none)=true) from Bool.false_ne_true)]
 refine qa (qb (qa (wpAny_dictEntries hod hdd ?_)))
 rw [if_neg (by simp)]
 refine qa (qb (qa (wpAny_dictEpoch hod hdd ?_)))
 rw [if_neg (by simp)]
 refine qb ?_
 simp only [show ¬ ((i:Int) < 0) from by omega,if_false,toNat_natCast,Array.getElem?_eq_none hi]
 refine qa ?_
 first | refine qa (wpAny_typeNameOfWhole_keyiter hit.typeIs (qb ?_)) | refine qa (wpAny_typeNameOf_keyiter hit.typeIs (qb ?_))
 show wpAny _ _ (setField (.ref it) 0 .none >>= _) _ _ s
 refine qa (wpAny_setField ho hd (by simp) ?_)
 show wpAny _ _ (newExc (.type "StopIteration") [] >>= _) _ _ _
 refine qa ?_
 simp only [newExc,newTuple]
 refine qa (wpAny_newObj_type ?_ (by size_fits))
 refine qa (m:=firstArgMember _ _) (wpAny_of_eq (a:=Value.none) (by first | rfl | (simp only [firstArgMember]; rfl)) (wpAny_newObj_type ?_ (by size_fits)))
 simp only [raiseNew]
 refine qa (wpAny_handled ?_)
 rw [show A.in1.handled=none from hh]
 refine qa (qb (wpAny_throw ?_))
 refine qa (wpAny_isInstance (T:="StopIteration") (b:=true) ⟨_,qd _ rfl,rfl⟩ isSubtype_stop ?_)
 exact qb (hQ _ (((Heap.SameBut.update ..).extBut.push _).push _))
theorem raw_walks (hh:A.handled=none) (I:Addr) (hne:d≠I):Walks prog w A I [I,d] [I] es.size (fun i v=>∃ h:i < es.size,v=es[i].key) (fun i h=>h.IsKeyIter I d i es.size ep/\RawD h d es ep) where
 sub:=fun b hb=>by simp at hb; simp [hb]
 frame:=fun _ _ _ st hk=>⟨st.1.at fun o e=>hk I (by simp) o e,st.2.at fun o e=>hk d (by simp) o e⟩
 item:=fun i s Q E hi st hQ=>raw_item st.1 st.2 hi fun h' hit' hs'=>hQ _ h' s.toks ⟨hi,rfl⟩ ⟨hit',st.2.at fun o e=>hs'.extBut d o hne e⟩ fun b o hb e=>hs'.extBut b o (fun h=>hb (by simp [h])) e
 done:=fun s Q E st hQ=>raw_end hh st.1 st.2 (le_refl _) fun h' he'=>hQ h' s.toks fun b o hb e=>he' b o (fun h=>hb (by simp [h])) e
 self:=fun _ _ _ _ st hQ=>wpAny_pyIter_keyiter st.1 hQ
theorem raw_src (lo:(d == sysModules)=false):KdlSrc prog w "dict" d d es.size (fun i v=>∃ h:i < es.size,v=es[i].key) (fun h=>RawD h d es ep) where
 type:=fun _ hm=>hm.type
 there:=fun _ hm=>let ⟨_,ho,_⟩:=hm; ⟨qe ho,qe ho⟩
 keep:=fun _ _ hm hk=>hm.at fun o e=>hk d (.inl rfl) o e
 notList:=by decide
 notTuple:=by decide
 hint:=fun _ _ _ _ hm hq=>kdl_hint_dict hm.type hq
 iter:=fun _ _ hh hm=>⟨_,_,(fun _ _ hq=>raw_iter lo hm hq),raw_walks hh _ (let ⟨_,ho,_⟩:=hm; ne_of_lt (qe ho)),⟨⟨_,qd _ rfl,rfl,rfl⟩,hm.at fun o e=>qc _ e⟩⟩
end
end ST
end
section
namespace ST
open PySem
theorem no_keys:typeLookup (.type "list") "keys"=pure none:=by rw [typeLookup_type,builtinLookup_eq_fast]; kernel_rfl
theorem keys_none {prog:Program} {w:World} {A:Around} {E:Value->Shared->Prop} {s:Shared} {a:Addr} {xs:Array Value} {n:Nat} {sl:Array _} {Q:Option Value->Shared->Prop} (hA:A.handled=none)
  (hx:s.heap.get? a=some { cls:=.type "list",data:=.seq xs n,slots:=sl }) (h:∀ h' tk e,Heap.NewAttrErr s.heap h' e (.ref a) "keys"->Q none { s with heap:=h',toks:=tk }):
  wpAny (model prog w) A (getAttr? (.ref a) "keys") Q E s:=by
 obtain ⟨hp,g,d,tk,os⟩:=s
 have ty:∀ t,(⟨hp,g,d,t,os⟩:Shared).TypeIs (.ref a) "list":=fun _=>⟨_,hx,rfl⟩
 have q1:=sub_AttributeError
 have q2:=F.slot_list_getattribute.lookup
 have q3:=F.slot_list_getattribute.bind (.ref a)
 have q4:=am_list_getattr_none
 unfold getAttr? getAttrBy? getAttrBy
 repeat (any_goals (first | assumption | exact ty _ | ((with_reducible show wpAny _ _ (call (Value.builtin "list.__getattribute__") _ _) _ _ _); refine call_meets F.slot_list_getattribute (ty _) am_entry_list_getattribute (F.args_list_getattribute_2 _ _) (meets_getattribute_miss_list a xs n sl "keys" _ no_keys (by decide +kernel)) ⟨hx,hA,fun h' tk' e z=>?_⟩) | wp_step))
 obtain ⟨t',u',he⟩:=z.there
 show wpAny _ _ (getattributeRaised _ _ _ _ _ _ _) _ _ _
 unfold getattributeRaised
 repeat (any_goals (first | assumption | wp_step))
 exact h _ _ _ z
theorem dul_entry:entryFor table "dict.update.loop"=some Builtin.«dict.update.loop»:=entryFor_of_tree (by kernel_rfl)
theorem dul_plain:plainId "dict.update.loop"=true:=by decide +kernel
section
variable {prog:Program} {w:World} {A:Around} {E:Value->Shared->Prop} {s:Shared}
theorem pair_items {t:Addr} {k y:Value} {Q:List Value->Shared->Prop} (ht:s.heap.IsTuple t #[k,y]) (h:Q [k,y] s):wpAny (model prog w) A (Builtin.Dict.pairItems (.ref t)) Q E s:=by
 obtain ⟨o,e,c,r⟩:=ht
 obtain ⟨hp,g,d,tk,os⟩:=s
 have hT:(⟨hp,g,d,tk,os⟩:Shared).TypeIs (.ref t) "tuple":=⟨_,e,c⟩
 unfold Builtin.Dict.pairItems
 repeat (any_goals (first | assumption | wp_step))
 obtain ⟨n,r⟩:=r
 rw [r]
 exact qb (qb h)
theorem dupd_loop {R:Result->Shared->Prop} {I:Addr} {fp wr:List Addr} {G:Array GenState->Array GenState->Prop} {n:Nat} {P:Nat->Value->Prop} {St:Nat->Shared->Prop} (W:WalksS prog w A.in1 I fp wr G n P St) (D:Addr) (hD:D∉fp) {J:Nat->Heap->Prop}
  (stay:∀ i h h',i<=n->J i h->(∀ b o,b∉wr->h.get? b=some o->h'.get? b=some o)->J i h')
  (step:∀ i v (s:Shared),i < n->P i v->J i s.heap->∃ t k y,v=.ref t/\s.heap.IsTuple t #[k,y]/\
   ∀ (Q:Unit->Shared->Prop) (E:Value->Shared->Prop),(∀ h' tk,s.toks<=tk->Heap.SameBut D s.heap h'->J (i + 1) h'->Q () { s with heap:=h',toks:=tk })->wpAny (model prog w) A.in1 (dictSet D k y) Q E s):
  ∀ (k i:Nat) (j:Int) (s:Shared),n - i=k->i<=n->St i s->J i s.heap->(∀ s',Moved (D::wr) G s s'->J n s'.heap->R (.ok (.ret .none)) s')->
    codeAny (model prog w) A (.builtin "dict.update.loop" ⟨[.ref D,.ref I,.int j 0,.none],[]⟩) R s:=by
 have hDw:D∉wr:=fun h=>hD (W.sub _ h)
 intro k
 induction k with
 | zero=>
   intro i j s hk hi st hJ hR
   have e:i=n:=by lia
   subst e
   refine codeAny_builtin dul_entry ?_
   rw [Around.under_plainId dul_plain _]
   show wpAny _ A.in1 (pyNext (.ref I) >>= _) _ _ s
   refine qa (W.done s _ _ st fun s' hm=>?_)
   show wpAny _ A.in1 (Builtin.Dict.addKeywords D [] >>= _) _ _ s'
   exact qa (qb (qb (hR s' (hm.mono fun b hb=>qm _ hb) (stay _ _ _ (le_refl _) hJ hm.heap))))
 | succ k ih=>
   intro i j s hk hi st hJ hR
   have hlt:i < n:=by lia
   refine codeAny_builtin dul_entry ?_
   rw [Around.under_plainId dul_plain _]
   show wpAny _ A.in1 (pyNext (.ref I) >>= _) _ _ s
   refine qa (W.item i s _ _ hlt st fun v s' hP st' hm=>?_)
   show wpAny _ A.in1 (holding [v] _ >>= _) _ _ s'
   refine qa (wpAny_holding ?_)
   obtain ⟨t,x,y,rfl,ht,hw⟩:=step i v s' hlt hP (stay _ _ _ hi hJ hm.heap)
   refine qa (wpAny_tryCatch (pair_items ht (wpAny_holding (hw _ _ fun h' tk hk' sb hJ'=>?_))))
   refine qb ⟨plainId_quiet dul_plain _,ih (i + 1) _ _ (by lia) hlt (W.frame _ s' _ _ st' hk' fun b hb o e=>?_) hJ' fun s'' hm'' hJ''=>?_⟩
   ·rw [sb.2 b (fun z=>hD (z ▸ hb))]; exact e
   ·refine hR s'' (Moved.trans W.gtrans ((hm.mono fun b hb=>qm _ hb).then_heap hk' fun b o hb e=>?_) hm'') hJ''
    rw [sb.2 b (fun z=>hb (z ▸ qo))]; exact e
end
section
variable {prog:Program} {w:World} {A:Around} {E:Value->Shared->Prop} {s:Shared}
theorem call_dictL {l:Addr} {xs:Array Value} {n0 B:Nat} {sl:Array _} {J:Nat->Heap->Prop} {Q:Value->Shared->Prop} (hA:A.handled=none) (hl:s.heap.get? l=some { cls:=.type "list",data:=.seq xs n0,slots:=sl })
  (h0:∀ h,h.get? s.heap.objs.size=some { cls:=.type "dict",data:=.dict #[] }->(∀ b o,s.heap.get? b=some o->h.get? b=some o)->J 0 h)
  (stay:∀ i h h',J i h->(∀ b o,b<=s.heap.objs.size->h.get? b=some o->h'.get? b=some o)->J i h')
  (step:∀ (A:Around) i v (s':Shared),A.units<=B->i < xs.size->xs[i]?=some v->J i s'.heap->∃ t k y,v=.ref t/\s'.heap.IsTuple t #[k,y]/\
   ∀ (Q:Unit->Shared->Prop) (E:Value->Shared->Prop),(∀ h' tk,s'.toks<=tk->Heap.SameBut s.heap.objs.size s'.heap h'->J (i + 1) h'->Q () { s' with heap:=h',toks:=tk })->wpAny (model prog w) A (dictSet s.heap.objs.size k y) Q E s')
  (hB:A.units + 20<=B)
  (h:∀ (h':Heap) (tk:Nat),J xs.size h'->(∀ b o,s.heap.get? b=some o->h'.get? b=some o)->Q (.ref s.heap.objs.size) { s with heap:=h',toks:=tk }):
  wpAny (model prog w) A (call (.type "dict") [.ref l]) Q E s:=by
 refine callType_codes (Q₁:=fun obj s₁=>obj=.ref s.heap.objs.size/\s₁={ s with heap:=s.heap.push { cls:=.type "dict",data:=.dict #[] } }) F.kt_called_dict (F.kt_typeCall_dict_1 _) F.entry_dict_init (kt_code_dict_new _ ⟨rfl,rfl⟩) ?_
 rintro obj s₁ ⟨rfl,rfl⟩
 have hD:(s.heap.push { cls:=.type "dict",data:=.dict #[] }).get? s.heap.objs.size=some { cls:=.type "dict",data:=.dict #[] }:=qd _ rfl
 have tD:Shared.TypeIs { s with heap:=s.heap.push { cls:=.type "dict",data:=.dict #[] } } (.ref s.heap.objs.size) "dict":=⟨_,hD,rfl⟩
 have hl1:=qc { cls:=.type "dict",data:=.dict #[] } hl
 have tL:Shared.TypeIs { s with heap:=s.heap.push { cls:=.type "dict",data:=.dict #[] } } (.ref l) "list":=⟨_,hl1,rfl⟩
 have z1:(s.heap.push { cls:=.type "dict",data:=.dict #[] }).objs.size=s.heap.objs.size + 1:=Heap.size_push ..
 refine ⟨tD,F.args_dict_init_2 _ _,?_⟩
 unfold Builtin.«dict.__init__»
 refine qa ?_
 unfold Builtin.Dict.selfAndRest
 refine qa (wpAny_notOrdered_dict tD ?_)
 show wpAny _ _ (pure (s.heap.objs.size,[Value.ref l])) _ _ _
 refine qb ?_
 show wpAny _ _ (Builtin.Dict.updateFrom "dict.__init__" s.heap.objs.size (.ref l) [] .none) _ _ _
 unfold Builtin.Dict.updateFrom
 refine qa (wpAny_typeOf tL ?_)
 rw [if_pos (by decide)]
 refine qa (keys_none hA hl1 fun h2 tk2 e hn=>?_)
 rw [if_pos (show (none:Option Value).isNone=true from rfl)]
 have hl2:({ s with heap:=h2,toks:=tk2 }:Shared).heap.IsList l xs:=⟨_,hn.keeps _ _ hl1,rfl,_,rfl⟩
 have hD2:=hn.keeps _ _ hD
 have lt2:s.heap.objs.size < h2.objs.size:=lt_of_get hD2
 have ltl:l < s.heap.objs.size:=lt_of_get hl
 refine qa (wpAny_rule (qa (wpAny_pyIter_list hl2 ?_)))
 refine qb ⟨plainId_quiet dul_plain _,?_⟩
 refine dupd_loop (W:=(Walks.list (A:=A.in1.in1) hA h2.objs.size l (ne_of_lt (lt_trans ltl lt2)) xs).toS) s.heap.objs.size (fun z=>?_) (J:=J) (fun i h h' _ hJ hk=>stay i h h' hJ fun b o hb e=>hk b o (fun z=>?_) e)
  (fun i v s' hi hP hJ=>step _ i v s' (by show A.units + 1 + 1<=B; lia) hi hP hJ) (xs.size - 0) 0 _ _ rfl (zero_le _) ⟨⟨_,qd _ rfl,rfl,rfl⟩,hl2.push _⟩ (h0 _ (qc _ hD2) fun b o e=>qc _ (hn.keeps _ _ (qc _ e))) fun s' hm hJ=>?_
 ·rcases mem_cons.mp z with z | z
  ·exact ne_of_lt lt2 z
  ·exact ne_of_gt ltl (mem_singleton.mp z)
 ·exact absurd (mem_singleton.mp z) (ne_of_lt (Nat.lt_of_le_of_lt hb lt2))
 ·obtain ⟨h',g',d',tk',os'⟩:=s'
  have eg:g'=s.gens:=hm.gens
  have ed:d'=s.drawn:=hm.drawn
  have eo:os'=s.os:=hm.os
  subst eg ed eo
  refine ⟨rfl,h h' tk' hJ fun b o e=>?_⟩
  have hb:=lt_of_get e
  refine hm.heap b o (fun z=>?_) (qc _ (hn.keeps _ _ (qc _ e)))
  rcases mem_cons.mp z with z | z
  ·exact ne_of_lt hb z
  ·exact ne_of_lt (lt_trans hb lt2) (mem_singleton.mp z)
end
end ST
end
section
namespace L2
open PySem PySem.Spec PyProof.Rows
abbrev Key:=Sum Int Str
def keyIs:Key->Value->Bool
 | .inl k,v=>Value.isInt k v
 | .inr x,v=>Value.isStrOf x v
def keyH (w:World):Key->Int
 | .inl k=>hashInt k
 | .inr x=>hashStr w x
theorem zam:∀ {k:Key} {v:Value},keyIs k v=true->(∃ i t,k=Sum.inl i/\v=Value.int i t)\/(∃ x t,k=Sum.inr x/\v=Value.str x t)
 | .inl i,v,h=>by
   obtain ⟨t,e⟩:=Value.isInt_shape (k:=i) (v:=v) h
   exact .inl ⟨i,t,rfl,e⟩
 | .inr x,v,h=>by
   obtain ⟨t,e⟩:=Value.isStrOf_shape (x:=x) (v:=v) h
   exact .inr ⟨x,t,rfl,e⟩
theorem zeF (i:Int) (t:Tok):keyIs (.inl i) (.int i t)=true:=by simp [keyIs,Value.isInt]
theorem ze9 (x:Str) (t:Tok):keyIs (.inr x) (.str x t)=true:=by simp [keyIs,Value.isStrOf]
theorem zjn (a b:Int):decide ((Sum.inl a:Key)=Sum.inl b)=(a == b):=by
 grind
theorem ziX (a b:Str):decide ((Sum.inr a:Key)=Sum.inr b)=decide (a=b):=by
 grind
theorem zjW (a:Int) (b:Str):decide ((Sum.inl a:Key)=Sum.inr b)=false:=decide_eq_false (fun q=>nomatch q)
theorem zjV (a:Str) (b:Int):decide ((Sum.inr a:Key)=Sum.inl b)=false:=decide_eq_false (fun q=>nomatch q)
def mixKind (prog:Program) (w:World):PySem.KeyKind prog w Key where
 is:=keyIs
 hash:=keyH w
 inj:=fun v a b ha hb=>by
  rcases zam ha with ⟨i,t,rfl,rfl⟩ | ⟨x,t,rfl,rfl⟩
  ·rcases zam hb with ⟨j,u,rfl,e⟩ | ⟨y,u,rfl,e⟩
   ·injection e with e1 _; rw [e1]
   ·exact nomatch e
  ·rcases zam hb with ⟨j,u,rfl,e⟩ | ⟨y,u,rfl,e⟩
   ·exact nomatch e
   ·injection e with e1 _; rw [e1]
 byValue:=fun k v h=>by
  rcases zam h with ⟨i,t,rfl,rfl⟩ | ⟨x,t,rfl,rfl⟩ <;> rfl
 pyHash:=fun hv h=>by
  rcases zam hv with ⟨i,t,rfl,rfl⟩ | ⟨x,t,rfl,rfl⟩
  ·exact wpAny_pyHash_int h
  ·exact wpAny_pyHash_str h
 eqBool:=fun hu hv h=>by
  rcases zam hu with ⟨i,t,rfl,rfl⟩ | ⟨x,t,rfl,rfl⟩
  ·rcases zam hv with ⟨j,u,rfl,rfl⟩ | ⟨y,u,rfl,rfl⟩
   ·rw [zjn] at h; exact wpAny_eqBool_int h
   ·rw [zjW] at h; exact SeqAt.EqAt.int_str i t y u _ _ _ _ h
  ·rcases zam hv with ⟨j,u,rfl,rfl⟩ | ⟨y,u,rfl,rfl⟩
   ·rw [zjV] at h; exact SeqAt.EqAt.str_int x t j u _ _ _ _ h
   ·rw [ziX] at h; exact wpAny_eqBool_str h
 «strs»:=fun k x t v h=>by
  rcases zam h with ⟨i,u,rfl,e⟩ | ⟨y,u,rfl,e⟩
  ·exact nomatch e
  ·injection e with e1 _
   subst e1
   cases v <;> rfl
theorem zdE (prog:Program) (w:World) (i:Int) (t:Tok):(mixKind prog w).is (.inl i) (.int i t)=true:=zeF i t
theorem zdB (prog:Program) (w:World) (x:Str) (t:Tok):(mixKind prog w).is (.inr x) (.str x t)=true:=ze9 x t
end L2
namespace L2
open PySem PySem.Spec PyProof.Rows
inductive V where
 | non | bl (b:Bool) | int (i:Int) | str (x:Str) | byt (b:Array UInt8) | flt (b:UInt64) | ref (a:Addr) | ty (n:String)
 deriving DecidableEq
def RelV:V->Value->Prop
 | .non,u=>u=Value.none
 | .bl b,u=>u=Value.bool b
 | .int i,u=>∃ t,u=Value.int i t
 | .str x,u=>∃ t,u=Value.str x t
 | .byt b,u=>∃ t,u=Value.bytes b t
 | .flt b,u=>∃ t,u=Value.float b t
 | .ref a,u=>u=Value.ref a
 | .ty n,u=>u=Value.type n
abbrev Vals:List V->List Value->Prop:=Paired RelV
theorem Vals.length (r:Vals xs us):xs.length=us.length:=Paired.length r
theorem Vals.get:∀ {xs:List V} {us:List Value} {i:Nat} {x:V},Vals xs us->xs[i]?=some x->∃ u,us[i]?=some u/\RelV x u
 | _,_,_,_,.nil,e=>by simp at e
 | _,_,0,_,.cons r _,e=>by simp at e; subst e; exact ⟨_,rfl,r⟩
 | _,_,i + 1,x,.cons _ t,e=>by
   obtain ⟨u,h1,h2⟩:=Vals.get (i:=i) (x:=x) t (by simpa using e)
   exact ⟨u,by simpa using h1,h2⟩
theorem Vals.set (r:RelV x u):∀ {xs:List V} {us:List Value} (i:Nat),Vals xs us->Vals (xs.set i x) (us.set i u)
 | _,_,_,.nil=>.nil
 | _,_,0,.cons _ t=>.cons r t
 | _,_,i + 1,.cons q t=>.cons q (Vals.set r i t)
theorem Vals.append:∀ {xs ys:List V} {us ws:List Value},Vals xs us->Vals ys ws->Vals (xs++ys) (us++ws):=by
 intro xs ys us ws r s
 induction r with
 | nil=>exact s
 | cons r _ ih=>exact .cons r ih
theorem Vals.take:∀ {xs:List V} {us:List Value} (n:Nat),Vals xs us->Vals (xs.take n) (us.take n)
 | _,_,0,_=>.nil
 | _,_,_ + 1,.nil=>.nil
 | _,_,n + 1,.cons r t=>.cons r (Vals.take n t)
theorem Vals.drop:∀ {xs:List V} {us:List Value} (n:Nat),Vals xs us->Vals (xs.drop n) (us.drop n)
 | _,_,0,r=>r
 | _,_,_ + 1,.nil=>.nil
 | _,_,n + 1,.cons _ t=>Vals.drop n t
def RelO:Option V->Option Value->Prop
 | some v,some u=>RelV v u
 | none,none=>True
 | _,_=>False
def KV {κ:Type}:List (κ×V)->List (κ×Value)->Prop:=Paired fun (p:κ×V) (q:κ×Value)=>p.1=q.1/\RelV p.2 q.2
def kV:Key->V
 | .inl i=>.int i
 | .inr x=>.str x
inductive HO where
 | lst (xs:List V)
 | tup (xs:List V)
 | dK (kvs:List (Key×V)) | dT (kvs:List (List Key×V))
 | set (vs:List V)
 | ins (C dx:Addr) (fs:List (Str×V))
 | own (x:Addr)
 | xd (fs:List (Str×V))
 | met (f x:Addr)
 | rng (lo hi:Int)
 | frz (o:Obj) (u:HO)
 | tbl (ps:Array Value)
 | ext (φ:Heap->Prop)
abbrev Hp:=Addr->Option HO
def upd (H:Hp) (a:Addr) (o:HO):Hp:=fun b=>if b=a then some o else H b
theorem zai:upd H a o a=some o:=by unfold upd; rw [if_pos rfl]
theorem zaf (h:b≠a):upd H a o b=H b:=by unfold upd; rw [if_neg h]
theorem zjw {H:Hp} (h:H a=some o) (h':H b=some u) (d:o≠u):a≠b:=by
 grind
theorem zaj {H:Hp} (h:H a=some o) (h':H b=none):a≠b:=by
 intro e; subst e; rw [h] at h'; cases h'
section
variable (P:Program) (w:World)
def ObjOk (H:Hp) (h:Heap) (a:Addr):HO->Prop
 | .lst xs=>xs.length<=sizeLine/\∃ (its:List Value) (n:Nat),Vals xs its/\h.get? a=some { cls:=.type "list",data:=.seq its.toArray n }
 | .tup xs=>xs.length<=sizeLine/\∃ its:List Value,Vals xs its/\IsTup h a its.toArray
 | .dK kvs=>kvs.length<=sizeLine/\(a == sysModules)=false/\∃ vs,KV kvs vs/\h.DictOf (mixKind P w) a vs
 | .dT kvs=>kvs.length<=sizeLine/\(a == sysModules)=false/\∃ xs:List (List Key×Addr×Value),
   Paired (fun (p:List Key×V) (q:List Key×Addr×Value)=>p.1=q.1/\H q.2.1=some (.tup (p.1.map kV))/\RelV p.2 q.2.2) kvs xs/\
   ∃ o es ep,h.get? a=some o/\o.ExactDict/\o.data=.dict es ep/\es.toList=xs.map (entryOfKey (tupleKind (mixKind P w)))/\(xs.map (·.1)).Nodup
 | .set vs=>vs.length<=301/\((vs=[]/\h.get? a=some (ST.freshSet (ST.ldOf w)))\/(vs≠[]/\∃ xs:List (Key×Value),vs.Perm (xs.map fun p=>kV p.1)/\ST.VSet (ST.ldOf w) (mixKind P w) h a xs)\/vs≠[]/\∃ xs:List (List Key×Addr),vs.Perm (xs.map fun p=>V.ref p.2)/\(∀ p∈xs,H p.2=some (.tup (p.1.map kV)))/\ST.TRaw (ST.ldOf w) (tupleKind (mixKind P w)) h a xs)
 | .ins C dx fs=>H dx=some (.own a)/\fs.length<=1000/\dx≠a/\h.get? a=some (W.instObj C dx)/\
   ∃ mA,h.Ns1 dx mA/\(∀ f,RelO (fs.lookup f) (mA f))/\PySem.Within mA (fs.map (·.1))
 | .own _=>∃ o,h.get? a=some o
 | .xd fs=>∃ mA,h.Ns1 a mA/\∀ f,RelO (fs.lookup f) (mA f)
 | .rng lo hi=>∃ t u v,h.get? a=some { cls:=.type "range",data:=.fields #[.int lo t,.int hi u,.int 1 v] }
 | .frz o u=>h.get? a=some o/\ObjOk H h a u
 | .tbl ps=>h.get? a=some { cls:=.none,data:=.fields ps }
 | .met f x=>h.get? a=some (W.methodObj (.ref f) (.ref x))
 | .ext φ=>φ h/\(∃ o,h.get? a=some o)/\∀ h1 h2:Heap,φ h1->(∀ o,h1.get? a=some o->h2.get? a=some o)->φ h2
def HOk (H:Hp) (h:Heap):Prop:=∀ a o,H a=some o->ObjOk P w H h a o
end
section
variable {P:Program} {w:World} {H H':Hp} {h h':Heap} {a:Addr} {o:HO}
theorem ObjOk.lt (x:ObjOk P w H h a o):a < h.objs.size:=by
 cases o with
 | lst xs=>obtain ⟨_,_,_,_,e⟩:=x; exact qe e
 | tup xs=>obtain ⟨_,_,_,p⟩:=x; exact p.lt
 | dK kvs=>obtain ⟨_,_,_,_,o,_,_,e,_⟩:=x; exact qe e
 | dT kvs=>obtain ⟨_,_,_,_,o,_,_,e,_⟩:=x; exact qe e
 | set vs=>
   rcases x with ⟨_,⟨_,e⟩ | ⟨_,_,_,_,_,_,_,e,_⟩ | ⟨_,_,_,_,_,_,_,_,e,_⟩⟩
   ·exact qe e
   ·exact qe e
   ·exact qe e
 | ins C dx fs=>obtain ⟨_,_,_,e,_⟩:=x; exact qe e
 | own y=>obtain ⟨_,e⟩:=x; exact qe e
 | xd fs=>obtain ⟨_,⟨_,_,_,e,_⟩,_⟩:=x; exact qe e
 | rng lo hi=>obtain ⟨_,_,_,e⟩:=x; exact qe e
 | frz ob u=>obtain ⟨e,_⟩:=x; exact qe e
 | tbl ps=>exact qe (show h.get? a=some _ from x)
 | met f y=>exact qe (show h.get? a=some _ from x)
 | ext φ=>obtain ⟨_,⟨_,e⟩,_⟩:=x; exact qe e
theorem Paired.mapP:∀ {l₁:List α} {l₂:List β},Paired F l₁ l₂->(∀ a b,F a b->G a b)->Paired G l₁ l₂
 | _,_,.nil,_=>.nil
 | _,_,.cons r t,f=>.cons (f _ _ r) (Paired.mapP t f)
theorem ObjOk.stay (x:ObjOk P w H h a o) (k:∀ b u,(b=a\/H b=some (.own a))->h.get? b=some u->h'.get? b=some u)
  (ho:∀ b,H b=some (.own a)->H' b=some (.own a)) (ht:∀ b xs,H b=some (.tup xs)->H' b=some (.tup xs)):ObjOk P w H' h' a o:=by
 induction o with
 | lst xs=>obtain ⟨z,its,n,r,e⟩:=x; exact ⟨z,its,n,r,k _ _ (.inl rfl) e⟩
 | tup xs=>obtain ⟨z,its,r,ob,e,c⟩:=x; exact ⟨z,its,r,ob,k _ _ (.inl rfl) e,c⟩
 | dK kvs=>obtain ⟨z,y,vs,r,ob,es,ep,e,c⟩:=x; exact ⟨z,y,vs,r,ob,es,ep,k _ _ (.inl rfl) e,c⟩
 | dT kvs=>
   obtain ⟨z,y,xs,r,ob,es,ep,e,c⟩:=x
   exact ⟨z,y,xs,Paired.mapP r fun p q z=>⟨z.1,ht _ _ z.2.1,z.2.2⟩,ob,es,ep,k _ _ (.inl rfl) e,c⟩
 | set vs=>
   rcases x with ⟨z,⟨n,e⟩ | ⟨n,xs,p,ob,es,ep,t,e,c⟩ | ⟨n,xs,p,hx,ob,es,ep,t,e,c⟩⟩
   ·exact ⟨z,.inl ⟨n,k _ _ (.inl rfl) e⟩⟩
   ·exact ⟨z,.inr (.inl ⟨n,xs,p,ob,es,ep,t,k _ _ (.inl rfl) e,c⟩)⟩
   ·exact ⟨z,.inr (.inr ⟨n,xs,p,fun q hq=>ht _ _ (hx q hq),ob,es,ep,t,k _ _ (.inl rfl) e,c⟩)⟩
 | ins C dx fs=>
   obtain ⟨d,z,ne,e,mA,⟨od,es,ep,e2,c⟩,r⟩:=x
   exact ⟨ho _ d,z,ne,k _ _ (.inl rfl) e,mA,⟨od,es,ep,k _ _ (.inr d) e2,c⟩,r⟩
 | own y=>obtain ⟨ob,e⟩:=x; exact ⟨ob,k _ _ (.inl rfl) e⟩
 | xd fs=>obtain ⟨mA,⟨od,es,ep,e,c⟩,r⟩:=x; exact ⟨mA,⟨od,es,ep,k _ _ (.inl rfl) e,c⟩,r⟩
 | rng lo hi=>obtain ⟨t,u,v,e⟩:=x; exact ⟨t,u,v,k _ _ (.inl rfl) e⟩
 | frz ob u ih=>obtain ⟨e,q⟩:=x; exact ⟨k _ _ (.inl rfl) e,ih q⟩
 | tbl ps=>
   have e:h.get? a=some { cls:=.none,data:=.fields ps }:=x
   show h'.get? a=some { cls:=.none,data:=.fields ps }
   exact k a _ (.inl rfl) e
 | met f y=>
   have e:h.get? a=some (W.methodObj (.ref f) (.ref y)):=x
   show h'.get? a=some (W.methodObj (.ref f) (.ref y))
   exact k a _ (.inl rfl) e
 | ext φ=>obtain ⟨p,⟨o,e⟩,st⟩:=x; exact ⟨st _ _ p fun o q=>k _ _ (.inl rfl) q,⟨o,k _ _ (.inl rfl) e⟩,st⟩
theorem HOk.lt (x:HOk P w H h) (e:H a=some o):a < h.objs.size:=(x a o e).lt
theorem HOk.fresh (x:HOk P w H h) (e:h.objs.size<=a):H a=none:=by
 cases q:H a with
 | none=>rfl
 | some u=>exact absurd (lt_of_lt_of_le (x.lt q) e) (lt_irrefl _)
theorem HOk.kept (x:HOk P w H h) (k:∀ b u,h.get? b=some u->h'.get? b=some u):HOk P w H h':=fun a o e=>
 (x a o e).stay (fun b u _ q=>k b u q) (fun _ q=>q) fun _ _ q=>q
theorem HOk.laid (x:HOk P w H h) (k:∀ b u,h.get? b=some u->h'.get? b=some u) (hp:h.objs.size<=a) (new:ObjOk P w (upd H a o) h' a o):HOk P w (upd H a o) h':=fun b u e=>by
 have hn:=x.fresh hp
 by_cases hb:b=a
 ·subst hb; rw [zai] at e; cases e; exact new
 ·rw [zaf hb] at e
  exact (x b u e).stay (fun c v _ q=>k c v q) (fun c q=>by rw [zaf (zaj q hn)]; exact q) fun c xs q=>by rw [zaf (zaj q hn)]; exact q
end
def Rd (H:Hp) (a:Addr) (u:HO):Prop:=H a=some u\/∃ o,H a=some (.frz o u)
theorem Rd.of (h:H a=some u):Rd H a u:=.inl h
theorem Rd.ok (r:Rd H a u) (x:HOk P w H h):ObjOk P w H h a u:=by
 rcases r with r | ⟨o,r⟩
 ·exact x a u r
 ·obtain ⟨_,q⟩:=x a _ r
  exact q
def Mut:Option HO->Prop
 | some (.lst _)=>True
 | some (.dK _)=>True
 | some (.dT _)=>True
 | some (.set _)=>True
 | some (.ins _ _ _)=>True
 | some (.ext _)=>True
 | _=>False
section
variable {P:Program} {w:World} {H:Hp} {h h':Heap} {x e:Addr} {o':HO}
theorem HOk.write (ok:HOk P w H h) (mu:Mut (H x)) (he:e=x\/H e=some (.own x)) (k:∀ b u,b≠e->h.get? b=some u->h'.get? b=some u) (heo:∃ u,h'.get? e=some u)
  (new:ObjOk P w (upd H x o') h' x o'):HOk P w (upd H x o') h':=fun b u q=>by
 have nown:∀ c y,H c=some (.own y)->c≠x:=fun c y r z=>by subst z; rw [r] at mu; exact mu
 have ntup:∀ c xs,H c=some (.tup xs)->c≠x:=fun c xs r z=>by subst z; rw [r] at mu; exact mu
 by_cases hb:b=x
 ·subst hb; rw [zai] at q; cases q; exact new
 ·rw [zaf hb] at q
  by_cases hbe:b=e
  ·have q':H b=some (.own x):=by
    grind
   rw [q] at q'; cases q'
   obtain ⟨v,hv⟩:=heo
   exact ⟨v,by rw [hbe]; exact hv⟩
  ·refine (ok b u q).stay (fun c v hc r=>k c v ?_ r) (fun c r=>by rw [zaf (nown c b r)]; exact r) fun c xs r=>by rw [zaf (ntup c xs r)]; exact r
   grind
end
structure Un (fs ex:List Addr) (H H':Hp) (h h':Heap):Prop where
 keep:∀ b o,h.get? b=some o->H b=none->b∉fs->b∉ex->h'.get? b=some o
 slot:∀ b o,h.get? b=some o->H b=none->b∈fs->b∉ex->∃ sl,h'.get? b=some { o with slots:=sl }
 free:∀ b o,h.get? b=some o->H b=none->b∉ex->H' b=none
 there:∀ b o,h.get? b=some o->b∉ex->∃ o',h'.get? b=some o'
 tups:∀ b xs,H b=some (.tup xs)->H' b=some (.tup xs)
 frzs:∀ b o u,H b=some (.frz o u)->H' b=some (.frz o u)
 tbls:∀ b ps,H b=some (.tbl ps)->∃ more,H' b=some (.tbl (ps++more))
section
variable {fs fs' ex ex':List Addr} {H H1 H2:Hp} {h h1 h2 h':Heap} {a x e:Addr} {o:HO}
theorem Un.any (u:Un fs ex H H1 h h1) (q:h.get? b=some ob) (n:H b=none) (hx:b∉ex):∃ sl,h1.get? b=some { ob with slots:=sl }:=by
 by_cases hb:b∈fs
 ·exact u.slot b ob q n hb hx
 ·exact ⟨ob.slots,u.keep b ob q n hb hx⟩
theorem Un.kept (k:∀ b u,h.get? b=some u->h'.get? b=some u):Un fs ex H H h h':=
 ⟨fun b ob q _ _ _=>k b ob q,fun b ob q _ _ _=>⟨ob.slots,k b ob q⟩,fun _ _ _ n _=>n,fun b ob q _=>⟨ob,k b ob q⟩,fun _ _ q=>q,fun _ _ _ q=>q,fun _ ps q=>⟨#[],by rw [q]; simp⟩⟩
theorem Un.refl:Un fs ex H H h h:=Un.kept fun _ _ q=>q
theorem Un.laid (k:∀ b u,h.get? b=some u->h'.get? b=some u) (hp:h.objs.size<=a) (hn:H a=none):Un fs ex H (upd H a o) h h' where
 keep:=fun b u q _ _ _=>k b u q
 slot:=fun b u q _ _ _=>⟨u.slots,k b u q⟩
 free:=fun b u q n _=>by rw [zaf (ne_of_lt (lt_of_lt_of_le (qe q) hp))]; exact n
 there:=fun b u q _=>⟨u,k b u q⟩
 tups:=fun b xs q=>by rw [zaf (zaj q hn)]; exact q
 frzs:=fun b u xs q=>by rw [zaf (zaj q hn)]; exact q
 tbls:=fun b ps q=>⟨#[],by rw [zaf (zaj q hn),q]; simp⟩
theorem Un.write (mu:Mut (H x)) (he:e=x\/H e=some (.own x)) (k:∀ b u,b≠e->h.get? b=some u->h'.get? b=some u) (heo:∃ u,h'.get? e=some u):Un fs ex H (upd H x o) h h':=by
 have hx:∀ b,H b=none->b≠x:=fun b n z=>by subst z; rw [n] at mu; exact mu
 have hb:∀ b,H b=none->b≠e:=fun b n z=>by
  grind
 have hm:∀ b u,H b=some u->¬ Mut (some u)->b≠x:=fun b u q nm z=>by subst z; rw [q] at mu; exact nm mu
 refine ⟨fun b u q n _ _=>k b u (hb b n) q,fun b u q n _ _=>⟨u.slots,k b u (hb b n) q⟩,fun b u q n _=>by rw [zaf (hx b n)]; exact n,fun b u q _=>?_,
  fun b xs q=>by rw [zaf (hm b _ q fun z=>z)]; exact q,fun b u xs q=>by rw [zaf (hm b _ q fun z=>z)]; exact q,fun b ps q=>⟨#[],by rw [zaf (hm b _ q fun z=>z),q]; simp⟩⟩
 grind
end
def trk (h:Heap) (H:Hp):List Addr:=(List.range h.objs.size).filter fun a=>(H a).isSome
def hidT (h:Heap) (H:Hp):Heap:=W.hideAll h (trk h H)
theorem zeS (h:Heap) (H:Hp):(hidT h H).objs.size=h.objs.size:=W.hideAll_size _ _
theorem zgW (e:h.get? b=some o) (n:H b=none):(hidT h H).get? b=some o:=
 W.hideAll_get _ e fun hm=>by
  have q:(H b).isSome=true:=(mem_filter.mp hm).2
  rw [n] at q; simp at q
theorem zhX (e:(hidT h H).get? b=some o):h.get? b=some o/\H b=none:=by
 have e':h.get? b=some o:=W.of_hideAll (trk h H) e
 refine ⟨e',?_⟩
 cases q:H b with
 | none=>rfl
 | some x=>
   grind [trk,mem_filter,mem_range,Heap.lt_size,hidT,W.hideAll_none]
def allNews (g h:Heap) (L:Addr):List (Addr×Obj):=(List.range h.objs.size).filterMap fun a=>if a=L\/(g.get? a).isSome=true then none else (h.get? a).map fun o=>(a,o)
theorem zdD (h1:a≠L) (h2:g.get? a=none) (h3:h.get? a=some o):(a,o)∈allNews g h L:=
 mem_filterMap.mpr ⟨a,mem_range.mpr (qe h3),by simp [h1,h2,h3]⟩
def rest (g h:Heap) (L d:Addr):List (Addr×Obj):=(allNews g h L).filter fun p=>decide (p.1≠d)
theorem zbH (h1:a≠L) (h2:g.get? a=none) (h3:h.get? a=some o) (h4:a≠d):(a,o)∈rest g h L d:=
 mem_filter.mpr ⟨zdD h1 h2 h3,decide_eq_true h4⟩
end L2
namespace L2
open PySem PySem.Spec PyProof.Rows
structure Mod (K:W.Frag) (mg:Str->Option Value) (base:Heap):Prop where
 kin:K.In base
 glob:base.Ns mainGlobals mg
 blt:∃ mb,base.Ns builtinsNs mb/\∀ x:Str,x≠"__name__"->mb x=bootBuiltins x
 nolimit:base.NoLimit
structure Cx where
 prog:Program
 w:World
 K:W.Frag
 mg:Str->Option Value
 base:Heap
 A:Around
 N:List Str
 s₀:Shared
 H₀:Hp
 env:Env
 outer:List Env
 stack:List Env
 ex:List Addr
 fn:Str->Bool
 calm:Bool
 pn:List (Addr×Obj)
 xe:Value->Shared->Prop
def frs (l:List Env):List Addr:=l.filterMap (·.frame)
abbrev Cx.fs (X:Cx):List Addr:=frs X.outer
def Vis (sc:Scope) (x:Str):Prop:=sc.names.lookup x=some .local\/sc.names.lookup x=some .cell\/sc.names.lookup x=some .free
def Loc (sc:Scope) (x:Str):Prop:=sc.names.lookup x=some .local\/sc.names.lookup x=some .cell
def Look (env:Env) (h:Heap) (m:Str->Option Value) (x:Str) (u:Value):Prop:=
 (env.kindOf x=some .local/\m x=some u)\/((env.kindOf x=some .cell\/env.kindOf x=some .free)/\∃ c,env.cells.lookup x=some c/\h.IsCell c (some u))
structure Cx.Ok (X:Cx):Prop where
 mod:Mod X.K X.mg X.base
 kind:X.env.scope.kind=.function
 glob:X.env.globals=mainGlobals
 blt:X.env.builtins=builtinsNs
 above:X.s₀.heap.objs.size<=X.env.locals
 inj:∀ x y c,X.env.cells.lookup x=some c->X.env.cells.lookup y=some c->x=y
 has:∀ x,(X.env.kindOf x=some .cell\/X.env.kindOf x=some .free)->∃ c,X.env.cells.lookup x=some c
 cab:∀ x c,X.fn x=true->X.env.cells.lookup x=some c->X.s₀.heap.objs.size<=c
 hd:X.calm=true->X.A.handled=none
 frames:X.A.frames=some X.stack
 stk:X.stack=X.outer\/(X.stack=X.env::X.outer/\X.env.frame=some X.env.locals)
 exf:∀ b∈X.ex,b≠X.env.locals/\∀ x c,X.env.cells.lookup x=some c->c≠b
 bs:∀ b o,X.base.get? b=some o->X.s₀.heap.get? b=some o/\X.H₀ b=none
 bsz:X.base.objs.size<=X.s₀.heap.objs.size
 noex:∀ b o,X.base.get? b=some o->b∉X.ex
 exfs:∀ b∈X.ex,b∉X.fs
 funs:X.s₀.heap.FunFrames X.base X.outer
 frf:∀ b∈X.fs,X.H₀ b=none
structure Inv (X:Cx) (pins:List (Addr×Obj)) (σ:List (Option V)) (H:Hp) (s:Shared):Prop where
 ok:X.Ok
 os:s.os=X.s₀.os
 bare:AllBare s.gens
 base:Un X.fs X.ex X.H₀ H X.s₀.heap s.heap
 loc:∃ m,s.heap.Ns X.env.locals m/\∀ (i:Nat) (x:Str) (v:V),X.N[i]?=some x->σ[i]?=some (some v)->Vis X.env.scope x->∃ u,RelV v u/\Look X.env s.heap m x u
 cell:∀ x c,X.env.cells.lookup x=some c->∃ v,s.heap.IsCell c v
 free:H X.env.locals=none
 freeC:∀ x c,X.env.cells.lookup x=some c->H c=none
 pin:∀ p∈X.pn++pins,s.heap.get? p.1=some p.2/\H p.1=none/\p.1≠X.env.locals/\p.1∉X.fs/\∀ v,p.2.data≠.cell v
 hok:HOk X.prog X.w H s.heap
 len:σ.length=X.N.length
section
variable {X:Cx} {pins:List (Addr×Obj)} {σ:List (Option V)} {H H':Hp} {s:Shared} {h':Heap}
theorem Cx.Ok.nofr (ok:X.Ok) (e:X.base.get? b=some o):b∉X.fs:=fun hb=>by
 have:=(ok.funs.mem hb).1
 rw [e] at this; cases this
theorem Inv.bs (I:Inv X pins σ H s):∀ b o,X.base.get? b=some o->s.heap.get? b=some o/\H b=none:=fun b o e=>
 ⟨I.base.keep b o (I.ok.bs b o e).1 (I.ok.bs b o e).2 (I.ok.nofr e) (I.ok.noex b o e),I.base.free b o (I.ok.bs b o e).1 (I.ok.bs b o e).2 (I.ok.noex b o e)⟩
theorem Inv.bk (I:Inv X pins σ H s):∀ b o,X.base.get? b=some o->s.heap.get? b=some o:=fun b o e=>(I.bs b o e).1
theorem Inv.mod (I:Inv X pins σ H s):Mod X.K X.mg X.base:=I.ok.mod
theorem Inv.kIn (I:Inv X pins σ H s):X.K.In s.heap:=I.ok.mod.kin.keeps I.bk
theorem Inv.fr (I:Inv X pins σ H s):∃ m,Fr X.base X.env.locals s.heap m:=
 let ⟨m,hn,_⟩:=I.loc
 ⟨m,hn,I.bk,le_trans I.ok.bsz I.ok.above⟩
theorem Inv.lt (I:Inv X pins σ H s):X.env.locals < s.heap.objs.size:=let ⟨_,hn,_⟩:=I.loc; hn.lt
theorem Inv.sz (I:Inv X pins σ H s):X.s₀.heap.objs.size<=s.heap.objs.size:=le_trans I.ok.above (le_of_lt I.lt)
theorem Inv.nofs (I:Inv X pins σ H s) (h:s.heap.objs.size<=a):a∉X.fs:=fun hb=>by
 obtain ⟨_,o,ho,_⟩:=I.ok.funs.mem hb
 exact absurd (lt_of_lt_of_le (qe ho) (le_trans I.sz h)) (lt_irrefl _)
theorem Inv.cne (I:Inv X pins σ H s):∀ x c,X.env.cells.lookup x=some c->c≠X.env.locals:=fun x c e z=>by
 obtain ⟨v,o,ho,hd⟩:=I.cell x c e
 obtain ⟨m,⟨o',es,ep,ho',hd',_⟩,_⟩:=I.loc
 rw [z,ho'] at ho; cases ho; rw [hd'] at hd; cases hd
theorem Inv.funs (I:Inv X pins σ H s):s.heap.FunFrames X.base X.outer:=by
 have all:∀ (l:List Env),(∀ b∈frs l,b∈X.fs)->X.s₀.heap.FunFrames X.base l->s.heap.FunFrames X.base l:=by
  intro l
  induction l with
  | nil=>intro _ _; trivial
  | cons env r ih=>
    intro hs hl
    obtain ⟨hk,⟨L,o,hf,hn,ho,hd⟩,hr⟩:=hl
    have hL:L∈X.fs:=hs L (by unfold frs; rw [filterMap_cons,hf]; exact qo)
    obtain ⟨sl,e⟩:=I.base.slot L o ho (I.ok.frf L hL) hL fun z=>I.ok.exfs L z hL
    exact ⟨hk,⟨L,_,hf,hn,e,hd⟩,ih (fun b hb=>hs b (by unfold frs; rw [filterMap_cons,hf]; exact qm _ hb)) hr⟩
 exact all X.outer (fun _ hb=>hb) I.ok.funs
theorem Inv.stack (I:Inv X pins σ H s):s.heap.FunFrames X.base X.stack:=by
 rcases I.ok.stk with e | ⟨e,hf⟩
 ·rw [e]; exact I.funs
 ·rw [e]
  obtain ⟨m,hn,_⟩:=I.loc
  refine .cons (by rw [I.ok.kind]; decide) hf hn ?_ I.funs
  exact Heap.get?_none_of_le (le_trans I.ok.bsz I.ok.above)
theorem Inv.stkSub (I:Inv X pins σ H s):∀ b∈frs X.stack,b∈X.env.locals::X.fs:=fun b hb=>by
 rcases I.ok.stk with e | ⟨e,hf⟩
 ·rw [e] at hb; exact qm _ hb
 ·rw [e] at hb
  unfold frs at hb
  rw [filterMap_cons,hf] at hb
  exact hb
theorem Inv.stkFree (I:Inv X pins σ H s):∀ b∈frs X.stack,H b=none:=fun b hb=>by
 rcases mem_cons.mp (I.stkSub b hb) with e | hb
 ·rw [e]; exact I.free
 ·obtain ⟨_,o,ho,_⟩:=I.ok.funs.mem hb
  exact I.base.free b o ho (I.ok.frf b hb) fun z=>I.ok.exfs b z hb
theorem Inv.step {ch:List Addr} (I:Inv X pins σ H s)
  (hch:∀ b∈ch,(b∈X.ex\/X.s₀.heap.get? b=none)/\b≠X.env.locals/\(∀ x c,X.env.cells.lookup x=some c->c≠b)/\∀ p∈X.pn++pins,p.1≠b)
  (keep:∀ b o,b≠X.env.locals->b∉X.fs->b∉ch->s.heap.get? b=some o->H b=none->h'.get? b=some o)
  (slot:∀ b o,b≠X.env.locals->b∈X.fs->b∉ch->s.heap.get? b=some o->H b=none->∃ sl,h'.get? b=some { o with slots:=sl }) (free:∀ b o,b∉ch->s.heap.get? b=some o->H b=none->H' b=none)
  (there:∀ b o,b∉ch->s.heap.get? b=some o->∃ o',h'.get? b=some o')
  (tups:∀ b xs,H b=some (.tup xs)->H' b=some (.tup xs)) (frzs:∀ b o u,H b=some (.frz o u)->H' b=some (.frz o u)) (tbls:∀ b ps,H b=some (.tbl ps)->∃ more,H' b=some (.tbl (ps++more)))
  (ns:∀ m,s.heap.Ns X.env.locals m->h'.Ns X.env.locals m) (hok:HOk X.prog X.w H' h') (hg:AllBare g'):
  Inv X pins σ H' { s with heap:=h',gens:=g',drawn:=d',toks:=t' }:=by
 have neL:∀ b o,X.s₀.heap.get? b=some o->b≠X.env.locals:=fun b o e=>ne_of_lt (lt_of_lt_of_le (qe e) I.ok.above)
 have neC:∀ b o,X.s₀.heap.get? b=some o->b∉X.ex->b∉ch:=fun b o e hx hb=>by
  rcases (hch b hb).1 with z | z
  ·exact hx z
  ·rw [z] at e; cases e
 have cellK:∀ x c,X.env.cells.lookup x=some c->∀ v,s.heap.IsCell c v->h'.IsCell c v:=fun x c e v ⟨o,ho,hd⟩=>by
  have nch:c∉ch:=fun z=>(hch c z).2.2.1 x c e rfl
  by_cases hc:c∈X.fs
  ·obtain ⟨sl,q⟩:=slot c o (I.cne x c e) hc nch ho (I.freeC x c e)
   exact ⟨_,q,hd⟩
  ·exact ⟨o,keep c o (I.cne x c e) hc nch ho (I.freeC x c e),hd⟩
 refine ⟨I.ok,I.os,hg,⟨fun b o e n hb hx=>?_,fun b o e n hb hx=>?_,fun b o e n hx=>?_,fun b o e hx=>?_,fun b xs e=>tups b xs (I.base.tups b xs e),fun b o xs e=>frzs b o xs (I.base.frzs b o xs e),fun b ps e=>?_⟩,?_,fun x c e=>?_,?_,fun x c e=>?_,fun p hp=>?_,hok,I.len⟩
 ·exact keep b o (neL b o e) hb (neC b o e hx) (I.base.keep b o e n hb hx) (I.base.free b o e n hx)
 ·obtain ⟨sl,e1⟩:=I.base.slot b o e n hb hx
  obtain ⟨sl',e2⟩:=slot b _ (neL b o e) hb (neC b o e hx) e1 (I.base.free b o e n hx)
  exact ⟨sl',e2⟩
 ·obtain ⟨o',e1⟩:=I.base.there b o e hx
  exact free b o' (neC b o e hx) e1 (I.base.free b o e n hx)
 ·obtain ⟨o',e1⟩:=I.base.there b o e hx
  exact there b o' (neC b o e hx) e1
 ·obtain ⟨m1,e1⟩:=I.base.tbls b ps e
  obtain ⟨m2,e2⟩:=tbls b _ e1
  exact ⟨m1++m2,by rw [e2,Array.append_assoc]⟩
 ·obtain ⟨m,hn,hl⟩:=I.loc
  refine ⟨m,ns m hn,fun i x v e1 e2 e3=>?_⟩
  obtain ⟨u,r,l⟩:=hl i x v e1 e2 e3
  refine ⟨u,r,?_⟩
  rcases l with l | ⟨k,c,e,z⟩
  ·exact .inl l
  ·exact .inr ⟨k,c,e,cellK x c e _ z⟩
 ·obtain ⟨v,z⟩:=I.cell x c e
  exact ⟨v,cellK x c e v z⟩
 ·obtain ⟨m,⟨o,_,_,ho,_⟩,_⟩:=I.loc
  exact free _ o (fun z=>(hch _ z).2.1 rfl) ho I.free
 ·obtain ⟨v,o,ho,hd⟩:=I.cell x c e
  exact free c o (fun z=>(hch c z).2.2.1 x c e rfl) ho (I.freeC x c e)
 ·obtain ⟨e,n,ne,nf,d⟩:=I.pin p hp
  have nch:p.1∉ch:=fun z=>(hch p.1 z).2.2.2 p hp rfl
  exact ⟨keep p.1 p.2 ne nf nch e n,free p.1 p.2 nch e n,ne,nf,d⟩
theorem Inv.un (I:Inv X pins σ H s) (u:Un X.fs [] H H' s.heap h') (hok:HOk X.prog X.w H' h'):Inv X pins σ H' { s with heap:=h',toks:=t' }:=by
 obtain ⟨m,⟨o,es,ep,ho,r⟩,_⟩:=id I.loc
 obtain ⟨sl,hL⟩:=u.any ho I.free (by simp)
 exact I.step (g':=s.gens) (d':=s.drawn) (ch:=[]) (fun _ z=>nomatch z) (fun b o _ hb _ e n=>u.keep b o e n hb (by simp)) (fun b o _ hb _ e n=>u.slot b o e n hb (by simp)) (fun b o _ e n=>u.free b o e n (by simp)) (fun b o _ e=>u.there b o e (by simp)) u.tups u.frzs u.tbls (fun m' hm=>by
  obtain ⟨o',es',ep',ho',r'⟩:=hm
  rw [ho] at ho'; cases ho'
  exact ⟨_,es',ep',hL,r'⟩) hok I.bare
theorem Inv.call (I:Inv X pins σ H s) (u:Un (frs X.stack) ch H H' s.heap h') (hok:HOk X.prog X.w H' h') (hg:AllBare g')
  (hch:∀ b∈ch,(b∈X.ex\/X.s₀.heap.get? b=none)/\b≠X.env.locals/\(∀ x c,X.env.cells.lookup x=some c->c≠b)/\∀ p∈X.pn++pins,p.1≠b):
  Inv X pins σ H' { s with heap:=h',gens:=g',drawn:=d',toks:=t' }:=by
 obtain ⟨m,⟨o,es,ep,ho,r⟩,_⟩:=id I.loc
 obtain ⟨sl,hL⟩:=u.any ho I.free fun z=>(hch _ z).2.1 rfl
 exact I.step (ch:=ch) hch (fun b o hL hb hc e n=>u.keep b o e n (fun z=>(mem_cons.mp (I.stkSub b z)).elim hL hb) hc) (fun b o _ _ hc e n=>u.any e n hc) (fun b o hc e n=>u.free b o e n hc) (fun b o hc e=>u.there b o e hc) u.tups u.frzs u.tbls (fun m' hm=>by
  obtain ⟨o',es',ep',ho',r'⟩:=hm
  rw [ho] at ho'; cases ho'
  exact ⟨_,es',ep',hL,r'⟩) hok hg
theorem Inv.turned (I:Inv X pins σ H s) (k:∀ b o,b≠it->s.heap.get? b=some o->h'.get? b=some o) (hn:H it=none) (hL:it≠X.env.locals)
  (h1:it∈X.ex\/X.s₀.heap.get? it=none) (h2:∀ x c,X.env.cells.lookup x=some c->c≠it) (h3:∀ p∈X.pn++pins,p.1≠it):Inv X pins σ H { s with heap:=h',toks:=t' }:=by
 have nit:∀ b u,H b=some u->b≠it:=fun b u e z=>by rw [z,hn] at e; cases e
 refine I.step (g':=s.gens) (d':=s.drawn) (ch:=[it]) (fun b hb=>?_) (fun b o _ _ hc e _=>k b o (fun z=>hc (by simp [z])) e) (fun b o _ _ hc e _=>⟨o.slots,k b o (fun z=>hc (by simp [z])) e⟩) (fun _ _ _ _ n=>n)
  (fun b o hc e=>⟨o,k b o (fun z=>hc (by simp [z])) e⟩) (fun _ _ e=>e) (fun _ _ _ e=>e) (fun b ps e=>⟨#[],by rw [e]; simp⟩) (fun m hm=>?_) (fun b u e=>?_) I.bare
 ·have e:b=it:=by simpa using hb
  subst e
  exact ⟨h1,hL,h2,h3⟩
 ·obtain ⟨o,es,ep,ho,r⟩:=hm
  exact ⟨o,es,ep,k _ o (Ne.symm hL) ho,r⟩
 ·refine (I.hok b u e).stay (fun c v hc q=>k c v ?_ q) (fun _ q=>q) fun _ _ q=>q
  rcases hc with z | z
  ·rw [z]; exact nit b u e
  ·exact nit c _ z
theorem Inv.tok (I:Inv X pins σ H s) (t:Nat):Inv X pins σ H { s with toks:=t }:=I.un (h':=s.heap) (t':=t) Un.refl I.hok
theorem Inv.kept (I:Inv X pins σ H s) (k:∀ b u,s.heap.get? b=some u->h'.get? b=some u):Inv X pins σ H { s with heap:=h',toks:=t' }:=I.un (Un.kept k) (I.hok.kept k)
theorem Inv.laid (I:Inv X pins σ H s) (k:∀ b u,s.heap.get? b=some u->h'.get? b=some u) (hp:s.heap.objs.size<=a) (new:ObjOk X.prog X.w (upd H a o) h' a o):
  Inv X pins σ (upd H a o) { s with heap:=h',toks:=t' }:=I.un (Un.laid k hp (I.hok.fresh hp)) (I.hok.laid k hp new)
theorem Inv.write (I:Inv X pins σ H s) (mu:Mut (H x)) (he:e=x\/H e=some (.own x)) (k:∀ b u,b≠e->s.heap.get? b=some u->h'.get? b=some u) (heo:∃ u,h'.get? e=some u)
  (new:ObjOk X.prog X.w (upd H x o) h' x o):Inv X pins σ (upd H x o) { s with heap:=h',toks:=t' }:=I.un (Un.write mu he k heo) (I.hok.write mu he k heo new)
theorem Inv.pins_of (I:Inv X pins σ H s) (h:∀ p∈pins',s.heap.get? p.1=some p.2/\H p.1=none/\p.1≠X.env.locals/\p.1∉X.fs/\∀ v,p.2.data≠.cell v):Inv X pins' σ H s:=
 ⟨I.ok,I.os,I.bare,I.base,I.loc,I.cell,I.free,I.freeC,fun p hp=>(mem_append.mp hp).elim (fun z=>I.pin p (qk _ z)) (h p),I.hok,I.len⟩
theorem zcm {N:List Str} (hN:N.Nodup) {i j:Nat} (a:N[i]?=some x) (b:N[j]?=some x):i=j:=by
 obtain ⟨h1,e1⟩:=qh.mp a
 obtain ⟨h2,e2⟩:=qh.mp b
 exact (List.getElem_inj hN).mp (e1.trans e2.symm)
theorem zfa (I:Inv X pins σ H s) (hN:X.N.Nodup) (hi:X.N[i]?=some x) (hx:Loc X.env.scope x) (r:RelV v u)
  (h:∀ s',Inv X pins (σ.set i (some v)) H s'->(∃ a,Heap.SameBut a s.heap s'.heap/\(a=X.env.locals\/X.env.cells.lookup x=some a))->Q () s') (hf:X.fn x=true\/X.env.scope.names.lookup x=some .local:=by first | exact .inl rfl | exact .inr rfl | assumption):wpAny M A (storeName X.env x u) Q E s:=by
 obtain ⟨m,hn,hl⟩:=id I.loc
 have hcls:(X.env.scope.kind == .class || (X.env.scope.kind == .module && X.env.locals !=X.env.globals))=false:=by rw [I.ok.kind]; rfl
 have hiσ:i < σ.length:=by rw [I.len]; exact (qh.mp hi).1
 have cne:=I.cne
 have tracked:∀ {a:Addr} {h':Heap},(∃ o,s.heap.get? a=some o/\H a=none)->Heap.SameBut a s.heap h'->HOk X.prog X.w H h':=fun {a h'} ha hs b ob e=>by
  obtain ⟨_,_,hfree⟩:=ha
  refine (I.hok b ob e).stay (fun c w' hc q=>(hs.2 c ?_).trans q) (fun _ q=>q) fun _ _ q=>q
  rintro rfl
  rcases hc with rfl | hc
  ·rw [hfree] at e; cases e
  ·rw [hfree] at hc; cases hc
 rcases hx with hk | hk
 ·refine wpAny_storeName_local hk hn (fun h' hn' hs=>?_) hcls
  obtain ⟨oL,_,_,hoL,_⟩:=id hn
  refine h _ ⟨I.ok,I.os,I.bare,⟨fun b o e n hb hx=>?_,fun b o e n hb hx=>?_,I.base.free,fun b o e hx=>?_,I.base.tups,I.base.frzs,I.base.tbls⟩,⟨_,hn',fun j y v' e1 e2 e3=>?_⟩,fun y c e=>?_,I.free,I.freeC,fun p hp=>?_,tracked ⟨oL,hoL,I.free⟩ hs,by simpa using I.len⟩ ⟨_,hs,.inl rfl⟩
  ·exact (hs.2 b (ne_of_lt (lt_of_lt_of_le (qe e) I.ok.above))).trans (I.base.keep b o e n hb hx)
  ·obtain ⟨sl,e1⟩:=I.base.slot b o e n hb hx
   exact ⟨sl,(hs.2 b (ne_of_lt (lt_of_lt_of_le (qe e) I.ok.above))).trans e1⟩
  ·obtain ⟨o',e1⟩:=I.base.there b o e hx
   exact ⟨o',(hs.2 b (ne_of_lt (lt_of_lt_of_le (qe e) I.ok.above))).trans e1⟩
  ·by_cases hj:j=i
   ·subst hj
    rw [hi] at e1; cases e1
    rw [getElem?_set_self hiσ] at e2
    cases e2
    exact ⟨u,r,.inl ⟨hk,by simp⟩⟩
   ·rw [getElem?_set_ne (Ne.symm hj)] at e2
    obtain ⟨u',r',q⟩:=hl j y v' e1 e2 e3
    refine ⟨u',r',?_⟩
    rcases q with ⟨k,e⟩ | ⟨k,c,e,z⟩
    ·refine .inl ⟨k,?_⟩
     have:y≠x:=fun e=>hj (zcm hN e1 (e ▸ hi))
     simp [this,e]
    ·exact .inr ⟨k,c,e,z.sameBut hs (cne y c e)⟩
  ·obtain ⟨w',z⟩:=I.cell y c e
   exact ⟨w',z.sameBut hs (cne y c e)⟩
  ·obtain ⟨e,n,ne,nf,d⟩:=I.pin p hp
   exact ⟨(hs.2 p.1 ne).trans e,n,ne,nf,d⟩
 ·have hfn:X.fn x=true:=by
   rcases hf with z | z
   ·exact z
   ·rw [z] at hk; cases hk
  obtain ⟨c,hc⟩:=I.ok.has x (.inl hk)
  obtain ⟨w',z⟩:=I.cell x c hc
  refine wpAny_storeName_cell I.ok.kind hk hc z (fun h' hc' hs=>?_)
  obtain ⟨oc,hoc,hocd⟩:=id z
  refine h { s with heap:=h' } ⟨I.ok,I.os,I.bare,⟨fun b o e n hb hx=>?_,fun b o e n hb hx=>?_,I.base.free,fun b o e hx=>?_,I.base.tups,I.base.frzs,I.base.tbls⟩,⟨m,hn.sameBut hs (Ne.symm (cne x c hc)),fun j y v' e1 e2 e3=>?_⟩,fun y c' e=>?_,I.free,I.freeC,fun p hp=>?_,tracked ⟨oc,hoc,I.freeC x c hc⟩ hs,by simpa using I.len⟩ ⟨c,hs,.inr hc⟩
  ·exact (hs.2 b (ne_of_lt (lt_of_lt_of_le (qe e) (I.ok.cab x c hfn hc)))).trans (I.base.keep b o e n hb hx)
  ·obtain ⟨sl,e1⟩:=I.base.slot b o e n hb hx
   exact ⟨sl,(hs.2 b (ne_of_lt (lt_of_lt_of_le (qe e) (I.ok.cab x c hfn hc)))).trans e1⟩
  ·obtain ⟨o',e1⟩:=I.base.there b o e hx
   exact ⟨o',(hs.2 b (ne_of_lt (lt_of_lt_of_le (qe e) (I.ok.cab x c hfn hc)))).trans e1⟩
  ·by_cases hj:j=i
   ·subst hj
    rw [hi] at e1; cases e1
    rw [getElem?_set_self hiσ] at e2
    cases e2
    exact ⟨u,r,.inr ⟨.inl hk,c,hc,hc'⟩⟩
   ·rw [getElem?_set_ne (Ne.symm hj)] at e2
    obtain ⟨u',r',q⟩:=hl j y v' e1 e2 e3
    refine ⟨u',r',?_⟩
    rcases q with q | ⟨k,c',e,z'⟩
    ·exact .inl q
    ·refine .inr ⟨k,c',e,z'.sameBut hs ?_⟩
     rintro rfl
     exact hj (zcm hN e1 (I.ok.inj _ _ _ e hc ▸ hi))
  ·by_cases hcc:c'=c
   ·subst hcc; exact ⟨_,hc'⟩
   ·obtain ⟨w2,z2⟩:=I.cell y c' e
    exact ⟨w2,z2.sameBut hs hcc⟩
  ·obtain ⟨e,n,ne,nf,d⟩:=I.pin p hp
   refine ⟨(hs.2 p.1 ?_).trans e,n,ne,nf,d⟩
   intro q
   rw [q,hoc] at e
   have q':oc=p.2:=qg e
   exact d w' (by rw [<- q']; exact hocd)
theorem zdY (I:Inv X pins σ H s) (hN:X.N.Nodup) (hi:X.N[i]?=some x) (hx:Loc X.env.scope x) (r:RelV v u)
  (h:∀ s',Inv X pins (σ.set i (some v)) H s'->Q () s') (hf:X.fn x=true\/X.env.scope.names.lookup x=some .local:=by first | exact .inl rfl | exact .inr rfl | assumption):wpAny M A (storeName X.env x u) Q E s:=
 zfa I hN hi hx r (fun s' I' _=>h s' I') hf
theorem Inv.call' (I:Inv X pins σ H s) (ho:s'.os=s.os) (u:Un (frs X.stack) ch H H' s.heap s'.heap) (hok:HOk X.prog X.w H' s'.heap) (hg:AllBare s'.gens)
  (hch:∀ b∈ch,(b∈X.ex\/X.s₀.heap.get? b=none)/\b≠X.env.locals/\(∀ x c,X.env.cells.lookup x=some c->c≠b)/\∀ p∈X.pn++pins,p.1≠b):Inv X pins σ H' s':=by
 obtain ⟨h',g',d',t',o'⟩:=s'
 have e:o'=s.os:=ho
 subst e
 exact I.call (g':=g') (t':=t') (d':=d') u hok hg hch
end
abbrev XK:=Value->Option Addr->Hp->Prop
abbrev St:=List (Option V)
abbrev VK:=V->Hp->Prop
abbrev TE:=St->Hp->VK->Prop
abbrev TT:=St->Hp->(Bool->Hp->Prop)->Prop
abbrev TA:=St->Hp->(List V->Hp->Prop)->Prop
structure Ends where
 nx:St->Hp->Prop
 rt:VK
 bk:St->Hp->Prop:=fun _ _=>False
 ct:St->Hp->Prop:=fun _ _=>False
abbrev TS:=Ends->St->Hp->Prop
def EP (X:Cx) (pins:List (Addr×Obj)) (σ:St) (Q:VK) (u:Value) (s':Shared):Prop:=∃ v H',Inv X pins σ H' s'/\RelV v u/\Q v H'
def TP (X:Cx) (pins:List (Addr×Obj)) (σ:St) (Q:Bool->Hp->Prop) (b:Bool) (s':Shared):Prop:=∃ H',Inv X pins σ H' s'/\Q b H'
def AP (X:Cx) (pins:List (Addr×Obj)) (σ:St) (Q:List V->Hp->Prop) (us:List Value) (s':Shared):Prop:=∃ vs H',Inv X pins σ H' s'/\Vals vs us/\Q vs H'
def SP (X:Cx) (pins:List (Addr×Obj)) (D:Ends) (f:Flow) (s':Shared):Prop:=
 match f with
 | .next=>∃ σ' H',Inv X pins σ' H' s'/\D.nx σ' H'
 | .brk=>∃ σ' H',Inv X pins σ' H' s'/\D.bk σ' H'
 | .cont=>∃ σ' H',Inv X pins σ' H' s'/\D.ct σ' H'
 | .ret u=>∃ v σ' H',Inv X pins σ' H' s'/\RelV v u/\D.rt v H'
def PE (X:Cx) (e:Expr) (t:TE):Prop:=
 ∀ (pins:List (Addr×Obj)) (s:Shared) (σ:St) (H:Hp) (Q:VK),Inv X pins σ H s->t σ H Q->wpAny (model X.prog X.w) X.A (eval e X.env) (EP X pins σ Q) X.xe s
def PT (X:Cx) (e:Expr) (t:TT):Prop:=
 ∀ (pins:List (Addr×Obj)) (s:Shared) (σ:St) (H:Hp) (Q:Bool->Hp->Prop),Inv X pins σ H s->t σ H Q->wpAny (model X.prog X.w) X.A (isTrue e X.env (eval e X.env)) (TP X pins σ Q) X.xe s
def PW (X:Cx) (e:Expr) (t:TT):Prop:=
 ∀ (whole:Sem Value) (pins:List (Addr×Obj)) (s:Shared) (σ:St) (H:Hp) (Q:Bool->Hp->Prop),Inv X pins σ H s->t σ H Q->wpAny (model X.prog X.w) X.A (isTrue e X.env whole) (TP X pins σ Q) X.xe s
theorem PW.pt (h:PW X e t):PT X e t:=h _
def PA (X:Cx) (es:List Expr) (t:TA):Prop:=
 ∀ (pos:Pos) (pins:List (Addr×Obj)) (s:Shared) (σ:St) (H:Hp) (Q:List V->Hp->Prop),Inv X pins σ H s->t σ H Q->wpAny (model X.prog X.w) X.A (spliced (backTo pos (starEach es X.env))) (AP X pins σ Q) X.xe s
def PS (X:Cx) (st:Stmt) (t:TS):Prop:=
 ∀ (pins:List (Addr×Obj)) (s:Shared) (σ:St) (H:Hp) (D:Ends),Inv X pins σ H s->t D σ H->wpAny (model X.prog X.w) X.A (exec st X.env) (SP X pins D) X.xe s
def PSs (X:Cx) (st:List Stmt) (t:TS):Prop:=
 ∀ (pins:List (Addr×Obj)) (s:Shared) (σ:St) (H:Hp) (D:Ends),Inv X pins σ H s->t D σ H->wpAny (model X.prog X.w) X.A (execs st X.env) (SP X pins D) X.xe s
theorem thn (h:wpAny M A t Q E s) (hQ:∀ a s,Q a s->Q' a s):wpAny M A t Q' E s:=wpAny_mono h hQ fun _ _ x=>x
end L2
namespace L2
open PySem PySem.Spec PyProof.Rows
section
variable {X:Cx}
def tVar (i:Nat):TE:=fun σ H Q=>∃ v,σ[i]?=some (some v)/\Q v H
def tC (v:V):TE:=fun _ H Q=>Q v H
theorem zjP (hN:X.N[i]?=some x) (hv:Vis X.env.scope x) (hd:(x == ("__debug__":Str))=false:=by decide) (hcd:(x == ("__classdict__":Str))=false:=by decide):PE X (.Name x pos) (tVar i):=by
 intro pins s σ H Q I h
 obtain ⟨v,e,h⟩:=h
 obtain ⟨m,hn,hl⟩:=I.loc
 obtain ⟨u,r,l⟩:=hl i x v hN e hv
 have fin:EP X pins σ Q u s:=⟨v,H,I,r,h⟩
 rcases l with ⟨hk,hm⟩ | ⟨hk,c,hc,hcell⟩
 ·exact wpAny_Name (wpAny_loadName_local I.ok.kind hk hn hm fin) hd
 ·rcases hk with hk | hk
  ·exact wpAny_Name (wpAny_loadName_cell I.ok.kind hk hc hcell fin) hd
  ·exact wpAny_Name (wpAny_loadName_free I.ok.kind hk hc hcell fin hcd) hd
theorem zkw:PE X (.Constant (.int i) j pos) (tC (.int i)):=fun _ _ _ H _ I h=>wpAny_Constant_int ⟨.int i,H,I.tok _,⟨_,rfl⟩,h⟩
theorem zlY:PE X (.Constant (.bool b) j pos) (tC (.bl b)):=fun _ _ _ H _ I h=>Constant_bool ⟨.bl b,H,I,rfl,h⟩
theorem zi8:PE X (.Constant (.str x) j pos) (tC (.str x)):=fun _ _ _ H _ I h=>Calls.Constant_str ⟨.str x,H,I.tok _,⟨_,rfl⟩,h⟩
def Gl (X:Cx) (x:Str):Prop:=X.env.kindOf x=some .globalImplicit
theorem zh0 (I:Inv X pins σ H s) (hg:Gl X x) (hm:X.mg x=some u) (h:Q u s)
  (hd:(x == ("__debug__":Str))=false:=by decide):wpAny (model X.prog X.w) X.A (eval (.Name x pos) X.env) Q E s:=
 Calls.Name_function_global I.ok.kind hg (Calls.loadGlobal_global (by rw [I.ok.glob]; exact I.mod.glob.keeps I.bk) hm h) hd
theorem zcE (I:Inv X pins σ H s) (hg:Gl X x) (hm:X.mg x=none) (hv:bootBuiltins x=some u) (h:Q u s)
  (hn:x≠"__name__":=by decide) (hd:(x == ("__debug__":Str))=false:=by decide):wpAny (model X.prog X.w) X.A (eval (.Name x pos) X.env) Q E s:=by
 obtain ⟨mb,h1,h2⟩:=I.mod.blt
 exact Calls.Name_function_global I.ok.kind hg (Calls.loadGlobal_builtin (by rw [I.ok.glob]; exact I.mod.glob.keeps I.bk) hm (by rw [I.ok.blt]; exact h1.keeps I.bk) ((h2 x hn).trans hv) h) hd
variable {a b:Expr} {ta tb:TE} {pos:Pos}
variable {tA tB':TT} {rest:List Expr}
def tAnd (t u:TT):TT:=fun σ H Q=>t σ H fun c H1=>if c=true then u σ H1 Q else Q false H1
def tOr (t u:TT):TT:=fun σ H Q=>t σ H fun c H1=>if c=true then Q true H1 else u σ H1 Q
def tNot (t:TT):TT:=fun σ H Q=>t σ H fun c H1=>Q (!c) H1
theorem zh7 (ha:PT X a tA):PW X (.BoolOp .And [a] pos) tA:=by
 intro wh pins s σ H Q I h
 refine isTrue_and (thn (ha pins s σ H Q I h) fun c s1 e=>?_)
 cases c with
 | true=>exact isTrue_and_nil e
 | false=>exact e
theorem zkI (ha:PT X a tA):PW X (.BoolOp .Or [a] pos) tA:=by
 intro wh pins s σ H Q I h
 refine isTrue_or (thn (ha pins s σ H Q I h) fun c s1 e=>?_)
 cases c with
 | false=>exact isTrue_or_nil e
 | true=>exact e
theorem zkY (ha:PT X a tA) (hb:PW X (.BoolOp .And (b::rest) pos) tB'):PW X (.BoolOp .And (a::b::rest) pos) (tAnd tA tB'):=by
 intro wh pins s σ H Q I h
 refine isTrue_and (thn (ha pins s σ H _ I h) fun c s1 zq=>?_)
 obtain ⟨H1,I1,q1⟩:=zq
 cases c with
 | true=>exact hb wh pins s1 σ H1 Q I1 q1
 | false=>exact ⟨H1,I1,q1⟩
theorem zmD (ha:PT X a tA) (hb:PW X (.BoolOp .Or (b::rest) pos) tB'):PW X (.BoolOp .Or (a::b::rest) pos) (tOr tA tB'):=by
 intro wh pins s σ H Q I h
 refine isTrue_or (thn (ha pins s σ H _ I h) fun c s1 zq=>?_)
 obtain ⟨H1,I1,q1⟩:=zq
 cases c with
 | true=>exact ⟨H1,I1,q1⟩
 | false=>exact hb wh pins s1 σ H1 Q I1 q1
theorem zjt (ha:PT X a tA):PT X (.UnaryOp .Not a pos) (tNot tA):=by
 intro pins s σ H Q I h
 exact isTrue_not (ha pins s σ H (fun c H1=>Q (!c) H1) I h)
def tAndV (ta tb:TE):TE:=fun σ H Q=>ta σ H fun x H1=>∃ c,x=.bl c/\if c=true then tb σ H1 Q else Q (.bl false) H1
theorem ziA (h:PE X a t):PE X (.BoolOp op [a] pos) t:=by first | rfl | assumption | (simp_all; done)
theorem zkx (ha:PE X a ta) (hb:PE X (.BoolOp .And (b::rest) pos) tb):PE X (.BoolOp .And (a::b::rest) pos) (tAndV ta tb):=by
 intro pins s σ H Q I h
 refine BoolOp_and (thn (ha pins s σ H _ I h) fun v s1 zq=>?_)
 obtain ⟨x,H1,I1,r1,q1⟩:=zq
 obtain ⟨c,rfl,q1⟩:=q1
 cases r1
 refine wpAny_truthy_bool ?_
 cases c with
 | true=>exact hb pins s1 σ H1 Q I1 q1
 | false=>exact ⟨.bl false,H1,I1,rfl,q1⟩
def tIf (t:TT) (ta tb:TE):TE:=fun σ H Q=>t σ H fun c H1=>if c=true then ta σ H1 Q else tb σ H1 Q
theorem zgb (hc:PT X c tA) (ha:PE X a ta) (hb:PE X b tb):PE X (.IfExp c a b pos) (tIf tA ta tb):=by
 intro pins s σ H Q I h
 refine wpAny_IfExp (thn (hc pins s σ H _ I h) fun d s1 zq=>?_)
 obtain ⟨H1,I1,q1⟩:=zq
 cases d with
 | true=>exact ha pins s1 σ H1 Q I1 q1
 | false=>exact hb pins s1 σ H1 Q I1 q1
end
end L2
namespace L2
open PySem PySem.Spec PyProof.Rows
def SqL (K:W.Frag) (H:Hp) (a:Addr) (xs:List V):Prop:=
 Rd H a (.lst xs)\/
  ∃ (o:Obj) (its:Array Value) (n:Nat),K.lookup a=some o/\o.cls=.type "list"/\o.dict=none/\o.data=.seq its n/\its.size<=sizeLine/\Vals xs its.toList
def SqT (K:W.Frag) (H:Hp) (a:Addr) (xs:List V):Prop:=
 Rd H a (.tup xs)\/
  ∃ (o:Obj) (its:Array Value) (n:Nat),K.lookup a=some o/\o.cls=.type "tuple"/\o.data=.seq its n/\its.size<=sizeLine/\Vals xs its.toList
def absV:Value->Option V
 | .none=>some .non
 | .bool b=>some (.bl b)
 | .int i _=>some (.int i)
 | .str x _=>some (.str x)
 | .bytes b _=>some (.byt b)
 | .float b _=>some (.flt b)
 | .ref a=>some (.ref a)
 | .type n=>some (.ty n)
 | _=>none
theorem RelV.abs (r:RelV x u):absV u=some x:=by
 cases x with
 | non=>cases r; rfl
 | bl _=>cases r; rfl
 | int _=>obtain ⟨t,rfl⟩:=r; rfl
 | str _=>obtain ⟨t,rfl⟩:=r; rfl
 | byt _=>obtain ⟨t,rfl⟩:=r; rfl
 | flt _=>obtain ⟨t,rfl⟩:=r; rfl
 | ref _=>cases r; rfl
 | ty _=>cases r; rfl
theorem RelV.inj (r:RelV x u) (q:RelV y u):x=y:=qg (r.abs.symm.trans q.abs)
theorem Vals.inj:∀ {xs ys:List V} {us:List Value},Vals xs us->Vals ys us->xs=ys:=by
 intro xs ys us r q
 induction r generalizing ys with
 | nil=>cases q; rfl
 | cons r _ ih=>cases q with
   | cons r' t'=>rw [r.inj r',ih t']
section
variable {X:Cx} {pins:List (Addr×Obj)} {σ:St} {H:Hp} {s:Shared} {a:Addr} {xs ys:List V}
theorem SqL.of {K:W.Frag} (h:H a=some (.lst xs)):SqL K H a xs:=.inl (.inl h)
theorem SqT.of {K:W.Frag} (h:H a=some (.tup xs)):SqT K H a xs:=.inl (.inl h)
theorem Inv.list (I:Inv X pins σ H s) (h:SqL X.K H a xs):∃ its:List Value,Vals xs its/\PlainL s.heap a its.toArray/\xs.length<=sizeLine:=by
 rcases h with h | ⟨o,its,n,hk,hc,hd,hs,hz,r⟩
 ·obtain ⟨z,its,n,r,e⟩:=h.ok I.hok
  exact ⟨its,r,⟨_,n,e,rfl,rfl,rfl⟩,z⟩
 ·refine ⟨its.toList,r,⟨o,n,I.kIn a o hk,hc,hd,by simpa using hs⟩,?_⟩
  have e:=r.length
  simp only [length_toList] at e
  lia
theorem Inv.tuple (I:Inv X pins σ H s) (h:SqT X.K H a xs):∃ its:List Value,Vals xs its/\IsTup s.heap a its.toArray/\xs.length<=sizeLine:=by
 rcases h with h | ⟨o,its,n,hk,hc,hs,hz,r⟩
 ·obtain ⟨z,its,r,p⟩:=h.ok I.hok
  exact ⟨its,r,p,z⟩
 ·refine ⟨its.toList,r,⟨o,I.kIn a o hk,hc,n,by simpa using hs⟩,?_⟩
  have e:=r.length
  simp only [length_toList] at e
  lia
theorem Inv.list_inj (I:Inv X pins σ H s) (h:SqL X.K H a xs) (h':SqL X.K H a ys):xs=ys:=by
 obtain ⟨its,r,⟨o,n,e,_,_,d⟩,_⟩:=I.list h
 obtain ⟨its',r',⟨o',n',e',_,_,d'⟩,_⟩:=I.list h'
 rw [e] at e'; cases e'
 rw [d] at d'
 injection d' with d1 _
 have:its=its':=by simpa using congrArg Array.toList d1
 subst this
 exact r.inj r'
theorem Inv.tuple_inj (I:Inv X pins σ H s) (h:SqT X.K H a xs) (h':SqT X.K H a ys):xs=ys:=by
 obtain ⟨its,r,⟨o,e,_,n,d⟩,_⟩:=I.tuple h
 obtain ⟨its',r',⟨o',e',_,n',d'⟩,_⟩:=I.tuple h'
 rw [e] at e'; cases e'
 rw [d] at d'
 injection d' with d1 _
 have:its=its':=by simpa using congrArg Array.toList d1
 subst this
 exact r.inj r'
end
section
variable {X:Cx} {st:Stmt} {rest:List Stmt} {t u:TS} {e:Expr} {te:TE} {pos:Pos}
def tNext:TS:=fun D σ H=>D.nx σ H
def tSeq (t u:TS):TS:=fun D σ H=>t { D with nx:=u D } σ H
theorem zhR:PSs X [] tNext:=fun _ _ σ H _ I h=>wpAny_execs_nil ⟨σ,H,I,h⟩
theorem zgC (h1:PS X st t) (h2:PSs X rest u):PSs X (st::rest) (tSeq t u):=by
 intro pins s σ H D I h
 refine wpAny_execs_cons (thn (h1 pins s σ H { D with nx:=u D } I h) fun f s1 q=>?_)
 cases f with
 | next=>
   obtain ⟨σ',H',I',q⟩:=q
   exact h2 pins s1 σ' H' D I' q
 | ret v=>exact q
 | brk=>exact q
 | cont=>exact q
theorem zhE (h1:PS X st t):PSs X [st] t:=by
 intro pins s σ H D I h
 refine wpAny_execs_cons (thn (h1 pins s σ H D I h) fun f s1 q=>?_)
 cases f with
 | next=>exact wpAny_execs_nil q
 | ret v=>exact q
 | brk=>exact q
 | cont=>exact q
theorem Inv.quiet (I:Inv X pins σ H s):interactive X.env=false:=by simp [interactive,I.ok.kind]
def tDrop (te:TE):TS:=fun D σ H=>te σ H fun _ H1=>D.nx σ H1
theorem zhL (he:PE X e te) (hs:swapsWith e none pos.line X.env=pure false:=by rfl):PS X (.Expr e pos) (tDrop te):=by
 intro pins s σ H D I h
 exact wpAny_Expr_any (thn (he pins s σ H _ I h) fun v s1 ⟨x,H1,I1,r1,q1⟩=>⟨σ,H1,I1,q1⟩) I.quiet hs
def tRet (te:TE):TS:=fun D σ H=>te σ H D.rt
theorem zjK (he:PE X e te):PS X (.Return (some e) pos) (tRet te):=by
 intro pins s σ H D I h
 exact wpAny_Return_some (thn (he pins s σ H _ I h) fun v s1 ⟨x,H1,I1,r1,q1⟩=>⟨x,σ,H1,I1,r1,q1⟩)
def tIfS (c:TT) (t u:TS):TS:=fun D σ H=>c σ H fun b H1=>if b=true then t D σ H1 else u D σ H1
theorem zmK (hc:PT X c tc) (ha:PSs X a t) (hb:PSs X b u):PS X (.If c a b pos) (tIfS tc t u):=by
 intro pins s σ H D I h
 refine wpAny_If (thn (hc pins s σ H _ I h) fun d s1 zq=>?_)
 obtain ⟨H1,I1,q1⟩:=zq
 cases d with
 | true=>exact ha pins s1 σ H1 D I1 q1
 | false=>exact hb pins s1 σ H1 D I1 q1
end
abbrev TG:=V->St->Hp->(St->Hp->Prop)->Prop
abbrev TGs:=List V->St->Hp->(St->Hp->Prop)->Prop
def PG (X:Cx) (target:Expr) (t:TG):Prop:=
 ∀ (pins:List (Addr×Obj)) (s:Shared) (σ:St) (H:Hp) (v:V) (u:Value) (Q:St->Hp->Prop),Inv X pins σ H s->RelV v u->t v σ H Q->
   wpAny (model X.prog X.w) X.A (assign target X.env u) (fun _ s'=>∃ σ' H',Inv X pins σ' H' s'/\Q σ' H') X.xe s
def PGs (X:Cx) (ts:List Expr) (t:TGs):Prop:=
 ∀ (pins:List (Addr×Obj)) (s:Shared) (σ:St) (H:Hp) (vs:List V) (us:List Value) (Q:St->Hp->Prop),Inv X pins σ H s->Vals vs us->t vs σ H Q->
   wpAny (model X.prog X.w) X.A (assignInOrder ((assignEach ts X.env).map (·.2)) us) (fun _ s'=>∃ σ' H',Inv X pins σ' H' s'/\Q σ' H') X.xe s
abbrev TSet:=V->V->V->Hp->(Hp->Prop)->Prop
def PSet (X:Cx) (t:TSet):Prop:=
 ∀ (pins:List (Addr×Obj)) (s:Shared) (σ:St) (H:Hp) (o i v:V) (ov iv u:Value) (Q:Hp->Prop),Inv X pins σ H s->RelV o ov->RelV i iv->RelV v u->t o i v H Q->
   wpAny (model X.prog X.w) X.A (setItem ov iv u) (fun _ s'=>∃ H',Inv X pins σ H' s'/\Q H') X.xe s
section
variable {X:Cx} {pos:Pos}
def gNil:TGs:=fun vs σ H Q=>vs=[]/\Q σ H
def gCons (t:TG) (u:TGs):TGs:=fun vs σ H Q=>∃ v r,vs=v::r/\t v σ H fun σ' H'=>u r σ' H' Q
theorem zhj:PGs X [] gNil:=by
 intro pins s σ H vs us Q I r h
 obtain ⟨e,h⟩:=h
 subst e
 cases r
 exact assignInOrder_nil ⟨σ,H,I,h⟩
theorem zgm (h1:PG X e t) (h2:PGs X es u)
  (hs:(assignEach (e::es) X.env).map (·.2)=assign e X.env::(assignEach es X.env).map (·.2):=by rfl):PGs X (e::es) (gCons t u):=by
 intro pins s σ H vs us Q I r h
 obtain ⟨v,vr,e1,h⟩:=h
 subst e1
 cases r with
 | cons r rr=>
   rw [hs]
   refine assignInOrder_cons (thn (h1 pins s σ H _ _ _ I r h) fun _ s1 zq=>?_)
   obtain ⟨σ1,H1,I1,q1⟩:=zq
   exact h2 pins s1 σ1 H1 _ _ Q I1 rr q1
def gTup (K:W.Frag) (n:Nat) (t:TGs):TG:=fun v σ H Q=>∃ a xs,v=.ref a/\SqT K H a xs/\xs.length=n/\t xs σ H Q
theorem zjX (hc:X.calm=true) (h:PGs X es t)
  (hn:(assignEach es X.env).length=n:=by rfl) (hst:(assignEach es X.env).findIdx? (·.1)=none:=by rfl):PG X (.Tuple es k pos) (gTup X.K n t):=by
 intro pins s σ H v u Q I r hw
 obtain ⟨a,xs,e1,hq,hl,hw⟩:=hw
 subst e1
 cases r
 obtain ⟨its,rv,ht,hz⟩:=I.tuple hq
 refine assign_Tuple_tuple (I.ok.hd hc) ht (by simp [hn,<- hl,rv.length]) hst fun h' hx=>?_
 have I1:Inv X pins σ H { s with heap:=h' }:=I.kept (t':=s.toks) fun b o e=>hx b o (ne_of_lt (qe e)) e
 exact h pins _ σ H xs _ Q I1 (by simpa using rv) hw
def gSub (to ti:TE) (t:TSet):TG:=fun v σ H Q=>to σ H fun o H1=>ti σ H1 fun i H2=>t o i v H2 fun H3=>Q σ H3
theorem zkL (ho:PE X o to) (hi:PE X i ti) (hs:PSet X t)
  (ha:∀ v,assign (.Subscript o i pos) X.env v=(do
   let ov <- holding [v] (eval o X.env)
   let iv <- holding [v,ov] (eval i X.env)
   standAt pos
   holding [v,ov,iv] (setItem ov iv v)
   release [v,ov,iv] []):=by intro _; rfl):PG X (.Subscript o i pos) (gSub to ti t):=by
 intro pins s σ H v u Q I r h
 rw [ha]
 refine qa (wpAny_holding (thn (ho pins s σ H _ I h) fun ov s1 zq=>?_))
 obtain ⟨x,H1,I1,r1,q1⟩:=zq
 refine qa (wpAny_holding (thn (hi pins s1 σ H1 _ I1 q1) fun iv s2 zq=>?_))
 obtain ⟨y,H2,I2,r2,q2⟩:=zq
 refine qa (wpAny_standAt (qa (wpAny_holding (thn (hs pins s2 σ H2 x y v ov iv u _ I2 r1 r2 r q2) fun _ s3 zq=>?_))))
 obtain ⟨H3,I3,q3⟩:=zq
 exact wpAny_release ⟨σ,H3,I3,q3⟩
def tAsg (te:TE) (g:TG):TS:=fun D σ H=>te σ H fun x H1=>g x σ H1 D.nx
theorem zhg (he:PE X e te) (hg:PG X tg g) (hs:swapsWithSole [tg] e pos.line X.env=pure false:=by rfl) (hw:swappedStores [tg] e X.env=pure none:=by rfl)
  (h1:(assignEach [tg] X.env).map (·.2)=[assign tg X.env]:=by rfl):PS X (.Assign [tg] e pos) (tAsg te g):=by
 intro pins s σ H D I h
 refine wpAny_Assign_stores (thn (he pins s σ H _ I h) fun v s1 zq=>?_) hs hw
 obtain ⟨x,H1,I1,r1,q1⟩:=zq
 rw [h1]
 exact thn (hg pins s1 σ H1 x v _ I1 r1 q1) fun _ s2 q=>q
def tPar (i j:Nat) (ta:TA):TS:=fun D σ H=>ta σ H fun vs H1=>∃ v w,vs=[v,w]/\D.nx ((σ.set i (some v)).set j (some w)) H1
theorem zke (hc:X.calm=true) (hN:X.N.Nodup) (hi:X.N[i]?=some x) (hj:X.N[j]?=some y) (hij:i≠j)
  (hx:X.env.scope.names.lookup x=some .local) (hy:X.env.scope.names.lookup y=some .local) (ha:PA X [a,b] ta)
  (hw:swappedStores [.Tuple [.Name x px,.Name y py] kt pt] (.Tuple [a,b] k2 pt2) X.env=pure (some [x,y]))
  (hs:swapsWithSole [.Tuple [.Name x px,.Name y py] kt pt] (.Tuple [a,b] k2 pt2) pos.line X.env=pure false:=by rfl):
  PS X (.Assign [.Tuple [.Name x px,.Name y py] kt pt] (.Tuple [a,b] k2 pt2) pos) (tPar i j ta):=by
 intro pins s σ H D I h
 rw [exec_Assign_arm]
 refine qa (wpAny_standAt ?_)
 rw [hs]
 refine qa (qb ?_)
 rw [if_neg (by decide)]
 refine qa (Tuple_ (thn (ha _ pins s σ H _ I h) fun us s1 zq=>?_))
 obtain ⟨vs,H1,I1,r1,q1⟩:=zq
 obtain ⟨v,w,e1,q1⟩:=q1
 subst e1
 obtain ⟨u1,u2,rfl,rv,rw'⟩:∃ u1 u2,us=[u1,u2]/\RelV v u1/\RelV w u2:=by
  cases r1 with
  | cons p q=>
    cases q with
    | cons p' q'=>
      cases q'
      exact ⟨_,_,rfl,p,p'⟩
 refine wpAny_newObj_type ?_ (by show 2<=sizeLine; decide)
 have I2:Inv X pins σ H1 { s1 with heap:=s1.heap.push { cls:=.type "tuple",data:=.seq [u1,u2].toArray } }:=I1.kept (t':=s1.toks) fun b o e=>qc _ e
 rw [hw]
 refine qa (qb ?_)
 show wpAny (model X.prog X.w) X.A (do rule "assign.swapped-stores"; let items <- unpackItems (.ref s1.heap.objs.size) 2 none; assignInOrder [fun v=>bindName X.env y v,fun v=>bindName X.env x v] items.reverse; pure Flow.next) _ _ _
 refine qa (wpAny_rule (qa (unpackItems_tuple (items:=#[u1,u2]) (I.ok.hd hc) (IsTup.new s1.heap _) fun h' hx'=>?_)))
 have I3:=I2.kept (h':=h') (t':=s1.toks) fun b o e=>hx' b o (ne_of_lt (qe e)) e
 show wpAny _ _ (assignInOrder [fun v=>bindName X.env y v,fun v=>bindName X.env x v] [u2,u1] >>= fun _=>pure Flow.next) _ _ _
 refine qa (assignInOrder_cons (wpAny_bindName (zdY I3 hN hj (.inl hy) rw' (fun s2 I4=>?_) (.inr hy))))
 refine assignInOrder_cons (wpAny_bindName (zdY I4 hN hi (.inl hx) rv (fun s3 I5=>assignInOrder_nil (qb ?_)) (.inr hx)))
 rw [set_comm _ _ (Ne.symm hij)] at I5
 exact ⟨_,H1,I5,q1⟩
end
section
variable {X:Cx} {pos:Pos}
def tWhile (c:TT) (tb:TS):TS:=fun D σ H=>∃ W:Nat->St->Hp->Prop,(∃ m,W m σ H)/\∀ m σ H,W m σ H->
 c σ H fun b H1=>if b=true then ∃ N:St->Hp->Prop,(∀ σ' H',N σ' H'->∃ m',m' < m/\W m' σ' H')/\tb { D with nx:=N,ct:=N,bk:=D.nx } σ H1 else D.nx σ H1
theorem zfY (hp:PassesOwn (model X.prog X.w) X.A X.env X.xe) (hc:PT X c tc) (hb:PSs X body tb):PS X (.While c body [] pos) (tWhile tc tb):=by
 intro pins s σ H D I h
 obtain ⟨W,⟨m0,w0⟩,turn⟩:=h
 refine wpAny_While (codeAny_whileLoop (fun n s'=>∃ σ' H',Inv X pins σ' H' s'/\W n σ' H') ?_ m0 ⟨σ,H,I,w0⟩)
 rintro n s1 ⟨σ1,H1,I1,w1⟩
 refine wpAny_passesOwn hp (thn (hc pins s1 σ1 H1 _ I1 (turn n σ1 H1 w1)) fun b s2 zq=>?_)
 obtain ⟨H2,I2,q2⟩:=zq
 cases b with
 | true=>
   obtain ⟨N,hN,q2⟩:=q2
   rw [if_pos rfl]
   refine wpAny_passesOwn hp (thn (hb pins s2 σ1 H2 _ I2 q2) fun f s3 q3=>?_)
   cases f with
   | next=>
     obtain ⟨σ3,H3,I3,n3⟩:=q3
     obtain ⟨m',hm,w3⟩:=hN σ3 H3 n3
     exact ⟨m',hm,σ3,H3,I3,w3⟩
   | cont=>
     obtain ⟨σ3,H3,I3,n3⟩:=q3
     obtain ⟨m',hm,w3⟩:=hN σ3 H3 n3
     exact ⟨m',hm,σ3,H3,I3,w3⟩
   | brk=>exact q3
   | ret v=>exact q3
 | false=>
   rw [if_neg Bool.false_ne_true]
   exact wpAny_execs_nil ⟨σ1,H2,I2,q2⟩
end
structure It where
 go:Nat->Hp->Prop
 yld:Nat->Hp->V->Hp->Prop
 stop:Nat->Hp->Prop
def FpOk (X:Cx) (pins:List (Addr×Obj)) (H:Hp) (b:Addr):Prop:=
 H b=none/\b≠X.env.locals/\b∉X.fs/\(b∈X.ex\/X.s₀.heap.get? b=none)/\(∀ x c,X.env.cells.lookup x=some c->c≠b)/\∀ p∈X.pn++pins,p.1≠b
theorem Inv.fpOk (I:Inv X pins σ H s) (hb:s.heap.objs.size<=b) (hn:H' b=none):FpOk X pins H' b:=by
 refine ⟨hn,ne_of_gt (lt_of_lt_of_le I.lt hb),I.nofs hb,.inr (Heap.get?_none_of_le (le_trans I.sz hb)),fun x c e z=>?_,fun p hp z=>?_⟩
 ·obtain ⟨v,q⟩:=I.cell x c e
  exact absurd (lt_of_lt_of_le q.lt (by rw [z]; exact hb)) (lt_irrefl _)
 ·exact absurd (lt_of_lt_of_le (qe (I.pin p hp).1) (by rw [z]; exact hb)) (lt_irrefl _)
structure Turn (P:Program) (w:World) (K:W.Frag) (tg:Expr) (J:It) (fp:List Addr) (it:Addr) (tn:Nat->Heap->Prop):Prop where
 mem:it∈fp
 obj:∀ i h,tn i h->∀ b∈fp,∃ o,h.get? b=some o/\∀ v,o.data≠.cell v
 keep:∀ i h h',tn i h->(∀ b∈fp,∀ o,h.get? b=some o->h'.get? b=some o)->tn i h'
 item:∀ (X:Cx),X.prog=P->X.w=w->X.K=K->X.calm=true->∀ (i:Nat) (pins:List (Addr×Obj)) (s:Shared) (σ:St) (H:Hp) (E:Value->Shared->Prop),Inv X pins σ H s->(∀ b∈fp,FpOk X pins H b)->tn i s.heap->J.go i H->
  wpAny (model P w) X.A (pyNext (.ref it)) (fun r s1=>∃ u,r=some u/\
   wpAny (model P w) X.A (letOwnedTupleGo tg (.ref it) u) (fun _ s2=>∃ x H',Inv X pins σ H' s2/\RelV x u/\J.yld i H x H'/\tn (i + 1) s2.heap/\∀ b∈fp,H' b=none) E s1) E s
 done:∀ (X:Cx),X.prog=P->X.w=w->X.K=K->X.calm=true->∀ (i:Nat) (pins:List (Addr×Obj)) (s:Shared) (σ:St) (H:Hp) (E:Value->Shared->Prop),Inv X pins σ H s->(∀ b∈fp,FpOk X pins H b)->tn i s.heap->J.stop i H->
  wpAny (model P w) X.A (pyNext (.ref it)) (fun r s1=>r=none/\Inv X pins σ H s1) E s
 self:∀ (A:Around) (i:Nat) (s:Shared) (Q:Value->Shared->Prop) (E:Value->Shared->Prop),tn i s.heap->Q (.ref it) s->wpAny (model P w) A (pyIter (.ref it)) Q E s
abbrev TI:=St->Hp->(It->Hp->Prop)->Prop
def PIE (X:Cx) (pins:List (Addr×Obj)) (σ:St) (tg:Expr) (R:It->Hp->Prop) (itv:Value) (s2:Shared):Prop:=
 ∃ (it:Addr) (fp:List Addr) (tn:Nat->Heap->Prop) (J:It) (H':Hp),itv=.ref it/\Inv X pins σ H' s2/\Turn X.prog X.w X.K tg J fp it tn/\tn 0 s2.heap/\(∀ b∈fp,FpOk X pins H' b)/\R J H'
def PI (X:Cx) (tg iter:Expr) (wi:TI):Prop:=
 ∀ (pins:List (Addr×Obj)) (s:Shared) (σ:St) (H:Hp) (R:It->Hp->Prop),Inv X pins σ H s->wi σ H R->
   wpAny (model X.prog X.w) X.A (eval iter X.env) (fun v s1=>wpAny (model X.prog X.w) X.A (pyIter v) (PIE X pins σ tg R) X.xe s1) X.xe s
theorem zf9 (ho:s.heap.get? it=some o) (hc:o.cls=.type n) (hd:o.data=.fields vs)
  (hn:["enumerate","zip","dict_itemiterator","dict_reverseitemiterator","odict_iterator","itertools.zip_longest","itertools.pairwise"].contains n=false) (hQ:Q () s):wpAny M A (letOwnedTupleGo tg (.ref it) u) Q E s:=by
 unfold letOwnedTupleGo
 cases tg <;> first
  | exact qb hQ
  | (cases u <;> first
    | exact qb hQ
    | (refine qa (wpAny_load ho ?_)
       rw [hc,hd]
       show wpAny M A (if (["enumerate","zip","dict_itemiterator","dict_reverseitemiterator","odict_iterator","itertools.zip_longest","itertools.pairwise"].contains n && vs[0]? == some (rawInt _))=true then _ else _) Q E s
       rw [if_neg (by intro h; rw [hn,Bool.false_and] at h; cases h)]
       exact qb hQ))
def Itl (K:W.Frag) (a:Addr):It:=
 ⟨fun i H=>∃ xs x,SqL K H a xs/\xs[i]?=some x,fun i H x H'=>H'=H/\∀ xs,SqL K H a xs->xs[i]?=some x,fun i H=>∃ xs,SqL K H a xs/\xs.length<=i⟩
def Itt (K:W.Frag) (a:Addr):It:=
 ⟨fun i H=>∃ xs x,SqT K H a xs/\xs[i]?=some x,fun i H x H'=>H'=H/\∀ xs,SqT K H a xs->xs[i]?=some x,fun i H=>∃ xs,SqT K H a xs/\xs.length<=i⟩
def Itr (lo:Int) (n:Nat):It:=⟨fun i _=>i < n,fun i H x H'=>H'=H/\x=.int (lo + i),fun i _=>n<=i⟩
theorem zeE {P:Program} {w:World} {K:W.Frag} {tg:Expr} (a it:Addr):Turn P w K tg (Itl K a) [it] it (fun i h=>h.IsListIter it a i) where
 mem:=by simp
 obj:=fun i h st b hb=>by
  have e:b=it:=by simpa using hb
  subst e
  obtain ⟨o,e,c,d⟩:=st
  exact ⟨o,e,fun v z=>by rw [d] at z; cases z⟩
 keep:=fun i h h' st k=>st.at fun o e=>k it (by simp) o e
 item:=by
  intro X hP hw hK hc i pins s σ H E I hf st hg
  subst hP hw hK
  obtain ⟨xs,x,hq,hx⟩:=hg
  obtain ⟨its,rv,p,hz⟩:=I.list hq
  obtain ⟨u,hu,ru⟩:=rv.get hx
  obtain ⟨f0,f1,f2,f3,f4,f5⟩:=hf it (by simp)
  refine wpAny_pyNext_list_item st p.isList (x:=u) (by simpa using hu) fun h' st' sb=>?_
  have I1:Inv X pins σ H { s with heap:=h' }:=I.turned (t':=s.toks) (fun b o hb e=>(sb.2 b hb).trans e) f0 f1 f3 f4 f5
  obtain ⟨o,e,c,d⟩:=id st'
  exact ⟨u,rfl,zf9 (s:={ s with heap:=h' }) e c d (by decide) ⟨x,H,I1,ru,⟨rfl,fun ys hy=>by rw [I.list_inj hy hq]; exact hx⟩,st',fun b hb=>(hf b hb).1⟩⟩
 done:=by
  intro X hP hw hK hc i pins s σ H E I hf st hg
  subst hP hw hK
  obtain ⟨xs,hq,hx⟩:=hg
  obtain ⟨its,rv,p,hz⟩:=I.list hq
  obtain ⟨f0,f1,f2,f3,f4,f5⟩:=hf it (by simp)
  have hl:=rv.length
  exact wpAny_pyNext_list_end (I.ok.hd hc) st p.isList (by simp; lia) fun h' eb=>⟨rfl,I.turned (t':=s.toks) (fun b o hb e=>eb b o hb e) f0 f1 f3 f4 f5⟩
 self:=fun _ _ _ _ _ st h=>wpAny_pyIter_listiter st h
theorem zea {P:Program} {w:World} {K:W.Frag} {tg:Expr} (a it:Addr):Turn P w K tg (Itt K a) [it] it (fun i h=>h.IsTupleIter it a i) where
 mem:=by simp
 obj:=fun i h st b hb=>by
  have e:b=it:=by simpa using hb
  subst e
  obtain ⟨o,e,c,d⟩:=st
  exact ⟨o,e,fun v z=>by rw [d] at z; cases z⟩
 keep:=fun i h h' st k=>st.at fun o e=>k it (by simp) o e
 item:=by
  intro X hP hw hK hc i pins s σ H E I hf st hg
  subst hP hw hK
  obtain ⟨xs,x,hq,hx⟩:=hg
  obtain ⟨its,rv,p,hz⟩:=I.tuple hq
  obtain ⟨u,hu,ru⟩:=rv.get hx
  obtain ⟨f0,f1,f2,f3,f4,f5⟩:=hf it (by simp)
  refine wpAny_pyNext_tuple_item st (show s.heap.IsTuple a its.toArray from p) (x:=u) (by simpa using hu) fun h' st' sb=>?_
  have I1:Inv X pins σ H { s with heap:=h' }:=I.turned (t':=s.toks) (fun b o hb e=>(sb.2 b hb).trans e) f0 f1 f3 f4 f5
  obtain ⟨o,e,c,d⟩:=id st'
  exact ⟨u,rfl,zf9 (s:={ s with heap:=h' }) e c d (by decide) ⟨x,H,I1,ru,⟨rfl,fun ys hy=>by rw [I.tuple_inj hy hq]; exact hx⟩,st',fun b hb=>(hf b hb).1⟩⟩
 done:=by
  intro X hP hw hK hc i pins s σ H E I hf st hg
  subst hP hw hK
  obtain ⟨xs,hq,hx⟩:=hg
  obtain ⟨its,rv,p,hz⟩:=I.tuple hq
  obtain ⟨f0,f1,f2,f3,f4,f5⟩:=hf it (by simp)
  have hl:=rv.length
  exact wpAny_pyNext_tuple_end (I.ok.hd hc) st (show s.heap.IsTuple a its.toArray from p) (by simp; lia) fun h' eb=>⟨rfl,I.turned (t':=s.toks) (fun b o hb e=>eb b o hb e) f0 f1 f3 f4 f5⟩
 self:=fun _ _ _ _ _ st h=>wpAny_pyIter_tupleiter st h
theorem zec {P:Program} {w:World} {K:W.Frag} {tg:Expr} (it:Addr) (lo:Int) (n:Nat):Turn P w K tg (Itr lo n) [it] it (fun i h=>IsRangeIter h it (lo + (i:Nat) * 1) ((n:Int) - (i:Nat)) 1) where
 mem:=by simp
 obj:=fun i h st b hb=>by
  have e:b=it:=by simpa using hb
  subst e
  exact ⟨_,st,fun v z=>by
   have z':Data.fields _=Data.cell v:=z
   cases z'⟩
 keep:=fun i h h' st k=>k it (by simp) _ st
 item:=by
  intro X hP hw hK hc i pins s σ H E I hf st hg
  subst hP hw hK
  obtain ⟨f0,f1,f2,f3,f4,f5⟩:=hf it (by simp)
  have W:=Walks.range (prog:=X.prog) (w:=X.w) (I.ok.hd hc) it lo 1 n
  refine W.item i s _ _ hg st fun v h' tk hv st' kk=>?_
  obtain ⟨t,rfl⟩:=hv
  have I1:Inv X pins σ H { s with heap:=h',toks:=tk }:=I.turned (fun b o hb e=>kk b o (by simpa using hb) e) f0 f1 f3 f4 f5
  refine ⟨_,rfl,zf9 (s:={ s with heap:=h',toks:=tk }) (n:="range_iterator") st' rfl rfl (by decide) ⟨.int (lo + i),H,I1,⟨t,?_⟩,⟨rfl,rfl⟩,st',fun b hb=>(hf b hb).1⟩⟩
  rw [Int.mul_one]
 done:=by
  intro X hP hw hK hc i pins s σ H E I hf st hg
  subst hP hw hK
  obtain ⟨f0,f1,f2,f3,f4,f5⟩:=hf it (by simp)
  exact wpAny_pyNext_range_end (I.ok.hd hc) st (by have:n<=i:=hg; lia) fun h' eb=>⟨rfl,I.turned (t':=s.toks) (fun b o hb e=>eb b o hb e) f0 f1 f3 f4 f5⟩
 self:=fun _ _ _ _ _ st h=>wpAny_pyIter_rangeiter st h
end L2
namespace L2
open PySem PySem.Spec PyProof.Rows
section
variable {X:Cx} {tg:Expr}
theorem zgE {lo hi:Int} (I:Inv X pins σ H s) (h1:-(2 ^ 62)<=lo) (h2:lo < 2 ^ 62) (h3:-(2 ^ 62)<=hi) (h4:hi < 2 ^ 62)
  (q:R (Itr lo (hi - lo).toNat) H):wpAny (model X.prog X.w) X.A (pyIter (.ref s.heap.objs.size)) (PIE X pins σ tg R) E { s with heap:=s.heap.push { cls:=.type "range",data:=.fields #[.int lo t,.int hi u,.int 1 v] },toks:=tk }:=by
 refine wpAny_pyIter_range (IsRange.new ..) (small_one h1 h2 h3 h4) ?_
 have I1:Inv X pins σ H { s with heap:=s.heap.push { cls:=.type "range",data:=.fields #[.int lo t,.int hi u,.int 1 v] },toks:=tk }:=I.kept fun b o e=>qc _ e
 refine ⟨(s.heap.push { cls:=.type "range",data:=.fields #[.int lo t,.int hi u,.int 1 v] }).objs.size,[(s.heap.push { cls:=.type "range",data:=.fields #[.int lo t,.int hi u,.int 1 v] }).objs.size],_,_,H,rfl,
  I1.kept (t':=tk) fun b o e=>qc _ e,zec _ lo (hi - lo).toNat,?_,fun b hb=>?_,q⟩
 ·have e1:lo + ((0:Nat):Int) * 1=lo:=by simp
  have e2:(((hi - lo).toNat:Nat):Int) - ((0:Nat):Int)=Builtin.Range.rangeSize lo hi 1:=by rw [rangeSize_one]; split <;> lia
  show IsRangeIter _ _ (lo + ((0:Nat):Int) * 1) ((((hi - lo).toNat:Nat):Int) - ((0:Nat):Int)) 1
  rw [e1,e2]
  exact qd _ rfl
 ·have e:b=(s.heap.push { cls:=.type "range",data:=.fields #[.int lo t,.int hi u,.int 1 v] }).objs.size:=by simpa using hb
  subst e
  exact I1.fpOk (le_refl _) (I1.hok.fresh (le_refl _))
def iRng1 (ta:TA):TI:=fun σ H R=>ta σ H fun vs H1=>∃ j:Int,vs=[.int j]/\-(2 ^ 62)<=j/\j < 2 ^ 62/\R (Itr 0 j.toNat) H1
theorem zfd (hg:Gl X "range") (hm:X.mg "range"=none) (ha:PA X [a] ta) (hs:starEach [a] X.env=[(false,eval a X.env)]:=by rfl):PI X tg (.Call (.Name "range" p) [a] [] pos) (iRng1 ta):=by
 intro pins s σ H R I h
 refine Call_ (zcE I hg hm boot_range (PyProof.Rows.callWith_type1 (thn (ha pos pins s σ H _ I h) fun us s1 zq=>?_) hs rfl))
 obtain ⟨vs,H1,I1,r1,q1⟩:=zq
 obtain ⟨j,e,q1,q2,q⟩:=q1
 subst e
 cases r1 with
 | cons r rr=>
   cases rr
   obtain ⟨t,rfl⟩:=r
   exact call_range_1 (zgE I1 (by lia) (by lia) q1 q2 (by simpa using q))
def tFor (wi:TI) (g:TG) (tb:TS):TS:=fun D σ H=>wi σ H fun J H1=>∃ W:Nat->Nat->St->Hp->Prop,(∃ m,W 0 m σ H1)/\∀ i m σ H,W i m σ H->
 (J.stop i H/\D.nx σ H)\/(J.go i H/\∃ N:St->Hp->Prop,(∀ σ' H',N σ' H'->∃ m',m' < m/\W (i + 1) m' σ' H')/\∀ x H',J.yld i H x H'->g x σ H' fun σ2 H2=>tb { D with nx:=N,ct:=N,bk:=D.nx } σ2 H2)
def pinsAt (fp:List Addr) (h:Heap):List (Addr×Obj):=fp.filterMap fun b=>(h.get? b).map fun o=>(b,o)
theorem zaY (hb:b∈fp) (e:h.get? b=some o):(b,o)∈pinsAt fp h:=mem_filterMap.mpr ⟨b,hb,by rw [e]; rfl⟩
theorem zfC (hp:p∈pinsAt fp h):p.1∈fp/\h.get? p.1=some p.2:=by
 obtain ⟨b,hb,e⟩:=mem_filterMap.mp hp
 cases q:h.get? b with
 | none=>rw [q] at e; cases e
 | some o=>
   grind
theorem Inv.pinned (I:Inv X pins σ H s) (hf:∀ b∈fp,FpOk X pins H b) (ho:∀ b∈fp,∃ o,s.heap.get? b=some o/\∀ v,o.data≠.cell v):Inv X (pins++pinsAt fp s.heap) σ H s:=
 I.pins_of fun p hp=>(mem_append.mp hp).elim (fun z=>I.pin p (qj _ z)) fun z=>by
  obtain ⟨hb,e⟩:=zfC z
  obtain ⟨f0,f1,f2,_⟩:=hf p.1 hb
  obtain ⟨o,e',d⟩:=ho p.1 hb
  rw [e] at e'; cases e'
  exact ⟨e,f0,f1,f2,d⟩
theorem Inv.unpinned (I:Inv X (pins++pl) σ H s):Inv X pins σ H s:=I.pins_of fun p hp=>I.pin p (qj _ (qk _ hp))
theorem ziY (hp:PassesOwn (model X.prog X.w) X.A X.env X.xe) (hc:X.calm=true) (hi:PI X tg iter wi) (hg:PG X tg g) (hb:PSs X body tb)
  (hs:∀ x,foldedSetIterable iter X.env x=pure x:=by intro _; rfl):PS X (.For tg iter body [] pos) (tFor wi g tb):=by
 intro pins s σ H D I h
 refine wpAny_For (thn (hi pins s σ H _ I h) fun v s1 h1=>thn h1 fun itv s2 h2=>?_) hs
 obtain ⟨it,fp,tn,J,H2,e,I2,T,st2,f2,W,⟨m0,w0⟩,turn⟩:=h2
 subst e
 -- what stays true of the iterator's objects through the loop
 have stat:∀ {H':Hp},(∀ b∈fp,H' b=none)->∀ b∈fp,FpOk X pins H' b:=fun hn b hb=>⟨hn b hb,(f2 b hb).2⟩
 refine codeAny_forLoop_any (fun n s'=>∃ i σ' H',Inv X pins σ' H' s'/\tn i s'.heap/\(∀ b∈fp,H' b=none)/\W i n σ' H') ?_ m0 ⟨0,σ,H2,I2,st2,fun b hb=>(f2 b hb).1,w0⟩
 rintro n s3 ⟨i,σ3,H3,I3,st3,fr3,w3⟩
 rcases turn i n σ3 H3 w3 with ⟨stop,qn⟩ | ⟨go,N,hN,step⟩
 ·refine wpAny_passesOwn hp (thn (T.done X rfl rfl rfl hc i pins s3 σ3 H3 X.xe I3 (stat fr3) st3 stop) fun r s4 ⟨hr,I4⟩=>?_)
  subst hr
  exact wpAny_execs_nil ⟨σ3,H3,I4,qn⟩
 ·refine wpAny_passesOwn hp (thn (T.item X rfl rfl rfl hc i pins s3 σ3 H3 X.xe I3 (stat fr3) st3 go) fun r s4 zq=>?_)
  obtain ⟨u,hr,h4⟩:=zq
  subst hr
  refine wpAny_passesOwn hp (thn h4 fun _ s5 zq=>?_)
  obtain ⟨x,H5,I5,r5,y5,st5,fr5⟩:=zq
  have I5':=I5.pinned (stat fr5) (T.obj _ _ st5)
  refine wpAny_passesOwn hp (thn (hg _ s5 σ3 H5 x u _ I5' r5 (step x H5 y5)) fun _ s6 zq=>?_)
  obtain ⟨σ6,H6,I6,q6⟩:=zq
  refine wpAny_passesOwn hp (thn (hb _ s6 σ6 H6 _ I6 q6) fun f s7 q7=>?_)
  have again:∀ {σ7:St} {H7:Hp},Inv X (pins++pinsAt fp s5.heap) σ7 H7 s7->N σ7 H7->∃ m,m < n/\∃ i σ' H',Inv X pins σ' H' s7/\tn i s7.heap/\(∀ b∈fp,H' b=none)/\W i m σ' H':=fun {σ7 H7} I7 n7=>by
   obtain ⟨m',hm,w7⟩:=hN σ7 H7 n7
   refine ⟨m',hm,i + 1,σ7,H7,I7.unpinned,T.keep _ _ _ st5 fun b hb o e=>(I7.pin (b,o) (qj _ (qj _ (zaY hb e)))).1,fun b hb=>?_,w7⟩
   obtain ⟨o,e,d⟩:=T.obj _ _ st5 b hb
   exact (I7.pin (b,o) (qj _ (qj _ (zaY hb e)))).2.1
  cases f with
  | next=>obtain ⟨σ7,H7,I7,n7⟩:=q7; exact again I7 n7
  | cont=>obtain ⟨σ7,H7,I7,n7⟩:=q7; exact again I7 n7
  | brk=>obtain ⟨σ7,H7,I7,q7⟩:=q7; exact ⟨σ7,H7,I7.unpinned,q7⟩
  | ret v=>obtain ⟨x7,σ7,H7,I7,r7,q7⟩:=q7; exact ⟨x7,σ7,H7,I7.unpinned,r7,q7⟩
end
end L2
namespace L2
open PySem PySem.Spec PyProof.Rows
abbrev R2:=V->V->Hp->VK->Prop
def OpR (X:Cx) (f:Value->Value->Sem Value) (r:R2):Prop:=
 ∀ (pins:List (Addr×Obj)) (s:Shared) (σ:St) (H:Hp) (x y:V) (v u:Value) (Q:VK),Inv X pins σ H s->RelV x v->RelV y u->r x y H Q->
   wpAny (model X.prog X.w) X.A (f v u) (EP X pins σ Q) X.xe s
def UnR (X:Cx) (f:Value->Sem Value) (r:V->Hp->VK->Prop):Prop:=
 ∀ (pins:List (Addr×Obj)) (s:Shared) (σ:St) (H:Hp) (x:V) (v:Value) (Q:VK),Inv X pins σ H s->RelV x v->r x H Q->
   wpAny (model X.prog X.w) X.A (f v) (EP X pins σ Q) X.xe s
def CallR (X:Cx) (f:Value) (r:List V->Hp->VK->Prop):Prop:=
 ∀ (pins:List (Addr×Obj)) (s:Shared) (σ:St) (H:Hp) (xs:List V) (us:List Value) (Q:VK),Inv X pins σ H s->Vals xs us->r xs H Q->
   wpAny (model X.prog X.w) X.A (call f us) (EP X pins σ Q) X.xe s
def TruR (X:Cx) (r:V->Hp->(Bool->Hp->Prop)->Prop):Prop:=
 ∀ (pins:List (Addr×Obj)) (s:Shared) (σ:St) (H:Hp) (x:V) (v:Value) (Q:Bool->Hp->Prop),Inv X pins σ H s->RelV x v->r x H Q->
   wpAny (model X.prog X.w) X.A (truthy v) (TP X pins σ Q) X.xe s
def tOp (r:R2) (ta tb:TE):TE:=fun σ H Q=>ta σ H fun x H1=>tb σ H1 fun y H2=>r x y H2 Q
def tUn (r:V->Hp->VK->Prop) (ta:TE):TE:=fun σ H Q=>ta σ H fun x H1=>r x H1 Q
def rI (C:Int->Int->Prop) (g:Int->Int->V):R2:=fun x y H Q=>∃ i j,x=.int i/\y=.int j/\C i j/\Q (g i j) H
def rI0 (g:Int->Int->V):R2:=fun x y H Q=>∃ i j,x=.int i/\y=.int j/\Q (g i j) H
def rU (g:Int->V):V->Hp->VK->Prop:=fun x H Q=>∃ i,x=.int i/\Q (g i) H
section
variable {X:Cx} {a b c:Expr} {ta tb tc:TE} {pos:Pos}
theorem binT (ha:PE X a ta) (hb:PE X b tb) {R:V->V->Hp->Prop} (I:Inv X pins σ H s)
  (h:ta σ H fun x H1=>tb σ H1 fun y H2=>R x y H2) {f:Value->Value->Sem Value}
  (hf:∀ v u s2 x y H2,Inv X pins σ H2 s2->RelV x v->RelV y u->R x y H2->wpAny (model X.prog X.w) X.A (f v u) Q X.xe s2):
  wpAny (model X.prog X.w) X.A (eval a X.env) (fun v s₁=>wpAny (model X.prog X.w) X.A (eval b X.env) (fun u s₂=>wpAny (model X.prog X.w) X.A (f v u) Q X.xe s₂) X.xe s₁) X.xe s:=by
 refine thn (ha pins s σ H _ I h) fun v s1 zq=>?_
 obtain ⟨x,H1,I1,r1,q1⟩:=zq
 refine thn (hb pins s1 σ H1 _ I1 q1) fun u s2 zq=>?_
 obtain ⟨y,H2,I2,r2,q2⟩:=zq
 exact hf v u s2 x y H2 I2 r1 r2 q2
theorem zlf (ho:OpR X (binaryOp op) r) (ha:PE X a ta) (hb:PE X b tb):PE X (.BinOp a op b pos) (tOp r ta tb):=by
 intro pins s σ H Q I h
 exact wpAny_BinOp (binT ha hb I h fun v u s2 x y H2 I2 rx ry q=>ho pins s2 σ H2 x y v u Q I2 rx ry q)
theorem zls (ho:UnR X (unaryOp op) r) (ha:PE X a ta):PE X (.UnaryOp op a pos) (tUn r ta):=by
 intro pins s σ H Q I h
 exact UnaryOp_ (thn (ha pins s σ H _ I h) fun v s1 ⟨x,H1,I1,r1,q1⟩=>ho pins s1 σ H1 x v Q I1 r1 q1)
theorem opI {g:Int->Int->Int}
  (rule:∀ (i j:Int) (t u:Tok) (s:Shared) (Q:Value->Shared->Prop) (E:Value->Shared->Prop),C i j->Q (.int (g i j) s.toks) { s with toks:=s.toks + 1 }->wpAny (model X.prog X.w) X.A (f (.int i t) (.int j u)) Q E s):
  OpR X f (rI C fun i j=>.int (g i j)):=by
 intro pins s σ H x y v u Q I rx ry h
 obtain ⟨i,j,rfl,rfl,hc,q⟩:=h
 obtain ⟨t,rfl⟩:=rx
 obtain ⟨t',rfl⟩:=ry
 exact rule i j t t' s _ _ hc ⟨.int (g i j),H,I.tok _,⟨_,rfl⟩,q⟩
theorem opI0 {g:Int->Int->Int}
  (rule:∀ (i j:Int) (t u:Tok) (s:Shared) (Q:Value->Shared->Prop) (E:Value->Shared->Prop),Q (.int (g i j) s.toks) { s with toks:=s.toks + 1 }->wpAny (model X.prog X.w) X.A (f (.int i t) (.int j u)) Q E s):
  OpR X f (rI0 fun i j=>.int (g i j)):=by
 intro pins s σ H x y v u Q I rx ry h
 obtain ⟨i,j,rfl,rfl,q⟩:=h
 obtain ⟨t,rfl⟩:=rx
 obtain ⟨t',rfl⟩:=ry
 exact rule i j t t' s _ _ ⟨.int (g i j),H,I.tok _,⟨_,rfl⟩,q⟩
theorem opB0 {g:Int->Int->Bool}
  (rule:∀ (i j:Int) (t u:Tok) (s:Shared) (Q:Value->Shared->Prop) (E:Value->Shared->Prop),Q (.bool (g i j)) s->wpAny (model X.prog X.w) X.A (f (.int i t) (.int j u)) Q E s):
  OpR X f (rI0 fun i j=>.bl (g i j)):=by
 intro pins s σ H x y v u Q I rx ry h
 obtain ⟨i,j,rfl,rfl,q⟩:=h
 obtain ⟨t,rfl⟩:=rx
 obtain ⟨t',rfl⟩:=ry
 exact rule i j t t' s _ _ ⟨.bl (g i j),H,I,rfl,q⟩
def CPow (i j:Int):Prop:=0<=j/\j<=1000000/\i.natAbs < 2 ^ 64
def CMul (i j:Int):Prop:=(-(2 ^ 64) < i/\i < 2 ^ 64)\/(-(2 ^ 64) < j/\j < 2 ^ 64)
theorem CMul.ok (h:CMul i j):IntMulOk i j:=by
 rcases h with ⟨h1,h2⟩ | ⟨h1,h2⟩
 ·exact .of_left (intBits_le_64 h1 h2)
 ·exact .of_right (intBits_le_64 h1 h2)
theorem zkk:OpR X (binaryOp .Add) (rI0 fun i j=>.int (i + j)):=opI0 fun _ _ _ _ _ _ _ q=>add_int q
theorem zkT:OpR X (binaryOp .Mult) (rI CMul fun i j=>.int (i * j)):=opI fun _ _ _ _ _ _ _ hc q=>mul_int q hc.ok
theorem zkz:OpR X (binaryOp .Mod) (rI (fun _ j=>0 < j) fun i j=>.int (i % j)):=opI fun i j _ _ _ _ _ hc q=>by
 have h1:(0:Int) < j:=hc
 exact mod_int' (by lia) (by rw [Int.fmod_eq_emod_of_nonneg i (by lia)]; exact q)
theorem zjs:OpR X (binaryOp .Pow) (rI CPow fun i j=>.int (i ^ j.toNat)):=opI fun _ _ _ _ _ _ _ hc q=>pow_int_small hc.1 hc.2.1 hc.2.2 q
theorem unI {g:Int->Int}
  (rule:∀ (i:Int) (t:Tok) (s:Shared) (Q:Value->Shared->Prop) (E:Value->Shared->Prop),Q (.int (g i) s.toks) { s with toks:=s.toks + 1 }->wpAny (model X.prog X.w) X.A (f (.int i t)) Q E s):
  UnR X f (rU fun i=>.int (g i)):=by
 intro pins s σ H x v Q I rx h
 obtain ⟨i,rfl,q⟩:=h
 obtain ⟨t,rfl⟩:=rx
 exact rule i t s _ _ ⟨.int (g i),H,I.tok _,⟨_,rfl⟩,q⟩
theorem zkW:UnR X (unaryOp .USub) (rU fun i=>.int (-i)):=unI fun _ _ _ _ _ q=>neg_int q
end
def scal:V->V->Bool
 | .non,.non=>true | .non,.int _=>true | .int _,.non=>true | .non,.bl _=>true | .bl _,.non=>true | .non,.str _=>true | .str _,.non=>true
 | .int _,.int _=>true | .bl _,.bl _=>true | .str _,.str _=>true | .byt _,.byt _=>true
 | .int _,.str _=>true | .str _,.int _=>true | .bl _,.str _=>true | .str _,.bl _=>true
 | _,_=>false
def rNe:R2:=fun x y H Q=>scal x y=true/\Q (.bl (!decide (x=y))) H
theorem zh6:decide (V.int i=V.int j)=(i == j):=by
 rw [Bool.eq_iff_iff]
 simp
theorem zjH:decide (V.bl i=V.bl j)=(i == j):=by
 rw [Bool.eq_iff_iff]
 simp
theorem zh1:decide (V.str i=V.str j)=(i == j):=by
 rw [Bool.eq_iff_iff]
 simp
theorem zik:decide (V.byt i=V.byt j)=(i.toList == j.toList):=by
 rw [Bool.eq_iff_iff]
 cases i
 cases j
 simp
section
variable {X:Cx} {a b c:Expr} {ta tb tc:TE} {pos:Pos}
theorem zax (I:Inv X pins σ H s) (q:Q (.bl k) H) (e:k=k'):EP X pins σ Q (.bool k') s:=by
 subst e
 exact ⟨.bl k,H,I,rfl,q⟩
theorem zlV:OpR X (compareOp .NotEq) rNe:=by
 intro pins s σ H x y v u Q I rx ry h
 obtain ⟨hs,q⟩:=h
 cases x with
 | non=>
   cases rx
   cases y with
   | non=>cases ry; exact PySem.EqNone.ne_none_none (zax I q (by simp))
   | bl j=>cases ry; exact PySem.EqNone.ne_none_bool (zax I q (by simp))
   | int j=>obtain ⟨t',rfl⟩:=ry; exact PySem.EqNone.ne_none_int (zax I q (by simp))
   | str j=>obtain ⟨t',rfl⟩:=ry; exact PySem.EqNone.ne_none_str (zax I q (by simp))
   | _=>exact absurd (show false=true from hs) Bool.false_ne_true
 | bl i=>
   cases rx
   cases y with
   | non=>cases ry; exact PySem.EqNone.ne_bool_none (zax I q (by simp))
   | bl j=>cases ry; exact ne_bool (zax I q (congrArg not zjH))
   | str j=>obtain ⟨t',rfl⟩:=ry; exact PySem.EqMixed.ne_bool_str (zax I q (by simp))
   | _=>exact absurd (show false=true from hs) Bool.false_ne_true
 | int i=>
   obtain ⟨t,rfl⟩:=rx
   cases y with
   | non=>cases ry; exact PySem.EqNone.ne_int_none (zax I q (by simp))
   | int j=>obtain ⟨t',rfl⟩:=ry; exact ne_int (zax I q (congrArg not zh6))
   | str j=>obtain ⟨t',rfl⟩:=ry; exact PySem.EqMixed.ne_int_str (zax I q (by simp))
   | _=>exact absurd (show false=true from hs) Bool.false_ne_true
 | str i=>
   obtain ⟨t,rfl⟩:=rx
   cases y with
   | non=>cases ry; exact PySem.EqNone.ne_str_none (zax I q (by simp))
   | bl j=>cases ry; exact PySem.EqMixed.ne_str_bool (zax I q (by simp))
   | int j=>obtain ⟨t',rfl⟩:=ry; exact PySem.EqMixed.ne_str_int (zax I q (by simp))
   | str j=>obtain ⟨t',rfl⟩:=ry; exact ne_str (zax I q (congrArg not zh1))
   | _=>exact absurd (show false=true from hs) Bool.false_ne_true
 | byt i=>
   obtain ⟨t,rfl⟩:=rx
   cases y with
   | byt j=>obtain ⟨t',rfl⟩:=ry; exact W.ne_bytes (zax I q (congrArg not zik))
   | _=>exact absurd (show false=true from hs) Bool.false_ne_true
 | _=>cases y <;> exact absurd (show false=true from hs) Bool.false_ne_true
theorem zll:OpR X (compareOp .Lt) (rI0 fun i j=>.bl (decide (i < j))):=opB0 fun _ _ _ _ _ _ _ q=>lt_int q
theorem zm0:OpR X (compareOp .Gt) (rI0 fun i j=>.bl (decide (j < i))):=opB0 fun _ _ _ _ _ _ _ q=>gt_int q
theorem zmR:OpR X (compareOp .GtE) (rI0 fun i j=>.bl (decide (j<=i))):=opB0 fun _ _ _ _ _ _ _ q=>ge_int q
theorem nomark (b:Expr) (h:op≠.In:=by decide) (h2:op≠.NotIn:=by decide):behindInMarks op b=false:=by
 have e1:(op == CmpOp.In)=false:=by cases op <;> first | rfl | exact absurd rfl h
 have e2:(op == CmpOp.NotIn)=false:=by cases op <;> first | rfl | exact absurd rfl h2
 cases b <;> simp [behindInMarks,e1,e2]
theorem zix (ho:OpR X (compareOp op) r) (ha:PE X a ta) (hb:PE X b tb) (hm:behindInMarks op b=false):PE X (.Compare a [op] [b] pos) (tOp r ta tb):=by
 intro pins s σ H Q I h
 exact wpAny_Compare1 (binT ha hb I h fun v u s2 x y H2 I2 rx ry q=>ho pins s2 σ H2 x y v u Q I2 rx ry q) hm
def tTest (t:TE):TT:=fun σ H Q=>t σ H fun x H'=>∃ k,x=.bl k/\Q k H'
theorem zhy (ho:OpR X (compareOp op) r) (ha:PE X a ta) (hb:PE X b tb) (hm:behindInMarks op b=false):PT X (.Compare a [op] [b] pos) (tTest (tOp r ta tb)):=by
 intro pins s σ H Q I h
 refine wpAny_isTrue_Compare1 (thn (ha pins s σ H _ I h) fun v s1 ⟨x,H1,I1,r1,q1⟩=>thn (hb pins s1 σ H1 _ I1 q1) fun u s2 ⟨y,H2,I2,r2,q2⟩=>
  thn (ho pins s2 σ H2 x y v u _ I2 r1 r2 q2) fun c s3 ⟨z,H3,I3,r3,k,e,q3⟩=>?_) hm
 subst e
 cases r3
 exact wpAny_truthy_bool ⟨H3,I3,q3⟩
def TruV (K:W.Frag) (x:V) (H:Hp) (k:Bool):Prop:=
 match x with
 | .non=>k=false
 | .bl b=>k=b
 | .int i=>k=(i !=0)
 | .str y=>y.length<=sizeLine/\k=((y.length:Int) !=0)
 | .byt y=>y.size<=sizeLine/\k=((y.size:Int) !=0)
 | .ref p=>(∃ xs,SqL K H p xs/\k=!xs.isEmpty)\/(∃ xs,SqT K H p xs/\k=!xs.isEmpty)\/∃ kvs,H p=some (.dK kvs)/\k=!kvs.isEmpty
 | _=>False
theorem zej (r:KV kvs vs):(!vs.isEmpty)=!kvs.isEmpty:=by
 cases r <;> rfl
theorem zb9 (r:Vals xs its):(!its.toArray.isEmpty)=!xs.isEmpty:=by
 cases r <;> simp
theorem line63:(sizeLine:Nat) < 2 ^ 63:=by rw [sizeLine_eq]; decide
theorem zjU:TruR X (fun x H Q=>∃ k,TruV X.K x H k/\Q k H):=by
 intro pins s σ H x v Q I rx h
 obtain ⟨k,e,q⟩:=h
 have hl:=line63
 have hs:sizeLine=16777216:=sizeLine_eq
 cases x with
 | non=>
   cases rx
   have e':k=false:=e
   subst e'
   exact truthy_none ⟨H,I,q⟩
 | bl b=>
   cases rx
   have e':k=b:=e
   subst e'
   exact wpAny_truthy_bool ⟨H,I,q⟩
 | int i=>
   obtain ⟨t,rfl⟩:=rx
   have e':k=(i !=0):=e
   subst e'
   exact PySem.P.truthy_int ⟨H,I,q⟩
 | str y=>
   obtain ⟨t,rfl⟩:=rx
   obtain ⟨hy,e'⟩:y.length<=sizeLine/\k=((y.length:Int) !=0):=e
   subst e'
   exact PySem.P.truthy_str (by lia) ⟨H,I.tok _,q⟩
 | byt y=>
   obtain ⟨t,rfl⟩:=rx
   obtain ⟨hy,e'⟩:y.size<=sizeLine/\k=((y.size:Int) !=0):=e
   subst e'
   exact W.truthy_bytes (by lia) ⟨H,I.tok _,q⟩
 | ref p=>
   cases rx
   have e':(∃ xs,SqL X.K H p xs/\k=!xs.isEmpty)\/(∃ xs,SqT X.K H p xs/\k=!xs.isEmpty)\/∃ kvs,H p=some (.dK kvs)/\k=!kvs.isEmpty:=e
   rcases e' with ⟨xs,hx,e'⟩ | ⟨xs,hx,e'⟩ | ⟨kvs,hx,e'⟩
   ·subst e'
    obtain ⟨its,r,pl,hz⟩:=I.list hx
    have hlen:=r.length
    exact wpAny_truthy_list pl.isList (by simp only [size_toArray]; lia) ⟨H,I.tok _,by rw [zb9 r]; exact q⟩
   ·subst e'
    obtain ⟨its,r,pl,hz⟩:=I.tuple hx
    have hlen:=r.length
    exact truthy_tuple pl (by simp only [size_toArray]; lia) ⟨H,I.tok _,by rw [zb9 r]; exact q⟩
   ·subst e'
    obtain ⟨hz,hS,vs,r,m⟩:kvs.length<=sizeLine/\(p == sysModules)=false/\∃ vs,KV kvs vs/\s.heap.DictOf (mixKind X.prog X.w) p vs:=I.hok p _ hx
    have hlen:kvs.length=vs.length:=Paired.length r
    exact wpAny_truthy_dict hS m (by lia) ⟨H,I.tok _,by rw [zej r]; exact q⟩
 | _=>exact (show False from e).elim
theorem zgK (ha:PE X a ta) (he:∀ whole,isTrue a X.env whole=(do let v <- whole; standAt a.pos; holding [v] (truthy v))):
  PT X a (fun σ H Q=>ta σ H fun x H'=>∃ k,TruV X.K x H' k/\Q k H'):=by
 intro pins s σ H Q I h
 exact isTrue_plain (thn (ha pins s σ H _ I h) fun v s1 ⟨x,H1,I1,r1,q1⟩=>zjU pins s1 σ H1 x v Q I1 r1 q1) (he _)
theorem zd6:OpR X (binaryOp .Add) (fun x y H Q=>∃ i j,x=.str i/\y=.str j/\i.length + j.length<=sizeLine/\Q (.str (i++j)) H):=by
 intro pins s σ H x y v u Q I rx ry h
 obtain ⟨i,j,rfl,rfl,hz,q⟩:=h
 obtain ⟨t,rfl⟩:=rx
 obtain ⟨t',rfl⟩:=ry
 exact add_str (fun t' tk=>⟨.str (i++j),H,I.tok _,⟨_,rfl⟩,q⟩) hz
theorem vals1 (r:Vals [x] us):∃ u,us=[u]/\RelV x u:=by
 cases r with
 | cons r1 r2=>cases r2; exact ⟨_,rfl,r1⟩
theorem vals2 (r:Vals [x,y] us):∃ u w',us=[u,w']/\RelV x u/\RelV y w':=by
 cases r with
 | cons r1 r2=>
   cases r2 with
   | cons r3 r4=>cases r4; exact ⟨_,_,rfl,r1,r3⟩
theorem zfs (hc:X.calm=true):CallR X (.builtin "max") (fun xs H Q=>∃ i j,xs=[.int i,.int j]/\Q (.int (if j > i then j else i)) H):=by
 intro pins s σ H xs us Q I r h
 obtain ⟨i,j,rfl,q⟩:=h
 obtain ⟨u,w',rfl,⟨t,rfl⟩,⟨t',rfl⟩⟩:=vals2 r
 refine max_two_ints (I.ok.hd hc) fun h' tk k=>⟨_,H,I.kept k,?_,q⟩
 by_cases hj:j > i
 ·rw [if_pos hj,if_pos hj]; exact ⟨_,rfl⟩
 ·rw [if_neg hj,if_neg hj]; exact ⟨_,rfl⟩
theorem zfJ (hc:X.calm=true):CallR X (.builtin "min") (fun xs H Q=>∃ i j,xs=[.int i,.int j]/\Q (.int (if j < i then j else i)) H):=by
 intro pins s σ H xs us Q I r h
 obtain ⟨i,j,rfl,q⟩:=h
 obtain ⟨u,w',rfl,⟨t,rfl⟩,⟨t',rfl⟩⟩:=vals2 r
 refine min_two_ints (I.ok.hd hc) fun h' tk k=>⟨_,H,I.kept k,?_,q⟩
 by_cases hj:j < i
 ·rw [if_pos hj,if_pos hj]; exact ⟨_,rfl⟩
 ·rw [if_neg hj,if_neg hj]; exact ⟨_,rfl⟩
theorem zeZ:CallR X (.type "int") (fun xs H Q=>(∃ i,xs=[.int i]/\Q (.int i) H)\/∃ k,xs=[.bl k]/\Q (.int (if k then 1 else 0)) H):=by
 intro pins s σ H xs us Q I r h
 rcases h with ⟨i,rfl,q⟩ | ⟨k,rfl,q⟩
 ·obtain ⟨u,rfl,t,rfl⟩:=vals1 r
  exact call_int_int ⟨.int i,H,I,⟨_,rfl⟩,q⟩
 ·obtain ⟨u,rfl,r1⟩:=vals1 r
  cases r1
  exact call_int_bool ⟨.int (if k then 1 else 0),H,I.tok _,⟨_,rfl⟩,q⟩
end
end L2
namespace L2
open PySem PySem.Spec PyProof.Rows
structure ObjM (h:Heap) (x dx C:Addr) (mA:Str->Option Value):Prop where
 obj:h.get? x=some (W.instObj C dx)
 ns:h.Ns1 dx mA
 ne:dx≠x
theorem zfo {h:Heap} (n:h.Ns1 dx mA):∃ od,h.get? dx=some od/\∀ name,W.lookIn name od=some (mA name):=by
 obtain ⟨o,es,ep,ho,hd,hk,_,hm⟩:=n
 refine ⟨o,ho,fun name=>?_⟩
 have e:=hm name
 unfold nsFind findBy at e
 rw [<- Array.find?_toList] at e
 unfold W.lookIn
 rw [hd]
 dsimp only
 split
 ·rename_i y q
  rw [q] at e
  exact congrArg some e
 ·rename_i q
  rw [q] at e
  have a:es.toList.any (·.refKey)=false:=by
   rw [List.any_eq_false]
   intro y hy
   obtain ⟨z,t,hkey⟩:=hk y (mem_toList_iff.mp hy)
   simp [DictEntry.refKey,hkey]
  grind
theorem ObjM.look (I:ObjM h x dx C mA):∃ od,W.InstAt h x (W.instObj C dx) C (some od)/\∀ name,W.lookIn name od=some (mA name):=
 let ⟨od,ho,hl⟩:=zfo I.ns
 ⟨od,⟨I.obj,rfl,rfl,ho⟩,hl⟩
section
variable {P:Program} {w:World} {H H':Hp} {h h':Heap} {a C dx:Addr} {fs fs':List (Str×V)}
theorem zhH (hok:HOk P w H h) (e:H a=some (.ins C dx fs)):∃ mA,ObjM h a dx C mA/\(∀ f,RelO (fs.lookup f) (mA f))/\PySem.Within mA (fs.map (·.1))/\fs.length<=1000/\H dx=some (.own a):=by
 obtain ⟨d,z,ne,ob,mA,n,r,q⟩:=(show ObjOk P w H h a (.ins C dx fs) from hok a _ e)
 exact ⟨mA,⟨ob,n,ne⟩,r,q,z,d⟩
end
structure Cls (K:W.Frag) (C:Addr):Prop where
 pg:W.plainGet K C Str.empty=true
 hd:W.hasDictIn K C=true
 po:W.plainOver K C=true
 sa:W.findIn K (.ref C) "__setattr__"=some (some (.builtin "object.__setattr__"))
theorem Cls.get {K:W.Frag} (c:Cls K C) (f:Str):W.plainGet K C f=true:=c.pg
section
variable {X:Cx} {pins:List (Addr×Obj)} {σ:St} {H:Hp} {s:Shared} {A:Around} {E:Value->Shared->Prop} {Q:Value->Shared->Prop} {c:Value} {b:Bool}
inductive TyOf (K:W.Frag) (H:Hp):V->Value->Prop where
 | non:TyOf K H .non (.type "NoneType")
 | bl (x:Bool):TyOf K H (.bl x) (.type "bool")
 | int (i:Int):TyOf K H (.int i) (.type "int")
 | str (x:Str):TyOf K H (.str x) (.type "str")
 | flt (x:UInt64):TyOf K H (.flt x) (.type "float")
 | lst {a:Addr} {xs:List V} (e:H a=some (.lst xs)):TyOf K H (.ref a) (.type "list")
 | frz {a:Addr} {o:Obj} {xs:List V} (e:H a=some (.frz o (.lst xs))):TyOf K H (.ref a) (.type "list")
 | tup {a:Addr} {xs:List V} (e:H a=some (.tup xs)):TyOf K H (.ref a) (.type "tuple")
 | dK {a:Addr} {kvs:List (Key×V)} (e:H a=some (.dK kvs)):TyOf K H (.ref a) (.type "dict")
 | dT {a:Addr} {kvs:List (List Key×V)} (e:H a=some (.dT kvs)):TyOf K H (.ref a) (.type "dict")
 | ins {a C dx:Addr} {fs:List (Str×V)} (e:H a=some (.ins C dx fs)) (cl:Cls K C) (ha:W.findIn K (.ref C) "__class__"=some (some (.builtin "object.__class__")))
   (hn:W.specialIn K (.builtin "object.__class__") "__get__"=some (some (.builtin "getset_descriptor.__get__"))) (htk:W.takesIn K (.builtin "object.__class__")=some true)
   (hm:W.mroIn K C (.type "object")=some true):TyOf K H (.ref a) (.ref C)
theorem zaA (I:Inv X pins σ H s) (rx:RelV x u) (ty:TyOf X.K H x t) (e:W.kitOne X.K t c=some b) (h:∀ tk,Q (.bool b) { s with toks:=tk }):
  wpAny (model X.prog X.w) A (call (.builtin "isinstance") [u,c]) Q E s:=by
 cases ty with
 | non=>cases (show u=Value.none from rx); exact W.kia_one W.kitx_none I.kIn True.intro e (fun z=>nomatch z) h
 | bl y=>cases (show u=Value.bool y from rx); exact W.kia_one W.kitx_bool I.kIn True.intro e (fun z=>nomatch z) h
 | int i=>obtain ⟨t,q⟩:=(show ∃ t,u=Value.int i t from rx); cases q; exact W.kia_one W.kitx_int I.kIn True.intro e (fun z=>nomatch z) h
 | str y=>obtain ⟨t,q⟩:=(show ∃ t,u=Value.str y t from rx); cases q; exact W.kia_one W.kitx_str I.kIn True.intro e (fun z=>nomatch z) h
 | flt y=>obtain ⟨t,q⟩:=(show ∃ t,u=Value.float y t from rx); cases q; exact W.kia_one W.kitx_float I.kIn True.intro e (fun z=>nomatch z) h
 | @lst a xs ea=>
   cases (show u=Value.ref a from rx)
   obtain ⟨_,_,n,_,h1⟩:=(show ObjOk X.prog X.w H s.heap a (.lst xs) from I.hok a _ ea)
   exact W.kia_one W.kitx_list I.kIn ⟨_,h1,rfl⟩ e (fun z=>nomatch z) h
 | @frz a ob xs ea=>
   cases (show u=Value.ref a from rx)
   obtain ⟨_,_,_,n,_,h1⟩:=(show ObjOk X.prog X.w H s.heap a (.frz ob (.lst xs)) from I.hok a _ ea)
   exact W.kia_one W.kitx_list I.kIn ⟨_,h1,rfl⟩ e (fun z=>nomatch z) h
 | @tup a xs ea=>
   cases (show u=Value.ref a from rx)
   obtain ⟨_,_,_,p⟩:=(show ObjOk X.prog X.w H s.heap a (.tup xs) from I.hok a _ ea)
   obtain ⟨o,h1,h2,_⟩:=p
   exact W.kia_one W.kitx_tuple I.kIn ⟨o,h1,h2⟩ e (fun z=>nomatch z) h
 | @dK a kvs ea=>
   cases (show u=Value.ref a from rx)
   obtain ⟨_,_,vs,_,p⟩:=(show ObjOk X.prog X.w H s.heap a (.dK kvs) from I.hok a _ ea)
   obtain ⟨o,es,ep,h1,h2,_⟩:=p
   exact W.kia_one W.kitx_dict I.kIn ⟨o,h1,h2.1⟩ e (fun z=>nomatch z) h
 | @dT a kvs ea=>
   cases (show u=Value.ref a from rx)
   obtain ⟨_,_,xs,_,o,es,ep,h1,h2,_⟩:=(show ObjOk X.prog X.w H s.heap a (.dT kvs) from I.hok a _ ea)
   exact W.kia_one W.kitx_dict I.kIn ⟨o,h1,h2.1⟩ e (fun z=>nomatch z) h
 | @ins a C dx fs ea cl ha hn htk hm=>
   cases (show u=Value.ref a from rx)
   obtain ⟨mA,O,_⟩:=zhH I.hok ea
   obtain ⟨od,J,_⟩:=O.look
   exact W.kia_one (W.kitx_own (cl.get _) cl.hd ha hn htk hm) I.kIn J e (fun z=>nomatch z) h
end
end L2
namespace L2
open PySem PySem.Spec PyProof.Rows
structure Room (k:Nat) (A:Around):Prop where
 hd:A.handled=none
 dp:A.depth + 3 * k + 5 < recursionLimit
 un:A.units + 16 * k + 200 < cLine
 gd:A.guards=some []
theorem Room.mono (r:Room k A) (h:j<=k):Room j A:=⟨r.hd,by have:=r.dp; lia,by have:=r.un; lia,r.gd⟩
theorem Room.deeper (r:Room (k + 1) A) (env:Env):Room k (A.deeper env):=
 ⟨r.hd,by have:=r.dp; show A.depth + 1 + 3 * k + 5 < _; lia,by have:=r.un; show A.units + 3 + 16 * k + 200 < _; lia,r.gd⟩
theorem Room.depth (r:Room k A):A.depth < recursionLimit:=by have:=r.dp; lia
theorem Room.units (r:Room k A):A.units + 64 < cLine:=by have:=r.un; lia
def tNil:TA:=fun _ H Q=>Q [] H
def tCons (ta:TE) (tr:TA):TA:=fun σ H Q=>ta σ H fun x H1=>tr σ H1 fun xs H2=>Q (x::xs) H2
section
variable {X:Cx} {e:Expr} {es:List Expr} {te:TE} {t:TA} {pos:Pos}
theorem zkn:PA X [] tNil:=fun _ _ _ _ H Q I h=>Calls.spliced_nil ⟨[],H,I,.nil,h⟩
theorem ziu (ha:PE X e te) (hr:PA X es t) (hs:starEach (e::es) X.env=(false,eval e X.env)::starEach es X.env:=by rfl):PA X (e::es) (tCons te t):=by
 intro pos pins s σ H Q I h
 rw [hs]
 show wpAny _ _ (spliced ((false,eval e X.env)::backTo pos (starEach es X.env))) _ _ s
 refine Calls.spliced_cons (thn (ha pins s σ H _ I h) fun u s1 zq=>?_)
 obtain ⟨x,H1,I1,r1,q1⟩:=zq
 exact thn (hr pos pins s1 σ H1 _ I1 q1) fun us s2 ⟨xs,H2,I2,r2,q2⟩=>⟨x::xs,H2,I2,.cons r1 r2,q2⟩
def tTup (t:TA):TE:=fun σ H Q=>t σ H fun xs H1=>xs.length<=sizeLine/\∀ p,H1 p=none->Q (.ref p) (upd H1 p (.tup xs))
def tLst (t:TA):TE:=fun σ H Q=>t σ H fun xs H1=>xs.length<=sizeLine/\∀ p,H1 p=none->Q (.ref p) (upd H1 p (.lst xs))
theorem ziK (h:PA X es t):PE X (.Tuple es x1 pos) (tTup t):=by
 intro pins s σ H Q I hq
 refine wpAny_Tuple_spliced (thn (h pos pins s σ H _ I hq) fun us s1 ⟨xs,H1,I1,r,z,q⟩=>⟨by rw [<- r.length]; exact z,?_⟩)
 have hf:H1 s1.heap.objs.size=none:=I1.hok.fresh (le_refl _)
 refine ⟨.ref s1.heap.objs.size,upd H1 s1.heap.objs.size (.tup xs),I1.laid (t':=s1.toks) (fun b u e=>qc _ e) (le_refl _) ?_,rfl,q _ hf⟩
 exact ⟨z,us,r,⟨_,qd _ rfl,rfl,_,rfl⟩⟩
theorem zjT (h:PA X es t):PE X (.List es pos) (tLst t):=by
 intro pins s σ H Q I hq
 refine wpAny_List_spliced (thn (h pos pins s σ H _ I hq) fun us s1 ⟨xs,H1,I1,r,z,q⟩=>⟨by rw [<- r.length]; exact z,?_⟩)
 have hf:H1 s1.heap.objs.size=none:=I1.hok.fresh (le_refl _)
 refine ⟨.ref s1.heap.objs.size,upd H1 s1.heap.objs.size (.lst xs),I1.laid (t':=s1.toks) (fun b u e=>qc _ e) (le_refl _) ?_,rfl,q _ hf⟩
 exact ⟨z,us,0,r,qd _ rfl⟩
end
abbrev Sp:=List V->Hp->VK->XK->Prop
abbrev CXT:=List Env->Hp->Shared->XK->Value->Shared->Prop
structure Env0 (P:Program) (w:World) (K:W.Frag) (mg:Str->Option Value) (base:Heap) (A:Around) (outer:List Env) (s:Shared) (H:Hp):Prop where
 frames:A.frames=some outer
 mod:Mod K mg base
 bs:∀ b o,base.get? b=some o->s.heap.get? b=some o/\H b=none
 bsz:base.objs.size<=s.heap.objs.size
 funs:s.heap.FunFrames base outer
 frf:∀ b∈frs outer,H b=none
 hok:HOk P w H s.heap
 bare:AllBare s.gens
def CE (outer:List Env) (P:Program) (w:World) (H:Hp) (s:Shared) (Q:VK) (u:Value) (s':Shared):Prop:=
 ∃ v H',s'.os=s.os/\AllBare s'.gens/\Un (frs outer) [] H H' s.heap s'.heap/\HOk P w H' s'.heap/\RelV v u/\Q v H'
def CR (CX:CXT) (outer:List Env) (P:Program) (w:World) (H:Hp) (s:Shared) (Q:VK) (E:XK) (r:Result) (s':Shared):Prop:=
 match r with
 | .ok (.ret u)=>CE outer P w H s Q u s'
 | .ok _=>False
 | .error e=>CX outer H s E e s'
structure FnOk (P:Program) (w:World) (K:W.Frag) (mg:Str->Option Value) (base:Heap) (CX:CXT) (k:Nat) (f:Addr) (fd:FuncData) (ps:List Str) (sp:Sp):Prop where
 len:∀ vs H Q E,sp vs H Q E->vs.length=ps.length
 run:∀ (A:Around) (outer:List Env) (s:Shared) (H:Hp) (args:Args) (us:List Value) (vs:List V) (Q:VK) (E:XK),Room k A->Env0 P w K mg base A outer s H->BindsTo s fd args (ps.zip us)->Vals vs us->sp vs H Q E->
  codeAny (model P w) A (.call (.ref f) args) (CR CX outer P w H s Q E) s
section
variable {X:Cx} {pins:List (Addr×Obj)} {σ:St} {H:Hp} {s s':Shared}
theorem Inv.env0 (I:Inv X pins σ H s):Env0 X.prog X.w X.K X.mg X.base X.A X.stack s H:=
 ⟨I.ok.frames,I.ok.mod,I.bs,le_trans I.ok.bsz I.sz,I.stack,I.stkFree,I.hok,I.bare⟩
theorem Inv.after (I:Inv X pins σ H s) (h:CE X.stack X.prog X.w H s Q u s'):EP X pins σ Q u s':=by
 obtain ⟨v,H',os,bare,un,hok,r,q⟩:=h
 obtain ⟨hh,g,d,t,os'⟩:=s'
 obtain rfl:os'=s.os:=os
 exact ⟨v,H',I.call (h':=hh) (g':=g) (d':=d) (t':=t) (ch:=[]) un hok bare (fun b z=>absurd z (by simp)),r,q⟩
end
def Binds (K:W.Frag) (fd:FuncData) (ps:List Str) (ds:List Value):Prop:=
 ∀ (s:Shared) (us:List Value),K.In s.heap->(us++ds).length=ps.length->BindsTo s fd ⟨us,[]⟩ (ps.zip (us++ds))
theorem Binds.all {K:W.Frag} (h:∀ us:List Value,us.length=ps.length->bindArgs fd ⟨us,[]⟩=pure (ps.zip us)):Binds K fd ps []:=fun s us _ hl=>by
 rw [append_nil] at hl ⊢
 exact .of_eq (h us hl)
section
variable {X:Cx} {CX:CXT} {k:Nat} {f C:Addr} {fd:FuncData} {ps ks:List Str} {sp:Sp} {E:XK} {x m:Str} {p pos apos kpos:Pos} {e o:Expr} {es:List Expr} {kws:List Keyword} {te ta:TE} {t tk:TA} {nm:Option Str}
variable {g:List Value->List Value->List Value} {gV:List V->List V->List V}
end
structure FnScope (N P:List Str) (sc:Scope):Prop where
 kind:sc.kind=.function
 co:sc.isCoroutine=false
 gen:sc.isGenerator=false
 nd:N.Nodup
 pre:N.take P.length=P
 par:∀ x∈P,sc.names.lookup x=some .local\/sc.names.lookup x=some .cell
 nofree:∀ y∈sc.names,y.2≠.free
theorem zcC {kindOf:Str->Option NameKind}:∀ {binds:List (Str×Value)} {m:Str->Option Value},(∀ v,(x,v)∉binds)->bindL kindOf binds m x=m x
 | [],_,_=>rfl
 | (n,v)::r,m,h=>by
   unfold bindL
   rw [zcC fun w hw=>h w (qm _ hw)]
   split
   ·have:x≠n:=by rintro rfl; exact h v qo
    simp [this]
   ·rfl
theorem zcx {kindOf:Str->Option NameKind}:∀ {binds:List (Str×Value)} {m:Str->Option Value},(∀ v,(x,v)∉binds)->bindC kindOf binds m x=m x
 | [],_,_=>rfl
 | (n,v)::r,m,h=>by
   unfold bindC
   rw [zcx fun w hw=>h w (qm _ hw)]
   split
   ·rfl
   ·have:x≠n:=by rintro rfl; exact h v qo
    simp [this]
theorem zcF {kindOf:Str->Option NameKind}:∀ {P:List Str} {vs:List Value} {i:Nat} {m:Str->Option Value},P.Nodup->P[i]?=some x->vs[i]?=some v->kindOf x=some .local->
  bindL kindOf (P.zip vs) m x=some v
 | [],_,_,_,_,h,_,_=>by simp at h
 | _::_,[],_,_,_,_,h,_=>by simp at h
 | p::P,w::vs,0,m,nd,h1,h2,hk=>by
   simp at h1 h2; subst h1; subst h2
   show bindL kindOf ((p,w)::P.zip vs) m p=_
   unfold bindL
   rw [zcC fun v hv=>(nodup_cons.mp nd).1 (of_mem_zip hv).1,if_pos hk]
   simp
 | p::P,w::vs,i + 1,m,nd,h1,h2,hk=>by
   show bindL kindOf ((p,w)::P.zip vs) m x=_
   unfold bindL
   exact zcF (i:=i) (nodup_cons.mp nd).2 (by simpa using h1) (by simpa using h2) hk
theorem zcZ {kindOf:Str->Option NameKind}:∀ {P:List Str} {vs:List Value} {i:Nat} {m:Str->Option Value},P.Nodup->P[i]?=some x->vs[i]?=some v->kindOf x≠some .local->
  bindC kindOf (P.zip vs) m x=some v
 | [],_,_,_,_,h,_,_=>by simp at h
 | _::_,[],_,_,_,_,h,_=>by simp at h
 | p::P,w::vs,0,m,nd,h1,h2,hk=>by
   simp at h1 h2; subst h1; subst h2
   show bindC kindOf ((p,w)::P.zip vs) m p=_
   unfold bindC
   rw [zcx fun v hv=>(nodup_cons.mp nd).1 (of_mem_zip hv).1,if_neg hk]
   simp
 | p::P,w::vs,i + 1,m,nd,h1,h2,hk=>by
   show bindC kindOf ((p,w)::P.zip vs) m x=_
   unfold bindC
   exact zcZ (i:=i) (nodup_cons.mp nd).2 (by simpa using h1) (by simpa using h2) hk
def start (N:List Str) (vs:List V):St:=vs.map some++List.replicate (N.length - vs.length) none
def cxOf (CX:CXT) (P:Program) (w:World) (K:W.Frag) (mg:Str->Option Value) (base:Heap) (N:List Str) (qual:Str) (scope:Scope) (f:Addr) (cd:Value) (A:Around) (outer:List Env) (s:Shared) (H:Hp) (E:XK):Cx where
 prog:=P
 w:=w
 K:=K
 mg:=mg
 base:=base
 A:=A.deeper (envOfC qual scope s.heap.objs.size f cd)
 N:=N
 s₀:=s
 H₀:=H
 env:=envOfC qual scope s.heap.objs.size f cd
 outer:=outer
 stack:=envOfC qual scope s.heap.objs.size f cd::outer
 ex:=[]
 calm:=true
 fn:=fun _=>true
 pn:=[]
 xe:=fun e s'=>wpAny (model P w) (A.deeper (envOfC qual scope s.heap.objs.size f cd)) (leaving (envOfC qual scope s.heap.objs.size f cd) e) (fun _ s''=>CX outer H s E e s'') (fun e' s''=>CX outer H s E e' s'') s'
theorem zdO {sc:Scope} (h:sc.names.lookup x=some .cell):∃ c,(cellsFrom n sc.names []).lookup x=some c:=by
 have q:=W.cellsFrom_some sc.names n [] (.inl h)
 exact Option.isSome_iff_exists.mp q
theorem zfM {K:W.Frag}
  (S:FnScope N ps scope) (hd:A.handled=none) (e0:Env0 P w K mg base A outer s H) (hl:vs.length=ps.length) (r:Vals vs us)
  (x:InCallC s s.heap.objs.size (bindL (envOfC qual scope s.heap.objs.size f cd).kindOf (ps.zip us) fun _=>none) (cellsFrom (s.heap.objs.size + 1) scope.names []) (bindC (envOfC qual scope s.heap.objs.size f cd).kindOf (ps.zip us) fun _=>none) s1):
  Inv (cxOf CX P w K mg base N qual scope f cd A outer s H E) [] (start N vs) H s1:=by
 have hpl:ps.length<=N.length:=by have:=congrArg List.length S.pre; rw [length_take] at this; lia
 obtain ⟨h1,tk,rfl,hk⟩:=x.done
 have noA:∀ b:Addr,b∉(cxOf CX P w K mg base N qual scope f cd A outer s H E).ex:=fun b z=>absurd (show b∈([]:List Addr) from z) (by simp)
 refine ⟨⟨e0.mod,S.kind,rfl,rfl,le_refl _,fun y z c h1 h2=>?_,fun y hy=>?_,fun y c _ h=>?_,fun _=>hd,Around.frames_deeper e0.frames,.inr ⟨rfl,rfl⟩,fun b z=>absurd z (noA b),e0.bs,e0.bsz,fun b _ _=>noA b,fun b z=>absurd z (noA b),e0.funs,e0.frf⟩,
  rfl,e0.bare,Un.kept hk,⟨_,x.toInCall.ns,fun i y v h1 h2 h3=>?_⟩,fun y c h=>⟨_,x.cell y c h⟩,e0.hok.fresh (le_refl _),fun y c h=>?_,fun p hp=>absurd (show p∈([]:List (Addr×Obj)) from hp) (by simp),e0.hok.kept hk,?_⟩
 ·exact name_of_addr x.apart (PySem.mem_of_lookup h1) (PySem.mem_of_lookup h2)
 ·have hy:scope.names.lookup y=some .cell\/scope.names.lookup y=some .free:=hy
  rcases hy with hy | hy
  ·exact zdO hy
  ·exact absurd rfl (S.nofree _ (PySem.mem_of_lookup hy))
 ·exact le_of_lt (x.above y c (PySem.mem_of_lookup h))
 ·have hi:i < vs.length:=by
   unfold start at h2
   by_cases hi:i < vs.length
   ·exact hi
   ·rw [getElem?_append_right (by simpa using hi)] at h2
    rw [List.getElem?_replicate] at h2
    split at h2 <;> cases h2
  have ha:vs[i]?=some v:=by
   unfold start at h2
   rw [getElem?_append_left (by simpa using hi),getElem?_map] at h2
   cases e:vs[i]? with
   | none=>rw [e] at h2; cases h2
   | some a=>rw [e] at h2; cases h2; rfl
  obtain ⟨u,hu,rv⟩:=r.get ha
  have hp:ps[i]?=some y:=by
   rw [<- S.pre,List.getElem?_take_of_lt (by lia)]; exact h1
  have ndP:ps.Nodup:=by rw [<- S.pre]; exact S.nd.sublist (List.take_sublist _ _)
  refine ⟨u,rv,?_⟩
  rcases S.par y (mem_of_getElem? hp) with k | k
  ·exact .inl ⟨k,zcF ndP hp hu k⟩
  ·obtain ⟨c,e⟩:=zdO (n:=s.heap.objs.size + 1) k
   refine .inr ⟨.inl k,c,e,?_⟩
   have q:=x.cell y c e
   rw [zcZ ndP hp hu (by show scope.names.lookup y≠_; rw [k]; decide)] at q
   exact q
 ·exact e0.hok.fresh (le_of_lt (x.above y c (PySem.mem_of_lookup h)))
 ·unfold start
  show _=N.length
  rw [length_append,length_map,List.length_replicate]
  lia
theorem znk {K:W.Frag} {dV kV doc pm cdv ct oc:Value} (lk:K.lookup f=some ⟨oc,od,.func (W.fnOf name qual params body scope dV kV doc pm an cdv ct),osl⟩) (hcd:W.codeIn K cdv qual=true) (S:FnScope N ps scope)
  (len:∀ vs H Q E,sp vs H Q E->vs.length=ps.length)
  (hbody:∀ (A:Around) (outer:List Env) (s:Shared) (H:Hp) (vs:List V) (Q:VK) (E:XK),Room k (A.deeper (envOfC qual scope s.heap.objs.size f cdv))->sp vs H Q E->
   ∃ t,PSs (cxOf CX P w K mg base N qual scope f cdv A outer s H E) body t/\t { nx:=fun _ H'=>Q .non H',rt:=Q } (start N vs) H):
  FnOk P w K mg base CX (k + 1) f (W.fnOf name qual params body scope dV kV doc pm an cdv ct) ps sp:=by
 refine ⟨len,fun A outer s H args us vs Q E hr e0 hb r hsp=>?_⟩
 have hl:=len _ _ _ _ hsp
 have KX:K.In s.heap:=e0.mod.kin.keeps fun b o e=>(e0.bs b o e).1
 have lim:s.heap.NoLimit:=e0.mod.nolimit.keeps fun b o e=>(e0.bs b o e).1
 have hkind:∀ y∈ps.zip us,scope.names.lookup y.1=some .local\/(scope.names.lookup y.1=some .cell/\((cellsFrom (s.heap.objs.size + 1) scope.names []).lookup y.1).isSome=true):=fun ⟨n,v⟩ hy=>by
  rcases S.par n (of_mem_zip hy).1 with q | q
  ·exact .inl q
  ·exact .inr ⟨q,W.cellsFrom_some _ _ _ (.inl q)⟩
 refine codeAny_call_function hr.depth (KX _ _ lk) rfl S.co S.gen rfl (W.codeRec_of KX hcd) (hb _ _ _ _ ?_)
 refine wpAny_newFunctionEnv_cells S.kind hkind fun env he s1 x=>?_
 subst he
 refine ⟨lim.keeps x.toInCall.keep,codeAny_func ?_⟩
 obtain ⟨t,ht,hq⟩:=hbody A outer s H vs Q E (hr.deeper _) hsp
 have I:Inv (cxOf CX P w K mg base N qual scope f cdv A outer s H E) [] (start N vs) H s1:=zfM S hr.hd e0 hl r x
 refine wpAny_mono (ht [] s1 (start N vs) H _ I hq) (fun fl s' hs=>?_) fun e s' hs=>hs
 have fin:∀ {σ':St} {H':Hp} {v:V} {u:Value},Inv (cxOf CX P w K mg base N qual scope f cdv A outer s H E) [] σ' H' s'->RelV v u->Q v H'->CE outer P w H s Q u s':=
  fun {σ' H' v u} J rv q=>⟨v,H',J.os,J.bare,J.base,J.hok,rv,q⟩
 cases fl with
 | ret u=>
   obtain ⟨v,σ',H',J,rv,q⟩:=hs
   exact fin J rv q
 | next=>
   obtain ⟨σ',H',J,q⟩:=hs
   exact fin (v:=V.non) (u:=Value.none) J rfl q
 | brk=>
   obtain ⟨_,_,_,q⟩:=hs
   exact False.elim q
 | cont=>
   obtain ⟨_,_,_,q⟩:=hs
   exact False.elim q
end L2
namespace L2
open PySem PySem.Spec PyProof.Rows
section
variable {X:Cx} {x:Str} {p pos:Pos} {e:Expr} {es:List Expr} {t:TA} {id T:String} {r:List V->Hp->VK->Prop}
def tCB (r:List V->Hp->VK->Prop) (t:TA):TE:=fun σ H Q=>t σ H fun vs H1=>r vs H1 Q
theorem zgP (hc:CallR X (.builtin id) r) (hg:Gl X x) (hm:X.mg x=none) (hv:bootBuiltins x=some (.builtin id)) (ha:PA X (e::es) t) (hn:x≠"__name__":=by decide) (hdb:(x == ("__debug__":Str))=false:=by decide)
  (he:starEach (e::es) X.env=(false,eval e X.env)::starEach es X.env:=by rfl) (hpl:(backTo pos (starEach es X.env)).any (·.1)=false:=by rfl):PE X (.Call (.Name x p) (e::es) [] pos) (tCB r t):=by
 intro pins s σ H Q I h
 refine wpAny_Call_Name_kw (zcE I hg hm hv ?_ hn hdb)
 exact PyProof.Rows.callWith_builtin1 (thn (ha pos pins s σ H _ I h) fun us s1 ⟨vs,H1,I1,r1,q1⟩=>hc pins s1 σ H1 vs us Q I1 r1 q1) he hpl
theorem zfw (hc:CallR X (.type T) r) (hg:Gl X x) (hm:X.mg x=none) (hv:bootBuiltins x=some (.type T)) (ha:PA X (e::es) t) (hn:x≠"__name__":=by decide) (hdb:(x == ("__debug__":Str))=false:=by decide)
  (he:starEach (e::es) X.env=(false,eval e X.env)::starEach es X.env:=by rfl) (hpl:(backTo pos (starEach es X.env)).any (·.1)=false:=by rfl):PE X (.Call (.Name x p) (e::es) [] pos) (tCB r t):=by
 intro pins s σ H Q I h
 refine wpAny_Call_Name_kw (zcE I hg hm hv ?_ hn hdb)
 exact PyProof.Rows.callWith_type1 (thn (ha pos pins s σ H _ I h) fun us s1 ⟨vs,H1,I1,r1,q1⟩=>hc pins s1 σ H1 vs us Q I1 r1 q1) he hpl
end
section
variable {κ:Type} [DecidableEq κ]
def valV (kvs:List (κ×V)) (k:κ):Option V:=(kvs.find? fun kv=>decide (kv.1=k)).map (·.2)
def putK (kvs:List (κ×V)) (k:κ) (v:V):List (κ×V):=
 if (kvs.any fun kv=>decide (kv.1=k))=true then kvs.map (fun kv=>if kv.1=k then (kv.1,v) else kv) else kvs++[(k,v)]
theorem za8 {p:κ×V} {r:List (κ×V)} {k:κ} (e:p.1=k):valV (p::r) k=some p.2:=by simp [valV,find?_cons,e]
theorem zbg {p:κ×V} {r:List (κ×V)} {k:κ} (e:¬ p.1=k):valV (p::r) k=valV r k:=by simp [valV,find?_cons,e]
theorem zd2 (k:κ):∀ kvs:List (κ×V),(kvs.any fun kv=>decide (kv.1=k))=(valV kvs k).isSome
 | []=>rfl
 | p::r=>by
   rw [any_cons]
   by_cases e:p.1=k
   ·simp only [za8 e,decide_eq_true e,Bool.true_or,isSome_some]
   ·rw [zbg e,decide_eq_false e,Bool.false_or]; exact zd2 k r
theorem zaJ (kvs:List (κ×V)) (k:κ) (v:V):(putK kvs k v).length<=kvs.length + 1:=by
 unfold putK
 grind
theorem RelO.isSome_eq (r:RelO o u):o.isSome=u.isSome:=by
 cases o with
 | none=>cases u with
   | none=>rfl
   | some _=>exact (show False from r).elim
 | some _=>cases u with
   | none=>exact (show False from r).elim
   | some _=>rfl
theorem KV.val {kvs:List (κ×V)} {vs:List (κ×Value)} (r:KV kvs vs) (k:κ):RelO (valV kvs k) (valueAt vs k):=by
 unfold KV at r
 induction r with
 | nil=>exact True.intro
 | @cons p q ps qs h t ih=>
   obtain ⟨h1,h2⟩:=h
   by_cases e:p.1=k
   ·have e':q.1=k:=h1.symm.trans e
    have b:valueAt (q::qs) k=some q.2:=by simp [valueAt,find?_cons,e']
    rw [za8 e,b]; exact h2
   ·have e':¬ q.1=k:=fun z=>e (h1.trans z)
    have b:valueAt (q::qs) k=valueAt qs k:=by simp [valueAt,find?_cons,e']
    rw [zbg e,b]; exact ih
theorem KV.any (r:KV kvs vs) (k:κ):(kvs.any fun kv=>decide (kv.1=k))=vs.any fun kv=>decide (kv.1=k):=by
 unfold KV at r
 induction r with
 | nil=>rfl
 | cons h t ih=>rw [any_cons,any_cons,ih,h.1]
theorem KV.repl (r:KV kvs vs) (k:κ) (ry:RelV y u):
  KV (kvs.map fun kv=>if kv.1=k then (kv.1,y) else kv) (vs.map fun kv=>if kv.1=k then (kv.1,u) else kv):=by
 unfold KV at r ⊢
 induction r with
 | nil=>exact .nil
 | @cons p q ps qs h t ih=>
   rw [map_cons,map_cons]
   refine .cons ?_ ih
   grind
theorem KV.put (r:KV kvs vs) (k:κ) (ry:RelV y u):KV (putK kvs k y) (stored vs k u):=by
 unfold putK stored
 rw [r.any k]
 by_cases e:(vs.any fun kv=>decide (kv.1=k))=true
 ·rw [if_pos e,if_pos e]; exact r.repl k ry
 ·rw [if_neg e,if_neg e]; exact Paired.snoc r ⟨rfl,ry⟩
theorem KV.length (r:KV kvs vs):kvs.length=vs.length:=Paired.length r
end
theorem zfA (r:RelV (kV k) u):(mixKind P w).is k u=true:=by
 cases k with
 | inl i=>obtain ⟨t,e⟩:=(show ∃ t,u=Value.int i t from r); subst e; exact zdE P w i t
 | inr x=>obtain ⟨t,e⟩:=(show ∃ t,u=Value.str x t from r); subst e; exact zdB P w x t
theorem zcK:∀ {ks:List Key} {us:List Value},Vals (ks.map kV) us->ItemsAre (mixKind P w) ks us
 | [],_,r=>by rw [map_nil] at r; cases r; exact .nil
 | k::ks,_,r=>by
   rw [map_cons] at r
   cases r with
   | cons h t=>exact .cons (zfA h) (zcK t)
abbrev KT (H:Hp):List (List Key×V)->List (List Key×Addr×Value)->Prop:=Paired fun p q=>p.1=q.1/\H q.2.1=some (.tup (p.1.map kV))/\RelV p.2 q.2.2
theorem KT.val {H:Hp} {kvs:List (List Key×V)} {xs:List (List Key×Addr×Value)} (r:KT H kvs xs) (k:List Key):RelO (valV kvs k) ((atKey xs k).map (·.2)):=by
 induction r with
 | nil=>exact True.intro
 | @cons p q ps qs h t ih=>
   obtain ⟨h1,_,h2⟩:=h
   by_cases e:p.1=k
   ·have e':q.1=k:=h1.symm.trans e
    have b:atKey (q::qs) k=some q.2:=by simp [atKey,find?_cons,e']
    rw [za8 e,b]; exact h2
   ·have e':¬ q.1=k:=fun z=>e (h1.trans z)
    have b:atKey (q::qs) k=atKey qs k:=by simp [atKey,find?_cons,e']
    rw [zbg e,b]; exact ih
theorem KT.repl (r:KT H kvs xs) (k:List Key) (ry:RelV y u):
  KT H (kvs.map fun kv=>if kv.1=k then (kv.1,y) else kv) (xs.map (putAt k u)):=by
 induction r with
 | nil=>exact .nil
 | @cons p q ps qs h t ih=>
   rw [map_cons,map_cons]
   refine .cons ?_ ih
   obtain ⟨h1,h2,h3⟩:=h
   unfold putAt
   by_cases e:p.1=k
   ·rw [if_pos e,if_pos (h1.symm.trans e)]; exact ⟨h1,h2,ry⟩
   ·rw [if_neg e,if_neg (fun z=>e (h1.trans z))]; exact ⟨h1,h2,h3⟩
theorem KT.put (r:KT H kvs xs) (k:List Key) (hb:H b=some (.tup (k.map kV))) (ry:RelV y u):
  KT H (putK kvs k y) (storedH xs k b u):=by
 have e:(kvs.any fun kv=>decide (kv.1=k))=(atKey xs k).isSome:=by
  rw [zd2,(r.val k).isSome_eq,isSome_map]
 unfold putK storedH
 rw [e]
 by_cases q:(atKey xs k).isSome=true
 ·rw [if_pos q,if_pos q]; exact r.repl k ry
 ·rw [if_neg q,if_neg q]; exact Paired.snoc r ⟨rfl,hb,ry⟩
theorem KT.keeps (r:KT H kvs xs) (ht:∀ b ys,H b=some (.tup ys)->H' b=some (.tup ys)):KT H' kvs xs:=
 Paired.mapP r fun _ _ z=>⟨z.1,ht _ _ z.2.1,z.2.2⟩
section
variable {P:Program} {w:World} {H:Hp} {h:Heap} {a:Addr}
theorem zj0 (ok:HOk P w H h) (e:Rd H a u):ObjOk P w H h a u:=e.ok ok
theorem zio (ok:HOk P w H h) (e:Rd H a (.dK kvs)):kvs.length<=sizeLine/\(a == sysModules)=false/\∃ vs,KV kvs vs/\h.DictOf (mixKind P w) a vs:=
 show ObjOk P w H h a (.dK kvs) from zj0 ok e
theorem zjd (ok:HOk P w H h) (e:H a=some (.dK kvs)):kvs.length<=sizeLine/\(a == sysModules)=false/\∃ vs,KV kvs vs/\h.DictOf (mixKind P w) a vs:=zio ok (.inl e)
theorem zb7 (ok:HOk P w H h) (e:H a=some (.tup (ks.map kV))):(tupleKind (mixKind P w)).is h ks a:=by
 obtain ⟨_,its,r,o,h1,h2,n,h3⟩:=(show ObjOk P w H h a (.tup (ks.map kV)) from ok a _ e)
 exact ⟨o,its.toArray,n,h1,h2,h3,by simpa using zcK r⟩
theorem zf2 (ok:HOk P w H h) (e:Rd H a (.dT kvs)):kvs.length<=sizeLine/\(a == sysModules)=false/\
  ∃ xs,KT H kvs xs/\h.DictOfH (tupleKind (mixKind P w)) a xs:=by
 obtain ⟨z,y,xs,r,o,es,ep,h1,h2,h3,h4,h5⟩:=(show ObjOk P w H h a (.dT kvs) from zj0 ok e)
 refine ⟨z,y,xs,r,o,es,ep,h1,h2,h3,h4,fun x hx=>?_,h5⟩
 have all:∀ {l:List (List Key×V)} {m:List (List Key×Addr×Value)},KT H l m->∀ x∈m,(tupleKind (mixKind P w)).is h x.1 x.2.1:=by
  intro l m q
  induction q with
  | nil=>intro x hx; exact nomatch hx
  | @cons p q ps qs hq t ih=>
    intro x hx
    rcases mem_cons.mp hx with e | hx
    ·subst e
     exact zb7 ok (by rw [<- hq.1]; exact hq.2.1)
    ·exact ih x hx
 exact all r x hx
theorem ziZ (ok:HOk P w H h) (e:H a=some (.dT kvs)):kvs.length<=sizeLine/\(a == sysModules)=false/\
  ∃ xs,KT H kvs xs/\h.DictOfH (tupleKind (mixKind P w)) a xs:=zf2 ok (.inl e)
end
def DGet (H:Hp) (a:Addr) (y:V) (r:Option V):Prop:=
 (∃ kvs k,Rd H a (.dK kvs)/\y=kV k/\r=valV kvs k)\/∃ kvs k b,Rd H a (.dT kvs)/\y=.ref b/\H b=some (.tup (k.map kV))/\r=valV kvs k
def DPut (H:Hp) (a:Addr) (y v:V) (H':Hp):Prop:=
 (∃ kvs k,H a=some (.dK kvs)/\y=kV k/\kvs.length < sizeLine/\H'=upd H a (.dK (putK kvs k v)))\/
 ∃ kvs k b,H a=some (.dT kvs)/\y=.ref b/\H b=some (.tup (k.map kV))/\kvs.length < sizeLine/\H'=upd H a (.dT (putK kvs k v))
section
variable {X:Cx} {pins:List (Addr×Obj)} {σ:St} {H:Hp} {s:Shared} {a:Addr} {y v:V} {u r:Value} {o:Option V} {A:Around} {E:Value->Shared->Prop}
theorem Inv.big (I:Inv X pins σ H s):sysModules < s.heap.objs.size:=by
 have h:mainGlobals < s.heap.objs.size:=(I.mod.glob.keeps I.bk).lt
 exact lt_trans (by decide) h
theorem d_in (hu:A.units + 1 < cLine) (I:Inv X pins σ H s) (g:DGet H a y o) (ry:RelV y u) (h:∀ s',Inv X pins σ H s'->Q (.bool o.isSome) s'):
  wpAny (model X.prog X.w) A (compareOp .In u (.ref a)) Q E s:=by
 rcases g with ⟨kvs,k,e,ey,l⟩ | ⟨kvs,k,b,e,ey,eb,l⟩
 ·subst ey
  obtain ⟨z,hd,vs,rel,dd⟩:=zio I.hok e
  refine wpAny_in_of (zfA ry) hd dd.mapOf ?_
  rw [<- (rel.val k).isSome_eq,<- l]
  exact h _ (I.tok _)
 ·subst ey
  cases (show u=Value.ref b from ry)
  obtain ⟨z,hd,xs,rel,dd⟩:=zf2 I.hok e
  refine wpAny_in_heap (tupleKind_room_in1 hu) (zb7 I.hok eb) hd dd ?_
  have q:=(rel.val k).isSome_eq
  rw [isSome_map] at q
  rw [<- q,<- l]
  exact h _ (I.tok _)
theorem zh9 (hu:A.units + 1 < cLine) (I:Inv X pins σ H s) (g:DGet H a y o) (ry:RelV y u) (h:∀ s',Inv X pins σ H s'->Q (.bool (!o.isSome)) s'):
  wpAny (model X.prog X.w) A (compareOp .NotIn u (.ref a)) Q E s:=by
 rcases g with ⟨kvs,k,e,ey,l⟩ | ⟨kvs,k,b,e,ey,eb,l⟩
 ·subst ey
  obtain ⟨z,hd,vs,rel,dd⟩:=zio I.hok e
  refine wpAny_notIn_of (zfA ry) hd dd.mapOf ?_
  rw [<- (rel.val k).isSome_eq,<- l]
  exact h _ (I.tok _)
 ·subst ey
  cases (show u=Value.ref b from ry)
  obtain ⟨z,hd,xs,rel,dd⟩:=zf2 I.hok e
  refine wpAny_notIn_heap (tupleKind_room_in1 hu) (zb7 I.hok eb) hd dd ?_
  have q:=(rel.val k).isSome_eq
  rw [isSome_map] at q
  rw [<- q,<- l]
  exact h _ (I.tok _)
theorem zcv (I:Inv X pins σ H s) (mu:Mut (H a)) (hs:Heap.SameBut a s.heap h') (he:∃ q,h'.get? a=some q) (new:ObjOk X.prog X.w (upd H a ob) h' a ob):
  Inv X pins σ (upd H a ob) { s with heap:=h',toks:=t' }:=
 I.write (x:=a) (e:=a) mu (.inl rfl) (fun b q hb z=>(hs.2 b hb).trans z) he new
theorem zhc (z:kvs.length<=sizeLine) (hd:(a == sysModules)=false) (rel:KV kvs vs) (dd:h'.DictOf (mixKind P w) a vs):
  ObjOk P w H' h' a (.dK kvs):=⟨z,hd,vs,rel,dd⟩
theorem zfS (hu:A.units + 1 < cLine) (I:Inv X pins σ H s) (g:DPut H a y v H') (ry:RelV y u) (rv:RelV v r) (h:∀ s',Inv X pins σ H' s'->Q () s'):
  wpAny (model X.prog X.w) A (setItem (.ref a) u r) Q E s:=by
 rcases g with ⟨kvs,k,e,ey,l,eH⟩ | ⟨kvs,k,b,e,ey,eb,l,eH⟩
 ·subst ey eH
  obtain ⟨z,hd,vs,rel,dd⟩:=zjd I.hok e
  have hz:vs.length<=sizeLine:=by rw [<- rel.length]; exact z
  have hl:(putK kvs k v).length<=sizeLine:=by have:=zaJ kvs k v; lia
  refine wpAny_setItem_pairs (hsz:=hz) (zfA ry) dd fun h' dd' hs=>h _ ?_
  have he:∃ q,h'.get? a=some q:=let ⟨q,_,_,hq,_⟩:=dd'; ⟨q,hq⟩
  exact zcv I (by rw [e]; exact True.intro) hs he (zhc hl hd (rel.put k rv) dd')
 ·subst ey eH
  cases (show u=Value.ref b from ry)
  obtain ⟨z,hd,xs,rel,dd⟩:=ziZ I.hok e
  have hz:xs.length<=sizeLine:=by rw [<- Paired.length rel]; exact z
  have hl:(putK kvs k v).length<=sizeLine:=by have:=zaJ kvs k v; lia
  refine wpAny_setItem_heap (hsz:=hz) (tupleKind_room_in1 hu) (zb7 I.hok eb) dd fun h' dd' hs=>h _ ?_
  obtain ⟨q,es,ep,hq,h2,h3,h4,_,h5⟩:=dd'
  refine zcv I (by rw [e]; exact True.intro) hs ⟨q,hq⟩ ⟨hl,hd,_,(rel.put k eb rv).keeps fun c ys ec=>?_,q,es,ep,hq,h2,h3,h4,h5⟩
  rw [zaf (zjw ec e (fun z=>nomatch z))]
  exact ec
end
def sDPut (td ty tv:TE):TS:=fun D σ H=>tv σ H fun v H1=>td σ H1 fun x H2=>ty σ H2 fun y H3=>∃ a H4,x=.ref a/\DPut H3 a y v H4/\D.nx σ H4
section
variable {X:Cx} {o i e value:Expr} {pos pos' tpos:Pos} {td ty tv:TE}
theorem zim (hu:X.A.units + 1 < cLine) (ho:PE X o td) (hi:PE X i ty) (hv:PE X value tv) (hs:swapsWith value (some (.Subscript o i pos')) pos.line X.env=pure false):
  PS X (.Assign [.Subscript o i pos'] value pos) (sDPut td ty tv):=by
 intro pins s σ H D I h
 refine wpAny_Assign_Subscript (thn (hv pins s σ H _ I h) fun r s1 ⟨v,H1,I1,rv,q1⟩=>thn (ho pins s1 σ H1 _ I1 q1) fun u s2 ⟨x,H2,I2,rx,q2⟩=>thn (hi pins s2 σ H2 _ I2 q2) fun iv s3 zq=>?_) hs
 obtain ⟨y,H3,I3,ry,a,H4,ex,g,q3⟩:=zq
 subst ex
 obtain rfl:u=Value.ref a:=rx
 exact zfS hu I3 g ry rv fun s4 I4=>⟨σ,H4,I4,q3⟩
end
theorem zf6 (h:Heap) (hb:sysModules < h.objs.size):ObjOk P w H (h.push { cls:=.type "dict",data:=.dict #[] }) h.objs.size (.dT []):=
 ⟨zero_le _,beq_eq_false_iff_ne.mpr (Ne.symm (ne_of_lt hb)),[],.nil,_,#[],0,qd _ rfl,⟨rfl,rfl,rfl⟩,rfl,rfl,nodup_nil⟩
end L2
end
section
namespace HT
open PySem PyProof.Rows
def lexLt:List Int->List Int->Bool
 | [],[]=>false
 | [],_::_=>true
 | _::_,[]=>false
 | x::xs,y::ys=>if x=y then lexLt xs ys else decide (x < y)
theorem zat (x y:Int) (xs ys:List Int):lexLt (x::xs) (y::ys)=if x=y then lexLt xs ys else decide (x < y):=rfl
section
open PySem.SeqAt
open PySem.AutoSeq1 (wpAny_loadPart')
open PySem.MeetsSeq PySem.MeetsSeq2 PySem.MeetsSeq3
end
section
variable {prog:Program} {w:World} {A:Around} {E:Value->Shared->Prop} {s:Shared}
theorem cat_tup (ht:IsTup s.heap t vs.toArray) (hb:IsTup s.heap b ws.toArray) (hv:vs≠[])
  (h1:ws=[]->Q (.ref t) s) (h2:ws≠[]->Q (.ref s.heap.objs.size) { s with heap:=s.heap.push { cls:=.type "tuple",data:=.seq (vs++ws).toArray } })
  (hsz:vs.length + ws.length<=sizeLine):wpAny (model prog w) A (binaryOp .Add (.ref t) (.ref b)) Q E s:=by
 obtain ⟨⟨cls,dd,data,sl⟩,ho,hc,n,hd⟩:=id ht
 obtain ⟨⟨cls2,dd2,data2,sl2⟩,ho2,hc2,n2,hd2⟩:=id hb
 simp only at hc hd hc2 hd2
 subst hc hd hc2 hd2
 have e:vs.toArray++ws.toArray=(vs++ws).toArray:=by simp
 by_cases hw:ws=[]
 ·exact concat_meets ⟨_,ho,rfl⟩ ⟨_,ho2,rfl⟩ noFill_tuple_add seq_tuple_add PySem.F.slot_tuple_add PySem.F.entry_tuple_add (PySem.F.args_tuple_add_2 _ _)
   (tuple_addW1 t b vs.toArray ws.toArray n n2 dd dd2 sl sl2 (by simpa using hv) (by simp [hw])) ⟨ho,ho2,h1 hw⟩
 ·refine concat_meets ⟨_,ho,rfl⟩ ⟨_,ho2,rfl⟩ noFill_tuple_add seq_tuple_add PySem.F.slot_tuple_add PySem.F.entry_tuple_add (PySem.F.args_tuple_add_2 _ _)
   (tuple_addW2 t b vs.toArray ws.toArray n n2 dd dd2 sl sl2 (by simpa using hv) (by simpa using hw) (by rw [size_toArray,size_toArray]; exact hsz)) ⟨ho,ho2,?_⟩
  rw [e]
  exact h2 hw
def sIx (n d:Nat):Option Int->Nat
 | none=>d
 | some v=>if v < 0 then (v + (n:Int)).toNat else min v.toNat n
theorem sIx_le (n d:Nat) (hd:d<=n) (o:Option Int):sIx n d o<=n:=by
 cases o with
 | none=>exact hd
 | some v=>
   show (if v < 0 then (v + (n:Int)).toNat else min v.toNat n)<=n
   by_cases hv:v < 0
   ·rw [if_pos hv]; lia
   ·rw [if_neg hv]; exact Nat.min_le_right _ _
theorem zfy (v:Int) (n d:Nat):(if v < 0 then max (v + (n:Int)) 0 else min v (n:Int))=((sIx n d (some v):Nat):Int):=by
 show (if v < 0 then max (v + (n:Int)) 0 else min v (n:Int))=(((if v < 0 then (v + (n:Int)).toNat else min v.toNat n):Nat):Int)
 grind
theorem zex (lo hi:Option Int) (n:Nat):Builtin.Slice.sliceAdjust lo hi 1 (n:Int)=(((sIx n 0 lo:Nat):Int),((sIx n n hi:Nat):Int)):=by
 have h1:¬ ((1:Int) < 0):=by lia
 unfold Builtin.Slice.sliceAdjust
 simp only [h1,if_false]
 refine Prod.ext ?_ ?_
 ·cases lo with
  | none=>rfl
  | some v=>exact zfy v n 0
 ·cases hi with
  | none=>rfl
  | some v=>exact zfy v n n
theorem zeg (i j:Nat):Builtin.Slice.slicePlaces (i:Int) (j:Int) 1=j - i:=by
 unfold Builtin.Slice.slicePlaces
 have h1:(1:Int) > 0:=by lia
 simp only [h1,if_true,Int.ediv_one]
 split <;> lia
theorem zb4 (p:IsPart v o) (h:Q o s):wpAny (model prog w) A (Builtin.Slice.slicePartIndex v) Q E s:=by
 cases p with
 | none=>exact slicePart_none h
 | int i t=>exact slicePart_int h
theorem sliceApplied_gen {lo hi:Option Int} {n:Nat} (hs:s.heap.IsSliceOf sl vl vu .none) (pl:IsPart vl lo) (pu:IsPart vu hi)
  (h:Q (((sIx n 0 lo:Nat):Int),1,sIx n n hi - sIx n 0 lo) s):wpAny (model prog w) A (Builtin.Slice.sliceApplied (.ref sl) (pure (n:Int))) Q E s:=by
 obtain ⟨os,hos,hcs,hds⟩:=id hs
 unfold Builtin.Slice.sliceApplied Builtin.Slice.sliceFields
 refine qa (qa (wpAny_field hos hds (x:=vl) rfl (qa (wpAny_field hos hds (x:=vu) rfl (qa (wpAny_field hos hds (x:=.none) rfl (qb ?_)))))))
 refine qa (slicePart_none ?_)
 show wpAny _ _ (if ((1:Int) == 0)=true then _ else _) _ _ s
 rw [if_neg (by decide)]
 refine qa (zb4 pl (qa (zb4 pu (qa (qb ?_)))))
 show wpAny _ _ (match Builtin.Slice.sliceAdjust lo hi 1 (n:Int) with | (lo,hi)=>pure (lo,(1:Int),Builtin.Slice.slicePlaces lo hi 1)) _ _ s
 rw [zex lo hi n]
 show wpAny _ _ (pure (((sIx n 0 lo:Nat):Int),(1:Int),Builtin.Slice.slicePlaces ((sIx n 0 lo:Nat):Int) ((sIx n n hi:Nat):Int) 1)) _ _ s
 rw [zeg]
 exact qb h
theorem zgS (xs:Array Value) (i k:Nat):((List.range k).filterMap fun (m:Nat)=>xs[((i:Int) + (m:Int) * 1).toNat]?).toArray=((xs.toList.drop i).take k).toArray:=by
 have e:(fun (m:Nat)=>xs[((i:Int) + (m:Int) * 1).toNat]?)=fun m=>xs[i + m]?:=by
  funext m
  have:((i:Int) + (m:Int) * 1).toNat=i + m:=by lia
  rw [this]
 rw [e]
 have:=pick_run xs i k
 rw [List.filterMap_map] at this
 have e2:((fun x=>xs[x]?) ∘ fun x=>i + x)=fun m=>xs[i + m]?:=rfl
 rw [e2] at this
 rw [this]
theorem getItem_tuple_cut {lo hi:Option Int} (ht:IsTup s.heap t items) (hs:s.heap.IsSliceOf sl vl vu .none) (pl:IsPart vl lo) (pu:IsPart vu hi)
  (hw:¬ (sIx items.size 0 lo=0/\sIx items.size items.size hi=items.size))
  (h:Q (.ref s.heap.objs.size) { s with heap:=s.heap.push { cls:=.type "tuple",data:=.seq ((items.toList.drop (sIx items.size 0 lo)).take (sIx items.size items.size hi - sIx items.size 0 lo)).toArray } })
  (hsz:items.size<=sizeLine):wpAny (model prog w) A (getItem (.ref t) (.ref sl)) Q E s:=by
 have htake:sizeOk (.seq ((items.toList.drop (sIx items.size 0 lo)).take (sIx items.size items.size hi - sIx items.size 0 lo)).toArray):=by
  show ((items.toList.drop (sIx items.size 0 lo)).take (sIx items.size items.size hi - sIx items.size 0 lo)).toArray.size<=sizeLine
  grind
 have hj:sIx items.size items.size hi<=items.size:=sIx_le _ _ (le_refl _) hi
 obtain ⟨os,hos,hcs,hds⟩:=id hs
 have hTs:s.TypeIs (.ref sl) "slice":=⟨os,hos,hcs⟩
 unfold getItem
 try with_reducible refine wpAny_holding ?_
 first | refine qa (qb ?_) | skip
 refine qa (wpAny_sequenceKey ht.typeIs (by decide) ?_)
 refine qa (wpAny_callSpecial?_slot (name:=Str.ofString "__getitem__") ht.typeIs PyProof.Rows.slot_tuple_getitem
  (wpAny_call_entry PyProof.Rows.slot_tuple_getitem ht.typeIs entry_tuple_getitem ?_ (args_tuple_getitem _ _)))
 show wpAny _ _ (Builtin.Tuple.tupleItemsOf (.ref t) >>= _) _ _ s
 refine qa (tupleItemsOf_ ht ?_)
 refine qa (wpAny_typeOf hTs ?_)
 rw [if_pos (by decide)]
 refine qa (sliceApplied_gen hs pl pu ?_)
 have hno:¬ ((((sIx items.size 0 lo:Nat):Int) == 0 && (1:Int) == 1 && (sIx items.size items.size hi - sIx items.size 0 lo) == items.size)=true):=by
  grind
 show wpAny _ _ (if (((sIx items.size 0 lo:Nat):Int) == 0 && (1:Int) == 1 && (sIx items.size items.size hi - sIx items.size 0 lo) == items.size)=true then _ else _) _ _ s
 rw [if_neg hno,zgS]
 first
  | exact qa (m:=Builtin.Tuple.tupleExact _) (wpAny_newObj_type (qb ⟨_,rfl,qb h⟩) htake)
  | exact qa (m:=Builtin.Tuple.tupleExact _) (wpAny_newObj_type (qa (qb (qb ⟨_,rfl,qb h⟩))) htake)
  | exact qa (qa (m:=Builtin.Tuple.tupleExact _) (wpAny_newObj_type (qb (qb ⟨_,rfl,qb h⟩)) htake))
  | exact qa (qa (m:=Builtin.Tuple.tupleExact _) (wpAny_newObj_type (qb ⟨_,rfl,qb h⟩) htake))
end
end HT
namespace L2
open PySem PySem.Spec PyProof.Rows
abbrev TO:=St->Hp->(Option Int->Hp->Prop)->Prop
def PO (X:Cx) (e:Option Expr) (t:TO):Prop:=
 ∀ (pins:List (Addr×Obj)) (s:Shared) (σ:St) (H:Hp) (Q:Option Int->Hp->Prop),Inv X pins σ H s->t σ H Q->
   wpAny (model X.prog X.w) X.A (evalPart e X.env) (fun u s'=>∃ o H',Inv X pins σ H' s'/\IsPart u o/\Q o H') X.xe s
def tNoPart:TO:=fun _ H Q=>Q none H
def tPart (t:TE):TO:=fun σ H Q=>t σ H fun x H1=>∃ i,x=.int i/\Q (some i) H1
theorem zbl:∀ {us:List Value},Vals (ns.map V.int) us->IntsAre us ns:=by
 induction ns with
 | nil=>intro us r; rw [map_nil] at r; cases r; exact .nil
 | cons n ns ih=>
   intro us r
   rw [map_cons] at r
   cases r with
   | cons r1 r2=>
     obtain ⟨t,e⟩:=r1
     subst e
     exact .cons n t (ih r2)
section
variable {X:Cx} {e:Expr} {te:TE} {lo hi:Option Expr} {tl th:TO} {pos p2:Pos}
theorem zey:PO X none tNoPart:=by
 intro pins s σ H Q I h
 rw [evalPart_none]
 exact qb ⟨none,H,I,.none,h⟩
theorem zce (h:PE X e te):PO X (some e) (tPart te):=by
 intro pins s σ H Q I hw
 rw [evalPart_some]
 refine thn (h pins s σ H _ I hw) fun u s1 zq=>?_
 obtain ⟨x,H1,I1,r1,q1⟩:=zq
 obtain ⟨i,rfl,q⟩:=q1
 obtain ⟨t,rfl⟩:=r1
 exact ⟨some i,H1,I1,.int i t,q⟩
def SlR (X:Cx) (r:V->Option Int->Option Int->Hp->VK->Prop):Prop:=
 ∀ (pins:List (Addr×Obj)) (s:Shared) (σ:St) (H:Hp) (x:V) (v vl vu:Value) (lo hi:Option Int) (sl:Addr) (Q:VK),Inv X pins σ H s->RelV x v->s.heap.IsSliceOf sl vl vu .none->IsPart vl lo->IsPart vu hi->r x lo hi H Q->
   ∃ T id,typeLookup (.type T) "__getitem__"=pure (some (.builtin id))/\s.TypeIs v T/\wpAny (model X.prog X.w) X.A (getItem v (.ref sl)) (EP X pins σ Q) X.xe s
theorem SlR.or (h:SlR X r) (h':SlR X r'):SlR X (fun x lo hi H Q=>r x lo hi H Q\/r' x lo hi H Q):=by
 intro pins s σ H x v vl vu lo hi sl Q I rx hs pl pu q
 rcases q with q | q
 ·exact h pins s σ H x v vl vu lo hi sl Q I rx hs pl pu q
 ·exact h' pins s σ H x v vl vu lo hi sl Q I rx hs pl pu q
def tSl (r:V->Option Int->Option Int->Hp->VK->Prop) (te:TE) (tl th:TO):TE:=fun σ H Q=>te σ H fun x H1=>tl σ H1 fun l H2=>th σ H2 fun u H3=>r x l u H3 Q
theorem zcj (hr:SlR X r) (he:PE X e te) (hl:PO X lo tl) (hu:PO X hi th):PE X (.Subscript e (.Slice lo hi none p2) pos) (tSl r te tl th):=by
 intro pins s σ H Q I h
 refine Subscript_ (thn (he pins s σ H _ I h) fun v s1 zq=>?_)
 obtain ⟨x,H1,I1,r1,q1⟩:=zq
 refine wpAny_Slice (thn (hl pins s1 σ H1 _ I1 q1) fun vl s2 ⟨l,H2,I2,pl,q2⟩=>thn (hu pins s2 σ H2 _ I2 q2) fun vu s3 zq=>?_)
 obtain ⟨u,H3,I3,pu,q3⟩:=zq
 rw [evalPart_none]
 refine qb ?_
 have I4:Inv X pins σ H3 { s3 with heap:=s3.heap.push { cls:=.type "slice",data:=.fields #[vl,vu,.none] } }:=I3.kept (t':=s3.toks) fun b ob q=>qc _ q
 obtain ⟨T,id,hT,ht,hg⟩:=hr pins { s3 with heap:=s3.heap.push { cls:=.type "slice",data:=.fields #[vl,vu,.none] } } σ H3 x v vl vu l u s3.heap.objs.size Q I4 r1 (Heap.IsSliceOf.new ..) pl pu q3
 show wpAny (model X.prog X.w) X.A (subscriptTail e (.Slice lo hi none p2) v (.ref s3.heap.objs.size)) (EP X pins σ Q) X.xe { s3 with heap:=s3.heap.push { cls:=.type "slice",data:=.fields #[vl,vu,.none] } }
 exact tail_any (ops:=[.ref s3.heap.objs.size,v]) ht hT hg (by with_unfolding_all rfl)
def cutV (xs:List V) (lo hi:Option Int):List V:=(xs.drop (HT.sIx xs.length 0 lo)).take (HT.sIx xs.length xs.length hi - HT.sIx xs.length 0 lo)
theorem zbW (xs:List V) (lo hi:Option Int):(cutV xs lo hi).length<=xs.length:=by
 unfold cutV
 rw [length_take,length_drop]
 lia
def rSlT (K:W.Frag):V->Option Int->Option Int->Hp->VK->Prop:=fun x lo hi H Q=>∃ a xs,x=.ref a/\SqT K H a xs/\
 ¬ (HT.sIx xs.length 0 lo=0/\HT.sIx xs.length xs.length hi=xs.length)/\∀ p,H p=none->Q (.ref p) (upd H p (.tup (cutV xs lo hi)))
theorem zkX:SlR X (rSlT X.K):=by
 intro pins s σ H x v vl vu lo hi sl Q I rx hs pl pu h
 obtain ⟨a,xs,rfl,hx,hw,q⟩:=h
 cases rx
 obtain ⟨its,r,ht,hz⟩:=I.tuple hx
 have hlen:its.toArray.size=xs.length:=by rw [size_toArray]; exact r.length.symm
 refine ⟨"tuple",_,PyProof.Rows.slot_tuple_getitem.lookup,ht.typeIs,?_⟩
 refine HT.getItem_tuple_cut ht hs pl pu (by rw [hlen]; exact hw) ?_ (by rw [hlen]; exact hz)
 rw [hlen]
 refine ⟨.ref s.heap.objs.size,_,I.laid (t':=s.toks) (o:=.tup (cutV xs lo hi)) (fun b ob q=>qc _ q) (le_refl _) ?_,rfl,q _ (I.hok.fresh (le_refl _))⟩
 exact ⟨le_trans (zbW xs lo hi) hz,_,(r.drop (HT.sIx xs.length 0 lo)).take (HT.sIx xs.length xs.length hi - HT.sIx xs.length 0 lo),IsTup.new _ _⟩
def rCatT (K:W.Frag):R2:=fun x y H Q=>∃ a b xs ys,x=.ref a/\y=.ref b/\SqT K H a xs/\SqT K H b ys/\xs≠[]/\xs.length + ys.length<=sizeLine/\
 (ys=[]->Q (.ref a) H)/\(ys≠[]->∀ p,H p=none->Q (.ref p) (upd H p (.tup (xs++ys))))
theorem Vals.nil_iff (r:Vals xs us):us=[]↔xs=[]:=by
 cases r with
 | nil=>simp
 | cons _ _=>simp
theorem zif:OpR X (binaryOp .Add) (rCatT X.K):=by
 intro pins s σ H x y v u Q I rx ry h
 obtain ⟨a,b,xs,ys,rfl,rfl,ha,hb,hx,hz,q1,q2⟩:=h
 cases rx
 cases ry
 obtain ⟨its,r1,p1,_⟩:=I.tuple ha
 obtain ⟨its2,r2,p2,_⟩:=I.tuple hb
 refine HT.cat_tup p1 p2 (fun z=>hx (r1.nil_iff.mp z)) (fun z=>⟨.ref a,H,I,rfl,q1 (r2.nil_iff.mp z)⟩) (fun z=>?_) (by rw [<- r1.length,<- r2.length]; exact hz)
 refine ⟨.ref s.heap.objs.size,_,I.laid (t':=s.toks) (o:=.tup (xs++ys)) (fun b ob q=>qc _ q) (le_refl _) ?_,rfl,q2 (fun w=>z (r2.nil_iff.mpr w)) _ (I.hok.fresh (le_refl _))⟩
 exact ⟨by rw [length_append]; exact hz,_,r1.append r2,IsTup.new _ _⟩
end
end L2
namespace L2
open PySem PySem.Spec PyProof.Rows
def ixN (n:Nat) (i:Int):Option Nat:=if 0<=i then (if i < n then some i.toNat else none) else if -(n:Int)<=i then some (i + n).toNat else none
def atI {α:Type} (xs:List α) (i:Int):Option α:=(ixN xs.length i).bind fun j=>xs[j]?
theorem zdi (h:ixN n i=some j):seqIndex? i n=some j/\j < n/\-(n:Int)<=i/\i < n:=by
 unfold ixN at h
 by_cases h0:0<=i
 ·rw [if_pos h0] at h
  by_cases h1:i < n
  ·rw [if_pos h1] at h
   have e:i.toNat=j:=qg h
   exact ⟨by rw [seqIndex_of h0 h1,e],by lia,by lia,h1⟩
  ·rw [if_neg h1] at h; cases h
 ·rw [if_neg h0] at h
  by_cases h1:-(n:Int)<=i
  ·rw [if_pos h1] at h
   have e:(i + n).toNat=j:=qg h
   exact ⟨by rw [seqIndex_neg (by lia) h1,e],by lia,h1,by lia⟩
  ·rw [if_neg h1] at h; cases h
theorem zdq (h:atI xs i=some v):∃ j,seqIndex? i xs.length=some j/\xs[j]?=some v/\j < xs.length/\-(xs.length:Int)<=i/\i < xs.length:=by
 unfold atI at h
 cases e:ixN xs.length i with
 | none=>rw [e] at h; cases h
 | some j=>
   rw [e] at h
   obtain ⟨h1,h2,h3,h4⟩:=zdi e
   exact ⟨j,h1,h,h2,h3,h4⟩
def PlainIx (b:Expr):Prop:=∀ o i,subscripted b false o i=operate [o,i] (getItem o i)
def IxR (X:Cx) (r:R2):Prop:=
 ∀ (value slice:Expr) (pins:List (Addr×Obj)) (s:Shared) (σ:St) (H:Hp) (x y:V) (v u:Value) (Q:VK),Inv X pins σ H s->RelV x v->RelV y u->r x y H Q->
   subscripted slice false v u=operate [v,u] (getItem v u)->wpAny (model X.prog X.w) X.A (subscriptTail value slice v u) (EP X pins σ Q) X.xe s
def MtR (X:Cx) (id:String) (r:V->List V->Hp->VK->Prop):Prop:=
 ∀ (pins:List (Addr×Obj)) (s:Shared) (σ:St) (H:Hp) (x:V) (xs:List V) (v:Value) (us:List Value) (Q:VK),Inv X pins σ H s->RelV x v->Vals xs us->r x xs H Q->
   wpAny (model X.prog X.w) X.A (call (.builtin id) (v::us)) (EP X pins σ Q) X.xe s
section
variable {X:Cx} {a b:Expr} {ta tb:TE} {pos:Pos}
theorem IxR.or (h:IxR X r) (h':IxR X r'):IxR X (fun x y H Q=>r x y H Q\/r' x y H Q):=by
 intro value slice pins s σ H x y v u Q I rx ry q hs
 rcases q with q | q
 ·exact h value slice pins s σ H x y v u Q I rx ry q hs
 ·exact h' value slice pins s σ H x y v u Q I rx ry q hs
theorem zk1 (hr:IxR X r) (ha:PE X a ta) (hb:PE X b tb) (hs:PlainIx b):PE X (.Subscript a b pos) (tOp r ta tb):=by
 intro pins s σ H Q I h
 exact Subscript_ (binT ha hb I h fun v u s2 x y H2 I2 rx ry q=>hr a b pins s2 σ H2 x y v u Q I2 rx ry q (hs _ _))
def rIxL (K:W.Frag):R2:=fun x y H Q=>∃ p xs i v,x=.ref p/\y=.int i/\SqL K H p xs/\atI xs i=some v/\Q v H
def rIxT (K:W.Frag):R2:=fun x y H Q=>∃ p xs i v,x=.ref p/\y=.int i/\SqT K H p xs/\atI xs i=some v/\Q v H
def rIxS:R2:=fun x y H Q=>∃ z i c,x=.str z/\y=.int i/\z.length<=sizeLine/\atI z.cps.toList i=some c/\Q (.str ⟨#[c]⟩) H
theorem zic:IxR X (rIxL X.K):=by
 intro value slice pins s σ H x y v u Q I rx ry h hs
 obtain ⟨p,xs,i,z,rfl,rfl,hq,he,q⟩:=h
 cases rx
 obtain ⟨t,rfl⟩:=ry
 obtain ⟨its,r,pl,hz⟩:=I.list hq
 obtain ⟨j,h1,h2,h3,h4,h5⟩:=zdq he
 obtain ⟨w,ew,rw'⟩:=r.get h2
 have hl:=r.length
 have hn:=line63
 have fin:EP X pins σ Q w s:=⟨z,H,I,rw',q⟩
 by_cases h0:0<=i
 ·have hj:i.toNat=j:=by
   rw [seqIndex_of h0 h5] at h1
   exact qg h1
  exact item_listR pl.isList h0 (by lia) (by rw [hj]; simpa using ew) fin hs
 ·have hj:(i + (its.toArray.size:Int)).toNat=j:=by
   rw [seqIndex_neg (by lia) h4] at h1
   rw [size_toArray,<- hl]
   exact qg h1
  exact subscriptTail_builtinR (x:=w) pl.isList.typeIs slot_list_getitem.lookup
   (wpAny_getItem_list_neg (Q:=fun r s'=>r=w/\EP X pins σ Q r s') pl.isList (by lia) (by rw [size_toArray] <;> lia) (by lia) (by rw [hj]; simpa using ew) ⟨rfl,fin⟩) hs
theorem zjJ:IxR X (rIxT X.K):=by
 intro value slice pins s σ H x y v u Q I rx ry h hs
 obtain ⟨p,xs,i,z,rfl,rfl,hq,he,q⟩:=h
 cases rx
 obtain ⟨t,rfl⟩:=ry
 obtain ⟨its,r,pl,hz⟩:=I.tuple hq
 obtain ⟨j,h1,h2,h3,h4,h5⟩:=zdq he
 obtain ⟨w,ew,rw'⟩:=r.get h2
 have hl:=r.length
 have hn:=line63
 have fin:EP X pins σ Q w s:=⟨z,H,I,rw',q⟩
 exact subscriptTail_builtinR (x:=w) pl.typeIs slot_tuple_getitem.lookup
  (getItem_tuple (j:=j) (Q:=fun r s'=>r=w/\EP X pins σ Q r s') pl (by lia) (by lia) (by rw [size_toArray,<- hl]; exact h1) (by simpa using ew) ⟨rfl,fin⟩) hs
theorem zjx:IxR X rIxS:=by
 intro value slice pins s σ H x y v u Q I rx ry h hs
 obtain ⟨z,i,c,rfl,rfl,hz,he,q⟩:=h
 obtain ⟨t,rfl⟩:=rx
 obtain ⟨t',rfl⟩:=ry
 obtain ⟨j,h1,h2,h3,h4,h5⟩:=zdq he
 have hl:z.cps.toList.length=z.length:=by simp [Str.length]
 rw [hl] at h1 h4 h5
 have hn:=line63
 exact tail_any (typeIs_str s z t) slot_str_getitem.lookup (getItem_str (c:=c) (by
  have e1:decide (i < -(2 ^ 63:Int))=false:=decide_eq_false (by lia)
  have e2:decide (i ≥ 2 ^ 63)=false:=decide_eq_false (by lia)
  rw [e1,e2,Bool.or_false]) (by rw [h1]; simpa using h2) ⟨.str ⟨#[c]⟩,H,I.tok _,⟨_,rfl⟩,q⟩) hs
def rIx (K:W.Frag):R2:=fun x y H Q=>rIxL K x y H Q\/rIxT K x y H Q\/rIxS x y H Q
theorem zjy:IxR X (rIx X.K):=zic.or (zjJ.or zjx)
theorem zew (its:List Value) (n j:Nat) (u:Value):Obj.mapSeq (·.setIfInBounds j u) { cls:=.type "list",data:=.seq its.toArray n }={ cls:=.type "list",data:=.seq (its.set j u).toArray n }:=by
 simp [Obj.mapSeq]
theorem Inv.lst (I:Inv X pins σ H s) (h:H p=some (.lst xs)):
  ∃ (its:List Value) (n:Nat),Vals xs its/\s.heap.get? p=some { cls:=.type "list",data:=.seq its.toArray n }/\xs.length<=sizeLine:=by
 obtain ⟨z,its,n,r,e⟩:=I.hok p _ h
 exact ⟨its,n,r,e,z⟩
theorem Inv.lstUpd {its its':List Value} (I:Inv X pins σ H s) (h:H p=some (.lst xs))
  (ho:s.heap.get? p=some { cls:=.type "list",data:=.seq its.toArray n }) (hf:f { cls:=.type "list",data:=.seq its.toArray n }={ cls:=.type "list",data:=.seq its'.toArray n' }) (r:Vals ys its') (hz:ys.length<=sizeLine) (t:Nat):
  Inv X pins σ (upd H p (.lst ys)) { s with heap:=s.heap.update p f,toks:=t }:=by
 have e:(s.heap.update p f).get? p=some { cls:=.type "list",data:=.seq its'.toArray n' }:=by
  rw [Heap.get?_update_self f ho (by rw [hf] <;> rfl),hf]
 refine I.write (x:=p) (e:=p) (by rw [h]; trivial) (.inl rfl) (fun b u hb q=>(Heap.get?_update_other _ _ (Ne.symm hb)).trans q) ⟨_,e⟩ ?_
 exact ⟨hz,its',n',r,e⟩
def rSetL:V->V->V->Hp->(Hp->Prop)->Prop:=fun o i v H Q=>∃ p xs k j,o=.ref p/\i=.int k/\H p=some (.lst xs)/\ixN xs.length k=some j/\Q (upd H p (.lst (xs.set j v)))
theorem zfW:PSet X rSetL:=by
 intro pins s σ H o i v ov iv u Q I ro ri rv h
 obtain ⟨p,xs,k,j,rfl,rfl,hp,hj,q⟩:=h
 cases ro
 obtain ⟨t,rfl⟩:=ri
 obtain ⟨its,n,r,ho,hz⟩:=I.lst hp
 obtain ⟨h1,h2,h3,h4⟩:=zdi hj
 have hl:=r.length
 have hn:=line63
 have I':Inv X pins σ (upd H p (.lst (xs.set j v))) { s with heap:=s.heap.update p (Obj.mapSeq (·.setIfInBounds j u)) }:=
  I.lstUpd hp ho (zew its n j u) (r.set rv j) (by rw [List.length_set]; exact hz) s.toks
 by_cases h0:0<=k
 ·have hk:k.toNat=j:=by
   rw [seqIndex_of h0 h4] at h1
   exact qg h1
  exact W.ki_setAt ho h0 (by lia) (by rw [size_toArray,<- hl]; exact h4) (by rw [hk]; exact ⟨_,I',q⟩)
 ·have hk:(k + (its.toArray.size:Int)).toNat=j:=by
   rw [seqIndex_neg (by lia) h3] at h1
   rw [size_toArray,<- hl]
   exact qg h1
  exact W.ki_setBack ho (by lia) (by rw [size_toArray,<- hl]; exact h3) (by lia) (by rw [hk]; exact ⟨_,I',q⟩)
theorem zcJ (lo hi:Option Int) (n:Nat):(sliceBounds lo hi none n).1=((HT.sIx n 0 lo:Nat):Int)/\(sliceBounds lo hi none n).2.1=((HT.sIx n n hi:Nat):Int)/\(sliceBounds lo hi none n).2.2=1:=by
 have clip:∀ (i:Int) (n d:Nat),max 0 (min (if i < 0 then i + (n:Int) else i) (n:Int))=((HT.sIx n d (some i):Nat):Int):=fun i n d=>by
  show _=((if i < 0 then (i + (n:Int)).toNat else min i.toNat n:Nat):Int)
  split <;> lia
 refine ⟨?_,?_,rfl⟩
 ·cases lo with
  | none=>rfl
  | some i=>exact clip i n 0
 ·cases hi with
  | none=>rfl
  | some i=>exact clip i n n
theorem zcr (its:List Value) (lo hi:Option Int):slicePick its.toArray lo hi none=((its.drop (HT.sIx its.length 0 lo)).take (HT.sIx its.length its.length hi - HT.sIx its.length 0 lo)).toArray:=by
 obtain ⟨h1,h2,h3⟩:=zcJ lo hi its.toArray.size
 unfold slicePick
 rw [h1,h2,h3]
 simp only [sliceRange_one,pick_run,size_toArray] <;> rfl
def rSlL (K:W.Frag):V->Option Int->Option Int->Hp->VK->Prop:=fun x lo hi H Q=>∃ a xs,x=.ref a/\SqL K H a xs/\∀ p,H p=none->Q (.ref p) (upd H p (.lst (cutV xs lo hi)))
theorem zhQ:SlR X (rSlL X.K):=by
 intro pins s σ H x v vl vu lo hi sl Q I rx hs pl pu h
 obtain ⟨a,xs,rfl,hx,q⟩:=h
 cases rx
 obtain ⟨its,r,ht,hz⟩:=I.list hx
 have hlen:=r.length
 refine ⟨"list",_,slot_list_getitem.lookup,ht.isList.typeIs,?_⟩
 refine wpAny_getItem_list_slice ht.isList hs pl pu .none (by simp) ?_ (by rw [size_toArray] <;> lia)
 rw [zcr,<- hlen]
 refine ⟨.ref s.heap.objs.size,_,I.laid (t':=s.toks) (o:=.lst (cutV xs lo hi)) (fun b ob q=>qc _ q) (le_refl _) ?_,rfl,q _ (I.hok.fresh (le_refl _))⟩
 exact ⟨le_trans (zbW xs lo hi) hz,_,0,(r.drop (HT.sIx xs.length 0 lo)).take (HT.sIx xs.length xs.length hi - HT.sIx xs.length 0 lo),qd _ rfl⟩
theorem zcU:CallR X (.builtin "len") (fun xs H Q=>∃ p ys,xs=[.ref p]/\(SqL X.K H p ys\/SqT X.K H p ys)/\Q (.int ys.length) H):=by
 intro pins s σ H xs us Q I r h
 obtain ⟨p,ys,rfl,hq,q⟩:=h
 obtain ⟨u,rfl,rx⟩:=vals1 r
 cases rx
 have hn:=line63
 rcases hq with hq | hq
 ·obtain ⟨its,r',pl,hz⟩:=I.list hq
  have hlen:=r'.length
  exact Calls.call_len_list pl.isList (by simp only [size_toArray] <;> lia) ⟨.int ys.length,H,I.tok _,⟨s.toks + 1,by rw [size_toArray,hlen]⟩,q⟩
 ·obtain ⟨its,r',pl,hz⟩:=I.tuple hq
  have hlen:=r'.length
  exact len_tuple pl (by simp only [size_toArray] <;> lia) ⟨.int ys.length,H,I.tok _,⟨s.toks + 1,by rw [size_toArray,hlen]⟩,q⟩
theorem zcH:CallR X (.builtin "len") (fun xs H Q=>∃ z,xs=[.str z]/\z.length<=sizeLine/\Q (.int z.length) H):=by
 intro pins s σ H xs us Q I r h
 obtain ⟨z,rfl,hz,q⟩:=h
 obtain ⟨u,rfl,t,rfl⟩:=vals1 r
 have hn:=line63
 exact len_str (by lia) ⟨.int z.length,H,I.tok _,⟨_,rfl⟩,q⟩
theorem zcz:CallR X (.type "list") (fun xs H Q=>∃ p ys,xs=[.ref p]/\(SqL X.K H p ys\/SqT X.K H p ys)/\∀ l,H l=none->Q (.ref l) (upd H l (.lst ys))):=by
 intro pins s σ H xs us Q I r h
 obtain ⟨p,ys,rfl,hq,q⟩:=h
 obtain ⟨u,rfl,rx⟩:=vals1 r
 cases rx
 have fin:∀ (its:List Value),Vals ys its->ys.length<=sizeLine->∀ (h':Heap) (c':Nat),(∀ b o',s.heap.get? b=some o'->h'.get? b=some o')->
   h'.get? s.heap.objs.size=some { cls:=.type "list",dict:=none,data:=.seq its.toArray c',slots:=#[] }->EP X pins σ Q (.ref s.heap.objs.size) { s with heap:=h' }:=fun its r' hz h' c' kp e=>
  ⟨.ref s.heap.objs.size,_,I.laid (t':=s.toks) kp (le_refl _) (show ObjOk X.prog X.w _ h' _ (.lst ys) from ⟨hz,its,c',r',e⟩),rfl,q _ (I.hok.fresh (le_refl _))⟩
 rcases hq with hq | hq
 ·obtain ⟨its,r',pl,hz⟩:=I.list hq
  have hlen:=r'.length
  obtain ⟨o,ho,hc,n,hd⟩:=pl.isList
  exact call_list_seq p (.inl rfl) ho hc hd (fun h' c' kp e=>fin its r' hz h' c' kp e) (by simp only [size_toArray] <;> lia)
 ·obtain ⟨its,r',pl,hz⟩:=I.tuple hq
  have hlen:=r'.length
  obtain ⟨o,ho,hc,n,hd⟩:=pl
  exact call_list_seq p (.inr rfl) ho hc hd (fun h' c' kp e=>fin its r' hz h' c' kp e) (by simp only [size_toArray] <;> lia)
theorem zcl:CallR X (.type "tuple") (fun xs H Q=>∃ p ys,xs=[.ref p]/\((SqL X.K H p ys/\∀ l,H l=none->Q (.ref l) (upd H l (.tup ys)))\/(SqT X.K H p ys/\Q (.ref p) H))):=by
 intro pins s σ H xs us Q I r h
 obtain ⟨p,ys,rfl,h⟩:=h
 obtain ⟨u,rfl,rx⟩:=vals1 r
 cases rx
 rcases h with ⟨hq,q⟩ | ⟨hq,q⟩
 ·obtain ⟨its,r',pl,hz⟩:=I.list hq
  have hlen:=r'.length
  refine call_tuple_list pl.isList (fun h' kp=>?_) (by simp only [size_toArray] <;> lia)
  have I1:Inv X pins σ H { s with heap:=h' }:=I.kept (t':=s.toks) kp
  have I2:Inv X pins σ (upd H h'.objs.size (.tup ys)) { s with heap:=h'.push { cls:=.type "tuple",data:=.seq its.toArray } }:=
   I1.laid (t':=s.toks) (fun b o e=>qc _ e) (le_refl _) (show ObjOk X.prog X.w _ _ _ (.tup ys) from ⟨hz,its,r',IsTup.new _ _⟩)
  exact ⟨.ref h'.objs.size,_,I2,rfl,q _ (I1.hok.fresh (le_refl _))⟩
 ·obtain ⟨its,r',pl,hz⟩:=I.tuple hq
  exact call_tuple_same pl ⟨.ref p,H,I,rfl,q⟩
def tyV (K:W.Frag) (T:String) (x:V) (H:Hp):Prop:=match x with
 | .str _=>T="str"
 | .int _=>T="int"
 | .ref p=>(T="list"/\∃ xs,SqL K H p xs)\/(T="tuple"/\∃ o,K.lookup p=some o/\o.cls=.type "tuple"/\o.dict=none)\/
   (T="dict"/\((∃ kvs,H p=some (.dK kvs))\/∃ kvs,H p=some (.dT kvs)))
 | _=>False
theorem zg4 (I:Inv X pins σ H s) (r:RelV x v) (ty:tyV X.K T x H):
  s.TypeIs v T/\∀ a,v=.ref a->∃ ob,s.heap.get? a=some ob/\ob.dict=none:=by
 cases x with
 | str z=>
   obtain ⟨t,rfl⟩:=r
   cases (show T="str" from ty)
   exact ⟨typeIs_str s z t,fun _ e=>nomatch e⟩
 | int i=>
   obtain ⟨t,rfl⟩:=r
   cases (show T="int" from ty)
   exact ⟨typeIs_int s i t,fun _ e=>nomatch e⟩
 | ref p=>
   cases r
   rcases ty with ⟨rfl,xs,hq⟩ | ⟨rfl,o,hk,hc,hd⟩ | ⟨rfl,hk⟩
   ·obtain ⟨its,_,pl,_⟩:=I.list hq
    refine ⟨pl.isList.typeIs,fun a e=>?_⟩
    cases e
    obtain ⟨o,n,e,c,hd,_⟩:=pl
    exact ⟨o,e,hd⟩
   ·refine ⟨⟨o,I.kIn p o hk,hc⟩,fun a e=>?_⟩
    cases e
    exact ⟨o,I.kIn _ o hk,hd⟩
   ·have z:∃ o,s.heap.get? p=some o/\o.ExactDict:=by
     rcases hk with ⟨kvs,hk⟩ | ⟨kvs,hk⟩
     ·obtain ⟨_,_,_,_,o,_,_,e,ex,_⟩:=I.hok p _ hk
      exact ⟨o,e,ex⟩
     ·obtain ⟨_,_,_,_,o,_,_,e,ex,_⟩:=I.hok p _ hk
      exact ⟨o,e,ex⟩
    obtain ⟨o,e,ex⟩:=z
    refine ⟨⟨o,e,ex.1⟩,fun a e2=>?_⟩
    cases e2
    exact ⟨o,e,ex.2.1⟩
 | _=>exact False.elim ty
def tBM0 (K:W.Frag) (T:String) (r:V->List V->Hp->VK->Prop) (to:TE):TE:=fun σ H Q=>to σ H fun x H1=>tyV K T x H1/\r x [] H1 Q
def tBM (K:W.Frag) (T:String) (r:V->List V->Hp->VK->Prop) (to:TE) (t:TA):TE:=fun σ H Q=>to σ H fun x H1=>tyV K T x H1/\t σ H1 fun xs H2=>r x xs H2 Q
variable {o e:Expr} {es:List Expr} {to:TE} {t:TA} {name:Str} {apos cpos:Pos} {T id:String} {r:V->List V->Hp->VK->Prop}
theorem zja (pa:PlainAttrs T) (slot:Slot T name id) (hty:typeOf (.builtin id)=pure (.type "method_descriptor")) (hm:MtR X id r) (ho:PE X o to)
  (hbase:attributeBase o name X.env (eval o X.env)=eval o X.env:=by rfl) (hline:(apos.endLine == cpos.line)=true:=by rfl):PE X (.Call (.Attribute o name apos) [] [] cpos) (tBM0 X.K T r to):=by
 intro pins s σ H Q I h
 refine wpAny_Call_method0_late hbase hline (thn (ho pins s σ H _ I h) fun v s1 zq=>?_)
 obtain ⟨x,H1,I1,r1,ty,q1⟩:=zq
 obtain ⟨h1,h2⟩:=zg4 I1 r1 ty
 exact ⟨T,id,pa,slot,hty,h1,h2,Calls.callWith_builtin rfl (PySem.evalArgs_none (hm pins s1 σ H1 x [] v [] Q I1 r1 .nil q1))⟩
theorem zf1 (pa:PlainAttrs T) (slot:Slot T name id) (hty:typeOf (.builtin id)=pure (.type "method_descriptor")) (hm:MtR X id r) (ho:PE X o to) (ha:PA X (e::es) t)
  (hbase:attributeBase o name X.env (eval o X.env)=eval o X.env:=by rfl)
  (hfew:((backTo cpos (starEach (e::es) X.env)).all (fun x=>!x.1) && (backToKw cpos (keywordEach [] X.env)).all (fun x=>x.1.isSome)
   && decide ((e::es).length + ([]:List Keyword).length + (if ([]:List Keyword).isEmpty then 0 else 1) < 30))=true:=by rfl)
  (hline:(apos.endLine == cpos.line)=true:=by rfl) (hs:starEach (e::es) X.env=(false,eval e X.env)::starEach es X.env:=by rfl) (hplain:(backTo cpos (starEach es X.env)).any (·.1)=false:=by rfl):
  PE X (.Call (.Attribute o name apos) (e::es) [] cpos) (tBM X.K T r to t):=by
 intro pins s σ H Q I h
 refine wpAny_Call_method_late hbase hfew hline rfl (thn (ho pins s σ H _ I h) fun v s1 zq=>?_)
 obtain ⟨x,H1,I1,r1,ty,q1⟩:=zq
 obtain ⟨h1,h2⟩:=zg4 I1 r1 ty
 refine ⟨T,id,pa,slot,hty,h1,h2,?_⟩
 have hA:=ha cpos pins s1 σ H1 _ I1 q1
 rw [hs] at hA ⊢
 refine Calls.callWith_builtin (by show (false || (backTo cpos (starEach es X.env)).any (·.1))=false; rw [hplain] <;> rfl) (Calls.evalArgs_plain ?_)
 exact thn hA fun us s2 ⟨vs,H2,I2,r2,q2⟩=>hm pins s2 σ H2 x vs v us Q I2 r1 r2 q2
end
end L2
namespace L2
open PySem PySem.Spec PyProof.Rows
def MtM (X:Cx) (id:String) (r:V->List V->Hp->VK->Prop):Prop:=
 ∀ (pins:List (Addr×Obj)) (s:Shared) (σ:St) (H:Hp) (x:V) (xs:List V) (v:Value) (us:List Value) (Q:VK),Inv X pins σ H s->RelV x v->Vals xs us->r x xs H Q->
   wpAny (model X.prog X.w) X.A (call (.builtin id) (v::us)) (EP X pins σ Q) X.xe s
theorem Vals.one:∀ {x:V} {us:List Value},Vals [x] us->∃ u,us=[u]/\RelV x u:=by
 intro x us h
 cases h with
 | cons r t=>cases t; exact ⟨_,rfl,r⟩
theorem Vals.zero:∀ {us:List Value},Vals [] us->us=[]
 | _,.nil=>rfl
theorem Vals.dropLast (h:Vals xs us):Vals xs.dropLast us.dropLast:=by
 induction h with
 | nil=>exact .nil
 | cons r t ih=>
   cases t with
   | nil=>exact .nil
   | cons q t'=>exact .cons r ih
theorem Vals.eraseIdx:∀ {xs:List V} {us:List Value} (i:Nat),Vals xs us->Vals (xs.eraseIdx i) (us.eraseIdx i)
 | _,_,_,.nil=>.nil
 | _,_,0,.cons _ t=>t
 | _,_,i + 1,.cons r t=>.cons r (Vals.eraseIdx i t)
theorem zbs {α:Type} (l:List α):l.eraseIdx (l.length - 1)=l.dropLast:=by
 induction l with
 | nil=>rfl
 | cons a r ih=>
   cases r with
   | nil=>rfl
   | cons b r=>
     grind
theorem zcL {α:Type}:∀ (l:List α) (i:Nat),(l.eraseIdx i).length<=l.length
 | [],_=>le_refl _
 | _::_,0=>le_succ _
 | _::r,i + 1=>Nat.succ_le_succ (zcL r i)
section
variable {X:Cx} {pins:List (Addr×Obj)} {σ:St} {H:Hp} {s:Shared} {l b:Addr} {xs ys zs:List V}
theorem Inv.lset {its its':List Value} (I:Inv X pins σ H s) (hH:H l=some (.lst xs))
  (e:s.heap.get? l=some { cls:=.type "list",data:=.seq its.toArray n }) (hf:f its.toArray=its'.toArray) (hv:Vals ys its') (hz:ys.length<=sizeLine):
  Inv X pins σ (upd H l (.lst ys)) { s with heap:=s.heap.update l (Obj.mapSeq f),toks:=t' }:=by
 have q:=PySem.IsL.update e f
 rw [hf] at q
 refine I.write (x:=l) (e:=l) (by rw [hH]; exact trivial) (.inl rfl) (fun b' u hb hu=>(Heap.get?_update_other s.heap (Obj.mapSeq f) (Ne.symm hb)).trans hu) ⟨_,q⟩ ?_
 exact ⟨hz,its',_,hv,q⟩
theorem Inv.lnew (I:Inv X pins σ H s) (hv:Vals ys its) (hz:ys.length<=sizeLine):
  Inv X pins σ (upd H s.heap.objs.size (.lst ys)) { s with heap:=s.heap.push { cls:=.type "list",data:=.seq its.toArray },toks:=t' }:=
 I.laid (fun _ _ q=>qc _ q) (le_refl _) ⟨hz,its,0,hv,qd _ rfl⟩
theorem Inv.fresh (I:Inv X pins σ H s):H s.heap.objs.size=none:=I.hok.fresh (le_refl _)
theorem Inv.lstM (I:Inv X pins σ H s) (hH:H l=some (.lst xs)):xs.length<=sizeLine/\∃ (its:List Value) (n:Nat),Vals xs its/\xs.length=its.length/\s.heap.get? l=some { cls:=.type "list",data:=.seq its.toArray n }:=by
 obtain ⟨z,its,n,r,e⟩:=I.hok l _ hH
 exact ⟨z,its,n,r,r.length,e⟩
theorem notLongL (h:n<=sizeLine):Builtin.List.listTooLong n=false:=by
 grind [Builtin.List.listTooLong]
end
section
variable {X:Cx}
def rAppend:V->List V->Hp->VK->Prop:=fun x vs H Q=>∃ l xs y,x=.ref l/\vs=[y]/\H l=some (.lst xs)/\xs.length < sizeLine/\Q .non (upd H l (.lst (xs++[y])))
theorem zc3:MtM X "list.append" rAppend:=by
 intro pins s σ H x vs v us Q I rx rv h
 obtain ⟨l,xs,y,rfl,rfl,hH,hz,q⟩:=h
 cases rx
 obtain ⟨u,rfl,ru⟩:=rv.one
 obtain ⟨z,its,n,r,hl,e⟩:=I.lstM hH
 refine call_meets F.slot_list_append ⟨_,e,rfl⟩ F.entry_list_append (F.args_list_append_2 _ _) (PySem.list_append l its.toArray n u (by rw [size_toArray]; lia)) ⟨e,?_⟩
 refine ⟨.non,_,I.lset (its':=its++[u]) hH e (by simp) (r.append (.cons ru .nil)) ?_,rfl,q⟩
 rw [length_append,length_singleton]
 lia
def rExtend:V->List V->Hp->VK->Prop:=fun x vs H Q=>∃ l b xs zs,x=.ref l/\vs=[.ref b]/\H l=some (.lst xs)/\H b=some (.lst zs)/\xs.length + zs.length<=sizeLine/\Q .non (upd H l (.lst (xs++zs)))
theorem zeY:MtM X "list.extend" rExtend:=by
 intro pins s σ H x vs v us Q I rx rv h
 obtain ⟨l,b,xs,zs,rfl,rfl,hH,hB,hz,q⟩:=h
 cases rx
 obtain ⟨u,rfl,ru⟩:=rv.one
 cases ru
 obtain ⟨z,its,n,r,hl,e⟩:=I.lstM hH
 obtain ⟨z2,its2,n2,r2,hl2,e2⟩:=I.lstM hB
 have hsz:its.toArray.size + its2.toArray.size<=sizeLine:=by rw [size_toArray,size_toArray]; lia
 have hlong:¬ (!its.toArray.isEmpty && Builtin.List.listTooLong (its.toArray.size + its2.toArray.size))=true:=by
  grind [notLongL]
 refine call_meets F.slot_list_extend ⟨_,e,rfl⟩ F.entry_list_extend (F.args_list_extend_2 _ _)
  (AutoSeq1.list_extend_list_list_0 l its.toArray n b its2.toArray n2 hlong (by rw [size_toArray]; lia) (by lia)) ⟨e,e2,?_⟩
 refine ⟨.non,_,I.lset (its':=its++its2) hH e (by simp) (r.append r2) ?_,rfl,q⟩
 rw [length_append]
 lia
def rPop:V->List V->Hp->VK->Prop:=fun x vs H Q=>∃ l xs y,x=.ref l/\vs=[]/\H l=some (.lst xs)/\xs[xs.length - 1]?=some y/\Q y (upd H l (.lst xs.dropLast))
theorem ziF:MtM X "list.pop" rPop:=by
 intro pins s σ H x vs v us Q I rx rv h
 obtain ⟨l,xs,y,rfl,rfl,hH,hy,q⟩:=h
 cases rx
 have hus:=rv.zero
 subst hus
 obtain ⟨z,its,n,r,hl,e⟩:=I.lstM hH
 obtain ⟨u,hu,ru⟩:=r.get hy
 have hy':its.toArray[its.toArray.size - 1]?=some u:=by
  show its.toArray[its.length - 1]?=some u
  rw [<- getElem?_toList,<- hl]
  exact hu
 refine call_meets F.slot_list_pop ⟨_,e,rfl⟩ F.entry_list_pop (F.args_list_pop_1 _) (MeetsSeq.list_pop_last l its.toArray n u hy' (by rw [size_toArray]; lia)) ⟨e,?_⟩
 refine ⟨y,_,I.lset (its':=its.dropLast) hH e ?_ r.dropLast ?_,ru,q⟩
 ·show its.toArray.eraseIdxIfInBounds (its.toArray.size - 1)=its.dropLast.toArray
  rw [size_toArray,List.eraseIdxIfInBounds_toArray,zbs]
 ·rw [List.length_dropLast]
  lia
def rPopAt:V->List V->Hp->VK->Prop:=fun x vs H Q=>∃ l xs i k y,x=.ref l/\vs=[.int i]/\H l=some (.lst xs)/\-(2 ^ 63)<=i/\i < 2 ^ 63/\seqIndex? i xs.length=some k/\xs[k]?=some y/\Q y (upd H l (.lst (xs.eraseIdx k)))
theorem zgJ:MtM X "list.pop" rPopAt:=by
 intro pins s σ H x vs v us Q I rx rv h
 obtain ⟨l,xs,i,k,y,rfl,rfl,hH,h1,h2,hk,hy,q⟩:=h
 cases rx
 obtain ⟨u,rfl,ru⟩:=rv.one
 obtain ⟨t,rfl⟩:=ru
 obtain ⟨z,its,n,r,hl,e⟩:=I.lstM hH
 obtain ⟨w,hw,rw'⟩:=r.get hy
 refine call_meets F.slot_list_pop ⟨_,e,rfl⟩ F.entry_list_pop (F.args_list_pop_2 _ _)
  (MeetsSeq.list_pop_at l its.toArray n i t k w (fitsIndex_both h1 h2) (by rw [size_toArray,<- hl]; exact hk) (by rw [<- getElem?_toList]; exact hw) (by rw [size_toArray]; lia)) ⟨e,?_⟩
 refine ⟨y,_,I.lset (its':=its.eraseIdx k) hH e ?_ (r.eraseIdx k) ?_,rw',q⟩
 ·show its.toArray.eraseIdxIfInBounds k=(its.eraseIdx k).toArray
  rw [List.eraseIdxIfInBounds_toArray]
 ·have:=zcL xs k
  lia
end
end L2
end
section
namespace Att
open PySem PySem.W PySem.Calls PyProof.Rows
theorem zbS:∀ (ns:List Int) (vs:List Value),WellAll P h vs (ns.map WData.int)->IntsAre vs ns:=by
 intro ns
 induction ns with
 | nil=>
   intro vs w
   rw [map_nil] at w
   cases w
   exact .nil
 | cons n ns ih=>
   intro vs w
   rw [map_cons] at w
   cases w with
   | cons a b=>
     cases a
     exact .cons _ _ (ih _ b)
theorem zfI {l:OpenLaw} (hn:l.most=some n)
  (hpre:l.row.toRowW.claim.pre args=true) (hwl:WellAll P h vals args):
  ∃ a vs ns,vals=[Value.ref a]/\args=[WData.list (ns.map WData.int)]/\h.get? a=some { cls:=.type "list",data:=.seq vs.toArray }/\IntsAre vs ns/\ns.length<=n:=by
 have hsh:WShape.hasAll [] args [.list .int]=true:=(pre_splitW hpre).1
 have hc:l.pre.holds [] { args:=args }=true:=(pre_splitW hpre).2
 obtain ⟨d,r,rfl,h1,h2⟩:=hasAllW_cons hsh
 obtain rfl:=hasAllW_nil h2
 obtain ⟨xs,rfl,h3⟩:=hasW_list h1
 obtain ⟨ns,rfl⟩:=items_int h3
 have hlen:ns.length<=n:=by
  unfold OpenLaw.pre at hc
  have h4:(WTm.not (.lt (.lit (.int (n:Int))) (.len (.arg 0)))).holds [] { args:=[.list (ns.map .int)] }=true:=by
   have h4:=(holds_andW hc).1
   rw [hn] at h4
   exact h4
  have h5:=condW_of h4 (w_not (w_lt w_lit (w_len_list (w_arg rfl))))
  grind
 cases hwl with
 | cons w1 w2=>
   cases w2
   cases w1 with
   | list ho hall=>exact ⟨_,_,ns,rfl,rfl,ho,zbS ns _ hall,hlen⟩
theorem ze2 (l:OpenLaw) (args:List WData):l.row.toRowW.claim.post args (.bool true) args=true:=
 postW_of (r:=l.row.toRowW) (X:=(true == true))
  (show WShape.has [] (.bool true) .bool=true by first | rfl | decide | simp [WShape.has,WShape.arms,WShape.armsAll])
  (show (WTm.eq .res (.lit (.bool true))).value [] { args:=args,res:=some (.bool true),after:=args }=some (.bool (true == true)) from w_eq_bool (w_res rfl) w_lit) rfl
theorem attach_call {l:OpenLaw}
  (hn:l.most=some n) (hdf:d.params.defaults=[])
  (call:∀ (w:World) (s₀ s₁:Shared) (mg mb:Str->Option Value) (fa:Addr) (o:Obj) (pm cd doc:Value) (a:Addr) (vs:List Value) (ns:List Int),
   Ground q loose [] XP w s₀ mg mb s₁.heap->YP w s₁.heap->
   s₁.heap.get? fa=some o->o.data=.func (docDef d.name d.params d.body d.scope pm cd doc)->s₁.heap.CodeRec cd d.name->mg d.name=some (.ref fa)->
   s₁.heap.get? a=some { cls:=.type "list",data:=.seq vs.toArray }->IntsAre vs ns->ns.length<=n->s₁.gens=#[]->
   codeAny (model l.prog w) callerA (.call (.ref fa) ⟨[.ref a],[]⟩) (fun r s'=>r=.ok (.ret (.bool true))/\OldK s₁.heap s'.heap/\s'.os=s₁.os/\AllBare s'.gens) s₁):
  WalkO q loose XP YP l.row.toRowW d [] (fun f vs=>PySem.call f vs):=by
 intro w s₀ s₁ mg mb G Y fa o pm cd doc dV kV ho hd hcd hD hmg hg args vals as hpre hlay hrd hwl hlo
 obtain rfl:dV=.none:=Dflts.none hD hdf
 obtain rfl:kV=.none:=Dflts.noKw hD
 obtain ⟨a,vs,ns,rfl,rfl,hobj,hints,hlen⟩:=zfI hn hpre hwl
 refine enter_call (codeAny_mono (call w s₀ s₁ mg mb fa o pm cd doc a vs ns G Y ho (fd_plain hd) hcd hmg hobj hints hlen hg) fun r s' hq=>?_)
 obtain ⟨rfl,h2,h3,h4⟩:=hq
 exact ⟨.inl ⟨.bool true,.bool true,[],rfl,fun _=>rfl,.bool true,ze2 l _,fun _=>⟨List.Pairwise.nil,fun _ hm=>(nomatch hm)⟩⟩,h2,h3,h4⟩
end Att
namespace L2
open PySem PySem.Spec PyProof.Rows
theorem zaO:∀ {vs:List Value} {ns:List Int},IntsAre vs ns->Vals (ns.map V.int) vs
 | _,_,.nil=>.nil
 | _,_,.cons n t h=>.cons ⟨t,rfl⟩ (zaO h)
def Only (H:Hp):Prop:=∀ b,H b=none\/∃ o xs,H b=some (.frz o (.lst xs))
theorem zgi {K:W.Frag}
  (KX:K.In s₁.heap) (hns:s₁.heap.Ns mainGlobals mg) (hb:s₁.heap.Ns builtinsNs mb) (hbb:∀ x:Str,x≠"__name__"->mb x=bootBuiltins x) (hlim:s₁.heap.NoLimit) (hg:s₁.gens=#[])
  (ha:s₁.heap.get? a=some { cls:=.type "list",data:=.seq vs.toArray }) (hi:IntsAre vs ns) (hl:ns.length<=sizeLine) (hr:Room k callerA)
  (F:∀ base:Heap,K.In base->base.Ns mainGlobals mg->FnOk P w K mg base CX k fa fd [x] sp) (hbind:∀ (s:Shared) (u:Value),BindsTo s fd ⟨[u],[]⟩ [(x,u)])
  (hsp:∀ H:Hp,Only H->SqL K H a (ns.map V.int)->sp [.ref a] H (fun v _=>v=.bl true) fun _ _ _=>False)
  (hCX:∀ H e s',CX [] H s₁ (fun _ _ _=>False) e s'->False):
  codeAny (model P w) callerA (.call (.ref fa) ⟨[.ref a],[]⟩) (fun r s'=>r=.ok (.ret (.bool true))/\OldK s₁.heap s'.heap/\s'.os=s₁.os/\AllBare s'.gens) s₁:=by
 have rv:=zaO hi
 have lenV:=hi.length
 -- from an abstract heap in which nothing but the script may be tracked
 have core:∀ H:Hp,Only H->SqL K H a (ns.map V.int)->HOk P w H s₁.heap->(∀ b,H b≠none->b=a)->(H a≠none->K.lookup a=none)->
   codeAny (model P w) callerA (.call (.ref fa) ⟨[.ref a],[]⟩) (fun r s'=>r=.ok (.ret (.bool true))/\OldK s₁.heap s'.heap/\s'.os=s₁.os/\AllBare s'.gens) s₁:=by
  intro H hO hS hok hA hK
  have base_of:∀ {b:Addr} {o:Obj},s₁.heap.get? b=some o->H b=none->(hidT s₁.heap H).get? b=some o:=fun e n=>zgW e n
  have noA:∀ {b:Addr} {o:Obj} {es:Array DictEntry} {ep:Nat},s₁.heap.get? b=some o->o.data=.dict es ep->H b=none:=fun {b o es ep} e d=>by
   cases q:H b with
   | none=>rfl
   | some u=>
     grind
  have nsK:∀ {b:Addr} {m:Str->Option Value},s₁.heap.Ns b m->(hidT s₁.heap H).Ns b m:=fun {b m} ⟨o,es,ep,e,d,r⟩=>⟨o,es,ep,base_of e (noA e d),d,r⟩
  have hKb:K.In (hidT s₁.heap H):=fun b o e=>base_of (KX b o e) (by
   cases q:H b with
   | none=>rfl
   | some u=>
     have e':b=a:=hA b (by rw [q]; simp)
     subst e'
     rw [hK (by rw [q]; simp)] at e; cases e)
  have hM:Mod K mg (hidT s₁.heap H):=⟨hKb,nsK hns,⟨mb,nsK hb,hbb⟩,let ⟨mc,h1,h2⟩:=hlim; ⟨mc,nsK h1,h2⟩⟩
  have e0:Env0 P w K mg (hidT s₁.heap H) callerA [] s₁ H:=⟨rfl,hM,fun b o e=>zhX e,Nat.le_of_eq (zeS _ _),trivial,fun b hb=>absurd (show b∈([]:List Addr) from hb) (by simp),hok,.of_eq hg⟩
  refine codeAny_mono ((F _ hKb (nsK hns)).run callerA [] s₁ H ⟨[.ref a],[]⟩ [.ref a] [.ref a] _ _ hr e0 (hbind s₁ (.ref a)) (.cons rfl .nil) (hsp H hO hS)) fun r s' h=>?_
  cases r with
  | error e=>exact (hCX H e s' h).elim
  | ok fl=>
    cases fl with
    | next=>exact False.elim h
    | brk=>exact False.elim h
    | cont=>exact False.elim h
    | ret u=>
      obtain ⟨v,H',os,bare,un,hok',r',q⟩:=h
      have q':v=.bl true:=q
      subst q'
      obtain rfl:u=Value.bool true:=r'
      refine ⟨rfl,OldK.of_keep fun b o e=>?_,os,bare⟩
      cases q:H b with
      | none=>exact un.keep b o e q (by intro z; exact absurd (show b∈([]:List Addr) from z) (by simp)) (by simp)
      | some u=>
        rcases hO b with z | ⟨ob,xs,z⟩
        ·rw [q] at z; cases z
        ·have z2:=un.frzs b ob _ z
         obtain ⟨e1,_⟩:=hok b _ z
         obtain ⟨e2,_⟩:=hok' b _ z2
         rw [e] at e1; cases e1
         exact e2
 cases hk:K.lookup a with
 | some o=>
   -- the script is one of the module's own objects
   have e:=KX a o hk
   rw [ha] at e
   cases e
   refine core (fun _=>none) (fun _=>.inl rfl) (.inr ⟨_,vs.toArray,_,hk,rfl,rfl,rfl,by rw [size_toArray,lenV]; exact hl,by simpa using rv⟩) (fun b u z=>by have z':(none:Option HO)=some u:=z; cases z') (fun b z=>absurd rfl z) fun z=>absurd rfl z
 | none=>
   refine core (fun b=>if b=a then some (.frz { cls:=.type "list",data:=.seq vs.toArray } (.lst (ns.map V.int))) else none) (fun b=>?_) (.inl (.inr ⟨{ cls:=.type "list",data:=.seq vs.toArray },if_pos rfl⟩)) (fun b u z=>?_) (fun b z=>?_) fun _=>hk
   ·grind
   ·by_cases hb:b=a
    ·have z':=(if_pos hb).symm.trans z
     cases z'
     subst hb
     exact ⟨ha,by rw [length_map]; exact hl,vs,_,rv,ha⟩
    ·have z':=(if_neg hb).symm.trans z
     cases z'
   grind
end L2
namespace L2
open PySem PySem.Spec PyProof.Rows
theorem walk_of {l:W.OpenLaw} {K:Params->W.Frag} {CX:World->CXT} {sp:World->Sp}
  (hn:l.most=some n) (hn2:n<=sizeLine) (hdf:d.params.defaults=[]) (hr:Room k callerA)
  (hY:∀ (w:World) (h:Heap),YP w h->(K w.params).In h)
  (F:∀ (w:World) (mg:Str->Option Value) (fa:Addr) (h:Heap),(K w.params).In h->h.Ns mainGlobals mg->mg d.name=some (.ref fa)->
   ∃ fd:FuncData,(∀ (s:Shared) (u:Value),BindsTo s fd ⟨[u],[]⟩ [(x,u)])/\
     ∀ base:Heap,(K w.params).In base->base.Ns mainGlobals mg->FnOk l.prog w (K w.params) mg base (CX w) k fa fd [x] (sp w))
  (hsp:∀ (w:World) (H:Hp) (a:Addr) (ns:List Int),ns.length<=n->Only H->SqL (K w.params) H a (ns.map V.int)->sp w [.ref a] H (fun v _=>v=.bl true) fun _ _ _=>False)
  (hCX:∀ (w:World) (H:Hp) (s:Shared) (e:Value) (s':Shared),CX w [] H s (fun _ _ _=>False) e s'->False):
  W.WalkO q loose XP YP l.row.toRowW d [] (fun f vs=>PySem.call f vs):=by
 refine Att.attach_call hn hdf fun w s₀ s₁ mg mb fa o pm cd doc a vs ns G Y ho hd hcd hmg hobj hints hlen hg=>?_
 have KX:=hY w _ Y
 obtain ⟨fd,hb,hF⟩:=F w mg fa _ KX G.T.g hmg
 exact zgi KX G.T.g G.T.b G.T.builtins G.T.nolimit hg hobj hints (le_trans hlen hn2) hr hF hb (fun H hO hS=>hsp w H a ns hlen hO hS) fun H e s'=>hCX w H s₁ e s'
end L2
namespace L2
open PySem PySem.Spec PyProof.Rows
def defArgs (s:Stmt):Arguments:=match s with
 | .FunctionDef _ a _ _ _ _ _ _ _ _=>a
 | _=>{ posonlyargs:=[],args:=[],vararg:=none,kwonlyargs:=[],kw_defaults:=[],kwarg:=none,defaults:=[] }
def defBody (s:Stmt):List Stmt:=match s with
 | .FunctionDef _ _ b _ _ _ _ _ _ _=>b
 | _=>[]
def defScope (s:Stmt):Scope:=match s with
 | .FunctionDef _ _ _ _ _ _ sc _ _ _=>sc
 | _=>{ kind:=.function,names:=[],isGenerator:=false,isCoroutine:=false }
structure Fun (K:W.Frag) (x qual:Str) (st:Stmt) (f:Addr) (fd:FuncData):Prop where
 ex:∃ (oc:Value) (od:Option Addr) (kV doc pm:Value) (an:Option Addr) (cdv ct:Value) (osl:Array (Option Value)),
  fd=W.fnOf x qual (defArgs st) (defBody st) (defScope st) .none kV doc pm an cdv ct/\K.lookup f=some ⟨oc,od,.func fd,osl⟩/\W.codeIn K cdv qual=true
 kp:W.keepIn K (.ref f)=true
section
variable {P:Program} {w:World} {K:W.Frag} {mg:Str->Option Value} {base:Heap}
theorem Fun.binds {st:Stmt} (F:Fun K x qual st f fd)
  (h:∀ (kV doc pm:Value) (an:Option Addr) (cdv ct:Value) (us:List Value),us.length=ps.length->bindArgs (W.fnOf x qual (defArgs st) (defBody st) (defScope st) .none kV doc pm an cdv ct) ⟨us,[]⟩=pure (ps.zip us)):Binds K fd ps []:=by
 obtain ⟨oc,od,kV,doc,pm,an,cdv,ct,osl,rfl,lk,hcd⟩:=F.ex
 exact .all (h kV doc pm an cdv ct)
theorem zkE {st:Stmt} {kV doc pm cdv ct:Value} (l:K.lookup f=some ⟨oc,od,.func (W.fnOf x qual (defArgs st) (defBody st) (defScope st) .none kV doc pm an cdv ct),osl⟩)
  (c:W.codeIn K cdv qual=true) (k:W.keepIn K (.ref f)=true):Fun K x qual st f (W.fnOf x qual (defArgs st) (defBody st) (defScope st) .none kV doc pm an cdv ct):=⟨⟨oc,od,kV,doc,pm,an,cdv,ct,osl,rfl,l,c⟩,k⟩
end
theorem zig (hr:Room k A):A.units + 1 < cLine:=Nat.lt_of_le_of_lt (Nat.add_le_add_left (by decide:1<=64) _) hr.units
def Same (H H':Hp):Prop:=∀ b o,H b=some o->H' b=some o
theorem Same.refl (H:Hp):Same H H:=fun _ _ h=>h
theorem Same.trans (a:Same H H1) (b:Same H1 H2):Same H H2:=fun c o h=>b c o (a c o h)
end L2
end
section
namespace L2
open PySem PySem.Spec PyProof.Rows
section
variable {κ:Type} [DecidableEq κ]
theorem zcg:∀ {l:List κ} {k:κ},l.Nodup->¬ k∈l->(l++[k]).Nodup
 | [],k,_,_=>by simp
 | a::r,k,h,hk=>by
   obtain ⟨h1,h2⟩:=nodup_cons.mp h
   show (a::(r++[k])).Nodup
   refine nodup_cons.mpr ⟨fun m=>?_,zcg h2 fun m=>hk (mem_cons.mpr (Or.inr m))⟩
   rcases mem_append.mp m with q | q
   ·exact h1 q
   ·exact hk (mem_cons.mpr (Or.inl (mem_singleton.mp q).symm))
end
section
variable {M:Model} {A:Around} {E:Value->Shared->Prop} {s:Shared}
structure Left (fs:List Addr) (e:Addr) (cls:Value) (dx:Option Addr) (a0:Option Value) (T:Addr) (h h':Heap):Prop where
 new:h.objs.size<=T
 keep:∀ b o,b∉fs->b≠e->h.get? b=some o->h'.get? b=some o
 slot:∀ b o,b∈fs->b≠e->h.get? b=some o->∃ sl,h'.get? b=some { o with slots:=sl }
 rcd:∃ oe vs,h'.get? e=some oe/\oe.cls=cls/\oe.dict=dx/\oe.data=.fields vs/\vs[0]?=a0/\vs[1]?=some (.ref T)
 trc:∃ oT ts,h'.get? T=some oT/\oT.data=.fields ts/\ts[3]?=some .none
theorem Obj.dict_mapFields (o:Obj) (f:Array Value->Array Value):(o.mapFields f).dict=o.dict:=by
 unfold Obj.mapFields; split <;> rfl
theorem zcW {base:Heap} {env:Env} {outer:List Env} {L e:Addr} {oe:Obj} {vs:Array Value} {head:Value} {hadNext:Bool} {Q:Unit->Shared->Prop}
  (hfr:A.frames=some (env::outer)) (hl:s.heap.FunFrames base (env::outer)) (hf:env.frame=some L) (he:s.heap.get? e=some oe) (hd:oe.data=.fields vs) (hsz:1 < vs.size)
  (h:∀ h' T,Left (frs (env::outer)) e oe.cls oe.dict vs[0]? T s.heap h'->Q () { s with heap:=h' }):
  wpAny M A (do let a <- frameOf env; let pl <- entryPlaceOf L hadNext; let b <- EntryCells.newEntry head a .none (rawInt L) .none pl; setField (.ref e) 1 b) (fun _ s'=>wpAny M A (setFlight (.ref e) none) Q E s') E s:=by
 have hene:e∉frs (env::outer):=fun hm=>by
  obtain ⟨_,o,ho,hnf⟩:=hl.mem hm
  rw [he] at ho; injection ho with ho; subst ho; exact hnf vs hd
 refine qa (wpAny_frameOf_fun hfr hl hf fun h₁ hs₁=>?_)
 refine qa (wpAny_entryPlaceOf fun pl hpl=>?_)
 unfold EntryCells.newEntry newFields
 refine qa (wpAny_newObj_type ?_ (hpl.sizeOk5 _ _ _ _ _))
 have he₁:h₁.get? e=some oe:=(hs₁.2.1 e hene).trans he
 have he₂:=qc (h:=h₁) { cls:=.type "traceback",dict:=none,data:=.fields ([head,.ref L,.none,rawInt L,.none]++(if pl.isEmpty then List.replicate 6 Value.none else pl)).toArray } he₁
 refine wpAny_setField he₂ hd hsz ?_
 have hTe:h₁.objs.size≠e:=ne_of_gt (qe he₁)
 have hd₃:=Obj.data_mapFields hd (·.setIfInBounds 1 (Value.ref h₁.objs.size))
 have he₃:=Heap.get?_update_self (Obj.mapFields (·.setIfInBounds 1 (Value.ref h₁.objs.size))) he₂ (Obj.isFreed_of_fields hd₃)
 have hT₃:=(Heap.get?_update_other (h₁.push { cls:=.type "traceback",dict:=none,data:=.fields ([head,.ref L,.none,rawInt L,.none]++(if pl.isEmpty then List.replicate 6 Value.none else pl)).toArray })
  (Obj.mapFields (·.setIfInBounds 1 (Value.ref h₁.objs.size))) (Ne.symm hTe)).trans (qd h₁ rfl)
 unfold setFlight
 refine qa (wpAny_field he₃ hd₃ (x:=.ref h₁.objs.size) (by simp [hsz]) ?_)
 rw [if_pos (show (Value.ref h₁.objs.size !=Value.none)=true from by simp)]
 refine wpAny_setField hT₃ rfl (by simp only [size_toArray,length_append,length_cons,length_nil] <;> omega) (h _ h₁.objs.size ?_)
 have keep:∀ b o,b≠e->h₁.get? b=some o->
   (((h₁.push { cls:=.type "traceback",dict:=none,data:=.fields ([head,.ref L,.none,rawInt L,.none]++(if pl.isEmpty then List.replicate 6 Value.none else pl)).toArray }).update e (Obj.mapFields (·.setIfInBounds 1 (Value.ref h₁.objs.size)))).update h₁.objs.size
     (Obj.mapFields (·.setIfInBounds 3 ((none:Option Addr).elim Value.none fun f=>rawInt f)))).get? b=some o:=fun b o hbe hb=>by
  have hbT:h₁.objs.size≠b:=ne_of_gt (qe hb)
  rw [Heap.get?_update_other _ _ hbT,Heap.get?_update_other _ _ (Ne.symm hbe)]
  exact qc _ hb
 refine ⟨by rw [hs₁.1]; exact le_refl _,fun b o hb hbe q=>keep b o hbe ((hs₁.2.1 b hb).trans q),fun b o _ hbe q=>?_,?_,?_⟩
 ·obtain ⟨sl,hs⟩:=hs₁.2.2 b o q
  exact ⟨sl,keep b _ hbe hs⟩
 ·refine ⟨_,_,?_,Obj.cls_mapFields _ _,Obj.dict_mapFields _ _,hd₃,by rw [Array.getElem?_setIfInBounds_ne (by decide)],by simp [hsz]⟩
  rw [Heap.get?_update_other _ _ hTe]; exact he₃
 ·exact ⟨_,_,Heap.get?_update_self _ hT₃ (Obj.isFreed_of_fields (Obj.data_mapFields rfl _)),Obj.data_mapFields rfl _,by first | (simp; done) | (rcases hpl with rfl | ⟨_,_,_,_,_,_,_,rfl⟩ <;> simp)⟩
end
section
variable {P:Program} {w:World} {H:Hp} {h:Heap} {a:Addr} {o:HO}
theorem ObjOk.there (x:ObjOk P w H h a o):∃ u,h.get? a=some u:=by
 cases o with
 | lst xs=>obtain ⟨_,_,_,_,e⟩:=x; exact ⟨_,e⟩
 | tup xs=>obtain ⟨_,_,_,u,e,_⟩:=x; exact ⟨_,e⟩
 | dK kvs=>obtain ⟨_,_,_,_,o,_,_,e,_⟩:=x; exact ⟨_,e⟩
 | dT kvs=>obtain ⟨_,_,_,_,o,_,_,e,_⟩:=x; exact ⟨_,e⟩
 | set vs=>
   rcases x with ⟨_,⟨_,e⟩ | ⟨_,_,_,_,_,_,_,e,_⟩ | ⟨_,_,_,_,_,_,_,_,e,_⟩⟩
   ·exact ⟨_,e⟩
   ·exact ⟨_,e⟩
   ·exact ⟨_,e⟩
 | ins C dx fs=>obtain ⟨_,_,_,e,_⟩:=x; exact ⟨_,e⟩
 | own y=>exact x
 | xd fs=>obtain ⟨_,⟨_,_,_,e,_⟩,_⟩:=x; exact ⟨_,e⟩
 | rng lo hi=>obtain ⟨_,_,_,e⟩:=x; exact ⟨_,e⟩
 | frz ob u=>exact ⟨_,x.1⟩
 | tbl ps=>exact ⟨_,(show h.get? a=some _ from x)⟩
 | met f y=>exact ⟨_,(show h.get? a=some _ from x)⟩
 | ext φ=>exact x.2.1
end
def Fly (X:Cx) (pins:List (Addr×Obj)) (H:Hp) (h:Heap) (e:Addr) (cls:Value) (dx:Option Addr):Prop:=FpOk X pins H e/\∃ oe vs,h.get? e=some oe/\oe.cls=cls/\oe.dict=dx/\oe.data=.fields vs/\
 (vs[1]?=some .none\/∃ T oT ts,vs[1]?=some (.ref T)/\T≠e/\FpOk X pins H T/\h.get? T=some oT/\oT.data=.fields ts/\ts[3]?=some .none)
section
variable {X:Cx} {pins:List (Addr×Obj)} {σ:St} {H:Hp} {s:Shared} {E:Value->Shared->Prop} {e:Addr} {cls:Value} {dx:Option Addr}
theorem zdF {ch:List Addr} {h':Heap} (I:Inv X pins σ H s) (hch:∀ b∈ch,FpOk X pins H b) (keep:∀ b o,b∉frs X.stack->b∉ch->s.heap.get? b=some o->h'.get? b=some o) (slot:∀ b o,b∈frs X.stack->b∉ch->s.heap.get? b=some o->∃ sl,h'.get? b=some { o with slots:=sl }):
  Inv X pins σ H { s with heap:=h' }:=by
 have hx:∀ b u,H b=some u->b∉frs X.stack/\b∉ch:=fun b u z=>⟨fun q=>(by rw [I.stkFree b q] at z; cases z),fun q=>(by rw [(hch b q).1] at z; cases z)⟩
 refine I.call (ch:=ch) (t':=s.toks) (d':=s.drawn) (g':=s.gens) ⟨fun b o q _ n1 n2=>keep b o n1 n2 q,fun b o q _ n1 n2=>slot b o n1 n2 q,fun _ _ _ z _=>z,fun b o q n=>?_,fun _ _ z=>z,fun _ _ _ z=>z,fun b ps z=>⟨#[],by rw [z]; simp⟩⟩ (fun a o q=>?_) I.bare fun b hb=>?_
 ·by_cases hb:b∈frs X.stack
  ·obtain ⟨sl,z⟩:=slot b o hb n q
   exact ⟨_,z⟩
  ·exact ⟨o,keep b o hb n q⟩
 ·refine (I.hok a o q).stay (fun b u hb z=>?_) (fun _ z=>z) fun _ _ z=>z
  rcases hb with rfl | hb
  ·exact keep _ _ (hx _ _ q).1 (hx _ _ q).2 z
  ·exact keep _ _ (hx _ _ hb).1 (hx _ _ hb).2 z
 ·obtain ⟨_,f1,_,f3,f4,f5⟩:=hch b hb
  exact ⟨f3,f1,f4,f5⟩
theorem zgI {Q:Unit->Shared->Prop} (hst:X.stack=X.env::X.outer) (hf:X.env.frame=some X.env.locals) (I:Inv X pins σ H s) (F:Fly X pins H s.heap e cls dx)
  (k:∀ h',Inv X pins σ H { s with heap:=h' }->Fly X pins H h' e cls dx->Q () { s with heap:=h' }):wpAny (model X.prog X.w) X.A (noteFrame (.ref e) X.env) (fun _ s'=>wpAny (model X.prog X.w) X.A (setFlight (.ref e) none) Q E s') E s:=by
 obtain ⟨fe,oe,vs,he,rfl,rfl,hd,ht⟩:=F
 have hfr:X.A.frames=some (X.env::X.outer):=hst ▸ I.ok.frames
 have hl:s.heap.FunFrames X.base (X.env::X.outer):=hst ▸ I.stack
 unfold noteFrame
 simp only [hf]
 rcases ht with h1 | ⟨T,oT,ts,h1,hTe,fT,hT,hdT,h3⟩
 ·refine qa (wpAny_field he hd h1 ?_)
  rw [if_neg (by decide)]
  refine zcW hfr hl hf he hd (Array.getElem?_eq_some_iff.mp h1).1 fun h' T' L=>?_
  rw [<- hst] at L
  have I':Inv X pins σ H { s with heap:=h' }:=zdF (ch:=[e]) I (fun b hb=>by rw [mem_singleton.mp hb]; exact fe) (fun b o n1 n2 q=>L.keep b o n1 (fun z=>n2 (by simp [z])) q) fun b o n1 n2 q=>L.slot b o n1 (fun z=>n2 (by simp [z])) q
  obtain ⟨oe',vs',r1,r2,rd,r3,_,r5⟩:=L.rcd
  obtain ⟨oT,ts,t1,t2,t3⟩:=L.trc
  exact k h' I' ⟨fe,oe',vs',r1,r2,rd,r3,.inr ⟨T',oT,ts,r5,fun z=>absurd (qe he) (by have:=L.new; rw [z] at this; lia),I.fpOk L.new (I.hok.fresh L.new),t1,t2,t3⟩⟩
 ·refine qa (wpAny_field he hd h1 ?_)
  rw [if_pos (show (Value.ref T !=Value.none)=true from by simp)]
  refine qa (wpAny_field hT hdT h3 ?_)
  rw [if_neg (show ¬ ((Value.none == rawInt X.env.locals)=true) from by simp [rawInt])]
  refine qa (wpAny_setField hT hdT (Array.getElem?_eq_some_iff.mp h3).1 ?_)
  have other:∀ b,b≠T->(s.heap.update T (Obj.mapFields (·.setIfInBounds 3 Value.none))).get? b=s.heap.get? b:=fun b hb=>Heap.get?_update_other _ _ (Ne.symm hb)
  have noRecord:∀ b o,s.heap.get? b=some o->(∀ vs,o.data≠.fields vs)->b≠T:=fun b o hb hnf q=>by
   rw [q,hT] at hb; injection hb with hb; subst hb; exact hnf ts hdT
  refine zcW hfr (hl.of_keeps fun b o hb hnf=>⟨o,(other b (noRecord b o hb hnf)).trans hb,rfl⟩) hf ((other e (Ne.symm hTe)).trans he) hd (Array.getElem?_eq_some_iff.mp h1).1 fun h' T' L=>?_
  rw [<- hst] at L
  have hsz:(s.heap.update T (Obj.mapFields (·.setIfInBounds 3 Value.none))).objs.size=s.heap.objs.size:=Heap.size_update ..
  have I':Inv X pins σ H { s with heap:=h' }:=zdF (ch:=[e,T]) I (fun b hb=>by
   rcases mem_cons.mp hb with rfl | hb
   ·exact fe
   ·rw [mem_singleton.mp hb]; exact fT) (fun b o n1 n2 q=>L.keep b o n1 (fun z=>n2 (by simp [z])) ((other b fun z=>n2 (by simp [z])).trans q)) fun b o n1 n2 q=>L.slot b o n1 (fun z=>n2 (by simp [z])) ((other b fun z=>n2 (by simp [z])).trans q)
  obtain ⟨oe',vs',r1,r2,rd,r3,_,r5⟩:=L.rcd
  obtain ⟨oT,ts,t1,t2,t3⟩:=L.trc
  have hn:s.heap.objs.size<=T':=hsz ▸ L.new
  exact k h' I' ⟨fe,oe',vs',r1,r2,rd,r3,.inr ⟨T',oT,ts,r5,fun z=>absurd (qe he) (by rw [z] at hn; lia),I.fpOk hn (I.hok.fresh hn),t1,t2,t3⟩⟩
theorem zf0 {Q:Unit->Shared->Prop} (hst:X.stack=X.env::X.outer) (hf:X.env.frame=some X.env.locals) (I:Inv X pins σ H s) (F:Fly X pins H s.heap e cls dx)
  (k:∀ h',Inv X pins σ H { s with heap:=h' }->Fly X pins H h' e cls dx->Q () { s with heap:=h' }):wpAny (model X.prog X.w) X.A (leaving X.env (.ref e)) Q E s:=by
 unfold leaving
 exact qa (zgI hst hf I F k)
end
section
variable {X:Cx} {pins:List (Addr×Obj)} {σ:St} {H H':Hp} {s s':Shared} {e:Addr} {cls:Value} {dx:Option Addr}
theorem Inv.fpNew (I:Inv X pins σ H s) (hb:s.heap.get? b=none) (hn:H' b=none):FpOk X pins H' b:=by
 have no:∀ o,s.heap.get? b=some o->False:=fun o z=>by rw [hb] at z; cases z
 refine ⟨hn,fun z=>?_,fun z=>?_,?_,fun x c q z=>?_,fun p hp z=>?_⟩
 ·obtain ⟨m,⟨o,_,_,ho,_⟩,_⟩:=I.loc
  rw [<- z] at ho
  exact no o ho
 ·obtain ⟨_,o,ho,_⟩:=I.funs.mem z
  exact no o ho
 ·by_cases hx:b∈X.ex
  ·exact .inl hx
  ·refine .inr ?_
   cases q:X.s₀.heap.get? b with
   | none=>rfl
   | some o=>
     obtain ⟨o',z⟩:=I.base.there b o q hx
     exact (no o' z).elim
 ·obtain ⟨v,o,ho,_⟩:=I.cell x c q
  rw [z] at ho
  exact no o ho
 ·have:=(I.pin p hp).1
  rw [z] at this
  exact no _ this
theorem FpOk.few (f:FpOk X pins H b):FpOk X [] H b:=⟨f.1,f.2.1,f.2.2.1,f.2.2.2.1,f.2.2.2.2.1,fun p hp=>f.2.2.2.2.2 p (qk _ (by simpa using hp))⟩
theorem Fly.few (F:Fly X pins H h e cls dx):Fly X [] H h e cls dx:=by
 obtain ⟨f,oe,vs,h1,h2,hd,h3,h4⟩:=F
 refine ⟨f.few,oe,vs,h1,h2,hd,h3,h4.imp id ?_⟩
 rintro ⟨T,oT,ts,a1,a2,a3,a4⟩
 exact ⟨T,oT,ts,a1,a2,a3.few,a4⟩
theorem Inv.few (I:Inv X pins σ H s):Inv X [] σ H s:=I.pins_of fun p hp=>I.pin p (qk _ (by simpa using hp))
end
def CXe (P:Program) (w:World):CXT:=fun outer H s E e s'=>∃ a cls dx H',e=.ref a/\s'.os=s.os/\AllBare s'.gens/\Un (frs outer) [] H H' s.heap s'.heap/\HOk P w H' s'.heap/\E cls dx H'/\s.heap.get? a=none/\H' a=none/\
 ∃ oe vs,s'.heap.get? a=some oe/\oe.cls=cls/\oe.dict=dx/\oe.data=.fields vs/\(vs[1]?=some .none\/∃ T oT ts,vs[1]?=some (.ref T)/\T≠a/\s.heap.get? T=none/\H' T=none/\s'.heap.get? T=some oT/\oT.data=.fields ts/\ts[3]?=some .none)
section
variable {P:Program} {w:World} {K:W.Frag} {mg:Str->Option Value} {base:Heap} {N:List Str} {qual:Str} {scope:Scope} {f:Addr} {cd:Value} {A:Around} {outer:List Env} {s s':Shared} {H H':Hp} {E:XK} {σ:St} {e:Addr} {cls:Value} {dx:Option Addr}
theorem zgz (I:Inv (cxOf (CXe P w) P w K mg base N qual scope f cd A outer s H E) [] σ H' s') (F:Fly (cxOf (CXe P w) P w K mg base N qual scope f cd A outer s H E) [] H' s'.heap e cls dx) (q:E cls dx H'):
  (cxOf (CXe P w) P w K mg base N qual scope f cd A outer s H E).xe (.ref e) s':=by
 refine zf0 (X:=cxOf (CXe P w) P w K mg base N qual scope f cd A outer s H E) rfl rfl I F fun h' I' F'=>?_
 obtain ⟨fe,oe,vs,h1,h2,hd,h3,h4⟩:=F'
 have nw:∀ {b},FpOk (cxOf (CXe P w) P w K mg base N qual scope f cd A outer s H E) [] H' b->s.heap.get? b=none:=fun {b} z=>z.2.2.2.1.resolve_left fun z=>by cases z
 refine ⟨e,cls,dx,H',rfl,I'.os,I'.bare,I'.base,I'.hok,q,nw fe,fe.1,oe,vs,h1,h2,hd,h3,h4.imp id ?_⟩
 rintro ⟨T,oT,ts,a1,a2,a3,a4⟩
 exact ⟨T,oT,ts,a1,a2,nw a3,a3.1,a4⟩
end
section
variable {X:Cx} {pins:List (Addr×Obj)} {σ:St} {H:Hp} {s s':Shared} {E:XK} {u:Value}
theorem zhM (I:Inv X pins σ H s) (h:CXe X.prog X.w X.stack H s E u s'):∃ a cls dx H',u=.ref a/\Inv X pins σ H' s'/\Fly X pins H' s'.heap a cls dx/\E cls dx H':=by
 obtain ⟨a,cls,dx,H',rfl,ho,hg,un,hok,q,n1,n2,oe,vs,h1,h2,hd,h3,h4⟩:=h
 refine ⟨a,cls,dx,H',rfl,I.call' ho un hok hg (fun b z=>absurd z (by simp)),⟨I.fpNew n1 n2,oe,vs,h1,h2,hd,h3,h4.imp id ?_⟩,q⟩
 rintro ⟨T,oT,ts,a1,a2,a3,a4,a5⟩
 exact ⟨T,oT,ts,a1,a2,I.fpNew a3 a4,a5⟩
def XW (X:Cx) (σ:St):XK:=fun cls dx H'=>∀ (a:Addr) (s':Shared),Inv X [] σ H' s'->Fly X [] H' s'.heap a cls dx->X.xe (.ref a) s'
def tCallX (X:Cx) (sp:Sp) (t:TA):TE:=fun σ H Q=>t σ H fun vs H1=>sp vs H1 Q (XW X σ)
variable {k:Nat} {f:Addr} {fd:FuncData} {ps:List Str} {sp:Sp} {x:Str} {p pos:Pos} {e:Expr} {es:List Expr} {t:TA}
theorem zgw (F:FnOk X.prog X.w X.K X.mg X.base (CXe X.prog X.w) k f fd ps sp) (hr:Room k X.A) (hg:Gl X x) (hm:X.mg x=some (.ref f)) (hk:W.keepIn X.K (.ref f)=true) (hb:Binds X.K fd ps [])
  (ha:PA X (e::es) t) (hdb:(x == ("__debug__":Str))=false:=by decide) (he:starEach (e::es) X.env=(false,eval e X.env)::starEach es X.env:=by rfl) (hpl:(backTo pos (starEach es X.env)).any (·.1)=false:=by rfl):
  PE X (.Call (.Name x p) (e::es) [] pos) (tCallX X sp t):=by
 intro pins s σ H Q I h
 refine wpAny_Call_Name_kw (zh0 I hg hm ?_ hdb)
 refine W.callWith_K (h₀:=X.base) I.ok.mod.kin hk (thn (ha pos pins s σ H _ I h) fun us s1 zq=>?_) he hpl
 obtain ⟨vs,H1,I1,r,q⟩:=zq
 refine ⟨I1.kIn,?_⟩
 have hl:(us++[]).length=ps.length:=by rw [append_nil,<- r.length]; exact F.len _ _ _ _ q
 refine wpAny_call (codeAny_mono (F.run X.A X.stack s1 H1 ⟨us,[]⟩ us vs Q (XW X σ) hr I1.env0 (by have:=hb s1 us I1.kIn hl; rwa [append_nil] at this) r q) fun r s' hq=>?_)
 cases r with
 | error e=>
   obtain ⟨a,cls,dx,H',rfl,I',F',q'⟩:=zhM I1 hq
   exact q' a s' I'.few F'.few
 | ok fl=>
   cases fl with
   | ret u=>exact I1.after hq
   | next=>exact False.elim hq
   | brk=>exact False.elim hq
   | cont=>exact False.elim hq
variable {C:Addr} {bm:List Value} {B newId initId:String} {np cpos:Pos}
end
section
variable {P:Program} {w:World} {K:W.Frag} {mg:Str->Option Value} {base:Heap}
theorem Fun.okX {st:Stmt} (F:Fun K x qual st f fd) (S:FnScope N ps (defScope st)) (len:∀ vs H Q E,sp vs H Q E->vs.length=ps.length)
  (hbody:∀ (cdv:Value) (A:Around) (outer:List Env) (s:Shared) (H:Hp) (vs:List V) (Q:VK) (E:XK),Room k (A.deeper (envOfC qual (defScope st) s.heap.objs.size f cdv))->sp vs H Q E->
   ∃ t,PSs (cxOf (CXe P w) P w K mg base N qual (defScope st) f cdv A outer s H E) (defBody st) t/\t { nx:=fun _ H'=>Q .non H',rt:=Q } (start N vs) H):FnOk P w K mg base (CXe P w) (k + 1) f fd ps sp:=by
 obtain ⟨oc,od,kV,doc,pm,an,cdv,ct,osl,rfl,lk,hcd⟩:=F.ex
 exact znk lk hcd S len fun A outer s H vs Q E hr hsp=>hbody cdv A outer s H vs Q E hr hsp
end
end L2
end
section
namespace FL
open PySem
inductive D where
 | non
 | bl (b:Bool)
 | int (i:Int)
 | str (l:List Nat)
 | tup (l:List D)
 | lst (l:List D)
 | dct (t:Bool) (ks vs:List D)
 | set (l:List D)
 | exc (c:List Nat) (fs:List (List Nat)) (vs:List D)
 deriving Inhabited
inductive S where
 | sh (d:D)
 | lst (l:List S)
 | dct (t:Bool) (ks:List D) (vs:List S)
 | set (l:List D)
 deriving Inhabited
mutual
def S.toD:S->D
 | .sh d=>d
 | .lst l=>.lst (S.toDs l)
 | .dct t ks vs=>.dct t ks (S.toDs vs)
 | .set l=>.set l
def S.toDs:List S->List D
 | []=>[]
 | s::r=>S.toD s::S.toDs r
end
@[simp] theorem S.toDs_map:∀ l:List S,S.toDs l=l.map S.toD
  | []=>rfl
  | s::r=>by rw [S.toDs,S.toDs_map r,map_cons]
@[simp] theorem S.toD_sh (d:D):(S.sh d).toD=d:=rfl
@[simp] theorem S.toD_lst (l:List S):(S.lst l).toD=.lst (l.map S.toD):=by rw [<- S.toDs_map]; rfl
@[simp] theorem S.toD_dct (t:Bool) (ks:List D) (l:List S):(S.dct t ks l).toD=.dct t ks (l.map S.toD):=by rw [<- S.toDs_map]; rfl
@[simp] theorem S.toD_set (l:List D):(S.set l).toD=.set l:=rfl
def S.isSh:S->Bool
 | .sh _=>true
 | _=>false
def S.flat:S->Bool
 | .sh _=>true
 | .lst l=>l.all S.isSh
 | .dct _ _ vs=>vs.all S.isSh
 | .set _=>false
inductive R where
 | v (s:S)
 | loc (i:Nat)
abbrev Env:=List (Option S)
abbrev WQ:=R->Env->Prop
abbrev WX:=D->Env->Prop
def NX:WX:=fun _ _=>False
abbrev WE:=Env->WQ->WX->Prop
abbrev WT:=Env->(Bool->Env->Prop)->WX->Prop
abbrev WA:=Env->(List R->Env->Prop)->WX->Prop
structure Ends where
 nx:Env->Prop
 rt:WQ
 bk:Env->Prop
 ct:Env->Prop
 ex:WX
abbrev WS:=Ends->Env->Prop
def slot (U:Env) (i:Nat):Option S:=match U,i with
 | [],_=>none
 | s::_,0=>s
 | _::r,i + 1=>slot r i
@[simp] theorem zj2 (s:Option S) (r:Env):slot (s::r) 0=s:=rfl
@[simp] theorem zkg (s:Option S) (r:Env) (i:Nat):slot (s::r) (i + 1)=slot r i:=rfl
def view (r:R) (U:Env):Option D:=match r with
 | .v s=>some s.toD
 | .loc i=>(slot U i).map S.toD
def viewC (r:R) (U:Env):Option D:=match r with
 | .v s=>some s.toD
 | .loc i=>match slot U i with
   | some s=>if s.flat then some s.toD else none
   | none=>none
def give (r:R) (U:Env):Option (S×Env):=match r with
 | .v s=>some (s,U)
 | .loc i=>match slot U i with
   | some s=>some (.sh s.toD,U.set i (some (.sh s.toD)))
   | none=>none
def giveAll:List R->Env->Option (List S×Env)
 | [],U=>some ([],U)
 | r::rs,U=>match give r U with
   | some (s,U1)=>match giveAll rs U1 with
     | some (ss,U2)=>some (s::ss,U2)
     | none=>none
   | none=>none
def ixN (n:Nat) (i:Int):Option Nat:=if 0<=i then (if i < n then some i.toNat else none) else if -(n:Int)<=i then some (i + n).toNat else none
def atI {α:Type} (xs:List α) (i:Int):Option α:=(ixN xs.length i).bind fun j=>xs[j]?
def sIx (n d:Nat):Option Int->Nat
 | none=>d
 | some i=>if i < 0 then (i + n).toNat else min i.toNat n
def cutL {α:Type} (xs:List α) (lo hi:Option Int):List α:=(xs.drop (sIx xs.length 0 lo)).take (sIx xs.length xs.length hi - sIx xs.length 0 lo)
def big:Nat:=1000000
def need {α:Type} (o:Option α) (k:α->Prop):Prop:=match o with
 | some a=>k a
 | none=>False
@[simp] theorem zbN {α:Type} (a:α) (k:α->Prop):need (some a) k=k a:=rfl
@[simp] theorem zjc {α:Type} (k:α->Prop):need (none:Option α) k=False:=rfl
@[simp] theorem zkZ {α:Type} {c:Prop} [Decidable c] (a:α) (k:α->Prop):need (if c then some a else none) k=(c/\k a):=by
  by_cases h:c <;> simp [h]
def wVar (i:Nat):WE:=fun U Q _=>match slot U i with
 | some (.sh d)=>Q (.v (.sh d)) U
 | some _=>Q (.loc i) U
 | none=>False
def wC (d:D):WE:=fun U Q _=>Q (.v (.sh d)) U
def wBin (op:D->D->Option S) (a b:WE):WE:=fun U Q E=>a U (fun x U1=>b U1 (fun y U2=>
 need (viewC x U2) fun p=>need (viewC y U2) fun q=>need (op p q) fun s=>Q (.v s) U2) E) E
def wUn (op:D->Option S) (a:WE):WE:=fun U Q E=>a U (fun x U1=>need (viewC x U1) fun p=>need (op p) fun s=>Q (.v s) U1) E
def oAdd:D->D->Option S
 | .int i,.int j=>some (.sh (.int (i + j)))
 | .str x,.str y=>if x.length + y.length<=big then some (.sh (.str (x++y))) else none
 | .lst x,.lst y=>if x.length + y.length<=big then some (.lst ((x++y).map .sh)) else none
 | .tup x,.tup y=>if x.length + y.length<=big then some (.sh (.tup (x++y))) else none
 | _,_=>none
def oSub:D->D->Option S
 | .int i,.int j=>some (.sh (.int (i - j)))
 | _,_=>none
def mulOk (i j:Int):Bool:=(decide (-(2 ^ 64) < i) && decide (i < 2 ^ 64)) || (decide (-(2 ^ 64) < j) && decide (j < 2 ^ 64))
def oMul:D->D->Option S
 | .int i,.int j=>if mulOk i j then some (.sh (.int (i * j))) else none
 | _,_=>none
def oFdiv:D->D->Option S
 | .int i,.int j=>if 0 < j/\j < 18446744073709551616 then some (.sh (.int (i / j))) else none
 | _,_=>none
def oMod:D->D->Option S
 | .int i,.int j=>if 0 < j then some (.sh (.int (i % j))) else none
 | _,_=>none
def oPow:D->D->Option S
 | .int i,.int j=>if 0<=j/\j<=1000/\i.natAbs < 2 ^ 64 then some (.sh (.int (i ^ j.toNat))) else none
 | _,_=>none
def oNeg:D->Option S
 | .int i=>some (.sh (.int (-i)))
 | _=>none
mutual
def clash:D->D->Bool
 | .tup l,.tup m=>clashs l m
 | .lst l,.lst m=>clashs l m
 | .int _,.int _=>false
 | .int _,.str _=>false
 | .int _,.non=>false
 | .str _,.int _=>false
 | .str _,.str _=>false
 | .str _,.non=>false
 | .str _,.bl _=>false
 | .bl _,.bl _=>false
 | .bl _,.str _=>false
 | .bl _,.non=>false
 | .non,.int _=>false
 | .non,.str _=>false
 | .non,.bl _=>false
 | .non,.non=>false
 | _,_=>true
def clashs:List D->List D->Bool
 | a::l,b::m=>clash a b || clashs l m
 | _,_=>false
end
mutual
def dep:D->Nat
 | .tup l=>deps l + 1
 | .lst l=>deps l + 1
 | _=>0
def deps:List D->Nat
 | []=>0
 | a::l=>max (dep a) (deps l)
end
open Classical in
def cEq (a b:D):Option Bool:=if clash a b || decide (30 < dep a) then none else some (decide (a=b))
def cNe (a b:D):Option Bool:=(cEq a b).map (!·)
def ltD:D->D->Option Bool
 | .int i,.int j=>some (decide (i < j))
 | .str x,.str y=>some (decide (x < y))
 | _,_=>none
def cLt (a b:D):Option Bool:=ltD a b
def cGt (a b:D):Option Bool:=ltD b a
def cGe:D->D->Option Bool
 | .int i,.int j=>some (decide (j<=i))
 | .str x,.str y=>some (!decide (x < y))
 | _,_=>none
def isKey1:D->Bool
 | .int _=>true
 | .str _=>true
 | _=>false
def isKey:Bool->D->Bool
 | true,.tup l=>l.all isKey1
 | false,d=>isKey1 d
 | _,_=>false
open Classical in
def cIn (a:D):D->Option Bool
 | .lst l=>if l.any (fun x=>clash x a || decide (30 < dep x)) then none else some (decide (a∈l))
 | .tup l=>if l.any (fun x=>clash x a || decide (30 < dep x)) then none else some (decide (a∈l))
 | .dct t ks _=>if isKey t a then some (decide (a∈ks)) else none
 | _=>none
def truth:D->Option Bool
 | .non=>some false
 | .bl b=>some b
 | .int i=>some (decide (i≠0))
 | .str l=>some (!l.isEmpty)
 | .tup l=>some (!l.isEmpty)
 | .lst l=>some (!l.isEmpty)
 | _=>none
def wCmp (op:D->D->Option Bool) (a b:WE):WT:=fun U Q E=>a U (fun x U1=>b U1 (fun y U2=>
 need (view x U2) fun p=>need (view y U2) fun q=>need (op p q) fun c=>Q c U2) E) E
def wTest (a:WE):WT:=fun U Q E=>a U (fun x U1=>need (view x U1) fun p=>need (truth p) fun c=>Q c U1) E
def wtAnd (a b:WT):WT:=fun U Q E=>a U (fun c U1=>if c then b U1 Q E else Q false U1) E
def wtOr (a b:WT):WT:=fun U Q E=>a U (fun c U1=>if c then Q true U1 else b U1 Q E) E
def wtNot (a:WT):WT:=fun U Q E=>a U (fun c U1=>Q (!c) U1) E
def wOfT (t:WT):WE:=fun U Q E=>t U (fun c U1=>Q (.v (.sh (.bl c))) U1) E
def wIfE (c:WT) (a b:WE):WE:=fun U Q E=>c U (fun k U1=>if k then a U1 Q E else b U1 Q E) E
def wAndV (a b:WE):WE:=fun U Q E=>a U (fun x U1=>match view x U1 with
 | some (.bl c)=>if c then b U1 Q E else Q (.v (.sh (.bl false))) U1
 | _=>False) E
def wNil:WA:=fun U Q _=>Q [] U
def wCons (a:WE) (b:WA):WA:=fun U Q E=>a U (fun r U1=>b U1 (fun rs U2=>Q (r::rs) U2) E) E
def wTup (a:WA):WE:=fun U Q E=>a U (fun rs U1=>need (if rs.length<=big then giveAll rs U1 else none) fun p=>Q (.v (.sh (.tup (p.1.map S.toD)))) p.2) E
def wLst (a:WA):WE:=fun U Q E=>a U (fun rs U1=>need (if rs.length<=big then giveAll rs U1 else none) fun p=>Q (.v (.lst p.1)) p.2) E
open Classical in
def lk {α:Type}:List D->List α->D->Option α
 | k'::ks,v::vs,k=>if k'=k then some v else lk ks vs k
 | _,_,_=>none
def ixS:S->D->Option S
 | .sh (.tup l),.int i=>(atI l i).map .sh
 | .sh (.lst l),.int i=>(atI l i).map .sh
 | .sh (.str l),.int i=>(atI l i).map fun c=>.sh (.str [c])
 | .lst l,.int i=>atI l i
 | _,_=>none
def wIx (a b:WE):WE:=fun U Q E=>a U (fun x U1=>b U1 (fun y U2=>need (view y U2) fun q=>match x with
 | .v s=>need (ixS s q) fun t=>Q (.v t) U2
 | .loc i=>match slot U2 i with
   | some s=>match ixS s q with
     | some (.sh d)=>Q (.v (.sh d)) U2
     | _=>False
   | none=>False) E) E
def wPart (a:Option WE):Env->(Option Int->Env->Prop)->WX->Prop:=match a with
 | none=>fun U Q _=>Q none U
 | some a=>fun U Q E=>a U (fun x U1=>match view x U1 with
   | some (.int i)=>Q (some i) U1
   | _=>False) E
def slD (d:D) (lo hi:Option Int):Option S:=match d with
 | .str l=>some (.sh (.str (cutL l lo hi)))
 | .tup l=>some (.sh (.tup (cutL l lo hi)))
 | .lst l=>some (.lst ((cutL l lo hi).map .sh))
 | _=>none
def wSl (a:WE) (lo hi:Option WE):WE:=fun U Q E=>a U (fun x U1=>wPart lo U1 (fun l U2=>wPart hi U2 (fun h U3=>
 need (viewC x U3) fun d=>need (slD d l h) fun s=>Q (.v s) U3) E) E) E
abbrev WF:=List S->(S->List S->Prop)->(D->List S->Prop)->Prop
def prep:List Bool->List R->Env->Option (List S×Env)
 | _,[],U=>some ([],U)
 | ms,.v s::rs,U=>match prep ms.tail rs U with
   | some (ss,U1)=>some (s::ss,U1)
   | none=>none
 | ms,.loc i::rs,U=>match slot U i with
   | some s=>if ms.headD false then (match prep ms.tail rs (U.set i none) with
     | some (ss,U1)=>some (s::ss,U1)
     | none=>none)
     else (match prep ms.tail rs (U.set i (some (.sh s.toD))) with
      | some (ss,U1)=>some (.sh s.toD::ss,U1)
      | none=>none)
   | none=>none
def back:List Bool->List R->List S->Env->Env
 | ms,.v _::rs,_::ss,U=>back ms.tail rs ss U
 | ms,.loc i::rs,s::ss,U=>if ms.headD false then back ms.tail rs ss (U.set i (some s)) else back ms.tail rs ss U
 | _,_,_,U=>U
def wCall (f:WF) (ms:List Bool) (a:WA):WE:=fun U Q E=>a U (fun rs U1=>need (prep ms rs U1) fun p=>
 f p.1 (fun s ss=>Q (.v s) (back ms rs ss p.2)) (fun x ss=>E x (back ms rs ss p.2))) E
def wB (f:List D->Option S) (a:WA):WE:=fun U Q E=>a U (fun rs U1=>need (rs.mapM fun r=>viewC r U1) fun ds=>need (f ds) fun s=>Q (.v s) U1) E
def wAppend (j:Nat) (e:WE):WE:=fun U Q E=>match slot U j with
 | some (.lst _)=>e U (fun r U2=>need (give r U2) fun p=>match slot p.2 j with
   | some (.lst l)=>l.length < big/\Q (.v (.sh .non)) (p.2.set j (some (.lst (l++[p.1]))))
   | _=>False) E
 | _=>False
def bLen:List D->Option S
 | [.str l]=>some (.sh (.int l.length))
 | [.tup l]=>some (.sh (.int l.length))
 | [.lst l]=>some (.sh (.int l.length))
 | _=>none
def bInt:List D->Option S
 | [.int i]=>some (.sh (.int i))
 | [.bl b]=>some (.sh (.int (if b then 1 else 0)))
 | _=>none
def bTuple:List D->Option S
 | [.tup l]=>some (.sh (.tup l))
 | [.lst l]=>some (.sh (.tup l))
 | _=>none
def bList:List D->Option S
 | [.tup l]=>some (.lst (l.map .sh))
 | [.lst l]=>some (.lst (l.map .sh))
 | _=>none
def bMax:List D->Option S
 | [.int i,.int j]=>some (.sh (.int (if j > i then j else i)))
 | _=>none
def bMin:List D->Option S
 | [.int i,.int j]=>some (.sh (.int (if j < i then j else i)))
 | _=>none
def wPass:WS:=fun D U=>D.nx U
def wSeq (a b:WS):WS:=fun D U=>a { D with nx:=b D } U
def wIf (c:WT) (a b:WS):WS:=fun D U=>c U (fun k U1=>if k then a D U1 else b D U1) D.ex
def wRet (a:WE):WS:=fun D U=>a U D.rt D.ex
def wExpr (a:WE):WS:=fun D U=>a U (fun _ U1=>D.nx U1) D.ex
abbrev WG:=S->Env->(Env->Prop)->Prop
def gName (i:Nat):WG:=fun s U Q=>Q (U.set i (some s))
def gTups:List WG->List D->Env->(Env->Prop)->Prop
 | [],[],U,Q=>Q U
 | g::gs,d::ds,U,Q=>g (.sh d) U fun U1=>gTups gs ds U1 Q
 | _,_,_,_=>False
def gTup (gs:List WG):WG:=fun s U Q=>match s.toD with
 | .tup ds=>ds.length=gs.length/\gTups gs ds U Q
 | _=>False
def wSetIx (j:Nat) (i e:WE):WS:=fun D U=>e U (fun r U1=>wVar j U1 (fun x U2=>i U2 (fun y U3=>need (view y U3) fun q=>need (give r U3) fun p=>match x,q,slot p.2 j with
 | .loc k,.int n,some (.lst l)=>k=j/\need (ixN l.length n) fun m=>D.nx (p.2.set j (some (.lst (l.set m p.1))))
 | _,_,_=>False) D.ex) D.ex) D.ex
def wAsg (g:WG) (a:WE):WS:=fun D U=>a U (fun r U1=>need (give r U1) fun p=>g p.1 p.2 D.nx) D.ex
abbrev WI:=Env->(List D->Env->Prop)->WX->Prop
def items:D->Option (List D)
 | .lst l=>some l
 | .tup l=>some l
 | .str l=>some (l.map fun c=>.str [c])
 | _=>none
def wIter (a:WE):WI:=fun U Q E=>a U (fun r U1=>need (give r U1) fun p=>need (items p.1.toD) fun l=>Q l p.2) E
def fromTo (lo:Int) (n:Nat):List D:=(List.range n).map fun (k:Nat)=>.int (lo + (k:Int))
def wRange1 (a:WE):WI:=fun U Q E=>a U (fun r U1=>match view r U1 with
 | some (.int j)=>(-big<=j/\j<=big)/\Q (fromTo 0 j.toNat) U1
 | _=>False) E
def wLoop (g:WG) (body:WS):List D->WS
 | [],D,U=>D.nx U
 | x::xs,D,U=>g (.sh x) U fun U1=>body { D with nx:=wLoop g body xs D,ct:=wLoop g body xs D,bk:=D.nx } U1
def wFor (it:WI) (g:WG) (body:WS):WS:=fun D U=>it U (fun l U1=>wLoop g body l D U1) D.ex
def wWhile (c:WT) (body:WS):WS:=fun D U=>∃ J:Nat->Env->Prop,(∃ m,J m U)/\∀ m U,J m U->c U (fun k U1=>if k then
 body { D with nx:=fun U2=>∃ m',m' < m/\J m' U2,ct:=fun U2=>∃ m',m' < m/\J m' U2,bk:=D.nx } U1 else D.nx U1) D.ex
abbrev WB:=Env->(Env->Prop)->WX->Prop
def wYes:WT:=fun U Q _=>Q true U
def bLoop (g:WG) (c:WT) (b:WB):List D->WB
 | [],U,Q,_=>Q U
 | x::xs,U,Q,E=>g (.sh x) U fun U1=>c U1 (fun k U2=>if k then b U2 (fun U3=>bLoop g c b xs U3 Q E) E else bLoop g c b xs U2 Q E) E
def bEmit (n:Nat) (a:WE):WB:=fun U Q E=>a U (fun r U1=>need (give r U1) fun p=>match slot p.2 n with
 | some (.lst l)=>l.length < big/\Q (p.2.set n (some (.lst (l++[p.1]))))
 | _=>False) E
def wLC (n k:Nat) (it:WI) (g:WG) (c:WT) (b:WB):WE:=fun U Q E=>it U (fun l U1=>
 bLoop g c b l (U1++some (.lst [])::List.replicate k none) (fun U2=>need (slot U2 n) fun s=>Q (.v s) (U2.take n)) NX) E
def finals:List S->Env->Option (List S)
 | [],_=>some []
 | .sh d::ss,_::U=>(finals ss U).map (.sh d::·)
 | _::ss,some s::U=>(finals ss U).map (s::·)
 | _,_=>none
def wFn (n m:Nat) (ks:List Nat) (body:WS):WF:=fun ss P PX=>ss.length=n/\(∀ i s,ss[i]?=some s->i∈ks\/s.isSh=true)/\
 body { nx:=fun U=>need (finals ss U) fun fs=>P (.sh .non) fs
        rt:=fun r U=>match r with
         | .v s=>need (finals ss U) fun fs=>P s fs
         | .loc i=>need (slot U i) fun s=>if i < n then need (finals ss (U.set i (some (.sh s.toD)))) fun fs=>P (.sh s.toD) fs else need (finals ss U) fun fs=>P s fs
        bk:=fun _=>False
        ct:=fun _=>False
        ex:=fun x U=>need (finals ss U) fun fs=>PX x fs } (ss.map some++List.replicate (m - n) none)
end FL
end
section
namespace FL
open PySem L2
def keyD:Key->D
 | .inl i=>.int i
 | .inr x=>.str x.cps.toList
def excφ (a C:Addr) (dx:Option Addr) (h:Heap):Prop:=∃ o vs,h.get? a=some o/\o.cls=.ref C/\o.dict=dx/\o.data=.fields vs
def noTup:HO->Bool
 | .tup _=>false
 | _=>true
def XDct (F:Hp) (dx:Option Addr) (fs:List (List Nat)) (vs:List D):Prop:=(dx=none/\fs=[]/\vs=[])\/∃ p f i,dx=some p/\fs=[f]/\vs=[.int i]/\F p=some (.xd [((⟨f.toArray⟩:Str),.int i)])
mutual
inductive Rep (K:W.Frag) (F:Hp):V->D->Prop
 | non:Rep K F .non .non
 | bl (b:Bool):Rep K F (.bl b) (.bl b)
 | int (i:Int):Rep K F (.int i) (.int i)
 | str {x:Str} {l:List Nat}:x.cps.toList=l->l.length<=16777216->Rep K F (.str x) (.str l)
 | tup {a:Addr} {xs:List V} {ds:List D}:F a=some (.tup xs)->Reps K F xs ds->Rep K F (.ref a) (.tup ds)
 | lst {a:Addr} {xs:List V} {ds:List D}:SqL K F a xs->Reps K F xs ds->Rep K F (.ref a) (.lst ds)
 | dK {a:Addr} {kvs:List (Key×V)} {ks vs:List D}:Rd F a (.dK kvs)->ks=kvs.map (fun p=>keyD p.1)->Reps K F (kvs.map (·.2)) vs->Rep K F (.ref a) (.dct false ks vs)
 | dT {a:Addr} {kvs:List (List Key×V)} {ks vs:List D}:Rd F a (.dT kvs)->ks=kvs.map (fun p=>D.tup (p.1.map keyD))->Reps K F (kvs.map (·.2)) vs->Rep K F (.ref a) (.dct true ks vs)
 | st {a:Addr} {xs:List V} {ds:List D}:F a=some (.set xs)->Reps K F xs ds->Rep K F (.ref a) (.set ds)
 | exc {a C:Addr} {dx:Option Addr} {c:List Nat} {fs:List (List Nat)} {vs:List D}:F a=some (.ext (excφ a C dx))->W.nsIn K mainGlobals (⟨c.toArray⟩:Str)=some (some (.ref C))->XDct F dx fs vs->Rep K F (.ref a) (.exc c fs vs)
inductive Reps (K:W.Frag) (F:Hp):List V->List D->Prop
 | nil:Reps K F [] []
 | cons {x:V} {d:D} {xs:List V} {ds:List D}:Rep K F x d->Reps K F xs ds->Reps K F (x::xs) (d::ds)
end
mutual
inductive SRep (K:W.Frag) (F H:Hp):V->S->List Addr->Prop
 | sh {v:V} {d:D}:Rep K F v d->SRep K F H v (.sh d) []
 | lst {a:Addr} {xs:List V} {l:List S} {fp:List Addr}:H a=some (.lst xs)->SReps K F H xs l fp->SRep K F H (.ref a) (.lst l) (a::fp)
 | dK {a:Addr} {kvs:List (Key×V)} {ks:List D} {l:List S} {fp:List Addr}:H a=some (.dK kvs)->ks=kvs.map (fun p=>keyD p.1)->SReps K F H (kvs.map (·.2)) l fp->SRep K F H (.ref a) (.dct false ks l) (a::fp)
 | dT {a:Addr} {kvs:List (List Key×V)} {ks:List D} {l:List S} {fp:List Addr}:H a=some (.dT kvs)->ks=kvs.map (fun p=>D.tup (p.1.map keyD))->SReps K F H (kvs.map (·.2)) l fp->SRep K F H (.ref a) (.dct true ks l) (a::fp)
 | st {a:Addr} {xs:List V} {ds:List D}:H a=some (.set xs)->Reps K F xs ds->SRep K F H (.ref a) (.set ds) [a]
inductive SReps (K:W.Frag) (F H:Hp):List V->List S->List Addr->Prop
 | nil:SReps K F H [] [] []
 | cons {x:V} {s:S} {xs:List V} {l:List S} {fp fq:List Addr}:SRep K F H x s fp->SReps K F H xs l fq->SReps K F H (x::xs) (s::l) (fp++fq)
end
section
variable {K:W.Frag} {F F' H H' G:Hp}
theorem Rd.mono (h:Same F F') (r:Rd F a u):Rd F' a u:=by
 rcases r with r | ⟨o,r⟩
 ·exact .inl (h _ _ r)
 ·exact .inr ⟨o,h _ _ r⟩
theorem SqL.mono (h:Same F F') (r:SqL K F a xs):SqL K F' a xs:=r.elim (fun r=>.inl (Rd.mono h r)) .inr
theorem SqT.mono (h:Same F F') (r:SqT K F a xs):SqT K F' a xs:=r.elim (fun r=>.inl (Rd.mono h r)) .inr
theorem Reps.ind {P:List V->List D->Prop} (hn:P [] []) (hc:∀ {x:V} {d:D} {xs:List V} {ds:List D},Rep K F x d->Reps K F xs ds->P xs ds->P (x::xs) (d::ds)) (r:Reps K F xs ds):P xs ds:=
 Reps.rec (motive_1:=fun _ _ _=>True) (motive_2:=fun xs ds _=>P xs ds) trivial (fun _=>trivial) (fun _=>trivial) (fun _ _=>trivial) (fun _ _ _=>trivial) (fun _ _ _=>trivial) (fun _ _ _ _=>trivial) (fun _ _ _ _=>trivial) (fun _ _ _=>trivial) (fun _ _ _=>trivial) hn (fun a b _ ih=>hc a b ih) r
theorem SReps.ind {P:List V->List S->List Addr->Prop} (hn:P [] [] []) (hc:∀ {x:V} {s:S} {xs:List V} {l:List S} {fp fq:List Addr},SRep K F H x s fp->SReps K F H xs l fq->P xs l fq->P (x::xs) (s::l) (fp++fq)) (r:SReps K F H xs l fp):P xs l fp:=
 SReps.rec (motive_1:=fun _ _ _ _=>True) (motive_2:=fun xs l fp _=>P xs l fp) (fun _=>trivial) (fun _ _ _=>trivial) (fun _ _ _ _=>trivial) (fun _ _ _ _=>trivial) (fun _ _=>trivial) hn (fun a b _ ih=>hc a b ih) r
theorem XDct.mono (h:Same F F') (x:XDct F dx fs vs):XDct F' dx fs vs:=x.imp id fun ⟨p,f,i,e1,e2,e3,e4⟩=>⟨p,f,i,e1,e2,e3,h _ _ e4⟩
theorem Rep.mono (h:Same F F') (r:Rep K F v d):Rep K F' v d:=
 Rep.rec (motive_1:=fun v d _=>Rep K F' v d) (motive_2:=fun v d _=>Reps K F' v d) .non .bl .int (fun e z=>.str e z) (fun e _ ih=>.tup (h _ _ e) ih) (fun e _ ih=>.lst (SqL.mono h e) ih) (fun e k _ ih=>.dK (Rd.mono h e) k ih) (fun e k _ ih=>.dT (Rd.mono h e) k ih) (fun e _ ih=>.st (h _ _ e) ih) (fun e k x=>.exc (h _ _ e) k (x.mono h)) .nil (fun _ _ a b=>.cons a b) r
theorem Reps.mono (h:Same F F') (r:Reps K F v d):Reps K F' v d:=Reps.ind .nil (fun a _ ih=>.cons (Rep.mono h a) ih) r
theorem SRep.mono (h:Same F F') (r:SRep K F H v s fp):(∀ a∈fp,H' a=H a)->SRep K F' H' v s fp:=
 SRep.rec (motive_1:=fun v s fp _=>(∀ a∈fp,H' a=H a)->SRep K F' H' v s fp) (motive_2:=fun v s fp _=>(∀ a∈fp,H' a=H a)->SReps K F' H' v s fp)
  (fun r _=>.sh (Rep.mono h r)) (fun e _ ih k=>.lst ((k _ qo).trans e) (ih fun a ha=>k a (qm _ ha)))
  (fun e q _ ih k=>.dK ((k _ qo).trans e) q (ih fun a ha=>k a (qm _ ha))) (fun e q _ ih k=>.dT ((k _ qo).trans e) q (ih fun a ha=>k a (qm _ ha)))
  (fun e r k=>.st ((k _ qo).trans e) (Reps.mono h r)) (fun _=>.nil) (fun _ _ a b k=>.cons (a fun c hc=>k c (qk _ hc)) (b fun c hc=>k c (qj _ hc))) r
theorem SReps.mono (h:Same F F') (r:SReps K F H v s fp):(∀ a∈fp,H' a=H a)->SReps K F' H' v s fp:=
 SReps.ind (P:=fun v s fp=>(∀ a∈fp,H' a=H a)->SReps K F' H' v s fp) (fun _=>.nil) (fun a _ b k=>.cons (SRep.mono h a fun c hc=>k c (qk _ hc)) (b fun c hc=>k c (qj _ hc))) r
theorem SRep.frz (h:Same F F') (r:SRep K F H v s fp):(∀ a∈fp,F' a=H a)->Rep K F' v s.toD:=
 SRep.rec (motive_1:=fun v s fp _=>(∀ a∈fp,F' a=H a)->Rep K F' v s.toD) (motive_2:=fun v s fp _=>(∀ a∈fp,F' a=H a)->Reps K F' v (S.toDs s))
  (fun r _=>Rep.mono h r) (fun e _ ih k=>.lst (SqL.of ((k _ qo).trans e)) (ih fun a ha=>k a (qm _ ha)))
  (fun e q _ ih k=>.dK (.of ((k _ qo).trans e)) q (ih fun a ha=>k a (qm _ ha))) (fun e q _ ih k=>.dT (.of ((k _ qo).trans e)) q (ih fun a ha=>k a (qm _ ha)))
  (fun e r k=>.st ((k _ qo).trans e) (Reps.mono h r)) (fun _=>.nil) (fun _ _ a b k=>.cons (a fun c hc=>k c (qk _ hc)) (b fun c hc=>k c (qj _ hc))) r
theorem SReps.frz (h:Same F F') (r:SReps K F H v s fp):(∀ a∈fp,F' a=H a)->Reps K F' v (S.toDs s):=
 SReps.ind (P:=fun v s fp=>(∀ a∈fp,F' a=H a)->Reps K F' v (S.toDs s)) (fun _=>.nil) (fun a _ b k=>.cons (SRep.frz h a fun c hc=>k c (qk _ hc)) (b fun c hc=>k c (qj _ hc))) r
theorem SRep.view (h:Same F H) (r:SRep K F H v s fp):Rep K H v s.toD:=SRep.frz h r fun _ _=>rfl
theorem SRep.in_:∀ {v:V} {s:S} {fp:List Addr},SRep K F H v s fp->∀ a∈fp,∃ o,H a=some o/\noTup o=true:=by
 intro v s fp r
 refine SRep.rec (motive_1:=fun v s fp _=>∀ a∈fp,∃ o,H a=some o/\noTup o=true) (motive_2:=fun v s fp _=>∀ a∈fp,∃ o,H a=some o/\noTup o=true) ?_ ?_ ?_ ?_ ?_ ?_ ?_ r
 ·intro v d r a ha; cases ha
 ·grind [noTup]
 ·grind [noTup]
 ·grind [noTup]
 ·grind [noTup]
 ·intro a ha; cases ha
 grind
end
inductive EnvRep (K:W.Frag) (F H:Hp):Env->St->List Addr->Prop
 | nil:EnvRep K F H [] [] []
 | no {U:Env} {σ:St} {o:Option V} {fp:List Addr}:EnvRep K F H U σ fp->EnvRep K F H (none::U) (o::σ) fp
 | so {U:Env} {σ:St} {v:V} {s:S} {fp fq:List Addr}:SRep K F H v s fp->EnvRep K F H U σ fq->EnvRep K F H (some s::U) (some v::σ) (fp++fq)
section
variable {K:W.Frag} {F F' H H' G G':Hp}
theorem EnvRep.len (r:EnvRep K F H U σ fp):U.length=σ.length:=by
 induction r with
 | nil=>rfl
 | no _ ih=>exact congrArg (· + 1) ih
 | so _ _ ih=>exact congrArg (· + 1) ih
theorem EnvRep.mono (h:Same F F') (r:EnvRep K F H U σ fp) (k:∀ a∈fp,H' a=H a):EnvRep K F' H' U σ fp:=by
 induction r with
 | nil=>exact .nil
 | no _ ih=>exact .no (ih k)
 | so a _ ih=>exact .so (SRep.mono h a fun c hc=>k c (qk _ hc)) (ih fun c hc=>k c (qj _ hc))
theorem EnvRep.in_ (r:EnvRep K F H U σ fp):∀ a∈fp,∃ o,H a=some o/\noTup o=true:=by
 induction r with
 | nil=>exact fun a ha=>nomatch ha
 | no _ ih=>exact ih
 | so q _ ih=>exact fun a ha=>(mem_append.mp ha).elim (fun z=>SRep.in_ q a z) fun z=>ih a z
theorem EnvRep.app (r:EnvRep K F H U σ fp) (r':EnvRep K F H U' σ' fq):EnvRep K F H (U++U') (σ++σ') (fp++fq):=by
 induction r with
 | nil=>exact r'
 | no _ ih=>exact .no ih
 | so a _ ih=>rw [append_assoc]; exact .so a ih
theorem EnvRep.cut (e:U.length=σ.length) (r:EnvRep K F H (U++U') (σ++σ') fp):∃ f1 f2,fp=f1++f2/\EnvRep K F H U σ f1/\EnvRep K F H U' σ' f2:=by
 induction U generalizing σ fp with
 | nil=>cases σ with
   | nil=>exact ⟨[],fp,rfl,.nil,r⟩
   | cons _ _=>exact absurd e.symm (Nat.succ_ne_zero _)
 | cons x U ih=>cases σ with
   | nil=>exact absurd e (Nat.succ_ne_zero _)
   | cons y σ=>cases r with
     | no r=>
       obtain ⟨f1,f2,rfl,a,b⟩:=ih (Nat.succ.inj e) r
       exact ⟨f1,f2,rfl,.no a,b⟩
     | so q r=>
       obtain ⟨f1,f2,rfl,a,b⟩:=ih (Nat.succ.inj e) r
       exact ⟨_,f2,(append_assoc ..).symm,.so q a,b⟩
theorem EnvRep.at:∀ {U:Env} {σ:St} {fp:List Addr} {i:Nat} {s:S},EnvRep K F H U σ fp->slot U i=some s->
  ∃ v fa fi fb,σ[i]?=some (some v)/\fp=fa++(fi++fb)/\SRep K F H v s fi/\
    ∀ {F' H':Hp} {o:Option S} {u:Option V} {fi':List Addr},Same F F'->(∀ a∈fa++fb,H' a=H a)->(EnvRep K F' H' [o] [u] fi')->EnvRep K F' H' (U.set i o) (σ.set i u) (fa++(fi'++fb))
 | _,_,_,_,_,.nil,e=>by simp [slot] at e
 | _,_,_,0,_,.no r,e=>by simp at e
 | _,_,_,0,s,.so (fp:=fp) (fq:=fq) q r,e=>by
   simp at e; subst e
   refine ⟨_,[],fp,fq,rfl,rfl,q,fun {F' H' o u fi'} h k x=>?_⟩
   have r':=EnvRep.mono (H':=H') h r fun a ha=>k a ha
   exact x.app r'
 | _,_,_,i + 1,s,.no r,e=>by
   obtain ⟨v,fa,fi,fb,e1,rfl,q,up⟩:=EnvRep.at r (by simpa using e)
   exact ⟨v,fa,fi,fb,by simpa using e1,rfl,q,fun h k x=>.no (up h k x)⟩
 | _,_,_,i + 1,s,.so (fp:=fp) (fq:=fq) p r,e=>by
   obtain ⟨v,fa,fi,fb,e1,rfl,q,up⟩:=EnvRep.at r (by simpa using e)
   refine ⟨v,fp++fa,fi,fb,by simpa using e1,(append_assoc ..).symm,q,fun {F' H' o u fi'} h k x=>?_⟩
   rw [append_assoc]
   exact .so (SRep.mono h p fun a ha=>k a (qk _ (qk _ ha))) (up h (fun a ha=>k a ((mem_append.mp ha).elim (fun z=>qk _ (qj _ z)) fun z=>qj _ z)) x)
theorem EnvRep.put:∀ {U:Env} {σ:St} {fp:List Addr} {i:Nat},EnvRep K F H U σ fp->i < U.length->
  ∃ fa fi fb,fp=fa++(fi++fb)/\
    ∀ {F' H':Hp} {o:Option S} {u:Option V} {fi':List Addr},Same F F'->(∀ a∈fa++fb,H' a=H a)->(EnvRep K F' H' [o] [u] fi')->EnvRep K F' H' (U.set i o) (σ.set i u) (fa++(fi'++fb))
 | _,_,_,_,.nil,e=>by simp at e
 | _,_,fp,0,.no r,e=>⟨[],[],fp,rfl,fun {F' H' o u fi'} h k x=>x.app (EnvRep.mono (H':=H') h r fun a ha=>k a ha)⟩
 | _,_,_,0,.so (fp:=fp) (fq:=fq) q r,e=>⟨[],fp,fq,rfl,fun {F' H' o u fi'} h k x=>x.app (EnvRep.mono (H':=H') h r fun a ha=>k a ha)⟩
 | _,_,_,i + 1,.no r,e=>by
   obtain ⟨fa,fi,fb,rfl,up⟩:=EnvRep.put (i:=i) r (by simpa using e)
   exact ⟨fa,fi,fb,rfl,fun h k x=>.no (up h k x)⟩
 | _,_,_,i + 1,.so (fp:=fp) (fq:=fq) p r,e=>by
   obtain ⟨fa,fi,fb,rfl,up⟩:=EnvRep.put (i:=i) r (by simpa using e)
   refine ⟨fp++fa,fi,fb,(append_assoc ..).symm,fun {F' H' o u fi'} h k x=>?_⟩
   rw [append_assoc]
   exact .so (SRep.mono h p fun a ha=>k a (qk _ (qk _ ha))) (up h (fun a ha=>k a ((mem_append.mp ha).elim (fun z=>qk _ (qj _ z)) fun z=>qj _ z)) x)
end
structure Rel (K:W.Frag) (U:Env) (σ:St) (F G H:Hp):Prop where
 fr:Same F H
 gr:∀ a o,G a=some o->(H a=some o/\noTup o=true)/\F a=none
 en:∃ fp,EnvRep K F H U σ fp/\fp.Nodup/\∀ a∈fp,F a=none/\G a=none
section
variable {K:W.Frag} {F F' H H' G G':Hp} {U U':Env} {σ σ':St}
theorem Rel.len (r:Rel K U σ F G H):U.length=σ.length:=let ⟨_,e,_⟩:=r.en; e.len
theorem Rel.free (r:Rel K U σ F G H) (h:H p=none):F p=none/\G p=none/\∀ fp,EnvRep K F H U σ fp->p∉fp:=by
 refine ⟨?_,?_,fun fp e hp=>?_⟩
 ·cases q:F p with
  | none=>rfl
  | some o=>rw [r.fr p o q] at h; cases h
 ·cases q:G p with
  | none=>rfl
  | some o=>rw [(r.gr p o q).1.1] at h; cases h
 ·obtain ⟨o,q,_⟩:=e.in_ p hp
  rw [h] at q; cases q
theorem Same.upd (h:F p=none):Same F (upd F p o):=fun b u e=>by
 rw [zaf (fun z=>by rw [z,h] at e; cases e)]; exact e
theorem Same.upd2 (h:Same F H):Same (L2.upd F p o) (L2.upd H p o):=fun b u e=>by
 by_cases q:b=p
 ·subst q; rw [zai] at e ⊢; exact e
 ·rw [zaf q] at e ⊢; exact h b u e
theorem Same.updR (h:Same F H) (n:F p=none):Same F (L2.upd H p o):=fun b u e=>by
 rw [zaf (fun z=>by rw [z,n] at e; cases e)]; exact h b u e
theorem Rel.newF (r:Rel K U σ F G H) (h:H p=none):Rel K U σ (upd F p o) G (upd H p o):=by
 obtain ⟨f0,g0,n0⟩:=r.free h
 obtain ⟨fp,e,nd,ap⟩:=r.en
 have hne:∀ a∈fp,a≠p:=fun a ha z=>n0 fp e (z ▸ ha)
 refine ⟨Same.upd2 r.fr,fun a u q=>?_,fp,e.mono (Same.upd f0) fun a ha=>zaf (hne a ha),nd,fun a ha=>?_⟩
 ·have hp:a≠p:=fun z=>by rw [z,g0] at q; cases q
  rw [zaf hp,zaf hp]; exact r.gr a u q
 ·rw [zaf (hne a ha)]; exact ap a ha
theorem Rel.newO (r:Rel K U σ F G H) (h:H p=none) (q:SRep K F (upd H p o) (.ref p) s [p]):Rel K (U++[some s]) (σ++[some (.ref p)]) F G (upd H p o):=by
 obtain ⟨f0,g0,n0⟩:=r.free h
 obtain ⟨fp,e,nd,ap⟩:=r.en
 have hne:∀ a∈fp,a≠p:=fun a ha z=>n0 fp e (z ▸ ha)
 refine ⟨Same.updR r.fr f0,fun a u q=>?_,fp++([p]++[]),(e.mono (Same.refl F) fun a ha=>zaf (hne a ha)).app (.so q .nil),?_,fun a ha=>?_⟩
 ·have hp:a≠p:=fun z=>by rw [z,g0] at q; cases q
  rw [zaf hp]; exact r.gr a u q
 ·grind
 grind
theorem Rel.drop (r:Rel K (U++U') (σ++σ') F G H) (h:U.length=σ.length):Rel K U σ F G H:=by
 obtain ⟨fp,e,nd,ap⟩:=r.en
 obtain ⟨f1,f2,rfl,a,b⟩:=e.cut h
 exact ⟨r.fr,r.gr,f1,a,(nodup_append.mp nd).1,fun c hc=>ap c (qk _ hc)⟩
theorem Rel.hide (r:Rel K (U++U') (σ++σ') F G H) (h:U.length=σ.length):∃ G',Rel K U σ F G' H/\Same G G'/\
  ∀ {U2:Env} {σ2:St} {F2 H2:Hp},Same F F2->Rel K U2 σ2 F2 G' H2->Rel K (U2++U') (σ2++σ') F2 G H2:=by
 classical
 obtain ⟨fp,e,nd,ap⟩:=r.en
 obtain ⟨f1,f2,rfl,a,b⟩:=e.cut h
 obtain ⟨n1,n2,n12⟩:=nodup_append.mp nd
 refine ⟨fun x=>if x∈f2 then H x else G x,⟨r.fr,fun x o q=>?_,f1,a,n1,fun x hx=>?_⟩,fun x o q=>?_,fun {U2 σ2 F2 H2} sm r2=>?_⟩
 ·by_cases z:x∈f2
  ·have:=b.in_ x z
   grind
  ·simp only [z,if_false] at q
   exact r.gr x o q
 ·grind
 ·grind
 ·obtain ⟨fp2,e2,nd2,ap2⟩:=r2.en
  have hk:∀ x∈f2,H2 x=H x/\F2 x=none/\x∉fp2:=fun x hx=>by
   obtain ⟨o,q,_⟩:=b.in_ x hx
   have w:=r2.gr x o (by simp only [hx,if_true]; exact q)
   grind
  refine ⟨r2.fr,fun x o q=>?_,fp2++f2,e2.app (b.mono sm fun x hx=>(hk x hx).1),?_,fun x hx=>?_⟩
  ·have z:x∉f2:=fun z=>by
    grind
   exact r2.gr x o (by simp only [z,if_false]; exact q)
  ·grind
  grind
theorem Rel.weakG (r:Rel K U σ F G' H) (h:Same G G'):Rel K U σ F G H:=by
 obtain ⟨fp,e,nd,ap⟩:=r.en
 refine ⟨r.fr,fun a o q=>r.gr a o (h a o q),fp,e,nd,fun a ha=>⟨(ap a ha).1,?_⟩⟩
 cases q:G a with
 | none=>rfl
 | some o=>have:=(ap a ha).2; rw [h a o q] at this; cases this
theorem Rel.swap (h:U.length=σ.length) (h1:U1.length=σ1.length) (r:Rel K (U++(U1++U2)) (σ++(σ1++σ2)) F G H):Rel K (U++(U2++U1)) (σ++(σ2++σ1)) F G H:=by
 obtain ⟨fp,e,nd,ap⟩:=r.en
 obtain ⟨f0,f12,rfl,a,b⟩:=e.cut h
 obtain ⟨f1,f2,rfl,b,c⟩:=b.cut h1
 have p:(f0++(f2++f1)).Perm (f0++(f1++f2)):=List.Perm.append_left _ perm_append_comm
 exact ⟨r.fr,r.gr,_,a.app (c.app b),p.nodup_iff.mpr nd,fun x hx=>ap x (p.mem_iff.mp hx)⟩
theorem Rel.push (r:Rel K U σ F G H) (h:Rep K F v d):Rel K (U++[some (.sh d)]) (σ++[some v]) F G H:=by
 obtain ⟨fp,e,nd,ap⟩:=r.en
 refine ⟨r.fr,r.gr,fp++([]++[]),e.app (.so (.sh h) .nil),?_,fun x hx=>ap x ?_⟩
 ·simpa using nd
 ·simpa using hx
theorem Rel.pushN (r:Rel K U σ F G H):Rel K (U++[none]) (σ++[u]) F G H:=by
 obtain ⟨fp,e,nd,ap⟩:=r.en
 refine ⟨r.fr,r.gr,fp++[],e.app (.no .nil),?_,fun x hx=>ap x ?_⟩
 ·simpa using nd
 ·simpa using hx
theorem zba (h:slot U i=some s):U[i]?=some (some s):=by
 induction U generalizing i with
 | nil=>simp [slot] at h
 | cons a r ih=>cases i with
   | zero=>simp at h; simp [h]
   | succ i=>simp at h; simpa using ih h
theorem zbo (h:slot U i=some s):i < U.length:=(qh.mp (zba h)).1
theorem zbd (h:i < U.length):slot (U++U') i=slot U i:=by
 induction U generalizing i with
 | nil=>simp at h
 | cons a r ih=>cases i with
   | zero=>rfl
   | succ i=>simpa using ih (by simpa using h)
theorem zap:slot (U++o::U') U.length=o:=by
 induction U with
 | nil=>rfl
 | cons a r ih=>simpa using ih
theorem Rel.at (r:Rel K U σ F G H) (h:slot U i=some s):∃ v fp,σ[i]?=some (some v)/\SRep K F H v s fp:=by
 obtain ⟨fp,e,nd,ap⟩:=r.en
 obtain ⟨v,fa,fi,fb,e1,_,q,_⟩:=e.at h
 exact ⟨v,fi,e1,q⟩
theorem Rel.give (r:Rel K U σ F G H) (h:slot U i=some s):∃ v F',σ[i]?=some (some v)/\Same F F'/\Rep K F' v s.toD/\Rel K (U.set i (some (.sh s.toD))) σ F' G H:=by
 classical
 obtain ⟨fp,e,nd,ap⟩:=r.en
 obtain ⟨v,fa,fi,fb,e1,rfl,q,up⟩:=e.at h
 obtain ⟨na,nib,nab⟩:=nodup_append.mp nd
 obtain ⟨ni,nb,nib⟩:=nodup_append.mp nib
 have nofi:∀ x∈fa++fb,x∉fi:=fun x hx z=>by
  grind
 have sm:Same F (fun x=>if x∈fi then H x else F x):=fun x o w=>by
  grind
 have rp:Rep K (fun x=>if x∈fi then H x else F x) v s.toD:=q.frz sm fun x hx=>by simp only [hx,if_true]
 have e2:σ.set i (some v)=σ:=by
  apply ext_getElem?
  grind
 refine ⟨v,_,e1,sm,rp,fun x o w=>?_,fun x o w=>?_,fa++([]++fb),?_,?_,fun x hx=>?_⟩
 ·by_cases z:x∈fi
  ·simp only [z,if_true] at w; exact w
  ·simp only [z,if_false] at w; exact r.fr x o w
 ·have w2:=r.gr x o w
  grind
 ·have:=up (F':=fun x=>if x∈fi then H x else F x) (H':=H) (o:=some (.sh s.toD)) (u:=some v) (fi':=[]) sm (fun _ _=>rfl) (.so (.sh rp) .nil)
  rw [e2] at this
  exact this
 ·grind
 grind
theorem Rel.store (r:Rel K (U++[o]) (σ++[u]) F G H) (h:U.length=σ.length) (hi:i < U.length):Rel K (U.set i o) (σ.set i u) F G H:=by
 obtain ⟨fp,e,nd,ap⟩:=r.en
 obtain ⟨f1,f2,rfl,a,b⟩:=e.cut h
 obtain ⟨fa,fi,fb,rfl,up⟩:=a.put hi
 obtain ⟨n1,n2,n12⟩:=nodup_append.mp nd
 obtain ⟨na,nib,nab⟩:=nodup_append.mp n1
 obtain ⟨ni,nb,nib⟩:=nodup_append.mp nib
 refine ⟨r.fr,r.gr,fa++(f2++fb),up (Same.refl F) (fun _ _=>rfl) b,?_,fun x hx=>?_⟩
 ·grind
 grind
end
end FL
end
section
namespace FL
open PySem PySem.Spec PyProof.Rows L2
abbrev St:=L2.St
abbrev wp (X:Cx) (pn:List (Addr×Obj)) (xe:Value->Shared->Prop):Cx:={ X with pn:=pn,xe:=xe }
def slotOf:R->Option S
 | .v s=>some s
 | .loc _=>none
def RV (σ:St) (v:V):R->Prop
 | .v _=>True
 | .loc i=>σ[i]?=some (some v)
def RVs (σ:St):List V->List R->Prop
 | [],[]=>True
 | v::vs,r::rs=>RV σ v r/\RVs σ vs rs
 | _,_=>False
def clsD (K:W.Frag) (F:Hp) (d:D) (C:Addr) (dx:Option Addr):Prop:=∃ c fs vs,d=.exc c fs vs/\W.nsIn K mainGlobals (⟨c.toArray⟩:Str)=some (some (.ref C))/\XDct F dx fs vs
def XRep (X:Cx) (F H:Hp) (h:Heap) (u:Value) (d:D):Prop:=∃ e C dx,u=.ref e/\clsD X.K F d C dx/\Fly X [] H h e (.ref C) dx
def KP (ks:List Nat) (σ σ':St):Prop:=∀ i∈ks,σ'[i]?=σ[i]?
def XC (X:Cx) (T:St->Prop) (F G:Hp) (PX:WX):Prop:=∀ (d:D) (U':Env) (σ':St) (F' H':Hp) (u:Value) (s':Shared),PX d U'->T σ'->Same F F'->Rel X.K U' σ' F' G H'->Inv X [] σ' H' s'->XRep X F' H' s'.heap u d->X.xe u s'
theorem XC.mono (h:XC X T F G PX) (t:∀ σ,T' σ->T σ) (f:Same F F') (g:Same G G'):XC X T' F' G' PX:=
 fun d U' σ' F2 H2 u s' p q sm r I x=>h d U' σ' F2 H2 u s' p (t _ q) (f.trans sm) (r.weakG g) I x
theorem XC.grow (h:XC X T F G PX) (f:Same F F'):XC X T F' G PX:=h.mono (fun _ z=>z) f (Same.refl G)
inductive tW (X:Cx) (w:WE) (σ:St) (H:Hp) (Q:VK):Prop
 | mk (F G:Hp) (U:Env) (P:WQ) (PX:WX) (rel:Rel X.K U σ F G H) (hw:w U P PX) (hok:∀ r U' v F' H',P r U'->Same F F'->Rel X.K (U'++[slotOf r]) (σ++[some v]) F' G H'->RV σ v r->Q v H') (hx:XC X (·=σ) F G PX):tW X w σ H Q
def FE (X:Cx) (e:Expr) (w:WE):Prop:=∀ (pn:List (Addr×Obj)) (xe:Value->Shared->Prop),PassesOwn (model X.prog X.w) X.A X.env xe->PE (wp X pn xe) e (tW (wp X pn xe) w)
inductive tWT (X:Cx) (w:WT) (σ:St) (H:Hp) (Q:Bool->Hp->Prop):Prop
 | mk (F G:Hp) (U:Env) (P:Bool->Env->Prop) (PX:WX) (rel:Rel X.K U σ F G H) (hw:w U P PX) (hok:∀ b U' F' H',P b U'->Same F F'->Rel X.K U' σ F' G H'->Q b H') (hx:XC X (·=σ) F G PX):tWT X w σ H Q
def FT (X:Cx) (e:Expr) (w:WT):Prop:=∀ (pn:List (Addr×Obj)) (xe:Value->Shared->Prop),PassesOwn (model X.prog X.w) X.A X.env xe->PT (wp X pn xe) e (tWT (wp X pn xe) w)
def FW (X:Cx) (e:Expr) (w:WT):Prop:=∀ (pn:List (Addr×Obj)) (xe:Value->Shared->Prop),PassesOwn (model X.prog X.w) X.A X.env xe->PW (wp X pn xe) e (tWT (wp X pn xe) w)
inductive tWA (X:Cx) (w:WA) (σ:St) (H:Hp) (Q:List V->Hp->Prop):Prop
 | mk (F G:Hp) (U:Env) (P:List R->Env->Prop) (PX:WX) (rel:Rel X.K U σ F G H) (hw:w U P PX) (hok:∀ rs U' vs F' H',P rs U'->Same F F'->Rel X.K (U'++rs.map slotOf) (σ++vs.map some) F' G H'->U'.length=σ.length->RVs σ vs rs->Q vs H') (hx:XC X (·=σ) F G PX):tWA X w σ H Q
def FA (X:Cx) (es:List Expr) (w:WA):Prop:=∀ (pn:List (Addr×Obj)) (xe:Value->Shared->Prop),PassesOwn (model X.prog X.w) X.A X.env xe->PA (wp X pn xe) es (tWA (wp X pn xe) w)
theorem PE.imp (h:PE X e t) (k:∀ σ H Q,t' σ H Q->t σ H Q):PE X e t':=fun pins s σ H Q I q=>h pins s σ H Q I (k σ H Q q)
theorem PT.imp (h:PT X e t) (k:∀ σ H Q,t' σ H Q->t σ H Q):PT X e t':=fun pins s σ H Q I q=>h pins s σ H Q I (k σ H Q q)
theorem PW.imp (h:PW X e t) (k:∀ σ H Q,t' σ H Q->t σ H Q):PW X e t':=fun wh pins s σ H Q I q=>h wh pins s σ H Q I (k σ H Q q)
theorem PA.imp (h:PA X e t) (k:∀ σ H Q,t' σ H Q->t σ H Q):PA X e t':=fun p pins s σ H Q I q=>h p pins s σ H Q I (k σ H Q q)
section
variable {K:W.Frag} {F F' H H' G G':Hp} {U U':Env} {σ σ':St} {v u:V}
theorem Rel.mid (r:Rel K (U++o::U') (σ++w::σ') F G H) (h:U.length=σ.length):Rel K (U++U') (σ++σ') F G H:=by
 obtain ⟨fp,e,nd,ap⟩:=r.en
 obtain ⟨f1,f2,rfl,a,b⟩:=e.cut h
 obtain ⟨f2,f3,rfl,b,c⟩:=EnvRep.cut (U:=[o]) (σ:=[w]) rfl b
 obtain ⟨n1,n2,n3⟩:=nodup_append.mp nd
 obtain ⟨n4,n5,n6⟩:=nodup_append.mp n2
 refine ⟨r.fr,r.gr,f1++f3,a.app c,nodup_append.mpr ⟨n1,n5,fun x hx y hy=>n3 x hx y (qj _ hy)⟩,fun x hx=>ap x ?_⟩
 grind
theorem len1 (r:Rel K (U++[o]) (σ++[w]) F G H):U.length=σ.length:=by
 have:=r.len
 simpa using this
theorem zbr:(U++o::U').set U.length o'=U++o'::U':=by
 induction U with
 | nil=>rfl
 | cons a r ih=>simpa using ih
theorem zae (h:need o k):∃ a,o=some a/\k a:=by
 cases o with
 | none=>exact h.elim
 | some a=>exact ⟨a,rfl,h⟩
def RepE (K:W.Frag) (F H:Hp) (v:V) (d:D):Prop:=Rep K F v d\/
 (∃ a xs ds,v=.ref a/\d=.lst ds/\H a=some (.lst xs)/\Reps K F xs ds)\/
 (∃ a kvs ks vs,v=.ref a/\d=.dct false ks vs/\H a=some (.dK kvs)/\ks=kvs.map (fun p=>keyD p.1)/\Reps K F (kvs.map (·.2)) vs)\/
 (∃ a kvs ks vs,v=.ref a/\d=.dct true ks vs/\H a=some (.dT kvs)/\ks=kvs.map (fun p=>D.tup (p.1.map keyD))/\Reps K F (kvs.map (·.2)) vs)
theorem RepE.mono (h:Same F F') (r:RepE K F H v d):RepE K F' H v d:=by
 rcases r with r | ⟨a,xs,ds,e1,e2,e3,r⟩ | ⟨a,kvs,ks,vs,e1,e2,e3,e4,r⟩ | ⟨a,kvs,ks,vs,e1,e2,e3,e4,r⟩
 ·exact .inl (r.mono h)
 ·exact .inr (.inl ⟨a,xs,ds,e1,e2,e3,r.mono h⟩)
 ·exact .inr (.inr (.inl ⟨a,kvs,ks,vs,e1,e2,e3,e4,r.mono h⟩))
 ·exact .inr (.inr (.inr ⟨a,kvs,ks,vs,e1,e2,e3,e4,r.mono h⟩))
theorem SReps.sh (r:SReps K F H xs l fp):l.all S.isSh=true->Reps K F xs (l.map S.toD)/\fp=[]:=
 SReps.ind (P:=fun xs l fp=>l.all S.isSh=true->Reps K F xs (l.map S.toD)/\fp=[]) (fun _=>⟨.nil,rfl⟩) (fun a _ ih h=>by
  rw [all_cons,and_eq_true] at h
  obtain ⟨q,e⟩:=ih h.2
  cases a with
  | sh r=>exact ⟨.cons r q,e⟩
  | _=>exact absurd h.1 (by simp [S.isSh])) r
theorem look (r:Rel K (U++(slotOf x::U')) (σ++(some v::σ')) F G H) (h:U.length=σ.length) (rv:RV σ v x) (e:view x U=some d):Rep K H v d:=by
 cases x with
 | v s=>
   obtain ⟨u,fp,e1,q⟩:=r.at (i:=U.length) (s:=s) zap
   rw [h,getElem?_append_right (le_refl _),sub_self] at e1
   have e2:v=u:=by simpa using e1
   subst e2
   have e3:s.toD=d:=qg e
   rw [<- e3]
   exact q.view r.fr
 | loc i=>
   have e':(slot U i).map S.toD=some d:=e
   cases q:slot U i with
   | none=>rw [q] at e'; cases e'
   | some s=>
     rw [q] at e'
     have e3:s.toD=d:=qg e'
     have hi:=zbo q
     obtain ⟨u,fp,e1,w⟩:=r.at (i:=i) (s:=s) (by rw [zbd hi]; exact q)
     rw [getElem?_append_left (h ▸ hi)] at e1
     have rv':σ[i]?=some (some v):=rv
     rw [rv'] at e1
     have e2:v=u:=by simpa using e1
     subst e2
     rw [<- e3]
     exact w.view r.fr
theorem takeC (r:Rel K (U++(slotOf x::U')) (σ++(some v::σ')) F G H) (h:U.length=σ.length) (rv:RV σ v x) (e:viewC x U=some d):
  ∃ F',Same F F'/\RepE K F' H v d/\Rel K (U++U') (σ++σ') F' G H:=by
 cases x with
 | v s=>
   obtain ⟨u,F',e1,sm,rp,r'⟩:=r.give (i:=U.length) (s:=s) zap
   rw [h,getElem?_append_right (le_refl _),sub_self] at e1
   have e2:v=u:=by simpa using e1
   subst e2
   have e3:s.toD=d:=qg e
   rw [show (U++slotOf (.v s)::U').set U.length (some (S.sh s.toD))=U++some (S.sh s.toD)::U' from zbr] at r'
   exact ⟨F',sm,.inl (e3 ▸ rp),r'.mid h⟩
 | loc i=>
   have e':(match slot U i with | some s=>if s.flat then some s.toD else none | none=>none)=some d:=e
   cases q:slot U i with
   | none=>rw [q] at e'; cases e'
   | some s=>
     rw [q] at e'
     have hi:=zbo q
     obtain ⟨u,fp,e1,w⟩:=r.at (i:=i) (s:=s) (by rw [zbd hi]; exact q)
     rw [getElem?_append_left (h ▸ hi)] at e1
     have rv':σ[i]?=some (some v):=rv
     rw [rv'] at e1
     have e2:v=u:=by simpa using e1
     subst e2
     refine ⟨F,Same.refl F,?_,r.mid h⟩
     by_cases hf:s.flat=true
     ·have e3:s.toD=d:=by
       grind
      subst e3
      cases w with
      | sh r=>exact .inl r
      | lst e0 r0=>
        obtain ⟨r1,_⟩:=r0.sh hf
        exact .inr (.inl ⟨_,_,_,rfl,by simp,e0,r1⟩)
      | dK e0 k0 r0=>
        obtain ⟨r1,_⟩:=r0.sh hf
        exact .inr (.inr (.inl ⟨_,_,_,_,rfl,by simp,e0,k0,r1⟩))
      | dT e0 k0 r0=>
        obtain ⟨r1,_⟩:=r0.sh hf
        exact .inr (.inr (.inr ⟨_,_,_,_,rfl,by simp,e0,k0,r1⟩))
      | st _ _=>exact absurd hf (by simp [S.flat])
     grind
theorem giveR (r:Rel K (U++(slotOf x::U')) (σ++(some v::σ')) F G H) (h:U.length=σ.length) (rv:RV σ v x) (e:give x U=some (s,U1)):
  ∃ F',Same F F'/\U1.length=U.length/\Rel K (U1++(some s::U')) (σ++(some v::σ')) F' G H:=by
 cases x with
 | v t=>
   have e':some (t,U)=some (s,U1):=e
   cases e'
   exact ⟨F,Same.refl F,rfl,r⟩
 | loc i=>
   have e':(match slot U i with | some s=>some (S.sh s.toD,U.set i (some (.sh s.toD))) | none=>none)=some (s,U1):=e
   cases q:slot U i with
   | none=>rw [q] at e'; cases e'
   | some t=>
     rw [q] at e'
     cases e'
     have hi:=zbo q
     obtain ⟨u,F',e1,sm,rp,r'⟩:=r.give (i:=i) (s:=t) (by rw [zbd hi]; exact q)
     rw [getElem?_append_left (h ▸ hi)] at e1
     have rv':σ[i]?=some (some v):=rv
     rw [rv'] at e1
     have e2:v=u:=by simpa using e1
     subst e2
     rw [List.set_append_left _ _ hi] at r'
     refine ⟨F',sm,by simp,?_⟩
     obtain ⟨fp,en,nd,ap⟩:=r'.en
     have hl:(U.set i (some (S.sh t.toD))).length=σ.length:=by simpa using h
     obtain ⟨f1,f2,rfl,a,b⟩:=en.cut hl
     have b':EnvRep K F' H (none::U') (some v::σ') f2:=b
     cases b' with
     | no b=>exact ⟨r'.fr,r'.gr,f1++([]++f2),a.app (.so (.sh rp) b),by simpa using nd,fun x hx=>ap x (by simpa using hx)⟩
end
theorem tW.mono (h:tW X w σ H Q) (k:∀ v H',Q v H'->Q' v H'):tW X w σ H Q':=by
 obtain ⟨F,G,U,P,PX,rel,hw,hok,hx⟩:=h
 exact ⟨F,G,U,P,PX,rel,hw,fun r U' v F' H' a b c d=>k _ _ (hok r U' v F' H' a b c d),hx⟩
section
variable {X:Cx} {σ:St} {H:Hp} {Q:VK}
inductive Two (X:Cx) (σ:St) (k:R->R->Env->WQ->WX->Prop) (Q:VK) (v u:V) (H:Hp):Prop
 | mk (F G:Hp) (U:Env) (x y:R) (P:WQ) (PX:WX) (rel:Rel X.K (U++[slotOf x,slotOf y]) (σ++[some v,some u]) F G H) (hl:U.length=σ.length) (rx:RV σ v x) (ry:RV σ u y) (hk:k x y U P PX) (hok:∀ r U' v F' H',P r U'->Same F F'->Rel X.K (U'++[slotOf r]) (σ++[some v]) F' G H'->RV σ v r->Q v H') (hx:XC X (·=σ) F G PX):Two X σ k Q v u H
theorem two (h:tW X (fun U Q E=>wa U (fun x U1=>wb U1 (fun y U2=>k x y U2 Q E) E) E) σ H Q):
  tW X wa σ H fun v H1=>tW X wb σ H1 fun u H2=>Two X σ k Q v u H2:=by
 obtain ⟨F,G,U,P,PX,rel,hw,hok,hx⟩:=h
 refine ⟨F,G,U,_,PX,rel,hw,fun x U1 v F1 H1 hp1 s1 r1 rv1=>?_,hx⟩
 have h1:=len1 r1
 obtain ⟨G1,rel1,gg,back⟩:=r1.hide h1
 refine ⟨F1,G1,U1,_,PX,rel1,hp1,fun y U2 u F2 H2 hp2 s2 r2 rv2=>?_,hx.mono (fun _ z=>z) s1 gg⟩
 have h2:=len1 r2
 have r3:=back s2 r2
 rw [append_assoc,append_assoc] at r3
 exact ⟨F2,G,U2,x,y,P,PX,Rel.swap (U1:=[slotOf y]) (σ1:=[some u]) (U2:=[slotOf x]) (σ2:=[some v]) h2 rfl r3,h2,rv1,rv2,hp2,fun r U' v F' H' a b c d=>hok r U' v F' H' a (s1.trans (s2.trans b)) c d,hx.grow (s1.trans s2)⟩
inductive One (X:Cx) (σ:St) (k:R->Env->WQ->WX->Prop) (Q:VK) (v:V) (H:Hp):Prop
 | mk (F G:Hp) (U:Env) (x:R) (P:WQ) (PX:WX) (rel:Rel X.K (U++[slotOf x]) (σ++[some v]) F G H) (hl:U.length=σ.length) (rx:RV σ v x) (hk:k x U P PX) (hok:∀ r U' v F' H',P r U'->Same F F'->Rel X.K (U'++[slotOf r]) (σ++[some v]) F' G H'->RV σ v r->Q v H') (hx:XC X (·=σ) F G PX):One X σ k Q v H
theorem one (h:tW X (fun U Q E=>wa U (fun x U1=>k x U1 Q E) E) σ H Q):tW X wa σ H fun v H1=>One X σ k Q v H1:=by
 obtain ⟨F,G,U,P,PX,rel,hw,hok,hx⟩:=h
 exact ⟨F,G,U,_,PX,rel,hw,fun x U1 v F1 H1 hp1 s1 r1 rv1=>⟨F1,G,U1,x,P,PX,r1,len1 r1,rv1,hp1,fun r U' v F' H' a b c d=>hok r U' v F' H' a (s1.trans b) c d,hx.grow s1⟩,hx⟩
end
section
variable {X:Cx}
theorem ziD (hN:X.N[i]?=some x) (hv:Vis X.env.scope x) (hd:(x == ("__debug__":Str))=false:=by decide) (hcd:(x == ("__classdict__":Str))=false:=by decide):FE X (.Name x pos) (wVar i):=by
 intro pn xe hp
 refine PE.imp (zjP (X:=wp X pn xe) hN hv hd hcd) fun σ H Q h=>?_
 obtain ⟨F,G,U,P,PX,rel,hw,hok,hx⟩:=h
 unfold wVar at hw
 cases q:slot U i with
 | none=>rw [q] at hw; exact hw.elim
 | some s=>
   obtain ⟨v,fp,e1,sr⟩:=rel.at q
   rw [q] at hw
   cases s with
   | sh d=>
     cases sr with
     | sh r=>exact ⟨v,e1,hok _ _ v F H hw (Same.refl F) (rel.push r) trivial⟩
   | lst l=>exact ⟨v,e1,hok _ _ v F H hw (Same.refl F) rel.pushN e1⟩
   | dct t a b=>exact ⟨v,e1,hok _ _ v F H hw (Same.refl F) rel.pushN e1⟩
   | set l=>exact ⟨v,e1,hok _ _ v F H hw (Same.refl F) rel.pushN e1⟩
theorem fe_c (h:∀ X:Cx,PE X e (tC v)) (r:∀ K F,Rep K F v d):FE X e (wC d):=by
 intro pn xe hp
 refine PE.imp (h _) fun σ H Q h=>?_
 obtain ⟨F,G,U,P,PX,rel,hw,hok,hx⟩:=h
 exact hok _ _ v F H hw (Same.refl F) (rel.push (r _ _)) trivial
theorem zad:FE X (.Constant (.int i) j pos) (wC (.int i)):=fe_c (fun _=>zkw) fun _ _=>.int i
theorem zcs:FE X (.Constant (.bool b) j pos) (wC (.bl b)):=fe_c (fun _=>zlY) fun _ _=>.bl b
theorem zcB (e:x.cps.toList=l) (z:l.length<=16777216):FE X (.Constant (.str x) j pos) (wC (.str l)):=fe_c (fun _=>zi8) fun _ _=>.str e z
end
section
variable {X:Cx} {a b c:Expr} {wa wb wc:WE} {pos:Pos}
theorem OpR.or (h:OpR X f r) (h':OpR X f r'):OpR X f (fun x y H Q=>r x y H Q\/r' x y H Q):=fun pins s σ H x y v u Q I rx ry q=>
 q.elim (fun z=>h pins s σ H x y v u Q I rx ry z) fun z=>h' pins s σ H x y v u Q I rx ry z
def Does (K:W.Frag) (r:R2) (op:D->D->Option S):Prop:=∀ (σ:St) (U:Env) (F G H:Hp) (x y:V) (p q:D) (s:S) (Q:VK),Rel K U σ F G H->RepE K F H x p->RepE K F H y q->op p q=some s->
 (∀ v F' H',Same F F'->Rel K (U++[some s]) (σ++[some v]) F' G H'->Q v H')->r x y H Q
theorem zb6 (ho:∀ pn xe,OpR (wp X pn xe) (binaryOp op) r) (hd:Does X.K r o) (ha:FE X a wa) (hb:FE X b wb):FE X (.BinOp a op b pos) (wBin o wa wb):=by
 intro pn xe hp
 refine PE.imp (zlf (ho pn xe) (ha pn xe hp) (hb pn xe hp)) fun σ H Q h=>?_
 refine (two (k:=fun x y U2 Q E=>need (viewC x U2) fun p=>need (viewC y U2) fun q=>need (o p q) fun s=>Q (.v s) U2) h).mono fun v H1 h1=>h1.mono fun u H2 h2=>?_
 obtain ⟨F,G,U,x,y,P,PX,rel,hl,rx,ry,hk,hok,hx⟩:=h2
 obtain ⟨p,ep,hk⟩:=zae hk
 obtain ⟨q,eq,hk⟩:=zae hk
 obtain ⟨t,et,hk⟩:=zae hk
 obtain ⟨F1,s1,re1,rel1⟩:=takeC rel hl rx ep
 obtain ⟨F2,s2,re2,rel2⟩:=takeC (U':=[]) (σ':=[]) rel1 hl ry eq
 rw [append_nil,append_nil] at rel2
 exact hd σ U F2 G H2 v u p q t Q rel2 (re1.mono s2) re2 et fun v' F' H' sm r'=>hok (.v t) U v' F' H' hk (s1.trans (s2.trans sm)) r' trivial
end
theorem tWA.mono (h:tWA X w σ H Q) (k:∀ v H',Q v H'->Q' v H'):tWA X w σ H Q':=by
 obtain ⟨F,G,U,P,PX,rel,hw,hok,hx⟩:=h
 exact ⟨F,G,U,P,PX,rel,hw,fun r U' v F' H' a b c d e=>k _ _ (hok r U' v F' H' a b c d e),hx⟩
section
variable {X:Cx} {a b c:Expr} {wa wb wc:WE} {ta tb:WT} {pos:Pos} {σ:St} {H:Hp}
inductive TwoT (X:Cx) (σ:St) (k:R->R->Env->(Bool->Env->Prop)->WX->Prop) (Q:Bool->Hp->Prop) (v u:V) (H:Hp):Prop
 | mk (F G:Hp) (U:Env) (x y:R) (P:Bool->Env->Prop) (PX:WX) (rel:Rel X.K (U++[slotOf x,slotOf y]) (σ++[some v,some u]) F G H) (hl:U.length=σ.length) (rx:RV σ v x) (ry:RV σ u y) (hk:k x y U P PX) (hok:∀ r U' F' H',P r U'->Same F F'->Rel X.K U' σ F' G H'->Q r H') (hx:XC X (·=σ) F G PX):TwoT X σ k Q v u H
theorem twoT (h:tWT X (fun U Q E=>wa U (fun x U1=>wb U1 (fun y U2=>k x y U2 Q E) E) E) σ H Q):
  tW X wa σ H fun v H1=>tW X wb σ H1 fun u H2=>TwoT X σ k Q v u H2:=by
 obtain ⟨F,G,U,P,PX,rel,hw,hok,hx⟩:=h
 refine ⟨F,G,U,_,PX,rel,hw,fun x U1 v F1 H1 hp1 s1 r1 rv1=>?_,hx⟩
 have h1:=len1 r1
 obtain ⟨G1,rel1,gg,back⟩:=r1.hide h1
 refine ⟨F1,G1,U1,_,PX,rel1,hp1,fun y U2 u F2 H2 hp2 s2 r2 rv2=>?_,hx.mono (fun _ z=>z) s1 gg⟩
 have h2:=len1 r2
 have r3:=back s2 r2
 rw [append_assoc,append_assoc] at r3
 exact ⟨F2,G,U2,x,y,P,PX,Rel.swap (U1:=[slotOf y]) (σ1:=[some u]) (U2:=[slotOf x]) (σ2:=[some v]) h2 rfl r3,h2,rv1,rv2,hp2,fun r U' F' H' a b c=>hok r U' F' H' a (s1.trans (s2.trans b)) c,hx.grow (s1.trans s2)⟩
def DoesC (K:W.Frag) (r:R2) (op:D->D->Option Bool):Prop:=∀ (H:Hp) (x y:V) (p q:D) (k:Bool) (Q:VK),Rep K H x p->Rep K H y q->op p q=some k->Q (.bl k) H->r x y H Q
theorem look2 {K:W.Frag} (rel:Rel K (U++[slotOf x,slotOf y]) (σ++[some v,some u]) F G H) (hl:U.length=σ.length) (rx:RV σ v x) (ry:RV σ u y) (ep:view x U=some p) (eq:view y U=some q):
  Rep K H v p/\Rep K H u q/\Rel K U σ F G H:=by
 have rel':Rel K (U++[slotOf y]) (σ++[some u]) F G H:=rel.mid hl
 exact ⟨look rel hl rx ep,look (U':=[]) (σ':=[]) rel' hl ry eq,rel'.drop hl⟩
theorem zay (ho:∀ pn xe,OpR (wp X pn xe) (compareOp op) r) (hd:DoesC X.K r o) (ha:FE X a wa) (hb:FE X b wb) (hm:behindInMarks op b=false):FT X (.Compare a [op] [b] pos) (wCmp o wa wb):=by
 intro pn xe hp
 refine PT.imp (zhy (ho pn xe) (ha pn xe hp) (hb pn xe hp) hm) fun σ H Q h=>?_
 refine (twoT (k:=fun x y U2 Q E=>need (view x U2) fun p=>need (view y U2) fun q=>need (o p q) fun c=>Q c U2) h).mono fun v H1 h1=>h1.mono fun u H2 h2=>?_
 obtain ⟨F,G,U,x,y,P,PX,rel,hl,rx,ry,hk,hok,hx⟩:=h2
 obtain ⟨p,ep,hk⟩:=zae hk
 obtain ⟨q,eq,hk⟩:=zae hk
 obtain ⟨t,et,hk⟩:=zae hk
 obtain ⟨r1,r2,rel'⟩:=look2 rel hl rx ry ep eq
 exact hd H2 v u p q t _ r1 r2 et ⟨t,rfl,hok t U F H2 hk (Same.refl F) rel'⟩
theorem zcO (ho:∀ pn xe,OpR (wp X pn xe) (compareOp op) r) (hd:DoesC X.K r o) (ha:FE X a wa) (hb:FE X b wb) (hm:behindInMarks op b=false):FE X (.Compare a [op] [b] pos) (wOfT (wCmp o wa wb)):=by
 intro pn xe hp
 refine PE.imp (zix (ho pn xe) (ha pn xe hp) (hb pn xe hp) hm) fun σ H Q h=>?_
 refine (two (k:=fun x y U2 Q E=>need (view x U2) fun p=>need (view y U2) fun q=>need (o p q) fun c=>Q (.v (.sh (.bl c))) U2) h).mono fun v H1 h1=>h1.mono fun u H2 h2=>?_
 obtain ⟨F,G,U,x,y,P,PX,rel,hl,rx,ry,hk,hok,hx⟩:=h2
 obtain ⟨p,ep,hk⟩:=zae hk
 obtain ⟨q,eq,hk⟩:=zae hk
 obtain ⟨t,et,hk⟩:=zae hk
 obtain ⟨r1,r2,rel'⟩:=look2 rel hl rx ry ep eq
 exact hd H2 v u p q t _ r1 r2 et (hok _ U (.bl t) F H2 hk (Same.refl F) (rel'.push (.bl t)) trivial)
theorem zid {K:W.Frag} (r:Rep K H v d) (e:truth d=some k):TruV K v H k:=by
 cases r with
 | non=>exact (qg e).symm
 | bl b=>exact (qg e).symm
 | int i=>
   have e':=(qg e).symm
   rw [e']
   show decide (i≠0)=(i !=0)
   by_cases h:i=0 <;> simp [h]
 | str e1 z=>
   rename_i x l
   have e':=(qg e).symm
   have hl:x.length=l.length:=by rw [<- e1]; rfl
   refine ⟨by rw [hl,sizeLine_eq]; exact z,?_⟩
   rw [e',hl]
   cases l with
   | nil=>rfl
   | cons a r=>simp; lia
 | tup h r=>
   refine .inr (.inl ⟨_,SqT.of h,?_⟩)
   have e':=(qg e).symm
   rw [e']
   cases r <;> rfl
 | lst h r=>
   refine .inl ⟨_,h,?_⟩
   have e':=(qg e).symm
   rw [e']
   cases r <;> rfl
 | dK h k r=>cases e
 | dT h k r=>cases e
 | st h r=>cases e
 | exc h k=>cases e
theorem zeA (ha:FE X a wa) (he:∀ whole,isTrue a X.env whole=(do let v <- whole; standAt a.pos; holding [v] (truthy v)):=by intro _; rfl):FT X a (wTest wa):=by
 intro pn xe hp
 refine PT.imp (zgK (ha pn xe hp) he) fun σ H Q h=>?_
 obtain ⟨F,G,U,P,PX,rel,hw,hok,hx⟩:=h
 refine ⟨F,G,U,_,PX,rel,hw,fun x U1 v F1 H1 hk s1 r1 rv1=>?_,hx⟩
 obtain ⟨p,ep,hk⟩:=zae hk
 obtain ⟨t,et,hk⟩:=zae hk
 have hl:=len1 r1
 exact ⟨t,zid (look (U':=[]) (σ':=[]) r1 hl rv1 ep) et,hok t U1 F1 H1 hk s1 (r1.drop hl)⟩
theorem thenT {k:Bool->Env->(Bool->Env->Prop)->WX->Prop} (h:tWT X (fun U Q E=>ta U (fun c U1=>k c U1 Q E) E) σ H Q)
  (hk:∀ (c:Bool) (F G:Hp) (U:Env) (P:Bool->Env->Prop) (PX:WX) (H1:Hp),Rel X.K U σ F G H1->k c U P PX->(∀ r U' F' H',P r U'->Same F F'->Rel X.K U' σ F' G H'->Q r H')->XC X (·=σ) F G PX->Q' c H1):tWT X ta σ H Q':=by
 obtain ⟨F,G,U,P,PX,rel,hw,hok,hx⟩:=h
 exact ⟨F,G,U,_,PX,rel,hw,fun c U1 F1 H1 hp s1 r1=>hk c F1 G U1 P PX H1 r1 hp (fun r U' F' H' a b c=>hok r U' F' H' a (s1.trans b) c) (hx.grow s1),hx⟩
theorem zgL (h:FW X a ta):FT X a ta:=fun pn xe hp=>(h pn xe hp).pt
theorem zdk (h:FT X a ta):FW X (.BoolOp .And [a] pos) ta:=fun pn xe hp=>zh7 (h pn xe hp)
theorem zkc (h:FT X a ta):FW X (.BoolOp .Or [a] pos) ta:=fun pn xe hp=>zkI (h pn xe hp)
theorem zdG {rest:List Expr} (h:FT X a ta) (h':FW X (.BoolOp .And (b::rest) pos) tb):FW X (.BoolOp .And (a::b::rest) pos) (wtAnd ta tb):=fun pn xe hp=>by
 refine PW.imp (zkY (h pn xe hp) (h' pn xe hp)) fun σ H Q q=>?_
 refine thenT (k:=fun c U1 Q E=>if c then tb U1 Q E else Q false U1) q fun c F G U P PX H1 rel hk hok hx=>?_
 cases c with
 | true=>exact ⟨F,G,U,P,PX,rel,hk,hok,hx⟩
 | false=>exact hok false U F H1 hk (Same.refl F) rel
theorem zlh {rest:List Expr} (h:FT X a ta) (h':FW X (.BoolOp .Or (b::rest) pos) tb):FW X (.BoolOp .Or (a::b::rest) pos) (wtOr ta tb):=fun pn xe hp=>by
 refine PW.imp (zmD (h pn xe hp) (h' pn xe hp)) fun σ H Q q=>?_
 refine thenT (k:=fun c U1 Q E=>if c then Q true U1 else tb U1 Q E) q fun c F G U P PX H1 rel hk hok hx=>?_
 cases c with
 | false=>exact ⟨F,G,U,P,PX,rel,hk,hok,hx⟩
 | true=>exact hok true U F H1 hk (Same.refl F) rel
theorem zki (h:FT X a ta):FT X (.UnaryOp .Not a pos) (wtNot ta):=fun pn xe hp=>by
 refine PT.imp (zjt (h pn xe hp)) fun σ H Q q=>?_
 exact thenT (k:=fun c U1 Q E=>Q (!c) U1) q fun c F G U P PX H1 rel hk hok hx=>hok _ U F H1 hk (Same.refl F) rel
theorem zgQ (hc:FT X c tc) (ha:FE X a wa) (hb:FE X b wb):FE X (.IfExp c a b pos) (wIfE tc wa wb):=fun pn xe hp=>by
 refine PE.imp (zgb (hc pn xe hp) (ha pn xe hp) (hb pn xe hp)) fun σ H Q q=>?_
 obtain ⟨F,G,U,P,PX,rel,hw,hok,hx⟩:=q
 refine ⟨F,G,U,_,PX,rel,hw,fun c U1 F1 H1 hk s1 r1=>?_,hx⟩
 cases c with
 | true=>exact ⟨F1,G,U1,P,PX,r1,hk,fun r U' v F' H' a b c d=>hok r U' v F' H' a (s1.trans b) c d,hx.grow s1⟩
 | false=>exact ⟨F1,G,U1,P,PX,r1,hk,fun r U' v F' H' a b c d=>hok r U' v F' H' a (s1.trans b) c d,hx.grow s1⟩
theorem zmE {K:W.Frag} {c:Bool} (r:Rep K H v (.bl c)):v=.bl c:=by cases r; rfl
theorem ziO (h:FE X a wa):FE X (.BoolOp op [a] pos) wa:=fun pn xe hp=>ziA (h pn xe hp)
theorem zkN {rest:List Expr} (ha:FE X a wa) (hb:FE X (.BoolOp .And (b::rest) pos) wb):FE X (.BoolOp .And (a::b::rest) pos) (wAndV wa wb):=fun pn xe hp=>by
 refine PE.imp (zkx (ha pn xe hp) (hb pn xe hp)) fun σ H Q q=>?_
 refine (one (k:=fun x U1 Q E=>match view x U1 with | some (.bl c)=>if c then wb U1 Q E else Q (.v (.sh (.bl false))) U1 | _=>False) q).mono fun v H1 h1=>?_
 obtain ⟨F,G,U,x,P,PX,rel,hl,rx,hk,hok,hx⟩:=h1
 split at hk
 ·rename_i c e
  refine ⟨c,zmE (look (U':=[]) (σ':=[]) rel hl rx e),?_⟩
  cases c with
  | true=>exact ⟨F,G,U,P,PX,rel.drop hl,hk,hok,hx⟩
  | false=>exact hok _ U (.bl false) F H1 hk (Same.refl F) ((rel.drop hl).push (.bl false)) trivial
 ·exact hk.elim
end
section
variable {X:Cx} {e:Expr} {es:List Expr} {wa:WE} {wb:WA} {pos:Pos} {K:W.Frag}
theorem zac:FA X [] wNil:=fun pn xe hp=>PA.imp zkn fun σ H Q q=>by
 obtain ⟨F,G,U,P,PX,rel,hw,hok,hx⟩:=q
 exact hok [] U [] F H hw (Same.refl F) (by simpa using rel) rel.len trivial
theorem zaa (ha:FE X e wa) (hb:FA X es wb) (hs:starEach (e::es) X.env=(false,eval e X.env)::starEach es X.env:=by rfl):FA X (e::es) (wCons wa wb):=fun pn xe hp=>by
 refine PA.imp (ziu (ha pn xe hp) (hb pn xe hp) hs) fun σ H Q q=>?_
 obtain ⟨F,G,U,P,PX,rel,hw,hok,hx⟩:=q
 refine ⟨F,G,U,_,PX,rel,hw,fun x U1 v F1 H1 hp1 s1 r1 rv1=>?_,hx⟩
 have h1:=len1 r1
 obtain ⟨G1,rel1,gg,back⟩:=r1.hide h1
 refine ⟨F1,G1,U1,_,PX,rel1,hp1,fun rs U2 vs F2 H2 hp2 s2 r2 h2 rv2=>?_,hx.mono (fun _ z=>z) s1 gg⟩
 have r3:=back s2 r2
 rw [append_assoc,append_assoc] at r3
 have hl:(rs.map slotOf).length=(vs.map some).length:=by
  have:=r2.len
  grind
 exact hok (x::rs) U2 (v::vs) F2 H2 hp2 (s1.trans s2) (Rel.swap (U1:=rs.map slotOf) (σ1:=vs.map some) (U2:=[slotOf x]) (σ2:=[some v]) h2 hl r3) h2 ⟨rv1,rv2⟩
end
section
variable {K:W.Frag} {F F' H H' G G':Hp} {σ σ':St} {v u:V}
theorem RVs.len:∀ {vs:List V} {rs:List R},RVs σ vs rs->vs.length=rs.length
 | [],[],_=>rfl
 | [],_::_,h=>h.elim
 | _::_,[],h=>h.elim
 | _::vs,_::rs,h=>by simp [RVs.len h.2]
theorem zaZ:∀ {rs:List R} {vs:List V} {U U' U1:Env} {ss:List S} {F:Hp} {σ':St},Rel K (U++(rs.map slotOf++U')) (σ++(vs.map some++σ')) F G H->U.length=σ.length->RVs σ vs rs->giveAll rs U=some (ss,U1)->
  ∃ F',Same F F'/\U1.length=U.length/\ss.length=rs.length/\Rel K (U1++(ss.map some++U')) (σ++(vs.map some++σ')) F' G H
 | [],[],U,U',U1,ss,F,σ',r,h,_,e=>by
   have e':some (([]:List S),U)=some (ss,U1):=e
   cases e'
   exact ⟨F,Same.refl F,rfl,rfl,r⟩
 | [],_::_,_,_,_,_,_,_,_,_,h,_=>h.elim
 | _::_,[],_,_,_,_,_,_,_,_,h,_=>h.elim
 | x::rs,v::vs,U,U',U1,ss,F,σ',r,h,rv,e=>by
   have e':(match give x U with | some (s,U1)=>(match giveAll rs U1 with | some (ss,U2)=>some (s::ss,U2) | none=>none) | none=>none)=some (ss,U1):=e
   cases q:give x U with
   | none=>rw [q] at e'; cases e'
   | some p=>
     obtain ⟨s,U2⟩:=p
     rw [q] at e'
     cases q2:giveAll rs U2 with
     | none=>simp only [q2] at e'; cases e'
     | some p2=>
       obtain ⟨ts,U3⟩:=p2
       simp only [q2] at e'
       cases e'
       obtain ⟨F1,s1,l1,r1⟩:=giveR (U':=rs.map slotOf++U') (σ':=vs.map some++σ') r h rv.1 q
       have h2:U2.length=σ.length:=l1.trans h
       have hl:(rs.map slotOf++U').length=(vs.map some++σ').length:=by
        have:=r1.len
        rw [length_append,length_append,h2,length_cons,length_cons] at this
        lia
       have hl':U'.length=σ'.length:=by
        have:=rv.2.len
        simp at hl
        lia
       have r2:=Rel.swap (U1:=[some s]) (σ1:=[some v]) (U2:=rs.map slotOf++U') (σ2:=vs.map some++σ') h2 rfl r1
       rw [append_assoc,append_assoc] at r2
       obtain ⟨F2,s2,l2,l3,r3⟩:=zaZ (rs:=rs) (vs:=vs) r2 h2 rv.2 q2
       have h3:U1.length=σ.length:=l2.trans h2
       rw [<- append_assoc (ts.map some),<- append_assoc (vs.map some)] at r3
       have r4:=Rel.swap (U1:=ts.map some++U') (σ1:=vs.map some++σ') (U2:=[some s]) (σ2:=[some v]) h3 (by simp [l3,rv.2.len,hl']) r3
       exact ⟨F2,s1.trans s2,l2.trans l1,by simp [l3],r4⟩
theorem envReps:∀ {vs:List V} {ss:List S} {fp:List Addr},EnvRep K F H (ss.map some) (vs.map some) fp->SReps K F H vs ss fp
 | [],[],_,.nil=>.nil
 | [],_::_,_,h=>nomatch h
 | _::_,[],_,h=>nomatch h
 | v::vs,s::ss,_,.so a b=>.cons a (envReps b)
theorem Rel.newL (r:Rel K (U++ss.map some) (σ++vs.map some) F G H) (h:U.length=σ.length) (hp:H p=none):
  Rel K (U++[some (.lst ss)]) (σ++[some (.ref p)]) F G (upd H p (.lst vs)):=by
 obtain ⟨f0,g0,n0⟩:=r.free hp
 obtain ⟨fp,e,nd,ap⟩:=r.en
 have hne:∀ a∈fp,a≠p:=fun a ha z=>n0 fp e (z ▸ ha)
 obtain ⟨f1,f2,rfl,en1,en2⟩:=(e.mono (H':=upd H p (.lst vs)) (Same.refl F) fun a ha=>zaf (hne a ha)).cut h
 refine ⟨Same.updR r.fr f0,fun a u q=>?_,f1++((p::f2)++[]),en1.app (.so (.lst zai (envReps en2)) .nil),?_,fun a ha=>?_⟩
 ·have hp:a≠p:=fun z=>by rw [z,g0] at q; cases q
  rw [zaf hp]; exact r.gr a u q
 ·grind
 grind
theorem Rel.giveD {ss:List S} (r:Rel K (U++ss.map some) (σ++vs.map some) F G H) (h:U.length=σ.length):∃ F',Same F F'/\Reps K F' vs (ss.map S.toD)/\Rel K U σ F' G H:=by
 classical
 obtain ⟨fp,e,nd,ap⟩:=r.en
 obtain ⟨f1,f2,rfl,a,b⟩:=e.cut h
 obtain ⟨n1,n2,n3⟩:=nodup_append.mp nd
 have sm:Same F (fun x=>if x∈f2 then H x else F x):=fun x o w=>by
  grind
 have rp:=(envReps b).frz sm fun x hx=>by simp only [hx,if_true]
 rw [S.toDs_map] at rp
 refine ⟨_,sm,rp,fun x o w=>?_,fun x o w=>?_,f1,a.mono sm fun _ _=>rfl,n1,fun x hx=>?_⟩
 ·by_cases z:x∈f2
  ·simp only [z,if_true] at w; exact w
  ·simp only [z,if_false] at w; exact r.fr x o w
 ·have w2:=r.gr x o w
  grind
 grind
end
section
variable {X:Cx} {es:List Expr} {wa:WA} {pos:Pos}
inductive Many (X:Cx) (σ:St) (k:List R->Env->WQ->WX->Prop) (Q:VK) (vs:List V) (H:Hp):Prop
 | mk (F G:Hp) (U:Env) (rs:List R) (P:WQ) (PX:WX) (rel:Rel X.K (U++rs.map slotOf) (σ++vs.map some) F G H) (hl:U.length=σ.length) (rv:RVs σ vs rs) (hk:k rs U P PX) (hok:∀ r U' v F' H',P r U'->Same F F'->Rel X.K (U'++[slotOf r]) (σ++[some v]) F' G H'->RV σ v r->Q v H') (hx:XC X (·=σ) F G PX):Many X σ k Q vs H
theorem many (h:tW X (fun U Q E=>wa U (fun rs U1=>k rs U1 Q E) E) σ H Q):tWA X wa σ H fun vs H1=>Many X σ k Q vs H1:=by
 obtain ⟨F,G,U,P,PX,rel,hw,hok,hx⟩:=h
 exact ⟨F,G,U,_,PX,rel,hw,fun rs U1 vs F1 H1 hp1 s1 r1 h1 rv1=>⟨F1,G,U1,rs,P,PX,r1,h1,rv1,hp1,fun r U' v F' H' a b c d=>hok r U' v F' H' a (s1.trans b) c d,hx.grow s1⟩,hx⟩
theorem zaN (h:FA X es wa):FE X (.List es pos) (wLst wa):=fun pn xe hp=>by
 refine PE.imp (zjT (h pn xe hp)) fun σ H Q q=>?_
 refine (many (k:=fun rs U1 Q E=>need (if rs.length<=big then giveAll rs U1 else none) fun p=>Q (.v (.lst p.1)) p.2) q).mono fun vs H1 h1=>?_
 obtain ⟨F,G,U,rs,P,PX,rel,hl,rv,hk,hok,hx⟩:=h1
 obtain ⟨⟨ss,U1⟩,ep,hk⟩:=zae hk
 by_cases hz:rs.length<=big
 ·rw [if_pos hz] at ep
  obtain ⟨F1,s1,l1,l2,r1⟩:=zaZ (U':=[]) (σ':=[]) (by simpa using rel) hl rv ep
  refine ⟨by rw [rv.len,sizeLine_eq]; exact le_trans hz (by decide),fun p hp=>hok _ U1 (.ref p) F1 _ hk s1 (Rel.newL (by simpa using r1) (l1.trans hl) hp) trivial⟩
 ·rw [if_neg hz] at ep; cases ep
theorem za1 (h:FA X es wa):FE X (.Tuple es k pos) (wTup wa):=fun pn xe hp=>by
 refine PE.imp (ziK (h pn xe hp)) fun σ H Q q=>?_
 refine (many (k:=fun rs U1 Q E=>need (if rs.length<=big then giveAll rs U1 else none) fun p=>Q (.v (.sh (.tup (p.1.map S.toD)))) p.2) q).mono fun vs H1 h1=>?_
 obtain ⟨F,G,U,rs,P,PX,rel,hl,rv,hk,hok,hx⟩:=h1
 obtain ⟨⟨ss,U1⟩,ep,hk⟩:=zae hk
 by_cases hz:rs.length<=big
 ·rw [if_pos hz] at ep
  obtain ⟨F1,s1,l1,l2,r1⟩:=zaZ (U':=[]) (σ':=[]) (by simpa using rel) hl rv ep
  obtain ⟨F2,s2,rp,r2⟩:=Rel.giveD (U:=U1) (by simpa using r1) (l1.trans hl)
  refine ⟨by rw [rv.len,sizeLine_eq]; exact le_trans hz (by decide),fun p hp=>?_⟩
  have n2:=(r2.free hp).1
  exact hok _ U1 (.ref p) _ _ hk (s1.trans (s2.trans (Same.upd n2))) ((r2.newF hp).push (.tup zai (rp.mono (Same.upd n2)))) trivial
 ·rw [if_neg hz] at ep; cases ep
end
theorem KP.refl:KP ks σ σ:=fun _ _=>rfl
theorem KP.trans (a:KP ks σ σ1) (b:KP ks σ1 σ2):KP ks σ σ2:=fun i h=>(b i h).trans (a i h)
inductive tWS (X:Cx) (ks:List Nat) (w:WS) (D:L2.Ends) (σ:St) (H:Hp):Prop
 | mk (F G:Hp) (U:Env) (E:Ends) (rel:Rel X.K U σ F G H) (hw:w E U) (n:∀ U' σ' F' H',E.nx U'->KP ks σ σ'->Same F F'->Rel X.K U' σ' F' G H'->D.nx σ' H') (b:∀ U' σ' F' H',E.bk U'->KP ks σ σ'->Same F F'->Rel X.K U' σ' F' G H'->D.bk σ' H') (c:∀ U' σ' F' H',E.ct U'->KP ks σ σ'->Same F F'->Rel X.K U' σ' F' G H'->D.ct σ' H') (r:∀ r U' σ' v F' H',E.rt r U'->KP ks σ σ'->Same F F'->Rel X.K (U'++[slotOf r]) (σ'++[some v]) F' G H'->RV σ' v r->D.rt v H') (hx:XC X (KP ks σ) F G E.ex):tWS X ks w D σ H
def FS (X:Cx) (ks:List Nat) (st:Stmt) (w:WS):Prop:=∀ (pn:List (Addr×Obj)) (xe:Value->Shared->Prop),PassesOwn (model X.prog X.w) X.A X.env xe->PS (wp X pn xe) st (tWS (wp X pn xe) ks w)
def FSs (X:Cx) (ks:List Nat) (st:List Stmt) (w:WS):Prop:=∀ (pn:List (Addr×Obj)) (xe:Value->Shared->Prop),PassesOwn (model X.prog X.w) X.A X.env xe->PSs (wp X pn xe) st (tWS (wp X pn xe) ks w)
theorem PS.imp (h:PS X e t) (k:∀ D σ H,t' D σ H->t D σ H):PS X e t':=fun pins s σ H D I q=>h pins s σ H D I (k D σ H q)
theorem PSs.imp (h:PSs X e t) (k:∀ D σ H,t' D σ H->t D σ H):PSs X e t':=fun pins s σ H D I q=>h pins s σ H D I (k D σ H q)
inductive tWG (X:Cx) (ks:List Nat) (g:WG) (v:V) (σ:St) (H:Hp) (Q:St->Hp->Prop):Prop
 | mk (F G:Hp) (U:Env) (s:S) (P:Env->Prop) (rel:Rel X.K (U++[some s]) (σ++[some v]) F G H) (hw:g s U P) (n:∀ U' σ' F' H',P U'->KP ks σ σ'->Same F F'->Rel X.K U' σ' F' G H'->Q σ' H'):tWG X ks g v σ H Q
def FG (X:Cx) (ks:List Nat) (tg:Expr) (g:WG):Prop:=∀ (pn:List (Addr×Obj)) (xe:Value->Shared->Prop),PassesOwn (model X.prog X.w) X.A X.env xe->PG (wp X pn xe) tg (tWG (wp X pn xe) ks g)
theorem PG.imp (h:PG X e t) (k:∀ v σ H Q,t' v σ H Q->t v σ H Q):PG X e t':=fun pins s σ H v u Q I r q=>h pins s σ H v u Q I r (k v σ H Q q)
section
variable {X:Cx} {ks:List Nat} {st:Stmt} {rest:List Stmt} {w1 w2:WS} {e:Expr} {we:WE} {pos:Pos}
theorem zaL:FSs X ks [] wPass:=fun pn xe hp=>PSs.imp zhR fun D σ H q=>by
 obtain ⟨F,G,U,E,rel,hw,n,b,c,r,x⟩:=q
 exact n U σ F H hw KP.refl (Same.refl F) rel
theorem zab (h1:FS X ks st w1) (h2:FSs X ks rest w2):FSs X ks (st::rest) (wSeq w1 w2):=fun pn xe hp=>PSs.imp (zgC (h1 pn xe hp) (h2 pn xe hp)) fun D σ H q=>by
 obtain ⟨F,G,U,E,rel,hw,n,b,c,r,x⟩:=q
 refine ⟨F,G,U,{ E with nx:=w2 E },rel,hw,fun U1 σ1 F1 H1 hp k s1 r1=>?_,b,c,r,x⟩
 exact ⟨F1,G,U1,E,r1,hp,fun U' σ' F' H' h k' s r=>n U' σ' F' H' h (k.trans k') (s1.trans s) r,fun U' σ' F' H' h k' s r=>b U' σ' F' H' h (k.trans k') (s1.trans s) r,
  fun U' σ' F' H' h k' s r=>c U' σ' F' H' h (k.trans k') (s1.trans s) r,fun a U' σ' v F' H' h k' s q rv=>r a U' σ' v F' H' h (k.trans k') (s1.trans s) q rv,x.mono (fun σ2 k'=>k.trans k') s1 (Same.refl G)⟩
theorem zag (h1:FS X ks st w1):FSs X ks [st] w1:=fun pn xe hp=>zhE (h1 pn xe hp)
theorem zaV (h:FE X e we) (hs:swapsWith e none pos.line X.env=pure false:=by rfl):FS X ks (.Expr e pos) (wExpr we):=fun pn xe hp=>PS.imp (zhL (h pn xe hp) hs) fun D σ H q=>by
 obtain ⟨F,G,U,E,rel,hw,n,b,c,r,x⟩:=q
 exact ⟨F,G,U,_,_,rel,hw,fun a U1 v F1 H1 hp s1 r1 rv=>n U1 σ F1 H1 hp KP.refl s1 (r1.drop (len1 r1)),x.mono (fun σ2 z=>by rw [z]; exact KP.refl) (Same.refl F) (Same.refl G)⟩
theorem zaD (h:FE X e we):FS X ks (.Return (some e) pos) (wRet we):=fun pn xe hp=>PS.imp (zjK (h pn xe hp)) fun D σ H q=>by
 obtain ⟨F,G,U,E,rel,hw,n,b,c,r,x⟩:=q
 exact ⟨F,G,U,_,_,rel,hw,fun a U1 v F1 H1 hp s1 r1 rv=>r a U1 σ v F1 H1 hp KP.refl s1 r1 rv,x.mono (fun σ2 z=>by rw [z]; exact KP.refl) (Same.refl F) (Same.refl G)⟩
theorem zbZ (hc:FT X c tc) (ha:FSs X ks a w1) (hb:FSs X ks b w2):FS X ks (.If c a b pos) (wIf tc w1 w2):=fun pn xe hp=>PS.imp (zmK (hc pn xe hp) (ha pn xe hp) (hb pn xe hp)) fun D σ H q=>by
 obtain ⟨F,G,U,E,rel,hw,n,b,c,r,x⟩:=q
 refine ⟨F,G,U,_,_,rel,hw,fun k U1 F1 H1 hp s1 r1=>?_,x.mono (fun σ2 z=>by rw [z]; exact KP.refl) (Same.refl F) (Same.refl G)⟩
 have go:∀ w:WS,w E U1->tWS (wp X pn xe) ks w D σ H1:=fun w hw=>⟨F1,G,U1,E,r1,hw,fun U' σ' F' H' h k' s r=>n U' σ' F' H' h k' (s1.trans s) r,fun U' σ' F' H' h k' s r=>b U' σ' F' H' h k' (s1.trans s) r,
  fun U' σ' F' H' h k' s r=>c U' σ' F' H' h k' (s1.trans s) r,fun a U' σ' v F' H' h k' s q rv=>r a U' σ' v F' H' h k' (s1.trans s) q rv,x.grow s1⟩
 cases k with
 | true=>exact go _ hp
 | false=>exact go _ hp
theorem zak (he:FE X e we) (hg:FG X ks tg g) (hs:swapsWithSole [tg] e pos.line X.env=pure false:=by rfl) (hw:swappedStores [tg] e X.env=pure none:=by rfl)
  (h1:(assignEach [tg] X.env).map (·.2)=[assign tg X.env]:=by rfl):FS X ks (.Assign [tg] e pos) (wAsg g we):=fun pn xe hp=>PS.imp (zhg (he pn xe hp) (hg pn xe hp) hs hw h1) fun D σ H q=>by
 obtain ⟨F,G,U,E,rel,hw,n,b,c,r,x⟩:=q
 refine ⟨F,G,U,_,_,rel,hw,fun a U1 v F1 H1 hp s1 r1 rv=>?_,x.mono (fun σ2 z=>by rw [z]; exact KP.refl) (Same.refl F) (Same.refl G)⟩
 obtain ⟨⟨s,U2⟩,eg,hk⟩:=zae hp
 obtain ⟨F2,s2,l2,r2⟩:=giveR (U':=[]) (σ':=[]) r1 (len1 r1) rv eg
 exact ⟨F2,G,U2,s,_,r2,hk,fun U' σ' F' H' h k' s r=>n U' σ' F' H' h k' (s1.trans (s2.trans s)) r⟩
end
theorem zeV (I:Inv X pins σ H s) (hN:∀ j,X.N[j]?=some x->j=i) (hi:X.N[i]?=some x) (hx:Loc X.env.scope x) (r:RelV v u)
  (h:∀ s',Inv X pins (σ.set i (some v)) H s'->(∃ a,Heap.SameBut a s.heap s'.heap/\(a=X.env.locals\/X.env.cells.lookup x=some a))->Q () s') (hf:X.fn x=true\/X.env.scope.names.lookup x=some .local):wpAny M A (storeName X.env x u) Q E s:=by
 obtain ⟨m,hn,hl⟩:=id I.loc
 have hcls:(X.env.scope.kind == .class || (X.env.scope.kind == .module && X.env.locals !=X.env.globals))=false:=by rw [I.ok.kind]; rfl
 have hiσ:i < σ.length:=by rw [I.len]; exact (qh.mp hi).1
 have cne:=I.cne
 have tracked:∀ {a:Addr} {h':Heap},(∃ o,s.heap.get? a=some o/\H a=none)->Heap.SameBut a s.heap h'->HOk X.prog X.w H h':=fun {a h'} ha hs b ob e=>by
  obtain ⟨_,_,hfree⟩:=ha
  refine (I.hok b ob e).stay (fun c w' hc q=>(hs.2 c ?_).trans q) (fun _ q=>q) fun _ _ q=>q
  rintro rfl
  rcases hc with rfl | hc
  ·rw [hfree] at e; cases e
  ·rw [hfree] at hc; cases hc
 rcases hx with hk | hk
 ·refine wpAny_storeName_local hk hn (fun h' hn' hs=>?_) hcls
  obtain ⟨oL,_,_,hoL,_⟩:=id hn
  refine h _ ⟨I.ok,I.os,I.bare,⟨fun b o e n hb hx=>?_,fun b o e n hb hx=>?_,I.base.free,fun b o e hx=>?_,I.base.tups,I.base.frzs,I.base.tbls⟩,⟨_,hn',fun j y v' e1 e2 e3=>?_⟩,fun y c e=>?_,I.free,I.freeC,fun p hp=>?_,tracked ⟨oL,hoL,I.free⟩ hs,by simpa using I.len⟩ ⟨_,hs,.inl rfl⟩
  ·exact (hs.2 b (ne_of_lt (lt_of_lt_of_le (qe e) I.ok.above))).trans (I.base.keep b o e n hb hx)
  ·obtain ⟨sl,e1⟩:=I.base.slot b o e n hb hx
   exact ⟨sl,(hs.2 b (ne_of_lt (lt_of_lt_of_le (qe e) I.ok.above))).trans e1⟩
  ·obtain ⟨o',e1⟩:=I.base.there b o e hx
   exact ⟨o',(hs.2 b (ne_of_lt (lt_of_lt_of_le (qe e) I.ok.above))).trans e1⟩
  ·by_cases hj:j=i
   ·subst hj
    rw [hi] at e1; cases e1
    rw [getElem?_set_self hiσ] at e2
    cases e2
    exact ⟨u,r,.inl ⟨hk,by simp⟩⟩
   ·rw [getElem?_set_ne (Ne.symm hj)] at e2
    obtain ⟨u',r',q⟩:=hl j y v' e1 e2 e3
    refine ⟨u',r',?_⟩
    rcases q with ⟨k,e⟩ | ⟨k,c,e,z⟩
    ·refine .inl ⟨k,?_⟩
     have:y≠x:=fun e=>hj (hN j (e ▸ e1))
     simp [this,e]
    ·exact .inr ⟨k,c,e,z.sameBut hs (cne y c e)⟩
  ·obtain ⟨w',z⟩:=I.cell y c e
   exact ⟨w',z.sameBut hs (cne y c e)⟩
  ·obtain ⟨e,n,ne,nf,d⟩:=I.pin p hp
   exact ⟨(hs.2 p.1 ne).trans e,n,ne,nf,d⟩
 ·have hfn:X.fn x=true:=by
   rcases hf with z | z
   ·exact z
   ·rw [z] at hk; cases hk
  obtain ⟨c,hc⟩:=I.ok.has x (.inl hk)
  obtain ⟨w',z⟩:=I.cell x c hc
  refine wpAny_storeName_cell I.ok.kind hk hc z (fun h' hc' hs=>?_)
  obtain ⟨oc,hoc,hocd⟩:=id z
  refine h { s with heap:=h' } ⟨I.ok,I.os,I.bare,⟨fun b o e n hb hx=>?_,fun b o e n hb hx=>?_,I.base.free,fun b o e hx=>?_,I.base.tups,I.base.frzs,I.base.tbls⟩,⟨m,hn.sameBut hs (Ne.symm (cne x c hc)),fun j y v' e1 e2 e3=>?_⟩,fun y c' e=>?_,I.free,I.freeC,fun p hp=>?_,tracked ⟨oc,hoc,I.freeC x c hc⟩ hs,by simpa using I.len⟩ ⟨c,hs,.inr hc⟩
  ·exact (hs.2 b (ne_of_lt (lt_of_lt_of_le (qe e) (I.ok.cab x c hfn hc)))).trans (I.base.keep b o e n hb hx)
  ·obtain ⟨sl,e1⟩:=I.base.slot b o e n hb hx
   exact ⟨sl,(hs.2 b (ne_of_lt (lt_of_lt_of_le (qe e) (I.ok.cab x c hfn hc)))).trans e1⟩
  ·obtain ⟨o',e1⟩:=I.base.there b o e hx
   exact ⟨o',(hs.2 b (ne_of_lt (lt_of_lt_of_le (qe e) (I.ok.cab x c hfn hc)))).trans e1⟩
  ·by_cases hj:j=i
   ·subst hj
    rw [hi] at e1; cases e1
    rw [getElem?_set_self hiσ] at e2
    cases e2
    exact ⟨u,r,.inr ⟨.inl hk,c,hc,hc'⟩⟩
   ·rw [getElem?_set_ne (Ne.symm hj)] at e2
    obtain ⟨u',r',q⟩:=hl j y v' e1 e2 e3
    refine ⟨u',r',?_⟩
    rcases q with q | ⟨k,c',e,z'⟩
    ·exact .inl q
    ·refine .inr ⟨k,c',e,z'.sameBut hs ?_⟩
     rintro rfl
     exact hj (hN j (I.ok.inj _ _ _ e hc ▸ e1))
  ·by_cases hcc:c'=c
   ·subst hcc; exact ⟨_,hc'⟩
   ·obtain ⟨w2,z2⟩:=I.cell y c' e
    exact ⟨w2,z2.sameBut hs hcc⟩
  ·obtain ⟨e,n,ne,nf,d⟩:=I.pin p hp
   refine ⟨(hs.2 p.1 ?_).trans e,n,ne,nf,d⟩
   intro q
   rw [q,hoc] at e
   have q':oc=p.2:=qg e
   exact d w' (by rw [<- q']; exact hocd)
section
variable {X:Cx} {ks:List Nat} {pos:Pos}
theorem KP.set (h:i∉ks):KP ks σ (σ.set i u):=fun j hj=>getElem?_set_ne (fun (z:i=j)=>h (z ▸ hj))
theorem zeR (hk:i∉ks) (hN:∀ j,X.N[j]?=some x->j=i) (hi:X.N[i]?=some x) (hx:Loc X.env.scope x) (hf:X.fn x=true\/X.env.scope.names.lookup x=some .local):FG X ks (.Name x pos) (gName i):=by
 intro pn xe hp pins s σ H v u Q I rv q
 obtain ⟨F,G,U,t,P,rel,hw,n⟩:=q
 have hl:=len1 rel
 have hiU:i < U.length:=by rw [hl,I.len]; exact (qh.mp hi).1
 exact wpAny_assign_Name (zeV (X:=wp X pn xe) I hN hi hx rv (fun s' I' _=>⟨_,H,I',n _ _ F H hw (KP.set hk) (Same.refl F) (rel.store hl hiU)⟩) hf)
inductive tWGs (X:Cx) (ks:List Nat) (gs:List WG) (vs:List V) (σ:St) (H:Hp) (Q:St->Hp->Prop):Prop
 | mk (F G:Hp) (U:Env) (ds:List D) (P:Env->Prop) (rel:Rel X.K U σ F G H) (rp:Reps X.K F vs ds) (hw:gTups gs ds U P) (n:∀ U' σ' F' H',P U'->KP ks σ σ'->Same F F'->Rel X.K U' σ' F' G H'->Q σ' H'):tWGs X ks gs vs σ H Q
def FGs (X:Cx) (ks:List Nat) (tg:List Expr) (g:List WG):Prop:=∀ (pn:List (Addr×Obj)) (xe:Value->Shared->Prop),PassesOwn (model X.prog X.w) X.A X.env xe->PGs (wp X pn xe) tg (tWGs (wp X pn xe) ks g)
theorem zbk:FGs X ks [] []:=fun pn xe hp pins s σ H vs us Q I r q=>by
 obtain ⟨F,G,U,ds,P,rel,rp,hw,n⟩:=q
 refine zhj pins s σ H vs us Q I r ?_
 cases rp with
 | nil=>exact ⟨rfl,n U σ F H hw KP.refl (Same.refl F) rel⟩
 | cons a b=>exact hw.elim
theorem zal (h1:FG X ks e g) (h2:FGs X ks es gs)
  (hs:(assignEach (e::es) X.env).map (·.2)=assign e X.env::(assignEach es X.env).map (·.2):=by rfl):FGs X ks (e::es) (g::gs):=fun pn xe hp pins s σ H vs us Q I r q=>by
 obtain ⟨F,G,U,ds,P,rel,rp,hw,n⟩:=q
 refine zgm (X:=wp X pn xe) (h1 pn xe hp) (h2 pn xe hp) hs pins s σ H vs us Q I r ?_
 cases rp with
 | nil=>exact hw.elim
 | cons a b=>
   refine ⟨_,_,rfl,F,G,U,_,_,rel.push a,hw,fun U1 σ1 F1 H1 hp k s1 r1=>⟨F1,G,U1,_,P,r1,b.mono s1,hp,fun U' σ' F' H' h k' s r=>n U' σ' F' H' h (k.trans k') (s1.trans s) r⟩⟩
theorem Reps.len {K:W.Frag} (r:Reps K F xs ds):xs.length=ds.length:=Reps.ind (P:=fun xs ds=>xs.length=ds.length) rfl (fun _ _ ih=>congrArg (· + 1) ih) r
theorem zb8 (hc:X.calm=true) (h:FGs X ks es gs) (hn:(assignEach es X.env).length=gs.length:=by rfl) (hst:(assignEach es X.env).findIdx? (·.1)=none:=by rfl):FG X ks (.Tuple es k pos) (gTup gs):=fun pn xe hp=>by
 refine PG.imp (zjX (X:=wp X pn xe) hc (h pn xe hp) hn hst) fun v σ H Q q=>?_
 obtain ⟨F,G,U,s,P,rel,hw,n⟩:=q
 obtain ⟨F1,s1,rp,r1⟩:=Rel.giveD (U:=U) (vs:=[v]) (ss:=[s]) rel (len1 rel)
 cases rp with
 | cons a b=>
   have hw':(match s.toD with | .tup ds=>ds.length=gs.length/\gTups gs ds U P | _=>False):=hw
   generalize s.toD=d at a hw'
   cases a with
   | tup e r=>exact ⟨_,_,rfl,SqT.of (r1.fr _ _ e),by rw [r.len]; exact hw'.1,F1,G,U,_,P,r1,r,hw'.2,fun U' σ' F' H' h k' s r=>n U' σ' F' H' h k' (s1.trans s) r⟩
   | _=>exact hw'.elim
end
def ItOk (K:W.Frag) (J:It) (l:List D) (F0:Hp):Prop:=∀ (i:Nat) (U:Env) (σ:St) (F G H:Hp),Same F0 F->Rel K U σ F G H->
 (∀ d,l[i]?=some d->J.go i H/\∀ x H',J.yld i H x H'->∃ F',Same F F'/\Rel K U σ F' G H'/\Rep K F' x d)/\(l.length<=i->J.stop i H)
inductive tWI (X:Cx) (wi:WI) (σ:St) (H:Hp) (R:It->Hp->Prop):Prop
 | mk (F G:Hp) (U:Env) (P:List D->Env->Prop) (PX:WX) (rel:Rel X.K U σ F G H) (hw:wi U P PX) (hok:∀ l U' F' H' J,P l U'->Same F F'->Rel X.K U' σ F' G H'->ItOk X.K J l F'->R J H') (hx:XC X (·=σ) F G PX):tWI X wi σ H R
def FI (X:Cx) (tg iter:Expr) (wi:WI):Prop:=∀ (pn:List (Addr×Obj)) (xe:Value->Shared->Prop),PassesOwn (model X.prog X.w) X.A X.env xe->PI (wp X pn xe) tg iter (tWI (wp X pn xe) wi)
theorem PI.imp (h:PI X tg e t) (k:∀ σ H R,t' σ H R->t σ H R):PI X tg e t':=fun pins s σ H R I q=>h pins s σ H R I (k σ H R q)
theorem Reps.get {K:W.Frag} {i:Nat} (r:Reps K F xs ds) (h:ds[i]?=some d):∃ x,xs[i]?=some x/\Rep K F x d:=
 Reps.ind (P:=fun xs ds=>∀ i d,ds[i]?=some d->∃ x,xs[i]?=some x/\Rep K F x d) (fun _ _ e=>by cases e) (fun a _ ih i d e=>by
  cases i with
  | zero=>cases e; exact ⟨_,rfl,a⟩
  | succ i=>exact ih i d e) r i d h
section
variable {X:Cx} {tg e:Expr} {we:WE} {pos:Pos} {K:W.Frag}
theorem zfu (e:SqL K F0 a xs) (r:Reps K F0 xs l):ItOk K (Itl K a) l F0:=fun i U σ F G H sm rel=>by
 have e':SqL K H a xs:=SqL.mono (sm.trans rel.fr) e
 refine ⟨fun d hd=>?_,fun h=>⟨xs,e',by rw [r.len]; exact h⟩⟩
 obtain ⟨x,hx,rx⟩:=r.get hd
 refine ⟨⟨xs,x,e',hx⟩,fun y H' hy=>?_⟩
 obtain ⟨rfl,hy⟩:=hy
 have:x=y:=qg (hx.symm.trans (hy xs e'))
 subst this
 exact ⟨F,Same.refl F,rel,rx.mono sm⟩
theorem zgc (e:SqT K F0 a xs) (r:Reps K F0 xs l):ItOk K (Itt K a) l F0:=fun i U σ F G H sm rel=>by
 have e':SqT K H a xs:=SqT.mono (sm.trans rel.fr) e
 refine ⟨fun d hd=>?_,fun h=>⟨xs,e',by rw [r.len]; exact h⟩⟩
 obtain ⟨x,hx,rx⟩:=r.get hd
 refine ⟨⟨xs,x,e',hx⟩,fun y H' hy=>?_⟩
 obtain ⟨rfl,hy⟩:=hy
 have:x=y:=qg (hx.symm.trans (hy xs e'))
 subst this
 exact ⟨F,Same.refl F,rel,rx.mono sm⟩
theorem zen {lo:Int} (h:(fromTo lo n)[i]?=some d):i < n/\d=.int (lo + i):=by
 unfold fromTo at h
 rw [getElem?_map] at h
 by_cases hi:i < n
 ·rw [List.getElem?_range hi] at h
  exact ⟨hi,(qg h).symm⟩
 ·rw [getElem?_eq_none (by simpa using hi)] at h; cases h
theorem zef {lo:Int}:ItOk K (Itr lo n) (fromTo lo n) F0:=fun i U σ F G H sm rel=>by
 refine ⟨fun d hd=>?_,fun h=>?_⟩
 ·obtain ⟨hi,rfl⟩:=zen hd
  refine ⟨hi,fun x H' hy=>?_⟩
  obtain ⟨rfl,rfl⟩:=hy
  exact ⟨F,Same.refl F,rel,.int _⟩
 ·have:n<=i:=by simpa [fromTo] using h
  exact this
end
def Its (x:Str):It:=⟨fun i _=>i < x.cps.size,fun i H v H'=>H'=H/\∃ c,x.cps[i]?=some c/\v=.str ⟨#[c]⟩,fun i _=>x.cps.size<=i⟩
theorem zf3 {P:Program} {w:World} {K:W.Frag} {tg:Expr} (it:Addr) (x:Str) (t:Tok) (ty:String) (hty:ty="str_ascii_iterator"\/ty="str_iterator"):Turn P w K tg (Its x) [it] it (fun i h=>h.IsStrIter it ty x t i) where
 mem:=by simp
 obj:=fun i h st b hb=>by
  have e:b=it:=by simpa using hb
  subst e
  obtain ⟨o,e,c,d⟩:=st
  exact ⟨o,e,fun v z=>by rw [d] at z; cases z⟩
 keep:=fun i h h' st k=>by
  obtain ⟨o,e,r⟩:=st
  exact ⟨o,k it (by simp) o e,r⟩
 item:=by
  intro X hP hw hK hc i pins s σ H E I hf st hg
  subst hP hw hK
  obtain ⟨f0,f1,f2,f3,f4,f5⟩:=hf it (by simp)
  have W:Walks X.prog X.w X.A it [it] [it] x.cps.size (SignAt x) (fun i h=>h.IsStrIter it ty x t i):=by
   rcases hty with rfl | rfl
   ·exact Walks.strAscii (I.ok.hd hc) it x t
   ·exact Walks.strWide (I.ok.hd hc) it x t
  refine W.item i s _ _ hg st fun v h' tk hv st' kk=>?_
  obtain ⟨c,u,e1,rfl⟩:=hv
  have I1:Inv X pins σ H { s with heap:=h',toks:=tk }:=I.turned (fun b o hb e=>kk b o (by simpa using hb) e) f0 f1 f3 f4 f5
  obtain ⟨o,e,cl,d⟩:=id st'
  exact ⟨_,rfl,zf9 (s:={ s with heap:=h',toks:=tk }) e cl d (by rcases hty with rfl | rfl <;> decide) ⟨.str ⟨#[c]⟩,H,I1,⟨u,rfl⟩,⟨rfl,c,e1,rfl⟩,st',fun b hb=>(hf b hb).1⟩⟩
 done:=by
  intro X hP hw hK hc i pins s σ H E I hf st hg
  subst hP hw hK
  obtain ⟨f0,f1,f2,f3,f4,f5⟩:=hf it (by simp)
  have hn:x.cps[i]?=none:=by
   have:x.cps.size<=i:=hg
   simp [this]
  rcases hty with rfl | rfl
  ·exact wpAny_pyNext_ascii_end (I.ok.hd hc) st hn fun h' eb=>⟨rfl,I.turned (t':=s.toks) (fun b o hb e=>eb b o hb e) f0 f1 f3 f4 f5⟩
  ·exact wpAny_pyNext_wide_end (I.ok.hd hc) st hn fun h' eb=>⟨rfl,I.turned (t':=s.toks) (fun b o hb e=>eb b o hb e) f0 f1 f3 f4 f5⟩
 self:=fun A i s Q E st h=>by
  rcases hty with rfl | rfl
  ·exact wpAny_pyIter_striter_ascii st h
  ·exact wpAny_pyIter_striter_wide st h
def iAny (K:W.Frag) (tl:TE):TI:=fun σ H R=>tl σ H fun v H1=>(∃ a,v=.ref a/\(∃ xs,SqL K H1 a xs)/\R (Itl K a) H1)\/(∃ a,v=.ref a/\(∃ xs,SqT K H1 a xs)/\R (Itt K a) H1)\/∃ x,v=.str x/\R (Its x) H1
theorem ziI (hl:PE X l tl):PI X tg l (iAny X.K tl):=by
 intro pins s σ H R I h
 refine thn (hl pins s σ H _ I h) fun v s1 zq=>?_
 obtain ⟨y,H1,I1,r1,q1⟩:=zq
 rcases q1 with ⟨a,e,⟨xs,hq⟩,q⟩ | ⟨a,e,⟨xs,hq⟩,q⟩ | ⟨x,e,q⟩
 ·subst e
  cases r1
  obtain ⟨its,rv,p,hz⟩:=I1.list hq
  refine wpAny_pyIter_list p.isList ?_
  refine ⟨s1.heap.objs.size,[s1.heap.objs.size],_,_,H1,rfl,I1.kept (t':=s1.toks) fun b o e=>qc _ e,zeE a _,⟨_,qd _ rfl,rfl,rfl⟩,fun b hb=>?_,q⟩
  have e:b=s1.heap.objs.size:=by simpa using hb
  subst e
  exact I1.fpOk (le_refl _) (I1.hok.fresh (le_refl _))
 ·subst e
  cases r1
  obtain ⟨its,rv,p,hz⟩:=I1.tuple hq
  refine wpAny_pyIter_tuple (show s1.heap.IsTuple a its.toArray from p) ?_
  refine ⟨s1.heap.objs.size,[s1.heap.objs.size],_,_,H1,rfl,I1.kept (t':=s1.toks) fun b o e=>qc _ e,zea a _,⟨_,qd _ rfl,rfl,rfl⟩,fun b hb=>?_,q⟩
  have e:b=s1.heap.objs.size:=by simpa using hb
  subst e
  exact I1.fpOk (le_refl _) (I1.hok.fresh (le_refl _))
 ·subst e
  obtain ⟨t,rfl⟩:=r1
  have fin:∀ (ty:String) (o:Obj),(ty="str_ascii_iterator"\/ty="str_iterator")->o.cls=.type ty->o.data=.fields #[.str x t,.int 0 0]->o.isFreed=false->PIE X pins σ tg R (.ref s1.heap.objs.size) { s1 with heap:=s1.heap.push o }:=fun ty o hty hc hd hf=>by
   refine ⟨s1.heap.objs.size,[s1.heap.objs.size],_,_,H1,rfl,I1.kept (t':=s1.toks) fun b o e=>qc _ e,zf3 _ x t ty hty,⟨_,qd _ hf,hc,hd⟩,fun b hb=>?_,q⟩
   have e:b=s1.heap.objs.size:=by simpa using hb
   subst e
   exact I1.fpOk (le_refl _) (I1.hok.fresh (le_refl _))
  cases ha:x.cps.all (· < 128)
  ·exact wpAny_pyIter_wide ha (fin "str_iterator" _ (.inr rfl) rfl rfl rfl)
  ·exact wpAny_pyIter_ascii ha (fin "str_ascii_iterator" _ (.inl rfl) rfl rfl rfl)
section
variable {X:Cx} {tg e:Expr} {we:WE} {pos:Pos} {K:W.Frag}
theorem zgV (e:x.cps.toList=l):ItOk K (Its x) (l.map fun c=>.str [c]) F0:=fun i U σ F G H sm rel=>by
 have hs:x.cps.size=l.length:=by rw [<- e]; simp
 refine ⟨fun d hd=>?_,fun h=>by show x.cps.size<=i; rw [hs]; simpa using h⟩
 rw [getElem?_map] at hd
 cases q:l[i]? with
 | none=>rw [q] at hd; cases hd
 | some c=>
   rw [q] at hd
   have hd':D.str [c]=d:=qg hd
   have hi:i < l.length:=(qh.mp q).1
   have hx:x.cps[i]?=some c:=by rw [<- getElem?_toList,e]; exact q
   refine ⟨by show i < x.cps.size; rw [hs]; exact hi,fun y H' hy=>?_⟩
   obtain ⟨rfl,c',e1,rfl⟩:=hy
   rw [hx] at e1
   have:c=c':=qg e1
   subst this
   rw [<- hd']
   exact ⟨F,Same.refl F,rel,.str rfl (by show 1<=_; decide)⟩
theorem zbw (h:FE X e we):FI X tg e (wIter we):=fun pn xe hp=>by
 refine PI.imp (ziI (h pn xe hp)) fun σ H R q=>?_
 obtain ⟨F,G,U,P,PX,rel,hw,hok,hx⟩:=q
 refine ⟨F,G,U,_,PX,rel,hw,fun r U1 v F1 H1 hk s1 r1 rv=>?_,hx⟩
 obtain ⟨⟨s,U2⟩,eg,hk⟩:=zae hk
 obtain ⟨l,el,hk⟩:=zae hk
 obtain ⟨F2,s2,l2,r2⟩:=giveR (U':=[]) (σ':=[]) r1 (len1 r1) rv eg
 obtain ⟨F3,s3,rp,r3⟩:=Rel.giveD (U:=U2) (vs:=[v]) (ss:=[s]) r2 (len1 r2)
 have sm:=s1.trans (s2.trans s3)
 cases rp with
 | cons a b=>
   have el':items s.toD=some l:=el
   generalize s.toD=d at a el'
   cases a with
   | lst e r=>
     have:l=_:=(qg el').symm
     subst this
     exact .inl ⟨_,rfl,⟨_,SqL.mono r3.fr e⟩,hok _ U2 F3 H1 _ hk sm r3 (zfu e r)⟩
   | tup e r=>
     have:l=_:=(qg el').symm
     subst this
     exact .inr (.inl ⟨_,rfl,⟨_,SqT.of (r3.fr _ _ e)⟩,hok _ U2 F3 H1 _ hk sm r3 (zgc (SqT.of e) r)⟩)
   | str e z=>
     have:l=_:=(qg el').symm
     subst this
     exact .inr (.inr ⟨_,rfl,hok _ U2 F3 H1 _ hk sm r3 (zgV e)⟩)
   | _=>cases el'
theorem zaH (hg:Gl X "range") (hm:X.mg "range"=none) (ha:FE X a we) (hs:starEach [a] X.env=[(false,eval a X.env)]:=by rfl):FI X tg (.Call (.Name "range" p) [a] [] pos) (wRange1 we):=fun pn xe hp=>by
 refine PI.imp (zfd (X:=wp X pn xe) hg hm (zaa ha zac hs pn xe hp) hs) fun σ H R q=>?_
 obtain ⟨F,G,U,P,PX,rel,hw,hok,hx⟩:=q
 refine ⟨F,G,U,fun rs U1=>match rs with | [r]=>(match view r U1 with | some (.int j)=>(-big<=j/\j<=big)/\P (fromTo 0 j.toNat) U1 | _=>False) | _=>False,PX,rel,hw,fun rs U1 vs F1 H1 hk s1 r1 hl rv=>?_,hx⟩
 match rs,vs,rv,r1,hk with
 | [r],[v],rv,r1,hk=>
   dsimp only at hk
   split at hk
   ·rename_i j ej
    have rp:=look (U':=[]) (σ':=[]) r1 hl rv.1 ej
    cases rp
    obtain ⟨⟨h1,h2⟩,hk⟩:=hk
    have eb:(big:Int)=1000000:=rfl
    rw [eb] at h1 h2
    exact ⟨j,rfl,by lia,by lia,hok _ U1 F1 H1 _ hk s1 ((show Rel X.K (U1++[slotOf r]) (σ++[some (.int j)]) F1 G H1 from r1).drop hl) zef⟩
   ·exact hk.elim
 | [],_,_,_,hk=>exact hk.elim
 | [_],[],rv,_,_=>exact rv.elim
 | [_],_::_::_,rv,_,_=>exact rv.2.elim
 | _::_::_,_,_,_,hk=>exact hk.elim
end
section
variable {X:Cx} {ks:List Nat} {tg iter:Expr} {body:List Stmt} {wi:WI} {g:WG} {wb:WS} {pos:Pos}
theorem zbx (hc:X.calm=true) (hi:FI X tg iter wi) (hg:FG X ks tg g) (hb:FSs X ks body wb) (hs:∀ x,foldedSetIterable iter X.env x=pure x:=by intro _; rfl):FS X ks (.For tg iter body [] pos) (wFor wi g wb):=fun pn xe hp=>by
 refine PS.imp (ziY (X:=wp X pn xe) hp hc (hi pn xe hp) (hg pn xe hp) (hb pn xe hp) hs) fun D σ H q=>?_
 obtain ⟨F,G,U,E,rel,hw,n,b,c,r,x⟩:=q
 refine ⟨F,G,U,_,_,rel,hw,fun l U1 F1 H1 J hk s1 r1 it=>?_,x.mono (fun σ2 z=>by rw [z]; exact KP.refl) (Same.refl F) (Same.refl G)⟩
 refine ⟨fun i m σ2 H2=>m=l.length - i/\i<=l.length/\∃ F2 U2,KP ks σ σ2/\Same F1 F2/\Rel X.K U2 σ2 F2 G H2/\wLoop g wb (l.drop i) E U2,⟨l.length,by simp,zero_le _,F1,U1,KP.refl,Same.refl F1,r1,by simpa using hk⟩,?_⟩
 rintro i m σ2 H2 ⟨rfl,hi,F2,U2,kp,s2,r2,hw2⟩
 obtain ⟨it1,it2⟩:=it i U2 σ2 F2 G H2 s2 r2
 by_cases hlt:i < l.length
 ·obtain ⟨go,yld⟩:=it1 l[i] (by simp [hlt])
  refine .inr ⟨go,fun σ3 H3=>i + 1<=l.length/\∃ F3 U3,KP ks σ σ3/\Same F1 F3/\Rel X.K U3 σ3 F3 G H3/\wLoop g wb (l.drop (i + 1)) E U3,fun σ3 H3 h=>⟨l.length - (i + 1),by lia,rfl,h⟩,fun y H3 hy=>?_⟩
  obtain ⟨F3,s3,r3,rp⟩:=yld y H3 hy
  rw [List.drop_eq_getElem_cons hlt] at hw2
  refine ⟨F3,G,U2,_,_,r3.push rp,hw2,fun U4 σ4 F4 H4 hp4 k4 s4 r4=>?_⟩
  have kp4:=kp.trans k4
  have sm4:=s1.trans (s2.trans (s3.trans s4))
  exact ⟨F4,G,U4,_,r4,hp4,fun U' σ' F' H' h k' s r=>⟨hlt,F',U',kp4.trans k',s2.trans (s3.trans (s4.trans s)),r,h⟩,fun U' σ' F' H' h k' s r=>n U' σ' F' H' h (kp4.trans k') (sm4.trans s) r,
   fun U' σ' F' H' h k' s r=>⟨hlt,F',U',kp4.trans k',s2.trans (s3.trans (s4.trans s)),r,h⟩,fun a U' σ' v F' H' h k' s q rv=>r a U' σ' v F' H' h (kp4.trans k') (sm4.trans s) q rv,x.mono (fun σ5 k'=>kp4.trans k') sm4 (Same.refl G)⟩
 ·have e:i=l.length:=Nat.le_antisymm hi (not_lt.mp hlt)
  subst e
  rw [List.drop_length] at hw2
  exact .inl ⟨it2 (le_refl _),n U2 σ2 F2 H2 hw2 kp (s1.trans s2) r2⟩
theorem zdI (hc:FT X c wc) (hb:FSs X ks body wb):FS X ks (.While c body [] pos) (wWhile wc wb):=fun pn xe hp=>by
 refine PS.imp (zfY (X:=wp X pn xe) hp (hc pn xe hp) (hb pn xe hp)) fun D σ H q=>?_
 obtain ⟨F,G,U,E,rel,⟨J,⟨m0,j0⟩,step⟩,n,b,c,r,x⟩:=q
 refine ⟨fun m σ2 H2=>∃ F2 U2,KP ks σ σ2/\Same F F2/\Rel X.K U2 σ2 F2 G H2/\J m U2,⟨m0,F,U,KP.refl,Same.refl F,rel,j0⟩,?_⟩
 rintro m σ2 H2 ⟨F2,U2,kp,s2,r2,j2⟩
 refine ⟨F2,G,U2,_,_,r2,step m U2 j2,fun k U3 F3 H3 hk s3 r3=>?_,x.mono (fun σ5 z=>by rw [z]; exact kp) s2 (Same.refl G)⟩
 have sm3:=s2.trans s3
 cases k with
 | true=>
   dsimp only
   rw [if_pos rfl]
   refine ⟨fun σ4 H4=>∃ m',m' < m/\∃ F2 U2,KP ks σ σ4/\Same F F2/\Rel X.K U2 σ4 F2 G H4/\J m' U2,fun σ4 H4 h=>h,?_⟩
   exact ⟨F3,G,U3,_,r3,hk,fun U' σ' F' H' ⟨m',hm,h⟩ k' s r=>⟨m',hm,F',U',kp.trans k',sm3.trans s,r,h⟩,fun U' σ' F' H' h k' s r=>n U' σ' F' H' h (kp.trans k') (sm3.trans s) r,
    fun U' σ' F' H' ⟨m',hm,h⟩ k' s r=>⟨m',hm,F',U',kp.trans k',sm3.trans s,r,h⟩,fun a U' σ' v F' H' h k' s q rv=>r a U' σ' v F' H' h (kp.trans k') (sm3.trans s) q rv,x.mono (fun σ5 k'=>kp.trans k') sm3 (Same.refl G)⟩
 | false=>
   dsimp only
   rw [if_neg Bool.false_ne_true]
   exact n U3 σ2 F3 H3 hk kp sm3 r3
end
inductive spW (K:W.Frag) (f:WF) (n:Nat) (vs:List V) (H:Hp) (Q:VK) (Z:XK):Prop
 | mk (F G:Hp) (ss:List S) (P:S->List S->Prop) (PX:D->List S->Prop) (hn:vs.length=n) (rel:Rel K (ss.map some) (vs.map some) F G H) (hw:f ss P PX) (hok:∀ s ss' v F' H',P s ss'->Same F F'->ss'.length=ss.length->Rel K (ss'.map some++[some s]) (vs.map some++[some v]) F' G H'->Q v H') (hex:∀ d ss' F' H' C dx,PX d ss'->Same F F'->ss'.length=ss.length->Rel K (ss'.map some) (vs.map some) F' G H'->clsD K F' d C dx->Z (.ref C) dx H'):spW K f n vs H Q Z
section
variable {K:W.Frag} {F F' H H' G G':Hp} {σ σ':St} {v u:V}
theorem Rel.comm (h:U.length=σ.length) (r:Rel K (U++U') (σ++σ') F G H):Rel K (U'++U) (σ'++σ) F G H:=by
 have:=Rel.swap (U:=[]) (σ:=[]) (U1:=U) (σ1:=σ) (U2:=U') (σ2:=σ') rfl h (by simpa using r)
 simpa using this
theorem Rel.lend (r:Rel K (U++(none::U')) (σ++(some v::σ')) F G H) (h:U.length=σ.length) (hs:slot U i=some s) (hv:σ[i]?=some (some v)):
  Rel K (U.set i none++(some s::U')) (σ++(some v::σ')) F G H:=by
 obtain ⟨fp,e,nd,ap⟩:=r.en
 obtain ⟨f1,f2,rfl,a,b⟩:=e.cut h
 obtain ⟨v',fa,fi,fb,e1,rfl,q,up⟩:=a.at hs
 rw [hv] at e1
 have e2:v=v':=by simpa using e1
 subst e2
 have a2:=up (F':=F) (H':=H) (o:=none) (u:=some v) (fi':=[]) (Same.refl F) (fun _ _=>rfl) (.no .nil)
 have es:σ.set i (some v)=σ:=by
  apply ext_getElem?
  intro j
  by_cases hj:i=j
  ·subst hj
   rw [getElem?_set_self (qh.mp hv).1,hv]
  ·rw [getElem?_set_ne hj]
 rw [es] at a2
 cases b with
 | no b=>
   have p:((fa++([]++fb))++(fi++f2)).Perm ((fa++(fi++fb))++f2):=by
    simp only [nil_append,append_assoc]
    refine List.Perm.append_left _ ?_
    rw [<- append_assoc,<- append_assoc fi]
    exact List.Perm.append_right _ perm_append_comm
   exact ⟨r.fr,r.gr,_,a2.app (.so q b),p.nodup_iff.mpr nd,fun x hx=>ap x (p.mem_iff.mp hx)⟩
theorem Rel.back1 (r:Rel K (U++(some s::U')) (σ++(some v::σ')) F G H) (h:U.length=σ.length) (hv:σ[i]?=some (some v)):Rel K (U.set i (some s)++U') (σ++σ') F G H:=by
 have hi:i < σ.length:=(qh.mp hv).1
 have es:σ.set i (some v)=σ:=by
  apply ext_getElem?
  grind
 have hl:U'.length=σ'.length:=by
  have:=r.len
  grind
 have r1:=Rel.swap (U1:=[some s]) (σ1:=[some v]) (U2:=U') (σ2:=σ') h rfl r
 rw [<- append_assoc,<- append_assoc] at r1
 have r2:=Rel.store (i:=i) r1 (by simp [h,hl]) (by simp [h]; lia)
 grind
theorem zfG:∀ {rs:List R} {vs:List V} {ms:List Bool} {U U' U1:Env} {ss:List S} {F:Hp} {σ':St},Rel K (U++(rs.map slotOf++U')) (σ++(vs.map some++σ')) F G H->U.length=σ.length->RVs σ vs rs->prep ms rs U=some (ss,U1)->
  ∃ F',Same F F'/\U1.length=U.length/\ss.length=rs.length/\Rel K (U1++(ss.map some++U')) (σ++(vs.map some++σ')) F' G H
 | [],[],ms,U,U',U1,ss,F,σ',r,h,_,e=>by
   have e':some (([]:List S),U)=some (ss,U1):=by cases ms <;> exact e
   cases e'
   exact ⟨F,Same.refl F,rfl,rfl,r⟩
 | [],_::_,_,_,_,_,_,_,_,_,_,h,_=>h.elim
 | _::_,[],_,_,_,_,_,_,_,_,_,h,_=>h.elim
 | x::rs,v::vs,ms,U,U',U1,ss,F,σ',r,h,rv,e=>by
   -- the first one,as it is handed on
   have first:∃ s U2 ts F1,prep ms.tail rs U2=some (ts,U1)/\ss=s::ts/\Same F F1/\U2.length=U.length/\Rel K (U2++(some s::(rs.map slotOf++U'))) (σ++(some v::(vs.map some++σ'))) F1 G H:=by
    cases x with
    | v s=>
      have e':(match prep ms.tail rs U with | some (ss,U1)=>some (s::ss,U1) | none=>none)=some (ss,U1):=by cases ms <;> exact e
      cases q:prep ms.tail rs U with
      | none=>rw [q] at e'; cases e'
      | some p=>
        obtain ⟨ts,U3⟩:=p
        rw [q] at e'
        cases e'
        exact ⟨s,U,ts,F,q,rfl,Same.refl F,rfl,r⟩
    | loc i=>
      have e':(match slot U i with
       | some s=>if ms.headD false then (match prep ms.tail rs (U.set i none) with
         | some (ss,U1)=>some (s::ss,U1)
         | none=>none)
         else (match prep ms.tail rs (U.set i (some (.sh s.toD))) with
          | some (ss,U1)=>some (.sh s.toD::ss,U1)
          | none=>none)
       | none=>none)=some (ss,U1):=by cases ms <;> exact e
      cases q:slot U i with
      | none=>rw [q] at e'; cases e'
      | some s=>
        rw [q] at e'
        dsimp only at e'
        by_cases hm:ms.headD false=true
        ·rw [if_pos hm] at e'
         cases q2:prep ms.tail rs (U.set i none) with
         | none=>rw [q2] at e'; cases e'
         | some p=>
           obtain ⟨ts,U3⟩:=p
           rw [q2] at e'
           cases e'
           exact ⟨s,U.set i none,ts,F,q2,rfl,Same.refl F,by simp,Rel.lend r h q rv.1⟩
        ·rw [if_neg hm] at e'
         cases q2:prep ms.tail rs (U.set i (some (.sh s.toD))) with
         | none=>rw [q2] at e'; cases e'
         | some p=>
           obtain ⟨ts,U3⟩:=p
           rw [q2] at e'
           cases e'
           obtain ⟨F1,s1,l1,r1⟩:=giveR (x:=.loc i) (s:=.sh s.toD) (U1:=U.set i (some (.sh s.toD))) r h rv.1 (by show (match slot U i with | some s=>some (S.sh s.toD,U.set i (some (.sh s.toD))) | none=>none)=_; rw [q])
           exact ⟨_,_,ts,F1,q2,rfl,s1,by simp,r1⟩
   obtain ⟨s,U2,ts,F1,q2,rfl,s1,l1,r1⟩:=first
   have h2:U2.length=σ.length:=l1.trans h
   have hl:(rs.map slotOf++U').length=(vs.map some++σ').length:=by
    have:=r1.len
    rw [length_append,length_append,h2,length_cons,length_cons] at this
    lia
   have hl':U'.length=σ'.length:=by
    have:=rv.2.len
    simp at hl
    lia
   have r2:=Rel.swap (U1:=[some s]) (σ1:=[some v]) (U2:=rs.map slotOf++U') (σ2:=vs.map some++σ') h2 rfl r1
   rw [append_assoc,append_assoc] at r2
   obtain ⟨F2,s2,l2,l3,r3⟩:=zfG (rs:=rs) (vs:=vs) r2 h2 rv.2 q2
   have h3:U1.length=σ.length:=l2.trans h2
   rw [<- append_assoc (ts.map some),<- append_assoc (vs.map some)] at r3
   have r4:=Rel.swap (U1:=ts.map some++U') (σ1:=vs.map some++σ') (U2:=[some s]) (σ2:=[some v]) h3 (by simp [l3,rv.2.len,hl']) r3
   exact ⟨F2,s1.trans s2,l2.trans l1,by simp [l3],r4⟩
theorem zbR:∀ {rs:List R} {vs:List V} {ms:List Bool} {U U':Env} {ss:List S} {σ':St},Rel K (U++(ss.map some++U')) (σ++(vs.map some++σ')) F G H->U.length=σ.length->ss.length=rs.length->RVs σ vs rs->
  (back ms rs ss U).length=U.length/\Rel K (back ms rs ss U++U') (σ++σ') F G H
 | [],[],ms,U,U',[],σ',r,h,_,_=>by
   have e:back ms [] [] U=U:=by cases ms <;> rfl
   rw [e]
   exact ⟨rfl,r⟩
 | [],_,_,_,_,_::_,_,_,_,hl,_=>by simp at hl
 | _::_,_,_,_,_,[],_,_,_,hl,_=>by simp at hl
 | [],_::_,_,_,_,_,_,_,_,_,h=>h.elim
 | _::_,[],_,_,_,_,_,_,_,_,h=>h.elim
 | x::rs,v::vs,ms,U,U',s::ss,σ',r,h,hl,rv=>by
   cases x with
   | v t=>
     have e:back ms (.v t::rs) (s::ss) U=back ms.tail rs ss U:=by cases ms <;> rfl
     rw [e]
     exact zbR (rs:=rs) (vs:=vs) (r.mid h) h (by simpa using hl) rv.2
   | loc i=>
     have e:back ms (.loc i::rs) (s::ss) U=if ms.headD false then back ms.tail rs ss (U.set i (some s)) else back ms.tail rs ss U:=by cases ms <;> rfl
     rw [e]
     by_cases hm:ms.headD false=true
     ·rw [if_pos hm]
      have q:=zbR (rs:=rs) (vs:=vs) (ms:=ms.tail) (U:=U.set i (some s)) (Rel.back1 r h rv.1) (by simpa using h) (by simpa using hl) rv.2
      exact ⟨q.1.trans (by simp),q.2⟩
     ·rw [if_neg hm]
      exact zbR (rs:=rs) (vs:=vs) (r.mid h) h (by simpa using hl) rv.2
end
section
variable {X:Cx} {k n:Nat} {f:Addr} {fd:FuncData} {ps:List Str} {wf:WF} {ms:List Bool} {x:Str} {p pos:Pos} {e:Expr} {es:List Expr} {wa:WA}
theorem zhP (Fk:FnOk X.prog X.w X.K X.mg X.base (CXe X.prog X.w) k f fd ps (spW X.K wf n)) (hr:Room k X.A) (hg:Gl X x) (hm:X.mg x=some (.ref f)) (hk:W.keepIn X.K (.ref f)=true) (hb:Binds X.K fd ps [])
  (ha:FA X (e::es) wa) (hlen:∀ ss P PX,wf ss P PX->ss.length=n) (hdb:(x == ("__debug__":Str))=false:=by decide) (he:starEach (e::es) X.env=(false,eval e X.env)::starEach es X.env:=by rfl) (hpl:(backTo pos (starEach es X.env)).any (·.1)=false:=by rfl):
  FE X (.Call (.Name x p) (e::es) [] pos) (wCall wf ms wa):=fun pn xe hp=>by
 refine PE.imp (zgw (X:=wp X pn xe) Fk hr hg hm hk hb (ha pn xe hp) hdb he hpl) fun σ H Q q=>?_
 refine (many (k:=fun rs U1 Q E=>need (prep ms rs U1) fun p=>wf p.1 (fun s ss=>Q (.v s) (back ms rs ss p.2)) (fun x ss=>E x (back ms rs ss p.2))) q).mono fun vs H1 h1=>?_
 obtain ⟨F,G,U,rs,P,PX,rel,hl,rv,hk,hok,hx⟩:=h1
 obtain ⟨⟨ss,U1⟩,ep,hk⟩:=zae hk
 obtain ⟨F1,s1,l1,l2,r1⟩:=zfG (U':=[]) (σ':=[]) (by simpa using rel) hl rv ep
 have h1:U1.length=σ.length:=l1.trans hl
 have r2:=Rel.comm (U':=ss.map some) (σ':=vs.map some) h1 (by simpa using r1)
 have hsv:(ss.map some).length=(vs.map some).length:=by simp [l2,rv.len]
 obtain ⟨G',r3,gg,bk⟩:=r2.hide hsv
 have hn:=hlen _ _ _ hk
 show spW X.K wf n vs H1 Q (XW (wp X pn xe) σ)
 refine ⟨F1,G',ss,_,_,by rw [rv.len,<- l2]; exact hn,r3,hk,fun s ss' v F2 H2 hp s2 l3 r4=>?_,fun d ss' F2 H2 C dx hp s2 l3 r4 cd a s' I Fl=>?_⟩
 ·have r5:=bk s2 r4
  have hsv':(ss'.map some++[some s]).length=(vs.map some++[some v]).length:=by simp [l3,l2,rv.len]
  have r6:=Rel.comm hsv' r5
  obtain ⟨l7,r7⟩:=zbR (ms:=ms) (rs:=rs) (vs:=vs) (U':=[some s]) (σ':=[some v]) r6 h1 (l3.trans l2) rv
  exact hok _ _ v F2 H2 hp (s1.trans s2) r7 trivial
 ·have r5:=bk s2 r4
  have hsv':(ss'.map some).length=(vs.map some).length:=by simp [l3,l2,rv.len]
  have r6:=Rel.comm hsv' r5
  obtain ⟨l7,r7⟩:=zbR (ms:=ms) (rs:=rs) (vs:=vs) (U':=[]) (σ':=[]) (by simpa using r6) h1 (l3.trans l2) rv
  exact hx d _ σ F2 H2 (.ref a) s' hp rfl (s1.trans s2) (by simpa using r7) I ⟨a,C,dx,rfl,cd,Fl⟩
end
section
variable {K:W.Frag} {F F' H H' G G':Hp}
theorem Rel.pushNs (r:Rel K U σ F G H):∀ m:Nat,Rel K (U++List.replicate m none) (σ++List.replicate m none) F G H
 | 0=>by simpa using r
 | m + 1=>by
   have:=(Rel.pushNs r m).pushN (u:=none)
   rw [append_assoc,append_assoc,<- List.replicate_succ',<- List.replicate_succ'] at this
   exact this
def Args (K:W.Frag) (F:Hp):List S->List V->St->Prop
 | [],[],_=>True
 | s::ss,v::vs,u::σ=>((∃ d,s=.sh d/\Rep K F v d)\/(s.isSh=false/\u=some v))/\Args K F ss vs σ
 | _,_,_=>False
theorem za5:∀ {ss:List S} {vs:List V} {fs:List S} {U U' Ua:Env} {σ σ' σa:St},finals ss U=some fs->Rel K (Ua++(U++U')) (σa++(σ++σ')) F G H->Ua.length=σa.length->U.length=σ.length->Args K F ss vs σ->
  fs.length=ss.length/\vs.length=ss.length/\Rel K (Ua++(fs.map some++U')) (σa++(vs.map some++σ')) F G H
 | [],[],fs,U,U',Ua,σ,σ',σa,e,r,h,h2,_=>by
   have e':some ([]:List S)=some fs:=by cases U <;> exact e
   cases e'
   refine ⟨rfl,rfl,?_⟩
   have r1:=Rel.swap (U1:=U) (σ1:=σ) (U2:=U') (σ2:=σ') h h2 r
   rw [<- append_assoc,<- append_assoc] at r1
   have hl:(Ua++U').length=(σa++σ').length:=by
    have:=r.len
    simp at this
    simp
    lia
   simpa using r1.drop hl
 | [],_::_,_,_,_,_,_,_,_,_,_,_,_,h=>by cases h
 | _::_,[],_,_,_,_,_,_,_,_,_,_,_,h=>by cases h
 | _::_,_::_,_,_,_,_,[],_,_,_,_,_,_,h=>by cases h
 | _::_,_::_,_,[],_,_,_::_,_,_,_,_,_,h2,_=>by simp at h2
 | s::ss,v::vs,fs,o::U,U',Ua,u::σ,σ',σa,e,r,h,h2,ha=>by
   have h2':U.length=σ.length:=by simpa using h2
   obtain ⟨ha1,ha2⟩:=ha
   rcases ha1 with ⟨d,rfl,rp⟩ | ⟨hs,hu⟩
   ·have e':(finals ss U).map (S.sh d::·)=some fs:=e
    cases q:finals ss U with
    | none=>rw [q] at e'; cases e'
    | some gs=>
      rw [q] at e'
      have e'':S.sh d::gs=fs:=qg e'
      subst e''
      have r1:Rel K (Ua++(U++U')) (σa++(σ++σ')) F G H:=Rel.mid (U:=Ua) (σ:=σa) r h
      obtain ⟨l1,l2,r2⟩:=za5 q r1 h h2' ha2
      have hl:(gs.map some++U').length=(vs.map some++σ').length:=by
       have:=r2.len
       simp at this
       simp
       lia
      have r3:=r2.push rp
      rw [append_assoc Ua,append_assoc σa] at r3
      have r4:=Rel.swap (U1:=gs.map some++U') (σ1:=vs.map some++σ') (U2:=[some (.sh d)]) (σ2:=[some v]) h hl r3
      exact ⟨by simp [l1],by simp [l2],r4⟩
   ·subst hu
    have e':∃ t gs,o=some t/\finals ss U=some gs/\fs=t::gs:=by
     cases s with
     | sh d=>cases hs
     | _=>
       cases o with
       | none=>cases e
       | some t=>
         have e':(finals ss U).map (t::·)=some fs:=e
         cases q:finals ss U with
         | none=>rw [q] at e'; cases e'
         | some gs=>rw [q] at e'; exact ⟨t,gs,rfl,rfl,(qg e').symm⟩
    obtain ⟨t,gs,rfl,q,rfl⟩:=e'
    have r1:Rel K ((Ua++[some t])++(U++U')) ((σa++[some v])++(σ++σ')) F G H:=by simpa using r
    obtain ⟨l1,l2,r2⟩:=za5 q r1 (by simp [h]) h2' ha2
    exact ⟨by simp [l1],by simp [l2],by simpa using r2⟩
theorem zfK {ks:List Nat}:∀ {ss:List S} {vs:List V} {σ:St} {j:Nat} {fp:List Addr},EnvRep K F0 H (ss.map some) (vs.map some) fp->Same F0 F->(∀ i s,ss[i]?=some s->(j + i)∈ks\/s.isSh=true)->
  (∀ i v,vs[i]?=some v->(j + i)∈ks->σ[i]?=some (some v))->vs.length<=σ.length->Args K F ss vs σ
 | [],[],_,_,_,_,_,_,_,_=>by simp [Args]
 | [],_::_,_,_,_,r,_,_,_,_=>by cases r
 | _::_,[],_,_,_,r,_,_,_,_=>by cases r
 | _::_,_::_,[],_,_,_,_,_,_,h=>by simp at h
 | s::ss,v::vs,u::σ,j,_,.so a b,sm,hk,hv,hl=>by
   refine ⟨?_,zfK (j:=j + 1) b sm (fun i t e=>by have:=hk (i + 1) t (by simpa using e); rwa [show j + (i + 1)=j + 1 + i by lia] at this) (fun i t e z=>by simpa using hv (i + 1) t (by simpa using e) (by rwa [show j + (i + 1)=j + 1 + i by lia])) (by simpa using hl)⟩
   cases hs:s.isSh with
   | true=>
     cases s with
     | sh d=>cases a with
       | sh r=>exact .inl ⟨d,rfl,r.mono sm⟩
     | _=>cases hs
   | false=>
     refine .inr ⟨rfl,?_⟩
     have:=hk 0 s rfl
     rw [hs] at this
     have z:(j + 0)∈ks:=this.resolve_right (by simp)
     simpa using hv 0 v rfl z
theorem fn_w {st:Stmt} (Fn:Fun K x qual st f fd) (Sc:FnScope N ps (defScope st)) (hn:ps.length=n) (hm:N.length=m)
  (hb:∀ (cdv:Value) (A:Around) (outer:List PySem.Env) (s:Shared) (H:Hp) (E:XK),Room k (A.deeper (envOfC qual (defScope st) s.heap.objs.size f cdv))->FSs (cxOf (CXe P w) P w K mg base N qual (defScope st) f cdv A outer s H E) ks (defBody st) wb):
  FnOk P w K mg base (CXe P w) (k + 1) f fd ps (spW K (wFn n m ks wb) n):=by
 refine Fn.okX Sc (fun vs H Q E h=>?_) (fun cdv A outer s H vs Q E hr h=>?_)
 ·obtain ⟨F,G,ss,P',PX,hl,_⟩:=h
  rw [hl,hn]
 ·obtain ⟨F,G,ss,P',PX,hvl,rel,⟨hsl,hks,hbody⟩,hok,hex⟩:=h
  refine ⟨_,hb cdv A outer s H E hr [] (cxOf (CXe P w) P w K mg base N qual (defScope st) f cdv A outer s H E).xe PassesOwn.leaving,?_⟩
  have hmn:N.length - vs.length=m - n:=by rw [hvl,hm]
  have hr0:Rel K (ss.map some++List.replicate (m - n) none) (L2.start N vs) F G H:=by
   unfold L2.start
   rw [hmn]
   exact rel.pushNs (m - n)
  have hpl:ps.length<=N.length:=by have:=congrArg List.length Sc.pre; rw [length_take] at this; lia
  have hst:∀ i v,vs[i]?=some v->(L2.start N vs)[i]?=some (some v):=fun i v e=>by
   unfold L2.start
   have hi:i < vs.length:=(qh.mp e).1
   rw [getElem?_append_left (by simpa using hi),getElem?_map,e]
   rfl
  -- how the arguments are at an end
  have arg:∀ {U':Env} {σ':St} {F':Hp} {fs:List S},KP ks (L2.start N vs) σ'->Same F F'->U'.length=σ'.length->finals ss U'=some fs->Args K F' ss vs σ':=by
   intro U' σ' F' fs kp sm hlen e
   obtain ⟨fp,en,_⟩:=rel.en
   have hσ:vs.length<=σ'.length:=by
    -- finals reads as many slots as there are arguments
    have:∀ (ss:List S) (U:Env) (fs:List S),finals ss U=some fs->ss.length<=U.length:=by
     intro ss
     induction ss with
     | nil=>intro U fs _; simp
     | cons s ss ih=>
       intro U fs e
       cases U with
       | nil=>cases s <;> cases e
       | cons o U=>
         have:∃ gs,finals ss U=some gs:=by
          cases q:finals ss U with
          | some gs=>exact ⟨gs,rfl⟩
          | none=>
            cases s with
            | sh d=>have e':(finals ss U).map (S.sh d::·)=some fs:=e; rw [q] at e'; cases e'
            | _=>
              cases o with
              | none=>cases e
              | some t=>have e':(finals ss U).map (t::·)=some fs:=e; rw [q] at e'; cases e'
         obtain ⟨gs,q⟩:=this
         have:=ih U gs q
         simp
         exact this
    have:=this ss U' fs e
    rw [hsl] at this
    lia
   exact zfK (ks:=ks) (F:=F') (σ:=σ') (j:=0) en sm (fun i s e=>by simpa using hks i s e) (fun i v e z=>by
    rw [kp i (by simpa using z)]
    exact hst i v e) hσ
  have fin:∀ {U':Env} {σ':St} {F' H':Hp} {t:S} {v:V} {fs:List S},KP ks (L2.start N vs) σ'->Same F F'->Rel K (U'++[some t]) (σ'++[some v]) F' G H'->finals ss U'=some fs->P' t fs->Q v H':=by
   intro U' σ' F' H' t v fs kp sm r e hp
   have hlen:U'.length=σ'.length:=len1 r
   obtain ⟨l1,l2,r1⟩:=za5 (Ua:=[]) (σa:=[]) (U':=[some t]) (σ':=[some v]) e (by simpa using r) rfl hlen (arg kp sm hlen e)
   exact hok t fs v F' H' hp sm l1 (by simpa using r1)
  refine ⟨F,G,_,_,hr0,hbody,fun U' σ' F' H' h kp sm r=>?_,fun U' σ' F' H' h=>h.elim,fun U' σ' F' H' h=>h.elim,fun a U' σ' v F' H' h kp sm r rv=>?_,fun d U' σ' F' H' u s' h kp sm r I xr=>?_⟩
  ·obtain ⟨fs,e,h⟩:=zae h
   exact fin kp sm (r.push .non) e h
  ·cases a with
   | v t=>
     obtain ⟨fs,e,h⟩:=zae h
     exact fin kp sm r e h
   | loc i=>
     obtain ⟨t,et,h⟩:=zae h
     have hl:=len1 r
     by_cases hi:i < n
     ·rw [if_pos hi] at h
      obtain ⟨fs,e,h⟩:=zae h
      obtain ⟨F2,s2,_,r2⟩:=giveR (x:=.loc i) (s:=.sh t.toD) (U1:=U'.set i (some (.sh t.toD))) (U':=[]) (σ':=[]) r hl rv (by show (match slot U' i with | some s=>some (S.sh s.toD,U'.set i (some (.sh s.toD))) | none=>none)=_; rw [et])
      exact fin kp (sm.trans s2) r2 e h
     ·rw [if_neg hi] at h
      obtain ⟨fs,e,h⟩:=zae h
      have r2:=Rel.lend (U':=[]) (σ':=[]) r hl et rv
      refine fin kp sm r2 ?_ h
      -- the slot lies behind the parameters
      have:∀ (ss:List S) (U:Env) (i:Nat),ss.length<=i->finals ss (U.set i none)=finals ss U:=by
       intro ss
       induction ss with
       | nil=>intro U i _; cases U <;> cases i <;> rfl
       | cons s ss ih=>
         intro U i hi
         cases U with
         | nil=>rfl
         | cons o U=>
           cases i with
           | zero=>simp at hi
           | succ i=>
             have e:=ih U i (by simpa using hi)
             show finals (s::ss) (o::U.set i none)=finals (s::ss) (o::U)
             cases s with
             | sh d=>show (finals ss (U.set i none)).map _=(finals ss U).map _; rw [e]
             | _=>
               cases o with
               | none=>rfl
               | some t=>show (finals ss (U.set i none)).map _=(finals ss U).map _; rw [e]
      rw [this ss U' i (by lia)]
      exact e
  ·obtain ⟨fs,e,h⟩:=zae h
   obtain ⟨a,C,dx,rfl,cd,Fl⟩:=xr
   obtain ⟨l1,l2,r1⟩:=za5 (K:=K) (Ua:=[]) (σa:=[]) (U':=[]) (σ':=[]) e (by simpa using (show Rel K U' σ' F' G H' from r)) rfl r.len (arg kp sm r.len e)
   exact zgz I Fl (hex d fs F' H' C dx h sm l1 (by simpa using r1) cd)
end
end FL
end
section
namespace FL
open PySem PySem.Spec PySem.Calls PyProof.Rows PySem.W L2
end FL
end
section
namespace FL
open PySem PySem.Spec PyProof.Rows L2
open PySem.W (kitOne kitAny nsIn kia_one kia_tup kitx_none)
end FL
end
section
namespace FL
open PySem PySem.Spec PyProof.Rows L2
open PySem.W (nsIn excIn mroIn clsIn isNs_of_in nsMap_none_of_in tail_of_in)
end FL
end
section
namespace FL
open PySem PySem.Spec PySem.Calls PyProof.Rows PySem.W L2
section
variable {prog:Program} {w:World} {A:Around} {E:Value->Shared->Prop} {h:Heap} {g:Array GenState} {d:Drawn} {t:Nat} {os:OsState}
variable {nm q:Str} {C N:Addr} {bs bm bmB:List Value} {hdct:Bool} {sn:List Str} {sub:List Value} {ab:Bool} {col:Option Bool} {dd:Option Addr} {k0 k1 k2 k3 k5:Option Value} {B newId initId:String} {K:Frag} {fI:Addr} {rest:List Value}
end
section
variable {M:Model} {prog:Program} {w:World} {A:Around} {E:Value->Shared->Prop} {s:Shared} {env:PySem.Env}
variable {nm q:Str} {C N:Addr} {bs bm bmB:List Value} {hdct:Bool} {sn:List Str} {sub:List Value} {ab:Bool} {col:Option Bool} {dd:Option Addr} {k0 k1 k2 k3 k5:Option Value} {B newId initId:String} {K:Frag} {fI:Addr}
end
end FL
end
section
namespace FL
open PySem PySem.Spec PySem.Calls PyProof.Rows PySem.W L2
open Builtin Builtin.ObjectAttr
end FL
end
section
namespace FL
open PySem PySem.Spec PyProof.Rows L2
open PySem.W (Frag nsIn findIn findObj)
section
variable {P:Program} {w:World} {H:Hp} {h:Heap} {e C:Addr} {dx:Option Addr}
variable {X:Cx} {pins:List (Addr×Obj)} {σ:St} {s:Shared} {Wb fI:Addr} {n:Str} {y:V} {u:Value} {A:Around} {E:Value->Shared->Prop} {Q:Unit->Shared->Prop}
variable {o value:Expr} {pos pos':Pos} {ta tv:TE}
end
end FL
end
section
namespace L2
open PySem PySem.Spec PyProof.Rows
def closL (cells:List (Str×Addr)):List (Str×NameKind)->List (Str×Addr)->List (Str×Addr)
 | [],acc=>acc
 | (n,k)::r,acc=>if k == .free then (match cells.lookup n with | some c=>closL cells r ((n,c)::acc) | none=>closL cells r acc) else closL cells r acc
theorem zbm (f:Str×NameKind->List (Str×Addr)->Sem (ForInStep (List (Str×Addr))))
  (hf:∀ n k cs,f (n,k) cs=if k == .free then (do let a <- cellOf env n; pure (.yield ((n,a)::cs))) else pure (.yield cs)):
  ∀ (names:List (Str×NameKind)) (acc:List (Str×Addr)),(∀ x∈names,x.2=.free->∃ c,env.cells.lookup x.1=some c)->(forIn names acc f:Sem _)=pure (closL env.cells names acc)
 | [],acc,_=>by rw [List.forIn_nil]; rfl
 | (n,k)::r,acc,h=>by
   rw [List.forIn_cons,hf]
   have hr:∀ x∈r,x.2=.free->∃ c,env.cells.lookup x.1=some c:=fun x hx=>h x (qm _ hx)
   by_cases hk:(k == .free)=true
   ·obtain ⟨c,hc⟩:=h (n,k) qo (by simpa using hk)
    have hc':env.cells.lookup n=some c:=hc
    have e:cellOf env n=pure c:=by unfold cellOf; rw [hc']
    rw [if_pos hk,e]
    have ih:=zbm f hf r ((n,c)::acc) hr
    unfold closL
    rw [if_pos hk,hc']
    rw [<- ih]
    simp
   ·rw [if_neg hk]
    have ih:=zbm f hf r acc hr
    unfold closL
    rw [if_neg hk,<- ih]
    simp
theorem zco (h:∀ x∈scope.names,x.2=.free->∃ c,env.cells.lookup x.1=some c):closureFor scope env=pure (closL env.cells scope.names []):=by
 show (forIn scope.names ([]:List (Str×Addr)) _ >>= fun cs=>pure cs)=_
 rw [zbm (env:=env) _ (fun n k cs=>rfl) scope.names [] h]
 rfl
theorem za7:∀ {names:List (Str×NameKind)} {acc:List (Str×Addr)},(n,c)∈closL cells names acc->(n,c)∈acc\/((n,NameKind.free)∈names/\cells.lookup n=some c)
 | [],_,h=>.inl h
 | (m,k)::r,acc,h=>by
   unfold closL at h
   by_cases hk:(k == .free)=true
   ·rw [if_pos hk] at h
    have hk':k=.free:=by simpa using hk
    cases q:cells.lookup m with
    | none=>
      rw [q] at h
      rcases za7 h with z | ⟨z,w⟩
      ·exact .inl z
      ·exact .inr ⟨qm _ z,w⟩
    | some d=>
      rw [q] at h
      rcases za7 h with z | ⟨z,w⟩
      ·rcases mem_cons.mp z with e | z
       ·cases e
        exact .inr ⟨by rw [<- hk']; exact qo,q⟩
       ·exact .inl z
      ·exact .inr ⟨qm _ z,w⟩
   ·rw [if_neg hk] at h
    rcases za7 h with z | ⟨z,w⟩
    ·exact .inl z
    ·exact .inr ⟨qm _ z,w⟩
theorem zaW (hc:cells.lookup n=some c):∀ {names:List (Str×NameKind)} {acc:List (Str×Addr)},((n,c)∈acc\/(n,NameKind.free)∈names)->(n,c)∈closL cells names acc
 | [],_,h=>h.elim id fun z=>by simp at z
 | (m,k)::r,acc,h=>by
   unfold closL
   by_cases hk:(k == .free)=true
   ·rw [if_pos hk]
    have hk':k=.free:=by simpa using hk
    cases q:cells.lookup m with
    | none=>
      refine zaW hc ?_
      rcases h with z | z
      ·exact .inl z
      ·rcases mem_cons.mp z with e | z
       ·cases e; rw [hc] at q; cases q
       ·exact .inr z
    | some d=>
      refine zaW hc ?_
      rcases h with z | z
      ·exact .inl (qm _ z)
      ·rcases mem_cons.mp z with e | z
       ·cases e; rw [hc] at q; cases q; exact .inl qo
       ·exact .inr z
   ·rw [if_neg hk]
    refine zaW hc ?_
    rcases h with z | z
    ·exact .inl z
    ·rcases mem_cons.mp z with e | z
     ·cases e; exact (hk (by decide)).elim
     ·exact .inr z
theorem zaE {α:Type}:∀ {l:List (Str×α)} {n:Str} {c:α},(n,c)∈l->(∀ c',(n,c')∈l->c'=c)->l.lookup n=some c
 | [],_,_,h,_=>by simp at h
 | (m,d)::r,n,c,h,u=>by
   rw [lookup_cons]
   cases hb:n == m with
   | true=>
     have e:n=m:=by simpa using hb
     subst e
     exact congrArg some (u d qo)
   | false=>
     refine zaE (l:=r) ?_ fun c' hc=>u c' (qm _ hc)
     rcases mem_cons.mp h with e | h
     ·cases e; simp at hb
     ·exact h
theorem zaM:∀ {names:List (Str×NameKind)} {n:Nat} {acc:List (Str×Addr)} {x:Str} {c:Addr},(x,c)∈cellsFrom n names acc->(x,c)∈acc\/((x,NameKind.cell)∈names/\n<=c)
 | [],_,_,_,_,h=>.inl h
 | (m,k)::r,n,acc,x,c,h=>by
   unfold cellsFrom at h
   by_cases hk:(k == .cell)=true
   ·rw [if_pos hk] at h
    have hk':k=.cell:=by simpa using hk
    rcases zaM h with z | ⟨z,w⟩
    ·rcases mem_cons.mp z with e | z
     ·cases e; exact .inr ⟨by rw [<- hk']; exact qo,le_refl _⟩
     ·exact .inl z
    ·exact .inr ⟨qm _ z,by lia⟩
   ·rw [if_neg hk] at h
    rcases zaM h with z | ⟨z,w⟩
    ·exact .inl z
    ·exact .inr ⟨qm _ z,w⟩
theorem zar:∀ {names:List (Str×NameKind)} {n:Nat} {acc:List (Str×Addr)} {x:Str},((x,NameKind.cell)∈names\/∃ c,(x,c)∈acc)->∃ c,(x,c)∈cellsFrom n names acc
 | [],_,_,_,h=>h.elim (fun z=>by simp at z) id
 | (m,k)::r,n,acc,x,h=>by
   unfold cellsFrom
   by_cases hk:(k == .cell)=true
   ·rw [if_pos hk]
    refine zar ?_
    rcases h with z | ⟨c,z⟩
    ·rcases mem_cons.mp z with e | z
     ·cases e; exact .inr ⟨n,qo⟩
     ·exact .inl z
    ·exact .inr ⟨c,qm _ z⟩
   ·rw [if_neg hk]
    refine zar ?_
    rcases h with z | z
    ·rcases mem_cons.mp z with e | z
     ·cases e; exact (hk (by decide)).elim
     ·exact .inl z
    ·exact .inr z
theorem zan {α:Type}:∀ {l:List (Str×α)} {x:Str},(∃ c,(x,c)∈l)->∃ c,l.lookup x=some c
 | [],_,⟨_,h⟩=>by simp at h
 | (m,d)::r,x,⟨c,h⟩=>by
   rw [lookup_cons]
   cases hb:x == m with
   | true=>exact ⟨d,rfl⟩
   | false=>
     refine zan (l:=r) ⟨c,?_⟩
     rcases mem_cons.mp h with e | h
     ·cases e; simp at hb
     ·exact h
theorem zaC:∀ {names:List (Str×NameKind)} {n:Nat} {acc:List (Str×Addr)},(∀ p∈acc,p.2 < n)->(∀ p∈acc,∀ q∈acc,p.2=q.2->p.1=q.1)->
  ∀ p∈cellsFrom n names acc,∀ q∈cellsFrom n names acc,p.2=q.2->p.1=q.1
 | [],_,_,_,h=>h
 | (m,k)::r,n,acc,hb,h=>by
   unfold cellsFrom
   by_cases hk:(k == .cell)=true
   ·rw [if_pos hk]
    refine zaC (fun p hp=>?_) fun p hp q hq e=>?_
    ·rcases mem_cons.mp hp with rfl | hp
     ·exact Nat.lt_succ_self _
     ·exact Nat.lt_succ_of_lt (hb p hp)
    ·rcases mem_cons.mp hp with rfl | hp <;> rcases mem_cons.mp hq with rfl | hq
     ·rfl
     ·have h1:=hb q hq
      have e':n=q.2:=e
      exact absurd h1 (by rw [<- e']; exact lt_irrefl _)
     ·have h1:=hb p hp
      have e':p.2=n:=e
      exact absurd h1 (by rw [e']; exact lt_irrefl _)
     ·exact h p hp q hq e
   ·rw [if_neg hk]
    exact zaC hb h
section
variable {M:Model} {A:Around} {E:Value->Shared->Prop} {s:Shared}
theorem zdm
  (hQ:∀ h':Heap,(∀ b o,s.heap.get? b=some o->h'.get? b=some o)->h'.Ns s.heap.objs.size (fun _=>none)->(∀ x c,(x,c)∈cellsFrom (s.heap.objs.size + 1) scope.names cl->(x,c)∈cl\/h'.IsCell c none)->
   Q { scope:=scope,locals:=s.heap.objs.size,globals:=globals,cells:=cellsFrom (s.heap.objs.size + 1) scope.names cl,qual:=qual,func:=none,code:=env.code,frame:=env.frame,builtins:=env.builtins } { s with heap:=h' }):
  wpAny M A (newFunctionEnv scope globals cl [] qual none .none (some env)) Q E s:=by
 simp only [newFunctionEnv,isSome_some,if_true]
 refine qa (wpAny_alloc ?_)
 refine qa (wpAny_layCells _ (fun name kind cells=>by cases hkc:kind == NameKind.cell <;> simp [hkc]) _ _ _ _ ?_)
 rw [show ({ s with heap:=s.heap.push { cls:=.type "dict",data:=.dict #[] } }:Shared).heap.objs.size=s.heap.objs.size + 1 from Heap.size_push ..]
 refine qb (hQ _ (fun b o e=>pushCells_keeps _ _ b o (qc _ e)) ((Heap.Ns.new s.heap (.type "dict")).keeps (pushCells_keeps _ _)) fun x c h=>?_)
 -- the new cells are empty
 have all:∀ (names:List (Str×NameKind)) (h:Heap) (acc:List (Str×Addr)),(∀ p∈acc,p∈cl\/h.IsCell p.2 none)->∀ p∈cellsFrom h.objs.size names acc,p∈cl\/(pushCells h names).IsCell p.2 none:=by
  intro names
  induction names with
  | nil=>intro h acc ha p hp; exact ha p hp
  | cons q r ih=>
    intro h acc ha p hp
    obtain ⟨m,k⟩:=q
    unfold cellsFrom at hp
    unfold pushCells
    by_cases hk:(k == .cell)=true
    ·rw [if_pos hk] at hp ⊢
     have e:(h.push { cls:=.type "cell",data:=.cell none }).objs.size=h.objs.size + 1:=Heap.size_push ..
     rw [<- e] at hp
     refine ih _ _ (fun p hp=>?_) p hp
     rcases mem_cons.mp hp with rfl | hp
     ·exact .inr ⟨_,qd _ rfl,rfl⟩
     ·rcases ha p hp with z | z
      ·exact .inl z
      ·exact .inr (z.keeps fun b o e=>qc _ e)
    ·rw [if_neg hk] at hp ⊢
     exact ih h acc ha p hp
 have:=all scope.names (s.heap.push { cls:=.type "dict",data:=.dict #[] }) cl (fun p hp=>.inl hp) (x,c) (by rw [Heap.size_push]; exact h)
 exact this
end
def compN (N vars:List Str):List Str:=N.map (fun x=>if x∈vars then Str.empty else x)++Str.empty::vars
def compCx (X:Cx) (scope:Scope) (vars:List Str) (s:Shared) (H:Hp) (ex:List Addr):Cx where
 prog:=X.prog
 w:=X.w
 K:=X.K
 mg:=X.mg
 base:=X.base
 A:=X.A
 N:=compN X.N vars
 s₀:=s
 H₀:=H
 env:=compEnvC scope (cellsFrom (s.heap.objs.size + 1) scope.names (closL X.env.cells scope.names [])) s.heap.objs.size X.env
 outer:=X.stack
 stack:=X.stack
 ex:=ex
 fn:=fun x=>decide ((x,NameKind.cell)∈scope.names)
 calm:=X.calm
 pn:=[]
 xe:=fun _ _=>False
structure CompScope (outer scope:Scope) (N vars:List Str):Prop where
 kind:scope.kind=.function
 fr:∀ x∈scope.names,x.2=.free->outer.names.lookup x.1=some .cell\/outer.names.lookup x.1=some .free
 nd:(scope.names.map (·.1)).Nodup
 own:∀ x∈N,x∉vars->(x,NameKind.local)∉scope.names/\(x,NameKind.cell)∉scope.names
 emp:scope.names.lookup Str.empty=none
theorem zau {α:Type} {l:List (Str×α)} {c:α} (nd:(l.map (·.1)).Nodup):l.lookup n=some c↔(n,c)∈l:=by
 refine ⟨mem_of_lookup,fun h=>zaE h fun c' h'=>?_⟩
 induction l with
 | nil=>simp at h
 | cons p r ih=>
   grind
theorem za0 {α β:Type} (g:Str->α->β):∀ (l:List (Str×α)) (n:Str),(l.map fun p=>(p.1,g p.1 p.2)).lookup n=(l.lookup n).map (g n)
 | [],_=>rfl
 | (m,d)::r,n=>by
   rw [map_cons,lookup_cons,lookup_cons]
   cases hb:n == m with
   | true=>have e:n=m:=by simpa using hb
           subst e; rfl
   | false=>exact za0 g r n
def rl (env:PySem.Env) (n:Str) (k:NameKind):NameKind:=if (k == NameKind.free && env.scope.kind == .function && env.kindOf n == some .cell) then NameKind.cell else k
theorem zck (scope:Scope) (env:PySem.Env):(relabel scope env).names=scope.names.map fun p=>(p.1,rl env p.1 p.2):=by
 unfold relabel
 show scope.names.map _=scope.names.map _
 refine map_congr_left fun p _=>?_
 obtain ⟨n,k⟩:=p
 show (if (k == NameKind.free && env.scope.kind == .function && env.kindOf n == some .cell)=true then (n,NameKind.cell) else (n,k))=(n,rl env n k)
 unfold rl
 by_cases h:(k == NameKind.free && env.scope.kind == .function && env.kindOf n == some .cell)=true
 ·rw [if_pos h,if_pos h]
 ·rw [if_neg h,if_neg h]
theorem zav (scope:Scope) (env:PySem.Env) (x:Str):(relabel scope env).names.lookup x=(scope.names.lookup x).map (rl env x):=by
 rw [zck,za0]
theorem zda (h:k≠.free):rl env x k=k:=by
 unfold rl
 rw [if_neg]
 intro z
 simp at z
 exact h z.1.1
theorem zhO:rl env x .free=.cell\/rl env x .free=.free:=by
 unfold rl
 split
 ·exact .inl rfl
 ·exact .inr rfl
section
variable {X:Cx} {pins:List (Addr×Obj)} {σ:St} {H:Hp} {s:Shared} {scope:Scope} {vars:List Str} {ex:List Addr}
theorem zfR (h:(compN N vars)[i]?=some x) (hi:i < N.length):(N[i]?=some x/\x∉vars)\/x=Str.empty:=by
 unfold compN at h
 rw [getElem?_append_left (by simpa using hi),getElem?_map] at h
 cases q:N[i]? with
 | none=>rw [q] at h; cases h
 | some y=>
   grind
theorem Inv.comp (I:Inv X pins σ H s) (S:CompScope X.env.scope scope X.N vars) (hex:∀ b∈ex,FpOk X pins H b/\b < s.heap.objs.size) (kept:∀ b o,s.heap.get? b=some o->h'.get? b=some o) (hns:h'.Ns s.heap.objs.size (fun _=>none))
  (hcl:∀ x c,(x,c)∈cellsFrom (s.heap.objs.size + 1) scope.names (closL X.env.cells scope.names [])->(x,c)∈closL X.env.cells scope.names []\/h'.IsCell c none) (hk:vars.length=k) (w0:Option V):
  Inv (compCx X scope vars s H ex) [] (σ++w0::List.replicate k none) H { s with heap:=h' }:=by
 have cm:∀ {x:Str} {c:Addr},(x,c)∈closL X.env.cells scope.names []->(x,NameKind.free)∈scope.names/\X.env.cells.lookup x=some c:=fun {x c} h=>by
  rcases za7 h with z | z
  ·simp at z
  ·exact z
 have lt:∀ {x:Str} {c:Addr},X.env.cells.lookup x=some c->c < s.heap.objs.size:=fun {x c} h=>by
  obtain ⟨v,z⟩:=I.cell x c h
  exact z.lt
 have look:∀ {x:Str} {c:Addr},(compCx X scope vars s H ex).env.cells.lookup x=some c->(X.env.cells.lookup x=some c/\(x,NameKind.free)∈scope.names)\/((x,NameKind.cell)∈scope.names/\s.heap.objs.size + 1<=c):=fun {x c} h=>by
  rcases zaM (mem_of_lookup h) with z | z
  ·exact .inl ⟨(cm z).2,(cm z).1⟩
  ·exact .inr z
 have uniq:∀ {x:Str} {a b:NameKind},(x,a)∈scope.names->(x,b)∈scope.names->a=b:=fun {x a b} h1 h2=>by
  have e1:=(zau S.nd).mpr h1
  have e2:=(zau S.nd).mpr h2
  rw [e1] at e2
  exact qg e2
 -- what a visible name is,seen from around
 have vis:∀ {x:Str},((relabel scope X.env).names.lookup x=some .cell\/(relabel scope X.env).names.lookup x=some .free)->(x,NameKind.cell)∈scope.names\/(x,NameKind.free)∈scope.names:=fun {x} h=>by
  rw [zav] at h
  cases q:scope.names.lookup x with
  | none=>rw [q] at h; rcases h with h | h <;> cases h
  | some k=>
    have hm:=mem_of_lookup q
    rw [q] at h
    have h0:some (rl X.env x k)=some .cell\/some (rl X.env x k)=some .free:=h
    cases k with
    | cell=>exact .inl hm
    | free=>exact .inr hm
    | «local»=>rw [zda (by decide)] at h0; rcases h0 with h | h <;> cases h
    | globalImplicit=>rw [zda (by decide)] at h0; rcases h0 with h | h <;> cases h
    | globalExplicit=>rw [zda (by decide)] at h0; rcases h0 with h | h <;> cases h
 have ok:(compCx X scope vars s H ex).Ok:=by
  refine ⟨I.ok.mod,S.kind,I.ok.glob,I.ok.blt,le_refl _,fun x y c h1 h2=>?_,fun x h=>?_,fun x c hf h=>?_,I.ok.hd,I.ok.frames,.inl rfl,fun b hb=>⟨?_,fun x c h z=>?_⟩,I.bs,le_trans I.ok.bsz I.sz,fun b o e hb=>?_,fun b hb z=>?_,I.stack,I.stkFree⟩
  ·refine zaC (fun p hp=>?_) (fun p hp q hq e=>?_) (x,c) (mem_of_lookup h1) (y,c) (mem_of_lookup h2) rfl
   ·exact Nat.lt_succ_of_lt (lt (cm (x:=p.1) (c:=p.2) hp).2)
   ·exact I.ok.inj _ _ _ (cm (x:=p.1) (c:=p.2) hp).2 (e ▸ (cm (x:=q.1) (c:=q.2) hq).2)
  ·rcases vis h with z | z
   ·exact zan (zar (.inl z))
   ·obtain ⟨c,hc⟩:=I.ok.has x (S.fr (x,.free) z rfl)
    exact zan (zar (.inr ⟨c,zaW hc (.inr z)⟩))
  ·have hf':(x,NameKind.cell)∈scope.names:=of_decide_eq_true hf
   rcases look h with ⟨_,z⟩ | ⟨_,z⟩
   ·cases uniq hf' z
   ·exact Nat.le_of_succ_le z
  ·exact ne_of_lt (hex b hb).2
  ·rcases look h with ⟨w,_⟩ | ⟨_,w⟩
   ·exact (hex b hb).1.2.2.2.2.1 x c w z
   ·have h1:=(hex b hb).2
    rw [<- z] at h1
    exact absurd (lt_of_lt_of_le h1 (Nat.le_of_succ_le w)) (lt_irrefl _)
  ·obtain ⟨_,_,_,h1,_⟩:=(hex b hb).1
   rcases h1 with z | z
   ·exact I.ok.noex b o e z
   ·rw [(I.ok.bs b o e).1] at z; cases z
  ·obtain ⟨_,h2,h3,_⟩:=(hex b hb).1
   rcases mem_cons.mp (I.stkSub b z) with w | w
   ·exact h2 w
   ·exact h3 w
 have cellK:∀ {c:Addr} {v:Option Value},s.heap.IsCell c v->h'.IsCell c v:=fun z=>z.keeps kept
 refine ⟨ok,rfl,I.bare,Un.kept kept,⟨_,hns,fun i x v h1 h2 h3=>?_⟩,fun x c h=>?_,I.hok.fresh (le_refl _),fun x c h=>?_,fun p hp=>absurd (show p∈([]:List (Addr×Obj)) from hp) (by simp),I.hok.kept kept,?_⟩
 ·-- a slot of the context
  have noE:¬ Vis (compCx X scope vars s H ex).env.scope Str.empty:=fun h3=>by
   have h3':(relabel scope X.env).names.lookup Str.empty=some .local\/(relabel scope X.env).names.lookup Str.empty=some .cell\/(relabel scope X.env).names.lookup Str.empty=some .free:=h3
   rw [zav,S.emp] at h3'
   rcases h3' with z | z | z <;> cases z
  have hi:i < σ.length:=by
   by_cases hi:i < σ.length
   ·exact hi
   ·exfalso
    rw [getElem?_append_right (not_lt.mp hi)] at h2
    cases q:i - σ.length with
    | zero=>
      have e:i=X.N.length:=by have:=I.len; lia
      rw [e] at h1
      have h1':(compN X.N vars)[X.N.length]?=some x:=h1
      unfold compN at h1'
      rw [getElem?_append_right (by simp)] at h1'
      simp at h1'
      subst h1'
      exact noE h3
    | succ j=>
      rw [q,List.getElem?_cons_succ,List.getElem?_replicate] at h2
      split at h2 <;> cases h2
  rw [getElem?_append_left hi] at h2
  rcases zfR h1 (by rw [<- I.len]; exact hi) with ⟨h1,hx⟩ | rfl
  ·have own:=S.own x (mem_of_getElem? h1) hx
   have hfree:(x,NameKind.free)∈scope.names:=by
    have h3':(relabel scope X.env).names.lookup x=some .local\/(relabel scope X.env).names.lookup x=some .cell\/(relabel scope X.env).names.lookup x=some .free:=h3
    rcases h3' with z | z
    ·rw [zav] at z
     cases q:scope.names.lookup x with
     | none=>rw [q] at z; cases z
     | some kk=>
       rw [q] at z
       have z0:some (rl X.env x kk)=some .local:=z
       have hm:=mem_of_lookup q
       cases kk with
       | «local»=>exact absurd hm own.1
       | cell=>exact absurd hm own.2
       | free=>exact hm
       | globalImplicit=>rw [zda (by decide)] at z0; cases z0
       | globalExplicit=>rw [zda (by decide)] at z0; cases z0
    ·rcases vis z with w | w
     ·exact absurd w own.2
     ·exact w
   have hout:=S.fr (x,.free) hfree rfl
   obtain ⟨m,hm,hl⟩:=I.loc
   obtain ⟨u,r,l⟩:=hl i x v h1 h2 (hout.elim (fun z=>.inr (.inl z)) fun z=>.inr (.inr z))
   refine ⟨u,r,.inr ⟨?_,?_⟩⟩
   ·show (relabel scope X.env).names.lookup x=some .cell\/(relabel scope X.env).names.lookup x=some .free
    rw [zav,(zau S.nd).mpr hfree]
    show some (rl X.env x .free)=_\/some (rl X.env x .free)=_
    rcases zhO (env:=X.env) (x:=x) with e | e <;> rw [e]
    ·exact .inl rfl
    ·exact .inr rfl
   ·rcases l with ⟨z,_⟩ | ⟨_,c,hc,z⟩
    ·have z':X.env.scope.names.lookup x=some .local:=z
     rcases hout with w | w <;> (have w':X.env.scope.names.lookup x=_:=w; rw [w'] at z'; cases z')
    ·refine ⟨c,?_,cellK z⟩
     show (cellsFrom (s.heap.objs.size + 1) scope.names (closL X.env.cells scope.names [])).lookup x=some c
     obtain ⟨c',hc'⟩:=zan (zar (n:=s.heap.objs.size + 1) (names:=scope.names) (.inr ⟨c,zaW hc (.inr hfree)⟩))
     rcases look hc' with ⟨w,_⟩ | ⟨w,_⟩
     ·rw [hc] at w
      cases w
      exact hc'
     ·cases uniq hfree w
  ·exact absurd h3 noE
 ·rcases hcl x c (mem_of_lookup h) with z | z
  ·obtain ⟨v,w⟩:=I.cell x c (cm z).2
   exact ⟨v,cellK w⟩
  ·exact ⟨none,z⟩
 ·rcases look h with ⟨w,_⟩ | ⟨_,w⟩
  ·exact I.freeC x c w
  ·exact I.hok.fresh (Nat.le_of_succ_le w)
 ·show _=(compN X.N vars).length
  unfold compN
  simp [I.len,hk]
end
abbrev TB:=St->Hp->(St->Hp->Prop)->Prop
def PRest (X:Cx) (m:Sem Unit) (t:TB):Prop:=∀ (pins:List (Addr×Obj)) (s:Shared) (σ:St) (H:Hp) (Q:St->Hp->Prop),Inv X pins σ H s->t σ H Q->
 wpAny (model X.prog X.w) X.A m (fun _ s'=>∃ σ' H',Inv X pins σ' H' s'/\Q σ' H') (fun _ _=>False) s
def PIfs (X:Cx) (ifs:List Expr) (t:TT):Prop:=∀ (pins:List (Addr×Obj)) (s:Shared) (σ:St) (H:Hp) (Q:Bool->Hp->Prop),Inv X pins σ H s->t σ H Q->
 wpAny (model X.prog X.w) X.A (forIn ifs true fun c r=>if r=true then do let ok <- isTrue c X.env (eval c X.env); pure (ForInStep.yield ok) else pure (ForInStep.yield r)) (TP X pins σ Q) X.xe s
theorem zga:PIfs X [] (fun _ H Q=>Q true H):=fun pins s σ H Q I q=>wpAny_tests_nil ⟨H,I,q⟩
def tLoopB (g:TG) (tc:TT) (tb:TB) (J:It):TB:=fun σ H Q=>∃ W:Nat->Nat->St->Hp->Prop,(∃ m,W 0 m σ H)/\∀ i m σ H,W i m σ H->
 (J.stop i H/\Q σ H)\/(J.go i H/\∃ N:St->Hp->Prop,(∀ σ' H',N σ' H'->∃ m',m' < m/\W (i + 1) m' σ' H')/\∀ x H',J.yld i H x H'->g x σ H' fun σ2 H2=>tc σ2 H2 fun b H3=>if b=true then tb σ2 H3 N else N σ2 H3)
def PLoop (X:Cx) (e:Expr) (d:Nat) (acc:Value) (tg:Expr) (tl:It->TB):Prop:=∀ (pins:List (Addr×Obj)) (s:Shared) (σ:St) (H:Hp) (J:It) (fp:List Addr) (it:Addr) (tn:Nat->Heap->Prop) (Q:St->Hp->Prop),Inv X pins σ H s->
 Turn X.prog X.w X.K tg J fp it tn->tn 0 s.heap->(∀ b∈fp,FpOk X pins H b)->tl J σ H Q->
 codeAny (model X.prog X.w) X.A (.compLoop e d (.ref it) acc X.env) (fun r s'=>∃ σ' H',r=.ok .next/\Inv X pins σ' H' s'/\Q σ' H') s
def PRestF (X:Cx) (m:Sem Fin) (c:Code) (t:TB):Prop:=∀ (pins:List (Addr×Obj)) (s:Shared) (σ:St) (H:Hp) (Q:St->Hp->Prop),Inv X pins σ H s->t σ H Q->
 wpAny (model X.prog X.w) X.A m (fun f s'=>f=.again c/\∃ σ' H',Inv X pins σ' H' s'/\Q σ' H') (fun _ _=>False) s
theorem PRest.f (h:PRest X m t):PRestF X (m >>= fun _=>again c) c t:=fun pins s σ H Q I q=>
 qa (wpAny_mono (h pins s σ H Q I q) (fun _ s' z=>qb ⟨rfl,z⟩) fun _ _ z=>z)
theorem zeJ {inner:Addr->Sem Fin} (hc:X.calm=true) (hxe:X.xe=fun _ _=>False) (hg:PG X tg g) (ht:PIfs X ifs tc) (hr:∀ it,PRestF X (inner it) (.compLoop e d (.ref it) acc X.env) tb)
  (hq:∀ it,(Code.compLoop e d (.ref it) acc X.env).quiet=true) (hun:∀ it,X.A.under (.compLoop e d (.ref it) acc X.env)=X.A)
  (hden:∀ it,(model X.prog X.w).den (.compLoop e d (.ref it) acc X.env)=(compTurn e d (.ref it) acc X.env).onRaise (fun x=>do noteFrame x X.env; theTreesLotGoes x))
  (heq:∀ it,compTurn e d (.ref it) acc X.env=(standAt ipos >>= fun _=>pyNext (.ref it) >>= fun r=>match r with
   | none=>pure (.done .next)
   | some v=>letOwnedTupleGo tg (.ref it) v >>= fun _=>assign tg X.env v >>= fun _=>
     (forIn ifs true fun c r=>if r=true then do let ok <- isTrue c X.env (eval c X.env); pure (ForInStep.yield ok) else pure (ForInStep.yield r)) >>= fun ok=>
      if ok=true then inner it else again (.compLoop e d (.ref it) acc X.env))):
  PLoop X e d acc tg (tLoopB g tc tb):=by
 intro pins s σ H J fp it tn Q I T st f ⟨W,⟨m0,w0⟩,turn⟩
 have stat:∀ {H':Hp},(∀ b∈fp,H' b=none)->∀ b∈fp,FpOk X pins H' b:=fun hn b hb=>⟨hn b hb,(f b hb).2⟩
 have nox:∀ {α:Type} {m:Sem α} {Q:α->Shared->Prop} {E:Value->Shared->Prop} {s:Shared},wpAny (model X.prog X.w) X.A m Q X.xe s->wpAny (model X.prog X.w) X.A m Q E s:=fun h=>wpAny_mono h (fun _ _ q=>q) fun _ _ x=>by rw [hxe] at x; exact x.elim
 refine codeAny_loop (hq it) (fun n s'=>∃ i σ' H',Inv X pins σ' H' s'/\tn i s'.heap/\(∀ b∈fp,H' b=none)/\W i n σ' H') ?_ m0 ⟨0,σ,H,I,st,fun b hb=>(f b hb).1,w0⟩
 rintro n s3 ⟨i,σ3,H3,I3,st3,fr3,w3⟩
 rw [hun,hden]
 refine wpAny_noted ?_
 rw [heq]
 refine qa (wpAny_standAt (qa ?_))
 rcases turn i n σ3 H3 w3 with ⟨stop,qn⟩ | ⟨go,N,hN,step⟩
 ·refine thn (T.done X rfl rfl rfl hc i pins s3 σ3 H3 _ I3 (stat fr3) st3 stop) fun r s4 ⟨hr,I4⟩=>?_
  subst hr
  exact qb ⟨σ3,H3,rfl,I4,qn⟩
 ·refine thn (T.item X rfl rfl rfl hc i pins s3 σ3 H3 _ I3 (stat fr3) st3 go) fun r s4 zq=>?_
  obtain ⟨u,hr',h4⟩:=zq
  subst hr'
  refine qa (thn h4 fun _ s5 zq=>?_)
  obtain ⟨x,H5,I5,r5,y5,st5,fr5⟩:=zq
  have I5':=I5.pinned (stat fr5) (T.obj _ _ st5)
  refine qa (nox (thn (hg _ s5 σ3 H5 x u _ I5' r5 (step x H5 y5)) fun _ s6 zq=>?_))
  obtain ⟨σ6,H6,I6,q6⟩:=zq
  have again:∀ {σ7:St} {H7:Hp} {s7:Shared},Inv X (pins++pinsAt fp s5.heap) σ7 H7 s7->N σ7 H7->∃ m,m < n/\∃ i σ' H',Inv X pins σ' H' s7/\tn i s7.heap/\(∀ b∈fp,H' b=none)/\W i m σ' H':=fun {σ7 H7 s7} I7 n7=>by
   obtain ⟨m',hm,w7⟩:=hN σ7 H7 n7
   refine ⟨m',hm,i + 1,σ7,H7,I7.unpinned,T.keep _ _ _ st5 fun b hb o e=>(I7.pin (b,o) (qj _ (qj _ (zaY hb e)))).1,fun b hb=>?_,w7⟩
   obtain ⟨o,e,d⟩:=T.obj _ _ st5 b hb
   exact (I7.pin (b,o) (qj _ (qj _ (zaY hb e)))).2.1
  refine qa (nox (thn (ht _ s6 σ6 H6 _ I6 q6) fun b s7 zq=>?_))
  obtain ⟨H7,I7,q7⟩:=zq
  cases b with
  | true=>
    rw [if_pos rfl] at q7
    rw [if_pos rfl]
    refine wpAny_mono (hr it _ s7 σ6 H7 _ I7 q7) (fun f s8 zq=>?_) fun _ _ z=>z.elim
    obtain ⟨ef,σ8,H8,I8,n8⟩:=zq
    subst ef
    exact ⟨rfl,again I8 n8⟩
  | false=>
    rw [if_neg Bool.false_ne_true] at q7
    rw [if_neg Bool.false_ne_true]
    exact qb ⟨rfl,again I7 q7⟩
theorem zeq (hl:PLoop X e d acc tg tl)
  (hq:∀ it,(Code.compLoop e d (.ref it) acc X.env).quiet=true) (hun:∀ it,X.A.under (.compStart e d (.ref it) acc X.env)=X.A)
  (hden:∀ it,(model X.prog X.w).den (.compStart e d (.ref it) acc X.env)=(compStart e d (.ref it) acc X.env).onRaise (fun x=>do noteFrame x X.env; standAt theWindowsPlace))
  (heq:∀ it,∃ p,compStart e d (.ref it) acc X.env=(ask >>= fun c=>if c.params.followText "comprehension-iter-twice"=true then again (.compLoop e d (.ref it) acc X.env) else
   rule "comprehension.iter-twice" >>= fun _=>standAt p >>= fun _=>pyIter (.ref it) >>= fun it'=>again (.compLoop e d it' acc X.env))) (I:Inv X pins σ H s)
  (T:Turn X.prog X.w X.K tg J fp it tn) (st:tn 0 s.heap) (f:∀ b∈fp,FpOk X pins H b) (q:tl J σ H Q):
  codeAny (model X.prog X.w) X.A (.compStart e d (.ref it) acc X.env) (fun r s'=>∃ σ' H',r=.ok .next/\Inv X pins σ' H' s'/\Q σ' H') s:=by
 have h0:=hl pins s σ H J fp it tn Q I T st f q
 refine codeAny_of_tree ?_
 rw [hun,hden]
 refine wpAny_notedAt ?_
 obtain ⟨p,e⟩:=heq it
 rw [e]
 refine qa (wpAny_askSetting (wpAny_ite ?_))
 split
 ·exact qb ⟨hq it,h0⟩
 ·exact qa (wpAny_rule (qa (wpAny_standAt (qa (T.self X.A 0 s _ _ st (qb ⟨hq it,h0⟩))))))
end L2
end
section
namespace FL
open PySem PySem.Spec PyProof.Rows L2
inductive tWB (X:Cx) (n:Nat) (D:Addr) (b:WB) (σ:St) (H:Hp) (Q:St->Hp->Prop):Prop
 | mk (F G:Hp) (U:Env) (P:Env->Prop) (rel:Rel X.K U σ F G H) (hs:σ[n]?=some (some (.ref D))) (hw:b U P NX) (hn:∀ U' σ' F' H',P U'->KP (List.range (n + 1)) σ σ'->Same F F'->Rel X.K U' σ' F' G H'->Q σ' H'):tWB X n D b σ H Q
theorem xc0:XC X T F G NX:=fun _ _ _ _ _ _ _ z=>z.elim
section
variable {K:W.Frag} {F F' H H' G G':Hp} {σ σ':St} {v u:V}
theorem SReps.snoc (b:SReps K F H xs l fp) (r:SRep K F H v s fq):SReps K F H (xs++[v]) (l++[s]) (fp++fq):=
 SReps.ind (P:=fun xs l fp=>SReps K F H (xs++[v]) (l++[s]) (fp++fq)) (by have:=SReps.cons r .nil; rwa [append_nil] at this) (fun a _ ih=>by rw [append_assoc]; exact .cons a ih) b
theorem SReps.len (r:SReps K F H xs l fp):xs.length=l.length:=SReps.ind (P:=fun xs l _=>xs.length=l.length) rfl (fun _ _ ih=>congrArg (· + 1) ih) r
theorem Rel.append {D:Addr} (r:Rel K (U++[some s]) (σ++[some v]) F G H) (hs:slot U n=some (.lst l)) (hσ:σ[n]?=some (some (.ref D))):
  ∃ xs,H D=some (.lst xs)/\xs.length=l.length/\Rel K (U.set n (some (.lst (l++[s])))) σ F G (upd H D (.lst (xs++[v]))):=by
 have hl:=len1 r
 obtain ⟨fp,e,nd,ap⟩:=r.en
 obtain ⟨f1,f2,rfl,a,b⟩:=e.cut hl
 obtain ⟨v',fa,fi,fb,e1,rfl,q,up⟩:=a.at hs
 rw [hσ] at e1
 have e2:V.ref D=v':=by simpa using e1
 subst e2
 cases q with
 | lst hD rl=>
   rename_i xs fl
   cases b with
   | so sr nl=>
     cases nl
     rename_i fs
     refine ⟨xs,hD,rl.len,?_⟩
     have es:σ.set n (some (.ref D))=σ:=by
      apply ext_getElem?
      intro j
      by_cases hj:n=j
      ·subst hj
       rw [getElem?_set_self (qh.mp hσ).1,hσ]
      ·rw [getElem?_set_ne hj]
     -- D is nobody else's
     obtain ⟨n1,n2,n12⟩:=nodup_append.mp nd
     obtain ⟨na,nib,nab⟩:=nodup_append.mp n1
     obtain ⟨ni,nb,nib⟩:=nodup_append.mp nib
     obtain ⟨nD,nfl⟩:=nodup_cons.mp ni
     have hDa:D∉fa:=fun z=>nab D z D (qk _ qo) rfl
     have hDb:D∉fb:=fun z=>nib D qo D z rfl
     have hDs:D∉fs:=fun z=>n12 D (qj _ (qk _ qo)) D (by simpa using z) rfl
     have apD:=ap D (qk _ (qj _ (qk _ qo)))
     have ne:∀ {l:List Addr},D∉l->∀ x∈l,upd H D (.lst (xs++[v])) x=H x:=fun h x hx=>zaf fun z=>h (z ▸ hx)
     have new:SRep K F (upd H D (.lst (xs++[v]))) (.ref D) (.lst (l++[s])) (D::(fl++fs)):=.lst zai (SReps.snoc (rl.mono (Same.refl F) (ne nD)) (sr.mono (Same.refl F) (ne hDs)))
     have a2:=up (F':=F) (H':=upd H D (.lst (xs++[v]))) (o:=some (.lst (l++[s]))) (u:=some (.ref D)) (Same.refl F) (fun x hx=>zaf fun z=>(mem_append.mp hx).elim (fun w=>hDa (z ▸ w)) fun w=>hDb (z ▸ w)) (.so new .nil)
     rw [es] at a2
     have p:(fa++((D::(fl++fs))++[]++fb)).Perm (fa++((D::fl)++fb)++(fs++[])):=by
      simp only [append_nil,append_assoc,cons_append]
      refine List.Perm.append_left _ (List.Perm.cons _ (List.Perm.append_left _ perm_append_comm))
     refine ⟨Same.updR r.fr apD.1,fun x o w=>?_,_,a2,p.nodup_iff.mpr (by simpa using nd),fun x hx=>ap x (by simpa using p.mem_iff.mp hx)⟩
     have hx:x≠D:=fun z=>by rw [z,apD.2] at w; cases w
     rw [zaf hx]
     exact r.gr x o w
end
section
variable {X:Cx} {n:Nat} {D:Addr} {ks:List Nat}
theorem zfB (hxe:X.xe=fun _ _=>False) (h:FE X elt we):PRest X (eval elt X.env >>= fun x=>call (.builtin "list.append") [.ref D,x] >>= fun _=>pure ()) (tWB X n D (bEmit n we)):=by
 intro pins s σ H Q I q
 obtain ⟨F,G,U,P,rel,hσ,hw,hok⟩:=q
 have hp:PassesOwn (model X.prog X.w) X.A X.env X.xe:=by rw [hxe]; exact PassesOwn.never
 have he:=h X.pn X.xe hp pins s σ H (fun v H1=>∃ F1 U1 t l,Same F F1/\Rel X.K (U1++[some t]) (σ++[some v]) F1 G H1/\slot U1 n=some (.lst l)/\l.length < big/\P (U1.set n (some (.lst (l++[t]))))) I
  ⟨F,G,U,_,NX,rel,hw,fun r U1 v F1 H1 hk s1 r1 rv=>?_,xc0⟩
 ·have xe0:∀ e s',X.xe e s'->False:=fun e s' z=>by rw [hxe] at z; exact z
  refine qa (wpAny_mono he (fun u s1 zq=>?_) fun e s' z=>xe0 e s' z)
  obtain ⟨v,H1,I1,rv,F1,U1,t,l,sm,r1,hs,hz,hP⟩:=zq
  obtain ⟨xs,hD,hlen,r2⟩:=Rel.append r1 hs hσ
  refine qa (wpAny_mono (zc3 pins s1 σ H1 (.ref D) [v] (.ref D) [u] (fun w H'=>w=.non/\H'=upd H1 D (.lst (xs++[v]))) I1 rfl (.cons rv .nil) ⟨D,xs,v,rfl,rfl,hD,by rw [hlen,sizeLine_eq]; exact lt_trans hz (by decide),rfl,rfl⟩) (fun w s2 zq=>?_) fun e s' z=>xe0 e s' z)
  obtain ⟨w',H2,I2,_,_,e2⟩:=zq
  subst e2
  exact qb ⟨σ,_,I2,hok _ σ F1 _ hP KP.refl sm r2⟩
 ·obtain ⟨⟨t,U2⟩,eg,hk⟩:=zae hk
  obtain ⟨F2,s2,l2,r2⟩:=giveR (U':=[]) (σ':=[]) r1 (len1 r1) rv eg
  dsimp only at hk
  split at hk
  ·rename_i l e
   exact ⟨F2,U2,t,l,s1.trans s2,r2,e,hk.1,hk.2⟩
  ·exact hk.elim
theorem zbp:PIfs X [] (tWT X wYes):=fun pins s σ H Q I q=>zga pins s σ H Q I (by
 obtain ⟨F,G,U,P,PX,rel,hw,hok,hx⟩:=q
 exact hok true U F H hw (Same.refl F) rel)
theorem zgx (it:ItOk X.K J l F) (rel:Rel X.K U σ F G H) (hσ:σ[n]?=some (some (.ref D)))
  (hw:bLoop g wc b l U P NX) (hok:∀ U' σ' F' H',P U'->KP (List.range (n + 1)) σ σ'->Same F F'->Rel X.K U' σ' F' G H'->Q σ' H'):
  tLoopB (tWG X (List.range (n + 1)) g) (tWT X wc) (tWB X n D b) J σ H Q:=by
 have hσ':∀ {σ':St},KP (List.range (n + 1)) σ σ'->σ'[n]?=some (some (.ref D)):=fun k=>by rw [k n (by simp)]; exact hσ
 refine ⟨fun i m σ2 H2=>m=l.length - i/\i<=l.length/\∃ F2 U2,KP (List.range (n + 1)) σ σ2/\Same F F2/\Rel X.K U2 σ2 F2 G H2/\bLoop g wc b (l.drop i) U2 P NX,⟨l.length,by simp,zero_le _,F,U,KP.refl,Same.refl F,rel,by simpa using hw⟩,?_⟩
 rintro i m σ2 H2 ⟨rfl,hi,F2,U2,kp,s2,r2,hw2⟩
 obtain ⟨it1,it2⟩:=it i U2 σ2 F2 G H2 s2 r2
 by_cases hlt:i < l.length
 ·obtain ⟨go,yld⟩:=it1 l[i] (by simp [hlt])
  refine .inr ⟨go,fun σ3 H3=>i + 1<=l.length/\∃ F3 U3,KP (List.range (n + 1)) σ σ3/\Same F F3/\Rel X.K U3 σ3 F3 G H3/\bLoop g wc b (l.drop (i + 1)) U3 P NX,fun σ3 H3 h=>⟨l.length - (i + 1),by lia,rfl,h⟩,fun y H3 hy=>?_⟩
  obtain ⟨F3,s3,r3,rp⟩:=yld y H3 hy
  rw [List.drop_eq_getElem_cons hlt] at hw2
  refine ⟨F3,G,U2,_,_,r3.push rp,hw2,fun U4 σ4 F4 H4 hp4 k4 s4 r4=>?_⟩
  have kp4:=kp.trans k4
  have sm4:=s2.trans (s3.trans s4)
  refine ⟨F4,G,U4,_,_,r4,hp4,fun k U5 F5 H5 hp5 s5 r5=>?_,xc0⟩
  cases k with
  | true=>
    dsimp only
    rw [if_pos rfl]
    exact ⟨F5,G,U5,_,r5,hσ' kp4,hp5,fun U' σ' F' H' h k' s r=>⟨hlt,F',U',kp4.trans k',sm4.trans (s5.trans s),r,h⟩⟩
  | false=>
    dsimp only
    rw [if_neg Bool.false_ne_true]
    exact ⟨hlt,F5,U5,kp4,sm4.trans s5,r5,hp5⟩
 ·have e:i=l.length:=Nat.le_antisymm hi (not_lt.mp hlt)
  subst e
  rw [List.drop_length] at hw2
  exact .inl ⟨it2 (le_refl _),hok U2 σ2 F2 H2 hw2 kp s2 r2⟩
end
theorem zbU {α:Type} {l:List α} {a:α} (h:l[n]?=some a):l=l.take n++a::l.drop (n + 1):=by
 obtain ⟨hn,e⟩:=qh.mp h
 rw [<- e,<- List.drop_eq_getElem_cons hn,List.take_append_drop]
section
variable {X:Cx} {k:Nat} {vars:List Str}
theorem zih (hmk:∀ (A:Around) (E:Value->Shared->Prop) (s:Shared) (Q:Value->Shared->Prop),Q (.ref s.heap.objs.size) { s with heap:=s.heap.push { cls:=.type ty,dict:=none,data:=dat } }->wpAny (model X.prog X.w) A mk Q E s) (ho:∀ (H:Hp) (h:Heap),sysModules < h.objs.size->ObjOk X.prog X.w H (h.push { cls:=.type ty,dict:=none,data:=dat }) h.objs.size o0) (hs0:∀ (F H:Hp) (p:Addr),H p=some o0->SRep X.K F H (.ref p) s0 [p]) (hcl:clausesOf e=⟨tg,iter,ifs,0⟩::gs) (hs:∀ x,foldedSetIterable iter X.env x=pure x)
  (Sc:CompScope X.env.scope scope X.N vars) (hk:vars.length=k) (hi:FI X tg iter wi)
  (hb:∀ (s:Shared) (H:Hp) (ex:List Addr) (D:Addr),PLoop (compCx X scope vars s H ex) e 0 (.ref D) tg (tLoopB (tWG (compCx X scope vars s H ex) (List.range (X.N.length + 1)) g) (tWT (compCx X scope vars s H ex) wc) (tWB (compCx X scope vars s H ex) X.N.length D b)))
  (hq:∀ it acc env,(Code.compLoop e 0 (.ref it) acc env).quiet=true) (hun:∀ it acc env,X.A.under (.compStart e 0 (.ref it) acc env)=X.A)
  (hden:∀ it acc env,(model X.prog X.w).den (.compStart e 0 (.ref it) acc env)=(compStart e 0 (.ref it) acc env).onRaise (fun x=>do noteFrame x env; standAt theWindowsPlace))
  (heq:∀ it acc env,∃ p,compStart e 0 (.ref it) acc env=(ask >>= fun c=>if c.params.followText "comprehension-iter-twice"=true then again (.compLoop e 0 (.ref it) acc env) else
   rule "comprehension.iter-twice" >>= fun _=>standAt p >>= fun _=>pyIter (.ref it) >>= fun it'=>again (.compLoop e 0 it' acc env))) (hp:PassesOwn (model X.prog X.w) X.A X.env xe) {P:WQ} (I:Inv (wp X pn xe) pins σ H s)
  (rel:Rel X.K U σ F G H) (hw:wi U (fun l U1=>bLoop g wc b l (U1++some s0::List.replicate k none) (fun U2=>need (slot U2 X.N.length) fun s=>P (.v s) (U2.take X.N.length)) NX) PX) (hx:XC (wp X pn xe) (·=σ) F G PX)
  (fin:∀ (D C:Addr) (s4:Shared) (H4 F4:Hp) (m:Str->Option Value) (t:S) (U4:Env),s4.heap.Ns C m->Inv (wp X pn xe) pins σ H4 s4->H4 C=none->C≠X.env.locals->X.s₀.heap.objs.size<=C->(∀ x c,X.env.cells.lookup x=some c->c≠C)->(∀ p∈pn++pins,p.1≠C)->
   P (.v t) U4->Same F F4->Rel X.K (U4++[some t]) (σ++[some (.ref D)]) F4 G H4->compPost (model X.prog X.w) X.A xe use Q' (.ref D) C (.ok .next) s4):
  wpAny (model X.prog X.w) X.A (comprehension e scope X.env cpos mk false (eval iter X.env) use) Q' xe s:=by
 have hi':=hi pn xe hp pins s σ H (fun J H1=>∃ F1 U1 l,Same F F1/\Rel X.K U1 σ F1 G H1/\ItOk X.K J l F1/\
   bLoop g wc b l (U1++some s0::List.replicate k none) (fun U2=>need (slot U2 X.N.length) fun s=>P (.v s) (U2.take X.N.length)) NX) I
  ⟨F,G,U,_,PX,rel,hw,fun l U1 F1 H1 J hk s1 r1 it=>⟨F1,U1,l,s1,r1,it,hk⟩,hx⟩
 have hfree:∀ x∈scope.names,x.2=.free->∃ c,X.env.cells.lookup x.1=some c:=fun x hx hf=>I.ok.has x.1 (Sc.fr x hx hf)
 refine wpAny_comprehension_free (use:=use) hcl hs (zco hfree) Sc.kind (fun x hx hl=>(zau Sc.nd).mpr (by obtain ⟨a,b⟩:=x; have hl':b=.local:=hl; subst hl'; exact hx)) (wpAny_mono hi' (fun v s1 h1=>wpAny_mono h1 (fun itv s2 h2=>?_) fun _ _ z=>z) fun _ _ z=>z)
 obtain ⟨it,fp,tn,J,H2,e1,I2,T,st,f,F1,U1,l,s1',r1,ito,hk2⟩:=h2
 subst e1
 -- the acc
 refine hmk _ _ _ _ ?_
 generalize hs3:({ s2 with heap:=s2.heap.push { cls:=.type ty,dict:=none,data:=dat } }:Shared)=s3
 have k23:∀ b o,s2.heap.get? b=some o->s3.heap.get? b=some o:=fun b o e=>by rw [<- hs3]; exact qc _ e
 have sz3:s3.heap.objs.size=s2.heap.objs.size + 1:=by rw [<- hs3]; exact Heap.size_push ..
 have hD:H2 s2.heap.objs.size=none:=I2.hok.fresh (le_refl _)
 have I3:Inv (wp X pn xe) pins σ (upd H2 s2.heap.objs.size o0) s3:=by
  rw [<- hs3]
  exact I2.laid (t':=s2.toks) (fun b o e=>qc _ e) (le_refl _) (ho _ _ I2.big)
 have r3:Rel X.K (U1++[some s0]) (σ++[some (.ref s2.heap.objs.size)]) F1 G (upd H2 s2.heap.objs.size o0):=r1.newO hD (hs0 _ _ _ zai)
 have fplt:∀ b∈fp,b < s2.heap.objs.size:=fun b hb=>by
  obtain ⟨o,e,_⟩:=T.obj _ _ st b hb
  exact qe e
 have fne:∀ b∈fp,b≠s2.heap.objs.size:=fun b hb=>ne_of_lt (fplt b hb)
 have f3:∀ b∈fp,FpOk (wp X pn xe) pins (upd H2 s2.heap.objs.size o0) b:=fun b hb=>by
  obtain ⟨h1,h2⟩:=f b hb
  exact ⟨by rw [zaf (fne b hb)]; exact h1,h2⟩
 refine zdm fun h' kept hns hcl'=>?_
 have I4:=Inv.comp (X:=wp X pn xe) (ex:=fp) I3 Sc (fun b hb=>⟨f3 b hb,by rw [sz3]; exact Nat.lt_succ_of_lt (fplt b hb)⟩) kept hns hcl' hk (some (.ref s2.heap.objs.size))
 have hσn:(σ++some (.ref s2.heap.objs.size)::List.replicate k none)[X.N.length]?=some (some (.ref s2.heap.objs.size)):=by
  have hl:X.N.length=σ.length:=I2.len.symm
  rw [hl,getElem?_append_right (le_refl _),sub_self]
  rfl
 have r4:Rel X.K (U1++some s0::List.replicate k none) (σ++some (.ref s2.heap.objs.size)::List.replicate k none) F1 G (upd H2 s2.heap.objs.size o0):=by
  have:=r3.pushNs k
  simpa using this
 have st4:tn 0 h':=T.keep _ _ _ st fun b hb o e=>kept b o (k23 b o e)
 have f4:∀ b∈fp,FpOk (compCx X scope vars s3 (upd H2 s2.heap.objs.size o0) fp) [] (upd H2 s2.heap.objs.size o0) b:=fun b hb=>by
  obtain ⟨h1,h2,h3,h4,h5,h6⟩:=f3 b hb
  have e:=I4.ok.exf b hb
  exact ⟨h1,e.1,I4.ok.exfs b hb,.inl hb,e.2,fun p hp=>absurd (show p∈([]:List (Addr×Obj)) from hp) (by simp)⟩
 have go:=zeq (hb s3 (upd H2 s2.heap.objs.size o0) fp s2.heap.objs.size) (fun it=>hq it _ _) (fun it=>hun it _ _) (fun it=>hden it _ _) (fun it=>heq it _ _) I4 T st4 f4
  (Q:=fun σ' H'=>∃ F' U',need (slot U' X.N.length) (fun s=>P (.v s) (U'.take X.N.length))/\KP (List.range (X.N.length + 1)) (σ++some (.ref s2.heap.objs.size)::List.replicate k none) σ'/\Same F1 F'/\Rel X.K U' σ' F' G H')
  (zgx ito r4 hσn hk2 fun U' σ' F' H' a kp sm r=>⟨F',U',a,kp,sm,r⟩)
 refine codeAny_mono go fun r s4 zq=>?_
 obtain ⟨σ4,H4,er,I5,F4,U4,hn4,kp4,sm4,r5⟩:=zq
 subst er
 obtain ⟨m,hm,_⟩:=id I5.loc
 have I6:Inv (wp X pn xe) pins σ H4 s4:=Inv.call' (ch:=fp) I3 I5.os I5.base I5.hok I5.bare fun b hb=>by
  obtain ⟨h1,h2,h3,h4,h5,h6⟩:=f3 b hb
  exact ⟨h4,h2,h5,h6⟩
 -- the block's names go
 obtain ⟨t,et,hP⟩:=zae hn4
 have hl:X.N.length=σ.length:=I2.len.symm
 have hσ4:σ4[X.N.length]?=some (some (.ref s2.heap.objs.size)):=by rw [kp4 X.N.length (by simp)]; exact hσn
 have eσ:σ4.take X.N.length=σ:=by
  apply ext_getElem?
  intro j
  by_cases hj:j < X.N.length
  ·rw [List.getElem?_take_of_lt hj,kp4 j (by simp; lia),getElem?_append_left (by lia)]
  ·rw [List.getElem?_take_eq_none (not_lt.mp hj),getElem?_eq_none (by lia)]
 have e1:=zbU (zba et)
 have e2:=zbU hσ4
 rw [e1,e2,eσ] at r5
 have r6:Rel X.K ((U4.take X.N.length++[some t])++U4.drop (X.N.length + 1)) ((σ++[some (.ref s2.heap.objs.size)])++σ4.drop (X.N.length + 1)) F4 G H4:=by simpa using r5
 have hlt:X.N.length < U4.length:=zbo et
 have ltC:∀ {b:Addr} {o:Obj},s3.heap.get? b=some o->b≠s3.heap.objs.size:=fun e=>ne_of_lt (qe e)
 refine fin s2.heap.objs.size s3.heap.objs.size s4 H4 F4 m t (U4.take X.N.length) hm I6 I5.free (Ne.symm (ne_of_lt I3.lt)) I3.sz (fun x c e z=>?_) (fun p hp z=>?_) hP (s1'.trans sm4) (r6.drop (by simp; lia))
 ·obtain ⟨v,o,ho,_⟩:=I3.cell x c e
  exact ltC ho z
 ·exact ltC (I3.pin p hp).1 z
theorem zit {P:WQ} (hok:∀ r U' v F' H',P r U'->Same F F'->Rel X.K (U'++[slotOf r]) (σ++[some v]) F' G H'->RV σ v r->Q v H'):
  ∀ (D C:Addr) (s4:Shared) (H4 F4:Hp) (m:Str->Option Value) (t:S) (U4:Env),s4.heap.Ns C m->Inv (wp X pn xe) pins σ H4 s4->H4 C=none->C≠X.env.locals->X.s₀.heap.objs.size<=C->(∀ x c,X.env.cells.lookup x=some c->c≠C)->(∀ p∈pn++pins,p.1≠C)->
    P (.v t) U4->Same F F4->Rel X.K (U4++[some t]) (σ++[some (.ref D)]) F4 G H4->compPost (model X.prog X.w) X.A xe none (EP (wp X pn xe) pins σ Q) (.ref D) C (.ok .next) s4:=
 fun D C s4 H4 F4 m t U4 hm I n1 n2 n3 n4 n5 hP sm r=>⟨m,hm,fun h'' sb=>⟨.ref D,H4,I.turned (t':=s4.toks) (fun b o hb e=>(sb.2 b hb).trans e) n1 n2 (.inr (Heap.get?_none_of_le n3)) n4 n5,rfl,hok (.v t) U4 _ F4 H4 hP sm r trivial⟩⟩
theorem zil (A:Around) (E:Value->Shared->Prop) (s:Shared) (Q:Value->Shared->Prop) (h:Q (.ref s.heap.objs.size) { s with heap:=s.heap.push { cls:=.type ty,dict:=none,data:=dat } }) (hz:sizeOk dat:=by size_fits):wpAny (model X.prog X.w) A (newObj (.type ty) dat) Q E s:=wpAny_newObj_type h hz
theorem zh2 (H:Hp) (h:Heap) (_:sysModules < h.objs.size):ObjOk X.prog X.w H (h.push { cls:=.type "list",dict:=none,data:=.seq ([]:List Value).toArray }) h.objs.size (.lst []):=⟨zero_le _,[],0,.nil,qd _ rfl⟩
theorem zi3 (F H:Hp) (p:Addr) (e:H p=some (.lst [])):SRep X.K F H (.ref p) (.lst []) [p]:=.lst e .nil
theorem zcc (hn:X.N.length=n) (hc:X.calm=true) (Sc:CompScope X.env.scope scope X.N vars) (hk:vars.length=k) (hi:FI X tg iter wi)
  (hg:∀ s H ex,FG (compCx X scope vars s H ex) (List.range (n + 1)) tg g) (ht:∀ s H ex,PIfs (compCx X scope vars s H ex) ifs (tWT (compCx X scope vars s H ex) wc)) (he:∀ s H ex,FE (compCx X scope vars s H ex) elt we)
  (hs:∀ x,foldedSetIterable iter X.env x=pure x:=by intro _; rfl):FE X (.ListComp elt [⟨tg,iter,ifs,0⟩] scope pos) (wLC n k wi g wc (bEmit n we)):=by
 subst hn
 intro pn xe hp pins s σ H Q I q
 show wpAny (model X.prog X.w) X.A (eval (.ListComp elt [⟨tg,iter,ifs,0⟩] scope pos) X.env) (EP (wp X pn xe) pins σ Q) xe s
 rw [eval_ListComp]
 obtain ⟨F,G,U,P,PX,rel,hw,hok,hx⟩:=q
 refine zih (fun A E s Q h=>zil A E s Q h) (s0:=.lst []) zh2 zi3 rfl hs Sc hk hi (fun s H ex D=>?_) (fun _ _ _=>rfl) (fun _ _ _=>rfl) (fun _ _ _=>rfl) (fun _ _ _=>⟨_,rfl⟩) hp I rel hw hx (zit hok)
 exact zeJ (X:=compCx X scope vars s H ex) hc rfl (hg s H ex [] (fun _ _=>False) PassesOwn.never) (ht s H ex) (fun _=>(zfB (X:=compCx X scope vars s H ex) rfl (he s H ex)).f) (fun _=>rfl) (fun _=>rfl) (fun _=>rfl) (fun _=>rfl)
end
section
variable {X:Cx} {K:W.Frag}
theorem zbq {x:Str} (e:x.cps.toList=l):x.length=l.length:=by rw [<- e]; rfl
theorem zhk {x y:Str} (e:x.cps.toList=l) (e':y.cps.toList=m):(x++y).cps.toList=l++m:=by
 show (x.cps++y.cps).toList=_
 rw [toList_append,e,e']
theorem RepE.int (h:RepE K F H v (.int i)):v=.int i:=by
 rcases h with h | ⟨_,_,_,_,h,_⟩ | ⟨_,_,_,_,_,h,_⟩ | ⟨_,_,_,_,_,h,_⟩
 ·cases h; rfl
 ·cases h
 ·cases h
 ·cases h
theorem RepE.str (h:RepE K F H v (.str l)):∃ x,v=.str x/\x.cps.toList=l/\l.length<=16777216:=by
 rcases h with h | ⟨_,_,_,_,h,_⟩ | ⟨_,_,_,_,_,h,_⟩ | ⟨_,_,_,_,_,h,_⟩
 ·cases h with
  | str e z=>exact ⟨_,rfl,e,z⟩
 ·cases h
 ·cases h
 ·cases h
theorem RepE.tup (h:RepE K F H v (.tup l)):∃ a xs,v=.ref a/\F a=some (.tup xs)/\Reps K F xs l:=by
 rcases h with h | ⟨_,_,_,_,h,_⟩ | ⟨_,_,_,_,_,h,_⟩ | ⟨_,_,_,_,_,h,_⟩
 ·cases h with
  | tup e r=>exact ⟨_,_,rfl,e,r⟩
 ·cases h
 ·cases h
 ·cases h
theorem RepE.lst (sm:Same F H) (h:RepE K F H v (.lst l)):∃ a xs,v=.ref a/\SqL K H a xs/\Reps K F xs l:=by
 rcases h with h | ⟨a,xs,ds,e1,h,e2,r⟩ | ⟨_,_,_,_,_,h,_⟩ | ⟨_,_,_,_,_,h,_⟩
 ·cases h with
  | lst e r=>exact ⟨_,_,rfl,SqL.mono sm e,r⟩
 ·cases h
  exact ⟨a,xs,e1,SqL.of e2,r⟩
 ·cases h
 ·cases h
theorem Reps.append (a:Reps K F xs l) (r:Reps K F ys m):Reps K F (xs++ys) (l++m):=Reps.ind (P:=fun xs l=>Reps K F (xs++ys) (l++m)) r (fun a _ ih=>.cons a ih) a
theorem Rel.newLD (r:Rel K U σ F G H) (hp:H p=none) (rx:Reps K F xs l):Rel K (U++[some (.lst (l.map .sh))]) (σ++[some (.ref p)]) F G (upd H p (.lst xs)):=by
 have sr:∀ {xs:List V} {l:List D},Reps K F xs l->SReps K F (upd H p (.lst xs)) xs (l.map .sh) []:=by
  intro xs l h
  generalize upd H p (.lst xs)=H'
  induction xs generalizing l with
  | nil=>cases h; exact .nil
  | cons x xs ih=>cases h with
    | cons a b=>
      have:=SReps.cons (SRep.sh (H:=H') a) (ih b)
      exact this
 refine r.newO hp (.lst zai ?_)
 have:=sr rx
 exact this
def rCatL (K:W.Frag):R2:=fun x y H Q=>∃ l b xs zs,x=.ref l/\y=.ref b/\SqL K H l xs/\SqL K H b zs/\xs.length + zs.length<=sizeLine/\∀ p,H p=none->Q (.ref p) (upd H p (.lst (xs++zs)))
theorem zhx:OpR X (binaryOp .Add) (rCatL X.K):=by
 intro pins s σ H x y v u Q I rx ry h
 obtain ⟨l,b,xs,zs,rfl,rfl,hl,hb,hz,q⟩:=h
 cases rx
 cases ry
 obtain ⟨its,r1,⟨⟨cls,dd,data,sl⟩,n,ho,hc,hd0,hd⟩,_⟩:=I.list hl
 obtain ⟨its2,r2,⟨⟨cls2,dd2,data2,sl2⟩,n2,ho2,hc2,hd02,hd2⟩,_⟩:=I.list hb
 simp only at hc hd0 hd hc2 hd02 hd2
 subst hc hd0 hd hc2 hd02 hd2
 refine concat_meets ⟨_,ho,rfl⟩ ⟨_,ho2,rfl⟩ noFill_list_add seq_list_add PySem.F.slot_list_add PySem.F.entry_list_add (PySem.F.args_list_add_2 _ _) (list_addW l b its.toArray its2.toArray n n2 none none sl sl2 (by rw [size_toArray,size_toArray,<- r1.length,<- r2.length]; exact hz)) ⟨ho,ho2,?_⟩
 have ea:its.toArray++its2.toArray=(its++its2).toArray:=by simp
 rw [ea]
 exact ⟨.ref _,_,I.lnew (t':=s.toks) (r1.append r2) (by rw [length_append]; exact hz),rfl,q _ I.fresh⟩
def rCatTT (K:W.Frag):R2:=fun x y H Q=>∃ a b xs ys,x=.ref a/\y=.ref b/\SqT K H a xs/\SqT K H b ys/\xs.length + ys.length<=sizeLine/\
 (xs=[]->Q (.ref b) H)/\(xs≠[]->ys=[]->Q (.ref a) H)/\(xs≠[]->ys≠[]->∀ p,H p=none->Q (.ref p) (upd H p (.tup (xs++ys))))
theorem zgO:OpR X (binaryOp .Add) (rCatTT X.K):=by
 intro pins s σ H x y v u Q I rx ry h
 obtain ⟨a,b,xs,ys,rfl,rfl,ha,hb,hz,q0,q1,q2⟩:=h
 by_cases hx:xs=[]
 ·cases rx
  cases ry
  obtain ⟨its,r1,p1,_⟩:=I.tuple ha
  obtain ⟨its2,r2,p2,_⟩:=I.tuple hb
  obtain ⟨⟨cls,dd,data,sl⟩,ho,hc,n,hd⟩:=id p1
  obtain ⟨⟨cls2,dd2,data2,sl2⟩,ho2,hc2,n2,hd2⟩:=id p2
  simp only at hc hd hc2 hd2
  subst hc hd hc2 hd2
  have hi:its=[]:=r1.nil_iff.mpr hx
  exact concat_meets ⟨_,ho,rfl⟩ ⟨_,ho2,rfl⟩ noFill_tuple_add seq_tuple_add PySem.F.slot_tuple_add PySem.F.entry_tuple_add (PySem.F.args_tuple_add_2 _ _)
   (tuple_addW0 a b its.toArray its2.toArray n n2 dd dd2 sl sl2 (by simp [hi])) ⟨ho,ho2,.ref b,H,I,rfl,q0 hx⟩
 ·exact zif pins s σ H _ _ v u Q I rx ry ⟨a,b,xs,ys,rfl,rfl,ha,hb,hx,hz,q1 hx,q2 hx⟩
def rStrAdd:R2:=fun x y H Q=>∃ i j,x=.str i/\y=.str j/\i.length + j.length<=sizeLine/\Q (.str (i++j)) H
def rAddAll (K:W.Frag):R2:=fun x y H Q=>rI0 (fun i j=>.int (i + j)) x y H Q\/(rStrAdd x y H Q\/(rCatL K x y H Q\/rCatTT K x y H Q))
theorem zeT:OpR X (binaryOp .Add) (rAddAll X.K):=OpR.or zkk (OpR.or zd6 (OpR.or zhx zgO))
theorem zbC (h:n<=big):n<=sizeLine:=by rw [sizeLine_eq]; exact le_trans h (by decide)
theorem zf8:Does K (rAddAll K) oAdd:=by
 intro σ U F G H x y p q s Q rel ex ey e hq
 unfold oAdd at e
 split at e
 ·cases e
  have h1:=ex.int
  have h2:=ey.int
  subst h1 h2
  exact .inl ⟨_,_,rfl,rfl,hq _ F H (Same.refl F) (rel.push (.int _))⟩
 ·rename_i a b
  split at e
  ·rename_i hz
   cases e
   obtain ⟨x,rfl,e1,z1⟩:=ex.str
   obtain ⟨y,rfl,e2,z2⟩:=ey.str
   refine .inr (.inl ⟨_,_,rfl,rfl,by rw [zbq e1,zbq e2]; exact zbC hz,hq _ F H (Same.refl F) (rel.push (.str (zhk e1 e2) (by rw [length_append]; exact le_trans hz (by decide))))⟩)
  ·cases e
 ·rename_i a b
  split at e
  ·rename_i hz
   cases e
   obtain ⟨l,xs,rfl,h1,r1⟩:=ex.lst rel.fr
   obtain ⟨m,ys,rfl,h2,r2⟩:=ey.lst rel.fr
   refine .inr (.inr (.inl ⟨l,m,xs,ys,rfl,rfl,h1,h2,by rw [r1.len,r2.len]; exact zbC hz,fun p hp=>?_⟩))
   exact hq _ F _ (Same.refl F) (rel.newLD hp (r1.append r2))
  ·cases e
 ·rename_i a b
  split at e
  ·rename_i hz
   cases e
   obtain ⟨l,xs,rfl,h1,r1⟩:=ex.tup
   obtain ⟨m,ys,rfl,h2,r2⟩:=ey.tup
   refine .inr (.inr (.inr ⟨l,m,xs,ys,rfl,rfl,SqT.of (rel.fr _ _ h1),SqT.of (rel.fr _ _ h2),by rw [r1.len,r2.len]; exact zbC hz,fun hx=>?_,fun _ hy=>?_,fun _ _ p hp=>?_⟩))
   ·subst hx
    cases r1
    exact hq _ F H (Same.refl F) (rel.push (.tup h2 r2))
   ·subst hy
    cases r2
    rw [append_nil] at hq
    exact hq _ F H (Same.refl F) (rel.push (.tup h1 r1))
   ·have n2:=(rel.free hp).1
    exact hq _ _ _ (Same.upd n2) ((rel.newF hp).push (.tup zai ((r1.append r2).mono (Same.upd n2))))
  ·cases e
 ·cases e
theorem zbh {g:Int->Int->Int} (ho:∀ p q s,o p q=some s->∃ i j,p=.int i/\q=.int j/\C i j/\s=.sh (.int (g i j))):Does K (rI C fun i j=>.int (g i j)) o:=by
 intro σ U F G H x y p q s Q rel ex ey e hq
 obtain ⟨i,j,rfl,rfl,hc,rfl⟩:=ho p q s e
 have h1:=ex.int
 have h2:=ey.int
 subst h1 h2
 exact ⟨i,j,rfl,rfl,hc,hq _ F H (Same.refl F) (rel.push (.int _))⟩
theorem zgh:Does K (rI (fun _ _=>True) fun i j=>.int (i - j)) oSub:=zbh fun p q s e=>by
 unfold oSub at e
 split at e
 ·cases e; exact ⟨_,_,rfl,rfl,trivial,rfl⟩
 ·cases e
theorem zir:OpR X (binaryOp .Sub) (rI (fun _ _=>True) fun i j=>.int (i - j)):=opI fun _ _ _ _ _ _ _ _ q=>sub_int q
theorem zgv:Does K (rI CMul fun i j=>.int (i * j)) oMul:=zbh fun p q s e=>by
 unfold oMul at e
 split at e
 ·rename_i i j
  split at e
  ·rename_i h
   cases e
   refine ⟨_,_,rfl,rfl,?_,rfl⟩
   simp only [mulOk,or_eq_true,and_eq_true,decide_eq_true_eq] at h
   exact h
  ·cases e
 ·cases e
theorem zgG:Does K (rI (fun _ j=>0 < j) fun i j=>.int (i % j)) oMod:=zbh fun p q s e=>by
 unfold oMod at e
 split at e
 ·split at e
  ·rename_i h; cases e; exact ⟨_,_,rfl,rfl,h,rfl⟩
  ·cases e
 ·cases e
theorem zgr:Does K (rI CPow fun i j=>.int (i ^ j.toNat)) oPow:=zbh fun p q s e=>by
 unfold oPow at e
 split at e
 ·split at e
  ·rename_i h; cases e; exact ⟨_,_,rfl,rfl,⟨h.1,by lia,h.2.2⟩,rfl⟩
  ·cases e
 ·cases e
def CDivB (i j:Int):Prop:=0 < j/\j < 18446744073709551616
theorem zgl:OpR X (binaryOp .FloorDiv) (rI CDivB fun i j=>.int (i / j)):=opI fun i j _ _ _ _ _ hc q=>by
 have h1:(0:Int) < j:=hc.1
 have h2:j < 18446744073709551616:=hc.2
 refine floordiv_int (by lia) ?_ (.inl (PyProof.noPylong_of_log2 ?_))
 ·rw [Int.fdiv_eq_ediv_of_nonneg _ (by lia)]; exact q
 ·have h0:j.natAbs≠0:=by lia
  have:j.natAbs.log2 < 64:=(Nat.log2_lt h0).mpr (by lia)
  lia
theorem zfc:Does K (rI CDivB fun i j=>.int (i / j)) oFdiv:=zbh fun p q s e=>by
 unfold oFdiv at e
 split at e
 ·split at e
  ·rename_i h; cases e; exact ⟨_,_,rfl,rfl,h,rfl⟩
  ·cases e
 ·cases e
end
section
variable {X:Cx} {a b:Expr} {wa wb:WE} {pos:Pos}
theorem zaw (ha:FE X a wa) (hb:FE X b wb):FE X (.BinOp a .Add b pos) (wBin oAdd wa wb):=zb6 (fun _ _=>zeT) zf8 ha hb
theorem zg9 (ha:FE X a wa) (hb:FE X b wb):FE X (.BinOp a .Sub b pos) (wBin oSub wa wb):=zb6 (fun _ _=>zir) zgh ha hb
theorem zbz (ha:FE X a wa) (hb:FE X b wb):FE X (.BinOp a .Mod b pos) (wBin oMod wa wb):=zb6 (fun _ _=>zkz) zgG ha hb
theorem zfT (ha:FE X a wa) (hb:FE X b wb):FE X (.BinOp a .FloorDiv b pos) (wBin oFdiv wa wb):=zb6 (fun _ _=>zgl) zfc ha hb
theorem zj9 (ha:FE X a wa) (hb:FE X b wb):FE X (.BinOp a .Pow b pos) (wBin oPow wa wb):=zb6 (fun _ _=>zjs) zgr ha hb
end
section
variable {X:Cx} {pins:List (Addr×Obj)} {σ:St} {H:Hp} {s:Shared}
open PySem.SeqAt
theorem zeX (h:clash (.tup l) (.tup m)=false):clashs l m=false:=h
theorem zbb:∀ {l m:List D} {j:Nat} {a b:D},clashs l m=false->l[j]?=some a->m[j]?=some b->clash a b=false
 | [],_,_,_,_,_,h,_=>by simp at h
 | _::_,[],_,_,_,_,_,h=>by simp at h
 | x::l,y::m,0,a,b,h,h1,h2=>by
   simp at h1 h2
   subst h1 h2
   have h':(clash x y || clashs l m)=false:=h
   rw [Bool.or_eq_false_iff] at h'
   exact h'.1
 | x::l,y::m,j + 1,a,b,h,h1,h2=>by
   have h':(clash x y || clashs l m)=false:=h
   rw [Bool.or_eq_false_iff] at h'
   exact zbb h'.2 (by simpa using h1) (by simpa using h2)
theorem zct:∀ {l:List D} {j:Nat} {a:D},l[j]?=some a->dep a<=deps l
 | [],_,_,h=>by simp at h
 | x::l,0,a,h=>by
   simp at h
   subst h
   show dep x<=max (dep x) (deps l)
   lia
 | x::l,j + 1,a,h=>by
   have:=zct (l:=l) (j:=j) (a:=a) (by simpa using h)
   show dep a<=max (dep x) (deps l)
   lia
open Classical in
theorem zdJ {l m:List D} (n:Nat) (hn:n=min l.length m.length):((List.range n).all (fun j=>decide (l[j]?=m[j]?)) && (l.length == m.length))=decide (l=m):=by
 by_cases h:l=m
 ·subst h
  simp
 ·rw [decide_eq_false h]
  by_cases hl:l.length=m.length
  ·have:(List.range n).all (fun j=>decide (l[j]?=m[j]?))=false:=by
    cases q:(List.range n).all (fun j=>decide (l[j]?=m[j]?)) with
    | false=>rfl
    | true=>
      exfalso
      apply h
      apply ext_getElem?
      intro j
      by_cases hj:j < n
      ·exact of_decide_eq_true (all_eq_true.mp q j (by simpa using hj))
      ·rw [getElem?_eq_none (by lia),getElem?_eq_none (by lia)]
   rw [this]; rfl
  ·have:(l.length == m.length)=false:=by simpa using hl
   rw [this,Bool.and_false]
inductive Sc:V->D->Prop
 | non:Sc .non .non
 | bl (b:Bool):Sc (.bl b) (.bl b)
 | int (i:Int):Sc (.int i) (.int i)
 | str {x:Str} {l:List Nat}:x.cps.toList=l->Sc (.str x) (.str l)
theorem zkJ {K:W.Frag} (r:Rep K H v d) (hc:clash d e=false) (h1:∀ l,d≠.tup l) (h2:∀ l,d≠.lst l):Sc v d:=by
 cases r with
 | tup=>exact absurd rfl (h1 _)
 | lst=>exact absurd rfl (h2 _)
 | dK=>cases e <;> cases hc
 | dT=>cases e <;> cases hc
 | st=>cases e <;> cases hc
 | exc=>cases e <;> cases hc
 | non=>exact .non
 | bl=>exact .bl _
 | int=>exact .int _
 | str e _=>exact .str e
theorem zg2 {K:W.Frag} (r:Rep K H u e) (s:Sc v d) (hc:clash d e=false):Sc u e:=by
 cases r with
 | non=>exact .non
 | bl=>exact .bl _
 | int=>exact .int _
 | str e _=>exact .str e
 | _=>cases s <;> cases hc
open Classical in
theorem zeH {K:W.Frag} (r1:Rep K H v d) (r2:Rep K H u e) (rv:RelV v vv) (ru:RelV u uu) (hc:clash d e=false) (h1:∀ l,d≠.tup l) (h2:∀ l,d≠.lst l):
  EqAt A s vv uu (decide (d=e))/\RcAt A s vv uu (decide (d=e)):=by
 have s1:=zkJ r1 hc h1 h2
 have s2:=zg2 r2 s1 hc
 clear r1 r2 h1 h2
 cases s1 with
 | non=>
   cases rv
   cases s2 with
   | non=>cases ru; simp; exact ⟨EqAt.same _,RcAt.none_none⟩
   | bl b=>cases ru; simp; exact ⟨EqAt.none_bool _,RcAt.none_bool _⟩
   | int i=>obtain ⟨t,rfl⟩:=ru; simp; exact ⟨EqAt.none_int _ _,RcAt.none_int _ _⟩
   | str e=>obtain ⟨t,rfl⟩:=ru; simp; exact ⟨EqAt.none_str _ _,RcAt.none_str _ _⟩
 | bl a=>
   cases rv
   cases s2 with
   | non=>cases ru; simp; exact ⟨EqAt.bool_none _,RcAt.bool_none _⟩
   | bl b=>
     cases ru
     have e:(decide (D.bl a=D.bl b))=(a == b):=by cases a <;> cases b <;> simp
     rw [e]; exact ⟨EqAt.bool_bool _ _,RcAt.bool_bool _ _⟩
   | str e=>obtain ⟨t,rfl⟩:=ru; simp; exact ⟨EqAt.bool_str _ _ _,RcAt.bool_str _ _ _⟩
   | int=>cases hc
 | int i=>
   obtain ⟨t,rfl⟩:=rv
   cases s2 with
   | non=>cases ru; simp; exact ⟨EqAt.int_none _ _,RcAt.int_none _ _⟩
   | int j=>
     obtain ⟨t',rfl⟩:=ru
     have e:(decide (D.int i=D.int j))=(i == j):=by by_cases h:i=j <;> simp [h]
     rw [e]; exact ⟨EqAt.int_int _ _ _ _,RcAt.int_int _ _ _ _⟩
   | str e=>obtain ⟨t',rfl⟩:=ru; simp; exact ⟨EqAt.int_str _ _ _ _,RcAt.int_str _ _ _ _⟩
   | bl=>cases hc
 | str e1=>
   obtain ⟨t,rfl⟩:=rv
   cases s2 with
   | non=>cases ru; simp; exact ⟨EqAt.str_none _ _,RcAt.str_none _ _⟩
   | bl b=>cases ru; simp; exact ⟨EqAt.str_bool _ _ _,RcAt.str_bool _ _ _⟩
   | int j=>obtain ⟨t',rfl⟩:=ru; simp; exact ⟨EqAt.str_int _ _ _ _,RcAt.str_int _ _ _ _⟩
   | str e2=>
     obtain ⟨t',rfl⟩:=ru
     rename_i x l y m
     have e:(decide (D.str l=D.str m))=(x == y):=by
      by_cases h:x=y
      ·subst h
       rw [<- e1,<- e2]; simp
      ·have hb:(x == y)=false:=by simpa using h
       rw [hb]
       refine decide_eq_false fun q=>h ?_
       obtain ⟨⟨a⟩⟩:=x
       obtain ⟨⟨b⟩⟩:=y
       have a1:a=l:=e1
       have b1:b=m:=e2
       rw [a1,b1,D.str.inj q]
     rw [e]; exact ⟨EqAt.str_str _ _ _ _,RcAt.str_str _ _ _ _⟩
theorem zaB (r:Vals xs us) (h:j < us.toArray.size):∃ x,xs[j]?=some x/\RelV x us.toArray[j]:=by
 have hl:=r.length
 have hj:j < us.length:=by simpa using h
 have hj':j < xs.length:=by lia
 obtain ⟨u,hu,ru⟩:=r.get (i:=j) (x:=xs[j]) (by simp [hj'])
 refine ⟨xs[j],by simp [hj'],?_⟩
 have:us.toArray[j]=u:=by
  have:=qh.mp hu
  simpa using this.2
 rw [this]; exact ru
mutual
theorem Rep.uniq (I:Inv X pins σ H s) (r:Rep X.K H v d) (q:Rep X.K H v e) (hc:clash d e=false):d=e:=by
 cases r with
 | non=>cases q; rfl
 | bl _=>cases q; rfl
 | int _=>cases q; rfl
 | str e1 _=>cases q with | str e2 _=>rw [<- e1,<- e2]
 | tup e1 r1=>cases q with
   | tup e2 r2=>
     cases I.tuple_inj (SqT.of e1) (SqT.of e2)
     rw [Reps.uniq I r1 r2 hc]
   | _=>cases hc
 | lst e1 r1=>cases q with
   | lst e2 r2=>
     cases I.list_inj e1 e2
     rw [Reps.uniq I r1 r2 hc]
   | _=>cases hc
 | dK=>cases e <;> cases hc
 | dT=>cases e <;> cases hc
 | st=>cases e <;> cases hc
 | exc=>cases e <;> cases hc
theorem Reps.uniq (I:Inv X pins σ H s) (r:Reps X.K H v d) (q:Reps X.K H v e) (hc:clashs d e=false):d=e:=by
 cases r with
 | nil=>cases q; rfl
 | @cons _ a _ l a1 b1=>cases q with
   | @cons _ b _ m a2 b2=>
     have h':(clash a b || clashs l m)=false:=hc
     rw [Bool.or_eq_false_iff] at h'
     rw [Rep.uniq I a1 a2 h'.1,Reps.uniq I b1 b2 h'.2]
end
open Classical in
theorem zhp:∀ (n:Nat) {A:Around} {v u:V} {vv uu:Value} {d e:D},dep d<=n->Inv X pins σ H s->Rep X.K H v d->Rep X.K H u e->RelV v vv->RelV u uu->clash d e=false->A.units + n < cLine->
  EqAt A s vv uu (decide (d=e))/\RcAt A s vv uu (decide (d=e)):=by
 intro n
 induction n with
 | zero=>
   intro A v u vv uu d e hd I r1 r2 rv ru hc hu
   exact zeH r1 r2 rv ru hc (fun l z=>by subst z; exact absurd hd (by show ¬ deps l + 1<=0; lia)) (fun l z=>by subst z; exact absurd hd (by show ¬ deps l + 1<=0; lia))
 | succ n ih=>
   intro A v u vv uu d e hd I r1 r2 rv ru hc hu
   have hin:A.in1.units + n < cLine:=by show A.units + 1 + n < cLine; lia
   cases r1 with
   | tup e1 q1=>
     cases r2 with
     | tup e2 q2=>
       rename_i a xs l b ys m
       cases rv
       cases ru
       obtain ⟨its,w1,p1,_⟩:=I.tuple (SqT.of e1)
       obtain ⟨its2,w2,p2,_⟩:=I.tuple (SqT.of e2)
       have hdl:deps l<=n:=by have:deps l + 1<=n + 1:=hd; lia
       have el1:its.toArray.size=l.length:=by rw [size_toArray,<- w1.length,q1.len]
       have el2:its2.toArray.size=m.length:=by rw [size_toArray,<- w2.length,q2.len]
       have items:∀ j (h1:j < its.toArray.size) (h2:j < its2.toArray.size),EqAt A.in1 s its.toArray[j] its2.toArray[j] (decide (l[j]?=m[j]?)):=fun j h1 h2=>by
        obtain ⟨x,hx,rx⟩:=zaB w1 h1
        obtain ⟨y,hy,ry⟩:=zaB w2 h2
        have hj1:j < l.length:=by lia
        have hj2:j < m.length:=by lia
        obtain ⟨x',hx',rp1⟩:=q1.get (i:=j) (d:=l[j]) (by simp [hj1])
        obtain ⟨y',hy',rp2⟩:=q2.get (i:=j) (d:=m[j]) (by simp [hj2])
        rw [hx] at hx'; cases hx'
        rw [hy] at hy'; cases hy'
        have:=(ih (A:=A.in1) (le_trans (zct (l:=l) (j:=j) (by simp [hj1])) hdl) I rp1 rp2 rx ry (zbb (j:=j) (a:=l[j]) (b:=m[j]) (zeX hc) (by simp [hj1]) (by simp [hj2])) hin).1
        have e:decide (l[j]?=m[j]?)=decide (l[j]=m[j]):=by simp [hj1,hj2]
        rw [e]; exact this
       have hrc:RcAt A s (.ref a) (.ref b) (decide (D.tup l=D.tup m)):=by
        have:=RcAt.tuples (s:=s) (show s.heap.IsTuple a its.toArray from p1) (show s.heap.IsTuple b its2.toArray from p2) (by lia) items
        rw [el1,el2,zdJ (l:=l) (m:=m) _ rfl] at this
        have e:decide (D.tup l=D.tup m)=decide (l=m):=by by_cases h:l=m <;> simp [h]
        rw [e]; exact this
       refine ⟨?_,hrc⟩
       by_cases hab:a=b
       ·subst hab
        have hxy:l=m:=by
         have z:=Rep.uniq I (.tup e1 q1) (.tup e2 q2) hc
         cases z; rfl
        subst hxy
        simp
        exact EqAt.same _
       ·exact EqAt.of_refs hab hrc
     | _=>cases hc
   | lst e1 q1=>
     cases r2 with
     | lst e2 q2=>
       rename_i a xs l b ys m
       cases rv
       cases ru
       obtain ⟨its,w1,p1,_⟩:=I.list e1
       obtain ⟨its2,w2,p2,_⟩:=I.list e2
       have hdl:deps l<=n:=by have:deps l + 1<=n + 1:=hd; lia
       have el1:its.toArray.size=l.length:=by rw [size_toArray,<- w1.length,q1.len]
       have el2:its2.toArray.size=m.length:=by rw [size_toArray,<- w2.length,q2.len]
       have items:∀ j (h1:j < its.toArray.size) (h2:j < its2.toArray.size),EqAt A.in1 s its.toArray[j] its2.toArray[j] (decide (l[j]?=m[j]?)):=fun j h1 h2=>by
        obtain ⟨x,hx,rx⟩:=zaB w1 h1
        obtain ⟨y,hy,ry⟩:=zaB w2 h2
        have hj1:j < l.length:=by lia
        have hj2:j < m.length:=by lia
        obtain ⟨x',hx',rp1⟩:=q1.get (i:=j) (d:=l[j]) (by simp [hj1])
        obtain ⟨y',hy',rp2⟩:=q2.get (i:=j) (d:=m[j]) (by simp [hj2])
        rw [hx] at hx'; cases hx'
        rw [hy] at hy'; cases hy'
        have hc':clashs l m=false:=hc
        have:=(ih (A:=A.in1) (le_trans (zct (l:=l) (j:=j) (by simp [hj1])) hdl) I rp1 rp2 rx ry (zbb (j:=j) (a:=l[j]) (b:=m[j]) hc' (by simp [hj1]) (by simp [hj2])) hin).1
        have e:decide (l[j]?=m[j]?)=decide (l[j]=m[j]):=by simp [hj1,hj2]
        rw [e]; exact this
       have hrc:RcAt A s (.ref a) (.ref b) (decide (D.lst l=D.lst m)):=by
        have e:decide (D.lst l=D.lst m)=decide (l=m):=by by_cases h:l=m <;> simp [h]
        rw [e]
        by_cases hlen:l.length=m.length
        ·have:=RcAt.lists (s:=s) p1.isList p2.isList (by lia) (by lia) items
         rw [el1] at this
         have e2:=zdJ (l:=l) (m:=m) l.length (by lia)
         have e3:(l.length == m.length)=true:=by simpa using hlen
         rw [e3,Bool.and_true] at e2
         rw [<- e2]; exact this
        ·have:=RcAt.lists_lengths (A:=A) (s:=s) p1.isList p2.isList (by simp only [el1,el2]; simpa using hlen) (by lia)
         have e2:decide (l=m)=false:=decide_eq_false fun z=>hlen (by rw [z])
         rw [e2]; exact this
       refine ⟨?_,hrc⟩
       by_cases hab:a=b
       ·subst hab
        have hxy:l=m:=by
         have z:=Rep.uniq I (.lst e1 q1) (.lst e2 q2) hc
         cases z; rfl
        subst hxy
        simp
        exact EqAt.same _
       ·exact EqAt.of_refs hab hrc
     | _=>cases hc
   | _=>exact zeH (by first | exact .non | exact .bl _ | exact .int _ | (rename_i e z; exact .str e z) | (rename_i e k r; exact .dK e k r) | (rename_i e k r; exact .dT e k r) | (rename_i e r; exact .st e r) | (rename_i e k z; exact .exc e k z)) r2 rv ru hc (fun l z=>by cases z) (fun l z=>by cases z)
end
section
variable {X:Cx} {K:W.Frag}
open PySem.SeqAt
open Classical in
def rEqD (K:W.Frag):R2:=fun x y H Q=>∃ p q,Rep K H x p/\Rep K H y q/\clash p q=false/\dep p<=30/\Q (.bl (decide (p=q))) H
theorem zbe (hu:X.A.units + 31 < cLine):OpR X (compareOp .Eq) (rEqD X.K):=by
 intro pins s σ H x y v u Q I rx ry h
 obtain ⟨p,q,r1,r2,hc,hd,hq⟩:=h
 exact (zhp 30 hd I r1 r2 rx ry hc (by lia)).2 X.prog X.w X.xe _ ⟨.bl _,H,I,rfl,hq⟩
theorem zg7 (h:cEq p q=some k):clash p q=false/\dep p<=30:=by
 grind [cEq]
open Classical in
theorem zeC (h:cEq p q=some k):k=decide (p=q):=by
 unfold cEq at h
 split at h
 ·cases h
 ·exact (qg h).symm
theorem zaK:DoesC K (rEqD K) cEq:=by
 intro H x y p q k Q r1 r2 e hq
 obtain ⟨h1,h2⟩:=zg7 e
 have:=zeC e
 subst this
 exact ⟨p,q,r1,r2,h1,h2,hq⟩
open Classical in
def rNeD (K:W.Frag):R2:=fun x y H Q=>∃ p q,Rep K H x p/\Rep K H y q/\clash p q=false/\dep p<=30/\Q (.bl (!decide (p=q))) H
theorem zdM (I:Inv X pins σ H s) (q1:Reps X.K H xs l) (q2:Reps X.K H ys m) (w1:Vals xs us) (w2:Vals ys ws) (hc:clashs l m=false) (hd:deps l<=30) (hu:A.units + 30 < cLine):
  ∀ j (h1:j < us.toArray.size) (h2:j < ws.toArray.size),EqAt A s us.toArray[j] ws.toArray[j] (open Classical in decide (l[j]?=m[j]?)):=fun j h1 h2=>by
 obtain ⟨x,hx,rx⟩:=zaB w1 h1
 obtain ⟨y,hy,ry⟩:=zaB w2 h2
 have el1:us.toArray.size=l.length:=by rw [size_toArray,<- w1.length,q1.len]
 have el2:ws.toArray.size=m.length:=by rw [size_toArray,<- w2.length,q2.len]
 have hj1:j < l.length:=by lia
 have hj2:j < m.length:=by lia
 obtain ⟨x',hx',rp1⟩:=q1.get (i:=j) (d:=l[j]) (by simp [hj1])
 obtain ⟨y',hy',rp2⟩:=q2.get (i:=j) (d:=m[j]) (by simp [hj2])
 rw [hx] at hx'; cases hx'
 rw [hy] at hy'; cases hy'
 have:=(zhp 30 (A:=A) (le_trans (zct (l:=l) (j:=j) (by simp [hj1])) hd) I rp1 rp2 rx ry (zbb (j:=j) (a:=l[j]) (b:=m[j]) hc (by simp [hj1]) (by simp [hj2])) hu).1
 have e:(open Classical in decide (l[j]?=m[j]?))=(open Classical in decide (l[j]=m[j])):=by simp [hj1,hj2]
 rw [e]; exact this
theorem kindD (p:D):(∃ l,p=.tup l)\/(∃ l,p=.lst l)\/((∀ l,p≠.tup l)/\∀ l,p≠.lst l):=by
 cases p with
 | tup l=>exact .inl ⟨l,rfl⟩
 | lst l=>exact .inr (.inl ⟨l,rfl⟩)
 | _=>exact .inr (.inr ⟨fun l z=>D.noConfusion z,fun l z=>D.noConfusion z⟩)
theorem ziq (h:clash (.tup l) q=false):∃ m,q=.tup m:=by
 cases q with
 | tup m=>exact ⟨m,rfl⟩
 | _=>cases h
theorem zhI (h:clash (.lst l) q=false):∃ m,q=.lst m:=by
 cases q with
 | lst m=>exact ⟨m,rfl⟩
 | _=>cases h
theorem zis (r1:Rep K H x p) (r2:Rep K H y q) (hc:clash p q=false) (h1:∀ l,p≠.tup l) (h2:∀ l,p≠.lst l):scal x y=true/\(p=q↔x=y):=by
 have s1:=zkJ r1 hc h1 h2
 have s2:=zg2 r2 s1 hc
 clear r1 r2 h1 h2
 cases s1 with
 | str e1=>
   cases s2 with
   | str e2=>
     rename_i x l y m
     refine ⟨rfl,fun z=>?_,fun z=>?_⟩
     ·obtain ⟨⟨a⟩⟩:=x
      obtain ⟨⟨b⟩⟩:=y
      grind
     ·cases z
      rw [<- e1,<- e2]
   | _=>exact ⟨rfl,fun z=>D.noConfusion z,fun z=>V.noConfusion z⟩
 | _=>cases s2 <;> first | exact ⟨rfl,fun z=>D.noConfusion z,fun z=>V.noConfusion z⟩ | exact ⟨rfl,fun z=>by cases z; rfl,fun z=>by cases z; rfl⟩ | cases hc
theorem zfL (hu:X.A.units + 32 < cLine):OpR X (compareOp .NotEq) (rNeD X.K):=by
 classical
 intro pins s σ H x y v u Q I rx ry h
 obtain ⟨p,q,r1,r2,hc,hd,hq⟩:=h
 have fin:EP X pins σ Q (.bool (!decide (p=q))) s:=⟨.bl _,H,I,rfl,hq⟩
 have hin:X.A.in1.units + 30 < cLine:=by show X.A.units + 1 + 30 < cLine; lia
 rcases kindD p with ⟨l,rfl⟩ | ⟨l,rfl⟩ | ⟨n1,n2⟩
 ·obtain ⟨m,rfl⟩:=ziq hc
  cases r1 with
  | tup e1 q1=>
  cases r2 with
  | tup e2 q2=>
    rename_i a xs b ys
    cases rx
    cases ry
    obtain ⟨its,w1,p1,_⟩:=I.tuple (SqT.of e1)
    obtain ⟨its2,w2,p2,_⟩:=I.tuple (SqT.of e2)
    have hdl:deps l<=30:=by have:deps l + 1<=30:=hd; lia
    have el1:its.toArray.size=l.length:=by rw [size_toArray,<- w1.length,q1.len]
    have el2:its2.toArray.size=m.length:=by rw [size_toArray,<- w2.length,q2.len]
    have:=RcNeAt.tuples (A:=X.A) (s:=s) (show s.heap.IsTuple a its.toArray from p1) (show s.heap.IsTuple b its2.toArray from p2) (by lia) (zdM I q1 q2 w1 w2 hc hdl hin)
    rw [el1,el2,zdJ (l:=l) (m:=m) _ rfl] at this
    have e:decide (D.tup l=D.tup m)=decide (l=m):=by by_cases h:l=m <;> simp [h]
    rw [e] at fin
    exact this X.prog X.w X.xe _ fin
 ·obtain ⟨m,rfl⟩:=zhI hc
  cases r1 with
  | lst e1 q1=>
  cases r2 with
  | lst e2 q2=>
    rename_i a xs b ys
    cases rx
    cases ry
    obtain ⟨its,w1,p1,_⟩:=I.list e1
    obtain ⟨its2,w2,p2,_⟩:=I.list e2
    have hdl:deps l<=30:=by have:deps l + 1<=30:=hd; lia
    have el1:its.toArray.size=l.length:=by rw [size_toArray,<- w1.length,q1.len]
    have el2:its2.toArray.size=m.length:=by rw [size_toArray,<- w2.length,q2.len]
    have e:decide (D.lst l=D.lst m)=decide (l=m):=by by_cases h:l=m <;> simp [h]
    rw [e] at fin
    by_cases hlen:l.length=m.length
    ·have:=RcNeAt.lists (A:=X.A) (s:=s) p1.isList p2.isList (by lia) (by lia) (zdM I q1 q2 w1 w2 hc hdl hin)
     rw [el1] at this
     have e2:=zdJ (l:=l) (m:=m) l.length (by lia)
     have e3:(l.length == m.length)=true:=by simpa using hlen
     rw [e3,Bool.and_true] at e2
     rw [<- e2] at fin
     exact this X.prog X.w X.xe _ fin
    ·have:=RcNeAt.lists_lengths (A:=X.A) (s:=s) p1.isList p2.isList (by simp only [el1,el2]; simpa using hlen) (by lia)
     have e2:decide (l=m)=false:=decide_eq_false fun z=>hlen (by rw [z])
     rw [e2] at fin
     exact this X.prog X.w X.xe _ fin
 ·obtain ⟨h1,h2⟩:=zis r1 r2 hc n1 n2
  rw [decide_eq_decide.mpr h2] at hq
  exact zlV pins s σ H x y v u Q I rx ry ⟨h1,hq⟩
theorem zds:DoesC K (rNeD K) cNe:=by
 intro H x y p q k Q r1 r2 e hq
 unfold cNe at e
 cases q1:cEq p q with
 | none=>rw [q1] at e; cases e
 | some b=>
   rw [q1] at e
   have e':(!b)=k:=qg e
   obtain ⟨h1,h2⟩:=zg7 q1
   have:=zeC q1
   subst this
   subst e'
   exact ⟨p,q,r1,r2,h1,h2,hq⟩
def rOrd (f:Int->Int->Bool) (g:List Nat->List Nat->Bool):R2:=fun x y H Q=>(∃ i j,x=.int i/\y=.int j/\Q (.bl (f i j)) H)\/∃ i j,x=.str i/\y=.str j/\Q (.bl (g i.cps.toList j.cps.toList)) H
theorem zdr {g:List Nat->List Nat->Bool} (rule:∀ (i j:Str) (t u:Tok) (s:Shared) (Q:Value->Shared->Prop) (E:Value->Shared->Prop),Q (.bool (g i.cps.toList j.cps.toList)) s->wpAny (model X.prog X.w) X.A (compareOp op (.str i t) (.str j u)) Q E s):
  OpR X (compareOp op) (fun x y H Q=>∃ i j,x=.str i/\y=.str j/\Q (.bl (g i.cps.toList j.cps.toList)) H):=by
 intro pins s σ H x y v u Q I rx ry h
 obtain ⟨i,j,rfl,rfl,q⟩:=h
 obtain ⟨t,rfl⟩:=rx
 obtain ⟨t',rfl⟩:=ry
 exact rule i j t t' s _ _ ⟨.bl _,H,I,rfl,q⟩
theorem zjr:OpR X (compareOp .Lt) (rOrd (fun i j=>decide (i < j)) fun l m=>decide (l < m)):=FL.OpR.or zll (zdr (g:=fun l m=>decide (l < m)) fun _ _ _ _ _ _ _ q=>PyProof.Rows.lt_str q)
theorem zeO:OpR X (compareOp .Gt) (rOrd (fun i j=>decide (j < i)) fun l m=>decide (m < l)):=FL.OpR.or zm0 (zdr (g:=fun l m=>decide (m < l)) fun _ _ _ _ _ _ _ q=>PySem.P.gt_str q)
theorem zjp:OpR X (compareOp .GtE) (rOrd (fun i j=>decide (j<=i)) fun l m=>!decide (l < m)):=FL.OpR.or zmR (zdr (g:=fun l m=>!decide (l < m)) fun _ _ _ _ _ _ _ q=>PySem.P.ge_str q)
theorem zch (h:∀ p q k,o p q=some k->(∃ i j,p=.int i/\q=.int j/\k=f i j)\/∃ l m,p=.str l/\q=.str m/\k=g l m):DoesC K (rOrd f g) o:=by
 intro H x y p q k Q r1 r2 e hq
 rcases h p q k e with ⟨i,j,rfl,rfl,rfl⟩ | ⟨l,m,rfl,rfl,rfl⟩
 ·cases r1
  cases r2
  exact .inl ⟨i,j,rfl,rfl,hq⟩
 ·cases r1 with
  | str e1 z1=>cases r2 with
    | str e2 z2=>
      subst e1 e2
      exact .inr ⟨_,_,rfl,rfl,hq⟩
theorem zhD:DoesC K (rOrd (fun i j=>decide (i < j)) fun l m=>decide (l < m)) cLt:=zch fun p q k e=>by
 unfold cLt ltD at e
 split at e
 ·exact .inl ⟨_,_,rfl,rfl,(qg e).symm⟩
 ·exact .inr ⟨_,_,rfl,rfl,(qg e).symm⟩
 ·cases e
theorem zdx:DoesC K (rOrd (fun i j=>decide (j < i)) fun l m=>decide (m < l)) cGt:=zch fun p q k e=>by
 unfold cGt ltD at e
 split at e
 ·exact .inl ⟨_,_,rfl,rfl,(qg e).symm⟩
 ·exact .inr ⟨_,_,rfl,rfl,(qg e).symm⟩
 ·cases e
theorem zhV:DoesC K (rOrd (fun i j=>decide (j<=i)) fun l m=>!decide (l < m)) cGe:=zch fun p q k e=>by
 unfold cGe at e
 split at e
 ·exact .inl ⟨_,_,rfl,rfl,(qg e).symm⟩
 ·exact .inr ⟨_,_,rfl,rfl,(qg e).symm⟩
 ·cases e
end
section
variable {X:Cx} {K:W.Frag}
open PySem.SeqAt
open Classical in
def rInD (K:W.Frag) (neg:Bool):R2:=fun x y H Q=>∃ p l,Rep K H x p/\(Rep K H y (.lst l)\/Rep K H y (.tup l))/\(∀ d∈l,clash d p=false/\dep d<=30)/\Q (.bl (if neg then !decide (p∈l) else decide (p∈l))) H
theorem zbG (I:Inv X pins σ H s) (rx:RelV x v) (r1:Rep X.K H x p) (q1:Reps X.K H xs l) (w1:Vals xs us) (hc:∀ d∈l,clash d p=false/\dep d<=30) (hu:A.units + 30 < cLine):
  ∃ e:Value->Bool,(∀ y,y∈us.toArray->EqAt A s y v (e y))/\us.toArray.any e=(open Classical in decide (p∈l)):=by
 classical
 have item:∀ {y:Value},y∈us->∃ z d,RelV z y/\Rep X.K H z d/\d∈l:=fun {y} hy=>by
  obtain ⟨j,hj,e⟩:=List.getElem_of_mem hy
  obtain ⟨z,hz,rz⟩:=zaB (j:=j) w1 (by simpa using hj)
  have hl:j < l.length:=by rw [<- q1.len,w1.length]; exact hj
  obtain ⟨z',hz',rp⟩:=q1.get (i:=j) (d:=l[j]) (by simp [hl])
  rw [hz] at hz'; cases hz'
  refine ⟨z,l[j],?_,rp,by simp⟩
  have:us.toArray[j]=y:=by simpa using e
  rw [<- this]; exact rz
 refine ⟨fun y=>decide (∃ z,RelV z y/\Rep X.K H z p),fun y hy=>?_,?_⟩
 ·have hy':y∈us:=by simpa using hy
  obtain ⟨z,d,rz,rp,hd⟩:=item hy'
  have hcd:=hc d hd
  have:=(zhp 30 (A:=A) hcd.2 I rp r1 rz rx hcd.1 hu).1
  have e:decide (d=p)=decide (∃ z,RelV z y/\Rep X.K H z p):=by
   by_cases h:d=p
   ·subst h
    rw [decide_eq_true rfl,decide_eq_true ⟨z,rz,rp⟩]
   ·rw [decide_eq_false h]
    refine (decide_eq_false ?_).symm
    rintro ⟨z',rz',rp'⟩
    have:z=z':=rz.inj rz'
    subst this
    exact h (Rep.uniq I rp rp' hcd.1)
  show EqAt A s y v (decide (∃ z,RelV z y/\Rep X.K H z p))
  rw [<- e]; exact this
 ·by_cases h:p∈l
  ·rw [decide_eq_true h]
   obtain ⟨j,hj,e⟩:=List.getElem_of_mem h
   obtain ⟨z,hz,rp⟩:=q1.get (i:=j) (d:=l[j]) (by simp [hj])
   obtain ⟨u,hu',ru⟩:=w1.get hz
   rw [Array.any_eq_true']
   exact ⟨u,by simpa using mem_of_getElem? hu',decide_eq_true ⟨z,ru,e ▸ rp⟩⟩
  ·rw [decide_eq_false h]
   rw [Array.any_eq_false']
   intro y hy z
   obtain ⟨z',rz',rp'⟩:=of_decide_eq_true z
   obtain ⟨z2,d,rz,rp,hd⟩:=item (y:=y) (by simpa using hy)
   have:z2=z':=rz.inj rz'
   subst this
   exact h (Rep.uniq I rp rp' (hc d hd).1 ▸ hd)
theorem zkr (hu:X.A.units + 32 < cLine):OpR X (compareOp .In) (rInD X.K false):=by
 intro pins s σ H x y v u Q I rx ry h
 obtain ⟨p,l,r1,r2,hc,hq⟩:=h
 have hin:X.A.in1.units + 30 < cLine:=by show X.A.units + 1 + 30 < cLine; lia
 rcases r2 with r2 | r2
 ·cases r2 with
  | lst e q=>
    cases ry
    obtain ⟨its,w1,p1,_⟩:=I.list e
    obtain ⟨f,hf,ha⟩:=zbG (A:=X.A.in1) I rx r1 q w1 hc hin
    exact in_listAt f p1.isList hf ⟨.bl _,H,I,rfl,by rw [ha]; exact hq⟩
 ·cases r2 with
  | tup e q=>
    cases ry
    obtain ⟨its,w1,p1,_⟩:=I.tuple (SqT.of e)
    obtain ⟨f,hf,ha⟩:=zbG (A:=X.A.in1) I rx r1 q w1 hc hin
    exact in_tupleAt f (show s.heap.IsTuple _ its.toArray from p1) hf ⟨.bl _,H,I,rfl,by rw [ha]; exact hq⟩
theorem zfr (hu:X.A.units + 32 < cLine):OpR X (compareOp .NotIn) (rInD X.K true):=by
 intro pins s σ H x y v u Q I rx ry h
 obtain ⟨p,l,r1,r2,hc,hq⟩:=h
 have hin:X.A.in1.units + 30 < cLine:=by show X.A.units + 1 + 30 < cLine; lia
 rcases r2 with r2 | r2
 ·cases r2 with
  | lst e q=>
    cases ry
    obtain ⟨its,w1,p1,_⟩:=I.list e
    obtain ⟨f,hf,ha⟩:=zbG (A:=X.A.in1) I rx r1 q w1 hc hin
    exact notIn_listAt f p1.isList hf ⟨.bl _,H,I,rfl,by rw [ha]; exact hq⟩
 ·cases r2 with
  | tup e q=>
    cases ry
    obtain ⟨its,w1,p1,_⟩:=I.tuple (SqT.of e)
    obtain ⟨f,hf,ha⟩:=zbG (A:=X.A.in1) I rx r1 q w1 hc hin
    exact notIn_tupleAt f (show s.heap.IsTuple _ its.toArray from p1) hf ⟨.bl _,H,I,rfl,by rw [ha]; exact hq⟩
end
section
variable {K:W.Frag} {F H G:Hp} {σ:St} {U:Env}
theorem zfD (hl:xs.length=l.length) (h:atI l i=some d):∃ j,ixN l.length i=some j/\l[j]?=some d/\∀ x,xs[j]?=some x->L2.atI xs i=some x:=by
 unfold atI at h
 cases q:ixN l.length i with
 | none=>rw [q] at h; cases h
 | some j=>
   rw [q] at h
   refine ⟨j,rfl,h,fun x hx=>?_⟩
   have e:L2.ixN xs.length i=some j:=by rw [hl]; exact q
   unfold L2.atI
   rw [e]; exact hx
theorem Reps.atI (r:Reps K F xs l) (h:FL.atI l i=some d):∃ x,L2.atI xs i=some x/\Rep K F x d:=by
 obtain ⟨j,_,h1,h2⟩:=zfD (xs:=xs) r.len h
 obtain ⟨x,hx,rx⟩:=r.get h1
 exact ⟨x,h2 x hx,rx⟩
theorem SReps.get {j:Nat} (r:SReps K F H xs l fp) (h:l[j]?=some t):∃ x fa fi fb,xs[j]?=some x/\SRep K F H x t fi/\fp=fa++(fi++fb):=
 SReps.ind (P:=fun xs l fp=>∀ j t,l[j]?=some t->∃ x fa fi fb,xs[j]?=some x/\SRep K F H x t fi/\fp=fa++(fi++fb)) (fun _ _ e=>by cases e) (fun a _ ih j t e=>by
  cases j with
  | zero=>cases e; exact ⟨_,[],_,_,rfl,a,rfl⟩
  | succ j=>
    obtain ⟨x,fa,fi,fb,h1,h2,rfl⟩:=ih j t e
    exact ⟨x,_++fa,fi,fb,h1,h2,(append_assoc ..).symm⟩) r j t h
theorem Rel.item {j:Nat} (r:Rel K (U++[some (.lst l)]) (σ++[some (.ref a)]) F G H) (h:l[j]?=some t):∃ xs x,H a=some (.lst xs)/\xs.length=l.length/\xs[j]?=some x/\Rel K (U++[some t]) (σ++[some x]) F G H:=by
 obtain ⟨fp,e,nd,ap⟩:=r.en
 obtain ⟨f1,f2,rfl,en,b⟩:=e.cut (len1 r)
 cases b with
 | so sr nl=>
   cases nl
   cases sr with
   | lst hD rl=>
     rename_i xs fl
     obtain ⟨x,fa,fi,fb,h1,h2,rfl⟩:=rl.get h
     refine ⟨xs,x,hD,rl.len,h1,r.fr,r.gr,f1++(fi++[]),en.app (.so h2 .nil),?_,fun y hy=>ap y ?_⟩
     ·have sub:List.Sublist (f1++(fi++[])) (f1++(a::(fa++(fi++fb))++[])):=by
       refine List.Sublist.append (List.Sublist.refl _) ?_
       simp only [append_nil]
       exact (List.Sublist.cons _ ((List.sublist_append_left fi fb).trans (List.sublist_append_right fa _)))
      exact sub.nodup nd
     ·rcases mem_append.mp hy with z | z
      ·exact qk _ z
      ·refine qj _ ?_
       simp only [append_nil] at z ⊢
       exact qm _ (qj _ (qk _ z))
end
section
variable {X:Cx} {a b:Expr} {wa wb:WE} {pos:Pos}
theorem zhq {K:W.Frag} (e:SqT K H c xs) (r:Reps K F xs l) (h:atI l i=some d) (hq:∀ x,Rep K F x d->Q x H):rIx K (.ref c) (.int i) H Q:=by
 obtain ⟨x,hx,rx⟩:=r.atI h
 exact .inr (.inl ⟨c,xs,i,x,rfl,rfl,e,hx,hq x rx⟩)
theorem zht {K:W.Frag} (e:SqL K H c xs) (r:Reps K F xs l) (h:atI l i=some d) (hq:∀ x,Rep K F x d->Q x H):rIx K (.ref c) (.int i) H Q:=by
 obtain ⟨x,hx,rx⟩:=r.atI h
 exact .inl ⟨c,xs,i,x,rfl,rfl,e,hx,hq x rx⟩
theorem zhA (h:ixS s q=some t):(∃ l i d,s=.sh (.tup l)/\q=.int i/\atI l i=some d/\t=.sh d)\/(∃ l i d,s=.sh (.lst l)/\q=.int i/\atI l i=some d/\t=.sh d)\/
  (∃ l i c,s=.sh (.str l)/\q=.int i/\atI l i=some c/\t=.sh (.str [c]))\/∃ l i,s=.lst l/\q=.int i/\atI l i=some t:=by
 unfold ixS at h
 split at h
 ·obtain ⟨d,e,e'⟩:=map_eq_some_iff.mp h
  exact .inl ⟨_,_,d,rfl,rfl,e,e'.symm⟩
 ·obtain ⟨d,e,e'⟩:=map_eq_some_iff.mp h
  exact .inr (.inl ⟨_,_,d,rfl,rfl,e,e'.symm⟩)
 ·obtain ⟨d,e,e'⟩:=map_eq_some_iff.mp h
  exact .inr (.inr (.inl ⟨_,_,d,rfl,rfl,e,e'.symm⟩))
 ·exact .inr (.inr (.inr ⟨_,_,rfl,rfl,h⟩))
 ·cases h
theorem zdh {K:W.Frag} (h:SRep K F H v (.sh d) fp):Rep K F v d:=by cases h; assumption
theorem zdU {K:W.Frag} (h:SRep K F H v (.lst l) fp):∃ a xs fq,v=.ref a/\H a=some (.lst xs)/\SReps K F H xs l fq:=by
 cases h with
 | lst h1 h2=>exact ⟨_,_,_,rfl,h1,h2⟩
theorem zhb {K:W.Frag} (fr:Same F H) (r:Rep K F v d) (ru:Rep K F2 u q) (et:ixS (.sh d) q=some t) (done:∀ e x,t=.sh e->Rep K F x e->Q x H):rIx K v u H Q:=by
 rcases zhA et with ⟨l,i,e,e1,rfl,ed,rfl⟩ | ⟨l,i,e,e1,rfl,ed,rfl⟩ | ⟨l,i,c,e1,rfl,ec,rfl⟩ | ⟨l,i,e1,_⟩
 ·injection e1 with e1
  subst e1
  obtain rfl:=RepE.int (H:=H) (.inl ru)
  obtain ⟨a,xs,rfl,h1,r1⟩:=RepE.tup (H:=H) (.inl r)
  exact zhq (SqT.of (fr _ _ h1)) r1 ed fun x rx=>done _ x rfl rx
 ·injection e1 with e1
  subst e1
  obtain rfl:=RepE.int (H:=H) (.inl ru)
  obtain ⟨a,xs,rfl,h1,r1⟩:=RepE.lst (H:=H) fr (.inl r)
  exact zht h1 r1 ed fun x rx=>done _ x rfl rx
 ·injection e1 with e1
  subst e1
  obtain rfl:=RepE.int (H:=H) (.inl ru)
  obtain ⟨x,rfl,h1,z⟩:=RepE.str (H:=H) (.inl r)
  exact .inr (.inr ⟨_,i,c,rfl,rfl,by rw [zbq h1,sizeLine_eq]; exact z,by rw [h1]; exact ec,done _ _ rfl (.str rfl (by show 1<=_; decide))⟩)
 ·cases e1
theorem ze8 (h:ixS (.lst l) q=some t):∃ i,q=.int i/\atI l i=some t:=by
 cases q with
 | int i=>exact ⟨i,rfl,h⟩
 | _=>cases h
theorem zaG (ha:FE X a wa) (hb:FE X b wb) (hs:PlainIx b:=by intro _ _; rfl):FE X (.Subscript a b pos) (wIx wa wb):=fun pn xe hp=>by
 refine PE.imp (zk1 (zjy (X:=wp X pn xe)) (ha pn xe hp) (hb pn xe hp) hs) fun σ H Q q=>?_
 refine (two (k:=fun x y U2 Q E=>need (view y U2) fun q=>match x with
  | .v s=>need (ixS s q) fun t=>Q (.v t) U2
  | .loc i=>match slot U2 i with
    | some s=>match ixS s q with
      | some (.sh d)=>Q (.v (.sh d)) U2
      | _=>False
    | none=>False) q).mono fun v H1 h1=>h1.mono fun u H2 h2=>?_
 obtain ⟨F,G,U,x,y,P,PX,rel,hl,rx,ry,hk,hok,hx⟩:=h2
 obtain ⟨q,eq,hk⟩:=zae hk
 have relx:Rel X.K (U++[slotOf x]) (σ++[some v]) F G H2:=by
  have:=Rel.swap (U1:=[slotOf x]) (σ1:=[some v]) (U2:=[slotOf y]) (σ2:=[some u]) hl rfl rel
  exact Rel.mid (U:=U) (σ:=σ) this hl
 have rely:Rel X.K (U++[slotOf y]) (σ++[some u]) F G H2:=rel.mid hl
 have ru:=look (U':=[]) (σ':=[]) rely hl ry eq
 have done:∀ {d:D} {x:V},P (.v (.sh d)) U->Rep X.K F x d->Q x H2:=fun hP r=>hok _ U _ F H2 hP (Same.refl F) ((relx.drop hl).push r) trivial
 cases x with
 | v s=>
   obtain ⟨t,et,hP⟩:=zae hk
   obtain ⟨w,fp,e1,sr⟩:=relx.at (i:=U.length) (s:=s) zap
   rw [hl,getElem?_append_right (le_refl _),sub_self] at e1
   have e2:v=w:=by simpa using e1
   subst e2
   cases s with
   | sh d=>exact zhb relx.fr (zdh sr) ru et fun e x z rx=>done (by rw [<- z]; exact hP) rx
   | lst l=>
     obtain ⟨i,rfl,et⟩:=ze8 et
     obtain rfl:=RepE.int (H:=H2) (.inl ru)
     obtain ⟨a,ys,fq,rfl,hD,rl⟩:=zdU sr
     obtain ⟨j,_,hj,hat⟩:=zfD rl.len et
     obtain ⟨xs,x,hD',hlen,hxj,r2⟩:=Rel.item relx hj
     rw [hD] at hD'
     cases hD'
     exact .inl ⟨_,_,i,x,rfl,rfl,SqL.of hD,hat x hxj,hok _ U _ F H2 hP (Same.refl F) r2 trivial⟩
   | _=>cases q <;> cases et
 | loc k=>
   dsimp only at hk
   cases qs:slot U k with
   | none=>rw [qs] at hk; exact hk.elim
   | some s=>
     rw [qs] at hk
     dsimp only at hk
     split at hk
     ·rename_i d et
      obtain ⟨w,fp,e1,sr⟩:=(relx.drop hl).at qs
      have rx':σ[k]?=some (some v):=rx
      rw [rx'] at e1
      have e2:v=w:=by simpa using e1
      subst e2
      cases s with
      | sh d'=>exact zhb relx.fr (zdh sr) ru et fun e x z rx=>done (by injection z with z; rw [<- z]; exact hk) rx
      | lst l=>
        obtain ⟨i,rfl,et⟩:=ze8 et
        obtain rfl:=RepE.int (H:=H2) (.inl ru)
        obtain ⟨a,ys,fq,rfl,hD,rl⟩:=zdU sr
        obtain ⟨j,_,hj,hat⟩:=zfD rl.len et
        obtain ⟨x,fa,fi,fb,hxj,sx,_⟩:=rl.get hj
        exact .inl ⟨_,_,i,x,rfl,rfl,SqL.of hD,hat x hxj,done hk (zdh sx)⟩
      | _=>cases q <;> cases et
     ·exact hk.elim
end
section
variable {K:W.Frag} {F H G:Hp} {σ:St} {U:Env}
theorem SReps.set:∀ {xs:List V} {l:List S} {fp:List Addr} {m:Nat},SReps K F H xs l fp->m < l.length->∃ fa fi fb,fp=fa++(fi++fb)/\
  ∀ {H':Hp} {v:V} {s:S} {fq:List Addr},(∀ a∈fa++fb,H' a=H a)->SRep K F H' v s fq->SReps K F H' (xs.set m v) (l.set m s) (fa++(fq++fb))
 | _,_,_,_,.nil,h=>by simp at h
 | _,_,_,0,.cons (fp:=fp) (fq:=fq) a b,h=>⟨[],fp,fq,rfl,fun hk r=>by rw [nil_append]; exact .cons r (b.mono (Same.refl F) fun c hc=>hk c hc)⟩
 | _,_,_,m + 1,.cons (fp:=fp) (fq:=fq) a b,h=>by
   obtain ⟨fa,fi,fb,rfl,up⟩:=SReps.set (m:=m) b (by simpa using h)
   refine ⟨fp++fa,fi,fb,(append_assoc ..).symm,fun hk r=>?_⟩
   rw [append_assoc]
   exact .cons (a.mono (Same.refl F) fun c hc=>hk c (qk _ (qk _ hc))) (up (fun c hc=>hk c ((mem_append.mp hc).elim (fun z=>qk _ (qj _ z)) fun z=>qj _ z)) r)
theorem zbB (h:σ[n]?=some (some v)):σ.set n (some v)=σ:=by
 apply ext_getElem?
 intro j
 by_cases hj:n=j
 ·subst hj
  rw [getElem?_set_self (qh.mp h).1,h]
 ·rw [getElem?_set_ne hj]
theorem Rel.setItem {D:Addr} (r:Rel K (U++[some s]) (σ++[some v]) F G H) (hs:slot U n=some (.lst l)) (hσ:σ[n]?=some (some (.ref D))) (hm:m < l.length):
  ∃ xs,H D=some (.lst xs)/\xs.length=l.length/\Rel K (U.set n (some (.lst (l.set m s)))) σ F G (upd H D (.lst (xs.set m v))):=by
 have hl:=len1 r
 obtain ⟨fp,e,nd,ap⟩:=r.en
 obtain ⟨f1,f2,rfl,a,b⟩:=e.cut hl
 obtain ⟨v',fa,fi,fb,e1,rfl,q,up⟩:=a.at hs
 rw [hσ] at e1
 have e2:V.ref D=v':=by simpa using e1
 subst e2
 cases q with
 | lst hD rl=>
   rename_i xs fl
   cases b with
   | so sr nl=>
     cases nl
     rename_i fs
     obtain ⟨ga,gi,gb,rfl,sup⟩:=rl.set hm
     refine ⟨xs,hD,rl.len,?_⟩
     obtain ⟨n1,n2,n12⟩:=nodup_append.mp nd
     obtain ⟨na,nib,nab⟩:=nodup_append.mp n1
     obtain ⟨ni,nb,nib⟩:=nodup_append.mp nib
     obtain ⟨nD,nfl⟩:=nodup_cons.mp ni
     have hDa:D∉fa:=fun z=>nab D z D (qk _ qo) rfl
     have hDb:D∉fb:=fun z=>nib D qo D z rfl
     have hDs:D∉fs:=fun z=>n12 D (qj _ (qk _ qo)) D (by simpa using z) rfl
     have apD:=ap D (qk _ (qj _ (qk _ qo)))
     have ne:∀ {l:List Addr},D∉l->∀ x∈l,upd H D (.lst (xs.set m v)) x=H x:=fun h x hx=>zaf fun z=>h (z ▸ hx)
     have hDg:D∉ga++gb:=fun z=>nD ((mem_append.mp z).elim (fun w=>qk _ w) fun w=>qj _ (qj _ w))
     have new:SRep K F (upd H D (.lst (xs.set m v))) (.ref D) (.lst (l.set m s)) (D::(ga++(fs++gb))):=.lst zai (sup (ne hDg) (sr.mono (Same.refl F) (ne hDs)))
     have a2:=up (F':=F) (H':=upd H D (.lst (xs.set m v))) (o:=some (.lst (l.set m s))) (u:=some (.ref D)) (Same.refl F) (fun x hx=>zaf fun z=>(mem_append.mp hx).elim (fun w=>hDa (z ▸ w)) fun w=>hDb (z ▸ w)) (.so new .nil)
     rw [zbB hσ] at a2
     have sub:∃ l2,l2.Perm (fa++((D::(ga++(gi++gb)))++fb)++(fs++[]))/\List.Sublist (fa++((D::(ga++(fs++gb)))++[]++fb)) l2:=by
      refine ⟨fa++((D::(ga++(fs++(gi++gb))))++[]++fb),?_,?_⟩
      ·simp only [append_nil,append_assoc,cons_append]
       refine List.Perm.append_left _ (List.Perm.cons _ (List.Perm.append_left _ ?_))
       exact perm_append_comm.trans (by simp)
      first | rfl | assumption | (simp_all; done)
     obtain ⟨l2,p,sb⟩:=sub
     refine ⟨Same.updR r.fr apD.1,fun x o w=>?_,_,a2,sb.nodup (p.nodup_iff.mpr nd),fun x hx=>ap x (p.mem_iff.mp (sb.subset hx))⟩
     have hx:x≠D:=fun z=>by rw [z,apD.2] at w; cases w
     rw [zaf hx]
     exact r.gr x o w
end
section
variable {X:Cx} {ks:List Nat} {pos tpos:Pos}
theorem zdH (ho:FE X o (wVar j)) (hi:FE X i wi) (he:FE X e we) (hs:swapsWithSole [.Subscript o i tpos] e pos.line X.env=pure false:=by rfl) (hw:swappedStores [.Subscript o i tpos] e X.env=pure none:=by rfl)
  (h1:(assignEach [.Subscript o i tpos] X.env).map (·.2)=[assign (.Subscript o i tpos) X.env]:=by rfl)
  (ha:∀ v,assign (.Subscript o i tpos) X.env v=(do
   let ov <- holding [v] (eval o X.env)
   let iv <- holding [v,ov] (eval i X.env)
   standAt tpos
   holding [v,ov,iv] (setItem ov iv v)
   release [v,ov,iv] []):=by intro _; rfl):FS X ks (.Assign [.Subscript o i tpos] e pos) (wSetIx j wi we):=fun pn xe hp=>by
 refine PS.imp (zhg (X:=wp X pn xe) (he pn xe hp) (zkL (X:=wp X pn xe) (ho pn xe hp) (hi pn xe hp) zfW ha) hs hw h1) fun D σ H q=>?_
 obtain ⟨F,G,U,E,rel,hw,n,b,c,r,x⟩:=q
 have x0:XC (wp X pn xe) (·=σ) F G E.ex:=x.mono (fun σ2 z=>by rw [z]; exact KP.refl) (Same.refl F) (Same.refl G)
 refine ⟨F,G,U,_,_,rel,hw,fun r U1 v F1 H1 hk s1 r1 rv=>?_,x0⟩
 have l1:=len1 r1
 obtain ⟨G1,rel1,gg,back⟩:=r1.hide l1
 refine ⟨F1,G1,U1,_,_,rel1,hk,fun y U2 o' F2 H2 hk2 s2 r2 rv2=>?_,x0.mono (fun _ z=>z) s1 gg⟩
 have l2:=len1 r2
 obtain ⟨G2,rel2,gg2,back2⟩:=r2.hide l2
 refine ⟨F2,G2,U2,_,_,rel2,hk2,fun z U3 i' F3 H3 hk3 s3 r3 rv3=>?_,x0.mono (fun _ z=>z) (s1.trans s2) (gg.trans gg2)⟩
 have l3:=len1 r3
 obtain ⟨q,eq,hk3⟩:=zae hk3
 obtain ⟨⟨t,U4⟩,eg,hk4⟩:=zae hk3
 -- all three stand at the end
 have r4:=back (s2.trans s3) (back2 s3 r3)
 simp only [append_assoc,cons_append,nil_append] at r4
 have ri:=look (U':=[slotOf y,slotOf r]) (σ':=[some o',some v]) r4 l3 rv3 eq
 have r5:Rel X.K (U3++[slotOf r]) (σ++[some v]) F3 G H3:=Rel.mid (U:=U3) (σ:=σ) (Rel.mid (U:=U3) (σ:=σ) r4 l3) l3
 obtain ⟨F4,s4,l4,r6⟩:=giveR (U':=[]) (σ':=[]) r5 l3 rv eg
 cases y with
 | v y0=>exact hk4.elim
 | loc k=>
   cases q with
   | int m=>
     cases qs:slot U4 j with
     | none=>simp only [qs] at hk4
     | some sj=>
       cases sj with
       | lst l=>
         simp only [qs] at hk4
         obtain ⟨rfl,hk4⟩:=hk4
         obtain ⟨w,ew,hnx⟩:=zae hk4
         have hσ:σ[k]?=some (some o'):=rv2
         obtain ⟨v',fp,e1,sr⟩:=r6.at (i:=k) (s:=.lst l) (by rw [zbd (zbo qs)]; exact qs)
         have hkl:k < σ.length:=(qh.mp hσ).1
         rw [getElem?_append_left hkl,hσ] at e1
         have e2:o'=v':=by simpa using e1
         subst e2
         have hw:w < l.length:=by
          unfold ixN at ew
          split at ew
          ·split at ew
           ·have e:=qg ew
            lia
           ·cases ew
          ·split at ew
           ·have e:=qg ew
            lia
           ·cases ew
         cases sr with
         | lst hD rl=>
           rename_i a xs fl
           obtain ⟨xs',hD',hlen,r7⟩:=Rel.setItem r6 qs hσ hw
           rw [hD] at hD'
           cases hD'
           cases ri
           exact ⟨a,xs,m,w,rfl,rfl,hD,by rw [hlen]; exact ew,n _ σ F4 _ hnx KP.refl (s1.trans (s2.trans (s3.trans s4))) r7⟩
       | _=>simp only [qs] at hk4
   | _=>exact hk4.elim
theorem zaz (ho:FE X o (wVar j)) (he:FE X e we)
  (hbase:attributeBase o "append" X.env (eval o X.env)=eval o X.env:=by rfl)
  (hfew:((backTo cpos (starEach [e] X.env)).all (fun x=>!x.1) && (backToKw cpos (keywordEach [] X.env)).all (fun x=>x.1.isSome)
   && decide ([e].length + ([]:List Keyword).length + (if ([]:List Keyword).isEmpty then 0 else 1) < 30))=true:=by rfl)
  (hline:(apos.endLine == cpos.line)=true:=by rfl) (hs:starEach [e] X.env=[(false,eval e X.env)]:=by rfl):FE X (.Call (.Attribute o "append" apos) [e] [] cpos) (wAppend j we):=fun pn xe hp=>by
 refine PE.imp (zf1 (X:=wp X pn xe) PySem.F.plainAttrs_list PySem.F.slot_list_append PySem.F.type_list_append zc3 (ho pn xe hp) (zaa he zac hs pn xe hp) hbase hfew hline hs rfl) fun σ H Q q=>?_
 obtain ⟨F,G,U,P,PX,rel,hw,hok,hx⟩:=q
 have hw':(match slot U j with
  | some (.lst _)=>we U (fun r U2=>need (give r U2) fun p=>(match slot p.2 j with
    | some (.lst l)=>l.length < big/\P (.v (.sh .non)) (p.2.set j (some (.lst (l++[p.1]))))
    | _=>False)) PX
  | _=>False):=hw
 cases qs:slot U j with
 | none=>rw [qs] at hw'; exact hw'.elim
 | some s0=>
   cases s0 with
   | lst l0=>
     rw [qs] at hw'
     refine ⟨F,G,U,fun y U1=>y=.loc j/\U1=U,PX,rel,by unfold wVar; rw [qs]; exact ⟨rfl,rfl⟩,fun y U1 o' F1 H1 hk s1 r1 rv=>?_,hx⟩
     obtain ⟨rfl,rfl⟩:=hk
     have l1:=len1 r1
     have hσ:σ[j]?=some (some o'):=rv
     have r2:=r1.drop l1
     obtain ⟨v',fp,e1,sr⟩:=r2.at qs
     rw [hσ] at e1
     have e2:o'=v':=by simpa using e1
     subst e2
     cases sr with
     | lst hD rl=>
       rename_i a xs fl
       refine ⟨.inl ⟨rfl,_,SqL.of hD⟩,F1,G,U1,fun rs U2=>match rs with | [r]=>(need (give r U2) fun p=>match slot p.2 j with | some (.lst l)=>l.length < big/\P (.v (.sh .non)) (p.2.set j (some (.lst (l++[p.1])))) | _=>False) | _=>False,PX,r2,hw',fun rs U2 vs F2 H2 hk s2 r3 hl rvs=>?_,hx.grow s1⟩
       match rs,vs,rvs,r3,hk with
       | [r],[v],rvs,r3,hk=>
         dsimp only at hk
         obtain ⟨⟨t,U3⟩,eg,hk⟩:=zae hk
         obtain ⟨F3,s3,l3,r4⟩:=giveR (U':=[]) (σ':=[]) r3 hl rvs.1 eg
         dsimp only at hk
         split at hk
         ·rename_i l ql
          obtain ⟨ys,hD2,hlen,r5⟩:=Rel.append r4 ql hσ
          exact ⟨a,ys,v,rfl,rfl,hD2,by rw [hlen,sizeLine_eq]; exact lt_trans hk.1 (by decide),hok _ _ .non F3 _ hk.2 (s1.trans (s2.trans s3)) (r5.push .non) trivial⟩
         ·exact hk.elim
       | [],_,_,_,hk=>exact hk.elim
       | [_],[],rvs,_,_=>exact rvs.elim
       | [_],_::_::_,rvs,_,_=>exact rvs.2.elim
       | _::_::_,_,_,_,hk=>exact hk.elim
   | _=>rw [qs] at hw'; exact hw'.elim
end
section
variable {K:W.Frag} {F F' H G:Hp} {σ σ':St}
def RepEs (K:W.Frag) (F H:Hp):List V->List D->Prop
 | [],[]=>True
 | v::vs,d::ds=>RepE K F H v d/\RepEs K F H vs ds
 | _,_=>False
theorem arg1 {b:List D->Option S} (h2:∀ x y r,b (x::y::r)=none) (h0:b []=none) (re:RepEs K F H vs ds) (e:b ds=some s):∃ d v,ds=[d]/\vs=[v]:=by
 cases ds with
 | nil=>rw [h0] at e; cases e
 | cons x ds=>
   cases ds with
   | cons y r=>rw [h2] at e; cases e
   | nil=>
     cases vs with
     | nil=>exact re.elim
     | cons v vs=>
       cases vs with
       | nil=>exact ⟨x,v,rfl,rfl⟩
       | cons u vs=>exact re.2.elim
theorem arg2 {b:List D->Option S} (h1:∀ x,b [x]=none) (h3:∀ x y z r,b (x::y::z::r)=none) (h0:b []=none) (re:RepEs K F H vs ds) (e:b ds=some s):∃ d d2 v u,ds=[d,d2]/\vs=[v,u]:=by
 cases ds with
 | nil=>rw [h0] at e; cases e
 | cons x ds=>
   cases ds with
   | nil=>rw [h1] at e; cases e
   | cons y ds=>
     cases ds with
     | cons z r=>rw [h3] at e; cases e
     | nil=>
       cases vs with
       | nil=>exact re.elim
       | cons v vs=>
         cases vs with
         | nil=>exact re.2.elim
         | cons u vs=>
           cases vs with
           | nil=>exact ⟨x,y,v,u,rfl,rfl⟩
           | cons u vs=>exact re.2.2.elim
theorem takeAll:∀ {rs:List R} {vs:List V} {ds:List D} {U U':Env} {F:Hp} {σ':St},Rel K (U++(rs.map slotOf++U')) (σ++(vs.map some++σ')) F G H->U.length=σ.length->RVs σ vs rs->(rs.mapM fun r=>viewC r U)=some ds->
  ∃ F',Same F F'/\RepEs K F' H vs ds/\Rel K (U++U') (σ++σ') F' G H
 | [],[],ds,U,U',F,σ',r,h,_,e=>by
   have e':ds=[]:=by simpa using e.symm
   subst e'
   exact ⟨F,Same.refl F,trivial,r⟩
 | [],_::_,_,_,_,_,_,_,_,h,_=>h.elim
 | _::_,[],_,_,_,_,_,_,_,h,_=>h.elim
 | x::rs,v::vs,ds,U,U',F,σ',r,h,rv,e=>by
   rw [List.mapM_cons] at e
   cases q:viewC x U with
   | none=>rw [q] at e; cases e
   | some d=>
     rw [q] at e
     cases q2:(rs.mapM fun r=>viewC r U) with
     | none=>rw [q2] at e; cases e
     | some es=>
       rw [q2] at e
       have e':d::es=ds:=qg e
       subst e'
       obtain ⟨F1,s1,re,r1⟩:=takeC (U':=rs.map slotOf++U') (σ':=vs.map some++σ') r h rv.1 q
       obtain ⟨F2,s2,res,r2⟩:=takeAll (rs:=rs) (vs:=vs) r1 h rv.2 q2
       exact ⟨F2,s1.trans s2,⟨re.mono s2,res⟩,r2⟩
def DoesB (K:W.Frag) (r:List V->Hp->VK->Prop) (f:List D->Option S):Prop:=∀ (σ:St) (U:Env) (F G H:Hp) (vs:List V) (ds:List D) (s:S) (Q:VK),Rel K U σ F G H->RepEs K F H vs ds->f ds=some s->
 (∀ v F' H',Same F F'->Rel K (U++[some s]) (σ++[some v]) F' G H'->Q v H')->r vs H Q
end
section
variable {X:Cx} {x:Str} {p pos:Pos} {e:Expr} {es:List Expr} {wa:WA} {id T:String} {r:List V->Hp->VK->Prop} {f:List D->Option S}
theorem zdZ (hd:DoesB X.K r f) (σ:St) (H:Hp) (Q:VK) (q:tW (wp X pn xe) (wB f wa) σ H Q):tCB r (tWA (wp X pn xe) wa) σ H Q:=by
 refine (many (k:=fun rs U1 Q E=>need (rs.mapM fun r=>viewC r U1) fun ds=>need (f ds) fun s=>Q (.v s) U1) q).mono fun vs H1 h1=>?_
 obtain ⟨F,G,U,rs,P,PX,rel,hl,rv,hk,hok,hx⟩:=h1
 obtain ⟨ds,ed,hk⟩:=zae hk
 obtain ⟨s,es,hk⟩:=zae hk
 obtain ⟨F1,s1,re,r1⟩:=takeAll (U':=[]) (σ':=[]) (by simpa using rel) hl rv ed
 exact hd σ U F1 G H1 vs ds s Q (by simpa using r1) re es fun v F' H' sm r'=>hok _ U v F' H' hk (s1.trans sm) r' trivial
theorem zbE (hc:∀ pn xe,CallR (wp X pn xe) (.builtin id) r) (hd:DoesB X.K r f) (hg:Gl X x) (hm:X.mg x=none) (hv:bootBuiltins x=some (.builtin id)) (ha:FA X (e::es) wa) (hn:x≠"__name__":=by decide) (hdb:(x == ("__debug__":Str))=false:=by decide)
  (he:starEach (e::es) X.env=(false,eval e X.env)::starEach es X.env:=by rfl) (hpl:(backTo pos (starEach es X.env)).any (·.1)=false:=by rfl):FE X (.Call (.Name x p) (e::es) [] pos) (wB f wa):=fun pn xe hp=>
 PE.imp (zgP (X:=wp X pn xe) (hc pn xe) hg hm hv (ha pn xe hp) hn hdb he hpl) (zdZ hd)
theorem zaS (hc:∀ pn xe,CallR (wp X pn xe) (.type T) r) (hd:DoesB X.K r f) (hg:Gl X x) (hm:X.mg x=none) (hv:bootBuiltins x=some (.type T)) (ha:FA X (e::es) wa) (hn:x≠"__name__":=by decide) (hdb:(x == ("__debug__":Str))=false:=by decide)
  (he:starEach (e::es) X.env=(false,eval e X.env)::starEach es X.env:=by rfl) (hpl:(backTo pos (starEach es X.env)).any (·.1)=false:=by rfl):FE X (.Call (.Name x p) (e::es) [] pos) (wB f wa):=fun pn xe hp=>
 PE.imp (zfw (X:=wp X pn xe) (hc pn xe) hg hm hv (ha pn xe hp) hn hdb he hpl) (zdZ hd)
def rLen (K:W.Frag):List V->Hp->VK->Prop:=fun xs H Q=>(∃ p ys,xs=[.ref p]/\(SqL K H p ys\/SqT K H p ys)/\Q (.int ys.length) H)\/∃ z,xs=[.str z]/\z.length<=sizeLine/\Q (.int z.length) H
theorem CallR.or' {f:Value} (h:CallR X f r) (h':CallR X f r'):CallR X f (fun x H Q=>r x H Q\/r' x H Q):=fun pins s σ H xs us Q I rr q=>q.elim (h pins s σ H xs us Q I rr) (h' pins s σ H xs us Q I rr)
theorem zfz:CallR X (.builtin "len") (rLen X.K):=CallR.or' zcU zcH
theorem zf5 {K:W.Frag}:DoesB K (rLen K) bLen:=by
 intro σ U F G H vs ds s Q rel re e hq
 obtain ⟨d,v,rfl,rfl⟩:=arg1 (fun x y r=>by cases x <;> rfl) rfl re e
 cases d with
 | str l=>
   cases e
   obtain ⟨x,rfl,e1,z⟩:=re.1.str
   exact .inr ⟨x,rfl,by rw [zbq e1,sizeLine_eq]; exact z,by rw [zbq e1]; exact hq _ F H (Same.refl F) (rel.push (.int _))⟩
 | tup l=>
   cases e
   obtain ⟨a,xs,rfl,h1,r1⟩:=re.1.tup
   exact .inl ⟨a,xs,rfl,.inr (SqT.of (rel.fr _ _ h1)),by rw [r1.len]; exact hq _ F H (Same.refl F) (rel.push (.int _))⟩
 | lst l=>
   cases e
   obtain ⟨a,xs,rfl,h1,r1⟩:=re.1.lst rel.fr
   exact .inl ⟨a,xs,rfl,.inl h1,by rw [r1.len]; exact hq _ F H (Same.refl F) (rel.push (.int _))⟩
 | _=>cases e
theorem zbf (hg:Gl X "len") (hm:X.mg "len"=none) (ha:FA X (e::es) wa) (he:starEach (e::es) X.env=(false,eval e X.env)::starEach es X.env:=by rfl) (hpl:(backTo pos (starEach es X.env)).any (·.1)=false:=by rfl):FE X (.Call (.Name "len" p) (e::es) [] pos) (wB bLen wa):=
 zbE (fun _ _=>zfz) zf5 hg hm PySem.boot_len ha (by decide) (by decide) he hpl
end
section
variable {X:Cx} {p pos:Pos} {e:Expr} {es:List Expr} {wa:WA} {K:W.Frag}
def rInt:List V->Hp->VK->Prop:=fun xs H Q=>(∃ i,xs=[.int i]/\Q (.int i) H)\/∃ k,xs=[.bl k]/\Q (.int (if k then 1 else 0)) H
theorem RepE.bl (h:RepE K F H v (.bl b)):v=.bl b:=by
 rcases h with h | ⟨_,_,_,_,h,_⟩ | ⟨_,_,_,_,_,h,_⟩ | ⟨_,_,_,_,_,h,_⟩
 ·cases h; rfl
 ·cases h
 ·cases h
 ·cases h
theorem zeG:DoesB K rInt bInt:=by
 intro σ U F G H vs ds s Q rel re e hq
 obtain ⟨d,v,rfl,rfl⟩:=arg1 (fun x y r=>by cases x <;> rfl) rfl re e
 cases d with
 | int i=>
   cases e
   have:=re.1.int
   subst this
   exact .inl ⟨i,rfl,hq _ F H (Same.refl F) (rel.push (.int _))⟩
 | bl b=>
   cases e
   have:=re.1.bl
   subst this
   exact .inr ⟨b,rfl,hq _ F H (Same.refl F) (rel.push (.int _))⟩
 | _=>cases e
theorem ze3 (hg:Gl X "int") (hm:X.mg "int"=none) (hv:bootBuiltins "int"=some (.type "int")) (ha:FA X (e::es) wa) (he:starEach (e::es) X.env=(false,eval e X.env)::starEach es X.env:=by rfl) (hpl:(backTo pos (starEach es X.env)).any (·.1)=false:=by rfl):FE X (.Call (.Name "int" p) (e::es) [] pos) (wB bInt wa):=
 zaS (fun _ _=>zeZ) zeG hg hm hv ha (by decide) (by decide) he hpl
def rTuple (K:W.Frag):List V->Hp->VK->Prop:=fun xs H Q=>∃ p ys,xs=[.ref p]/\((SqL K H p ys/\∀ l,H l=none->Q (.ref l) (upd H l (.tup ys)))\/(SqT K H p ys/\Q (.ref p) H))
theorem zd7:DoesB K (rTuple K) bTuple:=by
 intro σ U F G H vs ds s Q rel re e hq
 obtain ⟨d,v,rfl,rfl⟩:=arg1 (fun x y r=>by cases x <;> rfl) rfl re e
 cases d with
 | tup l=>
   cases e
   obtain ⟨a,xs,rfl,h1,r1⟩:=re.1.tup
   exact ⟨a,xs,rfl,.inr ⟨SqT.of (rel.fr _ _ h1),hq _ F H (Same.refl F) (rel.push (.tup h1 r1))⟩⟩
 | lst l=>
   cases e
   obtain ⟨a,xs,rfl,h1,r1⟩:=re.1.lst rel.fr
   refine ⟨a,xs,rfl,.inl ⟨h1,fun p hp=>?_⟩⟩
   have n2:=(rel.free hp).1
   exact hq _ _ _ (Same.upd n2) ((rel.newF hp).push (.tup zai (r1.mono (Same.upd n2))))
 | _=>cases e
theorem zc2 (hg:Gl X "tuple") (hm:X.mg "tuple"=none) (hv:bootBuiltins "tuple"=some (.type "tuple")) (ha:FA X (e::es) wa) (he:starEach (e::es) X.env=(false,eval e X.env)::starEach es X.env:=by rfl) (hpl:(backTo pos (starEach es X.env)).any (·.1)=false:=by rfl):FE X (.Call (.Name "tuple" p) (e::es) [] pos) (wB bTuple wa):=
 zaS (fun _ _=>zcl) zd7 hg hm hv ha (by decide) (by decide) he hpl
def rList (K:W.Frag):List V->Hp->VK->Prop:=fun xs H Q=>∃ p ys,xs=[.ref p]/\(SqL K H p ys\/SqT K H p ys)/\∀ l,H l=none->Q (.ref l) (upd H l (.lst ys))
theorem zc8:DoesB K (rList K) bList:=by
 intro σ U F G H vs ds s Q rel re e hq
 obtain ⟨d,v,rfl,rfl⟩:=arg1 (fun x y r=>by cases x <;> rfl) rfl re e
 cases d with
 | tup l=>
   cases e
   obtain ⟨a,xs,rfl,h1,r1⟩:=re.1.tup
   exact ⟨a,xs,rfl,.inr (SqT.of (rel.fr _ _ h1)),fun p hp=>hq _ F _ (Same.refl F) (rel.newLD hp r1)⟩
 | lst l=>
   cases e
   obtain ⟨a,xs,rfl,h1,r1⟩:=re.1.lst rel.fr
   exact ⟨a,xs,rfl,.inl h1,fun p hp=>hq _ F _ (Same.refl F) (rel.newLD hp r1)⟩
 | _=>cases e
end
theorem zbA (h:keyD a=keyD b):a=b:=by
 cases a with
 | inl i=>cases b with
   | inl j=>have h':D.int i=D.int j:=h; cases h'; rfl
   | inr y=>have h':D.int i=D.str y.cps.toList:=h; cases h'
 | inr x=>cases b with
   | inl j=>have h':D.str x.cps.toList=D.int j:=h; cases h'
   | inr y=>
     have h':D.str x.cps.toList=D.str y.cps.toList:=h
     obtain ⟨⟨a⟩⟩:=x
     first | rfl | assumption | (simp_all; done)
theorem zbT:∀ {a b:List Key},a.map keyD=b.map keyD->a=b
 | [],[],_=>rfl
 | [],_::_,h=>by simp at h
 | _::_,[],h=>by simp at h
 | x::a,y::b,h=>by
   rw [map_cons,map_cons] at h
   injection h with h1 h2
   rw [zbA h1,zbT h2]
section
variable {K:W.Frag} {H:Hp}
theorem zdA (r:Rep K H x d) (h:isKey1 d=true):∃ k:Key,x=kV k/\d=keyD k:=by
 cases r with
 | int i=>exact ⟨.inl i,rfl,rfl⟩
 | str e z=>exact ⟨.inr _,rfl,by rw [<- e]; rfl⟩
 | _=>cases h
theorem zdu (r:Reps K H xs l):l.all isKey1=true->∃ ks:List Key,xs=ks.map kV/\l=ks.map keyD:=
 Reps.ind (P:=fun xs l=>l.all isKey1=true->∃ ks:List Key,xs=ks.map kV/\l=ks.map keyD) (fun _=>⟨[],rfl,rfl⟩) (fun a _ ih h=>by
  rw [all_cons,and_eq_true] at h
  obtain ⟨k,rfl,rfl⟩:=zdA a h.1
  obtain ⟨ks,rfl,rfl⟩:=ih h.2
  exact ⟨k::ks,rfl,rfl⟩) r
open Classical in
theorem zbJ {κ:Type} [DecidableEq κ] (g:κ->D) (hg:∀ a b,g a=g b->a=b):∀ (kvs:List (κ×V)) (k:κ),(valV kvs k).isSome=decide (g k∈kvs.map fun p=>g p.1)
 | [],k=>by simp [valV]
 | p::r,k=>by
   by_cases e:p.1=k
   ·rw [za8 e]
    have:g k∈(p::r).map fun p=>g p.1:=by rw [map_cons,e]; exact qo
    exact (decide_eq_true this).symm
   ·rw [zbg e,zbJ g hg r k]
    have:(g k∈(p::r).map fun p=>g p.1)↔(g k∈r.map fun p=>g p.1):=by
     rw [map_cons,mem_cons]
     exact ⟨fun z=>z.elim (fun w=>absurd (hg _ _ w).symm e) id,.inr⟩
    exact (decide_eq_decide.2 this).symm
open Classical in
theorem zdz {κ:Type} [DecidableEq κ] (g:κ->D) (hg:∀ a b,g a=g b->a=b) {α:Type}:∀ (kvs:List (κ×V)) (vs:List α) (k:κ) (P:V->α->Prop),kvs.length=vs.length->(∀ (i:Nat) x y,(kvs.map (·.2))[i]?=some x->vs[i]?=some y->P x y)->
  (lk (kvs.map fun p=>g p.1) vs (g k)=none/\valV kvs k=none)\/∃ x y,valV kvs k=some x/\lk (kvs.map fun p=>g p.1) vs (g k)=some y/\P x y
 | [],[],k,P,_,_=>.inl ⟨rfl,rfl⟩
 | [],_::_,_,_,h,_=>by simp at h
 | _::_,[],_,_,h,_=>by simp at h
 | p::r,v::vs,k,P,hl,h=>by
   by_cases e:p.1=k
   ·refine .inr ⟨p.2,v,za8 e,?_,h 0 p.2 v rfl rfl⟩
    show (if g p.1=g k then some v else lk (r.map fun p=>g p.1) vs (g k))=some v
    rw [if_pos (by rw [e])]
   ·have hne:¬ g p.1=g k:=fun z=>e (hg _ _ z)
    rw [zbg e]
    have e2:lk ((p::r).map fun p=>g p.1) (v::vs) (g k)=lk (r.map fun p=>g p.1) vs (g k):=by
     show (if g p.1=g k then some v else lk (r.map fun p=>g p.1) vs (g k))=_
     rw [if_neg hne]
    rw [e2]
    exact zdz g hg r vs k P (by simpa using hl) fun i x y h1 h2=>h (i + 1) x y (by simpa using h1) (by simpa using h2)
theorem zh8 (r1:Rep K H x d) (r2:Rep K H (.ref a) (.dct t ks vs)) (hk:isKey t d=true):∃ o,DGet H a x o/\o.isSome=(open Classical in decide (d∈ks))/\
  ((lk ks vs d=none/\o=none)\/∃ v e,o=some v/\lk ks vs d=some e/\Rep K H v e):=by
 cases r2 with
 | dK e k r=>
   rename_i kvs
   obtain ⟨key,rfl,rfl⟩:=zdA r1 hk
   refine ⟨_,.inl ⟨kvs,key,e,rfl,rfl⟩,?_,?_⟩
   ·rw [k]; exact zbJ keyD (fun _ _=>zbA) kvs key
   ·rw [k]
    rcases zdz keyD (fun _ _=>zbA) kvs vs key (fun v e=>Rep K H v e) (by have:=r.len; simpa using this) (fun i x y h1 h2=>by
     obtain ⟨x',hx',rx⟩:=r.get h2
     rw [h1] at hx'; cases hx'; exact rx) with ⟨h1,h2⟩ | ⟨v,e,h1,h2,h3⟩
    ·exact .inl ⟨h1,h2⟩
    ·exact .inr ⟨v,e,h1,h2,h3⟩
 | dT e k r=>
   rename_i kvs
   cases r1 with
   | tup e1 q=>
     obtain ⟨keys,rfl,rfl⟩:=zdu q hk
     have inj:∀ a b:List Key,D.tup (a.map keyD)=D.tup (b.map keyD)->a=b:=fun a b z=>zbT (D.tup.inj z)
     refine ⟨_,.inr ⟨kvs,keys,_,e,rfl,e1,rfl⟩,?_,?_⟩
     ·rw [k]; exact zbJ (fun l=>D.tup (l.map keyD)) inj kvs keys
     ·rw [k]
      rcases zdz (fun l=>D.tup (l.map keyD)) inj kvs vs keys (fun v e=>Rep K H v e) (by have:=r.len; simpa using this) (fun i x y h1 h2=>by
       obtain ⟨x',hx',rx⟩:=r.get h2
       rw [h1] at hx'; cases hx'; exact rx) with ⟨h1,h2⟩ | ⟨v,e,h1,h2,h3⟩
      ·exact .inl ⟨h1,h2⟩
      ·exact .inr ⟨v,e,h1,h2,h3⟩
   | _=>cases hk
end
section
variable {X:Cx} {K:W.Frag}
def rInDict (neg:Bool):R2:=fun x y H Q=>∃ a o,y=.ref a/\DGet H a x o/\Q (.bl (if neg then !o.isSome else o.isSome)) H
theorem ze6 (hu:X.A.units + 1 < cLine):OpR X (compareOp .In) (rInDict false):=by
 intro pins s σ H x y v u Q I rx ry h
 obtain ⟨a,o,rfl,g,q⟩:=h
 cases ry
 exact d_in hu I g rx fun s' I'=>⟨.bl _,H,I',rfl,q⟩
theorem zc4 (hu:X.A.units + 1 < cLine):OpR X (compareOp .NotIn) (rInDict true):=by
 intro pins s σ H x y v u Q I rx ry h
 obtain ⟨a,o,rfl,g,q⟩:=h
 cases ry
 exact zh9 hu I g rx fun s' I'=>⟨.bl _,H,I',rfl,q⟩
def rInAll (K:W.Frag) (neg:Bool):R2:=fun x y H Q=>rInD K neg x y H Q\/rInDict neg x y H Q
theorem zgp (hu:X.A.units + 32 < cLine):OpR X (compareOp .In) (rInAll X.K false):=FL.OpR.or (zkr hu) (ze6 (by lia))
theorem zdf (hu:X.A.units + 32 < cLine):OpR X (compareOp .NotIn) (rInAll X.K true):=FL.OpR.or (zfr hu) (zc4 (by lia))
open Classical in
theorem zh3 (r1:Rep K H x p) (r2:Rep K H y q) (e:cIn p q=some k) (hq:Q (.bl (if neg then !k else k)) H):rInAll K neg x y H Q:=by
 unfold cIn at e
 split at e
 ·rename_i l
  split at e
  ·cases e
  ·rename_i h
   have e':=qg e
   subst e'
   refine .inl ⟨p,l,r1,.inl r2,fun d hd=>?_,hq⟩
   grind
 ·rename_i l
  split at e
  ·cases e
  ·rename_i h
   have e':=qg e
   subst e'
   refine .inl ⟨p,l,r1,.inr r2,fun d hd=>?_,hq⟩
   grind
 ·rename_i t ks vs
  split at e
  ·rename_i h
   have e':=qg e
   cases y with
   | ref a=>
     obtain ⟨o,g,ho,_⟩:=zh8 r1 r2 h
     refine .inr ⟨a,o,rfl,g,?_⟩
     rw [ho,e']
     exact hq
   | _=>cases r2
  ·cases e
 ·cases e
end
open PySem.Builtin.Str (strSliceIndices)
theorem zbi (n d:Nat) (o:Option Int):HT.sIx n d o=FL.sIx n d o:=by cases o <;> rfl
theorem zft (n d:Nat) (hd:d<=n) (o:Option Int):FL.sIx n d o<=n:=by rw [<- zbi]; exact HT.sIx_le n d hd o
def cutS (z:Str) (lo hi:Option Int):Str:=⟨(cutL z.cps.toList lo hi).toArray⟩
theorem zep (lo hi:Option Int) (n:Nat):strSliceIndices lo hi 1 n=(List.range (FL.sIx n n hi - FL.sIx n 0 lo)).map (FL.sIx n 0 lo + ·):=by
 rw [<- sliceRange_one]
 have clip:∀ i:Int,max 0 (min (if i < 0 then i + (n:Int) else i) (n:Int))=(((if i < 0 then (i + (n:Int)).toNat else min i.toNat n):Nat):Int):=by
  intro i
  by_cases h:i < 0
  ·rw [if_pos h,if_pos h]; lia
  ·rw [if_neg h,if_neg h]; lia
 unfold strSliceIndices
 cases lo <;> cases hi <;> simp only [show (1:Int) > 0 by decide,if_true,FL.sIx,clip] <;> rfl
theorem zfp (x:Str) (lo hi:Option Int):Txt.slice x lo hi=cutS x lo hi:=by
 have hlen:x.length=x.cps.toList.length:=by show x.cps.size=_; rw [length_toList]
 unfold Txt.slice cutS cutL
 rw [zep,pick_run,<- hlen]
 split
 ·rename_i h
  simp only [beq_self_eq_true,Bool.true_and,length_map,length_range,beq_iff_eq] at h
  have h1:=zft x.length x.length (le_refl _) hi
  have h2:FL.sIx x.length 0 lo=0\/x.length=0:=by lia
  have h3:FL.sIx x.length 0 lo=0:=h2.elim id fun z=>by have:=zft x.length 0 (zero_le _) lo; lia
  rw [h,h3,drop_zero,take_of_length_le (by rw [hlen]; exact le_refl _)]
 ·rfl
section
variable {X:Cx}
def rSlS:V->Option Int->Option Int->Hp->VK->Prop:=fun x lo hi H Q=>∃ z,x=.str z/\z.length<=sizeLine/\Q (.str (cutS z lo hi)) H
theorem ze1 (p:IsPart v o):∃ l:Option (Int×Tok),v=partValue l/\o=l.map (·.1):=by
 cases p with
 | none=>exact ⟨none,rfl,rfl⟩
 | int i t=>exact ⟨some (i,t),rfl,rfl⟩
theorem zjo:SlR X rSlS:=by
 intro pins s σ H x v vl vu lo hi sl Q I rx hs pl pu h
 obtain ⟨z,rfl,hz,q⟩:=h
 obtain ⟨t,rfl⟩:=rx
 obtain ⟨l,rfl,rfl⟩:=ze1 pl
 obtain ⟨u,rfl,rfl⟩:=ze1 pu
 rw [<- zfp] at q
 exact ⟨"str",_,F.slot_str_getitem.lookup,typeIs_str _ _ _,wpAny_getItem_str_slice (l:=l) (u:=u) (st:=none) hs rfl
  (post_val_or_str ⟨le_trans (Txt.slice_le z _ _) hz,fun t' k=>⟨.str (Txt.slice z (l.map (·.1)) (u.map (·.1))),H,I.tok _,⟨_,rfl⟩,q⟩⟩)⟩
def rSlW (K:W.Frag):V->Option Int->Option Int->Hp->VK->Prop:=fun x lo hi H Q=>∃ a xs,x=.ref a/\SqT K H a xs/\
 (HT.sIx xs.length 0 lo=0/\HT.sIx xs.length xs.length hi=xs.length)/\Q (.ref a) H
end
section
variable {prog:Program} {w:World} {A:Around} {E:Value->Shared->Prop} {s:Shared}
theorem za3 {items:Array Value} {lo hi:Option Int} (ht:IsTup s.heap t items) (hs:s.heap.IsSliceOf sl vl vu .none) (pl:IsPart vl lo) (pu:IsPart vu hi)
  (hw:HT.sIx items.size 0 lo=0/\HT.sIx items.size items.size hi=items.size) (h:Q (.ref t) s):wpAny (model prog w) A (getItem (.ref t) (.ref sl)) Q E s:=by
 obtain ⟨os,hos,hcs,hds⟩:=id hs
 have hTs:s.TypeIs (.ref sl) "slice":=⟨os,hos,hcs⟩
 unfold getItem
 try with_reducible refine wpAny_holding ?_
 first | refine qa (qb ?_) | skip
 refine qa (wpAny_sequenceKey ht.typeIs (by decide) ?_)
 refine qa (wpAny_callSpecial?_slot (name:=Str.ofString "__getitem__") ht.typeIs PyProof.Rows.slot_tuple_getitem
  (wpAny_call_entry PyProof.Rows.slot_tuple_getitem ht.typeIs entry_tuple_getitem ?_ (args_tuple_getitem _ _)))
 show wpAny _ _ (Builtin.Tuple.tupleItemsOf (.ref t) >>= _) _ _ s
 refine qa (tupleItemsOf_ ht ?_)
 refine qa (wpAny_typeOf hTs ?_)
 rw [if_pos (by decide)]
 refine qa (HT.sliceApplied_gen hs pl pu ?_)
 have hyes:(((HT.sIx items.size 0 lo:Nat):Int) == 0 && (1:Int) == 1 && (HT.sIx items.size items.size hi - HT.sIx items.size 0 lo) == items.size)=true:=by
  rw [hw.1,hw.2]; simp
 show wpAny _ _ (if (((HT.sIx items.size 0 lo:Nat):Int) == 0 && (1:Int) == 1 && (HT.sIx items.size items.size hi - HT.sIx items.size 0 lo) == items.size)=true then _ else _) _ _ s
 rw [if_pos hyes]
 unfold Builtin.Tuple.tupleIsExact
 refine qa (qa (wpAny_typeOf ht.typeIs (qb ?_)))
 rw [if_pos (by decide)]
 first
  | exact qa (wpAny_rule (qb ⟨_,rfl,qb h⟩))
  | exact qa (qb (qb ⟨_,rfl,qb h⟩))
  | exact qb ⟨_,rfl,qb h⟩
end
section
variable {X:Cx}
theorem zfU:SlR X (rSlW X.K):=by
 intro pins s σ H x v vl vu lo hi sl Q I rx hs pl pu h
 obtain ⟨a,xs,rfl,hx,hw,q⟩:=h
 cases rx
 obtain ⟨its,r,ht,hz⟩:=I.tuple hx
 have hlen:its.toArray.size=xs.length:=by rw [size_toArray]; exact r.length.symm
 refine ⟨"tuple",_,PyProof.Rows.slot_tuple_getitem.lookup,ht.typeIs,?_⟩
 exact za3 ht hs pl pu (by rw [hlen]; exact hw) ⟨.ref a,H,I,rfl,q⟩
end
section
variable {K:W.Frag} {F H:Hp}
theorem Reps.drop:∀ {xs:List V} {l:List D} (n:Nat),Reps K F xs l->Reps K F (xs.drop n) (l.drop n)
 | _,_,0,r=>by rw [drop_zero,drop_zero]; exact r
 | _,_,n + 1,.nil=>by rw [List.drop_nil,List.drop_nil]; exact .nil
 | _,_,n + 1,.cons a b=>by rw [List.drop_succ_cons,List.drop_succ_cons]; exact Reps.drop n b
theorem Reps.take:∀ {xs:List V} {l:List D} (n:Nat),Reps K F xs l->Reps K F (xs.take n) (l.take n)
 | _,_,0,r=>by rw [take_zero,take_zero]; exact .nil
 | _,_,n + 1,.nil=>by rw [take_nil,take_nil]; exact .nil
 | _,_,n + 1,.cons a b=>by rw [List.take_succ_cons,List.take_succ_cons]; exact .cons a (Reps.take n b)
theorem Reps.cut {lo hi:Option Int} (r:Reps K F xs l):Reps K F (cutV xs lo hi) (cutL l lo hi):=by
 unfold cutV cutL
 rw [zbi,zbi,r.len]
 exact (r.drop _).take _
def rSl (K:W.Frag):V->Option Int->Option Int->Hp->VK->Prop:=fun x lo hi H Q=>rSlL K x lo hi H Q\/rSlT K x lo hi H Q\/rSlW K x lo hi H Q\/rSlS x lo hi H Q
theorem zfi:SlR X (rSl X.K):=SlR.or zhQ (SlR.or zkX (SlR.or zfU zjo))
theorem zhz {lo hi:Option Int} (rel:Rel K U σ F G H) (re:RepE K F H v d) (e:slD d lo hi=some s)
  (hq:∀ v F' H',Same F F'->Rel K (U++[some s]) (σ++[some v]) F' G H'->Q v H'):rSl K v lo hi H Q:=by
 cases d with
 | str l=>
   cases e
   obtain ⟨x,rfl,h1,h2⟩:=re.str
   subst h1
   refine .inr (.inr (.inr ⟨x,rfl,?_,hq _ F H (Same.refl F) (rel.push (.str rfl ?_))⟩))
   ·have:x.length=x.cps.toList.length:=by show x.cps.size=_; rw [length_toList]
    rw [this]; exact h2
   ·refine le_trans ?_ h2
    unfold cutL
    rw [length_take,length_drop]
    lia
 | tup l=>
   cases e
   obtain ⟨a,xs,rfl,h1,r1⟩:=re.tup
   by_cases hw:HT.sIx xs.length 0 lo=0/\HT.sIx xs.length xs.length hi=xs.length
   ·refine .inr (.inr (.inl ⟨a,xs,rfl,SqT.of (rel.fr _ _ h1),hw,hq _ F H (Same.refl F) (rel.push ?_)⟩))
    have:cutL l lo hi=l:=by
     unfold cutL
     rw [<- r1.len,<- zbi,<- zbi,hw.1,hw.2,drop_zero,take_of_length_le (by rw [<- r1.len]; lia)]
    rw [this]
    exact .tup h1 r1
   ·refine .inr (.inl ⟨a,xs,rfl,SqT.of (rel.fr _ _ h1),hw,fun p hp=>?_⟩)
    have n2:=(rel.free hp).1
    exact hq _ _ _ (Same.upd n2) ((rel.newF hp).push (.tup zai (r1.cut.mono (Same.upd n2))))
 | lst l=>
   cases e
   obtain ⟨a,xs,rfl,h1,r1⟩:=re.lst rel.fr
   exact .inl ⟨a,xs,rfl,h1,fun p hp=>hq _ F _ (Same.refl F) (rel.newLD hp r1.cut)⟩
 | _=>cases e
end
section
variable {X:Cx} {σ:St} {H1:Hp} {Q:VK}
theorem nextOf (r1:Rel X.K (U1++[slotOf x]) (σ++[some v]) F G H1) (rv1:RV σ v x) (hp1:wb U1 (fun y U2=>k x y U2 P PX) PX)
  (hok:∀ r U' v F' H',P r U'->Same F F'->Rel X.K (U'++[slotOf r]) (σ++[some v]) F' G H'->RV σ v r->Q v H') (hx:XC X (·=σ) F G PX):tW X wb σ H1 fun u H2=>Two X σ k Q v u H2:=by
 have h1:=len1 r1
 obtain ⟨G1,rel1,gg,back⟩:=r1.hide h1
 refine ⟨F,G1,U1,_,PX,rel1,hp1,fun y U2 u F2 H2 hp2 s2 r2 rv2=>?_,hx.mono (fun _ z=>z) (Same.refl F) gg⟩
 have h2:=len1 r2
 have r3:=back s2 r2
 rw [append_assoc,append_assoc] at r3
 exact ⟨F2,G,U2,x,y,P,PX,Rel.swap (U1:=[slotOf y]) (σ1:=[some u]) (U2:=[slotOf x]) (σ2:=[some v]) h2 rfl r3,h2,rv1,rv2,hp2,fun r U' v F' H' a b c d=>hok r U' v F' H' a (s2.trans b) c d,hx.grow s2⟩
end
section
variable {X:Cx} {a b c:Expr} {wa wb wc:WE} {pos p2:Pos}
theorem match_int {U:Env} {o:Option D} {k:Int->Prop} (h:(match o with | some (.int i)=>k i | _=>False)):∃ i,o=some (.int i)/\k i:=by
 split at h
 ·exact ⟨_,rfl,h⟩
 ·exact h.elim
theorem zeI {K:W.Frag} {U:Env} {σ:St} {F G H:Hp} {x y:R} {v u:V} {lo hi:Option Int} {P:WQ} {Q:VK} {q:D} (rel:Rel K (U++[slotOf x,slotOf y]) (σ++[some v,some u]) F G H) (hl:U.length=σ.length) (rx:RV σ v x)
  (hk:need (viewC x U) fun d=>need (slD d lo hi) fun s=>P (.v s) U)
  (hok:∀ r U' v F' H',P r U'->Same F F'->Rel K (U'++[slotOf r]) (σ++[some v]) F' G H'->RV σ v r->Q v H'):rSl K v lo hi H Q:=by
 obtain ⟨d,ed,hk⟩:=zae hk
 obtain ⟨s,es,hk⟩:=zae hk
 have relx:Rel K (U++[slotOf x]) (σ++[some v]) F G H:=by
  have:=Rel.swap (U1:=[slotOf x]) (σ1:=[some v]) (U2:=[slotOf y]) (σ2:=[some u]) hl rfl rel
  exact Rel.mid (U:=U) (σ:=σ) this hl
 obtain ⟨F1,s1,re,r1⟩:=takeC (U':=[]) (σ':=[]) relx hl rx ed
 exact zhz (U:=U) (σ:=σ) (by simpa using r1) re es fun v F' H' sm r'=>hok _ U v F' H' hk (s1.trans sm) r' trivial
theorem zjF (ha:FE X a wa) (hb:FE X b wb):FE X (.Subscript a (.Slice (some b) none none p2) pos) (wSl wa (some wb) none):=fun pn xe hp=>by
 refine PE.imp (zcj (zfi (X:=wp X pn xe)) (ha pn xe hp) (zce (hb pn xe hp)) zey) fun σ H Q q=>?_
 refine (two (k:=fun x y U2 Q E=>match view y U2 with
  | some (.int i)=>need (viewC x U2) fun d=>need (slD d (some i) none) fun s=>Q (.v s) U2
  | _=>False) q).mono fun v H1 h1=>h1.mono fun u H2 h2=>?_
 obtain ⟨F,G,U,x,y,P,PX,rel,hl,rx,ry,hk,hok,hx⟩:=h2
 obtain ⟨i,ei,hk⟩:=match_int (U:=U) (k:=fun i=>need (viewC x U) fun d=>need (slD d (some i) none) fun s=>P (.v s) U) hk
 have ru:=look (U':=[]) (σ':=[]) (rel.mid hl) hl ry ei
 cases ru
 exact ⟨i,rfl,zeI (q:=.non) rel hl rx hk hok⟩
theorem zg5 (ha:FE X a wa) (hb:FE X b wb):FE X (.Subscript a (.Slice none (some b) none p2) pos) (wSl wa none (some wb)):=fun pn xe hp=>by
 refine PE.imp (zcj (zfi (X:=wp X pn xe)) (ha pn xe hp) zey (zce (hb pn xe hp))) fun σ H Q q=>?_
 refine (two (k:=fun x y U2 Q E=>match view y U2 with
  | some (.int i)=>need (viewC x U2) fun d=>need (slD d none (some i)) fun s=>Q (.v s) U2
  | _=>False) q).mono fun v H1 h1=>h1.mono fun u H2 h2=>?_
 obtain ⟨F,G,U,x,y,P,PX,rel,hl,rx,ry,hk,hok,hx⟩:=h2
 obtain ⟨i,ei,hk⟩:=match_int (U:=U) (k:=fun i=>need (viewC x U) fun d=>need (slD d none (some i)) fun s=>P (.v s) U) hk
 have ru:=look (U':=[]) (σ':=[]) (rel.mid hl) hl ry ei
 cases ru
 exact ⟨i,rfl,zeI (q:=.non) rel hl rx hk hok⟩
theorem zgY (ha:FE X a wa) (hb:FE X b wb) (hc:FE X c wc):FE X (.Subscript a (.Slice (some b) (some c) none p2) pos) (wSl wa (some wb) (some wc)):=fun pn xe hp=>by
 refine PE.imp (zcj (zfi (X:=wp X pn xe)) (ha pn xe hp) (zce (hb pn xe hp)) (zce (hc pn xe hp))) fun σ H Q q=>?_
 refine (two (k:=fun x y U2 Q E=>match view y U2 with
  | some (.int i)=>wc U2 (fun z U3=>match view z U3 with
    | some (.int j)=>need (viewC x U3) fun d=>need (slD d (some i) (some j)) fun s=>Q (.v s) U3
    | _=>False) E
  | _=>False) q).mono fun v H1 h1=>h1.mono fun u H2 h2=>?_
 obtain ⟨F,G,U,x,y,P,PX,rel,hl,rx,ry,hk,hok,hx⟩:=h2
 obtain ⟨i,ei,hk⟩:=match_int (U:=U) (k:=fun i=>wc U (fun z U3=>match view z U3 with
   | some (.int j)=>need (viewC x U3) fun d=>need (slD d (some i) (some j)) fun s=>P (.v s) U3
   | _=>False) PX) hk
 have ru:=look (U':=[]) (σ':=[]) (rel.mid hl) hl ry ei
 cases ru
 have relx:Rel X.K (U++[slotOf x]) (σ++[some v]) F G H2:=by
  have:=Rel.swap (U1:=[slotOf x]) (σ1:=[some v]) (U2:=[slotOf y]) (σ2:=[some (.int i)]) hl rfl rel
  exact Rel.mid (U:=U) (σ:=σ) this hl
 refine ⟨i,rfl,(nextOf (X:=wp X pn xe) (k:=fun x z U3 P PX=>match view z U3 with
   | some (.int j)=>need (viewC x U3) fun d=>need (slD d (some i) (some j)) fun s=>P (.v s) U3
   | _=>False) relx rx hk hok hx).mono fun t H3 h3=>?_⟩
 obtain ⟨F,G,U,x,y,P,PX,rel,hl,rx,ry,hk,hok,hx⟩:=h3
 obtain ⟨j,ej,hk⟩:=match_int (U:=U) (k:=fun j=>need (viewC x U) fun d=>need (slD d (some i) (some j)) fun s=>P (.v s) U) hk
 have ru:=look (U':=[]) (σ':=[]) (rel.mid hl) hl ry ej
 cases ru
 exact ⟨j,rfl,zeI (q:=.non) rel hl rx hk hok⟩
end
end FL
end
section
namespace FL
open PySem
def wMS (f:List Nat->List D->Option S) (o:WE) (a:WA):WE:=fun U Q E=>o U (fun x U1=>match x with
 | .v (.sh (.str l))=>a U1 (fun rs U2=>need (rs.mapM fun r=>viewC r U2) fun ds=>need (f l ds) fun s=>Q (.v s) U2) E
 | _=>False) E
def strsD:List D->Option (List (List Nat))
 | []=>some []
 | .str x::r=>(strsD r).map (x::·)
 | _::_=>none
@[simp] theorem zcM (l:List (List Nat)):strsD (l.map .str)=some l:=by
  induction l with
  | nil=>rfl
  | cons a r ih=>rw [map_cons,strsD,ih]; rfl
def joinD (sep:List Nat):List (List Nat)->List Nat
 | []=>[]
 | [x]=>x
 | x::r=>x++sep++joinD sep r
theorem zbv (sep:List Nat):∀ ys:List (List Nat),(joinD sep ys).length<=(ys.map List.length).sum + ys.length * sep.length
 | []=>zero_le _
 | [x]=>by simp [joinD]
 | x::y::r=>by
   have:=zbv sep (y::r)
   rw [joinD,length_append,length_append,map_cons,List.sum_cons,length_cons (a:=x),Nat.succ_mul]
   ·lia
   ·intro h; cases h
theorem zfh (ys:List (List Nat)):joinD [] ys=ys.flatten:=by
 induction ys with
 | nil=>rfl
 | cons x r ih=>
   cases r with
   | nil=>simp [joinD]
   | cons y r=>rw [joinD,ih]; simp; intro h; cases h
def joinS (sep:List Nat) (l:List D):Option S:=(strsD l).bind fun ys=>if (ys.map List.length).sum + ys.length * sep.length<=big then some (.sh (.str (joinD sep ys))) else none
def mJoin (sep:List Nat):List D->Option S
 | [.lst l]=>joinS sep l
 | [.tup l]=>joinS sep l
 | _=>none
def wPopAt (j:Nat) (e:WE):WE:=fun U Q E=>match slot U j with
 | some (.lst _)=>e U (fun r U2=>match view r U2,slot U2 j with
   | some (.int i),some (.lst l)=>need (if l.length<=big then ixN l.length i else none) fun k=>need l[k]? fun s=>Q (.v s) (U2.set j (some (.lst (l.eraseIdx k))))
   | _,_=>False) E
 | _=>False
def bools:List D->Option (List Bool)
 | []=>some []
 | .bl x::r=>(bools r).map (x::·)
 | _::_=>none
@[simp] theorem zjk (l:List Bool):bools (l.map .bl)=some l:=by
  induction l with
  | nil=>rfl
  | cons a r ih=>rw [map_cons,bools,ih]; rfl
end FL
end
section
namespace FL
open PySem PySem.Spec PyProof.Rows L2
section
variable {X:Cx} {e:Expr} {es:List Expr} {wo:WE} {wa:WA} {o:Expr} {name:Str} {apos cpos:Pos} {id:String} {r:V->List V->Hp->VK->Prop} {f:List Nat->List D->Option S}
def DoesMS (K:W.Frag) (r:V->List V->Hp->VK->Prop) (f:List Nat->List D->Option S):Prop:=∀ (σ:St) (U:Env) (F G H:Hp) (x:Str) (vs:List V) (ds:List D) (s:S) (Q:VK),Rel K U σ F G H->x.cps.toList.length<=16777216->RepEs K F H vs ds->f x.cps.toList ds=some s->
 (∀ v F' H',Same F F'->Rel K (U++[some s]) (σ++[some v]) F' G H'->Q v H')->r (.str x) vs H Q
theorem zm9 (hm:∀ pn xe,MtM (wp X pn xe) id r) (hd:DoesMS X.K r f) (slot:Slot "str" name id) (hty:typeOf (.builtin id)=pure (.type "method_descriptor")) (ho:FE X o wo) (ha:FA X (e::es) wa)
  (hbase:attributeBase o name X.env (eval o X.env)=eval o X.env:=by rfl)
  (hfew:((backTo cpos (starEach (e::es) X.env)).all (fun x=>!x.1) && (backToKw cpos (keywordEach [] X.env)).all (fun x=>x.1.isSome)
   && decide ((e::es).length + ([]:List Keyword).length + (if ([]:List Keyword).isEmpty then 0 else 1) < 30))=true:=by rfl)
  (hline:(apos.endLine == cpos.line)=true:=by rfl) (hs:starEach (e::es) X.env=(false,eval e X.env)::starEach es X.env:=by rfl) (hplain:(backTo cpos (starEach es X.env)).any (·.1)=false:=by rfl):
  FE X (.Call (.Attribute o name apos) (e::es) [] cpos) (wMS f wo wa):=fun pn xe hp=>by
 refine PE.imp (zf1 (X:=wp X pn xe) PySem.F.plainAttrs_str slot hty (hm pn xe) (ho pn xe hp) (ha pn xe hp) hbase hfew hline hs hplain) fun σ H Q q=>?_
 refine (one (k:=fun x U1 Q E=>match x with
  | .v (.sh (.str l))=>wa U1 (fun rs U2=>need (rs.mapM fun r=>viewC r U2) fun ds=>need (f l ds) fun s=>Q (.v s) U2) E
  | _=>False) q).mono fun v H1 h1=>?_
 obtain ⟨F,G,U,x,P,PX,rel,hl,rx,hk,hok,hx⟩:=h1
 split at hk
 ·rename_i l
  have rp:=look (U':=[]) (σ':=[]) (x:=.v (.sh (.str l))) rel hl rx rfl
  cases rp with
  | str e1 z=>
    rename_i y
    subst e1
    refine ⟨rfl,F,G,U,_,PX,rel.drop hl,hk,fun rs U2 vs F2 H2 hk2 s2 r2 hl2 rvs=>?_,hx⟩
    obtain ⟨ds,ed,hk2⟩:=zae hk2
    obtain ⟨s,es,hk2⟩:=zae hk2
    obtain ⟨F3,s3,re,r3⟩:=takeAll (U':=[]) (σ':=[]) (by simpa using r2) hl2 rvs ed
    exact hd σ U2 F3 G H2 y vs ds s Q (by simpa using r3) z re es fun v F' H' sm r'=>hok _ U2 v F' H' hk2 (s2.trans (s3.trans sm)) r' trivial
 ·exact hk.elim
end
section
variable {X:Cx} {K:W.Frag}
theorem ze0 (r:Reps K F xs l) (h:strsD l=some ys):∃ zs:List Str,xs=zs.map V.str/\ys=zs.map fun z=>z.cps.toList:=
 Reps.ind (P:=fun xs l=>∀ ys,strsD l=some ys->∃ zs:List Str,xs=zs.map V.str/\ys=zs.map fun z=>z.cps.toList) (fun ys h=>by cases h; exact ⟨[],rfl,rfl⟩) (fun a _ ih ys h=>by
  cases a with
  | @str x _ e z=>
    rw [strsD] at h
    obtain ⟨ys',h1,rfl⟩:=map_eq_some_iff.mp h
    obtain ⟨zs,rfl,rfl⟩:=ih _ h1
    exact ⟨x::zs,rfl,by rw [map_cons,e]⟩
  | _=>cases h) r ys h
theorem zdX (sep:Str):∀ zs:List Str,(Str.join sep zs).cps.toList=joinD sep.cps.toList (zs.map fun z=>z.cps.toList)
 | []=>rfl
 | [x]=>rfl
 | x::y::r=>by
   show ((x++sep++Str.join sep (y::r):Str)).cps.toList=x.cps.toList++sep.cps.toList++joinD sep.cps.toList ((y::r).map fun z=>z.cps.toList)
   rw [<- zdX sep (y::r)]
   show (x.cps++sep.cps++(Str.join sep (y::r)).cps).toList=_
   rw [toList_append,toList_append]
theorem zbn:∀ {us:List Value},Vals (ys.map V.str) us->StrsAre us ys:=by
 induction ys with
 | nil=>intro us r; rw [map_nil] at r; cases r; exact .nil
 | cons n ns ih=>
   intro us r
   rw [map_cons] at r
   cases r with
   | cons r1 r2=>
     obtain ⟨t,e⟩:=r1
     subst e
     exact .cons n t (ih r2)
def rJoin (K:W.Frag):V->List V->Hp->VK->Prop:=fun x vs H Q=>∃ z a ys,x=.str z/\vs=[.ref a]/\(SqL K H a (ys.map V.str)\/SqT K H a (ys.map V.str))/\(ys.map (·.length)).sum + ys.length * z.length<=16777216/\Q (.str (Str.join z ys)) H
theorem zhB:MtM X "str.join" (rJoin X.K):=by
 intro pins s σ H x vs v us Q I rx rv h
 obtain ⟨z,a,ys,rfl,rfl,hq,hz,q⟩:=h
 obtain ⟨t,rfl⟩:=rx
 cases rv with
 | cons r1 r2=>
   cases r2
   cases r1
   have e:Txt.join z ys=Str.join z ys:=StrLaws.glued_eq_join z ys
   rcases hq with hq | hq
   ·obtain ⟨its,r,pl,_⟩:=I.list hq
    exact join_list pl.isList (zbn r) hz fun t' k=>⟨.str (Str.join z ys),H,I.tok _,⟨_,by rw [e]⟩,q⟩
   ·obtain ⟨its,r,pl,_⟩:=I.tuple hq
    exact join_tuple pl (zbn r) hz fun t' k=>⟨.str (Str.join z ys),H,I.tok _,⟨_,by rw [e]⟩,q⟩
theorem zc6 (rel:Rel K U σ F G H) (hq:SqL K H a xs\/SqT K H a xs) (r:Reps K F xs l) (e:joinS x.cps.toList l=some s)
  (k:∀ v F' H',Same F F'->Rel K (U++[some s]) (σ++[some v]) F' G H'->Q v H'):rJoin K (.str x) [.ref a] H Q:=by
 unfold joinS at e
 obtain ⟨ys,e1,e2⟩:=Option.bind_eq_some_iff.mp e
 obtain ⟨zs,rfl,rfl⟩:=ze0 r e1
 split at e2
 ·rename_i hz
  cases e2
  have hl:∀ z:Str,z.cps.toList.length=z.length:=fun z=>by rw [length_toList]; rfl
  have e3:((zs.map fun z=>z.cps.toList).map List.length)=zs.map (·.length):=by rw [map_map]; exact map_congr_left fun z _=>hl z
  have hz2:=hz
  rw [e3,length_map,hl] at hz
  refine ⟨x,a,zs,rfl,rfl,hq,le_trans hz (by decide),k _ F H (Same.refl F) (rel.push (.str (zdX x zs) ?_))⟩
  exact le_trans (zbv _ _) (le_trans hz2 (by decide))
 ·cases e2
theorem zfj:DoesMS K (rJoin K) mJoin:=by
 intro σ U F G H x vs ds s Q rel hz re e hq
 obtain ⟨d,v,rfl,rfl⟩:=arg1 (fun x y r=>by cases x <;> rfl) rfl re e
 cases d with
 | tup l=>
   obtain ⟨a,xs,rfl,h1,r1⟩:=re.1.tup
   exact zc6 rel (.inr (SqT.of (rel.fr _ _ h1))) r1 e hq
 | lst l=>
   obtain ⟨a,xs,rfl,h1,r1⟩:=re.1.lst rel.fr
   exact zc6 rel (.inl h1) r1 e hq
 | _=>cases e
end
section
variable {X:Cx} {e:Expr} {wo:WE} {wa:WA} {o:Expr} {apos cpos:Pos}
theorem zfg (ho:FE X o wo) (ha:FA X [e] wa)
  (hbase:attributeBase o "join" X.env (eval o X.env)=eval o X.env:=by rfl)
  (hfew:((backTo cpos (starEach [e] X.env)).all (fun x=>!x.1) && (backToKw cpos (keywordEach [] X.env)).all (fun x=>x.1.isSome)
   && decide ([e].length + ([]:List Keyword).length + (if ([]:List Keyword).isEmpty then 0 else 1) < 30))=true:=by rfl)
  (hline:(apos.endLine == cpos.line)=true:=by rfl) (hs:starEach [e] X.env=(false,eval e X.env)::starEach [] X.env:=by rfl) (hplain:(backTo cpos (starEach [] X.env)).any (·.1)=false:=by rfl):
  FE X (.Call (.Attribute o "join" apos) [e] [] cpos) (wMS mJoin wo wa):=zm9 (fun _ _=>zhB) zfj PySem.F.slot_str_join PySem.F.type_str_join ho ha hbase hfew hline hs hplain
end
section
variable {K:W.Frag} {F H G:Hp} {σ:St} {U:Env}
theorem SReps.erase:∀ {xs:List V} {l:List S} {fp:List Addr} {m:Nat} {s:S},SReps K F H xs l fp->l[m]?=some s->∃ y fa fi fb,fp=fa++(fi++fb)/\xs[m]?=some y/\SRep K F H y s fi/\SReps K F H (xs.eraseIdx m) (l.eraseIdx m) (fa++fb)
 | _,_,_,_,_,.nil,h=>by simp at h
 | _,_,_,0,s,.cons (x:=x) (fp:=fp) (fq:=fq) a b,h=>by
   have e:=qg h
   subst e
   exact ⟨x,[],fp,fq,rfl,rfl,a,b⟩
 | _,_,_,m + 1,s,.cons (fp:=fp) (fq:=fq) a b,h=>by
   obtain ⟨y,fa,fi,fb,rfl,h1,h2,h3⟩:=SReps.erase (m:=m) b (by simpa using h)
   refine ⟨y,fp++fa,fi,fb,(append_assoc ..).symm,by simpa using h1,h2,?_⟩
   rw [append_assoc]
   exact .cons a h3
theorem Rel.popItem {D:Addr} (r:Rel K U σ F G H) (hs:slot U n=some (.lst l)) (hσ:σ[n]?=some (some (.ref D))) (hm:l[m]?=some s):
  ∃ xs y,H D=some (.lst xs)/\xs.length=l.length/\xs[m]?=some y/\Rel K (U.set n (some (.lst (l.eraseIdx m)))++[some s]) (σ++[some y]) F G (upd H D (.lst (xs.eraseIdx m))):=by
 obtain ⟨fp,e,nd,ap⟩:=r.en
 obtain ⟨v',fa,fi,fb,e1,rfl,q,up⟩:=e.at hs
 rw [hσ] at e1
 have e2:V.ref D=v':=by simpa using e1
 subst e2
 cases q with
 | lst hD rl=>
   rename_i xs fl
   obtain ⟨y,ga,gi,gb,rfl,hy,sr,rl2⟩:=rl.erase hm
   refine ⟨xs,y,hD,rl.len,hy,?_⟩
   obtain ⟨na,nib,nab⟩:=nodup_append.mp nd
   obtain ⟨ni,nb,nib⟩:=nodup_append.mp nib
   obtain ⟨nD,nfl⟩:=nodup_cons.mp ni
   have hDa:D∉fa:=fun z=>nab D z D (qk _ qo) rfl
   have hDb:D∉fb:=fun z=>nib D qo D z rfl
   have apD:=ap D (qj _ (qk _ qo))
   have ne:∀ {l:List Addr},D∉l->∀ x∈l,upd H D (.lst (xs.eraseIdx m)) x=H x:=fun h x hx=>zaf fun z=>h (z ▸ hx)
   have hDg:D∉ga++gb:=fun z=>nD ((mem_append.mp z).elim (fun w=>qk _ w) fun w=>qj _ (qj _ w))
   have hDi:D∉gi:=fun z=>nD (qj _ (qk _ z))
   have new:SRep K F (upd H D (.lst (xs.eraseIdx m))) (.ref D) (.lst (l.eraseIdx m)) (D::(ga++gb)):=.lst zai (rl2.mono (Same.refl F) (ne hDg))
   have a2:=up (F':=F) (H':=upd H D (.lst (xs.eraseIdx m))) (o:=some (.lst (l.eraseIdx m))) (u:=some (.ref D)) (Same.refl F) (fun x hx=>zaf fun z=>(mem_append.mp hx).elim (fun w=>hDa (z ▸ w)) fun w=>hDb (z ▸ w)) (.so new .nil)
   rw [zbB hσ] at a2
   have a3:=a2.app (.so (sr.mono (Same.refl F) (ne hDi)) .nil)
   have pm:(fa++((D::(ga++gb))++[]++fb)++(gi++[])).Perm (fa++((D::(ga++(gi++gb)))++fb)):=by
    simp only [append_nil,append_assoc,cons_append]
    refine List.Perm.append_left _ (List.Perm.cons _ (List.Perm.append_left _ ?_))
    rw [<- append_assoc gi gb fb,<- append_assoc gb fb gi]
    refine (perm_append_comm (l₁:=gb++fb) (l₂:=gi)).trans ?_
    rw [append_assoc]
   refine ⟨Same.updR r.fr apD.1,fun x o w=>?_,_,a3,pm.nodup_iff.mpr nd,fun x hx=>ap x (pm.mem_iff.mp hx)⟩
   have hx:x≠D:=fun z=>by rw [z,apD.2] at w; cases w
   rw [zaf hx]
   exact r.gr x o w
end
section
variable {X:Cx} {pos tpos:Pos}
theorem zgt (ho:FE X o (wVar j)) (he:FE X e we)
  (hbase:attributeBase o "pop" X.env (eval o X.env)=eval o X.env:=by rfl)
  (hfew:((backTo cpos (starEach [e] X.env)).all (fun x=>!x.1) && (backToKw cpos (keywordEach [] X.env)).all (fun x=>x.1.isSome)
   && decide ([e].length + ([]:List Keyword).length + (if ([]:List Keyword).isEmpty then 0 else 1) < 30))=true:=by rfl)
  (hline:(apos.endLine == cpos.line)=true:=by rfl) (hs:starEach [e] X.env=[(false,eval e X.env)]:=by rfl):FE X (.Call (.Attribute o "pop" apos) [e] [] cpos) (wPopAt j we):=fun pn xe hp=>by
 refine PE.imp (zf1 (X:=wp X pn xe) PySem.F.plainAttrs_list PySem.F.slot_list_pop PySem.F.type_list_pop zgJ (ho pn xe hp) (zaa he zac hs pn xe hp) hbase hfew hline hs rfl) fun σ H Q q=>?_
 obtain ⟨F,G,U,P,PX,rel,hw,hok,hx⟩:=q
 have hw':(match slot U j with
  | some (.lst _)=>we U (fun r U2=>match view r U2,slot U2 j with
    | some (.int i),some (.lst l)=>need (if l.length<=big then ixN l.length i else none) fun k=>need l[k]? fun s=>P (.v s) (U2.set j (some (.lst (l.eraseIdx k))))
    | _,_=>False) PX
  | _=>False):=hw
 cases qs:slot U j with
 | none=>rw [qs] at hw'; exact hw'.elim
 | some s0=>
   cases s0 with
   | lst l0=>
     rw [qs] at hw'
     refine ⟨F,G,U,fun y U1=>y=.loc j/\U1=U,PX,rel,by unfold wVar; rw [qs]; exact ⟨rfl,rfl⟩,fun y U1 o' F1 H1 hk s1 r1 rv=>?_,hx⟩
     obtain ⟨rfl,rfl⟩:=hk
     have l1:=len1 r1
     have hσ:σ[j]?=some (some o'):=rv
     have r2:=r1.drop l1
     obtain ⟨v',fp,e1,sr⟩:=r2.at qs
     rw [hσ] at e1
     have e2:o'=v':=by simpa using e1
     subst e2
     cases sr with
     | lst hD rl=>
       rename_i a xs fl
       refine ⟨.inl ⟨rfl,_,SqL.of hD⟩,F1,G,U1,fun rs U2=>match rs with | [r]=>(match view r U2,slot U2 j with | some (.int i),some (.lst l)=>need (if l.length<=big then ixN l.length i else none) fun k=>need l[k]? fun s=>P (.v s) (U2.set j (some (.lst (l.eraseIdx k)))) | _,_=>False) | _=>False,PX,r2,hw',fun rs U2 vs F2 H2 hk s2 r3 hl rvs=>?_,hx.grow s1⟩
       match rs,vs,rvs,r3,hk with
       | [r],[v],rvs,r3,hk=>
         dsimp only at hk
         split at hk
         ·rename_i i l ei ql
          obtain ⟨m,em,hk⟩:=zae hk
          obtain ⟨s,es,hk⟩:=zae hk
          have rp:=look (U':=[]) (σ':=[]) r3 hl rvs.1 ei
          cases rp
          split at em
          ·rename_i hz
           have r4:=r3.drop hl
           obtain ⟨ys,y,hD2,hlen,hy,r5⟩:=Rel.popItem r4 ql hσ es
           rw [<- hlen] at em hz
           obtain ⟨b1,b2,b3,b4⟩:=zdi em
           have hb:ys.length<=1000000:=hz
           exact ⟨a,ys,i,m,y,rfl,rfl,hD2,by lia,by lia,b1,hy,hok _ _ y F2 _ hk (s1.trans s2) r5 trivial⟩
          ·cases em
         ·exact hk.elim
       | [],_,_,_,hk=>exact hk.elim
       | [_],[],rvs,_,_=>exact rvs.elim
       | [_],_::_::_,rvs,_,_=>exact rvs.2.elim
       | _::_::_,_,_,_,hk=>exact hk.elim
   | _=>rw [qs] at hw'; exact hw'.elim
end
section
variable {X:Cx} {K:W.Frag} {p pos:Pos} {e:Expr} {es:List Expr} {wa:WA}
theorem zgH:DoesB K (fun xs H Q=>∃ i j,xs=[.int i,.int j]/\Q (.int (if j > i then j else i)) H) bMax:=by
 intro σ U F G H vs ds s Q rel re e hq
 obtain ⟨d,d2,v,u,rfl,rfl⟩:=arg2 (fun x=>by cases x <;> rfl) (fun x y z r=>by cases x <;> first | rfl | (cases y <;> rfl)) rfl re e
 cases d with
 | int i=>
   cases d2 with
   | int j=>
     cases e
     have h1:=re.1.int
     have h2:=re.2.1.int
     subst h1
     subst h2
     exact ⟨i,j,rfl,hq _ F H (Same.refl F) (rel.push (.int _))⟩
   | _=>cases e
 | _=>cases e
theorem zgf:DoesB K (fun xs H Q=>∃ i j,xs=[.int i,.int j]/\Q (.int (if j < i then j else i)) H) bMin:=by
 intro σ U F G H vs ds s Q rel re e hq
 obtain ⟨d,d2,v,u,rfl,rfl⟩:=arg2 (fun x=>by cases x <;> rfl) (fun x y z r=>by cases x <;> first | rfl | (cases y <;> rfl)) rfl re e
 cases d with
 | int i=>
   cases d2 with
   | int j=>
     cases e
     have h1:=re.1.int
     have h2:=re.2.1.int
     subst h1
     subst h2
     exact ⟨i,j,rfl,hq _ F H (Same.refl F) (rel.push (.int _))⟩
   | _=>cases e
 | _=>cases e
theorem zjv (hc:X.calm=true) (hg:Gl X "max") (hm:X.mg "max"=none) (hv:bootBuiltins "max"=some (.builtin "max")) (ha:FA X (e::es) wa) (he:starEach (e::es) X.env=(false,eval e X.env)::starEach es X.env:=by rfl) (hpl:(backTo pos (starEach es X.env)).any (·.1)=false:=by rfl):FE X (.Call (.Name "max" p) (e::es) [] pos) (wB bMax wa):=
 zbE (fun _ _=>zfs hc) zgH hg hm hv ha (by decide) (by decide) he hpl
theorem ziW (hc:X.calm=true) (hg:Gl X "min") (hm:X.mg "min"=none) (hv:bootBuiltins "min"=some (.builtin "min")) (ha:FA X (e::es) wa) (he:starEach (e::es) X.env=(false,eval e X.env)::starEach es X.env:=by rfl) (hpl:(backTo pos (starEach es X.env)).any (·.1)=false:=by rfl):FE X (.Call (.Name "min" p) (e::es) [] pos) (wB bMin wa):=
 zbE (fun _ _=>zfJ hc) zgf hg hm hv ha (by decide) (by decide) he hpl
end
end FL
end
section
namespace FL
open PySem
mutual
def cmpD:D->D->Ordering
 | .int i,.int j=>if i < j then .lt else if j < i then .gt else .eq
 | .str x,.str y=>if x < y then .lt else if y < x then .gt else .eq
 | .tup l,.tup m=>cmpDs l m
 | _,_=>.eq
def cmpDs:List D->List D->Ordering
 | [],[]=>.eq
 | [],_::_=>.lt
 | _::_,[]=>.gt
 | a::l,b::m=>match cmpD a b with
   | .eq=>cmpDs l m
   | o=>o
end
def leD (a b:D):Bool:=match cmpD a b with
 | .gt=>false
 | _=>true
@[simp] theorem zcw (i j:Int):leD (.int i) (.int j)=decide (i<=j):=by
  unfold leD cmpD
  by_cases h:i < j
  ·rw [if_pos h,decide_eq_true (by lia)]
  ·rw [if_neg h]
   by_cases h2:j < i
   ·rw [if_pos h2,decide_eq_false (by lia)]
   ·rw [if_neg h2,decide_eq_true (by lia)]
@[simp] theorem zbK (x y:List Nat):leD (.str x) (.str y)=!decide (y < x):=by
  unfold leD cmpD
  by_cases h:x < y
  ·rw [if_pos h,decide_eq_false (fun h'=>List.lt_asymm h h')]; rfl
  ·rw [if_neg h]
   by_cases h2:y < x
   ·rw [if_pos h2,decide_eq_true h2]; rfl
   ·rw [if_neg h2,decide_eq_false h2]; rfl
def insD (x:D):List D->List D
 | []=>[x]
 | y::r=>if leD x y then x::y::r else y::insD x r
def sortD:List D->List D
 | []=>[]
 | x::r=>insD x (sortD r)
theorem zbO (x:D):∀ l:List D,(insD x l).Perm (x::l)
 | []=>.refl _
 | y::r=>by
   unfold insD
   split
   ·exact .refl _
   ·exact (List.Perm.cons y (zbO x r)).trans (.swap x y r)
theorem zaF:∀ l:List D,(sortD l).Perm l
 | []=>.refl _
 | x::r=>(zbO x _).trans (.cons x (zaF r))
structure OrdOn (P:D->Prop):Prop where
 tot:∀ a b,P a->P b->leD a b=true\/leD b a=true
 tr:∀ a b c,P a->P b->P c->leD a b=true->leD b c=true->leD a c=true
 anti:∀ a b,P a->P b->leD a b=true->leD b a=true->a=b
theorem zbL (o:OrdOn P) (x:D) (hx:P x):∀ l:List D,(∀ d∈l,P d)->l.Pairwise (leD · ·=true)->(insD x l).Pairwise (leD · ·=true)
 | [],_,_=>List.pairwise_singleton _ _
 | y::r,hp,h=>by
   obtain ⟨h1,h2⟩:=pairwise_cons.mp h
   have hy:=hp y qo
   have hr:∀ d∈r,P d:=fun d hd=>hp d (qm _ hd)
   unfold insD
   split
   ·rename_i c
    refine pairwise_cons.mpr ⟨fun d hd=>?_,h⟩
    rcases mem_cons.mp hd with rfl | hd
    ·exact c
    ·exact o.tr x y d hx hy (hr d hd) c (h1 d hd)
   ·rename_i c
    refine pairwise_cons.mpr ⟨fun d hd=>?_,zbL o x hx r hr h2⟩
    rcases mem_cons.mp ((zbO x r).mem_iff.mp hd) with rfl | hd
    ·exact (o.tot d y hx hy).resolve_left c
    ·exact h1 d hd
theorem zaP (o:OrdOn P):∀ l:List D,(∀ d∈l,P d)->(sortD l).Pairwise (leD · ·=true)
 | [],_=>.nil
 | x::r,hp=>zbL o x (hp x qo) _ (fun d hd=>hp d (qm _ ((zaF r).mem_iff.mp hd))) (zaP o r fun d hd=>hp d (qm _ hd))
theorem za9 (o:OrdOn P):∀ l m:List D,(∀ d∈l,P d)->l.Perm m->l.Pairwise (leD · ·=true)->m.Pairwise (leD · ·=true)->l=m
 | [],m,_,p,_,_=>(List.nil_perm.mp p).symm
 | x::r,[],_,p,_,_=>absurd p.length_eq (by simp)
 | x::r,y::t,hp,p,h1,h2=>by
   obtain ⟨a1,a2⟩:=pairwise_cons.mp h1
   obtain ⟨b1,b2⟩:=pairwise_cons.mp h2
   have hx:=hp x qo
   have hy:P y:=hp y (p.mem_iff.mpr qo)
   have e:x=y:=by
    have m1:x∈y::t:=p.mem_iff.mp qo
    have m2:y∈x::r:=p.mem_iff.mpr qo
    rcases mem_cons.mp m1 with e | m1
    ·exact e
    ·rcases mem_cons.mp m2 with e | m2
     ·exact e.symm
     ·exact o.anti x y hx hy (a1 y m2) (b1 x m1)
   subst e
   rw [za9 o r t (fun d hd=>hp d (qm _ hd)) (List.Perm.cons_inv p) a2 b2]
theorem zcf (o:OrdOn P) (hp:∀ d∈l,P d) (p:m.Perm l) (h:m.Pairwise (leD · ·=true)):sortD l=m:=
 za9 o _ _ (fun d hd=>hp d ((zaF l).mem_iff.mp hd)) ((zaF l).trans p.symm) (zaP o l hp) h
def IsInt:D->Prop
 | .int _=>True
 | _=>False
def IsStr:D->Prop
 | .str _=>True
 | _=>False
theorem zhJ:OrdOn IsInt where
 tot
  | .int a,.int b,_,_=>by simp only [zcw,decide_eq_true_eq]; lia
 tr
  | .int a,.int b,.int c,_,_,_=>by simp only [zcw,decide_eq_true_eq]; lia
 anti
  | .int a,.int b,_,_=>by simp only [zcw,decide_eq_true_eq]; intro h1 h2; rw [Int.le_antisymm h1 h2]
theorem zdy:OrdOn IsStr where
 tot
  | .str a,.str b,_,_=>by
    simp only [zbK,Bool.not_eq_true',decide_eq_false_iff_not]
    by_cases h:b < a
    ·exact .inr fun h'=>List.lt_asymm h h'
    ·exact .inl h
 tr
  | .str a,.str b,.str c,_,_,_=>by
    simp only [zbK,Bool.not_eq_true',decide_eq_false_iff_not]
    intro h1 h2
    exact fun h=>(List.le_trans (l₁:=a) (l₂:=b) (l₃:=c) h1 h2) h
 anti
  | .str a,.str b,_,_=>by
    simp only [zbK,Bool.not_eq_true',decide_eq_false_iff_not]
    intro h1 h2
    have:a=b:=List.le_antisymm (as:=a) (bs:=b) h1 h2
    rw [this]
def intsD:List D->Option (List Int)
 | []=>some []
 | .int x::r=>(intsD r).map (x::·)
 | _::_=>none
@[simp] theorem ze5 (l:List Int):intsD (l.map .int)=some l:=by
  induction l with
  | nil=>rfl
  | cons a r ih=>rw [map_cons,intsD,ih]; rfl
def sortS (l:List D):Option S:=if l.length < 64/\((intsD l).isSome\/(strsD l).isSome) then some (.lst ((sortD l).map .sh)) else none
def bSorted:List D->Option S
 | [.lst l]=>sortS l
 | _=>none
end FL
end
section
namespace FL
open PySem PySem.Spec PyProof.Rows L2
section
variable {X:Cx} {K:W.Frag} {p pos:Pos} {e:Expr} {es:List Expr} {wa:WA}
theorem zez (r:Reps K F xs l) (h:intsD l=some ys):xs=ys.map V.int/\l=ys.map D.int:=
 Reps.ind (P:=fun xs l=>∀ ys,intsD l=some ys->xs=ys.map V.int/\l=ys.map D.int) (fun ys h=>by cases h; exact ⟨rfl,rfl⟩) (fun a _ ih ys h=>by
  cases a with
  | int c=>
    rw [intsD] at h
    obtain ⟨ys',h1,rfl⟩:=map_eq_some_iff.mp h
    obtain ⟨e1,e2⟩:=ih _ h1
    rw [e1,e2]
    exact ⟨rfl,rfl⟩
  | _=>cases h) r ys h
theorem zaO:∀ {us:List Value} {ns:List Int},IntsAre us ns->Vals (ns.map V.int) us
 | _,_,.nil=>.nil
 | _,_,.cons i t r=>.cons ⟨t,rfl⟩ (zaO r)
theorem zdc:∀ {us:List Value} {ns:List Str},StrsAre us ns->Vals (ns.map V.str) us
 | _,_,.nil=>.nil
 | _,_,.cons i t r=>.cons ⟨t,rfl⟩ (zdc r)
def rSorted (K:W.Frag):List V->Hp->VK->Prop:=fun xs H Q=>∃ a,xs=[.ref a]/\
 ((∃ ns:List Int,ns.length < 64/\SqL K H a (ns.map V.int)/\∀ ns':List Int,ns'.Perm ns->ns'.Pairwise (·<=·)->∀ q,H q=none->Q (.ref q) (upd H q (.lst (ns'.map V.int))))\/
  (∃ zs:List Str,zs.length < 64/\SqL K H a (zs.map V.str)/\∀ zs':List Str,zs'.Perm zs->sortedS zs'=true->∀ q,H q=none->Q (.ref q) (upd H q (.lst (zs'.map V.str)))))
theorem zcV:CallR X (.builtin "sorted") (rSorted X.K):=by
 intro pins s σ H xs us Q I r h
 obtain ⟨a,rfl,h⟩:=h
 cases r with
 | cons r1 r2=>
   cases r2
   cases r1
   rcases h with ⟨ns,h64,hq,q⟩ | ⟨zs,h64,hq,q⟩
   ·obtain ⟨its,r,pl,_⟩:=I.list hq
    have hlen:its.length=ns.length:=by have:=r.length; rw [length_map] at this; exact this.symm
    refine sorted_ints pl.isList (zbl r) (by rw [hlen]; exact h64) fun out ns' a1 a2 a3=>?_
    obtain ⟨e,he⟩:=sortedAll_at s.heap its out
    have hz:ns'.length<=sizeLine:=by rw [a2.length_eq,sizeLine_eq]; lia
    refine ⟨.ref (s.heap.objs.size + 1),_,I.laid (t':=s.toks) (o:=.lst (ns'.map V.int)) (fun b ob w=>sortedAll_old w) (le_succ _) ?_,rfl,q ns' a2 a3 _ (I.hok.fresh (le_succ _))⟩
    exact ⟨by rw [length_map]; exact hz,out.toList,e,zaO a1,by rw [Array.toArray_toList]; exact he⟩
   ·obtain ⟨its,r,pl,_⟩:=I.list hq
    have hlen:its.length=zs.length:=by have:=r.length; rw [length_map] at this; exact this.symm
    refine sorted_strs pl.isList (zbn r) (by rw [hlen]; exact h64) fun out ns' a1 a2 a3=>?_
    obtain ⟨e,he⟩:=sortedAll_at s.heap its out
    have hz:ns'.length<=sizeLine:=by rw [a2.length_eq,sizeLine_eq]; lia
    refine ⟨.ref (s.heap.objs.size + 1),_,I.laid (t':=s.toks) (o:=.lst (ns'.map V.str)) (fun b ob w=>sortedAll_old w) (le_succ _) ?_,rfl,q ns' a2 a3 _ (I.hok.fresh (le_succ _))⟩
    exact ⟨by rw [length_map]; exact hz,out.toList,e,zdc a1,by rw [Array.toArray_toList]; exact he⟩
theorem za6:∀ ns:List Int,Reps K F (ns.map V.int) (ns.map D.int)
 | []=>.nil
 | n::ns=>.cons (.int n) (za6 ns)
theorem zcR:∀ zs:List Str,(∀ z∈zs,z.cps.toList.length<=16777216)->Reps K F (zs.map V.str) (zs.map fun z=>D.str z.cps.toList)
 | [],_=>.nil
 | z::zs,h=>.cons (.str rfl (h z qo)) (zcR zs fun y hy=>h y (qm _ hy))
theorem zb5:∀ {xs:List V} {l:List D} {zs:List Str},Reps K F xs l->xs=zs.map V.str->l=(zs.map fun z=>D.str z.cps.toList)/\∀ z∈zs,z.cps.toList.length<=16777216
 | _,_,[],.nil,_=>⟨rfl,fun _ h=>by cases h⟩
 | _,_,_::_,.nil,h=>by simp at h
 | _,_,[],.cons _ _,h=>by simp at h
 | _,_,z::zs,.cons a b,h=>by
   rw [map_cons] at h
   injection h with h1 h2
   subst h1
   obtain ⟨e,k⟩:=zb5 b h2
   cases a with
   | str e1 z1=>
     subst e1
     refine ⟨by rw [e]; rfl,fun y hy=>?_⟩
     rcases mem_cons.mp hy with rfl | hy
     ·exact z1
     ·exact k y hy
theorem zdd:∀ (r:List Str) (p:Str),risingS p r=true->((p::r).map fun z=>D.str z.cps.toList).Pairwise (leD · ·=true)
 | [],p,_=>List.pairwise_singleton _ _
 | x::r,p,h=>by
   have h':(!ltCps x.cps.toList p.cps.toList && risingS x r)=true:=h
   rw [and_eq_true,ltCps_eq] at h'
   have ih:=zdd r x h'.2
   have px:leD (.str p.cps.toList) (.str x.cps.toList)=true:=by rw [zbK]; exact h'.1
   rw [map_cons]
   refine pairwise_cons.mpr ⟨fun d hd=>?_,ih⟩
   rw [map_cons] at hd ih
   rcases mem_cons.mp hd with rfl | hd
   ·exact px
   ·obtain ⟨z,_,rfl⟩:=mem_map.mp hd
    exact zdy.tr _ (.str x.cps.toList) _ trivial trivial trivial px ((pairwise_cons.mp ih).1 _ hd)
theorem zei:∀ r:List Str,sortedS r=true->(r.map fun z=>D.str z.cps.toList).Pairwise (leD · ·=true)
 | [],_=>.nil
 | x::r,h=>zdd r x h
theorem zdp:DoesB K (rSorted K) bSorted:=by
 intro σ U F G H vs ds s Q rel re e hq
 obtain ⟨d,v,rfl,rfl⟩:=arg1 (fun x y r=>by cases x <;> rfl) rfl re e
 cases d with
 | lst l=>
   have e:sortS l=some s:=e
   unfold sortS at e
   split at e
   ·rename_i hc
    cases e
    obtain ⟨a,xs,rfl,h1,r1⟩:=re.1.lst rel.fr
    refine ⟨a,rfl,?_⟩
    cases q1:intsD l with
    | some ns=>
      obtain ⟨e1,e2⟩:=zez r1 q1
      subst e1
      subst e2
      refine .inl ⟨ns,by have:=hc.1; rwa [length_map] at this,h1,fun ns' p pw q hq'=>?_⟩
      have es:sortD (ns.map D.int)=ns'.map D.int:=zcf zhJ (fun d hd=>by obtain ⟨z,_,rfl⟩:=mem_map.mp hd; trivial) (p.map _) (pairwise_map.mpr (pw.imp fun {a b} h=>by rw [zcw]; exact decide_eq_true h))
      rw [es] at hq
      exact hq _ F _ (Same.refl F) (rel.newLD hq' (za6 ns'))
    | none=>
      cases q2:strsD l with
      | none=>rw [q1,q2] at hc; simp at hc
      | some ys=>
        obtain ⟨zs,e1,e2⟩:=ze0 r1 q2
        subst e1
        obtain ⟨e3,sm⟩:=zb5 r1 rfl
        subst e3
        refine .inr ⟨zs,by have:=hc.1; rwa [length_map] at this,h1,fun zs' p pw q hq'=>?_⟩
        have es:sortD (zs.map fun z=>D.str z.cps.toList)=zs'.map fun z=>D.str z.cps.toList:=zcf zdy (fun d hd=>by obtain ⟨z,_,rfl⟩:=mem_map.mp hd; trivial) (p.map _) (zei zs' pw)
        rw [es] at hq
        exact hq _ F _ (Same.refl F) (rel.newLD hq' (zcR zs' fun z hz=>sm z (p.mem_iff.mp hz)))
   ·cases e
 | _=>cases e
end
mutual
def toPy:D->PyData
 | .non=>.none
 | .bl b=>.bool b
 | .int i=>.int i
 | .str l=>.str ⟨l.toArray⟩
 | .tup l=>.tuple (toPys l)
 | .lst l=>.list (toPys l)
 | _=>.none
def toPys:List D->List PyData
 | []=>[]
 | d::r=>toPy d::toPys r
end
mutual
def showD:D->Bool
 | .non=>true
 | .bl _=>true
 | .int i=>decide (i.natAbs.log2 < 1920)
 | .str _=>true
 | .tup l=>showDs l
 | .lst l=>showDs l
 | _=>false
def showDs:List D->Bool
 | []=>true
 | d::r=>showD d && showDs r
end
mutual
theorem zdv:∀ d:D,showD d=true->(toPy d).showable=true
 | .non,_=>rfl
 | .bl _,_=>rfl
 | .int i,h=>h
 | .str _,_=>rfl
 | .tup l,h=>by
   have h':showDs l=true:=h
   simpa [toPy,PyData.showable] using zaT l h'
 | .lst l,h=>by
   have h':showDs l=true:=h
   simpa [toPy,PyData.showable] using zaT l h'
 | .dct _ _ _,h=>by cases h
 | .set _,h=>by cases h
 | .exc _ _ _,h=>by cases h
theorem zaT:∀ l:List D,showDs l=true->PyData.showableAll (toPys l)=true
 | [],_=>rfl
 | d::r,h=>by
   rw [showDs,and_eq_true] at h
   rw [toPys,PyData.showableAll,zdv d h.1,zaT r h.2]
   rfl
end
mutual
theorem zfl:∀ d:D,(toPy d).hasDict=false
 | .non=>rfl
 | .bl _=>rfl
 | .int i=>rfl
 | .str _=>rfl
 | .tup l=>by simpa [toPy,PyData.hasDict] using zbu l
 | .lst l=>by simpa [toPy,PyData.hasDict] using zbu l
 | .dct _ _ _=>rfl
 | .set _=>rfl
 | .exc _ _ _=>rfl
theorem zbu:∀ l:List D,PyData.hasDictAll (toPys l)=false
 | []=>rfl
 | d::r=>by
   rw [toPys,PyData.hasDictAll,zfl d,zbu r]
   rfl
end
mutual
theorem zgu:∀ d:D,(toPy d).depth<=dep d
 | .non=>le_refl _
 | .bl _=>le_refl _
 | .int i=>le_refl _
 | .str _=>le_refl _
 | .tup l=>by
   have:=zbM l
   simp only [toPy,PyData.depth,dep]
   lia
 | .lst l=>by
   have:=zbM l
   simp only [toPy,PyData.depth,dep]
   lia
 | .dct _ _ _=>le_refl _
 | .set _=>le_refl _
 | .exc _ _ _=>le_refl _
theorem zbM:∀ l:List D,PyData.depthAll (toPys l)<=deps l
 | []=>le_refl _
 | d::r=>by
   have h1:=zgu d
   have h2:=zbM r
   simp only [toPys,PyData.depthAll,deps]
   lia
end
end FL
end
section
namespace FL
open PySem
def atD (l m:List Nat) (i:Nat):Bool:=decide (i + m.length<=l.length) && decide ((l.drop i).take m.length=m)
def findD (l m:List Nat):Option Nat:=(List.range (l.length + 1)).find? (atD l m)
def bListA:List D->Option S
 | [.tup l]=>some (.lst (l.map .sh))
 | [.lst l]=>some (.lst (l.map .sh))
 | [.str l]=>if l.length<=big then some (.lst (l.map fun c=>.sh (.str [c]))) else none
 | _=>none
def tyD:D->String
 | .non=>"NoneType"
 | .bl _=>"bool"
 | .int _=>"int"
 | .str _=>"str"
 | .tup _=>"tuple"
 | .lst _=>"list"
 | .dct _ _ _=>"dict"
 | .set _=>"set"
 | .exc _ _ _=>"?"
def isTy (T:String) (d:D):Bool:=tyD d == T || (tyD d == "bool" && T == "int")
def noExc:D->Bool
 | .exc _ _ _=>false
 | _=>true
def wIsI (T:String) (a:WE):WE:=fun U Q E=>a U (fun x U1=>need (view x U1) fun d=>noExc d=true/\Q (.v (.sh (.bl (isTy T d)))) U1) E
theorem find?_first (h:i < n) (hp:p i=true) (hn:∀ k,k < i->p k=false):(List.range n).find? p=some i:=by
 first | rfl | assumption | (simp_all; done)
theorem find?_not (hn:∀ k,p k=false):(List.range n).find? p=none:=by
 grind
end FL
end
section
namespace FL
open PySem PySem.Spec PyProof.Rows L2
section
variable {X:Cx} {K:W.Frag}
theorem zhe:StrLaws.At x y x.length i↔atD x.cps.toList y.cps.toList i=true:=by
 have h1:x.length=x.cps.toList.length:=by show x.cps.size=_; rw [length_toList]
 have h2:y.length=y.cps.toList.length:=by show y.cps.size=_; rw [length_toList]
 unfold StrLaws.At atD Builtin.Str.subAt
 rw [and_eq_true,decide_eq_true_eq,decide_eq_true_eq,h1,h2,beq_iff_eq]
 refine and_congr_right fun _=>?_
 rw [<- Array.toList_inj,Array.toList_extract,List.extract_eq_take_drop]
 have:i + y.cps.toList.length - i=y.cps.toList.length:=by lia
 rw [this]
theorem zhG (x y:Str):Txt.find x y=(match findD x.cps.toList y.cps.toList with | some i=>(i:Int) | none=>-1):=by
 have hn:∀ {i},¬ StrLaws.At x y x.length i->atD x.cps.toList y.cps.toList i=false:=fun {i} h=>by
  cases q:atD x.cps.toList y.cps.toList i with
  | false=>rfl
  | true=>exact absurd (zhe.mpr q) h
 rcases find_whole x y with ⟨e,h⟩ | ⟨i,e,hi,h⟩
 ·rw [e]
  unfold findD
  rw [find?_not fun k=>hn (h k)]
 ·rw [e]
  unfold findD
  have h3:=hi.1
  have h1:x.length=x.cps.toList.length:=by show x.cps.size=_; rw [length_toList]
  rw [find?_first (i:=i) (by rw [<- h1]; lia) (zhe.mp hi) fun k hk=>hn (h k hk)]
end
section
variable {X:Cx} {K:W.Frag} {p pos:Pos} {e:Expr} {es:List Expr} {wa:WA}
def rListS:List V->Hp->VK->Prop:=fun xs H Q=>∃ x:Str,xs=[.str x]/\x.length<=sizeLine/\∀ l,H l=none->Q (.ref l) (upd H l (.lst (x.cps.toList.map fun c=>.str ⟨#[c]⟩)))
theorem za4:∀ {xs:List V} {us:List Value},xs.length=us.length->(∀ (j:Nat) x u,xs[j]?=some x->us[j]?=some u->RelV x u)->Vals xs us
 | [],[],_,_=>.nil
 | [],_::_,h,_=>by simp at h
 | _::_,[],h,_=>by simp at h
 | x::xs,u::us,h,k=>.cons (k 0 x u rfl rfl) (za4 (by simpa using h) fun j x' u' h1 h2=>k (j + 1) x' u' (by simpa using h1) (by simpa using h2))
theorem zb0 (hc:X.calm=true):CallR X (.type "list") rListS:=by
 intro pins s σ H xs us Q I r h
 obtain ⟨x,rfl,hz,q⟩:=h
 obtain ⟨u,rfl,rx⟩:=vals1 r
 obtain ⟨t,rfl⟩:=rx
 refine call_list_str (I.ok.hd hc) x t (hn:=hz) fun h' tk acc' c' hk hS' hacc=>?_
 have hv:Vals (x.cps.toList.map fun c=>V.str ⟨#[c]⟩) acc'.toList:=za4 (by rw [length_map,length_toList,length_toList,hacc.1]) fun j y v h1 h2=>by
  obtain ⟨c,u,hc,rfl⟩:=hacc.2 j v (by rw [<- getElem?_toList]; exact h2)
  rw [getElem?_map,getElem?_toList,hc] at h1
  cases h1
  exact ⟨u,rfl⟩
 refine ⟨.ref s.heap.objs.size,_,I.laid (t':=tk) hk (le_refl _) (show ObjOk X.prog X.w _ h' _ (.lst (x.cps.toList.map fun c=>V.str ⟨#[c]⟩)) from ⟨?_,acc'.toList,c',hv,by simpa using hS'⟩),rfl,q _ (I.hok.fresh (le_refl _))⟩
 rw [length_map,length_toList]; exact hz
def rListA (K:W.Frag):List V->Hp->VK->Prop:=fun xs H Q=>rList K xs H Q\/rListS xs H Q
theorem zb3:∀ l:List Nat,Reps K F (l.map fun c=>V.str ⟨#[c]⟩) (l.map fun c=>D.str [c])
 | []=>.nil
 | c::l=>.cons (.str rfl (by show 1<=16777216; decide)) (zb3 l)
theorem zee:DoesB K (rListA K) bListA:=by
 intro σ U F G H vs ds s Q rel re e hq
 obtain ⟨d,v,rfl,rfl⟩:=arg1 (fun x y r=>by cases x <;> rfl) rfl re e
 cases d with
 | tup l=>exact .inl (zc8 σ U F G H [v] [.tup l] s Q rel re e hq)
 | lst l=>exact .inl (zc8 σ U F G H [v] [.lst l] s Q rel re e hq)
 | str l=>
   obtain ⟨x,rfl,e1,z⟩:=re.1.str
   have e:(if l.length<=big then some (S.lst (l.map fun c=>S.sh (.str [c]))) else none)=some s:=e
   split at e
   ·rename_i hb
    cases e
    refine .inr ⟨x,rfl,by rw [zbq e1]; exact zbC hb,fun p hp=>?_⟩
    rw [e1]
    have h:=rel.newLD hp (zb3 l)
    rw [map_map] at h
    exact hq (.ref p) F (upd H p (.lst (l.map fun c=>V.str ⟨#[c]⟩))) (Same.refl F) h
   ·cases e
 | _=>cases e
theorem zdK (hc:X.calm=true) (hg:Gl X "list") (hm:X.mg "list"=none) (hv:bootBuiltins "list"=some (.type "list")) (ha:FA X (e::es) wa) (he:starEach (e::es) X.env=(false,eval e X.env)::starEach es X.env:=by rfl) (hpl:(backTo pos (starEach es X.env)).any (·.1)=false:=by rfl):FE X (.Call (.Name "list" p) (e::es) [] pos) (wB bListA wa):=
 zaS (fun pn xe=>CallR.or' zcz (zb0 (X:=wp X pn xe) hc)) zee hg hm hv ha (by decide) (by decide) he hpl
end
section
variable {X:Cx} {pins:List (Addr×Obj)} {σ:St} {H:Hp} {s:Shared} {A:Around} {E:Value->Shared->Prop} {Q:Value->Shared->Prop} {b:Bool}
def tyOk (T:String):Bool:=T == "bool" || T == "int" || T == "str" || T == "tuple" || T == "list"
theorem zlM (K:W.Frag):∀ (T:String),tyOk T=true->∀ d:D,noExc d=true->W.kitOne K (.type (tyD d)) (.type T)=some (isTy T d):=by
 intro T hT d h2
 simp only [tyOk,or_eq_true,beq_iff_eq] at hT
 rcases hT with (((rfl | rfl) | rfl) | rfl) | rfl <;> cases d <;> first | exact absurd h2 Bool.false_ne_true | kernel_rfl
theorem zf7 (I:Inv X pins σ H s) (rx:RelV x u) (rp:Rep X.K H x d) (hd:noExc d=true) (e:W.kitOne X.K (.type (tyD d)) c=some b) (h:∀ tk,Q (.bool b) { s with toks:=tk }):
  wpAny (model X.prog X.w) A (call (.builtin "isinstance") [u,c]) Q E s:=by
 cases rp with
 | non=>exact zaA I rx .non e h
 | bl y=>exact zaA I rx (.bl y) e h
 | int i=>exact zaA I rx (.int i) e h
 | str e1 z=>exact zaA I rx (.str _) e h
 | tup ea r=>exact zaA I rx (.tup ea) e h
 | lst ea r=>
   cases rx
   obtain ⟨its,r,pl,_⟩:=I.list ea
   obtain ⟨o,ho,hc,_⟩:=pl.isList
   exact W.kia_one W.kitx_list I.kIn ⟨o,ho,hc⟩ e (fun z=>nomatch z) h
 | @dK a kvs ks vs ea k r=>
   cases rx
   rcases ea with ea | ⟨ob,ea⟩
   ·exact zaA (x:=.ref a) I rfl (.dK ea) e h
   ·obtain ⟨_,_,_,_,p⟩:=(show ObjOk X.prog X.w H s.heap a (.frz ob (.dK kvs)) from I.hok a _ ea)
    obtain ⟨_,o,es,ep,h1,h2,_⟩:=p
    exact W.kia_one W.kitx_dict I.kIn ⟨o,h1,h2.1⟩ e (fun z=>nomatch z) h
 | @dT a kvs ks vs ea k r=>
   cases rx
   rcases ea with ea | ⟨ob,ea⟩
   ·exact zaA (x:=.ref a) I rfl (.dT ea) e h
   ·obtain ⟨_,_,_,_,p⟩:=(show ObjOk X.prog X.w H s.heap a (.frz ob (.dT kvs)) from I.hok a _ ea)
    obtain ⟨_,o,es,ep,h1,h2,_⟩:=p
    exact W.kia_one W.kitx_dict I.kIn ⟨o,h1,h2.1⟩ e (fun z=>nomatch z) h
 | @st a xs ds ea r=>
   cases rx
   have t:∃ o,s.heap.get? a=some o/\o.cls=.type "set":=by
    rcases I.hok a _ ea with ⟨_,⟨_,h1⟩ | ⟨_,_,_,o,_,_,_,h1,h2,_⟩ | ⟨_,_,_,_,o,_,_,_,h1,h2,_⟩⟩
    ·exact ⟨_,h1,rfl⟩
    ·exact ⟨o,h1,h2.1⟩
    ·exact ⟨o,h1,h2.1⟩
   exact W.kia_one W.kitx_set I.kIn t e (fun z=>nomatch z) h
 | exc _ _=>cases hd
end
section
variable {X:Cx} {p pos pt:Pos} {a:Expr} {wa:WE} {T:Str} {TS:String}
theorem zkU (hg:Gl X "isinstance") (hm:X.mg "isinstance"=none) (hv:bootBuiltins "isinstance"=some (.builtin "isinstance")) (hgT:Gl X T) (hmT:X.mg T=none) (hvT:bootBuiltins T=some (.type TS)) (hT:tyOk TS=true) (ha:FE X a wa)
  (hnT:T≠"__name__":=by decide) (hdT:(T == ("__debug__":Str))=false:=by decide)
  (he:starEach [a,.Name T pt] X.env=(false,eval a X.env)::starEach [.Name T pt] X.env:=by rfl) (he2:starEach [.Name T pt] X.env=[(false,eval (.Name T pt) X.env)]:=by rfl) (hpl:(backTo pos (starEach [.Name T pt] X.env)).any (·.1)=false:=by rfl):
  FE X (.Call (.Name "isinstance" p) [a,.Name T pt] [] pos) (wIsI TS wa):=fun pn xe hp=>by
 intro pins s σ H Q I h
 refine wpAny_Call_Name_kw (zcE (X:=wp X pn xe) I hg hm hv ?_ (by decide) (by decide))
 refine PyProof.Rows.callWith_builtin1 ?_ he hpl
 show wpAny _ _ (spliced (backTo pos (starEach [a,.Name T pt] X.env))) _ _ s
 rw [he,he2]
 show wpAny _ _ (spliced ((false,eval a X.env)::[(false,eval (.Name T pt) X.env)])) _ _ s
 refine Calls.spliced_cons (thn (ha pn xe hp pins s σ H _ I (one (k:=fun x U1 Q E=>need (view x U1) fun d=>noExc d=true/\Q (.v (.sh (.bl (isTy TS d)))) U1) h)) fun u s1 zq=>?_)
 obtain ⟨x,H1,I1,r1,q1⟩:=zq
 refine Calls.spliced_cons (zcE (X:=wp X pn xe) I1 hgT hmT hvT (Calls.spliced_nil ?_) hnT hdT)
 obtain ⟨F,G,U,y,P,PX,rel,hl,ry,hk,hok,hx⟩:=q1
 obtain ⟨d,ed,hd,hk⟩:=zae hk
 have rp:=look (U':=[]) (σ':=[]) rel hl ry ed
 refine zf7 I1 r1 rp hd (zlM _ TS hT d hd) fun tk=>⟨.bl _,H1,I1.kept fun _ _ z=>z,rfl,?_⟩
 exact hok _ U _ F H1 hk (Same.refl F) ((rel.drop hl).push (.bl _)) trivial
end
theorem zhd:bootBuiltins "int"=some (.type "int"):=by decide +kernel
theorem zdQ:bootBuiltins "tuple"=some (.type "tuple"):=by decide +kernel
theorem zdo:bootBuiltins "list"=some (.type "list"):=by decide +kernel
theorem zhm:bootBuiltins "bool"=some (.type "bool"):=by decide +kernel
theorem zks:bootBuiltins "max"=some (.builtin "max"):=by decide +kernel
theorem ziJ:bootBuiltins "min"=some (.builtin "min"):=by decide +kernel
theorem zeD:bootBuiltins "sorted"=some (.builtin "sorted"):=by decide +kernel
theorem zcu:bootBuiltins "isinstance"=some (.builtin "isinstance"):=by decide +kernel
section
variable {X:Cx} {k:Nat}
theorem u32 (hr:Room k A):A.units + 32 < cLine:=by have:=hr.units; lia
theorem u31 (hr:Room k A):A.units + 31 < cLine:=by have:=hr.units; lia
theorem uq {N:List Str} (h:(N.zipIdx.all fun p=>!(p.1 == x) || p.2 == i)=true):∀ j,N[j]?=some x->j=i:=by
 intro j hj
 have hj':j < N.length:=(qh.mp hj).1
 have:=all_eq_true.mp h (x,j) (by rw [List.mem_zipIdx_iff_getElem?]; simpa using hj)
 simpa using this
instance (outer scope:Scope) (N vars:List Str):Decidable (scope.kind=.function/\(∀ x∈scope.names,x.2=.free->outer.names.lookup x.1=some .cell\/outer.names.lookup x.1=some .free)/\(scope.names.map (·.1)).Nodup/\
  (∀ x∈N,x∉vars->(x,NameKind.local)∉scope.names/\(x,NameKind.cell)∉scope.names)/\scope.names.lookup Str.empty=none):=inferInstance
def compOk (outer scope:Scope) (N vars:List Str):Bool:=decide (scope.kind=.function/\(∀ x∈scope.names,x.2=.free->outer.names.lookup x.1=some .cell\/outer.names.lookup x.1=some .free)/\(scope.names.map (·.1)).Nodup/\
    (∀ x∈N,x∉vars->(x,NameKind.local)∉scope.names/\(x,NameKind.cell)∉scope.names)/\scope.names.lookup Str.empty=none)
theorem compSc (h:compOk outer scope N vars=true):CompScope outer scope N vars:=
 let ⟨a,b,c,d,e⟩:=of_decide_eq_true h
 ⟨a,b,c,d,e⟩
end
theorem zgR {K:W.Frag} (r:SRep K F H v (.sh (.bl true)) fp):v=.bl true:=by
 cases r with
 | sh r=>cases r; rfl
theorem zkj {K:W.Frag} (h:∀ ns:List Int,ns.length<=63->wf [.sh (.lst (ns.map .int))] (fun s _=>s=.sh (.bl true)) fun _ _=>False) (H:Hp) (a:Addr) (ns:List Int) (hl:ns.length<=63) (hS:SqL K H a (ns.map V.int)):
  spW K wf 1 [.ref a] H (fun v _=>v=.bl true) fun _ _ _=>False:=by
 refine ⟨H,fun _=>none,[.sh (.lst (ns.map .int))],_,_,rfl,⟨Same.refl H,fun _ _ z=>(nomatch z),[]++[],.so (.sh (.lst hS (za6 ns))) .nil,nodup_nil,fun _ z=>(nomatch z)⟩,h ns hl,fun s ss' v F' H' hs sm hlen r=>?_,fun _ _ _ _ _ _ z=>z.elim⟩
 subst hs
 obtain ⟨u,fp,e1,q⟩:=r.at (i:=ss'.length) (s:=.sh (.bl true)) (by
  have:=zap (U:=ss'.map some) (o:=some (.sh (.bl true))) (U':=[])
  simpa using this)
 have hl1:ss'.length=1:=hlen
 rw [hl1] at e1
 have:u=v:=by simpa using e1.symm
 rw [<- this]
 exact zgR q
end FL
end
section
namespace FL
def wExtend (j:Nat) (e:WE):WE:=fun U Q E=>match slot U j with
 | some (.lst _)=>e U (fun r U2=>match r,slot U2 j with
   | .v (.lst m),some (.lst l)=>l.length + m.length<=big/\Q (.v (.sh .non)) (U2.set j (some (.lst (l++m))))
   | _,_=>False) E
 | _=>False
end FL
end
section
namespace FL
open PySem PySem.Spec PyProof.Rows L2
section
variable {X:Cx} {a b c:Expr} {wa wb wc:WE} {pos:Pos}
theorem zfv (ha:FE X a wa):FE X (.UnaryOp .USub a pos) (wUn oNeg wa):=fun pn xe hp=>by
 refine PE.imp (zls zkW (ha pn xe hp)) fun σ H Q q=>?_
 refine (one (k:=fun x U1 Q E=>need (viewC x U1) fun p=>need (oNeg p) fun s=>Q (.v s) U1) q).mono fun v H1 h1=>?_
 obtain ⟨F,G,U,x,P,PX,rel,hl,rx,hk,hok,hx⟩:=h1
 obtain ⟨p,ep,hk⟩:=zae hk
 obtain ⟨s,es,hk⟩:=zae hk
 obtain ⟨F1,s1,re,r1⟩:=takeC (U':=[]) (σ':=[]) rel hl rx ep
 cases p with
 | int i=>
   cases es
   have e:=re.int
   subst e
   exact ⟨i,rfl,hok _ U _ F1 H1 hk s1 ((show Rel _ U σ F1 G H1 by simpa using r1).push (.int _)) trivial⟩
 | _=>cases es
end
section
variable {K:W.Frag} {F F' H H' G G':Hp} {σ σ':St} {v u:V}
theorem SReps.app:∀ {xs ys:List V} {l m:List S} {fp fq:List Addr},SReps K F H xs l fp->SReps K F H ys m fq->SReps K F H (xs++ys) (l++m) (fp++fq)
 | _,_,_,_,_,_,.nil,r=>r
 | _,_,_,_,_,_,.cons a b,r=>by
   rw [append_assoc]
   exact .cons a (SReps.app b r)
theorem Rel.extend {D B:Addr} (r:Rel K (U++[some (.lst m)]) (σ++[some (.ref B)]) F G H) (hs:slot U n=some (.lst l)) (hσ:σ[n]?=some (some (.ref D))):
  ∃ xs ys,H D=some (.lst xs)/\H B=some (.lst ys)/\xs.length=l.length/\ys.length=m.length/\Rel K (U.set n (some (.lst (l++m)))) σ F G (upd H D (.lst (xs++ys))):=by
 have hl:=len1 r
 obtain ⟨fp,e,nd,ap⟩:=r.en
 obtain ⟨f1,f2,rfl,a,b⟩:=e.cut hl
 obtain ⟨v',fa,fi,fb,e1,rfl,q,up⟩:=a.at hs
 rw [hσ] at e1
 have e2:V.ref D=v':=by simpa using e1
 subst e2
 cases q with
 | lst hD rl=>
   rename_i xs fl
   cases b with
   | so sr nl=>
     cases nl
     cases sr with
     | lst hB rm=>
       rename_i ys fs
       refine ⟨xs,ys,hD,hB,rl.len,rm.len,?_⟩
       have es:σ.set n (some (.ref D))=σ:=zbB hσ
       obtain ⟨n1,n2,n12⟩:=nodup_append.mp nd
       obtain ⟨na,nib,nab⟩:=nodup_append.mp n1
       obtain ⟨ni,nb,nib⟩:=nodup_append.mp nib
       obtain ⟨nD,nfl⟩:=nodup_cons.mp ni
       have hDa:D∉fa:=fun z=>nab D z D (qk _ qo) rfl
       have hDb:D∉fb:=fun z=>nib D qo D z rfl
       have hDs:D∉fs:=fun z=>n12 D (qj _ (qk _ qo)) D (by simpa using .inr z) rfl
       have apD:=ap D (qk _ (qj _ (qk _ qo)))
       have ne:∀ {l:List Addr},D∉l->∀ x∈l,upd H D (.lst (xs++ys)) x=H x:=fun h x hx=>zaf fun z=>h (z ▸ hx)
       have new:SRep K F (upd H D (.lst (xs++ys))) (.ref D) (.lst (l++m)) (D::(fl++fs)):=.lst zai (SReps.app (rl.mono (Same.refl F) (ne nD)) (rm.mono (Same.refl F) (ne hDs)))
       have a2:=up (F':=F) (H':=upd H D (.lst (xs++ys))) (o:=some (.lst (l++m))) (u:=some (.ref D)) (Same.refl F) (fun x hx=>zaf fun z=>(mem_append.mp hx).elim (fun w=>hDa (z ▸ w)) fun w=>hDb (z ▸ w)) (.so new .nil)
       rw [es] at a2
       have p:(B::(fa++((D::(fl++fs))++[]++fb))).Perm (fa++((D::fl)++fb)++(B::fs++[])):=by
        simp only [append_nil,append_assoc,cons_append]
        refine (List.Perm.cons _ (List.Perm.append_left _ (List.Perm.cons _ (List.Perm.append_left _ perm_append_comm)))).trans ?_
        have h1:(fa++D::(fl++(fb++B::fs))).Perm (B::(fa++D::(fl++(fb++fs)))):=by
         have:=List.perm_middle (a:=B) (l₁:=fa++D::(fl++fb)) (l₂:=fs)
         simpa using this
        exact h1.symm
       have nd2:=p.nodup_iff.mpr (by simpa using nd)
       refine ⟨Same.updR r.fr apD.1,fun x o w=>?_,_,a2,(nodup_cons.mp nd2).2,fun x hx=>ap x (by simpa using p.mem_iff.mp (qm _ hx))⟩
       have hx:x≠D:=fun z=>by rw [z,apD.2] at w; cases w
       rw [zaf hx]
       exact r.gr x o w
end
section
variable {X:Cx}
theorem zeM (ho:FE X o (wVar j)) (he:FE X e we)
  (hbase:attributeBase o "extend" X.env (eval o X.env)=eval o X.env:=by rfl)
  (hfew:((backTo cpos (starEach [e] X.env)).all (fun x=>!x.1) && (backToKw cpos (keywordEach [] X.env)).all (fun x=>x.1.isSome)
   && decide ([e].length + ([]:List Keyword).length + (if ([]:List Keyword).isEmpty then 0 else 1) < 30))=true:=by rfl)
  (hline:(apos.endLine == cpos.line)=true:=by rfl) (hs:starEach [e] X.env=[(false,eval e X.env)]:=by rfl):FE X (.Call (.Attribute o "extend" apos) [e] [] cpos) (wExtend j we):=fun pn xe hp=>by
 refine PE.imp (zf1 (X:=wp X pn xe) PySem.F.plainAttrs_list PySem.F.slot_list_extend PySem.F.type_list_extend zeY (ho pn xe hp) (zaa he zac hs pn xe hp) hbase hfew hline hs rfl) fun σ H Q q=>?_
 obtain ⟨F,G,U,P,PX,rel,hw,hok,hx⟩:=q
 have hw':(match slot U j with
  | some (.lst _)=>we U (fun r U2=>match r,slot U2 j with
    | .v (.lst m),some (.lst l)=>l.length + m.length<=big/\P (.v (.sh .non)) (U2.set j (some (.lst (l++m))))
    | _,_=>False) PX
  | _=>False):=hw
 cases qs:slot U j with
 | none=>rw [qs] at hw'; exact hw'.elim
 | some s0=>
   cases s0 with
   | lst l0=>
     rw [qs] at hw'
     refine ⟨F,G,U,fun y U1=>y=.loc j/\U1=U,PX,rel,by unfold wVar; rw [qs]; exact ⟨rfl,rfl⟩,fun y U1 o' F1 H1 hk s1 r1 rv=>?_,hx⟩
     obtain ⟨rfl,rfl⟩:=hk
     have l1:=len1 r1
     have hσ:σ[j]?=some (some o'):=rv
     have r2:=r1.drop l1
     obtain ⟨v',fp,e1,sr⟩:=r2.at qs
     rw [hσ] at e1
     have e2:o'=v':=by simpa using e1
     subst e2
     cases sr with
     | lst hD rl=>
       rename_i a xs fl
       refine ⟨.inl ⟨rfl,_,SqL.of hD⟩,F1,G,U1,fun rs U2=>match rs with | [r]=>(match r,slot U2 j with | .v (.lst m),some (.lst l)=>l.length + m.length<=big/\P (.v (.sh .non)) (U2.set j (some (.lst (l++m)))) | _,_=>False) | _=>False,PX,r2,hw',fun rs U2 vs F2 H2 hk s2 r3 hl rvs=>?_,hx.grow s1⟩
       match rs,vs,rvs,r3,hk with
       | [r],[v],rvs,r3,hk=>
         dsimp only at hk
         split at hk
         ·rename_i m l ql
          obtain ⟨u,fq,eu,su⟩:=r3.at (i:=U2.length) (s:=.lst m) zap
          rw [hl,getElem?_append_right (le_refl _),sub_self] at eu
          have e3:v=u:=by simpa using eu
          subst e3
          cases su with
          | @lst b zs _ _ hB rb=>
            obtain ⟨ys,zs',hD2,hB2,hlen,hlen2,r5⟩:=Rel.extend (B:=b) r3 ql hσ
            exact ⟨a,b,ys,zs',rfl,rfl,hD2,hB2,by rw [hlen,hlen2,sizeLine_eq]; exact le_trans hk.1 (by decide),hok _ _ .non F2 _ hk.2 (s1.trans s2) (r5.push .non) trivial⟩
         ·exact hk.elim
       | [],_,_,_,hk=>exact hk.elim
       | [_],[],rvs,_,_=>exact rvs.elim
       | [_],_::_::_,rvs,_,_=>exact rvs.2.elim
       | _::_::_,_,_,_,hk=>exact hk.elim
   | _=>rw [qs] at hw'; exact hw'.elim
end
open AutoSeq1 (wpAny_loadPart')
end FL
end
section
namespace FL
end FL
end
section
namespace FL
open PySem PySem.Spec PyProof.Rows L2
open AutoSeq1 (wpAny_loadPart')
end FL
end
section
namespace FL
open PySem PySem.Spec PyProof.Rows L2
end FL
end
section
namespace FL
open Classical in
def fIx (ks:List D) (k:D):Option Nat:=ks.findIdx? fun x=>decide (x=k)
def dputS (t:Bool) (ks:List D) (l:List S) (k:D) (s:S):S:=match fIx ks k with
 | some i=>.dct t ks (l.set i s)
 | none=>.dct t (ks++[k]) (l++[s])
def wDput (j:Nat) (i e:WE):WS:=fun D U=>e U (fun r U1=>wVar j U1 (fun x U2=>i U2 (fun y U3=>need (view y U3) fun q=>need (give r U3) fun p=>match x,slot p.2 j with
 | .loc k,some (.dct t ks l)=>k=j/\isKey t q=true/\ks.Nodup/\ks.length < big/\D.nx (p.2.set j (some (dputS t ks l q p.1)))
 | _,_=>False) D.ex) D.ex) D.ex
end FL
end
section
namespace FL
open PySem PySem.Spec PyProof.Rows L2
theorem zd4 (h:fIx ks k=some i):ks[i]?=some k:=by
 unfold fIx at h
 rw [List.findIdx?_eq_some_iff_getElem] at h
 obtain ⟨hi,h1,_⟩:=h
 rw [getElem?_eq_getElem hi]
 congr 1
 simpa using h1
theorem zgd (h:fIx ks k=none):k∉ks:=by
 unfold fIx at h
 grind
section
variable {κ:Type} [DecidableEq κ] {kd:κ->D} (inj:∀ a b,kd a=kd b->a=b)
include inj
theorem zge {kvs:List (κ×V)} {k:κ} {v:V} {i:Nat} (hn:(kvs.map fun p=>kd p.1).Nodup) (h:(kvs.map fun p=>kd p.1)[i]?=some (kd k)):putK kvs k v=kvs.set i (k,v):=by
 have hi:i < kvs.length:=by
  have:=(qh.mp h).1
  simpa using this
 have hk:kvs[i].1=k:=by
  rw [getElem?_map,getElem?_eq_getElem hi] at h
  exact inj _ _ (qg h)
 have hany:(kvs.any fun kv=>decide (kv.1=k))=true:=List.any_eq_true.mpr ⟨kvs[i],getElem_mem hi,by simp [hk]⟩
 unfold putK
 rw [if_pos hany]
 apply ext_getElem?
 intro j
 rw [getElem?_map,List.getElem?_set]
 by_cases hj:i=j
 ·subst hj
  rw [getElem?_eq_getElem hi]
  simp [hk]
  exact hi
 ·rw [if_neg hj]
  cases q:kvs[j]? with
  | none=>rfl
  | some p=>
    have hne:¬ p.1=k:=fun z=>by
     apply hj
     have h2:(kvs.map fun p=>kd p.1)[j]?=some (kd k):=by rw [getElem?_map,q,<- z]; rfl
     exact (List.getElem?_inj (by simpa using hi) hn).mp (h.trans h2.symm)
    simp [hne]
omit inj in
theorem zgs {kvs:List (κ×V)} {k:κ} {v:V} (h:kd k∉kvs.map fun p=>kd p.1):putK kvs k v=kvs++[(k,v)]:=by
 unfold putK
 grind
theorem zfE {kvs:List (κ×V)} {k:κ} {v:V} {ks:List D} (hks:ks=kvs.map fun p=>kd p.1) (hn:ks.Nodup):
  (∀ m,fIx ks (kd k)=some m->ks=(putK kvs k v).map (fun p=>kd p.1)/\(kvs.map (·.2)).set m v=(putK kvs k v).map (·.2))/\(fIx ks (kd k)=none->ks++[kd k]=(putK kvs k v).map (fun p=>kd p.1)/\kvs.map (·.2)++[v]=(putK kvs k v).map (·.2)):=by
 subst hks
 refine ⟨fun m hm=>?_,fun hm=>?_⟩
 ·have h:=zd4 hm
  rw [zge inj hn h,map_set,map_set]
  refine ⟨?_,rfl⟩
  apply ext_getElem?
  intro j
  rw [List.getElem?_set]
  by_cases hj:m=j
  ·subst hj; rw [if_pos rfl,if_pos (qh.mp h).1,h]
  ·rw [if_neg hj]
 ·rw [zgs (zgd hm),map_append,map_append]
  exact ⟨rfl,rfl⟩
end
inductive DOb (ks:List D) (xs:List V):Bool->HO->Prop
 | k {kvs:List (Key×V)}:ks=kvs.map (fun p=>keyD p.1)->xs=kvs.map (·.2)->DOb ks xs false (.dK kvs)
 | t {kvs:List (List Key×V)}:ks=kvs.map (fun p=>D.tup (p.1.map keyD))->xs=kvs.map (·.2)->DOb ks xs true (.dT kvs)
section
variable {K:W.Frag} {F H G:Hp} {σ:St} {U:Env}
theorem zcp (r:SRep K F H v (.dct t ks l) fp):∃ a o xs fl,v=.ref a/\fp=a::fl/\H a=some o/\DOb ks xs t o/\SReps K F H xs l fl:=by
 cases r with
 | dK e q r=>exact ⟨_,_,_,_,rfl,rfl,e,.k q rfl,r⟩
 | dT e q r=>exact ⟨_,_,_,_,rfl,rfl,e,.t q rfl,r⟩
theorem DOb.mk {a:Addr} {o:HO} {t:Bool} {ks:List D} {xs:List V} {l:List S} {fl:List Addr} (d:DOb ks xs t o) (e:H a=some o) (r:SReps K F H xs l fl):SRep K F H (.ref a) (.dct t ks l) (a::fl):=by
 cases d with
 | k q z=>subst z; exact .dK e q r
 | t q z=>subst z; exact .dT e q r
theorem DOb.len {o:HO} {t:Bool} {ks:List D} {xs:List V} (d:DOb ks xs t o):ks.length=xs.length:=by
 cases d with
 | k q z=>subst z; subst q; simp
 | t q z=>subst z; subst q; simp
theorem DOb.put {a:Addr} {o:HO} {t:Bool} {ks:List D} {xs:List V} {y v:V} {q:D} (d:DOb ks xs t o) (e:H a=some o) (r:Rep K H y q) (hk:isKey t q=true) (hn:ks.Nodup) (hb:ks.length < sizeLine):
  ∃ o',DPut H a y v (upd H a o')/\(∀ m,fIx ks q=some m->DOb ks (xs.set m v) t o')/\(fIx ks q=none->DOb (ks++[q]) (xs++[v]) t o'):=by
 cases d with
 | @k kvs h1 h2=>
   subst h2
   obtain ⟨key,rfl,rfl⟩:=zdA r hk
   obtain ⟨p1,p2⟩:=zfE (fun _ _=>zbA) (k:=key) (v:=v) h1 hn
   exact ⟨_,.inl ⟨kvs,key,e,rfl,by rw [h1,length_map] at hb; exact hb,rfl⟩,fun m hm=>.k (p1 m hm).1 (p1 m hm).2,fun hm=>.k (p2 hm).1 (p2 hm).2⟩
 | @t kvs h1 h2=>
   subst h2
   cases r with
   | tup e1 q=>
     obtain ⟨keys,rfl,rfl⟩:=zdu q hk
     obtain ⟨p1,p2⟩:=zfE (kd:=fun l:List Key=>D.tup (l.map keyD)) (fun a b z=>zbT (D.tup.inj z)) (k:=keys) (v:=v) h1 hn
     exact ⟨_,.inr ⟨kvs,keys,_,e,rfl,e1,by rw [h1,length_map] at hb; exact hb,rfl⟩,fun m hm=>.t (p1 m hm).1 (p1 m hm).2,fun hm=>.t (p2 hm).1 (p2 hm).2⟩
   | _=>cases hk
theorem Rel.dct {D:Addr} (r:Rel K (U++[some s]) (σ++[some v]) F G H) (hs:slot U n=some (.dct t ks l)) (hσ:σ[n]?=some (some (.ref D))) (hD:H D=some o) (ho:DOb ks xs t o) (ho':DOb ks' xs' t o')
  (hin:∀ (H':Hp) (fl fs:List Addr),SReps K F H' xs l fl->SRep K F H' v s fs->∃ fl' rest,SReps K F H' xs' l' fl'/\(fl'++rest).Perm (fl++fs)):
  Rel K (U.set n (some (.dct t ks' l'))) σ F G (upd H D o'):=by
 have hl:=len1 r
 obtain ⟨fp,e,nd,ap⟩:=r.en
 obtain ⟨f1,f2,rfl,a,b⟩:=e.cut hl
 obtain ⟨v',fa,fi,fb,e1,rfl,q,up⟩:=a.at hs
 rw [hσ] at e1
 have e2:V.ref D=v':=by simpa using e1
 subst e2
 obtain ⟨a',o2,xs2,fl,z1,rfl,hD2,ho2,rl⟩:=zcp q
 cases z1
 rw [hD] at hD2
 cases hD2
 have ex:xs2=xs:=by
  cases ho with
  | k _ z=>cases ho2 with | k _ z'=>rw [z,z']
  | t _ z=>cases ho2 with | t _ z'=>rw [z,z']
 subst ex
 cases b with
 | so sr nl=>
   cases nl
   rename_i fs
   obtain ⟨n1,n2,n12⟩:=nodup_append.mp nd
   obtain ⟨na,nib,nab⟩:=nodup_append.mp n1
   obtain ⟨ni,nb,nib⟩:=nodup_append.mp nib
   obtain ⟨nD,nfl⟩:=nodup_cons.mp ni
   have hDa:D∉fa:=fun z=>nab D z D (qk _ qo) rfl
   have hDb:D∉fb:=fun z=>nib D qo D z rfl
   have hDs:D∉fs:=fun z=>n12 D (qj _ (qk _ qo)) D (by simpa using z) rfl
   have apD:=ap D (qk _ (qj _ (qk _ qo)))
   have ne:∀ {l:List Addr},D∉l->∀ x∈l,upd H D o' x=H x:=fun h x hx=>zaf fun z=>h (z ▸ hx)
   obtain ⟨fl',rest,rl',pm⟩:=hin (upd H D o') fl fs (rl.mono (Same.refl F) (ne nD)) (sr.mono (Same.refl F) (ne hDs))
   have a2:=up (F':=F) (H':=upd H D o') (o:=some (.dct t ks' l')) (u:=some (.ref D)) (Same.refl F) (fun x hx=>zaf fun z=>(mem_append.mp hx).elim (fun w=>hDa (z ▸ w)) fun w=>hDb (z ▸ w)) (.so (ho'.mk zai rl') .nil)
   rw [zbB hσ] at a2
   have p:(fa++((D::(fl'++rest))++[]++fb)).Perm (fa++((D::fl)++fb)++(fs++[])):=by
    refine (List.Perm.append_left _ (List.Perm.append_right _ (List.Perm.append_right _ (List.Perm.cons _ pm)))).trans ?_
    simp only [append_nil,append_assoc,cons_append]
    refine List.Perm.append_left _ (List.Perm.cons _ (List.Perm.append_left _ perm_append_comm))
   have sb:List.Sublist (fa++((D::fl')++[]++fb)) (fa++((D::(fl'++rest))++[]++fb)):=by
    simp only [append_nil,append_assoc,cons_append]
    exact List.Sublist.append (List.Sublist.refl _) (List.Sublist.cons_cons _ (List.Sublist.append (List.Sublist.refl _) (List.sublist_append_right _ _)))
   refine ⟨Same.updR r.fr apD.1,fun x o w=>?_,_,a2,sb.nodup (p.nodup_iff.mpr nd),fun x hx=>ap x (p.mem_iff.mp (sb.subset hx))⟩
   have hx:x≠D:=fun z=>by rw [z,apD.2] at w; cases w
   rw [zaf hx]
   exact r.gr x o w
theorem Rel.dput {D:Addr} (r:Rel K (U++[some s]) (σ++[some v]) F G H) (hs:slot U n=some (.dct t ks l)) (hσ:σ[n]?=some (some (.ref D))) (ry:Rep K H y q) (hk:isKey t q=true) (hn:ks.Nodup) (hb:ks.length < big):
  ∃ H',DPut H D y v H'/\Rel K (U.set n (some (dputS t ks l q s))) σ F G H':=by
 obtain ⟨v',fp,e1,sr⟩:=(r.drop (len1 r)).at hs
 rw [hσ] at e1
 have e2:V.ref D=v':=by simpa using e1
 subst e2
 obtain ⟨a',o,xs,fl,z1,_,hD,ho,rl⟩:=zcp sr
 cases z1
 have hlen:=ho.len
 have hll:=rl.len
 obtain ⟨o',dp,h1,h2⟩:=ho.put (v:=v) hD ry hk hn (by rw [sizeLine_eq]; exact lt_trans hb (by decide))
 refine ⟨_,dp,?_⟩
 cases qf:fIx ks q with
 | some m=>
   have ed:dputS t ks l q s=.dct t ks (l.set m s):=by unfold dputS; rw [qf]
   rw [ed]
   have hml:m < l.length:=by
    have:=(qh.mp (zd4 qf)).1
    lia
   refine r.dct hs hσ hD ho (h1 m qf) fun H' fl fs rl sr=>?_
   obtain ⟨ga,gi,gb,rfl,sup⟩:=rl.set hml
   refine ⟨_,gi,sup (fun _ _=>rfl) sr,?_⟩
   simp only [append_assoc]
   exact List.Perm.append_left _ ((List.Perm.append_left _ perm_append_comm).trans (perm_append_comm.trans (by simp)))
 | none=>
   have ed:dputS t ks l q s=.dct t (ks++[q]) (l++[s]):=by unfold dputS; rw [qf]
   rw [ed]
   exact r.dct hs hσ hD ho (h2 qf) fun H' fl fs rl sr=>⟨fl++fs,[],SReps.snoc rl sr,by simp⟩
end
section
variable {X:Cx} {ks:List Nat} {pos tpos:Pos}
theorem zfq (hu:X.A.units + 1 < cLine) (ho:FE X o (wVar j)) (hi:FE X i wi) (he:FE X e we) (hs:swapsWith e (some (.Subscript o i tpos)) pos.line X.env=pure false:=by rfl):FS X ks (.Assign [.Subscript o i tpos] e pos) (wDput j wi we):=fun pn xe hp=>by
 refine PS.imp (zim (X:=wp X pn xe) hu (ho pn xe hp) (hi pn xe hp) (he pn xe hp) hs) fun D σ H q=>?_
 obtain ⟨F,G,U,E,rel,hw,n,b,c,r,x⟩:=q
 have x0:XC (wp X pn xe) (·=σ) F G E.ex:=x.mono (fun σ2 z=>by rw [z]; exact KP.refl) (Same.refl F) (Same.refl G)
 refine ⟨F,G,U,_,_,rel,hw,fun r U1 v F1 H1 hk s1 r1 rv=>?_,x0⟩
 have l1:=len1 r1
 obtain ⟨G1,rel1,gg,back⟩:=r1.hide l1
 refine ⟨F1,G1,U1,_,_,rel1,hk,fun y U2 o' F2 H2 hk2 s2 r2 rv2=>?_,x0.mono (fun _ z=>z) s1 gg⟩
 have l2:=len1 r2
 obtain ⟨G2,rel2,gg2,back2⟩:=r2.hide l2
 refine ⟨F2,G2,U2,_,_,rel2,hk2,fun z U3 i' F3 H3 hk3 s3 r3 rv3=>?_,x0.mono (fun _ z=>z) (s1.trans s2) (gg.trans gg2)⟩
 have l3:=len1 r3
 obtain ⟨q,eq,hk3⟩:=zae hk3
 obtain ⟨⟨t,U4⟩,eg,hk4⟩:=zae hk3
 have r4:=back (s2.trans s3) (back2 s3 r3)
 simp only [append_assoc,cons_append,nil_append] at r4
 have ri:=look (U':=[slotOf y,slotOf r]) (σ':=[some o',some v]) r4 l3 rv3 eq
 have r5:Rel X.K (U3++[slotOf r]) (σ++[some v]) F3 G H3:=Rel.mid (U:=U3) (σ:=σ) (Rel.mid (U:=U3) (σ:=σ) r4 l3) l3
 obtain ⟨F4,s4,l4,r6⟩:=giveR (U':=[]) (σ':=[]) r5 l3 rv eg
 cases y with
 | v y0=>exact hk4.elim
 | loc k=>
   cases qs:slot U4 j with
   | none=>simp only [qs] at hk4
   | some sj=>
     rw [qs] at hk4
     match sj,qs,hk4 with
     | .dct t kk l,qs,⟨ekj,hkey,hnd,hbig,hnx⟩=>
       subst ekj
       have hσ:σ[k]?=some (some o'):=rv2
       obtain ⟨v',fp,e1,sr⟩:=r6.at (i:=k) (s:=.dct t kk l) (by rw [zbd (zbo qs)]; exact qs)
       have hkl:k < σ.length:=(qh.mp hσ).1
       rw [getElem?_append_left hkl,hσ] at e1
       have e2:o'=v':=by simpa using e1
       subst e2
       obtain ⟨a,o2,xs,fl,rfl,_,_,_,_⟩:=zcp sr
       obtain ⟨H',dp,r7⟩:=Rel.dput r6 qs hσ ri hkey hnd hbig
       exact ⟨a,_,rfl,dp,n _ σ F4 _ hnx KP.refl (s1.trans (s2.trans (s3.trans s4))) r7⟩
end
end FL
end
section
namespace FL
end FL
end
section
namespace FL
open PySem PySem.Spec PyProof.Rows L2
section
variable {X:Cx} {K:W.Frag} {p pos:Pos} {e:Expr} {es:List Expr} {wa:WA}
theorem zbl:∀ {us:List Value},Vals (ns.map V.int) us->IntsAre us ns:=by
 induction ns with
 | nil=>intro us r; cases r; exact .nil
 | cons n ns ih=>
   intro us r
   rw [map_cons] at r
   cases r with
   | cons r1 r2=>
     obtain ⟨t,rfl⟩:=r1
     exact .cons _ t (ih r2)
end
end FL
end
section
namespace FL
def wPar (i j:Nat) (a:WA):WS:=fun D U=>a U (fun rs U1=>match rs with
 | [r,t]=>need (give r U1) fun p=>need (give t p.2) fun q=>D.nx ((q.2.set i (some p.1)).set j (some q.1))
 | _=>False) D.ex
end FL
end
section
namespace FL
open PySem PySem.Spec PyProof.Rows L2
section
variable {X:Cx} {ks:List Nat} {pos:Pos}
theorem zdP {α:Type} {l:List α} {r:List α} {v:α} (h:n < l.length):(l++r).set n v=l.set n v++r:=by
 rw [List.set_append_left _ _ h]
theorem zi7 (hc:X.calm=true) (hN:X.N.Nodup) (hi:X.N[i]?=some x) (hj:X.N[j]?=some y) (hij:i≠j) (hki:i∉ks) (hkj:j∉ks)
  (hx:X.env.scope.names.lookup x=some .local) (hy:X.env.scope.names.lookup y=some .local) (ha:FA X [a,b] wa)
  (hw:swappedStores [.Tuple [.Name x px,.Name y py] kt pt] (.Tuple [a,b] k2 pt2) X.env=pure (some [x,y]):=by rfl)
  (hs:swapsWithSole [.Tuple [.Name x px,.Name y py] kt pt] (.Tuple [a,b] k2 pt2) pos.line X.env=pure false:=by rfl):
  FS X ks (.Assign [.Tuple [.Name x px,.Name y py] kt pt] (.Tuple [a,b] k2 pt2) pos) (wPar i j wa):=fun pn xe hp pins s σ H D I q=>by
 have hlenN:σ.length=X.N.length:=I.len
 have hiσ:i < σ.length:=by rw [hlenN]; exact (qh.mp hi).1
 have hjσ:j < σ.length:=by rw [hlenN]; exact (qh.mp hj).1
 refine zke (X:=wp X pn xe) hc hN hi hj hij hx hy (ha pn xe hp) hw hs pins s σ H D I ?_
 obtain ⟨F,G,U,E,rel,hw2,n,b2,c,r,x2⟩:=q
 have x0:XC (wp X pn xe) (·=σ) F G E.ex:=x2.mono (fun σ2 z=>by rw [z]; exact KP.refl) (Same.refl F) (Same.refl G)
 refine ⟨F,G,U,_,_,rel,hw2,fun rs U1 vs F1 H1 hk s1 r1 hl rv=>?_,x0⟩
 match rs,vs,rv,r1,hk with
 | [r,t],[v,u],rv,r1,hk=>
   dsimp only at hk
   obtain ⟨⟨s',U2⟩,eg,hk⟩:=zae hk
   obtain ⟨⟨t',U3⟩,eg',hk⟩:=zae hk
   have e:giveAll [r,t] U1=some ([s',t'],U3):=by
    show (match give r U1 with | some (s,U1)=>(match giveAll [t] U1 with | some (ss,U2)=>some (s::ss,U2) | none=>none) | none=>none)=_
    rw [eg]
    show (match (match give t U2 with | some (s,U1)=>some ([s],U1) | none=>none) with | some (ss,U2)=>some (s'::ss,U2) | none=>none)=_
    rw [eg']
   obtain ⟨F2,s2,l2,z2,r2⟩:=zaZ (rs:=[r,t]) (vs:=[v,u]) (U':=[]) (σ':=[]) (by simpa using r1) hl rv e
   have l3:U3.length=σ.length:=l2.trans hl
   have r3:Rel X.K ((U3++[some s'])++[some t']) ((σ++[some v])++[some u]) F2 G H1:=by simpa using r2
   have r4:=r3.store (i:=j) (by simp [l3]) (by simp; lia)
   rw [zdP (by lia),zdP (by lia)] at r4
   have r5:=r4.store (i:=i) (by simp [l3]) (by simp; lia)
   rw [set_comm _ _ (Ne.symm hij),set_comm (α:=Option V) _ _ (Ne.symm hij)] at r5
   exact ⟨v,u,rfl,n _ _ F2 H1 hk (KP.trans (KP.set hki) (KP.set hkj)) (s1.trans s2) r5⟩
 | [],_,_,_,hk=>exact hk.elim
 | [_],_,_,_,hk=>exact hk.elim
 | [_,_],[],rv,_,_=>exact rv.elim
 | [_,_],[_],rv,_,_=>exact rv.2.elim
 | [_,_],_::_::_::_,rv,_,_=>exact rv.2.2.elim
 | _::_::_::_,_,_,_,hk=>exact hk.elim
end
end FL
end
section
namespace FL
open PySem PySem.W PyProof.Rows
section
variable {n:Nat} {rk:Nat->Int} {α β:Type}
def AskOk (n:Nat) (rk:Nat->Int) {α:Type}:KasT α->(α->Prop)->Prop
 | .ret a,P=>P a
 | .ask i j k,P=>i < n/\j < n/\AskOk n rk (k (decide (rk i < rk j))) P
theorem zaX:∀ {t:KasT α},AskOk n rk t (fun a=>AskOk n rk (f a) P)->AskOk n rk (t.bind f) P
 | .ret _,h=>h
 | .ask _ _ _,h=>⟨h.1,h.2.1,zaX h.2.2⟩
def kA (rk:Nat->Int) (p:Array Nat) (k:Nat):Int:=rk ((p[k]?).getD 0)
theorem zb1 (p:Array Nat) (k:Nat):rk (p.getD k 0)=kA rk p k:=by unfold kA; rw [Array.getD_eq_getD_getElem?]
def InR (n:Nat) (p:Array Nat):Prop:=p.size=n/\∀ k,p.getD k 0 < n
def Srt (rk:Nat->Int) (p:Array Nat) (m:Nat):Prop:=∀ a b,a<=b->b < m->kA rk p a<=kA rk p b
def Dsc (rk:Nat->Int) (p:Array Nat) (m:Nat):Prop:=∀ a b,a<=b->b < m->kA rk p b<=kA rk p a
theorem zbj (h:InR n q) (hp:p.Perm q) (hn:0 < n):InR n p:=by
 refine ⟨hp.size_eq.trans h.1,fun k=>?_⟩
 rw [Array.getD_eq_getD_getElem?]
 cases e:p[k]? with
 | none=>exact hn
 | some x=>
   have hm:x∈q:=hp.mem_iff.mp (Array.mem_of_getElem? e)
   obtain ⟨j,hj,ej⟩:=Array.getElem_of_mem hm
   have:=h.2 j
   first | rfl | assumption | (simp_all; done)
theorem zdC (hr:InR n p):∀ (f m:Nat),1<=m->Srt rk p m->(∀ m',m<=m'->m'<=m + f->Srt rk p m'->(m' < m + f->kA rk p m' < kA rk p (m' - 1))->P m')->AskOk n rk (kas_asc p f m) P
 | 0,m,_,hs,h=>h m (le_refl _) (le_refl _) hs fun z=>absurd z (by lia)
 | f + 1,m,h1,hs,h=>by
   refine ⟨hr.2 m,hr.2 (m - 1),?_⟩
   rw [zb1 (rk:=rk),zb1 (rk:=rk)]
   by_cases hc:kA rk p m < kA rk p (m - 1)
   ·rw [decide_eq_true hc]
    exact h m (le_refl _) (by lia) hs fun _=>hc
   ·rw [decide_eq_false hc]
    refine zdC hr f (m + 1) (by lia) (fun a b hab hb=>?_) fun m' h2 h3 h4 h5=>h m' (by lia) (by lia) h4 fun z=>h5 (by lia)
    by_cases hbm:b < m
    ·exact hs a b hab hbm
    ·have:b=m:=by lia
     subst this
     by_cases ha:a=b
     ·rw [ha]; exact Int.le_refl _
     ·have:=hs a (b - 1) (by lia) (by lia)
      lia
theorem zbV (hr:InR n p) (hs:Srt rk p k):∀ (f l r:Nat),l<=r->r<=k->r - l<=f->(∀ a,a < l->kA rk p a<=kA rk p k)->(∀ a,r<=a->a < k->kA rk p k < kA rk p a)->
  (∀ l',l'<=k->(∀ a,a < l'->kA rk p a<=kA rk p k)->(∀ a,l'<=a->a < k->kA rk p k < kA rk p a)->P l')->AskOk n rk (kas_place p k f l r) P
 | 0,l,r,h1,h2,h3,h4,h5,h=>by
   have:l=r:=by lia
   subst this
   exact h l h2 h4 h5
 | f + 1,l,r,h1,h2,h3,h4,h5,h=>by
   unfold kas_place
   by_cases hl:l ≥ r
   ·rw [if_pos hl]
    have:l=r:=by lia
    subst this
    exact h l h2 h4 h5
   ·rw [if_neg hl]
    refine ⟨hr.2 k,hr.2 _,?_⟩
    rw [zb1 (rk:=rk),zb1 (rk:=rk)]
    by_cases hc:kA rk p k < kA rk p ((l + r) / 2)
    ·rw [decide_eq_true hc]
     refine zbV hr hs f l ((l + r) / 2) (by lia) (by lia) (by lia) h4 (fun a h6 h7=>?_) h
     have:=hs _ a h6 h7
     lia
    ·rw [decide_eq_false hc]
     refine zbV hr hs f ((l + r) / 2 + 1) r (by lia) h2 (by lia) (fun a h6=>?_) h5 h
     have:=hs a ((l + r) / 2) (by lia) (by lia)
     lia
theorem zcI (hk:k < p.size) (hd:d<=k) (j:Nat):kA rk (bubble p k d) j=if j=k - d then kA rk p k else if k - d < j/\j<=k then kA rk p (j - 1) else kA rk p j:=by
 unfold kA
 rw [getElem?_bubble hk d hd j]
 grind
theorem zfk (hn:0 < n):∀ (f:Nat) (p:Array Nat) (k:Nat),InR n p->Srt rk p k->k + f<=n->(∀ p',p'.Perm p->InR n p'->Srt rk p' (k + f)->P p')->AskOk n rk (kas_bin f p k) P
 | 0,p,k,hr,hs,_,h=>h p (Array.Perm.refl _) hr hs
 | f + 1,p,k,hr,hs,hk,h=>by
   unfold kas_bin
   refine zaX (zbV hr hs k 0 k (zero_le _) (le_refl _) (by lia) (fun a z=>absurd z (by lia)) (fun a z1 z2=>absurd z1 (by lia)) fun l hl h1 h2=>?_)
   have hks:k < p.size:=by rw [hr.1]; lia
   have hp:=bubble_perm p k (k - l)
   refine zfk hn f _ (k + 1) (zbj hr hp hn) (fun a b hab hb=>?_) (by lia) fun p' q1 q2 q3=>h p' (q1.trans hp) q2 (by rw [show k + (f + 1)=k + 1 + f by lia]; exact q3)
   rw [zcI hks (by lia),zcI hks (by lia)]
   have ekl:k - (k - l)=l:=by lia
   rw [ekl]
   by_cases ha:a=l
   ·rw [if_pos ha]
    by_cases hb2:b=l
    ·rw [if_pos hb2]; exact Int.le_refl _
    ·rw [if_neg hb2,if_pos ⟨by lia,by lia⟩]
     have:=h2 (b - 1) (by lia) (by lia)
     lia
   ·rw [if_neg ha]
    by_cases ha2:l < a/\a<=k
    ·rw [if_pos ha2,if_neg (by lia),if_pos ⟨by lia,by lia⟩]
     exact hs (a - 1) (b - 1) (by lia) (by lia)
    ·rw [if_neg ha2]
     have hal:a < l:=by lia
     by_cases hb2:b=l
     ·rw [if_pos hb2]; exact h1 a hal
     ·rw [if_neg hb2]
      by_cases hb3:l < b/\b<=k
      ·rw [if_pos hb3]; exact hs a (b - 1) (by lia) (by lia)
      ·rw [if_neg hb3]; exact hs a b hab (by lia)
theorem zdb (hj:j<=p.size) (k:Nat):kA rk (kas_rev p i j) k=if i<=k/\k < j then kA rk p (i + j - 1 - k) else kA rk p k:=by
 unfold kA kas_rev
 rw [getElem?_mirror_all hj]
 by_cases h:i<=k/\k < j
 ·rw [if_pos h,if_pos h]
 ·rw [if_neg h,if_neg h]
theorem zaI (p:Array Nat) (i j:Nat):(kas_rev p i j).Perm p:=mirror_perm ..
theorem zci (hn:0 < n):∀ (f:Nat) (p:Array Nat) (m q:Nat),InR n p->Dsc rk p m->m + f<=n->q + 1<=m->(∀ a,m - (q + 1)<=a->a < m->kA rk p a=kA rk p (m - 1))->
  (∀ p' m' q',p'.Perm p->InR n p'->Dsc rk p' m'->m'<=m + f->m<=m'->q' + 1<=m'->(∀ a,m' - (q' + 1)<=a->a < m'->kA rk p' a=kA rk p' (m' - 1))->P (p',m',q'))->AskOk n rk (kas_desc f p m q) P
 | 0,p,m,q,hr,hd,_,hq,he,h=>h p m q (Array.Perm.refl _) hr hd (le_refl _) (le_refl _) hq he
 | f + 1,p,m,q,hr,hd,hm,hq,he,h=>by
   unfold kas_desc
   refine ⟨hr.2 m,hr.2 (m - 1),?_⟩
   rw [zb1 (rk:=rk),zb1 (rk:=rk)]
   by_cases hc:kA rk p m < kA rk p (m - 1)
   ·(rw [decide_eq_true hc]; dsimp only; rw [if_pos rfl])
    have go:∀ p2:Array Nat,p2.Perm p->(∀ k,kA rk p2 k=kA rk p k)->AskOk n rk (kas_desc f p2 (m + 1) 0) P:=by
     intro p2 hp hk
     refine zci hn f p2 (m + 1) 0 (zbj hr hp hn) (fun a b hab hb=>?_) (by lia) (by lia) (fun a h1 h2=>?_) fun p' m' q' g1 g2 g3 g4 g5 g6 g7=>h p' m' q' (g1.trans hp) g2 g3 (by lia) (by lia) g6 g7
     ·rw [hk,hk]
      by_cases hbm:b < m
      ·exact hd a b hab hbm
      ·have:b=m:=by lia
       subst this
       by_cases ha:a=b
       ·rw [ha]; exact Int.le_refl _
       ·have:=hd a (b - 1) (by lia) (by lia)
        lia
     ·have:a=m + 1 - 1:=by lia
      rw [this]
    by_cases hq0:q > 0
    ·rw [if_pos hq0]
     refine go _ (zaI ..) fun k=>?_
     rw [zdb (by rw [hr.1]; lia)]
     by_cases hk:m - (q + 1)<=k/\k < m
     ·rw [if_pos hk,he k hk.1 hk.2,he _ (by lia) (by lia)]
     ·rw [if_neg hk]
    ·rw [if_neg hq0]
     exact go p (Array.Perm.refl _) fun _=>rfl
   ·(rw [decide_eq_false hc]; dsimp only; rw [if_neg Bool.false_ne_true])
    refine ⟨hr.2 (m - 1),hr.2 m,?_⟩
    rw [zb1 (rk:=rk),zb1 (rk:=rk)]
    by_cases hc2:kA rk p (m - 1) < kA rk p m
    ·(rw [decide_eq_true hc2]; dsimp only; rw [if_pos rfl])
     exact h p m q (Array.Perm.refl _) hr hd (by lia) (le_refl _) hq he
    ·(rw [decide_eq_false hc2]; dsimp only; rw [if_neg Bool.false_ne_true])
     have heq:kA rk p m=kA rk p (m - 1):=by lia
     refine zci hn f p (m + 1) (q + 1) hr (fun a b hab hb=>?_) (by lia) (by lia) (fun a h1 h2=>?_) fun p' m' q' g1 g2 g3 g4 g5 g6 g7=>h p' m' q' g1 g2 g3 (by lia) (by lia) g6 g7
     ·by_cases hbm:b < m
      ·exact hd a b hab hbm
      ·have:b=m:=by lia
       subst this
       by_cases ha:a=b
       ·rw [ha]; exact Int.le_refl _
       ·have:=hd a (b - 1) (by lia) (by lia)
        lia
     ·show kA rk p a=kA rk p m
      by_cases ha:a=m
      ·rw [ha]
      ·rw [heq]; exact he a (by lia) (by lia)
theorem zhs (hm:m<=p.size) (hd:Dsc rk p m):Srt rk (kas_rev p 0 m) m:=fun a b hab hb=>by
 rw [zdb hm,zdb hm,if_pos ⟨zero_le _,by lia⟩,if_pos ⟨zero_le _,hb⟩]
 exact hd _ _ (by lia) (by lia)
theorem zdS (hn:0 < n) (hr:InR n p) (hd:Dsc rk p m) (h1:1<=m) (hm:m<=n)
  (h:∀ m' p',p'.Perm p->InR n p'->m<=m'->m'<=n->Srt rk p' m'->P (m',p')):AskOk n rk (kas_tail3 m n p) P:=by
 have hs:=zhs (by rw [hr.1]; exact hm) hd
 have hr2:=zbj hr (zaI p 0 m) hn
 unfold kas_tail3
 exact zaX (zdC hr2 (n - m) m h1 hs fun m' g1 g2 g3 _=>h m' _ (zaI ..) hr2 g1 (by lia) g3)
theorem zcN (hn:0 < n) (hr:InR n p) (hd:Dsc rk p (m + 1)) (h1:1<=m) (hm:m + 1<=n)
  (h:∀ m' p',p'.Perm p->InR n p'->1<=m'->m'<=n->Srt rk p' m'->P (m',p')):AskOk n rk (kas_descPart m n p) P:=by
 unfold kas_descPart
 refine zaX (zci hn (n - (m + 1)) p (m + 1) 0 hr hd (by lia) (by lia) (fun a g1 g2=>by rw [show a=m + 1 - 1 by lia]) fun p' m' q' g1 g2 g3 g4 g5 g6 g7=>?_)
 show AskOk n rk (if q' > 0 then kas_tail3 m' n (kas_rev p' (m' - (q' + 1)) m') else kas_tail3 m' n p') P
 by_cases hq:q' > 0
 ·rw [if_pos hq]
  have hk:∀ k,kA rk (kas_rev p' (m' - (q' + 1)) m') k=kA rk p' k:=fun k=>by
   rw [zdb (by rw [g2.1]; lia)]
   by_cases hk:m' - (q' + 1)<=k/\k < m'
   ·rw [if_pos hk,g7 k hk.1 hk.2,g7 _ (by lia) (by lia)]
   ·rw [if_neg hk]
  refine zdS hn (zbj g2 (zaI ..) hn) (fun a b hab hb=>by rw [hk,hk]; exact g3 a b hab hb) (by lia) (by lia) fun m2 p2 e1 e2 e3 e4 e5=>h m2 p2 (e1.trans ((zaI ..).trans g1)) e2 (by lia) e4 e5
 ·rw [if_neg hq]
  exact zdS hn g2 g3 (by lia) (by lia) fun m2 p2 e1 e2 e3 e4 e5=>h m2 p2 (e1.trans g1) e2 (by lia) e4 e5
theorem zeK (hn:2<=n) (hr:InR n p) (h:∀ m' p',p'.Perm p->InR n p'->1<=m'->m'<=n->Srt rk p' m'->P (m',p')):AskOk n rk (kas_count n p) P:=by
 unfold kas_count
 refine zaX (zdC hr (n - 1) 1 (le_refl _) (fun a b hab hb=>by rw [show a=b by lia]; exact Int.le_refl _) fun m g1 g2 g3 g4=>?_)
 by_cases hm:(m == n)=true
 ·rw [if_pos hm]
  have:m=n:=by simpa using hm
  exact h m p (Array.Perm.refl _) hr g1 (by lia) g3
 ·rw [if_neg hm]
  have hne:m≠n:=by simpa using hm
  have hlt:=g4 (by lia)
  by_cases hm1:m > 1
  ·rw [if_pos hm1]
   refine ⟨hr.2 0,hr.2 (m - 1),?_⟩
   rw [zb1 (rk:=rk),zb1 (rk:=rk)]
   by_cases hc:kA rk p 0 < kA rk p (m - 1)
   ·(rw [decide_eq_true hc]; dsimp only; rw [if_pos rfl])
    exact h m p (Array.Perm.refl _) hr g1 (by lia) g3
   ·(rw [decide_eq_false hc]; dsimp only; rw [if_neg Bool.false_ne_true])
    have heq:∀ a,a < m->kA rk p a=kA rk p (m - 1):=fun a ha=>by
     have e1:=g3 0 a (zero_le _) ha
     have e2:=g3 a (m - 1) (by lia) (by lia)
     lia
    have hk:∀ k,kA rk (kas_rev p 0 m) k=kA rk p k:=fun k=>by
     rw [zdb (by rw [hr.1]; lia)]
     grind
    refine zcN (by lia) (zbj hr (zaI ..) (by lia)) (fun a b hab hb=>?_) g1 (by lia) fun m2 p2 e1 e2 e3 e4 e5=>h m2 p2 (e1.trans (zaI ..)) e2 e3 e4 e5
    grind
  ·rw [if_neg hm1]
   have:m=1:=by lia
   subst this
   refine zcN (by lia) hr (fun a b hab hb=>?_) (le_refl _) (by lia) h
   grind
theorem zfN (hn:0 < n):InR n (List.range n).toArray:=by
 refine ⟨by simp,fun k=>?_⟩
 rw [Array.getD_eq_getD_getElem?]
 by_cases hk:k < n
 ·simp [hk]
 ·simp [hk]; exact hn
theorem zgD (hn:2<=n) (h:∀ p,p.Perm (List.range n).toArray->Srt rk p n->P p):AskOk n rk (kas_sort n) P:=by
 unfold kas_sort
 refine zaX (zeK hn (zfN (by lia)) fun m p g1 g2 g3 g4 g5=>?_)
 show AskOk n rk (if m < n then kas_bin (n - max m 1) p (max m 1) else .ret p) P
 have hmax:max m 1=m:=by lia
 rw [hmax]
 by_cases hm:m < n
 ·rw [if_pos hm]
  exact zfk (by lia) (n - m) p m g2 g5 (by lia) fun p' e1 e2 e3=>h p' (e1.trans g1) (by rw [show m + (n - m)=n by lia] at e3; exact e3)
 ·rw [if_neg hm]
  have:m=n:=by lia
  subst this
  exact h p g1 g5
end
end FL
end
section
namespace FL
open PySem PySem.Spec PyProof.Rows L2
section
variable {X:Cx} {pins:List (Addr×Obj)} {σ:List (Option V)} {H:Hp} {s:Shared} {h':Heap}
theorem zjE {h:Heap} (x:h.Ns a m) (y:h.Ns a m'):m=m':=by
 obtain ⟨o,es,ep,e,d,_,f⟩:=x
 obtain ⟨o',es',ep',e',d',_,f'⟩:=y
 grind
theorem Inv.laidF (I:Inv X pins σ H s) (hn:∀ m,s.heap.Ns X.env.locals m->h'.Ns X.env.locals m) (k:∀ b u,b≠X.env.locals->s.heap.get? b=some u->h'.get? b=some u)
  (hp:s.heap.get? a=none) (new:ObjOk X.prog X.w (upd H a o) h' a o):Inv X pins σ (upd H a o) { s with heap:=h',toks:=t' }:=by
 have ha:H a=none:=by
  cases e:H a with
  | none=>rfl
  | some u=>obtain ⟨v,z⟩:=ObjOk.there (I.hok a u e); rw [hp] at z; cases z
 refine I.step (g':=s.gens) (d':=s.drawn) (ch:=[]) (fun _ z=>nomatch z) (fun b ob nL _ _ e _=>k b ob nL e) (fun b ob nL _ _ e _=>⟨ob.slots,k b ob nL e⟩) (fun b ob _ e n=>by rw [zaf (fun z=>by rw [z,hp] at e; cases e)]; exact n)
  (fun b ob _ e=>?_) (fun b xs q=>by rw [zaf (zaj q ha)]; exact q) (fun b u xs q=>by rw [zaf (zaj q ha)]; exact q) (fun b ps q=>⟨#[],by rw [zaf (zaj q ha),q]; simp⟩) hn (fun b ob e=>?_) I.bare
 ·by_cases hb:b=X.env.locals
  ·obtain ⟨m,x,_⟩:=I.loc
   obtain ⟨o',_,_,e',_⟩:=hn m x
   exact ⟨o',by rw [hb]; exact e'⟩
  ·exact ⟨ob,k b ob hb e⟩
 ·by_cases hb:b=a
  ·subst hb; rw [zai] at e; cases e; exact new
  ·rw [zaf hb] at e
   refine (I.hok b ob e).stay (fun c v hc q=>k c v (fun z=>?_) q) (fun c q=>by rw [zaf (zaj q ha)]; exact q) fun c xs q=>by rw [zaf (zaj q ha)]; exact q
   rw [z] at hc
   rcases hc with r | r
   ·rw [<- r,I.free] at e; cases e
   ·rw [I.free] at r; cases r
end
section
open HT
theorem zfP:∀ l:List Int,lexLt l l=false
 | []=>rfl
 | x::l=>by rw [zat,if_pos rfl,zfP l]
theorem zcn:∀ k j i:List Int,lexLt k j=true->lexLt i j=false->lexLt k i=true
 | [],[],_,h,_=>by cases h
 | [],_::_,[],_,g=>by cases g
 | [],_::_,_::_,_,_=>rfl
 | _::_,[],_,h,_=>by cases h
 | _::_,_::_,[],_,g=>by cases g
 | x::k,y::j,z::i,h,g=>by
   rw [zat] at h g ⊢
   by_cases xy:x=y
   ·by_cases zy:z=y
    ·rw [if_pos xy] at h
     rw [if_pos zy] at g
     rw [if_pos (xy.trans zy.symm)]
     exact zcn k j i h g
    ·rw [if_neg zy] at g
     have:=of_decide_eq_false g
     rw [if_neg (by lia)]
     exact decide_eq_true (by lia)
   ·rw [if_neg xy] at h
    have:=of_decide_eq_true h
    by_cases zy:z=y
    ·rw [if_neg (by lia)]
     exact decide_eq_true (by lia)
    ·rw [if_neg zy] at g
     have:=of_decide_eq_false g
     rw [if_neg (by lia)]
     exact decide_eq_true (by lia)
theorem zbD:∀ i j:List Int,lexLt i j=true->lexLt j i=false
 | [],[],h=>by cases h
 | [],_::_,_=>rfl
 | _::_,[],h=>by cases h
 | x::i,y::j,h=>by
   rw [zat] at h ⊢
   by_cases xy:x=y
   ·rw [if_pos xy] at h
    rw [if_pos xy.symm]
    exact zbD i j h
   ·rw [if_neg xy] at h
    have:=of_decide_eq_true h
    rw [if_neg (by lia)]
    exact decide_eq_false (by lia)
theorem zfb (h:∀ x,p x=true->q x=true):∀ l:List Nat,l.countP p<=l.countP q
 | []=>le_refl _
 | a::l=>by
   rw [countP_cons,countP_cons]
   have:=zfb h l
   cases e:p a with
   | true=>rw [h a e]; lia
   | false=>simp only [false_eq_true,if_false]; lia
theorem zhh (h:∀ x,p x=true->q x=true):∀ l:List Nat,(∃ x,x∈l/\q x=true/\p x=false)->l.countP p < l.countP q
 | [],z=>by obtain ⟨_,z,_⟩:=z; cases z
 | a::l,z=>by
   rw [countP_cons,countP_cons]
   obtain ⟨x,hx,qx,px⟩:=z
   by_cases e:x=a
   ·subst e
    have:=zfb h l
    rw [qx,px]
    simp only [false_eq_true,if_false,if_true]
    lia
   ·have:=zhh h l ⟨x,(mem_cons.mp hx).resolve_left e,qx,px⟩
    cases e:p a with
    | true=>rw [h a e]; lia
    | false=>simp only [false_eq_true,if_false]; lia
def rkL (ls:List (List Int)) (i:Nat):Int:=((List.range ls.length).countP fun j=>lexLt (ls.getD j []) (ls.getD i []):Nat)
theorem zi0 (hi:i < ls.length):decide (rkL ls i < rkL ls j)=lexLt (ls.getD i []) (ls.getD j []):=by
 unfold rkL
 cases e:lexLt (ls.getD i []) (ls.getD j []) with
 | true=>
   refine decide_eq_true (Int.ofNat_lt.mpr (zhh (fun k hk=>?_) _ ⟨i,mem_range.mpr hi,e,zfP _⟩))
   exact zcn _ _ _ hk (zbD _ _ e)
 | false=>
   refine decide_eq_false fun h=>?_
   have:=zfb (p:=fun k=>lexLt (ls.getD k []) (ls.getD j [])) (q:=fun k=>lexLt (ls.getD k []) (ls.getD i [])) (fun k hk=>zcn _ _ _ hk e) (List.range ls.length)
   lia
end
section
open PySem.W HT
variable {prog:Program} {w:World} {A:Around} {s:Shared} {b:Bool} {Q:Bool->Shared->Prop} {κ:SortKind}
theorem zdj (i:Nat) (r:IntsAre us ns) (r':IntsAre vs ms) (h:Q (lexLt ns ms) s):KatLex prog w A b (decide (ns.length < ms.length)) Q (us.zip vs) i s:=by
 induction r generalizing vs ms i with
 | nil=>cases r' <;> exact kat_nil h
 | @cons n _ _ ns r ih=>cases r' with
   | nil=>exact kat_nil h
   | @cons m _ _ ms r'=>
     have e:decide ((n::ns).length < (m::ms).length)=decide (ns.length < ms.length):=decide_eq_decide.2 Nat.succ_lt_succ_iff
     rw [e]
     refine kat_cons (wpAny_eqBool_int ?_)
     rw [zat] at h
     by_cases nm:n=m
     ·rw [if_pos nm] at h
      rw [show (n == m)=true by simp [nm]]
      exact kat_yes (ih (i + 1) r' h)
     ·rw [if_neg nm] at h
      rw [show (n == m)=false by simp [nm]]
      refine kat_no ?_
      cases (b && i == 0) with
      | true=>exact oneLt_int h
      | false=>exact kat_one _ _ (PyProof.Rows.lt_int h)
theorem zca {P:α->Prop} {R:α->Shared->Prop} (hc:∀ i j (C:Bool->Shared->Prop),i < n->j < n->C (decide (rk i < rk j)) s->kas_ask prog w A κ vs i j C s):
  ∀ (t:KasT α),AskOk n rk t P->(∀ a,P a->R a s)->t.kasWp (kas_ask prog w A κ vs) R s
 | .ret a,h,q=>q a h
 | .ask i j k,h,q=>hc i j _ h.1 h.2.1 (zca hc (k _) h.2.2 q)
end
section
open PySem.W HT
variable {X:Cx} {pins:List (Addr×Obj)} {σ:List (Option V)} {H:Hp} {s:Shared}
def rest (h₀:Heap) (L:Addr) (h:Heap):List (Addr×Obj):=(List.range h.objs.size).filterMap fun b=>if b=L then none else if (h₀.get? b).isSome then none else (h.get? b).map fun o=>(b,o)
theorem zbH:p∈rest h₀ L h↔h.get? p.1=some p.2/\p.1≠L/\h₀.get? p.1=none:=by
 unfold rest
 rw [mem_filterMap]
 constructor
 ·rintro ⟨b,_,e⟩
  by_cases h1:b=L
  ·rw [if_pos h1] at e; cases e
  ·rw [if_neg h1] at e
   cases h2:h₀.get? b with
   | some o=>rw [h2] at e; cases e
   | none=>
     rw [h2] at e
     simp only [Option.isSome_none,false_eq_true,if_false] at e
     obtain ⟨o,e1,e2⟩:=map_eq_some_iff.mp e
     cases e2
     exact ⟨e1,h1,h2⟩
 ·rintro ⟨e1,e2,e3⟩
  refine ⟨p.1,mem_range.mpr (qe e1),?_⟩
  rw [if_neg e2,e3,e1]
  rfl
theorem zff:∀ {bs:List Addr} {its:List Value},Vals (bs.map V.ref) its->its=bs.map Value.ref
 | [],_,.nil=>rfl
 | b::bs,_,.cons r t=>by
   have e:_=Value.ref b:=r
   rw [e,zff t]
   rfl
theorem zcY:∀ bs:List Addr,Vals (bs.map V.ref) (bs.map Value.ref)
 | []=>.nil
 | _::bs=>.cons rfl (zcY bs)
def TupI (h:Heap) (b:Addr) (l:List Int):Prop:=∃ us,IntsAre us l/\IsTup h b us.toArray
theorem katTups:∀ {bs:List Addr} {ls:List (List Int)},Paired (fun b l=>l≠[]/\TupI h b l) bs ls->∃ fs:List Value,KatTups h (bs.map Value.ref) fs/\fs.length=bs.length/\∀ v∈fs,∃ z t,v=Value.int z t
 | _,_,.nil=>⟨[],.nil,rfl,fun _ z=>nomatch z⟩
 | _,_,.cons ⟨hne,us,r,o,e,c,n,d⟩ t=>by
   obtain ⟨fs,t1,t2,t3⟩:=katTups t
   cases r with
   | nil=>exact absurd rfl hne
   | cons i tk r'=>
     refine ⟨_::fs,.cons e c d rfl t1,by simp [t2],fun v hv=>?_⟩
     rcases mem_cons.mp hv with z | z
     ·exact ⟨_,_,z⟩
     ·exact t3 v z
theorem zbc {R:α->β->Prop}:∀ {l:List α} {m:List β} (i:Nat) (da:α) (db:β),Paired R l m->i < l.length->R (l.getD i da) (m.getD i db)
 | _,_,0,_,_,.cons r _,_=>r
 | _,_,i + 1,da,db,.cons _ t,h=>zbc i da db t (by simpa using h)
def rSortT (K:W.Frag):List V->Hp->VK->Prop:=fun xs H Q=>∃ (a:Addr) (bs:List Addr) (ls:List (List Int)),xs=[.ref a]/\SqL K H a (bs.map V.ref)/\2<=bs.length/\bs.length < 64/\
 Paired (fun b l=>l≠[]/\SqT K H b (l.map V.int)) bs ls/\
 ∀ p:Array Nat,p.Perm (List.range bs.length).toArray->Srt (rkL ls) p bs.length->∀ q,H q=none->Q (.ref q) (upd H q (.lst ((p.toList.map fun i=>bs.getD i 0).map V.ref)))
theorem zc9:CallR X (.builtin "sorted") (rSortT X.K):=by
 intro pins s σ H xs us Q I r h
 obtain ⟨a,bs,ls,rfl,hq,h2,h64,ht,q⟩:=h
 cases r with
 | cons r1 r2=>
   cases r2
   cases r1
   obtain ⟨its,rv,pl,_⟩:=I.list hq
   have hv:=zff rv
   subst hv
   obtain ⟨m,F⟩:=I.fr
   have N:News X.base X.env.locals s.heap (rest X.base X.env.locals s.heap):=fun p hp=>zbH.mp hp
   refine kat_sorted F N pl.isList (by rw [length_map]; exact h2) (by rw [length_map]; exact h64) fun D e1 h' F' N' hD=>?_
   have kp:∀ {h':Heap},Fr X.base X.env.locals h' m->News X.base X.env.locals h' (rest X.base X.env.locals s.heap)->∀ b u,b≠X.env.locals->s.heap.get? b=some u->h'.get? b=some u:=fun {h'} F' N' b u hb e=>by
    cases hb0:X.base.get? b with
    | some o=>
      rw [F.keep b o hb0] at e
      rw [<- e]
      exact F'.keep b o hb0
    | none=>exact (N' (b,u) (zbH.mpr ⟨e,hb,hb0⟩)).1
   have tl:∀ {d o news},News X.base X.env.locals h' ((d,o)::news)->News X.base X.env.locals h' news:=fun N p hp=>N p (qm _ hp)
   have hDn:s.heap.get? D=none:=by
    cases e:s.heap.get? D with
    | none=>rfl
    | some u=>
      obtain ⟨_,n1,n2⟩:=N' (D,seqObj "list" #[] e1) qo
      exact absurd (hD (D,u) (zbH.mpr ⟨e,n1,n2⟩)) (lt_irrefl _)
   have tp:Paired (fun b l=>l≠[]/\TupI h' b l) bs ls:=Paired.mapP ht fun b l ⟨hne,hs⟩=>by
    obtain ⟨us,r,⟨o,e,c,n,d⟩,_⟩:=I.tuple hs
    refine ⟨hne,us,zbl r,o,kp F' (tl N') b o (fun z=>?_) e,c,n,d⟩
    obtain ⟨m,⟨o',es,ep,e',d',_⟩,_⟩:=I.loc
    rw [z,e'] at e; cases e
    rw [d'] at d; cases d
   obtain ⟨fs,t1,t2,t3⟩:=katTups tp
   have hll:ls.length=bs.length:=(Paired.length tp).symm
   refine kat_kind (T:=.type "int") t1 (by lia) (fun v hv=>?_) (by rfl) ?_
   ·obtain ⟨z,t,rfl⟩:=t3 v hv
    exact Looks.of_pure rfl
   ·refine zca (n:=bs.length) (rk:=rkL ls) (P:=fun p=>p.Perm (List.range bs.length).toArray/\Srt (rkL ls) p bs.length) (fun i j C hi hj hc=>?_) _ (by rw [length_map]; exact zgD h2 fun p a b=>⟨a,b⟩) fun p ⟨p1,p2⟩=>?_
    ·rw [zi0 (by lia)] at hc
     obtain ⟨_,us,r,o,e,c,n,d⟩:=zbc i 0 [] tp hi
     obtain ⟨_,us',r',o',e',c',n',d'⟩:=zbc j 0 [] tp hj
     have g:∀ i,i < bs.length->(bs.map Value.ref).getD i Value.none=.ref (bs.getD i 0):=fun i hi=>by simp [hi]
     unfold kas_ask
     rw [g i hi,g j hj]
     refine kat_lt e d e' d' ?_
     have l1:us.toArray.size=(ls.getD i []).length:=by rw [size_toArray]; exact r.length
     have l2:us'.toArray.size=(ls.getD j []).length:=by rw [size_toArray]; exact r'.length
     rw [l1,l2]
     exact zdj 0 r r' hc
    ·refine KasFin.intro F' N' (.head fun p hp=>ne_of_lt (hD p hp)) fun h3 c F3 N3=>?_
     have eo:(p.toList.map fun i=>(bs.map Value.ref).getD i Value.none)=(p.toList.map fun i=>bs.getD i 0).map Value.ref:=by
      rw [map_map]
      refine map_congr_left fun i hi=>?_
      have hi':i < bs.length:=by
       have:=p1.mem_iff.mp (mem_toList_iff.mp hi)
       simpa using this
      simp [hi']
     rw [eo] at N3
     have hsz:p.toList.length=bs.length:=by
      have:=p1.size_eq
      simpa using this
     refine ⟨.ref D,_,Inv.laidF (s:=s) (t':=s.toks) (o:=.lst ((p.toList.map fun i=>bs.getD i 0).map V.ref)) I (fun m' x=>by rw [zjE x F.ns]; exact F3.ns) (fun b u hb e=>kp F3 (fun p hp=>N3 p (qm _ hp)) b u hb e) hDn ?_,rfl,q p p1 p2 D ?_⟩
     ·refine ⟨by simp only [length_map]; rw [sizeLine_eq]; lia,_,c,zcY _,(N3 (D,_) qo).1⟩
     ·cases e:H D with
      | none=>rfl
      | some u=>obtain ⟨v,z⟩:=ObjOk.there (I.hok D u e); rw [hDn] at z; cases z
end
end FL
end
section
namespace FL
def tI (ns:List Int):D:=.tup (ns.map .int)
def tupsD:List D->Option (List (List Int))
 | []=>some []
 | .tup ds::r=>match intsD ds with
   | some (x::xs)=>(tupsD r).map ((x::xs)::·)
   | _=>none
 | _::_=>none
def sortT (l:List D):Option S:=if 2<=l.length/\l.length < 64/\(tupsD l).isSome=true then some (.lst ((sortD l).map .sh)) else none
def bSortT:List D->Option S
 | [.lst l]=>sortT l
 | _=>none
theorem zd0:∀ {l:List D} {ns:List Int},intsD l=some ns->l=ns.map .int
 | [],_,h=>by cases h; rfl
 | .int x::r,ns,h=>by
   rw [intsD] at h
   obtain ⟨ys,h1,rfl⟩:=map_eq_some_iff.mp h
   rw [zd0 h1]; rfl
theorem zdR:∀ {l:List D} {ls:List (List Int)},tupsD l=some ls->l=ls.map tI/\∀ x∈ls,x≠[]
 | [],_,h=>by cases h; exact ⟨rfl,fun _ z=>nomatch z⟩
 | .tup ds::r,ls,h=>by
   rw [tupsD] at h
   split at h
   ·rename_i x xs e
    obtain ⟨ys,h1,rfl⟩:=map_eq_some_iff.mp h
    obtain ⟨e1,e2⟩:=zdR h1
    refine ⟨by rw [e1,zd0 e]; rfl,fun z hz=>?_⟩
    rcases mem_cons.mp hz with rfl | hz
    ·exact fun q=>nomatch q
    ·exact e2 z hz
   ·cases h
def sort3 (l:List D):Option S:=if l.length < 2 then some (.lst (l.map .sh)) else match sortT l with
 | some s=>some s
 | none=>sortS l
def bSort3:List D->Option S
 | [.lst l]=>sort3 l
 | _=>none
end FL
end
section
namespace FL
open PySem PySem.Spec PyProof.Rows L2
open HT
theorem zcb:∀ ns ms:List Int,cmpDs (ns.map .int) (ms.map .int)=if lexLt ns ms=true then .lt else if lexLt ms ns=true then .gt else .eq
 | [],[]=>rfl
 | [],_::_=>rfl
 | _::_,[]=>rfl
 | x::ns,y::ms=>by
   rw [map_cons,map_cons,zat,zat,cmpDs,cmpD]
   by_cases h:x < y
   ·rw [if_pos h,if_neg (show ¬ x=y by lia),if_pos (decide_eq_true h)]
   ·rw [if_neg h]
    by_cases h2:y < x
    ·rw [if_pos h2,if_neg (show ¬ x=y by lia),if_neg (show ¬ y=x by lia),if_neg (by simp; lia),if_pos (decide_eq_true h2)]
    ·have e:x=y:=by lia
     subst e
     rw [if_neg h2,if_pos rfl,if_pos rfl]
     exact zcb ns ms
theorem za2 (ns ms:List Int):leD (tI ns) (tI ms)=!lexLt ms ns:=by
 unfold leD tI
 rw [cmpD,zcb]
 cases e:lexLt ns ms with
 | true=>rw [zbD _ _ e]; rfl
 | false=>
   cases e2:lexLt ms ns with
   | true=>rfl
   | false=>rfl
theorem zdV:∀ a b:List Int,lexLt a b=false->lexLt b a=false->a=b
 | [],[],_,_=>rfl
 | [],_::_,h,_=>by cases h
 | _::_,[],_,h=>by cases h
 | x::a,y::b,h,g=>by
   rw [zat] at h g
   by_cases e:x=y
   ·subst e
    rw [if_pos rfl] at h g
    rw [zdV a b h g]
   ·rw [if_neg e] at h
    rw [if_neg (Ne.symm e)] at g
    have:=of_decide_eq_false h
    have:=of_decide_eq_false g
    lia
def IsTI (d:D):Prop:=∃ ns,d=tI ns
theorem zhY:OrdOn IsTI where
 tot:=by
  rintro _ _ ⟨a,rfl⟩ ⟨b,rfl⟩
  rw [za2,za2]
  cases e:lexLt b a with
  | false=>exact .inl rfl
  | true=>exact .inr (by rw [zbD _ _ e]; rfl)
 tr:=by
  rintro _ _ _ ⟨a,rfl⟩ ⟨b,rfl⟩ ⟨c,rfl⟩
  rw [za2,za2,za2]
  intro h1 h2
  cases e:lexLt c a with
  | false=>rfl
  | true=>
    grind [zcn]
 anti:=by
  rintro _ _ ⟨a,rfl⟩ ⟨b,rfl⟩
  grind [za2,zdV]
section
variable {X:Cx} {K:W.Frag} {p pos:Pos} {e:Expr} {es:List Expr} {wa:WA}
theorem zeN:∀ {xs:List V} {ls:List (List Int)},Reps K F xs (ls.map tI)->∃ bs:List Addr,xs=bs.map V.ref/\Paired (fun b l=>F b=some (.tup (l.map V.int))) bs ls
 | _,[],.nil=>⟨[],rfl,.nil⟩
 | _,l::ls,.cons a b=>by
   obtain ⟨bs,e,t⟩:=zeN b
   cases a with
   | tup h r=>
     obtain ⟨e1,_⟩:=zez r (ze5 l)
     subst e1
     exact ⟨_::bs,by rw [e]; rfl,.cons h t⟩
theorem zcy:∀ {bs:List Addr} {ls:List (List Int)},Paired (fun b l=>F b=some (.tup (l.map V.int))) bs ls->Reps K F (bs.map V.ref) (ls.map tI)
 | _,_,.nil=>.nil
 | _,_,.cons h t=>.cons (.tup h (za6 _)) (zcy t)
theorem zcd {R:α->β->Prop} {l:List α} {m:List β} {da:α} {db:β} (h:Paired R l m):∀ {q:List Nat},(∀ i∈q,i < l.length)->Paired R (q.map fun i=>l.getD i da) (q.map fun i=>m.getD i db)
 | [],_=>.nil
 | i::q,z=>.cons (zbc i da db h (z i qo)) (zcd h fun j hj=>z j (qm _ hj))
theorem zfF {R R':α->β->Prop} {l:List α} {m:List β} (h:Paired R l m) (f:∀ a b,b∈m->R a b->R' a b):Paired R' l m:=by
 induction h with
 | nil=>exact .nil
 | cons r _ ih=>exact .cons (f _ _ qo r) (ih fun a b hb=>f a b (qm _ hb))
theorem zek {α:Type} (d:α):∀ l:List α,(List.range l.length).map (fun i=>l.getD i d)=l:=fun l=>by
 refine List.ext_getElem (by simp) fun i h1 h2=>?_
 simp [h2]
theorem zeu:DoesB K (rSortT K) bSortT:=by
 intro σ U F G H vs ds s Q rel re e hq
 obtain ⟨d,v,rfl,rfl⟩:=arg1 (fun x y r=>by cases x <;> rfl) rfl re e
 cases d with
 | lst l=>
   have e:sortT l=some s:=e
   unfold sortT at e
   split at e
   ·rename_i hc
    cases e
    obtain ⟨h2,h64,h3⟩:=hc
    obtain ⟨ls,q1⟩:=Option.isSome_iff_exists.mp h3
    obtain ⟨el,hne⟩:=zdR q1
    subst el
    rw [length_map] at h2 h64
    obtain ⟨a,xs,rfl,h1,r1⟩:=re.1.lst rel.fr
    obtain ⟨bs,rfl,t⟩:=zeN r1
    have hl:bs.length=ls.length:=Paired.length t
    refine ⟨a,bs,ls,rfl,h1,by lia,by lia,zfF t fun b l hb h=>⟨hne l hb,SqT.of (rel.fr _ _ h)⟩,fun p p1 p2 q hq'=>?_⟩
    have hin:∀ i∈p.toList,i < bs.length:=fun i hi=>by
     have:=p1.mem_iff.mp (mem_toList_iff.mp hi)
     simpa using this
    have t2:=zcd (da:=0) (db:=[]) t (q:=p.toList) hin
    have pp:p.toList.Perm (List.range ls.length):=by
     have:=Array.perm_iff_toList_perm.mp p1
     rw [<- hl]; simpa using this
    have perm:(p.toList.map fun i=>ls.getD i []).Perm ls:=(pp.map _).trans (by rw [zek])
    have hsz:p.size=bs.length:=by have:=p1.size_eq; simpa using this
    have es:sortD (ls.map tI)=(p.toList.map fun i=>ls.getD i []).map tI:=by
     refine zcf zhY (fun d hd=>by obtain ⟨z,_,rfl⟩:=mem_map.mp hd; exact ⟨z,rfl⟩) (perm.map _) ?_
     rw [map_map,pairwise_map]
     refine List.pairwise_iff_getElem.mpr fun i j hi hj hij=>?_
     simp only [Function.comp]
     rw [za2]
     have hj':j < bs.length:=by rw [<- hsz]; simpa using hj
     have hi':i < bs.length:=by lia
     have k:=p2 i j (by lia) hj'
     have gi:∀ i (h:i < p.toList.length),kA (rkL ls) p i=rkL ls p.toList[i]:=fun i h=>by
      unfold kA
      rw [Array.getElem?_eq_getElem (by simpa using h)]
      simp
     rw [gi i hi,gi j hj] at k
     have hb:=hin _ (getElem_mem hj)
     have:=zi0 (ls:=ls) (i:=p.toList[j]) (j:=p.toList[i]) (by lia)
     rw [<- this,decide_eq_false (by lia)]
     rfl
    rw [es] at hq
    exact hq _ F _ (Same.refl F) (rel.newLD hq' (zcy t2))
   ·cases e
 | _=>cases e
end
end FL
end
section
namespace FL
open PySem PySem.Spec PyProof.Rows L2
section
variable {prog:Program} {w:World} {A:Around} {E:Value->Shared->Prop} {s:Shared}
theorem zhn {vs:List Value} (few:vs.length < 2):(vs.toArray.zip vs.toArray).map (·.2)=vs.toArray:=by
 rw [List.zip_toArray,List.map_toArray,List.map_snd_zip (le_refl _)]
theorem zgX (at_:s.heap.get? a=some (seqObj "list" vs.toArray n)) (few:vs.length < 2)
  (k:P (.done (.ret .none)) { s with heap:=sortedHeap s.heap a vs vs.toArray }):wpAny (model prog w) A (Builtin.«list.sort» ⟨[.ref a],[]⟩) P E s:=by
 rw [list_sort_plain]
 have few':vs.toArray.size < 2:=by simpa using few
 have hmid:∃ e,(s.heap.update a (Obj.mapSeq fun _=>#[])).get? a=some (seqObj "list" #[] e):=⟨_,get?_update_seq at_ _⟩
 obtain ⟨e,mid⟩:=hmid
 have end_:(((s.heap.update a (Obj.mapSeq fun _=>#[])).push (seqObj "tuple" vs.toArray 0)).push (seqObj "list" #[] 0)).get? a=some (seqObj "list" #[] e):=
  qc _ (qc _ mid)
 refine qa (listItems_at at_ rfl (qa (listUpdate_at at_ rfl (qa (seqEpoch_at mid rfl (qa (wpAny_newTuple (qa (wpAny_newList (wpAny_holding ?_))))))))))
 show wpAny (model prog w) A _ P E (Shared.mk (((s.heap.update a (Obj.mapSeq fun _=>#[])).push (seqObj "tuple" vs.toArray 0)).push (seqObj "list" #[] 0)) s.gens s.drawn s.toks s.os)
 dsimp only
 rw [if_pos few',if_pos few']
 refine qa (qb (?_:wpAny _ _ _ _ _ _))
 rw [StateT.run_pure]
 have eo:(arrOf (SortSt.mk' general' (vs.toArray.zip vs.toArray) #[] 7 none)).map (·.2)=vs.toArray:=by
  show (vs.toArray.zip vs.toArray).map (·.2)=_
  exact zhn few
 refine qa (qb (?_:wpAny _ _ _ _ _ _))
 dsimp only
 rw [eo]
 refine qa (seqEpoch_at end_ rfl (qa (listUpdate_at end_ rfl ?_ (hsz2:=by rw [sizeLine_eq]; lia))))
 simp only [bne_self_eq_false,false_eq_true,if_false]
 exact qb k
theorem zeb (is:s.heap.IsList l vs.toArray) (few:vs.length < 2)
  (k:Q (.ref (s.heap.objs.size + 1)) { s with heap:=sortedAll s.heap vs vs.toArray }):wpAny (model prog w) A (call (.builtin "sorted") [.ref l]) Q E s:=by
 refine Calls.call_function_entry kind_sorted plain_sorted entry_sorted (args_sorted1 _) (?_:wpAny _ _ _ _ _ _)
 unfold Builtin.«sorted»
 refine qa (m:=checkCount "sorted" 1 1 _) (qb (qa (collect_list is (qa (wpAny_newList ?_)))))
 generalize eh:((s.heap.push (seqObj "list" #[] 0)).update s.heap.objs.size (Obj.mapSeq (·++vs.toArray)))=h1
 have z:h1.objs.size=s.heap.objs.size + 1:=by rw [<- eh,Heap.size_update,size_push']
 have new:(h1.push (seqObj "list" vs.toArray 0)).get? (s.heap.objs.size + 1)=some (seqObj "list" vs.toArray 0):=z ▸ qd _ rfl
 show wpAny _ _ _ _ _ (Shared.mk (h1.push (seqObj "list" vs.toArray 0)) s.gens s.drawn s.toks s.os)
 rw [z]
 refine qa (wpAny_holding (wpAny_call_entry slot_list_sort ⟨_,new,rfl⟩ entry_list_sort (zgX new few ⟨_,rfl,?_⟩) (args_list_sort _)))
 subst eh
 exact qb ⟨_,rfl,k⟩
end
section
variable {X:Cx} {K:W.Frag} {p pos:Pos} {e:Expr} {es:List Expr} {wa:WA}
def rSort1 (K:W.Frag):List V->Hp->VK->Prop:=fun xs H Q=>∃ a ys,xs=[.ref a]/\SqL K H a ys/\ys.length < 2/\∀ q,H q=none->Q (.ref q) (upd H q (.lst ys))
theorem zc7:CallR X (.builtin "sorted") (rSort1 X.K):=by
 intro pins s σ H xs us Q I r h
 obtain ⟨a,ys,rfl,hq,h2,q⟩:=h
 cases r with
 | cons r1 r2=>
   cases r2
   cases r1
   obtain ⟨its,r,pl,_⟩:=I.list hq
   refine zeb pl.isList (by rw [<- r.length]; exact h2) ?_
   obtain ⟨e,he⟩:=sortedAll_at s.heap its its.toArray
   refine ⟨.ref (s.heap.objs.size + 1),_,I.laid (t':=s.toks) (o:=.lst ys) (fun b ob w=>sortedAll_old w) (le_succ _) ?_,rfl,q _ (I.hok.fresh (le_succ _))⟩
   exact ⟨by rw [sizeLine_eq]; lia,its,e,r,he⟩
theorem zde:∀ {xs:List V} {l:List D},Reps K F xs l->xs.length=l.length
 | _,_,.nil=>rfl
 | _,_,.cons _ t=>by rw [length_cons,length_cons,zde t]
def rSort3 (K:W.Frag):List V->Hp->VK->Prop:=fun xs H Q=>rSort1 K xs H Q\/rSortT K xs H Q\/rSorted K xs H Q
theorem zeh:CallR X (.builtin "sorted") (rSort3 X.K):=fun pins s σ H xs us Q I r h=>by
 rcases h with h | h | h
 ·exact zc7 pins s σ H xs us Q I r h
 ·exact zc9 pins s σ H xs us Q I r h
 ·exact zcV pins s σ H xs us Q I r h
theorem zem:DoesB K (rSort3 K) bSort3:=by
 intro σ U F G H vs ds s Q rel re e hq
 obtain ⟨d,v,rfl,rfl⟩:=arg1 (fun x y r=>by cases x <;> rfl) rfl re e
 cases d with
 | lst l=>
   have e:sort3 l=some s:=e
   unfold sort3 at e
   by_cases h2:l.length < 2
   ·rw [if_pos h2] at e
    cases e
    obtain ⟨a,xs,rfl,h1,r1⟩:=re.1.lst rel.fr
    exact .inl ⟨a,xs,rfl,h1,by rw [zde r1]; exact h2,fun q hq'=>hq _ F _ (Same.refl F) (rel.newLD hq' r1)⟩
   ·rw [if_neg h2] at e
    cases e1:sortT l with
    | some t=>rw [e1] at e; exact .inr (.inl (zeu σ U F G H [v] [.lst l] s Q rel re (e1.trans e) hq))
    | none=>rw [e1] at e; exact .inr (.inr (zdp σ U F G H [v] [.lst l] s Q rel re e hq))
 | _=>cases e
theorem zgn (hg:Gl X "sorted") (hm:X.mg "sorted"=none) (hv:bootBuiltins "sorted"=some (.builtin "sorted")) (ha:FA X (e::es) wa) (he:starEach (e::es) X.env=(false,eval e X.env)::starEach es X.env:=by rfl) (hpl:(backTo pos (starEach es X.env)).any (·.1)=false:=by rfl):FE X (.Call (.Name "sorted" p) (e::es) [] pos) (wB bSort3 wa):=
 zbE (fun pn xe=>zeh (X:=wp X pn xe)) zem hg hm hv ha (by decide) (by decide) he hpl
end
end FL
end
section
namespace FL
def cInA (a b:D):Option Bool:=match b with
 | .str l=>match a with
   | .str x=>some (findD l x).isSome
   | _=>none
 | d=>cIn a d
def cNotInA (a b:D):Option Bool:=(cInA a b).map (!·)
def wFrz (a:WE):WE:=fun U Q E=>a U (fun r U1=>need (give r U1) fun p=>Q (.v (.sh p.1.toD)) p.2) E
mutual
def okSh:D->Bool
 | .non=>true
 | .bl _=>true
 | .int i=>decide (-1000000000000 < i) && decide (i < 1000000000000)
 | .str l=>l.all fun c=>decide (c < 1114112)
 | .tup l=>okShs l
 | .lst l=>okShs l
 | _=>false
def okShs:List D->Bool
 | []=>true
 | d::r=>okSh d && okShs r
end
mutual
def wtD:D->Nat
 | .int _=>41
 | .str l=>l.length
 | .tup l=>wtDs l
 | .lst l=>wtDs l
 | _=>0
def wtDs:List D->Nat
 | []=>0
 | d::r=>wtD d + 1 + wtDs r
end
def oMulA (p q:D):Option S:=match p,q with
 | .str x,.int n=>if 0<=n/\n<=1000/\x.length<=500 then some (.sh (.str (List.replicate n.toNat x).flatten)) else none
 | p,q=>oMul p q
end FL
end
section
namespace FL
open PySem PySem.Spec PyProof.Rows L2
section
variable {X:Cx} {K:W.Frag}
theorem zdn (x y:Str):Txt.contains x y=(findD x.cps.toList y.cps.toList).isSome:=by
 have h:=zhG x y
 unfold Txt.find at h
 unfold Txt.contains
 cases q:Builtin.Str.occurrences x y 0 x.length 1 with
 | nil=>
   rw [q] at h
   cases e:findD x.cps.toList y.cps.toList with
   | none=>rfl
   | some i=>rw [e] at h; have h':(-1:Int)=(i:Int):=h; lia
 | cons i r=>
   rw [q] at h
   cases e:findD x.cps.toList y.cps.toList with
   | none=>rw [e] at h; have h':((i:Nat):Int)=-1:=h; lia
   | some i=>rfl
def rInS (neg:Bool):R2:=fun x y H Q=>∃ z u,x=.str z/\y=.str u/\Q (.bl (if neg then !(Txt.contains u z) else Txt.contains u z)) H
theorem zkl:OpR X (compareOp .In) (rInS false):=by
 intro pins s σ H x y v u Q I rx ry h
 obtain ⟨z,t,rfl,rfl,q⟩:=h
 obtain ⟨t1,rfl⟩:=rx
 obtain ⟨t2,rfl⟩:=ry
 exact SB.contains ⟨.bl _,H,I,rfl,q⟩
theorem zfQ:OpR X (compareOp .NotIn) (rInS true):=by
 intro pins s σ H x y v u Q I rx ry h
 obtain ⟨z,t,rfl,rfl,q⟩:=h
 obtain ⟨t1,rfl⟩:=rx
 obtain ⟨t2,rfl⟩:=ry
 exact SB.notContains ⟨.bl _,H,I,rfl,q⟩
def rInX (K:W.Frag) (neg:Bool):R2:=fun x y H Q=>rInAll K neg x y H Q\/rInS neg x y H Q
theorem zjB (hu:X.A.units + 32 < cLine):OpR X (compareOp .In) (rInX X.K false):=FL.OpR.or (zgp hu) zkl
theorem zcG (hu:X.A.units + 32 < cLine):OpR X (compareOp .NotIn) (rInX X.K true):=FL.OpR.or (zdf hu) zfQ
theorem zd1 (r1:Rep K H x p) (r2:Rep K H y q) (e:cInA p q=some k) (hq:Q (.bl (if neg then !k else k)) H):rInX K neg x y H Q:=by
 unfold cInA at e
 split at e
 ·split at e
  ·cases r1 with
   | str e1 z1=>cases r2 with
     | str e2 z2=>
       refine .inr ⟨_,_,rfl,rfl,?_⟩
       rw [zdn,e1,e2,qg e]
       exact hq
  ·cases e
 ·exact .inl (zh3 r1 r2 e hq)
theorem zgB:DoesC K (rInX K false) cInA:=fun H x y p q k Q r1 r2 e hq=>zd1 r1 r2 e hq
theorem zbY:DoesC K (rInX K true) cNotInA:=fun H x y p q k Q r1 r2 e hq=>by
 unfold cNotInA at e
 cases q1:cInA p q with
 | none=>rw [q1] at e; cases e
 | some b=>
   rw [q1] at e
   have e':(!b)=k:=qg e
   subst e'
   exact zd1 r1 r2 q1 hq
end
section
variable {K:W.Frag} {F H G:Hp} {σ:St} {U:Env}
theorem Rel.frzEnd (r:Rel K (U++[some s]) (σ++[some v]) F G H) (h:U.length=σ.length):∃ F',Same F F'/\Rel K (U++[some (.sh s.toD)]) (σ++[some v]) F' G H:=by
 obtain ⟨u,F',e1,sm,rp,r'⟩:=r.give (i:=U.length) (s:=s) zap
 rw [show (U++[some s]).set U.length (some (S.sh s.toD))=U++[some (S.sh s.toD)] from zbr] at r'
 exact ⟨F',sm,r'⟩
end
section
variable {X:Cx} {e:Expr} {we:WE} {ks:List Nat} {st:Stmt} {w:WS}
theorem zcD (he:FE X e we):FE X e (wFrz we):=fun pn xe hp=>by
 refine PE.imp (he pn xe hp) fun σ H Q q=>?_
 obtain ⟨F,G,U,P,PX,rel,hw,hok,hx⟩:=q
 refine ⟨F,G,U,_,PX,rel,hw,fun r U1 v F1 H1 hk s1 r1 rv=>?_,hx⟩
 obtain ⟨⟨s,U2⟩,eg,hk⟩:=zae hk
 obtain ⟨F2,s2,l2,r2⟩:=giveR (U':=[]) (σ':=[]) r1 (len1 r1) rv eg
 obtain ⟨F3,s3,r3⟩:=Rel.frzEnd r2 (len1 r2)
 exact hok _ U2 v F3 H1 hk (s1.trans (s2.trans s3)) r3 trivial
end
section
variable {X:Cx} {K:W.Frag} {F H G:Hp}
theorem RepE.dct (r:RepE K F H v (.dct t ks vs)) (sm:Same F H):∃ a,v=.ref a/\((∃ kvs,t=false/\Rd H a (.dK kvs)/\ks=kvs.map (fun p=>keyD p.1)/\Reps K F (kvs.map (·.2)) vs)\/
  ∃ kvs,t=true/\Rd H a (.dT kvs)/\ks=kvs.map (fun p=>D.tup (p.1.map keyD))/\Reps K F (kvs.map (·.2)) vs):=by
 rcases r with r | ⟨a,xs,ds,e1,e2,e3,r⟩ | ⟨a,kvs,ks',vs',e1,e2,e3,e4,r⟩ | ⟨a,kvs,ks',vs',e1,e2,e3,e4,r⟩
 ·cases r with
  | dK e k r=>exact ⟨_,rfl,.inl ⟨_,rfl,Rd.mono sm e,k,r⟩⟩
  | dT e k r=>exact ⟨_,rfl,.inr ⟨_,rfl,Rd.mono sm e,k,r⟩⟩
 ·cases e2
 ·cases e2
  exact ⟨a,e1,.inl ⟨kvs,rfl,.inl e3,e4,r⟩⟩
 ·cases e2
  exact ⟨a,e1,.inr ⟨kvs,rfl,.inl e3,e4,r⟩⟩
end
end FL
end
section
namespace FL
open PySem PySem.Spec PyProof.Rows
end FL
end
section
namespace FL
open PySem PySem.Spec PyProof.Rows L2
theorem zfn (h1:-1000000000000 < i) (h2:i < 1000000000000):i.natAbs.log2 < 40:=by
 have:i.natAbs < 2 ^ 40:=by lia
 by_cases h0:i.natAbs=0
 ·rw [h0]; decide
 ·exact (Nat.log2_lt h0).mpr this
mutual
theorem zfH:∀ d:D,okSh d=true->showD d=true
 | .non,_=>rfl
 | .bl _,_=>rfl
 | .int i,h=>by
   have h':(decide (-1000000000000 < i) && decide (i < 1000000000000))=true:=h
   rw [and_eq_true,decide_eq_true_eq,decide_eq_true_eq] at h'
   have:=zfn h'.1 h'.2
   show decide (i.natAbs.log2 < 1920)=true
   rw [decide_eq_true_eq]; lia
 | .str _,_=>rfl
 | .tup l,h=>zbt l h
 | .lst l,h=>zbt l h
 | .dct _ _ _,h=>by cases h
 | .set _,h=>by cases h
 | .exc _ _ _,h=>by cases h
theorem zbt:∀ l:List D,okShs l=true->showDs l=true
 | [],_=>rfl
 | d::r,h=>by
   rw [okShs,and_eq_true] at h
   rw [showDs,zfH d h.1,zbt r h.2]
   rfl
end
mutual
theorem zdt:∀ d:D,okSh d=true->(toPy d).leavesShort 13=true
 | .non,_=>rfl
 | .bl _,_=>rfl
 | .int i,h=>by
   have h':(decide (-1000000000000 < i) && decide (i < 1000000000000))=true:=h
   rw [and_eq_true,decide_eq_true_eq,decide_eq_true_eq] at h'
   have:=int_text_length_le10 (a:=i) (k:=12) (by decide) (by lia)
   simp only [toPy,PyData.leavesShort,decide_eq_true_eq]
   show (Str.ofString (toString i)).length<=13
   rw [PySem.ofString_length]
   exact this
 | .str l,h=>by
   have h':(l.all fun c=>decide (c < 1114112))=true:=h
   simp only [toPy,PyData.leavesShort,all_eq_true,decide_eq_true_eq] at h' ⊢
   intro c hc
   have:=h' c (by simpa using hc)
   lia
 | .tup l,h=>by
   simp only [toPy,PyData.leavesShort]
   exact zaU l h
 | .lst l,h=>by
   simp only [toPy,PyData.leavesShort]
   exact zaU l h
 | .dct _ _ _,h=>by cases h
 | .set _,h=>by cases h
 | .exc _ _ _,h=>by cases h
theorem zaU:∀ l:List D,okShs l=true->PyData.leavesShortAll 13 (toPys l)=true
 | [],_=>rfl
 | d::r,h=>by
   rw [okShs,and_eq_true] at h
   simp only [toPys,PyData.leavesShortAll,and_eq_true]
   exact ⟨zdt d h.1,zaU r h.2⟩
end
mutual
theorem zdw:∀ d:D,okSh d=true->(toPy d).weight<=wtD d
 | .non,_=>le_refl _
 | .bl _,_=>le_refl _
 | .int i,h=>by
   have h':(decide (-1000000000000 < i) && decide (i < 1000000000000))=true:=h
   rw [and_eq_true,decide_eq_true_eq,decide_eq_true_eq] at h'
   have:=zfn h'.1 h'.2
   simp only [toPy,PyData.weight,wtD]
   split <;> lia
 | .str l,h=>by simp [toPy,PyData.weight,wtD]
 | .tup l,h=>by
   simp only [toPy,PyData.weight,wtD]
   exact zaR l h
 | .lst l,h=>by
   simp only [toPy,PyData.weight,wtD]
   exact zaR l h
 | .dct _ _ _,h=>by cases h
 | .set _,h=>by cases h
 | .exc _ _ _,h=>by cases h
theorem zaR:∀ l:List D,okShs l=true->PyData.weightAll (toPys l)<=wtDs l
 | [],_=>le_refl _
 | d::r,h=>by
   rw [okShs,and_eq_true] at h
   have h1:=zdw d h.1
   have h2:=zaR r h.2
   simp only [toPys,PyData.weightAll,wtDs]
   lia
end
section
variable {X:Cx} {K:W.Frag} {a b:Expr} {wa wb:WE} {pos:Pos}
theorem zcP (a:Array Nat):∀ (n:Nat) (b:Array Nat),((List.replicate n a).foldl (·++·) b).toList=b.toList++(List.replicate n a.toList).flatten
 | 0,b=>by simp
 | n + 1,b=>by
   rw [List.replicate_succ,List.foldl_cons,zcP a n,List.replicate_succ,List.flatten_cons,toList_append,append_assoc]
theorem zkh (h0:0<=n):(Txt.mul x n).cps.toList=(List.replicate n.toNat x.cps.toList).flatten:=by
 unfold Txt.mul
 by_cases h1:n < 1
 ·rw [if_pos h1,show n=0 by lia]; rfl
 ·rw [if_neg h1]
  by_cases h2:(n == 1 || x.length == 0)=true
  ·rw [if_pos h2]
   rw [or_eq_true,beq_iff_eq,beq_iff_eq] at h2
   rcases h2 with h2 | h2
   ·subst h2; simp
   ·have:x.cps.toList=[]:=by
     have e:x.cps.size=0:=h2
     rw [<- List.length_eq_zero_iff,length_toList]; exact e
    rw [this]; simp
  ·rw [if_neg h2]
   show ((List.replicate n.toNat x.cps).foldl (·++·) #[]).toList=_
   rw [zcP]; simp
def rMulS:R2:=fun x y H Q=>∃ z n,x=.str z/\y=.int n/\0<=n/\n<=1000/\z.length<=500/\Q (.str (Txt.mul z n)) H
theorem zh5:OpR X (binaryOp .Mult) rMulS:=by
 intro pins s σ H x y v u Q I rx ry h
 obtain ⟨z,n,rfl,rfl,h0,h1,hz,q⟩:=h
 obtain ⟨t,rfl⟩:=rx
 obtain ⟨t',rfl⟩:=ry
 refine SB.mul ⟨?_,fun h _=>?_,fun h _=>?_⟩ fun t2 k=>⟨.str _,H,I.kept fun _ _ z=>z,⟨_,rfl⟩,q⟩
 ·grind
 ·have h3:(9223372036854775807:Int) / 1000<=(2 ^ 63 - 1) / n:=by
   rw [Int.le_ediv_iff_mul_le (by lia)]
   grind
  grind
 ·have h4:z.length * n.toNat<=500 * 1000:=Nat.mul_le_mul hz (by lia)
  simp only [Builtin.Str.tooLong,decide_eq_false_iff_not,sizeLine_eq]
  lia
theorem ze7:Does K (fun x y H Q=>(rI CMul fun i j=>.int (i * j)) x y H Q\/rMulS x y H Q) oMulA:=by
 intro σ U F G H x y p q s Q rel rx ry e hq
 unfold oMulA at e
 split at e
 ·rename_i l n
  split at e
  ·rename_i hc
   cases e
   obtain ⟨h0,h1,hz⟩:=hc
   obtain ⟨z,rfl,e1,_⟩:=rx.str
   have ey:y=.int n:=by
    rcases ry with ry | ⟨_,_,_,_,e,_⟩ | ⟨_,_,_,_,_,e,_⟩ | ⟨_,_,_,_,_,e,_⟩
    ·cases ry; rfl
    ·cases e
    ·cases e
    ·cases e
   subst ey
   have hzl:z.length=l.length:=by rw [<- e1,length_toList]; rfl
   refine .inr ⟨z,n,rfl,rfl,h0,h1,by lia,?_⟩
   refine hq _ F H (Same.refl F) (rel.push (.str ?_ ?_))
   ·rw [zkh h0,e1]
   ·have h4:n.toNat * l.length<=1000 * 500:=Nat.mul_le_mul (by lia) hz
    have e5:∀ m,((List.replicate m l).flatten).length=m * l.length:=fun m=>by simp [List.length_flatten]
    rw [e5]; lia
  ·cases e
 ·exact .inl (zgv σ U F G H x y _ _ s Q rel rx ry e hq)
theorem zaQ (ha:FE X a wa) (hb:FE X b wb):FE X (.BinOp a .Mult b pos) (wBin oMulA wa wb):=zb6 (fun _ _=>OpR.or zkT zh5) ze7 ha hb
end
end FL
end
section
namespace FL
end FL
end
section
namespace FL
open PySem PySem.Spec PyProof.Rows L2
end FL
end
section
namespace FL
end FL
end
section
namespace FL
open PySem PySem.Spec PyProof.Rows L2
section
variable {X:Cx} {pins:List (Addr×Obj)} {σ:St} {H:Hp} {s:Shared} {a:Addr} {y v:V} {u r:Value} {A:Around} {E:Value->Shared->Prop}
theorem ze4 (hu:A.units < cLine) (I:Inv X pins σ H s) (g:DPut H a y v H') (ry:RelV y u) (rv:RelV v r) (h:∀ s',Inv X pins σ H' s'->Q () s'):
  wpAny (model X.prog X.w) A (dictSet a u r) Q E s:=by
 rcases g with ⟨kvs,k,e,ey,l,eH⟩ | ⟨kvs,k,b,e,ey,eb,l,eH⟩
 ·subst ey eH
  obtain ⟨z,hd,vs,rel,dd⟩:=zjd I.hok e
  refine wpAny_dictSet_pairs (hsz:=by rw [<- rel.length]; exact z) (zfA ry) dd fun h' dd' hs=>h _ ?_
  exact zcv I (by rw [e]; exact True.intro) hs (let ⟨q,_,_,hq,_⟩:=dd'; ⟨q,hq⟩) (zhc (by have:=zaJ kvs k v; lia) hd (rel.put k rv) dd')
 ·subst ey eH
  cases (show u=Value.ref b from ry)
  obtain ⟨z,hd,xs,rel,dd⟩:=ziZ I.hok e
  refine wpAny_dictSet_heap (hsz:=by rw [<- Paired.length rel]; exact z) hu (zb7 I.hok eb) dd fun h' dd' hs=>h _ ?_
  obtain ⟨q,es,ep,hq,h2,h3,h4,_,h5⟩:=dd'
  refine zcv I (by rw [e]; exact True.intro) hs ⟨q,hq⟩ ⟨by have:=zaJ kvs k v; lia,hd,_,(rel.put k eb rv).keeps fun c ys ec=>?_,q,es,ep,hq,h2,h3,h4,h5⟩
  rw [zaf (zjw ec e (fun z=>nomatch z))]
  exact ec
end
section
variable {X:Cx} {pos:Pos}
theorem ziN (hr:Room k A):A.units < cLine:=Nat.lt_of_succ_lt (zig hr)
end
end FL
end
section
namespace FL
end FL
end
section
namespace FL
open PySem PySem.Spec PyProof.Rows L2
def dO (K:W.Frag) (f:Addr):FuncData:=match K.lookup f with
 | some ⟨_,_,.func d,_⟩=>d
 | _=>default
theorem zjZ {K:W.Frag} (l:K.lookup f=some ⟨oc,od,.func d,sl⟩):dO K f=d:=by unfold dO; rw [l]
inductive Lk (K:W.Frag) (n:Str) (st:Stmt) (f:Addr):Prop
 | mk {oc kV dc pm cd ct:Value} {od an:Option Addr} {sl:Array (Option Value)} (a:W.nsIn K mainGlobals n=some (some (.ref f))) (l:K.lookup f=some ⟨oc,od,.func (W.fnOf n n (defArgs st) (defBody st) (defScope st) .none kV dc pm an cd ct),sl⟩)
   (c:W.codeIn K cd n=true) (k:W.keepIn K (.ref f)=true):Lk K n st f
structure Tx (K:W.Frag) (mg:Str->Option Value) (f:Addr) (n:Str) (st:Stmt) (ps:List Str):Prop where
 F:Fun K n n st f (dO K f)
 m:mg n=some (.ref f)
 k:W.keepIn K (.ref f)=true
 b:Binds K (dO K f) ps []
def Bd0 (n:Str) (st:Stmt) (ps:List Str):Prop:=∀ (kV doc pm:Value) (an:Option Addr) (cdv ct:Value) (us:List Value),us.length=ps.length->bindArgs (W.fnOf n n (defArgs st) (defBody st) (defScope st) .none kV doc pm an cdv ct) ⟨us,[]⟩=pure (ps.zip us)
section
variable {K:W.Frag} {mg:Str->Option Value} {f:Addr} {n:Str} {st:Stmt} {ps:List Str} {h:Heap}
theorem Lk.mm (t:Lk K n st f) (X:K.In h) (G:h.Ns mainGlobals mg):mg n=some (.ref f):=by
 obtain ⟨a,l,c,k⟩:=t
 exact W.mg_of X G a
theorem Lk.tx (t:Lk K n st f) (X:K.In h) (G:h.Ns mainGlobals mg) (b:Bd0 n st ps:=by intro _ _ _ _ _ _ us hl; first | (obtain ⟨_,rfl⟩:=vlen1 (l:=us) hl; rfl) | (obtain ⟨_,_,rfl⟩:=vlen2 (l:=us) hl; rfl) | (obtain ⟨_,_,_,rfl⟩:=vlen3 (l:=us) hl; rfl) | (obtain ⟨_,_,_,_,rfl⟩:=vlen4 (l:=us) hl; rfl) | (obtain ⟨_,_,_,_,_,rfl⟩:=vlen5 (l:=us) hl; rfl)):Tx K mg f n st ps:=by
 obtain ⟨a,l,c,k⟩:=t
 have e:=zjZ l
 have F:=zkE l c k
 refine ⟨?_,W.mg_of X G a,k,?_⟩
 ·rw [e]; exact F
 ·rw [e]; exact F.binds b
theorem Lk.bt (t:Lk K n st f) (s:Shared) (v:Value) (b:Bd0 n st [x]:=by intro _ _ _ _ _ _ us hl; obtain ⟨_,rfl⟩:=vlen1 (l:=us) hl; rfl):BindsTo s (dO K f) ⟨[v],[]⟩ [(x,v)]:=by
 obtain ⟨a,l,c,k⟩:=t
 have e:=zjZ l
 rw [e]
 exact .of_eq (b _ _ _ _ _ _ [v] rfl)
end
section
variable {X:Cx} {ks:List Nat} {pos:Pos} {x:Str}
theorem fw (i:Nat) (hN:X.N[i]?=some x:=by rfl) (hv:Vis X.env.scope x:=by first | exact Or.inl rfl | exact Or.inr (Or.inl rfl) | exact Or.inr (Or.inr rfl)) (hd:(x == ("__debug__":Str))=false:=by decide)
  (hcd:(x == ("__classdict__":Str))=false:=by decide):FE X (.Name x pos) (wVar i):=ziD hN hv hd hcd
theorem gnm (i:Nat) (hnd:X.N.Nodup) (hk:i∉ks:=by decide) (hi:X.N[i]?=some x:=by rfl) (hx:Loc X.env.scope x:=by first | exact Or.inl rfl | exact Or.inr rfl) (hf:X.fn x=true\/X.env.scope.names.lookup x=some .local:=by exact Or.inl rfl):FG X ks (.Name x pos) (FL.gName i):=zeR hk (fun j hj=>zcm hnd hj hi) hi hx hf
theorem gcm (i:Nat) (hk:i∉ks:=by decide) (hu:(X.N.zipIdx.all fun p=>!(p.1 == x) || p.2 == i)=true:=by kernel_rfl) (hi:X.N[i]?=some x:=by rfl) (hx:Loc X.env.scope x:=by first | exact Or.inl rfl | exact Or.inr rfl) (hf:X.fn x=true\/X.env.scope.names.lookup x=some .local:=by first | exact Or.inr rfl | exact Or.inl rfl):FG X ks (.Name x pos) (FL.gName i):=zeR hk (uq hu) hi hx hf
variable {k j n:Nat} {f:Addr} {ps:List Str} {st:Stmt} {wf:WF} {wa:WA} {e:Expr} {es:List Expr} {p:Pos}
theorem fcl (ms:List Bool) (t:Tx X.K X.mg f x st ps) (Fk:FnOk X.prog X.w X.K X.mg X.base (CXe X.prog X.w) k f (dO X.K f) ps (spW X.K wf n)) (hr:Room j X.A) (ha:FA X (e::es) wa) (hj:k<=j:=by decide) (hg:Gl X x:=by rfl) (hlen:∀ ss P PX,wf ss P PX->ss.length=n:=by exact fun _ _ _ h=>h.1)
  (hdb:(x == ("__debug__":Str))=false:=by decide) (he:starEach (e::es) X.env=(false,eval e X.env)::starEach es X.env:=by rfl) (hpl:(backTo pos (starEach es X.env)).any (·.1)=false:=by rfl):
  FE X (.Call (.Name x p) (e::es) [] pos) (wCall wf ms wa):=zhP Fk (hr.mono hj) hg t.m t.k t.b ha hlen hdb he hpl
end
end FL
end
section
namespace FL
end FL
end
section
namespace FL
open PySem PySem.Spec PyProof.Rows L2
section
open PySem.W HT
variable {prog:Program} {w:World} {A:Around} {s:Shared} {b:Bool} {Q:Bool->Shared->Prop}
end
end FL
end
section
namespace FL
end FL
end
section
namespace FL
open PySem PySem.Spec PyProof.Rows L2
end FL
end
section
namespace TS
open PySem PyProof.Rows
end TS
end
section
namespace FL
open PySem PySem.Spec PyProof.Rows L2 PySem.W
end FL
end
section
namespace FL
open PySem PySem.Spec PyProof.Rows L2
open PySem.Builtin.Str (strSliceIndices)
end FL
end
section
namespace FL
open PySem PySem.Spec PyProof.Rows L2
end FL
end
section
namespace ST
open PySem
section
variable {prog:Program} {w:World} {A:Around} {E:Value->Shared->Prop} {s:Shared} {Q:Value->Shared->Prop}
variable {K:Type} [DecidableEq K] {knd:KeyKind prog w K} {a:Addr} {xs:List (K×Value)} {ld:Bool}
end
end ST
namespace FL
open PySem PySem.Spec PyProof.Rows L2
end FL
end
section
namespace FL
def wPop (j:Nat):WE:=fun U Q _=>match slot U j with
 | some (.lst l)=>need l[l.length - 1]? fun s=>Q (.v s) (U.set j (some (.lst l.dropLast)))
 | _=>False
def wDispT (k v:WE):WE:=fun U Q E=>k U (fun x U1=>v U1 (fun y U2=>need (view x U2) fun q=>need (give y U2) fun p=>isKey true q=true/\Q (.v (.dct true [q] [p.1])) p.2) E) E
def isIT:D->Bool
 | .tup l=>(intsD l).isSome
 | _=>false
def bListD:List D->Option S
 | [.dct true ks _]=>if ks.length<=big/\ks.all isIT=true then some (.lst (ks.map .sh)) else none
 | _=>none
def bDict1:List D->Option S
 | [.lst [.tup [k,v]]]=>if isKey true k=true then some (.dct true [k] [.sh v]) else none
 | _=>none
end FL
end
section
namespace FL
open PySem PySem.Spec PyProof.Rows L2
section
variable {X:Cx} {pos tpos:Pos}
theorem zg3 {j:Nat} {o:Expr} {apos cpos:Pos} (ho:FE X o (wVar j)) (hbase:attributeBase o "pop" X.env (eval o X.env)=eval o X.env:=by rfl) (hline:(apos.endLine == cpos.line)=true:=by rfl):
  FE X (.Call (.Attribute o "pop" apos) [] [] cpos) (wPop j):=fun pn xe hp=>by
 refine PE.imp (zja (X:=wp X pn xe) PySem.F.plainAttrs_list PySem.F.slot_list_pop PySem.F.type_list_pop ziF (ho pn xe hp) hbase hline) fun σ H Q q=>?_
 obtain ⟨F,G,U,P,PX,rel,hw,hok,hx⟩:=q
 have hw':(match slot U j with
  | some (.lst l)=>need l[l.length - 1]? fun s=>P (.v s) (U.set j (some (.lst l.dropLast)))
  | _=>False):=hw
 cases qs:slot U j with
 | none=>rw [qs] at hw'; exact hw'.elim
 | some s0=>
   cases s0 with
   | lst l0=>
     rw [qs] at hw'
     obtain ⟨s,es,hk⟩:=zae hw'
     refine ⟨F,G,U,fun y U1=>y=.loc j/\U1=U,PX,rel,by unfold wVar; rw [qs]; exact ⟨rfl,rfl⟩,fun y U1 o' F1 H1 hk1 s1 r1 rv=>?_,hx⟩
     obtain ⟨rfl,rfl⟩:=hk1
     have l1:=len1 r1
     have hσ:σ[j]?=some (some o'):=rv
     have r2:=r1.drop l1
     obtain ⟨v',fp,e1,sr⟩:=r2.at qs
     rw [hσ] at e1
     have e2:o'=v':=by simpa using e1
     subst e2
     cases sr with
     | lst hD rl=>
       rename_i a xs fl
       obtain ⟨ys,y,hD2,hlen,hy,r5⟩:=Rel.popItem r2 qs hσ es
       rw [hD] at hD2
       cases hD2
       rw [zbs,<- hlen,zbs] at r5
       exact ⟨.inl ⟨rfl,_,SqL.of hD⟩,a,xs,y,rfl,rfl,hD,by rw [hlen]; exact hy,hok _ _ y F1 _ hk s1 r5 trivial⟩
   | _=>rw [qs] at hw'; exact hw'.elim
end
section
variable {prog:Program} {w:World} {A:Around} {E:Value->Shared->Prop} {s:Shared} {env:PySem.Env}
theorem zgg {k v:Expr} {pos:Pos} {Q:Value->Shared->Prop}
  (h:wpAny (model prog w) A (eval k env) (fun kv s1=>wpAny (model prog w) A (eval v env) (fun vv s2=>wpAny (model prog w) A (dictSet s.heap.objs.size kv vv) (fun _ s3=>Q (.ref s.heap.objs.size) s3) E s2) E s1) E
   { s with heap:=s.heap.push { cls:=.type "dict",data:=.dict #[] } }):wpAny (model prog w) A (eval (.Dict [some k] [v] pos) env) Q E s:=by
 rw [arm_eval_Dict,zip_pairTrees [some k] [v] env pos rfl rfl,dictDisplay_pairs (pairTrees [some k] [v] env pos) (by intro z; cases z) (by show 1 < 17; decide)]
 refine qa (wpAny_standAt (qa ?_))
 unfold subDict
 refine qa (wpAny_alloc (qa (wpAny_holding ?_)))
 rw [if_pos (by show 1<=15; decide)]
 refine qa (pairTrees_cons_walk (wpAny_mono h (fun kv s1 h1=>wpAny_mono h1 (fun vv s2 h2=>pairTrees_nil_walk ?_) fun _ _ e=>e) fun _ _ e=>e))
 refine wpAny_holding ?_
 refine qa ?_
 rw [List.forIn_cons]
 refine qa (qa (wpAny_mono h2 (fun _ s3 h3=>?_) fun _ _ e=>e))
 refine qb ?_
 simp only [List.forIn_nil]
 exact qb (qb (qb (qb h3)))
end
section
variable {X:Cx} {pos:Pos}
def tDispT (tk tv:TE):TE:=fun σ H Q=>∀ p,H p=none->tk σ (upd H p (.dT [])) fun x H1=>tv σ H1 fun y H2=>∃ H3,DPut H2 p x y H3/\Q (.ref p) H3
theorem zgF {k v:Expr} {tk tv:TE} (hu:X.A.units < cLine) (hk:PE X k tk) (hv:PE X v tv):PE X (.Dict [some k] [v] pos) (tDispT tk tv):=by
 intro pins s σ H Q I q
 have hn:=I.hok.fresh (le_refl s.heap.objs.size)
 have I1:=I.laid (a:=s.heap.objs.size) (o:=.dT []) (h':=s.heap.push { cls:=.type "dict",data:=.dict #[] }) (t':=s.toks) (fun _ _ q=>qc _ q) (le_refl _) (zf6 s.heap I.big)
 exact zgg (wpAny_mono (hk pins _ σ _ _ I1 (q _ hn)) (fun kv s1 ⟨x,H1,I2,rv,q1⟩=>wpAny_mono (hv pins s1 σ H1 _ I2 q1) (fun vv s2 ⟨y,H2,I3,ru,H3,dp,q2⟩=>ze4 hu I3 dp rv ru fun s' I'=>⟨.ref _,H3,I',rfl,q2⟩) fun _ _ e=>e) fun _ _ e=>e)
theorem zfZ {k v:Expr} {wk wv:WE} (hu:X.A.units < cLine) (hk:FE X k wk) (hv:FE X v wv):FE X (.Dict [some k] [v] pos) (wDispT wk wv):=fun pn xe hp=>by
 refine PE.imp (zgF (X:=wp X pn xe) hu (hk pn xe hp) (hv pn xe hp)) fun σ H Q q=>?_
 obtain ⟨F,G,U,P,PX,rel,hw,hok,hx⟩:=q
 intro p hp
 have r0:=Rel.newO (s:=.dct true [] []) rel hp (.dT (kvs:=[]) zai rfl .nil)
 obtain ⟨G0,rel0,g0,back0⟩:=r0.hide (len1 r0)
 refine ⟨F,G0,U,_,PX,rel0,hw,fun rx U1 vx F1 H1 hk1 s1 r1 rv1=>?_,hx.mono (fun _ z=>z) (Same.refl F) g0⟩
 have l1:=len1 r1
 obtain ⟨G1,rel1,g1,back1⟩:=r1.hide l1
 refine ⟨F1,G1,U1,_,PX,rel1,hk1,fun ry U2 vy F2 H2 hk2 s2 r2 rv2=>?_,hx.mono (fun _ z=>z) s1 (g0.trans g1)⟩
 have l2:=len1 r2
 obtain ⟨q,eq,hk3⟩:=zae hk2
 obtain ⟨⟨t,U3⟩,eg,hkey,hk4⟩:=zae hk3
 have r3:=back0 (s1.trans s2) (back1 s2 r2)
 simp only [append_assoc,cons_append,nil_append] at r3
 obtain ⟨F3,s3,l3,r4⟩:=giveR (U':=[slotOf rx,some (.dct true [] [])]) (σ':=[some vx,some (.ref p)]) r3 l2 rv2 eg
 have r3':Rel X.K (U2++slotOf rx::[some (.dct true [] [])]) (σ++some vx::[some (.ref p)]) F2 G H2:=r3.mid l2
 have rq:=look (U':=[some (.dct true [] [])]) (σ':=[some (.ref p)]) r3' l2 rv1 eq
 have l3':U3.length=σ.length:=l3.trans l2
 have r5:Rel X.K (U3++[some t,some (.dct true [] [])]) (σ++[some vy,some (.ref p)]) F3 G H2:=by
  have:=Rel.mid (U:=U3++[some t]) (σ:=σ++[some vy]) (U':=[some (.dct true [] [])]) (σ':=[some (.ref p)]) (o:=slotOf rx) (w:=some vx) (by simpa using r4) (by simp [l3'])
  simpa using this
 have r6:=Rel.swap (U1:=[some t]) (σ1:=[some vy]) (U2:=[some (.dct true [] [])]) (σ2:=[some (.ref p)]) l3' rfl r5
 have r7:Rel X.K ((U3++[some (.dct true [] [])])++[some t]) ((σ++[some (.ref p)])++[some vy]) F3 G H2:=by simpa using r6
 have hs7:slot (U3++[some (.dct true [] [])]) U3.length=some (.dct true [] []):=zap (U':=[])
 have hσ7:(σ++[some (V.ref p)])[U3.length]?=some (some (.ref p)):=by rw [l3']; simp
 obtain ⟨H',dp,r8⟩:=Rel.dput r7 hs7 hσ7 rq hkey .nil (by decide)
 have e9:(U3++[some (S.dct true [] [])]).set U3.length (some (dputS true [] [] q t))=U3++[some (.dct true [q] [t])]:=zbr (U':=[])
 rw [e9] at r8
 exact ⟨H',dp,hok _ U3 _ F3 _ hk4 (s1.trans (s2.trans s3)) r8 trivial⟩
end
section
variable {K:W.Frag} {F G H:Hp} {U:Env} {σ:St}
theorem Rel.growT (r:Rel K U σ F G H) (bs:List Addr) (hb:∀ b∈bs,∃ xs,H b=some (.tup xs)):∃ F',Same F F'/\Rel K U σ F' G H/\∀ b∈bs,F' b=H b:=by
 obtain ⟨fp,e,nd,ap⟩:=r.en
 have sm:Same F fun a=>(F a).or (if a∈bs then H a else none):=fun a o q=>by simp only [q,some_or]
 have key:∀ {a o},H a=some o->noTup o=true->F a=none->(F a).or (if a∈bs then H a else none)=none:=fun {a o} h1 h2 h3=>by
  rw [h3,none_or,if_neg]
  intro z
  obtain ⟨xs,q⟩:=hb a z
  rw [h1] at q
  cases q
  cases h2
 refine ⟨_,sm,⟨fun a o q=>?_,fun a o q=>?_,fp,e.mono sm fun _ _=>rfl,nd,fun a ha=>?_⟩,fun b hb'=>?_⟩
 ·cases qf:F a with
  | some u=>rw [qf,some_or] at q; cases q; exact r.fr a _ qf
  | none=>
    rw [qf,none_or] at q
    split at q
    ·exact q
    ·cases q
 ·obtain ⟨⟨h1,h2⟩,h3⟩:=r.gr a o q
  exact ⟨⟨h1,h2⟩,key h1 h2 h3⟩
 ·obtain ⟨o,h1,h2⟩:=e.in_ a ha
  exact ⟨key h1 h2 (ap a ha).1,(ap a ha).2⟩
 ·cases qf:F b with
  | some u=>rw [some_or,r.fr b u qf]
  | none=>rw [none_or,if_pos hb']
end
section
variable {X:Cx} {K:W.Frag}
def rListD:List V->Hp->VK->Prop:=fun xs H Q=>∃ a,∃ kvs:List (List Key×V),xs=[.ref a]/\Rd H a (.dT kvs)/\∀ bs:List Addr,bs.length=kvs.length->(∀ (i:Nat) (b:Addr) (kv:List Key×V),bs[i]?=some b->kvs[i]?=some kv->H b=some (.tup (kv.1.map kV)))->
 ∀ p,H p=none->Q (.ref p) (upd H p (.lst (bs.map .ref)))
theorem zev {α β:Type} {R:α->β->Prop} {l:List α} {m:List β} (r:Paired R l m) {i:Nat} {x:α} {y:β} (h1:l[i]?=some x) (h2:m[i]?=some y):R x y:=by
 induction r generalizing i with
 | nil=>cases h1
 | cons a b ih=>
   cases i with
   | zero=>cases h1; cases h2; exact a
   | succ i=>exact ih h1 h2
theorem zd9 (hc:X.calm=true):CallR X (.type "list") rListD:=by
 intro pins s σ H xs us Q I r h
 obtain ⟨a,kvs,rfl,hq,q⟩:=h
 obtain ⟨u,rfl,rx⟩:=vals1 r
 cases (show u=Value.ref a from rx)
 obtain ⟨z,hm,ys,kt,o,es,ep,h1,h2,h3,h4,h5,h6⟩:=zf2 I.hok hq
 have hl:=Paired.length kt
 have hes:es.size=ys.length:=by rw [<- length_toList,h4,length_map]
 refine W.kdl_call (ST.raw_src (es:=es) (ep:=ep) hm) (I.ok.hd hc) ⟨o,h1,h2,h3⟩ (by rw [hes,<- hl]; exact z) fun h' tk acc' c' hk hS' hacc=>?_
 have hv:Vals ((ys.map (·.2.1)).map .ref) acc'.toList:=za4 (by simp [hacc.1,hes]) fun j y v e1 e2=>by
  obtain ⟨hj,rfl⟩:=hacc.2 j v (by rw [<- getElem?_toList]; exact e2)
  have e3:(ys.map (entryOfKey (tupleKind (mixKind X.prog X.w))))[j]?=some es[j]:=by rw [<- h4,getElem?_toList,Array.getElem?_eq_getElem hj]
  rw [getElem?_map,map_eq_some_iff] at e3
  obtain ⟨w,e4,e5⟩:=e3
  rw [getElem?_map,getElem?_map,e4] at e1
  cases e1
  rw [<- e5]
  exact rfl
 have e7:((ys.map (·.2.1)).map V.ref).length<=sizeLine:=by rw [length_map,length_map,<- hl]; exact z
 refine ⟨.ref s.heap.objs.size,_,I.laid (t':=tk) hk (le_refl _) (show ObjOk X.prog X.w _ h' _ (.lst ((ys.map (·.2.1)).map V.ref)) from ⟨e7,acc'.toList,c',hv,by simpa using hS'⟩),rfl,q _ (by rw [length_map,hl]) (fun i b kv e1 e2=>?_) _ (I.hok.fresh (le_refl _))⟩
 rw [getElem?_map,map_eq_some_iff] at e1
 obtain ⟨w,e3,rfl⟩:=e1
 exact (zev kt e2 e3).2.1
theorem intKeys (F:Hp):∀ ks:List Key,(intsD (ks.map keyD)).isSome=true->Reps K F (ks.map kV) (ks.map keyD)
 | [],_=>.nil
 | .inl i::ks,h=>.cons (.int i) (intKeys F ks (by
   have h':((intsD (ks.map keyD)).map (i::·)).isSome=true:=h
   rwa [isSome_map] at h'))
 | .inr x::ks,h=>nomatch h
theorem zer:DoesB K rListD bListD:=by
 intro σ U F G H vs ds s Q rel re e hq
 obtain ⟨d,v,rfl,rfl⟩:=arg1 (fun x y r=>by rcases x with _ | _ | _ | _ | _ | _ | ⟨_ | _,_,_⟩ <;> rfl) rfl re e
 cases d with
 | dct t ks vs=>
   cases t with
   | false=>cases e
   | true=>
     have e:(if ks.length<=big/\ks.all isIT=true then some (S.lst (ks.map .sh)) else none)=some s:=e
     split at e
     ·rename_i hb
      cases e
      obtain ⟨a,rfl,⟨_,z,_⟩ | ⟨kvs,_,h1,rfl,h2⟩⟩:=re.1.dct rel.fr
      ·cases z
      ·refine ⟨a,kvs,rfl,h1,fun bs hl hB p hp=>?_⟩
       have hT:∀ b∈bs,∃ xs,H b=some (.tup xs):=fun b hb'=>by
        obtain ⟨i,hi⟩:=List.mem_iff_getElem?.mp hb'
        have hlt:=(qh.mp hi).1
        exact ⟨_,hB i b kvs[i] hi (getElem?_eq_getElem (hl ▸ hlt))⟩
       obtain ⟨F',sm,r',hF⟩:=rel.growT bs hT
       have hr:Reps K F' (bs.map V.ref) (kvs.map fun p=>D.tup (p.1.map keyD)):=by
        have hall:=hb.2
        clear hq h2 h1 hb hT e re
        induction bs generalizing kvs with
        | nil=>cases kvs with
          | nil=>exact .nil
          | cons=>cases hl
        | cons b bs ih=>cases kvs with
          | nil=>cases hl
          | cons kv kvs=>
            rw [map_cons,all_cons,and_eq_true] at hall
            refine .cons (.tup (xs:=kv.1.map kV) ((hF b qo).trans (hB 0 b kv rfl rfl)) (intKeys F' kv.1 hall.1)) (ih kvs (by simpa using hl) (fun i b' kv' e1 e2=>hB (i + 1) b' kv' e1 e2) (fun b' hb'=>hF b' (qm _ hb')) hall.2)
       exact hq (.ref p) F' _ sm (r'.newLD hp hr)
     ·cases e
 | _=>cases e
theorem zgN (hc:X.calm=true) (hg:Gl X "list") (hm:X.mg "list"=none) (hv:bootBuiltins "list"=some (.type "list")) (ha:FA X (e::es) wa) (he:starEach (e::es) X.env=(false,eval e X.env)::starEach es X.env:=by rfl) (hpl:(backTo pos (starEach es X.env)).any (·.1)=false:=by rfl):FE X (.Call (.Name "list" p) (e::es) [] pos) (wB bListD wa):=
 zaS (fun pn xe=>zd9 (X:=wp X pn xe) hc) zer hg hm hv ha (by decide) (by decide) he hpl
end
section
variable {X:Cx} {K:W.Frag}
def rDict1 (K:W.Frag):List V->Hp->VK->Prop:=fun xs H Q=>∃ l t b k v,xs=[.ref l]/\SqL K H l [.ref t]/\H t=some (.tup [.ref b,v])/\H b=some (.tup (k.map kV))/\∀ p,H p=none->Q (.ref p) (upd H p (.dT [(k,v)]))
theorem ziw:bootBuiltins "dict"=some (.type "dict"):=by decide +kernel
theorem zeo (hr:Room k X.A):CallR X (.type "dict") (rDict1 X.K):=by
 intro pins s σ H xs us Q I r h
 obtain ⟨l,t,b,k,v,rfl,hl,ht,hb,q⟩:=h
 obtain ⟨u,rfl,rx⟩:=vals1 r
 cases (show u=Value.ref l from rx)
 have hu:X.A.units + 20 < cLine:=by have:=hr.units; lia
 obtain ⟨its,rv,⟨⟨c0,d0,data,sl⟩,n,e1,rfl,rfl,rfl⟩,_⟩:=I.list hl
 cases rv with
 | cons r1 r2=>
 cases r2
 cases r1
 obtain ⟨_,its,rt,o,e2,e3,e4⟩:=(show ObjOk X.prog X.w H s.heap t _ from I.hok t _ ht)
 cases rt with
 | cons r1 r2=>
 cases r1
 cases r2 with
 | cons rw r2=>
 cases r2
 rename_i u
 obtain ⟨ob,kits,kn,k1,k2⟩:=zb7 I.hok hb
 have isK:∀ {h:Heap},(∀ b o,s.heap.get? b=some o->h.get? b=some o)->(tupleKind (mixKind X.prog X.w)).is h k b:=fun kp=>⟨ob,kits,kn,kp _ _ k1,k2⟩
 refine ST.call_dictL (B:=X.A.units + 20) (J:=fun i h=>(∀ b o,s.heap.get? b=some o->h.get? b=some o)/\h.DictOfH (tupleKind (mixKind X.prog X.w)) s.heap.objs.size (if i=0 then [] else [(k,b,u)])) hr.hd e1 (fun h e kp=>⟨kp,_,#[],0,e,⟨rfl,rfl,rfl⟩,rfl,rfl,(fun _ hx=>nomatch hx),nodup_nil⟩)
  (fun i h h' ⟨kp,o,es,ep,g1,g2,g3,g4,g5,g6⟩ hk=>⟨fun b o e=>hk b o (le_of_lt (ST.lt_of_get e)) (kp b o e),o,es,ep,hk _ _ (le_refl _) g1,g2,g3,g4,?_,g6⟩)
  (fun A i w s' hA hi hw ⟨kp,hD⟩=>?_) (le_refl _) fun h' tk ⟨kp,o,es,ep,g1,g2,g3,g4,g5,g6⟩ hk=>⟨.ref _,_,I.laid (o:=.dT [(k,v)]) (t':=tk) hk (le_refl _) ⟨?_,?_,[(k,b,u)],?_,o,es,ep,g1,g2,g3,g4,g6⟩,rfl,q _ I.fresh⟩
 ·intro x hx
  split at hx
  ·cases hx
  ·cases mem_singleton.mp hx
   exact isK fun b o e=>hk b o (le_of_lt (ST.lt_of_get e)) (kp b o e)
 ·have h0:i=0:=by simpa using hi
  subst h0
  cases hw
  refine ⟨t,.ref b,u,rfl,⟨o,kp _ _ e2,e3,e4⟩,fun Q E hQ=>wpAny_dictSet_heap (hsz:=zero_le _) (by show A.units < cLine; lia) (isK kp) hD fun h' dd sb=>hQ h' _ (Nat.le_add_right _ _) sb ⟨fun b o e=>(sb.2 b (ne_of_lt (ST.lt_of_get e))).trans (kp b o e),dd⟩⟩
 ·show 1<=sizeLine; rw [sizeLine_eq]; decide
 ·exact beq_eq_false_iff_ne.mpr (Ne.symm (ne_of_lt I.big))
 ·exact .cons ⟨rfl,by rw [zaf (zaj hb I.fresh)]; exact hb,rw⟩ .nil
theorem zes:DoesB K (rDict1 K) bDict1:=by
 intro σ U F G H vs ds s Q rel re e hq
 unfold bDict1 at e
 split at e
 ·split at e
  ·rename_i k v hk
   cases e
   match vs,re with
   | [x],⟨re,_⟩=>
     obtain ⟨l,xs,rfl,h1,r1⟩:=re.lst rel.fr
     cases r1 with
     | cons r2 r3=>
       cases r3
       cases r2 with
       | tup f1 r4=>
         cases r4 with
         | cons r5 r6=>
           cases r6 with
           | cons r7 r8=>
             cases r8
             match k,hk,r5 with
             | .tup kl,hk,.tup f2 r9=>
               obtain ⟨ks,rfl,rfl⟩:=zdu r9 hk
               exact ⟨l,_,_,ks,_,rfl,h1,rel.fr _ _ f1,rel.fr _ _ f2,fun p hp=>hq _ F _ (Same.refl F) (rel.newO hp (.dT zai rfl (.cons (.sh r7) .nil)))⟩
  ·cases e
 ·cases e
theorem zfX (hr:Room k X.A) (hg:Gl X "dict") (hm:X.mg "dict"=none) (hv:bootBuiltins "dict"=some (.type "dict")) (ha:FA X (e::es) wa) (he:starEach (e::es) X.env=(false,eval e X.env)::starEach es X.env:=by rfl) (hpl:(backTo pos (starEach es X.env)).any (·.1)=false:=by rfl):FE X (.Call (.Name "dict" p) (e::es) [] pos) (wB bDict1 wa):=
 zaS (fun pn xe=>zeo (X:=wp X pn xe) hr) zes hg hm hv ha (by decide) (by decide) he hpl
end
end FL
end
section
namespace FL
section
variable {U U1 U2:Env} {Q:WQ} {QT:Bool->Env->Prop} {QA:List R->Env->Prop} {QI:List D->Env->Prop} {QE:Env->Prop} {E:WX} {a b c:WE} {t u:WT} {wa:WA} {r x y:R} {rs:List R} {s:S} {ss:List S} {d p q:D} {i j n m k:Nat} {o:D->D->Option S} {oc oc':D->D->Option Bool}
theorem e_C:wC d U Q E=Q (.v (.sh d)) U:=rfl
def kV (o:Option S) (Q:WQ) (U:Env):Prop:=need o fun s=>Q (.v s) U
theorem e_V:kV (some s) Q U=Q (.v s) U:=rfl
def kBin3 (o:D->D->Option S) (x y:Option D) (Q:WQ) (U:Env):Prop:=need x fun p=>need y fun q=>kV (o p q) Q U
def kBin2 (o:D->D->Option S) (x:R) (Q:WQ):WQ:=fun y U2=>kBin3 o (viewC x U2) (viewC y U2) Q U2
def kBin1 (o:D->D->Option S) (b:WE) (Q:WQ) (E:WX):WQ:=fun x U1=>b U1 (kBin2 o x Q) E
theorem zmN:wBin o a b U Q E=a U (kBin1 o b Q E) E:=rfl
theorem zjb:kBin1 o b Q E x U=b U (kBin2 o x Q) E:=rfl
theorem zjl:kBin3 o (some p) (some q) Q U=kV (o p q) Q U:=rfl
def kUn2 (o:D->Option S) (x:Option D) (Q:WQ) (U:Env):Prop:=need x fun p=>kV (o p) Q U
def kUn (o:D->Option S) (Q:WQ):WQ:=fun x U=>kUn2 o (viewC x U) Q U
theorem e_Un {o:D->Option S}:wUn o a U Q E=a U (kUn o Q) E:=rfl
theorem zlK {o:D->Option S}:kUn o Q x U=kUn2 o (viewC x U) Q U:=rfl
theorem zlX {o:D->Option S}:kUn2 o (some p) Q U=kV (o p) Q U:=rfl
def kC (o:Option Bool) (Q:Bool->Env->Prop) (U:Env):Prop:=need o fun c=>Q c U
theorem e_Ck {c:Bool}:kC (some c) QT U=QT c U:=rfl
def kCmp3 (o:D->D->Option Bool) (x y:Option D) (Q:Bool->Env->Prop) (U:Env):Prop:=need x fun p=>need y fun q=>kC (o p q) Q U
def kCmp2 (o:D->D->Option Bool) (x:R) (Q:Bool->Env->Prop):WQ:=fun y U2=>kCmp3 o (view x U2) (view y U2) Q U2
def kCmp1 (o:D->D->Option Bool) (b:WE) (Q:Bool->Env->Prop) (E:WX):WQ:=fun x U1=>b U1 (kCmp2 o x Q) E
theorem zmF:wCmp oc a b U QT E=a U (kCmp1 oc b QT E) E:=rfl
theorem zkQ:kCmp1 oc b QT E x U=b U (kCmp2 oc x QT) E:=rfl
theorem ziQ:kCmp3 oc (some p) (some q) QT U=kC (oc p q) QT U:=rfl
def kTest2 (x:Option D) (Q:Bool->Env->Prop) (U:Env):Prop:=need x fun p=>kC (truth p) Q U
def kTest (Q:Bool->Env->Prop):WQ:=fun x U=>kTest2 (view x U) Q U
theorem zjG:wTest a U QT E=a U (kTest QT) E:=rfl
theorem zhr:kTest QT x U=kTest2 (view x U) QT U:=rfl
theorem zhl:kTest2 (some p) QT U=kC (truth p) QT U:=rfl
def kAnd (b:WT) (Q:Bool->Env->Prop) (E:WX):Bool->Env->Prop:=fun c U1=>if c then b U1 Q E else Q false U1
theorem zna:wtAnd t u U QT E=t U (kAnd u QT E) E:=rfl
theorem zjN:kAnd u QT E true U=u U QT E:=rfl
theorem zjA:kAnd u QT E false U=QT false U:=rfl
def kOr (b:WT) (Q:Bool->Env->Prop) (E:WX):Bool->Env->Prop:=fun c U1=>if c then Q true U1 else b U1 Q E
theorem e_Or:wtOr t u U QT E=t U (kOr u QT E) E:=rfl
theorem zmg:kOr u QT E false U=u U QT E:=rfl
def kNot (Q:Bool->Env->Prop):Bool->Env->Prop:=fun c U1=>Q (!c) U1
theorem zlC:wtNot t U QT E=t U (kNot QT) E:=rfl
theorem zkm {c:Bool}:kNot QT c U=QT (!c) U:=rfl
def kOfT (Q:WQ):Bool->Env->Prop:=fun c U1=>Q (.v (.sh (.bl c))) U1
theorem zmk:wOfT t U Q E=t U (kOfT Q) E:=rfl
theorem zj1 {c:Bool}:kOfT Q c U=Q (.v (.sh (.bl c))) U:=rfl
def kIfE (a b:WE) (Q:WQ) (E:WX):Bool->Env->Prop:=fun k U1=>if k then a U1 Q E else b U1 Q E
theorem zlk:wIfE t a b U Q E=t U (kIfE a b Q E) E:=rfl
theorem ziU:kIfE a b Q E true U=a U Q E:=rfl
theorem zkC:kIfE a b Q E false U=b U Q E:=rfl
def kAndV2 (x:Option D) (b:WE) (Q:WQ) (E:WX) (U:Env):Prop:=match x with | some (.bl c)=>if c then b U Q E else Q (.v (.sh (.bl false))) U | _=>False
def kAndV (b:WE) (Q:WQ) (E:WX):WQ:=fun x U=>kAndV2 (view x U) b Q E U
theorem zje:wAndV a b U Q E=a U (kAndV b Q E) E:=rfl
theorem zhu:kAndV b Q E x U=kAndV2 (view x U) b Q E U:=rfl
theorem zhN:kAndV2 (some (.bl true)) b Q E U=b U Q E:=rfl
theorem zhU:kAndV2 (some (.bl false)) b Q E U=Q (.v (.sh (.bl false))) U:=rfl
theorem zlG:wNil U QA E=QA [] U:=rfl
def kCons2 (r:R) (Q:List R->Env->Prop):List R->Env->Prop:=fun rs U=>Q (r::rs) U
def kCons1 (b:WA) (Q:List R->Env->Prop) (E:WX):WQ:=fun r U1=>b U1 (kCons2 r Q) E
theorem zkB:wCons a wa U QA E=a U (kCons1 wa QA E) E:=rfl
theorem zhW:kCons1 wa QA E r U=wa U (kCons2 r QA) E:=rfl
theorem zhZ:kCons2 r QA rs U=QA (r::rs) U:=rfl
def gA2 (s:S):Option (List S×Env)->Option (List S×Env)
 | some (ss,U)=>some (s::ss,U)
 | none=>none
def gA1 (rs:List R):Option (S×Env)->Option (List S×Env)
 | some (s,U)=>gA2 s (giveAll rs U)
 | none=>none
theorem zm1:giveAll [] U=some ([],U):=rfl
theorem e_gA:giveAll (r::rs) U=gA1 rs (give r U):=by
 rw [giveAll]; unfold gA1
 cases give r U with
 | none=>rfl
 | some z=>obtain ⟨s,U1⟩:=z; show (match giveAll rs U1 with | some (ss,U2)=>some (s::ss,U2) | none=>none)=gA2 s (giveAll rs U1); unfold gA2; rfl
theorem znu:gA1 rs (some (s,U))=gA2 s (giveAll rs U):=rfl
theorem zlA:gA2 s (some (ss,U))=some (s::ss,U):=rfl
theorem e_gv:give (.v s) U=some (s,U):=rfl
def kTup2 (l:Bool) (x:Option (List S×Env)) (Q:WQ):Prop:=need (if l then x else none) fun p=>Q (.v (.sh (.tup (p.1.map S.toD)))) p.2
def kLst2 (l:Bool) (x:Option (List S×Env)) (Q:WQ):Prop:=need (if l then x else none) fun p=>Q (.v (.lst p.1)) p.2
def lenOk (rs:List R):Bool:=decide (rs.length<=big)
def kTup (Q:WQ):List R->Env->Prop:=fun rs U=>kTup2 (lenOk rs) (giveAll rs U) Q
def kLst (Q:WQ):List R->Env->Prop:=fun rs U=>kLst2 (lenOk rs) (giveAll rs U) Q
theorem zmP:wTup wa U Q E=wa U (kTup Q) E:=by unfold wTup kTup kTup2 lenOk; simp
theorem zjf:kTup Q rs U=kTup2 (lenOk rs) (giveAll rs U) Q:=rfl
theorem zjO:kTup2 true (some (ss,U)) Q=Q (.v (.sh (.tup (ss.map S.toD)))) U:=rfl
theorem zlv:wLst wa U Q E=wa U (kLst Q) E:=by unfold wLst kLst kLst2 lenOk; simp
theorem zka:kLst Q rs U=kLst2 (lenOk rs) (giveAll rs U) Q:=rfl
theorem zkD:kLst2 true (some (ss,U)) Q=Q (.v (.lst ss)) U:=rfl
theorem e_l0:lenOk []=true:=rfl
theorem e_l1:lenOk [r1]=true:=rfl
theorem e_l2:lenOk [r1,r2]=true:=rfl
theorem e_l3:lenOk [r1,r2,r3]=true:=rfl
theorem e_vv:view (.v s) U=some s.toD:=rfl
theorem e_vl:view (.loc i) U=(slot U i).map S.toD:=rfl
theorem e_cv:viewC (.v s) U=some s.toD:=rfl
def vC:Option S->Option D
 | some s=>if s.flat then some s.toD else none
 | none=>none
theorem e_cl:viewC (.loc i) U=vC (slot U i):=by unfold viewC vC; rfl
theorem zkq (h:l.all S.isSh=true):vC (some (.lst l))=some (.lst (l.map S.toD)):=by
 show (if l.all S.isSh=true then some (S.toD (.lst l)) else none)=_
 rw [if_pos h,S.toD_lst]
theorem e_sh {l:List D}:(l.map S.sh).all S.isSh=true:=by simp [S.isSh]
theorem zas {l:List D}:(l.map S.sh).map S.toD=l:=by
 rw [map_map]; exact map_id l
theorem zmO:vC (some (.lst (l.map S.sh)))=some (.lst l):=by rw [zkq e_sh,zas]
def kIx5 (o:Option S) (Q:WQ) (U:Env):Prop:=match o with | some (.sh d)=>Q (.v (.sh d)) U | _=>False
def kIx4 (o:Option S) (q:D) (Q:WQ) (U:Env):Prop:=match o with | some s=>kIx5 (ixS s q) Q U | none=>False
def kIx3 (x:R) (o:Option D) (Q:WQ) (U:Env):Prop:=need o fun q=>match x with | .v s=>kV (ixS s q) Q U | .loc i=>kIx4 (slot U i) q Q U
def kIx2 (x:R) (Q:WQ):WQ:=fun y U2=>kIx3 x (view y U2) Q U2
def kIx1 (b:WE) (Q:WQ) (E:WX):WQ:=fun x U1=>b U1 (kIx2 x Q) E
theorem e_Ix:wIx a b U Q E=a U (kIx1 b Q E) E:=by
 unfold wIx kIx1 kIx2 kIx3 kIx4 kIx5 kV
 rfl
theorem zmU:kIx1 b Q E x U=b U (kIx2 x Q) E:=rfl
theorem zmv:kIx2 x Q y U=kIx3 x (view y U) Q U:=rfl
theorem zkS:kIx3 (.v s) (some q) Q U=kV (ixS s q) Q U:=rfl
theorem ziB:kIx3 (.loc i) (some q) Q U=kIx4 (slot U i) q Q U:=rfl
theorem zly:kIx4 (some s) q Q U=kIx5 (ixS s q) Q U:=rfl
theorem zlI:kIx5 (some (.sh d)) Q U=Q (.v (.sh d)) U:=rfl
theorem zlD:ixS (.sh (.tup l)) (.int z)=(atI l z).map S.sh:=rfl
theorem zli:ixS (.sh (.lst l)) (.int z)=(atI l z).map S.sh:=rfl
theorem zm3:ixS (.sh (.str l)) (.int z)=(atI l z).map fun c=>S.sh (.str [c]):=rfl
theorem znj:ixS (.lst l) (.int z)=atI l z:=rfl
theorem zbQ (h0:0<=z) (h:l[z.toNat]?=some v):atI l z=some v:=by
 have:z.toNat < l.length:=(qh.mp h).1
 unfold atI ixN
 rw [if_pos h0,if_pos (by lia)]
 exact h
theorem zku:atI (v::l) 0=some v:=zbQ (by decide) rfl
theorem zjC:atI (v1::v::l) 1=some v:=zbQ (by decide) rfl
theorem zju:atI (v1::v2::v::l) 2=some v:=zbQ (by decide) rfl
def pA (s:S):Option (List S×Env)->Option (List S×Env)
 | some (ss,U)=>some (s::ss,U)
 | none=>none
theorem e_p0:prep ms [] U=some ([],U):=by cases ms <;> rfl
theorem e_pv:prep (h::ms) (.v s::rs) U=pA s (prep ms rs U):=by rw [prep]; unfold pA; rfl
def pL (i:Nat) (o:Option S) (ms:List Bool) (rs:List R) (U:Env):Option (List S×Env):=match o with
 | some s=>pA s (prep ms rs (U.set i none))
 | none=>none
theorem e_pl:prep (true::ms) (.loc i::rs) U=pL i (slot U i) ms rs U:=by
 rw [prep]; unfold pL pA
 cases slot U i <;> rfl
theorem zne:pL i (some s) ms rs U=pA s (prep ms rs (U.set i none)):=rfl
theorem e_pA:pA s (some (ss,U))=some (s::ss,U):=rfl
theorem e_b0:back ms [] ss U=U:=by unfold back; cases ss <;> rfl
theorem e_bv {s t:S}:back (h::ms) (.v s::rs) (t::ss) U=back ms rs ss U:=by rw [back]; rfl
theorem e_bl {t:S}:back (true::ms) (.loc i::rs) (t::ss) U=back ms rs ss (U.set i (some t)):=by rw [back]; rfl
def kCret (ms:List Bool) (rs:List R) (U:Env) (Q:WQ):S->List S->Prop:=fun s ss=>Q (.v s) (back ms rs ss U)
def kCex (ms:List Bool) (rs:List R) (U:Env) (E:WX):D->List S->Prop:=fun x ss=>E x (back ms rs ss U)
def kCall2 (f:WF) (ms:List Bool) (rs:List R) (o:Option (List S×Env)) (Q:WQ) (E:WX):Prop:=need o fun p=>f p.1 (kCret ms rs p.2 Q) (kCex ms rs p.2 E)
def kCall (f:WF) (ms:List Bool) (Q:WQ) (E:WX):List R->Env->Prop:=fun rs U=>kCall2 f ms rs (prep ms rs U) Q E
theorem zkR:wCall f ms wa U Q E=wa U (kCall f ms Q E) E:=rfl
theorem zie:kCall f ms Q E rs U=kCall2 f ms rs (prep ms rs U) Q E:=rfl
theorem zhw:kCall2 f ms rs (some (ss,U)) Q E=f ss (kCret ms rs U Q) (kCex ms rs U E):=rfl
theorem zjj:kCret ms rs U Q s ss=Q (.v s) (back ms rs ss U):=rfl
def vA:Option D->Option (List D)->Option (List D)
 | some d,some ds=>some (d::ds)
 | _,_=>none
def vAll (rs:List R) (U:Env):Option (List D):=match rs with
 | []=>some []
 | r::rs=>vA (viewC r U) (vAll rs U)
theorem zdg:∀ rs:List R,(rs.mapM fun r=>viewC r U)=vAll rs U
 | []=>rfl
 | r::rs=>by
   rw [List.mapM_cons,zdg rs,vAll]
   cases viewC r U with
   | none=>rfl
   | some d=>cases vAll rs U <;> rfl
theorem zla:vAll [] U=some []:=rfl
theorem e_vA:vAll (r::rs) U=vA (viewC r U) (vAll rs U):=rfl
theorem zmm:vA (some d) (some ds)=some (d::ds):=rfl
def kB2 (f:List D->Option S) (o:Option (List D)) (Q:WQ) (U:Env):Prop:=need o fun ds=>kV (f ds) Q U
def kB (f:List D->Option S) (Q:WQ):List R->Env->Prop:=fun rs U=>kB2 f (vAll rs U) Q U
theorem e_B:wB f wa U Q E=wa U (kB f Q) E:=by
 unfold wB kB kB2 kV
 simp only [zdg]
theorem e_B1:kB f Q rs U=kB2 f (vAll rs U) Q U:=rfl
theorem e_B2:kB2 f (some ds) Q U=kV (f ds) Q U:=rfl
def kMS2 (f:List Nat->List D->Option S) (l:List Nat) (Q:WQ):List R->Env->Prop:=fun rs U=>kB2 (f l) (vAll rs U) Q U
def kMS (f:List Nat->List D->Option S) (wa:WA) (Q:WQ) (E:WX):WQ:=fun x U=>match x with
 | .v (.sh (.str l))=>wa U (kMS2 f l Q) E
 | _=>False
theorem e_MS:wMS f a wa U Q E=a U (kMS f wa Q E) E:=by
 unfold wMS kMS kMS2 kB2 kV
 simp only [zdg]
 all_goals rfl
theorem zmp:kMS f wa Q E (.v (.sh (.str l))) U=wa U (kMS2 f l Q) E:=rfl
theorem zm5:kMS2 f l Q rs U=kB2 (f l) (vAll rs U) Q U:=rfl
def kAp4 (j:Nat) (s:S) (o:Option S) (U:Env) (Q:WQ):Prop:=match o with
 | some (.lst l)=>l.length < big/\Q (.v (.sh .non)) (U.set j (some (.lst (l++[s]))))
 | _=>False
def kAp3 (j:Nat) (o:Option (S×Env)) (Q:WQ):Prop:=need o fun p=>kAp4 j p.1 (slot p.2 j) p.2 Q
def kAp2 (j:Nat) (Q:WQ):WQ:=fun r U=>kAp3 j (give r U) Q
def kAp (j:Nat) (o:Option S) (a:WE) (U:Env) (Q:WQ) (E:WX):Prop:=match o with
 | some (.lst _)=>a U (kAp2 j Q) E
 | _=>False
theorem e_Ap:wAppend j a U Q E=kAp j (slot U j) a U Q E:=by unfold wAppend kAp kAp2 kAp3 kAp4; rfl
theorem zlT:kAp j (some (.lst l)) a U Q E=a U (kAp2 j Q) E:=rfl
theorem zmx:kAp2 j Q r U=kAp3 j (give r U) Q:=rfl
theorem zmA:kAp3 j (some (s,U)) Q=kAp4 j s (slot U j) U Q:=rfl
theorem zm8:kAp4 j s (some (.lst l)) U Q=(l.length < big/\Q (.v (.sh .non)) (U.set j (some (.lst (l++[s]))))):=rfl
def kPop3 (j:Nat) (o:Option D) (p:Option S) (U:Env) (Q:WQ):Prop:=match o,p with
 | some (.int i),some (.lst l)=>need (if l.length<=big then ixN l.length i else none) fun k=>need l[k]? fun s=>Q (.v s) (U.set j (some (.lst (l.eraseIdx k))))
 | _,_=>False
def kPop2 (j:Nat) (Q:WQ):WQ:=fun r U=>kPop3 j (view r U) (slot U j) U Q
def kPop (j:Nat) (o:Option S) (a:WE) (U:Env) (Q:WQ) (E:WX):Prop:=match o with
 | some (.lst _)=>a U (kPop2 j Q) E
 | _=>False
theorem zlF:wPopAt j a U Q E=kPop j (slot U j) a U Q E:=by unfold wPopAt kPop kPop2 kPop3; rfl
theorem zky:kPop j (some (.lst l)) a U Q E=a U (kPop2 j Q) E:=rfl
theorem zjS:kPop2 j Q r U=kPop3 j (view r U) (slot U j) U Q:=rfl
theorem ziV (h0:0<=z) (hb:l.length<=big) (h:l[z.toNat]?=some s) (hq:Q (.v s) (U.set j (some (.lst (l.eraseIdx z.toNat))))):kPop3 j (some (.int z)) (some (.lst l)) U Q:=by
 have:z.toNat < l.length:=(qh.mp h).1
 have e:(if l.length<=big then ixN l.length z else none)=some z.toNat:=by
  unfold ixN
  rw [if_pos hb,if_pos h0,if_pos (by lia)]
 show need (if l.length<=big then ixN l.length z else none) _
 rw [e,zbN,h]
 exact hq
def kIsI2 (T:String) (o:Option D) (Q:WQ) (U:Env):Prop:=need o fun d=>noExc d=true/\Q (.v (.sh (.bl (isTy T d)))) U
def kIsI (T:String) (Q:WQ):WQ:=fun x U=>kIsI2 T (view x U) Q U
theorem znt:wIsI T a U Q E=a U (kIsI T Q) E:=rfl
theorem ziC:kIsI T Q x U=kIsI2 T (view x U) Q U:=rfl
theorem zhC {z:Bool}:kIsI2 T (some (.bl z)) Q U=Q (.v (.sh (.bl (isTy T (.bl z))))) U:=by show (_/\_)=_; simp [noExc]
def kXt3 (j:Nat) (r:R) (o:Option S) (U:Env) (Q:WQ):Prop:=match r,o with
 | .v (.lst m),some (.lst l)=>l.length + m.length<=big/\Q (.v (.sh .non)) (U.set j (some (.lst (l++m))))
 | _,_=>False
def kXt2 (j:Nat) (Q:WQ):WQ:=fun r U=>kXt3 j r (slot U j) U Q
def kXt (j:Nat) (o:Option S) (a:WE) (U:Env) (Q:WQ) (E:WX):Prop:=match o with
 | some (.lst _)=>a U (kXt2 j Q) E
 | _=>False
theorem e_Xt:wExtend j a U Q E=kXt j (slot U j) a U Q E:=by unfold wExtend kXt kXt2 kXt3; rfl
theorem zl3:kXt j (some (.lst l)) a U Q E=a U (kXt2 j Q) E:=rfl
theorem zl0:kXt2 j Q r U=kXt3 j r (slot U j) U Q:=rfl
theorem zk3 {l m:List S}:kXt3 j (.v (.lst m)) (some (.lst l)) U Q=(l.length + m.length<=big/\Q (.v (.sh .non)) (U.set j (some (.lst (l++m))))):=rfl
def kPt2 (o:Option D) (Q:Option Int->Env->Prop) (U:Env):Prop:=match o with | some (.int i)=>Q (some i) U | _=>False
def kPt (Q:Option Int->Env->Prop):WQ:=fun x U=>kPt2 (view x U) Q U
theorem zlo {Q:Option Int->Env->Prop}:wPart none U Q E=Q none U:=rfl
theorem e_Pt {Q:Option Int->Env->Prop}:wPart (some a) U Q E=a U (kPt Q) E:=rfl
theorem znv {Q:Option Int->Env->Prop}:kPt Q x U=kPt2 (view x U) Q U:=rfl
theorem zmw {Q:Option Int->Env->Prop}:kPt2 (some (.int z)) Q U=Q (some z) U:=rfl
def kSl3 (o:Option D) (l h:Option Int) (Q:WQ) (U:Env):Prop:=need o fun d=>kV (slD d l h) Q U
def kSl2 (x:R) (l:Option Int) (Q:WQ):Option Int->Env->Prop:=fun h U=>kSl3 (viewC x U) l h Q U
def kSl1 (x:R) (hi:Option WE) (Q:WQ) (E:WX):Option Int->Env->Prop:=fun l U=>wPart hi U (kSl2 x l Q) E
def kSl (lo hi:Option WE) (Q:WQ) (E:WX):WQ:=fun x U=>wPart lo U (kSl1 x hi Q E) E
theorem e_Sl:wSl a lo hi U Q E=a U (kSl lo hi Q E) E:=rfl
theorem znn:kSl lo hi Q E x U=wPart lo U (kSl1 x hi Q E) E:=rfl
theorem zm2:kSl1 x hi Q E l U=wPart hi U (kSl2 x l Q) E:=rfl
theorem zlN:kSl2 x l Q h U=kSl3 (viewC x U) l h Q U:=rfl
theorem zm6:kSl3 (some d) l h Q U=kV (slD d l h) Q U:=rfl
end
section
variable {U U1 U2:Env} {K:Env->Prop} {QI:List D->Env->Prop} {QE:Env->Prop} {E:WX} {Q:WQ} {D':Ends} {a b:WE} {v w:WS} {t:WT} {r x y:R} {s:S} {ss:List S} {d q:D} {i j n m:Nat} {g:WG}
def wNx (D:Ends) (k:Env->Prop):Ends:={ D with nx:=k }
theorem e_nx:(wNx D' K).nx=K:=rfl
theorem e_rt:(wNx D' K).rt=D'.rt:=rfl
theorem e_ex:(wNx D' K).ex=D'.ex:=rfl
theorem zj7:wPass D' U=D'.nx U:=rfl
theorem zlu:wSeq v w D' U=v (wNx D' (w D')) U:=rfl
def kIf (a b:WS) (D:Ends):Bool->Env->Prop:=fun k U=>if k then a D U else b D U
theorem e_If:wIf t v w D' U=t U (kIf v w D') D'.ex:=rfl
theorem zmy:kIf v w D' true U=v D' U:=rfl
theorem zmS:kIf v w D' false U=w D' U:=rfl
theorem zlj:wRet a D' U=a U D'.rt D'.ex:=rfl
def kEx (D:Ends):WQ:=fun _ U=>D.nx U
theorem zjL:wExpr a D' U=a U (kEx D') D'.ex:=rfl
theorem zhK:kEx D' r U=D'.nx U:=rfl
def kAsg2 (g:WG) (D:Ends) (o:Option (S×Env)):Prop:=need o fun p=>g p.1 p.2 D.nx
def kAsg (g:WG) (D:Ends):WQ:=fun r U=>kAsg2 g D (give r U)
theorem zmi:wAsg g a D' U=a U (kAsg g D') D'.ex:=rfl
theorem zjm:kAsg g D' r U=kAsg2 g D' (give r U):=rfl
theorem zjQ:kAsg2 g D' (some (s,U))=g s U D'.nx:=rfl
def kPar3 (i j:Nat) (D:Ends) (s:S) (o:Option (S×Env)):Prop:=need o fun q=>D.nx ((q.2.set i (some s)).set j (some q.1))
def kPar2 (i j:Nat) (D:Ends) (t:R) (o:Option (S×Env)):Prop:=need o fun p=>kPar3 i j D p.1 (give t p.2)
def kPar (i j:Nat) (D:Ends):List R->Env->Prop:=fun rs U=>match rs with
 | [r,t]=>kPar2 i j D t (give r U)
 | _=>False
theorem zmf:wPar i j wa D' U=wa U (kPar i j D') D'.ex:=by
 unfold wPar
 congr 1
theorem zj6:kPar i j D' [r,x] U=kPar2 i j D' x (give r U):=rfl
theorem zjY:kPar2 i j D' x (some (s,U))=kPar3 i j D' s (give x U):=rfl
theorem zi5:kPar3 i j D' s (some (s',U))=D'.nx ((U.set i (some s)).set j (some s')):=rfl
theorem e_gN:gName i s U K=K (U.set i (some s)):=rfl
def kGT (gs:List WG) (d:D) (U:Env) (Q:Env->Prop):Prop:=match d with | .tup ds=>ds.length=gs.length/\gTups gs ds U Q | _=>False
theorem e_gT:gTup gs s U K=kGT gs s.toD U K:=rfl
theorem zld:kGT gs (.tup ds) U K=(ds.length=gs.length/\gTups gs ds U K):=rfl
def kGTs (gs:List WG) (ds:List D) (Q:Env->Prop):Env->Prop:=fun U=>gTups gs ds U Q
theorem zmb:gTups [] [] U K=K U:=rfl
theorem zlJ:gTups (g::gs) (d::ds) U K=g (.sh d) U (kGTs gs ds K):=rfl
theorem zlw:kGTs gs ds K U=gTups gs ds U K:=rfl
def kSet5 (j:Nat) (D:Ends) (x:R) (q:FL.D) (s:S) (o:Option S) (U:Env):Prop:=match x,q,o with
 | .loc k,.int n,some (.lst l)=>k=j/\need (ixN l.length n) fun m=>D.nx (U.set j (some (.lst (l.set m s))))
 | _,_,_=>False
def kSet4 (j:Nat) (D:Ends) (x:R) (o:Option FL.D) (p:Option (S×Env)):Prop:=need o fun q=>need p fun p=>kSet5 j D x q p.1 (slot p.2 j) p.2
def kSet3 (j:Nat) (D:Ends) (r x:R):WQ:=fun y U=>kSet4 j D x (view y U) (give r U)
def kSet2 (j:Nat) (i:WE) (D:Ends) (r:R):WQ:=fun x U=>i U (kSet3 j D r x) D.ex
def kSet1 (j:Nat) (i:WE) (D:Ends):WQ:=fun r U=>wVar j U (kSet2 j i D r) D.ex
theorem znf:wSetIx j a b D' U=b U (kSet1 j a D') D'.ex:=by unfold wSetIx kSet1 kSet2 kSet3 kSet4 kSet5; rfl
theorem zkH:kSet1 j a D' r U=wVar j U (kSet2 j a D' r) D'.ex:=rfl
theorem ziH:kSet2 j a D' r x U=a U (kSet3 j D' r x) D'.ex:=rfl
theorem zj5:kSet3 j D' r x y U=kSet4 j D' x (view y U) (give r U):=rfl
theorem zjD:kSet4 j D' x (some q) (some (s,U))=kSet5 j D' x q s (slot U j) U:=rfl
theorem zg0 (h0:0<=z) (h1:z < l.length):kSet5 j D' (.loc j) (.int z) s (some (.lst l)) U=D'.nx (U.set j (some (.lst (l.set z.toNat s)))):=by
 show (j=j/\need (ixN l.length z) _)=_
 unfold ixN
 rw [if_pos h0,if_pos h1,zbN]
 simp
theorem ziy:kSet5 j D' (.loc j) (.int 0) s (some (.lst [s0,s1])) U=D'.nx (U.set j (some (.lst [s,s1]))):=zg0 (by decide) (by show (0:Int) < 2; decide)
theorem zii:kSet5 j D' (.loc j) (.int 1) s (some (.lst [s0,s1])) U=D'.nx (U.set j (some (.lst [s0,s]))):=zg0 (by decide) (by show (1:Int) < 2; decide)
def kDp5 (j:Nat) (D:Ends) (q:FL.D) (s:S) (o:Option S) (U:Env):Prop:=match o with
 | some (.dct t ks l)=>isKey t q=true/\ks.Nodup/\ks.length < big/\D.nx (U.set j (some (dputS t ks l q s)))
 | _=>False
def kDp4 (j:Nat) (D:Ends) (x:R) (o:Option FL.D) (p:Option (S×Env)):Prop:=need o fun q=>need p fun p=>match x with
 | .loc k=>k=j/\kDp5 j D q p.1 (slot p.2 j) p.2
 | _=>False
def kDp3 (j:Nat) (D:Ends) (r x:R):WQ:=fun y U=>kDp4 j D x (view y U) (give r U)
def kDp2 (j:Nat) (i:WE) (D:Ends) (r:R):WQ:=fun x U=>i U (kDp3 j D r x) D.ex
def kDp1 (j:Nat) (i:WE) (D:Ends):WQ:=fun r U=>wVar j U (kDp2 j i D r) D.ex
theorem e_Dp:wDput j a b D' U=b U (kDp1 j a D') D'.ex:=by
 have e:(fun (r:R) (U1:Env)=>wVar j U1 (fun x U2=>a U2 (fun y U3=>need (view y U3) fun q=>need (give r U3) fun p=>match x,slot p.2 j with
  | .loc k,some (.dct t ks l)=>k=j/\isKey t q=true/\ks.Nodup/\ks.length < big/\D'.nx (p.2.set j (some (dputS t ks l q p.1)))
  | _,_=>False) D'.ex) D'.ex)=kDp1 j a D':=by
  funext r U1
  unfold kDp1 kDp2 kDp3 kDp4 kDp5
  congr 1
  funext x U2
  congr 1
  funext y U3
  cases view y U3 with
  | none=>rfl
  | some q=>
    cases give r U3 with
    | none=>rfl
    | some p=>
      simp only [zbN]
      cases x with
      | v s=>cases slot p.2 j <;> rfl
      | loc k=>
        cases slot p.2 j with
        | none=>simp
        | some s=>
          cases s with
          | dct t ks l=>simp
          | _=>simp
 exact congrArg (fun z=>b U z D'.ex) e
theorem zmc:kDp1 j a D' r U=wVar j U (kDp2 j a D' r) D'.ex:=rfl
theorem zk0:kDp2 j a D' r x U=a U (kDp3 j D' r x) D'.ex:=rfl
theorem zmG:kDp3 j D' r x y U=kDp4 j D' x (view y U) (give r U):=rfl
theorem zmZ:kDp4 j D' (.loc j) (some q) (some (s,U))=kDp5 j D' q s (slot U j) U:=by show (j=j/\_)=_; simp
theorem zjR:kDp5 j D' q s (some (.dct true ks l)) U=(isKey true q=true/\ks.Nodup/\ks.length < big/\D'.nx (U.set j (some (dputS true ks l q s)))):=rfl
def kIt3 (o:Option (List D)) (U:Env) (Q:List D->Env->Prop):Prop:=need o fun l=>Q l U
def kIt2 (o:Option (S×Env)) (Q:List D->Env->Prop):Prop:=need o fun p=>kIt3 (items p.1.toD) p.2 Q
def kIt (Q:List D->Env->Prop):WQ:=fun r U=>kIt2 (give r U) Q
theorem e_It:wIter a U QI E=a U (kIt QI) E:=rfl
theorem znq:kIt QI r U=kIt2 (give r U) QI:=rfl
theorem zl6:kIt2 (some (s,U)) QI=kIt3 (items s.toD) U QI:=rfl
theorem zle:kIt3 (some l) U QI=QI l U:=rfl
theorem zk9:items (.lst l)=some l:=rfl
theorem zmH:items (.tup l)=some l:=rfl
def kR1b (o:Option D) (Q:List D->Env->Prop) (U:Env):Prop:=match o with | some (.int j)=>(-big<=j/\j<=big)/\Q (fromTo 0 j.toNat) U | _=>False
def kR1 (Q:List D->Env->Prop):WQ:=fun r U=>kR1b (view r U) Q U
theorem e_R1:wRange1 a U QI E=a U (kR1 QI) E:=rfl
theorem zmM:kR1 QI r U=kR1b (view r U) QI U:=rfl
theorem zml:kR1b (some (.int z)) QI U=((-big<=z/\z<=big)/\QI (fromTo 0 z.toNat) U):=rfl
def kFor (g:WG) (b:WS) (D:Ends):List FL.D->Env->Prop:=fun l U=>wLoop g b l D U
theorem zm4:wFor it g v D' U=it U (kFor g v D') D'.ex:=rfl
theorem ziL:kFor g v D' l U=wLoop g v l D' U:=rfl
def lpE (g:WG) (b:WS) (xs:List FL.D) (D:Ends):Ends:={ D with nx:=wLoop g b xs D,ct:=wLoop g b xs D,bk:=D.nx }
def kLp (g:WG) (b:WS) (xs:List FL.D) (D:Ends):Env->Prop:=fun U=>b (lpE g b xs D) U
theorem e_Lp:wLoop g v (d::xs) D' U=g (.sh d) U (kLp g v xs D'):=rfl
variable {c:WT} {bb:WB}
def kLCr2 (n:Nat) (o:Option S) (U:Env) (Q:WQ):Prop:=need o fun s=>Q (.v s) (U.take n)
def kLCr (n:Nat) (Q:WQ):Env->Prop:=fun U=>kLCr2 n (slot U n) U Q
def kLCx (n:Nat) (E:WX):WX:=NX
def kLC (n k:Nat) (g:WG) (c:WT) (b:WB) (Q:WQ) (E:WX):List D->Env->Prop:=fun l U=>bLoop g c b l (U++some (.lst [])::List.replicate k none) (kLCr n Q) (kLCx n E)
theorem e_LC:wLC n m it g c bb U Q E=it U (kLC n m g c bb Q E) E:=rfl
theorem zmC:kLC n m g c bb Q E l U=bLoop g c bb l (U++some (.lst [])::List.replicate m none) (kLCr n Q) (kLCx n E):=rfl
theorem zl5:kLCr n Q U=kLCr2 n (slot U n) U Q:=rfl
theorem zi4:kLCr2 n (some s) U Q=Q (.v s) (U.take n):=rfl
def kbL3 (g:WG) (c:WT) (b:WB) (xs:List D) (Q:Env->Prop) (E:WX):Env->Prop:=fun U=>bLoop g c b xs U Q E
def kbL2 (g:WG) (c:WT) (b:WB) (xs:List D) (Q:Env->Prop) (E:WX):Bool->Env->Prop:=fun k U=>if k then b U (kbL3 g c b xs Q E) E else bLoop g c b xs U Q E
def kbL (g:WG) (c:WT) (b:WB) (xs:List D) (Q:Env->Prop) (E:WX):Env->Prop:=fun U=>c U (kbL2 g c b xs Q E) E
theorem e_bL:bLoop g c bb (d::xs) U QE E=g (.sh d) U (kbL g c bb xs QE E):=rfl
theorem zlH:kbL g c bb xs QE E U=c U (kbL2 g c bb xs QE E) E:=rfl
theorem ziG:kbL2 g c bb xs QE E true U=bb U (kbL3 g c bb xs QE E) E:=rfl
theorem zl8:kbL3 g c bb xs QE E U=bLoop g c bb xs U QE E:=rfl
def kEm3 (n:Nat) (s:S) (o:Option S) (U:Env) (Q:Env->Prop):Prop:=match o with
 | some (.lst l)=>l.length < big/\Q (U.set n (some (.lst (l++[s]))))
 | _=>False
def kEm2 (n:Nat) (o:Option (S×Env)) (Q:Env->Prop):Prop:=need o fun p=>kEm3 n p.1 (slot p.2 n) p.2 Q
def kEm (n:Nat) (Q:Env->Prop):WQ:=fun r U=>kEm2 n (give r U) Q
theorem e_Em:bEmit n a U QE E=a U (kEm n QE) E:=by unfold bEmit kEm kEm2 kEm3; rfl
theorem zln:kEm n QE r U=kEm2 n (give r U) QE:=rfl
theorem zme:kEm2 n (some (s,U)) QE=kEm3 n s (slot U n) U QE:=rfl
theorem zmL:kEm3 n s (some (.lst l)) U QE=(l.length < big/\QE (U.set n (some (.lst (l++[s]))))):=rfl
theorem zk5:wYes U QT E=QT true U:=rfl
def kFn (o:Option (List S)) (P:S->List S->Prop) (s:S):Prop:=need o fun fs=>P s fs
def kRt2 (n:Nat) (ss:List S) (P:S->List S->Prop) (i:Nat) (o:Option S) (U:Env):Prop:=need o fun s=>if i < n then kFn (finals ss (U.set i (some (.sh s.toD)))) P (.sh s.toD) else kFn (finals ss U) P s
def kRt (n:Nat) (ss:List S) (P:S->List S->Prop):WQ:=fun r U=>match r with
 | .v s=>kFn (finals ss U) P s
 | .loc i=>kRt2 n ss P i (slot U i) U
def fnE (n:Nat) (ss:List S) (P:S->List S->Prop) (PX:D->List S->Prop):Ends where
 nx:=fun U=>kFn (finals ss U) P (.sh .non)
 rt:=kRt n ss P
 bk:=fun _=>False
 ct:=fun _=>False
 ex:=fun x U=>need (finals ss U) fun fs=>PX x fs
variable {P:S->List S->Prop} {PX:D->List S->Prop}
theorem zbX (hl:ss.length=n) (hk:((List.range ss.length).all fun i=>decide (i∈ks))=true) (h:v (fnE n ss P PX) (ss.map some++List.replicate (m - n) none)):wFn n m ks v ss P PX:=by
 refine ⟨hl,fun i s hi=>?_,h⟩
 have:=(qh.mp hi).1
 exact .inl (by simpa using all_eq_true.mp hk i (by simpa using this))
theorem zms:(fnE n ss P PX).rt=kRt n ss P:=rfl
theorem e_Rt:kRt n ss P (.v s) U=kFn (finals ss U) P s:=rfl
theorem zlm:kRt n ss P (.loc i) U=kRt2 n ss P i (slot U i) U:=rfl
theorem zlP (h:¬ i < n):kRt2 n ss P i (some s) U=kFn (finals ss U) P s:=by show (if i < n then _ else _)=_; rw [if_neg h]
theorem e_Fn:kFn (some fs) P s=P s fs:=rfl
def fA (s:S):Option (List S)->Option (List S)
 | some fs=>some (s::fs)
 | none=>none
theorem e_f0:finals [] U=some []:=by cases U <;> rfl
theorem e_fs:finals (.sh d::ss) (o::U)=fA (.sh d) (finals ss U):=by
 rw [finals]; unfold fA; cases finals ss U <;> rfl
theorem e_fl:finals (.lst l::ss) (some s::U)=fA s (finals ss U):=by
 rw [finals]; unfold fA; cases finals ss U <;> rfl
 intro d h; cases h
theorem e_fA:fA s (some fs)=some (s::fs):=rfl
end
section
variable {i j:Int} {x y:List Nat} {l m:List D}
theorem zlU:oAdd (.int i) (.int j)=some (.sh (.int (i + j))):=rfl
theorem zkp (h:l.length + m.length<=big):oAdd (.lst l) (.lst m)=some (.lst ((l++m).map .sh)):=if_pos h
theorem zl4:oSub (.int i) (.int j)=some (.sh (.int (i - j))):=rfl
theorem zi6 (h:-(2 ^ 64) < i/\i < 2 ^ 64):oMul (.int i) (.int j)=some (.sh (.int (i * j))):=by
 show (if mulOk i j=true then _ else none)=_
 rw [if_pos (by simp only [mulOk,h.1,h.2,decide_true,Bool.and_self,Bool.true_or])]
theorem zlg (h:0 < j):oMod (.int i) (.int j)=some (.sh (.int (i % j))):=if_pos h
theorem zjh (h:0 < j) (h2:j < 18446744073709551616):oFdiv (.int i) (.int j)=some (.sh (.int (i / j))):=if_pos ⟨h,h2⟩
theorem zlQ (h:0<=j/\j<=1000/\i.natAbs < 2 ^ 64):oPow (.int i) (.int j)=some (.sh (.int (i ^ j.toNat))):=if_pos h
theorem zk4:oNeg (.int i)=some (.sh (.int (-i))):=rfl
theorem e_lt:cLt (.int i) (.int j)=some (decide (i < j)):=rfl
theorem e_gt:cGt (.int i) (.int j)=some (decide (j < i)):=rfl
theorem e_ge:cGe (.int i) (.int j)=some (decide (j<=i)):=rfl
theorem zno:cEq (.int i) (.int j)=some (decide (i=j)):=by
 unfold cEq
 rw [if_neg (by exact fun z=>Bool.noConfusion (show false=true from z))]
 simp
theorem zj8:cEq (.str x) (.str y)=some (decide (x=y)):=by
 unfold cEq
 rw [if_neg (by exact fun z=>Bool.noConfusion (show false=true from z))]
 simp
theorem znp:cNe (.str x) (.str y)=some (!decide (x=y)):=by unfold cNe; rw [zj8]; rfl
theorem ziR:cEq (.bl b) (.bl c)=some (decide (b=c)):=by
 unfold cEq
 rw [if_neg (by exact fun z=>Bool.noConfusion (show false=true from z))]
 simp
theorem zmd:cNe (.bl b) (.bl c)=some (!decide (b=c)):=by unfold cNe; rw [ziR]; rfl
theorem znr:truth (.bl b)=some b:=rfl
theorem ziE:bLen [.str x]=some (.sh (.int x.length)):=rfl
theorem ziT:bLen [.lst l]=some (.sh (.int l.length)):=rfl
theorem ziz:bInt [.bl b]=some (.sh (.int (if b then 1 else 0))):=rfl
theorem zi2:bTuple [.lst l]=some (.sh (.tup l)):=rfl
theorem zkv:bListA [.lst l]=some (.lst (l.map .sh)):=rfl
theorem zkO (h:x.length<=big):bListA [.str x]=some (.lst (x.map fun c=>.sh (.str [c]))):=if_pos h
theorem zl2:bMax [.int i,.int j]=some (.sh (.int (if j > i then j else i))):=rfl
theorem zlc:bMin [.int i,.int j]=some (.sh (.int (if j < i then j else i))):=rfl
theorem zmn:slD (.str x) a b=some (.sh (.str (cutL x a b))):=rfl
theorem zng:slD (.lst l) a b=some (.lst ((cutL l a b).map .sh)):=rfl
end
section
variable {Q:WQ} {QT:Bool->Env->Prop} {E:WX} {U:Env} {d p q:D} {l m:List S} {t:Bool} {ks:List D} {s:S} {v:Option S} {o:D->D->Option S} {oc:D->D->Option Bool} {j k:Nat} {s0 s1 s2 s3 s4 s5 s6 s7 s8 s9 s10 s11 s12 s13 s14:Option S}
theorem zlW:wVar 0 (some (.sh d)::U) Q E=Q (.v (.sh d)) (some (.sh d)::U):=rfl
theorem zmu:wVar 0 (some (.lst l)::U) Q E=Q (.loc 0) (some (.lst l)::U):=rfl
theorem zmh:slot (v::U) 0=v:=rfl
theorem zlq:List.set (u::U) 0 v=v::U:=rfl
theorem zmV:wVar 1 (s0::some (.sh d)::U) Q E=Q (.v (.sh d)) (s0::some (.sh d)::U):=rfl
theorem zk7:wVar 1 (s0::some (.lst l)::U) Q E=Q (.loc 1) (s0::some (.lst l)::U):=rfl
theorem zmQ:slot (s0::v::U) 1=v:=rfl
theorem zlR:List.set (s0::u::U) 1 v=s0::v::U:=rfl
theorem zmI:wVar 2 (s0::s1::some (.sh d)::U) Q E=Q (.v (.sh d)) (s0::s1::some (.sh d)::U):=rfl
theorem zlE:wVar 2 (s0::s1::some (.lst l)::U) Q E=Q (.loc 2) (s0::s1::some (.lst l)::U):=rfl
theorem zlZ:slot (s0::s1::v::U) 2=v:=rfl
theorem zmX:List.set (s0::s1::u::U) 2 v=s0::s1::v::U:=rfl
theorem zlx:wVar 3 (s0::s1::s2::some (.sh d)::U) Q E=Q (.v (.sh d)) (s0::s1::s2::some (.sh d)::U):=rfl
theorem znc:wVar 3 (s0::s1::s2::some (.lst l)::U) Q E=Q (.loc 3) (s0::s1::s2::some (.lst l)::U):=rfl
theorem zns:wVar 3 (s0::s1::s2::some (.dct t ks l)::U) Q E=Q (.loc 3) (s0::s1::s2::some (.dct t ks l)::U):=rfl
theorem znm:slot (s0::s1::s2::v::U) 3=v:=rfl
theorem zmW:List.set (s0::s1::s2::u::U) 3 v=s0::s1::s2::v::U:=rfl
theorem zlz:wVar 4 (s0::s1::s2::s3::some (.sh d)::U) Q E=Q (.v (.sh d)) (s0::s1::s2::s3::some (.sh d)::U):=rfl
theorem zlp:wVar 4 (s0::s1::s2::s3::some (.lst l)::U) Q E=Q (.loc 4) (s0::s1::s2::s3::some (.lst l)::U):=rfl
theorem zlt:wVar 4 (s0::s1::s2::s3::some (.dct t ks l)::U) Q E=Q (.loc 4) (s0::s1::s2::s3::some (.dct t ks l)::U):=rfl
theorem zmY:slot (s0::s1::s2::s3::v::U) 4=v:=rfl
theorem zl7:List.set (s0::s1::s2::s3::u::U) 4 v=s0::s1::s2::s3::v::U:=rfl
theorem zlS:wVar 5 (s0::s1::s2::s3::s4::some (.sh d)::U) Q E=Q (.v (.sh d)) (s0::s1::s2::s3::s4::some (.sh d)::U):=rfl
theorem zl1:wVar 5 (s0::s1::s2::s3::s4::some (.lst l)::U) Q E=Q (.loc 5) (s0::s1::s2::s3::s4::some (.lst l)::U):=rfl
theorem zmo:slot (s0::s1::s2::s3::s4::v::U) 5=v:=rfl
theorem zni:List.set (s0::s1::s2::s3::s4::u::U) 5 v=s0::s1::s2::s3::s4::v::U:=rfl
theorem zmT:wVar 6 (s0::s1::s2::s3::s4::s5::some (.sh d)::U) Q E=Q (.v (.sh d)) (s0::s1::s2::s3::s4::s5::some (.sh d)::U):=rfl
theorem znh:wVar 6 (s0::s1::s2::s3::s4::s5::some (.lst l)::U) Q E=Q (.loc 6) (s0::s1::s2::s3::s4::s5::some (.lst l)::U):=rfl
theorem zk8:slot (s0::s1::s2::s3::s4::s5::v::U) 6=v:=rfl
theorem zmt:List.set (s0::s1::s2::s3::s4::s5::u::U) 6 v=s0::s1::s2::s3::s4::s5::v::U:=rfl
theorem zk2:wVar 7 (s0::s1::s2::s3::s4::s5::s6::some (.sh d)::U) Q E=Q (.v (.sh d)) (s0::s1::s2::s3::s4::s5::s6::some (.sh d)::U):=rfl
theorem zma:wVar 7 (s0::s1::s2::s3::s4::s5::s6::some (.lst l)::U) Q E=Q (.loc 7) (s0::s1::s2::s3::s4::s5::s6::some (.lst l)::U):=rfl
theorem zk6:slot (s0::s1::s2::s3::s4::s5::s6::v::U) 7=v:=rfl
theorem znb:List.set (s0::s1::s2::s3::s4::s5::s6::u::U) 7 v=s0::s1::s2::s3::s4::s5::s6::v::U:=rfl
theorem zm7:wVar 8 (s0::s1::s2::s3::s4::s5::s6::s7::some (.sh d)::U) Q E=Q (.v (.sh d)) (s0::s1::s2::s3::s4::s5::s6::s7::some (.sh d)::U):=rfl
theorem zlr:slot (s0::s1::s2::s3::s4::s5::s6::s7::v::U) 8=v:=rfl
theorem zmr:List.set (s0::s1::s2::s3::s4::s5::s6::s7::u::U) 8 v=s0::s1::s2::s3::s4::s5::s6::s7::v::U:=rfl
theorem znl:wVar 9 (s0::s1::s2::s3::s4::s5::s6::s7::s8::some (.sh d)::U) Q E=Q (.v (.sh d)) (s0::s1::s2::s3::s4::s5::s6::s7::s8::some (.sh d)::U):=rfl
theorem zlO:slot (s0::s1::s2::s3::s4::s5::s6::s7::s8::v::U) 9=v:=rfl
theorem zlB:List.set (s0::s1::s2::s3::s4::s5::s6::s7::s8::u::U) 9 v=s0::s1::s2::s3::s4::s5::s6::s7::s8::v::U:=rfl
theorem ziM:wVar 10 (s0::s1::s2::s3::s4::s5::s6::s7::s8::s9::some (.sh d)::U) Q E=Q (.v (.sh d)) (s0::s1::s2::s3::s4::s5::s6::s7::s8::s9::some (.sh d)::U):=rfl
theorem zi9:List.set (s0::s1::s2::s3::s4::s5::s6::s7::s8::s9::u::U) 10 v=s0::s1::s2::s3::s4::s5::s6::s7::s8::s9::v::U:=rfl
theorem zji:kBin2 o (.v (.sh p)) Q (.v (.sh q)) U=kV (o p q) Q U:=rfl
theorem zkM:kCmp2 oc (.v (.sh p)) QT (.v (.sh q)) U=kC (oc p q) QT U:=rfl
theorem ziP:kCmp2 oc (.v (.sh p)) QT (.v (.lst m)) U=kCmp3 oc (some p) (some (S.lst m).toD) QT U:=rfl
theorem zkb:kCmp2 oc (.v (.sh p)) QT (.loc k) U=kCmp3 oc (some p) (view (.loc k) U) QT U:=rfl
theorem zjM:kBin2 o (.v (.lst l)) Q (.v (.lst m)) U=kBin3 o (some (S.lst l).toD) (some (S.lst m).toD) Q U:=rfl
theorem zkV:kBin2 o (.loc j) Q (.v (.lst m)) U=kBin3 o (viewC (.loc j) U) (some (S.lst m).toD) Q U:=rfl
theorem zkA:kCmp2 oc (.loc j) QT (.v (.lst m)) U=kCmp3 oc (view (.loc j) U) (some (S.lst m).toD) QT U:=rfl
end
section
variable {U U1 U2:Env} {Q:WQ} {QT:Bool->Env->Prop} {QI:List D->Env->Prop} {E:WX} {a b c:WE} {r x y z:R} {s:S} {d p q:D} {i j n m k:Nat} {D':Ends} {v:WS} {l:List D} {z':Int}
theorem zmj:cInA d (.lst l)=cIn d (.lst l):=rfl
theorem zlb:cInA d (.dct t ks vs)=cIn d (.dct t ks vs):=rfl
theorem zkt:cNotInA p q=(cInA p q).map (!·):=rfl
def kFz2 (Q:WQ) (o:Option (S×Env)):Prop:=need o fun p=>Q (.v (.sh p.1.toD)) p.2
def kFz (Q:WQ):WQ:=fun r U=>kFz2 Q (give r U)
theorem zl9:wFrz a U Q E=a U (kFz Q) E:=rfl
theorem zkK:kFz Q r U=kFz2 Q (give r U):=rfl
theorem zjq:kFz2 Q (some (s,U))=Q (.v (.sh s.toD)) U:=rfl
theorem zkf:vC (some (.dct t ks (vs.map S.sh)))=some (.dct t ks vs):=by
 show (if (vs.map S.sh).all S.isSh=true then some (S.toD (.dct t ks (vs.map S.sh))) else none)=_
 rw [if_pos e_sh,S.toD_dct,zas]
theorem zkP {z z':Int}:oMulA (.int z) (.int z')=oMul (.int z) (.int z'):=rfl
end
theorem uB {w v:WB} (h:w=v):w U Q E=v U Q E:=by rw [h]
theorem uS {w v:WS} (h:w=v):w D' U=v D' U:=by rw [h]
section
variable {U:Env} {Q:WQ} {QE:Env->Prop} {E:WX} {a b:WE} {x y r:R} {s:S} {q d:D} {n m j:Nat} {l:List D}
variable {fr:D->Option S}
variable {c:WE} {QI:List D->Env->Prop}
end
section
variable {U:Env} {Q:WQ} {E:WX} {a:WE} {r:R} {j:Nat} {d:D} {l:List D} {x:List Nat} {s:S} {o:Option S}
def kPp (j:Nat) (o:Option S) (U:Env) (Q:WQ):Prop:=match o with
 | some (.lst l)=>need l[l.length - 1]? fun s=>Q (.v s) (U.set j (some (.lst l.dropLast)))
 | _=>False
theorem e_Pp {U:Env} {Q:WQ} {E:WX} {j:Nat}:wPop j U Q E=kPp j (slot U j) U Q:=by unfold wPop kPp; rfl
theorem zlL {U:Env} {Q:WQ} {j:Nat} {l:List S} {s:S}:kPp j (some (.lst (l++[s]))) U Q=Q (.v s) (U.set j (some (.lst l))):=by simp [kPp,need]
def kDt3 (o:Option D) (p:Option (S×Env)) (Q:WQ):Prop:=need o fun q=>need p fun p=>isKey true q=true/\Q (.v (.dct true [q] [p.1])) p.2
def kDt2 (x:R) (Q:WQ):WQ:=fun y U=>kDt3 (view x U) (give y U) Q
def kDt1 (v:WE) (Q:WQ) (E:WX):WQ:=fun x U=>v U (kDt2 x Q) E
theorem e_Dt:wDispT a b U Q E=a U (kDt1 b Q E) E:=rfl
theorem zmB {x:R}:kDt1 b Q E x U=b U (kDt2 x Q) E:=rfl
theorem zmq {x y:R}:kDt2 x Q y U=kDt3 (view x U) (give y U) Q:=rfl
theorem zmJ:kDt3 (some q) (some (s,U)) Q=(isKey true q=true/\Q (.v (.dct true [q] [s])) U):=rfl
theorem zhf {ks vs:List D} (h:ks.length<=big) (h2:ks.all isIT=true):bListD [.dct true ks vs]=some (.lst (ks.map .sh)):=if_pos ⟨h,h2⟩
theorem zj3 {k v:D} (h:isKey true k=true):bDict1 [.lst [.tup [k,v]]]=some (.dct true [k] [.sh v]):=if_pos h
end
def sg (c:Nat):D:=.str [c]
theorem ziv (l:List Nat):strsD (l.map sg)=some (l.map fun c=>[c]):=by
 have:=zcM (l.map fun c=>[c])
 rw [map_map] at this
 exact this
theorem zd5:∀ l:List Nat,((l.map fun c=>[c]).map List.length).sum=l.length
 | []=>rfl
 | c::l=>by
   have:=zd5 l
   simp only [map_cons,List.sum_cons,length_cons,length_nil] at this ⊢
   lia
theorem zc0:∀ l:List Nat,(l.map fun c=>[c]).flatten=l
 | []=>rfl
 | c::l=>by
   have:=zc0 l
   simp only [map_cons,List.flatten_cons,List.singleton_append]
   rw [this]
theorem zfO (h:l.length<=big):mJoin [] [.lst (l.map sg)]=some (.sh (.str l)):=by
 show (strsD (l.map sg)).bind _=_
 grind [ziv,List.length,big,joinD,zd5,zfh,zc0]
def unsg:D->Nat
 | .str [c]=>c
 | _=>0
theorem zib (h:l.Perm (A.map sg)):∃ A':List Nat,A'.Perm A/\l=A'.map sg:=by
 refine ⟨l.map unsg,?_,?_⟩
 ·have:=h.map unsg
  rw [map_map] at this
  have e:(unsg ∘ sg)=id:=funext fun c=>rfl
  rw [e,map_id] at this
  exact this
 ·rw [map_map]
  have:∀ d∈l,(sg ∘ unsg) d=id d:=fun d hd=>by
   obtain ⟨c,_,rfl⟩:=mem_map.mp (h.mem_iff.mp hd)
   rfl
  rw [map_congr_left this,map_id]
theorem zah:big=1000000:=rfl
theorem zaq:(fromTo lo n).length=n:=by simp [fromTo]
theorem zd8 {l:List D} {k:Nat} (h:l[k]?=some d):(l.map S.sh)[k]?=some (.sh d):=by rw [getElem?_map,h]; rfl
theorem zfe {α β:Type} {f:α->β} {l:List α} {z:Int} (h0:0<=z) (h1:z < l.length):∃ v,v∈l/\l[z.toNat]?=some v/\atI (l.map f) z=some (f v):=by
 have hz:z.toNat < l.length:=by lia
 exact ⟨l[z.toNat],getElem_mem hz,getElem?_eq_getElem hz,zbQ h0 (by rw [getElem?_map,getElem?_eq_getElem hz]; rfl)⟩
theorem zeU (h0:0<=z) (h1:z < l.length):∃ v,v∈l/\l[z.toNat]?=some v/\atI l z=some v:=by
 have hz:z.toNat < l.length:=by lia
 exact ⟨l[z.toNat],getElem_mem hz,getElem?_eq_getElem hz,zbQ h0 (getElem?_eq_getElem hz)⟩
theorem zbP {α β:Type} {f:α->β}:∀ (l:List α) (k:Nat),(l.map f).eraseIdx k=(l.eraseIdx k).map f
 | [],_=>rfl
 | _::_,0=>rfl
 | x::l,k + 1=>by
   show f x::(l.map f).eraseIdx k=f x::(l.eraseIdx k).map f
   rw [zbP l k]
theorem zgT (f:α->β) (l:List α) (a b:Option Int):cutL (l.map f) a b=(cutL l a b).map f:=by
 unfold cutL
 first | rfl | assumption | (simp_all; done)
theorem zgq (l:List α) (a b:Option Int):(cutL l a b).length<=l.length:=by
 unfold cutL
 rw [length_take,length_drop]
 lia
theorem zgk (h:x∈cutL l a b):x∈l:=by
 unfold cutL at h
 exact List.mem_of_mem_drop (List.mem_of_mem_take h)
theorem zhS (l:List α) {k:Int} (h0:0<=k) (h1:k<=l.length):cutL l none (some k)=l.take k.toNat:=by
 unfold cutL sIx
 grind
theorem zb2 {α:Type}:∀ (l:List α) (i:Nat) (h:i < l.length),(l[i]::l.eraseIdx i).Perm l
 | x::l,0,_=>List.Perm.refl _
 | x::l,i + 1,h=>by
   have hi:i < l.length:=by simpa using h
   exact (List.Perm.swap x l[i] _).trans (List.Perm.cons x (zb2 l i hi))
def kbX2 (b:WB) (K:Env->Prop) (E:WX):Bool->Env->Prop:=fun k U=>if k then b U K E else K U
def kbX (c:WT) (b:WB) (K:Env->Prop) (E:WX):Env->Prop:=fun U=>c U (kbX2 b K E) E
theorem x_bX:kbX c b K E U=c U (kbX2 b K E) E:=rfl
theorem zgM:kbX2 b K E true U=b U K E:=rfl
theorem zkd {α:Type} {toD:α->D} (I:List α->Env->Prop) (xs:List α)
  (step:∀ (pre:List α) (x:α) (post:List α) (K:Env->Prop) (U:Env),pre++x::post=xs->I pre U->(∀ U',I (pre++[x]) U'->K U')->g (.sh (toD x)) U (kbX c b K E))
  (fin:∀ U,I xs U->Q U) (h0:I [] U):bLoop g c b (xs.map toD) U Q E:=by
 have gen:∀ (post pre:List α) (U:Env),pre++post=xs->I pre U->bLoop g c b (post.map toD) U Q E:=by
  intro post
  induction post with
  | nil=>intro pre U e h; rw [append_nil] at e; subst e; exact fin U h
  | cons x post ih=>
    intro pre U e h
    rw [map_cons,e_bL]
    exact step pre x post (kbL3 g c b (post.map toD) Q E) U e h fun U' h'=>ih (pre++[x]) U' (by rw [<- e]; simp) h'
 exact gen xs [] U rfl h0
theorem zbI {α:Type} {toD:α->D} (I:List α->Env->Prop) (xs:List α)
  (step:∀ (pre:List α) (x:α) (post:List α) (D2:Ends) (U:Env),pre++x::post=xs->I pre U->(∀ U',I (pre++[x]) U'->D2.nx U')->(∀ U',I (pre++[x]) U'->D2.ct U')->D2.rt=D'.rt->D2.bk=D'.nx->g (.sh (toD x)) U (fun U=>b D2 U))
  (fin:∀ U,I xs U->D'.nx U) (h0:I [] U):wLoop g b (xs.map toD) D' U:=by
 have gen:∀ (post pre:List α) (U:Env),pre++post=xs->I pre U->wLoop g b (post.map toD) D' U:=by
  intro post
  induction post with
  | nil=>intro pre U e h; rw [append_nil] at e; subst e; exact fin U h
  | cons x post ih=>
    intro pre U e h
    rw [map_cons,e_Lp]
    have k:=fun U' h'=>ih (pre++[x]) U' (by rw [<- e]; simp) h'
    exact step pre x post (lpE g b (post.map toD) D') U e h k k rfl rfl
 exact gen xs [] U rfl h0
theorem zg1 {α:Type} {toD:α->D} (I:List α->List S->Env->Prop) (xs:List α)
  (step:∀ (pre:List α) (x:α) (post:List α) (l:List S) (U:Env) (vs:List (Option S)) (K:Env->Prop),pre++x::post=xs->vs.length=k->I pre l U->(∀ l' U1 vs',vs'.length=k->I (pre++[x]) l' U1->K (U1++some (.lst l')::vs'))->g (.sh (toD x)) (U++some (.lst l)::vs) (kbX c b K E))
  (fin:∀ l U vs,vs.length=k->I xs l U->Q (U++some (.lst l)::vs)) (hv:vs.length=k) (h0:I [] [] U):bLoop g c b (xs.map toD) (U++some (.lst [])::vs) Q E:=by
 refine zkd (fun pre U'=>∃ l U1 vs',vs'.length=k/\I pre l U1/\U'=U1++some (.lst l)::vs') xs (fun pre x post K U' e hI hK=>?_) (fun U' hI=>?_) ⟨[],U,vs,hv,h0,rfl⟩
 ·obtain ⟨l,U1,vs',h1,h2,rfl⟩:=hI
  exact step pre x post l U1 vs' K e h1 h2 fun l' U2 vs2 h3 h4=>hK _ ⟨l',U2,vs2,h3,h4,rfl⟩
 ·obtain ⟨l,U1,vs',h1,h2,rfl⟩:=hI
  exact fin l U1 vs' h1 h2
theorem zgZ {α:Type} {toD:α->D} (xs:List α) (h:α->Option S)
  (step:∀ x∈xs,∀ (l:List S) (vs:List (Option S)) (K:Env->Prop),vs.length=k->l.length < xs.length->(∀ vs',vs'.length=k->K (U++some (.lst (l++(h x).toList))::vs'))->g (.sh (toD x)) (U++some (.lst l)::vs) (kbX c b K E))
  (fin:∀ vs,vs.length=k->Q (U++some (.lst (xs.filterMap h))::vs)) (hv:vs.length=k):bLoop g c b (xs.map toD) (U++some (.lst [])::vs) Q E:=by
 refine zg1 (fun pre l U'=>U'=U/\l=pre.filterMap h) xs (fun pre x post l U' vs K e h1 h2 hK=>?_) (fun l U' vs h1 h2=>?_) hv ⟨rfl,rfl⟩
 ·obtain ⟨rfl,rfl⟩:=h2
  have hl:(pre.filterMap h).length < xs.length:=by
   have:=List.length_filterMap_le h pre
   rw [<- e]; simp only [length_append,length_cons]; lia
  refine step x (by rw [<- e]; simp) _ vs K h1 hl fun vs' h3=>hK _ _ vs' h3 ⟨rfl,?_⟩
  rw [List.filterMap_append]
  cases q:h x <;> simp [q]
 ·obtain ⟨rfl,rfl⟩:=h2
  exact fin vs h1
theorem len1v {vs:List (Option S)} (h:vs.length=1):∃ a,vs=[a]:=by
 match vs,h with
 | [a],_=>exact ⟨a,rfl⟩
theorem len2v {vs:List (Option S)} (h:vs.length=2):∃ a b,vs=[a,b]:=by
 match vs,h with
 | [a,b],_=>exact ⟨a,b,rfl⟩
section
variable {α:Type} {toD:α->D} {n:Nat} {c:WT} {b:WB} {E:WX} {Q:Env->Prop} {U:Env}
theorem bl1 (xs:List α) (h:α->Option S)
  (step:∀ x∈xs,∀ (l:List S) (o:Option S) (K:Env->Prop),l.length < xs.length->(∀ o,K (U.take n++[some (.lst (l++(h x).toList)),o]))->gName (n + 1) (.sh (toD x)) (U.take n++[some (.lst l),o]) (kbX c b K E))
  (fin:∀ o,Q (U.take n++[some (.lst (xs.filterMap h)),o])) (e:U=U.take n++[some (.lst []),o0]:=by rfl):bLoop (gName (n + 1)) c b (xs.map toD) U Q E:=by
 rw [e]
 refine zgZ (k:=1) xs h (fun x hx l vs K hv hl hK=>?_) (fun vs hv=>?_) rfl
 ·obtain ⟨a,rfl⟩:=len1v hv
  exact step x hx l a K hl fun o=>hK [o] rfl
 ·obtain ⟨a,rfl⟩:=len1v hv
  exact fin a
theorem bl2 (xs:List α) (h:α->Option S)
  (step:∀ x∈xs,∀ (l:List S) (o o':Option S) (K:Env->Prop),l.length < xs.length->(∀ o o',K (U.take n++[some (.lst (l++(h x).toList)),o,o']))->gTup [gName (n + 1),gName (n + 2)] (.sh (toD x)) (U.take n++[some (.lst l),o,o']) (kbX c b K E))
  (fin:∀ o o',Q (U.take n++[some (.lst (xs.filterMap h)),o,o'])) (e:U=U.take n++[some (.lst []),o0,o1]:=by rfl):bLoop (gTup [gName (n + 1),gName (n + 2)]) c b (xs.map toD) U Q E:=by
 rw [e]
 refine zgZ (k:=2) xs h (fun x hx l vs K hv hl hK=>?_) (fun vs hv=>?_) rfl
 ·obtain ⟨a,a',rfl⟩:=len2v hv
  exact step x hx l a a' K hl fun o o'=>hK [o,o'] rfl
 ·obtain ⟨a,a',rfl⟩:=len2v hv
  exact fin a a'
theorem bm1 (xs:List α) (h:α->S)
  (step:∀ x∈xs,∀ (l:List S) (o:Option S) (K:Env->Prop),l.length < xs.length->(∀ o,K (U.take n++[some (.lst (l++[h x])),o]))->gName (n + 1) (.sh (toD x)) (U.take n++[some (.lst l),o]) (kbX c b K E))
  (fin:∀ o,Q (U.take n++[some (.lst (xs.map h)),o])) (e:U=U.take n++[some (.lst []),o0]:=by rfl):bLoop (gName (n + 1)) c b (xs.map toD) U Q E:=
 bl1 xs (fun x=>some (h x)) step (fun o=>by rw [show (xs.filterMap fun x=>some (h x))=xs.map h from List.filterMap_eq_map ▸ rfl]; exact fin o) e
theorem bm2 (xs:List α) (h:α->S)
  (step:∀ x∈xs,∀ (l:List S) (o o':Option S) (K:Env->Prop),l.length < xs.length->(∀ o o',K (U.take n++[some (.lst (l++[h x])),o,o']))->gTup [gName (n + 1),gName (n + 2)] (.sh (toD x)) (U.take n++[some (.lst l),o,o']) (kbX c b K E))
  (fin:∀ o o',Q (U.take n++[some (.lst (xs.map h)),o,o'])) (e:U=U.take n++[some (.lst []),o0,o1]:=by rfl):bLoop (gTup [gName (n + 1),gName (n + 2)]) c b (xs.map toD) U Q E:=
 bl2 xs (fun x=>some (h x)) step (fun o o'=>by rw [show (xs.filterMap fun x=>some (h x))=xs.map h from List.filterMap_eq_map ▸ rfl]; exact fin o o') e
end
theorem bd1 {β:Type} (emb:β->S) (xs:List D) (I:Env->Prop) (P:β->Prop)
  (step:∀ x∈xs,∀ (U:Env) (A:List β) (o:Option S) (K:Env->Prop),I U->A.length < xs.length->(∀ U1 y o1,I U1->P y->K (U1++[some (.lst (A.map emb++[emb y])),o1]))->gName (n + 1) (.sh x) (U++[some (.lst (A.map emb)),o]) (kbX c b K E))
  (fin:∀ U (A:List β) o,I U->A.length=xs.length->(∀ y∈A,P y)->Q (U++[some (.lst (A.map emb)),o])) (h0:I (U.take n)) (e:U=U.take n++[some (.lst []),o0]:=by rfl):bLoop (gName (n + 1)) c b xs U Q E:=by
 rw [e]
 have:=zg1 (toD:=fun x:D=>x) (k:=1) (g:=gName (n + 1)) (c:=c) (b:=b) (E:=E) (Q:=Q) (fun pre l U'=>I U'/\∃ A:List β,l=A.map emb/\A.length=pre.length/\∀ y∈A,P y) xs (fun pre x post l U' vs K e h1 h2 hK=>?_) (fun l U' vs h1 h2=>?_) (U:=U.take n) (vs:=[o0]) rfl ⟨h0,[],rfl,rfl,fun y hy=>nomatch hy⟩
 ·rwa [List.map_id'] at this
 ·obtain ⟨hI,A,rfl,hA,hP⟩:=h2
  obtain ⟨a,rfl⟩:=len1v h1
  refine step x (by rw [<- e]; simp) U' A a K hI (by rw [hA,<- e]; simp only [length_append,length_cons]; lia) fun U1 y o1 h3 h4=>hK _ U1 [o1] rfl ⟨h3,A++[y],by simp,by simp [hA],fun z hz=>?_⟩
  grind
 grind [len1v]
theorem lpn (I:Nat->Env->Prop) (xs:List D)
  (step:∀ (k:Nat) (x:D),xs[k]?=some x->∀ (D2:Ends) (U:Env),I k U->(∀ U',I (k + 1) U'->D2.nx U')->(∀ U',I (k + 1) U'->D2.ct U')->D2.rt=D'.rt->D2.bk=D'.nx->g (.sh x) U (fun U=>b D2 U))
  (fin:∀ U,I xs.length U->D'.nx U) (h0:I 0 U):wLoop g b xs D' U:=by
 have:=zbI (toD:=fun x:D=>x) (g:=g) (b:=b) (D':=D') (fun pre U=>I pre.length U) xs (fun pre x post D2 U e hI hnx hct hrt hbk=>step pre.length x (by rw [<- e]; simp) D2 U hI (fun U' h=>hnx U' (by simpa using h)) (fun U' h=>hct U' (by simpa using h)) hrt hbk) fin h0
 rwa [List.map_id'] at this
theorem zf4:tupsD ((x::l).map D.str)=none:=rfl
theorem zgy:∀ l:List (List Nat),∀ d∈l.map D.str,IsStr d:=fun l d hd=>by
 obtain ⟨x,_,rfl⟩:=mem_map.mp hd
 trivial
theorem zgA (h64:l.length < 64) (ht:sortT l=none) (hk:(intsD l).isSome\/(strsD l).isSome):bSort3 [.lst l]=some (.lst ((sortD l).map .sh)):=by
 show sort3 _=_
 unfold sort3
 by_cases h2:l.length < 2
 ·rw [if_pos h2]
  match l,h2 with
  | [],_=>rfl
  | [_],_=>rfl
  | _::_::_,h2=>simp at h2; lia
 ·rw [if_neg h2,ht]
  show sortS l=_
  unfold sortS
  rw [if_pos ⟨h64,hk⟩]
theorem zel {l:List (List Nat)} (h64:l.length < 64):bSort3 [.lst (l.map .str)]=some (.lst ((sortD (l.map .str)).map .sh)):=by
 refine zgA (by simpa using h64) ?_ (.inr (by rw [zcM]; rfl))
 unfold sortT
 cases l with
 | nil=>rfl
 | cons x l=>rw [if_neg]; rw [zf4]; simp
theorem zkF:([a]:List Nat) < [b]↔a < b:=by simp [List.cons_lt_cons_iff]
theorem zia (h:A.length < 64):∃ A':List Nat,A'.Perm A/\A'.Pairwise (·<=·)/\bSort3 [.lst (A.map sg)]=some (.lst ((A'.map sg).map .sh)):=by
 have e:A.map sg=(A.map fun c=>[c]).map D.str:=by rw [map_map]; rfl
 obtain ⟨A',hp,e2⟩:=zib (zaF (A.map sg))
 refine ⟨A',hp,?_,?_⟩
 ·have hs:=zaP zdy (A.map sg) (by rw [e]; exact zgy _)
  rw [e2,pairwise_map] at hs
  refine hs.imp fun {a b} h=>?_
  have h':(!decide (([b]:List Nat) < [a]))=true:=by rw [<- zbK]; exact h
  grind [zkF]
 ·rw [e,zel (by simpa using h),<- e,e2]
theorem zeL {l:List Nat} (h:l.Pairwise (·<=·)) (hn:l.Nodup):l.Pairwise (· < ·):=by
 have:=h.and hn
 exact this.imp fun ⟨h1,h2⟩=>by lia
theorem zdL {α:Type} [DecidableEq α]:∀ (l m:List α),l.Nodup->(∀ x∈l,x∈m)->l.length<=m.length
 | [],m,_,_=>by simp
 | x::l,m,hn,hs=>by
   obtain ⟨h1,h2⟩:=nodup_cons.mp hn
   have hx:x∈m:=hs x (by simp)
   have:=zdL l (m.erase x) h2 fun y hy=>by
    refine (List.mem_erase_of_ne ?_).mpr (hs y (by simp [hy]))
    intro z; subst z; exact h1 hy
   rw [List.length_erase_of_mem hx] at this
   have hp:=List.length_pos_of_mem hx
   rw [length_cons]
   lia
theorem zeQ:∀ l:List D,(∀ d∈l,dep d<=n)->deps l<=n
 | [],_=>zero_le _
 | d::l,h=>by
   show max (dep d) (deps l)<=n
   have h1:=h d (by simp)
   have h2:=zeQ l fun x hx=>h x (by simp [hx])
   lia
theorem zin (h:deps l<=29):cNe (.lst l) (.lst [])=some (!l.isEmpty):=by
 unfold cNe cEq
 rw [if_neg (by
  have:dep (.lst l)=deps l + 1:=rfl
  rw [this]
  cases l with
  | nil=>exact fun z=>Bool.noConfusion (show false=true from z)
  | cons x l=>exact fun z=>absurd (of_decide_eq_true (show decide (30 < deps (x::l) + 1)=true from z)) (by lia))]
 cases l <;> simp
theorem vcons {α:Type} {l:List α} (h:l.length=n + 1):∃ a r,l=a::r/\r.length=n:=by
 cases l with
 | nil=>cases h
 | cons a r=>exact ⟨a,r,rfl,Nat.succ.inj h⟩
theorem vnil {α:Type} {l:List α} (h:l.length=0):l=[]:=List.length_eq_zero_iff.mp h
theorem vlen1 {α:Type} {l:List α} (h:l.length=1):∃ a,l=[a]:=by
 obtain ⟨a,r,rfl,k⟩:=vcons h
 obtain rfl:=vnil k
 exact ⟨a,rfl⟩
theorem vlen2 {α:Type} {l:List α} (h:l.length=2):∃ a0 a1,l=[a0,a1]:=by
 obtain ⟨a0,r,rfl,k⟩:=vcons h
 obtain ⟨a1,rfl⟩:=vlen1 k
 exact ⟨a0,a1,rfl⟩
theorem vlen3 {α:Type} {l:List α} (h:l.length=3):∃ a0 a1 a2,l=[a0,a1,a2]:=by
 obtain ⟨a0,r,rfl,k⟩:=vcons h
 obtain ⟨a1,a2,rfl⟩:=vlen2 k
 exact ⟨a0,a1,a2,rfl⟩
theorem vlen4 {α:Type} {l:List α} (h:l.length=4):∃ a0 a1 a2 a3,l=[a0,a1,a2,a3]:=by
 obtain ⟨a0,r,rfl,k⟩:=vcons h
 obtain ⟨a1,a2,a3,rfl⟩:=vlen3 k
 exact ⟨a0,a1,a2,a3,rfl⟩
theorem zgU (l:List α) (i j:Nat):cutL l (some (i:Int)) (some (j:Int))=(l.drop i).take (j - i):=by
 unfold cutL sIx
 have h1:¬ (i:Int) < 0:=by lia
 have h2:¬ (j:Int) < 0:=by lia
 simp only [if_neg h1,if_neg h2,toNat_natCast]
 by_cases hi:i<=l.length
 ·rw [Nat.min_eq_left hi]
  by_cases hj:j<=l.length
  ·rw [Nat.min_eq_left hj]
  ·rw [Nat.min_eq_right (by lia),take_of_length_le (by rw [length_drop]; lia),take_of_length_le (by rw [length_drop]; lia)]
 ·rw [Nat.min_eq_right (a:=i) (by lia),List.drop_of_length_le (i:=l.length) (le_refl _),List.drop_of_length_le (i:=i) (by lia),take_nil,take_nil]
def whE (D':Ends) (m:Nat) (J:Nat->Env->Prop):Ends:={ D' with nx:=fun U2=>∃ m',m' < m/\J m' U2,ct:=fun U2=>∃ m',m' < m/\J m' U2,bk:=D'.nx }
def kWh (b:WS) (D':Ends) (m:Nat) (J:Nat->Env->Prop) (k:Bool) (U:Env):Prop:=if k then b (whE D' m J) U else D'.nx U
theorem x_Wt:kWh b D' m J true U=b (whE D' m J) U:=rfl
theorem x_Wf:kWh b D' m J false U=D'.nx U:=rfl
theorem zho (hm:m' < m) (h:J m' U):(whE D' m J).nx U:=⟨m',hm,h⟩
theorem zjI (J:Nat->Env->Prop) (m:Nat) (h0:J m U) (h:∀ m U,J m U->c U (kWh b D' m J) D'.ex):wWhile c b D' U:=⟨J,⟨m,h0⟩,fun m U hJ=>h m U hJ⟩
end FL
end
noncomputable section
namespace Law
open FL
def w_1_b1:WS:=wIf (wCmp cEq (wVar 8) (wIfE (wCmp cEq (wVar 7) (wC (.int 1))) (wVar 4) (wVar 5))) (wExpr (wAppend 6 (wTup (wCons (wBin oAdd (wVar 2) (wVar 7)) (wCons (wVar 9) wNil))))) wPass
def u_1_b1 {D':Ends} {U:Env}:=uS (D':=D') (U:=U) w_1_b1.eq_1
def w_1:WF:=wFn 4 10 [0,1,2,3]
 (wSeq (wPar 4 5 (wCons (wSl (wVar 1) (some (wVar 2)) (some (wBin oAdd (wVar 2) (wC (.int 1))))) (wCons (wSl (wSl (wVar 1) none (some (wVar 2))) (some (wUn oNeg (wC (.int 1)))) none) wNil)))
  (wSeq (wAsg (gName 6) (wLst wNil))
  (wSeq (wFor (wIter (wIx (wIx (wVar 0) (wVar 3)) (wC (.int 1)))) (gTup [gName 7,gName 8,gName 9]) w_1_b1)
  (wRet (wVar 6)))))
def w_2:WF:=wFn 2 4 [0,1]
 (wSeq (wAsg (gName 2) (wBin oAdd (wBin oMulA (wC (.int 7919)) (wVar 1)) (wC (.int 11))))
  (wSeq (wIf (wCmp cLt (wVar 1) (wB bLen (wCons (wVar 0) wNil))) (wAsg (gName 2) (wIx (wVar 0) (wVar 1))) (wIf (wCmp cGt (wB bLen (wCons (wVar 0) wNil)) (wC (.int 0))) (wAsg (gName 2) (wBin oAdd (wVar 2) (wBin oMulA (wBin oMod (wIx (wVar 0) (wBin oMod (wVar 1) (wB bLen (wCons (wVar 0) wNil)))) (wC (.int 2147483629))) (wC (.int 69623))))) wPass))
  (wSeq (wAsg (gName 3) (wBin oAdd (wBin oMod (wBin oAdd (wBin oMulA (wBin oMod (wVar 2) (wC (.int 2147483629))) (wC (.int 48271))) (wBin oMulA (wC (.int 40692)) (wVar 1))) (wC (.int 2147483629))) (wC (.int 1))))
  (wRet (wLst (wCons (wIx (wLst (wCons (wC (.int 0)) (wCons (wVar 2) wNil))) (wB bInt (wCons (wOfT (wCmp cGe (wVar 2) (wBin oPow (wC (.int 10)) (wC (.int 18))))) wNil))) (wCons (wVar 3) wNil)))))))
def w_3:WF:=wFn 2 4 [0,1]
 (wSeq (wIf (wCmp cGt (wIx (wVar 0) (wC (.int 0))) (wC (.int 0))) (wSeq (wAsg (gName 2) (wBin oMod (wIx (wVar 0) (wC (.int 0))) (wVar 1)))
  (wSeq (wSetIx 0 (wC (.int 0)) (wBin oFdiv (wIx (wVar 0) (wC (.int 0))) (wVar 1)))
  (wRet (wVar 2)))) wPass)
  (wSeq (wAsg (gName 3) (wBin oMod (wBin oMulA (wIx (wVar 0) (wC (.int 1))) (wC (.int 69623))) (wC (.int 2147483647))))
  (wSeq (wSetIx 0 (wC (.int 1)) (wBin oAdd (wBin oMod (wBin oAdd (wBin oMulA (wVar 3) (wC (.int 48271))) (wC (.int 30103))) (wC (.int 2147483629))) (wC (.int 1))))
  (wRet (wBin oMod (wBin oFdiv (wBin oAdd (wBin oMulA (wVar 3) (wC (.int 2147483647))) (wIx (wVar 0) (wC (.int 1)))) (wC (.int 8191))) (wVar 1))))))
def w_7_b1:WS:=wSeq (wIf (wtAnd (wCmp cEq (wVar 5) (wC (.int 1))) (wCmp cEq (wSl (wVar 1) (some (wVar 2)) (some (wBin oAdd (wVar 2) (wC (.int 1))))) (wVar 6))) (wExpr (wAppend 4 (wTup (wCons (wBin oAdd (wVar 2) (wC (.int 1))) (wCons (wVar 7) wNil))))) wPass)
  (wIf (wtAnd (wCmp cEq (wVar 5) (wUn oNeg (wC (.int 1)))) (wtAnd (wCmp cGt (wVar 2) (wC (.int 0))) (wCmp cEq (wIx (wVar 1) (wBin oSub (wVar 2) (wC (.int 1)))) (wVar 6)))) (wExpr (wAppend 4 (wTup (wCons (wBin oSub (wVar 2) (wC (.int 1))) (wCons (wVar 7) wNil))))) wPass)
def u_7_b1 {D':Ends} {U:Env}:=uS (D':=D') (U:=U) w_7_b1.eq_1
def w_7:WF:=wFn 4 8 [0,1,2,3]
 (wSeq (wAsg (gName 4) (wLst wNil))
  (wSeq (wFor (wIter (wIx (wIx (wVar 0) (wVar 3)) (wC (.int 1)))) (gTup [gName 5,gName 6,gName 7]) w_7_b1)
  (wRet (wVar 4))))
def w_0_b1:WS:=wIf (wCmp cNotInA (wVar 7) (wVar 4)) (wSeq (wDput 4 (wVar 7) (wC (.bl true)))
  (wExpr (wAppend 3 (wVar 7)))) wPass
def u_0_b1 {D':Ends} {U:Env}:=uS (D':=D') (U:=U) w_0_b1.eq_1
def w_0_b2:WS:=wSeq (wAsg (gTup [gName 5,gName 6]) (wPop 3))
  (wSeq (wIf (wtAnd (wCmp cEq (wVar 5) (wB bLen (wCons (wVar 2) wNil))) (wTest (wIx (wIx (wVar 1) (wVar 6)) (wC (.int 0))))) (wRet (wC (.bl true))) wPass)
  (wFor (wIter (wCall w_1 [true,true,true,true] (wCons (wVar 1) (wCons (wVar 2) (wCons (wVar 5) (wCons (wVar 6) wNil)))))) (gName 7) w_0_b1))
def u_0_b2 {D':Ends} {U:Env}:=uS (D':=D') (U:=U) w_0_b2.eq_1
def w_0:WF:=wFn 3 8 [0,1,2]
 (wSeq (wAsg (gName 3) (wLst (wCons (wTup (wCons (wC (.int 0)) (wCons (wC (.int 0)) wNil))) wNil)))
  (wSeq (wAsg (gName 4) (wDispT (wTup (wCons (wC (.int 0)) (wCons (wC (.int 0)) wNil))) (wC (.bl true))))
  (wSeq (wWhile (wTest (wVar 3)) w_0_b2)
  (wRet (wC (.bl false))))))
def w_4_c1:WB:=bEmit 3 (wFrz (wPopAt 2 (wCall w_3 [true,true] (wCons (wVar 0) (wCons (wB bLen (wCons (wVar 2) wNil)) wNil)))))
def u_4_c1 {Q:Env->Prop} {E:WX} {U:Env}:=uB (U:=U) (Q:=Q) (E:=E) w_4_c1.eq_1
def w_4:WF:=wFn 2 3 [0,1]
 (wSeq (wAsg (gName 2) (wB bListA (wCons (wC (.str [97,98,99,100,101,102,103,104,105,106,107,108,109,110,111,112,113,114,115,116,117,118,119,120,121,122])) wNil)))
  (wRet (wMS mJoin (wC (.str [])) (wCons (wB bSort3 (wCons (wLC 3 1 (wRange1 (wVar 1)) (gName 4) wYes w_4_c1) wNil)) wNil))))
def w_5_c1:WB:=bEmit 4 (wIx (wVar 1) (wCall w_3 [true,true] (wCons (wVar 0) (wCons (wB bLen (wCons (wVar 1) wNil)) wNil))))
def u_5_c1 {Q:Env->Prop} {E:WX} {U:Env}:=uB (U:=U) (Q:=Q) (E:=E) w_5_c1.eq_1
def w_5:WF:=wFn 3 4 [0,1,2]
 (wSeq (wAsg (gName 3) (wBin oMulA (wCall w_3 [true,true] (wCons (wVar 0) (wCons (wBin oAdd (wVar 2) (wC (.int 1))) wNil))) (wB bInt (wCons (wOfT (wCmp cNe (wVar 1) (wC (.str [])))) wNil))))
  (wRet (wMS mJoin (wC (.str [])) (wCons (wLC 4 1 (wRange1 (wVar 3)) (gName 5) wYes w_5_c1) wNil))))
def w_6_b1:WS:=wSeq (wAsg (gName 9) (wIx (wLst (wCons (wC (.int 1)) (wCons (wC (.int 1)) (wCons (wUn oNeg (wC (.int 1))) wNil)))) (wCall w_3 [true,true] (wCons (wVar 0) (wCons (wC (.int 3)) wNil)))))
  (wExpr (wAppend 7 (wTup (wCons (wVar 9) (wCons (wIx (wVar 1) (wCall w_3 [true,true] (wCons (wVar 0) (wCons (wB bLen (wCons (wVar 1) wNil)) wNil)))) (wCons (wCall w_3 [true,true] (wCons (wVar 0) (wCons (wVar 4) wNil))) wNil))))))
def u_6_b1 {D':Ends} {U:Env}:=uS (D':=D') (U:=U) w_6_b1.eq_1
def w_6_b2:WS:=wSeq (wAsg (gName 7) (wLst wNil))
  (wSeq (wFor (wRange1 (wCall w_3 [true,true] (wCons (wVar 0) (wCons (wBin oAdd (wVar 3) (wC (.int 1))) wNil)))) (gName 8) w_6_b1)
  (wExpr (wAppend 5 (wTup (wCons (wOfT (wCmp cEq (wCall w_3 [true,true] (wCons (wVar 0) (wCons (wC (.int 3)) wNil))) (wC (.int 0)))) (wCons (wB bTuple (wCons (wVar 7) wNil)) wNil))))))
def u_6_b2 {D':Ends} {U:Env}:=uS (D':=D') (U:=U) w_6_b2.eq_1
def w_6:WF:=wFn 4 10 [0,1,2,3]
 (wSeq (wAsg (gName 4) (wBin oAdd (wC (.int 1)) (wCall w_3 [true,true] (wCons (wVar 0) (wCons (wVar 2) wNil)))))
  (wSeq (wAsg (gName 5) (wLst wNil))
  (wSeq (wFor (wRange1 (wVar 4)) (gName 6) w_6_b2)
  (wRet (wB bTuple (wCons (wVar 5) wNil))))))
def w_8_c1:WB:=bEmit 8 (wTup (wCons (wVar 9) (wCons (wC (.bl true)) wNil)))
def u_8_c1 {Q:Env->Prop} {E:WX} {U:Env}:=uB (U:=U) (Q:=Q) (E:=E) w_8_c1.eq_1
def w_8_b2:WS:=wIf (wCmp cNotInA (wVar 7) (wVar 3)) (wSeq (wDput 3 (wVar 7) (wC (.bl true)))
  (wExpr (wAppend 4 (wVar 7)))) wPass
def u_8_b2 {D':Ends} {U:Env}:=uS (D':=D') (U:=U) w_8_b2.eq_1
def w_8_b3:WS:=wSeq (wAsg (gTup [gName 5,gName 6]) (wPop 4))
  (wFor (wIter (wCall w_7 [true,true,true,true] (wCons (wVar 0) (wCons (wVar 1) (wCons (wVar 5) (wCons (wVar 6) wNil)))))) (gName 7) w_8_b2)
def u_8_b3 {D':Ends} {U:Env}:=uS (D':=D') (U:=U) w_8_b3.eq_1
def w_8:WF:=wFn 3 8 [0,1,2]
 (wSeq (wAsg (gName 3) (wB bDict1 (wCons (wLC 8 1 (wIter (wVar 2)) (gName 9) wYes w_8_c1) wNil)))
  (wSeq (wAsg (gName 4) (wB bListA (wCons (wVar 2) wNil)))
  (wSeq (wWhile (wCmp cNe (wVar 4) (wLst wNil)) w_8_b3)
  (wRet (wB bListD (wCons (wVar 3) wNil))))))
def w_9_c1:WB:=bEmit 2 (wAndV (wOfT (wCmp cEq (wVar 3) (wB bLen (wCons (wVar 1) wNil)))) (wIx (wIx (wVar 0) (wVar 4)) (wC (.int 0))))
def u_9_c1 {Q:Env->Prop} {E:WX} {U:Env}:=uB (U:=U) (Q:=Q) (E:=E) w_9_c1.eq_1
def w_9:WF:=wFn 2 2 [0,1]
 (wRet (wOfT (wCmp cInA (wC (.bl true)) (wLC 2 2 (wIter (wCall w_8 [true,true,true] (wCons (wVar 0) (wCons (wVar 1) (wCons (wFrz (wLst (wCons (wTup (wCons (wC (.int 0)) (wCons (wC (.int 0)) wNil))) wNil))) wNil))))) (gTup [gName 3,gName 4]) wYes w_9_c1))))
def w_10_c1:WB:=bEmit 9 (wCall w_5 [true,true,true] (wCons (wVar 3) (wCons (wVar 4) (wCons (wC (.int 12)) wNil))))
def u_10_c1 {Q:Env->Prop} {E:WX} {U:Env}:=uB (U:=U) (Q:=Q) (E:=E) w_10_c1.eq_1
def w_10_c2:WB:=bEmit 9 (wTup (wCons (wVar 4) (wCons (wVar 5) (wCons (wVar 10) wNil))))
def u_10_c2 {Q:Env->Prop} {E:WX} {U:Env}:=uB (U:=U) (Q:=Q) (E:=E) w_10_c2.eq_1
def w_10_b3:WS:=wSeq (wAsg (gName 3) (wCall w_2 [true,true] (wCons (wVar 0) (wCons (wVar 2) wNil))))
  (wSeq (wAsg (gName 4) (wCall w_4 [true,true] (wCons (wVar 3) (wCons (wBin oAdd (wC (.int 1)) (wCall w_3 [true,true] (wCons (wVar 3) (wCons (wC (.int 2)) wNil)))) wNil))))
  (wSeq (wAsg (gName 5) (wFrz (wCall w_6 [true,true,true,true] (wCons (wVar 3) (wCons (wVar 4) (wCons (wC (.int 4)) (wCons (wC (.int 5)) wNil)))))))
  (wSeq (wAsg (gName 6) (wFrz (wBin oAdd (wLst (wCons (wC (.str [])) wNil)) (wLC 9 1 (wRange1 (wC (.int 6))) (gName 10) wYes w_10_c1))))
  (wExpr (wExtend 1 (wLC 9 1 (wIter (wVar 6)) (gName 10) wYes w_10_c2))))))
def u_10_b3 {D':Ends} {U:Env}:=uS (D':=D') (U:=U) w_10_b3.eq_1
def w_10_b4:WS:=wSeq (wAsg (gName 8) (wFrz (wCall w_0 [true,true,true] (wCons (wVar 4) (wCons (wVar 5) (wCons (wVar 7) wNil))))))
  (wIf (wtOr (wtNot (wTest (wIsI "bool" (wVar 8)))) (wCmp cNe (wVar 8) (wCall w_9 [true,true] (wCons (wVar 5) (wCons (wVar 7) wNil))))) (wRet (wC (.bl false))) wPass)
def u_10_b4 {D':Ends} {U:Env}:=uS (D':=D') (U:=U) w_10_b4.eq_1
def w_10:WF:=wFn 1 9 [0]
 (wSeq (wAsg (gName 1) (wLst wNil))
  (wSeq (wFor (wRange1 (wB bMax (wCons (wC (.int 3)) (wCons (wB bMin (wCons (wB bLen (wCons (wVar 0) wNil)) (wCons (wC (.int 7)) wNil))) wNil)))) (gName 2) w_10_b3)
  (wSeq (wFor (wIter (wBin oAdd (wVar 1) (wSl (wVar 1) none (some (wC (.int 3)))))) (gTup [gName 4,gName 5,gName 7]) w_10_b4)
  (wRet (wC (.bl true))))))
end Law
end
end
section
namespace Law
open FL
variable {P:S->List S->Prop} {PX:D->List S->Prop}
set_option hygiene false in
local macro_rules
 | `(tactic| simp! [$xs,*] $[$l:location]?)=>do
   let ls <- ("e_C e_V zmN zjb zjl e_Un zlK zlX e_Ck zmF zkQ ziQ zjG zhr zhl zna zjN zjA e_Or zmg zlC zkm zmk zj1 zlk ziU zkC zje zhu zhN zhU zlG zkB zhW zhZ zm1 e_gA znu zlA e_gv zmP zjf zjO zlv zka zkD e_l0 e_l1 e_l2 e_l3 e_vv e_vl e_cv e_cl zkq e_sh zas zmO e_Ix zmU zmv zkS ziB zly zlI zlD zli zm3 znj zku zjC zju e_p0 e_pv e_pl zne e_pA e_b0 e_bv e_bl zkR zie zhw zjj zla e_vA zmm e_B e_B1 e_B2 e_MS zmp zm5 e_Ap zlT zmx zmA zm8 zlF zky zjS znt ziC zhC e_Xt zl3 zl0 zk3 zlo e_Pt znv zmw e_Sl znn zm2 zlN zm6 e_nx e_rt e_ex zj7 zlu e_If zmy zmS zlj zjL zhK zmi zjm zjQ zmf zj6 zjY zi5 e_gN e_gT zld zmb zlJ zlw znf zkH ziH zj5 zjD ziy zii e_Dp zmc zk0 zmG zmZ zjR e_It znq zl6 zle zk9 zmH e_R1 zmM zml zm4 ziL e_LC zmC zl5 zi4 zlH ziG zl8 e_Em zln zme zmL zk5 zms e_Rt zlm zlP e_Fn e_f0 e_fs e_fl e_fA zlU zkp zl4 zi6 zlg zjh zlQ zk4 e_lt e_gt e_ge zno zj8 znp ziR zmd znr ziE ziT ziz zi2 zkv zkO zl2 zlc zmn zng zlW zmu zmh zlq zmV zk7 zmQ zlR zmI zlE zlZ zmX zlx znc zns znm zmW zlz zlp zlt zmY zl7 zlS zl1 zmo zni zmT znh zk8 zmt zk2 zma zk6 znb zm7 zlr zmr znl zlO zlB ziM zi9 zji zkM ziP zkb zjM zkV zkA zmj zlb zkt zl9 zkK zjq zkf zkP e_Pp zlL e_Dt zmB zmq zmJ zhf zj3 Option.map_some S.toD_sh S.toD_lst map_cons map_nil cons_append nil_append List.replicate_succ List.replicate_zero Nat.reduceSub Nat.reduceAdd append_nil List.take_succ_cons take_zero true_and S.toDs_map S.toD_dct Int.reduceEq Int.reduceLT Int.reduceLE decide_true decide_false Bool.not_true Bool.not_false".splitOn " ").toArray.mapM fun n=>`(Lean.Parser.Tactic.simpLemma| $(Lean.mkIdent n.toName):ident)
   let ls:=ls++xs.getElems
   `(tactic| simp -implicitDefEqProofs (disch:=first | omega | decide | rfl | (simp only [length_map,length_append,length_cons,length_nil,length_range,zah]; omega) | (simp only [length_map,length_append,length_cons,length_nil,length_range,zah]; done)) only [$ls,*] $[$l:location]?)
noncomputable section pu
def box (a s:Int):S:=.lst [.sh (.int a),.sh (.int s)]
theorem zao {a s m:Int} (ha:0<=a) (hs:1<=s) (hs2:s<=2147483629) (hm:0 < m) (hm2:m < 18446744073709551616)
  (h:∀ r a' s',0<=r->r < m->0<=a'->1<=s'->s'<=2147483629->P (.sh (.int r)) [box a' s',.sh (.int m)]):w_3 [box a s,.sh (.int m)] P PX:=by
 refine zbX rfl rfl ?_
 simp! [box]
 cases hc:decide (0 < a)
 ·simp! [e_C]
  exact h _ _ _ (Int.emod_nonneg _ (by lia)) (Int.emod_lt_of_pos _ hm) ha (by lia) (by lia)
 ·simp! [e_C]
  exact h _ _ _ (Int.emod_nonneg _ (by lia)) (Int.emod_lt_of_pos _ hm) (Int.ediv_nonneg ha (by lia)) hs hs2
theorem zgj {ns:List Int} {k:Int} (hk:0<=k)
  (h:∀ a s,0<=a->1<=s->s<=2147483629->P (box a s) [.sh (.lst (ns.map .int)),.sh (.int k)]):w_2 [.sh (.lst (ns.map .int)),.sh (.int k)] P PX:=by
 refine zbX rfl rfl ?_
 simp! [length_map]
 by_cases h1:k < ns.length
 ·obtain ⟨v,hv,_,e⟩:=zfe (f:=D.int) hk h1
  simp! [length_map,h1,decide_true,e]
  cases hc:decide ((10:Int) ^ (18:Int).toNat<=v)
  ·simp! [if_true,false_eq_true,if_false]
   exact h _ _ (by decide) (by lia) (by lia)
  ·simp! [if_true]
   have:(0:Int)<=v:=by
    have:=of_decide_eq_true hc
    have e:(10:Int) ^ (18:Int).toNat=1000000000000000000:=by decide
    lia
   exact h _ _ this (by lia) (by lia)
 ·by_cases h2:0 < ns.length
  ·have hp:(0:Int) < ns.length:=by lia
   obtain ⟨v,hv,_,e⟩:=zfe (f:=D.int) (l:=ns) (z:=k % ns.length) (Int.emod_nonneg _ (by lia)) (Int.emod_lt_of_pos _ hp)
   simp! [length_map,h1,hp,decide_true,decide_false,e]
   generalize 7919 * k + 11 + v % 2147483629 * 69623=cell
   cases hc:decide ((10:Int) ^ (18:Int).toNat<=cell)
   ·simp! [if_true,false_eq_true,if_false]
    exact h _ _ (by decide) (by lia) (by lia)
   ·simp! [if_true]
    have:(0:Int)<=cell:=by
     have:=of_decide_eq_true hc
     have e:(10:Int) ^ (18:Int).toNat=1000000000000000000:=by decide
     lia
    exact h _ _ this (by lia) (by lia)
  ·have hp:¬ (0:Int) < ns.length:=by lia
   simp! [length_map,h1,hp,decide_true,decide_false]
   generalize 7919 * k + 11=cell
   cases hc:decide ((10:Int) ^ (18:Int).toNat<=cell)
   ·simp! [if_true,false_eq_true,if_false]
    exact h _ _ (by decide) (by lia) (by lia)
   ·simp! [if_true]
    have:(0:Int)<=cell:=by
     have:=of_decide_eq_true hc
     have e:(10:Int) ^ (18:Int).toNat=1000000000000000000:=by decide
     lia
    exact h _ _ this (by lia) (by lia)
def letters:List Nat:=[97,98,99,100,101,102,103,104,105,106,107,108,109,110,111,112,113,114,115,116,117,118,119,120,121,122]
theorem zgo {Q:Env->Prop} {E:WX} {m:Int}:∀ (xs:List D) (a s:Int) (L A:List Nat) (o:Option S),xs.length<=L.length->0<=a->1<=s->s<=2147483629->(A++L).Perm letters->
  (∀ a' s' (L' A':List Nat) o',0<=a'->1<=s'->s'<=2147483629->A'.length=A.length + xs.length->(A'++L').Perm letters->Q [some (box a' s'),some (.sh (.int m)),some (.lst ((L'.map sg).map .sh)),some (.lst ((A'.map sg).map .sh)),o'])->
  bLoop (gName 4) wYes w_4_c1 xs [some (box a s),some (.sh (.int m)),some (.lst ((L.map sg).map .sh)),some (.lst ((A.map sg).map .sh)),o] Q E:=by
 intro xs
 induction xs with
 | nil=>
   intro a s L A o h1 ha hs hs2 hnd h
   exact h a s L A o ha hs hs2 (by simp) hnd
 | cons x xs ih=>
   intro a s L A o h1 ha hs hs2 hnd h
   have hlen:=hnd.length_eq
   have h26:letters.length=26:=rfl
   simp only [length_cons,length_append] at h1 h hlen
   rw [e_bL]
   simp! [u_4_c1,e_sh,zas,box,length_map]
   refine zao ha hs hs2 ?_ ?_ fun r a' s' hr hr2 ha' hs' hs2'=>?_
   ·lia
   ·lia
   simp! [e_sh,zas,box,length_map]
   obtain ⟨c,hc,hg,_⟩:=zeU (l:=L) hr hr2
   refine ziV hr (by simp only [length_map,zah]; lia) (zd8 (d:=sg c) (by rw [getElem?_map,hg]; rfl)) ?_
   simp! [e_sh,zas,box,length_map]
   refine ⟨by simp only [zah]; lia,?_⟩
   have e1:((L.map sg).map S.sh).eraseIdx r.toNat=((L.eraseIdx r.toNat).map sg).map S.sh:=by rw [zbP,zbP]
   have e2:((A.map sg).map S.sh)++[S.sh (sg c)]=(((A++[c]).map sg).map S.sh):=by simp
   rw [e1,e2]
   have hlt:r.toNat < L.length:=by lia
   have hl:(L.eraseIdx r.toNat).length=L.length - 1:=List.length_eraseIdx_of_lt hlt
   have hgc:L[r.toNat]=c:=by rw [getElem?_eq_getElem hlt] at hg; exact qg hg
   have hperm:(A++[c]++L.eraseIdx r.toNat).Perm (A++L):=by
    rw [append_assoc]
    refine List.Perm.append_left A ?_
    have:=zb2 L r.toNat hlt
    rw [hgc] at this
    exact this
   refine ih a' s' _ _ _ (by lia) ha' hs' hs2' (hperm.trans hnd) fun a2 s2 L' A' o' x1 x2 x3 x4 x5=>h a2 s2 L' A' o' x1 x2 x3 (by rw [x4]; simp only [length_append,length_singleton]; lia) x5
theorem zcQ {a s m:Int} (ha:0<=a) (hs:1<=s) (hs2:s<=2147483629) (hm:0<=m) (hm2:m<=26)
  (h:∀ (l:List Nat) a' s',l.length=m.toNat->l.Pairwise (· < ·)->(∀ c∈l,97<=c/\c<=122)->0<=a'->1<=s'->s'<=2147483629->P (.sh (.str l)) [box a' s',.sh (.int m)]):w_4 [box a s,.sh (.int m)] P PX:=by
 refine zbX rfl rfl ?_
 simp! [box,e_sh,zas]
 refine ⟨by simp only [zah]; lia,?_⟩
 have hf:(fromTo 0 m.toNat).length=m.toNat:=zaq
 have h26:letters.length=26:=rfl
 refine zgo (fromTo 0 m.toNat) a s letters [] none (by rw [hf,h26]; lia) ha hs hs2 (List.Perm.refl _)
  fun a' s' L' A' o' ha' hs' hs2' hA hpm=>?_
 rw [hf,length_nil,Nat.zero_add] at hA
 have hnd:A'.Nodup:=(nodup_append.mp (hpm.nodup_iff.mpr (by decide))).1
 have hle:∀ c∈A',97<=c/\c<=122:=fun c hc=>by
  have:c∈letters:=hpm.mem_iff.mp (qk _ hc)
  have hall:∀ c∈letters,97<=c/\c<=122:=by decide
  exact hall c this
 obtain ⟨A2,hp,hso,e⟩:=zia (A:=A') (by lia)
 have hl:A2.length=m.toNat:=hp.length_eq.trans hA
 simp! [box,e_sh,zas,e,zfO (show A2.length<=big by simp only [zah]; lia)]
 exact h A2 a' s' hl (zeL hso (hp.nodup_iff.mpr hnd)) (fun c hc=>hle c (hp.mem_iff.mp hc)) ha' hs' hs2'
theorem zfx {Q:Env->Prop} {E:WX} {m many:Int} {col:List Nat} (hc:0 < col.length) (hc2:col.length<=26):∀ (xs:List D) (a s:Int) (A:List Nat) (o:Option S),0<=a->1<=s->s<=2147483629->A.length + xs.length<=1000->
  (∀ a' s' (A':List Nat) o',0<=a'->1<=s'->s'<=2147483629->A'.length=A.length + xs.length->(∀ z∈A',z∈A\/z∈col)->Q [some (box a' s'),some (.sh (.str col)),some (.sh (.int m)),some (.sh (.int many)),some (.lst ((A'.map sg).map .sh)),o'])->
  bLoop (gName 5) wYes w_5_c1 xs [some (box a s),some (.sh (.str col)),some (.sh (.int m)),some (.sh (.int many)),some (.lst ((A.map sg).map .sh)),o] Q E:=by
 intro xs
 induction xs with
 | nil=>
   intro a s A o ha hs hs2 h3 h
   exact h a s A o ha hs hs2 (by simp) fun z hz=>.inl hz
 | cons x xs ih=>
   intro a s A o ha hs hs2 h3 h
   simp only [length_cons] at h3 h
   rw [e_bL]
   simp! [u_5_c1,e_sh,zas,box,length_map]
   refine zao ha hs hs2 (by lia) (by lia) fun r a' s' hr hr2 ha' hs' hs2'=>?_
   obtain ⟨c,hcm,_,e⟩:=zeU (l:=col) hr hr2
   simp! [e,e_sh,zas,box,length_map]
   refine ⟨by simp only [zah]; lia,?_⟩
   have e2:((A.map sg).map S.sh)++[S.sh (.str [c])]=(((A++[c]).map sg).map S.sh):=by simp [sg]
   rw [e2]
   refine ih a' s' _ _ ha' hs' hs2' (by simp only [length_append,length_singleton]; lia) fun a2 s2 A' o' x1 x2 x3 x4 x5=>h a2 s2 A' o' x1 x2 x3 (by rw [x4]; simp only [length_append,length_singleton]; lia) fun z hz=>?_
   rcases x5 z hz with q | q
   ·rcases mem_append.mp q with q | q
    ·exact .inl q
    ·rw [mem_singleton.mp q]; exact .inr hcm
   ·exact .inr q
theorem zeW {a s m:Int} {col:List Nat} (ha:0<=a) (hs:1<=s) (hs2:s<=2147483629) (hm:0<=m) (hm2:m<=900) (hc:0 < col.length) (hc2:col.length<=26)
  (h:∀ (l:List Nat) a' s',l.length<=m.toNat->(∀ z∈l,z∈col)->0<=a'->1<=s'->s'<=2147483629->P (.sh (.str l)) [box a' s',.sh (.str col),.sh (.int m)]):w_5 [box a s,.sh (.str col),.sh (.int m)] P PX:=by
 refine zbX rfl rfl ?_
 simp! [box,e_sh,zas]
 refine zao ha hs hs2 (by lia) (by lia) fun r a1 s1 hr hr2 ha1 hs1 hs21=>?_
 have hne:(decide (col=[]))=false:=by simp; intro z; rw [z] at hc; simp at hc
 simp! [box,e_sh,zas,hne,Bool.not_false,if_true,Int.mul_one]
 refine ⟨by simp only [zah]; lia,?_⟩
 have hf:(fromTo 0 r.toNat).length=r.toNat:=zaq
 refine zfx (A:=[]) hc hc2 _ a1 s1 none ha1 hs1 hs21 (by rw [hf]; simp only [length_nil]; lia) fun a' s' A' o' ha' hs' hs2' hA hg=>?_
 rw [hf,length_nil,Nat.zero_add] at hA
 simp! [box,e_sh,zas]
 rw [zfO (by simp only [zah]; lia)]
 simp! [box,e_sh,zas]
 exact h A' a' s' (by lia) (fun z hz=>(hg z hz).resolve_left (by simp)) ha' hs' hs2'
abbrev Go:=Bool×Nat×Nat
def wayI (b:Bool):Int:=if b then 1 else -1
def goD (g:Go):D:=.tup [.int (wayI g.1),.str [g.2.1],.int (g.2.2:Int)]
abbrev Row:=Bool×List Go
def rowD (r:Row):D:=.tup [.bl r.1,.tup (r.2.map goD)]
abbrev Sd:=Nat×Nat
def sdD (s:Sd):D:=.tup [.int (s.1:Int),.int (s.2:Int)]
theorem zeP {a b:Sd} (h:sdD a=sdD b):a=b:=by
 simp only [sdD,D.tup.injEq,List.cons.injEq,D.int.injEq,Int.ofNat_inj,and_true] at h
 exact Prod.ext h.1 h.2
def nxt (w:List Nat) (p:Nat) (g:Go):Option Sd:=
 if g.1 then (if w[p]?=some g.2.1 then some (p + 1,g.2.2) else none) else if 0 < p/\w[p - 1]?=some g.2.1 then some (p - 1,g.2.2) else none
def nexts (rows:List Row) (w:List Nat) (s:Sd):List Sd:=match rows[s.2]? with
 | some r=>r.2.filterMap (nxt w s.1)
 | none=>[]
def goodR (rows:List Row):Prop:=0 < rows.length/\rows.length<=4/\∀ r∈rows,r.2.length<=5/\∀ g∈r.2,g.2.2 < rows.length
def acc (rows:List Row) (w:List Nat) (s:Sd):Prop:=s.1=w.length/\∃ r,rows[s.2]?=some r/\r.1=true
def inS (rows:List Row) (w:List Nat) (s:Sd):Prop:=s.1<=w.length/\s.2 < rows.length
theorem zdW {rows:List Row} {w:List Nat} {s t:Sd} (hg:goodR rows) (hs:inS rows w s) (h:t∈nexts rows w s):inS rows w t:=by
 unfold nexts at h
 split at h
 ·rename_i r hr
  obtain ⟨g,hgm,he⟩:=mem_filterMap.mp h
  have hgo:=(hg.2.2 r (mem_of_getElem? hr)).2 g hgm
  have h1:=hs.1
  unfold nxt at he
  split at he
  ·split at he
   ·rename_i hw
    cases he
    have:=(qh.mp hw).1
    exact ⟨by show s.1 + 1<=w.length; lia,hgo⟩
   ·cases he
  ·split at he
   ·cases he
    exact ⟨by show s.1 - 1<=w.length; lia,hgo⟩
   ·cases he
 ·cases h
inductive Rch (rows:List Row) (w:List Nat):Sd->Prop
 | start:Rch rows w (0,0)
 | step {s t:Sd}:Rch rows w s->t∈nexts rows w s->Rch rows w t
theorem Rch.in_ {rows:List Row} {w:List Nat} {s:Sd} (hg:goodR rows) (h:Rch rows w s):inS rows w s:=by
 induction h with
 | start=>exact ⟨zero_le _,hg.1⟩
 | step _ h ih=>exact zdW hg ih h
structure Seen (rows:List Row) (w:List Nat) (f:Sd->Prop) (seen left:List Sd):Prop where
 st:(0,0)∈seen
 nd:seen.Nodup
 re:∀ s∈seen,Rch rows w s
 cl:∀ s∈seen,s∈left\/f s/\∀ t∈nexts rows w s,t∈seen
 sub:∀ s∈left,s∈seen
 ln:left.length<=seen.length
theorem Seen.start {rows:List Row} {w:List Nat} {f:Sd->Prop}:Seen rows w f [(0,0)] [(0,0)]:=
 ⟨List.mem_singleton_self _,by simp,fun s hs=>by rw [mem_singleton.mp hs]; exact .start,fun s hs=>.inl hs,fun s hs=>hs,le_refl _⟩
theorem Seen.done {rows:List Row} {w:List Nat} {f:Sd->Prop} {seen:List Sd} (h:Seen rows w f seen []) {s:Sd} (hr:Rch rows w s):s∈seen/\f s:=by
 have key:∀ s,Rch rows w s->s∈seen:=fun s hr=>by
  induction hr with
  | start=>exact h.st
  | step _ ht ih=>
    rcases h.cl _ ih with q | q
    ·cases q
    ·exact q.2 _ ht
 refine ⟨key s hr,?_⟩
 rcases h.cl _ (key s hr) with q | q
 ·cases q
 ·exact q.1
theorem Seen.push {rows:List Row} {w:List Nat} {f:Sd->Prop} {seen left new:List Sd} {s:Sd} (h:Seen rows w f seen (left++[s])) (hf:f s) (hnd:(seen++new).Nodup) (hn:∀ t∈new,t∈nexts rows w s) (ha:∀ t∈nexts rows w s,t∈seen++new):Seen rows w f (seen++new) (left++new):=by
 have hs:s∈seen:=h.sub s (by simp)
 refine ⟨qk _ h.st,hnd,fun t ht=>?_,fun t ht=>?_,fun t ht=>?_,by have:=h.ln; simp only [length_append,length_singleton] at this ⊢; lia⟩
 ·rcases mem_append.mp ht with q | q
  ·exact h.re t q
  ·exact .step (h.re s hs) (hn t q)
 ·rcases mem_append.mp ht with q | q
  ·rcases h.cl t q with z | z
   ·rcases mem_append.mp z with z | z
    ·exact .inl (qk _ z)
    ·rw [mem_singleton.mp z]
     exact .inr ⟨hf,ha⟩
   ·exact .inr ⟨z.1,fun u hu=>qk _ (z.2 u hu)⟩
  ·exact .inl (qj _ q)
 ·rcases mem_append.mp ht with q | q
  ·exact qk _ (h.sub t (qk _ q))
  ·exact qj _ q
theorem zcA {rows:List Row} {w:List Nat} {seen:List Sd} (hg:goodR rows) (hw:w.length<=12) (hn:seen.Nodup) (hs:∀ s∈seen,inS rows w s):seen.length<=52:=by
 have:=zdL seen ((List.range 13).flatMap fun p=>(List.range 4).map fun r=>(p,r)) hn fun s h=>by
  obtain ⟨h1,h2⟩:=hs s h
  have:=hg.2.1
  exact List.mem_flatMap.mpr ⟨s.1,mem_range.mpr (by lia),mem_map.mpr ⟨s.2,mem_range.mpr (by lia),rfl⟩⟩
 exact le_trans this (by decide)
def dctT (seen:List Sd):S:=.dct true (seen.map sdD) (seen.map fun _=>S.sh (.bl true))
theorem zeB {s:Sd} {seen:List Sd}:sdD s∈seen.map sdD↔s∈seen:=
 ⟨fun h=>let ⟨t,ht,e⟩:=mem_map.mp h; zeP e ▸ ht,fun h=>mem_map.mpr ⟨s,h,rfl⟩⟩
theorem zcX (s:Sd):isKey true (sdD s)=true:=rfl
open Classical in
theorem zj4 {s:Sd} {seen:List Sd} {vs:List D} (h:s∈seen):cIn (sdD s) (.dct true (seen.map sdD) vs)=some true:=by
 show (if isKey true (sdD s) then some (decide (sdD s∈seen.map sdD)) else none)=_
 rw [if_pos (zcX s),decide_eq_true (zeB.mpr h)]
open Classical in
theorem zha {s:Sd} {seen:List Sd} {vs:List D} (h:s∉seen):cIn (sdD s) (.dct true (seen.map sdD) vs)=some false:=by
 show (if isKey true (sdD s) then some (decide (sdD s∈seen.map sdD)) else none)=_
 rw [if_pos (zcX s),decide_eq_false fun z=>h (zeB.mp z)]
theorem zg8 {s:Sd} {seen:List Sd} (h:s∉seen):dputS true (seen.map sdD) (seen.map fun _=>S.sh (.bl true)) (sdD s) (.sh (.bl true))=dctT (seen++[s]):=by
 unfold dputS
 have:fIx (seen.map sdD) (sdD s)=none:=by
  unfold fIx
  rw [List.findIdx?_eq_none_iff]
  intro x hx
  rw [decide_eq_false_iff_not]
  intro e
  subst e
  exact h (zeB.mp hx)
 rw [this]
 unfold dctT
 rw [map_append,map_append]
 rfl
theorem zjg {seen:List Sd} (h:seen.Nodup):(seen.map sdD).Nodup:=List.Pairwise.map sdD (fun a b hne e=>hne (zeP e)) h
theorem zcq {w:List Nat} {p c:Nat}:decide ([c]=cutL w (some (p:Int)) (some ((p:Int) + 1)))=decide (w[p]?=some c):=by
 rw [show ((p:Int) + 1)=((p + 1:Nat):Int) by lia,zgU,show p + 1 - p=1 by lia]
 refine decide_eq_decide.mpr ?_
 cases h:w.drop p with
 | nil=>
   have:w[p]?=none:=getElem?_eq_none (List.drop_eq_nil_iff.mp h)
   rw [this]
   simp
 | cons x l=>
   have:w[p]?=some x:=by rw [<- List.head?_drop,h]; rfl
   rw [this]
   simp [eq_comm]
theorem zc5 {w:List Nat} {p c:Nat}:decide (cutL w (some (p:Int)) (some ((p:Int) + 1))=[c])=decide (w[p]?=some c):=by
 rw [<- zcq]
 exact decide_eq_decide.mpr eq_comm
theorem zcT {w:List Nat} {p c:Nat} (hp:p<=w.length):decide ([c]=cutL (cutL w none (some (p:Int))) (some (-1)) none)=decide (0 < p/\w[p - 1]?=some c):=by
 refine decide_eq_decide.mpr ?_
 rw [zhS w (by lia) (by lia),toNat_natCast]
 have hl:(w.take p).length=p:=by rw [length_take]; lia
 unfold cutL sIx
 simp only [hl,show ((-1:Int) < 0)=True from eq_true (by decide),if_true]
 cases p with
 | zero=>simp
 | succ p=>
   rw [show ((-1:Int) + ((p + 1:Nat):Int)).toNat=p by lia,show p + 1 - p=1 by lia]
   have hpw:p < w.length:=by lia
   have:(w.take (p + 1)).drop p=[w[p]]:=by
    rw [List.take_succ_eq_append_getElem hpw,List.drop_append_of_le_length (by rw [length_take]; lia),List.drop_eq_nil_of_le (by rw [length_take]; lia)]
    rfl
   rw [this,Nat.add_sub_cancel,getElem?_eq_getElem hpw]
   simp [eq_comm]
theorem zc1 {rows:List Row} {r:Nat} (h:r < rows.length):atI (rows.map rowD) (r:Int)=some (rowD rows[r]):=zbQ (by lia) (by rw [toNat_natCast,getElem?_map,getElem?_eq_getElem h]; rfl)
theorem zdT {rows:List Row} {w:List Nat} {p r:Nat} (h:r < rows.length):nexts rows w (p,r)=rows[r].2.filterMap (nxt w p):=by
 unfold nexts
 show (match rows[r]? with | some r=>_ | none=>_)=_
 rw [getElem?_eq_getElem h]
theorem wayT:wayI true=1:=rfl
theorem wayF:wayI false=-1:=rfl
def goStep (w:List Nat) (p:Nat) (g:Go):Bool:=if g.1 then decide (w[p]?=some g.2.1) else decide (0 < p/\w[p - 1]?=some g.2.1)
theorem zhi {w:List Nat} {p:Nat} {g:Go} (h:goStep w p g=true):∃ t,nxt w p g=some t/\(t.1:Int)=(p:Int) + wayI g.1/\t.2=g.2.2:=by
 obtain ⟨f,c,q⟩:=g
 cases f with
 | true=>
   have h':w[p]?=some c:=of_decide_eq_true h
   exact ⟨(p + 1,q),by show (if w[p]?=some c then some (p + 1,q) else none)=_; rw [if_pos h'],by show ((p + 1:Nat):Int)=(p:Int) + 1; lia,rfl⟩
 | false=>
   have h':0 < p/\w[p - 1]?=some c:=of_decide_eq_true h
   exact ⟨(p - 1,q),by show (if 0 < p/\w[p - 1]?=some c then some (p - 1,q) else none)=_; rw [if_pos h'],by show ((p - 1:Nat):Int)=(p:Int) + -1; have:=h'.1; lia,rfl⟩
theorem zjz {w:List Nat} {p:Nat} {g:Go} (h:goStep w p g=false):nxt w p g=none:=by
 obtain ⟨f,c,q⟩:=g
 cases f with
 | true=>exact if_neg (show ¬ w[p]?=some c from of_decide_eq_false h)
 | false=>exact if_neg (show ¬ (0 < p/\w[p - 1]?=some c) from of_decide_eq_false h)
theorem zg6 {w:List Nat} {p:Nat} {pre:List Go} {g:Go} (h:goStep w p g=true):(((pre++[g]).filterMap (nxt w p)).map sdD).map S.sh=((pre.filterMap (nxt w p)).map sdD).map .sh++[.sh (.tup [.int ((p:Int) + wayI g.1),.int (g.2.2:Int)])]:=by
 obtain ⟨t,ht,t1,t2⟩:=zhi h
 rw [List.filterMap_append,show [g].filterMap (nxt w p)=[t] by rw [filterMap_cons,ht]; rfl,map_append,map_append,<- t1,<- t2]
 rfl
theorem zko {w:List Nat} {p:Nat} {pre:List Go} {g:Go} (h:goStep w p g=false):(((pre++[g]).filterMap (nxt w p)).map sdD).map S.sh=((pre.filterMap (nxt w p)).map sdD).map .sh:=by
 rw [List.filterMap_append,show [g].filterMap (nxt w p)=[] by rw [filterMap_cons,zjz h]; rfl,append_nil]
theorem zcS {rows:List Row} {w:List Nat} {p r:Nat} (hg:goodR rows) (hw:w.length<=12) (hp:p<=w.length) (hr:r < rows.length)
  (h:P (.lst (((nexts rows w (p,r)).map sdD).map .sh)) [.sh (.tup (rows.map rowD)),.sh (.str w),.sh (.int (p:Int)),.sh (.int (r:Int))]):w_1 [.sh (.tup (rows.map rowD)),.sh (.str w),.sh (.int (p:Int)),.sh (.int (r:Int))] P PX:=by
 refine zbX rfl rfl ?_
 have hg5:=(hg.2.2 rows[r] (getElem_mem hr)).1
 rw [zdT hr] at h
 simp! [zc1 hr,rowD]
 refine zbI (toD:=goD) (fun pre U=>∃ o7 o8 o9,U=[some (.sh (.tup (rows.map rowD))),some (.sh (.str w)),some (.sh (.int (p:Int))),some (.sh (.int (r:Int))),some (.sh (.str (cutL w (some (p:Int)) (some ((p:Int) + 1))))),some (.sh (.str (cutL (cutL w none (some (p:Int))) (some (-1)) none))),some (.lst (((pre.filterMap (nxt w p)).map sdD).map .sh)),o7,o8,o9]) rows[r].2 (fun pre g post D2 U e hI hnx hct hrt hbk=>?_) (fun U hI=>?_) ⟨none,none,none,rfl⟩
 ·obtain ⟨o7,o8,o9,rfl⟩:=hI
  have hlen:(pre.filterMap (nxt w p)).length<=5:=by
   have h1:=List.length_filterMap_le (nxt w p) pre
   have h2:=congrArg List.length e
   rw [length_append] at h2
   lia
  have hyes:goStep w p g=true->D2.nx [some (.sh (.tup (rows.map rowD))),some (.sh (.str w)),some (.sh (.int (p:Int))),some (.sh (.int (r:Int))),some (.sh (.str (cutL w (some (p:Int)) (some ((p:Int) + 1))))),some (.sh (.str (cutL (cutL w none (some (p:Int))) (some (-1)) none))),some (.lst (((pre.filterMap (nxt w p)).map sdD).map .sh++[.sh (.tup [.int ((p:Int) + wayI g.1),.int (g.2.2:Int)])])),some (.sh (.int (wayI g.1))),some (.sh (.str [g.2.1])),some (.sh (.int (g.2.2:Int)))]:=fun hv=>by
   rw [<- zg6 hv]
   exact hnx _ ⟨_,_,_,rfl⟩
  have hno:goStep w p g=false->D2.nx [some (.sh (.tup (rows.map rowD))),some (.sh (.str w)),some (.sh (.int (p:Int))),some (.sh (.int (r:Int))),some (.sh (.str (cutL w (some (p:Int)) (some ((p:Int) + 1))))),some (.sh (.str (cutL (cutL w none (some (p:Int))) (some (-1)) none))),some (.lst (((pre.filterMap (nxt w p)).map sdD).map .sh)),some (.sh (.int (wayI g.1))),some (.sh (.str [g.2.1])),some (.sh (.int (g.2.2:Int)))]:=fun hv=>by
   rw [<- zko hv]
   exact hnx _ ⟨_,_,_,rfl⟩
  obtain ⟨f,c,q⟩:=g
  cases f with
  | true=>
    cases hv:decide (w[p]?=some c)
    ·simp! [goD,wayT,u_1_b1,zcq,hv,length_cons,length_nil]
     exact hno hv
    ·simp! [goD,wayT,u_1_b1,zcq,hv,length_cons,length_nil]
     exact ⟨by simp only [zah,length_map]; lia,hyes hv⟩
  | false=>
    cases hv:decide (0 < p/\w[p - 1]?=some c)
    ·simp! [goD,wayF,u_1_b1,zcT hp,hv,length_cons,length_nil]
     exact hno hv
    ·simp! [goD,wayF,u_1_b1,zcT hp,hv,length_cons,length_nil]
     exact ⟨by simp only [zah,length_map]; lia,hyes hv⟩
 ·obtain ⟨o7,o8,o9,rfl⟩:=hI
  simp! [e_C]
  exact h
theorem zhT {w:List Nat} {p:Nat} (h0:0 < p) (hp:p<=w.length):∃ x,w[p - 1]?=some x/\atI w ((p:Int) - 1)=some x:=by
 have h:p - 1 < w.length:=by lia
 exact ⟨w[p - 1],getElem?_eq_getElem h,zbQ (by lia) (by rw [show ((p:Int) - 1).toNat=p - 1 by lia]; exact getElem?_eq_getElem h)⟩
theorem zdl {rows:List Row} {w:List Nat} {p r:Nat} (hg:goodR rows) (hw:w.length<=12) (hp:p<=w.length) (hr:r < rows.length)
  (h:P (.lst (((nexts rows w (p,r)).map sdD).map .sh)) [.sh (.tup (rows.map rowD)),.sh (.str w),.sh (.int (p:Int)),.sh (.int (r:Int))]):w_7 [.sh (.tup (rows.map rowD)),.sh (.str w),.sh (.int (p:Int)),.sh (.int (r:Int))] P PX:=by
 refine zbX rfl rfl ?_
 have hg5:=(hg.2.2 rows[r] (getElem_mem hr)).1
 rw [zdT hr] at h
 simp! [zc1 hr,rowD]
 refine zbI (toD:=goD) (fun pre U=>∃ o5 o6 o7,U=[some (.sh (.tup (rows.map rowD))),some (.sh (.str w)),some (.sh (.int (p:Int))),some (.sh (.int (r:Int))),some (.lst (((pre.filterMap (nxt w p)).map sdD).map .sh)),o5,o6,o7]) rows[r].2 (fun pre g post D2 U e hI hnx hct hrt hbk=>?_) (fun U hI=>?_) ⟨none,none,none,rfl⟩
 ·obtain ⟨o5,o6,o7,rfl⟩:=hI
  have hlen:(pre.filterMap (nxt w p)).length<=5:=by
   have h1:=List.length_filterMap_le (nxt w p) pre
   have h2:=congrArg List.length e
   rw [length_append] at h2
   lia
  have hyes:goStep w p g=true->D2.nx [some (.sh (.tup (rows.map rowD))),some (.sh (.str w)),some (.sh (.int (p:Int))),some (.sh (.int (r:Int))),some (.lst (((pre.filterMap (nxt w p)).map sdD).map .sh++[.sh (.tup [.int ((p:Int) + wayI g.1),.int (g.2.2:Int)])])),some (.sh (.int (wayI g.1))),some (.sh (.str [g.2.1])),some (.sh (.int (g.2.2:Int)))]:=fun hv=>by
   rw [<- zg6 hv]
   exact hnx _ ⟨_,_,_,rfl⟩
  have hno:goStep w p g=false->D2.nx [some (.sh (.tup (rows.map rowD))),some (.sh (.str w)),some (.sh (.int (p:Int))),some (.sh (.int (r:Int))),some (.lst (((pre.filterMap (nxt w p)).map sdD).map .sh)),some (.sh (.int (wayI g.1))),some (.sh (.str [g.2.1])),some (.sh (.int (g.2.2:Int)))]:=fun hv=>by
   rw [<- zko hv]
   exact hnx _ ⟨_,_,_,rfl⟩
  obtain ⟨f,c,q⟩:=g
  cases f with
  | true=>
    cases hv:decide (w[p]?=some c)
    ·simp! [goD,wayT,u_7_b1,zc5,hv,length_cons,length_nil]
     exact hno hv
    ·simp! [goD,wayT,u_7_b1,zc5,hv,length_cons,length_nil]
     exact ⟨by simp only [zah,length_map]; lia,hyes hv⟩
  | false=>
    by_cases h0:0 < p
    ·obtain ⟨x,e1,e2⟩:=zhT h0 hp
     have d0:decide ((p:Int) > 0)=true:=decide_eq_true (by lia)
     have d1:decide ((0:Int) < (p:Int))=true:=decide_eq_true (by lia)
     cases hv:decide ([x]=[c])
     ·have hs:goStep w p (false,c,q)=false:=decide_eq_false fun z=>by
       rw [e1] at z
       exact of_decide_eq_false hv (by rw [qg z.2])
      simp! [goD,wayF,u_7_b1,d0,d1,e2,hv,length_cons,length_nil]
      exact hno hs
     ·have hs:goStep w p (false,c,q)=true:=decide_eq_true ⟨h0,by rw [e1,show x=c by simpa using of_decide_eq_true hv]⟩
      simp! [goD,wayF,u_7_b1,d0,d1,e2,hv,length_cons,length_nil]
      exact ⟨by simp only [zah,length_map]; lia,hyes hs⟩
    ·have hs:goStep w p (false,c,q)=false:=decide_eq_false fun z=>h0 z.1
     have d0:decide ((p:Int) > 0)=false:=decide_eq_false (by lia)
     have d1:decide ((0:Int) < (p:Int))=false:=decide_eq_false (by lia)
     simp! [goD,wayF,u_7_b1,d0,d1,length_cons,length_nil]
     exact hno hs
 ·obtain ⟨o5,o6,o7,rfl⟩:=hI
  simp! [e_C]
  exact h
theorem Seen.le {rows:List Row} {w:List Nat} {f:Sd->Prop} {seen left:List Sd} (h:Seen rows w f seen left) (hg:goodR rows) (hw:w.length<=12):seen.length<=52:=zcA hg hw h.nd fun s hs=>(h.re s hs).in_ hg
theorem zby {rows:List Row} {w:List Nat} {f:Sd->Prop} {seen left new:List Sd} {s:Sd} (h:Seen rows w f seen left) (hs:s∈seen) (hg:goodR rows) (hw:w.length<=12) (hnd:(seen++new).Nodup) (hn:∀ t∈new,t∈nexts rows w s):(seen++new).length<=52:=
 zcA hg hw hnd fun t ht=>(mem_append.mp ht).elim (fun q=>(h.re t q).in_ hg) fun q=>zdW hg ((h.re s hs).in_ hg) (hn t q)
theorem zcg {seen:List Sd} {t:Sd} (h:seen.Nodup) (ht:t∉seen):(seen++[t]).Nodup:=by
 rw [nodup_append]
 refine ⟨h,by simp,fun a ha b hb e=>?_⟩
 rw [mem_singleton.mp hb] at e
 exact ht (e ▸ ha)
theorem zbF {l:List Sd} {t:Sd}:(l.map sdD).map S.sh++[S.sh (sdD t)]=((l++[t]).map sdD).map S.sh:=by simp
theorem zdN {rows:List Row} {w:List Nat} {D':Ends} {s0 s1 s2 o5 o6 o7:Option S} {f:Sd->Prop} {seen left:List Sd} {s:Sd} (hg:goodR rows) (hw:w.length<=12) (h:Seen rows w f seen (left++[s]))
  (fin:∀ (new:List Sd) o7,(seen++new).Nodup->(∀ t∈new,t∈nexts rows w s)->(∀ t∈nexts rows w s,t∈seen++new)->D'.nx [s0,s1,s2,some (.lst (((left++new).map sdD).map .sh)),some (dctT (seen++new)),o5,o6,o7]):
  wLoop (gName 7) w_0_b1 ((nexts rows w s).map sdD) D' [s0,s1,s2,some (.lst ((left.map sdD).map .sh)),some (dctT seen),o5,o6,o7]:=by
 have hs:s∈seen:=h.sub s (by simp)
 refine zbI (toD:=sdD) (fun pre U=>∃ (new:List Sd) (o7:Option S),(seen++new).Nodup/\(∀ t∈new,t∈nexts rows w s)/\(∀ t∈pre,t∈seen++new)/\U=[s0,s1,s2,some (.lst (((left++new).map sdD).map .sh)),some (dctT (seen++new)),o5,o6,o7]) (nexts rows w s) (fun pre t post D2 U e hI hnx hct hrt hbk=>?_) (fun U hI=>?_) ⟨[],o7,by simpa using h.nd,by simp,by simp,by simp⟩
 ·obtain ⟨new,o7,hnd,hn,hp,rfl⟩:=hI
  have hle:=zby h hs hg hw hnd hn
  have hll:=h.ln
  rw [length_append] at hle
  rw [length_append,length_singleton] at hll
  by_cases hin:t∈seen++new
  ·have e1:=zj4 (vs:=((seen++new).map fun _=>S.sh (.bl true)).map S.toD) hin
   simp! [u_0_b1,dctT,e1]
   exact hnx _ ⟨new,_,hnd,hn,fun u hu=>(mem_append.mp hu).elim (hp u) fun q=>by rw [mem_singleton.mp q]; exact hin,rfl⟩
  ·have e1:=zha (vs:=((seen++new).map fun _=>S.sh (.bl true)).map S.toD) hin
   simp! [u_0_b1,dctT,e1,zcX,zg8 hin,zbF]
   refine ⟨zjg hnd,by rw [length_map,length_append]; simp only [zah]; lia,by rw [length_map,length_map,length_append]; simp only [zah]; lia,?_⟩
   refine hnx _ ⟨new++[t],some (.sh (sdD t)),by rw [<- append_assoc]; exact zcg hnd hin,fun u hu=>(mem_append.mp hu).elim (hn u) fun q=>by rw [mem_singleton.mp q,<- e]; simp,fun u hu=>?_,by rw [<- append_assoc,<- append_assoc]; rfl⟩
   rw [<- append_assoc]
   exact (mem_append.mp hu).elim (fun q=>qk _ (hp u q)) fun q=>qj _ q
 ·obtain ⟨new,o7,hnd,hn,hp,rfl⟩:=hI
  exact fin new o7 hnd hn hp
theorem zhF {rows:List Row} {w:List Nat} {D':Ends} {s0 s1 s2 o5 o6 o7:Option S} {f:Sd->Prop} {seen left:List Sd} {s:Sd} (hg:goodR rows) (hw:w.length<=12) (h:Seen rows w f seen (left++[s]))
  (fin:∀ (new:List Sd) o7,(seen++new).Nodup->(∀ t∈new,t∈nexts rows w s)->(∀ t∈nexts rows w s,t∈seen++new)->D'.nx [s0,s1,s2,some (dctT (seen++new)),some (.lst (((left++new).map sdD).map .sh)),o5,o6,o7]):
  wLoop (gName 7) w_8_b2 ((nexts rows w s).map sdD) D' [s0,s1,s2,some (dctT seen),some (.lst ((left.map sdD).map .sh)),o5,o6,o7]:=by
 have hs:s∈seen:=h.sub s (by simp)
 refine zbI (toD:=sdD) (fun pre U=>∃ (new:List Sd) (o7:Option S),(seen++new).Nodup/\(∀ t∈new,t∈nexts rows w s)/\(∀ t∈pre,t∈seen++new)/\U=[s0,s1,s2,some (dctT (seen++new)),some (.lst (((left++new).map sdD).map .sh)),o5,o6,o7]) (nexts rows w s) (fun pre t post D2 U e hI hnx hct hrt hbk=>?_) (fun U hI=>?_) ⟨[],o7,by simpa using h.nd,by simp,by simp,by simp⟩
 ·obtain ⟨new,o7,hnd,hn,hp,rfl⟩:=hI
  have hle:=zby h hs hg hw hnd hn
  have hll:=h.ln
  rw [length_append] at hle
  rw [length_append,length_singleton] at hll
  by_cases hin:t∈seen++new
  ·have e1:=zj4 (vs:=((seen++new).map fun _=>S.sh (.bl true)).map S.toD) hin
   simp! [u_8_b2,dctT,e1]
   exact hnx _ ⟨new,_,hnd,hn,fun u hu=>(mem_append.mp hu).elim (hp u) fun q=>by rw [mem_singleton.mp q]; exact hin,rfl⟩
  ·have e1:=zha (vs:=((seen++new).map fun _=>S.sh (.bl true)).map S.toD) hin
   simp! [u_8_b2,dctT,e1,zcX,zg8 hin,zbF]
   refine ⟨zjg hnd,by rw [length_map,length_append]; simp only [zah]; lia,by rw [length_map,length_map,length_append]; simp only [zah]; lia,?_⟩
   refine hnx _ ⟨new++[t],some (.sh (sdD t)),by rw [<- append_assoc]; exact zcg hnd hin,fun u hu=>(mem_append.mp hu).elim (hn u) fun q=>by rw [mem_singleton.mp q,<- e]; simp,fun u hu=>?_,by rw [<- append_assoc,<- append_assoc]; rfl⟩
   rw [<- append_assoc]
   exact (mem_append.mp hu).elim (fun q=>qk _ (hp u q)) fun q=>qj _ q
 ·obtain ⟨new,o7,hnd,hn,hp,rfl⟩:=hI
  exact fin new o7 hnd hn hp
theorem zi1:truth (.lst [])=some false:=rfl
theorem zhv {l:List D} {d:D}:truth (.lst (l++[d]))=some true:=by cases l <;> rfl
def TK (rows:List Row) (w:List Nat):Prop:=∃ s,Rch rows w s/\acc rows w s
open Classical in
theorem zed {rows:List Row} {w col:List Nat} (hg:goodR rows) (hw:w.length<=12)
  (h:P (.sh (.bl (decide (TK rows w)))) [.sh (.str col),.sh (.tup (rows.map rowD)),.sh (.str w)]):w_0 [.sh (.str col),.sh (.tup (rows.map rowD)),.sh (.str w)] P PX:=by
 refine zbX rfl rfl ?_
 simp! [e_C]
 refine ⟨rfl,?_⟩
 refine zjI (fun m U=>∃ (seen left:List Sd) (o5 o6 o7:Option S),Seen rows w (fun s=>¬ acc rows w s) seen left/\m + 2 * seen.length=104 + left.length/\U=[some (.sh (.str col)),some (.sh (.tup (rows.map rowD))),some (.sh (.str w)),some (.lst ((left.map sdD).map .sh)),some (dctT seen),o5,o6,o7]) 103 ⟨[(0,0)],[(0,0)],none,none,none,Seen.start,rfl,rfl⟩ fun m U hJ=>?_
 obtain ⟨seen,left,o5,o6,o7,hS,hm,rfl⟩:=hJ
 have hle:=hS.le hg hw
 rcases List.eq_nil_or_concat left with rfl | ⟨l0,s,rfl⟩
 ·simp! [x_Wf,zi1]
  rw [decide_eq_false (show ¬ TK rows w from fun ⟨s,hr,ha⟩=>(hS.done hr).2 ha)] at h
  exact h
 ·rw [List.concat_eq_append] at hS hm ⊢
  have hs:s∈seen:=hS.sub s (by simp)
  have hr:=hS.re s hs
  have hi:=hr.in_ hg
  rw [<- zbF]
  simp! [x_Wt,zas,map_append,zhv,u_0_b2,sdD,zc1 hi.2,rowD,length_cons,length_nil]
  cases hd:decide ((s.1:Int)=(w.length:Int))
  ·simp! [e_C]
   refine zcS hg hw hi.1 hi.2 ?_
   simp! [zas]
   refine zdN hg hw hS fun new o7 hnd hn ha=>zho (m':=m - 1 - new.length) ?_ ⟨seen++new,l0++new,_,_,_,hS.push (fun ⟨z,_⟩=>of_decide_eq_false hd (by rw [z])) hnd hn ha,?_,rfl⟩
   ·have:=zby hS hs hg hw hnd hn
    rw [length_append] at this
    rw [length_append,length_singleton] at hm
    lia
   ·have:=zby hS hs hg hw hnd hn
    rw [length_append] at this
    rw [length_append,length_singleton] at hm
    rw [length_append,length_append]
    lia
  ·simp! [zc1 hi.2,rowD]
   cases hb:(rows[s.2]'hi.2).1
   ·simp! [e_C]
    refine zcS hg hw hi.1 hi.2 ?_
    simp! [zas]
    refine zdN hg hw hS fun new o7 hnd hn ha=>zho (m':=m - 1 - new.length) ?_ ⟨seen++new,l0++new,_,_,_,hS.push (fun ⟨_,r,hr,hr1⟩=>by rw [getElem?_eq_getElem hi.2] at hr; cases hr; rw [hb] at hr1; cases hr1) hnd hn ha,?_,rfl⟩
    ·have:=zby hS hs hg hw hnd hn
     rw [length_append] at this
     rw [length_append,length_singleton] at hm
     lia
    ·have:=zby hS hs hg hw hnd hn
     rw [length_append] at this
     rw [length_append,length_singleton] at hm
     rw [length_append,length_append]
     lia
   ·simp! [e_C]
    rw [decide_eq_true (show TK rows w from ⟨s,hr,by have:=of_decide_eq_true hd; lia,_,getElem?_eq_getElem hi.2,hb⟩)] at h
    exact h
theorem zh4 (l:List Sd):deps (l.map sdD)<=29:=zeQ _ fun d hd=>by
 obtain ⟨u,_,rfl⟩:=mem_map.mp hd
 show 1<=29
 decide
theorem zkG {l:List Sd}:cNe (.lst (l.map sdD)) (.lst [])=some (!l.isEmpty):=by rw [zin (zh4 l),List.isEmpty_map]
theorem zmz (l:List Sd):(l.map sdD).all isIT=true:=by
 rw [List.all_map,all_eq_true]
 intro x _
 rfl
theorem znd {seen:List Sd}:vC (some (.dct true (seen.map sdD) (seen.map fun _=>S.sh (.bl true))))=some (.dct true (seen.map sdD) (seen.map fun _=>.bl true)):=by
 rw [show (seen.map fun _=>S.sh (.bl true))=(seen.map fun _=>D.bl true).map S.sh by rw [map_map]; rfl]
 exact zkf
theorem zfm {rows:List Row} {w:List Nat} (hg:goodR rows) (hw:w.length<=12)
  (h:∀ seen:List Sd,seen.length<=52->(∀ s∈seen,inS rows w s)->(∀ s,Rch rows w s↔s∈seen)->P (.lst ((seen.map sdD).map .sh)) [.sh (.tup (rows.map rowD)),.sh (.str w),.sh (.lst [sdD (0,0)])]):w_8 [.sh (.tup (rows.map rowD)),.sh (.str w),.sh (.lst [sdD (0,0)])] P PX:=by
 refine zbX rfl rfl ?_
 simp! [e_C]
 refine bl1 (n:=8) (toD:=sdD) [((0:Nat),(0:Nat))] (fun t=>some (.sh (.tup [sdD t,.bl true]))) (fun t ht l o K hl hK=>?_) fun o=>?_
 ·simp! [x_bX,zgM,u_8_c1]
  rw [length_singleton] at hl
  exact ⟨by simp only [zah]; lia,hK _⟩
 ·simp! [zas,filterMap_cons,List.filterMap_nil,zcX]
  refine zjI (fun m U=>∃ (seen left:List Sd) (o5 o6 o7:Option S),Seen rows w (fun s=>True) seen left/\m + 2 * seen.length=104 + left.length/\U=[some (.sh (.tup (rows.map rowD))),some (.sh (.str w)),some (.sh (.lst [sdD (0,0)])),some (dctT seen),some (.lst ((left.map sdD).map .sh)),o5,o6,o7]) 103 ⟨[(0,0)],[(0,0)],none,none,none,Seen.start,rfl,rfl⟩ fun m U hJ=>?_
  obtain ⟨seen,left,o5,o6,o7,hS,hm,rfl⟩:=hJ
  have hle:=hS.le hg hw
  rcases List.eq_nil_or_concat left with rfl | ⟨l0,s,rfl⟩
  ·have hn:=zkG (l:=[])
   rw [map_nil] at hn
   have e3:=zhf (ks:=seen.map sdD) (vs:=seen.map fun _=>D.bl true) (by rw [length_map]; simp only [zah]; lia) (zmz seen)
   simp! [x_Wf,hn,List.isEmpty_nil,dctT,znd,e3]
   exact h seen hle (fun s hs=>(hS.re s hs).in_ hg) fun s=>⟨fun hr=>(hS.done hr).1,hS.re s⟩
  ·rw [List.concat_eq_append] at hS hm ⊢
   have hs:s∈seen:=hS.sub s (by simp)
   have hr:=hS.re s hs
   have hi:=hr.in_ hg
   have hn:=zkG (l:=l0++[s])
   rw [show (l0++[s]).isEmpty=false by cases l0 <;> rfl,map_append,map_cons,map_nil] at hn
   rw [<- zbF]
   simp! [x_Wt,zas,map_append,hn,u_8_b3]
   simp! [sdD,length_cons,length_nil]
   refine zdl hg hw hi.1 hi.2 ?_
   simp! [zas]
   refine zhF hg hw hS fun new o7 hnd hn ha=>zho (m':=m - 1 - new.length) ?_ ⟨seen++new,l0++new,_,_,_,hS.push trivial hnd hn ha,?_,rfl⟩
   ·have:=zby hS hs hg hw hnd hn
    rw [length_append] at this
    rw [length_append,length_singleton] at hm
    lia
   ·have:=zby hS hs hg hw hnd hn
    rw [length_append] at this
    rw [length_append,length_singleton] at hm
    rw [length_append,length_append]
    lia
open Classical in
theorem zij {l:List Bool} {b:Bool} (h:b=true↔true∈l):cIn (.bl true) (.lst (l.map .bl))=some b:=by
 show (if (l.map D.bl).any (fun x=>clash x (.bl true) || decide (30 < dep x))=true then none else some (decide (D.bl true∈l.map D.bl)))=_
 rw [if_neg]
 ·congr 1
  rw [show b=decide (true∈l) by rw [Bool.eq_iff_iff,h,decide_eq_true_iff]]
  exact decide_eq_decide.mpr ⟨fun z=>let ⟨x,hx,e⟩:=mem_map.mp z; by cases e; exact hx,fun z=>mem_map.mpr ⟨_,z,rfl⟩⟩
 ·rw [Bool.not_eq_true,List.any_map,List.any_eq_false]
  intro x _
  cases x <;> decide
def accB (rows:List Row) (w:List Nat) (s:Sd):Bool:=decide ((s.1:Int)=(w.length:Int)) && ((rows[s.2]?.map (·.1)).getD false)
theorem zd3 {rows:List Row} {w:List Nat} {s:Sd}:accB rows w s=true↔acc rows w s:=by
 unfold accB acc
 rw [and_eq_true,decide_eq_true_iff]
 cases h:rows[s.2]? with
 | none=>simp
 | some r=>
   simp
   intro _
   lia
open Classical in
theorem zet {rows:List Row} {w:List Nat} (hg:goodR rows) (hw:w.length<=12)
  (h:P (.sh (.bl (decide (TK rows w)))) [.sh (.tup (rows.map rowD)),.sh (.str w)]):w_9 [.sh (.tup (rows.map rowD)),.sh (.str w)] P PX:=by
 refine zbX rfl rfl ?_
 simp! [e_C]
 refine zfm hg hw fun seen hl hin hr=>?_
 simp! [zas]
 refine bm2 (n:=2) (toD:=sdD) seen (fun s=>.sh (.bl (accB rows w s))) (fun s hs l o o' K hl2 hK=>?_) fun o o'=>?_
 ·have hi:=hin s hs
  have eb:accB rows w s=(decide ((s.1:Int)=(w.length:Int)) && (rows[s.2]'hi.2).1):=by unfold accB; rw [getElem?_eq_getElem hi.2]; rfl
  rw [eb] at hK
  simp! [x_bX,zgM,u_9_c1,sdD,length_cons,length_nil]
  cases hd:decide ((s.1:Int)=(w.length:Int))
  ·rw [hd] at hK
   simp! [e_C]
   exact ⟨by simp only [zah]; lia,hK _ _⟩
  ·rw [hd] at hK
   simp! [zc1 hi.2,rowD]
   exact ⟨by simp only [zah]; lia,hK _ _⟩
 ·rw [show (seen.map fun s=>S.sh (.bl (accB rows w s)))=((seen.map (accB rows w)).map D.bl).map S.sh by simp]
  have e3:=zij (l:=seen.map (accB rows w)) (b:=decide (TK rows w)) (by
   rw [decide_eq_true_iff,mem_map]
   exact ⟨fun ⟨s,h1,h2⟩=>⟨s,(hr s).mp h1,zd3.mpr h2⟩,fun ⟨s,h1,h2⟩=>⟨s,(hr s).mpr h1,zd3.mp h2⟩⟩)
  simp! [zas,e3]
  exact h
theorem ziS {D':Ends} {col:List Nat} {s2 s3 s6:Option S} {many:Int} {F5:Option S} (hc:0 < col.length) (hc2:col.length<=1000) (hm:0 < many) (hm2:many<=1000) (xs:List D) (hx:xs.length<=1000) {a s:Int} (ha:0<=a) (hs:1<=s) (hs2:s<=2147483629) (o8 o9:Option S)
  (fin:∀ a s (B:List Go) o8 o9,0<=a->1<=s->s<=2147483629->B.length=xs.length->(∀ g∈B,(g.2.2:Int) < many)->D'.nx [some (box a s),some (.sh (.str col)),s2,s3,some (.sh (.int many)),F5,s6,some (.lst ((B.map goD).map .sh)),o8,o9]):
  wLoop (gName 8) w_6_b1 xs D' [some (box a s),some (.sh (.str col)),s2,s3,some (.sh (.int many)),F5,s6,some (.lst []),o8,o9]:=by
 refine lpn (fun k U=>∃ (a s:Int) (B:List Go) (o8 o9:Option S),0<=a/\1<=s/\s<=2147483629/\B.length=k/\(∀ g∈B,(g.2.2:Int) < many)/\U=[some (box a s),some (.sh (.str col)),s2,s3,some (.sh (.int many)),F5,s6,some (.lst ((B.map goD).map .sh)),o8,o9]) xs (fun k x hk D2 U hI hnx hct hrt hbk=>?_) (fun U hI=>?_) ⟨a,s,[],o8,o9,ha,hs,hs2,rfl,by simp,rfl⟩
 ·obtain ⟨a,s,B,o8,o9,ha,hs,hs2,hB,hB2,rfl⟩:=hI
  have hkl:=(qh.mp hk).1
  simp! [box,u_6_b1]
  refine zao ha hs hs2 (by decide) (by decide) fun r a1 s1 hr hr2 ha1 hs1 hs21=>?_
  have hq:∃ f:Bool,atI [S.sh (D.int 1),S.sh (D.int 1),S.sh (D.int (-1))] r=some (S.sh (D.int (wayI f))):=by
   have:r=0\/r=1\/r=2:=by lia
   rcases this with rfl | rfl | rfl
   ·exact ⟨true,zku⟩
   ·exact ⟨true,zjC⟩
   ·exact ⟨false,zju⟩
  obtain ⟨f,e⟩:=hq
  simp! [box,e]
  refine zao ha1 hs1 hs21 (by lia) (by lia) fun r2 a2 s2 hr2 hr22 ha2 hs2 hs22=>?_
  obtain ⟨c,hcm,_,ec⟩:=zeU (l:=col) hr2 hr22
  simp! [box,ec]
  refine zao ha2 hs2 hs22 hm (by lia) fun r3 a3 s3 hr3 hr32 ha3 hs3 hs23=>?_
  obtain ⟨q,rfl⟩:=Int.eq_ofNat_of_zero_le hr3
  simp! [box,length_map]
  rw [show ((B.map goD).map S.sh)++[S.sh (.tup [.int (wayI f),.str [c],.int (q:Int)])]=((B++[(f,c,q)]).map goD).map S.sh by simp [goD]]
  exact ⟨by simp only [zah]; lia,hnx _ ⟨a3,s3,_,_,_,ha3,hs3,hs23,by simp [hB],fun x hx=>(mem_append.mp hx).elim (hB2 x) fun q=>by rw [mem_singleton.mp q]; exact hr32,rfl⟩⟩
 ·obtain ⟨a,s,B,o8,o9,ha,hs,hs2,hB,hB2,rfl⟩:=hI
  exact fin a s B o8 o9 ha hs hs2 hB hB2
theorem zfV {a s:Int} {col:List Nat} (ha:0<=a) (hs:1<=s) (hs2:s<=2147483629) (hc:0 < col.length) (hc2:col.length<=1000)
  (h:∀ (rows:List Row) a' s',goodR rows->0<=a'->1<=s'->s'<=2147483629->P (.sh (.tup (rows.map rowD))) [box a' s',.sh (.str col),.sh (.int 4),.sh (.int 5)]):w_6 [box a s,.sh (.str col),.sh (.int 4),.sh (.int 5)] P PX:=by
 refine zbX rfl rfl ?_
 simp! [box]
 refine zao ha hs hs2 (by decide) (by decide) fun r a1 s1 hr hr2 ha1 hs1 hs21=>?_
 simp! [box]
 refine ⟨by simp only [zah]; lia,?_⟩
 refine lpn (fun k U=>∃ (a s:Int) (A:List Row) (o6 o7 o8 o9:Option S),0<=a/\1<=s/\s<=2147483629/\A.length=k/\(∀ x∈A,x.2.length<=5/\∀ g∈x.2,(g.2.2:Int) < 1 + r)/\U=[some (box a s),some (.sh (.str col)),some (.sh (.int 4)),some (.sh (.int 5)),some (.sh (.int (1 + r))),some (.lst ((A.map rowD).map .sh)),o6,o7,o8,o9]) _ (fun k x hk D2 U hI hnx hct hrt hbk=>?_) (fun U hI=>?_) ⟨a1,s1,[],none,none,none,none,ha1,hs1,hs21,rfl,by simp,rfl⟩
 ·obtain ⟨a,s,A,o6,o7,o8,o9,ha,hs,hs2,hA,hA2,rfl⟩:=hI
  have hkl:=(qh.mp hk).1
  rw [zaq] at hkl
  simp! [box,u_6_b2]
  refine zao ha hs hs2 (by decide) (by decide) fun r2 a2 s2 hr2 hr22 ha2 hs2 hs22=>?_
  simp! [box]
  refine ⟨by simp only [zah]; lia,?_⟩
  refine ziS hc hc2 (by lia) (by lia) _ (by rw [zaq]; lia) ha2 hs2 hs22 _ _ fun a3 s3 B o8 o9 ha3 hs3 hs23 hB hB2=>?_
  rw [zaq] at hB
  simp! [box]
  refine zao ha3 hs3 hs23 (by decide) (by decide) fun r4 a4 s4 hr4 hr42 ha4 hs4 hs24=>?_
  simp! [box,zas,length_map]
  rw [show ((A.map rowD).map S.sh)++[S.sh (.tup [.bl (decide (r4=0)),.tup (B.map goD)])]=((A++[(decide (r4=0),B)]).map rowD).map S.sh by simp [rowD]]
  refine ⟨by simp only [zah]; lia,hnx _ ⟨a4,s4,_,_,_,_,_,ha4,hs4,hs24,by simp [hA],fun x hx=>?_,rfl⟩⟩
  rcases mem_append.mp hx with q | q
  ·exact hA2 x q
  ·rw [mem_singleton.mp q]; exact ⟨by show B.length<=5; lia,hB2⟩
 ·obtain ⟨a,s,A,o6,o7,o8,o9,ha,hs,hs2,hA,hA2,rfl⟩:=hI
  rw [zaq] at hA
  simp! [box,zas]
  exact h A a s ⟨by lia,by lia,fun x hx=>⟨(hA2 x hx).1,fun g hgm=>by have:=(hA2 x hx).2 g hgm; lia⟩⟩ ha hs hs2
abbrev Ask:=List Nat×List Row×List Nat
def askD (q:Ask):D:=.tup [.str q.1,.tup (q.2.1.map rowD),.str q.2.2]
def goodA (q:Ask):Prop:=goodR q.2.1/\q.2.2.length<=12
theorem pure_law:∀ ns:List Int,ns.length<=63->w_10 [.sh (.lst (ns.map .int))] (fun s _=>s=.sh (.bl true)) fun _ _=>False:=by
 intro ns hl
 refine zbX rfl rfl ?_
 simp! [length_map]
 have hn:∀ z:Int,z=(if (if (7:Int) < (ns.length:Int) then 7 else (ns.length:Int)) > 3 then if (7:Int) < (ns.length:Int) then 7 else (ns.length:Int) else 3)->0<=z/\z<=7:=fun z hz=>by
  split at hz <;> split at hz <;> lia
 obtain ⟨n0,n7⟩:=hn _ rfl
 refine ⟨⟨by simp only [zah]; lia,by simp only [zah]; lia⟩,?_⟩
 refine zbI (toD:=fun k:Nat=>D.int (0 + (k:Int))) (fun pre U=>∃ (A:List Ask) (o2 o3 o4 o5 o6 o7 o8:Option S),A.length=7 * pre.length/\(∀ q∈A,goodA q)/\U=[some (.sh (.lst (ns.map .int))),some (.lst ((A.map askD).map .sh)),o2,o3,o4,o5,o6,o7,o8]) (List.range _) (fun pre k post D2 U e hI hnx hct hrt hbk=>?_) (fun U hI=>?_) ⟨[],none,none,none,none,none,none,none,rfl,by simp,rfl⟩
 ·obtain ⟨A,o2,o3,o4,o5,o6,o7,o8,hA,hA2,rfl⟩:=hI
  have hpl:pre.length<=7:=by
   have:=congrArg List.length e
   rw [length_append,length_range,length_cons] at this
   lia
  simp! [u_10_b3]
  refine zgj (by lia) fun a s ha hs hs2=>?_
  simp! [box]
  refine zao ha hs hs2 (by decide) (by decide) fun r a1 s1 hr hr2 ha1 hs1 hs21=>?_
  simp! [box]
  refine zcQ ha1 hs1 hs21 (by lia) (by lia) fun col a2 s2 hcol hso hle ha2 hs2 hs22=>?_
  simp! [box]
  refine zfV ha2 hs2 hs22 (by lia) (by lia) fun rows a3 s3 hg ha3 hs3 hs23=>?_
  simp! [box,zas]
  refine ⟨by simp only [zah]; lia,?_⟩
  refine bd1 (n:=9) (fun w:List Nat=>S.sh (.str w)) _ (fun U=>∃ a s,0<=a/\1<=s/\s<=2147483629/\U=[some (.sh (.lst (ns.map .int))),some (.lst ((A.map askD).map .sh)),some (.sh (.int (0 + (k:Int)))),some (box a s),some (.sh (.str col)),some (.sh (.tup (rows.map rowD))),o6,o7,o8]) (fun w=>w.length<=12) (fun x hx U B o K hI hB hK=>?_) (fun U B o hI hB hP=>?_) ⟨a3,s3,ha3,hs3,hs23,rfl⟩
  ·obtain ⟨a,s,ha,hs,hs2,rfl⟩:=hI
   rw [zaq] at hB
   simp! [x_bX,zgM,u_10_c1,box]
   refine zeW ha hs hs2 (by decide) (by decide) (by lia) (by lia) fun w a4 s4 hwl hwm ha4 hs4 hs24=>?_
   simp! [box,length_map]
   exact ⟨by simp only [zah]; lia,hK _ _ _ ⟨a4,s4,ha4,hs4,hs24,rfl⟩ hwl⟩
  ·obtain ⟨a,s,ha,hs,hs2,rfl⟩:=hI
   rw [zaq] at hB
   rw [show B.map (fun w:List Nat=>S.sh (.str w))=(B.map D.str).map S.sh by rw [map_map]; rfl]
   simp! [box,zas]
   change bLoop _ _ _ (([]::B).map D.str) _ _ _
   refine bm1 (n:=9) (toD:=D.str) ([]::B) (fun w=>.sh (askD (col,rows,w))) (fun w hwm l o K hl2 hK=>?_) fun o=>?_
   ·rw [length_cons] at hl2
    simp! [x_bX,zgM,u_10_c2]
    exact ⟨by simp only [zah]; lia,hK _⟩
   ·rw [show (([]::B).map fun w=>S.sh (askD (col,rows,w)))=((([]::B).map fun w=>((col,rows,w):Ask)).map askD).map S.sh by simp]
    generalize hC:(([]::B).map fun w=>((col,rows,w):Ask))=C
    have hCl:C.length=7:=by rw [<- hC,length_map,length_cons,hB]; rfl
    have hCg:∀ q∈C,goodA q:=fun q hq=>by
     rw [<- hC] at hq
     obtain ⟨w,hwm,rfl⟩:=mem_map.mp hq
     refine ⟨hg,?_⟩
     rcases mem_cons.mp hwm with rfl | z
     ·exact zero_le _
     ·exact hP w z
    simp! [zas,length_map]
    rw [<- map_append,<- map_append]
    refine ⟨by simp only [zah]; lia,?_⟩
    exact hnx _ ⟨A++C,_,_,_,_,_,_,_,by simp only [length_append,length_singleton]; lia,fun q hq=>(mem_append.mp hq).elim (hA2 q) (hCg q),rfl⟩
 ·obtain ⟨A,o2,o3,o4,o5,o6,o7,o8,hA,hA2,rfl⟩:=hI
  rw [length_range] at hA
  have hcut:(cutL (A.map askD) none (some 3)).length<=A.length:=le_trans (zgq _ _ _) (by rw [length_map]; exact le_refl _)
  simp! [e_C]
  rw [zgT,<- map_append]
  have hall:∀ q∈A++cutL A none (some 3),goodA q:=fun q hq=>(mem_append.mp hq).elim (hA2 q) fun z=>hA2 q (zgk z)
  refine zbI (toD:=askD) (fun pre U=>∃ (o4 o5 o7 o8:Option S),U=[some (.sh (.lst (ns.map .int))),some (.lst ((A.map askD).map .sh)),o2,o3,o4,o5,o6,o7,o8]) _ (fun pre q post D2 U e hI hnx hct hrt hbk=>?_) (fun U hI=>?_) ⟨_,_,_,_,rfl⟩
  ·obtain ⟨o4,o5,o7,o8,rfl⟩:=hI
   obtain ⟨hg,hw⟩:=hall q (by rw [<- e]; simp)
   simp! [u_10_b4,askD,length_cons,length_nil]
   refine zed hg hw ?_
   generalize hv:(open Classical in decide (TK q.2.1 q.2.2))=v
   simp! [show isTy "bool" (D.bl v)=true from rfl]
   refine zet hg hw ?_
   rw [hv]
   simp! [e_C]
   exact hnx _ ⟨_,_,_,_,rfl⟩
  ·obtain ⟨o4,o5,o7,o8,rfl⟩:=hI
   simp! [e_C]
end pu
end Law
end
section
set_option maxHeartbeats 4000000
namespace Law
open PySem PySem.Spec PyProof.Rows L2 FL
local macro_rules
 | `(tactic| trivial)=>`(tactic| first | exact Or.inl rfl | exact Or.inr rfl)
def top (i:Nat):Stmt:=PySem.Challenge.pw_walktold_k59_two_way_readers_gone.main.body.getD i (.Pass ⟨0,0,0,0⟩)
abbrev s_0:Stmt:=top 1
def n_0:List Str:=["colours","two","word","stands","seen","place","row","stand"]
abbrev p_0:List Str:=["colours","two","word"]
theorem sc_0:FnScope n_0 p_0 (defScope s_0):=⟨rfl,rfl,rfl,by decide +kernel,rfl,by decide +kernel,by decide +kernel⟩
abbrev s_1:Stmt:=top 2
def n_1:List Str:=["two","word","place","row","ahead","behind","told","way","colour","other"]
abbrev p_1:List Str:=["two","word","place","row"]
theorem sc_1:FnScope n_1 p_1 (defScope s_1):=⟨rfl,rfl,rfl,by decide +kernel,rfl,by decide +kernel,by decide +kernel⟩
abbrev s_2:Stmt:=top 4
def n_2:List Str:=["_law_script","_law_k","_law_cell","_law_seed"]
abbrev p_2:List Str:=["_law_script","_law_k"]
theorem sc_2:FnScope n_2 p_2 (defScope s_2):=⟨rfl,rfl,rfl,by decide +kernel,rfl,by decide +kernel,by decide +kernel⟩
abbrev s_3:Stmt:=top 5
def n_3:List Str:=["_law_box_here","_law_many","_law_digit","_law_one"]
abbrev p_3:List Str:=["_law_box_here","_law_many"]
theorem sc_3:FnScope n_3 p_3 (defScope s_3):=⟨rfl,rfl,rfl,by decide +kernel,rfl,by decide +kernel,by decide +kernel⟩
abbrev s_4:Stmt:=top 6
def n_4:List Str:=["_law_box_here","_law_many","_law_left"]
abbrev p_4:List Str:=["_law_box_here","_law_many"]
theorem sc_4:FnScope n_4 p_4 (defScope s_4):=⟨rfl,rfl,rfl,by decide +kernel,rfl,by decide +kernel,by decide +kernel⟩
abbrev s_5:Stmt:=top 7
def n_5:List Str:=["_law_box_here","_law_colours_here","_law_most","_law_many"]
abbrev p_5:List Str:=["_law_box_here","_law_colours_here","_law_most"]
theorem sc_5:FnScope n_5 p_5 (defScope s_5):=⟨rfl,rfl,rfl,by decide +kernel,rfl,by decide +kernel,by decide +kernel⟩
abbrev s_6:Stmt:=top 8
def n_6:List Str:=["_law_box_here","_law_colours_here","_law_rows","_law_goes","_law_many","_law_found","_law_k","_law_own","_law_j","_law_way"]
abbrev p_6:List Str:=["_law_box_here","_law_colours_here","_law_rows","_law_goes"]
theorem sc_6:FnScope n_6 p_6 (defScope s_6):=⟨rfl,rfl,rfl,by decide +kernel,rfl,by decide +kernel,by decide +kernel⟩
abbrev s_7:Stmt:=top 9
def n_7:List Str:=["_law_two_here","_law_word_here","_law_place","_law_row","_law_found","_law_way","_law_colour","_law_goal"]
abbrev p_7:List Str:=["_law_two_here","_law_word_here","_law_place","_law_row"]
theorem sc_7:FnScope n_7 p_7 (defScope s_7):=⟨rfl,rfl,rfl,by decide +kernel,rfl,by decide +kernel,by decide +kernel⟩
abbrev s_8:Stmt:=top 10
def n_8:List Str:=["_law_two_here","_law_word_here","_law_starts","_law_found","_law_left","_law_place","_law_row","_law_one"]
abbrev p_8:List Str:=["_law_two_here","_law_word_here","_law_starts"]
theorem sc_8:FnScope n_8 p_8 (defScope s_8):=⟨rfl,rfl,rfl,by decide +kernel,rfl,by decide +kernel,by decide +kernel⟩
abbrev s_9:Stmt:=top 11
def n_9:List Str:=["_law_two_here","_law_word_here"]
abbrev p_9:List Str:=["_law_two_here","_law_word_here"]
theorem sc_9:FnScope n_9 p_9 (defScope s_9):=⟨rfl,rfl,rfl,by decide +kernel,rfl,by decide +kernel,by decide +kernel⟩
abbrev s_10:Stmt:=top 12
def n_10:List Str:=["_law_script","_law_asked","_law_k","_law_box_here","_law_colours_here","_law_two_here","_law_words","_law_word_here","_law_found"]
abbrev p_10:List Str:=["_law_script"]
theorem sc_10:FnScope n_10 p_10 (defScope s_10):=⟨rfl,rfl,rfl,by decide +kernel,rfl,by decide +kernel,by decide +kernel⟩
structure Txt (K:W.Frag) (mg:Str->Option Value) (af:Nat->Addr):Prop where
 t_0:Tx K mg (af 0) "two_takes" s_0 p_0
 t_1:Tx K mg (af 1) "next_stands" s_1 p_1
 t_2:Tx K mg (af 2) "_law_box" s_2 p_2
 t_3:Tx K mg (af 3) "_law_take" s_3 p_3
 t_4:Tx K mg (af 4) "_law_colours" s_4 p_4
 t_5:Tx K mg (af 5) "_law_word" s_5 p_5
 t_6:Tx K mg (af 6) "_law_two" s_6 p_6
 t_7:Tx K mg (af 7) "_law_onward" s_7 p_7
 t_8:Tx K mg (af 8) "_law_come" s_8 p_8
 t_9:Tx K mg (af 9) "_law_taken" s_9 p_9
 t_10:Tx K mg (af 10) "law" s_10 p_10
 n_bool:mg "bool"=none
 n_dict:mg "dict"=none
 n_int:mg "int"=none
 n_isinstance:mg "isinstance"=none
 n_len:mg "len"=none
 n_list:mg "list"=none
 n_max:mg "max"=none
 n_min:mg "min"=none
 n_range:mg "range"=none
 n_sorted:mg "sorted"=none
 n_tuple:mg "tuple"=none
section
variable {P:Program} {w:World} {K:W.Frag} {mg:Str->Option Value} {base:Heap} {af:Nat->Addr}
theorem ok_1 (T:Txt K mg af):FnOk P w K mg base (CXe P w) 1 (af 1) (dO K (af 1)) p_1 (spW K w_1 4):=by
 refine fn_w (k:=0) T.t_1.F sc_1 rfl rfl fun cdv A outer s H E hr=>?_
 exact zab (zi7 (i:=4) (j:=5) (by rfl) sc_1.nd (by rfl) (by rfl) (by decide) (by decide) (by decide) (by rfl) (by rfl) (zaa (zgY (fw 1) (fw 2) (zaw (fw 2) zad)) (zaa (zjF (zg5 (fw 1) (fw 2)) (zfv zad)) zac)))
  (zab (zak (zaN zac) (gnm 6 sc_1.nd))
  (zab (zbx (by rfl) (zbw (zaG (zaG (fw 0) (fw 3)) zad)) (zb8 (by rfl) (zal (gnm 7 sc_1.nd) (zal (gnm 8 sc_1.nd) (zal (gnm 9 sc_1.nd) zbk)))) (zag (zbZ (zay (fun _ _=>zbe (u31 hr)) zaK (fw 8) (zgQ (zay (fun _ _=>zbe (u31 hr)) zaK (fw 7) zad (nomark _)) (fw 4) (fw 5)) (nomark _)) (zag (zaV (zaz (j:=6) (fw 6) (za1 (zaa (zaw (fw 2) (fw 7)) (zaa (fw 9) zac)))))) zaL)))
  (zag (zaD (fw 6)))))
theorem ok_2 (T:Txt K mg af):FnOk P w K mg base (CXe P w) 1 (af 2) (dO K (af 2)) p_2 (spW K w_2 2):=by
 refine fn_w (k:=0) T.t_2.F sc_2 rfl rfl fun cdv A outer s H E hr=>?_
 exact zab (zak (zaw (zaQ zad (fw 1)) zad) (gnm 2 sc_2.nd))
  (zab (zbZ (zay (fun _ _=>zjr) zhD (fw 1) (zbf (by rfl) T.n_len (zaa (fw 0) zac)) (nomark _)) (zag (zak (zaG (fw 0) (fw 1)) (gnm 2 sc_2.nd))) (zag (zbZ (zay (fun _ _=>zeO) zdx (zbf (by rfl) T.n_len (zaa (fw 0) zac)) zad (nomark _)) (zag (zak (zaw (fw 2) (zaQ (zbz (zaG (fw 0) (zbz (fw 1) (zbf (by rfl) T.n_len (zaa (fw 0) zac)))) zad) zad)) (gnm 2 sc_2.nd))) zaL)))
  (zab (zak (zaw (zbz (zaw (zaQ (zbz (fw 2) zad) zad) (zaQ zad (fw 1))) zad) zad) (gnm 3 sc_2.nd))
  (zag (zaD (zaN (zaa (zaG (zaN (zaa zad (zaa (fw 2) zac))) (ze3 (by rfl) T.n_int zhd (zaa (zcO (fun _ _=>zjp) zhV (fw 2) (zj9 zad zad) (nomark _)) zac))) (zaa (fw 3) zac)))))))
theorem ok_3 (T:Txt K mg af):FnOk P w K mg base (CXe P w) 1 (af 3) (dO K (af 3)) p_3 (spW K w_3 2):=by
 refine fn_w (k:=0) T.t_3.F sc_3 rfl rfl fun cdv A outer s H E hr=>?_
 exact zab (zbZ (zay (fun _ _=>zeO) zdx (zaG (fw 0) zad) zad (nomark _)) (zab (zak (zbz (zaG (fw 0) zad) (fw 1)) (gnm 2 sc_3.nd))
  (zab (zdH (j:=0) (fw 0) zad (zfT (zaG (fw 0) zad) (fw 1)))
  (zag (zaD (fw 2))))) zaL)
  (zab (zak (zbz (zaQ (zaG (fw 0) zad) zad) zad) (gnm 3 sc_3.nd))
  (zab (zdH (j:=0) (fw 0) zad (zaw (zbz (zaw (zaQ (fw 3) zad) zad) zad) zad))
  (zag (zaD (zbz (zfT (zaw (zaQ (fw 3) zad) (zaG (fw 0) zad)) zad) (fw 1))))))
theorem ok_7 (T:Txt K mg af):FnOk P w K mg base (CXe P w) 1 (af 7) (dO K (af 7)) p_7 (spW K w_7 4):=by
 refine fn_w (k:=0) T.t_7.F sc_7 rfl rfl fun cdv A outer s H E hr=>?_
 exact zab (zak (zaN zac) (gnm 4 sc_7.nd))
  (zab (zbx (by rfl) (zbw (zaG (zaG (fw 0) (fw 3)) zad)) (zb8 (by rfl) (zal (gnm 5 sc_7.nd) (zal (gnm 6 sc_7.nd) (zal (gnm 7 sc_7.nd) zbk)))) (zab (zbZ (zgL (zdG (zay (fun _ _=>zbe (u31 hr)) zaK (fw 5) zad (nomark _)) (zdk (zay (fun _ _=>zbe (u31 hr)) zaK (zgY (fw 1) (fw 2) (zaw (fw 2) zad)) (fw 6) (nomark _))))) (zag (zaV (zaz (j:=4) (fw 4) (za1 (zaa (zaw (fw 2) zad) (zaa (fw 7) zac)))))) zaL)
  (zag (zbZ (zgL (zdG (zay (fun _ _=>zbe (u31 hr)) zaK (fw 5) (zfv zad) (nomark _)) (zdG (zay (fun _ _=>zeO) zdx (fw 2) zad (nomark _)) (zdk (zay (fun _ _=>zbe (u31 hr)) zaK (zaG (fw 1) (zg9 (fw 2) zad)) (fw 6) (nomark _)))))) (zag (zaV (zaz (j:=4) (fw 4) (za1 (zaa (zg9 (fw 2) zad) (zaa (fw 7) zac)))))) zaL))))
  (zag (zaD (fw 4))))
theorem ok_0 (T:Txt K mg af):FnOk P w K mg base (CXe P w) 2 (af 0) (dO K (af 0)) p_0 (spW K w_0 3):=by
 refine fn_w (k:=1) T.t_0.F sc_0 rfl rfl fun cdv A outer s H E hr=>?_
 exact zab (zak (zaN (zaa (za1 (zaa zad (zaa zad zac))) zac)) (gnm 3 sc_0.nd))
  (zab (zak (zfZ (ziN hr) (za1 (zaa zad (zaa zad zac))) zcs) (gnm 4 sc_0.nd))
  (zab (zdI (zeA (fw 3)) (zab (zak (zg3 (j:=3) (fw 3)) (zb8 (by rfl) (zal (gnm 5 sc_0.nd) (zal (gnm 6 sc_0.nd) zbk))))
  (zab (zbZ (zgL (zdG (zay (fun _ _=>zbe (u31 hr)) zaK (fw 5) (zbf (by rfl) T.n_len (zaa (fw 2) zac)) (nomark _)) (zdk (zeA (zaG (zaG (fw 1) (fw 6)) zad))))) (zag (zaD zcs)) zaL)
  (zag (zbx (by rfl) (zbw (fcl [true,true,true,true] T.t_1 (ok_1 T) hr (zaa (fw 1) (zaa (fw 2) (zaa (fw 5) (zaa (fw 6) zac)))))) (gnm 7 sc_0.nd) (zag (zbZ (zay (fun _ _=>zcG (u32 hr)) zbY (fw 7) (fw 4) (by with_unfolding_all rfl)) (zab (zfq (j:=4) (zig hr) (fw 4) (fw 7) zcs)
  (zag (zaV (zaz (j:=3) (fw 3) (fw 7))))) zaL)))))))
  (zag (zaD zcs))))
theorem ok_4 (T:Txt K mg af):FnOk P w K mg base (CXe P w) 2 (af 4) (dO K (af 4)) p_4 (spW K w_4 2):=by
 refine fn_w (k:=1) T.t_4.F sc_4 rfl rfl fun cdv A outer s H E hr=>?_
 exact zab (zak (zdK (by rfl) (by rfl) T.n_list zdo (zaa (zcB (by rfl) (by decide)) zac)) (gnm 2 sc_4.nd))
  (zag (zaD (zfg (zcB (by rfl) (by decide)) (zaa (zgn (by rfl) T.n_sorted zeD (zaa (zcc (vars:=["_law_k"]) rfl (by rfl) (compSc (by kernel_rfl)) rfl (zaH (by rfl) T.n_range (fw 1)) (fun _ _ _=>gcm 4) (fun _ _ _=>zbp) (fun _ _ _=>zcD (zgt (j:=2) (fw 2) (fcl [true,true] T.t_3 (ok_3 T) hr (zaa (fw 0) (zaa (zbf (by rfl) T.n_len (zaa (fw 2) zac)) zac)))))) zac)) zac))))
theorem ok_5 (T:Txt K mg af):FnOk P w K mg base (CXe P w) 2 (af 5) (dO K (af 5)) p_5 (spW K w_5 3):=by
 refine fn_w (k:=1) T.t_5.F sc_5 rfl rfl fun cdv A outer s H E hr=>?_
 exact zab (zak (zaQ (fcl [true,true] T.t_3 (ok_3 T) hr (zaa (fw 0) (zaa (zaw (fw 2) zad) zac))) (ze3 (by rfl) T.n_int zhd (zaa (zcO (fun _ _=>zfL (u32 hr)) zds (fw 1) (zcB (by rfl) (by decide)) (nomark _)) zac))) (gnm 3 sc_5.nd))
  (zag (zaD (zfg (zcB (by rfl) (by decide)) (zaa (zcc (vars:=["_law_k"]) rfl (by rfl) (compSc (by kernel_rfl)) rfl (zaH (by rfl) T.n_range (fw 3)) (fun _ _ _=>gcm 5) (fun _ _ _=>zbp) (fun _ _ _=>zaG (fw 1) (fcl [true,true] T.t_3 (ok_3 T) hr (zaa (fw 0) (zaa (zbf (by rfl) T.n_len (zaa (fw 1) zac)) zac))))) zac))))
theorem ok_6 (T:Txt K mg af):FnOk P w K mg base (CXe P w) 2 (af 6) (dO K (af 6)) p_6 (spW K w_6 4):=by
 refine fn_w (k:=1) T.t_6.F sc_6 rfl rfl fun cdv A outer s H E hr=>?_
 exact zab (zak (zaw zad (fcl [true,true] T.t_3 (ok_3 T) hr (zaa (fw 0) (zaa (fw 2) zac)))) (gnm 4 sc_6.nd))
  (zab (zak (zaN zac) (gnm 5 sc_6.nd))
  (zab (zbx (by rfl) (zaH (by rfl) T.n_range (fw 4)) (gnm 6 sc_6.nd) (zab (zak (zaN zac) (gnm 7 sc_6.nd))
  (zab (zbx (by rfl) (zaH (by rfl) T.n_range (fcl [true,true] T.t_3 (ok_3 T) hr (zaa (fw 0) (zaa (zaw (fw 3) zad) zac)))) (gnm 8 sc_6.nd) (zab (zak (zaG (zaN (zaa zad (zaa zad (zaa (zfv zad) zac)))) (fcl [true,true] T.t_3 (ok_3 T) hr (zaa (fw 0) (zaa zad zac)))) (gnm 9 sc_6.nd))
  (zag (zaV (zaz (j:=7) (fw 7) (za1 (zaa (fw 9) (zaa (zaG (fw 1) (fcl [true,true] T.t_3 (ok_3 T) hr (zaa (fw 0) (zaa (zbf (by rfl) T.n_len (zaa (fw 1) zac)) zac)))) (zaa (fcl [true,true] T.t_3 (ok_3 T) hr (zaa (fw 0) (zaa (fw 4) zac))) zac)))))))))
  (zag (zaV (zaz (j:=5) (fw 5) (za1 (zaa (zcO (fun _ _=>zbe (u31 hr)) zaK (fcl [true,true] T.t_3 (ok_3 T) hr (zaa (fw 0) (zaa zad zac))) zad (nomark _)) (zaa (zc2 (by rfl) T.n_tuple zdQ (zaa (fw 7) zac)) zac)))))))))
  (zag (zaD (zc2 (by rfl) T.n_tuple zdQ (zaa (fw 5) zac))))))
theorem ok_8 (T:Txt K mg af):FnOk P w K mg base (CXe P w) 2 (af 8) (dO K (af 8)) p_8 (spW K w_8 3):=by
 refine fn_w (k:=1) T.t_8.F sc_8 rfl rfl fun cdv A outer s H E hr=>?_
 exact zab (zak (zfX hr (by rfl) T.n_dict ziw (zaa (zcc (vars:=["_law_one"]) rfl (by rfl) (compSc (by kernel_rfl)) rfl (zbw (fw 2)) (fun _ _ _=>gcm 9) (fun _ _ _=>zbp) (fun _ _ _=>za1 (zaa (fw 9) (zaa zcs zac)))) zac)) (gnm 3 sc_8.nd))
  (zab (zak (zdK (by rfl) (by rfl) T.n_list zdo (zaa (fw 2) zac)) (gnm 4 sc_8.nd))
  (zab (zdI (zay (fun _ _=>zfL (u32 hr)) zds (fw 4) (zaN zac) (nomark _)) (zab (zak (zg3 (j:=4) (fw 4)) (zb8 (by rfl) (zal (gnm 5 sc_8.nd) (zal (gnm 6 sc_8.nd) zbk))))
  (zag (zbx (by rfl) (zbw (fcl [true,true,true,true] T.t_7 (ok_7 T) hr (zaa (fw 0) (zaa (fw 1) (zaa (fw 5) (zaa (fw 6) zac)))))) (gnm 7 sc_8.nd) (zag (zbZ (zay (fun _ _=>zcG (u32 hr)) zbY (fw 7) (fw 3) (by with_unfolding_all rfl)) (zab (zfq (j:=3) (zig hr) (fw 3) (fw 7) zcs)
  (zag (zaV (zaz (j:=4) (fw 4) (fw 7))))) zaL))))))
  (zag (zaD (zgN (by rfl) (by rfl) T.n_list zdo (zaa (fw 3) zac))))))
theorem ok_9 (T:Txt K mg af):FnOk P w K mg base (CXe P w) 3 (af 9) (dO K (af 9)) p_9 (spW K w_9 2):=by
 refine fn_w (k:=2) T.t_9.F sc_9 rfl rfl fun cdv A outer s H E hr=>?_
 exact zag (zaD (zcO (fun _ _=>zjB (u32 hr)) zgB zcs (zcc (vars:=["_law_place","_law_row"]) rfl (by rfl) (compSc (by kernel_rfl)) rfl (zbw (fcl [true,true,true] T.t_8 (ok_8 T) hr (zaa (fw 0) (zaa (fw 1) (zaa (zcD (zaN (zaa (za1 (zaa zad (zaa zad zac))) zac))) zac))))) (fun _ _ _=>zb8 (by rfl) (zal (gcm 3) (zal (gcm 4) zbk))) (fun _ _ _=>zbp) (fun _ _ _=>zkN (zcO (fun _ _=>zbe (u31 hr)) zaK (fw 3) (zbf (by rfl) T.n_len (zaa (fw 1) zac)) (nomark _)) (ziO (zaG (zaG (fw 0) (fw 4)) zad)))) (by with_unfolding_all rfl)))
theorem ok_10 (T:Txt K mg af):FnOk P w K mg base (CXe P w) 4 (af 10) (dO K (af 10)) p_10 (spW K w_10 1):=by
 refine fn_w (k:=3) T.t_10.F sc_10 rfl rfl fun cdv A outer s H E hr=>?_
 exact zab (zak (zaN zac) (gnm 1 sc_10.nd))
  (zab (zbx (by rfl) (zaH (by rfl) T.n_range (zjv (by rfl) (by rfl) T.n_max zks (zaa zad (zaa (ziW (by rfl) (by rfl) T.n_min ziJ (zaa (zbf (by rfl) T.n_len (zaa (fw 0) zac)) (zaa zad zac))) zac)))) (gnm 2 sc_10.nd) (zab (zak (fcl [true,true] T.t_2 (ok_2 T) hr (zaa (fw 0) (zaa (fw 2) zac))) (gnm 3 sc_10.nd))
  (zab (zak (fcl [true,true] T.t_4 (ok_4 T) hr (zaa (fw 3) (zaa (zaw zad (fcl [true,true] T.t_3 (ok_3 T) hr (zaa (fw 3) (zaa zad zac)))) zac))) (gnm 4 sc_10.nd))
  (zab (zak (zcD (fcl [true,true,true,true] T.t_6 (ok_6 T) hr (zaa (fw 3) (zaa (fw 4) (zaa zad (zaa zad zac)))))) (gnm 5 sc_10.nd))
  (zab (zak (zcD (zaw (zaN (zaa (zcB (by rfl) (by decide)) zac)) (zcc (vars:=["_law_turn"]) rfl (by rfl) (compSc (by kernel_rfl)) rfl (zaH (by rfl) T.n_range zad) (fun _ _ _=>gcm 10) (fun _ _ _=>zbp) (fun _ _ _=>fcl [true,true,true] T.t_5 (ok_5 T) hr (zaa (fw 3) (zaa (fw 4) (zaa zad zac))))))) (gnm 6 sc_10.nd))
  (zag (zaV (zeM (j:=1) (fw 1) (zcc (vars:=["_law_word_here"]) rfl (by rfl) (compSc (by kernel_rfl)) rfl (zbw (fw 6)) (fun _ _ _=>gcm 10) (fun _ _ _=>zbp) (fun _ _ _=>za1 (zaa (fw 4) (zaa (fw 5) (zaa (fw 10) zac)))))))))))))
  (zab (zbx (by rfl) (zbw (zaw (fw 1) (zg5 (fw 1) zad))) (zb8 (by rfl) (zal (gnm 4 sc_10.nd) (zal (gnm 5 sc_10.nd) (zal (gnm 7 sc_10.nd) zbk)))) (zab (zak (zcD (fcl [true,true,true] T.t_0 (ok_0 T) hr (zaa (fw 4) (zaa (fw 5) (zaa (fw 7) zac))))) (gnm 8 sc_10.nd))
  (zag (zbZ (zgL (zlh (zki (zeA (zkU (by rfl) T.n_isinstance zcu (by rfl) T.n_bool zhm (by decide) (fw 8)))) (zkc (zay (fun _ _=>zfL (u32 hr)) zds (fw 8) (fcl [true,true] T.t_9 (ok_9 T) hr (zaa (fw 5) (zaa (fw 7) zac))) (nomark _))))) (zag (zaD zcs)) zaL))))
  (zag (zaD zcs))))
end
theorem all_mk {l:W.OpenLaw} {w:World} {K:W.Frag} {h:Heap} {mg:Str->Option Value} {fa:Addr} (X:K.In h) (G:h.Ns mainGlobals mg) (hfa:mg "law"=some (.ref fa))
  {f_0 f_1 f_2 f_3 f_4 f_5 f_6 f_7 f_8 f_9 f_10:Addr}
  (h_0:Lk K "two_takes" s_0 f_0)
  (h_1:Lk K "next_stands" s_1 f_1)
  (h_2:Lk K "_law_box" s_2 f_2)
  (h_3:Lk K "_law_take" s_3 f_3)
  (h_4:Lk K "_law_colours" s_4 f_4)
  (h_5:Lk K "_law_word" s_5 f_5)
  (h_6:Lk K "_law_two" s_6 f_6)
  (h_7:Lk K "_law_onward" s_7 f_7)
  (h_8:Lk K "_law_come" s_8 f_8)
  (h_9:Lk K "_law_taken" s_9 f_9)
  (h_10:Lk K "law" s_10 f_10)
  (z_bool:W.nsIn K mainGlobals "bool"=some none)
  (z_dict:W.nsIn K mainGlobals "dict"=some none)
  (z_int:W.nsIn K mainGlobals "int"=some none)
  (z_isinstance:W.nsIn K mainGlobals "isinstance"=some none)
  (z_len:W.nsIn K mainGlobals "len"=some none)
  (z_list:W.nsIn K mainGlobals "list"=some none)
  (z_max:W.nsIn K mainGlobals "max"=some none)
  (z_min:W.nsIn K mainGlobals "min"=some none)
  (z_range:W.nsIn K mainGlobals "range"=some none)
  (z_sorted:W.nsIn K mainGlobals "sorted"=some none)
  (z_tuple:W.nsIn K mainGlobals "tuple"=some none):
  ∃ fd:FuncData,(∀ (s:Shared) (v:Value),BindsTo s fd ⟨[v],[]⟩ [("_law_script",v)])/\∀ base:Heap,K.In base->base.Ns mainGlobals mg->FnOk l.prog w K mg base (CXe l.prog w) 4 fa fd ["_law_script"] (spW K w_10 1):=by
 have e:=hfa.symm.trans (h_10.mm X G)
 cases e
 have T:Txt K mg (fun n=>[f_0,f_1,f_2,f_3,f_4,f_5,f_6,f_7,f_8,f_9,fa].getD n 0):=⟨h_0.tx X G,h_1.tx X G,h_2.tx X G,h_3.tx X G,h_4.tx X G,h_5.tx X G,h_6.tx X G,h_7.tx X G,h_8.tx X G,h_9.tx X G,h_10.tx X G,W.mg_none_of X G z_bool,W.mg_none_of X G z_dict,W.mg_none_of X G z_int,W.mg_none_of X G z_isinstance,W.mg_none_of X G z_len,W.mg_none_of X G z_list,W.mg_none_of X G z_max,W.mg_none_of X G z_min,W.mg_none_of X G z_range,W.mg_none_of X G z_sorted,W.mg_none_of X G z_tuple⟩
 exact ⟨_,fun s v=>h_10.bt s v,fun base _ _=>ok_10 T⟩
theorem walk {l:W.OpenLaw} {q:Program} {loose:List Str} {XP:(Str->Option Value)->Heap->Prop} {YP:World->Heap->Prop} {d:DefRec} {K:Params->W.Frag} (hn:l.most=some 63) (hdf:d.params.defaults=[])
  (hY:∀ (w:World) (h:Heap),YP w h->(K w.params).In h)
  (F:∀ (w:World) (mg:Str->Option Value) (fa:Addr) (h:Heap),(K w.params).In h->h.Ns mainGlobals mg->mg d.name=some (.ref fa)->
   ∃ fd:FuncData,(∀ (s:Shared) (u:Value),BindsTo s fd ⟨[u],[]⟩ [("_law_script",u)])/\∀ base:Heap,(K w.params).In base->base.Ns mainGlobals mg->FnOk l.prog w (K w.params) mg base (CXe l.prog w) 4 fa fd ["_law_script"] (spW (K w.params) w_10 1)):
  W.WalkO q loose XP YP l.row.toRowW d [] (fun f vs=>PySem.call f vs):=
 L2.walk_of (n:=63) (k:=4) (x:="_law_script") (CX:=fun w=>CXe l.prog w) (sp:=fun w=>spW (K w.params) w_10 1) hn (by decide) hdf ⟨rfl,by decide,by decide,rfl⟩ hY F (fun _ H a ns hl _ hS=>zkj pure_law H a ns hl hS) fun _ _ _ _ _ ⟨_,_,_,_,_,_,_,_,_,q,_⟩=>q
end Law
end
open PySem PySem.W PyProof.Rows
set_option maxRecDepth 100000 in
set_option maxHeartbeats 0 in
theorem PySem.Challenge.cw_walktold_k59_two_way_readers_gone_holds : PySem.Challenge.rw_walktold_k59_two_way_readers_gone.Holds := by
 w_on; o_law; k_head; (case hw=>w_witness2)
 k_fill
 refine Law.walk (l:=PySem.Challenge.rw_walktold_k59_two_way_readers_gone) rfl rfl (fun w h Y=>PySem.W.kIn_of Y) ?F
 case F=>
  intro w mg fa h KX G hmg
  refine' Law.all_mk KX G hmg ⟨?a_0,?l_0,?c_0,?k_0⟩ ⟨?a_1,?l_1,?c_1,?k_1⟩ ⟨?a_2,?l_2,?c_2,?k_2⟩ ⟨?a_3,?l_3,?c_3,?k_3⟩ ⟨?a_4,?l_4,?c_4,?k_4⟩ ⟨?a_5,?l_5,?c_5,?k_5⟩ ⟨?a_6,?l_6,?c_6,?k_6⟩ ⟨?a_7,?l_7,?c_7,?k_7⟩ ⟨?a_8,?l_8,?c_8,?k_8⟩ ⟨?a_9,?l_9,?c_9,?k_9⟩ ⟨?a_10,?l_10,?c_10,?k_10⟩ ?z_bool ?z_dict ?z_int ?z_isinstance ?z_len ?z_list ?z_max ?z_min ?z_range ?z_sorted ?z_tuple
  case a_0 | l_0 | c_0 | k_0 | a_1 | l_1 | c_1 | k_1 | a_2 | l_2 | c_2 | k_2 | a_3 | l_3 | c_3 | k_3 | a_4 | l_4 | c_4 | k_4 | a_5 | l_5 | c_5 | k_5 | a_6 | l_6 | c_6 | k_6 | a_7 | l_7 | c_7 | k_7 | a_8 | l_8 | c_8 | k_8 | a_9 | l_9 | c_9 | k_9 | a_10 | l_10 | c_10 | k_10 | z_bool | z_dict | z_int | z_isinstance | z_len | z_list | z_max | z_min | z_range | z_sorted | z_tuple=>k_is
