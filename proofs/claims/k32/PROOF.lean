import PyProof.Rows.All
import Wide.All
import OpenK.AllK
import Wide.FinOn
import PySem.SetTable
import PyProof.SetScanFacts
import PyProof.DictFindH
import PyProof.SetKind
import PyProof.IsRules
import PyProof.TupleKey
import PyProof.StrWalks
import PyProof.FactsAll.set
import PyProof.SetRoads
import PyProof.MakeMany
import PyProof.CollectIter
import PyProof.ListNew
import PyProof.Rows.SortShell
import PyProof.Rows.SortStr
import PyProof.SetNew
import PyProof.Rows.SetFrom
import PyProof.WalksMore
import Lean
import PyProof.EqAt
import PyProof.EqKinds
import PyProof.TupleCall
import PySem.Str
import PyProof.NeKinds
import PyProof.Draws
import PyProof.EnumMake
import PyProof.ZipIter
import PyProof.DictItems
import PyProof.Rows.SumAny
import KE.KSortTup
import PyProof.Rows.MinMaxN
import PyProof.TupleOfGen
import PyProof.ListRange
import KE.KRevIter
import PyProof.ReprLen
import PyProof.FitsInt
import PyProof.StrBlock2
import PyProof.FactsAll.tuple_2
import PyProof.ListMulRoad
import PyProof.MeetsDict
import PyProof.Rows.Range3
import PySem.Challenge.RW_walktold_k32_steps_looked_at
set_option Elab.async false
set_option linter.all false
set_option maxRecDepth 100000
set_option compiler.extract_closed false
set_option bootstrap.genMatcherCode false
open Array (getD_eq_getD_getElem? getElem?_toList length_toList mem_toList_iff toArray_toList toList_append)
open Bool (and_eq_true false_eq_true or_eq_false_iff or_eq_true)
open Int (mul_one natCast_add toNat_natCast)
open List (all_eq_true any_cons any_eq_true append_assoc append_nil cons_append cons_lt_cons_iff countP_cons drop_eq_getElem_cons drop_of_length_le drop_zero ext_getElem? filterMap_cons find?_cons flatMap_append flatMap_cons flatten_cons getElem?_append_left getElem?_append_right getElem?_eq_getElem getElem?_eq_none getElem?_map getElem?_range getElem?_set getElem?_set_ne getElem?_set_self getElem_idxOf getElem_mem length_append length_cons length_drop length_map length_nil length_pos_iff length_range length_singleton length_take lookup_cons lt_asymm map_append map_congr_left map_cons map_drop map_id map_map map_nil map_set mem_append mem_append_left mem_append_right mem_cons mem_cons_of_mem mem_cons_self mem_filter mem_filterMap mem_map mem_of_getElem? mem_range mem_singleton nil_append nodup_append nodup_cons not_mem_nil of_mem_zip pairwise_cons pairwise_map perm_append_comm perm_middle size_toArray sum_cons take_nil take_of_length_le take_zero)
open Nat (le_of_lt le_refl le_succ le_trans lt_irrefl lt_of_lt_of_le lt_trans min_eq_left min_eq_right ne_of_gt ne_of_lt not_lt sub_self sub_zero zero_add zero_le)
open Option (getD_some isSome_iff_exists isSome_map isSome_some map_eq_some_iff map_some toList_none)
def qa:=@PySem.wpAny_bind
def qb:=@PySem.wpAny_pure
def qc:=@PySem.Heap.get?_push_of_some
def qd:=@PySem.Heap.get?_push_size
def qg:=@PySem.Heap.lt_size
def qh.{u}:=@Option.some.inj.{u}
def qi.{u}:=@List.getElem?_eq_some_iff.{u}
def qk.{u}:=@List.mem_append_right.{u}
def qm.{u}:=@List.mem_append_left.{u}
def qo.{u}:=@List.mem_cons_of_mem.{u}
def qp.{u}:=@List.mem_cons_self.{u}
noncomputable section
section
namespace ST
open PySem PySem.SetTable
def Rising (xs:Array Nat):Prop:=∀ i j (hi:i < xs.size) (hj:j < xs.size),i < j->xs[i] < xs[j]
def path (t:SetTable) (p:Probe):Nat->Probe
 | 0=>p
 | n + 1=>path t (t.advance p) n
def okMask (mask:Nat):Prop:=mask=7\/mask=31\/mask=127\/mask=511
structure Tab (t:SetTable) (hs:List Int):Prop where
 ris:Rising t.place
 dum:t.dummies=#[]
 mask:okMask t.mask
 size:t.place.size=hs.length
 le:∀ i (hi:i < t.place.size),t.place[i]<=t.mask
 few:hs.length<=t.mask
 reach:∀ i (hi:i < t.place.size) (h:Int),hs[i]?=some h->∃ n,(path t (t.probeStart h) n).j=t.place[i]/\∀ m,m < n->t.slot (path t (t.probeStart h) m).j≠.empty
section
variable {prog:Program} {w:World} {K:Type} [DecidableEq K] (knd:HeapKind prog w K)
def ents (xs:List (K×Addr)):List (Int×Value):=xs.map fun p=>(knd.hash p.1,Value.ref p.2)
variable {knd}
variable {A:Around} {E:Value->Shared->Prop} {s:Shared} {a b:Addr} {o:Obj} {es:Array (Int×Value)} {ep:Nat} {t:SetTable} {xs:List (K×Addr)} {k:K}
def okRoom (t:SetTable) (n:Nat):Prop:=(t.mask=7/\n<=4)\/(t.mask=31/\n<=18)\/(t.mask=127/\n<=76)\/(t.mask=511/\n<=306)
end
end ST
end
section
namespace ST
open PySem
end ST
end
section
namespace ST
open PySem PySem.SetTable
end ST
end
section
namespace ST
open PySem PySem.SetTable PyProof.Rows
end ST
end
section
namespace ST
open PySem PySem.SetTable
structure WTab (t:SetTable) (n:Nat) (ld:Bool):Prop where
 ris:Rising t.place
 dum:t.dummies=#[]
 fit:t.fits n=true
 ldd:t.led=ld
section
variable {prog:Program} {w:World} {A:Around} {E:Value->Shared->Prop} {s:Shared} {a:Addr} {K:Type} [DecidableEq K] {knd:KeyKind prog w K} {xs:List (K×Value)}
def entV (knd:KeyKind prog w K) (xs:List (K×Value)):List (Int×Value):=xs.map fun p=>(knd.hash p.1,p.2)
def VSet (ld:Bool) (knd:KeyKind prog w K) (h:Heap) (a:Addr) (xs:List (K×Value)):Prop:=∃ o es ep t,h.get? a=some o/\o.ExactSet/\o.data=.set es ep t/\WTab t es.size ld/\es.toList=entV knd xs/\(∀ p∈xs,knd.is p.1 p.2=true/\p.2.scannable=true)/\(xs.map (·.1)).Nodup
end
end ST
end
section
namespace ST
open PySem PySem.SetTable PyProof.Rows
def freshSet (ld:Bool):Obj:={ cls:=.type "set",dict:=none,data:=.set #[] 0 (.fresh 0 0 ld) }
section
variable {prog:Program} {w:World} {A:Around} {E:Value->Shared->Prop} {s:Shared}
def ldOf (w:World):Bool:=!w.params.followText "set-order"
end
end ST
end
section
namespace ST
open PySem PySem.SetTable
section
variable {prog:Program} {w:World} {A:Around} {E:Value->Shared->Prop} {s:Shared} {a b:Addr} {K:Type} [DecidableEq K] {knd:KeyKind prog w K} {ks:List K} {ld:Bool} {xs:List (List K×Addr)}
def TRaw (ld:Bool) (knd:HeapKind prog w K) (h:Heap) (a:Addr) (xs:List (K×Addr)):Prop:=∃ o es ep t,h.get? a=some o/\o.ExactSet/\o.data=.set es ep t/\t.led=ld/\Tab t (es.toList.map (·.1))/\okRoom t es.size/\es.toList=ents knd xs/\(xs.map (·.1)).Nodup
end
end ST
end
section
namespace L2
open PySem PySem.Spec PyProof.Rows
abbrev Key:=Sum Int Str
def keyIs:Key->Value->Bool
 | .inl k,v=>Value.isInt k v
 | .inr x,v=>Value.isStrOf x v
def keyH (w:World):Key->Int
 | .inl k=>hashInt k
 | .inr x=>hashStr w x
theorem zav:∀ {k:Key} {v:Value},keyIs k v=true->(∃ i t,k=Sum.inl i/\v=Value.int i t)\/(∃ x t,k=Sum.inr x/\v=Value.str x t)
 | .inl i,v,h=>by
   obtain ⟨t,e⟩:=Value.isInt_shape (k:=i) (v:=v) h
   exact .inl ⟨i,t,rfl,e⟩
 | .inr x,v,h=>by
   obtain ⟨t,e⟩:=Value.isStrOf_shape (x:=x) (v:=v) h
   exact .inr ⟨x,t,rfl,e⟩
theorem zg6 (i:Int) (t:Tok):keyIs (.inl i) (.int i t)=true:=by simp [keyIs,Value.isInt]
theorem zhE (x:Str) (t:Tok):keyIs (.inr x) (.str x t)=true:=by simp [keyIs,Value.isStrOf]
theorem zmx (a b:Int):decide ((Sum.inl a:Key)=Sum.inl b)=(a == b):=by
 by_cases e:a=b
 ·subst e; simp
 ·have h:¬ (Sum.inl a:Key)=Sum.inl b:=fun q=>e (Sum.inl.inj q)
  rw [decide_eq_false h]
  exact (beq_eq_false_iff_ne.mpr e).symm
theorem zma (a b:Str):decide ((Sum.inr a:Key)=Sum.inr b)=decide (a=b):=by
 by_cases e:a=b
 ·subst e; simp
 ·have h:¬ (Sum.inr a:Key)=Sum.inr b:=fun q=>e (Sum.inr.inj q)
  rw [decide_eq_false h,decide_eq_false e]
theorem zm6 (a:Int) (b:Str):decide ((Sum.inl a:Key)=Sum.inr b)=false:=decide_eq_false (fun q=>nomatch q)
theorem zm5 (a:Str) (b:Int):decide ((Sum.inr a:Key)=Sum.inl b)=false:=decide_eq_false (fun q=>nomatch q)
def mixKind (prog:Program) (w:World):PySem.KeyKind prog w Key where
 is:=keyIs
 hash:=keyH w
 inj:=fun v a b ha hb=>by
  rcases zav ha with ⟨i,t,rfl,rfl⟩ | ⟨x,t,rfl,rfl⟩
  ·rcases zav hb with ⟨j,u,rfl,e⟩ | ⟨y,u,rfl,e⟩
   ·injection e with e1 _; rw [e1]
   ·exact nomatch e
  ·rcases zav hb with ⟨j,u,rfl,e⟩ | ⟨y,u,rfl,e⟩
   ·exact nomatch e
   ·injection e with e1 _; rw [e1]
 byValue:=fun k v h=>by
  rcases zav h with ⟨i,t,rfl,rfl⟩ | ⟨x,t,rfl,rfl⟩ <;> rfl
 pyHash:=fun hv h=>by
  rcases zav hv with ⟨i,t,rfl,rfl⟩ | ⟨x,t,rfl,rfl⟩
  ·exact wpAny_pyHash_int h
  ·exact wpAny_pyHash_str h
 eqBool:=fun hu hv h=>by
  rcases zav hu with ⟨i,t,rfl,rfl⟩ | ⟨x,t,rfl,rfl⟩
  ·rcases zav hv with ⟨j,u,rfl,rfl⟩ | ⟨y,u,rfl,rfl⟩
   ·rw [zmx] at h; exact wpAny_eqBool_int h
   ·rw [zm6] at h; exact SeqAt.EqAt.int_str i t y u _ _ _ _ h
  ·rcases zav hv with ⟨j,u,rfl,rfl⟩ | ⟨y,u,rfl,rfl⟩
   ·rw [zm5] at h; exact SeqAt.EqAt.str_int x t j u _ _ _ _ h
   ·rw [zma] at h; exact wpAny_eqBool_str h
 «strs»:=fun k x t v h=>by
  rcases zav h with ⟨i,u,rfl,e⟩ | ⟨y,u,rfl,e⟩
  ·exact nomatch e
  ·injection e with e1 _
   subst e1
   cases v <;> rfl
theorem zfH (prog:Program) (w:World) (i:Int) (t:Tok):(mixKind prog w).is (.inl i) (.int i t)=true:=zg6 i t
theorem zfx (prog:Program) (w:World) (x:Str) (t:Tok):(mixKind prog w).is (.inr x) (.str x t)=true:=zhE x t
end L2
namespace L2
open PySem PySem.Spec PyProof.Rows
inductive V where
 | non | bl (b:Bool) | int (i:Int) | str (x:Str) | byt (b:Array UInt8) | flt (b:UInt64) | ref (a:Addr) | ty (n:String)
 deriving DecidableEq
def RelV:V->Value->Prop
 | .non,u=>u=Value.none
 | .bl b,u=>u=Value.bool b
 | .int i,u=>∃ t,u=Value.int i t
 | .str x,u=>∃ t,u=Value.str x t
 | .byt b,u=>∃ t,u=Value.bytes b t
 | .flt b,u=>∃ t,u=Value.float b t
 | .ref a,u=>u=Value.ref a
 | .ty n,u=>u=Value.type n
abbrev Vals:List V->List Value->Prop:=Paired RelV
theorem Vals.length {xs:List V} {us:List Value} (r:Vals xs us):xs.length=us.length:=Paired.length r
theorem Vals.get:∀ {xs:List V} {us:List Value} {i:Nat} {x:V},Vals xs us->xs[i]?=some x->∃ u,us[i]?=some u/\RelV x u
 | _,_,_,_,.nil,e=>by simp at e
 | _,_,0,_,.cons r _,e=>by simp at e; subst e; exact ⟨_,rfl,r⟩
 | _,_,i + 1,x,.cons _ t,e=>by
   obtain ⟨u,h1,h2⟩:=Vals.get (i:=i) (x:=x) t (by simpa using e)
   exact ⟨u,by simpa using h1,h2⟩
theorem Vals.set {x:V} {u:Value} (r:RelV x u):∀ {xs:List V} {us:List Value} (i:Nat),Vals xs us->Vals (xs.set i x) (us.set i u)
 | _,_,_,.nil=>.nil
 | _,_,0,.cons _ t=>.cons r t
 | _,_,i + 1,.cons q t=>.cons q (Vals.set r i t)
theorem Vals.append:∀ {xs ys:List V} {us ws:List Value},Vals xs us->Vals ys ws->Vals (xs++ys) (us++ws):=by
 intro xs ys us ws r s
 induction r with
 | nil=>exact s
 | cons r _ ih=>exact .cons r ih
theorem Vals.take:∀ {xs:List V} {us:List Value} (n:Nat),Vals xs us->Vals (xs.take n) (us.take n)
 | _,_,0,_=>.nil
 | _,_,_ + 1,.nil=>.nil
 | _,_,n + 1,.cons r t=>.cons r (Vals.take n t)
theorem Vals.drop:∀ {xs:List V} {us:List Value} (n:Nat),Vals xs us->Vals (xs.drop n) (us.drop n)
 | _,_,0,r=>r
 | _,_,_ + 1,.nil=>.nil
 | _,_,n + 1,.cons _ t=>Vals.drop n t
def RelO:Option V->Option Value->Prop
 | some v,some u=>RelV v u
 | none,none=>True
 | _,_=>False
def KV {κ:Type}:List (κ×V)->List (κ×Value)->Prop:=Paired fun (p:κ×V) (q:κ×Value)=>p.1=q.1/\RelV p.2 q.2
def kV:Key->V
 | .inl i=>.int i
 | .inr x=>.str x
inductive HO where
 | lst (xs:List V)
 | tup (xs:List V)
 | dK (kvs:List (Key×V)) | dT (kvs:List (List Key×V))
 | set (vs:List V)
 | ins (C dx:Addr) (fs:List (Str×V))
 | own (x:Addr)
 | xd (fs:List (Str×V))
 | met (f x:Addr)
 | rng (lo hi:Int)
 | frz (o:Obj) (u:HO)
 | tbl (ps:Array Value)
 | ext (φ:Heap->Prop)
abbrev Hp:=Addr->Option HO
def upd (H:Hp) (a:Addr) (o:HO):Hp:=fun b=>if b=a then some o else H b
theorem zao {H:Hp} {a:Addr} {o:HO}:upd H a o a=some o:=by unfold upd; rw [if_pos rfl]
theorem zaj {H:Hp} {a b:Addr} {o:HO} (h:b≠a):upd H a o b=H b:=by unfold upd; rw [if_neg h]
theorem zpl {H:Hp} {a b:Addr} {o u:HO} (h:H a=some o) (h':H b=some u) (d:o≠u):a≠b:=by
 intro e; subst e; rw [h] at h'; exact d (qh h')
theorem zax {H:Hp} {a b:Addr} {o:HO} (h:H a=some o) (h':H b=none):a≠b:=by
 intro e; subst e; rw [h] at h'; cases h'
section
variable (P:Program) (w:World)
def ObjOk (H:Hp) (h:Heap) (a:Addr):HO->Prop
 | .lst xs=>xs.length<=sizeLine/\∃ (its:List Value) (n:Nat),Vals xs its/\h.get? a=some { cls:=.type "list",data:=.seq its.toArray n }
 | .tup xs=>xs.length<=sizeLine/\∃ its:List Value,Vals xs its/\IsTup h a its.toArray
 | .dK kvs=>kvs.length<=sizeLine/\(a == sysModules)=false/\∃ vs,KV kvs vs/\h.DictOf (mixKind P w) a vs
 | .dT kvs=>kvs.length<=sizeLine/\(a == sysModules)=false/\∃ xs:List (List Key×Addr×Value),
   Paired (fun (p:List Key×V) (q:List Key×Addr×Value)=>p.1=q.1/\H q.2.1=some (.tup (p.1.map kV))/\RelV p.2 q.2.2) kvs xs/\
   ∃ o es ep,h.get? a=some o/\o.ExactDict/\o.data=.dict es ep/\es.toList=xs.map (entryOfKey (tupleKind (mixKind P w)))/\(xs.map (·.1)).Nodup
 | .set vs=>vs.length<=301/\((vs=[]/\h.get? a=some (ST.freshSet (ST.ldOf w)))\/(vs≠[]/\∃ xs:List (Key×Value),vs.Perm (xs.map fun p=>kV p.1)/\ST.VSet (ST.ldOf w) (mixKind P w) h a xs)\/vs≠[]/\∃ xs:List (List Key×Addr),vs.Perm (xs.map fun p=>V.ref p.2)/\(∀ p∈xs,H p.2=some (.tup (p.1.map kV)))/\ST.TRaw (ST.ldOf w) (tupleKind (mixKind P w)) h a xs)
 | .ins C dx fs=>H dx=some (.own a)/\fs.length<=1000/\dx≠a/\h.get? a=some (W.instObj C dx)/\
   ∃ mA,h.Ns1 dx mA/\(∀ f,RelO (fs.lookup f) (mA f))/\PySem.Within mA (fs.map (·.1))
 | .own _=>∃ o,h.get? a=some o
 | .xd fs=>∃ mA,h.Ns1 a mA/\∀ f,RelO (fs.lookup f) (mA f)
 | .rng lo hi=>∃ t u v,h.get? a=some { cls:=.type "range",data:=.fields #[.int lo t,.int hi u,.int 1 v] }
 | .frz o u=>h.get? a=some o/\ObjOk H h a u
 | .tbl ps=>h.get? a=some { cls:=.none,data:=.fields ps }
 | .met f x=>h.get? a=some (W.methodObj (.ref f) (.ref x))
 | .ext φ=>φ h/\(∃ o,h.get? a=some o)/\∀ h1 h2:Heap,φ h1->(∀ o,h1.get? a=some o->h2.get? a=some o)->φ h2
def HOk (H:Hp) (h:Heap):Prop:=∀ a o,H a=some o->ObjOk P w H h a o
end
section
variable {P:Program} {w:World} {H H':Hp} {h h':Heap} {a:Addr} {o:HO}
theorem ObjOk.lt (x:ObjOk P w H h a o):a < h.objs.size:=by
 cases o with
 | lst xs=>obtain ⟨_,_,_,_,e⟩:=x; exact qg e
 | tup xs=>obtain ⟨_,_,_,p⟩:=x; exact p.lt
 | dK kvs=>obtain ⟨_,_,_,_,o,_,_,e,_⟩:=x; exact qg e
 | dT kvs=>obtain ⟨_,_,_,_,o,_,_,e,_⟩:=x; exact qg e
 | set vs=>
   rcases x with ⟨_,⟨_,e⟩ | ⟨_,_,_,_,_,_,_,e,_⟩ | ⟨_,_,_,_,_,_,_,_,e,_⟩⟩
   ·exact qg e
   ·exact qg e
   ·exact qg e
 | ins C dx fs=>obtain ⟨_,_,_,e,_⟩:=x; exact qg e
 | own y=>obtain ⟨_,e⟩:=x; exact qg e
 | xd fs=>obtain ⟨_,⟨_,_,_,e,_⟩,_⟩:=x; exact qg e
 | rng lo hi=>obtain ⟨_,_,_,e⟩:=x; exact qg e
 | frz ob u=>obtain ⟨e,_⟩:=x; exact qg e
 | tbl ps=>exact qg (show h.get? a=some _ from x)
 | met f y=>exact qg (show h.get? a=some _ from x)
 | ext φ=>obtain ⟨_,⟨_,e⟩,_⟩:=x; exact qg e
theorem Paired.mapP {α β:Type} {F G:α->β->Prop}:∀ {l₁:List α} {l₂:List β},Paired F l₁ l₂->(∀ a b,F a b->G a b)->Paired G l₁ l₂
 | _,_,.nil,_=>.nil
 | _,_,.cons r t,f=>.cons (f _ _ r) (Paired.mapP t f)
theorem ObjOk.stay (x:ObjOk P w H h a o) (k:∀ b u,(b=a\/H b=some (.own a))->h.get? b=some u->h'.get? b=some u)
  (ho:∀ b,H b=some (.own a)->H' b=some (.own a)) (ht:∀ b xs,H b=some (.tup xs)->H' b=some (.tup xs)):ObjOk P w H' h' a o:=by
 induction o with
 | lst xs=>obtain ⟨z,its,n,r,e⟩:=x; exact ⟨z,its,n,r,k _ _ (.inl rfl) e⟩
 | tup xs=>obtain ⟨z,its,r,ob,e,c⟩:=x; exact ⟨z,its,r,ob,k _ _ (.inl rfl) e,c⟩
 | dK kvs=>obtain ⟨z,y,vs,r,ob,es,ep,e,c⟩:=x; exact ⟨z,y,vs,r,ob,es,ep,k _ _ (.inl rfl) e,c⟩
 | dT kvs=>
   obtain ⟨z,y,xs,r,ob,es,ep,e,c⟩:=x
   exact ⟨z,y,xs,Paired.mapP r fun p q z=>⟨z.1,ht _ _ z.2.1,z.2.2⟩,ob,es,ep,k _ _ (.inl rfl) e,c⟩
 | set vs=>
   rcases x with ⟨z,⟨n,e⟩ | ⟨n,xs,p,ob,es,ep,t,e,c⟩ | ⟨n,xs,p,hx,ob,es,ep,t,e,c⟩⟩
   ·exact ⟨z,.inl ⟨n,k _ _ (.inl rfl) e⟩⟩
   ·exact ⟨z,.inr (.inl ⟨n,xs,p,ob,es,ep,t,k _ _ (.inl rfl) e,c⟩)⟩
   ·exact ⟨z,.inr (.inr ⟨n,xs,p,fun q hq=>ht _ _ (hx q hq),ob,es,ep,t,k _ _ (.inl rfl) e,c⟩)⟩
 | ins C dx fs=>
   obtain ⟨d,z,ne,e,mA,⟨od,es,ep,e2,c⟩,r⟩:=x
   exact ⟨ho _ d,z,ne,k _ _ (.inl rfl) e,mA,⟨od,es,ep,k _ _ (.inr d) e2,c⟩,r⟩
 | own y=>obtain ⟨ob,e⟩:=x; exact ⟨ob,k _ _ (.inl rfl) e⟩
 | xd fs=>obtain ⟨mA,⟨od,es,ep,e,c⟩,r⟩:=x; exact ⟨mA,⟨od,es,ep,k _ _ (.inl rfl) e,c⟩,r⟩
 | rng lo hi=>obtain ⟨t,u,v,e⟩:=x; exact ⟨t,u,v,k _ _ (.inl rfl) e⟩
 | frz ob u ih=>obtain ⟨e,q⟩:=x; exact ⟨k _ _ (.inl rfl) e,ih q⟩
 | tbl ps=>
   have e:h.get? a=some { cls:=.none,data:=.fields ps }:=x
   show h'.get? a=some { cls:=.none,data:=.fields ps }
   exact k a _ (.inl rfl) e
 | met f y=>
   have e:h.get? a=some (W.methodObj (.ref f) (.ref y)):=x
   show h'.get? a=some (W.methodObj (.ref f) (.ref y))
   exact k a _ (.inl rfl) e
 | ext φ=>obtain ⟨p,⟨o,e⟩,st⟩:=x; exact ⟨st _ _ p fun o q=>k _ _ (.inl rfl) q,⟨o,k _ _ (.inl rfl) e⟩,st⟩
theorem HOk.lt (x:HOk P w H h) (e:H a=some o):a < h.objs.size:=(x a o e).lt
theorem HOk.fresh (x:HOk P w H h) (e:h.objs.size<=a):H a=none:=by
 cases q:H a with
 | none=>rfl
 | some u=>exact absurd (lt_of_lt_of_le (x.lt q) e) (lt_irrefl _)
theorem HOk.kept (x:HOk P w H h) (k:∀ b u,h.get? b=some u->h'.get? b=some u):HOk P w H h':=fun a o e=>
 (x a o e).stay (fun b u _ q=>k b u q) (fun _ q=>q) fun _ _ q=>q
theorem HOk.laid (x:HOk P w H h) (k:∀ b u,h.get? b=some u->h'.get? b=some u) (hp:h.objs.size<=a) (new:ObjOk P w (upd H a o) h' a o):HOk P w (upd H a o) h':=fun b u e=>by
 have hn:=x.fresh hp
 by_cases hb:b=a
 ·subst hb; rw [zao] at e; cases e; exact new
 ·rw [zaj hb] at e
  exact (x b u e).stay (fun c v _ q=>k c v q) (fun c q=>by rw [zaj (zax q hn)]; exact q) fun c xs q=>by rw [zaj (zax q hn)]; exact q
end
def Rd (H:Hp) (a:Addr) (u:HO):Prop:=H a=some u\/∃ o,H a=some (.frz o u)
theorem Rd.of {H:Hp} {a:Addr} {u:HO} (h:H a=some u):Rd H a u:=.inl h
theorem Rd.ok {P:Program} {w:World} {H:Hp} {h:Heap} {a:Addr} {u:HO} (r:Rd H a u) (x:HOk P w H h):ObjOk P w H h a u:=by
 rcases r with r | ⟨o,r⟩
 ·exact x a u r
 ·obtain ⟨_,q⟩:=x a _ r
  exact q
def Mut:Option HO->Prop
 | some (.lst _)=>True
 | some (.dK _)=>True
 | some (.dT _)=>True
 | some (.set _)=>True
 | some (.ins _ _ _)=>True
 | some (.ext _)=>True
 | _=>False
section
variable {P:Program} {w:World} {H:Hp} {h h':Heap} {x e:Addr} {o':HO}
theorem HOk.write (ok:HOk P w H h) (mu:Mut (H x)) (he:e=x\/H e=some (.own x)) (k:∀ b u,b≠e->h.get? b=some u->h'.get? b=some u) (heo:∃ u,h'.get? e=some u)
  (new:ObjOk P w (upd H x o') h' x o'):HOk P w (upd H x o') h':=fun b u q=>by
 have nown:∀ c y,H c=some (.own y)->c≠x:=fun c y r z=>by subst z; rw [r] at mu; exact mu
 have ntup:∀ c xs,H c=some (.tup xs)->c≠x:=fun c xs r z=>by subst z; rw [r] at mu; exact mu
 by_cases hb:b=x
 ·subst hb; rw [zao] at q; cases q; exact new
 ·rw [zaj hb] at q
  by_cases hbe:b=e
  ·have q':H b=some (.own x):=by
    rcases he with z | z
    ·exact absurd (hbe.trans z) hb
    ·rw [hbe]; exact z
   rw [q] at q'; cases q'
   obtain ⟨v,hv⟩:=heo
   exact ⟨v,by rw [hbe]; exact hv⟩
  ·refine (ok b u q).stay (fun c v hc r=>k c v ?_ r) (fun c r=>by rw [zaj (nown c b r)]; exact r) fun c xs r=>by rw [zaj (ntup c xs r)]; exact r
   rcases hc with rfl | hc
   ·exact hbe
   ·rintro rfl
    rcases he with z | z
    ·exact nown c b hc z
    ·rw [hc] at z; cases z; exact hb rfl
end
structure Un (fs ex:List Addr) (H H':Hp) (h h':Heap):Prop where
 keep:∀ b o,h.get? b=some o->H b=none->b∉fs->b∉ex->h'.get? b=some o
 slot:∀ b o,h.get? b=some o->H b=none->b∈fs->b∉ex->∃ sl,h'.get? b=some { o with slots:=sl }
 free:∀ b o,h.get? b=some o->H b=none->b∉ex->H' b=none
 there:∀ b o,h.get? b=some o->b∉ex->∃ o',h'.get? b=some o'
 tups:∀ b xs,H b=some (.tup xs)->H' b=some (.tup xs)
 frzs:∀ b o u,H b=some (.frz o u)->H' b=some (.frz o u)
 tbls:∀ b ps,H b=some (.tbl ps)->∃ more,H' b=some (.tbl (ps++more))
section
variable {fs fs' ex ex':List Addr} {H H1 H2:Hp} {h h1 h2 h':Heap} {a x e:Addr} {o:HO}
theorem Un.any (u:Un fs ex H H1 h h1) {b:Addr} {ob:Obj} (q:h.get? b=some ob) (n:H b=none) (hx:b∉ex):∃ sl,h1.get? b=some { ob with slots:=sl }:=by
 by_cases hb:b∈fs
 ·exact u.slot b ob q n hb hx
 ·exact ⟨ob.slots,u.keep b ob q n hb hx⟩
theorem Un.kept (k:∀ b u,h.get? b=some u->h'.get? b=some u):Un fs ex H H h h':=
 ⟨fun b ob q _ _ _=>k b ob q,fun b ob q _ _ _=>⟨ob.slots,k b ob q⟩,fun _ _ _ n _=>n,fun b ob q _=>⟨ob,k b ob q⟩,fun _ _ q=>q,fun _ _ _ q=>q,fun _ ps q=>⟨#[],by rw [q]; simp⟩⟩
theorem Un.refl:Un fs ex H H h h:=Un.kept fun _ _ q=>q
theorem Un.laid (k:∀ b u,h.get? b=some u->h'.get? b=some u) (hp:h.objs.size<=a) (hn:H a=none):Un fs ex H (upd H a o) h h' where
 keep:=fun b u q _ _ _=>k b u q
 slot:=fun b u q _ _ _=>⟨u.slots,k b u q⟩
 free:=fun b u q n _=>by rw [zaj (ne_of_lt (lt_of_lt_of_le (qg q) hp))]; exact n
 there:=fun b u q _=>⟨u,k b u q⟩
 tups:=fun b xs q=>by rw [zaj (zax q hn)]; exact q
 frzs:=fun b u xs q=>by rw [zaj (zax q hn)]; exact q
 tbls:=fun b ps q=>⟨#[],by rw [zaj (zax q hn),q]; simp⟩
theorem Un.write (mu:Mut (H x)) (he:e=x\/H e=some (.own x)) (k:∀ b u,b≠e->h.get? b=some u->h'.get? b=some u) (heo:∃ u,h'.get? e=some u):Un fs ex H (upd H x o) h h':=by
 have hx:∀ b,H b=none->b≠x:=fun b n z=>by subst z; rw [n] at mu; exact mu
 have hb:∀ b,H b=none->b≠e:=fun b n z=>by
  subst z
  rcases he with r | r
  ·exact hx b n r
  ·rw [n] at r; cases r
 have hm:∀ b u,H b=some u->¬ Mut (some u)->b≠x:=fun b u q nm z=>by subst z; rw [q] at mu; exact nm mu
 refine ⟨fun b u q n _ _=>k b u (hb b n) q,fun b u q n _ _=>⟨u.slots,k b u (hb b n) q⟩,fun b u q n _=>by rw [zaj (hx b n)]; exact n,fun b u q _=>?_,
  fun b xs q=>by rw [zaj (hm b _ q fun z=>z)]; exact q,fun b u xs q=>by rw [zaj (hm b _ q fun z=>z)]; exact q,fun b ps q=>⟨#[],by rw [zaj (hm b _ q fun z=>z),q]; simp⟩⟩
 by_cases hbe:b=e
 ·subst hbe; exact heo
 ·exact ⟨u,k b u hbe q⟩
end
def trk (h:Heap) (H:Hp):List Addr:=(List.range h.objs.size).filter fun a=>(H a).isSome
def hidT (h:Heap) (H:Hp):Heap:=W.hideAll h (trk h H)
theorem zhk (h:Heap) (H:Hp):(hidT h H).objs.size=h.objs.size:=W.hideAll_size _ _
theorem zj2 {h:Heap} {H:Hp} {b:Addr} {o:Obj} (e:h.get? b=some o) (n:H b=none):(hidT h H).get? b=some o:=
 W.hideAll_get _ e fun hm=>by
  have q:(H b).isSome=true:=(mem_filter.mp hm).2
  rw [n] at q; simp at q
theorem zk4 {h:Heap} {H:Hp} {b:Addr} {o:Obj} (e:(hidT h H).get? b=some o):h.get? b=some o/\H b=none:=by
 have e':h.get? b=some o:=W.of_hideAll (trk h H) e
 refine ⟨e',?_⟩
 cases q:H b with
 | none=>rfl
 | some x=>
   have hm:b∈trk h H:=mem_filter.mpr ⟨mem_range.mpr (qg e'),by simp [q]⟩
   have z:(hidT h H).get? b=none:=W.hideAll_none (trk h H) hm
   rw [z] at e; cases e
def allNews (g h:Heap) (L:Addr):List (Addr×Obj):=(List.range h.objs.size).filterMap fun a=>if a=L\/(g.get? a).isSome=true then none else (h.get? a).map fun o=>(a,o)
theorem zfE {g h:Heap} {L a:Addr} {o:Obj} (h1:a≠L) (h2:g.get? a=none) (h3:h.get? a=some o):(a,o)∈allNews g h L:=
 mem_filterMap.mpr ⟨a,mem_range.mpr (qg h3),by simp [h1,h2,h3]⟩
def rest (g h:Heap) (L d:Addr):List (Addr×Obj):=(allNews g h L).filter fun p=>decide (p.1≠d)
theorem zct {g h:Heap} {L d a:Addr} {o:Obj} (h1:a≠L) (h2:g.get? a=none) (h3:h.get? a=some o) (h4:a≠d):(a,o)∈rest g h L d:=
 mem_filter.mpr ⟨zfE h1 h2 h3,decide_eq_true h4⟩
end L2
namespace L2
open PySem PySem.Spec PyProof.Rows
structure Mod (K:W.Frag) (mg:Str->Option Value) (base:Heap):Prop where
 kin:K.In base
 glob:base.Ns mainGlobals mg
 blt:∃ mb,base.Ns builtinsNs mb/\∀ x:Str,x≠"__name__"->mb x=bootBuiltins x
 nolimit:base.NoLimit
structure Cx where
 prog:Program
 w:World
 K:W.Frag
 mg:Str->Option Value
 base:Heap
 A:Around
 N:List Str
 s₀:Shared
 H₀:Hp
 env:Env
 outer:List Env
 stack:List Env
 ex:List Addr
 fn:Str->Bool
 calm:Bool
 pn:List (Addr×Obj)
 xe:Value->Shared->Prop
def frs (l:List Env):List Addr:=l.filterMap (·.frame)
abbrev Cx.fs (X:Cx):List Addr:=frs X.outer
def Vis (sc:Scope) (x:Str):Prop:=sc.names.lookup x=some .local\/sc.names.lookup x=some .cell\/sc.names.lookup x=some .free
def Loc (sc:Scope) (x:Str):Prop:=sc.names.lookup x=some .local\/sc.names.lookup x=some .cell
def Look (env:Env) (h:Heap) (m:Str->Option Value) (x:Str) (u:Value):Prop:=
 (env.kindOf x=some .local/\m x=some u)\/((env.kindOf x=some .cell\/env.kindOf x=some .free)/\∃ c,env.cells.lookup x=some c/\h.IsCell c (some u))
structure Cx.Ok (X:Cx):Prop where
 mod:Mod X.K X.mg X.base
 kind:X.env.scope.kind=.function
 glob:X.env.globals=mainGlobals
 blt:X.env.builtins=builtinsNs
 above:X.s₀.heap.objs.size<=X.env.locals
 inj:∀ x y c,X.env.cells.lookup x=some c->X.env.cells.lookup y=some c->x=y
 has:∀ x,(X.env.kindOf x=some .cell\/X.env.kindOf x=some .free)->∃ c,X.env.cells.lookup x=some c
 cab:∀ x c,X.fn x=true->X.env.cells.lookup x=some c->X.s₀.heap.objs.size<=c
 hd:X.calm=true->X.A.handled=none
 frames:X.A.frames=some X.stack
 stk:X.stack=X.outer\/(X.stack=X.env::X.outer/\X.env.frame=some X.env.locals)
 exf:∀ b∈X.ex,b≠X.env.locals/\∀ x c,X.env.cells.lookup x=some c->c≠b
 bs:∀ b o,X.base.get? b=some o->X.s₀.heap.get? b=some o/\X.H₀ b=none
 bsz:X.base.objs.size<=X.s₀.heap.objs.size
 noex:∀ b o,X.base.get? b=some o->b∉X.ex
 exfs:∀ b∈X.ex,b∉X.fs
 funs:X.s₀.heap.FunFrames X.base X.outer
 frf:∀ b∈X.fs,X.H₀ b=none
structure Inv (X:Cx) (pins:List (Addr×Obj)) (σ:List (Option V)) (H:Hp) (s:Shared):Prop where
 ok:X.Ok
 os:s.os=X.s₀.os
 bare:AllBare s.gens
 base:Un X.fs X.ex X.H₀ H X.s₀.heap s.heap
 loc:∃ m,s.heap.Ns X.env.locals m/\∀ (i:Nat) (x:Str) (v:V),X.N[i]?=some x->σ[i]?=some (some v)->Vis X.env.scope x->∃ u,RelV v u/\Look X.env s.heap m x u
 cell:∀ x c,X.env.cells.lookup x=some c->∃ v,s.heap.IsCell c v
 free:H X.env.locals=none
 freeC:∀ x c,X.env.cells.lookup x=some c->H c=none
 pin:∀ p∈X.pn++pins,s.heap.get? p.1=some p.2/\H p.1=none/\p.1≠X.env.locals/\p.1∉X.fs/\∀ v,p.2.data≠.cell v
 hok:HOk X.prog X.w H s.heap
 len:σ.length=X.N.length
section
variable {X:Cx} {pins:List (Addr×Obj)} {σ:List (Option V)} {H H':Hp} {s:Shared} {h':Heap}
theorem Cx.Ok.nofr (ok:X.Ok) {b:Addr} {o:Obj} (e:X.base.get? b=some o):b∉X.fs:=fun hb=>by
 have:=(ok.funs.mem hb).1
 rw [e] at this; cases this
theorem Inv.bs (I:Inv X pins σ H s):∀ b o,X.base.get? b=some o->s.heap.get? b=some o/\H b=none:=fun b o e=>
 ⟨I.base.keep b o (I.ok.bs b o e).1 (I.ok.bs b o e).2 (I.ok.nofr e) (I.ok.noex b o e),I.base.free b o (I.ok.bs b o e).1 (I.ok.bs b o e).2 (I.ok.noex b o e)⟩
theorem Inv.bk (I:Inv X pins σ H s):∀ b o,X.base.get? b=some o->s.heap.get? b=some o:=fun b o e=>(I.bs b o e).1
theorem Inv.mod (I:Inv X pins σ H s):Mod X.K X.mg X.base:=I.ok.mod
theorem Inv.kIn (I:Inv X pins σ H s):X.K.In s.heap:=I.ok.mod.kin.keeps I.bk
theorem Inv.fr (I:Inv X pins σ H s):∃ m,Fr X.base X.env.locals s.heap m:=
 let ⟨m,hn,_⟩:=I.loc
 ⟨m,hn,I.bk,le_trans I.ok.bsz I.ok.above⟩
theorem Inv.lt (I:Inv X pins σ H s):X.env.locals < s.heap.objs.size:=let ⟨_,hn,_⟩:=I.loc; hn.lt
theorem Inv.sz (I:Inv X pins σ H s):X.s₀.heap.objs.size<=s.heap.objs.size:=le_trans I.ok.above (le_of_lt I.lt)
theorem Inv.nofs (I:Inv X pins σ H s) {a:Addr} (h:s.heap.objs.size<=a):a∉X.fs:=fun hb=>by
 obtain ⟨_,o,ho,_⟩:=I.ok.funs.mem hb
 exact absurd (lt_of_lt_of_le (qg ho) (le_trans I.sz h)) (lt_irrefl _)
theorem Inv.cne (I:Inv X pins σ H s):∀ x c,X.env.cells.lookup x=some c->c≠X.env.locals:=fun x c e z=>by
 obtain ⟨v,o,ho,hd⟩:=I.cell x c e
 obtain ⟨m,⟨o',es,ep,ho',hd',_⟩,_⟩:=I.loc
 rw [z,ho'] at ho; cases ho; rw [hd'] at hd; cases hd
theorem Inv.funs (I:Inv X pins σ H s):s.heap.FunFrames X.base X.outer:=by
 have all:∀ (l:List Env),(∀ b∈frs l,b∈X.fs)->X.s₀.heap.FunFrames X.base l->s.heap.FunFrames X.base l:=by
  intro l
  induction l with
  | nil=>intro _ _; trivial
  | cons env r ih=>
    intro hs hl
    obtain ⟨hk,⟨L,o,hf,hn,ho,hd⟩,hr⟩:=hl
    have hL:L∈X.fs:=hs L (by unfold frs; rw [filterMap_cons,hf]; exact qp)
    obtain ⟨sl,e⟩:=I.base.slot L o ho (I.ok.frf L hL) hL fun z=>I.ok.exfs L z hL
    exact ⟨hk,⟨L,_,hf,hn,e,hd⟩,ih (fun b hb=>hs b (by unfold frs; rw [filterMap_cons,hf]; exact qo _ hb)) hr⟩
 exact all X.outer (fun _ hb=>hb) I.ok.funs
theorem Inv.stack (I:Inv X pins σ H s):s.heap.FunFrames X.base X.stack:=by
 rcases I.ok.stk with e | ⟨e,hf⟩
 ·rw [e]; exact I.funs
 ·rw [e]
  obtain ⟨m,hn,_⟩:=I.loc
  refine .cons (by rw [I.ok.kind]; decide) hf hn ?_ I.funs
  exact Heap.get?_none_of_le (le_trans I.ok.bsz I.ok.above)
theorem Inv.stkSub (I:Inv X pins σ H s):∀ b∈frs X.stack,b∈X.env.locals::X.fs:=fun b hb=>by
 rcases I.ok.stk with e | ⟨e,hf⟩
 ·rw [e] at hb; exact qo _ hb
 ·rw [e] at hb
  unfold frs at hb
  rw [filterMap_cons,hf] at hb
  exact hb
theorem Inv.stkFree (I:Inv X pins σ H s):∀ b∈frs X.stack,H b=none:=fun b hb=>by
 rcases mem_cons.mp (I.stkSub b hb) with e | hb
 ·rw [e]; exact I.free
 ·obtain ⟨_,o,ho,_⟩:=I.ok.funs.mem hb
  exact I.base.free b o ho (I.ok.frf b hb) fun z=>I.ok.exfs b z hb
theorem Inv.step {g':Array GenState} {t':Nat} {d':Drawn} {ch:List Addr} (I:Inv X pins σ H s)
  (hch:∀ b∈ch,(b∈X.ex\/X.s₀.heap.objs.size<=b)/\b≠X.env.locals/\(∀ x c,X.env.cells.lookup x=some c->c≠b)/\∀ p∈X.pn++pins,p.1≠b)
  (keep:∀ b o,b≠X.env.locals->b∉X.fs->b∉ch->s.heap.get? b=some o->H b=none->h'.get? b=some o)
  (slot:∀ b o,b≠X.env.locals->b∈X.fs->b∉ch->s.heap.get? b=some o->H b=none->∃ sl,h'.get? b=some { o with slots:=sl }) (free:∀ b o,b∉ch->s.heap.get? b=some o->H b=none->H' b=none)
  (there:∀ b o,b∉ch->s.heap.get? b=some o->∃ o',h'.get? b=some o')
  (tups:∀ b xs,H b=some (.tup xs)->H' b=some (.tup xs)) (frzs:∀ b o u,H b=some (.frz o u)->H' b=some (.frz o u)) (tbls:∀ b ps,H b=some (.tbl ps)->∃ more,H' b=some (.tbl (ps++more)))
  (ns:∀ m,s.heap.Ns X.env.locals m->h'.Ns X.env.locals m) (hok:HOk X.prog X.w H' h') (hg:AllBare g'):
  Inv X pins σ H' { s with heap:=h',gens:=g',drawn:=d',toks:=t' }:=by
 have neL:∀ b o,X.s₀.heap.get? b=some o->b≠X.env.locals:=fun b o e=>ne_of_lt (lt_of_lt_of_le (qg e) I.ok.above)
 have neC:∀ b o,X.s₀.heap.get? b=some o->b∉X.ex->b∉ch:=fun b o e hx hb=>by
  rcases (hch b hb).1 with z | z
  ·exact hx z
  ·exact absurd (lt_of_lt_of_le (qg e) z) (lt_irrefl _)
 have cellK:∀ x c,X.env.cells.lookup x=some c->∀ v,s.heap.IsCell c v->h'.IsCell c v:=fun x c e v ⟨o,ho,hd⟩=>by
  have nch:c∉ch:=fun z=>(hch c z).2.2.1 x c e rfl
  by_cases hc:c∈X.fs
  ·obtain ⟨sl,q⟩:=slot c o (I.cne x c e) hc nch ho (I.freeC x c e)
   exact ⟨_,q,hd⟩
  ·exact ⟨o,keep c o (I.cne x c e) hc nch ho (I.freeC x c e),hd⟩
 refine ⟨I.ok,I.os,hg,⟨fun b o e n hb hx=>?_,fun b o e n hb hx=>?_,fun b o e n hx=>?_,fun b o e hx=>?_,fun b xs e=>tups b xs (I.base.tups b xs e),fun b o xs e=>frzs b o xs (I.base.frzs b o xs e),fun b ps e=>?_⟩,?_,fun x c e=>?_,?_,fun x c e=>?_,fun p hp=>?_,hok,I.len⟩
 ·exact keep b o (neL b o e) hb (neC b o e hx) (I.base.keep b o e n hb hx) (I.base.free b o e n hx)
 ·obtain ⟨sl,e1⟩:=I.base.slot b o e n hb hx
  obtain ⟨sl',e2⟩:=slot b _ (neL b o e) hb (neC b o e hx) e1 (I.base.free b o e n hx)
  exact ⟨sl',e2⟩
 ·obtain ⟨o',e1⟩:=I.base.there b o e hx
  exact free b o' (neC b o e hx) e1 (I.base.free b o e n hx)
 ·obtain ⟨o',e1⟩:=I.base.there b o e hx
  exact there b o' (neC b o e hx) e1
 ·obtain ⟨m1,e1⟩:=I.base.tbls b ps e
  obtain ⟨m2,e2⟩:=tbls b _ e1
  exact ⟨m1++m2,by rw [e2,Array.append_assoc]⟩
 ·obtain ⟨m,hn,hl⟩:=I.loc
  refine ⟨m,ns m hn,fun i x v e1 e2 e3=>?_⟩
  obtain ⟨u,r,l⟩:=hl i x v e1 e2 e3
  refine ⟨u,r,?_⟩
  rcases l with l | ⟨k,c,e,z⟩
  ·exact .inl l
  ·exact .inr ⟨k,c,e,cellK x c e _ z⟩
 ·obtain ⟨v,z⟩:=I.cell x c e
  exact ⟨v,cellK x c e v z⟩
 ·obtain ⟨m,⟨o,_,_,ho,_⟩,_⟩:=I.loc
  exact free _ o (fun z=>(hch _ z).2.1 rfl) ho I.free
 ·obtain ⟨v,o,ho,hd⟩:=I.cell x c e
  exact free c o (fun z=>(hch c z).2.2.1 x c e rfl) ho (I.freeC x c e)
 ·obtain ⟨e,n,ne,nf,d⟩:=I.pin p hp
  have nch:p.1∉ch:=fun z=>(hch p.1 z).2.2.2 p hp rfl
  exact ⟨keep p.1 p.2 ne nf nch e n,free p.1 p.2 nch e n,ne,nf,d⟩
theorem Inv.un {t':Nat} (I:Inv X pins σ H s) (u:Un X.fs [] H H' s.heap h') (hok:HOk X.prog X.w H' h'):Inv X pins σ H' { s with heap:=h',toks:=t' }:=by
 obtain ⟨m,⟨o,es,ep,ho,r⟩,_⟩:=id I.loc
 obtain ⟨sl,hL⟩:=u.any ho I.free (by simp)
 exact I.step (g':=s.gens) (d':=s.drawn) (ch:=[]) (fun _ z=>nomatch z) (fun b o _ hb _ e n=>u.keep b o e n hb (by simp)) (fun b o _ hb _ e n=>u.slot b o e n hb (by simp)) (fun b o _ e n=>u.free b o e n (by simp)) (fun b o _ e=>u.there b o e (by simp)) u.tups u.frzs u.tbls (fun m' hm=>by
  obtain ⟨o',es',ep',ho',r'⟩:=hm
  rw [ho] at ho'; cases ho'
  exact ⟨_,es',ep',hL,r'⟩) hok I.bare
theorem Inv.call {g':Array GenState} {t':Nat} {d':Drawn} {ch:List Addr} (I:Inv X pins σ H s) (u:Un (frs X.stack) ch H H' s.heap h') (hok:HOk X.prog X.w H' h') (hg:AllBare g')
  (hch:∀ b∈ch,(b∈X.ex\/X.s₀.heap.objs.size<=b)/\b≠X.env.locals/\(∀ x c,X.env.cells.lookup x=some c->c≠b)/\∀ p∈X.pn++pins,p.1≠b):
  Inv X pins σ H' { s with heap:=h',gens:=g',drawn:=d',toks:=t' }:=by
 obtain ⟨m,⟨o,es,ep,ho,r⟩,_⟩:=id I.loc
 obtain ⟨sl,hL⟩:=u.any ho I.free fun z=>(hch _ z).2.1 rfl
 exact I.step (ch:=ch) hch (fun b o hL hb hc e n=>u.keep b o e n (fun z=>(mem_cons.mp (I.stkSub b z)).elim hL hb) hc) (fun b o _ _ hc e n=>u.any e n hc) (fun b o hc e n=>u.free b o e n hc) (fun b o hc e=>u.there b o e hc) u.tups u.frzs u.tbls (fun m' hm=>by
  obtain ⟨o',es',ep',ho',r'⟩:=hm
  rw [ho] at ho'; cases ho'
  exact ⟨_,es',ep',hL,r'⟩) hok hg
theorem Inv.turned {t':Nat} {it:Addr} (I:Inv X pins σ H s) (k:∀ b o,b≠it->s.heap.get? b=some o->h'.get? b=some o) (hn:H it=none) (hL:it≠X.env.locals)
  (h1:it∈X.ex\/X.s₀.heap.objs.size<=it) (h2:∀ x c,X.env.cells.lookup x=some c->c≠it) (h3:∀ p∈X.pn++pins,p.1≠it):Inv X pins σ H { s with heap:=h',toks:=t' }:=by
 have nit:∀ b u,H b=some u->b≠it:=fun b u e z=>by rw [z,hn] at e; cases e
 refine I.step (g':=s.gens) (d':=s.drawn) (ch:=[it]) (fun b hb=>?_) (fun b o _ _ hc e _=>k b o (fun z=>hc (by simp [z])) e) (fun b o _ _ hc e _=>⟨o.slots,k b o (fun z=>hc (by simp [z])) e⟩) (fun _ _ _ _ n=>n)
  (fun b o hc e=>⟨o,k b o (fun z=>hc (by simp [z])) e⟩) (fun _ _ e=>e) (fun _ _ _ e=>e) (fun b ps e=>⟨#[],by rw [e]; simp⟩) (fun m hm=>?_) (fun b u e=>?_) I.bare
 ·have e:b=it:=by simpa using hb
  subst e
  exact ⟨h1,hL,h2,h3⟩
 ·obtain ⟨o,es,ep,ho,r⟩:=hm
  exact ⟨o,es,ep,k _ o (Ne.symm hL) ho,r⟩
 ·refine (I.hok b u e).stay (fun c v hc q=>k c v ?_ q) (fun _ q=>q) fun _ _ q=>q
  rcases hc with z | z
  ·rw [z]; exact nit b u e
  ·exact nit c _ z
theorem Inv.tok (I:Inv X pins σ H s) (t:Nat):Inv X pins σ H { s with toks:=t }:=I.un (h':=s.heap) (t':=t) Un.refl I.hok
theorem Inv.kept {t':Nat} (I:Inv X pins σ H s) (k:∀ b u,s.heap.get? b=some u->h'.get? b=some u):Inv X pins σ H { s with heap:=h',toks:=t' }:=I.un (Un.kept k) (I.hok.kept k)
theorem Inv.laid {a:Addr} {o:HO} {t':Nat} (I:Inv X pins σ H s) (k:∀ b u,s.heap.get? b=some u->h'.get? b=some u) (hp:s.heap.objs.size<=a) (new:ObjOk X.prog X.w (upd H a o) h' a o):
  Inv X pins σ (upd H a o) { s with heap:=h',toks:=t' }:=I.un (Un.laid k hp (I.hok.fresh hp)) (I.hok.laid k hp new)
theorem Inv.write {x e:Addr} {o:HO} {t':Nat} (I:Inv X pins σ H s) (mu:Mut (H x)) (he:e=x\/H e=some (.own x)) (k:∀ b u,b≠e->s.heap.get? b=some u->h'.get? b=some u) (heo:∃ u,h'.get? e=some u)
  (new:ObjOk X.prog X.w (upd H x o) h' x o):Inv X pins σ (upd H x o) { s with heap:=h',toks:=t' }:=I.un (Un.write mu he k heo) (I.hok.write mu he k heo new)
theorem Inv.pins_of {pins':List (Addr×Obj)} (I:Inv X pins σ H s) (h:∀ p∈pins',s.heap.get? p.1=some p.2/\H p.1=none/\p.1≠X.env.locals/\p.1∉X.fs/\∀ v,p.2.data≠.cell v):Inv X pins' σ H s:=
 ⟨I.ok,I.os,I.bare,I.base,I.loc,I.cell,I.free,I.freeC,fun p hp=>(mem_append.mp hp).elim (fun z=>I.pin p (qm _ z)) (h p),I.hok,I.len⟩
theorem zdJ {N:List Str} (hN:N.Nodup) {i j:Nat} {x:Str} (a:N[i]?=some x) (b:N[j]?=some x):i=j:=by
 obtain ⟨h1,e1⟩:=qi.mp a
 obtain ⟨h2,e2⟩:=qi.mp b
 exact (List.getElem_inj hN).mp (e1.trans e2.symm)
theorem Inv.call' {s':Shared} {ch:List Addr} (I:Inv X pins σ H s) (ho:s'.os=s.os) (u:Un (frs X.stack) ch H H' s.heap s'.heap) (hok:HOk X.prog X.w H' s'.heap) (hg:AllBare s'.gens)
  (hch:∀ b∈ch,(b∈X.ex\/X.s₀.heap.objs.size<=b)/\b≠X.env.locals/\(∀ x c,X.env.cells.lookup x=some c->c≠b)/\∀ p∈X.pn++pins,p.1≠b):Inv X pins σ H' s':=by
 obtain ⟨h',g',d',t',o'⟩:=s'
 have e:o'=s.os:=ho
 subst e
 exact I.call (g':=g') (t':=t') (d':=d') u hok hg hch
end
abbrev XK:=Value->Option Addr->Hp->Prop
abbrev St:=List (Option V)
abbrev VK:=V->Hp->Prop
abbrev TE:=St->Hp->VK->Prop
abbrev TT:=St->Hp->(Bool->Hp->Prop)->Prop
abbrev TA:=St->Hp->(List V->Hp->Prop)->Prop
structure Ends where
 nx:St->Hp->Prop
 rt:VK
 bk:St->Hp->Prop:=fun _ _=>False
 ct:St->Hp->Prop:=fun _ _=>False
abbrev TS:=Ends->St->Hp->Prop
def EP (X:Cx) (pins:List (Addr×Obj)) (σ:St) (Q:VK) (u:Value) (s':Shared):Prop:=∃ v H',Inv X pins σ H' s'/\RelV v u/\Q v H'
def TP (X:Cx) (pins:List (Addr×Obj)) (σ:St) (Q:Bool->Hp->Prop) (b:Bool) (s':Shared):Prop:=∃ H',Inv X pins σ H' s'/\Q b H'
def AP (X:Cx) (pins:List (Addr×Obj)) (σ:St) (Q:List V->Hp->Prop) (us:List Value) (s':Shared):Prop:=∃ vs H',Inv X pins σ H' s'/\Vals vs us/\Q vs H'
def SP (X:Cx) (pins:List (Addr×Obj)) (D:Ends) (f:Flow) (s':Shared):Prop:=
 match f with
 | .next=>∃ σ' H',Inv X pins σ' H' s'/\D.nx σ' H'
 | .brk=>∃ σ' H',Inv X pins σ' H' s'/\D.bk σ' H'
 | .cont=>∃ σ' H',Inv X pins σ' H' s'/\D.ct σ' H'
 | .ret u=>∃ v σ' H',Inv X pins σ' H' s'/\RelV v u/\D.rt v H'
def PE (X:Cx) (e:Expr) (t:TE):Prop:=
 ∀ (pins:List (Addr×Obj)) (s:Shared) (σ:St) (H:Hp) (Q:VK),Inv X pins σ H s->t σ H Q->wpAny (model X.prog X.w) X.A (eval e X.env) (EP X pins σ Q) X.xe s
def PT (X:Cx) (e:Expr) (t:TT):Prop:=
 ∀ (pins:List (Addr×Obj)) (s:Shared) (σ:St) (H:Hp) (Q:Bool->Hp->Prop),Inv X pins σ H s->t σ H Q->wpAny (model X.prog X.w) X.A (isTrue e X.env (eval e X.env)) (TP X pins σ Q) X.xe s
def PW (X:Cx) (e:Expr) (t:TT):Prop:=
 ∀ (whole:Sem Value) (pins:List (Addr×Obj)) (s:Shared) (σ:St) (H:Hp) (Q:Bool->Hp->Prop),Inv X pins σ H s->t σ H Q->wpAny (model X.prog X.w) X.A (isTrue e X.env whole) (TP X pins σ Q) X.xe s
theorem PW.pt {X:Cx} {e:Expr} {t:TT} (h:PW X e t):PT X e t:=h _
def PA (X:Cx) (es:List Expr) (t:TA):Prop:=
 ∀ (pos:Pos) (pins:List (Addr×Obj)) (s:Shared) (σ:St) (H:Hp) (Q:List V->Hp->Prop),Inv X pins σ H s->t σ H Q->wpAny (model X.prog X.w) X.A (spliced (backTo pos (starEach es X.env))) (AP X pins σ Q) X.xe s
def PS (X:Cx) (st:Stmt) (t:TS):Prop:=
 ∀ (pins:List (Addr×Obj)) (s:Shared) (σ:St) (H:Hp) (D:Ends),Inv X pins σ H s->t D σ H->wpAny (model X.prog X.w) X.A (exec st X.env) (SP X pins D) X.xe s
def PSs (X:Cx) (st:List Stmt) (t:TS):Prop:=
 ∀ (pins:List (Addr×Obj)) (s:Shared) (σ:St) (H:Hp) (D:Ends),Inv X pins σ H s->t D σ H->wpAny (model X.prog X.w) X.A (execs st X.env) (SP X pins D) X.xe s
theorem thn {α:Type} {t:Sem α} {Q Q':α->Shared->Prop} {M:Model} {A:Around} {E:Value->Shared->Prop} {s:Shared} (h:wpAny M A t Q E s) (hQ:∀ a s,Q a s->Q' a s):wpAny M A t Q' E s:=wpAny_mono h hQ fun _ _ x=>x
end L2
namespace L2
open PySem PySem.Spec PyProof.Rows
section
variable {X:Cx}
def tVar (i:Nat):TE:=fun σ H Q=>∃ v,σ[i]?=some (some v)/\Q v H
def tC (v:V):TE:=fun _ H Q=>Q v H
theorem zmX {i:Nat} {x:Str} {pos:Pos} (hN:X.N[i]?=some x) (hv:Vis X.env.scope x) (hd:(x == ("__debug__":Str))=false:=by decide) (hcd:(x == ("__classdict__":Str))=false:=by decide):PE X (.Name x pos) (tVar i):=by
 intro pins s σ H Q I h
 obtain ⟨v,e,h⟩:=h
 obtain ⟨m,hn,hl⟩:=I.loc
 obtain ⟨u,r,l⟩:=hl i x v hN e hv
 have fin:EP X pins σ Q u s:=⟨v,H,I,r,h⟩
 rcases l with ⟨hk,hm⟩ | ⟨hk,c,hc,hcell⟩
 ·exact wpAny_Name (wpAny_loadName_local I.ok.kind hk hn hm fin) hd
 ·rcases hk with hk | hk
  ·exact wpAny_Name (wpAny_loadName_cell I.ok.kind hk hc hcell fin) hd
  ·exact wpAny_Name (wpAny_loadName_free I.ok.kind hk hc hcell fin hcd) hd
theorem znH {i j pos}:PE X (.Constant (.int i) j pos) (tC (.int i)):=fun _ _ _ H _ I h=>wpAny_Constant_int ⟨.int i,H,I.tok _,⟨_,rfl⟩,h⟩
theorem zpx {b j pos}:PE X (.Constant (.bool b) j pos) (tC (.bl b)):=fun _ _ _ H _ I h=>Constant_bool ⟨.bl b,H,I,rfl,h⟩
theorem zm7 {j pos}:PE X (.Constant .none j pos) (tC .non):=fun _ _ _ H _ I h=>Constant_none ⟨.non,H,I,rfl,h⟩
theorem zmh {x j pos}:PE X (.Constant (.str x) j pos) (tC (.str x)):=fun _ _ _ H _ I h=>Calls.Constant_str ⟨.str x,H,I.tok _,⟨_,rfl⟩,h⟩
def Gl (X:Cx) (x:Str):Prop:=X.env.kindOf x=some .globalImplicit
theorem zk9 {E:Value->Shared->Prop} {pins:List (Addr×Obj)} {s:Shared} {σ:St} {H:Hp} {x:Str} {u:Value} {pos:Pos} {Q:Value->Shared->Prop} (I:Inv X pins σ H s) (hg:Gl X x) (hm:X.mg x=some u) (h:Q u s)
  (hd:(x == ("__debug__":Str))=false:=by decide):wpAny (model X.prog X.w) X.A (eval (.Name x pos) X.env) Q E s:=
 Calls.Name_function_global I.ok.kind hg (Calls.loadGlobal_global (by rw [I.ok.glob]; exact I.mod.glob.keeps I.bk) hm h) hd
theorem zbF {E:Value->Shared->Prop} {pins:List (Addr×Obj)} {s:Shared} {σ:St} {H:Hp} {x:Str} {u:Value} {pos:Pos} {Q:Value->Shared->Prop} (I:Inv X pins σ H s) (hg:Gl X x) (hm:X.mg x=none) (hv:bootBuiltins x=some u) (h:Q u s)
  (hn:x≠"__name__":=by decide) (hd:(x == ("__debug__":Str))=false:=by decide):wpAny (model X.prog X.w) X.A (eval (.Name x pos) X.env) Q E s:=by
 obtain ⟨mb,h1,h2⟩:=I.mod.blt
 exact Calls.Name_function_global I.ok.kind hg (Calls.loadGlobal_builtin (by rw [I.ok.glob]; exact I.mod.glob.keeps I.bk) hm (by rw [I.ok.blt]; exact h1.keeps I.bk) ((h2 x hn).trans hv) h) hd
variable {a b:Expr} {ta tb:TE} {pos:Pos}
variable {tA tB':TT} {rest:List Expr}
def tAnd (t u:TT):TT:=fun σ H Q=>t σ H fun c H1=>if c=true then u σ H1 Q else Q false H1
def tOr (t u:TT):TT:=fun σ H Q=>t σ H fun c H1=>if c=true then Q true H1 else u σ H1 Q
def tNot (t:TT):TT:=fun σ H Q=>t σ H fun c H1=>Q (!c) H1
theorem zlg (ha:PT X a tA):PW X (.BoolOp .And [a] pos) tA:=by
 intro wh pins s σ H Q I h
 refine isTrue_and (thn (ha pins s σ H Q I h) fun c s1 e=>?_)
 cases c with
 | true=>exact isTrue_and_nil e
 | false=>exact e
theorem znR (ha:PT X a tA):PW X (.BoolOp .Or [a] pos) tA:=by
 intro wh pins s σ H Q I h
 refine isTrue_or (thn (ha pins s σ H Q I h) fun c s1 e=>?_)
 cases c with
 | false=>exact isTrue_or_nil e
 | true=>exact e
theorem zof (ha:PT X a tA) (hb:PW X (.BoolOp .And (b::rest) pos) tB'):PW X (.BoolOp .And (a::b::rest) pos) (tAnd tA tB'):=by
 intro wh pins s σ H Q I h
 refine isTrue_and (thn (ha pins s σ H _ I h) fun c s1 ⟨H1,I1,q1⟩=>?_)
 cases c with
 | true=>exact hb wh pins s1 σ H1 Q I1 q1
 | false=>exact ⟨H1,I1,q1⟩
theorem zqc (ha:PT X a tA) (hb:PW X (.BoolOp .Or (b::rest) pos) tB'):PW X (.BoolOp .Or (a::b::rest) pos) (tOr tA tB'):=by
 intro wh pins s σ H Q I h
 refine isTrue_or (thn (ha pins s σ H _ I h) fun c s1 ⟨H1,I1,q1⟩=>?_)
 cases c with
 | true=>exact ⟨H1,I1,q1⟩
 | false=>exact hb wh pins s1 σ H1 Q I1 q1
theorem zmE (ha:PT X a tA):PT X (.UnaryOp .Not a pos) (tNot tA):=by
 intro pins s σ H Q I h
 exact isTrue_not (ha pins s σ H (fun c H1=>Q (!c) H1) I h)
def tAndV (ta tb:TE):TE:=fun σ H Q=>ta σ H fun x H1=>∃ c,x=.bl c/\if c=true then tb σ H1 Q else Q (.bl false) H1
theorem zlO {op} {t:TE} (h:PE X a t):PE X (.BoolOp op [a] pos) t:=fun pins s σ H Q I hw=>BoolOp_one (h pins s σ H Q I hw)
theorem znI (ha:PE X a ta) (hb:PE X (.BoolOp .And (b::rest) pos) tb):PE X (.BoolOp .And (a::b::rest) pos) (tAndV ta tb):=by
 intro pins s σ H Q I h
 refine BoolOp_and (thn (ha pins s σ H _ I h) fun v s1 ⟨x,H1,I1,r1,q1⟩=>?_)
 obtain ⟨c,rfl,q1⟩:=q1
 cases r1
 refine wpAny_truthy_bool ?_
 cases c with
 | true=>exact hb pins s1 σ H1 Q I1 q1
 | false=>exact ⟨.bl false,H1,I1,rfl,q1⟩
end
end L2
namespace L2
open PySem PySem.Spec PyProof.Rows
def SqL (K:W.Frag) (H:Hp) (a:Addr) (xs:List V):Prop:=
 Rd H a (.lst xs)\/
  ∃ (o:Obj) (its:Array Value) (n:Nat),K.lookup a=some o/\o.cls=.type "list"/\o.dict=none/\o.data=.seq its n/\its.size<=sizeLine/\Vals xs its.toList
def SqT (K:W.Frag) (H:Hp) (a:Addr) (xs:List V):Prop:=
 Rd H a (.tup xs)\/
  ∃ (o:Obj) (its:Array Value) (n:Nat),K.lookup a=some o/\o.cls=.type "tuple"/\o.data=.seq its n/\its.size<=sizeLine/\Vals xs its.toList
def absV:Value->Option V
 | .none=>some .non
 | .bool b=>some (.bl b)
 | .int i _=>some (.int i)
 | .str x _=>some (.str x)
 | .bytes b _=>some (.byt b)
 | .float b _=>some (.flt b)
 | .ref a=>some (.ref a)
 | .type n=>some (.ty n)
 | _=>none
theorem RelV.abs {x:V} {u:Value} (r:RelV x u):absV u=some x:=by
 cases x with
 | non=>cases r; rfl
 | bl _=>cases r; rfl
 | int _=>obtain ⟨t,rfl⟩:=r; rfl
 | str _=>obtain ⟨t,rfl⟩:=r; rfl
 | byt _=>obtain ⟨t,rfl⟩:=r; rfl
 | flt _=>obtain ⟨t,rfl⟩:=r; rfl
 | ref _=>cases r; rfl
 | ty _=>cases r; rfl
theorem RelV.inj {x y:V} {u:Value} (r:RelV x u) (q:RelV y u):x=y:=qh (r.abs.symm.trans q.abs)
theorem Vals.inj:∀ {xs ys:List V} {us:List Value},Vals xs us->Vals ys us->xs=ys:=by
 intro xs ys us r q
 induction r generalizing ys with
 | nil=>cases q; rfl
 | cons r _ ih=>cases q with
   | cons r' t'=>rw [r.inj r',ih t']
section
variable {X:Cx} {pins:List (Addr×Obj)} {σ:St} {H:Hp} {s:Shared} {a:Addr} {xs ys:List V}
theorem SqL.of {K:W.Frag} (h:H a=some (.lst xs)):SqL K H a xs:=.inl (.inl h)
theorem SqT.of {K:W.Frag} (h:H a=some (.tup xs)):SqT K H a xs:=.inl (.inl h)
theorem Inv.list (I:Inv X pins σ H s) (h:SqL X.K H a xs):∃ its:List Value,Vals xs its/\PlainL s.heap a its.toArray/\xs.length<=sizeLine:=by
 rcases h with h | ⟨o,its,n,hk,hc,hd,hs,hz,r⟩
 ·obtain ⟨z,its,n,r,e⟩:=h.ok I.hok
  exact ⟨its,r,⟨_,n,e,rfl,rfl,rfl⟩,z⟩
 ·refine ⟨its.toList,r,⟨o,n,I.kIn a o hk,hc,hd,by simpa using hs⟩,?_⟩
  have e:=r.length
  simp only [length_toList] at e
  lia
theorem Inv.tuple (I:Inv X pins σ H s) (h:SqT X.K H a xs):∃ its:List Value,Vals xs its/\IsTup s.heap a its.toArray/\xs.length<=sizeLine:=by
 rcases h with h | ⟨o,its,n,hk,hc,hs,hz,r⟩
 ·obtain ⟨z,its,r,p⟩:=h.ok I.hok
  exact ⟨its,r,p,z⟩
 ·refine ⟨its.toList,r,⟨o,I.kIn a o hk,hc,n,by simpa using hs⟩,?_⟩
  have e:=r.length
  simp only [length_toList] at e
  lia
theorem Inv.list_inj (I:Inv X pins σ H s) (h:SqL X.K H a xs) (h':SqL X.K H a ys):xs=ys:=by
 obtain ⟨its,r,⟨o,n,e,_,_,d⟩,_⟩:=I.list h
 obtain ⟨its',r',⟨o',n',e',_,_,d'⟩,_⟩:=I.list h'
 rw [e] at e'; cases e'
 rw [d] at d'
 injection d' with d1 _
 have:its=its':=by simpa using congrArg Array.toList d1
 subst this
 exact r.inj r'
theorem Inv.tuple_inj (I:Inv X pins σ H s) (h:SqT X.K H a xs) (h':SqT X.K H a ys):xs=ys:=by
 obtain ⟨its,r,⟨o,e,_,n,d⟩,_⟩:=I.tuple h
 obtain ⟨its',r',⟨o',e',_,n',d'⟩,_⟩:=I.tuple h'
 rw [e] at e'; cases e'
 rw [d] at d'
 injection d' with d1 _
 have:its=its':=by simpa using congrArg Array.toList d1
 subst this
 exact r.inj r'
end
abbrev Cx.wish (X:Cx) (E:Value->Shared->Prop):Cx:={ X with xe:=E }
abbrev Cx.nox (X:Cx):Cx:=X.wish fun _ _=>False
theorem Cx.Ok.wish {X:Cx} (ok:X.Ok) (E:Value->Shared->Prop):(X.wish E).Ok:=
 ⟨ok.mod,ok.kind,ok.glob,ok.blt,ok.above,ok.inj,ok.has,ok.cab,ok.hd,ok.frames,ok.stk,ok.exf,ok.bs,ok.bsz,ok.noex,ok.exfs,ok.funs,ok.frf⟩
theorem Cx.Ok.unwish {X:Cx} {E:Value->Shared->Prop} (ok:(X.wish E).Ok):X.Ok:=
 ⟨ok.mod,ok.kind,ok.glob,ok.blt,ok.above,ok.inj,ok.has,ok.cab,ok.hd,ok.frames,ok.stk,ok.exf,ok.bs,ok.bsz,ok.noex,ok.exfs,ok.funs,ok.frf⟩
section
variable {X:Cx} {pins:List (Addr×Obj)} {σ:St} {H:Hp} {s:Shared} {E:Value->Shared->Prop}
theorem Inv.wish (I:Inv X pins σ H s) (E:Value->Shared->Prop):Inv (X.wish E) pins σ H s:=⟨I.ok.wish E,I.os,I.bare,I.base,I.loc,I.cell,I.free,I.freeC,I.pin,I.hok,I.len⟩
theorem Inv.unwish (I:Inv (X.wish E) pins σ H s):Inv X pins σ H s:=⟨I.ok.unwish,I.os,I.bare,I.base,I.loc,I.cell,I.free,I.freeC,I.pin,I.hok,I.len⟩
theorem SP.unwish {D:Ends} {f:Flow} {s':Shared} (h:SP (X.wish E) pins D f s'):SP X pins D f s':=by
 cases f with
 | next=>obtain ⟨σ',H',I,q⟩:=h; exact ⟨σ',H',I.unwish,q⟩
 | brk=>obtain ⟨σ',H',I,q⟩:=h; exact ⟨σ',H',I.unwish,q⟩
 | cont=>obtain ⟨σ',H',I,q⟩:=h; exact ⟨σ',H',I.unwish,q⟩
 | ret u=>obtain ⟨v,σ',H',I,r,q⟩:=h; exact ⟨v,σ',H',I.unwish,r,q⟩
theorem PSs.nox {st:List Stmt} {t:TS} (h:PSs X.nox st t):PSs X st t:=fun pins s σ H D I hw=>
 wpAny_mono (h pins s σ H D (I.wish _) hw) (fun _ _ q=>q.unwish) fun _ _ z=>False.elim z
end
section
variable {X:Cx} {st:Stmt} {rest:List Stmt} {t u:TS} {e:Expr} {te:TE} {pos:Pos}
def tNext:TS:=fun D σ H=>D.nx σ H
def tSeq (t u:TS):TS:=fun D σ H=>t { D with nx:=u D } σ H
theorem zk0:PSs X [] tNext:=fun _ _ σ H _ I h=>wpAny_execs_nil ⟨σ,H,I,h⟩
theorem zjI (h1:PS X st t) (h2:PSs X rest u):PSs X (st::rest) (tSeq t u):=by
 intro pins s σ H D I h
 refine wpAny_execs_cons (thn (h1 pins s σ H { D with nx:=u D } I h) fun f s1 q=>?_)
 cases f with
 | next=>
   obtain ⟨σ',H',I',q⟩:=q
   exact h2 pins s1 σ' H' D I' q
 | ret v=>exact q
 | brk=>exact q
 | cont=>exact q
theorem zkO (h1:PS X st t):PSs X [st] t:=by
 intro pins s σ H D I h
 refine wpAny_execs_cons (thn (h1 pins s σ H D I h) fun f s1 q=>?_)
 cases f with
 | next=>exact wpAny_execs_nil q
 | ret v=>exact q
 | brk=>exact q
 | cont=>exact q
theorem Inv.quiet {pins:List (Addr×Obj)} {σ:St} {H:Hp} {s:Shared} (I:Inv X pins σ H s):interactive X.env=false:=by simp [interactive,I.ok.kind]
def tDrop (te:TE):TS:=fun D σ H=>te σ H fun _ H1=>D.nx σ H1
theorem zkU (he:PE X e te) (hs:swapsWith e none pos.line X.env=pure false:=by rfl):PS X (.Expr e pos) (tDrop te):=by
 intro pins s σ H D I h
 exact wpAny_Expr_any (thn (he pins s σ H _ I h) fun v s1 ⟨x,H1,I1,r1,q1⟩=>⟨σ,H1,I1,q1⟩) I.quiet hs
def tRet (te:TE):TS:=fun D σ H=>te σ H D.rt
theorem zmP (he:PE X e te):PS X (.Return (some e) pos) (tRet te):=by
 intro pins s σ H D I h
 exact wpAny_Return_some (thn (he pins s σ H _ I h) fun v s1 ⟨x,H1,I1,r1,q1⟩=>⟨x,σ,H1,I1,r1,q1⟩)
def tIfS (c:TT) (t u:TS):TS:=fun D σ H=>c σ H fun b H1=>if b=true then t D σ H1 else u D σ H1
theorem zqm {c:Expr} {a b:List Stmt} {tc:TT} (hc:PT X c tc) (ha:PSs X a t) (hb:PSs X b u):PS X (.If c a b pos) (tIfS tc t u):=by
 intro pins s σ H D I h
 refine wpAny_If (thn (hc pins s σ H _ I h) fun d s1 ⟨H1,I1,q1⟩=>?_)
 cases d with
 | true=>exact ha pins s1 σ H1 D I1 q1
 | false=>exact hb pins s1 σ H1 D I1 q1
end
abbrev TG:=V->St->Hp->(St->Hp->Prop)->Prop
abbrev TGs:=List V->St->Hp->(St->Hp->Prop)->Prop
def PG (X:Cx) (target:Expr) (t:TG):Prop:=
 ∀ (pins:List (Addr×Obj)) (s:Shared) (σ:St) (H:Hp) (v:V) (u:Value) (Q:St->Hp->Prop),Inv X pins σ H s->RelV v u->t v σ H Q->
   wpAny (model X.prog X.w) X.A (assign target X.env u) (fun _ s'=>∃ σ' H',Inv X pins σ' H' s'/\Q σ' H') X.xe s
def PGs (X:Cx) (ts:List Expr) (t:TGs):Prop:=
 ∀ (pins:List (Addr×Obj)) (s:Shared) (σ:St) (H:Hp) (vs:List V) (us:List Value) (Q:St->Hp->Prop),Inv X pins σ H s->Vals vs us->t vs σ H Q->
   wpAny (model X.prog X.w) X.A (assignInOrder ((assignEach ts X.env).map (·.2)) us) (fun _ s'=>∃ σ' H',Inv X pins σ' H' s'/\Q σ' H') X.xe s
abbrev TSet:=V->V->V->Hp->(Hp->Prop)->Prop
def PSet (X:Cx) (t:TSet):Prop:=
 ∀ (pins:List (Addr×Obj)) (s:Shared) (σ:St) (H:Hp) (o i v:V) (ov iv u:Value) (Q:Hp->Prop),Inv X pins σ H s->RelV o ov->RelV i iv->RelV v u->t o i v H Q->
   wpAny (model X.prog X.w) X.A (setItem ov iv u) (fun _ s'=>∃ H',Inv X pins σ H' s'/\Q H') X.xe s
section
variable {X:Cx} {pos:Pos}
def gNil:TGs:=fun vs σ H Q=>vs=[]/\Q σ H
def gCons (t:TG) (u:TGs):TGs:=fun vs σ H Q=>∃ v r,vs=v::r/\t v σ H fun σ' H'=>u r σ' H' Q
theorem zko:PGs X [] gNil:=by
 intro pins s σ H vs us Q I r h
 obtain ⟨e,h⟩:=h
 subst e
 cases r
 exact assignInOrder_nil ⟨σ,H,I,h⟩
theorem zjq {e:Expr} {es:List Expr} {t:TG} {u:TGs} (h1:PG X e t) (h2:PGs X es u)
  (hs:(assignEach (e::es) X.env).map (·.2)=assign e X.env::(assignEach es X.env).map (·.2):=by rfl):PGs X (e::es) (gCons t u):=by
 intro pins s σ H vs us Q I r h
 obtain ⟨v,vr,e1,h⟩:=h
 subst e1
 cases r with
 | cons r rr=>
   rw [hs]
   refine assignInOrder_cons (thn (h1 pins s σ H _ _ _ I r h) fun _ s1 ⟨σ1,H1,I1,q1⟩=>?_)
   exact h2 pins s1 σ1 H1 _ _ Q I1 rr q1
def gTup (K:W.Frag) (n:Nat) (t:TGs):TG:=fun v σ H Q=>∃ a xs,v=.ref a/\SqT K H a xs/\xs.length=n/\t xs σ H Q
theorem zm8 {es:List Expr} {k:Nat} {t:TGs} {n:Nat} (hc:X.calm=true) (h:PGs X es t)
  (hn:(assignEach es X.env).length=n:=by rfl) (hst:(assignEach es X.env).findIdx? (·.1)=none:=by rfl):PG X (.Tuple es k pos) (gTup X.K n t):=by
 intro pins s σ H v u Q I r hw
 obtain ⟨a,xs,e1,hq,hl,hw⟩:=hw
 subst e1
 cases r
 obtain ⟨its,rv,ht,hz⟩:=I.tuple hq
 refine assign_Tuple_tuple (I.ok.hd hc) ht (by simp [hn,<- hl,rv.length]) hst fun h' hx=>?_
 have I1:Inv X pins σ H { s with heap:=h' }:=I.kept (t':=s.toks) fun b o e=>hx b o (ne_of_lt (qg e)) e
 exact h pins _ σ H xs _ Q I1 (by simpa using rv) hw
def gSub (to ti:TE) (t:TSet):TG:=fun v σ H Q=>to σ H fun o H1=>ti σ H1 fun i H2=>t o i v H2 fun H3=>Q σ H3
theorem zn0 {o i:Expr} {to ti:TE} {t:TSet} (ho:PE X o to) (hi:PE X i ti) (hs:PSet X t)
  (ha:∀ v,assign (.Subscript o i pos) X.env v=(do
   let ov <- holding [v] (eval o X.env)
   let iv <- holding [v,ov] (eval i X.env)
   standAt pos
   holding [v,ov,iv] (setItem ov iv v)
   release [v,ov,iv] []):=by intro _; rfl):PG X (.Subscript o i pos) (gSub to ti t):=by
 intro pins s σ H v u Q I r h
 rw [ha]
 refine qa (wpAny_holding (thn (ho pins s σ H _ I h) fun ov s1 ⟨x,H1,I1,r1,q1⟩=>?_))
 refine qa (wpAny_holding (thn (hi pins s1 σ H1 _ I1 q1) fun iv s2 ⟨y,H2,I2,r2,q2⟩=>?_))
 refine qa (wpAny_standAt (qa (wpAny_holding (thn (hs pins s2 σ H2 x y v ov iv u _ I2 r1 r2 r q2) fun _ s3 ⟨H3,I3,q3⟩=>?_))))
 exact wpAny_release ⟨σ,H3,I3,q3⟩
def tAsg (te:TE) (g:TG):TS:=fun D σ H=>te σ H fun x H1=>g x σ H1 D.nx
theorem zkj {tg e:Expr} {te:TE} {g:TG} (he:PE X e te) (hg:PG X tg g) (hs:swapsWithSole [tg] e pos.line X.env=pure false:=by rfl) (hw:swappedStores [tg] e X.env=pure none:=by rfl)
  (h1:(assignEach [tg] X.env).map (·.2)=[assign tg X.env]:=by rfl):PS X (.Assign [tg] e pos) (tAsg te g):=by
 intro pins s σ H D I h
 refine wpAny_Assign_stores (thn (he pins s σ H _ I h) fun v s1 ⟨x,H1,I1,r1,q1⟩=>?_) hs hw
 rw [h1]
 exact thn (hg pins s1 σ H1 x v _ I1 r1 q1) fun _ s2 q=>q
end
section
variable {X:Cx} {pos:Pos}
def tWhile (c:TT) (tb:TS):TS:=fun D σ H=>∃ W:Nat->St->Hp->Prop,(∃ m,W m σ H)/\∀ m σ H,W m σ H->
 c σ H fun b H1=>if b=true then ∃ N:St->Hp->Prop,(∀ σ' H',N σ' H'->∃ m',m' < m/\W m' σ' H')/\tb { D with nx:=N,ct:=N,bk:=D.nx } σ H1 else D.nx σ H1
theorem ziQ {c:Expr} {body:List Stmt} {tc:TT} {tb:TS} (hp:PassesOwn (model X.prog X.w) X.A X.env X.xe) (hc:PT X c tc) (hb:PSs X body tb):PS X (.While c body [] pos) (tWhile tc tb):=by
 intro pins s σ H D I h
 obtain ⟨W,⟨m0,w0⟩,turn⟩:=h
 refine wpAny_While (codeAny_whileLoop (fun n s'=>∃ σ' H',Inv X pins σ' H' s'/\W n σ' H') ?_ m0 ⟨σ,H,I,w0⟩)
 rintro n s1 ⟨σ1,H1,I1,w1⟩
 refine wpAny_passesOwn hp (thn (hc pins s1 σ1 H1 _ I1 (turn n σ1 H1 w1)) fun b s2 ⟨H2,I2,q2⟩=>?_)
 cases b with
 | true=>
   obtain ⟨N,hN,q2⟩:=q2
   rw [if_pos rfl]
   refine wpAny_passesOwn hp (thn (hb pins s2 σ1 H2 _ I2 q2) fun f s3 q3=>?_)
   cases f with
   | next=>
     obtain ⟨σ3,H3,I3,n3⟩:=q3
     obtain ⟨m',hm,w3⟩:=hN σ3 H3 n3
     exact ⟨m',hm,σ3,H3,I3,w3⟩
   | cont=>
     obtain ⟨σ3,H3,I3,n3⟩:=q3
     obtain ⟨m',hm,w3⟩:=hN σ3 H3 n3
     exact ⟨m',hm,σ3,H3,I3,w3⟩
   | brk=>exact q3
   | ret v=>exact q3
 | false=>
   rw [if_neg Bool.false_ne_true]
   exact wpAny_execs_nil ⟨σ1,H2,I2,q2⟩
end
structure It where
 go:Nat->Hp->Prop
 yld:Nat->Hp->V->Hp->Prop
 stop:Nat->Hp->Prop
def FpOk (X:Cx) (pins:List (Addr×Obj)) (H:Hp) (b:Addr):Prop:=
 H b=none/\b≠X.env.locals/\b∉X.fs/\(b∈X.ex\/X.s₀.heap.objs.size<=b)/\(∀ x c,X.env.cells.lookup x=some c->c≠b)/\∀ p∈X.pn++pins,p.1≠b
theorem Inv.fpOk {X:Cx} {pins:List (Addr×Obj)} {σ:St} {H H':Hp} {s:Shared} {b:Addr} (I:Inv X pins σ H s) (hb:s.heap.objs.size<=b) (hn:H' b=none):FpOk X pins H' b:=by
 refine ⟨hn,ne_of_gt (lt_of_lt_of_le I.lt hb),I.nofs hb,.inr (le_trans I.sz hb),fun x c e z=>?_,fun p hp z=>?_⟩
 ·obtain ⟨v,q⟩:=I.cell x c e
  exact absurd (lt_of_lt_of_le q.lt (by rw [z]; exact hb)) (lt_irrefl _)
 ·exact absurd (lt_of_lt_of_le (qg (I.pin p hp).1) (by rw [z]; exact hb)) (lt_irrefl _)
structure Turn (P:Program) (w:World) (K:W.Frag) (tg:Expr) (J:It) (fp:List Addr) (it:Addr) (tn:Nat->Heap->Prop):Prop where
 mem:it∈fp
 obj:∀ i h,tn i h->∀ b∈fp,∃ o,h.get? b=some o/\∀ v,o.data≠.cell v
 keep:∀ i h h',tn i h->(∀ b∈fp,∀ o,h.get? b=some o->h'.get? b=some o)->tn i h'
 item:∀ (X:Cx),X.prog=P->X.w=w->X.K=K->X.calm=true->∀ (i:Nat) (pins:List (Addr×Obj)) (s:Shared) (σ:St) (H:Hp) (E:Value->Shared->Prop),Inv X pins σ H s->(∀ b∈fp,FpOk X pins H b)->tn i s.heap->J.go i H->
  wpAny (model P w) X.A (pyNext (.ref it)) (fun r s1=>∃ u,r=some u/\
   wpAny (model P w) X.A (letOwnedTupleGo tg (.ref it) u) (fun _ s2=>∃ x H',Inv X pins σ H' s2/\RelV x u/\J.yld i H x H'/\tn (i + 1) s2.heap/\∀ b∈fp,H' b=none) E s1) E s
 done:∀ (X:Cx),X.prog=P->X.w=w->X.K=K->X.calm=true->∀ (i:Nat) (pins:List (Addr×Obj)) (s:Shared) (σ:St) (H:Hp) (E:Value->Shared->Prop),Inv X pins σ H s->(∀ b∈fp,FpOk X pins H b)->tn i s.heap->J.stop i H->
  wpAny (model P w) X.A (pyNext (.ref it)) (fun r s1=>r=none/\Inv X pins σ H s1) E s
 self:∀ (A:Around) (i:Nat) (s:Shared) (Q:Value->Shared->Prop) (E:Value->Shared->Prop),tn i s.heap->Q (.ref it) s->wpAny (model P w) A (pyIter (.ref it)) Q E s
abbrev TI:=St->Hp->(It->Hp->Prop)->Prop
def PIE (X:Cx) (pins:List (Addr×Obj)) (σ:St) (tg:Expr) (R:It->Hp->Prop) (itv:Value) (s2:Shared):Prop:=
 ∃ (it:Addr) (fp:List Addr) (tn:Nat->Heap->Prop) (J:It) (H':Hp),itv=.ref it/\Inv X pins σ H' s2/\Turn X.prog X.w X.K tg J fp it tn/\tn 0 s2.heap/\(∀ b∈fp,FpOk X pins H' b)/\R J H'
def PI (X:Cx) (tg iter:Expr) (wi:TI):Prop:=
 ∀ (pins:List (Addr×Obj)) (s:Shared) (σ:St) (H:Hp) (R:It->Hp->Prop),Inv X pins σ H s->wi σ H R->
   wpAny (model X.prog X.w) X.A (eval iter X.env) (fun v s1=>wpAny (model X.prog X.w) X.A (pyIter v) (PIE X pins σ tg R) X.xe s1) X.xe s
theorem zi4 {M:Model} {A:Around} {E:Value->Shared->Prop} {s:Shared} {tg:Expr} {it:Addr} {u:Value} {o:Obj} {n:String} {vs:Array Value} {Q:Unit->Shared->Prop} (ho:s.heap.get? it=some o) (hc:o.cls=.type n) (hd:o.data=.fields vs)
  (hn:["enumerate","zip","dict_itemiterator","dict_reverseitemiterator","odict_iterator","itertools.zip_longest","itertools.pairwise"].contains n=false) (hQ:Q () s):wpAny M A (letOwnedTupleGo tg (.ref it) u) Q E s:=by
 unfold letOwnedTupleGo
 cases tg <;> first
  | exact qb hQ
  | (cases u <;> first
    | exact qb hQ
    | (refine qa (wpAny_load ho ?_)
       rw [hc,hd]
       show wpAny M A (if (["enumerate","zip","dict_itemiterator","dict_reverseitemiterator","odict_iterator","itertools.zip_longest","itertools.pairwise"].contains n && vs[0]? == some (rawInt _))=true then _ else _) Q E s
       rw [if_neg (by intro h; rw [hn,Bool.false_and] at h; cases h)]
       exact qb hQ))
def Itl (K:W.Frag) (a:Addr):It:=
 ⟨fun i H=>∃ xs x,SqL K H a xs/\xs[i]?=some x,fun i H x H'=>H'=H/\∀ xs,SqL K H a xs->xs[i]?=some x,fun i H=>∃ xs,SqL K H a xs/\xs.length<=i⟩
def Itt (K:W.Frag) (a:Addr):It:=
 ⟨fun i H=>∃ xs x,SqT K H a xs/\xs[i]?=some x,fun i H x H'=>H'=H/\∀ xs,SqT K H a xs->xs[i]?=some x,fun i H=>∃ xs,SqT K H a xs/\xs.length<=i⟩
def Itr (lo:Int) (n:Nat):It:=⟨fun i _=>i < n,fun i H x H'=>H'=H/\x=.int (lo + i),fun i _=>n<=i⟩
theorem zg3 {P:Program} {w:World} {K:W.Frag} {tg:Expr} (a it:Addr):Turn P w K tg (Itl K a) [it] it (fun i h=>h.IsListIter it a i) where
 mem:=by simp
 obj:=fun i h st b hb=>by
  have e:b=it:=by simpa using hb
  subst e
  obtain ⟨o,e,c,d⟩:=st
  exact ⟨o,e,fun v z=>by rw [d] at z; cases z⟩
 keep:=fun i h h' st k=>st.at fun o e=>k it (by simp) o e
 item:=by
  intro X hP hw hK hc i pins s σ H E I hf st hg
  subst hP hw hK
  obtain ⟨xs,x,hq,hx⟩:=hg
  obtain ⟨its,rv,p,hz⟩:=I.list hq
  obtain ⟨u,hu,ru⟩:=rv.get hx
  obtain ⟨f0,f1,f2,f3,f4,f5⟩:=hf it (by simp)
  refine wpAny_pyNext_list_item st p.isList (x:=u) (by simpa using hu) fun h' st' sb=>?_
  have I1:Inv X pins σ H { s with heap:=h' }:=I.turned (t':=s.toks) (fun b o hb e=>(sb.2 b hb).trans e) f0 f1 f3 f4 f5
  obtain ⟨o,e,c,d⟩:=id st'
  exact ⟨u,rfl,zi4 (s:={ s with heap:=h' }) e c d (by decide) ⟨x,H,I1,ru,⟨rfl,fun ys hy=>by rw [I.list_inj hy hq]; exact hx⟩,st',fun b hb=>(hf b hb).1⟩⟩
 done:=by
  intro X hP hw hK hc i pins s σ H E I hf st hg
  subst hP hw hK
  obtain ⟨xs,hq,hx⟩:=hg
  obtain ⟨its,rv,p,hz⟩:=I.list hq
  obtain ⟨f0,f1,f2,f3,f4,f5⟩:=hf it (by simp)
  have hl:=rv.length
  exact wpAny_pyNext_list_end (I.ok.hd hc) st p.isList (by simp; lia) fun h' eb=>⟨rfl,I.turned (t':=s.toks) (fun b o hb e=>eb b o hb e) f0 f1 f3 f4 f5⟩
 self:=fun _ _ _ _ _ st h=>wpAny_pyIter_listiter st h
theorem zgr {P:Program} {w:World} {K:W.Frag} {tg:Expr} (a it:Addr):Turn P w K tg (Itt K a) [it] it (fun i h=>h.IsTupleIter it a i) where
 mem:=by simp
 obj:=fun i h st b hb=>by
  have e:b=it:=by simpa using hb
  subst e
  obtain ⟨o,e,c,d⟩:=st
  exact ⟨o,e,fun v z=>by rw [d] at z; cases z⟩
 keep:=fun i h h' st k=>st.at fun o e=>k it (by simp) o e
 item:=by
  intro X hP hw hK hc i pins s σ H E I hf st hg
  subst hP hw hK
  obtain ⟨xs,x,hq,hx⟩:=hg
  obtain ⟨its,rv,p,hz⟩:=I.tuple hq
  obtain ⟨u,hu,ru⟩:=rv.get hx
  obtain ⟨f0,f1,f2,f3,f4,f5⟩:=hf it (by simp)
  refine wpAny_pyNext_tuple_item st (show s.heap.IsTuple a its.toArray from p) (x:=u) (by simpa using hu) fun h' st' sb=>?_
  have I1:Inv X pins σ H { s with heap:=h' }:=I.turned (t':=s.toks) (fun b o hb e=>(sb.2 b hb).trans e) f0 f1 f3 f4 f5
  obtain ⟨o,e,c,d⟩:=id st'
  exact ⟨u,rfl,zi4 (s:={ s with heap:=h' }) e c d (by decide) ⟨x,H,I1,ru,⟨rfl,fun ys hy=>by rw [I.tuple_inj hy hq]; exact hx⟩,st',fun b hb=>(hf b hb).1⟩⟩
 done:=by
  intro X hP hw hK hc i pins s σ H E I hf st hg
  subst hP hw hK
  obtain ⟨xs,hq,hx⟩:=hg
  obtain ⟨its,rv,p,hz⟩:=I.tuple hq
  obtain ⟨f0,f1,f2,f3,f4,f5⟩:=hf it (by simp)
  have hl:=rv.length
  exact wpAny_pyNext_tuple_end (I.ok.hd hc) st (show s.heap.IsTuple a its.toArray from p) (by simp; lia) fun h' eb=>⟨rfl,I.turned (t':=s.toks) (fun b o hb e=>eb b o hb e) f0 f1 f3 f4 f5⟩
 self:=fun _ _ _ _ _ st h=>wpAny_pyIter_tupleiter st h
theorem zgt {P:Program} {w:World} {K:W.Frag} {tg:Expr} (it:Addr) (lo:Int) (n:Nat):Turn P w K tg (Itr lo n) [it] it (fun i h=>IsRangeIter h it (lo + (i:Nat) * 1) ((n:Int) - (i:Nat)) 1) where
 mem:=by simp
 obj:=fun i h st b hb=>by
  have e:b=it:=by simpa using hb
  subst e
  exact ⟨_,st,fun v z=>by
   have z':Data.fields _=Data.cell v:=z
   cases z'⟩
 keep:=fun i h h' st k=>k it (by simp) _ st
 item:=by
  intro X hP hw hK hc i pins s σ H E I hf st hg
  subst hP hw hK
  obtain ⟨f0,f1,f2,f3,f4,f5⟩:=hf it (by simp)
  have W:=Walks.range (prog:=X.prog) (w:=X.w) (I.ok.hd hc) it lo 1 n
  refine W.item i s _ _ hg st fun v h' tk hv st' kk=>?_
  obtain ⟨t,rfl⟩:=hv
  have I1:Inv X pins σ H { s with heap:=h',toks:=tk }:=I.turned (fun b o hb e=>kk b o (by simpa using hb) e) f0 f1 f3 f4 f5
  refine ⟨_,rfl,zi4 (s:={ s with heap:=h',toks:=tk }) (n:="range_iterator") st' rfl rfl (by decide) ⟨.int (lo + i),H,I1,⟨t,?_⟩,⟨rfl,rfl⟩,st',fun b hb=>(hf b hb).1⟩⟩
  rw [mul_one]
 done:=by
  intro X hP hw hK hc i pins s σ H E I hf st hg
  subst hP hw hK
  obtain ⟨f0,f1,f2,f3,f4,f5⟩:=hf it (by simp)
  exact wpAny_pyNext_range_end (I.ok.hd hc) st (by have:n<=i:=hg; lia) fun h' eb=>⟨rfl,I.turned (t':=s.toks) (fun b o hb e=>eb b o hb e) f0 f1 f3 f4 f5⟩
 self:=fun _ _ _ _ _ st h=>wpAny_pyIter_rangeiter st h
end L2
namespace L2
open PySem PySem.Spec PyProof.Rows
section
variable {X:Cx} {tg:Expr}
theorem zf8 {pins:List (Addr×Obj)} {σ:St} {H:Hp} {s:Shared} {R:It->Hp->Prop} {E:Value->Shared->Prop} {lo hi:Int} {t u v:Tok} {tk:Nat} (I:Inv X pins σ H s) (h1:-(2 ^ 62)<=lo) (h2:lo < 2 ^ 62) (h3:-(2 ^ 62)<=hi) (h4:hi < 2 ^ 62)
  (q:R (Itr lo (hi - lo).toNat) H):wpAny (model X.prog X.w) X.A (pyIter (.ref s.heap.objs.size)) (PIE X pins σ tg R) E { s with heap:=s.heap.push { cls:=.type "range",data:=.fields #[.int lo t,.int hi u,.int 1 v] },toks:=tk }:=by
 refine wpAny_pyIter_range (IsRange.new ..) (small_one h1 h2 h3 h4) ?_
 have I1:Inv X pins σ H { s with heap:=s.heap.push { cls:=.type "range",data:=.fields #[.int lo t,.int hi u,.int 1 v] },toks:=tk }:=I.kept fun b o e=>qc _ e
 refine ⟨(s.heap.push { cls:=.type "range",data:=.fields #[.int lo t,.int hi u,.int 1 v] }).objs.size,[(s.heap.push { cls:=.type "range",data:=.fields #[.int lo t,.int hi u,.int 1 v] }).objs.size],_,_,H,rfl,
  I1.kept (t':=tk) fun b o e=>qc _ e,zgt _ lo (hi - lo).toNat,?_,fun b hb=>?_,q⟩
 ·have e1:lo + ((0:Nat):Int) * 1=lo:=by simp
  have e2:(((hi - lo).toNat:Nat):Int) - ((0:Nat):Int)=Builtin.Range.rangeSize lo hi 1:=by rw [rangeSize_one]; split <;> lia
  show IsRangeIter _ _ (lo + ((0:Nat):Int) * 1) ((((hi - lo).toNat:Nat):Int) - ((0:Nat):Int)) 1
  rw [e1,e2]
  exact qd _ rfl
 ·have e:b=(s.heap.push { cls:=.type "range",data:=.fields #[.int lo t,.int hi u,.int 1 v] }).objs.size:=by simpa using hb
  subst e
  exact I1.fpOk (le_refl _) (I1.hok.fresh (le_refl _))
def iRng1 (ta:TA):TI:=fun σ H R=>ta σ H fun vs H1=>∃ j:Int,vs=[.int j]/\-(2 ^ 62)<=j/\j < 2 ^ 62/\R (Itr 0 j.toNat) H1
def iRng2 (ta:TA):TI:=fun σ H R=>ta σ H fun vs H1=>∃ i j:Int,vs=[.int i,.int j]/\(-(2 ^ 62)<=i/\i < 2 ^ 62/\-(2 ^ 62)<=j/\j < 2 ^ 62)/\R (Itr i (j - i).toNat) H1
theorem zhI {a:Expr} {ta:TA} {p pos:Pos} (hg:Gl X "range") (hm:X.mg "range"=none) (ha:PA X [a] ta) (hs:starEach [a] X.env=[(false,eval a X.env)]:=by rfl):PI X tg (.Call (.Name "range" p) [a] [] pos) (iRng1 ta):=by
 intro pins s σ H R I h
 refine Call_ (zbF I hg hm boot_range (PyProof.Rows.callWith_type1 (thn (ha pos pins s σ H _ I h) fun us s1 ⟨vs,H1,I1,r1,q1⟩=>?_) hs rfl))
 obtain ⟨j,e,q1,q2,q⟩:=q1
 subst e
 cases r1 with
 | cons r rr=>
   cases rr
   obtain ⟨t,rfl⟩:=r
   exact call_range_1 (zf8 I1 (by lia) (by lia) q1 q2 (by simpa using q))
theorem zh6 {a b:Expr} {ta:TA} {p pos:Pos} (hg:Gl X "range") (hm:X.mg "range"=none) (ha:PA X [a,b] ta) (hs:starEach [a,b] X.env=[(false,eval a X.env),(false,eval b X.env)]:=by rfl) (hs2:starEach [b] X.env=[(false,eval b X.env)]:=by rfl):
  PI X tg (.Call (.Name "range" p) [a,b] [] pos) (iRng2 ta):=by
 intro pins s σ H R I h
 refine Call_ (zbF I hg hm boot_range (PyProof.Rows.callWith_type1 (thn (ha pos pins s σ H _ I h) fun us s1 ⟨vs,H1,I1,r1,q1⟩=>?_) (by rw [hs,hs2]) (by rw [hs2]; rfl)))
 obtain ⟨i,j,e,⟨q1,q2,q3,q4⟩,q⟩:=q1
 subst e
 cases r1 with
 | cons r rr=>
   cases rr with
   | cons r' rr=>
     cases rr
     obtain ⟨t,rfl⟩:=r
     obtain ⟨t',rfl⟩:=r'
     exact call_range_2 (zf8 I1 q1 q2 q3 q4 q)
def tFor (wi:TI) (g:TG) (tb:TS):TS:=fun D σ H=>wi σ H fun J H1=>∃ W:Nat->Nat->St->Hp->Prop,(∃ m,W 0 m σ H1)/\∀ i m σ H,W i m σ H->
 (J.stop i H/\D.nx σ H)\/(J.go i H/\∃ N:St->Hp->Prop,(∀ σ' H',N σ' H'->∃ m',m' < m/\W (i + 1) m' σ' H')/\∀ x H',J.yld i H x H'->g x σ H' fun σ2 H2=>tb { D with nx:=N,ct:=N,bk:=D.nx } σ2 H2)
def pinsAt (fp:List Addr) (h:Heap):List (Addr×Obj):=fp.filterMap fun b=>(h.get? b).map fun o=>(b,o)
theorem zbn {fp:List Addr} {h:Heap} {b:Addr} {o:Obj} (hb:b∈fp) (e:h.get? b=some o):(b,o)∈pinsAt fp h:=mem_filterMap.mpr ⟨b,hb,by rw [e]; rfl⟩
theorem zih {fp:List Addr} {h:Heap} {p:Addr×Obj} (hp:p∈pinsAt fp h):p.1∈fp/\h.get? p.1=some p.2:=by
 obtain ⟨b,hb,e⟩:=mem_filterMap.mp hp
 cases q:h.get? b with
 | none=>rw [q] at e; cases e
 | some o=>
   rw [q] at e
   have e':(b,o)=p:=qh e
   subst e'
   exact ⟨hb,q⟩
theorem Inv.pinned {pins:List (Addr×Obj)} {σ:St} {H:Hp} {s:Shared} {fp:List Addr} (I:Inv X pins σ H s) (hf:∀ b∈fp,FpOk X pins H b) (ho:∀ b∈fp,∃ o,s.heap.get? b=some o/\∀ v,o.data≠.cell v):Inv X (pins++pinsAt fp s.heap) σ H s:=
 I.pins_of fun p hp=>(mem_append.mp hp).elim (fun z=>I.pin p (qk _ z)) fun z=>by
  obtain ⟨hb,e⟩:=zih z
  obtain ⟨f0,f1,f2,_⟩:=hf p.1 hb
  obtain ⟨o,e',d⟩:=ho p.1 hb
  rw [e] at e'; cases e'
  exact ⟨e,f0,f1,f2,d⟩
theorem Inv.unpinned {pins pl:List (Addr×Obj)} {σ:St} {H:Hp} {s:Shared} (I:Inv X (pins++pl) σ H s):Inv X pins σ H s:=I.pins_of fun p hp=>I.pin p (qk _ (qm _ hp))
theorem zmb {iter:Expr} {body:List Stmt} {wi:TI} {g:TG} {tb:TS} {pos:Pos} (hp:PassesOwn (model X.prog X.w) X.A X.env X.xe) (hc:X.calm=true) (hi:PI X tg iter wi) (hg:PG X tg g) (hb:PSs X body tb)
  (hs:∀ x,foldedSetIterable iter X.env x=pure x:=by intro _; rfl):PS X (.For tg iter body [] pos) (tFor wi g tb):=by
 intro pins s σ H D I h
 refine wpAny_For (thn (hi pins s σ H _ I h) fun v s1 h1=>thn h1 fun itv s2 h2=>?_) hs
 obtain ⟨it,fp,tn,J,H2,e,I2,T,st2,f2,W,⟨m0,w0⟩,turn⟩:=h2
 subst e
 -- what stays true of the iterator's objects through the loop
 have stat:∀ {H':Hp},(∀ b∈fp,H' b=none)->∀ b∈fp,FpOk X pins H' b:=fun hn b hb=>⟨hn b hb,(f2 b hb).2⟩
 refine codeAny_forLoop_any (fun n s'=>∃ i σ' H',Inv X pins σ' H' s'/\tn i s'.heap/\(∀ b∈fp,H' b=none)/\W i n σ' H') ?_ m0 ⟨0,σ,H2,I2,st2,fun b hb=>(f2 b hb).1,w0⟩
 rintro n s3 ⟨i,σ3,H3,I3,st3,fr3,w3⟩
 rcases turn i n σ3 H3 w3 with ⟨stop,qn⟩ | ⟨go,N,hN,step⟩
 ·refine wpAny_passesOwn hp (thn (T.done X rfl rfl rfl hc i pins s3 σ3 H3 X.xe I3 (stat fr3) st3 stop) fun r s4 ⟨hr,I4⟩=>?_)
  subst hr
  exact wpAny_execs_nil ⟨σ3,H3,I4,qn⟩
 ·refine wpAny_passesOwn hp (thn (T.item X rfl rfl rfl hc i pins s3 σ3 H3 X.xe I3 (stat fr3) st3 go) fun r s4 ⟨u,hr,h4⟩=>?_)
  subst hr
  refine wpAny_passesOwn hp (thn h4 fun _ s5 ⟨x,H5,I5,r5,y5,st5,fr5⟩=>?_)
  have I5':=I5.pinned (stat fr5) (T.obj _ _ st5)
  refine wpAny_passesOwn hp (thn (hg _ s5 σ3 H5 x u _ I5' r5 (step x H5 y5)) fun _ s6 ⟨σ6,H6,I6,q6⟩=>?_)
  refine wpAny_passesOwn hp (thn (hb _ s6 σ6 H6 _ I6 q6) fun f s7 q7=>?_)
  have again:∀ {σ7:St} {H7:Hp},Inv X (pins++pinsAt fp s5.heap) σ7 H7 s7->N σ7 H7->∃ m,m < n/\∃ i σ' H',Inv X pins σ' H' s7/\tn i s7.heap/\(∀ b∈fp,H' b=none)/\W i m σ' H':=fun {σ7 H7} I7 n7=>by
   obtain ⟨m',hm,w7⟩:=hN σ7 H7 n7
   refine ⟨m',hm,i + 1,σ7,H7,I7.unpinned,T.keep _ _ _ st5 fun b hb o e=>(I7.pin (b,o) (qk _ (qk _ (zbn hb e)))).1,fun b hb=>?_,w7⟩
   obtain ⟨o,e,d⟩:=T.obj _ _ st5 b hb
   exact (I7.pin (b,o) (qk _ (qk _ (zbn hb e)))).2.1
  cases f with
  | next=>obtain ⟨σ7,H7,I7,n7⟩:=q7; exact again I7 n7
  | cont=>obtain ⟨σ7,H7,I7,n7⟩:=q7; exact again I7 n7
  | brk=>obtain ⟨σ7,H7,I7,q7⟩:=q7; exact ⟨σ7,H7,I7.unpinned,q7⟩
  | ret v=>obtain ⟨x7,σ7,H7,I7,r7,q7⟩:=q7; exact ⟨x7,σ7,H7,I7.unpinned,r7,q7⟩
end
end L2
namespace L2
open PySem PySem.Spec PyProof.Rows
abbrev R2:=V->V->Hp->VK->Prop
def OpR (X:Cx) (f:Value->Value->Sem Value) (r:R2):Prop:=
 ∀ (pins:List (Addr×Obj)) (s:Shared) (σ:St) (H:Hp) (x y:V) (v u:Value) (Q:VK),Inv X pins σ H s->RelV x v->RelV y u->r x y H Q->
   wpAny (model X.prog X.w) X.A (f v u) (EP X pins σ Q) X.xe s
def UnR (X:Cx) (f:Value->Sem Value) (r:V->Hp->VK->Prop):Prop:=
 ∀ (pins:List (Addr×Obj)) (s:Shared) (σ:St) (H:Hp) (x:V) (v:Value) (Q:VK),Inv X pins σ H s->RelV x v->r x H Q->
   wpAny (model X.prog X.w) X.A (f v) (EP X pins σ Q) X.xe s
def CallR (X:Cx) (f:Value) (r:List V->Hp->VK->Prop):Prop:=
 ∀ (pins:List (Addr×Obj)) (s:Shared) (σ:St) (H:Hp) (xs:List V) (us:List Value) (Q:VK),Inv X pins σ H s->Vals xs us->r xs H Q->
   wpAny (model X.prog X.w) X.A (call f us) (EP X pins σ Q) X.xe s
def TruR (X:Cx) (r:V->Hp->(Bool->Hp->Prop)->Prop):Prop:=
 ∀ (pins:List (Addr×Obj)) (s:Shared) (σ:St) (H:Hp) (x:V) (v:Value) (Q:Bool->Hp->Prop),Inv X pins σ H s->RelV x v->r x H Q->
   wpAny (model X.prog X.w) X.A (truthy v) (TP X pins σ Q) X.xe s
def tOp (r:R2) (ta tb:TE):TE:=fun σ H Q=>ta σ H fun x H1=>tb σ H1 fun y H2=>r x y H2 Q
def tUn (r:V->Hp->VK->Prop) (ta:TE):TE:=fun σ H Q=>ta σ H fun x H1=>r x H1 Q
def rI (C:Int->Int->Prop) (g:Int->Int->V):R2:=fun x y H Q=>∃ i j,x=.int i/\y=.int j/\C i j/\Q (g i j) H
def rI0 (g:Int->Int->V):R2:=fun x y H Q=>∃ i j,x=.int i/\y=.int j/\Q (g i j) H
def rU (g:Int->V):V->Hp->VK->Prop:=fun x H Q=>∃ i,x=.int i/\Q (g i) H
section
variable {X:Cx} {a b c:Expr} {ta tb tc:TE} {pos:Pos}
theorem binT (ha:PE X a ta) (hb:PE X b tb) {pins:List (Addr×Obj)} {s:Shared} {σ:St} {H:Hp} {R:V->V->Hp->Prop} (I:Inv X pins σ H s)
  (h:ta σ H fun x H1=>tb σ H1 fun y H2=>R x y H2) {Q:Value->Shared->Prop} {f:Value->Value->Sem Value}
  (hf:∀ v u s2 x y H2,Inv X pins σ H2 s2->RelV x v->RelV y u->R x y H2->wpAny (model X.prog X.w) X.A (f v u) Q X.xe s2):
  wpAny (model X.prog X.w) X.A (eval a X.env) (fun v s₁=>wpAny (model X.prog X.w) X.A (eval b X.env) (fun u s₂=>wpAny (model X.prog X.w) X.A (f v u) Q X.xe s₂) X.xe s₁) X.xe s:=by
 refine thn (ha pins s σ H _ I h) fun v s1 ⟨x,H1,I1,r1,q1⟩=>?_
 refine thn (hb pins s1 σ H1 _ I1 q1) fun u s2 ⟨y,H2,I2,r2,q2⟩=>?_
 exact hf v u s2 x y H2 I2 r1 r2 q2
theorem zoB {op:Operator} {r:R2} (ho:OpR X (binaryOp op) r) (ha:PE X a ta) (hb:PE X b tb):PE X (.BinOp a op b pos) (tOp r ta tb):=by
 intro pins s σ H Q I h
 exact wpAny_BinOp (binT ha hb I h fun v u s2 x y H2 I2 rx ry q=>ho pins s2 σ H2 x y v u Q I2 rx ry q)
theorem zoS {op:UnaryOp} {r:V->Hp->VK->Prop} (ho:UnR X (unaryOp op) r) (ha:PE X a ta):PE X (.UnaryOp op a pos) (tUn r ta):=by
 intro pins s σ H Q I h
 exact UnaryOp_ (thn (ha pins s σ H _ I h) fun v s1 ⟨x,H1,I1,r1,q1⟩=>ho pins s1 σ H1 x v Q I1 r1 q1)
theorem opI {f:Value->Value->Sem Value} {C:Int->Int->Prop} {g:Int->Int->Int}
  (rule:∀ (i j:Int) (t u:Tok) (s:Shared) (Q:Value->Shared->Prop) (E:Value->Shared->Prop),C i j->Q (.int (g i j) s.toks) { s with toks:=s.toks + 1 }->wpAny (model X.prog X.w) X.A (f (.int i t) (.int j u)) Q E s):
  OpR X f (rI C fun i j=>.int (g i j)):=by
 intro pins s σ H x y v u Q I rx ry h
 obtain ⟨i,j,rfl,rfl,hc,q⟩:=h
 obtain ⟨t,rfl⟩:=rx
 obtain ⟨t',rfl⟩:=ry
 exact rule i j t t' s _ _ hc ⟨.int (g i j),H,I.tok _,⟨_,rfl⟩,q⟩
theorem opI0 {f:Value->Value->Sem Value} {g:Int->Int->Int}
  (rule:∀ (i j:Int) (t u:Tok) (s:Shared) (Q:Value->Shared->Prop) (E:Value->Shared->Prop),Q (.int (g i j) s.toks) { s with toks:=s.toks + 1 }->wpAny (model X.prog X.w) X.A (f (.int i t) (.int j u)) Q E s):
  OpR X f (rI0 fun i j=>.int (g i j)):=by
 intro pins s σ H x y v u Q I rx ry h
 obtain ⟨i,j,rfl,rfl,q⟩:=h
 obtain ⟨t,rfl⟩:=rx
 obtain ⟨t',rfl⟩:=ry
 exact rule i j t t' s _ _ ⟨.int (g i j),H,I.tok _,⟨_,rfl⟩,q⟩
theorem opB0 {f:Value->Value->Sem Value} {g:Int->Int->Bool}
  (rule:∀ (i j:Int) (t u:Tok) (s:Shared) (Q:Value->Shared->Prop) (E:Value->Shared->Prop),Q (.bool (g i j)) s->wpAny (model X.prog X.w) X.A (f (.int i t) (.int j u)) Q E s):
  OpR X f (rI0 fun i j=>.bl (g i j)):=by
 intro pins s σ H x y v u Q I rx ry h
 obtain ⟨i,j,rfl,rfl,q⟩:=h
 obtain ⟨t,rfl⟩:=rx
 obtain ⟨t',rfl⟩:=ry
 exact rule i j t t' s _ _ ⟨.bl (g i j),H,I,rfl,q⟩
def CPow (i j:Int):Prop:=0<=j/\j<=1000000/\i.natAbs < 2 ^ 64
def CMul (i j:Int):Prop:=(-(2 ^ 64) < i/\i < 2 ^ 64)\/(-(2 ^ 64) < j/\j < 2 ^ 64)
theorem CMul.ok {i j:Int} (h:CMul i j):IntMulOk i j:=by
 rcases h with ⟨h1,h2⟩ | ⟨h1,h2⟩
 ·exact .of_left (intBits_le_64 h1 h2)
 ·exact .of_right (intBits_le_64 h1 h2)
theorem zny:OpR X (binaryOp .Add) (rI0 fun i j=>.int (i + j)):=opI0 fun _ _ _ _ _ _ _ q=>add_int q
theorem zn9:OpR X (binaryOp .Mult) (rI CMul fun i j=>.int (i * j)):=opI fun _ _ _ _ _ _ _ hc q=>mul_int q hc.ok
theorem znK:OpR X (binaryOp .Mod) (rI (fun _ j=>0 < j) fun i j=>.int (i % j)):=opI fun i j _ _ _ _ _ hc q=>by
 have h1:(0:Int) < j:=hc
 exact mod_int' (by lia) (by rw [Int.fmod_eq_emod_of_nonneg i (by lia)]; exact q)
theorem zmA:OpR X (binaryOp .Pow) (rI CPow fun i j=>.int (i ^ j.toNat)):=opI fun _ _ _ _ _ _ _ hc q=>pow_int_small hc.1 hc.2.1 hc.2.2 q
theorem unI {f:Value->Sem Value} {g:Int->Int}
  (rule:∀ (i:Int) (t:Tok) (s:Shared) (Q:Value->Shared->Prop) (E:Value->Shared->Prop),Q (.int (g i) s.toks) { s with toks:=s.toks + 1 }->wpAny (model X.prog X.w) X.A (f (.int i t)) Q E s):
  UnR X f (rU fun i=>.int (g i)):=by
 intro pins s σ H x v Q I rx h
 obtain ⟨i,rfl,q⟩:=h
 obtain ⟨t,rfl⟩:=rx
 exact rule i t s _ _ ⟨.int (g i),H,I.tok _,⟨_,rfl⟩,q⟩
theorem zod:UnR X (unaryOp .USub) (rU fun i=>.int (-i)):=unI fun _ _ _ _ _ q=>neg_int q
end
def scal:V->V->Bool
 | .non,.non=>true | .non,.int _=>true | .int _,.non=>true | .non,.bl _=>true | .bl _,.non=>true | .non,.str _=>true | .str _,.non=>true
 | .int _,.int _=>true | .bl _,.bl _=>true | .str _,.str _=>true | .byt _,.byt _=>true
 | .int _,.str _=>true | .str _,.int _=>true | .bl _,.str _=>true | .str _,.bl _=>true
 | _,_=>false
def rNe:R2:=fun x y H Q=>scal x y=true/\Q (.bl (!decide (x=y))) H
theorem zlf {i j:Int}:decide (V.int i=V.int j)=(i == j):=by
 rw [Bool.eq_iff_iff]
 simp
theorem zmN {i j:Bool}:decide (V.bl i=V.bl j)=(i == j):=by
 rw [Bool.eq_iff_iff]
 simp
theorem zla {i j:Str}:decide (V.str i=V.str j)=(i == j):=by
 rw [Bool.eq_iff_iff]
 simp
theorem zlz {i j:Array UInt8}:decide (V.byt i=V.byt j)=(i.toList == j.toList):=by
 rw [Bool.eq_iff_iff]
 cases i
 cases j
 simp
section
variable {X:Cx} {a b c:Expr} {ta tb tc:TE} {pos:Pos}
theorem zaM {pins:List (Addr×Obj)} {σ:St} {H:Hp} {s:Shared} {Q:VK} {k k':Bool} (I:Inv X pins σ H s) (q:Q (.bl k) H) (e:k=k'):EP X pins σ Q (.bool k') s:=by
 subst e
 exact ⟨.bl k,H,I,rfl,q⟩
theorem zpt:OpR X (compareOp .NotEq) rNe:=by
 intro pins s σ H x y v u Q I rx ry h
 obtain ⟨hs,q⟩:=h
 cases x with
 | non=>
   cases rx
   cases y with
   | non=>cases ry; exact PySem.EqNone.ne_none_none (zaM I q (by simp))
   | bl j=>cases ry; exact PySem.EqNone.ne_none_bool (zaM I q (by simp))
   | int j=>obtain ⟨t',rfl⟩:=ry; exact PySem.EqNone.ne_none_int (zaM I q (by simp))
   | str j=>obtain ⟨t',rfl⟩:=ry; exact PySem.EqNone.ne_none_str (zaM I q (by simp))
   | _=>exact absurd (show false=true from hs) Bool.false_ne_true
 | bl i=>
   cases rx
   cases y with
   | non=>cases ry; exact PySem.EqNone.ne_bool_none (zaM I q (by simp))
   | bl j=>cases ry; exact ne_bool (zaM I q (congrArg not zmN))
   | str j=>obtain ⟨t',rfl⟩:=ry; exact PySem.EqMixed.ne_bool_str (zaM I q (by simp))
   | _=>exact absurd (show false=true from hs) Bool.false_ne_true
 | int i=>
   obtain ⟨t,rfl⟩:=rx
   cases y with
   | non=>cases ry; exact PySem.EqNone.ne_int_none (zaM I q (by simp))
   | int j=>obtain ⟨t',rfl⟩:=ry; exact ne_int (zaM I q (congrArg not zlf))
   | str j=>obtain ⟨t',rfl⟩:=ry; exact PySem.EqMixed.ne_int_str (zaM I q (by simp))
   | _=>exact absurd (show false=true from hs) Bool.false_ne_true
 | str i=>
   obtain ⟨t,rfl⟩:=rx
   cases y with
   | non=>cases ry; exact PySem.EqNone.ne_str_none (zaM I q (by simp))
   | bl j=>cases ry; exact PySem.EqMixed.ne_str_bool (zaM I q (by simp))
   | int j=>obtain ⟨t',rfl⟩:=ry; exact PySem.EqMixed.ne_str_int (zaM I q (by simp))
   | str j=>obtain ⟨t',rfl⟩:=ry; exact ne_str (zaM I q (congrArg not zla))
   | _=>exact absurd (show false=true from hs) Bool.false_ne_true
 | byt i=>
   obtain ⟨t,rfl⟩:=rx
   cases y with
   | byt j=>obtain ⟨t',rfl⟩:=ry; exact W.ne_bytes (zaM I q (congrArg not zlz))
   | _=>exact absurd (show false=true from hs) Bool.false_ne_true
 | _=>cases y <;> exact absurd (show false=true from hs) Bool.false_ne_true
theorem zoK:OpR X (compareOp .Lt) (rI0 fun i j=>.bl (decide (i < j))):=opB0 fun _ _ _ _ _ _ _ q=>lt_int q
theorem zpi:OpR X (compareOp .LtE) (rI0 fun i j=>.bl (decide (i<=j))):=opB0 fun _ _ _ _ _ _ _ q=>le_int q
theorem zqK:OpR X (compareOp .Gt) (rI0 fun i j=>.bl (decide (j < i))):=opB0 fun _ _ _ _ _ _ _ q=>gt_int q
theorem zqw:OpR X (compareOp .GtE) (rI0 fun i j=>.bl (decide (j<=i))):=opB0 fun _ _ _ _ _ _ _ q=>ge_int q
theorem zmQ:OpR X (compareOp .Is) (fun x y H Q=>y=.non/\Q (.bl (decide (x=.non))) H):=by
 intro pins s σ H x y v u Q I rx ry h
 obtain ⟨rfl,q⟩:=h
 cases ry
 refine is_none_gen (zaM I q ?_)
 cases x <;> first
  | (cases rx; rfl)
  | (obtain ⟨t,rfl⟩:=rx; rfl)
theorem zkz:OpR X (compareOp .IsNot) (fun x y H Q=>y=.non/\Q (.bl (!decide (x=.non))) H):=by
 intro pins s σ H x y v u Q I rx ry h
 obtain ⟨rfl,q⟩:=h
 cases ry
 refine isnot_none_gen (zaM I q ?_)
 cases x <;> first
  | (cases rx; rfl)
  | (obtain ⟨t,rfl⟩:=rx; rfl)
theorem nomark (b:Expr) {op:CmpOp} (h:op≠.In:=by decide) (h2:op≠.NotIn:=by decide):behindInMarks op b=false:=by
 have e1:(op == CmpOp.In)=false:=by cases op <;> first | rfl | exact absurd rfl h
 have e2:(op == CmpOp.NotIn)=false:=by cases op <;> first | rfl | exact absurd rfl h2
 cases b <;> simp [behindInMarks,e1,e2]
theorem zlL {op:CmpOp} {r:R2} (ho:OpR X (compareOp op) r) (ha:PE X a ta) (hb:PE X b tb) (hm:behindInMarks op b=false):PE X (.Compare a [op] [b] pos) (tOp r ta tb):=by
 intro pins s σ H Q I h
 exact wpAny_Compare1 (binT ha hb I h fun v u s2 x y H2 I2 rx ry q=>ho pins s2 σ H2 x y v u Q I2 rx ry q) hm
def tTest (t:TE):TT:=fun σ H Q=>t σ H fun x H'=>∃ k,x=.bl k/\Q k H'
theorem zkI {op:CmpOp} {r:R2} (ho:OpR X (compareOp op) r) (ha:PE X a ta) (hb:PE X b tb) (hm:behindInMarks op b=false):PT X (.Compare a [op] [b] pos) (tTest (tOp r ta tb)):=by
 intro pins s σ H Q I h
 refine wpAny_isTrue_Compare1 (thn (ha pins s σ H _ I h) fun v s1 ⟨x,H1,I1,r1,q1⟩=>thn (hb pins s1 σ H1 _ I1 q1) fun u s2 ⟨y,H2,I2,r2,q2⟩=>
  thn (ho pins s2 σ H2 x y v u _ I2 r1 r2 q2) fun c s3 ⟨z,H3,I3,r3,k,e,q3⟩=>?_) hm
 subst e
 cases r3
 exact wpAny_truthy_bool ⟨H3,I3,q3⟩
def tChain (r r':R2) (ta tb tc:TE):TE:=fun σ H Q=>ta σ H fun x H1=>tb σ H1 fun y H2=>r x y H2 fun z H3=>∃ k,z=.bl k/\
 (if k=true then tc σ H3 fun w' H4=>r' y w' H4 Q else Q (.bl false) H3)
theorem zj0 {op op':CmpOp} {r r':R2} (ho:OpR X (compareOp op) r) (ho':OpR X (compareOp op') r') (ha:PE X a ta) (hb:PE X b tb) (hc:PE X c tc)
  (hm:lastMarks [op,op'] [b,c]=false:=by with_unfolding_all rfl):PT X (.Compare a [op,op'] [b,c] pos) (tTest (tChain r r' ta tb tc)):=by
 intro pins s σ H Q I h
 refine isTrue_chain (thn (ha pins s σ H _ I h) fun v s1 ⟨x,H1,I1,r1,q1⟩=>test_link (thn (hb pins s1 σ H1 _ I1 q1) fun u s2 ⟨y,H2,I2,r2,q2⟩=>
  thn (ho pins s2 σ H2 x y v u _ I2 r1 r2 q2) fun d s3 ⟨z,H3,I3,r3,k,e,q3⟩=>?_)) hm
 subst e
 cases r3
 refine wpAny_truthy_bool ?_
 cases k with
 | false=>
   obtain ⟨k',e',q'⟩:=q3
   cases e'
   exact ite_ff ⟨H3,I3,q'⟩
 | true=>
   refine ite_tt (test_last (thn (hc pins s3 σ H3 _ I3 q3) fun w' s4 ⟨z',H4,I4,r4,q4⟩=>thn (ho' pins s4 σ H4 y z' u w' _ I4 r2 r4 q4) fun d' s5 ⟨z2,H5,I5,r5,k2,e2,q5⟩=>?_))
   subst e2
   cases r5
   exact wpAny_truthy_bool ⟨H5,I5,q5⟩
def TruV (K:W.Frag) (x:V) (H:Hp) (k:Bool):Prop:=
 match x with
 | .non=>k=false
 | .bl b=>k=b
 | .int i=>k=(i !=0)
 | .str y=>y.length<=sizeLine/\k=((y.length:Int) !=0)
 | .byt y=>y.size<=sizeLine/\k=((y.size:Int) !=0)
 | .ref p=>(∃ xs,SqL K H p xs/\k=!xs.isEmpty)\/(∃ xs,SqT K H p xs/\k=!xs.isEmpty)\/∃ kvs,H p=some (.dK kvs)/\k=!kvs.isEmpty
 | _=>False
theorem zgC {κ:Type} {kvs:List (κ×V)} {vs:List (κ×Value)} (r:KV kvs vs):(!vs.isEmpty)=!kvs.isEmpty:=by
 cases r <;> rfl
theorem zdm {xs:List V} {its:List Value} (r:Vals xs its):(!its.toArray.isEmpty)=!xs.isEmpty:=by
 cases r <;> simp
theorem line63:(sizeLine:Nat) < 2 ^ 63:=by rw [sizeLine_eq]; decide
theorem zm4:TruR X (fun x H Q=>∃ k,TruV X.K x H k/\Q k H):=by
 intro pins s σ H x v Q I rx h
 obtain ⟨k,e,q⟩:=h
 have hl:=line63
 have hs:sizeLine=16777216:=sizeLine_eq
 cases x with
 | non=>
   cases rx
   have e':k=false:=e
   subst e'
   exact truthy_none ⟨H,I,q⟩
 | bl b=>
   cases rx
   have e':k=b:=e
   subst e'
   exact wpAny_truthy_bool ⟨H,I,q⟩
 | int i=>
   obtain ⟨t,rfl⟩:=rx
   have e':k=(i !=0):=e
   subst e'
   exact PySem.P.truthy_int ⟨H,I,q⟩
 | str y=>
   obtain ⟨t,rfl⟩:=rx
   obtain ⟨hy,e'⟩:y.length<=sizeLine/\k=((y.length:Int) !=0):=e
   subst e'
   exact PySem.P.truthy_str (by lia) ⟨H,I.tok _,q⟩
 | byt y=>
   obtain ⟨t,rfl⟩:=rx
   obtain ⟨hy,e'⟩:y.size<=sizeLine/\k=((y.size:Int) !=0):=e
   subst e'
   exact W.truthy_bytes (by lia) ⟨H,I.tok _,q⟩
 | ref p=>
   cases rx
   have e':(∃ xs,SqL X.K H p xs/\k=!xs.isEmpty)\/(∃ xs,SqT X.K H p xs/\k=!xs.isEmpty)\/∃ kvs,H p=some (.dK kvs)/\k=!kvs.isEmpty:=e
   rcases e' with ⟨xs,hx,e'⟩ | ⟨xs,hx,e'⟩ | ⟨kvs,hx,e'⟩
   ·subst e'
    obtain ⟨its,r,pl,hz⟩:=I.list hx
    have hlen:=r.length
    exact wpAny_truthy_list pl.isList (by simp only [size_toArray]; lia) ⟨H,I.tok _,by rw [zdm r]; exact q⟩
   ·subst e'
    obtain ⟨its,r,pl,hz⟩:=I.tuple hx
    have hlen:=r.length
    exact truthy_tuple pl (by simp only [size_toArray]; lia) ⟨H,I.tok _,by rw [zdm r]; exact q⟩
   ·subst e'
    obtain ⟨hz,hS,vs,r,m⟩:kvs.length<=sizeLine/\(p == sysModules)=false/\∃ vs,KV kvs vs/\s.heap.DictOf (mixKind X.prog X.w) p vs:=I.hok p _ hx
    have hlen:kvs.length=vs.length:=Paired.length r
    exact wpAny_truthy_dict hS m (by lia) ⟨H,I.tok _,by rw [zgC r]; exact q⟩
 | _=>exact (show False from e).elim
theorem zjR (ha:PE X a ta) (he:∀ whole,isTrue a X.env whole=(do let v <- whole; standAt a.pos; holding [v] (truthy v))):
  PT X a (fun σ H Q=>ta σ H fun x H'=>∃ k,TruV X.K x H' k/\Q k H'):=by
 intro pins s σ H Q I h
 exact isTrue_plain (thn (ha pins s σ H _ I h) fun v s1 ⟨x,H1,I1,r1,q1⟩=>zm4 pins s1 σ H1 x v Q I1 r1 q1) (he _)
theorem zgj:OpR X (binaryOp .Add) (fun x y H Q=>∃ i j,x=.str i/\y=.str j/\i.length + j.length<=sizeLine/\Q (.str (i++j)) H):=by
 intro pins s σ H x y v u Q I rx ry h
 obtain ⟨i,j,rfl,rfl,hz,q⟩:=h
 obtain ⟨t,rfl⟩:=rx
 obtain ⟨t',rfl⟩:=ry
 exact add_str (fun t' tk=>⟨.str (i++j),H,I.tok _,⟨_,rfl⟩,q⟩) hz
theorem vals1 {x:V} {us:List Value} (r:Vals [x] us):∃ u,us=[u]/\RelV x u:=by
 cases r with
 | cons r1 r2=>cases r2; exact ⟨_,rfl,r1⟩
theorem vals2 {x y:V} {us:List Value} (r:Vals [x,y] us):∃ u w',us=[u,w']/\RelV x u/\RelV y w':=by
 cases r with
 | cons r1 r2=>
   cases r2 with
   | cons r3 r4=>cases r4; exact ⟨_,_,rfl,r1,r3⟩
theorem zhZ (hc:X.calm=true):CallR X (.builtin "max") (fun xs H Q=>∃ i j,xs=[.int i,.int j]/\Q (.int (if j > i then j else i)) H):=by
 intro pins s σ H xs us Q I r h
 obtain ⟨i,j,rfl,q⟩:=h
 obtain ⟨u,w',rfl,⟨t,rfl⟩,⟨t',rfl⟩⟩:=vals2 r
 refine max_two_ints (I.ok.hd hc) fun h' tk k=>⟨_,H,I.kept k,?_,q⟩
 by_cases hj:j > i
 ·rw [if_pos hj,if_pos hj]; exact ⟨_,rfl⟩
 ·rw [if_neg hj,if_neg hj]; exact ⟨_,rfl⟩
theorem ziq (hc:X.calm=true):CallR X (.builtin "min") (fun xs H Q=>∃ i j,xs=[.int i,.int j]/\Q (.int (if j < i then j else i)) H):=by
 intro pins s σ H xs us Q I r h
 obtain ⟨i,j,rfl,q⟩:=h
 obtain ⟨u,w',rfl,⟨t,rfl⟩,⟨t',rfl⟩⟩:=vals2 r
 refine min_two_ints (I.ok.hd hc) fun h' tk k=>⟨_,H,I.kept k,?_,q⟩
 by_cases hj:j < i
 ·rw [if_pos hj,if_pos hj]; exact ⟨_,rfl⟩
 ·rw [if_neg hj,if_neg hj]; exact ⟨_,rfl⟩
theorem zht:CallR X (.type "int") (fun xs H Q=>(∃ i,xs=[.int i]/\Q (.int i) H)\/∃ k,xs=[.bl k]/\Q (.int (if k then 1 else 0)) H):=by
 intro pins s σ H xs us Q I r h
 rcases h with ⟨i,rfl,q⟩ | ⟨k,rfl,q⟩
 ·obtain ⟨u,rfl,t,rfl⟩:=vals1 r
  exact call_int_int ⟨.int i,H,I,⟨_,rfl⟩,q⟩
 ·obtain ⟨u,rfl,r1⟩:=vals1 r
  cases r1
  exact call_int_bool ⟨.int (if k then 1 else 0),H,I.tok _,⟨_,rfl⟩,q⟩
end
end L2
namespace L2
open PySem PySem.Spec PyProof.Rows
structure ObjM (h:Heap) (x dx C:Addr) (mA:Str->Option Value):Prop where
 obj:h.get? x=some (W.instObj C dx)
 ns:h.Ns1 dx mA
 ne:dx≠x
theorem zhV {h:Heap} {dx:Addr} {mA:Str->Option Value} (n:h.Ns1 dx mA):∃ od,h.get? dx=some od/\∀ name,W.lookIn name od=some (mA name):=by
 obtain ⟨o,es,ep,ho,hd,hk,_,hm⟩:=n
 refine ⟨o,ho,fun name=>?_⟩
 have e:=hm name
 unfold nsFind findBy at e
 rw [<- Array.find?_toList] at e
 unfold W.lookIn
 rw [hd]
 dsimp only
 split
 ·rename_i y q
  rw [q] at e
  exact congrArg some e
 ·rename_i q
  rw [q] at e
  have a:es.toList.any (·.refKey)=false:=by
   rw [List.any_eq_false]
   intro y hy
   obtain ⟨z,t,hkey⟩:=hk y (mem_toList_iff.mp hy)
   simp [DictEntry.refKey,hkey]
  have a':¬ es.toList.any (·.refKey)=true:=by rw [a]; exact Bool.false_ne_true
  rw [if_neg a']
  exact congrArg some e
theorem ObjM.look {h:Heap} {x dx C:Addr} {mA:Str->Option Value} (I:ObjM h x dx C mA):∃ od,W.InstAt h x (W.instObj C dx) C (some od)/\∀ name,W.lookIn name od=some (mA name):=
 let ⟨od,ho,hl⟩:=zhV I.ns
 ⟨od,⟨I.obj,rfl,rfl,ho⟩,hl⟩
theorem RelO.some_of {v:V} {o:Option Value} (r:RelO (some v) o):∃ u,o=some u/\RelV v u:=by
 cases o with
 | none=>exact (show False from r).elim
 | some u=>exact ⟨u,rfl,r⟩
section
variable {P:Program} {w:World} {H H':Hp} {h h':Heap} {a C dx:Addr} {fs fs':List (Str×V)}
theorem zkQ (hok:HOk P w H h) (e:H a=some (.ins C dx fs)):∃ mA,ObjM h a dx C mA/\(∀ f,RelO (fs.lookup f) (mA f))/\PySem.Within mA (fs.map (·.1))/\fs.length<=1000/\H dx=some (.own a):=by
 obtain ⟨d,z,ne,ob,mA,n,r,q⟩:=(show ObjOk P w H h a (.ins C dx fs) from hok a _ e)
 exact ⟨mA,⟨ob,n,ne⟩,r,q,z,d⟩
end
structure Cls (K:W.Frag) (C:Addr):Prop where
 pg:W.plainGet K C Str.empty=true
 hd:W.hasDictIn K C=true
 po:W.plainOver K C=true
 sa:W.findIn K (.ref C) "__setattr__"=some (some (.builtin "object.__setattr__"))
theorem Cls.get {K:W.Frag} {C:Addr} (c:Cls K C) (f:Str):W.plainGet K C f=true:=c.pg
section
variable {X:Cx} {pins:List (Addr×Obj)} {σ:St} {H:Hp} {s:Shared} {A:Around} {E:Value->Shared->Prop} {Q:Value->Shared->Prop} {c:Value} {b:Bool}
inductive TyOf (K:W.Frag) (H:Hp):V->Value->Prop where
 | non:TyOf K H .non (.type "NoneType")
 | bl (x:Bool):TyOf K H (.bl x) (.type "bool")
 | int (i:Int):TyOf K H (.int i) (.type "int")
 | str (x:Str):TyOf K H (.str x) (.type "str")
 | flt (x:UInt64):TyOf K H (.flt x) (.type "float")
 | lst {a:Addr} {xs:List V} (e:H a=some (.lst xs)):TyOf K H (.ref a) (.type "list")
 | frz {a:Addr} {o:Obj} {xs:List V} (e:H a=some (.frz o (.lst xs))):TyOf K H (.ref a) (.type "list")
 | tup {a:Addr} {xs:List V} (e:H a=some (.tup xs)):TyOf K H (.ref a) (.type "tuple")
 | dK {a:Addr} {kvs:List (Key×V)} (e:H a=some (.dK kvs)):TyOf K H (.ref a) (.type "dict")
 | dT {a:Addr} {kvs:List (List Key×V)} (e:H a=some (.dT kvs)):TyOf K H (.ref a) (.type "dict")
 | ins {a C dx:Addr} {fs:List (Str×V)} (e:H a=some (.ins C dx fs)) (cl:Cls K C) (ha:W.findIn K (.ref C) "__class__"=some (some (.builtin "object.__class__")))
   (hn:W.specialIn K (.builtin "object.__class__") "__get__"=some (some (.builtin "getset_descriptor.__get__"))) (htk:W.takesIn K (.builtin "object.__class__")=some true)
   (hm:W.mroIn K C (.type "object")=some true):TyOf K H (.ref a) (.ref C)
theorem zaP {x:V} {u t:Value} (I:Inv X pins σ H s) (rx:RelV x u) (ty:TyOf X.K H x t) (e:W.kitOne X.K t c=some b) (h:∀ tk,Q (.bool b) { s with toks:=tk }):
  wpAny (model X.prog X.w) A (call (.builtin "isinstance") [u,c]) Q E s:=by
 cases ty with
 | non=>cases (show u=Value.none from rx); exact W.kia_one W.kitx_none I.kIn True.intro e (fun z=>nomatch z) h
 | bl y=>cases (show u=Value.bool y from rx); exact W.kia_one W.kitx_bool I.kIn True.intro e (fun z=>nomatch z) h
 | int i=>obtain ⟨t,q⟩:=(show ∃ t,u=Value.int i t from rx); cases q; exact W.kia_one W.kitx_int I.kIn True.intro e (fun z=>nomatch z) h
 | str y=>obtain ⟨t,q⟩:=(show ∃ t,u=Value.str y t from rx); cases q; exact W.kia_one W.kitx_str I.kIn True.intro e (fun z=>nomatch z) h
 | flt y=>obtain ⟨t,q⟩:=(show ∃ t,u=Value.float y t from rx); cases q; exact W.kia_one W.kitx_float I.kIn True.intro e (fun z=>nomatch z) h
 | @lst a xs ea=>
   cases (show u=Value.ref a from rx)
   obtain ⟨_,_,n,_,h1⟩:=(show ObjOk X.prog X.w H s.heap a (.lst xs) from I.hok a _ ea)
   exact W.kia_one W.kitx_list I.kIn ⟨_,h1,rfl⟩ e (fun z=>nomatch z) h
 | @frz a ob xs ea=>
   cases (show u=Value.ref a from rx)
   obtain ⟨_,_,_,n,_,h1⟩:=(show ObjOk X.prog X.w H s.heap a (.frz ob (.lst xs)) from I.hok a _ ea)
   exact W.kia_one W.kitx_list I.kIn ⟨_,h1,rfl⟩ e (fun z=>nomatch z) h
 | @tup a xs ea=>
   cases (show u=Value.ref a from rx)
   obtain ⟨_,_,_,p⟩:=(show ObjOk X.prog X.w H s.heap a (.tup xs) from I.hok a _ ea)
   obtain ⟨o,h1,h2,_⟩:=p
   exact W.kia_one W.kitx_tuple I.kIn ⟨o,h1,h2⟩ e (fun z=>nomatch z) h
 | @dK a kvs ea=>
   cases (show u=Value.ref a from rx)
   obtain ⟨_,_,vs,_,p⟩:=(show ObjOk X.prog X.w H s.heap a (.dK kvs) from I.hok a _ ea)
   obtain ⟨o,es,ep,h1,h2,_⟩:=p
   exact W.kia_one W.kitx_dict I.kIn ⟨o,h1,h2.1⟩ e (fun z=>nomatch z) h
 | @dT a kvs ea=>
   cases (show u=Value.ref a from rx)
   obtain ⟨_,_,xs,_,o,es,ep,h1,h2,_⟩:=(show ObjOk X.prog X.w H s.heap a (.dT kvs) from I.hok a _ ea)
   exact W.kia_one W.kitx_dict I.kIn ⟨o,h1,h2.1⟩ e (fun z=>nomatch z) h
 | @ins a C dx fs ea cl ha hn htk hm=>
   cases (show u=Value.ref a from rx)
   obtain ⟨mA,O,_⟩:=zkQ I.hok ea
   obtain ⟨od,J,_⟩:=O.look
   exact W.kia_one (W.kitx_own (cl.get _) cl.hd ha hn htk hm) I.kIn J e (fun z=>nomatch z) h
end
end L2
namespace L2
open PySem PySem.Spec PyProof.Rows
structure Room (k:Nat) (A:Around):Prop where
 hd:A.handled=none
 dp:A.depth + 3 * k + 5 < recursionLimit
 un:A.units + 16 * k + 200 < cLine
 gd:A.guards=some []
theorem Room.mono {j k:Nat} {A:Around} (r:Room k A) (h:j<=k):Room j A:=⟨r.hd,by have:=r.dp; lia,by have:=r.un; lia,r.gd⟩
theorem Room.deeper {k:Nat} {A:Around} (r:Room (k + 1) A) (env:Env):Room k (A.deeper env):=
 ⟨r.hd,by have:=r.dp; show A.depth + 1 + 3 * k + 5 < _; lia,by have:=r.un; show A.units + 3 + 16 * k + 200 < _; lia,r.gd⟩
theorem Room.depth {k:Nat} {A:Around} (r:Room k A):A.depth < recursionLimit:=by have:=r.dp; lia
theorem Room.units {k:Nat} {A:Around} (r:Room k A):A.units + 64 < cLine:=by have:=r.un; lia
def tNil:TA:=fun _ H Q=>Q [] H
def tCons (ta:TE) (tr:TA):TA:=fun σ H Q=>ta σ H fun x H1=>tr σ H1 fun xs H2=>Q (x::xs) H2
section
variable {X:Cx} {e:Expr} {es:List Expr} {te:TE} {t:TA} {pos:Pos}
theorem znB:PA X [] tNil:=fun _ _ _ _ H Q I h=>Calls.spliced_nil ⟨[],H,I,.nil,h⟩
theorem zlI (ha:PE X e te) (hr:PA X es t) (hs:starEach (e::es) X.env=(false,eval e X.env)::starEach es X.env:=by rfl):PA X (e::es) (tCons te t):=by
 intro pos pins s σ H Q I h
 rw [hs]
 show wpAny _ _ (spliced ((false,eval e X.env)::backTo pos (starEach es X.env))) _ _ s
 refine Calls.spliced_cons (thn (ha pins s σ H _ I h) fun u s1 ⟨x,H1,I1,r1,q1⟩=>?_)
 exact thn (hr pos pins s1 σ H1 _ I1 q1) fun us s2 ⟨xs,H2,I2,r2,q2⟩=>⟨x::xs,H2,I2,.cons r1 r2,q2⟩
def tTup (t:TA):TE:=fun σ H Q=>t σ H fun xs H1=>xs.length<=sizeLine/\∀ p,H1 p=none->Q (.ref p) (upd H1 p (.tup xs))
def tLst (t:TA):TE:=fun σ H Q=>t σ H fun xs H1=>xs.length<=sizeLine/\∀ p,H1 p=none->Q (.ref p) (upd H1 p (.lst xs))
theorem zlZ {x1} (h:PA X es t):PE X (.Tuple es x1 pos) (tTup t):=by
 intro pins s σ H Q I hq
 refine wpAny_Tuple_spliced (thn (h pos pins s σ H _ I hq) fun us s1 ⟨xs,H1,I1,r,z,q⟩=>⟨by rw [<- r.length]; exact z,?_⟩)
 have hf:H1 s1.heap.objs.size=none:=I1.hok.fresh (le_refl _)
 refine ⟨.ref s1.heap.objs.size,upd H1 s1.heap.objs.size (.tup xs),I1.laid (t':=s1.toks) (fun b u e=>qc _ e) (le_refl _) ?_,rfl,q _ hf⟩
 exact ⟨z,us,r,⟨_,qd _ rfl,rfl,_,rfl⟩⟩
theorem zm3 (h:PA X es t):PE X (.List es pos) (tLst t):=by
 intro pins s σ H Q I hq
 refine wpAny_List_spliced (thn (h pos pins s σ H _ I hq) fun us s1 ⟨xs,H1,I1,r,z,q⟩=>⟨by rw [<- r.length]; exact z,?_⟩)
 have hf:H1 s1.heap.objs.size=none:=I1.hok.fresh (le_refl _)
 refine ⟨.ref s1.heap.objs.size,upd H1 s1.heap.objs.size (.lst xs),I1.laid (t':=s1.toks) (fun b u e=>qc _ e) (le_refl _) ?_,rfl,q _ hf⟩
 exact ⟨z,us,0,r,qd _ rfl⟩
end
abbrev Sp:=List V->Hp->VK->XK->Prop
abbrev CXT:=List Env->Hp->Shared->XK->Value->Shared->Prop
structure Env0 (P:Program) (w:World) (K:W.Frag) (mg:Str->Option Value) (base:Heap) (A:Around) (outer:List Env) (s:Shared) (H:Hp):Prop where
 frames:A.frames=some outer
 mod:Mod K mg base
 bs:∀ b o,base.get? b=some o->s.heap.get? b=some o/\H b=none
 bsz:base.objs.size<=s.heap.objs.size
 funs:s.heap.FunFrames base outer
 frf:∀ b∈frs outer,H b=none
 hok:HOk P w H s.heap
 bare:AllBare s.gens
def CE (outer:List Env) (P:Program) (w:World) (H:Hp) (s:Shared) (Q:VK) (u:Value) (s':Shared):Prop:=
 ∃ v H',s'.os=s.os/\AllBare s'.gens/\Un (frs outer) [] H H' s.heap s'.heap/\HOk P w H' s'.heap/\RelV v u/\Q v H'
def CR (CX:CXT) (outer:List Env) (P:Program) (w:World) (H:Hp) (s:Shared) (Q:VK) (E:XK) (r:Result) (s':Shared):Prop:=
 match r with
 | .ok (.ret u)=>CE outer P w H s Q u s'
 | .ok _=>False
 | .error e=>CX outer H s E e s'
structure FnOk (P:Program) (w:World) (K:W.Frag) (mg:Str->Option Value) (base:Heap) (CX:CXT) (k:Nat) (f:Addr) (fd:FuncData) (ps:List Str) (sp:Sp):Prop where
 len:∀ vs H Q E,sp vs H Q E->vs.length=ps.length
 run:∀ (A:Around) (outer:List Env) (s:Shared) (H:Hp) (args:Args) (us:List Value) (vs:List V) (Q:VK) (E:XK),Room k A->Env0 P w K mg base A outer s H->BindsTo s fd args (ps.zip us)->Vals vs us->sp vs H Q E->
  codeAny (model P w) A (.call (.ref f) args) (CR CX outer P w H s Q E) s
section
variable {X:Cx} {pins:List (Addr×Obj)} {σ:St} {H:Hp} {s s':Shared}
theorem Inv.env0 (I:Inv X pins σ H s):Env0 X.prog X.w X.K X.mg X.base X.A X.stack s H:=
 ⟨I.ok.frames,I.ok.mod,I.bs,le_trans I.ok.bsz I.sz,I.stack,I.stkFree,I.hok,I.bare⟩
theorem Inv.after {Q:VK} {u:Value} (I:Inv X pins σ H s) (h:CE X.stack X.prog X.w H s Q u s'):EP X pins σ Q u s':=by
 obtain ⟨v,H',os,bare,un,hok,r,q⟩:=h
 obtain ⟨hh,g,d,t,os'⟩:=s'
 obtain rfl:os'=s.os:=os
 exact ⟨v,H',I.call (h':=hh) (g':=g) (d':=d) (t':=t) (ch:=[]) un hok bare (fun b z=>absurd z (by simp)),r,q⟩
end
def tCall (sp:Sp) (dvs:List V) (E:XK) (t:TA):TE:=fun σ H Q=>t σ H fun vs H1=>sp (vs++dvs) H1 Q E
def Binds (K:W.Frag) (fd:FuncData) (ps:List Str) (ds:List Value):Prop:=
 ∀ (s:Shared) (us:List Value),K.In s.heap->(us++ds).length=ps.length->BindsTo s fd ⟨us,[]⟩ (ps.zip (us++ds))
theorem Binds.all {K:W.Frag} {fd:FuncData} {ps:List Str} (h:∀ us:List Value,us.length=ps.length->bindArgs fd ⟨us,[]⟩=pure (ps.zip us)):Binds K fd ps []:=fun s us _ hl=>by
 rw [append_nil] at hl ⊢
 exact .of_eq (h us hl)
def Passes (CX:CXT) (X:Cx) (E:XK):Prop:=∀ (pins:List (Addr×Obj)) (σ:St) (H:Hp) (s:Shared) (e:Value) (s':Shared),Inv X pins σ H s->CX X.stack H s E e s'->X.xe e s'
section
variable {X:Cx} {CX:CXT} {k:Nat} {f C:Addr} {fd:FuncData} {ps:List Str} {sp:Sp} {dvs:List V} {ds:List Value} {E:XK} {x m:Str} {p pos apos:Pos} {e o:Expr} {es:List Expr} {ta:TE} {t:TA}
theorem zmZ {pins:List (Addr×Obj)} {σ:St} {H:Hp} {s:Shared} {Q:VK} {us:List Value} {vs:List V} (F:FnOk X.prog X.w X.K X.mg X.base CX k f fd ps sp) (hr:Room k X.A) (hb:Binds X.K fd ps ds) (hd:Vals dvs ds) (hx:Passes CX X E)
  (I:Inv X pins σ H s) (r:Vals vs us) (h:sp (vs++dvs) H Q E):wpAny (model X.prog X.w) X.A (call (.ref f) us) (EP X pins σ Q) X.xe s:=by
 have r2:Vals (vs++dvs) (us++ds):=r.append hd
 have hl:(us++ds).length=ps.length:=by rw [<- r2.length]; exact F.len _ _ _ _ h
 refine wpAny_call (codeAny_mono (F.run X.A X.stack s H ⟨us,[]⟩ (us++ds) (vs++dvs) Q E hr I.env0 (hb s us I.kIn hl) r2 h) fun r s' hq=>?_)
 cases r with
 | error e=>exact hx pins σ H s e s' I hq
 | ok fl=>
   cases fl with
   | ret u=>exact I.after hq
   | next=>exact False.elim hq
   | brk=>exact False.elim hq
   | cont=>exact False.elim hq
theorem zlp (F:FnOk X.prog X.w X.K X.mg X.base CX k f fd ps sp) (hr:Room k X.A) (hg:Gl X x) (hm:X.mg x=some (.ref f)) (hk:W.keepIn X.K (.ref f)=true) (hb:Binds X.K fd ps ds) (hd:Vals dvs ds) (hx:Passes CX X E)
  (ha:PA X (e::es) t) (hdb:(x == ("__debug__":Str))=false:=by decide) (he:starEach (e::es) X.env=(false,eval e X.env)::starEach es X.env:=by rfl) (hpl:(backTo pos (starEach es X.env)).any (·.1)=false:=by rfl):
  PE X (.Call (.Name x p) (e::es) [] pos) (tCall sp dvs E t):=by
 intro pins s σ H Q I h
 refine wpAny_Call_Name_kw (zk9 I hg hm ?_ hdb)
 refine W.callWith_K (h₀:=X.base) I.ok.mod.kin hk (thn (ha pos pins s σ H _ I h) fun us s1 ⟨vs,H1,I1,r,q⟩=>⟨I1.kIn,?_⟩) he hpl
 exact zmZ F hr hb hd hx I1 r q
end
section
variable {X:Cx} {CX:CXT} {k:Nat} {f C:Addr} {fd:FuncData} {ps ks:List Str} {sp:Sp} {E:XK} {x m:Str} {p pos apos kpos:Pos} {e o:Expr} {es:List Expr} {kws:List Keyword} {te ta:TE} {t tk:TA} {nm:Option Str}
variable {g:List Value->List Value->List Value} {gV:List V->List V->List V}
end
structure FnScope (N P:List Str) (sc:Scope):Prop where
 kind:sc.kind=.function
 co:sc.isCoroutine=false
 gen:sc.isGenerator=false
 nd:N.Nodup
 pre:N.take P.length=P
 par:∀ x∈P,sc.names.lookup x=some .local\/sc.names.lookup x=some .cell
 nofree:∀ y∈sc.names,y.2≠.free
theorem zd9 {kindOf:Str->Option NameKind} {x:Str}:∀ {binds:List (Str×Value)} {m:Str->Option Value},(∀ v,(x,v)∉binds)->bindL kindOf binds m x=m x
 | [],_,_=>rfl
 | (n,v)::r,m,h=>by
   unfold bindL
   rw [zd9 fun w hw=>h w (qo _ hw)]
   split
   ·have:x≠n:=by rintro rfl; exact h v qp
    simp [this]
   ·rfl
theorem zd5 {kindOf:Str->Option NameKind} {x:Str}:∀ {binds:List (Str×Value)} {m:Str->Option Value},(∀ v,(x,v)∉binds)->bindC kindOf binds m x=m x
 | [],_,_=>rfl
 | (n,v)::r,m,h=>by
   unfold bindC
   rw [zd5 fun w hw=>h w (qo _ hw)]
   split
   ·rfl
   ·have:x≠n:=by rintro rfl; exact h v qp
    simp [this]
theorem zee {kindOf:Str->Option NameKind} {x:Str} {v:Value}:∀ {P:List Str} {vs:List Value} {i:Nat} {m:Str->Option Value},P.Nodup->P[i]?=some x->vs[i]?=some v->kindOf x=some .local->
  bindL kindOf (P.zip vs) m x=some v
 | [],_,_,_,_,h,_,_=>by simp at h
 | _::_,[],_,_,_,_,h,_=>by simp at h
 | p::P,w::vs,0,m,nd,h1,h2,hk=>by
   simp at h1 h2; subst h1; subst h2
   show bindL kindOf ((p,w)::P.zip vs) m p=_
   unfold bindL
   rw [zd9 fun v hv=>(nodup_cons.mp nd).1 (of_mem_zip hv).1,if_pos hk]
   simp
 | p::P,w::vs,i + 1,m,nd,h1,h2,hk=>by
   show bindL kindOf ((p,w)::P.zip vs) m x=_
   unfold bindL
   exact zee (i:=i) (nodup_cons.mp nd).2 (by simpa using h1) (by simpa using h2) hk
theorem zeG {kindOf:Str->Option NameKind} {x:Str} {v:Value}:∀ {P:List Str} {vs:List Value} {i:Nat} {m:Str->Option Value},P.Nodup->P[i]?=some x->vs[i]?=some v->kindOf x≠some .local->
  bindC kindOf (P.zip vs) m x=some v
 | [],_,_,_,_,h,_,_=>by simp at h
 | _::_,[],_,_,_,_,h,_=>by simp at h
 | p::P,w::vs,0,m,nd,h1,h2,hk=>by
   simp at h1 h2; subst h1; subst h2
   show bindC kindOf ((p,w)::P.zip vs) m p=_
   unfold bindC
   rw [zd5 fun v hv=>(nodup_cons.mp nd).1 (of_mem_zip hv).1,if_neg hk]
   simp
 | p::P,w::vs,i + 1,m,nd,h1,h2,hk=>by
   show bindC kindOf ((p,w)::P.zip vs) m x=_
   unfold bindC
   exact zeG (i:=i) (nodup_cons.mp nd).2 (by simpa using h1) (by simpa using h2) hk
def start (N:List Str) (vs:List V):St:=vs.map some++List.replicate (N.length - vs.length) none
def cxOf (CX:CXT) (P:Program) (w:World) (K:W.Frag) (mg:Str->Option Value) (base:Heap) (N:List Str) (qual:Str) (scope:Scope) (f:Addr) (cd:Value) (A:Around) (outer:List Env) (s:Shared) (H:Hp) (E:XK):Cx where
 prog:=P
 w:=w
 K:=K
 mg:=mg
 base:=base
 A:=A.deeper (envOfC qual scope s.heap.objs.size f cd)
 N:=N
 s₀:=s
 H₀:=H
 env:=envOfC qual scope s.heap.objs.size f cd
 outer:=outer
 stack:=envOfC qual scope s.heap.objs.size f cd::outer
 ex:=[]
 calm:=true
 fn:=fun _=>true
 pn:=[]
 xe:=fun e s'=>wpAny (model P w) (A.deeper (envOfC qual scope s.heap.objs.size f cd)) (leaving (envOfC qual scope s.heap.objs.size f cd) e) (fun _ s''=>CX outer H s E e s'') (fun e' s''=>CX outer H s E e' s'') s'
theorem zfP {sc:Scope} {n:Nat} {x:Str} (h:sc.names.lookup x=some .cell):∃ c,(cellsFrom n sc.names []).lookup x=some c:=by
 have q:=W.cellsFrom_some sc.names n [] (.inl h)
 exact isSome_iff_exists.mp q
theorem ziv {CX:CXT} {P:Program} {w:World} {K:W.Frag} {mg:Str->Option Value} {base:Heap} {N ps:List Str} {qual:Str} {scope:Scope} {f:Addr} {cd:Value} {A:Around} {outer:List Env} {s s1:Shared} {H:Hp} {E:XK} {us:List Value} {vs:List V}
  (S:FnScope N ps scope) (hd:A.handled=none) (e0:Env0 P w K mg base A outer s H) (hl:vs.length=ps.length) (r:Vals vs us)
  (x:InCallC s s.heap.objs.size (bindL (envOfC qual scope s.heap.objs.size f cd).kindOf (ps.zip us) fun _=>none) (cellsFrom (s.heap.objs.size + 1) scope.names []) (bindC (envOfC qual scope s.heap.objs.size f cd).kindOf (ps.zip us) fun _=>none) s1):
  Inv (cxOf CX P w K mg base N qual scope f cd A outer s H E) [] (start N vs) H s1:=by
 have hpl:ps.length<=N.length:=by have:=congrArg List.length S.pre; rw [length_take] at this; lia
 obtain ⟨h1,tk,rfl,hk⟩:=x.done
 have noA:∀ b:Addr,b∉(cxOf CX P w K mg base N qual scope f cd A outer s H E).ex:=fun b z=>absurd (show b∈([]:List Addr) from z) (by simp)
 refine ⟨⟨e0.mod,S.kind,rfl,rfl,le_refl _,fun y z c h1 h2=>?_,fun y hy=>?_,fun y c _ h=>?_,fun _=>hd,Around.frames_deeper e0.frames,.inr ⟨rfl,rfl⟩,fun b z=>absurd z (noA b),e0.bs,e0.bsz,fun b _ _=>noA b,fun b z=>absurd z (noA b),e0.funs,e0.frf⟩,
  rfl,e0.bare,Un.kept hk,⟨_,x.toInCall.ns,fun i y v h1 h2 h3=>?_⟩,fun y c h=>⟨_,x.cell y c h⟩,e0.hok.fresh (le_refl _),fun y c h=>?_,fun p hp=>absurd (show p∈([]:List (Addr×Obj)) from hp) (by simp),e0.hok.kept hk,?_⟩
 ·exact name_of_addr x.apart (PySem.mem_of_lookup h1) (PySem.mem_of_lookup h2)
 ·have hy:scope.names.lookup y=some .cell\/scope.names.lookup y=some .free:=hy
  rcases hy with hy | hy
  ·exact zfP hy
  ·exact absurd rfl (S.nofree _ (PySem.mem_of_lookup hy))
 ·exact le_of_lt (x.above y c (PySem.mem_of_lookup h))
 ·have hi:i < vs.length:=by
   unfold start at h2
   by_cases hi:i < vs.length
   ·exact hi
   ·rw [getElem?_append_right (by simpa using hi)] at h2
    rw [List.getElem?_replicate] at h2
    split at h2 <;> cases h2
  have ha:vs[i]?=some v:=by
   unfold start at h2
   rw [getElem?_append_left (by simpa using hi),getElem?_map] at h2
   cases e:vs[i]? with
   | none=>rw [e] at h2; cases h2
   | some a=>rw [e] at h2; cases h2; rfl
  obtain ⟨u,hu,rv⟩:=r.get ha
  have hp:ps[i]?=some y:=by
   rw [<- S.pre,List.getElem?_take_of_lt (by lia)]; exact h1
  have ndP:ps.Nodup:=by rw [<- S.pre]; exact S.nd.sublist (List.take_sublist _ _)
  refine ⟨u,rv,?_⟩
  rcases S.par y (mem_of_getElem? hp) with k | k
  ·exact .inl ⟨k,zee ndP hp hu k⟩
  ·obtain ⟨c,e⟩:=zfP (n:=s.heap.objs.size + 1) k
   refine .inr ⟨.inl k,c,e,?_⟩
   have q:=x.cell y c e
   rw [zeG ndP hp hu (by show scope.names.lookup y≠_; rw [k]; decide)] at q
   exact q
 ·exact e0.hok.fresh (le_of_lt (x.above y c (PySem.mem_of_lookup h)))
 ·unfold start
  show _=N.length
  rw [length_append,length_map,List.length_replicate]
  lia
theorem zq2 {CX:CXT} {P:Program} {w:World} {K:W.Frag} {mg:Str->Option Value} {base:Heap} {k:Nat} {f:Addr} {name qual:Str} {params:Arguments} {body:List Stmt} {scope:Scope} {dV kV doc pm cdv ct oc:Value} {an od:Option Addr}
  {osl:Array (Option Value)} {N ps:List Str} {sp:Sp} (lk:K.lookup f=some ⟨oc,od,.func (W.fnOf name qual params body scope dV kV doc pm an cdv ct),osl⟩) (hcd:W.codeIn K cdv qual=true) (S:FnScope N ps scope)
  (len:∀ vs H Q E,sp vs H Q E->vs.length=ps.length)
  (hbody:∀ (A:Around) (outer:List Env) (s:Shared) (H:Hp) (vs:List V) (Q:VK) (E:XK),Room k (A.deeper (envOfC qual scope s.heap.objs.size f cdv))->sp vs H Q E->
   ∃ t,PSs (cxOf CX P w K mg base N qual scope f cdv A outer s H E) body t/\t { nx:=fun _ H'=>Q .non H',rt:=Q } (start N vs) H):
  FnOk P w K mg base CX (k + 1) f (W.fnOf name qual params body scope dV kV doc pm an cdv ct) ps sp:=by
 refine ⟨len,fun A outer s H args us vs Q E hr e0 hb r hsp=>?_⟩
 have hl:=len _ _ _ _ hsp
 have KX:K.In s.heap:=e0.mod.kin.keeps fun b o e=>(e0.bs b o e).1
 have lim:s.heap.NoLimit:=e0.mod.nolimit.keeps fun b o e=>(e0.bs b o e).1
 have hkind:∀ y∈ps.zip us,scope.names.lookup y.1=some .local\/(scope.names.lookup y.1=some .cell/\((cellsFrom (s.heap.objs.size + 1) scope.names []).lookup y.1).isSome=true):=fun ⟨n,v⟩ hy=>by
  rcases S.par n (of_mem_zip hy).1 with q | q
  ·exact .inl q
  ·exact .inr ⟨q,W.cellsFrom_some _ _ _ (.inl q)⟩
 refine codeAny_call_function hr.depth (KX _ _ lk) rfl S.co S.gen rfl (W.codeRec_of KX hcd) (hb _ _ _ _ ?_)
 refine wpAny_newFunctionEnv_cells S.kind hkind fun env he s1 x=>?_
 subst he
 refine ⟨lim.keeps x.toInCall.keep,codeAny_func ?_⟩
 obtain ⟨t,ht,hq⟩:=hbody A outer s H vs Q E (hr.deeper _) hsp
 have I:Inv (cxOf CX P w K mg base N qual scope f cdv A outer s H E) [] (start N vs) H s1:=ziv S hr.hd e0 hl r x
 refine wpAny_mono (ht [] s1 (start N vs) H _ I hq) (fun fl s' hs=>?_) fun e s' hs=>hs
 have fin:∀ {σ':St} {H':Hp} {v:V} {u:Value},Inv (cxOf CX P w K mg base N qual scope f cdv A outer s H E) [] σ' H' s'->RelV v u->Q v H'->CE outer P w H s Q u s':=
  fun {σ' H' v u} J rv q=>⟨v,H',J.os,J.bare,J.base,J.hok,rv,q⟩
 cases fl with
 | ret u=>
   obtain ⟨v,σ',H',J,rv,q⟩:=hs
   exact fin J rv q
 | next=>
   obtain ⟨σ',H',J,q⟩:=hs
   exact fin (v:=V.non) (u:=Value.none) J rfl q
 | brk=>
   obtain ⟨_,_,_,q⟩:=hs
   exact False.elim q
 | cont=>
   obtain ⟨_,_,_,q⟩:=hs
   exact False.elim q
end L2
namespace L2
open PySem PySem.Spec PyProof.Rows
section
variable {X:Cx} {x:Str} {p pos:Pos} {e:Expr} {es:List Expr} {t:TA} {id T:String} {r:List V->Hp->VK->Prop}
def tCB (r:List V->Hp->VK->Prop) (t:TA):TE:=fun σ H Q=>t σ H fun vs H1=>r vs H1 Q
theorem zjV (hc:CallR X (.builtin id) r) (hg:Gl X x) (hm:X.mg x=none) (hv:bootBuiltins x=some (.builtin id)) (ha:PA X (e::es) t) (hn:x≠"__name__":=by decide) (hdb:(x == ("__debug__":Str))=false:=by decide)
  (he:starEach (e::es) X.env=(false,eval e X.env)::starEach es X.env:=by rfl) (hpl:(backTo pos (starEach es X.env)).any (·.1)=false:=by rfl):PE X (.Call (.Name x p) (e::es) [] pos) (tCB r t):=by
 intro pins s σ H Q I h
 refine wpAny_Call_Name_kw (zbF I hg hm hv ?_ hn hdb)
 exact PyProof.Rows.callWith_builtin1 (thn (ha pos pins s σ H _ I h) fun us s1 ⟨vs,H1,I1,r1,q1⟩=>hc pins s1 σ H1 vs us Q I1 r1 q1) he hpl
theorem zh1 (hc:CallR X (.type T) r) (hg:Gl X x) (hm:X.mg x=none) (hv:bootBuiltins x=some (.type T)) (ha:PA X (e::es) t) (hn:x≠"__name__":=by decide) (hdb:(x == ("__debug__":Str))=false:=by decide)
  (he:starEach (e::es) X.env=(false,eval e X.env)::starEach es X.env:=by rfl) (hpl:(backTo pos (starEach es X.env)).any (·.1)=false:=by rfl):PE X (.Call (.Name x p) (e::es) [] pos) (tCB r t):=by
 intro pins s σ H Q I h
 refine wpAny_Call_Name_kw (zbF I hg hm hv ?_ hn hdb)
 exact PyProof.Rows.callWith_type1 (thn (ha pos pins s σ H _ I h) fun us s1 ⟨vs,H1,I1,r1,q1⟩=>hc pins s1 σ H1 vs us Q I1 r1 q1) he hpl
end
section
variable {κ:Type} [DecidableEq κ]
def valV (kvs:List (κ×V)) (k:κ):Option V:=(kvs.find? fun kv=>decide (kv.1=k)).map (·.2)
def putK (kvs:List (κ×V)) (k:κ) (v:V):List (κ×V):=
 if (kvs.any fun kv=>decide (kv.1=k))=true then kvs.map (fun kv=>if kv.1=k then (kv.1,v) else kv) else kvs++[(k,v)]
theorem zbK {p:κ×V} {r:List (κ×V)} {k:κ} (e:p.1=k):valV (p::r) k=some p.2:=by simp [valV,find?_cons,e]
theorem zbZ {p:κ×V} {r:List (κ×V)} {k:κ} (e:¬ p.1=k):valV (p::r) k=valV r k:=by simp [valV,find?_cons,e]
theorem zgc (k:κ):∀ kvs:List (κ×V),(kvs.any fun kv=>decide (kv.1=k))=(valV kvs k).isSome
 | []=>rfl
 | p::r=>by
   rw [any_cons]
   by_cases e:p.1=k
   ·simp only [zbK e,decide_eq_true e,Bool.true_or,isSome_some]
   ·rw [zbZ e,decide_eq_false e,Bool.false_or]; exact zgc k r
theorem zbw (kvs:List (κ×V)) (k:κ) (v:V):(putK kvs k v).length<=kvs.length + 1:=by
 unfold putK
 split
 ·rw [length_map]; lia
 ·rw [length_append,length_cons,length_nil]; lia
theorem RelO.isSome_eq {o:Option V} {u:Option Value} (r:RelO o u):o.isSome=u.isSome:=by
 cases o with
 | none=>cases u with
   | none=>rfl
   | some _=>exact (show False from r).elim
 | some _=>cases u with
   | none=>exact (show False from r).elim
   | some _=>rfl
theorem RelO.getD {o:Option V} {u:Option Value} {d:V} {d':Value} (r:RelO o u) (rd:RelV d d'):RelV (o.getD d) (u.getD d'):=by
 cases o with
 | none=>cases u with
   | none=>exact rd
   | some _=>exact (show False from r).elim
 | some _=>cases u with
   | none=>exact (show False from r).elim
   | some _=>exact r
theorem KV.val {kvs:List (κ×V)} {vs:List (κ×Value)} (r:KV kvs vs) (k:κ):RelO (valV kvs k) (valueAt vs k):=by
 unfold KV at r
 induction r with
 | nil=>exact True.intro
 | @cons p q ps qs h t ih=>
   obtain ⟨h1,h2⟩:=h
   by_cases e:p.1=k
   ·have e':q.1=k:=h1.symm.trans e
    have b:valueAt (q::qs) k=some q.2:=by simp [valueAt,find?_cons,e']
    rw [zbK e,b]; exact h2
   ·have e':¬ q.1=k:=fun z=>e (h1.trans z)
    have b:valueAt (q::qs) k=valueAt qs k:=by simp [valueAt,find?_cons,e']
    rw [zbZ e,b]; exact ih
theorem KV.any {kvs:List (κ×V)} {vs:List (κ×Value)} (r:KV kvs vs) (k:κ):(kvs.any fun kv=>decide (kv.1=k))=vs.any fun kv=>decide (kv.1=k):=by
 unfold KV at r
 induction r with
 | nil=>rfl
 | cons h t ih=>rw [any_cons,any_cons,ih,h.1]
theorem KV.repl {kvs:List (κ×V)} {vs:List (κ×Value)} (r:KV kvs vs) (k:κ) {y:V} {u:Value} (ry:RelV y u):
  KV (kvs.map fun kv=>if kv.1=k then (kv.1,y) else kv) (vs.map fun kv=>if kv.1=k then (kv.1,u) else kv):=by
 unfold KV at r ⊢
 induction r with
 | nil=>exact .nil
 | @cons p q ps qs h t ih=>
   rw [map_cons,map_cons]
   refine .cons ?_ ih
   obtain ⟨h1,h2⟩:=h
   by_cases e:p.1=k
   ·rw [if_pos e,if_pos (h1.symm.trans e)]; exact ⟨h1,ry⟩
   ·rw [if_neg e,if_neg (fun z=>e (h1.trans z))]; exact ⟨h1,h2⟩
theorem KV.put {kvs:List (κ×V)} {vs:List (κ×Value)} (r:KV kvs vs) (k:κ) {y:V} {u:Value} (ry:RelV y u):KV (putK kvs k y) (stored vs k u):=by
 unfold putK stored
 rw [r.any k]
 by_cases e:(vs.any fun kv=>decide (kv.1=k))=true
 ·rw [if_pos e,if_pos e]; exact r.repl k ry
 ·rw [if_neg e,if_neg e]; exact Paired.snoc r ⟨rfl,ry⟩
theorem KV.length {kvs:List (κ×V)} {vs:List (κ×Value)} (r:KV kvs vs):kvs.length=vs.length:=Paired.length r
end
theorem zfu {P:Program} {w:World} {k:Key} {u:Value} (r:RelV (kV k) u):(mixKind P w).is k u=true:=by
 cases k with
 | inl i=>obtain ⟨t,e⟩:=(show ∃ t,u=Value.int i t from r); subst e; exact zfH P w i t
 | inr x=>obtain ⟨t,e⟩:=(show ∃ t,u=Value.str x t from r); subst e; exact zfx P w x t
theorem zei {P:Program} {w:World}:∀ {ks:List Key} {us:List Value},Vals (ks.map kV) us->ItemsAre (mixKind P w) ks us
 | [],_,r=>by rw [map_nil] at r; cases r; exact .nil
 | k::ks,_,r=>by
   rw [map_cons] at r
   cases r with
   | cons h t=>exact .cons (zfu h) (zei t)
abbrev KT (H:Hp):List (List Key×V)->List (List Key×Addr×Value)->Prop:=Paired fun p q=>p.1=q.1/\H q.2.1=some (.tup (p.1.map kV))/\RelV p.2 q.2.2
theorem KT.val {H:Hp} {kvs:List (List Key×V)} {xs:List (List Key×Addr×Value)} (r:KT H kvs xs) (k:List Key):RelO (valV kvs k) ((atKey xs k).map (·.2)):=by
 induction r with
 | nil=>exact True.intro
 | @cons p q ps qs h t ih=>
   obtain ⟨h1,_,h2⟩:=h
   by_cases e:p.1=k
   ·have e':q.1=k:=h1.symm.trans e
    have b:atKey (q::qs) k=some q.2:=by simp [atKey,find?_cons,e']
    rw [zbK e,b]; exact h2
   ·have e':¬ q.1=k:=fun z=>e (h1.trans z)
    have b:atKey (q::qs) k=atKey qs k:=by simp [atKey,find?_cons,e']
    rw [zbZ e,b]; exact ih
theorem KT.repl {H:Hp} {kvs:List (List Key×V)} {xs:List (List Key×Addr×Value)} (r:KT H kvs xs) (k:List Key) {y:V} {u:Value} (ry:RelV y u):
  KT H (kvs.map fun kv=>if kv.1=k then (kv.1,y) else kv) (xs.map (putAt k u)):=by
 induction r with
 | nil=>exact .nil
 | @cons p q ps qs h t ih=>
   rw [map_cons,map_cons]
   refine .cons ?_ ih
   obtain ⟨h1,h2,h3⟩:=h
   unfold putAt
   by_cases e:p.1=k
   ·rw [if_pos e,if_pos (h1.symm.trans e)]; exact ⟨h1,h2,ry⟩
   ·rw [if_neg e,if_neg (fun z=>e (h1.trans z))]; exact ⟨h1,h2,h3⟩
theorem KT.put {H:Hp} {kvs:List (List Key×V)} {xs:List (List Key×Addr×Value)} (r:KT H kvs xs) (k:List Key) {b:Addr} {y:V} {u:Value} (hb:H b=some (.tup (k.map kV))) (ry:RelV y u):
  KT H (putK kvs k y) (storedH xs k b u):=by
 have e:(kvs.any fun kv=>decide (kv.1=k))=(atKey xs k).isSome:=by
  rw [zgc,(r.val k).isSome_eq,isSome_map]
 unfold putK storedH
 rw [e]
 by_cases q:(atKey xs k).isSome=true
 ·rw [if_pos q,if_pos q]; exact r.repl k ry
 ·rw [if_neg q,if_neg q]; exact Paired.snoc r ⟨rfl,hb,ry⟩
theorem KT.keeps {H H':Hp} {kvs:List (List Key×V)} {xs:List (List Key×Addr×Value)} (r:KT H kvs xs) (ht:∀ b ys,H b=some (.tup ys)->H' b=some (.tup ys)):KT H' kvs xs:=
 Paired.mapP r fun _ _ z=>⟨z.1,ht _ _ z.2.1,z.2.2⟩
section
variable {P:Program} {w:World} {H:Hp} {h:Heap} {a:Addr}
theorem zna {u:HO} (ok:HOk P w H h) (e:Rd H a u):ObjOk P w H h a u:=e.ok ok
theorem zfD {kvs:List (Key×V)} (ok:HOk P w H h) (e:Rd H a (.dK kvs)):kvs.length<=sizeLine/\(a == sysModules)=false/\∃ vs,KV kvs vs/\h.DictOf (mixKind P w) a vs:=
 show ObjOk P w H h a (.dK kvs) from zna ok e
theorem zmn {kvs:List (Key×V)} (ok:HOk P w H h) (e:H a=some (.dK kvs)):kvs.length<=sizeLine/\(a == sysModules)=false/\∃ vs,KV kvs vs/\h.DictOf (mixKind P w) a vs:=zfD ok (.inl e)
theorem zdk {ks:List Key} (ok:HOk P w H h) (e:H a=some (.tup (ks.map kV))):(tupleKind (mixKind P w)).is h ks a:=by
 obtain ⟨_,its,r,o,h1,h2,n,h3⟩:=(show ObjOk P w H h a (.tup (ks.map kV)) from ok a _ e)
 exact ⟨o,its.toArray,n,h1,h2,h3,by simpa using zei r⟩
theorem ze2 {kvs:List (List Key×V)} (ok:HOk P w H h) (e:Rd H a (.dT kvs)):kvs.length<=sizeLine/\(a == sysModules)=false/\
  ∃ xs,KT H kvs xs/\h.DictOfH (tupleKind (mixKind P w)) a xs:=by
 obtain ⟨z,y,xs,r,o,es,ep,h1,h2,h3,h4,h5⟩:=(show ObjOk P w H h a (.dT kvs) from zna ok e)
 refine ⟨z,y,xs,r,o,es,ep,h1,h2,h3,h4,fun x hx=>?_,h5⟩
 have all:∀ {l:List (List Key×V)} {m:List (List Key×Addr×Value)},KT H l m->∀ x∈m,(tupleKind (mixKind P w)).is h x.1 x.2.1:=by
  intro l m q
  induction q with
  | nil=>intro x hx; exact nomatch hx
  | @cons p q ps qs hq t ih=>
    intro x hx
    rcases mem_cons.mp hx with e | hx
    ·subst e
     exact zdk ok (by rw [<- hq.1]; exact hq.2.1)
    ·exact ih x hx
 exact all r x hx
theorem zoF {kvs:List (List Key×V)} (ok:HOk P w H h) (e:H a=some (.dT kvs)):kvs.length<=sizeLine/\(a == sysModules)=false/\
  ∃ xs,KT H kvs xs/\h.DictOfH (tupleKind (mixKind P w)) a xs:=ze2 ok (.inl e)
end
def DGet (H:Hp) (a:Addr) (y:V) (r:Option V):Prop:=
 (∃ kvs k,Rd H a (.dK kvs)/\y=kV k/\r=valV kvs k)\/∃ kvs k b,Rd H a (.dT kvs)/\y=.ref b/\H b=some (.tup (k.map kV))/\r=valV kvs k
def DPut (H:Hp) (a:Addr) (y v:V) (H':Hp):Prop:=
 (∃ kvs k,H a=some (.dK kvs)/\y=kV k/\kvs.length < sizeLine/\H'=upd H a (.dK (putK kvs k v)))\/
 ∃ kvs k b,H a=some (.dT kvs)/\y=.ref b/\H b=some (.tup (k.map kV))/\kvs.length < sizeLine/\H'=upd H a (.dT (putK kvs k v))
section
variable {X:Cx} {pins:List (Addr×Obj)} {σ:St} {H:Hp} {s:Shared} {a:Addr} {y v:V} {u r:Value} {o:Option V} {A:Around} {E:Value->Shared->Prop}
theorem Inv.big (I:Inv X pins σ H s):sysModules < s.heap.objs.size:=by
 have h:mainGlobals < s.heap.objs.size:=(I.mod.glob.keeps I.bk).lt
 exact lt_trans (by decide) h
theorem zhS {Q:Value->Shared->Prop} (hu:A.units + 1 < cLine) (I:Inv X pins σ H s) (g:DGet H a y (some v)) (ry:RelV y u) (h:∀ w' s',Inv X pins σ H s'->RelV v w'->Q w' s'):
  wpAny (model X.prog X.w) A (getItem (.ref a) u) Q E s:=by
 rcases g with ⟨kvs,k,e,ey,l⟩ | ⟨kvs,k,b,e,ey,eb,l⟩
 ·subst ey
  obtain ⟨z,hd,vs,rel,dd⟩:=zfD I.hok e
  obtain ⟨w',hw,rw'⟩:=RelO.some_of (v:=v) (o:=valueAt vs k) (by rw [l]; exact rel.val k)
  exact wpAny_getItem_of (zfu ry) dd.mapOf hw (h w' _ (I.tok _) rw')
 ·subst ey
  cases (show u=Value.ref b from ry)
  obtain ⟨z,hd,xs,rel,dd⟩:=ze2 I.hok e
  obtain ⟨w',hw,rw'⟩:=RelO.some_of (v:=v) (o:=(atKey xs k).map (·.2)) (by rw [l]; exact rel.val k)
  obtain ⟨p,hp,hp2⟩:=map_eq_some_iff.mp hw
  refine wpAny_getItem_heap (tupleKind_room_in1 hu) (zdk I.hok eb) dd hp ?_
  rw [hp2]
  exact h w' _ (I.tok _) rw'
theorem d_in {Q:Value->Shared->Prop} (hu:A.units + 1 < cLine) (I:Inv X pins σ H s) (g:DGet H a y o) (ry:RelV y u) (h:∀ s',Inv X pins σ H s'->Q (.bool o.isSome) s'):
  wpAny (model X.prog X.w) A (compareOp .In u (.ref a)) Q E s:=by
 rcases g with ⟨kvs,k,e,ey,l⟩ | ⟨kvs,k,b,e,ey,eb,l⟩
 ·subst ey
  obtain ⟨z,hd,vs,rel,dd⟩:=zfD I.hok e
  refine wpAny_in_of (zfu ry) hd dd.mapOf ?_
  rw [<- (rel.val k).isSome_eq,<- l]
  exact h _ (I.tok _)
 ·subst ey
  cases (show u=Value.ref b from ry)
  obtain ⟨z,hd,xs,rel,dd⟩:=ze2 I.hok e
  refine wpAny_in_heap (tupleKind_room_in1 hu) (zdk I.hok eb) hd dd ?_
  have q:=(rel.val k).isSome_eq
  rw [isSome_map] at q
  rw [<- q,<- l]
  exact h _ (I.tok _)
theorem zll {Q:Value->Shared->Prop} (hu:A.units + 1 < cLine) (I:Inv X pins σ H s) (g:DGet H a y o) (ry:RelV y u) (h:∀ s',Inv X pins σ H s'->Q (.bool (!o.isSome)) s'):
  wpAny (model X.prog X.w) A (compareOp .NotIn u (.ref a)) Q E s:=by
 rcases g with ⟨kvs,k,e,ey,l⟩ | ⟨kvs,k,b,e,ey,eb,l⟩
 ·subst ey
  obtain ⟨z,hd,vs,rel,dd⟩:=zfD I.hok e
  refine wpAny_notIn_of (zfu ry) hd dd.mapOf ?_
  rw [<- (rel.val k).isSome_eq,<- l]
  exact h _ (I.tok _)
 ·subst ey
  cases (show u=Value.ref b from ry)
  obtain ⟨z,hd,xs,rel,dd⟩:=ze2 I.hok e
  refine wpAny_notIn_heap (tupleKind_room_in1 hu) (zdk I.hok eb) hd dd ?_
  have q:=(rel.val k).isSome_eq
  rw [isSome_map] at q
  rw [<- q,<- l]
  exact h _ (I.tok _)
theorem zfG {h':Heap} {t':Nat} {ob:HO} (I:Inv X pins σ H s) (mu:Mut (H a)) (hs:Heap.SameBut a s.heap h') (he:∃ q,h'.get? a=some q) (new:ObjOk X.prog X.w (upd H a ob) h' a ob):
  Inv X pins σ (upd H a ob) { s with heap:=h',toks:=t' }:=
 I.write (x:=a) (e:=a) mu (.inl rfl) (fun b q hb z=>(hs.2 b hb).trans z) he new
theorem zkf {P:Program} {w:World} {H':Hp} {h':Heap} {kvs:List (Key×V)} {vs:List (Key×Value)} (z:kvs.length<=sizeLine) (hd:(a == sysModules)=false) (rel:KV kvs vs) (dd:h'.DictOf (mixKind P w) a vs):
  ObjOk P w H' h' a (.dK kvs):=⟨z,hd,vs,rel,dd⟩
theorem ziH {H':Hp} {Q:Unit->Shared->Prop} (hu:A.units + 1 < cLine) (I:Inv X pins σ H s) (g:DPut H a y v H') (ry:RelV y u) (rv:RelV v r) (h:∀ s',Inv X pins σ H' s'->Q () s'):
  wpAny (model X.prog X.w) A (setItem (.ref a) u r) Q E s:=by
 rcases g with ⟨kvs,k,e,ey,l,eH⟩ | ⟨kvs,k,b,e,ey,eb,l,eH⟩
 ·subst ey eH
  obtain ⟨z,hd,vs,rel,dd⟩:=zmn I.hok e
  have hz:vs.length<=sizeLine:=by rw [<- rel.length]; exact z
  have hl:(putK kvs k v).length<=sizeLine:=by have:=zbw kvs k v; lia
  refine wpAny_setItem_pairs (hsz:=hz) (zfu ry) dd fun h' dd' hs=>h _ ?_
  have he:∃ q,h'.get? a=some q:=let ⟨q,_,_,hq,_⟩:=dd'; ⟨q,hq⟩
  exact zfG I (by rw [e]; exact True.intro) hs he (zkf hl hd (rel.put k rv) dd')
 ·subst ey eH
  cases (show u=Value.ref b from ry)
  obtain ⟨z,hd,xs,rel,dd⟩:=zoF I.hok e
  have hz:xs.length<=sizeLine:=by rw [<- Paired.length rel]; exact z
  have hl:(putK kvs k v).length<=sizeLine:=by have:=zbw kvs k v; lia
  refine wpAny_setItem_heap (hsz:=hz) (tupleKind_room_in1 hu) (zdk I.hok eb) dd fun h' dd' hs=>h _ ?_
  obtain ⟨q,es,ep,hq,h2,h3,h4,_,h5⟩:=dd'
  refine zfG I (by rw [e]; exact True.intro) hs ⟨q,hq⟩ ⟨hl,hd,_,(rel.put k eb rv).keeps fun c ys ec=>?_,q,es,ep,hq,h2,h3,h4,h5⟩
  rw [zaj (zpl ec e (fun z=>nomatch z))]
  exact ec
end
theorem zfl {X:Cx} {pins:List (Addr×Obj)} {σ:St} {H:Hp} {s:Shared} {a:Addr} {y:V} {o:Option V} (I:Inv X pins σ H s) (g:DGet H a y o):s.TypeIs (.ref a) "dict":=by
 rcases g with ⟨kvs,k,e,_,_⟩ | ⟨kvs,k,b,e,_,_,_⟩
 ·obtain ⟨_,_,vs,_,dd⟩:=zfD I.hok e
  exact dd.typeIs
 ·obtain ⟨_,_,xs,_,dd⟩:=ze2 I.hok e
  exact dd.typeIs
def sDPut (td ty tv:TE):TS:=fun D σ H=>tv σ H fun v H1=>td σ H1 fun x H2=>ty σ H2 fun y H3=>∃ a H4,x=.ref a/\DPut H3 a y v H4/\D.nx σ H4
section
variable {X:Cx} {o i e value:Expr} {pos pos' tpos:Pos} {td ty tv:TE}
theorem zlA (hu:X.A.units + 1 < cLine) (ho:PE X o td) (hi:PE X i ty) (hv:PE X value tv) (hs:swapsWith value (some (.Subscript o i pos')) pos.line X.env=pure false):
  PS X (.Assign [.Subscript o i pos'] value pos) (sDPut td ty tv):=by
 intro pins s σ H D I h
 refine wpAny_Assign_Subscript (thn (hv pins s σ H _ I h) fun r s1 ⟨v,H1,I1,rv,q1⟩=>thn (ho pins s1 σ H1 _ I1 q1) fun u s2 ⟨x,H2,I2,rx,q2⟩=>thn (hi pins s2 σ H2 _ I2 q2) fun iv s3 ⟨y,H3,I3,ry,a,H4,ex,g,q3⟩=>?_) hs
 subst ex
 obtain rfl:u=Value.ref a:=rx
 exact ziH hu I3 g ry rv fun s4 I4=>⟨σ,H4,I4,q3⟩
end
theorem zji {P:Program} {w:World} {H:Hp} (h:Heap) (hb:sysModules < h.objs.size):ObjOk P w H (h.push { cls:=.type "dict",data:=.dict #[] }) h.objs.size (.dK []):=
 ⟨zero_le _,beq_eq_false_iff_ne.mpr (Ne.symm (ne_of_lt hb)),[],.nil,Heap.DictOf.new h⟩
theorem ziZ {P:Program} {w:World} {H:Hp} (h:Heap) (hb:sysModules < h.objs.size):ObjOk P w H (h.push { cls:=.type "dict",data:=.dict #[] }) h.objs.size (.dT []):=
 ⟨zero_le _,beq_eq_false_iff_ne.mpr (Ne.symm (ne_of_lt hb)),[],.nil,_,#[],0,qd _ rfl,⟨rfl,rfl,rfl⟩,rfl,rfl,List.nodup_nil⟩
def tDNewT:TE:=fun _ H Q=>∀ p,H p=none->Q (.ref p) (upd H p (.dT []))
section
variable {X:Cx} {pos:Pos}
theorem zjP:PE X (.Dict [] [] pos) tDNewT:=fun pins s σ H Q I h=>
 wpAny_Dict_empty ⟨.ref s.heap.objs.size,_,I.laid (a:=s.heap.objs.size) (o:=.dT []) (t':=s.toks) (fun _ _ q=>qc _ q) (le_refl _) (ziZ s.heap I.big),rfl,h _ (I.hok.fresh (le_refl _))⟩
end
def tPairs:List (TE×TE)->St->Hp->(List (V×V)->Hp->Prop)->Prop
 | [],_,H,Q=>Q [] H
 | (tk,tv)::r,σ,H,Q=>tk σ H fun x H1=>tv σ H1 fun y H2=>tPairs r σ H2 fun ps H3=>Q ((x,y)::ps) H3
abbrev VV:List (V×V)->List (Value×Value)->Prop:=Paired fun p q=>RelV p.1 q.1/\RelV p.2 q.2
def PPs (X:Cx) (pos:Pos) (keys:List (Option Expr)) (values:List Expr) (trs:List (TE×TE)):Prop:=
 ∀ (pins:List (Addr×Obj)) (s:Shared) (σ:St) (H:Hp) (Q:List (V×V)->Hp->Prop),Inv X pins σ H s->tPairs trs σ H Q->
   wpAny (model X.prog X.w) X.A (evalPairs (pairTrees keys values X.env pos)) (fun vs s'=>∃ ps H',Inv X pins σ H' s'/\VV ps vs/\Q ps H') X.xe s
theorem zkr {X:Cx} {pos:Pos}:PPs X pos [] [] []:=fun pins s σ H Q I h=>pairTrees_nil_walk ⟨[],H,I,.nil,h⟩
theorem zjr {X:Cx} {pos:Pos} {k v:Expr} {ks:List (Option Expr)} {vs:List Expr} {tk tv:TE} {trs:List (TE×TE)} (hk:PE X k tk) (hv:PE X v tv) (hr:PPs X pos ks vs trs):
  PPs X pos (some k::ks) (v::vs) ((tk,tv)::trs):=fun pins s σ H Q I h=>
 pairTrees_cons_walk (thn (hk pins s σ H _ I h) fun u s1 ⟨x,H1,I1,rx,q1⟩=>thn (hv pins s1 σ H1 _ I1 q1) fun w2 s2 ⟨y,H2,I2,ry,q2⟩=>
  thn (hr pins s2 σ H2 _ I2 q2) fun ws s3 ⟨ps,H3,I3,rel,q3⟩=>⟨(x,y)::ps,H3,I3,.cons ⟨rx,ry⟩ rel,q3⟩)
def mergeK (kvs more:List (Key×V)):List (Key×V):=more.foldl (fun acc kv=>putK acc kv.1 kv.2) kvs
theorem KV.merge:∀ {more:List (Key×V)} {rs:List (Key×Value)} {kvs:List (Key×V)} {vs:List (Key×Value)},KV more rs->KV kvs vs->KV (mergeK kvs more) (merged vs rs):=by
 intro more rs kvs vs r
 unfold KV at r
 induction r generalizing kvs vs with
 | nil=>intro q; exact q
 | @cons p q ps qs h t ih=>
   intro r0
   have e:KV (putK kvs p.1 p.2) (stored vs q.1 q.2):=by
    have:=r0.put p.1 h.2
    rw [<- h.1]; exact this
   exact ih e
theorem zbC:∀ (more kvs:List (Key×V)),(mergeK kvs more).length<=kvs.length + more.length
 | [],kvs=>by show kvs.length<=kvs.length + 0; lia
 | p::r,kvs=>by
   have h1:=zbC r (putK kvs p.1 p.2)
   have h2:=zbw kvs p.1 p.2
   show (mergeK (putK kvs p.1 p.2) r).length<=_
   rw [length_cons]; lia
theorem zdp {P:Program} {w:World}:∀ {kvs:List (Key×V)} {ws:List (Value×Value)},VV (kvs.map fun kv=>(kV kv.1,kv.2)) ws->∃ rs,Carries (mixKind P w) ws rs/\KV kvs rs
 | [],_,r=>by rw [map_nil] at r; cases r; exact ⟨[],True.intro,.nil⟩
 | p::kvs,_,r=>by
   rw [map_cons] at r
   cases r with
   | @cons a b as bs h t=>
     obtain ⟨rs,c,q⟩:=zdp (P:=P) (w:=w) t
     obtain ⟨b1,b2⟩:=b
     exact ⟨(p.1,b2)::rs,⟨zfu h.1,rfl,c⟩,.cons ⟨rfl,h.2⟩ q⟩
def tDisp (trs:List (TE×TE)):TE:=fun σ H Q=>∀ p,H p=none->tPairs trs σ (upd H p (.dK [])) fun ps H2=>H2 p=some (.dK [])/\∃ kvs:List (Key×V),ps=kvs.map (fun kv=>(kV kv.1,kv.2))/\kvs.length<=15/\Q (.ref p) (upd H2 p (.dK (mergeK [] kvs)))
theorem zkL {X:Cx} {pos:Pos} {keys:List (Option Expr)} {values:List Expr} {trs:List (TE×TE)} (h:PPs X pos keys values trs) (hall:keys.all (·.isSome)=true) (hl:keys.length=values.length) (h0:keys≠[])
  (h15:keys.length<=15):PE X (.Dict keys values pos) (tDisp trs):=by
 intro pins s σ H Q I q
 have hn:=I.hok.fresh (le_refl s.heap.objs.size)
 have I1:=I.laid (a:=s.heap.objs.size) (o:=.dK []) (h':=s.heap.push { cls:=.type "dict",data:=.dict #[] }) (t':=s.toks) (fun _ _ q=>qc _ q) (le_refl _) (zji s.heap I.big)
 refine wpAny_Dict_walk (knd:=mixKind X.prog X.w) hall hl h0 h15 (thn (h pins _ σ _ _ I1 (q _ hn)) fun ws s2 ⟨ps,H2,I2,rel,e,kvs,ep,lk,q2⟩=>?_)
 subst ep
 obtain ⟨rs,c,rk⟩:=zdp (P:=X.prog) (w:=X.w) rel
 obtain ⟨z,hd,vs0,r0,dd⟩:=zmn I2.hok e
 cases r0
 refine ⟨rs,c,dd,fun h' dd' hs=>⟨.ref s.heap.objs.size,_,?_,rfl,q2⟩⟩
 have hz:(mergeK [] kvs).length<=sizeLine:=by
  have h1:=zbC kvs []
  rw [length_nil] at h1
  rw [sizeLine_eq]; lia
 have he:∃ q,h'.get? s.heap.objs.size=some q:=let ⟨q,_,_,hq,_⟩:=dd'; ⟨q,hq⟩
 exact zfG I2 (by rw [e]; exact True.intro) hs he (zkf hz hd (rk.merge .nil) dd')
structure M1 (X:Cx) (o:Expr) (m:Str) (apos:Pos) (e:Expr) (cpos:Pos):Prop where
 base:attributeBase o m X.env (eval o X.env)=eval o X.env
 few:((backTo cpos (starEach [e] X.env)).all (fun x=>!x.1) && (backToKw cpos (keywordEach [] X.env)).all (fun x=>x.1.isSome)
  && decide (([e]:List Expr).length + ([]:List Keyword).length + (if ([]:List Keyword).isEmpty then 0 else 1) < 30))=true
 line:(apos.endLine == cpos.line)=true
 trees:backTo cpos (starEach [e] X.env)=[(false,eval e X.env)]
def IsD (H:Hp) (a:Addr):Prop:=(∃ kvs,Rd H a (.dK kvs))\/∃ kvs,Rd H a (.dT kvs)
theorem zmC {X:Cx} {pins:List (Addr×Obj)} {σ:St} {H:Hp} {s:Shared} {a:Addr} (I:Inv X pins σ H s) (d:IsD H a):
  s.TypeIs (.ref a) "dict"/\(∀ b,Value.ref a=.ref b->∃ ob,s.heap.get? b=some ob/\ob.dict=none)/\(a == sysModules)=false:=by
 rcases d with ⟨kvs,e⟩ | ⟨kvs,e⟩
 ·obtain ⟨_,hd,vs,_,dd⟩:=zfD I.hok e
  refine ⟨dd.typeIs,fun b q=>?_,hd⟩
  cases q
  obtain ⟨ob,_,_,h1,h2,_⟩:=dd
  exact ⟨ob,h1,h2.2.1⟩
 ·obtain ⟨_,hd,xs,_,dd⟩:=ze2 I.hok e
  refine ⟨dd.typeIs,fun b q=>?_,hd⟩
  cases q
  obtain ⟨ob,_,_,h1,h2,_⟩:=dd
  exact ⟨ob,h1,h2.2.1⟩
section
variable {X:Cx} {pins:List (Addr×Obj)} {σ:St} {H:Hp} {s:Shared} {a:Addr} {y d:V} {u r:Value} {o:Option V} {A:Around} {E:Value->Shared->Prop}
theorem znq {Q:Value->Shared->Prop} (hu:A.units + 1 < cLine) (I:Inv X pins σ H s) (g:DGet H a y o) (ry:RelV y u) (h:∀ w' s',Inv X pins σ H s'->RelV (o.getD .non) w'->Q w' s'):
  wpAny (model X.prog X.w) A (call (.builtin "dict.get") [.ref a,u]) Q E s:=by
 rcases g with ⟨kvs,k,e,ey,l⟩ | ⟨kvs,k,b,e,ey,eb,l⟩
 ·subst ey
  obtain ⟨z,hd,vs,rel,dd⟩:=zfD I.hok e
  refine call_meetsIn PySem.F.slot_dict_get dd.typeIs PySem.F.entry_dict_get (PySem.F.args_dict_get_2 _ _) (meets_dict_get (mixKind X.prog X.w) a (zfu ry) hd) ⟨_,dd.mapOf,h _ _ (I.tok _) ?_⟩
  rw [l]
  exact (rel.val k).getD rfl
 ·subst ey
  cases (show u=Value.ref b from ry)
  obtain ⟨z,hd,xs,rel,dd⟩:=ze2 I.hok e
  refine call_meetsIn PySem.F.slot_dict_get dd.typeIs PySem.F.entry_dict_get (PySem.F.args_dict_get_2 _ _) (meetsH_dict_get (tupleKind (mixKind X.prog X.w)) a b hd) ⟨tupleKind_room_in1 hu,k,xs,zdk I.hok eb,dd,h _ _ (I.tok _) ?_⟩
  rw [l]
  exact (rel.val k).getD rfl
end
def tDGet1 (td ty:TE):TE:=fun σ H Q=>td σ H fun x H1=>∃ a,x=.ref a/\IsD H1 a/\ty σ H1 fun y H2=>∃ o,DGet H2 a y o/\Q (o.getD .non) H2
section
variable {X:Cx} {o e f:Expr} {apos cpos:Pos} {td ty tx:TE}
theorem zjm (hu:X.A.units + 1 < cLine) (ho:PE X o td) (he:PE X e ty) (m:M1 X o "get" apos e cpos):PE X (.Call (.Attribute o "get" apos) [e] [] cpos) (tDGet1 td ty):=by
 intro pins s σ H Q I h
 refine wpAny_Call_method m.base m.few m.line PySem.F.plainAttrs_dict PySem.F.slot_dict_get PySem.F.type_dict_get (thn (ho pins s σ H _ I h) fun u s1 ⟨x,H1,I1,rx,a,ex,d,q1⟩=>?_)
 subst ex
 obtain rfl:u=Value.ref a:=rx
 obtain ⟨t1,t2,_⟩:=zmC I1 d
 refine ⟨t1,t2,?_⟩
 rw [m.trees]
 refine Calls.callWith_builtin rfl (Calls.evalArgs_plain (Calls.spliced_cons (thn (he pins s1 σ H1 _ I1 q1) fun iv s2 ⟨y,H2,I2,ry,ov,g,q2⟩=>Calls.spliced_nil ?_)))
 exact znq hu I2 g ry fun w' s3 I3 rw'=>⟨_,H2,I3,rw',q2⟩
end
end L2
end
section
namespace HT
open PySem PyProof.Rows
def lexLt:List Int->List Int->Bool
 | [],[]=>false
 | [],_::_=>true
 | _::_,[]=>false
 | x::xs,y::ys=>if x=y then lexLt xs ys else decide (x < y)
theorem zaJ (x y:Int) (xs ys:List Int):lexLt (x::xs) (y::ys)=if x=y then lexLt xs ys else decide (x < y):=rfl
section
open PySem.SeqAt
open PySem.AutoSeq1 (wpAny_loadPart')
open PySem.MeetsSeq PySem.MeetsSeq2 PySem.MeetsSeq3
end
section
variable {prog:Program} {w:World} {A:Around} {E:Value->Shared->Prop} {s:Shared}
theorem cat_tup {t b:Addr} {vs ws:List Value} {Q:Value->Shared->Prop} (ht:IsTup s.heap t vs.toArray) (hb:IsTup s.heap b ws.toArray) (hv:vs≠[])
  (h1:ws=[]->Q (.ref t) s) (h2:ws≠[]->Q (.ref s.heap.objs.size) { s with heap:=s.heap.push { cls:=.type "tuple",data:=.seq (vs++ws).toArray } })
  (hsz:vs.length + ws.length<=sizeLine):wpAny (model prog w) A (binaryOp .Add (.ref t) (.ref b)) Q E s:=by
 obtain ⟨⟨cls,dd,data,sl⟩,ho,hc,n,hd⟩:=id ht
 obtain ⟨⟨cls2,dd2,data2,sl2⟩,ho2,hc2,n2,hd2⟩:=id hb
 simp only at hc hd hc2 hd2
 subst hc hd hc2 hd2
 have e:vs.toArray++ws.toArray=(vs++ws).toArray:=by simp
 by_cases hw:ws=[]
 ·exact concat_meets ⟨_,ho,rfl⟩ ⟨_,ho2,rfl⟩ noFill_tuple_add seq_tuple_add PySem.F.slot_tuple_add PySem.F.entry_tuple_add (PySem.F.args_tuple_add_2 _ _)
   (tuple_addW1 t b vs.toArray ws.toArray n n2 dd dd2 sl sl2 (by simpa using hv) (by simp [hw])) ⟨ho,ho2,h1 hw⟩
 ·refine concat_meets ⟨_,ho,rfl⟩ ⟨_,ho2,rfl⟩ noFill_tuple_add seq_tuple_add PySem.F.slot_tuple_add PySem.F.entry_tuple_add (PySem.F.args_tuple_add_2 _ _)
   (tuple_addW2 t b vs.toArray ws.toArray n n2 dd dd2 sl sl2 (by simpa using hv) (by simpa using hw) (by rw [size_toArray,size_toArray]; exact hsz)) ⟨ho,ho2,?_⟩
  rw [e]
  exact h2 hw
def sIx (n d:Nat):Option Int->Nat
 | none=>d
 | some v=>if v < 0 then (v + (n:Int)).toNat else min v.toNat n
theorem sIx_le (n d:Nat) (hd:d<=n) (o:Option Int):sIx n d o<=n:=by
 cases o with
 | none=>exact hd
 | some v=>
   show (if v < 0 then (v + (n:Int)).toNat else min v.toNat n)<=n
   by_cases hv:v < 0
   ·rw [if_pos hv]; lia
   ·rw [if_neg hv]; exact Nat.min_le_right _ _
theorem zh8 (v:Int) (n d:Nat):(if v < 0 then max (v + (n:Int)) 0 else min v (n:Int))=((sIx n d (some v):Nat):Int):=by
 show (if v < 0 then max (v + (n:Int)) 0 else min v (n:Int))=(((if v < 0 then (v + (n:Int)).toNat else min v.toNat n):Nat):Int)
 by_cases hv:v < 0
 ·simp only [if_pos hv]; lia
 ·simp only [if_neg hv]; lia
theorem zgS (lo hi:Option Int) (n:Nat):Builtin.Slice.sliceAdjust lo hi 1 (n:Int)=(((sIx n 0 lo:Nat):Int),((sIx n n hi:Nat):Int)):=by
 have h1:¬ ((1:Int) < 0):=by lia
 unfold Builtin.Slice.sliceAdjust
 simp only [h1,if_false]
 refine Prod.ext ?_ ?_
 ·cases lo with
  | none=>rfl
  | some v=>exact zh8 v n 0
 ·cases hi with
  | none=>rfl
  | some v=>exact zh8 v n n
theorem zgx (i j:Nat):Builtin.Slice.slicePlaces (i:Int) (j:Int) 1=j - i:=by
 unfold Builtin.Slice.slicePlaces
 have h1:(1:Int) > 0:=by lia
 simp only [h1,if_true,Int.ediv_one]
 split <;> lia
theorem zdc {v:Value} {o:Option Int} {Q:Option Int->Shared->Prop} (p:IsPart v o) (h:Q o s):wpAny (model prog w) A (Builtin.Slice.slicePartIndex v) Q E s:=by
 cases p with
 | none=>exact slicePart_none h
 | int i t=>exact slicePart_int h
theorem sliceApplied_gen {sl:Addr} {vl vu:Value} {lo hi:Option Int} {n:Nat} {Q:Int×Int×Nat->Shared->Prop} (hs:s.heap.IsSliceOf sl vl vu .none) (pl:IsPart vl lo) (pu:IsPart vu hi)
  (h:Q (((sIx n 0 lo:Nat):Int),1,sIx n n hi - sIx n 0 lo) s):wpAny (model prog w) A (Builtin.Slice.sliceApplied (.ref sl) (pure (n:Int))) Q E s:=by
 obtain ⟨os,hos,hcs,hds⟩:=id hs
 unfold Builtin.Slice.sliceApplied Builtin.Slice.sliceFields
 refine qa (qa (wpAny_field hos hds (x:=vl) rfl (qa (wpAny_field hos hds (x:=vu) rfl (qa (wpAny_field hos hds (x:=.none) rfl (qb ?_)))))))
 refine qa (slicePart_none ?_)
 show wpAny _ _ (if ((1:Int) == 0)=true then _ else _) _ _ s
 rw [if_neg (by decide)]
 refine qa (zdc pl (qa (zdc pu (qa (qb ?_)))))
 show wpAny _ _ (match Builtin.Slice.sliceAdjust lo hi 1 (n:Int) with | (lo,hi)=>pure (lo,(1:Int),Builtin.Slice.slicePlaces lo hi 1)) _ _ s
 rw [zgS lo hi n]
 show wpAny _ _ (pure (((sIx n 0 lo:Nat):Int),(1:Int),Builtin.Slice.slicePlaces ((sIx n 0 lo:Nat):Int) ((sIx n n hi:Nat):Int) 1)) _ _ s
 rw [zgx]
 exact qb h
theorem zjY (xs:Array Value) (i k:Nat):((List.range k).filterMap fun (m:Nat)=>xs[((i:Int) + (m:Int) * 1).toNat]?).toArray=((xs.toList.drop i).take k).toArray:=by
 have e:(fun (m:Nat)=>xs[((i:Int) + (m:Int) * 1).toNat]?)=fun m=>xs[i + m]?:=by
  funext m
  have:((i:Int) + (m:Int) * 1).toNat=i + m:=by lia
  rw [this]
 rw [e]
 have:=pick_run xs i k
 rw [List.filterMap_map] at this
 have e2:((fun x=>xs[x]?) ∘ fun x=>i + x)=fun m=>xs[i + m]?:=rfl
 rw [e2] at this
 rw [this]
theorem getItem_tuple_cut {t sl:Addr} {items:Array Value} {vl vu:Value} {lo hi:Option Int} {Q:Value->Shared->Prop} (ht:IsTup s.heap t items) (hs:s.heap.IsSliceOf sl vl vu .none) (pl:IsPart vl lo) (pu:IsPart vu hi)
  (hw:¬ (sIx items.size 0 lo=0/\sIx items.size items.size hi=items.size))
  (h:Q (.ref s.heap.objs.size) { s with heap:=s.heap.push { cls:=.type "tuple",data:=.seq ((items.toList.drop (sIx items.size 0 lo)).take (sIx items.size items.size hi - sIx items.size 0 lo)).toArray } })
  (hsz:items.size<=sizeLine):wpAny (model prog w) A (getItem (.ref t) (.ref sl)) Q E s:=by
 have htake:sizeOk (.seq ((items.toList.drop (sIx items.size 0 lo)).take (sIx items.size items.size hi - sIx items.size 0 lo)).toArray):=by
  show ((items.toList.drop (sIx items.size 0 lo)).take (sIx items.size items.size hi - sIx items.size 0 lo)).toArray.size<=sizeLine
  rw [size_toArray,length_take,length_drop,length_toList]
  lia
 have hj:sIx items.size items.size hi<=items.size:=sIx_le _ _ (le_refl _) hi
 obtain ⟨os,hos,hcs,hds⟩:=id hs
 have hTs:s.TypeIs (.ref sl) "slice":=⟨os,hos,hcs⟩
 unfold getItem
 try with_reducible refine wpAny_holding ?_
 first | refine qa (qb ?_) | skip
 refine qa (wpAny_sequenceKey ht.typeIs (by decide) ?_)
 refine qa (wpAny_callSpecial?_slot (name:=Str.ofString "__getitem__") ht.typeIs PyProof.Rows.slot_tuple_getitem
  (wpAny_call_entry PyProof.Rows.slot_tuple_getitem ht.typeIs entry_tuple_getitem ?_ (args_tuple_getitem _ _)))
 show wpAny _ _ (Builtin.Tuple.tupleItemsOf (.ref t) >>= _) _ _ s
 refine qa (tupleItemsOf_ ht ?_)
 refine qa (wpAny_typeOf hTs ?_)
 rw [if_pos (by decide)]
 refine qa (sliceApplied_gen hs pl pu ?_)
 have hno:¬ ((((sIx items.size 0 lo:Nat):Int) == 0 && (1:Int) == 1 && (sIx items.size items.size hi - sIx items.size 0 lo) == items.size)=true):=by
  intro q
  rw [and_eq_true,and_eq_true] at q
  have q1:((sIx items.size 0 lo:Nat):Int)=0:=eq_of_beq q.1.1
  have q2:sIx items.size items.size hi - sIx items.size 0 lo=items.size:=eq_of_beq q.2
  exact hw ⟨by lia,by lia⟩
 show wpAny _ _ (if (((sIx items.size 0 lo:Nat):Int) == 0 && (1:Int) == 1 && (sIx items.size items.size hi - sIx items.size 0 lo) == items.size)=true then _ else _) _ _ s
 rw [if_neg hno,zjY]
 first
  | exact qa (m:=Builtin.Tuple.tupleExact _) (wpAny_newObj_type (qb ⟨_,rfl,qb h⟩) htake)
  | exact qa (m:=Builtin.Tuple.tupleExact _) (wpAny_newObj_type (qa (qb (qb ⟨_,rfl,qb h⟩))) htake)
  | exact qa (qa (m:=Builtin.Tuple.tupleExact _) (wpAny_newObj_type (qb (qb ⟨_,rfl,qb h⟩)) htake))
  | exact qa (qa (m:=Builtin.Tuple.tupleExact _) (wpAny_newObj_type (qb ⟨_,rfl,qb h⟩) htake))
end
end HT
namespace L2
open PySem PySem.Spec PyProof.Rows
abbrev TO:=St->Hp->(Option Int->Hp->Prop)->Prop
def PO (X:Cx) (e:Option Expr) (t:TO):Prop:=
 ∀ (pins:List (Addr×Obj)) (s:Shared) (σ:St) (H:Hp) (Q:Option Int->Hp->Prop),Inv X pins σ H s->t σ H Q->
   wpAny (model X.prog X.w) X.A (evalPart e X.env) (fun u s'=>∃ o H',Inv X pins σ H' s'/\IsPart u o/\Q o H') X.xe s
def tNoPart:TO:=fun _ H Q=>Q none H
def tPart (t:TE):TO:=fun σ H Q=>t σ H fun x H1=>∃ i,x=.int i/\Q (some i) H1
theorem zaY {ns:List Int}:∀ {us:List Value},Vals (ns.map V.int) us->IntsAre us ns:=by
 induction ns with
 | nil=>intro us r; rw [map_nil] at r; cases r; exact .nil
 | cons n ns ih=>
   intro us r
   rw [map_cons] at r
   cases r with
   | cons r1 r2=>
     obtain ⟨t,e⟩:=r1
     subst e
     exact .cons n t (ih r2)
section
variable {X:Cx} {e:Expr} {te:TE} {lo hi:Option Expr} {tl th:TO} {pos p2:Pos}
theorem zgV:PO X none tNoPart:=by
 intro pins s σ H Q I h
 rw [evalPart_none]
 exact qb ⟨none,H,I,.none,h⟩
theorem zdv (h:PE X e te):PO X (some e) (tPart te):=by
 intro pins s σ H Q I hw
 rw [evalPart_some]
 refine thn (h pins s σ H _ I hw) fun u s1 ⟨x,H1,I1,r1,q1⟩=>?_
 obtain ⟨i,rfl,q⟩:=q1
 obtain ⟨t,rfl⟩:=r1
 exact ⟨some i,H1,I1,.int i t,q⟩
def SlR (X:Cx) (r:V->Option Int->Option Int->Hp->VK->Prop):Prop:=
 ∀ (pins:List (Addr×Obj)) (s:Shared) (σ:St) (H:Hp) (x:V) (v vl vu:Value) (lo hi:Option Int) (sl:Addr) (Q:VK),Inv X pins σ H s->RelV x v->s.heap.IsSliceOf sl vl vu .none->IsPart vl lo->IsPart vu hi->r x lo hi H Q->
   ∃ T id,typeLookup (.type T) "__getitem__"=pure (some (.builtin id))/\s.TypeIs v T/\wpAny (model X.prog X.w) X.A (getItem v (.ref sl)) (EP X pins σ Q) X.xe s
theorem SlR.or {r r':V->Option Int->Option Int->Hp->VK->Prop} (h:SlR X r) (h':SlR X r'):SlR X (fun x lo hi H Q=>r x lo hi H Q\/r' x lo hi H Q):=by
 intro pins s σ H x v vl vu lo hi sl Q I rx hs pl pu q
 rcases q with q | q
 ·exact h pins s σ H x v vl vu lo hi sl Q I rx hs pl pu q
 ·exact h' pins s σ H x v vl vu lo hi sl Q I rx hs pl pu q
def tSl (r:V->Option Int->Option Int->Hp->VK->Prop) (te:TE) (tl th:TO):TE:=fun σ H Q=>te σ H fun x H1=>tl σ H1 fun l H2=>th σ H2 fun u H3=>r x l u H3 Q
theorem zdG {r:V->Option Int->Option Int->Hp->VK->Prop} (hr:SlR X r) (he:PE X e te) (hl:PO X lo tl) (hu:PO X hi th):PE X (.Subscript e (.Slice lo hi none p2) pos) (tSl r te tl th):=by
 intro pins s σ H Q I h
 refine Subscript_ (thn (he pins s σ H _ I h) fun v s1 ⟨x,H1,I1,r1,q1⟩=>?_)
 refine wpAny_Slice (thn (hl pins s1 σ H1 _ I1 q1) fun vl s2 ⟨l,H2,I2,pl,q2⟩=>thn (hu pins s2 σ H2 _ I2 q2) fun vu s3 ⟨u,H3,I3,pu,q3⟩=>?_)
 rw [evalPart_none]
 refine qb ?_
 have I4:Inv X pins σ H3 { s3 with heap:=s3.heap.push { cls:=.type "slice",data:=.fields #[vl,vu,.none] } }:=I3.kept (t':=s3.toks) fun b ob q=>qc _ q
 obtain ⟨T,id,hT,ht,hg⟩:=hr pins { s3 with heap:=s3.heap.push { cls:=.type "slice",data:=.fields #[vl,vu,.none] } } σ H3 x v vl vu l u s3.heap.objs.size Q I4 r1 (Heap.IsSliceOf.new ..) pl pu q3
 show wpAny (model X.prog X.w) X.A (subscriptTail e (.Slice lo hi none p2) v (.ref s3.heap.objs.size)) (EP X pins σ Q) X.xe { s3 with heap:=s3.heap.push { cls:=.type "slice",data:=.fields #[vl,vu,.none] } }
 exact tail_any (ops:=[.ref s3.heap.objs.size,v]) ht hT hg (by with_unfolding_all rfl)
def cutV (xs:List V) (lo hi:Option Int):List V:=(xs.drop (HT.sIx xs.length 0 lo)).take (HT.sIx xs.length xs.length hi - HT.sIx xs.length 0 lo)
theorem zcX (xs:List V) (lo hi:Option Int):(cutV xs lo hi).length<=xs.length:=by
 unfold cutV
 rw [length_take,length_drop]
 lia
def rSlT (K:W.Frag):V->Option Int->Option Int->Hp->VK->Prop:=fun x lo hi H Q=>∃ a xs,x=.ref a/\SqT K H a xs/\
 ¬ (HT.sIx xs.length 0 lo=0/\HT.sIx xs.length xs.length hi=xs.length)/\∀ p,H p=none->Q (.ref p) (upd H p (.tup (cutV xs lo hi)))
theorem zoe:SlR X (rSlT X.K):=by
 intro pins s σ H x v vl vu lo hi sl Q I rx hs pl pu h
 obtain ⟨a,xs,rfl,hx,hw,q⟩:=h
 cases rx
 obtain ⟨its,r,ht,hz⟩:=I.tuple hx
 have hlen:its.toArray.size=xs.length:=by rw [size_toArray]; exact r.length.symm
 refine ⟨"tuple",_,PyProof.Rows.slot_tuple_getitem.lookup,ht.typeIs,?_⟩
 refine HT.getItem_tuple_cut ht hs pl pu (by rw [hlen]; exact hw) ?_ (by rw [hlen]; exact hz)
 rw [hlen]
 refine ⟨.ref s.heap.objs.size,_,I.laid (t':=s.toks) (o:=.tup (cutV xs lo hi)) (fun b ob q=>qc _ q) (le_refl _) ?_,rfl,q _ (I.hok.fresh (le_refl _))⟩
 exact ⟨le_trans (zcX xs lo hi) hz,_,(r.drop (HT.sIx xs.length 0 lo)).take (HT.sIx xs.length xs.length hi - HT.sIx xs.length 0 lo),IsTup.new _ _⟩
def rCatT (K:W.Frag):R2:=fun x y H Q=>∃ a b xs ys,x=.ref a/\y=.ref b/\SqT K H a xs/\SqT K H b ys/\xs≠[]/\xs.length + ys.length<=sizeLine/\
 (ys=[]->Q (.ref a) H)/\(ys≠[]->∀ p,H p=none->Q (.ref p) (upd H p (.tup (xs++ys))))
theorem Vals.nil_iff {xs:List V} {us:List Value} (r:Vals xs us):us=[]↔xs=[]:=by
 cases r with
 | nil=>simp
 | cons _ _=>simp
theorem zlt:OpR X (binaryOp .Add) (rCatT X.K):=by
 intro pins s σ H x y v u Q I rx ry h
 obtain ⟨a,b,xs,ys,rfl,rfl,ha,hb,hx,hz,q1,q2⟩:=h
 cases rx
 cases ry
 obtain ⟨its,r1,p1,_⟩:=I.tuple ha
 obtain ⟨its2,r2,p2,_⟩:=I.tuple hb
 refine HT.cat_tup p1 p2 (fun z=>hx (r1.nil_iff.mp z)) (fun z=>⟨.ref a,H,I,rfl,q1 (r2.nil_iff.mp z)⟩) (fun z=>?_) (by rw [<- r1.length,<- r2.length]; exact hz)
 refine ⟨.ref s.heap.objs.size,_,I.laid (t':=s.toks) (o:=.tup (xs++ys)) (fun b ob q=>qc _ q) (le_refl _) ?_,rfl,q2 (fun w=>z (r2.nil_iff.mpr w)) _ (I.hok.fresh (le_refl _))⟩
 exact ⟨by rw [length_append]; exact hz,_,r1.append r2,IsTup.new _ _⟩
end
end L2
namespace L2
open PySem PySem.Spec PyProof.Rows
def ixN (n:Nat) (i:Int):Option Nat:=if 0<=i then (if i < n then some i.toNat else none) else if -(n:Int)<=i then some (i + n).toNat else none
def atI {α:Type} (xs:List α) (i:Int):Option α:=(ixN xs.length i).bind fun j=>xs[j]?
theorem ze6 {n:Nat} {i:Int} {j:Nat} (h:ixN n i=some j):seqIndex? i n=some j/\j < n/\-(n:Int)<=i/\i < n:=by
 unfold ixN at h
 by_cases h0:0<=i
 ·rw [if_pos h0] at h
  by_cases h1:i < n
  ·rw [if_pos h1] at h
   have e:i.toNat=j:=qh h
   exact ⟨by rw [seqIndex_of h0 h1,e],by lia,by lia,h1⟩
  ·rw [if_neg h1] at h; cases h
 ·rw [if_neg h0] at h
  by_cases h1:-(n:Int)<=i
  ·rw [if_pos h1] at h
   have e:(i + n).toNat=j:=qh h
   exact ⟨by rw [seqIndex_neg (by lia) h1,e],by lia,h1,by lia⟩
  ·rw [if_neg h1] at h; cases h
theorem zfg {α:Type} {xs:List α} {i:Int} {v:α} (h:atI xs i=some v):∃ j,seqIndex? i xs.length=some j/\xs[j]?=some v/\j < xs.length/\-(xs.length:Int)<=i/\i < xs.length:=by
 unfold atI at h
 cases e:ixN xs.length i with
 | none=>rw [e] at h; cases h
 | some j=>
   rw [e] at h
   obtain ⟨h1,h2,h3,h4⟩:=ze6 e
   exact ⟨j,h1,h,h2,h3,h4⟩
theorem zdD {α:Type} (xs:List α) (v:α):atI (xs++[v]) (-1)=some v:=by
 have hl:(xs++[v]).length=xs.length + 1:=by simp
 have e:ixN (xs++[v]).length (-1)=some xs.length:=by
  unfold ixN
  rw [hl,if_neg (by decide),if_pos (by lia)]
  congr 1
  lia
 unfold atI
 rw [e]
 show (xs++[v])[xs.length]?=some v
 simp
def PlainIx (b:Expr):Prop:=∀ o i,subscripted b false o i=operate [o,i] (getItem o i)
def IxR (X:Cx) (r:R2):Prop:=
 ∀ (value slice:Expr) (pins:List (Addr×Obj)) (s:Shared) (σ:St) (H:Hp) (x y:V) (v u:Value) (Q:VK),Inv X pins σ H s->RelV x v->RelV y u->r x y H Q->
   subscripted slice false v u=operate [v,u] (getItem v u)->wpAny (model X.prog X.w) X.A (subscriptTail value slice v u) (EP X pins σ Q) X.xe s
def MtR (X:Cx) (id:String) (r:V->List V->Hp->VK->Prop):Prop:=
 ∀ (pins:List (Addr×Obj)) (s:Shared) (σ:St) (H:Hp) (x:V) (xs:List V) (v:Value) (us:List Value) (Q:VK),Inv X pins σ H s->RelV x v->Vals xs us->r x xs H Q->
   wpAny (model X.prog X.w) X.A (call (.builtin id) (v::us)) (EP X pins σ Q) X.xe s
section
variable {X:Cx} {a b:Expr} {ta tb:TE} {pos:Pos}
theorem IxR.or {r r':R2} (h:IxR X r) (h':IxR X r'):IxR X (fun x y H Q=>r x y H Q\/r' x y H Q):=by
 intro value slice pins s σ H x y v u Q I rx ry q hs
 rcases q with q | q
 ·exact h value slice pins s σ H x y v u Q I rx ry q hs
 ·exact h' value slice pins s σ H x y v u Q I rx ry q hs
theorem zkn {r:R2} (hr:IxR X r) (ha:PE X a ta) (hb:PE X b tb) (hs:PlainIx b):PE X (.Subscript a b pos) (tOp r ta tb):=by
 intro pins s σ H Q I h
 exact Subscript_ (binT ha hb I h fun v u s2 x y H2 I2 rx ry q=>hr a b pins s2 σ H2 x y v u Q I2 rx ry q (hs _ _))
def rIxL (K:W.Frag):R2:=fun x y H Q=>∃ p xs i v,x=.ref p/\y=.int i/\SqL K H p xs/\atI xs i=some v/\Q v H
def rIxT (K:W.Frag):R2:=fun x y H Q=>∃ p xs i v,x=.ref p/\y=.int i/\SqT K H p xs/\atI xs i=some v/\Q v H
def rIxS:R2:=fun x y H Q=>∃ z i c,x=.str z/\y=.int i/\z.length<=sizeLine/\atI z.cps.toList i=some c/\Q (.str ⟨#[c]⟩) H
theorem zlo:IxR X (rIxL X.K):=by
 intro value slice pins s σ H x y v u Q I rx ry h hs
 obtain ⟨p,xs,i,z,rfl,rfl,hq,he,q⟩:=h
 cases rx
 obtain ⟨t,rfl⟩:=ry
 obtain ⟨its,r,pl,hz⟩:=I.list hq
 obtain ⟨j,h1,h2,h3,h4,h5⟩:=zfg he
 obtain ⟨w,ew,rw'⟩:=r.get h2
 have hl:=r.length
 have hn:=line63
 have fin:EP X pins σ Q w s:=⟨z,H,I,rw',q⟩
 by_cases h0:0<=i
 ·have hj:i.toNat=j:=by
   rw [seqIndex_of h0 h5] at h1
   exact qh h1
  exact item_listR pl.isList h0 (by lia) (by rw [hj]; simpa using ew) fin hs
 ·have hj:(i + (its.toArray.size:Int)).toNat=j:=by
   rw [seqIndex_neg (by lia) h4] at h1
   rw [size_toArray,<- hl]
   exact qh h1
  exact subscriptTail_builtinR (x:=w) pl.isList.typeIs slot_list_getitem.lookup
   (wpAny_getItem_list_neg (Q:=fun r s'=>r=w/\EP X pins σ Q r s') pl.isList (by lia) (by rw [size_toArray] <;> lia) (by lia) (by rw [hj]; simpa using ew) ⟨rfl,fin⟩) hs
theorem zmO:IxR X (rIxT X.K):=by
 intro value slice pins s σ H x y v u Q I rx ry h hs
 obtain ⟨p,xs,i,z,rfl,rfl,hq,he,q⟩:=h
 cases rx
 obtain ⟨t,rfl⟩:=ry
 obtain ⟨its,r,pl,hz⟩:=I.tuple hq
 obtain ⟨j,h1,h2,h3,h4,h5⟩:=zfg he
 obtain ⟨w,ew,rw'⟩:=r.get h2
 have hl:=r.length
 have hn:=line63
 have fin:EP X pins σ Q w s:=⟨z,H,I,rw',q⟩
 exact subscriptTail_builtinR (x:=w) pl.typeIs slot_tuple_getitem.lookup
  (getItem_tuple (j:=j) (Q:=fun r s'=>r=w/\EP X pins σ Q r s') pl (by lia) (by lia) (by rw [size_toArray,<- hl]; exact h1) (by simpa using ew) ⟨rfl,fin⟩) hs
theorem zmG:IxR X rIxS:=by
 intro value slice pins s σ H x y v u Q I rx ry h hs
 obtain ⟨z,i,c,rfl,rfl,hz,he,q⟩:=h
 obtain ⟨t,rfl⟩:=rx
 obtain ⟨t',rfl⟩:=ry
 obtain ⟨j,h1,h2,h3,h4,h5⟩:=zfg he
 have hl:z.cps.toList.length=z.length:=by simp [Str.length]
 rw [hl] at h1 h4 h5
 have hn:=line63
 exact tail_any (typeIs_str s z t) slot_str_getitem.lookup (getItem_str (c:=c) (by
  have e1:decide (i < -(2 ^ 63:Int))=false:=decide_eq_false (by lia)
  have e2:decide (i ≥ 2 ^ 63)=false:=decide_eq_false (by lia)
  rw [e1,e2,Bool.or_false]) (by rw [h1]; simpa using h2) ⟨.str ⟨#[c]⟩,H,I.tok _,⟨_,rfl⟩,q⟩) hs
def rIx (K:W.Frag):R2:=fun x y H Q=>rIxL K x y H Q\/rIxT K x y H Q\/rIxS x y H Q
theorem zkd:IxR X (rIx X.K):=zlo.or (zmO.or zmG)
theorem zgR (its:List Value) (n j:Nat) (u:Value):Obj.mapSeq (·.setIfInBounds j u) { cls:=.type "list",data:=.seq its.toArray n }={ cls:=.type "list",data:=.seq (its.set j u).toArray n }:=by
 simp [Obj.mapSeq]
theorem Inv.lst {pins:List (Addr×Obj)} {σ:St} {H:Hp} {s:Shared} {p:Addr} {xs:List V} (I:Inv X pins σ H s) (h:H p=some (.lst xs)):
  ∃ (its:List Value) (n:Nat),Vals xs its/\s.heap.get? p=some { cls:=.type "list",data:=.seq its.toArray n }/\xs.length<=sizeLine:=by
 obtain ⟨z,its,n,r,e⟩:=I.hok p _ h
 exact ⟨its,n,r,e,z⟩
theorem Inv.lstUpd {pins:List (Addr×Obj)} {σ:St} {H:Hp} {s:Shared} {p:Addr} {xs ys:List V} {its its':List Value} {n n':Nat} {f:Obj->Obj} (I:Inv X pins σ H s) (h:H p=some (.lst xs))
  (ho:s.heap.get? p=some { cls:=.type "list",data:=.seq its.toArray n }) (hf:f { cls:=.type "list",data:=.seq its.toArray n }={ cls:=.type "list",data:=.seq its'.toArray n' }) (r:Vals ys its') (hz:ys.length<=sizeLine) (t:Nat):
  Inv X pins σ (upd H p (.lst ys)) { s with heap:=s.heap.update p f,toks:=t }:=by
 have e:(s.heap.update p f).get? p=some { cls:=.type "list",data:=.seq its'.toArray n' }:=by
  rw [Heap.get?_update_self f ho (by rw [hf] <;> rfl),hf]
 refine I.write (x:=p) (e:=p) (by rw [h]; trivial) (.inl rfl) (fun b u hb q=>(Heap.get?_update_other _ _ (Ne.symm hb)).trans q) ⟨_,e⟩ ?_
 exact ⟨hz,its',n',r,e⟩
def rSetL:V->V->V->Hp->(Hp->Prop)->Prop:=fun o i v H Q=>∃ p xs k j,o=.ref p/\i=.int k/\H p=some (.lst xs)/\ixN xs.length k=some j/\Q (upd H p (.lst (xs.set j v)))
theorem ziO:PSet X rSetL:=by
 intro pins s σ H o i v ov iv u Q I ro ri rv h
 obtain ⟨p,xs,k,j,rfl,rfl,hp,hj,q⟩:=h
 cases ro
 obtain ⟨t,rfl⟩:=ri
 obtain ⟨its,n,r,ho,hz⟩:=I.lst hp
 obtain ⟨h1,h2,h3,h4⟩:=ze6 hj
 have hl:=r.length
 have hn:=line63
 have I':Inv X pins σ (upd H p (.lst (xs.set j v))) { s with heap:=s.heap.update p (Obj.mapSeq (·.setIfInBounds j u)) }:=
  I.lstUpd hp ho (zgR its n j u) (r.set rv j) (by rw [List.length_set]; exact hz) s.toks
 by_cases h0:0<=k
 ·have hk:k.toNat=j:=by
   rw [seqIndex_of h0 h4] at h1
   exact qh h1
  exact W.ki_setAt ho h0 (by lia) (by rw [size_toArray,<- hl]; exact h4) (by rw [hk]; exact ⟨_,I',q⟩)
 ·have hk:(k + (its.toArray.size:Int)).toNat=j:=by
   rw [seqIndex_neg (by lia) h3] at h1
   rw [size_toArray,<- hl]
   exact qh h1
  exact W.ki_setBack ho (by lia) (by rw [size_toArray,<- hl]; exact h3) (by lia) (by rw [hk]; exact ⟨_,I',q⟩)
theorem zeh (lo hi:Option Int) (n:Nat):(sliceBounds lo hi none n).1=((HT.sIx n 0 lo:Nat):Int)/\(sliceBounds lo hi none n).2.1=((HT.sIx n n hi:Nat):Int)/\(sliceBounds lo hi none n).2.2=1:=by
 have clip:∀ (i:Int) (n d:Nat),max 0 (min (if i < 0 then i + (n:Int) else i) (n:Int))=((HT.sIx n d (some i):Nat):Int):=fun i n d=>by
  show _=((if i < 0 then (i + (n:Int)).toNat else min i.toNat n:Nat):Int)
  split <;> lia
 refine ⟨?_,?_,rfl⟩
 ·cases lo with
  | none=>rfl
  | some i=>exact clip i n 0
 ·cases hi with
  | none=>rfl
  | some i=>exact clip i n n
theorem zdW (its:List Value) (lo hi:Option Int):slicePick its.toArray lo hi none=((its.drop (HT.sIx its.length 0 lo)).take (HT.sIx its.length its.length hi - HT.sIx its.length 0 lo)).toArray:=by
 obtain ⟨h1,h2,h3⟩:=zeh lo hi its.toArray.size
 unfold slicePick
 rw [h1,h2,h3]
 simp only [sliceRange_one,pick_run,size_toArray] <;> rfl
def rSlL (K:W.Frag):V->Option Int->Option Int->Hp->VK->Prop:=fun x lo hi H Q=>∃ a xs,x=.ref a/\SqL K H a xs/\∀ p,H p=none->Q (.ref p) (upd H p (.lst (cutV xs lo hi)))
theorem zkZ:SlR X (rSlL X.K):=by
 intro pins s σ H x v vl vu lo hi sl Q I rx hs pl pu h
 obtain ⟨a,xs,rfl,hx,q⟩:=h
 cases rx
 obtain ⟨its,r,ht,hz⟩:=I.list hx
 have hlen:=r.length
 refine ⟨"list",_,slot_list_getitem.lookup,ht.isList.typeIs,?_⟩
 refine wpAny_getItem_list_slice ht.isList hs pl pu .none (by simp) ?_ (by rw [size_toArray] <;> lia)
 rw [zdW,<- hlen]
 refine ⟨.ref s.heap.objs.size,_,I.laid (t':=s.toks) (o:=.lst (cutV xs lo hi)) (fun b ob q=>qc _ q) (le_refl _) ?_,rfl,q _ (I.hok.fresh (le_refl _))⟩
 exact ⟨le_trans (zcX xs lo hi) hz,_,0,(r.drop (HT.sIx xs.length 0 lo)).take (HT.sIx xs.length xs.length hi - HT.sIx xs.length 0 lo),qd _ rfl⟩
theorem zez:CallR X (.builtin "len") (fun xs H Q=>∃ p ys,xs=[.ref p]/\(SqL X.K H p ys\/SqT X.K H p ys)/\Q (.int ys.length) H):=by
 intro pins s σ H xs us Q I r h
 obtain ⟨p,ys,rfl,hq,q⟩:=h
 obtain ⟨u,rfl,rx⟩:=vals1 r
 cases rx
 have hn:=line63
 rcases hq with hq | hq
 ·obtain ⟨its,r',pl,hz⟩:=I.list hq
  have hlen:=r'.length
  exact Calls.call_len_list pl.isList (by simp only [size_toArray] <;> lia) ⟨.int ys.length,H,I.tok _,⟨s.toks + 1,by rw [size_toArray,hlen]⟩,q⟩
 ·obtain ⟨its,r',pl,hz⟩:=I.tuple hq
  have hlen:=r'.length
  exact len_tuple pl (by simp only [size_toArray] <;> lia) ⟨.int ys.length,H,I.tok _,⟨s.toks + 1,by rw [size_toArray,hlen]⟩,q⟩
theorem zef:CallR X (.builtin "len") (fun xs H Q=>∃ z,xs=[.str z]/\z.length<=sizeLine/\Q (.int z.length) H):=by
 intro pins s σ H xs us Q I r h
 obtain ⟨z,rfl,hz,q⟩:=h
 obtain ⟨u,rfl,t,rfl⟩:=vals1 r
 have hn:=line63
 exact len_str (by lia) ⟨.int z.length,H,I.tok _,⟨_,rfl⟩,q⟩
theorem zd7:CallR X (.type "list") (fun xs H Q=>∃ p ys,xs=[.ref p]/\(SqL X.K H p ys\/SqT X.K H p ys)/\∀ l,H l=none->Q (.ref l) (upd H l (.lst ys))):=by
 intro pins s σ H xs us Q I r h
 obtain ⟨p,ys,rfl,hq,q⟩:=h
 obtain ⟨u,rfl,rx⟩:=vals1 r
 cases rx
 have fin:∀ (its:List Value),Vals ys its->ys.length<=sizeLine->∀ (h':Heap) (c':Nat),(∀ b o',s.heap.get? b=some o'->h'.get? b=some o')->
   h'.get? s.heap.objs.size=some { cls:=.type "list",dict:=none,data:=.seq its.toArray c',slots:=#[] }->EP X pins σ Q (.ref s.heap.objs.size) { s with heap:=h' }:=fun its r' hz h' c' kp e=>
  ⟨.ref s.heap.objs.size,_,I.laid (t':=s.toks) kp (le_refl _) (show ObjOk X.prog X.w _ h' _ (.lst ys) from ⟨hz,its,c',r',e⟩),rfl,q _ (I.hok.fresh (le_refl _))⟩
 rcases hq with hq | hq
 ·obtain ⟨its,r',pl,hz⟩:=I.list hq
  have hlen:=r'.length
  obtain ⟨o,ho,hc,n,hd⟩:=pl.isList
  exact call_list_seq p (.inl rfl) ho hc hd (fun h' c' kp e=>fin its r' hz h' c' kp e) (by simp only [size_toArray] <;> lia)
 ·obtain ⟨its,r',pl,hz⟩:=I.tuple hq
  have hlen:=r'.length
  obtain ⟨o,ho,hc,n,hd⟩:=pl
  exact call_list_seq p (.inr rfl) ho hc hd (fun h' c' kp e=>fin its r' hz h' c' kp e) (by simp only [size_toArray] <;> lia)
theorem zdI:CallR X (.type "tuple") (fun xs H Q=>∃ p ys,xs=[.ref p]/\((SqL X.K H p ys/\∀ l,H l=none->Q (.ref l) (upd H l (.tup ys)))\/(SqT X.K H p ys/\Q (.ref p) H))):=by
 intro pins s σ H xs us Q I r h
 obtain ⟨p,ys,rfl,h⟩:=h
 obtain ⟨u,rfl,rx⟩:=vals1 r
 cases rx
 rcases h with ⟨hq,q⟩ | ⟨hq,q⟩
 ·obtain ⟨its,r',pl,hz⟩:=I.list hq
  have hlen:=r'.length
  refine call_tuple_list pl.isList (fun h' kp=>?_) (by simp only [size_toArray] <;> lia)
  have I1:Inv X pins σ H { s with heap:=h' }:=I.kept (t':=s.toks) kp
  have I2:Inv X pins σ (upd H h'.objs.size (.tup ys)) { s with heap:=h'.push { cls:=.type "tuple",data:=.seq its.toArray } }:=
   I1.laid (t':=s.toks) (fun b o e=>qc _ e) (le_refl _) (show ObjOk X.prog X.w _ _ _ (.tup ys) from ⟨hz,its,r',IsTup.new _ _⟩)
  exact ⟨.ref h'.objs.size,_,I2,rfl,q _ (I1.hok.fresh (le_refl _))⟩
 ·obtain ⟨its,r',pl,hz⟩:=I.tuple hq
  exact call_tuple_same pl ⟨.ref p,H,I,rfl,q⟩
def tyV (K:W.Frag) (T:String) (x:V) (H:Hp):Prop:=match x with
 | .str _=>T="str"
 | .int _=>T="int"
 | .ref p=>(T="list"/\∃ xs,SqL K H p xs)\/(T="tuple"/\∃ o,K.lookup p=some o/\o.cls=.type "tuple"/\o.dict=none)\/
   (T="dict"/\((∃ kvs,H p=some (.dK kvs))\/∃ kvs,H p=some (.dT kvs)))
 | _=>False
theorem zmj {pins:List (Addr×Obj)} {σ:St} {H:Hp} {s:Shared} {T:String} {x:V} {v:Value} (I:Inv X pins σ H s) (r:RelV x v) (ty:tyV X.K T x H):
  s.TypeIs v T/\∀ a,v=.ref a->∃ ob,s.heap.get? a=some ob/\ob.dict=none:=by
 cases x with
 | str z=>
   obtain ⟨t,rfl⟩:=r
   cases (show T="str" from ty)
   exact ⟨typeIs_str s z t,fun _ e=>nomatch e⟩
 | int i=>
   obtain ⟨t,rfl⟩:=r
   cases (show T="int" from ty)
   exact ⟨typeIs_int s i t,fun _ e=>nomatch e⟩
 | ref p=>
   cases r
   rcases ty with ⟨rfl,xs,hq⟩ | ⟨rfl,o,hk,hc,hd⟩ | ⟨rfl,hk⟩
   ·obtain ⟨its,_,pl,_⟩:=I.list hq
    refine ⟨pl.isList.typeIs,fun a e=>?_⟩
    cases e
    obtain ⟨o,n,e,c,hd,_⟩:=pl
    exact ⟨o,e,hd⟩
   ·refine ⟨⟨o,I.kIn p o hk,hc⟩,fun a e=>?_⟩
    cases e
    exact ⟨o,I.kIn _ o hk,hd⟩
   ·have z:∃ o,s.heap.get? p=some o/\o.ExactDict:=by
     rcases hk with ⟨kvs,hk⟩ | ⟨kvs,hk⟩
     ·obtain ⟨_,_,_,_,o,_,_,e,ex,_⟩:=I.hok p _ hk
      exact ⟨o,e,ex⟩
     ·obtain ⟨_,_,_,_,o,_,_,e,ex,_⟩:=I.hok p _ hk
      exact ⟨o,e,ex⟩
    obtain ⟨o,e,ex⟩:=z
    refine ⟨⟨o,e,ex.1⟩,fun a e2=>?_⟩
    cases e2
    exact ⟨o,e,ex.2.1⟩
 | _=>exact False.elim ty
def tBM (K:W.Frag) (T:String) (r:V->List V->Hp->VK->Prop) (to:TE) (t:TA):TE:=fun σ H Q=>to σ H fun x H1=>tyV K T x H1/\t σ H1 fun xs H2=>r x xs H2 Q
variable {o e:Expr} {es:List Expr} {to:TE} {t:TA} {name:Str} {apos cpos:Pos} {T id:String} {r:V->List V->Hp->VK->Prop}
theorem zgY (pa:PlainAttrs T) (slot:Slot T name id) (hty:typeOf (.builtin id)=pure (.type "method_descriptor")) (hm:MtR X id r) (ho:PE X o to) (ha:PA X (e::es) t)
  (hbase:attributeBase o name X.env (eval o X.env)=eval o X.env:=by rfl)
  (hfew:((backTo cpos (starEach (e::es) X.env)).all (fun x=>!x.1) && (backToKw cpos (keywordEach [] X.env)).all (fun x=>x.1.isSome)
   && decide ((e::es).length + ([]:List Keyword).length + (if ([]:List Keyword).isEmpty then 0 else 1) < 30))=true:=by rfl)
  (hline:(apos.endLine == cpos.line)=true:=by rfl) (hs:starEach (e::es) X.env=(false,eval e X.env)::starEach es X.env:=by rfl) (hplain:(backTo cpos (starEach es X.env)).any (·.1)=false:=by rfl):
  PE X (.Call (.Attribute o name apos) (e::es) [] cpos) (tBM X.K T r to t):=by
 intro pins s σ H Q I h
 refine wpAny_Call_method_late hbase hfew hline rfl (thn (ho pins s σ H _ I h) fun v s1 ⟨x,H1,I1,r1,ty,q1⟩=>?_)
 obtain ⟨h1,h2⟩:=zmj I1 r1 ty
 refine ⟨T,id,pa,slot,hty,h1,h2,?_⟩
 have hA:=ha cpos pins s1 σ H1 _ I1 q1
 rw [hs] at hA ⊢
 refine Calls.callWith_builtin (by show (false || (backTo cpos (starEach es X.env)).any (·.1))=false; rw [hplain] <;> rfl) (Calls.evalArgs_plain ?_)
 exact thn hA fun us s2 ⟨vs,H2,I2,r2,q2⟩=>hm pins s2 σ H2 x vs v us Q I2 r1 r2 q2
end
end L2
namespace L2
open PySem PySem.Spec PyProof.Rows
def MtM (X:Cx) (id:String) (r:V->List V->Hp->VK->Prop):Prop:=
 ∀ (pins:List (Addr×Obj)) (s:Shared) (σ:St) (H:Hp) (x:V) (xs:List V) (v:Value) (us:List Value) (Q:VK),Inv X pins σ H s->RelV x v->Vals xs us->r x xs H Q->
   wpAny (model X.prog X.w) X.A (call (.builtin id) (v::us)) (EP X pins σ Q) X.xe s
theorem Vals.one:∀ {x:V} {us:List Value},Vals [x] us->∃ u,us=[u]/\RelV x u:=by
 intro x us h
 cases h with
 | cons r t=>cases t; exact ⟨_,rfl,r⟩
theorem Vals.eraseIdx:∀ {xs:List V} {us:List Value} (i:Nat),Vals xs us->Vals (xs.eraseIdx i) (us.eraseIdx i)
 | _,_,_,.nil=>.nil
 | _,_,0,.cons _ t=>t
 | _,_,i + 1,.cons r t=>.cons r (Vals.eraseIdx i t)
theorem zej {α:Type}:∀ (l:List α) (i:Nat),(l.eraseIdx i).length<=l.length
 | [],_=>le_refl _
 | _::_,0=>le_succ _
 | _::r,i + 1=>Nat.succ_le_succ (zej r i)
section
variable {X:Cx} {pins:List (Addr×Obj)} {σ:St} {H:Hp} {s:Shared} {l b:Addr} {xs ys zs:List V}
theorem Inv.lset {its its':List Value} {n:Nat} {f:Array Value->Array Value} {t':Nat} (I:Inv X pins σ H s) (hH:H l=some (.lst xs))
  (e:s.heap.get? l=some { cls:=.type "list",data:=.seq its.toArray n }) (hf:f its.toArray=its'.toArray) (hv:Vals ys its') (hz:ys.length<=sizeLine):
  Inv X pins σ (upd H l (.lst ys)) { s with heap:=s.heap.update l (Obj.mapSeq f),toks:=t' }:=by
 have q:=PySem.IsL.update e f
 rw [hf] at q
 refine I.write (x:=l) (e:=l) (by rw [hH]; exact trivial) (.inl rfl) (fun b' u hb hu=>(Heap.get?_update_other s.heap (Obj.mapSeq f) (Ne.symm hb)).trans hu) ⟨_,q⟩ ?_
 exact ⟨hz,its',_,hv,q⟩
theorem Inv.lnew {its:List Value} {t':Nat} (I:Inv X pins σ H s) (hv:Vals ys its) (hz:ys.length<=sizeLine):
  Inv X pins σ (upd H s.heap.objs.size (.lst ys)) { s with heap:=s.heap.push { cls:=.type "list",data:=.seq its.toArray },toks:=t' }:=
 I.laid (fun _ _ q=>qc _ q) (le_refl _) ⟨hz,its,0,hv,qd _ rfl⟩
theorem Inv.fresh (I:Inv X pins σ H s):H s.heap.objs.size=none:=I.hok.fresh (le_refl _)
theorem Inv.lstM (I:Inv X pins σ H s) (hH:H l=some (.lst xs)):xs.length<=sizeLine/\∃ (its:List Value) (n:Nat),Vals xs its/\xs.length=its.length/\s.heap.get? l=some { cls:=.type "list",data:=.seq its.toArray n }:=by
 obtain ⟨z,its,n,r,e⟩:=I.hok l _ hH
 exact ⟨z,its,n,r,r.length,e⟩
end
section
variable {X:Cx}
def rAppend:V->List V->Hp->VK->Prop:=fun x vs H Q=>∃ l xs y,x=.ref l/\vs=[y]/\H l=some (.lst xs)/\xs.length < sizeLine/\Q .non (upd H l (.lst (xs++[y])))
theorem zcR:MtM X "list.append" rAppend:=by
 intro pins s σ H x vs v us Q I rx rv h
 obtain ⟨l,xs,y,rfl,rfl,hH,hz,q⟩:=h
 cases rx
 obtain ⟨u,rfl,ru⟩:=rv.one
 obtain ⟨z,its,n,r,hl,e⟩:=I.lstM hH
 refine call_meets F.slot_list_append ⟨_,e,rfl⟩ F.entry_list_append (F.args_list_append_2 _ _) (PySem.list_append l its.toArray n u (by rw [size_toArray]; lia)) ⟨e,?_⟩
 refine ⟨.non,_,I.lset (its':=its++[u]) hH e (by simp) (r.append (.cons ru .nil)) ?_,rfl,q⟩
 rw [length_append,length_singleton]
 lia
def rPopAt:V->List V->Hp->VK->Prop:=fun x vs H Q=>∃ l xs i k y,x=.ref l/\vs=[.int i]/\H l=some (.lst xs)/\-(2 ^ 63)<=i/\i < 2 ^ 63/\seqIndex? i xs.length=some k/\xs[k]?=some y/\Q y (upd H l (.lst (xs.eraseIdx k)))
theorem zjQ:MtM X "list.pop" rPopAt:=by
 intro pins s σ H x vs v us Q I rx rv h
 obtain ⟨l,xs,i,k,y,rfl,rfl,hH,h1,h2,hk,hy,q⟩:=h
 cases rx
 obtain ⟨u,rfl,ru⟩:=rv.one
 obtain ⟨t,rfl⟩:=ru
 obtain ⟨z,its,n,r,hl,e⟩:=I.lstM hH
 obtain ⟨w,hw,rw'⟩:=r.get hy
 refine call_meets F.slot_list_pop ⟨_,e,rfl⟩ F.entry_list_pop (F.args_list_pop_2 _ _)
  (MeetsSeq.list_pop_at l its.toArray n i t k w (fitsIndex_both h1 h2) (by rw [size_toArray,<- hl]; exact hk) (by rw [<- getElem?_toList]; exact hw) (by rw [size_toArray]; lia)) ⟨e,?_⟩
 refine ⟨y,_,I.lset (its':=its.eraseIdx k) hH e ?_ (r.eraseIdx k) ?_,rw',q⟩
 ·show its.toArray.eraseIdxIfInBounds k=(its.eraseIdx k).toArray
  rw [List.eraseIdxIfInBounds_toArray]
 ·have:=zej xs k
  lia
end
end L2
end
section
namespace Att
open PySem PySem.W PySem.Calls PyProof.Rows
theorem zcM {P:Params} {h:Heap}:∀ (ns:List Int) (vs:List Value),WellAll P h vs (ns.map WData.int)->IntsAre vs ns:=by
 intro ns
 induction ns with
 | nil=>
   intro vs w
   rw [map_nil] at w
   cases w
   exact .nil
 | cons n ns ih=>
   intro vs w
   rw [map_cons] at w
   cases w with
   | cons a b=>
     cases a
     exact .cons _ _ (ih _ b)
theorem zio {l:OpenLaw} {n:Nat} (hn:l.most=some n) {P:Params} {h:Heap} {args:List WData} {vals:List Value}
  (hpre:l.row.toRowW.claim.pre args=true) (hwl:WellAll P h vals args):
  ∃ a vs ns,vals=[Value.ref a]/\args=[WData.list (ns.map WData.int)]/\h.get? a=some { cls:=.type "list",data:=.seq vs.toArray }/\IntsAre vs ns/\ns.length<=n:=by
 have hsh:WShape.hasAll [] args [.list .int]=true:=(pre_splitW hpre).1
 have hc:l.pre.holds [] { args:=args }=true:=(pre_splitW hpre).2
 obtain ⟨d,r,rfl,h1,h2⟩:=hasAllW_cons hsh
 obtain rfl:=hasAllW_nil h2
 obtain ⟨xs,rfl,h3⟩:=hasW_list h1
 obtain ⟨ns,rfl⟩:=items_int h3
 have hlen:ns.length<=n:=by
  unfold OpenLaw.pre at hc
  have h4:(WTm.not (.lt (.lit (.int (n:Int))) (.len (.arg 0)))).holds [] { args:=[.list (ns.map .int)] }=true:=by
   have h4:=(holds_andW hc).1
   rw [hn] at h4
   exact h4
  have h5:=condW_of h4 (w_not (w_lt w_lit (w_len_list (w_arg rfl))))
  rw [length_map] at h5
  refine Nat.le_of_not_lt fun q=>?_
  have q':(n:Int) < ((ns.length:Nat):Int):=by lia
  first
   | (rw [decide_eq_true q'] at h5; exact absurd h5 (by decide))
   | (simp at h5; lia)
 cases hwl with
 | cons w1 w2=>
   cases w2
   cases w1 with
   | list ho hall=>exact ⟨_,_,ns,rfl,rfl,ho,zcM ns _ hall,hlen⟩
theorem zhA (l:OpenLaw) (args:List WData):l.row.toRowW.claim.post args (.bool true) args=true:=
 postW_of (r:=l.row.toRowW) (X:=(true == true))
  (show WShape.has [] (.bool true) .bool=true by first | rfl | decide | simp [WShape.has,WShape.arms,WShape.armsAll])
  (show (WTm.eq .res (.lit (.bool true))).value [] { args:=args,res:=some (.bool true),after:=args }=some (.bool (true == true)) from w_eq_bool (w_res rfl) w_lit) rfl
theorem attach_call {l:OpenLaw} {n:Nat} {q:Program} {loose:List Str} {XP:(Str->Option Value)->Heap->Prop} {YP:World->Heap->Prop} {d:DefRec}
  (hn:l.most=some n) (hdf:d.params.defaults=[])
  (call:∀ (w:World) (s₀ s₁:Shared) (mg mb:Str->Option Value) (fa:Addr) (o:Obj) (pm cd doc:Value) (a:Addr) (vs:List Value) (ns:List Int),
   Ground q loose [] XP w s₀ mg mb s₁.heap->YP w s₁.heap->
   s₁.heap.get? fa=some o->o.data=.func (docDef d.name d.params d.body d.scope pm cd doc)->s₁.heap.CodeRec cd d.name->mg d.name=some (.ref fa)->
   s₁.heap.get? a=some { cls:=.type "list",data:=.seq vs.toArray }->IntsAre vs ns->ns.length<=n->s₁.gens=#[]->
   codeAny (model l.prog w) callerA (.call (.ref fa) ⟨[.ref a],[]⟩) (fun r s'=>r=.ok (.ret (.bool true))/\OldK s₁.heap s'.heap/\s'.os=s₁.os/\AllBare s'.gens) s₁):
  WalkO q loose XP YP l.row.toRowW d [] (fun f vs=>PySem.call f vs):=by
 intro w s₀ s₁ mg mb G Y fa o pm cd doc dV kV ho hd hcd hD hmg hg args vals as hpre hlay hrd hwl hlo
 obtain rfl:dV=.none:=Dflts.none hD hdf
 obtain rfl:kV=.none:=Dflts.noKw hD
 obtain ⟨a,vs,ns,rfl,rfl,hobj,hints,hlen⟩:=zio hn hpre hwl
 refine enter_call (codeAny_mono (call w s₀ s₁ mg mb fa o pm cd doc a vs ns G Y ho (fd_plain hd) hcd hmg hobj hints hlen hg) fun r s' hq=>?_)
 obtain ⟨rfl,h2,h3,h4⟩:=hq
 exact ⟨.inl ⟨.bool true,.bool true,[],rfl,fun _=>rfl,.bool true,zhA l _,fun _=>⟨List.Pairwise.nil,fun _ hm=>(nomatch hm)⟩⟩,h2,h3,h4⟩
end Att
namespace L2
open PySem PySem.Spec PyProof.Rows
theorem zaW:∀ {vs:List Value} {ns:List Int},IntsAre vs ns->Vals (ns.map V.int) vs
 | _,_,.nil=>.nil
 | _,_,.cons n t h=>.cons ⟨t,rfl⟩ (zaW h)
def Only (H:Hp):Prop:=∀ b,H b=none\/∃ o xs,H b=some (.frz o (.lst xs))
theorem zjl {P:Program} {w:World} {K:W.Frag} {mg mb:Str->Option Value} {CX:CXT} {k:Nat} {fa a:Addr} {fd:FuncData} {x:Str} {sp:Sp} {s₁:Shared} {vs:List Value} {ns:List Int}
  (KX:K.In s₁.heap) (hns:s₁.heap.Ns mainGlobals mg) (hb:s₁.heap.Ns builtinsNs mb) (hbb:∀ x:Str,x≠"__name__"->mb x=bootBuiltins x) (hlim:s₁.heap.NoLimit) (hg:s₁.gens=#[])
  (ha:s₁.heap.get? a=some { cls:=.type "list",data:=.seq vs.toArray }) (hi:IntsAre vs ns) (hl:ns.length<=sizeLine) (hr:Room k callerA)
  (F:∀ base:Heap,K.In base->base.Ns mainGlobals mg->FnOk P w K mg base CX k fa fd [x] sp) (hbind:∀ (s:Shared) (u:Value),BindsTo s fd ⟨[u],[]⟩ [(x,u)])
  (hsp:∀ H:Hp,Only H->SqL K H a (ns.map V.int)->sp [.ref a] H (fun v _=>v=.bl true) fun _ _ _=>False)
  (hCX:∀ H e s',CX [] H s₁ (fun _ _ _=>False) e s'->False):
  codeAny (model P w) callerA (.call (.ref fa) ⟨[.ref a],[]⟩) (fun r s'=>r=.ok (.ret (.bool true))/\OldK s₁.heap s'.heap/\s'.os=s₁.os/\AllBare s'.gens) s₁:=by
 have rv:=zaW hi
 have lenV:=hi.length
 -- from an abstract heap in which nothing but the script may be tracked
 have core:∀ H:Hp,Only H->SqL K H a (ns.map V.int)->HOk P w H s₁.heap->(∀ b,H b≠none->b=a)->(H a≠none->K.lookup a=none)->
   codeAny (model P w) callerA (.call (.ref fa) ⟨[.ref a],[]⟩) (fun r s'=>r=.ok (.ret (.bool true))/\OldK s₁.heap s'.heap/\s'.os=s₁.os/\AllBare s'.gens) s₁:=by
  intro H hO hS hok hA hK
  have base_of:∀ {b:Addr} {o:Obj},s₁.heap.get? b=some o->H b=none->(hidT s₁.heap H).get? b=some o:=fun e n=>zj2 e n
  have noA:∀ {b:Addr} {o:Obj} {es:Array DictEntry} {ep:Nat},s₁.heap.get? b=some o->o.data=.dict es ep->H b=none:=fun {b o es ep} e d=>by
   cases q:H b with
   | none=>rfl
   | some u=>
     have e':b=a:=hA b (by rw [q]; simp)
     subst e'
     rw [ha] at e; cases e
     have d':Data.seq vs.toArray _=Data.dict es ep:=d
     cases d'
  have nsK:∀ {b:Addr} {m:Str->Option Value},s₁.heap.Ns b m->(hidT s₁.heap H).Ns b m:=fun {b m} ⟨o,es,ep,e,d,r⟩=>⟨o,es,ep,base_of e (noA e d),d,r⟩
  have hKb:K.In (hidT s₁.heap H):=fun b o e=>base_of (KX b o e) (by
   cases q:H b with
   | none=>rfl
   | some u=>
     have e':b=a:=hA b (by rw [q]; simp)
     subst e'
     rw [hK (by rw [q]; simp)] at e; cases e)
  have hM:Mod K mg (hidT s₁.heap H):=⟨hKb,nsK hns,⟨mb,nsK hb,hbb⟩,let ⟨mc,h1,h2⟩:=hlim; ⟨mc,nsK h1,h2⟩⟩
  have e0:Env0 P w K mg (hidT s₁.heap H) callerA [] s₁ H:=⟨rfl,hM,fun b o e=>zk4 e,Nat.le_of_eq (zhk _ _),trivial,fun b hb=>absurd (show b∈([]:List Addr) from hb) (by simp),hok,.of_eq hg⟩
  refine codeAny_mono ((F _ hKb (nsK hns)).run callerA [] s₁ H ⟨[.ref a],[]⟩ [.ref a] [.ref a] _ _ hr e0 (hbind s₁ (.ref a)) (.cons rfl .nil) (hsp H hO hS)) fun r s' h=>?_
  cases r with
  | error e=>exact (hCX H e s' h).elim
  | ok fl=>
    cases fl with
    | next=>exact False.elim h
    | brk=>exact False.elim h
    | cont=>exact False.elim h
    | ret u=>
      obtain ⟨v,H',os,bare,un,hok',r',q⟩:=h
      have q':v=.bl true:=q
      subst q'
      obtain rfl:u=Value.bool true:=r'
      refine ⟨rfl,OldK.of_keep fun b o e=>?_,os,bare⟩
      cases q:H b with
      | none=>exact un.keep b o e q (by intro z; exact absurd (show b∈([]:List Addr) from z) (by simp)) (by simp)
      | some u=>
        rcases hO b with z | ⟨ob,xs,z⟩
        ·rw [q] at z; cases z
        ·have z2:=un.frzs b ob _ z
         obtain ⟨e1,_⟩:=hok b _ z
         obtain ⟨e2,_⟩:=hok' b _ z2
         rw [e] at e1; cases e1
         exact e2
 cases hk:K.lookup a with
 | some o=>
   -- the script is one of the module's own objects
   have e:=KX a o hk
   rw [ha] at e
   cases e
   refine core (fun _=>none) (fun _=>.inl rfl) (.inr ⟨_,vs.toArray,_,hk,rfl,rfl,rfl,by rw [size_toArray,lenV]; exact hl,by simpa using rv⟩) (fun b u z=>by have z':(none:Option HO)=some u:=z; cases z') (fun b z=>absurd rfl z) fun z=>absurd rfl z
 | none=>
   refine core (fun b=>if b=a then some (.frz { cls:=.type "list",data:=.seq vs.toArray } (.lst (ns.map V.int))) else none) (fun b=>?_) (.inl (.inr ⟨{ cls:=.type "list",data:=.seq vs.toArray },if_pos rfl⟩)) (fun b u z=>?_) (fun b z=>?_) fun _=>hk
   ·by_cases hb:b=a
    ·exact .inr ⟨_,_,if_pos hb⟩
    ·exact .inl (if_neg hb)
   ·by_cases hb:b=a
    ·have z':=(if_pos hb).symm.trans z
     cases z'
     subst hb
     exact ⟨ha,by rw [length_map]; exact hl,vs,_,rv,ha⟩
    ·have z':=(if_neg hb).symm.trans z
     cases z'
   ·by_cases hb:b=a
    ·exact hb
    ·exact absurd (if_neg hb) z
end L2
namespace L2
open PySem PySem.Spec PyProof.Rows
theorem walk_of {l:W.OpenLaw} {n k:Nat} {q:Program} {loose:List Str} {XP:(Str->Option Value)->Heap->Prop} {YP:World->Heap->Prop} {d:DefRec} {K:Params->W.Frag} {CX:World->CXT} {sp:World->Sp} {x:Str}
  (hn:l.most=some n) (hn2:n<=sizeLine) (hdf:d.params.defaults=[]) (hr:Room k callerA)
  (hY:∀ (w:World) (h:Heap),YP w h->(K w.params).In h)
  (F:∀ (w:World) (mg:Str->Option Value) (fa:Addr) (h:Heap),(K w.params).In h->h.Ns mainGlobals mg->mg d.name=some (.ref fa)->
   ∃ fd:FuncData,(∀ (s:Shared) (u:Value),BindsTo s fd ⟨[u],[]⟩ [(x,u)])/\
     ∀ base:Heap,(K w.params).In base->base.Ns mainGlobals mg->FnOk l.prog w (K w.params) mg base (CX w) k fa fd [x] (sp w))
  (hsp:∀ (w:World) (H:Hp) (a:Addr) (ns:List Int),ns.length<=n->Only H->SqL (K w.params) H a (ns.map V.int)->sp w [.ref a] H (fun v _=>v=.bl true) fun _ _ _=>False)
  (hCX:∀ (w:World) (H:Hp) (s:Shared) (e:Value) (s':Shared),CX w [] H s (fun _ _ _=>False) e s'->False):
  W.WalkO q loose XP YP l.row.toRowW d [] (fun f vs=>PySem.call f vs):=by
 refine Att.attach_call hn hdf fun w s₀ s₁ mg mb fa o pm cd doc a vs ns G Y ho hd hcd hmg hobj hints hlen hg=>?_
 have KX:=hY w _ Y
 obtain ⟨fd,hb,hF⟩:=F w mg fa _ KX G.T.g hmg
 exact zjl KX G.T.g G.T.b G.T.builtins G.T.nolimit hg hobj hints (le_trans hlen hn2) hr hF hb (fun H hO hS=>hsp w H a ns hlen hO hS) fun H e s'=>hCX w H s₁ e s'
end L2
namespace L2
open PySem PySem.Spec PyProof.Rows
def defArgs (s:Stmt):Arguments:=match s with
 | .FunctionDef _ a _ _ _ _ _ _ _ _=>a
 | _=>{ posonlyargs:=[],args:=[],vararg:=none,kwonlyargs:=[],kw_defaults:=[],kwarg:=none,defaults:=[] }
def defBody (s:Stmt):List Stmt:=match s with
 | .FunctionDef _ _ b _ _ _ _ _ _ _=>b
 | _=>[]
def defScope (s:Stmt):Scope:=match s with
 | .FunctionDef _ _ _ _ _ _ sc _ _ _=>sc
 | _=>{ kind:=.function,names:=[],isGenerator:=false,isCoroutine:=false }
abbrev CX0:CXT:=fun _ _ _ _ _ _=>False
abbrev E0:XK:=fun _ _ _=>False
theorem pass0 {X:Cx}:Passes CX0 X E0:=fun _ _ _ _ _ _ _ h=>h.elim
structure Fun (K:W.Frag) (x qual:Str) (st:Stmt) (f:Addr) (fd:FuncData):Prop where
 ex:∃ (oc:Value) (od:Option Addr) (kV doc pm:Value) (an:Option Addr) (cdv ct:Value) (osl:Array (Option Value)),
  fd=W.fnOf x qual (defArgs st) (defBody st) (defScope st) .none kV doc pm an cdv ct/\K.lookup f=some ⟨oc,od,.func fd,osl⟩/\W.codeIn K cdv qual=true
 kp:W.keepIn K (.ref f)=true
section
variable {P:Program} {w:World} {K:W.Frag} {mg:Str->Option Value} {base:Heap}
theorem Fun.ok {x qual:Str} {st:Stmt} {f:Addr} {fd:FuncData} {N ps:List Str} {k:Nat} {sp:Sp} (F:Fun K x qual st f fd) (S:FnScope N ps (defScope st)) (len:∀ vs H Q E,sp vs H Q E->vs.length=ps.length)
  (hbody:∀ (cdv:Value) (A:Around) (outer:List Env) (s:Shared) (H:Hp) (vs:List V) (Q:VK) (E:XK),Room k (A.deeper (envOfC qual (defScope st) s.heap.objs.size f cdv))->sp vs H Q E->
   ∃ t,PSs (cxOf CX0 P w K mg base N qual (defScope st) f cdv A outer s H E).nox (defBody st) t/\t { nx:=fun _ H'=>Q .non H',rt:=Q } (start N vs) H):FnOk P w K mg base CX0 (k + 1) f fd ps sp:=by
 obtain ⟨oc,od,kV,doc,pm,an,cdv,ct,osl,rfl,lk,hcd⟩:=F.ex
 refine zq2 lk hcd S len fun A outer s H vs Q E hr hsp=>?_
 obtain ⟨t,h,q⟩:=hbody cdv A outer s H vs Q E hr hsp
 exact ⟨t,h.nox,q⟩
theorem Fun.binds {x qual:Str} {st:Stmt} {f:Addr} {fd:FuncData} {ps:List Str} (F:Fun K x qual st f fd)
  (h:∀ (kV doc pm:Value) (an:Option Addr) (cdv ct:Value) (us:List Value),us.length=ps.length->bindArgs (W.fnOf x qual (defArgs st) (defBody st) (defScope st) .none kV doc pm an cdv ct) ⟨us,[]⟩=pure (ps.zip us)):Binds K fd ps []:=by
 obtain ⟨oc,od,kV,doc,pm,an,cdv,ct,osl,rfl,lk,hcd⟩:=F.ex
 exact .all (h kV doc pm an cdv ct)
theorem znO {x qual:Str} {st:Stmt} {f:Addr} {oc:Value} {od an:Option Addr} {osl:Array (Option Value)} {kV doc pm cdv ct:Value} (l:K.lookup f=some ⟨oc,od,.func (W.fnOf x qual (defArgs st) (defBody st) (defScope st) .none kV doc pm an cdv ct),osl⟩)
  (c:W.codeIn K cdv qual=true) (k:W.keepIn K (.ref f)=true):Fun K x qual st f (W.fnOf x qual (defArgs st) (defBody st) (defScope st) .none kV doc pm an cdv ct):=⟨⟨oc,od,kV,doc,pm,an,cdv,ct,osl,rfl,l,c⟩,k⟩
end
theorem zfy {A:Around} {k:Nat} (hr:Room k A):A.units + 1 < cLine:=Nat.lt_of_le_of_lt (Nat.add_le_add_left (by decide:1<=64) _) hr.units
def Same (H H':Hp):Prop:=∀ b o,H b=some o->H' b=some o
theorem Same.refl (H:Hp):Same H H:=fun _ _ h=>h
theorem Same.trans {H H1 H2:Hp} (a:Same H H1) (b:Same H1 H2):Same H H2:=fun c o h=>b c o (a c o h)
end L2
end
section
namespace L2
open PySem PySem.Spec PyProof.Rows
end L2
end
section
namespace FL
open PySem
inductive D where
 | non
 | bl (b:Bool)
 | int (i:Int)
 | str (l:List Nat)
 | tup (l:List D)
 | lst (l:List D)
 | dct (t:Bool) (ks vs:List D)
 | set (l:List D)
 | exc (c:List Nat) (fs:List (List Nat)) (vs:List D)
 deriving Inhabited
inductive S where
 | sh (d:D)
 | lst (l:List S)
 | dct (t:Bool) (ks:List D) (vs:List S)
 | set (l:List D)
 deriving Inhabited
mutual
def S.toD:S->D
 | .sh d=>d
 | .lst l=>.lst (S.toDs l)
 | .dct t ks vs=>.dct t ks (S.toDs vs)
 | .set l=>.set l
def S.toDs:List S->List D
 | []=>[]
 | s::r=>S.toD s::S.toDs r
end
@[simp] theorem S.toDs_map:∀ l:List S,S.toDs l=l.map S.toD
  | []=>rfl
  | s::r=>by rw [S.toDs,S.toDs_map r,map_cons]
@[simp] theorem S.toD_sh (d:D):(S.sh d).toD=d:=rfl
@[simp] theorem S.toD_lst (l:List S):(S.lst l).toD=.lst (l.map S.toD):=by rw [<- S.toDs_map]; rfl
@[simp] theorem S.toD_dct (t:Bool) (ks:List D) (l:List S):(S.dct t ks l).toD=.dct t ks (l.map S.toD):=by rw [<- S.toDs_map]; rfl
@[simp] theorem S.toD_set (l:List D):(S.set l).toD=.set l:=rfl
def S.isSh:S->Bool
 | .sh _=>true
 | _=>false
def S.flat:S->Bool
 | .sh _=>true
 | .lst l=>l.all S.isSh
 | .dct _ _ vs=>vs.all S.isSh
 | .set _=>false
inductive R where
 | v (s:S)
 | loc (i:Nat)
abbrev Env:=List (Option S)
abbrev WQ:=R->Env->Prop
abbrev WX:=D->Env->Prop
abbrev WE:=Env->WQ->WX->Prop
abbrev WT:=Env->(Bool->Env->Prop)->WX->Prop
abbrev WA:=Env->(List R->Env->Prop)->WX->Prop
structure Ends where
 nx:Env->Prop
 rt:WQ
 bk:Env->Prop
 ct:Env->Prop
 ex:WX
abbrev WS:=Ends->Env->Prop
def slot (ρ:Env) (i:Nat):Option S:=match ρ,i with
 | [],_=>none
 | s::_,0=>s
 | _::r,i + 1=>slot r i
@[simp] theorem zne (s:Option S) (r:Env):slot (s::r) 0=s:=rfl
@[simp] theorem znt (s:Option S) (r:Env) (i:Nat):slot (s::r) (i + 1)=slot r i:=rfl
def view (r:R) (ρ:Env):Option D:=match r with
 | .v s=>some s.toD
 | .loc i=>(slot ρ i).map S.toD
def viewC (r:R) (ρ:Env):Option D:=match r with
 | .v s=>some s.toD
 | .loc i=>match slot ρ i with
   | some s=>if s.flat then some s.toD else none
   | none=>none
def give (r:R) (ρ:Env):Option (S×Env):=match r with
 | .v s=>some (s,ρ)
 | .loc i=>match slot ρ i with
   | some s=>some (.sh s.toD,ρ.set i (some (.sh s.toD)))
   | none=>none
def giveAll:List R->Env->Option (List S×Env)
 | [],ρ=>some ([],ρ)
 | r::rs,ρ=>match give r ρ with
   | some (s,ρ1)=>match giveAll rs ρ1 with
     | some (ss,ρ2)=>some (s::ss,ρ2)
     | none=>none
   | none=>none
def ixN (n:Nat) (i:Int):Option Nat:=if 0<=i then (if i < n then some i.toNat else none) else if -(n:Int)<=i then some (i + n).toNat else none
def atI {α:Type} (xs:List α) (i:Int):Option α:=(ixN xs.length i).bind fun j=>xs[j]?
def sIx (n d:Nat):Option Int->Nat
 | none=>d
 | some i=>if i < 0 then (i + n).toNat else min i.toNat n
def cutL {α:Type} (xs:List α) (lo hi:Option Int):List α:=(xs.drop (sIx xs.length 0 lo)).take (sIx xs.length xs.length hi - sIx xs.length 0 lo)
def big:Nat:=1000000
def need {α:Type} (o:Option α) (k:α->Prop):Prop:=match o with
 | some a=>k a
 | none=>False
@[simp] theorem zbJ {α:Type} (a:α) (k:α->Prop):need (some a) k=k a:=rfl
@[simp] theorem zmm {α:Type} (k:α->Prop):need (none:Option α) k=False:=rfl
@[simp] theorem zog {α:Type} {c:Prop} [Decidable c] (a:α) (k:α->Prop):need (if c then some a else none) k=(c/\k a):=by
  by_cases h:c <;> simp [h]
def wVar (i:Nat):WE:=fun ρ Q _=>match slot ρ i with
 | some (.sh d)=>Q (.v (.sh d)) ρ
 | some _=>Q (.loc i) ρ
 | none=>False
def wC (d:D):WE:=fun ρ Q _=>Q (.v (.sh d)) ρ
def wBin (op:D->D->Option S) (a b:WE):WE:=fun ρ Q E=>a ρ (fun x ρ1=>b ρ1 (fun y ρ2=>
 need (viewC x ρ2) fun p=>need (viewC y ρ2) fun q=>need (op p q) fun s=>Q (.v s) ρ2) E) E
def wUn (op:D->Option S) (a:WE):WE:=fun ρ Q E=>a ρ (fun x ρ1=>need (viewC x ρ1) fun p=>need (op p) fun s=>Q (.v s) ρ1) E
def oAdd:D->D->Option S
 | .int i,.int j=>some (.sh (.int (i + j)))
 | .str x,.str y=>if x.length + y.length<=big then some (.sh (.str (x++y))) else none
 | .lst x,.lst y=>if x.length + y.length<=big then some (.lst ((x++y).map .sh)) else none
 | .tup x,.tup y=>if x.length + y.length<=big then some (.sh (.tup (x++y))) else none
 | _,_=>none
def oSub:D->D->Option S
 | .int i,.int j=>some (.sh (.int (i - j)))
 | _,_=>none
def mulOk (i j:Int):Bool:=(decide (-(2 ^ 64) < i) && decide (i < 2 ^ 64)) || (decide (-(2 ^ 64) < j) && decide (j < 2 ^ 64))
def oMul:D->D->Option S
 | .int i,.int j=>if mulOk i j then some (.sh (.int (i * j))) else none
 | _,_=>none
def oFdiv:D->D->Option S
 | .int i,.int j=>if 0 < j/\j < 18446744073709551616 then some (.sh (.int (i / j))) else none
 | _,_=>none
def oMod:D->D->Option S
 | .int i,.int j=>if 0 < j then some (.sh (.int (i % j))) else none
 | _,_=>none
def oPow:D->D->Option S
 | .int i,.int j=>if 0<=j/\j<=1000/\i.natAbs < 2 ^ 64 then some (.sh (.int (i ^ j.toNat))) else none
 | _,_=>none
def oNeg:D->Option S
 | .int i=>some (.sh (.int (-i)))
 | _=>none
mutual
def clash:D->D->Bool
 | .tup l,.tup m=>clashs l m
 | .lst l,.lst m=>clashs l m
 | .int _,.int _=>false
 | .int _,.str _=>false
 | .int _,.non=>false
 | .str _,.int _=>false
 | .str _,.str _=>false
 | .str _,.non=>false
 | .str _,.bl _=>false
 | .bl _,.bl _=>false
 | .bl _,.str _=>false
 | .bl _,.non=>false
 | .non,.int _=>false
 | .non,.str _=>false
 | .non,.bl _=>false
 | .non,.non=>false
 | _,_=>true
def clashs:List D->List D->Bool
 | a::l,b::m=>clash a b || clashs l m
 | _,_=>false
end
mutual
def dep:D->Nat
 | .tup l=>deps l + 1
 | .lst l=>deps l + 1
 | _=>0
def deps:List D->Nat
 | []=>0
 | a::l=>max (dep a) (deps l)
end
open Classical in
def cEq (a b:D):Option Bool:=if clash a b || decide (30 < dep a) then none else some (decide (a=b))
def cNe (a b:D):Option Bool:=(cEq a b).map (!·)
def ltD:D->D->Option Bool
 | .int i,.int j=>some (decide (i < j))
 | .str x,.str y=>some (decide (x < y))
 | _,_=>none
def cLt (a b:D):Option Bool:=ltD a b
def cGt (a b:D):Option Bool:=ltD b a
def cLe:D->D->Option Bool
 | .int i,.int j=>some (decide (i<=j))
 | .str x,.str y=>some (!decide (y < x))
 | _,_=>none
def cGe:D->D->Option Bool
 | .int i,.int j=>some (decide (j<=i))
 | .str x,.str y=>some (!decide (x < y))
 | _,_=>none
def isKey1:D->Bool
 | .int _=>true
 | .str _=>true
 | _=>false
def isKey:Bool->D->Bool
 | true,.tup l=>l.all isKey1
 | false,d=>isKey1 d
 | _,_=>false
open Classical in
def cIn (a:D):D->Option Bool
 | .lst l=>if l.any (fun x=>clash x a || decide (30 < dep x)) then none else some (decide (a∈l))
 | .tup l=>if l.any (fun x=>clash x a || decide (30 < dep x)) then none else some (decide (a∈l))
 | .dct t ks _=>if isKey t a then some (decide (a∈ks)) else none
 | _=>none
open Classical in
def cIs (a:D):D->Option Bool
 | .non=>some (decide (a=.non))
 | .bl b=>some (decide (a=.bl b))
 | _=>none
def cIsNot (a b:D):Option Bool:=(cIs a b).map (!·)
def truth:D->Option Bool
 | .non=>some false
 | .bl b=>some b
 | .int i=>some (decide (i≠0))
 | .str l=>some (!l.isEmpty)
 | .tup l=>some (!l.isEmpty)
 | .lst l=>some (!l.isEmpty)
 | _=>none
def wCmp (op:D->D->Option Bool) (a b:WE):WT:=fun ρ Q E=>a ρ (fun x ρ1=>b ρ1 (fun y ρ2=>
 need (view x ρ2) fun p=>need (view y ρ2) fun q=>need (op p q) fun c=>Q c ρ2) E) E
def wChain (op op':D->D->Option Bool) (a b c:WE):WT:=fun ρ Q E=>a ρ (fun x ρ1=>b ρ1 (fun y ρ2=>
 need (view x ρ2) fun p=>need (view y ρ2) fun q=>need (op p q) fun k=>if k then c ρ2 (fun z ρ3=>need (view y ρ3) fun q=>need (view z ρ3) fun r=>need (op' q r) fun k'=>Q k' ρ3) E else Q false ρ2) E) E
def wTest (a:WE):WT:=fun ρ Q E=>a ρ (fun x ρ1=>need (view x ρ1) fun p=>need (truth p) fun c=>Q c ρ1) E
def wtAnd (a b:WT):WT:=fun ρ Q E=>a ρ (fun c ρ1=>if c then b ρ1 Q E else Q false ρ1) E
def wtOr (a b:WT):WT:=fun ρ Q E=>a ρ (fun c ρ1=>if c then Q true ρ1 else b ρ1 Q E) E
def wtNot (a:WT):WT:=fun ρ Q E=>a ρ (fun c ρ1=>Q (!c) ρ1) E
def wOfT (t:WT):WE:=fun ρ Q E=>t ρ (fun c ρ1=>Q (.v (.sh (.bl c))) ρ1) E
def wAndV (a b:WE):WE:=fun ρ Q E=>a ρ (fun x ρ1=>match view x ρ1 with
 | some (.bl c)=>if c then b ρ1 Q E else Q (.v (.sh (.bl false))) ρ1
 | _=>False) E
def wNil:WA:=fun ρ Q _=>Q [] ρ
def wCons (a:WE) (b:WA):WA:=fun ρ Q E=>a ρ (fun r ρ1=>b ρ1 (fun rs ρ2=>Q (r::rs) ρ2) E) E
def wTup (a:WA):WE:=fun ρ Q E=>a ρ (fun rs ρ1=>need (if rs.length<=big then giveAll rs ρ1 else none) fun p=>Q (.v (.sh (.tup (p.1.map S.toD)))) p.2) E
def wLst (a:WA):WE:=fun ρ Q E=>a ρ (fun rs ρ1=>need (if rs.length<=big then giveAll rs ρ1 else none) fun p=>Q (.v (.lst p.1)) p.2) E
def wDnew (t:Bool):WE:=fun ρ Q _=>Q (.v (.dct t [] [])) ρ
open Classical in
def lk {α:Type}:List D->List α->D->Option α
 | k'::ks,v::vs,k=>if k'=k then some v else lk ks vs k
 | _,_,_=>none
def ixS:S->D->Option S
 | .sh (.tup l),.int i=>(atI l i).map .sh
 | .sh (.lst l),.int i=>(atI l i).map .sh
 | .sh (.str l),.int i=>(atI l i).map fun c=>.sh (.str [c])
 | .lst l,.int i=>atI l i
 | _,_=>none
def wIx (a b:WE):WE:=fun ρ Q E=>a ρ (fun x ρ1=>b ρ1 (fun y ρ2=>need (view y ρ2) fun q=>match x with
 | .v s=>need (ixS s q) fun t=>Q (.v t) ρ2
 | .loc i=>match slot ρ2 i with
   | some s=>match ixS s q with
     | some (.sh d)=>Q (.v (.sh d)) ρ2
     | _=>False
   | none=>False) E) E
def wPart (a:Option WE):Env->(Option Int->Env->Prop)->WX->Prop:=match a with
 | none=>fun ρ Q _=>Q none ρ
 | some a=>fun ρ Q E=>a ρ (fun x ρ1=>match view x ρ1 with
   | some (.int i)=>Q (some i) ρ1
   | _=>False) E
def slD (d:D) (lo hi:Option Int):Option S:=match d with
 | .str l=>some (.sh (.str (cutL l lo hi)))
 | .tup l=>some (.sh (.tup (cutL l lo hi)))
 | .lst l=>some (.lst ((cutL l lo hi).map .sh))
 | _=>none
def wSl (a:WE) (lo hi:Option WE):WE:=fun ρ Q E=>a ρ (fun x ρ1=>wPart lo ρ1 (fun l ρ2=>wPart hi ρ2 (fun h ρ3=>
 need (viewC x ρ3) fun d=>need (slD d l h) fun s=>Q (.v s) ρ3) E) E) E
abbrev WF:=List S->(S->List S->Prop)->(D->List S->Prop)->Prop
def prep:List Bool->List R->Env->Option (List S×Env)
 | _,[],ρ=>some ([],ρ)
 | ms,.v s::rs,ρ=>match prep ms.tail rs ρ with
   | some (ss,ρ1)=>some (s::ss,ρ1)
   | none=>none
 | ms,.loc i::rs,ρ=>match slot ρ i with
   | some s=>if ms.headD false then (match prep ms.tail rs (ρ.set i none) with
     | some (ss,ρ1)=>some (s::ss,ρ1)
     | none=>none)
     else (match prep ms.tail rs (ρ.set i (some (.sh s.toD))) with
      | some (ss,ρ1)=>some (.sh s.toD::ss,ρ1)
      | none=>none)
   | none=>none
def back:List Bool->List R->List S->Env->Env
 | ms,.v _::rs,_::ss,ρ=>back ms.tail rs ss ρ
 | ms,.loc i::rs,s::ss,ρ=>if ms.headD false then back ms.tail rs ss (ρ.set i (some s)) else back ms.tail rs ss ρ
 | _,_,_,ρ=>ρ
def wCall (f:WF) (ms:List Bool) (a:WA):WE:=fun ρ Q E=>a ρ (fun rs ρ1=>need (prep ms rs ρ1) fun p=>
 f p.1 (fun s ss=>Q (.v s) (back ms rs ss p.2)) (fun x ss=>E x (back ms rs ss p.2))) E
def wB (f:List D->Option S) (a:WA):WE:=fun ρ Q E=>a ρ (fun rs ρ1=>need (rs.mapM fun r=>viewC r ρ1) fun ds=>need (f ds) fun s=>Q (.v s) ρ1) E
def wAppend (j:Nat) (e:WE):WE:=fun ρ Q E=>match slot ρ j with
 | some (.lst _)=>e ρ (fun r ρ2=>need (give r ρ2) fun p=>match slot p.2 j with
   | some (.lst l)=>l.length < big/\Q (.v (.sh .non)) (p.2.set j (some (.lst (l++[p.1]))))
   | _=>False) E
 | _=>False
def bLen:List D->Option S
 | [.str l]=>some (.sh (.int l.length))
 | [.tup l]=>some (.sh (.int l.length))
 | [.lst l]=>some (.sh (.int l.length))
 | _=>none
def bInt:List D->Option S
 | [.int i]=>some (.sh (.int i))
 | [.bl b]=>some (.sh (.int (if b then 1 else 0)))
 | _=>none
def bTuple:List D->Option S
 | [.tup l]=>some (.sh (.tup l))
 | [.lst l]=>some (.sh (.tup l))
 | _=>none
def bList:List D->Option S
 | [.tup l]=>some (.lst (l.map .sh))
 | [.lst l]=>some (.lst (l.map .sh))
 | _=>none
def bMax:List D->Option S
 | [.int i,.int j]=>some (.sh (.int (if j > i then j else i)))
 | _=>none
def bMin:List D->Option S
 | [.int i,.int j]=>some (.sh (.int (if j < i then j else i)))
 | _=>none
def wPass:WS:=fun D ρ=>D.nx ρ
def wSeq (a b:WS):WS:=fun D ρ=>a { D with nx:=b D } ρ
def wIf (c:WT) (a b:WS):WS:=fun D ρ=>c ρ (fun k ρ1=>if k then a D ρ1 else b D ρ1) D.ex
def wRet (a:WE):WS:=fun D ρ=>a ρ D.rt D.ex
def wExpr (a:WE):WS:=fun D ρ=>a ρ (fun _ ρ1=>D.nx ρ1) D.ex
abbrev WG:=S->Env->(Env->Prop)->Prop
def gName (i:Nat):WG:=fun s ρ Q=>Q (ρ.set i (some s))
def gTups:List WG->List D->Env->(Env->Prop)->Prop
 | [],[],ρ,Q=>Q ρ
 | g::gs,d::ds,ρ,Q=>g (.sh d) ρ fun ρ1=>gTups gs ds ρ1 Q
 | _,_,_,_=>False
def gTup (gs:List WG):WG:=fun s ρ Q=>match s.toD with
 | .tup ds=>ds.length=gs.length/\gTups gs ds ρ Q
 | _=>False
def wSetIx (j:Nat) (i e:WE):WS:=fun D ρ=>e ρ (fun r ρ1=>wVar j ρ1 (fun x ρ2=>i ρ2 (fun y ρ3=>need (view y ρ3) fun q=>need (give r ρ3) fun p=>match x,q,slot p.2 j with
 | .loc k,.int n,some (.lst l)=>k=j/\need (ixN l.length n) fun m=>D.nx (p.2.set j (some (.lst (l.set m p.1))))
 | _,_,_=>False) D.ex) D.ex) D.ex
def wAsg (g:WG) (a:WE):WS:=fun D ρ=>a ρ (fun r ρ1=>need (give r ρ1) fun p=>g p.1 p.2 D.nx) D.ex
abbrev WI:=Env->(List D->Env->Prop)->WX->Prop
def items:D->Option (List D)
 | .lst l=>some l
 | .tup l=>some l
 | .str l=>some (l.map fun c=>.str [c])
 | _=>none
def wIter (a:WE):WI:=fun ρ Q E=>a ρ (fun r ρ1=>need (give r ρ1) fun p=>need (items p.1.toD) fun l=>Q l p.2) E
def fromTo (lo:Int) (n:Nat):List D:=(List.range n).map fun (k:Nat)=>.int (lo + (k:Int))
def wRange1 (a:WE):WI:=fun ρ Q E=>a ρ (fun r ρ1=>match view r ρ1 with
 | some (.int j)=>(-big<=j/\j<=big)/\Q (fromTo 0 j.toNat) ρ1
 | _=>False) E
def wRange2 (a b:WE):WI:=fun ρ Q E=>a ρ (fun r ρ1=>b ρ1 (fun t ρ2=>match view r ρ2,view t ρ2 with
 | some (.int i),some (.int j)=>(-big<=i/\i<=big/\-big<=j/\j<=big)/\Q (fromTo i (j - i).toNat) ρ2
 | _,_=>False) E) E
def wLoop (g:WG) (body:WS):List D->WS
 | [],D,ρ=>D.nx ρ
 | x::xs,D,ρ=>g (.sh x) ρ fun ρ1=>body { D with nx:=wLoop g body xs D,ct:=wLoop g body xs D,bk:=D.nx } ρ1
def wFor (it:WI) (g:WG) (body:WS):WS:=fun D ρ=>it ρ (fun l ρ1=>wLoop g body l D ρ1) D.ex
def wWhile (c:WT) (body:WS):WS:=fun D ρ=>∃ J:Nat->Env->Prop,(∃ m,J m ρ)/\∀ m ρ,J m ρ->c ρ (fun k ρ1=>if k then
 body { D with nx:=fun ρ2=>∃ m',m' < m/\J m' ρ2,ct:=fun ρ2=>∃ m',m' < m/\J m' ρ2,bk:=D.nx } ρ1 else D.nx ρ1) D.ex
abbrev WB:=Env->(Env->Prop)->WX->Prop
def wYes:WT:=fun ρ Q _=>Q true ρ
def bLoop (g:WG) (c:WT) (b:WB):List D->WB
 | [],ρ,Q,_=>Q ρ
 | x::xs,ρ,Q,E=>g (.sh x) ρ fun ρ1=>c ρ1 (fun k ρ2=>if k then b ρ2 (fun ρ3=>bLoop g c b xs ρ3 Q E) E else bLoop g c b xs ρ2 Q E) E
def bFor (it:WI) (g:WG) (c:WT) (b:WB):WB:=fun ρ Q E=>it ρ (fun l ρ1=>bLoop g c b l ρ1 Q E) E
def bEmit (n:Nat) (a:WE):WB:=fun ρ Q E=>a ρ (fun r ρ1=>need (give r ρ1) fun p=>match slot p.2 n with
 | some (.lst l)=>l.length < big/\Q (p.2.set n (some (.lst (l++[p.1]))))
 | _=>False) E
def wLC (n k:Nat) (it:WI) (g:WG) (c:WT) (b:WB):WE:=fun ρ Q E=>it ρ (fun l ρ1=>
 bLoop g c b l (ρ1++some (.lst [])::List.replicate k none) (fun ρ2=>need (slot ρ2 n) fun s=>Q (.v s) (ρ2.take n)) (fun x ρ2=>E x (ρ2.take n))) E
def finals:List S->Env->Option (List S)
 | [],_=>some []
 | .sh d::ss,_::ρ=>(finals ss ρ).map (.sh d::·)
 | _::ss,some s::ρ=>(finals ss ρ).map (s::·)
 | _,_=>none
def wFn (n m:Nat) (ks:List Nat) (body:WS):WF:=fun ss P PX=>ss.length=n/\(∀ i s,ss[i]?=some s->i∈ks\/s.isSh=true)/\
 body { nx:=fun ρ=>need (finals ss ρ) fun fs=>P (.sh .non) fs
        rt:=fun r ρ=>match r with
         | .v s=>need (finals ss ρ) fun fs=>P s fs
         | .loc i=>need (slot ρ i) fun s=>if i < n then need (finals ss (ρ.set i (some (.sh s.toD)))) fun fs=>P (.sh s.toD) fs else need (finals ss ρ) fun fs=>P s fs
        bk:=fun _=>False
        ct:=fun _=>False
        ex:=fun x ρ=>need (finals ss ρ) fun fs=>PX x fs } (ss.map some++List.replicate (m - n) none)
end FL
end
section
namespace FL
open PySem L2
def keyD:Key->D
 | .inl i=>.int i
 | .inr x=>.str x.cps.toList
mutual
inductive Rep (K:W.Frag) (F:Hp):V->D->Prop
 | non:Rep K F .non .non
 | bl (b:Bool):Rep K F (.bl b) (.bl b)
 | int (i:Int):Rep K F (.int i) (.int i)
 | str {x:Str} {l:List Nat}:x.cps.toList=l->l.length<=16777216->Rep K F (.str x) (.str l)
 | tup {a:Addr} {xs:List V} {ds:List D}:F a=some (.tup xs)->Reps K F xs ds->Rep K F (.ref a) (.tup ds)
 | lst {a:Addr} {xs:List V} {ds:List D}:SqL K F a xs->Reps K F xs ds->Rep K F (.ref a) (.lst ds)
 | dK {a:Addr} {kvs:List (Key×V)} {ks vs:List D}:Rd F a (.dK kvs)->ks=kvs.map (fun p=>keyD p.1)->Reps K F (kvs.map (·.2)) vs->Rep K F (.ref a) (.dct false ks vs)
 | dT {a:Addr} {kvs:List (List Key×V)} {ks vs:List D}:Rd F a (.dT kvs)->ks=kvs.map (fun p=>D.tup (p.1.map keyD))->Reps K F (kvs.map (·.2)) vs->Rep K F (.ref a) (.dct true ks vs)
 | st {a:Addr} {xs:List V} {ds:List D}:F a=some (.set xs)->Reps K F xs ds->Rep K F (.ref a) (.set ds)
inductive Reps (K:W.Frag) (F:Hp):List V->List D->Prop
 | nil:Reps K F [] []
 | cons {x:V} {d:D} {xs:List V} {ds:List D}:Rep K F x d->Reps K F xs ds->Reps K F (x::xs) (d::ds)
end
mutual
inductive SRep (K:W.Frag) (F H:Hp):V->S->List Addr->Prop
 | sh {v:V} {d:D}:Rep K F v d->SRep K F H v (.sh d) []
 | lst {a:Addr} {xs:List V} {l:List S} {fp:List Addr}:H a=some (.lst xs)->SReps K F H xs l fp->SRep K F H (.ref a) (.lst l) (a::fp)
 | dK {a:Addr} {kvs:List (Key×V)} {ks:List D} {l:List S} {fp:List Addr}:H a=some (.dK kvs)->ks=kvs.map (fun p=>keyD p.1)->SReps K F H (kvs.map (·.2)) l fp->SRep K F H (.ref a) (.dct false ks l) (a::fp)
 | dT {a:Addr} {kvs:List (List Key×V)} {ks:List D} {l:List S} {fp:List Addr}:H a=some (.dT kvs)->ks=kvs.map (fun p=>D.tup (p.1.map keyD))->SReps K F H (kvs.map (·.2)) l fp->SRep K F H (.ref a) (.dct true ks l) (a::fp)
 | st {a:Addr} {xs:List V} {ds:List D}:H a=some (.set xs)->Reps K F xs ds->SRep K F H (.ref a) (.set ds) [a]
inductive SReps (K:W.Frag) (F H:Hp):List V->List S->List Addr->Prop
 | nil:SReps K F H [] [] []
 | cons {x:V} {s:S} {xs:List V} {l:List S} {fp fq:List Addr}:SRep K F H x s fp->SReps K F H xs l fq->SReps K F H (x::xs) (s::l) (fp++fq)
end
section
variable {K:W.Frag} {F F' H H' G:Hp}
theorem Rd.mono {a:Addr} {u:HO} (h:Same F F') (r:Rd F a u):Rd F' a u:=by
 rcases r with r | ⟨o,r⟩
 ·exact .inl (h _ _ r)
 ·exact .inr ⟨o,h _ _ r⟩
theorem SqL.mono {a:Addr} {xs:List V} (h:Same F F') (r:SqL K F a xs):SqL K F' a xs:=r.elim (fun r=>.inl (Rd.mono h r)) .inr
theorem SqT.mono {a:Addr} {xs:List V} (h:Same F F') (r:SqT K F a xs):SqT K F' a xs:=r.elim (fun r=>.inl (Rd.mono h r)) .inr
theorem Reps.ind {P:List V->List D->Prop} (hn:P [] []) (hc:∀ {x:V} {d:D} {xs:List V} {ds:List D},Rep K F x d->Reps K F xs ds->P xs ds->P (x::xs) (d::ds)) {xs:List V} {ds:List D} (r:Reps K F xs ds):P xs ds:=
 Reps.rec (motive_1:=fun _ _ _=>True) (motive_2:=fun xs ds _=>P xs ds) trivial (fun _=>trivial) (fun _=>trivial) (fun _ _=>trivial) (fun _ _ _=>trivial) (fun _ _ _=>trivial) (fun _ _ _ _=>trivial) (fun _ _ _ _=>trivial) (fun _ _ _=>trivial) hn (fun a b _ ih=>hc a b ih) r
theorem SReps.ind {P:List V->List S->List Addr->Prop} (hn:P [] [] []) (hc:∀ {x:V} {s:S} {xs:List V} {l:List S} {fp fq:List Addr},SRep K F H x s fp->SReps K F H xs l fq->P xs l fq->P (x::xs) (s::l) (fp++fq)) {xs:List V} {l:List S} {fp:List Addr} (r:SReps K F H xs l fp):P xs l fp:=
 SReps.rec (motive_1:=fun _ _ _ _=>True) (motive_2:=fun xs l fp _=>P xs l fp) (fun _=>trivial) (fun _ _ _=>trivial) (fun _ _ _ _=>trivial) (fun _ _ _ _=>trivial) (fun _ _=>trivial) hn (fun a b _ ih=>hc a b ih) r
theorem Rep.mono (h:Same F F') {v:V} {d:D} (r:Rep K F v d):Rep K F' v d:=
 Rep.rec (motive_1:=fun v d _=>Rep K F' v d) (motive_2:=fun v d _=>Reps K F' v d) .non .bl .int (fun e z=>.str e z) (fun e _ ih=>.tup (h _ _ e) ih) (fun e _ ih=>.lst (SqL.mono h e) ih) (fun e k _ ih=>.dK (Rd.mono h e) k ih) (fun e k _ ih=>.dT (Rd.mono h e) k ih) (fun e _ ih=>.st (h _ _ e) ih) .nil (fun _ _ a b=>.cons a b) r
theorem Reps.mono (h:Same F F') {v:List V} {d:List D} (r:Reps K F v d):Reps K F' v d:=Reps.ind .nil (fun a _ ih=>.cons (Rep.mono h a) ih) r
theorem SRep.mono (h:Same F F') {v:V} {s:S} {fp:List Addr} (r:SRep K F H v s fp):(∀ a∈fp,H' a=H a)->SRep K F' H' v s fp:=
 SRep.rec (motive_1:=fun v s fp _=>(∀ a∈fp,H' a=H a)->SRep K F' H' v s fp) (motive_2:=fun v s fp _=>(∀ a∈fp,H' a=H a)->SReps K F' H' v s fp)
  (fun r _=>.sh (Rep.mono h r)) (fun e _ ih k=>.lst ((k _ qp).trans e) (ih fun a ha=>k a (qo _ ha)))
  (fun e q _ ih k=>.dK ((k _ qp).trans e) q (ih fun a ha=>k a (qo _ ha))) (fun e q _ ih k=>.dT ((k _ qp).trans e) q (ih fun a ha=>k a (qo _ ha)))
  (fun e r k=>.st ((k _ qp).trans e) (Reps.mono h r)) (fun _=>.nil) (fun _ _ a b k=>.cons (a fun c hc=>k c (qm _ hc)) (b fun c hc=>k c (qk _ hc))) r
theorem SReps.mono (h:Same F F') {v:List V} {s:List S} {fp:List Addr} (r:SReps K F H v s fp):(∀ a∈fp,H' a=H a)->SReps K F' H' v s fp:=
 SReps.ind (P:=fun v s fp=>(∀ a∈fp,H' a=H a)->SReps K F' H' v s fp) (fun _=>.nil) (fun a _ b k=>.cons (SRep.mono h a fun c hc=>k c (qm _ hc)) (b fun c hc=>k c (qk _ hc))) r
theorem SRep.frz (h:Same F F') {v:V} {s:S} {fp:List Addr} (r:SRep K F H v s fp):(∀ a∈fp,F' a=H a)->Rep K F' v s.toD:=
 SRep.rec (motive_1:=fun v s fp _=>(∀ a∈fp,F' a=H a)->Rep K F' v s.toD) (motive_2:=fun v s fp _=>(∀ a∈fp,F' a=H a)->Reps K F' v (S.toDs s))
  (fun r _=>Rep.mono h r) (fun e _ ih k=>.lst (SqL.of ((k _ qp).trans e)) (ih fun a ha=>k a (qo _ ha)))
  (fun e q _ ih k=>.dK (.of ((k _ qp).trans e)) q (ih fun a ha=>k a (qo _ ha))) (fun e q _ ih k=>.dT (.of ((k _ qp).trans e)) q (ih fun a ha=>k a (qo _ ha)))
  (fun e r k=>.st ((k _ qp).trans e) (Reps.mono h r)) (fun _=>.nil) (fun _ _ a b k=>.cons (a fun c hc=>k c (qm _ hc)) (b fun c hc=>k c (qk _ hc))) r
theorem SReps.frz (h:Same F F') {v:List V} {s:List S} {fp:List Addr} (r:SReps K F H v s fp):(∀ a∈fp,F' a=H a)->Reps K F' v (S.toDs s):=
 SReps.ind (P:=fun v s fp=>(∀ a∈fp,F' a=H a)->Reps K F' v (S.toDs s)) (fun _=>.nil) (fun a _ b k=>.cons (SRep.frz h a fun c hc=>k c (qm _ hc)) (b fun c hc=>k c (qk _ hc))) r
theorem SRep.view (h:Same F H) {v:V} {s:S} {fp:List Addr} (r:SRep K F H v s fp):Rep K H v s.toD:=SRep.frz h r fun _ _=>rfl
theorem SRep.in_:∀ {v:V} {s:S} {fp:List Addr},SRep K F H v s fp->∀ a∈fp,∃ o,H a=some o:=by
 intro v s fp r
 refine SRep.rec (motive_1:=fun v s fp _=>∀ a∈fp,∃ o,H a=some o) (motive_2:=fun v s fp _=>∀ a∈fp,∃ o,H a=some o) ?_ ?_ ?_ ?_ ?_ ?_ ?_ r
 ·intro v d r a ha; cases ha
 ·intro a xs l fp e r ih b hb
  rcases mem_cons.mp hb with rfl | hb
  ·exact ⟨_,e⟩
  ·exact ih b hb
 ·intro a kvs ks l fp e q r ih b hb
  rcases mem_cons.mp hb with rfl | hb
  ·exact ⟨_,e⟩
  ·exact ih b hb
 ·intro a kvs ks l fp e q r ih b hb
  rcases mem_cons.mp hb with rfl | hb
  ·exact ⟨_,e⟩
  ·exact ih b hb
 ·intro a xs ds e r b hb
  rw [mem_singleton.mp hb]
  exact ⟨_,e⟩
 ·intro a ha; cases ha
 ·intro x s xs l fp fq r1 r2 i1 i2 a ha
  rcases mem_append.mp ha with h | h
  ·exact i1 a h
  ·exact i2 a h
end
inductive EnvRep (K:W.Frag) (F H:Hp):Env->St->List Addr->Prop
 | nil:EnvRep K F H [] [] []
 | no {ρ:Env} {σ:St} {o:Option V} {fp:List Addr}:EnvRep K F H ρ σ fp->EnvRep K F H (none::ρ) (o::σ) fp
 | so {ρ:Env} {σ:St} {v:V} {s:S} {fp fq:List Addr}:SRep K F H v s fp->EnvRep K F H ρ σ fq->EnvRep K F H (some s::ρ) (some v::σ) (fp++fq)
section
variable {K:W.Frag} {F F' H H' G G':Hp}
theorem EnvRep.len {ρ:Env} {σ:St} {fp:List Addr} (r:EnvRep K F H ρ σ fp):ρ.length=σ.length:=by
 induction r with
 | nil=>rfl
 | no _ ih=>exact congrArg (· + 1) ih
 | so _ _ ih=>exact congrArg (· + 1) ih
theorem EnvRep.mono (h:Same F F') {ρ:Env} {σ:St} {fp:List Addr} (r:EnvRep K F H ρ σ fp) (k:∀ a∈fp,H' a=H a):EnvRep K F' H' ρ σ fp:=by
 induction r with
 | nil=>exact .nil
 | no _ ih=>exact .no (ih k)
 | so a _ ih=>exact .so (SRep.mono h a fun c hc=>k c (qm _ hc)) (ih fun c hc=>k c (qk _ hc))
theorem EnvRep.in_ {ρ:Env} {σ:St} {fp:List Addr} (r:EnvRep K F H ρ σ fp):∀ a∈fp,∃ o,H a=some o:=by
 induction r with
 | nil=>exact fun a ha=>nomatch ha
 | no _ ih=>exact ih
 | so q _ ih=>exact fun a ha=>(mem_append.mp ha).elim (fun z=>SRep.in_ q a z) fun z=>ih a z
theorem EnvRep.app {ρ ρ':Env} {σ σ':St} {fp fq:List Addr} (r:EnvRep K F H ρ σ fp) (r':EnvRep K F H ρ' σ' fq):EnvRep K F H (ρ++ρ') (σ++σ') (fp++fq):=by
 induction r with
 | nil=>exact r'
 | no _ ih=>exact .no ih
 | so a _ ih=>rw [append_assoc]; exact .so a ih
theorem EnvRep.cut {ρ ρ':Env} {σ σ':St} {fp:List Addr} (e:ρ.length=σ.length) (r:EnvRep K F H (ρ++ρ') (σ++σ') fp):∃ f1 f2,fp=f1++f2/\EnvRep K F H ρ σ f1/\EnvRep K F H ρ' σ' f2:=by
 induction ρ generalizing σ fp with
 | nil=>cases σ with
   | nil=>exact ⟨[],fp,rfl,.nil,r⟩
   | cons _ _=>exact absurd e.symm (Nat.succ_ne_zero _)
 | cons x ρ ih=>cases σ with
   | nil=>exact absurd e (Nat.succ_ne_zero _)
   | cons y σ=>cases r with
     | no r=>
       obtain ⟨f1,f2,rfl,a,b⟩:=ih (Nat.succ.inj e) r
       exact ⟨f1,f2,rfl,.no a,b⟩
     | so q r=>
       obtain ⟨f1,f2,rfl,a,b⟩:=ih (Nat.succ.inj e) r
       exact ⟨_,f2,(append_assoc ..).symm,.so q a,b⟩
theorem EnvRep.at:∀ {ρ:Env} {σ:St} {fp:List Addr} {i:Nat} {s:S},EnvRep K F H ρ σ fp->slot ρ i=some s->
  ∃ v fa fi fb,σ[i]?=some (some v)/\fp=fa++(fi++fb)/\SRep K F H v s fi/\
    ∀ {F' H':Hp} {o:Option S} {u:Option V} {fi':List Addr},Same F F'->(∀ a∈fa++fb,H' a=H a)->(EnvRep K F' H' [o] [u] fi')->EnvRep K F' H' (ρ.set i o) (σ.set i u) (fa++(fi'++fb))
 | _,_,_,_,_,.nil,e=>by simp [slot] at e
 | _,_,_,0,_,.no r,e=>by simp at e
 | _,_,_,0,s,.so (fp:=fp) (fq:=fq) q r,e=>by
   simp at e; subst e
   refine ⟨_,[],fp,fq,rfl,rfl,q,fun {F' H' o u fi'} h k x=>?_⟩
   have r':=EnvRep.mono (H':=H') h r fun a ha=>k a ha
   exact x.app r'
 | _,_,_,i + 1,s,.no r,e=>by
   obtain ⟨v,fa,fi,fb,e1,rfl,q,up⟩:=EnvRep.at r (by simpa using e)
   exact ⟨v,fa,fi,fb,by simpa using e1,rfl,q,fun h k x=>.no (up h k x)⟩
 | _,_,_,i + 1,s,.so (fp:=fp) (fq:=fq) p r,e=>by
   obtain ⟨v,fa,fi,fb,e1,rfl,q,up⟩:=EnvRep.at r (by simpa using e)
   refine ⟨v,fp++fa,fi,fb,by simpa using e1,(append_assoc ..).symm,q,fun {F' H' o u fi'} h k x=>?_⟩
   rw [append_assoc]
   exact .so (SRep.mono h p fun a ha=>k a (qm _ (qm _ ha))) (up h (fun a ha=>k a ((mem_append.mp ha).elim (fun z=>qm _ (qk _ z)) fun z=>qk _ z)) x)
theorem EnvRep.put:∀ {ρ:Env} {σ:St} {fp:List Addr} {i:Nat},EnvRep K F H ρ σ fp->i < ρ.length->
  ∃ fa fi fb,fp=fa++(fi++fb)/\
    ∀ {F' H':Hp} {o:Option S} {u:Option V} {fi':List Addr},Same F F'->(∀ a∈fa++fb,H' a=H a)->(EnvRep K F' H' [o] [u] fi')->EnvRep K F' H' (ρ.set i o) (σ.set i u) (fa++(fi'++fb))
 | _,_,_,_,.nil,e=>by simp at e
 | _,_,fp,0,.no r,e=>⟨[],[],fp,rfl,fun {F' H' o u fi'} h k x=>x.app (EnvRep.mono (H':=H') h r fun a ha=>k a ha)⟩
 | _,_,_,0,.so (fp:=fp) (fq:=fq) q r,e=>⟨[],fp,fq,rfl,fun {F' H' o u fi'} h k x=>x.app (EnvRep.mono (H':=H') h r fun a ha=>k a ha)⟩
 | _,_,_,i + 1,.no r,e=>by
   obtain ⟨fa,fi,fb,rfl,up⟩:=EnvRep.put (i:=i) r (by simpa using e)
   exact ⟨fa,fi,fb,rfl,fun h k x=>.no (up h k x)⟩
 | _,_,_,i + 1,.so (fp:=fp) (fq:=fq) p r,e=>by
   obtain ⟨fa,fi,fb,rfl,up⟩:=EnvRep.put (i:=i) r (by simpa using e)
   refine ⟨fp++fa,fi,fb,(append_assoc ..).symm,fun {F' H' o u fi'} h k x=>?_⟩
   rw [append_assoc]
   exact .so (SRep.mono h p fun a ha=>k a (qm _ (qm _ ha))) (up h (fun a ha=>k a ((mem_append.mp ha).elim (fun z=>qm _ (qk _ z)) fun z=>qk _ z)) x)
end
structure Rel (K:W.Frag) (ρ:Env) (σ:St) (F G H:Hp):Prop where
 fr:Same F H
 gr:∀ a o,G a=some o->H a=some o/\F a=none
 en:∃ fp,EnvRep K F H ρ σ fp/\fp.Nodup/\∀ a∈fp,F a=none/\G a=none
section
variable {K:W.Frag} {F F' H H' G G':Hp} {ρ ρ':Env} {σ σ':St}
theorem Rel.len (r:Rel K ρ σ F G H):ρ.length=σ.length:=let ⟨_,e,_⟩:=r.en; e.len
theorem Rel.free (r:Rel K ρ σ F G H) {p:Addr} (h:H p=none):F p=none/\G p=none/\∀ fp,EnvRep K F H ρ σ fp->p∉fp:=by
 refine ⟨?_,?_,fun fp e hp=>?_⟩
 ·cases q:F p with
  | none=>rfl
  | some o=>rw [r.fr p o q] at h; cases h
 ·cases q:G p with
  | none=>rfl
  | some o=>rw [(r.gr p o q).1] at h; cases h
 ·obtain ⟨o,q⟩:=e.in_ p hp
  rw [h] at q; cases q
theorem Same.upd {F:Hp} {p:Addr} {o:HO} (h:F p=none):Same F (upd F p o):=fun b u e=>by
 rw [zaj (fun z=>by rw [z,h] at e; cases e)]; exact e
theorem Same.upd2 {F H:Hp} {p:Addr} {o:HO} (h:Same F H):Same (L2.upd F p o) (L2.upd H p o):=fun b u e=>by
 by_cases q:b=p
 ·subst q; rw [zao] at e ⊢; exact e
 ·rw [zaj q] at e ⊢; exact h b u e
theorem Same.updR {F H:Hp} {p:Addr} {o:HO} (h:Same F H) (n:F p=none):Same F (L2.upd H p o):=fun b u e=>by
 rw [zaj (fun z=>by rw [z,n] at e; cases e)]; exact h b u e
theorem Rel.newF (r:Rel K ρ σ F G H) {p:Addr} {o:HO} (h:H p=none):Rel K ρ σ (upd F p o) G (upd H p o):=by
 obtain ⟨f0,g0,n0⟩:=r.free h
 obtain ⟨fp,e,nd,ap⟩:=r.en
 have hne:∀ a∈fp,a≠p:=fun a ha z=>n0 fp e (z ▸ ha)
 refine ⟨Same.upd2 r.fr,fun a u q=>?_,fp,e.mono (Same.upd f0) fun a ha=>zaj (hne a ha),nd,fun a ha=>?_⟩
 ·have hp:a≠p:=fun z=>by rw [z,g0] at q; cases q
  rw [zaj hp,zaj hp]; exact r.gr a u q
 ·rw [zaj (hne a ha)]; exact ap a ha
theorem Rel.newO (r:Rel K ρ σ F G H) {p:Addr} {o:HO} {s:S} (h:H p=none) (q:SRep K F (upd H p o) (.ref p) s [p]):Rel K (ρ++[some s]) (σ++[some (.ref p)]) F G (upd H p o):=by
 obtain ⟨f0,g0,n0⟩:=r.free h
 obtain ⟨fp,e,nd,ap⟩:=r.en
 have hne:∀ a∈fp,a≠p:=fun a ha z=>n0 fp e (z ▸ ha)
 refine ⟨Same.updR r.fr f0,fun a u q=>?_,fp++([p]++[]),(e.mono (Same.refl F) fun a ha=>zaj (hne a ha)).app (.so q .nil),?_,fun a ha=>?_⟩
 ·have hp:a≠p:=fun z=>by rw [z,g0] at q; cases q
  rw [zaj hp]; exact r.gr a u q
 ·rw [append_nil]
  refine nodup_append.mpr ⟨nd,by simp,fun a ha b hb=>?_⟩
  rw [mem_singleton.mp hb]; exact hne a ha
 ·rcases mem_append.mp ha with z | z
  ·exact ap a z
  ·rw [append_nil] at z; rw [mem_singleton.mp z]; exact ⟨f0,g0⟩
theorem Rel.drop (r:Rel K (ρ++ρ') (σ++σ') F G H) (h:ρ.length=σ.length):Rel K ρ σ F G H:=by
 obtain ⟨fp,e,nd,ap⟩:=r.en
 obtain ⟨f1,f2,rfl,a,b⟩:=e.cut h
 exact ⟨r.fr,r.gr,f1,a,(nodup_append.mp nd).1,fun c hc=>ap c (qm _ hc)⟩
theorem Rel.hide (r:Rel K (ρ++ρ') (σ++σ') F G H) (h:ρ.length=σ.length):∃ G',Rel K ρ σ F G' H/\Same G G'/\
  ∀ {ρ2:Env} {σ2:St} {F2 H2:Hp},Same F F2->Rel K ρ2 σ2 F2 G' H2->Rel K (ρ2++ρ') (σ2++σ') F2 G H2:=by
 classical
 obtain ⟨fp,e,nd,ap⟩:=r.en
 obtain ⟨f1,f2,rfl,a,b⟩:=e.cut h
 obtain ⟨n1,n2,n12⟩:=nodup_append.mp nd
 refine ⟨fun x=>if x∈f2 then H x else G x,⟨r.fr,fun x o q=>?_,f1,a,n1,fun x hx=>?_⟩,fun x o q=>?_,fun {ρ2 σ2 F2 H2} sm r2=>?_⟩
 ·by_cases z:x∈f2
  ·simp only [z,if_true] at q
   exact ⟨q,(ap x (qk _ z)).1⟩
  ·simp only [z,if_false] at q
   exact r.gr x o q
 ·have z:x∉f2:=fun z=>n12 x hx x z rfl
  simp only [z,if_false]
  exact ap x (qm _ hx)
 ·have z:x∉f2:=fun z=>by
   have:=(ap x (qk _ z)).2
   rw [q] at this; cases this
  simp only [z,if_false]
  exact q
 ·obtain ⟨fp2,e2,nd2,ap2⟩:=r2.en
  have hk:∀ x∈f2,H2 x=H x/\F2 x=none/\x∉fp2:=fun x hx=>by
   obtain ⟨o,q⟩:=b.in_ x hx
   have w:=r2.gr x o (by simp only [hx,if_true]; exact q)
   refine ⟨w.1.trans q.symm,w.2,fun z=>?_⟩
   have w2:=(ap2 x z).2
   simp only [hx,if_true] at w2
   rw [q] at w2; cases w2
  refine ⟨r2.fr,fun x o q=>?_,fp2++f2,e2.app (b.mono sm fun x hx=>(hk x hx).1),?_,fun x hx=>?_⟩
  ·have z:x∉f2:=fun z=>by
    have:=(ap x (qk _ z)).2
    rw [q] at this; cases this
   exact r2.gr x o (by simp only [z,if_false]; exact q)
  ·refine nodup_append.mpr ⟨nd2,n2,fun x hx y hy z=>?_⟩
   subst z
   exact (hk x hy).2.2 hx
  ·rcases mem_append.mp hx with z | z
   ·refine ⟨(ap2 x z).1,?_⟩
    have w2:=(ap2 x z).2
    by_cases y:x∈f2
    ·exact absurd z (hk x y).2.2
    ·simp only [y,if_false] at w2; exact w2
   ·exact ⟨(hk x z).2.1,(ap x (qk _ z)).2⟩
theorem Rel.weakG (r:Rel K ρ σ F G' H) (h:Same G G'):Rel K ρ σ F G H:=by
 obtain ⟨fp,e,nd,ap⟩:=r.en
 refine ⟨r.fr,fun a o q=>r.gr a o (h a o q),fp,e,nd,fun a ha=>⟨(ap a ha).1,?_⟩⟩
 cases q:G a with
 | none=>rfl
 | some o=>have:=(ap a ha).2; rw [h a o q] at this; cases this
theorem Rel.swap {ρ1 ρ2:Env} {σ1 σ2:St} (h:ρ.length=σ.length) (h1:ρ1.length=σ1.length) (r:Rel K (ρ++(ρ1++ρ2)) (σ++(σ1++σ2)) F G H):Rel K (ρ++(ρ2++ρ1)) (σ++(σ2++σ1)) F G H:=by
 obtain ⟨fp,e,nd,ap⟩:=r.en
 obtain ⟨f0,f12,rfl,a,b⟩:=e.cut h
 obtain ⟨f1,f2,rfl,b,c⟩:=b.cut h1
 have p:(f0++(f2++f1)).Perm (f0++(f1++f2)):=List.Perm.append_left _ perm_append_comm
 exact ⟨r.fr,r.gr,_,a.app (c.app b),p.nodup_iff.mpr nd,fun x hx=>ap x (p.mem_iff.mp hx)⟩
theorem Rel.push (r:Rel K ρ σ F G H) {v:V} {d:D} (h:Rep K F v d):Rel K (ρ++[some (.sh d)]) (σ++[some v]) F G H:=by
 obtain ⟨fp,e,nd,ap⟩:=r.en
 refine ⟨r.fr,r.gr,fp++([]++[]),e.app (.so (.sh h) .nil),?_,fun x hx=>ap x ?_⟩
 ·simpa using nd
 ·simpa using hx
theorem Rel.pushN (r:Rel K ρ σ F G H) {u:Option V}:Rel K (ρ++[none]) (σ++[u]) F G H:=by
 obtain ⟨fp,e,nd,ap⟩:=r.en
 refine ⟨r.fr,r.gr,fp++[],e.app (.no .nil),?_,fun x hx=>ap x ?_⟩
 ·simpa using nd
 ·simpa using hx
theorem zbM {ρ:Env} {i:Nat} {s:S} (h:slot ρ i=some s):ρ[i]?=some (some s):=by
 induction ρ generalizing i with
 | nil=>simp [slot] at h
 | cons a r ih=>cases i with
   | zero=>simp at h; simp [h]
   | succ i=>simp at h; simpa using ih h
theorem zb9 {ρ:Env} {i:Nat} {s:S} (h:slot ρ i=some s):i < ρ.length:=(qi.mp (zbM h)).1
theorem zbT {ρ ρ':Env} {i:Nat} (h:i < ρ.length):slot (ρ++ρ') i=slot ρ i:=by
 induction ρ generalizing i with
 | nil=>simp at h
 | cons a r ih=>cases i with
   | zero=>rfl
   | succ i=>simpa using ih (by simpa using h)
theorem zaC {ρ ρ':Env} {o:Option S}:slot (ρ++o::ρ') ρ.length=o:=by
 induction ρ with
 | nil=>rfl
 | cons a r ih=>simpa using ih
theorem Rel.at (r:Rel K ρ σ F G H) {i:Nat} {s:S} (h:slot ρ i=some s):∃ v fp,σ[i]?=some (some v)/\SRep K F H v s fp:=by
 obtain ⟨fp,e,nd,ap⟩:=r.en
 obtain ⟨v,fa,fi,fb,e1,_,q,_⟩:=e.at h
 exact ⟨v,fi,e1,q⟩
theorem Rel.give (r:Rel K ρ σ F G H) {i:Nat} {s:S} (h:slot ρ i=some s):∃ v F',σ[i]?=some (some v)/\Same F F'/\Rep K F' v s.toD/\Rel K (ρ.set i (some (.sh s.toD))) σ F' G H:=by
 classical
 obtain ⟨fp,e,nd,ap⟩:=r.en
 obtain ⟨v,fa,fi,fb,e1,rfl,q,up⟩:=e.at h
 obtain ⟨na,nib,nab⟩:=nodup_append.mp nd
 obtain ⟨ni,nb,nib⟩:=nodup_append.mp nib
 have nofi:∀ x∈fa++fb,x∉fi:=fun x hx z=>by
  rcases mem_append.mp hx with y | y
  ·exact nab x y x (qm _ z) rfl
  ·exact nib x z x y rfl
 have sm:Same F (fun x=>if x∈fi then H x else F x):=fun x o w=>by
  have z:x∉fi:=fun z=>by
   have:=(ap x (qk _ (qm _ z))).1
   rw [w] at this; cases this
  simp only [z,if_false]; exact w
 have rp:Rep K (fun x=>if x∈fi then H x else F x) v s.toD:=q.frz sm fun x hx=>by simp only [hx,if_true]
 have e2:σ.set i (some v)=σ:=by
  apply ext_getElem?
  intro j
  by_cases hj:i=j
  ·subst hj
   rw [getElem?_set_self (qi.mp e1).1,e1]
  ·rw [getElem?_set_ne hj]
 refine ⟨v,_,e1,sm,rp,fun x o w=>?_,fun x o w=>?_,fa++([]++fb),?_,?_,fun x hx=>?_⟩
 ·by_cases z:x∈fi
  ·simp only [z,if_true] at w; exact w
  ·simp only [z,if_false] at w; exact r.fr x o w
 ·have w2:=r.gr x o w
  have z:x∉fi:=fun z=>by
   have:=(ap x (qk _ (qm _ z))).2
   rw [w] at this; cases this
  simp only [z,if_false]; exact w2
 ·have:=up (F':=fun x=>if x∈fi then H x else F x) (H':=H) (o:=some (.sh s.toD)) (u:=some v) (fi':=[]) sm (fun _ _=>rfl) (.so (.sh rp) .nil)
  rw [e2] at this
  exact this
 ·rw [nil_append]
  exact nodup_append.mpr ⟨na,nb,fun x hx y hy=>nab x hx y (qk _ hy)⟩
 ·rw [nil_append] at hx
  have z:=nofi x hx
  simp only [z,if_false]
  rcases mem_append.mp hx with y | y
  ·exact ap x (qm _ y)
  ·exact ap x (qk _ (qk _ y))
theorem Rel.store {o:Option S} {u:Option V} (r:Rel K (ρ++[o]) (σ++[u]) F G H) (h:ρ.length=σ.length) {i:Nat} (hi:i < ρ.length):Rel K (ρ.set i o) (σ.set i u) F G H:=by
 obtain ⟨fp,e,nd,ap⟩:=r.en
 obtain ⟨f1,f2,rfl,a,b⟩:=e.cut h
 obtain ⟨fa,fi,fb,rfl,up⟩:=a.put hi
 obtain ⟨n1,n2,n12⟩:=nodup_append.mp nd
 obtain ⟨na,nib,nab⟩:=nodup_append.mp n1
 obtain ⟨ni,nb,nib⟩:=nodup_append.mp nib
 refine ⟨r.fr,r.gr,fa++(f2++fb),up (Same.refl F) (fun _ _=>rfl) b,?_,fun x hx=>?_⟩
 ·refine nodup_append.mpr ⟨na,nodup_append.mpr ⟨n2,nb,fun x hx y hy z=>?_⟩,fun x hx y hy z=>?_⟩
  ·exact n12 y (qk _ (qk _ hy)) x hx z.symm
  ·rcases mem_append.mp hy with w | w
   ·exact n12 x (qm _ hx) y w z
   ·exact nab x hx y (qk _ w) z
 ·rcases mem_append.mp hx with w | w
  ·exact ap x (qm _ (qm _ w))
  ·rcases mem_append.mp w with w | w
   ·exact ap x (qk _ w)
   ·exact ap x (qm _ (qk _ (qk _ w)))
end
end FL
end
section
namespace FL
open PySem PySem.Spec PyProof.Rows L2
abbrev St:=L2.St
abbrev wp (X:Cx) (pn:List (Addr×Obj)) (xe:Value->Shared->Prop):Cx:={ X with pn:=pn,xe:=xe }
def slotOf:R->Option S
 | .v s=>some s
 | .loc _=>none
def RV (σ:St) (v:V):R->Prop
 | .v _=>True
 | .loc i=>σ[i]?=some (some v)
def RVs (σ:St):List V->List R->Prop
 | [],[]=>True
 | v::vs,r::rs=>RV σ v r/\RVs σ vs rs
 | _,_=>False
def XRep (X:Cx) (H:Hp) (u:Value) (d:D):Prop:=False
def KP (ks:List Nat) (σ σ':St):Prop:=∀ i∈ks,σ'[i]?=σ[i]?
def XC (X:Cx) (T:St->Prop) (F G:Hp) (PX:WX):Prop:=∀ (d:D) (ρ':Env) (σ':St) (F' H':Hp) (u:Value) (s':Shared),PX d ρ'->T σ'->Same F F'->Rel X.K ρ' σ' F' G H'->Inv X [] σ' H' s'->XRep X H' u d->X.xe u s'
theorem XC.mono {X:Cx} {T T':St->Prop} {F F' G G':Hp} {PX:WX} (h:XC X T F G PX) (t:∀ σ,T' σ->T σ) (f:Same F F') (g:Same G G'):XC X T' F' G' PX:=
 fun d ρ' σ' F2 H2 u s' p q sm r I x=>h d ρ' σ' F2 H2 u s' p (t _ q) (f.trans sm) (r.weakG g) I x
theorem XC.grow {X:Cx} {T:St->Prop} {F F' G:Hp} {PX:WX} (h:XC X T F G PX) (f:Same F F'):XC X T F' G PX:=h.mono (fun _ z=>z) f (Same.refl G)
inductive tW (X:Cx) (w:WE) (σ:St) (H:Hp) (Q:VK):Prop
 | mk (F G:Hp) (ρ:Env) (P:WQ) (PX:WX) (rel:Rel X.K ρ σ F G H) (hw:w ρ P PX) (hok:∀ r ρ' v F' H',P r ρ'->Same F F'->Rel X.K (ρ'++[slotOf r]) (σ++[some v]) F' G H'->RV σ v r->Q v H') (hx:XC X (·=σ) F G PX):tW X w σ H Q
def FE (X:Cx) (e:Expr) (w:WE):Prop:=∀ (pn:List (Addr×Obj)) (xe:Value->Shared->Prop),PassesOwn (model X.prog X.w) X.A X.env xe->PE (wp X pn xe) e (tW (wp X pn xe) w)
inductive tWT (X:Cx) (w:WT) (σ:St) (H:Hp) (Q:Bool->Hp->Prop):Prop
 | mk (F G:Hp) (ρ:Env) (P:Bool->Env->Prop) (PX:WX) (rel:Rel X.K ρ σ F G H) (hw:w ρ P PX) (hok:∀ b ρ' F' H',P b ρ'->Same F F'->Rel X.K ρ' σ F' G H'->Q b H') (hx:XC X (·=σ) F G PX):tWT X w σ H Q
def FT (X:Cx) (e:Expr) (w:WT):Prop:=∀ (pn:List (Addr×Obj)) (xe:Value->Shared->Prop),PassesOwn (model X.prog X.w) X.A X.env xe->PT (wp X pn xe) e (tWT (wp X pn xe) w)
def FW (X:Cx) (e:Expr) (w:WT):Prop:=∀ (pn:List (Addr×Obj)) (xe:Value->Shared->Prop),PassesOwn (model X.prog X.w) X.A X.env xe->PW (wp X pn xe) e (tWT (wp X pn xe) w)
inductive tWA (X:Cx) (w:WA) (σ:St) (H:Hp) (Q:List V->Hp->Prop):Prop
 | mk (F G:Hp) (ρ:Env) (P:List R->Env->Prop) (PX:WX) (rel:Rel X.K ρ σ F G H) (hw:w ρ P PX) (hok:∀ rs ρ' vs F' H',P rs ρ'->Same F F'->Rel X.K (ρ'++rs.map slotOf) (σ++vs.map some) F' G H'->ρ'.length=σ.length->RVs σ vs rs->Q vs H') (hx:XC X (·=σ) F G PX):tWA X w σ H Q
def FA (X:Cx) (es:List Expr) (w:WA):Prop:=∀ (pn:List (Addr×Obj)) (xe:Value->Shared->Prop),PassesOwn (model X.prog X.w) X.A X.env xe->PA (wp X pn xe) es (tWA (wp X pn xe) w)
theorem PE.imp {X:Cx} {e:Expr} {t t':TE} (h:PE X e t) (k:∀ σ H Q,t' σ H Q->t σ H Q):PE X e t':=fun pins s σ H Q I q=>h pins s σ H Q I (k σ H Q q)
theorem PT.imp {X:Cx} {e:Expr} {t t':TT} (h:PT X e t) (k:∀ σ H Q,t' σ H Q->t σ H Q):PT X e t':=fun pins s σ H Q I q=>h pins s σ H Q I (k σ H Q q)
theorem PW.imp {X:Cx} {e:Expr} {t t':TT} (h:PW X e t) (k:∀ σ H Q,t' σ H Q->t σ H Q):PW X e t':=fun wh pins s σ H Q I q=>h wh pins s σ H Q I (k σ H Q q)
theorem PA.imp {X:Cx} {e:List Expr} {t t':TA} (h:PA X e t) (k:∀ σ H Q,t' σ H Q->t σ H Q):PA X e t':=fun p pins s σ H Q I q=>h p pins s σ H Q I (k σ H Q q)
section
variable {K:W.Frag} {F F' H H' G G':Hp} {ρ ρ':Env} {σ σ':St} {v u:V}
theorem Rel.mid {o:Option S} {w:Option V} (r:Rel K (ρ++o::ρ') (σ++w::σ') F G H) (h:ρ.length=σ.length):Rel K (ρ++ρ') (σ++σ') F G H:=by
 obtain ⟨fp,e,nd,ap⟩:=r.en
 obtain ⟨f1,f2,rfl,a,b⟩:=e.cut h
 obtain ⟨f2,f3,rfl,b,c⟩:=EnvRep.cut (ρ:=[o]) (σ:=[w]) rfl b
 obtain ⟨n1,n2,n3⟩:=nodup_append.mp nd
 obtain ⟨n4,n5,n6⟩:=nodup_append.mp n2
 refine ⟨r.fr,r.gr,f1++f3,a.app c,nodup_append.mpr ⟨n1,n5,fun x hx y hy=>n3 x hx y (qk _ hy)⟩,fun x hx=>ap x ?_⟩
 rcases mem_append.mp hx with z | z
 ·exact qm _ z
 ·exact qk _ (qk _ z)
theorem len1 {o:Option S} {w:Option V} (r:Rel K (ρ++[o]) (σ++[w]) F G H):ρ.length=σ.length:=by
 have:=r.len
 simpa using this
theorem zce {o o':Option S}:(ρ++o::ρ').set ρ.length o'=ρ++o'::ρ':=by
 induction ρ with
 | nil=>rfl
 | cons a r ih=>simpa using ih
theorem zaf {α:Type} {o:Option α} {k:α->Prop} (h:need o k):∃ a,o=some a/\k a:=by
 cases o with
 | none=>exact h.elim
 | some a=>exact ⟨a,rfl,h⟩
def RepE (K:W.Frag) (F H:Hp) (v:V) (d:D):Prop:=Rep K F v d\/
 (∃ a xs ds,v=.ref a/\d=.lst ds/\H a=some (.lst xs)/\Reps K F xs ds)\/
 (∃ a kvs ks vs,v=.ref a/\d=.dct false ks vs/\H a=some (.dK kvs)/\ks=kvs.map (fun p=>keyD p.1)/\Reps K F (kvs.map (·.2)) vs)\/
 (∃ a kvs ks vs,v=.ref a/\d=.dct true ks vs/\H a=some (.dT kvs)/\ks=kvs.map (fun p=>D.tup (p.1.map keyD))/\Reps K F (kvs.map (·.2)) vs)
theorem RepE.mono (h:Same F F') (r:RepE K F H v d):RepE K F' H v d:=by
 rcases r with r | ⟨a,xs,ds,e1,e2,e3,r⟩ | ⟨a,kvs,ks,vs,e1,e2,e3,e4,r⟩ | ⟨a,kvs,ks,vs,e1,e2,e3,e4,r⟩
 ·exact .inl (r.mono h)
 ·exact .inr (.inl ⟨a,xs,ds,e1,e2,e3,r.mono h⟩)
 ·exact .inr (.inr (.inl ⟨a,kvs,ks,vs,e1,e2,e3,e4,r.mono h⟩))
 ·exact .inr (.inr (.inr ⟨a,kvs,ks,vs,e1,e2,e3,e4,r.mono h⟩))
theorem SReps.sh {xs:List V} {l:List S} {fp:List Addr} (r:SReps K F H xs l fp):l.all S.isSh=true->Reps K F xs (l.map S.toD)/\fp=[]:=
 SReps.ind (P:=fun xs l fp=>l.all S.isSh=true->Reps K F xs (l.map S.toD)/\fp=[]) (fun _=>⟨.nil,rfl⟩) (fun a _ ih h=>by
  rw [List.all_cons,and_eq_true] at h
  obtain ⟨q,e⟩:=ih h.2
  cases a with
  | sh r=>exact ⟨.cons r q,e⟩
  | _=>exact absurd h.1 (by simp [S.isSh])) r
theorem look {x:R} {d:D} (r:Rel K (ρ++(slotOf x::ρ')) (σ++(some v::σ')) F G H) (h:ρ.length=σ.length) (rv:RV σ v x) (e:view x ρ=some d):Rep K H v d:=by
 cases x with
 | v s=>
   obtain ⟨u,fp,e1,q⟩:=r.at (i:=ρ.length) (s:=s) zaC
   rw [h,getElem?_append_right (le_refl _),sub_self] at e1
   have e2:v=u:=by simpa using e1
   subst e2
   have e3:s.toD=d:=qh e
   rw [<- e3]
   exact q.view r.fr
 | loc i=>
   have e':(slot ρ i).map S.toD=some d:=e
   cases q:slot ρ i with
   | none=>rw [q] at e'; cases e'
   | some s=>
     rw [q] at e'
     have e3:s.toD=d:=qh e'
     have hi:=zb9 q
     obtain ⟨u,fp,e1,w⟩:=r.at (i:=i) (s:=s) (by rw [zbT hi]; exact q)
     rw [getElem?_append_left (h ▸ hi)] at e1
     have rv':σ[i]?=some (some v):=rv
     rw [rv'] at e1
     have e2:v=u:=by simpa using e1
     subst e2
     rw [<- e3]
     exact w.view r.fr
theorem takeC {x:R} {d:D} (r:Rel K (ρ++(slotOf x::ρ')) (σ++(some v::σ')) F G H) (h:ρ.length=σ.length) (rv:RV σ v x) (e:viewC x ρ=some d):
  ∃ F',Same F F'/\RepE K F' H v d/\Rel K (ρ++ρ') (σ++σ') F' G H:=by
 cases x with
 | v s=>
   obtain ⟨u,F',e1,sm,rp,r'⟩:=r.give (i:=ρ.length) (s:=s) zaC
   rw [h,getElem?_append_right (le_refl _),sub_self] at e1
   have e2:v=u:=by simpa using e1
   subst e2
   have e3:s.toD=d:=qh e
   rw [show (ρ++slotOf (.v s)::ρ').set ρ.length (some (S.sh s.toD))=ρ++some (S.sh s.toD)::ρ' from zce] at r'
   exact ⟨F',sm,.inl (e3 ▸ rp),r'.mid h⟩
 | loc i=>
   have e':(match slot ρ i with | some s=>if s.flat then some s.toD else none | none=>none)=some d:=e
   cases q:slot ρ i with
   | none=>rw [q] at e'; cases e'
   | some s=>
     rw [q] at e'
     have hi:=zb9 q
     obtain ⟨u,fp,e1,w⟩:=r.at (i:=i) (s:=s) (by rw [zbT hi]; exact q)
     rw [getElem?_append_left (h ▸ hi)] at e1
     have rv':σ[i]?=some (some v):=rv
     rw [rv'] at e1
     have e2:v=u:=by simpa using e1
     subst e2
     refine ⟨F,Same.refl F,?_,r.mid h⟩
     by_cases hf:s.flat=true
     ·have e3:s.toD=d:=by
       have e4:(if s.flat=true then some s.toD else none)=some d:=e'
       rw [if_pos hf] at e4; exact qh e4
      subst e3
      cases w with
      | sh r=>exact .inl r
      | lst e0 r0=>
        obtain ⟨r1,_⟩:=r0.sh hf
        exact .inr (.inl ⟨_,_,_,rfl,by simp,e0,r1⟩)
      | dK e0 k0 r0=>
        obtain ⟨r1,_⟩:=r0.sh hf
        exact .inr (.inr (.inl ⟨_,_,_,_,rfl,by simp,e0,k0,r1⟩))
      | dT e0 k0 r0=>
        obtain ⟨r1,_⟩:=r0.sh hf
        exact .inr (.inr (.inr ⟨_,_,_,_,rfl,by simp,e0,k0,r1⟩))
      | st _ _=>exact absurd hf (by simp [S.flat])
     ·exfalso
      have e4:(if s.flat=true then some s.toD else none)=some d:=e'
      rw [if_neg hf] at e4; cases e4
theorem giveR {x:R} {s:S} {ρ1:Env} (r:Rel K (ρ++(slotOf x::ρ')) (σ++(some v::σ')) F G H) (h:ρ.length=σ.length) (rv:RV σ v x) (e:give x ρ=some (s,ρ1)):
  ∃ F',Same F F'/\ρ1.length=ρ.length/\Rel K (ρ1++(some s::ρ')) (σ++(some v::σ')) F' G H:=by
 cases x with
 | v t=>
   have e':some (t,ρ)=some (s,ρ1):=e
   cases e'
   exact ⟨F,Same.refl F,rfl,r⟩
 | loc i=>
   have e':(match slot ρ i with | some s=>some (S.sh s.toD,ρ.set i (some (.sh s.toD))) | none=>none)=some (s,ρ1):=e
   cases q:slot ρ i with
   | none=>rw [q] at e'; cases e'
   | some t=>
     rw [q] at e'
     cases e'
     have hi:=zb9 q
     obtain ⟨u,F',e1,sm,rp,r'⟩:=r.give (i:=i) (s:=t) (by rw [zbT hi]; exact q)
     rw [getElem?_append_left (h ▸ hi)] at e1
     have rv':σ[i]?=some (some v):=rv
     rw [rv'] at e1
     have e2:v=u:=by simpa using e1
     subst e2
     rw [List.set_append_left _ _ hi] at r'
     refine ⟨F',sm,by simp,?_⟩
     obtain ⟨fp,en,nd,ap⟩:=r'.en
     have hl:(ρ.set i (some (S.sh t.toD))).length=σ.length:=by simpa using h
     obtain ⟨f1,f2,rfl,a,b⟩:=en.cut hl
     have b':EnvRep K F' H (none::ρ') (some v::σ') f2:=b
     cases b' with
     | no b=>exact ⟨r'.fr,r'.gr,f1++([]++f2),a.app (.so (.sh rp) b),by simpa using nd,fun x hx=>ap x (by simpa using hx)⟩
end
theorem tW.mono {X:Cx} {w:WE} {σ:St} {H:Hp} {Q Q':VK} (h:tW X w σ H Q) (k:∀ v H',Q v H'->Q' v H'):tW X w σ H Q':=by
 obtain ⟨F,G,ρ,P,PX,rel,hw,hok,hx⟩:=h
 exact ⟨F,G,ρ,P,PX,rel,hw,fun r ρ' v F' H' a b c d=>k _ _ (hok r ρ' v F' H' a b c d),hx⟩
section
variable {X:Cx} {σ:St} {H:Hp} {Q:VK}
inductive Two (X:Cx) (σ:St) (k:R->R->Env->WQ->WX->Prop) (Q:VK) (v u:V) (H:Hp):Prop
 | mk (F G:Hp) (ρ:Env) (x y:R) (P:WQ) (PX:WX) (rel:Rel X.K (ρ++[slotOf x,slotOf y]) (σ++[some v,some u]) F G H) (hl:ρ.length=σ.length) (rx:RV σ v x) (ry:RV σ u y) (hk:k x y ρ P PX) (hok:∀ r ρ' v F' H',P r ρ'->Same F F'->Rel X.K (ρ'++[slotOf r]) (σ++[some v]) F' G H'->RV σ v r->Q v H') (hx:XC X (·=σ) F G PX):Two X σ k Q v u H
theorem two {wa wb:WE} {k:R->R->Env->WQ->WX->Prop} (h:tW X (fun ρ Q E=>wa ρ (fun x ρ1=>wb ρ1 (fun y ρ2=>k x y ρ2 Q E) E) E) σ H Q):
  tW X wa σ H fun v H1=>tW X wb σ H1 fun u H2=>Two X σ k Q v u H2:=by
 obtain ⟨F,G,ρ,P,PX,rel,hw,hok,hx⟩:=h
 refine ⟨F,G,ρ,_,PX,rel,hw,fun x ρ1 v F1 H1 hp1 s1 r1 rv1=>?_,hx⟩
 have h1:=len1 r1
 obtain ⟨G1,rel1,gg,back⟩:=r1.hide h1
 refine ⟨F1,G1,ρ1,_,PX,rel1,hp1,fun y ρ2 u F2 H2 hp2 s2 r2 rv2=>?_,hx.mono (fun _ z=>z) s1 gg⟩
 have h2:=len1 r2
 have r3:=back s2 r2
 rw [append_assoc,append_assoc] at r3
 exact ⟨F2,G,ρ2,x,y,P,PX,Rel.swap (ρ1:=[slotOf y]) (σ1:=[some u]) (ρ2:=[slotOf x]) (σ2:=[some v]) h2 rfl r3,h2,rv1,rv2,hp2,fun r ρ' v F' H' a b c d=>hok r ρ' v F' H' a (s1.trans (s2.trans b)) c d,hx.grow (s1.trans s2)⟩
inductive One (X:Cx) (σ:St) (k:R->Env->WQ->WX->Prop) (Q:VK) (v:V) (H:Hp):Prop
 | mk (F G:Hp) (ρ:Env) (x:R) (P:WQ) (PX:WX) (rel:Rel X.K (ρ++[slotOf x]) (σ++[some v]) F G H) (hl:ρ.length=σ.length) (rx:RV σ v x) (hk:k x ρ P PX) (hok:∀ r ρ' v F' H',P r ρ'->Same F F'->Rel X.K (ρ'++[slotOf r]) (σ++[some v]) F' G H'->RV σ v r->Q v H') (hx:XC X (·=σ) F G PX):One X σ k Q v H
theorem one {wa:WE} {k:R->Env->WQ->WX->Prop} (h:tW X (fun ρ Q E=>wa ρ (fun x ρ1=>k x ρ1 Q E) E) σ H Q):tW X wa σ H fun v H1=>One X σ k Q v H1:=by
 obtain ⟨F,G,ρ,P,PX,rel,hw,hok,hx⟩:=h
 exact ⟨F,G,ρ,_,PX,rel,hw,fun x ρ1 v F1 H1 hp1 s1 r1 rv1=>⟨F1,G,ρ1,x,P,PX,r1,len1 r1,rv1,hp1,fun r ρ' v F' H' a b c d=>hok r ρ' v F' H' a (s1.trans b) c d,hx.grow s1⟩,hx⟩
end
section
variable {X:Cx}
theorem zlR {i:Nat} {x:Str} {pos:Pos} (hN:X.N[i]?=some x) (hv:Vis X.env.scope x) (hd:(x == ("__debug__":Str))=false:=by decide) (hcd:(x == ("__classdict__":Str))=false:=by decide):FE X (.Name x pos) (wVar i):=by
 intro pn xe hp
 refine PE.imp (zmX (X:=wp X pn xe) hN hv hd hcd) fun σ H Q h=>?_
 obtain ⟨F,G,ρ,P,PX,rel,hw,hok,hx⟩:=h
 unfold wVar at hw
 cases q:slot ρ i with
 | none=>rw [q] at hw; exact hw.elim
 | some s=>
   obtain ⟨v,fp,e1,sr⟩:=rel.at q
   rw [q] at hw
   cases s with
   | sh d=>
     cases sr with
     | sh r=>exact ⟨v,e1,hok _ _ v F H hw (Same.refl F) (rel.push r) trivial⟩
   | lst l=>exact ⟨v,e1,hok _ _ v F H hw (Same.refl F) rel.pushN e1⟩
   | dct t a b=>exact ⟨v,e1,hok _ _ v F H hw (Same.refl F) rel.pushN e1⟩
   | set l=>exact ⟨v,e1,hok _ _ v F H hw (Same.refl F) rel.pushN e1⟩
theorem fe_c {e:Expr} {v:V} {d:D} (h:∀ X:Cx,PE X e (tC v)) (r:∀ K F,Rep K F v d):FE X e (wC d):=by
 intro pn xe hp
 refine PE.imp (h _) fun σ H Q h=>?_
 obtain ⟨F,G,ρ,P,PX,rel,hw,hok,hx⟩:=h
 exact hok _ _ v F H hw (Same.refl F) (rel.push (r _ _)) trivial
theorem zad {i:Int} {j pos}:FE X (.Constant (.int i) j pos) (wC (.int i)):=fe_c (fun _=>znH) fun _ _=>.int i
theorem zdX {b:Bool} {j pos}:FE X (.Constant (.bool b) j pos) (wC (.bl b)):=fe_c (fun _=>zpx) fun _ _=>.bl b
theorem zlS {j pos}:FE X (.Constant .none j pos) (wC .non):=fe_c (fun _=>zm7) fun _ _=>.non
theorem zat {x:Str} {l:List Nat} {j pos} (e:x.cps.toList=l) (z:l.length<=16777216):FE X (.Constant (.str x) j pos) (wC (.str l)):=fe_c (fun _=>zmh) fun _ _=>.str e z
end
section
variable {X:Cx} {a b c:Expr} {wa wb wc:WE} {pos:Pos}
theorem OpR.or {f:Value->Value->Sem Value} {r r':R2} (h:OpR X f r) (h':OpR X f r'):OpR X f (fun x y H Q=>r x y H Q\/r' x y H Q):=fun pins s σ H x y v u Q I rx ry q=>
 q.elim (fun z=>h pins s σ H x y v u Q I rx ry z) fun z=>h' pins s σ H x y v u Q I rx ry z
def Does (K:W.Frag) (r:R2) (op:D->D->Option S):Prop:=∀ (σ:St) (ρ:Env) (F G H:Hp) (x y:V) (p q:D) (s:S) (Q:VK),Rel K ρ σ F G H->RepE K F H x p->RepE K F H y q->op p q=some s->
 (∀ v F' H',Same F F'->Rel K (ρ++[some s]) (σ++[some v]) F' G H'->Q v H')->r x y H Q
theorem zdj {op:Operator} {r:R2} {o:D->D->Option S} (ho:∀ pn xe,OpR (wp X pn xe) (binaryOp op) r) (hd:Does X.K r o) (ha:FE X a wa) (hb:FE X b wb):FE X (.BinOp a op b pos) (wBin o wa wb):=by
 intro pn xe hp
 refine PE.imp (zoB (ho pn xe) (ha pn xe hp) (hb pn xe hp)) fun σ H Q h=>?_
 refine (two (k:=fun x y ρ2 Q E=>need (viewC x ρ2) fun p=>need (viewC y ρ2) fun q=>need (o p q) fun s=>Q (.v s) ρ2) h).mono fun v H1 h1=>h1.mono fun u H2 h2=>?_
 obtain ⟨F,G,ρ,x,y,P,PX,rel,hl,rx,ry,hk,hok,hx⟩:=h2
 obtain ⟨p,ep,hk⟩:=zaf hk
 obtain ⟨q,eq,hk⟩:=zaf hk
 obtain ⟨t,et,hk⟩:=zaf hk
 obtain ⟨F1,s1,re1,rel1⟩:=takeC rel hl rx ep
 obtain ⟨F2,s2,re2,rel2⟩:=takeC (ρ':=[]) (σ':=[]) rel1 hl ry eq
 rw [append_nil,append_nil] at rel2
 exact hd σ ρ F2 G H2 v u p q t Q rel2 (re1.mono s2) re2 et fun v' F' H' sm r'=>hok (.v t) ρ v' F' H' hk (s1.trans (s2.trans sm)) r' trivial
end
theorem tWA.mono {X:Cx} {w:WA} {σ:St} {H:Hp} {Q Q':List V->Hp->Prop} (h:tWA X w σ H Q) (k:∀ v H',Q v H'->Q' v H'):tWA X w σ H Q':=by
 obtain ⟨F,G,ρ,P,PX,rel,hw,hok,hx⟩:=h
 exact ⟨F,G,ρ,P,PX,rel,hw,fun r ρ' v F' H' a b c d e=>k _ _ (hok r ρ' v F' H' a b c d e),hx⟩
section
variable {X:Cx} {a b c:Expr} {wa wb wc:WE} {ta tb:WT} {pos:Pos} {σ:St} {H:Hp}
inductive TwoT (X:Cx) (σ:St) (k:R->R->Env->(Bool->Env->Prop)->WX->Prop) (Q:Bool->Hp->Prop) (v u:V) (H:Hp):Prop
 | mk (F G:Hp) (ρ:Env) (x y:R) (P:Bool->Env->Prop) (PX:WX) (rel:Rel X.K (ρ++[slotOf x,slotOf y]) (σ++[some v,some u]) F G H) (hl:ρ.length=σ.length) (rx:RV σ v x) (ry:RV σ u y) (hk:k x y ρ P PX) (hok:∀ r ρ' F' H',P r ρ'->Same F F'->Rel X.K ρ' σ F' G H'->Q r H') (hx:XC X (·=σ) F G PX):TwoT X σ k Q v u H
theorem twoT {Q:Bool->Hp->Prop} {k:R->R->Env->(Bool->Env->Prop)->WX->Prop} (h:tWT X (fun ρ Q E=>wa ρ (fun x ρ1=>wb ρ1 (fun y ρ2=>k x y ρ2 Q E) E) E) σ H Q):
  tW X wa σ H fun v H1=>tW X wb σ H1 fun u H2=>TwoT X σ k Q v u H2:=by
 obtain ⟨F,G,ρ,P,PX,rel,hw,hok,hx⟩:=h
 refine ⟨F,G,ρ,_,PX,rel,hw,fun x ρ1 v F1 H1 hp1 s1 r1 rv1=>?_,hx⟩
 have h1:=len1 r1
 obtain ⟨G1,rel1,gg,back⟩:=r1.hide h1
 refine ⟨F1,G1,ρ1,_,PX,rel1,hp1,fun y ρ2 u F2 H2 hp2 s2 r2 rv2=>?_,hx.mono (fun _ z=>z) s1 gg⟩
 have h2:=len1 r2
 have r3:=back s2 r2
 rw [append_assoc,append_assoc] at r3
 exact ⟨F2,G,ρ2,x,y,P,PX,Rel.swap (ρ1:=[slotOf y]) (σ1:=[some u]) (ρ2:=[slotOf x]) (σ2:=[some v]) h2 rfl r3,h2,rv1,rv2,hp2,fun r ρ' F' H' a b c=>hok r ρ' F' H' a (s1.trans (s2.trans b)) c,hx.grow (s1.trans s2)⟩
def DoesC (K:W.Frag) (r:R2) (op:D->D->Option Bool):Prop:=∀ (H:Hp) (x y:V) (p q:D) (k:Bool) (Q:VK),Rep K H x p->Rep K H y q->op p q=some k->Q (.bl k) H->r x y H Q
theorem look2 {K:W.Frag} {ρ:Env} {F G:Hp} {x y:R} {v u:V} {p q:D} (rel:Rel K (ρ++[slotOf x,slotOf y]) (σ++[some v,some u]) F G H) (hl:ρ.length=σ.length) (rx:RV σ v x) (ry:RV σ u y) (ep:view x ρ=some p) (eq:view y ρ=some q):
  Rep K H v p/\Rep K H u q/\Rel K ρ σ F G H:=by
 have rel':Rel K (ρ++[slotOf y]) (σ++[some u]) F G H:=rel.mid hl
 exact ⟨look rel hl rx ep,look (ρ':=[]) (σ':=[]) rel' hl ry eq,rel'.drop hl⟩
theorem zal {op:CmpOp} {r:R2} {o:D->D->Option Bool} (ho:∀ pn xe,OpR (wp X pn xe) (compareOp op) r) (hd:DoesC X.K r o) (ha:FE X a wa) (hb:FE X b wb) (hm:behindInMarks op b=false):FT X (.Compare a [op] [b] pos) (wCmp o wa wb):=by
 intro pn xe hp
 refine PT.imp (zkI (ho pn xe) (ha pn xe hp) (hb pn xe hp) hm) fun σ H Q h=>?_
 refine (twoT (k:=fun x y ρ2 Q E=>need (view x ρ2) fun p=>need (view y ρ2) fun q=>need (o p q) fun c=>Q c ρ2) h).mono fun v H1 h1=>h1.mono fun u H2 h2=>?_
 obtain ⟨F,G,ρ,x,y,P,PX,rel,hl,rx,ry,hk,hok,hx⟩:=h2
 obtain ⟨p,ep,hk⟩:=zaf hk
 obtain ⟨q,eq,hk⟩:=zaf hk
 obtain ⟨t,et,hk⟩:=zaf hk
 obtain ⟨r1,r2,rel'⟩:=look2 rel hl rx ry ep eq
 exact hd H2 v u p q t _ r1 r2 et ⟨t,rfl,hok t ρ F H2 hk (Same.refl F) rel'⟩
theorem zbe {op:CmpOp} {r:R2} {o:D->D->Option Bool} (ho:∀ pn xe,OpR (wp X pn xe) (compareOp op) r) (hd:DoesC X.K r o) (ha:FE X a wa) (hb:FE X b wb) (hm:behindInMarks op b=false):FE X (.Compare a [op] [b] pos) (wOfT (wCmp o wa wb)):=by
 intro pn xe hp
 refine PE.imp (zlL (ho pn xe) (ha pn xe hp) (hb pn xe hp) hm) fun σ H Q h=>?_
 refine (two (k:=fun x y ρ2 Q E=>need (view x ρ2) fun p=>need (view y ρ2) fun q=>need (o p q) fun c=>Q (.v (.sh (.bl c))) ρ2) h).mono fun v H1 h1=>h1.mono fun u H2 h2=>?_
 obtain ⟨F,G,ρ,x,y,P,PX,rel,hl,rx,ry,hk,hok,hx⟩:=h2
 obtain ⟨p,ep,hk⟩:=zaf hk
 obtain ⟨q,eq,hk⟩:=zaf hk
 obtain ⟨t,et,hk⟩:=zaf hk
 obtain ⟨r1,r2,rel'⟩:=look2 rel hl rx ry ep eq
 exact hd H2 v u p q t _ r1 r2 et (hok _ ρ (.bl t) F H2 hk (Same.refl F) (rel'.push (.bl t)) trivial)
theorem zlr {K:W.Frag} {v:V} {d:D} {k:Bool} (r:Rep K H v d) (e:truth d=some k):TruV K v H k:=by
 cases r with
 | non=>exact (qh e).symm
 | bl b=>exact (qh e).symm
 | int i=>
   have e':=(qh e).symm
   rw [e']
   show decide (i≠0)=(i !=0)
   by_cases h:i=0 <;> simp [h]
 | str e1 z=>
   rename_i x l
   have e':=(qh e).symm
   have hl:x.length=l.length:=by rw [<- e1]; rfl
   refine ⟨by rw [hl,sizeLine_eq]; exact z,?_⟩
   rw [e',hl]
   cases l with
   | nil=>rfl
   | cons a r=>simp; lia
 | tup h r=>
   refine .inr (.inl ⟨_,SqT.of h,?_⟩)
   have e':=(qh e).symm
   rw [e']
   cases r <;> rfl
 | lst h r=>
   refine .inl ⟨_,h,?_⟩
   have e':=(qh e).symm
   rw [e']
   cases r <;> rfl
 | dK h k r=>cases e
 | dT h k r=>cases e
 | st h r=>cases e
theorem zgZ (ha:FE X a wa) (he:∀ whole,isTrue a X.env whole=(do let v <- whole; standAt a.pos; holding [v] (truthy v)):=by intro _; rfl):FT X a (wTest wa):=by
 intro pn xe hp
 refine PT.imp (zjR (ha pn xe hp) he) fun σ H Q h=>?_
 obtain ⟨F,G,ρ,P,PX,rel,hw,hok,hx⟩:=h
 refine ⟨F,G,ρ,_,PX,rel,hw,fun x ρ1 v F1 H1 hk s1 r1 rv1=>?_,hx⟩
 obtain ⟨p,ep,hk⟩:=zaf hk
 obtain ⟨t,et,hk⟩:=zaf hk
 have hl:=len1 r1
 exact ⟨t,zlr (look (ρ':=[]) (σ':=[]) r1 hl rv1 ep) et,hok t ρ1 F1 H1 hk s1 (r1.drop hl)⟩
theorem thenT {Q:Bool->Hp->Prop} {k:Bool->Env->(Bool->Env->Prop)->WX->Prop} {Q':Bool->Hp->Prop} (h:tWT X (fun ρ Q E=>ta ρ (fun c ρ1=>k c ρ1 Q E) E) σ H Q)
  (hk:∀ (c:Bool) (F G:Hp) (ρ:Env) (P:Bool->Env->Prop) (PX:WX) (H1:Hp),Rel X.K ρ σ F G H1->k c ρ P PX->(∀ r ρ' F' H',P r ρ'->Same F F'->Rel X.K ρ' σ F' G H'->Q r H')->XC X (·=σ) F G PX->Q' c H1):tWT X ta σ H Q':=by
 obtain ⟨F,G,ρ,P,PX,rel,hw,hok,hx⟩:=h
 exact ⟨F,G,ρ,_,PX,rel,hw,fun c ρ1 F1 H1 hp s1 r1=>hk c F1 G ρ1 P PX H1 r1 hp (fun r ρ' F' H' a b c=>hok r ρ' F' H' a (s1.trans b) c) (hx.grow s1),hx⟩
theorem zeQ (h:FW X a ta):FT X a ta:=fun pn xe hp=>(h pn xe hp).pt
theorem zcD (h:FT X a ta):FW X (.BoolOp .And [a] pos) ta:=fun pn xe hp=>zlg (h pn xe hp)
theorem zid (h:FT X a ta):FW X (.BoolOp .Or [a] pos) ta:=fun pn xe hp=>znR (h pn xe hp)
theorem zec {rest:List Expr} (h:FT X a ta) (h':FW X (.BoolOp .And (b::rest) pos) tb):FW X (.BoolOp .And (a::b::rest) pos) (wtAnd ta tb):=fun pn xe hp=>by
 refine PW.imp (zof (h pn xe hp) (h' pn xe hp)) fun σ H Q q=>?_
 refine thenT (k:=fun c ρ1 Q E=>if c then tb ρ1 Q E else Q false ρ1) q fun c F G ρ P PX H1 rel hk hok hx=>?_
 cases c with
 | true=>exact ⟨F,G,ρ,P,PX,rel,hk,hok,hx⟩
 | false=>exact hok false ρ F H1 hk (Same.refl F) rel
theorem zg5 {rest:List Expr} (h:FT X a ta) (h':FW X (.BoolOp .Or (b::rest) pos) tb):FW X (.BoolOp .Or (a::b::rest) pos) (wtOr ta tb):=fun pn xe hp=>by
 refine PW.imp (zqc (h pn xe hp) (h' pn xe hp)) fun σ H Q q=>?_
 refine thenT (k:=fun c ρ1 Q E=>if c then Q true ρ1 else tb ρ1 Q E) q fun c F G ρ P PX H1 rel hk hok hx=>?_
 cases c with
 | false=>exact ⟨F,G,ρ,P,PX,rel,hk,hok,hx⟩
 | true=>exact hok true ρ F H1 hk (Same.refl F) rel
theorem zif (h:FT X a ta):FT X (.UnaryOp .Not a pos) (wtNot ta):=fun pn xe hp=>by
 refine PT.imp (zmE (h pn xe hp)) fun σ H Q q=>?_
 exact thenT (k:=fun c ρ1 Q E=>Q (!c) ρ1) q fun c F G ρ P PX H1 rel hk hok hx=>hok _ ρ F H1 hk (Same.refl F) rel
theorem znd {K:W.Frag} {v:V} {c:Bool} (r:Rep K H v (.bl c)):v=.bl c:=by cases r; rfl
theorem zl3 {op:BoolOp} (h:FE X a wa):FE X (.BoolOp op [a] pos) wa:=fun pn xe hp=>zlO (h pn xe hp)
theorem zn2 {rest:List Expr} (ha:FE X a wa) (hb:FE X (.BoolOp .And (b::rest) pos) wb):FE X (.BoolOp .And (a::b::rest) pos) (wAndV wa wb):=fun pn xe hp=>by
 refine PE.imp (znI (ha pn xe hp) (hb pn xe hp)) fun σ H Q q=>?_
 refine (one (k:=fun x ρ1 Q E=>match view x ρ1 with | some (.bl c)=>if c then wb ρ1 Q E else Q (.v (.sh (.bl false))) ρ1 | _=>False) q).mono fun v H1 h1=>?_
 obtain ⟨F,G,ρ,x,P,PX,rel,hl,rx,hk,hok,hx⟩:=h1
 split at hk
 ·rename_i c e
  refine ⟨c,znd (look (ρ':=[]) (σ':=[]) rel hl rx e),?_⟩
  cases c with
  | true=>exact ⟨F,G,ρ,P,PX,rel.drop hl,hk,hok,hx⟩
  | false=>exact hok _ ρ (.bl false) F H1 hk (Same.refl F) ((rel.drop hl).push (.bl false)) trivial
 ·exact hk.elim
end
section
variable {X:Cx} {e:Expr} {es:List Expr} {wa:WE} {wb:WA} {pos:Pos} {K:W.Frag}
theorem zab:FA X [] wNil:=fun pn xe hp=>PA.imp znB fun σ H Q q=>by
 obtain ⟨F,G,ρ,P,PX,rel,hw,hok,hx⟩:=q
 exact hok [] ρ [] F H hw (Same.refl F) (by simpa using rel) rel.len trivial
theorem zaa (ha:FE X e wa) (hb:FA X es wb) (hs:starEach (e::es) X.env=(false,eval e X.env)::starEach es X.env:=by rfl):FA X (e::es) (wCons wa wb):=fun pn xe hp=>by
 refine PA.imp (zlI (ha pn xe hp) (hb pn xe hp) hs) fun σ H Q q=>?_
 obtain ⟨F,G,ρ,P,PX,rel,hw,hok,hx⟩:=q
 refine ⟨F,G,ρ,_,PX,rel,hw,fun x ρ1 v F1 H1 hp1 s1 r1 rv1=>?_,hx⟩
 have h1:=len1 r1
 obtain ⟨G1,rel1,gg,back⟩:=r1.hide h1
 refine ⟨F1,G1,ρ1,_,PX,rel1,hp1,fun rs ρ2 vs F2 H2 hp2 s2 r2 h2 rv2=>?_,hx.mono (fun _ z=>z) s1 gg⟩
 have r3:=back s2 r2
 rw [append_assoc,append_assoc] at r3
 have hl:(rs.map slotOf).length=(vs.map some).length:=by
  have:=r2.len
  rw [length_append,length_append,h2] at this
  lia
 exact hok (x::rs) ρ2 (v::vs) F2 H2 hp2 (s1.trans s2) (Rel.swap (ρ1:=rs.map slotOf) (σ1:=vs.map some) (ρ2:=[slotOf x]) (σ2:=[some v]) h2 hl r3) h2 ⟨rv1,rv2⟩
end
section
variable {K:W.Frag} {F F' H H' G G':Hp} {σ σ':St} {v u:V}
theorem RVs.len:∀ {vs:List V} {rs:List R},RVs σ vs rs->vs.length=rs.length
 | [],[],_=>rfl
 | [],_::_,h=>h.elim
 | _::_,[],h=>h.elim
 | _::vs,_::rs,h=>by simp [RVs.len h.2]
theorem zcg:∀ {rs:List R} {vs:List V} {ρ ρ' ρ1:Env} {ss:List S} {F:Hp} {σ':St},Rel K (ρ++(rs.map slotOf++ρ')) (σ++(vs.map some++σ')) F G H->ρ.length=σ.length->RVs σ vs rs->giveAll rs ρ=some (ss,ρ1)->
  ∃ F',Same F F'/\ρ1.length=ρ.length/\ss.length=rs.length/\Rel K (ρ1++(ss.map some++ρ')) (σ++(vs.map some++σ')) F' G H
 | [],[],ρ,ρ',ρ1,ss,F,σ',r,h,_,e=>by
   have e':some (([]:List S),ρ)=some (ss,ρ1):=e
   cases e'
   exact ⟨F,Same.refl F,rfl,rfl,r⟩
 | [],_::_,_,_,_,_,_,_,_,_,h,_=>h.elim
 | _::_,[],_,_,_,_,_,_,_,_,h,_=>h.elim
 | x::rs,v::vs,ρ,ρ',ρ1,ss,F,σ',r,h,rv,e=>by
   have e':(match give x ρ with | some (s,ρ1)=>(match giveAll rs ρ1 with | some (ss,ρ2)=>some (s::ss,ρ2) | none=>none) | none=>none)=some (ss,ρ1):=e
   cases q:give x ρ with
   | none=>rw [q] at e'; cases e'
   | some p=>
     obtain ⟨s,ρ2⟩:=p
     rw [q] at e'
     cases q2:giveAll rs ρ2 with
     | none=>simp only [q2] at e'; cases e'
     | some p2=>
       obtain ⟨ts,ρ3⟩:=p2
       simp only [q2] at e'
       cases e'
       obtain ⟨F1,s1,l1,r1⟩:=giveR (ρ':=rs.map slotOf++ρ') (σ':=vs.map some++σ') r h rv.1 q
       have h2:ρ2.length=σ.length:=l1.trans h
       have hl:(rs.map slotOf++ρ').length=(vs.map some++σ').length:=by
        have:=r1.len
        rw [length_append,length_append,h2,length_cons,length_cons] at this
        lia
       have hl':ρ'.length=σ'.length:=by
        have:=rv.2.len
        simp at hl
        lia
       have r2:=Rel.swap (ρ1:=[some s]) (σ1:=[some v]) (ρ2:=rs.map slotOf++ρ') (σ2:=vs.map some++σ') h2 rfl r1
       rw [append_assoc,append_assoc] at r2
       obtain ⟨F2,s2,l2,l3,r3⟩:=zcg (rs:=rs) (vs:=vs) r2 h2 rv.2 q2
       have h3:ρ1.length=σ.length:=l2.trans h2
       rw [<- append_assoc (ts.map some),<- append_assoc (vs.map some)] at r3
       have r4:=Rel.swap (ρ1:=ts.map some++ρ') (σ1:=vs.map some++σ') (ρ2:=[some s]) (σ2:=[some v]) h3 (by simp [l3,rv.2.len,hl']) r3
       exact ⟨F2,s1.trans s2,l2.trans l1,by simp [l3],r4⟩
theorem envReps:∀ {vs:List V} {ss:List S} {fp:List Addr},EnvRep K F H (ss.map some) (vs.map some) fp->SReps K F H vs ss fp
 | [],[],_,.nil=>.nil
 | [],_::_,_,h=>nomatch h
 | _::_,[],_,h=>nomatch h
 | v::vs,s::ss,_,.so a b=>.cons a (envReps b)
theorem Rel.newL {ρ:Env} {vs:List V} {ss:List S} {p:Addr} (r:Rel K (ρ++ss.map some) (σ++vs.map some) F G H) (h:ρ.length=σ.length) (hp:H p=none):
  Rel K (ρ++[some (.lst ss)]) (σ++[some (.ref p)]) F G (upd H p (.lst vs)):=by
 obtain ⟨f0,g0,n0⟩:=r.free hp
 obtain ⟨fp,e,nd,ap⟩:=r.en
 have hne:∀ a∈fp,a≠p:=fun a ha z=>n0 fp e (z ▸ ha)
 obtain ⟨f1,f2,rfl,en1,en2⟩:=(e.mono (H':=upd H p (.lst vs)) (Same.refl F) fun a ha=>zaj (hne a ha)).cut h
 refine ⟨Same.updR r.fr f0,fun a u q=>?_,f1++((p::f2)++[]),en1.app (.so (.lst zao (envReps en2)) .nil),?_,fun a ha=>?_⟩
 ·have hp:a≠p:=fun z=>by rw [z,g0] at q; cases q
  rw [zaj hp]; exact r.gr a u q
 ·obtain ⟨n1,n2,n3⟩:=nodup_append.mp nd
  rw [append_nil]
  refine nodup_append.mpr ⟨n1,nodup_cons.mpr ⟨fun z=>hne p (qk _ z) rfl,n2⟩,fun a ha b hb=>?_⟩
  rcases mem_cons.mp hb with rfl | hb
  ·exact hne a (qm _ ha)
  ·exact n3 a ha b hb
 ·rw [append_nil] at ha
  rcases mem_append.mp ha with z | z
  ·exact ap a (qm _ z)
  ·rcases mem_cons.mp z with rfl | z
   ·exact ⟨f0,g0⟩
   ·exact ap a (qk _ z)
theorem Rel.giveD {ρ:Env} {vs:List V} {ss:List S} (r:Rel K (ρ++ss.map some) (σ++vs.map some) F G H) (h:ρ.length=σ.length):∃ F',Same F F'/\Reps K F' vs (ss.map S.toD)/\Rel K ρ σ F' G H:=by
 classical
 obtain ⟨fp,e,nd,ap⟩:=r.en
 obtain ⟨f1,f2,rfl,a,b⟩:=e.cut h
 obtain ⟨n1,n2,n3⟩:=nodup_append.mp nd
 have sm:Same F (fun x=>if x∈f2 then H x else F x):=fun x o w=>by
  have z:x∉f2:=fun z=>by
   have:=(ap x (qk _ z)).1
   rw [w] at this; cases this
  simp only [z,if_false]; exact w
 have rp:=(envReps b).frz sm fun x hx=>by simp only [hx,if_true]
 rw [S.toDs_map] at rp
 refine ⟨_,sm,rp,fun x o w=>?_,fun x o w=>?_,f1,a.mono sm fun _ _=>rfl,n1,fun x hx=>?_⟩
 ·by_cases z:x∈f2
  ·simp only [z,if_true] at w; exact w
  ·simp only [z,if_false] at w; exact r.fr x o w
 ·have w2:=r.gr x o w
  have z:x∉f2:=fun z=>by
   have:=(ap x (qk _ z)).2
   rw [w] at this; cases this
  simp only [z,if_false]; exact w2
 ·have z:x∉f2:=fun z=>n3 x hx x z rfl
  simp only [z,if_false]
  exact ap x (qm _ hx)
end
section
variable {X:Cx} {es:List Expr} {wa:WA} {pos:Pos}
inductive Many (X:Cx) (σ:St) (k:List R->Env->WQ->WX->Prop) (Q:VK) (vs:List V) (H:Hp):Prop
 | mk (F G:Hp) (ρ:Env) (rs:List R) (P:WQ) (PX:WX) (rel:Rel X.K (ρ++rs.map slotOf) (σ++vs.map some) F G H) (hl:ρ.length=σ.length) (rv:RVs σ vs rs) (hk:k rs ρ P PX) (hok:∀ r ρ' v F' H',P r ρ'->Same F F'->Rel X.K (ρ'++[slotOf r]) (σ++[some v]) F' G H'->RV σ v r->Q v H') (hx:XC X (·=σ) F G PX):Many X σ k Q vs H
theorem many {σ:St} {H:Hp} {Q:VK} {k:List R->Env->WQ->WX->Prop} (h:tW X (fun ρ Q E=>wa ρ (fun rs ρ1=>k rs ρ1 Q E) E) σ H Q):tWA X wa σ H fun vs H1=>Many X σ k Q vs H1:=by
 obtain ⟨F,G,ρ,P,PX,rel,hw,hok,hx⟩:=h
 exact ⟨F,G,ρ,_,PX,rel,hw,fun rs ρ1 vs F1 H1 hp1 s1 r1 h1 rv1=>⟨F1,G,ρ1,rs,P,PX,r1,h1,rv1,hp1,fun r ρ' v F' H' a b c d=>hok r ρ' v F' H' a (s1.trans b) c d,hx.grow s1⟩,hx⟩
theorem zaB (h:FA X es wa):FE X (.List es pos) (wLst wa):=fun pn xe hp=>by
 refine PE.imp (zm3 (h pn xe hp)) fun σ H Q q=>?_
 refine (many (k:=fun rs ρ1 Q E=>need (if rs.length<=big then giveAll rs ρ1 else none) fun p=>Q (.v (.lst p.1)) p.2) q).mono fun vs H1 h1=>?_
 obtain ⟨F,G,ρ,rs,P,PX,rel,hl,rv,hk,hok,hx⟩:=h1
 obtain ⟨⟨ss,ρ1⟩,ep,hk⟩:=zaf hk
 by_cases hz:rs.length<=big
 ·rw [if_pos hz] at ep
  obtain ⟨F1,s1,l1,l2,r1⟩:=zcg (ρ':=[]) (σ':=[]) (by simpa using rel) hl rv ep
  refine ⟨by rw [rv.len,sizeLine_eq]; exact le_trans hz (by decide),fun p hp=>hok _ ρ1 (.ref p) F1 _ hk s1 (Rel.newL (by simpa using r1) (l1.trans hl) hp) trivial⟩
 ·rw [if_neg hz] at ep; cases ep
theorem zaw {k:Nat} (h:FA X es wa):FE X (.Tuple es k pos) (wTup wa):=fun pn xe hp=>by
 refine PE.imp (zlZ (h pn xe hp)) fun σ H Q q=>?_
 refine (many (k:=fun rs ρ1 Q E=>need (if rs.length<=big then giveAll rs ρ1 else none) fun p=>Q (.v (.sh (.tup (p.1.map S.toD)))) p.2) q).mono fun vs H1 h1=>?_
 obtain ⟨F,G,ρ,rs,P,PX,rel,hl,rv,hk,hok,hx⟩:=h1
 obtain ⟨⟨ss,ρ1⟩,ep,hk⟩:=zaf hk
 by_cases hz:rs.length<=big
 ·rw [if_pos hz] at ep
  obtain ⟨F1,s1,l1,l2,r1⟩:=zcg (ρ':=[]) (σ':=[]) (by simpa using rel) hl rv ep
  obtain ⟨F2,s2,rp,r2⟩:=Rel.giveD (ρ:=ρ1) (by simpa using r1) (l1.trans hl)
  refine ⟨by rw [rv.len,sizeLine_eq]; exact le_trans hz (by decide),fun p hp=>?_⟩
  have n2:=(r2.free hp).1
  exact hok _ ρ1 (.ref p) _ _ hk (s1.trans (s2.trans (Same.upd n2))) ((r2.newF hp).push (.tup zao (rp.mono (Same.upd n2)))) trivial
 ·rw [if_neg hz] at ep; cases ep
end
theorem KP.refl {ks:List Nat} {σ:St}:KP ks σ σ:=fun _ _=>rfl
theorem KP.trans {ks:List Nat} {σ σ1 σ2:St} (a:KP ks σ σ1) (b:KP ks σ1 σ2):KP ks σ σ2:=fun i h=>(b i h).trans (a i h)
inductive tWS (X:Cx) (ks:List Nat) (w:WS) (D:L2.Ends) (σ:St) (H:Hp):Prop
 | mk (F G:Hp) (ρ:Env) (E:Ends) (rel:Rel X.K ρ σ F G H) (hw:w E ρ) (n:∀ ρ' σ' F' H',E.nx ρ'->KP ks σ σ'->Same F F'->Rel X.K ρ' σ' F' G H'->D.nx σ' H') (b:∀ ρ' σ' F' H',E.bk ρ'->KP ks σ σ'->Same F F'->Rel X.K ρ' σ' F' G H'->D.bk σ' H') (c:∀ ρ' σ' F' H',E.ct ρ'->KP ks σ σ'->Same F F'->Rel X.K ρ' σ' F' G H'->D.ct σ' H') (r:∀ r ρ' σ' v F' H',E.rt r ρ'->KP ks σ σ'->Same F F'->Rel X.K (ρ'++[slotOf r]) (σ'++[some v]) F' G H'->RV σ' v r->D.rt v H') (hx:XC X (KP ks σ) F G E.ex):tWS X ks w D σ H
def FS (X:Cx) (ks:List Nat) (st:Stmt) (w:WS):Prop:=∀ (pn:List (Addr×Obj)) (xe:Value->Shared->Prop),PassesOwn (model X.prog X.w) X.A X.env xe->PS (wp X pn xe) st (tWS (wp X pn xe) ks w)
def FSs (X:Cx) (ks:List Nat) (st:List Stmt) (w:WS):Prop:=∀ (pn:List (Addr×Obj)) (xe:Value->Shared->Prop),PassesOwn (model X.prog X.w) X.A X.env xe->PSs (wp X pn xe) st (tWS (wp X pn xe) ks w)
theorem PS.imp {X:Cx} {e:Stmt} {t t':TS} (h:PS X e t) (k:∀ D σ H,t' D σ H->t D σ H):PS X e t':=fun pins s σ H D I q=>h pins s σ H D I (k D σ H q)
theorem PSs.imp {X:Cx} {e:List Stmt} {t t':TS} (h:PSs X e t) (k:∀ D σ H,t' D σ H->t D σ H):PSs X e t':=fun pins s σ H D I q=>h pins s σ H D I (k D σ H q)
inductive tWG (X:Cx) (ks:List Nat) (g:WG) (v:V) (σ:St) (H:Hp) (Q:St->Hp->Prop):Prop
 | mk (F G:Hp) (ρ:Env) (s:S) (P:Env->Prop) (rel:Rel X.K (ρ++[some s]) (σ++[some v]) F G H) (hw:g s ρ P) (n:∀ ρ' σ' F' H',P ρ'->KP ks σ σ'->Same F F'->Rel X.K ρ' σ' F' G H'->Q σ' H'):tWG X ks g v σ H Q
def FG (X:Cx) (ks:List Nat) (tg:Expr) (g:WG):Prop:=∀ (pn:List (Addr×Obj)) (xe:Value->Shared->Prop),PassesOwn (model X.prog X.w) X.A X.env xe->PG (wp X pn xe) tg (tWG (wp X pn xe) ks g)
theorem PG.imp {X:Cx} {e:Expr} {t t':TG} (h:PG X e t) (k:∀ v σ H Q,t' v σ H Q->t v σ H Q):PG X e t':=fun pins s σ H v u Q I r q=>h pins s σ H v u Q I r (k v σ H Q q)
section
variable {X:Cx} {ks:List Nat} {st:Stmt} {rest:List Stmt} {w1 w2:WS} {e:Expr} {we:WE} {pos:Pos}
theorem zan:FSs X ks [] wPass:=fun pn xe hp=>PSs.imp zk0 fun D σ H q=>by
 obtain ⟨F,G,ρ,E,rel,hw,n,b,c,r,x⟩:=q
 exact n ρ σ F H hw KP.refl (Same.refl F) rel
theorem zac (h1:FS X ks st w1) (h2:FSs X ks rest w2):FSs X ks (st::rest) (wSeq w1 w2):=fun pn xe hp=>PSs.imp (zjI (h1 pn xe hp) (h2 pn xe hp)) fun D σ H q=>by
 obtain ⟨F,G,ρ,E,rel,hw,n,b,c,r,x⟩:=q
 refine ⟨F,G,ρ,{ E with nx:=w2 E },rel,hw,fun ρ1 σ1 F1 H1 hp k s1 r1=>?_,b,c,r,x⟩
 exact ⟨F1,G,ρ1,E,r1,hp,fun ρ' σ' F' H' h k' s r=>n ρ' σ' F' H' h (k.trans k') (s1.trans s) r,fun ρ' σ' F' H' h k' s r=>b ρ' σ' F' H' h (k.trans k') (s1.trans s) r,
  fun ρ' σ' F' H' h k' s r=>c ρ' σ' F' H' h (k.trans k') (s1.trans s) r,fun a ρ' σ' v F' H' h k' s q rv=>r a ρ' σ' v F' H' h (k.trans k') (s1.trans s) q rv,x.mono (fun σ2 k'=>k.trans k') s1 (Same.refl G)⟩
theorem zae (h1:FS X ks st w1):FSs X ks [st] w1:=fun pn xe hp=>zkO (h1 pn xe hp)
theorem zbi (h:FE X e we) (hs:swapsWith e none pos.line X.env=pure false:=by rfl):FS X ks (.Expr e pos) (wExpr we):=fun pn xe hp=>PS.imp (zkU (h pn xe hp) hs) fun D σ H q=>by
 obtain ⟨F,G,ρ,E,rel,hw,n,b,c,r,x⟩:=q
 exact ⟨F,G,ρ,_,_,rel,hw,fun a ρ1 v F1 H1 hp s1 r1 rv=>n ρ1 σ F1 H1 hp KP.refl s1 (r1.drop (len1 r1)),x.mono (fun σ2 z=>by rw [z]; exact KP.refl) (Same.refl F) (Same.refl G)⟩
theorem zar (h:FE X e we):FS X ks (.Return (some e) pos) (wRet we):=fun pn xe hp=>PS.imp (zmP (h pn xe hp)) fun D σ H q=>by
 obtain ⟨F,G,ρ,E,rel,hw,n,b,c,r,x⟩:=q
 exact ⟨F,G,ρ,_,_,rel,hw,fun a ρ1 v F1 H1 hp s1 r1 rv=>r a ρ1 σ v F1 H1 hp KP.refl s1 r1 rv,x.mono (fun σ2 z=>by rw [z]; exact KP.refl) (Same.refl F) (Same.refl G)⟩
theorem zaD {c:Expr} {a b:List Stmt} {tc:WT} (hc:FT X c tc) (ha:FSs X ks a w1) (hb:FSs X ks b w2):FS X ks (.If c a b pos) (wIf tc w1 w2):=fun pn xe hp=>PS.imp (zqm (hc pn xe hp) (ha pn xe hp) (hb pn xe hp)) fun D σ H q=>by
 obtain ⟨F,G,ρ,E,rel,hw,n,b,c,r,x⟩:=q
 refine ⟨F,G,ρ,_,_,rel,hw,fun k ρ1 F1 H1 hp s1 r1=>?_,x.mono (fun σ2 z=>by rw [z]; exact KP.refl) (Same.refl F) (Same.refl G)⟩
 have go:∀ w:WS,w E ρ1->tWS (wp X pn xe) ks w D σ H1:=fun w hw=>⟨F1,G,ρ1,E,r1,hw,fun ρ' σ' F' H' h k' s r=>n ρ' σ' F' H' h k' (s1.trans s) r,fun ρ' σ' F' H' h k' s r=>b ρ' σ' F' H' h k' (s1.trans s) r,
  fun ρ' σ' F' H' h k' s r=>c ρ' σ' F' H' h k' (s1.trans s) r,fun a ρ' σ' v F' H' h k' s q rv=>r a ρ' σ' v F' H' h k' (s1.trans s) q rv,x.grow s1⟩
 cases k with
 | true=>exact go _ hp
 | false=>exact go _ hp
theorem zag {tg:Expr} {g:WG} (he:FE X e we) (hg:FG X ks tg g) (hs:swapsWithSole [tg] e pos.line X.env=pure false:=by rfl) (hw:swappedStores [tg] e X.env=pure none:=by rfl)
  (h1:(assignEach [tg] X.env).map (·.2)=[assign tg X.env]:=by rfl):FS X ks (.Assign [tg] e pos) (wAsg g we):=fun pn xe hp=>PS.imp (zkj (he pn xe hp) (hg pn xe hp) hs hw h1) fun D σ H q=>by
 obtain ⟨F,G,ρ,E,rel,hw,n,b,c,r,x⟩:=q
 refine ⟨F,G,ρ,_,_,rel,hw,fun a ρ1 v F1 H1 hp s1 r1 rv=>?_,x.mono (fun σ2 z=>by rw [z]; exact KP.refl) (Same.refl F) (Same.refl G)⟩
 obtain ⟨⟨s,ρ2⟩,eg,hk⟩:=zaf hp
 obtain ⟨F2,s2,l2,r2⟩:=giveR (ρ':=[]) (σ':=[]) r1 (len1 r1) rv eg
 exact ⟨F2,G,ρ2,s,_,r2,hk,fun ρ' σ' F' H' h k' s r=>n ρ' σ' F' H' h k' (s1.trans (s2.trans s)) r⟩
end
theorem zeo {X:Cx} {pins:List (Addr×Obj)} {σ:St} {H:Hp} {s:Shared} {M:Model} {A:Around} {E:Value->Shared->Prop} {i:Nat} {x:Str} {v:V} {u:Value} {Q:Unit->Shared->Prop} (I:Inv X pins σ H s) (hN:∀ j,X.N[j]?=some x->j=i) (hi:X.N[i]?=some x) (hx:Loc X.env.scope x) (r:RelV v u)
  (h:∀ s',Inv X pins (σ.set i (some v)) H s'->(∃ a,Heap.SameBut a s.heap s'.heap/\(a=X.env.locals\/X.env.cells.lookup x=some a))->Q () s') (hf:X.fn x=true\/X.env.scope.names.lookup x=some .local):wpAny M A (storeName X.env x u) Q E s:=by
 obtain ⟨m,hn,hl⟩:=id I.loc
 have hcls:(X.env.scope.kind == .class || (X.env.scope.kind == .module && X.env.locals !=X.env.globals))=false:=by rw [I.ok.kind]; rfl
 have hiσ:i < σ.length:=by rw [I.len]; exact (qi.mp hi).1
 have cne:=I.cne
 have tracked:∀ {a:Addr} {h':Heap},(∃ o,s.heap.get? a=some o/\H a=none)->Heap.SameBut a s.heap h'->HOk X.prog X.w H h':=fun {a h'} ha hs b ob e=>by
  obtain ⟨_,_,hfree⟩:=ha
  refine (I.hok b ob e).stay (fun c w' hc q=>(hs.2 c ?_).trans q) (fun _ q=>q) fun _ _ q=>q
  rintro rfl
  rcases hc with rfl | hc
  ·rw [hfree] at e; cases e
  ·rw [hfree] at hc; cases hc
 rcases hx with hk | hk
 ·refine wpAny_storeName_local hk hn (fun h' hn' hs=>?_) hcls
  obtain ⟨oL,_,_,hoL,_⟩:=id hn
  refine h _ ⟨I.ok,I.os,I.bare,⟨fun b o e n hb hx=>?_,fun b o e n hb hx=>?_,I.base.free,fun b o e hx=>?_,I.base.tups,I.base.frzs,I.base.tbls⟩,⟨_,hn',fun j y v' e1 e2 e3=>?_⟩,fun y c e=>?_,I.free,I.freeC,fun p hp=>?_,tracked ⟨oL,hoL,I.free⟩ hs,by simpa using I.len⟩ ⟨_,hs,.inl rfl⟩
  ·exact (hs.2 b (ne_of_lt (lt_of_lt_of_le (qg e) I.ok.above))).trans (I.base.keep b o e n hb hx)
  ·obtain ⟨sl,e1⟩:=I.base.slot b o e n hb hx
   exact ⟨sl,(hs.2 b (ne_of_lt (lt_of_lt_of_le (qg e) I.ok.above))).trans e1⟩
  ·obtain ⟨o',e1⟩:=I.base.there b o e hx
   exact ⟨o',(hs.2 b (ne_of_lt (lt_of_lt_of_le (qg e) I.ok.above))).trans e1⟩
  ·by_cases hj:j=i
   ·subst hj
    rw [hi] at e1; cases e1
    rw [getElem?_set_self hiσ] at e2
    cases e2
    exact ⟨u,r,.inl ⟨hk,by simp⟩⟩
   ·rw [getElem?_set_ne (Ne.symm hj)] at e2
    obtain ⟨u',r',q⟩:=hl j y v' e1 e2 e3
    refine ⟨u',r',?_⟩
    rcases q with ⟨k,e⟩ | ⟨k,c,e,z⟩
    ·refine .inl ⟨k,?_⟩
     have:y≠x:=fun e=>hj (hN j (e ▸ e1))
     simp [this,e]
    ·exact .inr ⟨k,c,e,z.sameBut hs (cne y c e)⟩
  ·obtain ⟨w',z⟩:=I.cell y c e
   exact ⟨w',z.sameBut hs (cne y c e)⟩
  ·obtain ⟨e,n,ne,nf,d⟩:=I.pin p hp
   exact ⟨(hs.2 p.1 ne).trans e,n,ne,nf,d⟩
 ·have hfn:X.fn x=true:=by
   rcases hf with z | z
   ·exact z
   ·rw [z] at hk; cases hk
  obtain ⟨c,hc⟩:=I.ok.has x (.inl hk)
  obtain ⟨w',z⟩:=I.cell x c hc
  refine wpAny_storeName_cell I.ok.kind hk hc z (fun h' hc' hs=>?_)
  obtain ⟨oc,hoc,hocd⟩:=id z
  refine h { s with heap:=h' } ⟨I.ok,I.os,I.bare,⟨fun b o e n hb hx=>?_,fun b o e n hb hx=>?_,I.base.free,fun b o e hx=>?_,I.base.tups,I.base.frzs,I.base.tbls⟩,⟨m,hn.sameBut hs (Ne.symm (cne x c hc)),fun j y v' e1 e2 e3=>?_⟩,fun y c' e=>?_,I.free,I.freeC,fun p hp=>?_,tracked ⟨oc,hoc,I.freeC x c hc⟩ hs,by simpa using I.len⟩ ⟨c,hs,.inr hc⟩
  ·exact (hs.2 b (ne_of_lt (lt_of_lt_of_le (qg e) (I.ok.cab x c hfn hc)))).trans (I.base.keep b o e n hb hx)
  ·obtain ⟨sl,e1⟩:=I.base.slot b o e n hb hx
   exact ⟨sl,(hs.2 b (ne_of_lt (lt_of_lt_of_le (qg e) (I.ok.cab x c hfn hc)))).trans e1⟩
  ·obtain ⟨o',e1⟩:=I.base.there b o e hx
   exact ⟨o',(hs.2 b (ne_of_lt (lt_of_lt_of_le (qg e) (I.ok.cab x c hfn hc)))).trans e1⟩
  ·by_cases hj:j=i
   ·subst hj
    rw [hi] at e1; cases e1
    rw [getElem?_set_self hiσ] at e2
    cases e2
    exact ⟨u,r,.inr ⟨.inl hk,c,hc,hc'⟩⟩
   ·rw [getElem?_set_ne (Ne.symm hj)] at e2
    obtain ⟨u',r',q⟩:=hl j y v' e1 e2 e3
    refine ⟨u',r',?_⟩
    rcases q with q | ⟨k,c',e,z'⟩
    ·exact .inl q
    ·refine .inr ⟨k,c',e,z'.sameBut hs ?_⟩
     rintro rfl
     exact hj (hN j (I.ok.inj _ _ _ e hc ▸ e1))
  ·by_cases hcc:c'=c
   ·subst hcc; exact ⟨_,hc'⟩
   ·obtain ⟨w2,z2⟩:=I.cell y c' e
    exact ⟨w2,z2.sameBut hs hcc⟩
  ·obtain ⟨e,n,ne,nf,d⟩:=I.pin p hp
   refine ⟨(hs.2 p.1 ?_).trans e,n,ne,nf,d⟩
   intro q
   rw [q,hoc] at e
   have q':oc=p.2:=qh e
   exact d w' (by rw [<- q']; exact hocd)
section
variable {X:Cx} {ks:List Nat} {pos:Pos}
theorem KP.set {σ:St} {i:Nat} {u:Option V} (h:i∉ks):KP ks σ (σ.set i u):=fun j hj=>getElem?_set_ne (fun (z:i=j)=>h (z ▸ hj))
theorem zhj {i:Nat} {x:Str} (hk:i∉ks) (hN:∀ j,X.N[j]?=some x->j=i) (hi:X.N[i]?=some x) (hx:Loc X.env.scope x) (hf:X.fn x=true\/X.env.scope.names.lookup x=some .local):FG X ks (.Name x pos) (gName i):=by
 intro pn xe hp pins s σ H v u Q I rv q
 obtain ⟨F,G,ρ,t,P,rel,hw,n⟩:=q
 have hl:=len1 rel
 have hiρ:i < ρ.length:=by rw [hl,I.len]; exact (qi.mp hi).1
 exact wpAny_assign_Name (zeo (X:=wp X pn xe) I hN hi hx rv (fun s' I' _=>⟨_,H,I',n _ _ F H hw (KP.set hk) (Same.refl F) (rel.store hl hiρ)⟩) hf)
inductive tWGs (X:Cx) (ks:List Nat) (gs:List WG) (vs:List V) (σ:St) (H:Hp) (Q:St->Hp->Prop):Prop
 | mk (F G:Hp) (ρ:Env) (ds:List D) (P:Env->Prop) (rel:Rel X.K ρ σ F G H) (rp:Reps X.K F vs ds) (hw:gTups gs ds ρ P) (n:∀ ρ' σ' F' H',P ρ'->KP ks σ σ'->Same F F'->Rel X.K ρ' σ' F' G H'->Q σ' H'):tWGs X ks gs vs σ H Q
def FGs (X:Cx) (ks:List Nat) (tg:List Expr) (g:List WG):Prop:=∀ (pn:List (Addr×Obj)) (xe:Value->Shared->Prop),PassesOwn (model X.prog X.w) X.A X.env xe->PGs (wp X pn xe) tg (tWGs (wp X pn xe) ks g)
theorem zba:FGs X ks [] []:=fun pn xe hp pins s σ H vs us Q I r q=>by
 obtain ⟨F,G,ρ,ds,P,rel,rp,hw,n⟩:=q
 refine zko pins s σ H vs us Q I r ?_
 cases rp with
 | nil=>exact ⟨rfl,n ρ σ F H hw KP.refl (Same.refl F) rel⟩
 | cons a b=>exact hw.elim
theorem zas {e:Expr} {es:List Expr} {g:WG} {gs:List WG} (h1:FG X ks e g) (h2:FGs X ks es gs)
  (hs:(assignEach (e::es) X.env).map (·.2)=assign e X.env::(assignEach es X.env).map (·.2):=by rfl):FGs X ks (e::es) (g::gs):=fun pn xe hp pins s σ H vs us Q I r q=>by
 obtain ⟨F,G,ρ,ds,P,rel,rp,hw,n⟩:=q
 refine zjq (X:=wp X pn xe) (h1 pn xe hp) (h2 pn xe hp) hs pins s σ H vs us Q I r ?_
 cases rp with
 | nil=>exact hw.elim
 | cons a b=>
   refine ⟨_,_,rfl,F,G,ρ,_,_,rel.push a,hw,fun ρ1 σ1 F1 H1 hp k s1 r1=>⟨F1,G,ρ1,_,P,r1,b.mono s1,hp,fun ρ' σ' F' H' h k' s r=>n ρ' σ' F' H' h (k.trans k') (s1.trans s) r⟩⟩
theorem Reps.len {K:W.Frag} {F:Hp} {xs:List V} {ds:List D} (r:Reps K F xs ds):xs.length=ds.length:=Reps.ind (P:=fun xs ds=>xs.length=ds.length) rfl (fun _ _ ih=>congrArg (· + 1) ih) r
theorem zck {es:List Expr} {k:Nat} {gs:List WG} (hc:X.calm=true) (h:FGs X ks es gs) (hn:(assignEach es X.env).length=gs.length:=by rfl) (hst:(assignEach es X.env).findIdx? (·.1)=none:=by rfl):FG X ks (.Tuple es k pos) (gTup gs):=fun pn xe hp=>by
 refine PG.imp (zm8 (X:=wp X pn xe) hc (h pn xe hp) hn hst) fun v σ H Q q=>?_
 obtain ⟨F,G,ρ,s,P,rel,hw,n⟩:=q
 obtain ⟨F1,s1,rp,r1⟩:=Rel.giveD (ρ:=ρ) (vs:=[v]) (ss:=[s]) rel (len1 rel)
 cases rp with
 | cons a b=>
   have hw':(match s.toD with | .tup ds=>ds.length=gs.length/\gTups gs ds ρ P | _=>False):=hw
   generalize s.toD=d at a hw'
   cases a with
   | tup e r=>exact ⟨_,_,rfl,SqT.of (r1.fr _ _ e),by rw [r.len]; exact hw'.1,F1,G,ρ,_,P,r1,r,hw'.2,fun ρ' σ' F' H' h k' s r=>n ρ' σ' F' H' h k' (s1.trans s) r⟩
   | _=>exact hw'.elim
end
def ItOk (K:W.Frag) (J:It) (l:List D) (F0:Hp):Prop:=∀ (i:Nat) (ρ:Env) (σ:St) (F G H:Hp),Same F0 F->Rel K ρ σ F G H->
 (∀ d,l[i]?=some d->J.go i H/\∀ x H',J.yld i H x H'->∃ F',Same F F'/\Rel K ρ σ F' G H'/\Rep K F' x d)/\(l.length<=i->J.stop i H)
inductive tWI (X:Cx) (wi:WI) (σ:St) (H:Hp) (R:It->Hp->Prop):Prop
 | mk (F G:Hp) (ρ:Env) (P:List D->Env->Prop) (PX:WX) (rel:Rel X.K ρ σ F G H) (hw:wi ρ P PX) (hok:∀ l ρ' F' H' J,P l ρ'->Same F F'->Rel X.K ρ' σ F' G H'->ItOk X.K J l F'->R J H') (hx:XC X (·=σ) F G PX):tWI X wi σ H R
def FI (X:Cx) (tg iter:Expr) (wi:WI):Prop:=∀ (pn:List (Addr×Obj)) (xe:Value->Shared->Prop),PassesOwn (model X.prog X.w) X.A X.env xe->PI (wp X pn xe) tg iter (tWI (wp X pn xe) wi)
theorem PI.imp {X:Cx} {tg e:Expr} {t t':TI} (h:PI X tg e t) (k:∀ σ H R,t' σ H R->t σ H R):PI X tg e t':=fun pins s σ H R I q=>h pins s σ H R I (k σ H R q)
theorem Reps.get {K:W.Frag} {F:Hp} {xs:List V} {ds:List D} {i:Nat} {d:D} (r:Reps K F xs ds) (h:ds[i]?=some d):∃ x,xs[i]?=some x/\Rep K F x d:=
 Reps.ind (P:=fun xs ds=>∀ i d,ds[i]?=some d->∃ x,xs[i]?=some x/\Rep K F x d) (fun _ _ e=>by cases e) (fun a _ ih i d e=>by
  cases i with
  | zero=>cases e; exact ⟨_,rfl,a⟩
  | succ i=>exact ih i d e) r i d h
section
variable {X:Cx} {tg e:Expr} {we:WE} {pos:Pos} {K:W.Frag}
theorem zeD {a:Addr} {xs:List V} {l:List D} {F0:Hp} (e:SqL K F0 a xs) (r:Reps K F0 xs l):ItOk K (Itl K a) l F0:=fun i ρ σ F G H sm rel=>by
 have e':SqL K H a xs:=SqL.mono (sm.trans rel.fr) e
 refine ⟨fun d hd=>?_,fun h=>⟨xs,e',by rw [r.len]; exact h⟩⟩
 obtain ⟨x,hx,rx⟩:=r.get hd
 refine ⟨⟨xs,x,e',hx⟩,fun y H' hy=>?_⟩
 obtain ⟨rfl,hy⟩:=hy
 have:x=y:=qh (hx.symm.trans (hy xs e'))
 subst this
 exact ⟨F,Same.refl F,rel,rx.mono sm⟩
theorem zjd {a:Addr} {xs:List V} {l:List D} {F0:Hp} (e:SqT K F0 a xs) (r:Reps K F0 xs l):ItOk K (Itt K a) l F0:=fun i ρ σ F G H sm rel=>by
 have e':SqT K H a xs:=SqT.mono (sm.trans rel.fr) e
 refine ⟨fun d hd=>?_,fun h=>⟨xs,e',by rw [r.len]; exact h⟩⟩
 obtain ⟨x,hx,rx⟩:=r.get hd
 refine ⟨⟨xs,x,e',hx⟩,fun y H' hy=>?_⟩
 obtain ⟨rfl,hy⟩:=hy
 have:x=y:=qh (hx.symm.trans (hy xs e'))
 subst this
 exact ⟨F,Same.refl F,rel,rx.mono sm⟩
theorem zgI {lo:Int} {n i:Nat} {d:D} (h:(fromTo lo n)[i]?=some d):i < n/\d=.int (lo + i):=by
 unfold fromTo at h
 rw [getElem?_map] at h
 by_cases hi:i < n
 ·rw [getElem?_range hi] at h
  exact ⟨hi,(qh h).symm⟩
 ·rw [getElem?_eq_none (by simpa using hi)] at h; cases h
theorem zdi {lo:Int} {n:Nat} {F0:Hp}:ItOk K (Itr lo n) (fromTo lo n) F0:=fun i ρ σ F G H sm rel=>by
 refine ⟨fun d hd=>?_,fun h=>?_⟩
 ·obtain ⟨hi,rfl⟩:=zgI hd
  refine ⟨hi,fun x H' hy=>?_⟩
  obtain ⟨rfl,rfl⟩:=hy
  exact ⟨F,Same.refl F,rel,.int _⟩
 ·have:n<=i:=by simpa [fromTo] using h
  exact this
end
def Its (x:Str):It:=⟨fun i _=>i < x.cps.size,fun i H v H'=>H'=H/\∃ c,x.cps[i]?=some c/\v=.str ⟨#[c]⟩,fun i _=>x.cps.size<=i⟩
theorem ziU {P:Program} {w:World} {K:W.Frag} {tg:Expr} (it:Addr) (x:Str) (t:Tok) (ty:String) (hty:ty="str_ascii_iterator"\/ty="str_iterator"):Turn P w K tg (Its x) [it] it (fun i h=>h.IsStrIter it ty x t i) where
 mem:=by simp
 obj:=fun i h st b hb=>by
  have e:b=it:=by simpa using hb
  subst e
  obtain ⟨o,e,c,d⟩:=st
  exact ⟨o,e,fun v z=>by rw [d] at z; cases z⟩
 keep:=fun i h h' st k=>by
  obtain ⟨o,e,r⟩:=st
  exact ⟨o,k it (by simp) o e,r⟩
 item:=by
  intro X hP hw hK hc i pins s σ H E I hf st hg
  subst hP hw hK
  obtain ⟨f0,f1,f2,f3,f4,f5⟩:=hf it (by simp)
  have W:Walks X.prog X.w X.A it [it] [it] x.cps.size (SignAt x) (fun i h=>h.IsStrIter it ty x t i):=by
   rcases hty with rfl | rfl
   ·exact Walks.strAscii (I.ok.hd hc) it x t
   ·exact Walks.strWide (I.ok.hd hc) it x t
  refine W.item i s _ _ hg st fun v h' tk hv st' kk=>?_
  obtain ⟨c,u,e1,rfl⟩:=hv
  have I1:Inv X pins σ H { s with heap:=h',toks:=tk }:=I.turned (fun b o hb e=>kk b o (by simpa using hb) e) f0 f1 f3 f4 f5
  obtain ⟨o,e,cl,d⟩:=id st'
  exact ⟨_,rfl,zi4 (s:={ s with heap:=h',toks:=tk }) e cl d (by rcases hty with rfl | rfl <;> decide) ⟨.str ⟨#[c]⟩,H,I1,⟨u,rfl⟩,⟨rfl,c,e1,rfl⟩,st',fun b hb=>(hf b hb).1⟩⟩
 done:=by
  intro X hP hw hK hc i pins s σ H E I hf st hg
  subst hP hw hK
  obtain ⟨f0,f1,f2,f3,f4,f5⟩:=hf it (by simp)
  have hn:x.cps[i]?=none:=by
   have:x.cps.size<=i:=hg
   simp [this]
  rcases hty with rfl | rfl
  ·exact wpAny_pyNext_ascii_end (I.ok.hd hc) st hn fun h' eb=>⟨rfl,I.turned (t':=s.toks) (fun b o hb e=>eb b o hb e) f0 f1 f3 f4 f5⟩
  ·exact wpAny_pyNext_wide_end (I.ok.hd hc) st hn fun h' eb=>⟨rfl,I.turned (t':=s.toks) (fun b o hb e=>eb b o hb e) f0 f1 f3 f4 f5⟩
 self:=fun A i s Q E st h=>by
  rcases hty with rfl | rfl
  ·exact wpAny_pyIter_striter_ascii st h
  ·exact wpAny_pyIter_striter_wide st h
def iAny (K:W.Frag) (tl:TE):TI:=fun σ H R=>tl σ H fun v H1=>(∃ a,v=.ref a/\(∃ xs,SqL K H1 a xs)/\R (Itl K a) H1)\/(∃ a,v=.ref a/\(∃ xs,SqT K H1 a xs)/\R (Itt K a) H1)\/∃ x,v=.str x/\R (Its x) H1
theorem zlY {X:Cx} {tg l:Expr} {tl:TE} (hl:PE X l tl):PI X tg l (iAny X.K tl):=by
 intro pins s σ H R I h
 refine thn (hl pins s σ H _ I h) fun v s1 ⟨y,H1,I1,r1,q1⟩=>?_
 rcases q1 with ⟨a,e,⟨xs,hq⟩,q⟩ | ⟨a,e,⟨xs,hq⟩,q⟩ | ⟨x,e,q⟩
 ·subst e
  cases r1
  obtain ⟨its,rv,p,hz⟩:=I1.list hq
  refine wpAny_pyIter_list p.isList ?_
  refine ⟨s1.heap.objs.size,[s1.heap.objs.size],_,_,H1,rfl,I1.kept (t':=s1.toks) fun b o e=>qc _ e,zg3 a _,⟨_,qd _ rfl,rfl,rfl⟩,fun b hb=>?_,q⟩
  have e:b=s1.heap.objs.size:=by simpa using hb
  subst e
  exact I1.fpOk (le_refl _) (I1.hok.fresh (le_refl _))
 ·subst e
  cases r1
  obtain ⟨its,rv,p,hz⟩:=I1.tuple hq
  refine wpAny_pyIter_tuple (show s1.heap.IsTuple a its.toArray from p) ?_
  refine ⟨s1.heap.objs.size,[s1.heap.objs.size],_,_,H1,rfl,I1.kept (t':=s1.toks) fun b o e=>qc _ e,zgr a _,⟨_,qd _ rfl,rfl,rfl⟩,fun b hb=>?_,q⟩
  have e:b=s1.heap.objs.size:=by simpa using hb
  subst e
  exact I1.fpOk (le_refl _) (I1.hok.fresh (le_refl _))
 ·subst e
  obtain ⟨t,rfl⟩:=r1
  have fin:∀ (ty:String) (o:Obj),(ty="str_ascii_iterator"\/ty="str_iterator")->o.cls=.type ty->o.data=.fields #[.str x t,.int 0 0]->o.isFreed=false->PIE X pins σ tg R (.ref s1.heap.objs.size) { s1 with heap:=s1.heap.push o }:=fun ty o hty hc hd hf=>by
   refine ⟨s1.heap.objs.size,[s1.heap.objs.size],_,_,H1,rfl,I1.kept (t':=s1.toks) fun b o e=>qc _ e,ziU _ x t ty hty,⟨_,qd _ hf,hc,hd⟩,fun b hb=>?_,q⟩
   have e:b=s1.heap.objs.size:=by simpa using hb
   subst e
   exact I1.fpOk (le_refl _) (I1.hok.fresh (le_refl _))
  cases ha:x.cps.all (· < 128)
  ·exact wpAny_pyIter_wide ha (fin "str_iterator" _ (.inr rfl) rfl rfl rfl)
  ·exact wpAny_pyIter_ascii ha (fin "str_ascii_iterator" _ (.inl rfl) rfl rfl rfl)
section
variable {X:Cx} {tg e:Expr} {we:WE} {pos:Pos} {K:W.Frag}
theorem zgi {x:Str} {l:List Nat} {F0:Hp} (e:x.cps.toList=l):ItOk K (Its x) (l.map fun c=>.str [c]) F0:=fun i ρ σ F G H sm rel=>by
 have hs:x.cps.size=l.length:=by rw [<- e]; simp
 refine ⟨fun d hd=>?_,fun h=>by show x.cps.size<=i; rw [hs]; simpa using h⟩
 rw [getElem?_map] at hd
 cases q:l[i]? with
 | none=>rw [q] at hd; cases hd
 | some c=>
   rw [q] at hd
   have hd':D.str [c]=d:=qh hd
   have hi:i < l.length:=(qi.mp q).1
   have hx:x.cps[i]?=some c:=by rw [<- getElem?_toList,e]; exact q
   refine ⟨by show i < x.cps.size; rw [hs]; exact hi,fun y H' hy=>?_⟩
   obtain ⟨rfl,c',e1,rfl⟩:=hy
   rw [hx] at e1
   have:c=c':=qh e1
   subst this
   rw [<- hd']
   exact ⟨F,Same.refl F,rel,.str rfl (by show 1<=_; decide)⟩
theorem zbS (h:FE X e we):FI X tg e (wIter we):=fun pn xe hp=>by
 refine PI.imp (zlY (h pn xe hp)) fun σ H R q=>?_
 obtain ⟨F,G,ρ,P,PX,rel,hw,hok,hx⟩:=q
 refine ⟨F,G,ρ,_,PX,rel,hw,fun r ρ1 v F1 H1 hk s1 r1 rv=>?_,hx⟩
 obtain ⟨⟨s,ρ2⟩,eg,hk⟩:=zaf hk
 obtain ⟨l,el,hk⟩:=zaf hk
 obtain ⟨F2,s2,l2,r2⟩:=giveR (ρ':=[]) (σ':=[]) r1 (len1 r1) rv eg
 obtain ⟨F3,s3,rp,r3⟩:=Rel.giveD (ρ:=ρ2) (vs:=[v]) (ss:=[s]) r2 (len1 r2)
 have sm:=s1.trans (s2.trans s3)
 cases rp with
 | cons a b=>
   have el':items s.toD=some l:=el
   generalize s.toD=d at a el'
   cases a with
   | lst e r=>
     have:l=_:=(qh el').symm
     subst this
     exact .inl ⟨_,rfl,⟨_,SqL.mono r3.fr e⟩,hok _ ρ2 F3 H1 _ hk sm r3 (zeD e r)⟩
   | tup e r=>
     have:l=_:=(qh el').symm
     subst this
     exact .inr (.inl ⟨_,rfl,⟨_,SqT.of (r3.fr _ _ e)⟩,hok _ ρ2 F3 H1 _ hk sm r3 (zjd (SqT.of e) r)⟩)
   | str e z=>
     have:l=_:=(qh el').symm
     subst this
     exact .inr (.inr ⟨_,rfl,hok _ ρ2 F3 H1 _ hk sm r3 (zgi e)⟩)
   | _=>cases el'
theorem zaH {a:Expr} {p:Pos} (hg:Gl X "range") (hm:X.mg "range"=none) (ha:FE X a we) (hs:starEach [a] X.env=[(false,eval a X.env)]:=by rfl):FI X tg (.Call (.Name "range" p) [a] [] pos) (wRange1 we):=fun pn xe hp=>by
 refine PI.imp (zhI (X:=wp X pn xe) hg hm (zaa ha zab hs pn xe hp) hs) fun σ H R q=>?_
 obtain ⟨F,G,ρ,P,PX,rel,hw,hok,hx⟩:=q
 refine ⟨F,G,ρ,fun rs ρ1=>match rs with | [r]=>(match view r ρ1 with | some (.int j)=>(-big<=j/\j<=big)/\P (fromTo 0 j.toNat) ρ1 | _=>False) | _=>False,PX,rel,hw,fun rs ρ1 vs F1 H1 hk s1 r1 hl rv=>?_,hx⟩
 match rs,vs,rv,r1,hk with
 | [r],[v],rv,r1,hk=>
   dsimp only at hk
   split at hk
   ·rename_i j ej
    have rp:=look (ρ':=[]) (σ':=[]) r1 hl rv.1 ej
    cases rp
    obtain ⟨⟨h1,h2⟩,hk⟩:=hk
    have eb:(big:Int)=1000000:=rfl
    rw [eb] at h1 h2
    exact ⟨j,rfl,by lia,by lia,hok _ ρ1 F1 H1 _ hk s1 ((show Rel X.K (ρ1++[slotOf r]) (σ++[some (.int j)]) F1 G H1 from r1).drop hl) zdi⟩
   ·exact hk.elim
 | [],_,_,_,hk=>exact hk.elim
 | [_],[],rv,_,_=>exact rv.elim
 | [_],_::_::_,rv,_,_=>exact rv.2.elim
 | _::_::_,_,_,_,hk=>exact hk.elim
theorem zcJ {a b:Expr} {wb:WE} {p:Pos} (hg:Gl X "range") (hm:X.mg "range"=none) (ha:FE X a we) (hb:FE X b wb) (hs:starEach [a,b] X.env=[(false,eval a X.env),(false,eval b X.env)]:=by rfl) (hs2:starEach [b] X.env=[(false,eval b X.env)]:=by rfl):
  FI X tg (.Call (.Name "range" p) [a,b] [] pos) (wRange2 we wb):=fun pn xe hp=>by
 refine PI.imp (zh6 (X:=wp X pn xe) hg hm (zaa ha (zaa hb zab hs2) (by rw [hs,hs2]) pn xe hp) hs hs2) fun σ H R q=>?_
 obtain ⟨F,G,ρ,P,PX,rel,hw,hok,hx⟩:=q
 refine ⟨F,G,ρ,fun rs ρ1=>match rs with | [r,t]=>(match view r ρ1,view t ρ1 with | some (.int i),some (.int j)=>(-big<=i/\i<=big/\-big<=j/\j<=big)/\P (fromTo i (j - i).toNat) ρ1 | _,_=>False) | _=>False,PX,rel,hw,fun rs ρ1 vs F1 H1 hk s1 r1 hl rv=>?_,hx⟩
 match rs,vs,rv,r1,hk with
 | [r,t],[v,u],rv,r1,hk=>
   dsimp only at hk
   split at hk
   ·rename_i i j ei ej
    obtain ⟨rp,rq,r2⟩:=look2 r1 hl rv.1 rv.2.1 ei ej
    cases rp
    cases rq
    obtain ⟨⟨h1,h2,h3,h4⟩,hk⟩:=hk
    have eb:(big:Int)=1000000:=rfl
    rw [eb] at h1 h2 h3 h4
    exact ⟨i,j,rfl,⟨by lia,by lia,by lia,by lia⟩,hok _ ρ1 F1 H1 _ hk s1 r2 zdi⟩
   ·exact hk.elim
 | [],_,_,_,hk=>exact hk.elim
 | [_],_,_,_,hk=>exact hk.elim
 | [_,_],[],rv,_,_=>exact rv.elim
 | [_,_],[_],rv,_,_=>exact rv.2.elim
 | [_,_],_::_::_::_,rv,_,_=>exact rv.2.2.elim
 | _::_::_::_,_,_,_,hk=>exact hk.elim
end
section
variable {X:Cx} {ks:List Nat} {tg iter:Expr} {body:List Stmt} {wi:WI} {g:WG} {wb:WS} {pos:Pos}
theorem za9 (hc:X.calm=true) (hi:FI X tg iter wi) (hg:FG X ks tg g) (hb:FSs X ks body wb) (hs:∀ x,foldedSetIterable iter X.env x=pure x:=by intro _; rfl):FS X ks (.For tg iter body [] pos) (wFor wi g wb):=fun pn xe hp=>by
 refine PS.imp (zmb (X:=wp X pn xe) hp hc (hi pn xe hp) (hg pn xe hp) (hb pn xe hp) hs) fun D σ H q=>?_
 obtain ⟨F,G,ρ,E,rel,hw,n,b,c,r,x⟩:=q
 refine ⟨F,G,ρ,_,_,rel,hw,fun l ρ1 F1 H1 J hk s1 r1 it=>?_,x.mono (fun σ2 z=>by rw [z]; exact KP.refl) (Same.refl F) (Same.refl G)⟩
 refine ⟨fun i m σ2 H2=>m=l.length - i/\i<=l.length/\∃ F2 ρ2,KP ks σ σ2/\Same F1 F2/\Rel X.K ρ2 σ2 F2 G H2/\wLoop g wb (l.drop i) E ρ2,⟨l.length,by simp,zero_le _,F1,ρ1,KP.refl,Same.refl F1,r1,by simpa using hk⟩,?_⟩
 rintro i m σ2 H2 ⟨rfl,hi,F2,ρ2,kp,s2,r2,hw2⟩
 obtain ⟨it1,it2⟩:=it i ρ2 σ2 F2 G H2 s2 r2
 by_cases hlt:i < l.length
 ·obtain ⟨go,yld⟩:=it1 l[i] (by simp [hlt])
  refine .inr ⟨go,fun σ3 H3=>i + 1<=l.length/\∃ F3 ρ3,KP ks σ σ3/\Same F1 F3/\Rel X.K ρ3 σ3 F3 G H3/\wLoop g wb (l.drop (i + 1)) E ρ3,fun σ3 H3 h=>⟨l.length - (i + 1),by lia,rfl,h⟩,fun y H3 hy=>?_⟩
  obtain ⟨F3,s3,r3,rp⟩:=yld y H3 hy
  rw [drop_eq_getElem_cons hlt] at hw2
  refine ⟨F3,G,ρ2,_,_,r3.push rp,hw2,fun ρ4 σ4 F4 H4 hp4 k4 s4 r4=>?_⟩
  have kp4:=kp.trans k4
  have sm4:=s1.trans (s2.trans (s3.trans s4))
  exact ⟨F4,G,ρ4,_,r4,hp4,fun ρ' σ' F' H' h k' s r=>⟨hlt,F',ρ',kp4.trans k',s2.trans (s3.trans (s4.trans s)),r,h⟩,fun ρ' σ' F' H' h k' s r=>n ρ' σ' F' H' h (kp4.trans k') (sm4.trans s) r,
   fun ρ' σ' F' H' h k' s r=>⟨hlt,F',ρ',kp4.trans k',s2.trans (s3.trans (s4.trans s)),r,h⟩,fun a ρ' σ' v F' H' h k' s q rv=>r a ρ' σ' v F' H' h (kp4.trans k') (sm4.trans s) q rv,x.mono (fun σ5 k'=>kp4.trans k') sm4 (Same.refl G)⟩
 ·have e:i=l.length:=Nat.le_antisymm hi (not_lt.mp hlt)
  subst e
  rw [List.drop_length] at hw2
  exact .inl ⟨it2 (le_refl _),n ρ2 σ2 F2 H2 hw2 kp (s1.trans s2) r2⟩
theorem zdC {c:Expr} {wc:WT} (hc:FT X c wc) (hb:FSs X ks body wb):FS X ks (.While c body [] pos) (wWhile wc wb):=fun pn xe hp=>by
 refine PS.imp (ziQ (X:=wp X pn xe) hp (hc pn xe hp) (hb pn xe hp)) fun D σ H q=>?_
 obtain ⟨F,G,ρ,E,rel,⟨J,⟨m0,j0⟩,step⟩,n,b,c,r,x⟩:=q
 refine ⟨fun m σ2 H2=>∃ F2 ρ2,KP ks σ σ2/\Same F F2/\Rel X.K ρ2 σ2 F2 G H2/\J m ρ2,⟨m0,F,ρ,KP.refl,Same.refl F,rel,j0⟩,?_⟩
 rintro m σ2 H2 ⟨F2,ρ2,kp,s2,r2,j2⟩
 refine ⟨F2,G,ρ2,_,_,r2,step m ρ2 j2,fun k ρ3 F3 H3 hk s3 r3=>?_,x.mono (fun σ5 z=>by rw [z]; exact kp) s2 (Same.refl G)⟩
 have sm3:=s2.trans s3
 cases k with
 | true=>
   dsimp only
   rw [if_pos rfl]
   refine ⟨fun σ4 H4=>∃ m',m' < m/\∃ F2 ρ2,KP ks σ σ4/\Same F F2/\Rel X.K ρ2 σ4 F2 G H4/\J m' ρ2,fun σ4 H4 h=>h,?_⟩
   exact ⟨F3,G,ρ3,_,r3,hk,fun ρ' σ' F' H' ⟨m',hm,h⟩ k' s r=>⟨m',hm,F',ρ',kp.trans k',sm3.trans s,r,h⟩,fun ρ' σ' F' H' h k' s r=>n ρ' σ' F' H' h (kp.trans k') (sm3.trans s) r,
    fun ρ' σ' F' H' ⟨m',hm,h⟩ k' s r=>⟨m',hm,F',ρ',kp.trans k',sm3.trans s,r,h⟩,fun a ρ' σ' v F' H' h k' s q rv=>r a ρ' σ' v F' H' h (kp.trans k') (sm3.trans s) q rv,x.mono (fun σ5 k'=>kp.trans k') sm3 (Same.refl G)⟩
 | false=>
   dsimp only
   rw [if_neg Bool.false_ne_true]
   exact n ρ3 σ2 F3 H3 hk kp sm3 r3
end
inductive spW (K:W.Frag) (f:WF) (n:Nat) (vs:List V) (H:Hp) (Q:VK) (Z:XK):Prop
 | mk (F G:Hp) (ss:List S) (P:S->List S->Prop) (PX:D->List S->Prop) (hn:vs.length=n) (rel:Rel K (ss.map some) (vs.map some) F G H) (hw:f ss P PX) (hok:∀ s ss' v F' H',P s ss'->Same F F'->ss'.length=ss.length->Rel K (ss'.map some++[some s]) (vs.map some++[some v]) F' G H'->Q v H'):spW K f n vs H Q Z
section
variable {K:W.Frag} {F F' H H' G G':Hp} {σ σ':St} {v u:V}
theorem Rel.comm {ρ ρ':Env} (h:ρ.length=σ.length) (r:Rel K (ρ++ρ') (σ++σ') F G H):Rel K (ρ'++ρ) (σ'++σ) F G H:=by
 have:=Rel.swap (ρ:=[]) (σ:=[]) (ρ1:=ρ) (σ1:=σ) (ρ2:=ρ') (σ2:=σ') rfl h (by simpa using r)
 simpa using this
theorem Rel.lend {ρ ρ':Env} {i:Nat} {s:S} (r:Rel K (ρ++(none::ρ')) (σ++(some v::σ')) F G H) (h:ρ.length=σ.length) (hs:slot ρ i=some s) (hv:σ[i]?=some (some v)):
  Rel K (ρ.set i none++(some s::ρ')) (σ++(some v::σ')) F G H:=by
 obtain ⟨fp,e,nd,ap⟩:=r.en
 obtain ⟨f1,f2,rfl,a,b⟩:=e.cut h
 obtain ⟨v',fa,fi,fb,e1,rfl,q,up⟩:=a.at hs
 rw [hv] at e1
 have e2:v=v':=by simpa using e1
 subst e2
 have a2:=up (F':=F) (H':=H) (o:=none) (u:=some v) (fi':=[]) (Same.refl F) (fun _ _=>rfl) (.no .nil)
 have es:σ.set i (some v)=σ:=by
  apply ext_getElem?
  intro j
  by_cases hj:i=j
  ·subst hj
   rw [getElem?_set_self (qi.mp hv).1,hv]
  ·rw [getElem?_set_ne hj]
 rw [es] at a2
 cases b with
 | no b=>
   have p:((fa++([]++fb))++(fi++f2)).Perm ((fa++(fi++fb))++f2):=by
    simp only [nil_append,append_assoc]
    refine List.Perm.append_left _ ?_
    rw [<- append_assoc,<- append_assoc fi]
    exact List.Perm.append_right _ perm_append_comm
   exact ⟨r.fr,r.gr,_,a2.app (.so q b),p.nodup_iff.mpr nd,fun x hx=>ap x (p.mem_iff.mp hx)⟩
theorem Rel.back1 {ρ ρ':Env} {i:Nat} {s:S} (r:Rel K (ρ++(some s::ρ')) (σ++(some v::σ')) F G H) (h:ρ.length=σ.length) (hv:σ[i]?=some (some v)):Rel K (ρ.set i (some s)++ρ') (σ++σ') F G H:=by
 have hi:i < σ.length:=(qi.mp hv).1
 have es:σ.set i (some v)=σ:=by
  apply ext_getElem?
  intro j
  by_cases hj:i=j
  ·subst hj
   rw [getElem?_set_self hi,hv]
  ·rw [getElem?_set_ne hj]
 have hl:ρ'.length=σ'.length:=by
  have:=r.len
  rw [length_append,length_append,length_cons,length_cons,h] at this
  lia
 have r1:=Rel.swap (ρ1:=[some s]) (σ1:=[some v]) (ρ2:=ρ') (σ2:=σ') h rfl r
 rw [<- append_assoc,<- append_assoc] at r1
 have r2:=Rel.store (i:=i) r1 (by simp [h,hl]) (by simp [h]; lia)
 rw [List.set_append_left _ _ (h ▸ hi),List.set_append_left _ _ hi,es] at r2
 exact r2
theorem zim:∀ {rs:List R} {vs:List V} {ms:List Bool} {ρ ρ' ρ1:Env} {ss:List S} {F:Hp} {σ':St},Rel K (ρ++(rs.map slotOf++ρ')) (σ++(vs.map some++σ')) F G H->ρ.length=σ.length->RVs σ vs rs->prep ms rs ρ=some (ss,ρ1)->
  ∃ F',Same F F'/\ρ1.length=ρ.length/\ss.length=rs.length/\Rel K (ρ1++(ss.map some++ρ')) (σ++(vs.map some++σ')) F' G H
 | [],[],ms,ρ,ρ',ρ1,ss,F,σ',r,h,_,e=>by
   have e':some (([]:List S),ρ)=some (ss,ρ1):=by cases ms <;> exact e
   cases e'
   exact ⟨F,Same.refl F,rfl,rfl,r⟩
 | [],_::_,_,_,_,_,_,_,_,_,_,h,_=>h.elim
 | _::_,[],_,_,_,_,_,_,_,_,_,h,_=>h.elim
 | x::rs,v::vs,ms,ρ,ρ',ρ1,ss,F,σ',r,h,rv,e=>by
   -- the first one,as it is handed on
   have first:∃ s ρ2 ts F1,prep ms.tail rs ρ2=some (ts,ρ1)/\ss=s::ts/\Same F F1/\ρ2.length=ρ.length/\Rel K (ρ2++(some s::(rs.map slotOf++ρ'))) (σ++(some v::(vs.map some++σ'))) F1 G H:=by
    cases x with
    | v s=>
      have e':(match prep ms.tail rs ρ with | some (ss,ρ1)=>some (s::ss,ρ1) | none=>none)=some (ss,ρ1):=by cases ms <;> exact e
      cases q:prep ms.tail rs ρ with
      | none=>rw [q] at e'; cases e'
      | some p=>
        obtain ⟨ts,ρ3⟩:=p
        rw [q] at e'
        cases e'
        exact ⟨s,ρ,ts,F,q,rfl,Same.refl F,rfl,r⟩
    | loc i=>
      have e':(match slot ρ i with
       | some s=>if ms.headD false then (match prep ms.tail rs (ρ.set i none) with
         | some (ss,ρ1)=>some (s::ss,ρ1)
         | none=>none)
         else (match prep ms.tail rs (ρ.set i (some (.sh s.toD))) with
          | some (ss,ρ1)=>some (.sh s.toD::ss,ρ1)
          | none=>none)
       | none=>none)=some (ss,ρ1):=by cases ms <;> exact e
      cases q:slot ρ i with
      | none=>rw [q] at e'; cases e'
      | some s=>
        rw [q] at e'
        dsimp only at e'
        by_cases hm:ms.headD false=true
        ·rw [if_pos hm] at e'
         cases q2:prep ms.tail rs (ρ.set i none) with
         | none=>rw [q2] at e'; cases e'
         | some p=>
           obtain ⟨ts,ρ3⟩:=p
           rw [q2] at e'
           cases e'
           exact ⟨s,ρ.set i none,ts,F,q2,rfl,Same.refl F,by simp,Rel.lend r h q rv.1⟩
        ·rw [if_neg hm] at e'
         cases q2:prep ms.tail rs (ρ.set i (some (.sh s.toD))) with
         | none=>rw [q2] at e'; cases e'
         | some p=>
           obtain ⟨ts,ρ3⟩:=p
           rw [q2] at e'
           cases e'
           obtain ⟨F1,s1,l1,r1⟩:=giveR (x:=.loc i) (s:=.sh s.toD) (ρ1:=ρ.set i (some (.sh s.toD))) r h rv.1 (by show (match slot ρ i with | some s=>some (S.sh s.toD,ρ.set i (some (.sh s.toD))) | none=>none)=_; rw [q])
           exact ⟨_,_,ts,F1,q2,rfl,s1,by simp,r1⟩
   obtain ⟨s,ρ2,ts,F1,q2,rfl,s1,l1,r1⟩:=first
   have h2:ρ2.length=σ.length:=l1.trans h
   have hl:(rs.map slotOf++ρ').length=(vs.map some++σ').length:=by
    have:=r1.len
    rw [length_append,length_append,h2,length_cons,length_cons] at this
    lia
   have hl':ρ'.length=σ'.length:=by
    have:=rv.2.len
    simp at hl
    lia
   have r2:=Rel.swap (ρ1:=[some s]) (σ1:=[some v]) (ρ2:=rs.map slotOf++ρ') (σ2:=vs.map some++σ') h2 rfl r1
   rw [append_assoc,append_assoc] at r2
   obtain ⟨F2,s2,l2,l3,r3⟩:=zim (rs:=rs) (vs:=vs) r2 h2 rv.2 q2
   have h3:ρ1.length=σ.length:=l2.trans h2
   rw [<- append_assoc (ts.map some),<- append_assoc (vs.map some)] at r3
   have r4:=Rel.swap (ρ1:=ts.map some++ρ') (σ1:=vs.map some++σ') (ρ2:=[some s]) (σ2:=[some v]) h3 (by simp [l3,rv.2.len,hl']) r3
   exact ⟨F2,s1.trans s2,l2.trans l1,by simp [l3],r4⟩
theorem zdU:∀ {rs:List R} {vs:List V} {ms:List Bool} {ρ ρ':Env} {ss:List S} {σ':St},Rel K (ρ++(ss.map some++ρ')) (σ++(vs.map some++σ')) F G H->ρ.length=σ.length->ss.length=rs.length->RVs σ vs rs->
  (back ms rs ss ρ).length=ρ.length/\Rel K (back ms rs ss ρ++ρ') (σ++σ') F G H
 | [],[],ms,ρ,ρ',[],σ',r,h,_,_=>by
   have e:back ms [] [] ρ=ρ:=by cases ms <;> rfl
   rw [e]
   exact ⟨rfl,r⟩
 | [],_,_,_,_,_::_,_,_,_,hl,_=>by simp at hl
 | _::_,_,_,_,_,[],_,_,_,hl,_=>by simp at hl
 | [],_::_,_,_,_,_,_,_,_,_,h=>h.elim
 | _::_,[],_,_,_,_,_,_,_,_,h=>h.elim
 | x::rs,v::vs,ms,ρ,ρ',s::ss,σ',r,h,hl,rv=>by
   cases x with
   | v t=>
     have e:back ms (.v t::rs) (s::ss) ρ=back ms.tail rs ss ρ:=by cases ms <;> rfl
     rw [e]
     exact zdU (rs:=rs) (vs:=vs) (r.mid h) h (by simpa using hl) rv.2
   | loc i=>
     have e:back ms (.loc i::rs) (s::ss) ρ=if ms.headD false then back ms.tail rs ss (ρ.set i (some s)) else back ms.tail rs ss ρ:=by cases ms <;> rfl
     rw [e]
     by_cases hm:ms.headD false=true
     ·rw [if_pos hm]
      have q:=zdU (rs:=rs) (vs:=vs) (ms:=ms.tail) (ρ:=ρ.set i (some s)) (Rel.back1 r h rv.1) (by simpa using h) (by simpa using hl) rv.2
      exact ⟨q.1.trans (by simp),q.2⟩
     ·rw [if_neg hm]
      exact zdU (rs:=rs) (vs:=vs) (r.mid h) h (by simpa using hl) rv.2
end
section
variable {X:Cx} {k n:Nat} {f:Addr} {fd:FuncData} {ps:List Str} {wf:WF} {ms:List Bool} {x:Str} {p pos:Pos} {e:Expr} {es:List Expr} {wa:WA}
theorem zkY (Fk:FnOk X.prog X.w X.K X.mg X.base CX0 k f fd ps (spW X.K wf n)) (hr:Room k X.A) (hg:Gl X x) (hm:X.mg x=some (.ref f)) (hk:W.keepIn X.K (.ref f)=true) (hb:Binds X.K fd ps [])
  (ha:FA X (e::es) wa) (hlen:∀ ss P PX,wf ss P PX->ss.length=n) (hdb:(x == ("__debug__":Str))=false:=by decide) (he:starEach (e::es) X.env=(false,eval e X.env)::starEach es X.env:=by rfl) (hpl:(backTo pos (starEach es X.env)).any (·.1)=false:=by rfl):
  FE X (.Call (.Name x p) (e::es) [] pos) (wCall wf ms wa):=fun pn xe hp=>by
 refine PE.imp (zlp (X:=wp X pn xe) Fk hr hg hm hk hb .nil pass0 (ha pn xe hp) hdb he hpl) fun σ H Q q=>?_
 refine (many (k:=fun rs ρ1 Q E=>need (prep ms rs ρ1) fun p=>wf p.1 (fun s ss=>Q (.v s) (back ms rs ss p.2)) (fun x ss=>E x (back ms rs ss p.2))) q).mono fun vs H1 h1=>?_
 obtain ⟨F,G,ρ,rs,P,PX,rel,hl,rv,hk,hok,hx⟩:=h1
 obtain ⟨⟨ss,ρ1⟩,ep,hk⟩:=zaf hk
 obtain ⟨F1,s1,l1,l2,r1⟩:=zim (ρ':=[]) (σ':=[]) (by simpa using rel) hl rv ep
 have h1:ρ1.length=σ.length:=l1.trans hl
 have r2:=Rel.comm (ρ':=ss.map some) (σ':=vs.map some) h1 (by simpa using r1)
 have hsv:(ss.map some).length=(vs.map some).length:=by simp [l2,rv.len]
 obtain ⟨G',r3,gg,bk⟩:=r2.hide hsv
 have hn:=hlen _ _ _ hk
 show spW X.K wf n (vs++[]) H1 Q E0
 rw [append_nil]
 refine ⟨F1,G',ss,_,_,by rw [rv.len,<- l2]; exact hn,r3,hk,fun s ss' v F2 H2 hp s2 l3 r4=>?_⟩
 have r5:=bk s2 r4
 have hsv':(ss'.map some++[some s]).length=(vs.map some++[some v]).length:=by simp [l3,l2,rv.len]
 have r6:=Rel.comm hsv' r5
 obtain ⟨l7,r7⟩:=zdU (ms:=ms) (rs:=rs) (vs:=vs) (ρ':=[some s]) (σ':=[some v]) r6 h1 (l3.trans l2) rv
 exact hok _ _ v F2 H2 hp (s1.trans s2) r7 trivial
end
section
variable {K:W.Frag} {F F' H H' G G':Hp}
theorem Rel.pushNs {ρ:Env} {σ:St} (r:Rel K ρ σ F G H):∀ m:Nat,Rel K (ρ++List.replicate m none) (σ++List.replicate m none) F G H
 | 0=>by simpa using r
 | m + 1=>by
   have:=(Rel.pushNs r m).pushN (u:=none)
   rw [append_assoc,append_assoc,<- List.replicate_succ',<- List.replicate_succ'] at this
   exact this
def Args (K:W.Frag) (F:Hp):List S->List V->St->Prop
 | [],[],_=>True
 | s::ss,v::vs,u::σ=>((∃ d,s=.sh d/\Rep K F v d)\/(s.isSh=false/\u=some v))/\Args K F ss vs σ
 | _,_,_=>False
theorem zcy:∀ {ss:List S} {vs:List V} {fs:List S} {ρ ρ' ρa:Env} {σ σ' σa:St},finals ss ρ=some fs->Rel K (ρa++(ρ++ρ')) (σa++(σ++σ')) F G H->ρa.length=σa.length->ρ.length=σ.length->Args K F ss vs σ->
  fs.length=ss.length/\vs.length=ss.length/\Rel K (ρa++(fs.map some++ρ')) (σa++(vs.map some++σ')) F G H
 | [],[],fs,ρ,ρ',ρa,σ,σ',σa,e,r,h,h2,_=>by
   have e':some ([]:List S)=some fs:=by cases ρ <;> exact e
   cases e'
   refine ⟨rfl,rfl,?_⟩
   have r1:=Rel.swap (ρ1:=ρ) (σ1:=σ) (ρ2:=ρ') (σ2:=σ') h h2 r
   rw [<- append_assoc,<- append_assoc] at r1
   have hl:(ρa++ρ').length=(σa++σ').length:=by
    have:=r.len
    simp at this
    simp
    lia
   simpa using r1.drop hl
 | [],_::_,_,_,_,_,_,_,_,_,_,_,_,h=>by cases h
 | _::_,[],_,_,_,_,_,_,_,_,_,_,_,h=>by cases h
 | _::_,_::_,_,_,_,_,[],_,_,_,_,_,_,h=>by cases h
 | _::_,_::_,_,[],_,_,_::_,_,_,_,_,_,h2,_=>by simp at h2
 | s::ss,v::vs,fs,o::ρ,ρ',ρa,u::σ,σ',σa,e,r,h,h2,ha=>by
   have h2':ρ.length=σ.length:=by simpa using h2
   obtain ⟨ha1,ha2⟩:=ha
   rcases ha1 with ⟨d,rfl,rp⟩ | ⟨hs,hu⟩
   ·have e':(finals ss ρ).map (S.sh d::·)=some fs:=e
    cases q:finals ss ρ with
    | none=>rw [q] at e'; cases e'
    | some gs=>
      rw [q] at e'
      have e'':S.sh d::gs=fs:=qh e'
      subst e''
      have r1:Rel K (ρa++(ρ++ρ')) (σa++(σ++σ')) F G H:=Rel.mid (ρ:=ρa) (σ:=σa) r h
      obtain ⟨l1,l2,r2⟩:=zcy q r1 h h2' ha2
      have hl:(gs.map some++ρ').length=(vs.map some++σ').length:=by
       have:=r2.len
       simp at this
       simp
       lia
      have r3:=r2.push rp
      rw [append_assoc ρa,append_assoc σa] at r3
      have r4:=Rel.swap (ρ1:=gs.map some++ρ') (σ1:=vs.map some++σ') (ρ2:=[some (.sh d)]) (σ2:=[some v]) h hl r3
      exact ⟨by simp [l1],by simp [l2],r4⟩
   ·subst hu
    have e':∃ t gs,o=some t/\finals ss ρ=some gs/\fs=t::gs:=by
     cases s with
     | sh d=>cases hs
     | _=>
       cases o with
       | none=>cases e
       | some t=>
         have e':(finals ss ρ).map (t::·)=some fs:=e
         cases q:finals ss ρ with
         | none=>rw [q] at e'; cases e'
         | some gs=>rw [q] at e'; exact ⟨t,gs,rfl,rfl,(qh e').symm⟩
    obtain ⟨t,gs,rfl,q,rfl⟩:=e'
    have r1:Rel K ((ρa++[some t])++(ρ++ρ')) ((σa++[some v])++(σ++σ')) F G H:=by simpa using r
    obtain ⟨l1,l2,r2⟩:=zcy q r1 (by simp [h]) h2' ha2
    exact ⟨by simp [l1],by simp [l2],by simpa using r2⟩
theorem zit {ks:List Nat} {F0:Hp}:∀ {ss:List S} {vs:List V} {σ:St} {j:Nat} {fp:List Addr},EnvRep K F0 H (ss.map some) (vs.map some) fp->Same F0 F->(∀ i s,ss[i]?=some s->(j + i)∈ks\/s.isSh=true)->
  (∀ i v,vs[i]?=some v->(j + i)∈ks->σ[i]?=some (some v))->vs.length<=σ.length->Args K F ss vs σ
 | [],[],_,_,_,_,_,_,_,_=>by simp [Args]
 | [],_::_,_,_,_,r,_,_,_,_=>by cases r
 | _::_,[],_,_,_,r,_,_,_,_=>by cases r
 | _::_,_::_,[],_,_,_,_,_,_,h=>by simp at h
 | s::ss,v::vs,u::σ,j,_,.so a b,sm,hk,hv,hl=>by
   refine ⟨?_,zit (j:=j + 1) b sm (fun i t e=>by have:=hk (i + 1) t (by simpa using e); rwa [show j + (i + 1)=j + 1 + i by lia] at this) (fun i t e z=>by simpa using hv (i + 1) t (by simpa using e) (by rwa [show j + (i + 1)=j + 1 + i by lia])) (by simpa using hl)⟩
   cases hs:s.isSh with
   | true=>
     cases s with
     | sh d=>cases a with
       | sh r=>exact .inl ⟨d,rfl,r.mono sm⟩
     | _=>cases hs
   | false=>
     refine .inr ⟨rfl,?_⟩
     have:=hk 0 s rfl
     rw [hs] at this
     have z:(j + 0)∈ks:=this.resolve_right (by simp)
     simpa using hv 0 v rfl z
theorem fn_w {P:Program} {w:World} {mg:Str->Option Value} {base:Heap} {x qual:Str} {st:Stmt} {f:Addr} {fd:FuncData} {N ps:List Str} {k n m:Nat} {ks:List Nat} {wb:WS} (Fn:Fun K x qual st f fd) (Sc:FnScope N ps (defScope st)) (hn:ps.length=n) (hm:N.length=m)
  (hb:∀ (cdv:Value) (A:Around) (outer:List PySem.Env) (s:Shared) (H:Hp) (E:XK),Room k (A.deeper (envOfC qual (defScope st) s.heap.objs.size f cdv))->FSs (cxOf CX0 P w K mg base N qual (defScope st) f cdv A outer s H E).nox ks (defBody st) wb):
  FnOk P w K mg base CX0 (k + 1) f fd ps (spW K (wFn n m ks wb) n):=by
 refine Fn.ok Sc (fun vs H Q E h=>?_) (fun cdv A outer s H vs Q E hr h=>?_)
 ·obtain ⟨F,G,ss,P',PX,hl,_⟩:=h
  rw [hl,hn]
 ·obtain ⟨F,G,ss,P',PX,hvl,rel,⟨hsl,hks,hbody⟩,hok⟩:=h
  refine ⟨_,hb cdv A outer s H E hr [] (fun _ _=>False) PassesOwn.never,?_⟩
  have hmn:N.length - vs.length=m - n:=by rw [hvl,hm]
  have hr0:Rel K (ss.map some++List.replicate (m - n) none) (L2.start N vs) F G H:=by
   unfold L2.start
   rw [hmn]
   exact rel.pushNs (m - n)
  have hpl:ps.length<=N.length:=by have:=congrArg List.length Sc.pre; rw [length_take] at this; lia
  have hst:∀ i v,vs[i]?=some v->(L2.start N vs)[i]?=some (some v):=fun i v e=>by
   unfold L2.start
   have hi:i < vs.length:=(qi.mp e).1
   rw [getElem?_append_left (by simpa using hi),getElem?_map,e]
   rfl
  -- how the arguments are at an end
  have fin:∀ {ρ':Env} {σ':St} {F' H':Hp} {t:S} {v:V} {fs:List S},KP ks (L2.start N vs) σ'->Same F F'->Rel K (ρ'++[some t]) (σ'++[some v]) F' G H'->finals ss ρ'=some fs->P' t fs->Q v H':=by
   intro ρ' σ' F' H' t v fs kp sm r e hp
   obtain ⟨fp,en,_⟩:=rel.en
   have hlen:ρ'.length=σ'.length:=len1 r
   have hσ:vs.length<=σ'.length:=by
    -- finals reads as many slots as there are arguments
    have:∀ (ss:List S) (ρ:Env) (fs:List S),finals ss ρ=some fs->ss.length<=ρ.length:=by
     intro ss
     induction ss with
     | nil=>intro ρ fs _; simp
     | cons s ss ih=>
       intro ρ fs e
       cases ρ with
       | nil=>cases s <;> cases e
       | cons o ρ=>
         have:∃ gs,finals ss ρ=some gs:=by
          cases q:finals ss ρ with
          | some gs=>exact ⟨gs,rfl⟩
          | none=>
            cases s with
            | sh d=>have e':(finals ss ρ).map (S.sh d::·)=some fs:=e; rw [q] at e'; cases e'
            | _=>
              cases o with
              | none=>cases e
              | some t=>have e':(finals ss ρ).map (t::·)=some fs:=e; rw [q] at e'; cases e'
         obtain ⟨gs,q⟩:=this
         have:=ih ρ gs q
         simp
         exact this
    have:=this ss ρ' fs e
    rw [hsl] at this
    lia
   have ar:=zit (ks:=ks) (F:=F') (σ:=σ') (j:=0) en sm (fun i s e=>by simpa using hks i s e) (fun i v e z=>by
    rw [kp i (by simpa using z)]
    exact hst i v e) hσ
   obtain ⟨l1,l2,r1⟩:=zcy (ρa:=[]) (σa:=[]) (ρ':=[some t]) (σ':=[some v]) e (by simpa using r) rfl hlen ar
   exact hok t fs v F' H' hp sm l1 (by simpa using r1)
  refine ⟨F,G,_,_,hr0,hbody,fun ρ' σ' F' H' h kp sm r=>?_,fun ρ' σ' F' H' h=>h.elim,fun ρ' σ' F' H' h=>h.elim,fun a ρ' σ' v F' H' h kp sm r rv=>?_,fun d ρ' σ' F' H' u s' _ _ _ _ _ z=>z.elim⟩
  ·obtain ⟨fs,e,h⟩:=zaf h
   exact fin kp sm (r.push .non) e h
  ·cases a with
   | v t=>
     obtain ⟨fs,e,h⟩:=zaf h
     exact fin kp sm r e h
   | loc i=>
     obtain ⟨t,et,h⟩:=zaf h
     have hl:=len1 r
     by_cases hi:i < n
     ·rw [if_pos hi] at h
      obtain ⟨fs,e,h⟩:=zaf h
      obtain ⟨F2,s2,_,r2⟩:=giveR (x:=.loc i) (s:=.sh t.toD) (ρ1:=ρ'.set i (some (.sh t.toD))) (ρ':=[]) (σ':=[]) r hl rv (by show (match slot ρ' i with | some s=>some (S.sh s.toD,ρ'.set i (some (.sh s.toD))) | none=>none)=_; rw [et])
      exact fin kp (sm.trans s2) r2 e h
     ·rw [if_neg hi] at h
      obtain ⟨fs,e,h⟩:=zaf h
      have r2:=Rel.lend (ρ':=[]) (σ':=[]) r hl et rv
      refine fin kp sm r2 ?_ h
      -- the slot lies behind the parameters
      have:∀ (ss:List S) (ρ:Env) (i:Nat),ss.length<=i->finals ss (ρ.set i none)=finals ss ρ:=by
       intro ss
       induction ss with
       | nil=>intro ρ i _; cases ρ <;> cases i <;> rfl
       | cons s ss ih=>
         intro ρ i hi
         cases ρ with
         | nil=>rfl
         | cons o ρ=>
           cases i with
           | zero=>simp at hi
           | succ i=>
             have e:=ih ρ i (by simpa using hi)
             show finals (s::ss) (o::ρ.set i none)=finals (s::ss) (o::ρ)
             cases s with
             | sh d=>show (finals ss (ρ.set i none)).map _=(finals ss ρ).map _; rw [e]
             | _=>
               cases o with
               | none=>rfl
               | some t=>show (finals ss (ρ.set i none)).map _=(finals ss ρ).map _; rw [e]
      rw [this ss ρ' i (by lia)]
      exact e
end
end FL
end
section
namespace L2
open PySem PySem.Spec PyProof.Rows
def closL (cells:List (Str×Addr)):List (Str×NameKind)->List (Str×Addr)->List (Str×Addr)
 | [],acc=>acc
 | (n,k)::r,acc=>if k == .free then (match cells.lookup n with | some c=>closL cells r ((n,c)::acc) | none=>closL cells r acc) else closL cells r acc
theorem zb6 {env:PySem.Env} (f:Str×NameKind->List (Str×Addr)->Sem (ForInStep (List (Str×Addr))))
  (hf:∀ n k cs,f (n,k) cs=if k == .free then (do let a <- cellOf env n; pure (.yield ((n,a)::cs))) else pure (.yield cs)):
  ∀ (names:List (Str×NameKind)) (acc:List (Str×Addr)),(∀ x∈names,x.2=.free->∃ c,env.cells.lookup x.1=some c)->(forIn names acc f:Sem _)=pure (closL env.cells names acc)
 | [],acc,_=>by rw [List.forIn_nil]; rfl
 | (n,k)::r,acc,h=>by
   rw [List.forIn_cons,hf]
   have hr:∀ x∈r,x.2=.free->∃ c,env.cells.lookup x.1=some c:=fun x hx=>h x (qo _ hx)
   by_cases hk:(k == .free)=true
   ·obtain ⟨c,hc⟩:=h (n,k) qp (by simpa using hk)
    have hc':env.cells.lookup n=some c:=hc
    have e:cellOf env n=pure c:=by unfold cellOf; rw [hc']
    rw [if_pos hk,e]
    have ih:=zb6 f hf r ((n,c)::acc) hr
    unfold closL
    rw [if_pos hk,hc']
    rw [<- ih]
    simp
   ·rw [if_neg hk]
    have ih:=zb6 f hf r acc hr
    unfold closL
    rw [if_neg hk,<- ih]
    simp
theorem zdP {env:PySem.Env} {scope:Scope} (h:∀ x∈scope.names,x.2=.free->∃ c,env.cells.lookup x.1=some c):closureFor scope env=pure (closL env.cells scope.names []):=by
 show (forIn scope.names ([]:List (Str×Addr)) _ >>= fun cs=>pure cs)=_
 rw [zb6 (env:=env) _ (fun n k cs=>rfl) scope.names [] h]
 rfl
theorem zbG {cells:List (Str×Addr)} {n:Str} {c:Addr}:∀ {names:List (Str×NameKind)} {acc:List (Str×Addr)},(n,c)∈closL cells names acc->(n,c)∈acc\/((n,NameKind.free)∈names/\cells.lookup n=some c)
 | [],_,h=>.inl h
 | (m,k)::r,acc,h=>by
   unfold closL at h
   by_cases hk:(k == .free)=true
   ·rw [if_pos hk] at h
    have hk':k=.free:=by simpa using hk
    cases q:cells.lookup m with
    | none=>
      rw [q] at h
      rcases zbG h with z | ⟨z,w⟩
      ·exact .inl z
      ·exact .inr ⟨qo _ z,w⟩
    | some d=>
      rw [q] at h
      rcases zbG h with z | ⟨z,w⟩
      ·rcases mem_cons.mp z with e | z
       ·cases e
        exact .inr ⟨by rw [<- hk']; exact qp,q⟩
       ·exact .inl z
      ·exact .inr ⟨qo _ z,w⟩
   ·rw [if_neg hk] at h
    rcases zbG h with z | ⟨z,w⟩
    ·exact .inl z
    ·exact .inr ⟨qo _ z,w⟩
theorem zbj {cells:List (Str×Addr)} {n:Str} {c:Addr} (hc:cells.lookup n=some c):∀ {names:List (Str×NameKind)} {acc:List (Str×Addr)},((n,c)∈acc\/(n,NameKind.free)∈names)->(n,c)∈closL cells names acc
 | [],_,h=>h.elim id fun z=>by simp at z
 | (m,k)::r,acc,h=>by
   unfold closL
   by_cases hk:(k == .free)=true
   ·rw [if_pos hk]
    have hk':k=.free:=by simpa using hk
    cases q:cells.lookup m with
    | none=>
      refine zbj hc ?_
      rcases h with z | z
      ·exact .inl z
      ·rcases mem_cons.mp z with e | z
       ·cases e; rw [hc] at q; cases q
       ·exact .inr z
    | some d=>
      refine zbj hc ?_
      rcases h with z | z
      ·exact .inl (qo _ z)
      ·rcases mem_cons.mp z with e | z
       ·cases e; rw [hc] at q; cases q; exact .inl qp
       ·exact .inr z
   ·rw [if_neg hk]
    refine zbj hc ?_
    rcases h with z | z
    ·exact .inl z
    ·rcases mem_cons.mp z with e | z
     ·cases e; exact (hk (by decide)).elim
     ·exact .inr z
theorem zaU {α:Type}:∀ {l:List (Str×α)} {n:Str} {c:α},(n,c)∈l->(∀ c',(n,c')∈l->c'=c)->l.lookup n=some c
 | [],_,_,h,_=>by simp at h
 | (m,d)::r,n,c,h,u=>by
   rw [lookup_cons]
   cases hb:n == m with
   | true=>
     have e:n=m:=by simpa using hb
     subst e
     exact congrArg some (u d qp)
   | false=>
     refine zaU (l:=r) ?_ fun c' hc=>u c' (qo _ hc)
     rcases mem_cons.mp h with e | h
     ·cases e; simp at hb
     ·exact h
theorem za4:∀ {names:List (Str×NameKind)} {n:Nat} {acc:List (Str×Addr)} {x:Str} {c:Addr},(x,c)∈cellsFrom n names acc->(x,c)∈acc\/((x,NameKind.cell)∈names/\n<=c)
 | [],_,_,_,_,h=>.inl h
 | (m,k)::r,n,acc,x,c,h=>by
   unfold cellsFrom at h
   by_cases hk:(k == .cell)=true
   ·rw [if_pos hk] at h
    have hk':k=.cell:=by simpa using hk
    rcases za4 h with z | ⟨z,w⟩
    ·rcases mem_cons.mp z with e | z
     ·cases e; exact .inr ⟨by rw [<- hk']; exact qp,le_refl _⟩
     ·exact .inl z
    ·exact .inr ⟨qo _ z,by lia⟩
   ·rw [if_neg hk] at h
    rcases za4 h with z | ⟨z,w⟩
    ·exact .inl z
    ·exact .inr ⟨qo _ z,w⟩
theorem zaF:∀ {names:List (Str×NameKind)} {n:Nat} {acc:List (Str×Addr)} {x:Str},((x,NameKind.cell)∈names\/∃ c,(x,c)∈acc)->∃ c,(x,c)∈cellsFrom n names acc
 | [],_,_,_,h=>h.elim (fun z=>by simp at z) id
 | (m,k)::r,n,acc,x,h=>by
   unfold cellsFrom
   by_cases hk:(k == .cell)=true
   ·rw [if_pos hk]
    refine zaF ?_
    rcases h with z | ⟨c,z⟩
    ·rcases mem_cons.mp z with e | z
     ·cases e; exact .inr ⟨n,qp⟩
     ·exact .inl z
    ·exact .inr ⟨c,qo _ z⟩
   ·rw [if_neg hk]
    refine zaF ?_
    rcases h with z | z
    ·rcases mem_cons.mp z with e | z
     ·cases e; exact (hk (by decide)).elim
     ·exact .inl z
    ·exact .inr z
theorem zay {α:Type}:∀ {l:List (Str×α)} {x:Str},(∃ c,(x,c)∈l)->∃ c,l.lookup x=some c
 | [],_,⟨_,h⟩=>by simp at h
 | (m,d)::r,x,⟨c,h⟩=>by
   rw [lookup_cons]
   cases hb:x == m with
   | true=>exact ⟨d,rfl⟩
   | false=>
     refine zay (l:=r) ⟨c,?_⟩
     rcases mem_cons.mp h with e | h
     ·cases e; simp at hb
     ·exact h
theorem zaT:∀ {names:List (Str×NameKind)} {n:Nat} {acc:List (Str×Addr)},(∀ p∈acc,p.2 < n)->(∀ p∈acc,∀ q∈acc,p.2=q.2->p.1=q.1)->
  ∀ p∈cellsFrom n names acc,∀ q∈cellsFrom n names acc,p.2=q.2->p.1=q.1
 | [],_,_,_,h=>h
 | (m,k)::r,n,acc,hb,h=>by
   unfold cellsFrom
   by_cases hk:(k == .cell)=true
   ·rw [if_pos hk]
    refine zaT (fun p hp=>?_) fun p hp q hq e=>?_
    ·rcases mem_cons.mp hp with rfl | hp
     ·exact Nat.lt_succ_self _
     ·exact Nat.lt_succ_of_lt (hb p hp)
    ·rcases mem_cons.mp hp with rfl | hp <;> rcases mem_cons.mp hq with rfl | hq
     ·rfl
     ·have h1:=hb q hq
      have e':n=q.2:=e
      exact absurd h1 (by rw [<- e']; exact lt_irrefl _)
     ·have h1:=hb p hp
      have e':p.2=n:=e
      exact absurd h1 (by rw [e']; exact lt_irrefl _)
     ·exact h p hp q hq e
   ·rw [if_neg hk]
    exact zaT hb h
section
variable {M:Model} {A:Around} {E:Value->Shared->Prop} {s:Shared}
theorem zfa {scope:Scope} {globals:Addr} {cl:List (Str×Addr)} {qual:Str} {env:PySem.Env} {Q:PySem.Env->Shared->Prop}
  (hQ:∀ h':Heap,(∀ b o,s.heap.get? b=some o->h'.get? b=some o)->h'.Ns s.heap.objs.size (fun _=>none)->(∀ x c,(x,c)∈cellsFrom (s.heap.objs.size + 1) scope.names cl->(x,c)∈cl\/h'.IsCell c none)->
   Q { scope:=scope,locals:=s.heap.objs.size,globals:=globals,cells:=cellsFrom (s.heap.objs.size + 1) scope.names cl,qual:=qual,func:=none,code:=env.code,frame:=env.frame,builtins:=env.builtins } { s with heap:=h' }):
  wpAny M A (newFunctionEnv scope globals cl [] qual none .none (some env)) Q E s:=by
 simp only [newFunctionEnv,isSome_some,if_true]
 refine qa (wpAny_alloc ?_)
 refine qa (wpAny_layCells _ (fun name kind cells=>by cases hkc:kind == NameKind.cell <;> simp [hkc]) _ _ _ _ ?_)
 rw [show ({ s with heap:=s.heap.push { cls:=.type "dict",data:=.dict #[] } }:Shared).heap.objs.size=s.heap.objs.size + 1 from Heap.size_push ..]
 refine qb (hQ _ (fun b o e=>pushCells_keeps _ _ b o (qc _ e)) ((Heap.Ns.new s.heap (.type "dict")).keeps (pushCells_keeps _ _)) fun x c h=>?_)
 -- the new cells are empty
 have all:∀ (names:List (Str×NameKind)) (h:Heap) (acc:List (Str×Addr)),(∀ p∈acc,p∈cl\/h.IsCell p.2 none)->∀ p∈cellsFrom h.objs.size names acc,p∈cl\/(pushCells h names).IsCell p.2 none:=by
  intro names
  induction names with
  | nil=>intro h acc ha p hp; exact ha p hp
  | cons q r ih=>
    intro h acc ha p hp
    obtain ⟨m,k⟩:=q
    unfold cellsFrom at hp
    unfold pushCells
    by_cases hk:(k == .cell)=true
    ·rw [if_pos hk] at hp ⊢
     have e:(h.push { cls:=.type "cell",data:=.cell none }).objs.size=h.objs.size + 1:=Heap.size_push ..
     rw [<- e] at hp
     refine ih _ _ (fun p hp=>?_) p hp
     rcases mem_cons.mp hp with rfl | hp
     ·exact .inr ⟨_,qd _ rfl,rfl⟩
     ·rcases ha p hp with z | z
      ·exact .inl z
      ·exact .inr (z.keeps fun b o e=>qc _ e)
    ·rw [if_neg hk] at hp ⊢
     exact ih h acc ha p hp
 have:=all scope.names (s.heap.push { cls:=.type "dict",data:=.dict #[] }) cl (fun p hp=>.inl hp) (x,c) (by rw [Heap.size_push]; exact h)
 exact this
end
def compN (N vars:List Str):List Str:=N.map (fun x=>if x∈vars then Str.empty else x)++Str.empty::vars
def compCx (X:Cx) (scope:Scope) (vars:List Str) (s:Shared) (H:Hp) (ex:List Addr):Cx where
 prog:=X.prog
 w:=X.w
 K:=X.K
 mg:=X.mg
 base:=X.base
 A:=X.A
 N:=compN X.N vars
 s₀:=s
 H₀:=H
 env:=compEnvC scope (cellsFrom (s.heap.objs.size + 1) scope.names (closL X.env.cells scope.names [])) s.heap.objs.size X.env
 outer:=X.stack
 stack:=X.stack
 ex:=ex
 fn:=fun x=>decide ((x,NameKind.cell)∈scope.names)
 calm:=X.calm
 pn:=[]
 xe:=fun _ _=>False
structure CompScope (outer scope:Scope) (N vars:List Str):Prop where
 kind:scope.kind=.function
 fr:∀ x∈scope.names,x.2=.free->outer.names.lookup x.1=some .cell\/outer.names.lookup x.1=some .free
 nd:(scope.names.map (·.1)).Nodup
 own:∀ x∈N,x∉vars->(x,NameKind.local)∉scope.names/\(x,NameKind.cell)∉scope.names
 emp:scope.names.lookup Str.empty=none
theorem zaK {α:Type} {l:List (Str×α)} {n:Str} {c:α} (nd:(l.map (·.1)).Nodup):l.lookup n=some c↔(n,c)∈l:=by
 refine ⟨mem_of_lookup,fun h=>zaU h fun c' h'=>?_⟩
 induction l with
 | nil=>simp at h
 | cons p r ih=>
   obtain ⟨n1,n2⟩:=nodup_cons.mp nd
   rcases mem_cons.mp h with e | h <;> rcases mem_cons.mp h' with e' | h'
   ·rw [<- e] at e'; exact (Prod.mk.inj e').2
   ·exact absurd (mem_map.mpr ⟨_,h',by rw [<- e]⟩) n1
   ·exact absurd (mem_map.mpr ⟨_,h,by rw [<- e']⟩) n1
   ·exact ih n2 h h'
theorem zbq {α β:Type} (g:Str->α->β):∀ (l:List (Str×α)) (n:Str),(l.map fun p=>(p.1,g p.1 p.2)).lookup n=(l.lookup n).map (g n)
 | [],_=>rfl
 | (m,d)::r,n=>by
   rw [map_cons,lookup_cons,lookup_cons]
   cases hb:n == m with
   | true=>have e:n=m:=by simpa using hb
           subst e; rfl
   | false=>exact zbq g r n
def rl (env:PySem.Env) (n:Str) (k:NameKind):NameKind:=if (k == NameKind.free && env.scope.kind == .function && env.kindOf n == some .cell) then NameKind.cell else k
theorem zdH (scope:Scope) (env:PySem.Env):(relabel scope env).names=scope.names.map fun p=>(p.1,rl env p.1 p.2):=by
 unfold relabel
 show scope.names.map _=scope.names.map _
 refine map_congr_left fun p _=>?_
 obtain ⟨n,k⟩:=p
 show (if (k == NameKind.free && env.scope.kind == .function && env.kindOf n == some .cell)=true then (n,NameKind.cell) else (n,k))=(n,rl env n k)
 unfold rl
 by_cases h:(k == NameKind.free && env.scope.kind == .function && env.kindOf n == some .cell)=true
 ·rw [if_pos h,if_pos h]
 ·rw [if_neg h,if_neg h]
theorem zaL (scope:Scope) (env:PySem.Env) (x:Str):(relabel scope env).names.lookup x=(scope.names.lookup x).map (rl env x):=by
 rw [zdH,zbq]
theorem zeT {env:PySem.Env} {x:Str} {k:NameKind} (h:k≠.free):rl env x k=k:=by
 unfold rl
 rw [if_neg]
 intro z
 simp at z
 exact h z.1.1
theorem zkX {env:PySem.Env} {x:Str}:rl env x .free=.cell\/rl env x .free=.free:=by
 unfold rl
 split
 ·exact .inl rfl
 ·exact .inr rfl
section
variable {X:Cx} {pins:List (Addr×Obj)} {σ:St} {H:Hp} {s:Shared} {scope:Scope} {vars:List Str} {ex:List Addr}
theorem ziF {N:List Str} {i:Nat} {x:Str} (h:(compN N vars)[i]?=some x) (hi:i < N.length):(N[i]?=some x/\x∉vars)\/x=Str.empty:=by
 unfold compN at h
 rw [getElem?_append_left (by simpa using hi),getElem?_map] at h
 cases q:N[i]? with
 | none=>rw [q] at h; cases h
 | some y=>
   rw [q] at h
   have h':(if y∈vars then Str.empty else y)=x:=qh h
   by_cases hy:y∈vars
   ·rw [if_pos hy] at h'; exact .inr h'.symm
   ·rw [if_neg hy] at h'; subst h'; exact .inl ⟨rfl,hy⟩
theorem Inv.comp (I:Inv X pins σ H s) (S:CompScope X.env.scope scope X.N vars) (hex:∀ b∈ex,FpOk X pins H b/\b < s.heap.objs.size) {h':Heap} (kept:∀ b o,s.heap.get? b=some o->h'.get? b=some o) (hns:h'.Ns s.heap.objs.size (fun _=>none))
  (hcl:∀ x c,(x,c)∈cellsFrom (s.heap.objs.size + 1) scope.names (closL X.env.cells scope.names [])->(x,c)∈closL X.env.cells scope.names []\/h'.IsCell c none) {k:Nat} (hk:vars.length=k) (w0:Option V):
  Inv (compCx X scope vars s H ex) [] (σ++w0::List.replicate k none) H { s with heap:=h' }:=by
 have cm:∀ {x:Str} {c:Addr},(x,c)∈closL X.env.cells scope.names []->(x,NameKind.free)∈scope.names/\X.env.cells.lookup x=some c:=fun {x c} h=>by
  rcases zbG h with z | z
  ·simp at z
  ·exact z
 have lt:∀ {x:Str} {c:Addr},X.env.cells.lookup x=some c->c < s.heap.objs.size:=fun {x c} h=>by
  obtain ⟨v,z⟩:=I.cell x c h
  exact z.lt
 have look:∀ {x:Str} {c:Addr},(compCx X scope vars s H ex).env.cells.lookup x=some c->(X.env.cells.lookup x=some c/\(x,NameKind.free)∈scope.names)\/((x,NameKind.cell)∈scope.names/\s.heap.objs.size + 1<=c):=fun {x c} h=>by
  rcases za4 (mem_of_lookup h) with z | z
  ·exact .inl ⟨(cm z).2,(cm z).1⟩
  ·exact .inr z
 have uniq:∀ {x:Str} {a b:NameKind},(x,a)∈scope.names->(x,b)∈scope.names->a=b:=fun {x a b} h1 h2=>by
  have e1:=(zaK S.nd).mpr h1
  have e2:=(zaK S.nd).mpr h2
  rw [e1] at e2
  exact qh e2
 -- what a visible name is,seen from around
 have vis:∀ {x:Str},((relabel scope X.env).names.lookup x=some .cell\/(relabel scope X.env).names.lookup x=some .free)->(x,NameKind.cell)∈scope.names\/(x,NameKind.free)∈scope.names:=fun {x} h=>by
  rw [zaL] at h
  cases q:scope.names.lookup x with
  | none=>rw [q] at h; rcases h with h | h <;> cases h
  | some k=>
    have hm:=mem_of_lookup q
    rw [q] at h
    have h0:some (rl X.env x k)=some .cell\/some (rl X.env x k)=some .free:=h
    cases k with
    | cell=>exact .inl hm
    | free=>exact .inr hm
    | «local»=>rw [zeT (by decide)] at h0; rcases h0 with h | h <;> cases h
    | globalImplicit=>rw [zeT (by decide)] at h0; rcases h0 with h | h <;> cases h
    | globalExplicit=>rw [zeT (by decide)] at h0; rcases h0 with h | h <;> cases h
 have ok:(compCx X scope vars s H ex).Ok:=by
  refine ⟨I.ok.mod,S.kind,I.ok.glob,I.ok.blt,le_refl _,fun x y c h1 h2=>?_,fun x h=>?_,fun x c hf h=>?_,I.ok.hd,I.ok.frames,.inl rfl,fun b hb=>⟨?_,fun x c h z=>?_⟩,I.bs,le_trans I.ok.bsz I.sz,fun b o e hb=>?_,fun b hb z=>?_,I.stack,I.stkFree⟩
  ·refine zaT (fun p hp=>?_) (fun p hp q hq e=>?_) (x,c) (mem_of_lookup h1) (y,c) (mem_of_lookup h2) rfl
   ·exact Nat.lt_succ_of_lt (lt (cm (x:=p.1) (c:=p.2) hp).2)
   ·exact I.ok.inj _ _ _ (cm (x:=p.1) (c:=p.2) hp).2 (e ▸ (cm (x:=q.1) (c:=q.2) hq).2)
  ·rcases vis h with z | z
   ·exact zay (zaF (.inl z))
   ·obtain ⟨c,hc⟩:=I.ok.has x (S.fr (x,.free) z rfl)
    exact zay (zaF (.inr ⟨c,zbj hc (.inr z)⟩))
  ·have hf':(x,NameKind.cell)∈scope.names:=of_decide_eq_true hf
   rcases look h with ⟨_,z⟩ | ⟨_,z⟩
   ·cases uniq hf' z
   ·exact Nat.le_of_succ_le z
  ·exact ne_of_lt (hex b hb).2
  ·rcases look h with ⟨w,_⟩ | ⟨_,w⟩
   ·exact (hex b hb).1.2.2.2.2.1 x c w z
   ·have h1:=(hex b hb).2
    rw [<- z] at h1
    exact absurd (lt_of_lt_of_le h1 (Nat.le_of_succ_le w)) (lt_irrefl _)
  ·obtain ⟨_,_,_,h1,_⟩:=(hex b hb).1
   rcases h1 with z | z
   ·exact I.ok.noex b o e z
   ·exact absurd (lt_of_lt_of_le (qg e) (le_trans I.ok.bsz z)) (lt_irrefl _)
  ·obtain ⟨_,h2,h3,_⟩:=(hex b hb).1
   rcases mem_cons.mp (I.stkSub b z) with w | w
   ·exact h2 w
   ·exact h3 w
 have cellK:∀ {c:Addr} {v:Option Value},s.heap.IsCell c v->h'.IsCell c v:=fun z=>z.keeps kept
 refine ⟨ok,rfl,I.bare,Un.kept kept,⟨_,hns,fun i x v h1 h2 h3=>?_⟩,fun x c h=>?_,I.hok.fresh (le_refl _),fun x c h=>?_,fun p hp=>absurd (show p∈([]:List (Addr×Obj)) from hp) (by simp),I.hok.kept kept,?_⟩
 ·-- a slot of the context
  have noE:¬ Vis (compCx X scope vars s H ex).env.scope Str.empty:=fun h3=>by
   have h3':(relabel scope X.env).names.lookup Str.empty=some .local\/(relabel scope X.env).names.lookup Str.empty=some .cell\/(relabel scope X.env).names.lookup Str.empty=some .free:=h3
   rw [zaL,S.emp] at h3'
   rcases h3' with z | z | z <;> cases z
  have hi:i < σ.length:=by
   by_cases hi:i < σ.length
   ·exact hi
   ·exfalso
    rw [getElem?_append_right (not_lt.mp hi)] at h2
    cases q:i - σ.length with
    | zero=>
      have e:i=X.N.length:=by have:=I.len; lia
      rw [e] at h1
      have h1':(compN X.N vars)[X.N.length]?=some x:=h1
      unfold compN at h1'
      rw [getElem?_append_right (by simp)] at h1'
      simp at h1'
      subst h1'
      exact noE h3
    | succ j=>
      rw [q,List.getElem?_cons_succ,List.getElem?_replicate] at h2
      split at h2 <;> cases h2
  rw [getElem?_append_left hi] at h2
  rcases ziF h1 (by rw [<- I.len]; exact hi) with ⟨h1,hx⟩ | rfl
  ·have own:=S.own x (mem_of_getElem? h1) hx
   have hfree:(x,NameKind.free)∈scope.names:=by
    have h3':(relabel scope X.env).names.lookup x=some .local\/(relabel scope X.env).names.lookup x=some .cell\/(relabel scope X.env).names.lookup x=some .free:=h3
    rcases h3' with z | z
    ·rw [zaL] at z
     cases q:scope.names.lookup x with
     | none=>rw [q] at z; cases z
     | some kk=>
       rw [q] at z
       have z0:some (rl X.env x kk)=some .local:=z
       have hm:=mem_of_lookup q
       cases kk with
       | «local»=>exact absurd hm own.1
       | cell=>exact absurd hm own.2
       | free=>exact hm
       | globalImplicit=>rw [zeT (by decide)] at z0; cases z0
       | globalExplicit=>rw [zeT (by decide)] at z0; cases z0
    ·rcases vis z with w | w
     ·exact absurd w own.2
     ·exact w
   have hout:=S.fr (x,.free) hfree rfl
   obtain ⟨m,hm,hl⟩:=I.loc
   obtain ⟨u,r,l⟩:=hl i x v h1 h2 (hout.elim (fun z=>.inr (.inl z)) fun z=>.inr (.inr z))
   refine ⟨u,r,.inr ⟨?_,?_⟩⟩
   ·show (relabel scope X.env).names.lookup x=some .cell\/(relabel scope X.env).names.lookup x=some .free
    rw [zaL,(zaK S.nd).mpr hfree]
    show some (rl X.env x .free)=_\/some (rl X.env x .free)=_
    rcases zkX (env:=X.env) (x:=x) with e | e <;> rw [e]
    ·exact .inl rfl
    ·exact .inr rfl
   ·rcases l with ⟨z,_⟩ | ⟨_,c,hc,z⟩
    ·have z':X.env.scope.names.lookup x=some .local:=z
     rcases hout with w | w <;> (have w':X.env.scope.names.lookup x=_:=w; rw [w'] at z'; cases z')
    ·refine ⟨c,?_,cellK z⟩
     show (cellsFrom (s.heap.objs.size + 1) scope.names (closL X.env.cells scope.names [])).lookup x=some c
     obtain ⟨c',hc'⟩:=zay (zaF (n:=s.heap.objs.size + 1) (names:=scope.names) (.inr ⟨c,zbj hc (.inr hfree)⟩))
     rcases look hc' with ⟨w,_⟩ | ⟨w,_⟩
     ·rw [hc] at w
      cases w
      exact hc'
     ·cases uniq hfree w
  ·exact absurd h3 noE
 ·rcases hcl x c (mem_of_lookup h) with z | z
  ·obtain ⟨v,w⟩:=I.cell x c (cm z).2
   exact ⟨v,cellK w⟩
  ·exact ⟨none,z⟩
 ·rcases look h with ⟨w,_⟩ | ⟨_,w⟩
  ·exact I.freeC x c w
  ·exact I.hok.fresh (Nat.le_of_succ_le w)
 ·show _=(compN X.N vars).length
  unfold compN
  simp [I.len,hk]
end
abbrev TB:=St->Hp->(St->Hp->Prop)->Prop
def PRest (X:Cx) (m:Sem Unit) (t:TB):Prop:=∀ (pins:List (Addr×Obj)) (s:Shared) (σ:St) (H:Hp) (Q:St->Hp->Prop),Inv X pins σ H s->t σ H Q->
 wpAny (model X.prog X.w) X.A m (fun _ s'=>∃ σ' H',Inv X pins σ' H' s'/\Q σ' H') (fun _ _=>False) s
def PIfs (X:Cx) (ifs:List Expr) (t:TT):Prop:=∀ (pins:List (Addr×Obj)) (s:Shared) (σ:St) (H:Hp) (Q:Bool->Hp->Prop),Inv X pins σ H s->t σ H Q->
 wpAny (model X.prog X.w) X.A (forIn ifs true fun c r=>if r=true then do let ok <- isTrue c X.env (eval c X.env); pure (ForInStep.yield ok) else pure (ForInStep.yield r)) (TP X pins σ Q) X.xe s
theorem zi6 {X:Cx}:PIfs X [] (fun _ H Q=>Q true H):=fun pins s σ H Q I q=>wpAny_tests_nil ⟨H,I,q⟩
theorem zjJ {X:Cx} {c:Expr} {t:TT} (h:PT X c t):PIfs X [c] t:=fun pins s σ H Q I q=>wpAny_tests_one (h pins s σ H Q I q)
def tLoopB (g:TG) (tc:TT) (tb:TB) (J:It):TB:=fun σ H Q=>∃ W:Nat->Nat->St->Hp->Prop,(∃ m,W 0 m σ H)/\∀ i m σ H,W i m σ H->
 (J.stop i H/\Q σ H)\/(J.go i H/\∃ N:St->Hp->Prop,(∀ σ' H',N σ' H'->∃ m',m' < m/\W (i + 1) m' σ' H')/\∀ x H',J.yld i H x H'->g x σ H' fun σ2 H2=>tc σ2 H2 fun b H3=>if b=true then tb σ2 H3 N else N σ2 H3)
def PLoop (X:Cx) (e:Expr) (d:Nat) (acc:Value) (tg:Expr) (tl:It->TB):Prop:=∀ (pins:List (Addr×Obj)) (s:Shared) (σ:St) (H:Hp) (J:It) (fp:List Addr) (it:Addr) (tn:Nat->Heap->Prop) (Q:St->Hp->Prop),Inv X pins σ H s->
 Turn X.prog X.w X.K tg J fp it tn->tn 0 s.heap->(∀ b∈fp,FpOk X pins H b)->tl J σ H Q->
 codeAny (model X.prog X.w) X.A (.compLoop e d (.ref it) acc X.env) (fun r s'=>∃ σ' H',r=.ok .next/\Inv X pins σ' H' s'/\Q σ' H') s
def PRestF (X:Cx) (m:Sem Fin) (c:Code) (t:TB):Prop:=∀ (pins:List (Addr×Obj)) (s:Shared) (σ:St) (H:Hp) (Q:St->Hp->Prop),Inv X pins σ H s->t σ H Q->
 wpAny (model X.prog X.w) X.A m (fun f s'=>f=.again c/\∃ σ' H',Inv X pins σ' H' s'/\Q σ' H') (fun _ _=>False) s
theorem PRest.f {X:Cx} {m:Sem Unit} {c:Code} {t:TB} (h:PRest X m t):PRestF X (m >>= fun _=>again c) c t:=fun pins s σ H Q I q=>
 qa (wpAny_mono (h pins s σ H Q I q) (fun _ s' z=>qb ⟨rfl,z⟩) fun _ _ z=>z)
theorem zbI {X:Cx} {e tg:Expr} {d:Nat} {acc:Value} {ifs:List Expr} {g:TG} {tc:TT} {tb:TB} {inner:Addr->Sem Fin} {ipos:Pos} (hc:X.calm=true) (hxe:X.xe=fun _ _=>False) (hg:PG X tg g) (ht:PIfs X ifs tc) (hr:∀ it,PRestF X (inner it) (.compLoop e d (.ref it) acc X.env) tb)
  (hq:∀ it,(Code.compLoop e d (.ref it) acc X.env).quiet=true) (hun:∀ it,X.A.under (.compLoop e d (.ref it) acc X.env)=X.A)
  (hden:∀ it,(model X.prog X.w).den (.compLoop e d (.ref it) acc X.env)=(compTurn e d (.ref it) acc X.env).onRaise (fun x=>do noteFrame x X.env; theTreesLotGoes x))
  (heq:∀ it,compTurn e d (.ref it) acc X.env=(standAt ipos >>= fun _=>pyNext (.ref it) >>= fun r=>match r with
   | none=>pure (.done .next)
   | some v=>letOwnedTupleGo tg (.ref it) v >>= fun _=>assign tg X.env v >>= fun _=>
     (forIn ifs true fun c r=>if r=true then do let ok <- isTrue c X.env (eval c X.env); pure (ForInStep.yield ok) else pure (ForInStep.yield r)) >>= fun ok=>
      if ok=true then inner it else again (.compLoop e d (.ref it) acc X.env))):
  PLoop X e d acc tg (tLoopB g tc tb):=by
 intro pins s σ H J fp it tn Q I T st f ⟨W,⟨m0,w0⟩,turn⟩
 have stat:∀ {H':Hp},(∀ b∈fp,H' b=none)->∀ b∈fp,FpOk X pins H' b:=fun hn b hb=>⟨hn b hb,(f b hb).2⟩
 have nox:∀ {α:Type} {m:Sem α} {Q:α->Shared->Prop} {E:Value->Shared->Prop} {s:Shared},wpAny (model X.prog X.w) X.A m Q X.xe s->wpAny (model X.prog X.w) X.A m Q E s:=fun h=>wpAny_mono h (fun _ _ q=>q) fun _ _ x=>by rw [hxe] at x; exact x.elim
 refine codeAny_loop (hq it) (fun n s'=>∃ i σ' H',Inv X pins σ' H' s'/\tn i s'.heap/\(∀ b∈fp,H' b=none)/\W i n σ' H') ?_ m0 ⟨0,σ,H,I,st,fun b hb=>(f b hb).1,w0⟩
 rintro n s3 ⟨i,σ3,H3,I3,st3,fr3,w3⟩
 rw [hun,hden]
 refine wpAny_noted ?_
 rw [heq]
 refine qa (wpAny_standAt (qa ?_))
 rcases turn i n σ3 H3 w3 with ⟨stop,qn⟩ | ⟨go,N,hN,step⟩
 ·refine thn (T.done X rfl rfl rfl hc i pins s3 σ3 H3 _ I3 (stat fr3) st3 stop) fun r s4 ⟨hr,I4⟩=>?_
  subst hr
  exact qb ⟨σ3,H3,rfl,I4,qn⟩
 ·refine thn (T.item X rfl rfl rfl hc i pins s3 σ3 H3 _ I3 (stat fr3) st3 go) fun r s4 ⟨u,hr',h4⟩=>?_
  subst hr'
  refine qa (thn h4 fun _ s5 ⟨x,H5,I5,r5,y5,st5,fr5⟩=>?_)
  have I5':=I5.pinned (stat fr5) (T.obj _ _ st5)
  refine qa (nox (thn (hg _ s5 σ3 H5 x u _ I5' r5 (step x H5 y5)) fun _ s6 ⟨σ6,H6,I6,q6⟩=>?_))
  have again:∀ {σ7:St} {H7:Hp} {s7:Shared},Inv X (pins++pinsAt fp s5.heap) σ7 H7 s7->N σ7 H7->∃ m,m < n/\∃ i σ' H',Inv X pins σ' H' s7/\tn i s7.heap/\(∀ b∈fp,H' b=none)/\W i m σ' H':=fun {σ7 H7 s7} I7 n7=>by
   obtain ⟨m',hm,w7⟩:=hN σ7 H7 n7
   refine ⟨m',hm,i + 1,σ7,H7,I7.unpinned,T.keep _ _ _ st5 fun b hb o e=>(I7.pin (b,o) (qk _ (qk _ (zbn hb e)))).1,fun b hb=>?_,w7⟩
   obtain ⟨o,e,d⟩:=T.obj _ _ st5 b hb
   exact (I7.pin (b,o) (qk _ (qk _ (zbn hb e)))).2.1
  refine qa (nox (thn (ht _ s6 σ6 H6 _ I6 q6) fun b s7 ⟨H7,I7,q7⟩=>?_))
  cases b with
  | true=>
    rw [if_pos rfl] at q7
    rw [if_pos rfl]
    refine wpAny_mono (hr it _ s7 σ6 H7 _ I7 q7) (fun f s8 ⟨ef,σ8,H8,I8,n8⟩=>?_) fun _ _ z=>z.elim
    subst ef
    exact ⟨rfl,again I8 n8⟩
  | false=>
    rw [if_neg Bool.false_ne_true] at q7
    rw [if_neg Bool.false_ne_true]
    exact qb ⟨rfl,again I7 q7⟩
theorem zdn {X:Cx} {e tg:Expr} {d:Nat} {acc:Value} {tl:It->TB} (hl:PLoop X e d acc tg tl)
  (hq:∀ it,(Code.compLoop e d (.ref it) acc X.env).quiet=true) (hun:∀ it,X.A.under (.compStart e d (.ref it) acc X.env)=X.A)
  (hden:∀ it,(model X.prog X.w).den (.compStart e d (.ref it) acc X.env)=(compStart e d (.ref it) acc X.env).onRaise (fun x=>do noteFrame x X.env; standAt theWindowsPlace))
  (heq:∀ it,∃ p,compStart e d (.ref it) acc X.env=(ask >>= fun c=>if c.params.followText "comprehension-iter-twice"=true then again (.compLoop e d (.ref it) acc X.env) else
   rule "comprehension.iter-twice" >>= fun _=>standAt p >>= fun _=>pyIter (.ref it) >>= fun it'=>again (.compLoop e d it' acc X.env)))
  {pins:List (Addr×Obj)} {s:Shared} {σ:St} {H:Hp} {J:It} {fp:List Addr} {it:Addr} {tn:Nat->Heap->Prop} {Q:St->Hp->Prop} (I:Inv X pins σ H s)
  (T:Turn X.prog X.w X.K tg J fp it tn) (st:tn 0 s.heap) (f:∀ b∈fp,FpOk X pins H b) (q:tl J σ H Q):
  codeAny (model X.prog X.w) X.A (.compStart e d (.ref it) acc X.env) (fun r s'=>∃ σ' H',r=.ok .next/\Inv X pins σ' H' s'/\Q σ' H') s:=by
 have h0:=hl pins s σ H J fp it tn Q I T st f q
 refine codeAny_of_tree ?_
 rw [hun,hden]
 refine wpAny_notedAt ?_
 obtain ⟨p,e⟩:=heq it
 rw [e]
 refine qa (wpAny_askSetting (wpAny_ite ?_))
 split
 ·exact qb ⟨hq it,h0⟩
 ·exact qa (wpAny_rule (qa (wpAny_standAt (qa (T.self X.A 0 s _ _ st (qb ⟨hq it,h0⟩))))))
end L2
end
section
namespace FL
open PySem PySem.Spec PyProof.Rows L2
inductive tWB (X:Cx) (n:Nat) (D:Addr) (b:WB) (σ:St) (H:Hp) (Q:St->Hp->Prop):Prop
 | mk (F G:Hp) (ρ:Env) (P:Env->Prop) (PX:WX) (rel:Rel X.K ρ σ F G H) (hs:σ[n]?=some (some (.ref D))) (hw:b ρ P PX) (hn:∀ ρ' σ' F' H',P ρ'->KP (List.range (n + 1)) σ σ'->Same F F'->Rel X.K ρ' σ' F' G H'->Q σ' H'):tWB X n D b σ H Q
theorem xc0 {X:Cx} {T:St->Prop} {F G:Hp} {PX:WX}:XC X T F G PX:=fun _ _ _ _ _ _ _ _ _ _ _ _ z=>z.elim
section
variable {K:W.Frag} {F F' H H' G G':Hp} {σ σ':St} {v u:V}
theorem SReps.snoc {xs:List V} {l:List S} {fp fq:List Addr} {v:V} {s:S} (b:SReps K F H xs l fp) (r:SRep K F H v s fq):SReps K F H (xs++[v]) (l++[s]) (fp++fq):=
 SReps.ind (P:=fun xs l fp=>SReps K F H (xs++[v]) (l++[s]) (fp++fq)) (by have:=SReps.cons r .nil; rwa [append_nil] at this) (fun a _ ih=>by rw [append_assoc]; exact .cons a ih) b
theorem SReps.len {xs:List V} {l:List S} {fp:List Addr} (r:SReps K F H xs l fp):xs.length=l.length:=SReps.ind (P:=fun xs l _=>xs.length=l.length) rfl (fun _ _ ih=>congrArg (· + 1) ih) r
theorem Rel.append {ρ:Env} {n:Nat} {l:List S} {s:S} {D:Addr} (r:Rel K (ρ++[some s]) (σ++[some v]) F G H) (hs:slot ρ n=some (.lst l)) (hσ:σ[n]?=some (some (.ref D))):
  ∃ xs,H D=some (.lst xs)/\xs.length=l.length/\Rel K (ρ.set n (some (.lst (l++[s])))) σ F G (upd H D (.lst (xs++[v]))):=by
 have hl:=len1 r
 obtain ⟨fp,e,nd,ap⟩:=r.en
 obtain ⟨f1,f2,rfl,a,b⟩:=e.cut hl
 obtain ⟨v',fa,fi,fb,e1,rfl,q,up⟩:=a.at hs
 rw [hσ] at e1
 have e2:V.ref D=v':=by simpa using e1
 subst e2
 cases q with
 | lst hD rl=>
   rename_i xs fl
   cases b with
   | so sr nl=>
     cases nl
     rename_i fs
     refine ⟨xs,hD,rl.len,?_⟩
     have es:σ.set n (some (.ref D))=σ:=by
      apply ext_getElem?
      intro j
      by_cases hj:n=j
      ·subst hj
       rw [getElem?_set_self (qi.mp hσ).1,hσ]
      ·rw [getElem?_set_ne hj]
     -- D is nobody else's
     obtain ⟨n1,n2,n12⟩:=nodup_append.mp nd
     obtain ⟨na,nib,nab⟩:=nodup_append.mp n1
     obtain ⟨ni,nb,nib⟩:=nodup_append.mp nib
     obtain ⟨nD,nfl⟩:=nodup_cons.mp ni
     have hDa:D∉fa:=fun z=>nab D z D (qm _ qp) rfl
     have hDb:D∉fb:=fun z=>nib D qp D z rfl
     have hDs:D∉fs:=fun z=>n12 D (qk _ (qm _ qp)) D (by simpa using z) rfl
     have apD:=ap D (qm _ (qk _ (qm _ qp)))
     have ne:∀ {l:List Addr},D∉l->∀ x∈l,upd H D (.lst (xs++[v])) x=H x:=fun h x hx=>zaj fun z=>h (z ▸ hx)
     have new:SRep K F (upd H D (.lst (xs++[v]))) (.ref D) (.lst (l++[s])) (D::(fl++fs)):=.lst zao (SReps.snoc (rl.mono (Same.refl F) (ne nD)) (sr.mono (Same.refl F) (ne hDs)))
     have a2:=up (F':=F) (H':=upd H D (.lst (xs++[v]))) (o:=some (.lst (l++[s]))) (u:=some (.ref D)) (Same.refl F) (fun x hx=>zaj fun z=>(mem_append.mp hx).elim (fun w=>hDa (z ▸ w)) fun w=>hDb (z ▸ w)) (.so new .nil)
     rw [es] at a2
     have p:(fa++((D::(fl++fs))++[]++fb)).Perm (fa++((D::fl)++fb)++(fs++[])):=by
      simp only [append_nil,append_assoc,cons_append]
      refine List.Perm.append_left _ (List.Perm.cons _ (List.Perm.append_left _ perm_append_comm))
     refine ⟨Same.updR r.fr apD.1,fun x o w=>?_,_,a2,p.nodup_iff.mpr (by simpa using nd),fun x hx=>ap x (by simpa using p.mem_iff.mp hx)⟩
     have hx:x≠D:=fun z=>by rw [z,apD.2] at w; cases w
     rw [zaj hx]
     exact r.gr x o w
end
section
variable {X:Cx} {n:Nat} {D:Addr} {ks:List Nat}
theorem zcU {elt:Expr} {we:WE} (hxe:X.xe=fun _ _=>False) (h:FE X elt we):PRest X (eval elt X.env >>= fun x=>call (.builtin "list.append") [.ref D,x] >>= fun _=>pure ()) (tWB X n D (bEmit n we)):=by
 intro pins s σ H Q I q
 obtain ⟨F,G,ρ,P,PX,rel,hσ,hw,hok⟩:=q
 have hp:PassesOwn (model X.prog X.w) X.A X.env X.xe:=by rw [hxe]; exact PassesOwn.never
 have he:=h X.pn X.xe hp pins s σ H (fun v H1=>∃ F1 ρ1 t l,Same F F1/\Rel X.K (ρ1++[some t]) (σ++[some v]) F1 G H1/\slot ρ1 n=some (.lst l)/\l.length < big/\P (ρ1.set n (some (.lst (l++[t]))))) I
  ⟨F,G,ρ,_,PX,rel,hw,fun r ρ1 v F1 H1 hk s1 r1 rv=>?_,xc0⟩
 ·have xe0:∀ e s',X.xe e s'->False:=fun e s' z=>by rw [hxe] at z; exact z
  refine qa (wpAny_mono he (fun u s1 ⟨v,H1,I1,rv,F1,ρ1,t,l,sm,r1,hs,hz,hP⟩=>?_) fun e s' z=>xe0 e s' z)
  obtain ⟨xs,hD,hlen,r2⟩:=Rel.append r1 hs hσ
  refine qa (wpAny_mono (zcR pins s1 σ H1 (.ref D) [v] (.ref D) [u] (fun w H'=>w=.non/\H'=upd H1 D (.lst (xs++[v]))) I1 rfl (.cons rv .nil) ⟨D,xs,v,rfl,rfl,hD,by rw [hlen,sizeLine_eq]; exact lt_trans hz (by decide),rfl,rfl⟩) (fun w s2 ⟨w',H2,I2,_,_,e2⟩=>?_) fun e s' z=>xe0 e s' z)
  subst e2
  exact qb ⟨σ,_,I2,hok _ σ F1 _ hP KP.refl sm r2⟩
 ·obtain ⟨⟨t,ρ2⟩,eg,hk⟩:=zaf hk
  obtain ⟨F2,s2,l2,r2⟩:=giveR (ρ':=[]) (σ':=[]) r1 (len1 r1) rv eg
  dsimp only at hk
  split at hk
  ·rename_i l e
   exact ⟨F2,ρ2,t,l,s1.trans s2,r2,e,hk.1,hk.2⟩
  ·exact hk.elim
theorem zby:PIfs X [] (tWT X wYes):=fun pins s σ H Q I q=>zi6 pins s σ H Q I (by
 obtain ⟨F,G,ρ,P,PX,rel,hw,hok,hx⟩:=q
 exact hok true ρ F H hw (Same.refl F) rel)
theorem ze1 {c:Expr} {wc:WT} (hxe:X.xe=fun _ _=>False) (h:FT X c wc):PIfs X [c] (tWT X wc):=zjJ (h X.pn X.xe (by rw [hxe]; exact PassesOwn.never))
theorem zf0 {g:WG} {wc:WT} {b:WB} {J:It} {l:List FL.D} {F G:Hp} {ρ:Env} {σ:St} {H:Hp} {P:Env->Prop} {PX:WX} {Q:St->Hp->Prop} (it:ItOk X.K J l F) (rel:Rel X.K ρ σ F G H) (hσ:σ[n]?=some (some (.ref D)))
  (hw:bLoop g wc b l ρ P PX) (hok:∀ ρ' σ' F' H',P ρ'->KP (List.range (n + 1)) σ σ'->Same F F'->Rel X.K ρ' σ' F' G H'->Q σ' H'):
  tLoopB (tWG X (List.range (n + 1)) g) (tWT X wc) (tWB X n D b) J σ H Q:=by
 have hσ':∀ {σ':St},KP (List.range (n + 1)) σ σ'->σ'[n]?=some (some (.ref D)):=fun k=>by rw [k n (by simp)]; exact hσ
 refine ⟨fun i m σ2 H2=>m=l.length - i/\i<=l.length/\∃ F2 ρ2,KP (List.range (n + 1)) σ σ2/\Same F F2/\Rel X.K ρ2 σ2 F2 G H2/\bLoop g wc b (l.drop i) ρ2 P PX,⟨l.length,by simp,zero_le _,F,ρ,KP.refl,Same.refl F,rel,by simpa using hw⟩,?_⟩
 rintro i m σ2 H2 ⟨rfl,hi,F2,ρ2,kp,s2,r2,hw2⟩
 obtain ⟨it1,it2⟩:=it i ρ2 σ2 F2 G H2 s2 r2
 by_cases hlt:i < l.length
 ·obtain ⟨go,yld⟩:=it1 l[i] (by simp [hlt])
  refine .inr ⟨go,fun σ3 H3=>i + 1<=l.length/\∃ F3 ρ3,KP (List.range (n + 1)) σ σ3/\Same F F3/\Rel X.K ρ3 σ3 F3 G H3/\bLoop g wc b (l.drop (i + 1)) ρ3 P PX,fun σ3 H3 h=>⟨l.length - (i + 1),by lia,rfl,h⟩,fun y H3 hy=>?_⟩
  obtain ⟨F3,s3,r3,rp⟩:=yld y H3 hy
  rw [drop_eq_getElem_cons hlt] at hw2
  refine ⟨F3,G,ρ2,_,_,r3.push rp,hw2,fun ρ4 σ4 F4 H4 hp4 k4 s4 r4=>?_⟩
  have kp4:=kp.trans k4
  have sm4:=s2.trans (s3.trans s4)
  refine ⟨F4,G,ρ4,_,_,r4,hp4,fun k ρ5 F5 H5 hp5 s5 r5=>?_,xc0⟩
  cases k with
  | true=>
    dsimp only
    rw [if_pos rfl]
    exact ⟨F5,G,ρ5,_,_,r5,hσ' kp4,hp5,fun ρ' σ' F' H' h k' s r=>⟨hlt,F',ρ',kp4.trans k',sm4.trans (s5.trans s),r,h⟩⟩
  | false=>
    dsimp only
    rw [if_neg Bool.false_ne_true]
    exact ⟨hlt,F5,ρ5,kp4,sm4.trans s5,r5,hp5⟩
 ·have e:i=l.length:=Nat.le_antisymm hi (not_lt.mp hlt)
  subst e
  rw [List.drop_length] at hw2
  exact .inl ⟨it2 (le_refl _),hok ρ2 σ2 F2 H2 hw2 kp s2 r2⟩
theorem ziW {c0:Code} {e tg iter:Expr} {d:Nat} {wi:WI} {g:WG} {wc:WT} {b:WB} {ip:Pos} (hxe:X.xe=fun _ _=>False) (hi:FI X tg iter wi) (hl:PLoop X e d (.ref D) tg (tLoopB (tWG X (List.range (n + 1)) g) (tWT X wc) (tWB X n D b)))
  (hs:∀ x,foldedSetIterable iter X.env x=pure x) (hm:X.A.mark none=X.A)
  (hq:∀ it,(Code.compLoop e d (.ref it) (.ref D) X.env).quiet=true) (hun:∀ it,X.A.under (.compStart e d (.ref it) (.ref D) X.env)=X.A)
  (hden:∀ it,(model X.prog X.w).den (.compStart e d (.ref it) (.ref D) X.env)=(compStart e d (.ref it) (.ref D) X.env).onRaise (fun x=>do noteFrame x X.env; standAt theWindowsPlace))
  (heq:∀ it,∃ p,compStart e d (.ref it) (.ref D) X.env=(ask >>= fun c=>if c.params.followText "comprehension-iter-twice"=true then again (.compLoop e d (.ref it) (.ref D) X.env) else
   rule "comprehension.iter-twice" >>= fun _=>standAt p >>= fun _=>pyIter (.ref it) >>= fun it'=>again (.compLoop e d it' (.ref D) X.env))):
  PRestF X (eval iter X.env >>= fun x=>standAt ip >>= fun _=>foldedSetIterable iter X.env x >>= fun x=>holding [x] (pyIter x) >>= fun it=>runOwn (.compStart e d it (.ref D) X.env) X.env >>= fun _=>again c0) c0 (tWB X n D (bFor wi g wc b)):=by
 intro pins s σ H Q I q
 obtain ⟨F,G,ρ,P,PX,rel,hσ,hw,hok⟩:=q
 have hp:PassesOwn (model X.prog X.w) X.A X.env X.xe:=by rw [hxe]; exact PassesOwn.never
 have xe0:∀ e s',X.xe e s'->False:=fun e s' z=>by rw [hxe] at z; exact z
 have hi':=hi X.pn X.xe hp pins s σ H (fun J H1=>tLoopB (tWG X (List.range (n + 1)) g) (tWT X wc) (tWB X n D b) J σ H1 Q) I
  ⟨F,G,ρ,_,PX,rel,hw,fun l ρ1 F1 H1 J hk s1 r1 it=>zf0 it r1 hσ hk fun ρ' σ' F' H' a k s r=>hok ρ' σ' F' H' a k (s1.trans s) r,xc0⟩
 refine qa (wpAny_mono hi' (fun x s1 h1=>?_) fun e s' z=>xe0 e s' z)
 refine qa (wpAny_standAt (qa (wpAny_of_eq (hs x) (qa (wpAny_holding (wpAny_mono h1 (fun itv s2 h2=>?_) fun e s' z=>xe0 e s' z))))))
 obtain ⟨it,fp,tn,J,H2,e1,I2,T,st,f,q2⟩:=h2
 subst e1
 refine qa (wpAny_runOwn ?_)
 rw [hm]
 refine codeAny_mono (zdn hl hq hun hden heq I2 T st f q2) fun r s3 ⟨σ3,H3,er,I3,q3⟩=>?_
 subst er
 exact qb ⟨rfl,σ3,H3,I3,q3⟩
end
theorem zcP {α:Type} {l:List α} {n:Nat} {a:α} (h:l[n]?=some a):l=l.take n++a::l.drop (n + 1):=by
 obtain ⟨hn,e⟩:=qi.mp h
 rw [<- e,<- drop_eq_getElem_cons hn,List.take_append_drop]
section
variable {X:Cx} {k:Nat} {vars:List Str}
theorem zfz {ty:String} {dat:Data} {mk:Sem Value} (hmk:∀ (A:Around) (E:Value->Shared->Prop) (s:Shared) (Q:Value->Shared->Prop),Q (.ref s.heap.objs.size) { s with heap:=s.heap.push { cls:=.type ty,dict:=none,data:=dat } }->wpAny (model X.prog X.w) A mk Q E s) {s0:S} {o0:HO} {e tg iter:Expr} {ifs:List Expr} {gs:List Comprehension} {scope:Scope} {cpos:Pos} {wi:WI} {g:WG} {wc:WT} {b:WB} (ho:∀ (H:Hp) (h:Heap),sysModules < h.objs.size->ObjOk X.prog X.w H (h.push { cls:=.type ty,dict:=none,data:=dat }) h.objs.size o0) (hs0:∀ (F H:Hp) (p:Addr),H p=some o0->SRep X.K F H (.ref p) s0 [p]) (hcl:clausesOf e=⟨tg,iter,ifs,0⟩::gs) (hs:∀ x,foldedSetIterable iter X.env x=pure x)
  (Sc:CompScope X.env.scope scope X.N vars) (hk:vars.length=k) (hi:FI X tg iter wi)
  (hb:∀ (s:Shared) (H:Hp) (ex:List Addr) (D:Addr),PLoop (compCx X scope vars s H ex) e 0 (.ref D) tg (tLoopB (tWG (compCx X scope vars s H ex) (List.range (X.N.length + 1)) g) (tWT (compCx X scope vars s H ex) wc) (tWB (compCx X scope vars s H ex) X.N.length D b)))
  (hq:∀ it acc env,(Code.compLoop e 0 (.ref it) acc env).quiet=true) (hun:∀ it acc env,X.A.under (.compStart e 0 (.ref it) acc env)=X.A)
  (hden:∀ it acc env,(model X.prog X.w).den (.compStart e 0 (.ref it) acc env)=(compStart e 0 (.ref it) acc env).onRaise (fun x=>do noteFrame x env; standAt theWindowsPlace))
  (heq:∀ it acc env,∃ p,compStart e 0 (.ref it) acc env=(ask >>= fun c=>if c.params.followText "comprehension-iter-twice"=true then again (.compLoop e 0 (.ref it) acc env) else
   rule "comprehension.iter-twice" >>= fun _=>standAt p >>= fun _=>pyIter (.ref it) >>= fun it'=>again (.compLoop e 0 it' acc env)))
  {pn:List (Addr×Obj)} {xe:Value->Shared->Prop} (hp:PassesOwn (model X.prog X.w) X.A X.env xe) {pins:List (Addr×Obj)} {s:Shared} {σ:St} {H F G:Hp} {ρ:Env} {P:WQ} {PX:WX} (I:Inv (wp X pn xe) pins σ H s)
  (rel:Rel X.K ρ σ F G H) (hw:wi ρ (fun l ρ1=>bLoop g wc b l (ρ1++some s0::List.replicate k none) (fun ρ2=>need (slot ρ2 X.N.length) fun s=>P (.v s) (ρ2.take X.N.length)) (fun x ρ2=>PX x (ρ2.take X.N.length))) PX) (hx:XC (wp X pn xe) (·=σ) F G PX) {use:Option (Value->Sem Unit)} {Q':Value->Shared->Prop}
  (fin:∀ (D C:Addr) (s4:Shared) (H4 F4:Hp) (m:Str->Option Value) (t:S) (ρ4:Env),s4.heap.Ns C m->Inv (wp X pn xe) pins σ H4 s4->H4 C=none->C≠X.env.locals->X.s₀.heap.objs.size<=C->(∀ x c,X.env.cells.lookup x=some c->c≠C)->(∀ p∈pn++pins,p.1≠C)->
   P (.v t) ρ4->Same F F4->Rel X.K (ρ4++[some t]) (σ++[some (.ref D)]) F4 G H4->compPost (model X.prog X.w) X.A xe use Q' (.ref D) C (.ok .next) s4):
  wpAny (model X.prog X.w) X.A (comprehension e scope X.env cpos mk false (eval iter X.env) use) Q' xe s:=by
 have hi':=hi pn xe hp pins s σ H (fun J H1=>∃ F1 ρ1 l,Same F F1/\Rel X.K ρ1 σ F1 G H1/\ItOk X.K J l F1/\
   bLoop g wc b l (ρ1++some s0::List.replicate k none) (fun ρ2=>need (slot ρ2 X.N.length) fun s=>P (.v s) (ρ2.take X.N.length)) (fun x ρ2=>PX x (ρ2.take X.N.length))) I
  ⟨F,G,ρ,_,PX,rel,hw,fun l ρ1 F1 H1 J hk s1 r1 it=>⟨F1,ρ1,l,s1,r1,it,hk⟩,hx⟩
 have hfree:∀ x∈scope.names,x.2=.free->∃ c,X.env.cells.lookup x.1=some c:=fun x hx hf=>I.ok.has x.1 (Sc.fr x hx hf)
 refine wpAny_comprehension_free (use:=use) hcl hs (zdP hfree) Sc.kind (fun x hx hl=>(zaK Sc.nd).mpr (by obtain ⟨a,b⟩:=x; have hl':b=.local:=hl; subst hl'; exact hx)) (wpAny_mono hi' (fun v s1 h1=>wpAny_mono h1 (fun itv s2 h2=>?_) fun _ _ z=>z) fun _ _ z=>z)
 obtain ⟨it,fp,tn,J,H2,e1,I2,T,st,f,F1,ρ1,l,s1',r1,ito,hk2⟩:=h2
 subst e1
 -- the acc
 refine hmk _ _ _ _ ?_
 generalize hs3:({ s2 with heap:=s2.heap.push { cls:=.type ty,dict:=none,data:=dat } }:Shared)=s3
 have k23:∀ b o,s2.heap.get? b=some o->s3.heap.get? b=some o:=fun b o e=>by rw [<- hs3]; exact qc _ e
 have sz3:s3.heap.objs.size=s2.heap.objs.size + 1:=by rw [<- hs3]; exact Heap.size_push ..
 have hD:H2 s2.heap.objs.size=none:=I2.hok.fresh (le_refl _)
 have I3:Inv (wp X pn xe) pins σ (upd H2 s2.heap.objs.size o0) s3:=by
  rw [<- hs3]
  exact I2.laid (t':=s2.toks) (fun b o e=>qc _ e) (le_refl _) (ho _ _ I2.big)
 have r3:Rel X.K (ρ1++[some s0]) (σ++[some (.ref s2.heap.objs.size)]) F1 G (upd H2 s2.heap.objs.size o0):=r1.newO hD (hs0 _ _ _ zao)
 have fplt:∀ b∈fp,b < s2.heap.objs.size:=fun b hb=>by
  obtain ⟨o,e,_⟩:=T.obj _ _ st b hb
  exact qg e
 have fne:∀ b∈fp,b≠s2.heap.objs.size:=fun b hb=>ne_of_lt (fplt b hb)
 have f3:∀ b∈fp,FpOk (wp X pn xe) pins (upd H2 s2.heap.objs.size o0) b:=fun b hb=>by
  obtain ⟨h1,h2⟩:=f b hb
  exact ⟨by rw [zaj (fne b hb)]; exact h1,h2⟩
 refine zfa fun h' kept hns hcl'=>?_
 have I4:=Inv.comp (X:=wp X pn xe) (ex:=fp) I3 Sc (fun b hb=>⟨f3 b hb,by rw [sz3]; exact Nat.lt_succ_of_lt (fplt b hb)⟩) kept hns hcl' hk (some (.ref s2.heap.objs.size))
 have hσn:(σ++some (.ref s2.heap.objs.size)::List.replicate k none)[X.N.length]?=some (some (.ref s2.heap.objs.size)):=by
  have hl:X.N.length=σ.length:=I2.len.symm
  rw [hl,getElem?_append_right (le_refl _),sub_self]
  rfl
 have r4:Rel X.K (ρ1++some s0::List.replicate k none) (σ++some (.ref s2.heap.objs.size)::List.replicate k none) F1 G (upd H2 s2.heap.objs.size o0):=by
  have:=r3.pushNs k
  simpa using this
 have st4:tn 0 h':=T.keep _ _ _ st fun b hb o e=>kept b o (k23 b o e)
 have f4:∀ b∈fp,FpOk (compCx X scope vars s3 (upd H2 s2.heap.objs.size o0) fp) [] (upd H2 s2.heap.objs.size o0) b:=fun b hb=>by
  obtain ⟨h1,h2,h3,h4,h5,h6⟩:=f3 b hb
  have e:=I4.ok.exf b hb
  exact ⟨h1,e.1,I4.ok.exfs b hb,.inl hb,e.2,fun p hp=>absurd (show p∈([]:List (Addr×Obj)) from hp) (by simp)⟩
 have go:=zdn (hb s3 (upd H2 s2.heap.objs.size o0) fp s2.heap.objs.size) (fun it=>hq it _ _) (fun it=>hun it _ _) (fun it=>hden it _ _) (fun it=>heq it _ _) I4 T st4 f4
  (Q:=fun σ' H'=>∃ F' ρ',need (slot ρ' X.N.length) (fun s=>P (.v s) (ρ'.take X.N.length))/\KP (List.range (X.N.length + 1)) (σ++some (.ref s2.heap.objs.size)::List.replicate k none) σ'/\Same F1 F'/\Rel X.K ρ' σ' F' G H')
  (zf0 ito r4 hσn hk2 fun ρ' σ' F' H' a kp sm r=>⟨F',ρ',a,kp,sm,r⟩)
 refine codeAny_mono go fun r s4 ⟨σ4,H4,er,I5,F4,ρ4,hn4,kp4,sm4,r5⟩=>?_
 subst er
 obtain ⟨m,hm,_⟩:=id I5.loc
 have I6:Inv (wp X pn xe) pins σ H4 s4:=Inv.call' (ch:=fp) I3 I5.os I5.base I5.hok I5.bare fun b hb=>by
  obtain ⟨h1,h2,h3,h4,h5,h6⟩:=f3 b hb
  exact ⟨h4,h2,h5,h6⟩
 -- the block's names go
 obtain ⟨t,et,hP⟩:=zaf hn4
 have hl:X.N.length=σ.length:=I2.len.symm
 have hσ4:σ4[X.N.length]?=some (some (.ref s2.heap.objs.size)):=by rw [kp4 X.N.length (by simp)]; exact hσn
 have eσ:σ4.take X.N.length=σ:=by
  apply ext_getElem?
  intro j
  by_cases hj:j < X.N.length
  ·rw [List.getElem?_take_of_lt hj,kp4 j (by simp; lia),getElem?_append_left (by lia)]
  ·rw [List.getElem?_take_eq_none (not_lt.mp hj),getElem?_eq_none (by lia)]
 have e1:=zcP (zbM et)
 have e2:=zcP hσ4
 rw [e1,e2,eσ] at r5
 have r6:Rel X.K ((ρ4.take X.N.length++[some t])++ρ4.drop (X.N.length + 1)) ((σ++[some (.ref s2.heap.objs.size)])++σ4.drop (X.N.length + 1)) F4 G H4:=by simpa using r5
 have hlt:X.N.length < ρ4.length:=zb9 et
 have ltC:∀ {b:Addr} {o:Obj},s3.heap.get? b=some o->b≠s3.heap.objs.size:=fun e=>ne_of_lt (qg e)
 refine fin s2.heap.objs.size s3.heap.objs.size s4 H4 F4 m t (ρ4.take X.N.length) hm I6 I5.free (Ne.symm (ne_of_lt I3.lt)) I3.sz (fun x c e z=>?_) (fun p hp z=>?_) hP (s1'.trans sm4) (r6.drop (by simp; lia))
 ·obtain ⟨v,o,ho,_⟩:=I3.cell x c e
  exact ltC ho z
 ·exact ltC (I3.pin p hp).1 z
theorem ziI {pn:List (Addr×Obj)} {xe:Value->Shared->Prop} {pins:List (Addr×Obj)} {σ:St} {F G:Hp} {P:WQ} {Q:VK} (hok:∀ r ρ' v F' H',P r ρ'->Same F F'->Rel X.K (ρ'++[slotOf r]) (σ++[some v]) F' G H'->RV σ v r->Q v H'):
  ∀ (D C:Addr) (s4:Shared) (H4 F4:Hp) (m:Str->Option Value) (t:S) (ρ4:Env),s4.heap.Ns C m->Inv (wp X pn xe) pins σ H4 s4->H4 C=none->C≠X.env.locals->X.s₀.heap.objs.size<=C->(∀ x c,X.env.cells.lookup x=some c->c≠C)->(∀ p∈pn++pins,p.1≠C)->
    P (.v t) ρ4->Same F F4->Rel X.K (ρ4++[some t]) (σ++[some (.ref D)]) F4 G H4->compPost (model X.prog X.w) X.A xe none (EP (wp X pn xe) pins σ Q) (.ref D) C (.ok .next) s4:=
 fun D C s4 H4 F4 m t ρ4 hm I n1 n2 n3 n4 n5 hP sm r=>⟨m,hm,fun h'' sb=>⟨.ref D,H4,I.turned (t':=s4.toks) (fun b o hb e=>(sb.2 b hb).trans e) n1 n2 (.inr n3) n4 n5,rfl,hok (.v t) ρ4 _ F4 H4 hP sm r trivial⟩⟩
theorem zlv {ks:List Nat} {i:Nat} {y:Str} {py:Pos} {pn:List (Addr×Obj)} {xe:Value->Shared->Prop} {pins:List (Addr×Obj)} {σ:St} {F G:Hp} {P:WQ} {DD:L2.Ends} {Nx:Env->Prop} (hk:i∉ks) (hN:∀ j,X.N[j]?=some y->j=i) (hi:X.N[i]?=some y) (hy:X.env.scope.names.lookup y=some .local)
  (hP:∀ s ρ,P (.v s) ρ->Nx (ρ.set i (some s))) (hok:∀ ρ' σ' F' H',Nx ρ'->KP ks σ σ'->Same F F'->Rel X.K ρ' σ' F' G H'->DD.nx σ' H'):
  ∀ (D C:Addr) (s4:Shared) (H4 F4:Hp) (m:Str->Option Value) (t:S) (ρ4:Env),s4.heap.Ns C m->Inv (wp X pn xe) pins σ H4 s4->H4 C=none->C≠X.env.locals->X.s₀.heap.objs.size<=C->(∀ x c,X.env.cells.lookup x=some c->c≠C)->(∀ p∈pn++pins,p.1≠C)->
    P (.v t) ρ4->Same F F4->Rel X.K (ρ4++[some t]) (σ++[some (.ref D)]) F4 G H4->compPost (model X.prog X.w) X.A xe (some (assign (.Name y py) X.env)) (fun _ s'=>SP (wp X pn xe) pins DD .next s') (.ref D) C (.ok .next) s4:=
 fun D C s4 H4 F4 m t ρ4 hm I n1 n2 n3 n4 n5 hp sm r=>by
  have hl:=len1 r
  have hiρ:i < ρ4.length:=by rw [hl,I.len]; exact (qi.mp hi).1
  refine wpAny_assign_Name (zeo (X:=wp X pn xe) (v:=.ref D) I hN hi (.inl hy) rfl (fun s5 I5 ⟨a,sb,ha⟩=>?_) (.inr hy))
  have haC:C≠a:=by
   rcases ha with e | e
   ·rw [e]; exact n2
   ·exact Ne.symm (n4 y a e)
  refine ⟨m,hm.sameBut sb haC,fun h'' sb2=>⟨_,H4,I5.turned (t':=s5.toks) (fun b o hb e=>(sb2.2 b hb).trans e) n1 n2 (.inr n3) n4 n5,?_⟩⟩
  exact hok _ _ F4 H4 (hP t ρ4 hp) (KP.set hk) sm (r.store hl hiρ)
theorem zfA {ty:String} {dat:Data} (A:Around) (E:Value->Shared->Prop) (s:Shared) (Q:Value->Shared->Prop) (h:Q (.ref s.heap.objs.size) { s with heap:=s.heap.push { cls:=.type ty,dict:=none,data:=dat } }) (hz:sizeOk dat:=by size_fits):wpAny (model X.prog X.w) A (newObj (.type ty) dat) Q E s:=wpAny_newObj_type h hz
theorem zfs (H:Hp) (h:Heap) (_:sysModules < h.objs.size):ObjOk X.prog X.w H (h.push { cls:=.type "list",dict:=none,data:=.seq ([]:List Value).toArray }) h.objs.size (.lst []):=⟨zero_le _,[],0,.nil,qd _ rfl⟩
theorem zhd (F H:Hp) (p:Addr) (e:H p=some (.lst [])):SRep X.K F H (.ref p) (.lst []) [p]:=.lst e .nil
theorem zds {elt tg iter:Expr} {ifs:List Expr} {scope:Scope} {pos:Pos} {wi:WI} {g:WG} {wc:WT} {we:WE} {n:Nat} (hn:X.N.length=n) (hc:X.calm=true) (Sc:CompScope X.env.scope scope X.N vars) (hk:vars.length=k) (hi:FI X tg iter wi)
  (hg:∀ s H ex,FG (compCx X scope vars s H ex) (List.range (n + 1)) tg g) (ht:∀ s H ex,PIfs (compCx X scope vars s H ex) ifs (tWT (compCx X scope vars s H ex) wc)) (he:∀ s H ex,FE (compCx X scope vars s H ex) elt we)
  (hs:∀ x,foldedSetIterable iter X.env x=pure x:=by intro _; rfl):FE X (.ListComp elt [⟨tg,iter,ifs,0⟩] scope pos) (wLC n k wi g wc (bEmit n we)):=by
 subst hn
 intro pn xe hp pins s σ H Q I q
 show wpAny (model X.prog X.w) X.A (eval (.ListComp elt [⟨tg,iter,ifs,0⟩] scope pos) X.env) (EP (wp X pn xe) pins σ Q) xe s
 rw [eval_ListComp]
 obtain ⟨F,G,ρ,P,PX,rel,hw,hok,hx⟩:=q
 refine zfz (fun A E s Q h=>zfA A E s Q h) (s0:=.lst []) zfs zhd rfl hs Sc hk hi (fun s H ex D=>?_) (fun _ _ _=>rfl) (fun _ _ _=>rfl) (fun _ _ _=>rfl) (fun _ _ _=>⟨_,rfl⟩) hp I rel hw hx (ziI hok)
 exact zbI (X:=compCx X scope vars s H ex) hc rfl (hg s H ex [] (fun _ _=>False) PassesOwn.never) (ht s H ex) (fun _=>(zcU (X:=compCx X scope vars s H ex) rfl (he s H ex)).f) (fun _=>rfl) (fun _=>rfl) (fun _=>rfl) (fun _=>rfl)
theorem zeC {ks:List Nat} {i:Nat} {y:Str} {py spos:Pos} {elt tg iter:Expr} {ifs:List Expr} {scope:Scope} {pos:Pos} {wi:WI} {g:WG} {wc:WT} {we:WE} {n:Nat} (hki:i∉ks) (hN:∀ j,X.N[j]?=some y->j=i) (hiN:X.N[i]?=some y) (hy:X.env.scope.names.lookup y=some .local)
  (hsw:swapsWith (.ListComp elt [⟨tg,iter,ifs,0⟩] scope pos) (some (.Name y py)) spos.line X.env=pure true)
  (hn:X.N.length=n) (hc:X.calm=true) (Sc:CompScope X.env.scope scope X.N vars) (hk:vars.length=k) (hi:FI X tg iter wi)
  (hg:∀ s H ex,FG (compCx X scope vars s H ex) (List.range (n + 1)) tg g) (ht:∀ s H ex,PIfs (compCx X scope vars s H ex) ifs (tWT (compCx X scope vars s H ex) wc)) (he:∀ s H ex,FE (compCx X scope vars s H ex) elt we)
  (hs:∀ x,foldedSetIterable iter X.env x=pure x:=by intro _; rfl):FS X ks (.Assign [.Name y py] (.ListComp elt [⟨tg,iter,ifs,0⟩] scope pos) spos) (wAsg (gName i) (wLC n k wi g wc (bEmit n we))):=by
 subst hn
 intro pn xe hp pins s σ H D I q
 show wpAny (model X.prog X.w) X.A (exec (.Assign [.Name y py] (.ListComp elt [⟨tg,iter,ifs,0⟩] scope pos) spos) X.env) (SP (wp X pn xe) pins D) xe s
 rw [exec_Assign_Name_used _ _ _ _ hsw]
 refine qa (wpAny_standAt (qa ?_))
 obtain ⟨F,G,ρ,E,rel,hw,n,b,c,r,x⟩:=q
 show wpAny _ X.A (do let _ <- comprehension (.ListComp elt [⟨tg,iter,ifs,0⟩] scope pos) scope X.env _ (newList []) false (eval iter X.env) (some (assign (.Name y py) X.env))) _ _ s
 refine qa (wpAny_mono (zfz (fun A E s Q h=>zfA A E s Q h) (s0:=.lst []) (P:=fun r ρ1=>need (give r ρ1) fun p=>gName i p.1 p.2 E.nx) (PX:=E.ex) (g:=g) (wc:=wc) (b:=bEmit X.N.length we) (Q':=fun _ s'=>SP (wp X pn xe) pins D .next s') zfs zhd rfl hs Sc hk hi (fun s H ex D=>?_) (fun _ _ _=>rfl) (fun _ _ _=>rfl) (fun _ _ _=>rfl) (fun _ _ _=>⟨_,rfl⟩) hp I rel hw (x.mono (fun σ2 z=>by rw [z]; exact KP.refl) (Same.refl F) (Same.refl G))
  (zlv (P:=fun r ρ1=>need (give r ρ1) fun p=>gName i p.1 p.2 E.nx) (Nx:=E.nx) hki hN hiN hy (fun s ρ h=>h) n)) (fun _ s' hq=>qb (qb hq)) fun _ _ e=>e)
 exact zbI (X:=compCx X scope vars s H ex) hc rfl (hg s H ex [] (fun _ _=>False) PassesOwn.never) (ht s H ex) (fun _=>(zcU (X:=compCx X scope vars s H ex) rfl (he s H ex)).f) (fun _=>rfl) (fun _=>rfl) (fun _=>rfl) (fun _=>rfl)
set_option maxHeartbeats 4000000 in
theorem zmV {elt tg iter tg2 iter2:Expr} {ifs ifs2:List Expr} {scope:Scope} {pos:Pos} {wi wi2:WI} {g g2:WG} {wc wc2:WT} {we:WE} {n:Nat} (hn:X.N.length=n) (hm:X.A.mark none=X.A) (hc:X.calm=true) (Sc:CompScope X.env.scope scope X.N vars) (hk:vars.length=k) (hi:FI X tg iter wi)
  (hg:∀ s H ex,FG (compCx X scope vars s H ex) (List.range (n + 1)) tg g) (ht:∀ s H ex,PIfs (compCx X scope vars s H ex) ifs (tWT (compCx X scope vars s H ex) wc))
  (hi2:∀ s H ex,FI (compCx X scope vars s H ex) tg2 iter2 wi2) (hg2:∀ s H ex,FG (compCx X scope vars s H ex) (List.range (n + 1)) tg2 g2) (ht2:∀ s H ex,PIfs (compCx X scope vars s H ex) ifs2 (tWT (compCx X scope vars s H ex) wc2))
  (he:∀ s H ex,FE (compCx X scope vars s H ex) elt we)
  (hs:∀ x,foldedSetIterable iter X.env x=pure x:=by intro _; rfl) (hs2:∀ env x,foldedSetIterable iter2 env x=pure x:=by intro _ _; rfl):FE X (.ListComp elt [⟨tg,iter,ifs,0⟩,⟨tg2,iter2,ifs2,0⟩] scope pos) (wLC n k wi g wc (bFor wi2 g2 wc2 (bEmit n we))):=by
 subst hn
 intro pn xe hp pins s σ H Q I q
 show wpAny (model X.prog X.w) X.A (eval (.ListComp elt [⟨tg,iter,ifs,0⟩,⟨tg2,iter2,ifs2,0⟩] scope pos) X.env) (EP (wp X pn xe) pins σ Q) xe s
 rw [eval_ListComp]
 obtain ⟨F,G,ρ,P,PX,rel,hw,hok,hx⟩:=q
 refine zfz (fun A E s Q h=>zfA A E s Q h) (s0:=.lst []) zfs zhd rfl hs Sc hk hi (fun s H ex D=>?_) (fun _ _ _=>rfl) (fun _ _ _=>rfl) (fun _ _ _=>rfl) (fun _ _ _=>⟨_,rfl⟩) hp I rel hw hx (ziI hok)
 have inner:PLoop (compCx X scope vars s H ex) (.ListComp elt [⟨tg,iter,ifs,0⟩,⟨tg2,iter2,ifs2,0⟩] scope pos) 1 (.ref D) tg2 _:=
  zbI (X:=compCx X scope vars s H ex) hc rfl (hg2 s H ex [] (fun _ _=>False) PassesOwn.never) (ht2 s H ex) (fun _=>(zcU (X:=compCx X scope vars s H ex) (n:=X.N.length) rfl (he s H ex)).f) (fun _=>rfl) (fun _=>rfl) (fun _=>rfl) (fun _=>rfl)
 exact zbI (X:=compCx X scope vars s H ex) hc rfl (hg s H ex [] (fun _ _=>False) PassesOwn.never) (ht s H ex) (fun _=>ziW (X:=compCx X scope vars s H ex) rfl (hi2 s H ex) inner (hs2 _) hm (fun _=>rfl) (fun _=>rfl) (fun _=>rfl) (fun _=>⟨_,rfl⟩)) (fun _=>rfl) (fun _=>rfl) (fun _=>rfl) (fun _=>rfl)
end
section
variable {X:Cx} {K:W.Frag}
theorem zca {x:Str} {l:List Nat} (e:x.cps.toList=l):x.length=l.length:=by rw [<- e]; rfl
theorem zkp {x y:Str} {l m:List Nat} (e:x.cps.toList=l) (e':y.cps.toList=m):(x++y).cps.toList=l++m:=by
 show (x.cps++y.cps).toList=_
 rw [toList_append,e,e']
theorem RepE.int {F H:Hp} {v:V} {i:Int} (h:RepE K F H v (.int i)):v=.int i:=by
 rcases h with h | ⟨_,_,_,_,h,_⟩ | ⟨_,_,_,_,_,h,_⟩ | ⟨_,_,_,_,_,h,_⟩
 ·cases h; rfl
 ·cases h
 ·cases h
 ·cases h
theorem RepE.str {F H:Hp} {v:V} {l:List Nat} (h:RepE K F H v (.str l)):∃ x,v=.str x/\x.cps.toList=l/\l.length<=16777216:=by
 rcases h with h | ⟨_,_,_,_,h,_⟩ | ⟨_,_,_,_,_,h,_⟩ | ⟨_,_,_,_,_,h,_⟩
 ·cases h with
  | str e z=>exact ⟨_,rfl,e,z⟩
 ·cases h
 ·cases h
 ·cases h
theorem RepE.tup {F H:Hp} {v:V} {l:List D} (h:RepE K F H v (.tup l)):∃ a xs,v=.ref a/\F a=some (.tup xs)/\Reps K F xs l:=by
 rcases h with h | ⟨_,_,_,_,h,_⟩ | ⟨_,_,_,_,_,h,_⟩ | ⟨_,_,_,_,_,h,_⟩
 ·cases h with
  | tup e r=>exact ⟨_,_,rfl,e,r⟩
 ·cases h
 ·cases h
 ·cases h
theorem RepE.lst {F H:Hp} {v:V} {l:List D} (sm:Same F H) (h:RepE K F H v (.lst l)):∃ a xs,v=.ref a/\SqL K H a xs/\Reps K F xs l:=by
 rcases h with h | ⟨a,xs,ds,e1,h,e2,r⟩ | ⟨_,_,_,_,_,h,_⟩ | ⟨_,_,_,_,_,h,_⟩
 ·cases h with
  | lst e r=>exact ⟨_,_,rfl,SqL.mono sm e,r⟩
 ·cases h
  exact ⟨a,xs,e1,SqL.of e2,r⟩
 ·cases h
 ·cases h
theorem Reps.append {F:Hp} {xs ys:List V} {l m:List D} (a:Reps K F xs l) (r:Reps K F ys m):Reps K F (xs++ys) (l++m):=Reps.ind (P:=fun xs l=>Reps K F (xs++ys) (l++m)) r (fun a _ ih=>.cons a ih) a
theorem Rel.newLD {ρ:Env} {σ:St} {F G H:Hp} {p:Addr} {xs:List V} {l:List D} (r:Rel K ρ σ F G H) (hp:H p=none) (rx:Reps K F xs l):Rel K (ρ++[some (.lst (l.map .sh))]) (σ++[some (.ref p)]) F G (upd H p (.lst xs)):=by
 have sr:∀ {xs:List V} {l:List D},Reps K F xs l->SReps K F (upd H p (.lst xs)) xs (l.map .sh) []:=by
  intro xs l h
  generalize upd H p (.lst xs)=H'
  induction xs generalizing l with
  | nil=>cases h; exact .nil
  | cons x xs ih=>cases h with
    | cons a b=>
      have:=SReps.cons (SRep.sh (H:=H') a) (ih b)
      exact this
 refine r.newO hp (.lst zao ?_)
 have:=sr rx
 exact this
def rCatL (K:W.Frag):R2:=fun x y H Q=>∃ l b xs zs,x=.ref l/\y=.ref b/\SqL K H l xs/\SqL K H b zs/\xs.length + zs.length<=sizeLine/\∀ p,H p=none->Q (.ref p) (upd H p (.lst (xs++zs)))
theorem zkH:OpR X (binaryOp .Add) (rCatL X.K):=by
 intro pins s σ H x y v u Q I rx ry h
 obtain ⟨l,b,xs,zs,rfl,rfl,hl,hb,hz,q⟩:=h
 cases rx
 cases ry
 obtain ⟨its,r1,⟨⟨cls,dd,data,sl⟩,n,ho,hc,hd0,hd⟩,_⟩:=I.list hl
 obtain ⟨its2,r2,⟨⟨cls2,dd2,data2,sl2⟩,n2,ho2,hc2,hd02,hd2⟩,_⟩:=I.list hb
 simp only at hc hd0 hd hc2 hd02 hd2
 subst hc hd0 hd hc2 hd02 hd2
 refine concat_meets ⟨_,ho,rfl⟩ ⟨_,ho2,rfl⟩ noFill_list_add seq_list_add PySem.F.slot_list_add PySem.F.entry_list_add (PySem.F.args_list_add_2 _ _) (list_addW l b its.toArray its2.toArray n n2 none none sl sl2 (by rw [size_toArray,size_toArray,<- r1.length,<- r2.length]; exact hz)) ⟨ho,ho2,?_⟩
 have ea:its.toArray++its2.toArray=(its++its2).toArray:=by simp
 rw [ea]
 exact ⟨.ref _,_,I.lnew (t':=s.toks) (r1.append r2) (by rw [length_append]; exact hz),rfl,q _ I.fresh⟩
def rCatTT (K:W.Frag):R2:=fun x y H Q=>∃ a b xs ys,x=.ref a/\y=.ref b/\SqT K H a xs/\SqT K H b ys/\xs.length + ys.length<=sizeLine/\
 (xs=[]->Q (.ref b) H)/\(xs≠[]->ys=[]->Q (.ref a) H)/\(xs≠[]->ys≠[]->∀ p,H p=none->Q (.ref p) (upd H p (.tup (xs++ys))))
theorem zjU:OpR X (binaryOp .Add) (rCatTT X.K):=by
 intro pins s σ H x y v u Q I rx ry h
 obtain ⟨a,b,xs,ys,rfl,rfl,ha,hb,hz,q0,q1,q2⟩:=h
 by_cases hx:xs=[]
 ·cases rx
  cases ry
  obtain ⟨its,r1,p1,_⟩:=I.tuple ha
  obtain ⟨its2,r2,p2,_⟩:=I.tuple hb
  obtain ⟨⟨cls,dd,data,sl⟩,ho,hc,n,hd⟩:=id p1
  obtain ⟨⟨cls2,dd2,data2,sl2⟩,ho2,hc2,n2,hd2⟩:=id p2
  simp only at hc hd hc2 hd2
  subst hc hd hc2 hd2
  have hi:its=[]:=r1.nil_iff.mpr hx
  exact concat_meets ⟨_,ho,rfl⟩ ⟨_,ho2,rfl⟩ noFill_tuple_add seq_tuple_add PySem.F.slot_tuple_add PySem.F.entry_tuple_add (PySem.F.args_tuple_add_2 _ _)
   (tuple_addW0 a b its.toArray its2.toArray n n2 dd dd2 sl sl2 (by simp [hi])) ⟨ho,ho2,.ref b,H,I,rfl,q0 hx⟩
 ·exact zlt pins s σ H _ _ v u Q I rx ry ⟨a,b,xs,ys,rfl,rfl,ha,hb,hx,hz,q1 hx,q2 hx⟩
def rStrAdd:R2:=fun x y H Q=>∃ i j,x=.str i/\y=.str j/\i.length + j.length<=sizeLine/\Q (.str (i++j)) H
def rAddAll (K:W.Frag):R2:=fun x y H Q=>rI0 (fun i j=>.int (i + j)) x y H Q\/(rStrAdd x y H Q\/(rCatL K x y H Q\/rCatTT K x y H Q))
theorem zhl:OpR X (binaryOp .Add) (rAddAll X.K):=OpR.or zny (OpR.or zgj (OpR.or zkH zjU))
theorem zcn {n:Nat} (h:n<=big):n<=sizeLine:=by rw [sizeLine_eq]; exact le_trans h (by decide)
theorem zi2:Does K (rAddAll K) oAdd:=by
 intro σ ρ F G H x y p q s Q rel ex ey e hq
 unfold oAdd at e
 split at e
 ·cases e
  have h1:=ex.int
  have h2:=ey.int
  subst h1 h2
  exact .inl ⟨_,_,rfl,rfl,hq _ F H (Same.refl F) (rel.push (.int _))⟩
 ·rename_i a b
  split at e
  ·rename_i hz
   cases e
   obtain ⟨x,rfl,e1,z1⟩:=ex.str
   obtain ⟨y,rfl,e2,z2⟩:=ey.str
   refine .inr (.inl ⟨_,_,rfl,rfl,by rw [zca e1,zca e2]; exact zcn hz,hq _ F H (Same.refl F) (rel.push (.str (zkp e1 e2) (by rw [length_append]; exact le_trans hz (by decide))))⟩)
  ·cases e
 ·rename_i a b
  split at e
  ·rename_i hz
   cases e
   obtain ⟨l,xs,rfl,h1,r1⟩:=ex.lst rel.fr
   obtain ⟨m,ys,rfl,h2,r2⟩:=ey.lst rel.fr
   refine .inr (.inr (.inl ⟨l,m,xs,ys,rfl,rfl,h1,h2,by rw [r1.len,r2.len]; exact zcn hz,fun p hp=>?_⟩))
   exact hq _ F _ (Same.refl F) (rel.newLD hp (r1.append r2))
  ·cases e
 ·rename_i a b
  split at e
  ·rename_i hz
   cases e
   obtain ⟨l,xs,rfl,h1,r1⟩:=ex.tup
   obtain ⟨m,ys,rfl,h2,r2⟩:=ey.tup
   refine .inr (.inr (.inr ⟨l,m,xs,ys,rfl,rfl,SqT.of (rel.fr _ _ h1),SqT.of (rel.fr _ _ h2),by rw [r1.len,r2.len]; exact zcn hz,fun hx=>?_,fun _ hy=>?_,fun _ _ p hp=>?_⟩))
   ·subst hx
    cases r1
    exact hq _ F H (Same.refl F) (rel.push (.tup h2 r2))
   ·subst hy
    cases r2
    rw [append_nil] at hq
    exact hq _ F H (Same.refl F) (rel.push (.tup h1 r1))
   ·have n2:=(rel.free hp).1
    exact hq _ _ _ (Same.upd n2) ((rel.newF hp).push (.tup zao ((r1.append r2).mono (Same.upd n2))))
  ·cases e
 ·cases e
theorem zb0 {C:Int->Int->Prop} {g:Int->Int->Int} {o:D->D->Option S} (ho:∀ p q s,o p q=some s->∃ i j,p=.int i/\q=.int j/\C i j/\s=.sh (.int (g i j))):Does K (rI C fun i j=>.int (g i j)) o:=by
 intro σ ρ F G H x y p q s Q rel ex ey e hq
 obtain ⟨i,j,rfl,rfl,hc,rfl⟩:=ho p q s e
 have h1:=ex.int
 have h2:=ey.int
 subst h1 h2
 exact ⟨i,j,rfl,rfl,hc,hq _ F H (Same.refl F) (rel.push (.int _))⟩
theorem zjj:Does K (rI (fun _ _=>True) fun i j=>.int (i - j)) oSub:=zb0 fun p q s e=>by
 unfold oSub at e
 split at e
 ·cases e; exact ⟨_,_,rfl,rfl,trivial,rfl⟩
 ·cases e
theorem zlF:OpR X (binaryOp .Sub) (rI (fun _ _=>True) fun i j=>.int (i - j)):=opI fun _ _ _ _ _ _ _ _ q=>sub_int q
theorem zjA:Does K (rI CMul fun i j=>.int (i * j)) oMul:=zb0 fun p q s e=>by
 unfold oMul at e
 split at e
 ·rename_i i j
  split at e
  ·rename_i h
   cases e
   refine ⟨_,_,rfl,rfl,?_,rfl⟩
   simp only [mulOk,or_eq_true,and_eq_true,decide_eq_true_eq] at h
   exact h
  ·cases e
 ·cases e
theorem zjM:Does K (rI (fun _ j=>0 < j) fun i j=>.int (i % j)) oMod:=zb0 fun p q s e=>by
 unfold oMod at e
 split at e
 ·split at e
  ·rename_i h; cases e; exact ⟨_,_,rfl,rfl,h,rfl⟩
  ·cases e
 ·cases e
theorem zjx:Does K (rI CPow fun i j=>.int (i ^ j.toNat)) oPow:=zb0 fun p q s e=>by
 unfold oPow at e
 split at e
 ·split at e
  ·rename_i h; cases e; exact ⟨_,_,rfl,rfl,⟨h.1,by lia,h.2.2⟩,rfl⟩
  ·cases e
 ·cases e
def CDivB (i j:Int):Prop:=0 < j/\j < 18446744073709551616
theorem zjn:OpR X (binaryOp .FloorDiv) (rI CDivB fun i j=>.int (i / j)):=opI fun i j _ _ _ _ _ hc q=>by
 have h1:(0:Int) < j:=hc.1
 have h2:j < 18446744073709551616:=hc.2
 refine floordiv_int (by lia) ?_ (.inl (PyProof.noPylong_of_log2 ?_))
 ·rw [Int.fdiv_eq_ediv_of_nonneg _ (by lia)]; exact q
 ·have h0:j.natAbs≠0:=by lia
  have:j.natAbs.log2 < 64:=(Nat.log2_lt h0).mpr (by lia)
  lia
theorem zhH:Does K (rI CDivB fun i j=>.int (i / j)) oFdiv:=zb0 fun p q s e=>by
 unfold oFdiv at e
 split at e
 ·split at e
  ·rename_i h; cases e; exact ⟨_,_,rfl,rfl,h,rfl⟩
  ·cases e
 ·cases e
end
section
variable {X:Cx} {a b:Expr} {wa wb:WE} {pos:Pos}
theorem zai (ha:FE X a wa) (hb:FE X b wb):FE X (.BinOp a .Add b pos) (wBin oAdd wa wb):=zdj (fun _ _=>zhl) zi2 ha hb
theorem zaZ (ha:FE X a wa) (hb:FE X b wb):FE X (.BinOp a .Sub b pos) (wBin oSub wa wb):=zdj (fun _ _=>zlF) zjj ha hb
theorem zcl (ha:FE X a wa) (hb:FE X b wb):FE X (.BinOp a .Mod b pos) (wBin oMod wa wb):=zdj (fun _ _=>znK) zjM ha hb
theorem ziJ (ha:FE X a wa) (hb:FE X b wb):FE X (.BinOp a .FloorDiv b pos) (wBin oFdiv wa wb):=zdj (fun _ _=>zjn) zhH ha hb
theorem znn (ha:FE X a wa) (hb:FE X b wb):FE X (.BinOp a .Pow b pos) (wBin oPow wa wb):=zdj (fun _ _=>zmA) zjx ha hb
end
section
variable {X:Cx} {pins:List (Addr×Obj)} {σ:St} {H:Hp} {s:Shared}
open PySem.SeqAt
theorem zhp {l m:List D} (h:clash (.tup l) (.tup m)=false):clashs l m=false:=h
theorem zbN:∀ {l m:List D} {j:Nat} {a b:D},clashs l m=false->l[j]?=some a->m[j]?=some b->clash a b=false
 | [],_,_,_,_,_,h,_=>by simp at h
 | _::_,[],_,_,_,_,_,h=>by simp at h
 | x::l,y::m,0,a,b,h,h1,h2=>by
   simp at h1 h2
   subst h1 h2
   have h':(clash x y || clashs l m)=false:=h
   rw [or_eq_false_iff] at h'
   exact h'.1
 | x::l,y::m,j + 1,a,b,h,h1,h2=>by
   have h':(clash x y || clashs l m)=false:=h
   rw [or_eq_false_iff] at h'
   exact zbN h'.2 (by simpa using h1) (by simpa using h2)
theorem zdY:∀ {l:List D} {j:Nat} {a:D},l[j]?=some a->dep a<=deps l
 | [],_,_,h=>by simp at h
 | x::l,0,a,h=>by
   simp at h
   subst h
   show dep x<=max (dep x) (deps l)
   lia
 | x::l,j + 1,a,h=>by
   have:=zdY (l:=l) (j:=j) (a:=a) (by simpa using h)
   show dep a<=max (dep x) (deps l)
   lia
open Classical in
theorem zfJ {l m:List D} (n:Nat) (hn:n=min l.length m.length):((List.range n).all (fun j=>decide (l[j]?=m[j]?)) && (l.length == m.length))=decide (l=m):=by
 by_cases h:l=m
 ·subst h
  simp
 ·rw [decide_eq_false h]
  by_cases hl:l.length=m.length
  ·have:(List.range n).all (fun j=>decide (l[j]?=m[j]?))=false:=by
    cases q:(List.range n).all (fun j=>decide (l[j]?=m[j]?)) with
    | false=>rfl
    | true=>
      exfalso
      apply h
      apply ext_getElem?
      intro j
      by_cases hj:j < n
      ·exact of_decide_eq_true (all_eq_true.mp q j (by simpa using hj))
      ·rw [getElem?_eq_none (by lia),getElem?_eq_none (by lia)]
   rw [this]; rfl
  ·have:(l.length == m.length)=false:=by simpa using hl
   rw [this,Bool.and_false]
inductive Sc:V->D->Prop
 | non:Sc .non .non
 | bl (b:Bool):Sc (.bl b) (.bl b)
 | int (i:Int):Sc (.int i) (.int i)
 | str {x:Str} {l:List Nat}:x.cps.toList=l->Sc (.str x) (.str l)
theorem znS {K:W.Frag} {v:V} {d e:D} (r:Rep K H v d) (hc:clash d e=false) (h1:∀ l,d≠.tup l) (h2:∀ l,d≠.lst l):Sc v d:=by
 cases r with
 | tup=>exact absurd rfl (h1 _)
 | lst=>exact absurd rfl (h2 _)
 | dK=>cases e <;> cases hc
 | dT=>cases e <;> cases hc
 | st=>cases e <;> cases hc
 | non=>exact .non
 | bl=>exact .bl _
 | int=>exact .int _
 | str e _=>exact .str e
theorem zj8 {K:W.Frag} {v u:V} {d e:D} (r:Rep K H u e) (s:Sc v d) (hc:clash d e=false):Sc u e:=by
 cases r with
 | non=>exact .non
 | bl=>exact .bl _
 | int=>exact .int _
 | str e _=>exact .str e
 | _=>cases s <;> cases hc
open Classical in
theorem ze8 {K:W.Frag} {A:Around} {v u:V} {vv uu:Value} {d e:D} (r1:Rep K H v d) (r2:Rep K H u e) (rv:RelV v vv) (ru:RelV u uu) (hc:clash d e=false) (h1:∀ l,d≠.tup l) (h2:∀ l,d≠.lst l):
  EqAt A s vv uu (decide (d=e))/\RcAt A s vv uu (decide (d=e)):=by
 have s1:=znS r1 hc h1 h2
 have s2:=zj8 r2 s1 hc
 clear r1 r2 h1 h2
 cases s1 with
 | non=>
   cases rv
   cases s2 with
   | non=>cases ru; simp; exact ⟨EqAt.same _,RcAt.none_none⟩
   | bl b=>cases ru; simp; exact ⟨EqAt.none_bool _,RcAt.none_bool _⟩
   | int i=>obtain ⟨t,rfl⟩:=ru; simp; exact ⟨EqAt.none_int _ _,RcAt.none_int _ _⟩
   | str e=>obtain ⟨t,rfl⟩:=ru; simp; exact ⟨EqAt.none_str _ _,RcAt.none_str _ _⟩
 | bl a=>
   cases rv
   cases s2 with
   | non=>cases ru; simp; exact ⟨EqAt.bool_none _,RcAt.bool_none _⟩
   | bl b=>
     cases ru
     have e:(decide (D.bl a=D.bl b))=(a == b):=by cases a <;> cases b <;> simp
     rw [e]; exact ⟨EqAt.bool_bool _ _,RcAt.bool_bool _ _⟩
   | str e=>obtain ⟨t,rfl⟩:=ru; simp; exact ⟨EqAt.bool_str _ _ _,RcAt.bool_str _ _ _⟩
   | int=>cases hc
 | int i=>
   obtain ⟨t,rfl⟩:=rv
   cases s2 with
   | non=>cases ru; simp; exact ⟨EqAt.int_none _ _,RcAt.int_none _ _⟩
   | int j=>
     obtain ⟨t',rfl⟩:=ru
     have e:(decide (D.int i=D.int j))=(i == j):=by by_cases h:i=j <;> simp [h]
     rw [e]; exact ⟨EqAt.int_int _ _ _ _,RcAt.int_int _ _ _ _⟩
   | str e=>obtain ⟨t',rfl⟩:=ru; simp; exact ⟨EqAt.int_str _ _ _ _,RcAt.int_str _ _ _ _⟩
   | bl=>cases hc
 | str e1=>
   obtain ⟨t,rfl⟩:=rv
   cases s2 with
   | non=>cases ru; simp; exact ⟨EqAt.str_none _ _,RcAt.str_none _ _⟩
   | bl b=>cases ru; simp; exact ⟨EqAt.str_bool _ _ _,RcAt.str_bool _ _ _⟩
   | int j=>obtain ⟨t',rfl⟩:=ru; simp; exact ⟨EqAt.str_int _ _ _ _,RcAt.str_int _ _ _ _⟩
   | str e2=>
     obtain ⟨t',rfl⟩:=ru
     rename_i x l y m
     have e:(decide (D.str l=D.str m))=(x == y):=by
      by_cases h:x=y
      ·subst h
       rw [<- e1,<- e2]; simp
      ·have hb:(x == y)=false:=by simpa using h
       rw [hb]
       refine decide_eq_false fun q=>h ?_
       obtain ⟨⟨a⟩⟩:=x
       obtain ⟨⟨b⟩⟩:=y
       have a1:a=l:=e1
       have b1:b=m:=e2
       rw [a1,b1,D.str.inj q]
     rw [e]; exact ⟨EqAt.str_str _ _ _ _,RcAt.str_str _ _ _ _⟩
theorem zaQ {xs:List V} {us:List Value} {j:Nat} (r:Vals xs us) (h:j < us.toArray.size):∃ x,xs[j]?=some x/\RelV x us.toArray[j]:=by
 have hl:=r.length
 have hj:j < us.length:=by simpa using h
 have hj':j < xs.length:=by lia
 obtain ⟨u,hu,ru⟩:=r.get (i:=j) (x:=xs[j]) (by simp [hj'])
 refine ⟨xs[j],by simp [hj'],?_⟩
 have:us.toArray[j]=u:=by
  have:=qi.mp hu
  simpa using this.2
 rw [this]; exact ru
mutual
theorem Rep.uniq (I:Inv X pins σ H s) {v:V} {d e:D} (r:Rep X.K H v d) (q:Rep X.K H v e) (hc:clash d e=false):d=e:=by
 cases r with
 | non=>cases q; rfl
 | bl _=>cases q; rfl
 | int _=>cases q; rfl
 | str e1 _=>cases q with | str e2 _=>rw [<- e1,<- e2]
 | tup e1 r1=>cases q with
   | tup e2 r2=>
     cases I.tuple_inj (SqT.of e1) (SqT.of e2)
     rw [Reps.uniq I r1 r2 hc]
   | _=>cases hc
 | lst e1 r1=>cases q with
   | lst e2 r2=>
     cases I.list_inj e1 e2
     rw [Reps.uniq I r1 r2 hc]
   | _=>cases hc
 | dK=>cases e <;> cases hc
 | dT=>cases e <;> cases hc
 | st=>cases e <;> cases hc
theorem Reps.uniq (I:Inv X pins σ H s) {v:List V} {d e:List D} (r:Reps X.K H v d) (q:Reps X.K H v e) (hc:clashs d e=false):d=e:=by
 cases r with
 | nil=>cases q; rfl
 | @cons _ a _ l a1 b1=>cases q with
   | @cons _ b _ m a2 b2=>
     have h':(clash a b || clashs l m)=false:=hc
     rw [or_eq_false_iff] at h'
     rw [Rep.uniq I a1 a2 h'.1,Reps.uniq I b1 b2 h'.2]
end
open Classical in
theorem zkx:∀ (n:Nat) {A:Around} {v u:V} {vv uu:Value} {d e:D},dep d<=n->Inv X pins σ H s->Rep X.K H v d->Rep X.K H u e->RelV v vv->RelV u uu->clash d e=false->A.units + n < cLine->
  EqAt A s vv uu (decide (d=e))/\RcAt A s vv uu (decide (d=e)):=by
 intro n
 induction n with
 | zero=>
   intro A v u vv uu d e hd I r1 r2 rv ru hc hu
   exact ze8 r1 r2 rv ru hc (fun l z=>by subst z; exact absurd hd (by show ¬ deps l + 1<=0; lia)) (fun l z=>by subst z; exact absurd hd (by show ¬ deps l + 1<=0; lia))
 | succ n ih=>
   intro A v u vv uu d e hd I r1 r2 rv ru hc hu
   have hin:A.in1.units + n < cLine:=by show A.units + 1 + n < cLine; lia
   cases r1 with
   | tup e1 q1=>
     cases r2 with
     | tup e2 q2=>
       rename_i a xs l b ys m
       cases rv
       cases ru
       obtain ⟨its,w1,p1,_⟩:=I.tuple (SqT.of e1)
       obtain ⟨its2,w2,p2,_⟩:=I.tuple (SqT.of e2)
       have hdl:deps l<=n:=by have:deps l + 1<=n + 1:=hd; lia
       have el1:its.toArray.size=l.length:=by rw [size_toArray,<- w1.length,q1.len]
       have el2:its2.toArray.size=m.length:=by rw [size_toArray,<- w2.length,q2.len]
       have items:∀ j (h1:j < its.toArray.size) (h2:j < its2.toArray.size),EqAt A.in1 s its.toArray[j] its2.toArray[j] (decide (l[j]?=m[j]?)):=fun j h1 h2=>by
        obtain ⟨x,hx,rx⟩:=zaQ w1 h1
        obtain ⟨y,hy,ry⟩:=zaQ w2 h2
        have hj1:j < l.length:=by lia
        have hj2:j < m.length:=by lia
        obtain ⟨x',hx',rp1⟩:=q1.get (i:=j) (d:=l[j]) (by simp [hj1])
        obtain ⟨y',hy',rp2⟩:=q2.get (i:=j) (d:=m[j]) (by simp [hj2])
        rw [hx] at hx'; cases hx'
        rw [hy] at hy'; cases hy'
        have:=(ih (A:=A.in1) (le_trans (zdY (l:=l) (j:=j) (by simp [hj1])) hdl) I rp1 rp2 rx ry (zbN (j:=j) (a:=l[j]) (b:=m[j]) (zhp hc) (by simp [hj1]) (by simp [hj2])) hin).1
        have e:decide (l[j]?=m[j]?)=decide (l[j]=m[j]):=by simp [hj1,hj2]
        rw [e]; exact this
       have hrc:RcAt A s (.ref a) (.ref b) (decide (D.tup l=D.tup m)):=by
        have:=RcAt.tuples (s:=s) (show s.heap.IsTuple a its.toArray from p1) (show s.heap.IsTuple b its2.toArray from p2) (by lia) items
        rw [el1,el2,zfJ (l:=l) (m:=m) _ rfl] at this
        have e:decide (D.tup l=D.tup m)=decide (l=m):=by by_cases h:l=m <;> simp [h]
        rw [e]; exact this
       refine ⟨?_,hrc⟩
       by_cases hab:a=b
       ·subst hab
        have hxy:l=m:=by
         have z:=Rep.uniq I (.tup e1 q1) (.tup e2 q2) hc
         cases z; rfl
        subst hxy
        simp
        exact EqAt.same _
       ·exact EqAt.of_refs hab hrc
     | _=>cases hc
   | lst e1 q1=>
     cases r2 with
     | lst e2 q2=>
       rename_i a xs l b ys m
       cases rv
       cases ru
       obtain ⟨its,w1,p1,_⟩:=I.list e1
       obtain ⟨its2,w2,p2,_⟩:=I.list e2
       have hdl:deps l<=n:=by have:deps l + 1<=n + 1:=hd; lia
       have el1:its.toArray.size=l.length:=by rw [size_toArray,<- w1.length,q1.len]
       have el2:its2.toArray.size=m.length:=by rw [size_toArray,<- w2.length,q2.len]
       have items:∀ j (h1:j < its.toArray.size) (h2:j < its2.toArray.size),EqAt A.in1 s its.toArray[j] its2.toArray[j] (decide (l[j]?=m[j]?)):=fun j h1 h2=>by
        obtain ⟨x,hx,rx⟩:=zaQ w1 h1
        obtain ⟨y,hy,ry⟩:=zaQ w2 h2
        have hj1:j < l.length:=by lia
        have hj2:j < m.length:=by lia
        obtain ⟨x',hx',rp1⟩:=q1.get (i:=j) (d:=l[j]) (by simp [hj1])
        obtain ⟨y',hy',rp2⟩:=q2.get (i:=j) (d:=m[j]) (by simp [hj2])
        rw [hx] at hx'; cases hx'
        rw [hy] at hy'; cases hy'
        have hc':clashs l m=false:=hc
        have:=(ih (A:=A.in1) (le_trans (zdY (l:=l) (j:=j) (by simp [hj1])) hdl) I rp1 rp2 rx ry (zbN (j:=j) (a:=l[j]) (b:=m[j]) hc' (by simp [hj1]) (by simp [hj2])) hin).1
        have e:decide (l[j]?=m[j]?)=decide (l[j]=m[j]):=by simp [hj1,hj2]
        rw [e]; exact this
       have hrc:RcAt A s (.ref a) (.ref b) (decide (D.lst l=D.lst m)):=by
        have e:decide (D.lst l=D.lst m)=decide (l=m):=by by_cases h:l=m <;> simp [h]
        rw [e]
        by_cases hlen:l.length=m.length
        ·have:=RcAt.lists (s:=s) p1.isList p2.isList (by lia) (by lia) items
         rw [el1] at this
         have e2:=zfJ (l:=l) (m:=m) l.length (by lia)
         have e3:(l.length == m.length)=true:=by simpa using hlen
         rw [e3,Bool.and_true] at e2
         rw [<- e2]; exact this
        ·have:=RcAt.lists_lengths (A:=A) (s:=s) p1.isList p2.isList (by simp only [el1,el2]; simpa using hlen) (by lia)
         have e2:decide (l=m)=false:=decide_eq_false fun z=>hlen (by rw [z])
         rw [e2]; exact this
       refine ⟨?_,hrc⟩
       by_cases hab:a=b
       ·subst hab
        have hxy:l=m:=by
         have z:=Rep.uniq I (.lst e1 q1) (.lst e2 q2) hc
         cases z; rfl
        subst hxy
        simp
        exact EqAt.same _
       ·exact EqAt.of_refs hab hrc
     | _=>cases hc
   | _=>exact ze8 (by first | exact .non | exact .bl _ | exact .int _ | (rename_i e z; exact .str e z) | (rename_i e k r; exact .dK e k r) | (rename_i e k r; exact .dT e k r) | (rename_i e r; exact .st e r)) r2 rv ru hc (fun l z=>by cases z) (fun l z=>by cases z)
end
section
variable {X:Cx} {K:W.Frag}
open PySem.SeqAt
open Classical in
def rEqD (K:W.Frag):R2:=fun x y H Q=>∃ p q,Rep K H x p/\Rep K H y q/\clash p q=false/\dep p<=30/\Q (.bl (decide (p=q))) H
theorem zaz (hu:X.A.units + 31 < cLine):OpR X (compareOp .Eq) (rEqD X.K):=by
 intro pins s σ H x y v u Q I rx ry h
 obtain ⟨p,q,r1,r2,hc,hd,hq⟩:=h
 exact (zkx 30 hd I r1 r2 rx ry hc (by lia)).2 X.prog X.w X.xe _ ⟨.bl _,H,I,rfl,hq⟩
theorem zkc {p q:D} {k:Bool} (h:cEq p q=some k):clash p q=false/\dep p<=30:=by
 unfold cEq at h
 split at h
 ·cases h
 ·rename_i h1
  simp at h1
  exact ⟨h1.1,h1.2⟩
open Classical in
theorem zg2 {p q:D} {k:Bool} (h:cEq p q=some k):k=decide (p=q):=by
 unfold cEq at h
 split at h
 ·cases h
 ·exact (qh h).symm
theorem zau:DoesC K (rEqD K) cEq:=by
 intro H x y p q k Q r1 r2 e hq
 obtain ⟨h1,h2⟩:=zkc e
 have:=zg2 e
 subst this
 exact ⟨p,q,r1,r2,h1,h2,hq⟩
open Classical in
def rNeD (K:W.Frag):R2:=fun x y H Q=>∃ p q,Rep K H x p/\Rep K H y q/\clash p q=false/\dep p<=30/\Q (.bl (!decide (p=q))) H
theorem zfO {pins:List (Addr×Obj)} {s:Shared} {σ:St} {H:Hp} {A:Around} {xs ys:List V} {us ws:List Value} {l m:List D} (I:Inv X pins σ H s) (q1:Reps X.K H xs l) (q2:Reps X.K H ys m) (w1:Vals xs us) (w2:Vals ys ws) (hc:clashs l m=false) (hd:deps l<=30) (hu:A.units + 30 < cLine):
  ∀ j (h1:j < us.toArray.size) (h2:j < ws.toArray.size),EqAt A s us.toArray[j] ws.toArray[j] (open Classical in decide (l[j]?=m[j]?)):=fun j h1 h2=>by
 obtain ⟨x,hx,rx⟩:=zaQ w1 h1
 obtain ⟨y,hy,ry⟩:=zaQ w2 h2
 have el1:us.toArray.size=l.length:=by rw [size_toArray,<- w1.length,q1.len]
 have el2:ws.toArray.size=m.length:=by rw [size_toArray,<- w2.length,q2.len]
 have hj1:j < l.length:=by lia
 have hj2:j < m.length:=by lia
 obtain ⟨x',hx',rp1⟩:=q1.get (i:=j) (d:=l[j]) (by simp [hj1])
 obtain ⟨y',hy',rp2⟩:=q2.get (i:=j) (d:=m[j]) (by simp [hj2])
 rw [hx] at hx'; cases hx'
 rw [hy] at hy'; cases hy'
 have:=(zkx 30 (A:=A) (le_trans (zdY (l:=l) (j:=j) (by simp [hj1])) hd) I rp1 rp2 rx ry (zbN (j:=j) (a:=l[j]) (b:=m[j]) hc (by simp [hj1]) (by simp [hj2])) hu).1
 have e:(open Classical in decide (l[j]?=m[j]?))=(open Classical in decide (l[j]=m[j])):=by simp [hj1,hj2]
 rw [e]; exact this
theorem kindD (p:D):(∃ l,p=.tup l)\/(∃ l,p=.lst l)\/((∀ l,p≠.tup l)/\∀ l,p≠.lst l):=by
 cases p with
 | tup l=>exact .inl ⟨l,rfl⟩
 | lst l=>exact .inr (.inl ⟨l,rfl⟩)
 | _=>exact .inr (.inr ⟨fun l z=>D.noConfusion z,fun l z=>D.noConfusion z⟩)
theorem zlD {l:List D} {q:D} (h:clash (.tup l) q=false):∃ m,q=.tup m:=by
 cases q with
 | tup m=>exact ⟨m,rfl⟩
 | _=>cases h
theorem zkS {l:List D} {q:D} (h:clash (.lst l) q=false):∃ m,q=.lst m:=by
 cases q with
 | lst m=>exact ⟨m,rfl⟩
 | _=>cases h
theorem zlH {K:W.Frag} {H:Hp} {x y:V} {p q:D} (r1:Rep K H x p) (r2:Rep K H y q) (hc:clash p q=false) (h1:∀ l,p≠.tup l) (h2:∀ l,p≠.lst l):scal x y=true/\(p=q↔x=y):=by
 have s1:=znS r1 hc h1 h2
 have s2:=zj8 r2 s1 hc
 clear r1 r2 h1 h2
 cases s1 with
 | str e1=>
   cases s2 with
   | str e2=>
     rename_i x l y m
     refine ⟨rfl,fun z=>?_,fun z=>?_⟩
     ·obtain ⟨⟨a⟩⟩:=x
      obtain ⟨⟨b⟩⟩:=y
      have a1:a=l:=e1
      have b1:b=m:=e2
      rw [a1,b1,D.str.inj z]
     ·cases z
      rw [<- e1,<- e2]
   | _=>exact ⟨rfl,fun z=>D.noConfusion z,fun z=>V.noConfusion z⟩
 | _=>cases s2 <;> first | exact ⟨rfl,fun z=>D.noConfusion z,fun z=>V.noConfusion z⟩ | exact ⟨rfl,fun z=>by cases z; rfl,fun z=>by cases z; rfl⟩ | cases hc
theorem zb1 (hu:X.A.units + 32 < cLine):OpR X (compareOp .NotEq) (rNeD X.K):=by
 classical
 intro pins s σ H x y v u Q I rx ry h
 obtain ⟨p,q,r1,r2,hc,hd,hq⟩:=h
 have fin:EP X pins σ Q (.bool (!decide (p=q))) s:=⟨.bl _,H,I,rfl,hq⟩
 have hin:X.A.in1.units + 30 < cLine:=by show X.A.units + 1 + 30 < cLine; lia
 rcases kindD p with ⟨l,rfl⟩ | ⟨l,rfl⟩ | ⟨n1,n2⟩
 ·obtain ⟨m,rfl⟩:=zlD hc
  cases r1 with
  | tup e1 q1=>
  cases r2 with
  | tup e2 q2=>
    rename_i a xs b ys
    cases rx
    cases ry
    obtain ⟨its,w1,p1,_⟩:=I.tuple (SqT.of e1)
    obtain ⟨its2,w2,p2,_⟩:=I.tuple (SqT.of e2)
    have hdl:deps l<=30:=by have:deps l + 1<=30:=hd; lia
    have el1:its.toArray.size=l.length:=by rw [size_toArray,<- w1.length,q1.len]
    have el2:its2.toArray.size=m.length:=by rw [size_toArray,<- w2.length,q2.len]
    have:=RcNeAt.tuples (A:=X.A) (s:=s) (show s.heap.IsTuple a its.toArray from p1) (show s.heap.IsTuple b its2.toArray from p2) (by lia) (zfO I q1 q2 w1 w2 hc hdl hin)
    rw [el1,el2,zfJ (l:=l) (m:=m) _ rfl] at this
    have e:decide (D.tup l=D.tup m)=decide (l=m):=by by_cases h:l=m <;> simp [h]
    rw [e] at fin
    exact this X.prog X.w X.xe _ fin
 ·obtain ⟨m,rfl⟩:=zkS hc
  cases r1 with
  | lst e1 q1=>
  cases r2 with
  | lst e2 q2=>
    rename_i a xs b ys
    cases rx
    cases ry
    obtain ⟨its,w1,p1,_⟩:=I.list e1
    obtain ⟨its2,w2,p2,_⟩:=I.list e2
    have hdl:deps l<=30:=by have:deps l + 1<=30:=hd; lia
    have el1:its.toArray.size=l.length:=by rw [size_toArray,<- w1.length,q1.len]
    have el2:its2.toArray.size=m.length:=by rw [size_toArray,<- w2.length,q2.len]
    have e:decide (D.lst l=D.lst m)=decide (l=m):=by by_cases h:l=m <;> simp [h]
    rw [e] at fin
    by_cases hlen:l.length=m.length
    ·have:=RcNeAt.lists (A:=X.A) (s:=s) p1.isList p2.isList (by lia) (by lia) (zfO I q1 q2 w1 w2 hc hdl hin)
     rw [el1] at this
     have e2:=zfJ (l:=l) (m:=m) l.length (by lia)
     have e3:(l.length == m.length)=true:=by simpa using hlen
     rw [e3,Bool.and_true] at e2
     rw [<- e2] at fin
     exact this X.prog X.w X.xe _ fin
    ·have:=RcNeAt.lists_lengths (A:=X.A) (s:=s) p1.isList p2.isList (by simp only [el1,el2]; simpa using hlen) (by lia)
     have e2:decide (l=m)=false:=decide_eq_false fun z=>hlen (by rw [z])
     rw [e2] at fin
     exact this X.prog X.w X.xe _ fin
 ·obtain ⟨h1,h2⟩:=zlH r1 r2 hc n1 n2
  rw [decide_eq_decide.mpr h2] at hq
  exact zpt pins s σ H x y v u Q I rx ry ⟨h1,hq⟩
theorem za3:DoesC K (rNeD K) cNe:=by
 intro H x y p q k Q r1 r2 e hq
 unfold cNe at e
 cases q1:cEq p q with
 | none=>rw [q1] at e; cases e
 | some b=>
   rw [q1] at e
   have e':(!b)=k:=qh e
   obtain ⟨h1,h2⟩:=zkc q1
   have:=zg2 q1
   subst this
   subst e'
   exact ⟨p,q,r1,r2,h1,h2,hq⟩
def rOrd (f:Int->Int->Bool) (g:List Nat->List Nat->Bool):R2:=fun x y H Q=>(∃ i j,x=.int i/\y=.int j/\Q (.bl (f i j)) H)\/∃ i j,x=.str i/\y=.str j/\Q (.bl (g i.cps.toList j.cps.toList)) H
theorem zdS {op:CmpOp} {g:List Nat->List Nat->Bool} (rule:∀ (i j:Str) (t u:Tok) (s:Shared) (Q:Value->Shared->Prop) (E:Value->Shared->Prop),Q (.bool (g i.cps.toList j.cps.toList)) s->wpAny (model X.prog X.w) X.A (compareOp op (.str i t) (.str j u)) Q E s):
  OpR X (compareOp op) (fun x y H Q=>∃ i j,x=.str i/\y=.str j/\Q (.bl (g i.cps.toList j.cps.toList)) H):=by
 intro pins s σ H x y v u Q I rx ry h
 obtain ⟨i,j,rfl,rfl,q⟩:=h
 obtain ⟨t,rfl⟩:=rx
 obtain ⟨t',rfl⟩:=ry
 exact rule i j t t' s _ _ ⟨.bl _,H,I,rfl,q⟩
theorem zcG:OpR X (compareOp .Lt) (rOrd (fun i j=>decide (i < j)) fun l m=>decide (l < m)):=FL.OpR.or zoK (zdS (g:=fun l m=>decide (l < m)) fun _ _ _ _ _ _ _ q=>PyProof.Rows.lt_str q)
theorem zl8:OpR X (compareOp .LtE) (rOrd (fun i j=>decide (i<=j)) fun l m=>!decide (m < l)):=FL.OpR.or zpi (zdS (g:=fun l m=>!decide (m < l)) fun _ _ _ _ _ _ _ q=>PySem.P.le_str q)
theorem zdd:OpR X (compareOp .Gt) (rOrd (fun i j=>decide (j < i)) fun l m=>decide (m < l)):=FL.OpR.or zqK (zdS (g:=fun l m=>decide (m < l)) fun _ _ _ _ _ _ _ q=>PySem.P.gt_str q)
theorem zhq:OpR X (compareOp .GtE) (rOrd (fun i j=>decide (j<=i)) fun l m=>!decide (l < m)):=FL.OpR.or zqw (zdS (g:=fun l m=>!decide (l < m)) fun _ _ _ _ _ _ _ q=>PySem.P.ge_str q)
theorem zcm {f:Int->Int->Bool} {g:List Nat->List Nat->Bool} {o:D->D->Option Bool} (h:∀ p q k,o p q=some k->(∃ i j,p=.int i/\q=.int j/\k=f i j)\/∃ l m,p=.str l/\q=.str m/\k=g l m):DoesC K (rOrd f g) o:=by
 intro H x y p q k Q r1 r2 e hq
 rcases h p q k e with ⟨i,j,rfl,rfl,rfl⟩ | ⟨l,m,rfl,rfl,rfl⟩
 ·cases r1
  cases r2
  exact .inl ⟨i,j,rfl,rfl,hq⟩
 ·cases r1 with
  | str e1 z1=>cases r2 with
    | str e2 z2=>
      subst e1 e2
      exact .inr ⟨_,_,rfl,rfl,hq⟩
theorem zbu:DoesC K (rOrd (fun i j=>decide (i < j)) fun l m=>decide (l < m)) cLt:=zcm fun p q k e=>by
 unfold cLt ltD at e
 split at e
 ·exact .inl ⟨_,_,rfl,rfl,(qh e).symm⟩
 ·exact .inr ⟨_,_,rfl,rfl,(qh e).symm⟩
 ·cases e
theorem zcd:DoesC K (rOrd (fun i j=>decide (j < i)) fun l m=>decide (m < l)) cGt:=zcm fun p q k e=>by
 unfold cGt ltD at e
 split at e
 ·exact .inl ⟨_,_,rfl,rfl,(qh e).symm⟩
 ·exact .inr ⟨_,_,rfl,rfl,(qh e).symm⟩
 ·cases e
theorem zk3:DoesC K (rOrd (fun i j=>decide (i<=j)) fun l m=>!decide (m < l)) cLe:=zcm fun p q k e=>by
 unfold cLe at e
 split at e
 ·exact .inl ⟨_,_,rfl,rfl,(qh e).symm⟩
 ·exact .inr ⟨_,_,rfl,rfl,(qh e).symm⟩
 ·cases e
theorem zfj:DoesC K (rOrd (fun i j=>decide (j<=i)) fun l m=>!decide (l < m)) cGe:=zcm fun p q k e=>by
 unfold cGe at e
 split at e
 ·exact .inl ⟨_,_,rfl,rfl,(qh e).symm⟩
 ·exact .inr ⟨_,_,rfl,rfl,(qh e).symm⟩
 ·cases e
end
section
variable {X:Cx} {K:W.Frag}
open PySem.SeqAt
open Classical in
def rInD (K:W.Frag) (neg:Bool):R2:=fun x y H Q=>∃ p l,Rep K H x p/\(Rep K H y (.lst l)\/Rep K H y (.tup l))/\(∀ d∈l,clash d p=false/\dep d<=30)/\Q (.bl (if neg then !decide (p∈l) else decide (p∈l))) H
theorem zcs {pins:List (Addr×Obj)} {s:Shared} {σ:St} {H:Hp} {A:Around} {x:V} {v:Value} {xs:List V} {us:List Value} {l:List D} {p:D} (I:Inv X pins σ H s) (rx:RelV x v) (r1:Rep X.K H x p) (q1:Reps X.K H xs l) (w1:Vals xs us) (hc:∀ d∈l,clash d p=false/\dep d<=30) (hu:A.units + 30 < cLine):
  ∃ e:Value->Bool,(∀ y,y∈us.toArray->EqAt A s y v (e y))/\us.toArray.any e=(open Classical in decide (p∈l)):=by
 classical
 have item:∀ {y:Value},y∈us->∃ z d,RelV z y/\Rep X.K H z d/\d∈l:=fun {y} hy=>by
  obtain ⟨j,hj,e⟩:=List.getElem_of_mem hy
  obtain ⟨z,hz,rz⟩:=zaQ (j:=j) w1 (by simpa using hj)
  have hl:j < l.length:=by rw [<- q1.len,w1.length]; exact hj
  obtain ⟨z',hz',rp⟩:=q1.get (i:=j) (d:=l[j]) (by simp [hl])
  rw [hz] at hz'; cases hz'
  refine ⟨z,l[j],?_,rp,by simp⟩
  have:us.toArray[j]=y:=by simpa using e
  rw [<- this]; exact rz
 refine ⟨fun y=>decide (∃ z,RelV z y/\Rep X.K H z p),fun y hy=>?_,?_⟩
 ·have hy':y∈us:=by simpa using hy
  obtain ⟨z,d,rz,rp,hd⟩:=item hy'
  have hcd:=hc d hd
  have:=(zkx 30 (A:=A) hcd.2 I rp r1 rz rx hcd.1 hu).1
  have e:decide (d=p)=decide (∃ z,RelV z y/\Rep X.K H z p):=by
   by_cases h:d=p
   ·subst h
    rw [decide_eq_true rfl,decide_eq_true ⟨z,rz,rp⟩]
   ·rw [decide_eq_false h]
    refine (decide_eq_false ?_).symm
    rintro ⟨z',rz',rp'⟩
    have:z=z':=rz.inj rz'
    subst this
    exact h (Rep.uniq I rp rp' hcd.1)
  show EqAt A s y v (decide (∃ z,RelV z y/\Rep X.K H z p))
  rw [<- e]; exact this
 ·by_cases h:p∈l
  ·rw [decide_eq_true h]
   obtain ⟨j,hj,e⟩:=List.getElem_of_mem h
   obtain ⟨z,hz,rp⟩:=q1.get (i:=j) (d:=l[j]) (by simp [hj])
   obtain ⟨u,hu',ru⟩:=w1.get hz
   rw [Array.any_eq_true']
   exact ⟨u,by simpa using mem_of_getElem? hu',decide_eq_true ⟨z,ru,e ▸ rp⟩⟩
  ·rw [decide_eq_false h]
   rw [Array.any_eq_false']
   intro y hy z
   obtain ⟨z',rz',rp'⟩:=of_decide_eq_true z
   obtain ⟨z2,d,rz,rp,hd⟩:=item (y:=y) (by simpa using hy)
   have:z2=z':=rz.inj rz'
   subst this
   exact h (Rep.uniq I rp rp' (hc d hd).1 ▸ hd)
theorem znE (hu:X.A.units + 32 < cLine):OpR X (compareOp .In) (rInD X.K false):=by
 intro pins s σ H x y v u Q I rx ry h
 obtain ⟨p,l,r1,r2,hc,hq⟩:=h
 have hin:X.A.in1.units + 30 < cLine:=by show X.A.units + 1 + 30 < cLine; lia
 rcases r2 with r2 | r2
 ·cases r2 with
  | lst e q=>
    cases ry
    obtain ⟨its,w1,p1,_⟩:=I.list e
    obtain ⟨f,hf,ha⟩:=zcs (A:=X.A.in1) I rx r1 q w1 hc hin
    exact in_listAt f p1.isList hf ⟨.bl _,H,I,rfl,by rw [ha]; exact hq⟩
 ·cases r2 with
  | tup e q=>
    cases ry
    obtain ⟨its,w1,p1,_⟩:=I.tuple (SqT.of e)
    obtain ⟨f,hf,ha⟩:=zcs (A:=X.A.in1) I rx r1 q w1 hc hin
    exact in_tupleAt f (show s.heap.IsTuple _ its.toArray from p1) hf ⟨.bl _,H,I,rfl,by rw [ha]; exact hq⟩
theorem zhY (hu:X.A.units + 32 < cLine):OpR X (compareOp .NotIn) (rInD X.K true):=by
 intro pins s σ H x y v u Q I rx ry h
 obtain ⟨p,l,r1,r2,hc,hq⟩:=h
 have hin:X.A.in1.units + 30 < cLine:=by show X.A.units + 1 + 30 < cLine; lia
 rcases r2 with r2 | r2
 ·cases r2 with
  | lst e q=>
    cases ry
    obtain ⟨its,w1,p1,_⟩:=I.list e
    obtain ⟨f,hf,ha⟩:=zcs (A:=X.A.in1) I rx r1 q w1 hc hin
    exact notIn_listAt f p1.isList hf ⟨.bl _,H,I,rfl,by rw [ha]; exact hq⟩
 ·cases r2 with
  | tup e q=>
    cases ry
    obtain ⟨its,w1,p1,_⟩:=I.tuple (SqT.of e)
    obtain ⟨f,hf,ha⟩:=zcs (A:=X.A.in1) I rx r1 q w1 hc hin
    exact notIn_tupleAt f (show s.heap.IsTuple _ its.toArray from p1) hf ⟨.bl _,H,I,rfl,by rw [ha]; exact hq⟩
end
section
variable {K:W.Frag} {F H G:Hp} {σ:St} {ρ:Env}
theorem zii {α β:Type} {xs:List α} {l:List β} {i:Int} {d:β} (hl:xs.length=l.length) (h:atI l i=some d):∃ j,ixN l.length i=some j/\l[j]?=some d/\∀ x,xs[j]?=some x->L2.atI xs i=some x:=by
 unfold atI at h
 cases q:ixN l.length i with
 | none=>rw [q] at h; cases h
 | some j=>
   rw [q] at h
   refine ⟨j,rfl,h,fun x hx=>?_⟩
   have e:L2.ixN xs.length i=some j:=by rw [hl]; exact q
   unfold L2.atI
   rw [e]; exact hx
theorem Reps.atI {xs:List V} {l:List D} {i:Int} {d:D} (r:Reps K F xs l) (h:FL.atI l i=some d):∃ x,L2.atI xs i=some x/\Rep K F x d:=by
 obtain ⟨j,_,h1,h2⟩:=zii (xs:=xs) r.len h
 obtain ⟨x,hx,rx⟩:=r.get h1
 exact ⟨x,h2 x hx,rx⟩
theorem SReps.get {xs:List V} {l:List S} {fp:List Addr} {j:Nat} {t:S} (r:SReps K F H xs l fp) (h:l[j]?=some t):∃ x fa fi fb,xs[j]?=some x/\SRep K F H x t fi/\fp=fa++(fi++fb):=
 SReps.ind (P:=fun xs l fp=>∀ j t,l[j]?=some t->∃ x fa fi fb,xs[j]?=some x/\SRep K F H x t fi/\fp=fa++(fi++fb)) (fun _ _ e=>by cases e) (fun a _ ih j t e=>by
  cases j with
  | zero=>cases e; exact ⟨_,[],_,_,rfl,a,rfl⟩
  | succ j=>
    obtain ⟨x,fa,fi,fb,h1,h2,rfl⟩:=ih j t e
    exact ⟨x,_++fa,fi,fb,h1,h2,(append_assoc ..).symm⟩) r j t h
theorem Rel.item {l:List S} {a:Addr} {j:Nat} {t:S} (r:Rel K (ρ++[some (.lst l)]) (σ++[some (.ref a)]) F G H) (h:l[j]?=some t):∃ xs x,H a=some (.lst xs)/\xs.length=l.length/\xs[j]?=some x/\Rel K (ρ++[some t]) (σ++[some x]) F G H:=by
 obtain ⟨fp,e,nd,ap⟩:=r.en
 obtain ⟨f1,f2,rfl,en,b⟩:=e.cut (len1 r)
 cases b with
 | so sr nl=>
   cases nl
   cases sr with
   | lst hD rl=>
     rename_i xs fl
     obtain ⟨x,fa,fi,fb,h1,h2,rfl⟩:=rl.get h
     refine ⟨xs,x,hD,rl.len,h1,r.fr,r.gr,f1++(fi++[]),en.app (.so h2 .nil),?_,fun y hy=>ap y ?_⟩
     ·have sub:List.Sublist (f1++(fi++[])) (f1++(a::(fa++(fi++fb))++[])):=by
       refine List.Sublist.append (List.Sublist.refl _) ?_
       simp only [append_nil]
       exact (List.Sublist.cons _ ((List.sublist_append_left fi fb).trans (List.sublist_append_right fa _)))
      exact sub.nodup nd
     ·rcases mem_append.mp hy with z | z
      ·exact qm _ z
      ·refine qk _ ?_
       simp only [append_nil] at z ⊢
       exact qo _ (qk _ (qm _ z))
end
section
variable {X:Cx} {a b:Expr} {wa wb:WE} {pos:Pos}
theorem zky {K:W.Frag} {F H:Hp} {c:Addr} {xs:List V} {l:List D} {i:Int} {d:D} {Q:VK} (e:SqT K H c xs) (r:Reps K F xs l) (h:atI l i=some d) (hq:∀ x,Rep K F x d->Q x H):rIx K (.ref c) (.int i) H Q:=by
 obtain ⟨x,hx,rx⟩:=r.atI h
 exact .inr (.inl ⟨c,xs,i,x,rfl,rfl,e,hx,hq x rx⟩)
theorem zkC {K:W.Frag} {F H:Hp} {c:Addr} {xs:List V} {l:List D} {i:Int} {d:D} {Q:VK} (e:SqL K H c xs) (r:Reps K F xs l) (h:atI l i=some d) (hq:∀ x,Rep K F x d->Q x H):rIx K (.ref c) (.int i) H Q:=by
 obtain ⟨x,hx,rx⟩:=r.atI h
 exact .inl ⟨c,xs,i,x,rfl,rfl,e,hx,hq x rx⟩
theorem zkK {s t:S} {q:D} (h:ixS s q=some t):(∃ l i d,s=.sh (.tup l)/\q=.int i/\atI l i=some d/\t=.sh d)\/(∃ l i d,s=.sh (.lst l)/\q=.int i/\atI l i=some d/\t=.sh d)\/
  (∃ l i c,s=.sh (.str l)/\q=.int i/\atI l i=some c/\t=.sh (.str [c]))\/∃ l i,s=.lst l/\q=.int i/\atI l i=some t:=by
 unfold ixS at h
 split at h
 ·obtain ⟨d,e,e'⟩:=map_eq_some_iff.mp h
  exact .inl ⟨_,_,d,rfl,rfl,e,e'.symm⟩
 ·obtain ⟨d,e,e'⟩:=map_eq_some_iff.mp h
  exact .inr (.inl ⟨_,_,d,rfl,rfl,e,e'.symm⟩)
 ·obtain ⟨d,e,e'⟩:=map_eq_some_iff.mp h
  exact .inr (.inr (.inl ⟨_,_,d,rfl,rfl,e,e'.symm⟩))
 ·exact .inr (.inr (.inr ⟨_,_,rfl,rfl,h⟩))
 ·cases h
theorem ze3 {K:W.Frag} {F H:Hp} {v:V} {d:D} {fp:List Addr} (h:SRep K F H v (.sh d) fp):Rep K F v d:=by cases h; assumption
theorem zfY {K:W.Frag} {F H:Hp} {v:V} {l:List S} {fp:List Addr} (h:SRep K F H v (.lst l) fp):∃ a xs fq,v=.ref a/\H a=some (.lst xs)/\SReps K F H xs l fq:=by
 cases h with
 | lst h1 h2=>exact ⟨_,_,_,rfl,h1,h2⟩
theorem zke {K:W.Frag} {F F2 H:Hp} {v u:V} {d q:D} {t:S} {Q:VK} (fr:Same F H) (r:Rep K F v d) (ru:Rep K F2 u q) (et:ixS (.sh d) q=some t) (done:∀ e x,t=.sh e->Rep K F x e->Q x H):rIx K v u H Q:=by
 rcases zkK et with ⟨l,i,e,e1,rfl,ed,rfl⟩ | ⟨l,i,e,e1,rfl,ed,rfl⟩ | ⟨l,i,c,e1,rfl,ec,rfl⟩ | ⟨l,i,e1,_⟩
 ·injection e1 with e1
  subst e1
  obtain rfl:=RepE.int (H:=H) (.inl ru)
  obtain ⟨a,xs,rfl,h1,r1⟩:=RepE.tup (H:=H) (.inl r)
  exact zky (SqT.of (fr _ _ h1)) r1 ed fun x rx=>done _ x rfl rx
 ·injection e1 with e1
  subst e1
  obtain rfl:=RepE.int (H:=H) (.inl ru)
  obtain ⟨a,xs,rfl,h1,r1⟩:=RepE.lst (H:=H) fr (.inl r)
  exact zkC h1 r1 ed fun x rx=>done _ x rfl rx
 ·injection e1 with e1
  subst e1
  obtain rfl:=RepE.int (H:=H) (.inl ru)
  obtain ⟨x,rfl,h1,z⟩:=RepE.str (H:=H) (.inl r)
  exact .inr (.inr ⟨_,i,c,rfl,rfl,by rw [zca h1,sizeLine_eq]; exact z,by rw [h1]; exact ec,done _ _ rfl (.str rfl (by show 1<=_; decide))⟩)
 ·cases e1
theorem zhD {l:List S} {q:D} {t:S} (h:ixS (.lst l) q=some t):∃ i,q=.int i/\atI l i=some t:=by
 cases q with
 | int i=>exact ⟨i,rfl,h⟩
 | _=>cases h
theorem zaq (ha:FE X a wa) (hb:FE X b wb) (hs:PlainIx b:=by intro _ _; rfl):FE X (.Subscript a b pos) (wIx wa wb):=fun pn xe hp=>by
 refine PE.imp (zkn (zkd (X:=wp X pn xe)) (ha pn xe hp) (hb pn xe hp) hs) fun σ H Q q=>?_
 refine (two (k:=fun x y ρ2 Q E=>need (view y ρ2) fun q=>match x with
  | .v s=>need (ixS s q) fun t=>Q (.v t) ρ2
  | .loc i=>match slot ρ2 i with
    | some s=>match ixS s q with
      | some (.sh d)=>Q (.v (.sh d)) ρ2
      | _=>False
    | none=>False) q).mono fun v H1 h1=>h1.mono fun u H2 h2=>?_
 obtain ⟨F,G,ρ,x,y,P,PX,rel,hl,rx,ry,hk,hok,hx⟩:=h2
 obtain ⟨q,eq,hk⟩:=zaf hk
 have relx:Rel X.K (ρ++[slotOf x]) (σ++[some v]) F G H2:=by
  have:=Rel.swap (ρ1:=[slotOf x]) (σ1:=[some v]) (ρ2:=[slotOf y]) (σ2:=[some u]) hl rfl rel
  exact Rel.mid (ρ:=ρ) (σ:=σ) this hl
 have rely:Rel X.K (ρ++[slotOf y]) (σ++[some u]) F G H2:=rel.mid hl
 have ru:=look (ρ':=[]) (σ':=[]) rely hl ry eq
 have done:∀ {d:D} {x:V},P (.v (.sh d)) ρ->Rep X.K F x d->Q x H2:=fun hP r=>hok _ ρ _ F H2 hP (Same.refl F) ((relx.drop hl).push r) trivial
 cases x with
 | v s=>
   obtain ⟨t,et,hP⟩:=zaf hk
   obtain ⟨w,fp,e1,sr⟩:=relx.at (i:=ρ.length) (s:=s) zaC
   rw [hl,getElem?_append_right (le_refl _),sub_self] at e1
   have e2:v=w:=by simpa using e1
   subst e2
   cases s with
   | sh d=>exact zke relx.fr (ze3 sr) ru et fun e x z rx=>done (by rw [<- z]; exact hP) rx
   | lst l=>
     obtain ⟨i,rfl,et⟩:=zhD et
     obtain rfl:=RepE.int (H:=H2) (.inl ru)
     obtain ⟨a,ys,fq,rfl,hD,rl⟩:=zfY sr
     obtain ⟨j,_,hj,hat⟩:=zii rl.len et
     obtain ⟨xs,x,hD',hlen,hxj,r2⟩:=Rel.item relx hj
     rw [hD] at hD'
     cases hD'
     exact .inl ⟨_,_,i,x,rfl,rfl,SqL.of hD,hat x hxj,hok _ ρ _ F H2 hP (Same.refl F) r2 trivial⟩
   | _=>cases q <;> cases et
 | loc k=>
   dsimp only at hk
   cases qs:slot ρ k with
   | none=>rw [qs] at hk; exact hk.elim
   | some s=>
     rw [qs] at hk
     dsimp only at hk
     split at hk
     ·rename_i d et
      obtain ⟨w,fp,e1,sr⟩:=(relx.drop hl).at qs
      have rx':σ[k]?=some (some v):=rx
      rw [rx'] at e1
      have e2:v=w:=by simpa using e1
      subst e2
      cases s with
      | sh d'=>exact zke relx.fr (ze3 sr) ru et fun e x z rx=>done (by injection z with z; rw [<- z]; exact hk) rx
      | lst l=>
        obtain ⟨i,rfl,et⟩:=zhD et
        obtain rfl:=RepE.int (H:=H2) (.inl ru)
        obtain ⟨a,ys,fq,rfl,hD,rl⟩:=zfY sr
        obtain ⟨j,_,hj,hat⟩:=zii rl.len et
        obtain ⟨x,fa,fi,fb,hxj,sx,_⟩:=rl.get hj
        exact .inl ⟨_,_,i,x,rfl,rfl,SqL.of hD,hat x hxj,done hk (ze3 sx)⟩
      | _=>cases q <;> cases et
     ·exact hk.elim
end
section
variable {K:W.Frag} {F H G:Hp} {σ:St} {ρ:Env}
theorem SReps.set:∀ {xs:List V} {l:List S} {fp:List Addr} {m:Nat},SReps K F H xs l fp->m < l.length->∃ fa fi fb,fp=fa++(fi++fb)/\
  ∀ {H':Hp} {v:V} {s:S} {fq:List Addr},(∀ a∈fa++fb,H' a=H a)->SRep K F H' v s fq->SReps K F H' (xs.set m v) (l.set m s) (fa++(fq++fb))
 | _,_,_,_,.nil,h=>by simp at h
 | _,_,_,0,.cons (fp:=fp) (fq:=fq) a b,h=>⟨[],fp,fq,rfl,fun hk r=>by rw [nil_append]; exact .cons r (b.mono (Same.refl F) fun c hc=>hk c hc)⟩
 | _,_,_,m + 1,.cons (fp:=fp) (fq:=fq) a b,h=>by
   obtain ⟨fa,fi,fb,rfl,up⟩:=SReps.set (m:=m) b (by simpa using h)
   refine ⟨fp++fa,fi,fb,(append_assoc ..).symm,fun hk r=>?_⟩
   rw [append_assoc]
   exact .cons (a.mono (Same.refl F) fun c hc=>hk c (qm _ (qm _ hc))) (up (fun c hc=>hk c ((mem_append.mp hc).elim (fun z=>qm _ (qk _ z)) fun z=>qk _ z)) r)
theorem zdF {σ:St} {n:Nat} {v:V} (h:σ[n]?=some (some v)):σ.set n (some v)=σ:=by
 apply ext_getElem?
 intro j
 by_cases hj:n=j
 ·subst hj
  rw [getElem?_set_self (qi.mp h).1,h]
 ·rw [getElem?_set_ne hj]
theorem Rel.setItem {n m:Nat} {l:List S} {s:S} {v:V} {D:Addr} (r:Rel K (ρ++[some s]) (σ++[some v]) F G H) (hs:slot ρ n=some (.lst l)) (hσ:σ[n]?=some (some (.ref D))) (hm:m < l.length):
  ∃ xs,H D=some (.lst xs)/\xs.length=l.length/\Rel K (ρ.set n (some (.lst (l.set m s)))) σ F G (upd H D (.lst (xs.set m v))):=by
 have hl:=len1 r
 obtain ⟨fp,e,nd,ap⟩:=r.en
 obtain ⟨f1,f2,rfl,a,b⟩:=e.cut hl
 obtain ⟨v',fa,fi,fb,e1,rfl,q,up⟩:=a.at hs
 rw [hσ] at e1
 have e2:V.ref D=v':=by simpa using e1
 subst e2
 cases q with
 | lst hD rl=>
   rename_i xs fl
   cases b with
   | so sr nl=>
     cases nl
     rename_i fs
     obtain ⟨ga,gi,gb,rfl,sup⟩:=rl.set hm
     refine ⟨xs,hD,rl.len,?_⟩
     obtain ⟨n1,n2,n12⟩:=nodup_append.mp nd
     obtain ⟨na,nib,nab⟩:=nodup_append.mp n1
     obtain ⟨ni,nb,nib⟩:=nodup_append.mp nib
     obtain ⟨nD,nfl⟩:=nodup_cons.mp ni
     have hDa:D∉fa:=fun z=>nab D z D (qm _ qp) rfl
     have hDb:D∉fb:=fun z=>nib D qp D z rfl
     have hDs:D∉fs:=fun z=>n12 D (qk _ (qm _ qp)) D (by simpa using z) rfl
     have apD:=ap D (qm _ (qk _ (qm _ qp)))
     have ne:∀ {l:List Addr},D∉l->∀ x∈l,upd H D (.lst (xs.set m v)) x=H x:=fun h x hx=>zaj fun z=>h (z ▸ hx)
     have hDg:D∉ga++gb:=fun z=>nD ((mem_append.mp z).elim (fun w=>qm _ w) fun w=>qk _ (qk _ w))
     have new:SRep K F (upd H D (.lst (xs.set m v))) (.ref D) (.lst (l.set m s)) (D::(ga++(fs++gb))):=.lst zao (sup (ne hDg) (sr.mono (Same.refl F) (ne hDs)))
     have a2:=up (F':=F) (H':=upd H D (.lst (xs.set m v))) (o:=some (.lst (l.set m s))) (u:=some (.ref D)) (Same.refl F) (fun x hx=>zaj fun z=>(mem_append.mp hx).elim (fun w=>hDa (z ▸ w)) fun w=>hDb (z ▸ w)) (.so new .nil)
     rw [zdF hσ] at a2
     have sub:∃ l2,l2.Perm (fa++((D::(ga++(gi++gb)))++fb)++(fs++[]))/\List.Sublist (fa++((D::(ga++(fs++gb)))++[]++fb)) l2:=by
      refine ⟨fa++((D::(ga++(fs++(gi++gb))))++[]++fb),?_,?_⟩
      ·simp only [append_nil,append_assoc,cons_append]
       refine List.Perm.append_left _ (List.Perm.cons _ (List.Perm.append_left _ ?_))
       exact perm_append_comm.trans (by simp)
      ·simp only [append_nil,append_assoc,cons_append]
       refine List.Sublist.append (List.Sublist.refl _) (List.Sublist.cons_cons _ (List.Sublist.append (List.Sublist.refl _) (List.Sublist.append (List.Sublist.refl _) (List.sublist_append_right _ _))))
     obtain ⟨l2,p,sb⟩:=sub
     refine ⟨Same.updR r.fr apD.1,fun x o w=>?_,_,a2,sb.nodup (p.nodup_iff.mpr nd),fun x hx=>ap x (p.mem_iff.mp (sb.subset hx))⟩
     have hx:x≠D:=fun z=>by rw [z,apD.2] at w; cases w
     rw [zaj hx]
     exact r.gr x o w
end
section
variable {X:Cx} {ks:List Nat} {pos tpos:Pos}
theorem zfI {j:Nat} {o i e:Expr} {wi we:WE} (ho:FE X o (wVar j)) (hi:FE X i wi) (he:FE X e we) (hs:swapsWithSole [.Subscript o i tpos] e pos.line X.env=pure false:=by rfl) (hw:swappedStores [.Subscript o i tpos] e X.env=pure none:=by rfl)
  (h1:(assignEach [.Subscript o i tpos] X.env).map (·.2)=[assign (.Subscript o i tpos) X.env]:=by rfl)
  (ha:∀ v,assign (.Subscript o i tpos) X.env v=(do
   let ov <- holding [v] (eval o X.env)
   let iv <- holding [v,ov] (eval i X.env)
   standAt tpos
   holding [v,ov,iv] (setItem ov iv v)
   release [v,ov,iv] []):=by intro _; rfl):FS X ks (.Assign [.Subscript o i tpos] e pos) (wSetIx j wi we):=fun pn xe hp=>by
 refine PS.imp (zkj (X:=wp X pn xe) (he pn xe hp) (zn0 (X:=wp X pn xe) (ho pn xe hp) (hi pn xe hp) ziO ha) hs hw h1) fun D σ H q=>?_
 obtain ⟨F,G,ρ,E,rel,hw,n,b,c,r,x⟩:=q
 have x0:XC (wp X pn xe) (·=σ) F G E.ex:=x.mono (fun σ2 z=>by rw [z]; exact KP.refl) (Same.refl F) (Same.refl G)
 refine ⟨F,G,ρ,_,_,rel,hw,fun r ρ1 v F1 H1 hk s1 r1 rv=>?_,x0⟩
 have l1:=len1 r1
 obtain ⟨G1,rel1,gg,back⟩:=r1.hide l1
 refine ⟨F1,G1,ρ1,_,_,rel1,hk,fun y ρ2 o' F2 H2 hk2 s2 r2 rv2=>?_,x0.mono (fun _ z=>z) s1 gg⟩
 have l2:=len1 r2
 obtain ⟨G2,rel2,gg2,back2⟩:=r2.hide l2
 refine ⟨F2,G2,ρ2,_,_,rel2,hk2,fun z ρ3 i' F3 H3 hk3 s3 r3 rv3=>?_,x0.mono (fun _ z=>z) (s1.trans s2) (gg.trans gg2)⟩
 have l3:=len1 r3
 obtain ⟨q,eq,hk3⟩:=zaf hk3
 obtain ⟨⟨t,ρ4⟩,eg,hk4⟩:=zaf hk3
 -- all three stand at the end
 have r4:=back (s2.trans s3) (back2 s3 r3)
 simp only [append_assoc,cons_append,nil_append] at r4
 have ri:=look (ρ':=[slotOf y,slotOf r]) (σ':=[some o',some v]) r4 l3 rv3 eq
 have r5:Rel X.K (ρ3++[slotOf r]) (σ++[some v]) F3 G H3:=Rel.mid (ρ:=ρ3) (σ:=σ) (Rel.mid (ρ:=ρ3) (σ:=σ) r4 l3) l3
 obtain ⟨F4,s4,l4,r6⟩:=giveR (ρ':=[]) (σ':=[]) r5 l3 rv eg
 cases y with
 | v y0=>exact hk4.elim
 | loc k=>
   cases q with
   | int m=>
     cases qs:slot ρ4 j with
     | none=>simp only [qs] at hk4
     | some sj=>
       cases sj with
       | lst l=>
         simp only [qs] at hk4
         obtain ⟨rfl,hk4⟩:=hk4
         obtain ⟨w,ew,hnx⟩:=zaf hk4
         have hσ:σ[k]?=some (some o'):=rv2
         obtain ⟨v',fp,e1,sr⟩:=r6.at (i:=k) (s:=.lst l) (by rw [zbT (zb9 qs)]; exact qs)
         have hkl:k < σ.length:=(qi.mp hσ).1
         rw [getElem?_append_left hkl,hσ] at e1
         have e2:o'=v':=by simpa using e1
         subst e2
         have hw:w < l.length:=by
          unfold ixN at ew
          split at ew
          ·split at ew
           ·have e:=qh ew
            lia
           ·cases ew
          ·split at ew
           ·have e:=qh ew
            lia
           ·cases ew
         cases sr with
         | lst hD rl=>
           rename_i a xs fl
           obtain ⟨xs',hD',hlen,r7⟩:=Rel.setItem r6 qs hσ hw
           rw [hD] at hD'
           cases hD'
           cases ri
           exact ⟨a,xs,m,w,rfl,rfl,hD,by rw [hlen]; exact ew,n _ σ F4 _ hnx KP.refl (s1.trans (s2.trans (s3.trans s4))) r7⟩
       | _=>simp only [qs] at hk4
   | _=>exact hk4.elim
theorem za0 {j:Nat} {o e:Expr} {we:WE} {apos cpos:Pos} (ho:FE X o (wVar j)) (he:FE X e we)
  (hbase:attributeBase o "append" X.env (eval o X.env)=eval o X.env:=by rfl)
  (hfew:((backTo cpos (starEach [e] X.env)).all (fun x=>!x.1) && (backToKw cpos (keywordEach [] X.env)).all (fun x=>x.1.isSome)
   && decide ([e].length + ([]:List Keyword).length + (if ([]:List Keyword).isEmpty then 0 else 1) < 30))=true:=by rfl)
  (hline:(apos.endLine == cpos.line)=true:=by rfl) (hs:starEach [e] X.env=[(false,eval e X.env)]:=by rfl):FE X (.Call (.Attribute o "append" apos) [e] [] cpos) (wAppend j we):=fun pn xe hp=>by
 refine PE.imp (zgY (X:=wp X pn xe) PySem.F.plainAttrs_list PySem.F.slot_list_append PySem.F.type_list_append zcR (ho pn xe hp) (zaa he zab hs pn xe hp) hbase hfew hline hs rfl) fun σ H Q q=>?_
 obtain ⟨F,G,ρ,P,PX,rel,hw,hok,hx⟩:=q
 have hw':(match slot ρ j with
  | some (.lst _)=>we ρ (fun r ρ2=>need (give r ρ2) fun p=>(match slot p.2 j with
    | some (.lst l)=>l.length < big/\P (.v (.sh .non)) (p.2.set j (some (.lst (l++[p.1]))))
    | _=>False)) PX
  | _=>False):=hw
 cases qs:slot ρ j with
 | none=>rw [qs] at hw'; exact hw'.elim
 | some s0=>
   cases s0 with
   | lst l0=>
     rw [qs] at hw'
     refine ⟨F,G,ρ,fun y ρ1=>y=.loc j/\ρ1=ρ,PX,rel,by unfold wVar; rw [qs]; exact ⟨rfl,rfl⟩,fun y ρ1 o' F1 H1 hk s1 r1 rv=>?_,hx⟩
     obtain ⟨rfl,rfl⟩:=hk
     have l1:=len1 r1
     have hσ:σ[j]?=some (some o'):=rv
     have r2:=r1.drop l1
     obtain ⟨v',fp,e1,sr⟩:=r2.at qs
     rw [hσ] at e1
     have e2:o'=v':=by simpa using e1
     subst e2
     cases sr with
     | lst hD rl=>
       rename_i a xs fl
       refine ⟨.inl ⟨rfl,_,SqL.of hD⟩,F1,G,ρ1,fun rs ρ2=>match rs with | [r]=>(need (give r ρ2) fun p=>match slot p.2 j with | some (.lst l)=>l.length < big/\P (.v (.sh .non)) (p.2.set j (some (.lst (l++[p.1])))) | _=>False) | _=>False,PX,r2,hw',fun rs ρ2 vs F2 H2 hk s2 r3 hl rvs=>?_,hx.grow s1⟩
       match rs,vs,rvs,r3,hk with
       | [r],[v],rvs,r3,hk=>
         dsimp only at hk
         obtain ⟨⟨t,ρ3⟩,eg,hk⟩:=zaf hk
         obtain ⟨F3,s3,l3,r4⟩:=giveR (ρ':=[]) (σ':=[]) r3 hl rvs.1 eg
         dsimp only at hk
         split at hk
         ·rename_i l ql
          obtain ⟨ys,hD2,hlen,r5⟩:=Rel.append r4 ql hσ
          exact ⟨a,ys,v,rfl,rfl,hD2,by rw [hlen,sizeLine_eq]; exact lt_trans hk.1 (by decide),hok _ _ .non F3 _ hk.2 (s1.trans (s2.trans s3)) (r5.push .non) trivial⟩
         ·exact hk.elim
       | [],_,_,_,hk=>exact hk.elim
       | [_],[],rvs,_,_=>exact rvs.elim
       | [_],_::_::_,rvs,_,_=>exact rvs.2.elim
       | _::_::_,_,_,_,hk=>exact hk.elim
   | _=>rw [qs] at hw'; exact hw'.elim
end
section
variable {K:W.Frag} {F F' H G:Hp} {σ σ':St}
def RepEs (K:W.Frag) (F H:Hp):List V->List D->Prop
 | [],[]=>True
 | v::vs,d::ds=>RepE K F H v d/\RepEs K F H vs ds
 | _,_=>False
theorem arg1 {b:List D->Option S} {vs:List V} {ds:List D} {s:S} (h2:∀ x y r,b (x::y::r)=none) (h0:b []=none) (re:RepEs K F H vs ds) (e:b ds=some s):∃ d v,ds=[d]/\vs=[v]:=by
 cases ds with
 | nil=>rw [h0] at e; cases e
 | cons x ds=>
   cases ds with
   | cons y r=>rw [h2] at e; cases e
   | nil=>
     cases vs with
     | nil=>exact re.elim
     | cons v vs=>
       cases vs with
       | nil=>exact ⟨x,v,rfl,rfl⟩
       | cons u vs=>exact re.2.elim
theorem arg2 {b:List D->Option S} {vs:List V} {ds:List D} {s:S} (h1:∀ x,b [x]=none) (h3:∀ x y z r,b (x::y::z::r)=none) (h0:b []=none) (re:RepEs K F H vs ds) (e:b ds=some s):∃ d d2 v u,ds=[d,d2]/\vs=[v,u]:=by
 cases ds with
 | nil=>rw [h0] at e; cases e
 | cons x ds=>
   cases ds with
   | nil=>rw [h1] at e; cases e
   | cons y ds=>
     cases ds with
     | cons z r=>rw [h3] at e; cases e
     | nil=>
       cases vs with
       | nil=>exact re.elim
       | cons v vs=>
         cases vs with
         | nil=>exact re.2.elim
         | cons u vs=>
           cases vs with
           | nil=>exact ⟨x,y,v,u,rfl,rfl⟩
           | cons u vs=>exact re.2.2.elim
theorem takeAll:∀ {rs:List R} {vs:List V} {ds:List D} {ρ ρ':Env} {F:Hp} {σ':St},Rel K (ρ++(rs.map slotOf++ρ')) (σ++(vs.map some++σ')) F G H->ρ.length=σ.length->RVs σ vs rs->(rs.mapM fun r=>viewC r ρ)=some ds->
  ∃ F',Same F F'/\RepEs K F' H vs ds/\Rel K (ρ++ρ') (σ++σ') F' G H
 | [],[],ds,ρ,ρ',F,σ',r,h,_,e=>by
   have e':ds=[]:=by simpa using e.symm
   subst e'
   exact ⟨F,Same.refl F,trivial,r⟩
 | [],_::_,_,_,_,_,_,_,_,h,_=>h.elim
 | _::_,[],_,_,_,_,_,_,_,h,_=>h.elim
 | x::rs,v::vs,ds,ρ,ρ',F,σ',r,h,rv,e=>by
   rw [List.mapM_cons] at e
   cases q:viewC x ρ with
   | none=>rw [q] at e; cases e
   | some d=>
     rw [q] at e
     cases q2:(rs.mapM fun r=>viewC r ρ) with
     | none=>rw [q2] at e; cases e
     | some es=>
       rw [q2] at e
       have e':d::es=ds:=qh e
       subst e'
       obtain ⟨F1,s1,re,r1⟩:=takeC (ρ':=rs.map slotOf++ρ') (σ':=vs.map some++σ') r h rv.1 q
       obtain ⟨F2,s2,res,r2⟩:=takeAll (rs:=rs) (vs:=vs) r1 h rv.2 q2
       exact ⟨F2,s1.trans s2,⟨re.mono s2,res⟩,r2⟩
def DoesB (K:W.Frag) (r:List V->Hp->VK->Prop) (f:List D->Option S):Prop:=∀ (σ:St) (ρ:Env) (F G H:Hp) (vs:List V) (ds:List D) (s:S) (Q:VK),Rel K ρ σ F G H->RepEs K F H vs ds->f ds=some s->
 (∀ v F' H',Same F F'->Rel K (ρ++[some s]) (σ++[some v]) F' G H'->Q v H')->r vs H Q
end
section
variable {X:Cx} {x:Str} {p pos:Pos} {e:Expr} {es:List Expr} {wa:WA} {id T:String} {r:List V->Hp->VK->Prop} {f:List D->Option S}
theorem zf6 (hd:DoesB X.K r f) {pn:List (Addr×Obj)} {xe:Value->Shared->Prop} (σ:St) (H:Hp) (Q:VK) (q:tW (wp X pn xe) (wB f wa) σ H Q):tCB r (tWA (wp X pn xe) wa) σ H Q:=by
 refine (many (k:=fun rs ρ1 Q E=>need (rs.mapM fun r=>viewC r ρ1) fun ds=>need (f ds) fun s=>Q (.v s) ρ1) q).mono fun vs H1 h1=>?_
 obtain ⟨F,G,ρ,rs,P,PX,rel,hl,rv,hk,hok,hx⟩:=h1
 obtain ⟨ds,ed,hk⟩:=zaf hk
 obtain ⟨s,es,hk⟩:=zaf hk
 obtain ⟨F1,s1,re,r1⟩:=takeAll (ρ':=[]) (σ':=[]) (by simpa using rel) hl rv ed
 exact hd σ ρ F1 G H1 vs ds s Q (by simpa using r1) re es fun v F' H' sm r'=>hok _ ρ v F' H' hk (s1.trans sm) r' trivial
theorem zbp (hc:∀ pn xe,CallR (wp X pn xe) (.builtin id) r) (hd:DoesB X.K r f) (hg:Gl X x) (hm:X.mg x=none) (hv:bootBuiltins x=some (.builtin id)) (ha:FA X (e::es) wa) (hn:x≠"__name__":=by decide) (hdb:(x == ("__debug__":Str))=false:=by decide)
  (he:starEach (e::es) X.env=(false,eval e X.env)::starEach es X.env:=by rfl) (hpl:(backTo pos (starEach es X.env)).any (·.1)=false:=by rfl):FE X (.Call (.Name x p) (e::es) [] pos) (wB f wa):=fun pn xe hp=>
 PE.imp (zjV (X:=wp X pn xe) (hc pn xe) hg hm hv (ha pn xe hp) hn hdb he hpl) (zf6 hd)
theorem zcI (hc:∀ pn xe,CallR (wp X pn xe) (.type T) r) (hd:DoesB X.K r f) (hg:Gl X x) (hm:X.mg x=none) (hv:bootBuiltins x=some (.type T)) (ha:FA X (e::es) wa) (hn:x≠"__name__":=by decide) (hdb:(x == ("__debug__":Str))=false:=by decide)
  (he:starEach (e::es) X.env=(false,eval e X.env)::starEach es X.env:=by rfl) (hpl:(backTo pos (starEach es X.env)).any (·.1)=false:=by rfl):FE X (.Call (.Name x p) (e::es) [] pos) (wB f wa):=fun pn xe hp=>
 PE.imp (zh1 (X:=wp X pn xe) (hc pn xe) hg hm hv (ha pn xe hp) hn hdb he hpl) (zf6 hd)
def rLen (K:W.Frag):List V->Hp->VK->Prop:=fun xs H Q=>(∃ p ys,xs=[.ref p]/\(SqL K H p ys\/SqT K H p ys)/\Q (.int ys.length) H)\/∃ z,xs=[.str z]/\z.length<=sizeLine/\Q (.int z.length) H
theorem CallR.or' {f:Value} {r r':List V->Hp->VK->Prop} (h:CallR X f r) (h':CallR X f r'):CallR X f (fun x H Q=>r x H Q\/r' x H Q):=fun pins s σ H xs us Q I rr q=>q.elim (h pins s σ H xs us Q I rr) (h' pins s σ H xs us Q I rr)
theorem zh9:CallR X (.builtin "len") (rLen X.K):=CallR.or' zez zef
theorem ziX {K:W.Frag}:DoesB K (rLen K) bLen:=by
 intro σ ρ F G H vs ds s Q rel re e hq
 obtain ⟨d,v,rfl,rfl⟩:=arg1 (fun x y r=>by cases x <;> rfl) rfl re e
 cases d with
 | str l=>
   cases e
   obtain ⟨x,rfl,e1,z⟩:=re.1.str
   exact .inr ⟨x,rfl,by rw [zca e1,sizeLine_eq]; exact z,by rw [zca e1]; exact hq _ F H (Same.refl F) (rel.push (.int _))⟩
 | tup l=>
   cases e
   obtain ⟨a,xs,rfl,h1,r1⟩:=re.1.tup
   exact .inl ⟨a,xs,rfl,.inr (SqT.of (rel.fr _ _ h1)),by rw [r1.len]; exact hq _ F H (Same.refl F) (rel.push (.int _))⟩
 | lst l=>
   cases e
   obtain ⟨a,xs,rfl,h1,r1⟩:=re.1.lst rel.fr
   exact .inl ⟨a,xs,rfl,.inl h1,by rw [r1.len]; exact hq _ F H (Same.refl F) (rel.push (.int _))⟩
 | _=>cases e
theorem zak (hg:Gl X "len") (hm:X.mg "len"=none) (ha:FA X (e::es) wa) (he:starEach (e::es) X.env=(false,eval e X.env)::starEach es X.env:=by rfl) (hpl:(backTo pos (starEach es X.env)).any (·.1)=false:=by rfl):FE X (.Call (.Name "len" p) (e::es) [] pos) (wB bLen wa):=
 zbp (fun _ _=>zh9) ziX hg hm PySem.boot_len ha (by decide) (by decide) he hpl
end
section
variable {X:Cx} {p pos:Pos} {e:Expr} {es:List Expr} {wa:WA} {K:W.Frag}
def rInt:List V->Hp->VK->Prop:=fun xs H Q=>(∃ i,xs=[.int i]/\Q (.int i) H)\/∃ k,xs=[.bl k]/\Q (.int (if k then 1 else 0)) H
theorem RepE.bl {F H:Hp} {v:V} {b:Bool} (h:RepE K F H v (.bl b)):v=.bl b:=by
 rcases h with h | ⟨_,_,_,_,h,_⟩ | ⟨_,_,_,_,_,h,_⟩ | ⟨_,_,_,_,_,h,_⟩
 ·cases h; rfl
 ·cases h
 ·cases h
 ·cases h
theorem zg7:DoesB K rInt bInt:=by
 intro σ ρ F G H vs ds s Q rel re e hq
 obtain ⟨d,v,rfl,rfl⟩:=arg1 (fun x y r=>by cases x <;> rfl) rfl re e
 cases d with
 | int i=>
   cases e
   have:=re.1.int
   subst this
   exact .inl ⟨i,rfl,hq _ F H (Same.refl F) (rel.push (.int _))⟩
 | bl b=>
   cases e
   have:=re.1.bl
   subst this
   exact .inr ⟨b,rfl,hq _ F H (Same.refl F) (rel.push (.int _))⟩
 | _=>cases e
theorem zb8 (hg:Gl X "int") (hm:X.mg "int"=none) (hv:bootBuiltins "int"=some (.type "int")) (ha:FA X (e::es) wa) (he:starEach (e::es) X.env=(false,eval e X.env)::starEach es X.env:=by rfl) (hpl:(backTo pos (starEach es X.env)).any (·.1)=false:=by rfl):FE X (.Call (.Name "int" p) (e::es) [] pos) (wB bInt wa):=
 zcI (fun _ _=>zht) zg7 hg hm hv ha (by decide) (by decide) he hpl
def rTuple (K:W.Frag):List V->Hp->VK->Prop:=fun xs H Q=>∃ p ys,xs=[.ref p]/\((SqL K H p ys/\∀ l,H l=none->Q (.ref l) (upd H l (.tup ys)))\/(SqT K H p ys/\Q (.ref p) H))
theorem zgk:DoesB K (rTuple K) bTuple:=by
 intro σ ρ F G H vs ds s Q rel re e hq
 obtain ⟨d,v,rfl,rfl⟩:=arg1 (fun x y r=>by cases x <;> rfl) rfl re e
 cases d with
 | tup l=>
   cases e
   obtain ⟨a,xs,rfl,h1,r1⟩:=re.1.tup
   exact ⟨a,xs,rfl,.inr ⟨SqT.of (rel.fr _ _ h1),hq _ F H (Same.refl F) (rel.push (.tup h1 r1))⟩⟩
 | lst l=>
   cases e
   obtain ⟨a,xs,rfl,h1,r1⟩:=re.1.lst rel.fr
   refine ⟨a,xs,rfl,.inl ⟨h1,fun p hp=>?_⟩⟩
   have n2:=(rel.free hp).1
   exact hq _ _ _ (Same.upd n2) ((rel.newF hp).push (.tup zao (r1.mono (Same.upd n2))))
 | _=>cases e
theorem zcO (hg:Gl X "tuple") (hm:X.mg "tuple"=none) (hv:bootBuiltins "tuple"=some (.type "tuple")) (ha:FA X (e::es) wa) (he:starEach (e::es) X.env=(false,eval e X.env)::starEach es X.env:=by rfl) (hpl:(backTo pos (starEach es X.env)).any (·.1)=false:=by rfl):FE X (.Call (.Name "tuple" p) (e::es) [] pos) (wB bTuple wa):=
 zcI (fun _ _=>zdI) zgk hg hm hv ha (by decide) (by decide) he hpl
def rList (K:W.Frag):List V->Hp->VK->Prop:=fun xs H Q=>∃ p ys,xs=[.ref p]/\(SqL K H p ys\/SqT K H p ys)/\∀ l,H l=none->Q (.ref l) (upd H l (.lst ys))
theorem zeN:DoesB K (rList K) bList:=by
 intro σ ρ F G H vs ds s Q rel re e hq
 obtain ⟨d,v,rfl,rfl⟩:=arg1 (fun x y r=>by cases x <;> rfl) rfl re e
 cases d with
 | tup l=>
   cases e
   obtain ⟨a,xs,rfl,h1,r1⟩:=re.1.tup
   exact ⟨a,xs,rfl,.inr (SqT.of (rel.fr _ _ h1)),fun p hp=>hq _ F _ (Same.refl F) (rel.newLD hp r1)⟩
 | lst l=>
   cases e
   obtain ⟨a,xs,rfl,h1,r1⟩:=re.1.lst rel.fr
   exact ⟨a,xs,rfl,.inl h1,fun p hp=>hq _ F _ (Same.refl F) (rel.newLD hp r1)⟩
 | _=>cases e
end
theorem zbA {a b:Key} (h:keyD a=keyD b):a=b:=by
 cases a with
 | inl i=>cases b with
   | inl j=>have h':D.int i=D.int j:=h; cases h'; rfl
   | inr y=>have h':D.int i=D.str y.cps.toList:=h; cases h'
 | inr x=>cases b with
   | inl j=>have h':D.str x.cps.toList=D.int j:=h; cases h'
   | inr y=>
     have h':D.str x.cps.toList=D.str y.cps.toList:=h
     obtain ⟨⟨a⟩⟩:=x
     obtain ⟨⟨b⟩⟩:=y
     have e:a=b:=by cases h'; rfl
     rw [e]
theorem zbW:∀ {a b:List Key},a.map keyD=b.map keyD->a=b
 | [],[],_=>rfl
 | [],_::_,h=>by simp at h
 | _::_,[],h=>by simp at h
 | x::a,y::b,h=>by
   rw [map_cons,map_cons] at h
   injection h with h1 h2
   rw [zbA h1,zbW h2]
section
variable {K:W.Frag} {H:Hp}
theorem zcV {x:V} {d:D} (r:Rep K H x d) (h:isKey1 d=true):∃ k:Key,x=kV k/\d=keyD k:=by
 cases r with
 | int i=>exact ⟨.inl i,rfl,rfl⟩
 | str e z=>exact ⟨.inr _,rfl,by rw [<- e]; rfl⟩
 | _=>cases h
theorem zfq {xs:List V} {l:List D} (r:Reps K H xs l):l.all isKey1=true->∃ ks:List Key,xs=ks.map kV/\l=ks.map keyD:=
 Reps.ind (P:=fun xs l=>l.all isKey1=true->∃ ks:List Key,xs=ks.map kV/\l=ks.map keyD) (fun _=>⟨[],rfl,rfl⟩) (fun a _ ih h=>by
  rw [List.all_cons,and_eq_true] at h
  obtain ⟨k,rfl,rfl⟩:=zcV a h.1
  obtain ⟨ks,rfl,rfl⟩:=ih h.2
  exact ⟨k::ks,rfl,rfl⟩) r
open Classical in
theorem zcv {κ:Type} [DecidableEq κ] (g:κ->D) (hg:∀ a b,g a=g b->a=b):∀ (kvs:List (κ×V)) (k:κ),(valV kvs k).isSome=decide (g k∈kvs.map fun p=>g p.1)
 | [],k=>by simp [valV]
 | p::r,k=>by
   by_cases e:p.1=k
   ·rw [zbK e]
    have:g k∈(p::r).map fun p=>g p.1:=by rw [map_cons,e]; exact qp
    exact (decide_eq_true this).symm
   ·rw [zbZ e,zcv g hg r k]
    have:(g k∈(p::r).map fun p=>g p.1)↔(g k∈r.map fun p=>g p.1):=by
     rw [map_cons,mem_cons]
     exact ⟨fun z=>z.elim (fun w=>absurd (hg _ _ w).symm e) id,.inr⟩
    exact (decide_eq_decide.2 this).symm
open Classical in
theorem zcS {κ:Type} [DecidableEq κ] (g:κ->D) (hg:∀ a b,g a=g b->a=b) {α:Type}:∀ (kvs:List (κ×V)) (vs:List α) (k:κ) (P:V->α->Prop),kvs.length=vs.length->(∀ (i:Nat) x y,(kvs.map (·.2))[i]?=some x->vs[i]?=some y->P x y)->
  (lk (kvs.map fun p=>g p.1) vs (g k)=none/\valV kvs k=none)\/∃ x y,valV kvs k=some x/\lk (kvs.map fun p=>g p.1) vs (g k)=some y/\P x y
 | [],[],k,P,_,_=>.inl ⟨rfl,rfl⟩
 | [],_::_,_,_,h,_=>by simp at h
 | _::_,[],_,_,h,_=>by simp at h
 | p::r,v::vs,k,P,hl,h=>by
   by_cases e:p.1=k
   ·refine .inr ⟨p.2,v,zbK e,?_,h 0 p.2 v rfl rfl⟩
    show (if g p.1=g k then some v else lk (r.map fun p=>g p.1) vs (g k))=some v
    rw [if_pos (by rw [e])]
   ·have hne:¬ g p.1=g k:=fun z=>e (hg _ _ z)
    rw [zbZ e]
    have e2:lk ((p::r).map fun p=>g p.1) (v::vs) (g k)=lk (r.map fun p=>g p.1) vs (g k):=by
     show (if g p.1=g k then some v else lk (r.map fun p=>g p.1) vs (g k))=_
     rw [if_neg hne]
    rw [e2]
    exact zcS g hg r vs k P (by simpa using hl) fun i x y h1 h2=>h (i + 1) x y (by simpa using h1) (by simpa using h2)
theorem zlk {x:V} {a:Addr} {t:Bool} {d:D} {ks vs:List D} (r1:Rep K H x d) (r2:Rep K H (.ref a) (.dct t ks vs)) (hk:isKey t d=true):∃ o,DGet H a x o/\o.isSome=(open Classical in decide (d∈ks))/\
  ((lk ks vs d=none/\o=none)\/∃ v e,o=some v/\lk ks vs d=some e/\Rep K H v e):=by
 cases r2 with
 | dK e k r=>
   rename_i kvs
   obtain ⟨key,rfl,rfl⟩:=zcV r1 hk
   refine ⟨_,.inl ⟨kvs,key,e,rfl,rfl⟩,?_,?_⟩
   ·rw [k]; exact zcv keyD (fun _ _=>zbA) kvs key
   ·rw [k]
    rcases zcS keyD (fun _ _=>zbA) kvs vs key (fun v e=>Rep K H v e) (by have:=r.len; simpa using this) (fun i x y h1 h2=>by
     obtain ⟨x',hx',rx⟩:=r.get h2
     rw [h1] at hx'; cases hx'; exact rx) with ⟨h1,h2⟩ | ⟨v,e,h1,h2,h3⟩
    ·exact .inl ⟨h1,h2⟩
    ·exact .inr ⟨v,e,h1,h2,h3⟩
 | dT e k r=>
   rename_i kvs
   cases r1 with
   | tup e1 q=>
     obtain ⟨keys,rfl,rfl⟩:=zfq q hk
     have inj:∀ a b:List Key,D.tup (a.map keyD)=D.tup (b.map keyD)->a=b:=fun a b z=>zbW (D.tup.inj z)
     refine ⟨_,.inr ⟨kvs,keys,_,e,rfl,e1,rfl⟩,?_,?_⟩
     ·rw [k]; exact zcv (fun l=>D.tup (l.map keyD)) inj kvs keys
     ·rw [k]
      rcases zcS (fun l=>D.tup (l.map keyD)) inj kvs vs keys (fun v e=>Rep K H v e) (by have:=r.len; simpa using this) (fun i x y h1 h2=>by
       obtain ⟨x',hx',rx⟩:=r.get h2
       rw [h1] at hx'; cases hx'; exact rx) with ⟨h1,h2⟩ | ⟨v,e,h1,h2,h3⟩
      ·exact .inl ⟨h1,h2⟩
      ·exact .inr ⟨v,e,h1,h2,h3⟩
   | _=>cases hk
end
section
variable {X:Cx} {K:W.Frag}
def rInDict (neg:Bool):R2:=fun x y H Q=>∃ a o,y=.ref a/\DGet H a x o/\Q (.bl (if neg then !o.isSome else o.isSome)) H
theorem zhB (hu:X.A.units + 1 < cLine):OpR X (compareOp .In) (rInDict false):=by
 intro pins s σ H x y v u Q I rx ry h
 obtain ⟨a,o,rfl,g,q⟩:=h
 cases ry
 exact d_in hu I g rx fun s' I'=>⟨.bl _,H,I',rfl,q⟩
theorem zeK (hu:X.A.units + 1 < cLine):OpR X (compareOp .NotIn) (rInDict true):=by
 intro pins s σ H x y v u Q I rx ry h
 obtain ⟨a,o,rfl,g,q⟩:=h
 cases ry
 exact zll hu I g rx fun s' I'=>⟨.bl _,H,I',rfl,q⟩
def rInAll (K:W.Frag) (neg:Bool):R2:=fun x y H Q=>rInD K neg x y H Q\/rInDict neg x y H Q
theorem zjv (hu:X.A.units + 32 < cLine):OpR X (compareOp .In) (rInAll X.K false):=FL.OpR.or (znE hu) (zhB (by lia))
theorem zeZ (hu:X.A.units + 32 < cLine):OpR X (compareOp .NotIn) (rInAll X.K true):=FL.OpR.or (zhY hu) (zeK (by lia))
open Classical in
theorem zlc {neg:Bool} {H:Hp} {x y:V} {p q:D} {k:Bool} {Q:VK} (r1:Rep K H x p) (r2:Rep K H y q) (e:cIn p q=some k) (hq:Q (.bl (if neg then !k else k)) H):rInAll K neg x y H Q:=by
 unfold cIn at e
 split at e
 ·rename_i l
  split at e
  ·cases e
  ·rename_i h
   have e':=qh e
   subst e'
   refine .inl ⟨p,l,r1,.inl r2,fun d hd=>?_,hq⟩
   have h':∀ x∈l,(clash x p || decide (30 < dep x))=false:=by simpa using h
   have:=h' d hd
   rw [or_eq_false_iff] at this
   exact ⟨this.1,by have:=of_decide_eq_false this.2; lia⟩
 ·rename_i l
  split at e
  ·cases e
  ·rename_i h
   have e':=qh e
   subst e'
   refine .inl ⟨p,l,r1,.inr r2,fun d hd=>?_,hq⟩
   have h':∀ x∈l,(clash x p || decide (30 < dep x))=false:=by simpa using h
   have:=h' d hd
   rw [or_eq_false_iff] at this
   exact ⟨this.1,by have:=of_decide_eq_false this.2; lia⟩
 ·rename_i t ks vs
  split at e
  ·rename_i h
   have e':=qh e
   cases y with
   | ref a=>
     obtain ⟨o,g,ho,_⟩:=zlk r1 r2 h
     refine .inr ⟨a,o,rfl,g,?_⟩
     rw [ho,e']
     exact hq
   | _=>cases r2
  ·cases e
 ·cases e
end
open PySem.Builtin.Str (strSliceIndices)
theorem zb2 (n d:Nat) (o:Option Int):HT.sIx n d o=FL.sIx n d o:=by cases o <;> rfl
theorem zh0 (n d:Nat) (hd:d<=n) (o:Option Int):FL.sIx n d o<=n:=by rw [<- zb2]; exact HT.sIx_le n d hd o
def cutS (z:Str) (lo hi:Option Int):Str:=⟨(cutL z.cps.toList lo hi).toArray⟩
theorem zgK (lo hi:Option Int) (n:Nat):strSliceIndices lo hi 1 n=(List.range (FL.sIx n n hi - FL.sIx n 0 lo)).map (FL.sIx n 0 lo + ·):=by
 rw [<- sliceRange_one]
 have clip:∀ i:Int,max 0 (min (if i < 0 then i + (n:Int) else i) (n:Int))=(((if i < 0 then (i + (n:Int)).toNat else min i.toNat n):Nat):Int):=by
  intro i
  by_cases h:i < 0
  ·rw [if_pos h,if_pos h]; lia
  ·rw [if_neg h,if_neg h]; lia
 unfold strSliceIndices
 cases lo <;> cases hi <;> simp only [show (1:Int) > 0 by decide,if_true,FL.sIx,clip] <;> rfl
theorem zhW (x:Str) (lo hi:Option Int):Txt.slice x lo hi=cutS x lo hi:=by
 have hlen:x.length=x.cps.toList.length:=by show x.cps.size=_; rw [length_toList]
 unfold Txt.slice cutS cutL
 rw [zgK,pick_run,<- hlen]
 split
 ·rename_i h
  simp only [beq_self_eq_true,Bool.true_and,length_map,length_range,beq_iff_eq] at h
  have h1:=zh0 x.length x.length (le_refl _) hi
  have h2:FL.sIx x.length 0 lo=0\/x.length=0:=by lia
  have h3:FL.sIx x.length 0 lo=0:=h2.elim id fun z=>by have:=zh0 x.length 0 (zero_le _) lo; lia
  rw [h,h3,drop_zero,take_of_length_le (by rw [hlen]; exact le_refl _)]
 ·rfl
section
variable {X:Cx}
def rSlS:V->Option Int->Option Int->Hp->VK->Prop:=fun x lo hi H Q=>∃ z,x=.str z/\z.length<=sizeLine/\Q (.str (cutS z lo hi)) H
theorem zhv {v:Value} {o:Option Int} (p:IsPart v o):∃ l:Option (Int×Tok),v=partValue l/\o=l.map (·.1):=by
 cases p with
 | none=>exact ⟨none,rfl,rfl⟩
 | int i t=>exact ⟨some (i,t),rfl,rfl⟩
theorem zmy:SlR X rSlS:=by
 intro pins s σ H x v vl vu lo hi sl Q I rx hs pl pu h
 obtain ⟨z,rfl,hz,q⟩:=h
 obtain ⟨t,rfl⟩:=rx
 obtain ⟨l,rfl,rfl⟩:=zhv pl
 obtain ⟨u,rfl,rfl⟩:=zhv pu
 rw [<- zhW] at q
 exact ⟨"str",_,F.slot_str_getitem.lookup,typeIs_str _ _ _,wpAny_getItem_str_slice (l:=l) (u:=u) (st:=none) hs rfl
  (post_val_or_str ⟨le_trans (Txt.slice_le z _ _) hz,fun t' k=>⟨.str (Txt.slice z (l.map (·.1)) (u.map (·.1))),H,I.tok _,⟨_,rfl⟩,q⟩⟩)⟩
def rSlW (K:W.Frag):V->Option Int->Option Int->Hp->VK->Prop:=fun x lo hi H Q=>∃ a xs,x=.ref a/\SqT K H a xs/\
 (HT.sIx xs.length 0 lo=0/\HT.sIx xs.length xs.length hi=xs.length)/\Q (.ref a) H
end
section
variable {prog:Program} {w:World} {A:Around} {E:Value->Shared->Prop} {s:Shared}
theorem zbv {t sl:Addr} {items:Array Value} {vl vu:Value} {lo hi:Option Int} {Q:Value->Shared->Prop} (ht:IsTup s.heap t items) (hs:s.heap.IsSliceOf sl vl vu .none) (pl:IsPart vl lo) (pu:IsPart vu hi)
  (hw:HT.sIx items.size 0 lo=0/\HT.sIx items.size items.size hi=items.size) (h:Q (.ref t) s):wpAny (model prog w) A (getItem (.ref t) (.ref sl)) Q E s:=by
 obtain ⟨os,hos,hcs,hds⟩:=id hs
 have hTs:s.TypeIs (.ref sl) "slice":=⟨os,hos,hcs⟩
 unfold getItem
 try with_reducible refine wpAny_holding ?_
 first | refine qa (qb ?_) | skip
 refine qa (wpAny_sequenceKey ht.typeIs (by decide) ?_)
 refine qa (wpAny_callSpecial?_slot (name:=Str.ofString "__getitem__") ht.typeIs PyProof.Rows.slot_tuple_getitem
  (wpAny_call_entry PyProof.Rows.slot_tuple_getitem ht.typeIs entry_tuple_getitem ?_ (args_tuple_getitem _ _)))
 show wpAny _ _ (Builtin.Tuple.tupleItemsOf (.ref t) >>= _) _ _ s
 refine qa (tupleItemsOf_ ht ?_)
 refine qa (wpAny_typeOf hTs ?_)
 rw [if_pos (by decide)]
 refine qa (HT.sliceApplied_gen hs pl pu ?_)
 have hyes:(((HT.sIx items.size 0 lo:Nat):Int) == 0 && (1:Int) == 1 && (HT.sIx items.size items.size hi - HT.sIx items.size 0 lo) == items.size)=true:=by
  rw [hw.1,hw.2]; simp
 show wpAny _ _ (if (((HT.sIx items.size 0 lo:Nat):Int) == 0 && (1:Int) == 1 && (HT.sIx items.size items.size hi - HT.sIx items.size 0 lo) == items.size)=true then _ else _) _ _ s
 rw [if_pos hyes]
 unfold Builtin.Tuple.tupleIsExact
 refine qa (qa (wpAny_typeOf ht.typeIs (qb ?_)))
 rw [if_pos (by decide)]
 first
  | exact qa (wpAny_rule (qb ⟨_,rfl,qb h⟩))
  | exact qa (qb (qb ⟨_,rfl,qb h⟩))
  | exact qb ⟨_,rfl,qb h⟩
end
section
variable {X:Cx}
theorem ziM:SlR X (rSlW X.K):=by
 intro pins s σ H x v vl vu lo hi sl Q I rx hs pl pu h
 obtain ⟨a,xs,rfl,hx,hw,q⟩:=h
 cases rx
 obtain ⟨its,r,ht,hz⟩:=I.tuple hx
 have hlen:its.toArray.size=xs.length:=by rw [size_toArray]; exact r.length.symm
 refine ⟨"tuple",_,PyProof.Rows.slot_tuple_getitem.lookup,ht.typeIs,?_⟩
 exact zbv ht hs pl pu (by rw [hlen]; exact hw) ⟨.ref a,H,I,rfl,q⟩
end
section
variable {K:W.Frag} {F H:Hp}
theorem Reps.drop:∀ {xs:List V} {l:List D} (n:Nat),Reps K F xs l->Reps K F (xs.drop n) (l.drop n)
 | _,_,0,r=>by rw [drop_zero,drop_zero]; exact r
 | _,_,n + 1,.nil=>by rw [List.drop_nil,List.drop_nil]; exact .nil
 | _,_,n + 1,.cons a b=>by rw [List.drop_succ_cons,List.drop_succ_cons]; exact Reps.drop n b
theorem Reps.take:∀ {xs:List V} {l:List D} (n:Nat),Reps K F xs l->Reps K F (xs.take n) (l.take n)
 | _,_,0,r=>by rw [take_zero,take_zero]; exact .nil
 | _,_,n + 1,.nil=>by rw [take_nil,take_nil]; exact .nil
 | _,_,n + 1,.cons a b=>by rw [List.take_succ_cons,List.take_succ_cons]; exact .cons a (Reps.take n b)
theorem Reps.cut {xs:List V} {l:List D} {lo hi:Option Int} (r:Reps K F xs l):Reps K F (cutV xs lo hi) (cutL l lo hi):=by
 unfold cutV cutL
 rw [zb2,zb2,r.len]
 exact (r.drop _).take _
def rSl (K:W.Frag):V->Option Int->Option Int->Hp->VK->Prop:=fun x lo hi H Q=>rSlL K x lo hi H Q\/rSlT K x lo hi H Q\/rSlW K x lo hi H Q\/rSlS x lo hi H Q
theorem zhM {X:Cx}:SlR X (rSl X.K):=SlR.or zkZ (SlR.or zoe (SlR.or ziM zmy))
theorem zkJ {σ:St} {ρ:Env} {F G H:Hp} {v:V} {d:D} {lo hi:Option Int} {s:S} {Q:VK} (rel:Rel K ρ σ F G H) (re:RepE K F H v d) (e:slD d lo hi=some s)
  (hq:∀ v F' H',Same F F'->Rel K (ρ++[some s]) (σ++[some v]) F' G H'->Q v H'):rSl K v lo hi H Q:=by
 cases d with
 | str l=>
   cases e
   obtain ⟨x,rfl,h1,h2⟩:=re.str
   subst h1
   refine .inr (.inr (.inr ⟨x,rfl,?_,hq _ F H (Same.refl F) (rel.push (.str rfl ?_))⟩))
   ·have:x.length=x.cps.toList.length:=by show x.cps.size=_; rw [length_toList]
    rw [this]; exact h2
   ·refine le_trans ?_ h2
    unfold cutL
    rw [length_take,length_drop]
    lia
 | tup l=>
   cases e
   obtain ⟨a,xs,rfl,h1,r1⟩:=re.tup
   by_cases hw:HT.sIx xs.length 0 lo=0/\HT.sIx xs.length xs.length hi=xs.length
   ·refine .inr (.inr (.inl ⟨a,xs,rfl,SqT.of (rel.fr _ _ h1),hw,hq _ F H (Same.refl F) (rel.push ?_)⟩))
    have:cutL l lo hi=l:=by
     unfold cutL
     rw [<- r1.len,<- zb2,<- zb2,hw.1,hw.2,drop_zero,take_of_length_le (by rw [<- r1.len]; lia)]
    rw [this]
    exact .tup h1 r1
   ·refine .inr (.inl ⟨a,xs,rfl,SqT.of (rel.fr _ _ h1),hw,fun p hp=>?_⟩)
    have n2:=(rel.free hp).1
    exact hq _ _ _ (Same.upd n2) ((rel.newF hp).push (.tup zao (r1.cut.mono (Same.upd n2))))
 | lst l=>
   cases e
   obtain ⟨a,xs,rfl,h1,r1⟩:=re.lst rel.fr
   exact .inl ⟨a,xs,rfl,h1,fun p hp=>hq _ F _ (Same.refl F) (rel.newLD hp r1.cut)⟩
 | _=>cases e
end
section
variable {X:Cx} {σ:St} {H1:Hp} {Q:VK}
theorem nextOf {wb:WE} {k:R->R->Env->WQ->WX->Prop} {x:R} {ρ1:Env} {v:V} {F G:Hp} {P:WQ} {PX:WX} (r1:Rel X.K (ρ1++[slotOf x]) (σ++[some v]) F G H1) (rv1:RV σ v x) (hp1:wb ρ1 (fun y ρ2=>k x y ρ2 P PX) PX)
  (hok:∀ r ρ' v F' H',P r ρ'->Same F F'->Rel X.K (ρ'++[slotOf r]) (σ++[some v]) F' G H'->RV σ v r->Q v H') (hx:XC X (·=σ) F G PX):tW X wb σ H1 fun u H2=>Two X σ k Q v u H2:=by
 have h1:=len1 r1
 obtain ⟨G1,rel1,gg,back⟩:=r1.hide h1
 refine ⟨F,G1,ρ1,_,PX,rel1,hp1,fun y ρ2 u F2 H2 hp2 s2 r2 rv2=>?_,hx.mono (fun _ z=>z) (Same.refl F) gg⟩
 have h2:=len1 r2
 have r3:=back s2 r2
 rw [append_assoc,append_assoc] at r3
 exact ⟨F2,G,ρ2,x,y,P,PX,Rel.swap (ρ1:=[slotOf y]) (σ1:=[some u]) (ρ2:=[slotOf x]) (σ2:=[some v]) h2 rfl r3,h2,rv1,rv2,hp2,fun r ρ' v F' H' a b c d=>hok r ρ' v F' H' a (s2.trans b) c d,hx.grow s2⟩
end
section
variable {X:Cx} {a b c:Expr} {wa wb wc:WE} {pos p2:Pos}
theorem match_int {ρ:Env} {o:Option D} {k:Int->Prop} (h:(match o with | some (.int i)=>k i | _=>False)):∃ i,o=some (.int i)/\k i:=by
 split at h
 ·exact ⟨_,rfl,h⟩
 ·exact h.elim
theorem zg9 {K:W.Frag} {ρ:Env} {σ:St} {F G H:Hp} {x y:R} {v u:V} {lo hi:Option Int} {P:WQ} {Q:VK} {q:D} (rel:Rel K (ρ++[slotOf x,slotOf y]) (σ++[some v,some u]) F G H) (hl:ρ.length=σ.length) (rx:RV σ v x)
  (hk:need (viewC x ρ) fun d=>need (slD d lo hi) fun s=>P (.v s) ρ)
  (hok:∀ r ρ' v F' H',P r ρ'->Same F F'->Rel K (ρ'++[slotOf r]) (σ++[some v]) F' G H'->RV σ v r->Q v H'):rSl K v lo hi H Q:=by
 obtain ⟨d,ed,hk⟩:=zaf hk
 obtain ⟨s,es,hk⟩:=zaf hk
 have relx:Rel K (ρ++[slotOf x]) (σ++[some v]) F G H:=by
  have:=Rel.swap (ρ1:=[slotOf x]) (σ1:=[some v]) (ρ2:=[slotOf y]) (σ2:=[some u]) hl rfl rel
  exact Rel.mid (ρ:=ρ) (σ:=σ) this hl
 obtain ⟨F1,s1,re,r1⟩:=takeC (ρ':=[]) (σ':=[]) relx hl rx ed
 exact zkJ (ρ:=ρ) (σ:=σ) (by simpa using r1) re es fun v F' H' sm r'=>hok _ ρ v F' H' hk (s1.trans sm) r' trivial
theorem zbR (ha:FE X a wa) (hb:FE X b wb):FE X (.Subscript a (.Slice (some b) none none p2) pos) (wSl wa (some wb) none):=fun pn xe hp=>by
 refine PE.imp (zdG (zhM (X:=wp X pn xe)) (ha pn xe hp) (zdv (hb pn xe hp)) zgV) fun σ H Q q=>?_
 refine (two (k:=fun x y ρ2 Q E=>match view y ρ2 with
  | some (.int i)=>need (viewC x ρ2) fun d=>need (slD d (some i) none) fun s=>Q (.v s) ρ2
  | _=>False) q).mono fun v H1 h1=>h1.mono fun u H2 h2=>?_
 obtain ⟨F,G,ρ,x,y,P,PX,rel,hl,rx,ry,hk,hok,hx⟩:=h2
 obtain ⟨i,ei,hk⟩:=match_int (ρ:=ρ) (k:=fun i=>need (viewC x ρ) fun d=>need (slD d (some i) none) fun s=>P (.v s) ρ) hk
 have ru:=look (ρ':=[]) (σ':=[]) (rel.mid hl) hl ry ei
 cases ru
 exact ⟨i,rfl,zg9 (q:=.non) rel hl rx hk hok⟩
theorem za8 (ha:FE X a wa) (hb:FE X b wb):FE X (.Subscript a (.Slice none (some b) none p2) pos) (wSl wa none (some wb)):=fun pn xe hp=>by
 refine PE.imp (zdG (zhM (X:=wp X pn xe)) (ha pn xe hp) zgV (zdv (hb pn xe hp))) fun σ H Q q=>?_
 refine (two (k:=fun x y ρ2 Q E=>match view y ρ2 with
  | some (.int i)=>need (viewC x ρ2) fun d=>need (slD d none (some i)) fun s=>Q (.v s) ρ2
  | _=>False) q).mono fun v H1 h1=>h1.mono fun u H2 h2=>?_
 obtain ⟨F,G,ρ,x,y,P,PX,rel,hl,rx,ry,hk,hok,hx⟩:=h2
 obtain ⟨i,ei,hk⟩:=match_int (ρ:=ρ) (k:=fun i=>need (viewC x ρ) fun d=>need (slD d none (some i)) fun s=>P (.v s) ρ) hk
 have ru:=look (ρ':=[]) (σ':=[]) (rel.mid hl) hl ry ei
 cases ru
 exact ⟨i,rfl,zg9 (q:=.non) rel hl rx hk hok⟩
theorem zbD (ha:FE X a wa) (hb:FE X b wb) (hc:FE X c wc):FE X (.Subscript a (.Slice (some b) (some c) none p2) pos) (wSl wa (some wb) (some wc)):=fun pn xe hp=>by
 refine PE.imp (zdG (zhM (X:=wp X pn xe)) (ha pn xe hp) (zdv (hb pn xe hp)) (zdv (hc pn xe hp))) fun σ H Q q=>?_
 refine (two (k:=fun x y ρ2 Q E=>match view y ρ2 with
  | some (.int i)=>wc ρ2 (fun z ρ3=>match view z ρ3 with
    | some (.int j)=>need (viewC x ρ3) fun d=>need (slD d (some i) (some j)) fun s=>Q (.v s) ρ3
    | _=>False) E
  | _=>False) q).mono fun v H1 h1=>h1.mono fun u H2 h2=>?_
 obtain ⟨F,G,ρ,x,y,P,PX,rel,hl,rx,ry,hk,hok,hx⟩:=h2
 obtain ⟨i,ei,hk⟩:=match_int (ρ:=ρ) (k:=fun i=>wc ρ (fun z ρ3=>match view z ρ3 with
   | some (.int j)=>need (viewC x ρ3) fun d=>need (slD d (some i) (some j)) fun s=>P (.v s) ρ3
   | _=>False) PX) hk
 have ru:=look (ρ':=[]) (σ':=[]) (rel.mid hl) hl ry ei
 cases ru
 have relx:Rel X.K (ρ++[slotOf x]) (σ++[some v]) F G H2:=by
  have:=Rel.swap (ρ1:=[slotOf x]) (σ1:=[some v]) (ρ2:=[slotOf y]) (σ2:=[some (.int i)]) hl rfl rel
  exact Rel.mid (ρ:=ρ) (σ:=σ) this hl
 refine ⟨i,rfl,(nextOf (X:=wp X pn xe) (k:=fun x z ρ3 P PX=>match view z ρ3 with
   | some (.int j)=>need (viewC x ρ3) fun d=>need (slD d (some i) (some j)) fun s=>P (.v s) ρ3
   | _=>False) relx rx hk hok hx).mono fun t H3 h3=>?_⟩
 obtain ⟨F,G,ρ,x,y,P,PX,rel,hl,rx,ry,hk,hok,hx⟩:=h3
 obtain ⟨j,ej,hk⟩:=match_int (ρ:=ρ) (k:=fun j=>need (viewC x ρ) fun d=>need (slD d (some i) (some j)) fun s=>P (.v s) ρ) hk
 have ru:=look (ρ':=[]) (σ':=[]) (rel.mid hl) hl ry ej
 cases ru
 exact ⟨j,rfl,zg9 (q:=.non) rel hl rx hk hok⟩
end
end FL
end
section
namespace FL
open PySem
def wMS (f:List Nat->List D->Option S) (o:WE) (a:WA):WE:=fun ρ Q E=>o ρ (fun x ρ1=>match x with
 | .v (.sh (.str l))=>a ρ1 (fun rs ρ2=>need (rs.mapM fun r=>viewC r ρ2) fun ds=>need (f l ds) fun s=>Q (.v s) ρ2) E
 | _=>False) E
def strsD:List D->Option (List (List Nat))
 | []=>some []
 | .str x::r=>(strsD r).map (x::·)
 | _::_=>none
@[simp] theorem zek (l:List (List Nat)):strsD (l.map .str)=some l:=by
  induction l with
  | nil=>rfl
  | cons a r ih=>rw [map_cons,strsD,ih]; rfl
def joinD (sep:List Nat):List (List Nat)->List Nat
 | []=>[]
 | [x]=>x
 | x::r=>x++sep++joinD sep r
theorem zcj (sep:List Nat):∀ ys:List (List Nat),(joinD sep ys).length<=(ys.map List.length).sum + ys.length * sep.length
 | []=>zero_le _
 | [x]=>by simp [joinD]
 | x::y::r=>by
   have:=zcj sep (y::r)
   rw [joinD,length_append,length_append,map_cons,sum_cons,length_cons (a:=x),Nat.succ_mul]
   ·lia
   ·intro h; cases h
theorem zew (ys:List (List Nat)):joinD [] ys=ys.flatten:=by
 induction ys with
 | nil=>rfl
 | cons x r ih=>
   cases r with
   | nil=>simp [joinD]
   | cons y r=>rw [joinD,ih]; simp; intro h; cases h
def joinS (sep:List Nat) (l:List D):Option S:=(strsD l).bind fun ys=>if (ys.map List.length).sum + ys.length * sep.length<=big then some (.sh (.str (joinD sep ys))) else none
def mJoin (sep:List Nat):List D->Option S
 | [.lst l]=>joinS sep l
 | [.tup l]=>joinS sep l
 | _=>none
def wPopAt (j:Nat) (e:WE):WE:=fun ρ Q E=>match slot ρ j with
 | some (.lst _)=>e ρ (fun r ρ2=>match view r ρ2,slot ρ2 j with
   | some (.int i),some (.lst l)=>need (if l.length<=big then ixN l.length i else none) fun k=>need l[k]? fun s=>Q (.v s) (ρ2.set j (some (.lst (l.eraseIdx k))))
   | _,_=>False) E
 | _=>False
def bools:List D->Option (List Bool)
 | []=>some []
 | .bl x::r=>(bools r).map (x::·)
 | _::_=>none
@[simp] theorem zmv (l:List Bool):bools (l.map .bl)=some l:=by
  induction l with
  | nil=>rfl
  | cons a r ih=>rw [map_cons,bools,ih]; rfl
end FL
end
section
namespace FL
open PySem PySem.Spec PyProof.Rows L2
section
variable {X:Cx} {e:Expr} {es:List Expr} {wo:WE} {wa:WA} {o:Expr} {name:Str} {apos cpos:Pos} {id:String} {r:V->List V->Hp->VK->Prop} {f:List Nat->List D->Option S}
def DoesMS (K:W.Frag) (r:V->List V->Hp->VK->Prop) (f:List Nat->List D->Option S):Prop:=∀ (σ:St) (ρ:Env) (F G H:Hp) (x:Str) (vs:List V) (ds:List D) (s:S) (Q:VK),Rel K ρ σ F G H->x.cps.toList.length<=16777216->RepEs K F H vs ds->f x.cps.toList ds=some s->
 (∀ v F' H',Same F F'->Rel K (ρ++[some s]) (σ++[some v]) F' G H'->Q v H')->r (.str x) vs H Q
theorem zqT (hm:∀ pn xe,MtM (wp X pn xe) id r) (hd:DoesMS X.K r f) (slot:Slot "str" name id) (hty:typeOf (.builtin id)=pure (.type "method_descriptor")) (ho:FE X o wo) (ha:FA X (e::es) wa)
  (hbase:attributeBase o name X.env (eval o X.env)=eval o X.env:=by rfl)
  (hfew:((backTo cpos (starEach (e::es) X.env)).all (fun x=>!x.1) && (backToKw cpos (keywordEach [] X.env)).all (fun x=>x.1.isSome)
   && decide ((e::es).length + ([]:List Keyword).length + (if ([]:List Keyword).isEmpty then 0 else 1) < 30))=true:=by rfl)
  (hline:(apos.endLine == cpos.line)=true:=by rfl) (hs:starEach (e::es) X.env=(false,eval e X.env)::starEach es X.env:=by rfl) (hplain:(backTo cpos (starEach es X.env)).any (·.1)=false:=by rfl):
  FE X (.Call (.Attribute o name apos) (e::es) [] cpos) (wMS f wo wa):=fun pn xe hp=>by
 refine PE.imp (zgY (X:=wp X pn xe) PySem.F.plainAttrs_str slot hty (hm pn xe) (ho pn xe hp) (ha pn xe hp) hbase hfew hline hs hplain) fun σ H Q q=>?_
 refine (one (k:=fun x ρ1 Q E=>match x with
  | .v (.sh (.str l))=>wa ρ1 (fun rs ρ2=>need (rs.mapM fun r=>viewC r ρ2) fun ds=>need (f l ds) fun s=>Q (.v s) ρ2) E
  | _=>False) q).mono fun v H1 h1=>?_
 obtain ⟨F,G,ρ,x,P,PX,rel,hl,rx,hk,hok,hx⟩:=h1
 split at hk
 ·rename_i l
  have rp:=look (ρ':=[]) (σ':=[]) (x:=.v (.sh (.str l))) rel hl rx rfl
  cases rp with
  | str e1 z=>
    rename_i y
    subst e1
    refine ⟨rfl,F,G,ρ,_,PX,rel.drop hl,hk,fun rs ρ2 vs F2 H2 hk2 s2 r2 hl2 rvs=>?_,hx⟩
    obtain ⟨ds,ed,hk2⟩:=zaf hk2
    obtain ⟨s,es,hk2⟩:=zaf hk2
    obtain ⟨F3,s3,re,r3⟩:=takeAll (ρ':=[]) (σ':=[]) (by simpa using r2) hl2 rvs ed
    exact hd σ ρ2 F3 G H2 y vs ds s Q (by simpa using r3) z re es fun v F' H' sm r'=>hok _ ρ2 v F' H' hk2 (s2.trans (s3.trans sm)) r' trivial
 ·exact hk.elim
end
section
variable {X:Cx} {K:W.Frag}
theorem zhu {F:Hp} {xs:List V} {l:List D} {ys:List (List Nat)} (r:Reps K F xs l) (h:strsD l=some ys):∃ zs:List Str,xs=zs.map V.str/\ys=zs.map fun z=>z.cps.toList:=
 Reps.ind (P:=fun xs l=>∀ ys,strsD l=some ys->∃ zs:List Str,xs=zs.map V.str/\ys=zs.map fun z=>z.cps.toList) (fun ys h=>by cases h; exact ⟨[],rfl,rfl⟩) (fun a _ ih ys h=>by
  cases a with
  | @str x _ e z=>
    rw [strsD] at h
    obtain ⟨ys',h1,rfl⟩:=map_eq_some_iff.mp h
    obtain ⟨zs,rfl,rfl⟩:=ih _ h1
    exact ⟨x::zs,rfl,by rw [map_cons,e]⟩
  | _=>cases h) r ys h
theorem zf5 (sep:Str):∀ zs:List Str,(Str.join sep zs).cps.toList=joinD sep.cps.toList (zs.map fun z=>z.cps.toList)
 | []=>rfl
 | [x]=>rfl
 | x::y::r=>by
   show ((x++sep++Str.join sep (y::r):Str)).cps.toList=x.cps.toList++sep.cps.toList++joinD sep.cps.toList ((y::r).map fun z=>z.cps.toList)
   rw [<- zf5 sep (y::r)]
   show (x.cps++sep.cps++(Str.join sep (y::r)).cps).toList=_
   rw [toList_append,toList_append]
theorem zb7 {ys:List Str}:∀ {us:List Value},Vals (ys.map V.str) us->StrsAre us ys:=by
 induction ys with
 | nil=>intro us r; rw [map_nil] at r; cases r; exact .nil
 | cons n ns ih=>
   intro us r
   rw [map_cons] at r
   cases r with
   | cons r1 r2=>
     obtain ⟨t,e⟩:=r1
     subst e
     exact .cons n t (ih r2)
def rJoin (K:W.Frag):V->List V->Hp->VK->Prop:=fun x vs H Q=>∃ z a ys,x=.str z/\vs=[.ref a]/\(SqL K H a (ys.map V.str)\/SqT K H a (ys.map V.str))/\(ys.map (·.length)).sum + ys.length * z.length<=16777216/\Q (.str (Str.join z ys)) H
theorem zkM:MtM X "str.join" (rJoin X.K):=by
 intro pins s σ H x vs v us Q I rx rv h
 obtain ⟨z,a,ys,rfl,rfl,hq,hz,q⟩:=h
 obtain ⟨t,rfl⟩:=rx
 cases rv with
 | cons r1 r2=>
   cases r2
   cases r1
   have e:Txt.join z ys=Str.join z ys:=StrLaws.glued_eq_join z ys
   rcases hq with hq | hq
   ·obtain ⟨its,r,pl,_⟩:=I.list hq
    exact join_list pl.isList (zb7 r) hz fun t' k=>⟨.str (Str.join z ys),H,I.tok _,⟨_,by rw [e]⟩,q⟩
   ·obtain ⟨its,r,pl,_⟩:=I.tuple hq
    exact join_tuple pl (zb7 r) hz fun t' k=>⟨.str (Str.join z ys),H,I.tok _,⟨_,by rw [e]⟩,q⟩
theorem zeL {F G H:Hp} {ρ:Env} {σ:St} {x:Str} {a:Addr} {xs:List V} {l:List D} {s:S} {Q:VK} (rel:Rel K ρ σ F G H) (hq:SqL K H a xs\/SqT K H a xs) (r:Reps K F xs l) (e:joinS x.cps.toList l=some s)
  (k:∀ v F' H',Same F F'->Rel K (ρ++[some s]) (σ++[some v]) F' G H'->Q v H'):rJoin K (.str x) [.ref a] H Q:=by
 unfold joinS at e
 obtain ⟨ys,e1,e2⟩:=Option.bind_eq_some_iff.mp e
 obtain ⟨zs,rfl,rfl⟩:=zhu r e1
 split at e2
 ·rename_i hz
  cases e2
  have hl:∀ z:Str,z.cps.toList.length=z.length:=fun z=>by rw [length_toList]; rfl
  have e3:((zs.map fun z=>z.cps.toList).map List.length)=zs.map (·.length):=by rw [map_map]; exact map_congr_left fun z _=>hl z
  have hz2:=hz
  rw [e3,length_map,hl] at hz
  refine ⟨x,a,zs,rfl,rfl,hq,le_trans hz (by decide),k _ F H (Same.refl F) (rel.push (.str (zf5 x zs) ?_))⟩
  exact le_trans (zcj _ _) (le_trans hz2 (by decide))
 ·cases e2
theorem zhP:DoesMS K (rJoin K) mJoin:=by
 intro σ ρ F G H x vs ds s Q rel hz re e hq
 obtain ⟨d,v,rfl,rfl⟩:=arg1 (fun x y r=>by cases x <;> rfl) rfl re e
 cases d with
 | tup l=>
   obtain ⟨a,xs,rfl,h1,r1⟩:=re.1.tup
   exact zeL rel (.inr (SqT.of (rel.fr _ _ h1))) r1 e hq
 | lst l=>
   obtain ⟨a,xs,rfl,h1,r1⟩:=re.1.lst rel.fr
   exact zeL rel (.inl h1) r1 e hq
 | _=>cases e
end
section
variable {X:Cx} {e:Expr} {wo:WE} {wa:WA} {o:Expr} {apos cpos:Pos}
theorem zfi (ho:FE X o wo) (ha:FA X [e] wa)
  (hbase:attributeBase o "join" X.env (eval o X.env)=eval o X.env:=by rfl)
  (hfew:((backTo cpos (starEach [e] X.env)).all (fun x=>!x.1) && (backToKw cpos (keywordEach [] X.env)).all (fun x=>x.1.isSome)
   && decide ([e].length + ([]:List Keyword).length + (if ([]:List Keyword).isEmpty then 0 else 1) < 30))=true:=by rfl)
  (hline:(apos.endLine == cpos.line)=true:=by rfl) (hs:starEach [e] X.env=(false,eval e X.env)::starEach [] X.env:=by rfl) (hplain:(backTo cpos (starEach [] X.env)).any (·.1)=false:=by rfl):
  FE X (.Call (.Attribute o "join" apos) [e] [] cpos) (wMS mJoin wo wa):=zqT (fun _ _=>zkM) zhP PySem.F.slot_str_join PySem.F.type_str_join ho ha hbase hfew hline hs hplain
end
section
variable {K:W.Frag} {F H G:Hp} {σ:St} {ρ:Env}
theorem SReps.erase:∀ {xs:List V} {l:List S} {fp:List Addr} {m:Nat} {s:S},SReps K F H xs l fp->l[m]?=some s->∃ y fa fi fb,fp=fa++(fi++fb)/\xs[m]?=some y/\SRep K F H y s fi/\SReps K F H (xs.eraseIdx m) (l.eraseIdx m) (fa++fb)
 | _,_,_,_,_,.nil,h=>by simp at h
 | _,_,_,0,s,.cons (x:=x) (fp:=fp) (fq:=fq) a b,h=>by
   have e:=qh h
   subst e
   exact ⟨x,[],fp,fq,rfl,rfl,a,b⟩
 | _,_,_,m + 1,s,.cons (fp:=fp) (fq:=fq) a b,h=>by
   obtain ⟨y,fa,fi,fb,rfl,h1,h2,h3⟩:=SReps.erase (m:=m) b (by simpa using h)
   refine ⟨y,fp++fa,fi,fb,(append_assoc ..).symm,by simpa using h1,h2,?_⟩
   rw [append_assoc]
   exact .cons a h3
theorem Rel.popItem {n m:Nat} {l:List S} {s:S} {D:Addr} (r:Rel K ρ σ F G H) (hs:slot ρ n=some (.lst l)) (hσ:σ[n]?=some (some (.ref D))) (hm:l[m]?=some s):
  ∃ xs y,H D=some (.lst xs)/\xs.length=l.length/\xs[m]?=some y/\Rel K (ρ.set n (some (.lst (l.eraseIdx m)))++[some s]) (σ++[some y]) F G (upd H D (.lst (xs.eraseIdx m))):=by
 obtain ⟨fp,e,nd,ap⟩:=r.en
 obtain ⟨v',fa,fi,fb,e1,rfl,q,up⟩:=e.at hs
 rw [hσ] at e1
 have e2:V.ref D=v':=by simpa using e1
 subst e2
 cases q with
 | lst hD rl=>
   rename_i xs fl
   obtain ⟨y,ga,gi,gb,rfl,hy,sr,rl2⟩:=rl.erase hm
   refine ⟨xs,y,hD,rl.len,hy,?_⟩
   obtain ⟨na,nib,nab⟩:=nodup_append.mp nd
   obtain ⟨ni,nb,nib⟩:=nodup_append.mp nib
   obtain ⟨nD,nfl⟩:=nodup_cons.mp ni
   have hDa:D∉fa:=fun z=>nab D z D (qm _ qp) rfl
   have hDb:D∉fb:=fun z=>nib D qp D z rfl
   have apD:=ap D (qk _ (qm _ qp))
   have ne:∀ {l:List Addr},D∉l->∀ x∈l,upd H D (.lst (xs.eraseIdx m)) x=H x:=fun h x hx=>zaj fun z=>h (z ▸ hx)
   have hDg:D∉ga++gb:=fun z=>nD ((mem_append.mp z).elim (fun w=>qm _ w) fun w=>qk _ (qk _ w))
   have hDi:D∉gi:=fun z=>nD (qk _ (qm _ z))
   have new:SRep K F (upd H D (.lst (xs.eraseIdx m))) (.ref D) (.lst (l.eraseIdx m)) (D::(ga++gb)):=.lst zao (rl2.mono (Same.refl F) (ne hDg))
   have a2:=up (F':=F) (H':=upd H D (.lst (xs.eraseIdx m))) (o:=some (.lst (l.eraseIdx m))) (u:=some (.ref D)) (Same.refl F) (fun x hx=>zaj fun z=>(mem_append.mp hx).elim (fun w=>hDa (z ▸ w)) fun w=>hDb (z ▸ w)) (.so new .nil)
   rw [zdF hσ] at a2
   have a3:=a2.app (.so (sr.mono (Same.refl F) (ne hDi)) .nil)
   have pm:(fa++((D::(ga++gb))++[]++fb)++(gi++[])).Perm (fa++((D::(ga++(gi++gb)))++fb)):=by
    simp only [append_nil,append_assoc,cons_append]
    refine List.Perm.append_left _ (List.Perm.cons _ (List.Perm.append_left _ ?_))
    rw [<- append_assoc gi gb fb,<- append_assoc gb fb gi]
    refine (perm_append_comm (l₁:=gb++fb) (l₂:=gi)).trans ?_
    rw [append_assoc]
   refine ⟨Same.updR r.fr apD.1,fun x o w=>?_,_,a3,pm.nodup_iff.mpr nd,fun x hx=>ap x (pm.mem_iff.mp hx)⟩
   have hx:x≠D:=fun z=>by rw [z,apD.2] at w; cases w
   rw [zaj hx]
   exact r.gr x o w
end
section
variable {X:Cx} {pos tpos:Pos}
theorem zfX {j:Nat} {o e:Expr} {we:WE} {apos cpos:Pos} (ho:FE X o (wVar j)) (he:FE X e we)
  (hbase:attributeBase o "pop" X.env (eval o X.env)=eval o X.env:=by rfl)
  (hfew:((backTo cpos (starEach [e] X.env)).all (fun x=>!x.1) && (backToKw cpos (keywordEach [] X.env)).all (fun x=>x.1.isSome)
   && decide ([e].length + ([]:List Keyword).length + (if ([]:List Keyword).isEmpty then 0 else 1) < 30))=true:=by rfl)
  (hline:(apos.endLine == cpos.line)=true:=by rfl) (hs:starEach [e] X.env=[(false,eval e X.env)]:=by rfl):FE X (.Call (.Attribute o "pop" apos) [e] [] cpos) (wPopAt j we):=fun pn xe hp=>by
 refine PE.imp (zgY (X:=wp X pn xe) PySem.F.plainAttrs_list PySem.F.slot_list_pop PySem.F.type_list_pop zjQ (ho pn xe hp) (zaa he zab hs pn xe hp) hbase hfew hline hs rfl) fun σ H Q q=>?_
 obtain ⟨F,G,ρ,P,PX,rel,hw,hok,hx⟩:=q
 have hw':(match slot ρ j with
  | some (.lst _)=>we ρ (fun r ρ2=>match view r ρ2,slot ρ2 j with
    | some (.int i),some (.lst l)=>need (if l.length<=big then ixN l.length i else none) fun k=>need l[k]? fun s=>P (.v s) (ρ2.set j (some (.lst (l.eraseIdx k))))
    | _,_=>False) PX
  | _=>False):=hw
 cases qs:slot ρ j with
 | none=>rw [qs] at hw'; exact hw'.elim
 | some s0=>
   cases s0 with
   | lst l0=>
     rw [qs] at hw'
     refine ⟨F,G,ρ,fun y ρ1=>y=.loc j/\ρ1=ρ,PX,rel,by unfold wVar; rw [qs]; exact ⟨rfl,rfl⟩,fun y ρ1 o' F1 H1 hk s1 r1 rv=>?_,hx⟩
     obtain ⟨rfl,rfl⟩:=hk
     have l1:=len1 r1
     have hσ:σ[j]?=some (some o'):=rv
     have r2:=r1.drop l1
     obtain ⟨v',fp,e1,sr⟩:=r2.at qs
     rw [hσ] at e1
     have e2:o'=v':=by simpa using e1
     subst e2
     cases sr with
     | lst hD rl=>
       rename_i a xs fl
       refine ⟨.inl ⟨rfl,_,SqL.of hD⟩,F1,G,ρ1,fun rs ρ2=>match rs with | [r]=>(match view r ρ2,slot ρ2 j with | some (.int i),some (.lst l)=>need (if l.length<=big then ixN l.length i else none) fun k=>need l[k]? fun s=>P (.v s) (ρ2.set j (some (.lst (l.eraseIdx k)))) | _,_=>False) | _=>False,PX,r2,hw',fun rs ρ2 vs F2 H2 hk s2 r3 hl rvs=>?_,hx.grow s1⟩
       match rs,vs,rvs,r3,hk with
       | [r],[v],rvs,r3,hk=>
         dsimp only at hk
         split at hk
         ·rename_i i l ei ql
          obtain ⟨m,em,hk⟩:=zaf hk
          obtain ⟨s,es,hk⟩:=zaf hk
          have rp:=look (ρ':=[]) (σ':=[]) r3 hl rvs.1 ei
          cases rp
          split at em
          ·rename_i hz
           have r4:=r3.drop hl
           obtain ⟨ys,y,hD2,hlen,hy,r5⟩:=Rel.popItem r4 ql hσ es
           rw [<- hlen] at em hz
           obtain ⟨b1,b2,b3,b4⟩:=ze6 em
           have hb:ys.length<=1000000:=hz
           exact ⟨a,ys,i,m,y,rfl,rfl,hD2,by lia,by lia,b1,hy,hok _ _ y F2 _ hk (s1.trans s2) r5 trivial⟩
          ·cases em
         ·exact hk.elim
       | [],_,_,_,hk=>exact hk.elim
       | [_],[],rvs,_,_=>exact rvs.elim
       | [_],_::_::_,rvs,_,_=>exact rvs.2.elim
       | _::_::_,_,_,_,hk=>exact hk.elim
   | _=>rw [qs] at hw'; exact hw'.elim
end
section
variable {X:Cx} {K:W.Frag} {p pos:Pos} {e:Expr} {es:List Expr} {wa:WA}
theorem zjO:DoesB K (fun xs H Q=>∃ i j,xs=[.int i,.int j]/\Q (.int (if j > i then j else i)) H) bMax:=by
 intro σ ρ F G H vs ds s Q rel re e hq
 obtain ⟨d,d2,v,u,rfl,rfl⟩:=arg2 (fun x=>by cases x <;> rfl) (fun x y z r=>by cases x <;> first | rfl | (cases y <;> rfl)) rfl re e
 cases d with
 | int i=>
   cases d2 with
   | int j=>
     cases e
     have h1:=re.1.int
     have h2:=re.2.1.int
     subst h1
     subst h2
     exact ⟨i,j,rfl,hq _ F H (Same.refl F) (rel.push (.int _))⟩
   | _=>cases e
 | _=>cases e
theorem zjg:DoesB K (fun xs H Q=>∃ i j,xs=[.int i,.int j]/\Q (.int (if j < i then j else i)) H) bMin:=by
 intro σ ρ F G H vs ds s Q rel re e hq
 obtain ⟨d,d2,v,u,rfl,rfl⟩:=arg2 (fun x=>by cases x <;> rfl) (fun x y z r=>by cases x <;> first | rfl | (cases y <;> rfl)) rfl re e
 cases d with
 | int i=>
   cases d2 with
   | int j=>
     cases e
     have h1:=re.1.int
     have h2:=re.2.1.int
     subst h1
     subst h2
     exact ⟨i,j,rfl,hq _ F H (Same.refl F) (rel.push (.int _))⟩
   | _=>cases e
 | _=>cases e
theorem zmF (hc:X.calm=true) (hg:Gl X "max") (hm:X.mg "max"=none) (hv:bootBuiltins "max"=some (.builtin "max")) (ha:FA X (e::es) wa) (he:starEach (e::es) X.env=(false,eval e X.env)::starEach es X.env:=by rfl) (hpl:(backTo pos (starEach es X.env)).any (·.1)=false:=by rfl):FE X (.Call (.Name "max" p) (e::es) [] pos) (wB bMax wa):=
 zbp (fun _ _=>zhZ hc) zjO hg hm hv ha (by decide) (by decide) he hpl
theorem zl9 (hc:X.calm=true) (hg:Gl X "min") (hm:X.mg "min"=none) (hv:bootBuiltins "min"=some (.builtin "min")) (ha:FA X (e::es) wa) (he:starEach (e::es) X.env=(false,eval e X.env)::starEach es X.env:=by rfl) (hpl:(backTo pos (starEach es X.env)).any (·.1)=false:=by rfl):FE X (.Call (.Name "min" p) (e::es) [] pos) (wB bMin wa):=
 zbp (fun _ _=>ziq hc) zjg hg hm hv ha (by decide) (by decide) he hpl
end
end FL
end
section
namespace FL
open PySem
mutual
def cmpD:D->D->Ordering
 | .int i,.int j=>if i < j then .lt else if j < i then .gt else .eq
 | .str x,.str y=>if x < y then .lt else if y < x then .gt else .eq
 | .tup l,.tup m=>cmpDs l m
 | _,_=>.eq
def cmpDs:List D->List D->Ordering
 | [],[]=>.eq
 | [],_::_=>.lt
 | _::_,[]=>.gt
 | a::l,b::m=>match cmpD a b with
   | .eq=>cmpDs l m
   | o=>o
end
def leD (a b:D):Bool:=match cmpD a b with
 | .gt=>false
 | _=>true
@[simp] theorem zci (i j:Int):leD (.int i) (.int j)=decide (i<=j):=by
  unfold leD cmpD
  by_cases h:i < j
  ·rw [if_pos h,decide_eq_true (by lia)]
  ·rw [if_neg h]
   by_cases h2:j < i
   ·rw [if_pos h2,decide_eq_false (by lia)]
   ·rw [if_neg h2,decide_eq_true (by lia)]
@[simp] theorem zcw (x y:List Nat):leD (.str x) (.str y)=!decide (y < x):=by
  unfold leD cmpD
  by_cases h:x < y
  ·rw [if_pos h,decide_eq_false (fun h'=>lt_asymm h h')]; rfl
  ·rw [if_neg h]
   by_cases h2:y < x
   ·rw [if_pos h2,decide_eq_true h2]; rfl
   ·rw [if_neg h2,decide_eq_false h2]; rfl
def insD (x:D):List D->List D
 | []=>[x]
 | y::r=>if leD x y then x::y::r else y::insD x r
def sortD:List D->List D
 | []=>[]
 | x::r=>insD x (sortD r)
theorem zcE (x:D):∀ l:List D,(insD x l).Perm (x::l)
 | []=>.refl _
 | y::r=>by
   unfold insD
   split
   ·exact .refl _
   ·exact (List.Perm.cons y (zcE x r)).trans (.swap x y r)
theorem zaX:∀ l:List D,(sortD l).Perm l
 | []=>.refl _
 | x::r=>(zcE x _).trans (.cons x (zaX r))
structure OrdOn (P:D->Prop):Prop where
 tot:∀ a b,P a->P b->leD a b=true\/leD b a=true
 tr:∀ a b c,P a->P b->P c->leD a b=true->leD b c=true->leD a c=true
 anti:∀ a b,P a->P b->leD a b=true->leD b a=true->a=b
theorem zcz {P:D->Prop} (o:OrdOn P) (x:D) (hx:P x):∀ l:List D,(∀ d∈l,P d)->l.Pairwise (leD · ·=true)->(insD x l).Pairwise (leD · ·=true)
 | [],_,_=>List.pairwise_singleton _ _
 | y::r,hp,h=>by
   obtain ⟨h1,h2⟩:=pairwise_cons.mp h
   have hy:=hp y qp
   have hr:∀ d∈r,P d:=fun d hd=>hp d (qo _ hd)
   unfold insD
   split
   ·rename_i c
    refine pairwise_cons.mpr ⟨fun d hd=>?_,h⟩
    rcases mem_cons.mp hd with rfl | hd
    ·exact c
    ·exact o.tr x y d hx hy (hr d hd) c (h1 d hd)
   ·rename_i c
    refine pairwise_cons.mpr ⟨fun d hd=>?_,zcz o x hx r hr h2⟩
    rcases mem_cons.mp ((zcE x r).mem_iff.mp hd) with rfl | hd
    ·exact (o.tot d y hx hy).resolve_left c
    ·exact h1 d hd
theorem zbd {P:D->Prop} (o:OrdOn P):∀ l:List D,(∀ d∈l,P d)->(sortD l).Pairwise (leD · ·=true)
 | [],_=>.nil
 | x::r,hp=>zcz o x (hp x qp) _ (fun d hd=>hp d (qo _ ((zaX r).mem_iff.mp hd))) (zbd o r fun d hd=>hp d (qo _ hd))
theorem zbL {P:D->Prop} (o:OrdOn P):∀ l m:List D,(∀ d∈l,P d)->l.Perm m->l.Pairwise (leD · ·=true)->m.Pairwise (leD · ·=true)->l=m
 | [],m,_,p,_,_=>(List.nil_perm.mp p).symm
 | x::r,[],_,p,_,_=>absurd p.length_eq (by simp)
 | x::r,y::t,hp,p,h1,h2=>by
   obtain ⟨a1,a2⟩:=pairwise_cons.mp h1
   obtain ⟨b1,b2⟩:=pairwise_cons.mp h2
   have hx:=hp x qp
   have hy:P y:=hp y (p.mem_iff.mpr qp)
   have e:x=y:=by
    have m1:x∈y::t:=p.mem_iff.mp qp
    have m2:y∈x::r:=p.mem_iff.mpr qp
    rcases mem_cons.mp m1 with e | m1
    ·exact e
    ·rcases mem_cons.mp m2 with e | m2
     ·exact e.symm
     ·exact o.anti x y hx hy (a1 y m2) (b1 x m1)
   subst e
   rw [zbL o r t (fun d hd=>hp d (qo _ hd)) (List.Perm.cons_inv p) a2 b2]
theorem za2 {P:D->Prop} (o:OrdOn P) {l m:List D} (hp:∀ d∈l,P d) (p:m.Perm l) (h:m.Pairwise (leD · ·=true)):sortD l=m:=
 zbL o _ _ (fun d hd=>hp d ((zaX l).mem_iff.mp hd)) ((zaX l).trans p.symm) (zbd o l hp) h
def IsInt:D->Prop
 | .int _=>True
 | _=>False
def IsStr:D->Prop
 | .str _=>True
 | _=>False
theorem zdL:OrdOn IsInt where
 tot
  | .int a,.int b,_,_=>by simp only [zci,decide_eq_true_eq]; lia
 tr
  | .int a,.int b,.int c,_,_,_=>by simp only [zci,decide_eq_true_eq]; lia
 anti
  | .int a,.int b,_,_=>by simp only [zci,decide_eq_true_eq]; intro h1 h2; rw [Int.le_antisymm h1 h2]
theorem zfv:OrdOn IsStr where
 tot
  | .str a,.str b,_,_=>by
    simp only [zcw,Bool.not_eq_true',decide_eq_false_iff_not]
    by_cases h:b < a
    ·exact .inr fun h'=>lt_asymm h h'
    ·exact .inl h
 tr
  | .str a,.str b,.str c,_,_,_=>by
    simp only [zcw,Bool.not_eq_true',decide_eq_false_iff_not]
    intro h1 h2
    exact fun h=>(List.le_trans (l₁:=a) (l₂:=b) (l₃:=c) h1 h2) h
 anti
  | .str a,.str b,_,_=>by
    simp only [zcw,Bool.not_eq_true',decide_eq_false_iff_not]
    intro h1 h2
    have:a=b:=List.le_antisymm (as:=a) (bs:=b) h1 h2
    rw [this]
def intsD:List D->Option (List Int)
 | []=>some []
 | .int x::r=>(intsD r).map (x::·)
 | _::_=>none
@[simp] theorem zbQ (l:List Int):intsD (l.map .int)=some l:=by
  induction l with
  | nil=>rfl
  | cons a r ih=>rw [map_cons,intsD,ih]; rfl
def sortS (l:List D):Option S:=if l.length < 64/\((intsD l).isSome\/(strsD l).isSome) then some (.lst ((sortD l).map .sh)) else none
def bSorted:List D->Option S
 | [.lst l]=>sortS l
 | _=>none
end FL
end
section
namespace FL
open PySem PySem.Spec PyProof.Rows L2
section
variable {X:Cx} {K:W.Frag} {p pos:Pos} {e:Expr} {es:List Expr} {wa:WA}
theorem zdw {F:Hp} {xs:List V} {l:List D} {ys:List Int} (r:Reps K F xs l) (h:intsD l=some ys):xs=ys.map V.int/\l=ys.map D.int:=
 Reps.ind (P:=fun xs l=>∀ ys,intsD l=some ys->xs=ys.map V.int/\l=ys.map D.int) (fun ys h=>by cases h; exact ⟨rfl,rfl⟩) (fun a _ ih ys h=>by
  cases a with
  | int c=>
    rw [intsD] at h
    obtain ⟨ys',h1,rfl⟩:=map_eq_some_iff.mp h
    obtain ⟨e1,e2⟩:=ih _ h1
    rw [e1,e2]
    exact ⟨rfl,rfl⟩
  | _=>cases h) r ys h
theorem zaW:∀ {us:List Value} {ns:List Int},IntsAre us ns->Vals (ns.map V.int) us
 | _,_,.nil=>.nil
 | _,_,.cons i t r=>.cons ⟨t,rfl⟩ (zaW r)
theorem zeW:∀ {us:List Value} {ns:List Str},StrsAre us ns->Vals (ns.map V.str) us
 | _,_,.nil=>.nil
 | _,_,.cons i t r=>.cons ⟨t,rfl⟩ (zeW r)
def rSorted (K:W.Frag):List V->Hp->VK->Prop:=fun xs H Q=>∃ a,xs=[.ref a]/\
 ((∃ ns:List Int,ns.length < 64/\SqL K H a (ns.map V.int)/\∀ ns':List Int,ns'.Perm ns->ns'.Pairwise (·<=·)->∀ q,H q=none->Q (.ref q) (upd H q (.lst (ns'.map V.int))))\/
  (∃ zs:List Str,zs.length < 64/\SqL K H a (zs.map V.str)/\∀ zs':List Str,zs'.Perm zs->sortedS zs'=true->∀ q,H q=none->Q (.ref q) (upd H q (.lst (zs'.map V.str)))))
theorem zeE:CallR X (.builtin "sorted") (rSorted X.K):=by
 intro pins s σ H xs us Q I r h
 obtain ⟨a,rfl,h⟩:=h
 cases r with
 | cons r1 r2=>
   cases r2
   cases r1
   rcases h with ⟨ns,h64,hq,q⟩ | ⟨zs,h64,hq,q⟩
   ·obtain ⟨its,r,pl,_⟩:=I.list hq
    have hlen:its.length=ns.length:=by have:=r.length; rw [length_map] at this; exact this.symm
    refine sorted_ints pl.isList (zaY r) (by rw [hlen]; exact h64) fun out ns' a1 a2 a3=>?_
    obtain ⟨e,he⟩:=sortedAll_at s.heap its out
    have hz:ns'.length<=sizeLine:=by rw [a2.length_eq,sizeLine_eq]; lia
    refine ⟨.ref (s.heap.objs.size + 1),_,I.laid (t':=s.toks) (o:=.lst (ns'.map V.int)) (fun b ob w=>sortedAll_old w) (le_succ _) ?_,rfl,q ns' a2 a3 _ (I.hok.fresh (le_succ _))⟩
    exact ⟨by rw [length_map]; exact hz,out.toList,e,zaW a1,by rw [toArray_toList]; exact he⟩
   ·obtain ⟨its,r,pl,_⟩:=I.list hq
    have hlen:its.length=zs.length:=by have:=r.length; rw [length_map] at this; exact this.symm
    refine sorted_strs pl.isList (zb7 r) (by rw [hlen]; exact h64) fun out ns' a1 a2 a3=>?_
    obtain ⟨e,he⟩:=sortedAll_at s.heap its out
    have hz:ns'.length<=sizeLine:=by rw [a2.length_eq,sizeLine_eq]; lia
    refine ⟨.ref (s.heap.objs.size + 1),_,I.laid (t':=s.toks) (o:=.lst (ns'.map V.str)) (fun b ob w=>sortedAll_old w) (le_succ _) ?_,rfl,q ns' a2 a3 _ (I.hok.fresh (le_succ _))⟩
    exact ⟨by rw [length_map]; exact hz,out.toList,e,zeW a1,by rw [toArray_toList]; exact he⟩
theorem zbc {F:Hp}:∀ ns:List Int,Reps K F (ns.map V.int) (ns.map D.int)
 | []=>.nil
 | n::ns=>.cons (.int n) (zbc ns)
theorem zex {F:Hp}:∀ zs:List Str,(∀ z∈zs,z.cps.toList.length<=16777216)->Reps K F (zs.map V.str) (zs.map fun z=>D.str z.cps.toList)
 | [],_=>.nil
 | z::zs,h=>.cons (.str rfl (h z qp)) (zex zs fun y hy=>h y (qo _ hy))
theorem zdf {F:Hp}:∀ {xs:List V} {l:List D} {zs:List Str},Reps K F xs l->xs=zs.map V.str->l=(zs.map fun z=>D.str z.cps.toList)/\∀ z∈zs,z.cps.toList.length<=16777216
 | _,_,[],.nil,_=>⟨rfl,fun _ h=>by cases h⟩
 | _,_,_::_,.nil,h=>by simp at h
 | _,_,[],.cons _ _,h=>by simp at h
 | _,_,z::zs,.cons a b,h=>by
   rw [map_cons] at h
   injection h with h1 h2
   subst h1
   obtain ⟨e,k⟩:=zdf b h2
   cases a with
   | str e1 z1=>
     subst e1
     refine ⟨by rw [e]; rfl,fun y hy=>?_⟩
     rcases mem_cons.mp hy with rfl | hy
     ·exact z1
     ·exact k y hy
theorem zeX:∀ (r:List Str) (p:Str),risingS p r=true->((p::r).map fun z=>D.str z.cps.toList).Pairwise (leD · ·=true)
 | [],p,_=>List.pairwise_singleton _ _
 | x::r,p,h=>by
   have h':(!ltCps x.cps.toList p.cps.toList && risingS x r)=true:=h
   rw [and_eq_true,ltCps_eq] at h'
   have ih:=zeX r x h'.2
   have px:leD (.str p.cps.toList) (.str x.cps.toList)=true:=by rw [zcw]; exact h'.1
   rw [map_cons]
   refine pairwise_cons.mpr ⟨fun d hd=>?_,ih⟩
   rw [map_cons] at hd ih
   rcases mem_cons.mp hd with rfl | hd
   ·exact px
   ·obtain ⟨z,_,rfl⟩:=mem_map.mp hd
    exact zfv.tr _ (.str x.cps.toList) _ trivial trivial trivial px ((pairwise_cons.mp ih).1 _ hd)
theorem zgB:∀ r:List Str,sortedS r=true->(r.map fun z=>D.str z.cps.toList).Pairwise (leD · ·=true)
 | [],_=>.nil
 | x::r,h=>zeX r x h
theorem zfe:DoesB K (rSorted K) bSorted:=by
 intro σ ρ F G H vs ds s Q rel re e hq
 obtain ⟨d,v,rfl,rfl⟩:=arg1 (fun x y r=>by cases x <;> rfl) rfl re e
 cases d with
 | lst l=>
   have e:sortS l=some s:=e
   unfold sortS at e
   split at e
   ·rename_i hc
    cases e
    obtain ⟨a,xs,rfl,h1,r1⟩:=re.1.lst rel.fr
    refine ⟨a,rfl,?_⟩
    cases q1:intsD l with
    | some ns=>
      obtain ⟨e1,e2⟩:=zdw r1 q1
      subst e1
      subst e2
      refine .inl ⟨ns,by have:=hc.1; rwa [length_map] at this,h1,fun ns' p pw q hq'=>?_⟩
      have es:sortD (ns.map D.int)=ns'.map D.int:=za2 zdL (fun d hd=>by obtain ⟨z,_,rfl⟩:=mem_map.mp hd; trivial) (p.map _) (pairwise_map.mpr (pw.imp fun {a b} h=>by rw [zci]; exact decide_eq_true h))
      rw [es] at hq
      exact hq _ F _ (Same.refl F) (rel.newLD hq' (zbc ns'))
    | none=>
      cases q2:strsD l with
      | none=>rw [q1,q2] at hc; simp at hc
      | some ys=>
        obtain ⟨zs,e1,e2⟩:=zhu r1 q2
        subst e1
        obtain ⟨e3,sm⟩:=zdf r1 rfl
        subst e3
        refine .inr ⟨zs,by have:=hc.1; rwa [length_map] at this,h1,fun zs' p pw q hq'=>?_⟩
        have es:sortD (zs.map fun z=>D.str z.cps.toList)=zs'.map fun z=>D.str z.cps.toList:=za2 zfv (fun d hd=>by obtain ⟨z,_,rfl⟩:=mem_map.mp hd; trivial) (p.map _) (zgB zs' pw)
        rw [es] at hq
        exact hq _ F _ (Same.refl F) (rel.newLD hq' (zex zs' fun z hz=>sm z (p.mem_iff.mp hz)))
   ·cases e
 | _=>cases e
end
section
variable {M:Model} {A:Around} {E:Value->Shared->Prop} {s:Shared} {Q:Value->Shared->Prop}
theorem ze4 {v:Value} {d:Bool} (hv:∀ id,v≠.builtin id) (h:Q (.bool (v == .bool d)) s):wpAny M A (compareOp .Is v (.bool d)) Q E s:=by
 cases v <;> first | exact qb h | exact absurd rfl (hv _)
theorem zc9 {v:Value} {d:Bool} (hv:∀ id,v≠.builtin id) (h:Q (.bool (!(v == .bool d))) s):wpAny M A (compareOp .IsNot v (.bool d)) Q E s:=by
 cases v <;> first | exact qb h | exact absurd rfl (hv _)
end
section
variable {X:Cx} {K:W.Frag}
theorem RelV.bool_iff {x:V} {v:Value} (r:RelV x v) (d:Bool):(v == Value.bool d)=decide (x=.bl d):=by
 cases x with
 | bl b=>cases r; cases b <;> cases d <;> rfl
 | _=>first
   | (cases r; rfl)
   | (obtain ⟨t,rfl⟩:=r; rfl)
theorem RelV.noBuiltin {x:V} {v:Value} (r:RelV x v):∀ id,v≠.builtin id:=by
 intro id e
 subst e
 cases x <;> first
  | (cases r; done)
  | (obtain ⟨t,h⟩:=r; cases h)
def rIs (neg:Bool):R2:=fun x y H Q=>(y=.non/\Q (.bl (if neg then !decide (x=.non) else decide (x=.non))) H)\/∃ b,y=.bl b/\Q (.bl (if neg then !decide (x=.bl b) else decide (x=.bl b))) H
theorem zj9:OpR X (compareOp .Is) (rIs false):=by
 intro pins s σ H x y v u Q I rx ry h
 rcases h with ⟨rfl,q⟩ | ⟨b,rfl,q⟩
 ·exact zmQ pins s σ H x .non v u Q I rx ry ⟨rfl,q⟩
 ·cases ry
  exact ze4 (RelV.noBuiltin rx) ⟨.bl _,H,I,by rw [RelV.bool_iff rx]; rfl,q⟩
theorem zhx:OpR X (compareOp .IsNot) (rIs true):=by
 intro pins s σ H x y v u Q I rx ry h
 rcases h with ⟨rfl,q⟩ | ⟨b,rfl,q⟩
 ·exact zkz pins s σ H x .non v u Q I rx ry ⟨rfl,q⟩
 ·cases ry
  exact zc9 (RelV.noBuiltin rx) ⟨.bl _,H,I,by rw [RelV.bool_iff rx]; rfl,q⟩
open Classical in
theorem zh5 {neg:Bool} {H:Hp} {x y:V} {p q:D} {k:Bool} {Q:VK} (r1:Rep K H x p) (r2:Rep K H y q) (e:cIs p q=some k) (hq:Q (.bl (if neg then !k else k)) H):rIs neg x y H Q:=by
 cases q with
 | non=>
   cases r2
   have e':decide (p=.non)=k:=qh e
   have:decide (x=V.non)=k:=by
    rw [<- e']
    cases r1 <;> simp
   exact .inl ⟨rfl,by rw [this]; exact hq⟩
 | bl b=>
   cases r2
   have e':decide (p=.bl b)=k:=qh e
   have:decide (x=V.bl b)=k:=by
    rw [<- e']
    cases r1 <;> simp
   exact .inr ⟨b,rfl,by rw [this]; exact hq⟩
 | _=>cases e
theorem ziG:DoesC K (rIs false) cIs:=fun H x y p q k Q r1 r2 e hq=>zh5 r1 r2 e hq
theorem zgO:DoesC K (rIs true) cIsNot:=fun H x y p q k Q r1 r2 e hq=>by
 unfold cIsNot at e
 cases q1:cIs p q with
 | none=>rw [q1] at e; cases e
 | some b=>
   rw [q1] at e
   have e':(!b)=k:=qh e
   subst e'
   exact zh5 r1 r2 q1 hq
end
mutual
def toPy:D->PyData
 | .non=>.none
 | .bl b=>.bool b
 | .int i=>.int i
 | .str l=>.str ⟨l.toArray⟩
 | .tup l=>.tuple (toPys l)
 | .lst l=>.list (toPys l)
 | _=>.none
def toPys:List D->List PyData
 | []=>[]
 | d::r=>toPy d::toPys r
end
mutual
def showD:D->Bool
 | .non=>true
 | .bl _=>true
 | .int i=>decide (i.natAbs.log2 < 1920)
 | .str _=>true
 | .tup l=>showDs l
 | .lst l=>showDs l
 | _=>false
def showDs:List D->Bool
 | []=>true
 | d::r=>showD d && showDs r
end
mutual
theorem zfr:∀ d:D,showD d=true->(toPy d).showable=true
 | .non,_=>rfl
 | .bl _,_=>rfl
 | .int i,h=>h
 | .str _,_=>rfl
 | .tup l,h=>by
   have h':showDs l=true:=h
   simpa [toPy,PyData.showable] using zbg l h'
 | .lst l,h=>by
   have h':showDs l=true:=h
   simpa [toPy,PyData.showable] using zbg l h'
 | .dct _ _ _,h=>by cases h
 | .set _,h=>by cases h
 | .exc _ _ _,h=>by cases h
theorem zbg:∀ l:List D,showDs l=true->PyData.showableAll (toPys l)=true
 | [],_=>rfl
 | d::r,h=>by
   rw [showDs,and_eq_true] at h
   rw [toPys,PyData.showableAll,zfr d h.1,zbg r h.2]
   rfl
end
mutual
theorem zhR:∀ d:D,(toPy d).hasDict=false
 | .non=>rfl
 | .bl _=>rfl
 | .int i=>rfl
 | .str _=>rfl
 | .tup l=>by simpa [toPy,PyData.hasDict] using zch l
 | .lst l=>by simpa [toPy,PyData.hasDict] using zch l
 | .dct _ _ _=>rfl
 | .set _=>rfl
 | .exc _ _ _=>rfl
theorem zch:∀ l:List D,PyData.hasDictAll (toPys l)=false
 | []=>rfl
 | d::r=>by
   rw [toPys,PyData.hasDictAll,zhR d,zch r]
   rfl
end
mutual
theorem zjz:∀ d:D,(toPy d).depth<=dep d
 | .non=>le_refl _
 | .bl _=>le_refl _
 | .int i=>le_refl _
 | .str _=>le_refl _
 | .tup l=>by
   have:=zcC l
   simp only [toPy,PyData.depth,dep]
   lia
 | .lst l=>by
   have:=zcC l
   simp only [toPy,PyData.depth,dep]
   lia
 | .dct _ _ _=>le_refl _
 | .set _=>le_refl _
 | .exc _ _ _=>le_refl _
theorem zcC:∀ l:List D,PyData.depthAll (toPys l)<=deps l
 | []=>le_refl _
 | d::r=>by
   have h1:=zjz d
   have h2:=zcC r
   simp only [toPys,PyData.depthAll,deps]
   lia
end
end FL
end
section
namespace FL
open PySem
def atD (l m:List Nat) (i:Nat):Bool:=decide (i + m.length<=l.length) && decide ((l.drop i).take m.length=m)
def findD (l m:List Nat):Option Nat:=(List.range (l.length + 1)).find? (atD l m)
def bListA:List D->Option S
 | [.tup l]=>some (.lst (l.map .sh))
 | [.lst l]=>some (.lst (l.map .sh))
 | [.str l]=>if l.length<=big then some (.lst (l.map fun c=>.sh (.str [c]))) else none
 | _=>none
def tyD:D->String
 | .non=>"NoneType"
 | .bl _=>"bool"
 | .int _=>"int"
 | .str _=>"str"
 | .tup _=>"tuple"
 | .lst _=>"list"
 | .dct _ _ _=>"dict"
 | .set _=>"set"
 | .exc _ _ _=>"?"
def isTy (T:String) (d:D):Bool:=tyD d == T || (tyD d == "bool" && T == "int")
def wIsI (T:String) (a:WE):WE:=fun ρ Q E=>a ρ (fun x ρ1=>need (view x ρ1) fun d=>Q (.v (.sh (.bl (isTy T d)))) ρ1) E
theorem find?_first {p:Nat->Bool} {n i:Nat} (h:i < n) (hp:p i=true) (hn:∀ k,k < i->p k=false):(List.range n).find? p=some i:=by
 rw [List.find?_range_eq_some]
 exact ⟨hp,by simpa using h,fun j hj=>by simp [hn j hj]⟩
theorem find?_not {p:Nat->Bool} {n:Nat} (hn:∀ k,p k=false):(List.range n).find? p=none:=by
 rw [List.find?_eq_none]
 intro x _ h
 rw [hn x] at h; cases h
end FL
end
section
namespace FL
open PySem PySem.Spec PyProof.Rows L2
section
variable {X:Cx} {K:W.Frag}
theorem zkg {x y:Str} {i:Nat}:StrLaws.At x y x.length i↔atD x.cps.toList y.cps.toList i=true:=by
 have h1:x.length=x.cps.toList.length:=by show x.cps.size=_; rw [length_toList]
 have h2:y.length=y.cps.toList.length:=by show y.cps.size=_; rw [length_toList]
 unfold StrLaws.At atD Builtin.Str.subAt
 rw [and_eq_true,decide_eq_true_eq,decide_eq_true_eq,h1,h2,beq_iff_eq]
 refine and_congr_right fun _=>?_
 rw [<- Array.toList_inj,Array.toList_extract,List.extract_eq_take_drop]
 have:i + y.cps.toList.length - i=y.cps.toList.length:=by lia
 rw [this]
theorem zkP (x y:Str):Txt.find x y=(match findD x.cps.toList y.cps.toList with | some i=>(i:Int) | none=>-1):=by
 have hn:∀ {i},¬ StrLaws.At x y x.length i->atD x.cps.toList y.cps.toList i=false:=fun {i} h=>by
  cases q:atD x.cps.toList y.cps.toList i with
  | false=>rfl
  | true=>exact absurd (zkg.mpr q) h
 rcases find_whole x y with ⟨e,h⟩ | ⟨i,e,hi,h⟩
 ·rw [e]
  unfold findD
  rw [find?_not fun k=>hn (h k)]
 ·rw [e]
  unfold findD
  have h3:=hi.1
  have h1:x.length=x.cps.toList.length:=by show x.cps.size=_; rw [length_toList]
  rw [find?_first (i:=i) (by rw [<- h1]; lia) (zkg.mp hi) fun k hk=>hn (h k hk)]
end
section
variable {X:Cx} {K:W.Frag} {p pos:Pos} {e:Expr} {es:List Expr} {wa:WA}
def rListS:List V->Hp->VK->Prop:=fun xs H Q=>∃ x:Str,xs=[.str x]/\x.length<=sizeLine/\∀ l,H l=none->Q (.ref l) (upd H l (.lst (x.cps.toList.map fun c=>.str ⟨#[c]⟩)))
theorem zbz:∀ {xs:List V} {us:List Value},xs.length=us.length->(∀ (j:Nat) x u,xs[j]?=some x->us[j]?=some u->RelV x u)->Vals xs us
 | [],[],_,_=>.nil
 | [],_::_,h,_=>by simp at h
 | _::_,[],h,_=>by simp at h
 | x::xs,u::us,h,k=>.cons (k 0 x u rfl rfl) (zbz (by simpa using h) fun j x' u' h1 h2=>k (j + 1) x' u' (by simpa using h1) (by simpa using h2))
theorem zc7 (hc:X.calm=true):CallR X (.type "list") rListS:=by
 intro pins s σ H xs us Q I r h
 obtain ⟨x,rfl,hz,q⟩:=h
 obtain ⟨u,rfl,rx⟩:=vals1 r
 obtain ⟨t,rfl⟩:=rx
 refine call_list_str (I.ok.hd hc) x t (hn:=hz) fun h' tk acc' c' hk hS' hacc=>?_
 have hv:Vals (x.cps.toList.map fun c=>V.str ⟨#[c]⟩) acc'.toList:=zbz (by rw [length_map,length_toList,length_toList,hacc.1]) fun j y v h1 h2=>by
  obtain ⟨c,u,hc,rfl⟩:=hacc.2 j v (by rw [<- getElem?_toList]; exact h2)
  rw [getElem?_map,getElem?_toList,hc] at h1
  cases h1
  exact ⟨u,rfl⟩
 refine ⟨.ref s.heap.objs.size,_,I.laid (t':=tk) hk (le_refl _) (show ObjOk X.prog X.w _ h' _ (.lst (x.cps.toList.map fun c=>V.str ⟨#[c]⟩)) from ⟨?_,acc'.toList,c',hv,by simpa using hS'⟩),rfl,q _ (I.hok.fresh (le_refl _))⟩
 rw [length_map,length_toList]; exact hz
def rListA (K:W.Frag):List V->Hp->VK->Prop:=fun xs H Q=>rList K xs H Q\/rListS xs H Q
theorem zdb {F:Hp}:∀ l:List Nat,Reps K F (l.map fun c=>V.str ⟨#[c]⟩) (l.map fun c=>D.str [c])
 | []=>.nil
 | c::l=>.cons (.str rfl (by show 1<=16777216; decide)) (zdb l)
theorem zgv:DoesB K (rListA K) bListA:=by
 intro σ ρ F G H vs ds s Q rel re e hq
 obtain ⟨d,v,rfl,rfl⟩:=arg1 (fun x y r=>by cases x <;> rfl) rfl re e
 cases d with
 | tup l=>exact .inl (zeN σ ρ F G H [v] [.tup l] s Q rel re e hq)
 | lst l=>exact .inl (zeN σ ρ F G H [v] [.lst l] s Q rel re e hq)
 | str l=>
   obtain ⟨x,rfl,e1,z⟩:=re.1.str
   have e:(if l.length<=big then some (S.lst (l.map fun c=>S.sh (.str [c]))) else none)=some s:=e
   split at e
   ·rename_i hb
    cases e
    refine .inr ⟨x,rfl,by rw [zca e1]; exact zcn hb,fun p hp=>?_⟩
    rw [e1]
    have h:=rel.newLD hp (zdb l)
    rw [map_map] at h
    exact hq (.ref p) F (upd H p (.lst (l.map fun c=>V.str ⟨#[c]⟩))) (Same.refl F) h
   ·cases e
 | _=>cases e
theorem zi7 (hc:X.calm=true) (hg:Gl X "list") (hm:X.mg "list"=none) (hv:bootBuiltins "list"=some (.type "list")) (ha:FA X (e::es) wa) (he:starEach (e::es) X.env=(false,eval e X.env)::starEach es X.env:=by rfl) (hpl:(backTo pos (starEach es X.env)).any (·.1)=false:=by rfl):FE X (.Call (.Name "list" p) (e::es) [] pos) (wB bListA wa):=
 zcI (fun pn xe=>CallR.or' zd7 (zc7 (X:=wp X pn xe) hc)) zgv hg hm hv ha (by decide) (by decide) he hpl
end
section
variable {X:Cx} {pins:List (Addr×Obj)} {σ:St} {H:Hp} {s:Shared} {A:Around} {E:Value->Shared->Prop} {Q:Value->Shared->Prop} {b:Bool}
def tyOk (T:String):Bool:=T == "bool" || T == "int" || T == "str" || T == "tuple" || T == "list"
theorem zpc (K:W.Frag):∀ (T:String),tyOk T=true->∀ d:D,(∀ c f v,d≠.exc c f v)->W.kitOne K (.type (tyD d)) (.type T)=some (isTy T d):=by
 intro T hT d h2
 simp only [tyOk,or_eq_true,beq_iff_eq] at hT
 rcases hT with (((rfl | rfl) | rfl) | rfl) | rfl <;> cases d <;> first | exact absurd rfl (h2 _ _ _) | kernel_rfl
theorem zi0 {x:V} {u c:Value} {d:D} (I:Inv X pins σ H s) (rx:RelV x u) (rp:Rep X.K H x d) (e:W.kitOne X.K (.type (tyD d)) c=some b) (h:∀ tk,Q (.bool b) { s with toks:=tk }):
  wpAny (model X.prog X.w) A (call (.builtin "isinstance") [u,c]) Q E s:=by
 cases rp with
 | non=>exact zaP I rx .non e h
 | bl y=>exact zaP I rx (.bl y) e h
 | int i=>exact zaP I rx (.int i) e h
 | str e1 z=>exact zaP I rx (.str _) e h
 | tup ea r=>exact zaP I rx (.tup ea) e h
 | lst ea r=>
   cases rx
   obtain ⟨its,r,pl,_⟩:=I.list ea
   obtain ⟨o,ho,hc,_⟩:=pl.isList
   exact W.kia_one W.kitx_list I.kIn ⟨o,ho,hc⟩ e (fun z=>nomatch z) h
 | @dK a kvs ks vs ea k r=>
   cases rx
   rcases ea with ea | ⟨ob,ea⟩
   ·exact zaP (x:=.ref a) I rfl (.dK ea) e h
   ·obtain ⟨_,_,_,_,p⟩:=(show ObjOk X.prog X.w H s.heap a (.frz ob (.dK kvs)) from I.hok a _ ea)
    obtain ⟨_,o,es,ep,h1,h2,_⟩:=p
    exact W.kia_one W.kitx_dict I.kIn ⟨o,h1,h2.1⟩ e (fun z=>nomatch z) h
 | @dT a kvs ks vs ea k r=>
   cases rx
   rcases ea with ea | ⟨ob,ea⟩
   ·exact zaP (x:=.ref a) I rfl (.dT ea) e h
   ·obtain ⟨_,_,_,_,p⟩:=(show ObjOk X.prog X.w H s.heap a (.frz ob (.dT kvs)) from I.hok a _ ea)
    obtain ⟨_,o,es,ep,h1,h2,_⟩:=p
    exact W.kia_one W.kitx_dict I.kIn ⟨o,h1,h2.1⟩ e (fun z=>nomatch z) h
 | @st a xs ds ea r=>
   cases rx
   have t:∃ o,s.heap.get? a=some o/\o.cls=.type "set":=by
    rcases I.hok a _ ea with ⟨_,⟨_,h1⟩ | ⟨_,_,_,o,_,_,_,h1,h2,_⟩ | ⟨_,_,_,_,o,_,_,_,h1,h2,_⟩⟩
    ·exact ⟨_,h1,rfl⟩
    ·exact ⟨o,h1,h2.1⟩
    ·exact ⟨o,h1,h2.1⟩
   exact W.kia_one W.kitx_set I.kIn t e (fun z=>nomatch z) h
theorem znW {x:V} {d:D} {K:W.Frag} (r:Rep K H x d):∀ c f v,d≠.exc c f v:=by
 cases r <;> exact fun _ _ _ z=>nomatch z
end
section
variable {X:Cx} {p pos pt:Pos} {a:Expr} {wa:WE} {T:Str} {TS:String}
theorem zoa (hg:Gl X "isinstance") (hm:X.mg "isinstance"=none) (hv:bootBuiltins "isinstance"=some (.builtin "isinstance")) (hgT:Gl X T) (hmT:X.mg T=none) (hvT:bootBuiltins T=some (.type TS)) (hT:tyOk TS=true) (ha:FE X a wa)
  (hnT:T≠"__name__":=by decide) (hdT:(T == ("__debug__":Str))=false:=by decide)
  (he:starEach [a,.Name T pt] X.env=(false,eval a X.env)::starEach [.Name T pt] X.env:=by rfl) (he2:starEach [.Name T pt] X.env=[(false,eval (.Name T pt) X.env)]:=by rfl) (hpl:(backTo pos (starEach [.Name T pt] X.env)).any (·.1)=false:=by rfl):
  FE X (.Call (.Name "isinstance" p) [a,.Name T pt] [] pos) (wIsI TS wa):=fun pn xe hp=>by
 intro pins s σ H Q I h
 refine wpAny_Call_Name_kw (zbF (X:=wp X pn xe) I hg hm hv ?_ (by decide) (by decide))
 refine PyProof.Rows.callWith_builtin1 ?_ he hpl
 show wpAny _ _ (spliced (backTo pos (starEach [a,.Name T pt] X.env))) _ _ s
 rw [he,he2]
 show wpAny _ _ (spliced ((false,eval a X.env)::[(false,eval (.Name T pt) X.env)])) _ _ s
 refine Calls.spliced_cons (thn (ha pn xe hp pins s σ H _ I (one (k:=fun x ρ1 Q E=>need (view x ρ1) fun d=>Q (.v (.sh (.bl (isTy TS d)))) ρ1) h)) fun u s1 ⟨x,H1,I1,r1,q1⟩=>?_)
 refine Calls.spliced_cons (zbF (X:=wp X pn xe) I1 hgT hmT hvT (Calls.spliced_nil ?_) hnT hdT)
 obtain ⟨F,G,ρ,y,P,PX,rel,hl,ry,hk,hok,hx⟩:=q1
 obtain ⟨d,ed,hk⟩:=zaf hk
 have rp:=look (ρ':=[]) (σ':=[]) rel hl ry ed
 refine zi0 I1 r1 rp (zpc _ TS hT d (znW rp)) fun tk=>⟨.bl _,H1,I1.kept fun _ _ z=>z,rfl,?_⟩
 exact hok _ ρ _ F H1 hk (Same.refl F) ((rel.drop hl).push (.bl _)) trivial
end
theorem zdl:bootBuiltins "int"=some (.type "int"):=by decide +kernel
theorem zco:bootBuiltins "tuple"=some (.type "tuple"):=by decide +kernel
theorem zkN:bootBuiltins "list"=some (.type "list"):=by decide +kernel
theorem zku:bootBuiltins "bool"=some (.type "bool"):=by decide +kernel
theorem znF:bootBuiltins "max"=some (.builtin "max"):=by decide +kernel
theorem zj6:bootBuiltins "min"=some (.builtin "min"):=by decide +kernel
theorem zbE:bootBuiltins "sorted"=some (.builtin "sorted"):=by decide +kernel
theorem zd0:bootBuiltins "isinstance"=some (.builtin "isinstance"):=by decide +kernel
section
variable {X:Cx} {k:Nat}
theorem u32 {A:Around} (hr:Room k A):A.units + 32 < cLine:=by have:=hr.units; lia
theorem u31 {A:Around} (hr:Room k A):A.units + 31 < cLine:=by have:=hr.units; lia
theorem uq {N:List Str} {x:Str} {i:Nat} (h:(N.zipIdx.all fun p=>!(p.1 == x) || p.2 == i)=true):∀ j,N[j]?=some x->j=i:=by
 intro j hj
 have hj':j < N.length:=(qi.mp hj).1
 have:=all_eq_true.mp h (x,j) (by rw [List.mem_zipIdx_iff_getElem?]; simpa using hj)
 simpa using this
instance (outer scope:Scope) (N vars:List Str):Decidable (scope.kind=.function/\(∀ x∈scope.names,x.2=.free->outer.names.lookup x.1=some .cell\/outer.names.lookup x.1=some .free)/\(scope.names.map (·.1)).Nodup/\
  (∀ x∈N,x∉vars->(x,NameKind.local)∉scope.names/\(x,NameKind.cell)∉scope.names)/\scope.names.lookup Str.empty=none):=inferInstance
def compOk (outer scope:Scope) (N vars:List Str):Bool:=decide (scope.kind=.function/\(∀ x∈scope.names,x.2=.free->outer.names.lookup x.1=some .cell\/outer.names.lookup x.1=some .free)/\(scope.names.map (·.1)).Nodup/\
    (∀ x∈N,x∉vars->(x,NameKind.local)∉scope.names/\(x,NameKind.cell)∉scope.names)/\scope.names.lookup Str.empty=none)
theorem compSc {outer scope:Scope} {N vars:List Str} (h:compOk outer scope N vars=true):CompScope outer scope N vars:=
 let ⟨a,b,c,d,e⟩:=of_decide_eq_true h
 ⟨a,b,c,d,e⟩
end
theorem zjX {K:W.Frag} {F H:Hp} {v:V} {fp:List Addr} (r:SRep K F H v (.sh (.bl true)) fp):v=.bl true:=by
 cases r with
 | sh r=>cases r; rfl
theorem znx {K:W.Frag} {wf:WF} (h:∀ ns:List Int,ns.length<=63->wf [.sh (.lst (ns.map .int))] (fun s _=>s=.sh (.bl true)) fun _ _=>True) (H:Hp) (a:Addr) (ns:List Int) (hl:ns.length<=63) (hS:SqL K H a (ns.map V.int)):
  spW K wf 1 [.ref a] H (fun v _=>v=.bl true) fun _ _ _=>False:=by
 refine ⟨H,fun _=>none,[.sh (.lst (ns.map .int))],_,_,rfl,⟨Same.refl H,fun _ _ z=>(nomatch z),[]++[],.so (.sh (.lst hS (zbc ns))) .nil,List.nodup_nil,fun _ z=>(nomatch z)⟩,h ns hl,fun s ss' v F' H' hs sm hlen r=>?_⟩
 subst hs
 obtain ⟨u,fp,e1,q⟩:=r.at (i:=ss'.length) (s:=.sh (.bl true)) (by
  have:=zaC (ρ:=ss'.map some) (o:=some (.sh (.bl true))) (ρ':=[])
  simpa using this)
 have hl1:ss'.length=1:=hlen
 rw [hl1] at e1
 have:u=v:=by simpa using e1.symm
 rw [<- this]
 exact zjX q
end FL
end
section
namespace FL
end FL
end
section
namespace FL
open PySem PySem.Spec PyProof.Rows L2
section
variable {X:Cx} {a b c:Expr} {wa wb wc:WE} {pos:Pos}
theorem zbt (ha:FE X a wa):FE X (.UnaryOp .USub a pos) (wUn oNeg wa):=fun pn xe hp=>by
 refine PE.imp (zoS zod (ha pn xe hp)) fun σ H Q q=>?_
 refine (one (k:=fun x ρ1 Q E=>need (viewC x ρ1) fun p=>need (oNeg p) fun s=>Q (.v s) ρ1) q).mono fun v H1 h1=>?_
 obtain ⟨F,G,ρ,x,P,PX,rel,hl,rx,hk,hok,hx⟩:=h1
 obtain ⟨p,ep,hk⟩:=zaf hk
 obtain ⟨s,es,hk⟩:=zaf hk
 obtain ⟨F1,s1,re,r1⟩:=takeC (ρ':=[]) (σ':=[]) rel hl rx ep
 cases p with
 | int i=>
   cases es
   have e:=re.int
   subst e
   exact ⟨i,rfl,hok _ ρ _ F1 H1 hk s1 ((show Rel _ ρ σ F1 G H1 by simpa using r1).push (.int _)) trivial⟩
 | _=>cases es
theorem zgJ {r r':R2} {o o':D->D->Option Bool} (hd:DoesC X.K r o) (hd':DoesC X.K r' o') (σ:St) (H:Hp) (Q:VK) (h:tW X (wOfT (wChain o o' wa wb wc)) σ H Q):tChain r r' (tW X wa) (tW X wb) (tW X wc) σ H Q:=by
 refine (two (k:=fun x y ρ2 Q E=>need (view x ρ2) fun p=>need (view y ρ2) fun q=>need (o p q) fun k=>if k then wc ρ2 (fun z ρ3=>need (view y ρ3) fun q=>need (view z ρ3) fun r=>need (o' q r) fun k'=>Q (.v (.sh (.bl k'))) ρ3) E else Q (.v (.sh (.bl false))) ρ2) h).mono fun v H1 h1=>h1.mono fun u H2 h2=>?_
 obtain ⟨F,G,ρ,x,y,P,PX,rel,hl,rx,ry,hk,hok,hx⟩:=h2
 obtain ⟨p,ep,hk⟩:=zaf hk
 obtain ⟨q,eq,hk⟩:=zaf hk
 obtain ⟨t,et,hk⟩:=zaf hk
 obtain ⟨r1,r2,rel'⟩:=look2 rel hl rx ry ep eq
 refine hd H2 v u p q t _ r1 r2 et ⟨t,rfl,?_⟩
 cases t with
 | false=>
   rw [if_neg (by decide)]
   exact hok (.v (.sh (.bl false))) ρ (.bl false) F H2 hk (Same.refl F) (rel'.push (.bl false)) trivial
 | true=>
   rw [if_pos rfl]
   refine (nextOf (k:=fun y z ρ3 Q E=>need (view y ρ3) fun q=>need (view z ρ3) fun r=>need (o' q r) fun k'=>Q (.v (.sh (.bl k'))) ρ3) (rel.mid hl) ry hk hok hx).mono fun w H4 h4=>?_
   obtain ⟨F,G,ρ,y,z,P,PX,rel,hl,ry,rz,hk,hok,hx⟩:=h4
   obtain ⟨q,eq,hk⟩:=zaf hk
   obtain ⟨r,er,hk⟩:=zaf hk
   obtain ⟨t,et,hk⟩:=zaf hk
   obtain ⟨r1,r2,rel'⟩:=look2 rel hl ry rz eq er
   exact hd' H4 u w q r t _ r1 r2 et (hok _ ρ (.bl t) F H4 hk (Same.refl F) (rel'.push (.bl t)) trivial)
theorem zjt {op op':CmpOp} {r r':R2} {o o':D->D->Option Bool} (ho:∀ pn xe,OpR (wp X pn xe) (compareOp op) r) (hd:DoesC X.K r o) (ho':∀ pn xe,OpR (wp X pn xe) (compareOp op') r') (hd':DoesC X.K r' o') (ha:FE X a wa) (hb:FE X b wb) (hc:FE X c wc)
  (hm:lastMarks [op,op'] [b,c]=false:=by with_unfolding_all rfl):FT X (.Compare a [op,op'] [b,c] pos) (wChain o o' wa wb wc):=fun pn xe hp=>
 PT.imp (zj0 (ho pn xe) (ho' pn xe) (ha pn xe hp) (hb pn xe hp) (hc pn xe hp) hm) fun σ H Q h=>by
  obtain ⟨F,G,ρ,P,PX,rel,hw,hok,hx⟩:=h
  refine zgJ (X:=wp X pn xe) hd hd' σ H _ ⟨F,G,ρ,fun r ρ'=>match r with | .v (.sh (.bl c))=>P c ρ' | _=>False,PX,rel,hw,fun r ρ' v F' H' hp s1 r1 rv=>?_,hx⟩
  skip
  split at hp
  ·rename_i c
   have hl:=len1 r1
   have rp:=look (ρ':=[]) (σ':=[]) r1 hl rv (d:=.bl c) rfl
   exact ⟨c,znd rp,hok c ρ' F' H' hp s1 (r1.drop hl)⟩
  ·exact hp.elim
end
open AutoSeq1 (wpAny_loadPart')
section
variable {prog:Program} {w:World} {A:Around} {E:Value->Shared->Prop} {s:Shared}
theorem znh {u z:Addr} {n:Nat} {xs:Array Value} {v:Value} {Q:Value->Shared->Prop} (hu:s.heap.IsTupleIter u z n) (hz:s.heap.IsTuple z xs) (hv:xs[n]?=some v) (k:∀ h',h'.IsTupleIter u z (n + 1)->Heap.SameBut u s.heap h'->Q v { s with heap:=h' }):
  wpAny (model prog w) A (Builtin.SmallTypes.nextOf (.ref u)) Q E s:=by
 obtain ⟨ob,e0,e1,e2⟩:=id hu
 obtain ⟨zb,f0,_,zn,f2⟩:=hz
 unfold Builtin.SmallTypes.nextOf
 apply qa
 refine wpAny_callSpecial?_slot (name:=Str.ofString "__next__") hu.typeIs F.slot_tuple_iterator_next (wpAny_call_entry F.slot_tuple_iterator_next hu.typeIs F.entry_tuple_iterator_next ?_ (F.args_tuple_iterator_next_1 _))
 show wpAny _ _ (field (.ref u) 0 >>= _) _ _ _
 apply qa
 refine wpAny_field e0 e2 (x:=.ref z) rfl ?_
 show wpAny _ _ (if (Value.ref z == Value.none)=true then _ else _) _ _ _
 rw [if_neg (show ¬ ((Value.ref z == Value.none)=true) from Bool.false_ne_true)]
 show wpAny _ _ (field (.ref u) 1 >>= _) _ _ _
 apply qa
 refine wpAny_field e0 e2 (x:=.int n 0) rfl ?_
 show wpAny _ _ (seqItems? (.ref z) >>= _) _ _ _
 apply qa
 refine wpAny_seqItems f0 f2 ?_
 simp only [toNat_natCast,hv]
 apply qa
 refine wpAny_setField e0 e2 (by simp) (qb ⟨v,rfl,qb (k _ ⟨_,Heap.get?_update_self _ e0 (Obj.isFreed_of_fields (Obj.data_mapFields e2 _)),(Obj.cls_mapFields ..).trans e1,?_⟩ (Heap.SameBut.update ..))⟩)
 rw [Obj.data_mapFields e2]
 simp [rawInt]
theorem zde {u z:Addr} {n:Nat} {xs:Array Value} {Q:Value->Shared->Prop} (hh:A.handled=none) (hu:s.heap.IsTupleIter u z n) (hz:s.heap.IsTuple z xs) (hv:xs[n]?=none)
  (k:∀ h' e,Heap.ExtBut u s.heap h'->(∃ o,h'.get? e=some o/\o.cls=.type "StopIteration")->E (.ref e) { s with heap:=h' }):wpAny (model prog w) A (Builtin.SmallTypes.nextOf (.ref u)) Q E s:=by
 obtain ⟨ob,e0,e1,e2⟩:=id hu
 obtain ⟨zb,f0,_,zn,f2⟩:=hz
 unfold Builtin.SmallTypes.nextOf
 apply qa
 refine wpAny_callSpecial?_slot (name:=Str.ofString "__next__") hu.typeIs F.slot_tuple_iterator_next (wpAny_call_entry F.slot_tuple_iterator_next hu.typeIs F.entry_tuple_iterator_next ?_ (F.args_tuple_iterator_next_1 _))
 show wpAny _ _ (field (.ref u) 0 >>= _) _ _ _
 apply qa
 refine wpAny_field e0 e2 (x:=.ref z) rfl ?_
 show wpAny _ _ (if (Value.ref z == Value.none)=true then _ else _) _ _ _
 rw [if_neg (show ¬ ((Value.ref z == Value.none)=true) from Bool.false_ne_true)]
 show wpAny _ _ (field (.ref u) 1 >>= _) _ _ _
 apply qa
 refine wpAny_field e0 e2 (x:=.int n 0) rfl ?_
 show wpAny _ _ (seqItems? (.ref z) >>= _) _ _ _
 apply qa
 refine wpAny_seqItems f0 f2 ?_
 simp only [toNat_natCast,hv]
 apply qa
 apply wpAny_rule
 apply qa
 refine wpAny_setField e0 e2 (by simp) ?_
 show wpAny _ _ (newExc (.type "StopIteration") [] >>= _) _ _ _
 apply qa
 simp only [newExc,newTuple]
 apply qa
 refine wpAny_newObj_type ?_ (by size_fits)
 refine qa (m:=firstArgMember _ _) (wpAny_of_eq (a:=Value.none) (by first | rfl | (simp only [firstArgMember]; rfl)) (wpAny_newObj_type ?_ (by size_fits)))
 simp only [raiseNew]
 apply qa
 refine wpAny_handled ?_
 first | rw [show A.in1.handled=none from hh] | rw [hh]
 exact qa (qb (wpAny_throw (k _ _ (((Heap.SameBut.update ..).extBut.push _).push _) ⟨_,qd _ rfl,rfl⟩)))
end
theorem zhf {prog:Program} {w:World} {A:Around} (hh:A.handled=none) (u z:Addr) (hne:z≠u) (xs:Array Value):
  Draws prog w A u [u,z] xs.size (fun i v=>xs[i]?=some v) (fun i h=>h.IsTupleIter u z i/\h.IsTuple z xs) where
 live:=fun _ _ st=>let ⟨o,e,_⟩:=st.1; ⟨o,e⟩
 frame:=fun _ _ _ st k=>⟨st.1.at fun o e=>k u (by simp) o e,by obtain ⟨o,e,r⟩:=st.2; exact ⟨o,k z (by simp) o e,r⟩⟩
 item:=fun i s Q E hi st k=>znh st.1 st.2 (v:=xs[i]) (by simp [hi]) fun h' a b=>k _ h' s.toks (by simp [hi]) ⟨a,by obtain ⟨o,e,r⟩:=st.2; exact ⟨o,b.extBut _ _ hne e,r⟩⟩ b
 done:=fun s Q E st k=>zde hh st.1 st.2 (by simp) k
structure Src (P:Program) (w:World) (K:W.Frag) (J:It) (it:Addr) (tn:Nat->Heap->Prop):Prop where
 live:∀ i h,tn i h->∃ o,h.get? it=some o/\(∀ v,o.data≠.cell v)/\o.cls≠.type "enumerate"/\o.cls≠.type "zip"/\o.cls≠.type "tuple"/\o.cls≠.type "list"
 keep:∀ i h h',tn i h->(∀ o,h.get? it=some o->h'.get? it=some o)->tn i h'
 yl:∀ i H x H',J.yld i H x H'->H'=H
 item:∀ (X:Cx),X.prog=P->X.w=w->X.K=K->∀ (i:Nat) (pins:List (Addr×Obj)) (s:Shared) (σ:St) (H:Hp) (A:Around),A.handled=none->Inv X pins σ H s->tn i s.heap->H it=none->J.go i H->
  ∃ fp n Pr Sx,Draws P w A it fp n Pr Sx/\Sx i s.heap/\i < n/\it∈fp/\(∀ b∈fp,b=it\/(H b≠none/\∃ o,s.heap.get? b=some o/\o.cls=.type "tuple")\/∃ o,s.heap.get? b=some o/\o.cls=.type "list")/\(∀ v,Pr i v->∃ x,RelV x v/\J.yld i H x H)/\∀ h',Sx (i + 1) h'->tn (i + 1) h'
 done:∀ (X:Cx),X.prog=P->X.w=w->X.K=K->∀ (i:Nat) (pins:List (Addr×Obj)) (s:Shared) (σ:St) (H:Hp) (A:Around),A.handled=none->Inv X pins σ H s->tn i s.heap->J.stop i H->∀ (Q:Value->Shared->Prop) (E:Value->Shared->Prop),
  (∀ h' e,Heap.ExtBut it s.heap h'->(∃ o,h'.get? e=some o/\o.cls=.type "StopIteration")->E (.ref e) { s with heap:=h' })->wpAny (model P w) A (Builtin.SmallTypes.nextOf (.ref it)) Q E s
theorem zi1 {P:Program} {w:World} {K:W.Frag} (a it:Addr):Src P w K (Itl K a) it (fun i h=>h.IsListIter it a i) where
 live:=fun i h st=>by
  obtain ⟨o,e,c,d⟩:=st
  exact ⟨o,e,fun v z=>by (rw [d] at z; cases z),by rw [c]; decide,by rw [c]; decide,by rw [c]; decide,by rw [c]; decide⟩
 keep:=fun i h h' st k=>st.at k
 yl:=fun i H x H' h=>h.1
 item:=by
  intro X hP hw hK i pins s σ H A hh I st hn hg
  subst hP hw hK
  obtain ⟨xs,x,hq,hx⟩:=hg
  obtain ⟨its,rv,p,hz⟩:=I.list hq
  obtain ⟨lo,l1,l2,l3⟩:=id p.isList
  have hne:a≠it:=fun z=>by
   obtain ⟨o,e,c,d⟩:=id st
   rw [<- z,l1] at e
   cases e
   rw [l2] at c
   exact absurd c (by decide)
  have hl:=rv.length
  have hi:i < its.toArray.size:=by
   have:=(qi.mp hx).1
   rw [size_toArray]; lia
  refine ⟨_,_,_,_,Draws.list hh it a hne its.toArray,⟨st,p.isList⟩,hi,by simp,fun b hb=>?_,fun v hv=>?_,fun h' z=>z.1⟩
  ·simp at hb
   rcases hb with rfl | rfl
   ·exact .inl rfl
   ·exact .inr (.inr ⟨lo,l1,l2⟩)
  ·obtain ⟨u,hu,ru⟩:=rv.get hx
   have:u=v:=by
    have hv':its[i]?=some v:=by simpa using hv
    rw [hu] at hv'; exact qh hv'
   subst this
   exact ⟨x,ru,rfl,fun ys hy=>by rw [I.list_inj hy hq]; exact hx⟩
 done:=by
  intro X hP hw hK i pins s σ H A hh I st hg Q E k
  subst hP hw hK
  obtain ⟨xs,hq,hx⟩:=hg
  obtain ⟨its,rv,p,hz⟩:=I.list hq
  have hl:=rv.length
  exact wpAny_nextOf_list_end hh st p.isList (by simp; lia) k
def Itu (a:Addr):It:=⟨fun i H=>∃ xs x,H a=some (.tup xs)/\xs[i]?=some x,fun i H x H'=>H'=H/\∀ xs,H a=some (.tup xs)->xs[i]?=some x,fun i H=>∃ xs,H a=some (.tup xs)/\xs.length<=i⟩
theorem zlq {P:Program} {w:World} {K:W.Frag} (a it:Addr):Src P w K (Itu a) it (fun i h=>h.IsTupleIter it a i) where
 live:=fun i h st=>by
  obtain ⟨o,e,c,d⟩:=st
  exact ⟨o,e,fun v z=>by (rw [d] at z; cases z),by rw [c]; decide,by rw [c]; decide,by rw [c]; decide,by rw [c]; decide⟩
 keep:=fun i h h' st k=>st.at k
 yl:=fun i H x H' h=>h.1
 item:=by
  intro X hP hw hK i pins s σ H A hh I st hn hg
  subst hP hw hK
  obtain ⟨xs,x,hq,hx⟩:=hg
  obtain ⟨its,rv,p,hz⟩:=I.tuple (SqT.of hq)
  obtain ⟨lo,l1,l2,l3⟩:=id p
  have hne:a≠it:=fun z=>by rw [z,hn] at hq; cases hq
  have hl:=rv.length
  have hi:i < its.toArray.size:=by
   have:=(qi.mp hx).1
   rw [size_toArray]; lia
  refine ⟨_,_,_,_,zhf hh it a hne its.toArray,⟨st,p⟩,hi,by simp,fun b hb=>?_,fun v hv=>?_,fun h' z=>z.1⟩
  ·simp at hb
   rcases hb with rfl | rfl
   ·exact .inl rfl
   ·exact .inr (.inl ⟨fun z=>by (rw [z] at hq; cases hq),lo,l1,l2⟩)
  ·obtain ⟨u,hu,ru⟩:=rv.get hx
   have:u=v:=by
    have hv':its[i]?=some v:=by simpa using hv
    rw [hu] at hv'; exact qh hv'
   subst this
   exact ⟨x,ru,rfl,fun ys hy=>by rw [hq] at hy; cases hy; exact hx⟩
 done:=by
  intro X hP hw hK i pins s σ H A hh I st hg Q E k
  subst hP hw hK
  obtain ⟨xs,hq,hx⟩:=hg
  obtain ⟨its,rv,p,hz⟩:=I.tuple (SqT.of hq)
  have hl:=rv.length
  exact zde hh st p (by simp; lia) k
theorem zk1 {P:Program} {w:World} {K:W.Frag} (it:Addr) (x:Str) (t:Tok):Src P w K (Its x) it (fun i h=>h.IsStrIter it (strIterType x) x t i) where
 live:=fun i h st=>by
  obtain ⟨o,e,c,d⟩:=st
  have hc:o.cls=.type "str_ascii_iterator"\/o.cls=.type "str_iterator":=by
   rw [c]; unfold strIterType; split
   ·exact .inl rfl
   ·exact .inr rfl
  exact ⟨o,e,fun v z=>by (rw [d] at z; cases z),by rcases hc with q | q <;> (rw [q]; decide),by rcases hc with q | q <;> (rw [q]; decide),by rcases hc with q | q <;> (rw [q]; decide),by rcases hc with q | q <;> (rw [q]; decide)⟩
 keep:=fun i h h' st k=>by
  obtain ⟨o,e,r⟩:=st
  exact ⟨o,k o e,r⟩
 yl:=fun i H x H' h=>h.1
 item:=by
  intro X hP hw hK i pins s σ H A hh I st hn hg
  subst hP hw hK
  have fin:∀ v:Value,(∃ c u,x.cps[i]?=some c/\v=.str ⟨#[c]⟩ u)->∃ y,RelV y v/\(Its x).yld i H y H:=fun v ⟨c,u,e,ev⟩=>⟨.str ⟨#[c]⟩,by rw [ev]; exact ⟨u,rfl⟩,rfl,c,e,rfl⟩
  cases ha:x.cps.all (· < 128)
  ·have e:strIterType x="str_iterator":=by unfold strIterType; rw [ha]; rfl
   rw [e] at st ⊢
   exact ⟨_,_,_,_,Draws.strWide hh it x t,st,hg,by simp,fun b hb=>.inl (by simpa using hb),fin,fun _ z=>z⟩
  ·have e:strIterType x="str_ascii_iterator":=by unfold strIterType; rw [ha]; rfl
   rw [e] at st ⊢
   exact ⟨_,_,_,_,Draws.strAscii hh it x t,st,hg,by simp,fun b hb=>.inl (by simpa using hb),fin,fun _ z=>z⟩
 done:=by
  intro X hP hw hK i pins s σ H A hh I st hg Q E k
  have hn:x.cps[i]?=none:=by
   have:x.cps.size<=i:=hg
   simp [this]
  cases ha:x.cps.all (· < 128)
  ·have e:strIterType x="str_iterator":=by unfold strIterType; rw [ha]; rfl
   rw [e] at st
   exact wpAny_nextOf_wide_end hh st hn k
  ·have e:strIterType x="str_ascii_iterator":=by unfold strIterType; rw [ha]; rfl
   rw [e] at st
   exact wpAny_nextOf_ascii_end hh st hn k
end FL
end
section
namespace FL
def enumF (k:Nat):List D->List D
 | []=>[]
 | d::l=>.tup [.int k,d]::enumF (k + 1) l
def wEnum (a:WE):WI:=fun ρ Q E=>a ρ (fun r ρ1=>need (give r ρ1) fun p=>need (items p.1.toD) fun l=>Q (enumF 0 l) p.2) E
theorem zep:∀ (l:List D) (k i:Nat) (d:D),(enumF k l)[i]?=some d->∃ e,l[i]?=some e/\d=.tup [.int ((k + i:Nat):Int),e]
 | [],_,_,_,h=>by simp [enumF] at h
 | e::l,k,0,d,h=>by
   simp [enumF] at h
   exact ⟨e,rfl,by simpa using h.symm⟩
 | e::l,k,i + 1,d,h=>by
   obtain ⟨e',h1,h2⟩:=zep l (k + 1) i d (by simpa [enumF] using h)
   exact ⟨e',by simpa using h1,by rw [h2]; congr 4; lia⟩
theorem zeU:∀ (l:List D) (k:Nat),(enumF k l).length=l.length
 | [],_=>rfl
 | _::l,k=>by simp [enumF,zeU l]
end FL
end
section
namespace FL
open PySem PySem.Spec PyProof.Rows L2
open AutoSeq1 (wpAny_loadPart')
section
variable {X:Cx} {pins:List (Addr×Obj)} {σ:St} {H:Hp} {s:Shared} {h':Heap}
theorem zen {t':Nat} {ch:List Addr} (I:Inv X pins σ H s) (hf:∀ b∈ch,FpOk X pins H b) (k:∀ b o,b∉ch->s.heap.get? b=some o->h'.get? b=some o):Inv X pins σ H { s with heap:=h',toks:=t' }:=by
 have nit:∀ b u,H b=some u->b∉ch:=fun b u e z=>by rw [(hf b z).1] at e; cases e
 refine I.step (g':=s.gens) (d':=s.drawn) (ch:=ch) (fun b hb=>?_) (fun b o _ _ hc e _=>k b o hc e) (fun b o _ _ hc e _=>⟨o.slots,k b o hc e⟩) (fun _ _ _ _ n=>n)
  (fun b o hc e=>⟨o,k b o hc e⟩) (fun _ _ e=>e) (fun _ _ _ e=>e) (fun b ps e=>⟨#[],by rw [e]; simp⟩) (fun m hm=>?_) (fun b u e=>?_) I.bare
 ·obtain ⟨f0,f1,f2,f3,f4,f5⟩:=hf b hb
  exact ⟨f3,f1,f4,f5⟩
 ·obtain ⟨o,es,ep,ho,r⟩:=hm
  exact ⟨o,es,ep,k _ o (fun z=>(hf _ z).2.1 rfl) ho,r⟩
 ·refine (I.hok b u e).stay (fun c v hc q=>k c v ?_ q) (fun _ q=>q) fun _ _ q=>q
  rcases hc with z | z
  ·rw [z]; exact nit b u e
  ·exact nit c _ z
theorem zja {b T:Addr} {o:HO} (f:FpOk X pins H b) (h:b≠T):FpOk X pins (L2.upd H T o) b:=⟨by rw [zaj h]; exact f.1,f.2⟩
theorem ze0 {t':Nat} {ch:List Addr} {us:List Value} {xs:List V} (I:Inv X pins σ H s) (hf:∀ b∈ch,FpOk X pins H b) (hl:∀ b∈ch,b < s.heap.objs.size) (hz:xs.length<=sizeLine) (rv:Vals xs us)
  (hT:∃ o,h'.get? s.heap.objs.size=some o/\o.cls=.type "tuple"/\∃ n,o.data=.seq us.toArray n) (k:∀ b o,b∉ch->s.heap.get? b=some o->h'.get? b=some o):
  Inv X pins σ (L2.upd H s.heap.objs.size (.tup xs)) { s with heap:=h',toks:=t' }:=by
 obtain ⟨o,e,c,n,d⟩:=hT
 have hfree:o.isFreed=false:=by
  obtain ⟨oc,od,odt,osl⟩:=o
  have d':odt=.seq us.toArray n:=d
  subst d'
  rfl
 have I1:Inv X pins σ (L2.upd H s.heap.objs.size (.tup xs)) { s with heap:=s.heap.push o }:=I.laid (t':=s.toks) (fun b u q=>qc _ q) (le_refl _) ⟨hz,us,rv,⟨o,qd _ hfree,c,n,d⟩⟩
 have I2:=zen I1 (h':=h') (t':=t') (ch:=ch) (fun b hb=>zja (hf b hb) (ne_of_lt (hl b hb))) fun b u hb q=>by
  rcases Heap.get?_push_cases q with ⟨rfl,rfl⟩ | q
  ·exact e
  ·exact k b u hb q
 exact I2
end
def Ite (J:It):It:=⟨J.go,fun i H x H'=>∃ p y,H p=none/\J.yld i H y H/\x=.ref p/\H'=upd H p (.tup [.int i,y]),J.stop⟩
section
variable {prog:Program} {w:World} {A:Around} {E:Value->Shared->Prop} {s:Shared}
theorem zjD {e it:Addr} {i:Int} {old:Value} {Q:Option Value->Shared->Prop} (he:IsEnum s.heap e it i old) (hd:∀ (Q:Value->Shared->Prop) (E:Value->Shared->Prop),(∀ h' x,Heap.ExtBut it s.heap h'->(∃ o,h'.get? x=some o/\o.cls=.type "StopIteration")->E (.ref x) { s with heap:=h' })->wpAny (model prog w) A.in1 (Builtin.SmallTypes.nextOf (.ref it)) Q E s)
  (hQ:∀ h',Heap.ExtBut it s.heap h'->Q none { s with heap:=h' }):wpAny (model prog w) A (pyNext (.ref e)) Q E s:=by
 have ty:s.TypeIs (.ref e) "enumerate":=⟨_,he,rfl⟩
 unfold pyNext
 apply qa
 apply wpAny_attempt
 refine wpAny_callSpecial?_slot (name:=Str.ofString "__next__") ty F.slot_enumerate_next (wpAny_call_entry F.slot_enumerate_next ty F.entry_enumerate_next ?_ (F.args_enumerate_next_1 _))
 show wpAny _ _ (field (.ref e) 2 >>= _) _ _ _
 apply qa
 refine wpAny_field he rfl (x:=.ref it) rfl (qa (hd _ _ fun h' x hx1 hx2=>?_))
 obtain ⟨o,ho,hc⟩:=hx2
 exact qa (wpAny_isInstance (T:="StopIteration") (b:=true) ⟨o,ho,hc⟩ isSubtype_stop (qb (hQ _ hx1)))
end
theorem zhN {P:Program} {w:World} {K:W.Frag} {J:It} {it e:Addr} {tn:Nat->Heap->Prop} {elts:List Expr} {k:Nat} {pos:Pos} (S:Src P w K J it tn) (hei:e≠it):
  Turn P w K (.Tuple elts k pos) (Ite J) [e,it] e (fun i h=>(∃ old,IsEnum h e it i old)/\tn i h) where
 mem:=by simp
 obj:=fun i h st b hb=>by
  simp at hb
  rcases hb with rfl | rfl
  ·obtain ⟨old,q⟩:=st.1
   exact ⟨_,q,fun v z=>by cases z⟩
  ·obtain ⟨o,h1,h2,_⟩:=S.live i h st.2
   exact ⟨o,h1,h2⟩
 keep:=fun i h h' st kk=>by
  obtain ⟨⟨old,q⟩,t⟩:=st
  exact ⟨⟨old,kk e (by simp) _ q⟩,S.keep i h h' t fun o q=>kk it (by simp) o q⟩
 item:=by
  intro X hP hw hK hc i pins s σ H E I hf st hg
  obtain ⟨⟨old,he⟩,ht⟩:=st
  have hh:X.A.in1.handled=none:=I.ok.hd hc
  obtain ⟨fp,n,Pr,Sx,D,hS,hin,hif,hfp,hv,hs⟩:=S.item X hP hw hK i pins s σ H X.A.in1 hh I ht (hf it (by simp)).1 hg
  have hef:e∉fp:=fun z=>by
   rcases hfp e z with q | ⟨_,o,q,c⟩ | ⟨o,q,c⟩
   ·exact hei q
   ·rw [he] at q; cases q; exact absurd c (show ¬ (Value.type "enumerate"=Value.type "tuple") by decide)
   ·rw [he] at q; cases q; exact absurd c (show ¬ (Value.type "enumerate"=Value.type "list") by decide)
  have hel:e < s.heap.objs.size:=qg he
  obtain ⟨oi,hoi,_⟩:=S.live i _ ht
  have hil:it < s.heap.objs.size:=qg hoi
  subst hP hw hK
  refine wpAny_pyNext_enum_itemD (A:=X.A) D he hS hin hei hef fun x h1 tk hPx ho hS1 hT hsz hk=>?_
  obtain ⟨y,ry,hy⟩:=hv x hPx
  refine ⟨_,rfl,wpAny_letOwnedTupleGo_enum ho fun h2 he2 sb=>?_⟩
  have ne:s.heap.objs.size≠e:=ne_of_gt hel
  have I2:Inv X pins σ (upd H s.heap.objs.size (.tup [.int i,y])) { s with heap:=h2,toks:=tk + 1 }:=ze0 I (ch:=[e,it]) (us:=[.int i tk,x]) hf (fun b hb=>by
    simp at hb
    rcases hb with rfl | rfl
    ·exact hel
    ·exact hil) (by show 2<=_; decide) (.cons ⟨_,rfl⟩ (.cons ry .nil)) ⟨_,sb.extBut _ _ ne hT,rfl,_,rfl⟩ fun b o hb q=>by
   simp at hb
   exact sb.extBut _ _ hb.1 (hk b o hb.1 hb.2 q)
  refine ⟨.ref s.heap.objs.size,_,I2,rfl,⟨s.heap.objs.size,y,I.hok.fresh (le_refl _),hy,rfl,rfl⟩,⟨⟨x,by simpa using he2⟩,S.keep _ _ _ (hs _ hS1) fun o q=>sb.extBut _ _ (Ne.symm hei) q⟩,fun b hb=>?_⟩
  simp at hb
  rcases hb with rfl | rfl
  ·rw [zaj (ne_of_lt hel)]; exact (hf _ (by simp)).1
  ·rw [zaj (ne_of_lt hil)]; exact (hf _ (by simp)).1
 done:=by
  intro X hP hw hK hc i pins s σ H E I hf st hg
  obtain ⟨⟨old,he⟩,ht⟩:=st
  have hh:X.A.in1.handled=none:=I.ok.hd hc
  refine zjD he (S.done X hP hw hK i pins s σ H X.A.in1 hh I ht hg) fun h' hx=>⟨rfl,zen I (t':=s.toks) (ch:=[it]) (fun b hb=>hf b (by simp at hb; simp [hb])) fun b o hb q=>hx b o (by simpa using hb) q⟩
 self:=fun A i s Q E st h=>by
  obtain ⟨⟨old,he⟩,_⟩:=st
  exact wpAny_pyIter_enum he h
abbrev enumH (h:Heap) (z:Addr):Heap:=(h.push { cls:=.type "tuple_iterator",data:=.fields #[.ref z,.int 0 0] }).push { cls:=.type "enumerate",data:=.fields #[.none,.bool false,.ref h.objs.size,rawInt 0,.none,.none] }
set_option maxHeartbeats 1000000 in
theorem zg1 (z:Addr) (xs:Array Value) (n:Nat) (dd:Option Addr) (sl:Array (Option Value)):Meets (Builtin.«enumerate.__new__» ⟨[.type "enumerate",.ref z],[]⟩) (fun _ R s=>s.heap.get? z=some { cls:=.type "tuple",dict:=dd,data:=.seq xs n,slots:=sl }/\
  R (.ok (.ret (.ref (s.heap.objs.size + 1)))) { s with heap:=enumH s.heap z }):=
 .of_wp fun prog w A R s hyp=>by
  obtain ⟨hp,g,d,tk,os⟩:=s
  obtain ⟨hl,hr⟩:=hyp
  have ss:=sub_enumerate
  have hz:(hp.push { cls:=.type "tuple_iterator",data:=.fields #[.ref z,.int 0 0] }).objs.size=hp.objs.size + 1:=Heap.size_push ..
  have hr':R (.ok (.ret (.ref (hp.push { cls:=.type "tuple_iterator",data:=.fields #[.ref z,.int 0 0] }).objs.size))) { heap:=enumH hp z,gens:=g,drawn:=d,toks:=tk,os:=os }:=by rw [hz]; exact hr
  have hT:Heap.IsTuple (Shared.heap ⟨hp,g,d,tk,os⟩) z xs:=⟨_,hl,rfl,n,rfl⟩
  wp_walk using wpAny_loadPart' hl
  refine wpAny_stack_any fun st=>qb ?_
  split
  ·rename_i c _ _ _ _ _
   cases (c == Value.type "enumerate") <;> (wp_walk using wpAny_loadPart' hl,wpAny_pyIter_tuple hT; exact ⟨_,rfl,hr'⟩)
  ·wp_walk using wpAny_loadPart' hl,wpAny_pyIter_tuple hT
   exact ⟨_,rfl,hr'⟩
theorem ziR {prog:Program} {w:World} {A:Around} {E:Value->Shared->Prop} {s:Shared} {z:Addr} {xs:Array Value} {Q:Value->Shared->Prop} (hT:s.heap.IsTuple z xs)
  (k:∀ h',IsEnum h' (s.heap.objs.size + 1) s.heap.objs.size 0 .none->h'.IsTupleIter s.heap.objs.size z 0->(∀ b o,s.heap.get? b=some o->h'.get? b=some o)->Q (.ref (s.heap.objs.size + 1)) { s with heap:=h' }):
  wpAny (model prog w) A (call (.type "enumerate") [.ref z]) Q E s:=by
 obtain ⟨⟨c,dd,dt,sl⟩,hl,hc,n,hd⟩:=hT
 have e1:c=.type "tuple":=hc
 have e2:dt=.seq xs n:=hd
 subst e1 e2
 refine callType_new F.called_enumerate (by decide) (F.typeCall_enumerate_1 _) (F.newCall_enumerate_1 _) (fun obj=>F.args_object_init_2 obj _) F.entry_enumerate_new (zg1 z xs n dd sl) ⟨hl,?_⟩
 have hz:(s.heap.push { cls:=.type "tuple_iterator",data:=.fields #[.ref z,.int 0 0] }).objs.size=s.heap.objs.size + 1:=Heap.size_push ..
 have he:IsEnum (enumH s.heap z) (s.heap.objs.size + 1) s.heap.objs.size 0 .none:=by
  have:=qd (s.heap.push { cls:=.type "tuple_iterator",data:=.fields #[.ref z,.int 0 0] }) (o:={ cls:=.type "enumerate",data:=.fields #[.none,.bool false,.ref s.heap.objs.size,rawInt 0,.none,.none] }) rfl
  rw [hz] at this
  exact this
 exact ⟨⟨_,he,rfl⟩,k _ he ⟨_,qc _ (qd _ rfl),rfl,rfl⟩ fun b o x=>qc _ (qc _ x)⟩
def iEnum (K:W.Frag) (tl:TA):TI:=fun σ H R=>tl σ H fun vs H1=>(∃ a,vs=[.ref a]/\(∃ xs,SqL K H1 a xs)/\R (Ite (Itl K a)) H1)\/(∃ a,vs=[.ref a]/\(∃ xs,H1 a=some (.tup xs))/\R (Ite (Itu a)) H1)\/∃ x,vs=[.str x]/\R (Ite (Its x)) H1
section
variable {X:Cx} {elts:List Expr} {kk:Nat} {tpos p pos:Pos} {a:Expr}
theorem zli {tl:TA} (hc:X.calm=true) (hg:Gl X "enumerate") (hm:X.mg "enumerate"=none) (hv:bootBuiltins "enumerate"=some (.type "enumerate")) (hl:PA X [a] tl)
  (hs:starEach [a] X.env=[(false,eval a X.env)]:=by rfl):PI X (.Tuple elts kk tpos) (.Call (.Name "enumerate" p) [a] [] pos) (iEnum X.K tl):=by
 intro pins s σ H R I h
 refine wpAny_Call_Name_kw (zbF I hg hm hv ?_ (by decide) (by decide))
 refine PyProof.Rows.callWith_type1 (thn (hl pos pins s σ H _ I h) fun us s1 ⟨vs,H1,I1,r1,q1⟩=>?_) hs rfl
 have fin:∀ {J:It} {tn:Nat->Heap->Prop} {h':Heap},Src X.prog X.w X.K J s1.heap.objs.size tn->R (Ite J) H1->IsEnum h' (s1.heap.objs.size + 1) s1.heap.objs.size 0 .none->tn 0 h'->(∀ b o,s1.heap.get? b=some o->h'.get? b=some o)->
   wpAny (model X.prog X.w) X.A (pyIter (.ref (s1.heap.objs.size + 1))) (PIE X pins σ (.Tuple elts kk tpos) R) X.xe { s1 with heap:=h' }:=fun {J tn h'} S hR he ht kp=>by
  refine wpAny_pyIter_enum (s:={ s1 with heap:=h' }) he ?_
  refine ⟨s1.heap.objs.size + 1,[s1.heap.objs.size + 1,s1.heap.objs.size],_,_,H1,rfl,I1.kept (t':=s1.toks) kp,zhN S (Nat.succ_ne_self _),⟨⟨_,he⟩,ht⟩,fun b hb=>?_,hR⟩
  simp at hb
  rcases hb with rfl | rfl
  ·exact I1.fpOk (le_succ _) (I1.hok.fresh (le_succ _))
  ·exact I1.fpOk (le_refl _) (I1.hok.fresh (le_refl _))
 rcases q1 with ⟨b,e,⟨xs,hq⟩,q⟩ | ⟨b,e,⟨xs,hq⟩,q⟩ | ⟨x,e,q⟩
 ·subst e
  obtain ⟨u,rfl,ru⟩:=vals1 r1
  cases ru
  obtain ⟨its,rv,pl,hz⟩:=I1.list hq
  exact call_enumerate_list pl.isList fun h' he hi _ kp=>fin (zi1 b _) q he hi kp
 ·subst e
  obtain ⟨u,rfl,ru⟩:=vals1 r1
  cases ru
  obtain ⟨its,rv,pl,hz⟩:=I1.tuple (SqT.of hq)
  exact ziR pl fun h' he hi kp=>fin (zlq b _) q he hi kp
 ·subst e
  obtain ⟨u,rfl,ru⟩:=vals1 r1
  obtain ⟨t,rfl⟩:=ru
  exact call_enumerate_str fun h' he hi _ kp=>fin (zk1 _ x t) q he hi kp
theorem zcW {K:W.Frag} {J:It} {l:List D} {F0:Hp} (hy:∀ i H x H',J.yld i H x H'->H'=H) (h:ItOk K J l F0):ItOk K (Ite J) (enumF 0 l) F0:=fun i ρ σ F G H sm rel=>by
 obtain ⟨h1,h2⟩:=h i ρ σ F G H sm rel
 refine ⟨fun d hd=>?_,fun hl=>h2 (by rw [zeU] at hl; exact hl)⟩
 obtain ⟨e,he,rfl⟩:=zep l 0 i d hd
 obtain ⟨g1,g2⟩:=h1 e he
 refine ⟨g1,fun x H' ⟨p,y,hp,hyl,ex,eH⟩=>?_⟩
 subst ex eH
 obtain ⟨F',s1,r1,rp⟩:=g2 y H hyl
 obtain ⟨f0,_,_⟩:=r1.free hp
 refine ⟨upd F' p (.tup [.int i,y]),s1.trans (Same.upd f0),r1.newF hp,?_⟩
 have:=Rep.tup (K:=K) (F:=upd F' p (.tup [.int i,y])) (a:=p) (xs:=[.int i,y]) (ds:=[.int i,e]) zao (.cons (.int i) (.cons (rp.mono (Same.upd f0)) .nil))
 simpa using this
theorem zjE {K:W.Frag} {a:Addr} {xs:List V} {l:List D} {F0:Hp} (e:F0 a=some (.tup xs)) (r:Reps K F0 xs l):ItOk K (Itu a) l F0:=fun i ρ σ F G H sm rel=>by
 have e':H a=some (.tup xs):=(sm.trans rel.fr) _ _ e
 refine ⟨fun d hd=>?_,fun h=>⟨xs,e',by rw [r.len]; exact h⟩⟩
 obtain ⟨x,hx,rx⟩:=r.get hd
 refine ⟨⟨xs,x,e',hx⟩,fun y H' hy=>?_⟩
 obtain ⟨rfl,hy⟩:=hy
 have:x=y:=qh (hx.symm.trans (hy xs e'))
 subst this
 exact ⟨F,Same.refl F,rel,rx.mono sm⟩
theorem zey:bootBuiltins "enumerate"=some (.type "enumerate"):=by decide +kernel
theorem zlE {we:WE} (hc:X.calm=true) (hg:Gl X "enumerate") (hm:X.mg "enumerate"=none) (hv:bootBuiltins "enumerate"=some (.type "enumerate")) (ha:FE X a we) (hs:starEach [a] X.env=[(false,eval a X.env)]:=by rfl):
  FI X (.Tuple elts kk tpos) (.Call (.Name "enumerate" p) [a] [] pos) (wEnum we):=fun pn xe hp=>by
 refine PI.imp (zli (X:=wp X pn xe) hc hg hm hv (zaa ha zab hs pn xe hp) hs) fun σ H R q=>?_
 obtain ⟨F,G,ρ,P,PX,rel,hw,hok,hx⟩:=q
 refine ⟨F,G,ρ,fun rs ρ1=>match rs with | [r]=>(need (give r ρ1) fun p=>need (items p.1.toD) fun l=>P (enumF 0 l) p.2) | _=>False,PX,rel,hw,fun rs ρ1 vs F1 H1 hk s1 r1 hl rv=>?_,hx⟩
 match rs,vs,rv,r1,hk with
 | [r],[v],rv,r1,hk=>
   dsimp only at hk
   obtain ⟨⟨s,ρ2⟩,eg,hk⟩:=zaf hk
   obtain ⟨l,el,hk⟩:=zaf hk
   obtain ⟨F2,s2,l2,r2⟩:=giveR (ρ':=[]) (σ':=[]) r1 hl rv.1 eg
   obtain ⟨F3,s3,rp,r3⟩:=Rel.giveD (ρ:=ρ2) (vs:=[v]) (ss:=[s]) r2 (l2.trans hl)
   have sm:=s1.trans (s2.trans s3)
   cases rp with
   | cons a0 b0=>
     have el':items s.toD=some l:=el
     generalize s.toD=d at a0 el'
     cases a0 with
     | lst e0 r0=>
       cases el'
       exact .inl ⟨_,rfl,⟨_,SqL.mono r3.fr e0⟩,hok _ ρ2 F3 H1 _ hk sm r3 (zcW (fun _ _ _ _ z=>z.1) (zeD e0 r0))⟩
     | tup e0 r0=>
       cases el'
       exact .inr (.inl ⟨_,rfl,⟨_,r3.fr _ _ e0⟩,hok _ ρ2 F3 H1 _ hk sm r3 (zcW (fun _ _ _ _ z=>z.1) (zjE e0 r0))⟩)
     | str e0 z0=>
       cases el'
       exact .inr (.inr ⟨_,rfl,hok _ ρ2 F3 H1 _ hk sm r3 (zcW (fun _ _ _ _ z=>z.1) (zgi e0))⟩)
     | _=>cases el'
 | [],_,_,_,hk=>exact hk.elim
 | [_],[],rv,_,_=>exact rv.elim
 | [_],_::_::_,rv,_,_=>exact rv.2.elim
 | _::_::_,_,_,_,hk=>exact hk.elim
end
end FL
end
section
namespace FL
open PySem PySem.Spec PyProof.Rows L2
theorem zir {k:Nat} {A:Around} (hr:Room k A):A.mark none=A:=by
 obtain ⟨h,d,f,g,u⟩:=A
 have e:h=none:=hr.hd
 subst e
 rfl
end FL
end
section
namespace FL
open Classical in
def fIx (ks:List D) (k:D):Option Nat:=ks.findIdx? fun x=>decide (x=k)
def dputS (t:Bool) (ks:List D) (l:List S) (k:D) (s:S):S:=match fIx ks k with
 | some i=>.dct t ks (l.set i s)
 | none=>.dct t (ks++[k]) (l++[s])
def wDput (j:Nat) (i e:WE):WS:=fun D ρ=>e ρ (fun r ρ1=>wVar j ρ1 (fun x ρ2=>i ρ2 (fun y ρ3=>need (view y ρ3) fun q=>need (give r ρ3) fun p=>match x,slot p.2 j with
 | .loc k,some (.dct t ks l)=>k=j/\isKey t q=true/\ks.Nodup/\ks.length < big/\D.nx (p.2.set j (some (dputS t ks l q p.1)))
 | _,_=>False) D.ex) D.ex) D.ex
end FL
end
section
namespace FL
open PySem PySem.Spec PyProof.Rows L2
theorem zge {ks:List D} {k:D} {i:Nat} (h:fIx ks k=some i):ks[i]?=some k:=by
 unfold fIx at h
 rw [List.findIdx?_eq_some_iff_getElem] at h
 obtain ⟨hi,h1,_⟩:=h
 rw [getElem?_eq_getElem hi]
 congr 1
 simpa using h1
theorem zje {ks:List D} {k:D} (h:fIx ks k=none):k∉ks:=by
 unfold fIx at h
 rw [List.findIdx?_eq_none_iff] at h
 intro m
 have:=h k m
 simp at this
section
variable {κ:Type} [DecidableEq κ] {kd:κ->D} (inj:∀ a b,kd a=kd b->a=b)
include inj
theorem zjf {kvs:List (κ×V)} {k:κ} {v:V} {i:Nat} (hn:(kvs.map fun p=>kd p.1).Nodup) (h:(kvs.map fun p=>kd p.1)[i]?=some (kd k)):putK kvs k v=kvs.set i (k,v):=by
 have hi:i < kvs.length:=by
  have:=(qi.mp h).1
  simpa using this
 have hk:kvs[i].1=k:=by
  rw [getElem?_map,getElem?_eq_getElem hi] at h
  exact inj _ _ (qh h)
 have hany:(kvs.any fun kv=>decide (kv.1=k))=true:=any_eq_true.mpr ⟨kvs[i],getElem_mem hi,by simp [hk]⟩
 unfold putK
 rw [if_pos hany]
 apply ext_getElem?
 intro j
 rw [getElem?_map,getElem?_set]
 by_cases hj:i=j
 ·subst hj
  rw [getElem?_eq_getElem hi]
  simp [hk]
  exact hi
 ·rw [if_neg hj]
  cases q:kvs[j]? with
  | none=>rfl
  | some p=>
    have hne:¬ p.1=k:=fun z=>by
     apply hj
     have h2:(kvs.map fun p=>kd p.1)[j]?=some (kd k):=by rw [getElem?_map,q,<- z]; rfl
     exact (List.getElem?_inj (by simpa using hi) hn).mp (h.trans h2.symm)
    simp [hne]
omit inj in
theorem zjy {kvs:List (κ×V)} {k:κ} {v:V} (h:kd k∉kvs.map fun p=>kd p.1):putK kvs k v=kvs++[(k,v)]:=by
 unfold putK
 rw [if_neg]
 intro z
 obtain ⟨p,hp,e⟩:=any_eq_true.mp z
 exact h (mem_map.mpr ⟨p,hp,by rw [of_decide_eq_true e]⟩)
theorem zik {kvs:List (κ×V)} {k:κ} {v:V} {ks:List D} (hks:ks=kvs.map fun p=>kd p.1) (hn:ks.Nodup):
  (∀ m,fIx ks (kd k)=some m->ks=(putK kvs k v).map (fun p=>kd p.1)/\(kvs.map (·.2)).set m v=(putK kvs k v).map (·.2))/\(fIx ks (kd k)=none->ks++[kd k]=(putK kvs k v).map (fun p=>kd p.1)/\kvs.map (·.2)++[v]=(putK kvs k v).map (·.2)):=by
 subst hks
 refine ⟨fun m hm=>?_,fun hm=>?_⟩
 ·have h:=zge hm
  rw [zjf inj hn h,map_set,map_set]
  refine ⟨?_,rfl⟩
  apply ext_getElem?
  intro j
  rw [getElem?_set]
  by_cases hj:m=j
  ·subst hj; rw [if_pos rfl,if_pos (qi.mp h).1,h]
  ·rw [if_neg hj]
 ·rw [zjy (zje hm),map_append,map_append]
  exact ⟨rfl,rfl⟩
end
inductive DOb (ks:List D) (xs:List V):Bool->HO->Prop
 | k {kvs:List (Key×V)}:ks=kvs.map (fun p=>keyD p.1)->xs=kvs.map (·.2)->DOb ks xs false (.dK kvs)
 | t {kvs:List (List Key×V)}:ks=kvs.map (fun p=>D.tup (p.1.map keyD))->xs=kvs.map (·.2)->DOb ks xs true (.dT kvs)
section
variable {K:W.Frag} {F H G:Hp} {σ:St} {ρ:Env}
theorem zdT {v:V} {t:Bool} {ks:List D} {l:List S} {fp:List Addr} (r:SRep K F H v (.dct t ks l) fp):∃ a o xs fl,v=.ref a/\fp=a::fl/\H a=some o/\DOb ks xs t o/\SReps K F H xs l fl:=by
 cases r with
 | dK e q r=>exact ⟨_,_,_,_,rfl,rfl,e,.k q rfl,r⟩
 | dT e q r=>exact ⟨_,_,_,_,rfl,rfl,e,.t q rfl,r⟩
theorem DOb.mk {a:Addr} {o:HO} {t:Bool} {ks:List D} {xs:List V} {l:List S} {fl:List Addr} (d:DOb ks xs t o) (e:H a=some o) (r:SReps K F H xs l fl):SRep K F H (.ref a) (.dct t ks l) (a::fl):=by
 cases d with
 | k q z=>subst z; exact .dK e q r
 | t q z=>subst z; exact .dT e q r
theorem DOb.len {o:HO} {t:Bool} {ks:List D} {xs:List V} (d:DOb ks xs t o):ks.length=xs.length:=by
 cases d with
 | k q z=>subst z; subst q; simp
 | t q z=>subst z; subst q; simp
theorem DOb.put {a:Addr} {o:HO} {t:Bool} {ks:List D} {xs:List V} {y v:V} {q:D} (d:DOb ks xs t o) (e:H a=some o) (r:Rep K H y q) (hk:isKey t q=true) (hn:ks.Nodup) (hb:ks.length < sizeLine):
  ∃ o',DPut H a y v (upd H a o')/\(∀ m,fIx ks q=some m->DOb ks (xs.set m v) t o')/\(fIx ks q=none->DOb (ks++[q]) (xs++[v]) t o'):=by
 cases d with
 | @k kvs h1 h2=>
   subst h2
   obtain ⟨key,rfl,rfl⟩:=zcV r hk
   obtain ⟨p1,p2⟩:=zik (fun _ _=>zbA) (k:=key) (v:=v) h1 hn
   exact ⟨_,.inl ⟨kvs,key,e,rfl,by rw [h1,length_map] at hb; exact hb,rfl⟩,fun m hm=>.k (p1 m hm).1 (p1 m hm).2,fun hm=>.k (p2 hm).1 (p2 hm).2⟩
 | @t kvs h1 h2=>
   subst h2
   cases r with
   | tup e1 q=>
     obtain ⟨keys,rfl,rfl⟩:=zfq q hk
     obtain ⟨p1,p2⟩:=zik (kd:=fun l:List Key=>D.tup (l.map keyD)) (fun a b z=>zbW (D.tup.inj z)) (k:=keys) (v:=v) h1 hn
     exact ⟨_,.inr ⟨kvs,keys,_,e,rfl,e1,by rw [h1,length_map] at hb; exact hb,rfl⟩,fun m hm=>.t (p1 m hm).1 (p1 m hm).2,fun hm=>.t (p2 hm).1 (p2 hm).2⟩
   | _=>cases hk
theorem Rel.dct {n:Nat} {t:Bool} {ks ks':List D} {l l':List S} {s:S} {v:V} {D:Addr} {o o':HO} {xs xs':List V} (r:Rel K (ρ++[some s]) (σ++[some v]) F G H) (hs:slot ρ n=some (.dct t ks l)) (hσ:σ[n]?=some (some (.ref D))) (hD:H D=some o) (ho:DOb ks xs t o) (ho':DOb ks' xs' t o')
  (hin:∀ (H':Hp) (fl fs:List Addr),SReps K F H' xs l fl->SRep K F H' v s fs->∃ fl' rest,SReps K F H' xs' l' fl'/\(fl'++rest).Perm (fl++fs)):
  Rel K (ρ.set n (some (.dct t ks' l'))) σ F G (upd H D o'):=by
 have hl:=len1 r
 obtain ⟨fp,e,nd,ap⟩:=r.en
 obtain ⟨f1,f2,rfl,a,b⟩:=e.cut hl
 obtain ⟨v',fa,fi,fb,e1,rfl,q,up⟩:=a.at hs
 rw [hσ] at e1
 have e2:V.ref D=v':=by simpa using e1
 subst e2
 obtain ⟨a',o2,xs2,fl,z1,rfl,hD2,ho2,rl⟩:=zdT q
 cases z1
 rw [hD] at hD2
 cases hD2
 have ex:xs2=xs:=by
  cases ho with
  | k _ z=>cases ho2 with | k _ z'=>rw [z,z']
  | t _ z=>cases ho2 with | t _ z'=>rw [z,z']
 subst ex
 cases b with
 | so sr nl=>
   cases nl
   rename_i fs
   obtain ⟨n1,n2,n12⟩:=nodup_append.mp nd
   obtain ⟨na,nib,nab⟩:=nodup_append.mp n1
   obtain ⟨ni,nb,nib⟩:=nodup_append.mp nib
   obtain ⟨nD,nfl⟩:=nodup_cons.mp ni
   have hDa:D∉fa:=fun z=>nab D z D (qm _ qp) rfl
   have hDb:D∉fb:=fun z=>nib D qp D z rfl
   have hDs:D∉fs:=fun z=>n12 D (qk _ (qm _ qp)) D (by simpa using z) rfl
   have apD:=ap D (qm _ (qk _ (qm _ qp)))
   have ne:∀ {l:List Addr},D∉l->∀ x∈l,upd H D o' x=H x:=fun h x hx=>zaj fun z=>h (z ▸ hx)
   obtain ⟨fl',rest,rl',pm⟩:=hin (upd H D o') fl fs (rl.mono (Same.refl F) (ne nD)) (sr.mono (Same.refl F) (ne hDs))
   have a2:=up (F':=F) (H':=upd H D o') (o:=some (.dct t ks' l')) (u:=some (.ref D)) (Same.refl F) (fun x hx=>zaj fun z=>(mem_append.mp hx).elim (fun w=>hDa (z ▸ w)) fun w=>hDb (z ▸ w)) (.so (ho'.mk zao rl') .nil)
   rw [zdF hσ] at a2
   have p:(fa++((D::(fl'++rest))++[]++fb)).Perm (fa++((D::fl)++fb)++(fs++[])):=by
    refine (List.Perm.append_left _ (List.Perm.append_right _ (List.Perm.append_right _ (List.Perm.cons _ pm)))).trans ?_
    simp only [append_nil,append_assoc,cons_append]
    refine List.Perm.append_left _ (List.Perm.cons _ (List.Perm.append_left _ perm_append_comm))
   have sb:List.Sublist (fa++((D::fl')++[]++fb)) (fa++((D::(fl'++rest))++[]++fb)):=by
    simp only [append_nil,append_assoc,cons_append]
    exact List.Sublist.append (List.Sublist.refl _) (List.Sublist.cons_cons _ (List.Sublist.append (List.Sublist.refl _) (List.sublist_append_right _ _)))
   refine ⟨Same.updR r.fr apD.1,fun x o w=>?_,_,a2,sb.nodup (p.nodup_iff.mpr nd),fun x hx=>ap x (p.mem_iff.mp (sb.subset hx))⟩
   have hx:x≠D:=fun z=>by rw [z,apD.2] at w; cases w
   rw [zaj hx]
   exact r.gr x o w
theorem Rel.dput {n:Nat} {t:Bool} {ks:List D} {l:List S} {s:S} {v y:V} {q:FL.D} {D:Addr} (r:Rel K (ρ++[some s]) (σ++[some v]) F G H) (hs:slot ρ n=some (.dct t ks l)) (hσ:σ[n]?=some (some (.ref D))) (ry:Rep K H y q) (hk:isKey t q=true) (hn:ks.Nodup) (hb:ks.length < big):
  ∃ H',DPut H D y v H'/\Rel K (ρ.set n (some (dputS t ks l q s))) σ F G H':=by
 obtain ⟨v',fp,e1,sr⟩:=(r.drop (len1 r)).at hs
 rw [hσ] at e1
 have e2:V.ref D=v':=by simpa using e1
 subst e2
 obtain ⟨a',o,xs,fl,z1,_,hD,ho,rl⟩:=zdT sr
 cases z1
 have hlen:=ho.len
 have hll:=rl.len
 obtain ⟨o',dp,h1,h2⟩:=ho.put (v:=v) hD ry hk hn (by rw [sizeLine_eq]; exact lt_trans hb (by decide))
 refine ⟨_,dp,?_⟩
 cases qf:fIx ks q with
 | some m=>
   have ed:dputS t ks l q s=.dct t ks (l.set m s):=by unfold dputS; rw [qf]
   rw [ed]
   have hml:m < l.length:=by
    have:=(qi.mp (zge qf)).1
    lia
   refine r.dct hs hσ hD ho (h1 m qf) fun H' fl fs rl sr=>?_
   obtain ⟨ga,gi,gb,rfl,sup⟩:=rl.set hml
   refine ⟨_,gi,sup (fun _ _=>rfl) sr,?_⟩
   simp only [append_assoc]
   exact List.Perm.append_left _ ((List.Perm.append_left _ perm_append_comm).trans (perm_append_comm.trans (by simp)))
 | none=>
   have ed:dputS t ks l q s=.dct t (ks++[q]) (l++[s]):=by unfold dputS; rw [qf]
   rw [ed]
   exact r.dct hs hσ hD ho (h2 qf) fun H' fl fs rl sr=>⟨fl++fs,[],SReps.snoc rl sr,by simp⟩
end
section
variable {X:Cx} {ks:List Nat} {pos tpos:Pos}
theorem zfo {j:Nat} {o i e:Expr} {wi we:WE} (hu:X.A.units + 1 < cLine) (ho:FE X o (wVar j)) (hi:FE X i wi) (he:FE X e we) (hs:swapsWith e (some (.Subscript o i tpos)) pos.line X.env=pure false:=by rfl):FS X ks (.Assign [.Subscript o i tpos] e pos) (wDput j wi we):=fun pn xe hp=>by
 refine PS.imp (zlA (X:=wp X pn xe) hu (ho pn xe hp) (hi pn xe hp) (he pn xe hp) hs) fun D σ H q=>?_
 obtain ⟨F,G,ρ,E,rel,hw,n,b,c,r,x⟩:=q
 have x0:XC (wp X pn xe) (·=σ) F G E.ex:=x.mono (fun σ2 z=>by rw [z]; exact KP.refl) (Same.refl F) (Same.refl G)
 refine ⟨F,G,ρ,_,_,rel,hw,fun r ρ1 v F1 H1 hk s1 r1 rv=>?_,x0⟩
 have l1:=len1 r1
 obtain ⟨G1,rel1,gg,back⟩:=r1.hide l1
 refine ⟨F1,G1,ρ1,_,_,rel1,hk,fun y ρ2 o' F2 H2 hk2 s2 r2 rv2=>?_,x0.mono (fun _ z=>z) s1 gg⟩
 have l2:=len1 r2
 obtain ⟨G2,rel2,gg2,back2⟩:=r2.hide l2
 refine ⟨F2,G2,ρ2,_,_,rel2,hk2,fun z ρ3 i' F3 H3 hk3 s3 r3 rv3=>?_,x0.mono (fun _ z=>z) (s1.trans s2) (gg.trans gg2)⟩
 have l3:=len1 r3
 obtain ⟨q,eq,hk3⟩:=zaf hk3
 obtain ⟨⟨t,ρ4⟩,eg,hk4⟩:=zaf hk3
 have r4:=back (s2.trans s3) (back2 s3 r3)
 simp only [append_assoc,cons_append,nil_append] at r4
 have ri:=look (ρ':=[slotOf y,slotOf r]) (σ':=[some o',some v]) r4 l3 rv3 eq
 have r5:Rel X.K (ρ3++[slotOf r]) (σ++[some v]) F3 G H3:=Rel.mid (ρ:=ρ3) (σ:=σ) (Rel.mid (ρ:=ρ3) (σ:=σ) r4 l3) l3
 obtain ⟨F4,s4,l4,r6⟩:=giveR (ρ':=[]) (σ':=[]) r5 l3 rv eg
 cases y with
 | v y0=>exact hk4.elim
 | loc k=>
   cases qs:slot ρ4 j with
   | none=>simp only [qs] at hk4
   | some sj=>
     rw [qs] at hk4
     match sj,qs,hk4 with
     | .dct t kk l,qs,⟨ekj,hkey,hnd,hbig,hnx⟩=>
       subst ekj
       have hσ:σ[k]?=some (some o'):=rv2
       obtain ⟨v',fp,e1,sr⟩:=r6.at (i:=k) (s:=.dct t kk l) (by rw [zbT (zb9 qs)]; exact qs)
       have hkl:k < σ.length:=(qi.mp hσ).1
       rw [getElem?_append_left hkl,hσ] at e1
       have e2:o'=v':=by simpa using e1
       subst e2
       obtain ⟨a,o2,xs,fl,rfl,_,_,_,_⟩:=zdT sr
       obtain ⟨H',dp,r7⟩:=Rel.dput r6 qs hσ ri hkey hnd hbig
       exact ⟨a,_,rfl,dp,n _ σ F4 _ hnx KP.refl (s1.trans (s2.trans (s3.trans s4))) r7⟩
end
end FL
end
section
namespace FL
def wDisp1 (k v:WE):WE:=fun ρ Q E=>k ρ (fun x ρ1=>v ρ1 (fun y ρ2=>need (view x ρ2) fun q=>need (give y ρ2) fun p=>isKey1 q=true/\Q (.v (.dct false [q] [p.1])) p.2) E) E
end FL
end
section
namespace FL
open PySem PySem.Spec PyProof.Rows L2
section
variable {X:Cx} {elts:List Expr} {kk:Nat} {tpos apos cpos:Pos} {o:Expr}
theorem ziY {k v:Expr} {wk wv:WE} {pos:Pos} (hk:FE X k wk) (hv:FE X v wv):FE X (.Dict [some k] [v] pos) (wDisp1 wk wv):=fun pn xe hp=>by
 refine PE.imp (zkL (X:=wp X pn xe) (zjr (hk pn xe hp) (hv pn xe hp) zkr) rfl rfl (by simp) (by show 1<=15; decide)) fun σ H Q q=>?_
 obtain ⟨F,G,ρ,P,PX,rel,hw,hok,hx⟩:=q
 intro p hp
 have r0:=Rel.newO (s:=.dct false [] []) rel hp (.dK (kvs:=[]) zao rfl .nil)
 obtain ⟨G0,rel0,g0,back0⟩:=r0.hide (len1 r0)
 refine ⟨F,G0,ρ,_,PX,rel0,hw,fun rx ρ1 vx F1 H1 hk1 s1 r1 rv1=>?_,hx.mono (fun _ z=>z) (Same.refl F) g0⟩
 have l1:=len1 r1
 obtain ⟨G1,rel1,g1,back1⟩:=r1.hide l1
 refine ⟨F1,G1,ρ1,_,PX,rel1,hk1,fun ry ρ2 vy F2 H2 hk2 s2 r2 rv2=>?_,hx.mono (fun _ z=>z) s1 (g0.trans g1)⟩
 have l2:=len1 r2
 obtain ⟨q,eq,hk3⟩:=zaf hk2
 obtain ⟨⟨t,ρ3⟩,eg,hkey,hk4⟩:=zaf hk3
 have r3:=back0 (s1.trans s2) (back1 s2 r2)
 simp only [append_assoc,cons_append,nil_append] at r3
 -- y,x,the dict
 obtain ⟨F3,s3,l3,r4⟩:=giveR (ρ':=[slotOf rx,some (.dct false [] [])]) (σ':=[some vx,some (.ref p)]) r3 l2 rv2 eg
 have r3':Rel X.K (ρ2++slotOf rx::[some (.dct false [] [])]) (σ++some vx::[some (.ref p)]) F2 G H2:=r3.mid l2
 have rq:=look (ρ':=[some (.dct false [] [])]) (σ':=[some (.ref p)]) r3' l2 rv1 eq
 obtain ⟨key,rfl,rfl⟩:=zcV rq hkey
 have l3':ρ3.length=σ.length:=l3.trans l2
 have r5:Rel X.K (ρ3++[some t,some (.dct false [] [])]) (σ++[some vy,some (.ref p)]) F3 G H2:=by
  have:=Rel.mid (ρ:=ρ3++[some t]) (σ:=σ++[some vy]) (ρ':=[some (.dct false [] [])]) (σ':=[some (.ref p)]) (o:=slotOf rx) (w:=some (kV key)) (by simpa using r4) (by simp [l3'])
  simpa using this
 have r6:=Rel.swap (ρ1:=[some t]) (σ1:=[some vy]) (ρ2:=[some (.dct false [] [])]) (σ2:=[some (.ref p)]) l3' rfl r5
 have r7:Rel X.K ((ρ3++[some (.dct false [] [])])++[some t]) ((σ++[some (.ref p)])++[some vy]) F3 G H2:=by simpa using r6
 have hs7:slot (ρ3++[some (.dct false [] [])]) ρ3.length=some (.dct false [] []):=zaC (ρ':=[])
 have hσ7:(σ++[some (V.ref p)])[ρ3.length]?=some (some (.ref p)):=by rw [l3']; simp
 have hp2:H2 p=some (.dK []):=by
  obtain ⟨v',fp,e1,sr⟩:=(r7.drop (len1 r7)).at hs7
  rw [hσ7] at e1
  have e2:V.ref p=v':=by simpa using e1
  subst e2
  cases sr with
  | @dK _ kvs _ _ fl hH hks rl=>
    have:kvs=[]:=by simpa using hks
    rw [this] at hH; exact hH
 have r8:=r7.dct (ks':=[keyD key]) (l':=[t]) (o':=.dK [(key,vy)]) hs7 hσ7 hp2 (.k rfl rfl) (.k rfl rfl) fun H' fl fs rl sr=>⟨fs++[],[],.cons sr .nil,by cases rl; simp⟩
 refine ⟨hp2,[(key,vy)],rfl,by show 1<=15; decide,?_⟩
 have e9:(ρ3++[some (S.dct false [] [])]).set ρ3.length (some (.dct false [keyD key] [t]))=ρ3++[some (.dct false [keyD key] [t])]:=zce (ρ':=[])
 rw [e9] at r8
 exact hok _ ρ3 _ F3 _ hk4 (s1.trans (s2.trans s3)) r8 trivial
end
section
variable {X:Cx} {K:W.Frag} {p pos:Pos} {e:Expr} {es:List Expr} {wa:WA}
theorem zaY {ns:List Int}:∀ {us:List Value},Vals (ns.map V.int) us->IntsAre us ns:=by
 induction ns with
 | nil=>intro us r; cases r; exact .nil
 | cons n ns ih=>
   intro us r
   rw [map_cons] at r
   cases r with
   | cons r1 r2=>
     obtain ⟨t,rfl⟩:=r1
     exact .cons _ t (ih r2)
end
end FL
end
section
namespace FL
end FL
end
section
namespace FL
open PySem PySem.Spec PyProof.Rows L2
end FL
end
section
namespace FL
open PySem PySem.W PyProof.Rows
section
variable {n:Nat} {rk:Nat->Int} {α β:Type}
def AskOk (n:Nat) (rk:Nat->Int) {α:Type}:KasT α->(α->Prop)->Prop
 | .ret a,P=>P a
 | .ask i j k,P=>i < n/\j < n/\AskOk n rk (k (decide (rk i < rk j))) P
theorem zbk {f:α->KasT β} {P:β->Prop}:∀ {t:KasT α},AskOk n rk t (fun a=>AskOk n rk (f a) P)->AskOk n rk (t.bind f) P
 | .ret _,h=>h
 | .ask _ _ _,h=>⟨h.1,h.2.1,zbk h.2.2⟩
def kA (rk:Nat->Int) (p:Array Nat) (k:Nat):Int:=rk ((p[k]?).getD 0)
theorem zc8 (p:Array Nat) (k:Nat):rk (p.getD k 0)=kA rk p k:=by unfold kA; rw [getD_eq_getD_getElem?]
def InR (n:Nat) (p:Array Nat):Prop:=p.size=n/\∀ k,p.getD k 0 < n
def Srt (rk:Nat->Int) (p:Array Nat) (m:Nat):Prop:=∀ a b,a<=b->b < m->kA rk p a<=kA rk p b
def Dsc (rk:Nat->Int) (p:Array Nat) (m:Nat):Prop:=∀ a b,a<=b->b < m->kA rk p b<=kA rk p a
theorem zb4 {p q:Array Nat} (h:InR n q) (hp:p.Perm q) (hn:0 < n):InR n p:=by
 refine ⟨hp.size_eq.trans h.1,fun k=>?_⟩
 rw [getD_eq_getD_getElem?]
 cases e:p[k]? with
 | none=>exact hn
 | some x=>
   have hm:x∈q:=hp.mem_iff.mp (Array.mem_of_getElem? e)
   obtain ⟨j,hj,ej⟩:=Array.getElem_of_mem hm
   have:=h.2 j
   rw [getD_eq_getD_getElem?,Array.getElem?_eq_getElem hj,ej] at this
   exact this
theorem zfB {p:Array Nat} {P:Nat->Prop} (hr:InR n p):∀ (f m:Nat),1<=m->Srt rk p m->(∀ m',m<=m'->m'<=m + f->Srt rk p m'->(m' < m + f->kA rk p m' < kA rk p (m' - 1))->P m')->AskOk n rk (kas_asc p f m) P
 | 0,m,_,hs,h=>h m (le_refl _) (le_refl _) hs fun z=>absurd z (by lia)
 | f + 1,m,h1,hs,h=>by
   refine ⟨hr.2 m,hr.2 (m - 1),?_⟩
   rw [zc8 (rk:=rk),zc8 (rk:=rk)]
   by_cases hc:kA rk p m < kA rk p (m - 1)
   ·rw [decide_eq_true hc]
    exact h m (le_refl _) (by lia) hs fun _=>hc
   ·rw [decide_eq_false hc]
    refine zfB hr f (m + 1) (by lia) (fun a b hab hb=>?_) fun m' h2 h3 h4 h5=>h m' (by lia) (by lia) h4 fun z=>h5 (by lia)
    by_cases hbm:b < m
    ·exact hs a b hab hbm
    ·have:b=m:=by lia
     subst this
     by_cases ha:a=b
     ·rw [ha]; exact Int.le_refl _
     ·have:=hs a (b - 1) (by lia) (by lia)
      lia
theorem zcQ {p:Array Nat} {k:Nat} {P:Nat->Prop} (hr:InR n p) (hs:Srt rk p k):∀ (f l r:Nat),l<=r->r<=k->r - l<=f->(∀ a,a < l->kA rk p a<=kA rk p k)->(∀ a,r<=a->a < k->kA rk p k < kA rk p a)->
  (∀ l',l'<=k->(∀ a,a < l'->kA rk p a<=kA rk p k)->(∀ a,l'<=a->a < k->kA rk p k < kA rk p a)->P l')->AskOk n rk (kas_place p k f l r) P
 | 0,l,r,h1,h2,h3,h4,h5,h=>by
   have:l=r:=by lia
   subst this
   exact h l h2 h4 h5
 | f + 1,l,r,h1,h2,h3,h4,h5,h=>by
   unfold kas_place
   by_cases hl:l ≥ r
   ·rw [if_pos hl]
    have:l=r:=by lia
    subst this
    exact h l h2 h4 h5
   ·rw [if_neg hl]
    refine ⟨hr.2 k,hr.2 _,?_⟩
    rw [zc8 (rk:=rk),zc8 (rk:=rk)]
    by_cases hc:kA rk p k < kA rk p ((l + r) / 2)
    ·rw [decide_eq_true hc]
     refine zcQ hr hs f l ((l + r) / 2) (by lia) (by lia) (by lia) h4 (fun a h6 h7=>?_) h
     have:=hs _ a h6 h7
     lia
    ·rw [decide_eq_false hc]
     refine zcQ hr hs f ((l + r) / 2 + 1) r (by lia) h2 (by lia) (fun a h6=>?_) h5 h
     have:=hs a ((l + r) / 2) (by lia) (by lia)
     lia
theorem zeg {p:Array Nat} {k d:Nat} (hk:k < p.size) (hd:d<=k) (j:Nat):kA rk (bubble p k d) j=if j=k - d then kA rk p k else if k - d < j/\j<=k then kA rk p (j - 1) else kA rk p j:=by
 unfold kA
 rw [getElem?_bubble hk d hd j]
 by_cases h1:j=k - d
 ·rw [if_pos h1,if_pos h1]
 ·rw [if_neg h1,if_neg h1]
  by_cases h2:k - d < j/\j<=k
  ·rw [if_pos h2,if_pos h2]
  ·rw [if_neg h2,if_neg h2]
theorem zhQ {P:Array Nat->Prop} (hn:0 < n):∀ (f:Nat) (p:Array Nat) (k:Nat),InR n p->Srt rk p k->k + f<=n->(∀ p',p'.Perm p->InR n p'->Srt rk p' (k + f)->P p')->AskOk n rk (kas_bin f p k) P
 | 0,p,k,hr,hs,_,h=>h p (Array.Perm.refl _) hr hs
 | f + 1,p,k,hr,hs,hk,h=>by
   unfold kas_bin
   refine zbk (zcQ hr hs k 0 k (zero_le _) (le_refl _) (by lia) (fun a z=>absurd z (by lia)) (fun a z1 z2=>absurd z1 (by lia)) fun l hl h1 h2=>?_)
   have hks:k < p.size:=by rw [hr.1]; lia
   have hp:=bubble_perm p k (k - l)
   refine zhQ hn f _ (k + 1) (zb4 hr hp hn) (fun a b hab hb=>?_) (by lia) fun p' q1 q2 q3=>h p' (q1.trans hp) q2 (by rw [show k + (f + 1)=k + 1 + f by lia]; exact q3)
   rw [zeg hks (by lia),zeg hks (by lia)]
   have ekl:k - (k - l)=l:=by lia
   rw [ekl]
   by_cases ha:a=l
   ·rw [if_pos ha]
    by_cases hb2:b=l
    ·rw [if_pos hb2]; exact Int.le_refl _
    ·rw [if_neg hb2,if_pos ⟨by lia,by lia⟩]
     have:=h2 (b - 1) (by lia) (by lia)
     lia
   ·rw [if_neg ha]
    by_cases ha2:l < a/\a<=k
    ·rw [if_pos ha2,if_neg (by lia),if_pos ⟨by lia,by lia⟩]
     exact hs (a - 1) (b - 1) (by lia) (by lia)
    ·rw [if_neg ha2]
     have hal:a < l:=by lia
     by_cases hb2:b=l
     ·rw [if_pos hb2]; exact h1 a hal
     ·rw [if_neg hb2]
      by_cases hb3:l < b/\b<=k
      ·rw [if_pos hb3]; exact hs a (b - 1) (by lia) (by lia)
      ·rw [if_neg hb3]; exact hs a b hab (by lia)
theorem zeV {p:Array Nat} {i j:Nat} (hj:j<=p.size) (k:Nat):kA rk (kas_rev p i j) k=if i<=k/\k < j then kA rk p (i + j - 1 - k) else kA rk p k:=by
 unfold kA kas_rev
 rw [getElem?_mirror_all hj]
 by_cases h:i<=k/\k < j
 ·rw [if_pos h,if_pos h]
 ·rw [if_neg h,if_neg h]
theorem za1 (p:Array Nat) (i j:Nat):(kas_rev p i j).Perm p:=mirror_perm ..
theorem zdB {P:Array Nat×Nat×Nat->Prop} (hn:0 < n):∀ (f:Nat) (p:Array Nat) (m q:Nat),InR n p->Dsc rk p m->m + f<=n->q + 1<=m->(∀ a,m - (q + 1)<=a->a < m->kA rk p a=kA rk p (m - 1))->
  (∀ p' m' q',p'.Perm p->InR n p'->Dsc rk p' m'->m'<=m + f->m<=m'->q' + 1<=m'->(∀ a,m' - (q' + 1)<=a->a < m'->kA rk p' a=kA rk p' (m' - 1))->P (p',m',q'))->AskOk n rk (kas_desc f p m q) P
 | 0,p,m,q,hr,hd,_,hq,he,h=>h p m q (Array.Perm.refl _) hr hd (le_refl _) (le_refl _) hq he
 | f + 1,p,m,q,hr,hd,hm,hq,he,h=>by
   unfold kas_desc
   refine ⟨hr.2 m,hr.2 (m - 1),?_⟩
   rw [zc8 (rk:=rk),zc8 (rk:=rk)]
   by_cases hc:kA rk p m < kA rk p (m - 1)
   ·(rw [decide_eq_true hc]; dsimp only; rw [if_pos rfl])
    have go:∀ p2:Array Nat,p2.Perm p->(∀ k,kA rk p2 k=kA rk p k)->AskOk n rk (kas_desc f p2 (m + 1) 0) P:=by
     intro p2 hp hk
     refine zdB hn f p2 (m + 1) 0 (zb4 hr hp hn) (fun a b hab hb=>?_) (by lia) (by lia) (fun a h1 h2=>?_) fun p' m' q' g1 g2 g3 g4 g5 g6 g7=>h p' m' q' (g1.trans hp) g2 g3 (by lia) (by lia) g6 g7
     ·rw [hk,hk]
      by_cases hbm:b < m
      ·exact hd a b hab hbm
      ·have:b=m:=by lia
       subst this
       by_cases ha:a=b
       ·rw [ha]; exact Int.le_refl _
       ·have:=hd a (b - 1) (by lia) (by lia)
        lia
     ·have:a=m + 1 - 1:=by lia
      rw [this]
    by_cases hq0:q > 0
    ·rw [if_pos hq0]
     refine go _ (za1 ..) fun k=>?_
     rw [zeV (by rw [hr.1]; lia)]
     by_cases hk:m - (q + 1)<=k/\k < m
     ·rw [if_pos hk,he k hk.1 hk.2,he _ (by lia) (by lia)]
     ·rw [if_neg hk]
    ·rw [if_neg hq0]
     exact go p (Array.Perm.refl _) fun _=>rfl
   ·(rw [decide_eq_false hc]; dsimp only; rw [if_neg Bool.false_ne_true])
    refine ⟨hr.2 (m - 1),hr.2 m,?_⟩
    rw [zc8 (rk:=rk),zc8 (rk:=rk)]
    by_cases hc2:kA rk p (m - 1) < kA rk p m
    ·(rw [decide_eq_true hc2]; dsimp only; rw [if_pos rfl])
     exact h p m q (Array.Perm.refl _) hr hd (by lia) (le_refl _) hq he
    ·(rw [decide_eq_false hc2]; dsimp only; rw [if_neg Bool.false_ne_true])
     have heq:kA rk p m=kA rk p (m - 1):=by lia
     refine zdB hn f p (m + 1) (q + 1) hr (fun a b hab hb=>?_) (by lia) (by lia) (fun a h1 h2=>?_) fun p' m' q' g1 g2 g3 g4 g5 g6 g7=>h p' m' q' g1 g2 g3 (by lia) (by lia) g6 g7
     ·by_cases hbm:b < m
      ·exact hd a b hab hbm
      ·have:b=m:=by lia
       subst this
       by_cases ha:a=b
       ·rw [ha]; exact Int.le_refl _
       ·have:=hd a (b - 1) (by lia) (by lia)
        lia
     ·show kA rk p a=kA rk p m
      by_cases ha:a=m
      ·rw [ha]
      ·rw [heq]; exact he a (by lia) (by lia)
theorem zkB {p:Array Nat} {m:Nat} (hm:m<=p.size) (hd:Dsc rk p m):Srt rk (kas_rev p 0 m) m:=fun a b hab hb=>by
 rw [zeV hm,zeV hm,if_pos ⟨zero_le _,by lia⟩,if_pos ⟨zero_le _,hb⟩]
 exact hd _ _ (by lia) (by lia)
theorem zfU {P:Nat×Array Nat->Prop} (hn:0 < n) {p:Array Nat} {m:Nat} (hr:InR n p) (hd:Dsc rk p m) (h1:1<=m) (hm:m<=n)
  (h:∀ m' p',p'.Perm p->InR n p'->m<=m'->m'<=n->Srt rk p' m'->P (m',p')):AskOk n rk (kas_tail3 m n p) P:=by
 have hs:=zkB (by rw [hr.1]; exact hm) hd
 have hr2:=zb4 hr (za1 p 0 m) hn
 unfold kas_tail3
 exact zbk (zfB hr2 (n - m) m h1 hs fun m' g1 g2 g3 _=>h m' _ (za1 ..) hr2 g1 (by lia) g3)
theorem zem {P:Nat×Array Nat->Prop} (hn:0 < n) {p:Array Nat} {m:Nat} (hr:InR n p) (hd:Dsc rk p (m + 1)) (h1:1<=m) (hm:m + 1<=n)
  (h:∀ m' p',p'.Perm p->InR n p'->1<=m'->m'<=n->Srt rk p' m'->P (m',p')):AskOk n rk (kas_descPart m n p) P:=by
 unfold kas_descPart
 refine zbk (zdB hn (n - (m + 1)) p (m + 1) 0 hr hd (by lia) (by lia) (fun a g1 g2=>by rw [show a=m + 1 - 1 by lia]) fun p' m' q' g1 g2 g3 g4 g5 g6 g7=>?_)
 show AskOk n rk (if q' > 0 then kas_tail3 m' n (kas_rev p' (m' - (q' + 1)) m') else kas_tail3 m' n p') P
 by_cases hq:q' > 0
 ·rw [if_pos hq]
  have hk:∀ k,kA rk (kas_rev p' (m' - (q' + 1)) m') k=kA rk p' k:=fun k=>by
   rw [zeV (by rw [g2.1]; lia)]
   by_cases hk:m' - (q' + 1)<=k/\k < m'
   ·rw [if_pos hk,g7 k hk.1 hk.2,g7 _ (by lia) (by lia)]
   ·rw [if_neg hk]
  refine zfU hn (zb4 g2 (za1 ..) hn) (fun a b hab hb=>by rw [hk,hk]; exact g3 a b hab hb) (by lia) (by lia) fun m2 p2 e1 e2 e3 e4 e5=>h m2 p2 (e1.trans ((za1 ..).trans g1)) e2 (by lia) e4 e5
 ·rw [if_neg hq]
  exact zfU hn g2 g3 (by lia) (by lia) fun m2 p2 e1 e2 e3 e4 e5=>h m2 p2 (e1.trans g1) e2 (by lia) e4 e5
theorem zha {P:Nat×Array Nat->Prop} (hn:2<=n) {p:Array Nat} (hr:InR n p) (h:∀ m' p',p'.Perm p->InR n p'->1<=m'->m'<=n->Srt rk p' m'->P (m',p')):AskOk n rk (kas_count n p) P:=by
 unfold kas_count
 refine zbk (zfB hr (n - 1) 1 (le_refl _) (fun a b hab hb=>by rw [show a=b by lia]; exact Int.le_refl _) fun m g1 g2 g3 g4=>?_)
 by_cases hm:(m == n)=true
 ·rw [if_pos hm]
  have:m=n:=by simpa using hm
  exact h m p (Array.Perm.refl _) hr g1 (by lia) g3
 ·rw [if_neg hm]
  have hne:m≠n:=by simpa using hm
  have hlt:=g4 (by lia)
  by_cases hm1:m > 1
  ·rw [if_pos hm1]
   refine ⟨hr.2 0,hr.2 (m - 1),?_⟩
   rw [zc8 (rk:=rk),zc8 (rk:=rk)]
   by_cases hc:kA rk p 0 < kA rk p (m - 1)
   ·(rw [decide_eq_true hc]; dsimp only; rw [if_pos rfl])
    exact h m p (Array.Perm.refl _) hr g1 (by lia) g3
   ·(rw [decide_eq_false hc]; dsimp only; rw [if_neg Bool.false_ne_true])
    have heq:∀ a,a < m->kA rk p a=kA rk p (m - 1):=fun a ha=>by
     have e1:=g3 0 a (zero_le _) ha
     have e2:=g3 a (m - 1) (by lia) (by lia)
     lia
    have hk:∀ k,kA rk (kas_rev p 0 m) k=kA rk p k:=fun k=>by
     rw [zeV (by rw [hr.1]; lia)]
     by_cases hk:0<=k/\k < m
     ·rw [if_pos hk,heq k hk.2,heq _ (by lia)]
     ·rw [if_neg hk]
    refine zem (by lia) (zb4 hr (za1 ..) (by lia)) (fun a b hab hb=>?_) g1 (by lia) fun m2 p2 e1 e2 e3 e4 e5=>h m2 p2 (e1.trans (za1 ..)) e2 e3 e4 e5
    rw [hk,hk]
    by_cases hbm:b < m
    ·rw [heq b hbm,heq a (by lia)]; exact Int.le_refl _
    ·have:b=m:=by lia
     subst this
     by_cases ha:a=b
     ·rw [ha]; exact Int.le_refl _
     ·rw [heq a (by lia)]; lia
  ·rw [if_neg hm1]
   have:m=1:=by lia
   subst this
   refine zem (by lia) hr (fun a b hab hb=>?_) (le_refl _) (by lia) h
   by_cases hab2:a=b
   ·rw [hab2]; exact Int.le_refl _
   ·have e1:a=0:=by lia
    have e2:b=1:=by lia
    have hlt':kA rk p 1 < kA rk p 0:=hlt
    rw [e1,e2]; lia
theorem ziy (hn:0 < n):InR n (List.range n).toArray:=by
 refine ⟨by simp,fun k=>?_⟩
 rw [getD_eq_getD_getElem?]
 by_cases hk:k < n
 ·simp [hk]
 ·simp [hk]; exact hn
theorem zjK {P:Array Nat->Prop} (hn:2<=n) (h:∀ p,p.Perm (List.range n).toArray->Srt rk p n->P p):AskOk n rk (kas_sort n) P:=by
 unfold kas_sort
 refine zbk (zha hn (ziy (by lia)) fun m p g1 g2 g3 g4 g5=>?_)
 show AskOk n rk (if m < n then kas_bin (n - max m 1) p (max m 1) else .ret p) P
 have hmax:max m 1=m:=by lia
 rw [hmax]
 by_cases hm:m < n
 ·rw [if_pos hm]
  exact zhQ (by lia) (n - m) p m g2 g5 (by lia) fun p' e1 e2 e3=>h p' (e1.trans g1) (by rw [show m + (n - m)=n by lia] at e3; exact e3)
 ·rw [if_neg hm]
  have:m=n:=by lia
  subst this
  exact h p g1 g5
end
end FL
end
section
namespace FL
open PySem PySem.Spec PyProof.Rows L2
section
variable {X:Cx} {pins:List (Addr×Obj)} {σ:List (Option V)} {H:Hp} {s:Shared} {h':Heap}
theorem zmK {h:Heap} {a:Addr} {m m':Str->Option Value} (x:h.Ns a m) (y:h.Ns a m'):m=m':=by
 obtain ⟨o,es,ep,e,d,_,f⟩:=x
 obtain ⟨o',es',ep',e',d',_,f'⟩:=y
 rw [e] at e'; cases e'
 rw [d] at d'; cases d'
 funext n
 rw [<- f n,<- f' n]
theorem ObjOk.there {P:Program} {w:World} {h:Heap} {a:Addr} {o:HO} (x:ObjOk P w H h a o):∃ u,h.get? a=some u:=by
 cases o with
 | lst xs=>obtain ⟨_,_,_,_,e⟩:=x; exact ⟨_,e⟩
 | tup xs=>obtain ⟨_,_,_,u,e,_⟩:=x; exact ⟨_,e⟩
 | dK kvs=>obtain ⟨_,_,_,_,o,_,_,e,_⟩:=x; exact ⟨_,e⟩
 | dT kvs=>obtain ⟨_,_,_,_,o,_,_,e,_⟩:=x; exact ⟨_,e⟩
 | set vs=>
   rcases x with ⟨_,⟨_,e⟩ | ⟨_,_,_,_,_,_,_,e,_⟩ | ⟨_,_,_,_,_,_,_,_,e,_⟩⟩
   ·exact ⟨_,e⟩
   ·exact ⟨_,e⟩
   ·exact ⟨_,e⟩
 | ins C dx fs=>obtain ⟨_,_,_,e,_⟩:=x; exact ⟨_,e⟩
 | own y=>exact x
 | xd fs=>obtain ⟨_,⟨_,_,_,e,_⟩,_⟩:=x; exact ⟨_,e⟩
 | rng lo hi=>obtain ⟨_,_,_,e⟩:=x; exact ⟨_,e⟩
 | frz ob u=>exact ⟨_,x.1⟩
 | tbl ps=>exact ⟨_,(show h.get? a=some _ from x)⟩
 | met f y=>exact ⟨_,(show h.get? a=some _ from x)⟩
 | ext φ=>exact x.2.1
theorem Inv.laidF {a:Addr} {o:HO} {t':Nat} (I:Inv X pins σ H s) (hn:∀ m,s.heap.Ns X.env.locals m->h'.Ns X.env.locals m) (k:∀ b u,b≠X.env.locals->s.heap.get? b=some u->h'.get? b=some u)
  (hp:s.heap.get? a=none) (new:ObjOk X.prog X.w (upd H a o) h' a o):Inv X pins σ (upd H a o) { s with heap:=h',toks:=t' }:=by
 have ha:H a=none:=by
  cases e:H a with
  | none=>rfl
  | some u=>obtain ⟨v,z⟩:=ObjOk.there (I.hok a u e); rw [hp] at z; cases z
 refine I.step (g':=s.gens) (d':=s.drawn) (ch:=[]) (fun _ z=>nomatch z) (fun b ob nL _ _ e _=>k b ob nL e) (fun b ob nL _ _ e _=>⟨ob.slots,k b ob nL e⟩) (fun b ob _ e n=>by rw [zaj (fun z=>by rw [z,hp] at e; cases e)]; exact n)
  (fun b ob _ e=>?_) (fun b xs q=>by rw [zaj (zax q ha)]; exact q) (fun b u xs q=>by rw [zaj (zax q ha)]; exact q) (fun b ps q=>⟨#[],by rw [zaj (zax q ha),q]; simp⟩) hn (fun b ob e=>?_) I.bare
 ·by_cases hb:b=X.env.locals
  ·obtain ⟨m,x,_⟩:=I.loc
   obtain ⟨o',_,_,e',_⟩:=hn m x
   exact ⟨o',by rw [hb]; exact e'⟩
  ·exact ⟨ob,k b ob hb e⟩
 ·by_cases hb:b=a
  ·subst hb; rw [zao] at e; cases e; exact new
  ·rw [zaj hb] at e
   refine (I.hok b ob e).stay (fun c v hc q=>k c v (fun z=>?_) q) (fun c q=>by rw [zaj (zax q ha)]; exact q) fun c xs q=>by rw [zaj (zax q ha)]; exact q
   rw [z] at hc
   rcases hc with r | r
   ·rw [<- r,I.free] at e; cases e
   ·rw [I.free] at r; cases r
end
section
open HT
theorem ziD:∀ l:List Int,lexLt l l=false
 | []=>rfl
 | x::l=>by rw [zaJ,if_pos rfl,ziD l]
theorem zdK:∀ k j i:List Int,lexLt k j=true->lexLt i j=false->lexLt k i=true
 | [],[],_,h,_=>by cases h
 | [],_::_,[],_,g=>by cases g
 | [],_::_,_::_,_,_=>rfl
 | _::_,[],_,h,_=>by cases h
 | _::_,_::_,[],_,g=>by cases g
 | x::k,y::j,z::i,h,g=>by
   rw [zaJ] at h g ⊢
   by_cases xy:x=y
   ·by_cases zy:z=y
    ·rw [if_pos xy] at h
     rw [if_pos zy] at g
     rw [if_pos (xy.trans zy.symm)]
     exact zdK k j i h g
    ·rw [if_neg zy] at g
     have:=of_decide_eq_false g
     rw [if_neg (by lia)]
     exact decide_eq_true (by lia)
   ·rw [if_neg xy] at h
    have:=of_decide_eq_true h
    by_cases zy:z=y
    ·rw [if_neg (by lia)]
     exact decide_eq_true (by lia)
    ·rw [if_neg zy] at g
     have:=of_decide_eq_false g
     rw [if_neg (by lia)]
     exact decide_eq_true (by lia)
theorem zcq:∀ i j:List Int,lexLt i j=true->lexLt j i=false
 | [],[],h=>by cases h
 | [],_::_,_=>rfl
 | _::_,[],h=>by cases h
 | x::i,y::j,h=>by
   rw [zaJ] at h ⊢
   by_cases xy:x=y
   ·rw [if_pos xy] at h
    rw [if_pos xy.symm]
    exact zcq i j h
   ·rw [if_neg xy] at h
    have:=of_decide_eq_true h
    rw [if_neg (by lia)]
    exact decide_eq_false (by lia)
theorem zhG {p q:Nat->Bool} (h:∀ x,p x=true->q x=true):∀ l:List Nat,l.countP p<=l.countP q
 | []=>le_refl _
 | a::l=>by
   rw [countP_cons,countP_cons]
   have:=zhG h l
   cases e:p a with
   | true=>rw [h a e]; lia
   | false=>simp only [false_eq_true,if_false]; lia
theorem zkl {p q:Nat->Bool} (h:∀ x,p x=true->q x=true):∀ l:List Nat,(∃ x,x∈l/\q x=true/\p x=false)->l.countP p < l.countP q
 | [],z=>by obtain ⟨_,z,_⟩:=z; cases z
 | a::l,z=>by
   rw [countP_cons,countP_cons]
   obtain ⟨x,hx,qx,px⟩:=z
   by_cases e:x=a
   ·subst e
    have:=zhG h l
    rw [qx,px]
    simp only [false_eq_true,if_false,if_true]
    lia
   ·have:=zkl h l ⟨x,(mem_cons.mp hx).resolve_left e,qx,px⟩
    cases e:p a with
    | true=>rw [h a e]; lia
    | false=>simp only [false_eq_true,if_false]; lia
def rkL (ls:List (List Int)) (i:Nat):Int:=((List.range ls.length).countP fun j=>lexLt (ls.getD j []) (ls.getD i []):Nat)
theorem zmc {ls:List (List Int)} {i j:Nat} (hi:i < ls.length):decide (rkL ls i < rkL ls j)=lexLt (ls.getD i []) (ls.getD j []):=by
 unfold rkL
 cases e:lexLt (ls.getD i []) (ls.getD j []) with
 | true=>
   refine decide_eq_true (Int.ofNat_lt.mpr (zkl (fun k hk=>?_) _ ⟨i,mem_range.mpr hi,e,ziD _⟩))
   exact zdK _ _ _ hk (zcq _ _ e)
 | false=>
   refine decide_eq_false fun h=>?_
   have:=zhG (p:=fun k=>lexLt (ls.getD k []) (ls.getD j [])) (q:=fun k=>lexLt (ls.getD k []) (ls.getD i [])) (fun k hk=>zdK _ _ _ hk e) (List.range ls.length)
   lia
end
section
open PySem.W HT
variable {prog:Program} {w:World} {A:Around} {s:Shared} {b:Bool} {Q:Bool->Shared->Prop} {κ:SortKind}
theorem ze9 {us vs:List Value} {ns ms:List Int} (i:Nat) (r:IntsAre us ns) (r':IntsAre vs ms) (h:Q (lexLt ns ms) s):KatLex prog w A b (decide (ns.length < ms.length)) Q (us.zip vs) i s:=by
 induction r generalizing vs ms i with
 | nil=>cases r' <;> exact kat_nil h
 | @cons n _ _ ns r ih=>cases r' with
   | nil=>exact kat_nil h
   | @cons m _ _ ms r'=>
     have e:decide ((n::ns).length < (m::ms).length)=decide (ns.length < ms.length):=decide_eq_decide.2 Nat.succ_lt_succ_iff
     rw [e]
     refine kat_cons (wpAny_eqBool_int ?_)
     rw [zaJ] at h
     by_cases nm:n=m
     ·rw [if_pos nm] at h
      rw [show (n == m)=true by simp [nm]]
      exact kat_yes (ih (i + 1) r' h)
     ·rw [if_neg nm] at h
      rw [show (n == m)=false by simp [nm]]
      refine kat_no ?_
      cases (b && i == 0) with
      | true=>exact oneLt_int h
      | false=>exact kat_one _ _ (PyProof.Rows.lt_int h)
theorem zdo {n:Nat} {rk:Nat->Int} {vs:List Value} {α:Type} {P:α->Prop} {R:α->Shared->Prop} (hc:∀ i j (C:Bool->Shared->Prop),i < n->j < n->C (decide (rk i < rk j)) s->kas_ask prog w A κ vs i j C s):
  ∀ (t:KasT α),AskOk n rk t P->(∀ a,P a->R a s)->t.kasWp (kas_ask prog w A κ vs) R s
 | .ret a,h,q=>q a h
 | .ask i j k,h,q=>hc i j _ h.1 h.2.1 (zdo hc (k _) h.2.2 q)
end
section
open PySem.W HT
variable {X:Cx} {pins:List (Addr×Obj)} {σ:List (Option V)} {H:Hp} {s:Shared}
def rest (h₀:Heap) (L:Addr) (h:Heap):List (Addr×Obj):=(List.range h.objs.size).filterMap fun b=>if b=L then none else if (h₀.get? b).isSome then none else (h.get? b).map fun o=>(b,o)
theorem zct {h₀ h:Heap} {L:Addr} {p:Addr×Obj}:p∈rest h₀ L h↔h.get? p.1=some p.2/\p.1≠L/\h₀.get? p.1=none:=by
 unfold rest
 rw [mem_filterMap]
 constructor
 ·rintro ⟨b,_,e⟩
  by_cases h1:b=L
  ·rw [if_pos h1] at e; cases e
  ·rw [if_neg h1] at e
   cases h2:h₀.get? b with
   | some o=>rw [h2] at e; cases e
   | none=>
     rw [h2] at e
     simp only [Option.isSome_none,false_eq_true,if_false] at e
     obtain ⟨o,e1,e2⟩:=map_eq_some_iff.mp e
     cases e2
     exact ⟨e1,h1,h2⟩
 ·rintro ⟨e1,e2,e3⟩
  refine ⟨p.1,mem_range.mpr (qg e1),?_⟩
  rw [if_neg e2,e3,e1]
  rfl
theorem zhK:∀ {bs:List Addr} {its:List Value},Vals (bs.map V.ref) its->its=bs.map Value.ref
 | [],_,.nil=>rfl
 | b::bs,_,.cons r t=>by
   have e:_=Value.ref b:=r
   rw [e,zhK t]
   rfl
theorem zeF:∀ bs:List Addr,Vals (bs.map V.ref) (bs.map Value.ref)
 | []=>.nil
 | _::bs=>.cons rfl (zeF bs)
def TupI (h:Heap) (b:Addr) (l:List Int):Prop:=∃ us,IntsAre us l/\IsTup h b us.toArray
theorem katTups {h:Heap}:∀ {bs:List Addr} {ls:List (List Int)},Paired (fun b l=>l≠[]/\TupI h b l) bs ls->∃ fs:List Value,KatTups h (bs.map Value.ref) fs/\fs.length=bs.length/\∀ v∈fs,∃ z t,v=Value.int z t
 | _,_,.nil=>⟨[],.nil,rfl,fun _ z=>nomatch z⟩
 | _,_,.cons ⟨hne,us,r,o,e,c,n,d⟩ t=>by
   obtain ⟨fs,t1,t2,t3⟩:=katTups t
   cases r with
   | nil=>exact absurd rfl hne
   | cons i tk r'=>
     refine ⟨_::fs,.cons e c d rfl t1,by simp [t2],fun v hv=>?_⟩
     rcases mem_cons.mp hv with z | z
     ·exact ⟨_,_,z⟩
     ·exact t3 v z
theorem zbO {α β:Type} {R:α->β->Prop}:∀ {l:List α} {m:List β} (i:Nat) (da:α) (db:β),Paired R l m->i < l.length->R (l.getD i da) (m.getD i db)
 | _,_,0,_,_,.cons r _,_=>r
 | _,_,i + 1,da,db,.cons _ t,h=>zbO i da db t (by simpa using h)
def rSortT (K:W.Frag):List V->Hp->VK->Prop:=fun xs H Q=>∃ (a:Addr) (bs:List Addr) (ls:List (List Int)),xs=[.ref a]/\SqL K H a (bs.map V.ref)/\2<=bs.length/\bs.length < 64/\
 Paired (fun b l=>l≠[]/\SqT K H b (l.map V.int)) bs ls/\
 ∀ p:Array Nat,p.Perm (List.range bs.length).toArray->Srt (rkL ls) p bs.length->∀ q,H q=none->Q (.ref q) (upd H q (.lst ((p.toList.map fun i=>bs.getD i 0).map V.ref)))
theorem zeO:CallR X (.builtin "sorted") (rSortT X.K):=by
 intro pins s σ H xs us Q I r h
 obtain ⟨a,bs,ls,rfl,hq,h2,h64,ht,q⟩:=h
 cases r with
 | cons r1 r2=>
   cases r2
   cases r1
   obtain ⟨its,rv,pl,_⟩:=I.list hq
   have hv:=zhK rv
   subst hv
   obtain ⟨m,F⟩:=I.fr
   have N:News X.base X.env.locals s.heap (rest X.base X.env.locals s.heap):=fun p hp=>zct.mp hp
   refine kat_sorted F N pl.isList (by rw [length_map]; exact h2) (by rw [length_map]; exact h64) fun D e1 h' F' N' hD=>?_
   have kp:∀ {h':Heap},Fr X.base X.env.locals h' m->News X.base X.env.locals h' (rest X.base X.env.locals s.heap)->∀ b u,b≠X.env.locals->s.heap.get? b=some u->h'.get? b=some u:=fun {h'} F' N' b u hb e=>by
    cases hb0:X.base.get? b with
    | some o=>
      rw [F.keep b o hb0] at e
      rw [<- e]
      exact F'.keep b o hb0
    | none=>exact (N' (b,u) (zct.mpr ⟨e,hb,hb0⟩)).1
   have tl:∀ {d o news},News X.base X.env.locals h' ((d,o)::news)->News X.base X.env.locals h' news:=fun N p hp=>N p (qo _ hp)
   have hDn:s.heap.get? D=none:=by
    cases e:s.heap.get? D with
    | none=>rfl
    | some u=>
      obtain ⟨_,n1,n2⟩:=N' (D,seqObj "list" #[] e1) qp
      exact absurd (hD (D,u) (zct.mpr ⟨e,n1,n2⟩)) (lt_irrefl _)
   have tp:Paired (fun b l=>l≠[]/\TupI h' b l) bs ls:=Paired.mapP ht fun b l ⟨hne,hs⟩=>by
    obtain ⟨us,r,⟨o,e,c,n,d⟩,_⟩:=I.tuple hs
    refine ⟨hne,us,zaY r,o,kp F' (tl N') b o (fun z=>?_) e,c,n,d⟩
    obtain ⟨m,⟨o',es,ep,e',d',_⟩,_⟩:=I.loc
    rw [z,e'] at e; cases e
    rw [d'] at d; cases d
   obtain ⟨fs,t1,t2,t3⟩:=katTups tp
   have hll:ls.length=bs.length:=(Paired.length tp).symm
   refine kat_kind (T:=.type "int") t1 (by lia) (fun v hv=>?_) (by rfl) ?_
   ·obtain ⟨z,t,rfl⟩:=t3 v hv
    exact Looks.of_pure rfl
   ·refine zdo (n:=bs.length) (rk:=rkL ls) (P:=fun p=>p.Perm (List.range bs.length).toArray/\Srt (rkL ls) p bs.length) (fun i j C hi hj hc=>?_) _ (by rw [length_map]; exact zjK h2 fun p a b=>⟨a,b⟩) fun p ⟨p1,p2⟩=>?_
    ·rw [zmc (by lia)] at hc
     obtain ⟨_,us,r,o,e,c,n,d⟩:=zbO i 0 [] tp hi
     obtain ⟨_,us',r',o',e',c',n',d'⟩:=zbO j 0 [] tp hj
     have g:∀ i,i < bs.length->(bs.map Value.ref).getD i Value.none=.ref (bs.getD i 0):=fun i hi=>by simp [hi]
     unfold kas_ask
     rw [g i hi,g j hj]
     refine kat_lt e d e' d' ?_
     have l1:us.toArray.size=(ls.getD i []).length:=by rw [size_toArray]; exact r.length
     have l2:us'.toArray.size=(ls.getD j []).length:=by rw [size_toArray]; exact r'.length
     rw [l1,l2]
     exact ze9 0 r r' hc
    ·refine KasFin.intro F' N' (.head fun p hp=>ne_of_lt (hD p hp)) fun h3 c F3 N3=>?_
     have eo:(p.toList.map fun i=>(bs.map Value.ref).getD i Value.none)=(p.toList.map fun i=>bs.getD i 0).map Value.ref:=by
      rw [map_map]
      refine map_congr_left fun i hi=>?_
      have hi':i < bs.length:=by
       have:=p1.mem_iff.mp (mem_toList_iff.mp hi)
       simpa using this
      simp [hi']
     rw [eo] at N3
     have hsz:p.toList.length=bs.length:=by
      have:=p1.size_eq
      simpa using this
     refine ⟨.ref D,_,Inv.laidF (s:=s) (t':=s.toks) (o:=.lst ((p.toList.map fun i=>bs.getD i 0).map V.ref)) I (fun m' x=>by rw [zmK x F.ns]; exact F3.ns) (fun b u hb e=>kp F3 (fun p hp=>N3 p (qo _ hp)) b u hb e) hDn ?_,rfl,q p p1 p2 D ?_⟩
     ·refine ⟨by simp only [length_map]; rw [sizeLine_eq]; lia,_,c,zeF _,(N3 (D,_) qp).1⟩
     ·cases e:H D with
      | none=>rfl
      | some u=>obtain ⟨v,z⟩:=ObjOk.there (I.hok D u e); rw [hDn] at z; cases z
end
end FL
end
section
namespace FL
def tI (ns:List Int):D:=.tup (ns.map .int)
def tupsD:List D->Option (List (List Int))
 | []=>some []
 | .tup ds::r=>match intsD ds with
   | some (x::xs)=>(tupsD r).map ((x::xs)::·)
   | _=>none
 | _::_=>none
def sortT (l:List D):Option S:=if 2<=l.length/\l.length < 64/\(tupsD l).isSome=true then some (.lst ((sortD l).map .sh)) else none
def bSortT:List D->Option S
 | [.lst l]=>sortT l
 | _=>none
theorem zf7:∀ {l:List D} {ns:List Int},intsD l=some ns->l=ns.map .int
 | [],_,h=>by cases h; rfl
 | .int x::r,ns,h=>by
   rw [intsD] at h
   obtain ⟨ys,h1,rfl⟩:=map_eq_some_iff.mp h
   rw [zf7 h1]; rfl
theorem zfR:∀ {l:List D} {ls:List (List Int)},tupsD l=some ls->l=ls.map tI/\∀ x∈ls,x≠[]
 | [],_,h=>by cases h; exact ⟨rfl,fun _ z=>nomatch z⟩
 | .tup ds::r,ls,h=>by
   rw [tupsD] at h
   split at h
   ·rename_i x xs e
    obtain ⟨ys,h1,rfl⟩:=map_eq_some_iff.mp h
    obtain ⟨e1,e2⟩:=zfR h1
    refine ⟨by rw [e1,zf7 e]; rfl,fun z hz=>?_⟩
    rcases mem_cons.mp hz with rfl | hz
    ·exact fun q=>nomatch q
    ·exact e2 z hz
   ·cases h
theorem zeq:∀ {ls:List (List Int)},(∀ x∈ls,x≠[])->tupsD (ls.map tI)=some ls
 | [],_=>rfl
 | []::_,h=>absurd rfl (h [] qp)
 | (x::xs)::ls,h=>by
   rw [map_cons]
   show (match intsD ((x::xs).map D.int) with | some (x::xs)=>(tupsD (ls.map tI)).map ((x::xs)::·) | _=>none)=_
   rw [zbQ,zeq fun y hy=>h y (qo _ hy)]
   rfl
def sort3 (l:List D):Option S:=if l.length < 2 then some (.lst (l.map .sh)) else match sortT l with
 | some s=>some s
 | none=>sortS l
def bSort3:List D->Option S
 | [.lst l]=>sort3 l
 | _=>none
theorem zgl {ls:List (List Int)} (h64:ls.length < 64) (hne:∀ x∈ls,x≠[]):bSort3 [.lst (ls.map tI)]=some (.lst ((sortD (ls.map tI)).map .sh)):=by
 show sort3 _=_
 unfold sort3
 by_cases h2:(ls.map tI).length < 2
 ·rw [if_pos h2]
  match ls,h2 with
  | [],_=>rfl
  | [_],_=>rfl
  | _::_::_,h2=>simp at h2; lia
 ·rw [if_neg h2]
  rw [length_map] at h2
  have e:sortT (ls.map tI)=some (.lst ((sortD (ls.map tI)).map .sh)):=by
   unfold sortT
   rw [if_pos ⟨by rw [length_map]; lia,by rw [length_map]; exact h64,by rw [zeq hne]; rfl⟩]
  rw [e]
end FL
end
section
namespace FL
open PySem PySem.Spec PyProof.Rows L2
open HT
theorem zdq:∀ ns ms:List Int,cmpDs (ns.map .int) (ms.map .int)=if lexLt ns ms=true then .lt else if lexLt ms ns=true then .gt else .eq
 | [],[]=>rfl
 | [],_::_=>rfl
 | _::_,[]=>rfl
 | x::ns,y::ms=>by
   rw [map_cons,map_cons,zaJ,zaJ,cmpDs,cmpD]
   by_cases h:x < y
   ·rw [if_pos h,if_neg (show ¬ x=y by lia),if_pos (decide_eq_true h)]
   ·rw [if_neg h]
    by_cases h2:y < x
    ·rw [if_pos h2,if_neg (show ¬ x=y by lia),if_neg (show ¬ y=x by lia),if_neg (by simp; lia),if_pos (decide_eq_true h2)]
    ·have e:x=y:=by lia
     subst e
     rw [if_neg h2,if_pos rfl,if_pos rfl]
     exact zdq ns ms
theorem zbb (ns ms:List Int):leD (tI ns) (tI ms)=!lexLt ms ns:=by
 unfold leD tI
 rw [cmpD,zdq]
 cases e:lexLt ns ms with
 | true=>rw [zcq _ _ e]; rfl
 | false=>
   cases e2:lexLt ms ns with
   | true=>rfl
   | false=>rfl
theorem zf2:∀ a b:List Int,lexLt a b=false->lexLt b a=false->a=b
 | [],[],_,_=>rfl
 | [],_::_,h,_=>by cases h
 | _::_,[],_,h=>by cases h
 | x::a,y::b,h,g=>by
   rw [zaJ] at h g
   by_cases e:x=y
   ·subst e
    rw [if_pos rfl] at h g
    rw [zf2 a b h g]
   ·rw [if_neg e] at h
    rw [if_neg (Ne.symm e)] at g
    have:=of_decide_eq_false h
    have:=of_decide_eq_false g
    lia
def IsTI (d:D):Prop:=∃ ns,d=tI ns
theorem zk5:OrdOn IsTI where
 tot:=by
  rintro _ _ ⟨a,rfl⟩ ⟨b,rfl⟩
  rw [zbb,zbb]
  cases e:lexLt b a with
  | false=>exact .inl rfl
  | true=>exact .inr (by rw [zcq _ _ e]; rfl)
 tr:=by
  rintro _ _ _ ⟨a,rfl⟩ ⟨b,rfl⟩ ⟨c,rfl⟩
  rw [zbb,zbb,zbb]
  intro h1 h2
  cases e:lexLt c a with
  | false=>rfl
  | true=>
    rw [zdK c a b e (by simpa using h1)] at h2
    cases h2
 anti:=by
  rintro _ _ ⟨a,rfl⟩ ⟨b,rfl⟩
  rw [zbb,zbb]
  intro h1 h2
  rw [zf2 a b (by simpa using h2) (by simpa using h1)]
section
variable {X:Cx} {K:W.Frag} {p pos:Pos} {e:Expr} {es:List Expr} {wa:WA}
theorem zhe {F:Hp}:∀ {xs:List V} {ls:List (List Int)},Reps K F xs (ls.map tI)->∃ bs:List Addr,xs=bs.map V.ref/\Paired (fun b l=>F b=some (.tup (l.map V.int))) bs ls
 | _,[],.nil=>⟨[],rfl,.nil⟩
 | _,l::ls,.cons a b=>by
   obtain ⟨bs,e,t⟩:=zhe b
   cases a with
   | tup h r=>
     obtain ⟨e1,_⟩:=zdw r (zbQ l)
     subst e1
     exact ⟨_::bs,by rw [e]; rfl,.cons h t⟩
theorem zd6 {F:Hp}:∀ {bs:List Addr} {ls:List (List Int)},Paired (fun b l=>F b=some (.tup (l.map V.int))) bs ls->Reps K F (bs.map V.ref) (ls.map tI)
 | _,_,.nil=>.nil
 | _,_,.cons h t=>.cons (.tup h (zbc _)) (zd6 t)
theorem zdu {α β:Type} {R:α->β->Prop} {l:List α} {m:List β} {da:α} {db:β} (h:Paired R l m):∀ {q:List Nat},(∀ i∈q,i < l.length)->Paired R (q.map fun i=>l.getD i da) (q.map fun i=>m.getD i db)
 | [],_=>.nil
 | i::q,z=>.cons (zbO i da db h (z i qp)) (zdu h fun j hj=>z j (qo _ hj))
theorem zil {α β:Type} {R R':α->β->Prop} {l:List α} {m:List β} (h:Paired R l m) (f:∀ a b,b∈m->R a b->R' a b):Paired R' l m:=by
 induction h with
 | nil=>exact .nil
 | cons r _ ih=>exact .cons (f _ _ qp r) (ih fun a b hb=>f a b (qo _ hb))
theorem zgD {α:Type} (d:α):∀ l:List α,(List.range l.length).map (fun i=>l.getD i d)=l:=fun l=>by
 refine List.ext_getElem (by simp) fun i h1 h2=>?_
 simp [h2]
theorem zgP:DoesB K (rSortT K) bSortT:=by
 intro σ ρ F G H vs ds s Q rel re e hq
 obtain ⟨d,v,rfl,rfl⟩:=arg1 (fun x y r=>by cases x <;> rfl) rfl re e
 cases d with
 | lst l=>
   have e:sortT l=some s:=e
   unfold sortT at e
   split at e
   ·rename_i hc
    cases e
    obtain ⟨h2,h64,h3⟩:=hc
    obtain ⟨ls,q1⟩:=isSome_iff_exists.mp h3
    obtain ⟨el,hne⟩:=zfR q1
    subst el
    rw [length_map] at h2 h64
    obtain ⟨a,xs,rfl,h1,r1⟩:=re.1.lst rel.fr
    obtain ⟨bs,rfl,t⟩:=zhe r1
    have hl:bs.length=ls.length:=Paired.length t
    refine ⟨a,bs,ls,rfl,h1,by lia,by lia,zil t fun b l hb h=>⟨hne l hb,SqT.of (rel.fr _ _ h)⟩,fun p p1 p2 q hq'=>?_⟩
    have hin:∀ i∈p.toList,i < bs.length:=fun i hi=>by
     have:=p1.mem_iff.mp (mem_toList_iff.mp hi)
     simpa using this
    have t2:=zdu (da:=0) (db:=[]) t (q:=p.toList) hin
    have pp:p.toList.Perm (List.range ls.length):=by
     have:=Array.perm_iff_toList_perm.mp p1
     rw [<- hl]; simpa using this
    have perm:(p.toList.map fun i=>ls.getD i []).Perm ls:=(pp.map _).trans (by rw [zgD])
    have hsz:p.size=bs.length:=by have:=p1.size_eq; simpa using this
    have es:sortD (ls.map tI)=(p.toList.map fun i=>ls.getD i []).map tI:=by
     refine za2 zk5 (fun d hd=>by obtain ⟨z,_,rfl⟩:=mem_map.mp hd; exact ⟨z,rfl⟩) (perm.map _) ?_
     rw [map_map,pairwise_map]
     refine List.pairwise_iff_getElem.mpr fun i j hi hj hij=>?_
     simp only [Function.comp]
     rw [zbb]
     have hj':j < bs.length:=by rw [<- hsz]; simpa using hj
     have hi':i < bs.length:=by lia
     have k:=p2 i j (by lia) hj'
     have gi:∀ i (h:i < p.toList.length),kA (rkL ls) p i=rkL ls p.toList[i]:=fun i h=>by
      unfold kA
      rw [Array.getElem?_eq_getElem (by simpa using h)]
      simp
     rw [gi i hi,gi j hj] at k
     have hb:=hin _ (getElem_mem hj)
     have:=zmc (ls:=ls) (i:=p.toList[j]) (j:=p.toList[i]) (by lia)
     rw [<- this,decide_eq_false (by lia)]
     rfl
    rw [es] at hq
    exact hq _ F _ (Same.refl F) (rel.newLD hq' (zd6 t2))
   ·cases e
 | _=>cases e
end
end FL
end
section
namespace FL
open PySem PySem.Spec PyProof.Rows L2
section
variable {prog:Program} {w:World} {A:Around} {E:Value->Shared->Prop} {s:Shared}
theorem zkv {vs:List Value} (few:vs.length < 2):(vs.toArray.zip vs.toArray).map (·.2)=vs.toArray:=by
 cases vs with
 | nil=>simp
 | cons v r=>
   cases r with
   | nil=>simp
   | cons x r=>exact absurd few (by show ¬ r.length + 1 + 1 < 2; lia)
theorem zj3 {a:Addr} {vs:List Value} {n:Nat} {P:Fin->Shared->Prop} (at_:s.heap.get? a=some (seqObj "list" vs.toArray n)) (few:vs.length < 2)
  (k:P (.done (.ret .none)) { s with heap:=sortedHeap s.heap a vs vs.toArray }):wpAny (model prog w) A (Builtin.«list.sort» ⟨[.ref a],[]⟩) P E s:=by
 rw [list_sort_plain]
 have few':vs.toArray.size < 2:=by simpa using few
 have hmid:∃ e,(s.heap.update a (Obj.mapSeq fun _=>#[])).get? a=some (seqObj "list" #[] e):=⟨_,get?_update_seq at_ _⟩
 obtain ⟨e,mid⟩:=hmid
 have end_:(((s.heap.update a (Obj.mapSeq fun _=>#[])).push (seqObj "tuple" vs.toArray 0)).push (seqObj "list" #[] 0)).get? a=some (seqObj "list" #[] e):=
  qc _ (qc _ mid)
 refine qa (listItems_at at_ rfl (qa (listUpdate_at at_ rfl (qa (seqEpoch_at mid rfl (qa (wpAny_newTuple (qa (wpAny_newList (wpAny_holding ?_))))))))))
 show wpAny (model prog w) A _ P E (Shared.mk (((s.heap.update a (Obj.mapSeq fun _=>#[])).push (seqObj "tuple" vs.toArray 0)).push (seqObj "list" #[] 0)) s.gens s.drawn s.toks s.os)
 dsimp only
 rw [if_pos few',if_pos few']
 refine qa (qb (?_:wpAny _ _ _ _ _ _))
 rw [StateT.run_pure]
 have eo:(arrOf (SortSt.mk' general' (vs.toArray.zip vs.toArray) #[] 7 none)).map (·.2)=vs.toArray:=by
  show (vs.toArray.zip vs.toArray).map (·.2)=_
  exact zkv few
 refine qa (qb (?_:wpAny _ _ _ _ _ _))
 dsimp only
 rw [eo]
 refine qa (seqEpoch_at end_ rfl (qa (listUpdate_at end_ rfl ?_ (hsz2:=by rw [sizeLine_eq]; lia))))
 simp only [bne_self_eq_false,false_eq_true,if_false]
 exact qb k
theorem zgs {l:Addr} {vs:List Value} {Q:Value->Shared->Prop} (is:s.heap.IsList l vs.toArray) (few:vs.length < 2)
  (k:Q (.ref (s.heap.objs.size + 1)) { s with heap:=sortedAll s.heap vs vs.toArray }):wpAny (model prog w) A (call (.builtin "sorted") [.ref l]) Q E s:=by
 refine Calls.call_function_entry kind_sorted plain_sorted entry_sorted (args_sorted1 _) (?_:wpAny _ _ _ _ _ _)
 unfold Builtin.«sorted»
 refine qa (m:=checkCount "sorted" 1 1 _) (qb (qa (collect_list is (qa (wpAny_newList ?_)))))
 generalize eh:((s.heap.push (seqObj "list" #[] 0)).update s.heap.objs.size (Obj.mapSeq (·++vs.toArray)))=h1
 have z:h1.objs.size=s.heap.objs.size + 1:=by rw [<- eh,Heap.size_update,size_push']
 have new:(h1.push (seqObj "list" vs.toArray 0)).get? (s.heap.objs.size + 1)=some (seqObj "list" vs.toArray 0):=z ▸ qd _ rfl
 show wpAny _ _ _ _ _ (Shared.mk (h1.push (seqObj "list" vs.toArray 0)) s.gens s.drawn s.toks s.os)
 rw [z]
 refine qa (wpAny_holding (wpAny_call_entry slot_list_sort ⟨_,new,rfl⟩ entry_list_sort (zj3 new few ⟨_,rfl,?_⟩) (args_list_sort _)))
 subst eh
 exact qb ⟨_,rfl,k⟩
end
section
variable {X:Cx} {K:W.Frag} {p pos:Pos} {e:Expr} {es:List Expr} {wa:WA}
def rSort1 (K:W.Frag):List V->Hp->VK->Prop:=fun xs H Q=>∃ a ys,xs=[.ref a]/\SqL K H a ys/\ys.length < 2/\∀ q,H q=none->Q (.ref q) (upd H q (.lst ys))
theorem zeM:CallR X (.builtin "sorted") (rSort1 X.K):=by
 intro pins s σ H xs us Q I r h
 obtain ⟨a,ys,rfl,hq,h2,q⟩:=h
 cases r with
 | cons r1 r2=>
   cases r2
   cases r1
   obtain ⟨its,r,pl,_⟩:=I.list hq
   refine zgs pl.isList (by rw [<- r.length]; exact h2) ?_
   obtain ⟨e,he⟩:=sortedAll_at s.heap its its.toArray
   refine ⟨.ref (s.heap.objs.size + 1),_,I.laid (t':=s.toks) (o:=.lst ys) (fun b ob w=>sortedAll_old w) (le_succ _) ?_,rfl,q _ (I.hok.fresh (le_succ _))⟩
   exact ⟨by rw [sizeLine_eq]; lia,its,e,r,he⟩
theorem zeY {F:Hp}:∀ {xs:List V} {l:List D},Reps K F xs l->xs.length=l.length
 | _,_,.nil=>rfl
 | _,_,.cons _ t=>by rw [length_cons,length_cons,zeY t]
def rSort3 (K:W.Frag):List V->Hp->VK->Prop:=fun xs H Q=>rSort1 K xs H Q\/rSortT K xs H Q\/rSorted K xs H Q
theorem zgy:CallR X (.builtin "sorted") (rSort3 X.K):=fun pins s σ H xs us Q I r h=>by
 rcases h with h | h | h
 ·exact zeM pins s σ H xs us Q I r h
 ·exact zeO pins s σ H xs us Q I r h
 ·exact zeE pins s σ H xs us Q I r h
theorem zgH:DoesB K (rSort3 K) bSort3:=by
 intro σ ρ F G H vs ds s Q rel re e hq
 obtain ⟨d,v,rfl,rfl⟩:=arg1 (fun x y r=>by cases x <;> rfl) rfl re e
 cases d with
 | lst l=>
   have e:sort3 l=some s:=e
   unfold sort3 at e
   by_cases h2:l.length < 2
   ·rw [if_pos h2] at e
    cases e
    obtain ⟨a,xs,rfl,h1,r1⟩:=re.1.lst rel.fr
    exact .inl ⟨a,xs,rfl,h1,by rw [zeY r1]; exact h2,fun q hq'=>hq _ F _ (Same.refl F) (rel.newLD hq' r1)⟩
   ·rw [if_neg h2] at e
    cases e1:sortT l with
    | some t=>rw [e1] at e; exact .inr (.inl (zgP σ ρ F G H [v] [.lst l] s Q rel re (e1.trans e) hq))
    | none=>rw [e1] at e; exact .inr (.inr (zfe σ ρ F G H [v] [.lst l] s Q rel re e hq))
 | _=>cases e
theorem zdN (hg:Gl X "sorted") (hm:X.mg "sorted"=none) (hv:bootBuiltins "sorted"=some (.builtin "sorted")) (ha:FA X (e::es) wa) (he:starEach (e::es) X.env=(false,eval e X.env)::starEach es X.env:=by rfl) (hpl:(backTo pos (starEach es X.env)).any (·.1)=false:=by rfl):FE X (.Call (.Name "sorted" p) (e::es) [] pos) (wB bSort3 wa):=
 zbp (fun pn xe=>zgy (X:=wp X pn xe)) zgH hg hm hv ha (by decide) (by decide) he hpl
end
end FL
end
section
namespace FL
def cInA (a b:D):Option Bool:=match b with
 | .str l=>match a with
   | .str x=>some (findD l x).isSome
   | _=>none
 | d=>cIn a d
def cNotInA (a b:D):Option Bool:=(cInA a b).map (!·)
def wAppendAt (j:Nat) (i e:WE):WE:=fun ρ Q E=>match slot ρ j with
 | some (.lst _)=>i ρ (fun y ρ1=>match view y ρ1,slot ρ1 j with
   | some (.int n),some (.lst l)=>need (ixN l.length n) fun m=>match l[m]? with
     | some (.lst l')=>e (ρ1.set j none) (fun r ρ2=>need (give r ρ2) fun p=>l'.length < big/\Q (.v (.sh .non)) (p.2.set j (some (.lst (l.set m (.lst (l'++[p.1]))))))) E
     | _=>False
   | _,_=>False) E
 | _=>False
def wFrz (a:WE):WE:=fun ρ Q E=>a ρ (fun r ρ1=>need (give r ρ1) fun p=>Q (.v (.sh p.1.toD)) p.2) E
def wFz (i:Nat) (w:WS):WS:=fun D ρ=>w { D with nx:=fun ρ1=>need (slot ρ1 i) fun s=>D.nx (ρ1.set i (some (.sh s.toD))) } ρ
def lkD (d q:D):Option (Option D):=match d with
 | .dct t ks vs=>if isKey t q then some (lk ks vs q) else none
 | _=>none
def isDc:D->Bool
 | .dct _ _ _=>true
 | _=>false
def wGet1 (o k:WE):WE:=fun ρ Q E=>o ρ (fun x ρ1=>(need (viewC x ρ1) fun dd=>isDc dd=true)/\k ρ1 (fun y ρ2=>
 need (viewC x ρ2) fun dd=>need (view y ρ2) fun q=>need (lkD dd q) fun o=>match o with
  | some e=>Q (.v (.sh e)) ρ2
  | none=>Q (.v (.sh .non)) ρ2) E) E
def wIxA (a b:WE):WE:=fun ρ Q E=>a ρ (fun x ρ1=>b ρ1 (fun y ρ2=>need (viewC x ρ2) fun dd=>need (view y ρ2) fun q=>need (lkD dd q) fun o=>need o fun e=>Q (.v (.sh e)) ρ2) E) E
def bMinL:List D->Option S
 | [.lst l]=>(intsD l).bind fun ns=>(ns.min?).map fun m=>S.sh (.int m)
 | _=>none
def wTupRev (a:WE):WE:=fun ρ Q E=>a ρ (fun r ρ1=>need (viewC r ρ1) fun d=>match d with
 | .tup l=>l.length<=big/\Q (.v (.sh (.tup l.reverse))) ρ1
 | _=>False) E
mutual
def okSh:D->Bool
 | .non=>true
 | .bl _=>true
 | .int i=>decide (-1000000000000 < i) && decide (i < 1000000000000)
 | .str l=>l.all fun c=>decide (c < 1114112)
 | .tup l=>okShs l
 | .lst l=>okShs l
 | _=>false
def okShs:List D->Bool
 | []=>true
 | d::r=>okSh d && okShs r
end
mutual
def wtD:D->Nat
 | .int _=>41
 | .str l=>l.length
 | .tup l=>wtDs l
 | .lst l=>wtDs l
 | _=>0
def wtDs:List D->Nat
 | []=>0
 | d::r=>wtD d + 1 + wtDs r
end
def oMulA (p q:D):Option S:=match p,q with
 | .str x,.int n=>if 0<=n/\n<=1000/\x.length<=500 then some (.sh (.str (List.replicate n.toNat x).flatten)) else none
 | p,q=>oMul p q
end FL
end
section
namespace FL
open PySem PySem.Spec PyProof.Rows L2
section
variable {X:Cx} {K:W.Frag}
theorem zfc (x y:Str):Txt.contains x y=(findD x.cps.toList y.cps.toList).isSome:=by
 have h:=zkP x y
 unfold Txt.find at h
 unfold Txt.contains
 cases q:Builtin.Str.occurrences x y 0 x.length 1 with
 | nil=>
   rw [q] at h
   cases e:findD x.cps.toList y.cps.toList with
   | none=>rfl
   | some i=>rw [e] at h; have h':(-1:Int)=(i:Int):=h; lia
 | cons i r=>
   rw [q] at h
   cases e:findD x.cps.toList y.cps.toList with
   | none=>rw [e] at h; have h':((i:Nat):Int)=-1:=h; lia
   | some i=>rfl
def rInS (neg:Bool):R2:=fun x y H Q=>∃ z u,x=.str z/\y=.str u/\Q (.bl (if neg then !(Txt.contains u z) else Txt.contains u z)) H
theorem znz:OpR X (compareOp .In) (rInS false):=by
 intro pins s σ H x y v u Q I rx ry h
 obtain ⟨z,t,rfl,rfl,q⟩:=h
 obtain ⟨t1,rfl⟩:=rx
 obtain ⟨t2,rfl⟩:=ry
 exact SB.contains ⟨.bl _,H,I,rfl,q⟩
theorem ziE:OpR X (compareOp .NotIn) (rInS true):=by
 intro pins s σ H x y v u Q I rx ry h
 obtain ⟨z,t,rfl,rfl,q⟩:=h
 obtain ⟨t1,rfl⟩:=rx
 obtain ⟨t2,rfl⟩:=ry
 exact SB.notContains ⟨.bl _,H,I,rfl,q⟩
def rInX (K:W.Frag) (neg:Bool):R2:=fun x y H Q=>rInAll K neg x y H Q\/rInS neg x y H Q
theorem zmI (hu:X.A.units + 32 < cLine):OpR X (compareOp .In) (rInX X.K false):=FL.OpR.or (zjv hu) znz
theorem zbH (hu:X.A.units + 32 < cLine):OpR X (compareOp .NotIn) (rInX X.K true):=FL.OpR.or (zeZ hu) ziE
theorem zgb {neg:Bool} {H:Hp} {x y:V} {p q:D} {k:Bool} {Q:VK} (r1:Rep K H x p) (r2:Rep K H y q) (e:cInA p q=some k) (hq:Q (.bl (if neg then !k else k)) H):rInX K neg x y H Q:=by
 unfold cInA at e
 split at e
 ·split at e
  ·cases r1 with
   | str e1 z1=>cases r2 with
     | str e2 z2=>
       refine .inr ⟨_,_,rfl,rfl,?_⟩
       rw [zfc,e1,e2,qh e]
       exact hq
  ·cases e
 ·exact .inl (zlc r1 r2 e hq)
theorem zjG:DoesC K (rInX K false) cInA:=fun H x y p q k Q r1 r2 e hq=>zgb r1 r2 e hq
theorem za6:DoesC K (rInX K true) cNotInA:=fun H x y p q k Q r1 r2 e hq=>by
 unfold cNotInA at e
 cases q1:cInA p q with
 | none=>rw [q1] at e; cases e
 | some b=>
   rw [q1] at e
   have e':(!b)=k:=qh e
   subst e'
   exact zgb r1 r2 q1 hq
end
section
variable {K:W.Frag} {F H G:Hp} {σ σ':St} {ρ ρ':Env}
theorem SReps.at:∀ {xs:List V} {l:List S} {fp:List Addr} {m:Nat} {s:S},SReps K F H xs l fp->l[m]?=some s->∃ x fa fi fb,xs[m]?=some x/\SRep K F H x s fi/\fp=fa++(fi++fb)/\
  ∀ {H':Hp} {v':V} {s':S} {fq:List Addr},(∀ a∈fa++fb,H' a=H a)->SRep K F H' v' s' fq->SReps K F H' (xs.set m v') (l.set m s') (fa++(fq++fb))
 | _,_,_,_,_,.nil,h=>by simp at h
 | _,_,_,0,_,.cons (fp:=fp) (fq:=fq) a b,h=>by
   simp at h
   subst h
   exact ⟨_,[],fp,fq,rfl,a,rfl,fun hk r=>by rw [nil_append]; exact .cons r (b.mono (Same.refl F) fun c hc=>hk c hc)⟩
 | _,_,_,m + 1,_,.cons (fp:=fp) (fq:=fq) a b,h=>by
   obtain ⟨x,fa,fi,fb,h1,h2,rfl,up⟩:=SReps.at (m:=m) b (by simpa using h)
   refine ⟨x,fp++fa,fi,fb,by simpa using h1,h2,(append_assoc ..).symm,fun hk r=>?_⟩
   rw [append_assoc]
   exact .cons (a.mono (Same.refl F) fun c hc=>hk c (qm _ (qm _ hc))) (up (fun c hc=>hk c ((mem_append.mp hc).elim (fun z=>qm _ (qk _ z)) fun z=>qk _ z)) r)
theorem Rel.hide2 {s:S} {v:V} (r:Rel K (ρ++[some s]) (σ++[some v]) F G H) (h:ρ.length=σ.length):∃ G' fp,Rel K ρ σ F G' H/\Same G G'/\SRep K F H v s fp/\(∀ a∈fp,∃ o,G' a=some o/\H a=some o)/\
  ∀ {ρ2:Env} {σ2:St} {F2 H2:Hp},Same F F2->Rel K ρ2 σ2 F2 G' H2->Rel K (ρ2++[some s]) (σ2++[some v]) F2 G H2:=by
 classical
 obtain ⟨fp,e,nd,ap⟩:=r.en
 obtain ⟨f1,f2,rfl,a,b⟩:=e.cut h
 obtain ⟨n1,n2,n12⟩:=nodup_append.mp nd
 have b':=b
 cases b' with
 | @so _ _ _ _ fs fn sr nl=>
 cases nl
 refine ⟨fun x=>if x∈fs++[] then H x else G x,fs,⟨r.fr,fun x o q=>?_,f1,a,n1,fun x hx=>?_⟩,fun x o q=>?_,sr,fun x hx=>?_,fun {ρ2 σ2 F2 H2} sm r2=>?_⟩
 ·by_cases z:x∈fs++[]
  ·simp only [z,if_true] at q
   exact ⟨q,(ap x (qk _ z)).1⟩
  ·simp only [z,if_false] at q
   exact r.gr x o q
 ·have z:x∉fs++[]:=fun z=>n12 x hx x z rfl
  simp only [z,if_false]
  exact ap x (qm _ hx)
 ·have z:x∉fs++[]:=fun z=>by
   have:=(ap x (qk _ z)).2
   rw [q] at this; cases this
  simp only [z,if_false]
  exact q
 ·obtain ⟨o,q⟩:=b.in_ x (qm _ hx)
  have z:x∈fs++[]:=qm _ hx
  refine ⟨o,?_,q⟩
  simp only [z,if_true]
  exact q
 ·obtain ⟨fp2,e2,nd2,ap2⟩:=r2.en
  have hk:∀ x∈fs++[],H2 x=H x/\F2 x=none/\x∉fp2:=fun x hx=>by
   obtain ⟨o,q⟩:=b.in_ x hx
   have w:=r2.gr x o (by simp only [hx,if_true]; exact q)
   refine ⟨w.1.trans q.symm,w.2,fun z=>?_⟩
   have w2:=(ap2 x z).2
   simp only [hx,if_true] at w2
   rw [q] at w2; cases w2
  refine ⟨r2.fr,fun x o q=>?_,fp2++(fs++[]),e2.app (b.mono sm fun x hx=>(hk x hx).1),?_,fun x hx=>?_⟩
  ·have z:x∉fs++[]:=fun z=>by
    have:=(ap x (qk _ z)).2
    rw [q] at this; cases this
   exact r2.gr x o (by simp only [z,if_false]; exact q)
  ·exact nodup_append.mpr ⟨nd2,n2,fun x hx y hy e=>(hk y hy).2.2 (e ▸ hx)⟩
  ·rcases mem_append.mp hx with z | z
   ·have w:=ap2 x z
    refine ⟨w.1,?_⟩
    have z2:x∉fs++[]:=fun z2=>(hk x z2).2.2 z
    have:=w.2
    simp only [z2,if_false] at this
    exact this
   ·exact ⟨(hk x z).2.1,(ap x (qk _ z)).2⟩
theorem Rel.appendAt {l l':List S} {t:S} {m:Nat} {v:V} {D b:Addr} {xs ys:List V} (r:Rel K (ρ++[some t,some (.lst l)]) (σ++[some v,some (.ref D)]) F G H) (h:ρ.length=σ.length) (hm:l[m]?=some (.lst l'))
  (hD:H D=some (.lst xs)) (hb:xs[m]?=some (.ref b)) (hy:H b=some (.lst ys)):
  ys.length=l'.length/\Rel K (ρ++[some (.lst (l.set m (.lst (l'++[t]))))]) (σ++[some (.ref D)]) F G (upd H b (.lst (ys++[v]))):=by
 obtain ⟨fp,e,nd,ap⟩:=r.en
 obtain ⟨f1,f2,rfl,a,c⟩:=e.cut h
 cases c with
 | @so _ _ _ _ ft f3 st c=>
 cases c with
 | @so _ _ _ _ fD fn sd nl=>
 cases nl
 cases sd with
 | @lst _ xs' _ fl hD' rl=>
 rw [hD] at hD'
 cases hD'
 obtain ⟨x,fa,fi,fb,hx,sx,rfl,up⟩:=rl.at hm
 rw [hb] at hx
 cases hx
 cases sx with
 | @lst _ ys' _ fy hy' ry=>
 rw [hy] at hy'
 cases hy'
 refine ⟨ry.len,?_⟩
 have hp:(f1++(ft++(D::(fa++(b::fy++fb))++[]))).Perm (b::(f1++(ft++(D::(fa++(fy++fb)))))):=by
  simp only [append_nil,cons_append]
  have h1:(fa++b::(fy++fb)).Perm (b::(fa++(fy++fb))):=perm_middle
  refine ((h1.cons D).append_left (f1++ft) |>.trans ?_ |> fun z=>(by simpa using z))
  have h2:(D::b::(fa++(fy++fb))).Perm (b::D::(fa++(fy++fb))):=List.Perm.swap ..
  refine (h2.append_left (f1++ft)).trans ?_
  exact perm_middle.trans (by rw [append_assoc])
 have nd':=hp.nodup_iff.mp nd
 obtain ⟨nb,_⟩:=nodup_cons.mp nd'
 have ne:∀ {w:List Addr},(∀ x∈w,x∈f1++(ft++(D::(fa++(fy++fb)))))->∀ x∈w,upd H b (.lst (ys++[v])) x=H x:=fun hw x hx=>zaj fun z=>nb (z ▸ hw x hx)
 have apb:=ap b (hp.mem_iff.mpr qp)
 have new:SRep K F (upd H b (.lst (ys++[v]))) (.ref b) (.lst (l'++[t])) (b::(fy++ft)):=.lst zao (SReps.snoc (ry.mono (Same.refl F) (ne fun x hx=>by simp [hx])) (st.mono (Same.refl F) (ne fun x hx=>by simp [hx])))
 have r2:=up (H':=upd H b (.lst (ys++[v]))) (ne fun x hx=>by
  rcases mem_append.mp hx with z | z <;> simp [z]) new
 have e2:xs.set m (.ref b)=xs:=by
  apply ext_getElem?
  intro j
  by_cases hj:m=j
  ·subst hj
   rw [getElem?_set_self (qi.mp hb).1,hb]
  ·rw [getElem?_set_ne hj]
 rw [e2] at r2
 have hDb:D≠b:=fun z=>nb (by simp [z])
 have top:SRep K F (upd H b (.lst (ys++[v]))) (.ref D) (.lst (l.set m (.lst (l'++[t])))) (D::(fa++((b::(fy++ft))++fb))):=.lst ((zaj hDb).trans hD) r2
 have p:(f1++((D::(fa++((b::(fy++ft))++fb)))++[])).Perm (f1++(ft++(D::(fa++(b::fy++fb))++[]))):=by
  refine List.Perm.append_left _ ?_
  simp only [append_nil,cons_append,append_assoc]
  have h1:(fy++(ft++fb)).Perm (ft++(fy++fb)):=by
   rw [<- append_assoc,<- append_assoc]
   exact List.Perm.append_right _ perm_append_comm
  have h2:(fa++b::(fy++(ft++fb))).Perm (ft++(fa++b::(fy++fb))):=by
   refine ((h1.cons b).append_left fa).trans ?_
   have h3:(b::(ft++(fy++fb))).Perm (ft++(b::(fy++fb))):=perm_middle.symm
   refine (h3.append_left fa).trans ?_
   rw [<- append_assoc,<- append_assoc]
   exact List.Perm.append_right _ perm_append_comm
  refine (h2.cons D).trans ?_
  exact perm_middle.symm
 refine ⟨Same.updR r.fr apb.1,fun x o w=>?_,_,(a.mono (Same.refl F) (ne fun x hx=>by simp [hx])).app (.so top .nil),p.nodup_iff.mpr nd,fun x hx=>ap x (p.mem_iff.mp hx)⟩
 have hx:x≠b:=fun z=>by rw [z,apb.2] at w; cases w
 rw [zaj hx]
 exact r.gr x o w
end
section
variable {X:Cx} {pos spos:Pos}
theorem zc0 {j:Nat} {o i e:Expr} {wi we:WE} {apos cpos:Pos} (ho:FE X o (wVar j)) (hi:FE X i wi) (he:FE X e we) (hix:PlainIx i:=by intro _ _; rfl)
  (hbase:attributeBase (.Subscript o i spos) "append" X.env (eval (.Subscript o i spos) X.env)=eval (.Subscript o i spos) X.env:=by rfl)
  (hfew:((backTo cpos (starEach [e] X.env)).all (fun x=>!x.1) && (backToKw cpos (keywordEach [] X.env)).all (fun x=>x.1.isSome)
   && decide ([e].length + ([]:List Keyword).length + (if ([]:List Keyword).isEmpty then 0 else 1) < 30))=true:=by rfl)
  (hline:(apos.endLine == cpos.line)=true:=by rfl) (hs:starEach [e] X.env=[(false,eval e X.env)]:=by rfl):FE X (.Call (.Attribute (.Subscript o i spos) "append" apos) [e] [] cpos) (wAppendAt j wi we):=fun pn xe hp=>by
 refine PE.imp (zgY (X:=wp X pn xe) PySem.F.plainAttrs_list PySem.F.slot_list_append PySem.F.type_list_append zcR (zkn (zkd (X:=wp X pn xe)) (ho pn xe hp) (hi pn xe hp) hix) (zaa he zab hs pn xe hp) hbase hfew hline hs rfl) fun σ H Q q=>?_
 obtain ⟨F,G,ρ,P,PX,rel,hw,hok,hx⟩:=q
 unfold wAppendAt at hw
 cases qs:slot ρ j with
 | none=>rw [qs] at hw; exact hw.elim
 | some s0=>
   cases s0 with
   | lst l0=>
     rw [qs] at hw
     dsimp only at hw
     refine ⟨F,G,ρ,fun y ρ1=>y=.loc j/\ρ1=ρ,PX,rel,by unfold wVar; rw [qs]; exact ⟨rfl,rfl⟩,fun y ρ1 o' F1 H1 hk s1 r1 rv=>?_,hx⟩
     obtain ⟨rfl,rfl⟩:=hk
     have l1:=len1 r1
     have hσ:σ[j]?=some (some o'):=rv
     have r2:=r1.drop l1
     refine ⟨F1,G,ρ1,_,PX,r2,hw,fun z ρ2 i' F2 H2 hk2 s2 r3 rv2=>?_,hx.grow s1⟩
     have l2:=len1 r3
     split at hk2
     ·rename_i n l ei ql
      obtain ⟨m,em,hk2⟩:=zaf hk2
      split at hk2
      ·rename_i l' el
       have ri:=look (ρ':=[]) (σ':=[]) r3 l2 rv2 ei
       have r4:=r3.drop l2
       obtain ⟨v',fp,e1,sr⟩:=r4.at ql
       rw [hσ] at e1
       have e2:o'=v':=by simpa using e1
       subst e2
       have r5:=Rel.lend (ρ':=[]) (σ':=[]) (r4.pushN (u:=some o')) l2 ql hσ
       have l5:(ρ2.set j none).length=σ.length:=by simpa using l2
       obtain ⟨G2,fq,r6,gg,sq,hG,back⟩:=r5.hide2 l5
       cases sq with
       | @lst a xs _ fl hD rl=>
       obtain ⟨x,fa,fi,fb,hx1,sx,efl,_⟩:=rl.at el
       cases sx with
       | @lst b ys _ fy hy ry=>
       cases ri
       have hat:L2.atI xs n=some (.ref b):=by
        have e':L2.ixN xs.length n=some m:=by rw [rl.len]; exact em
        unfold L2.atI
        rw [e']; exact hx1
       refine .inl ⟨a,xs,n,_,rfl,rfl,SqL.of hD,hat,.inl ⟨rfl,_,SqL.of hy⟩,F2,G2,ρ2.set j none,fun rs ρ3=>match rs with | [r]=>(need (give r ρ3) fun p=>l'.length < big/\P (.v (.sh .non)) (p.2.set j (some (.lst (l.set m (.lst (l'++[p.1]))))))) | _=>False,PX,r6,hk2,fun rs ρ3 vs F3 H3 hk s3 r7 hl rvs=>?_,hx.mono (fun _ z=>z) (s1.trans s2) gg⟩
       match rs,vs,rvs,r7,hk with
       | [r],[v],rvs,r7,hk=>
         dsimp only at hk
         obtain ⟨⟨t,ρ4⟩,eg,hk⟩:=zaf hk
         have r8:=back s3 r7
         simp only [map_cons,map_nil,append_assoc,cons_append,nil_append] at r8
         have l3:ρ3.length=σ.length:=hl
         obtain ⟨F4,s4,l4,r9⟩:=giveR (ρ':=[some (.lst l)]) (σ':=[some (.ref a)]) r8 l3 rvs.1 eg
         have kept:∀ c∈a::fl,H3 c=H2 c:=fun c hc=>by
          obtain ⟨o,h1,h2⟩:=hG c hc
          rw [(r7.gr c o h1).1,h2]
         have hb:b∈a::fl:=qo _ (by rw [efl]; simp)
         obtain ⟨hlen,r10⟩:=Rel.appendAt r9 (l4.trans l3) el ((kept a qp).trans hD) hx1 ((kept b hb).trans hy)
         have r11:=Rel.back1 (ρ':=[]) (σ':=[]) (i:=j) r10 (l4.trans l3) hσ
         rw [append_nil,append_nil] at r11
         exact ⟨b,ys,v,rfl,rfl,(kept b hb).trans hy,by rw [hlen,sizeLine_eq]; exact lt_trans hk.1 (by decide),hok _ _ .non F4 _ hk.2 (s1.trans (s2.trans (s3.trans s4))) (r11.push .non) trivial⟩
       | [],_,_,_,hk=>exact hk.elim
       | [_],[],rvs,_,_=>exact rvs.elim
       | [_],_::_::_,rvs,_,_=>exact rvs.2.elim
       | _::_::_,_,_,_,hk=>exact hk.elim
      ·exact hk2.elim
     ·exact hk2.elim
   | _=>rw [qs] at hw; exact hw.elim
end
section
variable {K:W.Frag} {F H G:Hp} {σ:St} {ρ:Env}
theorem Rel.frzEnd {s:S} {v:V} (r:Rel K (ρ++[some s]) (σ++[some v]) F G H) (h:ρ.length=σ.length):∃ F',Same F F'/\Rel K (ρ++[some (.sh s.toD)]) (σ++[some v]) F' G H:=by
 obtain ⟨u,F',e1,sm,rp,r'⟩:=r.give (i:=ρ.length) (s:=s) zaC
 rw [show (ρ++[some s]).set ρ.length (some (S.sh s.toD))=ρ++[some (S.sh s.toD)] from zce] at r'
 exact ⟨F',sm,r'⟩
end
section
variable {X:Cx} {e:Expr} {we:WE} {ks:List Nat} {st:Stmt} {w:WS}
theorem zaE (he:FE X e we):FE X e (wFrz we):=fun pn xe hp=>by
 refine PE.imp (he pn xe hp) fun σ H Q q=>?_
 obtain ⟨F,G,ρ,P,PX,rel,hw,hok,hx⟩:=q
 refine ⟨F,G,ρ,_,PX,rel,hw,fun r ρ1 v F1 H1 hk s1 r1 rv=>?_,hx⟩
 obtain ⟨⟨s,ρ2⟩,eg,hk⟩:=zaf hk
 obtain ⟨F2,s2,l2,r2⟩:=giveR (ρ':=[]) (σ':=[]) r1 (len1 r1) rv eg
 obtain ⟨F3,s3,r3⟩:=Rel.frzEnd r2 (len1 r2)
 exact hok _ ρ2 v F3 H1 hk (s1.trans (s2.trans s3)) r3 trivial
theorem zoJ {i:Nat} (h:FS X ks st w):FS X ks st (wFz i w):=fun pn xe hp=>by
 refine PS.imp (h pn xe hp) fun D σ H q=>?_
 obtain ⟨F,G,ρ,E,rel,hw,n,b,c,r,x⟩:=q
 refine ⟨F,G,ρ,_,rel,hw,fun ρ' σ' F' H' hk kp sm rel'=>?_,b,c,r,x⟩
 obtain ⟨s,es,hk⟩:=zaf hk
 obtain ⟨v,F2,_,s2,_,r2⟩:=rel'.give es
 exact n _ σ' F2 H' hk kp (sm.trans s2) r2
end
section
variable {X:Cx} {K:W.Frag} {F H G:Hp}
theorem zix {d q:D} {o:Option D} (h:lkD d q=some o):∃ t ks vs,d=.dct t ks vs/\isKey t q=true/\lk ks vs q=o:=by
 unfold lkD at h
 split at h
 ·split at h
  ·rename_i hk
   exact ⟨_,_,_,rfl,hk,qh h⟩
  ·cases h
 ·cases h
theorem zjN {d:D} (h:isDc d=true):∃ t ks vs,d=.dct t ks vs:=by
 cases d with
 | dct t ks vs=>exact ⟨t,ks,vs,rfl⟩
 | _=>cases h
def rIxD:R2:=fun x y H Q=>∃ a v,x=.ref a/\DGet H a y (some v)/\Q v H
theorem zlh (hu:X.A.units + 1 < cLine):IxR X rIxD:=by
 intro value slice pins s σ H x y v u Q I rx ry h hs
 obtain ⟨a,r,rfl,g,q⟩:=h
 cases rx
 unfold subscriptTail
 have hT:=zfl I g
 have h2:=zhS (E:=X.xe) hu I g ry (Q:=EP X pins σ Q) fun w' s3 I3 rw'=>⟨r,H,I3,rw',q⟩
 refine qa ?_
 rw [getitemInPython_of_ne hT.not_modules]
 refine qa (wpAny_specialOf hT PySem.F.slot_dict_getitem.lookup ?_)
 have fin:wpAny (model X.prog X.w) X.A (subscripted slice false (.ref a) u) (fun r s₃=>wpAny (model X.prog X.w) X.A (letTemporaryGo value (.ref a) r >>= fun _=>pure r) (EP X pins σ Q) X.xe s₃) X.xe s:=by
  rw [hs]
  exact wpAny_operating (wpAny_mono h2 (fun r s₃ h₃=>qa (wpAny_letTemporaryGo (qb h₃))) fun _ _ x=>x)
 first
  | exact qb (qa fin)
  | exact qa (qb (qa fin))
  | exact qa fin
theorem lk_K {α:Type} {kvs:List (Key×V)} {vs:List α} {key:Key} {P:V->α->Prop} (hl:kvs.length=vs.length) (h:∀ (i:Nat) x y,(kvs.map (·.2))[i]?=some x->vs[i]?=some y->P x y):
  (lk (kvs.map fun p=>keyD p.1) vs (keyD key)=none/\valV kvs key=none)\/∃ x y,valV kvs key=some x/\lk (kvs.map fun p=>keyD p.1) vs (keyD key)=some y/\P x y:=
 zcS keyD (fun _ _=>zbA) kvs vs key P hl h
theorem lk_T {α:Type} {kvs:List (List Key×V)} {vs:List α} {key:List Key} {P:V->α->Prop} (hl:kvs.length=vs.length) (h:∀ (i:Nat) x y,(kvs.map (·.2))[i]?=some x->vs[i]?=some y->P x y):
  (lk (kvs.map fun p=>D.tup (p.1.map keyD)) vs (D.tup (key.map keyD))=none/\valV kvs key=none)\/∃ x y,valV kvs key=some x/\lk (kvs.map fun p=>D.tup (p.1.map keyD)) vs (D.tup (key.map keyD))=some y/\P x y:=
 zcS (fun l=>D.tup (l.map keyD)) (fun a b z=>zbW (D.tup.inj z)) kvs vs key P hl h
theorem zgX {x:V} {a:Addr} {t:Bool} {d:D} {ks vs:List D} (r1:Rep K H x d) (hk:isKey t d=true)
  (r2:(∃ kvs,t=false/\Rd H a (.dK kvs)/\ks=kvs.map (fun p=>keyD p.1)/\Reps K F (kvs.map (·.2)) vs)\/∃ kvs,t=true/\Rd H a (.dT kvs)/\ks=kvs.map (fun p=>D.tup (p.1.map keyD))/\Reps K F (kvs.map (·.2)) vs):
  ∃ o,DGet H a x o/\((lk ks vs d=none/\o=none)\/∃ v e,o=some v/\lk ks vs d=some e/\Rep K F v e):=by
 rcases r2 with ⟨kvs,rfl,e,k,r⟩ | ⟨kvs,rfl,e,k,r⟩
 ·obtain ⟨key,rfl,rfl⟩:=zcV r1 hk
  refine ⟨_,.inl ⟨kvs,key,e,rfl,rfl⟩,?_⟩
  rw [k]
  rcases lk_K (kvs:=kvs) (vs:=vs) (key:=key) (P:=fun v e=>Rep K F v e) (by have:=r.len; simpa using this) (fun i x y h1 h2=>by
   obtain ⟨x',hx',rx⟩:=r.get h2
   rw [h1] at hx'; cases hx'; exact rx) with ⟨h1,h2⟩ | ⟨v,e,h1,h2,h3⟩
  ·exact .inl ⟨h1,h2⟩
  ·exact .inr ⟨v,e,h1,h2,h3⟩
 ·cases r1 with
  | tup e1 q=>
    obtain ⟨keys,rfl,rfl⟩:=zfq q hk
    refine ⟨_,.inr ⟨kvs,keys,_,e,rfl,e1,rfl⟩,?_⟩
    rw [k]
    rcases lk_T (kvs:=kvs) (vs:=vs) (key:=keys) (P:=fun v e=>Rep K F v e) (by have:=r.len; simpa using this) (fun i x y h1 h2=>by
     obtain ⟨x',hx',rx⟩:=r.get h2
     rw [h1] at hx'; cases hx'; exact rx) with ⟨h1,h2⟩ | ⟨v,e,h1,h2,h3⟩
    ·exact .inl ⟨h1,h2⟩
    ·exact .inr ⟨v,e,h1,h2,h3⟩
  | _=>cases hk
theorem RepE.dct {v:V} {t:Bool} {ks vs:List D} (r:RepE K F H v (.dct t ks vs)) (sm:Same F H):∃ a,v=.ref a/\((∃ kvs,t=false/\Rd H a (.dK kvs)/\ks=kvs.map (fun p=>keyD p.1)/\Reps K F (kvs.map (·.2)) vs)\/
  ∃ kvs,t=true/\Rd H a (.dT kvs)/\ks=kvs.map (fun p=>D.tup (p.1.map keyD))/\Reps K F (kvs.map (·.2)) vs):=by
 rcases r with r | ⟨a,xs,ds,e1,e2,e3,r⟩ | ⟨a,kvs,ks',vs',e1,e2,e3,e4,r⟩ | ⟨a,kvs,ks',vs',e1,e2,e3,e4,r⟩
 ·cases r with
  | dK e k r=>exact ⟨_,rfl,.inl ⟨_,rfl,Rd.mono sm e,k,r⟩⟩
  | dT e k r=>exact ⟨_,rfl,.inr ⟨_,rfl,Rd.mono sm e,k,r⟩⟩
 ·cases e2
 ·cases e2
  exact ⟨a,e1,.inl ⟨kvs,rfl,.inl e3,e4,r⟩⟩
 ·cases e2
  exact ⟨a,e1,.inr ⟨kvs,rfl,.inl e3,e4,r⟩⟩
end
section
variable {X:Cx} {pos:Pos}
theorem zlx {o i:Expr} {wo wi:WE} {apos cpos:Pos} (hu:X.A.units + 1 < cLine) (ho:FE X o wo) (hi:FE X i wi) (m:M1 X o "get" apos i cpos):FE X (.Call (.Attribute o "get" apos) [i] [] cpos) (wGet1 wo wi):=fun pn xe hp=>by
 refine PE.imp (zjm (X:=wp X pn xe) hu (ho pn xe hp) (hi pn xe hp) ⟨m.base,m.few,m.line,m.trees⟩) fun σ H Q q=>?_
 obtain ⟨F,G,ρ,P,PX,rel,hw,hok,hx⟩:=q
 refine ⟨F,G,ρ,_,PX,rel,hw,fun x ρ1 o' F1 H1 hk s1 r1 rv=>?_,hx⟩
 obtain ⟨hD,hk⟩:=hk
 have l1:=len1 r1
 obtain ⟨d0,e0,hD⟩:=zaf hD
 have isd:∃ a,o'=.ref a/\IsD H1 a:=by
  obtain ⟨t,ks,vs,rfl⟩:=zjN hD
  obtain ⟨F'',sm',re',rel'⟩:=takeC (ρ':=[]) (σ':=[]) r1 l1 rv e0
  obtain ⟨a,ea,h⟩:=re'.dct rel'.fr
  rcases h with ⟨kvs,_,h,_⟩ | ⟨kvs,_,h,_⟩
  ·exact ⟨a,ea,.inl ⟨kvs,h⟩⟩
  ·exact ⟨a,ea,.inr ⟨kvs,h⟩⟩
 obtain ⟨a,rfl,isd⟩:=isd
 refine ⟨a,rfl,isd,?_⟩
 obtain ⟨G1,rel1,gg,back⟩:=r1.hide l1
 refine ⟨F1,G1,ρ1,_,PX,rel1,hk,fun y ρ2 i' F2 H2 hk2 s2 r2 rv2=>?_,hx.mono (fun _ z=>z) s1 gg⟩
 have l2:=len1 r2
 obtain ⟨dd,ed,hk3⟩:=zaf hk2
 obtain ⟨q,eq,hk3⟩:=zaf hk3
 obtain ⟨oo,eo,hk3⟩:=zaf hk3
 have r4:=back s2 r2
 simp only [append_assoc,cons_append,nil_append] at r4
 have ri:=look (ρ':=[slotOf x]) (σ':=[some (.ref a)]) r4 l2 rv2 eq
 have r6:Rel X.K (ρ2++[slotOf x]) (σ++[some (.ref a)]) F2 G H2:=Rel.mid (ρ:=ρ2) (σ:=σ) r4 l2
 obtain ⟨F4,s4,re,r8⟩:=takeC (ρ':=[]) (σ':=[]) r6 l2 rv ed
 rw [append_nil,append_nil] at r8
 obtain ⟨t,ks,vs,rfl,hkey,rfl⟩:=zix eo
 obtain ⟨a',ea,hh⟩:=re.dct r8.fr
 cases ea
 obtain ⟨o2,g,h⟩:=zgX ri hkey hh
 refine ⟨o2,g,?_⟩
 rcases h with ⟨h1,rfl⟩ | ⟨v,e,rfl,h1,h2⟩
 ·rw [h1] at hk3
  exact hok _ ρ2 .non F4 H2 hk3 (s1.trans (s2.trans s4)) (r8.push .non) trivial
 ·rw [h1] at hk3
  exact hok _ ρ2 v F4 H2 hk3 (s1.trans (s2.trans s4)) (r8.push h2) trivial
end
section
variable {X:Cx} {a b:Expr} {wa wb:WE} {pos:Pos}
theorem zhw (hu:X.A.units + 1 < cLine) (ha:FE X a wa) (hb:FE X b wb) (hs:PlainIx b:=by intro _ _; rfl):FE X (.Subscript a b pos) (wIxA wa wb):=fun pn xe hp=>by
 refine PE.imp (zkn (zlh (X:=wp X pn xe) hu) (ha pn xe hp) (hb pn xe hp) hs) fun σ H Q q=>?_
 refine (two (k:=fun x y ρ2 Q E=>need (viewC x ρ2) fun dd=>need (view y ρ2) fun q=>need (lkD dd q) fun o=>need o fun e=>Q (.v (.sh e)) ρ2) q).mono fun v H1 h1=>h1.mono fun u H2 h2=>?_
 obtain ⟨F,G,ρ,x,y,P,PX,rel,hl,rx,ry,hk,hok,hx⟩:=h2
 obtain ⟨dd,ed,hk1⟩:=zaf hk
 obtain ⟨q,eq,hk2⟩:=zaf hk1
 obtain ⟨o,eo,hk3⟩:=zaf hk2
 obtain ⟨e,ee,hk4⟩:=zaf hk3
 have relx:Rel X.K (ρ++[slotOf x]) (σ++[some v]) F G H2:=Rel.mid (ρ:=ρ) (σ:=σ) (Rel.swap (ρ1:=[slotOf x]) (σ1:=[some v]) (ρ2:=[slotOf y]) (σ2:=[some u]) hl rfl rel) hl
 have ru:=look (ρ':=[]) (σ':=[]) (rel.mid hl) hl ry eq
 obtain ⟨F4,s4,re,r8⟩:=takeC (ρ':=[]) (σ':=[]) relx hl rx ed
 rw [append_nil,append_nil] at r8
 obtain ⟨t,ks,vs,rfl,hkey,hlk⟩:=zix eo
 obtain ⟨c,rfl,hh⟩:=re.dct r8.fr
 obtain ⟨o2,g,h⟩:=zgX ru hkey hh
 rcases h with ⟨h1,rfl⟩ | ⟨w,e',rfl,h1,h2⟩
 ·rw [hlk,ee] at h1; cases h1
 ·rw [hlk,ee] at h1
  cases h1
  exact ⟨c,w,rfl,g,hok _ ρ _ F4 H2 hk4 s4 (r8.push h2) trivial⟩
end
section
variable {prog:Program} {w:World} {A:Around} {E:Value->Shared->Prop} {s:Shared} {l:Addr} {vs:List Value} {ns:List Int} {Q:Value->Shared->Prop}
theorem zia (hh:A.handled=none) (hl:s.heap.IsList l vs.toArray) (hi:IntsAre vs ns) (hne:0 < ns.length)
  (h:∀ h' M (t:Tok) tk,(∀ b x,s.heap.get? b=some x->h'.get? b=some x)->M∈ns->(∀ a,a∈ns->M<=a)->Q (.int M t) { s with heap:=h',toks:=tk }):wpAny (model prog w) A (call (.builtin "min") [.ref l]) Q E s:=by
 obtain ⟨xs,e⟩:=hi.allInts.items
 have hns:ns=xs.toList.map (·.1):=by
  rw [<- hi.numsOf,<- nums_intItems,<- e]
 have hsz:0 < xs.size:=by
  have h3:=hne; rw [hns,length_map,length_toList] at h3; exact h3
 rw [e] at hl
 refine min_intList hh hl hsz fun v h' tk hv hk=>?_
 obtain ⟨t,rfl⟩:=intItems_at hv
 obtain ⟨h1,h2⟩:=argBest_lt (numAt xs) (xs.size - 1)
 refine h _ _ t tk hk ?_ fun a ha=>?_
 ·rw [hns,numAt_eq]; exact getD_mem (by rw [length_map,length_toList]; lia)
 ·rw [hns] at ha
  obtain ⟨j,hj,rfl⟩:=mem_getD ha
  rw [length_map,length_toList] at hj
  rw [<- numAt_eq]; exact h2 j (by lia)
end
section
variable {X:Cx} {K:W.Frag} {p pos:Pos} {e:Expr} {es:List Expr} {wa:WA}
def rMinL (K:W.Frag):List V->Hp->VK->Prop:=fun xs H Q=>∃ (a:Addr) (ns:List Int),xs=[.ref a]/\SqL K H a (ns.map V.int)/\0 < ns.length/\∀ M,M∈ns->(∀ a,a∈ns->M<=a)->Q (.int M) H
theorem ziz (hc:X.calm=true):CallR X (.builtin "min") (rMinL X.K):=by
 intro pins s σ H xs us Q I r h
 obtain ⟨a,ns,rfl,hq,hne,q⟩:=h
 obtain ⟨u,rfl,rx⟩:=vals1 r
 cases rx
 obtain ⟨its,rv,pl,hz⟩:=I.list hq
 exact zia (I.ok.hd hc) pl.isList (zaY rv) hne fun h' M t tk kp h1 h2=>⟨.int _,H,I.kept kp,⟨_,rfl⟩,q M h1 h2⟩
theorem zh3:DoesB K (rMinL K) bMinL:=by
 intro σ ρ F G H vs ds s Q rel re e hq
 obtain ⟨d,v,rfl,rfl⟩:=arg1 (fun x y r=>by cases x <;> rfl) rfl re e
 cases d with
 | lst l=>
   obtain ⟨a,xs,rfl,h1,r1⟩:=re.1.lst rel.fr
   obtain ⟨ns,en,e⟩:=Option.bind_eq_some_iff.mp e
   obtain ⟨m,em,rfl⟩:=map_eq_some_iff.mp e
   obtain ⟨rfl,_⟩:=zdw r1 en
   refine ⟨a,ns,rfl,h1,by cases ns with | nil=>cases em | cons _ _=>simp,fun M h2 h3=>?_⟩
   obtain ⟨h4,h5⟩:=List.min?_eq_some_iff.mp em
   have:M=m:=Int.le_antisymm (h3 m h4) (h5 M h2)
   subst this
   exact hq _ F H (Same.refl F) (rel.push (.int _))
 | _=>cases e
theorem zlj (hc:X.calm=true) (hg:Gl X "min") (hm:X.mg "min"=none) (hv:bootBuiltins "min"=some (.builtin "min")) (ha:FA X (e::es) wa) (he:starEach (e::es) X.env=(false,eval e X.env)::starEach es X.env:=by rfl) (hpl:(backTo pos (starEach es X.env)).any (·.1)=false:=by rfl):FE X (.Call (.Name "min" p) (e::es) [] pos) (wB bMinL wa):=
 zbp (fun pn xe=>ziz (X:=wp X pn xe) hc) zh3 hg hm hv ha (by decide) (by decide) he hpl
end
end FL
end
section
namespace FL
open PySem PySem.Spec PyProof.Rows
section
variable {prog:Program} {w:World} {A:Around} {E:Value->Shared->Prop} {s:Shared}
theorem zij:typeLookup (.type "tuple") "__reversed__"=pure none:=by rw [typeLookup_type,builtinLookup_eq_fast]; kernel_rfl
theorem zg0:typeLookup (.type "tuple") "__getitem__"=pure (some (.builtin "tuple.__getitem__")):=by rw [typeLookup_type,builtinLookup_eq_fast]; kernel_rfl
theorem zgA:isSubtype (.type "tuple") (.type "dict")=pure false:=by rw [isSubtype_type]; kernel_rfl
def revT (t:Addr) (i:Int):Obj:={ cls:=.type "reversed",data:=.fields #[.ref t,rawInt i] }
theorem zju {t:Addr} {items:Array Value} {R:Fin->Shared->Prop} (ht:IsTup s.heap t items) (hfit:(items.size:Int) < 2 ^ 63)
  (h:R (.done (.ret (.ref s.heap.objs.size))) { s with heap:=s.heap.push (revT t ((items.size:Int) - 1)),toks:=s.toks + 1 + 1 }):
  wpAny (model prog w) A (Builtin.«reversed.__new__» ⟨[.type "reversed",.ref t],[]⟩) R E s:=by
 unfold Builtin.«reversed.__new__»
 refine qa (wpAny_of_eq (newClass_reversed _) ?_)
 try dsimp only
 refine qa (wpAny_of_eq (a:=()) (by first | rfl | kernel_rfl) (qa (wpAny_of_eq (a:=()) (by first | rfl | kernel_rfl) ?_)))
 try dsimp only
 refine qa (wpAny_specialOf ht.typeIs zij ?_)
 refine qa ?_
 wp_delta
 refine qa (wpAny_isInstance (b:=false) ht.typeIs zgA ?_)
 rw [if_neg (by simp)]
 refine qa (wpAny_specialOf ht.typeIs zg0 ?_)
 dsimp only
 rw [if_pos (by decide +kernel)]
 refine qb ?_
 rw [if_neg (by simp)]
 refine qa (PyProof.Rows.len_tuple ht hfit ?_)
 refine qa (wpAny_of_eq (a:=some (items.size:Int)) rfl ?_)
 dsimp only
 unfold Builtin.SmallTypes.newRecord
 refine qa (wpAny_newObj_type (qb ?_))
 exact h
theorem ziA (t:Addr) (items:Array Value) (hfit:(items.size:Int) < 2 ^ 63):Meets (Builtin.«reversed.__new__» ⟨[.type "reversed",.ref t],[]⟩) (fun _ R s=>IsTup s.heap t items/\
   R (.ok (.ret (.ref s.heap.objs.size))) { s with heap:=s.heap.push (revT t ((items.size:Int) - 1)),toks:=s.toks + 1 + 1 }):=
 .of_wp fun prog w A R s h=>zju h.1 hfit ⟨_,rfl,h.2⟩
theorem zcx:Slot "reversed" "__init__" "object.__init__":=
 .of (owner:="object") (n:="__init__") (by rw [typeLookup_type,builtinLookup_eq_fast]; kernel_rfl) (by decide +kernel) (by decide +kernel) (by decide +kernel) (by first | exact .inl (by decide +kernel) | exact .inr (by decide +kernel)) (by rw [isSubtype_type]; kernel_rfl)
theorem zgG:TypeCalled "reversed" "reversed.__new__" "object.__init__":=⟨by decide +kernel,by decide +kernel,⟨_,_,F.mro_reversed⟩,F.made_reversed,by decide +kernel,F.sub_reversed_self,zcx⟩
theorem zhh {t:Addr} {items:Array Value} {Q:Value->Shared->Prop} (ht:IsTup s.heap t items) (hfit:(items.size:Int) < 2 ^ 63)
  (h:Q (.ref s.heap.objs.size) { s with heap:=s.heap.push (revT t ((items.size:Int) - 1)),toks:=s.toks + 1 + 1 }):wpAny (model prog w) A (call (.type "reversed") [.ref t]) Q E s:=by
 refine callType_new zgG (by decide) (F.typeCall_reversed_1 _) (F.newCall_reversed_1 _) (fun obj=>F.args_object_init_2 obj _) F.entry_reversed_new (ziA t items hfit) ⟨ht,?_⟩
 exact ⟨⟨_,qd _ rfl,rfl⟩,h⟩
end
section
variable {prog:Program} {w:World} {A:Around} {E:Value->Shared->Prop} {s:Shared}
theorem zfF:Manifest.owners.lookup (String.ofList ['d','e','s','r','e','v','e','r'].reverse)=some Manifest.sig_reversed:=by kernel_rfl
theorem zaI:Slot "reversed" "__next__" "reversed.__next__":=
 .of (owner:="reversed") (n:="__next__") (by rw [typeLookup_type,builtinLookup_eq_fast]; kernel_rfl) (by decide +kernel) (by decide +kernel) (by decide +kernel) (by first | exact .inl (by decide +kernel) | exact .inr (by decide +kernel)) (by rw [isSubtype_type]; kernel_rfl)
theorem zbs:entryFor table "reversed.__next__"=some Builtin.«reversed.__next__»:=entryFor_of_tree (by kernel_rfl)
theorem zbX (a:Value):argsOk "reversed.__next__" ⟨[a],[]⟩:=by
 unfold argsOk; rw [signature?_of (id:="reversed.__next__") (n:=['_','_','t','x','e','n','_','_']) (o:=['d','e','s','r','e','v','e','r']) (by kernel_rfl) zfF]; kernel_rfl
def IsRevT (h:Heap) (a t:Addr) (i:Int):Prop:=∃ o,h.get? a=some o/\o.cls=.type "reversed"/\o.data=.fields #[.ref t,rawInt i]
theorem IsRevT.typeIs {a t:Addr} {i:Int} (x:IsRevT s.heap a t i):s.TypeIs (.ref a) "reversed":=let ⟨o,ho,hc,_⟩:=x; ⟨o,ho,hc⟩
theorem zhJ {it t:Addr} {i:Nat} {items:Array Value} {x:Value} {Q:Option Value->Shared->Prop} (hit:IsRevT s.heap it t (i:Int)) (ht:IsTup s.heap t items) (hx:items[i]?=some x) (hfit:(items.size:Int) < 2 ^ 63)
  (hQ:∀ h' tk,IsRevT h' it t ((i:Int) - 1)->Heap.SameBut it s.heap h'->Q (some x) { s with heap:=h',toks:=tk }):wpAny (model prog w) A (pyNext (.ref it)) Q E s:=by
 obtain ⟨o,ho,hc,hd⟩:=id hit
 have hi:i < items.size:=by
  rcases Array.getElem?_eq_some_iff.mp hx with ⟨h,_⟩
  exact h
 unfold pyNext
 refine qa (wpAny_attempt (wpAny_callSpecial?_slot (name:=Str.ofString "__next__") hit.typeIs zaI (wpAny_call_entry zaI hit.typeIs zbs ?_ (zbX _))))
 unfold Builtin.«reversed.__next__»
 refine qa (wpAny_of_eq (a:=(Value.ref it,[])) rfl ?_)
 try dsimp only
 refine qa (wpAny_field ho hd (x:=.ref t) rfl (qa (wpAny_field ho hd (x:=rawInt (i:Int)) rfl ?_)))
 show wpAny _ _ (if (i:Int) < 0 then _ else _) _ _ s
 rw [if_neg (by lia)]
 refine qa (wpAny_specialOf ht.typeIs zg0 ?_)
 rw [if_neg (by simp)]
 refine qa (wpAny_mkInt ?_)
 have hj:seqIndex? (i:Int) items.size=some i:=by
  unfold seqIndex?
  have n0:¬ (i:Int) < 0:=by lia
  simp [hi,n0]
 refine qa (wpAny_attempt (PyProof.Rows.getItem_tuple (s:={ s with toks:=s.toks + 1 }) (j:=i) (x:=x) (show IsTup s.heap t items from ht) (by lia) (by lia) hj hx ?_))
 dsimp only
 refine qa (wpAny_field (s:={ s with toks:=s.toks + 1 }) ho hd (x:=rawInt (i:Int)) rfl ?_)
 show wpAny _ _ (setField (.ref it) 1 (rawInt ((i:Int) - 1)) >>= _) _ _ _
 refine qa (wpAny_setField (s:={ s with toks:=s.toks + 1 }) ho hd (by simp) ?_)
 refine qb ⟨x,rfl,qb (hQ _ (s.toks + 1) ?_ (Heap.SameBut.update ..))⟩
 exact ⟨_,Heap.get?_update_self _ ho (Obj.isFreed_of_fields (Obj.data_mapFields hd _)),(Obj.cls_mapFields ..).trans hc,by rw [Obj.data_mapFields hd]; simp⟩
theorem zjp {it t:Addr} {Q:Option Value->Shared->Prop} (hh:A.handled=none) (hit:IsRevT s.heap it t (-1)) (hQ:∀ h',Heap.ExtBut it s.heap h'->Q none { s with heap:=h' }):wpAny (model prog w) A (pyNext (.ref it)) Q E s:=by
 obtain ⟨o,ho,hc,hd⟩:=id hit
 unfold pyNext
 refine qa (wpAny_attempt (wpAny_callSpecial?_slot (name:=Str.ofString "__next__") hit.typeIs zaI (wpAny_call_entry zaI hit.typeIs zbs ?_ (zbX _))))
 unfold Builtin.«reversed.__next__»
 refine qa (wpAny_of_eq (a:=(Value.ref it,[])) rfl ?_)
 try dsimp only
 refine qa (wpAny_field ho hd (x:=.ref t) rfl (qa (wpAny_field ho hd (x:=rawInt (-1)) rfl ?_)))
 show wpAny _ _ (if (-1:Int) < 0 then _ else _) _ _ s
 rw [if_pos (by decide)]
 refine qa (wpAny_rule ?_)
 refine qa ?_
 wp_delta
 refine qa (wpAny_setField ho hd (by simp) ?_)
 have ho2:=Heap.get?_update_self (h:=s.heap) (a:=it) (Obj.mapFields (·.setIfInBounds 1 (rawInt (-1)))) ho (Obj.isFreed_of_fields (Obj.data_mapFields hd _))
 refine wpAny_setField (s:={ s with heap:=s.heap.update it (Obj.mapFields (·.setIfInBounds 1 (rawInt (-1)))) }) ho2 (Obj.data_mapFields hd _) (by simp) ?_
 refine qa ?_
 unfold Builtin.SmallTypes.stopIteration
 show wpAny _ _ (newExc (.type "StopIteration") [] >>= _) _ _ _
 refine qa ?_
 simp only [newExc,newTuple]
 refine qa (wpAny_newObj_type ?_ (by size_fits))
 refine qa (m:=firstArgMember _ _) (wpAny_of_eq (a:=Value.none) (by first | rfl | (simp only [firstArgMember]; rfl)) (wpAny_newObj_type ?_ (by size_fits)))
 simp only [raiseNew]
 refine qa (wpAny_handled ?_)
 first | rw [show A.in1.handled=none from hh] | rw [hh]
 refine qa (qb (wpAny_throw ?_))
 refine qa (wpAny_isInstance (T:="StopIteration") (b:=true) ?ty isSubtype_stop ?_)
 case ty=>exact ⟨_,qd _ rfl,rfl⟩
 refine qb (hQ _ ?_)
 have x1:Heap.ExtBut it s.heap (s.heap.update it (Obj.mapFields (·.setIfInBounds 1 (rawInt (-1))))):=(Heap.SameBut.update s.heap it _).extBut
 have x2:Heap.ExtBut it s.heap ((s.heap.update it (Obj.mapFields (·.setIfInBounds 1 (rawInt (-1))))).update it (Obj.mapFields (·.setIfInBounds 0 Value.none))):=fun b o hb e=>(Heap.SameBut.update _ it _).extBut b o hb (x1 b o hb e)
 exact (x2.push _).push _
theorem zb3:Slot "reversed" "__iter__" "reversed.__iter__":=
 .of (owner:="reversed") (n:="__iter__") (by rw [typeLookup_type,builtinLookup_eq_fast]; kernel_rfl) (by decide +kernel) (by decide +kernel) (by decide +kernel) (by first | exact .inl (by decide +kernel) | exact .inr (by decide +kernel)) (by rw [isSubtype_type]; kernel_rfl)
theorem zdx (a:Value):argsOk "reversed.__iter__" ⟨[a],[]⟩:=by
 unfold argsOk; rw [signature?_of (id:="reversed.__iter__") (n:=['_','_','r','e','t','i','_','_']) (o:=['d','e','s','r','e','v','e','r']) (by kernel_rfl) zfF]; kernel_rfl
theorem zc5:entryFor table "reversed.__iter__"=some Builtin.«dict_keyiterator.__iter__»:=
 entryFor_alias (id':="dict_keyiterator.__iter__") (by kernel_rfl) (by first | rfl | decide +kernel | (unfold String.splitOn; simp +decide [String.splitOnAux])) (by decide +kernel) (by kernel_rfl)
theorem zet {it t:Addr} {i:Int} {Q:Value->Shared->Prop} (hit:IsRevT s.heap it t i) (h:Q (.ref it) s):wpAny (model prog w) A (pyIter (.ref it)) Q E s:=by
 refine wpAny_pyIter_slot hit.typeIs zb3 (wpAny_call_entry zb3 hit.typeIs zc5 (?_:wpAny _ _ (ret (.ref it)) _ _ s) (zdx _))
 exact qb ⟨_,rfl,"reversed",_,hit.typeIs,zaI.lookup,h⟩
end
theorem IsRevT.at {h h':Heap} {a t:Addr} {i:Int} (x:IsRevT h a t i) (e:∀ o,h.get? a=some o->h'.get? a=some o):IsRevT h' a t i:=let ⟨o,ho,r⟩:=x; ⟨o,e _ ho,r⟩
theorem zbY {h h':Heap} {t:Addr} {items:Array Value} (x:IsTup h t items) (e:∀ o,h.get? t=some o->h'.get? t=some o):IsTup h' t items:=let ⟨o,ho,r⟩:=x; ⟨o,e _ ho,r⟩
theorem zgp {prog:Program} {w:World} {A:Around} (hh:A.handled=none) (I t:Addr) (hne:t≠I) (items:Array Value) (hfit:(items.size:Int) < 2 ^ 63):
  Walks prog w A I [I,t] [I] items.size (fun i v=>items[items.size - 1 - i]?=some v) (fun i h=>i<=items.size/\IsRevT h I t ((items.size:Int) - 1 - (i:Int))/\IsTup h t items) where
 sub:=fun b hb=>by simp at hb; simp [hb]
 frame:=fun _ _ _ x hk=>⟨x.1,x.2.1.at fun o e=>hk I (by simp) o e,zbY x.2.2 fun o e=>hk t (by simp) o e⟩
 item:=fun i s Q E hi x hQ=>by
  have hit:=x.2.1
  rw [show (items.size:Int) - 1 - (i:Int)=((items.size - 1 - i:Nat):Int) by lia] at hit
  have hx:items[items.size - 1 - i]?=some (items[items.size - 1 - i]'(by lia)):=Array.getElem?_eq_getElem _
  refine zhJ hit x.2.2 hx hfit fun h' tk hit' hs'=>?_
  refine hQ _ h' tk hx ⟨by lia,?_,zbY x.2.2 fun o e=>hs'.extBut t o hne e⟩ fun b o hb e=>hs'.extBut b o (fun h=>hb (by simp [h])) e
  rw [show ((items.size - 1 - i:Nat):Int) - 1=(items.size:Int) - 1 - ((i + 1:Nat):Int) by lia] at hit'
  exact hit'
 done:=fun s Q E x hQ=>zjp hh (by have:=x.2.1; rw [show (items.size:Int) - 1 - ((items.size:Nat):Int)=-1 by lia] at this; exact this) fun h' he'=>hQ h' s.toks fun b o hb e=>he' b o (fun h=>hb (by simp [h])) e
 self:=fun _ _ _ _ x hQ=>zet x.2.1 hQ
end FL
end
section
namespace FL
open PySem PySem.Spec PyProof.Rows L2
section
variable {prog:Program} {w:World} {A:Around} {E:Value->Shared->Prop} {s:Shared}
theorem zhs:typeLookup (.type "reversed") "__len__"=pure none:=by rw [typeLookup_type,builtinLookup_eq_fast]; kernel_rfl
theorem zbV:Slot "reversed" "__length_hint__" "reversed.__length_hint__":=
 .of (owner:="reversed") (n:="__length_hint__") (by rw [typeLookup_type,builtinLookup_eq_fast]; kernel_rfl) (by decide +kernel) (by decide +kernel) (by decide +kernel) (by first | exact .inl (by decide +kernel) | exact .inr (by decide +kernel)) (by rw [isSubtype_type]; kernel_rfl)
theorem zc3:entryFor table "reversed.__length_hint__"=some Builtin.«reversed.__length_hint__»:=entryFor_of_tree (by kernel_rfl)
theorem zdR (a:Value):argsOk "reversed.__length_hint__" ⟨[a],[]⟩:=by
 unfold argsOk; rw [signature?_of (id:="reversed.__length_hint__") (n:="__length_hint__".toList.reverse) (o:=['d','e','s','r','e','v','e','r']) (by kernel_rfl) zfF]; kernel_rfl
theorem zdZ {it t:Addr} {items:Array Value} {Q:Value->Shared->Prop} (hit:IsRevT s.heap it t ((items.size:Int) - 1)) (ht:IsTup s.heap t items) (hfit:(items.size:Int) < 2 ^ 63)
  (h:∀ u tk,Q (.int (items.size:Int) u) { s with toks:=tk }):wpAny (model prog w) A (call (.builtin "reversed.__length_hint__") [.ref it]) Q E s:=by
 obtain ⟨o,ho,hc,hd⟩:=id hit
 refine wpAny_call_entry zbV hit.typeIs zc3 ?_ (zdR _)
 unfold Builtin.«reversed.__length_hint__»
 refine qa (wpAny_of_eq (a:=Value.ref it) rfl ?_)
 refine qa (wpAny_field ho hd (x:=.ref t) rfl ?_)
 rw [if_neg (by simp)]
 refine qa (PyProof.Rows.len_tuple ht hfit ?_)
 refine qa (wpAny_of_eq (a:=some (items.size:Int)) rfl ?_)
 dsimp only
 refine qa (wpAny_field ho hd (x:=rawInt ((items.size:Int) - 1)) rfl ?_)
 show wpAny _ _ (if (items.size:Int) < (items.size:Int) - 1 + 1 then _ else retInt ((items.size:Int) - 1 + 1)) _ _ _
 rw [if_neg (by lia),show (items.size:Int) - 1 + 1=items.size by lia]
 unfold retInt
 refine qa (wpAny_mkInt ?_)
 exact qb ⟨_,rfl,h _ _⟩
theorem zic (k:Int) (u:Tok):asInt? (.int k u)=pure (some k):=rfl
theorem zdz:typeOf (.builtin "reversed.__length_hint__")=pure (.type "method_descriptor"):=by show builtinType _=_; rw [builtinType_eq_fast]; kernel_rfl
theorem zjw {it t:Addr} {items:Array Value} {Q:Bool->Shared->Prop} (hit:IsRevT s.heap it t ((items.size:Int) - 1)) (ht:IsTup s.heap t items) (hlen:items.size<=2 ^ 24)
  (h:∀ tk,Q ((items.size:Int) !=0) { s with toks:=tk }):wpAny (model prog w) A (Builtin.List.listLengthHint (.ref it)) Q E s:=by
 unfold Builtin.List.listLengthHint
 refine qa (wpAny_specialOf hit.typeIs zhs ?_)
 show wpAny _ A (specialOf (Value.ref it) (Str.ofString "__length_hint__") >>= _) _ _ _
 refine qa (wpAny_specialOf hit.typeIs zbV.lookup ?_)
 (generalize hid:("reversed.__length_hint__":String)=id0; wp_delta; rw [show splitId id0=some ("reversed","__length_hint__") from by subst hid; decide +kernel]; subst hid)
 refine qa (wpAny_isInstance (b:=true) hit.typeIs (by rw [isSubtype_type]; kernel_rfl) ?_)
 refine wpAny_ite_split (fun hab=>absurd hab (by decide)) (fun _=>?_)
 refine wpAny_ite_split (fun hab=>absurd hab (by decide +kernel)) (fun _=>?_)
 refine qa (wpAny_rule ?_)
 unfold bindSpecial
 refine qa (qa (wpAny_of_eq zdz ?_))
 rw [if_pos (by decide)]
 refine qb ?_
 dsimp only
 refine qa (wpAny_attempt (zdZ hit ht (by lia) fun u tk=>?_))
 dsimp only
 refine qa ?_
 have htl:Builtin.List.listTooLong ((items.size:Int).toNat)=false:=by simp [Builtin.List.listTooLong,sizeLine]; lia
 have hfi:Builtin.List.listFitsIndex (items.size:Int)=true:=by simp [Builtin.List.listFitsIndex]; lia
 have h0:¬ (items.size:Int) < 0:=by lia
 have h':=h tk
 generalize (items.size:Int)=k at htl hfi h0 h' ⊢
 rw [zic]
 refine qb ?_
 simp only [hfi,htl,h0,Bool.not_true,false_eq_true,if_false]
 exact qb h'
theorem zgu {R:Result->Shared->Prop} {it t:Addr} {items:Array Value} (hh:A.handled=none) (hit:IsRevT s.heap it t ((items.size:Int) - 1)) (ht:IsTup s.heap t items) (hne:t≠it) (hlen:items.size<=2 ^ 24)
  (S:Addr) (res:Value) (c₀:Nat) (hS:s.heap.get? S=some { cls:=.type "list",data:=.seq #[] c₀ })
  (hR:∀ h' tk acc' c',(∀ b o,b≠S->b≠it->s.heap.get? b=some o->Heap.get? h' b=some o)->Heap.get? h' S=some { cls:=.type "list",dict:=none,data:=.seq acc' c',slots:=#[] }->
   ItemsOf (fun i v=>items[items.size - 1 - i]?=some v) acc' items.size->R (.ok (.ret res)) { s with heap:=h',toks:=tk }):
  wpAny (model prog w) A.in1 (Builtin.List.listExtendWith (.ref S) (.ref it) res)
   (fun fin s'=>match fin with | .done f=>R (.ok f) s' | .again c'=>c'.quiet=true/\codeAny (model prog w) A c' R s') (fun e s'=>R (.error e) s') s:=by
 have hSr:S≠it:=fun e=>by
  obtain ⟨o,ho,hc,_⟩:=hit
  rw [e,ho] at hS
  cases hS
  simp at hc
 have hSt:S≠t:=fun e=>by
  obtain ⟨o,ho,hc,_⟩:=ht
  rw [e,ho] at hS
  cases hS
  simp at hc
 have hSf:S∉[it,t]:=fun hm=>by
  rcases mem_cons.mp hm with e | hm
  ·exact hSr e
  ·exact hSt (mem_singleton.mp hm)
 have W:=(zgp (prog:=prog) (w:=w) (A:=A.in1) hh it t hne items (by lia)).toS
 have key:∀ (h:Heap) (c₁ tk:Nat),(0<=items.size/\IsRevT h it t ((items.size:Int) - 1 - ((0:Nat):Int))/\IsTup h t items)->(∀ b o,b≠S->b≠it->s.heap.get? b=some o->h.get? b=some o)->
   h.get? S=some { cls:=.type "list",data:=.seq #[] c₁ }->codeAny (model prog w) A (.builtin "list.extend.loop" ⟨[.ref S,.ref it,res],[]⟩) R { s with heap:=h,toks:=tk }:=by
  intro h c₁ tk hit hk hS₁
  refine codeAny_extend_loopS W (by rw [sizeLine_eq]; lia) S hSf res items.size 0 _ #[] c₁ rfl (zero_le _) hit hS₁ (ItemsOf.nil _) fun s' acc' c' hm hS' hacc=>?_
  rw [Moved.eq_with hm]
  refine hR s'.heap s'.toks acc' c' (fun b o hb hb2 e=>hm.heap b o (fun hmem=>?_) (hk b o hb hb2 e)) hS' hacc
  rcases mem_cons.mp hmem with e' | hmem
  ·exact hb e'
  ·exact hb2 (mem_singleton.mp hmem)
 unfold Builtin.List.listExtendWith
 refine qa (wpAny_typeOf (T:="reversed") hit.typeIs ?_)
 have h1:Builtin.List.listSameRef (.ref S) (.ref it)=false:=by simp [Builtin.List.listSameRef,hSr]
 have h2:(Value.type "reversed" == Value.type "list")=false:=by decide
 have h3:(Value.type "reversed" == Value.type "tuple")=false:=by decide
 simp only [h1,h2,h3,Bool.or_false,false_eq_true,if_false]
 refine qa (zet hit ?_)
 refine qa (wpAny_holding (zjw hit ht hlen fun tk=>?_))
 have hit0:IsRevT s.heap it t ((items.size:Int) - 1 - ((0:Nat):Int)):=by simpa using hit
 refine wpAny_ite_split (fun _=>?_) (fun _=>qb ⟨plainId_quiet F.plain_extend_loop _,key _ c₀ _ ⟨zero_le _,hit0,ht⟩ (fun b o _ _ e=>e) hS⟩)
 refine qa (wpAny_rule ?_)
 refine qa ?_
 show wpAny _ _ (updateSeq S (·.push .none) >>= fun _=>updateSeq S (·.pop)) _ _ _
 refine qa (wpAny_updateSeq (s:={ s with toks:=tk }) hS rfl ?_)
 have hS₂:=Heap.get?_update_self (Obj.mapSeq (·.push Value.none)) hS rfl
 refine wpAny_updateSeq (hz:=by seq_fits) hS₂ rfl ?_
 have hS₃:=Heap.get?_update_self (Obj.mapSeq (·.pop)) hS₂ rfl
 have kk:∀ b o,b≠S->s.heap.get? b=some o->((s.heap.update S (Obj.mapSeq (·.push Value.none))).update S (Obj.mapSeq (·.pop))).get? b=some o:=fun b o hb e=>
  (Heap.get?_update_other _ _ (Ne.symm hb)).trans ((Heap.get?_update_other _ _ (Ne.symm hb)).trans e)
 refine qb ⟨plainId_quiet F.plain_extend_loop _,key _ _ _ ⟨zero_le _,hit0.at fun o e=>kk it o (Ne.symm hSr) e,zbY ht fun o e=>kk t o (Ne.symm hSt) e⟩ (fun b o hb _ e=>kk b o hb e) hS₃⟩
end
section
variable {prog:Program} {w:World} {A:Around} {E:Value->Shared->Prop} {s:Shared}
theorem ze5 {Q:List Value->Shared->Prop} {it t:Addr} {items:Array Value} (hh:A.handled=none) (hit:IsRevT s.heap it t ((items.size:Int) - 1)) (ht:IsTup s.heap t items) (hne:t≠it) (hlen:items.size<=2 ^ 24)
  (hQ:∀ (h':Heap) tk acc,(∀ b o,b≠it->s.heap.get? b=some o->h'.get? b=some o)->s.heap.objs.size<=h'.objs.size->ItemsOf (fun i v=>items[items.size - 1 - i]?=some v) acc items.size->Q acc.toList { s with heap:=h',toks:=tk }):wpAny (model prog w) A (collect (.ref it)) Q E s:=by
 unfold collect
 refine qa (wpAny_runValue (codeAny_builtin F.entry_proto_collect ?_))
 rw [Around.under_plainId F.plain_proto_collect _]
 show wpAny _ A.in1 (newList [] >>= fun l=>again (.builtin "list.__iadd__" ⟨[l,.ref it],[]⟩)) _ _ s
 refine qa (wpAny_newObj_type ?_)
 refine qb ⟨plainId_quiet F.plain_list_iadd _,codeAny_builtin F.entry_list_iadd ?_⟩
 rw [Around.under_plainId F.plain_list_iadd _]
 show wpAny _ A.in1 (Builtin.List.listExtendWith (.ref s.heap.objs.size) (.ref it) (.ref s.heap.objs.size)) _ _ _
 have hS₁:(s.heap.push { cls:=.type "list",data:=.seq ([]:List Value).toArray }).get? s.heap.objs.size=some { cls:=.type "list",data:=.seq #[] }:=qd _ rfl
 refine zgu (R:=fun r s'=>match r with
  | .ok (.ret v)=>wpAny (model prog w) A (match v with
    | .ref a=>do
      let __do_lift <- load a
      match __do_lift.data with
       | .seq xs epoch=>pure xs.toList
       | x=>unsupported "internal:collect"
    | x=>unsupported "internal:collect") Q E s'
  | .ok a=>False
  | .error e=>E e s') (s:={ s with heap:=s.heap.push { cls:=.type "list",data:=.seq ([]:List Value).toArray } }) hh (hit.at fun o e=>qc _ e) (zbY ht fun o e=>qc _ e) hne hlen _ _ 0 hS₁ fun h' tk acc' c' hk hS' hacc=>?_
 show wpAny _ A (load s.heap.objs.size >>= _) _ _ _
 refine qa (wpAny_load hS' ?_)
 exact qb (hQ h' tk acc' (fun b o hb e=>hk b o (ne_of_lt (qg e)) hb (qc _ e)) (le_of_lt (qg hS')) hacc)
theorem zc2 {Q₁:Value->Shared->Prop} {it t:Addr} {items:Array Value} (hh:A.handled=none) (hit:IsRevT s.heap it t ((items.size:Int) - 1)) (ht:IsTup s.heap t items) (hne:t≠it) (hlen:items.size<=2 ^ 24)
  (h:∀ (h':Heap) tk acc,(∀ b o,b≠it->s.heap.get? b=some o->h'.get? b=some o)->s.heap.objs.size<=h'.objs.size->ItemsOf (fun i v=>items[items.size - 1 - i]?=some v) acc items.size->Q₁ (.ref h'.objs.size) { s with heap:=h'.push { cls:=.type "tuple",data:=.seq acc },toks:=tk }):
  codeAny (model prog w) A (.call (.builtin "tuple.__new__") ⟨[.type "tuple",.ref it],[]⟩) (wants Q₁ E) s:=by
 refine codeAny_of_tree ?_
 show wpAny _ A.in1 (do checkBuiltinCall "tuple.__new__" ⟨[.type "tuple",.ref it],[]⟩; again (.builtin "tuple.__new__" ⟨[.type "tuple",.ref it],[]⟩)) _ _ s
 refine qa (wpAny_of_eq (F.newCall_tuple_1 _) (qb ⟨plainId_quiet F.plain_tuple_new _,codeAny_builtin F.entry_tuple_new ?_⟩))
 rw [Around.under_plainId F.plain_tuple_new _]
 have hsub:=sub_tuple_self
 have hinit:=init_tuple_lookup
 have hmh:=madeHere_tuple
 have hTI:s.TypeIs (.ref it) "reversed":=hit.typeIs
 wp_walk using wpAny_typeOf hTI,ze5 (A:=A.in1) hh hit ht hne hlen
 intro h' tk acc hm hle hacc
 show wpAny _ _ (Builtin.Tuple.tupleExact acc.toList.toArray >>= fun v=>ret v) _ _ _
 unfold Builtin.Tuple.tupleExact
 refine qa (wpAny_newObj_type ?_ (by show acc.toList.toArray.size<=sizeLine; simp only [toArray_toList]; rw [hacc.1,sizeLine_eq]; exact hlen))
 refine qb ?_
 have e:acc.toList.toArray=acc:=by simp
 rw [e]
 exact h h' tk acc hm hle hacc
theorem zc6 {Q:Value->Shared->Prop} {it t:Addr} {items:Array Value} (hh:A.handled=none) (hit:IsRevT s.heap it t ((items.size:Int) - 1)) (ht:IsTup s.heap t items) (hne:t≠it) (hlen:items.size<=2 ^ 24)
  (hQ:∀ (h':Heap) tk acc,(∀ b o,b≠it->s.heap.get? b=some o->h'.get? b=some o)->s.heap.objs.size<=h'.objs.size->ItemsOf (fun i v=>items[items.size - 1 - i]?=some v) acc items.size->Q (.ref h'.objs.size) { s with heap:=h'.push { cls:=.type "tuple",data:=.seq acc },toks:=tk }):
  wpAny (model prog w) A (call (.type "tuple") [.ref it]) Q E s:=by
 refine callType_codes (Q₁:=fun obj s₁=>s₁.TypeIs obj "tuple"/\Q obj s₁) F.called_tuple (F.typeCall_tuple_1 _) F.entry_object_init
  (zc2 (A:=A.in1) hh hit ht hne hlen fun s' tk acc hm hle hacc=>⟨⟨_,qd _ rfl,rfl⟩,hQ s' tk acc hm hle hacc⟩) fun obj s₁ h₁=>?_
 exact ⟨h₁.1,F.args_object_init_2 obj _,object_init_meets F.called_tuple.init.lookup F.called_tuple.made (by decide) prog w A.in1 _ s₁ ⟨h₁.1,rfl,h₁.2⟩⟩
end
section
variable {X:Cx} {K:W.Frag}
theorem zfw:bootBuiltins "reversed"=some (.type "reversed"):=by decide +kernel
def tTupRev (K:W.Frag) (ta:TA):TE:=fun σ H Q=>ta σ H fun vs H1=>∃ t xs,vs=[.ref t]/\SqT K H1 t xs/\xs.length<=2 ^ 24/\∀ q,H1 q=none->Q (.ref q) (upd H1 q (.tup xs.reverse))
theorem zhO {a:Expr} {ta:TA} {p p1 pos pos1:Pos} (hc:X.calm=true) (hg:Gl X "tuple") (hm:X.mg "tuple"=none) (hv:bootBuiltins "tuple"=some (.type "tuple")) (hgr:Gl X "reversed") (hmr:X.mg "reversed"=none) (ha:PA X [a] ta)
  (hs:starEach [a] X.env=[(false,eval a X.env)]) (he:starEach [.Call (.Name "reversed" p1) [a] [] pos1] X.env=[(false,eval (.Call (.Name "reversed" p1) [a] [] pos1) X.env)]):
  PE X (.Call (.Name "tuple" p) [.Call (.Name "reversed" p1) [a] [] pos1] [] pos) (tTupRev X.K ta):=by
 intro pins s σ H Q I h
 refine Call_ (zbF I hg hm hv (PyProof.Rows.callWith_type1 (rest:=[]) ?_ he (by rfl)))
 rw [he]
 refine Calls.spliced_cons (Call_ (zbF I hgr hmr zfw (PyProof.Rows.callWith_type1 (thn (ha pos1 pins s σ H _ I h) fun us s1 ⟨vs,H1,I1,r1,q1⟩=>?_) hs rfl)))
 obtain ⟨t,xs,rfl,hq,hz,q⟩:=q1
 obtain ⟨u,rfl,rx⟩:=vals1 r1
 cases rx
 obtain ⟨its,rv,pt,_⟩:=I1.tuple hq
 have hsz:its.toArray.size=xs.length:=by rw [size_toArray,rv.length]
 have hlt:t < s1.heap.objs.size:=by obtain ⟨_,e,_⟩:=pt; exact qg e
 refine zhh pt (by rw [hsz]; lia) (Calls.spliced_nil ?_)
 refine zc6 (s:={ s1 with heap:=s1.heap.push (revT t ((its.toArray.size:Int) - 1)),toks:=s1.toks + 1 + 1 }) (items:=its.toArray) (I.ok.hd hc) ⟨_,qd _ rfl,rfl,rfl⟩ (zbY pt fun o e=>qc _ e) (ne_of_lt hlt) (by rw [hsz]; lia) fun h' tk acc hk hle hacc=>?_
 have hk':∀ b o,s1.heap.get? b=some o->(h'.push { cls:=.type "tuple",data:=.seq acc }).get? b=some o:=fun b o e=>
  qc _ (hk b o (ne_of_lt (qg e)) (qc _ e))
 have hle':s1.heap.objs.size<=h'.objs.size:=by
  refine le_trans ?_ hle
  show _<=(s1.heap.push _).objs.size
  rw [Heap.size_push]
  exact le_succ _
 refine ⟨.ref h'.objs.size,_,I1.laid (t':=tk) hk' hle' (show ObjOk X.prog X.w _ (h'.push _) _ (.tup xs.reverse) from ⟨?_,acc.toList,?_,?_⟩),rfl,q _ (I1.hok.fresh hle')⟩
 ·rw [List.length_reverse,sizeLine_eq]; exact hz
 ·refine zbz (by rw [List.length_reverse]; have:=hacc.1; rw [hsz] at this; simp [this]) fun j y v h1 h2=>?_
  have h3:=hacc.2 j v (by rw [<- getElem?_toList]; exact h2)
  have hj:j < xs.length:=by
   have:=(qi.mp h1).1
   simpa using this
  rw [List.getElem?_reverse hj] at h1
  rw [List.getElem?_toArray,hsz] at h3
  obtain ⟨u,h4,h5⟩:=rv.get h1
  rw [h3] at h4
  cases h4
  exact h5
 ·simpa using IsTup.new h' acc
theorem Reps.rev {F:Hp}:∀ {xs:List V} {l:List D},Reps K F xs l->Reps K F xs.reverse l.reverse
 | _,_,.nil=>.nil
 | _,_,.cons a b=>by
   rw [List.reverse_cons,List.reverse_cons]
   exact (Reps.rev b).append (.cons a .nil)
theorem zhr {a:Expr} {wa:WE} {p p1 pos pos1:Pos} (hc:X.calm=true) (hg:Gl X "tuple") (hm:X.mg "tuple"=none) (hv:bootBuiltins "tuple"=some (.type "tuple")) (hgr:Gl X "reversed") (hmr:X.mg "reversed"=none) (ha:FE X a wa)
  (hs:starEach [a] X.env=[(false,eval a X.env)]:=by rfl) (he:starEach [.Call (.Name "reversed" p1) [a] [] pos1] X.env=[(false,eval (.Call (.Name "reversed" p1) [a] [] pos1) X.env)]:=by rfl):
  FE X (.Call (.Name "tuple" p) [.Call (.Name "reversed" p1) [a] [] pos1] [] pos) (wTupRev wa):=fun pn xe hp=>by
 refine PE.imp (zhO (X:=wp X pn xe) hc hg hm hv hgr hmr (zaa ha zab hs pn xe hp) hs he) fun σ H Q q=>?_
 obtain ⟨F,G,ρ,P,PX,rel,hw,hok,hx⟩:=q
 refine ⟨F,G,ρ,fun rs ρ1=>match rs with | [r]=>(need (viewC r ρ1) fun d=>match d with | .tup l=>l.length<=big/\P (.v (.sh (.tup l.reverse))) ρ1 | _=>False) | _=>False,PX,rel,hw,fun rs ρ1 vs F1 H1 hk1 s1 r1 hl rv=>?_,hx⟩
 cases rs with
 | nil=>exact hk1.elim
 | cons r rs=>
   cases rs with
   | cons x rs=>exact hk1.elim
   | nil=>
     cases vs with
     | nil=>exact rv.elim
     | cons v vs=>
       cases vs with
       | cons x vs=>exact rv.2.elim
       | nil=>
         dsimp only at hk1
         obtain ⟨d,ed,hk1⟩:=zaf hk1
         obtain ⟨F2,s2,re,r2⟩:=takeC (ρ':=[]) (σ':=[]) r1 hl rv.1 ed
         rw [append_nil,append_nil] at r2
         cases d with
         | tup l=>
           obtain ⟨hz,hk1⟩:=hk1
           obtain ⟨t,xs,rfl,e,rx⟩:=RepE.tup re
           have hlen:=rx.len
           have hb:l.length<=1000000:=hz
           refine ⟨t,xs,rfl,SqT.of (r2.fr _ _ e),by lia,fun q hq=>?_⟩
           obtain ⟨f0,_,_⟩:=r2.free hq
           exact hok _ ρ1 _ _ _ hk1 (s1.trans (s2.trans (Same.upd f0))) ((r2.newF (o:=.tup xs.reverse) hq).push (.tup zao (rx.rev.mono (Same.upd f0)))) trivial
         | _=>exact hk1.elim
end
theorem zhT {i:Int} (h1:-1000000000000 < i) (h2:i < 1000000000000):i.natAbs.log2 < 40:=by
 have:i.natAbs < 2 ^ 40:=by lia
 by_cases h0:i.natAbs=0
 ·rw [h0]; decide
 ·exact (Nat.log2_lt h0).mpr this
mutual
theorem zin:∀ d:D,okSh d=true->showD d=true
 | .non,_=>rfl
 | .bl _,_=>rfl
 | .int i,h=>by
   have h':(decide (-1000000000000 < i) && decide (i < 1000000000000))=true:=h
   rw [and_eq_true,decide_eq_true_eq,decide_eq_true_eq] at h'
   have:=zhT h'.1 h'.2
   show decide (i.natAbs.log2 < 1920)=true
   rw [decide_eq_true_eq]; lia
 | .str _,_=>rfl
 | .tup l,h=>zcf l h
 | .lst l,h=>zcf l h
 | .dct _ _ _,h=>by cases h
 | .set _,h=>by cases h
 | .exc _ _ _,h=>by cases h
theorem zcf:∀ l:List D,okShs l=true->showDs l=true
 | [],_=>rfl
 | d::r,h=>by
   rw [okShs,and_eq_true] at h
   rw [showDs,zin d h.1,zcf r h.2]
   rfl
end
mutual
theorem zfp:∀ d:D,okSh d=true->(toPy d).leavesShort 13=true
 | .non,_=>rfl
 | .bl _,_=>rfl
 | .int i,h=>by
   have h':(decide (-1000000000000 < i) && decide (i < 1000000000000))=true:=h
   rw [and_eq_true,decide_eq_true_eq,decide_eq_true_eq] at h'
   have:=int_text_length_le10 (a:=i) (k:=12) (by decide) (by lia)
   simp only [toPy,PyData.leavesShort,decide_eq_true_eq]
   show (Str.ofString (toString i)).length<=13
   rw [PySem.ofString_length]
   exact this
 | .str l,h=>by
   have h':(l.all fun c=>decide (c < 1114112))=true:=h
   simp only [toPy,PyData.leavesShort,all_eq_true,decide_eq_true_eq] at h' ⊢
   intro c hc
   have:=h' c (by simpa using hc)
   lia
 | .tup l,h=>by
   simp only [toPy,PyData.leavesShort]
   exact zbh l h
 | .lst l,h=>by
   simp only [toPy,PyData.leavesShort]
   exact zbh l h
 | .dct _ _ _,h=>by cases h
 | .set _,h=>by cases h
 | .exc _ _ _,h=>by cases h
theorem zbh:∀ l:List D,okShs l=true->PyData.leavesShortAll 13 (toPys l)=true
 | [],_=>rfl
 | d::r,h=>by
   rw [okShs,and_eq_true] at h
   simp only [toPys,PyData.leavesShortAll,and_eq_true]
   exact ⟨zfp d h.1,zbh r h.2⟩
end
mutual
theorem zft:∀ d:D,okSh d=true->(toPy d).weight<=wtD d
 | .non,_=>le_refl _
 | .bl _,_=>le_refl _
 | .int i,h=>by
   have h':(decide (-1000000000000 < i) && decide (i < 1000000000000))=true:=h
   rw [and_eq_true,decide_eq_true_eq,decide_eq_true_eq] at h'
   have:=zhT h'.1 h'.2
   simp only [toPy,PyData.weight,wtD]
   split <;> lia
 | .str l,h=>by simp [toPy,PyData.weight,wtD]
 | .tup l,h=>by
   simp only [toPy,PyData.weight,wtD]
   exact zbf l h
 | .lst l,h=>by
   simp only [toPy,PyData.weight,wtD]
   exact zbf l h
 | .dct _ _ _,h=>by cases h
 | .set _,h=>by cases h
 | .exc _ _ _,h=>by cases h
theorem zbf:∀ l:List D,okShs l=true->PyData.weightAll (toPys l)<=wtDs l
 | [],_=>le_refl _
 | d::r,h=>by
   rw [okShs,and_eq_true] at h
   have h1:=zft d h.1
   have h2:=zbf r h.2
   simp only [toPys,PyData.weightAll,wtDs]
   lia
end
theorem RepE.view {K:W.Frag} {F H:Hp} {v:V} {d:D} (h:RepE K F H v d) (sm:Same F H):Rep K H v d:=by
 rcases h with h | ⟨a,xs,ds,rfl,rfl,e,r⟩ | ⟨a,kvs,ks,vs,rfl,rfl,e,k,r⟩ | ⟨a,kvs,ks,vs,rfl,rfl,e,k,r⟩
 ·exact h.mono sm
 ·exact .lst (SqL.of e) (r.mono sm)
 ·exact .dK (.of e) k (r.mono sm)
 ·exact .dT (.of e) k (r.mono sm)
section
variable {X:Cx} {K:W.Frag} {a b:Expr} {wa wb:WE} {pos:Pos}
theorem zes (a:Array Nat):∀ (n:Nat) (b:Array Nat),((List.replicate n a).foldl (·++·) b).toList=b.toList++(List.replicate n a.toList).flatten
 | 0,b=>by simp
 | n + 1,b=>by
   rw [List.replicate_succ,List.foldl_cons,zes a n,List.replicate_succ,flatten_cons,toList_append,append_assoc]
theorem znu {x:Str} {n:Int} (h0:0<=n):(Txt.mul x n).cps.toList=(List.replicate n.toNat x.cps.toList).flatten:=by
 unfold Txt.mul
 by_cases h1:n < 1
 ·rw [if_pos h1,show n=0 by lia]; rfl
 ·rw [if_neg h1]
  by_cases h2:(n == 1 || x.length == 0)=true
  ·rw [if_pos h2]
   rw [or_eq_true,beq_iff_eq,beq_iff_eq] at h2
   rcases h2 with h2 | h2
   ·subst h2; simp
   ·have:x.cps.toList=[]:=by
     have e:x.cps.size=0:=h2
     rw [<- List.length_eq_zero_iff,length_toList]; exact e
    rw [this]; simp
  ·rw [if_neg h2]
   show ((List.replicate n.toNat x.cps).foldl (·++·) #[]).toList=_
   rw [zes]; simp
def rMulS:R2:=fun x y H Q=>∃ z n,x=.str z/\y=.int n/\0<=n/\n<=1000/\z.length<=500/\Q (.str (Txt.mul z n)) H
theorem zle:OpR X (binaryOp .Mult) rMulS:=by
 intro pins s σ H x y v u Q I rx ry h
 obtain ⟨z,n,rfl,rfl,h0,h1,hz,q⟩:=h
 obtain ⟨t,rfl⟩:=rx
 obtain ⟨t',rfl⟩:=ry
 refine SB.mul ⟨?_,fun h _=>?_,fun h _=>?_⟩ fun t2 k=>⟨.str _,H,I.kept fun _ _ z=>z,⟨_,rfl⟩,q⟩
 ·rw [or_eq_false_iff,decide_eq_false_iff_not,decide_eq_false_iff_not]; lia
 ·have h3:(9223372036854775807:Int) / 1000<=(2 ^ 63 - 1) / n:=by
   rw [Int.le_ediv_iff_mul_le (by lia)]
   have:(9223372036854775807:Int) / 1000=9223372036854775:=by decide
   rw [this]
   have h4:(9223372036854775:Int) * n<=9223372036854775 * 1000:=Int.mul_le_mul_of_nonneg_left h1 (by decide)
   lia
  have:(9223372036854775807:Int) / 1000=9223372036854775:=by decide
  lia
 ·have h4:z.length * n.toNat<=500 * 1000:=Nat.mul_le_mul hz (by lia)
  simp only [Builtin.Str.tooLong,decide_eq_false_iff_not,sizeLine_eq]
  lia
theorem zhC:Does K (fun x y H Q=>(rI CMul fun i j=>.int (i * j)) x y H Q\/rMulS x y H Q) oMulA:=by
 intro σ ρ F G H x y p q s Q rel rx ry e hq
 unfold oMulA at e
 split at e
 ·rename_i l n
  split at e
  ·rename_i hc
   cases e
   obtain ⟨h0,h1,hz⟩:=hc
   obtain ⟨z,rfl,e1,_⟩:=rx.str
   have ey:y=.int n:=by
    rcases ry with ry | ⟨_,_,_,_,e,_⟩ | ⟨_,_,_,_,_,e,_⟩ | ⟨_,_,_,_,_,e,_⟩
    ·cases ry; rfl
    ·cases e
    ·cases e
    ·cases e
   subst ey
   have hzl:z.length=l.length:=by rw [<- e1,length_toList]; rfl
   refine .inr ⟨z,n,rfl,rfl,h0,h1,by lia,?_⟩
   refine hq _ F H (Same.refl F) (rel.push (.str ?_ ?_))
   ·rw [znu h0,e1]
   ·have h4:n.toNat * l.length<=1000 * 500:=Nat.mul_le_mul (by lia) hz
    have e5:∀ m,((List.replicate m l).flatten).length=m * l.length:=fun m=>by simp [List.length_flatten]
    rw [e5]; lia
  ·cases e
 ·exact .inl (zjA σ ρ F G H x y _ _ s Q rel rx ry e hq)
theorem zaV (ha:FE X a wa) (hb:FE X b wb):FE X (.BinOp a .Mult b pos) (wBin oMulA wa wb):=zdj (fun _ _=>OpR.or zn9 zle) zhC ha hb
end
end FL
end
section
namespace FL
end FL
end
section
namespace FL
open PySem PySem.Spec PyProof.Rows L2
end FL
end
section
namespace FL
end FL
end
section
namespace FL
open PySem PySem.Spec PyProof.Rows L2
section
variable {X:Cx} {pos:Pos}
theorem zi8:FE X (.Dict [] [] pos) (wDnew true):=fun pn xe hp=>by
 refine PE.imp zjP fun σ H Q q=>?_
 obtain ⟨F,G,ρ,P,PX,rel,hw,hok,hx⟩:=q
 intro p hp
 exact hok _ ρ _ F _ hw (Same.refl F) (Rel.newO (s:=.dct true [] []) rel hp (.dT (kvs:=[]) zao rfl .nil)) trivial
end
end FL
end
section
namespace FL
end FL
end
section
namespace FL
open PySem PySem.Spec PyProof.Rows L2
def dO (K:W.Frag) (f:Addr):FuncData:=match K.lookup f with
 | some ⟨_,_,.func d,_⟩=>d
 | _=>default
theorem zm9 {K:W.Frag} {f:Addr} {oc:Value} {od:Option Addr} {d:FuncData} {sl:Array (Option Value)} (l:K.lookup f=some ⟨oc,od,.func d,sl⟩):dO K f=d:=by unfold dO; rw [l]
inductive Lk (K:W.Frag) (n:Str) (st:Stmt) (f:Addr):Prop
 | mk {oc kV dc pm cd ct:Value} {od an:Option Addr} {sl:Array (Option Value)} (a:W.nsIn K mainGlobals n=some (some (.ref f))) (l:K.lookup f=some ⟨oc,od,.func (W.fnOf n n (defArgs st) (defBody st) (defScope st) .none kV dc pm an cd ct),sl⟩)
   (c:W.codeIn K cd n=true) (k:W.keepIn K (.ref f)=true):Lk K n st f
structure Tx (K:W.Frag) (mg:Str->Option Value) (f:Addr) (n:Str) (st:Stmt) (ps:List Str):Prop where
 F:Fun K n n st f (dO K f)
 m:mg n=some (.ref f)
 k:W.keepIn K (.ref f)=true
 b:Binds K (dO K f) ps []
def Bd0 (n:Str) (st:Stmt) (ps:List Str):Prop:=∀ (kV doc pm:Value) (an:Option Addr) (cdv ct:Value) (us:List Value),us.length=ps.length->bindArgs (W.fnOf n n (defArgs st) (defBody st) (defScope st) .none kV doc pm an cdv ct) ⟨us,[]⟩=pure (ps.zip us)
section
variable {K:W.Frag} {mg:Str->Option Value} {f:Addr} {n:Str} {st:Stmt} {ps:List Str} {h:Heap}
theorem Lk.mm (t:Lk K n st f) (X:K.In h) (G:h.Ns mainGlobals mg):mg n=some (.ref f):=by
 obtain ⟨a,l,c,k⟩:=t
 exact W.mg_of X G a
theorem Lk.tx (t:Lk K n st f) (X:K.In h) (G:h.Ns mainGlobals mg) (b:Bd0 n st ps:=by intro _ _ _ _ _ _ us hl; first | (obtain ⟨_,rfl⟩:=vlen1 (l:=us) hl; rfl) | (obtain ⟨_,_,rfl⟩:=vlen2 (l:=us) hl; rfl) | (obtain ⟨_,_,_,rfl⟩:=vlen3 (l:=us) hl; rfl) | (obtain ⟨_,_,_,_,rfl⟩:=vlen4 (l:=us) hl; rfl) | (obtain ⟨_,_,_,_,_,rfl⟩:=vlen5 (l:=us) hl; rfl)):Tx K mg f n st ps:=by
 obtain ⟨a,l,c,k⟩:=t
 have e:=zm9 l
 have F:=znO l c k
 refine ⟨?_,W.mg_of X G a,k,?_⟩
 ·rw [e]; exact F
 ·rw [e]; exact F.binds b
theorem Lk.bt {x:Str} (t:Lk K n st f) (s:Shared) (v:Value) (b:Bd0 n st [x]:=by intro _ _ _ _ _ _ us hl; obtain ⟨_,rfl⟩:=vlen1 (l:=us) hl; rfl):BindsTo s (dO K f) ⟨[v],[]⟩ [(x,v)]:=by
 obtain ⟨a,l,c,k⟩:=t
 have e:=zm9 l
 rw [e]
 exact .of_eq (b _ _ _ _ _ _ [v] rfl)
end
section
variable {X:Cx} {ks:List Nat} {pos:Pos} {x:Str}
theorem fw (i:Nat) (hN:X.N[i]?=some x:=by rfl) (hv:Vis X.env.scope x:=by first | exact Or.inl rfl | exact Or.inr (Or.inl rfl) | exact Or.inr (Or.inr rfl)) (hd:(x == ("__debug__":Str))=false:=by decide)
  (hcd:(x == ("__classdict__":Str))=false:=by decide):FE X (.Name x pos) (wVar i):=zlR hN hv hd hcd
theorem gnm (i:Nat) (hnd:X.N.Nodup) (hk:i∉ks:=by decide) (hi:X.N[i]?=some x:=by rfl) (hx:Loc X.env.scope x:=by first | exact Or.inl rfl | exact Or.inr rfl) (hf:X.fn x=true\/X.env.scope.names.lookup x=some .local:=by exact Or.inl rfl):FG X ks (.Name x pos) (FL.gName i):=zhj hk (fun j hj=>zdJ hnd hj hi) hi hx hf
theorem gcm (i:Nat) (hk:i∉ks:=by decide) (hu:(X.N.zipIdx.all fun p=>!(p.1 == x) || p.2 == i)=true:=by kernel_rfl) (hi:X.N[i]?=some x:=by rfl) (hx:Loc X.env.scope x:=by first | exact Or.inl rfl | exact Or.inr rfl) (hf:X.fn x=true\/X.env.scope.names.lookup x=some .local:=by first | exact Or.inr rfl | exact Or.inl rfl):FG X ks (.Name x pos) (FL.gName i):=zhj hk (uq hu) hi hx hf
variable {k j n:Nat} {f:Addr} {ps:List Str} {st:Stmt} {wf:WF} {wa:WA} {e:Expr} {es:List Expr} {p:Pos}
theorem fcl (ms:List Bool) (t:Tx X.K X.mg f x st ps) (Fk:FnOk X.prog X.w X.K X.mg X.base CX0 k f (dO X.K f) ps (spW X.K wf n)) (hr:Room j X.A) (ha:FA X (e::es) wa) (hj:k<=j:=by decide) (hg:Gl X x:=by rfl) (hlen:∀ ss P PX,wf ss P PX->ss.length=n:=by exact fun _ _ _ h=>h.1)
  (hdb:(x == ("__debug__":Str))=false:=by decide) (he:starEach (e::es) X.env=(false,eval e X.env)::starEach es X.env:=by rfl) (hpl:(backTo pos (starEach es X.env)).any (·.1)=false:=by rfl):
  FE X (.Call (.Name x p) (e::es) [] pos) (wCall wf ms wa):=zkY Fk (hr.mono hj) hg t.m t.k t.b ha hlen hdb he hpl
end
end FL
end
section
namespace FL
end FL
end
section
namespace FL
open PySem PySem.Spec PyProof.Rows L2
section
open PySem.W HT
variable {prog:Program} {w:World} {A:Around} {s:Shared} {b:Bool} {Q:Bool->Shared->Prop}
end
end FL
end
section
namespace FL
def wML (f:List D->List D->Option S) (o:WE) (a:WA):WE:=fun ρ Q E=>o ρ (fun x ρ1=>match x with
 | .v (.sh (.lst l))=>a ρ1 (fun rs ρ2=>need (rs.mapM fun r=>viewC r ρ2) fun ds=>need (f l ds) fun s=>Q (.v s) ρ2) E
 | _=>False) E
def isScal:D->Bool
 | .non=>true
 | .bl _=>true
 | .int _=>true
 | .str _=>true
 | _=>false
open Classical in
def ixD (l:List D) (x:D):Option Nat:=if l.all (fun d=>isScal d && !clash d x) then l.findIdx? (fun d=>decide (d=x)) else none
def mIndexL (l:List D):List D->Option S
 | [x]=>(ixD l x).map fun (i:Nat)=>.sh (.int (i:Int))
 | _=>none
def bSortU:List D->Option S
 | [.tup l]=>if l.length < 64/\(intsD l).isSome then some (.lst ((sortD l).map .sh)) else none
 | _=>none
end FL
end
section
namespace FL
open PySem PySem.Spec PyProof.Rows L2
section
variable {prog:Program} {w:World} {A:Around} {E:Value->Shared->Prop} {s:Shared}
theorem zff {l:Addr} {vs:List Value} {Q:List Value->Shared->Prop} (hl:s.heap.IsTuple l vs.toArray)
  (h:Q vs { s with heap:=(s.heap.push (seqObj "list" #[] 0)).update s.heap.objs.size (Obj.mapSeq (·++vs.toArray)) }) (hsz:vs.length<=sizeLine):
  wpAny (model prog w) A (collect (.ref l)) Q E s:=by
 obtain ⟨o,ho,hc,n,hd⟩:=id hl
 unfold collect
 refine qa (wpAny_runValue (codeAny_builtin entry_proto_collect' ?_))
 show wpAny _ _ (do again (.builtin "list.__iadd__" ⟨[<- newList [],.ref l],[]⟩)) _ _ s
 refine qa (wpAny_newList (qb ⟨Code.quiet_builtin _ (by decide +kernel),codeAny_builtin entry_list_iadd' ?_⟩))
 show wpAny _ _ (Builtin.List.listExtendWith (.ref s.heap.objs.size) (.ref l) (.ref s.heap.objs.size)) _ _ { s with heap:=s.heap.push (seqObj "list" #[] 0) }
 unfold Builtin.List.listExtendWith
 have ho':(s.heap.push (seqObj "list" #[] 0)).get? l=some o:=qc _ ho
 refine qa (wpAny_typeOf (T:="tuple") ⟨o,ho',hc⟩ ?_)
 have ht:(Value.type "tuple" == Value.type "tuple")=true:=by rfl
 rw [if_pos (by rw [ht]; simp)]
 refine qa (listItems_at ho' hd ?_)
 refine qa (listItems_at (xs:=#[]) (n:=0) (qd _ rfl) rfl ?_)
 rw [if_neg (by simp)]
 refine qa (listUpdate_at (xs:=#[]) (n:=0) (qd _ rfl) rfl ?_ (zero_le _) (by show (#[]++vs.toArray).size<=sizeLine + 1; simp only [Array.size_append,size_toArray,length_nil]; lia))
 refine qb ?_
 show wpAny (model prog w) A (do
   let o <- load s.heap.objs.size
   match o.data with
   | .seq xs _=>pure xs.toList
   | _=>unsupported "internal:collect") Q E { s with heap:=(s.heap.push (seqObj "list" #[] 0)).update s.heap.objs.size (Obj.mapSeq (·++vs.toArray)) }
 refine qa (wpAny_load (get?_update_seq (qd _ rfl) _) ?_)
 show wpAny _ _ (pure ((#[]:Array Value)++vs.toArray).toList) Q E _
 rw [show ((#[]:Array Value)++vs.toArray).toList=vs by simp]
 exact qb h
theorem zgL {l:Addr} {vs:List Value} {ns:List Int} {Q:Value->Shared->Prop} (hl:s.heap.IsTuple l vs.toArray) (hI:IntsAre vs ns) (h64:vs.length < 64)
  (h:∀ (out:Array Value) (ns':List Int),IntsAre out.toList ns'->ns'.Perm ns->ns'.Pairwise (·<=·)->Q (.ref (s.heap.objs.size + 1)) { s with heap:=sortedAll s.heap vs out }):
  wpAny (model prog w) A (call (.builtin "sorted") [.ref l]) Q E s:=by
 have hsl:vs.length<=sizeLine:=by rw [sizeLine_eq]; lia
 refine Calls.call_function_entry kind_sorted plain_sorted entry_sorted (args_sorted1 _) (?_:wpAny _ _ _ _ _ _)
 unfold Builtin.«sorted»
 refine qa (m:=checkCount "sorted" 1 1 _) (qb (qa (zff hl ?_ hsl)))
 refine qa (wpAny_newList ?_)
 have hsz:((s.heap.push (seqObj "list" #[] 0)).update s.heap.objs.size (Obj.mapSeq (·++vs.toArray))).objs.size=s.heap.objs.size + 1:=by
  rw [Heap.size_update,size_push']
 have hoL:(((s.heap.push (seqObj "list" #[] 0)).update s.heap.objs.size (Obj.mapSeq (·++vs.toArray))).push (seqObj "list" vs.toArray 0)).get? (s.heap.objs.size + 1)=some (seqObj "list" vs.toArray 0):=by
  rw [<- hsz]; exact qd _ rfl
 show wpAny _ _ _ _ _ (Shared.mk (((s.heap.push (seqObj "list" #[] 0)).update s.heap.objs.size (Obj.mapSeq (·++vs.toArray))).push (seqObj "list" vs.toArray 0)) s.gens s.drawn s.toks s.os)
 rw [hsz]
 refine qa (wpAny_holding (wpAny_call_entry slot_list_sort ⟨_,hoL,rfl⟩ entry_list_sort (list_sort_tree hoL hI h64 fun out ns' a1 a2 a3=>⟨_,rfl,?_⟩) (args_list_sort _)))
 exact qb ⟨_,rfl,h out ns' a1 a2 a3⟩
end
section
variable {X:Cx} {K:W.Frag} {p pos:Pos} {e:Expr} {es:List Expr} {wa:WA}
def rSortU (K:W.Frag):List V->Hp->VK->Prop:=fun xs H Q=>∃ a,∃ ns:List Int,xs=[.ref a]/\ns.length < 64/\SqT K H a (ns.map V.int)/\∀ ns':List Int,ns'.Perm ns->ns'.Pairwise (·<=·)->∀ q,H q=none->Q (.ref q) (upd H q (.lst (ns'.map V.int)))
theorem zgo:CallR X (.builtin "sorted") (rSortU X.K):=by
 intro pins s σ H xs us Q I r h
 obtain ⟨a,ns,rfl,h64,hq,q⟩:=h
 cases r with
 | cons r1 r2=>
   cases r2
   cases r1
   obtain ⟨its,r,pl,_⟩:=I.tuple hq
   have hlen:its.length=ns.length:=by have:=r.length; rw [length_map] at this; exact this.symm
   refine zgL (show s.heap.IsTuple a its.toArray from pl) (zaY r) (by rw [hlen]; exact h64) fun out ns' a1 a2 a3=>?_
   obtain ⟨e,he⟩:=sortedAll_at s.heap its out
   have hz:ns'.length<=sizeLine:=by rw [a2.length_eq,sizeLine_eq]; lia
   refine ⟨.ref (s.heap.objs.size + 1),_,I.laid (t':=s.toks) (o:=.lst (ns'.map V.int)) (fun b ob w=>sortedAll_old w) (le_succ _) ?_,rfl,q ns' a2 a3 _ (I.hok.fresh (le_succ _))⟩
   exact ⟨by rw [length_map]; exact hz,out.toList,e,zaW a1,by rw [toArray_toList]; exact he⟩
theorem zgm:DoesB K (rSortU K) bSortU:=by
 intro σ ρ F G H vs ds s Q rel re e hq
 obtain ⟨d,v,rfl,rfl⟩:=arg1 (fun x y r=>by cases x <;> rfl) rfl re e
 cases d with
 | tup l=>
   have e:(if l.length < 64/\(intsD l).isSome then some (S.lst ((sortD l).map .sh)) else none)=some s:=e
   split at e
   ·rename_i hc
    cases e
    obtain ⟨a,xs,rfl,h1,r1⟩:=re.1.tup
    obtain ⟨h64,hi⟩:=hc
    obtain ⟨ns,q1⟩:=isSome_iff_exists.mp hi
    obtain ⟨e1,e2⟩:=zdw r1 q1
    subst e1 e2
    refine ⟨a,ns,rfl,by rwa [length_map] at h64,.of (rel.fr _ _ h1),fun ns' p pw q hn=>?_⟩
    rw [za2 zdL (m:=ns'.map D.int) (fun d hd=>by obtain ⟨z,_,rfl⟩:=mem_map.mp hd; trivial) (p.map _) (pairwise_map.mpr (pw.imp fun {a b} h=>by rw [zci]; exact decide_eq_true h))] at hq
    exact hq _ F _ (Same.refl F) (rel.newLD hn (zbc ns'))
   ·cases e
 | _=>cases e
theorem zjB (hg:Gl X "sorted") (hm:X.mg "sorted"=none) (hv:bootBuiltins "sorted"=some (.builtin "sorted")) (ha:FA X (e::es) wa) (he:starEach (e::es) X.env=(false,eval e X.env)::starEach es X.env:=by rfl) (hpl:(backTo pos (starEach es X.env)).any (·.1)=false:=by rfl):FE X (.Call (.Name "sorted" p) (e::es) [] pos) (wB bSortU wa):=
 zbp (fun pn xe=>zgo (X:=wp X pn xe)) zgm hg hm hv ha (by decide) (by decide) he hpl
end
section
variable {X:Cx} {K:W.Frag}
def rIndexL (K:W.Frag):V->List V->Hp->VK->Prop:=fun x vs H Q=>∃ a xs ds y d j,x=.ref a/\vs=[y]/\SqL K H a xs/\Reps K H xs ds/\Rep K H y d/\ixD ds d=some j/\Q (.int j) H
theorem zhL {F:Hp}:∀ {xs:List V} {l:List D},Reps K F xs l->∀ {j:Nat} {v:V},xs[j]?=some v->∃ d,l[j]?=some d/\Rep K F v d
 | _,_,.nil,j,v,h=>by simp at h
 | _,_,.cons a b,0,v,h=>by cases h; exact ⟨_,rfl,a⟩
 | _,_,.cons a b,j + 1,v,h=>zhL b (j:=j) (by simpa using h)
theorem zg4:∀ {xs:List V} {us:List Value},Vals xs us->∀ {j:Nat} {u:Value},us[j]?=some u->∃ v,xs[j]?=some v/\RelV v u
 | _,_,.nil,j,u,h=>by simp at h
 | _,_,.cons a b,0,u,h=>by cases h; exact ⟨_,rfl,a⟩
 | _,_,.cons a b,j + 1,u,h=>zg4 b (j:=j) (by simpa using h)
def dOf:Value->Option D
 | .none=>some .non
 | .bool b=>some (.bl b)
 | .int i _=>some (.int i)
 | .str x _=>some (.str x.cps.toList)
 | _=>none
theorem zkG {H:Hp} {v:V} {u:Value} {d:D} (r:Rep K H v d) (ru:RelV v u) (h:isScal d=true):dOf u=some d:=by
 cases r with
 | non=>cases ru; rfl
 | bl b=>cases ru; rfl
 | int i=>obtain ⟨t,rfl⟩:=ru; rfl
 | str e _=>obtain ⟨t,rfl⟩:=ru; rw [<- e]; rfl
 | _=>cases h
open Classical in
theorem zh7:MtM X "list.index" (rIndexL X.K):=by
 intro pins s σ H x vs v us Q I rx rv h
 obtain ⟨a,xs,ds,y,d,j,rfl,rfl,hq,rd,ry,hj,q⟩:=h
 cases rx
 obtain ⟨u,rfl,ru⟩:=rv.one
 obtain ⟨its,r,pl,hz⟩:=I.list hq
 unfold ixD at hj
 split at hj
 ·rename_i hall
  rw [all_eq_true] at hall
  obtain ⟨⟨cls,dd,data,sl⟩,ho,hc,n,hd⟩:=id pl.isList
  simp only at hc hd
  subst hc hd
  have hle:=r.length
  have hle2:=rd.len
  -- each thing of the list against u
  have eqs:∀ (k:Nat) (w':Value),its[k]?=some w'->∃ dk,ds[k]?=some dk/\dOf w'=some dk/\∀ {A:Around},PySem.SeqAt.EqAt A s w' u (decide (dk=d)):=fun k w' hk=>by
   obtain ⟨vk,h1,h2⟩:=zg4 r hk
   obtain ⟨dk,h3,h4⟩:=zhL rd h1
   have:=hall dk (mem_of_getElem? h3)
   rw [and_eq_true,Bool.not_eq_true'] at this
   exact ⟨dk,h3,zkG h4 h2 this.1,(ze8 h4 ry h2 ru this.2 (fun l e=>by rw [e] at this; cases this.1) (fun l e=>by rw [e] at this; cases this.1)).1⟩
  obtain ⟨hj1,hj2,hj3⟩:=List.findIdx?_eq_some_iff_getElem.mp hj
  have at':∀ m (hm:m < its.toArray.size) (hm2:m < ds.length),decide (dOf its.toArray[m]=some d)=decide (ds[m]=d):=fun m hm hm2=>by
   obtain ⟨dk,h1,h2,_⟩:=eqs m its.toArray[m] (by rw [getElem?_eq_getElem (by simpa using hm)]; simp)
   rw [getElem?_eq_getElem hm2] at h1
   rw [h2,<- qh h1]
   simp
  have hjs:j < its.toArray.size:=by rw [size_toArray]; lia
  rw [sizeLine_eq] at hz
  refine call_meets PySem.F.slot_list_index ⟨_,ho,rfl⟩ PySem.F.entry_list_index (PySem.F.args_list_index_2 _ _)
   (PySem.SeqAt.list_indexAt a its.toArray n dd sl u (fun w'=>decide (dOf w'=some d)) j hjs (by lia) ?_ ?_) ⟨ho,fun w' hw=>?_,?_⟩
  ·exact (at' j hjs hj1).trans hj2
  ·intro m hm hlt
   refine (at' m hm (by lia)).trans ?_
   have:=hj3 m hlt
   simpa using this
  ·obtain ⟨k,hk,e⟩:=Array.mem_iff_getElem.mp hw
   obtain ⟨dk,h1,h2,h3⟩:=eqs k w' (by rw [getElem?_eq_getElem (by simpa using hk),<- e]; simp)
   rw [h2]
   have:decide (some dk=some d)=decide (dk=d):=by simp
   rw [this]
   exact h3
  ·exact ⟨.int _,H,I.kept fun _ _ z=>z,⟨_,rfl⟩,q⟩
 ·cases hj
end
section
variable {X:Cx} {e:Expr} {wo:WE} {wa:WA} {o:Expr} {apos cpos:Pos}
theorem zhX (ho:FE X o wo) (ha:FA X [e] wa)
  (hbase:attributeBase o "index" X.env (eval o X.env)=eval o X.env:=by rfl)
  (hfew:((backTo cpos (starEach [e] X.env)).all (fun x=>!x.1) && (backToKw cpos (keywordEach [] X.env)).all (fun x=>x.1.isSome)
   && decide ([e].length + ([]:List Keyword).length + (if ([]:List Keyword).isEmpty then 0 else 1) < 30))=true:=by rfl)
  (hline:(apos.endLine == cpos.line)=true:=by rfl) (hs:starEach [e] X.env=(false,eval e X.env)::starEach [] X.env:=by rfl) (hplain:(backTo cpos (starEach [] X.env)).any (·.1)=false:=by rfl):
  FE X (.Call (.Attribute o "index" apos) [e] [] cpos) (wML mIndexL wo wa):=fun pn xe hp=>by
 refine PE.imp (zgY (X:=wp X pn xe) PySem.F.plainAttrs_list PySem.F.slot_list_index PySem.F.type_list_index zh7 (ho pn xe hp) (ha pn xe hp) hbase hfew hline hs hplain) fun σ H Q q=>?_
 refine (one (k:=fun x ρ1 Q E=>match x with
  | .v (.sh (.lst l))=>wa ρ1 (fun rs ρ2=>need (rs.mapM fun r=>viewC r ρ2) fun ds=>need (mIndexL l ds) fun s=>Q (.v s) ρ2) E
  | _=>False) q).mono fun v H1 h1=>?_
 obtain ⟨F,G,ρ,x,P,PX,rel,hl,rx,hk,hok,hx⟩:=h1
 split at hk
 ·rename_i l
  have rp:Rep X.K F v (.lst l):=by
   obtain ⟨u,fp,e1,q⟩:=rel.at (i:=ρ.length) (s:=.sh (.lst l)) zaC
   rw [hl,getElem?_append_right (le_refl _),sub_self] at e1
   have e2:v=u:=by simpa using e1
   subst e2
   cases q with
   | sh r=>exact r
  cases rp with
  | lst hq rd=>
    rename_i a xs
    refine ⟨.inl ⟨rfl,xs,SqL.mono rel.fr hq⟩,F,G,ρ,_,PX,rel.drop hl,hk,fun rs ρ2 vs F2 H2 hk2 s2 r2 hl2 rvs=>?_,hx⟩
    obtain ⟨ds,ed,hk2⟩:=zaf hk2
    obtain ⟨s,es,hk2⟩:=zaf hk2
    obtain ⟨F3,s3,re,r3⟩:=takeAll (ρ':=[]) (σ':=[]) (by simpa using r2) hl2 rvs ed
    obtain ⟨d,v,rfl,rfl⟩:=arg1 (fun x y r=>by cases x <;> rfl) rfl re es
    have es:(ixD l d).map (fun (i:Nat)=>S.sh (.int (i:Int)))=some s:=es
    obtain ⟨i,ei,rfl⟩:=map_eq_some_iff.mp es
    have r3:Rel X.K ρ2 σ F3 G H2:=by simpa using r3
    have sm:Same F H2:=(s2.trans s3).trans r3.fr
    exact ⟨a,xs,l,v,d,i,rfl,rfl,SqL.mono sm hq,rd.mono sm,re.1.view r3.fr,ei,hok _ ρ2 _ F3 H2 hk2 (s2.trans s3) (r3.push (.int _)) trivial⟩
 ·exact hk.elim
end
end FL
end
section
namespace FL
section
variable {ρ ρ1 ρ2:Env} {Q:WQ} {QT:Bool->Env->Prop} {QA:List R->Env->Prop} {QI:List D->Env->Prop} {QE:Env->Prop} {E:WX} {a b c:WE} {t u:WT} {wa:WA} {r x y:R} {rs:List R} {s:S} {ss:List S} {d p q:D} {i j n m k:Nat} {o:D->D->Option S} {oc oc':D->D->Option Bool}
theorem e_C:wC d ρ Q E=Q (.v (.sh d)) ρ:=rfl
def kV (o:Option S) (Q:WQ) (ρ:Env):Prop:=need o fun s=>Q (.v s) ρ
theorem e_V:kV (some s) Q ρ=Q (.v s) ρ:=rfl
def kBin3 (o:D->D->Option S) (x y:Option D) (Q:WQ) (ρ:Env):Prop:=need x fun p=>need y fun q=>kV (o p q) Q ρ
def kBin2 (o:D->D->Option S) (x:R) (Q:WQ):WQ:=fun y ρ2=>kBin3 o (viewC x ρ2) (viewC y ρ2) Q ρ2
def kBin1 (o:D->D->Option S) (b:WE) (Q:WQ) (E:WX):WQ:=fun x ρ1=>b ρ1 (kBin2 o x Q) E
theorem zqs:wBin o a b ρ Q E=a ρ (kBin1 o b Q E) E:=rfl
theorem zmk:kBin1 o b Q E x ρ=b ρ (kBin2 o x Q) E:=rfl
def kUn2 (o:D->Option S) (x:Option D) (Q:WQ) (ρ:Env):Prop:=need x fun p=>kV (o p) Q ρ
def kUn (o:D->Option S) (Q:WQ):WQ:=fun x ρ=>kUn2 o (viewC x ρ) Q ρ
theorem e_Un {o:D->Option S}:wUn o a ρ Q E=a ρ (kUn o Q) E:=rfl
theorem zpb {o:D->Option S}:kUn o Q x ρ=kUn2 o (viewC x ρ) Q ρ:=rfl
theorem zpv {o:D->Option S}:kUn2 o (some p) Q ρ=kV (o p) Q ρ:=rfl
def kC (o:Option Bool) (Q:Bool->Env->Prop) (ρ:Env):Prop:=need o fun c=>Q c ρ
theorem e_Ck {c:Bool}:kC (some c) QT ρ=QT c ρ:=rfl
def kCmp3 (o:D->D->Option Bool) (x y:Option D) (Q:Bool->Env->Prop) (ρ:Env):Prop:=need x fun p=>need y fun q=>kC (o p q) Q ρ
def kCmp2 (o:D->D->Option Bool) (x:R) (Q:Bool->Env->Prop):WQ:=fun y ρ2=>kCmp3 o (view x ρ2) (view y ρ2) Q ρ2
def kCmp1 (o:D->D->Option Bool) (b:WE) (Q:Bool->Env->Prop) (E:WX):WQ:=fun x ρ1=>b ρ1 (kCmp2 o x Q) E
theorem zqd:wCmp oc a b ρ QT E=a ρ (kCmp1 oc b QT E) E:=rfl
theorem zn6:kCmp1 oc b QT E x ρ=b ρ (kCmp2 oc x QT) E:=rfl
theorem zl5:kCmp3 oc (some p) (some q) QT ρ=kC (oc p q) QT ρ:=rfl
def kCh5 (o':D->D->Option Bool) (y:R) (Q:Bool->Env->Prop):WQ:=fun z ρ3=>kCmp3 o' (view y ρ3) (view z ρ3) Q ρ3
def kCh4 (o':D->D->Option Bool) (y:R) (c:WE) (Q:Bool->Env->Prop) (E:WX):Bool->Env->Prop:=fun k ρ2=>if k then c ρ2 (kCh5 o' y Q) E else Q false ρ2
def kCh2 (o o':D->D->Option Bool) (x:R) (c:WE) (Q:Bool->Env->Prop) (E:WX):WQ:=fun y ρ2=>kCmp3 o (view x ρ2) (view y ρ2) (kCh4 o' y c Q E) ρ2
def kCh1 (o o':D->D->Option Bool) (b c:WE) (Q:Bool->Env->Prop) (E:WX):WQ:=fun x ρ1=>b ρ1 (kCh2 o o' x c Q E) E
theorem e_Ch:wChain oc oc' a b c ρ QT E=a ρ (kCh1 oc oc' b c QT E) E:=rfl
theorem zpg:kCh1 oc oc' b c QT E x ρ=b ρ (kCh2 oc oc' x c QT E) E:=rfl
theorem zrg:kCh2 oc oc' x c QT E y ρ=kCmp3 oc (view x ρ) (view y ρ) (kCh4 oc' y c QT E) ρ:=rfl
theorem zm1:kCh4 oc' y c QT E true ρ=c ρ (kCh5 oc' y QT) E:=rfl
theorem zmS:kCh4 oc' y c QT E false ρ=QT false ρ:=rfl
theorem zp0:kCh5 oc' y QT x ρ=kCmp3 oc' (view y ρ) (view x ρ) QT ρ:=rfl
def kTest2 (x:Option D) (Q:Bool->Env->Prop) (ρ:Env):Prop:=need x fun p=>kC (truth p) Q ρ
def kTest (Q:Bool->Env->Prop):WQ:=fun x ρ=>kTest2 (view x ρ) Q ρ
theorem zmM:wTest a ρ QT E=a ρ (kTest QT) E:=rfl
theorem zkA:kTest QT x ρ=kTest2 (view x ρ) QT ρ:=rfl
theorem zks:kTest2 (some p) QT ρ=kC (truth p) QT ρ:=rfl
def kAnd (b:WT) (Q:Bool->Env->Prop) (E:WX):Bool->Env->Prop:=fun c ρ1=>if c then b ρ1 Q E else Q false ρ1
theorem zqU:wtAnd t u ρ QT E=t ρ (kAnd u QT E) E:=rfl
theorem zmU:kAnd u QT E true ρ=u ρ QT E:=rfl
theorem zmH:kAnd u QT E false ρ=QT false ρ:=rfl
def kOr (b:WT) (Q:Bool->Env->Prop) (E:WX):Bool->Env->Prop:=fun c ρ1=>if c then Q true ρ1 else b ρ1 Q E
theorem e_Or:wtOr t u ρ QT E=t ρ (kOr u QT E) E:=rfl
theorem zql:kOr u QT E true ρ=QT true ρ:=rfl
theorem zpQ:kOr u QT E false ρ=u ρ QT E:=rfl
def kNot (Q:Bool->Env->Prop):Bool->Env->Prop:=fun c ρ1=>Q (!c) ρ1
theorem zo2:wtNot t ρ QT E=t ρ (kNot QT) E:=rfl
theorem znA {c:Bool}:kNot QT c ρ=QT (!c) ρ:=rfl
def kOfT (Q:WQ):Bool->Env->Prop:=fun c ρ1=>Q (.v (.sh (.bl c))) ρ1
theorem zpU:wOfT t ρ Q E=t ρ (kOfT Q) E:=rfl
theorem znb {c:Bool}:kOfT Q c ρ=Q (.v (.sh (.bl c))) ρ:=rfl
def kAndV2 (x:Option D) (b:WE) (Q:WQ) (E:WX) (ρ:Env):Prop:=match x with | some (.bl c)=>if c then b ρ Q E else Q (.v (.sh (.bl false))) ρ | _=>False
def kAndV (b:WE) (Q:WQ) (E:WX):WQ:=fun x ρ=>kAndV2 (view x ρ) b Q E ρ
theorem zmp:wAndV a b ρ Q E=a ρ (kAndV b Q E) E:=rfl
theorem zkD:kAndV b Q E x ρ=kAndV2 (view x ρ) b Q E ρ:=rfl
theorem zkV:kAndV2 (some (.bl true)) b Q E ρ=b ρ Q E:=rfl
theorem zo6:wNil ρ QA E=QA [] ρ:=rfl
def kCons2 (r:R) (Q:List R->Env->Prop):List R->Env->Prop:=fun rs ρ=>Q (r::rs) ρ
def kCons1 (b:WA) (Q:List R->Env->Prop) (E:WX):WQ:=fun r ρ1=>b ρ1 (kCons2 r Q) E
theorem znM:wCons a wa ρ QA E=a ρ (kCons1 wa QA E) E:=rfl
theorem zk2:kCons1 wa QA E r ρ=wa ρ (kCons2 r QA) E:=rfl
theorem zk7:kCons2 r QA rs ρ=QA (r::rs) ρ:=rfl
def gA2 (s:S):Option (List S×Env)->Option (List S×Env)
 | some (ss,ρ)=>some (s::ss,ρ)
 | none=>none
def gA1 (rs:List R):Option (S×Env)->Option (List S×Env)
 | some (s,ρ)=>gA2 s (giveAll rs ρ)
 | none=>none
theorem zqL:giveAll [] ρ=some ([],ρ):=rfl
theorem e_gA:giveAll (r::rs) ρ=gA1 rs (give r ρ):=by
 rw [giveAll]; unfold gA1
 cases give r ρ with
 | none=>rfl
 | some z=>obtain ⟨s,ρ1⟩:=z; show (match giveAll rs ρ1 with | some (ss,ρ2)=>some (s::ss,ρ2) | none=>none)=gA2 s (giveAll rs ρ1); unfold gA2; rfl
theorem zre:gA1 rs (some (s,ρ))=gA2 s (giveAll rs ρ):=rfl
theorem zo0:gA2 s (some (ss,ρ))=some (s::ss,ρ):=rfl
def gv (i:Nat) (ρ:Env):Option S->Option (S×Env)
 | some s=>some (.sh s.toD,ρ.set i (some (.sh s.toD)))
 | none=>none
theorem e_gv:give (.v s) ρ=some (s,ρ):=rfl
theorem e_gl:give (.loc i) ρ=gv i ρ (slot ρ i):=by unfold give gv; rfl
theorem zrh:gv i ρ (some s)=some (.sh s.toD,ρ.set i (some (.sh s.toD))):=rfl
def kTup2 (l:Bool) (x:Option (List S×Env)) (Q:WQ):Prop:=need (if l then x else none) fun p=>Q (.v (.sh (.tup (p.1.map S.toD)))) p.2
def kLst2 (l:Bool) (x:Option (List S×Env)) (Q:WQ):Prop:=need (if l then x else none) fun p=>Q (.v (.lst p.1)) p.2
def lenOk (rs:List R):Bool:=decide (rs.length<=big)
def kTup (Q:WQ):List R->Env->Prop:=fun rs ρ=>kTup2 (lenOk rs) (giveAll rs ρ) Q
def kLst (Q:WQ):List R->Env->Prop:=fun rs ρ=>kLst2 (lenOk rs) (giveAll rs ρ) Q
theorem zqu:wTup wa ρ Q E=wa ρ (kTup Q) E:=by unfold wTup kTup kTup2 lenOk; simp
theorem zmq:kTup Q rs ρ=kTup2 (lenOk rs) (giveAll rs ρ) Q:=rfl
theorem zmW:kTup2 true (some (ss,ρ)) Q=Q (.v (.sh (.tup (ss.map S.toD)))) ρ:=rfl
theorem zoU:wLst wa ρ Q E=wa ρ (kLst Q) E:=by unfold wLst kLst kLst2 lenOk; simp
theorem zno:kLst Q rs ρ=kLst2 (lenOk rs) (giveAll rs ρ) Q:=rfl
theorem znN:kLst2 true (some (ss,ρ)) Q=Q (.v (.lst ss)) ρ:=rfl
theorem e_l0:lenOk []=true:=rfl
theorem e_l1 {r1:R}:lenOk [r1]=true:=rfl
theorem e_l2 {r1 r2:R}:lenOk [r1,r2]=true:=rfl
theorem e_l3 {r1 r2 r3:R}:lenOk [r1,r2,r3]=true:=rfl
theorem e_l4 {r1 r2 r3 r4:R}:lenOk [r1,r2,r3,r4]=true:=rfl
theorem e_l5 {r1 r2 r3 r4 r5:R}:lenOk [r1,r2,r3,r4,r5]=true:=rfl
theorem e_vv:view (.v s) ρ=some s.toD:=rfl
theorem e_vl:view (.loc i) ρ=(slot ρ i).map S.toD:=rfl
theorem e_cv:viewC (.v s) ρ=some s.toD:=rfl
def vC:Option S->Option D
 | some s=>if s.flat then some s.toD else none
 | none=>none
theorem e_cl:viewC (.loc i) ρ=vC (slot ρ i):=by unfold viewC vC; rfl
theorem znD {l:List S} (h:l.all S.isSh=true):vC (some (.lst l))=some (.lst (l.map S.toD)):=by
 show (if l.all S.isSh=true then some (S.toD (.lst l)) else none)=_
 rw [if_pos h,S.toD_lst]
theorem e_sh {l:List D}:(l.map S.sh).all S.isSh=true:=by simp [S.isSh]
theorem zaA {l:List D}:(l.map S.sh).map S.toD=l:=by
 rw [map_map]; exact map_id l
theorem zqt {l:List D}:vC (some (.lst (l.map S.sh)))=some (.lst l):=by rw [znD e_sh,zaA]
def kIx5 (o:Option S) (Q:WQ) (ρ:Env):Prop:=match o with | some (.sh d)=>Q (.v (.sh d)) ρ | _=>False
def kIx4 (o:Option S) (q:D) (Q:WQ) (ρ:Env):Prop:=match o with | some s=>kIx5 (ixS s q) Q ρ | none=>False
def kIx3 (x:R) (o:Option D) (Q:WQ) (ρ:Env):Prop:=need o fun q=>match x with | .v s=>kV (ixS s q) Q ρ | .loc i=>kIx4 (slot ρ i) q Q ρ
def kIx2 (x:R) (Q:WQ):WQ:=fun y ρ2=>kIx3 x (view y ρ2) Q ρ2
def kIx1 (b:WE) (Q:WQ) (E:WX):WQ:=fun x ρ1=>b ρ1 (kIx2 x Q) E
theorem e_Ix:wIx a b ρ Q E=a ρ (kIx1 b Q E) E:=by
 unfold wIx kIx1 kIx2 kIx3 kIx4 kIx5 kV
 rfl
theorem zqB:kIx1 b Q E x ρ=b ρ (kIx2 x Q) E:=rfl
theorem zp5:kIx2 x Q y ρ=kIx3 x (view y ρ) Q ρ:=rfl
theorem zn8:kIx3 (.v s) (some q) Q ρ=kV (ixS s q) Q ρ:=rfl
theorem zlP:kIx3 (.loc i) (some q) Q ρ=kIx4 (slot ρ i) q Q ρ:=rfl
theorem zoY:kIx4 (some s) q Q ρ=kIx5 (ixS s q) Q ρ:=rfl
theorem zo9:kIx5 (some (.sh d)) Q ρ=Q (.v (.sh d)) ρ:=rfl
theorem zo3 {l:List D} {z:Int}:ixS (.sh (.tup l)) (.int z)=(atI l z).map S.sh:=rfl
theorem zoE {l:List D} {z:Int}:ixS (.sh (.lst l)) (.int z)=(atI l z).map S.sh:=rfl
theorem zqN {l:List Nat} {z:Int}:ixS (.sh (.str l)) (.int z)=(atI l z).map fun c=>S.sh (.str [c]):=rfl
theorem zq1 {l:List S} {z:Int}:ixS (.lst l) (.int z)=atI l z:=rfl
theorem zbr {α:Type} {l:List α} {z:Int} {v:α} (h0:0<=z) (h:l[z.toNat]?=some v):atI l z=some v:=by
 have:z.toNat < l.length:=(qi.mp h).1
 unfold atI ixN
 rw [if_pos h0,if_pos (by lia)]
 exact h
theorem zqI {α:Type} {v:α} {l:List α}:atI (v::l) 0=some v:=zbr (by decide) rfl
theorem zpw {α:Type} {v1 v:α} {l:List α}:atI (v1::v::l) 1=some v:=zbr (by decide) rfl
theorem zpj {α:Type} {v1 v2 v:α} {l:List α}:atI (v1::v2::v::l) 2=some v:=zbr (by decide) rfl
theorem zq9 {α:Type} {v1 v2 v3 v:α} {l:List α}:atI (v1::v2::v3::v::l) 3=some v:=zbr (by decide) rfl
theorem zpd {α:Type} {v1 v2 v3 v4 v:α} {l:List α}:atI (v1::v2::v3::v4::v::l) 4=some v:=zbr (by decide) rfl
def pA (s:S):Option (List S×Env)->Option (List S×Env)
 | some (ss,ρ)=>some (s::ss,ρ)
 | none=>none
theorem e_p0 {ms:List Bool}:prep ms [] ρ=some ([],ρ):=by cases ms <;> rfl
theorem e_pv {h:Bool} {ms:List Bool}:prep (h::ms) (.v s::rs) ρ=pA s (prep ms rs ρ):=by rw [prep]; unfold pA; rfl
def pL (i:Nat) (o:Option S) (ms:List Bool) (rs:List R) (ρ:Env):Option (List S×Env):=match o with
 | some s=>pA s (prep ms rs (ρ.set i none))
 | none=>none
theorem e_pl {ms:List Bool}:prep (true::ms) (.loc i::rs) ρ=pL i (slot ρ i) ms rs ρ:=by
 rw [prep]; unfold pL pA
 cases slot ρ i <;> rfl
theorem zqX {ms:List Bool}:pL i (some s) ms rs ρ=pA s (prep ms rs (ρ.set i none)):=rfl
theorem e_pA:pA s (some (ss,ρ))=some (s::ss,ρ):=rfl
theorem e_b0 {ms:List Bool}:back ms [] ss ρ=ρ:=by unfold back; cases ss <;> rfl
theorem e_bv {h:Bool} {ms:List Bool} {s t:S}:back (h::ms) (.v s::rs) (t::ss) ρ=back ms rs ss ρ:=by rw [back]; rfl
theorem e_bl {ms:List Bool} {t:S}:back (true::ms) (.loc i::rs) (t::ss) ρ=back ms rs ss (ρ.set i (some t)):=by rw [back]; rfl
def kCret (ms:List Bool) (rs:List R) (ρ:Env) (Q:WQ):S->List S->Prop:=fun s ss=>Q (.v s) (back ms rs ss ρ)
def kCex (ms:List Bool) (rs:List R) (ρ:Env) (E:WX):D->List S->Prop:=fun x ss=>E x (back ms rs ss ρ)
def kCall2 (f:WF) (ms:List Bool) (rs:List R) (o:Option (List S×Env)) (Q:WQ) (E:WX):Prop:=need o fun p=>f p.1 (kCret ms rs p.2 Q) (kCex ms rs p.2 E)
def kCall (f:WF) (ms:List Bool) (Q:WQ) (E:WX):List R->Env->Prop:=fun rs ρ=>kCall2 f ms rs (prep ms rs ρ) Q E
theorem zn7 {f:WF} {ms:List Bool}:wCall f ms wa ρ Q E=wa ρ (kCall f ms Q E) E:=rfl
theorem zls {f:WF} {ms:List Bool}:kCall f ms Q E rs ρ=kCall2 f ms rs (prep ms rs ρ) Q E:=rfl
theorem zkE {f:WF} {ms:List Bool}:kCall2 f ms rs (some (ss,ρ)) Q E=f ss (kCret ms rs ρ Q) (kCex ms rs ρ E):=rfl
theorem zmu {ms:List Bool}:kCret ms rs ρ Q s ss=Q (.v s) (back ms rs ss ρ):=rfl
def vA:Option D->Option (List D)->Option (List D)
 | some d,some ds=>some (d::ds)
 | _,_=>none
def vAll (rs:List R) (ρ:Env):Option (List D):=match rs with
 | []=>some []
 | r::rs=>vA (viewC r ρ) (vAll rs ρ)
theorem zdy:∀ rs:List R,(rs.mapM fun r=>viewC r ρ)=vAll rs ρ
 | []=>rfl
 | r::rs=>by
   rw [List.mapM_cons,zdy rs,vAll]
   cases viewC r ρ with
   | none=>rfl
   | some d=>cases vAll rs ρ <;> rfl
theorem zoq:vAll [] ρ=some []:=rfl
theorem e_vA:vAll (r::rs) ρ=vA (viewC r ρ) (vAll rs ρ):=rfl
theorem zpW {ds:List D}:vA (some d) (some ds)=some (d::ds):=rfl
def kB2 (f:List D->Option S) (o:Option (List D)) (Q:WQ) (ρ:Env):Prop:=need o fun ds=>kV (f ds) Q ρ
def kB (f:List D->Option S) (Q:WQ):List R->Env->Prop:=fun rs ρ=>kB2 f (vAll rs ρ) Q ρ
theorem e_B {f:List D->Option S}:wB f wa ρ Q E=wa ρ (kB f Q) E:=by
 unfold wB kB kB2 kV
 simp only [zdy]
theorem e_B1 {f:List D->Option S}:kB f Q rs ρ=kB2 f (vAll rs ρ) Q ρ:=rfl
theorem e_B2 {f:List D->Option S} {ds:List D}:kB2 f (some ds) Q ρ=kV (f ds) Q ρ:=rfl
def kMS2 (f:List Nat->List D->Option S) (l:List Nat) (Q:WQ):List R->Env->Prop:=fun rs ρ=>kB2 (f l) (vAll rs ρ) Q ρ
def kMS (f:List Nat->List D->Option S) (wa:WA) (Q:WQ) (E:WX):WQ:=fun x ρ=>match x with
 | .v (.sh (.str l))=>wa ρ (kMS2 f l Q) E
 | _=>False
theorem e_MS {f:List Nat->List D->Option S}:wMS f a wa ρ Q E=a ρ (kMS f wa Q E) E:=by
 unfold wMS kMS kMS2 kB2 kV
 simp only [zdy]
 all_goals rfl
theorem zpZ {f:List Nat->List D->Option S} {l:List Nat}:kMS f wa Q E (.v (.sh (.str l))) ρ=wa ρ (kMS2 f l Q) E:=rfl
theorem zqP {f:List Nat->List D->Option S} {l:List Nat}:kMS2 f l Q rs ρ=kB2 (f l) (vAll rs ρ) Q ρ:=rfl
def kAp4 (j:Nat) (s:S) (o:Option S) (ρ:Env) (Q:WQ):Prop:=match o with
 | some (.lst l)=>l.length < big/\Q (.v (.sh .non)) (ρ.set j (some (.lst (l++[s]))))
 | _=>False
def kAp3 (j:Nat) (o:Option (S×Env)) (Q:WQ):Prop:=need o fun p=>kAp4 j p.1 (slot p.2 j) p.2 Q
def kAp2 (j:Nat) (Q:WQ):WQ:=fun r ρ=>kAp3 j (give r ρ) Q
def kAp (j:Nat) (o:Option S) (a:WE) (ρ:Env) (Q:WQ) (E:WX):Prop:=match o with
 | some (.lst _)=>a ρ (kAp2 j Q) E
 | _=>False
theorem e_Ap:wAppend j a ρ Q E=kAp j (slot ρ j) a ρ Q E:=by unfold wAppend kAp kAp2 kAp3 kAp4; rfl
theorem zpr {l:List S}:kAp j (some (.lst l)) a ρ Q E=a ρ (kAp2 j Q) E:=rfl
theorem zp7:kAp2 j Q r ρ=kAp3 j (give r ρ) Q:=rfl
theorem zqa:kAp3 j (some (s,ρ)) Q=kAp4 j s (slot ρ j) ρ Q:=rfl
theorem zqS {l:List S}:kAp4 j s (some (.lst l)) ρ Q=(l.length < big/\Q (.v (.sh .non)) (ρ.set j (some (.lst (l++[s]))))):=rfl
def kPop3 (j:Nat) (o:Option D) (p:Option S) (ρ:Env) (Q:WQ):Prop:=match o,p with
 | some (.int i),some (.lst l)=>need (if l.length<=big then ixN l.length i else none) fun k=>need l[k]? fun s=>Q (.v s) (ρ.set j (some (.lst (l.eraseIdx k))))
 | _,_=>False
def kPop2 (j:Nat) (Q:WQ):WQ:=fun r ρ=>kPop3 j (view r ρ) (slot ρ j) ρ Q
def kPop (j:Nat) (o:Option S) (a:WE) (ρ:Env) (Q:WQ) (E:WX):Prop:=match o with
 | some (.lst _)=>a ρ (kPop2 j Q) E
 | _=>False
theorem zo5:wPopAt j a ρ Q E=kPop j (slot ρ j) a ρ Q E:=by unfold wPopAt kPop kPop2 kPop3; rfl
theorem znJ {l:List S}:kPop j (some (.lst l)) a ρ Q E=a ρ (kPop2 j Q) E:=rfl
theorem zm2:kPop2 j Q r ρ=kPop3 j (view r ρ) (slot ρ j) ρ Q:=rfl
theorem zj7 {l:List S} {z:Int} (h0:0<=z) (hb:l.length<=big) (h:l[z.toNat]?=some s) (hq:Q (.v s) (ρ.set j (some (.lst (l.eraseIdx z.toNat))))):kPop3 j (some (.int z)) (some (.lst l)) ρ Q:=by
 have:z.toNat < l.length:=(qi.mp h).1
 have e:(if l.length<=big then ixN l.length z else none)=some z.toNat:=by
  unfold ixN
  rw [if_pos hb,if_pos h0,if_pos (by lia)]
 show need (if l.length<=big then ixN l.length z else none) _
 rw [e,zbJ,h]
 exact hq
def kIsI2 (T:String) (o:Option D) (Q:WQ) (ρ:Env):Prop:=need o fun d=>Q (.v (.sh (.bl (isTy T d)))) ρ
def kIsI (T:String) (Q:WQ):WQ:=fun x ρ=>kIsI2 T (view x ρ) Q ρ
theorem zrd {T:String}:wIsI T a ρ Q E=a ρ (kIsI T Q) E:=rfl
theorem zlQ {T:String}:kIsI T Q x ρ=kIsI2 T (view x ρ) Q ρ:=rfl
theorem zme {T:String}:kIsI2 T (some d) Q ρ=Q (.v (.sh (.bl (isTy T d)))) ρ:=rfl
theorem zlU {t:Bool}:wDnew t ρ Q E=Q (.v (.dct t [] [])) ρ:=rfl
def kDi3 (o:Option D) (p:Option (S×Env)) (Q:WQ):Prop:=need o fun q=>need p fun p=>isKey1 q=true/\Q (.v (.dct false [q] [p.1])) p.2
def kDi2 (x:R) (Q:WQ):WQ:=fun y ρ=>kDi3 (view x ρ) (give y ρ) Q
def kDi1 (v:WE) (Q:WQ) (E:WX):WQ:=fun x ρ=>v ρ (kDi2 x Q) E
theorem e_Di:wDisp1 a b ρ Q E=a ρ (kDi1 b Q E) E:=rfl
theorem zos:kDi1 b Q E x ρ=b ρ (kDi2 x Q) E:=rfl
theorem zov:kDi2 x Q y ρ=kDi3 (view x ρ) (give y ρ) Q:=rfl
theorem zoR:kDi3 (some q) (some (s,ρ)) Q=(isKey1 q=true/\Q (.v (.dct false [q] [s])) ρ):=rfl
theorem zng {z:Int}:isKey1 (.int z)=true:=rfl
def kPt2 (o:Option D) (Q:Option Int->Env->Prop) (ρ:Env):Prop:=match o with | some (.int i)=>Q (some i) ρ | _=>False
def kPt (Q:Option Int->Env->Prop):WQ:=fun x ρ=>kPt2 (view x ρ) Q ρ
theorem zoO {Q:Option Int->Env->Prop}:wPart none ρ Q E=Q none ρ:=rfl
theorem e_Pt {Q:Option Int->Env->Prop}:wPart (some a) ρ Q E=a ρ (kPt Q) E:=rfl
theorem zrf {Q:Option Int->Env->Prop}:kPt Q x ρ=kPt2 (view x ρ) Q ρ:=rfl
theorem zp6 {Q:Option Int->Env->Prop} {z:Int}:kPt2 (some (.int z)) Q ρ=Q (some z) ρ:=rfl
def kSl3 (o:Option D) (l h:Option Int) (Q:WQ) (ρ:Env):Prop:=need o fun d=>kV (slD d l h) Q ρ
def kSl2 (x:R) (l:Option Int) (Q:WQ):Option Int->Env->Prop:=fun h ρ=>kSl3 (viewC x ρ) l h Q ρ
def kSl1 (x:R) (hi:Option WE) (Q:WQ) (E:WX):Option Int->Env->Prop:=fun l ρ=>wPart hi ρ (kSl2 x l Q) E
def kSl (lo hi:Option WE) (Q:WQ) (E:WX):WQ:=fun x ρ=>wPart lo ρ (kSl1 x hi Q E) E
theorem e_Sl {lo hi:Option WE}:wSl a lo hi ρ Q E=a ρ (kSl lo hi Q E) E:=rfl
theorem zq6 {lo hi:Option WE}:kSl lo hi Q E x ρ=wPart lo ρ (kSl1 x hi Q E) E:=rfl
theorem zqM {hi:Option WE} {l:Option Int}:kSl1 x hi Q E l ρ=wPart hi ρ (kSl2 x l Q) E:=rfl
theorem zpf {l h:Option Int}:kSl2 x l Q h ρ=kSl3 (viewC x ρ) l h Q ρ:=rfl
theorem zqQ {l h:Option Int}:kSl3 (some d) l h Q ρ=kV (slD d l h) Q ρ:=rfl
end
section
variable {ρ ρ1 ρ2:Env} {K:Env->Prop} {QI:List D->Env->Prop} {QE:Env->Prop} {E:WX} {Q:WQ} {D':Ends} {a b:WE} {v w:WS} {t:WT} {r x y:R} {s:S} {ss:List S} {d q:D} {i j n m:Nat} {g:WG}
def wNx (D:Ends) (k:Env->Prop):Ends:={ D with nx:=k }
theorem e_nx:(wNx D' K).nx=K:=rfl
theorem e_rt:(wNx D' K).rt=D'.rt:=rfl
theorem e_ex:(wNx D' K).ex=D'.ex:=rfl
theorem znj:wPass D' ρ=D'.nx ρ:=rfl
theorem zoT:wSeq v w D' ρ=v (wNx D' (w D')) ρ:=rfl
def kIf (a b:WS) (D:Ends):Bool->Env->Prop:=fun k ρ=>if k then a D ρ else b D ρ
theorem e_If:wIf t v w D' ρ=t ρ (kIf v w D') D'.ex:=rfl
theorem zp8:kIf v w D' true ρ=v D' ρ:=rfl
theorem zqx:kIf v w D' false ρ=w D' ρ:=rfl
theorem zoH:wRet a D' ρ=a ρ D'.rt D'.ex:=rfl
def kEx (D:Ends):WQ:=fun _ ρ=>D.nx ρ
theorem zmT:wExpr a D' ρ=a ρ (kEx D') D'.ex:=rfl
theorem zkT:kEx D' r ρ=D'.nx ρ:=rfl
def kAsg2 (g:WG) (D:Ends) (o:Option (S×Env)):Prop:=need o fun p=>g p.1 p.2 D.nx
def kAsg (g:WG) (D:Ends):WQ:=fun r ρ=>kAsg2 g D (give r ρ)
theorem zpS:wAsg g a D' ρ=a ρ (kAsg g D') D'.ex:=rfl
theorem zmw:kAsg g D' r ρ=kAsg2 g D' (give r ρ):=rfl
theorem zmY:kAsg2 g D' (some (s,ρ))=g s ρ D'.nx:=rfl
theorem e_gN:gName i s ρ K=K (ρ.set i (some s)):=rfl
def kGT (gs:List WG) (d:D) (ρ:Env) (Q:Env->Prop):Prop:=match d with | .tup ds=>ds.length=gs.length/\gTups gs ds ρ Q | _=>False
theorem e_gT {gs:List WG}:gTup gs s ρ K=kGT gs s.toD ρ K:=rfl
theorem zoz {gs:List WG} {ds:List D}:kGT gs (.tup ds) ρ K=(ds.length=gs.length/\gTups gs ds ρ K):=rfl
def kGTs (gs:List WG) (ds:List D) (Q:Env->Prop):Env->Prop:=fun ρ=>gTups gs ds ρ Q
theorem zpM:gTups [] [] ρ K=K ρ:=rfl
theorem zpa {gs:List WG} {ds:List D}:gTups (g::gs) (d::ds) ρ K=g (.sh d) ρ (kGTs gs ds K):=rfl
theorem zoV {gs:List WG} {ds:List D}:kGTs gs ds K ρ=gTups gs ds ρ K:=rfl
def kSet5 (j:Nat) (D:Ends) (x:R) (q:FL.D) (s:S) (o:Option S) (ρ:Env):Prop:=match x,q,o with
 | .loc k,.int n,some (.lst l)=>k=j/\need (ixN l.length n) fun m=>D.nx (ρ.set j (some (.lst (l.set m s))))
 | _,_,_=>False
def kSet4 (j:Nat) (D:Ends) (x:R) (o:Option FL.D) (p:Option (S×Env)):Prop:=need o fun q=>need p fun p=>kSet5 j D x q p.1 (slot p.2 j) p.2
def kSet3 (j:Nat) (D:Ends) (r x:R):WQ:=fun y ρ=>kSet4 j D x (view y ρ) (give r ρ)
def kSet2 (j:Nat) (i:WE) (D:Ends) (r:R):WQ:=fun x ρ=>i ρ (kSet3 j D r x) D.ex
def kSet1 (j:Nat) (i:WE) (D:Ends):WQ:=fun r ρ=>wVar j ρ (kSet2 j i D r) D.ex
theorem zqY:wSetIx j a b D' ρ=b ρ (kSet1 j a D') D'.ex:=by unfold wSetIx kSet1 kSet2 kSet3 kSet4 kSet5; rfl
theorem znQ:kSet1 j a D' r ρ=wVar j ρ (kSet2 j a D' r) D'.ex:=rfl
theorem zlW:kSet2 j a D' r x ρ=a ρ (kSet3 j D' r x) D'.ex:=rfl
theorem zni:kSet3 j D' r x y ρ=kSet4 j D' x (view y ρ) (give r ρ):=rfl
theorem zmJ:kSet4 j D' x (some q) (some (s,ρ))=kSet5 j D' x q s (slot ρ j) ρ:=rfl
theorem zj5 {l:List S} {z:Int} (h0:0<=z) (h1:z < l.length):kSet5 j D' (.loc j) (.int z) s (some (.lst l)) ρ=D'.nx (ρ.set j (some (.lst (l.set z.toNat s)))):=by
 show (j=j/\need (ixN l.length z) _)=_
 unfold ixN
 rw [if_pos h0,if_pos h1,zbJ]
 simp
theorem zlM {s0 s1:S}:kSet5 j D' (.loc j) (.int 0) s (some (.lst [s0,s1])) ρ=D'.nx (ρ.set j (some (.lst [s,s1]))):=zj5 (by decide) (by show (0:Int) < 2; decide)
theorem zly {s0 s1:S}:kSet5 j D' (.loc j) (.int 1) s (some (.lst [s0,s1])) ρ=D'.nx (ρ.set j (some (.lst [s0,s]))):=zj5 (by decide) (by show (1:Int) < 2; decide)
def kDp5 (j:Nat) (D:Ends) (q:FL.D) (s:S) (o:Option S) (ρ:Env):Prop:=match o with
 | some (.dct t ks l)=>isKey t q=true/\ks.Nodup/\ks.length < big/\D.nx (ρ.set j (some (dputS t ks l q s)))
 | _=>False
def kDp4 (j:Nat) (D:Ends) (x:R) (o:Option FL.D) (p:Option (S×Env)):Prop:=need o fun q=>need p fun p=>match x with
 | .loc k=>k=j/\kDp5 j D q p.1 (slot p.2 j) p.2
 | _=>False
def kDp3 (j:Nat) (D:Ends) (r x:R):WQ:=fun y ρ=>kDp4 j D x (view y ρ) (give r ρ)
def kDp2 (j:Nat) (i:WE) (D:Ends) (r:R):WQ:=fun x ρ=>i ρ (kDp3 j D r x) D.ex
def kDp1 (j:Nat) (i:WE) (D:Ends):WQ:=fun r ρ=>wVar j ρ (kDp2 j i D r) D.ex
theorem e_Dp:wDput j a b D' ρ=b ρ (kDp1 j a D') D'.ex:=by
 have e:(fun (r:R) (ρ1:Env)=>wVar j ρ1 (fun x ρ2=>a ρ2 (fun y ρ3=>need (view y ρ3) fun q=>need (give r ρ3) fun p=>match x,slot p.2 j with
  | .loc k,some (.dct t ks l)=>k=j/\isKey t q=true/\ks.Nodup/\ks.length < big/\D'.nx (p.2.set j (some (dputS t ks l q p.1)))
  | _,_=>False) D'.ex) D'.ex)=kDp1 j a D':=by
  funext r ρ1
  unfold kDp1 kDp2 kDp3 kDp4 kDp5
  congr 1
  funext x ρ2
  congr 1
  funext y ρ3
  cases view y ρ3 with
  | none=>rfl
  | some q=>
    cases give r ρ3 with
    | none=>rfl
    | some p=>
      simp only [zbJ]
      cases x with
      | v s=>cases slot p.2 j <;> rfl
      | loc k=>
        cases slot p.2 j with
        | none=>simp
        | some s=>
          cases s with
          | dct t ks l=>simp
          | _=>simp
 exact congrArg (fun z=>b ρ z D'.ex) e
theorem zpN:kDp1 j a D' r ρ=wVar j ρ (kDp2 j a D' r) D'.ex:=rfl
theorem zoh:kDp2 j a D' r x ρ=a ρ (kDp3 j D' r x) D'.ex:=rfl
theorem zqe:kDp3 j D' r x y ρ=kDp4 j D' x (view y ρ) (give r ρ):=rfl
theorem zqJ:kDp4 j D' (.loc j) (some q) (some (s,ρ))=kDp5 j D' q s (slot ρ j) ρ:=by show (j=j/\_)=_; simp
theorem zqg {ks:List D} {l:List S}:kDp5 j D' q s (some (.dct false ks l)) ρ=(isKey1 q=true/\ks.Nodup/\ks.length < big/\D'.nx (ρ.set j (some (dputS false ks l q s)))):=rfl
theorem zm0 {ks:List D} {l:List S}:kDp5 j D' q s (some (.dct true ks l)) ρ=(isKey true q=true/\ks.Nodup/\ks.length < big/\D'.nx (ρ.set j (some (dputS true ks l q s)))):=rfl
def kIt3 (o:Option (List D)) (ρ:Env) (Q:List D->Env->Prop):Prop:=need o fun l=>Q l ρ
def kIt2 (o:Option (S×Env)) (Q:List D->Env->Prop):Prop:=need o fun p=>kIt3 (items p.1.toD) p.2 Q
def kIt (Q:List D->Env->Prop):WQ:=fun r ρ=>kIt2 (give r ρ) Q
theorem e_It:wIter a ρ QI E=a ρ (kIt QI) E:=rfl
theorem zra:kIt QI r ρ=kIt2 (give r ρ) QI:=rfl
theorem zpE:kIt2 (some (s,ρ)) QI=kIt3 (items s.toD) ρ QI:=rfl
theorem zoA {l:List D}:kIt3 (some l) ρ QI=QI l ρ:=rfl
theorem zop {l:List D}:items (.lst l)=some l:=rfl
theorem zqh {l:List D}:items (.tup l)=some l:=rfl
def kEn3 (o:Option (List D)) (ρ:Env) (Q:List D->Env->Prop):Prop:=need o fun l=>Q (enumF 0 l) ρ
def kEn2 (o:Option (S×Env)) (Q:List D->Env->Prop):Prop:=need o fun p=>kEn3 (items p.1.toD) p.2 Q
def kEn (Q:List D->Env->Prop):WQ:=fun r ρ=>kEn2 (give r ρ) Q
theorem e_En:wEnum a ρ QI E=a ρ (kEn QI) E:=rfl
theorem zqz:kEn QI r ρ=kEn2 (give r ρ) QI:=rfl
theorem zou:kEn2 (some (s,ρ)) QI=kEn3 (items s.toD) ρ QI:=rfl
theorem zoI {l:List D}:kEn3 (some l) ρ QI=QI (enumF 0 l) ρ:=rfl
def kR1b (o:Option D) (Q:List D->Env->Prop) (ρ:Env):Prop:=match o with | some (.int j)=>(-big<=j/\j<=big)/\Q (fromTo 0 j.toNat) ρ | _=>False
def kR1 (Q:List D->Env->Prop):WQ:=fun r ρ=>kR1b (view r ρ) Q ρ
theorem e_R1:wRange1 a ρ QI E=a ρ (kR1 QI) E:=rfl
theorem zqq:kR1 QI r ρ=kR1b (view r ρ) QI ρ:=rfl
theorem zpV {z:Int}:kR1b (some (.int z)) QI ρ=((-big<=z/\z<=big)/\QI (fromTo 0 z.toNat) ρ):=rfl
def kR2b (o p:Option D) (Q:List D->Env->Prop) (ρ:Env):Prop:=match o,p with | some (.int i),some (.int j)=>(-big<=i/\i<=big/\-big<=j/\j<=big)/\Q (fromTo i (j - i).toNat) ρ | _,_=>False
def kR2a (r:R) (Q:List D->Env->Prop):WQ:=fun t ρ=>kR2b (view r ρ) (view t ρ) Q ρ
def kR2 (b:WE) (Q:List D->Env->Prop) (E:WX):WQ:=fun r ρ=>b ρ (kR2a r Q) E
theorem e_R2:wRange2 a b ρ QI E=a ρ (kR2 b QI E) E:=rfl
theorem zp9:kR2 b QI E r ρ=b ρ (kR2a r QI) E:=rfl
theorem zpF:kR2a r QI x ρ=kR2b (view r ρ) (view x ρ) QI ρ:=rfl
theorem zqf {z z':Int}:kR2b (some (.int z)) (some (.int z')) QI ρ=((-big<=z/\z<=big/\-big<=z'/\z'<=big)/\QI (fromTo z (z' - z).toNat) ρ):=rfl
def kFor (g:WG) (b:WS) (D:Ends):List FL.D->Env->Prop:=fun l ρ=>wLoop g b l D ρ
theorem zqO {it:WI}:wFor it g v D' ρ=it ρ (kFor g v D') D'.ex:=rfl
theorem zl0 {l:List D}:kFor g v D' l ρ=wLoop g v l D' ρ:=rfl
def lpE (g:WG) (b:WS) (xs:List FL.D) (D:Ends):Ends:={ D with nx:=wLoop g b xs D,ct:=wLoop g b xs D,bk:=D.nx }
def kLp (g:WG) (b:WS) (xs:List FL.D) (D:Ends):Env->Prop:=fun ρ=>b (lpE g b xs D) ρ
theorem e_Lp {xs:List D}:wLoop g v (d::xs) D' ρ=g (.sh d) ρ (kLp g v xs D'):=rfl
variable {c:WT} {bb:WB}
def kLCr2 (n:Nat) (o:Option S) (ρ:Env) (Q:WQ):Prop:=need o fun s=>Q (.v s) (ρ.take n)
def kLCr (n:Nat) (Q:WQ):Env->Prop:=fun ρ=>kLCr2 n (slot ρ n) ρ Q
def kLCx (n:Nat) (E:WX):WX:=fun x ρ=>E x (ρ.take n)
def kLC (n k:Nat) (g:WG) (c:WT) (b:WB) (Q:WQ) (E:WX):List D->Env->Prop:=fun l ρ=>bLoop g c b l (ρ++some (.lst [])::List.replicate k none) (kLCr n Q) (kLCx n E)
theorem e_LC {it:WI}:wLC n m it g c bb ρ Q E=it ρ (kLC n m g c bb Q E) E:=rfl
theorem zqb {l:List D}:kLC n m g c bb Q E l ρ=bLoop g c bb l (ρ++some (.lst [])::List.replicate m none) (kLCr n Q) (kLCx n E):=rfl
theorem zpD:kLCr n Q ρ=kLCr2 n (slot ρ n) ρ Q:=rfl
theorem zmf:kLCr2 n (some s) ρ Q=Q (.v s) (ρ.take n):=rfl
def kbL3 (g:WG) (c:WT) (b:WB) (xs:List D) (Q:Env->Prop) (E:WX):Env->Prop:=fun ρ=>bLoop g c b xs ρ Q E
def kbL2 (g:WG) (c:WT) (b:WB) (xs:List D) (Q:Env->Prop) (E:WX):Bool->Env->Prop:=fun k ρ=>if k then b ρ (kbL3 g c b xs Q E) E else bLoop g c b xs ρ Q E
def kbL (g:WG) (c:WT) (b:WB) (xs:List D) (Q:Env->Prop) (E:WX):Env->Prop:=fun ρ=>c ρ (kbL2 g c b xs Q E) E
theorem e_bL {xs:List D}:bLoop g c bb (d::xs) ρ QE E=g (.sh d) ρ (kbL g c bb xs QE E):=rfl
theorem zo8 {xs:List D}:kbL g c bb xs QE E ρ=c ρ (kbL2 g c bb xs QE E) E:=rfl
theorem zlV {xs:List D}:kbL2 g c bb xs QE E true ρ=bb ρ (kbL3 g c bb xs QE E) E:=rfl
theorem zpK {xs:List D}:kbL3 g c bb xs QE E ρ=bLoop g c bb xs ρ QE E:=rfl
def kEm3 (n:Nat) (s:S) (o:Option S) (ρ:Env) (Q:Env->Prop):Prop:=match o with
 | some (.lst l)=>l.length < big/\Q (ρ.set n (some (.lst (l++[s]))))
 | _=>False
def kEm2 (n:Nat) (o:Option (S×Env)) (Q:Env->Prop):Prop:=need o fun p=>kEm3 n p.1 (slot p.2 n) p.2 Q
def kEm (n:Nat) (Q:Env->Prop):WQ:=fun r ρ=>kEm2 n (give r ρ) Q
theorem e_Em:bEmit n a ρ QE E=a ρ (kEm n QE) E:=by unfold bEmit kEm kEm2 kEm3; rfl
theorem zoN:kEm n QE r ρ=kEm2 n (give r ρ) QE:=rfl
theorem zpP:kEm2 n (some (s,ρ)) QE=kEm3 n s (slot ρ n) ρ QE:=rfl
theorem zqn {l:List S}:kEm3 n s (some (.lst l)) ρ QE=(l.length < big/\QE (ρ.set n (some (.lst (l++[s]))))):=rfl
def kbF (g:WG) (c:WT) (b:WB) (Q:Env->Prop) (E:WX):List D->Env->Prop:=fun l ρ=>bLoop g c b l ρ Q E
theorem e_bF {it:WI}:bFor it g c bb ρ QE E=it ρ (kbF g c bb QE E) E:=rfl
theorem zq8 {l:List D}:kbF g c bb QE E l ρ=bLoop g c bb l ρ QE E:=rfl
theorem zol {QT:Bool->Env->Prop}:wYes ρ QT E=QT true ρ:=rfl
def kFn (o:Option (List S)) (P:S->List S->Prop) (s:S):Prop:=need o fun fs=>P s fs
def kRt2 (n:Nat) (ss:List S) (P:S->List S->Prop) (i:Nat) (o:Option S) (ρ:Env):Prop:=need o fun s=>if i < n then kFn (finals ss (ρ.set i (some (.sh s.toD)))) P (.sh s.toD) else kFn (finals ss ρ) P s
def kRt (n:Nat) (ss:List S) (P:S->List S->Prop):WQ:=fun r ρ=>match r with
 | .v s=>kFn (finals ss ρ) P s
 | .loc i=>kRt2 n ss P i (slot ρ i) ρ
def fnE (n:Nat) (ss:List S) (P:S->List S->Prop) (PX:D->List S->Prop):Ends where
 nx:=fun ρ=>kFn (finals ss ρ) P (.sh .non)
 rt:=kRt n ss P
 bk:=fun _=>False
 ct:=fun _=>False
 ex:=fun x ρ=>need (finals ss ρ) fun fs=>PX x fs
variable {P:S->List S->Prop} {PX:D->List S->Prop}
theorem za5 {ks:List Nat} (hl:ss.length=n) (hk:((List.range ss.length).all fun i=>decide (i∈ks))=true) (h:v (fnE n ss P PX) (ss.map some++List.replicate (m - n) none)):wFn n m ks v ss P PX:=by
 refine ⟨hl,fun i s hi=>?_,h⟩
 have:=(qi.mp hi).1
 exact .inl (by simpa using all_eq_true.mp hk i (by simpa using this))
theorem zml {ks:List Nat} (hl:ss.length=n) (hk:(ss.zipIdx.all fun p=>decide (p.2∈ks) || p.1.isSh)=true) (h:v (fnE n ss P PX) (ss.map some++List.replicate (m - n) none)):wFn n m ks v ss P PX:=by
 refine ⟨hl,fun i s hi=>?_,h⟩
 have:=all_eq_true.mp hk (s,i) (by rw [List.mem_zipIdx_iff_getElem?]; simpa using hi)
 simpa using this
theorem zp2:(fnE n ss P PX).rt=kRt n ss P:=rfl
theorem e_Rt:kRt n ss P (.v s) ρ=kFn (finals ss ρ) P s:=rfl
theorem zoM:kRt n ss P (.loc i) ρ=kRt2 n ss P i (slot ρ i) ρ:=rfl
theorem zph (h:¬ i < n):kRt2 n ss P i (some s) ρ=kFn (finals ss ρ) P s:=by show (if i < n then _ else _)=_; rw [if_neg h]
theorem e_Fn {fs:List S}:kFn (some fs) P s=P s fs:=rfl
def fA (s:S):Option (List S)->Option (List S)
 | some fs=>some (s::fs)
 | none=>none
theorem e_f0:finals [] ρ=some []:=by cases ρ <;> rfl
theorem e_fs {o:Option S}:finals (.sh d::ss) (o::ρ)=fA (.sh d) (finals ss ρ):=by
 rw [finals]; unfold fA; cases finals ss ρ <;> rfl
theorem e_fl {l:List S}:finals (.lst l::ss) (some s::ρ)=fA s (finals ss ρ):=by
 rw [finals]; unfold fA; cases finals ss ρ <;> rfl
 intro d h; cases h
theorem e_fA {fs:List S}:fA s (some fs)=some (s::fs):=rfl
end
section
variable {i j:Int} {x y:List Nat} {l m:List D}
theorem zps:oAdd (.int i) (.int j)=some (.sh (.int (i + j))):=rfl
theorem znc (h:x.length + y.length<=big):oAdd (.str x) (.str y)=some (.sh (.str (x++y))):=if_pos h
theorem znr (h:l.length + m.length<=big):oAdd (.tup l) (.tup m)=some (.sh (.tup (l++m))):=if_pos h
theorem zpC:oSub (.int i) (.int j)=some (.sh (.int (i - j))):=rfl
theorem zmg (h:-(2 ^ 64) < i/\i < 2 ^ 64):oMul (.int i) (.int j)=some (.sh (.int (i * j))):=by
 show (if mulOk i j=true then _ else none)=_
 rw [if_pos (by simp only [mulOk,h.1,h.2,decide_true,Bool.and_self,Bool.true_or])]
theorem zoD (h:0 < j):oMod (.int i) (.int j)=some (.sh (.int (i % j))):=if_pos h
theorem zms (h:0 < j) (h2:j < 18446744073709551616):oFdiv (.int i) (.int j)=some (.sh (.int (i / j))):=if_pos ⟨h,h2⟩
theorem zpn (h:0<=j/\j<=1000/\i.natAbs < 2 ^ 64):oPow (.int i) (.int j)=some (.sh (.int (i ^ j.toNat))):=if_pos h
theorem zok:oNeg (.int i)=some (.sh (.int (-i))):=rfl
theorem e_lt:cLt (.int i) (.int j)=some (decide (i < j)):=rfl
theorem e_gt:cGt (.int i) (.int j)=some (decide (j < i)):=rfl
theorem e_le:cLe (.int i) (.int j)=some (decide (i<=j)):=rfl
theorem e_ge:cGe (.int i) (.int j)=some (decide (j<=i)):=rfl
theorem zn4:cEq (.int i) (.int j)=some (decide (i=j)):=by
 unfold cEq
 rw [if_neg (by exact fun z=>Bool.noConfusion (show false=true from z))]
 simp
theorem zoj:cNe (.int i) (.int j)=some (!decide (i=j)):=by unfold cNe; rw [zn4]; rfl
theorem znk:cEq (.str x) (.str y)=some (decide (x=y)):=by
 unfold cEq
 rw [if_neg (by exact fun z=>Bool.noConfusion (show false=true from z))]
 simp
theorem zq7:cNe (.str x) (.str y)=some (!decide (x=y)):=by unfold cNe; rw [znk]; rfl
theorem zoC {b c:Bool}:cEq (.bl b) (.bl c)=some (decide (b=c)):=by
 unfold cEq
 rw [if_neg (by exact fun z=>Bool.noConfusion (show false=true from z))]
 simp
theorem zrb {b:Bool}:truth (.bl b)=some b:=rfl
theorem zlT:bLen [.str x]=some (.sh (.int x.length)):=rfl
theorem zns:bLen [.tup l]=some (.sh (.int l.length)):=rfl
theorem zl6:bLen [.lst l]=some (.sh (.int l.length)):=rfl
theorem zlN {b:Bool}:bInt [.bl b]=some (.sh (.int (if b then 1 else 0))):=rfl
theorem zmd:bTuple [.lst l]=some (.sh (.tup l)):=rfl
theorem zn3 (h:x.length<=big):bListA [.str x]=some (.lst (x.map fun c=>.sh (.str [c]))):=if_pos h
theorem zpA:bMax [.int i,.int j]=some (.sh (.int (if j > i then j else i))):=rfl
theorem zow:bMin [.int i,.int j]=some (.sh (.int (if j < i then j else i))):=rfl
theorem zpX {a b:Option Int}:slD (.str x) a b=some (.sh (.str (cutL x a b))):=rfl
theorem zpm {a b:Option Int}:slD (.tup l) a b=some (.sh (.tup (cutL l a b))):=rfl
end
section
variable {Q:WQ} {QT:Bool->Env->Prop} {E:WX} {ρ:Env} {d p q:D} {l m:List S} {t:Bool} {ks:List D} {s:S} {v:Option S} {o:D->D->Option S} {oc:D->D->Option Bool} {j k:Nat} {s0 s1 s2 s3 s4 s5 s6 s7 s8 s9 s10 s11 s12 s13 s14:Option S}
theorem zpu:wVar 0 (some (.sh d)::ρ) Q E=Q (.v (.sh d)) (some (.sh d)::ρ):=rfl
theorem zp4:wVar 0 (some (.lst l)::ρ) Q E=Q (.loc 0) (some (.lst l)::ρ):=rfl
theorem zpR:slot (v::ρ) 0=v:=rfl
theorem zoQ {u:Option S}:List.set (u::ρ) 0 v=v::ρ:=rfl
theorem zqC:wVar 1 (s0::some (.sh d)::ρ) Q E=Q (.v (.sh d)) (s0::some (.sh d)::ρ):=rfl
theorem zon:wVar 1 (s0::some (.lst l)::ρ) Q E=Q (.loc 1) (s0::some (.lst l)::ρ):=rfl
theorem zqv:slot (s0::v::ρ) 1=v:=rfl
theorem zpo {u:Option S}:List.set (s0::u::ρ) 1 v=s0::v::ρ:=rfl
theorem zqj:wVar 2 (s0::s1::some (.sh d)::ρ) Q E=Q (.v (.sh d)) (s0::s1::some (.sh d)::ρ):=rfl
theorem zo4:wVar 2 (s0::s1::some (.lst l)::ρ) Q E=Q (.loc 2) (s0::s1::some (.lst l)::ρ):=rfl
theorem zqk:wVar 2 (s0::s1::some (.dct t ks l)::ρ) Q E=Q (.loc 2) (s0::s1::some (.dct t ks l)::ρ):=rfl
theorem zpy:slot (s0::s1::v::ρ) 2=v:=rfl
theorem zqE {u:Option S}:List.set (s0::s1::u::ρ) 2 v=s0::s1::v::ρ:=rfl
theorem zoX:wVar 3 (s0::s1::s2::some (.sh d)::ρ) Q E=Q (.v (.sh d)) (s0::s1::s2::some (.sh d)::ρ):=rfl
theorem zqW:wVar 3 (s0::s1::s2::some (.lst l)::ρ) Q E=Q (.loc 3) (s0::s1::s2::some (.lst l)::ρ):=rfl
theorem zrc:wVar 3 (s0::s1::s2::some (.dct t ks l)::ρ) Q E=Q (.loc 3) (s0::s1::s2::some (.dct t ks l)::ρ):=rfl
theorem zq5:slot (s0::s1::s2::v::ρ) 3=v:=rfl
theorem zqD {u:Option S}:List.set (s0::s1::s2::u::ρ) 3 v=s0::s1::s2::v::ρ:=rfl
theorem zoZ:wVar 4 (s0::s1::s2::s3::some (.sh d)::ρ) Q E=Q (.v (.sh d)) (s0::s1::s2::s3::some (.sh d)::ρ):=rfl
theorem zoP:wVar 4 (s0::s1::s2::s3::some (.lst l)::ρ) Q E=Q (.loc 4) (s0::s1::s2::s3::some (.lst l)::ρ):=rfl
theorem zqG:slot (s0::s1::s2::s3::v::ρ) 4=v:=rfl
theorem zpG {u:Option S}:List.set (s0::s1::s2::s3::u::ρ) 4 v=s0::s1::s2::s3::v::ρ:=rfl
theorem zpq:wVar 5 (s0::s1::s2::s3::s4::some (.sh d)::ρ) Q E=Q (.v (.sh d)) (s0::s1::s2::s3::s4::some (.sh d)::ρ):=rfl
theorem zpY:slot (s0::s1::s2::s3::s4::v::ρ) 5=v:=rfl
theorem zq0 {u:Option S}:List.set (s0::s1::s2::s3::s4::u::ρ) 5 v=s0::s1::s2::s3::s4::v::ρ:=rfl
theorem zqA:wVar 6 (s0::s1::s2::s3::s4::s5::some (.sh d)::ρ) Q E=Q (.v (.sh d)) (s0::s1::s2::s3::s4::s5::some (.sh d)::ρ):=rfl
theorem zqZ:wVar 6 (s0::s1::s2::s3::s4::s5::some (.lst l)::ρ) Q E=Q (.loc 6) (s0::s1::s2::s3::s4::s5::some (.lst l)::ρ):=rfl
theorem zoo:slot (s0::s1::s2::s3::s4::s5::v::ρ) 6=v:=rfl
theorem zp3 {u:Option S}:List.set (s0::s1::s2::s3::s4::s5::u::ρ) 6 v=s0::s1::s2::s3::s4::s5::v::ρ:=rfl
theorem zoi:wVar 7 (s0::s1::s2::s3::s4::s5::s6::some (.sh d)::ρ) Q E=Q (.v (.sh d)) (s0::s1::s2::s3::s4::s5::s6::some (.sh d)::ρ):=rfl
theorem zom:slot (s0::s1::s2::s3::s4::s5::s6::v::ρ) 7=v:=rfl
theorem zqV {u:Option S}:List.set (s0::s1::s2::s3::s4::s5::s6::u::ρ) 7 v=s0::s1::s2::s3::s4::s5::s6::v::ρ:=rfl
theorem zqR:wVar 8 (s0::s1::s2::s3::s4::s5::s6::s7::some (.sh d)::ρ) Q E=Q (.v (.sh d)) (s0::s1::s2::s3::s4::s5::s6::s7::some (.sh d)::ρ):=rfl
theorem zp1 {u:Option S}:List.set (s0::s1::s2::s3::s4::s5::s6::s7::u::ρ) 8 v=s0::s1::s2::s3::s4::s5::s6::s7::v::ρ:=rfl
theorem zq3:wVar 9 (s0::s1::s2::s3::s4::s5::s6::s7::s8::some (.sh d)::ρ) Q E=Q (.v (.sh d)) (s0::s1::s2::s3::s4::s5::s6::s7::s8::some (.sh d)::ρ):=rfl
theorem zo1 {u:Option S}:List.set (s0::s1::s2::s3::s4::s5::s6::s7::s8::u::ρ) 9 v=s0::s1::s2::s3::s4::s5::s6::s7::s8::v::ρ:=rfl
theorem zl2:wVar 10 (s0::s1::s2::s3::s4::s5::s6::s7::s8::s9::some (.sh d)::ρ) Q E=Q (.v (.sh d)) (s0::s1::s2::s3::s4::s5::s6::s7::s8::s9::some (.sh d)::ρ):=rfl
theorem zmi {u:Option S}:List.set (s0::s1::s2::s3::s4::s5::s6::s7::s8::s9::u::ρ) 10 v=s0::s1::s2::s3::s4::s5::s6::s7::s8::s9::v::ρ:=rfl
theorem zl1:slot (s0::s1::s2::s3::s4::s5::s6::s7::s8::s9::s10::v::ρ) 11=v:=rfl
theorem znX {u:Option S}:List.set (s0::s1::s2::s3::s4::s5::s6::s7::s8::s9::s10::u::ρ) 11 v=s0::s1::s2::s3::s4::s5::s6::s7::s8::s9::s10::v::ρ:=rfl
theorem zmB:wVar 12 (s0::s1::s2::s3::s4::s5::s6::s7::s8::s9::s10::s11::some (.sh d)::ρ) Q E=Q (.v (.sh d)) (s0::s1::s2::s3::s4::s5::s6::s7::s8::s9::s10::s11::some (.sh d)::ρ):=rfl
theorem zmD {u:Option S}:List.set (s0::s1::s2::s3::s4::s5::s6::s7::s8::s9::s10::s11::u::ρ) 12 v=s0::s1::s2::s3::s4::s5::s6::s7::s8::s9::s10::s11::v::ρ:=rfl
theorem zmt:kBin2 o (.v (.sh p)) Q (.v (.sh q)) ρ=kV (o p q) Q ρ:=rfl
theorem zn1:kCmp2 oc (.v (.sh p)) QT (.v (.sh q)) ρ=kC (oc p q) QT ρ:=rfl
theorem zl4:kCmp2 oc (.v (.sh p)) QT (.v (.lst m)) ρ=kCmp3 oc (some p) (some (S.lst m).toD) QT ρ:=rfl
theorem znp:kCmp2 oc (.v (.sh p)) QT (.loc k) ρ=kCmp3 oc (some p) (view (.loc k) ρ) QT ρ:=rfl
theorem znL:kCmp2 oc (.loc j) QT (.v (.lst m)) ρ=kCmp3 oc (view (.loc j) ρ) (some (S.lst m).toD) QT ρ:=rfl
end
section
variable {ρ ρ1 ρ2:Env} {Q:WQ} {QT:Bool->Env->Prop} {QI:List D->Env->Prop} {E:WX} {a b c:WE} {r x y z:R} {s:S} {d p q:D} {i j n m k:Nat} {D':Ends} {v:WS} {l:List D} {z':Int}
theorem zpT:cInA d (.lst l)=cIn d (.lst l):=rfl
theorem zqi:cInA d (.tup l)=cIn d (.tup l):=rfl
theorem zot {t:Bool} {ks vs:List D}:cInA d (.dct t ks vs)=cIn d (.dct t ks vs):=rfl
theorem znG:cNotInA p q=(cInA p q).map (!·):=rfl
def kAA4 (j m:Nat) (l l':List S) (Q:WQ) (o:Option (S×Env)):Prop:=need o fun p=>l'.length < big/\Q (.v (.sh .non)) (p.2.set j (some (.lst (l.set m (.lst (l'++[p.1]))))))
def kAA3 (j m:Nat) (l l':List S) (Q:WQ):WQ:=fun r ρ=>kAA4 j m l l' Q (give r ρ)
def kAA2b (j m:Nat) (l:List S) (e:WE) (o:Option S) (ρ:Env) (Q:WQ) (E:WX):Prop:=match o with
 | some (.lst l')=>e (ρ.set j none) (kAA3 j m l l' Q) E
 | _=>False
def kAA2 (j:Nat) (e:WE) (n:Int) (l:List S) (ρ:Env) (Q:WQ) (E:WX):Prop:=need (ixN l.length n) fun m=>kAA2b j m l e l[m]? ρ Q E
def kAA1 (j:Nat) (e:WE) (o:Option D) (p:Option S) (ρ:Env) (Q:WQ) (E:WX):Prop:=match o,p with
 | some (.int n),some (.lst l)=>kAA2 j e n l ρ Q E
 | _,_=>False
def kAA0 (j:Nat) (e:WE) (Q:WQ) (E:WX):WQ:=fun y ρ=>kAA1 j e (view y ρ) (slot ρ j) ρ Q E
def kAA (j:Nat) (o:Option S) (i e:WE) (ρ:Env) (Q:WQ) (E:WX):Prop:=match o with
 | some (.lst _)=>i ρ (kAA0 j e Q E) E
 | _=>False
theorem e_AA:wAppendAt j a b ρ Q E=kAA j (slot ρ j) a b ρ Q E:=by unfold wAppendAt kAA kAA0 kAA1 kAA2 kAA2b kAA3 kAA4; rfl
theorem zpB {l:List S}:kAA j (some (.lst l)) a b ρ Q E=a ρ (kAA0 j b Q E) E:=rfl
theorem zpH:kAA0 j b Q E y ρ=kAA1 j b (view y ρ) (slot ρ j) ρ Q E:=rfl
theorem zoL {n:Int} {l:List S}:kAA1 j b (some (.int n)) (some (.lst l)) ρ Q E=kAA2 j b n l ρ Q E:=rfl
theorem zqH {l l':List S}:kAA3 j m l l' Q r ρ=kAA4 j m l l' Q (give r ρ):=rfl
theorem zpI {l l':List S}:kAA4 j m l l' Q (some (s,ρ))=(l'.length < big/\Q (.v (.sh .non)) (ρ.set j (some (.lst (l.set m (.lst (l'++[s]))))))):=rfl
theorem zgh {z:Int} {l l':List S} (h0:0<=z) (h1:l[z.toNat]?=some (.lst l')):kAA2 j b z l ρ Q E=b (ρ.set j none) (kAA3 j z.toNat l l' Q) E:=by
 have:z.toNat < l.length:=(qi.mp h1).1
 unfold kAA2 ixN
 rw [if_pos h0,if_pos (by lia),zbJ,h1]
 rfl
def kFz2 (Q:WQ) (o:Option (S×Env)):Prop:=need o fun p=>Q (.v (.sh p.1.toD)) p.2
def kFz (Q:WQ):WQ:=fun r ρ=>kFz2 Q (give r ρ)
theorem zpL:wFrz a ρ Q E=a ρ (kFz Q) E:=rfl
theorem znT:kFz Q r ρ=kFz2 Q (give r ρ):=rfl
theorem zmz:kFz2 Q (some (s,ρ))=Q (.v (.sh s.toD)) ρ:=rfl
def kFzN2 (i:Nat) (D:Ends) (o:Option S) (ρ:Env):Prop:=need o fun s=>D.nx (ρ.set i (some (.sh s.toD)))
def kFzN (i:Nat) (D:Ends):Env->Prop:=fun ρ=>kFzN2 i D (slot ρ i) ρ
theorem zq4:wFz i v D' ρ=v (wNx D' (kFzN i D')) ρ:=rfl
theorem znl:kFzN i D' ρ=kFzN2 i D' (slot ρ i) ρ:=rfl
theorem znf:kFzN2 i D' (some s) ρ=D'.nx (ρ.set i (some (.sh s.toD))):=rfl
def kGe5 (o:Option (Option D)) (z:R) (ρ:Env) (Q:WQ):Prop:=need o fun o=>match o with
 | some e=>Q (.v (.sh e)) ρ
 | none=>Q z ρ
def kGe4 (o p:Option D) (z:R) (ρ:Env) (Q:WQ):Prop:=need o fun dd=>need p fun q=>kGe5 (lkD dd q) z ρ Q
def isD' (o:Option D):Prop:=need o fun dd=>isDc dd=true
theorem zqy {t:Bool} {ks vs:List D}:isD' (some (.dct t ks vs))=True:=by simp [isD',isDc]
theorem zoW:kGe4 (some p) (some q) z ρ Q=kGe5 (lkD p q) z ρ Q:=rfl
theorem zmo:kGe5 (some (some d)) z ρ Q=Q (.v (.sh d)) ρ:=rfl
theorem zmL:kGe5 (some none) z ρ Q=Q z ρ:=rfl
def kGf3 (x:R) (Q:WQ):WQ:=fun y ρ=>kGe4 (viewC x ρ) (view y ρ) (.v (.sh .non)) ρ Q
def kGf1 (k:WE) (Q:WQ) (E:WX):WQ:=fun x ρ=>isD' (viewC x ρ)/\k ρ (kGf3 x Q) E
theorem e_Gf:wGet1 a b ρ Q E=a ρ (kGf1 b Q E) E:=rfl
theorem zpk:kGf1 b Q E x ρ=(isD' (viewC x ρ)/\b ρ (kGf3 x Q) E):=rfl
theorem zqr:kGf3 x Q y ρ=kGe4 (viewC x ρ) (view y ρ) (.v (.sh .non)) ρ Q:=rfl
theorem zor {ks vs:List D} {z:Int}:lkD (.dct false ks vs) (.int z)=some (lk ks vs (.int z)):=rfl
def kXA4 (o:Option (Option D)) (Q:WQ) (ρ:Env):Prop:=need o fun o=>need o fun e=>Q (.v (.sh e)) ρ
def kXA3 (o p:Option D) (Q:WQ) (ρ:Env):Prop:=need o fun d=>need p fun q=>kXA4 (lkD d q) Q ρ
def kXA2 (x:R) (Q:WQ):WQ:=fun y ρ=>kXA3 (viewC x ρ) (view y ρ) Q ρ
def kXA1 (b:WE) (Q:WQ) (E:WX):WQ:=fun x ρ=>b ρ (kXA2 x Q) E
theorem e_XA:wIxA a b ρ Q E=a ρ (kXA1 b Q E) E:=rfl
theorem zqF:kXA1 b Q E x ρ=b ρ (kXA2 x Q) E:=rfl
theorem zpp:kXA2 x Q y ρ=kXA3 (viewC x ρ) (view y ρ) Q ρ:=rfl
theorem zox:kXA3 (some d) (some q) Q ρ=kXA4 (lkD d q) Q ρ:=rfl
theorem zpz:kXA4 (some (some d)) Q ρ=Q (.v (.sh d)) ρ:=rfl
theorem zgM {t:Bool} {ks vs:List D}:vC (some (.dct t ks (vs.map S.sh)))=some (.dct t ks vs):=by
 show (if (vs.map S.sh).all S.isSh=true then some (S.toD (.dct t ks (vs.map S.sh))) else none)=_
 rw [if_pos e_sh,S.toD_dct,zaA]
def kTR2 (o:Option D) (Q:WQ) (ρ:Env):Prop:=need o fun d=>match d with
 | .tup l=>l.length<=big/\Q (.v (.sh (.tup l.reverse))) ρ
 | _=>False
def kTR (Q:WQ):WQ:=fun r ρ=>kTR2 (viewC r ρ) Q ρ
theorem e_TR:wTupRev a ρ Q E=a ρ (kTR Q) E:=by unfold wTupRev kTR kTR2; rfl
theorem zo7:kTR Q r ρ=kTR2 (viewC r ρ) Q ρ:=rfl
theorem zpJ:kTR2 (some (.tup l)) Q ρ=(l.length<=big/\Q (.v (.sh (.tup l.reverse))) ρ):=rfl
theorem zn5 {z z':Int}:oMulA (.int z) (.int z')=oMul (.int z) (.int z'):=rfl
end
theorem uB {w v:WB} {ρ:Env} {Q:Env->Prop} {E:WX} (h:w=v):w ρ Q E=v ρ Q E:=by rw [h]
theorem uS {w v:WS} {D':Ends} {ρ:Env} (h:w=v):w D' ρ=v D' ρ:=by rw [h]
section
variable {ρ:Env} {Q:WQ} {QE:Env->Prop} {E:WX} {a b:WE} {x y r:R} {s:S} {q d:D} {n m j:Nat} {l:List D}
def kML2 (f:List D->List D->Option S) (l:List D) (Q:WQ):List R->Env->Prop:=fun rs ρ=>kB2 (f l) (vAll rs ρ) Q ρ
def kML (f:List D->List D->Option S) (wa:WA) (Q:WQ) (E:WX):WQ:=fun x ρ=>match x with
 | .v (.sh (.lst l))=>wa ρ (kML2 f l Q) E
 | _=>False
theorem e_ML {f:List D->List D->Option S} {wa:WA}:wML f a wa ρ Q E=a ρ (kML f wa Q E) E:=by
 unfold wML kML kML2 kB2 kV
 simp only [zdy]
 all_goals rfl
theorem zoG {f:List D->List D->Option S} {wa:WA}:kML f wa Q E (.v (.sh (.lst l))) ρ=wa ρ (kML2 f l Q) E:=rfl
theorem zqo {f:List D->List D->Option S} {rs:List R}:kML2 f l Q rs ρ=kB2 (f l) (vAll rs ρ) Q ρ:=rfl
theorem zfN {k:Nat} (h:ixD l q=some k):mIndexL l [q]=some (.sh (.int k)):=by show (ixD l q).map _=_; rw [h]; rfl
variable {c:WE} {QI:List D->Env->Prop}
end
def sg (c:Nat):D:=.str [c]
theorem zlJ (l:List Nat):strsD (l.map sg)=some (l.map fun c=>[c]):=by
 have:=zek (l.map fun c=>[c])
 rw [map_map] at this
 exact this
theorem zgf:∀ l:List Nat,((l.map fun c=>[c]).map List.length).sum=l.length
 | []=>rfl
 | c::l=>by
   have:=zgf l
   simp only [map_cons,sum_cons,length_cons,length_nil] at this ⊢
   lia
theorem zeH:∀ l:List Nat,(l.map fun c=>[c]).flatten=l
 | []=>rfl
 | c::l=>by
   have:=zeH l
   simp only [map_cons,flatten_cons,List.singleton_append]
   rw [this]
theorem ziC {l:List Nat} (h:l.length<=big):mJoin [] [.lst (l.map sg)]=some (.sh (.str l)):=by
 show (strsD (l.map sg)).bind _=_
 rw [zlJ]
 show (if ((l.map fun c=>[c]).map List.length).sum + (l.map fun c=>[c]).length * [].length<=big then some (S.sh (.str (joinD [] (l.map fun c=>[c])))) else none)=_
 rw [if_pos (by rw [zgf]; simpa using h),zew,zeH]
def unsg:D->Nat
 | .str [c]=>c
 | _=>0
theorem zln {l:List D} {A:List Nat} (h:l.Perm (A.map sg)):∃ A':List Nat,A'.Perm A/\l=A'.map sg:=by
 refine ⟨l.map unsg,?_,?_⟩
 ·have:=h.map unsg
  rw [map_map] at this
  have e:(unsg ∘ sg)=id:=funext fun c=>rfl
  rw [e,map_id] at this
  exact this
 ·rw [map_map]
  have:∀ d∈l,(sg ∘ unsg) d=id d:=fun d hd=>by
   obtain ⟨c,_,rfl⟩:=mem_map.mp (h.mem_iff.mp hd)
   rfl
  rw [map_congr_left this,map_id]
theorem zam:big=1000000:=rfl
theorem zaO {lo:Int} {n:Nat}:(fromTo lo n).length=n:=by simp [fromTo]
theorem zgn {l:List D} {k:Nat} {d:D} (h:l[k]?=some d):(l.map S.sh)[k]?=some (.sh d):=by rw [getElem?_map,h]; rfl
theorem zaG {α β:Type} {f:α->β} {l:List α} {z:Int} (h0:0<=z) (h1:z < l.length):∃ v,v∈l/\l[z.toNat]?=some v/\atI (l.map f) z=some (f v):=by
 have hz:z.toNat < l.length:=by lia
 exact ⟨l[z.toNat],getElem_mem hz,getElem?_eq_getElem hz,zbr h0 (by rw [getElem?_map,getElem?_eq_getElem hz]; rfl)⟩
theorem zdh {α:Type} {l:List α} {z:Int} (h0:0<=z) (h1:z < l.length):∃ v,v∈l/\l[z.toNat]?=some v/\atI l z=some v:=by
 have hz:z.toNat < l.length:=by lia
 exact ⟨l[z.toNat],getElem_mem hz,getElem?_eq_getElem hz,zbr h0 (getElem?_eq_getElem hz)⟩
theorem zcF {α β:Type} {f:α->β}:∀ (l:List α) (k:Nat),(l.map f).eraseIdx k=(l.eraseIdx k).map f
 | [],_=>rfl
 | _::_,0=>rfl
 | x::l,k + 1=>by
   show f x::(l.map f).eraseIdx k=f x::(l.eraseIdx k).map f
   rw [zcF l k]
theorem zjZ {α β:Type} (f:α->β) (l:List α) (a b:Option Int):cutL (l.map f) a b=(cutL l a b).map f:=by
 unfold cutL
 rw [length_map,<- map_drop,<- List.map_take]
theorem zaN {α:Type} (l:List α) (a b:Option Int):(cutL l a b).length<=l.length:=by
 unfold cutL
 rw [length_take,length_drop]
 lia
theorem zbm {α:Type} {l:List α} {a b:Option Int} {x:α} (h:x∈cutL l a b):x∈l:=by
 unfold cutL at h
 exact List.mem_of_mem_drop (List.mem_of_mem_take h)
theorem zfh {α:Type} (l:List α) {k:Int} (h0:0<=k) (h1:k<=l.length):cutL l none (some k)=l.take k.toNat:=by
 unfold cutL sIx
 have:¬ k < 0:=by lia
 simp only [if_neg this,drop_zero,sub_zero]
 congr 1
 lia
theorem zcL {α:Type} (l:List α) {k:Int} (h0:0<=k):cutL l (some k) none=l.drop k.toNat:=by
 unfold cutL sIx
 have:¬ k < 0:=by lia
 simp only [if_neg this]
 by_cases h:k.toNat<=l.length
 ·rw [min_eq_left h,take_of_length_le]
  rw [length_drop]; lia
 ·have h2:l.length<=k.toNat:=by lia
  rw [min_eq_right h2,drop_of_length_le (le_refl _),drop_of_length_le h2,take_nil]
theorem zcu:∀ l:List Int,deps (l.map D.int)=0
 | []=>rfl
 | z::l=>by
   show max (dep (.int z)) (deps (l.map D.int))=0
   rw [zcu l]; rfl
theorem zda {α:Type}:∀ (l:List α) (i:Nat) (h:i < l.length),(l[i]::l.eraseIdx i).Perm l
 | x::l,0,_=>List.Perm.refl _
 | x::l,i + 1,h=>by
   have hi:i < l.length:=by simpa using h
   exact (List.Perm.swap x l[i] _).trans (List.Perm.cons x (zda l i hi))
def kbX2 (b:WB) (K:Env->Prop) (E:WX):Bool->Env->Prop:=fun k ρ=>if k then b ρ K E else K ρ
def kbX (c:WT) (b:WB) (K:Env->Prop) (E:WX):Env->Prop:=fun ρ=>c ρ (kbX2 b K E) E
theorem x_bX {c:WT} {b:WB} {K:Env->Prop} {E:WX} {ρ:Env}:kbX c b K E ρ=c ρ (kbX2 b K E) E:=rfl
theorem zeS {b:WB} {K:Env->Prop} {E:WX} {ρ:Env}:kbX2 b K E true ρ=b ρ K E:=rfl
theorem zld {b:WB} {K:Env->Prop} {E:WX} {ρ:Env}:kbX2 b K E false ρ=K ρ:=rfl
theorem zkh {α:Type} {toD:α->D} {g:WG} {c:WT} {b:WB} {E:WX} {Q:Env->Prop} (I:List α->Env->Prop) (xs:List α)
  (step:∀ (pre:List α) (x:α) (post:List α) (K:Env->Prop) (ρ:Env),pre++x::post=xs->I pre ρ->(∀ ρ',I (pre++[x]) ρ'->K ρ')->g (.sh (toD x)) ρ (kbX c b K E))
  (fin:∀ ρ,I xs ρ->Q ρ) {ρ:Env} (h0:I [] ρ):bLoop g c b (xs.map toD) ρ Q E:=by
 have gen:∀ (post pre:List α) (ρ:Env),pre++post=xs->I pre ρ->bLoop g c b (post.map toD) ρ Q E:=by
  intro post
  induction post with
  | nil=>intro pre ρ e h; rw [append_nil] at e; subst e; exact fin ρ h
  | cons x post ih=>
    intro pre ρ e h
    rw [map_cons,e_bL]
    exact step pre x post (kbL3 g c b (post.map toD) Q E) ρ e h fun ρ' h'=>ih (pre++[x]) ρ' (by rw [<- e]; simp) h'
 exact gen xs [] ρ rfl h0
theorem za7 {α:Type} {toD:α->D} {g:WG} {b:WS} {D':Ends} (I:List α->Env->Prop) (xs:List α)
  (step:∀ (pre:List α) (x:α) (post:List α) (D2:Ends) (ρ:Env),pre++x::post=xs->I pre ρ->(∀ ρ',I (pre++[x]) ρ'->D2.nx ρ')->(∀ ρ',I (pre++[x]) ρ'->D2.ct ρ')->D2.rt=D'.rt->D2.bk=D'.nx->g (.sh (toD x)) ρ (fun ρ=>b D2 ρ))
  (fin:∀ ρ,I xs ρ->D'.nx ρ) {ρ:Env} (h0:I [] ρ):wLoop g b (xs.map toD) D' ρ:=by
 have gen:∀ (post pre:List α) (ρ:Env),pre++post=xs->I pre ρ->wLoop g b (post.map toD) D' ρ:=by
  intro post
  induction post with
  | nil=>intro pre ρ e h; rw [append_nil] at e; subst e; exact fin ρ h
  | cons x post ih=>
    intro pre ρ e h
    rw [map_cons,e_Lp]
    have k:=fun ρ' h'=>ih (pre++[x]) ρ' (by rw [<- e]; simp) h'
    exact step pre x post (lpE g b (post.map toD) D') ρ e h k k rfl rfl
 exact gen xs [] ρ rfl h0
theorem zg8 {α:Type} {toD:α->D} {k:Nat} {g:WG} {c:WT} {b:WB} {E:WX} {Q:Env->Prop} (I:List α->List S->Env->Prop) (xs:List α)
  (step:∀ (pre:List α) (x:α) (post:List α) (l:List S) (ρ:Env) (vs:List (Option S)) (K:Env->Prop),pre++x::post=xs->vs.length=k->I pre l ρ->(∀ l' ρ1 vs',vs'.length=k->I (pre++[x]) l' ρ1->K (ρ1++some (.lst l')::vs'))->g (.sh (toD x)) (ρ++some (.lst l)::vs) (kbX c b K E))
  (fin:∀ l ρ vs,vs.length=k->I xs l ρ->Q (ρ++some (.lst l)::vs)) {ρ:Env} {vs:List (Option S)} (hv:vs.length=k) (h0:I [] [] ρ):bLoop g c b (xs.map toD) (ρ++some (.lst [])::vs) Q E:=by
 refine zkh (fun pre ρ'=>∃ l ρ1 vs',vs'.length=k/\I pre l ρ1/\ρ'=ρ1++some (.lst l)::vs') xs (fun pre x post K ρ' e hI hK=>?_) (fun ρ' hI=>?_) ⟨[],ρ,vs,hv,h0,rfl⟩
 ·obtain ⟨l,ρ1,vs',h1,h2,rfl⟩:=hI
  exact step pre x post l ρ1 vs' K e h1 h2 fun l' ρ2 vs2 h3 h4=>hK _ ⟨l',ρ2,vs2,h3,h4,rfl⟩
 ·obtain ⟨l,ρ1,vs',h1,h2,rfl⟩:=hI
  exact fin l ρ1 vs' h1 h2
theorem zlX {α:Type} {toD:α->D} {k:Nat} {g:WG} {c:WT} {b:WB} {E:WX} {Q:Env->Prop} {ρ:Env} (xs:List α) (h:α->Option S)
  (step:∀ x∈xs,∀ (l:List S) (vs:List (Option S)) (K:Env->Prop),vs.length=k->l.length < xs.length->(∀ vs',vs'.length=k->K (ρ++some (.lst (l++(h x).toList))::vs'))->g (.sh (toD x)) (ρ++some (.lst l)::vs) (kbX c b K E))
  (fin:∀ vs,vs.length=k->Q (ρ++some (.lst (xs.filterMap h))::vs)) {vs:List (Option S)} (hv:vs.length=k):bLoop g c b (xs.map toD) (ρ++some (.lst [])::vs) Q E:=by
 refine zg8 (fun pre l ρ'=>ρ'=ρ/\l=pre.filterMap h) xs (fun pre x post l ρ' vs K e h1 h2 hK=>?_) (fun l ρ' vs h1 h2=>?_) hv ⟨rfl,rfl⟩
 ·obtain ⟨rfl,rfl⟩:=h2
  have hl:(pre.filterMap h).length < xs.length:=by
   have:=List.length_filterMap_le h pre
   rw [<- e]; simp only [length_append,length_cons]; lia
  refine step x (by rw [<- e]; simp) _ vs K h1 hl fun vs' h3=>hK _ _ vs' h3 ⟨rfl,?_⟩
  rw [List.filterMap_append]
  cases q:h x <;> simp [q]
 ·obtain ⟨rfl,rfl⟩:=h2
  exact fin vs h1
theorem len1v {vs:List (Option S)} (h:vs.length=1):∃ a,vs=[a]:=by
 match vs,h with
 | [a],_=>exact ⟨a,rfl⟩
theorem len3v {vs:List (Option S)} (h:vs.length=3):∃ a b c,vs=[a,b,c]:=by
 match vs,h with
 | [a,b,c],_=>exact ⟨a,b,c,rfl⟩
section
variable {α:Type} {toD:α->D} {n:Nat} {c:WT} {b:WB} {E:WX} {Q:Env->Prop} {ρ:Env}
theorem bl1 (xs:List α) (h:α->Option S)
  (step:∀ x∈xs,∀ (l:List S) (o:Option S) (K:Env->Prop),l.length < xs.length->(∀ o,K (ρ.take n++[some (.lst (l++(h x).toList)),o]))->gName (n + 1) (.sh (toD x)) (ρ.take n++[some (.lst l),o]) (kbX c b K E))
  (fin:∀ o,Q (ρ.take n++[some (.lst (xs.filterMap h)),o])) {o0:Option S} (e:ρ=ρ.take n++[some (.lst []),o0]:=by rfl):bLoop (gName (n + 1)) c b (xs.map toD) ρ Q E:=by
 rw [e]
 refine zlX (k:=1) xs h (fun x hx l vs K hv hl hK=>?_) (fun vs hv=>?_) rfl
 ·obtain ⟨a,rfl⟩:=len1v hv
  exact step x hx l a K hl fun o=>hK [o] rfl
 ·obtain ⟨a,rfl⟩:=len1v hv
  exact fin a
theorem bm1 (xs:List α) (h:α->S)
  (step:∀ x∈xs,∀ (l:List S) (o:Option S) (K:Env->Prop),l.length < xs.length->(∀ o,K (ρ.take n++[some (.lst (l++[h x])),o]))->gName (n + 1) (.sh (toD x)) (ρ.take n++[some (.lst l),o]) (kbX c b K E))
  (fin:∀ o,Q (ρ.take n++[some (.lst (xs.map h)),o])) {o0:Option S} (e:ρ=ρ.take n++[some (.lst []),o0]:=by rfl):bLoop (gName (n + 1)) c b (xs.map toD) ρ Q E:=
 bl1 xs (fun x=>some (h x)) step (fun o=>by rw [show (xs.filterMap fun x=>some (h x))=xs.map h from List.filterMap_eq_map ▸ rfl]; exact fin o) e
end
theorem bd1 {β:Type} (emb:β->S) {n:Nat} {c:WT} {b:WB} {E:WX} {Q:Env->Prop} {ρ:Env} (xs:List D) (I:Env->Prop) (P:β->Prop)
  (step:∀ x∈xs,∀ (ρ:Env) (A:List β) (o:Option S) (K:Env->Prop),I ρ->A.length < xs.length->(∀ ρ1 y o1,I ρ1->P y->K (ρ1++[some (.lst (A.map emb++[emb y])),o1]))->gName (n + 1) (.sh x) (ρ++[some (.lst (A.map emb)),o]) (kbX c b K E))
  (fin:∀ ρ (A:List β) o,I ρ->A.length=xs.length->(∀ y∈A,P y)->Q (ρ++[some (.lst (A.map emb)),o])) (h0:I (ρ.take n)) {o0:Option S} (e:ρ=ρ.take n++[some (.lst []),o0]:=by rfl):bLoop (gName (n + 1)) c b xs ρ Q E:=by
 rw [e]
 have:=zg8 (toD:=fun x:D=>x) (k:=1) (g:=gName (n + 1)) (c:=c) (b:=b) (E:=E) (Q:=Q) (fun pre l ρ'=>I ρ'/\∃ A:List β,l=A.map emb/\A.length=pre.length/\∀ y∈A,P y) xs (fun pre x post l ρ' vs K e h1 h2 hK=>?_) (fun l ρ' vs h1 h2=>?_) (ρ:=ρ.take n) (vs:=[o0]) rfl ⟨h0,[],rfl,rfl,fun y hy=>nomatch hy⟩
 ·rwa [List.map_id'] at this
 ·obtain ⟨hI,A,rfl,hA,hP⟩:=h2
  obtain ⟨a,rfl⟩:=len1v h1
  refine step x (by rw [<- e]; simp) ρ' A a K hI (by rw [hA,<- e]; simp only [length_append,length_cons]; lia) fun ρ1 y o1 h3 h4=>hK _ ρ1 [o1] rfl ⟨h3,A++[y],by simp,by simp [hA],fun z hz=>?_⟩
  rcases mem_append.mp hz with q | q
  ·exact hP z q
  ·rw [mem_singleton.mp q]; exact h4
 ·obtain ⟨hI,A,rfl,hA,hP⟩:=h2
  obtain ⟨a,rfl⟩:=len1v h1
  exact fin ρ' A a hI hA hP
theorem lpn {g:WG} {b:WS} {D':Ends} (I:Nat->Env->Prop) (xs:List D)
  (step:∀ (k:Nat) (x:D),xs[k]?=some x->∀ (D2:Ends) (ρ:Env),I k ρ->(∀ ρ',I (k + 1) ρ'->D2.nx ρ')->(∀ ρ',I (k + 1) ρ'->D2.ct ρ')->D2.rt=D'.rt->D2.bk=D'.nx->g (.sh x) ρ (fun ρ=>b D2 ρ))
  (fin:∀ ρ,I xs.length ρ->D'.nx ρ) {ρ:Env} (h0:I 0 ρ):wLoop g b xs D' ρ:=by
 have:=za7 (toD:=fun x:D=>x) (g:=g) (b:=b) (D':=D') (fun pre ρ=>I pre.length ρ) xs (fun pre x post D2 ρ e hI hnx hct hrt hbk=>step pre.length x (by rw [<- e]; simp) D2 ρ hI (fun ρ' h=>hnx ρ' (by simpa using h)) (fun ρ' h=>hct ρ' (by simpa using h)) hrt hbk) fin h0
 rwa [List.map_id'] at this
theorem bf {α:Type} {toD:α->D} {n k:Nat} {g:WG} {c:WT} {b:WB} {E:WX} {Q:Env->Prop} {ρ:Env} (xs:List α) (h:α->List S)
  (step:∀ x∈xs,∀ (l:List S) (vs:List (Option S)) (K:Env->Prop),vs.length=k->l.length + (h x).length<=(xs.flatMap h).length->(∀ vs',vs'.length=k->K (ρ.take n++some (.lst (l++h x))::vs'))->g (.sh (toD x)) (ρ.take n++some (.lst l)::vs) (kbX c b K E))
  (fin:∀ vs,vs.length=k->Q (ρ.take n++some (.lst (xs.flatMap h))::vs)) {vs:List (Option S)} (e:ρ=ρ.take n++some (.lst [])::vs:=by rfl) (hv:vs.length=k:=by rfl):bLoop g c b (xs.map toD) ρ Q E:=by
 rw [e]
 refine zg8 (fun pre l ρ'=>ρ'=ρ.take n/\l=pre.flatMap h) xs (fun pre x post l ρ' vs K e h1 h2 hK=>?_) (fun l ρ' vs h1 h2=>?_) hv ⟨rfl,rfl⟩
 ·obtain ⟨rfl,rfl⟩:=h2
  have hl:(pre.flatMap h).length + (h x).length<=(xs.flatMap h).length:=by
   rw [<- e,flatMap_append,flatMap_cons,length_append,length_append]; lia
  exact step x (by rw [<- e]; simp) _ vs K h1 hl fun vs' h3=>hK _ _ vs' h3 ⟨rfl,by rw [flatMap_append]; simp⟩
 ·obtain ⟨rfl,rfl⟩:=h2
  exact fin vs h1
section
variable {α:Type} {toD:α->D} {g:WG} {c:WT} {b:WB} {E:WX} {Q:Env->Prop}
theorem bi2 (F:List S->Option S->Option S->Env) (xs:List α) (h:α->Option S) {l0:List S}
  (step:∀ x∈xs,∀ (l:List S) (o o':Option S) (K:Env->Prop),l.length + (h x).toList.length<=l0.length + (xs.filterMap h).length->(∀ o o',K (F (l++(h x).toList) o o'))->g (.sh (toD x)) (F l o o') (kbX c b K E))
  (fin:∀ o o',Q (F (l0++xs.filterMap h) o o')) {o0 o1:Option S}:bLoop g c b (xs.map toD) (F l0 o0 o1) Q E:=by
 refine zkh (fun pre ρ'=>∃ o o',ρ'=F (l0++pre.filterMap h) o o') xs (fun pre x post K ρ' e hI hK=>?_) (fun ρ' hI=>?_) ⟨o0,o1,by simp⟩
 ·obtain ⟨o,o',rfl⟩:=hI
  refine step x (by rw [<- e]; simp) _ o o' K ?_ fun o o'=>hK _ ⟨o,o',?_⟩
  ·rw [<- e,List.filterMap_append,length_append,length_append]
   cases q:h x <;> simp [q] <;> lia
  ·rw [List.filterMap_append]
   cases q:h x <;> simp [q]
 ·obtain ⟨o,o',rfl⟩:=hI
  exact fin o o'
end
theorem zjS {x:Int} {l:List Int}:tupsD ((x::l).map D.int)=none:=rfl
theorem ziV {x:List Nat} {l:List (List Nat)}:tupsD ((x::l).map D.str)=none:=rfl
theorem zjL:∀ l:List Int,∀ d∈l.map D.int,IsInt d:=fun l d hd=>by
 obtain ⟨x,_,rfl⟩:=mem_map.mp hd
 trivial
theorem zf1:∀ l:List (List Nat),∀ d∈l.map D.str,IsStr d:=fun l d hd=>by
 obtain ⟨x,_,rfl⟩:=mem_map.mp hd
 trivial
theorem zf4 {l:List D} (h64:l.length < 64) (ht:sortT l=none) (hk:(intsD l).isSome\/(strsD l).isSome):bSort3 [.lst l]=some (.lst ((sortD l).map .sh)):=by
 show sort3 _=_
 unfold sort3
 by_cases h2:l.length < 2
 ·rw [if_pos h2]
  match l,h2 with
  | [],_=>rfl
  | [_],_=>rfl
  | _::_::_,h2=>simp at h2; lia
 ·rw [if_neg h2,ht]
  show sortS l=_
  unfold sortS
  rw [if_pos ⟨h64,hk⟩]
theorem zgQ {l:List Int} (h64:l.length < 64):bSort3 [.lst (l.map .int)]=some (.lst ((sortD (l.map .int)).map .sh)):=by
 refine zf4 (by simpa using h64) ?_ (.inl (by rw [zbQ]; rfl))
 unfold sortT
 cases l with
 | nil=>rfl
 | cons x l=>rw [if_neg]; rw [zjS]; simp
theorem zgE {l:List (List Nat)} (h64:l.length < 64):bSort3 [.lst (l.map .str)]=some (.lst ((sortD (l.map .str)).map .sh)):=by
 refine zf4 (by simpa using h64) ?_ (.inr (by rw [zek]; rfl))
 unfold sortT
 cases l with
 | nil=>rfl
 | cons x l=>rw [if_neg]; rw [ziV]; simp
theorem zis {l m:List Int} (h64:l.length < 64) (p:m.Perm l) (hs:m.Pairwise (·<=·)):bSort3 [.lst (l.map .int)]=some (.lst ((m.map .int).map .sh)):=by
 rw [zgQ h64,za2 zdL (zjL l) (p.map _)]
 rw [pairwise_map]
 exact hs.imp fun h=>by simpa using h
theorem znP {a b:Nat}:([a]:List Nat) < [b]↔a < b:=by simp [cons_lt_cons_iff]
theorem zlm {A:List Nat} (h:A.length < 64):∃ A':List Nat,A'.Perm A/\A'.Pairwise (·<=·)/\bSort3 [.lst (A.map sg)]=some (.lst ((A'.map sg).map .sh)):=by
 have e:A.map sg=(A.map fun c=>[c]).map D.str:=by rw [map_map]; rfl
 obtain ⟨A',hp,e2⟩:=zln (zaX (A.map sg))
 refine ⟨A',hp,?_,?_⟩
 ·have hs:=zbd zfv (A.map sg) (by rw [e]; exact zf1 _)
  rw [e2,pairwise_map] at hs
  refine hs.imp fun {a b} h=>?_
  have h':(!decide (([b]:List Nat) < [a]))=true:=by rw [<- zcw]; exact h
  have h2:¬ ([b]:List Nat) < [a]:=by simpa using h'
  rw [znP] at h2
  lia
 ·rw [e,zgE (by simpa using h),<- e,e2]
theorem zhb {l:List Nat} (h:l.Pairwise (·<=·)) (hn:l.Nodup):l.Pairwise (· < ·):=by
 have:=h.and hn
 exact this.imp fun ⟨h1,h2⟩=>by lia
theorem znV {x:D} {z:List Nat} (h:IsStr x):(clash x (.str z) || decide (30 < dep x))=false:=by
 cases x with
 | str i=>rfl
 | _=>exact h.elim
theorem zcK {z:List Nat} {ns:List (List Nat)}:(if (ns.map D.str).any (fun x=>clash x (.str z) || decide (30 < dep x)) then none else some (open Classical in decide (D.str z∈ns.map D.str)))=some (decide (z∈ns)):=by
 rw [if_neg]
 ·congr 1
  refine decide_eq_decide.mpr ⟨fun h=>?_,fun h=>mem_map.mpr ⟨z,h,rfl⟩⟩
  obtain ⟨y,hy,e⟩:=mem_map.mp h
  cases e
  exact hy
 ·intro h
  obtain ⟨x,hx,e⟩:=any_eq_true.mp h
  rw [znV (zf1 ns x hx)] at e
  cases e
theorem zf3 {z:List Nat} {ns:List (List Nat)}:cIn (.str z) (.tup (ns.map D.str))=some (decide (z∈ns)):=zcK
theorem zj4 {z:List Nat} {ns:List (List Nat)}:cIn (.str z) (.lst (ns.map D.str))=some (decide (z∈ns)):=zcK
theorem zkR {α β:Type} (p:α->Bool) (f:α->β):∀ l:List α,(l.filterMap fun x=>if p x=true then some (f x) else none)=(l.filter p).map f
 | []=>rfl
 | x::l=>by
   have ih:=zkR p f l
   cases q:p x <;> simp [q,ih]
theorem zbl {α:Type} [DecidableEq α]:∀ (l m:List α),l.Nodup->(∀ x∈l,x∈m)->l.length<=m.length
 | [],m,_,_=>by simp
 | x::l,m,hn,hs=>by
   obtain ⟨h1,h2⟩:=nodup_cons.mp hn
   have hx:x∈m:=hs x (by simp)
   have:=zbl l (m.erase x) h2 fun y hy=>by
    refine (List.mem_erase_of_ne ?_).mpr (hs y (by simp [hy]))
    intro z; subst z; exact h1 hy
   rw [List.length_erase_of_mem hx] at this
   have hp:=List.length_pos_of_mem hx
   rw [length_cons]
   lia
theorem zer:∀ l:List (List Nat),deps (l.map D.str)=0
 | []=>rfl
 | z::l=>by
   show max (dep (.str z)) (deps (l.map D.str))=0
   rw [zer l]; rfl
theorem zjc {l:List (List Nat)}:cNe (.lst (l.map D.str)) (.lst [])=some (!decide (l=[])):=by
 unfold cNe cEq
 rw [if_neg (by
  have:dep (.lst (l.map D.str))=1:=by show deps (l.map D.str) + 1=1; rw [zer]
  rw [this]
  cases l <;> exact fun z=>Bool.noConfusion (show false=true from z))]
 simp
theorem zfd {n:Nat}:∀ l:List D,(∀ d∈l,dep d<=n)->deps l<=n
 | [],_=>zero_le _
 | d::l,h=>by
   show max (dep d) (deps l)<=n
   have h1:=h d (by simp)
   have h2:=zfd l fun x hx=>h x (by simp [hx])
   lia
theorem zfC {l:List D} (h:deps l<=29):cNe (.lst l) (.lst [])=some (!l.isEmpty):=by
 unfold cNe cEq
 rw [if_neg (by
  have:dep (.lst l)=deps l + 1:=rfl
  rw [this]
  cases l with
  | nil=>exact fun z=>Bool.noConfusion (show false=true from z)
  | cons x l=>exact fun z=>absurd (of_decide_eq_true (show decide (30 < deps (x::l) + 1)=true from z)) (by lia))]
 cases l <;> simp
theorem vcons {α:Type} {n:Nat} {l:List α} (h:l.length=n + 1):∃ a r,l=a::r/\r.length=n:=by
 cases l with
 | nil=>cases h
 | cons a r=>exact ⟨a,r,rfl,Nat.succ.inj h⟩
theorem vnil {α:Type} {l:List α} (h:l.length=0):l=[]:=List.length_eq_zero_iff.mp h
theorem vlen1 {α:Type} {l:List α} (h:l.length=1):∃ a,l=[a]:=by
 obtain ⟨a,r,rfl,k⟩:=vcons h
 obtain rfl:=vnil k
 exact ⟨a,rfl⟩
theorem vlen2 {α:Type} {l:List α} (h:l.length=2):∃ a0 a1,l=[a0,a1]:=by
 obtain ⟨a0,r,rfl,k⟩:=vcons h
 obtain ⟨a1,rfl⟩:=vlen1 k
 exact ⟨a0,a1,rfl⟩
theorem vlen3 {α:Type} {l:List α} (h:l.length=3):∃ a0 a1 a2,l=[a0,a1,a2]:=by
 obtain ⟨a0,r,rfl,k⟩:=vcons h
 obtain ⟨a1,a2,rfl⟩:=vlen2 k
 exact ⟨a0,a1,a2,rfl⟩
theorem vlen4 {α:Type} {l:List α} (h:l.length=4):∃ a0 a1 a2 a3,l=[a0,a1,a2,a3]:=by
 obtain ⟨a0,r,rfl,k⟩:=vcons h
 obtain ⟨a1,a2,a3,rfl⟩:=vlen3 k
 exact ⟨a0,a1,a2,a3,rfl⟩
theorem zcY:∀ l m:List Int,cmpDs (l.map D.int) (m.map D.int)=if l < m then .lt else if m < l then .gt else .eq
 | [],[]=>by simp [cmpDs]
 | [],b::m=>by simp [cmpDs]
 | a::l,[]=>by simp [cmpDs]
 | a::l,b::m=>by
   have ih:=zcY l m
   rw [map_cons,map_cons,cmpDs]
   unfold cmpD
   by_cases h1:a < b
   ·rw [if_pos h1,if_pos (cons_lt_cons_iff.mpr (.inl h1))]
   ·rw [if_neg h1]
    by_cases h2:b < a
    ·rw [if_pos h2,if_neg (by rw [cons_lt_cons_iff]; rintro (h | ⟨h,_⟩) <;> lia),if_pos (cons_lt_cons_iff.mpr (.inl h2))]
    ·have e:a=b:=by lia
     subst e
     rw [if_neg h2]
     show cmpDs (l.map D.int) (m.map D.int)=_
     rw [ih]
     have e1:(a::l < a::m)↔l < m:=by rw [cons_lt_cons_iff]; constructor
                                     ·rintro (h | ⟨_,h⟩)
                                      ·lia
                                      ·exact h
                                     ·intro h; exact .inr ⟨rfl,h⟩
     have e2:(a::m < a::l)↔m < l:=by rw [cons_lt_cons_iff]; constructor
                                     ·rintro (h | ⟨_,h⟩)
                                      ·lia
                                      ·exact h
                                     ·intro h; exact .inr ⟨rfl,h⟩
     simp only [e1,e2]
theorem zfW (l m:List Int):leD (tI l) (tI m)=!decide (m < l):=by
 unfold leD tI
 rw [show cmpD (.tup (l.map D.int)) (.tup (m.map D.int))=cmpDs (l.map D.int) (m.map D.int) from rfl,zcY]
 by_cases h:l < m
 ·rw [if_pos h,decide_eq_false (fun h'=>lt_asymm h h')]; rfl
 ·rw [if_neg h]
  by_cases h2:m < l
  ·rw [if_pos h2,decide_eq_true h2]; rfl
  ·rw [if_neg h2,decide_eq_false h2]; rfl
def IsTP (d:D):Prop:=∃ l:List Int,d=tI l
theorem zoc:OrdOn IsTP where
 tot:=by
  rintro _ _ ⟨a,rfl⟩ ⟨b,rfl⟩
  simp only [zfW,Bool.not_eq_true',decide_eq_false_iff_not]
  by_cases h:b < a
  ·exact .inr fun h'=>lt_asymm h h'
  ·exact .inl h
 tr:=by
  rintro _ _ _ ⟨a,rfl⟩ ⟨b,rfl⟩ ⟨c,rfl⟩
  simp only [zfW,Bool.not_eq_true',decide_eq_false_iff_not]
  intro h1 h2
  exact fun h=>(List.le_trans (l₁:=a) (l₂:=b) (l₃:=c) h1 h2) h
 anti:=by
  rintro _ _ ⟨a,rfl⟩ ⟨b,rfl⟩
  simp only [zfW,Bool.not_eq_true',decide_eq_false_iff_not]
  intro h1 h2
  have:a=b:=List.le_antisymm (as:=a) (bs:=b) h1 h2
  rw [this]
theorem zjb {ls ms:List (List Int)} (h64:ls.length < 64) (hne:∀ x∈ls,x≠[]) (p:ms.Perm ls) (hs:ms.Pairwise fun a b=>¬ b < a):bSort3 [.lst (ls.map tI)]=some (.lst ((ms.map tI).map .sh)):=by
 rw [zgl h64 hne,za2 zoc (fun d hd=>by obtain ⟨x,_,rfl⟩:=mem_map.mp hd; exact ⟨x,rfl⟩) (p.map _)]
 rw [pairwise_map]
 exact hs.imp fun h=>by rw [zfW]; simpa using h
abbrev Wd:=List Nat
def seg (w:Wd) (i j:Nat):Wd:=(w.drop i).take (j - i)
theorem zd3 {α:Type} (l:List α) (i j:Nat):cutL l (some (i:Int)) (some (j:Int))=(l.drop i).take (j - i):=by
 unfold cutL sIx
 have h1:¬ (i:Int) < 0:=by lia
 have h2:¬ (j:Int) < 0:=by lia
 simp only [if_neg h1,if_neg h2,toNat_natCast]
 by_cases hi:i<=l.length
 ·rw [min_eq_left hi]
  by_cases hj:j<=l.length
  ·rw [min_eq_left hj]
  ·rw [min_eq_right (by lia),take_of_length_le (by rw [length_drop]; lia),take_of_length_le (by rw [length_drop]; lia)]
 ·rw [min_eq_right (a:=i) (by lia),drop_of_length_le (i:=l.length) (le_refl _),drop_of_length_le (i:=i) (by lia),take_nil,take_nil]
theorem zcB (w:Wd) (i j:Nat):cutL w (some (i:Int)) (some (j:Int))=seg w i j:=zd3 w i j
theorem zdA {w:Wd} {i j:Nat} (h1:i<=j) (h2:j<=w.length):(seg w i j).length=j - i:=by
 unfold seg; rw [length_take,length_drop]; lia
def tieB (B:List Wd) (w:Wd) (i j:Nat):Bool:=decide (i < j) && (decide (j<=w.length) && decide (seg w i j∈B))
theorem zap {B:List Wd} {w:Wd} {i j:Nat}:tieB B w i j=true↔i < j/\j<=w.length/\seg w i j∈B:=by
 unfold tieB; simp [and_eq_true]
def tie (B:List Wd) (w:Wd) (p q:Nat):Bool:=tieB B w p q || tieB B w q p
theorem zd2 {B:List Wd} {w:Wd} {p q:Nat}:tie B w p q=tie B w q p:=by unfold tie; rw [Bool.or_comm]
def nb (B:List Wd) (w:Wd) (p:Nat):List Nat:=(List.range (w.length + 1)).filter fun q=>tie B w p q
theorem zaR {B:List Wd} {w:Wd} {p q:Nat}:q∈nb B w p↔tie B w p q=true:=by
 unfold nb
 rw [mem_filter,mem_range]
 refine ⟨fun h=>h.2,fun h=>⟨?_,h⟩⟩
 unfold tie at h
 rw [or_eq_true,zap,zap] at h
 lia
theorem zcT {B:List Wd} {w:Wd} {p:Nat}:(nb B w p).Pairwise (· < ·):=List.Pairwise.filter _ List.pairwise_lt_range
theorem zgT {B:List Wd} {w:Wd} {p q:Nat} (h:q∈nb B w p):q<=w.length/\p<=w.length/\p≠q:=by
 rw [zaR] at h
 unfold tie at h
 rw [or_eq_true,zap,zap] at h
 lia
abbrev Tr:=Nat×Nat×Nat
def strI (B:List Wd) (w:Wd) (i:Nat):List Tr:=(List.range (w.length + 1)).filterMap fun j=>if tieB B w i j=true then some (i,j,B.idxOf (seg w i j)) else none
def strP (B:List Wd) (w:Wd):List Tr:=(List.range w.length).flatMap (strI B w)
def rawI (B:List Wd) (w:Wd) (i:Nat):List Tr:=(List.range B.length).filterMap fun k=>if decide (seg w i (i + ((B[k]?).getD []).length)=(B[k]?).getD [])=true then some (i,i + ((B[k]?).getD []).length,k) else none
theorem zbo {B:List Wd} {w:Wd} {i:Nat} {t:Tr}:t∈strI B w i↔t.1=i/\tieB B w i t.2.1=true/\t.2.2=B.idxOf (seg w i t.2.1):=by
 unfold strI
 rw [mem_filterMap]
 constructor
 ·rintro ⟨j,_,h⟩
  split at h
  ·rename_i hj
   cases h
   exact ⟨rfl,hj,rfl⟩
  ·cases h
 ·rintro ⟨h1,h2,h3⟩
  refine ⟨t.2.1,?_,?_⟩
  ·rw [mem_range]; have:=zap.mp h2; lia
  ·subst h1
   rw [if_pos h2,<- h3]
theorem zdV {B:List Wd} {w:Wd} {t:Tr}:t∈strP B w↔tieB B w t.1 t.2.1=true/\t.2.2=B.idxOf (seg w t.1 t.2.1):=by
 unfold strP
 rw [List.mem_flatMap]
 constructor
 ·rintro ⟨i,_,h⟩
  obtain ⟨h1,h2,h3⟩:=zbo.mp h
  rw [h1]; exact ⟨h2,h3⟩
 ·rintro ⟨h1,h2⟩
  refine ⟨t.1,?_,zbo.mpr ⟨rfl,h1,h2⟩⟩
  rw [mem_range]; have:=zap.mp h1; lia
theorem zbx {B:List Wd} {w:Wd} {i:Nat}:(strI B w i).Pairwise fun t u=>t.1=u.1/\t.2.1 < u.2.1:=by
 unfold strI
 rw [List.pairwise_filterMap]
 refine List.pairwise_lt_range.imp fun {a b} hab=>?_
 intro x hx y hy
 split at hx
 ·split at hy
  ·cases hx; cases hy
   exact ⟨rfl,hab⟩
  ·cases hy
 ·cases hx
theorem zcZ {B:List Wd} {w:Wd}:(strP B w).Pairwise fun t u=>t.1 < u.1\/(t.1=u.1/\t.2.1 < u.2.1):=by
 unfold strP
 rw [List.pairwise_flatMap]
 refine ⟨fun i _=>zbx.imp fun h=>.inr h,List.pairwise_lt_range.imp fun {a b} hab=>?_⟩
 intro x hx y hy
 have h1:=(zbo.mp hx).1
 have h2:=(zbo.mp hy).1
 left; lia
theorem zi5 {B:List Wd} {w:Wd} {i:Nat} {t:Tr}:t∈rawI B w i↔t.1=i/\∃ o,B[t.2.2]?=some o/\t.2.1=i + o.length/\seg w i (i + o.length)=o:=by
 unfold rawI
 rw [mem_filterMap]
 constructor
 ·rintro ⟨k,hk,h⟩
  rw [mem_range] at hk
  rw [getElem?_eq_getElem hk,getD_some] at h
  split at h
  ·rename_i hj
   cases h
   exact ⟨rfl,B[k],getElem?_eq_getElem hk,rfl,of_decide_eq_true hj⟩
  ·cases h
 ·rintro ⟨h1,o,h2,h3,h4⟩
  refine ⟨t.2.2,?_,?_⟩
  ·rw [mem_range]; exact (qi.mp h2).1
  ·rw [h2,getD_some,if_pos (decide_eq_true h4),<- h3,<- h1]
theorem zgg {B:List Wd} {w:Wd} {i:Nat} (hB:B.Nodup) (hne:∀ x∈B,x≠[]) (hi:i<=w.length):(strI B w i).Perm (rawI B w i):=by
 refine (List.perm_ext_iff_of_nodup ?_ ?_).mpr fun t=>?_
 ·exact zbx.imp fun ⟨_,h⟩ e=>by rw [e] at h; lia
 ·unfold rawI
  rw [List.Nodup,List.pairwise_filterMap]
  refine List.nodup_range.imp fun {a b} hab x hx y hy e=>?_
  subst e
  split at hx
  ·split at hy
   ·cases hx
    injection hy with hy
    injection hy with _ hy
    injection hy with _ hy
    exact hab hy.symm
   ·cases hy
  ·cases hx
 ·rw [zbo,zi5]
  constructor
  ·rintro ⟨h1,h2,h3⟩
   obtain ⟨a1,a2,a3⟩:=zap.mp h2
   have hl:=zdA (w:=w) (i:=i) (j:=t.2.1) (by lia) a2
   refine ⟨h1,seg w i t.2.1,?_,by rw [hl]; lia,by rw [hl]; congr 1; lia⟩
   rw [h3]
   rw [getElem?_eq_getElem (List.idxOf_lt_length_of_mem a3),getElem_idxOf]
  ·rintro ⟨h1,o,h2,h3,h4⟩
   have hm:o∈B:=mem_of_getElem? h2
   have ho:=hne o hm
   have hpos:0 < o.length:=length_pos_iff.mpr ho
   have hle:i + o.length<=w.length:=by
    have:=congrArg List.length h4
    unfold seg at this
    rw [length_take,length_drop] at this
    lia
   refine ⟨h1,zap.mpr ⟨by lia,by lia,by rw [h3,h4]; exact hm⟩,?_⟩
   rw [h3,h4]
   obtain ⟨hk,e⟩:=qi.mp h2
   rw [<- e]
   exact (hB.idxOf_getElem _ hk).symm
theorem ziP {B:List Wd} {w:Wd} {i:Nat} (hB:B.Nodup) (hne:∀ x∈B,x≠[]) (hi:i<=w.length):(strI B w i).length<=min B.length (w.length - i):=by
 refine Nat.le_min.mpr ⟨?_,?_⟩
 ·rw [(zgg hB hne hi).length_eq]
  unfold rawI
  exact le_trans (List.length_filterMap_le _ _) (by simp)
 ·have h:=zbl ((strI B w i).map (·.2.1)) (List.range' (i + 1) (w.length - i)) ?_ ?_
  ·simpa using h
  ·rw [List.Nodup,pairwise_map]
   exact zbx.imp fun ⟨_,h⟩=>by lia
  ·intro j hj
   obtain ⟨t,ht,rfl⟩:=mem_map.mp hj
   have:=zap.mp (zbo.mp ht).2.1
   rw [List.mem_range'_1]
   lia
theorem zea {α:Type} {f g:α->Nat}:∀ l:List α,(∀ x∈l,f x<=g x)->(l.map f).sum<=(l.map g).sum
 | [],_=>by simp
 | x::l,h=>by
   have h1:=h x (by simp)
   have h2:=zea l fun y hy=>h y (by simp [hy])
   simp only [map_cons,sum_cons]
   lia
theorem zfV {B:List Wd} {w:Wd} (hB:B.Nodup) (hne:∀ x∈B,x≠[]) (h6:B.length<=6) (h12:w.length<=12):(strP B w).length < 64:=by
 unfold strP
 rw [List.length_flatMap]
 have h1:=zea (f:=fun i=>(strI B w i).length) (g:=fun i=>min 6 (w.length - i)) (List.range w.length) fun i hi=>by
  have:=ziP (w:=w) (i:=i) hB hne (by rw [mem_range] at hi; lia)
  lia
 have h2:∀ n,n<=12->((List.range n).map fun i=>min 6 (n - i)).sum < 64:=by decide
 exact Nat.lt_of_le_of_lt h1 (h2 _ h12)
theorem zd8 {α β:Type} {f g:α->List β}:∀ l:List α,(∀ x∈l,(f x).Perm (g x))->(l.flatMap f).Perm (l.flatMap g)
 | [],_=>.refl _
 | x::l,h=>by
   rw [flatMap_cons,flatMap_cons]
   exact (h x (by simp)).append (zd8 l fun y hy=>h y (by simp [hy]))
theorem zeI {B:List Wd} {w:Wd} (hB:B.Nodup) (hne:∀ x∈B,x≠[]):(strP B w).Perm ((List.range w.length).flatMap (rawI B w)):=
 zd8 _ fun i hi=>zgg hB hne (by rw [mem_range] at hi; lia)
def trI (t:Tr):List Int:=[(t.1:Int),(t.2.1:Int),(t.2.2:Int)]
def trD (t:Tr):D:=tI (trI t)
theorem zkk (t:Tr):trD t=.tup [.int t.1,.int t.2.1,.int t.2.2]:=rfl
theorem ziB {B:List Wd} {w:Wd} {l:List Tr} (hp:(strP B w).Perm l) (h64:l.length < 64):bSort3 [.lst (l.map trD)]=some (.lst (((strP B w).map trD).map .sh)):=by
 have e:∀ l:List Tr,l.map trD=(l.map trI).map tI:=fun l=>by rw [map_map]; rfl
 rw [e,e]
 refine zjb (by simpa using h64) (fun x hx=>?_) (hp.map _) ?_
 ·obtain ⟨t,_,rfl⟩:=mem_map.mp hx
  exact fun z=>nomatch z
 ·rw [pairwise_map]
  refine zcZ.imp fun {t u} h=>?_
  unfold trI
  rw [cons_lt_cons_iff,cons_lt_cons_iff]
  rintro (h1 | ⟨h1,h2 | ⟨h2,_⟩⟩) <;> lia
theorem zfZ {α:Type} (f:α->D):∀ (B:List α) (k:Nat),enumF k (B.map f)=(List.range B.length).map fun i=>D.tup [.int ((k + i:Nat):Int),(B[i]?).elim .non f]
 | [],k=>rfl
 | b::B,k=>by
   rw [map_cons,enumF,zfZ f B (k + 1),length_cons,List.range_succ_eq_map,map_cons,map_map]
   congr 1
   refine map_congr_left fun i _=>?_
   show D.tup [.int ((k + 1 + i:Nat):Int),_]=D.tup [.int ((k + (i + 1):Nat):Int),_]
   rw [show k + 1 + i=k + (i + 1) by lia]
   rfl
theorem zig (B:List Wd):enumF 0 (B.map D.str)=(List.range B.length).map fun (k:Nat)=>D.tup [.int (k:Int),.str ((B[k]?).getD [])]:=by
 rw [zfZ]
 refine map_congr_left fun k hk=>?_
 rw [mem_range] at hk
 rw [getElem?_eq_getElem hk,zero_add]
 rfl
theorem from0 {z:Int} {n:Nat} (h:z=n):fromTo 0 z.toNat=(List.range n).map fun (k:Nat)=>D.int (k:Int):=by
 subst h
 unfold fromTo
 rw [toNat_natCast]
 refine map_congr_left fun k _=>?_
 rw [Int.zero_add]
theorem from1 {i z:Int} {a n:Nat} (hi:i=a) (h:z=n):fromTo i (z - i).toNat=(List.range' a (n - a)).map fun (k:Nat)=>D.int (k:Int):=by
 subst hi; subst h
 unfold fromTo
 rw [show ((n:Int) - (a:Int)).toNat=n - a by lia,List.range'_eq_map_range,map_map]
 refine map_congr_left fun k _=>?_
 show D.int ((a:Int) + (k:Int))=D.int ((a + k:Nat):Int)
 rw [natCast_add]
theorem zdQ {α β:Type} {f g:α->Option β}:∀ {l:List α},(∀ x∈l,f x=g x)->l.filterMap f=l.filterMap g
 | [],_=>rfl
 | x::l,h=>by
   rw [filterMap_cons,filterMap_cons,h x (by simp),zdQ fun y hy=>h y (by simp [hy])]
def natD (q:Nat):D:=.int (q:Int)
def fnd (n:Nat) (f:Nat->List Nat):List S:=(List.range (n + 1)).map fun p=>S.lst ((f p).map fun q=>S.sh (natD q))
theorem zhF {n i:Nat} {f:Nat->List Nat} (h:i<=n):(fnd n f)[i]?=some (.lst ((f i).map fun q=>S.sh (natD q))):=by
 unfold fnd
 rw [getElem?_map,getElem?_range (by lia)]
 rfl
def addTo (f:Nat->List Nat) (i j:Nat):Nat->List Nat:=fun p=>if p=i then f p++[j] else f p
theorem ziu {n i j:Nat} {f:Nat->List Nat} (h:i<=n):(fnd n f).set i (.lst (((f i).map fun q=>S.sh (natD q))++[.sh (natD j)]))=fnd n (addTo f i j):=by
 apply ext_getElem?
 intro k
 rw [getElem?_set]
 unfold fnd
 by_cases hk:i=k
 ·subst hk
  rw [if_pos rfl,if_pos (by simp; lia),getElem?_map,getElem?_range (by lia)]
  simp [addTo]
 ·rw [if_neg hk,getElem?_map,getElem?_map]
  by_cases h2:k < n + 1
  ·rw [getElem?_range h2]
   simp only [map_some,addTo,if_neg (Ne.symm hk)]
  ·rw [getElem?_eq_none (by simp; lia)]
   rfl
def Dn (i j p q:Nat):Prop:=p < i\/q < i\/p=i/\q < j\/q=i/\p < j
def GoneT (B:List Wd) (w:Wd) (i j:Nat) (f:Nat->List Nat):Prop:=∀ p,(f p).Nodup/\∀ q,q∈f p↔(tie B w p q=true/\Dn i j p q)
theorem DnS {i j p q:Nat}:Dn i (j + 1) p q↔Dn i j p q\/p=i/\q=j\/q=i/\p=j:=by
 unfold Dn
 rw [Nat.lt_succ_iff_lt_or_eq,Nat.lt_succ_iff_lt_or_eq]
 constructor
 ·rintro (h | h | ⟨h,k | k⟩ | ⟨h,k | k⟩)
  ·exact .inl (.inl h)
  ·exact .inl (.inr (.inl h))
  ·exact .inl (.inr (.inr (.inl ⟨h,k⟩)))
  ·exact .inr (.inl ⟨h,k⟩)
  ·exact .inl (.inr (.inr (.inr ⟨h,k⟩)))
  ·exact .inr (.inr ⟨h,k⟩)
 ·rintro ((h | h | h | h) | h | h)
  ·exact .inl h
  ·exact .inr (.inl h)
  ·exact .inr (.inr (.inl ⟨h.1,.inl h.2⟩))
  ·exact .inr (.inr (.inr ⟨h.1,.inl h.2⟩))
  ·exact .inr (.inr (.inl ⟨h.1,.inr h.2⟩))
  ·exact .inr (.inr (.inr ⟨h.1,.inr h.2⟩))
theorem znY {i j:Nat} (hij:i < j):¬Dn i j i j/\¬Dn i j j i:=by unfold Dn; lia
theorem ziw {B:List Wd} {w:Wd} {i j:Nat} (hij:i < j):tie B w i j=tieB B w i j:=by
 cases e:tieB B w j i with
 | false=>unfold tie; rw [e,Bool.or_false]
 | true=>exact absurd (zap.mp e).1 (Nat.lt_asymm hij)
theorem zlw {B:List Wd} {w:Wd} {i j:Nat} {f:Nat->List Nat} (hij:i < j) (h:GoneT B w i j f) (ht:tieB B w i j=false):GoneT B w i (j + 1) f:=fun p=>⟨(h p).1,fun q=>by
 rw [(h p).2 q,DnS]
 refine and_congr_right fun z=>⟨.inl,fun k=>k.elim id fun k=>?_⟩
 rcases k with ⟨rfl,rfl⟩ | ⟨rfl,rfl⟩
 ·rw [ziw hij,ht] at z; cases z
 ·rw [zd2,ziw hij,ht] at z; cases z⟩
theorem addOne {l:List Nat} {P Q:Nat->Prop} {a:Nat} (h1:l.Nodup) (h2:∀ q,q∈l↔P q) (hn:¬P a) (h:∀ q,P q\/q=a↔Q q):(l++[a]).Nodup/\∀ q,q∈l++[a]↔Q q:=
 ⟨nodup_append.mpr ⟨h1,by simp,fun x hx b hb e=>hn ((h2 a).mp (by rw [mem_singleton.mp hb] at e; rwa [<- e]))⟩,fun q=>by rw [mem_append,mem_singleton,h2 q,h q]⟩
theorem zjT {B:List Wd} {w:Wd} {i j:Nat} {f:Nat->List Nat} (hij:i < j) (h:GoneT B w i j f) (ht:tieB B w i j=true):GoneT B w i (j + 1) (addTo (addTo f i j) j i):=fun p=>by
 obtain ⟨h1,h2⟩:=h p
 rw [<- ziw hij] at ht
 show (addTo (addTo f i j) j i p).Nodup/\_
 unfold addTo
 by_cases hj:p=j
 ·subst hj
  rw [if_pos rfl,if_neg (ne_of_gt hij)]
  rw [zd2] at ht
  refine addOne h1 h2 (fun k=>(znY hij).2 k.2) fun q=>?_
  rw [DnS]
  constructor
  ·rintro (⟨a,b⟩ | rfl)
   ·exact ⟨a,.inl b⟩
   ·exact ⟨ht,.inr (.inr ⟨rfl,rfl⟩)⟩
  ·rintro ⟨a,b | ⟨b,_⟩ | ⟨b,_⟩⟩
   ·exact .inl ⟨a,b⟩
   ·exact absurd b (ne_of_gt hij)
   ·exact .inr b
 ·rw [if_neg hj]
  by_cases hi:p=i
  ·subst hi
   rw [if_pos rfl]
   refine addOne h1 h2 (fun k=>(znY hij).1 k.2) fun q=>?_
   rw [DnS]
   constructor
   ·rintro (⟨a,b⟩ | rfl)
    ·exact ⟨a,.inl b⟩
    ·exact ⟨ht,.inr (.inl ⟨rfl,rfl⟩)⟩
   ·rintro ⟨a,b | ⟨_,b⟩ | ⟨_,b⟩⟩
    ·exact .inl ⟨a,b⟩
    ·exact .inr b
    ·exact absurd b hj
  ·rw [if_neg hi]
   refine ⟨h1,fun q=>?_⟩
   rw [h2 q,DnS]
   refine and_congr_right fun _=>⟨.inl,fun k=>k.elim id fun k=>?_⟩
   rcases k with ⟨k,_⟩ | ⟨_,k⟩
   ·exact absurd k hi
   ·exact absurd k hj
theorem zi9 {B:List Wd} {w:Wd} {i n:Nat} {f:Nat->List Nat} (hw:w.length<=n) (h:GoneT B w i (n + 1) f):GoneT B w (i + 1) (i + 2) f:=fun p=>by
 obtain ⟨h1,h2⟩:=h p
 refine ⟨h1,fun q=>?_⟩
 rw [h2 q]
 refine and_congr_right fun htq=>?_
 have:p<=n/\q<=n/\p≠q:=by
  have:=zgT (zaR.mpr htq); lia
 unfold Dn
 lia
theorem zgF {B:List Wd} {w:Wd}:GoneT B w 0 1 fun _=>[]:=fun p=>⟨by simp,fun q=>by
 simp only [not_mem_nil,false_iff]
 rintro ⟨h,h2⟩
 have:=zgT (zaR.mpr h)
 unfold Dn at h2
 lia⟩
theorem zie {B:List Wd} {w:Wd} {i j p:Nat} {f:Nat->List Nat} (hi:w.length<=i) (h:GoneT B w i j f):(nb B w p).Perm (f p):=by
 obtain ⟨h1,h2⟩:=h p
 refine (List.perm_ext_iff_of_nodup (zcT.imp fun h=>by lia) h1).mpr fun q=>?_
 rw [zaR,h2 q]
 refine ⟨fun ht=>⟨ht,?_⟩,fun ht=>ht.1⟩
 have:=zgT (zaR.mpr ht)
 unfold Dn
 lia
theorem zel {B:List Wd} {w:Wd} {p:Nat}:(nb B w p).length<=w.length + 1:=by
 unfold nb
 exact le_trans (List.length_filter_le _ _) (by simp)
def tiesL (B:List Wd) (w:Wd):List D:=(List.range (w.length + 1)).map fun p=>D.lst ((nb B w p).map natD)
theorem zlb {B:List Wd} {w:Wd} {p:Nat} {l:List Nat} (hp:(nb B w p).Perm l) (hw:w.length<=60):bSort3 [.lst (l.map natD)]=some (.lst (((nb B w p).map natD).map .sh)):=by
 have e:∀ l:List Nat,l.map natD=(l.map fun (q:Nat)=>(q:Int)).map D.int:=fun l=>by rw [map_map]; rfl
 rw [e,e]
 refine zis (by rw [length_map,<- hp.length_eq]; have:=zel (B:=B) (w:=w) (p:=p); lia) (hp.map _) ?_
 rw [pairwise_map]
 exact zcT.imp fun h=>by lia
theorem zeA {n:Nat} {pre post:List Nat} {i:Nat} (h:pre++i::post=List.range n):pre.length=i/\i < n:=by
 have h1:(List.range n)[pre.length]?=some i:=by rw [<- h]; simp
 obtain ⟨h2,h3⟩:=qi.mp h1
 rw [List.getElem_range] at h3
 rw [length_range] at h2
 lia
theorem zdt {a n:Nat} {pre post:List Nat} {i:Nat} (h:pre++i::post=List.range' a n):i=a + pre.length/\pre.length < n:=by
 have h1:(List.range' a n)[pre.length]?=some i:=by rw [<- h]; simp
 obtain ⟨h2,h3⟩:=qi.mp h1
 rw [List.getElem_range'] at h3
 rw [List.length_range'] at h2
 lia
theorem zfL {B:List Wd} {w:Wd} {i j:Nat} {f:Nat->List Nat} (h:GoneT B w i j f) (p:Nat):(f p).length<=w.length + 1:=by
 obtain ⟨h1,h2⟩:=h p
 have:=zbl (f p) (nb B w p) h1 fun q hq=>zaR.mpr ((h2 q).mp hq).1
 have:=zel (B:=B) (w:=w) (p:=p)
 lia
inductive Conn (R:Nat->Nat->Prop):Nat->Nat->Prop
 | refl (p:Nat):Conn R p p
 | step {p q r:Nat}:Conn R p q->R q r->Conn R p r
theorem Conn.trans {R:Nat->Nat->Prop} {p q r:Nat} (h1:Conn R p q) (h2:Conn R q r):Conn R p r:=by
 induction h2 with
 | refl=>exact h1
 | step _ e ih=>exact .step ih e
def TieR (B:List Wd) (w:Wd) (p q:Nat):Prop:=tie B w p q=true
theorem zhz {B:List Wd} {w:Wd} (p q:Nat) (h:TieR B w p q):TieR B w q p:=by unfold TieR at *; rw [zd2]; exact h
theorem zcA:∀ l m:List Int,clashs (l.map D.int) (m.map D.int)=false
 | [],_=>by cases ‹List Int› <;> rfl
 | _::_,[]=>rfl
 | a::l,b::m=>by
   show (clash (.int a) (.int b) || clashs (l.map D.int) (m.map D.int))=false
   rw [zcA l m]; rfl
theorem zgW:∀ {l m:List Int},l.map D.int=m.map D.int->l=m
 | [],[],_=>rfl
 | [],_::_,h=>nomatch h
 | _::_,[],h=>nomatch h
 | a::l,b::m,h=>by
   simp only [map_cons,List.cons.injEq] at h
   rw [zgW h.2]
   injection h.1 with e
   rw [e]
theorem zjk {l m:List Int}:cEq (.lst (l.map D.int)) (.lst (m.map D.int))=some (decide (l=m)):=by
 unfold cEq
 rw [if_neg (by
  have:dep (.lst (l.map D.int))=1:=by show deps (l.map D.int) + 1=1; rw [zcu]
  rw [this,show clash (.lst (l.map D.int)) (.lst (m.map D.int))=clashs (l.map D.int) (m.map D.int) from rfl,zcA]
  decide)]
 by_cases h:l=m
 ·subst h; simp
 ·have hz:¬ (D.lst (l.map D.int)=D.lst (m.map D.int)):=fun z=>h (zgW (by injection z))
  simp [h,hz]
theorem ziT {l m:List Int}:cNe (.lst (l.map D.int)) (.lst (m.map D.int))=some (!decide (l=m)):=by
 unfold cNe; rw [zjk]; rfl
theorem minN {a b:Nat}:(if (b:Int) < (a:Int) then (b:Int) else (a:Int))=((min a b:Nat):Int):=by split <;> lia
theorem maxN {a b:Nat}:(if (b:Int) > (a:Int) then (b:Int) else (a:Int))=((max a b:Nat):Int):=by split <;> lia
theorem zob {x:Int} {l:List Int}:∃ m,(x::l).min?=some m/\m∈x::l/\∀ y∈x::l,m<=y:=by
 cases e:(x::l).min? with
 | none=>cases List.min?_eq_none_iff.mp e
 | some m=>exact ⟨m,rfl,List.min?_mem e,fun y hy=>(List.le_min?_iff e).mp (Int.le_refl m) y hy⟩
theorem zkF {B:List Wd} {w:Wd} (p q:Nat) (h:TieR B w p q):p<=w.length/\q<=w.length:=by
 have:=zgT (zaR.mpr h)
 exact ⟨this.2.1,this.1⟩
theorem znZ (l:List (List Nat)):strsD (l.map D.str)=some l:=by
 induction l with
 | nil=>rfl
 | cons a l ih=>show (strsD (l.map D.str)).map (a::·)=_; rw [ih]; rfl
theorem zhm {l:List (List Nat)} (h:(l.map List.length).sum<=big):mJoin [] [.lst (l.map D.str)]=some (.sh (.str l.flatten)):=by
 show (strsD (l.map D.str)).bind _=_
 rw [znZ]
 show (if (l.map List.length).sum + l.length * [].length<=big then some (S.sh (.str (joinD [] l))) else none)=_
 rw [if_pos (by simpa using h),zew]
def whE (D':Ends) (m:Nat) (J:Nat->Env->Prop):Ends:={ D' with nx:=fun ρ2=>∃ m',m' < m/\J m' ρ2,ct:=fun ρ2=>∃ m',m' < m/\J m' ρ2,bk:=D'.nx }
def kWh (b:WS) (D':Ends) (m:Nat) (J:Nat->Env->Prop) (k:Bool) (ρ:Env):Prop:=if k then b (whE D' m J) ρ else D'.nx ρ
theorem x_Wt {b:WS} {D':Ends} {m:Nat} {J:Nat->Env->Prop} {ρ:Env}:kWh b D' m J true ρ=b (whE D' m J) ρ:=rfl
theorem x_Wf {b:WS} {D':Ends} {m:Nat} {J:Nat->Env->Prop} {ρ:Env}:kWh b D' m J false ρ=D'.nx ρ:=rfl
theorem zkw {D':Ends} {m m':Nat} {J:Nat->Env->Prop} {ρ:Env} (hm:m' < m) (h:J m' ρ):(whE D' m J).nx ρ:=⟨m',hm,h⟩
theorem zkW {c:WT} {b:WS} {D':Ends} {ρ:Env} (J:Nat->Env->Prop) (m:Nat) (h0:J m ρ) (h:∀ m ρ,J m ρ->c ρ (kWh b D' m J) D'.ex):wWhile c b D' ρ:=⟨J,⟨m,h0⟩,fun m ρ hJ=>h m ρ hJ⟩
theorem zdD {α:Type} {l:List α} (h:0 < l.length):∃ v,v∈l/\l.getLast?=some v/\atI l (-1)=some v:=by
 refine ⟨l.getLast (length_pos_iff.mp h),List.getLast_mem _,List.getLast?_eq_some_getLast (length_pos_iff.mp h),?_⟩
 unfold atI ixN
 rw [if_neg (by decide),if_pos (by lia)]
 show l[((-1:Int) + (l.length:Int)).toNat]?=_
 rw [show ((-1:Int) + (l.length:Int)).toNat=l.length - 1 by lia,getElem?_eq_getElem (by lia),List.getLast_eq_getElem]
inductive Walk (R:Nat->Nat->Prop) (g:Nat):Nat->Nat->Prop
 | zero:Walk R g 0 g
 | step {d p q:Nat}:Walk R g d p->R p q->Walk R g (d + 1) q
def IsDist (R:Nat->Nat->Prop) (g q d:Nat):Prop:=Walk R g d q/\∀ d',d' < d->¬ Walk R g d' q
section
variable {R:Nat->Nat->Prop} {g:Nat}
theorem Walk.inv {d q:Nat} (h:Walk R g d q):(d=0/\q=g)\/∃ e p,d=e + 1/\Walk R g e p/\R p q:=by
 cases h with
 | zero=>exact .inl ⟨rfl,rfl⟩
 | step h e=>exact .inr ⟨_,_,rfl,h,e⟩
theorem zcr {q d e:Nat} (h:IsDist R g q d) (k:IsDist R g q e):d=e:=by
 rcases Nat.lt_trichotomy d e with z | z | z
 ·exact (k.2 d z h.1).elim
 ·exact z
 ·exact (h.2 e z k.1).elim
theorem zhg {q:Nat}:∀ {d:Nat},Walk R g d q->∃ e,e<=d/\IsDist R g q e:=by
 intro d
 induction d using Nat.strongRecOn with
 | _ d ih=>
   intro h
   by_cases z:∃ d',d' < d/\Walk R g d' q
   ·obtain ⟨d',hd,hw⟩:=z
    obtain ⟨e,he,hi⟩:=ih d' hd hw
    exact ⟨e,by lia,hi⟩
   ·exact ⟨d,le_refl _,h,fun d' hd hw=>z ⟨d',hd,hw⟩⟩
theorem zeP:IsDist R g g 0:=⟨.zero,fun d' h=>by lia⟩
theorem zga {q:Nat} (h:IsDist R g q 0):q=g:=by
 rcases h.1.inv with ⟨_,e⟩ | ⟨_,_,e,_⟩
 ·exact e
 ·lia
theorem znv {d:Nat} (h:IsDist R g g d):d=0:=zcr h zeP
theorem zbP {q d:Nat} (h:IsDist R g q (d + 1)):∃ p,IsDist R g p d/\R p q:=by
 rcases h.1.inv with ⟨e,_⟩ | ⟨e,p,z,hw,hr⟩
 ·lia
 ·obtain rfl:d=e:=by lia
  refine ⟨p,⟨hw,fun d' hd hw'=>h.2 (d' + 1) (by lia) (.step hw' hr)⟩,hr⟩
theorem zaS {q d:Nat} (h:Walk R g d q):Conn R g q:=by
 induction h with
 | zero=>exact .refl _
 | step _ e ih=>exact .step ih e
theorem zib {q:Nat} (h:Conn R g q):∃ d,Walk R g d q:=by
 induction h with
 | refl=>exact ⟨0,.zero⟩
 | step _ e ih=>obtain ⟨d,h⟩:=ih; exact ⟨d + 1,.step h e⟩
theorem zbB {q:Nat}:Conn R g q↔∃ d,IsDist R g q d:=by
 constructor
 ·intro h
  obtain ⟨d,h⟩:=zib h
  obtain ⟨e,_,h⟩:=zhg h
  exact ⟨e,h⟩
 ·rintro ⟨d,h⟩
  exact zaS h.1
open Classical in
def dst (R:Nat->Nat->Prop) (g q:Nat):Nat:=if h:∃ d,IsDist R g q d then Classical.choose h else 0
theorem zdg {q d:Nat} (h:IsDist R g q d):dst R g q=d:=by
 unfold dst
 rw [dif_pos ⟨d,h⟩]
 exact zcr (Classical.choose_spec (⟨d,h⟩:∃ d,IsDist R g q d)) h
structure Right (R:Nat->Nat->Prop) (g:Nat) (L:List (Nat×Nat)):Prop where
 ok:∀ t∈L,IsDist R g t.1 t.2
 nd:(L.map (·.1)).Nodup
theorem Right.at {L:List (Nat×Nat)} (h:Right R g L) {q d e:Nat} (h1:(q,d)∈L) (h2:IsDist R g q e):d=e:=zcr (h.ok _ h1) h2
structure Queue (R:Nat->Nat->Prop) (g:Nat) (L:List (Nat×Nat)) (qu:List (Nat×Nat)):Prop where
 right:Right R g L
 sub:∀ t∈qu,t∈L
 out:∀ t∈L,t∉qu->∀ q,R t.1 q->∃ e,(q,e)∈L
 up:qu.Pairwise fun t u=>t.2<=u.2
 near:∀ t r,qu=t::r->∀ u∈r,u.2<=t.2 + 1
 all:∀ t r,qu=t::r->∀ q e,IsDist R g q e->e<=t.2->(q,e)∈L
 gin:(g,0)∈L
theorem Queue.done {L:List (Nat×Nat)} (h:Queue R g L []) {q d:Nat} (k:IsDist R g q d):(q,d)∈L:=by
 induction d generalizing q with
 | zero=>rw [zga k]; exact h.gin
 | succ d ih=>
   obtain ⟨p,hp,hr⟩:=zbP k
   obtain ⟨e,he⟩:=h.out _ (ih hp) (by simp) q hr
   have:=h.right.at he k
   rw [<- this]; exact he
structure Mid (R:Nat->Nat->Prop) (g:Nat) (L qu:List (Nat×Nat)) (t:Nat×Nat) (pre:List Nat):Prop where
 right:Right R g L
 tin:t∈L
 sub:∀ u∈qu,u∈L
 out:∀ u∈L,u∉qu->u≠t->∀ q,R u.1 q->∃ e,(q,e)∈L
 gone:∀ q∈pre,∃ e,(q,e)∈L
 up:qu.Pairwise fun t u=>t.2<=u.2
 lo:∀ u∈qu,t.2<=u.2/\u.2<=t.2 + 1
 all:∀ q e,IsDist R g q e->e<=t.2->(q,e)∈L
 gin:(g,0)∈L
theorem Queue.take {L qu:List (Nat×Nat)} {t:Nat×Nat} (h:Queue R g L (t::qu)):Mid R g L qu t [] where
 right:=h.right
 tin:=h.sub t (by simp)
 sub u hu:=h.sub u (by simp [hu])
 out u hu hn ht:=h.out u hu (by simp [hn,ht])
 gone:=by simp
 up:=(pairwise_cons.mp h.up).2
 lo u hu:=⟨(pairwise_cons.mp h.up).1 u hu,h.near t qu rfl u hu⟩
 all q e hq he:=h.all t qu rfl q e hq he
 gin:=h.gin
theorem Mid.skip {L qu:List (Nat×Nat)} {t:Nat×Nat} {pre:List Nat} {q e:Nat} (h:Mid R g L qu t pre) (hq:(q,e)∈L):Mid R g L qu t (pre++[q]):=
 ⟨h.right,h.tin,h.sub,h.out,fun x hx=>(mem_append.mp hx).elim (h.gone x) fun z=>⟨e,by rw [mem_singleton.mp z]; exact hq⟩,h.up,h.lo,h.all,h.gin⟩
theorem Mid.put {L qu:List (Nat×Nat)} {t:Nat×Nat} {pre:List Nat} {q:Nat} (h:Mid R g L qu t pre) (hr:R t.1 q) (hn:∀ e,(q,e)∉L):Mid R g (L++[(q,t.2 + 1)]) (qu++[(q,t.2 + 1)]) t (pre++[q]):=by
 have hd:IsDist R g q (t.2 + 1):=by
  refine ⟨.step (h.right.ok t h.tin).1 hr,fun d' hd' hw=>?_⟩
  obtain ⟨e,he,hi⟩:=zhg hw
  exact hn e (h.all q e hi (by lia))
 refine ⟨⟨fun u hu=>?_,?_⟩,qm _ h.tin,fun u hu=>?_,fun u hu hnu hut=>?_,fun x hx=>?_,?_,fun u hu=>?_,fun x e hx he=>qm _ (h.all x e hx he),qm _ h.gin⟩
 ·rcases mem_append.mp hu with z | z
  ·exact h.right.ok u z
  ·rw [mem_singleton.mp z]; exact hd
 ·rw [map_append]
  refine nodup_append.mpr ⟨h.right.nd,by simp,fun x hx y hy e=>?_⟩
  simp only [map_cons,map_nil,mem_singleton] at hy
  subst e
  obtain ⟨u,hu,eu⟩:=mem_map.mp hx
  exact hn u.2 (by rw [<- hy,<- eu]; exact hu)
 ·rcases mem_append.mp hu with z | z
  ·exact qm _ (h.sub u z)
  ·exact qk _ z
 ·rcases mem_append.mp hu with z | z
  ·intro x hx
   obtain ⟨e,he⟩:=h.out u z (fun k=>hnu (qm _ k)) hut x hx
   exact ⟨e,qm _ he⟩
  ·exact (hnu (qk _ z)).elim
 ·rcases mem_append.mp hx with z | z
  ·obtain ⟨e,he⟩:=h.gone x z
   exact ⟨e,qm _ he⟩
  ·rw [mem_singleton.mp z]; exact ⟨t.2 + 1,by simp⟩
 ·refine List.pairwise_append.mpr ⟨h.up,by simp,fun x hx y hy=>?_⟩
  rw [mem_singleton.mp hy]
  exact (h.lo x hx).2
 ·rcases mem_append.mp hu with z | z
  ·exact h.lo u z
  ·rw [mem_singleton.mp z]; exact ⟨by show t.2<=t.2 + 1; lia,le_refl _⟩
theorem Mid.queue {L qu:List (Nat×Nat)} {t:Nat×Nat} {l:List Nat} (h:Mid R g L qu t l) (hl:∀ q,R t.1 q->q∈l):Queue R g L qu:=by
 have hout:∀ u∈L,u∉qu->∀ q,R u.1 q->∃ e,(q,e)∈L:=fun u hu hn q hq=>by
  by_cases e:u=t
  ·subst e; exact h.gone q (hl q hq)
  ·exact h.out u hu hn e q hq
 refine ⟨h.right,h.sub,hout,h.up,fun t' r e u hu=>?_,fun t' r e q d hq hd=>?_,h.gin⟩
 ·subst e
  have h1:=h.lo u (by simp [hu])
  have h2:=h.lo t' (by simp)
  lia
 ·subst e
  have h2:=h.lo t' (by simp)
  rcases Nat.lt_or_ge t.2 d with z | z
  ·obtain ⟨k,rfl⟩:∃ k,d=k + 1:=⟨d - 1,by lia⟩
   obtain ⟨p,hp,hr⟩:=zbP hq
   have hpL:=h.all p k hp (by lia)
   -- p was taken out,or it is in the queue with less than the first has
   by_cases hm:(p,k)∈t'::r
   ·have h3:=h.lo _ hm
    have h4:t'.2<=k:=by
     rcases mem_cons.mp hm with z2 | z2
     ·rw [<- z2]; exact le_refl _
     ·exact (pairwise_cons.mp h.up).1 _ z2
    lia
   ·obtain ⟨e,he⟩:=hout _ hpL hm q hr
    have:=h.right.at he hq
    rw [<- this]; exact he
  ·exact h.all q d hq z
theorem Queue.start:Queue R g [(g,0)] [(g,0)] where
 right:=⟨fun t ht=>by rw [mem_singleton.mp ht]; exact zeP,by simp⟩
 sub t ht:=ht
 out t ht hn:=(hn ht).elim
 up:=by simp
 near t r e u hu:=by
  injection e with _ e
  rw [<- e] at hu; cases hu
 all t r e q d hq hd:=by
  injection e with e _
  rw [<- e] at hd
  obtain rfl:d=0:=by simpa using hd
  rw [zga hq]; simp
 gin:=by simp
end
def keyL (L:List (Nat×Nat)):List D:=L.map fun t=>natD t.1
def valL (L:List (Nat×Nat)):List D:=L.map fun t=>natD t.2
theorem zdE {a b:Nat} (h:natD a=natD b):a=b:=by
 unfold natD at h
 injection h with h
 lia
theorem zgd {L:List (Nat×Nat)} {q:Nat}:D.int (q:Int)∈keyL L↔∃ d,(q,d)∈L:=by
 unfold keyL
 rw [mem_map]
 constructor
 ·rintro ⟨t,ht,e⟩
  exact ⟨t.2,by rw [<- zdE (a:=t.1) (b:=q) e]; exact ht⟩
 ·rintro ⟨d,hd⟩
  exact ⟨(q,d),hd,rfl⟩
theorem zk6 {L:List (Nat×Nat)} (h:(L.map (·.1)).Nodup):(keyL L).Nodup:=by
 unfold keyL
 have:(L.map fun t=>natD t.1)=(L.map (·.1)).map natD:=by rw [map_map]; rfl
 rw [this,List.Nodup,pairwise_map]
 exact h.imp fun hab e=>hab (zdE e)
open Classical in
theorem zhi {L:List (Nat×Nat)} {vs:List D} {q:Nat}:cInA (.int (q:Int)) (.dct false (keyL L) vs)=some (decide (∃ d,(q,d)∈L)):=by
 show cIn (.int (q:Int)) (.dct false (keyL L) vs)=_
 show (if isKey false (.int (q:Int)) then some (decide (D.int (q:Int)∈keyL L)) else none)=_
 rw [if_pos (show isKey false (.int (q:Int))=true from rfl)]
 congr 1
 exact decide_eq_decide.mpr zgd
open Classical in
theorem zho {L:List (Nat×Nat)} {vs:List D} {q:Nat} (h:∃ d,(q,d)∈L):cIn (.int (q:Int)) (.dct false (keyL L) vs)=some true:=by
 have:=zhi (L:=L) (vs:=vs) (q:=q)
 rw [decide_eq_true h] at this
 exact this
open Classical in
theorem zkb {L:List (Nat×Nat)} {vs:List D} {q:Nat} (h:¬ ∃ d,(q,d)∈L):cIn (.int (q:Int)) (.dct false (keyL L) vs)=some false:=by
 have:=zhi (L:=L) (vs:=vs) (q:=q)
 rw [decide_eq_false h] at this
 exact this
open Classical in
theorem ze7 {α:Type} {f:Nat->α}:∀ {L:List (Nat×Nat)} {q d:Nat},(L.map (·.1)).Nodup->(q,d)∈L->lk (keyL L) (L.map fun t=>f t.2) (.int (q:Int))=some (f d)
 | [],_,_,_,h=>nomatch h
 | t::L,q,d,hn,h=>by
   show (if natD t.1=.int (q:Int) then some (f t.2) else lk (keyL L) (L.map fun t=>f t.2) (.int (q:Int)))=_
   rw [map_cons,nodup_cons] at hn
   rcases mem_cons.mp h with e | h
   ·rw [<- e,if_pos (show natD (q,d).1=.int (q:Int) from rfl)]
   ·have hne:¬ natD t.1=.int (q:Int):=fun e=>hn.1 (by rw [zdE (a:=t.1) (b:=q) e]; exact mem_map.mpr ⟨_,h,rfl⟩)
    rw [if_neg hne]
    exact ze7 hn.2 h
theorem zjo {L:List (Nat×Nat)} {l:List S} {q:Nat} {s:S} (h:∀ d,(q,d)∉L):dputS false (keyL L) l (.int (q:Int)) s=.dct false (keyL L++[.int (q:Int)]) (l++[s]):=by
 unfold dputS
 have:fIx (keyL L) (.int (q:Int))=none:=by
  unfold fIx
  rw [List.findIdx?_eq_none_iff]
  intro x hx
  rw [decide_eq_false_iff_not]
  intro e
  subst e
  obtain ⟨d,hd⟩:=zgd.mp hx
  exact h d hd
 rw [this]
def nearer (B:List Wd) (w:Wd) (p:Nat):Nat:=(((nb B w p).filter fun q=>decide (dst (TieR B w) w.length q + 1=dst (TieR B w) w.length p)).head?).getD p
def wayP (B:List Wd) (w:Wd):Nat->Nat->List Nat
 | 0,p=>[p]
 | d + 1,p=>p::wayP B w d (nearer B w p)
theorem zdM {α:Type} {l:List α} {x:α}:atI (l++[x]) (-1)=some x:=by
 obtain ⟨v,_,h1,h2⟩:=zdD (l:=l++[x]) (by simp)
 rw [h2]
 rw [List.getLast?_append] at h1
 simpa using h1.symm
theorem zi3 {x:Nat} {l:List Nat} (h:(x::l).Pairwise (· < ·)):((x::l).map fun q=>((q:Nat):Int)).min?=some ((x:Nat):Int):=by
 rw [map_cons]
 obtain ⟨m,em,hm,hle⟩:=zob (x:=((x:Nat):Int)) (l:=l.map fun q=>((q:Nat):Int))
 rw [em]
 have h1:=hle _ (qp ..)
 rcases mem_cons.mp hm with e | hm
 ·rw [e]
 ·obtain ⟨q,hq,rfl⟩:=mem_map.mp hm
  have:=(pairwise_cons.mp h).1 q hq
  lia
theorem zcH {B:List Wd} {w:Wd} {p d:Nat} (h:IsDist (TieR B w) w.length p (d + 1)):∃ r,((nb B w p).filter fun q=>decide (dst (TieR B w) w.length q + 1=dst (TieR B w) w.length p))=nearer B w p::r/\IsDist (TieR B w) w.length (nearer B w p) d:=by
 obtain ⟨q,hq,hr⟩:=zbP h
 have hm:q∈(nb B w p).filter fun q=>decide (dst (TieR B w) w.length q + 1=dst (TieR B w) w.length p):=by
  rw [mem_filter]
  exact ⟨zaR.mpr (zhz _ _ hr),decide_eq_true (by rw [zdg hq,zdg h])⟩
 cases e:(nb B w p).filter fun q=>decide (dst (TieR B w) w.length q + 1=dst (TieR B w) w.length p) with
 | nil=>rw [e] at hm; cases hm
 | cons x r=>
   have hx:nearer B w p=x:=by unfold nearer; rw [e]; rfl
   rw [hx]
   refine ⟨r,rfl,?_⟩
   have hxm:x∈(nb B w p).filter fun q=>decide (dst (TieR B w) w.length q + 1=dst (TieR B w) w.length p):=by rw [e]; simp
   obtain ⟨h1,h2⟩:=mem_filter.mp hxm
   have h2:=of_decide_eq_true h2
   obtain ⟨k,hk⟩:=zbB.mp ((zaS h.1).step (zaR.mp h1))
   rw [zdg hk,zdg h] at h2
   obtain rfl:k=d:=by lia
   exact hk
theorem zdO {R:Nat->Nat->Prop} {g:Nat}:∀ {d p:Nat},IsDist R g p d->∀ k,k<=d->∃ q,IsDist R g q k
 | 0,p,h,k,hk=>by
   obtain rfl:k=0:=by lia
   exact ⟨p,h⟩
 | d + 1,p,h,k,hk=>by
   rcases Nat.lt_or_ge d k with z | z
   ·obtain rfl:k=d + 1:=by lia
    exact ⟨p,h⟩
   ·obtain ⟨q,hq,_⟩:=zbP h
    exact zdO hq k z
theorem zjF {R:Nat->Nat->Prop} {g p d:Nat} {L:List (Nat×Nat)} (hq:Queue R g L []) (hd:IsDist R g p d):d + 1<=L.length:=by
 have:=zbl (List.range (d + 1)) (L.map (·.2)) List.nodup_range fun k hk=>by
  obtain ⟨q,h⟩:=zdO hd k (by have:=mem_range.mp hk; lia)
  exact mem_map.mpr ⟨(q,k),hq.done h,rfl⟩
 rw [length_range,length_map] at this
 exact this
end FL
end
noncomputable section
namespace Law
open FL
def w_0_c1:WB:=bEmit 2 (wTup (wCons (wVar 3) (wCons (wBin oAdd (wVar 3) (wB bLen (wCons (wVar 5) wNil))) (wCons (wVar 4) wNil))))
def u_0_c1 {Q:Env->Prop} {E:WX} {ρ:Env}:=uB (ρ:=ρ) (Q:=Q) (E:=E) w_0_c1.eq_1
def w_0_c2:WB:=bFor (wEnum (wVar 0)) (gTup [gName 4,gName 5]) (wCmp cEq (wSl (wVar 1) (some (wVar 3)) (some (wBin oAdd (wVar 3) (wB bLen (wCons (wVar 5) wNil))))) (wVar 5)) w_0_c1
def u_0_c2 {Q:Env->Prop} {E:WX} {ρ:Env}:=uB (ρ:=ρ) (Q:=Q) (E:=E) w_0_c2.eq_1
def w_0:WF:=wFn 2 2 [0,1]
 (wRet (wB bSort3 (wCons (wLC 2 3 (wRange1 (wB bLen (wCons (wVar 1) wNil))) (gName 3) wYes w_0_c2) wNil)))
def w_2:WF:=wFn 2 4 [0,1]
 (wSeq (wAsg (gName 2) (wBin oAdd (wBin oMulA (wC (.int 7919)) (wVar 1)) (wC (.int 11))))
  (wSeq (wIf (wCmp cLt (wVar 1) (wB bLen (wCons (wVar 0) wNil))) (wAsg (gName 2) (wIx (wVar 0) (wVar 1))) (wIf (wCmp cGt (wB bLen (wCons (wVar 0) wNil)) (wC (.int 0))) (wAsg (gName 2) (wBin oAdd (wVar 2) (wBin oMulA (wBin oMod (wIx (wVar 0) (wBin oMod (wVar 1) (wB bLen (wCons (wVar 0) wNil)))) (wC (.int 2147483629))) (wC (.int 69623))))) wPass))
  (wSeq (wAsg (gName 3) (wBin oAdd (wBin oMod (wBin oAdd (wBin oMulA (wBin oMod (wVar 2) (wC (.int 2147483629))) (wC (.int 48271))) (wBin oMulA (wC (.int 40692)) (wVar 1))) (wC (.int 2147483629))) (wC (.int 1))))
  (wRet (wLst (wCons (wIx (wLst (wCons (wC (.int 0)) (wCons (wVar 2) wNil))) (wB bInt (wCons (wOfT (wCmp cGe (wVar 2) (wBin oPow (wC (.int 10)) (wC (.int 18))))) wNil))) (wCons (wVar 3) wNil)))))))
def w_3:WF:=wFn 2 4 [0,1]
 (wSeq (wIf (wCmp cGt (wIx (wVar 0) (wC (.int 0))) (wC (.int 0))) (wSeq (wAsg (gName 2) (wBin oMod (wIx (wVar 0) (wC (.int 0))) (wVar 1)))
  (wSeq (wSetIx 0 (wC (.int 0)) (wBin oFdiv (wIx (wVar 0) (wC (.int 0))) (wVar 1)))
  (wRet (wVar 2)))) wPass)
  (wSeq (wAsg (gName 3) (wBin oMod (wBin oMulA (wIx (wVar 0) (wC (.int 1))) (wC (.int 69623))) (wC (.int 2147483647))))
  (wSeq (wSetIx 0 (wC (.int 1)) (wBin oAdd (wBin oMod (wBin oAdd (wBin oMulA (wVar 3) (wC (.int 48271))) (wC (.int 30103))) (wC (.int 2147483629))) (wC (.int 1))))
  (wRet (wBin oMod (wBin oFdiv (wBin oAdd (wBin oMulA (wVar 3) (wC (.int 2147483647))) (wIx (wVar 0) (wC (.int 1)))) (wC (.int 8191))) (wVar 1))))))
def w_8_b1:WS:=wSeq (wIf (wtAnd (wCmp cEq (wSl (wVar 1) (some (wVar 2)) (some (wBin oAdd (wVar 2) (wB bLen (wCons (wVar 5) wNil))))) (wSl (wVar 5) none (some (wBin oSub (wB bLen (wCons (wVar 1) wNil)) (wVar 2))))) (wCmp cLe (wBin oAdd (wVar 2) (wB bLen (wCons (wVar 5) wNil))) (wVar 3))) (wExpr (wAppend 4 (wTup (wCons (wVar 5) (wCons (wBin oAdd (wVar 2) (wB bLen (wCons (wVar 5) wNil))) wNil))))) wPass)
  (wIf (wtAnd (wCmp cGe (wVar 2) (wB bLen (wCons (wVar 5) wNil))) (wCmp cEq (wSl (wVar 1) (some (wBin oSub (wVar 2) (wB bLen (wCons (wVar 5) wNil)))) (some (wVar 2))) (wVar 5))) (wExpr (wAppend 4 (wTup (wCons (wVar 5) (wCons (wBin oSub (wVar 2) (wB bLen (wCons (wVar 5) wNil))) wNil))))) wPass)
def u_8_b1 {D':Ends} {ρ:Env}:=uS (D':=D') (ρ:=ρ) w_8_b1.eq_1
def w_8:WF:=wFn 4 6 [0,1,2,3]
 (wSeq (wAsg (gName 4) (wLst wNil))
  (wSeq (wFor (wIter (wVar 0)) (gName 5) w_8_b1)
  (wRet (wVar 4))))
def w_10_c1:WB:=bEmit 5 (wLst wNil)
def u_10_c1 {Q:Env->Prop} {E:WX} {ρ:Env}:=uB (ρ:=ρ) (Q:=Q) (E:=E) w_10_c1.eq_1
def w_10_b2:WS:=wIf (wCmp cInA (wSl (wVar 1) (some (wVar 3)) (some (wVar 4))) (wVar 0)) (wSeq (wExpr (wAppendAt 2 (wVar 3) (wVar 4)))
  (wExpr (wAppendAt 2 (wVar 4) (wVar 3)))) wPass
def u_10_b2 {D':Ends} {ρ:Env}:=uS (D':=D') (ρ:=ρ) w_10_b2.eq_1
def w_10_b3:WS:=wFor (wRange2 (wBin oAdd (wVar 3) (wC (.int 1))) (wBin oAdd (wB bLen (wCons (wVar 1) wNil)) (wC (.int 1)))) (gName 4) w_10_b2
def u_10_b3 {D':Ends} {ρ:Env}:=uS (D':=D') (ρ:=ρ) w_10_b3.eq_1
def w_10_c4:WB:=bEmit 5 (wFrz (wB bSort3 (wCons (wVar 6) wNil)))
def u_10_c4 {Q:Env->Prop} {E:WX} {ρ:Env}:=uB (ρ:=ρ) (Q:=Q) (E:=E) w_10_c4.eq_1
def w_10:WF:=wFn 2 5 [0,1]
 (wSeq (wAsg (gName 2) (wLC 5 1 (wRange1 (wBin oAdd (wB bLen (wCons (wVar 1) wNil)) (wC (.int 1)))) (gName 6) wYes w_10_c1))
  (wSeq (wFor (wRange1 (wB bLen (wCons (wVar 1) wNil))) (gName 3) w_10_b3)
  (wRet (wLC 5 1 (wIter (wVar 2)) (gName 6) wYes w_10_c4))))
def w_11_b1:WS:=wIf (wCmp cNotInA (wVar 5) (wVar 2)) (wSeq (wDput 2 (wVar 5) (wBin oAdd (wIxA (wVar 2) (wVar 4)) (wC (.int 1))))
  (wExpr (wAppend 3 (wVar 5)))) wPass
def u_11_b1 {D':Ends} {ρ:Env}:=uS (D':=D') (ρ:=ρ) w_11_b1.eq_1
def w_11_b2:WS:=wSeq (wAsg (gName 4) (wFrz (wPopAt 3 (wC (.int 0)))))
  (wFor (wIter (wIx (wVar 0) (wVar 4))) (gName 5) w_11_b1)
def u_11_b2 {D':Ends} {ρ:Env}:=uS (D':=D') (ρ:=ρ) w_11_b2.eq_1
def w_11_c3:WB:=bEmit 7 (wVar 8)
def u_11_c3 {Q:Env->Prop} {E:WX} {ρ:Env}:=uB (ρ:=ρ) (Q:=Q) (E:=E) w_11_c3.eq_1
def w_11_b4:WS:=wExpr (wAppend 6 (wFrz (wB bMinL (wCons (wLC 7 1 (wIter (wIx (wVar 0) (wIx (wVar 6) (wUn oNeg (wC (.int 1)))))) (gName 8) (wCmp cEq (wIxA (wVar 2) (wVar 8)) (wBin oSub (wIxA (wVar 2) (wIx (wVar 6) (wUn oNeg (wC (.int 1))))) (wC (.int 1)))) w_11_c3) wNil))))
def u_11_b4 {D':Ends} {ρ:Env}:=uS (D':=D') (ρ:=ρ) w_11_b4.eq_1
def w_11:WF:=wFn 2 7 [0,1]
 (wSeq (wAsg (gName 2) (wDisp1 (wBin oSub (wB bLen (wCons (wVar 0) wNil)) (wC (.int 1))) (wC (.int 0))))
  (wSeq (wAsg (gName 3) (wLst (wCons (wBin oSub (wB bLen (wCons (wVar 0) wNil)) (wC (.int 1))) wNil)))
  (wSeq (wWhile (wCmp cNe (wVar 3) (wLst wNil)) w_11_b2)
  (wSeq (wIf (wCmp cNotInA (wVar 1) (wVar 2)) (wRet (wTup wNil)) wPass)
  (wSeq (wAsg (gName 6) (wLst (wCons (wVar 1) wNil)))
  (wSeq (wWhile (wCmp cNe (wIx (wVar 6) (wUn oNeg (wC (.int 1)))) (wBin oSub (wB bLen (wCons (wVar 0) wNil)) (wC (.int 1)))) w_11_b4)
  (wRet (wB bTuple (wCons (wVar 6) wNil)))))))))
def w_14_c1:WB:=bEmit 7 (wOfT (wCmp cEq (wVar 8) (wSl (wVar 1) (some (wIx (wVar 5) (wC (.int 0)))) (some (wIx (wVar 5) (wC (.int 1)))))))
def u_14_c1 {Q:Env->Prop} {E:WX} {ρ:Env}:=uB (ρ:=ρ) (Q:=Q) (E:=E) w_14_c1.eq_1
def w_14_b2:WS:=wSeq (wAsg (gName 5) (wFrz (wB bSortU (wCons (wSl (wVar 2) (some (wBin oSub (wVar 4) (wC (.int 1)))) (some (wBin oAdd (wVar 4) (wC (.int 1))))) wNil))))
  (wSeq (wAsg (gName 6) (wML mIndexL (wFrz (wLC 7 1 (wIter (wVar 0)) (gName 8) wYes w_14_c1)) (wCons (wC (.bl true)) wNil)))
  (wExpr (wAppend 3 (wTup (wCons (wIx (wLst (wCons (wC (.str [98,97,99,107])) (wCons (wC (.str [111,110])) wNil))) (wB bInt (wCons (wOfT (wCmp cLt (wIx (wVar 2) (wBin oSub (wVar 4) (wC (.int 1)))) (wIx (wVar 2) (wVar 4)))) wNil))) (wCons (wVar 6) wNil))))))
def u_14_b2 {D':Ends} {ρ:Env}:=uS (D':=D') (ρ:=ρ) w_14_b2.eq_1
def w_14:WF:=wFn 3 7 [0,1,2]
 (wSeq (wAsg (gName 3) (wLst wNil))
  (wSeq (wFor (wRange2 (wC (.int 1)) (wB bLen (wCons (wVar 2) wNil))) (gName 4) w_14_b2)
  (wRet (wB bTuple (wCons (wVar 3) wNil)))))
def w_15_b1:WS:=wSeq (wIf (wtOr (wCmp cNotInA (wVar 4) (wTup (wCons (wC (.str [111,110])) (wCons (wC (.str [98,97,99,107])) wNil)))) (wtOr (wCmp cLt (wVar 5) (wC (.int 0))) (wCmp cGe (wVar 5) (wB bLen (wCons (wVar 0) wNil))))) (wRet (wC (.bl false))) wPass)
  (wSeq (wAsg (gName 6) (wIx (wVar 0) (wVar 5)))
  (wSeq (wAsg (gName 7) (wBin oAdd (wVar 3) (wBin oMulA (wB bLen (wCons (wVar 6) wNil)) (wIx (wLst (wCons (wUn oNeg (wC (.int 1))) (wCons (wC (.int 1)) wNil))) (wB bInt (wCons (wOfT (wCmp cEq (wVar 4) (wC (.str [111,110])))) wNil))))))
  (wSeq (wIf (wtOr (wCmp cLt (wVar 7) (wC (.int 0))) (wtOr (wCmp cGt (wVar 7) (wB bLen (wCons (wVar 1) wNil))) (wCmp cNe (wSl (wVar 1) (some (wB bMin (wCons (wVar 3) (wCons (wVar 7) wNil)))) (some (wB bMax (wCons (wVar 3) (wCons (wVar 7) wNil))))) (wVar 6)))) (wRet (wC (.bl false))) wPass)
  (wAsg (gName 3) (wVar 7)))))
def u_15_b1 {D':Ends} {ρ:Env}:=uS (D':=D') (ρ:=ρ) w_15_b1.eq_1
def w_15:WF:=wFn 3 8 [0,1,2]
 (wSeq (wAsg (gName 3) (wC (.int 0)))
  (wSeq (wFor (wIter (wVar 2)) (gTup [gName 4,gName 5]) w_15_b1)
  (wRet (wOfT (wCmp cEq (wVar 3) (wB bLen (wCons (wVar 1) wNil)))))))
def w_18_b1:WS:=wAsg (gName 0) (wBin oAdd (wTup (wCons (wTup (wCons (wC (.str [111,110])) (wCons (wIx (wIx (wVar 0) (wC (.int 0))) (wC (.int 1))) wNil))) (wCons (wTup (wCons (wC (.str [98,97,99,107])) (wCons (wIx (wIx (wVar 0) (wC (.int 0))) (wC (.int 1))) wNil))) wNil))) (wVar 0))
def u_18_b1 {D':Ends} {ρ:Env}:=uS (D':=D') (ρ:=ρ) w_18_b1.eq_1
def w_18:WF:=wFn 2 2 [1]
 (wSeq (wWhile (wChain cLt cLt (wC (.int 0)) (wB bLen (wCons (wVar 0) wNil)) (wBin oSub (wVar 1) (wC (.int 1)))) w_18_b1)
  (wRet (wVar 0)))
def w_1_b1:WS:=wSeq (wDput 3 (wTup (wCons (wVar 4) (wCons (wC (.str [111,110])) (wCons (wVar 6) wNil)))) (wVar 5))
  (wDput 3 (wTup (wCons (wVar 5) (wCons (wC (.str [98,97,99,107])) (wCons (wVar 6) wNil)))) (wVar 4))
def u_1_b1 {D':Ends} {ρ:Env}:=uS (D':=D') (ρ:=ρ) w_1_b1.eq_1
def w_1_b2:WS:=wSeq (wAsg (gName 7) (wGet1 (wVar 3) (wTup (wCons (wVar 7) (wCons (wVar 8) (wCons (wVar 9) wNil))))))
  (wIf (wCmp cIs (wVar 7) (wC .non)) (wRet (wC (.bl false))) wPass)
def u_1_b2 {D':Ends} {ρ:Env}:=uS (D':=D') (ρ:=ρ) w_1_b2.eq_1
def w_1:WF:=wFn 3 10 [0,1,2]
 (wSeq (wAsg (gName 3) (wDnew true))
  (wSeq (wFor (wIter (wCall w_0 [true,true] (wCons (wVar 0) (wCons (wVar 1) wNil)))) (gTup [gName 4,gName 5,gName 6]) w_1_b1)
  (wSeq (wAsg (gName 7) (wC (.int 0)))
  (wSeq (wFor (wIter (wVar 2)) (gTup [gName 8,gName 9]) w_1_b2)
  (wRet (wOfT (wCmp cEq (wVar 7) (wB bLen (wCons (wVar 1) wNil)))))))))
def w_4_c1:WB:=bEmit 3 (wFrz (wPopAt 2 (wCall w_3 [true,true] (wCons (wVar 0) (wCons (wB bLen (wCons (wVar 2) wNil)) wNil)))))
def u_4_c1 {Q:Env->Prop} {E:WX} {ρ:Env}:=uB (ρ:=ρ) (Q:=Q) (E:=E) w_4_c1.eq_1
def w_4:WF:=wFn 2 3 [0,1]
 (wSeq (wAsg (gName 2) (wB bListA (wCons (wC (.str [97,98,99,100,101,102,103,104,105,106,107,108,109,110,111,112,113,114,115,116,117,118,119,120,121,122])) wNil)))
  (wRet (wMS mJoin (wC (.str [])) (wCons (wB bSort3 (wCons (wLC 3 1 (wRange1 (wVar 1)) (gName 4) wYes w_4_c1) wNil)) wNil))))
def w_5_c1:WB:=bEmit 4 (wIx (wVar 1) (wCall w_3 [true,true] (wCons (wVar 0) (wCons (wB bLen (wCons (wVar 1) wNil)) wNil))))
def u_5_c1 {Q:Env->Prop} {E:WX} {ρ:Env}:=uB (ρ:=ρ) (Q:=Q) (E:=E) w_5_c1.eq_1
def w_5:WF:=wFn 3 4 [0,1,2]
 (wSeq (wAsg (gName 3) (wBin oMulA (wCall w_3 [true,true] (wCons (wVar 0) (wCons (wBin oAdd (wVar 2) (wC (.int 1))) wNil))) (wB bInt (wCons (wOfT (wCmp cNe (wVar 1) (wC (.str [])))) wNil))))
  (wRet (wMS mJoin (wC (.str [])) (wCons (wLC 4 1 (wRange1 (wVar 3)) (gName 5) wYes w_5_c1) wNil))))
def w_6:WF:=wFn 3 7 [0,1,2]
 (wSeq (wAsg (gName 3) (wIx (wVar 2) (wCall w_3 [true,true] (wCons (wVar 0) (wCons (wB bLen (wCons (wVar 2) wNil)) wNil)))))
  (wSeq (wAsg (gName 4) (wCall w_3 [true,true] (wCons (wVar 0) (wCons (wC (.int 5)) wNil))))
  (wSeq (wAsg (gName 5) (wIx (wVar 1) (wCall w_3 [true,true] (wCons (wVar 0) (wCons (wB bLen (wCons (wVar 1) wNil)) wNil)))))
  (wSeq (wAsg (gName 6) (wCall w_3 [true,true] (wCons (wVar 0) (wCons (wB bLen (wCons (wVar 3) wNil)) wNil))))
  (wRet (wIx (wLst (wCons (wSl (wVar 3) none (some (wBin oAdd (wVar 6) (wC (.int 1))))) (wCons (wSl (wVar 3) (some (wVar 6)) none) (wCons (wBin oAdd (wVar 5) (wVar 3)) (wCons (wBin oAdd (wVar 3) (wVar 5)) (wCons (wBin oAdd (wVar 3) (wVar 3)) wNil)))))) (wVar 4)))))))
def w_9_c1:WB:=bEmit 11 (wVar 12)
def u_9_c1 {Q:Env->Prop} {E:WX} {ρ:Env}:=uB (ρ:=ρ) (Q:=Q) (E:=E) w_9_c1.eq_1
def w_9_b2:WS:=wSeq (wAsg (gName 7) (wFrz (wCall w_8 [true,true,true,true] (wCons (wVar 1) (wCons (wVar 4) (wCons (wVar 5) (wCons (wVar 3) wNil)))))))
  (wSeq (wIf (wCmp cGt (wVar 6) (wC (.int 4))) (wFz 7 (wAsg (gName 7) (wLC 11 1 (wIter (wVar 7)) (gName 12) (wCmp cGt (wIx (wVar 12) (wC (.int 1))) (wVar 5)) w_9_c1))) wPass)
  (wIf (wCmp cNe (wVar 7) (wLst wNil)) (wSeq (wAsg (gTup [gName 8,gName 9]) (wIx (wVar 7) (wCall w_3 [true,true] (wCons (wVar 0) (wCons (wB bLen (wCons (wVar 7) wNil)) wNil)))))
  (wSeq (wIf (wCmp cGt (wVar 9) (wVar 5)) (wAsg (gName 4) (wBin oAdd (wBin oAdd (wSl (wVar 4) none (some (wVar 5))) (wVar 8)) (wSl (wVar 4) (some (wVar 9)) none))) wPass)
  (wAsg (gName 5) (wVar 9)))) wPass))
def u_9_b2 {D':Ends} {ρ:Env}:=uS (D':=D') (ρ:=ρ) w_9_b2.eq_1
def w_9:WF:=wFn 4 11 [0,1,2,3]
 (wSeq (wAsg (gTup [gName 4,gName 5]) (wTup (wCons (wC (.str [])) (wCons (wC (.int 0)) wNil))))
  (wSeq (wFor (wRange1 (wBin oAdd (wC (.int 1)) (wCall w_3 [true,true] (wCons (wVar 0) (wCons (wC (.int 9)) wNil))))) (gName 6) w_9_b2)
  (wSeq (wIf (wtAnd (wCmp cNe (wVar 4) (wC (.str []))) (wCmp cEq (wCall w_3 [true,true] (wCons (wVar 0) (wCons (wC (.int 5)) wNil))) (wC (.int 0)))) (wSeq (wAsg (gName 10) (wCall w_3 [true,true] (wCons (wVar 0) (wCons (wB bLen (wCons (wVar 4) wNil)) wNil))))
  (wAsg (gName 4) (wBin oAdd (wBin oAdd (wSl (wVar 4) none (some (wVar 10))) (wIx (wVar 2) (wCall w_3 [true,true] (wCons (wVar 0) (wCons (wB bLen (wCons (wVar 2) wNil)) wNil))))) (wSl (wVar 4) (some (wBin oAdd (wVar 10) (wC (.int 1)))) none)))) wPass)
  (wRet (wVar 4)))))
def w_12_b1:WS:=wIf (wCmp cNe (wIx (wVar 1) (wIx (wVar 2) (wUn oNeg (wC (.int 1))))) (wLst wNil)) (wAsg (gName 2) (wBin oAdd (wVar 2) (wTup (wCons (wIx (wIx (wVar 1) (wIx (wVar 2) (wUn oNeg (wC (.int 1))))) (wCall w_3 [true,true] (wCons (wVar 0) (wCons (wB bLen (wCons (wIx (wVar 1) (wIx (wVar 2) (wUn oNeg (wC (.int 1))))) wNil)) wNil)))) wNil)))) wPass
def u_12_b1 {D':Ends} {ρ:Env}:=uS (D':=D') (ρ:=ρ) w_12_b1.eq_1
def w_12:WF:=wFn 2 5 [0,1]
 (wSeq (wAsg (gName 2) (wTup (wCons (wC (.int 0)) wNil)))
  (wSeq (wFor (wRange1 (wCall w_3 [true,true] (wCons (wVar 0) (wCons (wC (.int 9)) wNil)))) (gName 3) w_12_b1)
  (wSeq (wAsg (gName 4) (wFrz (wCall w_11 [true,true] (wCons (wVar 1) (wCons (wIx (wVar 2) (wUn oNeg (wC (.int 1)))) wNil)))))
  (wSeq (wIf (wCmp cEq (wVar 4) (wTup wNil)) (wRet (wTup wNil)) wPass)
  (wRet (wBin oAdd (wVar 2) (wSl (wVar 4) (some (wC (.int 1))) none)))))))
def w_16:WF:=wFn 3 9 [0,1,2]
 (wSeq (wAsg (gName 3) (wCall w_3 [true,true] (wCons (wVar 0) (wCons (wBin oAdd (wB bLen (wCons (wVar 2) wNil)) (wC (.int 1))) wNil))))
  (wSeq (wAsg (gName 4) (wCall w_3 [true,true] (wCons (wVar 0) (wCons (wBin oAdd (wB bLen (wCons (wVar 2) wNil)) (wC (.int 1))) wNil))))
  (wSeq (wAsg (gName 5) (wTup (wCons (wIx (wLst (wCons (wC (.str [111,110])) (wCons (wC (.str [98,97,99,107])) wNil))) (wCall w_3 [true,true] (wCons (wVar 0) (wCons (wC (.int 2)) wNil)))) (wCons (wCall w_3 [true,true] (wCons (wVar 0) (wCons (wBin oAdd (wB bLen (wCons (wVar 1) wNil)) (wC (.int 1))) wNil))) wNil))))
  (wSeq (wAsg (gName 6) (wCall w_3 [true,true] (wCons (wVar 0) (wCons (wC (.int 7)) wNil))))
  (wSeq (wIf (wCmp cEq (wVar 6) (wC (.int 0))) (wRet (wBin oAdd (wSl (wVar 2) none (some (wVar 3))) (wSl (wVar 2) (some (wBin oAdd (wVar 3) (wC (.int 1)))) none))) wPass)
  (wSeq (wIf (wCmp cEq (wVar 6) (wC (.int 1))) (wRet (wBin oAdd (wBin oAdd (wSl (wVar 2) none (some (wVar 3))) (wTup (wCons (wVar 5) wNil))) (wSl (wVar 2) (some (wVar 3)) none))) wPass)
  (wSeq (wIf (wCmp cEq (wVar 3) (wB bLen (wCons (wVar 2) wNil))) (wRet (wBin oAdd (wVar 2) (wSl (wVar 2) (some (wVar 4)) (some (wBin oAdd (wVar 4) (wC (.int 1))))))) wPass)
  (wSeq (wAsg (gTup [gName 7,gName 8]) (wIx (wVar 2) (wVar 3)))
  (wSeq (wIf (wCmp cEq (wVar 6) (wC (.int 2))) (wAsg (gName 5) (wTup (wCons (wIx (wLst (wCons (wC (.str [111,110])) (wCons (wC (.str [98,97,99,107])) wNil))) (wB bInt (wCons (wOfT (wCmp cEq (wVar 7) (wC (.str [111,110])))) wNil))) (wCons (wVar 8) wNil)))) (wIf (wCmp cEq (wVar 6) (wC (.int 3))) (wAsg (gName 5) (wTup (wCons (wVar 7) (wCons (wIx (wLst (wCons (wBin oAdd (wVar 8) (wC (.int 1))) (wCons (wBin oSub (wVar 8) (wC (.int 1))) (wCons (wUn oNeg (wC (.int 1))) (wCons (wB bLen (wCons (wVar 1) wNil)) (wCons (wBin oSub (wVar 8) (wB bLen (wCons (wVar 1) wNil))) wNil)))))) (wCall w_3 [true,true] (wCons (wVar 0) (wCons (wC (.int 5)) wNil)))) wNil)))) (wIf (wCmp cEq (wVar 6) (wC (.int 4))) (wAsg (gName 5) (wTup (wCons (wIx (wLst (wCons (wC (.str [])) (wCons (wC (.str [79,110])) (wCons (wC (.str [111,110,32])) (wCons (wC (.str [43])) (wCons (wC (.str [45])) (wCons (wC (.str [111,110,98,97,99,107])) (wCons (wBin oAdd (wVar 7) (wC (.str [115]))) wNil)))))))) (wCall w_3 [true,true] (wCons (wVar 0) (wCons (wC (.int 7)) wNil)))) (wCons (wVar 8) wNil)))) (wIf (wtAnd (wCmp cEq (wVar 6) (wC (.int 5))) (wCmp cLt (wVar 4) (wB bLen (wCons (wVar 2) wNil)))) (wRet (wBin oAdd (wBin oAdd (wSl (wVar 2) none (some (wVar 3))) (wSl (wVar 2) (some (wVar 4)) (some (wBin oAdd (wVar 4) (wC (.int 1)))))) (wSl (wVar 2) (some (wBin oAdd (wVar 3) (wC (.int 1)))) none))) wPass))))
  (wRet (wBin oAdd (wBin oAdd (wSl (wVar 2) none (some (wVar 3))) (wTup (wCons (wVar 5) wNil))) (wSl (wVar 2) (some (wBin oAdd (wVar 3) (wC (.int 1)))) none))))))))))))
def w_7_b1:WS:=wSeq (wAsg (gName 6) (wBin oAdd (wIx (wVar 1) (wCall w_3 [true,true] (wCons (wVar 0) (wCons (wB bLen (wCons (wVar 1) wNil)) wNil)))) (wCall w_5 [true,true,true] (wCons (wVar 0) (wCons (wVar 1) (wCons (wBin oSub (wVar 3) (wC (.int 1))) wNil))))))
  (wSeq (wIf (wtAnd (wCmp cNe (wVar 4) (wLst wNil)) (wCmp cEq (wCall w_3 [true,true] (wCons (wVar 0) (wCons (wC (.int 2)) wNil))) (wC (.int 0)))) (wAsg (gName 6) (wSl (wCall w_6 [true,true,true] (wCons (wVar 0) (wCons (wVar 1) (wCons (wVar 4) wNil)))) none (some (wVar 3)))) wPass)
  (wIf (wCmp cNotInA (wVar 6) (wVar 4)) (wExpr (wAppend 4 (wVar 6))) wPass))
def u_7_b1 {D':Ends} {ρ:Env}:=uS (D':=D') (ρ:=ρ) w_7_b1.eq_1
def w_7:WF:=wFn 4 7 [0,1,2,3]
 (wSeq (wAsg (gName 4) (wLst wNil))
  (wSeq (wFor (wRange1 (wBin oMulA (wCall w_3 [true,true] (wCons (wVar 0) (wCons (wBin oAdd (wVar 2) (wC (.int 1))) wNil))) (wB bInt (wCons (wOfT (wCmp cNe (wVar 1) (wC (.str [])))) wNil)))) (gName 5) w_7_b1)
  (wRet (wB bTuple (wCons (wVar 4) wNil)))))
def w_17:WF:=wFn 3 4 [0,1,2]
 (wSeq (wAsg (gName 3) (wFrz (wCall w_1 [true,true,true] (wCons (wVar 0) (wCons (wVar 1) (wCons (wVar 2) wNil))))))
  (wRet (wAndV (wIsI "bool" (wVar 3)) (wOfT (wCmp cEq (wVar 3) (wCall w_15 [true,true,true] (wCons (wVar 0) (wCons (wVar 1) (wCons (wVar 2) wNil)))))))))
def w_13_c1:WB:=bEmit 5 (wIx (wVar 2) (wCall w_3 [true,true] (wCons (wVar 0) (wCons (wB bLen (wCons (wVar 2) wNil)) wNil))))
def u_13_c1 {Q:Env->Prop} {E:WX} {ρ:Env}:=uB (ρ:=ρ) (Q:=Q) (E:=E) w_13_c1.eq_1
def w_13:WF:=wFn 1 5 [0]
 (wSeq (wAsg (gName 1) (wCall w_4 [true,true] (wCons (wVar 0) (wCons (wBin oAdd (wC (.int 1)) (wCall w_3 [true,true] (wCons (wVar 0) (wCons (wC (.int 3)) wNil)))) wNil))))
  (wSeq (wAsg (gName 2) (wFrz (wCall w_7 [true,true,true,true] (wCons (wVar 0) (wCons (wVar 1) (wCons (wC (.int 6)) (wCons (wC (.int 6)) wNil)))))))
  (wSeq (wAsg (gName 3) (wFrz (wCall w_9 [true,true,true,true] (wCons (wVar 0) (wCons (wVar 2) (wCons (wVar 1) (wCons (wC (.int 12)) wNil)))))))
  (wSeq (wAsg (gName 4) (wFrz (wCall w_12 [true,true] (wCons (wVar 0) (wCons (wFrz (wCall w_10 [true,true] (wCons (wVar 2) (wCons (wVar 3) wNil)))) wNil)))))
  (wSeq (wIf (wCmp cEq (wVar 4) (wTup wNil)) (wSeq (wAsg (gName 3) (wMS mJoin (wC (.str [])) (wCons (wLC 5 1 (wRange1 (wBin oAdd (wC (.int 1)) (wCall w_3 [true,true] (wCons (wVar 0) (wCons (wC (.int 2)) wNil))))) (gName 6) wYes w_13_c1) wNil)))
  (wAsg (gName 4) (wFrz (wCall w_12 [true,true] (wCons (wVar 0) (wCons (wFrz (wCall w_10 [true,true] (wCons (wVar 2) (wCons (wVar 3) wNil)))) wNil)))))) wPass)
  (wRet (wTup (wCons (wVar 1) (wCons (wVar 2) (wCons (wVar 3) (wCons (wVar 4) wNil)))))))))))
def w_19_b1:WS:=wSeq (wAsg (gName 1) (wCall w_2 [true,true] (wCons (wVar 0) (wCons (wVar 7) wNil))))
  (wSeq (wAsg (gName 8) (wFrz (wCall w_16 [true,true,true] (wCons (wVar 1) (wCons (wVar 3) (wCons (wVar 6) wNil))))))
  (wSeq (wIf (wCmp cEq (wCall w_3 [true,true] (wCons (wVar 1) (wCons (wC (.int 2)) wNil))) (wC (.int 0))) (wAsg (gName 8) (wFrz (wCall w_16 [true,true,true] (wCons (wVar 1) (wCons (wVar 3) (wCons (wVar 8) wNil)))))) wPass)
  (wSeq (wAsg (gName 8) (wSl (wVar 8) none (some (wC (.int 24)))))
  (wSeq (wAsg (gName 9) (wCall w_3 [true,true] (wCons (wVar 1) (wCons (wBin oAdd (wB bLen (wCons (wVar 4) wNil)) (wC (.int 1))) wNil))))
  (wSeq (wAsg (gName 10) (wBin oAdd (wBin oAdd (wSl (wVar 4) none (some (wVar 9))) (wIx (wLst (wCons (wIx (wVar 2) (wC (.int 0))) (wCons (wIx (wVar 2) (wUn oNeg (wC (.int 1)))) (wCons (wC (.str [])) wNil)))) (wCall w_3 [true,true] (wCons (wVar 1) (wCons (wC (.int 3)) wNil))))) (wSl (wVar 4) (some (wBin oAdd (wVar 9) (wCall w_3 [true,true] (wCons (wVar 1) (wCons (wC (.int 2)) wNil))))) none)))
  (wSeq (wIf (wtOr (wtNot (wTest (wCall w_17 [true,true,true] (wCons (wVar 3) (wCons (wVar 4) (wCons (wVar 8) wNil)))))) (wtNot (wTest (wCall w_17 [true,true,true] (wCons (wVar 3) (wCons (wSl (wVar 10) none (some (wC (.int 12)))) (wCons (wVar 6) wNil))))))) (wRet (wC (.bl false))) wPass)
  (wIf (wtNot (wTest (wCall w_17 [true,true,true] (wCons (wTupRev (wVar 3)) (wCons (wVar 4) (wCons (wVar 8) wNil)))))) (wRet (wC (.bl false))) wPass)))))))
def u_19_b1 {D':Ends} {ρ:Env}:=uS (D':=D') (ρ:=ρ) w_19_b1.eq_1
def w_19:WF:=wFn 1 11 [0]
 (wSeq (wAsg (gName 1) (wCall w_2 [true,true] (wCons (wVar 0) (wCons (wC (.int 0)) wNil))))
  (wSeq (wAsg (gTup [gName 2,gName 3,gName 4,gName 5]) (wCall w_13 [true] (wCons (wVar 1) wNil)))
  (wSeq (wAsg (gName 6) (wFrz (wCall w_18 [false,true] (wCons (wFrz (wCall w_14 [true,true,true] (wCons (wVar 3) (wCons (wVar 4) (wCons (wVar 5) wNil))))) (wCons (wIx (wLst (wCons (wC (.int 0)) (wCons (wC (.int 0)) (wCons (wC (.int 23)) (wCons (wC (.int 24)) wNil))))) (wCall w_3 [true,true] (wCons (wVar 1) (wCons (wC (.int 4)) wNil)))) wNil)))))
  (wSeq (wIf (wCmp cIsNot (wCall w_1 [true,true,true] (wCons (wVar 3) (wCons (wVar 4) (wCons (wVar 6) wNil)))) (wC (.bl true))) (wRet (wC (.bl false))) wPass)
  (wSeq (wFor (wRange2 (wC (.int 1)) (wC (.int 9))) (gName 7) w_19_b1)
  (wRet (wOfT (wCmp cIs (wCall w_1 [true,true,true] (wCons (wVar 3) (wCons (wVar 4) (wCons (wVar 6) wNil)))) (wC (.bl true))))))))))
end Law
end
end
section
namespace Law
open FL
variable {P:S->List S->Prop} {PX:D->List S->Prop}
set_option hygiene false in
local macro_rules
 | `(tactic| simp! [$xs,*] $[$l:location]?)=>do
   let ls <- ("e_C e_V zqs zmk e_Un zpb zpv e_Ck zqd zn6 zl5 e_Ch zpg zrg zm1 zmS zp0 zmM zkA zks zqU zmU zmH e_Or zql zpQ zo2 znA zpU znb zmp zkD zkV zo6 znM zk2 zk7 zqL e_gA zre zo0 e_gv e_gl zrh zqu zmq zmW zoU zno znN e_l0 e_l1 e_l2 e_l3 e_l4 e_l5 e_vv e_vl e_cv e_cl znD e_sh zaA zqt e_Ix zqB zp5 zn8 zlP zoY zo9 zo3 zoE zqN zq1 zqI zpw zpj zq9 zpd e_p0 e_pv e_pl zqX e_pA e_b0 e_bv e_bl zn7 zls zkE zmu zoq e_vA zpW e_B e_B1 e_B2 e_MS zpZ zqP e_Ap zpr zp7 zqa zqS zo5 znJ zm2 zrd zlQ zme zlU e_Di zos zov zoR zng zoO e_Pt zrf zp6 e_Sl zq6 zqM zpf zqQ e_nx e_rt e_ex znj zoT e_If zp8 zqx zoH zmT zkT zpS zmw zmY e_gN e_gT zoz zpM zpa zoV zqY znQ zlW zni zmJ zlM zly e_Dp zpN zoh zqe zqJ zqg zm0 e_It zra zpE zoA zop zqh e_En zqz zou zoI e_R1 zqq zpV e_R2 zp9 zpF zqf zqO zl0 e_LC zqb zpD zmf zo8 zlV zpK e_Em zoN zpP zqn e_bF zq8 zol zp2 e_Rt zoM zph e_Fn e_f0 e_fs e_fl e_fA zps znc znr zpC zmg zoD zms zpn zok e_lt e_gt e_le e_ge zn4 zoj znk zq7 zoC zrb zlT zns zl6 zlN zmd zn3 zpA zow zpX zpm zpu zp4 zpR zoQ zqC zon zqv zpo zqj zo4 zqk zpy zqE zoX zqW zrc zq5 zqD zoZ zoP zqG zpG zpq zpY zq0 zqA zqZ zoo zp3 zoi zom zqV zqR zp1 zq3 zo1 zl2 zmi zl1 znX zmB zmD zmt zn1 zl4 znp znL zpT zqi zot znG e_AA zpB zpH zoL zqH zpI zpL znT zmz zq4 znl znf zqy zoW zmo zmL e_Gf zpk zqr zor e_XA zqF zpp zox zpz zgM e_TR zo7 zpJ zn5 e_ML zoG zqo zfN map_some S.toD_sh S.toD_lst map_cons map_nil cons_append nil_append List.replicate_succ List.replicate_zero Nat.reduceSub Nat.reduceAdd append_nil List.take_succ_cons take_zero true_and S.toDs_map S.toD_dct Int.reduceEq Int.reduceLT Int.reduceLE decide_true decide_false Bool.not_true Bool.not_false".splitOn " ").toArray.mapM fun n=>`(Lean.Parser.Tactic.simpLemma| $(Lean.mkIdent n.toName):ident)
   let ls:=ls++xs.getElems
   `(tactic| simp -implicitDefEqProofs (disch:=first | omega | decide | rfl | (simp only [length_map,length_append,length_cons,length_nil,length_range,zam]; omega) | (simp only [length_map,length_append,length_cons,length_nil,length_range,zam]; done)) only [$ls,*] $[$l:location]?)
noncomputable section pu
def box (a s:Int):S:=.lst [.sh (.int a),.sh (.int s)]
theorem zah {a s m:Int} (ha:0<=a) (hs:1<=s) (hs2:s<=2147483629) (hm:0 < m) (hm2:m < 18446744073709551616)
  (h:∀ r a' s',0<=r->r < m->0<=a'->1<=s'->s'<=2147483629->P (.sh (.int r)) [box a' s',.sh (.int m)]):w_3 [box a s,.sh (.int m)] P PX:=by
 refine za5 rfl rfl ?_
 simp! [box]
 cases hc:decide (0 < a)
 ·simp! [e_C]
  exact h _ _ _ (Int.emod_nonneg _ (by lia)) (Int.emod_lt_of_pos _ hm) ha (by lia) (by lia)
 ·simp! [e_C]
  exact h _ _ _ (Int.emod_nonneg _ (by lia)) (Int.emod_lt_of_pos _ hm) (Int.ediv_nonneg ha (by lia)) hs hs2
theorem zfQ {ns:List Int} {k:Int} (hk:0<=k)
  (h:∀ a s,0<=a->1<=s->s<=2147483629->P (box a s) [.sh (.lst (ns.map .int)),.sh (.int k)]):w_2 [.sh (.lst (ns.map .int)),.sh (.int k)] P PX:=by
 refine za5 rfl rfl ?_
 simp! [length_map]
 by_cases h1:k < ns.length
 ·obtain ⟨v,hv,_,e⟩:=zaG (f:=D.int) hk h1
  simp! [length_map,h1,decide_true,e]
  cases hc:decide ((10:Int) ^ (18:Int).toNat<=v)
  ·simp! [if_true,false_eq_true,if_false]
   exact h _ _ (by decide) (by lia) (by lia)
  ·simp! [if_true]
   have:(0:Int)<=v:=by
    have:=of_decide_eq_true hc
    have e:(10:Int) ^ (18:Int).toNat=1000000000000000000:=by decide
    lia
   exact h _ _ this (by lia) (by lia)
 ·by_cases h2:0 < ns.length
  ·have hp:(0:Int) < ns.length:=by lia
   obtain ⟨v,hv,_,e⟩:=zaG (f:=D.int) (l:=ns) (z:=k % ns.length) (Int.emod_nonneg _ (by lia)) (Int.emod_lt_of_pos _ hp)
   simp! [length_map,h1,hp,decide_true,decide_false,e]
   generalize 7919 * k + 11 + v % 2147483629 * 69623=cell
   cases hc:decide ((10:Int) ^ (18:Int).toNat<=cell)
   ·simp! [if_true,false_eq_true,if_false]
    exact h _ _ (by decide) (by lia) (by lia)
   ·simp! [if_true]
    have:(0:Int)<=cell:=by
     have:=of_decide_eq_true hc
     have e:(10:Int) ^ (18:Int).toNat=1000000000000000000:=by decide
     lia
    exact h _ _ this (by lia) (by lia)
  ·have hp:¬ (0:Int) < ns.length:=by lia
   simp! [length_map,h1,hp,decide_true,decide_false]
   generalize 7919 * k + 11=cell
   cases hc:decide ((10:Int) ^ (18:Int).toNat<=cell)
   ·simp! [if_true,false_eq_true,if_false]
    exact h _ _ (by decide) (by lia) (by lia)
   ·simp! [if_true]
    have:(0:Int)<=cell:=by
     have:=of_decide_eq_true hc
     have e:(10:Int) ^ (18:Int).toNat=1000000000000000000:=by decide
     lia
    exact h _ _ this (by lia) (by lia)
def letters:List Nat:=[97,98,99,100,101,102,103,104,105,106,107,108,109,110,111,112,113,114,115,116,117,118,119,120,121,122]
theorem zjs {Q:Env->Prop} {E:WX} {m:Int}:∀ (xs:List D) (a s:Int) (L A:List Nat) (o:Option S),xs.length<=L.length->0<=a->1<=s->s<=2147483629->(A++L).Perm letters->
  (∀ a' s' (L' A':List Nat) o',0<=a'->1<=s'->s'<=2147483629->A'.length=A.length + xs.length->(A'++L').Perm letters->Q [some (box a' s'),some (.sh (.int m)),some (.lst ((L'.map sg).map .sh)),some (.lst ((A'.map sg).map .sh)),o'])->
  bLoop (gName 4) wYes w_4_c1 xs [some (box a s),some (.sh (.int m)),some (.lst ((L.map sg).map .sh)),some (.lst ((A.map sg).map .sh)),o] Q E:=by
 intro xs
 induction xs with
 | nil=>
   intro a s L A o h1 ha hs hs2 hnd h
   exact h a s L A o ha hs hs2 (by simp) hnd
 | cons x xs ih=>
   intro a s L A o h1 ha hs hs2 hnd h
   have hlen:=hnd.length_eq
   have h26:letters.length=26:=rfl
   simp only [length_cons,length_append] at h1 h hlen
   rw [e_bL]
   simp! [u_4_c1,e_sh,zaA,box,length_map]
   refine zah ha hs hs2 ?_ ?_ fun r a' s' hr hr2 ha' hs' hs2'=>?_
   ·lia
   ·lia
   simp! [e_sh,zaA,box,length_map]
   obtain ⟨c,hc,hg,_⟩:=zdh (l:=L) hr hr2
   refine zj7 hr (by simp only [length_map,zam]; lia) (zgn (d:=sg c) (by rw [getElem?_map,hg]; rfl)) ?_
   simp! [e_sh,zaA,box,length_map]
   refine ⟨by simp only [zam]; lia,?_⟩
   have e1:((L.map sg).map S.sh).eraseIdx r.toNat=((L.eraseIdx r.toNat).map sg).map S.sh:=by rw [zcF,zcF]
   have e2:((A.map sg).map S.sh)++[S.sh (sg c)]=(((A++[c]).map sg).map S.sh):=by simp
   rw [e1,e2]
   have hlt:r.toNat < L.length:=by lia
   have hl:(L.eraseIdx r.toNat).length=L.length - 1:=List.length_eraseIdx_of_lt hlt
   have hgc:L[r.toNat]=c:=by rw [getElem?_eq_getElem hlt] at hg; exact qh hg
   have hperm:(A++[c]++L.eraseIdx r.toNat).Perm (A++L):=by
    rw [append_assoc]
    refine List.Perm.append_left A ?_
    have:=zda L r.toNat hlt
    rw [hgc] at this
    exact this
   refine ih a' s' _ _ _ (by lia) ha' hs' hs2' (hperm.trans hnd) fun a2 s2 L' A' o' x1 x2 x3 x4 x5=>h a2 s2 L' A' o' x1 x2 x3 (by rw [x4]; simp only [length_append,length_singleton]; lia) x5
theorem zeu {a s m:Int} (ha:0<=a) (hs:1<=s) (hs2:s<=2147483629) (hm:0<=m) (hm2:m<=26)
  (h:∀ (l:List Nat) a' s',l.length=m.toNat->l.Pairwise (· < ·)->(∀ c∈l,97<=c/\c<=122)->0<=a'->1<=s'->s'<=2147483629->P (.sh (.str l)) [box a' s',.sh (.int m)]):w_4 [box a s,.sh (.int m)] P PX:=by
 refine za5 rfl rfl ?_
 simp! [box,e_sh,zaA]
 refine ⟨by simp only [zam]; lia,?_⟩
 have hf:(fromTo 0 m.toNat).length=m.toNat:=zaO
 have h26:letters.length=26:=rfl
 refine zjs (fromTo 0 m.toNat) a s letters [] none (by rw [hf,h26]; lia) ha hs hs2 (List.Perm.refl _)
  fun a' s' L' A' o' ha' hs' hs2' hA hpm=>?_
 rw [hf,length_nil,zero_add] at hA
 have hnd:A'.Nodup:=(nodup_append.mp (hpm.nodup_iff.mpr (by decide))).1
 have hle:∀ c∈A',97<=c/\c<=122:=fun c hc=>by
  have:c∈letters:=hpm.mem_iff.mp (qm _ hc)
  have hall:∀ c∈letters,97<=c/\c<=122:=by decide
  exact hall c this
 obtain ⟨A2,hp,hso,e⟩:=zlm (A:=A') (by lia)
 have hl:A2.length=m.toNat:=hp.length_eq.trans hA
 simp! [box,e_sh,zaA,e,ziC (show A2.length<=big by simp only [zam]; lia)]
 exact h A2 a' s' hl (zhb hso (hp.nodup_iff.mpr hnd)) (fun c hc=>hle c (hp.mem_iff.mp hc)) ha' hs' hs2'
theorem zh4 {Q:Env->Prop} {E:WX} {m many:Int} {col:List Nat} (hc:0 < col.length) (hc2:col.length<=26):∀ (xs:List D) (a s:Int) (A:List Nat) (o:Option S),0<=a->1<=s->s<=2147483629->A.length + xs.length<=1000->
  (∀ a' s' (A':List Nat) o',0<=a'->1<=s'->s'<=2147483629->A'.length=A.length + xs.length->(∀ z∈A',z∈A\/z∈col)->Q [some (box a' s'),some (.sh (.str col)),some (.sh (.int m)),some (.sh (.int many)),some (.lst ((A'.map sg).map .sh)),o'])->
  bLoop (gName 5) wYes w_5_c1 xs [some (box a s),some (.sh (.str col)),some (.sh (.int m)),some (.sh (.int many)),some (.lst ((A.map sg).map .sh)),o] Q E:=by
 intro xs
 induction xs with
 | nil=>
   intro a s A o ha hs hs2 h3 h
   exact h a s A o ha hs hs2 (by simp) fun z hz=>.inl hz
 | cons x xs ih=>
   intro a s A o ha hs hs2 h3 h
   simp only [length_cons] at h3 h
   rw [e_bL]
   simp! [u_5_c1,e_sh,zaA,box,length_map]
   refine zah ha hs hs2 (by lia) (by lia) fun r a' s' hr hr2 ha' hs' hs2'=>?_
   obtain ⟨c,hcm,_,e⟩:=zdh (l:=col) hr hr2
   simp! [e,e_sh,zaA,box,length_map]
   refine ⟨by simp only [zam]; lia,?_⟩
   have e2:((A.map sg).map S.sh)++[S.sh (.str [c])]=(((A++[c]).map sg).map S.sh):=by simp [sg]
   rw [e2]
   refine ih a' s' _ _ ha' hs' hs2' (by simp only [length_append,length_singleton]; lia) fun a2 s2 A' o' x1 x2 x3 x4 x5=>h a2 s2 A' o' x1 x2 x3 (by rw [x4]; simp only [length_append,length_singleton]; lia) fun z hz=>?_
   rcases x5 z hz with q | q
   ·rcases mem_append.mp q with q | q
    ·exact .inl q
    ·rw [mem_singleton.mp q]; exact .inr hcm
   ·exact .inr q
theorem zhn {a s m:Int} {col:List Nat} (ha:0<=a) (hs:1<=s) (hs2:s<=2147483629) (hm:0<=m) (hm2:m<=900) (hc:0 < col.length) (hc2:col.length<=26)
  (h:∀ (l:List Nat) a' s',l.length<=m.toNat->(∀ z∈l,z∈col)->0<=a'->1<=s'->s'<=2147483629->P (.sh (.str l)) [box a' s',.sh (.str col),.sh (.int m)]):w_5 [box a s,.sh (.str col),.sh (.int m)] P PX:=by
 refine za5 rfl rfl ?_
 simp! [box,e_sh,zaA]
 refine zah ha hs hs2 (by lia) (by lia) fun r a1 s1 hr hr2 ha1 hs1 hs21=>?_
 have hne:(decide (col=[]))=false:=by simp; intro z; rw [z] at hc; simp at hc
 simp! [box,e_sh,zaA,hne,Bool.not_false,if_true,mul_one]
 refine ⟨by simp only [zam]; lia,?_⟩
 have hf:(fromTo 0 r.toNat).length=r.toNat:=zaO
 refine zh4 (A:=[]) hc hc2 _ a1 s1 none ha1 hs1 hs21 (by rw [hf]; simp only [length_nil]; lia) fun a' s' A' o' ha' hs' hs2' hA hg=>?_
 rw [hf,length_nil,zero_add] at hA
 simp! [box,e_sh,zaA]
 rw [ziC (by simp only [zam]; lia)]
 simp! [box,e_sh,zaA]
 exact h A' a' s' (by lia) (fun z hz=>(hg z hz).resolve_left (by simp)) ha' hs' hs2'
theorem ziL {a s:Int} {col:List Nat} {B:List Wd} (ha:0<=a) (hs:1<=s) (hs2:s<=2147483629) (hc:0 < col.length) (hc2:col.length<=26) (hB:0 < B.length) (hB2:B.length<=1000) (hw:∀ w∈B,w≠[]/\w.length<=1000/\∀ c∈w,c∈col)
  (h:∀ (w:Wd) a' s',w≠[]->w.length<=2000->(∀ c∈w,c∈col)->0<=a'->1<=s'->s'<=2147483629->P (.sh (.str w)) [box a' s',.sh (.str col),.lst ((B.map D.str).map .sh)]):w_6 [box a s,.sh (.str col),.lst ((B.map D.str).map .sh)] P PX:=by
 refine za5 rfl rfl ?_
 simp! [box,e_sh,zaA,length_map]
 refine zah ha hs hs2 (by lia) (by lia) fun r a1 s1 hr hr2 ha1 hs1 hs21=>?_
 obtain ⟨w,hwm,_,e⟩:=zaG (f:=fun z=>S.sh (D.str z)) (l:=B) hr hr2
 have e':atI ((B.map D.str).map S.sh) r=some (S.sh (.str w)):=by rw [map_map]; exact e
 obtain ⟨hw1,hw2,hw3⟩:=hw w hwm
 have hwl:0 < w.length:=length_pos_iff.mpr hw1
 simp! [box,e']
 refine zah ha1 hs1 hs21 (by decide) (by decide) fun kd a2 s2 hk0 hk1 ha2 hs2 hs22=>?_
 simp! [box]
 refine zah ha2 hs2 hs22 (by lia) (by lia) fun r3 a3 s3 hr3 hr32 ha3 hs3 hs23=>?_
 obtain ⟨c,hcm,_,ec⟩:=zdh (l:=col) hr3 hr32
 simp! [box,ec]
 refine zah ha3 hs3 hs23 (by lia) (by lia) fun p a4 s4 hp0 hp1 ha4 hs4 hs24=>?_
 simp! [box]
 rw [zfh w (by lia) (by lia),zcL w hp0]
 have hkd:kd=0\/kd=1\/kd=2\/kd=3\/kd=4:=by lia
 rcases hkd with rfl | rfl | rfl | rfl | rfl
 ·simp! [box]
  refine h _ _ _ ?_ ?_ (fun c hc=>hw3 c (List.mem_of_mem_take hc)) ha4 hs4 hs24
  ·intro z
   have:=congrArg List.length z
   rw [length_take,length_nil] at this
   lia
  ·rw [length_take]; lia
 ·simp! [box]
  refine h _ _ _ ?_ ?_ (fun c hc=>hw3 c (List.mem_of_mem_drop hc)) ha4 hs4 hs24
  ·intro z
   have:=congrArg List.length z
   rw [length_drop,length_nil] at this
   lia
  ·rw [length_drop]; lia
 ·simp! [box]
  refine h _ _ _ (by simp) (by simp; lia) (fun x hx=>?_) ha4 hs4 hs24
  rcases mem_cons.mp hx with rfl | hx
  ·exact hcm
  ·exact hw3 x hx
 ·simp! [box]
  refine h _ _ _ (by simp) (by simp; lia) (fun x hx=>?_) ha4 hs4 hs24
  rcases mem_append.mp hx with hx | hx
  ·exact hw3 x hx
  ·rw [mem_singleton.mp hx]; exact hcm
 ·simp! [box]
  refine h _ _ _ (by simp [hw1]) (by simp; lia) (fun x hx=>?_) ha4 hs4 hs24
  rcases mem_append.mp hx with hx | hx <;> exact hw3 x hx
def goodB (col:List Nat) (many most:Nat) (B:List Wd):Prop:=B.length<=many/\B.Nodup/\∀ w∈B,w≠[]/\w.length<=most/\∀ c∈w,c∈col
def boardD (B:List Wd):D:=.tup (B.map D.str)
theorem zgq {a s many most:Int} {col:List Nat} (ha:0<=a) (hs:1<=s) (hs2:s<=2147483629) (hc:0 < col.length) (hc2:col.length<=26) (hm:0<=many) (hm2:many<=500) (ho:1<=most) (ho2:most<=500)
  (h:∀ (B:List Wd) a' s',goodB col many.toNat most.toNat B->0<=a'->1<=s'->s'<=2147483629->P (.sh (boardD B)) [box a' s',.sh (.str col),.sh (.int many),.sh (.int most)]):w_7 [box a s,.sh (.str col),.sh (.int many),.sh (.int most)] P PX:=by
 refine za5 rfl rfl ?_
 simp! [box]
 refine zah ha hs hs2 (by lia) (by lia) fun r a1 s1 hr hr2 ha1 hs1 hs21=>?_
 have hne:(decide (col=[]))=false:=by simp; intro z; rw [z] at hc; simp at hc
 simp! [box,hne,if_true,mul_one]
 refine ⟨by simp only [zam]; lia,?_⟩
 refine lpn (fun k ρ=>∃ (a s:Int) (B:List Wd) (o5 o6:Option S),0<=a/\1<=s/\s<=2147483629/\goodB col k most.toNat B/\ρ=[some (box a s),some (.sh (.str col)),some (.sh (.int many)),some (.sh (.int most)),some (.lst ((B.map D.str).map .sh)),o5,o6]) _ (fun k x hk D2 ρ hI hnx hct hrt hbk=>?_) (fun ρ hI=>?_) ⟨a1,s1,[],none,none,ha1,hs1,hs21,⟨by simp,by simp,by simp⟩,rfl⟩
 ·obtain ⟨a,s,B,o5,o6,ha,hs,hs2,hB,rfl⟩:=hI
  have hkl:=(qi.mp hk).1
  rw [zaO] at hkl
  obtain ⟨hB1,hB2,hB3⟩:=hB
  simp! [box,u_7_b1]
  refine zah ha hs hs2 (by lia) (by lia) fun r3 a2 s2 hr3 hr32 ha2 hs2 hs22=>?_
  obtain ⟨c,hcm,_,ec⟩:=zdh (l:=col) hr3 hr32
  simp! [box,ec]
  refine zhn ha2 hs2 hs22 (by lia) (by lia) hc hc2 fun w a3 s3 hw1 hw2 ha3 hs3 hs23=>?_
  -- what is done with a word
  have put:∀ (w:Wd) (a s:Int),0<=a->1<=s->s<=2147483629->w≠[]->w.length<=most.toNat->(∀ c∈w,c∈col)->
    (wIf (wCmp cNotInA (wVar 6) (wVar 4)) (wExpr (wAppend 4 (wVar 6))) wPass) D2 [some (box a s),some (.sh (.str col)),some (.sh (.int many)),some (.sh (.int most)),some (.lst ((B.map D.str).map .sh)),some (.sh x),some (.sh (.str w))]:=fun w a s ha hs hs2 h1 h2 h3=>by
   simp! [box,zaA,zj4]
   cases q:decide (w∈B)
   ·simp! [length_map]
    rw [show ((B.map D.str).map S.sh)++[S.sh (.str w)]=((B++[w]).map D.str).map S.sh by simp]
    refine ⟨by simp only [zam]; lia,hnx _ ⟨a,s,_,_,_,ha,hs,hs2,⟨by simp only [length_append,length_singleton]; lia,?_,fun x hx=>?_⟩,rfl⟩⟩
    ·refine nodup_append.mpr ⟨hB2,by simp,fun x hx y hy e=>?_⟩
     rw [mem_singleton.mp hy] at e
     subst e
     have:=of_decide_eq_false q
     exact this hx
    ·rcases mem_append.mp hx with z | z
     ·exact hB3 x z
     ·rw [mem_singleton.mp z]; exact ⟨h1,h2,h3⟩
   ·simp! [e_C]
    exact hnx _ ⟨a,s,B,_,_,ha,hs,hs2,⟨by lia,hB2,hB3⟩,rfl⟩
  have hword:([c]++w)≠[]/\([c]++w).length<=most.toNat/\∀ x∈[c]++w,x∈col:=by
   refine ⟨by simp,by simp; lia,fun x hx=>?_⟩
   rcases mem_append.mp hx with z | z
   ·rw [mem_singleton.mp z]; exact hcm
   ·exact hw2 x z
  simp! [box,zaA,zjc,length_cons,length_nil]
  cases q:decide (B=[])
  ·simp! [box]
   refine zah ha3 hs3 hs23 (by decide) (by decide) fun r4 a4 s4 hr4 hr42 ha4 hs4 hs24=>?_
   simp! [box]
   cases q2:decide (r4=0)
   ·simp! [e_C]
    have:=put _ a4 s4 ha4 hs4 hs24 hword.1 hword.2.1 hword.2.2
    simp! [box] at this
    exact this
   ·simp! [box]
    refine ziL ha4 hs4 hs24 hc hc2 (length_pos_iff.mpr (of_decide_eq_false q)) (by lia) (fun w hw=>⟨(hB3 w hw).1,by have:=(hB3 w hw).2.1; lia,(hB3 w hw).2.2⟩) fun w2 a5 s5 hn hl hm5 ha5 hs5 hs25=>?_
    simp! [box]
    have hw2l:0 < w2.length:=length_pos_iff.mpr hn
    have:=put (cutL w2 none (some most)) a5 s5 ha5 hs5 hs25 (fun z=>?_) ?_ fun c hc=>hm5 c (zbm hc)
    ·simp! [box] at this
     exact this
    ·have z2:=congrArg List.length z
     unfold cutL sIx at z2
     have:¬ most < 0:=by lia
     simp only [if_neg this,drop_zero,sub_zero,length_take,length_nil] at z2
     lia
    ·unfold cutL sIx
     have:¬ most < 0:=by lia
     simp only [if_neg this,drop_zero,sub_zero,length_take]
     lia
  ·simp! [e_C]
   have:=put _ a3 s3 ha3 hs3 hs23 hword.1 hword.2.1 hword.2.2
   simp! [box] at this
   exact this
 ·obtain ⟨a,s,B,o5,o6,ha,hs,hs2,hB,rfl⟩:=hI
  rw [zaO] at hB
  simp! [box,zaA]
  exact h B a s ⟨by have:=hB.1; lia,hB.2⟩ ha hs hs2
abbrev Mv:=Wd×Int
def mvD (m:Mv):D:=.tup [.str m.1,.int m.2]
theorem zk8 (l:List Mv):deps (l.map mvD)<=29:=zfd _ fun d hd=>by
 obtain ⟨m,_,rfl⟩:=mem_map.mp hd
 show 1<=29
 decide
theorem zoy {l:List Mv}:cNe (.lst (l.map mvD)) (.lst [])=some (!l.isEmpty):=by rw [zfC (zk8 l),List.isEmpty_map]
theorem zgz {B:List Wd} {t:Wd} {p most:Int} (hB:B.length<=1000) (ht:t.length<=1000) (hp:0<=p) (hp2:p<=most)
  (h:∀ ms:List Mv,ms.length<=2000->(∀ m∈ms,m.1∈B/\0<=m.2/\m.2<=most/\(m.2=p + m.1.length\/m.2<=p))->P (.lst ((ms.map mvD).map .sh)) [.sh (boardD B),.sh (.str t),.sh (.int p),.sh (.int most)]):w_8 [.sh (boardD B),.sh (.str t),.sh (.int p),.sh (.int most)] P PX:=by
 refine za5 rfl rfl ?_
 simp! [boardD]
 refine za7 (fun pre ρ=>∃ (ms:List Mv) (o:Option S),ms.length<=2 * pre.length/\(∀ m∈ms,m.1∈B/\0<=m.2/\m.2<=most/\(m.2=p + m.1.length\/m.2<=p))/\ρ=[some (.sh (boardD B)),some (.sh (.str t)),some (.sh (.int p)),some (.sh (.int most)),some (.lst ((ms.map mvD).map .sh)),o]) B (fun pre w post D2 ρ e hI hnx hct hrt hbk=>?_) (fun ρ hI=>?_) ⟨[],none,by simp,by simp,rfl⟩
 ·obtain ⟨ms,o,hl,hm,rfl⟩:=hI
  have hlen:pre.length + 1<=B.length:=by rw [<- e]; simp only [length_append,length_cons]; lia
  have hwB:w∈B:=by rw [<- e]; simp
  have snd:∀ ms:List Mv,ms.length<=2 * pre.length + 1->(∀ m∈ms,m.1∈B/\0<=m.2/\m.2<=most/\(m.2=p + m.1.length\/m.2<=p))->
    (wIf (wtAnd (wCmp cGe (wVar 2) (wB bLen (wCons (wVar 5) wNil))) (wCmp cEq (wSl (wVar 1) (some (wBin oSub (wVar 2) (wB bLen (wCons (wVar 5) wNil)))) (some (wVar 2))) (wVar 5))) (wExpr (wAppend 4 (wTup (wCons (wVar 5) (wCons (wBin oSub (wVar 2) (wB bLen (wCons (wVar 5) wNil))) wNil))))) wPass) D2 [some (.sh (boardD B)),some (.sh (.str t)),some (.sh (.int p)),some (.sh (.int most)),some (.lst ((ms.map mvD).map .sh)),some (.sh (.str w))]:=fun ms hl hm=>by
   have stop:D2.nx [some (.sh (boardD B)),some (.sh (.str t)),some (.sh (.int p)),some (.sh (.int most)),some (.lst ((ms.map mvD).map .sh)),some (.sh (.str w))]:=hnx _ ⟨ms,_,by simp only [length_append,length_singleton]; lia,hm,rfl⟩
   simp! [boardD]
   cases q1:decide ((w.length:Int)<=p)
   ·simp! [e_C]
    exact stop
   have q1':=of_decide_eq_true q1
   simp! [boardD]
   cases q2:decide (cutL t (some (p - (w.length:Int))) (some p)=w)
   ·simp! [e_C]
    exact stop
   simp! [length_map]
   rw [show ((ms.map mvD).map S.sh)++[S.sh (.tup [.str w,.int (p - w.length)])]=((ms++[(w,p - w.length)]).map mvD).map S.sh by simp [mvD]]
   refine ⟨by simp only [zam]; lia,hnx _ ⟨_,_,by simp only [length_append,length_singleton]; lia,fun m hmm=>?_,rfl⟩⟩
   rcases mem_append.mp hmm with z | z
   ·exact hm m z
   ·rw [mem_singleton.mp z]; exact ⟨hwB,by show 0<=p - w.length; lia,by show p - (w.length:Int)<=most; lia,.inr (by show p - (w.length:Int)<=p; lia)⟩
  simp! [u_8_b1,boardD]
  have snd0:=snd ms (by lia) hm
  simp! [boardD] at snd0
  cases q1:decide (cutL t (some p) (some (p + (w.length:Int)))=cutL w none (some ((t.length:Int) - p)))
  ·simp! [e_C]
   exact snd0
  simp! [e_C]
  cases q2:decide (p + (w.length:Int)<=most)
  ·simp! [e_C]
   exact snd0
  have q2':=of_decide_eq_true q2
  simp! [length_map]
  rw [show ((ms.map mvD).map S.sh)++[S.sh (.tup [.str w,.int (p + w.length)])]=((ms++[(w,p + w.length)]).map mvD).map S.sh by simp [mvD]]
  refine ⟨by simp only [zam]; lia,?_⟩
  have snd1:=snd (ms++[(w,p + w.length)]) (by simp only [length_append,length_singleton]; lia) fun m hmm=>by
   rcases mem_append.mp hmm with z | z
   ·exact hm m z
   ·rw [mem_singleton.mp z]; exact ⟨hwB,by show 0<=p + (w.length:Int); lia,q2',.inl rfl⟩
  simp! [boardD] at snd1
  exact snd1
 ·obtain ⟨ms,o,hl,hm,rfl⟩:=hI
  simp! [boardD]
  exact h ms (by lia) hm
theorem cut3 {t w:Wd} {p g:Int} (hp:0<=p) (hp2:p<=t.length) (hg:g=p + w.length):((cutL t none (some p)++w)++cutL t (some g) none).length=max g.toNat t.length:=by
 obtain ⟨k,rfl⟩:=Int.eq_ofNat_of_zero_le hp
 have hk:k<=t.length:=Int.ofNat_le.mp hp2
 rw [<- natCast_add] at hg
 subst hg
 rw [zfh t hp hp2,zcL t (Int.natCast_nonneg _)]
 simp only [length_append,length_take,length_drop,toNat_natCast]
 rw [min_eq_left hk,Nat.add_comm,Nat.sub_add_eq_max,Nat.max_comm]
theorem ziS {a s most:Int} {col:List Nat} {B:List Wd} (ha:0<=a) (hs:1<=s) (hs2:s<=2147483629) (hc:0 < col.length) (hc2:col.length<=26) (hm:0<=most) (hm2:most<=500) (hB:B.length<=1000) (hw:∀ w∈B,w.length<=1000/\∀ c∈w,c∈col)
  (h:∀ (t:Wd) a' s',t.length<=most.toNat->(∀ c∈t,c∈col)->(B=[]->t=[])->0<=a'->1<=s'->s'<=2147483629->P (.sh (.str t)) [box a' s',.sh (boardD B),.sh (.str col),.sh (.int most)]):w_9 [box a s,.sh (boardD B),.sh (.str col),.sh (.int most)] P PX:=by
 refine za5 rfl rfl ?_
 simp! [box,length_cons,length_nil]
 refine zah ha hs hs2 (by decide) (by decide) fun r a1 s1 hr hr2 ha1 hs1 hs21=>?_
 simp! [box]
 refine ⟨by simp only [zam]; lia,?_⟩
 refine za7 (toD:=fun k:Nat=>D.int (0 + (k:Int))) (fun pre ρ=>∃ (a s:Int) (t:Wd) (p:Int) (o6 o7 o8 o9 o10:Option S),0<=a/\1<=s/\s<=2147483629/\t.length<=most.toNat/\(∀ c∈t,c∈col)/\(B=[]->t=[])/\0<=p/\p<=t.length/\ρ=[some (box a s),some (.sh (boardD B)),some (.sh (.str col)),some (.sh (.int most)),some (.sh (.str t)),some (.sh (.int p)),o6,o7,o8,o9,o10]) (List.range _) (fun pre k post D2 ρ e hI hnx hct hrt hbk=>?_) (fun ρ hI=>?_) ⟨a1,s1,[],0,none,none,none,none,none,ha1,hs1,hs21,by simp,by simp,fun _=>rfl,by decide,by simp,rfl⟩
 ·obtain ⟨a,s,t,p,o6,o7,o8,o9,o10,ha,hs,hs2,ht,htc,hne,hp,hp2,rfl⟩:=hI
  simp! [box,u_9_b2]
  refine zgz hB (by lia) hp (by lia) fun ms hml hm=>?_
  -- the choice among some moves
  have pick:∀ ms:List Mv,ms.length<=2000->(∀ m∈ms,m.1∈B/\0<=m.2/\m.2<=most/\(m.2=p + m.1.length\/m.2<=p))->
    (wIf (wCmp cNe (wVar 7) (wLst wNil)) (wSeq (wAsg (gTup [gName 8,gName 9]) (wIx (wVar 7) (wCall w_3 [true,true] (wCons (wVar 0) (wCons (wB bLen (wCons (wVar 7) wNil)) wNil)))))
  (wSeq (wIf (wCmp cGt (wVar 9) (wVar 5)) (wAsg (gName 4) (wBin oAdd (wBin oAdd (wSl (wVar 4) none (some (wVar 5))) (wVar 8)) (wSl (wVar 4) (some (wVar 9)) none))) wPass)
  (wAsg (gName 5) (wVar 9)))) wPass) D2 [some (box a s),some (.sh (boardD B)),some (.sh (.str col)),some (.sh (.int most)),some (.sh (.str t)),some (.sh (.int p)),some (.sh (.int (0 + (k:Int)))),some (.sh (.lst (ms.map mvD))),o8,o9,o10]:=fun ms hml hm=>by
   simp! [box,zoy]
   cases q:ms.isEmpty
   ·simp! [box,length_map]
    have hpos:0 < ms.length:=by
     cases ms with
     | nil=>cases q
     | cons _ _=>simp
    refine zah ha hs hs2 (by lia) (by lia) fun r a1 s1 hr hr2 ha1 hs1 hs21=>?_
    obtain ⟨m,hmm,_,em⟩:=zaG (f:=mvD) hr hr2
    obtain ⟨hmB,hg0,hg1,hg2⟩:=hm m hmm
    obtain ⟨hw1,hw2⟩:=hw m.1 hmB
    simp! [box,em,mvD,length_cons,length_nil]
    cases q2:decide (p < m.2)
    ·simp! [e_C]
     have:=of_decide_eq_false q2
     exact hnx _ ⟨a1,s1,t,m.2,_,_,_,_,_,ha1,hs1,hs21,ht,htc,hne,hg0,by lia,rfl⟩
    ·have q2':=of_decide_eq_true q2
     have hgp:m.2=p + m.1.length:=by lia
     have hl3:=cut3 hp hp2 hgp
     have l1:(cutL t none (some p)).length<=1000:=le_trans (zaN _ _ _) (by lia)
     have l2:(cutL t (some m.2) none).length<=1000:=le_trans (zaN _ _ _) (by lia)
     simp! [length_append]
     refine hnx _ ⟨a1,s1,(cutL t none (some p)++m.1)++cutL t (some m.2) none,m.2,_,_,_,_,_,ha1,hs1,hs21,by rw [hl3]; lia,fun c hc=>?_,(fun z=>by rw [z] at hmB; cases hmB),hg0,by rw [hl3]; lia,rfl⟩
     rcases mem_append.mp hc with z | z
     ·rcases mem_append.mp z with z | z
      ·exact htc c (zbm z)
      ·exact hw2 c z
     ·exact htc c (zbm z)
   ·simp! [e_C]
    exact hnx _ ⟨a,s,t,p,_,_,_,_,_,ha,hs,hs2,ht,htc,hne,hp,hp2,rfl⟩
  simp! [box,zaA]
  cases q:decide ((4:Int) < 0 + (k:Int))
  ·simp! [e_C]
   have:=pick ms hml hm
   simp! [box] at this
   exact this
  ·simp! [e_C]
   refine bl1 (n:=11) (toD:=mvD) ms (fun m=>if decide (p < m.2)=true then some (.sh (mvD m)) else none) (fun m hmm l o K hl hK=>?_) fun o=>?_
   ·cases q3:decide (p < m.2)
    ·simp! [x_bX,zld,u_9_c1,mvD,q3]
     rw [q3] at hK
     have:=hK (some (.sh (mvD m)))
     rw [if_neg (by decide),toList_none,append_nil] at this
     exact this
    ·simp! [x_bX,zeS,u_9_c1,mvD,q3]
     rw [q3] at hK
     exact ⟨by simp only [zam]; lia,hK _⟩
   ·rw [zkR (fun m:Mv=>decide (p < m.2)) (fun m=>S.sh (mvD m)),show ((ms.filter fun m:Mv=>decide (p < m.2)).map fun m=>S.sh (mvD m))=((ms.filter fun m:Mv=>decide (p < m.2)).map mvD).map S.sh by rw [map_map]; rfl]
    simp! [zaA]
    have:=pick (ms.filter fun m:Mv=>decide (p < m.2)) (le_trans (List.length_filter_le _ _) hml) fun m hmm=>hm m (mem_filter.mp hmm).1
    simp! [box] at this
    exact this
 ·obtain ⟨a,s,t,p,o6,o7,o8,o9,o10,ha,hs,hs2,ht,htc,hne,hp,hp2,rfl⟩:=hI
  simp! [box]
  cases q:decide (t=[])
  ·have hpos:0 < t.length:=length_pos_iff.mpr (of_decide_eq_false q)
   simp! [box]
   refine zah ha hs hs2 (by decide) (by decide) fun r a1 s1 hr hr2 ha1 hs1 hs21=>?_
   simp! [box]
   cases q2:decide (r=0)
   ·simp! [e_C]
    exact h t a1 s1 ht htc hne ha1 hs1 hs21
   ·simp! [box]
    refine zah ha1 hs1 hs21 (by lia) (by lia) fun x a2 s2 hx0 hx1 ha2 hs2 hs22=>?_
    simp! [box]
    refine zah ha2 hs2 hs22 (by lia) (by lia) fun r3 a3 s3 hr3 hr32 ha3 hs3 hs23=>?_
    obtain ⟨c,hcm,_,ec⟩:=zdh (l:=col) hr3 hr32
    have l1:(cutL t none (some x)).length<=1000:=le_trans (zaN _ _ _) (by lia)
    have l2:(cutL t (some (x + 1)) none).length<=1000:=le_trans (zaN _ _ _) (by lia)
    have l3:=cut3 (t:=t) (w:=[c]) (p:=x) (g:=x + 1) hx0 (by lia) (by simp)
    simp! [box,ec,length_append,length_cons,length_nil]
    refine h _ a3 s3 (by rw [l3]; lia) (fun y hy=>?_) (fun z=>by rw [hne z] at hpos; cases hpos) ha3 hs3 hs23
    rcases mem_append.mp hy with z | z
    ·rcases mem_append.mp z with z | z
     ·exact htc y (zbm z)
     ·rw [mem_singleton.mp z]; exact hcm
    ·exact htc y (zbm z)
  ·simp! [e_C]
   exact h t a s ht htc hne ha hs hs2
structure Fit (B:List Wd) (w:Wd):Prop where
 nd:B.Nodup
 ne:∀ x∈B,x≠[]
 le:∀ x∈B,x.length<=1000
 six:B.length<=6
 tw:w.length<=12
theorem zc4 {B:List Wd} {w:Wd} (hf:Fit B w)
  (h:P (.lst (((strP B w).map trD).map .sh)) [.sh (boardD B),.sh (.str w)]):w_0 [.sh (boardD B),.sh (.str w)] P PX:=by
 have h12:=hf.tw
 have h6:=hf.six
 have hlen:((List.range w.length).flatMap (rawI B w)).length < 64:=by rw [<- (zeI hf.nd hf.ne).length_eq]; exact zfV hf.nd hf.ne h6 h12
 have he:(List.range w.length).flatMap (fun i=>(rawI B w i).map fun t=>S.sh (trD t))=(((List.range w.length).flatMap (rawI B w)).map trD).map S.sh:=by simp [List.map_flatMap,Function.comp_def]
 refine za5 rfl rfl ?_
 simp! [e_C]
 refine ⟨by simp only [zam]; lia,?_⟩
 rw [from0 rfl]
 refine bf (n:=2) (k:=3) (List.range w.length) (fun i=>(rawI B w i).map fun t=>S.sh (trD t)) (fun i hi l vs K hv hl hK=>?_) (fun vs hv=>?_)
 ·obtain ⟨a,b,c,rfl⟩:=len3v hv
  rw [he,length_map,length_map,length_map] at hl
  simp! [x_bX,zeS,u_0_c2,boardD,zig]
  refine bi2 (fun l o o'=>[some (.sh (boardD B)),some (.sh (.str w)),some (.lst l),some (.sh (.int (i:Int))),o,o']) (List.range B.length) (fun k=>if decide (seg w i (i + ((B[k]?).getD []).length)=(B[k]?).getD [])=true then some (S.sh (trD (i,i + ((B[k]?).getD []).length,k))) else none) (fun k hk l2 o o' K2 hl2 hK2=>?_) fun o o'=>?_
  ·have hm:(List.range B.length).filterMap (fun k=>if decide (seg w i (i + ((B[k]?).getD []).length)=(B[k]?).getD [])=true then some (S.sh (trD (i,i + ((B[k]?).getD []).length,k))) else none)=(rawI B w i).map fun t=>S.sh (trD t):=by
    unfold rawI
    rw [List.map_filterMap]
    refine zdQ fun x _=>?_
    split <;> rfl
   rw [hm,length_map] at hl2
   have ec:cutL w (some (i:Int)) (some ((i:Int) + ((((B[k]?).getD []).length:Nat):Int)))=seg w i (i + ((B[k]?).getD []).length):=by rw [<- natCast_add]; exact zcB w _ _
   cases q:decide (seg w i (i + ((B[k]?).getD []).length)=(B[k]?).getD [])
   ·simp! [x_bX,boardD,length_cons,length_nil,ec,q,zld]
    have:=hK2 (some (.sh (.int (k:Int)))) (some (.sh (.str ((B[k]?).getD []))))
    rw [q,if_neg (by decide),toList_none,append_nil] at this
    exact this
   ·simp! [x_bX,boardD,length_cons,length_nil,ec,q,zeS,u_0_c1]
    have:=hK2 (some (.sh (.int (k:Int)))) (some (.sh (.str ((B[k]?).getD []))))
    rw [q,if_pos rfl,Option.toList_some] at this hl2
    simp only [length_singleton] at hl2
    refine ⟨by simp only [zam]; lia,?_⟩
    rw [zkk,natCast_add] at this
    exact this
  ·have hm:(List.range B.length).filterMap (fun k=>if decide (seg w i (i + ((B[k]?).getD []).length)=(B[k]?).getD [])=true then some (S.sh (trD (i,i + ((B[k]?).getD []).length,k))) else none)=(rawI B w i).map fun t=>S.sh (trD t):=by
    unfold rawI
    rw [List.map_filterMap]
    refine zdQ fun x _=>?_
    split <;> rfl
   rw [hm]
   exact hK _ rfl
 ·obtain ⟨a,b,c,rfl⟩:=len3v hv
  rw [he]
  simp! [zaA,ziB (zeI hf.nd hf.ne) hlen]
  exact h
theorem zgw {B:List Wd} {b:D} {w:Wd} (hb:∀ z,cInA (.str z) b=some (decide (z∈B))) (h12:w.length<=60)
  (h:P (.lst ((tiesL B w).map .sh)) [.sh b,.sh (.str w)]):w_10 [.sh b,.sh (.str w)] P PX:=by
 refine za5 rfl rfl ?_
 simp! [e_C]
 refine ⟨by simp only [zam]; lia,?_⟩
 rw [from0 (n:=w.length + 1) (by lia)]
 refine bm1 (n:=5) (List.range (w.length + 1)) (fun _=>S.lst []) (fun p hp l o K hl hK=>?_) fun o=>?_
 ·rw [length_range] at hl
  simp! [x_bX,zeS,u_10_c1]
  exact ⟨by simp only [zam]; lia,hK _⟩
 rw [show ((List.range (w.length + 1)).map fun _=>S.lst [])=fnd w.length fun _=>[] from rfl]
 simp! [e_C]
 refine ⟨by simp only [zam]; lia,?_⟩
 rw [from0 (n:=w.length) rfl]
 refine za7 (fun pre ρ=>∃ (f:Nat->List Nat) (o3 o4:Option S),GoneT B w pre.length (pre.length + 1) f/\ρ=[some (.sh b),some (.sh (.str w)),some (.lst (fnd w.length f)),o3,o4]) (List.range w.length) (fun pre i post D2 ρ e hI hnx hct hrt hbk=>?_) (fun ρ hI=>?_) ⟨fun _=>[],none,none,zgF,rfl⟩
 ·obtain ⟨f,o3,o4,hg,rfl⟩:=hI
  have hi:pre.length=i/\i < w.length:=zeA e
  obtain ⟨rfl,hi⟩:=hi
  simp! [u_10_b3]
  refine ⟨by simp only [zam]; lia,?_⟩
  rw [from1 (a:=pre.length + 1) (n:=w.length + 1) (by lia) (by lia)]
  refine za7 (fun pre2 ρ=>∃ (f:Nat->List Nat) (o4:Option S),GoneT B w pre.length (pre.length + 1 + pre2.length) f/\ρ=[some (.sh b),some (.sh (.str w)),some (.lst (fnd w.length f)),some (.sh (natD pre.length)),o4]) (List.range' (pre.length + 1) (w.length + 1 - (pre.length + 1))) (fun pre2 j post2 D3 ρ e2 hI hnx2 hct2 hrt2 hbk2=>?_) (fun ρ hI=>?_) ⟨f,o4,by simpa using hg,rfl⟩
  ·obtain ⟨f,o4,hg,rfl⟩:=hI
   have hj:j=pre.length + 1 + pre2.length/\j<=w.length:=by
    have:=zdt e2; lia
   obtain ⟨hj1,hj2⟩:=hj
   rw [<- hj1] at hg
   have ht:decide (seg w pre.length j∈B)=tieB B w pre.length j:=by
    unfold tieB
    rw [decide_eq_true (show pre.length < j by lia),decide_eq_true hj2]; rfl
   simp! [u_10_b2,natD,zcB,hb]
   rw [ht]
   cases q:tieB B w pre.length j
   ·simp! [e_C]
    refine hnx2 _ ⟨f,_,?_,rfl⟩
    rw [length_append,length_singleton,show pre.length + 1 + (pre2.length + 1)=j + 1 by lia]
    exact zlw (by lia) hg q
   ·simp! [e_C]
    rw [zgh (by lia) (show (fnd w.length f)[((pre.length:Nat):Int).toNat]?=_ by rw [toNat_natCast]; exact zhF (by lia))]
    simp! [length_map]
    have hlen1:=zfL hg pre.length
    refine ⟨by simp only [zam]; lia,?_⟩
    rw [toNat_natCast,show (((f pre.length).map fun q=>S.sh (natD q))++[S.sh (D.int (j:Int))])=(((f pre.length).map fun q=>S.sh (natD q))++[S.sh (natD j)]) from rfl,ziu (by lia)]
    rw [zgh (by lia) (show (fnd w.length (addTo f pre.length j))[((j:Nat):Int).toNat]?=_ by rw [toNat_natCast]; exact zhF (by lia))]
    simp! [length_map]
    have hlen2:=zfL hg j
    have e3:addTo f pre.length j j=f j:=by unfold addTo; rw [if_neg (by lia)]
    refine ⟨by rw [e3]; simp only [zam]; lia,?_⟩
    rw [toNat_natCast,show (((addTo f pre.length j j).map fun q=>S.sh (natD q))++[S.sh (D.int (pre.length:Int))])=(((addTo f pre.length j j).map fun q=>S.sh (natD q))++[S.sh (natD pre.length)]) from rfl,ziu (by lia)]
    refine hnx2 _ ⟨_,_,?_,rfl⟩
    rw [length_append,length_singleton,show pre.length + 1 + (pre2.length + 1)=j + 1 by lia]
    exact zjT (by lia) hg q
  ·obtain ⟨f,o4,hg,rfl⟩:=hI
   rw [List.length_range',show pre.length + 1 + (w.length + 1 - (pre.length + 1))=w.length + 1 by lia] at hg
   refine hnx _ ⟨f,_,_,?_,rfl⟩
   rw [length_append,length_singleton]
   exact zi9 (le_refl _) hg
 ·obtain ⟨f,o3,o4,hg,rfl⟩:=hI
  rw [length_range] at hg
  simp! [e_C]
  rw [show (fnd w.length f).map S.toD=(List.range (w.length + 1)).map fun p=>D.lst ((f p).map natD) by
   unfold fnd; rw [map_map]; refine map_congr_left fun p _=>?_; simp [Function.comp_def]]
  refine bm1 (n:=5) (List.range (w.length + 1)) (fun p=>.sh (.lst ((nb B w p).map natD))) (fun p hp l o K hl hK=>?_) fun o=>?_
  ·rw [length_range] at hl
   simp! [x_bX,zeS,u_10_c4,zlb (zie (le_refl _) hg) h12,zaA]
   exact ⟨by simp only [zam]; lia,hK _⟩
  ·rw [show ((List.range (w.length + 1)).map fun p=>S.sh (.lst ((nb B w p).map natD)))=(tiesL B w).map S.sh by unfold tiesL; rw [map_map]; rfl]
   simp! [e_C]
   exact h
theorem zed {B:List Wd} {w:Wd} (h12:w.length<=60)
  (h:P (.lst ((tiesL B w).map .sh)) [.sh (boardD B),.sh (.str w)]):w_10 [.sh (boardD B),.sh (.str w)] P PX:=zgw (fun _=>zf3) h12 h
theorem ziK {B:List Wd} {w:Wd} {p:Nat} (hp:p<=w.length):atI (tiesL B w) (p:Int)=some (.lst ((nb B w p).map natD)):=by
 refine zbr (by lia) ?_
 rw [toNat_natCast]
 unfold tiesL
 rw [getElem?_map,getElem?_range (by lia)]; rfl
abbrev TS:=List (Nat×Nat)
def dctL (L:TS):S:=.dct false (keyL L) ((valL L).map .sh)
theorem zd4 {B:List Wd} {w:Wd} {q:Nat} (h:Conn (TieR B w) w.length q):q<=w.length:=by
 cases h with
 | refl=>exact le_refl _
 | step _ e=>exact (zkF _ _ e).2
theorem zbU {B:List Wd} {w:Wd} {L:TS} (h:Right (TieR B w) w.length L):L.length<=w.length + 1:=by
 have:=zbl (L.map (·.1)) (List.range (w.length + 1)) h.nd fun x hx=>by
  obtain ⟨t,ht,rfl⟩:=mem_map.mp hx
  have:=zd4 (zaS (h.ok t ht).1)
  exact mem_range.mpr (by lia)
 rw [length_map,length_range] at this
 exact this
theorem zfm {B:List Wd} {w:Wd} {D':Ends} {s1 o6:Option S} (h12:w.length<=60)
  (fin:∀ (L:TS) (o4 o5:Option S),Queue (TieR B w) w.length L []->D'.nx [some (.sh (.lst (tiesL B w))),s1,some (dctL L),some (.lst []),o4,o5,o6]):
  wWhile (wCmp cNe (wVar 3) (wLst wNil)) w_11_b2 D' [some (.sh (.lst (tiesL B w))),s1,some (dctL [(w.length,0)]),some (.lst [.sh (natD w.length)]),none,none,o6]:=by
 refine zkW (fun m ρ=>∃ (L qu:TS) (o4 o5:Option S),Queue (TieR B w) w.length L qu/\m + 2 * L.length=2 * (w.length + 1) + qu.length/\m<=2 * (w.length + 1)/\ρ=[some (.sh (.lst (tiesL B w))),s1,some (dctL L),some (.lst ((keyL qu).map .sh)),o4,o5,o6]) (2 * (w.length + 1) - 1) ⟨[(w.length,0)],[(w.length,0)],none,none,Queue.start,by simp; lia,by lia,rfl⟩ fun m ρ hJ=>?_
 obtain ⟨L,qu,o4,o5,hq,hm,hmb,rfl⟩:=hJ
 have hLl:=zbU hq.right
 cases qu with
 | nil=>
   simp! [x_Wf,keyL,map_nil,zfC (show deps []<=29 by decide),List.isEmpty_nil]
   exact fin L o4 o5 hq
 | cons t qu=>
   have hmid:=hq.take
   have hle:t.1<=w.length:=zd4 (zaS (hq.right.ok t hmid.tin).1)
   have hdk:deps (keyL (t::qu))<=29:=zfd _ fun d hd=>by
    unfold keyL at hd
    obtain ⟨u,_,rfl⟩:=mem_map.mp hd
    show 0<=29
    decide
   rw [length_cons] at hm
   have hql:qu.length<=2 * (w.length + 1):=by lia
   have hkl:(keyL (t::qu)).length=qu.length + 1:=by simp [keyL]
   simp! [x_Wt,zaA,zfC hdk,show (keyL (t::qu)).isEmpty=false from rfl,u_11_b2,length_map,hkl,ziK hle]
   refine zj7 (s:=.sh (natD t.1)) (by decide) (by rw [length_map,hkl]; simp only [zam]; lia) rfl ?_
   rw [show (List.map S.sh (keyL (t::qu))).eraseIdx (Int.toNat 0)=(keyL qu).map S.sh from rfl]
   simp! [natD,ziK hle]
   refine za7 (toD:=natD) (fun pre ρ=>∃ (L2 qu2:TS) (o5:Option S),Mid (TieR B w) w.length L2 qu2 t pre/\L2.length + qu.length=L.length + qu2.length/\L.length<=L2.length/\ρ=[some (.sh (.lst (tiesL B w))),s1,some (dctL L2),some (.lst ((keyL qu2).map .sh)),some (.sh (.int (t.1:Int))),o5,o6]) (nb B w t.1) (fun pre q post D2 ρ e hI hnx hct hrt hbk=>?_) (fun ρ hI=>?_) ⟨L,qu,o5,hmid,rfl,le_refl _,rfl⟩
   ·obtain ⟨L2,qu2,o5,hm2,hl2,hl3,rfl⟩:=hI
    have hqn:q∈nb B w t.1:=by rw [<- e]; simp
    have hr:TieR B w t.1 q:=zaR.mp hqn
    have hL2:=zbU hm2.right
    by_cases hin:∃ d,(q,d)∈L2
    ·have hn:=zho (vs:=valL L2) hin
     simp! [u_11_b1,natD,dctL,zgM,hn]
     obtain ⟨d,hd⟩:=hin
     exact hnx _ ⟨L2,qu2,_,hm2.skip hd,hl2,hl3,rfl⟩
    ·have hn:=zkb (vs:=valL L2) hin
     have hlk:lk (keyL L2) (valL L2) (.int (t.1:Int))=some (.int (t.2:Int)):=ze7 (f:=natD) hm2.right.nd (show (t.1,t.2)∈L2 from hm2.tin)
     simp! [u_11_b1,natD,dctL,zgM,hn,hlk]
     have k1:(keyL L2).length=L2.length:=by simp [keyL]
     have k2:((keyL qu2).map S.sh).length=qu2.length:=by simp [keyL]
     refine ⟨zk6 hm2.right.nd,by rw [k1]; simp only [zam]; lia,by rw [k2]; simp only [zam]; lia,?_⟩
     rw [zjo fun d hd=>hin ⟨d,hd⟩]
     refine hnx _ ⟨L2++[(q,t.2 + 1)],qu2++[(q,t.2 + 1)],some (.sh (.int (q:Int))),hm2.put hr (fun e he=>hin ⟨e,he⟩),by simp only [length_append,length_singleton]; lia,by simp only [length_append,length_singleton]; lia,?_⟩
     simp [dctL,keyL,valL,natD]
   ·obtain ⟨L2,qu2,o5,hm2,hl2,hl3,rfl⟩:=hI
    have hL2:=zbU hm2.right
    refine zkw (m':=2 * (w.length + 1) + qu2.length - 2 * L2.length) (by lia) ⟨L2,qu2,_,_,hm2.queue fun q hq=>zaR.mpr hq,by lia,by lia,rfl⟩
theorem zka {B:List Wd} {w:Wd} {L:TS} (hq:Queue (TieR B w) w.length L []) {q d:Nat} (h:IsDist (TieR B w) w.length q d):lk (keyL L) (valL L) (.int (q:Int))=some (.int (d:Int)):=ze7 (f:=natD) hq.right.nd (hq.done h)
theorem zgU {B:List Wd} {w:Wd} {D':Ends} {s1 o3 o4 o5:Option S} {L:TS} {p:Nat} (h12:w.length<=60) (hq:Queue (TieR B w) w.length L []) {d:Nat} (hd:IsDist (TieR B w) w.length p d)
  (fin:D'.nx [some (.sh (.lst (tiesL B w))),s1,some (dctL L),o3,o4,o5,some (.lst (((wayP B w d p).map natD).map .sh))]):
  wWhile (wCmp cNe (wIx (wVar 6) (wUn oNeg (wC (.int 1)))) (wBin oSub (wB bLen (wCons (wVar 0) wNil)) (wC (.int 1)))) w_11_b4 D' [some (.sh (.lst (tiesL B w))),s1,some (dctL L),o3,o4,o5,some (.lst [.sh (natD p)])]:=by
 have htl:(tiesL B w).length=w.length + 1:=by simp [tiesL]
 refine zkW (fun m ρ=>∃ (pre:List Nat) (cur:Nat),IsDist (TieR B w) w.length cur m/\pre++wayP B w m cur=wayP B w d p/\pre.length + m<=d/\ρ=[some (.sh (.lst (tiesL B w))),s1,some (dctL L),o3,o4,o5,some (.lst (((pre.map natD).map .sh)++[.sh (.int (cur:Int))]))]) d ⟨[],p,hd,rfl,by simp,rfl⟩ fun m ρ hJ=>?_
 obtain ⟨pre,cur,hc,hw,hpl,rfl⟩:=hJ
 have hcl:cur<=w.length:=zd4 (zaS hc.1)
 have e1:(((w.length + 1:Nat):Int) - 1)=(w.length:Int):=by lia
 simp! [zdM,htl,e1]
 cases m with
 | zero=>
   have:=zga hc
   subst this
   simp! [x_Wf,decide_true,Bool.not_true]
   have e2:((pre.map natD).map S.sh)++[S.sh (.int (w.length:Int))]=((wayP B w d p).map natD).map S.sh:=by
    rw [<- hw]; simp [wayP,natD]
   rw [e2]
   exact fin
 | succ m=>
   have hne:¬ (cur:Int)=(w.length:Int):=fun z=>by
    have:cur=w.length:=by lia
    subst this
    have:=znv hc
    lia
   have hdl:d<=w.length + 1:=by have:=zjF hq hd; have:=zbU hq.right; lia
   rw [decide_eq_false hne]
   simp! [x_Wt,u_11_b4,zdM,ziK hcl]
   obtain ⟨r,hr,hn⟩:=zcH hc
   refine bl1 (n:=7) (toD:=natD) (nb B w cur) (fun q=>if decide (dst (TieR B w) w.length q + 1=dst (TieR B w) w.length cur)=true then some (.sh (natD q)) else none) (fun q hqm l o K hl hK=>?_) fun o=>?_
   ·obtain ⟨k,hk⟩:=zbB.mp ((zaS hc.1).step (zaR.mp hqm))
    simp! [x_bX,natD,dctL,zgM,zka hq hk,zka hq hc,zdM,u_11_c3]
    have hl1:=zel (B:=B) (w:=w) (p:=cur)
    have eq:decide (dst (TieR B w) w.length q + 1=dst (TieR B w) w.length cur)=decide ((k:Int)=((m + 1:Nat):Int) - 1):=by
     rw [zdg hk,zdg hc]
     exact decide_eq_decide.mpr (by lia)
    rw [eq] at hK
    cases q2:decide ((k:Int)=((m + 1:Nat):Int) - 1)
    ·rw [q2] at hK
     simp! [zld]
     have:=hK (some (.sh (.int (q:Int))))
     rw [if_neg (by decide),toList_none,append_nil] at this
     exact this
    ·rw [q2] at hK
     simp! [zeS,u_11_c3]
     exact ⟨by simp only [zam]; lia,hK _⟩
   ·have hl1:=zel (B:=B) (w:=w) (p:=cur)
    rw [zkR (fun q=>decide (dst (TieR B w) w.length q + 1=dst (TieR B w) w.length cur)) (fun q=>S.sh (natD q)),hr]
    have hso:(nearer B w cur::r).Pairwise (· < ·):=by rw [<- hr]; exact zcT.filter _
    have eb:bMinL [.lst (natD (nearer B w cur)::r.map natD)]=some (.sh (.int ((nearer B w cur:Nat):Int))):=by
     show (intsD _).bind _=_
     rw [show (natD (nearer B w cur)::r.map natD)=((nearer B w cur::r).map fun q=>((q:Nat):Int)).map D.int by rw [map_map]; rfl,zbQ,Option.bind_some,zi3 hso]; rfl
    rw [show ((nearer B w cur::r).map fun q=>S.sh (natD q))=((nearer B w cur::r).map natD).map S.sh by rw [map_map]; rfl]
    simp! [zaA,eb,length_append,length_map,length_singleton,length_cons,length_nil]
    refine ⟨by simp only [zam]; lia,zkw (m':=m) (by lia) ⟨pre++[cur],nearer B w cur,hn,?_,by rw [length_append,length_singleton]; lia,?_⟩⟩
    ·rw [<- hw]
     show pre++[cur]++wayP B w m (nearer B w cur)=pre++(cur::wayP B w m (nearer B w cur))
     simp
    ·simp [natD,dctL]
theorem zjW {B:List Wd} {w:Wd} {p:Nat} (h12:w.length<=60) (hp:p<=w.length)
  (h1:∀ d,IsDist (TieR B w) w.length p d->P (.sh (.tup ((wayP B w d p).map natD))) [.sh (.lst (tiesL B w)),.sh (.int (p:Int))])
  (h2:¬ Conn (TieR B w) w.length p->P (.sh (.tup [])) [.sh (.lst (tiesL B w)),.sh (.int (p:Int))]):w_11 [.sh (.lst (tiesL B w)),.sh (.int (p:Int))] P PX:=by
 have htl:(tiesL B w).length=w.length + 1:=by simp [tiesL]
 have e1:(((w.length + 1:Nat):Int) - 1)=(w.length:Int):=by lia
 refine za5 rfl rfl ?_
 simp! [htl,e1]
 refine zfm h12 fun L o4 o5 hq=>?_
 by_cases hc:Conn (TieR B w) w.length p
 ·obtain ⟨d,hd⟩:=zbB.mp hc
  have hn:=zho (vs:=valL L) ⟨d,hq.done hd⟩
  simp! [dctL,zgM,hn]
  refine zgU h12 hq hd ?_
  simp! [zaA]
  exact h1 d hd
 ·have hn:=zkb (vs:=valL L) (L:=L) (q:=p) fun ⟨d,hd⟩=>hc (zbB.mpr ⟨d,hq.right.ok _ hd⟩)
  simp! [dctL,zgM,hn]
  exact h2 hc
theorem zcp (B:List Wd) (w:Wd):∀ d p,(wayP B w d p).length=d + 1
 | 0,_=>rfl
 | d + 1,p=>by rw [show wayP B w (d + 1) p=p::wayP B w d (nearer B w p) from rfl,length_cons,zcp B w d]
theorem zkt {B:List Wd} {w:Wd} {p d:Nat} (hd:IsDist (TieR B w) w.length p d):d<=w.length:=by
 have hsub:∀ k,k<=d->∃ q,IsDist (TieR B w) w.length q k:=fun k hk=>zdO hd k hk
 have key:∀ m,m<=d + 1->∃ l:List Nat,l.length=m/\l.Nodup/\∀ q∈l,q<=w.length/\∃ k,k < m/\IsDist (TieR B w) w.length q k:=by
  intro m
  induction m with
  | zero=>exact fun _=>⟨[],rfl,by simp,by simp⟩
  | succ m ih=>
    intro hm
    obtain ⟨l,h1,h2,h3⟩:=ih (by lia)
    obtain ⟨q,hq⟩:=hsub m (by lia)
    refine ⟨q::l,by simp [h1],nodup_cons.mpr ⟨fun hc=>?_,h2⟩,fun x hx=>?_⟩
    ·obtain ⟨_,k,hk,hq2⟩:=h3 q hc
     have:=zcr hq hq2
     lia
    ·rcases mem_cons.mp hx with rfl | hx
     ·exact ⟨zd4 (zaS hq.1),m,by lia,hq⟩
     ·obtain ⟨h4,k,hk,hq2⟩:=h3 x hx
      exact ⟨h4,k,by lia,hq2⟩
 obtain ⟨l,h1,h2,h3⟩:=key (d + 1) (by lia)
 have:=zbl l (List.range (w.length + 1)) h2 fun x hx=>mem_range.mpr (by have:=(h3 x hx).1; lia)
 rw [h1,length_range] at this
 lia
theorem zhy {l:List Nat} (h:0 < l.length):cEq (.tup (l.map natD)) (.tup [])=some false:=by
 unfold cEq
 rw [if_neg (by
  have:dep (.tup (l.map natD))=1:=by show deps (l.map natD) + 1=1; rw [show l.map natD=(l.map fun q=>((q:Nat):Int)).map D.int by rw [map_map]; rfl,zcu]
  rw [this]
  exact fun z=>by cases l <;> exact Bool.noConfusion (show false=true from z))]
 cases l with
 | nil=>cases h
 | cons a l=>
   refine congrArg some ?_
   rw [decide_eq_false_iff_not]
   exact fun z=>by cases z
theorem zfK:cEq (.tup []) (.tup [])=some true:=by
 unfold cEq
 rw [if_neg (by decide)]
 simp
theorem zhU {t:Bool} {ks:List D} {l:List S} {k:D} {s:S} (h:k∉ks):dputS t ks l k s=.dct t (ks++[k]) (l++[s]):=by
 unfold dputS
 have:fIx ks k=none:=by
  unfold fIx
  rw [List.findIdx?_eq_none_iff]
  intro x hx
  simp only [decide_eq_false_iff_not]
  exact fun z=>h (z ▸ hx)
 rw [this]
def endsB (B:List Wd) (w:Wd) (p q:Int):Bool:=(strP B w).any fun t=>decide ((t.1:Int)=min p q) && decide ((t.2.1:Int)=max p q)
def pairsOf (ns:List Int):List (Int×Int):=ns.zip (ns.drop 1)
def zzB (B:List Wd) (w:Wd) (ns:List Int):Bool:=decide (ns.head?=some 0) && (decide (ns.getLast?=some (w.length:Int)) && (pairsOf ns).all fun p=>endsB B w p.1 p.2)
theorem zfS {B:List Wd} {w:Wd} {p q:Nat} (h:TieR B w p q):endsB B w (p:Int) (q:Int)=true:=by
 have key:∀ i j,tieB B w i j=true->((i:Int)=min (p:Int) q/\(j:Int)=max (p:Int) q)->endsB B w (p:Int) (q:Int)=true:=fun i j hh e=>by
  unfold endsB
  rw [any_eq_true]
  exact ⟨(i,j,B.idxOf (seg w i j)),zdV.mpr ⟨hh,rfl⟩,by rw [decide_eq_true e.1,decide_eq_true e.2]; rfl⟩
 unfold TieR tie at h
 rw [or_eq_true] at h
 rcases h with h | h
 ·have:=(zap.mp h).1
  exact key p q h (by lia)
 ·have:=(zap.mp h).1
  exact key q p h (by lia)
theorem zjh {B:List Wd} {w:Wd} {p q:Int} (h:endsB B w p q=true):∃ a b:Nat,p=a/\q=b/\TieR B w a b:=by
 unfold endsB at h
 obtain ⟨t,ht,e⟩:=any_eq_true.mp h
 rw [and_eq_true,decide_eq_true_iff,decide_eq_true_iff] at e
 have htt:=(zdV.mp ht).1
 have hlt:=(zap.mp htt).1
 by_cases hpq:p<=q
 ·refine ⟨t.1,t.2.1,by lia,by lia,?_⟩
  unfold TieR tie; rw [htt]; rfl
 ·refine ⟨t.2.1,t.1,by lia,by lia,?_⟩
  unfold TieR tie; rw [htt,Bool.or_true]
def linked (R:Int->Int->Bool):List Int->Bool
 | a::b::r=>R a b && linked R (b::r)
 | _=>true
theorem zdr (R:Int->Int->Bool):∀ ns:List Int,((pairsOf ns).all fun p=>R p.1 p.2)=linked R ns
 | []=>rfl
 | [_]=>rfl
 | a::b::r=>by
   have:=zdr R (b::r)
   show (R a b && ((b::r).zip r).all fun p=>R p.1 p.2)=(R a b && linked R (b::r))
   rw [<- this]; rfl
theorem zcb {R:Int->Int->Bool} {x:Int} {r:List Int} (h2:linked R (x::r)=true):∀ l:List Int,linked R (l++[x])=true->linked R (l++x::r)=true
 | [],_=>h2
 | [a],h1=>by
   have h1':(R a x && true)=true:=h1
   show (R a x && linked R (x::r))=true
   rw [h2]; exact h1'
 | a::b::l,h1=>by
   have h1':(R a b && linked R ((b::l)++[x]))=true:=h1
   rw [and_eq_true] at h1'
   show (R a b && linked R ((b::l)++x::r))=true
   rw [h1'.1,zcb h2 (b::l) h1'.2]; rfl
def wayI (B:List Wd) (w:Wd) (d p:Nat):List Int:=(wayP B w d p).map fun (q:Nat)=>(q:Int)
theorem zmR (B:List Wd) (w:Wd) (d p:Nat):(wayP B w d p).map natD=(wayI B w d p).map D.int:=by unfold wayI; rw [map_map]; rfl
theorem zfT (B:List Wd) (w:Wd) (d p:Nat):∃ r,wayI B w d p=(p:Int)::r/\r.length=d:=by
 cases d with
 | zero=>exact ⟨[],rfl,rfl⟩
 | succ d=>exact ⟨(wayP B w d (nearer B w p)).map fun (q:Nat)=>(q:Int),rfl,by rw [length_map,zcp]⟩
theorem zjH {B:List Wd} {w:Wd} {p d:Nat} (h:IsDist (TieR B w) w.length p (d + 1)):TieR B w p (nearer B w p):=by
 obtain ⟨r,hr,_⟩:=zcH h
 have:nearer B w p∈(nb B w p).filter fun q=>decide (dst (TieR B w) w.length q + 1=dst (TieR B w) w.length p):=by rw [hr]; simp
 exact zaR.mp (mem_filter.mp this).1
theorem zf9 {B:List Wd} {w:Wd}:∀ {d p:Nat},IsDist (TieR B w) w.length p d->linked (endsB B w) (wayI B w d p)=true/\∃ l,wayI B w d p=l++[(w.length:Int)]
 | 0,p,h=>by
   have:=zga h
   subst this
   exact ⟨rfl,[],rfl⟩
 | d + 1,p,h=>by
   obtain ⟨_,_,hn⟩:=zcH h
   obtain ⟨h1,l,h2⟩:=zf9 hn
   obtain ⟨r,hr,_⟩:=zfT B w d (nearer B w p)
   have e:wayI B w (d + 1) p=(p:Int)::wayI B w d (nearer B w p):=rfl
   refine ⟨?_,(p:Int)::l,by rw [e,h2]; rfl⟩
   rw [e,hr]
   rw [hr] at h1
   show (endsB B w p (nearer B w p) && linked (endsB B w) ((nearer B w p:Int)::r))=true
   rw [h1,zfS (zjH h)]; rfl
theorem zpe {B:List Wd} {w:Wd} {r l ns:List Int} (h1:ns=0::r) (h2:ns=l++[(w.length:Int)]) (h3:linked (endsB B w) ns=true):zzB B w ns=true:=by
 unfold zzB
 rw [zdr,h3,show ns.getLast?=some (w.length:Int) by rw [h2]; simp,show ns.head?=some 0 by rw [h1]; rfl]
 simp
theorem zeB {B:List Wd} {u v:Wd} {i j:Nat} (h:tieB B v i j=true):tieB B (u++v) (u.length + i) (u.length + j)=true:=by
 rw [zap] at h ⊢
 refine ⟨by lia,by rw [length_append]; lia,?_⟩
 have:seg (u++v) (u.length + i) (u.length + j)=seg v i j:=by
  unfold seg
  rw [List.drop_append,show u.length + j - (u.length + i)=j - i by lia,drop_of_length_le (Nat.le_add_right _ _)]
  simp
 rw [this]; exact h.2.2
theorem ziN {B:List Wd} {u v:Wd} {i j:Nat} (h:TieR B v i j):TieR B (u++v) (u.length + i) (u.length + j):=by
 unfold TieR tie at *
 rw [or_eq_true] at *
 exact h.imp zeB zeB
theorem znU {l:List Nat}:cNe (.lst (l.map natD)) (.lst [])=some (!decide (l=[])):=by
 rw [show l.map natD=(l.map fun (q:Nat)=>(q:Int)).map D.int by rw [map_map]; rfl,show (D.lst [])=.lst (([]:List Int).map D.int) from rfl,ziT]
 congr 2
 exact decide_eq_decide.mpr (by simp)
def Steps (B:List Wd) (w:Wd) (l:List Nat):Prop:=linked (endsB B w) (l.map fun (q:Nat)=>(q:Int))=true/\∀ p∈l,p<=w.length
def tupN (l:List Nat):D:=.tup (l.map natD)
theorem zd1 {l:List Nat} {p:Nat}:atI ((l++[p]).map natD) (-1)=some (.int (p:Int)):=by rw [map_append]; exact zdM
theorem znw {B:List Wd} {w:Wd} {p:Nat} {r:Int} (h0:0<=r) (h1:r < (nb B w p).length):∃ q,q∈nb B w p/\atI ((nb B w p).map natD) r=some (.int (q:Int)):=by
 obtain ⟨v,hv,_,e⟩:=zaG (f:=natD) h0 h1
 exact ⟨v,hv,e⟩
theorem Steps.snoc {B:List Wd} {w:Wd} {l:List Nat} {p q:Nat} (h:Steps B w (l++[p])) (hq:q∈nb B w p):Steps B w (l++[p]++[q]):=by
 refine ⟨?_,fun x hx=>?_⟩
 ·have:=h.1
  rw [map_append] at this ⊢
  rw [map_append,append_assoc]
  exact zcb (x:=(p:Int)) (r:=[(q:Int)]) (by show (endsB B w p q && true)=true; rw [zfS (zaR.mp hq)]; rfl) _ this
 ·rcases mem_append.mp hx with hx | hx
  ·exact h.2 x hx
  ·rw [mem_singleton.mp hx]; exact (zgT hq).1
theorem zlG {B:List Wd} {w:Wd} {D':Ends} {b:WS} {n:Nat} {s4:List (Option S)} {a s:Int} {l:List Nat} {p:Nat} {o3:Option S} (h12:w.length<=60) (hn:n<=10) (hl1:l.length<=1) (ha:0<=a) (hs:1<=s) (hs2:s<=2147483629) (hS:Steps B w (l++[p])) (hb:b=wIf (wCmp cNe (wIx (wVar 1) (wIx (wVar 2) (wUn oNeg (wC (.int 1))))) (wLst wNil)) (wAsg (gName 2) (wBin oAdd (wVar 2) (wTup (wCons (wIx (wIx (wVar 1) (wIx (wVar 2) (wUn oNeg (wC (.int 1))))) (wCall w_3 [true,true] (wCons (wVar 0) (wCons (wB bLen (wCons (wIx (wVar 1) (wIx (wVar 2) (wUn oNeg (wC (.int 1))))) wNil)) wNil)))) wNil)))) wPass)
  (fin:∀ (a s:Int) (m:List Nat) (q:Nat) o3,0<=a->1<=s->s<=2147483629->Steps B w (m++[q])->m.length<=l.length + n->(∃ t,m++[q]=l++[p]++t)->Conn (TieR B w) p q->D'.nx (some (box a s)::some (.sh (.lst (tiesL B w)))::some (.sh (tupN (m++[q])))::o3::s4)):
  wLoop (gName 3) b ((List.range n).map fun (k:Nat)=>D.int (k:Int)) D' (some (box a s)::some (.sh (.lst (tiesL B w)))::some (.sh (tupN (l++[p])))::o3::s4):=by
 subst hb
 refine za7 (fun pre ρ=>∃ (a s:Int) (m:List Nat) (q:Nat) (o3:Option S),0<=a/\1<=s/\s<=2147483629/\Steps B w (m++[q])/\m.length<=l.length + pre.length/\(∃ t,m++[q]=l++[p]++t)/\Conn (TieR B w) p q/\ρ=some (box a s)::some (.sh (.lst (tiesL B w)))::some (.sh (tupN (m++[q])))::o3::s4) (List.range n) (fun pre k post D2 ρ e hI hnx hct hrt hbk=>?_) (fun ρ hI=>?_) ⟨a,s,l,p,o3,ha,hs,hs2,hS,by simp,⟨[],by simp⟩,.refl _,rfl⟩
 ·obtain ⟨a,s,m,q,o3,ha,hs,hs2,hS,hm,⟨t,ht⟩,hC,rfl⟩:=hI
  have hk:=zeA e
  have hq:q<=w.length:=hS.2 q (by simp)
  have hnl:=zel (B:=B) (w:=w) (p:=q)
  simp! [tupN,box,zd1,ziK hq,znU]
  cases qn:decide (nb B w q=[])
  ·have hpos:0 < (nb B w q).length:=length_pos_iff.mpr (of_decide_eq_false qn)
   simp! [zd1,ziK hq,length_map]
   refine zah ha hs hs2 (by lia) (by lia) fun r a2 s2 hr hr2 ha2 hs2 hs22=>?_
   obtain ⟨v,hv,ev⟩:=znw hr hr2
   have hml:(m++[q]).length<=l.length + 11:=by rw [length_append,length_singleton]; lia
   have hll:l.length<=1:=hl1
   simp! [box,ev,length_map,length_cons,length_nil]
   rw [show (m++[q]).map natD++[D.int (v:Int)]=(m++[q]++[v]).map natD by rw [map_append (l₁:=m++[q])]; rfl]
   exact hnx _ ⟨a2,s2,m++[q],v,_,ha2,hs2,hs22,hS.snoc hv,by rw [length_append,length_append,length_singleton,length_singleton]; lia,⟨t++[v],by rw [ht]; simp⟩,hC.step (zaR.mp hv),rfl⟩
  ·simp! [e_C]
   exact hnx _ ⟨a,s,m,q,_,ha,hs,hs2,hS,by rw [length_append]; lia,⟨t,ht⟩,hC,rfl⟩
 ·obtain ⟨a,s,m,q,o3,ha,hs,hs2,hS,hm,ht,hC,rfl⟩:=hI
  rw [length_range] at hm
  exact fin a s m q o3 ha hs hs2 hS hm ht hC
def intL (l:List Nat):List Int:=l.map fun (q:Nat)=>(q:Int)
theorem zeb {a s:Int} {B:List Wd} {w:Wd} (ha:0<=a) (hs:1<=s) (hs2:s<=2147483629) (h12:w.length<=60)
  (h:∀ (l:List Nat) a' s',l.length<=w.length + 12->((l=[]/\¬ Conn (TieR B w) w.length 0)\/zzB B w (intL l)=true)->0<=a'->1<=s'->s'<=2147483629->P (.sh (tupN l)) [box a' s',.sh (.lst (tiesL B w))]):w_12 [box a s,.sh (.lst (tiesL B w))] P PX:=by
 refine za5 rfl rfl ?_
 simp! [box,length_cons,length_nil]
 refine zah ha hs hs2 (by decide) (by decide) fun r a1 s1 hr hr2 ha1 hs1 hs21=>?_
 simp! [box]
 refine ⟨by simp only [zam]; lia,?_⟩
 rw [from0 (n:=r.toNat) (by lia)]
 refine zlG (l:=[]) (p:=0) h12 (by lia) (by simp) ha1 hs1 hs21 ⟨rfl,by simp⟩ w_12_b1.eq_1 fun a2 s2 m q o3 ha2 hs2 hs22 hS hm ht hC=>?_
 have hq:q<=w.length:=hS.2 q (by simp)
 obtain ⟨t,ht⟩:=ht
 rw [length_nil,zero_add] at hm
 simp! [tupN,zd1]
 refine zjW (by lia) hq (fun d hd=>?_) fun hn=>?_
 ·have hdl:d<=w.length:=zkt hd
  obtain ⟨rr,hr1,hr2'⟩:=zfT B w d q
  have hw:(wayP B w d q).map natD=natD q::rr.map D.int:=by
   rw [zmR,hr1]; rfl
  have ecut:cutL ((wayP B w d q).map natD) (some 1) none=rr.map D.int:=by rw [zcL _ (by decide),hw]; rfl
  have hml:(m++[q]).length<=10:=by rw [length_append,length_singleton]; lia
  simp! [box,zhy (show 0 < (wayP B w d q).length by rw [zcp]; lia),ecut,length_map]
  obtain ⟨k1,l',k2⟩:=zf9 hd
  have e1:intL (m++wayP B w d q)=intL m++(q:Int)::rr:=by
   unfold intL
   rw [map_append]
   congr 1
  have hz:zzB B w (intL (m++wayP B w d q))=true:=by
   have hlk:linked (endsB B w) (intL m++(q:Int)::rr)=true:=zcb (by rw [<- hr1]; exact k1) _ (by
    have:=hS.1
    rw [map_append] at this
    exact this)
   have e2:intL m++(q:Int)::rr=(intL m++l')++[(w.length:Int)]:=by rw [<- hr1,k2,append_assoc]
   have e3:∃ r,intL m++(q:Int)::rr=0::r:=by
    have:intL (m++[q])=0::intL t:=by rw [ht]; rfl
    unfold intL at this
    rw [map_append] at this
    cases m with
    | nil=>
      simp only [map_nil,nil_append,map_cons,List.cons.injEq] at this
      exact ⟨rr,by unfold intL; rw [map_nil,nil_append,this.1]⟩
    | cons x m=>
      simp only [map_cons,cons_append,List.cons.injEq] at this
      exact ⟨intL m++(q:Int)::rr,by unfold intL; rw [map_cons,cons_append,this.1]⟩
   obtain ⟨r3,e3⟩:=e3
   rw [e1]
   exact zpe e3 e2 hlk
  have:=h (m++wayP B w d q) a2 s2 (by rw [length_append,zcp]; lia) (.inr hz) ha2 hs2 hs22
  rw [show (m++[q]).map natD++rr.map D.int=(m++wayP B w d q).map natD by
   rw [map_append,map_append,append_assoc,hw]; rfl]
  exact this
 ·simp! [box,zfK]
  exact h [] a2 s2 (by simp) (.inl ⟨rfl,fun c=>hn (c.trans hC)⟩) ha2 hs2 hs22
def onD (p q:Nat):Wd:=if p < q then [111,110] else [98,97,99,107]
def numN (B:List Wd) (w:Wd) (p q:Nat):Nat:=B.idxOf (seg w (min p q) (max p q))
def stepD (B:List Wd) (w:Wd) (t:Nat×Nat):D:=.tup [.str (onD t.1 t.2),.int (numN B w t.1 t.2:Int)]
def prN (l:List Nat):List (Nat×Nat):=l.zip (l.drop 1)
theorem zhc (l:List Nat):(prN l).length=l.length - 1:=by unfold prN; rw [List.length_zip,length_drop]; lia
theorem znm {l:List Nat} {k:Nat} (h:k + 1 < l.length):∃ p q,l[k]?=some p/\l[k + 1]?=some q/\(prN l)[k]?=some (p,q):=by
 refine ⟨l[k],l[k + 1],getElem?_eq_getElem (by lia),getElem?_eq_getElem h,?_⟩
 unfold prN
 rw [List.getElem?_zip_eq_some]
 exact ⟨getElem?_eq_getElem (by lia),by rw [List.getElem?_drop,Nat.add_comm 1 k]; exact getElem?_eq_getElem h⟩
theorem sortU2 {p q:Nat}:bSortU [.tup [.int (p:Int),.int (q:Int)]]=some (.lst [.sh (.int (min p q:Nat)),.sh (.int (max p q:Nat))]):=by
 show (if [D.int (p:Int),D.int (q:Int)].length < 64/\(intsD [D.int (p:Int),D.int (q:Int)]).isSome then some (S.lst ((sortD [D.int (p:Int),D.int (q:Int)]).map .sh)) else none)=_
 rw [if_pos ⟨by simp,rfl⟩,za2 zdL (m:=[D.int (min p q:Nat),D.int (max p q:Nat)])]
 ·rfl
 ·intro d hd
  simp only [mem_cons,not_mem_nil,or_false] at hd
  rcases hd with rfl | rfl <;> trivial
 ·by_cases h:p<=q
  ·rw [min_eq_left h,Nat.max_eq_right h]
  ·rw [min_eq_right (by lia),Nat.max_eq_left (by lia)]
   exact .swap _ _ _
 ·refine List.pairwise_pair.mpr ?_
  rw [zci]
  exact decide_eq_true (by lia)
theorem zmr {B:List Wd} {z:Wd} (h:z∈B):ixD ((B.map fun b=>decide (b=z)).map D.bl) (.bl true)=some (B.idxOf z):=by
 unfold ixD
 rw [if_pos (by
  rw [all_eq_true]
  intro d hd
  obtain ⟨b,_,rfl⟩:=mem_map.mp hd
  rfl)]
 rw [List.findIdx?_eq_some_iff_getElem]
 have hi:B.idxOf z < B.length:=List.idxOf_lt_length_iff.mpr h
 refine ⟨by simpa using hi,?_,fun j hj=>?_⟩
 ·simp [getElem_idxOf hi]
 ·have:¬ B[j]'(by lia)=z:=by
   have:=List.not_of_lt_findIdx hj
   simpa using this
  simp [this]
theorem zlC {l:List Nat} {k p q:Nat} (h1:l[k]?=some p) (h2:l[k + 1]?=some q):cutL (l.map natD) (some (k:Int)) (some ((k + 2:Nat):Int))=[natD p,natD q]:=by
 rw [zd3]
 obtain ⟨a1,a2⟩:=qi.mp h1
 obtain ⟨b1,b2⟩:=qi.mp h2
 rw [<- map_drop,<- List.map_take,show k + 2 - k=2 by lia,drop_eq_getElem_cons a1,drop_eq_getElem_cons b1,a2,b2]
 rfl
theorem zfk {B:List Wd} {w:Wd} {l:List Nat} (hB:B.length<=1000) (hl:l.length<=100) (ht:∀ t∈prN l,TieR B w t.1 t.2)
  (h:P (.sh (.tup ((prN l).map (stepD B w)))) [.sh (boardD B),.sh (.str w),.sh (tupN l)]):w_14 [.sh (boardD B),.sh (.str w),.sh (tupN l)] P PX:=by
 refine za5 rfl rfl ?_
 simp! [tupN,length_map]
 refine ⟨by simp only [zam]; lia,?_⟩
 rw [show fromTo 1 ((l.length:Int) - 1).toNat=(List.range' 1 (l.length - 1)).map fun (k:Nat)=>D.int (k:Int) from from1 (a:=1) (n:=l.length) rfl rfl]
 refine za7 (fun pre ρ=>∃ o4 o5 o6:Option S,ρ=[some (.sh (boardD B)),some (.sh (.str w)),some (.sh (tupN l)),some (.lst ((((prN l).take pre.length).map (stepD B w)).map .sh)),o4,o5,o6]) (List.range' 1 (l.length - 1)) (fun pre i post D2 ρ e hI hnx hct hrt hbk=>?_) (fun ρ hI=>?_) ⟨none,none,none,rfl⟩
 ·obtain ⟨o4,o5,o6,rfl⟩:=hI
  have hi:=zdt e
  obtain ⟨k,rfl⟩:∃ k,i=k + 1:=⟨i - 1,by lia⟩
  have hk:pre.length=k:=by lia
  obtain ⟨p,q,e1,e2,e3⟩:=znm (l:=l) (k:=k) (by lia)
  have htt:=ht (p,q) (mem_of_getElem? e3)
  have hmem:seg w (min p q) (max p q)∈B:=by
   unfold TieR tie at htt
   rw [or_eq_true] at htt
   rcases htt with hh | hh
   ·obtain ⟨a,_,b⟩:=zap.mp hh
    rw [show min p q=p by lia,show max p q=q by lia]; exact b
   ·obtain ⟨a,_,b⟩:=zap.mp hh
    rw [show min p q=q by lia,show max p q=p by lia]; exact b
  have c1:cutL (l.map natD) (some ((((k + 1:Nat):Int)) - 1)) (some ((((k + 1:Nat):Int)) + 1))=[.int (p:Int),.int (q:Int)]:=by
   rw [show ((k + 1:Nat):Int) - 1=(k:Int) by lia,show ((k + 1:Nat):Int) + 1=((k + 2:Nat):Int) by lia]
   exact zlC e1 e2
  have a1:atI (l.map natD) (((k + 1:Nat):Int) - 1)=some (.int (p:Int)):=zbr (by lia) (by rw [show (((k + 1:Nat):Int) - 1).toNat=k by lia,getElem?_map,e1]; rfl)
  have a2:atI (l.map natD) ((k + 1:Nat):Int)=some (.int (q:Int)):=zbr (by lia) (by rw [toNat_natCast,getElem?_map,e2]; rfl)
  simp! [u_14_b2,tupN,c1,sortU2]
  simp! [zaA,boardD]
  refine bm1 (n:=7) B (fun b=>.sh (.bl (decide (b=seg w (min p q) (max p q))))) (fun b hb m o K hm hK=>?_) fun o=>?_
  ·simp! [x_bX,zeS,u_14_c1,show ∀ x y:D,atI [x,y] 0=some x from fun _ _=>rfl,show ∀ x y:D,atI [x,y] 1=some y from fun _ _=>rfl,zcB]
   exact ⟨by simp only [zam]; lia,hK _⟩
  ·rw [show (B.map fun b=>S.sh (.bl (decide (b=seg w (min p q) (max p q)))))=((B.map fun b=>decide (b=seg w (min p q) (max p q))).map D.bl).map S.sh by simp [Function.comp_def]]
   simp! [zaA,zfN (zmr hmem),a1,a2,length_map,length_take]
   have htk:(prN l).take (k + 1)=(prN l).take k++[(p,q)]:=by
    obtain ⟨b1,b2⟩:=qi.mp e3
    rw [List.take_succ_eq_append_getElem b1,b2]
   have fin:=hnx [some (.sh (boardD B)),some (.sh (.str w)),some (.sh (tupN l)),some (.lst ((((prN l).take (pre++[k + 1]).length).map (stepD B w)).map .sh)),some (.sh (.int ((k + 1:Nat):Int))),some (.sh (.lst [.int (min p q:Nat),.int (max p q:Nat)])),some (.sh (.int (B.idxOf (seg w (min p q) (max p q)):Nat)))] ⟨_,_,_,rfl⟩
   rw [length_append,length_singleton,hk,htk,map_append,map_append] at fin
   by_cases hpq:p < q
   ·simp! [decide_eq_true (show (p:Int) < (q:Int) by lia),if_true,show ∀ x y:S,atI [x,y] 1=some y from fun _ _=>rfl,length_map,length_take,hk]
    refine ⟨by simp only [zam]; lia,?_⟩
    have e5:stepD B w (p,q)=.tup [.str [111,110],.int (B.idxOf (seg w (min p q) (max p q)):Nat)]:=by unfold stepD onD numN; rw [if_pos hpq]
    simp only [map_cons,map_nil,e5] at fin
    exact fin
   ·simp! [decide_eq_false (show ¬ (p:Int) < (q:Int) by lia),false_eq_true,if_false,show ∀ x y:S,atI [x,y] 0=some x from fun _ _=>rfl,length_map,length_take,hk]
    refine ⟨by simp only [zam]; lia,?_⟩
    have e5:stepD B w (p,q)=.tup [.str [98,97,99,107],.int (B.idxOf (seg w (min p q) (max p q)):Nat)]:=by unfold stepD onD numN; rw [if_neg hpq]
    simp only [map_cons,map_nil,e5] at fin
    exact fin
 ·obtain ⟨o4,o5,o6,rfl⟩:=hI
  rw [List.length_range',take_of_length_le (by rw [zhc]; lia)]
  simp! [zaA]
  exact h
theorem zfM {n:Nat}:∀ l:List Wd,(∀ x∈l,x.length<=n)->(l.map List.length).sum<=l.length * n
 | [],_=>by simp
 | a::l,h=>by
   have h1:=h a (by simp)
   have h2:=zfM l fun x hx=>h x (by simp [hx])
   simp only [map_cons,sum_cons,length_cons,Nat.add_mul]
   lia
structure Scn where
 col:List Nat
 B:List Wd
 w:Wd
 l:List Nat
structure Scn.ok (c:Scn):Prop where
 f:Fit c.B c.w
 n:c.l.length<=24
 z:zzB c.B c.w (intL c.l)=true
 c:0 < c.col.length
def scnD (c:Scn):D:=.tup [.str c.col,boardD c.B,.str c.w,tupN c.l]
theorem zeR {B:List Wd}:∀ A:List Wd,(∀ x∈A,x∈B/\x≠[])->Conn (TieR B A.flatten) A.flatten.length 0
 | [],_=>Conn.refl _
 | x::A,h=>by
   have c2:=zeR A fun y hy=>h y (qo _ hy)
   have c3:Conn (TieR B (x++A.flatten)) (x.length + A.flatten.length) (x.length + 0):=by
    generalize A.flatten.length=p at c2
    generalize (0:Nat)=q at c2
    induction c2 with
    | refl=>exact Conn.refl _
    | step _ e ih=>exact ih.step (ziN e)
   rw [flatten_cons,length_append]
   refine c3.step ?_
   unfold TieR tie
   rw [or_eq_true]
   refine .inr (zap.mpr ⟨?_,by rw [length_append]; lia,?_⟩)
   ·have:=length_pos_iff.mpr (h x qp).2
    lia
   ·have:seg (x++A.flatten) 0 (x.length + 0)=x:=by unfold seg; simp
    rw [this]
    exact (h x qp).1
theorem zgN {a s:Int} (ha:0<=a) (hs:1<=s) (hs2:s<=2147483629)
  (h:∀ (c:Scn) a' s',c.ok->0<=a'->1<=s'->s'<=2147483629->P (.sh (scnD c)) [box a' s']):w_13 [box a s] P PX:=by
 refine za5 rfl rfl ?_
 simp! [box]
 refine zah ha hs hs2 (by decide) (by decide) fun r a1 s1 hr hr2 ha1 hs1 hs21=>?_
 simp! [box]
 refine zeu ha1 hs1 hs21 (by lia) (by lia) fun col a2 s2 hcol hso hle ha2 hs2 hs22=>?_
 simp! [box]
 refine zgq ha2 hs2 hs22 (by lia) (by lia) (by decide) (by decide) (by decide) (by decide) fun B a3 s3 hB ha3 hs3 hs23=>?_
 have hB':goodB col 6 6 B:=hB
 have hf:∀ w:Wd,w.length<=12->Fit B w:=fun w hw=>⟨hB'.2.1,fun x hx=>(hB'.2.2 x hx).1,fun x hx=>by have:=(hB'.2.2 x hx).2.1; lia,hB'.1,hw⟩
 simp! [box]
 refine ziS ha3 hs3 hs23 (by lia) (by lia) (by decide) (by decide) (by have:=hB'.1; lia) (fun w hw=>⟨by have:=(hB'.2.2 w hw).2.1; lia,(hB'.2.2 w hw).2.2⟩) fun t a4 s4 ht htc hne ha4 hs4 hs24=>?_
 have ht':t.length<=12:=ht
 simp! [box,zaA]
 refine zed (by lia) ?_
 simp! [zaA]
 refine zeb ha4 hs4 hs24 (by lia) fun l a5 s5 hl hz ha5 hs5 hs25=>?_
 by_cases hl0:l=[]
 ·subst hl0
  have hnc:¬ Conn (TieR B t) t.length 0:=by
   rcases hz with ⟨_,z⟩ | z
   ·exact z
   ·cases z
  have hBne:0 < B.length:=by
   cases B with
   | cons _ _=>simp
   | nil=>exact absurd (by rw [hne rfl]; exact Conn.refl _) hnc
  simp! [tupN,map_nil,zfK,box]
  refine zah ha5 hs5 hs25 (by decide) (by decide) fun r6 a6 s6 hr6 hr62 ha6 hs6 hs26=>?_
  simp! [box]
  refine ⟨by simp only [zam]; lia,?_⟩
  refine bd1 (n:=5) (fun z:Wd=>S.sh (.str z)) _ (fun ρ=>∃ a s,0<=a/\1<=s/\s<=2147483629/\ρ=[some (box a s),some (.sh (.str col)),some (.sh (boardD B)),some (.sh (.str t)),some (.sh (.tup []))]) (fun z=>z∈B) (fun x hx ρ A o K hI hA hK=>?_) (fun ρ A o hI hA hP=>?_) ⟨a6,s6,ha6,hs6,hs26,rfl⟩
  ·obtain ⟨a,s,ha,hs,hs2,rfl⟩:=hI
   have:=hB'.1
   rw [zaO] at hA
   simp! [x_bX,zeS,u_13_c1,box,boardD,length_map]
   refine zah ha hs hs2 (by lia) (by lia) fun r7 a7 s7 hr7 hr72 ha7 hs7 hs27=>?_
   obtain ⟨z,hz,_,ez⟩:=zaG (f:=D.str) (l:=B) hr7 hr72
   simp! [ez,length_map]
   exact ⟨by simp only [zam]; lia,hK _ _ _ ⟨a7,s7,ha7,hs7,hs27,rfl⟩ hz⟩
  ·obtain ⟨a,s,ha,hs,hs2,rfl⟩:=hI
   rw [zaO] at hA
   have hfl:=zfM (n:=6) A fun x hx=>(hB'.2.2 x (hP x hx)).2.1
   have hA2:A.length<=2:=by lia
   have hw12:A.flatten.length<=12:=by
    rw [List.length_flatten]
    lia
   rw [show (A.map fun z:Wd=>S.sh (.str z))=(A.map D.str).map S.sh by rw [map_map]; rfl]
   simp! [box,zaA,zhm (show (A.map List.length).sum<=big by simp only [zam]; lia)]
   refine zed (by lia) ?_
   simp! [zaA]
   refine zeb ha hs hs2 (by lia) fun l a7 s7 hl hz ha7 hs7 hs27=>?_
   simp! [box]
   exact h ⟨col,B,A.flatten,l⟩ a7 s7 ⟨hf _ hw12,by show l.length<=24; lia,hz.elim (fun z=>absurd (zeR A fun x hx=>⟨hP x hx,(hB'.2.2 x (hP x hx)).1⟩) z.2) id,by show 0 < col.length; lia⟩ ha7 hs7 hs27
 ·simp! [tupN,box,zhy (length_pos_iff.mpr hl0)]
  exact h ⟨col,B,t,l⟩ a5 s5 ⟨hf _ ht',by show l.length<=24; lia,hz.elim (fun z=>absurd z.1 hl0) id,by show 0 < col.length; lia⟩ ha5 hs5 hs25
abbrev Sp:=Wd×Int
def onW:Wd:=[111,110]
def bkW:Wd:=[98,97,99,107]
def spD (t:Sp):D:=.tup [.str t.1,.int t.2]
def spT (T:List Sp):D:=.tup (T.map spD)
def stp (B:List Wd) (w:Wd) (p:Nat) (a:Wd) (k:Int):Option Nat:=if k < 0 then none else match B[k.toNat]? with
 | none=>none
 | some x=>if a=onW then (if p + x.length<=w.length/\seg w p (p + x.length)=x then some (p + x.length) else none)
   else if a=bkW then (if x.length<=p/\seg w (p - x.length) p=x then some (p - x.length) else none) else none
def goW (B:List Wd) (w:Wd):Nat->List Sp->Option Nat
 | p,[]=>some p
 | p,t::T=>(stp B w p t.1 t.2).bind fun q=>goW B w q T
def letB (B:List Wd) (w:Wd) (T:List Sp):Bool:=decide (goW B w 0 T=some w.length)
theorem zcN {B:List Wd} {w:Wd}:∀ (T U:List Sp) (p:Nat),goW B w p (T++U)=(goW B w p T).bind fun q=>goW B w q U
 | [],_,_=>rfl
 | t::T,U,p=>by
   show (stp B w p t.1 t.2).bind (fun q=>goW B w q (T++U))=((stp B w p t.1 t.2).bind fun q=>goW B w q T).bind _
   cases stp B w p t.1 t.2 with
   | none=>rfl
   | some q=>exact zcN T U q
theorem zlB {B:List Wd} {w:Wd} {p q:Nat} (h:TieR B w p q):stp B w p (onD p q) (numN B w p q)=some q:=by
 unfold TieR tie at h
 rw [or_eq_true] at h
 have key:∀ i j,i < j->j<=w.length->seg w i j∈B->B[((B.idxOf (seg w i j):Nat):Int).toNat]?=some (seg w i j):=fun i j _ _ hm=>by
  rw [toNat_natCast,qi]
  exact ⟨List.idxOf_lt_length_iff.mpr hm,getElem_idxOf _⟩
 unfold stp numN onD
 rw [if_neg (by lia)]
 rcases h with h | h
 ·obtain ⟨h1,h2,h3⟩:=zap.mp h
  rw [show min p q=p by lia,show max p q=q by lia,key p q h1 h2 h3,if_pos h1]
  have hl:=zdA (w:=w) (le_of_lt h1) h2
  show (if onW=onW then _ else _)=_
  rw [if_pos rfl,hl,show p + (q - p)=q by lia,if_pos ⟨h2,rfl⟩]
 ·obtain ⟨h1,h2,h3⟩:=zap.mp h
  rw [show min p q=q by lia,show max p q=p by lia,key q p h1 h2 h3,if_neg (by lia)]
  have hl:=zdA (w:=w) (le_of_lt h1) h2
  show (if bkW=onW then _ else if bkW=bkW then _ else _)=_
  rw [if_neg (by decide),if_pos rfl,hl,show p - (p - q)=q by lia,if_pos ⟨by lia,rfl⟩]
def spL (B:List Wd) (w:Wd) (l:List Nat):List Sp:=(prN l).map fun t=>(onD t.1 t.2,(numN B w t.1 t.2:Int))
theorem zh2 {B:List Wd} {w:Wd}:∀ (l:List Nat) (p:Nat),(∀ t∈prN (p::l),TieR B w t.1 t.2)->goW B w p (spL B w (p::l))=(p::l).getLast?
 | [],p,_=>rfl
 | q::l,p,h=>by
   show (stp B w p (onD p q) (numN B w p q)).bind (fun r=>goW B w r (spL B w (q::l)))=_
   rw [zlB (h (p,q) qp)]
   show goW B w q (spL B w (q::l))=_
   rw [zh2 l q fun t ht=>h t (qo _ ht)]
   rfl
abbrev Kx:=Nat×Wd×Nat
def kxD (k:Kx):D:=.tup [.int (k.1:Int),.str k.2.1,.int (k.2.2:Int)]
def goT (t:Tr):List (Kx×Nat):=[((t.1,onW,t.2.2),t.2.1),((t.2.1,bkW,t.2.2),t.1)]
def goL (ts:List Tr):List (Kx×Nat):=ts.flatMap goT
def goK (L:List (Kx×Nat)):List D:=L.map fun e=>kxD e.1
def goV (L:List (Kx×Nat)):List D:=L.map fun e=>natD e.2
theorem zfn {k m:Kx} (h:kxD k=kxD m):k=m:=by
 obtain ⟨a,b,c⟩:=k
 obtain ⟨a',b',c'⟩:=m
 unfold kxD at h
 simp only [D.tup.injEq,List.cons.injEq,D.int.injEq,D.str.injEq,and_true] at h
 obtain ⟨h1,h2,h3⟩:=h
 rw [show a=a' by lia,h2,show c=c' by lia]
theorem zev {B:List Wd} {w:Wd} (hf:Fit B w) {t:Tr}:t∈strP B w↔∃ x,B[t.2.2]?=some x/\t.2.1=t.1 + x.length/\t.2.1<=w.length/\seg w t.1 t.2.1=x:=by
 rw [zdV,zap]
 constructor
 ·rintro ⟨⟨h1,h2,h3⟩,h4⟩
  refine ⟨seg w t.1 t.2.1,?_,?_,h2,rfl⟩
  ·rw [h4,qi]
   exact ⟨List.idxOf_lt_length_iff.mpr h3,getElem_idxOf _⟩
  ·rw [zdA (le_of_lt h1) h2]; lia
 ·rintro ⟨x,h1,h2,h3,h4⟩
  have hx:x∈B:=mem_of_getElem? h1
  have hpos:=length_pos_iff.mpr (hf.ne x hx)
  refine ⟨⟨by lia,h3,h4 ▸ hx⟩,?_⟩
  rw [h4]
  obtain ⟨h5,h6⟩:=qi.mp h1
  rw [<- h6,hf.nd.idxOf_getElem t.2.2 h5]
theorem zkm {B:List Wd} {w:Wd} (hf:Fit B w) {p k q:Nat} {a:Wd}:((p,a,k),q)∈goL (strP B w)↔stp B w p a (k:Int)=some q:=by
 unfold goL stp
 rw [List.mem_flatMap,if_neg (by lia),toNat_natCast]
 constructor
 ·rintro ⟨t,ht,hm⟩
  obtain ⟨x,h1,h2,h3,h4⟩:=(zev hf).mp ht
  unfold goT at hm
  simp only [mem_cons,not_mem_nil,or_false,Prod.mk.injEq] at hm
  rcases hm with ⟨⟨rfl,rfl,rfl⟩,rfl⟩ | ⟨⟨rfl,rfl,rfl⟩,rfl⟩
  ·rw [h1]
   show (if onW=onW then _ else _)=_
   rw [if_pos rfl,<- h2,if_pos ⟨h3,h4⟩]
  ·rw [h1]
   show (if bkW=onW then _ else if bkW=bkW then _ else _)=_
   rw [if_neg (by decide),if_pos rfl,show t.2.1 - x.length=t.1 by lia,if_pos ⟨by lia,h4⟩]
 ·intro h
  cases hx:B[k]? with
  | none=>rw [hx] at h; cases h
  | some x=>
    rw [hx] at h
    dsimp only at h
    by_cases ha:a=onW
    ·rw [if_pos ha] at h
     by_cases hc:p + x.length<=w.length/\seg w p (p + x.length)=x
     ·rw [if_pos hc] at h
      cases h
      exact ⟨(p,p + x.length,k),(zev hf).mpr ⟨x,hx,rfl,hc.1,hc.2⟩,by unfold goT; rw [ha]; simp⟩
     ·rw [if_neg hc] at h; cases h
    ·rw [if_neg ha] at h
     by_cases hb:a=bkW
     ·rw [if_pos hb] at h
      by_cases hc:x.length<=p/\seg w (p - x.length) p=x
      ·rw [if_pos hc] at h
       cases h
       have hp:p<=w.length:=by
        have:=congrArg List.length hc.2
        have hpos:=length_pos_iff.mpr (hf.ne x (mem_of_getElem? hx))
        unfold seg at this
        rw [length_take,length_drop] at this
        lia
       exact ⟨(p - x.length,p,k),(zev hf).mpr ⟨x,hx,by show p=p - x.length + x.length; lia,hp,hc.2⟩,by unfold goT; rw [hb]; simp⟩
      ·rw [if_neg hc] at h; cases h
     ·rw [if_neg hb] at h; cases h
theorem zl7 {B:List Wd} {w:Wd} (hf:Fit B w):(goK (goL (strP B w))).Nodup:=by
 unfold goK List.Nodup
 rw [pairwise_map]
 unfold goL
 rw [List.pairwise_flatMap]
 refine ⟨fun t _=>?_,?_⟩
 ·unfold goT
  rw [List.pairwise_pair]
  intro e
  have:=congrArg (·.2.1) (zfn e)
  exact absurd (show onW=bkW from this) (by decide)
 ·refine zcZ.imp_of_mem fun {t u} ht hu h x hx y hy e=>?_
  obtain ⟨b,b1,b2,b3,b4⟩:=(zev hf).mp ht
  obtain ⟨c,c1,c2,c3,c4⟩:=(zev hf).mp hu
  have e:=zfn e
  unfold goT at hx hy
  simp only [mem_cons,not_mem_nil,or_false] at hx hy
  have key:t.2.2=u.2.2->b.length=c.length:=fun z=>by
   rw [z,c1] at b1
   cases b1; rfl
  rcases hx with rfl | rfl <;> rcases hy with rfl | rfl
  ·simp only [Prod.mk.injEq] at e
   have:=key e.2.2
   lia
  ·exact absurd (show onW=bkW from congrArg (·.2.1) e) (by decide)
  ·exact absurd (show bkW=onW from congrArg (·.2.1) e) (by decide)
  ·simp only [Prod.mk.injEq] at e
   have:=key e.2.2
   lia
open Classical in
theorem zlK:∀ {L:List (Kx×Nat)} {d:D},(∀ e∈L,kxD e.1≠d)->lk (goK L) (goV L) d=none
 | [],_,_=>rfl
 | e::L,d,h=>by
   show (if kxD e.1=d then some (natD e.2) else lk (goK L) (goV L) d)=none
   rw [if_neg (h e qp),zlK fun x hx=>h x (qo _ hx)]
open Classical in
theorem zki:∀ {L:List (Kx×Nat)} {k:Kx} {q:Nat},(goK L).Nodup->(k,q)∈L->lk (goK L) (goV L) (kxD k)=some (natD q)
 | [],_,_,_,h=>nomatch h
 | e::L,k,q,hn,h=>by
   obtain ⟨n1,n2⟩:=nodup_cons.mp (show (kxD e.1::goK L).Nodup from hn)
   show (if kxD e.1=kxD k then some (natD e.2) else lk (goK L) (goV L) (kxD k))=_
   rcases mem_cons.mp h with rfl | h
   ·rw [if_pos rfl]
   ·rw [if_neg fun z=>n1 (by rw [z]; exact mem_map.mpr ⟨_,h,rfl⟩)]
    exact zki n2 h
theorem zpO {B:List Wd} {w:Wd} (hf:Fit B w) {p:Nat} {a:Wd} {k:Int}:lk (goK (goL (strP B w))) (goV (goL (strP B w))) (.tup [.int (p:Int),.str a,.int k])=(stp B w p a k).map natD:=by
 by_cases hk:k < 0
 ·rw [zlK fun e _ z=>by
   unfold kxD at z
   simp only [D.tup.injEq,List.cons.injEq,D.int.injEq,D.str.injEq,and_true] at z
   lia]
  unfold stp
  rw [if_pos hk]
  rfl
 ·obtain ⟨n,rfl⟩:∃ n:Nat,k=n:=⟨k.toNat,by lia⟩
  cases h:stp B w p a (n:Int) with
  | some q=>exact zki (zl7 hf) ((zkm hf).mpr h)
  | none=>
    refine zlK fun e he z=>?_
    obtain ⟨kk,q⟩:=e
    have:kk=(p,a,n):=zfn z
    subst this
    have:=(zkm hf).mp he
    rw [h] at this
    cases this
theorem znC {ks vs:List D} {z z':Int} {u:List Nat}:lkD (.dct true ks vs) (.tup [.int z,.str u,.int z'])=some (lk ks vs (.tup [.int z,.str u,.int z'])):=rfl
theorem zcc {B:List Wd} {w:Wd} {T:List Sp} (hf:Fit B w) (hT:T.length<=1000)
  (h:P (.sh (.bl (letB B w T))) [.sh (boardD B),.sh (.str w),.sh (spT T)]):w_1 [.sh (boardD B),.sh (.str w),.sh (spT T)] P PX:=by
 have h64:=zfV hf.nd hf.ne hf.six hf.tw
 refine za5 rfl rfl ?_
 simp! [e_C]
 refine zc4 hf ?_
 simp! [zaA]
 refine za7 (fun pre ρ=>∃ o4 o5 o6 o7 o8 o9:Option S,ρ=[some (.sh (boardD B)),some (.sh (.str w)),some (.sh (spT T)),some (.dct true (goK (goL pre)) ((goV (goL pre)).map .sh)),o4,o5,o6,o7,o8,o9]) (strP B w) (fun pre t post D2 ρ e hI hnx hct hrt hbk=>?_) (fun ρ hI=>?_) ⟨_,_,_,_,_,_,rfl⟩
 ·obtain ⟨o4,o5,o6,o7,o8,o9,rfl⟩:=hI
  have hnd:=zl7 hf
  have eL:goL (strP B w)=goL pre++([((t.1,onW,t.2.2),t.2.1)]++([((t.2.1,bkW,t.2.2),t.1)]++goL post)):=by rw [<- e]; unfold goL; rw [flatMap_append,flatMap_cons]; rfl
  rw [eL] at hnd
  have hlen:(goL pre).length<=200:=by
   have h1:∀ ts:List Tr,(goL ts).length=2 * ts.length:=fun ts=>by
    induction ts with
    | nil=>rfl
    | cons t ts ih=>show (goT t++goL ts).length=_; rw [length_append,ih]; show 2 + _=_; rw [length_cons]; lia
   rw [h1]
   have:=congrArg List.length e
   rw [length_append] at this
   lia
  unfold goK at hnd
  rw [map_append,map_append,map_append] at hnd
  obtain ⟨n1,n2,n3⟩:=nodup_append.mp hnd
  have m1:kxD (t.1,onW,t.2.2)∉goK (goL pre):=fun z=>n3 _ z _ (by simp) rfl
  have hnd2:(goK (goL pre)++[kxD (t.1,onW,t.2.2)]).Nodup:=by
   rw [<- append_assoc] at hnd
   exact (nodup_append.mp hnd).1
  have m2:kxD (t.2.1,bkW,t.2.2)∉goK (goL pre)++[kxD (t.1,onW,t.2.2)]:=fun z=>by
   rw [<- append_assoc] at hnd
   exact (nodup_append.mp hnd).2.2 _ z _ (by simp) rfl
  simp! [zkk,u_1_b1,length_cons,length_nil]
  refine ⟨rfl,n1,by unfold goK; rw [length_map]; simp only [zam]; lia,?_⟩
  rw [show D.tup [.int (t.1:Int),.str [111,110],.int (t.2.2:Int)]=kxD (t.1,onW,t.2.2) from rfl,zhU m1]
  simp! [e_C]
  refine ⟨rfl,hnd2,by rw [length_append]; unfold goK; rw [length_map]; simp only [zam,length_singleton]; lia,?_⟩
  rw [show D.tup [.int (t.2.1:Int),.str [98,97,99,107],.int (t.2.2:Int)]=kxD (t.2.1,bkW,t.2.2) from rfl,zhU m2]
  have:=hnx _ ⟨some (.sh (.int (t.1:Int))),some (.sh (.int (t.2.1:Int))),some (.sh (.int (t.2.2:Int))),o7,o8,o9,rfl⟩
  have e3:goL (pre++[t])=goL pre++[((t.1,onW,t.2.2),t.2.1)]++[((t.2.1,bkW,t.2.2),t.1)]:=by unfold goL; rw [flatMap_append,append_assoc]; rfl
  rw [e3] at this
  unfold goK goV at this ⊢
  simp only [map_append,map_cons,map_nil] at this
  exact this
 ·obtain ⟨o4,o5,o6,o7,o8,o9,rfl⟩:=hI
  simp! [spT]
  refine za7 (fun pre ρ=>∃ (p:Nat) (o4 o5 o6 o8 o9:Option S),goW B w 0 pre=some p/\ρ=[some (.sh (boardD B)),some (.sh (.str w)),some (.sh (.tup (T.map spD))),some (.dct true (goK (goL (strP B w))) ((goV (goL (strP B w))).map .sh)),o4,o5,o6,some (.sh (.int (p:Int))),o8,o9]) T (fun pre t post D2 ρ e hI hnx hct hrt hbk=>?_) (fun ρ hI=>?_) ⟨0,_,_,_,_,_,rfl,rfl⟩
  ·obtain ⟨p,o4,o5,o6,o8,o9,hp,rfl⟩:=hI
   simp! [spD,u_1_b2,length_cons,length_nil,znC,zpO hf]
   have hT2:goW B w 0 T=(stp B w p t.1 t.2).bind fun q=>goW B w q post:=by
    rw [<- e,zcN,hp]; rfl
   cases hq:stp B w p t.1 t.2 with
   | some q=>
     simp! [natD,show cIs (.int (q:Int)) .non=some false by simp [cIs]]
     exact hnx _ ⟨q,_,_,_,_,_,by rw [zcN,hp]; show (stp B w p t.1 t.2).bind _=_; rw [hq]; rfl,rfl⟩
   | none=>
     simp! [Option.map_none,show cIs .non .non=some true by simp [cIs]]
     rw [hq] at hT2
     have:letB B w T=false:=by unfold letB; rw [hT2]; rfl
     rw [this] at h
     rw [hrt]
     exact h
  ·obtain ⟨p,o4,o5,o6,o8,o9,hp,rfl⟩:=hI
   simp! [e_C]
   have:letB B w T=decide ((p:Int)=(w.length:Int)):=by
    unfold letB
    rw [hp]
    exact decide_eq_decide.mpr ⟨fun z=>by cases z; rfl,fun z=>by rw [show p=w.length by lia]⟩
   rw [this] at h
   exact h
theorem zlu {a:Wd}:cIn (.str a) (.tup [.str [111,110],.str [98,97,99,107]])=some (decide (a=onW) || decide (a=bkW)):=by
 rw [show [D.str [111,110],D.str [98,97,99,107]]=[onW,bkW].map D.str from rfl,zf3]
 simp
theorem zeJ {B:List Wd} {w:Wd} {T:List Sp} (hf:Fit B w) (hT:T.length<=1000)
  (h:P (.sh (.bl (letB B w T))) [.sh (boardD B),.sh (.str w),.sh (spT T)]):w_15 [.sh (boardD B),.sh (.str w),.sh (spT T)] P PX:=by
 have h6:=hf.six
 have h12:=hf.tw
 refine za5 rfl rfl ?_
 simp! [spT]
 refine za7 (fun pre ρ=>∃ (p:Nat) (o4 o5 o6 o7:Option S),p<=w.length/\goW B w 0 pre=some p/\ρ=[some (.sh (boardD B)),some (.sh (.str w)),some (.sh (.tup (T.map spD))),some (.sh (.int (p:Int))),o4,o5,o6,o7]) T (fun pre t post D2 ρ e hI hnx hct hrt hbk=>?_) (fun ρ hI=>?_) ⟨0,_,_,_,_,zero_le _,rfl,rfl⟩
 ·obtain ⟨p,o4,o5,o6,o7,hpw,hp,rfl⟩:=hI
  have hT2:goW B w 0 T=(stp B w p t.1 t.2).bind fun q=>goW B w q post:=by
   rw [<- e,zcN,hp]; rfl
  have hno:stp B w p t.1 t.2=none->P (.sh (.bl false)) [.sh (boardD B),.sh (.str w),.sh (spT T)]:=fun z=>by
   rw [z] at hT2
   have:letB B w T=false:=by unfold letB; rw [hT2]; rfl
   rw [this] at h
   exact h
  simp! [spD,u_15_b1,length_cons,length_nil,zlu,boardD,length_map]
  cases hw:(decide (t.1=onW) || decide (t.1=bkW))
  ·simp! [e_C]
   rw [hrt]
   refine hno ?_
   rw [or_eq_false_iff,decide_eq_false_iff_not,decide_eq_false_iff_not] at hw
   unfold stp
   split
   ·rfl
   ·split
    ·rfl
    ·rw [if_neg hw.1,if_neg hw.2]
  ·cases hk:decide (t.2 < 0)
   ·cases hk2:decide (t.2 ≥ (B.length:Int))
    ·have k0:=of_decide_eq_false hk
     have k1:=of_decide_eq_false hk2
     obtain ⟨x,hx,hx2,ex⟩:=zaG (f:=D.str) (l:=B) (z:=t.2) (by lia) (by lia)
     have hxl:=hf.le x hx
     simp! [hk,hk2,ex,length_map]
     rw [or_eq_true,decide_eq_true_iff,decide_eq_true_iff] at hw
     have hst:stp B w p t.1 t.2=if t.1=onW then (if p + x.length<=w.length/\seg w p (p + x.length)=x then some (p + x.length) else none) else if t.1=bkW then (if x.length<=p/\seg w (p - x.length) p=x then some (p - x.length) else none) else none:=by
      unfold stp
      rw [if_neg k0,hx2]
     have hpos:=length_pos_iff.mpr (hf.ne x hx)
     have step:∀ q,stp B w p t.1 t.2=some q->goW B w 0 (pre++[t])=some q:=fun q z=>by
      rw [zcN,hp]; show (stp B w p t.1 t.2).bind _=_; rw [z]; rfl
     by_cases hon:t.1=onW
     ·rw [if_pos hon] at hst
      simp! [decide_eq_true (show t.1=[111,110] from hon),if_true,show ∀ x y:S,atI [x,y] 1=some y from fun _ _=>rfl,show (p:Int) + (x.length:Int) * 1=((p + x.length:Nat):Int) by lia,decide_eq_false (show ¬ ((p + x.length:Nat):Int) < 0 by lia)]
      by_cases hc:p + x.length<=w.length
      ·simp! [decide_eq_false (show ¬ ((p + x.length:Nat):Int) > (w.length:Int) by lia),minN,maxN,show min p (p + x.length)=p by lia,show max p (p + x.length)=p + x.length by lia,zcB]
       by_cases hs:seg w p (p + x.length)=x
       ·simp! [hs,decide_true]
        exact hnx _ ⟨p + x.length,_,_,_,_,hc,step _ (by rw [hst,if_pos ⟨hc,hs⟩]),rfl⟩
       ·simp! [decide_eq_false hs]
        rw [hrt]
        exact hno (by rw [hst,if_neg fun z=>hs z.2])
      ·simp! [decide_eq_true (show ((p + x.length:Nat):Int) > (w.length:Int) by lia)]
       rw [hrt]
       exact hno (by rw [hst,if_neg fun z=>hc z.1])
     ·rw [if_neg hon,if_pos (hw.resolve_left hon)] at hst
      simp! [decide_eq_false (show ¬ t.1=[111,110] from hon),false_eq_true,if_false,show ∀ x y:S,atI [x,y] 0=some x from fun _ _=>rfl]
      by_cases hc:x.length<=p
      ·simp! [show (p:Int) + (x.length:Int) * -1=((p - x.length:Nat):Int) by lia,decide_eq_false (show ¬ ((p - x.length:Nat):Int) < 0 by lia),decide_eq_false (show ¬ ((p - x.length:Nat):Int) > (w.length:Int) by lia),minN,maxN,show min p (p - x.length)=p - x.length by lia,show max p (p - x.length)=p by lia,zcB]
       by_cases hs:seg w (p - x.length) p=x
       ·simp! [hs,decide_true]
        exact hnx _ ⟨p - x.length,_,_,_,_,by lia,step _ (by rw [hst,if_pos ⟨hc,hs⟩]),rfl⟩
       ·simp! [decide_eq_false hs]
        rw [hrt]
        exact hno (by rw [hst,if_neg fun z=>hs z.2])
      ·simp! [decide_eq_true (show (p:Int) + (x.length:Int) * -1 < 0 by lia)]
       rw [hrt]
       exact hno (by rw [hst,if_neg fun z=>hc z.1])
    ·simp! [hk,hk2,length_map]
     rw [hrt]
     refine hno ?_
     unfold stp
     have k1:=of_decide_eq_true hk2
     have k0:=of_decide_eq_false hk
     rw [if_neg k0,getElem?_eq_none (by lia)]
   ·simp! [hk]
    rw [hrt]
    refine hno ?_
    unfold stp
    rw [if_pos (of_decide_eq_true hk)]
 ·obtain ⟨p,o4,o5,o6,o7,hpw,hp,rfl⟩:=hI
  simp! [e_C]
  have:letB B w T=decide ((p:Int)=(w.length:Int)):=by
   unfold letB
   rw [hp]
   exact decide_eq_decide.mpr ⟨fun z=>by cases z; rfl,fun z=>by rw [show p=w.length by lia]⟩
  rw [this] at h
  exact h
theorem zb5 {B:List Wd} {w:Wd} {T:List Sp} (hf:Fit B w) (hT:T.length<=1000)
  (h:P (.sh (.bl true)) [.sh (boardD B),.sh (.str w),.sh (spT T)]):w_17 [.sh (boardD B),.sh (.str w),.sh (spT T)] P PX:=by
 refine za5 rfl rfl ?_
 simp! [e_C]
 refine zcc hf hT ?_
 simp! [show isTy "bool" (D.bl (letB B w T))=true from rfl]
 refine zeJ hf hT ?_
 simp! [e_C]
 exact h
theorem zj1 {B:List Wd} {w:Wd} (hne:∀ x∈B,x≠[]) {a:Wd} {k:Int} {q:Nat} (h:stp B w 0 a k=some q):stp B w 0 onW k=some q/\stp B w q bkW k=some 0:=by
 unfold stp at *
 split at h
 ·cases h
 ·rename_i hk
  rw [if_neg hk,if_neg hk]
  cases hx:B[k.toNat]? with
  | none=>rw [hx] at h; cases h
  | some x=>
    rw [hx] at h
    have hpos:=length_pos_iff.mpr (hne x (mem_of_getElem? hx))
    dsimp only at h ⊢
    split at h
    ·split at h
     ·rename_i hc
      cases h
      rw [zero_add] at *
      exact ⟨by rw [if_pos rfl,if_pos hc],by rw [if_neg (by decide),if_pos rfl,sub_self,if_pos ⟨le_refl _,hc.2⟩]⟩
     ·cases h
    ·split at h
     ·split at h
      ·rename_i hc
       lia
      ·cases h
     ·cases h
structure Whole (B:List Wd) (w:Wd) (T:List Sp):Prop where
 go:goW B w 0 T=some w.length
 n:T.length<=24
 m:∀ t∈T,t.1.length<=6
theorem zfb {B:List Wd} {w:Wd} {T:List Sp} {n:Int} (hne:∀ x∈B,x≠[]) (hn:0<=n) (hn2:n<=24) (hT:Whole B w T)
  (h:∀ T',Whole B w T'->P (.sh (spT T')) [.sh (spT T),.sh (.int n)]):w_18 [.sh (spT T),.sh (.int n)] P PX:=by
 refine zml rfl rfl ?_
 simp! [e_C]
 refine zkW (fun m ρ=>∃ T',Whole B w T'/\m=(n + 2 - T'.length).toNat/\ρ=[some (.sh (spT T')),some (.sh (.int n))]) _ ⟨T,hT,rfl,rfl⟩ fun m ρ hJ=>?_
 obtain ⟨T',hT',hm,rfl⟩:=hJ
 have hl:=hT'.n
 simp! [spT,length_map]
 have out:P (.sh (.tup (T'.map spD))) [.sh (.tup (T.map spD)),.sh (.int n)]:=h T' hT'
 cases T' with
 | nil=>
   simp! [length_nil,decide_eq_false (show ¬ (0:Int) < ((0:Nat):Int) by lia),x_Wf]
   exact out
 | cons t T'=>
   have hgo:=hT'.go
   rw [length_cons] at hl
   cases hc:decide (((t::T').length:Int) < n - 1)
   ·simp! [decide_eq_true (show (0:Int) < ((t::T').length:Int) by rw [length_cons]; lia),hc,x_Wf]
    exact out
   ·have hc':=of_decide_eq_true hc
    rw [length_cons] at hc'
    have hgo':(stp B w 0 t.1 t.2).bind (fun q=>goW B w q T')=some w.length:=hgo
    cases hq:stp B w 0 t.1 t.2 with
    | none=>rw [hq] at hgo'; cases hgo'
    | some q=>
      obtain ⟨f1,f2⟩:=zj1 hne hq
      have hW:Whole B w ((onW,t.2)::(bkW,t.2)::t::T'):=by
       refine ⟨?_,by simp only [length_cons]; lia,fun u hu=>?_⟩
       ·show (stp B w 0 onW t.2).bind (fun q=>(stp B w q bkW t.2).bind fun q=>goW B w q (t::T'))=_
        rw [f1]
        show (stp B w q bkW t.2).bind (fun q=>goW B w q (t::T'))=_
        rw [f2]
        exact hgo
       ·rcases mem_cons.mp hu with rfl | hu
        ·show onW.length<=6; decide
        ·rcases mem_cons.mp hu with rfl | hu
         ·show bkW.length<=6; decide
         ·exact hT'.m u hu
      simp! [decide_eq_true (show (0:Int) < ((t::T').length:Int) by rw [length_cons]; lia),hc,x_Wt,u_18_b1,spD]
      exact zkw (by rw [hm]; simp only [length_cons]; lia) ⟨_,hW,rfl,rfl⟩
theorem cutT {T:List Sp} {a b:Option Int}:cutL (T.map spD) a b=(cutL T a b).map spD:=zjZ spD T a b
theorem cut1 {T:List Sp} {f:Sp} {a b c d:Option Int}:(cutL T a b).map spD++[spD f]++(cutL T c d).map spD=(cutL T a b++[f]++cutL T c d).map spD:=by simp
theorem zc1 {a s:Int} {B:List Wd} {T:List Sp} {m:Nat} (ha:0<=a) (hs:1<=s) (hs2:s<=2147483629) (hB:B.length<=6) (hT:T.length<=100) (hm:6<=m) (hm2:m<=100) (hTm:∀ t∈T,t.1.length<=m)
  (h:∀ (T':List Sp) a' s',T'.length<=2 * T.length + 1->(∀ t∈T',t.1.length<=m + 1)->0<=a'->1<=s'->s'<=2147483629->P (.sh (spT T')) [box a' s',.sh (boardD B),.sh (spT T)]):w_16 [box a s,.sh (boardD B),.sh (spT T)] P PX:=by
 have cl:∀ (x y:Option Int),(cutL T x y).length<=T.length:=fun x y=>zaN T x y
 have cm:∀ (x y:Option Int),∀ t∈cutL T x y,t.1.length<=m + 1:=fun x y t ht=>by have:=hTm t (zbm ht); lia
 have out1:∀ (f:Sp) (x y z u:Option Int) (a' s':Int),f.1.length<=m + 1->0<=a'->1<=s'->s'<=2147483629->P (.sh (.tup ((cutL T x y++[f]++cutL T z u).map spD))) [box a' s',.sh (boardD B),.sh (spT T)]:=fun f x y z u a' s' hf h1 h2 h3=>by
  refine h _ a' s' ?_ (fun t ht=>?_) h1 h2 h3
  ·have:=cl x y
   have:=cl z u
   simp only [length_append,length_singleton]
   lia
  ·simp only [mem_append,mem_singleton] at ht
   rcases ht with (ht | rfl) | ht
   ·exact cm _ _ t ht
   ·exact hf
   ·exact cm _ _ t ht
 refine za5 rfl rfl ?_
 simp! [box,spT,length_map]
 refine zah ha hs hs2 (by lia) (by lia) fun r1 a1 s1 hr1 hr12 ha1 hs1 hs21=>?_
 simp! [box,length_map]
 refine zah ha1 hs1 hs21 (by lia) (by lia) fun r2 a2 s2 hr2 hr22 ha2 hs2 hs22=>?_
 simp! [box,length_map]
 refine zah ha2 hs2 hs22 (by decide) (by decide) fun r3 a3 s3 hr3 hr32 ha3 hs3 hs23=>?_
 obtain ⟨f1,hf1,_,ef1⟩:=zaG (f:=fun x=>S.sh (.str x)) (l:=[onW,bkW]) hr3 hr32
 have hf1l:f1.length<=4:=by
  simp only [mem_cons,not_mem_nil,or_false] at hf1
  rcases hf1 with rfl | rfl <;> decide
 have ef1':atI [S.sh (.str [111,110]),S.sh (.str [98,97,99,107])] r3=some (.sh (.str f1)):=ef1
 simp! [box,ef1',boardD,length_map]
 refine zah ha3 hs3 hs23 (by lia) (by lia) fun r4 a4 s4 hr4 hr42 ha4 hs4 hs24=>?_
 simp! [box]
 refine zah ha4 hs4 hs24 (by decide) (by decide) fun r5 a5 s5 hr5 hr52 ha5 hs5 hs25=>?_
 simp! [box,cutT,length_map,length_cons,length_nil]
 have cl1:=cl none (some r1)
 have cl2:=cl (some (r1 + 1)) none
 have cl3:=cl (some r1) none
 have cl4:=cl (some r2) (some (r2 + 1))
 cases q0:decide (r5=0)
 ·simp! [e_C]
  cases q1:decide (r5=1)
  ·simp! [length_map]
   cases qe:decide (r1=(T.length:Int))
   ·have qe':=of_decide_eq_false qe
    obtain ⟨t,ht,_,et⟩:=zaG (f:=spD) (l:=T) (z:=r1) hr1 (by lia)
    have htm:=hTm t ht
    simp! [et,spD,length_cons,length_nil]
    have lastP:∀ (f:Sp) (a' s':Int),f.1.length<=m + 1->0<=a'->1<=s'->s'<=2147483629->P (.sh (.tup ((cutL T none (some r1)).map spD++[spD f]++(cutL T (some (r1 + 1)) none).map spD))) [box a' s',.sh (boardD B),.sh (spT T)]:=fun f a' s' hf h1 h2 h3=>by
     rw [cut1]
     exact out1 f _ _ _ _ a' s' hf h1 h2 h3
    generalize hD:wNx _ _=D4
    have last:∀ (f:Sp) (a' s':Int),f.1.length<=m + 1->0<=a'->1<=s'->s'<=2147483629->D4.nx [some (box a' s'),some (.sh (.tup (B.map D.str))),some (.sh (.tup (T.map spD))),some (.sh (.int r1)),some (.sh (.int r2)),some (.sh (spD f)),some (.sh (.int r5)),some (.sh (.str t.1)),some (.sh (.int t.2))]:=fun f a' s' hf h1 h2 h3=>by
     rw [<- hD]
     simp! [cutT,length_map,length_append,length_cons,length_nil]
     exact lastP f a' s' hf h1 h2 h3
    cases q2:decide (r5=2)
    ·simp! [e_C]
     cases q3:decide (r5=3)
     ·simp! [e_C]
      cases q4:decide (r5=4)
      ·simp! [e_C]
       cases q5:decide (r5=5)
       ·simp! [e_C]
        exact last (f1,r4) a5 s5 (by show f1.length<=m + 1; lia) ha5 hs5 hs25
       ·cases q6:decide (r2 < (T.length:Int))
        ·simp! [length_map,q6]
         exact last (f1,r4) a5 s5 (by show f1.length<=m + 1; lia) ha5 hs5 hs25
        ·have hr2':=of_decide_eq_true q6
         obtain ⟨u,hu,hu2,_⟩:=zaG (f:=spD) (l:=T) (z:=r2) hr2 hr2'
         have ecu:cutL T (some r2) (some (r2 + 1))=[u]:=by
          rw [show r2=((r2.toNat:Nat):Int) by lia,show ((r2.toNat:Nat):Int) + 1=((r2.toNat + 1:Nat):Int) by lia,zd3]
          obtain ⟨v1,v2⟩:=qi.mp hu2
          rw [drop_eq_getElem_cons v1,v2,show r2.toNat + 1 - r2.toNat=1 by lia]
          rfl
         simp! [length_map,q6,cutT,ecu,length_append,length_cons,length_nil,<- hD]
         exact lastP u a5 s5 (by have:=hTm u hu; lia) ha5 hs5 hs25
      ·simp! [show ∀ x0 x1 x2 x3 x4 x5 x6:R,lenOk [x0,x1,x2,x3,x4,x5,x6]=true from fun _ _ _ _ _ _ _=>rfl]
       refine zah ha5 hs5 hs25 (by decide) (by decide) fun r6 a6 s6 hr6 hr62 ha6 hs6 hs26=>?_
       obtain ⟨g,hg,_,eg⟩:=zaG (f:=fun x=>S.sh (.str x)) (l:=[[],[79,110],[111,110,32],[43],[45],[111,110,98,97,99,107],t.1++[115]]) hr6 hr62
       have hgl:g.length<=m + 1:=by
        simp only [mem_cons,not_mem_nil,or_false] at hg
        rcases hg with rfl | rfl | rfl | rfl | rfl | rfl | rfl <;> simp only [length_nil,length_cons,length_append] <;> lia
       have eg':atI [S.sh (.str []),S.sh (.str [79,110]),S.sh (.str [111,110,32]),S.sh (.str [43]),S.sh (.str [45]),S.sh (.str [111,110,98,97,99,107]),S.sh (.str (t.1++[115]))] r6=some (.sh (.str g)):=eg
       simp! [box,eg',length_cons,length_nil]
       exact last (g,t.2) a6 s6 hgl ha6 hs6 hs26
     ·simp! [length_map]
      refine zah ha5 hs5 hs25 (by decide) (by decide) fun r6 a6 s6 hr6 hr62 ha6 hs6 hs26=>?_
      obtain ⟨g,hg,_,eg⟩:=zaG (f:=fun x=>S.sh (.int x)) (l:=[t.2 + 1,t.2 - 1,-1,(B.length:Int),t.2 - B.length]) hr6 hr62
      have eg':atI [S.sh (.int (t.2 + 1)),S.sh (.int (t.2 - 1)),S.sh (.int (-1)),S.sh (.int (B.length:Int)),S.sh (.int (t.2 - B.length))] r6=some (.sh (.int g)):=eg
      simp! [box,eg',length_cons,length_nil]
      exact last (t.1,g) a6 s6 (by show t.1.length<=m + 1; lia) ha6 hs6 hs26
    ·have key:∃ g:Wd,g.length<=4/\atI [S.sh (.str [111,110]),S.sh (.str [98,97,99,107])] (if decide (t.1=[111,110])=true then 1 else 0)=some (.sh (.str g)):=by
      split
      ·exact ⟨[98,97,99,107],by decide,rfl⟩
      ·exact ⟨[111,110],by decide,rfl⟩
     obtain ⟨g,hgl,eg⟩:=key
     simp! [eg,length_cons,length_nil]
     exact last (g,t.2) a5 s5 (by show g.length<=m + 1; lia) ha5 hs5 hs25
   ·simp! [cutT,length_map]
    rw [<- map_append]
    refine h _ a5 s5 ?_ (fun t ht=>?_) ha5 hs5 hs25
    ·rw [length_append]; lia
    ·exact (mem_append.mp ht).elim (fun z=>by have:=hTm t z; lia) (cm _ _ t)
  ·simp! [cutT,length_map,length_append,length_cons,length_nil]
   have:=out1 (f1,r4) none (some r1) (some r1) none a5 s5 (by show f1.length<=m + 1; lia) ha5 hs5 hs25
   rw [<- cut1] at this
   exact this
 ·simp! [cutT,length_map]
  rw [<- map_append]
  refine h _ a5 s5 ?_ (fun t ht=>?_) ha5 hs5 hs25
  ·rw [length_append]; lia
  ·exact (mem_append.mp ht).elim (cm _ _ t) (cm _ _ t)
theorem zjC {B:List Wd} {w:Wd} {l:List Nat} (hn:l.length<=24) (h:zzB B w (intL l)=true):Whole B w (spL B w l)/\∀ t∈prN l,TieR B w t.1 t.2:=by
 unfold zzB at h
 rw [and_eq_true,and_eq_true,all_eq_true,decide_eq_true_iff,decide_eq_true_iff] at h
 have ht:∀ t∈prN l,TieR B w t.1 t.2:=fun t ht=>by
  have hm:((t.1:Int),(t.2:Int))∈pairsOf (intL l):=by
   unfold pairsOf intL
   rw [<- map_drop,List.zip_map]
   exact mem_map.mpr ⟨t,ht,rfl⟩
  obtain ⟨a,b,e1,e2,hh⟩:=zjh (h.2.2 _ hm)
  have e1':(t.1:Int)=a:=e1
  have e2':(t.2:Int)=b:=e2
  rw [show t.1=a by lia,show t.2=b by lia]
  exact hh
 refine ⟨⟨?_,by unfold spL; rw [length_map,zhc]; lia,fun t ht=>?_⟩,ht⟩
 ·cases l with
  | nil=>cases h.1
  | cons p l=>
    have h0:=h.1
    unfold intL at h0
    simp only [map_cons,List.head?_cons,Option.some.injEq] at h0
    obtain rfl:p=0:=by lia
    rw [zh2 l 0 ht]
    have h1:=h.2.1
    unfold intL at h1
    rw [List.getLast?_map] at h1
    cases q:(0::l).getLast? with
    | none=>rw [q] at h1; cases h1
    | some z=>
      rw [q] at h1
      have:(z:Int)=w.length:=qh h1
      rw [show z=w.length by lia]
 ·unfold spL at ht
  obtain ⟨t,_,rfl⟩:=mem_map.mp ht
  show (onD t.1 t.2).length<=6
  unfold onD
  split <;> decide
theorem zqp {B:List Wd} {w:Wd} {l:List Nat}:D.tup ((prN l).map (stepD B w))=spT (spL B w l):=by
 unfold spT spL
 rw [map_map]
 rfl
theorem zkq {B:List Wd} {w:Wd} (h:Fit B w):Fit B.reverse w:=⟨(List.reverse_perm B).nodup_iff.mpr h.nd,fun x hx=>h.ne x (List.mem_reverse.mp hx),fun x hx=>h.le x (List.mem_reverse.mp hx),by rw [List.length_reverse]; exact h.six,h.tw⟩
theorem cut12 (l:Wd):(cutL l none (some 12)).length<=12:=by
 by_cases h:12<=l.length
 ·rw [zfh l (by decide) (by lia),length_take]; exact Nat.min_le_left _ _
 ·exact le_trans (zaN l none (some 12)) (by lia)
theorem pure_law:∀ ns:List Int,ns.length<=63->w_19 [.sh (.lst (ns.map .int))] (fun s _=>s=.sh (.bl true)) fun _ _=>True:=by
 intro ns hl
 refine za5 rfl rfl ?_
 simp! [length_map]
 refine zfQ (by decide) fun a s ha hs hs2=>?_
 simp! [box]
 refine zgN ha hs hs2 fun c a1 s1 hc ha1 hs1 hs21=>?_
 have hf:=hc.f
 have hn:=hc.n
 have hB6:=hf.six
 have hw12:=hf.tw
 obtain ⟨hW,htie⟩:=zjC hn hc.z
 simp! [box,scnD,length_cons,length_nil]
 refine zfk (by lia) (by lia) htie ?_
 rw [zqp]
 simp! [box]
 refine zah ha1 hs1 hs21 (by decide) (by decide) fun r2 a2 s2 hr2 hr22 ha2 hs2 hs22=>?_
 obtain ⟨g,hg,_,eg⟩:=zaG (f:=fun x=>S.sh (.int x)) (l:=[0,0,23,24]) hr2 hr22
 have hgb:0<=g/\g<=24:=by
  simp only [mem_cons,not_mem_nil,or_false] at hg
  lia
 have eg':atI [S.sh (.int 0),S.sh (.int 0),S.sh (.int 23),S.sh (.int 24)] r2=some (.sh (.int g)):=eg
 simp! [box,eg']
 refine zfb hf.ne hgb.1 hgb.2 hW fun T hT=>?_
 have hTn:=hT.n
 have hlb:letB c.B c.w T=true:=by unfold letB; rw [hT.go]; simp
 simp! [e_C]
 refine zcc hf (by lia) ?_
 rw [hlb]
 simp! [show cIsNot (.bl true) (.bl true)=some false by simp [cIsNot,cIs]]
 refine ⟨by simp only [zam]; lia,?_⟩
 rw [show fromTo 1 (Int.toNat (9 - 1))=(List.range' 1 8).map fun (k:Nat)=>D.int (k:Int) from rfl]
 refine za7 (fun _ ρ=>∃ (a s:Int) (o7 o8 o9 o10:Option S),0<=a/\1<=s/\s<=2147483629/\ρ=[some (.sh (.lst (ns.map .int))),some (box a s),some (.sh (.str c.col)),some (.sh (boardD c.B)),some (.sh (.str c.w)),some (.sh (tupN c.l)),some (.sh (spT T)),o7,o8,o9,o10]) (List.range' 1 8) (fun pre k post D2 ρ e hI hnx hct hrt hbk=>?_) (fun ρ hI=>?_) ⟨a2,s2,_,_,_,_,ha2,hs2,hs22,rfl⟩
 ·obtain ⟨a,s,o7,o8,o9,o10,ha,hs,hs2,rfl⟩:=hI
  simp! [u_19_b1,box]
  refine zfQ (by lia) fun a s ha hs hs2=>?_
  simp! [box]
  refine zc1 (m:=6) ha hs hs2 hB6 (by lia) (by decide) (by decide) hT.m fun T1 a3 s3 hT1 hT1m ha3 hs3 hs23=>?_
  simp! [box]
  refine zah ha3 hs3 hs23 (by decide) (by decide) fun r4 a4 s4 hr4 hr42 ha4 hs4 hs24=>?_
  simp! [box]
  generalize hD:wNx D2 _=D4
  have rest:∀ (T1:List Sp) (a4 s4:Int),T1.length<=100->0<=a4->1<=s4->s4<=2147483629->D4.nx [some (.sh (.lst (ns.map .int))),some (box a4 s4),some (.sh (.str c.col)),some (.sh (boardD c.B)),some (.sh (.str c.w)),some (.sh (tupN c.l)),some (.sh (spT T)),some (.sh (.int (k:Int))),some (.sh (spT T1)),o9,o10]:=fun T1 a4 s4 hT1n ha4 hs4 hs24=>by
   rw [<- hD]
   obtain ⟨c0,_,_,e0⟩:=zdh (l:=c.col) (z:=0) (by decide) (by have:=hc.c; lia)
   obtain ⟨c1,_,_,e1⟩:=zdD hc.c
   have hc24:=zaN T1 none (some 24)
   simp! [box,spT,cutT,length_map]
   refine zah ha4 hs4 hs24 (by lia) (by lia) fun r5 a5 s5 hr5 hr52 ha5 hs5 hs25=>?_
   simp! [box,e0,e1]
   refine zah ha5 hs5 hs25 (by decide) (by decide) fun r6 a6 s6 hr6 hr62 ha6 hs6 hs26=>?_
   obtain ⟨g,hg,_,eg⟩:=zaG (f:=fun x=>S.sh (.str x)) (l:=[[c0],[c1],[]]) hr6 hr62
   have hgl:g.length<=1:=by
    simp only [mem_cons,not_mem_nil,or_false] at hg
    rcases hg with rfl | rfl | rfl <;> simp
   have eg':atI [S.sh (.str [c0]),S.sh (.str [c1]),S.sh (.str [])] r6=some (.sh (.str g)):=eg
   have hq1:=zaN c.w none (some r5)
   simp! [box,eg']
   refine zah ha6 hs6 hs26 (by decide) (by decide) fun r7 a7 s7 hr7 hr72 ha7 hs7 hs27=>?_
   have hq2:=zaN c.w (some (r5 + r7)) none
   simp! [box,length_append]
   refine zb5 (T:=cutL T1 none (some 24)) hf (by lia) ?_
   simp! [e_C]
   refine zb5 (T:=T) (w:=cutL (cutL c.w none (some r5)++g++cutL c.w (some (r5 + r7)) none) none (some 12)) ⟨hf.nd,hf.ne,hf.le,hf.six,?_⟩ (by lia) ?_
   ·exact cut12 _
   simp! [boardD,length_map]
   rw [<- List.map_reverse]
   refine ⟨by simp only [zam]; lia,?_⟩
   refine zb5 (B:=c.B.reverse) (T:=cutL T1 none (some 24)) (zkq hf) (by lia) ?_
   simp! [e_C]
   exact hnx _ ⟨a7,s7,_,_,_,_,ha7,hs7,hs27,rfl⟩
  cases q4:decide (r4=0)
  ·simp! [e_C]
   exact rest T1 a4 s4 (by lia) ha4 hs4 hs24
  ·simp! [e_C]
   refine zc1 (m:=7) ha4 hs4 hs24 hB6 (by lia) (by decide) (by decide) hT1m fun T1 a4 s4 hT1 hT1m ha4 hs4 hs24=>?_
   simp! [e_C]
   exact rest T1 a4 s4 (by lia) ha4 hs4 hs24
 ·obtain ⟨a,s,o7,o8,o9,o10,ha,hs,hs2,rfl⟩:=hI
  simp! [e_C]
  refine zcc hf (by lia) ?_
  rw [hlb]
  simp! [show cIs (.bl true) (.bl true)=some true by simp [cIs]]
end pu
end Law
end
section
set_option maxHeartbeats 4000000
namespace Law
open PySem PySem.Spec PyProof.Rows L2 FL
local macro_rules
 | `(tactic| trivial)=>`(tactic| first | exact Or.inl rfl | exact Or.inr rfl)
def top (i:Nat):Stmt:=PySem.Challenge.pw_walktold_k32_steps_looked_at.main.body.getD i (.Pass ⟨0,0,0,0⟩)
abbrev s_0:Stmt:=top 1
def n_0:List Str:=["board","word"]
abbrev p_0:List Str:=["board","word"]
theorem sc_0:FnScope n_0 p_0 (defScope s_0):=⟨rfl,rfl,rfl,by decide +kernel,rfl,by decide +kernel,by decide +kernel⟩
abbrev s_1:Stmt:=top 3
def n_1:List Str:=["board","word","steps","goes","i","j","k","place","way","number"]
abbrev p_1:List Str:=["board","word","steps"]
theorem sc_1:FnScope n_1 p_1 (defScope s_1):=⟨rfl,rfl,rfl,by decide +kernel,rfl,by decide +kernel,by decide +kernel⟩
abbrev s_2:Stmt:=top 5
def n_2:List Str:=["_law_script","_law_k","_law_cell","_law_seed"]
abbrev p_2:List Str:=["_law_script","_law_k"]
theorem sc_2:FnScope n_2 p_2 (defScope s_2):=⟨rfl,rfl,rfl,by decide +kernel,rfl,by decide +kernel,by decide +kernel⟩
abbrev s_3:Stmt:=top 6
def n_3:List Str:=["_law_box_here","_law_many","_law_digit","_law_one"]
abbrev p_3:List Str:=["_law_box_here","_law_many"]
theorem sc_3:FnScope n_3 p_3 (defScope s_3):=⟨rfl,rfl,rfl,by decide +kernel,rfl,by decide +kernel,by decide +kernel⟩
abbrev s_4:Stmt:=top 7
def n_4:List Str:=["_law_box_here","_law_many","_law_left"]
abbrev p_4:List Str:=["_law_box_here","_law_many"]
theorem sc_4:FnScope n_4 p_4 (defScope s_4):=⟨rfl,rfl,rfl,by decide +kernel,rfl,by decide +kernel,by decide +kernel⟩
abbrev s_5:Stmt:=top 8
def n_5:List Str:=["_law_box_here","_law_colours_here","_law_most","_law_many"]
abbrev p_5:List Str:=["_law_box_here","_law_colours_here","_law_most"]
theorem sc_5:FnScope n_5 p_5 (defScope s_5):=⟨rfl,rfl,rfl,by decide +kernel,rfl,by decide +kernel,by decide +kernel⟩
abbrev s_6:Stmt:=top 9
def n_6:List Str:=["_law_box_here","_law_colours_here","_law_board_here","_law_one","_law_kind","_law_colour","_law_at"]
abbrev p_6:List Str:=["_law_box_here","_law_colours_here","_law_board_here"]
theorem sc_6:FnScope n_6 p_6 (defScope s_6):=⟨rfl,rfl,rfl,by decide +kernel,rfl,by decide +kernel,by decide +kernel⟩
abbrev s_7:Stmt:=top 10
def n_7:List Str:=["_law_box_here","_law_colours_here","_law_many","_law_most","_law_found","_law_k","_law_word_here"]
abbrev p_7:List Str:=["_law_box_here","_law_colours_here","_law_many","_law_most"]
theorem sc_7:FnScope n_7 p_7 (defScope s_7):=⟨rfl,rfl,rfl,by decide +kernel,rfl,by decide +kernel,by decide +kernel⟩
abbrev s_8:Stmt:=top 11
def n_8:List Str:=["_law_board_here","_law_text","_law_p","_law_most","_law_found","_law_one"]
abbrev p_8:List Str:=["_law_board_here","_law_text","_law_p","_law_most"]
theorem sc_8:FnScope n_8 p_8 (defScope s_8):=⟨rfl,rfl,rfl,by decide +kernel,rfl,by decide +kernel,by decide +kernel⟩
abbrev s_9:Stmt:=top 12
def n_9:List Str:=["_law_box_here","_law_board_here","_law_colours_here","_law_most","_law_text","_law_p","_law_turn","_law_some","_law_one","_law_goal","_law_at"]
abbrev p_9:List Str:=["_law_box_here","_law_board_here","_law_colours_here","_law_most"]
theorem sc_9:FnScope n_9 p_9 (defScope s_9):=⟨rfl,rfl,rfl,by decide +kernel,rfl,by decide +kernel,by decide +kernel⟩
abbrev s_10:Stmt:=top 13
def n_10:List Str:=["_law_board_here","_law_word_here","_law_found","_law_i","_law_j"]
abbrev p_10:List Str:=["_law_board_here","_law_word_here"]
theorem sc_10:FnScope n_10 p_10 (defScope s_10):=⟨rfl,rfl,rfl,by decide +kernel,rfl,by decide +kernel,by decide +kernel⟩
abbrev s_11:Stmt:=top 14
def n_11:List Str:=["_law_ties_here","_law_p","_law_steps_here","_law_here","_law_one","_law_q","_law_found"]
abbrev p_11:List Str:=["_law_ties_here","_law_p"]
theorem sc_11:FnScope n_11 p_11 (defScope s_11):=⟨rfl,rfl,rfl,by decide +kernel,rfl,by decide +kernel,by decide +kernel⟩
abbrev s_12:Stmt:=top 15
def n_12:List Str:=["_law_box_here","_law_ties_here","_law_found","_law_turn","_law_more"]
abbrev p_12:List Str:=["_law_box_here","_law_ties_here"]
theorem sc_12:FnScope n_12 p_12 (defScope s_12):=⟨rfl,rfl,rfl,by decide +kernel,rfl,by decide +kernel,by decide +kernel⟩
abbrev s_13:Stmt:=top 16
def n_13:List Str:=["_law_box_here","_law_colours_here","_law_board_here","_law_word_here","_law_places"]
abbrev p_13:List Str:=["_law_box_here"]
theorem sc_13:FnScope n_13 p_13 (defScope s_13):=⟨rfl,rfl,rfl,by decide +kernel,rfl,by decide +kernel,by decide +kernel⟩
abbrev s_14:Stmt:=top 17
def n_14:List Str:=["_law_board_here","_law_word_here","_law_places","_law_found","_law_k","_law_ends","_law_number"]
abbrev p_14:List Str:=["_law_board_here","_law_word_here","_law_places"]
theorem sc_14:FnScope n_14 p_14 (defScope s_14):=⟨rfl,rfl,rfl,by decide +kernel,rfl,by decide +kernel,by decide +kernel⟩
abbrev s_15:Stmt:=top 18
def n_15:List Str:=["_law_board_here","_law_word_here","_law_steps_here","_law_p","_law_way_here","_law_k","_law_one","_law_goal"]
abbrev p_15:List Str:=["_law_board_here","_law_word_here","_law_steps_here"]
theorem sc_15:FnScope n_15 p_15 (defScope s_15):=⟨rfl,rfl,rfl,by decide +kernel,rfl,by decide +kernel,by decide +kernel⟩
abbrev s_16:Stmt:=top 19
def n_16:List Str:=["_law_box_here","_law_board_here","_law_steps_here","_law_at","_law_beyond","_law_fresh","_law_form","_law_way_here","_law_k"]
abbrev p_16:List Str:=["_law_box_here","_law_board_here","_law_steps_here"]
theorem sc_16:FnScope n_16 p_16 (defScope s_16):=⟨rfl,rfl,rfl,by decide +kernel,rfl,by decide +kernel,by decide +kernel⟩
abbrev s_17:Stmt:=top 20
def n_17:List Str:=["_law_board_here","_law_word_here","_law_steps_here","_law_found"]
abbrev p_17:List Str:=["_law_board_here","_law_word_here","_law_steps_here"]
theorem sc_17:FnScope n_17 p_17 (defScope s_17):=⟨rfl,rfl,rfl,by decide +kernel,rfl,by decide +kernel,by decide +kernel⟩
abbrev s_18:Stmt:=top 21
def n_18:List Str:=["_law_steps_here","_law_many"]
abbrev p_18:List Str:=["_law_steps_here","_law_many"]
theorem sc_18:FnScope n_18 p_18 (defScope s_18):=⟨rfl,rfl,rfl,by decide +kernel,rfl,by decide +kernel,by decide +kernel⟩
abbrev s_19:Stmt:=top 22
def n_19:List Str:=["_law_script","_law_box_here","_law_colours_here","_law_board_here","_law_word_here","_law_places","_law_steps_here","_law_k","_law_some","_law_at","_law_other"]
abbrev p_19:List Str:=["_law_script"]
theorem sc_19:FnScope n_19 p_19 (defScope s_19):=⟨rfl,rfl,rfl,by decide +kernel,rfl,by decide +kernel,by decide +kernel⟩
structure Txt (K:W.Frag) (mg:Str->Option Value) (af:Nat->Addr):Prop where
 t_0:Tx K mg (af 0) "stretches" s_0 p_0
 t_1:Tx K mg (af 1) "let_by" s_1 p_1
 t_2:Tx K mg (af 2) "_law_box" s_2 p_2
 t_3:Tx K mg (af 3) "_law_take" s_3 p_3
 t_4:Tx K mg (af 4) "_law_colours" s_4 p_4
 t_5:Tx K mg (af 5) "_law_word" s_5 p_5
 t_6:Tx K mg (af 6) "_law_near" s_6 p_6
 t_7:Tx K mg (af 7) "_law_board" s_7 p_7
 t_8:Tx K mg (af 8) "_law_moves" s_8 p_8
 t_9:Tx K mg (af 9) "_law_led" s_9 p_9
 t_10:Tx K mg (af 10) "_law_ties" s_10 p_10
 t_11:Tx K mg (af 11) "_law_way" s_11 p_11
 t_12:Tx K mg (af 12) "_law_zigzag" s_12 p_12
 t_13:Tx K mg (af 13) "_law_scene" s_13 p_13
 t_14:Tx K mg (af 14) "_law_steps" s_14 p_14
 t_15:Tx K mg (af 15) "_law_is_steps" s_15 p_15
 t_16:Tx K mg (af 16) "_law_spoilt" s_16 p_16
 t_17:Tx K mg (af 17) "_law_right" s_17 p_17
 t_18:Tx K mg (af 18) "_law_longer" s_18 p_18
 t_19:Tx K mg (af 19) "law" s_19 p_19
 n_bool:mg "bool"=none
 n_enumerate:mg "enumerate"=none
 n_int:mg "int"=none
 n_isinstance:mg "isinstance"=none
 n_len:mg "len"=none
 n_list:mg "list"=none
 n_max:mg "max"=none
 n_min:mg "min"=none
 n_range:mg "range"=none
 n_reversed:mg "reversed"=none
 n_sorted:mg "sorted"=none
 n_tuple:mg "tuple"=none
section
variable {P:Program} {w:World} {K:W.Frag} {mg:Str->Option Value} {base:Heap} {af:Nat->Addr}
theorem ok_0 (T:Txt K mg af):FnOk P w K mg base CX0 1 (af 0) (dO K (af 0)) p_0 (spW K w_0 2):=by
 refine fn_w (k:=0) T.t_0.F sc_0 rfl rfl fun cdv A outer s H E hr=>?_
 exact zae (zar (zdN (by rfl) T.n_sorted zbE (zaa (zmV (vars:=["i","k","one"]) rfl (zir hr) (by rfl) (compSc (by kernel_rfl)) rfl (zaH (by rfl) T.n_range (zak (by rfl) T.n_len (zaa (fw 1) zab))) (fun _ _ _=>gcm 3) (fun _ _ _=>zby) (fun _ _ _=>zlE (by rfl) (by rfl) T.n_enumerate zey (fw 0)) (fun _ _ _=>zck (by rfl) (zas (gcm 4) (zas (gcm 5) zba))) (fun _ _ _=>ze1 rfl (zal (fun _ _=>zaz (u31 hr)) zau (zbD (fw 1) (fw 3) (zai (fw 3) (zak (by rfl) T.n_len (zaa (fw 5) zab)))) (fw 5) (nomark _))) (fun _ _ _=>zaw (zaa (fw 3) (zaa (zai (fw 3) (zak (by rfl) T.n_len (zaa (fw 5) zab))) (zaa (fw 4) zab))))) zab)))
theorem ok_2 (T:Txt K mg af):FnOk P w K mg base CX0 1 (af 2) (dO K (af 2)) p_2 (spW K w_2 2):=by
 refine fn_w (k:=0) T.t_2.F sc_2 rfl rfl fun cdv A outer s H E hr=>?_
 exact zac (zag (zai (zaV zad (fw 1)) zad) (gnm 2 sc_2.nd))
  (zac (zaD (zal (fun _ _=>zcG) zbu (fw 1) (zak (by rfl) T.n_len (zaa (fw 0) zab)) (nomark _)) (zae (zag (zaq (fw 0) (fw 1)) (gnm 2 sc_2.nd))) (zae (zaD (zal (fun _ _=>zdd) zcd (zak (by rfl) T.n_len (zaa (fw 0) zab)) zad (nomark _)) (zae (zag (zai (fw 2) (zaV (zcl (zaq (fw 0) (zcl (fw 1) (zak (by rfl) T.n_len (zaa (fw 0) zab)))) zad) zad)) (gnm 2 sc_2.nd))) zan)))
  (zac (zag (zai (zcl (zai (zaV (zcl (fw 2) zad) zad) (zaV zad (fw 1))) zad) zad) (gnm 3 sc_2.nd))
  (zae (zar (zaB (zaa (zaq (zaB (zaa zad (zaa (fw 2) zab))) (zb8 (by rfl) T.n_int zdl (zaa (zbe (fun _ _=>zhq) zfj (fw 2) (znn zad zad) (nomark _)) zab))) (zaa (fw 3) zab)))))))
theorem ok_3 (T:Txt K mg af):FnOk P w K mg base CX0 1 (af 3) (dO K (af 3)) p_3 (spW K w_3 2):=by
 refine fn_w (k:=0) T.t_3.F sc_3 rfl rfl fun cdv A outer s H E hr=>?_
 exact zac (zaD (zal (fun _ _=>zdd) zcd (zaq (fw 0) zad) zad (nomark _)) (zac (zag (zcl (zaq (fw 0) zad) (fw 1)) (gnm 2 sc_3.nd))
  (zac (zfI (j:=0) (fw 0) zad (ziJ (zaq (fw 0) zad) (fw 1)))
  (zae (zar (fw 2))))) zan)
  (zac (zag (zcl (zaV (zaq (fw 0) zad) zad) zad) (gnm 3 sc_3.nd))
  (zac (zfI (j:=0) (fw 0) zad (zai (zcl (zai (zaV (fw 3) zad) zad) zad) zad))
  (zae (zar (zcl (ziJ (zai (zaV (fw 3) zad) (zaq (fw 0) zad)) zad) (fw 1))))))
theorem ok_8 (T:Txt K mg af):FnOk P w K mg base CX0 1 (af 8) (dO K (af 8)) p_8 (spW K w_8 4):=by
 refine fn_w (k:=0) T.t_8.F sc_8 rfl rfl fun cdv A outer s H E hr=>?_
 exact zac (zag (zaB zab) (gnm 4 sc_8.nd))
  (zac (za9 (by rfl) (zbS (fw 0)) (gnm 5 sc_8.nd) (zac (zaD (zeQ (zec (zal (fun _ _=>zaz (u31 hr)) zau (zbD (fw 1) (fw 2) (zai (fw 2) (zak (by rfl) T.n_len (zaa (fw 5) zab)))) (za8 (fw 5) (zaZ (zak (by rfl) T.n_len (zaa (fw 1) zab)) (fw 2))) (nomark _)) (zcD (zal (fun _ _=>zl8) zk3 (zai (fw 2) (zak (by rfl) T.n_len (zaa (fw 5) zab))) (fw 3) (nomark _))))) (zae (zbi (za0 (j:=4) (fw 4) (zaw (zaa (fw 5) (zaa (zai (fw 2) (zak (by rfl) T.n_len (zaa (fw 5) zab))) zab)))))) zan)
  (zae (zaD (zeQ (zec (zal (fun _ _=>zhq) zfj (fw 2) (zak (by rfl) T.n_len (zaa (fw 5) zab)) (nomark _)) (zcD (zal (fun _ _=>zaz (u31 hr)) zau (zbD (fw 1) (zaZ (fw 2) (zak (by rfl) T.n_len (zaa (fw 5) zab))) (fw 2)) (fw 5) (nomark _))))) (zae (zbi (za0 (j:=4) (fw 4) (zaw (zaa (fw 5) (zaa (zaZ (fw 2) (zak (by rfl) T.n_len (zaa (fw 5) zab))) zab)))))) zan))))
  (zae (zar (fw 4))))
theorem ok_10 (T:Txt K mg af):FnOk P w K mg base CX0 1 (af 10) (dO K (af 10)) p_10 (spW K w_10 2):=by
 refine fn_w (k:=0) T.t_10.F sc_10 rfl rfl fun cdv A outer s H E hr=>?_
 exact zac (zeC (i:=2) (by decide) (fun j hj=>zdJ sc_10.nd hj rfl) rfl (by rfl) (by rfl) (vars:=["_law_p"]) rfl (by rfl) (compSc (by kernel_rfl)) rfl (zaH (by rfl) T.n_range (zai (zak (by rfl) T.n_len (zaa (fw 1) zab)) zad)) (fun _ _ _=>gcm 6) (fun _ _ _=>zby) (fun _ _ _=>zaB zab))
  (zac (za9 (by rfl) (zaH (by rfl) T.n_range (zak (by rfl) T.n_len (zaa (fw 1) zab))) (gnm 3 sc_10.nd) (zae (za9 (by rfl) (zcJ (by rfl) T.n_range (zai (fw 3) zad) (zai (zak (by rfl) T.n_len (zaa (fw 1) zab)) zad)) (gnm 4 sc_10.nd) (zae (zaD (zal (fun _ _=>zmI (u32 hr)) zjG (zbD (fw 1) (fw 3) (fw 4)) (fw 0) (by with_unfolding_all rfl)) (zac (zbi (zc0 (j:=2) (fw 2) (fw 3) (fw 4)))
  (zae (zbi (zc0 (j:=2) (fw 2) (fw 4) (fw 3))))) zan)))))
  (zae (zar (zds (vars:=["_law_some"]) rfl (by rfl) (compSc (by kernel_rfl)) rfl (zbS (fw 2)) (fun _ _ _=>gcm 6) (fun _ _ _=>zby) (fun _ _ _=>zaE (zdN (by rfl) T.n_sorted zbE (zaa (fw 6) zab)))))))
theorem ok_11 (T:Txt K mg af):FnOk P w K mg base CX0 1 (af 11) (dO K (af 11)) p_11 (spW K w_11 2):=by
 refine fn_w (k:=0) T.t_11.F sc_11 rfl rfl fun cdv A outer s H E hr=>?_
 exact zac (zag (ziY (zaZ (zak (by rfl) T.n_len (zaa (fw 0) zab)) zad) zad) (gnm 2 sc_11.nd))
  (zac (zag (zaB (zaa (zaZ (zak (by rfl) T.n_len (zaa (fw 0) zab)) zad) zab)) (gnm 3 sc_11.nd))
  (zac (zdC (zal (fun _ _=>zb1 (u32 hr)) za3 (fw 3) (zaB zab) (nomark _)) (zac (zag (zaE (zfX (j:=3) (fw 3) zad)) (gnm 4 sc_11.nd))
  (zae (za9 (by rfl) (zbS (zaq (fw 0) (fw 4))) (gnm 5 sc_11.nd) (zae (zaD (zal (fun _ _=>zbH (u32 hr)) za6 (fw 5) (fw 2) (by with_unfolding_all rfl)) (zac (zfo (j:=2) (zfy hr) (fw 2) (fw 5) (zai (zhw (zfy hr) (fw 2) (fw 4)) zad))
  (zae (zbi (za0 (j:=3) (fw 3) (fw 5))))) zan))))))
  (zac (zaD (zal (fun _ _=>zbH (u32 hr)) za6 (fw 1) (fw 2) (by with_unfolding_all rfl)) (zae (zar (zaw zab))) zan)
  (zac (zag (zaB (zaa (fw 1) zab)) (gnm 6 sc_11.nd))
  (zac (zdC (zal (fun _ _=>zb1 (u32 hr)) za3 (zaq (fw 6) (zbt zad)) (zaZ (zak (by rfl) T.n_len (zaa (fw 0) zab)) zad) (nomark _)) (zae (zbi (za0 (j:=6) (fw 6) (zaE (zlj (by rfl) (by rfl) T.n_min zj6 (zaa (zds (vars:=["_law_q"]) rfl (by rfl) (compSc (by kernel_rfl)) rfl (zbS (zaq (fw 0) (zaq (fw 6) (zbt zad)))) (fun _ _ _=>gcm 8) (fun _ _ _=>ze1 rfl (zal (fun _ _=>zaz (u31 hr)) zau (zhw (zfy hr) (fw 2) (fw 8)) (zaZ (zhw (zfy hr) (fw 2) (zaq (fw 6) (zbt zad))) zad) (nomark _))) (fun _ _ _=>fw 8)) zab)))))))
  (zae (zar (zcO (by rfl) T.n_tuple zco (zaa (fw 6) zab)))))))))
theorem ok_14 (T:Txt K mg af):FnOk P w K mg base CX0 1 (af 14) (dO K (af 14)) p_14 (spW K w_14 3):=by
 refine fn_w (k:=0) T.t_14.F sc_14 rfl rfl fun cdv A outer s H E hr=>?_
 exact zac (zag (zaB zab) (gnm 3 sc_14.nd))
  (zac (za9 (by rfl) (zcJ (by rfl) T.n_range zad (zak (by rfl) T.n_len (zaa (fw 2) zab))) (gnm 4 sc_14.nd) (zac (zag (zaE (zjB (by rfl) T.n_sorted zbE (zaa (zbD (fw 2) (zaZ (fw 4) zad) (zai (fw 4) zad)) zab))) (gnm 5 sc_14.nd))
  (zac (zag (zhX (zaE (zds (vars:=["_law_one"]) rfl (by rfl) (compSc (by kernel_rfl)) rfl (zbS (fw 0)) (fun _ _ _=>gcm 8) (fun _ _ _=>zby) (fun _ _ _=>zbe (fun _ _=>zaz (u31 hr)) zau (fw 8) (zbD (fw 1) (zaq (fw 5) zad) (zaq (fw 5) zad)) (nomark _)))) (zaa zdX zab)) (gnm 6 sc_14.nd))
  (zae (zbi (za0 (j:=3) (fw 3) (zaw (zaa (zaq (zaB (zaa (zat (by rfl) (by decide)) (zaa (zat (by rfl) (by decide)) zab))) (zb8 (by rfl) T.n_int zdl (zaa (zbe (fun _ _=>zcG) zbu (zaq (fw 2) (zaZ (fw 4) zad)) (zaq (fw 2) (fw 4)) (nomark _)) zab))) (zaa (fw 6) zab)))))))))
  (zae (zar (zcO (by rfl) T.n_tuple zco (zaa (fw 3) zab)))))
theorem ok_15 (T:Txt K mg af):FnOk P w K mg base CX0 1 (af 15) (dO K (af 15)) p_15 (spW K w_15 3):=by
 refine fn_w (k:=0) T.t_15.F sc_15 rfl rfl fun cdv A outer s H E hr=>?_
 exact zac (zag zad (gnm 3 sc_15.nd))
  (zac (za9 (by rfl) (zbS (fw 2)) (zck (by rfl) (zas (gnm 4 sc_15.nd) (zas (gnm 5 sc_15.nd) zba))) (zac (zaD (zeQ (zg5 (zal (fun _ _=>zbH (u32 hr)) za6 (fw 4) (zaw (zaa (zat (by rfl) (by decide)) (zaa (zat (by rfl) (by decide)) zab))) (by with_unfolding_all rfl)) (zg5 (zal (fun _ _=>zcG) zbu (fw 5) zad (nomark _)) (zid (zal (fun _ _=>zhq) zfj (fw 5) (zak (by rfl) T.n_len (zaa (fw 0) zab)) (nomark _)))))) (zae (zar zdX)) zan)
  (zac (zag (zaq (fw 0) (fw 5)) (gnm 6 sc_15.nd))
  (zac (zag (zai (fw 3) (zaV (zak (by rfl) T.n_len (zaa (fw 6) zab)) (zaq (zaB (zaa (zbt zad) (zaa zad zab))) (zb8 (by rfl) T.n_int zdl (zaa (zbe (fun _ _=>zaz (u31 hr)) zau (fw 4) (zat (by rfl) (by decide)) (nomark _)) zab))))) (gnm 7 sc_15.nd))
  (zac (zaD (zeQ (zg5 (zal (fun _ _=>zcG) zbu (fw 7) zad (nomark _)) (zg5 (zal (fun _ _=>zdd) zcd (fw 7) (zak (by rfl) T.n_len (zaa (fw 1) zab)) (nomark _)) (zid (zal (fun _ _=>zb1 (u32 hr)) za3 (zbD (fw 1) (zl9 (by rfl) (by rfl) T.n_min zj6 (zaa (fw 3) (zaa (fw 7) zab))) (zmF (by rfl) (by rfl) T.n_max znF (zaa (fw 3) (zaa (fw 7) zab)))) (fw 6) (nomark _)))))) (zae (zar zdX)) zan)
  (zae (zag (fw 7) (gnm 3 sc_15.nd))))))))
  (zae (zar (zbe (fun _ _=>zaz (u31 hr)) zau (fw 3) (zak (by rfl) T.n_len (zaa (fw 1) zab)) (nomark _)))))
theorem ok_18 (T:Txt K mg af):FnOk P w K mg base CX0 1 (af 18) (dO K (af 18)) p_18 (spW K w_18 2):=by
 refine fn_w (k:=0) T.t_18.F sc_18 rfl rfl fun cdv A outer s H E hr=>?_
 exact zac (zdC (zjt (fun _ _=>zcG) zbu (fun _ _=>zcG) zbu zad (zak (by rfl) T.n_len (zaa (fw 0) zab)) (zaZ (fw 1) zad)) (zae (zag (zai (zaw (zaa (zaw (zaa (zat (by rfl) (by decide)) (zaa (zaq (zaq (fw 0) zad) zad) zab))) (zaa (zaw (zaa (zat (by rfl) (by decide)) (zaa (zaq (zaq (fw 0) zad) zad) zab))) zab))) (fw 0)) (gnm 0 sc_18.nd))))
  (zae (zar (fw 0)))
theorem ok_1 (T:Txt K mg af):FnOk P w K mg base CX0 2 (af 1) (dO K (af 1)) p_1 (spW K w_1 3):=by
 refine fn_w (k:=1) T.t_1.F sc_1 rfl rfl fun cdv A outer s H E hr=>?_
 exact zac (zag zi8 (gnm 3 sc_1.nd))
  (zac (za9 (by rfl) (zbS (fcl [true,true] T.t_0 (ok_0 T) hr (zaa (fw 0) (zaa (fw 1) zab)))) (zck (by rfl) (zas (gnm 4 sc_1.nd) (zas (gnm 5 sc_1.nd) (zas (gnm 6 sc_1.nd) zba)))) (zac (zfo (j:=3) (zfy hr) (fw 3) (zaw (zaa (fw 4) (zaa (zat (by rfl) (by decide)) (zaa (fw 6) zab)))) (fw 5))
  (zae (zfo (j:=3) (zfy hr) (fw 3) (zaw (zaa (fw 5) (zaa (zat (by rfl) (by decide)) (zaa (fw 6) zab)))) (fw 4)))))
  (zac (zag zad (gnm 7 sc_1.nd))
  (zac (za9 (by rfl) (zbS (fw 2)) (zck (by rfl) (zas (gnm 8 sc_1.nd) (zas (gnm 9 sc_1.nd) zba))) (zac (zag (zlx (zfy hr) (fw 3) (zaw (zaa (fw 7) (zaa (fw 8) (zaa (fw 9) zab)))) ⟨rfl,rfl,rfl,rfl⟩) (gnm 7 sc_1.nd))
  (zae (zaD (zal (fun _ _=>zj9) ziG (fw 7) zlS (nomark _)) (zae (zar zdX)) zan))))
  (zae (zar (zbe (fun _ _=>zaz (u31 hr)) zau (fw 7) (zak (by rfl) T.n_len (zaa (fw 1) zab)) (nomark _)))))))
theorem ok_4 (T:Txt K mg af):FnOk P w K mg base CX0 2 (af 4) (dO K (af 4)) p_4 (spW K w_4 2):=by
 refine fn_w (k:=1) T.t_4.F sc_4 rfl rfl fun cdv A outer s H E hr=>?_
 exact zac (zag (zi7 (by rfl) (by rfl) T.n_list zkN (zaa (zat (by rfl) (by decide)) zab)) (gnm 2 sc_4.nd))
  (zae (zar (zfi (zat (by rfl) (by decide)) (zaa (zdN (by rfl) T.n_sorted zbE (zaa (zds (vars:=["_law_k"]) rfl (by rfl) (compSc (by kernel_rfl)) rfl (zaH (by rfl) T.n_range (fw 1)) (fun _ _ _=>gcm 4) (fun _ _ _=>zby) (fun _ _ _=>zaE (zfX (j:=2) (fw 2) (fcl [true,true] T.t_3 (ok_3 T) hr (zaa (fw 0) (zaa (zak (by rfl) T.n_len (zaa (fw 2) zab)) zab)))))) zab)) zab))))
theorem ok_5 (T:Txt K mg af):FnOk P w K mg base CX0 2 (af 5) (dO K (af 5)) p_5 (spW K w_5 3):=by
 refine fn_w (k:=1) T.t_5.F sc_5 rfl rfl fun cdv A outer s H E hr=>?_
 exact zac (zag (zaV (fcl [true,true] T.t_3 (ok_3 T) hr (zaa (fw 0) (zaa (zai (fw 2) zad) zab))) (zb8 (by rfl) T.n_int zdl (zaa (zbe (fun _ _=>zb1 (u32 hr)) za3 (fw 1) (zat (by rfl) (by decide)) (nomark _)) zab))) (gnm 3 sc_5.nd))
  (zae (zar (zfi (zat (by rfl) (by decide)) (zaa (zds (vars:=["_law_k"]) rfl (by rfl) (compSc (by kernel_rfl)) rfl (zaH (by rfl) T.n_range (fw 3)) (fun _ _ _=>gcm 5) (fun _ _ _=>zby) (fun _ _ _=>zaq (fw 1) (fcl [true,true] T.t_3 (ok_3 T) hr (zaa (fw 0) (zaa (zak (by rfl) T.n_len (zaa (fw 1) zab)) zab))))) zab))))
theorem ok_6 (T:Txt K mg af):FnOk P w K mg base CX0 2 (af 6) (dO K (af 6)) p_6 (spW K w_6 3):=by
 refine fn_w (k:=1) T.t_6.F sc_6 rfl rfl fun cdv A outer s H E hr=>?_
 exact zac (zag (zaq (fw 2) (fcl [true,true] T.t_3 (ok_3 T) hr (zaa (fw 0) (zaa (zak (by rfl) T.n_len (zaa (fw 2) zab)) zab)))) (gnm 3 sc_6.nd))
  (zac (zag (fcl [true,true] T.t_3 (ok_3 T) hr (zaa (fw 0) (zaa zad zab))) (gnm 4 sc_6.nd))
  (zac (zag (zaq (fw 1) (fcl [true,true] T.t_3 (ok_3 T) hr (zaa (fw 0) (zaa (zak (by rfl) T.n_len (zaa (fw 1) zab)) zab)))) (gnm 5 sc_6.nd))
  (zac (zag (fcl [true,true] T.t_3 (ok_3 T) hr (zaa (fw 0) (zaa (zak (by rfl) T.n_len (zaa (fw 3) zab)) zab))) (gnm 6 sc_6.nd))
  (zae (zar (zaq (zaB (zaa (za8 (fw 3) (zai (fw 6) zad)) (zaa (zbR (fw 3) (fw 6)) (zaa (zai (fw 5) (fw 3)) (zaa (zai (fw 3) (fw 5)) (zaa (zai (fw 3) (fw 3)) zab)))))) (fw 4)))))))
theorem ok_9 (T:Txt K mg af):FnOk P w K mg base CX0 2 (af 9) (dO K (af 9)) p_9 (spW K w_9 4):=by
 refine fn_w (k:=1) T.t_9.F sc_9 rfl rfl fun cdv A outer s H E hr=>?_
 exact zac (zag (zaw (zaa (zat (by rfl) (by decide)) (zaa zad zab))) (zck (by rfl) (zas (gnm 4 sc_9.nd) (zas (gnm 5 sc_9.nd) zba))))
  (zac (za9 (by rfl) (zaH (by rfl) T.n_range (zai zad (fcl [true,true] T.t_3 (ok_3 T) hr (zaa (fw 0) (zaa zad zab))))) (gnm 6 sc_9.nd) (zac (zag (zaE (fcl [true,true,true,true] T.t_8 (ok_8 T) hr (zaa (fw 1) (zaa (fw 4) (zaa (fw 5) (zaa (fw 3) zab)))))) (gnm 7 sc_9.nd))
  (zac (zaD (zal (fun _ _=>zdd) zcd (fw 6) zad (nomark _)) (zae (zoJ (zeC (i:=7) (by decide) (fun j hj=>zdJ sc_9.nd hj rfl) rfl (by rfl) (by rfl) (vars:=["_law_move"]) rfl (by rfl) (compSc (by kernel_rfl)) rfl (zbS (fw 7)) (fun _ _ _=>gcm 12) (fun _ _ _=>ze1 rfl (zal (fun _ _=>zdd) zcd (zaq (fw 12) zad) (fw 5) (nomark _))) (fun _ _ _=>fw 12)))) zan)
  (zae (zaD (zal (fun _ _=>zb1 (u32 hr)) za3 (fw 7) (zaB zab) (nomark _)) (zac (zag (zaq (fw 7) (fcl [true,true] T.t_3 (ok_3 T) hr (zaa (fw 0) (zaa (zak (by rfl) T.n_len (zaa (fw 7) zab)) zab)))) (zck (by rfl) (zas (gnm 8 sc_9.nd) (zas (gnm 9 sc_9.nd) zba))))
  (zac (zaD (zal (fun _ _=>zdd) zcd (fw 9) (fw 5) (nomark _)) (zae (zag (zai (zai (za8 (fw 4) (fw 5)) (fw 8)) (zbR (fw 4) (fw 9))) (gnm 4 sc_9.nd))) zan)
  (zae (zag (fw 9) (gnm 5 sc_9.nd))))) zan)))))
  (zac (zaD (zeQ (zec (zal (fun _ _=>zb1 (u32 hr)) za3 (fw 4) (zat (by rfl) (by decide)) (nomark _)) (zcD (zal (fun _ _=>zaz (u31 hr)) zau (fcl [true,true] T.t_3 (ok_3 T) hr (zaa (fw 0) (zaa zad zab))) zad (nomark _))))) (zac (zag (fcl [true,true] T.t_3 (ok_3 T) hr (zaa (fw 0) (zaa (zak (by rfl) T.n_len (zaa (fw 4) zab)) zab))) (gnm 10 sc_9.nd))
  (zae (zag (zai (zai (za8 (fw 4) (fw 10)) (zaq (fw 2) (fcl [true,true] T.t_3 (ok_3 T) hr (zaa (fw 0) (zaa (zak (by rfl) T.n_len (zaa (fw 2) zab)) zab))))) (zbR (fw 4) (zai (fw 10) zad))) (gnm 4 sc_9.nd)))) zan)
  (zae (zar (fw 4)))))
theorem ok_12 (T:Txt K mg af):FnOk P w K mg base CX0 2 (af 12) (dO K (af 12)) p_12 (spW K w_12 2):=by
 refine fn_w (k:=1) T.t_12.F sc_12 rfl rfl fun cdv A outer s H E hr=>?_
 exact zac (zag (zaw (zaa zad zab)) (gnm 2 sc_12.nd))
  (zac (za9 (by rfl) (zaH (by rfl) T.n_range (fcl [true,true] T.t_3 (ok_3 T) hr (zaa (fw 0) (zaa zad zab)))) (gnm 3 sc_12.nd) (zae (zaD (zal (fun _ _=>zb1 (u32 hr)) za3 (zaq (fw 1) (zaq (fw 2) (zbt zad))) (zaB zab) (nomark _)) (zae (zag (zai (fw 2) (zaw (zaa (zaq (zaq (fw 1) (zaq (fw 2) (zbt zad))) (fcl [true,true] T.t_3 (ok_3 T) hr (zaa (fw 0) (zaa (zak (by rfl) T.n_len (zaa (zaq (fw 1) (zaq (fw 2) (zbt zad))) zab)) zab)))) zab))) (gnm 2 sc_12.nd))) zan)))
  (zac (zag (zaE (fcl [true,true] T.t_11 (ok_11 T) hr (zaa (fw 1) (zaa (zaq (fw 2) (zbt zad)) zab)))) (gnm 4 sc_12.nd))
  (zac (zaD (zal (fun _ _=>zaz (u31 hr)) zau (fw 4) (zaw zab) (nomark _)) (zae (zar (zaw zab))) zan)
  (zae (zar (zai (fw 2) (zbR (fw 4) zad)))))))
theorem ok_16 (T:Txt K mg af):FnOk P w K mg base CX0 2 (af 16) (dO K (af 16)) p_16 (spW K w_16 3):=by
 refine fn_w (k:=1) T.t_16.F sc_16 rfl rfl fun cdv A outer s H E hr=>?_
 exact zac (zag (fcl [true,true] T.t_3 (ok_3 T) hr (zaa (fw 0) (zaa (zai (zak (by rfl) T.n_len (zaa (fw 2) zab)) zad) zab))) (gnm 3 sc_16.nd))
  (zac (zag (fcl [true,true] T.t_3 (ok_3 T) hr (zaa (fw 0) (zaa (zai (zak (by rfl) T.n_len (zaa (fw 2) zab)) zad) zab))) (gnm 4 sc_16.nd))
  (zac (zag (zaw (zaa (zaq (zaB (zaa (zat (by rfl) (by decide)) (zaa (zat (by rfl) (by decide)) zab))) (fcl [true,true] T.t_3 (ok_3 T) hr (zaa (fw 0) (zaa zad zab)))) (zaa (fcl [true,true] T.t_3 (ok_3 T) hr (zaa (fw 0) (zaa (zai (zak (by rfl) T.n_len (zaa (fw 1) zab)) zad) zab))) zab))) (gnm 5 sc_16.nd))
  (zac (zag (fcl [true,true] T.t_3 (ok_3 T) hr (zaa (fw 0) (zaa zad zab))) (gnm 6 sc_16.nd))
  (zac (zaD (zal (fun _ _=>zaz (u31 hr)) zau (fw 6) zad (nomark _)) (zae (zar (zai (za8 (fw 2) (fw 3)) (zbR (fw 2) (zai (fw 3) zad))))) zan)
  (zac (zaD (zal (fun _ _=>zaz (u31 hr)) zau (fw 6) zad (nomark _)) (zae (zar (zai (zai (za8 (fw 2) (fw 3)) (zaw (zaa (fw 5) zab))) (zbR (fw 2) (fw 3))))) zan)
  (zac (zaD (zal (fun _ _=>zaz (u31 hr)) zau (fw 3) (zak (by rfl) T.n_len (zaa (fw 2) zab)) (nomark _)) (zae (zar (zai (fw 2) (zbD (fw 2) (fw 4) (zai (fw 4) zad))))) zan)
  (zac (zag (zaq (fw 2) (fw 3)) (zck (by rfl) (zas (gnm 7 sc_16.nd) (zas (gnm 8 sc_16.nd) zba))))
  (zac (zaD (zal (fun _ _=>zaz (u31 hr)) zau (fw 6) zad (nomark _)) (zae (zag (zaw (zaa (zaq (zaB (zaa (zat (by rfl) (by decide)) (zaa (zat (by rfl) (by decide)) zab))) (zb8 (by rfl) T.n_int zdl (zaa (zbe (fun _ _=>zaz (u31 hr)) zau (fw 7) (zat (by rfl) (by decide)) (nomark _)) zab))) (zaa (fw 8) zab))) (gnm 5 sc_16.nd))) (zae (zaD (zal (fun _ _=>zaz (u31 hr)) zau (fw 6) zad (nomark _)) (zae (zag (zaw (zaa (fw 7) (zaa (zaq (zaB (zaa (zai (fw 8) zad) (zaa (zaZ (fw 8) zad) (zaa (zbt zad) (zaa (zak (by rfl) T.n_len (zaa (fw 1) zab)) (zaa (zaZ (fw 8) (zak (by rfl) T.n_len (zaa (fw 1) zab))) zab)))))) (fcl [true,true] T.t_3 (ok_3 T) hr (zaa (fw 0) (zaa zad zab)))) zab))) (gnm 5 sc_16.nd))) (zae (zaD (zal (fun _ _=>zaz (u31 hr)) zau (fw 6) zad (nomark _)) (zae (zag (zaw (zaa (zaq (zaB (zaa (zat (by rfl) (by decide)) (zaa (zat (by rfl) (by decide)) (zaa (zat (by rfl) (by decide)) (zaa (zat (by rfl) (by decide)) (zaa (zat (by rfl) (by decide)) (zaa (zat (by rfl) (by decide)) (zaa (zai (fw 7) (zat (by rfl) (by decide))) zab)))))))) (fcl [true,true] T.t_3 (ok_3 T) hr (zaa (fw 0) (zaa zad zab)))) (zaa (fw 8) zab))) (gnm 5 sc_16.nd))) (zae (zaD (zeQ (zec (zal (fun _ _=>zaz (u31 hr)) zau (fw 6) zad (nomark _)) (zcD (zal (fun _ _=>zcG) zbu (fw 4) (zak (by rfl) T.n_len (zaa (fw 2) zab)) (nomark _))))) (zae (zar (zai (zai (za8 (fw 2) (fw 3)) (zbD (fw 2) (fw 4) (zai (fw 4) zad))) (zbR (fw 2) (zai (fw 3) zad))))) zan)))))))
  (zae (zar (zai (zai (za8 (fw 2) (fw 3)) (zaw (zaa (fw 5) zab))) (zbR (fw 2) (zai (fw 3) zad)))))))))))))
theorem ok_7 (T:Txt K mg af):FnOk P w K mg base CX0 3 (af 7) (dO K (af 7)) p_7 (spW K w_7 4):=by
 refine fn_w (k:=2) T.t_7.F sc_7 rfl rfl fun cdv A outer s H E hr=>?_
 exact zac (zag (zaB zab) (gnm 4 sc_7.nd))
  (zac (za9 (by rfl) (zaH (by rfl) T.n_range (zaV (fcl [true,true] T.t_3 (ok_3 T) hr (zaa (fw 0) (zaa (zai (fw 2) zad) zab))) (zb8 (by rfl) T.n_int zdl (zaa (zbe (fun _ _=>zb1 (u32 hr)) za3 (fw 1) (zat (by rfl) (by decide)) (nomark _)) zab)))) (gnm 5 sc_7.nd) (zac (zag (zai (zaq (fw 1) (fcl [true,true] T.t_3 (ok_3 T) hr (zaa (fw 0) (zaa (zak (by rfl) T.n_len (zaa (fw 1) zab)) zab)))) (fcl [true,true,true] T.t_5 (ok_5 T) hr (zaa (fw 0) (zaa (fw 1) (zaa (zaZ (fw 3) zad) zab))))) (gnm 6 sc_7.nd))
  (zac (zaD (zeQ (zec (zal (fun _ _=>zb1 (u32 hr)) za3 (fw 4) (zaB zab) (nomark _)) (zcD (zal (fun _ _=>zaz (u31 hr)) zau (fcl [true,true] T.t_3 (ok_3 T) hr (zaa (fw 0) (zaa zad zab))) zad (nomark _))))) (zae (zag (za8 (fcl [true,true,true] T.t_6 (ok_6 T) hr (zaa (fw 0) (zaa (fw 1) (zaa (fw 4) zab)))) (fw 3)) (gnm 6 sc_7.nd))) zan)
  (zae (zaD (zal (fun _ _=>zbH (u32 hr)) za6 (fw 6) (fw 4) (by with_unfolding_all rfl)) (zae (zbi (za0 (j:=4) (fw 4) (fw 6)))) zan)))))
  (zae (zar (zcO (by rfl) T.n_tuple zco (zaa (fw 4) zab)))))
theorem ok_17 (T:Txt K mg af):FnOk P w K mg base CX0 3 (af 17) (dO K (af 17)) p_17 (spW K w_17 3):=by
 refine fn_w (k:=2) T.t_17.F sc_17 rfl rfl fun cdv A outer s H E hr=>?_
 exact zac (zag (zaE (fcl [true,true,true] T.t_1 (ok_1 T) hr (zaa (fw 0) (zaa (fw 1) (zaa (fw 2) zab))))) (gnm 3 sc_17.nd))
  (zae (zar (zn2 (zoa (by rfl) T.n_isinstance zd0 (by rfl) T.n_bool zku (by decide) (fw 3)) (zl3 (zbe (fun _ _=>zaz (u31 hr)) zau (fw 3) (fcl [true,true,true] T.t_15 (ok_15 T) hr (zaa (fw 0) (zaa (fw 1) (zaa (fw 2) zab)))) (nomark _))))))
theorem ok_13 (T:Txt K mg af):FnOk P w K mg base CX0 4 (af 13) (dO K (af 13)) p_13 (spW K w_13 1):=by
 refine fn_w (k:=3) T.t_13.F sc_13 rfl rfl fun cdv A outer s H E hr=>?_
 exact zac (zag (fcl [true,true] T.t_4 (ok_4 T) hr (zaa (fw 0) (zaa (zai zad (fcl [true,true] T.t_3 (ok_3 T) hr (zaa (fw 0) (zaa zad zab)))) zab))) (gnm 1 sc_13.nd))
  (zac (zag (zaE (fcl [true,true,true,true] T.t_7 (ok_7 T) hr (zaa (fw 0) (zaa (fw 1) (zaa zad (zaa zad zab)))))) (gnm 2 sc_13.nd))
  (zac (zag (zaE (fcl [true,true,true,true] T.t_9 (ok_9 T) hr (zaa (fw 0) (zaa (fw 2) (zaa (fw 1) (zaa zad zab)))))) (gnm 3 sc_13.nd))
  (zac (zag (zaE (fcl [true,true] T.t_12 (ok_12 T) hr (zaa (fw 0) (zaa (zaE (fcl [true,true] T.t_10 (ok_10 T) hr (zaa (fw 2) (zaa (fw 3) zab)))) zab)))) (gnm 4 sc_13.nd))
  (zac (zaD (zal (fun _ _=>zaz (u31 hr)) zau (fw 4) (zaw zab) (nomark _)) (zac (zag (zfi (zat (by rfl) (by decide)) (zaa (zds (vars:=["_law_k"]) rfl (by rfl) (compSc (by kernel_rfl)) rfl (zaH (by rfl) T.n_range (zai zad (fcl [true,true] T.t_3 (ok_3 T) hr (zaa (fw 0) (zaa zad zab))))) (fun _ _ _=>gcm 6) (fun _ _ _=>zby) (fun _ _ _=>zaq (fw 2) (fcl [true,true] T.t_3 (ok_3 T) hr (zaa (fw 0) (zaa (zak (by rfl) T.n_len (zaa (fw 2) zab)) zab))))) zab)) (gnm 3 sc_13.nd))
  (zae (zag (zaE (fcl [true,true] T.t_12 (ok_12 T) hr (zaa (fw 0) (zaa (zaE (fcl [true,true] T.t_10 (ok_10 T) hr (zaa (fw 2) (zaa (fw 3) zab)))) zab)))) (gnm 4 sc_13.nd)))) zan)
  (zae (zar (zaw (zaa (fw 1) (zaa (fw 2) (zaa (fw 3) (zaa (fw 4) zab)))))))))))
theorem ok_19 (T:Txt K mg af):FnOk P w K mg base CX0 5 (af 19) (dO K (af 19)) p_19 (spW K w_19 1):=by
 refine fn_w (k:=4) T.t_19.F sc_19 rfl rfl fun cdv A outer s H E hr=>?_
 exact zac (zag (fcl [true,true] T.t_2 (ok_2 T) hr (zaa (fw 0) (zaa zad zab))) (gnm 1 sc_19.nd))
  (zac (zag (fcl [true] T.t_13 (ok_13 T) hr (zaa (fw 1) zab)) (zck (by rfl) (zas (gnm 2 sc_19.nd) (zas (gnm 3 sc_19.nd) (zas (gnm 4 sc_19.nd) (zas (gnm 5 sc_19.nd) zba))))))
  (zac (zag (zaE (fcl [false,true] T.t_18 (ok_18 T) hr (zaa (zaE (fcl [true,true,true] T.t_14 (ok_14 T) hr (zaa (fw 3) (zaa (fw 4) (zaa (fw 5) zab))))) (zaa (zaq (zaB (zaa zad (zaa zad (zaa zad (zaa zad zab))))) (fcl [true,true] T.t_3 (ok_3 T) hr (zaa (fw 1) (zaa zad zab)))) zab)))) (gnm 6 sc_19.nd))
  (zac (zaD (zal (fun _ _=>zhx) zgO (fcl [true,true,true] T.t_1 (ok_1 T) hr (zaa (fw 3) (zaa (fw 4) (zaa (fw 6) zab)))) zdX (nomark _)) (zae (zar zdX)) zan)
  (zac (za9 (by rfl) (zcJ (by rfl) T.n_range zad zad) (gnm 7 sc_19.nd) (zac (zag (fcl [true,true] T.t_2 (ok_2 T) hr (zaa (fw 0) (zaa (fw 7) zab))) (gnm 1 sc_19.nd))
  (zac (zag (zaE (fcl [true,true,true] T.t_16 (ok_16 T) hr (zaa (fw 1) (zaa (fw 3) (zaa (fw 6) zab))))) (gnm 8 sc_19.nd))
  (zac (zaD (zal (fun _ _=>zaz (u31 hr)) zau (fcl [true,true] T.t_3 (ok_3 T) hr (zaa (fw 1) (zaa zad zab))) zad (nomark _)) (zae (zag (zaE (fcl [true,true,true] T.t_16 (ok_16 T) hr (zaa (fw 1) (zaa (fw 3) (zaa (fw 8) zab))))) (gnm 8 sc_19.nd))) zan)
  (zac (zag (za8 (fw 8) zad) (gnm 8 sc_19.nd))
  (zac (zag (fcl [true,true] T.t_3 (ok_3 T) hr (zaa (fw 1) (zaa (zai (zak (by rfl) T.n_len (zaa (fw 4) zab)) zad) zab))) (gnm 9 sc_19.nd))
  (zac (zag (zai (zai (za8 (fw 4) (fw 9)) (zaq (zaB (zaa (zaq (fw 2) zad) (zaa (zaq (fw 2) (zbt zad)) (zaa (zat (by rfl) (by decide)) zab)))) (fcl [true,true] T.t_3 (ok_3 T) hr (zaa (fw 1) (zaa zad zab))))) (zbR (fw 4) (zai (fw 9) (fcl [true,true] T.t_3 (ok_3 T) hr (zaa (fw 1) (zaa zad zab)))))) (gnm 10 sc_19.nd))
  (zac (zaD (zeQ (zg5 (zif (zgZ (fcl [true,true,true] T.t_17 (ok_17 T) hr (zaa (fw 3) (zaa (fw 4) (zaa (fw 8) zab)))))) (zid (zif (zgZ (fcl [true,true,true] T.t_17 (ok_17 T) hr (zaa (fw 3) (zaa (za8 (fw 10) zad) (zaa (fw 6) zab))))))))) (zae (zar zdX)) zan)
  (zae (zaD (zif (zgZ (fcl [true,true,true] T.t_17 (ok_17 T) hr (zaa (zhr (by rfl) (by rfl) T.n_tuple zco (by rfl) T.n_reversed (fw 3)) (zaa (fw 4) (zaa (fw 8) zab)))))) (zae (zar zdX)) zan))))))))))
  (zae (zar (zbe (fun _ _=>zj9) ziG (fcl [true,true,true] T.t_1 (ok_1 T) hr (zaa (fw 3) (zaa (fw 4) (zaa (fw 6) zab)))) zdX (nomark _))))))))
end
theorem all_mk {l:W.OpenLaw} {w:World} {K:W.Frag} {h:Heap} {mg:Str->Option Value} {fa:Addr} (X:K.In h) (G:h.Ns mainGlobals mg) (hfa:mg "law"=some (.ref fa))
  {f_0 f_1 f_2 f_3 f_4 f_5 f_6 f_7 f_8 f_9 f_10 f_11 f_12 f_13 f_14 f_15 f_16 f_17 f_18 f_19:Addr}
  (h_0:Lk K "stretches" s_0 f_0)
  (h_1:Lk K "let_by" s_1 f_1)
  (h_2:Lk K "_law_box" s_2 f_2)
  (h_3:Lk K "_law_take" s_3 f_3)
  (h_4:Lk K "_law_colours" s_4 f_4)
  (h_5:Lk K "_law_word" s_5 f_5)
  (h_6:Lk K "_law_near" s_6 f_6)
  (h_7:Lk K "_law_board" s_7 f_7)
  (h_8:Lk K "_law_moves" s_8 f_8)
  (h_9:Lk K "_law_led" s_9 f_9)
  (h_10:Lk K "_law_ties" s_10 f_10)
  (h_11:Lk K "_law_way" s_11 f_11)
  (h_12:Lk K "_law_zigzag" s_12 f_12)
  (h_13:Lk K "_law_scene" s_13 f_13)
  (h_14:Lk K "_law_steps" s_14 f_14)
  (h_15:Lk K "_law_is_steps" s_15 f_15)
  (h_16:Lk K "_law_spoilt" s_16 f_16)
  (h_17:Lk K "_law_right" s_17 f_17)
  (h_18:Lk K "_law_longer" s_18 f_18)
  (h_19:Lk K "law" s_19 f_19)
  (z_bool:W.nsIn K mainGlobals "bool"=some none)
  (z_enumerate:W.nsIn K mainGlobals "enumerate"=some none)
  (z_int:W.nsIn K mainGlobals "int"=some none)
  (z_isinstance:W.nsIn K mainGlobals "isinstance"=some none)
  (z_len:W.nsIn K mainGlobals "len"=some none)
  (z_list:W.nsIn K mainGlobals "list"=some none)
  (z_max:W.nsIn K mainGlobals "max"=some none)
  (z_min:W.nsIn K mainGlobals "min"=some none)
  (z_range:W.nsIn K mainGlobals "range"=some none)
  (z_reversed:W.nsIn K mainGlobals "reversed"=some none)
  (z_sorted:W.nsIn K mainGlobals "sorted"=some none)
  (z_tuple:W.nsIn K mainGlobals "tuple"=some none):
  ∃ fd:FuncData,(∀ (s:Shared) (v:Value),BindsTo s fd ⟨[v],[]⟩ [("_law_script",v)])/\∀ base:Heap,K.In base->base.Ns mainGlobals mg->FnOk l.prog w K mg base CX0 5 fa fd ["_law_script"] (spW K w_19 1):=by
 have e:=hfa.symm.trans (h_19.mm X G)
 cases e
 have T:Txt K mg (fun n=>[f_0,f_1,f_2,f_3,f_4,f_5,f_6,f_7,f_8,f_9,f_10,f_11,f_12,f_13,f_14,f_15,f_16,f_17,f_18,fa].getD n 0):=⟨h_0.tx X G,h_1.tx X G,h_2.tx X G,h_3.tx X G,h_4.tx X G,h_5.tx X G,h_6.tx X G,h_7.tx X G,h_8.tx X G,h_9.tx X G,h_10.tx X G,h_11.tx X G,h_12.tx X G,h_13.tx X G,h_14.tx X G,h_15.tx X G,h_16.tx X G,h_17.tx X G,h_18.tx X G,h_19.tx X G,W.mg_none_of X G z_bool,W.mg_none_of X G z_enumerate,W.mg_none_of X G z_int,W.mg_none_of X G z_isinstance,W.mg_none_of X G z_len,W.mg_none_of X G z_list,W.mg_none_of X G z_max,W.mg_none_of X G z_min,W.mg_none_of X G z_range,W.mg_none_of X G z_reversed,W.mg_none_of X G z_sorted,W.mg_none_of X G z_tuple⟩
 exact ⟨_,fun s v=>h_19.bt s v,fun base _ _=>ok_19 T⟩
theorem walk {l:W.OpenLaw} {q:Program} {loose:List Str} {XP:(Str->Option Value)->Heap->Prop} {YP:World->Heap->Prop} {d:DefRec} {K:Params->W.Frag} (hn:l.most=some 63) (hdf:d.params.defaults=[])
  (hY:∀ (w:World) (h:Heap),YP w h->(K w.params).In h)
  (F:∀ (w:World) (mg:Str->Option Value) (fa:Addr) (h:Heap),(K w.params).In h->h.Ns mainGlobals mg->mg d.name=some (.ref fa)->
   ∃ fd:FuncData,(∀ (s:Shared) (u:Value),BindsTo s fd ⟨[u],[]⟩ [("_law_script",u)])/\∀ base:Heap,(K w.params).In base->base.Ns mainGlobals mg->FnOk l.prog w (K w.params) mg base CX0 5 fa fd ["_law_script"] (spW (K w.params) w_19 1)):
  W.WalkO q loose XP YP l.row.toRowW d [] (fun f vs=>PySem.call f vs):=
 L2.walk_of (n:=63) (k:=5) (x:="_law_script") (CX:=fun _=>CX0) (sp:=fun w=>spW (K w.params) w_19 1) hn (by decide) hdf ⟨rfl,by decide,by decide,rfl⟩ hY F (fun _ H a ns hl _ hS=>znx pure_law H a ns hl hS) fun _ _ _ _ _ z=>z
end Law
end
open PySem PySem.W PyProof.Rows
set_option maxRecDepth 100000 in
set_option maxHeartbeats 0 in
theorem PySem.Challenge.cw_walktold_k32_steps_looked_at_holds : PySem.Challenge.rw_walktold_k32_steps_looked_at.Holds := by
 w_on; o_law; k_head; (case hw=>w_witness2)
 k_fill
 refine Law.walk (l:=PySem.Challenge.rw_walktold_k32_steps_looked_at) rfl rfl (fun w h Y=>PySem.W.kIn_of Y) ?F
 case F=>
  intro w mg fa h KX G hmg
  refine' Law.all_mk KX G hmg ⟨?a_0,?l_0,?c_0,?k_0⟩ ⟨?a_1,?l_1,?c_1,?k_1⟩ ⟨?a_2,?l_2,?c_2,?k_2⟩ ⟨?a_3,?l_3,?c_3,?k_3⟩ ⟨?a_4,?l_4,?c_4,?k_4⟩ ⟨?a_5,?l_5,?c_5,?k_5⟩ ⟨?a_6,?l_6,?c_6,?k_6⟩ ⟨?a_7,?l_7,?c_7,?k_7⟩ ⟨?a_8,?l_8,?c_8,?k_8⟩ ⟨?a_9,?l_9,?c_9,?k_9⟩ ⟨?a_10,?l_10,?c_10,?k_10⟩ ⟨?a_11,?l_11,?c_11,?k_11⟩ ⟨?a_12,?l_12,?c_12,?k_12⟩ ⟨?a_13,?l_13,?c_13,?k_13⟩ ⟨?a_14,?l_14,?c_14,?k_14⟩ ⟨?a_15,?l_15,?c_15,?k_15⟩ ⟨?a_16,?l_16,?c_16,?k_16⟩ ⟨?a_17,?l_17,?c_17,?k_17⟩ ⟨?a_18,?l_18,?c_18,?k_18⟩ ⟨?a_19,?l_19,?c_19,?k_19⟩ ?z_bool ?z_enumerate ?z_int ?z_isinstance ?z_len ?z_list ?z_max ?z_min ?z_range ?z_reversed ?z_sorted ?z_tuple
  case a_0 | l_0 | c_0 | k_0 | a_1 | l_1 | c_1 | k_1 | a_2 | l_2 | c_2 | k_2 | a_3 | l_3 | c_3 | k_3 | a_4 | l_4 | c_4 | k_4 | a_5 | l_5 | c_5 | k_5 | a_6 | l_6 | c_6 | k_6 | a_7 | l_7 | c_7 | k_7 | a_8 | l_8 | c_8 | k_8 | a_9 | l_9 | c_9 | k_9 | a_10 | l_10 | c_10 | k_10 | a_11 | l_11 | c_11 | k_11 | a_12 | l_12 | c_12 | k_12 | a_13 | l_13 | c_13 | k_13 | a_14 | l_14 | c_14 | k_14 | a_15 | l_15 | c_15 | k_15 | a_16 | l_16 | c_16 | k_16 | a_17 | l_17 | c_17 | k_17 | a_18 | l_18 | c_18 | k_18 | a_19 | l_19 | c_19 | k_19 | z_bool | z_enumerate | z_int | z_isinstance | z_len | z_list | z_max | z_min | z_range | z_reversed | z_sorted | z_tuple=>k_is
