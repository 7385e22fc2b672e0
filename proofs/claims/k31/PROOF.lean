import PyProof.Rows.All
import Wide.All
import OpenK.AllK
import Wide.FinOn
import PySem.SetTable
import PyProof.SetScanFacts
import PyProof.DictFindH
import PyProof.SetKind
import PyProof.IsRules
import PyProof.TupleKey
import PyProof.StrWalks
import PyProof.FactsAll.set
import PyProof.SetRoads
import PyProof.MakeMany
import PyProof.CollectIter
import PyProof.ListNew
import PyProof.Rows.SortShell
import PyProof.Rows.SortStr
import PyProof.SetNew
import PyProof.Rows.SetFrom
import PyProof.WalksMore
import Lean
import PyProof.EqAt
import PyProof.EqKinds
import PyProof.TupleCall
import PySem.Str
import PyProof.NeKinds
import PyProof.Draws
import PyProof.EnumMake
import PyProof.ZipIter
import PyProof.DictItems
import PyProof.Rows.SumAny
import KE.KSortTup
import PyProof.Rows.MinMaxN
import PyProof.TupleOfGen
import PyProof.ListRange
import KE.KRevIter
import PyProof.ReprLen
import PyProof.FitsInt
import PyProof.StrBlock2
import PyProof.FactsAll.tuple_2
import PyProof.ListMulRoad
import PyProof.MeetsDict
import PySem.Challenge.RW_walktold_k31_steps_of_zigzags
set_option Elab.async false
set_option linter.all false
set_option maxRecDepth 100000
set_option compiler.extract_closed false
set_option bootstrap.genMatcherCode false
open Array (getD_eq_getD_getElem? getElem?_toList length_toList mem_toList_iff toArray_toList toList_append)
open Bool (and_eq_true false_eq_true or_eq_false_iff or_eq_true)
open Int (mul_one natCast_add toNat_natCast)
open List (all_eq_true any_cons any_eq_true append_assoc append_nil cons_append cons_lt_cons_iff countP_cons drop_eq_getElem_cons drop_of_length_le drop_zero ext_getElem? filterMap_cons find?_cons flatMap_cons forIn_cons forIn_nil getElem?_append_left getElem?_append_right getElem?_eq_getElem getElem?_eq_none getElem?_map getElem?_range getElem?_set getElem?_set_ne getElem?_set_self getElem_mem length_append length_cons length_drop length_map length_nil length_pos_iff length_range length_singleton length_take lookup_cons lt_asymm map_append map_congr_left map_cons map_drop map_id map_map map_nil map_set mem_append mem_append_left mem_append_right mem_cons mem_cons_of_mem mem_cons_self mem_filter mem_filterMap mem_map mem_of_getElem? mem_range mem_singleton nil_append nodup_append nodup_cons not_mem_nil of_mem_zip pairwise_cons pairwise_map perm_append_comm perm_middle size_toArray sum_cons take_nil take_of_length_le take_zero zipIdx_cons zipIdx_nil)
open Nat (le_of_lt le_refl le_succ le_trans lt_irrefl lt_of_lt_of_le lt_trans min_eq_left min_eq_right ne_of_gt ne_of_lt not_lt sub_self sub_zero zero_add zero_le)
open Option (getD_some isSome_iff_exists isSome_map isSome_some map_eq_some_iff map_some toList_none)
noncomputable section
section
namespace ST
open PySem PySem.SetTable
def Rising (xs:Array Nat):Prop:=∀ i j (hi:i < xs.size) (hj:j < xs.size),i < j->xs[i] < xs[j]
def path (t:SetTable) (p:Probe):Nat->Probe
 | 0=>p
 | n + 1=>path t (t.advance p) n
def okMask (mask:Nat):Prop:=mask=7\/mask=31\/mask=127\/mask=511
structure Tab (t:SetTable) (hs:List Int):Prop where
 ris:Rising t.place
 dum:t.dummies=#[]
 mask:okMask t.mask
 size:t.place.size=hs.length
 le:∀ i (hi:i < t.place.size),t.place[i]<=t.mask
 few:hs.length<=t.mask
 reach:∀ i (hi:i < t.place.size) (h:Int),hs[i]?=some h->∃ n,(path t (t.probeStart h) n).j=t.place[i]/\∀ m,m < n->t.slot (path t (t.probeStart h) m).j≠.empty
end ST
end
section
namespace ST
open PySem PySem.SetTable
end ST
end
section
namespace ST
open PySem PySem.SetTable
section
variable {prog:Program} {w:World} {K:Type} [DecidableEq K] (knd:HeapKind prog w K)
def ents (xs:List (K×Addr)):List (Int×Value):=xs.map fun p=>(knd.hash p.1,Value.ref p.2)
variable {knd}
variable {A:Around} {E:Value->Shared->Prop} {s:Shared} {a b:Addr} {o:Obj} {es:Array (Int×Value)} {ep:Nat} {t:SetTable} {xs:List (K×Addr)} {k:K}
def okRoom (t:SetTable) (n:Nat):Prop:=(t.mask=7/\n<=4)\/(t.mask=31/\n<=18)\/(t.mask=127/\n<=76)\/(t.mask=511/\n<=306)
end
end ST
end
section
namespace ST
open PySem
end ST
end
section
namespace ST
open PySem
end ST
end
section
namespace ST
open PySem
end ST
end
section
namespace ST
open PySem PySem.SetTable
end ST
end
section
namespace ST
open PySem PySem.SetTable
end ST
end
section
namespace ST
open PySem PySem.SetTable
end ST
end
section
namespace ST
open PySem PySem.SetTable
end ST
end
section
namespace ST
open PySem PySem.SetTable PyProof.Rows
end ST
end
section
namespace ST
open PySem PySem.SetTable PyProof.Rows
end ST
end
section
namespace ST
open PySem PySem.SetTable PyProof.Rows
end ST
end
section
namespace ST
open PySem PySem.SetTable
end ST
end
section
namespace ST
open PySem PySem.SetTable
structure WTab (t:SetTable) (n:Nat) (ld:Bool):Prop where
 ris:Rising t.place
 dum:t.dummies=#[]
 fit:t.fits n=true
 ldd:t.led=ld
section
variable {prog:Program} {w:World} {A:Around} {E:Value->Shared->Prop} {s:Shared} {a:Addr} {K:Type} [DecidableEq K] {knd:KeyKind prog w K} {xs:List (K×Value)}
def entV (knd:KeyKind prog w K) (xs:List (K×Value)):List (Int×Value):=xs.map fun p=>(knd.hash p.1,p.2)
def VSet (ld:Bool) (knd:KeyKind prog w K) (h:Heap) (a:Addr) (xs:List (K×Value)):Prop:=∃ o es ep t,h.get? a=some o/\o.ExactSet/\o.data=.set es ep t/\WTab t es.size ld/\es.toList=entV knd xs/\(∀ p∈xs,knd.is p.1 p.2=true/\p.2.scannable=true)/\(xs.map (·.1)).Nodup
end
end ST
end
section
namespace ST
open PySem PySem.SetTable PyProof.Rows
def freshSet (ld:Bool):Obj:={ cls:=.type "set",dict:=none,data:=.set #[] 0 (.fresh 0 0 ld) }
section
variable {prog:Program} {w:World} {A:Around} {E:Value->Shared->Prop} {s:Shared}
def ldOf (w:World):Bool:=!w.params.followText "set-order"
end
end ST
end
section
namespace ST
open PySem PySem.SetTable
section
variable {prog:Program} {w:World} {A:Around} {E:Value->Shared->Prop} {s:Shared} {a b:Addr} {K:Type} [DecidableEq K] {knd:KeyKind prog w K} {ks:List K} {ld:Bool} {xs:List (List K×Addr)}
def TRaw (ld:Bool) (knd:HeapKind prog w K) (h:Heap) (a:Addr) (xs:List (K×Addr)):Prop:=∃ o es ep t,h.get? a=some o/\o.ExactSet/\o.data=.set es ep t/\t.led=ld/\Tab t (es.toList.map (·.1))/\okRoom t es.size/\es.toList=ents knd xs/\(xs.map (·.1)).Nodup
end
end ST
end
section
namespace L2
open PySem PySem.Spec PyProof.Rows
abbrev Key:=Sum Int Str
def keyIs:Key->Value->Bool
 | .inl k,v=>Value.isInt k v
 | .inr x,v=>Value.isStrOf x v
def keyH (w:World):Key->Int
 | .inl k=>hashInt k
 | .inr x=>hashStr w x
theorem zas:∀ {k:Key} {v:Value},keyIs k v=true->(∃ i t,k=Sum.inl i/\v=Value.int i t)\/(∃ x t,k=Sum.inr x/\v=Value.str x t)
 | .inl i,v,h=>by
   obtain ⟨t,e⟩:=Value.isInt_shape (k:=i) (v:=v) h
   exact .inl ⟨i,t,rfl,e⟩
 | .inr x,v,h=>by
   obtain ⟨t,e⟩:=Value.isStrOf_shape (x:=x) (v:=v) h
   exact .inr ⟨x,t,rfl,e⟩
theorem zgY (i:Int) (t:Tok):keyIs (.inl i) (.int i t)=true:=by simp [keyIs,Value.isInt]
theorem zhx (x:Str) (t:Tok):keyIs (.inr x) (.str x t)=true:=by simp [keyIs,Value.isStrOf]
theorem zmx (a b:Int):decide ((Sum.inl a:Key)=Sum.inl b)=(a == b):=by
 by_cases e:a=b
 ·subst e; simp
 ·have h:¬ (Sum.inl a:Key)=Sum.inl b:=fun q=>e (Sum.inl.inj q)
  rw [decide_eq_false h]
  exact (beq_eq_false_iff_ne.mpr e).symm
theorem zma (a b:Str):decide ((Sum.inr a:Key)=Sum.inr b)=decide (a=b):=by
 by_cases e:a=b
 ·subst e; simp
 ·have h:¬ (Sum.inr a:Key)=Sum.inr b:=fun q=>e (Sum.inr.inj q)
  rw [decide_eq_false h,decide_eq_false e]
theorem zm2 (a:Int) (b:Str):decide ((Sum.inl a:Key)=Sum.inr b)=false:=decide_eq_false (fun q=>nomatch q)
theorem zm1 (a:Str) (b:Int):decide ((Sum.inr a:Key)=Sum.inl b)=false:=decide_eq_false (fun q=>nomatch q)
def mixKind (prog:Program) (w:World):PySem.KeyKind prog w Key where
 is:=keyIs
 hash:=keyH w
 inj:=fun v a b ha hb=>by
  rcases zas ha with ⟨i,t,rfl,rfl⟩ | ⟨x,t,rfl,rfl⟩
  ·rcases zas hb with ⟨j,u,rfl,e⟩ | ⟨y,u,rfl,e⟩
   ·injection e with e1 _; rw [e1]
   ·exact nomatch e
  ·rcases zas hb with ⟨j,u,rfl,e⟩ | ⟨y,u,rfl,e⟩
   ·exact nomatch e
   ·injection e with e1 _; rw [e1]
 byValue:=fun k v h=>by
  rcases zas h with ⟨i,t,rfl,rfl⟩ | ⟨x,t,rfl,rfl⟩ <;> rfl
 pyHash:=fun hv h=>by
  rcases zas hv with ⟨i,t,rfl,rfl⟩ | ⟨x,t,rfl,rfl⟩
  ·exact wpAny_pyHash_int h
  ·exact wpAny_pyHash_str h
 eqBool:=fun hu hv h=>by
  rcases zas hu with ⟨i,t,rfl,rfl⟩ | ⟨x,t,rfl,rfl⟩
  ·rcases zas hv with ⟨j,u,rfl,rfl⟩ | ⟨y,u,rfl,rfl⟩
   ·rw [zmx] at h; exact wpAny_eqBool_int h
   ·rw [zm2] at h; exact SeqAt.EqAt.int_str i t y u _ _ _ _ h
  ·rcases zas hv with ⟨j,u,rfl,rfl⟩ | ⟨y,u,rfl,rfl⟩
   ·rw [zm1] at h; exact SeqAt.EqAt.str_int x t j u _ _ _ _ h
   ·rw [zma] at h; exact wpAny_eqBool_str h
 «strs»:=fun k x t v h=>by
  rcases zas h with ⟨i,u,rfl,e⟩ | ⟨y,u,rfl,e⟩
  ·exact nomatch e
  ·injection e with e1 _
   subst e1
   cases v <;> rfl
theorem zfr (prog:Program) (w:World) (i:Int) (t:Tok):(mixKind prog w).is (.inl i) (.int i t)=true:=zgY i t
theorem zfj (prog:Program) (w:World) (x:Str) (t:Tok):(mixKind prog w).is (.inr x) (.str x t)=true:=zhx x t
end L2
namespace L2
open PySem PySem.Spec PyProof.Rows
inductive V where
 | non | bl (b:Bool) | int (i:Int) | str (x:Str) | byt (b:Array UInt8) | flt (b:UInt64) | ref (a:Addr) | ty (n:String)
 deriving DecidableEq
def RelV:V->Value->Prop
 | .non,u=>u=Value.none
 | .bl b,u=>u=Value.bool b
 | .int i,u=>∃ t,u=Value.int i t
 | .str x,u=>∃ t,u=Value.str x t
 | .byt b,u=>∃ t,u=Value.bytes b t
 | .flt b,u=>∃ t,u=Value.float b t
 | .ref a,u=>u=Value.ref a
 | .ty n,u=>u=Value.type n
abbrev Vals:List V->List Value->Prop:=Paired RelV
theorem Vals.length {xs:List V} {us:List Value} (r:Vals xs us):xs.length=us.length:=Paired.length r
theorem Vals.get:∀ {xs:List V} {us:List Value} {i:Nat} {x:V},Vals xs us->xs[i]?=some x->∃ u,us[i]?=some u/\RelV x u
 | _,_,_,_,.nil,e=>by simp at e
 | _,_,0,_,.cons r _,e=>by simp at e; subst e; exact ⟨_,rfl,r⟩
 | _,_,i + 1,x,.cons _ t,e=>by
   obtain ⟨u,h1,h2⟩:=Vals.get (i:=i) (x:=x) t (by simpa using e)
   exact ⟨u,by simpa using h1,h2⟩
theorem Vals.set {x:V} {u:Value} (r:RelV x u):∀ {xs:List V} {us:List Value} (i:Nat),Vals xs us->Vals (xs.set i x) (us.set i u)
 | _,_,_,.nil=>.nil
 | _,_,0,.cons _ t=>.cons r t
 | _,_,i + 1,.cons q t=>.cons q (Vals.set r i t)
theorem Vals.append:∀ {xs ys:List V} {us ws:List Value},Vals xs us->Vals ys ws->Vals (xs++ys) (us++ws):=by
 intro xs ys us ws r s
 induction r with
 | nil=>exact s
 | cons r _ ih=>exact .cons r ih
theorem Vals.take:∀ {xs:List V} {us:List Value} (n:Nat),Vals xs us->Vals (xs.take n) (us.take n)
 | _,_,0,_=>.nil
 | _,_,_ + 1,.nil=>.nil
 | _,_,n + 1,.cons r t=>.cons r (Vals.take n t)
theorem Vals.drop:∀ {xs:List V} {us:List Value} (n:Nat),Vals xs us->Vals (xs.drop n) (us.drop n)
 | _,_,0,r=>r
 | _,_,_ + 1,.nil=>.nil
 | _,_,n + 1,.cons _ t=>Vals.drop n t
def RelO:Option V->Option Value->Prop
 | some v,some u=>RelV v u
 | none,none=>True
 | _,_=>False
def KV {κ:Type}:List (κ×V)->List (κ×Value)->Prop:=Paired fun (p:κ×V) (q:κ×Value)=>p.1=q.1/\RelV p.2 q.2
def kV:Key->V
 | .inl i=>.int i
 | .inr x=>.str x
inductive HO where
 | lst (xs:List V)
 | tup (xs:List V)
 | dK (kvs:List (Key×V)) | dT (kvs:List (List Key×V))
 | set (vs:List V)
 | ins (C dx:Addr) (fs:List (Str×V))
 | own (x:Addr)
 | xd (fs:List (Str×V))
 | met (f x:Addr)
 | rng (lo hi:Int)
 | frz (o:Obj) (u:HO)
 | tbl (ps:Array Value)
 | ext (φ:Heap->Prop)
abbrev Hp:=Addr->Option HO
def upd (H:Hp) (a:Addr) (o:HO):Hp:=fun b=>if b=a then some o else H b
theorem zam {H:Hp} {a:Addr} {o:HO}:upd H a o a=some o:=by unfold upd; rw [if_pos rfl]
theorem zag {H:Hp} {a b:Addr} {o:HO} (h:b≠a):upd H a o b=H b:=by unfold upd; rw [if_neg h]
theorem zmE {H:Hp} {a b:Addr} {o u:HO} (h:H a=some o) (h':H b=some u) (d:o≠u):a≠b:=by
 intro e; subst e; rw [h] at h'; exact d (Option.some.inj h')
theorem zau {H:Hp} {a b:Addr} {o:HO} (h:H a=some o) (h':H b=none):a≠b:=by
 intro e; subst e; rw [h] at h'; cases h'
section
variable (P:Program) (w:World)
def ObjOk (H:Hp) (h:Heap) (a:Addr):HO->Prop
 | .lst xs=>xs.length<=sizeLine/\∃ (its:List Value) (n:Nat),Vals xs its/\h.get? a=some { cls:=.type "list",data:=.seq its.toArray n }
 | .tup xs=>xs.length<=sizeLine/\∃ its:List Value,Vals xs its/\IsTup h a its.toArray
 | .dK kvs=>kvs.length<=sizeLine/\(a == sysModules)=false/\∃ vs,KV kvs vs/\h.DictOf (mixKind P w) a vs
 | .dT kvs=>kvs.length<=sizeLine/\(a == sysModules)=false/\∃ xs:List (List Key×Addr×Value),
   Paired (fun (p:List Key×V) (q:List Key×Addr×Value)=>p.1=q.1/\H q.2.1=some (.tup (p.1.map kV))/\RelV p.2 q.2.2) kvs xs/\
   ∃ o es ep,h.get? a=some o/\o.ExactDict/\o.data=.dict es ep/\es.toList=xs.map (entryOfKey (tupleKind (mixKind P w)))/\(xs.map (·.1)).Nodup
 | .set vs=>vs.length<=301/\((vs=[]/\h.get? a=some (ST.freshSet (ST.ldOf w)))\/(vs≠[]/\∃ xs:List (Key×Value),vs.Perm (xs.map fun p=>kV p.1)/\ST.VSet (ST.ldOf w) (mixKind P w) h a xs)\/vs≠[]/\∃ xs:List (List Key×Addr),vs.Perm (xs.map fun p=>V.ref p.2)/\(∀ p∈xs,H p.2=some (.tup (p.1.map kV)))/\ST.TRaw (ST.ldOf w) (tupleKind (mixKind P w)) h a xs)
 | .ins C dx fs=>H dx=some (.own a)/\fs.length<=1000/\dx≠a/\h.get? a=some (W.instObj C dx)/\
   ∃ mA,h.Ns1 dx mA/\(∀ f,RelO (fs.lookup f) (mA f))/\PySem.Within mA (fs.map (·.1))
 | .own _=>∃ o,h.get? a=some o
 | .xd fs=>∃ mA,h.Ns1 a mA/\∀ f,RelO (fs.lookup f) (mA f)
 | .rng lo hi=>∃ t u v,h.get? a=some { cls:=.type "range",data:=.fields #[.int lo t,.int hi u,.int 1 v] }
 | .frz o u=>h.get? a=some o/\ObjOk H h a u
 | .tbl ps=>h.get? a=some { cls:=.none,data:=.fields ps }
 | .met f x=>h.get? a=some (W.methodObj (.ref f) (.ref x))
 | .ext φ=>φ h/\(∃ o,h.get? a=some o)/\∀ h1 h2:Heap,φ h1->(∀ o,h1.get? a=some o->h2.get? a=some o)->φ h2
def HOk (H:Hp) (h:Heap):Prop:=∀ a o,H a=some o->ObjOk P w H h a o
end
section
variable {P:Program} {w:World} {H H':Hp} {h h':Heap} {a:Addr} {o:HO}
theorem ObjOk.lt (x:ObjOk P w H h a o):a < h.objs.size:=by
 cases o with
 | lst xs=>obtain ⟨_,_,_,_,e⟩:=x; exact Heap.lt_size e
 | tup xs=>obtain ⟨_,_,_,p⟩:=x; exact p.lt
 | dK kvs=>obtain ⟨_,_,_,_,o,_,_,e,_⟩:=x; exact Heap.lt_size e
 | dT kvs=>obtain ⟨_,_,_,_,o,_,_,e,_⟩:=x; exact Heap.lt_size e
 | set vs=>
   rcases x with ⟨_,⟨_,e⟩ | ⟨_,_,_,_,_,_,_,e,_⟩ | ⟨_,_,_,_,_,_,_,_,e,_⟩⟩
   ·exact Heap.lt_size e
   ·exact Heap.lt_size e
   ·exact Heap.lt_size e
 | ins C dx fs=>obtain ⟨_,_,_,e,_⟩:=x; exact Heap.lt_size e
 | own y=>obtain ⟨_,e⟩:=x; exact Heap.lt_size e
 | xd fs=>obtain ⟨_,⟨_,_,_,e,_⟩,_⟩:=x; exact Heap.lt_size e
 | rng lo hi=>obtain ⟨_,_,_,e⟩:=x; exact Heap.lt_size e
 | frz ob u=>obtain ⟨e,_⟩:=x; exact Heap.lt_size e
 | tbl ps=>exact Heap.lt_size (show h.get? a=some _ from x)
 | met f y=>exact Heap.lt_size (show h.get? a=some _ from x)
 | ext φ=>obtain ⟨_,⟨_,e⟩,_⟩:=x; exact Heap.lt_size e
theorem Paired.mapP {α β:Type} {F G:α->β->Prop}:∀ {l₁:List α} {l₂:List β},Paired F l₁ l₂->(∀ a b,F a b->G a b)->Paired G l₁ l₂
 | _,_,.nil,_=>.nil
 | _,_,.cons r t,f=>.cons (f _ _ r) (Paired.mapP t f)
theorem ObjOk.stay (x:ObjOk P w H h a o) (k:∀ b u,(b=a\/H b=some (.own a))->h.get? b=some u->h'.get? b=some u)
  (ho:∀ b,H b=some (.own a)->H' b=some (.own a)) (ht:∀ b xs,H b=some (.tup xs)->H' b=some (.tup xs)):ObjOk P w H' h' a o:=by
 induction o with
 | lst xs=>obtain ⟨z,its,n,r,e⟩:=x; exact ⟨z,its,n,r,k _ _ (.inl rfl) e⟩
 | tup xs=>obtain ⟨z,its,r,ob,e,c⟩:=x; exact ⟨z,its,r,ob,k _ _ (.inl rfl) e,c⟩
 | dK kvs=>obtain ⟨z,y,vs,r,ob,es,ep,e,c⟩:=x; exact ⟨z,y,vs,r,ob,es,ep,k _ _ (.inl rfl) e,c⟩
 | dT kvs=>
   obtain ⟨z,y,xs,r,ob,es,ep,e,c⟩:=x
   exact ⟨z,y,xs,Paired.mapP r fun p q z=>⟨z.1,ht _ _ z.2.1,z.2.2⟩,ob,es,ep,k _ _ (.inl rfl) e,c⟩
 | set vs=>
   rcases x with ⟨z,⟨n,e⟩ | ⟨n,xs,p,ob,es,ep,t,e,c⟩ | ⟨n,xs,p,hx,ob,es,ep,t,e,c⟩⟩
   ·exact ⟨z,.inl ⟨n,k _ _ (.inl rfl) e⟩⟩
   ·exact ⟨z,.inr (.inl ⟨n,xs,p,ob,es,ep,t,k _ _ (.inl rfl) e,c⟩)⟩
   ·exact ⟨z,.inr (.inr ⟨n,xs,p,fun q hq=>ht _ _ (hx q hq),ob,es,ep,t,k _ _ (.inl rfl) e,c⟩)⟩
 | ins C dx fs=>
   obtain ⟨d,z,ne,e,mA,⟨od,es,ep,e2,c⟩,r⟩:=x
   exact ⟨ho _ d,z,ne,k _ _ (.inl rfl) e,mA,⟨od,es,ep,k _ _ (.inr d) e2,c⟩,r⟩
 | own y=>obtain ⟨ob,e⟩:=x; exact ⟨ob,k _ _ (.inl rfl) e⟩
 | xd fs=>obtain ⟨mA,⟨od,es,ep,e,c⟩,r⟩:=x; exact ⟨mA,⟨od,es,ep,k _ _ (.inl rfl) e,c⟩,r⟩
 | rng lo hi=>obtain ⟨t,u,v,e⟩:=x; exact ⟨t,u,v,k _ _ (.inl rfl) e⟩
 | frz ob u ih=>obtain ⟨e,q⟩:=x; exact ⟨k _ _ (.inl rfl) e,ih q⟩
 | tbl ps=>
   have e:h.get? a=some { cls:=.none,data:=.fields ps }:=x
   show h'.get? a=some { cls:=.none,data:=.fields ps }
   exact k a _ (.inl rfl) e
 | met f y=>
   have e:h.get? a=some (W.methodObj (.ref f) (.ref y)):=x
   show h'.get? a=some (W.methodObj (.ref f) (.ref y))
   exact k a _ (.inl rfl) e
 | ext φ=>obtain ⟨p,⟨o,e⟩,st⟩:=x; exact ⟨st _ _ p fun o q=>k _ _ (.inl rfl) q,⟨o,k _ _ (.inl rfl) e⟩,st⟩
theorem HOk.lt (x:HOk P w H h) (e:H a=some o):a < h.objs.size:=(x a o e).lt
theorem HOk.fresh (x:HOk P w H h) (e:h.objs.size<=a):H a=none:=by
 cases q:H a with
 | none=>rfl
 | some u=>exact absurd (lt_of_lt_of_le (x.lt q) e) (lt_irrefl _)
theorem HOk.kept (x:HOk P w H h) (k:∀ b u,h.get? b=some u->h'.get? b=some u):HOk P w H h':=fun a o e=>
 (x a o e).stay (fun b u _ q=>k b u q) (fun _ q=>q) fun _ _ q=>q
theorem HOk.laid (x:HOk P w H h) (k:∀ b u,h.get? b=some u->h'.get? b=some u) (hp:h.objs.size<=a) (new:ObjOk P w (upd H a o) h' a o):HOk P w (upd H a o) h':=fun b u e=>by
 have hn:=x.fresh hp
 by_cases hb:b=a
 ·subst hb; rw [zam] at e; cases e; exact new
 ·rw [zag hb] at e
  exact (x b u e).stay (fun c v _ q=>k c v q) (fun c q=>by rw [zag (zau q hn)]; exact q) fun c xs q=>by rw [zag (zau q hn)]; exact q
end
def Rd (H:Hp) (a:Addr) (u:HO):Prop:=H a=some u\/∃ o,H a=some (.frz o u)
theorem Rd.of {H:Hp} {a:Addr} {u:HO} (h:H a=some u):Rd H a u:=.inl h
theorem Rd.ok {P:Program} {w:World} {H:Hp} {h:Heap} {a:Addr} {u:HO} (r:Rd H a u) (x:HOk P w H h):ObjOk P w H h a u:=by
 rcases r with r | ⟨o,r⟩
 ·exact x a u r
 ·obtain ⟨_,q⟩:=x a _ r
  exact q
def Mut:Option HO->Prop
 | some (.lst _)=>True
 | some (.dK _)=>True
 | some (.dT _)=>True
 | some (.set _)=>True
 | some (.ins _ _ _)=>True
 | some (.ext _)=>True
 | _=>False
section
variable {P:Program} {w:World} {H:Hp} {h h':Heap} {x e:Addr} {o':HO}
theorem HOk.write (ok:HOk P w H h) (mu:Mut (H x)) (he:e=x\/H e=some (.own x)) (k:∀ b u,b≠e->h.get? b=some u->h'.get? b=some u) (heo:∃ u,h'.get? e=some u)
  (new:ObjOk P w (upd H x o') h' x o'):HOk P w (upd H x o') h':=fun b u q=>by
 have nown:∀ c y,H c=some (.own y)->c≠x:=fun c y r z=>by subst z; rw [r] at mu; exact mu
 have ntup:∀ c xs,H c=some (.tup xs)->c≠x:=fun c xs r z=>by subst z; rw [r] at mu; exact mu
 by_cases hb:b=x
 ·subst hb; rw [zam] at q; cases q; exact new
 ·rw [zag hb] at q
  by_cases hbe:b=e
  ·have q':H b=some (.own x):=by
    rcases he with z | z
    ·exact absurd (hbe.trans z) hb
    ·rw [hbe]; exact z
   rw [q] at q'; cases q'
   obtain ⟨v,hv⟩:=heo
   exact ⟨v,by rw [hbe]; exact hv⟩
  ·refine (ok b u q).stay (fun c v hc r=>k c v ?_ r) (fun c r=>by rw [zag (nown c b r)]; exact r) fun c xs r=>by rw [zag (ntup c xs r)]; exact r
   rcases hc with rfl | hc
   ·exact hbe
   ·rintro rfl
    rcases he with z | z
    ·exact nown c b hc z
    ·rw [hc] at z; cases z; exact hb rfl
end
structure Un (fs ex:List Addr) (H H':Hp) (h h':Heap):Prop where
 keep:∀ b o,h.get? b=some o->H b=none->b∉fs->b∉ex->h'.get? b=some o
 slot:∀ b o,h.get? b=some o->H b=none->b∈fs->b∉ex->∃ sl,h'.get? b=some { o with slots:=sl }
 free:∀ b o,h.get? b=some o->H b=none->b∉ex->H' b=none
 there:∀ b o,h.get? b=some o->b∉ex->∃ o',h'.get? b=some o'
 tups:∀ b xs,H b=some (.tup xs)->H' b=some (.tup xs)
 frzs:∀ b o u,H b=some (.frz o u)->H' b=some (.frz o u)
 tbls:∀ b ps,H b=some (.tbl ps)->∃ more,H' b=some (.tbl (ps++more))
section
variable {fs fs' ex ex':List Addr} {H H1 H2:Hp} {h h1 h2 h':Heap} {a x e:Addr} {o:HO}
theorem Un.any (u:Un fs ex H H1 h h1) {b:Addr} {ob:Obj} (q:h.get? b=some ob) (n:H b=none) (hx:b∉ex):∃ sl,h1.get? b=some { ob with slots:=sl }:=by
 by_cases hb:b∈fs
 ·exact u.slot b ob q n hb hx
 ·exact ⟨ob.slots,u.keep b ob q n hb hx⟩
theorem Un.kept (k:∀ b u,h.get? b=some u->h'.get? b=some u):Un fs ex H H h h':=
 ⟨fun b ob q _ _ _=>k b ob q,fun b ob q _ _ _=>⟨ob.slots,k b ob q⟩,fun _ _ _ n _=>n,fun b ob q _=>⟨ob,k b ob q⟩,fun _ _ q=>q,fun _ _ _ q=>q,fun _ ps q=>⟨#[],by rw [q]; simp⟩⟩
theorem Un.refl:Un fs ex H H h h:=Un.kept fun _ _ q=>q
theorem Un.laid (k:∀ b u,h.get? b=some u->h'.get? b=some u) (hp:h.objs.size<=a) (hn:H a=none):Un fs ex H (upd H a o) h h' where
 keep:=fun b u q _ _ _=>k b u q
 slot:=fun b u q _ _ _=>⟨u.slots,k b u q⟩
 free:=fun b u q n _=>by rw [zag (ne_of_lt (lt_of_lt_of_le (Heap.lt_size q) hp))]; exact n
 there:=fun b u q _=>⟨u,k b u q⟩
 tups:=fun b xs q=>by rw [zag (zau q hn)]; exact q
 frzs:=fun b u xs q=>by rw [zag (zau q hn)]; exact q
 tbls:=fun b ps q=>⟨#[],by rw [zag (zau q hn),q]; simp⟩
theorem Un.write (mu:Mut (H x)) (he:e=x\/H e=some (.own x)) (k:∀ b u,b≠e->h.get? b=some u->h'.get? b=some u) (heo:∃ u,h'.get? e=some u):Un fs ex H (upd H x o) h h':=by
 have hx:∀ b,H b=none->b≠x:=fun b n z=>by subst z; rw [n] at mu; exact mu
 have hb:∀ b,H b=none->b≠e:=fun b n z=>by
  subst z
  rcases he with r | r
  ·exact hx b n r
  ·rw [n] at r; cases r
 have hm:∀ b u,H b=some u->¬ Mut (some u)->b≠x:=fun b u q nm z=>by subst z; rw [q] at mu; exact nm mu
 refine ⟨fun b u q n _ _=>k b u (hb b n) q,fun b u q n _ _=>⟨u.slots,k b u (hb b n) q⟩,fun b u q n _=>by rw [zag (hx b n)]; exact n,fun b u q _=>?_,
  fun b xs q=>by rw [zag (hm b _ q fun z=>z)]; exact q,fun b u xs q=>by rw [zag (hm b _ q fun z=>z)]; exact q,fun b ps q=>⟨#[],by rw [zag (hm b _ q fun z=>z),q]; simp⟩⟩
 by_cases hbe:b=e
 ·subst hbe; exact heo
 ·exact ⟨u,k b u hbe q⟩
end
def trk (h:Heap) (H:Hp):List Addr:=(List.range h.objs.size).filter fun a=>(H a).isSome
def hidT (h:Heap) (H:Hp):Heap:=W.hideAll h (trk h H)
theorem zhc (h:Heap) (H:Hp):(hidT h H).objs.size=h.objs.size:=W.hideAll_size _ _
theorem zjT {h:Heap} {H:Hp} {b:Addr} {o:Obj} (e:h.get? b=some o) (n:H b=none):(hidT h H).get? b=some o:=
 W.hideAll_get _ e fun hm=>by
  have q:(H b).isSome=true:=(mem_filter.mp hm).2
  rw [n] at q; simp at q
theorem zk6 {h:Heap} {H:Hp} {b:Addr} {o:Obj} (e:(hidT h H).get? b=some o):h.get? b=some o/\H b=none:=by
 have e':h.get? b=some o:=W.of_hideAll (trk h H) e
 refine ⟨e',?_⟩
 cases q:H b with
 | none=>rfl
 | some x=>
   have hm:b∈trk h H:=mem_filter.mpr ⟨mem_range.mpr (Heap.lt_size e'),by simp [q]⟩
   have z:(hidT h H).get? b=none:=W.hideAll_none (trk h H) hm
   rw [z] at e; cases e
def allNews (g h:Heap) (L:Addr):List (Addr×Obj):=(List.range h.objs.size).filterMap fun a=>if a=L\/(g.get? a).isSome=true then none else (h.get? a).map fun o=>(a,o)
theorem zfp {g h:Heap} {L a:Addr} {o:Obj} (h1:a≠L) (h2:g.get? a=none) (h3:h.get? a=some o):(a,o)∈allNews g h L:=
 mem_filterMap.mpr ⟨a,mem_range.mpr (Heap.lt_size h3),by simp [h1,h2,h3]⟩
def rest (g h:Heap) (L d:Addr):List (Addr×Obj):=(allNews g h L).filter fun p=>decide (p.1≠d)
theorem zco {g h:Heap} {L d a:Addr} {o:Obj} (h1:a≠L) (h2:g.get? a=none) (h3:h.get? a=some o) (h4:a≠d):(a,o)∈rest g h L d:=
 mem_filter.mpr ⟨zfp h1 h2 h3,decide_eq_true h4⟩
end L2
namespace L2
open PySem PySem.Spec PyProof.Rows
structure Mod (K:W.Frag) (mg:Str->Option Value) (base:Heap):Prop where
 kin:K.In base
 glob:base.Ns mainGlobals mg
 blt:∃ mb,base.Ns builtinsNs mb/\∀ x:Str,x≠"__name__"->mb x=bootBuiltins x
 nolimit:base.NoLimit
structure Cx where
 prog:Program
 w:World
 K:W.Frag
 mg:Str->Option Value
 base:Heap
 A:Around
 N:List Str
 s₀:Shared
 H₀:Hp
 env:Env
 outer:List Env
 stack:List Env
 ex:List Addr
 fn:Str->Bool
 calm:Bool
 pn:List (Addr×Obj)
 xe:Value->Shared->Prop
def frs (l:List Env):List Addr:=l.filterMap (·.frame)
abbrev Cx.fs (X:Cx):List Addr:=frs X.outer
def Vis (sc:Scope) (x:Str):Prop:=sc.names.lookup x=some .local\/sc.names.lookup x=some .cell\/sc.names.lookup x=some .free
def Loc (sc:Scope) (x:Str):Prop:=sc.names.lookup x=some .local\/sc.names.lookup x=some .cell
def Look (env:Env) (h:Heap) (m:Str->Option Value) (x:Str) (u:Value):Prop:=
 (env.kindOf x=some .local/\m x=some u)\/((env.kindOf x=some .cell\/env.kindOf x=some .free)/\∃ c,env.cells.lookup x=some c/\h.IsCell c (some u))
structure Cx.Ok (X:Cx):Prop where
 mod:Mod X.K X.mg X.base
 kind:X.env.scope.kind=.function
 glob:X.env.globals=mainGlobals
 blt:X.env.builtins=builtinsNs
 above:X.s₀.heap.objs.size<=X.env.locals
 inj:∀ x y c,X.env.cells.lookup x=some c->X.env.cells.lookup y=some c->x=y
 has:∀ x,(X.env.kindOf x=some .cell\/X.env.kindOf x=some .free)->∃ c,X.env.cells.lookup x=some c
 cab:∀ x c,X.fn x=true->X.env.cells.lookup x=some c->X.s₀.heap.objs.size<=c
 hd:X.calm=true->X.A.handled=none
 frames:X.A.frames=some X.stack
 stk:X.stack=X.outer\/(X.stack=X.env::X.outer/\X.env.frame=some X.env.locals)
 exf:∀ b∈X.ex,b≠X.env.locals/\∀ x c,X.env.cells.lookup x=some c->c≠b
 bs:∀ b o,X.base.get? b=some o->X.s₀.heap.get? b=some o/\X.H₀ b=none
 bsz:X.base.objs.size<=X.s₀.heap.objs.size
 noex:∀ b o,X.base.get? b=some o->b∉X.ex
 exfs:∀ b∈X.ex,b∉X.fs
 funs:X.s₀.heap.FunFrames X.base X.outer
 frf:∀ b∈X.fs,X.H₀ b=none
structure Inv (X:Cx) (pins:List (Addr×Obj)) (σ:List (Option V)) (H:Hp) (s:Shared):Prop where
 ok:X.Ok
 os:s.os=X.s₀.os
 bare:AllBare s.gens
 base:Un X.fs X.ex X.H₀ H X.s₀.heap s.heap
 loc:∃ m,s.heap.Ns X.env.locals m/\∀ (i:Nat) (x:Str) (v:V),X.N[i]?=some x->σ[i]?=some (some v)->Vis X.env.scope x->∃ u,RelV v u/\Look X.env s.heap m x u
 cell:∀ x c,X.env.cells.lookup x=some c->∃ v,s.heap.IsCell c v
 free:H X.env.locals=none
 freeC:∀ x c,X.env.cells.lookup x=some c->H c=none
 pin:∀ p∈X.pn++pins,s.heap.get? p.1=some p.2/\H p.1=none/\p.1≠X.env.locals/\p.1∉X.fs/\∀ v,p.2.data≠.cell v
 hok:HOk X.prog X.w H s.heap
 len:σ.length=X.N.length
section
variable {X:Cx} {pins:List (Addr×Obj)} {σ:List (Option V)} {H H':Hp} {s:Shared} {h':Heap}
theorem Cx.Ok.nofr (ok:X.Ok) {b:Addr} {o:Obj} (e:X.base.get? b=some o):b∉X.fs:=fun hb=>by
 have:=(ok.funs.mem hb).1
 rw [e] at this; cases this
theorem Inv.bs (I:Inv X pins σ H s):∀ b o,X.base.get? b=some o->s.heap.get? b=some o/\H b=none:=fun b o e=>
 ⟨I.base.keep b o (I.ok.bs b o e).1 (I.ok.bs b o e).2 (I.ok.nofr e) (I.ok.noex b o e),I.base.free b o (I.ok.bs b o e).1 (I.ok.bs b o e).2 (I.ok.noex b o e)⟩
theorem Inv.bk (I:Inv X pins σ H s):∀ b o,X.base.get? b=some o->s.heap.get? b=some o:=fun b o e=>(I.bs b o e).1
theorem Inv.mod (I:Inv X pins σ H s):Mod X.K X.mg X.base:=I.ok.mod
theorem Inv.kIn (I:Inv X pins σ H s):X.K.In s.heap:=I.ok.mod.kin.keeps I.bk
theorem Inv.fr (I:Inv X pins σ H s):∃ m,Fr X.base X.env.locals s.heap m:=
 let ⟨m,hn,_⟩:=I.loc
 ⟨m,hn,I.bk,le_trans I.ok.bsz I.ok.above⟩
theorem Inv.lt (I:Inv X pins σ H s):X.env.locals < s.heap.objs.size:=let ⟨_,hn,_⟩:=I.loc; hn.lt
theorem Inv.sz (I:Inv X pins σ H s):X.s₀.heap.objs.size<=s.heap.objs.size:=le_trans I.ok.above (le_of_lt I.lt)
theorem Inv.nofs (I:Inv X pins σ H s) {a:Addr} (h:s.heap.objs.size<=a):a∉X.fs:=fun hb=>by
 obtain ⟨_,o,ho,_⟩:=I.ok.funs.mem hb
 exact absurd (lt_of_lt_of_le (Heap.lt_size ho) (le_trans I.sz h)) (lt_irrefl _)
theorem Inv.cne (I:Inv X pins σ H s):∀ x c,X.env.cells.lookup x=some c->c≠X.env.locals:=fun x c e z=>by
 obtain ⟨v,o,ho,hd⟩:=I.cell x c e
 obtain ⟨m,⟨o',es,ep,ho',hd',_⟩,_⟩:=I.loc
 rw [z,ho'] at ho; cases ho; rw [hd'] at hd; cases hd
theorem Inv.funs (I:Inv X pins σ H s):s.heap.FunFrames X.base X.outer:=by
 have all:∀ (l:List Env),(∀ b∈frs l,b∈X.fs)->X.s₀.heap.FunFrames X.base l->s.heap.FunFrames X.base l:=by
  intro l
  induction l with
  | nil=>intro _ _; trivial
  | cons env r ih=>
    intro hs hl
    obtain ⟨hk,⟨L,o,hf,hn,ho,hd⟩,hr⟩:=hl
    have hL:L∈X.fs:=hs L (by unfold frs; rw [filterMap_cons,hf]; exact mem_cons_self)
    obtain ⟨sl,e⟩:=I.base.slot L o ho (I.ok.frf L hL) hL fun z=>I.ok.exfs L z hL
    exact ⟨hk,⟨L,_,hf,hn,e,hd⟩,ih (fun b hb=>hs b (by unfold frs; rw [filterMap_cons,hf]; exact mem_cons_of_mem _ hb)) hr⟩
 exact all X.outer (fun _ hb=>hb) I.ok.funs
theorem Inv.stack (I:Inv X pins σ H s):s.heap.FunFrames X.base X.stack:=by
 rcases I.ok.stk with e | ⟨e,hf⟩
 ·rw [e]; exact I.funs
 ·rw [e]
  obtain ⟨m,hn,_⟩:=I.loc
  refine .cons (by rw [I.ok.kind]; decide) hf hn ?_ I.funs
  exact Heap.get?_none_of_le (le_trans I.ok.bsz I.ok.above)
theorem Inv.stkSub (I:Inv X pins σ H s):∀ b∈frs X.stack,b∈X.env.locals::X.fs:=fun b hb=>by
 rcases I.ok.stk with e | ⟨e,hf⟩
 ·rw [e] at hb; exact mem_cons_of_mem _ hb
 ·rw [e] at hb
  unfold frs at hb
  rw [filterMap_cons,hf] at hb
  exact hb
theorem Inv.stkFree (I:Inv X pins σ H s):∀ b∈frs X.stack,H b=none:=fun b hb=>by
 rcases mem_cons.mp (I.stkSub b hb) with e | hb
 ·rw [e]; exact I.free
 ·obtain ⟨_,o,ho,_⟩:=I.ok.funs.mem hb
  exact I.base.free b o ho (I.ok.frf b hb) fun z=>I.ok.exfs b z hb
theorem Inv.step {g':Array GenState} {t':Nat} {d':Drawn} {ch:List Addr} (I:Inv X pins σ H s)
  (hch:∀ b∈ch,(b∈X.ex\/X.s₀.heap.objs.size<=b)/\b≠X.env.locals/\(∀ x c,X.env.cells.lookup x=some c->c≠b)/\∀ p∈X.pn++pins,p.1≠b)
  (keep:∀ b o,b≠X.env.locals->b∉X.fs->b∉ch->s.heap.get? b=some o->H b=none->h'.get? b=some o)
  (slot:∀ b o,b≠X.env.locals->b∈X.fs->b∉ch->s.heap.get? b=some o->H b=none->∃ sl,h'.get? b=some { o with slots:=sl }) (free:∀ b o,b∉ch->s.heap.get? b=some o->H b=none->H' b=none)
  (there:∀ b o,b∉ch->s.heap.get? b=some o->∃ o',h'.get? b=some o')
  (tups:∀ b xs,H b=some (.tup xs)->H' b=some (.tup xs)) (frzs:∀ b o u,H b=some (.frz o u)->H' b=some (.frz o u)) (tbls:∀ b ps,H b=some (.tbl ps)->∃ more,H' b=some (.tbl (ps++more)))
  (ns:∀ m,s.heap.Ns X.env.locals m->h'.Ns X.env.locals m) (hok:HOk X.prog X.w H' h') (hg:AllBare g'):
  Inv X pins σ H' { s with heap:=h',gens:=g',drawn:=d',toks:=t' }:=by
 have neL:∀ b o,X.s₀.heap.get? b=some o->b≠X.env.locals:=fun b o e=>ne_of_lt (lt_of_lt_of_le (Heap.lt_size e) I.ok.above)
 have neC:∀ b o,X.s₀.heap.get? b=some o->b∉X.ex->b∉ch:=fun b o e hx hb=>by
  rcases (hch b hb).1 with z | z
  ·exact hx z
  ·exact absurd (lt_of_lt_of_le (Heap.lt_size e) z) (lt_irrefl _)
 have cellK:∀ x c,X.env.cells.lookup x=some c->∀ v,s.heap.IsCell c v->h'.IsCell c v:=fun x c e v ⟨o,ho,hd⟩=>by
  have nch:c∉ch:=fun z=>(hch c z).2.2.1 x c e rfl
  by_cases hc:c∈X.fs
  ·obtain ⟨sl,q⟩:=slot c o (I.cne x c e) hc nch ho (I.freeC x c e)
   exact ⟨_,q,hd⟩
  ·exact ⟨o,keep c o (I.cne x c e) hc nch ho (I.freeC x c e),hd⟩
 refine ⟨I.ok,I.os,hg,⟨fun b o e n hb hx=>?_,fun b o e n hb hx=>?_,fun b o e n hx=>?_,fun b o e hx=>?_,fun b xs e=>tups b xs (I.base.tups b xs e),fun b o xs e=>frzs b o xs (I.base.frzs b o xs e),fun b ps e=>?_⟩,?_,fun x c e=>?_,?_,fun x c e=>?_,fun p hp=>?_,hok,I.len⟩
 ·exact keep b o (neL b o e) hb (neC b o e hx) (I.base.keep b o e n hb hx) (I.base.free b o e n hx)
 ·obtain ⟨sl,e1⟩:=I.base.slot b o e n hb hx
  obtain ⟨sl',e2⟩:=slot b _ (neL b o e) hb (neC b o e hx) e1 (I.base.free b o e n hx)
  exact ⟨sl',e2⟩
 ·obtain ⟨o',e1⟩:=I.base.there b o e hx
  exact free b o' (neC b o e hx) e1 (I.base.free b o e n hx)
 ·obtain ⟨o',e1⟩:=I.base.there b o e hx
  exact there b o' (neC b o e hx) e1
 ·obtain ⟨m1,e1⟩:=I.base.tbls b ps e
  obtain ⟨m2,e2⟩:=tbls b _ e1
  exact ⟨m1++m2,by rw [e2,Array.append_assoc]⟩
 ·obtain ⟨m,hn,hl⟩:=I.loc
  refine ⟨m,ns m hn,fun i x v e1 e2 e3=>?_⟩
  obtain ⟨u,r,l⟩:=hl i x v e1 e2 e3
  refine ⟨u,r,?_⟩
  rcases l with l | ⟨k,c,e,z⟩
  ·exact .inl l
  ·exact .inr ⟨k,c,e,cellK x c e _ z⟩
 ·obtain ⟨v,z⟩:=I.cell x c e
  exact ⟨v,cellK x c e v z⟩
 ·obtain ⟨m,⟨o,_,_,ho,_⟩,_⟩:=I.loc
  exact free _ o (fun z=>(hch _ z).2.1 rfl) ho I.free
 ·obtain ⟨v,o,ho,hd⟩:=I.cell x c e
  exact free c o (fun z=>(hch c z).2.2.1 x c e rfl) ho (I.freeC x c e)
 ·obtain ⟨e,n,ne,nf,d⟩:=I.pin p hp
  have nch:p.1∉ch:=fun z=>(hch p.1 z).2.2.2 p hp rfl
  exact ⟨keep p.1 p.2 ne nf nch e n,free p.1 p.2 nch e n,ne,nf,d⟩
theorem Inv.un {t':Nat} (I:Inv X pins σ H s) (u:Un X.fs [] H H' s.heap h') (hok:HOk X.prog X.w H' h'):Inv X pins σ H' { s with heap:=h',toks:=t' }:=by
 obtain ⟨m,⟨o,es,ep,ho,r⟩,_⟩:=id I.loc
 obtain ⟨sl,hL⟩:=u.any ho I.free (by simp)
 exact I.step (g':=s.gens) (d':=s.drawn) (ch:=[]) (fun _ z=>nomatch z) (fun b o _ hb _ e n=>u.keep b o e n hb (by simp)) (fun b o _ hb _ e n=>u.slot b o e n hb (by simp)) (fun b o _ e n=>u.free b o e n (by simp)) (fun b o _ e=>u.there b o e (by simp)) u.tups u.frzs u.tbls (fun m' hm=>by
  obtain ⟨o',es',ep',ho',r'⟩:=hm
  rw [ho] at ho'; cases ho'
  exact ⟨_,es',ep',hL,r'⟩) hok I.bare
theorem Inv.call {g':Array GenState} {t':Nat} {d':Drawn} {ch:List Addr} (I:Inv X pins σ H s) (u:Un (frs X.stack) ch H H' s.heap h') (hok:HOk X.prog X.w H' h') (hg:AllBare g')
  (hch:∀ b∈ch,(b∈X.ex\/X.s₀.heap.objs.size<=b)/\b≠X.env.locals/\(∀ x c,X.env.cells.lookup x=some c->c≠b)/\∀ p∈X.pn++pins,p.1≠b):
  Inv X pins σ H' { s with heap:=h',gens:=g',drawn:=d',toks:=t' }:=by
 obtain ⟨m,⟨o,es,ep,ho,r⟩,_⟩:=id I.loc
 obtain ⟨sl,hL⟩:=u.any ho I.free fun z=>(hch _ z).2.1 rfl
 exact I.step (ch:=ch) hch (fun b o hL hb hc e n=>u.keep b o e n (fun z=>(mem_cons.mp (I.stkSub b z)).elim hL hb) hc) (fun b o _ _ hc e n=>u.any e n hc) (fun b o hc e n=>u.free b o e n hc) (fun b o hc e=>u.there b o e hc) u.tups u.frzs u.tbls (fun m' hm=>by
  obtain ⟨o',es',ep',ho',r'⟩:=hm
  rw [ho] at ho'; cases ho'
  exact ⟨_,es',ep',hL,r'⟩) hok hg
theorem Inv.turned {t':Nat} {it:Addr} (I:Inv X pins σ H s) (k:∀ b o,b≠it->s.heap.get? b=some o->h'.get? b=some o) (hn:H it=none) (hL:it≠X.env.locals)
  (h1:it∈X.ex\/X.s₀.heap.objs.size<=it) (h2:∀ x c,X.env.cells.lookup x=some c->c≠it) (h3:∀ p∈X.pn++pins,p.1≠it):Inv X pins σ H { s with heap:=h',toks:=t' }:=by
 have nit:∀ b u,H b=some u->b≠it:=fun b u e z=>by rw [z,hn] at e; cases e
 refine I.step (g':=s.gens) (d':=s.drawn) (ch:=[it]) (fun b hb=>?_) (fun b o _ _ hc e _=>k b o (fun z=>hc (by simp [z])) e) (fun b o _ _ hc e _=>⟨o.slots,k b o (fun z=>hc (by simp [z])) e⟩) (fun _ _ _ _ n=>n)
  (fun b o hc e=>⟨o,k b o (fun z=>hc (by simp [z])) e⟩) (fun _ _ e=>e) (fun _ _ _ e=>e) (fun b ps e=>⟨#[],by rw [e]; simp⟩) (fun m hm=>?_) (fun b u e=>?_) I.bare
 ·have e:b=it:=by simpa using hb
  subst e
  exact ⟨h1,hL,h2,h3⟩
 ·obtain ⟨o,es,ep,ho,r⟩:=hm
  exact ⟨o,es,ep,k _ o (Ne.symm hL) ho,r⟩
 ·refine (I.hok b u e).stay (fun c v hc q=>k c v ?_ q) (fun _ q=>q) fun _ _ q=>q
  rcases hc with z | z
  ·rw [z]; exact nit b u e
  ·exact nit c _ z
theorem Inv.tok (I:Inv X pins σ H s) (t:Nat):Inv X pins σ H { s with toks:=t }:=I.un (h':=s.heap) (t':=t) Un.refl I.hok
theorem Inv.kept {t':Nat} (I:Inv X pins σ H s) (k:∀ b u,s.heap.get? b=some u->h'.get? b=some u):Inv X pins σ H { s with heap:=h',toks:=t' }:=I.un (Un.kept k) (I.hok.kept k)
theorem Inv.laid {a:Addr} {o:HO} {t':Nat} (I:Inv X pins σ H s) (k:∀ b u,s.heap.get? b=some u->h'.get? b=some u) (hp:s.heap.objs.size<=a) (new:ObjOk X.prog X.w (upd H a o) h' a o):
  Inv X pins σ (upd H a o) { s with heap:=h',toks:=t' }:=I.un (Un.laid k hp (I.hok.fresh hp)) (I.hok.laid k hp new)
theorem Inv.write {x e:Addr} {o:HO} {t':Nat} (I:Inv X pins σ H s) (mu:Mut (H x)) (he:e=x\/H e=some (.own x)) (k:∀ b u,b≠e->s.heap.get? b=some u->h'.get? b=some u) (heo:∃ u,h'.get? e=some u)
  (new:ObjOk X.prog X.w (upd H x o) h' x o):Inv X pins σ (upd H x o) { s with heap:=h',toks:=t' }:=I.un (Un.write mu he k heo) (I.hok.write mu he k heo new)
theorem Inv.pins_of {pins':List (Addr×Obj)} (I:Inv X pins σ H s) (h:∀ p∈pins',s.heap.get? p.1=some p.2/\H p.1=none/\p.1≠X.env.locals/\p.1∉X.fs/\∀ v,p.2.data≠.cell v):Inv X pins' σ H s:=
 ⟨I.ok,I.os,I.bare,I.base,I.loc,I.cell,I.free,I.freeC,fun p hp=>(mem_append.mp hp).elim (fun z=>I.pin p (mem_append_left _ z)) (h p),I.hok,I.len⟩
theorem zcj {N:List Str} (hN:N.Nodup) {i j:Nat} {x:Str} (a:N[i]?=some x) (b:N[j]?=some x):i=j:=by
 obtain ⟨h1,e1⟩:=List.getElem?_eq_some_iff.mp a
 obtain ⟨h2,e2⟩:=List.getElem?_eq_some_iff.mp b
 exact (List.getElem_inj hN).mp (e1.trans e2.symm)
theorem Inv.call' {s':Shared} {ch:List Addr} (I:Inv X pins σ H s) (ho:s'.os=s.os) (u:Un (frs X.stack) ch H H' s.heap s'.heap) (hok:HOk X.prog X.w H' s'.heap) (hg:AllBare s'.gens)
  (hch:∀ b∈ch,(b∈X.ex\/X.s₀.heap.objs.size<=b)/\b≠X.env.locals/\(∀ x c,X.env.cells.lookup x=some c->c≠b)/\∀ p∈X.pn++pins,p.1≠b):Inv X pins σ H' s':=by
 obtain ⟨h',g',d',t',o'⟩:=s'
 have e:o'=s.os:=ho
 subst e
 exact I.call (g':=g') (t':=t') (d':=d') u hok hg hch
end
abbrev XK:=Value->Option Addr->Hp->Prop
abbrev St:=List (Option V)
abbrev VK:=V->Hp->Prop
abbrev TE:=St->Hp->VK->Prop
abbrev TT:=St->Hp->(Bool->Hp->Prop)->Prop
abbrev TA:=St->Hp->(List V->Hp->Prop)->Prop
structure Ends where
 nx:St->Hp->Prop
 rt:VK
 bk:St->Hp->Prop:=fun _ _=>False
 ct:St->Hp->Prop:=fun _ _=>False
abbrev TS:=Ends->St->Hp->Prop
def EP (X:Cx) (pins:List (Addr×Obj)) (σ:St) (Q:VK) (u:Value) (s':Shared):Prop:=∃ v H',Inv X pins σ H' s'/\RelV v u/\Q v H'
def TP (X:Cx) (pins:List (Addr×Obj)) (σ:St) (Q:Bool->Hp->Prop) (b:Bool) (s':Shared):Prop:=∃ H',Inv X pins σ H' s'/\Q b H'
def AP (X:Cx) (pins:List (Addr×Obj)) (σ:St) (Q:List V->Hp->Prop) (us:List Value) (s':Shared):Prop:=∃ vs H',Inv X pins σ H' s'/\Vals vs us/\Q vs H'
def SP (X:Cx) (pins:List (Addr×Obj)) (D:Ends) (f:Flow) (s':Shared):Prop:=
 match f with
 | .next=>∃ σ' H',Inv X pins σ' H' s'/\D.nx σ' H'
 | .brk=>∃ σ' H',Inv X pins σ' H' s'/\D.bk σ' H'
 | .cont=>∃ σ' H',Inv X pins σ' H' s'/\D.ct σ' H'
 | .ret u=>∃ v σ' H',Inv X pins σ' H' s'/\RelV v u/\D.rt v H'
def PE (X:Cx) (e:Expr) (t:TE):Prop:=
 ∀ (pins:List (Addr×Obj)) (s:Shared) (σ:St) (H:Hp) (Q:VK),Inv X pins σ H s->t σ H Q->wpAny (model X.prog X.w) X.A (eval e X.env) (EP X pins σ Q) X.xe s
def PT (X:Cx) (e:Expr) (t:TT):Prop:=
 ∀ (pins:List (Addr×Obj)) (s:Shared) (σ:St) (H:Hp) (Q:Bool->Hp->Prop),Inv X pins σ H s->t σ H Q->wpAny (model X.prog X.w) X.A (isTrue e X.env (eval e X.env)) (TP X pins σ Q) X.xe s
def PW (X:Cx) (e:Expr) (t:TT):Prop:=
 ∀ (whole:Sem Value) (pins:List (Addr×Obj)) (s:Shared) (σ:St) (H:Hp) (Q:Bool->Hp->Prop),Inv X pins σ H s->t σ H Q->wpAny (model X.prog X.w) X.A (isTrue e X.env whole) (TP X pins σ Q) X.xe s
theorem PW.pt {X:Cx} {e:Expr} {t:TT} (h:PW X e t):PT X e t:=h _
def PA (X:Cx) (es:List Expr) (t:TA):Prop:=
 ∀ (pos:Pos) (pins:List (Addr×Obj)) (s:Shared) (σ:St) (H:Hp) (Q:List V->Hp->Prop),Inv X pins σ H s->t σ H Q->wpAny (model X.prog X.w) X.A (spliced (backTo pos (starEach es X.env))) (AP X pins σ Q) X.xe s
def PS (X:Cx) (st:Stmt) (t:TS):Prop:=
 ∀ (pins:List (Addr×Obj)) (s:Shared) (σ:St) (H:Hp) (D:Ends),Inv X pins σ H s->t D σ H->wpAny (model X.prog X.w) X.A (exec st X.env) (SP X pins D) X.xe s
def PSs (X:Cx) (st:List Stmt) (t:TS):Prop:=
 ∀ (pins:List (Addr×Obj)) (s:Shared) (σ:St) (H:Hp) (D:Ends),Inv X pins σ H s->t D σ H->wpAny (model X.prog X.w) X.A (execs st X.env) (SP X pins D) X.xe s
theorem thn {α:Type} {t:Sem α} {Q Q':α->Shared->Prop} {M:Model} {A:Around} {E:Value->Shared->Prop} {s:Shared} (h:wpAny M A t Q E s) (hQ:∀ a s,Q a s->Q' a s):wpAny M A t Q' E s:=wpAny_mono h hQ fun _ _ x=>x
end L2
namespace L2
open PySem PySem.Spec PyProof.Rows
section
variable {X:Cx}
def tVar (i:Nat):TE:=fun σ H Q=>∃ v,σ[i]?=some (some v)/\Q v H
def tC (v:V):TE:=fun _ H Q=>Q v H
theorem zmW {i:Nat} {x:Str} {pos:Pos} (hN:X.N[i]?=some x) (hv:Vis X.env.scope x) (hd:(x == ("__debug__":Str))=false:=by decide) (hcd:(x == ("__classdict__":Str))=false:=by decide):PE X (.Name x pos) (tVar i):=by
 intro pins s σ H Q I h
 obtain ⟨v,e,h⟩:=h
 obtain ⟨m,hn,hl⟩:=I.loc
 obtain ⟨u,r,l⟩:=hl i x v hN e hv
 have fin:EP X pins σ Q u s:=⟨v,H,I,r,h⟩
 rcases l with ⟨hk,hm⟩ | ⟨hk,c,hc,hcell⟩
 ·exact wpAny_Name (wpAny_loadName_local I.ok.kind hk hn hm fin) hd
 ·rcases hk with hk | hk
  ·exact wpAny_Name (wpAny_loadName_cell I.ok.kind hk hc hcell fin) hd
  ·exact wpAny_Name (wpAny_loadName_free I.ok.kind hk hc hcell fin hcd) hd
theorem znF {i j pos}:PE X (.Constant (.int i) j pos) (tC (.int i)):=fun _ _ _ H _ I h=>wpAny_Constant_int ⟨.int i,H,I.tok _,⟨_,rfl⟩,h⟩
theorem zpu {b j pos}:PE X (.Constant (.bool b) j pos) (tC (.bl b)):=fun _ _ _ H _ I h=>Constant_bool ⟨.bl b,H,I,rfl,h⟩
theorem zmk {x j pos}:PE X (.Constant (.str x) j pos) (tC (.str x)):=fun _ _ _ H _ I h=>Calls.Constant_str ⟨.str x,H,I.tok _,⟨_,rfl⟩,h⟩
def Gl (X:Cx) (x:Str):Prop:=X.env.kindOf x=some .globalImplicit
theorem zlc {E:Value->Shared->Prop} {pins:List (Addr×Obj)} {s:Shared} {σ:St} {H:Hp} {x:Str} {u:Value} {pos:Pos} {Q:Value->Shared->Prop} (I:Inv X pins σ H s) (hg:Gl X x) (hm:X.mg x=some u) (h:Q u s)
  (hd:(x == ("__debug__":Str))=false:=by decide):wpAny (model X.prog X.w) X.A (eval (.Name x pos) X.env) Q E s:=
 Calls.Name_function_global I.ok.kind hg (Calls.loadGlobal_global (by rw [I.ok.glob]; exact I.mod.glob.keeps I.bk) hm h) hd
theorem zbr {E:Value->Shared->Prop} {pins:List (Addr×Obj)} {s:Shared} {σ:St} {H:Hp} {x:Str} {u:Value} {pos:Pos} {Q:Value->Shared->Prop} (I:Inv X pins σ H s) (hg:Gl X x) (hm:X.mg x=none) (hv:bootBuiltins x=some u) (h:Q u s)
  (hn:x≠"__name__":=by decide) (hd:(x == ("__debug__":Str))=false:=by decide):wpAny (model X.prog X.w) X.A (eval (.Name x pos) X.env) Q E s:=by
 obtain ⟨mb,h1,h2⟩:=I.mod.blt
 exact Calls.Name_function_global I.ok.kind hg (Calls.loadGlobal_builtin (by rw [I.ok.glob]; exact I.mod.glob.keeps I.bk) hm (by rw [I.ok.blt]; exact h1.keeps I.bk) ((h2 x hn).trans hv) h) hd
variable {a b:Expr} {ta tb:TE} {pos:Pos}
variable {tA tB':TT} {rest:List Expr}
def tAnd (t u:TT):TT:=fun σ H Q=>t σ H fun c H1=>if c=true then u σ H1 Q else Q false H1
def tOr (t u:TT):TT:=fun σ H Q=>t σ H fun c H1=>if c=true then Q true H1 else u σ H1 Q
def tNot (t:TT):TT:=fun σ H Q=>t σ H fun c H1=>Q (!c) H1
theorem zlk (ha:PT X a tA):PW X (.BoolOp .And [a] pos) tA:=by
 intro wh pins s σ H Q I h
 refine isTrue_and (thn (ha pins s σ H Q I h) fun c s1 e=>?_)
 cases c with
 | true=>exact isTrue_and_nil e
 | false=>exact e
theorem znP (ha:PT X a tA):PW X (.BoolOp .Or [a] pos) tA:=by
 intro wh pins s σ H Q I h
 refine isTrue_or (thn (ha pins s σ H Q I h) fun c s1 e=>?_)
 cases c with
 | false=>exact isTrue_or_nil e
 | true=>exact e
theorem zod (ha:PT X a tA) (hb:PW X (.BoolOp .And (b::rest) pos) tB'):PW X (.BoolOp .And (a::b::rest) pos) (tAnd tA tB'):=by
 intro wh pins s σ H Q I h
 refine isTrue_and (thn (ha pins s σ H _ I h) fun c s1 ⟨H1,I1,q1⟩=>?_)
 cases c with
 | true=>exact hb wh pins s1 σ H1 Q I1 q1
 | false=>exact ⟨H1,I1,q1⟩
theorem zp8 (ha:PT X a tA) (hb:PW X (.BoolOp .Or (b::rest) pos) tB'):PW X (.BoolOp .Or (a::b::rest) pos) (tOr tA tB'):=by
 intro wh pins s σ H Q I h
 refine isTrue_or (thn (ha pins s σ H _ I h) fun c s1 ⟨H1,I1,q1⟩=>?_)
 cases c with
 | true=>exact ⟨H1,I1,q1⟩
 | false=>exact hb wh pins s1 σ H1 Q I1 q1
theorem zmD (ha:PT X a tA):PT X (.UnaryOp .Not a pos) (tNot tA):=by
 intro pins s σ H Q I h
 exact isTrue_not (ha pins s σ H (fun c H1=>Q (!c) H1) I h)
def tAndV (ta tb:TE):TE:=fun σ H Q=>ta σ H fun x H1=>∃ c,x=.bl c/\if c=true then tb σ H1 Q else Q (.bl false) H1
theorem zlQ {op} {t:TE} (h:PE X a t):PE X (.BoolOp op [a] pos) t:=fun pins s σ H Q I hw=>BoolOp_one (h pins s σ H Q I hw)
theorem znG (ha:PE X a ta) (hb:PE X (.BoolOp .And (b::rest) pos) tb):PE X (.BoolOp .And (a::b::rest) pos) (tAndV ta tb):=by
 intro pins s σ H Q I h
 refine BoolOp_and (thn (ha pins s σ H _ I h) fun v s1 ⟨x,H1,I1,r1,q1⟩=>?_)
 obtain ⟨c,rfl,q1⟩:=q1
 cases r1
 refine wpAny_truthy_bool ?_
 cases c with
 | true=>exact hb pins s1 σ H1 Q I1 q1
 | false=>exact ⟨.bl false,H1,I1,rfl,q1⟩
end
end L2
namespace L2
open PySem PySem.Spec PyProof.Rows
def SqL (K:W.Frag) (H:Hp) (a:Addr) (xs:List V):Prop:=
 Rd H a (.lst xs)\/
  ∃ (o:Obj) (its:Array Value) (n:Nat),K.lookup a=some o/\o.cls=.type "list"/\o.dict=none/\o.data=.seq its n/\its.size<=sizeLine/\Vals xs its.toList
def SqT (K:W.Frag) (H:Hp) (a:Addr) (xs:List V):Prop:=
 Rd H a (.tup xs)\/
  ∃ (o:Obj) (its:Array Value) (n:Nat),K.lookup a=some o/\o.cls=.type "tuple"/\o.data=.seq its n/\its.size<=sizeLine/\Vals xs its.toList
def absV:Value->Option V
 | .none=>some .non
 | .bool b=>some (.bl b)
 | .int i _=>some (.int i)
 | .str x _=>some (.str x)
 | .bytes b _=>some (.byt b)
 | .float b _=>some (.flt b)
 | .ref a=>some (.ref a)
 | .type n=>some (.ty n)
 | _=>none
theorem RelV.abs {x:V} {u:Value} (r:RelV x u):absV u=some x:=by
 cases x with
 | non=>cases r; rfl
 | bl _=>cases r; rfl
 | int _=>obtain ⟨t,rfl⟩:=r; rfl
 | str _=>obtain ⟨t,rfl⟩:=r; rfl
 | byt _=>obtain ⟨t,rfl⟩:=r; rfl
 | flt _=>obtain ⟨t,rfl⟩:=r; rfl
 | ref _=>cases r; rfl
 | ty _=>cases r; rfl
theorem RelV.inj {x y:V} {u:Value} (r:RelV x u) (q:RelV y u):x=y:=Option.some.inj (r.abs.symm.trans q.abs)
theorem Vals.inj:∀ {xs ys:List V} {us:List Value},Vals xs us->Vals ys us->xs=ys:=by
 intro xs ys us r q
 induction r generalizing ys with
 | nil=>cases q; rfl
 | cons r _ ih=>cases q with
   | cons r' t'=>rw [r.inj r',ih t']
section
variable {X:Cx} {pins:List (Addr×Obj)} {σ:St} {H:Hp} {s:Shared} {a:Addr} {xs ys:List V}
theorem SqL.of {K:W.Frag} (h:H a=some (.lst xs)):SqL K H a xs:=.inl (.inl h)
theorem SqT.of {K:W.Frag} (h:H a=some (.tup xs)):SqT K H a xs:=.inl (.inl h)
theorem Inv.list (I:Inv X pins σ H s) (h:SqL X.K H a xs):∃ its:List Value,Vals xs its/\PlainL s.heap a its.toArray/\xs.length<=sizeLine:=by
 rcases h with h | ⟨o,its,n,hk,hc,hd,hs,hz,r⟩
 ·obtain ⟨z,its,n,r,e⟩:=h.ok I.hok
  exact ⟨its,r,⟨_,n,e,rfl,rfl,rfl⟩,z⟩
 ·refine ⟨its.toList,r,⟨o,n,I.kIn a o hk,hc,hd,by simpa using hs⟩,?_⟩
  have e:=r.length
  simp only [length_toList] at e
  omega
theorem Inv.tuple (I:Inv X pins σ H s) (h:SqT X.K H a xs):∃ its:List Value,Vals xs its/\IsTup s.heap a its.toArray/\xs.length<=sizeLine:=by
 rcases h with h | ⟨o,its,n,hk,hc,hs,hz,r⟩
 ·obtain ⟨z,its,r,p⟩:=h.ok I.hok
  exact ⟨its,r,p,z⟩
 ·refine ⟨its.toList,r,⟨o,I.kIn a o hk,hc,n,by simpa using hs⟩,?_⟩
  have e:=r.length
  simp only [length_toList] at e
  omega
theorem Inv.list_inj (I:Inv X pins σ H s) (h:SqL X.K H a xs) (h':SqL X.K H a ys):xs=ys:=by
 obtain ⟨its,r,⟨o,n,e,_,_,d⟩,_⟩:=I.list h
 obtain ⟨its',r',⟨o',n',e',_,_,d'⟩,_⟩:=I.list h'
 rw [e] at e'; cases e'
 rw [d] at d'
 injection d' with d1 _
 have:its=its':=by simpa using congrArg Array.toList d1
 subst this
 exact r.inj r'
theorem Inv.tuple_inj (I:Inv X pins σ H s) (h:SqT X.K H a xs) (h':SqT X.K H a ys):xs=ys:=by
 obtain ⟨its,r,⟨o,e,_,n,d⟩,_⟩:=I.tuple h
 obtain ⟨its',r',⟨o',e',_,n',d'⟩,_⟩:=I.tuple h'
 rw [e] at e'; cases e'
 rw [d] at d'
 injection d' with d1 _
 have:its=its':=by simpa using congrArg Array.toList d1
 subst this
 exact r.inj r'
end
abbrev Cx.wish (X:Cx) (E:Value->Shared->Prop):Cx:={ X with xe:=E }
abbrev Cx.nox (X:Cx):Cx:=X.wish fun _ _=>False
theorem Cx.Ok.wish {X:Cx} (ok:X.Ok) (E:Value->Shared->Prop):(X.wish E).Ok:=
 ⟨ok.mod,ok.kind,ok.glob,ok.blt,ok.above,ok.inj,ok.has,ok.cab,ok.hd,ok.frames,ok.stk,ok.exf,ok.bs,ok.bsz,ok.noex,ok.exfs,ok.funs,ok.frf⟩
theorem Cx.Ok.unwish {X:Cx} {E:Value->Shared->Prop} (ok:(X.wish E).Ok):X.Ok:=
 ⟨ok.mod,ok.kind,ok.glob,ok.blt,ok.above,ok.inj,ok.has,ok.cab,ok.hd,ok.frames,ok.stk,ok.exf,ok.bs,ok.bsz,ok.noex,ok.exfs,ok.funs,ok.frf⟩
section
variable {X:Cx} {pins:List (Addr×Obj)} {σ:St} {H:Hp} {s:Shared} {E:Value->Shared->Prop}
theorem Inv.wish (I:Inv X pins σ H s) (E:Value->Shared->Prop):Inv (X.wish E) pins σ H s:=⟨I.ok.wish E,I.os,I.bare,I.base,I.loc,I.cell,I.free,I.freeC,I.pin,I.hok,I.len⟩
theorem Inv.unwish (I:Inv (X.wish E) pins σ H s):Inv X pins σ H s:=⟨I.ok.unwish,I.os,I.bare,I.base,I.loc,I.cell,I.free,I.freeC,I.pin,I.hok,I.len⟩
theorem SP.unwish {D:Ends} {f:Flow} {s':Shared} (h:SP (X.wish E) pins D f s'):SP X pins D f s':=by
 cases f with
 | next=>obtain ⟨σ',H',I,q⟩:=h; exact ⟨σ',H',I.unwish,q⟩
 | brk=>obtain ⟨σ',H',I,q⟩:=h; exact ⟨σ',H',I.unwish,q⟩
 | cont=>obtain ⟨σ',H',I,q⟩:=h; exact ⟨σ',H',I.unwish,q⟩
 | ret u=>obtain ⟨v,σ',H',I,r,q⟩:=h; exact ⟨v,σ',H',I.unwish,r,q⟩
theorem PSs.nox {st:List Stmt} {t:TS} (h:PSs X.nox st t):PSs X st t:=fun pins s σ H D I hw=>
 wpAny_mono (h pins s σ H D (I.wish _) hw) (fun _ _ q=>q.unwish) fun _ _ z=>False.elim z
end
section
variable {X:Cx} {st:Stmt} {rest:List Stmt} {t u:TS} {e:Expr} {te:TE} {pos:Pos}
def tNext:TS:=fun D σ H=>D.nx σ H
def tSeq (t u:TS):TS:=fun D σ H=>t { D with nx:=u D } σ H
theorem zk2:PSs X [] tNext:=fun _ _ σ H _ I h=>wpAny_execs_nil ⟨σ,H,I,h⟩
theorem zjA (h1:PS X st t) (h2:PSs X rest u):PSs X (st::rest) (tSeq t u):=by
 intro pins s σ H D I h
 refine wpAny_execs_cons (thn (h1 pins s σ H { D with nx:=u D } I h) fun f s1 q=>?_)
 cases f with
 | next=>
   obtain ⟨σ',H',I',q⟩:=q
   exact h2 pins s1 σ' H' D I' q
 | ret v=>exact q
 | brk=>exact q
 | cont=>exact q
theorem zkQ (h1:PS X st t):PSs X [st] t:=by
 intro pins s σ H D I h
 refine wpAny_execs_cons (thn (h1 pins s σ H D I h) fun f s1 q=>?_)
 cases f with
 | next=>exact wpAny_execs_nil q
 | ret v=>exact q
 | brk=>exact q
 | cont=>exact q
theorem Inv.quiet {pins:List (Addr×Obj)} {σ:St} {H:Hp} {s:Shared} (I:Inv X pins σ H s):interactive X.env=false:=by simp [interactive,I.ok.kind]
def tDrop (te:TE):TS:=fun D σ H=>te σ H fun _ H1=>D.nx σ H1
theorem zkW (he:PE X e te) (hs:swapsWith e none pos.line X.env=pure false:=by rfl):PS X (.Expr e pos) (tDrop te):=by
 intro pins s σ H D I h
 exact wpAny_Expr_any (thn (he pins s σ H _ I h) fun v s1 ⟨x,H1,I1,r1,q1⟩=>⟨σ,H1,I1,q1⟩) I.quiet hs
def tRet (te:TE):TS:=fun D σ H=>te σ H D.rt
theorem zmP (he:PE X e te):PS X (.Return (some e) pos) (tRet te):=by
 intro pins s σ H D I h
 exact wpAny_Return_some (thn (he pins s σ H _ I h) fun v s1 ⟨x,H1,I1,r1,q1⟩=>⟨x,σ,H1,I1,r1,q1⟩)
def tIfS (c:TT) (t u:TS):TS:=fun D σ H=>c σ H fun b H1=>if b=true then t D σ H1 else u D σ H1
theorem zqh {c:Expr} {a b:List Stmt} {tc:TT} (hc:PT X c tc) (ha:PSs X a t) (hb:PSs X b u):PS X (.If c a b pos) (tIfS tc t u):=by
 intro pins s σ H D I h
 refine wpAny_If (thn (hc pins s σ H _ I h) fun d s1 ⟨H1,I1,q1⟩=>?_)
 cases d with
 | true=>exact ha pins s1 σ H1 D I1 q1
 | false=>exact hb pins s1 σ H1 D I1 q1
end
abbrev TG:=V->St->Hp->(St->Hp->Prop)->Prop
abbrev TGs:=List V->St->Hp->(St->Hp->Prop)->Prop
def PG (X:Cx) (target:Expr) (t:TG):Prop:=
 ∀ (pins:List (Addr×Obj)) (s:Shared) (σ:St) (H:Hp) (v:V) (u:Value) (Q:St->Hp->Prop),Inv X pins σ H s->RelV v u->t v σ H Q->
   wpAny (model X.prog X.w) X.A (assign target X.env u) (fun _ s'=>∃ σ' H',Inv X pins σ' H' s'/\Q σ' H') X.xe s
def PGs (X:Cx) (ts:List Expr) (t:TGs):Prop:=
 ∀ (pins:List (Addr×Obj)) (s:Shared) (σ:St) (H:Hp) (vs:List V) (us:List Value) (Q:St->Hp->Prop),Inv X pins σ H s->Vals vs us->t vs σ H Q->
   wpAny (model X.prog X.w) X.A (assignInOrder ((assignEach ts X.env).map (·.2)) us) (fun _ s'=>∃ σ' H',Inv X pins σ' H' s'/\Q σ' H') X.xe s
abbrev TSet:=V->V->V->Hp->(Hp->Prop)->Prop
def PSet (X:Cx) (t:TSet):Prop:=
 ∀ (pins:List (Addr×Obj)) (s:Shared) (σ:St) (H:Hp) (o i v:V) (ov iv u:Value) (Q:Hp->Prop),Inv X pins σ H s->RelV o ov->RelV i iv->RelV v u->t o i v H Q->
   wpAny (model X.prog X.w) X.A (setItem ov iv u) (fun _ s'=>∃ H',Inv X pins σ H' s'/\Q H') X.xe s
section
variable {X:Cx} {pos:Pos}
def gNil:TGs:=fun vs σ H Q=>vs=[]/\Q σ H
def gCons (t:TG) (u:TGs):TGs:=fun vs σ H Q=>∃ v r,vs=v::r/\t v σ H fun σ' H'=>u r σ' H' Q
theorem zkl:PGs X [] gNil:=by
 intro pins s σ H vs us Q I r h
 obtain ⟨e,h⟩:=h
 subst e
 cases r
 exact assignInOrder_nil ⟨σ,H,I,h⟩
theorem zjk {e:Expr} {es:List Expr} {t:TG} {u:TGs} (h1:PG X e t) (h2:PGs X es u)
  (hs:(assignEach (e::es) X.env).map (·.2)=assign e X.env::(assignEach es X.env).map (·.2):=by rfl):PGs X (e::es) (gCons t u):=by
 intro pins s σ H vs us Q I r h
 obtain ⟨v,vr,e1,h⟩:=h
 subst e1
 cases r with
 | cons r rr=>
   rw [hs]
   refine assignInOrder_cons (thn (h1 pins s σ H _ _ _ I r h) fun _ s1 ⟨σ1,H1,I1,q1⟩=>?_)
   exact h2 pins s1 σ1 H1 _ _ Q I1 rr q1
def gTup (K:W.Frag) (n:Nat) (t:TGs):TG:=fun v σ H Q=>∃ a xs,v=.ref a/\SqT K H a xs/\xs.length=n/\t xs σ H Q
theorem zm3 {es:List Expr} {k:Nat} {t:TGs} {n:Nat} (hc:X.calm=true) (h:PGs X es t)
  (hn:(assignEach es X.env).length=n:=by rfl) (hst:(assignEach es X.env).findIdx? (·.1)=none:=by rfl):PG X (.Tuple es k pos) (gTup X.K n t):=by
 intro pins s σ H v u Q I r hw
 obtain ⟨a,xs,e1,hq,hl,hw⟩:=hw
 subst e1
 cases r
 obtain ⟨its,rv,ht,hz⟩:=I.tuple hq
 refine assign_Tuple_tuple (I.ok.hd hc) ht (by simp [hn,<- hl,rv.length]) hst fun h' hx=>?_
 have I1:Inv X pins σ H { s with heap:=h' }:=I.kept (t':=s.toks) fun b o e=>hx b o (ne_of_lt (Heap.lt_size e)) e
 exact h pins _ σ H xs _ Q I1 (by simpa using rv) hw
def gSub (to ti:TE) (t:TSet):TG:=fun v σ H Q=>to σ H fun o H1=>ti σ H1 fun i H2=>t o i v H2 fun H3=>Q σ H3
theorem znY {o i:Expr} {to ti:TE} {t:TSet} (ho:PE X o to) (hi:PE X i ti) (hs:PSet X t)
  (ha:∀ v,assign (.Subscript o i pos) X.env v=(do
   let ov <- holding [v] (eval o X.env)
   let iv <- holding [v,ov] (eval i X.env)
   standAt pos
   holding [v,ov,iv] (setItem ov iv v)
   release [v,ov,iv] []):=by intro _; rfl):PG X (.Subscript o i pos) (gSub to ti t):=by
 intro pins s σ H v u Q I r h
 rw [ha]
 refine wpAny_bind (wpAny_holding (thn (ho pins s σ H _ I h) fun ov s1 ⟨x,H1,I1,r1,q1⟩=>?_))
 refine wpAny_bind (wpAny_holding (thn (hi pins s1 σ H1 _ I1 q1) fun iv s2 ⟨y,H2,I2,r2,q2⟩=>?_))
 refine wpAny_bind (wpAny_standAt (wpAny_bind (wpAny_holding (thn (hs pins s2 σ H2 x y v ov iv u _ I2 r1 r2 r q2) fun _ s3 ⟨H3,I3,q3⟩=>?_))))
 exact wpAny_release ⟨σ,H3,I3,q3⟩
def tAsg (te:TE) (g:TG):TS:=fun D σ H=>te σ H fun x H1=>g x σ H1 D.nx
theorem zkg {tg e:Expr} {te:TE} {g:TG} (he:PE X e te) (hg:PG X tg g) (hs:swapsWithSole [tg] e pos.line X.env=pure false:=by rfl) (hw:swappedStores [tg] e X.env=pure none:=by rfl)
  (h1:(assignEach [tg] X.env).map (·.2)=[assign tg X.env]:=by rfl):PS X (.Assign [tg] e pos) (tAsg te g):=by
 intro pins s σ H D I h
 refine wpAny_Assign_stores (thn (he pins s σ H _ I h) fun v s1 ⟨x,H1,I1,r1,q1⟩=>?_) hs hw
 rw [h1]
 exact thn (hg pins s1 σ H1 x v _ I1 r1 q1) fun _ s2 q=>q
end
section
variable {X:Cx} {pos:Pos}
def tWhile (c:TT) (tb:TS):TS:=fun D σ H=>∃ W:Nat->St->Hp->Prop,(∃ m,W m σ H)/\∀ m σ H,W m σ H->
 c σ H fun b H1=>if b=true then ∃ N:St->Hp->Prop,(∀ σ' H',N σ' H'->∃ m',m' < m/\W m' σ' H')/\tb { D with nx:=N,ct:=N,bk:=D.nx } σ H1 else D.nx σ H1
theorem ziK {c:Expr} {body:List Stmt} {tc:TT} {tb:TS} (hp:PassesOwn (model X.prog X.w) X.A X.env X.xe) (hc:PT X c tc) (hb:PSs X body tb):PS X (.While c body [] pos) (tWhile tc tb):=by
 intro pins s σ H D I h
 obtain ⟨W,⟨m0,w0⟩,turn⟩:=h
 refine wpAny_While (codeAny_whileLoop (fun n s'=>∃ σ' H',Inv X pins σ' H' s'/\W n σ' H') ?_ m0 ⟨σ,H,I,w0⟩)
 rintro n s1 ⟨σ1,H1,I1,w1⟩
 refine wpAny_passesOwn hp (thn (hc pins s1 σ1 H1 _ I1 (turn n σ1 H1 w1)) fun b s2 ⟨H2,I2,q2⟩=>?_)
 cases b with
 | true=>
   obtain ⟨N,hN,q2⟩:=q2
   rw [if_pos rfl]
   refine wpAny_passesOwn hp (thn (hb pins s2 σ1 H2 _ I2 q2) fun f s3 q3=>?_)
   cases f with
   | next=>
     obtain ⟨σ3,H3,I3,n3⟩:=q3
     obtain ⟨m',hm,w3⟩:=hN σ3 H3 n3
     exact ⟨m',hm,σ3,H3,I3,w3⟩
   | cont=>
     obtain ⟨σ3,H3,I3,n3⟩:=q3
     obtain ⟨m',hm,w3⟩:=hN σ3 H3 n3
     exact ⟨m',hm,σ3,H3,I3,w3⟩
   | brk=>exact q3
   | ret v=>exact q3
 | false=>
   rw [if_neg Bool.false_ne_true]
   exact wpAny_execs_nil ⟨σ1,H2,I2,q2⟩
end
structure It where
 go:Nat->Hp->Prop
 yld:Nat->Hp->V->Hp->Prop
 stop:Nat->Hp->Prop
def FpOk (X:Cx) (pins:List (Addr×Obj)) (H:Hp) (b:Addr):Prop:=
 H b=none/\b≠X.env.locals/\b∉X.fs/\(b∈X.ex\/X.s₀.heap.objs.size<=b)/\(∀ x c,X.env.cells.lookup x=some c->c≠b)/\∀ p∈X.pn++pins,p.1≠b
theorem Inv.fpOk {X:Cx} {pins:List (Addr×Obj)} {σ:St} {H H':Hp} {s:Shared} {b:Addr} (I:Inv X pins σ H s) (hb:s.heap.objs.size<=b) (hn:H' b=none):FpOk X pins H' b:=by
 refine ⟨hn,ne_of_gt (lt_of_lt_of_le I.lt hb),I.nofs hb,.inr (le_trans I.sz hb),fun x c e z=>?_,fun p hp z=>?_⟩
 ·obtain ⟨v,q⟩:=I.cell x c e
  exact absurd (lt_of_lt_of_le q.lt (by rw [z]; exact hb)) (lt_irrefl _)
 ·exact absurd (lt_of_lt_of_le (Heap.lt_size (I.pin p hp).1) (by rw [z]; exact hb)) (lt_irrefl _)
structure Turn (P:Program) (w:World) (K:W.Frag) (tg:Expr) (J:It) (fp:List Addr) (it:Addr) (tn:Nat->Heap->Prop):Prop where
 mem:it∈fp
 obj:∀ i h,tn i h->∀ b∈fp,∃ o,h.get? b=some o/\∀ v,o.data≠.cell v
 keep:∀ i h h',tn i h->(∀ b∈fp,∀ o,h.get? b=some o->h'.get? b=some o)->tn i h'
 item:∀ (X:Cx),X.prog=P->X.w=w->X.K=K->X.calm=true->∀ (i:Nat) (pins:List (Addr×Obj)) (s:Shared) (σ:St) (H:Hp) (E:Value->Shared->Prop),Inv X pins σ H s->(∀ b∈fp,FpOk X pins H b)->tn i s.heap->J.go i H->
  wpAny (model P w) X.A (pyNext (.ref it)) (fun r s1=>∃ u,r=some u/\
   wpAny (model P w) X.A (letOwnedTupleGo tg (.ref it) u) (fun _ s2=>∃ x H',Inv X pins σ H' s2/\RelV x u/\J.yld i H x H'/\tn (i + 1) s2.heap/\∀ b∈fp,H' b=none) E s1) E s
 done:∀ (X:Cx),X.prog=P->X.w=w->X.K=K->X.calm=true->∀ (i:Nat) (pins:List (Addr×Obj)) (s:Shared) (σ:St) (H:Hp) (E:Value->Shared->Prop),Inv X pins σ H s->(∀ b∈fp,FpOk X pins H b)->tn i s.heap->J.stop i H->
  wpAny (model P w) X.A (pyNext (.ref it)) (fun r s1=>r=none/\Inv X pins σ H s1) E s
 self:∀ (A:Around) (i:Nat) (s:Shared) (Q:Value->Shared->Prop) (E:Value->Shared->Prop),tn i s.heap->Q (.ref it) s->wpAny (model P w) A (pyIter (.ref it)) Q E s
abbrev TI:=St->Hp->(It->Hp->Prop)->Prop
def PIE (X:Cx) (pins:List (Addr×Obj)) (σ:St) (tg:Expr) (R:It->Hp->Prop) (itv:Value) (s2:Shared):Prop:=
 ∃ (it:Addr) (fp:List Addr) (tn:Nat->Heap->Prop) (J:It) (H':Hp),itv=.ref it/\Inv X pins σ H' s2/\Turn X.prog X.w X.K tg J fp it tn/\tn 0 s2.heap/\(∀ b∈fp,FpOk X pins H' b)/\R J H'
def PI (X:Cx) (tg iter:Expr) (wi:TI):Prop:=
 ∀ (pins:List (Addr×Obj)) (s:Shared) (σ:St) (H:Hp) (R:It->Hp->Prop),Inv X pins σ H s->wi σ H R->
   wpAny (model X.prog X.w) X.A (eval iter X.env) (fun v s1=>wpAny (model X.prog X.w) X.A (pyIter v) (PIE X pins σ tg R) X.xe s1) X.xe s
theorem ziZ {M:Model} {A:Around} {E:Value->Shared->Prop} {s:Shared} {tg:Expr} {it:Addr} {u:Value} {o:Obj} {n:String} {vs:Array Value} {Q:Unit->Shared->Prop} (ho:s.heap.get? it=some o) (hc:o.cls=.type n) (hd:o.data=.fields vs)
  (hn:["enumerate","zip","dict_itemiterator","dict_reverseitemiterator","odict_iterator","itertools.zip_longest","itertools.pairwise"].contains n=false) (hQ:Q () s):wpAny M A (letOwnedTupleGo tg (.ref it) u) Q E s:=by
 unfold letOwnedTupleGo
 cases tg <;> first
  | exact wpAny_pure hQ
  | (cases u <;> first
    | exact wpAny_pure hQ
    | (refine wpAny_bind (wpAny_load ho ?_)
       rw [hc,hd]
       show wpAny M A (if (["enumerate","zip","dict_itemiterator","dict_reverseitemiterator","odict_iterator","itertools.zip_longest","itertools.pairwise"].contains n && vs[0]? == some (rawInt _))=true then _ else _) Q E s
       rw [if_neg (by intro h; rw [hn,Bool.false_and] at h; cases h)]
       exact wpAny_pure hQ))
def Itl (K:W.Frag) (a:Addr):It:=
 ⟨fun i H=>∃ xs x,SqL K H a xs/\xs[i]?=some x,fun i H x H'=>H'=H/\∀ xs,SqL K H a xs->xs[i]?=some x,fun i H=>∃ xs,SqL K H a xs/\xs.length<=i⟩
def Itt (K:W.Frag) (a:Addr):It:=
 ⟨fun i H=>∃ xs x,SqT K H a xs/\xs[i]?=some x,fun i H x H'=>H'=H/\∀ xs,SqT K H a xs->xs[i]?=some x,fun i H=>∃ xs,SqT K H a xs/\xs.length<=i⟩
def Itr (lo:Int) (n:Nat):It:=⟨fun i _=>i < n,fun i H x H'=>H'=H/\x=.int (lo + i),fun i _=>n<=i⟩
theorem zgW {P:Program} {w:World} {K:W.Frag} {tg:Expr} (a it:Addr):Turn P w K tg (Itl K a) [it] it (fun i h=>h.IsListIter it a i) where
 mem:=by simp
 obj:=fun i h st b hb=>by
  have e:b=it:=by simpa using hb
  subst e
  obtain ⟨o,e,c,d⟩:=st
  exact ⟨o,e,fun v z=>by rw [d] at z; cases z⟩
 keep:=fun i h h' st k=>st.at fun o e=>k it (by simp) o e
 item:=by
  intro X hP hw hK hc i pins s σ H E I hf st hg
  subst hP hw hK
  obtain ⟨xs,x,hq,hx⟩:=hg
  obtain ⟨its,rv,p,hz⟩:=I.list hq
  obtain ⟨u,hu,ru⟩:=rv.get hx
  obtain ⟨f0,f1,f2,f3,f4,f5⟩:=hf it (by simp)
  refine wpAny_pyNext_list_item st p.isList (x:=u) (by simpa using hu) fun h' st' sb=>?_
  have I1:Inv X pins σ H { s with heap:=h' }:=I.turned (t':=s.toks) (fun b o hb e=>(sb.2 b hb).trans e) f0 f1 f3 f4 f5
  obtain ⟨o,e,c,d⟩:=id st'
  exact ⟨u,rfl,ziZ (s:={ s with heap:=h' }) e c d (by decide) ⟨x,H,I1,ru,⟨rfl,fun ys hy=>by rw [I.list_inj hy hq]; exact hx⟩,st',fun b hb=>(hf b hb).1⟩⟩
 done:=by
  intro X hP hw hK hc i pins s σ H E I hf st hg
  subst hP hw hK
  obtain ⟨xs,hq,hx⟩:=hg
  obtain ⟨its,rv,p,hz⟩:=I.list hq
  obtain ⟨f0,f1,f2,f3,f4,f5⟩:=hf it (by simp)
  have hl:=rv.length
  exact wpAny_pyNext_list_end (I.ok.hd hc) st p.isList (by simp; omega) fun h' eb=>⟨rfl,I.turned (t':=s.toks) (fun b o hb e=>eb b o hb e) f0 f1 f3 f4 f5⟩
 self:=fun _ _ _ _ _ st h=>wpAny_pyIter_listiter st h
theorem zgl {P:Program} {w:World} {K:W.Frag} {tg:Expr} (a it:Addr):Turn P w K tg (Itt K a) [it] it (fun i h=>h.IsTupleIter it a i) where
 mem:=by simp
 obj:=fun i h st b hb=>by
  have e:b=it:=by simpa using hb
  subst e
  obtain ⟨o,e,c,d⟩:=st
  exact ⟨o,e,fun v z=>by rw [d] at z; cases z⟩
 keep:=fun i h h' st k=>st.at fun o e=>k it (by simp) o e
 item:=by
  intro X hP hw hK hc i pins s σ H E I hf st hg
  subst hP hw hK
  obtain ⟨xs,x,hq,hx⟩:=hg
  obtain ⟨its,rv,p,hz⟩:=I.tuple hq
  obtain ⟨u,hu,ru⟩:=rv.get hx
  obtain ⟨f0,f1,f2,f3,f4,f5⟩:=hf it (by simp)
  refine wpAny_pyNext_tuple_item st (show s.heap.IsTuple a its.toArray from p) (x:=u) (by simpa using hu) fun h' st' sb=>?_
  have I1:Inv X pins σ H { s with heap:=h' }:=I.turned (t':=s.toks) (fun b o hb e=>(sb.2 b hb).trans e) f0 f1 f3 f4 f5
  obtain ⟨o,e,c,d⟩:=id st'
  exact ⟨u,rfl,ziZ (s:={ s with heap:=h' }) e c d (by decide) ⟨x,H,I1,ru,⟨rfl,fun ys hy=>by rw [I.tuple_inj hy hq]; exact hx⟩,st',fun b hb=>(hf b hb).1⟩⟩
 done:=by
  intro X hP hw hK hc i pins s σ H E I hf st hg
  subst hP hw hK
  obtain ⟨xs,hq,hx⟩:=hg
  obtain ⟨its,rv,p,hz⟩:=I.tuple hq
  obtain ⟨f0,f1,f2,f3,f4,f5⟩:=hf it (by simp)
  have hl:=rv.length
  exact wpAny_pyNext_tuple_end (I.ok.hd hc) st (show s.heap.IsTuple a its.toArray from p) (by simp; omega) fun h' eb=>⟨rfl,I.turned (t':=s.toks) (fun b o hb e=>eb b o hb e) f0 f1 f3 f4 f5⟩
 self:=fun _ _ _ _ _ st h=>wpAny_pyIter_tupleiter st h
theorem zgn {P:Program} {w:World} {K:W.Frag} {tg:Expr} (it:Addr) (lo:Int) (n:Nat):Turn P w K tg (Itr lo n) [it] it (fun i h=>IsRangeIter h it (lo + (i:Nat) * 1) ((n:Int) - (i:Nat)) 1) where
 mem:=by simp
 obj:=fun i h st b hb=>by
  have e:b=it:=by simpa using hb
  subst e
  exact ⟨_,st,fun v z=>by
   have z':Data.fields _=Data.cell v:=z
   cases z'⟩
 keep:=fun i h h' st k=>k it (by simp) _ st
 item:=by
  intro X hP hw hK hc i pins s σ H E I hf st hg
  subst hP hw hK
  obtain ⟨f0,f1,f2,f3,f4,f5⟩:=hf it (by simp)
  have W:=Walks.range (prog:=X.prog) (w:=X.w) (I.ok.hd hc) it lo 1 n
  refine W.item i s _ _ hg st fun v h' tk hv st' kk=>?_
  obtain ⟨t,rfl⟩:=hv
  have I1:Inv X pins σ H { s with heap:=h',toks:=tk }:=I.turned (fun b o hb e=>kk b o (by simpa using hb) e) f0 f1 f3 f4 f5
  refine ⟨_,rfl,ziZ (s:={ s with heap:=h',toks:=tk }) (n:="range_iterator") st' rfl rfl (by decide) ⟨.int (lo + i),H,I1,⟨t,?_⟩,⟨rfl,rfl⟩,st',fun b hb=>(hf b hb).1⟩⟩
  rw [mul_one]
 done:=by
  intro X hP hw hK hc i pins s σ H E I hf st hg
  subst hP hw hK
  obtain ⟨f0,f1,f2,f3,f4,f5⟩:=hf it (by simp)
  exact wpAny_pyNext_range_end (I.ok.hd hc) st (by have:n<=i:=hg; omega) fun h' eb=>⟨rfl,I.turned (t':=s.toks) (fun b o hb e=>eb b o hb e) f0 f1 f3 f4 f5⟩
 self:=fun _ _ _ _ _ st h=>wpAny_pyIter_rangeiter st h
end L2
namespace L2
open PySem PySem.Spec PyProof.Rows
section
variable {X:Cx} {tg:Expr}
theorem zf1 {pins:List (Addr×Obj)} {σ:St} {H:Hp} {s:Shared} {R:It->Hp->Prop} {E:Value->Shared->Prop} {lo hi:Int} {t u v:Tok} {tk:Nat} (I:Inv X pins σ H s) (h1:-(2 ^ 62)<=lo) (h2:lo < 2 ^ 62) (h3:-(2 ^ 62)<=hi) (h4:hi < 2 ^ 62)
  (q:R (Itr lo (hi - lo).toNat) H):wpAny (model X.prog X.w) X.A (pyIter (.ref s.heap.objs.size)) (PIE X pins σ tg R) E { s with heap:=s.heap.push { cls:=.type "range",data:=.fields #[.int lo t,.int hi u,.int 1 v] },toks:=tk }:=by
 refine wpAny_pyIter_range (IsRange.new ..) (small_one h1 h2 h3 h4) ?_
 have I1:Inv X pins σ H { s with heap:=s.heap.push { cls:=.type "range",data:=.fields #[.int lo t,.int hi u,.int 1 v] },toks:=tk }:=I.kept fun b o e=>Heap.get?_push_of_some _ e
 refine ⟨(s.heap.push { cls:=.type "range",data:=.fields #[.int lo t,.int hi u,.int 1 v] }).objs.size,[(s.heap.push { cls:=.type "range",data:=.fields #[.int lo t,.int hi u,.int 1 v] }).objs.size],_,_,H,rfl,
  I1.kept (t':=tk) fun b o e=>Heap.get?_push_of_some _ e,zgn _ lo (hi - lo).toNat,?_,fun b hb=>?_,q⟩
 ·have e1:lo + ((0:Nat):Int) * 1=lo:=by simp
  have e2:(((hi - lo).toNat:Nat):Int) - ((0:Nat):Int)=Builtin.Range.rangeSize lo hi 1:=by rw [rangeSize_one]; split <;> omega
  show IsRangeIter _ _ (lo + ((0:Nat):Int) * 1) ((((hi - lo).toNat:Nat):Int) - ((0:Nat):Int)) 1
  rw [e1,e2]
  exact Heap.get?_push_size _ rfl
 ·have e:b=(s.heap.push { cls:=.type "range",data:=.fields #[.int lo t,.int hi u,.int 1 v] }).objs.size:=by simpa using hb
  subst e
  exact I1.fpOk (le_refl _) (I1.hok.fresh (le_refl _))
def iRng1 (ta:TA):TI:=fun σ H R=>ta σ H fun vs H1=>∃ j:Int,vs=[.int j]/\-(2 ^ 62)<=j/\j < 2 ^ 62/\R (Itr 0 j.toNat) H1
def iRng2 (ta:TA):TI:=fun σ H R=>ta σ H fun vs H1=>∃ i j:Int,vs=[.int i,.int j]/\(-(2 ^ 62)<=i/\i < 2 ^ 62/\-(2 ^ 62)<=j/\j < 2 ^ 62)/\R (Itr i (j - i).toNat) H1
theorem zhB {a:Expr} {ta:TA} {p pos:Pos} (hg:Gl X "range") (hm:X.mg "range"=none) (ha:PA X [a] ta) (hs:starEach [a] X.env=[(false,eval a X.env)]:=by rfl):PI X tg (.Call (.Name "range" p) [a] [] pos) (iRng1 ta):=by
 intro pins s σ H R I h
 refine Call_ (zbr I hg hm boot_range (PyProof.Rows.callWith_type1 (thn (ha pos pins s σ H _ I h) fun us s1 ⟨vs,H1,I1,r1,q1⟩=>?_) hs rfl))
 obtain ⟨j,e,q1,q2,q⟩:=q1
 subst e
 cases r1 with
 | cons r rr=>
   cases rr
   obtain ⟨t,rfl⟩:=r
   exact call_range_1 (zf1 I1 (by omega) (by omega) q1 q2 (by simpa using q))
theorem zh0 {a b:Expr} {ta:TA} {p pos:Pos} (hg:Gl X "range") (hm:X.mg "range"=none) (ha:PA X [a,b] ta) (hs:starEach [a,b] X.env=[(false,eval a X.env),(false,eval b X.env)]:=by rfl) (hs2:starEach [b] X.env=[(false,eval b X.env)]:=by rfl):
  PI X tg (.Call (.Name "range" p) [a,b] [] pos) (iRng2 ta):=by
 intro pins s σ H R I h
 refine Call_ (zbr I hg hm boot_range (PyProof.Rows.callWith_type1 (thn (ha pos pins s σ H _ I h) fun us s1 ⟨vs,H1,I1,r1,q1⟩=>?_) (by rw [hs,hs2]) (by rw [hs2]; rfl)))
 obtain ⟨i,j,e,⟨q1,q2,q3,q4⟩,q⟩:=q1
 subst e
 cases r1 with
 | cons r rr=>
   cases rr with
   | cons r' rr=>
     cases rr
     obtain ⟨t,rfl⟩:=r
     obtain ⟨t',rfl⟩:=r'
     exact call_range_2 (zf1 I1 q1 q2 q3 q4 q)
def tFor (wi:TI) (g:TG) (tb:TS):TS:=fun D σ H=>wi σ H fun J H1=>∃ W:Nat->Nat->St->Hp->Prop,(∃ m,W 0 m σ H1)/\∀ i m σ H,W i m σ H->
 (J.stop i H/\D.nx σ H)\/(J.go i H/\∃ N:St->Hp->Prop,(∀ σ' H',N σ' H'->∃ m',m' < m/\W (i + 1) m' σ' H')/\∀ x H',J.yld i H x H'->g x σ H' fun σ2 H2=>tb { D with nx:=N,ct:=N,bk:=D.nx } σ2 H2)
def pinsAt (fp:List Addr) (h:Heap):List (Addr×Obj):=fp.filterMap fun b=>(h.get? b).map fun o=>(b,o)
theorem zbo {fp:List Addr} {h:Heap} {b:Addr} {o:Obj} (hb:b∈fp) (e:h.get? b=some o):(b,o)∈pinsAt fp h:=mem_filterMap.mpr ⟨b,hb,by rw [e]; rfl⟩
theorem zib {fp:List Addr} {h:Heap} {p:Addr×Obj} (hp:p∈pinsAt fp h):p.1∈fp/\h.get? p.1=some p.2:=by
 obtain ⟨b,hb,e⟩:=mem_filterMap.mp hp
 cases q:h.get? b with
 | none=>rw [q] at e; cases e
 | some o=>
   rw [q] at e
   have e':(b,o)=p:=Option.some.inj e
   subst e'
   exact ⟨hb,q⟩
theorem Inv.pinned {pins:List (Addr×Obj)} {σ:St} {H:Hp} {s:Shared} {fp:List Addr} (I:Inv X pins σ H s) (hf:∀ b∈fp,FpOk X pins H b) (ho:∀ b∈fp,∃ o,s.heap.get? b=some o/\∀ v,o.data≠.cell v):Inv X (pins++pinsAt fp s.heap) σ H s:=
 I.pins_of fun p hp=>(mem_append.mp hp).elim (fun z=>I.pin p (mem_append_right _ z)) fun z=>by
  obtain ⟨hb,e⟩:=zib z
  obtain ⟨f0,f1,f2,_⟩:=hf p.1 hb
  obtain ⟨o,e',d⟩:=ho p.1 hb
  rw [e] at e'; cases e'
  exact ⟨e,f0,f1,f2,d⟩
theorem Inv.unpinned {pins pl:List (Addr×Obj)} {σ:St} {H:Hp} {s:Shared} (I:Inv X (pins++pl) σ H s):Inv X pins σ H s:=I.pins_of fun p hp=>I.pin p (mem_append_right _ (mem_append_left _ hp))
theorem zmb {iter:Expr} {body:List Stmt} {wi:TI} {g:TG} {tb:TS} {pos:Pos} (hp:PassesOwn (model X.prog X.w) X.A X.env X.xe) (hc:X.calm=true) (hi:PI X tg iter wi) (hg:PG X tg g) (hb:PSs X body tb)
  (hs:∀ x,foldedSetIterable iter X.env x=pure x:=by intro _; rfl):PS X (.For tg iter body [] pos) (tFor wi g tb):=by
 intro pins s σ H D I h
 refine wpAny_For (thn (hi pins s σ H _ I h) fun v s1 h1=>thn h1 fun itv s2 h2=>?_) hs
 obtain ⟨it,fp,tn,J,H2,e,I2,T,st2,f2,W,⟨m0,w0⟩,turn⟩:=h2
 subst e
 -- what stays true of the iterator's objects through the loop
 have stat:∀ {H':Hp},(∀ b∈fp,H' b=none)->∀ b∈fp,FpOk X pins H' b:=fun hn b hb=>⟨hn b hb,(f2 b hb).2⟩
 refine codeAny_forLoop_any (fun n s'=>∃ i σ' H',Inv X pins σ' H' s'/\tn i s'.heap/\(∀ b∈fp,H' b=none)/\W i n σ' H') ?_ m0 ⟨0,σ,H2,I2,st2,fun b hb=>(f2 b hb).1,w0⟩
 rintro n s3 ⟨i,σ3,H3,I3,st3,fr3,w3⟩
 rcases turn i n σ3 H3 w3 with ⟨stop,qn⟩ | ⟨go,N,hN,step⟩
 ·refine wpAny_passesOwn hp (thn (T.done X rfl rfl rfl hc i pins s3 σ3 H3 X.xe I3 (stat fr3) st3 stop) fun r s4 ⟨hr,I4⟩=>?_)
  subst hr
  exact wpAny_execs_nil ⟨σ3,H3,I4,qn⟩
 ·refine wpAny_passesOwn hp (thn (T.item X rfl rfl rfl hc i pins s3 σ3 H3 X.xe I3 (stat fr3) st3 go) fun r s4 ⟨u,hr,h4⟩=>?_)
  subst hr
  refine wpAny_passesOwn hp (thn h4 fun _ s5 ⟨x,H5,I5,r5,y5,st5,fr5⟩=>?_)
  have I5':=I5.pinned (stat fr5) (T.obj _ _ st5)
  refine wpAny_passesOwn hp (thn (hg _ s5 σ3 H5 x u _ I5' r5 (step x H5 y5)) fun _ s6 ⟨σ6,H6,I6,q6⟩=>?_)
  refine wpAny_passesOwn hp (thn (hb _ s6 σ6 H6 _ I6 q6) fun f s7 q7=>?_)
  have again:∀ {σ7:St} {H7:Hp},Inv X (pins++pinsAt fp s5.heap) σ7 H7 s7->N σ7 H7->∃ m,m < n/\∃ i σ' H',Inv X pins σ' H' s7/\tn i s7.heap/\(∀ b∈fp,H' b=none)/\W i m σ' H':=fun {σ7 H7} I7 n7=>by
   obtain ⟨m',hm,w7⟩:=hN σ7 H7 n7
   refine ⟨m',hm,i + 1,σ7,H7,I7.unpinned,T.keep _ _ _ st5 fun b hb o e=>(I7.pin (b,o) (mem_append_right _ (mem_append_right _ (zbo hb e)))).1,fun b hb=>?_,w7⟩
   obtain ⟨o,e,d⟩:=T.obj _ _ st5 b hb
   exact (I7.pin (b,o) (mem_append_right _ (mem_append_right _ (zbo hb e)))).2.1
  cases f with
  | next=>obtain ⟨σ7,H7,I7,n7⟩:=q7; exact again I7 n7
  | cont=>obtain ⟨σ7,H7,I7,n7⟩:=q7; exact again I7 n7
  | brk=>obtain ⟨σ7,H7,I7,q7⟩:=q7; exact ⟨σ7,H7,I7.unpinned,q7⟩
  | ret v=>obtain ⟨x7,σ7,H7,I7,r7,q7⟩:=q7; exact ⟨x7,σ7,H7,I7.unpinned,r7,q7⟩
end
end L2
namespace L2
open PySem PySem.Spec PyProof.Rows
abbrev R2:=V->V->Hp->VK->Prop
def OpR (X:Cx) (f:Value->Value->Sem Value) (r:R2):Prop:=
 ∀ (pins:List (Addr×Obj)) (s:Shared) (σ:St) (H:Hp) (x y:V) (v u:Value) (Q:VK),Inv X pins σ H s->RelV x v->RelV y u->r x y H Q->
   wpAny (model X.prog X.w) X.A (f v u) (EP X pins σ Q) X.xe s
def UnR (X:Cx) (f:Value->Sem Value) (r:V->Hp->VK->Prop):Prop:=
 ∀ (pins:List (Addr×Obj)) (s:Shared) (σ:St) (H:Hp) (x:V) (v:Value) (Q:VK),Inv X pins σ H s->RelV x v->r x H Q->
   wpAny (model X.prog X.w) X.A (f v) (EP X pins σ Q) X.xe s
def CallR (X:Cx) (f:Value) (r:List V->Hp->VK->Prop):Prop:=
 ∀ (pins:List (Addr×Obj)) (s:Shared) (σ:St) (H:Hp) (xs:List V) (us:List Value) (Q:VK),Inv X pins σ H s->Vals xs us->r xs H Q->
   wpAny (model X.prog X.w) X.A (call f us) (EP X pins σ Q) X.xe s
def TruR (X:Cx) (r:V->Hp->(Bool->Hp->Prop)->Prop):Prop:=
 ∀ (pins:List (Addr×Obj)) (s:Shared) (σ:St) (H:Hp) (x:V) (v:Value) (Q:Bool->Hp->Prop),Inv X pins σ H s->RelV x v->r x H Q->
   wpAny (model X.prog X.w) X.A (truthy v) (TP X pins σ Q) X.xe s
def tOp (r:R2) (ta tb:TE):TE:=fun σ H Q=>ta σ H fun x H1=>tb σ H1 fun y H2=>r x y H2 Q
def tUn (r:V->Hp->VK->Prop) (ta:TE):TE:=fun σ H Q=>ta σ H fun x H1=>r x H1 Q
def rI (C:Int->Int->Prop) (g:Int->Int->V):R2:=fun x y H Q=>∃ i j,x=.int i/\y=.int j/\C i j/\Q (g i j) H
def rI0 (g:Int->Int->V):R2:=fun x y H Q=>∃ i j,x=.int i/\y=.int j/\Q (g i j) H
def rU (g:Int->V):V->Hp->VK->Prop:=fun x H Q=>∃ i,x=.int i/\Q (g i) H
section
variable {X:Cx} {a b c:Expr} {ta tb tc:TE} {pos:Pos}
theorem binT (ha:PE X a ta) (hb:PE X b tb) {pins:List (Addr×Obj)} {s:Shared} {σ:St} {H:Hp} {R:V->V->Hp->Prop} (I:Inv X pins σ H s)
  (h:ta σ H fun x H1=>tb σ H1 fun y H2=>R x y H2) {Q:Value->Shared->Prop} {f:Value->Value->Sem Value}
  (hf:∀ v u s2 x y H2,Inv X pins σ H2 s2->RelV x v->RelV y u->R x y H2->wpAny (model X.prog X.w) X.A (f v u) Q X.xe s2):
  wpAny (model X.prog X.w) X.A (eval a X.env) (fun v s₁=>wpAny (model X.prog X.w) X.A (eval b X.env) (fun u s₂=>wpAny (model X.prog X.w) X.A (f v u) Q X.xe s₂) X.xe s₁) X.xe s:=by
 refine thn (ha pins s σ H _ I h) fun v s1 ⟨x,H1,I1,r1,q1⟩=>?_
 refine thn (hb pins s1 σ H1 _ I1 q1) fun u s2 ⟨y,H2,I2,r2,q2⟩=>?_
 exact hf v u s2 x y H2 I2 r1 r2 q2
theorem zoy {op:Operator} {r:R2} (ho:OpR X (binaryOp op) r) (ha:PE X a ta) (hb:PE X b tb):PE X (.BinOp a op b pos) (tOp r ta tb):=by
 intro pins s σ H Q I h
 exact wpAny_BinOp (binT ha hb I h fun v u s2 x y H2 I2 rx ry q=>ho pins s2 σ H2 x y v u Q I2 rx ry q)
theorem zoQ {op:UnaryOp} {r:V->Hp->VK->Prop} (ho:UnR X (unaryOp op) r) (ha:PE X a ta):PE X (.UnaryOp op a pos) (tUn r ta):=by
 intro pins s σ H Q I h
 exact UnaryOp_ (thn (ha pins s σ H _ I h) fun v s1 ⟨x,H1,I1,r1,q1⟩=>ho pins s1 σ H1 x v Q I1 r1 q1)
theorem opI {f:Value->Value->Sem Value} {C:Int->Int->Prop} {g:Int->Int->Int}
  (rule:∀ (i j:Int) (t u:Tok) (s:Shared) (Q:Value->Shared->Prop) (E:Value->Shared->Prop),C i j->Q (.int (g i j) s.toks) { s with toks:=s.toks + 1 }->wpAny (model X.prog X.w) X.A (f (.int i t) (.int j u)) Q E s):
  OpR X f (rI C fun i j=>.int (g i j)):=by
 intro pins s σ H x y v u Q I rx ry h
 obtain ⟨i,j,rfl,rfl,hc,q⟩:=h
 obtain ⟨t,rfl⟩:=rx
 obtain ⟨t',rfl⟩:=ry
 exact rule i j t t' s _ _ hc ⟨.int (g i j),H,I.tok _,⟨_,rfl⟩,q⟩
theorem opI0 {f:Value->Value->Sem Value} {g:Int->Int->Int}
  (rule:∀ (i j:Int) (t u:Tok) (s:Shared) (Q:Value->Shared->Prop) (E:Value->Shared->Prop),Q (.int (g i j) s.toks) { s with toks:=s.toks + 1 }->wpAny (model X.prog X.w) X.A (f (.int i t) (.int j u)) Q E s):
  OpR X f (rI0 fun i j=>.int (g i j)):=by
 intro pins s σ H x y v u Q I rx ry h
 obtain ⟨i,j,rfl,rfl,q⟩:=h
 obtain ⟨t,rfl⟩:=rx
 obtain ⟨t',rfl⟩:=ry
 exact rule i j t t' s _ _ ⟨.int (g i j),H,I.tok _,⟨_,rfl⟩,q⟩
theorem opB0 {f:Value->Value->Sem Value} {g:Int->Int->Bool}
  (rule:∀ (i j:Int) (t u:Tok) (s:Shared) (Q:Value->Shared->Prop) (E:Value->Shared->Prop),Q (.bool (g i j)) s->wpAny (model X.prog X.w) X.A (f (.int i t) (.int j u)) Q E s):
  OpR X f (rI0 fun i j=>.bl (g i j)):=by
 intro pins s σ H x y v u Q I rx ry h
 obtain ⟨i,j,rfl,rfl,q⟩:=h
 obtain ⟨t,rfl⟩:=rx
 obtain ⟨t',rfl⟩:=ry
 exact rule i j t t' s _ _ ⟨.bl (g i j),H,I,rfl,q⟩
def CPow (i j:Int):Prop:=0<=j/\j<=1000000/\i.natAbs < 2 ^ 64
def CMul (i j:Int):Prop:=(-(2 ^ 64) < i/\i < 2 ^ 64)\/(-(2 ^ 64) < j/\j < 2 ^ 64)
theorem CMul.ok {i j:Int} (h:CMul i j):IntMulOk i j:=by
 rcases h with ⟨h1,h2⟩ | ⟨h1,h2⟩
 ·exact .of_left (intBits_le_64 h1 h2)
 ·exact .of_right (intBits_le_64 h1 h2)
theorem znw:OpR X (binaryOp .Add) (rI0 fun i j=>.int (i + j)):=opI0 fun _ _ _ _ _ _ _ q=>add_int q
theorem zn7:OpR X (binaryOp .Mult) (rI CMul fun i j=>.int (i * j)):=opI fun _ _ _ _ _ _ _ hc q=>mul_int q hc.ok
theorem znI:OpR X (binaryOp .Mod) (rI (fun _ j=>0 < j) fun i j=>.int (i % j)):=opI fun i j _ _ _ _ _ hc q=>by
 have h1:(0:Int) < j:=hc
 exact mod_int' (by omega) (by rw [Int.fmod_eq_emod_of_nonneg i (by omega)]; exact q)
theorem zmA:OpR X (binaryOp .Pow) (rI CPow fun i j=>.int (i ^ j.toNat)):=opI fun _ _ _ _ _ _ _ hc q=>pow_int_small hc.1 hc.2.1 hc.2.2 q
theorem unI {f:Value->Sem Value} {g:Int->Int}
  (rule:∀ (i:Int) (t:Tok) (s:Shared) (Q:Value->Shared->Prop) (E:Value->Shared->Prop),Q (.int (g i) s.toks) { s with toks:=s.toks + 1 }->wpAny (model X.prog X.w) X.A (f (.int i t)) Q E s):
  UnR X f (rU fun i=>.int (g i)):=by
 intro pins s σ H x v Q I rx h
 obtain ⟨i,rfl,q⟩:=h
 obtain ⟨t,rfl⟩:=rx
 exact rule i t s _ _ ⟨.int (g i),H,I.tok _,⟨_,rfl⟩,q⟩
theorem zoa:UnR X (unaryOp .USub) (rU fun i=>.int (-i)):=unI fun _ _ _ _ _ q=>neg_int q
end
def scal:V->V->Bool
 | .non,.non=>true | .non,.int _=>true | .int _,.non=>true | .non,.bl _=>true | .bl _,.non=>true | .non,.str _=>true | .str _,.non=>true
 | .int _,.int _=>true | .bl _,.bl _=>true | .str _,.str _=>true | .byt _,.byt _=>true
 | .int _,.str _=>true | .str _,.int _=>true | .bl _,.str _=>true | .str _,.bl _=>true
 | _,_=>false
def rNe:R2:=fun x y H Q=>scal x y=true/\Q (.bl (!decide (x=y))) H
theorem zlj {i j:Int}:decide (V.int i=V.int j)=(i == j):=by
 rw [Bool.eq_iff_iff]
 simp
theorem zmM {i j:Bool}:decide (V.bl i=V.bl j)=(i == j):=by
 rw [Bool.eq_iff_iff]
 simp
theorem zle {i j:Str}:decide (V.str i=V.str j)=(i == j):=by
 rw [Bool.eq_iff_iff]
 simp
theorem zlB {i j:Array UInt8}:decide (V.byt i=V.byt j)=(i.toList == j.toList):=by
 rw [Bool.eq_iff_iff]
 cases i
 cases j
 simp
section
variable {X:Cx} {a b c:Expr} {ta tb tc:TE} {pos:Pos}
theorem zaL {pins:List (Addr×Obj)} {σ:St} {H:Hp} {s:Shared} {Q:VK} {k k':Bool} (I:Inv X pins σ H s) (q:Q (.bl k) H) (e:k=k'):EP X pins σ Q (.bool k') s:=by
 subst e
 exact ⟨.bl k,H,I,rfl,q⟩
theorem zpq:OpR X (compareOp .NotEq) rNe:=by
 intro pins s σ H x y v u Q I rx ry h
 obtain ⟨hs,q⟩:=h
 cases x with
 | non=>
   cases rx
   cases y with
   | non=>cases ry; exact PySem.EqNone.ne_none_none (zaL I q (by simp))
   | bl j=>cases ry; exact PySem.EqNone.ne_none_bool (zaL I q (by simp))
   | int j=>obtain ⟨t',rfl⟩:=ry; exact PySem.EqNone.ne_none_int (zaL I q (by simp))
   | str j=>obtain ⟨t',rfl⟩:=ry; exact PySem.EqNone.ne_none_str (zaL I q (by simp))
   | _=>exact absurd (show false=true from hs) Bool.false_ne_true
 | bl i=>
   cases rx
   cases y with
   | non=>cases ry; exact PySem.EqNone.ne_bool_none (zaL I q (by simp))
   | bl j=>cases ry; exact ne_bool (zaL I q (congrArg not zmM))
   | str j=>obtain ⟨t',rfl⟩:=ry; exact PySem.EqMixed.ne_bool_str (zaL I q (by simp))
   | _=>exact absurd (show false=true from hs) Bool.false_ne_true
 | int i=>
   obtain ⟨t,rfl⟩:=rx
   cases y with
   | non=>cases ry; exact PySem.EqNone.ne_int_none (zaL I q (by simp))
   | int j=>obtain ⟨t',rfl⟩:=ry; exact ne_int (zaL I q (congrArg not zlj))
   | str j=>obtain ⟨t',rfl⟩:=ry; exact PySem.EqMixed.ne_int_str (zaL I q (by simp))
   | _=>exact absurd (show false=true from hs) Bool.false_ne_true
 | str i=>
   obtain ⟨t,rfl⟩:=rx
   cases y with
   | non=>cases ry; exact PySem.EqNone.ne_str_none (zaL I q (by simp))
   | bl j=>cases ry; exact PySem.EqMixed.ne_str_bool (zaL I q (by simp))
   | int j=>obtain ⟨t',rfl⟩:=ry; exact PySem.EqMixed.ne_str_int (zaL I q (by simp))
   | str j=>obtain ⟨t',rfl⟩:=ry; exact ne_str (zaL I q (congrArg not zle))
   | _=>exact absurd (show false=true from hs) Bool.false_ne_true
 | byt i=>
   obtain ⟨t,rfl⟩:=rx
   cases y with
   | byt j=>obtain ⟨t',rfl⟩:=ry; exact W.ne_bytes (zaL I q (congrArg not zlB))
   | _=>exact absurd (show false=true from hs) Bool.false_ne_true
 | _=>cases y <;> exact absurd (show false=true from hs) Bool.false_ne_true
theorem zoI:OpR X (compareOp .Lt) (rI0 fun i j=>.bl (decide (i < j))):=opB0 fun _ _ _ _ _ _ _ q=>lt_int q
theorem zpf:OpR X (compareOp .LtE) (rI0 fun i j=>.bl (decide (i<=j))):=opB0 fun _ _ _ _ _ _ _ q=>le_int q
theorem zqC:OpR X (compareOp .Gt) (rI0 fun i j=>.bl (decide (j < i))):=opB0 fun _ _ _ _ _ _ _ q=>gt_int q
theorem zqp:OpR X (compareOp .GtE) (rI0 fun i j=>.bl (decide (j<=i))):=opB0 fun _ _ _ _ _ _ _ q=>ge_int q
theorem nomark (b:Expr) {op:CmpOp} (h:op≠.In:=by decide) (h2:op≠.NotIn:=by decide):behindInMarks op b=false:=by
 have e1:(op == CmpOp.In)=false:=by cases op <;> first | rfl | exact absurd rfl h
 have e2:(op == CmpOp.NotIn)=false:=by cases op <;> first | rfl | exact absurd rfl h2
 cases b <;> simp [behindInMarks,e1,e2]
theorem zlL {op:CmpOp} {r:R2} (ho:OpR X (compareOp op) r) (ha:PE X a ta) (hb:PE X b tb) (hm:behindInMarks op b=false):PE X (.Compare a [op] [b] pos) (tOp r ta tb):=by
 intro pins s σ H Q I h
 exact wpAny_Compare1 (binT ha hb I h fun v u s2 x y H2 I2 rx ry q=>ho pins s2 σ H2 x y v u Q I2 rx ry q) hm
def tTest (t:TE):TT:=fun σ H Q=>t σ H fun x H'=>∃ k,x=.bl k/\Q k H'
theorem zkJ {op:CmpOp} {r:R2} (ho:OpR X (compareOp op) r) (ha:PE X a ta) (hb:PE X b tb) (hm:behindInMarks op b=false):PT X (.Compare a [op] [b] pos) (tTest (tOp r ta tb)):=by
 intro pins s σ H Q I h
 refine wpAny_isTrue_Compare1 (thn (ha pins s σ H _ I h) fun v s1 ⟨x,H1,I1,r1,q1⟩=>thn (hb pins s1 σ H1 _ I1 q1) fun u s2 ⟨y,H2,I2,r2,q2⟩=>
  thn (ho pins s2 σ H2 x y v u _ I2 r1 r2 q2) fun c s3 ⟨z,H3,I3,r3,k,e,q3⟩=>?_) hm
 subst e
 cases r3
 exact wpAny_truthy_bool ⟨H3,I3,q3⟩
def TruV (K:W.Frag) (x:V) (H:Hp) (k:Bool):Prop:=
 match x with
 | .non=>k=false
 | .bl b=>k=b
 | .int i=>k=(i !=0)
 | .str y=>y.length<=sizeLine/\k=((y.length:Int) !=0)
 | .byt y=>y.size<=sizeLine/\k=((y.size:Int) !=0)
 | .ref p=>(∃ xs,SqL K H p xs/\k=!xs.isEmpty)\/(∃ xs,SqT K H p xs/\k=!xs.isEmpty)\/∃ kvs,H p=some (.dK kvs)/\k=!kvs.isEmpty
 | _=>False
theorem zgw {κ:Type} {kvs:List (κ×V)} {vs:List (κ×Value)} (r:KV kvs vs):(!vs.isEmpty)=!kvs.isEmpty:=by
 cases r <;> rfl
theorem zdi {xs:List V} {its:List Value} (r:Vals xs its):(!its.toArray.isEmpty)=!xs.isEmpty:=by
 cases r <;> simp
theorem line63:(sizeLine:Nat) < 2 ^ 63:=by rw [sizeLine_eq]; decide
theorem zkc:TruR X (fun x H Q=>∃ k,TruV X.K x H k/\Q k H):=by
 intro pins s σ H x v Q I rx h
 obtain ⟨k,e,q⟩:=h
 have hl:=line63
 have hs:sizeLine=16777216:=sizeLine_eq
 cases x with
 | non=>
   cases rx
   have e':k=false:=e
   subst e'
   exact truthy_none ⟨H,I,q⟩
 | bl b=>
   cases rx
   have e':k=b:=e
   subst e'
   exact wpAny_truthy_bool ⟨H,I,q⟩
 | int i=>
   obtain ⟨t,rfl⟩:=rx
   have e':k=(i !=0):=e
   subst e'
   exact PySem.P.truthy_int ⟨H,I,q⟩
 | str y=>
   obtain ⟨t,rfl⟩:=rx
   obtain ⟨hy,e'⟩:y.length<=sizeLine/\k=((y.length:Int) !=0):=e
   subst e'
   exact PySem.P.truthy_str (by omega) ⟨H,I.tok _,q⟩
 | byt y=>
   obtain ⟨t,rfl⟩:=rx
   obtain ⟨hy,e'⟩:y.size<=sizeLine/\k=((y.size:Int) !=0):=e
   subst e'
   exact W.truthy_bytes (by omega) ⟨H,I.tok _,q⟩
 | ref p=>
   cases rx
   have e':(∃ xs,SqL X.K H p xs/\k=!xs.isEmpty)\/(∃ xs,SqT X.K H p xs/\k=!xs.isEmpty)\/∃ kvs,H p=some (.dK kvs)/\k=!kvs.isEmpty:=e
   rcases e' with ⟨xs,hx,e'⟩ | ⟨xs,hx,e'⟩ | ⟨kvs,hx,e'⟩
   ·subst e'
    obtain ⟨its,r,pl,hz⟩:=I.list hx
    have hlen:=r.length
    exact wpAny_truthy_list pl.isList (by simp only [size_toArray]; omega) ⟨H,I.tok _,by rw [zdi r]; exact q⟩
   ·subst e'
    obtain ⟨its,r,pl,hz⟩:=I.tuple hx
    have hlen:=r.length
    exact truthy_tuple pl (by simp only [size_toArray]; omega) ⟨H,I.tok _,by rw [zdi r]; exact q⟩
   ·subst e'
    obtain ⟨hz,hS,vs,r,m⟩:kvs.length<=sizeLine/\(p == sysModules)=false/\∃ vs,KV kvs vs/\s.heap.DictOf (mixKind X.prog X.w) p vs:=I.hok p _ hx
    have hlen:kvs.length=vs.length:=Paired.length r
    exact wpAny_truthy_dict hS m (by omega) ⟨H,I.tok _,by rw [zgw r]; exact q⟩
 | _=>exact (show False from e).elim
theorem zjI (ha:PE X a ta) (he:∀ whole,isTrue a X.env whole=(do let v <- whole; standAt a.pos; holding [v] (truthy v))):
  PT X a (fun σ H Q=>ta σ H fun x H'=>∃ k,TruV X.K x H' k/\Q k H'):=by
 intro pins s σ H Q I h
 exact isTrue_plain (thn (ha pins s σ H _ I h) fun v s1 ⟨x,H1,I1,r1,q1⟩=>zkc pins s1 σ H1 x v Q I1 r1 q1) (he _)
theorem zgd:OpR X (binaryOp .Add) (fun x y H Q=>∃ i j,x=.str i/\y=.str j/\i.length + j.length<=sizeLine/\Q (.str (i++j)) H):=by
 intro pins s σ H x y v u Q I rx ry h
 obtain ⟨i,j,rfl,rfl,hz,q⟩:=h
 obtain ⟨t,rfl⟩:=rx
 obtain ⟨t',rfl⟩:=ry
 exact add_str (fun t' tk=>⟨.str (i++j),H,I.tok _,⟨_,rfl⟩,q⟩) hz
theorem vals1 {x:V} {us:List Value} (r:Vals [x] us):∃ u,us=[u]/\RelV x u:=by
 cases r with
 | cons r1 r2=>cases r2; exact ⟨_,rfl,r1⟩
theorem zhn:CallR X (.type "int") (fun xs H Q=>(∃ i,xs=[.int i]/\Q (.int i) H)\/∃ k,xs=[.bl k]/\Q (.int (if k then 1 else 0)) H):=by
 intro pins s σ H xs us Q I r h
 rcases h with ⟨i,rfl,q⟩ | ⟨k,rfl,q⟩
 ·obtain ⟨u,rfl,t,rfl⟩:=vals1 r
  exact call_int_int ⟨.int i,H,I,⟨_,rfl⟩,q⟩
 ·obtain ⟨u,rfl,r1⟩:=vals1 r
  cases r1
  exact call_int_bool ⟨.int (if k then 1 else 0),H,I.tok _,⟨_,rfl⟩,q⟩
end
end L2
namespace L2
open PySem PySem.Spec PyProof.Rows
structure ObjM (h:Heap) (x dx C:Addr) (mA:Str->Option Value):Prop where
 obj:h.get? x=some (W.instObj C dx)
 ns:h.Ns1 dx mA
 ne:dx≠x
theorem zhS {h:Heap} {dx:Addr} {mA:Str->Option Value} (n:h.Ns1 dx mA):∃ od,h.get? dx=some od/\∀ name,W.lookIn name od=some (mA name):=by
 obtain ⟨o,es,ep,ho,hd,hk,_,hm⟩:=n
 refine ⟨o,ho,fun name=>?_⟩
 have e:=hm name
 unfold nsFind findBy at e
 rw [<- Array.find?_toList] at e
 unfold W.lookIn
 rw [hd]
 dsimp only
 split
 ·rename_i y q
  rw [q] at e
  exact congrArg some e
 ·rename_i q
  rw [q] at e
  have a:es.toList.any (·.refKey)=false:=by
   rw [List.any_eq_false]
   intro y hy
   obtain ⟨z,t,hkey⟩:=hk y (mem_toList_iff.mp hy)
   simp [DictEntry.refKey,hkey]
  have a':¬ es.toList.any (·.refKey)=true:=by rw [a]; exact Bool.false_ne_true
  rw [if_neg a']
  exact congrArg some e
theorem ObjM.look {h:Heap} {x dx C:Addr} {mA:Str->Option Value} (I:ObjM h x dx C mA):∃ od,W.InstAt h x (W.instObj C dx) C (some od)/\∀ name,W.lookIn name od=some (mA name):=
 let ⟨od,ho,hl⟩:=zhS I.ns
 ⟨od,⟨I.obj,rfl,rfl,ho⟩,hl⟩
theorem RelO.some_of {v:V} {o:Option Value} (r:RelO (some v) o):∃ u,o=some u/\RelV v u:=by
 cases o with
 | none=>exact (show False from r).elim
 | some u=>exact ⟨u,rfl,r⟩
section
variable {P:Program} {w:World} {H H':Hp} {h h':Heap} {a C dx:Addr} {fs fs':List (Str×V)}
theorem zkS (hok:HOk P w H h) (e:H a=some (.ins C dx fs)):∃ mA,ObjM h a dx C mA/\(∀ f,RelO (fs.lookup f) (mA f))/\PySem.Within mA (fs.map (·.1))/\fs.length<=1000/\H dx=some (.own a):=by
 obtain ⟨d,z,ne,ob,mA,n,r,q⟩:=(show ObjOk P w H h a (.ins C dx fs) from hok a _ e)
 exact ⟨mA,⟨ob,n,ne⟩,r,q,z,d⟩
end
structure Cls (K:W.Frag) (C:Addr):Prop where
 pg:W.plainGet K C Str.empty=true
 hd:W.hasDictIn K C=true
 po:W.plainOver K C=true
 sa:W.findIn K (.ref C) "__setattr__"=some (some (.builtin "object.__setattr__"))
theorem Cls.get {K:W.Frag} {C:Addr} (c:Cls K C) (f:Str):W.plainGet K C f=true:=c.pg
section
variable {X:Cx} {pins:List (Addr×Obj)} {σ:St} {H:Hp} {s:Shared} {A:Around} {E:Value->Shared->Prop} {Q:Value->Shared->Prop} {c:Value} {b:Bool}
inductive TyOf (K:W.Frag) (H:Hp):V->Value->Prop where
 | non:TyOf K H .non (.type "NoneType")
 | bl (x:Bool):TyOf K H (.bl x) (.type "bool")
 | int (i:Int):TyOf K H (.int i) (.type "int")
 | str (x:Str):TyOf K H (.str x) (.type "str")
 | flt (x:UInt64):TyOf K H (.flt x) (.type "float")
 | lst {a:Addr} {xs:List V} (e:H a=some (.lst xs)):TyOf K H (.ref a) (.type "list")
 | frz {a:Addr} {o:Obj} {xs:List V} (e:H a=some (.frz o (.lst xs))):TyOf K H (.ref a) (.type "list")
 | tup {a:Addr} {xs:List V} (e:H a=some (.tup xs)):TyOf K H (.ref a) (.type "tuple")
 | dK {a:Addr} {kvs:List (Key×V)} (e:H a=some (.dK kvs)):TyOf K H (.ref a) (.type "dict")
 | dT {a:Addr} {kvs:List (List Key×V)} (e:H a=some (.dT kvs)):TyOf K H (.ref a) (.type "dict")
 | ins {a C dx:Addr} {fs:List (Str×V)} (e:H a=some (.ins C dx fs)) (cl:Cls K C) (ha:W.findIn K (.ref C) "__class__"=some (some (.builtin "object.__class__")))
   (hn:W.specialIn K (.builtin "object.__class__") "__get__"=some (some (.builtin "getset_descriptor.__get__"))) (htk:W.takesIn K (.builtin "object.__class__")=some true)
   (hm:W.mroIn K C (.type "object")=some true):TyOf K H (.ref a) (.ref C)
theorem zaO {x:V} {u t:Value} (I:Inv X pins σ H s) (rx:RelV x u) (ty:TyOf X.K H x t) (e:W.kitOne X.K t c=some b) (h:∀ tk,Q (.bool b) { s with toks:=tk }):
  wpAny (model X.prog X.w) A (call (.builtin "isinstance") [u,c]) Q E s:=by
 cases ty with
 | non=>cases (show u=Value.none from rx); exact W.kia_one W.kitx_none I.kIn True.intro e (fun z=>nomatch z) h
 | bl y=>cases (show u=Value.bool y from rx); exact W.kia_one W.kitx_bool I.kIn True.intro e (fun z=>nomatch z) h
 | int i=>obtain ⟨t,q⟩:=(show ∃ t,u=Value.int i t from rx); cases q; exact W.kia_one W.kitx_int I.kIn True.intro e (fun z=>nomatch z) h
 | str y=>obtain ⟨t,q⟩:=(show ∃ t,u=Value.str y t from rx); cases q; exact W.kia_one W.kitx_str I.kIn True.intro e (fun z=>nomatch z) h
 | flt y=>obtain ⟨t,q⟩:=(show ∃ t,u=Value.float y t from rx); cases q; exact W.kia_one W.kitx_float I.kIn True.intro e (fun z=>nomatch z) h
 | @lst a xs ea=>
   cases (show u=Value.ref a from rx)
   obtain ⟨_,_,n,_,h1⟩:=(show ObjOk X.prog X.w H s.heap a (.lst xs) from I.hok a _ ea)
   exact W.kia_one W.kitx_list I.kIn ⟨_,h1,rfl⟩ e (fun z=>nomatch z) h
 | @frz a ob xs ea=>
   cases (show u=Value.ref a from rx)
   obtain ⟨_,_,_,n,_,h1⟩:=(show ObjOk X.prog X.w H s.heap a (.frz ob (.lst xs)) from I.hok a _ ea)
   exact W.kia_one W.kitx_list I.kIn ⟨_,h1,rfl⟩ e (fun z=>nomatch z) h
 | @tup a xs ea=>
   cases (show u=Value.ref a from rx)
   obtain ⟨_,_,_,p⟩:=(show ObjOk X.prog X.w H s.heap a (.tup xs) from I.hok a _ ea)
   obtain ⟨o,h1,h2,_⟩:=p
   exact W.kia_one W.kitx_tuple I.kIn ⟨o,h1,h2⟩ e (fun z=>nomatch z) h
 | @dK a kvs ea=>
   cases (show u=Value.ref a from rx)
   obtain ⟨_,_,vs,_,p⟩:=(show ObjOk X.prog X.w H s.heap a (.dK kvs) from I.hok a _ ea)
   obtain ⟨o,es,ep,h1,h2,_⟩:=p
   exact W.kia_one W.kitx_dict I.kIn ⟨o,h1,h2.1⟩ e (fun z=>nomatch z) h
 | @dT a kvs ea=>
   cases (show u=Value.ref a from rx)
   obtain ⟨_,_,xs,_,o,es,ep,h1,h2,_⟩:=(show ObjOk X.prog X.w H s.heap a (.dT kvs) from I.hok a _ ea)
   exact W.kia_one W.kitx_dict I.kIn ⟨o,h1,h2.1⟩ e (fun z=>nomatch z) h
 | @ins a C dx fs ea cl ha hn htk hm=>
   cases (show u=Value.ref a from rx)
   obtain ⟨mA,O,_⟩:=zkS I.hok ea
   obtain ⟨od,J,_⟩:=O.look
   exact W.kia_one (W.kitx_own (cl.get _) cl.hd ha hn htk hm) I.kIn J e (fun z=>nomatch z) h
end
end L2
namespace L2
open PySem PySem.Spec PyProof.Rows
structure Room (k:Nat) (A:Around):Prop where
 hd:A.handled=none
 dp:A.depth + 3 * k + 5 < recursionLimit
 un:A.units + 16 * k + 200 < cLine
 gd:A.guards=some []
theorem Room.mono {j k:Nat} {A:Around} (r:Room k A) (h:j<=k):Room j A:=⟨r.hd,by have:=r.dp; omega,by have:=r.un; omega,r.gd⟩
theorem Room.deeper {k:Nat} {A:Around} (r:Room (k + 1) A) (env:Env):Room k (A.deeper env):=
 ⟨r.hd,by have:=r.dp; show A.depth + 1 + 3 * k + 5 < _; omega,by have:=r.un; show A.units + 3 + 16 * k + 200 < _; omega,r.gd⟩
theorem Room.depth {k:Nat} {A:Around} (r:Room k A):A.depth < recursionLimit:=by have:=r.dp; omega
theorem Room.units {k:Nat} {A:Around} (r:Room k A):A.units + 64 < cLine:=by have:=r.un; omega
def tNil:TA:=fun _ H Q=>Q [] H
def tCons (ta:TE) (tr:TA):TA:=fun σ H Q=>ta σ H fun x H1=>tr σ H1 fun xs H2=>Q (x::xs) H2
section
variable {X:Cx} {e:Expr} {es:List Expr} {te:TE} {t:TA} {pos:Pos}
theorem znz:PA X [] tNil:=fun _ _ _ _ H Q I h=>Calls.spliced_nil ⟨[],H,I,.nil,h⟩
theorem zlJ (ha:PE X e te) (hr:PA X es t) (hs:starEach (e::es) X.env=(false,eval e X.env)::starEach es X.env:=by rfl):PA X (e::es) (tCons te t):=by
 intro pos pins s σ H Q I h
 rw [hs]
 show wpAny _ _ (spliced ((false,eval e X.env)::backTo pos (starEach es X.env))) _ _ s
 refine Calls.spliced_cons (thn (ha pins s σ H _ I h) fun u s1 ⟨x,H1,I1,r1,q1⟩=>?_)
 exact thn (hr pos pins s1 σ H1 _ I1 q1) fun us s2 ⟨xs,H2,I2,r2,q2⟩=>⟨x::xs,H2,I2,.cons r1 r2,q2⟩
def tTup (t:TA):TE:=fun σ H Q=>t σ H fun xs H1=>xs.length<=sizeLine/\∀ p,H1 p=none->Q (.ref p) (upd H1 p (.tup xs))
def tLst (t:TA):TE:=fun σ H Q=>t σ H fun xs H1=>xs.length<=sizeLine/\∀ p,H1 p=none->Q (.ref p) (upd H1 p (.lst xs))
theorem zl0 {x1} (h:PA X es t):PE X (.Tuple es x1 pos) (tTup t):=by
 intro pins s σ H Q I hq
 refine wpAny_Tuple_spliced (thn (h pos pins s σ H _ I hq) fun us s1 ⟨xs,H1,I1,r,z,q⟩=>⟨by rw [<- r.length]; exact z,?_⟩)
 have hf:H1 s1.heap.objs.size=none:=I1.hok.fresh (le_refl _)
 refine ⟨.ref s1.heap.objs.size,upd H1 s1.heap.objs.size (.tup xs),I1.laid (t':=s1.toks) (fun b u e=>Heap.get?_push_of_some _ e) (le_refl _) ?_,rfl,q _ hf⟩
 exact ⟨z,us,r,⟨_,Heap.get?_push_size _ rfl,rfl,_,rfl⟩⟩
theorem zm0 (h:PA X es t):PE X (.List es pos) (tLst t):=by
 intro pins s σ H Q I hq
 refine wpAny_List_spliced (thn (h pos pins s σ H _ I hq) fun us s1 ⟨xs,H1,I1,r,z,q⟩=>⟨by rw [<- r.length]; exact z,?_⟩)
 have hf:H1 s1.heap.objs.size=none:=I1.hok.fresh (le_refl _)
 refine ⟨.ref s1.heap.objs.size,upd H1 s1.heap.objs.size (.lst xs),I1.laid (t':=s1.toks) (fun b u e=>Heap.get?_push_of_some _ e) (le_refl _) ?_,rfl,q _ hf⟩
 exact ⟨z,us,0,r,Heap.get?_push_size _ rfl⟩
end
abbrev Sp:=List V->Hp->VK->XK->Prop
abbrev CXT:=List Env->Hp->Shared->XK->Value->Shared->Prop
structure Env0 (P:Program) (w:World) (K:W.Frag) (mg:Str->Option Value) (base:Heap) (A:Around) (outer:List Env) (s:Shared) (H:Hp):Prop where
 frames:A.frames=some outer
 mod:Mod K mg base
 bs:∀ b o,base.get? b=some o->s.heap.get? b=some o/\H b=none
 bsz:base.objs.size<=s.heap.objs.size
 funs:s.heap.FunFrames base outer
 frf:∀ b∈frs outer,H b=none
 hok:HOk P w H s.heap
 bare:AllBare s.gens
def CE (outer:List Env) (P:Program) (w:World) (H:Hp) (s:Shared) (Q:VK) (u:Value) (s':Shared):Prop:=
 ∃ v H',s'.os=s.os/\AllBare s'.gens/\Un (frs outer) [] H H' s.heap s'.heap/\HOk P w H' s'.heap/\RelV v u/\Q v H'
def CR (CX:CXT) (outer:List Env) (P:Program) (w:World) (H:Hp) (s:Shared) (Q:VK) (E:XK) (r:Result) (s':Shared):Prop:=
 match r with
 | .ok (.ret u)=>CE outer P w H s Q u s'
 | .ok _=>False
 | .error e=>CX outer H s E e s'
structure FnOk (P:Program) (w:World) (K:W.Frag) (mg:Str->Option Value) (base:Heap) (CX:CXT) (k:Nat) (f:Addr) (fd:FuncData) (ps:List Str) (sp:Sp):Prop where
 len:∀ vs H Q E,sp vs H Q E->vs.length=ps.length
 run:∀ (A:Around) (outer:List Env) (s:Shared) (H:Hp) (args:Args) (us:List Value) (vs:List V) (Q:VK) (E:XK),Room k A->Env0 P w K mg base A outer s H->BindsTo s fd args (ps.zip us)->Vals vs us->sp vs H Q E->
  codeAny (model P w) A (.call (.ref f) args) (CR CX outer P w H s Q E) s
section
variable {X:Cx} {pins:List (Addr×Obj)} {σ:St} {H:Hp} {s s':Shared}
theorem Inv.env0 (I:Inv X pins σ H s):Env0 X.prog X.w X.K X.mg X.base X.A X.stack s H:=
 ⟨I.ok.frames,I.ok.mod,I.bs,le_trans I.ok.bsz I.sz,I.stack,I.stkFree,I.hok,I.bare⟩
theorem Inv.after {Q:VK} {u:Value} (I:Inv X pins σ H s) (h:CE X.stack X.prog X.w H s Q u s'):EP X pins σ Q u s':=by
 obtain ⟨v,H',os,bare,un,hok,r,q⟩:=h
 obtain ⟨hh,g,d,t,os'⟩:=s'
 obtain rfl:os'=s.os:=os
 exact ⟨v,H',I.call (h':=hh) (g':=g) (d':=d) (t':=t) (ch:=[]) un hok bare (fun b z=>absurd z (by simp)),r,q⟩
end
def tCall (sp:Sp) (dvs:List V) (E:XK) (t:TA):TE:=fun σ H Q=>t σ H fun vs H1=>sp (vs++dvs) H1 Q E
def Binds (K:W.Frag) (fd:FuncData) (ps:List Str) (ds:List Value):Prop:=
 ∀ (s:Shared) (us:List Value),K.In s.heap->(us++ds).length=ps.length->BindsTo s fd ⟨us,[]⟩ (ps.zip (us++ds))
theorem Binds.all {K:W.Frag} {fd:FuncData} {ps:List Str} (h:∀ us:List Value,us.length=ps.length->bindArgs fd ⟨us,[]⟩=pure (ps.zip us)):Binds K fd ps []:=fun s us _ hl=>by
 rw [append_nil] at hl ⊢
 exact .of_eq (h us hl)
def Passes (CX:CXT) (X:Cx) (E:XK):Prop:=∀ (pins:List (Addr×Obj)) (σ:St) (H:Hp) (s:Shared) (e:Value) (s':Shared),Inv X pins σ H s->CX X.stack H s E e s'->X.xe e s'
section
variable {X:Cx} {CX:CXT} {k:Nat} {f C:Addr} {fd:FuncData} {ps:List Str} {sp:Sp} {dvs:List V} {ds:List Value} {E:XK} {x m:Str} {p pos apos:Pos} {e o:Expr} {es:List Expr} {ta:TE} {t:TA}
theorem zmY {pins:List (Addr×Obj)} {σ:St} {H:Hp} {s:Shared} {Q:VK} {us:List Value} {vs:List V} (F:FnOk X.prog X.w X.K X.mg X.base CX k f fd ps sp) (hr:Room k X.A) (hb:Binds X.K fd ps ds) (hd:Vals dvs ds) (hx:Passes CX X E)
  (I:Inv X pins σ H s) (r:Vals vs us) (h:sp (vs++dvs) H Q E):wpAny (model X.prog X.w) X.A (call (.ref f) us) (EP X pins σ Q) X.xe s:=by
 have r2:Vals (vs++dvs) (us++ds):=r.append hd
 have hl:(us++ds).length=ps.length:=by rw [<- r2.length]; exact F.len _ _ _ _ h
 refine wpAny_call (codeAny_mono (F.run X.A X.stack s H ⟨us,[]⟩ (us++ds) (vs++dvs) Q E hr I.env0 (hb s us I.kIn hl) r2 h) fun r s' hq=>?_)
 cases r with
 | error e=>exact hx pins σ H s e s' I hq
 | ok fl=>
   cases fl with
   | ret u=>exact I.after hq
   | next=>exact False.elim hq
   | brk=>exact False.elim hq
   | cont=>exact False.elim hq
theorem zlu (F:FnOk X.prog X.w X.K X.mg X.base CX k f fd ps sp) (hr:Room k X.A) (hg:Gl X x) (hm:X.mg x=some (.ref f)) (hk:W.keepIn X.K (.ref f)=true) (hb:Binds X.K fd ps ds) (hd:Vals dvs ds) (hx:Passes CX X E)
  (ha:PA X (e::es) t) (hdb:(x == ("__debug__":Str))=false:=by decide) (he:starEach (e::es) X.env=(false,eval e X.env)::starEach es X.env:=by rfl) (hpl:(backTo pos (starEach es X.env)).any (·.1)=false:=by rfl):
  PE X (.Call (.Name x p) (e::es) [] pos) (tCall sp dvs E t):=by
 intro pins s σ H Q I h
 refine wpAny_Call_Name_kw (zlc I hg hm ?_ hdb)
 refine W.callWith_K (h₀:=X.base) I.ok.mod.kin hk (thn (ha pos pins s σ H _ I h) fun us s1 ⟨vs,H1,I1,r,q⟩=>⟨I1.kIn,?_⟩) he hpl
 exact zmY F hr hb hd hx I1 r q
end
section
variable {X:Cx} {CX:CXT} {k:Nat} {f C:Addr} {fd:FuncData} {ps ks:List Str} {sp:Sp} {E:XK} {x m:Str} {p pos apos kpos:Pos} {e o:Expr} {es:List Expr} {kws:List Keyword} {te ta:TE} {t tk:TA} {nm:Option Str}
variable {g:List Value->List Value->List Value} {gV:List V->List V->List V}
end
structure FnScope (N P:List Str) (sc:Scope):Prop where
 kind:sc.kind=.function
 co:sc.isCoroutine=false
 gen:sc.isGenerator=false
 nd:N.Nodup
 pre:N.take P.length=P
 par:∀ x∈P,sc.names.lookup x=some .local\/sc.names.lookup x=some .cell
 nofree:∀ y∈sc.names,y.2≠.free
theorem zd3 {kindOf:Str->Option NameKind} {x:Str}:∀ {binds:List (Str×Value)} {m:Str->Option Value},(∀ v,(x,v)∉binds)->bindL kindOf binds m x=m x
 | [],_,_=>rfl
 | (n,v)::r,m,h=>by
   unfold bindL
   rw [zd3 fun w hw=>h w (mem_cons_of_mem _ hw)]
   split
   ·have:x≠n:=by rintro rfl; exact h v mem_cons_self
    simp [this]
   ·rfl
theorem zdZ {kindOf:Str->Option NameKind} {x:Str}:∀ {binds:List (Str×Value)} {m:Str->Option Value},(∀ v,(x,v)∉binds)->bindC kindOf binds m x=m x
 | [],_,_=>rfl
 | (n,v)::r,m,h=>by
   unfold bindC
   rw [zdZ fun w hw=>h w (mem_cons_of_mem _ hw)]
   split
   ·rfl
   ·have:x≠n:=by rintro rfl; exact h v mem_cons_self
    simp [this]
theorem zd7 {kindOf:Str->Option NameKind} {x:Str} {v:Value}:∀ {P:List Str} {vs:List Value} {i:Nat} {m:Str->Option Value},P.Nodup->P[i]?=some x->vs[i]?=some v->kindOf x=some .local->
  bindL kindOf (P.zip vs) m x=some v
 | [],_,_,_,_,h,_,_=>by simp at h
 | _::_,[],_,_,_,_,h,_=>by simp at h
 | p::P,w::vs,0,m,nd,h1,h2,hk=>by
   simp at h1 h2; subst h1; subst h2
   show bindL kindOf ((p,w)::P.zip vs) m p=_
   unfold bindL
   rw [zd3 fun v hv=>(nodup_cons.mp nd).1 (of_mem_zip hv).1,if_pos hk]
   simp
 | p::P,w::vs,i + 1,m,nd,h1,h2,hk=>by
   show bindL kindOf ((p,w)::P.zip vs) m x=_
   unfold bindL
   exact zd7 (i:=i) (nodup_cons.mp nd).2 (by simpa using h1) (by simpa using h2) hk
theorem zeB {kindOf:Str->Option NameKind} {x:Str} {v:Value}:∀ {P:List Str} {vs:List Value} {i:Nat} {m:Str->Option Value},P.Nodup->P[i]?=some x->vs[i]?=some v->kindOf x≠some .local->
  bindC kindOf (P.zip vs) m x=some v
 | [],_,_,_,_,h,_,_=>by simp at h
 | _::_,[],_,_,_,_,h,_=>by simp at h
 | p::P,w::vs,0,m,nd,h1,h2,hk=>by
   simp at h1 h2; subst h1; subst h2
   show bindC kindOf ((p,w)::P.zip vs) m p=_
   unfold bindC
   rw [zdZ fun v hv=>(nodup_cons.mp nd).1 (of_mem_zip hv).1,if_neg hk]
   simp
 | p::P,w::vs,i + 1,m,nd,h1,h2,hk=>by
   show bindC kindOf ((p,w)::P.zip vs) m x=_
   unfold bindC
   exact zeB (i:=i) (nodup_cons.mp nd).2 (by simpa using h1) (by simpa using h2) hk
def start (N:List Str) (vs:List V):St:=vs.map some++List.replicate (N.length - vs.length) none
def cxOf (CX:CXT) (P:Program) (w:World) (K:W.Frag) (mg:Str->Option Value) (base:Heap) (N:List Str) (qual:Str) (scope:Scope) (f:Addr) (cd:Value) (A:Around) (outer:List Env) (s:Shared) (H:Hp) (E:XK):Cx where
 prog:=P
 w:=w
 K:=K
 mg:=mg
 base:=base
 A:=A.deeper (envOfC qual scope s.heap.objs.size f cd)
 N:=N
 s₀:=s
 H₀:=H
 env:=envOfC qual scope s.heap.objs.size f cd
 outer:=outer
 stack:=envOfC qual scope s.heap.objs.size f cd::outer
 ex:=[]
 calm:=true
 fn:=fun _=>true
 pn:=[]
 xe:=fun e s'=>wpAny (model P w) (A.deeper (envOfC qual scope s.heap.objs.size f cd)) (leaving (envOfC qual scope s.heap.objs.size f cd) e) (fun _ s''=>CX outer H s E e s'') (fun e' s''=>CX outer H s E e' s'') s'
theorem zfF {sc:Scope} {n:Nat} {x:Str} (h:sc.names.lookup x=some .cell):∃ c,(cellsFrom n sc.names []).lookup x=some c:=by
 have q:=W.cellsFrom_some sc.names n [] (.inl h)
 exact isSome_iff_exists.mp q
theorem ziq {CX:CXT} {P:Program} {w:World} {K:W.Frag} {mg:Str->Option Value} {base:Heap} {N ps:List Str} {qual:Str} {scope:Scope} {f:Addr} {cd:Value} {A:Around} {outer:List Env} {s s1:Shared} {H:Hp} {E:XK} {us:List Value} {vs:List V}
  (S:FnScope N ps scope) (hd:A.handled=none) (e0:Env0 P w K mg base A outer s H) (hl:vs.length=ps.length) (r:Vals vs us)
  (x:InCallC s s.heap.objs.size (bindL (envOfC qual scope s.heap.objs.size f cd).kindOf (ps.zip us) fun _=>none) (cellsFrom (s.heap.objs.size + 1) scope.names []) (bindC (envOfC qual scope s.heap.objs.size f cd).kindOf (ps.zip us) fun _=>none) s1):
  Inv (cxOf CX P w K mg base N qual scope f cd A outer s H E) [] (start N vs) H s1:=by
 have hpl:ps.length<=N.length:=by have:=congrArg List.length S.pre; rw [length_take] at this; omega
 obtain ⟨h1,tk,rfl,hk⟩:=x.done
 have noA:∀ b:Addr,b∉(cxOf CX P w K mg base N qual scope f cd A outer s H E).ex:=fun b z=>absurd (show b∈([]:List Addr) from z) (by simp)
 refine ⟨⟨e0.mod,S.kind,rfl,rfl,le_refl _,fun y z c h1 h2=>?_,fun y hy=>?_,fun y c _ h=>?_,fun _=>hd,Around.frames_deeper e0.frames,.inr ⟨rfl,rfl⟩,fun b z=>absurd z (noA b),e0.bs,e0.bsz,fun b _ _=>noA b,fun b z=>absurd z (noA b),e0.funs,e0.frf⟩,
  rfl,e0.bare,Un.kept hk,⟨_,x.toInCall.ns,fun i y v h1 h2 h3=>?_⟩,fun y c h=>⟨_,x.cell y c h⟩,e0.hok.fresh (le_refl _),fun y c h=>?_,fun p hp=>absurd (show p∈([]:List (Addr×Obj)) from hp) (by simp),e0.hok.kept hk,?_⟩
 ·exact name_of_addr x.apart (PySem.mem_of_lookup h1) (PySem.mem_of_lookup h2)
 ·have hy:scope.names.lookup y=some .cell\/scope.names.lookup y=some .free:=hy
  rcases hy with hy | hy
  ·exact zfF hy
  ·exact absurd rfl (S.nofree _ (PySem.mem_of_lookup hy))
 ·exact le_of_lt (x.above y c (PySem.mem_of_lookup h))
 ·have hi:i < vs.length:=by
   unfold start at h2
   by_cases hi:i < vs.length
   ·exact hi
   ·rw [getElem?_append_right (by simpa using hi)] at h2
    rw [List.getElem?_replicate] at h2
    split at h2 <;> cases h2
  have ha:vs[i]?=some v:=by
   unfold start at h2
   rw [getElem?_append_left (by simpa using hi),getElem?_map] at h2
   cases e:vs[i]? with
   | none=>rw [e] at h2; cases h2
   | some a=>rw [e] at h2; cases h2; rfl
  obtain ⟨u,hu,rv⟩:=r.get ha
  have hp:ps[i]?=some y:=by
   rw [<- S.pre,List.getElem?_take_of_lt (by omega)]; exact h1
  have ndP:ps.Nodup:=by rw [<- S.pre]; exact S.nd.sublist (List.take_sublist _ _)
  refine ⟨u,rv,?_⟩
  rcases S.par y (mem_of_getElem? hp) with k | k
  ·exact .inl ⟨k,zd7 ndP hp hu k⟩
  ·obtain ⟨c,e⟩:=zfF (n:=s.heap.objs.size + 1) k
   refine .inr ⟨.inl k,c,e,?_⟩
   have q:=x.cell y c e
   rw [zeB ndP hp hu (by show scope.names.lookup y≠_; rw [k]; decide)] at q
   exact q
 ·exact e0.hok.fresh (le_of_lt (x.above y c (PySem.mem_of_lookup h)))
 ·unfold start
  show _=N.length
  rw [length_append,length_map,List.length_replicate]
  omega
theorem zqW {CX:CXT} {P:Program} {w:World} {K:W.Frag} {mg:Str->Option Value} {base:Heap} {k:Nat} {f:Addr} {name qual:Str} {params:Arguments} {body:List Stmt} {scope:Scope} {dV kV doc pm cdv ct oc:Value} {an od:Option Addr}
  {osl:Array (Option Value)} {N ps:List Str} {sp:Sp} (lk:K.lookup f=some ⟨oc,od,.func (W.fnOf name qual params body scope dV kV doc pm an cdv ct),osl⟩) (hcd:W.codeIn K cdv qual=true) (S:FnScope N ps scope)
  (len:∀ vs H Q E,sp vs H Q E->vs.length=ps.length)
  (hbody:∀ (A:Around) (outer:List Env) (s:Shared) (H:Hp) (vs:List V) (Q:VK) (E:XK),Room k (A.deeper (envOfC qual scope s.heap.objs.size f cdv))->sp vs H Q E->
   ∃ t,PSs (cxOf CX P w K mg base N qual scope f cdv A outer s H E) body t/\t { nx:=fun _ H'=>Q .non H',rt:=Q } (start N vs) H):
  FnOk P w K mg base CX (k + 1) f (W.fnOf name qual params body scope dV kV doc pm an cdv ct) ps sp:=by
 refine ⟨len,fun A outer s H args us vs Q E hr e0 hb r hsp=>?_⟩
 have hl:=len _ _ _ _ hsp
 have KX:K.In s.heap:=e0.mod.kin.keeps fun b o e=>(e0.bs b o e).1
 have lim:s.heap.NoLimit:=e0.mod.nolimit.keeps fun b o e=>(e0.bs b o e).1
 have hkind:∀ y∈ps.zip us,scope.names.lookup y.1=some .local\/(scope.names.lookup y.1=some .cell/\((cellsFrom (s.heap.objs.size + 1) scope.names []).lookup y.1).isSome=true):=fun ⟨n,v⟩ hy=>by
  rcases S.par n (of_mem_zip hy).1 with q | q
  ·exact .inl q
  ·exact .inr ⟨q,W.cellsFrom_some _ _ _ (.inl q)⟩
 refine codeAny_call_function hr.depth (KX _ _ lk) rfl S.co S.gen rfl (W.codeRec_of KX hcd) (hb _ _ _ _ ?_)
 refine wpAny_newFunctionEnv_cells S.kind hkind fun env he s1 x=>?_
 subst he
 refine ⟨lim.keeps x.toInCall.keep,codeAny_func ?_⟩
 obtain ⟨t,ht,hq⟩:=hbody A outer s H vs Q E (hr.deeper _) hsp
 have I:Inv (cxOf CX P w K mg base N qual scope f cdv A outer s H E) [] (start N vs) H s1:=ziq S hr.hd e0 hl r x
 refine wpAny_mono (ht [] s1 (start N vs) H _ I hq) (fun fl s' hs=>?_) fun e s' hs=>hs
 have fin:∀ {σ':St} {H':Hp} {v:V} {u:Value},Inv (cxOf CX P w K mg base N qual scope f cdv A outer s H E) [] σ' H' s'->RelV v u->Q v H'->CE outer P w H s Q u s':=
  fun {σ' H' v u} J rv q=>⟨v,H',J.os,J.bare,J.base,J.hok,rv,q⟩
 cases fl with
 | ret u=>
   obtain ⟨v,σ',H',J,rv,q⟩:=hs
   exact fin J rv q
 | next=>
   obtain ⟨σ',H',J,q⟩:=hs
   exact fin (v:=V.non) (u:=Value.none) J rfl q
 | brk=>
   obtain ⟨_,_,_,q⟩:=hs
   exact False.elim q
 | cont=>
   obtain ⟨_,_,_,q⟩:=hs
   exact False.elim q
end L2
namespace L2
open PySem PySem.Spec PyProof.Rows
section
variable {X:Cx} {x:Str} {p pos:Pos} {e:Expr} {es:List Expr} {t:TA} {id T:String} {r:List V->Hp->VK->Prop}
def tCB (r:List V->Hp->VK->Prop) (t:TA):TE:=fun σ H Q=>t σ H fun vs H1=>r vs H1 Q
theorem zjM (hc:CallR X (.builtin id) r) (hg:Gl X x) (hm:X.mg x=none) (hv:bootBuiltins x=some (.builtin id)) (ha:PA X (e::es) t) (hn:x≠"__name__":=by decide) (hdb:(x == ("__debug__":Str))=false:=by decide)
  (he:starEach (e::es) X.env=(false,eval e X.env)::starEach es X.env:=by rfl) (hpl:(backTo pos (starEach es X.env)).any (·.1)=false:=by rfl):PE X (.Call (.Name x p) (e::es) [] pos) (tCB r t):=by
 intro pins s σ H Q I h
 refine wpAny_Call_Name_kw (zbr I hg hm hv ?_ hn hdb)
 exact PyProof.Rows.callWith_builtin1 (thn (ha pos pins s σ H _ I h) fun us s1 ⟨vs,H1,I1,r1,q1⟩=>hc pins s1 σ H1 vs us Q I1 r1 q1) he hpl
theorem zhX (hc:CallR X (.type T) r) (hg:Gl X x) (hm:X.mg x=none) (hv:bootBuiltins x=some (.type T)) (ha:PA X (e::es) t) (hn:x≠"__name__":=by decide) (hdb:(x == ("__debug__":Str))=false:=by decide)
  (he:starEach (e::es) X.env=(false,eval e X.env)::starEach es X.env:=by rfl) (hpl:(backTo pos (starEach es X.env)).any (·.1)=false:=by rfl):PE X (.Call (.Name x p) (e::es) [] pos) (tCB r t):=by
 intro pins s σ H Q I h
 refine wpAny_Call_Name_kw (zbr I hg hm hv ?_ hn hdb)
 exact PyProof.Rows.callWith_type1 (thn (ha pos pins s σ H _ I h) fun us s1 ⟨vs,H1,I1,r1,q1⟩=>hc pins s1 σ H1 vs us Q I1 r1 q1) he hpl
end
end L2
end
section
namespace L2
open PySem PySem.Spec PyProof.Rows
section
variable {κ:Type} [DecidableEq κ]
def valV (kvs:List (κ×V)) (k:κ):Option V:=(kvs.find? fun kv=>decide (kv.1=k)).map (·.2)
def putK (kvs:List (κ×V)) (k:κ) (v:V):List (κ×V):=
 if (kvs.any fun kv=>decide (kv.1=k))=true then kvs.map (fun kv=>if kv.1=k then (kv.1,v) else kv) else kvs++[(k,v)]
theorem zbH {p:κ×V} {r:List (κ×V)} {k:κ} (e:p.1=k):valV (p::r) k=some p.2:=by simp [valV,find?_cons,e]
theorem zbZ {p:κ×V} {r:List (κ×V)} {k:κ} (e:¬ p.1=k):valV (p::r) k=valV r k:=by simp [valV,find?_cons,e]
theorem zf5 (k:κ):∀ kvs:List (κ×V),(kvs.any fun kv=>decide (kv.1=k))=(valV kvs k).isSome
 | []=>rfl
 | p::r=>by
   rw [any_cons]
   by_cases e:p.1=k
   ·simp only [zbH e,decide_eq_true e,Bool.true_or,isSome_some]
   ·rw [zbZ e,decide_eq_false e,Bool.false_or]; exact zf5 k r
theorem zaM (kvs:List (κ×V)) (k:κ) (v:V):(putK kvs k v).length<=kvs.length + 1:=by
 unfold putK
 split
 ·rw [length_map]; omega
 ·rw [length_append,length_cons,length_nil]; omega
theorem RelO.isSome_eq {o:Option V} {u:Option Value} (r:RelO o u):o.isSome=u.isSome:=by
 cases o with
 | none=>cases u with
   | none=>rfl
   | some _=>exact (show False from r).elim
 | some _=>cases u with
   | none=>exact (show False from r).elim
   | some _=>rfl
theorem KV.val {kvs:List (κ×V)} {vs:List (κ×Value)} (r:KV kvs vs) (k:κ):RelO (valV kvs k) (valueAt vs k):=by
 unfold KV at r
 induction r with
 | nil=>exact True.intro
 | @cons p q ps qs h t ih=>
   obtain ⟨h1,h2⟩:=h
   by_cases e:p.1=k
   ·have e':q.1=k:=h1.symm.trans e
    have b:valueAt (q::qs) k=some q.2:=by simp [valueAt,find?_cons,e']
    rw [zbH e,b]; exact h2
   ·have e':¬ q.1=k:=fun z=>e (h1.trans z)
    have b:valueAt (q::qs) k=valueAt qs k:=by simp [valueAt,find?_cons,e']
    rw [zbZ e,b]; exact ih
theorem KV.any {kvs:List (κ×V)} {vs:List (κ×Value)} (r:KV kvs vs) (k:κ):(kvs.any fun kv=>decide (kv.1=k))=vs.any fun kv=>decide (kv.1=k):=by
 unfold KV at r
 induction r with
 | nil=>rfl
 | cons h t ih=>rw [any_cons,any_cons,ih,h.1]
theorem KV.repl {kvs:List (κ×V)} {vs:List (κ×Value)} (r:KV kvs vs) (k:κ) {y:V} {u:Value} (ry:RelV y u):
  KV (kvs.map fun kv=>if kv.1=k then (kv.1,y) else kv) (vs.map fun kv=>if kv.1=k then (kv.1,u) else kv):=by
 unfold KV at r ⊢
 induction r with
 | nil=>exact .nil
 | @cons p q ps qs h t ih=>
   rw [map_cons,map_cons]
   refine .cons ?_ ih
   obtain ⟨h1,h2⟩:=h
   by_cases e:p.1=k
   ·rw [if_pos e,if_pos (h1.symm.trans e)]; exact ⟨h1,ry⟩
   ·rw [if_neg e,if_neg (fun z=>e (h1.trans z))]; exact ⟨h1,h2⟩
theorem KV.put {kvs:List (κ×V)} {vs:List (κ×Value)} (r:KV kvs vs) (k:κ) {y:V} {u:Value} (ry:RelV y u):KV (putK kvs k y) (stored vs k u):=by
 unfold putK stored
 rw [r.any k]
 by_cases e:(vs.any fun kv=>decide (kv.1=k))=true
 ·rw [if_pos e,if_pos e]; exact r.repl k ry
 ·rw [if_neg e,if_neg e]; exact Paired.snoc r ⟨rfl,ry⟩
theorem KV.length {kvs:List (κ×V)} {vs:List (κ×Value)} (r:KV kvs vs):kvs.length=vs.length:=Paired.length r
end
theorem zfg {P:Program} {w:World} {k:Key} {u:Value} (r:RelV (kV k) u):(mixKind P w).is k u=true:=by
 cases k with
 | inl i=>obtain ⟨t,e⟩:=(show ∃ t,u=Value.int i t from r); subst e; exact zfr P w i t
 | inr x=>obtain ⟨t,e⟩:=(show ∃ t,u=Value.str x t from r); subst e; exact zfj P w x t
theorem zec {P:Program} {w:World}:∀ {ks:List Key} {us:List Value},Vals (ks.map kV) us->ItemsAre (mixKind P w) ks us
 | [],_,r=>by rw [map_nil] at r; cases r; exact .nil
 | k::ks,_,r=>by
   rw [map_cons] at r
   cases r with
   | cons h t=>exact .cons (zfg h) (zec t)
abbrev KT (H:Hp):List (List Key×V)->List (List Key×Addr×Value)->Prop:=Paired fun p q=>p.1=q.1/\H q.2.1=some (.tup (p.1.map kV))/\RelV p.2 q.2.2
theorem KT.val {H:Hp} {kvs:List (List Key×V)} {xs:List (List Key×Addr×Value)} (r:KT H kvs xs) (k:List Key):RelO (valV kvs k) ((atKey xs k).map (·.2)):=by
 induction r with
 | nil=>exact True.intro
 | @cons p q ps qs h t ih=>
   obtain ⟨h1,_,h2⟩:=h
   by_cases e:p.1=k
   ·have e':q.1=k:=h1.symm.trans e
    have b:atKey (q::qs) k=some q.2:=by simp [atKey,find?_cons,e']
    rw [zbH e,b]; exact h2
   ·have e':¬ q.1=k:=fun z=>e (h1.trans z)
    have b:atKey (q::qs) k=atKey qs k:=by simp [atKey,find?_cons,e']
    rw [zbZ e,b]; exact ih
theorem KT.repl {H:Hp} {kvs:List (List Key×V)} {xs:List (List Key×Addr×Value)} (r:KT H kvs xs) (k:List Key) {y:V} {u:Value} (ry:RelV y u):
  KT H (kvs.map fun kv=>if kv.1=k then (kv.1,y) else kv) (xs.map (putAt k u)):=by
 induction r with
 | nil=>exact .nil
 | @cons p q ps qs h t ih=>
   rw [map_cons,map_cons]
   refine .cons ?_ ih
   obtain ⟨h1,h2,h3⟩:=h
   unfold putAt
   by_cases e:p.1=k
   ·rw [if_pos e,if_pos (h1.symm.trans e)]; exact ⟨h1,h2,ry⟩
   ·rw [if_neg e,if_neg (fun z=>e (h1.trans z))]; exact ⟨h1,h2,h3⟩
theorem KT.put {H:Hp} {kvs:List (List Key×V)} {xs:List (List Key×Addr×Value)} (r:KT H kvs xs) (k:List Key) {b:Addr} {y:V} {u:Value} (hb:H b=some (.tup (k.map kV))) (ry:RelV y u):
  KT H (putK kvs k y) (storedH xs k b u):=by
 have e:(kvs.any fun kv=>decide (kv.1=k))=(atKey xs k).isSome:=by
  rw [zf5,(r.val k).isSome_eq,isSome_map]
 unfold putK storedH
 rw [e]
 by_cases q:(atKey xs k).isSome=true
 ·rw [if_pos q,if_pos q]; exact r.repl k ry
 ·rw [if_neg q,if_neg q]; exact Paired.snoc r ⟨rfl,hb,ry⟩
theorem KT.keeps {H H':Hp} {kvs:List (List Key×V)} {xs:List (List Key×Addr×Value)} (r:KT H kvs xs) (ht:∀ b ys,H b=some (.tup ys)->H' b=some (.tup ys)):KT H' kvs xs:=
 Paired.mapP r fun _ _ z=>⟨z.1,ht _ _ z.2.1,z.2.2⟩
section
variable {P:Program} {w:World} {H:Hp} {h:Heap} {a:Addr}
theorem zm6 {u:HO} (ok:HOk P w H h) (e:Rd H a u):ObjOk P w H h a u:=e.ok ok
theorem ziy {kvs:List (Key×V)} (ok:HOk P w H h) (e:Rd H a (.dK kvs)):kvs.length<=sizeLine/\(a == sysModules)=false/\∃ vs,KV kvs vs/\h.DictOf (mixKind P w) a vs:=
 show ObjOk P w H h a (.dK kvs) from zm6 ok e
theorem zkK {kvs:List (Key×V)} (ok:HOk P w H h) (e:H a=some (.dK kvs)):kvs.length<=sizeLine/\(a == sysModules)=false/\∃ vs,KV kvs vs/\h.DictOf (mixKind P w) a vs:=ziy ok (.inl e)
theorem zdh {ks:List Key} (ok:HOk P w H h) (e:H a=some (.tup (ks.map kV))):(tupleKind (mixKind P w)).is h ks a:=by
 obtain ⟨_,its,r,o,h1,h2,n,h3⟩:=(show ObjOk P w H h a (.tup (ks.map kV)) from ok a _ e)
 exact ⟨o,its.toArray,n,h1,h2,h3,by simpa using zec r⟩
theorem zgT {kvs:List (List Key×V)} (ok:HOk P w H h) (e:Rd H a (.dT kvs)):kvs.length<=sizeLine/\(a == sysModules)=false/\
  ∃ xs,KT H kvs xs/\h.DictOfH (tupleKind (mixKind P w)) a xs:=by
 obtain ⟨z,y,xs,r,o,es,ep,h1,h2,h3,h4,h5⟩:=(show ObjOk P w H h a (.dT kvs) from zm6 ok e)
 refine ⟨z,y,xs,r,o,es,ep,h1,h2,h3,h4,fun x hx=>?_,h5⟩
 have all:∀ {l:List (List Key×V)} {m:List (List Key×Addr×Value)},KT H l m->∀ x∈m,(tupleKind (mixKind P w)).is h x.1 x.2.1:=by
  intro l m q
  induction q with
  | nil=>intro x hx; exact nomatch hx
  | @cons p q ps qs hq t ih=>
    intro x hx
    rcases mem_cons.mp hx with e | hx
    ·subst e
     exact zdh ok (by rw [<- hq.1]; exact hq.2.1)
    ·exact ih x hx
 exact all r x hx
theorem zmc {kvs:List (List Key×V)} (ok:HOk P w H h) (e:H a=some (.dT kvs)):kvs.length<=sizeLine/\(a == sysModules)=false/\
  ∃ xs,KT H kvs xs/\h.DictOfH (tupleKind (mixKind P w)) a xs:=zgT ok (.inl e)
end
def DGet (H:Hp) (a:Addr) (y:V) (r:Option V):Prop:=
 (∃ kvs k,Rd H a (.dK kvs)/\y=kV k/\r=valV kvs k)\/∃ kvs k b,Rd H a (.dT kvs)/\y=.ref b/\H b=some (.tup (k.map kV))/\r=valV kvs k
def DPut (H:Hp) (a:Addr) (y v:V) (H':Hp):Prop:=
 (∃ kvs k,H a=some (.dK kvs)/\y=kV k/\kvs.length < sizeLine/\H'=upd H a (.dK (putK kvs k v)))\/
 ∃ kvs k b,H a=some (.dT kvs)/\y=.ref b/\H b=some (.tup (k.map kV))/\kvs.length < sizeLine/\H'=upd H a (.dT (putK kvs k v))
section
variable {X:Cx} {pins:List (Addr×Obj)} {σ:St} {H:Hp} {s:Shared} {a:Addr} {y v:V} {u r:Value} {o:Option V} {A:Around} {E:Value->Shared->Prop}
theorem Inv.big (I:Inv X pins σ H s):sysModules < s.heap.objs.size:=by
 have h:mainGlobals < s.heap.objs.size:=(I.mod.glob.keeps I.bk).lt
 exact lt_trans (by decide) h
theorem zhP {Q:Value->Shared->Prop} (hu:A.units + 1 < cLine) (I:Inv X pins σ H s) (g:DGet H a y (some v)) (ry:RelV y u) (h:∀ w' s',Inv X pins σ H s'->RelV v w'->Q w' s'):
  wpAny (model X.prog X.w) A (getItem (.ref a) u) Q E s:=by
 rcases g with ⟨kvs,k,e,ey,l⟩ | ⟨kvs,k,b,e,ey,eb,l⟩
 ·subst ey
  obtain ⟨z,hd,vs,rel,dd⟩:=ziy I.hok e
  obtain ⟨w',hw,rw'⟩:=RelO.some_of (v:=v) (o:=valueAt vs k) (by rw [l]; exact rel.val k)
  exact wpAny_getItem_of (zfg ry) dd.mapOf hw (h w' _ (I.tok _) rw')
 ·subst ey
  cases (show u=Value.ref b from ry)
  obtain ⟨z,hd,xs,rel,dd⟩:=zgT I.hok e
  obtain ⟨w',hw,rw'⟩:=RelO.some_of (v:=v) (o:=(atKey xs k).map (·.2)) (by rw [l]; exact rel.val k)
  obtain ⟨p,hp,hp2⟩:=map_eq_some_iff.mp hw
  refine wpAny_getItem_heap (tupleKind_room_in1 hu) (zdh I.hok eb) dd hp ?_
  rw [hp2]
  exact h w' _ (I.tok _) rw'
theorem d_in {Q:Value->Shared->Prop} (hu:A.units + 1 < cLine) (I:Inv X pins σ H s) (g:DGet H a y o) (ry:RelV y u) (h:∀ s',Inv X pins σ H s'->Q (.bool o.isSome) s'):
  wpAny (model X.prog X.w) A (compareOp .In u (.ref a)) Q E s:=by
 rcases g with ⟨kvs,k,e,ey,l⟩ | ⟨kvs,k,b,e,ey,eb,l⟩
 ·subst ey
  obtain ⟨z,hd,vs,rel,dd⟩:=ziy I.hok e
  refine wpAny_in_of (zfg ry) hd dd.mapOf ?_
  rw [<- (rel.val k).isSome_eq,<- l]
  exact h _ (I.tok _)
 ·subst ey
  cases (show u=Value.ref b from ry)
  obtain ⟨z,hd,xs,rel,dd⟩:=zgT I.hok e
  refine wpAny_in_heap (tupleKind_room_in1 hu) (zdh I.hok eb) hd dd ?_
  have q:=(rel.val k).isSome_eq
  rw [isSome_map] at q
  rw [<- q,<- l]
  exact h _ (I.tok _)
theorem zlp {Q:Value->Shared->Prop} (hu:A.units + 1 < cLine) (I:Inv X pins σ H s) (g:DGet H a y o) (ry:RelV y u) (h:∀ s',Inv X pins σ H s'->Q (.bool (!o.isSome)) s'):
  wpAny (model X.prog X.w) A (compareOp .NotIn u (.ref a)) Q E s:=by
 rcases g with ⟨kvs,k,e,ey,l⟩ | ⟨kvs,k,b,e,ey,eb,l⟩
 ·subst ey
  obtain ⟨z,hd,vs,rel,dd⟩:=ziy I.hok e
  refine wpAny_notIn_of (zfg ry) hd dd.mapOf ?_
  rw [<- (rel.val k).isSome_eq,<- l]
  exact h _ (I.tok _)
 ·subst ey
  cases (show u=Value.ref b from ry)
  obtain ⟨z,hd,xs,rel,dd⟩:=zgT I.hok e
  refine wpAny_notIn_heap (tupleKind_room_in1 hu) (zdh I.hok eb) hd dd ?_
  have q:=(rel.val k).isSome_eq
  rw [isSome_map] at q
  rw [<- q,<- l]
  exact h _ (I.tok _)
theorem zcZ {h':Heap} {t':Nat} {ob:HO} (I:Inv X pins σ H s) (mu:Mut (H a)) (hs:Heap.SameBut a s.heap h') (he:∃ q,h'.get? a=some q) (new:ObjOk X.prog X.w (upd H a ob) h' a ob):
  Inv X pins σ (upd H a ob) { s with heap:=h',toks:=t' }:=
 I.write (x:=a) (e:=a) mu (.inl rfl) (fun b q hb z=>(hs.2 b hb).trans z) he new
theorem zhR {P:Program} {w:World} {H':Hp} {h':Heap} {kvs:List (Key×V)} {vs:List (Key×Value)} (z:kvs.length<=sizeLine) (hd:(a == sysModules)=false) (rel:KV kvs vs) (dd:h'.DictOf (mixKind P w) a vs):
  ObjOk P w H' h' a (.dK kvs):=⟨z,hd,vs,rel,dd⟩
theorem ziD {H':Hp} {Q:Unit->Shared->Prop} (hu:A.units + 1 < cLine) (I:Inv X pins σ H s) (g:DPut H a y v H') (ry:RelV y u) (rv:RelV v r) (h:∀ s',Inv X pins σ H' s'->Q () s'):
  wpAny (model X.prog X.w) A (setItem (.ref a) u r) Q E s:=by
 rcases g with ⟨kvs,k,e,ey,l,eH⟩ | ⟨kvs,k,b,e,ey,eb,l,eH⟩
 ·subst ey eH
  obtain ⟨z,hd,vs,rel,dd⟩:=zkK I.hok e
  have hz:vs.length<=sizeLine:=by rw [<- rel.length]; exact z
  have hl:(putK kvs k v).length<=sizeLine:=by have:=zaM kvs k v; omega
  refine wpAny_setItem_pairs (hsz:=hz) (zfg ry) dd fun h' dd' hs=>h _ ?_
  have he:∃ q,h'.get? a=some q:=let ⟨q,_,_,hq,_⟩:=dd'; ⟨q,hq⟩
  exact zcZ I (by rw [e]; exact True.intro) hs he (zhR hl hd (rel.put k rv) dd')
 ·subst ey eH
  cases (show u=Value.ref b from ry)
  obtain ⟨z,hd,xs,rel,dd⟩:=zmc I.hok e
  have hz:xs.length<=sizeLine:=by rw [<- Paired.length rel]; exact z
  have hl:(putK kvs k v).length<=sizeLine:=by have:=zaM kvs k v; omega
  refine wpAny_setItem_heap (hsz:=hz) (tupleKind_room_in1 hu) (zdh I.hok eb) dd fun h' dd' hs=>h _ ?_
  obtain ⟨q,es,ep,hq,h2,h3,h4,_,h5⟩:=dd'
  refine zcZ I (by rw [e]; exact True.intro) hs ⟨q,hq⟩ ⟨hl,hd,_,(rel.put k eb rv).keeps fun c ys ec=>?_,q,es,ep,hq,h2,h3,h4,h5⟩
  rw [zag (zmE ec e (fun z=>nomatch z))]
  exact ec
end
theorem ze9 {X:Cx} {pins:List (Addr×Obj)} {σ:St} {H:Hp} {s:Shared} {a:Addr} {y:V} {o:Option V} (I:Inv X pins σ H s) (g:DGet H a y o):s.TypeIs (.ref a) "dict":=by
 rcases g with ⟨kvs,k,e,_,_⟩ | ⟨kvs,k,b,e,_,_,_⟩
 ·obtain ⟨_,_,vs,_,dd⟩:=ziy I.hok e
  exact dd.typeIs
 ·obtain ⟨_,_,xs,_,dd⟩:=zgT I.hok e
  exact dd.typeIs
def sDPut (td ty tv:TE):TS:=fun D σ H=>tv σ H fun v H1=>td σ H1 fun x H2=>ty σ H2 fun y H3=>∃ a H4,x=.ref a/\DPut H3 a y v H4/\D.nx σ H4
section
variable {X:Cx} {o i e value:Expr} {pos pos' tpos:Pos} {td ty tv:TE}
theorem zlC (hu:X.A.units + 1 < cLine) (ho:PE X o td) (hi:PE X i ty) (hv:PE X value tv) (hs:swapsWith value (some (.Subscript o i pos')) pos.line X.env=pure false):
  PS X (.Assign [.Subscript o i pos'] value pos) (sDPut td ty tv):=by
 intro pins s σ H D I h
 refine wpAny_Assign_Subscript (thn (hv pins s σ H _ I h) fun r s1 ⟨v,H1,I1,rv,q1⟩=>thn (ho pins s1 σ H1 _ I1 q1) fun u s2 ⟨x,H2,I2,rx,q2⟩=>thn (hi pins s2 σ H2 _ I2 q2) fun iv s3 ⟨y,H3,I3,ry,a,H4,ex,g,q3⟩=>?_) hs
 subst ex
 obtain rfl:u=Value.ref a:=rx
 exact ziD hu I3 g ry rv fun s4 I4=>⟨σ,H4,I4,q3⟩
end
theorem zfG {P:Program} {w:World} {H:Hp} (h:Heap) (hb:sysModules < h.objs.size):ObjOk P w H (h.push { cls:=.type "dict",data:=.dict #[] }) h.objs.size (.dK []):=
 ⟨zero_le _,beq_eq_false_iff_ne.mpr (Ne.symm (ne_of_lt hb)),[],.nil,Heap.DictOf.new h⟩
theorem ziV {P:Program} {w:World} {H:Hp} (h:Heap) (hb:sysModules < h.objs.size):ObjOk P w H (h.push { cls:=.type "dict",data:=.dict #[] }) h.objs.size (.dT []):=
 ⟨zero_le _,beq_eq_false_iff_ne.mpr (Ne.symm (ne_of_lt hb)),[],.nil,_,#[],0,Heap.get?_push_size _ rfl,⟨rfl,rfl,rfl⟩,rfl,rfl,List.nodup_nil⟩
def tPairs:List (TE×TE)->St->Hp->(List (V×V)->Hp->Prop)->Prop
 | [],_,H,Q=>Q [] H
 | (tk,tv)::r,σ,H,Q=>tk σ H fun x H1=>tv σ H1 fun y H2=>tPairs r σ H2 fun ps H3=>Q ((x,y)::ps) H3
abbrev VV:List (V×V)->List (Value×Value)->Prop:=Paired fun p q=>RelV p.1 q.1/\RelV p.2 q.2
def PPs (X:Cx) (pos:Pos) (keys:List (Option Expr)) (values:List Expr) (trs:List (TE×TE)):Prop:=
 ∀ (pins:List (Addr×Obj)) (s:Shared) (σ:St) (H:Hp) (Q:List (V×V)->Hp->Prop),Inv X pins σ H s->tPairs trs σ H Q->
   wpAny (model X.prog X.w) X.A (evalPairs (pairTrees keys values X.env pos)) (fun vs s'=>∃ ps H',Inv X pins σ H' s'/\VV ps vs/\Q ps H') X.xe s
theorem zkp {X:Cx} {pos:Pos}:PPs X pos [] [] []:=fun pins s σ H Q I h=>pairTrees_nil_walk ⟨[],H,I,.nil,h⟩
theorem zjl {X:Cx} {pos:Pos} {k v:Expr} {ks:List (Option Expr)} {vs:List Expr} {tk tv:TE} {trs:List (TE×TE)} (hk:PE X k tk) (hv:PE X v tv) (hr:PPs X pos ks vs trs):
  PPs X pos (some k::ks) (v::vs) ((tk,tv)::trs):=fun pins s σ H Q I h=>
 pairTrees_cons_walk (thn (hk pins s σ H _ I h) fun u s1 ⟨x,H1,I1,rx,q1⟩=>thn (hv pins s1 σ H1 _ I1 q1) fun w2 s2 ⟨y,H2,I2,ry,q2⟩=>
  thn (hr pins s2 σ H2 _ I2 q2) fun ws s3 ⟨ps,H3,I3,rel,q3⟩=>⟨(x,y)::ps,H3,I3,.cons ⟨rx,ry⟩ rel,q3⟩)
def mergeK (kvs more:List (Key×V)):List (Key×V):=more.foldl (fun acc kv=>putK acc kv.1 kv.2) kvs
theorem KV.merge:∀ {more:List (Key×V)} {rs:List (Key×Value)} {kvs:List (Key×V)} {vs:List (Key×Value)},KV more rs->KV kvs vs->KV (mergeK kvs more) (merged vs rs):=by
 intro more rs kvs vs r
 unfold KV at r
 induction r generalizing kvs vs with
 | nil=>intro q; exact q
 | @cons p q ps qs h t ih=>
   intro r0
   have e:KV (putK kvs p.1 p.2) (stored vs q.1 q.2):=by
    have:=r0.put p.1 h.2
    rw [<- h.1]; exact this
   exact ih e
theorem zbD:∀ (more kvs:List (Key×V)),(mergeK kvs more).length<=kvs.length + more.length
 | [],kvs=>by show kvs.length<=kvs.length + 0; omega
 | p::r,kvs=>by
   have h1:=zbD r (putK kvs p.1 p.2)
   have h2:=zaM kvs p.1 p.2
   show (mergeK (putK kvs p.1 p.2) r).length<=_
   rw [length_cons]; omega
theorem zdl {P:Program} {w:World}:∀ {kvs:List (Key×V)} {ws:List (Value×Value)},VV (kvs.map fun kv=>(kV kv.1,kv.2)) ws->∃ rs,Carries (mixKind P w) ws rs/\KV kvs rs
 | [],_,r=>by rw [map_nil] at r; cases r; exact ⟨[],True.intro,.nil⟩
 | p::kvs,_,r=>by
   rw [map_cons] at r
   cases r with
   | @cons a b as bs h t=>
     obtain ⟨rs,c,q⟩:=zdl (P:=P) (w:=w) t
     obtain ⟨b1,b2⟩:=b
     exact ⟨(p.1,b2)::rs,⟨zfg h.1,rfl,c⟩,.cons ⟨rfl,h.2⟩ q⟩
def tDisp (trs:List (TE×TE)):TE:=fun σ H Q=>∀ p,H p=none->tPairs trs σ (upd H p (.dK [])) fun ps H2=>H2 p=some (.dK [])/\∃ kvs:List (Key×V),ps=kvs.map (fun kv=>(kV kv.1,kv.2))/\kvs.length<=15/\Q (.ref p) (upd H2 p (.dK (mergeK [] kvs)))
theorem zkN {X:Cx} {pos:Pos} {keys:List (Option Expr)} {values:List Expr} {trs:List (TE×TE)} (h:PPs X pos keys values trs) (hall:keys.all (·.isSome)=true) (hl:keys.length=values.length) (h0:keys≠[])
  (h15:keys.length<=15):PE X (.Dict keys values pos) (tDisp trs):=by
 intro pins s σ H Q I q
 have hn:=I.hok.fresh (le_refl s.heap.objs.size)
 have I1:=I.laid (a:=s.heap.objs.size) (o:=.dK []) (h':=s.heap.push { cls:=.type "dict",data:=.dict #[] }) (t':=s.toks) (fun _ _ q=>Heap.get?_push_of_some _ q) (le_refl _) (zfG s.heap I.big)
 refine wpAny_Dict_walk (knd:=mixKind X.prog X.w) hall hl h0 h15 (thn (h pins _ σ _ _ I1 (q _ hn)) fun ws s2 ⟨ps,H2,I2,rel,e,kvs,ep,lk,q2⟩=>?_)
 subst ep
 obtain ⟨rs,c,rk⟩:=zdl (P:=X.prog) (w:=X.w) rel
 obtain ⟨z,hd,vs0,r0,dd⟩:=zkK I2.hok e
 cases r0
 refine ⟨rs,c,dd,fun h' dd' hs=>⟨.ref s.heap.objs.size,_,?_,rfl,q2⟩⟩
 have hz:(mergeK [] kvs).length<=sizeLine:=by
  have h1:=zbD kvs []
  rw [length_nil] at h1
  rw [sizeLine_eq]; omega
 have he:∃ q,h'.get? s.heap.objs.size=some q:=let ⟨q,_,_,hq,_⟩:=dd'; ⟨q,hq⟩
 exact zcZ I2 (by rw [e]; exact True.intro) hs he (zhR hz hd (rk.merge .nil) dd')
end L2
end
section
namespace HT
open PySem PyProof.Rows
def lexLt:List Int->List Int->Bool
 | [],[]=>false
 | [],_::_=>true
 | _::_,[]=>false
 | x::xs,y::ys=>if x=y then lexLt xs ys else decide (x < y)
theorem zaG (x y:Int) (xs ys:List Int):lexLt (x::xs) (y::ys)=if x=y then lexLt xs ys else decide (x < y):=rfl
section
open PySem.SeqAt
open PySem.AutoSeq1 (wpAny_loadPart')
open PySem.MeetsSeq PySem.MeetsSeq2 PySem.MeetsSeq3
end
section
variable {prog:Program} {w:World} {A:Around} {E:Value->Shared->Prop} {s:Shared}
theorem cat_tup {t b:Addr} {vs ws:List Value} {Q:Value->Shared->Prop} (ht:IsTup s.heap t vs.toArray) (hb:IsTup s.heap b ws.toArray) (hv:vs≠[])
  (h1:ws=[]->Q (.ref t) s) (h2:ws≠[]->Q (.ref s.heap.objs.size) { s with heap:=s.heap.push { cls:=.type "tuple",data:=.seq (vs++ws).toArray } })
  (hsz:vs.length + ws.length<=sizeLine):wpAny (model prog w) A (binaryOp .Add (.ref t) (.ref b)) Q E s:=by
 obtain ⟨⟨cls,dd,data,sl⟩,ho,hc,n,hd⟩:=id ht
 obtain ⟨⟨cls2,dd2,data2,sl2⟩,ho2,hc2,n2,hd2⟩:=id hb
 simp only at hc hd hc2 hd2
 subst hc hd hc2 hd2
 have e:vs.toArray++ws.toArray=(vs++ws).toArray:=by simp
 by_cases hw:ws=[]
 ·exact concat_meets ⟨_,ho,rfl⟩ ⟨_,ho2,rfl⟩ noFill_tuple_add seq_tuple_add PySem.F.slot_tuple_add PySem.F.entry_tuple_add (PySem.F.args_tuple_add_2 _ _)
   (tuple_addW1 t b vs.toArray ws.toArray n n2 dd dd2 sl sl2 (by simpa using hv) (by simp [hw])) ⟨ho,ho2,h1 hw⟩
 ·refine concat_meets ⟨_,ho,rfl⟩ ⟨_,ho2,rfl⟩ noFill_tuple_add seq_tuple_add PySem.F.slot_tuple_add PySem.F.entry_tuple_add (PySem.F.args_tuple_add_2 _ _)
   (tuple_addW2 t b vs.toArray ws.toArray n n2 dd dd2 sl sl2 (by simpa using hv) (by simpa using hw) (by rw [size_toArray,size_toArray]; exact hsz)) ⟨ho,ho2,?_⟩
  rw [e]
  exact h2 hw
def sIx (n d:Nat):Option Int->Nat
 | none=>d
 | some v=>if v < 0 then (v + (n:Int)).toNat else min v.toNat n
theorem sIx_le (n d:Nat) (hd:d<=n) (o:Option Int):sIx n d o<=n:=by
 cases o with
 | none=>exact hd
 | some v=>
   show (if v < 0 then (v + (n:Int)).toNat else min v.toNat n)<=n
   by_cases hv:v < 0
   ·rw [if_pos hv]; omega
   ·rw [if_neg hv]; exact Nat.min_le_right _ _
theorem zh2 (v:Int) (n d:Nat):(if v < 0 then max (v + (n:Int)) 0 else min v (n:Int))=((sIx n d (some v):Nat):Int):=by
 show (if v < 0 then max (v + (n:Int)) 0 else min v (n:Int))=(((if v < 0 then (v + (n:Int)).toNat else min v.toNat n):Nat):Int)
 by_cases hv:v < 0
 ·simp only [if_pos hv]; omega
 ·simp only [if_neg hv]; omega
theorem zgM (lo hi:Option Int) (n:Nat):Builtin.Slice.sliceAdjust lo hi 1 (n:Int)=(((sIx n 0 lo:Nat):Int),((sIx n n hi:Nat):Int)):=by
 have h1:¬ ((1:Int) < 0):=by omega
 unfold Builtin.Slice.sliceAdjust
 simp only [h1,if_false]
 refine Prod.ext ?_ ?_
 ·cases lo with
  | none=>rfl
  | some v=>exact zh2 v n 0
 ·cases hi with
  | none=>rfl
  | some v=>exact zh2 v n n
theorem zgr (i j:Nat):Builtin.Slice.slicePlaces (i:Int) (j:Int) 1=j - i:=by
 unfold Builtin.Slice.slicePlaces
 have h1:(1:Int) > 0:=by omega
 simp only [h1,if_true,Int.ediv_one]
 split <;> omega
theorem zc9 {v:Value} {o:Option Int} {Q:Option Int->Shared->Prop} (p:IsPart v o) (h:Q o s):wpAny (model prog w) A (Builtin.Slice.slicePartIndex v) Q E s:=by
 cases p with
 | none=>exact slicePart_none h
 | int i t=>exact slicePart_int h
theorem sliceApplied_gen {sl:Addr} {vl vu:Value} {lo hi:Option Int} {n:Nat} {Q:Int×Int×Nat->Shared->Prop} (hs:s.heap.IsSliceOf sl vl vu .none) (pl:IsPart vl lo) (pu:IsPart vu hi)
  (h:Q (((sIx n 0 lo:Nat):Int),1,sIx n n hi - sIx n 0 lo) s):wpAny (model prog w) A (Builtin.Slice.sliceApplied (.ref sl) (pure (n:Int))) Q E s:=by
 obtain ⟨os,hos,hcs,hds⟩:=id hs
 unfold Builtin.Slice.sliceApplied Builtin.Slice.sliceFields
 refine wpAny_bind (wpAny_bind (wpAny_field hos hds (x:=vl) rfl (wpAny_bind (wpAny_field hos hds (x:=vu) rfl (wpAny_bind (wpAny_field hos hds (x:=.none) rfl (wpAny_pure ?_)))))))
 refine wpAny_bind (slicePart_none ?_)
 show wpAny _ _ (if ((1:Int) == 0)=true then _ else _) _ _ s
 rw [if_neg (by decide)]
 refine wpAny_bind (zc9 pl (wpAny_bind (zc9 pu (wpAny_bind (wpAny_pure ?_)))))
 show wpAny _ _ (match Builtin.Slice.sliceAdjust lo hi 1 (n:Int) with | (lo,hi)=>pure (lo,(1:Int),Builtin.Slice.slicePlaces lo hi 1)) _ _ s
 rw [zgM lo hi n]
 show wpAny _ _ (pure (((sIx n 0 lo:Nat):Int),(1:Int),Builtin.Slice.slicePlaces ((sIx n 0 lo:Nat):Int) ((sIx n n hi:Nat):Int) 1)) _ _ s
 rw [zgr]
 exact wpAny_pure h
theorem zjR (xs:Array Value) (i k:Nat):((List.range k).filterMap fun (m:Nat)=>xs[((i:Int) + (m:Int) * 1).toNat]?).toArray=((xs.toList.drop i).take k).toArray:=by
 have e:(fun (m:Nat)=>xs[((i:Int) + (m:Int) * 1).toNat]?)=fun m=>xs[i + m]?:=by
  funext m
  have:((i:Int) + (m:Int) * 1).toNat=i + m:=by omega
  rw [this]
 rw [e]
 have:=pick_run xs i k
 rw [List.filterMap_map] at this
 have e2:((fun x=>xs[x]?) ∘ fun x=>i + x)=fun m=>xs[i + m]?:=rfl
 rw [e2] at this
 rw [this]
theorem getItem_tuple_cut {t sl:Addr} {items:Array Value} {vl vu:Value} {lo hi:Option Int} {Q:Value->Shared->Prop} (ht:IsTup s.heap t items) (hs:s.heap.IsSliceOf sl vl vu .none) (pl:IsPart vl lo) (pu:IsPart vu hi)
  (hw:¬ (sIx items.size 0 lo=0/\sIx items.size items.size hi=items.size))
  (h:Q (.ref s.heap.objs.size) { s with heap:=s.heap.push { cls:=.type "tuple",data:=.seq ((items.toList.drop (sIx items.size 0 lo)).take (sIx items.size items.size hi - sIx items.size 0 lo)).toArray } })
  (hsz:items.size<=sizeLine):wpAny (model prog w) A (getItem (.ref t) (.ref sl)) Q E s:=by
 have htake:sizeOk (.seq ((items.toList.drop (sIx items.size 0 lo)).take (sIx items.size items.size hi - sIx items.size 0 lo)).toArray):=by
  show ((items.toList.drop (sIx items.size 0 lo)).take (sIx items.size items.size hi - sIx items.size 0 lo)).toArray.size<=sizeLine
  rw [size_toArray,length_take,length_drop,length_toList]
  omega
 have hj:sIx items.size items.size hi<=items.size:=sIx_le _ _ (le_refl _) hi
 obtain ⟨os,hos,hcs,hds⟩:=id hs
 have hTs:s.TypeIs (.ref sl) "slice":=⟨os,hos,hcs⟩
 unfold getItem
 try with_reducible refine wpAny_holding ?_
 first | refine wpAny_bind (wpAny_pure ?_) | skip
 refine wpAny_bind (wpAny_sequenceKey ht.typeIs (by decide) ?_)
 refine wpAny_bind (wpAny_callSpecial?_slot (name:=Str.ofString "__getitem__") ht.typeIs PyProof.Rows.slot_tuple_getitem
  (wpAny_call_entry PyProof.Rows.slot_tuple_getitem ht.typeIs entry_tuple_getitem ?_ (args_tuple_getitem _ _)))
 show wpAny _ _ (Builtin.Tuple.tupleItemsOf (.ref t) >>= _) _ _ s
 refine wpAny_bind (tupleItemsOf_ ht ?_)
 refine wpAny_bind (wpAny_typeOf hTs ?_)
 rw [if_pos (by decide)]
 refine wpAny_bind (sliceApplied_gen hs pl pu ?_)
 have hno:¬ ((((sIx items.size 0 lo:Nat):Int) == 0 && (1:Int) == 1 && (sIx items.size items.size hi - sIx items.size 0 lo) == items.size)=true):=by
  intro q
  rw [and_eq_true,and_eq_true] at q
  have q1:((sIx items.size 0 lo:Nat):Int)=0:=eq_of_beq q.1.1
  have q2:sIx items.size items.size hi - sIx items.size 0 lo=items.size:=eq_of_beq q.2
  exact hw ⟨by omega,by omega⟩
 show wpAny _ _ (if (((sIx items.size 0 lo:Nat):Int) == 0 && (1:Int) == 1 && (sIx items.size items.size hi - sIx items.size 0 lo) == items.size)=true then _ else _) _ _ s
 rw [if_neg hno,zjR]
 first
  | exact wpAny_bind (m:=Builtin.Tuple.tupleExact _) (wpAny_newObj_type (wpAny_pure ⟨_,rfl,wpAny_pure h⟩) htake)
  | exact wpAny_bind (m:=Builtin.Tuple.tupleExact _) (wpAny_newObj_type (wpAny_bind (wpAny_pure (wpAny_pure ⟨_,rfl,wpAny_pure h⟩))) htake)
  | exact wpAny_bind (wpAny_bind (m:=Builtin.Tuple.tupleExact _) (wpAny_newObj_type (wpAny_pure (wpAny_pure ⟨_,rfl,wpAny_pure h⟩)) htake))
  | exact wpAny_bind (wpAny_bind (m:=Builtin.Tuple.tupleExact _) (wpAny_newObj_type (wpAny_pure ⟨_,rfl,wpAny_pure h⟩) htake))
end
end HT
namespace L2
open PySem PySem.Spec PyProof.Rows
abbrev TO:=St->Hp->(Option Int->Hp->Prop)->Prop
def PO (X:Cx) (e:Option Expr) (t:TO):Prop:=
 ∀ (pins:List (Addr×Obj)) (s:Shared) (σ:St) (H:Hp) (Q:Option Int->Hp->Prop),Inv X pins σ H s->t σ H Q->
   wpAny (model X.prog X.w) X.A (evalPart e X.env) (fun u s'=>∃ o H',Inv X pins σ H' s'/\IsPart u o/\Q o H') X.xe s
def tNoPart:TO:=fun _ H Q=>Q none H
def tPart (t:TE):TO:=fun σ H Q=>t σ H fun x H1=>∃ i,x=.int i/\Q (some i) H1
theorem za0 {ns:List Int}:∀ {us:List Value},Vals (ns.map V.int) us->IntsAre us ns:=by
 induction ns with
 | nil=>intro us r; rw [map_nil] at r; cases r; exact .nil
 | cons n ns ih=>
   intro us r
   rw [map_cons] at r
   cases r with
   | cons r1 r2=>
     obtain ⟨t,e⟩:=r1
     subst e
     exact .cons n t (ih r2)
section
variable {X:Cx} {e:Expr} {te:TE} {lo hi:Option Expr} {tl th:TO} {pos p2:Pos}
theorem zgP:PO X none tNoPart:=by
 intro pins s σ H Q I h
 rw [evalPart_none]
 exact wpAny_pure ⟨none,H,I,.none,h⟩
theorem zdr (h:PE X e te):PO X (some e) (tPart te):=by
 intro pins s σ H Q I hw
 rw [evalPart_some]
 refine thn (h pins s σ H _ I hw) fun u s1 ⟨x,H1,I1,r1,q1⟩=>?_
 obtain ⟨i,rfl,q⟩:=q1
 obtain ⟨t,rfl⟩:=r1
 exact ⟨some i,H1,I1,.int i t,q⟩
def SlR (X:Cx) (r:V->Option Int->Option Int->Hp->VK->Prop):Prop:=
 ∀ (pins:List (Addr×Obj)) (s:Shared) (σ:St) (H:Hp) (x:V) (v vl vu:Value) (lo hi:Option Int) (sl:Addr) (Q:VK),Inv X pins σ H s->RelV x v->s.heap.IsSliceOf sl vl vu .none->IsPart vl lo->IsPart vu hi->r x lo hi H Q->
   ∃ T id,typeLookup (.type T) "__getitem__"=pure (some (.builtin id))/\s.TypeIs v T/\wpAny (model X.prog X.w) X.A (getItem v (.ref sl)) (EP X pins σ Q) X.xe s
theorem SlR.or {r r':V->Option Int->Option Int->Hp->VK->Prop} (h:SlR X r) (h':SlR X r'):SlR X (fun x lo hi H Q=>r x lo hi H Q\/r' x lo hi H Q):=by
 intro pins s σ H x v vl vu lo hi sl Q I rx hs pl pu q
 rcases q with q | q
 ·exact h pins s σ H x v vl vu lo hi sl Q I rx hs pl pu q
 ·exact h' pins s σ H x v vl vu lo hi sl Q I rx hs pl pu q
def tSl (r:V->Option Int->Option Int->Hp->VK->Prop) (te:TE) (tl th:TO):TE:=fun σ H Q=>te σ H fun x H1=>tl σ H1 fun l H2=>th σ H2 fun u H3=>r x l u H3 Q
theorem zdz {r:V->Option Int->Option Int->Hp->VK->Prop} (hr:SlR X r) (he:PE X e te) (hl:PO X lo tl) (hu:PO X hi th):PE X (.Subscript e (.Slice lo hi none p2) pos) (tSl r te tl th):=by
 intro pins s σ H Q I h
 refine Subscript_ (thn (he pins s σ H _ I h) fun v s1 ⟨x,H1,I1,r1,q1⟩=>?_)
 refine wpAny_Slice (thn (hl pins s1 σ H1 _ I1 q1) fun vl s2 ⟨l,H2,I2,pl,q2⟩=>thn (hu pins s2 σ H2 _ I2 q2) fun vu s3 ⟨u,H3,I3,pu,q3⟩=>?_)
 rw [evalPart_none]
 refine wpAny_pure ?_
 have I4:Inv X pins σ H3 { s3 with heap:=s3.heap.push { cls:=.type "slice",data:=.fields #[vl,vu,.none] } }:=I3.kept (t':=s3.toks) fun b ob q=>Heap.get?_push_of_some _ q
 obtain ⟨T,id,hT,ht,hg⟩:=hr pins { s3 with heap:=s3.heap.push { cls:=.type "slice",data:=.fields #[vl,vu,.none] } } σ H3 x v vl vu l u s3.heap.objs.size Q I4 r1 (Heap.IsSliceOf.new ..) pl pu q3
 show wpAny (model X.prog X.w) X.A (subscriptTail e (.Slice lo hi none p2) v (.ref s3.heap.objs.size)) (EP X pins σ Q) X.xe { s3 with heap:=s3.heap.push { cls:=.type "slice",data:=.fields #[vl,vu,.none] } }
 exact tail_any (ops:=[.ref s3.heap.objs.size,v]) ht hT hg (by with_unfolding_all rfl)
def cutV (xs:List V) (lo hi:Option Int):List V:=(xs.drop (HT.sIx xs.length 0 lo)).take (HT.sIx xs.length xs.length hi - HT.sIx xs.length 0 lo)
theorem zcU (xs:List V) (lo hi:Option Int):(cutV xs lo hi).length<=xs.length:=by
 unfold cutV
 rw [length_take,length_drop]
 omega
def rSlT (K:W.Frag):V->Option Int->Option Int->Hp->VK->Prop:=fun x lo hi H Q=>∃ a xs,x=.ref a/\SqT K H a xs/\
 ¬ (HT.sIx xs.length 0 lo=0/\HT.sIx xs.length xs.length hi=xs.length)/\∀ p,H p=none->Q (.ref p) (upd H p (.tup (cutV xs lo hi)))
theorem zob:SlR X (rSlT X.K):=by
 intro pins s σ H x v vl vu lo hi sl Q I rx hs pl pu h
 obtain ⟨a,xs,rfl,hx,hw,q⟩:=h
 cases rx
 obtain ⟨its,r,ht,hz⟩:=I.tuple hx
 have hlen:its.toArray.size=xs.length:=by rw [size_toArray]; exact r.length.symm
 refine ⟨"tuple",_,PyProof.Rows.slot_tuple_getitem.lookup,ht.typeIs,?_⟩
 refine HT.getItem_tuple_cut ht hs pl pu (by rw [hlen]; exact hw) ?_ (by rw [hlen]; exact hz)
 rw [hlen]
 refine ⟨.ref s.heap.objs.size,_,I.laid (t':=s.toks) (o:=.tup (cutV xs lo hi)) (fun b ob q=>Heap.get?_push_of_some _ q) (le_refl _) ?_,rfl,q _ (I.hok.fresh (le_refl _))⟩
 exact ⟨le_trans (zcU xs lo hi) hz,_,(r.drop (HT.sIx xs.length 0 lo)).take (HT.sIx xs.length xs.length hi - HT.sIx xs.length 0 lo),IsTup.new _ _⟩
def rCatT (K:W.Frag):R2:=fun x y H Q=>∃ a b xs ys,x=.ref a/\y=.ref b/\SqT K H a xs/\SqT K H b ys/\xs≠[]/\xs.length + ys.length<=sizeLine/\
 (ys=[]->Q (.ref a) H)/\(ys≠[]->∀ p,H p=none->Q (.ref p) (upd H p (.tup (xs++ys))))
theorem Vals.nil_iff {xs:List V} {us:List Value} (r:Vals xs us):us=[]↔xs=[]:=by
 cases r with
 | nil=>simp
 | cons _ _=>simp
theorem zlw:OpR X (binaryOp .Add) (rCatT X.K):=by
 intro pins s σ H x y v u Q I rx ry h
 obtain ⟨a,b,xs,ys,rfl,rfl,ha,hb,hx,hz,q1,q2⟩:=h
 cases rx
 cases ry
 obtain ⟨its,r1,p1,_⟩:=I.tuple ha
 obtain ⟨its2,r2,p2,_⟩:=I.tuple hb
 refine HT.cat_tup p1 p2 (fun z=>hx (r1.nil_iff.mp z)) (fun z=>⟨.ref a,H,I,rfl,q1 (r2.nil_iff.mp z)⟩) (fun z=>?_) (by rw [<- r1.length,<- r2.length]; exact hz)
 refine ⟨.ref s.heap.objs.size,_,I.laid (t':=s.toks) (o:=.tup (xs++ys)) (fun b ob q=>Heap.get?_push_of_some _ q) (le_refl _) ?_,rfl,q2 (fun w=>z (r2.nil_iff.mpr w)) _ (I.hok.fresh (le_refl _))⟩
 exact ⟨by rw [length_append]; exact hz,_,r1.append r2,IsTup.new _ _⟩
end
end L2
namespace L2
open PySem PySem.Spec PyProof.Rows
def ixN (n:Nat) (i:Int):Option Nat:=if 0<=i then (if i < n then some i.toNat else none) else if -(n:Int)<=i then some (i + n).toNat else none
def atI {α:Type} (xs:List α) (i:Int):Option α:=(ixN xs.length i).bind fun j=>xs[j]?
theorem zeU {n:Nat} {i:Int} {j:Nat} (h:ixN n i=some j):seqIndex? i n=some j/\j < n/\-(n:Int)<=i/\i < n:=by
 unfold ixN at h
 by_cases h0:0<=i
 ·rw [if_pos h0] at h
  by_cases h1:i < n
  ·rw [if_pos h1] at h
   have e:i.toNat=j:=Option.some.inj h
   exact ⟨by rw [seqIndex_of h0 h1,e],by omega,by omega,h1⟩
  ·rw [if_neg h1] at h; cases h
 ·rw [if_neg h0] at h
  by_cases h1:-(n:Int)<=i
  ·rw [if_pos h1] at h
   have e:(i + n).toNat=j:=Option.some.inj h
   exact ⟨by rw [seqIndex_neg (by omega) h1,e],by omega,h1,by omega⟩
  ·rw [if_neg h1] at h; cases h
theorem ze6 {α:Type} {xs:List α} {i:Int} {v:α} (h:atI xs i=some v):∃ j,seqIndex? i xs.length=some j/\xs[j]?=some v/\j < xs.length/\-(xs.length:Int)<=i/\i < xs.length:=by
 unfold atI at h
 cases e:ixN xs.length i with
 | none=>rw [e] at h; cases h
 | some j=>
   rw [e] at h
   obtain ⟨h1,h2,h3,h4⟩:=zeU e
   exact ⟨j,h1,h,h2,h3,h4⟩
theorem zfy {α:Type} (xs:List α) (v:α):atI (xs++[v]) (-1)=some v:=by
 have hl:(xs++[v]).length=xs.length + 1:=by simp
 have e:ixN (xs++[v]).length (-1)=some xs.length:=by
  unfold ixN
  rw [hl,if_neg (by decide),if_pos (by omega)]
  congr 1
  omega
 unfold atI
 rw [e]
 show (xs++[v])[xs.length]?=some v
 simp
def PlainIx (b:Expr):Prop:=∀ o i,subscripted b false o i=operate [o,i] (getItem o i)
def IxR (X:Cx) (r:R2):Prop:=
 ∀ (value slice:Expr) (pins:List (Addr×Obj)) (s:Shared) (σ:St) (H:Hp) (x y:V) (v u:Value) (Q:VK),Inv X pins σ H s->RelV x v->RelV y u->r x y H Q->
   subscripted slice false v u=operate [v,u] (getItem v u)->wpAny (model X.prog X.w) X.A (subscriptTail value slice v u) (EP X pins σ Q) X.xe s
def MtR (X:Cx) (id:String) (r:V->List V->Hp->VK->Prop):Prop:=
 ∀ (pins:List (Addr×Obj)) (s:Shared) (σ:St) (H:Hp) (x:V) (xs:List V) (v:Value) (us:List Value) (Q:VK),Inv X pins σ H s->RelV x v->Vals xs us->r x xs H Q->
   wpAny (model X.prog X.w) X.A (call (.builtin id) (v::us)) (EP X pins σ Q) X.xe s
section
variable {X:Cx} {a b:Expr} {ta tb:TE} {pos:Pos}
theorem IxR.or {r r':R2} (h:IxR X r) (h':IxR X r'):IxR X (fun x y H Q=>r x y H Q\/r' x y H Q):=by
 intro value slice pins s σ H x y v u Q I rx ry q hs
 rcases q with q | q
 ·exact h value slice pins s σ H x y v u Q I rx ry q hs
 ·exact h' value slice pins s σ H x y v u Q I rx ry q hs
theorem zkk {r:R2} (hr:IxR X r) (ha:PE X a ta) (hb:PE X b tb) (hs:PlainIx b):PE X (.Subscript a b pos) (tOp r ta tb):=by
 intro pins s σ H Q I h
 exact Subscript_ (binT ha hb I h fun v u s2 x y H2 I2 rx ry q=>hr a b pins s2 σ H2 x y v u Q I2 rx ry q (hs _ _))
def rIxL (K:W.Frag):R2:=fun x y H Q=>∃ p xs i v,x=.ref p/\y=.int i/\SqL K H p xs/\atI xs i=some v/\Q v H
def rIxT (K:W.Frag):R2:=fun x y H Q=>∃ p xs i v,x=.ref p/\y=.int i/\SqT K H p xs/\atI xs i=some v/\Q v H
def rIxS:R2:=fun x y H Q=>∃ z i c,x=.str z/\y=.int i/\z.length<=sizeLine/\atI z.cps.toList i=some c/\Q (.str ⟨#[c]⟩) H
theorem zls:IxR X (rIxL X.K):=by
 intro value slice pins s σ H x y v u Q I rx ry h hs
 obtain ⟨p,xs,i,z,rfl,rfl,hq,he,q⟩:=h
 cases rx
 obtain ⟨t,rfl⟩:=ry
 obtain ⟨its,r,pl,hz⟩:=I.list hq
 obtain ⟨j,h1,h2,h3,h4,h5⟩:=ze6 he
 obtain ⟨w,ew,rw'⟩:=r.get h2
 have hl:=r.length
 have hn:=line63
 have fin:EP X pins σ Q w s:=⟨z,H,I,rw',q⟩
 by_cases h0:0<=i
 ·have hj:i.toNat=j:=by
   rw [seqIndex_of h0 h5] at h1
   exact Option.some.inj h1
  exact item_listR pl.isList h0 (by omega) (by rw [hj]; simpa using ew) fin hs
 ·have hj:(i + (its.toArray.size:Int)).toNat=j:=by
   rw [seqIndex_neg (by omega) h4] at h1
   rw [size_toArray,<- hl]
   exact Option.some.inj h1
  exact subscriptTail_builtinR (x:=w) pl.isList.typeIs slot_list_getitem.lookup
   (wpAny_getItem_list_neg (Q:=fun r s'=>r=w/\EP X pins σ Q r s') pl.isList (by omega) (by rw [size_toArray] <;> omega) (by omega) (by rw [hj]; simpa using ew) ⟨rfl,fin⟩) hs
theorem zmO:IxR X (rIxT X.K):=by
 intro value slice pins s σ H x y v u Q I rx ry h hs
 obtain ⟨p,xs,i,z,rfl,rfl,hq,he,q⟩:=h
 cases rx
 obtain ⟨t,rfl⟩:=ry
 obtain ⟨its,r,pl,hz⟩:=I.tuple hq
 obtain ⟨j,h1,h2,h3,h4,h5⟩:=ze6 he
 obtain ⟨w,ew,rw'⟩:=r.get h2
 have hl:=r.length
 have hn:=line63
 have fin:EP X pins σ Q w s:=⟨z,H,I,rw',q⟩
 exact subscriptTail_builtinR (x:=w) pl.typeIs slot_tuple_getitem.lookup
  (getItem_tuple (j:=j) (Q:=fun r s'=>r=w/\EP X pins σ Q r s') pl (by omega) (by omega) (by rw [size_toArray,<- hl]; exact h1) (by simpa using ew) ⟨rfl,fin⟩) hs
theorem zmF:IxR X rIxS:=by
 intro value slice pins s σ H x y v u Q I rx ry h hs
 obtain ⟨z,i,c,rfl,rfl,hz,he,q⟩:=h
 obtain ⟨t,rfl⟩:=rx
 obtain ⟨t',rfl⟩:=ry
 obtain ⟨j,h1,h2,h3,h4,h5⟩:=ze6 he
 have hl:z.cps.toList.length=z.length:=by simp [Str.length]
 rw [hl] at h1 h4 h5
 have hn:=line63
 exact tail_any (typeIs_str s z t) slot_str_getitem.lookup (getItem_str (c:=c) (by
  have e1:decide (i < -(2 ^ 63:Int))=false:=decide_eq_false (by omega)
  have e2:decide (i ≥ 2 ^ 63)=false:=decide_eq_false (by omega)
  rw [e1,e2,Bool.or_false]) (by rw [h1]; simpa using h2) ⟨.str ⟨#[c]⟩,H,I.tok _,⟨_,rfl⟩,q⟩) hs
def rIx (K:W.Frag):R2:=fun x y H Q=>rIxL K x y H Q\/rIxT K x y H Q\/rIxS x y H Q
theorem zj8:IxR X (rIx X.K):=zls.or (zmO.or zmF)
theorem zgL (its:List Value) (n j:Nat) (u:Value):Obj.mapSeq (·.setIfInBounds j u) { cls:=.type "list",data:=.seq its.toArray n }={ cls:=.type "list",data:=.seq (its.set j u).toArray n }:=by
 simp [Obj.mapSeq]
theorem Inv.lst {pins:List (Addr×Obj)} {σ:St} {H:Hp} {s:Shared} {p:Addr} {xs:List V} (I:Inv X pins σ H s) (h:H p=some (.lst xs)):
  ∃ (its:List Value) (n:Nat),Vals xs its/\s.heap.get? p=some { cls:=.type "list",data:=.seq its.toArray n }/\xs.length<=sizeLine:=by
 obtain ⟨z,its,n,r,e⟩:=I.hok p _ h
 exact ⟨its,n,r,e,z⟩
theorem Inv.lstUpd {pins:List (Addr×Obj)} {σ:St} {H:Hp} {s:Shared} {p:Addr} {xs ys:List V} {its its':List Value} {n n':Nat} {f:Obj->Obj} (I:Inv X pins σ H s) (h:H p=some (.lst xs))
  (ho:s.heap.get? p=some { cls:=.type "list",data:=.seq its.toArray n }) (hf:f { cls:=.type "list",data:=.seq its.toArray n }={ cls:=.type "list",data:=.seq its'.toArray n' }) (r:Vals ys its') (hz:ys.length<=sizeLine) (t:Nat):
  Inv X pins σ (upd H p (.lst ys)) { s with heap:=s.heap.update p f,toks:=t }:=by
 have e:(s.heap.update p f).get? p=some { cls:=.type "list",data:=.seq its'.toArray n' }:=by
  rw [Heap.get?_update_self f ho (by rw [hf] <;> rfl),hf]
 refine I.write (x:=p) (e:=p) (by rw [h]; trivial) (.inl rfl) (fun b u hb q=>(Heap.get?_update_other _ _ (Ne.symm hb)).trans q) ⟨_,e⟩ ?_
 exact ⟨hz,its',n',r,e⟩
def rSetL:V->V->V->Hp->(Hp->Prop)->Prop:=fun o i v H Q=>∃ p xs k j,o=.ref p/\i=.int k/\H p=some (.lst xs)/\ixN xs.length k=some j/\Q (upd H p (.lst (xs.set j v)))
theorem ziI:PSet X rSetL:=by
 intro pins s σ H o i v ov iv u Q I ro ri rv h
 obtain ⟨p,xs,k,j,rfl,rfl,hp,hj,q⟩:=h
 cases ro
 obtain ⟨t,rfl⟩:=ri
 obtain ⟨its,n,r,ho,hz⟩:=I.lst hp
 obtain ⟨h1,h2,h3,h4⟩:=zeU hj
 have hl:=r.length
 have hn:=line63
 have I':Inv X pins σ (upd H p (.lst (xs.set j v))) { s with heap:=s.heap.update p (Obj.mapSeq (·.setIfInBounds j u)) }:=
  I.lstUpd hp ho (zgL its n j u) (r.set rv j) (by rw [List.length_set]; exact hz) s.toks
 by_cases h0:0<=k
 ·have hk:k.toNat=j:=by
   rw [seqIndex_of h0 h4] at h1
   exact Option.some.inj h1
  exact W.ki_setAt ho h0 (by omega) (by rw [size_toArray,<- hl]; exact h4) (by rw [hk]; exact ⟨_,I',q⟩)
 ·have hk:(k + (its.toArray.size:Int)).toNat=j:=by
   rw [seqIndex_neg (by omega) h3] at h1
   rw [size_toArray,<- hl]
   exact Option.some.inj h1
  exact W.ki_setBack ho (by omega) (by rw [size_toArray,<- hl]; exact h3) (by omega) (by rw [hk]; exact ⟨_,I',q⟩)
theorem zeb (lo hi:Option Int) (n:Nat):(sliceBounds lo hi none n).1=((HT.sIx n 0 lo:Nat):Int)/\(sliceBounds lo hi none n).2.1=((HT.sIx n n hi:Nat):Int)/\(sliceBounds lo hi none n).2.2=1:=by
 have clip:∀ (i:Int) (n d:Nat),max 0 (min (if i < 0 then i + (n:Int) else i) (n:Int))=((HT.sIx n d (some i):Nat):Int):=fun i n d=>by
  show _=((if i < 0 then (i + (n:Int)).toNat else min i.toNat n:Nat):Int)
  split <;> omega
 refine ⟨?_,?_,rfl⟩
 ·cases lo with
  | none=>rfl
  | some i=>exact clip i n 0
 ·cases hi with
  | none=>rfl
  | some i=>exact clip i n n
theorem zdQ (its:List Value) (lo hi:Option Int):slicePick its.toArray lo hi none=((its.drop (HT.sIx its.length 0 lo)).take (HT.sIx its.length its.length hi - HT.sIx its.length 0 lo)).toArray:=by
 obtain ⟨h1,h2,h3⟩:=zeb lo hi its.toArray.size
 unfold slicePick
 rw [h1,h2,h3]
 simp only [sliceRange_one,pick_run,size_toArray] <;> rfl
def rSlL (K:W.Frag):V->Option Int->Option Int->Hp->VK->Prop:=fun x lo hi H Q=>∃ a xs,x=.ref a/\SqL K H a xs/\∀ p,H p=none->Q (.ref p) (upd H p (.lst (cutV xs lo hi)))
theorem zk1:SlR X (rSlL X.K):=by
 intro pins s σ H x v vl vu lo hi sl Q I rx hs pl pu h
 obtain ⟨a,xs,rfl,hx,q⟩:=h
 cases rx
 obtain ⟨its,r,ht,hz⟩:=I.list hx
 have hlen:=r.length
 refine ⟨"list",_,slot_list_getitem.lookup,ht.isList.typeIs,?_⟩
 refine wpAny_getItem_list_slice ht.isList hs pl pu .none (by simp) ?_ (by rw [size_toArray] <;> omega)
 rw [zdQ,<- hlen]
 refine ⟨.ref s.heap.objs.size,_,I.laid (t':=s.toks) (o:=.lst (cutV xs lo hi)) (fun b ob q=>Heap.get?_push_of_some _ q) (le_refl _) ?_,rfl,q _ (I.hok.fresh (le_refl _))⟩
 exact ⟨le_trans (zcU xs lo hi) hz,_,0,(r.drop (HT.sIx xs.length 0 lo)).take (HT.sIx xs.length xs.length hi - HT.sIx xs.length 0 lo),Heap.get?_push_size _ rfl⟩
theorem zew:CallR X (.builtin "len") (fun xs H Q=>∃ p ys,xs=[.ref p]/\(SqL X.K H p ys\/SqT X.K H p ys)/\Q (.int ys.length) H):=by
 intro pins s σ H xs us Q I r h
 obtain ⟨p,ys,rfl,hq,q⟩:=h
 obtain ⟨u,rfl,rx⟩:=vals1 r
 cases rx
 have hn:=line63
 rcases hq with hq | hq
 ·obtain ⟨its,r',pl,hz⟩:=I.list hq
  have hlen:=r'.length
  exact Calls.call_len_list pl.isList (by simp only [size_toArray] <;> omega) ⟨.int ys.length,H,I.tok _,⟨s.toks + 1,by rw [size_toArray,hlen]⟩,q⟩
 ·obtain ⟨its,r',pl,hz⟩:=I.tuple hq
  have hlen:=r'.length
  exact len_tuple pl (by simp only [size_toArray] <;> omega) ⟨.int ys.length,H,I.tok _,⟨s.toks + 1,by rw [size_toArray,hlen]⟩,q⟩
theorem zd8:CallR X (.builtin "len") (fun xs H Q=>∃ z,xs=[.str z]/\z.length<=sizeLine/\Q (.int z.length) H):=by
 intro pins s σ H xs us Q I r h
 obtain ⟨z,rfl,hz,q⟩:=h
 obtain ⟨u,rfl,t,rfl⟩:=vals1 r
 have hn:=line63
 exact len_str (by omega) ⟨.int z.length,H,I.tok _,⟨_,rfl⟩,q⟩
theorem zd1:CallR X (.type "list") (fun xs H Q=>∃ p ys,xs=[.ref p]/\(SqL X.K H p ys\/SqT X.K H p ys)/\∀ l,H l=none->Q (.ref l) (upd H l (.lst ys))):=by
 intro pins s σ H xs us Q I r h
 obtain ⟨p,ys,rfl,hq,q⟩:=h
 obtain ⟨u,rfl,rx⟩:=vals1 r
 cases rx
 have fin:∀ (its:List Value),Vals ys its->ys.length<=sizeLine->∀ (h':Heap) (c':Nat),(∀ b o',s.heap.get? b=some o'->h'.get? b=some o')->
   h'.get? s.heap.objs.size=some { cls:=.type "list",dict:=none,data:=.seq its.toArray c',slots:=#[] }->EP X pins σ Q (.ref s.heap.objs.size) { s with heap:=h' }:=fun its r' hz h' c' kp e=>
  ⟨.ref s.heap.objs.size,_,I.laid (t':=s.toks) kp (le_refl _) (show ObjOk X.prog X.w _ h' _ (.lst ys) from ⟨hz,its,c',r',e⟩),rfl,q _ (I.hok.fresh (le_refl _))⟩
 rcases hq with hq | hq
 ·obtain ⟨its,r',pl,hz⟩:=I.list hq
  have hlen:=r'.length
  obtain ⟨o,ho,hc,n,hd⟩:=pl.isList
  exact call_list_seq p (.inl rfl) ho hc hd (fun h' c' kp e=>fin its r' hz h' c' kp e) (by simp only [size_toArray] <;> omega)
 ·obtain ⟨its,r',pl,hz⟩:=I.tuple hq
  have hlen:=r'.length
  obtain ⟨o,ho,hc,n,hd⟩:=pl
  exact call_list_seq p (.inr rfl) ho hc hd (fun h' c' kp e=>fin its r' hz h' c' kp e) (by simp only [size_toArray] <;> omega)
theorem zdC:CallR X (.type "tuple") (fun xs H Q=>∃ p ys,xs=[.ref p]/\((SqL X.K H p ys/\∀ l,H l=none->Q (.ref l) (upd H l (.tup ys)))\/(SqT X.K H p ys/\Q (.ref p) H))):=by
 intro pins s σ H xs us Q I r h
 obtain ⟨p,ys,rfl,h⟩:=h
 obtain ⟨u,rfl,rx⟩:=vals1 r
 cases rx
 rcases h with ⟨hq,q⟩ | ⟨hq,q⟩
 ·obtain ⟨its,r',pl,hz⟩:=I.list hq
  have hlen:=r'.length
  refine call_tuple_list pl.isList (fun h' kp=>?_) (by simp only [size_toArray] <;> omega)
  have I1:Inv X pins σ H { s with heap:=h' }:=I.kept (t':=s.toks) kp
  have I2:Inv X pins σ (upd H h'.objs.size (.tup ys)) { s with heap:=h'.push { cls:=.type "tuple",data:=.seq its.toArray } }:=
   I1.laid (t':=s.toks) (fun b o e=>Heap.get?_push_of_some _ e) (le_refl _) (show ObjOk X.prog X.w _ _ _ (.tup ys) from ⟨hz,its,r',IsTup.new _ _⟩)
  exact ⟨.ref h'.objs.size,_,I2,rfl,q _ (I1.hok.fresh (le_refl _))⟩
 ·obtain ⟨its,r',pl,hz⟩:=I.tuple hq
  exact call_tuple_same pl ⟨.ref p,H,I,rfl,q⟩
def tyV (K:W.Frag) (T:String) (x:V) (H:Hp):Prop:=match x with
 | .str _=>T="str"
 | .int _=>T="int"
 | .ref p=>(T="list"/\∃ xs,SqL K H p xs)\/(T="tuple"/\∃ o,K.lookup p=some o/\o.cls=.type "tuple"/\o.dict=none)\/
   (T="dict"/\((∃ kvs,H p=some (.dK kvs))\/∃ kvs,H p=some (.dT kvs)))
 | _=>False
theorem zmm {pins:List (Addr×Obj)} {σ:St} {H:Hp} {s:Shared} {T:String} {x:V} {v:Value} (I:Inv X pins σ H s) (r:RelV x v) (ty:tyV X.K T x H):
  s.TypeIs v T/\∀ a,v=.ref a->∃ ob,s.heap.get? a=some ob/\ob.dict=none:=by
 cases x with
 | str z=>
   obtain ⟨t,rfl⟩:=r
   cases (show T="str" from ty)
   exact ⟨typeIs_str s z t,fun _ e=>nomatch e⟩
 | int i=>
   obtain ⟨t,rfl⟩:=r
   cases (show T="int" from ty)
   exact ⟨typeIs_int s i t,fun _ e=>nomatch e⟩
 | ref p=>
   cases r
   rcases ty with ⟨rfl,xs,hq⟩ | ⟨rfl,o,hk,hc,hd⟩ | ⟨rfl,hk⟩
   ·obtain ⟨its,_,pl,_⟩:=I.list hq
    refine ⟨pl.isList.typeIs,fun a e=>?_⟩
    cases e
    obtain ⟨o,n,e,c,hd,_⟩:=pl
    exact ⟨o,e,hd⟩
   ·refine ⟨⟨o,I.kIn p o hk,hc⟩,fun a e=>?_⟩
    cases e
    exact ⟨o,I.kIn _ o hk,hd⟩
   ·have z:∃ o,s.heap.get? p=some o/\o.ExactDict:=by
     rcases hk with ⟨kvs,hk⟩ | ⟨kvs,hk⟩
     ·obtain ⟨_,_,_,_,o,_,_,e,ex,_⟩:=I.hok p _ hk
      exact ⟨o,e,ex⟩
     ·obtain ⟨_,_,_,_,o,_,_,e,ex,_⟩:=I.hok p _ hk
      exact ⟨o,e,ex⟩
    obtain ⟨o,e,ex⟩:=z
    refine ⟨⟨o,e,ex.1⟩,fun a e2=>?_⟩
    cases e2
    exact ⟨o,e,ex.2.1⟩
 | _=>exact False.elim ty
def tBM (K:W.Frag) (T:String) (r:V->List V->Hp->VK->Prop) (to:TE) (t:TA):TE:=fun σ H Q=>to σ H fun x H1=>tyV K T x H1/\t σ H1 fun xs H2=>r x xs H2 Q
variable {o e:Expr} {es:List Expr} {to:TE} {t:TA} {name:Str} {apos cpos:Pos} {T id:String} {r:V->List V->Hp->VK->Prop}
theorem zgR (pa:PlainAttrs T) (slot:Slot T name id) (hty:typeOf (.builtin id)=pure (.type "method_descriptor")) (hm:MtR X id r) (ho:PE X o to) (ha:PA X (e::es) t)
  (hbase:attributeBase o name X.env (eval o X.env)=eval o X.env:=by rfl)
  (hfew:((backTo cpos (starEach (e::es) X.env)).all (fun x=>!x.1) && (backToKw cpos (keywordEach [] X.env)).all (fun x=>x.1.isSome)
   && decide ((e::es).length + ([]:List Keyword).length + (if ([]:List Keyword).isEmpty then 0 else 1) < 30))=true:=by rfl)
  (hline:(apos.endLine == cpos.line)=true:=by rfl) (hs:starEach (e::es) X.env=(false,eval e X.env)::starEach es X.env:=by rfl) (hplain:(backTo cpos (starEach es X.env)).any (·.1)=false:=by rfl):
  PE X (.Call (.Attribute o name apos) (e::es) [] cpos) (tBM X.K T r to t):=by
 intro pins s σ H Q I h
 refine wpAny_Call_method_late hbase hfew hline rfl (thn (ho pins s σ H _ I h) fun v s1 ⟨x,H1,I1,r1,ty,q1⟩=>?_)
 obtain ⟨h1,h2⟩:=zmm I1 r1 ty
 refine ⟨T,id,pa,slot,hty,h1,h2,?_⟩
 have hA:=ha cpos pins s1 σ H1 _ I1 q1
 rw [hs] at hA ⊢
 refine Calls.callWith_builtin (by show (false || (backTo cpos (starEach es X.env)).any (·.1))=false; rw [hplain] <;> rfl) (Calls.evalArgs_plain ?_)
 exact thn hA fun us s2 ⟨vs,H2,I2,r2,q2⟩=>hm pins s2 σ H2 x vs v us Q I2 r1 r2 q2
end
end L2
namespace L2
open PySem PySem.Spec PyProof.Rows
def MtM (X:Cx) (id:String) (r:V->List V->Hp->VK->Prop):Prop:=
 ∀ (pins:List (Addr×Obj)) (s:Shared) (σ:St) (H:Hp) (x:V) (xs:List V) (v:Value) (us:List Value) (Q:VK),Inv X pins σ H s->RelV x v->Vals xs us->r x xs H Q->
   wpAny (model X.prog X.w) X.A (call (.builtin id) (v::us)) (EP X pins σ Q) X.xe s
theorem Vals.one:∀ {x:V} {us:List Value},Vals [x] us->∃ u,us=[u]/\RelV x u:=by
 intro x us h
 cases h with
 | cons r t=>cases t; exact ⟨_,rfl,r⟩
theorem Vals.eraseIdx:∀ {xs:List V} {us:List Value} (i:Nat),Vals xs us->Vals (xs.eraseIdx i) (us.eraseIdx i)
 | _,_,_,.nil=>.nil
 | _,_,0,.cons _ t=>t
 | _,_,i + 1,.cons r t=>.cons r (Vals.eraseIdx i t)
theorem zed {α:Type}:∀ (l:List α) (i:Nat),(l.eraseIdx i).length<=l.length
 | [],_=>le_refl _
 | _::_,0=>le_succ _
 | _::r,i + 1=>Nat.succ_le_succ (zed r i)
section
variable {X:Cx} {pins:List (Addr×Obj)} {σ:St} {H:Hp} {s:Shared} {l b:Addr} {xs ys zs:List V}
theorem Inv.lset {its its':List Value} {n:Nat} {f:Array Value->Array Value} {t':Nat} (I:Inv X pins σ H s) (hH:H l=some (.lst xs))
  (e:s.heap.get? l=some { cls:=.type "list",data:=.seq its.toArray n }) (hf:f its.toArray=its'.toArray) (hv:Vals ys its') (hz:ys.length<=sizeLine):
  Inv X pins σ (upd H l (.lst ys)) { s with heap:=s.heap.update l (Obj.mapSeq f),toks:=t' }:=by
 have q:=PySem.IsL.update e f
 rw [hf] at q
 refine I.write (x:=l) (e:=l) (by rw [hH]; exact trivial) (.inl rfl) (fun b' u hb hu=>(Heap.get?_update_other s.heap (Obj.mapSeq f) (Ne.symm hb)).trans hu) ⟨_,q⟩ ?_
 exact ⟨hz,its',_,hv,q⟩
theorem Inv.lnew {its:List Value} {t':Nat} (I:Inv X pins σ H s) (hv:Vals ys its) (hz:ys.length<=sizeLine):
  Inv X pins σ (upd H s.heap.objs.size (.lst ys)) { s with heap:=s.heap.push { cls:=.type "list",data:=.seq its.toArray },toks:=t' }:=
 I.laid (fun _ _ q=>Heap.get?_push_of_some _ q) (le_refl _) ⟨hz,its,0,hv,Heap.get?_push_size _ rfl⟩
theorem Inv.fresh (I:Inv X pins σ H s):H s.heap.objs.size=none:=I.hok.fresh (le_refl _)
theorem Inv.lstM (I:Inv X pins σ H s) (hH:H l=some (.lst xs)):xs.length<=sizeLine/\∃ (its:List Value) (n:Nat),Vals xs its/\xs.length=its.length/\s.heap.get? l=some { cls:=.type "list",data:=.seq its.toArray n }:=by
 obtain ⟨z,its,n,r,e⟩:=I.hok l _ hH
 exact ⟨z,its,n,r,r.length,e⟩
end
section
variable {X:Cx}
def rAppend:V->List V->Hp->VK->Prop:=fun x vs H Q=>∃ l xs y,x=.ref l/\vs=[y]/\H l=some (.lst xs)/\xs.length < sizeLine/\Q .non (upd H l (.lst (xs++[y])))
theorem zcN:MtM X "list.append" rAppend:=by
 intro pins s σ H x vs v us Q I rx rv h
 obtain ⟨l,xs,y,rfl,rfl,hH,hz,q⟩:=h
 cases rx
 obtain ⟨u,rfl,ru⟩:=rv.one
 obtain ⟨z,its,n,r,hl,e⟩:=I.lstM hH
 refine call_meets F.slot_list_append ⟨_,e,rfl⟩ F.entry_list_append (F.args_list_append_2 _ _) (PySem.list_append l its.toArray n u (by rw [size_toArray]; omega)) ⟨e,?_⟩
 refine ⟨.non,_,I.lset (its':=its++[u]) hH e (by simp) (r.append (.cons ru .nil)) ?_,rfl,q⟩
 rw [length_append,length_singleton]
 omega
def rPopAt:V->List V->Hp->VK->Prop:=fun x vs H Q=>∃ l xs i k y,x=.ref l/\vs=[.int i]/\H l=some (.lst xs)/\-(2 ^ 63)<=i/\i < 2 ^ 63/\seqIndex? i xs.length=some k/\xs[k]?=some y/\Q y (upd H l (.lst (xs.eraseIdx k)))
theorem zjH:MtM X "list.pop" rPopAt:=by
 intro pins s σ H x vs v us Q I rx rv h
 obtain ⟨l,xs,i,k,y,rfl,rfl,hH,h1,h2,hk,hy,q⟩:=h
 cases rx
 obtain ⟨u,rfl,ru⟩:=rv.one
 obtain ⟨t,rfl⟩:=ru
 obtain ⟨z,its,n,r,hl,e⟩:=I.lstM hH
 obtain ⟨w,hw,rw'⟩:=r.get hy
 refine call_meets F.slot_list_pop ⟨_,e,rfl⟩ F.entry_list_pop (F.args_list_pop_2 _ _)
  (MeetsSeq.list_pop_at l its.toArray n i t k w (fitsIndex_both h1 h2) (by rw [size_toArray,<- hl]; exact hk) (by rw [<- getElem?_toList]; exact hw) (by rw [size_toArray]; omega)) ⟨e,?_⟩
 refine ⟨y,_,I.lset (its':=its.eraseIdx k) hH e ?_ (r.eraseIdx k) ?_,rw',q⟩
 ·show its.toArray.eraseIdxIfInBounds k=(its.eraseIdx k).toArray
  rw [List.eraseIdxIfInBounds_toArray]
 ·have:=zed xs k
  omega
end
end L2
end
section
namespace Att
open PySem PySem.W PySem.Calls PyProof.Rows
theorem zcF {P:Params} {h:Heap}:∀ (ns:List Int) (vs:List Value),WellAll P h vs (ns.map WData.int)->IntsAre vs ns:=by
 intro ns
 induction ns with
 | nil=>
   intro vs w
   rw [map_nil] at w
   cases w
   exact .nil
 | cons n ns ih=>
   intro vs w
   rw [map_cons] at w
   cases w with
   | cons a b=>
     cases a
     exact .cons _ _ (ih _ b)
theorem zik {l:OpenLaw} {n:Nat} (hn:l.most=some n) {P:Params} {h:Heap} {args:List WData} {vals:List Value}
  (hpre:l.row.toRowW.claim.pre args=true) (hwl:WellAll P h vals args):
  ∃ a vs ns,vals=[Value.ref a]/\args=[WData.list (ns.map WData.int)]/\h.get? a=some { cls:=.type "list",data:=.seq vs.toArray }/\IntsAre vs ns/\ns.length<=n:=by
 have hsh:WShape.hasAll [] args [.list .int]=true:=(pre_splitW hpre).1
 have hc:l.pre.holds [] { args:=args }=true:=(pre_splitW hpre).2
 obtain ⟨d,r,rfl,h1,h2⟩:=hasAllW_cons hsh
 obtain rfl:=hasAllW_nil h2
 obtain ⟨xs,rfl,h3⟩:=hasW_list h1
 obtain ⟨ns,rfl⟩:=items_int h3
 have hlen:ns.length<=n:=by
  unfold OpenLaw.pre at hc
  have h4:(WTm.not (.lt (.lit (.int (n:Int))) (.len (.arg 0)))).holds [] { args:=[.list (ns.map .int)] }=true:=by
   have h4:=(holds_andW hc).1
   rw [hn] at h4
   exact h4
  have h5:=condW_of h4 (w_not (w_lt w_lit (w_len_list (w_arg rfl))))
  rw [length_map] at h5
  refine Nat.le_of_not_lt fun q=>?_
  have q':(n:Int) < ((ns.length:Nat):Int):=by omega
  first
   | (rw [decide_eq_true q'] at h5; exact absurd h5 (by decide))
   | (simp at h5; omega)
 cases hwl with
 | cons w1 w2=>
   cases w2
   cases w1 with
   | list ho hall=>exact ⟨_,_,ns,rfl,rfl,ho,zcF ns _ hall,hlen⟩
theorem zhs (l:OpenLaw) (args:List WData):l.row.toRowW.claim.post args (.bool true) args=true:=
 postW_of (r:=l.row.toRowW) (X:=(true == true))
  (show WShape.has [] (.bool true) .bool=true by first | rfl | decide | simp [WShape.has,WShape.arms,WShape.armsAll])
  (show (WTm.eq .res (.lit (.bool true))).value [] { args:=args,res:=some (.bool true),after:=args }=some (.bool (true == true)) from w_eq_bool (w_res rfl) w_lit) rfl
theorem attach_call {l:OpenLaw} {n:Nat} {q:Program} {loose:List Str} {XP:(Str->Option Value)->Heap->Prop} {YP:World->Heap->Prop} {d:DefRec}
  (hn:l.most=some n) (hdf:d.params.defaults=[])
  (call:∀ (w:World) (s₀ s₁:Shared) (mg mb:Str->Option Value) (fa:Addr) (o:Obj) (pm cd doc:Value) (a:Addr) (vs:List Value) (ns:List Int),
   Ground q loose [] XP w s₀ mg mb s₁.heap->YP w s₁.heap->
   s₁.heap.get? fa=some o->o.data=.func (docDef d.name d.params d.body d.scope pm cd doc)->s₁.heap.CodeRec cd d.name->mg d.name=some (.ref fa)->
   s₁.heap.get? a=some { cls:=.type "list",data:=.seq vs.toArray }->IntsAre vs ns->ns.length<=n->s₁.gens=#[]->
   codeAny (model l.prog w) callerA (.call (.ref fa) ⟨[.ref a],[]⟩) (fun r s'=>r=.ok (.ret (.bool true))/\OldK s₁.heap s'.heap/\s'.os=s₁.os/\AllBare s'.gens) s₁):
  WalkO q loose XP YP l.row.toRowW d [] (fun f vs=>PySem.call f vs):=by
 intro w s₀ s₁ mg mb G Y fa o pm cd doc dV kV ho hd hcd hD hmg hg args vals as hpre hlay hrd hwl hlo
 obtain rfl:dV=.none:=Dflts.none hD hdf
 obtain rfl:kV=.none:=Dflts.noKw hD
 obtain ⟨a,vs,ns,rfl,rfl,hobj,hints,hlen⟩:=zik hn hpre hwl
 refine enter_call (codeAny_mono (call w s₀ s₁ mg mb fa o pm cd doc a vs ns G Y ho (fd_plain hd) hcd hmg hobj hints hlen hg) fun r s' hq=>?_)
 obtain ⟨rfl,h2,h3,h4⟩:=hq
 exact ⟨.inl ⟨.bool true,.bool true,[],rfl,fun _=>rfl,.bool true,zhs l _,fun _=>⟨List.Pairwise.nil,fun _ hm=>(nomatch hm)⟩⟩,h2,h3,h4⟩
end Att
namespace L2
open PySem PySem.Spec PyProof.Rows
theorem zaY:∀ {vs:List Value} {ns:List Int},IntsAre vs ns->Vals (ns.map V.int) vs
 | _,_,.nil=>.nil
 | _,_,.cons n t h=>.cons ⟨t,rfl⟩ (zaY h)
def Only (H:Hp):Prop:=∀ b,H b=none\/∃ o xs,H b=some (.frz o (.lst xs))
theorem zjf {P:Program} {w:World} {K:W.Frag} {mg mb:Str->Option Value} {CX:CXT} {k:Nat} {fa a:Addr} {fd:FuncData} {x:Str} {sp:Sp} {s₁:Shared} {vs:List Value} {ns:List Int}
  (KX:K.In s₁.heap) (hns:s₁.heap.Ns mainGlobals mg) (hb:s₁.heap.Ns builtinsNs mb) (hbb:∀ x:Str,x≠"__name__"->mb x=bootBuiltins x) (hlim:s₁.heap.NoLimit) (hg:s₁.gens=#[])
  (ha:s₁.heap.get? a=some { cls:=.type "list",data:=.seq vs.toArray }) (hi:IntsAre vs ns) (hl:ns.length<=sizeLine) (hr:Room k callerA)
  (F:∀ base:Heap,K.In base->base.Ns mainGlobals mg->FnOk P w K mg base CX k fa fd [x] sp) (hbind:∀ (s:Shared) (u:Value),BindsTo s fd ⟨[u],[]⟩ [(x,u)])
  (hsp:∀ H:Hp,Only H->SqL K H a (ns.map V.int)->sp [.ref a] H (fun v _=>v=.bl true) fun _ _ _=>False)
  (hCX:∀ H e s',CX [] H s₁ (fun _ _ _=>False) e s'->False):
  codeAny (model P w) callerA (.call (.ref fa) ⟨[.ref a],[]⟩) (fun r s'=>r=.ok (.ret (.bool true))/\OldK s₁.heap s'.heap/\s'.os=s₁.os/\AllBare s'.gens) s₁:=by
 have rv:=zaY hi
 have lenV:=hi.length
 -- from an abstract heap in which nothing but the script may be tracked
 have core:∀ H:Hp,Only H->SqL K H a (ns.map V.int)->HOk P w H s₁.heap->(∀ b,H b≠none->b=a)->(H a≠none->K.lookup a=none)->
   codeAny (model P w) callerA (.call (.ref fa) ⟨[.ref a],[]⟩) (fun r s'=>r=.ok (.ret (.bool true))/\OldK s₁.heap s'.heap/\s'.os=s₁.os/\AllBare s'.gens) s₁:=by
  intro H hO hS hok hA hK
  have base_of:∀ {b:Addr} {o:Obj},s₁.heap.get? b=some o->H b=none->(hidT s₁.heap H).get? b=some o:=fun e n=>zjT e n
  have noA:∀ {b:Addr} {o:Obj} {es:Array DictEntry} {ep:Nat},s₁.heap.get? b=some o->o.data=.dict es ep->H b=none:=fun {b o es ep} e d=>by
   cases q:H b with
   | none=>rfl
   | some u=>
     have e':b=a:=hA b (by rw [q]; simp)
     subst e'
     rw [ha] at e; cases e
     have d':Data.seq vs.toArray _=Data.dict es ep:=d
     cases d'
  have nsK:∀ {b:Addr} {m:Str->Option Value},s₁.heap.Ns b m->(hidT s₁.heap H).Ns b m:=fun {b m} ⟨o,es,ep,e,d,r⟩=>⟨o,es,ep,base_of e (noA e d),d,r⟩
  have hKb:K.In (hidT s₁.heap H):=fun b o e=>base_of (KX b o e) (by
   cases q:H b with
   | none=>rfl
   | some u=>
     have e':b=a:=hA b (by rw [q]; simp)
     subst e'
     rw [hK (by rw [q]; simp)] at e; cases e)
  have hM:Mod K mg (hidT s₁.heap H):=⟨hKb,nsK hns,⟨mb,nsK hb,hbb⟩,let ⟨mc,h1,h2⟩:=hlim; ⟨mc,nsK h1,h2⟩⟩
  have e0:Env0 P w K mg (hidT s₁.heap H) callerA [] s₁ H:=⟨rfl,hM,fun b o e=>zk6 e,Nat.le_of_eq (zhc _ _),trivial,fun b hb=>absurd (show b∈([]:List Addr) from hb) (by simp),hok,.of_eq hg⟩
  refine codeAny_mono ((F _ hKb (nsK hns)).run callerA [] s₁ H ⟨[.ref a],[]⟩ [.ref a] [.ref a] _ _ hr e0 (hbind s₁ (.ref a)) (.cons rfl .nil) (hsp H hO hS)) fun r s' h=>?_
  cases r with
  | error e=>exact (hCX H e s' h).elim
  | ok fl=>
    cases fl with
    | next=>exact False.elim h
    | brk=>exact False.elim h
    | cont=>exact False.elim h
    | ret u=>
      obtain ⟨v,H',os,bare,un,hok',r',q⟩:=h
      have q':v=.bl true:=q
      subst q'
      obtain rfl:u=Value.bool true:=r'
      refine ⟨rfl,OldK.of_keep fun b o e=>?_,os,bare⟩
      cases q:H b with
      | none=>exact un.keep b o e q (by intro z; exact absurd (show b∈([]:List Addr) from z) (by simp)) (by simp)
      | some u=>
        rcases hO b with z | ⟨ob,xs,z⟩
        ·rw [q] at z; cases z
        ·have z2:=un.frzs b ob _ z
         obtain ⟨e1,_⟩:=hok b _ z
         obtain ⟨e2,_⟩:=hok' b _ z2
         rw [e] at e1; cases e1
         exact e2
 cases hk:K.lookup a with
 | some o=>
   -- the script is one of the module's own objects
   have e:=KX a o hk
   rw [ha] at e
   cases e
   refine core (fun _=>none) (fun _=>.inl rfl) (.inr ⟨_,vs.toArray,_,hk,rfl,rfl,rfl,by rw [size_toArray,lenV]; exact hl,by simpa using rv⟩) (fun b u z=>by have z':(none:Option HO)=some u:=z; cases z') (fun b z=>absurd rfl z) fun z=>absurd rfl z
 | none=>
   refine core (fun b=>if b=a then some (.frz { cls:=.type "list",data:=.seq vs.toArray } (.lst (ns.map V.int))) else none) (fun b=>?_) (.inl (.inr ⟨{ cls:=.type "list",data:=.seq vs.toArray },if_pos rfl⟩)) (fun b u z=>?_) (fun b z=>?_) fun _=>hk
   ·by_cases hb:b=a
    ·exact .inr ⟨_,_,if_pos hb⟩
    ·exact .inl (if_neg hb)
   ·by_cases hb:b=a
    ·have z':=(if_pos hb).symm.trans z
     cases z'
     subst hb
     exact ⟨ha,by rw [length_map]; exact hl,vs,_,rv,ha⟩
    ·have z':=(if_neg hb).symm.trans z
     cases z'
   ·by_cases hb:b=a
    ·exact hb
    ·exact absurd (if_neg hb) z
end L2
namespace L2
open PySem PySem.Spec PyProof.Rows
theorem walk_of {l:W.OpenLaw} {n k:Nat} {q:Program} {loose:List Str} {XP:(Str->Option Value)->Heap->Prop} {YP:World->Heap->Prop} {d:DefRec} {K:Params->W.Frag} {CX:World->CXT} {sp:World->Sp} {x:Str}
  (hn:l.most=some n) (hn2:n<=sizeLine) (hdf:d.params.defaults=[]) (hr:Room k callerA)
  (hY:∀ (w:World) (h:Heap),YP w h->(K w.params).In h)
  (F:∀ (w:World) (mg:Str->Option Value) (fa:Addr) (h:Heap),(K w.params).In h->h.Ns mainGlobals mg->mg d.name=some (.ref fa)->
   ∃ fd:FuncData,(∀ (s:Shared) (u:Value),BindsTo s fd ⟨[u],[]⟩ [(x,u)])/\
     ∀ base:Heap,(K w.params).In base->base.Ns mainGlobals mg->FnOk l.prog w (K w.params) mg base (CX w) k fa fd [x] (sp w))
  (hsp:∀ (w:World) (H:Hp) (a:Addr) (ns:List Int),ns.length<=n->Only H->SqL (K w.params) H a (ns.map V.int)->sp w [.ref a] H (fun v _=>v=.bl true) fun _ _ _=>False)
  (hCX:∀ (w:World) (H:Hp) (s:Shared) (e:Value) (s':Shared),CX w [] H s (fun _ _ _=>False) e s'->False):
  W.WalkO q loose XP YP l.row.toRowW d [] (fun f vs=>PySem.call f vs):=by
 refine Att.attach_call hn hdf fun w s₀ s₁ mg mb fa o pm cd doc a vs ns G Y ho hd hcd hmg hobj hints hlen hg=>?_
 have KX:=hY w _ Y
 obtain ⟨fd,hb,hF⟩:=F w mg fa _ KX G.T.g hmg
 exact zjf KX G.T.g G.T.b G.T.builtins G.T.nolimit hg hobj hints (le_trans hlen hn2) hr hF hb (fun H hO hS=>hsp w H a ns hlen hO hS) fun H e s'=>hCX w H s₁ e s'
end L2
namespace L2
open PySem PySem.Spec PyProof.Rows
def defArgs (s:Stmt):Arguments:=match s with
 | .FunctionDef _ a _ _ _ _ _ _ _ _=>a
 | _=>{ posonlyargs:=[],args:=[],vararg:=none,kwonlyargs:=[],kw_defaults:=[],kwarg:=none,defaults:=[] }
def defBody (s:Stmt):List Stmt:=match s with
 | .FunctionDef _ _ b _ _ _ _ _ _ _=>b
 | _=>[]
def defScope (s:Stmt):Scope:=match s with
 | .FunctionDef _ _ _ _ _ _ sc _ _ _=>sc
 | _=>{ kind:=.function,names:=[],isGenerator:=false,isCoroutine:=false }
abbrev CX0:CXT:=fun _ _ _ _ _ _=>False
abbrev E0:XK:=fun _ _ _=>False
theorem pass0 {X:Cx}:Passes CX0 X E0:=fun _ _ _ _ _ _ _ h=>h.elim
structure Fun (K:W.Frag) (x qual:Str) (st:Stmt) (f:Addr) (fd:FuncData):Prop where
 ex:∃ (oc:Value) (od:Option Addr) (kV doc pm:Value) (an:Option Addr) (cdv ct:Value) (osl:Array (Option Value)),
  fd=W.fnOf x qual (defArgs st) (defBody st) (defScope st) .none kV doc pm an cdv ct/\K.lookup f=some ⟨oc,od,.func fd,osl⟩/\W.codeIn K cdv qual=true
 kp:W.keepIn K (.ref f)=true
section
variable {P:Program} {w:World} {K:W.Frag} {mg:Str->Option Value} {base:Heap}
theorem Fun.ok {x qual:Str} {st:Stmt} {f:Addr} {fd:FuncData} {N ps:List Str} {k:Nat} {sp:Sp} (F:Fun K x qual st f fd) (S:FnScope N ps (defScope st)) (len:∀ vs H Q E,sp vs H Q E->vs.length=ps.length)
  (hbody:∀ (cdv:Value) (A:Around) (outer:List Env) (s:Shared) (H:Hp) (vs:List V) (Q:VK) (E:XK),Room k (A.deeper (envOfC qual (defScope st) s.heap.objs.size f cdv))->sp vs H Q E->
   ∃ t,PSs (cxOf CX0 P w K mg base N qual (defScope st) f cdv A outer s H E).nox (defBody st) t/\t { nx:=fun _ H'=>Q .non H',rt:=Q } (start N vs) H):FnOk P w K mg base CX0 (k + 1) f fd ps sp:=by
 obtain ⟨oc,od,kV,doc,pm,an,cdv,ct,osl,rfl,lk,hcd⟩:=F.ex
 refine zqW lk hcd S len fun A outer s H vs Q E hr hsp=>?_
 obtain ⟨t,h,q⟩:=hbody cdv A outer s H vs Q E hr hsp
 exact ⟨t,h.nox,q⟩
theorem Fun.binds {x qual:Str} {st:Stmt} {f:Addr} {fd:FuncData} {ps:List Str} (F:Fun K x qual st f fd)
  (h:∀ (kV doc pm:Value) (an:Option Addr) (cdv ct:Value) (us:List Value),us.length=ps.length->bindArgs (W.fnOf x qual (defArgs st) (defBody st) (defScope st) .none kV doc pm an cdv ct) ⟨us,[]⟩=pure (ps.zip us)):Binds K fd ps []:=by
 obtain ⟨oc,od,kV,doc,pm,an,cdv,ct,osl,rfl,lk,hcd⟩:=F.ex
 exact .all (h kV doc pm an cdv ct)
theorem znM {x qual:Str} {st:Stmt} {f:Addr} {oc:Value} {od an:Option Addr} {osl:Array (Option Value)} {kV doc pm cdv ct:Value} (l:K.lookup f=some ⟨oc,od,.func (W.fnOf x qual (defArgs st) (defBody st) (defScope st) .none kV doc pm an cdv ct),osl⟩)
  (c:W.codeIn K cdv qual=true) (k:W.keepIn K (.ref f)=true):Fun K x qual st f (W.fnOf x qual (defArgs st) (defBody st) (defScope st) .none kV doc pm an cdv ct):=⟨⟨oc,od,kV,doc,pm,an,cdv,ct,osl,rfl,l,c⟩,k⟩
end
theorem zfk {A:Around} {k:Nat} (hr:Room k A):A.units + 1 < cLine:=Nat.lt_of_le_of_lt (Nat.add_le_add_left (by decide:1<=64) _) hr.units
def Same (H H':Hp):Prop:=∀ b o,H b=some o->H' b=some o
theorem Same.refl (H:Hp):Same H H:=fun _ _ h=>h
theorem Same.trans {H H1 H2:Hp} (a:Same H H1) (b:Same H1 H2):Same H H2:=fun c o h=>b c o (a c o h)
end L2
end
section
namespace L2
open PySem PySem.Spec PyProof.Rows
end L2
end
section
namespace FL
open PySem
inductive D where
 | non
 | bl (b:Bool)
 | int (i:Int)
 | str (l:List Nat)
 | tup (l:List D)
 | lst (l:List D)
 | dct (t:Bool) (ks vs:List D)
 | set (l:List D)
 | exc (c:List Nat) (fs:List (List Nat)) (vs:List D)
 deriving Inhabited
inductive S where
 | sh (d:D)
 | lst (l:List S)
 | dct (t:Bool) (ks:List D) (vs:List S)
 | set (l:List D)
 deriving Inhabited
mutual
noncomputable def S.toD:S->D
 | .sh d=>d
 | .lst l=>.lst (S.toDs l)
 | .dct t ks vs=>.dct t ks (S.toDs vs)
 | .set l=>.set l
noncomputable def S.toDs:List S->List D
 | []=>[]
 | s::r=>S.toD s::S.toDs r
end
@[simp] theorem S.toDs_map:∀ l:List S,S.toDs l=l.map S.toD
  | []=>rfl
  | s::r=>by rw [S.toDs,S.toDs_map r,map_cons]
@[simp] theorem S.toD_sh (d:D):(S.sh d).toD=d:=rfl
@[simp] theorem S.toD_lst (l:List S):(S.lst l).toD=.lst (l.map S.toD):=by rw [<- S.toDs_map]; rfl
@[simp] theorem S.toD_dct (t:Bool) (ks:List D) (l:List S):(S.dct t ks l).toD=.dct t ks (l.map S.toD):=by rw [<- S.toDs_map]; rfl
@[simp] theorem S.toD_set (l:List D):(S.set l).toD=.set l:=rfl
noncomputable def S.isSh:S->Bool
 | .sh _=>true
 | _=>false
noncomputable def S.flat:S->Bool
 | .sh _=>true
 | .lst l=>l.all S.isSh
 | .dct _ _ vs=>vs.all S.isSh
 | .set _=>false
inductive R where
 | v (s:S)
 | loc (i:Nat)
abbrev Env:=List (Option S)
abbrev WQ:=R->Env->Prop
abbrev WX:=D->Env->Prop
abbrev WE:=Env->WQ->WX->Prop
abbrev WT:=Env->(Bool->Env->Prop)->WX->Prop
abbrev WA:=Env->(List R->Env->Prop)->WX->Prop
structure Ends where
 nx:Env->Prop
 rt:WQ
 bk:Env->Prop
 ct:Env->Prop
 ex:WX
abbrev WS:=Ends->Env->Prop
noncomputable def slot (U:Env) (i:Nat):Option S:=match U,i with
 | [],_=>none
 | s::_,0=>s
 | _::r,i + 1=>slot r i
@[simp] theorem zm9 (s:Option S) (r:Env):slot (s::r) 0=s:=rfl
@[simp] theorem znp (s:Option S) (r:Env) (i:Nat):slot (s::r) (i + 1)=slot r i:=rfl
noncomputable def view (r:R) (U:Env):Option D:=match r with
 | .v s=>some s.toD
 | .loc i=>(slot U i).map S.toD
noncomputable def viewC (r:R) (U:Env):Option D:=match r with
 | .v s=>some s.toD
 | .loc i=>match slot U i with
   | some s=>if s.flat then some s.toD else none
   | none=>none
noncomputable def give (r:R) (U:Env):Option (S×Env):=match r with
 | .v s=>some (s,U)
 | .loc i=>match slot U i with
   | some s=>some (.sh s.toD,U.set i (some (.sh s.toD)))
   | none=>none
noncomputable def giveAll:List R->Env->Option (List S×Env)
 | [],U=>some ([],U)
 | r::rs,U=>match give r U with
   | some (s,U1)=>match giveAll rs U1 with
     | some (ss,U2)=>some (s::ss,U2)
     | none=>none
   | none=>none
def ixN (n:Nat) (i:Int):Option Nat:=if 0<=i then (if i < n then some i.toNat else none) else if -(n:Int)<=i then some (i + n).toNat else none
def atI {α:Type} (xs:List α) (i:Int):Option α:=(ixN xs.length i).bind fun j=>xs[j]?
noncomputable def sIx (n d:Nat):Option Int->Nat
 | none=>d
 | some i=>if i < 0 then (i + n).toNat else min i.toNat n
def cutL {α:Type} (xs:List α) (lo hi:Option Int):List α:=(xs.drop (sIx xs.length 0 lo)).take (sIx xs.length xs.length hi - sIx xs.length 0 lo)
def big:Nat:=1000000
noncomputable def need {α:Type} (o:Option α) (k:α->Prop):Prop:=match o with
 | some a=>k a
 | none=>False
@[simp] theorem zbG {α:Type} (a:α) (k:α->Prop):need (some a) k=k a:=rfl
@[simp] theorem zmo {α:Type} (k:α->Prop):need (none:Option α) k=False:=rfl
@[simp] theorem zoe {α:Type} {c:Prop} [Decidable c] (a:α) (k:α->Prop):need (if c then some a else none) k=(c/\k a):=by
  by_cases h:c <;> simp [h]
noncomputable def wVar (i:Nat):WE:=fun U Q _=>match slot U i with
 | some (.sh d)=>Q (.v (.sh d)) U
 | some _=>Q (.loc i) U
 | none=>False
def wC (d:D):WE:=fun U Q _=>Q (.v (.sh d)) U
def wBin (op:D->D->Option S) (a b:WE):WE:=fun U Q E=>a U (fun x U1=>b U1 (fun y U2=>
 need (viewC x U2) fun p=>need (viewC y U2) fun q=>need (op p q) fun s=>Q (.v s) U2) E) E
def wUn (op:D->Option S) (a:WE):WE:=fun U Q E=>a U (fun x U1=>need (viewC x U1) fun p=>need (op p) fun s=>Q (.v s) U1) E
noncomputable def oAdd:D->D->Option S
 | .int i,.int j=>some (.sh (.int (i + j)))
 | .str x,.str y=>if x.length + y.length<=big then some (.sh (.str (x++y))) else none
 | .lst x,.lst y=>if x.length + y.length<=big then some (.lst ((x++y).map .sh)) else none
 | .tup x,.tup y=>if x.length + y.length<=big then some (.sh (.tup (x++y))) else none
 | _,_=>none
noncomputable def oSub:D->D->Option S
 | .int i,.int j=>some (.sh (.int (i - j)))
 | _,_=>none
def mulOk (i j:Int):Bool:=(decide (-(2 ^ 64) < i) && decide (i < 2 ^ 64)) || (decide (-(2 ^ 64) < j) && decide (j < 2 ^ 64))
noncomputable def oMul:D->D->Option S
 | .int i,.int j=>if mulOk i j then some (.sh (.int (i * j))) else none
 | _,_=>none
noncomputable def oFdiv:D->D->Option S
 | .int i,.int j=>if 0 < j/\j < 18446744073709551616 then some (.sh (.int (i / j))) else none
 | _,_=>none
noncomputable def oMod:D->D->Option S
 | .int i,.int j=>if 0 < j then some (.sh (.int (i % j))) else none
 | _,_=>none
noncomputable def oPow:D->D->Option S
 | .int i,.int j=>if 0<=j/\j<=1000/\i.natAbs < 2 ^ 64 then some (.sh (.int (i ^ j.toNat))) else none
 | _,_=>none
noncomputable def oNeg:D->Option S
 | .int i=>some (.sh (.int (-i)))
 | _=>none
mutual
noncomputable def clash:D->D->Bool
 | .tup l,.tup m=>clashs l m
 | .lst l,.lst m=>clashs l m
 | .int _,.int _=>false
 | .int _,.str _=>false
 | .int _,.non=>false
 | .str _,.int _=>false
 | .str _,.str _=>false
 | .str _,.non=>false
 | .str _,.bl _=>false
 | .bl _,.bl _=>false
 | .bl _,.str _=>false
 | .bl _,.non=>false
 | .non,.int _=>false
 | .non,.str _=>false
 | .non,.bl _=>false
 | .non,.non=>false
 | _,_=>true
noncomputable def clashs:List D->List D->Bool
 | a::l,b::m=>clash a b || clashs l m
 | _,_=>false
end
mutual
noncomputable def dep:D->Nat
 | .tup l=>deps l + 1
 | .lst l=>deps l + 1
 | _=>0
noncomputable def deps:List D->Nat
 | []=>0
 | a::l=>max (dep a) (deps l)
end
open Classical in
noncomputable def cEq (a b:D):Option Bool:=if clash a b || decide (30 < dep a) then none else some (decide (a=b))
noncomputable def cNe (a b:D):Option Bool:=(cEq a b).map (!·)
noncomputable def ltD:D->D->Option Bool
 | .int i,.int j=>some (decide (i < j))
 | .str x,.str y=>some (decide (x < y))
 | _,_=>none
def cLt (a b:D):Option Bool:=ltD a b
def cGt (a b:D):Option Bool:=ltD b a
noncomputable def cLe:D->D->Option Bool
 | .int i,.int j=>some (decide (i<=j))
 | .str x,.str y=>some (!decide (y < x))
 | _,_=>none
noncomputable def cGe:D->D->Option Bool
 | .int i,.int j=>some (decide (j<=i))
 | .str x,.str y=>some (!decide (x < y))
 | _,_=>none
noncomputable def isKey1:D->Bool
 | .int _=>true
 | .str _=>true
 | _=>false
noncomputable def isKey:Bool->D->Bool
 | true,.tup l=>l.all isKey1
 | false,d=>isKey1 d
 | _,_=>false
open Classical in
noncomputable def cIn (a:D):D->Option Bool
 | .lst l=>if l.any (fun x=>clash x a || decide (30 < dep x)) then none else some (decide (a∈l))
 | .tup l=>if l.any (fun x=>clash x a || decide (30 < dep x)) then none else some (decide (a∈l))
 | .dct t ks _=>if isKey t a then some (decide (a∈ks)) else none
 | _=>none
noncomputable def truth:D->Option Bool
 | .non=>some false
 | .bl b=>some b
 | .int i=>some (decide (i≠0))
 | .str l=>some (!l.isEmpty)
 | .tup l=>some (!l.isEmpty)
 | .lst l=>some (!l.isEmpty)
 | _=>none
def wCmp (op:D->D->Option Bool) (a b:WE):WT:=fun U Q E=>a U (fun x U1=>b U1 (fun y U2=>
 need (view x U2) fun p=>need (view y U2) fun q=>need (op p q) fun c=>Q c U2) E) E
def wTest (a:WE):WT:=fun U Q E=>a U (fun x U1=>need (view x U1) fun p=>need (truth p) fun c=>Q c U1) E
def wtAnd (a b:WT):WT:=fun U Q E=>a U (fun c U1=>if c then b U1 Q E else Q false U1) E
def wtOr (a b:WT):WT:=fun U Q E=>a U (fun c U1=>if c then Q true U1 else b U1 Q E) E
def wtNot (a:WT):WT:=fun U Q E=>a U (fun c U1=>Q (!c) U1) E
def wOfT (t:WT):WE:=fun U Q E=>t U (fun c U1=>Q (.v (.sh (.bl c))) U1) E
noncomputable def wAndV (a b:WE):WE:=fun U Q E=>a U (fun x U1=>match view x U1 with
 | some (.bl c)=>if c then b U1 Q E else Q (.v (.sh (.bl false))) U1
 | _=>False) E
def wNotV (a:WE):WE:=fun U Q E=>a U (fun x U1=>need (view x U1) fun p=>need (truth p) fun c=>Q (.v (.sh (.bl (!c)))) U1) E
def wNil:WA:=fun U Q _=>Q [] U
def wCons (a:WE) (b:WA):WA:=fun U Q E=>a U (fun r U1=>b U1 (fun rs U2=>Q (r::rs) U2) E) E
def wTup (a:WA):WE:=fun U Q E=>a U (fun rs U1=>need (if rs.length<=big then giveAll rs U1 else none) fun p=>Q (.v (.sh (.tup (p.1.map S.toD)))) p.2) E
def wLst (a:WA):WE:=fun U Q E=>a U (fun rs U1=>need (if rs.length<=big then giveAll rs U1 else none) fun p=>Q (.v (.lst p.1)) p.2) E
open Classical in
noncomputable def lk {α:Type}:List D->List α->D->Option α
 | k'::ks,v::vs,k=>if k'=k then some v else lk ks vs k
 | _,_,_=>none
noncomputable def ixS:S->D->Option S
 | .sh (.tup l),.int i=>(atI l i).map .sh
 | .sh (.lst l),.int i=>(atI l i).map .sh
 | .sh (.str l),.int i=>(atI l i).map fun c=>.sh (.str [c])
 | .lst l,.int i=>atI l i
 | _,_=>none
noncomputable def wIx (a b:WE):WE:=fun U Q E=>a U (fun x U1=>b U1 (fun y U2=>need (view y U2) fun q=>match x with
 | .v s=>need (ixS s q) fun t=>Q (.v t) U2
 | .loc i=>match slot U2 i with
   | some s=>match ixS s q with
     | some (.sh d)=>Q (.v (.sh d)) U2
     | _=>False
   | none=>False) E) E
noncomputable def wPart (a:Option WE):Env->(Option Int->Env->Prop)->WX->Prop:=match a with
 | none=>fun U Q _=>Q none U
 | some a=>fun U Q E=>a U (fun x U1=>match view x U1 with
   | some (.int i)=>Q (some i) U1
   | _=>False) E
noncomputable def slD (d:D) (lo hi:Option Int):Option S:=match d with
 | .str l=>some (.sh (.str (cutL l lo hi)))
 | .tup l=>some (.sh (.tup (cutL l lo hi)))
 | .lst l=>some (.lst ((cutL l lo hi).map .sh))
 | _=>none
def wSl (a:WE) (lo hi:Option WE):WE:=fun U Q E=>a U (fun x U1=>wPart lo U1 (fun l U2=>wPart hi U2 (fun h U3=>
 need (viewC x U3) fun d=>need (slD d l h) fun s=>Q (.v s) U3) E) E) E
abbrev WF:=List S->(S->List S->Prop)->(D->List S->Prop)->Prop
noncomputable def prep:List Bool->List R->Env->Option (List S×Env)
 | _,[],U=>some ([],U)
 | ms,.v s::rs,U=>match prep ms.tail rs U with
   | some (ss,U1)=>some (s::ss,U1)
   | none=>none
 | ms,.loc i::rs,U=>match slot U i with
   | some s=>if ms.headD false then (match prep ms.tail rs (U.set i none) with
     | some (ss,U1)=>some (s::ss,U1)
     | none=>none)
     else (match prep ms.tail rs (U.set i (some (.sh s.toD))) with
      | some (ss,U1)=>some (.sh s.toD::ss,U1)
      | none=>none)
   | none=>none
noncomputable def back:List Bool->List R->List S->Env->Env
 | ms,.v _::rs,_::ss,U=>back ms.tail rs ss U
 | ms,.loc i::rs,s::ss,U=>if ms.headD false then back ms.tail rs ss (U.set i (some s)) else back ms.tail rs ss U
 | _,_,_,U=>U
def wCall (f:WF) (ms:List Bool) (a:WA):WE:=fun U Q E=>a U (fun rs U1=>need (prep ms rs U1) fun p=>
 f p.1 (fun s ss=>Q (.v s) (back ms rs ss p.2)) (fun x ss=>E x (back ms rs ss p.2))) E
def wB (f:List D->Option S) (a:WA):WE:=fun U Q E=>a U (fun rs U1=>need (rs.mapM fun r=>viewC r U1) fun ds=>need (f ds) fun s=>Q (.v s) U1) E
noncomputable def wAppend (j:Nat) (e:WE):WE:=fun U Q E=>match slot U j with
 | some (.lst _)=>e U (fun r U2=>need (give r U2) fun p=>match slot p.2 j with
   | some (.lst l)=>l.length < big/\Q (.v (.sh .non)) (p.2.set j (some (.lst (l++[p.1]))))
   | _=>False) E
 | _=>False
noncomputable def bLen:List D->Option S
 | [.str l]=>some (.sh (.int l.length))
 | [.tup l]=>some (.sh (.int l.length))
 | [.lst l]=>some (.sh (.int l.length))
 | _=>none
noncomputable def bInt:List D->Option S
 | [.int i]=>some (.sh (.int i))
 | [.bl b]=>some (.sh (.int (if b then 1 else 0)))
 | _=>none
noncomputable def bTuple:List D->Option S
 | [.tup l]=>some (.sh (.tup l))
 | [.lst l]=>some (.sh (.tup l))
 | _=>none
noncomputable def bList:List D->Option S
 | [.tup l]=>some (.lst (l.map .sh))
 | [.lst l]=>some (.lst (l.map .sh))
 | _=>none
def wPass:WS:=fun D U=>D.nx U
def wSeq (a b:WS):WS:=fun D U=>a { D with nx:=b D } U
def wIf (c:WT) (a b:WS):WS:=fun D U=>c U (fun k U1=>if k then a D U1 else b D U1) D.ex
def wRet (a:WE):WS:=fun D U=>a U D.rt D.ex
def wExpr (a:WE):WS:=fun D U=>a U (fun _ U1=>D.nx U1) D.ex
abbrev WG:=S->Env->(Env->Prop)->Prop
def gName (i:Nat):WG:=fun s U Q=>Q (U.set i (some s))
noncomputable def gTups:List WG->List D->Env->(Env->Prop)->Prop
 | [],[],U,Q=>Q U
 | g::gs,d::ds,U,Q=>g (.sh d) U fun U1=>gTups gs ds U1 Q
 | _,_,_,_=>False
noncomputable def gTup (gs:List WG):WG:=fun s U Q=>match s.toD with
 | .tup ds=>ds.length=gs.length/\gTups gs ds U Q
 | _=>False
noncomputable def wSetIx (j:Nat) (i e:WE):WS:=fun D U=>e U (fun r U1=>wVar j U1 (fun x U2=>i U2 (fun y U3=>need (view y U3) fun q=>need (give r U3) fun p=>match x,q,slot p.2 j with
 | .loc k,.int n,some (.lst l)=>k=j/\need (ixN l.length n) fun m=>D.nx (p.2.set j (some (.lst (l.set m p.1))))
 | _,_,_=>False) D.ex) D.ex) D.ex
def wAsg (g:WG) (a:WE):WS:=fun D U=>a U (fun r U1=>need (give r U1) fun p=>g p.1 p.2 D.nx) D.ex
abbrev WI:=Env->(List D->Env->Prop)->WX->Prop
noncomputable def items:D->Option (List D)
 | .lst l=>some l
 | .tup l=>some l
 | .str l=>some (l.map fun c=>.str [c])
 | _=>none
def wIter (a:WE):WI:=fun U Q E=>a U (fun r U1=>need (give r U1) fun p=>need (items p.1.toD) fun l=>Q l p.2) E
def fromTo (lo:Int) (n:Nat):List D:=(List.range n).map fun (k:Nat)=>.int (lo + (k:Int))
noncomputable def wRange1 (a:WE):WI:=fun U Q E=>a U (fun r U1=>match view r U1 with
 | some (.int j)=>(-big<=j/\j<=big)/\Q (fromTo 0 j.toNat) U1
 | _=>False) E
noncomputable def wRange2 (a b:WE):WI:=fun U Q E=>a U (fun r U1=>b U1 (fun t U2=>match view r U2,view t U2 with
 | some (.int i),some (.int j)=>(-big<=i/\i<=big/\-big<=j/\j<=big)/\Q (fromTo i (j - i).toNat) U2
 | _,_=>False) E) E
noncomputable def wLoop (g:WG) (body:WS):List D->WS
 | [],D,U=>D.nx U
 | x::xs,D,U=>g (.sh x) U fun U1=>body { D with nx:=wLoop g body xs D,ct:=wLoop g body xs D,bk:=D.nx } U1
def wFor (it:WI) (g:WG) (body:WS):WS:=fun D U=>it U (fun l U1=>wLoop g body l D U1) D.ex
def wWhile (c:WT) (body:WS):WS:=fun D U=>∃ J:Nat->Env->Prop,(∃ m,J m U)/\∀ m U,J m U->c U (fun k U1=>if k then
 body { D with nx:=fun U2=>∃ m',m' < m/\J m' U2,ct:=fun U2=>∃ m',m' < m/\J m' U2,bk:=D.nx } U1 else D.nx U1) D.ex
abbrev WB:=Env->(Env->Prop)->WX->Prop
def wYes:WT:=fun U Q _=>Q true U
noncomputable def bLoop (g:WG) (c:WT) (b:WB):List D->WB
 | [],U,Q,_=>Q U
 | x::xs,U,Q,E=>g (.sh x) U fun U1=>c U1 (fun k U2=>if k then b U2 (fun U3=>bLoop g c b xs U3 Q E) E else bLoop g c b xs U2 Q E) E
def bFor (it:WI) (g:WG) (c:WT) (b:WB):WB:=fun U Q E=>it U (fun l U1=>bLoop g c b l U1 Q E) E
noncomputable def bEmit (n:Nat) (a:WE):WB:=fun U Q E=>a U (fun r U1=>need (give r U1) fun p=>match slot p.2 n with
 | some (.lst l)=>l.length < big/\Q (p.2.set n (some (.lst (l++[p.1]))))
 | _=>False) E
def wLC (n k:Nat) (it:WI) (g:WG) (c:WT) (b:WB):WE:=fun U Q E=>it U (fun l U1=>
 bLoop g c b l (U1++some (.lst [])::List.replicate k none) (fun U2=>need (slot U2 n) fun s=>Q (.v s) (U2.take n)) (fun x U2=>E x (U2.take n))) E
noncomputable def finals:List S->Env->Option (List S)
 | [],_=>some []
 | .sh d::ss,_::U=>(finals ss U).map (.sh d::·)
 | _::ss,some s::U=>(finals ss U).map (s::·)
 | _,_=>none
def wFn (n m:Nat) (ks:List Nat) (body:WS):WF:=fun ss P PX=>ss.length=n/\(∀ i s,ss[i]?=some s->i∈ks\/s.isSh=true)/\
 body { nx:=fun U=>need (finals ss U) fun fs=>P (.sh .non) fs
        rt:=fun r U=>match r with
         | .v s=>need (finals ss U) fun fs=>P s fs
         | .loc i=>need (slot U i) fun s=>if i < n then need (finals ss (U.set i (some (.sh s.toD)))) fun fs=>P (.sh s.toD) fs else need (finals ss U) fun fs=>P s fs
        bk:=fun _=>False
        ct:=fun _=>False
        ex:=fun x U=>need (finals ss U) fun fs=>PX x fs } (ss.map some++List.replicate (m - n) none)
end FL
end
section
namespace FL
open PySem L2
def keyD:Key->D
 | .inl i=>.int i
 | .inr x=>.str x.cps.toList
mutual
inductive Rep (K:W.Frag) (F:Hp):V->D->Prop
 | non:Rep K F .non .non
 | bl (b:Bool):Rep K F (.bl b) (.bl b)
 | int (i:Int):Rep K F (.int i) (.int i)
 | str {x:Str} {l:List Nat}:x.cps.toList=l->l.length<=16777216->Rep K F (.str x) (.str l)
 | tup {a:Addr} {xs:List V} {ds:List D}:F a=some (.tup xs)->Reps K F xs ds->Rep K F (.ref a) (.tup ds)
 | lst {a:Addr} {xs:List V} {ds:List D}:SqL K F a xs->Reps K F xs ds->Rep K F (.ref a) (.lst ds)
 | dK {a:Addr} {kvs:List (Key×V)} {ks vs:List D}:Rd F a (.dK kvs)->ks=kvs.map (fun p=>keyD p.1)->Reps K F (kvs.map (·.2)) vs->Rep K F (.ref a) (.dct false ks vs)
 | dT {a:Addr} {kvs:List (List Key×V)} {ks vs:List D}:Rd F a (.dT kvs)->ks=kvs.map (fun p=>D.tup (p.1.map keyD))->Reps K F (kvs.map (·.2)) vs->Rep K F (.ref a) (.dct true ks vs)
 | st {a:Addr} {xs:List V} {ds:List D}:F a=some (.set xs)->Reps K F xs ds->Rep K F (.ref a) (.set ds)
inductive Reps (K:W.Frag) (F:Hp):List V->List D->Prop
 | nil:Reps K F [] []
 | cons {x:V} {d:D} {xs:List V} {ds:List D}:Rep K F x d->Reps K F xs ds->Reps K F (x::xs) (d::ds)
end
mutual
inductive SRep (K:W.Frag) (F H:Hp):V->S->List Addr->Prop
 | sh {v:V} {d:D}:Rep K F v d->SRep K F H v (.sh d) []
 | lst {a:Addr} {xs:List V} {l:List S} {fp:List Addr}:H a=some (.lst xs)->SReps K F H xs l fp->SRep K F H (.ref a) (.lst l) (a::fp)
 | dK {a:Addr} {kvs:List (Key×V)} {ks:List D} {l:List S} {fp:List Addr}:H a=some (.dK kvs)->ks=kvs.map (fun p=>keyD p.1)->SReps K F H (kvs.map (·.2)) l fp->SRep K F H (.ref a) (.dct false ks l) (a::fp)
 | dT {a:Addr} {kvs:List (List Key×V)} {ks:List D} {l:List S} {fp:List Addr}:H a=some (.dT kvs)->ks=kvs.map (fun p=>D.tup (p.1.map keyD))->SReps K F H (kvs.map (·.2)) l fp->SRep K F H (.ref a) (.dct true ks l) (a::fp)
 | st {a:Addr} {xs:List V} {ds:List D}:H a=some (.set xs)->Reps K F xs ds->SRep K F H (.ref a) (.set ds) [a]
inductive SReps (K:W.Frag) (F H:Hp):List V->List S->List Addr->Prop
 | nil:SReps K F H [] [] []
 | cons {x:V} {s:S} {xs:List V} {l:List S} {fp fq:List Addr}:SRep K F H x s fp->SReps K F H xs l fq->SReps K F H (x::xs) (s::l) (fp++fq)
end
section
variable {K:W.Frag} {F F' H H' G:Hp}
theorem Rd.mono {a:Addr} {u:HO} (h:Same F F') (r:Rd F a u):Rd F' a u:=by
 rcases r with r | ⟨o,r⟩
 ·exact .inl (h _ _ r)
 ·exact .inr ⟨o,h _ _ r⟩
theorem SqL.mono {a:Addr} {xs:List V} (h:Same F F') (r:SqL K F a xs):SqL K F' a xs:=r.elim (fun r=>.inl (Rd.mono h r)) .inr
theorem SqT.mono {a:Addr} {xs:List V} (h:Same F F') (r:SqT K F a xs):SqT K F' a xs:=r.elim (fun r=>.inl (Rd.mono h r)) .inr
theorem Reps.ind {P:List V->List D->Prop} (hn:P [] []) (hc:∀ {x:V} {d:D} {xs:List V} {ds:List D},Rep K F x d->Reps K F xs ds->P xs ds->P (x::xs) (d::ds)) {xs:List V} {ds:List D} (r:Reps K F xs ds):P xs ds:=
 Reps.rec (motive_1:=fun _ _ _=>True) (motive_2:=fun xs ds _=>P xs ds) trivial (fun _=>trivial) (fun _=>trivial) (fun _ _=>trivial) (fun _ _ _=>trivial) (fun _ _ _=>trivial) (fun _ _ _ _=>trivial) (fun _ _ _ _=>trivial) (fun _ _ _=>trivial) hn (fun a b _ ih=>hc a b ih) r
theorem SReps.ind {P:List V->List S->List Addr->Prop} (hn:P [] [] []) (hc:∀ {x:V} {s:S} {xs:List V} {l:List S} {fp fq:List Addr},SRep K F H x s fp->SReps K F H xs l fq->P xs l fq->P (x::xs) (s::l) (fp++fq)) {xs:List V} {l:List S} {fp:List Addr} (r:SReps K F H xs l fp):P xs l fp:=
 SReps.rec (motive_1:=fun _ _ _ _=>True) (motive_2:=fun xs l fp _=>P xs l fp) (fun _=>trivial) (fun _ _ _=>trivial) (fun _ _ _ _=>trivial) (fun _ _ _ _=>trivial) (fun _ _=>trivial) hn (fun a b _ ih=>hc a b ih) r
theorem Rep.mono (h:Same F F') {v:V} {d:D} (r:Rep K F v d):Rep K F' v d:=
 Rep.rec (motive_1:=fun v d _=>Rep K F' v d) (motive_2:=fun v d _=>Reps K F' v d) .non .bl .int (fun e z=>.str e z) (fun e _ ih=>.tup (h _ _ e) ih) (fun e _ ih=>.lst (SqL.mono h e) ih) (fun e k _ ih=>.dK (Rd.mono h e) k ih) (fun e k _ ih=>.dT (Rd.mono h e) k ih) (fun e _ ih=>.st (h _ _ e) ih) .nil (fun _ _ a b=>.cons a b) r
theorem Reps.mono (h:Same F F') {v:List V} {d:List D} (r:Reps K F v d):Reps K F' v d:=Reps.ind .nil (fun a _ ih=>.cons (Rep.mono h a) ih) r
theorem SRep.mono (h:Same F F') {v:V} {s:S} {fp:List Addr} (r:SRep K F H v s fp):(∀ a∈fp,H' a=H a)->SRep K F' H' v s fp:=
 SRep.rec (motive_1:=fun v s fp _=>(∀ a∈fp,H' a=H a)->SRep K F' H' v s fp) (motive_2:=fun v s fp _=>(∀ a∈fp,H' a=H a)->SReps K F' H' v s fp)
  (fun r _=>.sh (Rep.mono h r)) (fun e _ ih k=>.lst ((k _ mem_cons_self).trans e) (ih fun a ha=>k a (mem_cons_of_mem _ ha)))
  (fun e q _ ih k=>.dK ((k _ mem_cons_self).trans e) q (ih fun a ha=>k a (mem_cons_of_mem _ ha))) (fun e q _ ih k=>.dT ((k _ mem_cons_self).trans e) q (ih fun a ha=>k a (mem_cons_of_mem _ ha)))
  (fun e r k=>.st ((k _ mem_cons_self).trans e) (Reps.mono h r)) (fun _=>.nil) (fun _ _ a b k=>.cons (a fun c hc=>k c (mem_append_left _ hc)) (b fun c hc=>k c (mem_append_right _ hc))) r
theorem SReps.mono (h:Same F F') {v:List V} {s:List S} {fp:List Addr} (r:SReps K F H v s fp):(∀ a∈fp,H' a=H a)->SReps K F' H' v s fp:=
 SReps.ind (P:=fun v s fp=>(∀ a∈fp,H' a=H a)->SReps K F' H' v s fp) (fun _=>.nil) (fun a _ b k=>.cons (SRep.mono h a fun c hc=>k c (mem_append_left _ hc)) (b fun c hc=>k c (mem_append_right _ hc))) r
theorem SRep.frz (h:Same F F') {v:V} {s:S} {fp:List Addr} (r:SRep K F H v s fp):(∀ a∈fp,F' a=H a)->Rep K F' v s.toD:=
 SRep.rec (motive_1:=fun v s fp _=>(∀ a∈fp,F' a=H a)->Rep K F' v s.toD) (motive_2:=fun v s fp _=>(∀ a∈fp,F' a=H a)->Reps K F' v (S.toDs s))
  (fun r _=>Rep.mono h r) (fun e _ ih k=>.lst (SqL.of ((k _ mem_cons_self).trans e)) (ih fun a ha=>k a (mem_cons_of_mem _ ha)))
  (fun e q _ ih k=>.dK (.of ((k _ mem_cons_self).trans e)) q (ih fun a ha=>k a (mem_cons_of_mem _ ha))) (fun e q _ ih k=>.dT (.of ((k _ mem_cons_self).trans e)) q (ih fun a ha=>k a (mem_cons_of_mem _ ha)))
  (fun e r k=>.st ((k _ mem_cons_self).trans e) (Reps.mono h r)) (fun _=>.nil) (fun _ _ a b k=>.cons (a fun c hc=>k c (mem_append_left _ hc)) (b fun c hc=>k c (mem_append_right _ hc))) r
theorem SReps.frz (h:Same F F') {v:List V} {s:List S} {fp:List Addr} (r:SReps K F H v s fp):(∀ a∈fp,F' a=H a)->Reps K F' v (S.toDs s):=
 SReps.ind (P:=fun v s fp=>(∀ a∈fp,F' a=H a)->Reps K F' v (S.toDs s)) (fun _=>.nil) (fun a _ b k=>.cons (SRep.frz h a fun c hc=>k c (mem_append_left _ hc)) (b fun c hc=>k c (mem_append_right _ hc))) r
theorem SRep.view (h:Same F H) {v:V} {s:S} {fp:List Addr} (r:SRep K F H v s fp):Rep K H v s.toD:=SRep.frz h r fun _ _=>rfl
theorem SRep.in_:∀ {v:V} {s:S} {fp:List Addr},SRep K F H v s fp->∀ a∈fp,∃ o,H a=some o:=by
 intro v s fp r
 refine SRep.rec (motive_1:=fun v s fp _=>∀ a∈fp,∃ o,H a=some o) (motive_2:=fun v s fp _=>∀ a∈fp,∃ o,H a=some o) ?_ ?_ ?_ ?_ ?_ ?_ ?_ r
 ·intro v d r a ha; cases ha
 ·intro a xs l fp e r ih b hb
  rcases mem_cons.mp hb with rfl | hb
  ·exact ⟨_,e⟩
  ·exact ih b hb
 ·intro a kvs ks l fp e q r ih b hb
  rcases mem_cons.mp hb with rfl | hb
  ·exact ⟨_,e⟩
  ·exact ih b hb
 ·intro a kvs ks l fp e q r ih b hb
  rcases mem_cons.mp hb with rfl | hb
  ·exact ⟨_,e⟩
  ·exact ih b hb
 ·intro a xs ds e r b hb
  rw [mem_singleton.mp hb]
  exact ⟨_,e⟩
 ·intro a ha; cases ha
 ·intro x s xs l fp fq r1 r2 i1 i2 a ha
  rcases mem_append.mp ha with h | h
  ·exact i1 a h
  ·exact i2 a h
end
inductive EnvRep (K:W.Frag) (F H:Hp):Env->St->List Addr->Prop
 | nil:EnvRep K F H [] [] []
 | no {U:Env} {σ:St} {o:Option V} {fp:List Addr}:EnvRep K F H U σ fp->EnvRep K F H (none::U) (o::σ) fp
 | so {U:Env} {σ:St} {v:V} {s:S} {fp fq:List Addr}:SRep K F H v s fp->EnvRep K F H U σ fq->EnvRep K F H (some s::U) (some v::σ) (fp++fq)
section
variable {K:W.Frag} {F F' H H' G G':Hp}
theorem EnvRep.len {U:Env} {σ:St} {fp:List Addr} (r:EnvRep K F H U σ fp):U.length=σ.length:=by
 induction r with
 | nil=>rfl
 | no _ ih=>exact congrArg (· + 1) ih
 | so _ _ ih=>exact congrArg (· + 1) ih
theorem EnvRep.mono (h:Same F F') {U:Env} {σ:St} {fp:List Addr} (r:EnvRep K F H U σ fp) (k:∀ a∈fp,H' a=H a):EnvRep K F' H' U σ fp:=by
 induction r with
 | nil=>exact .nil
 | no _ ih=>exact .no (ih k)
 | so a _ ih=>exact .so (SRep.mono h a fun c hc=>k c (mem_append_left _ hc)) (ih fun c hc=>k c (mem_append_right _ hc))
theorem EnvRep.in_ {U:Env} {σ:St} {fp:List Addr} (r:EnvRep K F H U σ fp):∀ a∈fp,∃ o,H a=some o:=by
 induction r with
 | nil=>exact fun a ha=>nomatch ha
 | no _ ih=>exact ih
 | so q _ ih=>exact fun a ha=>(mem_append.mp ha).elim (fun z=>SRep.in_ q a z) fun z=>ih a z
theorem EnvRep.app {U U':Env} {σ σ':St} {fp fq:List Addr} (r:EnvRep K F H U σ fp) (r':EnvRep K F H U' σ' fq):EnvRep K F H (U++U') (σ++σ') (fp++fq):=by
 induction r with
 | nil=>exact r'
 | no _ ih=>exact .no ih
 | so a _ ih=>rw [append_assoc]; exact .so a ih
theorem EnvRep.cut {U U':Env} {σ σ':St} {fp:List Addr} (e:U.length=σ.length) (r:EnvRep K F H (U++U') (σ++σ') fp):∃ f1 f2,fp=f1++f2/\EnvRep K F H U σ f1/\EnvRep K F H U' σ' f2:=by
 induction U generalizing σ fp with
 | nil=>cases σ with
   | nil=>exact ⟨[],fp,rfl,.nil,r⟩
   | cons _ _=>exact absurd e.symm (Nat.succ_ne_zero _)
 | cons x U ih=>cases σ with
   | nil=>exact absurd e (Nat.succ_ne_zero _)
   | cons y σ=>cases r with
     | no r=>
       obtain ⟨f1,f2,rfl,a,b⟩:=ih (Nat.succ.inj e) r
       exact ⟨f1,f2,rfl,.no a,b⟩
     | so q r=>
       obtain ⟨f1,f2,rfl,a,b⟩:=ih (Nat.succ.inj e) r
       exact ⟨_,f2,(append_assoc ..).symm,.so q a,b⟩
theorem EnvRep.at:∀ {U:Env} {σ:St} {fp:List Addr} {i:Nat} {s:S},EnvRep K F H U σ fp->slot U i=some s->
  ∃ v fa fi fb,σ[i]?=some (some v)/\fp=fa++(fi++fb)/\SRep K F H v s fi/\
    ∀ {F' H':Hp} {o:Option S} {u:Option V} {fi':List Addr},Same F F'->(∀ a∈fa++fb,H' a=H a)->(EnvRep K F' H' [o] [u] fi')->EnvRep K F' H' (U.set i o) (σ.set i u) (fa++(fi'++fb))
 | _,_,_,_,_,.nil,e=>by simp [slot] at e
 | _,_,_,0,_,.no r,e=>by simp at e
 | _,_,_,0,s,.so (fp:=fp) (fq:=fq) q r,e=>by
   simp at e; subst e
   refine ⟨_,[],fp,fq,rfl,rfl,q,fun {F' H' o u fi'} h k x=>?_⟩
   have r':=EnvRep.mono (H':=H') h r fun a ha=>k a ha
   exact x.app r'
 | _,_,_,i + 1,s,.no r,e=>by
   obtain ⟨v,fa,fi,fb,e1,rfl,q,up⟩:=EnvRep.at r (by simpa using e)
   exact ⟨v,fa,fi,fb,by simpa using e1,rfl,q,fun h k x=>.no (up h k x)⟩
 | _,_,_,i + 1,s,.so (fp:=fp) (fq:=fq) p r,e=>by
   obtain ⟨v,fa,fi,fb,e1,rfl,q,up⟩:=EnvRep.at r (by simpa using e)
   refine ⟨v,fp++fa,fi,fb,by simpa using e1,(append_assoc ..).symm,q,fun {F' H' o u fi'} h k x=>?_⟩
   rw [append_assoc]
   exact .so (SRep.mono h p fun a ha=>k a (mem_append_left _ (mem_append_left _ ha))) (up h (fun a ha=>k a ((mem_append.mp ha).elim (fun z=>mem_append_left _ (mem_append_right _ z)) fun z=>mem_append_right _ z)) x)
theorem EnvRep.put:∀ {U:Env} {σ:St} {fp:List Addr} {i:Nat},EnvRep K F H U σ fp->i < U.length->
  ∃ fa fi fb,fp=fa++(fi++fb)/\
    ∀ {F' H':Hp} {o:Option S} {u:Option V} {fi':List Addr},Same F F'->(∀ a∈fa++fb,H' a=H a)->(EnvRep K F' H' [o] [u] fi')->EnvRep K F' H' (U.set i o) (σ.set i u) (fa++(fi'++fb))
 | _,_,_,_,.nil,e=>by simp at e
 | _,_,fp,0,.no r,e=>⟨[],[],fp,rfl,fun {F' H' o u fi'} h k x=>x.app (EnvRep.mono (H':=H') h r fun a ha=>k a ha)⟩
 | _,_,_,0,.so (fp:=fp) (fq:=fq) q r,e=>⟨[],fp,fq,rfl,fun {F' H' o u fi'} h k x=>x.app (EnvRep.mono (H':=H') h r fun a ha=>k a ha)⟩
 | _,_,_,i + 1,.no r,e=>by
   obtain ⟨fa,fi,fb,rfl,up⟩:=EnvRep.put (i:=i) r (by simpa using e)
   exact ⟨fa,fi,fb,rfl,fun h k x=>.no (up h k x)⟩
 | _,_,_,i + 1,.so (fp:=fp) (fq:=fq) p r,e=>by
   obtain ⟨fa,fi,fb,rfl,up⟩:=EnvRep.put (i:=i) r (by simpa using e)
   refine ⟨fp++fa,fi,fb,(append_assoc ..).symm,fun {F' H' o u fi'} h k x=>?_⟩
   rw [append_assoc]
   exact .so (SRep.mono h p fun a ha=>k a (mem_append_left _ (mem_append_left _ ha))) (up h (fun a ha=>k a ((mem_append.mp ha).elim (fun z=>mem_append_left _ (mem_append_right _ z)) fun z=>mem_append_right _ z)) x)
end
structure Rel (K:W.Frag) (U:Env) (σ:St) (F G H:Hp):Prop where
 fr:Same F H
 gr:∀ a o,G a=some o->H a=some o/\F a=none
 en:∃ fp,EnvRep K F H U σ fp/\fp.Nodup/\∀ a∈fp,F a=none/\G a=none
section
variable {K:W.Frag} {F F' H H' G G':Hp} {U U':Env} {σ σ':St}
theorem Rel.len (r:Rel K U σ F G H):U.length=σ.length:=let ⟨_,e,_⟩:=r.en; e.len
theorem Rel.free (r:Rel K U σ F G H) {p:Addr} (h:H p=none):F p=none/\G p=none/\∀ fp,EnvRep K F H U σ fp->p∉fp:=by
 refine ⟨?_,?_,fun fp e hp=>?_⟩
 ·cases q:F p with
  | none=>rfl
  | some o=>rw [r.fr p o q] at h; cases h
 ·cases q:G p with
  | none=>rfl
  | some o=>rw [(r.gr p o q).1] at h; cases h
 ·obtain ⟨o,q⟩:=e.in_ p hp
  rw [h] at q; cases q
theorem Same.upd {F:Hp} {p:Addr} {o:HO} (h:F p=none):Same F (upd F p o):=fun b u e=>by
 rw [zag (fun z=>by rw [z,h] at e; cases e)]; exact e
theorem Same.upd2 {F H:Hp} {p:Addr} {o:HO} (h:Same F H):Same (L2.upd F p o) (L2.upd H p o):=fun b u e=>by
 by_cases q:b=p
 ·subst q; rw [zam] at e ⊢; exact e
 ·rw [zag q] at e ⊢; exact h b u e
theorem Same.updR {F H:Hp} {p:Addr} {o:HO} (h:Same F H) (n:F p=none):Same F (L2.upd H p o):=fun b u e=>by
 rw [zag (fun z=>by rw [z,n] at e; cases e)]; exact h b u e
theorem Rel.newF (r:Rel K U σ F G H) {p:Addr} {o:HO} (h:H p=none):Rel K U σ (upd F p o) G (upd H p o):=by
 obtain ⟨f0,g0,n0⟩:=r.free h
 obtain ⟨fp,e,nd,ap⟩:=r.en
 have hne:∀ a∈fp,a≠p:=fun a ha z=>n0 fp e (z ▸ ha)
 refine ⟨Same.upd2 r.fr,fun a u q=>?_,fp,e.mono (Same.upd f0) fun a ha=>zag (hne a ha),nd,fun a ha=>?_⟩
 ·have hp:a≠p:=fun z=>by rw [z,g0] at q; cases q
  rw [zag hp,zag hp]; exact r.gr a u q
 ·rw [zag (hne a ha)]; exact ap a ha
theorem Rel.newO (r:Rel K U σ F G H) {p:Addr} {o:HO} {s:S} (h:H p=none) (q:SRep K F (upd H p o) (.ref p) s [p]):Rel K (U++[some s]) (σ++[some (.ref p)]) F G (upd H p o):=by
 obtain ⟨f0,g0,n0⟩:=r.free h
 obtain ⟨fp,e,nd,ap⟩:=r.en
 have hne:∀ a∈fp,a≠p:=fun a ha z=>n0 fp e (z ▸ ha)
 refine ⟨Same.updR r.fr f0,fun a u q=>?_,fp++([p]++[]),(e.mono (Same.refl F) fun a ha=>zag (hne a ha)).app (.so q .nil),?_,fun a ha=>?_⟩
 ·have hp:a≠p:=fun z=>by rw [z,g0] at q; cases q
  rw [zag hp]; exact r.gr a u q
 ·rw [append_nil]
  refine nodup_append.mpr ⟨nd,by simp,fun a ha b hb=>?_⟩
  rw [mem_singleton.mp hb]; exact hne a ha
 ·rcases mem_append.mp ha with z | z
  ·exact ap a z
  ·rw [append_nil] at z; rw [mem_singleton.mp z]; exact ⟨f0,g0⟩
theorem Rel.drop (r:Rel K (U++U') (σ++σ') F G H) (h:U.length=σ.length):Rel K U σ F G H:=by
 obtain ⟨fp,e,nd,ap⟩:=r.en
 obtain ⟨f1,f2,rfl,a,b⟩:=e.cut h
 exact ⟨r.fr,r.gr,f1,a,(nodup_append.mp nd).1,fun c hc=>ap c (mem_append_left _ hc)⟩
theorem Rel.hide (r:Rel K (U++U') (σ++σ') F G H) (h:U.length=σ.length):∃ G',Rel K U σ F G' H/\Same G G'/\
  ∀ {U2:Env} {σ2:St} {F2 H2:Hp},Same F F2->Rel K U2 σ2 F2 G' H2->Rel K (U2++U') (σ2++σ') F2 G H2:=by
 classical
 obtain ⟨fp,e,nd,ap⟩:=r.en
 obtain ⟨f1,f2,rfl,a,b⟩:=e.cut h
 obtain ⟨n1,n2,n12⟩:=nodup_append.mp nd
 refine ⟨fun x=>if x∈f2 then H x else G x,⟨r.fr,fun x o q=>?_,f1,a,n1,fun x hx=>?_⟩,fun x o q=>?_,fun {U2 σ2 F2 H2} sm r2=>?_⟩
 ·by_cases z:x∈f2
  ·simp only [z,if_true] at q
   exact ⟨q,(ap x (mem_append_right _ z)).1⟩
  ·simp only [z,if_false] at q
   exact r.gr x o q
 ·have z:x∉f2:=fun z=>n12 x hx x z rfl
  simp only [z,if_false]
  exact ap x (mem_append_left _ hx)
 ·have z:x∉f2:=fun z=>by
   have:=(ap x (mem_append_right _ z)).2
   rw [q] at this; cases this
  simp only [z,if_false]
  exact q
 ·obtain ⟨fp2,e2,nd2,ap2⟩:=r2.en
  have hk:∀ x∈f2,H2 x=H x/\F2 x=none/\x∉fp2:=fun x hx=>by
   obtain ⟨o,q⟩:=b.in_ x hx
   have w:=r2.gr x o (by simp only [hx,if_true]; exact q)
   refine ⟨w.1.trans q.symm,w.2,fun z=>?_⟩
   have w2:=(ap2 x z).2
   simp only [hx,if_true] at w2
   rw [q] at w2; cases w2
  refine ⟨r2.fr,fun x o q=>?_,fp2++f2,e2.app (b.mono sm fun x hx=>(hk x hx).1),?_,fun x hx=>?_⟩
  ·have z:x∉f2:=fun z=>by
    have:=(ap x (mem_append_right _ z)).2
    rw [q] at this; cases this
   exact r2.gr x o (by simp only [z,if_false]; exact q)
  ·refine nodup_append.mpr ⟨nd2,n2,fun x hx y hy z=>?_⟩
   subst z
   exact (hk x hy).2.2 hx
  ·rcases mem_append.mp hx with z | z
   ·refine ⟨(ap2 x z).1,?_⟩
    have w2:=(ap2 x z).2
    by_cases y:x∈f2
    ·exact absurd z (hk x y).2.2
    ·simp only [y,if_false] at w2; exact w2
   ·exact ⟨(hk x z).2.1,(ap x (mem_append_right _ z)).2⟩
theorem Rel.weakG (r:Rel K U σ F G' H) (h:Same G G'):Rel K U σ F G H:=by
 obtain ⟨fp,e,nd,ap⟩:=r.en
 refine ⟨r.fr,fun a o q=>r.gr a o (h a o q),fp,e,nd,fun a ha=>⟨(ap a ha).1,?_⟩⟩
 cases q:G a with
 | none=>rfl
 | some o=>have:=(ap a ha).2; rw [h a o q] at this; cases this
theorem Rel.swap {U1 U2:Env} {σ1 σ2:St} (h:U.length=σ.length) (h1:U1.length=σ1.length) (r:Rel K (U++(U1++U2)) (σ++(σ1++σ2)) F G H):Rel K (U++(U2++U1)) (σ++(σ2++σ1)) F G H:=by
 obtain ⟨fp,e,nd,ap⟩:=r.en
 obtain ⟨f0,f12,rfl,a,b⟩:=e.cut h
 obtain ⟨f1,f2,rfl,b,c⟩:=b.cut h1
 have p:(f0++(f2++f1)).Perm (f0++(f1++f2)):=List.Perm.append_left _ perm_append_comm
 exact ⟨r.fr,r.gr,_,a.app (c.app b),p.nodup_iff.mpr nd,fun x hx=>ap x (p.mem_iff.mp hx)⟩
theorem Rel.push (r:Rel K U σ F G H) {v:V} {d:D} (h:Rep K F v d):Rel K (U++[some (.sh d)]) (σ++[some v]) F G H:=by
 obtain ⟨fp,e,nd,ap⟩:=r.en
 refine ⟨r.fr,r.gr,fp++([]++[]),e.app (.so (.sh h) .nil),?_,fun x hx=>ap x ?_⟩
 ·simpa using nd
 ·simpa using hx
theorem Rel.pushN (r:Rel K U σ F G H) {u:Option V}:Rel K (U++[none]) (σ++[u]) F G H:=by
 obtain ⟨fp,e,nd,ap⟩:=r.en
 refine ⟨r.fr,r.gr,fp++[],e.app (.no .nil),?_,fun x hx=>ap x ?_⟩
 ·simpa using nd
 ·simpa using hx
theorem zbJ {U:Env} {i:Nat} {s:S} (h:slot U i=some s):U[i]?=some (some s):=by
 induction U generalizing i with
 | nil=>simp [slot] at h
 | cons a r ih=>cases i with
   | zero=>simp at h; simp [h]
   | succ i=>simp at h; simpa using ih h
theorem zb7 {U:Env} {i:Nat} {s:S} (h:slot U i=some s):i < U.length:=(List.getElem?_eq_some_iff.mp (zbJ h)).1
theorem zbR {U U':Env} {i:Nat} (h:i < U.length):slot (U++U') i=slot U i:=by
 induction U generalizing i with
 | nil=>simp at h
 | cons a r ih=>cases i with
   | zero=>rfl
   | succ i=>simpa using ih (by simpa using h)
theorem zaA {U U':Env} {o:Option S}:slot (U++o::U') U.length=o:=by
 induction U with
 | nil=>rfl
 | cons a r ih=>simpa using ih
theorem Rel.at (r:Rel K U σ F G H) {i:Nat} {s:S} (h:slot U i=some s):∃ v fp,σ[i]?=some (some v)/\SRep K F H v s fp:=by
 obtain ⟨fp,e,nd,ap⟩:=r.en
 obtain ⟨v,fa,fi,fb,e1,_,q,_⟩:=e.at h
 exact ⟨v,fi,e1,q⟩
theorem Rel.give (r:Rel K U σ F G H) {i:Nat} {s:S} (h:slot U i=some s):∃ v F',σ[i]?=some (some v)/\Same F F'/\Rep K F' v s.toD/\Rel K (U.set i (some (.sh s.toD))) σ F' G H:=by
 classical
 obtain ⟨fp,e,nd,ap⟩:=r.en
 obtain ⟨v,fa,fi,fb,e1,rfl,q,up⟩:=e.at h
 obtain ⟨na,nib,nab⟩:=nodup_append.mp nd
 obtain ⟨ni,nb,nib⟩:=nodup_append.mp nib
 have nofi:∀ x∈fa++fb,x∉fi:=fun x hx z=>by
  rcases mem_append.mp hx with y | y
  ·exact nab x y x (mem_append_left _ z) rfl
  ·exact nib x z x y rfl
 have sm:Same F (fun x=>if x∈fi then H x else F x):=fun x o w=>by
  have z:x∉fi:=fun z=>by
   have:=(ap x (mem_append_right _ (mem_append_left _ z))).1
   rw [w] at this; cases this
  simp only [z,if_false]; exact w
 have rp:Rep K (fun x=>if x∈fi then H x else F x) v s.toD:=q.frz sm fun x hx=>by simp only [hx,if_true]
 have e2:σ.set i (some v)=σ:=by
  apply ext_getElem?
  intro j
  by_cases hj:i=j
  ·subst hj
   rw [getElem?_set_self (List.getElem?_eq_some_iff.mp e1).1,e1]
  ·rw [getElem?_set_ne hj]
 refine ⟨v,_,e1,sm,rp,fun x o w=>?_,fun x o w=>?_,fa++([]++fb),?_,?_,fun x hx=>?_⟩
 ·by_cases z:x∈fi
  ·simp only [z,if_true] at w; exact w
  ·simp only [z,if_false] at w; exact r.fr x o w
 ·have w2:=r.gr x o w
  have z:x∉fi:=fun z=>by
   have:=(ap x (mem_append_right _ (mem_append_left _ z))).2
   rw [w] at this; cases this
  simp only [z,if_false]; exact w2
 ·have:=up (F':=fun x=>if x∈fi then H x else F x) (H':=H) (o:=some (.sh s.toD)) (u:=some v) (fi':=[]) sm (fun _ _=>rfl) (.so (.sh rp) .nil)
  rw [e2] at this
  exact this
 ·rw [nil_append]
  exact nodup_append.mpr ⟨na,nb,fun x hx y hy=>nab x hx y (mem_append_right _ hy)⟩
 ·rw [nil_append] at hx
  have z:=nofi x hx
  simp only [z,if_false]
  rcases mem_append.mp hx with y | y
  ·exact ap x (mem_append_left _ y)
  ·exact ap x (mem_append_right _ (mem_append_right _ y))
theorem Rel.store {o:Option S} {u:Option V} (r:Rel K (U++[o]) (σ++[u]) F G H) (h:U.length=σ.length) {i:Nat} (hi:i < U.length):Rel K (U.set i o) (σ.set i u) F G H:=by
 obtain ⟨fp,e,nd,ap⟩:=r.en
 obtain ⟨f1,f2,rfl,a,b⟩:=e.cut h
 obtain ⟨fa,fi,fb,rfl,up⟩:=a.put hi
 obtain ⟨n1,n2,n12⟩:=nodup_append.mp nd
 obtain ⟨na,nib,nab⟩:=nodup_append.mp n1
 obtain ⟨ni,nb,nib⟩:=nodup_append.mp nib
 refine ⟨r.fr,r.gr,fa++(f2++fb),up (Same.refl F) (fun _ _=>rfl) b,?_,fun x hx=>?_⟩
 ·refine nodup_append.mpr ⟨na,nodup_append.mpr ⟨n2,nb,fun x hx y hy z=>?_⟩,fun x hx y hy z=>?_⟩
  ·exact n12 y (mem_append_right _ (mem_append_right _ hy)) x hx z.symm
  ·rcases mem_append.mp hy with w | w
   ·exact n12 x (mem_append_left _ hx) y w z
   ·exact nab x hx y (mem_append_right _ w) z
 ·rcases mem_append.mp hx with w | w
  ·exact ap x (mem_append_left _ (mem_append_left _ w))
  ·rcases mem_append.mp w with w | w
   ·exact ap x (mem_append_right _ w)
   ·exact ap x (mem_append_left _ (mem_append_right _ (mem_append_right _ w)))
end
end FL
end
section
namespace FL
open PySem PySem.Spec PyProof.Rows L2
abbrev St:=L2.St
abbrev wp (X:Cx) (pn:List (Addr×Obj)) (xe:Value->Shared->Prop):Cx:={ X with pn:=pn,xe:=xe }
noncomputable def slotOf:R->Option S
 | .v s=>some s
 | .loc _=>none
noncomputable def RV (σ:St) (v:V):R->Prop
 | .v _=>True
 | .loc i=>σ[i]?=some (some v)
noncomputable def RVs (σ:St):List V->List R->Prop
 | [],[]=>True
 | v::vs,r::rs=>RV σ v r/\RVs σ vs rs
 | _,_=>False
def XRep (X:Cx) (H:Hp) (u:Value) (d:D):Prop:=False
def KP (ks:List Nat) (σ σ':St):Prop:=∀ i∈ks,σ'[i]?=σ[i]?
def XC (X:Cx) (T:St->Prop) (F G:Hp) (PX:WX):Prop:=∀ (d:D) (U':Env) (σ':St) (F' H':Hp) (u:Value) (s':Shared),PX d U'->T σ'->Same F F'->Rel X.K U' σ' F' G H'->Inv X [] σ' H' s'->XRep X H' u d->X.xe u s'
theorem XC.mono {X:Cx} {T T':St->Prop} {F F' G G':Hp} {PX:WX} (h:XC X T F G PX) (t:∀ σ,T' σ->T σ) (f:Same F F') (g:Same G G'):XC X T' F' G' PX:=
 fun d U' σ' F2 H2 u s' p q sm r I x=>h d U' σ' F2 H2 u s' p (t _ q) (f.trans sm) (r.weakG g) I x
theorem XC.grow {X:Cx} {T:St->Prop} {F F' G:Hp} {PX:WX} (h:XC X T F G PX) (f:Same F F'):XC X T F' G PX:=h.mono (fun _ z=>z) f (Same.refl G)
inductive tW (X:Cx) (w:WE) (σ:St) (H:Hp) (Q:VK):Prop
 | mk (F G:Hp) (U:Env) (P:WQ) (PX:WX) (rel:Rel X.K U σ F G H) (hw:w U P PX) (hok:∀ r U' v F' H',P r U'->Same F F'->Rel X.K (U'++[slotOf r]) (σ++[some v]) F' G H'->RV σ v r->Q v H') (hx:XC X (·=σ) F G PX):tW X w σ H Q
def FE (X:Cx) (e:Expr) (w:WE):Prop:=∀ (pn:List (Addr×Obj)) (xe:Value->Shared->Prop),PassesOwn (model X.prog X.w) X.A X.env xe->PE (wp X pn xe) e (tW (wp X pn xe) w)
inductive tWT (X:Cx) (w:WT) (σ:St) (H:Hp) (Q:Bool->Hp->Prop):Prop
 | mk (F G:Hp) (U:Env) (P:Bool->Env->Prop) (PX:WX) (rel:Rel X.K U σ F G H) (hw:w U P PX) (hok:∀ b U' F' H',P b U'->Same F F'->Rel X.K U' σ F' G H'->Q b H') (hx:XC X (·=σ) F G PX):tWT X w σ H Q
def FT (X:Cx) (e:Expr) (w:WT):Prop:=∀ (pn:List (Addr×Obj)) (xe:Value->Shared->Prop),PassesOwn (model X.prog X.w) X.A X.env xe->PT (wp X pn xe) e (tWT (wp X pn xe) w)
def FW (X:Cx) (e:Expr) (w:WT):Prop:=∀ (pn:List (Addr×Obj)) (xe:Value->Shared->Prop),PassesOwn (model X.prog X.w) X.A X.env xe->PW (wp X pn xe) e (tWT (wp X pn xe) w)
inductive tWA (X:Cx) (w:WA) (σ:St) (H:Hp) (Q:List V->Hp->Prop):Prop
 | mk (F G:Hp) (U:Env) (P:List R->Env->Prop) (PX:WX) (rel:Rel X.K U σ F G H) (hw:w U P PX) (hok:∀ rs U' vs F' H',P rs U'->Same F F'->Rel X.K (U'++rs.map slotOf) (σ++vs.map some) F' G H'->U'.length=σ.length->RVs σ vs rs->Q vs H') (hx:XC X (·=σ) F G PX):tWA X w σ H Q
def FA (X:Cx) (es:List Expr) (w:WA):Prop:=∀ (pn:List (Addr×Obj)) (xe:Value->Shared->Prop),PassesOwn (model X.prog X.w) X.A X.env xe->PA (wp X pn xe) es (tWA (wp X pn xe) w)
theorem PE.imp {X:Cx} {e:Expr} {t t':TE} (h:PE X e t) (k:∀ σ H Q,t' σ H Q->t σ H Q):PE X e t':=fun pins s σ H Q I q=>h pins s σ H Q I (k σ H Q q)
theorem PT.imp {X:Cx} {e:Expr} {t t':TT} (h:PT X e t) (k:∀ σ H Q,t' σ H Q->t σ H Q):PT X e t':=fun pins s σ H Q I q=>h pins s σ H Q I (k σ H Q q)
theorem PW.imp {X:Cx} {e:Expr} {t t':TT} (h:PW X e t) (k:∀ σ H Q,t' σ H Q->t σ H Q):PW X e t':=fun wh pins s σ H Q I q=>h wh pins s σ H Q I (k σ H Q q)
theorem PA.imp {X:Cx} {e:List Expr} {t t':TA} (h:PA X e t) (k:∀ σ H Q,t' σ H Q->t σ H Q):PA X e t':=fun p pins s σ H Q I q=>h p pins s σ H Q I (k σ H Q q)
section
variable {K:W.Frag} {F F' H H' G G':Hp} {U U':Env} {σ σ':St} {v u:V}
theorem Rel.mid {o:Option S} {w:Option V} (r:Rel K (U++o::U') (σ++w::σ') F G H) (h:U.length=σ.length):Rel K (U++U') (σ++σ') F G H:=by
 obtain ⟨fp,e,nd,ap⟩:=r.en
 obtain ⟨f1,f2,rfl,a,b⟩:=e.cut h
 obtain ⟨f2,f3,rfl,b,c⟩:=EnvRep.cut (U:=[o]) (σ:=[w]) rfl b
 obtain ⟨n1,n2,n3⟩:=nodup_append.mp nd
 obtain ⟨n4,n5,n6⟩:=nodup_append.mp n2
 refine ⟨r.fr,r.gr,f1++f3,a.app c,nodup_append.mpr ⟨n1,n5,fun x hx y hy=>n3 x hx y (mem_append_right _ hy)⟩,fun x hx=>ap x ?_⟩
 rcases mem_append.mp hx with z | z
 ·exact mem_append_left _ z
 ·exact mem_append_right _ (mem_append_right _ z)
theorem len1 {o:Option S} {w:Option V} (r:Rel K (U++[o]) (σ++[w]) F G H):U.length=σ.length:=by
 have:=r.len
 simpa using this
theorem zcb {o o':Option S}:(U++o::U').set U.length o'=U++o'::U':=by
 induction U with
 | nil=>rfl
 | cons a r ih=>simpa using ih
theorem zad {α:Type} {o:Option α} {k:α->Prop} (h:need o k):∃ a,o=some a/\k a:=by
 cases o with
 | none=>exact h.elim
 | some a=>exact ⟨a,rfl,h⟩
def RepE (K:W.Frag) (F H:Hp) (v:V) (d:D):Prop:=Rep K F v d\/
 (∃ a xs ds,v=.ref a/\d=.lst ds/\H a=some (.lst xs)/\Reps K F xs ds)\/
 (∃ a kvs ks vs,v=.ref a/\d=.dct false ks vs/\H a=some (.dK kvs)/\ks=kvs.map (fun p=>keyD p.1)/\Reps K F (kvs.map (·.2)) vs)\/
 (∃ a kvs ks vs,v=.ref a/\d=.dct true ks vs/\H a=some (.dT kvs)/\ks=kvs.map (fun p=>D.tup (p.1.map keyD))/\Reps K F (kvs.map (·.2)) vs)
theorem RepE.mono (h:Same F F') (r:RepE K F H v d):RepE K F' H v d:=by
 rcases r with r | ⟨a,xs,ds,e1,e2,e3,r⟩ | ⟨a,kvs,ks,vs,e1,e2,e3,e4,r⟩ | ⟨a,kvs,ks,vs,e1,e2,e3,e4,r⟩
 ·exact .inl (r.mono h)
 ·exact .inr (.inl ⟨a,xs,ds,e1,e2,e3,r.mono h⟩)
 ·exact .inr (.inr (.inl ⟨a,kvs,ks,vs,e1,e2,e3,e4,r.mono h⟩))
 ·exact .inr (.inr (.inr ⟨a,kvs,ks,vs,e1,e2,e3,e4,r.mono h⟩))
theorem SReps.sh {xs:List V} {l:List S} {fp:List Addr} (r:SReps K F H xs l fp):l.all S.isSh=true->Reps K F xs (l.map S.toD)/\fp=[]:=
 SReps.ind (P:=fun xs l fp=>l.all S.isSh=true->Reps K F xs (l.map S.toD)/\fp=[]) (fun _=>⟨.nil,rfl⟩) (fun a _ ih h=>by
  rw [List.all_cons,and_eq_true] at h
  obtain ⟨q,e⟩:=ih h.2
  cases a with
  | sh r=>exact ⟨.cons r q,e⟩
  | _=>exact absurd h.1 (by simp [S.isSh])) r
theorem look {x:R} {d:D} (r:Rel K (U++(slotOf x::U')) (σ++(some v::σ')) F G H) (h:U.length=σ.length) (rv:RV σ v x) (e:view x U=some d):Rep K H v d:=by
 cases x with
 | v s=>
   obtain ⟨u,fp,e1,q⟩:=r.at (i:=U.length) (s:=s) zaA
   rw [h,getElem?_append_right (le_refl _),sub_self] at e1
   have e2:v=u:=by simpa using e1
   subst e2
   have e3:s.toD=d:=Option.some.inj e
   rw [<- e3]
   exact q.view r.fr
 | loc i=>
   have e':(slot U i).map S.toD=some d:=e
   cases q:slot U i with
   | none=>rw [q] at e'; cases e'
   | some s=>
     rw [q] at e'
     have e3:s.toD=d:=Option.some.inj e'
     have hi:=zb7 q
     obtain ⟨u,fp,e1,w⟩:=r.at (i:=i) (s:=s) (by rw [zbR hi]; exact q)
     rw [getElem?_append_left (h ▸ hi)] at e1
     have rv':σ[i]?=some (some v):=rv
     rw [rv'] at e1
     have e2:v=u:=by simpa using e1
     subst e2
     rw [<- e3]
     exact w.view r.fr
theorem takeC {x:R} {d:D} (r:Rel K (U++(slotOf x::U')) (σ++(some v::σ')) F G H) (h:U.length=σ.length) (rv:RV σ v x) (e:viewC x U=some d):
  ∃ F',Same F F'/\RepE K F' H v d/\Rel K (U++U') (σ++σ') F' G H:=by
 cases x with
 | v s=>
   obtain ⟨u,F',e1,sm,rp,r'⟩:=r.give (i:=U.length) (s:=s) zaA
   rw [h,getElem?_append_right (le_refl _),sub_self] at e1
   have e2:v=u:=by simpa using e1
   subst e2
   have e3:s.toD=d:=Option.some.inj e
   rw [show (U++slotOf (.v s)::U').set U.length (some (S.sh s.toD))=U++some (S.sh s.toD)::U' from zcb] at r'
   exact ⟨F',sm,.inl (e3 ▸ rp),r'.mid h⟩
 | loc i=>
   have e':(match slot U i with | some s=>if s.flat then some s.toD else none | none=>none)=some d:=e
   cases q:slot U i with
   | none=>rw [q] at e'; cases e'
   | some s=>
     rw [q] at e'
     have hi:=zb7 q
     obtain ⟨u,fp,e1,w⟩:=r.at (i:=i) (s:=s) (by rw [zbR hi]; exact q)
     rw [getElem?_append_left (h ▸ hi)] at e1
     have rv':σ[i]?=some (some v):=rv
     rw [rv'] at e1
     have e2:v=u:=by simpa using e1
     subst e2
     refine ⟨F,Same.refl F,?_,r.mid h⟩
     by_cases hf:s.flat=true
     ·have e3:s.toD=d:=by
       have e4:(if s.flat=true then some s.toD else none)=some d:=e'
       rw [if_pos hf] at e4; exact Option.some.inj e4
      subst e3
      cases w with
      | sh r=>exact .inl r
      | lst e0 r0=>
        obtain ⟨r1,_⟩:=r0.sh hf
        exact .inr (.inl ⟨_,_,_,rfl,by simp,e0,r1⟩)
      | dK e0 k0 r0=>
        obtain ⟨r1,_⟩:=r0.sh hf
        exact .inr (.inr (.inl ⟨_,_,_,_,rfl,by simp,e0,k0,r1⟩))
      | dT e0 k0 r0=>
        obtain ⟨r1,_⟩:=r0.sh hf
        exact .inr (.inr (.inr ⟨_,_,_,_,rfl,by simp,e0,k0,r1⟩))
      | st _ _=>exact absurd hf (by simp [S.flat])
     ·exfalso
      have e4:(if s.flat=true then some s.toD else none)=some d:=e'
      rw [if_neg hf] at e4; cases e4
theorem giveR {x:R} {s:S} {U1:Env} (r:Rel K (U++(slotOf x::U')) (σ++(some v::σ')) F G H) (h:U.length=σ.length) (rv:RV σ v x) (e:give x U=some (s,U1)):
  ∃ F',Same F F'/\U1.length=U.length/\Rel K (U1++(some s::U')) (σ++(some v::σ')) F' G H:=by
 cases x with
 | v t=>
   have e':some (t,U)=some (s,U1):=e
   cases e'
   exact ⟨F,Same.refl F,rfl,r⟩
 | loc i=>
   have e':(match slot U i with | some s=>some (S.sh s.toD,U.set i (some (.sh s.toD))) | none=>none)=some (s,U1):=e
   cases q:slot U i with
   | none=>rw [q] at e'; cases e'
   | some t=>
     rw [q] at e'
     cases e'
     have hi:=zb7 q
     obtain ⟨u,F',e1,sm,rp,r'⟩:=r.give (i:=i) (s:=t) (by rw [zbR hi]; exact q)
     rw [getElem?_append_left (h ▸ hi)] at e1
     have rv':σ[i]?=some (some v):=rv
     rw [rv'] at e1
     have e2:v=u:=by simpa using e1
     subst e2
     rw [List.set_append_left _ _ hi] at r'
     refine ⟨F',sm,by simp,?_⟩
     obtain ⟨fp,en,nd,ap⟩:=r'.en
     have hl:(U.set i (some (S.sh t.toD))).length=σ.length:=by simpa using h
     obtain ⟨f1,f2,rfl,a,b⟩:=en.cut hl
     have b':EnvRep K F' H (none::U') (some v::σ') f2:=b
     cases b' with
     | no b=>exact ⟨r'.fr,r'.gr,f1++([]++f2),a.app (.so (.sh rp) b),by simpa using nd,fun x hx=>ap x (by simpa using hx)⟩
end
theorem tW.mono {X:Cx} {w:WE} {σ:St} {H:Hp} {Q Q':VK} (h:tW X w σ H Q) (k:∀ v H',Q v H'->Q' v H'):tW X w σ H Q':=by
 obtain ⟨F,G,U,P,PX,rel,hw,hok,hx⟩:=h
 exact ⟨F,G,U,P,PX,rel,hw,fun r U' v F' H' a b c d=>k _ _ (hok r U' v F' H' a b c d),hx⟩
section
variable {X:Cx} {σ:St} {H:Hp} {Q:VK}
inductive Two (X:Cx) (σ:St) (k:R->R->Env->WQ->WX->Prop) (Q:VK) (v u:V) (H:Hp):Prop
 | mk (F G:Hp) (U:Env) (x y:R) (P:WQ) (PX:WX) (rel:Rel X.K (U++[slotOf x,slotOf y]) (σ++[some v,some u]) F G H) (hl:U.length=σ.length) (rx:RV σ v x) (ry:RV σ u y) (hk:k x y U P PX) (hok:∀ r U' v F' H',P r U'->Same F F'->Rel X.K (U'++[slotOf r]) (σ++[some v]) F' G H'->RV σ v r->Q v H') (hx:XC X (·=σ) F G PX):Two X σ k Q v u H
theorem two {wa wb:WE} {k:R->R->Env->WQ->WX->Prop} (h:tW X (fun U Q E=>wa U (fun x U1=>wb U1 (fun y U2=>k x y U2 Q E) E) E) σ H Q):
  tW X wa σ H fun v H1=>tW X wb σ H1 fun u H2=>Two X σ k Q v u H2:=by
 obtain ⟨F,G,U,P,PX,rel,hw,hok,hx⟩:=h
 refine ⟨F,G,U,_,PX,rel,hw,fun x U1 v F1 H1 hp1 s1 r1 rv1=>?_,hx⟩
 have h1:=len1 r1
 obtain ⟨G1,rel1,gg,back⟩:=r1.hide h1
 refine ⟨F1,G1,U1,_,PX,rel1,hp1,fun y U2 u F2 H2 hp2 s2 r2 rv2=>?_,hx.mono (fun _ z=>z) s1 gg⟩
 have h2:=len1 r2
 have r3:=back s2 r2
 rw [append_assoc,append_assoc] at r3
 exact ⟨F2,G,U2,x,y,P,PX,Rel.swap (U1:=[slotOf y]) (σ1:=[some u]) (U2:=[slotOf x]) (σ2:=[some v]) h2 rfl r3,h2,rv1,rv2,hp2,fun r U' v F' H' a b c d=>hok r U' v F' H' a (s1.trans (s2.trans b)) c d,hx.grow (s1.trans s2)⟩
inductive One (X:Cx) (σ:St) (k:R->Env->WQ->WX->Prop) (Q:VK) (v:V) (H:Hp):Prop
 | mk (F G:Hp) (U:Env) (x:R) (P:WQ) (PX:WX) (rel:Rel X.K (U++[slotOf x]) (σ++[some v]) F G H) (hl:U.length=σ.length) (rx:RV σ v x) (hk:k x U P PX) (hok:∀ r U' v F' H',P r U'->Same F F'->Rel X.K (U'++[slotOf r]) (σ++[some v]) F' G H'->RV σ v r->Q v H') (hx:XC X (·=σ) F G PX):One X σ k Q v H
theorem one {wa:WE} {k:R->Env->WQ->WX->Prop} (h:tW X (fun U Q E=>wa U (fun x U1=>k x U1 Q E) E) σ H Q):tW X wa σ H fun v H1=>One X σ k Q v H1:=by
 obtain ⟨F,G,U,P,PX,rel,hw,hok,hx⟩:=h
 exact ⟨F,G,U,_,PX,rel,hw,fun x U1 v F1 H1 hp1 s1 r1 rv1=>⟨F1,G,U1,x,P,PX,r1,len1 r1,rv1,hp1,fun r U' v F' H' a b c d=>hok r U' v F' H' a (s1.trans b) c d,hx.grow s1⟩,hx⟩
end
section
variable {X:Cx}
theorem zlT {i:Nat} {x:Str} {pos:Pos} (hN:X.N[i]?=some x) (hv:Vis X.env.scope x) (hd:(x == ("__debug__":Str))=false:=by decide) (hcd:(x == ("__classdict__":Str))=false:=by decide):FE X (.Name x pos) (wVar i):=by
 intro pn xe hp
 refine PE.imp (zmW (X:=wp X pn xe) hN hv hd hcd) fun σ H Q h=>?_
 obtain ⟨F,G,U,P,PX,rel,hw,hok,hx⟩:=h
 unfold wVar at hw
 cases q:slot U i with
 | none=>rw [q] at hw; exact hw.elim
 | some s=>
   obtain ⟨v,fp,e1,sr⟩:=rel.at q
   rw [q] at hw
   cases s with
   | sh d=>
     cases sr with
     | sh r=>exact ⟨v,e1,hok _ _ v F H hw (Same.refl F) (rel.push r) trivial⟩
   | lst l=>exact ⟨v,e1,hok _ _ v F H hw (Same.refl F) rel.pushN e1⟩
   | dct t a b=>exact ⟨v,e1,hok _ _ v F H hw (Same.refl F) rel.pushN e1⟩
   | set l=>exact ⟨v,e1,hok _ _ v F H hw (Same.refl F) rel.pushN e1⟩
theorem fe_c {e:Expr} {v:V} {d:D} (h:∀ X:Cx,PE X e (tC v)) (r:∀ K F,Rep K F v d):FE X e (wC d):=by
 intro pn xe hp
 refine PE.imp (h _) fun σ H Q h=>?_
 obtain ⟨F,G,U,P,PX,rel,hw,hok,hx⟩:=h
 exact hok _ _ v F H hw (Same.refl F) (rel.push (r _ _)) trivial
theorem zae {i:Int} {j pos}:FE X (.Constant (.int i) j pos) (wC (.int i)):=fe_c (fun _=>znF) fun _ _=>.int i
theorem zjD {b:Bool} {j pos}:FE X (.Constant (.bool b) j pos) (wC (.bl b)):=fe_c (fun _=>zpu) fun _ _=>.bl b
theorem za8 {x:Str} {l:List Nat} {j pos} (e:x.cps.toList=l) (z:l.length<=16777216):FE X (.Constant (.str x) j pos) (wC (.str l)):=fe_c (fun _=>zmk) fun _ _=>.str e z
end
section
variable {X:Cx} {a b c:Expr} {wa wb wc:WE} {pos:Pos}
theorem OpR.or {f:Value->Value->Sem Value} {r r':R2} (h:OpR X f r) (h':OpR X f r'):OpR X f (fun x y H Q=>r x y H Q\/r' x y H Q):=fun pins s σ H x y v u Q I rx ry q=>
 q.elim (fun z=>h pins s σ H x y v u Q I rx ry z) fun z=>h' pins s σ H x y v u Q I rx ry z
def Does (K:W.Frag) (r:R2) (op:D->D->Option S):Prop:=∀ (σ:St) (U:Env) (F G H:Hp) (x y:V) (p q:D) (s:S) (Q:VK),Rel K U σ F G H->RepE K F H x p->RepE K F H y q->op p q=some s->
 (∀ v F' H',Same F F'->Rel K (U++[some s]) (σ++[some v]) F' G H'->Q v H')->r x y H Q
theorem zdg {op:Operator} {r:R2} {o:D->D->Option S} (ho:∀ pn xe,OpR (wp X pn xe) (binaryOp op) r) (hd:Does X.K r o) (ha:FE X a wa) (hb:FE X b wb):FE X (.BinOp a op b pos) (wBin o wa wb):=by
 intro pn xe hp
 refine PE.imp (zoy (ho pn xe) (ha pn xe hp) (hb pn xe hp)) fun σ H Q h=>?_
 refine (two (k:=fun x y U2 Q E=>need (viewC x U2) fun p=>need (viewC y U2) fun q=>need (o p q) fun s=>Q (.v s) U2) h).mono fun v H1 h1=>h1.mono fun u H2 h2=>?_
 obtain ⟨F,G,U,x,y,P,PX,rel,hl,rx,ry,hk,hok,hx⟩:=h2
 obtain ⟨p,ep,hk⟩:=zad hk
 obtain ⟨q,eq,hk⟩:=zad hk
 obtain ⟨t,et,hk⟩:=zad hk
 obtain ⟨F1,s1,re1,rel1⟩:=takeC rel hl rx ep
 obtain ⟨F2,s2,re2,rel2⟩:=takeC (U':=[]) (σ':=[]) rel1 hl ry eq
 rw [append_nil,append_nil] at rel2
 exact hd σ U F2 G H2 v u p q t Q rel2 (re1.mono s2) re2 et fun v' F' H' sm r'=>hok (.v t) U v' F' H' hk (s1.trans (s2.trans sm)) r' trivial
end
theorem tWA.mono {X:Cx} {w:WA} {σ:St} {H:Hp} {Q Q':List V->Hp->Prop} (h:tWA X w σ H Q) (k:∀ v H',Q v H'->Q' v H'):tWA X w σ H Q':=by
 obtain ⟨F,G,U,P,PX,rel,hw,hok,hx⟩:=h
 exact ⟨F,G,U,P,PX,rel,hw,fun r U' v F' H' a b c d e=>k _ _ (hok r U' v F' H' a b c d e),hx⟩
section
variable {X:Cx} {a b c:Expr} {wa wb wc:WE} {ta tb:WT} {pos:Pos} {σ:St} {H:Hp}
inductive TwoT (X:Cx) (σ:St) (k:R->R->Env->(Bool->Env->Prop)->WX->Prop) (Q:Bool->Hp->Prop) (v u:V) (H:Hp):Prop
 | mk (F G:Hp) (U:Env) (x y:R) (P:Bool->Env->Prop) (PX:WX) (rel:Rel X.K (U++[slotOf x,slotOf y]) (σ++[some v,some u]) F G H) (hl:U.length=σ.length) (rx:RV σ v x) (ry:RV σ u y) (hk:k x y U P PX) (hok:∀ r U' F' H',P r U'->Same F F'->Rel X.K U' σ F' G H'->Q r H') (hx:XC X (·=σ) F G PX):TwoT X σ k Q v u H
theorem twoT {Q:Bool->Hp->Prop} {k:R->R->Env->(Bool->Env->Prop)->WX->Prop} (h:tWT X (fun U Q E=>wa U (fun x U1=>wb U1 (fun y U2=>k x y U2 Q E) E) E) σ H Q):
  tW X wa σ H fun v H1=>tW X wb σ H1 fun u H2=>TwoT X σ k Q v u H2:=by
 obtain ⟨F,G,U,P,PX,rel,hw,hok,hx⟩:=h
 refine ⟨F,G,U,_,PX,rel,hw,fun x U1 v F1 H1 hp1 s1 r1 rv1=>?_,hx⟩
 have h1:=len1 r1
 obtain ⟨G1,rel1,gg,back⟩:=r1.hide h1
 refine ⟨F1,G1,U1,_,PX,rel1,hp1,fun y U2 u F2 H2 hp2 s2 r2 rv2=>?_,hx.mono (fun _ z=>z) s1 gg⟩
 have h2:=len1 r2
 have r3:=back s2 r2
 rw [append_assoc,append_assoc] at r3
 exact ⟨F2,G,U2,x,y,P,PX,Rel.swap (U1:=[slotOf y]) (σ1:=[some u]) (U2:=[slotOf x]) (σ2:=[some v]) h2 rfl r3,h2,rv1,rv2,hp2,fun r U' F' H' a b c=>hok r U' F' H' a (s1.trans (s2.trans b)) c,hx.grow (s1.trans s2)⟩
def DoesC (K:W.Frag) (r:R2) (op:D->D->Option Bool):Prop:=∀ (H:Hp) (x y:V) (p q:D) (k:Bool) (Q:VK),Rep K H x p->Rep K H y q->op p q=some k->Q (.bl k) H->r x y H Q
theorem look2 {K:W.Frag} {U:Env} {F G:Hp} {x y:R} {v u:V} {p q:D} (rel:Rel K (U++[slotOf x,slotOf y]) (σ++[some v,some u]) F G H) (hl:U.length=σ.length) (rx:RV σ v x) (ry:RV σ u y) (ep:view x U=some p) (eq:view y U=some q):
  Rep K H v p/\Rep K H u q/\Rel K U σ F G H:=by
 have rel':Rel K (U++[slotOf y]) (σ++[some u]) F G H:=rel.mid hl
 exact ⟨look rel hl rx ep,look (U':=[]) (σ':=[]) rel' hl ry eq,rel'.drop hl⟩
theorem zaq {op:CmpOp} {r:R2} {o:D->D->Option Bool} (ho:∀ pn xe,OpR (wp X pn xe) (compareOp op) r) (hd:DoesC X.K r o) (ha:FE X a wa) (hb:FE X b wb) (hm:behindInMarks op b=false):FT X (.Compare a [op] [b] pos) (wCmp o wa wb):=by
 intro pn xe hp
 refine PT.imp (zkJ (ho pn xe) (ha pn xe hp) (hb pn xe hp) hm) fun σ H Q h=>?_
 refine (twoT (k:=fun x y U2 Q E=>need (view x U2) fun p=>need (view y U2) fun q=>need (o p q) fun c=>Q c U2) h).mono fun v H1 h1=>h1.mono fun u H2 h2=>?_
 obtain ⟨F,G,U,x,y,P,PX,rel,hl,rx,ry,hk,hok,hx⟩:=h2
 obtain ⟨p,ep,hk⟩:=zad hk
 obtain ⟨q,eq,hk⟩:=zad hk
 obtain ⟨t,et,hk⟩:=zad hk
 obtain ⟨r1,r2,rel'⟩:=look2 rel hl rx ry ep eq
 exact hd H2 v u p q t _ r1 r2 et ⟨t,rfl,hok t U F H2 hk (Same.refl F) rel'⟩
theorem zcB {op:CmpOp} {r:R2} {o:D->D->Option Bool} (ho:∀ pn xe,OpR (wp X pn xe) (compareOp op) r) (hd:DoesC X.K r o) (ha:FE X a wa) (hb:FE X b wb) (hm:behindInMarks op b=false):FE X (.Compare a [op] [b] pos) (wOfT (wCmp o wa wb)):=by
 intro pn xe hp
 refine PE.imp (zlL (ho pn xe) (ha pn xe hp) (hb pn xe hp) hm) fun σ H Q h=>?_
 refine (two (k:=fun x y U2 Q E=>need (view x U2) fun p=>need (view y U2) fun q=>need (o p q) fun c=>Q (.v (.sh (.bl c))) U2) h).mono fun v H1 h1=>h1.mono fun u H2 h2=>?_
 obtain ⟨F,G,U,x,y,P,PX,rel,hl,rx,ry,hk,hok,hx⟩:=h2
 obtain ⟨p,ep,hk⟩:=zad hk
 obtain ⟨q,eq,hk⟩:=zad hk
 obtain ⟨t,et,hk⟩:=zad hk
 obtain ⟨r1,r2,rel'⟩:=look2 rel hl rx ry ep eq
 exact hd H2 v u p q t _ r1 r2 et (hok _ U (.bl t) F H2 hk (Same.refl F) (rel'.push (.bl t)) trivial)
theorem zif {K:W.Frag} {v:V} {d:D} {k:Bool} (r:Rep K H v d) (e:truth d=some k):TruV K v H k:=by
 cases r with
 | non=>exact (Option.some.inj e).symm
 | bl b=>exact (Option.some.inj e).symm
 | int i=>
   have e':=(Option.some.inj e).symm
   rw [e']
   show decide (i≠0)=(i !=0)
   by_cases h:i=0 <;> simp [h]
 | str e1 z=>
   rename_i x l
   have e':=(Option.some.inj e).symm
   have hl:x.length=l.length:=by rw [<- e1]; rfl
   refine ⟨by rw [hl,sizeLine_eq]; exact z,?_⟩
   rw [e',hl]
   cases l with
   | nil=>rfl
   | cons a r=>simp; omega
 | tup h r=>
   refine .inr (.inl ⟨_,SqT.of h,?_⟩)
   have e':=(Option.some.inj e).symm
   rw [e']
   cases r <;> rfl
 | lst h r=>
   refine .inl ⟨_,h,?_⟩
   have e':=(Option.some.inj e).symm
   rw [e']
   cases r <;> rfl
 | dK h k r=>cases e
 | dT h k r=>cases e
 | st h r=>cases e
theorem zfs (ha:FE X a wa) (he:∀ whole,isTrue a X.env whole=(do let v <- whole; standAt a.pos; holding [v] (truthy v)):=by intro _; rfl):FT X a (wTest wa):=by
 intro pn xe hp
 refine PT.imp (zjI (ha pn xe hp) he) fun σ H Q h=>?_
 obtain ⟨F,G,U,P,PX,rel,hw,hok,hx⟩:=h
 refine ⟨F,G,U,_,PX,rel,hw,fun x U1 v F1 H1 hk s1 r1 rv1=>?_,hx⟩
 obtain ⟨p,ep,hk⟩:=zad hk
 obtain ⟨t,et,hk⟩:=zad hk
 have hl:=len1 r1
 exact ⟨t,zif (look (U':=[]) (σ':=[]) r1 hl rv1 ep) et,hok t U1 F1 H1 hk s1 (r1.drop hl)⟩
theorem thenT {Q:Bool->Hp->Prop} {k:Bool->Env->(Bool->Env->Prop)->WX->Prop} {Q':Bool->Hp->Prop} (h:tWT X (fun U Q E=>ta U (fun c U1=>k c U1 Q E) E) σ H Q)
  (hk:∀ (c:Bool) (F G:Hp) (U:Env) (P:Bool->Env->Prop) (PX:WX) (H1:Hp),Rel X.K U σ F G H1->k c U P PX->(∀ r U' F' H',P r U'->Same F F'->Rel X.K U' σ F' G H'->Q r H')->XC X (·=σ) F G PX->Q' c H1):tWT X ta σ H Q':=by
 obtain ⟨F,G,U,P,PX,rel,hw,hok,hx⟩:=h
 exact ⟨F,G,U,_,PX,rel,hw,fun c U1 F1 H1 hp s1 r1=>hk c F1 G U1 P PX H1 r1 hp (fun r U' F' H' a b c=>hok r U' F' H' a (s1.trans b) c) (hx.grow s1),hx⟩
theorem zit (h:FW X a ta):FT X a ta:=fun pn xe hp=>(h pn xe hp).pt
theorem zdA (h:FT X a ta):FW X (.BoolOp .And [a] pos) ta:=fun pn xe hp=>zlk (h pn xe hp)
theorem znm (h:FT X a ta):FW X (.BoolOp .Or [a] pos) ta:=fun pn xe hp=>znP (h pn xe hp)
theorem zfu {rest:List Expr} (h:FT X a ta) (h':FW X (.BoolOp .And (b::rest) pos) tb):FW X (.BoolOp .And (a::b::rest) pos) (wtAnd ta tb):=fun pn xe hp=>by
 refine PW.imp (zod (h pn xe hp) (h' pn xe hp)) fun σ H Q q=>?_
 refine thenT (k:=fun c U1 Q E=>if c then tb U1 Q E else Q false U1) q fun c F G U P PX H1 rel hk hok hx=>?_
 cases c with
 | true=>exact ⟨F,G,U,P,PX,rel,hk,hok,hx⟩
 | false=>exact hok false U F H1 hk (Same.refl F) rel
theorem zoA {rest:List Expr} (h:FT X a ta) (h':FW X (.BoolOp .Or (b::rest) pos) tb):FW X (.BoolOp .Or (a::b::rest) pos) (wtOr ta tb):=fun pn xe hp=>by
 refine PW.imp (zp8 (h pn xe hp) (h' pn xe hp)) fun σ H Q q=>?_
 refine thenT (k:=fun c U1 Q E=>if c then Q true U1 else tb U1 Q E) q fun c F G U P PX H1 rel hk hok hx=>?_
 cases c with
 | false=>exact ⟨F,G,U,P,PX,rel,hk,hok,hx⟩
 | true=>exact hok true U F H1 hk (Same.refl F) rel
theorem zke (h:FT X a ta):FT X (.UnaryOp .Not a pos) (wtNot ta):=fun pn xe hp=>by
 refine PT.imp (zmD (h pn xe hp)) fun σ H Q q=>?_
 exact thenT (k:=fun c U1 Q E=>Q (!c) U1) q fun c F G U P PX H1 rel hk hok hx=>hok _ U F H1 hk (Same.refl F) rel
theorem zp9 {K:W.Frag} {v:V} {c:Bool} (r:Rep K H v (.bl c)):v=.bl c:=by cases r; rfl
theorem zjZ {op:BoolOp} (h:FE X a wa):FE X (.BoolOp op [a] pos) wa:=fun pn xe hp=>zlQ (h pn xe hp)
theorem ziC {rest:List Expr} (ha:FE X a wa) (hb:FE X (.BoolOp .And (b::rest) pos) wb):FE X (.BoolOp .And (a::b::rest) pos) (wAndV wa wb):=fun pn xe hp=>by
 refine PE.imp (znG (ha pn xe hp) (hb pn xe hp)) fun σ H Q q=>?_
 refine (one (k:=fun x U1 Q E=>match view x U1 with | some (.bl c)=>if c then wb U1 Q E else Q (.v (.sh (.bl false))) U1 | _=>False) q).mono fun v H1 h1=>?_
 obtain ⟨F,G,U,x,P,PX,rel,hl,rx,hk,hok,hx⟩:=h1
 split at hk
 ·rename_i c e
  refine ⟨c,zp9 (look (U':=[]) (σ':=[]) rel hl rx e),?_⟩
  cases c with
  | true=>exact ⟨F,G,U,P,PX,rel.drop hl,hk,hok,hx⟩
  | false=>exact hok _ U (.bl false) F H1 hk (Same.refl F) ((rel.drop hl).push (.bl false)) trivial
 ·exact hk.elim
theorem zmf (ha:FE X a wa):FE X (.UnaryOp .Not a pos) (wNotV wa):=fun pn xe hp pins s σ H Q I q=>by
 have q':=one (k:=fun x U1 Q E=>need (view x U1) fun p=>need (truth p) fun c=>Q (.v (.sh (.bl (!c)))) U1) q
 refine UnaryOp_ (thn (ha pn xe hp pins s σ H _ I q') fun v s1 ⟨x,H1,I1,r1,q1⟩=>?_)
 obtain ⟨F,G,U,y,P,PX,rel,hl,rx,hk,hok,hx⟩:=q1
 obtain ⟨p,ep,hk⟩:=zad hk
 obtain ⟨t,et,hk⟩:=zad hk
 refine not_of (thn (zkc (X:=wp X pn xe) pins s1 σ H1 x v (fun b H'=>b=t/\H'=H1) I1 r1 ⟨t,zif (look (U':=[]) (σ':=[]) rel hl rx ep) et,rfl,rfl⟩) fun b s2 ⟨H2,I2,e1,e2⟩=>?_)
 subst e1 e2
 exact ⟨.bl (!b),H2,I2,rfl,hok _ U (.bl (!b)) F H2 hk (Same.refl F) ((rel.drop hl).push (.bl _)) trivial⟩
end
section
variable {X:Cx} {e:Expr} {es:List Expr} {wa:WE} {wb:WA} {pos:Pos} {K:W.Frag}
theorem zab:FA X [] wNil:=fun pn xe hp=>PA.imp znz fun σ H Q q=>by
 obtain ⟨F,G,U,P,PX,rel,hw,hok,hx⟩:=q
 exact hok [] U [] F H hw (Same.refl F) (by simpa using rel) rel.len trivial
theorem zaa (ha:FE X e wa) (hb:FA X es wb) (hs:starEach (e::es) X.env=(false,eval e X.env)::starEach es X.env:=by rfl):FA X (e::es) (wCons wa wb):=fun pn xe hp=>by
 refine PA.imp (zlJ (ha pn xe hp) (hb pn xe hp) hs) fun σ H Q q=>?_
 obtain ⟨F,G,U,P,PX,rel,hw,hok,hx⟩:=q
 refine ⟨F,G,U,_,PX,rel,hw,fun x U1 v F1 H1 hp1 s1 r1 rv1=>?_,hx⟩
 have h1:=len1 r1
 obtain ⟨G1,rel1,gg,back⟩:=r1.hide h1
 refine ⟨F1,G1,U1,_,PX,rel1,hp1,fun rs U2 vs F2 H2 hp2 s2 r2 h2 rv2=>?_,hx.mono (fun _ z=>z) s1 gg⟩
 have r3:=back s2 r2
 rw [append_assoc,append_assoc] at r3
 have hl:(rs.map slotOf).length=(vs.map some).length:=by
  have:=r2.len
  rw [length_append,length_append,h2] at this
  omega
 exact hok (x::rs) U2 (v::vs) F2 H2 hp2 (s1.trans s2) (Rel.swap (U1:=rs.map slotOf) (σ1:=vs.map some) (U2:=[slotOf x]) (σ2:=[some v]) h2 hl r3) h2 ⟨rv1,rv2⟩
end
section
variable {K:W.Frag} {F F' H H' G G':Hp} {σ σ':St} {v u:V}
theorem RVs.len:∀ {vs:List V} {rs:List R},RVs σ vs rs->vs.length=rs.length
 | [],[],_=>rfl
 | [],_::_,h=>h.elim
 | _::_,[],h=>h.elim
 | _::vs,_::rs,h=>by simp [RVs.len h.2]
theorem zbq:∀ {rs:List R} {vs:List V} {U U' U1:Env} {ss:List S} {F:Hp} {σ':St},Rel K (U++(rs.map slotOf++U')) (σ++(vs.map some++σ')) F G H->U.length=σ.length->RVs σ vs rs->giveAll rs U=some (ss,U1)->
  ∃ F',Same F F'/\U1.length=U.length/\ss.length=rs.length/\Rel K (U1++(ss.map some++U')) (σ++(vs.map some++σ')) F' G H
 | [],[],U,U',U1,ss,F,σ',r,h,_,e=>by
   have e':some (([]:List S),U)=some (ss,U1):=e
   cases e'
   exact ⟨F,Same.refl F,rfl,rfl,r⟩
 | [],_::_,_,_,_,_,_,_,_,_,h,_=>h.elim
 | _::_,[],_,_,_,_,_,_,_,_,h,_=>h.elim
 | x::rs,v::vs,U,U',U1,ss,F,σ',r,h,rv,e=>by
   have e':(match give x U with | some (s,U1)=>(match giveAll rs U1 with | some (ss,U2)=>some (s::ss,U2) | none=>none) | none=>none)=some (ss,U1):=e
   cases q:give x U with
   | none=>rw [q] at e'; cases e'
   | some p=>
     obtain ⟨s,U2⟩:=p
     rw [q] at e'
     cases q2:giveAll rs U2 with
     | none=>simp only [q2] at e'; cases e'
     | some p2=>
       obtain ⟨ts,U3⟩:=p2
       simp only [q2] at e'
       cases e'
       obtain ⟨F1,s1,l1,r1⟩:=giveR (U':=rs.map slotOf++U') (σ':=vs.map some++σ') r h rv.1 q
       have h2:U2.length=σ.length:=l1.trans h
       have hl:(rs.map slotOf++U').length=(vs.map some++σ').length:=by
        have:=r1.len
        rw [length_append,length_append,h2,length_cons,length_cons] at this
        omega
       have hl':U'.length=σ'.length:=by
        have:=rv.2.len
        simp at hl
        omega
       have r2:=Rel.swap (U1:=[some s]) (σ1:=[some v]) (U2:=rs.map slotOf++U') (σ2:=vs.map some++σ') h2 rfl r1
       rw [append_assoc,append_assoc] at r2
       obtain ⟨F2,s2,l2,l3,r3⟩:=zbq (rs:=rs) (vs:=vs) r2 h2 rv.2 q2
       have h3:U1.length=σ.length:=l2.trans h2
       rw [<- append_assoc (ts.map some),<- append_assoc (vs.map some)] at r3
       have r4:=Rel.swap (U1:=ts.map some++U') (σ1:=vs.map some++σ') (U2:=[some s]) (σ2:=[some v]) h3 (by simp [l3,rv.2.len,hl']) r3
       exact ⟨F2,s1.trans s2,l2.trans l1,by simp [l3],r4⟩
theorem envReps:∀ {vs:List V} {ss:List S} {fp:List Addr},EnvRep K F H (ss.map some) (vs.map some) fp->SReps K F H vs ss fp
 | [],[],_,.nil=>.nil
 | [],_::_,_,h=>nomatch h
 | _::_,[],_,h=>nomatch h
 | v::vs,s::ss,_,.so a b=>.cons a (envReps b)
theorem Rel.newL {U:Env} {vs:List V} {ss:List S} {p:Addr} (r:Rel K (U++ss.map some) (σ++vs.map some) F G H) (h:U.length=σ.length) (hp:H p=none):
  Rel K (U++[some (.lst ss)]) (σ++[some (.ref p)]) F G (upd H p (.lst vs)):=by
 obtain ⟨f0,g0,n0⟩:=r.free hp
 obtain ⟨fp,e,nd,ap⟩:=r.en
 have hne:∀ a∈fp,a≠p:=fun a ha z=>n0 fp e (z ▸ ha)
 obtain ⟨f1,f2,rfl,en1,en2⟩:=(e.mono (H':=upd H p (.lst vs)) (Same.refl F) fun a ha=>zag (hne a ha)).cut h
 refine ⟨Same.updR r.fr f0,fun a u q=>?_,f1++((p::f2)++[]),en1.app (.so (.lst zam (envReps en2)) .nil),?_,fun a ha=>?_⟩
 ·have hp:a≠p:=fun z=>by rw [z,g0] at q; cases q
  rw [zag hp]; exact r.gr a u q
 ·obtain ⟨n1,n2,n3⟩:=nodup_append.mp nd
  rw [append_nil]
  refine nodup_append.mpr ⟨n1,nodup_cons.mpr ⟨fun z=>hne p (mem_append_right _ z) rfl,n2⟩,fun a ha b hb=>?_⟩
  rcases mem_cons.mp hb with rfl | hb
  ·exact hne a (mem_append_left _ ha)
  ·exact n3 a ha b hb
 ·rw [append_nil] at ha
  rcases mem_append.mp ha with z | z
  ·exact ap a (mem_append_left _ z)
  ·rcases mem_cons.mp z with rfl | z
   ·exact ⟨f0,g0⟩
   ·exact ap a (mem_append_right _ z)
theorem Rel.giveD {U:Env} {vs:List V} {ss:List S} (r:Rel K (U++ss.map some) (σ++vs.map some) F G H) (h:U.length=σ.length):∃ F',Same F F'/\Reps K F' vs (ss.map S.toD)/\Rel K U σ F' G H:=by
 classical
 obtain ⟨fp,e,nd,ap⟩:=r.en
 obtain ⟨f1,f2,rfl,a,b⟩:=e.cut h
 obtain ⟨n1,n2,n3⟩:=nodup_append.mp nd
 have sm:Same F (fun x=>if x∈f2 then H x else F x):=fun x o w=>by
  have z:x∉f2:=fun z=>by
   have:=(ap x (mem_append_right _ z)).1
   rw [w] at this; cases this
  simp only [z,if_false]; exact w
 have rp:=(envReps b).frz sm fun x hx=>by simp only [hx,if_true]
 rw [S.toDs_map] at rp
 refine ⟨_,sm,rp,fun x o w=>?_,fun x o w=>?_,f1,a.mono sm fun _ _=>rfl,n1,fun x hx=>?_⟩
 ·by_cases z:x∈f2
  ·simp only [z,if_true] at w; exact w
  ·simp only [z,if_false] at w; exact r.fr x o w
 ·have w2:=r.gr x o w
  have z:x∉f2:=fun z=>by
   have:=(ap x (mem_append_right _ z)).2
   rw [w] at this; cases this
  simp only [z,if_false]; exact w2
 ·have z:x∉f2:=fun z=>n3 x hx x z rfl
  simp only [z,if_false]
  exact ap x (mem_append_left _ hx)
end
section
variable {X:Cx} {es:List Expr} {wa:WA} {pos:Pos}
inductive Many (X:Cx) (σ:St) (k:List R->Env->WQ->WX->Prop) (Q:VK) (vs:List V) (H:Hp):Prop
 | mk (F G:Hp) (U:Env) (rs:List R) (P:WQ) (PX:WX) (rel:Rel X.K (U++rs.map slotOf) (σ++vs.map some) F G H) (hl:U.length=σ.length) (rv:RVs σ vs rs) (hk:k rs U P PX) (hok:∀ r U' v F' H',P r U'->Same F F'->Rel X.K (U'++[slotOf r]) (σ++[some v]) F' G H'->RV σ v r->Q v H') (hx:XC X (·=σ) F G PX):Many X σ k Q vs H
theorem many {σ:St} {H:Hp} {Q:VK} {k:List R->Env->WQ->WX->Prop} (h:tW X (fun U Q E=>wa U (fun rs U1=>k rs U1 Q E) E) σ H Q):tWA X wa σ H fun vs H1=>Many X σ k Q vs H1:=by
 obtain ⟨F,G,U,P,PX,rel,hw,hok,hx⟩:=h
 exact ⟨F,G,U,_,PX,rel,hw,fun rs U1 vs F1 H1 hp1 s1 r1 h1 rv1=>⟨F1,G,U1,rs,P,PX,r1,h1,rv1,hp1,fun r U' v F' H' a b c d=>hok r U' v F' H' a (s1.trans b) c d,hx.grow s1⟩,hx⟩
theorem zaK (h:FA X es wa):FE X (.List es pos) (wLst wa):=fun pn xe hp=>by
 refine PE.imp (zm0 (h pn xe hp)) fun σ H Q q=>?_
 refine (many (k:=fun rs U1 Q E=>need (if rs.length<=big then giveAll rs U1 else none) fun p=>Q (.v (.lst p.1)) p.2) q).mono fun vs H1 h1=>?_
 obtain ⟨F,G,U,rs,P,PX,rel,hl,rv,hk,hok,hx⟩:=h1
 obtain ⟨⟨ss,U1⟩,ep,hk⟩:=zad hk
 by_cases hz:rs.length<=big
 ·rw [if_pos hz] at ep
  obtain ⟨F1,s1,l1,l2,r1⟩:=zbq (U':=[]) (σ':=[]) (by simpa using rel) hl rv ep
  refine ⟨by rw [rv.len,sizeLine_eq]; exact le_trans hz (by decide),fun p hp=>hok _ U1 (.ref p) F1 _ hk s1 (Rel.newL (by simpa using r1) (l1.trans hl) hp) trivial⟩
 ·rw [if_neg hz] at ep; cases ep
theorem zaF {k:Nat} (h:FA X es wa):FE X (.Tuple es k pos) (wTup wa):=fun pn xe hp=>by
 refine PE.imp (zl0 (h pn xe hp)) fun σ H Q q=>?_
 refine (many (k:=fun rs U1 Q E=>need (if rs.length<=big then giveAll rs U1 else none) fun p=>Q (.v (.sh (.tup (p.1.map S.toD)))) p.2) q).mono fun vs H1 h1=>?_
 obtain ⟨F,G,U,rs,P,PX,rel,hl,rv,hk,hok,hx⟩:=h1
 obtain ⟨⟨ss,U1⟩,ep,hk⟩:=zad hk
 by_cases hz:rs.length<=big
 ·rw [if_pos hz] at ep
  obtain ⟨F1,s1,l1,l2,r1⟩:=zbq (U':=[]) (σ':=[]) (by simpa using rel) hl rv ep
  obtain ⟨F2,s2,rp,r2⟩:=Rel.giveD (U:=U1) (by simpa using r1) (l1.trans hl)
  refine ⟨by rw [rv.len,sizeLine_eq]; exact le_trans hz (by decide),fun p hp=>?_⟩
  have n2:=(r2.free hp).1
  exact hok _ U1 (.ref p) _ _ hk (s1.trans (s2.trans (Same.upd n2))) ((r2.newF hp).push (.tup zam (rp.mono (Same.upd n2)))) trivial
 ·rw [if_neg hz] at ep; cases ep
end
theorem KP.refl {ks:List Nat} {σ:St}:KP ks σ σ:=fun _ _=>rfl
theorem KP.trans {ks:List Nat} {σ σ1 σ2:St} (a:KP ks σ σ1) (b:KP ks σ1 σ2):KP ks σ σ2:=fun i h=>(b i h).trans (a i h)
inductive tWS (X:Cx) (ks:List Nat) (w:WS) (D:L2.Ends) (σ:St) (H:Hp):Prop
 | mk (F G:Hp) (U:Env) (E:Ends) (rel:Rel X.K U σ F G H) (hw:w E U) (n:∀ U' σ' F' H',E.nx U'->KP ks σ σ'->Same F F'->Rel X.K U' σ' F' G H'->D.nx σ' H') (b:∀ U' σ' F' H',E.bk U'->KP ks σ σ'->Same F F'->Rel X.K U' σ' F' G H'->D.bk σ' H') (c:∀ U' σ' F' H',E.ct U'->KP ks σ σ'->Same F F'->Rel X.K U' σ' F' G H'->D.ct σ' H') (r:∀ r U' σ' v F' H',E.rt r U'->KP ks σ σ'->Same F F'->Rel X.K (U'++[slotOf r]) (σ'++[some v]) F' G H'->RV σ' v r->D.rt v H') (hx:XC X (KP ks σ) F G E.ex):tWS X ks w D σ H
def FS (X:Cx) (ks:List Nat) (st:Stmt) (w:WS):Prop:=∀ (pn:List (Addr×Obj)) (xe:Value->Shared->Prop),PassesOwn (model X.prog X.w) X.A X.env xe->PS (wp X pn xe) st (tWS (wp X pn xe) ks w)
def FSs (X:Cx) (ks:List Nat) (st:List Stmt) (w:WS):Prop:=∀ (pn:List (Addr×Obj)) (xe:Value->Shared->Prop),PassesOwn (model X.prog X.w) X.A X.env xe->PSs (wp X pn xe) st (tWS (wp X pn xe) ks w)
theorem PS.imp {X:Cx} {e:Stmt} {t t':TS} (h:PS X e t) (k:∀ D σ H,t' D σ H->t D σ H):PS X e t':=fun pins s σ H D I q=>h pins s σ H D I (k D σ H q)
theorem PSs.imp {X:Cx} {e:List Stmt} {t t':TS} (h:PSs X e t) (k:∀ D σ H,t' D σ H->t D σ H):PSs X e t':=fun pins s σ H D I q=>h pins s σ H D I (k D σ H q)
inductive tWG (X:Cx) (ks:List Nat) (g:WG) (v:V) (σ:St) (H:Hp) (Q:St->Hp->Prop):Prop
 | mk (F G:Hp) (U:Env) (s:S) (P:Env->Prop) (rel:Rel X.K (U++[some s]) (σ++[some v]) F G H) (hw:g s U P) (n:∀ U' σ' F' H',P U'->KP ks σ σ'->Same F F'->Rel X.K U' σ' F' G H'->Q σ' H'):tWG X ks g v σ H Q
def FG (X:Cx) (ks:List Nat) (tg:Expr) (g:WG):Prop:=∀ (pn:List (Addr×Obj)) (xe:Value->Shared->Prop),PassesOwn (model X.prog X.w) X.A X.env xe->PG (wp X pn xe) tg (tWG (wp X pn xe) ks g)
theorem PG.imp {X:Cx} {e:Expr} {t t':TG} (h:PG X e t) (k:∀ v σ H Q,t' v σ H Q->t v σ H Q):PG X e t':=fun pins s σ H v u Q I r q=>h pins s σ H v u Q I r (k v σ H Q q)
section
variable {X:Cx} {ks:List Nat} {st:Stmt} {rest:List Stmt} {w1 w2:WS} {e:Expr} {we:WE} {pos:Pos}
theorem zar:FSs X ks [] wPass:=fun pn xe hp=>PSs.imp zk2 fun D σ H q=>by
 obtain ⟨F,G,U,E,rel,hw,n,b,c,r,x⟩:=q
 exact n U σ F H hw KP.refl (Same.refl F) rel
theorem zac (h1:FS X ks st w1) (h2:FSs X ks rest w2):FSs X ks (st::rest) (wSeq w1 w2):=fun pn xe hp=>PSs.imp (zjA (h1 pn xe hp) (h2 pn xe hp)) fun D σ H q=>by
 obtain ⟨F,G,U,E,rel,hw,n,b,c,r,x⟩:=q
 refine ⟨F,G,U,{ E with nx:=w2 E },rel,hw,fun U1 σ1 F1 H1 hp k s1 r1=>?_,b,c,r,x⟩
 exact ⟨F1,G,U1,E,r1,hp,fun U' σ' F' H' h k' s r=>n U' σ' F' H' h (k.trans k') (s1.trans s) r,fun U' σ' F' H' h k' s r=>b U' σ' F' H' h (k.trans k') (s1.trans s) r,
  fun U' σ' F' H' h k' s r=>c U' σ' F' H' h (k.trans k') (s1.trans s) r,fun a U' σ' v F' H' h k' s q rv=>r a U' σ' v F' H' h (k.trans k') (s1.trans s) q rv,x.mono (fun σ2 k'=>k.trans k') s1 (Same.refl G)⟩
theorem zaf (h1:FS X ks st w1):FSs X ks [st] w1:=fun pn xe hp=>zkQ (h1 pn xe hp)
theorem zaW (h:FE X e we) (hs:swapsWith e none pos.line X.env=pure false:=by rfl):FS X ks (.Expr e pos) (wExpr we):=fun pn xe hp=>PS.imp (zkW (h pn xe hp) hs) fun D σ H q=>by
 obtain ⟨F,G,U,E,rel,hw,n,b,c,r,x⟩:=q
 exact ⟨F,G,U,_,_,rel,hw,fun a U1 v F1 H1 hp s1 r1 rv=>n U1 σ F1 H1 hp KP.refl s1 (r1.drop (len1 r1)),x.mono (fun σ2 z=>by rw [z]; exact KP.refl) (Same.refl F) (Same.refl G)⟩
theorem zat (h:FE X e we):FS X ks (.Return (some e) pos) (wRet we):=fun pn xe hp=>PS.imp (zmP (h pn xe hp)) fun D σ H q=>by
 obtain ⟨F,G,U,E,rel,hw,n,b,c,r,x⟩:=q
 exact ⟨F,G,U,_,_,rel,hw,fun a U1 v F1 H1 hp s1 r1 rv=>r a U1 σ v F1 H1 hp KP.refl s1 r1 rv,x.mono (fun σ2 z=>by rw [z]; exact KP.refl) (Same.refl F) (Same.refl G)⟩
theorem zaT {c:Expr} {a b:List Stmt} {tc:WT} (hc:FT X c tc) (ha:FSs X ks a w1) (hb:FSs X ks b w2):FS X ks (.If c a b pos) (wIf tc w1 w2):=fun pn xe hp=>PS.imp (zqh (hc pn xe hp) (ha pn xe hp) (hb pn xe hp)) fun D σ H q=>by
 obtain ⟨F,G,U,E,rel,hw,n,b,c,r,x⟩:=q
 refine ⟨F,G,U,_,_,rel,hw,fun k U1 F1 H1 hp s1 r1=>?_,x.mono (fun σ2 z=>by rw [z]; exact KP.refl) (Same.refl F) (Same.refl G)⟩
 have go:∀ w:WS,w E U1->tWS (wp X pn xe) ks w D σ H1:=fun w hw=>⟨F1,G,U1,E,r1,hw,fun U' σ' F' H' h k' s r=>n U' σ' F' H' h k' (s1.trans s) r,fun U' σ' F' H' h k' s r=>b U' σ' F' H' h k' (s1.trans s) r,
  fun U' σ' F' H' h k' s r=>c U' σ' F' H' h k' (s1.trans s) r,fun a U' σ' v F' H' h k' s q rv=>r a U' σ' v F' H' h k' (s1.trans s) q rv,x.grow s1⟩
 cases k with
 | true=>exact go _ hp
 | false=>exact go _ hp
theorem zai {tg:Expr} {g:WG} (he:FE X e we) (hg:FG X ks tg g) (hs:swapsWithSole [tg] e pos.line X.env=pure false:=by rfl) (hw:swappedStores [tg] e X.env=pure none:=by rfl)
  (h1:(assignEach [tg] X.env).map (·.2)=[assign tg X.env]:=by rfl):FS X ks (.Assign [tg] e pos) (wAsg g we):=fun pn xe hp=>PS.imp (zkg (he pn xe hp) (hg pn xe hp) hs hw h1) fun D σ H q=>by
 obtain ⟨F,G,U,E,rel,hw,n,b,c,r,x⟩:=q
 refine ⟨F,G,U,_,_,rel,hw,fun a U1 v F1 H1 hp s1 r1 rv=>?_,x.mono (fun σ2 z=>by rw [z]; exact KP.refl) (Same.refl F) (Same.refl G)⟩
 obtain ⟨⟨s,U2⟩,eg,hk⟩:=zad hp
 obtain ⟨F2,s2,l2,r2⟩:=giveR (U':=[]) (σ':=[]) r1 (len1 r1) rv eg
 exact ⟨F2,G,U2,s,_,r2,hk,fun U' σ' F' H' h k' s r=>n U' σ' F' H' h k' (s1.trans (s2.trans s)) r⟩
end
theorem zei {X:Cx} {pins:List (Addr×Obj)} {σ:St} {H:Hp} {s:Shared} {M:Model} {A:Around} {E:Value->Shared->Prop} {i:Nat} {x:Str} {v:V} {u:Value} {Q:Unit->Shared->Prop} (I:Inv X pins σ H s) (hN:∀ j,X.N[j]?=some x->j=i) (hi:X.N[i]?=some x) (hx:Loc X.env.scope x) (r:RelV v u)
  (h:∀ s',Inv X pins (σ.set i (some v)) H s'->(∃ a,Heap.SameBut a s.heap s'.heap/\(a=X.env.locals\/X.env.cells.lookup x=some a))->Q () s') (hf:X.fn x=true\/X.env.scope.names.lookup x=some .local):wpAny M A (storeName X.env x u) Q E s:=by
 obtain ⟨m,hn,hl⟩:=id I.loc
 have hcls:(X.env.scope.kind == .class || (X.env.scope.kind == .module && X.env.locals !=X.env.globals))=false:=by rw [I.ok.kind]; rfl
 have hiσ:i < σ.length:=by rw [I.len]; exact (List.getElem?_eq_some_iff.mp hi).1
 have cne:=I.cne
 have tracked:∀ {a:Addr} {h':Heap},(∃ o,s.heap.get? a=some o/\H a=none)->Heap.SameBut a s.heap h'->HOk X.prog X.w H h':=fun {a h'} ha hs b ob e=>by
  obtain ⟨_,_,hfree⟩:=ha
  refine (I.hok b ob e).stay (fun c w' hc q=>(hs.2 c ?_).trans q) (fun _ q=>q) fun _ _ q=>q
  rintro rfl
  rcases hc with rfl | hc
  ·rw [hfree] at e; cases e
  ·rw [hfree] at hc; cases hc
 rcases hx with hk | hk
 ·refine wpAny_storeName_local hk hn (fun h' hn' hs=>?_) hcls
  obtain ⟨oL,_,_,hoL,_⟩:=id hn
  refine h _ ⟨I.ok,I.os,I.bare,⟨fun b o e n hb hx=>?_,fun b o e n hb hx=>?_,I.base.free,fun b o e hx=>?_,I.base.tups,I.base.frzs,I.base.tbls⟩,⟨_,hn',fun j y v' e1 e2 e3=>?_⟩,fun y c e=>?_,I.free,I.freeC,fun p hp=>?_,tracked ⟨oL,hoL,I.free⟩ hs,by simpa using I.len⟩ ⟨_,hs,.inl rfl⟩
  ·exact (hs.2 b (ne_of_lt (lt_of_lt_of_le (Heap.lt_size e) I.ok.above))).trans (I.base.keep b o e n hb hx)
  ·obtain ⟨sl,e1⟩:=I.base.slot b o e n hb hx
   exact ⟨sl,(hs.2 b (ne_of_lt (lt_of_lt_of_le (Heap.lt_size e) I.ok.above))).trans e1⟩
  ·obtain ⟨o',e1⟩:=I.base.there b o e hx
   exact ⟨o',(hs.2 b (ne_of_lt (lt_of_lt_of_le (Heap.lt_size e) I.ok.above))).trans e1⟩
  ·by_cases hj:j=i
   ·subst hj
    rw [hi] at e1; cases e1
    rw [getElem?_set_self hiσ] at e2
    cases e2
    exact ⟨u,r,.inl ⟨hk,by simp⟩⟩
   ·rw [getElem?_set_ne (Ne.symm hj)] at e2
    obtain ⟨u',r',q⟩:=hl j y v' e1 e2 e3
    refine ⟨u',r',?_⟩
    rcases q with ⟨k,e⟩ | ⟨k,c,e,z⟩
    ·refine .inl ⟨k,?_⟩
     have:y≠x:=fun e=>hj (hN j (e ▸ e1))
     simp [this,e]
    ·exact .inr ⟨k,c,e,z.sameBut hs (cne y c e)⟩
  ·obtain ⟨w',z⟩:=I.cell y c e
   exact ⟨w',z.sameBut hs (cne y c e)⟩
  ·obtain ⟨e,n,ne,nf,d⟩:=I.pin p hp
   exact ⟨(hs.2 p.1 ne).trans e,n,ne,nf,d⟩
 ·have hfn:X.fn x=true:=by
   rcases hf with z | z
   ·exact z
   ·rw [z] at hk; cases hk
  obtain ⟨c,hc⟩:=I.ok.has x (.inl hk)
  obtain ⟨w',z⟩:=I.cell x c hc
  refine wpAny_storeName_cell I.ok.kind hk hc z (fun h' hc' hs=>?_)
  obtain ⟨oc,hoc,hocd⟩:=id z
  refine h { s with heap:=h' } ⟨I.ok,I.os,I.bare,⟨fun b o e n hb hx=>?_,fun b o e n hb hx=>?_,I.base.free,fun b o e hx=>?_,I.base.tups,I.base.frzs,I.base.tbls⟩,⟨m,hn.sameBut hs (Ne.symm (cne x c hc)),fun j y v' e1 e2 e3=>?_⟩,fun y c' e=>?_,I.free,I.freeC,fun p hp=>?_,tracked ⟨oc,hoc,I.freeC x c hc⟩ hs,by simpa using I.len⟩ ⟨c,hs,.inr hc⟩
  ·exact (hs.2 b (ne_of_lt (lt_of_lt_of_le (Heap.lt_size e) (I.ok.cab x c hfn hc)))).trans (I.base.keep b o e n hb hx)
  ·obtain ⟨sl,e1⟩:=I.base.slot b o e n hb hx
   exact ⟨sl,(hs.2 b (ne_of_lt (lt_of_lt_of_le (Heap.lt_size e) (I.ok.cab x c hfn hc)))).trans e1⟩
  ·obtain ⟨o',e1⟩:=I.base.there b o e hx
   exact ⟨o',(hs.2 b (ne_of_lt (lt_of_lt_of_le (Heap.lt_size e) (I.ok.cab x c hfn hc)))).trans e1⟩
  ·by_cases hj:j=i
   ·subst hj
    rw [hi] at e1; cases e1
    rw [getElem?_set_self hiσ] at e2
    cases e2
    exact ⟨u,r,.inr ⟨.inl hk,c,hc,hc'⟩⟩
   ·rw [getElem?_set_ne (Ne.symm hj)] at e2
    obtain ⟨u',r',q⟩:=hl j y v' e1 e2 e3
    refine ⟨u',r',?_⟩
    rcases q with q | ⟨k,c',e,z'⟩
    ·exact .inl q
    ·refine .inr ⟨k,c',e,z'.sameBut hs ?_⟩
     rintro rfl
     exact hj (hN j (I.ok.inj _ _ _ e hc ▸ e1))
  ·by_cases hcc:c'=c
   ·subst hcc; exact ⟨_,hc'⟩
   ·obtain ⟨w2,z2⟩:=I.cell y c' e
    exact ⟨w2,z2.sameBut hs hcc⟩
  ·obtain ⟨e,n,ne,nf,d⟩:=I.pin p hp
   refine ⟨(hs.2 p.1 ?_).trans e,n,ne,nf,d⟩
   intro q
   rw [q,hoc] at e
   have q':oc=p.2:=Option.some.inj e
   exact d w' (by rw [<- q']; exact hocd)
section
variable {X:Cx} {ks:List Nat} {pos:Pos}
theorem KP.set {σ:St} {i:Nat} {u:Option V} (h:i∉ks):KP ks σ (σ.set i u):=fun j hj=>getElem?_set_ne (fun (z:i=j)=>h (z ▸ hj))
theorem zhb {i:Nat} {x:Str} (hk:i∉ks) (hN:∀ j,X.N[j]?=some x->j=i) (hi:X.N[i]?=some x) (hx:Loc X.env.scope x) (hf:X.fn x=true\/X.env.scope.names.lookup x=some .local):FG X ks (.Name x pos) (gName i):=by
 intro pn xe hp pins s σ H v u Q I rv q
 obtain ⟨F,G,U,t,P,rel,hw,n⟩:=q
 have hl:=len1 rel
 have hiU:i < U.length:=by rw [hl,I.len]; exact (List.getElem?_eq_some_iff.mp hi).1
 exact wpAny_assign_Name (zei (X:=wp X pn xe) I hN hi hx rv (fun s' I' _=>⟨_,H,I',n _ _ F H hw (KP.set hk) (Same.refl F) (rel.store hl hiU)⟩) hf)
inductive tWGs (X:Cx) (ks:List Nat) (gs:List WG) (vs:List V) (σ:St) (H:Hp) (Q:St->Hp->Prop):Prop
 | mk (F G:Hp) (U:Env) (ds:List D) (P:Env->Prop) (rel:Rel X.K U σ F G H) (rp:Reps X.K F vs ds) (hw:gTups gs ds U P) (n:∀ U' σ' F' H',P U'->KP ks σ σ'->Same F F'->Rel X.K U' σ' F' G H'->Q σ' H'):tWGs X ks gs vs σ H Q
def FGs (X:Cx) (ks:List Nat) (tg:List Expr) (g:List WG):Prop:=∀ (pn:List (Addr×Obj)) (xe:Value->Shared->Prop),PassesOwn (model X.prog X.w) X.A X.env xe->PGs (wp X pn xe) tg (tWGs (wp X pn xe) ks g)
theorem zbw:FGs X ks [] []:=fun pn xe hp pins s σ H vs us Q I r q=>by
 obtain ⟨F,G,U,ds,P,rel,rp,hw,n⟩:=q
 refine zkl pins s σ H vs us Q I r ?_
 cases rp with
 | nil=>exact ⟨rfl,n U σ F H hw KP.refl (Same.refl F) rel⟩
 | cons a b=>exact hw.elim
theorem zao {e:Expr} {es:List Expr} {g:WG} {gs:List WG} (h1:FG X ks e g) (h2:FGs X ks es gs)
  (hs:(assignEach (e::es) X.env).map (·.2)=assign e X.env::(assignEach es X.env).map (·.2):=by rfl):FGs X ks (e::es) (g::gs):=fun pn xe hp pins s σ H vs us Q I r q=>by
 obtain ⟨F,G,U,ds,P,rel,rp,hw,n⟩:=q
 refine zjk (X:=wp X pn xe) (h1 pn xe hp) (h2 pn xe hp) hs pins s σ H vs us Q I r ?_
 cases rp with
 | nil=>exact hw.elim
 | cons a b=>
   refine ⟨_,_,rfl,F,G,U,_,_,rel.push a,hw,fun U1 σ1 F1 H1 hp k s1 r1=>⟨F1,G,U1,_,P,r1,b.mono s1,hp,fun U' σ' F' H' h k' s r=>n U' σ' F' H' h (k.trans k') (s1.trans s) r⟩⟩
theorem Reps.len {K:W.Frag} {F:Hp} {xs:List V} {ds:List D} (r:Reps K F xs ds):xs.length=ds.length:=Reps.ind (P:=fun xs ds=>xs.length=ds.length) rfl (fun _ _ ih=>congrArg (· + 1) ih) r
theorem zcG {es:List Expr} {k:Nat} {gs:List WG} (hc:X.calm=true) (h:FGs X ks es gs) (hn:(assignEach es X.env).length=gs.length:=by rfl) (hst:(assignEach es X.env).findIdx? (·.1)=none:=by rfl):FG X ks (.Tuple es k pos) (gTup gs):=fun pn xe hp=>by
 refine PG.imp (zm3 (X:=wp X pn xe) hc (h pn xe hp) hn hst) fun v σ H Q q=>?_
 obtain ⟨F,G,U,s,P,rel,hw,n⟩:=q
 obtain ⟨F1,s1,rp,r1⟩:=Rel.giveD (U:=U) (vs:=[v]) (ss:=[s]) rel (len1 rel)
 cases rp with
 | cons a b=>
   have hw':(match s.toD with | .tup ds=>ds.length=gs.length/\gTups gs ds U P | _=>False):=hw
   generalize s.toD=d at a hw'
   cases a with
   | tup e r=>exact ⟨_,_,rfl,SqT.of (r1.fr _ _ e),by rw [r.len]; exact hw'.1,F1,G,U,_,P,r1,r,hw'.2,fun U' σ' F' H' h k' s r=>n U' σ' F' H' h k' (s1.trans s) r⟩
   | _=>exact hw'.elim
end
def ItOk (K:W.Frag) (J:It) (l:List D) (F0:Hp):Prop:=∀ (i:Nat) (U:Env) (σ:St) (F G H:Hp),Same F0 F->Rel K U σ F G H->
 (∀ d,l[i]?=some d->J.go i H/\∀ x H',J.yld i H x H'->∃ F',Same F F'/\Rel K U σ F' G H'/\Rep K F' x d)/\(l.length<=i->J.stop i H)
inductive tWI (X:Cx) (wi:WI) (σ:St) (H:Hp) (R:It->Hp->Prop):Prop
 | mk (F G:Hp) (U:Env) (P:List D->Env->Prop) (PX:WX) (rel:Rel X.K U σ F G H) (hw:wi U P PX) (hok:∀ l U' F' H' J,P l U'->Same F F'->Rel X.K U' σ F' G H'->ItOk X.K J l F'->R J H') (hx:XC X (·=σ) F G PX):tWI X wi σ H R
def FI (X:Cx) (tg iter:Expr) (wi:WI):Prop:=∀ (pn:List (Addr×Obj)) (xe:Value->Shared->Prop),PassesOwn (model X.prog X.w) X.A X.env xe->PI (wp X pn xe) tg iter (tWI (wp X pn xe) wi)
theorem PI.imp {X:Cx} {tg e:Expr} {t t':TI} (h:PI X tg e t) (k:∀ σ H R,t' σ H R->t σ H R):PI X tg e t':=fun pins s σ H R I q=>h pins s σ H R I (k σ H R q)
theorem Reps.get {K:W.Frag} {F:Hp} {xs:List V} {ds:List D} {i:Nat} {d:D} (r:Reps K F xs ds) (h:ds[i]?=some d):∃ x,xs[i]?=some x/\Rep K F x d:=
 Reps.ind (P:=fun xs ds=>∀ i d,ds[i]?=some d->∃ x,xs[i]?=some x/\Rep K F x d) (fun _ _ e=>by cases e) (fun a _ ih i d e=>by
  cases i with
  | zero=>cases e; exact ⟨_,rfl,a⟩
  | succ i=>exact ih i d e) r i d h
section
variable {X:Cx} {tg e:Expr} {we:WE} {pos:Pos} {K:W.Frag}
theorem zcI {a:Addr} {xs:List V} {l:List D} {F0:Hp} (e:SqL K F0 a xs) (r:Reps K F0 xs l):ItOk K (Itl K a) l F0:=fun i U σ F G H sm rel=>by
 have e':SqL K H a xs:=SqL.mono (sm.trans rel.fr) e
 refine ⟨fun d hd=>?_,fun h=>⟨xs,e',by rw [r.len]; exact h⟩⟩
 obtain ⟨x,hx,rx⟩:=r.get hd
 refine ⟨⟨xs,x,e',hx⟩,fun y H' hy=>?_⟩
 obtain ⟨rfl,hy⟩:=hy
 have:x=y:=Option.some.inj (hx.symm.trans (hy xs e'))
 subst this
 exact ⟨F,Same.refl F,rel,rx.mono sm⟩
theorem zi8 {a:Addr} {xs:List V} {l:List D} {F0:Hp} (e:SqT K F0 a xs) (r:Reps K F0 xs l):ItOk K (Itt K a) l F0:=fun i U σ F G H sm rel=>by
 have e':SqT K H a xs:=SqT.mono (sm.trans rel.fr) e
 refine ⟨fun d hd=>?_,fun h=>⟨xs,e',by rw [r.len]; exact h⟩⟩
 obtain ⟨x,hx,rx⟩:=r.get hd
 refine ⟨⟨xs,x,e',hx⟩,fun y H' hy=>?_⟩
 obtain ⟨rfl,hy⟩:=hy
 have:x=y:=Option.some.inj (hx.symm.trans (hy xs e'))
 subst this
 exact ⟨F,Same.refl F,rel,rx.mono sm⟩
theorem zgC {lo:Int} {n i:Nat} {d:D} (h:(fromTo lo n)[i]?=some d):i < n/\d=.int (lo + i):=by
 unfold fromTo at h
 rw [getElem?_map] at h
 by_cases hi:i < n
 ·rw [getElem?_range hi] at h
  exact ⟨hi,(Option.some.inj h).symm⟩
 ·rw [getElem?_eq_none (by simpa using hi)] at h; cases h
theorem zdf {lo:Int} {n:Nat} {F0:Hp}:ItOk K (Itr lo n) (fromTo lo n) F0:=fun i U σ F G H sm rel=>by
 refine ⟨fun d hd=>?_,fun h=>?_⟩
 ·obtain ⟨hi,rfl⟩:=zgC hd
  refine ⟨hi,fun x H' hy=>?_⟩
  obtain ⟨rfl,rfl⟩:=hy
  exact ⟨F,Same.refl F,rel,.int _⟩
 ·have:n<=i:=by simpa [fromTo] using h
  exact this
end
def Its (x:Str):It:=⟨fun i _=>i < x.cps.size,fun i H v H'=>H'=H/\∃ c,x.cps[i]?=some c/\v=.str ⟨#[c]⟩,fun i _=>x.cps.size<=i⟩
theorem ziQ {P:Program} {w:World} {K:W.Frag} {tg:Expr} (it:Addr) (x:Str) (t:Tok) (ty:String) (hty:ty="str_ascii_iterator"\/ty="str_iterator"):Turn P w K tg (Its x) [it] it (fun i h=>h.IsStrIter it ty x t i) where
 mem:=by simp
 obj:=fun i h st b hb=>by
  have e:b=it:=by simpa using hb
  subst e
  obtain ⟨o,e,c,d⟩:=st
  exact ⟨o,e,fun v z=>by rw [d] at z; cases z⟩
 keep:=fun i h h' st k=>by
  obtain ⟨o,e,r⟩:=st
  exact ⟨o,k it (by simp) o e,r⟩
 item:=by
  intro X hP hw hK hc i pins s σ H E I hf st hg
  subst hP hw hK
  obtain ⟨f0,f1,f2,f3,f4,f5⟩:=hf it (by simp)
  have W:Walks X.prog X.w X.A it [it] [it] x.cps.size (SignAt x) (fun i h=>h.IsStrIter it ty x t i):=by
   rcases hty with rfl | rfl
   ·exact Walks.strAscii (I.ok.hd hc) it x t
   ·exact Walks.strWide (I.ok.hd hc) it x t
  refine W.item i s _ _ hg st fun v h' tk hv st' kk=>?_
  obtain ⟨c,u,e1,rfl⟩:=hv
  have I1:Inv X pins σ H { s with heap:=h',toks:=tk }:=I.turned (fun b o hb e=>kk b o (by simpa using hb) e) f0 f1 f3 f4 f5
  obtain ⟨o,e,cl,d⟩:=id st'
  exact ⟨_,rfl,ziZ (s:={ s with heap:=h',toks:=tk }) e cl d (by rcases hty with rfl | rfl <;> decide) ⟨.str ⟨#[c]⟩,H,I1,⟨u,rfl⟩,⟨rfl,c,e1,rfl⟩,st',fun b hb=>(hf b hb).1⟩⟩
 done:=by
  intro X hP hw hK hc i pins s σ H E I hf st hg
  subst hP hw hK
  obtain ⟨f0,f1,f2,f3,f4,f5⟩:=hf it (by simp)
  have hn:x.cps[i]?=none:=by
   have:x.cps.size<=i:=hg
   simp [this]
  rcases hty with rfl | rfl
  ·exact wpAny_pyNext_ascii_end (I.ok.hd hc) st hn fun h' eb=>⟨rfl,I.turned (t':=s.toks) (fun b o hb e=>eb b o hb e) f0 f1 f3 f4 f5⟩
  ·exact wpAny_pyNext_wide_end (I.ok.hd hc) st hn fun h' eb=>⟨rfl,I.turned (t':=s.toks) (fun b o hb e=>eb b o hb e) f0 f1 f3 f4 f5⟩
 self:=fun A i s Q E st h=>by
  rcases hty with rfl | rfl
  ·exact wpAny_pyIter_striter_ascii st h
  ·exact wpAny_pyIter_striter_wide st h
def iAny (K:W.Frag) (tl:TE):TI:=fun σ H R=>tl σ H fun v H1=>(∃ a,v=.ref a/\(∃ xs,SqL K H1 a xs)/\R (Itl K a) H1)\/(∃ a,v=.ref a/\(∃ xs,SqT K H1 a xs)/\R (Itt K a) H1)\/∃ x,v=.str x/\R (Its x) H1
theorem zlY {X:Cx} {tg l:Expr} {tl:TE} (hl:PE X l tl):PI X tg l (iAny X.K tl):=by
 intro pins s σ H R I h
 refine thn (hl pins s σ H _ I h) fun v s1 ⟨y,H1,I1,r1,q1⟩=>?_
 rcases q1 with ⟨a,e,⟨xs,hq⟩,q⟩ | ⟨a,e,⟨xs,hq⟩,q⟩ | ⟨x,e,q⟩
 ·subst e
  cases r1
  obtain ⟨its,rv,p,hz⟩:=I1.list hq
  refine wpAny_pyIter_list p.isList ?_
  refine ⟨s1.heap.objs.size,[s1.heap.objs.size],_,_,H1,rfl,I1.kept (t':=s1.toks) fun b o e=>Heap.get?_push_of_some _ e,zgW a _,⟨_,Heap.get?_push_size _ rfl,rfl,rfl⟩,fun b hb=>?_,q⟩
  have e:b=s1.heap.objs.size:=by simpa using hb
  subst e
  exact I1.fpOk (le_refl _) (I1.hok.fresh (le_refl _))
 ·subst e
  cases r1
  obtain ⟨its,rv,p,hz⟩:=I1.tuple hq
  refine wpAny_pyIter_tuple (show s1.heap.IsTuple a its.toArray from p) ?_
  refine ⟨s1.heap.objs.size,[s1.heap.objs.size],_,_,H1,rfl,I1.kept (t':=s1.toks) fun b o e=>Heap.get?_push_of_some _ e,zgl a _,⟨_,Heap.get?_push_size _ rfl,rfl,rfl⟩,fun b hb=>?_,q⟩
  have e:b=s1.heap.objs.size:=by simpa using hb
  subst e
  exact I1.fpOk (le_refl _) (I1.hok.fresh (le_refl _))
 ·subst e
  obtain ⟨t,rfl⟩:=r1
  have fin:∀ (ty:String) (o:Obj),(ty="str_ascii_iterator"\/ty="str_iterator")->o.cls=.type ty->o.data=.fields #[.str x t,.int 0 0]->o.isFreed=false->PIE X pins σ tg R (.ref s1.heap.objs.size) { s1 with heap:=s1.heap.push o }:=fun ty o hty hc hd hf=>by
   refine ⟨s1.heap.objs.size,[s1.heap.objs.size],_,_,H1,rfl,I1.kept (t':=s1.toks) fun b o e=>Heap.get?_push_of_some _ e,ziQ _ x t ty hty,⟨_,Heap.get?_push_size _ hf,hc,hd⟩,fun b hb=>?_,q⟩
   have e:b=s1.heap.objs.size:=by simpa using hb
   subst e
   exact I1.fpOk (le_refl _) (I1.hok.fresh (le_refl _))
  cases ha:x.cps.all (· < 128)
  ·exact wpAny_pyIter_wide ha (fin "str_iterator" _ (.inr rfl) rfl rfl rfl)
  ·exact wpAny_pyIter_ascii ha (fin "str_ascii_iterator" _ (.inl rfl) rfl rfl rfl)
section
variable {X:Cx} {tg e:Expr} {we:WE} {pos:Pos} {K:W.Frag}
theorem zdX {x:Str} {l:List Nat} {F0:Hp} (e:x.cps.toList=l):ItOk K (Its x) (l.map fun c=>.str [c]) F0:=fun i U σ F G H sm rel=>by
 have hs:x.cps.size=l.length:=by rw [<- e]; simp
 refine ⟨fun d hd=>?_,fun h=>by show x.cps.size<=i; rw [hs]; simpa using h⟩
 rw [getElem?_map] at hd
 cases q:l[i]? with
 | none=>rw [q] at hd; cases hd
 | some c=>
   rw [q] at hd
   have hd':D.str [c]=d:=Option.some.inj hd
   have hi:i < l.length:=(List.getElem?_eq_some_iff.mp q).1
   have hx:x.cps[i]?=some c:=by rw [<- getElem?_toList,e]; exact q
   refine ⟨by show i < x.cps.size; rw [hs]; exact hi,fun y H' hy=>?_⟩
   obtain ⟨rfl,c',e1,rfl⟩:=hy
   rw [hx] at e1
   have:c=c':=Option.some.inj e1
   subst this
   rw [<- hd']
   exact ⟨F,Same.refl F,rel,.str rfl (by show 1<=_; decide)⟩
theorem zbO (h:FE X e we):FI X tg e (wIter we):=fun pn xe hp=>by
 refine PI.imp (zlY (h pn xe hp)) fun σ H R q=>?_
 obtain ⟨F,G,U,P,PX,rel,hw,hok,hx⟩:=q
 refine ⟨F,G,U,_,PX,rel,hw,fun r U1 v F1 H1 hk s1 r1 rv=>?_,hx⟩
 obtain ⟨⟨s,U2⟩,eg,hk⟩:=zad hk
 obtain ⟨l,el,hk⟩:=zad hk
 obtain ⟨F2,s2,l2,r2⟩:=giveR (U':=[]) (σ':=[]) r1 (len1 r1) rv eg
 obtain ⟨F3,s3,rp,r3⟩:=Rel.giveD (U:=U2) (vs:=[v]) (ss:=[s]) r2 (len1 r2)
 have sm:=s1.trans (s2.trans s3)
 cases rp with
 | cons a b=>
   have el':items s.toD=some l:=el
   generalize s.toD=d at a el'
   cases a with
   | lst e r=>
     have:l=_:=(Option.some.inj el').symm
     subst this
     exact .inl ⟨_,rfl,⟨_,SqL.mono r3.fr e⟩,hok _ U2 F3 H1 _ hk sm r3 (zcI e r)⟩
   | tup e r=>
     have:l=_:=(Option.some.inj el').symm
     subst this
     exact .inr (.inl ⟨_,rfl,⟨_,SqT.of (r3.fr _ _ e)⟩,hok _ U2 F3 H1 _ hk sm r3 (zi8 (SqT.of e) r)⟩)
   | str e z=>
     have:l=_:=(Option.some.inj el').symm
     subst this
     exact .inr (.inr ⟨_,rfl,hok _ U2 F3 H1 _ hk sm r3 (zdX e)⟩)
   | _=>cases el'
theorem zaz {a:Expr} {p:Pos} (hg:Gl X "range") (hm:X.mg "range"=none) (ha:FE X a we) (hs:starEach [a] X.env=[(false,eval a X.env)]:=by rfl):FI X tg (.Call (.Name "range" p) [a] [] pos) (wRange1 we):=fun pn xe hp=>by
 refine PI.imp (zhB (X:=wp X pn xe) hg hm (zaa ha zab hs pn xe hp) hs) fun σ H R q=>?_
 obtain ⟨F,G,U,P,PX,rel,hw,hok,hx⟩:=q
 refine ⟨F,G,U,fun rs U1=>match rs with | [r]=>(match view r U1 with | some (.int j)=>(-big<=j/\j<=big)/\P (fromTo 0 j.toNat) U1 | _=>False) | _=>False,PX,rel,hw,fun rs U1 vs F1 H1 hk s1 r1 hl rv=>?_,hx⟩
 match rs,vs,rv,r1,hk with
 | [r],[v],rv,r1,hk=>
   dsimp only at hk
   split at hk
   ·rename_i j ej
    have rp:=look (U':=[]) (σ':=[]) r1 hl rv.1 ej
    cases rp
    obtain ⟨⟨h1,h2⟩,hk⟩:=hk
    have eb:(big:Int)=1000000:=rfl
    rw [eb] at h1 h2
    exact ⟨j,rfl,by omega,by omega,hok _ U1 F1 H1 _ hk s1 ((show Rel X.K (U1++[slotOf r]) (σ++[some (.int j)]) F1 G H1 from r1).drop hl) zdf⟩
   ·exact hk.elim
 | [],_,_,_,hk=>exact hk.elim
 | [_],[],rv,_,_=>exact rv.elim
 | [_],_::_::_,rv,_,_=>exact rv.2.elim
 | _::_::_,_,_,_,hk=>exact hk.elim
theorem zes {a b:Expr} {wb:WE} {p:Pos} (hg:Gl X "range") (hm:X.mg "range"=none) (ha:FE X a we) (hb:FE X b wb) (hs:starEach [a,b] X.env=[(false,eval a X.env),(false,eval b X.env)]:=by rfl) (hs2:starEach [b] X.env=[(false,eval b X.env)]:=by rfl):
  FI X tg (.Call (.Name "range" p) [a,b] [] pos) (wRange2 we wb):=fun pn xe hp=>by
 refine PI.imp (zh0 (X:=wp X pn xe) hg hm (zaa ha (zaa hb zab hs2) (by rw [hs,hs2]) pn xe hp) hs hs2) fun σ H R q=>?_
 obtain ⟨F,G,U,P,PX,rel,hw,hok,hx⟩:=q
 refine ⟨F,G,U,fun rs U1=>match rs with | [r,t]=>(match view r U1,view t U1 with | some (.int i),some (.int j)=>(-big<=i/\i<=big/\-big<=j/\j<=big)/\P (fromTo i (j - i).toNat) U1 | _,_=>False) | _=>False,PX,rel,hw,fun rs U1 vs F1 H1 hk s1 r1 hl rv=>?_,hx⟩
 match rs,vs,rv,r1,hk with
 | [r,t],[v,u],rv,r1,hk=>
   dsimp only at hk
   split at hk
   ·rename_i i j ei ej
    obtain ⟨rp,rq,r2⟩:=look2 r1 hl rv.1 rv.2.1 ei ej
    cases rp
    cases rq
    obtain ⟨⟨h1,h2,h3,h4⟩,hk⟩:=hk
    have eb:(big:Int)=1000000:=rfl
    rw [eb] at h1 h2 h3 h4
    exact ⟨i,j,rfl,⟨by omega,by omega,by omega,by omega⟩,hok _ U1 F1 H1 _ hk s1 r2 zdf⟩
   ·exact hk.elim
 | [],_,_,_,hk=>exact hk.elim
 | [_],_,_,_,hk=>exact hk.elim
 | [_,_],[],rv,_,_=>exact rv.elim
 | [_,_],[_],rv,_,_=>exact rv.2.elim
 | [_,_],_::_::_::_,rv,_,_=>exact rv.2.2.elim
 | _::_::_::_,_,_,_,hk=>exact hk.elim
end
section
variable {X:Cx} {ks:List Nat} {tg iter:Expr} {body:List Stmt} {wi:WI} {g:WG} {wb:WS} {pos:Pos}
theorem zbj (hc:X.calm=true) (hi:FI X tg iter wi) (hg:FG X ks tg g) (hb:FSs X ks body wb) (hs:∀ x,foldedSetIterable iter X.env x=pure x:=by intro _; rfl):FS X ks (.For tg iter body [] pos) (wFor wi g wb):=fun pn xe hp=>by
 refine PS.imp (zmb (X:=wp X pn xe) hp hc (hi pn xe hp) (hg pn xe hp) (hb pn xe hp) hs) fun D σ H q=>?_
 obtain ⟨F,G,U,E,rel,hw,n,b,c,r,x⟩:=q
 refine ⟨F,G,U,_,_,rel,hw,fun l U1 F1 H1 J hk s1 r1 it=>?_,x.mono (fun σ2 z=>by rw [z]; exact KP.refl) (Same.refl F) (Same.refl G)⟩
 refine ⟨fun i m σ2 H2=>m=l.length - i/\i<=l.length/\∃ F2 U2,KP ks σ σ2/\Same F1 F2/\Rel X.K U2 σ2 F2 G H2/\wLoop g wb (l.drop i) E U2,⟨l.length,by simp,zero_le _,F1,U1,KP.refl,Same.refl F1,r1,by simpa using hk⟩,?_⟩
 rintro i m σ2 H2 ⟨rfl,hi,F2,U2,kp,s2,r2,hw2⟩
 obtain ⟨it1,it2⟩:=it i U2 σ2 F2 G H2 s2 r2
 by_cases hlt:i < l.length
 ·obtain ⟨go,yld⟩:=it1 l[i] (by simp [hlt])
  refine .inr ⟨go,fun σ3 H3=>i + 1<=l.length/\∃ F3 U3,KP ks σ σ3/\Same F1 F3/\Rel X.K U3 σ3 F3 G H3/\wLoop g wb (l.drop (i + 1)) E U3,fun σ3 H3 h=>⟨l.length - (i + 1),by omega,rfl,h⟩,fun y H3 hy=>?_⟩
  obtain ⟨F3,s3,r3,rp⟩:=yld y H3 hy
  rw [drop_eq_getElem_cons hlt] at hw2
  refine ⟨F3,G,U2,_,_,r3.push rp,hw2,fun U4 σ4 F4 H4 hp4 k4 s4 r4=>?_⟩
  have kp4:=kp.trans k4
  have sm4:=s1.trans (s2.trans (s3.trans s4))
  exact ⟨F4,G,U4,_,r4,hp4,fun U' σ' F' H' h k' s r=>⟨hlt,F',U',kp4.trans k',s2.trans (s3.trans (s4.trans s)),r,h⟩,fun U' σ' F' H' h k' s r=>n U' σ' F' H' h (kp4.trans k') (sm4.trans s) r,
   fun U' σ' F' H' h k' s r=>⟨hlt,F',U',kp4.trans k',s2.trans (s3.trans (s4.trans s)),r,h⟩,fun a U' σ' v F' H' h k' s q rv=>r a U' σ' v F' H' h (kp4.trans k') (sm4.trans s) q rv,x.mono (fun σ5 k'=>kp4.trans k') sm4 (Same.refl G)⟩
 ·have e:i=l.length:=Nat.le_antisymm hi (not_lt.mp hlt)
  subst e
  rw [List.drop_length] at hw2
  exact .inl ⟨it2 (le_refl _),n U2 σ2 F2 H2 hw2 kp (s1.trans s2) r2⟩
theorem zfw {c:Expr} {wc:WT} (hc:FT X c wc) (hb:FSs X ks body wb):FS X ks (.While c body [] pos) (wWhile wc wb):=fun pn xe hp=>by
 refine PS.imp (ziK (X:=wp X pn xe) hp (hc pn xe hp) (hb pn xe hp)) fun D σ H q=>?_
 obtain ⟨F,G,U,E,rel,⟨J,⟨m0,j0⟩,step⟩,n,b,c,r,x⟩:=q
 refine ⟨fun m σ2 H2=>∃ F2 U2,KP ks σ σ2/\Same F F2/\Rel X.K U2 σ2 F2 G H2/\J m U2,⟨m0,F,U,KP.refl,Same.refl F,rel,j0⟩,?_⟩
 rintro m σ2 H2 ⟨F2,U2,kp,s2,r2,j2⟩
 refine ⟨F2,G,U2,_,_,r2,step m U2 j2,fun k U3 F3 H3 hk s3 r3=>?_,x.mono (fun σ5 z=>by rw [z]; exact kp) s2 (Same.refl G)⟩
 have sm3:=s2.trans s3
 cases k with
 | true=>
   dsimp only
   rw [if_pos rfl]
   refine ⟨fun σ4 H4=>∃ m',m' < m/\∃ F2 U2,KP ks σ σ4/\Same F F2/\Rel X.K U2 σ4 F2 G H4/\J m' U2,fun σ4 H4 h=>h,?_⟩
   exact ⟨F3,G,U3,_,r3,hk,fun U' σ' F' H' ⟨m',hm,h⟩ k' s r=>⟨m',hm,F',U',kp.trans k',sm3.trans s,r,h⟩,fun U' σ' F' H' h k' s r=>n U' σ' F' H' h (kp.trans k') (sm3.trans s) r,
    fun U' σ' F' H' ⟨m',hm,h⟩ k' s r=>⟨m',hm,F',U',kp.trans k',sm3.trans s,r,h⟩,fun a U' σ' v F' H' h k' s q rv=>r a U' σ' v F' H' h (kp.trans k') (sm3.trans s) q rv,x.mono (fun σ5 k'=>kp.trans k') sm3 (Same.refl G)⟩
 | false=>
   dsimp only
   rw [if_neg Bool.false_ne_true]
   exact n U3 σ2 F3 H3 hk kp sm3 r3
end
inductive spW (K:W.Frag) (f:WF) (n:Nat) (vs:List V) (H:Hp) (Q:VK) (Z:XK):Prop
 | mk (F G:Hp) (ss:List S) (P:S->List S->Prop) (PX:D->List S->Prop) (hn:vs.length=n) (rel:Rel K (ss.map some) (vs.map some) F G H) (hw:f ss P PX) (hok:∀ s ss' v F' H',P s ss'->Same F F'->ss'.length=ss.length->Rel K (ss'.map some++[some s]) (vs.map some++[some v]) F' G H'->Q v H'):spW K f n vs H Q Z
section
variable {K:W.Frag} {F F' H H' G G':Hp} {σ σ':St} {v u:V}
theorem Rel.comm {U U':Env} (h:U.length=σ.length) (r:Rel K (U++U') (σ++σ') F G H):Rel K (U'++U) (σ'++σ) F G H:=by
 have:=Rel.swap (U:=[]) (σ:=[]) (U1:=U) (σ1:=σ) (U2:=U') (σ2:=σ') rfl h (by simpa using r)
 simpa using this
theorem Rel.lend {U U':Env} {i:Nat} {s:S} (r:Rel K (U++(none::U')) (σ++(some v::σ')) F G H) (h:U.length=σ.length) (hs:slot U i=some s) (hv:σ[i]?=some (some v)):
  Rel K (U.set i none++(some s::U')) (σ++(some v::σ')) F G H:=by
 obtain ⟨fp,e,nd,ap⟩:=r.en
 obtain ⟨f1,f2,rfl,a,b⟩:=e.cut h
 obtain ⟨v',fa,fi,fb,e1,rfl,q,up⟩:=a.at hs
 rw [hv] at e1
 have e2:v=v':=by simpa using e1
 subst e2
 have a2:=up (F':=F) (H':=H) (o:=none) (u:=some v) (fi':=[]) (Same.refl F) (fun _ _=>rfl) (.no .nil)
 have es:σ.set i (some v)=σ:=by
  apply ext_getElem?
  intro j
  by_cases hj:i=j
  ·subst hj
   rw [getElem?_set_self (List.getElem?_eq_some_iff.mp hv).1,hv]
  ·rw [getElem?_set_ne hj]
 rw [es] at a2
 cases b with
 | no b=>
   have p:((fa++([]++fb))++(fi++f2)).Perm ((fa++(fi++fb))++f2):=by
    simp only [nil_append,append_assoc]
    refine List.Perm.append_left _ ?_
    rw [<- append_assoc,<- append_assoc fi]
    exact List.Perm.append_right _ perm_append_comm
   exact ⟨r.fr,r.gr,_,a2.app (.so q b),p.nodup_iff.mpr nd,fun x hx=>ap x (p.mem_iff.mp hx)⟩
theorem Rel.back1 {U U':Env} {i:Nat} {s:S} (r:Rel K (U++(some s::U')) (σ++(some v::σ')) F G H) (h:U.length=σ.length) (hv:σ[i]?=some (some v)):Rel K (U.set i (some s)++U') (σ++σ') F G H:=by
 have hi:i < σ.length:=(List.getElem?_eq_some_iff.mp hv).1
 have es:σ.set i (some v)=σ:=by
  apply ext_getElem?
  intro j
  by_cases hj:i=j
  ·subst hj
   rw [getElem?_set_self hi,hv]
  ·rw [getElem?_set_ne hj]
 have hl:U'.length=σ'.length:=by
  have:=r.len
  rw [length_append,length_append,length_cons,length_cons,h] at this
  omega
 have r1:=Rel.swap (U1:=[some s]) (σ1:=[some v]) (U2:=U') (σ2:=σ') h rfl r
 rw [<- append_assoc,<- append_assoc] at r1
 have r2:=Rel.store (i:=i) r1 (by simp [h,hl]) (by simp [h]; omega)
 rw [List.set_append_left _ _ (h ▸ hi),List.set_append_left _ _ hi,es] at r2
 exact r2
theorem zii:∀ {rs:List R} {vs:List V} {ms:List Bool} {U U' U1:Env} {ss:List S} {F:Hp} {σ':St},Rel K (U++(rs.map slotOf++U')) (σ++(vs.map some++σ')) F G H->U.length=σ.length->RVs σ vs rs->prep ms rs U=some (ss,U1)->
  ∃ F',Same F F'/\U1.length=U.length/\ss.length=rs.length/\Rel K (U1++(ss.map some++U')) (σ++(vs.map some++σ')) F' G H
 | [],[],ms,U,U',U1,ss,F,σ',r,h,_,e=>by
   have e':some (([]:List S),U)=some (ss,U1):=by cases ms <;> exact e
   cases e'
   exact ⟨F,Same.refl F,rfl,rfl,r⟩
 | [],_::_,_,_,_,_,_,_,_,_,_,h,_=>h.elim
 | _::_,[],_,_,_,_,_,_,_,_,_,h,_=>h.elim
 | x::rs,v::vs,ms,U,U',U1,ss,F,σ',r,h,rv,e=>by
   -- the first one,as it is handed on
   have first:∃ s U2 ts F1,prep ms.tail rs U2=some (ts,U1)/\ss=s::ts/\Same F F1/\U2.length=U.length/\Rel K (U2++(some s::(rs.map slotOf++U'))) (σ++(some v::(vs.map some++σ'))) F1 G H:=by
    cases x with
    | v s=>
      have e':(match prep ms.tail rs U with | some (ss,U1)=>some (s::ss,U1) | none=>none)=some (ss,U1):=by cases ms <;> exact e
      cases q:prep ms.tail rs U with
      | none=>rw [q] at e'; cases e'
      | some p=>
        obtain ⟨ts,U3⟩:=p
        rw [q] at e'
        cases e'
        exact ⟨s,U,ts,F,q,rfl,Same.refl F,rfl,r⟩
    | loc i=>
      have e':(match slot U i with
       | some s=>if ms.headD false then (match prep ms.tail rs (U.set i none) with
         | some (ss,U1)=>some (s::ss,U1)
         | none=>none)
         else (match prep ms.tail rs (U.set i (some (.sh s.toD))) with
          | some (ss,U1)=>some (.sh s.toD::ss,U1)
          | none=>none)
       | none=>none)=some (ss,U1):=by cases ms <;> exact e
      cases q:slot U i with
      | none=>rw [q] at e'; cases e'
      | some s=>
        rw [q] at e'
        dsimp only at e'
        by_cases hm:ms.headD false=true
        ·rw [if_pos hm] at e'
         cases q2:prep ms.tail rs (U.set i none) with
         | none=>rw [q2] at e'; cases e'
         | some p=>
           obtain ⟨ts,U3⟩:=p
           rw [q2] at e'
           cases e'
           exact ⟨s,U.set i none,ts,F,q2,rfl,Same.refl F,by simp,Rel.lend r h q rv.1⟩
        ·rw [if_neg hm] at e'
         cases q2:prep ms.tail rs (U.set i (some (.sh s.toD))) with
         | none=>rw [q2] at e'; cases e'
         | some p=>
           obtain ⟨ts,U3⟩:=p
           rw [q2] at e'
           cases e'
           obtain ⟨F1,s1,l1,r1⟩:=giveR (x:=.loc i) (s:=.sh s.toD) (U1:=U.set i (some (.sh s.toD))) r h rv.1 (by show (match slot U i with | some s=>some (S.sh s.toD,U.set i (some (.sh s.toD))) | none=>none)=_; rw [q])
           exact ⟨_,_,ts,F1,q2,rfl,s1,by simp,r1⟩
   obtain ⟨s,U2,ts,F1,q2,rfl,s1,l1,r1⟩:=first
   have h2:U2.length=σ.length:=l1.trans h
   have hl:(rs.map slotOf++U').length=(vs.map some++σ').length:=by
    have:=r1.len
    rw [length_append,length_append,h2,length_cons,length_cons] at this
    omega
   have hl':U'.length=σ'.length:=by
    have:=rv.2.len
    simp at hl
    omega
   have r2:=Rel.swap (U1:=[some s]) (σ1:=[some v]) (U2:=rs.map slotOf++U') (σ2:=vs.map some++σ') h2 rfl r1
   rw [append_assoc,append_assoc] at r2
   obtain ⟨F2,s2,l2,l3,r3⟩:=zii (rs:=rs) (vs:=vs) r2 h2 rv.2 q2
   have h3:U1.length=σ.length:=l2.trans h2
   rw [<- append_assoc (ts.map some),<- append_assoc (vs.map some)] at r3
   have r4:=Rel.swap (U1:=ts.map some++U') (σ1:=vs.map some++σ') (U2:=[some s]) (σ2:=[some v]) h3 (by simp [l3,rv.2.len,hl']) r3
   exact ⟨F2,s1.trans s2,l2.trans l1,by simp [l3],r4⟩
theorem zdO:∀ {rs:List R} {vs:List V} {ms:List Bool} {U U':Env} {ss:List S} {σ':St},Rel K (U++(ss.map some++U')) (σ++(vs.map some++σ')) F G H->U.length=σ.length->ss.length=rs.length->RVs σ vs rs->
  (back ms rs ss U).length=U.length/\Rel K (back ms rs ss U++U') (σ++σ') F G H
 | [],[],ms,U,U',[],σ',r,h,_,_=>by
   have e:back ms [] [] U=U:=by cases ms <;> rfl
   rw [e]
   exact ⟨rfl,r⟩
 | [],_,_,_,_,_::_,_,_,_,hl,_=>by simp at hl
 | _::_,_,_,_,_,[],_,_,_,hl,_=>by simp at hl
 | [],_::_,_,_,_,_,_,_,_,_,h=>h.elim
 | _::_,[],_,_,_,_,_,_,_,_,h=>h.elim
 | x::rs,v::vs,ms,U,U',s::ss,σ',r,h,hl,rv=>by
   cases x with
   | v t=>
     have e:back ms (.v t::rs) (s::ss) U=back ms.tail rs ss U:=by cases ms <;> rfl
     rw [e]
     exact zdO (rs:=rs) (vs:=vs) (r.mid h) h (by simpa using hl) rv.2
   | loc i=>
     have e:back ms (.loc i::rs) (s::ss) U=if ms.headD false then back ms.tail rs ss (U.set i (some s)) else back ms.tail rs ss U:=by cases ms <;> rfl
     rw [e]
     by_cases hm:ms.headD false=true
     ·rw [if_pos hm]
      have q:=zdO (rs:=rs) (vs:=vs) (ms:=ms.tail) (U:=U.set i (some s)) (Rel.back1 r h rv.1) (by simpa using h) (by simpa using hl) rv.2
      exact ⟨q.1.trans (by simp),q.2⟩
     ·rw [if_neg hm]
      exact zdO (rs:=rs) (vs:=vs) (r.mid h) h (by simpa using hl) rv.2
end
section
variable {X:Cx} {k n:Nat} {f:Addr} {fd:FuncData} {ps:List Str} {wf:WF} {ms:List Bool} {x:Str} {p pos:Pos} {e:Expr} {es:List Expr} {wa:WA}
theorem zk0 (Fk:FnOk X.prog X.w X.K X.mg X.base CX0 k f fd ps (spW X.K wf n)) (hr:Room k X.A) (hg:Gl X x) (hm:X.mg x=some (.ref f)) (hk:W.keepIn X.K (.ref f)=true) (hb:Binds X.K fd ps [])
  (ha:FA X (e::es) wa) (hlen:∀ ss P PX,wf ss P PX->ss.length=n) (hdb:(x == ("__debug__":Str))=false:=by decide) (he:starEach (e::es) X.env=(false,eval e X.env)::starEach es X.env:=by rfl) (hpl:(backTo pos (starEach es X.env)).any (·.1)=false:=by rfl):
  FE X (.Call (.Name x p) (e::es) [] pos) (wCall wf ms wa):=fun pn xe hp=>by
 refine PE.imp (zlu (X:=wp X pn xe) Fk hr hg hm hk hb .nil pass0 (ha pn xe hp) hdb he hpl) fun σ H Q q=>?_
 refine (many (k:=fun rs U1 Q E=>need (prep ms rs U1) fun p=>wf p.1 (fun s ss=>Q (.v s) (back ms rs ss p.2)) (fun x ss=>E x (back ms rs ss p.2))) q).mono fun vs H1 h1=>?_
 obtain ⟨F,G,U,rs,P,PX,rel,hl,rv,hk,hok,hx⟩:=h1
 obtain ⟨⟨ss,U1⟩,ep,hk⟩:=zad hk
 obtain ⟨F1,s1,l1,l2,r1⟩:=zii (U':=[]) (σ':=[]) (by simpa using rel) hl rv ep
 have h1:U1.length=σ.length:=l1.trans hl
 have r2:=Rel.comm (U':=ss.map some) (σ':=vs.map some) h1 (by simpa using r1)
 have hsv:(ss.map some).length=(vs.map some).length:=by simp [l2,rv.len]
 obtain ⟨G',r3,gg,bk⟩:=r2.hide hsv
 have hn:=hlen _ _ _ hk
 show spW X.K wf n (vs++[]) H1 Q E0
 rw [append_nil]
 refine ⟨F1,G',ss,_,_,by rw [rv.len,<- l2]; exact hn,r3,hk,fun s ss' v F2 H2 hp s2 l3 r4=>?_⟩
 have r5:=bk s2 r4
 have hsv':(ss'.map some++[some s]).length=(vs.map some++[some v]).length:=by simp [l3,l2,rv.len]
 have r6:=Rel.comm hsv' r5
 obtain ⟨l7,r7⟩:=zdO (ms:=ms) (rs:=rs) (vs:=vs) (U':=[some s]) (σ':=[some v]) r6 h1 (l3.trans l2) rv
 exact hok _ _ v F2 H2 hp (s1.trans s2) r7 trivial
end
section
variable {K:W.Frag} {F F' H H' G G':Hp}
theorem Rel.pushNs {U:Env} {σ:St} (r:Rel K U σ F G H):∀ m:Nat,Rel K (U++List.replicate m none) (σ++List.replicate m none) F G H
 | 0=>by simpa using r
 | m + 1=>by
   have:=(Rel.pushNs r m).pushN (u:=none)
   rw [append_assoc,append_assoc,<- List.replicate_succ',<- List.replicate_succ'] at this
   exact this
def Args (K:W.Frag) (F:Hp):List S->List V->St->Prop
 | [],[],_=>True
 | s::ss,v::vs,u::σ=>((∃ d,s=.sh d/\Rep K F v d)\/(s.isSh=false/\u=some v))/\Args K F ss vs σ
 | _,_,_=>False
theorem zcu:∀ {ss:List S} {vs:List V} {fs:List S} {U U' Ua:Env} {σ σ' σa:St},finals ss U=some fs->Rel K (Ua++(U++U')) (σa++(σ++σ')) F G H->Ua.length=σa.length->U.length=σ.length->Args K F ss vs σ->
  fs.length=ss.length/\vs.length=ss.length/\Rel K (Ua++(fs.map some++U')) (σa++(vs.map some++σ')) F G H
 | [],[],fs,U,U',Ua,σ,σ',σa,e,r,h,h2,_=>by
   have e':some ([]:List S)=some fs:=by cases U <;> exact e
   cases e'
   refine ⟨rfl,rfl,?_⟩
   have r1:=Rel.swap (U1:=U) (σ1:=σ) (U2:=U') (σ2:=σ') h h2 r
   rw [<- append_assoc,<- append_assoc] at r1
   have hl:(Ua++U').length=(σa++σ').length:=by
    have:=r.len
    simp at this
    simp
    omega
   simpa using r1.drop hl
 | [],_::_,_,_,_,_,_,_,_,_,_,_,_,h=>by cases h
 | _::_,[],_,_,_,_,_,_,_,_,_,_,_,h=>by cases h
 | _::_,_::_,_,_,_,_,[],_,_,_,_,_,_,h=>by cases h
 | _::_,_::_,_,[],_,_,_::_,_,_,_,_,_,h2,_=>by simp at h2
 | s::ss,v::vs,fs,o::U,U',Ua,u::σ,σ',σa,e,r,h,h2,ha=>by
   have h2':U.length=σ.length:=by simpa using h2
   obtain ⟨ha1,ha2⟩:=ha
   rcases ha1 with ⟨d,rfl,rp⟩ | ⟨hs,hu⟩
   ·have e':(finals ss U).map (S.sh d::·)=some fs:=e
    cases q:finals ss U with
    | none=>rw [q] at e'; cases e'
    | some gs=>
      rw [q] at e'
      have e'':S.sh d::gs=fs:=Option.some.inj e'
      subst e''
      have r1:Rel K (Ua++(U++U')) (σa++(σ++σ')) F G H:=Rel.mid (U:=Ua) (σ:=σa) r h
      obtain ⟨l1,l2,r2⟩:=zcu q r1 h h2' ha2
      have hl:(gs.map some++U').length=(vs.map some++σ').length:=by
       have:=r2.len
       simp at this
       simp
       omega
      have r3:=r2.push rp
      rw [append_assoc Ua,append_assoc σa] at r3
      have r4:=Rel.swap (U1:=gs.map some++U') (σ1:=vs.map some++σ') (U2:=[some (.sh d)]) (σ2:=[some v]) h hl r3
      exact ⟨by simp [l1],by simp [l2],r4⟩
   ·subst hu
    have e':∃ t gs,o=some t/\finals ss U=some gs/\fs=t::gs:=by
     cases s with
     | sh d=>cases hs
     | _=>
       cases o with
       | none=>cases e
       | some t=>
         have e':(finals ss U).map (t::·)=some fs:=e
         cases q:finals ss U with
         | none=>rw [q] at e'; cases e'
         | some gs=>rw [q] at e'; exact ⟨t,gs,rfl,rfl,(Option.some.inj e').symm⟩
    obtain ⟨t,gs,rfl,q,rfl⟩:=e'
    have r1:Rel K ((Ua++[some t])++(U++U')) ((σa++[some v])++(σ++σ')) F G H:=by simpa using r
    obtain ⟨l1,l2,r2⟩:=zcu q r1 (by simp [h]) h2' ha2
    exact ⟨by simp [l1],by simp [l2],by simpa using r2⟩
theorem zin {ks:List Nat} {F0:Hp}:∀ {ss:List S} {vs:List V} {σ:St} {j:Nat} {fp:List Addr},EnvRep K F0 H (ss.map some) (vs.map some) fp->Same F0 F->(∀ i s,ss[i]?=some s->(j + i)∈ks\/s.isSh=true)->
  (∀ i v,vs[i]?=some v->(j + i)∈ks->σ[i]?=some (some v))->vs.length<=σ.length->Args K F ss vs σ
 | [],[],_,_,_,_,_,_,_,_=>by simp [Args]
 | [],_::_,_,_,_,r,_,_,_,_=>by cases r
 | _::_,[],_,_,_,r,_,_,_,_=>by cases r
 | _::_,_::_,[],_,_,_,_,_,_,h=>by simp at h
 | s::ss,v::vs,u::σ,j,_,.so a b,sm,hk,hv,hl=>by
   refine ⟨?_,zin (j:=j + 1) b sm (fun i t e=>by have:=hk (i + 1) t (by simpa using e); rwa [show j + (i + 1)=j + 1 + i by omega] at this) (fun i t e z=>by simpa using hv (i + 1) t (by simpa using e) (by rwa [show j + (i + 1)=j + 1 + i by omega])) (by simpa using hl)⟩
   cases hs:s.isSh with
   | true=>
     cases s with
     | sh d=>cases a with
       | sh r=>exact .inl ⟨d,rfl,r.mono sm⟩
     | _=>cases hs
   | false=>
     refine .inr ⟨rfl,?_⟩
     have:=hk 0 s rfl
     rw [hs] at this
     have z:(j + 0)∈ks:=this.resolve_right (by simp)
     simpa using hv 0 v rfl z
theorem fn_w {P:Program} {w:World} {mg:Str->Option Value} {base:Heap} {x qual:Str} {st:Stmt} {f:Addr} {fd:FuncData} {N ps:List Str} {k n m:Nat} {ks:List Nat} {wb:WS} (Fn:Fun K x qual st f fd) (Sc:FnScope N ps (defScope st)) (hn:ps.length=n) (hm:N.length=m)
  (hb:∀ (cdv:Value) (A:Around) (outer:List PySem.Env) (s:Shared) (H:Hp) (E:XK),Room k (A.deeper (envOfC qual (defScope st) s.heap.objs.size f cdv))->FSs (cxOf CX0 P w K mg base N qual (defScope st) f cdv A outer s H E).nox ks (defBody st) wb):
  FnOk P w K mg base CX0 (k + 1) f fd ps (spW K (wFn n m ks wb) n):=by
 refine Fn.ok Sc (fun vs H Q E h=>?_) (fun cdv A outer s H vs Q E hr h=>?_)
 ·obtain ⟨F,G,ss,P',PX,hl,_⟩:=h
  rw [hl,hn]
 ·obtain ⟨F,G,ss,P',PX,hvl,rel,⟨hsl,hks,hbody⟩,hok⟩:=h
  refine ⟨_,hb cdv A outer s H E hr [] (fun _ _=>False) PassesOwn.never,?_⟩
  have hmn:N.length - vs.length=m - n:=by rw [hvl,hm]
  have hr0:Rel K (ss.map some++List.replicate (m - n) none) (L2.start N vs) F G H:=by
   unfold L2.start
   rw [hmn]
   exact rel.pushNs (m - n)
  have hpl:ps.length<=N.length:=by have:=congrArg List.length Sc.pre; rw [length_take] at this; omega
  have hst:∀ i v,vs[i]?=some v->(L2.start N vs)[i]?=some (some v):=fun i v e=>by
   unfold L2.start
   have hi:i < vs.length:=(List.getElem?_eq_some_iff.mp e).1
   rw [getElem?_append_left (by simpa using hi),getElem?_map,e]
   rfl
  -- how the arguments are at an end
  have fin:∀ {U':Env} {σ':St} {F' H':Hp} {t:S} {v:V} {fs:List S},KP ks (L2.start N vs) σ'->Same F F'->Rel K (U'++[some t]) (σ'++[some v]) F' G H'->finals ss U'=some fs->P' t fs->Q v H':=by
   intro U' σ' F' H' t v fs kp sm r e hp
   obtain ⟨fp,en,_⟩:=rel.en
   have hlen:U'.length=σ'.length:=len1 r
   have hσ:vs.length<=σ'.length:=by
    -- finals reads as many slots as there are arguments
    have:∀ (ss:List S) (U:Env) (fs:List S),finals ss U=some fs->ss.length<=U.length:=by
     intro ss
     induction ss with
     | nil=>intro U fs _; simp
     | cons s ss ih=>
       intro U fs e
       cases U with
       | nil=>cases s <;> cases e
       | cons o U=>
         have:∃ gs,finals ss U=some gs:=by
          cases q:finals ss U with
          | some gs=>exact ⟨gs,rfl⟩
          | none=>
            cases s with
            | sh d=>have e':(finals ss U).map (S.sh d::·)=some fs:=e; rw [q] at e'; cases e'
            | _=>
              cases o with
              | none=>cases e
              | some t=>have e':(finals ss U).map (t::·)=some fs:=e; rw [q] at e'; cases e'
         obtain ⟨gs,q⟩:=this
         have:=ih U gs q
         simp
         exact this
    have:=this ss U' fs e
    rw [hsl] at this
    omega
   have ar:=zin (ks:=ks) (F:=F') (σ:=σ') (j:=0) en sm (fun i s e=>by simpa using hks i s e) (fun i v e z=>by
    rw [kp i (by simpa using z)]
    exact hst i v e) hσ
   obtain ⟨l1,l2,r1⟩:=zcu (Ua:=[]) (σa:=[]) (U':=[some t]) (σ':=[some v]) e (by simpa using r) rfl hlen ar
   exact hok t fs v F' H' hp sm l1 (by simpa using r1)
  refine ⟨F,G,_,_,hr0,hbody,fun U' σ' F' H' h kp sm r=>?_,fun U' σ' F' H' h=>h.elim,fun U' σ' F' H' h=>h.elim,fun a U' σ' v F' H' h kp sm r rv=>?_,fun d U' σ' F' H' u s' _ _ _ _ _ z=>z.elim⟩
  ·obtain ⟨fs,e,h⟩:=zad h
   exact fin kp sm (r.push .non) e h
  ·cases a with
   | v t=>
     obtain ⟨fs,e,h⟩:=zad h
     exact fin kp sm r e h
   | loc i=>
     obtain ⟨t,et,h⟩:=zad h
     have hl:=len1 r
     by_cases hi:i < n
     ·rw [if_pos hi] at h
      obtain ⟨fs,e,h⟩:=zad h
      obtain ⟨F2,s2,_,r2⟩:=giveR (x:=.loc i) (s:=.sh t.toD) (U1:=U'.set i (some (.sh t.toD))) (U':=[]) (σ':=[]) r hl rv (by show (match slot U' i with | some s=>some (S.sh s.toD,U'.set i (some (.sh s.toD))) | none=>none)=_; rw [et])
      exact fin kp (sm.trans s2) r2 e h
     ·rw [if_neg hi] at h
      obtain ⟨fs,e,h⟩:=zad h
      have r2:=Rel.lend (U':=[]) (σ':=[]) r hl et rv
      refine fin kp sm r2 ?_ h
      -- the slot lies behind the parameters
      have:∀ (ss:List S) (U:Env) (i:Nat),ss.length<=i->finals ss (U.set i none)=finals ss U:=by
       intro ss
       induction ss with
       | nil=>intro U i _; cases U <;> cases i <;> rfl
       | cons s ss ih=>
         intro U i hi
         cases U with
         | nil=>rfl
         | cons o U=>
           cases i with
           | zero=>simp at hi
           | succ i=>
             have e:=ih U i (by simpa using hi)
             show finals (s::ss) (o::U.set i none)=finals (s::ss) (o::U)
             cases s with
             | sh d=>show (finals ss (U.set i none)).map _=(finals ss U).map _; rw [e]
             | _=>
               cases o with
               | none=>rfl
               | some t=>show (finals ss (U.set i none)).map _=(finals ss U).map _; rw [e]
      rw [this ss U' i (by omega)]
      exact e
end
end FL
end
section
namespace L2
open PySem PySem.Spec PyProof.Rows
noncomputable def closL (cells:List (Str×Addr)):List (Str×NameKind)->List (Str×Addr)->List (Str×Addr)
 | [],acc=>acc
 | (n,k)::r,acc=>if k == .free then (match cells.lookup n with | some c=>closL cells r ((n,c)::acc) | none=>closL cells r acc) else closL cells r acc
theorem zb5 {env:PySem.Env} (f:Str×NameKind->List (Str×Addr)->Sem (ForInStep (List (Str×Addr))))
  (hf:∀ n k cs,f (n,k) cs=if k == .free then (do let a <- cellOf env n; pure (.yield ((n,a)::cs))) else pure (.yield cs)):
  ∀ (names:List (Str×NameKind)) (acc:List (Str×Addr)),(∀ x∈names,x.2=.free->∃ c,env.cells.lookup x.1=some c)->(forIn names acc f:Sem _)=pure (closL env.cells names acc)
 | [],acc,_=>by rw [forIn_nil]; rfl
 | (n,k)::r,acc,h=>by
   rw [forIn_cons,hf]
   have hr:∀ x∈r,x.2=.free->∃ c,env.cells.lookup x.1=some c:=fun x hx=>h x (mem_cons_of_mem _ hx)
   by_cases hk:(k == .free)=true
   ·obtain ⟨c,hc⟩:=h (n,k) mem_cons_self (by simpa using hk)
    have hc':env.cells.lookup n=some c:=hc
    have e:cellOf env n=pure c:=by unfold cellOf; rw [hc']
    rw [if_pos hk,e]
    have ih:=zb5 f hf r ((n,c)::acc) hr
    unfold closL
    rw [if_pos hk,hc']
    rw [<- ih]
    simp
   ·rw [if_neg hk]
    have ih:=zb5 f hf r acc hr
    unfold closL
    rw [if_neg hk,<- ih]
    simp
theorem zdJ {env:PySem.Env} {scope:Scope} (h:∀ x∈scope.names,x.2=.free->∃ c,env.cells.lookup x.1=some c):closureFor scope env=pure (closL env.cells scope.names []):=by
 show (forIn scope.names ([]:List (Str×Addr)) _ >>= fun cs=>pure cs)=_
 rw [zb5 (env:=env) _ (fun n k cs=>rfl) scope.names [] h]
 rfl
theorem zbF {cells:List (Str×Addr)} {n:Str} {c:Addr}:∀ {names:List (Str×NameKind)} {acc:List (Str×Addr)},(n,c)∈closL cells names acc->(n,c)∈acc\/((n,NameKind.free)∈names/\cells.lookup n=some c)
 | [],_,h=>.inl h
 | (m,k)::r,acc,h=>by
   unfold closL at h
   by_cases hk:(k == .free)=true
   ·rw [if_pos hk] at h
    have hk':k=.free:=by simpa using hk
    cases q:cells.lookup m with
    | none=>
      rw [q] at h
      rcases zbF h with z | ⟨z,w⟩
      ·exact .inl z
      ·exact .inr ⟨mem_cons_of_mem _ z,w⟩
    | some d=>
      rw [q] at h
      rcases zbF h with z | ⟨z,w⟩
      ·rcases mem_cons.mp z with e | z
       ·cases e
        exact .inr ⟨by rw [<- hk']; exact mem_cons_self,q⟩
       ·exact .inl z
      ·exact .inr ⟨mem_cons_of_mem _ z,w⟩
   ·rw [if_neg hk] at h
    rcases zbF h with z | ⟨z,w⟩
    ·exact .inl z
    ·exact .inr ⟨mem_cons_of_mem _ z,w⟩
theorem zbk {cells:List (Str×Addr)} {n:Str} {c:Addr} (hc:cells.lookup n=some c):∀ {names:List (Str×NameKind)} {acc:List (Str×Addr)},((n,c)∈acc\/(n,NameKind.free)∈names)->(n,c)∈closL cells names acc
 | [],_,h=>h.elim id fun z=>by simp at z
 | (m,k)::r,acc,h=>by
   unfold closL
   by_cases hk:(k == .free)=true
   ·rw [if_pos hk]
    have hk':k=.free:=by simpa using hk
    cases q:cells.lookup m with
    | none=>
      refine zbk hc ?_
      rcases h with z | z
      ·exact .inl z
      ·rcases mem_cons.mp z with e | z
       ·cases e; rw [hc] at q; cases q
       ·exact .inr z
    | some d=>
      refine zbk hc ?_
      rcases h with z | z
      ·exact .inl (mem_cons_of_mem _ z)
      ·rcases mem_cons.mp z with e | z
       ·cases e; rw [hc] at q; cases q; exact .inl mem_cons_self
       ·exact .inr z
   ·rw [if_neg hk]
    refine zbk hc ?_
    rcases h with z | z
    ·exact .inl z
    ·rcases mem_cons.mp z with e | z
     ·cases e; exact (hk (by decide)).elim
     ·exact .inr z
theorem zaU {α:Type}:∀ {l:List (Str×α)} {n:Str} {c:α},(n,c)∈l->(∀ c',(n,c')∈l->c'=c)->l.lookup n=some c
 | [],_,_,h,_=>by simp at h
 | (m,d)::r,n,c,h,u=>by
   rw [lookup_cons]
   cases hb:n == m with
   | true=>
     have e:n=m:=by simpa using hb
     subst e
     exact congrArg some (u d mem_cons_self)
   | false=>
     refine zaU (l:=r) ?_ fun c' hc=>u c' (mem_cons_of_mem _ hc)
     rcases mem_cons.mp h with e | h
     ·cases e; simp at hb
     ·exact h
theorem za7:∀ {names:List (Str×NameKind)} {n:Nat} {acc:List (Str×Addr)} {x:Str} {c:Addr},(x,c)∈cellsFrom n names acc->(x,c)∈acc\/((x,NameKind.cell)∈names/\n<=c)
 | [],_,_,_,_,h=>.inl h
 | (m,k)::r,n,acc,x,c,h=>by
   unfold cellsFrom at h
   by_cases hk:(k == .cell)=true
   ·rw [if_pos hk] at h
    have hk':k=.cell:=by simpa using hk
    rcases za7 h with z | ⟨z,w⟩
    ·rcases mem_cons.mp z with e | z
     ·cases e; exact .inr ⟨by rw [<- hk']; exact mem_cons_self,le_refl _⟩
     ·exact .inl z
    ·exact .inr ⟨mem_cons_of_mem _ z,by omega⟩
   ·rw [if_neg hk] at h
    rcases za7 h with z | ⟨z,w⟩
    ·exact .inl z
    ·exact .inr ⟨mem_cons_of_mem _ z,w⟩
theorem zaD:∀ {names:List (Str×NameKind)} {n:Nat} {acc:List (Str×Addr)} {x:Str},((x,NameKind.cell)∈names\/∃ c,(x,c)∈acc)->∃ c,(x,c)∈cellsFrom n names acc
 | [],_,_,_,h=>h.elim (fun z=>by simp at z) id
 | (m,k)::r,n,acc,x,h=>by
   unfold cellsFrom
   by_cases hk:(k == .cell)=true
   ·rw [if_pos hk]
    refine zaD ?_
    rcases h with z | ⟨c,z⟩
    ·rcases mem_cons.mp z with e | z
     ·cases e; exact .inr ⟨n,mem_cons_self⟩
     ·exact .inl z
    ·exact .inr ⟨c,mem_cons_of_mem _ z⟩
   ·rw [if_neg hk]
    refine zaD ?_
    rcases h with z | z
    ·rcases mem_cons.mp z with e | z
     ·cases e; exact (hk (by decide)).elim
     ·exact .inl z
    ·exact .inr z
theorem zaw {α:Type}:∀ {l:List (Str×α)} {x:Str},(∃ c,(x,c)∈l)->∃ c,l.lookup x=some c
 | [],_,⟨_,h⟩=>by simp at h
 | (m,d)::r,x,⟨c,h⟩=>by
   rw [lookup_cons]
   cases hb:x == m with
   | true=>exact ⟨d,rfl⟩
   | false=>
     refine zaw (l:=r) ⟨c,?_⟩
     rcases mem_cons.mp h with e | h
     ·cases e; simp at hb
     ·exact h
theorem zaS:∀ {names:List (Str×NameKind)} {n:Nat} {acc:List (Str×Addr)},(∀ p∈acc,p.2 < n)->(∀ p∈acc,∀ q∈acc,p.2=q.2->p.1=q.1)->
  ∀ p∈cellsFrom n names acc,∀ q∈cellsFrom n names acc,p.2=q.2->p.1=q.1
 | [],_,_,_,h=>h
 | (m,k)::r,n,acc,hb,h=>by
   unfold cellsFrom
   by_cases hk:(k == .cell)=true
   ·rw [if_pos hk]
    refine zaS (fun p hp=>?_) fun p hp q hq e=>?_
    ·rcases mem_cons.mp hp with rfl | hp
     ·exact Nat.lt_succ_self _
     ·exact Nat.lt_succ_of_lt (hb p hp)
    ·rcases mem_cons.mp hp with rfl | hp <;> rcases mem_cons.mp hq with rfl | hq
     ·rfl
     ·have h1:=hb q hq
      have e':n=q.2:=e
      exact absurd h1 (by rw [<- e']; exact lt_irrefl _)
     ·have h1:=hb p hp
      have e':p.2=n:=e
      exact absurd h1 (by rw [e']; exact lt_irrefl _)
     ·exact h p hp q hq e
   ·rw [if_neg hk]
    exact zaS hb h
section
variable {M:Model} {A:Around} {E:Value->Shared->Prop} {s:Shared}
theorem ze0 {scope:Scope} {globals:Addr} {cl:List (Str×Addr)} {qual:Str} {env:PySem.Env} {Q:PySem.Env->Shared->Prop}
  (hQ:∀ h':Heap,(∀ b o,s.heap.get? b=some o->h'.get? b=some o)->h'.Ns s.heap.objs.size (fun _=>none)->(∀ x c,(x,c)∈cellsFrom (s.heap.objs.size + 1) scope.names cl->(x,c)∈cl\/h'.IsCell c none)->
   Q { scope:=scope,locals:=s.heap.objs.size,globals:=globals,cells:=cellsFrom (s.heap.objs.size + 1) scope.names cl,qual:=qual,func:=none,code:=env.code,frame:=env.frame,builtins:=env.builtins } { s with heap:=h' }):
  wpAny M A (newFunctionEnv scope globals cl [] qual none .none (some env)) Q E s:=by
 simp only [newFunctionEnv,isSome_some,if_true]
 refine wpAny_bind (wpAny_alloc ?_)
 refine wpAny_bind (wpAny_layCells _ (fun name kind cells=>by cases hkc:kind == NameKind.cell <;> simp [hkc]) _ _ _ _ ?_)
 rw [show ({ s with heap:=s.heap.push { cls:=.type "dict",data:=.dict #[] } }:Shared).heap.objs.size=s.heap.objs.size + 1 from Heap.size_push ..]
 refine wpAny_pure (hQ _ (fun b o e=>pushCells_keeps _ _ b o (Heap.get?_push_of_some _ e)) ((Heap.Ns.new s.heap (.type "dict")).keeps (pushCells_keeps _ _)) fun x c h=>?_)
 -- the new cells are empty
 have all:∀ (names:List (Str×NameKind)) (h:Heap) (acc:List (Str×Addr)),(∀ p∈acc,p∈cl\/h.IsCell p.2 none)->∀ p∈cellsFrom h.objs.size names acc,p∈cl\/(pushCells h names).IsCell p.2 none:=by
  intro names
  induction names with
  | nil=>intro h acc ha p hp; exact ha p hp
  | cons q r ih=>
    intro h acc ha p hp
    obtain ⟨m,k⟩:=q
    unfold cellsFrom at hp
    unfold pushCells
    by_cases hk:(k == .cell)=true
    ·rw [if_pos hk] at hp ⊢
     have e:(h.push { cls:=.type "cell",data:=.cell none }).objs.size=h.objs.size + 1:=Heap.size_push ..
     rw [<- e] at hp
     refine ih _ _ (fun p hp=>?_) p hp
     rcases mem_cons.mp hp with rfl | hp
     ·exact .inr ⟨_,Heap.get?_push_size _ rfl,rfl⟩
     ·rcases ha p hp with z | z
      ·exact .inl z
      ·exact .inr (z.keeps fun b o e=>Heap.get?_push_of_some _ e)
    ·rw [if_neg hk] at hp ⊢
     exact ih h acc ha p hp
 have:=all scope.names (s.heap.push { cls:=.type "dict",data:=.dict #[] }) cl (fun p hp=>.inl hp) (x,c) (by rw [Heap.size_push]; exact h)
 exact this
end
def compN (N vars:List Str):List Str:=N.map (fun x=>if x∈vars then Str.empty else x)++Str.empty::vars
def compCx (X:Cx) (scope:Scope) (vars:List Str) (s:Shared) (H:Hp) (ex:List Addr):Cx where
 prog:=X.prog
 w:=X.w
 K:=X.K
 mg:=X.mg
 base:=X.base
 A:=X.A
 N:=compN X.N vars
 s₀:=s
 H₀:=H
 env:=compEnvC scope (cellsFrom (s.heap.objs.size + 1) scope.names (closL X.env.cells scope.names [])) s.heap.objs.size X.env
 outer:=X.stack
 stack:=X.stack
 ex:=ex
 fn:=fun x=>decide ((x,NameKind.cell)∈scope.names)
 calm:=X.calm
 pn:=[]
 xe:=fun _ _=>False
structure CompScope (outer scope:Scope) (N vars:List Str):Prop where
 kind:scope.kind=.function
 fr:∀ x∈scope.names,x.2=.free->outer.names.lookup x.1=some .cell\/outer.names.lookup x.1=some .free
 nd:(scope.names.map (·.1)).Nodup
 own:∀ x∈N,x∉vars->(x,NameKind.local)∉scope.names/\(x,NameKind.cell)∉scope.names
 emp:scope.names.lookup Str.empty=none
theorem zaH {α:Type} {l:List (Str×α)} {n:Str} {c:α} (nd:(l.map (·.1)).Nodup):l.lookup n=some c↔(n,c)∈l:=by
 refine ⟨mem_of_lookup,fun h=>zaU h fun c' h'=>?_⟩
 induction l with
 | nil=>simp at h
 | cons p r ih=>
   obtain ⟨n1,n2⟩:=nodup_cons.mp nd
   rcases mem_cons.mp h with e | h <;> rcases mem_cons.mp h' with e' | h'
   ·rw [<- e] at e'; exact (Prod.mk.inj e').2
   ·exact absurd (mem_map.mpr ⟨_,h',by rw [<- e]⟩) n1
   ·exact absurd (mem_map.mpr ⟨_,h,by rw [<- e']⟩) n1
   ·exact ih n2 h h'
theorem zbs {α β:Type} (g:Str->α->β):∀ (l:List (Str×α)) (n:Str),(l.map fun p=>(p.1,g p.1 p.2)).lookup n=(l.lookup n).map (g n)
 | [],_=>rfl
 | (m,d)::r,n=>by
   rw [map_cons,lookup_cons,lookup_cons]
   cases hb:n == m with
   | true=>have e:n=m:=by simpa using hb
           subst e; rfl
   | false=>exact zbs g r n
def rl (env:PySem.Env) (n:Str) (k:NameKind):NameKind:=if (k == NameKind.free && env.scope.kind == .function && env.kindOf n == some .cell) then NameKind.cell else k
theorem zdB (scope:Scope) (env:PySem.Env):(relabel scope env).names=scope.names.map fun p=>(p.1,rl env p.1 p.2):=by
 unfold relabel
 show scope.names.map _=scope.names.map _
 refine map_congr_left fun p _=>?_
 obtain ⟨n,k⟩:=p
 show (if (k == NameKind.free && env.scope.kind == .function && env.kindOf n == some .cell)=true then (n,NameKind.cell) else (n,k))=(n,rl env n k)
 unfold rl
 by_cases h:(k == NameKind.free && env.scope.kind == .function && env.kindOf n == some .cell)=true
 ·rw [if_pos h,if_pos h]
 ·rw [if_neg h,if_neg h]
theorem zaI (scope:Scope) (env:PySem.Env) (x:Str):(relabel scope env).names.lookup x=(scope.names.lookup x).map (rl env x):=by
 rw [zdB,zbs]
theorem zeK {env:PySem.Env} {x:Str} {k:NameKind} (h:k≠.free):rl env x k=k:=by
 unfold rl
 rw [if_neg]
 intro z
 simp at z
 exact h z.1.1
theorem zkZ {env:PySem.Env} {x:Str}:rl env x .free=.cell\/rl env x .free=.free:=by
 unfold rl
 split
 ·exact .inl rfl
 ·exact .inr rfl
section
variable {X:Cx} {pins:List (Addr×Obj)} {σ:St} {H:Hp} {s:Shared} {scope:Scope} {vars:List Str} {ex:List Addr}
theorem ziB {N:List Str} {i:Nat} {x:Str} (h:(compN N vars)[i]?=some x) (hi:i < N.length):(N[i]?=some x/\x∉vars)\/x=Str.empty:=by
 unfold compN at h
 rw [getElem?_append_left (by simpa using hi),getElem?_map] at h
 cases q:N[i]? with
 | none=>rw [q] at h; cases h
 | some y=>
   rw [q] at h
   have h':(if y∈vars then Str.empty else y)=x:=Option.some.inj h
   by_cases hy:y∈vars
   ·rw [if_pos hy] at h'; exact .inr h'.symm
   ·rw [if_neg hy] at h'; subst h'; exact .inl ⟨rfl,hy⟩
theorem Inv.comp (I:Inv X pins σ H s) (S:CompScope X.env.scope scope X.N vars) (hex:∀ b∈ex,FpOk X pins H b/\b < s.heap.objs.size) {h':Heap} (kept:∀ b o,s.heap.get? b=some o->h'.get? b=some o) (hns:h'.Ns s.heap.objs.size (fun _=>none))
  (hcl:∀ x c,(x,c)∈cellsFrom (s.heap.objs.size + 1) scope.names (closL X.env.cells scope.names [])->(x,c)∈closL X.env.cells scope.names []\/h'.IsCell c none) {k:Nat} (hk:vars.length=k) (w0:Option V):
  Inv (compCx X scope vars s H ex) [] (σ++w0::List.replicate k none) H { s with heap:=h' }:=by
 have cm:∀ {x:Str} {c:Addr},(x,c)∈closL X.env.cells scope.names []->(x,NameKind.free)∈scope.names/\X.env.cells.lookup x=some c:=fun {x c} h=>by
  rcases zbF h with z | z
  ·simp at z
  ·exact z
 have lt:∀ {x:Str} {c:Addr},X.env.cells.lookup x=some c->c < s.heap.objs.size:=fun {x c} h=>by
  obtain ⟨v,z⟩:=I.cell x c h
  exact z.lt
 have look:∀ {x:Str} {c:Addr},(compCx X scope vars s H ex).env.cells.lookup x=some c->(X.env.cells.lookup x=some c/\(x,NameKind.free)∈scope.names)\/((x,NameKind.cell)∈scope.names/\s.heap.objs.size + 1<=c):=fun {x c} h=>by
  rcases za7 (mem_of_lookup h) with z | z
  ·exact .inl ⟨(cm z).2,(cm z).1⟩
  ·exact .inr z
 have uniq:∀ {x:Str} {a b:NameKind},(x,a)∈scope.names->(x,b)∈scope.names->a=b:=fun {x a b} h1 h2=>by
  have e1:=(zaH S.nd).mpr h1
  have e2:=(zaH S.nd).mpr h2
  rw [e1] at e2
  exact Option.some.inj e2
 -- what a visible name is,seen from around
 have vis:∀ {x:Str},((relabel scope X.env).names.lookup x=some .cell\/(relabel scope X.env).names.lookup x=some .free)->(x,NameKind.cell)∈scope.names\/(x,NameKind.free)∈scope.names:=fun {x} h=>by
  rw [zaI] at h
  cases q:scope.names.lookup x with
  | none=>rw [q] at h; rcases h with h | h <;> cases h
  | some k=>
    have hm:=mem_of_lookup q
    rw [q] at h
    have h0:some (rl X.env x k)=some .cell\/some (rl X.env x k)=some .free:=h
    cases k with
    | cell=>exact .inl hm
    | free=>exact .inr hm
    | «local»=>rw [zeK (by decide)] at h0; rcases h0 with h | h <;> cases h
    | globalImplicit=>rw [zeK (by decide)] at h0; rcases h0 with h | h <;> cases h
    | globalExplicit=>rw [zeK (by decide)] at h0; rcases h0 with h | h <;> cases h
 have ok:(compCx X scope vars s H ex).Ok:=by
  refine ⟨I.ok.mod,S.kind,I.ok.glob,I.ok.blt,le_refl _,fun x y c h1 h2=>?_,fun x h=>?_,fun x c hf h=>?_,I.ok.hd,I.ok.frames,.inl rfl,fun b hb=>⟨?_,fun x c h z=>?_⟩,I.bs,le_trans I.ok.bsz I.sz,fun b o e hb=>?_,fun b hb z=>?_,I.stack,I.stkFree⟩
  ·refine zaS (fun p hp=>?_) (fun p hp q hq e=>?_) (x,c) (mem_of_lookup h1) (y,c) (mem_of_lookup h2) rfl
   ·exact Nat.lt_succ_of_lt (lt (cm (x:=p.1) (c:=p.2) hp).2)
   ·exact I.ok.inj _ _ _ (cm (x:=p.1) (c:=p.2) hp).2 (e ▸ (cm (x:=q.1) (c:=q.2) hq).2)
  ·rcases vis h with z | z
   ·exact zaw (zaD (.inl z))
   ·obtain ⟨c,hc⟩:=I.ok.has x (S.fr (x,.free) z rfl)
    exact zaw (zaD (.inr ⟨c,zbk hc (.inr z)⟩))
  ·have hf':(x,NameKind.cell)∈scope.names:=of_decide_eq_true hf
   rcases look h with ⟨_,z⟩ | ⟨_,z⟩
   ·cases uniq hf' z
   ·exact Nat.le_of_succ_le z
  ·exact ne_of_lt (hex b hb).2
  ·rcases look h with ⟨w,_⟩ | ⟨_,w⟩
   ·exact (hex b hb).1.2.2.2.2.1 x c w z
   ·have h1:=(hex b hb).2
    rw [<- z] at h1
    exact absurd (lt_of_lt_of_le h1 (Nat.le_of_succ_le w)) (lt_irrefl _)
  ·obtain ⟨_,_,_,h1,_⟩:=(hex b hb).1
   rcases h1 with z | z
   ·exact I.ok.noex b o e z
   ·exact absurd (lt_of_lt_of_le (Heap.lt_size e) (le_trans I.ok.bsz z)) (lt_irrefl _)
  ·obtain ⟨_,h2,h3,_⟩:=(hex b hb).1
   rcases mem_cons.mp (I.stkSub b z) with w | w
   ·exact h2 w
   ·exact h3 w
 have cellK:∀ {c:Addr} {v:Option Value},s.heap.IsCell c v->h'.IsCell c v:=fun z=>z.keeps kept
 refine ⟨ok,rfl,I.bare,Un.kept kept,⟨_,hns,fun i x v h1 h2 h3=>?_⟩,fun x c h=>?_,I.hok.fresh (le_refl _),fun x c h=>?_,fun p hp=>absurd (show p∈([]:List (Addr×Obj)) from hp) (by simp),I.hok.kept kept,?_⟩
 ·-- a slot of the context
  have noE:¬ Vis (compCx X scope vars s H ex).env.scope Str.empty:=fun h3=>by
   have h3':(relabel scope X.env).names.lookup Str.empty=some .local\/(relabel scope X.env).names.lookup Str.empty=some .cell\/(relabel scope X.env).names.lookup Str.empty=some .free:=h3
   rw [zaI,S.emp] at h3'
   rcases h3' with z | z | z <;> cases z
  have hi:i < σ.length:=by
   by_cases hi:i < σ.length
   ·exact hi
   ·exfalso
    rw [getElem?_append_right (not_lt.mp hi)] at h2
    cases q:i - σ.length with
    | zero=>
      have e:i=X.N.length:=by have:=I.len; omega
      rw [e] at h1
      have h1':(compN X.N vars)[X.N.length]?=some x:=h1
      unfold compN at h1'
      rw [getElem?_append_right (by simp)] at h1'
      simp at h1'
      subst h1'
      exact noE h3
    | succ j=>
      rw [q,List.getElem?_cons_succ,List.getElem?_replicate] at h2
      split at h2 <;> cases h2
  rw [getElem?_append_left hi] at h2
  rcases ziB h1 (by rw [<- I.len]; exact hi) with ⟨h1,hx⟩ | rfl
  ·have own:=S.own x (mem_of_getElem? h1) hx
   have hfree:(x,NameKind.free)∈scope.names:=by
    have h3':(relabel scope X.env).names.lookup x=some .local\/(relabel scope X.env).names.lookup x=some .cell\/(relabel scope X.env).names.lookup x=some .free:=h3
    rcases h3' with z | z
    ·rw [zaI] at z
     cases q:scope.names.lookup x with
     | none=>rw [q] at z; cases z
     | some kk=>
       rw [q] at z
       have z0:some (rl X.env x kk)=some .local:=z
       have hm:=mem_of_lookup q
       cases kk with
       | «local»=>exact absurd hm own.1
       | cell=>exact absurd hm own.2
       | free=>exact hm
       | globalImplicit=>rw [zeK (by decide)] at z0; cases z0
       | globalExplicit=>rw [zeK (by decide)] at z0; cases z0
    ·rcases vis z with w | w
     ·exact absurd w own.2
     ·exact w
   have hout:=S.fr (x,.free) hfree rfl
   obtain ⟨m,hm,hl⟩:=I.loc
   obtain ⟨u,r,l⟩:=hl i x v h1 h2 (hout.elim (fun z=>.inr (.inl z)) fun z=>.inr (.inr z))
   refine ⟨u,r,.inr ⟨?_,?_⟩⟩
   ·show (relabel scope X.env).names.lookup x=some .cell\/(relabel scope X.env).names.lookup x=some .free
    rw [zaI,(zaH S.nd).mpr hfree]
    show some (rl X.env x .free)=_\/some (rl X.env x .free)=_
    rcases zkZ (env:=X.env) (x:=x) with e | e <;> rw [e]
    ·exact .inl rfl
    ·exact .inr rfl
   ·rcases l with ⟨z,_⟩ | ⟨_,c,hc,z⟩
    ·have z':X.env.scope.names.lookup x=some .local:=z
     rcases hout with w | w <;> (have w':X.env.scope.names.lookup x=_:=w; rw [w'] at z'; cases z')
    ·refine ⟨c,?_,cellK z⟩
     show (cellsFrom (s.heap.objs.size + 1) scope.names (closL X.env.cells scope.names [])).lookup x=some c
     obtain ⟨c',hc'⟩:=zaw (zaD (n:=s.heap.objs.size + 1) (names:=scope.names) (.inr ⟨c,zbk hc (.inr hfree)⟩))
     rcases look hc' with ⟨w,_⟩ | ⟨w,_⟩
     ·rw [hc] at w
      cases w
      exact hc'
     ·cases uniq hfree w
  ·exact absurd h3 noE
 ·rcases hcl x c (mem_of_lookup h) with z | z
  ·obtain ⟨v,w⟩:=I.cell x c (cm z).2
   exact ⟨v,cellK w⟩
  ·exact ⟨none,z⟩
 ·rcases look h with ⟨w,_⟩ | ⟨_,w⟩
  ·exact I.freeC x c w
  ·exact I.hok.fresh (Nat.le_of_succ_le w)
 ·show _=(compN X.N vars).length
  unfold compN
  simp [I.len,hk]
end
abbrev TB:=St->Hp->(St->Hp->Prop)->Prop
def PRest (X:Cx) (m:Sem Unit) (t:TB):Prop:=∀ (pins:List (Addr×Obj)) (s:Shared) (σ:St) (H:Hp) (Q:St->Hp->Prop),Inv X pins σ H s->t σ H Q->
 wpAny (model X.prog X.w) X.A m (fun _ s'=>∃ σ' H',Inv X pins σ' H' s'/\Q σ' H') (fun _ _=>False) s
def PIfs (X:Cx) (ifs:List Expr) (t:TT):Prop:=∀ (pins:List (Addr×Obj)) (s:Shared) (σ:St) (H:Hp) (Q:Bool->Hp->Prop),Inv X pins σ H s->t σ H Q->
 wpAny (model X.prog X.w) X.A (forIn ifs true fun c r=>if r=true then do let ok <- isTrue c X.env (eval c X.env); pure (ForInStep.yield ok) else pure (ForInStep.yield r)) (TP X pins σ Q) X.xe s
theorem zi2 {X:Cx}:PIfs X [] (fun _ H Q=>Q true H):=fun pins s σ H Q I q=>wpAny_tests_nil ⟨H,I,q⟩
theorem zjB {X:Cx} {c:Expr} {t:TT} (h:PT X c t):PIfs X [c] t:=fun pins s σ H Q I q=>wpAny_tests_one (h pins s σ H Q I q)
def tLoopB (g:TG) (tc:TT) (tb:TB) (J:It):TB:=fun σ H Q=>∃ W:Nat->Nat->St->Hp->Prop,(∃ m,W 0 m σ H)/\∀ i m σ H,W i m σ H->
 (J.stop i H/\Q σ H)\/(J.go i H/\∃ N:St->Hp->Prop,(∀ σ' H',N σ' H'->∃ m',m' < m/\W (i + 1) m' σ' H')/\∀ x H',J.yld i H x H'->g x σ H' fun σ2 H2=>tc σ2 H2 fun b H3=>if b=true then tb σ2 H3 N else N σ2 H3)
def PLoop (X:Cx) (e:Expr) (d:Nat) (acc:Value) (tg:Expr) (tl:It->TB):Prop:=∀ (pins:List (Addr×Obj)) (s:Shared) (σ:St) (H:Hp) (J:It) (fp:List Addr) (it:Addr) (tn:Nat->Heap->Prop) (Q:St->Hp->Prop),Inv X pins σ H s->
 Turn X.prog X.w X.K tg J fp it tn->tn 0 s.heap->(∀ b∈fp,FpOk X pins H b)->tl J σ H Q->
 codeAny (model X.prog X.w) X.A (.compLoop e d (.ref it) acc X.env) (fun r s'=>∃ σ' H',r=.ok .next/\Inv X pins σ' H' s'/\Q σ' H') s
def PRestF (X:Cx) (m:Sem Fin) (c:Code) (t:TB):Prop:=∀ (pins:List (Addr×Obj)) (s:Shared) (σ:St) (H:Hp) (Q:St->Hp->Prop),Inv X pins σ H s->t σ H Q->
 wpAny (model X.prog X.w) X.A m (fun f s'=>f=.again c/\∃ σ' H',Inv X pins σ' H' s'/\Q σ' H') (fun _ _=>False) s
theorem PRest.f {X:Cx} {m:Sem Unit} {c:Code} {t:TB} (h:PRest X m t):PRestF X (m >>= fun _=>again c) c t:=fun pins s σ H Q I q=>
 wpAny_bind (wpAny_mono (h pins s σ H Q I q) (fun _ s' z=>wpAny_pure ⟨rfl,z⟩) fun _ _ z=>z)
theorem zbc {X:Cx} {e tg:Expr} {d:Nat} {acc:Value} {ifs:List Expr} {g:TG} {tc:TT} {tb:TB} {inner:Addr->Sem Fin} {ipos:Pos} (hc:X.calm=true) (hxe:X.xe=fun _ _=>False) (hg:PG X tg g) (ht:PIfs X ifs tc) (hr:∀ it,PRestF X (inner it) (.compLoop e d (.ref it) acc X.env) tb)
  (hq:∀ it,(Code.compLoop e d (.ref it) acc X.env).quiet=true) (hun:∀ it,X.A.under (.compLoop e d (.ref it) acc X.env)=X.A)
  (hden:∀ it,(model X.prog X.w).den (.compLoop e d (.ref it) acc X.env)=(compTurn e d (.ref it) acc X.env).onRaise (fun x=>do noteFrame x X.env; theTreesLotGoes x))
  (heq:∀ it,compTurn e d (.ref it) acc X.env=(standAt ipos >>= fun _=>pyNext (.ref it) >>= fun r=>match r with
   | none=>pure (.done .next)
   | some v=>letOwnedTupleGo tg (.ref it) v >>= fun _=>assign tg X.env v >>= fun _=>
     (forIn ifs true fun c r=>if r=true then do let ok <- isTrue c X.env (eval c X.env); pure (ForInStep.yield ok) else pure (ForInStep.yield r)) >>= fun ok=>
      if ok=true then inner it else again (.compLoop e d (.ref it) acc X.env))):
  PLoop X e d acc tg (tLoopB g tc tb):=by
 intro pins s σ H J fp it tn Q I T st f ⟨W,⟨m0,w0⟩,turn⟩
 have stat:∀ {H':Hp},(∀ b∈fp,H' b=none)->∀ b∈fp,FpOk X pins H' b:=fun hn b hb=>⟨hn b hb,(f b hb).2⟩
 have nox:∀ {α:Type} {m:Sem α} {Q:α->Shared->Prop} {E:Value->Shared->Prop} {s:Shared},wpAny (model X.prog X.w) X.A m Q X.xe s->wpAny (model X.prog X.w) X.A m Q E s:=fun h=>wpAny_mono h (fun _ _ q=>q) fun _ _ x=>by rw [hxe] at x; exact x.elim
 refine codeAny_loop (hq it) (fun n s'=>∃ i σ' H',Inv X pins σ' H' s'/\tn i s'.heap/\(∀ b∈fp,H' b=none)/\W i n σ' H') ?_ m0 ⟨0,σ,H,I,st,fun b hb=>(f b hb).1,w0⟩
 rintro n s3 ⟨i,σ3,H3,I3,st3,fr3,w3⟩
 rw [hun,hden]
 refine wpAny_noted ?_
 rw [heq]
 refine wpAny_bind (wpAny_standAt (wpAny_bind ?_))
 rcases turn i n σ3 H3 w3 with ⟨stop,qn⟩ | ⟨go,N,hN,step⟩
 ·refine thn (T.done X rfl rfl rfl hc i pins s3 σ3 H3 _ I3 (stat fr3) st3 stop) fun r s4 ⟨hr,I4⟩=>?_
  subst hr
  exact wpAny_pure ⟨σ3,H3,rfl,I4,qn⟩
 ·refine thn (T.item X rfl rfl rfl hc i pins s3 σ3 H3 _ I3 (stat fr3) st3 go) fun r s4 ⟨u,hr',h4⟩=>?_
  subst hr'
  refine wpAny_bind (thn h4 fun _ s5 ⟨x,H5,I5,r5,y5,st5,fr5⟩=>?_)
  have I5':=I5.pinned (stat fr5) (T.obj _ _ st5)
  refine wpAny_bind (nox (thn (hg _ s5 σ3 H5 x u _ I5' r5 (step x H5 y5)) fun _ s6 ⟨σ6,H6,I6,q6⟩=>?_))
  have again:∀ {σ7:St} {H7:Hp} {s7:Shared},Inv X (pins++pinsAt fp s5.heap) σ7 H7 s7->N σ7 H7->∃ m,m < n/\∃ i σ' H',Inv X pins σ' H' s7/\tn i s7.heap/\(∀ b∈fp,H' b=none)/\W i m σ' H':=fun {σ7 H7 s7} I7 n7=>by
   obtain ⟨m',hm,w7⟩:=hN σ7 H7 n7
   refine ⟨m',hm,i + 1,σ7,H7,I7.unpinned,T.keep _ _ _ st5 fun b hb o e=>(I7.pin (b,o) (mem_append_right _ (mem_append_right _ (zbo hb e)))).1,fun b hb=>?_,w7⟩
   obtain ⟨o,e,d⟩:=T.obj _ _ st5 b hb
   exact (I7.pin (b,o) (mem_append_right _ (mem_append_right _ (zbo hb e)))).2.1
  refine wpAny_bind (nox (thn (ht _ s6 σ6 H6 _ I6 q6) fun b s7 ⟨H7,I7,q7⟩=>?_))
  cases b with
  | true=>
    rw [if_pos rfl] at q7
    rw [if_pos rfl]
    refine wpAny_mono (hr it _ s7 σ6 H7 _ I7 q7) (fun f s8 ⟨ef,σ8,H8,I8,n8⟩=>?_) fun _ _ z=>z.elim
    subst ef
    exact ⟨rfl,again I8 n8⟩
  | false=>
    rw [if_neg Bool.false_ne_true] at q7
    rw [if_neg Bool.false_ne_true]
    exact wpAny_pure ⟨rfl,again I7 q7⟩
theorem zdj {X:Cx} {e tg:Expr} {d:Nat} {acc:Value} {tl:It->TB} (hl:PLoop X e d acc tg tl)
  (hq:∀ it,(Code.compLoop e d (.ref it) acc X.env).quiet=true) (hun:∀ it,X.A.under (.compStart e d (.ref it) acc X.env)=X.A)
  (hden:∀ it,(model X.prog X.w).den (.compStart e d (.ref it) acc X.env)=(compStart e d (.ref it) acc X.env).onRaise (fun x=>do noteFrame x X.env; standAt theWindowsPlace))
  (heq:∀ it,∃ p,compStart e d (.ref it) acc X.env=(ask >>= fun c=>if c.params.followText "comprehension-iter-twice"=true then again (.compLoop e d (.ref it) acc X.env) else
   rule "comprehension.iter-twice" >>= fun _=>standAt p >>= fun _=>pyIter (.ref it) >>= fun it'=>again (.compLoop e d it' acc X.env)))
  {pins:List (Addr×Obj)} {s:Shared} {σ:St} {H:Hp} {J:It} {fp:List Addr} {it:Addr} {tn:Nat->Heap->Prop} {Q:St->Hp->Prop} (I:Inv X pins σ H s)
  (T:Turn X.prog X.w X.K tg J fp it tn) (st:tn 0 s.heap) (f:∀ b∈fp,FpOk X pins H b) (q:tl J σ H Q):
  codeAny (model X.prog X.w) X.A (.compStart e d (.ref it) acc X.env) (fun r s'=>∃ σ' H',r=.ok .next/\Inv X pins σ' H' s'/\Q σ' H') s:=by
 have h0:=hl pins s σ H J fp it tn Q I T st f q
 refine codeAny_of_tree ?_
 rw [hun,hden]
 refine wpAny_notedAt ?_
 obtain ⟨p,e⟩:=heq it
 rw [e]
 refine wpAny_bind (wpAny_askSetting (wpAny_ite ?_))
 split
 ·exact wpAny_pure ⟨hq it,h0⟩
 ·exact wpAny_bind (wpAny_rule (wpAny_bind (wpAny_standAt (wpAny_bind (T.self X.A 0 s _ _ st (wpAny_pure ⟨hq it,h0⟩))))))
end L2
end
section
namespace FL
open PySem PySem.Spec PyProof.Rows L2
inductive tWB (X:Cx) (n:Nat) (D:Addr) (b:WB) (σ:St) (H:Hp) (Q:St->Hp->Prop):Prop
 | mk (F G:Hp) (U:Env) (P:Env->Prop) (PX:WX) (rel:Rel X.K U σ F G H) (hs:σ[n]?=some (some (.ref D))) (hw:b U P PX) (hn:∀ U' σ' F' H',P U'->KP (List.range (n + 1)) σ σ'->Same F F'->Rel X.K U' σ' F' G H'->Q σ' H'):tWB X n D b σ H Q
theorem xc0 {X:Cx} {T:St->Prop} {F G:Hp} {PX:WX}:XC X T F G PX:=fun _ _ _ _ _ _ _ _ _ _ _ _ z=>z.elim
section
variable {K:W.Frag} {F F' H H' G G':Hp} {σ σ':St} {v u:V}
theorem SReps.snoc {xs:List V} {l:List S} {fp fq:List Addr} {v:V} {s:S} (b:SReps K F H xs l fp) (r:SRep K F H v s fq):SReps K F H (xs++[v]) (l++[s]) (fp++fq):=
 SReps.ind (P:=fun xs l fp=>SReps K F H (xs++[v]) (l++[s]) (fp++fq)) (by have:=SReps.cons r .nil; rwa [append_nil] at this) (fun a _ ih=>by rw [append_assoc]; exact .cons a ih) b
theorem SReps.len {xs:List V} {l:List S} {fp:List Addr} (r:SReps K F H xs l fp):xs.length=l.length:=SReps.ind (P:=fun xs l _=>xs.length=l.length) rfl (fun _ _ ih=>congrArg (· + 1) ih) r
theorem Rel.append {U:Env} {n:Nat} {l:List S} {s:S} {D:Addr} (r:Rel K (U++[some s]) (σ++[some v]) F G H) (hs:slot U n=some (.lst l)) (hσ:σ[n]?=some (some (.ref D))):
  ∃ xs,H D=some (.lst xs)/\xs.length=l.length/\Rel K (U.set n (some (.lst (l++[s])))) σ F G (upd H D (.lst (xs++[v]))):=by
 have hl:=len1 r
 obtain ⟨fp,e,nd,ap⟩:=r.en
 obtain ⟨f1,f2,rfl,a,b⟩:=e.cut hl
 obtain ⟨v',fa,fi,fb,e1,rfl,q,up⟩:=a.at hs
 rw [hσ] at e1
 have e2:V.ref D=v':=by simpa using e1
 subst e2
 cases q with
 | lst hD rl=>
   rename_i xs fl
   cases b with
   | so sr nl=>
     cases nl
     rename_i fs
     refine ⟨xs,hD,rl.len,?_⟩
     have es:σ.set n (some (.ref D))=σ:=by
      apply ext_getElem?
      intro j
      by_cases hj:n=j
      ·subst hj
       rw [getElem?_set_self (List.getElem?_eq_some_iff.mp hσ).1,hσ]
      ·rw [getElem?_set_ne hj]
     -- D is nobody else's
     obtain ⟨n1,n2,n12⟩:=nodup_append.mp nd
     obtain ⟨na,nib,nab⟩:=nodup_append.mp n1
     obtain ⟨ni,nb,nib⟩:=nodup_append.mp nib
     obtain ⟨nD,nfl⟩:=nodup_cons.mp ni
     have hDa:D∉fa:=fun z=>nab D z D (mem_append_left _ mem_cons_self) rfl
     have hDb:D∉fb:=fun z=>nib D mem_cons_self D z rfl
     have hDs:D∉fs:=fun z=>n12 D (mem_append_right _ (mem_append_left _ mem_cons_self)) D (by simpa using z) rfl
     have apD:=ap D (mem_append_left _ (mem_append_right _ (mem_append_left _ mem_cons_self)))
     have ne:∀ {l:List Addr},D∉l->∀ x∈l,upd H D (.lst (xs++[v])) x=H x:=fun h x hx=>zag fun z=>h (z ▸ hx)
     have new:SRep K F (upd H D (.lst (xs++[v]))) (.ref D) (.lst (l++[s])) (D::(fl++fs)):=.lst zam (SReps.snoc (rl.mono (Same.refl F) (ne nD)) (sr.mono (Same.refl F) (ne hDs)))
     have a2:=up (F':=F) (H':=upd H D (.lst (xs++[v]))) (o:=some (.lst (l++[s]))) (u:=some (.ref D)) (Same.refl F) (fun x hx=>zag fun z=>(mem_append.mp hx).elim (fun w=>hDa (z ▸ w)) fun w=>hDb (z ▸ w)) (.so new .nil)
     rw [es] at a2
     have p:(fa++((D::(fl++fs))++[]++fb)).Perm (fa++((D::fl)++fb)++(fs++[])):=by
      simp only [append_nil,append_assoc,cons_append]
      refine List.Perm.append_left _ (List.Perm.cons _ (List.Perm.append_left _ perm_append_comm))
     refine ⟨Same.updR r.fr apD.1,fun x o w=>?_,_,a2,p.nodup_iff.mpr (by simpa using nd),fun x hx=>ap x (by simpa using p.mem_iff.mp hx)⟩
     have hx:x≠D:=fun z=>by rw [z,apD.2] at w; cases w
     rw [zag hx]
     exact r.gr x o w
end
section
variable {X:Cx} {n:Nat} {D:Addr} {ks:List Nat}
theorem zcQ {elt:Expr} {we:WE} (hxe:X.xe=fun _ _=>False) (h:FE X elt we):PRest X (eval elt X.env >>= fun x=>call (.builtin "list.append") [.ref D,x] >>= fun _=>pure ()) (tWB X n D (bEmit n we)):=by
 intro pins s σ H Q I q
 obtain ⟨F,G,U,P,PX,rel,hσ,hw,hok⟩:=q
 have hp:PassesOwn (model X.prog X.w) X.A X.env X.xe:=by rw [hxe]; exact PassesOwn.never
 have he:=h X.pn X.xe hp pins s σ H (fun v H1=>∃ F1 U1 t l,Same F F1/\Rel X.K (U1++[some t]) (σ++[some v]) F1 G H1/\slot U1 n=some (.lst l)/\l.length < big/\P (U1.set n (some (.lst (l++[t]))))) I
  ⟨F,G,U,_,PX,rel,hw,fun r U1 v F1 H1 hk s1 r1 rv=>?_,xc0⟩
 ·have xe0:∀ e s',X.xe e s'->False:=fun e s' z=>by rw [hxe] at z; exact z
  refine wpAny_bind (wpAny_mono he (fun u s1 ⟨v,H1,I1,rv,F1,U1,t,l,sm,r1,hs,hz,hP⟩=>?_) fun e s' z=>xe0 e s' z)
  obtain ⟨xs,hD,hlen,r2⟩:=Rel.append r1 hs hσ
  refine wpAny_bind (wpAny_mono (zcN pins s1 σ H1 (.ref D) [v] (.ref D) [u] (fun w H'=>w=.non/\H'=upd H1 D (.lst (xs++[v]))) I1 rfl (.cons rv .nil) ⟨D,xs,v,rfl,rfl,hD,by rw [hlen,sizeLine_eq]; exact lt_trans hz (by decide),rfl,rfl⟩) (fun w s2 ⟨w',H2,I2,_,_,e2⟩=>?_) fun e s' z=>xe0 e s' z)
  subst e2
  exact wpAny_pure ⟨σ,_,I2,hok _ σ F1 _ hP KP.refl sm r2⟩
 ·obtain ⟨⟨t,U2⟩,eg,hk⟩:=zad hk
  obtain ⟨F2,s2,l2,r2⟩:=giveR (U':=[]) (σ':=[]) r1 (len1 r1) rv eg
  dsimp only at hk
  split at hk
  ·rename_i l e
   exact ⟨F2,U2,t,l,s1.trans s2,r2,e,hk.1,hk.2⟩
  ·exact hk.elim
theorem zaV:PIfs X [] (tWT X wYes):=fun pins s σ H Q I q=>zi2 pins s σ H Q I (by
 obtain ⟨F,G,U,P,PX,rel,hw,hok,hx⟩:=q
 exact hok true U F H hw (Same.refl F) rel)
theorem zeR {c:Expr} {wc:WT} (hxe:X.xe=fun _ _=>False) (h:FT X c wc):PIfs X [c] (tWT X wc):=zjB (h X.pn X.xe (by rw [hxe]; exact PassesOwn.never))
theorem zfR {g:WG} {wc:WT} {b:WB} {J:It} {l:List FL.D} {F G:Hp} {U:Env} {σ:St} {H:Hp} {P:Env->Prop} {PX:WX} {Q:St->Hp->Prop} (it:ItOk X.K J l F) (rel:Rel X.K U σ F G H) (hσ:σ[n]?=some (some (.ref D)))
  (hw:bLoop g wc b l U P PX) (hok:∀ U' σ' F' H',P U'->KP (List.range (n + 1)) σ σ'->Same F F'->Rel X.K U' σ' F' G H'->Q σ' H'):
  tLoopB (tWG X (List.range (n + 1)) g) (tWT X wc) (tWB X n D b) J σ H Q:=by
 have hσ':∀ {σ':St},KP (List.range (n + 1)) σ σ'->σ'[n]?=some (some (.ref D)):=fun k=>by rw [k n (by simp)]; exact hσ
 refine ⟨fun i m σ2 H2=>m=l.length - i/\i<=l.length/\∃ F2 U2,KP (List.range (n + 1)) σ σ2/\Same F F2/\Rel X.K U2 σ2 F2 G H2/\bLoop g wc b (l.drop i) U2 P PX,⟨l.length,by simp,zero_le _,F,U,KP.refl,Same.refl F,rel,by simpa using hw⟩,?_⟩
 rintro i m σ2 H2 ⟨rfl,hi,F2,U2,kp,s2,r2,hw2⟩
 obtain ⟨it1,it2⟩:=it i U2 σ2 F2 G H2 s2 r2
 by_cases hlt:i < l.length
 ·obtain ⟨go,yld⟩:=it1 l[i] (by simp [hlt])
  refine .inr ⟨go,fun σ3 H3=>i + 1<=l.length/\∃ F3 U3,KP (List.range (n + 1)) σ σ3/\Same F F3/\Rel X.K U3 σ3 F3 G H3/\bLoop g wc b (l.drop (i + 1)) U3 P PX,fun σ3 H3 h=>⟨l.length - (i + 1),by omega,rfl,h⟩,fun y H3 hy=>?_⟩
  obtain ⟨F3,s3,r3,rp⟩:=yld y H3 hy
  rw [drop_eq_getElem_cons hlt] at hw2
  refine ⟨F3,G,U2,_,_,r3.push rp,hw2,fun U4 σ4 F4 H4 hp4 k4 s4 r4=>?_⟩
  have kp4:=kp.trans k4
  have sm4:=s2.trans (s3.trans s4)
  refine ⟨F4,G,U4,_,_,r4,hp4,fun k U5 F5 H5 hp5 s5 r5=>?_,xc0⟩
  cases k with
  | true=>
    dsimp only
    rw [if_pos rfl]
    exact ⟨F5,G,U5,_,_,r5,hσ' kp4,hp5,fun U' σ' F' H' h k' s r=>⟨hlt,F',U',kp4.trans k',sm4.trans (s5.trans s),r,h⟩⟩
  | false=>
    dsimp only
    rw [if_neg Bool.false_ne_true]
    exact ⟨hlt,F5,U5,kp4,sm4.trans s5,r5,hp5⟩
 ·have e:i=l.length:=Nat.le_antisymm hi (not_lt.mp hlt)
  subst e
  rw [List.drop_length] at hw2
  exact .inl ⟨it2 (le_refl _),hok U2 σ2 F2 H2 hw2 kp s2 r2⟩
theorem ziS {c0:Code} {e tg iter:Expr} {d:Nat} {wi:WI} {g:WG} {wc:WT} {b:WB} {ip:Pos} (hxe:X.xe=fun _ _=>False) (hi:FI X tg iter wi) (hl:PLoop X e d (.ref D) tg (tLoopB (tWG X (List.range (n + 1)) g) (tWT X wc) (tWB X n D b)))
  (hs:∀ x,foldedSetIterable iter X.env x=pure x) (hm:X.A.mark none=X.A)
  (hq:∀ it,(Code.compLoop e d (.ref it) (.ref D) X.env).quiet=true) (hun:∀ it,X.A.under (.compStart e d (.ref it) (.ref D) X.env)=X.A)
  (hden:∀ it,(model X.prog X.w).den (.compStart e d (.ref it) (.ref D) X.env)=(compStart e d (.ref it) (.ref D) X.env).onRaise (fun x=>do noteFrame x X.env; standAt theWindowsPlace))
  (heq:∀ it,∃ p,compStart e d (.ref it) (.ref D) X.env=(ask >>= fun c=>if c.params.followText "comprehension-iter-twice"=true then again (.compLoop e d (.ref it) (.ref D) X.env) else
   rule "comprehension.iter-twice" >>= fun _=>standAt p >>= fun _=>pyIter (.ref it) >>= fun it'=>again (.compLoop e d it' (.ref D) X.env))):
  PRestF X (eval iter X.env >>= fun x=>standAt ip >>= fun _=>foldedSetIterable iter X.env x >>= fun x=>holding [x] (pyIter x) >>= fun it=>runOwn (.compStart e d it (.ref D) X.env) X.env >>= fun _=>again c0) c0 (tWB X n D (bFor wi g wc b)):=by
 intro pins s σ H Q I q
 obtain ⟨F,G,U,P,PX,rel,hσ,hw,hok⟩:=q
 have hp:PassesOwn (model X.prog X.w) X.A X.env X.xe:=by rw [hxe]; exact PassesOwn.never
 have xe0:∀ e s',X.xe e s'->False:=fun e s' z=>by rw [hxe] at z; exact z
 have hi':=hi X.pn X.xe hp pins s σ H (fun J H1=>tLoopB (tWG X (List.range (n + 1)) g) (tWT X wc) (tWB X n D b) J σ H1 Q) I
  ⟨F,G,U,_,PX,rel,hw,fun l U1 F1 H1 J hk s1 r1 it=>zfR it r1 hσ hk fun U' σ' F' H' a k s r=>hok U' σ' F' H' a k (s1.trans s) r,xc0⟩
 refine wpAny_bind (wpAny_mono hi' (fun x s1 h1=>?_) fun e s' z=>xe0 e s' z)
 refine wpAny_bind (wpAny_standAt (wpAny_bind (wpAny_of_eq (hs x) (wpAny_bind (wpAny_holding (wpAny_mono h1 (fun itv s2 h2=>?_) fun e s' z=>xe0 e s' z))))))
 obtain ⟨it,fp,tn,J,H2,e1,I2,T,st,f,q2⟩:=h2
 subst e1
 refine wpAny_bind (wpAny_runOwn ?_)
 rw [hm]
 refine codeAny_mono (zdj hl hq hun hden heq I2 T st f q2) fun r s3 ⟨σ3,H3,er,I3,q3⟩=>?_
 subst er
 exact wpAny_pure ⟨rfl,σ3,H3,I3,q3⟩
end
theorem zcL {α:Type} {l:List α} {n:Nat} {a:α} (h:l[n]?=some a):l=l.take n++a::l.drop (n + 1):=by
 obtain ⟨hn,e⟩:=List.getElem?_eq_some_iff.mp h
 rw [<- e,<- drop_eq_getElem_cons hn,List.take_append_drop]
section
variable {X:Cx} {k:Nat} {vars:List Str}
theorem zdT {ty:String} {dat:Data} {mk:Sem Value} (hmk:∀ (A:Around) (E:Value->Shared->Prop) (s:Shared) (Q:Value->Shared->Prop),Q (.ref s.heap.objs.size) { s with heap:=s.heap.push { cls:=.type ty,dict:=none,data:=dat } }->wpAny (model X.prog X.w) A mk Q E s) {s0:S} {o0:HO} {e tg iter:Expr} {ifs:List Expr} {gs:List Comprehension} {scope:Scope} {cpos:Pos} {wi:WI} {g:WG} {wc:WT} {b:WB} (ho:∀ (H:Hp) (h:Heap),sysModules < h.objs.size->ObjOk X.prog X.w H (h.push { cls:=.type ty,dict:=none,data:=dat }) h.objs.size o0) (hs0:∀ (F H:Hp) (p:Addr),H p=some o0->SRep X.K F H (.ref p) s0 [p]) (hcl:clausesOf e=⟨tg,iter,ifs,0⟩::gs) (hs:∀ x,foldedSetIterable iter X.env x=pure x)
  (Sc:CompScope X.env.scope scope X.N vars) (hk:vars.length=k) (hi:FI X tg iter wi)
  (hb:∀ (s:Shared) (H:Hp) (ex:List Addr) (D:Addr),PLoop (compCx X scope vars s H ex) e 0 (.ref D) tg (tLoopB (tWG (compCx X scope vars s H ex) (List.range (X.N.length + 1)) g) (tWT (compCx X scope vars s H ex) wc) (tWB (compCx X scope vars s H ex) X.N.length D b)))
  (hq:∀ it acc env,(Code.compLoop e 0 (.ref it) acc env).quiet=true) (hun:∀ it acc env,X.A.under (.compStart e 0 (.ref it) acc env)=X.A)
  (hden:∀ it acc env,(model X.prog X.w).den (.compStart e 0 (.ref it) acc env)=(compStart e 0 (.ref it) acc env).onRaise (fun x=>do noteFrame x env; standAt theWindowsPlace))
  (heq:∀ it acc env,∃ p,compStart e 0 (.ref it) acc env=(ask >>= fun c=>if c.params.followText "comprehension-iter-twice"=true then again (.compLoop e 0 (.ref it) acc env) else
   rule "comprehension.iter-twice" >>= fun _=>standAt p >>= fun _=>pyIter (.ref it) >>= fun it'=>again (.compLoop e 0 it' acc env)))
  {pn:List (Addr×Obj)} {xe:Value->Shared->Prop} (hp:PassesOwn (model X.prog X.w) X.A X.env xe) {pins:List (Addr×Obj)} {s:Shared} {σ:St} {H F G:Hp} {U:Env} {P:WQ} {PX:WX} (I:Inv (wp X pn xe) pins σ H s)
  (rel:Rel X.K U σ F G H) (hw:wi U (fun l U1=>bLoop g wc b l (U1++some s0::List.replicate k none) (fun U2=>need (slot U2 X.N.length) fun s=>P (.v s) (U2.take X.N.length)) (fun x U2=>PX x (U2.take X.N.length))) PX) (hx:XC (wp X pn xe) (·=σ) F G PX) {use:Option (Value->Sem Unit)} {Q':Value->Shared->Prop}
  (fin:∀ (D C:Addr) (s4:Shared) (H4 F4:Hp) (m:Str->Option Value) (t:S) (U4:Env),s4.heap.Ns C m->Inv (wp X pn xe) pins σ H4 s4->H4 C=none->C≠X.env.locals->X.s₀.heap.objs.size<=C->(∀ x c,X.env.cells.lookup x=some c->c≠C)->(∀ p∈pn++pins,p.1≠C)->
   P (.v t) U4->Same F F4->Rel X.K (U4++[some t]) (σ++[some (.ref D)]) F4 G H4->compPost (model X.prog X.w) X.A xe use Q' (.ref D) C (.ok .next) s4):
  wpAny (model X.prog X.w) X.A (comprehension e scope X.env cpos mk false (eval iter X.env) use) Q' xe s:=by
 have hi':=hi pn xe hp pins s σ H (fun J H1=>∃ F1 U1 l,Same F F1/\Rel X.K U1 σ F1 G H1/\ItOk X.K J l F1/\
   bLoop g wc b l (U1++some s0::List.replicate k none) (fun U2=>need (slot U2 X.N.length) fun s=>P (.v s) (U2.take X.N.length)) (fun x U2=>PX x (U2.take X.N.length))) I
  ⟨F,G,U,_,PX,rel,hw,fun l U1 F1 H1 J hk s1 r1 it=>⟨F1,U1,l,s1,r1,it,hk⟩,hx⟩
 have hfree:∀ x∈scope.names,x.2=.free->∃ c,X.env.cells.lookup x.1=some c:=fun x hx hf=>I.ok.has x.1 (Sc.fr x hx hf)
 refine wpAny_comprehension_free (use:=use) hcl hs (zdJ hfree) Sc.kind (fun x hx hl=>(zaH Sc.nd).mpr (by obtain ⟨a,b⟩:=x; have hl':b=.local:=hl; subst hl'; exact hx)) (wpAny_mono hi' (fun v s1 h1=>wpAny_mono h1 (fun itv s2 h2=>?_) fun _ _ z=>z) fun _ _ z=>z)
 obtain ⟨it,fp,tn,J,H2,e1,I2,T,st,f,F1,U1,l,s1',r1,ito,hk2⟩:=h2
 subst e1
 -- the acc
 refine hmk _ _ _ _ ?_
 generalize hs3:({ s2 with heap:=s2.heap.push { cls:=.type ty,dict:=none,data:=dat } }:Shared)=s3
 have k23:∀ b o,s2.heap.get? b=some o->s3.heap.get? b=some o:=fun b o e=>by rw [<- hs3]; exact Heap.get?_push_of_some _ e
 have sz3:s3.heap.objs.size=s2.heap.objs.size + 1:=by rw [<- hs3]; exact Heap.size_push ..
 have hD:H2 s2.heap.objs.size=none:=I2.hok.fresh (le_refl _)
 have I3:Inv (wp X pn xe) pins σ (upd H2 s2.heap.objs.size o0) s3:=by
  rw [<- hs3]
  exact I2.laid (t':=s2.toks) (fun b o e=>Heap.get?_push_of_some _ e) (le_refl _) (ho _ _ I2.big)
 have r3:Rel X.K (U1++[some s0]) (σ++[some (.ref s2.heap.objs.size)]) F1 G (upd H2 s2.heap.objs.size o0):=r1.newO hD (hs0 _ _ _ zam)
 have fplt:∀ b∈fp,b < s2.heap.objs.size:=fun b hb=>by
  obtain ⟨o,e,_⟩:=T.obj _ _ st b hb
  exact Heap.lt_size e
 have fne:∀ b∈fp,b≠s2.heap.objs.size:=fun b hb=>ne_of_lt (fplt b hb)
 have f3:∀ b∈fp,FpOk (wp X pn xe) pins (upd H2 s2.heap.objs.size o0) b:=fun b hb=>by
  obtain ⟨h1,h2⟩:=f b hb
  exact ⟨by rw [zag (fne b hb)]; exact h1,h2⟩
 refine ze0 fun h' kept hns hcl'=>?_
 have I4:=Inv.comp (X:=wp X pn xe) (ex:=fp) I3 Sc (fun b hb=>⟨f3 b hb,by rw [sz3]; exact Nat.lt_succ_of_lt (fplt b hb)⟩) kept hns hcl' hk (some (.ref s2.heap.objs.size))
 have hσn:(σ++some (.ref s2.heap.objs.size)::List.replicate k none)[X.N.length]?=some (some (.ref s2.heap.objs.size)):=by
  have hl:X.N.length=σ.length:=I2.len.symm
  rw [hl,getElem?_append_right (le_refl _),sub_self]
  rfl
 have r4:Rel X.K (U1++some s0::List.replicate k none) (σ++some (.ref s2.heap.objs.size)::List.replicate k none) F1 G (upd H2 s2.heap.objs.size o0):=by
  have:=r3.pushNs k
  simpa using this
 have st4:tn 0 h':=T.keep _ _ _ st fun b hb o e=>kept b o (k23 b o e)
 have f4:∀ b∈fp,FpOk (compCx X scope vars s3 (upd H2 s2.heap.objs.size o0) fp) [] (upd H2 s2.heap.objs.size o0) b:=fun b hb=>by
  obtain ⟨h1,h2,h3,h4,h5,h6⟩:=f3 b hb
  have e:=I4.ok.exf b hb
  exact ⟨h1,e.1,I4.ok.exfs b hb,.inl hb,e.2,fun p hp=>absurd (show p∈([]:List (Addr×Obj)) from hp) (by simp)⟩
 have go:=zdj (hb s3 (upd H2 s2.heap.objs.size o0) fp s2.heap.objs.size) (fun it=>hq it _ _) (fun it=>hun it _ _) (fun it=>hden it _ _) (fun it=>heq it _ _) I4 T st4 f4
  (Q:=fun σ' H'=>∃ F' U',need (slot U' X.N.length) (fun s=>P (.v s) (U'.take X.N.length))/\KP (List.range (X.N.length + 1)) (σ++some (.ref s2.heap.objs.size)::List.replicate k none) σ'/\Same F1 F'/\Rel X.K U' σ' F' G H')
  (zfR ito r4 hσn hk2 fun U' σ' F' H' a kp sm r=>⟨F',U',a,kp,sm,r⟩)
 refine codeAny_mono go fun r s4 ⟨σ4,H4,er,I5,F4,U4,hn4,kp4,sm4,r5⟩=>?_
 subst er
 obtain ⟨m,hm,_⟩:=id I5.loc
 have I6:Inv (wp X pn xe) pins σ H4 s4:=Inv.call' (ch:=fp) I3 I5.os I5.base I5.hok I5.bare fun b hb=>by
  obtain ⟨h1,h2,h3,h4,h5,h6⟩:=f3 b hb
  exact ⟨h4,h2,h5,h6⟩
 -- the block's names go
 obtain ⟨t,et,hP⟩:=zad hn4
 have hl:X.N.length=σ.length:=I2.len.symm
 have hσ4:σ4[X.N.length]?=some (some (.ref s2.heap.objs.size)):=by rw [kp4 X.N.length (by simp)]; exact hσn
 have eσ:σ4.take X.N.length=σ:=by
  apply ext_getElem?
  intro j
  by_cases hj:j < X.N.length
  ·rw [List.getElem?_take_of_lt hj,kp4 j (by simp; omega),getElem?_append_left (by omega)]
  ·rw [List.getElem?_take_eq_none (not_lt.mp hj),getElem?_eq_none (by omega)]
 have e1:=zcL (zbJ et)
 have e2:=zcL hσ4
 rw [e1,e2,eσ] at r5
 have r6:Rel X.K ((U4.take X.N.length++[some t])++U4.drop (X.N.length + 1)) ((σ++[some (.ref s2.heap.objs.size)])++σ4.drop (X.N.length + 1)) F4 G H4:=by simpa using r5
 have hlt:X.N.length < U4.length:=zb7 et
 have ltC:∀ {b:Addr} {o:Obj},s3.heap.get? b=some o->b≠s3.heap.objs.size:=fun e=>ne_of_lt (Heap.lt_size e)
 refine fin s2.heap.objs.size s3.heap.objs.size s4 H4 F4 m t (U4.take X.N.length) hm I6 I5.free (Ne.symm (ne_of_lt I3.lt)) I3.sz (fun x c e z=>?_) (fun p hp z=>?_) hP (s1'.trans sm4) (r6.drop (by simp; omega))
 ·obtain ⟨v,o,ho,_⟩:=I3.cell x c e
  exact ltC ho z
 ·exact ltC (I3.pin p hp).1 z
theorem zfo {pn:List (Addr×Obj)} {xe:Value->Shared->Prop} {pins:List (Addr×Obj)} {σ:St} {F G:Hp} {P:WQ} {Q:VK} (hok:∀ r U' v F' H',P r U'->Same F F'->Rel X.K (U'++[slotOf r]) (σ++[some v]) F' G H'->RV σ v r->Q v H'):
  ∀ (D C:Addr) (s4:Shared) (H4 F4:Hp) (m:Str->Option Value) (t:S) (U4:Env),s4.heap.Ns C m->Inv (wp X pn xe) pins σ H4 s4->H4 C=none->C≠X.env.locals->X.s₀.heap.objs.size<=C->(∀ x c,X.env.cells.lookup x=some c->c≠C)->(∀ p∈pn++pins,p.1≠C)->
    P (.v t) U4->Same F F4->Rel X.K (U4++[some t]) (σ++[some (.ref D)]) F4 G H4->compPost (model X.prog X.w) X.A xe none (EP (wp X pn xe) pins σ Q) (.ref D) C (.ok .next) s4:=
 fun D C s4 H4 F4 m t U4 hm I n1 n2 n3 n4 n5 hP sm r=>⟨m,hm,fun h'' sb=>⟨.ref D,H4,I.turned (t':=s4.toks) (fun b o hb e=>(sb.2 b hb).trans e) n1 n2 (.inr n3) n4 n5,rfl,hok (.v t) U4 _ F4 H4 hP sm r trivial⟩⟩
theorem zlx {ks:List Nat} {i:Nat} {y:Str} {py:Pos} {pn:List (Addr×Obj)} {xe:Value->Shared->Prop} {pins:List (Addr×Obj)} {σ:St} {F G:Hp} {P:WQ} {DD:L2.Ends} {Nx:Env->Prop} (hk:i∉ks) (hN:∀ j,X.N[j]?=some y->j=i) (hi:X.N[i]?=some y) (hy:X.env.scope.names.lookup y=some .local)
  (hP:∀ s U,P (.v s) U->Nx (U.set i (some s))) (hok:∀ U' σ' F' H',Nx U'->KP ks σ σ'->Same F F'->Rel X.K U' σ' F' G H'->DD.nx σ' H'):
  ∀ (D C:Addr) (s4:Shared) (H4 F4:Hp) (m:Str->Option Value) (t:S) (U4:Env),s4.heap.Ns C m->Inv (wp X pn xe) pins σ H4 s4->H4 C=none->C≠X.env.locals->X.s₀.heap.objs.size<=C->(∀ x c,X.env.cells.lookup x=some c->c≠C)->(∀ p∈pn++pins,p.1≠C)->
    P (.v t) U4->Same F F4->Rel X.K (U4++[some t]) (σ++[some (.ref D)]) F4 G H4->compPost (model X.prog X.w) X.A xe (some (assign (.Name y py) X.env)) (fun _ s'=>SP (wp X pn xe) pins DD .next s') (.ref D) C (.ok .next) s4:=
 fun D C s4 H4 F4 m t U4 hm I n1 n2 n3 n4 n5 hp sm r=>by
  have hl:=len1 r
  have hiU:i < U4.length:=by rw [hl,I.len]; exact (List.getElem?_eq_some_iff.mp hi).1
  refine wpAny_assign_Name (zei (X:=wp X pn xe) (v:=.ref D) I hN hi (.inl hy) rfl (fun s5 I5 ⟨a,sb,ha⟩=>?_) (.inr hy))
  have haC:C≠a:=by
   rcases ha with e | e
   ·rw [e]; exact n2
   ·exact Ne.symm (n4 y a e)
  refine ⟨m,hm.sameBut sb haC,fun h'' sb2=>⟨_,H4,I5.turned (t':=s5.toks) (fun b o hb e=>(sb2.2 b hb).trans e) n1 n2 (.inr n3) n4 n5,?_⟩⟩
  exact hok _ _ F4 H4 (hP t U4 hp) (KP.set hk) sm (r.store hl hiU)
theorem zdU {ty:String} {dat:Data} (A:Around) (E:Value->Shared->Prop) (s:Shared) (Q:Value->Shared->Prop) (h:Q (.ref s.heap.objs.size) { s with heap:=s.heap.push { cls:=.type ty,dict:=none,data:=dat } }) (hz:sizeOk dat:=by size_fits):wpAny (model X.prog X.w) A (newObj (.type ty) dat) Q E s:=wpAny_newObj_type h hz
theorem zfe (H:Hp) (h:Heap) (_:sysModules < h.objs.size):ObjOk X.prog X.w H (h.push { cls:=.type "list",dict:=none,data:=.seq ([]:List Value).toArray }) h.objs.size (.lst []):=⟨zero_le _,[],0,.nil,Heap.get?_push_size _ rfl⟩
theorem zg5 (F H:Hp) (p:Addr) (e:H p=some (.lst [])):SRep X.K F H (.ref p) (.lst []) [p]:=.lst e .nil
theorem zcT {elt tg iter:Expr} {ifs:List Expr} {scope:Scope} {pos:Pos} {wi:WI} {g:WG} {wc:WT} {we:WE} {n:Nat} (hn:X.N.length=n) (hc:X.calm=true) (Sc:CompScope X.env.scope scope X.N vars) (hk:vars.length=k) (hi:FI X tg iter wi)
  (hg:∀ s H ex,FG (compCx X scope vars s H ex) (List.range (n + 1)) tg g) (ht:∀ s H ex,PIfs (compCx X scope vars s H ex) ifs (tWT (compCx X scope vars s H ex) wc)) (he:∀ s H ex,FE (compCx X scope vars s H ex) elt we)
  (hs:∀ x,foldedSetIterable iter X.env x=pure x:=by intro _; rfl):FE X (.ListComp elt [⟨tg,iter,ifs,0⟩] scope pos) (wLC n k wi g wc (bEmit n we)):=by
 subst hn
 intro pn xe hp pins s σ H Q I q
 show wpAny (model X.prog X.w) X.A (eval (.ListComp elt [⟨tg,iter,ifs,0⟩] scope pos) X.env) (EP (wp X pn xe) pins σ Q) xe s
 rw [eval_ListComp]
 obtain ⟨F,G,U,P,PX,rel,hw,hok,hx⟩:=q
 refine zdT (fun A E s Q h=>zdU A E s Q h) (s0:=.lst []) zfe zg5 rfl hs Sc hk hi (fun s H ex D=>?_) (fun _ _ _=>rfl) (fun _ _ _=>rfl) (fun _ _ _=>rfl) (fun _ _ _=>⟨_,rfl⟩) hp I rel hw hx (zfo hok)
 exact zbc (X:=compCx X scope vars s H ex) hc rfl (hg s H ex [] (fun _ _=>False) PassesOwn.never) (ht s H ex) (fun _=>(zcQ (X:=compCx X scope vars s H ex) rfl (he s H ex)).f) (fun _=>rfl) (fun _=>rfl) (fun _=>rfl) (fun _=>rfl)
theorem zcH {ks:List Nat} {i:Nat} {y:Str} {py spos:Pos} {elt tg iter:Expr} {ifs:List Expr} {scope:Scope} {pos:Pos} {wi:WI} {g:WG} {wc:WT} {we:WE} {n:Nat} (hki:i∉ks) (hN:∀ j,X.N[j]?=some y->j=i) (hiN:X.N[i]?=some y) (hy:X.env.scope.names.lookup y=some .local)
  (hsw:swapsWith (.ListComp elt [⟨tg,iter,ifs,0⟩] scope pos) (some (.Name y py)) spos.line X.env=pure true)
  (hn:X.N.length=n) (hc:X.calm=true) (Sc:CompScope X.env.scope scope X.N vars) (hk:vars.length=k) (hi:FI X tg iter wi)
  (hg:∀ s H ex,FG (compCx X scope vars s H ex) (List.range (n + 1)) tg g) (ht:∀ s H ex,PIfs (compCx X scope vars s H ex) ifs (tWT (compCx X scope vars s H ex) wc)) (he:∀ s H ex,FE (compCx X scope vars s H ex) elt we)
  (hs:∀ x,foldedSetIterable iter X.env x=pure x:=by intro _; rfl):FS X ks (.Assign [.Name y py] (.ListComp elt [⟨tg,iter,ifs,0⟩] scope pos) spos) (wAsg (gName i) (wLC n k wi g wc (bEmit n we))):=by
 subst hn
 intro pn xe hp pins s σ H D I q
 show wpAny (model X.prog X.w) X.A (exec (.Assign [.Name y py] (.ListComp elt [⟨tg,iter,ifs,0⟩] scope pos) spos) X.env) (SP (wp X pn xe) pins D) xe s
 rw [exec_Assign_Name_used _ _ _ _ hsw]
 refine wpAny_bind (wpAny_standAt (wpAny_bind ?_))
 obtain ⟨F,G,U,E,rel,hw,n,b,c,r,x⟩:=q
 show wpAny _ X.A (do let _ <- comprehension (.ListComp elt [⟨tg,iter,ifs,0⟩] scope pos) scope X.env _ (newList []) false (eval iter X.env) (some (assign (.Name y py) X.env))) _ _ s
 refine wpAny_bind (wpAny_mono (zdT (fun A E s Q h=>zdU A E s Q h) (s0:=.lst []) (P:=fun r U1=>need (give r U1) fun p=>gName i p.1 p.2 E.nx) (PX:=E.ex) (g:=g) (wc:=wc) (b:=bEmit X.N.length we) (Q':=fun _ s'=>SP (wp X pn xe) pins D .next s') zfe zg5 rfl hs Sc hk hi (fun s H ex D=>?_) (fun _ _ _=>rfl) (fun _ _ _=>rfl) (fun _ _ _=>rfl) (fun _ _ _=>⟨_,rfl⟩) hp I rel hw (x.mono (fun σ2 z=>by rw [z]; exact KP.refl) (Same.refl F) (Same.refl G))
  (zlx (P:=fun r U1=>need (give r U1) fun p=>gName i p.1 p.2 E.nx) (Nx:=E.nx) hki hN hiN hy (fun s U h=>h) n)) (fun _ s' hq=>wpAny_pure (wpAny_pure hq)) fun _ _ e=>e)
 exact zbc (X:=compCx X scope vars s H ex) hc rfl (hg s H ex [] (fun _ _=>False) PassesOwn.never) (ht s H ex) (fun _=>(zcQ (X:=compCx X scope vars s H ex) rfl (he s H ex)).f) (fun _=>rfl) (fun _=>rfl) (fun _=>rfl) (fun _=>rfl)
set_option maxHeartbeats 4000000 in
theorem zmU {elt tg iter tg2 iter2:Expr} {ifs ifs2:List Expr} {scope:Scope} {pos:Pos} {wi wi2:WI} {g g2:WG} {wc wc2:WT} {we:WE} {n:Nat} (hn:X.N.length=n) (hm:X.A.mark none=X.A) (hc:X.calm=true) (Sc:CompScope X.env.scope scope X.N vars) (hk:vars.length=k) (hi:FI X tg iter wi)
  (hg:∀ s H ex,FG (compCx X scope vars s H ex) (List.range (n + 1)) tg g) (ht:∀ s H ex,PIfs (compCx X scope vars s H ex) ifs (tWT (compCx X scope vars s H ex) wc))
  (hi2:∀ s H ex,FI (compCx X scope vars s H ex) tg2 iter2 wi2) (hg2:∀ s H ex,FG (compCx X scope vars s H ex) (List.range (n + 1)) tg2 g2) (ht2:∀ s H ex,PIfs (compCx X scope vars s H ex) ifs2 (tWT (compCx X scope vars s H ex) wc2))
  (he:∀ s H ex,FE (compCx X scope vars s H ex) elt we)
  (hs:∀ x,foldedSetIterable iter X.env x=pure x:=by intro _; rfl) (hs2:∀ env x,foldedSetIterable iter2 env x=pure x:=by intro _ _; rfl):FE X (.ListComp elt [⟨tg,iter,ifs,0⟩,⟨tg2,iter2,ifs2,0⟩] scope pos) (wLC n k wi g wc (bFor wi2 g2 wc2 (bEmit n we))):=by
 subst hn
 intro pn xe hp pins s σ H Q I q
 show wpAny (model X.prog X.w) X.A (eval (.ListComp elt [⟨tg,iter,ifs,0⟩,⟨tg2,iter2,ifs2,0⟩] scope pos) X.env) (EP (wp X pn xe) pins σ Q) xe s
 rw [eval_ListComp]
 obtain ⟨F,G,U,P,PX,rel,hw,hok,hx⟩:=q
 refine zdT (fun A E s Q h=>zdU A E s Q h) (s0:=.lst []) zfe zg5 rfl hs Sc hk hi (fun s H ex D=>?_) (fun _ _ _=>rfl) (fun _ _ _=>rfl) (fun _ _ _=>rfl) (fun _ _ _=>⟨_,rfl⟩) hp I rel hw hx (zfo hok)
 have inner:PLoop (compCx X scope vars s H ex) (.ListComp elt [⟨tg,iter,ifs,0⟩,⟨tg2,iter2,ifs2,0⟩] scope pos) 1 (.ref D) tg2 _:=
  zbc (X:=compCx X scope vars s H ex) hc rfl (hg2 s H ex [] (fun _ _=>False) PassesOwn.never) (ht2 s H ex) (fun _=>(zcQ (X:=compCx X scope vars s H ex) (n:=X.N.length) rfl (he s H ex)).f) (fun _=>rfl) (fun _=>rfl) (fun _=>rfl) (fun _=>rfl)
 exact zbc (X:=compCx X scope vars s H ex) hc rfl (hg s H ex [] (fun _ _=>False) PassesOwn.never) (ht s H ex) (fun _=>ziS (X:=compCx X scope vars s H ex) rfl (hi2 s H ex) inner (hs2 _) hm (fun _=>rfl) (fun _=>rfl) (fun _=>rfl) (fun _=>⟨_,rfl⟩)) (fun _=>rfl) (fun _=>rfl) (fun _=>rfl) (fun _=>rfl)
end
section
variable {X:Cx} {K:W.Frag}
theorem zb9 {x:Str} {l:List Nat} (e:x.cps.toList=l):x.length=l.length:=by rw [<- e]; rfl
theorem zkn {x y:Str} {l m:List Nat} (e:x.cps.toList=l) (e':y.cps.toList=m):(x++y).cps.toList=l++m:=by
 show (x.cps++y.cps).toList=_
 rw [toList_append,e,e']
theorem RepE.int {F H:Hp} {v:V} {i:Int} (h:RepE K F H v (.int i)):v=.int i:=by
 rcases h with h | ⟨_,_,_,_,h,_⟩ | ⟨_,_,_,_,_,h,_⟩ | ⟨_,_,_,_,_,h,_⟩
 ·cases h; rfl
 ·cases h
 ·cases h
 ·cases h
theorem RepE.str {F H:Hp} {v:V} {l:List Nat} (h:RepE K F H v (.str l)):∃ x,v=.str x/\x.cps.toList=l/\l.length<=16777216:=by
 rcases h with h | ⟨_,_,_,_,h,_⟩ | ⟨_,_,_,_,_,h,_⟩ | ⟨_,_,_,_,_,h,_⟩
 ·cases h with
  | str e z=>exact ⟨_,rfl,e,z⟩
 ·cases h
 ·cases h
 ·cases h
theorem RepE.tup {F H:Hp} {v:V} {l:List D} (h:RepE K F H v (.tup l)):∃ a xs,v=.ref a/\F a=some (.tup xs)/\Reps K F xs l:=by
 rcases h with h | ⟨_,_,_,_,h,_⟩ | ⟨_,_,_,_,_,h,_⟩ | ⟨_,_,_,_,_,h,_⟩
 ·cases h with
  | tup e r=>exact ⟨_,_,rfl,e,r⟩
 ·cases h
 ·cases h
 ·cases h
theorem RepE.lst {F H:Hp} {v:V} {l:List D} (sm:Same F H) (h:RepE K F H v (.lst l)):∃ a xs,v=.ref a/\SqL K H a xs/\Reps K F xs l:=by
 rcases h with h | ⟨a,xs,ds,e1,h,e2,r⟩ | ⟨_,_,_,_,_,h,_⟩ | ⟨_,_,_,_,_,h,_⟩
 ·cases h with
  | lst e r=>exact ⟨_,_,rfl,SqL.mono sm e,r⟩
 ·cases h
  exact ⟨a,xs,e1,SqL.of e2,r⟩
 ·cases h
 ·cases h
theorem Reps.append {F:Hp} {xs ys:List V} {l m:List D} (a:Reps K F xs l) (r:Reps K F ys m):Reps K F (xs++ys) (l++m):=Reps.ind (P:=fun xs l=>Reps K F (xs++ys) (l++m)) r (fun a _ ih=>.cons a ih) a
theorem Rel.newLD {U:Env} {σ:St} {F G H:Hp} {p:Addr} {xs:List V} {l:List D} (r:Rel K U σ F G H) (hp:H p=none) (rx:Reps K F xs l):Rel K (U++[some (.lst (l.map .sh))]) (σ++[some (.ref p)]) F G (upd H p (.lst xs)):=by
 have sr:∀ {xs:List V} {l:List D},Reps K F xs l->SReps K F (upd H p (.lst xs)) xs (l.map .sh) []:=by
  intro xs l h
  generalize upd H p (.lst xs)=H'
  induction xs generalizing l with
  | nil=>cases h; exact .nil
  | cons x xs ih=>cases h with
    | cons a b=>
      have:=SReps.cons (SRep.sh (H:=H') a) (ih b)
      exact this
 refine r.newO hp (.lst zam ?_)
 have:=sr rx
 exact this
def rCatL (K:W.Frag):R2:=fun x y H Q=>∃ l b xs zs,x=.ref l/\y=.ref b/\SqL K H l xs/\SqL K H b zs/\xs.length + zs.length<=sizeLine/\∀ p,H p=none->Q (.ref p) (upd H p (.lst (xs++zs)))
theorem zkI:OpR X (binaryOp .Add) (rCatL X.K):=by
 intro pins s σ H x y v u Q I rx ry h
 obtain ⟨l,b,xs,zs,rfl,rfl,hl,hb,hz,q⟩:=h
 cases rx
 cases ry
 obtain ⟨its,r1,⟨⟨cls,dd,data,sl⟩,n,ho,hc,hd0,hd⟩,_⟩:=I.list hl
 obtain ⟨its2,r2,⟨⟨cls2,dd2,data2,sl2⟩,n2,ho2,hc2,hd02,hd2⟩,_⟩:=I.list hb
 simp only at hc hd0 hd hc2 hd02 hd2
 subst hc hd0 hd hc2 hd02 hd2
 refine concat_meets ⟨_,ho,rfl⟩ ⟨_,ho2,rfl⟩ noFill_list_add seq_list_add PySem.F.slot_list_add PySem.F.entry_list_add (PySem.F.args_list_add_2 _ _) (list_addW l b its.toArray its2.toArray n n2 none none sl sl2 (by rw [size_toArray,size_toArray,<- r1.length,<- r2.length]; exact hz)) ⟨ho,ho2,?_⟩
 have ea:its.toArray++its2.toArray=(its++its2).toArray:=by simp
 rw [ea]
 exact ⟨.ref _,_,I.lnew (t':=s.toks) (r1.append r2) (by rw [length_append]; exact hz),rfl,q _ I.fresh⟩
def rCatTT (K:W.Frag):R2:=fun x y H Q=>∃ a b xs ys,x=.ref a/\y=.ref b/\SqT K H a xs/\SqT K H b ys/\xs.length + ys.length<=sizeLine/\
 (xs=[]->Q (.ref b) H)/\(xs≠[]->ys=[]->Q (.ref a) H)/\(xs≠[]->ys≠[]->∀ p,H p=none->Q (.ref p) (upd H p (.tup (xs++ys))))
theorem zjL:OpR X (binaryOp .Add) (rCatTT X.K):=by
 intro pins s σ H x y v u Q I rx ry h
 obtain ⟨a,b,xs,ys,rfl,rfl,ha,hb,hz,q0,q1,q2⟩:=h
 by_cases hx:xs=[]
 ·cases rx
  cases ry
  obtain ⟨its,r1,p1,_⟩:=I.tuple ha
  obtain ⟨its2,r2,p2,_⟩:=I.tuple hb
  obtain ⟨⟨cls,dd,data,sl⟩,ho,hc,n,hd⟩:=id p1
  obtain ⟨⟨cls2,dd2,data2,sl2⟩,ho2,hc2,n2,hd2⟩:=id p2
  simp only at hc hd hc2 hd2
  subst hc hd hc2 hd2
  have hi:its=[]:=r1.nil_iff.mpr hx
  exact concat_meets ⟨_,ho,rfl⟩ ⟨_,ho2,rfl⟩ noFill_tuple_add seq_tuple_add PySem.F.slot_tuple_add PySem.F.entry_tuple_add (PySem.F.args_tuple_add_2 _ _)
   (tuple_addW0 a b its.toArray its2.toArray n n2 dd dd2 sl sl2 (by simp [hi])) ⟨ho,ho2,.ref b,H,I,rfl,q0 hx⟩
 ·exact zlw pins s σ H _ _ v u Q I rx ry ⟨a,b,xs,ys,rfl,rfl,ha,hb,hx,hz,q1 hx,q2 hx⟩
def rStrAdd:R2:=fun x y H Q=>∃ i j,x=.str i/\y=.str j/\i.length + j.length<=sizeLine/\Q (.str (i++j)) H
def rAddAll (K:W.Frag):R2:=fun x y H Q=>rI0 (fun i j=>.int (i + j)) x y H Q\/(rStrAdd x y H Q\/(rCatL K x y H Q\/rCatTT K x y H Q))
theorem zhd:OpR X (binaryOp .Add) (rAddAll X.K):=OpR.or znw (OpR.or zgd (OpR.or zkI zjL))
theorem zci {n:Nat} (h:n<=big):n<=sizeLine:=by rw [sizeLine_eq]; exact le_trans h (by decide)
theorem ziX:Does K (rAddAll K) oAdd:=by
 intro σ U F G H x y p q s Q rel ex ey e hq
 unfold oAdd at e
 split at e
 ·cases e
  have h1:=ex.int
  have h2:=ey.int
  subst h1 h2
  exact .inl ⟨_,_,rfl,rfl,hq _ F H (Same.refl F) (rel.push (.int _))⟩
 ·rename_i a b
  split at e
  ·rename_i hz
   cases e
   obtain ⟨x,rfl,e1,z1⟩:=ex.str
   obtain ⟨y,rfl,e2,z2⟩:=ey.str
   refine .inr (.inl ⟨_,_,rfl,rfl,by rw [zb9 e1,zb9 e2]; exact zci hz,hq _ F H (Same.refl F) (rel.push (.str (zkn e1 e2) (by rw [length_append]; exact le_trans hz (by decide))))⟩)
  ·cases e
 ·rename_i a b
  split at e
  ·rename_i hz
   cases e
   obtain ⟨l,xs,rfl,h1,r1⟩:=ex.lst rel.fr
   obtain ⟨m,ys,rfl,h2,r2⟩:=ey.lst rel.fr
   refine .inr (.inr (.inl ⟨l,m,xs,ys,rfl,rfl,h1,h2,by rw [r1.len,r2.len]; exact zci hz,fun p hp=>?_⟩))
   exact hq _ F _ (Same.refl F) (rel.newLD hp (r1.append r2))
  ·cases e
 ·rename_i a b
  split at e
  ·rename_i hz
   cases e
   obtain ⟨l,xs,rfl,h1,r1⟩:=ex.tup
   obtain ⟨m,ys,rfl,h2,r2⟩:=ey.tup
   refine .inr (.inr (.inr ⟨l,m,xs,ys,rfl,rfl,SqT.of (rel.fr _ _ h1),SqT.of (rel.fr _ _ h2),by rw [r1.len,r2.len]; exact zci hz,fun hx=>?_,fun _ hy=>?_,fun _ _ p hp=>?_⟩))
   ·subst hx
    cases r1
    exact hq _ F H (Same.refl F) (rel.push (.tup h2 r2))
   ·subst hy
    cases r2
    rw [append_nil] at hq
    exact hq _ F H (Same.refl F) (rel.push (.tup h1 r1))
   ·have n2:=(rel.free hp).1
    exact hq _ _ _ (Same.upd n2) ((rel.newF hp).push (.tup zam ((r1.append r2).mono (Same.upd n2))))
  ·cases e
 ·cases e
theorem zb0 {C:Int->Int->Prop} {g:Int->Int->Int} {o:D->D->Option S} (ho:∀ p q s,o p q=some s->∃ i j,p=.int i/\q=.int j/\C i j/\s=.sh (.int (g i j))):Does K (rI C fun i j=>.int (g i j)) o:=by
 intro σ U F G H x y p q s Q rel ex ey e hq
 obtain ⟨i,j,rfl,rfl,hc,rfl⟩:=ho p q s e
 have h1:=ex.int
 have h2:=ey.int
 subst h1 h2
 exact ⟨i,j,rfl,rfl,hc,hq _ F H (Same.refl F) (rel.push (.int _))⟩
theorem zjd:Does K (rI (fun _ _=>True) fun i j=>.int (i - j)) oSub:=zb0 fun p q s e=>by
 unfold oSub at e
 split at e
 ·cases e; exact ⟨_,_,rfl,rfl,trivial,rfl⟩
 ·cases e
theorem zlG:OpR X (binaryOp .Sub) (rI (fun _ _=>True) fun i j=>.int (i - j)):=opI fun _ _ _ _ _ _ _ _ q=>sub_int q
theorem zjt:Does K (rI CMul fun i j=>.int (i * j)) oMul:=zb0 fun p q s e=>by
 unfold oMul at e
 split at e
 ·rename_i i j
  split at e
  ·rename_i h
   cases e
   refine ⟨_,_,rfl,rfl,?_,rfl⟩
   simp only [mulOk,or_eq_true,and_eq_true,decide_eq_true_eq] at h
   exact h
  ·cases e
 ·cases e
theorem zjF:Does K (rI (fun _ j=>0 < j) fun i j=>.int (i % j)) oMod:=zb0 fun p q s e=>by
 unfold oMod at e
 split at e
 ·split at e
  ·rename_i h; cases e; exact ⟨_,_,rfl,rfl,h,rfl⟩
  ·cases e
 ·cases e
theorem zjq:Does K (rI CPow fun i j=>.int (i ^ j.toNat)) oPow:=zb0 fun p q s e=>by
 unfold oPow at e
 split at e
 ·split at e
  ·rename_i h; cases e; exact ⟨_,_,rfl,rfl,⟨h.1,by omega,h.2.2⟩,rfl⟩
  ·cases e
 ·cases e
def CDivB (i j:Int):Prop:=0 < j/\j < 18446744073709551616
theorem zjh:OpR X (binaryOp .FloorDiv) (rI CDivB fun i j=>.int (i / j)):=opI fun i j _ _ _ _ _ hc q=>by
 have h1:(0:Int) < j:=hc.1
 have h2:j < 18446744073709551616:=hc.2
 refine floordiv_int (by omega) ?_ (.inl (PyProof.noPylong_of_log2 ?_))
 ·rw [Int.fdiv_eq_ediv_of_nonneg _ (by omega)]; exact q
 ·have h0:j.natAbs≠0:=by omega
  have:j.natAbs.log2 < 64:=(Nat.log2_lt h0).mpr (by omega)
  omega
theorem zhA:Does K (rI CDivB fun i j=>.int (i / j)) oFdiv:=zb0 fun p q s e=>by
 unfold oFdiv at e
 split at e
 ·split at e
  ·rename_i h; cases e; exact ⟨_,_,rfl,rfl,h,rfl⟩
  ·cases e
 ·cases e
end
section
variable {X:Cx} {a b:Expr} {wa wb:WE} {pos:Pos}
theorem zal (ha:FE X a wa) (hb:FE X b wb):FE X (.BinOp a .Add b pos) (wBin oAdd wa wb):=zdg (fun _ _=>zhd) ziX ha hb
theorem zbt (ha:FE X a wa) (hb:FE X b wb):FE X (.BinOp a .Sub b pos) (wBin oSub wa wb):=zdg (fun _ _=>zlG) zjd ha hb
theorem zcg (ha:FE X a wa) (hb:FE X b wb):FE X (.BinOp a .Mod b pos) (wBin oMod wa wb):=zdg (fun _ _=>znI) zjF ha hb
theorem ziE (ha:FE X a wa) (hb:FE X b wb):FE X (.BinOp a .FloorDiv b pos) (wBin oFdiv wa wb):=zdg (fun _ _=>zjh) zhA ha hb
theorem znj (ha:FE X a wa) (hb:FE X b wb):FE X (.BinOp a .Pow b pos) (wBin oPow wa wb):=zdg (fun _ _=>zmA) zjq ha hb
end
section
variable {X:Cx} {pins:List (Addr×Obj)} {σ:St} {H:Hp} {s:Shared}
open PySem.SeqAt
theorem zhj {l m:List D} (h:clash (.tup l) (.tup m)=false):clashs l m=false:=h
theorem zbK:∀ {l m:List D} {j:Nat} {a b:D},clashs l m=false->l[j]?=some a->m[j]?=some b->clash a b=false
 | [],_,_,_,_,_,h,_=>by simp at h
 | _::_,[],_,_,_,_,_,h=>by simp at h
 | x::l,y::m,0,a,b,h,h1,h2=>by
   simp at h1 h2
   subst h1 h2
   have h':(clash x y || clashs l m)=false:=h
   rw [or_eq_false_iff] at h'
   exact h'.1
 | x::l,y::m,j + 1,a,b,h,h1,h2=>by
   have h':(clash x y || clashs l m)=false:=h
   rw [or_eq_false_iff] at h'
   exact zbK h'.2 (by simpa using h1) (by simpa using h2)
theorem zdR:∀ {l:List D} {j:Nat} {a:D},l[j]?=some a->dep a<=deps l
 | [],_,_,h=>by simp at h
 | x::l,0,a,h=>by
   simp at h
   subst h
   show dep x<=max (dep x) (deps l)
   omega
 | x::l,j + 1,a,h=>by
   have:=zdR (l:=l) (j:=j) (a:=a) (by simpa using h)
   show dep a<=max (dep x) (deps l)
   omega
open Classical in
theorem zfz {l m:List D} (n:Nat) (hn:n=min l.length m.length):((List.range n).all (fun j=>decide (l[j]?=m[j]?)) && (l.length == m.length))=decide (l=m):=by
 by_cases h:l=m
 ·subst h
  simp
 ·rw [decide_eq_false h]
  by_cases hl:l.length=m.length
  ·have:(List.range n).all (fun j=>decide (l[j]?=m[j]?))=false:=by
    cases q:(List.range n).all (fun j=>decide (l[j]?=m[j]?)) with
    | false=>rfl
    | true=>
      exfalso
      apply h
      apply ext_getElem?
      intro j
      by_cases hj:j < n
      ·exact of_decide_eq_true (all_eq_true.mp q j (by simpa using hj))
      ·rw [getElem?_eq_none (by omega),getElem?_eq_none (by omega)]
   rw [this]; rfl
  ·have:(l.length == m.length)=false:=by simpa using hl
   rw [this,Bool.and_false]
inductive Sc:V->D->Prop
 | non:Sc .non .non
 | bl (b:Bool):Sc (.bl b) (.bl b)
 | int (i:Int):Sc (.int i) (.int i)
 | str {x:Str} {l:List Nat}:x.cps.toList=l->Sc (.str x) (.str l)
theorem znQ {K:W.Frag} {v:V} {d e:D} (r:Rep K H v d) (hc:clash d e=false) (h1:∀ l,d≠.tup l) (h2:∀ l,d≠.lst l):Sc v d:=by
 cases r with
 | tup=>exact absurd rfl (h1 _)
 | lst=>exact absurd rfl (h2 _)
 | dK=>cases e <;> cases hc
 | dT=>cases e <;> cases hc
 | st=>cases e <;> cases hc
 | non=>exact .non
 | bl=>exact .bl _
 | int=>exact .int _
 | str e _=>exact .str e
theorem zj2 {K:W.Frag} {v u:V} {d e:D} (r:Rep K H u e) (s:Sc v d) (hc:clash d e=false):Sc u e:=by
 cases r with
 | non=>exact .non
 | bl=>exact .bl _
 | int=>exact .int _
 | str e _=>exact .str e
 | _=>cases s <;> cases hc
open Classical in
theorem zeW {K:W.Frag} {A:Around} {v u:V} {vv uu:Value} {d e:D} (r1:Rep K H v d) (r2:Rep K H u e) (rv:RelV v vv) (ru:RelV u uu) (hc:clash d e=false) (h1:∀ l,d≠.tup l) (h2:∀ l,d≠.lst l):
  EqAt A s vv uu (decide (d=e))/\RcAt A s vv uu (decide (d=e)):=by
 have s1:=znQ r1 hc h1 h2
 have s2:=zj2 r2 s1 hc
 clear r1 r2 h1 h2
 cases s1 with
 | non=>
   cases rv
   cases s2 with
   | non=>cases ru; simp; exact ⟨EqAt.same _,RcAt.none_none⟩
   | bl b=>cases ru; simp; exact ⟨EqAt.none_bool _,RcAt.none_bool _⟩
   | int i=>obtain ⟨t,rfl⟩:=ru; simp; exact ⟨EqAt.none_int _ _,RcAt.none_int _ _⟩
   | str e=>obtain ⟨t,rfl⟩:=ru; simp; exact ⟨EqAt.none_str _ _,RcAt.none_str _ _⟩
 | bl a=>
   cases rv
   cases s2 with
   | non=>cases ru; simp; exact ⟨EqAt.bool_none _,RcAt.bool_none _⟩
   | bl b=>
     cases ru
     have e:(decide (D.bl a=D.bl b))=(a == b):=by cases a <;> cases b <;> simp
     rw [e]; exact ⟨EqAt.bool_bool _ _,RcAt.bool_bool _ _⟩
   | str e=>obtain ⟨t,rfl⟩:=ru; simp; exact ⟨EqAt.bool_str _ _ _,RcAt.bool_str _ _ _⟩
   | int=>cases hc
 | int i=>
   obtain ⟨t,rfl⟩:=rv
   cases s2 with
   | non=>cases ru; simp; exact ⟨EqAt.int_none _ _,RcAt.int_none _ _⟩
   | int j=>
     obtain ⟨t',rfl⟩:=ru
     have e:(decide (D.int i=D.int j))=(i == j):=by by_cases h:i=j <;> simp [h]
     rw [e]; exact ⟨EqAt.int_int _ _ _ _,RcAt.int_int _ _ _ _⟩
   | str e=>obtain ⟨t',rfl⟩:=ru; simp; exact ⟨EqAt.int_str _ _ _ _,RcAt.int_str _ _ _ _⟩
   | bl=>cases hc
 | str e1=>
   obtain ⟨t,rfl⟩:=rv
   cases s2 with
   | non=>cases ru; simp; exact ⟨EqAt.str_none _ _,RcAt.str_none _ _⟩
   | bl b=>cases ru; simp; exact ⟨EqAt.str_bool _ _ _,RcAt.str_bool _ _ _⟩
   | int j=>obtain ⟨t',rfl⟩:=ru; simp; exact ⟨EqAt.str_int _ _ _ _,RcAt.str_int _ _ _ _⟩
   | str e2=>
     obtain ⟨t',rfl⟩:=ru
     rename_i x l y m
     have e:(decide (D.str l=D.str m))=(x == y):=by
      by_cases h:x=y
      ·subst h
       rw [<- e1,<- e2]; simp
      ·have hb:(x == y)=false:=by simpa using h
       rw [hb]
       refine decide_eq_false fun q=>h ?_
       obtain ⟨⟨a⟩⟩:=x
       obtain ⟨⟨b⟩⟩:=y
       have a1:a=l:=e1
       have b1:b=m:=e2
       rw [a1,b1,D.str.inj q]
     rw [e]; exact ⟨EqAt.str_str _ _ _ _,RcAt.str_str _ _ _ _⟩
theorem zaP {xs:List V} {us:List Value} {j:Nat} (r:Vals xs us) (h:j < us.toArray.size):∃ x,xs[j]?=some x/\RelV x us.toArray[j]:=by
 have hl:=r.length
 have hj:j < us.length:=by simpa using h
 have hj':j < xs.length:=by omega
 obtain ⟨u,hu,ru⟩:=r.get (i:=j) (x:=xs[j]) (by simp [hj'])
 refine ⟨xs[j],by simp [hj'],?_⟩
 have:us.toArray[j]=u:=by
  have:=List.getElem?_eq_some_iff.mp hu
  simpa using this.2
 rw [this]; exact ru
mutual
theorem Rep.uniq (I:Inv X pins σ H s) {v:V} {d e:D} (r:Rep X.K H v d) (q:Rep X.K H v e) (hc:clash d e=false):d=e:=by
 cases r with
 | non=>cases q; rfl
 | bl _=>cases q; rfl
 | int _=>cases q; rfl
 | str e1 _=>cases q with | str e2 _=>rw [<- e1,<- e2]
 | tup e1 r1=>cases q with
   | tup e2 r2=>
     cases I.tuple_inj (SqT.of e1) (SqT.of e2)
     rw [Reps.uniq I r1 r2 hc]
   | _=>cases hc
 | lst e1 r1=>cases q with
   | lst e2 r2=>
     cases I.list_inj e1 e2
     rw [Reps.uniq I r1 r2 hc]
   | _=>cases hc
 | dK=>cases e <;> cases hc
 | dT=>cases e <;> cases hc
 | st=>cases e <;> cases hc
theorem Reps.uniq (I:Inv X pins σ H s) {v:List V} {d e:List D} (r:Reps X.K H v d) (q:Reps X.K H v e) (hc:clashs d e=false):d=e:=by
 cases r with
 | nil=>cases q; rfl
 | @cons _ a _ l a1 b1=>cases q with
   | @cons _ b _ m a2 b2=>
     have h':(clash a b || clashs l m)=false:=hc
     rw [or_eq_false_iff] at h'
     rw [Rep.uniq I a1 a2 h'.1,Reps.uniq I b1 b2 h'.2]
end
open Classical in
theorem zkw:∀ (n:Nat) {A:Around} {v u:V} {vv uu:Value} {d e:D},dep d<=n->Inv X pins σ H s->Rep X.K H v d->Rep X.K H u e->RelV v vv->RelV u uu->clash d e=false->A.units + n < cLine->
  EqAt A s vv uu (decide (d=e))/\RcAt A s vv uu (decide (d=e)):=by
 intro n
 induction n with
 | zero=>
   intro A v u vv uu d e hd I r1 r2 rv ru hc hu
   exact zeW r1 r2 rv ru hc (fun l z=>by subst z; exact absurd hd (by show ¬ deps l + 1<=0; omega)) (fun l z=>by subst z; exact absurd hd (by show ¬ deps l + 1<=0; omega))
 | succ n ih=>
   intro A v u vv uu d e hd I r1 r2 rv ru hc hu
   have hin:A.in1.units + n < cLine:=by show A.units + 1 + n < cLine; omega
   cases r1 with
   | tup e1 q1=>
     cases r2 with
     | tup e2 q2=>
       rename_i a xs l b ys m
       cases rv
       cases ru
       obtain ⟨its,w1,p1,_⟩:=I.tuple (SqT.of e1)
       obtain ⟨its2,w2,p2,_⟩:=I.tuple (SqT.of e2)
       have hdl:deps l<=n:=by have:deps l + 1<=n + 1:=hd; omega
       have el1:its.toArray.size=l.length:=by rw [size_toArray,<- w1.length,q1.len]
       have el2:its2.toArray.size=m.length:=by rw [size_toArray,<- w2.length,q2.len]
       have items:∀ j (h1:j < its.toArray.size) (h2:j < its2.toArray.size),EqAt A.in1 s its.toArray[j] its2.toArray[j] (decide (l[j]?=m[j]?)):=fun j h1 h2=>by
        obtain ⟨x,hx,rx⟩:=zaP w1 h1
        obtain ⟨y,hy,ry⟩:=zaP w2 h2
        have hj1:j < l.length:=by omega
        have hj2:j < m.length:=by omega
        obtain ⟨x',hx',rp1⟩:=q1.get (i:=j) (d:=l[j]) (by simp [hj1])
        obtain ⟨y',hy',rp2⟩:=q2.get (i:=j) (d:=m[j]) (by simp [hj2])
        rw [hx] at hx'; cases hx'
        rw [hy] at hy'; cases hy'
        have:=(ih (A:=A.in1) (le_trans (zdR (l:=l) (j:=j) (by simp [hj1])) hdl) I rp1 rp2 rx ry (zbK (j:=j) (a:=l[j]) (b:=m[j]) (zhj hc) (by simp [hj1]) (by simp [hj2])) hin).1
        have e:decide (l[j]?=m[j]?)=decide (l[j]=m[j]):=by simp [hj1,hj2]
        rw [e]; exact this
       have hrc:RcAt A s (.ref a) (.ref b) (decide (D.tup l=D.tup m)):=by
        have:=RcAt.tuples (s:=s) (show s.heap.IsTuple a its.toArray from p1) (show s.heap.IsTuple b its2.toArray from p2) (by omega) items
        rw [el1,el2,zfz (l:=l) (m:=m) _ rfl] at this
        have e:decide (D.tup l=D.tup m)=decide (l=m):=by by_cases h:l=m <;> simp [h]
        rw [e]; exact this
       refine ⟨?_,hrc⟩
       by_cases hab:a=b
       ·subst hab
        have hxy:l=m:=by
         have z:=Rep.uniq I (.tup e1 q1) (.tup e2 q2) hc
         cases z; rfl
        subst hxy
        simp
        exact EqAt.same _
       ·exact EqAt.of_refs hab hrc
     | _=>cases hc
   | lst e1 q1=>
     cases r2 with
     | lst e2 q2=>
       rename_i a xs l b ys m
       cases rv
       cases ru
       obtain ⟨its,w1,p1,_⟩:=I.list e1
       obtain ⟨its2,w2,p2,_⟩:=I.list e2
       have hdl:deps l<=n:=by have:deps l + 1<=n + 1:=hd; omega
       have el1:its.toArray.size=l.length:=by rw [size_toArray,<- w1.length,q1.len]
       have el2:its2.toArray.size=m.length:=by rw [size_toArray,<- w2.length,q2.len]
       have items:∀ j (h1:j < its.toArray.size) (h2:j < its2.toArray.size),EqAt A.in1 s its.toArray[j] its2.toArray[j] (decide (l[j]?=m[j]?)):=fun j h1 h2=>by
        obtain ⟨x,hx,rx⟩:=zaP w1 h1
        obtain ⟨y,hy,ry⟩:=zaP w2 h2
        have hj1:j < l.length:=by omega
        have hj2:j < m.length:=by omega
        obtain ⟨x',hx',rp1⟩:=q1.get (i:=j) (d:=l[j]) (by simp [hj1])
        obtain ⟨y',hy',rp2⟩:=q2.get (i:=j) (d:=m[j]) (by simp [hj2])
        rw [hx] at hx'; cases hx'
        rw [hy] at hy'; cases hy'
        have hc':clashs l m=false:=hc
        have:=(ih (A:=A.in1) (le_trans (zdR (l:=l) (j:=j) (by simp [hj1])) hdl) I rp1 rp2 rx ry (zbK (j:=j) (a:=l[j]) (b:=m[j]) hc' (by simp [hj1]) (by simp [hj2])) hin).1
        have e:decide (l[j]?=m[j]?)=decide (l[j]=m[j]):=by simp [hj1,hj2]
        rw [e]; exact this
       have hrc:RcAt A s (.ref a) (.ref b) (decide (D.lst l=D.lst m)):=by
        have e:decide (D.lst l=D.lst m)=decide (l=m):=by by_cases h:l=m <;> simp [h]
        rw [e]
        by_cases hlen:l.length=m.length
        ·have:=RcAt.lists (s:=s) p1.isList p2.isList (by omega) (by omega) items
         rw [el1] at this
         have e2:=zfz (l:=l) (m:=m) l.length (by omega)
         have e3:(l.length == m.length)=true:=by simpa using hlen
         rw [e3,Bool.and_true] at e2
         rw [<- e2]; exact this
        ·have:=RcAt.lists_lengths (A:=A) (s:=s) p1.isList p2.isList (by simp only [el1,el2]; simpa using hlen) (by omega)
         have e2:decide (l=m)=false:=decide_eq_false fun z=>hlen (by rw [z])
         rw [e2]; exact this
       refine ⟨?_,hrc⟩
       by_cases hab:a=b
       ·subst hab
        have hxy:l=m:=by
         have z:=Rep.uniq I (.lst e1 q1) (.lst e2 q2) hc
         cases z; rfl
        subst hxy
        simp
        exact EqAt.same _
       ·exact EqAt.of_refs hab hrc
     | _=>cases hc
   | _=>exact zeW (by first | exact .non | exact .bl _ | exact .int _ | (rename_i e z; exact .str e z) | (rename_i e k r; exact .dK e k r) | (rename_i e k r; exact .dT e k r) | (rename_i e r; exact .st e r)) r2 rv ru hc (fun l z=>by cases z) (fun l z=>by cases z)
end
section
variable {X:Cx} {K:W.Frag}
open PySem.SeqAt
open Classical in
def rEqD (K:W.Frag):R2:=fun x y H Q=>∃ p q,Rep K H x p/\Rep K H y q/\clash p q=false/\dep p<=30/\Q (.bl (decide (p=q))) H
theorem zbi (hu:X.A.units + 31 < cLine):OpR X (compareOp .Eq) (rEqD X.K):=by
 intro pins s σ H x y v u Q I rx ry h
 obtain ⟨p,q,r1,r2,hc,hd,hq⟩:=h
 exact (zkw 30 hd I r1 r2 rx ry hc (by omega)).2 X.prog X.w X.xe _ ⟨.bl _,H,I,rfl,hq⟩
theorem zj5 {p q:D} {k:Bool} (h:cEq p q=some k):clash p q=false/\dep p<=30:=by
 unfold cEq at h
 split at h
 ·cases h
 ·rename_i h1
  simp at h1
  exact ⟨h1.1,h1.2⟩
open Classical in
theorem zgV {p q:D} {k:Bool} (h:cEq p q=some k):k=decide (p=q):=by
 unfold cEq at h
 split at h
 ·cases h
 ·exact (Option.some.inj h).symm
theorem zaN:DoesC K (rEqD K) cEq:=by
 intro H x y p q k Q r1 r2 e hq
 obtain ⟨h1,h2⟩:=zj5 e
 have:=zgV e
 subst this
 exact ⟨p,q,r1,r2,h1,h2,hq⟩
open Classical in
def rNeD (K:W.Frag):R2:=fun x y H Q=>∃ p q,Rep K H x p/\Rep K H y q/\clash p q=false/\dep p<=30/\Q (.bl (!decide (p=q))) H
theorem zfE {pins:List (Addr×Obj)} {s:Shared} {σ:St} {H:Hp} {A:Around} {xs ys:List V} {us ws:List Value} {l m:List D} (I:Inv X pins σ H s) (q1:Reps X.K H xs l) (q2:Reps X.K H ys m) (w1:Vals xs us) (w2:Vals ys ws) (hc:clashs l m=false) (hd:deps l<=30) (hu:A.units + 30 < cLine):
  ∀ j (h1:j < us.toArray.size) (h2:j < ws.toArray.size),EqAt A s us.toArray[j] ws.toArray[j] (open Classical in decide (l[j]?=m[j]?)):=fun j h1 h2=>by
 obtain ⟨x,hx,rx⟩:=zaP w1 h1
 obtain ⟨y,hy,ry⟩:=zaP w2 h2
 have el1:us.toArray.size=l.length:=by rw [size_toArray,<- w1.length,q1.len]
 have el2:ws.toArray.size=m.length:=by rw [size_toArray,<- w2.length,q2.len]
 have hj1:j < l.length:=by omega
 have hj2:j < m.length:=by omega
 obtain ⟨x',hx',rp1⟩:=q1.get (i:=j) (d:=l[j]) (by simp [hj1])
 obtain ⟨y',hy',rp2⟩:=q2.get (i:=j) (d:=m[j]) (by simp [hj2])
 rw [hx] at hx'; cases hx'
 rw [hy] at hy'; cases hy'
 have:=(zkw 30 (A:=A) (le_trans (zdR (l:=l) (j:=j) (by simp [hj1])) hd) I rp1 rp2 rx ry (zbK (j:=j) (a:=l[j]) (b:=m[j]) hc (by simp [hj1]) (by simp [hj2])) hu).1
 have e:(open Classical in decide (l[j]?=m[j]?))=(open Classical in decide (l[j]=m[j])):=by simp [hj1,hj2]
 rw [e]; exact this
theorem kindD (p:D):(∃ l,p=.tup l)\/(∃ l,p=.lst l)\/((∀ l,p≠.tup l)/\∀ l,p≠.lst l):=by
 cases p with
 | tup l=>exact .inl ⟨l,rfl⟩
 | lst l=>exact .inr (.inl ⟨l,rfl⟩)
 | _=>exact .inr (.inr ⟨fun l z=>D.noConfusion z,fun l z=>D.noConfusion z⟩)
theorem zlE {l:List D} {q:D} (h:clash (.tup l) q=false):∃ m,q=.tup m:=by
 cases q with
 | tup m=>exact ⟨m,rfl⟩
 | _=>cases h
theorem zkU {l:List D} {q:D} (h:clash (.lst l) q=false):∃ m,q=.lst m:=by
 cases q with
 | lst m=>exact ⟨m,rfl⟩
 | _=>cases h
theorem zlI {K:W.Frag} {H:Hp} {x y:V} {p q:D} (r1:Rep K H x p) (r2:Rep K H y q) (hc:clash p q=false) (h1:∀ l,p≠.tup l) (h2:∀ l,p≠.lst l):scal x y=true/\(p=q↔x=y):=by
 have s1:=znQ r1 hc h1 h2
 have s2:=zj2 r2 s1 hc
 clear r1 r2 h1 h2
 cases s1 with
 | str e1=>
   cases s2 with
   | str e2=>
     rename_i x l y m
     refine ⟨rfl,fun z=>?_,fun z=>?_⟩
     ·obtain ⟨⟨a⟩⟩:=x
      obtain ⟨⟨b⟩⟩:=y
      have a1:a=l:=e1
      have b1:b=m:=e2
      rw [a1,b1,D.str.inj z]
     ·cases z
      rw [<- e1,<- e2]
   | _=>exact ⟨rfl,fun z=>D.noConfusion z,fun z=>V.noConfusion z⟩
 | _=>cases s2 <;> first | exact ⟨rfl,fun z=>D.noConfusion z,fun z=>V.noConfusion z⟩ | exact ⟨rfl,fun z=>by cases z; rfl,fun z=>by cases z; rfl⟩ | cases hc
theorem zb1 (hu:X.A.units + 32 < cLine):OpR X (compareOp .NotEq) (rNeD X.K):=by
 classical
 intro pins s σ H x y v u Q I rx ry h
 obtain ⟨p,q,r1,r2,hc,hd,hq⟩:=h
 have fin:EP X pins σ Q (.bool (!decide (p=q))) s:=⟨.bl _,H,I,rfl,hq⟩
 have hin:X.A.in1.units + 30 < cLine:=by show X.A.units + 1 + 30 < cLine; omega
 rcases kindD p with ⟨l,rfl⟩ | ⟨l,rfl⟩ | ⟨n1,n2⟩
 ·obtain ⟨m,rfl⟩:=zlE hc
  cases r1 with
  | tup e1 q1=>
  cases r2 with
  | tup e2 q2=>
    rename_i a xs b ys
    cases rx
    cases ry
    obtain ⟨its,w1,p1,_⟩:=I.tuple (SqT.of e1)
    obtain ⟨its2,w2,p2,_⟩:=I.tuple (SqT.of e2)
    have hdl:deps l<=30:=by have:deps l + 1<=30:=hd; omega
    have el1:its.toArray.size=l.length:=by rw [size_toArray,<- w1.length,q1.len]
    have el2:its2.toArray.size=m.length:=by rw [size_toArray,<- w2.length,q2.len]
    have:=RcNeAt.tuples (A:=X.A) (s:=s) (show s.heap.IsTuple a its.toArray from p1) (show s.heap.IsTuple b its2.toArray from p2) (by omega) (zfE I q1 q2 w1 w2 hc hdl hin)
    rw [el1,el2,zfz (l:=l) (m:=m) _ rfl] at this
    have e:decide (D.tup l=D.tup m)=decide (l=m):=by by_cases h:l=m <;> simp [h]
    rw [e] at fin
    exact this X.prog X.w X.xe _ fin
 ·obtain ⟨m,rfl⟩:=zkU hc
  cases r1 with
  | lst e1 q1=>
  cases r2 with
  | lst e2 q2=>
    rename_i a xs b ys
    cases rx
    cases ry
    obtain ⟨its,w1,p1,_⟩:=I.list e1
    obtain ⟨its2,w2,p2,_⟩:=I.list e2
    have hdl:deps l<=30:=by have:deps l + 1<=30:=hd; omega
    have el1:its.toArray.size=l.length:=by rw [size_toArray,<- w1.length,q1.len]
    have el2:its2.toArray.size=m.length:=by rw [size_toArray,<- w2.length,q2.len]
    have e:decide (D.lst l=D.lst m)=decide (l=m):=by by_cases h:l=m <;> simp [h]
    rw [e] at fin
    by_cases hlen:l.length=m.length
    ·have:=RcNeAt.lists (A:=X.A) (s:=s) p1.isList p2.isList (by omega) (by omega) (zfE I q1 q2 w1 w2 hc hdl hin)
     rw [el1] at this
     have e2:=zfz (l:=l) (m:=m) l.length (by omega)
     have e3:(l.length == m.length)=true:=by simpa using hlen
     rw [e3,Bool.and_true] at e2
     rw [<- e2] at fin
     exact this X.prog X.w X.xe _ fin
    ·have:=RcNeAt.lists_lengths (A:=X.A) (s:=s) p1.isList p2.isList (by simp only [el1,el2]; simpa using hlen) (by omega)
     have e2:decide (l=m)=false:=decide_eq_false fun z=>hlen (by rw [z])
     rw [e2] at fin
     exact this X.prog X.w X.xe _ fin
 ·obtain ⟨h1,h2⟩:=zlI r1 r2 hc n1 n2
  rw [decide_eq_decide.mpr h2] at hq
  exact zpq pins s σ H x y v u Q I rx ry ⟨h1,hq⟩
theorem za6:DoesC K (rNeD K) cNe:=by
 intro H x y p q k Q r1 r2 e hq
 unfold cNe at e
 cases q1:cEq p q with
 | none=>rw [q1] at e; cases e
 | some b=>
   rw [q1] at e
   have e':(!b)=k:=Option.some.inj e
   obtain ⟨h1,h2⟩:=zj5 q1
   have:=zgV q1
   subst this
   subst e'
   exact ⟨p,q,r1,r2,h1,h2,hq⟩
def rOrd (f:Int->Int->Bool) (g:List Nat->List Nat->Bool):R2:=fun x y H Q=>(∃ i j,x=.int i/\y=.int j/\Q (.bl (f i j)) H)\/∃ i j,x=.str i/\y=.str j/\Q (.bl (g i.cps.toList j.cps.toList)) H
theorem zdM {op:CmpOp} {g:List Nat->List Nat->Bool} (rule:∀ (i j:Str) (t u:Tok) (s:Shared) (Q:Value->Shared->Prop) (E:Value->Shared->Prop),Q (.bool (g i.cps.toList j.cps.toList)) s->wpAny (model X.prog X.w) X.A (compareOp op (.str i t) (.str j u)) Q E s):
  OpR X (compareOp op) (fun x y H Q=>∃ i j,x=.str i/\y=.str j/\Q (.bl (g i.cps.toList j.cps.toList)) H):=by
 intro pins s σ H x y v u Q I rx ry h
 obtain ⟨i,j,rfl,rfl,q⟩:=h
 obtain ⟨t,rfl⟩:=rx
 obtain ⟨t',rfl⟩:=ry
 exact rule i j t t' s _ _ ⟨.bl _,H,I,rfl,q⟩
theorem zhl:OpR X (compareOp .Lt) (rOrd (fun i j=>decide (i < j)) fun l m=>decide (l < m)):=FL.OpR.or zoI (zdM (g:=fun l m=>decide (l < m)) fun _ _ _ _ _ _ _ q=>PyProof.Rows.lt_str q)
theorem zl9:OpR X (compareOp .LtE) (rOrd (fun i j=>decide (i<=j)) fun l m=>!decide (m < l)):=FL.OpR.or zpf (zdM (g:=fun l m=>!decide (m < l)) fun _ _ _ _ _ _ _ q=>PySem.P.le_str q)
theorem zea:OpR X (compareOp .Gt) (rOrd (fun i j=>decide (j < i)) fun l m=>decide (m < l)):=FL.OpR.or zqC (zdM (g:=fun l m=>decide (m < l)) fun _ _ _ _ _ _ _ q=>PySem.P.gt_str q)
theorem zj6:OpR X (compareOp .GtE) (rOrd (fun i j=>decide (j<=i)) fun l m=>!decide (l < m)):=FL.OpR.or zqp (zdM (g:=fun l m=>!decide (l < m)) fun _ _ _ _ _ _ _ q=>PySem.P.ge_str q)
theorem zch {f:Int->Int->Bool} {g:List Nat->List Nat->Bool} {o:D->D->Option Bool} (h:∀ p q k,o p q=some k->(∃ i j,p=.int i/\q=.int j/\k=f i j)\/∃ l m,p=.str l/\q=.str m/\k=g l m):DoesC K (rOrd f g) o:=by
 intro H x y p q k Q r1 r2 e hq
 rcases h p q k e with ⟨i,j,rfl,rfl,rfl⟩ | ⟨l,m,rfl,rfl,rfl⟩
 ·cases r1
  cases r2
  exact .inl ⟨i,j,rfl,rfl,hq⟩
 ·cases r1 with
  | str e1 z1=>cases r2 with
    | str e2 z2=>
      subst e1 e2
      exact .inr ⟨_,_,rfl,rfl,hq⟩
theorem ze3:DoesC K (rOrd (fun i j=>decide (i < j)) fun l m=>decide (l < m)) cLt:=zch fun p q k e=>by
 unfold cLt ltD at e
 split at e
 ·exact .inl ⟨_,_,rfl,rfl,(Option.some.inj e).symm⟩
 ·exact .inr ⟨_,_,rfl,rfl,(Option.some.inj e).symm⟩
 ·cases e
theorem zcK:DoesC K (rOrd (fun i j=>decide (j < i)) fun l m=>decide (m < l)) cGt:=zch fun p q k e=>by
 unfold cGt ltD at e
 split at e
 ·exact .inl ⟨_,_,rfl,rfl,(Option.some.inj e).symm⟩
 ·exact .inr ⟨_,_,rfl,rfl,(Option.some.inj e).symm⟩
 ·cases e
theorem zk5:DoesC K (rOrd (fun i j=>decide (i<=j)) fun l m=>!decide (m < l)) cLe:=zch fun p q k e=>by
 unfold cLe at e
 split at e
 ·exact .inl ⟨_,_,rfl,rfl,(Option.some.inj e).symm⟩
 ·exact .inr ⟨_,_,rfl,rfl,(Option.some.inj e).symm⟩
 ·cases e
theorem zhJ:DoesC K (rOrd (fun i j=>decide (j<=i)) fun l m=>!decide (l < m)) cGe:=zch fun p q k e=>by
 unfold cGe at e
 split at e
 ·exact .inl ⟨_,_,rfl,rfl,(Option.some.inj e).symm⟩
 ·exact .inr ⟨_,_,rfl,rfl,(Option.some.inj e).symm⟩
 ·cases e
end
section
variable {X:Cx} {K:W.Frag}
open PySem.SeqAt
open Classical in
def rInD (K:W.Frag) (neg:Bool):R2:=fun x y H Q=>∃ p l,Rep K H x p/\(Rep K H y (.lst l)\/Rep K H y (.tup l))/\(∀ d∈l,clash d p=false/\dep d<=30)/\Q (.bl (if neg then !decide (p∈l) else decide (p∈l))) H
theorem zcn {pins:List (Addr×Obj)} {s:Shared} {σ:St} {H:Hp} {A:Around} {x:V} {v:Value} {xs:List V} {us:List Value} {l:List D} {p:D} (I:Inv X pins σ H s) (rx:RelV x v) (r1:Rep X.K H x p) (q1:Reps X.K H xs l) (w1:Vals xs us) (hc:∀ d∈l,clash d p=false/\dep d<=30) (hu:A.units + 30 < cLine):
  ∃ e:Value->Bool,(∀ y,y∈us.toArray->EqAt A s y v (e y))/\us.toArray.any e=(open Classical in decide (p∈l)):=by
 classical
 have item:∀ {y:Value},y∈us->∃ z d,RelV z y/\Rep X.K H z d/\d∈l:=fun {y} hy=>by
  obtain ⟨j,hj,e⟩:=List.getElem_of_mem hy
  obtain ⟨z,hz,rz⟩:=zaP (j:=j) w1 (by simpa using hj)
  have hl:j < l.length:=by rw [<- q1.len,w1.length]; exact hj
  obtain ⟨z',hz',rp⟩:=q1.get (i:=j) (d:=l[j]) (by simp [hl])
  rw [hz] at hz'; cases hz'
  refine ⟨z,l[j],?_,rp,by simp⟩
  have:us.toArray[j]=y:=by simpa using e
  rw [<- this]; exact rz
 refine ⟨fun y=>decide (∃ z,RelV z y/\Rep X.K H z p),fun y hy=>?_,?_⟩
 ·have hy':y∈us:=by simpa using hy
  obtain ⟨z,d,rz,rp,hd⟩:=item hy'
  have hcd:=hc d hd
  have:=(zkw 30 (A:=A) hcd.2 I rp r1 rz rx hcd.1 hu).1
  have e:decide (d=p)=decide (∃ z,RelV z y/\Rep X.K H z p):=by
   by_cases h:d=p
   ·subst h
    rw [decide_eq_true rfl,decide_eq_true ⟨z,rz,rp⟩]
   ·rw [decide_eq_false h]
    refine (decide_eq_false ?_).symm
    rintro ⟨z',rz',rp'⟩
    have:z=z':=rz.inj rz'
    subst this
    exact h (Rep.uniq I rp rp' hcd.1)
  show EqAt A s y v (decide (∃ z,RelV z y/\Rep X.K H z p))
  rw [<- e]; exact this
 ·by_cases h:p∈l
  ·rw [decide_eq_true h]
   obtain ⟨j,hj,e⟩:=List.getElem_of_mem h
   obtain ⟨z,hz,rp⟩:=q1.get (i:=j) (d:=l[j]) (by simp [hj])
   obtain ⟨u,hu',ru⟩:=w1.get hz
   rw [Array.any_eq_true']
   exact ⟨u,by simpa using mem_of_getElem? hu',decide_eq_true ⟨z,ru,e ▸ rp⟩⟩
  ·rw [decide_eq_false h]
   rw [Array.any_eq_false']
   intro y hy z
   obtain ⟨z',rz',rp'⟩:=of_decide_eq_true z
   obtain ⟨z2,d,rz,rp,hd⟩:=item (y:=y) (by simpa using hy)
   have:z2=z':=rz.inj rz'
   subst this
   exact h (Rep.uniq I rp rp' (hc d hd).1 ▸ hd)
theorem znD (hu:X.A.units + 32 < cLine):OpR X (compareOp .In) (rInD X.K false):=by
 intro pins s σ H x y v u Q I rx ry h
 obtain ⟨p,l,r1,r2,hc,hq⟩:=h
 have hin:X.A.in1.units + 30 < cLine:=by show X.A.units + 1 + 30 < cLine; omega
 rcases r2 with r2 | r2
 ·cases r2 with
  | lst e q=>
    cases ry
    obtain ⟨its,w1,p1,_⟩:=I.list e
    obtain ⟨f,hf,ha⟩:=zcn (A:=X.A.in1) I rx r1 q w1 hc hin
    exact in_listAt f p1.isList hf ⟨.bl _,H,I,rfl,by rw [ha]; exact hq⟩
 ·cases r2 with
  | tup e q=>
    cases ry
    obtain ⟨its,w1,p1,_⟩:=I.tuple (SqT.of e)
    obtain ⟨f,hf,ha⟩:=zcn (A:=X.A.in1) I rx r1 q w1 hc hin
    exact in_tupleAt f (show s.heap.IsTuple _ its.toArray from p1) hf ⟨.bl _,H,I,rfl,by rw [ha]; exact hq⟩
theorem zhV (hu:X.A.units + 32 < cLine):OpR X (compareOp .NotIn) (rInD X.K true):=by
 intro pins s σ H x y v u Q I rx ry h
 obtain ⟨p,l,r1,r2,hc,hq⟩:=h
 have hin:X.A.in1.units + 30 < cLine:=by show X.A.units + 1 + 30 < cLine; omega
 rcases r2 with r2 | r2
 ·cases r2 with
  | lst e q=>
    cases ry
    obtain ⟨its,w1,p1,_⟩:=I.list e
    obtain ⟨f,hf,ha⟩:=zcn (A:=X.A.in1) I rx r1 q w1 hc hin
    exact notIn_listAt f p1.isList hf ⟨.bl _,H,I,rfl,by rw [ha]; exact hq⟩
 ·cases r2 with
  | tup e q=>
    cases ry
    obtain ⟨its,w1,p1,_⟩:=I.tuple (SqT.of e)
    obtain ⟨f,hf,ha⟩:=zcn (A:=X.A.in1) I rx r1 q w1 hc hin
    exact notIn_tupleAt f (show s.heap.IsTuple _ its.toArray from p1) hf ⟨.bl _,H,I,rfl,by rw [ha]; exact hq⟩
end
section
variable {K:W.Frag} {F H G:Hp} {σ:St} {U:Env}
theorem zid {α β:Type} {xs:List α} {l:List β} {i:Int} {d:β} (hl:xs.length=l.length) (h:atI l i=some d):∃ j,ixN l.length i=some j/\l[j]?=some d/\∀ x,xs[j]?=some x->L2.atI xs i=some x:=by
 unfold atI at h
 cases q:ixN l.length i with
 | none=>rw [q] at h; cases h
 | some j=>
   rw [q] at h
   refine ⟨j,rfl,h,fun x hx=>?_⟩
   have e:L2.ixN xs.length i=some j:=by rw [hl]; exact q
   unfold L2.atI
   rw [e]; exact hx
theorem Reps.atI {xs:List V} {l:List D} {i:Int} {d:D} (r:Reps K F xs l) (h:FL.atI l i=some d):∃ x,L2.atI xs i=some x/\Rep K F x d:=by
 obtain ⟨j,_,h1,h2⟩:=zid (xs:=xs) r.len h
 obtain ⟨x,hx,rx⟩:=r.get h1
 exact ⟨x,h2 x hx,rx⟩
theorem SReps.get {xs:List V} {l:List S} {fp:List Addr} {j:Nat} {t:S} (r:SReps K F H xs l fp) (h:l[j]?=some t):∃ x fa fi fb,xs[j]?=some x/\SRep K F H x t fi/\fp=fa++(fi++fb):=
 SReps.ind (P:=fun xs l fp=>∀ j t,l[j]?=some t->∃ x fa fi fb,xs[j]?=some x/\SRep K F H x t fi/\fp=fa++(fi++fb)) (fun _ _ e=>by cases e) (fun a _ ih j t e=>by
  cases j with
  | zero=>cases e; exact ⟨_,[],_,_,rfl,a,rfl⟩
  | succ j=>
    obtain ⟨x,fa,fi,fb,h1,h2,rfl⟩:=ih j t e
    exact ⟨x,_++fa,fi,fb,h1,h2,(append_assoc ..).symm⟩) r j t h
theorem Rel.item {l:List S} {a:Addr} {j:Nat} {t:S} (r:Rel K (U++[some (.lst l)]) (σ++[some (.ref a)]) F G H) (h:l[j]?=some t):∃ xs x,H a=some (.lst xs)/\xs.length=l.length/\xs[j]?=some x/\Rel K (U++[some t]) (σ++[some x]) F G H:=by
 obtain ⟨fp,e,nd,ap⟩:=r.en
 obtain ⟨f1,f2,rfl,en,b⟩:=e.cut (len1 r)
 cases b with
 | so sr nl=>
   cases nl
   cases sr with
   | lst hD rl=>
     rename_i xs fl
     obtain ⟨x,fa,fi,fb,h1,h2,rfl⟩:=rl.get h
     refine ⟨xs,x,hD,rl.len,h1,r.fr,r.gr,f1++(fi++[]),en.app (.so h2 .nil),?_,fun y hy=>ap y ?_⟩
     ·have sub:List.Sublist (f1++(fi++[])) (f1++(a::(fa++(fi++fb))++[])):=by
       refine List.Sublist.append (List.Sublist.refl _) ?_
       simp only [append_nil]
       exact (List.Sublist.cons _ ((List.sublist_append_left fi fb).trans (List.sublist_append_right fa _)))
      exact sub.nodup nd
     ·rcases mem_append.mp hy with z | z
      ·exact mem_append_left _ z
      ·refine mem_append_right _ ?_
       simp only [append_nil] at z ⊢
       exact mem_cons_of_mem _ (mem_append_right _ (mem_append_left _ z))
end
section
variable {X:Cx} {a b:Expr} {wa wb:WE} {pos:Pos}
theorem zky {K:W.Frag} {F H:Hp} {c:Addr} {xs:List V} {l:List D} {i:Int} {d:D} {Q:VK} (e:SqT K H c xs) (r:Reps K F xs l) (h:atI l i=some d) (hq:∀ x,Rep K F x d->Q x H):rIx K (.ref c) (.int i) H Q:=by
 obtain ⟨x,hx,rx⟩:=r.atI h
 exact .inr (.inl ⟨c,xs,i,x,rfl,rfl,e,hx,hq x rx⟩)
theorem zkD {K:W.Frag} {F H:Hp} {c:Addr} {xs:List V} {l:List D} {i:Int} {d:D} {Q:VK} (e:SqL K H c xs) (r:Reps K F xs l) (h:atI l i=some d) (hq:∀ x,Rep K F x d->Q x H):rIx K (.ref c) (.int i) H Q:=by
 obtain ⟨x,hx,rx⟩:=r.atI h
 exact .inl ⟨c,xs,i,x,rfl,rfl,e,hx,hq x rx⟩
theorem zkM {s t:S} {q:D} (h:ixS s q=some t):(∃ l i d,s=.sh (.tup l)/\q=.int i/\atI l i=some d/\t=.sh d)\/(∃ l i d,s=.sh (.lst l)/\q=.int i/\atI l i=some d/\t=.sh d)\/
  (∃ l i c,s=.sh (.str l)/\q=.int i/\atI l i=some c/\t=.sh (.str [c]))\/∃ l i,s=.lst l/\q=.int i/\atI l i=some t:=by
 unfold ixS at h
 split at h
 ·obtain ⟨d,e,e'⟩:=map_eq_some_iff.mp h
  exact .inl ⟨_,_,d,rfl,rfl,e,e'.symm⟩
 ·obtain ⟨d,e,e'⟩:=map_eq_some_iff.mp h
  exact .inr (.inl ⟨_,_,d,rfl,rfl,e,e'.symm⟩)
 ·obtain ⟨d,e,e'⟩:=map_eq_some_iff.mp h
  exact .inr (.inr (.inl ⟨_,_,d,rfl,rfl,e,e'.symm⟩))
 ·exact .inr (.inr (.inr ⟨_,_,rfl,rfl,h⟩))
 ·cases h
theorem zeS {K:W.Frag} {F H:Hp} {v:V} {d:D} {fp:List Addr} (h:SRep K F H v (.sh d) fp):Rep K F v d:=by cases h; assumption
theorem zfP {K:W.Frag} {F H:Hp} {v:V} {l:List S} {fp:List Addr} (h:SRep K F H v (.lst l) fp):∃ a xs fq,v=.ref a/\H a=some (.lst xs)/\SReps K F H xs l fq:=by
 cases h with
 | lst h1 h2=>exact ⟨_,_,_,rfl,h1,h2⟩
theorem zka {K:W.Frag} {F F2 H:Hp} {v u:V} {d q:D} {t:S} {Q:VK} (fr:Same F H) (r:Rep K F v d) (ru:Rep K F2 u q) (et:ixS (.sh d) q=some t) (done:∀ e x,t=.sh e->Rep K F x e->Q x H):rIx K v u H Q:=by
 rcases zkM et with ⟨l,i,e,e1,rfl,ed,rfl⟩ | ⟨l,i,e,e1,rfl,ed,rfl⟩ | ⟨l,i,c,e1,rfl,ec,rfl⟩ | ⟨l,i,e1,_⟩
 ·injection e1 with e1
  subst e1
  obtain rfl:=RepE.int (H:=H) (.inl ru)
  obtain ⟨a,xs,rfl,h1,r1⟩:=RepE.tup (H:=H) (.inl r)
  exact zky (SqT.of (fr _ _ h1)) r1 ed fun x rx=>done _ x rfl rx
 ·injection e1 with e1
  subst e1
  obtain rfl:=RepE.int (H:=H) (.inl ru)
  obtain ⟨a,xs,rfl,h1,r1⟩:=RepE.lst (H:=H) fr (.inl r)
  exact zkD h1 r1 ed fun x rx=>done _ x rfl rx
 ·injection e1 with e1
  subst e1
  obtain rfl:=RepE.int (H:=H) (.inl ru)
  obtain ⟨x,rfl,h1,z⟩:=RepE.str (H:=H) (.inl r)
  exact .inr (.inr ⟨_,i,c,rfl,rfl,by rw [zb9 h1,sizeLine_eq]; exact z,by rw [h1]; exact ec,done _ _ rfl (.str rfl (by show 1<=_; decide))⟩)
 ·cases e1
theorem zhw {l:List S} {q:D} {t:S} (h:ixS (.lst l) q=some t):∃ i,q=.int i/\atI l i=some t:=by
 cases q with
 | int i=>exact ⟨i,rfl,h⟩
 | _=>cases h
theorem zax (ha:FE X a wa) (hb:FE X b wb) (hs:PlainIx b:=by intro _ _; rfl):FE X (.Subscript a b pos) (wIx wa wb):=fun pn xe hp=>by
 refine PE.imp (zkk (zj8 (X:=wp X pn xe)) (ha pn xe hp) (hb pn xe hp) hs) fun σ H Q q=>?_
 refine (two (k:=fun x y U2 Q E=>need (view y U2) fun q=>match x with
  | .v s=>need (ixS s q) fun t=>Q (.v t) U2
  | .loc i=>match slot U2 i with
    | some s=>match ixS s q with
      | some (.sh d)=>Q (.v (.sh d)) U2
      | _=>False
    | none=>False) q).mono fun v H1 h1=>h1.mono fun u H2 h2=>?_
 obtain ⟨F,G,U,x,y,P,PX,rel,hl,rx,ry,hk,hok,hx⟩:=h2
 obtain ⟨q,eq,hk⟩:=zad hk
 have relx:Rel X.K (U++[slotOf x]) (σ++[some v]) F G H2:=by
  have:=Rel.swap (U1:=[slotOf x]) (σ1:=[some v]) (U2:=[slotOf y]) (σ2:=[some u]) hl rfl rel
  exact Rel.mid (U:=U) (σ:=σ) this hl
 have rely:Rel X.K (U++[slotOf y]) (σ++[some u]) F G H2:=rel.mid hl
 have ru:=look (U':=[]) (σ':=[]) rely hl ry eq
 have done:∀ {d:D} {x:V},P (.v (.sh d)) U->Rep X.K F x d->Q x H2:=fun hP r=>hok _ U _ F H2 hP (Same.refl F) ((relx.drop hl).push r) trivial
 cases x with
 | v s=>
   obtain ⟨t,et,hP⟩:=zad hk
   obtain ⟨w,fp,e1,sr⟩:=relx.at (i:=U.length) (s:=s) zaA
   rw [hl,getElem?_append_right (le_refl _),sub_self] at e1
   have e2:v=w:=by simpa using e1
   subst e2
   cases s with
   | sh d=>exact zka relx.fr (zeS sr) ru et fun e x z rx=>done (by rw [<- z]; exact hP) rx
   | lst l=>
     obtain ⟨i,rfl,et⟩:=zhw et
     obtain rfl:=RepE.int (H:=H2) (.inl ru)
     obtain ⟨a,ys,fq,rfl,hD,rl⟩:=zfP sr
     obtain ⟨j,_,hj,hat⟩:=zid rl.len et
     obtain ⟨xs,x,hD',hlen,hxj,r2⟩:=Rel.item relx hj
     rw [hD] at hD'
     cases hD'
     exact .inl ⟨_,_,i,x,rfl,rfl,SqL.of hD,hat x hxj,hok _ U _ F H2 hP (Same.refl F) r2 trivial⟩
   | _=>cases q <;> cases et
 | loc k=>
   dsimp only at hk
   cases qs:slot U k with
   | none=>rw [qs] at hk; exact hk.elim
   | some s=>
     rw [qs] at hk
     dsimp only at hk
     split at hk
     ·rename_i d et
      obtain ⟨w,fp,e1,sr⟩:=(relx.drop hl).at qs
      have rx':σ[k]?=some (some v):=rx
      rw [rx'] at e1
      have e2:v=w:=by simpa using e1
      subst e2
      cases s with
      | sh d'=>exact zka relx.fr (zeS sr) ru et fun e x z rx=>done (by injection z with z; rw [<- z]; exact hk) rx
      | lst l=>
        obtain ⟨i,rfl,et⟩:=zhw et
        obtain rfl:=RepE.int (H:=H2) (.inl ru)
        obtain ⟨a,ys,fq,rfl,hD,rl⟩:=zfP sr
        obtain ⟨j,_,hj,hat⟩:=zid rl.len et
        obtain ⟨x,fa,fi,fb,hxj,sx,_⟩:=rl.get hj
        exact .inl ⟨_,_,i,x,rfl,rfl,SqL.of hD,hat x hxj,done hk (zeS sx)⟩
      | _=>cases q <;> cases et
     ·exact hk.elim
end
section
variable {K:W.Frag} {F H G:Hp} {σ:St} {U:Env}
theorem SReps.set:∀ {xs:List V} {l:List S} {fp:List Addr} {m:Nat},SReps K F H xs l fp->m < l.length->∃ fa fi fb,fp=fa++(fi++fb)/\
  ∀ {H':Hp} {v:V} {s:S} {fq:List Addr},(∀ a∈fa++fb,H' a=H a)->SRep K F H' v s fq->SReps K F H' (xs.set m v) (l.set m s) (fa++(fq++fb))
 | _,_,_,_,.nil,h=>by simp at h
 | _,_,_,0,.cons (fp:=fp) (fq:=fq) a b,h=>⟨[],fp,fq,rfl,fun hk r=>by rw [nil_append]; exact .cons r (b.mono (Same.refl F) fun c hc=>hk c hc)⟩
 | _,_,_,m + 1,.cons (fp:=fp) (fq:=fq) a b,h=>by
   obtain ⟨fa,fi,fb,rfl,up⟩:=SReps.set (m:=m) b (by simpa using h)
   refine ⟨fp++fa,fi,fb,(append_assoc ..).symm,fun hk r=>?_⟩
   rw [append_assoc]
   exact .cons (a.mono (Same.refl F) fun c hc=>hk c (mem_append_left _ (mem_append_left _ hc))) (up (fun c hc=>hk c ((mem_append.mp hc).elim (fun z=>mem_append_left _ (mem_append_right _ z)) fun z=>mem_append_right _ z)) r)
theorem zdy {σ:St} {n:Nat} {v:V} (h:σ[n]?=some (some v)):σ.set n (some v)=σ:=by
 apply ext_getElem?
 intro j
 by_cases hj:n=j
 ·subst hj
  rw [getElem?_set_self (List.getElem?_eq_some_iff.mp h).1,h]
 ·rw [getElem?_set_ne hj]
theorem Rel.setItem {n m:Nat} {l:List S} {s:S} {v:V} {D:Addr} (r:Rel K (U++[some s]) (σ++[some v]) F G H) (hs:slot U n=some (.lst l)) (hσ:σ[n]?=some (some (.ref D))) (hm:m < l.length):
  ∃ xs,H D=some (.lst xs)/\xs.length=l.length/\Rel K (U.set n (some (.lst (l.set m s)))) σ F G (upd H D (.lst (xs.set m v))):=by
 have hl:=len1 r
 obtain ⟨fp,e,nd,ap⟩:=r.en
 obtain ⟨f1,f2,rfl,a,b⟩:=e.cut hl
 obtain ⟨v',fa,fi,fb,e1,rfl,q,up⟩:=a.at hs
 rw [hσ] at e1
 have e2:V.ref D=v':=by simpa using e1
 subst e2
 cases q with
 | lst hD rl=>
   rename_i xs fl
   cases b with
   | so sr nl=>
     cases nl
     rename_i fs
     obtain ⟨ga,gi,gb,rfl,sup⟩:=rl.set hm
     refine ⟨xs,hD,rl.len,?_⟩
     obtain ⟨n1,n2,n12⟩:=nodup_append.mp nd
     obtain ⟨na,nib,nab⟩:=nodup_append.mp n1
     obtain ⟨ni,nb,nib⟩:=nodup_append.mp nib
     obtain ⟨nD,nfl⟩:=nodup_cons.mp ni
     have hDa:D∉fa:=fun z=>nab D z D (mem_append_left _ mem_cons_self) rfl
     have hDb:D∉fb:=fun z=>nib D mem_cons_self D z rfl
     have hDs:D∉fs:=fun z=>n12 D (mem_append_right _ (mem_append_left _ mem_cons_self)) D (by simpa using z) rfl
     have apD:=ap D (mem_append_left _ (mem_append_right _ (mem_append_left _ mem_cons_self)))
     have ne:∀ {l:List Addr},D∉l->∀ x∈l,upd H D (.lst (xs.set m v)) x=H x:=fun h x hx=>zag fun z=>h (z ▸ hx)
     have hDg:D∉ga++gb:=fun z=>nD ((mem_append.mp z).elim (fun w=>mem_append_left _ w) fun w=>mem_append_right _ (mem_append_right _ w))
     have new:SRep K F (upd H D (.lst (xs.set m v))) (.ref D) (.lst (l.set m s)) (D::(ga++(fs++gb))):=.lst zam (sup (ne hDg) (sr.mono (Same.refl F) (ne hDs)))
     have a2:=up (F':=F) (H':=upd H D (.lst (xs.set m v))) (o:=some (.lst (l.set m s))) (u:=some (.ref D)) (Same.refl F) (fun x hx=>zag fun z=>(mem_append.mp hx).elim (fun w=>hDa (z ▸ w)) fun w=>hDb (z ▸ w)) (.so new .nil)
     rw [zdy hσ] at a2
     have sub:∃ l2,l2.Perm (fa++((D::(ga++(gi++gb)))++fb)++(fs++[]))/\List.Sublist (fa++((D::(ga++(fs++gb)))++[]++fb)) l2:=by
      refine ⟨fa++((D::(ga++(fs++(gi++gb))))++[]++fb),?_,?_⟩
      ·simp only [append_nil,append_assoc,cons_append]
       refine List.Perm.append_left _ (List.Perm.cons _ (List.Perm.append_left _ ?_))
       exact perm_append_comm.trans (by simp)
      ·simp only [append_nil,append_assoc,cons_append]
       refine List.Sublist.append (List.Sublist.refl _) (List.Sublist.cons_cons _ (List.Sublist.append (List.Sublist.refl _) (List.Sublist.append (List.Sublist.refl _) (List.sublist_append_right _ _))))
     obtain ⟨l2,p,sb⟩:=sub
     refine ⟨Same.updR r.fr apD.1,fun x o w=>?_,_,a2,sb.nodup (p.nodup_iff.mpr nd),fun x hx=>ap x (p.mem_iff.mp (sb.subset hx))⟩
     have hx:x≠D:=fun z=>by rw [z,apD.2] at w; cases w
     rw [zag hx]
     exact r.gr x o w
end
section
variable {X:Cx} {ks:List Nat} {pos tpos:Pos}
theorem zfv {j:Nat} {o i e:Expr} {wi we:WE} (ho:FE X o (wVar j)) (hi:FE X i wi) (he:FE X e we) (hs:swapsWithSole [.Subscript o i tpos] e pos.line X.env=pure false:=by rfl) (hw:swappedStores [.Subscript o i tpos] e X.env=pure none:=by rfl)
  (h1:(assignEach [.Subscript o i tpos] X.env).map (·.2)=[assign (.Subscript o i tpos) X.env]:=by rfl)
  (ha:∀ v,assign (.Subscript o i tpos) X.env v=(do
   let ov <- holding [v] (eval o X.env)
   let iv <- holding [v,ov] (eval i X.env)
   standAt tpos
   holding [v,ov,iv] (setItem ov iv v)
   release [v,ov,iv] []):=by intro _; rfl):FS X ks (.Assign [.Subscript o i tpos] e pos) (wSetIx j wi we):=fun pn xe hp=>by
 refine PS.imp (zkg (X:=wp X pn xe) (he pn xe hp) (znY (X:=wp X pn xe) (ho pn xe hp) (hi pn xe hp) ziI ha) hs hw h1) fun D σ H q=>?_
 obtain ⟨F,G,U,E,rel,hw,n,b,c,r,x⟩:=q
 have x0:XC (wp X pn xe) (·=σ) F G E.ex:=x.mono (fun σ2 z=>by rw [z]; exact KP.refl) (Same.refl F) (Same.refl G)
 refine ⟨F,G,U,_,_,rel,hw,fun r U1 v F1 H1 hk s1 r1 rv=>?_,x0⟩
 have l1:=len1 r1
 obtain ⟨G1,rel1,gg,back⟩:=r1.hide l1
 refine ⟨F1,G1,U1,_,_,rel1,hk,fun y U2 o' F2 H2 hk2 s2 r2 rv2=>?_,x0.mono (fun _ z=>z) s1 gg⟩
 have l2:=len1 r2
 obtain ⟨G2,rel2,gg2,back2⟩:=r2.hide l2
 refine ⟨F2,G2,U2,_,_,rel2,hk2,fun z U3 i' F3 H3 hk3 s3 r3 rv3=>?_,x0.mono (fun _ z=>z) (s1.trans s2) (gg.trans gg2)⟩
 have l3:=len1 r3
 obtain ⟨q,eq,hk3⟩:=zad hk3
 obtain ⟨⟨t,U4⟩,eg,hk4⟩:=zad hk3
 -- all three stand at the end
 have r4:=back (s2.trans s3) (back2 s3 r3)
 simp only [append_assoc,cons_append,nil_append] at r4
 have ri:=look (U':=[slotOf y,slotOf r]) (σ':=[some o',some v]) r4 l3 rv3 eq
 have r5:Rel X.K (U3++[slotOf r]) (σ++[some v]) F3 G H3:=Rel.mid (U:=U3) (σ:=σ) (Rel.mid (U:=U3) (σ:=σ) r4 l3) l3
 obtain ⟨F4,s4,l4,r6⟩:=giveR (U':=[]) (σ':=[]) r5 l3 rv eg
 cases y with
 | v y0=>exact hk4.elim
 | loc k=>
   cases q with
   | int m=>
     cases qs:slot U4 j with
     | none=>simp only [qs] at hk4
     | some sj=>
       cases sj with
       | lst l=>
         simp only [qs] at hk4
         obtain ⟨rfl,hk4⟩:=hk4
         obtain ⟨w,ew,hnx⟩:=zad hk4
         have hσ:σ[k]?=some (some o'):=rv2
         obtain ⟨v',fp,e1,sr⟩:=r6.at (i:=k) (s:=.lst l) (by rw [zbR (zb7 qs)]; exact qs)
         have hkl:k < σ.length:=(List.getElem?_eq_some_iff.mp hσ).1
         rw [getElem?_append_left hkl,hσ] at e1
         have e2:o'=v':=by simpa using e1
         subst e2
         have hw:w < l.length:=by
          unfold ixN at ew
          split at ew
          ·split at ew
           ·have e:=Option.some.inj ew
            omega
           ·cases ew
          ·split at ew
           ·have e:=Option.some.inj ew
            omega
           ·cases ew
         cases sr with
         | lst hD rl=>
           rename_i a xs fl
           obtain ⟨xs',hD',hlen,r7⟩:=Rel.setItem r6 qs hσ hw
           rw [hD] at hD'
           cases hD'
           cases ri
           exact ⟨a,xs,m,w,rfl,rfl,hD,by rw [hlen]; exact ew,n _ σ F4 _ hnx KP.refl (s1.trans (s2.trans (s3.trans s4))) r7⟩
       | _=>simp only [qs] at hk4
   | _=>exact hk4.elim
theorem zaJ {j:Nat} {o e:Expr} {we:WE} {apos cpos:Pos} (ho:FE X o (wVar j)) (he:FE X e we)
  (hbase:attributeBase o "append" X.env (eval o X.env)=eval o X.env:=by rfl)
  (hfew:((backTo cpos (starEach [e] X.env)).all (fun x=>!x.1) && (backToKw cpos (keywordEach [] X.env)).all (fun x=>x.1.isSome)
   && decide ([e].length + ([]:List Keyword).length + (if ([]:List Keyword).isEmpty then 0 else 1) < 30))=true:=by rfl)
  (hline:(apos.endLine == cpos.line)=true:=by rfl) (hs:starEach [e] X.env=[(false,eval e X.env)]:=by rfl):FE X (.Call (.Attribute o "append" apos) [e] [] cpos) (wAppend j we):=fun pn xe hp=>by
 refine PE.imp (zgR (X:=wp X pn xe) PySem.F.plainAttrs_list PySem.F.slot_list_append PySem.F.type_list_append zcN (ho pn xe hp) (zaa he zab hs pn xe hp) hbase hfew hline hs rfl) fun σ H Q q=>?_
 obtain ⟨F,G,U,P,PX,rel,hw,hok,hx⟩:=q
 have hw':(match slot U j with
  | some (.lst _)=>we U (fun r U2=>need (give r U2) fun p=>(match slot p.2 j with
    | some (.lst l)=>l.length < big/\P (.v (.sh .non)) (p.2.set j (some (.lst (l++[p.1]))))
    | _=>False)) PX
  | _=>False):=hw
 cases qs:slot U j with
 | none=>rw [qs] at hw'; exact hw'.elim
 | some s0=>
   cases s0 with
   | lst l0=>
     rw [qs] at hw'
     refine ⟨F,G,U,fun y U1=>y=.loc j/\U1=U,PX,rel,by unfold wVar; rw [qs]; exact ⟨rfl,rfl⟩,fun y U1 o' F1 H1 hk s1 r1 rv=>?_,hx⟩
     obtain ⟨rfl,rfl⟩:=hk
     have l1:=len1 r1
     have hσ:σ[j]?=some (some o'):=rv
     have r2:=r1.drop l1
     obtain ⟨v',fp,e1,sr⟩:=r2.at qs
     rw [hσ] at e1
     have e2:o'=v':=by simpa using e1
     subst e2
     cases sr with
     | lst hD rl=>
       rename_i a xs fl
       refine ⟨.inl ⟨rfl,_,SqL.of hD⟩,F1,G,U1,fun rs U2=>match rs with | [r]=>(need (give r U2) fun p=>match slot p.2 j with | some (.lst l)=>l.length < big/\P (.v (.sh .non)) (p.2.set j (some (.lst (l++[p.1])))) | _=>False) | _=>False,PX,r2,hw',fun rs U2 vs F2 H2 hk s2 r3 hl rvs=>?_,hx.grow s1⟩
       match rs,vs,rvs,r3,hk with
       | [r],[v],rvs,r3,hk=>
         dsimp only at hk
         obtain ⟨⟨t,U3⟩,eg,hk⟩:=zad hk
         obtain ⟨F3,s3,l3,r4⟩:=giveR (U':=[]) (σ':=[]) r3 hl rvs.1 eg
         dsimp only at hk
         split at hk
         ·rename_i l ql
          obtain ⟨ys,hD2,hlen,r5⟩:=Rel.append r4 ql hσ
          exact ⟨a,ys,v,rfl,rfl,hD2,by rw [hlen,sizeLine_eq]; exact lt_trans hk.1 (by decide),hok _ _ .non F3 _ hk.2 (s1.trans (s2.trans s3)) (r5.push .non) trivial⟩
         ·exact hk.elim
       | [],_,_,_,hk=>exact hk.elim
       | [_],[],rvs,_,_=>exact rvs.elim
       | [_],_::_::_,rvs,_,_=>exact rvs.2.elim
       | _::_::_,_,_,_,hk=>exact hk.elim
   | _=>rw [qs] at hw'; exact hw'.elim
end
section
variable {K:W.Frag} {F F' H G:Hp} {σ σ':St}
def RepEs (K:W.Frag) (F H:Hp):List V->List D->Prop
 | [],[]=>True
 | v::vs,d::ds=>RepE K F H v d/\RepEs K F H vs ds
 | _,_=>False
theorem arg1 {b:List D->Option S} {vs:List V} {ds:List D} {s:S} (h2:∀ x y r,b (x::y::r)=none) (h0:b []=none) (re:RepEs K F H vs ds) (e:b ds=some s):∃ d v,ds=[d]/\vs=[v]:=by
 cases ds with
 | nil=>rw [h0] at e; cases e
 | cons x ds=>
   cases ds with
   | cons y r=>rw [h2] at e; cases e
   | nil=>
     cases vs with
     | nil=>exact re.elim
     | cons v vs=>
       cases vs with
       | nil=>exact ⟨x,v,rfl,rfl⟩
       | cons u vs=>exact re.2.elim
theorem takeAll:∀ {rs:List R} {vs:List V} {ds:List D} {U U':Env} {F:Hp} {σ':St},Rel K (U++(rs.map slotOf++U')) (σ++(vs.map some++σ')) F G H->U.length=σ.length->RVs σ vs rs->(rs.mapM fun r=>viewC r U)=some ds->
  ∃ F',Same F F'/\RepEs K F' H vs ds/\Rel K (U++U') (σ++σ') F' G H
 | [],[],ds,U,U',F,σ',r,h,_,e=>by
   have e':ds=[]:=by simpa using e.symm
   subst e'
   exact ⟨F,Same.refl F,trivial,r⟩
 | [],_::_,_,_,_,_,_,_,_,h,_=>h.elim
 | _::_,[],_,_,_,_,_,_,_,h,_=>h.elim
 | x::rs,v::vs,ds,U,U',F,σ',r,h,rv,e=>by
   rw [List.mapM_cons] at e
   cases q:viewC x U with
   | none=>rw [q] at e; cases e
   | some d=>
     rw [q] at e
     cases q2:(rs.mapM fun r=>viewC r U) with
     | none=>rw [q2] at e; cases e
     | some es=>
       rw [q2] at e
       have e':d::es=ds:=Option.some.inj e
       subst e'
       obtain ⟨F1,s1,re,r1⟩:=takeC (U':=rs.map slotOf++U') (σ':=vs.map some++σ') r h rv.1 q
       obtain ⟨F2,s2,res,r2⟩:=takeAll (rs:=rs) (vs:=vs) r1 h rv.2 q2
       exact ⟨F2,s1.trans s2,⟨re.mono s2,res⟩,r2⟩
def DoesB (K:W.Frag) (r:List V->Hp->VK->Prop) (f:List D->Option S):Prop:=∀ (σ:St) (U:Env) (F G H:Hp) (vs:List V) (ds:List D) (s:S) (Q:VK),Rel K U σ F G H->RepEs K F H vs ds->f ds=some s->
 (∀ v F' H',Same F F'->Rel K (U++[some s]) (σ++[some v]) F' G H'->Q v H')->r vs H Q
end
section
variable {X:Cx} {x:Str} {p pos:Pos} {e:Expr} {es:List Expr} {wa:WA} {id T:String} {r:List V->Hp->VK->Prop} {f:List D->Option S}
theorem zfZ (hd:DoesB X.K r f) {pn:List (Addr×Obj)} {xe:Value->Shared->Prop} (σ:St) (H:Hp) (Q:VK) (q:tW (wp X pn xe) (wB f wa) σ H Q):tCB r (tWA (wp X pn xe) wa) σ H Q:=by
 refine (many (k:=fun rs U1 Q E=>need (rs.mapM fun r=>viewC r U1) fun ds=>need (f ds) fun s=>Q (.v s) U1) q).mono fun vs H1 h1=>?_
 obtain ⟨F,G,U,rs,P,PX,rel,hl,rv,hk,hok,hx⟩:=h1
 obtain ⟨ds,ed,hk⟩:=zad hk
 obtain ⟨s,es,hk⟩:=zad hk
 obtain ⟨F1,s1,re,r1⟩:=takeAll (U':=[]) (σ':=[]) (by simpa using rel) hl rv ed
 exact hd σ U F1 G H1 vs ds s Q (by simpa using r1) re es fun v F' H' sm r'=>hok _ U v F' H' hk (s1.trans sm) r' trivial
theorem zbP (hc:∀ pn xe,CallR (wp X pn xe) (.builtin id) r) (hd:DoesB X.K r f) (hg:Gl X x) (hm:X.mg x=none) (hv:bootBuiltins x=some (.builtin id)) (ha:FA X (e::es) wa) (hn:x≠"__name__":=by decide) (hdb:(x == ("__debug__":Str))=false:=by decide)
  (he:starEach (e::es) X.env=(false,eval e X.env)::starEach es X.env:=by rfl) (hpl:(backTo pos (starEach es X.env)).any (·.1)=false:=by rfl):FE X (.Call (.Name x p) (e::es) [] pos) (wB f wa):=fun pn xe hp=>
 PE.imp (zjM (X:=wp X pn xe) (hc pn xe) hg hm hv (ha pn xe hp) hn hdb he hpl) (zfZ hd)
theorem zcD (hc:∀ pn xe,CallR (wp X pn xe) (.type T) r) (hd:DoesB X.K r f) (hg:Gl X x) (hm:X.mg x=none) (hv:bootBuiltins x=some (.type T)) (ha:FA X (e::es) wa) (hn:x≠"__name__":=by decide) (hdb:(x == ("__debug__":Str))=false:=by decide)
  (he:starEach (e::es) X.env=(false,eval e X.env)::starEach es X.env:=by rfl) (hpl:(backTo pos (starEach es X.env)).any (·.1)=false:=by rfl):FE X (.Call (.Name x p) (e::es) [] pos) (wB f wa):=fun pn xe hp=>
 PE.imp (zhX (X:=wp X pn xe) (hc pn xe) hg hm hv (ha pn xe hp) hn hdb he hpl) (zfZ hd)
def rLen (K:W.Frag):List V->Hp->VK->Prop:=fun xs H Q=>(∃ p ys,xs=[.ref p]/\(SqL K H p ys\/SqT K H p ys)/\Q (.int ys.length) H)\/∃ z,xs=[.str z]/\z.length<=sizeLine/\Q (.int z.length) H
theorem CallR.or' {f:Value} {r r':List V->Hp->VK->Prop} (h:CallR X f r) (h':CallR X f r'):CallR X f (fun x H Q=>r x H Q\/r' x H Q):=fun pins s σ H xs us Q I rr q=>q.elim (h pins s σ H xs us Q I rr) (h' pins s σ H xs us Q I rr)
theorem zh3:CallR X (.builtin "len") (rLen X.K):=CallR.or' zew zd8
theorem ziT {K:W.Frag}:DoesB K (rLen K) bLen:=by
 intro σ U F G H vs ds s Q rel re e hq
 obtain ⟨d,v,rfl,rfl⟩:=arg1 (fun x y r=>by cases x <;> rfl) rfl re e
 cases d with
 | str l=>
   cases e
   obtain ⟨x,rfl,e1,z⟩:=re.1.str
   exact .inr ⟨x,rfl,by rw [zb9 e1,sizeLine_eq]; exact z,by rw [zb9 e1]; exact hq _ F H (Same.refl F) (rel.push (.int _))⟩
 | tup l=>
   cases e
   obtain ⟨a,xs,rfl,h1,r1⟩:=re.1.tup
   exact .inl ⟨a,xs,rfl,.inr (SqT.of (rel.fr _ _ h1)),by rw [r1.len]; exact hq _ F H (Same.refl F) (rel.push (.int _))⟩
 | lst l=>
   cases e
   obtain ⟨a,xs,rfl,h1,r1⟩:=re.1.lst rel.fr
   exact .inl ⟨a,xs,rfl,.inl h1,by rw [r1.len]; exact hq _ F H (Same.refl F) (rel.push (.int _))⟩
 | _=>cases e
theorem zan (hg:Gl X "len") (hm:X.mg "len"=none) (ha:FA X (e::es) wa) (he:starEach (e::es) X.env=(false,eval e X.env)::starEach es X.env:=by rfl) (hpl:(backTo pos (starEach es X.env)).any (·.1)=false:=by rfl):FE X (.Call (.Name "len" p) (e::es) [] pos) (wB bLen wa):=
 zbP (fun _ _=>zh3) ziT hg hm PySem.boot_len ha (by decide) (by decide) he hpl
end
section
variable {X:Cx} {p pos:Pos} {e:Expr} {es:List Expr} {wa:WA} {K:W.Frag}
def rInt:List V->Hp->VK->Prop:=fun xs H Q=>(∃ i,xs=[.int i]/\Q (.int i) H)\/∃ k,xs=[.bl k]/\Q (.int (if k then 1 else 0)) H
theorem RepE.bl {F H:Hp} {v:V} {b:Bool} (h:RepE K F H v (.bl b)):v=.bl b:=by
 rcases h with h | ⟨_,_,_,_,h,_⟩ | ⟨_,_,_,_,_,h,_⟩ | ⟨_,_,_,_,_,h,_⟩
 ·cases h; rfl
 ·cases h
 ·cases h
 ·cases h
theorem zgZ:DoesB K rInt bInt:=by
 intro σ U F G H vs ds s Q rel re e hq
 obtain ⟨d,v,rfl,rfl⟩:=arg1 (fun x y r=>by cases x <;> rfl) rfl re e
 cases d with
 | int i=>
   cases e
   have:=re.1.int
   subst this
   exact .inl ⟨i,rfl,hq _ F H (Same.refl F) (rel.push (.int _))⟩
 | bl b=>
   cases e
   have:=re.1.bl
   subst this
   exact .inr ⟨b,rfl,hq _ F H (Same.refl F) (rel.push (.int _))⟩
 | _=>cases e
theorem zdG (hg:Gl X "int") (hm:X.mg "int"=none) (hv:bootBuiltins "int"=some (.type "int")) (ha:FA X (e::es) wa) (he:starEach (e::es) X.env=(false,eval e X.env)::starEach es X.env:=by rfl) (hpl:(backTo pos (starEach es X.env)).any (·.1)=false:=by rfl):FE X (.Call (.Name "int" p) (e::es) [] pos) (wB bInt wa):=
 zcD (fun _ _=>zhn) zgZ hg hm hv ha (by decide) (by decide) he hpl
def rTuple (K:W.Frag):List V->Hp->VK->Prop:=fun xs H Q=>∃ p ys,xs=[.ref p]/\((SqL K H p ys/\∀ l,H l=none->Q (.ref l) (upd H l (.tup ys)))\/(SqT K H p ys/\Q (.ref p) H))
theorem zge:DoesB K (rTuple K) bTuple:=by
 intro σ U F G H vs ds s Q rel re e hq
 obtain ⟨d,v,rfl,rfl⟩:=arg1 (fun x y r=>by cases x <;> rfl) rfl re e
 cases d with
 | tup l=>
   cases e
   obtain ⟨a,xs,rfl,h1,r1⟩:=re.1.tup
   exact ⟨a,xs,rfl,.inr ⟨SqT.of (rel.fr _ _ h1),hq _ F H (Same.refl F) (rel.push (.tup h1 r1))⟩⟩
 | lst l=>
   cases e
   obtain ⟨a,xs,rfl,h1,r1⟩:=re.1.lst rel.fr
   refine ⟨a,xs,rfl,.inl ⟨h1,fun p hp=>?_⟩⟩
   have n2:=(rel.free hp).1
   exact hq _ _ _ (Same.upd n2) ((rel.newF hp).push (.tup zam (r1.mono (Same.upd n2))))
 | _=>cases e
theorem zbX (hg:Gl X "tuple") (hm:X.mg "tuple"=none) (hv:bootBuiltins "tuple"=some (.type "tuple")) (ha:FA X (e::es) wa) (he:starEach (e::es) X.env=(false,eval e X.env)::starEach es X.env:=by rfl) (hpl:(backTo pos (starEach es X.env)).any (·.1)=false:=by rfl):FE X (.Call (.Name "tuple" p) (e::es) [] pos) (wB bTuple wa):=
 zcD (fun _ _=>zdC) zge hg hm hv ha (by decide) (by decide) he hpl
def rList (K:W.Frag):List V->Hp->VK->Prop:=fun xs H Q=>∃ p ys,xs=[.ref p]/\(SqL K H p ys\/SqT K H p ys)/\∀ l,H l=none->Q (.ref l) (upd H l (.lst ys))
theorem zeH:DoesB K (rList K) bList:=by
 intro σ U F G H vs ds s Q rel re e hq
 obtain ⟨d,v,rfl,rfl⟩:=arg1 (fun x y r=>by cases x <;> rfl) rfl re e
 cases d with
 | tup l=>
   cases e
   obtain ⟨a,xs,rfl,h1,r1⟩:=re.1.tup
   exact ⟨a,xs,rfl,.inr (SqT.of (rel.fr _ _ h1)),fun p hp=>hq _ F _ (Same.refl F) (rel.newLD hp r1)⟩
 | lst l=>
   cases e
   obtain ⟨a,xs,rfl,h1,r1⟩:=re.1.lst rel.fr
   exact ⟨a,xs,rfl,.inl h1,fun p hp=>hq _ F _ (Same.refl F) (rel.newLD hp r1)⟩
 | _=>cases e
end
theorem zbB {a b:Key} (h:keyD a=keyD b):a=b:=by
 cases a with
 | inl i=>cases b with
   | inl j=>have h':D.int i=D.int j:=h; cases h'; rfl
   | inr y=>have h':D.int i=D.str y.cps.toList:=h; cases h'
 | inr x=>cases b with
   | inl j=>have h':D.str x.cps.toList=D.int j:=h; cases h'
   | inr y=>
     have h':D.str x.cps.toList=D.str y.cps.toList:=h
     obtain ⟨⟨a⟩⟩:=x
     obtain ⟨⟨b⟩⟩:=y
     have e:a=b:=by cases h'; rfl
     rw [e]
theorem zbV:∀ {a b:List Key},a.map keyD=b.map keyD->a=b
 | [],[],_=>rfl
 | [],_::_,h=>by simp at h
 | _::_,[],h=>by simp at h
 | x::a,y::b,h=>by
   rw [map_cons,map_cons] at h
   injection h with h1 h2
   rw [zbB h1,zbV h2]
section
variable {K:W.Frag} {H:Hp}
theorem zcR {x:V} {d:D} (r:Rep K H x d) (h:isKey1 d=true):∃ k:Key,x=kV k/\d=keyD k:=by
 cases r with
 | int i=>exact ⟨.inl i,rfl,rfl⟩
 | str e z=>exact ⟨.inr _,rfl,by rw [<- e]; rfl⟩
 | _=>cases h
theorem zfc {xs:List V} {l:List D} (r:Reps K H xs l):l.all isKey1=true->∃ ks:List Key,xs=ks.map kV/\l=ks.map keyD:=
 Reps.ind (P:=fun xs l=>l.all isKey1=true->∃ ks:List Key,xs=ks.map kV/\l=ks.map keyD) (fun _=>⟨[],rfl,rfl⟩) (fun a _ ih h=>by
  rw [List.all_cons,and_eq_true] at h
  obtain ⟨k,rfl,rfl⟩:=zcR a h.1
  obtain ⟨ks,rfl,rfl⟩:=ih h.2
  exact ⟨k::ks,rfl,rfl⟩) r
open Classical in
theorem zcq {κ:Type} [DecidableEq κ] (g:κ->D) (hg:∀ a b,g a=g b->a=b):∀ (kvs:List (κ×V)) (k:κ),(valV kvs k).isSome=decide (g k∈kvs.map fun p=>g p.1)
 | [],k=>by simp [valV]
 | p::r,k=>by
   by_cases e:p.1=k
   ·rw [zbH e]
    have:g k∈(p::r).map fun p=>g p.1:=by rw [map_cons,e]; exact mem_cons_self
    exact (decide_eq_true this).symm
   ·rw [zbZ e,zcq g hg r k]
    have:(g k∈(p::r).map fun p=>g p.1)↔(g k∈r.map fun p=>g p.1):=by
     rw [map_cons,mem_cons]
     exact ⟨fun z=>z.elim (fun w=>absurd (hg _ _ w).symm e) id,.inr⟩
    exact (decide_eq_decide.2 this).symm
open Classical in
theorem zcO {κ:Type} [DecidableEq κ] (g:κ->D) (hg:∀ a b,g a=g b->a=b) {α:Type}:∀ (kvs:List (κ×V)) (vs:List α) (k:κ) (P:V->α->Prop),kvs.length=vs.length->(∀ (i:Nat) x y,(kvs.map (·.2))[i]?=some x->vs[i]?=some y->P x y)->
  (lk (kvs.map fun p=>g p.1) vs (g k)=none/\valV kvs k=none)\/∃ x y,valV kvs k=some x/\lk (kvs.map fun p=>g p.1) vs (g k)=some y/\P x y
 | [],[],k,P,_,_=>.inl ⟨rfl,rfl⟩
 | [],_::_,_,_,h,_=>by simp at h
 | _::_,[],_,_,h,_=>by simp at h
 | p::r,v::vs,k,P,hl,h=>by
   by_cases e:p.1=k
   ·refine .inr ⟨p.2,v,zbH e,?_,h 0 p.2 v rfl rfl⟩
    show (if g p.1=g k then some v else lk (r.map fun p=>g p.1) vs (g k))=some v
    rw [if_pos (by rw [e])]
   ·have hne:¬ g p.1=g k:=fun z=>e (hg _ _ z)
    rw [zbZ e]
    have e2:lk ((p::r).map fun p=>g p.1) (v::vs) (g k)=lk (r.map fun p=>g p.1) vs (g k):=by
     show (if g p.1=g k then some v else lk (r.map fun p=>g p.1) vs (g k))=_
     rw [if_neg hne]
    rw [e2]
    exact zcO g hg r vs k P (by simpa using hl) fun i x y h1 h2=>h (i + 1) x y (by simpa using h1) (by simpa using h2)
theorem zlo {x:V} {a:Addr} {t:Bool} {d:D} {ks vs:List D} (r1:Rep K H x d) (r2:Rep K H (.ref a) (.dct t ks vs)) (hk:isKey t d=true):∃ o,DGet H a x o/\o.isSome=(open Classical in decide (d∈ks))/\
  ((lk ks vs d=none/\o=none)\/∃ v e,o=some v/\lk ks vs d=some e/\Rep K H v e):=by
 cases r2 with
 | dK e k r=>
   rename_i kvs
   obtain ⟨key,rfl,rfl⟩:=zcR r1 hk
   refine ⟨_,.inl ⟨kvs,key,e,rfl,rfl⟩,?_,?_⟩
   ·rw [k]; exact zcq keyD (fun _ _=>zbB) kvs key
   ·rw [k]
    rcases zcO keyD (fun _ _=>zbB) kvs vs key (fun v e=>Rep K H v e) (by have:=r.len; simpa using this) (fun i x y h1 h2=>by
     obtain ⟨x',hx',rx⟩:=r.get h2
     rw [h1] at hx'; cases hx'; exact rx) with ⟨h1,h2⟩ | ⟨v,e,h1,h2,h3⟩
    ·exact .inl ⟨h1,h2⟩
    ·exact .inr ⟨v,e,h1,h2,h3⟩
 | dT e k r=>
   rename_i kvs
   cases r1 with
   | tup e1 q=>
     obtain ⟨keys,rfl,rfl⟩:=zfc q hk
     have inj:∀ a b:List Key,D.tup (a.map keyD)=D.tup (b.map keyD)->a=b:=fun a b z=>zbV (D.tup.inj z)
     refine ⟨_,.inr ⟨kvs,keys,_,e,rfl,e1,rfl⟩,?_,?_⟩
     ·rw [k]; exact zcq (fun l=>D.tup (l.map keyD)) inj kvs keys
     ·rw [k]
      rcases zcO (fun l=>D.tup (l.map keyD)) inj kvs vs keys (fun v e=>Rep K H v e) (by have:=r.len; simpa using this) (fun i x y h1 h2=>by
       obtain ⟨x',hx',rx⟩:=r.get h2
       rw [h1] at hx'; cases hx'; exact rx) with ⟨h1,h2⟩ | ⟨v,e,h1,h2,h3⟩
      ·exact .inl ⟨h1,h2⟩
      ·exact .inr ⟨v,e,h1,h2,h3⟩
   | _=>cases hk
end
section
variable {X:Cx} {K:W.Frag}
def rInDict (neg:Bool):R2:=fun x y H Q=>∃ a o,y=.ref a/\DGet H a x o/\Q (.bl (if neg then !o.isSome else o.isSome)) H
theorem zhu (hu:X.A.units + 1 < cLine):OpR X (compareOp .In) (rInDict false):=by
 intro pins s σ H x y v u Q I rx ry h
 obtain ⟨a,o,rfl,g,q⟩:=h
 cases ry
 exact d_in hu I g rx fun s' I'=>⟨.bl _,H,I',rfl,q⟩
theorem zeE (hu:X.A.units + 1 < cLine):OpR X (compareOp .NotIn) (rInDict true):=by
 intro pins s σ H x y v u Q I rx ry h
 obtain ⟨a,o,rfl,g,q⟩:=h
 cases ry
 exact zlp hu I g rx fun s' I'=>⟨.bl _,H,I',rfl,q⟩
def rInAll (K:W.Frag) (neg:Bool):R2:=fun x y H Q=>rInD K neg x y H Q\/rInDict neg x y H Q
theorem zjo (hu:X.A.units + 32 < cLine):OpR X (compareOp .In) (rInAll X.K false):=FL.OpR.or (znD hu) (zhu (by omega))
theorem zeQ (hu:X.A.units + 32 < cLine):OpR X (compareOp .NotIn) (rInAll X.K true):=FL.OpR.or (zhV hu) (zeE (by omega))
open Classical in
theorem zlg {neg:Bool} {H:Hp} {x y:V} {p q:D} {k:Bool} {Q:VK} (r1:Rep K H x p) (r2:Rep K H y q) (e:cIn p q=some k) (hq:Q (.bl (if neg then !k else k)) H):rInAll K neg x y H Q:=by
 unfold cIn at e
 split at e
 ·rename_i l
  split at e
  ·cases e
  ·rename_i h
   have e':=Option.some.inj e
   subst e'
   refine .inl ⟨p,l,r1,.inl r2,fun d hd=>?_,hq⟩
   have h':∀ x∈l,(clash x p || decide (30 < dep x))=false:=by simpa using h
   have:=h' d hd
   rw [or_eq_false_iff] at this
   exact ⟨this.1,by have:=of_decide_eq_false this.2; omega⟩
 ·rename_i l
  split at e
  ·cases e
  ·rename_i h
   have e':=Option.some.inj e
   subst e'
   refine .inl ⟨p,l,r1,.inr r2,fun d hd=>?_,hq⟩
   have h':∀ x∈l,(clash x p || decide (30 < dep x))=false:=by simpa using h
   have:=h' d hd
   rw [or_eq_false_iff] at this
   exact ⟨this.1,by have:=of_decide_eq_false this.2; omega⟩
 ·rename_i t ks vs
  split at e
  ·rename_i h
   have e':=Option.some.inj e
   cases y with
   | ref a=>
     obtain ⟨o,g,ho,_⟩:=zlo r1 r2 h
     refine .inr ⟨a,o,rfl,g,?_⟩
     rw [ho,e']
     exact hq
   | _=>cases r2
  ·cases e
 ·cases e
end
open PySem.Builtin.Str (strSliceIndices)
theorem zb2 (n d:Nat) (o:Option Int):HT.sIx n d o=FL.sIx n d o:=by cases o <;> rfl
theorem zhW (n d:Nat) (hd:d<=n) (o:Option Int):FL.sIx n d o<=n:=by rw [<- zb2]; exact HT.sIx_le n d hd o
def cutS (z:Str) (lo hi:Option Int):Str:=⟨(cutL z.cps.toList lo hi).toArray⟩
theorem zgD (lo hi:Option Int) (n:Nat):strSliceIndices lo hi 1 n=(List.range (FL.sIx n n hi - FL.sIx n 0 lo)).map (FL.sIx n 0 lo + ·):=by
 rw [<- sliceRange_one]
 have clip:∀ i:Int,max 0 (min (if i < 0 then i + (n:Int) else i) (n:Int))=(((if i < 0 then (i + (n:Int)).toNat else min i.toNat n):Nat):Int):=by
  intro i
  by_cases h:i < 0
  ·rw [if_pos h,if_pos h]; omega
  ·rw [if_neg h,if_neg h]; omega
 unfold strSliceIndices
 cases lo <;> cases hi <;> simp only [show (1:Int) > 0 by decide,if_true,FL.sIx,clip] <;> rfl
theorem zhT (x:Str) (lo hi:Option Int):Txt.slice x lo hi=cutS x lo hi:=by
 have hlen:x.length=x.cps.toList.length:=by show x.cps.size=_; rw [length_toList]
 unfold Txt.slice cutS cutL
 rw [zgD,pick_run,<- hlen]
 split
 ·rename_i h
  simp only [beq_self_eq_true,Bool.true_and,length_map,length_range,beq_iff_eq] at h
  have h1:=zhW x.length x.length (le_refl _) hi
  have h2:FL.sIx x.length 0 lo=0\/x.length=0:=by omega
  have h3:FL.sIx x.length 0 lo=0:=h2.elim id fun z=>by have:=zhW x.length 0 (zero_le _) lo; omega
  rw [h,h3,drop_zero,take_of_length_le (by rw [hlen]; exact le_refl _)]
 ·rfl
section
variable {X:Cx}
def rSlS:V->Option Int->Option Int->Hp->VK->Prop:=fun x lo hi H Q=>∃ z,x=.str z/\z.length<=sizeLine/\Q (.str (cutS z lo hi)) H
theorem zhp {v:Value} {o:Option Int} (p:IsPart v o):∃ l:Option (Int×Tok),v=partValue l/\o=l.map (·.1):=by
 cases p with
 | none=>exact ⟨none,rfl,rfl⟩
 | int i t=>exact ⟨some (i,t),rfl,rfl⟩
theorem zmy:SlR X rSlS:=by
 intro pins s σ H x v vl vu lo hi sl Q I rx hs pl pu h
 obtain ⟨z,rfl,hz,q⟩:=h
 obtain ⟨t,rfl⟩:=rx
 obtain ⟨l,rfl,rfl⟩:=zhp pl
 obtain ⟨u,rfl,rfl⟩:=zhp pu
 rw [<- zhT] at q
 exact ⟨"str",_,F.slot_str_getitem.lookup,typeIs_str _ _ _,wpAny_getItem_str_slice (l:=l) (u:=u) (st:=none) hs rfl
  (post_val_or_str ⟨le_trans (Txt.slice_le z _ _) hz,fun t' k=>⟨.str (Txt.slice z (l.map (·.1)) (u.map (·.1))),H,I.tok _,⟨_,rfl⟩,q⟩⟩)⟩
def rSlW (K:W.Frag):V->Option Int->Option Int->Hp->VK->Prop:=fun x lo hi H Q=>∃ a xs,x=.ref a/\SqT K H a xs/\
 (HT.sIx xs.length 0 lo=0/\HT.sIx xs.length xs.length hi=xs.length)/\Q (.ref a) H
end
section
variable {prog:Program} {w:World} {A:Around} {E:Value->Shared->Prop} {s:Shared}
theorem zbx {t sl:Addr} {items:Array Value} {vl vu:Value} {lo hi:Option Int} {Q:Value->Shared->Prop} (ht:IsTup s.heap t items) (hs:s.heap.IsSliceOf sl vl vu .none) (pl:IsPart vl lo) (pu:IsPart vu hi)
  (hw:HT.sIx items.size 0 lo=0/\HT.sIx items.size items.size hi=items.size) (h:Q (.ref t) s):wpAny (model prog w) A (getItem (.ref t) (.ref sl)) Q E s:=by
 obtain ⟨os,hos,hcs,hds⟩:=id hs
 have hTs:s.TypeIs (.ref sl) "slice":=⟨os,hos,hcs⟩
 unfold getItem
 try with_reducible refine wpAny_holding ?_
 first | refine wpAny_bind (wpAny_pure ?_) | skip
 refine wpAny_bind (wpAny_sequenceKey ht.typeIs (by decide) ?_)
 refine wpAny_bind (wpAny_callSpecial?_slot (name:=Str.ofString "__getitem__") ht.typeIs PyProof.Rows.slot_tuple_getitem
  (wpAny_call_entry PyProof.Rows.slot_tuple_getitem ht.typeIs entry_tuple_getitem ?_ (args_tuple_getitem _ _)))
 show wpAny _ _ (Builtin.Tuple.tupleItemsOf (.ref t) >>= _) _ _ s
 refine wpAny_bind (tupleItemsOf_ ht ?_)
 refine wpAny_bind (wpAny_typeOf hTs ?_)
 rw [if_pos (by decide)]
 refine wpAny_bind (HT.sliceApplied_gen hs pl pu ?_)
 have hyes:(((HT.sIx items.size 0 lo:Nat):Int) == 0 && (1:Int) == 1 && (HT.sIx items.size items.size hi - HT.sIx items.size 0 lo) == items.size)=true:=by
  rw [hw.1,hw.2]; simp
 show wpAny _ _ (if (((HT.sIx items.size 0 lo:Nat):Int) == 0 && (1:Int) == 1 && (HT.sIx items.size items.size hi - HT.sIx items.size 0 lo) == items.size)=true then _ else _) _ _ s
 rw [if_pos hyes]
 unfold Builtin.Tuple.tupleIsExact
 refine wpAny_bind (wpAny_bind (wpAny_typeOf ht.typeIs (wpAny_pure ?_)))
 rw [if_pos (by decide)]
 first
  | exact wpAny_bind (wpAny_rule (wpAny_pure ⟨_,rfl,wpAny_pure h⟩))
  | exact wpAny_bind (wpAny_pure (wpAny_pure ⟨_,rfl,wpAny_pure h⟩))
  | exact wpAny_pure ⟨_,rfl,wpAny_pure h⟩
end
section
variable {X:Cx}
theorem ziH:SlR X (rSlW X.K):=by
 intro pins s σ H x v vl vu lo hi sl Q I rx hs pl pu h
 obtain ⟨a,xs,rfl,hx,hw,q⟩:=h
 cases rx
 obtain ⟨its,r,ht,hz⟩:=I.tuple hx
 have hlen:its.toArray.size=xs.length:=by rw [size_toArray]; exact r.length.symm
 refine ⟨"tuple",_,PyProof.Rows.slot_tuple_getitem.lookup,ht.typeIs,?_⟩
 exact zbx ht hs pl pu (by rw [hlen]; exact hw) ⟨.ref a,H,I,rfl,q⟩
end
section
variable {K:W.Frag} {F H:Hp}
theorem Reps.drop:∀ {xs:List V} {l:List D} (n:Nat),Reps K F xs l->Reps K F (xs.drop n) (l.drop n)
 | _,_,0,r=>by rw [drop_zero,drop_zero]; exact r
 | _,_,n + 1,.nil=>by rw [List.drop_nil,List.drop_nil]; exact .nil
 | _,_,n + 1,.cons a b=>by rw [List.drop_succ_cons,List.drop_succ_cons]; exact Reps.drop n b
theorem Reps.take:∀ {xs:List V} {l:List D} (n:Nat),Reps K F xs l->Reps K F (xs.take n) (l.take n)
 | _,_,0,r=>by rw [take_zero,take_zero]; exact .nil
 | _,_,n + 1,.nil=>by rw [take_nil,take_nil]; exact .nil
 | _,_,n + 1,.cons a b=>by rw [List.take_succ_cons,List.take_succ_cons]; exact .cons a (Reps.take n b)
theorem Reps.cut {xs:List V} {l:List D} {lo hi:Option Int} (r:Reps K F xs l):Reps K F (cutV xs lo hi) (cutL l lo hi):=by
 unfold cutV cutL
 rw [zb2,zb2,r.len]
 exact (r.drop _).take _
def rSl (K:W.Frag):V->Option Int->Option Int->Hp->VK->Prop:=fun x lo hi H Q=>rSlL K x lo hi H Q\/rSlT K x lo hi H Q\/rSlW K x lo hi H Q\/rSlS x lo hi H Q
theorem zhH {X:Cx}:SlR X (rSl X.K):=SlR.or zk1 (SlR.or zob (SlR.or ziH zmy))
theorem zkL {σ:St} {U:Env} {F G H:Hp} {v:V} {d:D} {lo hi:Option Int} {s:S} {Q:VK} (rel:Rel K U σ F G H) (re:RepE K F H v d) (e:slD d lo hi=some s)
  (hq:∀ v F' H',Same F F'->Rel K (U++[some s]) (σ++[some v]) F' G H'->Q v H'):rSl K v lo hi H Q:=by
 cases d with
 | str l=>
   cases e
   obtain ⟨x,rfl,h1,h2⟩:=re.str
   subst h1
   refine .inr (.inr (.inr ⟨x,rfl,?_,hq _ F H (Same.refl F) (rel.push (.str rfl ?_))⟩))
   ·have:x.length=x.cps.toList.length:=by show x.cps.size=_; rw [length_toList]
    rw [this]; exact h2
   ·refine le_trans ?_ h2
    unfold cutL
    rw [length_take,length_drop]
    omega
 | tup l=>
   cases e
   obtain ⟨a,xs,rfl,h1,r1⟩:=re.tup
   by_cases hw:HT.sIx xs.length 0 lo=0/\HT.sIx xs.length xs.length hi=xs.length
   ·refine .inr (.inr (.inl ⟨a,xs,rfl,SqT.of (rel.fr _ _ h1),hw,hq _ F H (Same.refl F) (rel.push ?_)⟩))
    have:cutL l lo hi=l:=by
     unfold cutL
     rw [<- r1.len,<- zb2,<- zb2,hw.1,hw.2,drop_zero,take_of_length_le (by rw [<- r1.len]; omega)]
    rw [this]
    exact .tup h1 r1
   ·refine .inr (.inl ⟨a,xs,rfl,SqT.of (rel.fr _ _ h1),hw,fun p hp=>?_⟩)
    have n2:=(rel.free hp).1
    exact hq _ _ _ (Same.upd n2) ((rel.newF hp).push (.tup zam (r1.cut.mono (Same.upd n2))))
 | lst l=>
   cases e
   obtain ⟨a,xs,rfl,h1,r1⟩:=re.lst rel.fr
   exact .inl ⟨a,xs,rfl,h1,fun p hp=>hq _ F _ (Same.refl F) (rel.newLD hp r1.cut)⟩
 | _=>cases e
end
section
variable {X:Cx} {σ:St} {H1:Hp} {Q:VK}
theorem nextOf {wb:WE} {k:R->R->Env->WQ->WX->Prop} {x:R} {U1:Env} {v:V} {F G:Hp} {P:WQ} {PX:WX} (r1:Rel X.K (U1++[slotOf x]) (σ++[some v]) F G H1) (rv1:RV σ v x) (hp1:wb U1 (fun y U2=>k x y U2 P PX) PX)
  (hok:∀ r U' v F' H',P r U'->Same F F'->Rel X.K (U'++[slotOf r]) (σ++[some v]) F' G H'->RV σ v r->Q v H') (hx:XC X (·=σ) F G PX):tW X wb σ H1 fun u H2=>Two X σ k Q v u H2:=by
 have h1:=len1 r1
 obtain ⟨G1,rel1,gg,back⟩:=r1.hide h1
 refine ⟨F,G1,U1,_,PX,rel1,hp1,fun y U2 u F2 H2 hp2 s2 r2 rv2=>?_,hx.mono (fun _ z=>z) (Same.refl F) gg⟩
 have h2:=len1 r2
 have r3:=back s2 r2
 rw [append_assoc,append_assoc] at r3
 exact ⟨F2,G,U2,x,y,P,PX,Rel.swap (U1:=[slotOf y]) (σ1:=[some u]) (U2:=[slotOf x]) (σ2:=[some v]) h2 rfl r3,h2,rv1,rv2,hp2,fun r U' v F' H' a b c d=>hok r U' v F' H' a (s2.trans b) c d,hx.grow s2⟩
end
section
variable {X:Cx} {a b c:Expr} {wa wb wc:WE} {pos p2:Pos}
theorem match_int {U:Env} {o:Option D} {k:Int->Prop} (h:(match o with | some (.int i)=>k i | _=>False)):∃ i,o=some (.int i)/\k i:=by
 split at h
 ·exact ⟨_,rfl,h⟩
 ·exact h.elim
theorem zg1 {K:W.Frag} {U:Env} {σ:St} {F G H:Hp} {x y:R} {v u:V} {lo hi:Option Int} {P:WQ} {Q:VK} {q:D} (rel:Rel K (U++[slotOf x,slotOf y]) (σ++[some v,some u]) F G H) (hl:U.length=σ.length) (rx:RV σ v x)
  (hk:need (viewC x U) fun d=>need (slD d lo hi) fun s=>P (.v s) U)
  (hok:∀ r U' v F' H',P r U'->Same F F'->Rel K (U'++[slotOf r]) (σ++[some v]) F' G H'->RV σ v r->Q v H'):rSl K v lo hi H Q:=by
 obtain ⟨d,ed,hk⟩:=zad hk
 obtain ⟨s,es,hk⟩:=zad hk
 have relx:Rel K (U++[slotOf x]) (σ++[some v]) F G H:=by
  have:=Rel.swap (U1:=[slotOf x]) (σ1:=[some v]) (U2:=[slotOf y]) (σ2:=[some u]) hl rfl rel
  exact Rel.mid (U:=U) (σ:=σ) this hl
 obtain ⟨F1,s1,re,r1⟩:=takeC (U':=[]) (σ':=[]) relx hl rx ed
 exact zkL (U:=U) (σ:=σ) (by simpa using r1) re es fun v F' H' sm r'=>hok _ U v F' H' hk (s1.trans sm) r' trivial
theorem zep (ha:FE X a wa) (hb:FE X b wb):FE X (.Subscript a (.Slice (some b) none none p2) pos) (wSl wa (some wb) none):=fun pn xe hp=>by
 refine PE.imp (zdz (zhH (X:=wp X pn xe)) (ha pn xe hp) (zdr (hb pn xe hp)) zgP) fun σ H Q q=>?_
 refine (two (k:=fun x y U2 Q E=>match view y U2 with
  | some (.int i)=>need (viewC x U2) fun d=>need (slD d (some i) none) fun s=>Q (.v s) U2
  | _=>False) q).mono fun v H1 h1=>h1.mono fun u H2 h2=>?_
 obtain ⟨F,G,U,x,y,P,PX,rel,hl,rx,ry,hk,hok,hx⟩:=h2
 obtain ⟨i,ei,hk⟩:=match_int (U:=U) (k:=fun i=>need (viewC x U) fun d=>need (slD d (some i) none) fun s=>P (.v s) U) hk
 have ru:=look (U':=[]) (σ':=[]) (rel.mid hl) hl ry ei
 cases ru
 exact ⟨i,rfl,zg1 (q:=.non) rel hl rx hk hok⟩
theorem zdd (ha:FE X a wa) (hb:FE X b wb):FE X (.Subscript a (.Slice none (some b) none p2) pos) (wSl wa none (some wb)):=fun pn xe hp=>by
 refine PE.imp (zdz (zhH (X:=wp X pn xe)) (ha pn xe hp) zgP (zdr (hb pn xe hp))) fun σ H Q q=>?_
 refine (two (k:=fun x y U2 Q E=>match view y U2 with
  | some (.int i)=>need (viewC x U2) fun d=>need (slD d none (some i)) fun s=>Q (.v s) U2
  | _=>False) q).mono fun v H1 h1=>h1.mono fun u H2 h2=>?_
 obtain ⟨F,G,U,x,y,P,PX,rel,hl,rx,ry,hk,hok,hx⟩:=h2
 obtain ⟨i,ei,hk⟩:=match_int (U:=U) (k:=fun i=>need (viewC x U) fun d=>need (slD d none (some i)) fun s=>P (.v s) U) hk
 have ru:=look (U':=[]) (σ':=[]) (rel.mid hl) hl ry ei
 cases ru
 exact ⟨i,rfl,zg1 (q:=.non) rel hl rx hk hok⟩
theorem zda (ha:FE X a wa) (hb:FE X b wb) (hc:FE X c wc):FE X (.Subscript a (.Slice (some b) (some c) none p2) pos) (wSl wa (some wb) (some wc)):=fun pn xe hp=>by
 refine PE.imp (zdz (zhH (X:=wp X pn xe)) (ha pn xe hp) (zdr (hb pn xe hp)) (zdr (hc pn xe hp))) fun σ H Q q=>?_
 refine (two (k:=fun x y U2 Q E=>match view y U2 with
  | some (.int i)=>wc U2 (fun z U3=>match view z U3 with
    | some (.int j)=>need (viewC x U3) fun d=>need (slD d (some i) (some j)) fun s=>Q (.v s) U3
    | _=>False) E
  | _=>False) q).mono fun v H1 h1=>h1.mono fun u H2 h2=>?_
 obtain ⟨F,G,U,x,y,P,PX,rel,hl,rx,ry,hk,hok,hx⟩:=h2
 obtain ⟨i,ei,hk⟩:=match_int (U:=U) (k:=fun i=>wc U (fun z U3=>match view z U3 with
   | some (.int j)=>need (viewC x U3) fun d=>need (slD d (some i) (some j)) fun s=>P (.v s) U3
   | _=>False) PX) hk
 have ru:=look (U':=[]) (σ':=[]) (rel.mid hl) hl ry ei
 cases ru
 have relx:Rel X.K (U++[slotOf x]) (σ++[some v]) F G H2:=by
  have:=Rel.swap (U1:=[slotOf x]) (σ1:=[some v]) (U2:=[slotOf y]) (σ2:=[some (.int i)]) hl rfl rel
  exact Rel.mid (U:=U) (σ:=σ) this hl
 refine ⟨i,rfl,(nextOf (X:=wp X pn xe) (k:=fun x z U3 P PX=>match view z U3 with
   | some (.int j)=>need (viewC x U3) fun d=>need (slD d (some i) (some j)) fun s=>P (.v s) U3
   | _=>False) relx rx hk hok hx).mono fun t H3 h3=>?_⟩
 obtain ⟨F,G,U,x,y,P,PX,rel,hl,rx,ry,hk,hok,hx⟩:=h3
 obtain ⟨j,ej,hk⟩:=match_int (U:=U) (k:=fun j=>need (viewC x U) fun d=>need (slD d (some i) (some j)) fun s=>P (.v s) U) hk
 have ru:=look (U':=[]) (σ':=[]) (rel.mid hl) hl ry ej
 cases ru
 exact ⟨j,rfl,zg1 (q:=.non) rel hl rx hk hok⟩
end
end FL
end
section
namespace FL
open PySem
noncomputable def wMS (f:List Nat->List D->Option S) (o:WE) (a:WA):WE:=fun U Q E=>o U (fun x U1=>match x with
 | .v (.sh (.str l))=>a U1 (fun rs U2=>need (rs.mapM fun r=>viewC r U2) fun ds=>need (f l ds) fun s=>Q (.v s) U2) E
 | _=>False) E
noncomputable def strsD:List D->Option (List (List Nat))
 | []=>some []
 | .str x::r=>(strsD r).map (x::·)
 | _::_=>none
@[simp] theorem zee (l:List (List Nat)):strsD (l.map .str)=some l:=by
  induction l with
  | nil=>rfl
  | cons a r ih=>rw [map_cons,strsD,ih]; rfl
noncomputable def joinD (sep:List Nat):List (List Nat)->List Nat
 | []=>[]
 | [x]=>x
 | x::r=>x++sep++joinD sep r
theorem zcf (sep:List Nat):∀ ys:List (List Nat),(joinD sep ys).length<=(ys.map List.length).sum + ys.length * sep.length
 | []=>zero_le _
 | [x]=>by simp [joinD]
 | x::y::r=>by
   have:=zcf sep (y::r)
   rw [joinD,length_append,length_append,map_cons,sum_cons,length_cons (a:=x),Nat.succ_mul]
   ·omega
   ·intro h; cases h
theorem zet (ys:List (List Nat)):joinD [] ys=ys.flatten:=by
 induction ys with
 | nil=>rfl
 | cons x r ih=>
   cases r with
   | nil=>simp [joinD]
   | cons y r=>rw [joinD,ih]; simp; intro h; cases h
def joinS (sep:List Nat) (l:List D):Option S:=(strsD l).bind fun ys=>if (ys.map List.length).sum + ys.length * sep.length<=big then some (.sh (.str (joinD sep ys))) else none
noncomputable def mJoin (sep:List Nat):List D->Option S
 | [.lst l]=>joinS sep l
 | [.tup l]=>joinS sep l
 | _=>none
noncomputable def wPopAt (j:Nat) (e:WE):WE:=fun U Q E=>match slot U j with
 | some (.lst _)=>e U (fun r U2=>match view r U2,slot U2 j with
   | some (.int i),some (.lst l)=>need (if l.length<=big then ixN l.length i else none) fun k=>need l[k]? fun s=>Q (.v s) (U2.set j (some (.lst (l.eraseIdx k))))
   | _,_=>False) E
 | _=>False
noncomputable def bools:List D->Option (List Bool)
 | []=>some []
 | .bl x::r=>(bools r).map (x::·)
 | _::_=>none
@[simp] theorem zhf (l:List Bool):bools (l.map .bl)=some l:=by
  induction l with
  | nil=>rfl
  | cons a r ih=>rw [map_cons,bools,ih]; rfl
noncomputable def bAll:List D->Option S
 | [.lst l]=>(bools l).map fun bs=>.sh (.bl (bs.all id))
 | _=>none
end FL
end
section
namespace FL
open PySem PySem.Spec PyProof.Rows L2
section
variable {X:Cx} {e:Expr} {es:List Expr} {wo:WE} {wa:WA} {o:Expr} {name:Str} {apos cpos:Pos} {id:String} {r:V->List V->Hp->VK->Prop} {f:List Nat->List D->Option S}
def DoesMS (K:W.Frag) (r:V->List V->Hp->VK->Prop) (f:List Nat->List D->Option S):Prop:=∀ (σ:St) (U:Env) (F G H:Hp) (x:Str) (vs:List V) (ds:List D) (s:S) (Q:VK),Rel K U σ F G H->x.cps.toList.length<=16777216->RepEs K F H vs ds->f x.cps.toList ds=some s->
 (∀ v F' H',Same F F'->Rel K (U++[some s]) (σ++[some v]) F' G H'->Q v H')->r (.str x) vs H Q
theorem zqM (hm:∀ pn xe,MtM (wp X pn xe) id r) (hd:DoesMS X.K r f) (slot:Slot "str" name id) (hty:typeOf (.builtin id)=pure (.type "method_descriptor")) (ho:FE X o wo) (ha:FA X (e::es) wa)
  (hbase:attributeBase o name X.env (eval o X.env)=eval o X.env:=by rfl)
  (hfew:((backTo cpos (starEach (e::es) X.env)).all (fun x=>!x.1) && (backToKw cpos (keywordEach [] X.env)).all (fun x=>x.1.isSome)
   && decide ((e::es).length + ([]:List Keyword).length + (if ([]:List Keyword).isEmpty then 0 else 1) < 30))=true:=by rfl)
  (hline:(apos.endLine == cpos.line)=true:=by rfl) (hs:starEach (e::es) X.env=(false,eval e X.env)::starEach es X.env:=by rfl) (hplain:(backTo cpos (starEach es X.env)).any (·.1)=false:=by rfl):
  FE X (.Call (.Attribute o name apos) (e::es) [] cpos) (wMS f wo wa):=fun pn xe hp=>by
 refine PE.imp (zgR (X:=wp X pn xe) PySem.F.plainAttrs_str slot hty (hm pn xe) (ho pn xe hp) (ha pn xe hp) hbase hfew hline hs hplain) fun σ H Q q=>?_
 refine (one (k:=fun x U1 Q E=>match x with
  | .v (.sh (.str l))=>wa U1 (fun rs U2=>need (rs.mapM fun r=>viewC r U2) fun ds=>need (f l ds) fun s=>Q (.v s) U2) E
  | _=>False) q).mono fun v H1 h1=>?_
 obtain ⟨F,G,U,x,P,PX,rel,hl,rx,hk,hok,hx⟩:=h1
 split at hk
 ·rename_i l
  have rp:=look (U':=[]) (σ':=[]) (x:=.v (.sh (.str l))) rel hl rx rfl
  cases rp with
  | str e1 z=>
    rename_i y
    subst e1
    refine ⟨rfl,F,G,U,_,PX,rel.drop hl,hk,fun rs U2 vs F2 H2 hk2 s2 r2 hl2 rvs=>?_,hx⟩
    obtain ⟨ds,ed,hk2⟩:=zad hk2
    obtain ⟨s,es,hk2⟩:=zad hk2
    obtain ⟨F3,s3,re,r3⟩:=takeAll (U':=[]) (σ':=[]) (by simpa using r2) hl2 rvs ed
    exact hd σ U2 F3 G H2 y vs ds s Q (by simpa using r3) z re es fun v F' H' sm r'=>hok _ U2 v F' H' hk2 (s2.trans (s3.trans sm)) r' trivial
 ·exact hk.elim
end
section
variable {X:Cx} {K:W.Frag}
theorem zho {F:Hp} {xs:List V} {l:List D} {ys:List (List Nat)} (r:Reps K F xs l) (h:strsD l=some ys):∃ zs:List Str,xs=zs.map V.str/\ys=zs.map fun z=>z.cps.toList:=
 Reps.ind (P:=fun xs l=>∀ ys,strsD l=some ys->∃ zs:List Str,xs=zs.map V.str/\ys=zs.map fun z=>z.cps.toList) (fun ys h=>by cases h; exact ⟨[],rfl,rfl⟩) (fun a _ ih ys h=>by
  cases a with
  | @str x _ e z=>
    rw [strsD] at h
    obtain ⟨ys',h1,rfl⟩:=map_eq_some_iff.mp h
    obtain ⟨zs,rfl,rfl⟩:=ih _ h1
    exact ⟨x::zs,rfl,by rw [map_cons,e]⟩
  | _=>cases h) r ys h
theorem zfW (sep:Str):∀ zs:List Str,(Str.join sep zs).cps.toList=joinD sep.cps.toList (zs.map fun z=>z.cps.toList)
 | []=>rfl
 | [x]=>rfl
 | x::y::r=>by
   show ((x++sep++Str.join sep (y::r):Str)).cps.toList=x.cps.toList++sep.cps.toList++joinD sep.cps.toList ((y::r).map fun z=>z.cps.toList)
   rw [<- zfW sep (y::r)]
   show (x.cps++sep.cps++(Str.join sep (y::r)).cps).toList=_
   rw [toList_append,toList_append]
theorem zb6 {ys:List Str}:∀ {us:List Value},Vals (ys.map V.str) us->StrsAre us ys:=by
 induction ys with
 | nil=>intro us r; rw [map_nil] at r; cases r; exact .nil
 | cons n ns ih=>
   intro us r
   rw [map_cons] at r
   cases r with
   | cons r1 r2=>
     obtain ⟨t,e⟩:=r1
     subst e
     exact .cons n t (ih r2)
def rJoin (K:W.Frag):V->List V->Hp->VK->Prop:=fun x vs H Q=>∃ z a ys,x=.str z/\vs=[.ref a]/\(SqL K H a (ys.map V.str)\/SqT K H a (ys.map V.str))/\(ys.map (·.length)).sum + ys.length * z.length<=16777216/\Q (.str (Str.join z ys)) H
theorem zkO:MtM X "str.join" (rJoin X.K):=by
 intro pins s σ H x vs v us Q I rx rv h
 obtain ⟨z,a,ys,rfl,rfl,hq,hz,q⟩:=h
 obtain ⟨t,rfl⟩:=rx
 cases rv with
 | cons r1 r2=>
   cases r2
   cases r1
   have e:Txt.join z ys=Str.join z ys:=StrLaws.glued_eq_join z ys
   rcases hq with hq | hq
   ·obtain ⟨its,r,pl,_⟩:=I.list hq
    exact join_list pl.isList (zb6 r) hz fun t' k=>⟨.str (Str.join z ys),H,I.tok _,⟨_,by rw [e]⟩,q⟩
   ·obtain ⟨its,r,pl,_⟩:=I.tuple hq
    exact join_tuple pl (zb6 r) hz fun t' k=>⟨.str (Str.join z ys),H,I.tok _,⟨_,by rw [e]⟩,q⟩
theorem zeF {F G H:Hp} {U:Env} {σ:St} {x:Str} {a:Addr} {xs:List V} {l:List D} {s:S} {Q:VK} (rel:Rel K U σ F G H) (hq:SqL K H a xs\/SqT K H a xs) (r:Reps K F xs l) (e:joinS x.cps.toList l=some s)
  (k:∀ v F' H',Same F F'->Rel K (U++[some s]) (σ++[some v]) F' G H'->Q v H'):rJoin K (.str x) [.ref a] H Q:=by
 unfold joinS at e
 obtain ⟨ys,e1,e2⟩:=Option.bind_eq_some_iff.mp e
 obtain ⟨zs,rfl,rfl⟩:=zho r e1
 split at e2
 ·rename_i hz
  cases e2
  have hl:∀ z:Str,z.cps.toList.length=z.length:=fun z=>by rw [length_toList]; rfl
  have e3:((zs.map fun z=>z.cps.toList).map List.length)=zs.map (·.length):=by rw [map_map]; exact map_congr_left fun z _=>hl z
  have hz2:=hz
  rw [e3,length_map,hl] at hz
  refine ⟨x,a,zs,rfl,rfl,hq,le_trans hz (by decide),k _ F H (Same.refl F) (rel.push (.str (zfW x zs) ?_))⟩
  exact le_trans (zcf _ _) (le_trans hz2 (by decide))
 ·cases e2
theorem zhM:DoesMS K (rJoin K) mJoin:=by
 intro σ U F G H x vs ds s Q rel hz re e hq
 obtain ⟨d,v,rfl,rfl⟩:=arg1 (fun x y r=>by cases x <;> rfl) rfl re e
 cases d with
 | tup l=>
   obtain ⟨a,xs,rfl,h1,r1⟩:=re.1.tup
   exact zeF rel (.inr (SqT.of (rel.fr _ _ h1))) r1 e hq
 | lst l=>
   obtain ⟨a,xs,rfl,h1,r1⟩:=re.1.lst rel.fr
   exact zeF rel (.inl h1) r1 e hq
 | _=>cases e
end
section
variable {X:Cx} {e:Expr} {wo:WE} {wa:WA} {o:Expr} {apos cpos:Pos}
theorem ze7 (ho:FE X o wo) (ha:FA X [e] wa)
  (hbase:attributeBase o "join" X.env (eval o X.env)=eval o X.env:=by rfl)
  (hfew:((backTo cpos (starEach [e] X.env)).all (fun x=>!x.1) && (backToKw cpos (keywordEach [] X.env)).all (fun x=>x.1.isSome)
   && decide ([e].length + ([]:List Keyword).length + (if ([]:List Keyword).isEmpty then 0 else 1) < 30))=true:=by rfl)
  (hline:(apos.endLine == cpos.line)=true:=by rfl) (hs:starEach [e] X.env=(false,eval e X.env)::starEach [] X.env:=by rfl) (hplain:(backTo cpos (starEach [] X.env)).any (·.1)=false:=by rfl):
  FE X (.Call (.Attribute o "join" apos) [e] [] cpos) (wMS mJoin wo wa):=zqM (fun _ _=>zkO) zhM PySem.F.slot_str_join PySem.F.type_str_join ho ha hbase hfew hline hs hplain
end
section
variable {K:W.Frag} {F H G:Hp} {σ:St} {U:Env}
theorem SReps.erase:∀ {xs:List V} {l:List S} {fp:List Addr} {m:Nat} {s:S},SReps K F H xs l fp->l[m]?=some s->∃ y fa fi fb,fp=fa++(fi++fb)/\xs[m]?=some y/\SRep K F H y s fi/\SReps K F H (xs.eraseIdx m) (l.eraseIdx m) (fa++fb)
 | _,_,_,_,_,.nil,h=>by simp at h
 | _,_,_,0,s,.cons (x:=x) (fp:=fp) (fq:=fq) a b,h=>by
   have e:=Option.some.inj h
   subst e
   exact ⟨x,[],fp,fq,rfl,rfl,a,b⟩
 | _,_,_,m + 1,s,.cons (fp:=fp) (fq:=fq) a b,h=>by
   obtain ⟨y,fa,fi,fb,rfl,h1,h2,h3⟩:=SReps.erase (m:=m) b (by simpa using h)
   refine ⟨y,fp++fa,fi,fb,(append_assoc ..).symm,by simpa using h1,h2,?_⟩
   rw [append_assoc]
   exact .cons a h3
theorem Rel.popItem {n m:Nat} {l:List S} {s:S} {D:Addr} (r:Rel K U σ F G H) (hs:slot U n=some (.lst l)) (hσ:σ[n]?=some (some (.ref D))) (hm:l[m]?=some s):
  ∃ xs y,H D=some (.lst xs)/\xs.length=l.length/\xs[m]?=some y/\Rel K (U.set n (some (.lst (l.eraseIdx m)))++[some s]) (σ++[some y]) F G (upd H D (.lst (xs.eraseIdx m))):=by
 obtain ⟨fp,e,nd,ap⟩:=r.en
 obtain ⟨v',fa,fi,fb,e1,rfl,q,up⟩:=e.at hs
 rw [hσ] at e1
 have e2:V.ref D=v':=by simpa using e1
 subst e2
 cases q with
 | lst hD rl=>
   rename_i xs fl
   obtain ⟨y,ga,gi,gb,rfl,hy,sr,rl2⟩:=rl.erase hm
   refine ⟨xs,y,hD,rl.len,hy,?_⟩
   obtain ⟨na,nib,nab⟩:=nodup_append.mp nd
   obtain ⟨ni,nb,nib⟩:=nodup_append.mp nib
   obtain ⟨nD,nfl⟩:=nodup_cons.mp ni
   have hDa:D∉fa:=fun z=>nab D z D (mem_append_left _ mem_cons_self) rfl
   have hDb:D∉fb:=fun z=>nib D mem_cons_self D z rfl
   have apD:=ap D (mem_append_right _ (mem_append_left _ mem_cons_self))
   have ne:∀ {l:List Addr},D∉l->∀ x∈l,upd H D (.lst (xs.eraseIdx m)) x=H x:=fun h x hx=>zag fun z=>h (z ▸ hx)
   have hDg:D∉ga++gb:=fun z=>nD ((mem_append.mp z).elim (fun w=>mem_append_left _ w) fun w=>mem_append_right _ (mem_append_right _ w))
   have hDi:D∉gi:=fun z=>nD (mem_append_right _ (mem_append_left _ z))
   have new:SRep K F (upd H D (.lst (xs.eraseIdx m))) (.ref D) (.lst (l.eraseIdx m)) (D::(ga++gb)):=.lst zam (rl2.mono (Same.refl F) (ne hDg))
   have a2:=up (F':=F) (H':=upd H D (.lst (xs.eraseIdx m))) (o:=some (.lst (l.eraseIdx m))) (u:=some (.ref D)) (Same.refl F) (fun x hx=>zag fun z=>(mem_append.mp hx).elim (fun w=>hDa (z ▸ w)) fun w=>hDb (z ▸ w)) (.so new .nil)
   rw [zdy hσ] at a2
   have a3:=a2.app (.so (sr.mono (Same.refl F) (ne hDi)) .nil)
   have pm:(fa++((D::(ga++gb))++[]++fb)++(gi++[])).Perm (fa++((D::(ga++(gi++gb)))++fb)):=by
    simp only [append_nil,append_assoc,cons_append]
    refine List.Perm.append_left _ (List.Perm.cons _ (List.Perm.append_left _ ?_))
    rw [<- append_assoc gi gb fb,<- append_assoc gb fb gi]
    refine (perm_append_comm (l₁:=gb++fb) (l₂:=gi)).trans ?_
    rw [append_assoc]
   refine ⟨Same.updR r.fr apD.1,fun x o w=>?_,_,a3,pm.nodup_iff.mpr nd,fun x hx=>ap x (pm.mem_iff.mp hx)⟩
   have hx:x≠D:=fun z=>by rw [z,apD.2] at w; cases w
   rw [zag hx]
   exact r.gr x o w
end
section
variable {X:Cx} {pos tpos:Pos}
theorem zfO {j:Nat} {o e:Expr} {we:WE} {apos cpos:Pos} (ho:FE X o (wVar j)) (he:FE X e we)
  (hbase:attributeBase o "pop" X.env (eval o X.env)=eval o X.env:=by rfl)
  (hfew:((backTo cpos (starEach [e] X.env)).all (fun x=>!x.1) && (backToKw cpos (keywordEach [] X.env)).all (fun x=>x.1.isSome)
   && decide ([e].length + ([]:List Keyword).length + (if ([]:List Keyword).isEmpty then 0 else 1) < 30))=true:=by rfl)
  (hline:(apos.endLine == cpos.line)=true:=by rfl) (hs:starEach [e] X.env=[(false,eval e X.env)]:=by rfl):FE X (.Call (.Attribute o "pop" apos) [e] [] cpos) (wPopAt j we):=fun pn xe hp=>by
 refine PE.imp (zgR (X:=wp X pn xe) PySem.F.plainAttrs_list PySem.F.slot_list_pop PySem.F.type_list_pop zjH (ho pn xe hp) (zaa he zab hs pn xe hp) hbase hfew hline hs rfl) fun σ H Q q=>?_
 obtain ⟨F,G,U,P,PX,rel,hw,hok,hx⟩:=q
 have hw':(match slot U j with
  | some (.lst _)=>we U (fun r U2=>match view r U2,slot U2 j with
    | some (.int i),some (.lst l)=>need (if l.length<=big then ixN l.length i else none) fun k=>need l[k]? fun s=>P (.v s) (U2.set j (some (.lst (l.eraseIdx k))))
    | _,_=>False) PX
  | _=>False):=hw
 cases qs:slot U j with
 | none=>rw [qs] at hw'; exact hw'.elim
 | some s0=>
   cases s0 with
   | lst l0=>
     rw [qs] at hw'
     refine ⟨F,G,U,fun y U1=>y=.loc j/\U1=U,PX,rel,by unfold wVar; rw [qs]; exact ⟨rfl,rfl⟩,fun y U1 o' F1 H1 hk s1 r1 rv=>?_,hx⟩
     obtain ⟨rfl,rfl⟩:=hk
     have l1:=len1 r1
     have hσ:σ[j]?=some (some o'):=rv
     have r2:=r1.drop l1
     obtain ⟨v',fp,e1,sr⟩:=r2.at qs
     rw [hσ] at e1
     have e2:o'=v':=by simpa using e1
     subst e2
     cases sr with
     | lst hD rl=>
       rename_i a xs fl
       refine ⟨.inl ⟨rfl,_,SqL.of hD⟩,F1,G,U1,fun rs U2=>match rs with | [r]=>(match view r U2,slot U2 j with | some (.int i),some (.lst l)=>need (if l.length<=big then ixN l.length i else none) fun k=>need l[k]? fun s=>P (.v s) (U2.set j (some (.lst (l.eraseIdx k)))) | _,_=>False) | _=>False,PX,r2,hw',fun rs U2 vs F2 H2 hk s2 r3 hl rvs=>?_,hx.grow s1⟩
       match rs,vs,rvs,r3,hk with
       | [r],[v],rvs,r3,hk=>
         dsimp only at hk
         split at hk
         ·rename_i i l ei ql
          obtain ⟨m,em,hk⟩:=zad hk
          obtain ⟨s,es,hk⟩:=zad hk
          have rp:=look (U':=[]) (σ':=[]) r3 hl rvs.1 ei
          cases rp
          split at em
          ·rename_i hz
           have r4:=r3.drop hl
           obtain ⟨ys,y,hD2,hlen,hy,r5⟩:=Rel.popItem r4 ql hσ es
           rw [<- hlen] at em hz
           obtain ⟨b1,b2,b3,b4⟩:=zeU em
           have hb:ys.length<=1000000:=hz
           exact ⟨a,ys,i,m,y,rfl,rfl,hD2,by omega,by omega,b1,hy,hok _ _ y F2 _ hk (s1.trans s2) r5 trivial⟩
          ·cases em
         ·exact hk.elim
       | [],_,_,_,hk=>exact hk.elim
       | [_],[],rvs,_,_=>exact rvs.elim
       | [_],_::_::_,rvs,_,_=>exact rvs.2.elim
       | _::_::_,_,_,_,hk=>exact hk.elim
   | _=>rw [qs] at hw'; exact hw'.elim
end
section
variable {K:W.Frag}
theorem zfY {F:Hp}:∀ {xs:List V} {l:List D} {ys:List Bool},Reps K F xs l->bools l=some ys->xs=ys.map V.bl
 | _,_,ys,.nil,h=>by cases h; rfl
 | _,d::l,ys,.cons a b,h=>by
   cases a with
   | bl c=>
     rw [bools] at h
     obtain ⟨ys',h1,rfl⟩:=map_eq_some_iff.mp h
     rw [zfY b h1]
     rfl
   | _=>cases h
theorem zfn {ys:List Bool}:∀ {us:List Value},Vals (ys.map V.bl) us->LSm.BoolsAre us ys:=by
 induction ys with
 | nil=>intro us r; rw [map_nil] at r; cases r; exact .nil
 | cons n ns ih=>
   intro us r
   rw [map_cons] at r
   cases r with
   | cons r1 r2=>
     cases r1
     exact .cons n (ih r2)
end
section
variable {prog:Program} {w:World} {A:Around} {E:Value->Shared->Prop} {s:Shared} {l:Addr} {vs:List Value} {bs:List Bool} {Q:Value->Shared->Prop}
theorem zgc (hh:A.handled=none) (hl:s.heap.IsList l vs.toArray) (hb:LSm.BoolsAre vs bs) (h:∀ h' tk,(∀ b x,s.heap.get? b=some x->h'.get? b=some x)->Q (.bool (bs.all id)) { s with heap:=h',toks:=tk }):
  wpAny (model prog w) A (call (.builtin "all") [.ref l]) Q E s:=by
 have hlt:l < s.heap.objs.size:=by obtain ⟨_,e,_⟩:=hl; exact Heap.lt_size e
 refine call_all_walk (wpAny_pyIter_list hl ?_)
 refine ⟨s.heap.objs.size,[s.heap.objs.size,l],[s.heap.objs.size],vs.toArray.size,_,_,fun i=>(bs[i]?).getD true,rfl,Walks.list (A:=A.in1) hh _ l (ne_of_lt hlt) vs.toArray,
  ⟨⟨_,Heap.get?_push_size _ rfl,rfl,rfl⟩,hl.push _⟩,fun i v s' Q' E' hP hQ=>?_,fun h' tk hk=>?_⟩
 ·obtain ⟨b,e,rfl⟩:=hb.get i v (by simpa using hP)
  simp only [e,getD_some] at hQ
  exact wpAny_truthy_bool hQ
 ·have e:((List.range vs.toArray.size).all fun i=>(bs[i]?).getD true)=bs.all id:=by
   rw [size_toArray,hb.length]; exact LSm.range_all bs
  rw [e]
  exact h h' tk (LSm.kept_iter hk)
end
section
variable {X:Cx} {K:W.Frag} {p pos:Pos} {e:Expr} {es:List Expr} {wa:WA}
def rAll (K:W.Frag):List V->Hp->VK->Prop:=fun xs H Q=>∃ (a:Addr) (bs:List Bool),xs=[.ref a]/\SqL K H a (bs.map V.bl)/\Q (.bl (bs.all id)) H
theorem zg4 (hc:X.calm=true):CallR X (.builtin "all") (rAll X.K):=by
 intro pins s σ H xs us Q I r h
 obtain ⟨a,bs,rfl,hq,q⟩:=h
 cases r with
 | cons r1 r2=>
   cases r2
   cases r1
   obtain ⟨its,r,pl,_⟩:=I.list hq
   exact zgc (I.ok.hd hc) pl.isList (zfn r) fun h' tk k=>⟨.bl _,H,I.kept k,rfl,q⟩
theorem ziL:DoesB K (rAll K) bAll:=by
 intro σ U F G H vs ds s Q rel re e hq
 obtain ⟨d,v,rfl,rfl⟩:=arg1 (fun x y r=>by cases x <;> rfl) rfl re e
 cases d with
 | lst l=>
   obtain ⟨bs,e1,rfl⟩:=map_eq_some_iff.mp e
   obtain ⟨a,xs,rfl,h1,r1⟩:=re.1.lst rel.fr
   have:=zfY r1 e1
   subst this
   exact ⟨a,bs,rfl,h1,hq _ F H (Same.refl F) (rel.push (.bl _))⟩
 | _=>cases e
theorem zmK (hc:X.calm=true) (hg:Gl X "all") (hm:X.mg "all"=none) (hv:bootBuiltins "all"=some (.builtin "all")) (ha:FA X (e::es) wa) (he:starEach (e::es) X.env=(false,eval e X.env)::starEach es X.env:=by rfl) (hpl:(backTo pos (starEach es X.env)).any (·.1)=false:=by rfl):FE X (.Call (.Name "all" p) (e::es) [] pos) (wB bAll wa):=
 zbP (fun pn xe=>zg4 (X:=wp X pn xe) hc) ziL hg hm hv ha (by decide) (by decide) he hpl
end
end FL
end
section
namespace FL
open PySem
mutual
noncomputable def cmpD:D->D->Ordering
 | .int i,.int j=>if i < j then .lt else if j < i then .gt else .eq
 | .str x,.str y=>if x < y then .lt else if y < x then .gt else .eq
 | .tup l,.tup m=>cmpDs l m
 | _,_=>.eq
noncomputable def cmpDs:List D->List D->Ordering
 | [],[]=>.eq
 | [],_::_=>.lt
 | _::_,[]=>.gt
 | a::l,b::m=>match cmpD a b with
   | .eq=>cmpDs l m
   | o=>o
end
noncomputable def leD (a b:D):Bool:=match cmpD a b with
 | .gt=>false
 | _=>true
@[simp] theorem zce (i j:Int):leD (.int i) (.int j)=decide (i<=j):=by
  unfold leD cmpD
  by_cases h:i < j
  ·rw [if_pos h,decide_eq_true (by omega)]
  ·rw [if_neg h]
   by_cases h2:j < i
   ·rw [if_pos h2,decide_eq_false (by omega)]
   ·rw [if_neg h2,decide_eq_true (by omega)]
@[simp] theorem zcs (x y:List Nat):leD (.str x) (.str y)=!decide (y < x):=by
  unfold leD cmpD
  by_cases h:x < y
  ·rw [if_pos h,decide_eq_false (fun h'=>lt_asymm h h')]; rfl
  ·rw [if_neg h]
   by_cases h2:y < x
   ·rw [if_pos h2,decide_eq_true h2]; rfl
   ·rw [if_neg h2,decide_eq_false h2]; rfl
noncomputable def insD (x:D):List D->List D
 | []=>[x]
 | y::r=>if leD x y then x::y::r else y::insD x r
noncomputable def sortD:List D->List D
 | []=>[]
 | x::r=>insD x (sortD r)
theorem zcz (x:D):∀ l:List D,(insD x l).Perm (x::l)
 | []=>.refl _
 | y::r=>by
   unfold insD
   split
   ·exact .refl _
   ·exact (List.Perm.cons y (zcz x r)).trans (.swap x y r)
theorem zaZ:∀ l:List D,(sortD l).Perm l
 | []=>.refl _
 | x::r=>(zcz x _).trans (.cons x (zaZ r))
structure OrdOn (P:D->Prop):Prop where
 tot:∀ a b,P a->P b->leD a b=true\/leD b a=true
 tr:∀ a b c,P a->P b->P c->leD a b=true->leD b c=true->leD a c=true
 anti:∀ a b,P a->P b->leD a b=true->leD b a=true->a=b
theorem zcv {P:D->Prop} (o:OrdOn P) (x:D) (hx:P x):∀ l:List D,(∀ d∈l,P d)->l.Pairwise (leD · ·=true)->(insD x l).Pairwise (leD · ·=true)
 | [],_,_=>List.pairwise_singleton _ _
 | y::r,hp,h=>by
   obtain ⟨h1,h2⟩:=pairwise_cons.mp h
   have hy:=hp y mem_cons_self
   have hr:∀ d∈r,P d:=fun d hd=>hp d (mem_cons_of_mem _ hd)
   unfold insD
   split
   ·rename_i c
    refine pairwise_cons.mpr ⟨fun d hd=>?_,h⟩
    rcases mem_cons.mp hd with rfl | hd
    ·exact c
    ·exact o.tr x y d hx hy (hr d hd) c (h1 d hd)
   ·rename_i c
    refine pairwise_cons.mpr ⟨fun d hd=>?_,zcv o x hx r hr h2⟩
    rcases mem_cons.mp ((zcz x r).mem_iff.mp hd) with rfl | hd
    ·exact (o.tot d y hx hy).resolve_left c
    ·exact h1 d hd
theorem zbd {P:D->Prop} (o:OrdOn P):∀ l:List D,(∀ d∈l,P d)->(sortD l).Pairwise (leD · ·=true)
 | [],_=>.nil
 | x::r,hp=>zcv o x (hp x mem_cons_self) _ (fun d hd=>hp d (mem_cons_of_mem _ ((zaZ r).mem_iff.mp hd))) (zbd o r fun d hd=>hp d (mem_cons_of_mem _ hd))
theorem zbI {P:D->Prop} (o:OrdOn P):∀ l m:List D,(∀ d∈l,P d)->l.Perm m->l.Pairwise (leD · ·=true)->m.Pairwise (leD · ·=true)->l=m
 | [],m,_,p,_,_=>(List.nil_perm.mp p).symm
 | x::r,[],_,p,_,_=>absurd p.length_eq (by simp)
 | x::r,y::t,hp,p,h1,h2=>by
   obtain ⟨a1,a2⟩:=pairwise_cons.mp h1
   obtain ⟨b1,b2⟩:=pairwise_cons.mp h2
   have hx:=hp x mem_cons_self
   have hy:P y:=hp y (p.mem_iff.mpr mem_cons_self)
   have e:x=y:=by
    have m1:x∈y::t:=p.mem_iff.mp mem_cons_self
    have m2:y∈x::r:=p.mem_iff.mpr mem_cons_self
    rcases mem_cons.mp m1 with e | m1
    ·exact e
    ·rcases mem_cons.mp m2 with e | m2
     ·exact e.symm
     ·exact o.anti x y hx hy (a1 y m2) (b1 x m1)
   subst e
   rw [zbI o r t (fun d hd=>hp d (mem_cons_of_mem _ hd)) (List.Perm.cons_inv p) a2 b2]
theorem za3 {P:D->Prop} (o:OrdOn P) {l m:List D} (hp:∀ d∈l,P d) (p:m.Perm l) (h:m.Pairwise (leD · ·=true)):sortD l=m:=
 zbI o _ _ (fun d hd=>hp d ((zaZ l).mem_iff.mp hd)) ((zaZ l).trans p.symm) (zbd o l hp) h
noncomputable def IsInt:D->Prop
 | .int _=>True
 | _=>False
noncomputable def IsStr:D->Prop
 | .str _=>True
 | _=>False
theorem zdE:OrdOn IsInt where
 tot
  | .int a,.int b,_,_=>by simp only [zce,decide_eq_true_eq]; omega
 tr
  | .int a,.int b,.int c,_,_,_=>by simp only [zce,decide_eq_true_eq]; omega
 anti
  | .int a,.int b,_,_=>by simp only [zce,decide_eq_true_eq]; intro h1 h2; rw [Int.le_antisymm h1 h2]
theorem zfh:OrdOn IsStr where
 tot
  | .str a,.str b,_,_=>by
    simp only [zcs,Bool.not_eq_true',decide_eq_false_iff_not]
    by_cases h:b < a
    ·exact .inr fun h'=>lt_asymm h h'
    ·exact .inl h
 tr
  | .str a,.str b,.str c,_,_,_=>by
    simp only [zcs,Bool.not_eq_true',decide_eq_false_iff_not]
    intro h1 h2
    exact fun h=>(List.le_trans (l₁:=a) (l₂:=b) (l₃:=c) h1 h2) h
 anti
  | .str a,.str b,_,_=>by
    simp only [zcs,Bool.not_eq_true',decide_eq_false_iff_not]
    intro h1 h2
    have:a=b:=List.le_antisymm (as:=a) (bs:=b) h1 h2
    rw [this]
noncomputable def intsD:List D->Option (List Int)
 | []=>some []
 | .int x::r=>(intsD r).map (x::·)
 | _::_=>none
@[simp] theorem zbN (l:List Int):intsD (l.map .int)=some l:=by
  induction l with
  | nil=>rfl
  | cons a r ih=>rw [map_cons,intsD,ih]; rfl
def sortS (l:List D):Option S:=if l.length < 64/\((intsD l).isSome\/(strsD l).isSome) then some (.lst ((sortD l).map .sh)) else none
noncomputable def bSorted:List D->Option S
 | [.lst l]=>sortS l
 | _=>none
end FL
end
section
namespace FL
open PySem PySem.Spec PyProof.Rows L2
section
variable {X:Cx} {K:W.Frag} {p pos:Pos} {e:Expr} {es:List Expr} {wa:WA}
theorem zds {F:Hp} {xs:List V} {l:List D} {ys:List Int} (r:Reps K F xs l) (h:intsD l=some ys):xs=ys.map V.int/\l=ys.map D.int:=
 Reps.ind (P:=fun xs l=>∀ ys,intsD l=some ys->xs=ys.map V.int/\l=ys.map D.int) (fun ys h=>by cases h; exact ⟨rfl,rfl⟩) (fun a _ ih ys h=>by
  cases a with
  | int c=>
    rw [intsD] at h
    obtain ⟨ys',h1,rfl⟩:=map_eq_some_iff.mp h
    obtain ⟨e1,e2⟩:=ih _ h1
    rw [e1,e2]
    exact ⟨rfl,rfl⟩
  | _=>cases h) r ys h
theorem zaY:∀ {us:List Value} {ns:List Int},IntsAre us ns->Vals (ns.map V.int) us
 | _,_,.nil=>.nil
 | _,_,.cons i t r=>.cons ⟨t,rfl⟩ (zaY r)
theorem zeN:∀ {us:List Value} {ns:List Str},StrsAre us ns->Vals (ns.map V.str) us
 | _,_,.nil=>.nil
 | _,_,.cons i t r=>.cons ⟨t,rfl⟩ (zeN r)
def rSorted (K:W.Frag):List V->Hp->VK->Prop:=fun xs H Q=>∃ a,xs=[.ref a]/\
 ((∃ ns:List Int,ns.length < 64/\SqL K H a (ns.map V.int)/\∀ ns':List Int,ns'.Perm ns->ns'.Pairwise (·<=·)->∀ q,H q=none->Q (.ref q) (upd H q (.lst (ns'.map V.int))))\/
  (∃ zs:List Str,zs.length < 64/\SqL K H a (zs.map V.str)/\∀ zs':List Str,zs'.Perm zs->sortedS zs'=true->∀ q,H q=none->Q (.ref q) (upd H q (.lst (zs'.map V.str)))))
theorem zez:CallR X (.builtin "sorted") (rSorted X.K):=by
 intro pins s σ H xs us Q I r h
 obtain ⟨a,rfl,h⟩:=h
 cases r with
 | cons r1 r2=>
   cases r2
   cases r1
   rcases h with ⟨ns,h64,hq,q⟩ | ⟨zs,h64,hq,q⟩
   ·obtain ⟨its,r,pl,_⟩:=I.list hq
    have hlen:its.length=ns.length:=by have:=r.length; rw [length_map] at this; exact this.symm
    refine sorted_ints pl.isList (za0 r) (by rw [hlen]; exact h64) fun out ns' a1 a2 a3=>?_
    obtain ⟨e,he⟩:=sortedAll_at s.heap its out
    have hz:ns'.length<=sizeLine:=by rw [a2.length_eq,sizeLine_eq]; omega
    refine ⟨.ref (s.heap.objs.size + 1),_,I.laid (t':=s.toks) (o:=.lst (ns'.map V.int)) (fun b ob w=>sortedAll_old w) (le_succ _) ?_,rfl,q ns' a2 a3 _ (I.hok.fresh (le_succ _))⟩
    exact ⟨by rw [length_map]; exact hz,out.toList,e,zaY a1,by rw [toArray_toList]; exact he⟩
   ·obtain ⟨its,r,pl,_⟩:=I.list hq
    have hlen:its.length=zs.length:=by have:=r.length; rw [length_map] at this; exact this.symm
    refine sorted_strs pl.isList (zb6 r) (by rw [hlen]; exact h64) fun out ns' a1 a2 a3=>?_
    obtain ⟨e,he⟩:=sortedAll_at s.heap its out
    have hz:ns'.length<=sizeLine:=by rw [a2.length_eq,sizeLine_eq]; omega
    refine ⟨.ref (s.heap.objs.size + 1),_,I.laid (t':=s.toks) (o:=.lst (ns'.map V.str)) (fun b ob w=>sortedAll_old w) (le_succ _) ?_,rfl,q ns' a2 a3 _ (I.hok.fresh (le_succ _))⟩
    exact ⟨by rw [length_map]; exact hz,out.toList,e,zeN a1,by rw [toArray_toList]; exact he⟩
theorem zbb {F:Hp}:∀ ns:List Int,Reps K F (ns.map V.int) (ns.map D.int)
 | []=>.nil
 | n::ns=>.cons (.int n) (zbb ns)
theorem zeu {F:Hp}:∀ zs:List Str,(∀ z∈zs,z.cps.toList.length<=16777216)->Reps K F (zs.map V.str) (zs.map fun z=>D.str z.cps.toList)
 | [],_=>.nil
 | z::zs,h=>.cons (.str rfl (h z mem_cons_self)) (zeu zs fun y hy=>h y (mem_cons_of_mem _ hy))
theorem zdc {F:Hp}:∀ {xs:List V} {l:List D} {zs:List Str},Reps K F xs l->xs=zs.map V.str->l=(zs.map fun z=>D.str z.cps.toList)/\∀ z∈zs,z.cps.toList.length<=16777216
 | _,_,[],.nil,_=>⟨rfl,fun _ h=>by cases h⟩
 | _,_,_::_,.nil,h=>by simp at h
 | _,_,[],.cons _ _,h=>by simp at h
 | _,_,z::zs,.cons a b,h=>by
   rw [map_cons] at h
   injection h with h1 h2
   subst h1
   obtain ⟨e,k⟩:=zdc b h2
   cases a with
   | str e1 z1=>
     subst e1
     refine ⟨by rw [e]; rfl,fun y hy=>?_⟩
     rcases mem_cons.mp hy with rfl | hy
     ·exact z1
     ·exact k y hy
theorem zeO:∀ (r:List Str) (p:Str),risingS p r=true->((p::r).map fun z=>D.str z.cps.toList).Pairwise (leD · ·=true)
 | [],p,_=>List.pairwise_singleton _ _
 | x::r,p,h=>by
   have h':(!ltCps x.cps.toList p.cps.toList && risingS x r)=true:=h
   rw [and_eq_true,ltCps_eq] at h'
   have ih:=zeO r x h'.2
   have px:leD (.str p.cps.toList) (.str x.cps.toList)=true:=by rw [zcs]; exact h'.1
   rw [map_cons]
   refine pairwise_cons.mpr ⟨fun d hd=>?_,ih⟩
   rw [map_cons] at hd ih
   rcases mem_cons.mp hd with rfl | hd
   ·exact px
   ·obtain ⟨z,_,rfl⟩:=mem_map.mp hd
    exact zfh.tr _ (.str x.cps.toList) _ trivial trivial trivial px ((pairwise_cons.mp ih).1 _ hd)
theorem zgv:∀ r:List Str,sortedS r=true->(r.map fun z=>D.str z.cps.toList).Pairwise (leD · ·=true)
 | [],_=>.nil
 | x::r,h=>zeO r x h
theorem ze4:DoesB K (rSorted K) bSorted:=by
 intro σ U F G H vs ds s Q rel re e hq
 obtain ⟨d,v,rfl,rfl⟩:=arg1 (fun x y r=>by cases x <;> rfl) rfl re e
 cases d with
 | lst l=>
   have e:sortS l=some s:=e
   unfold sortS at e
   split at e
   ·rename_i hc
    cases e
    obtain ⟨a,xs,rfl,h1,r1⟩:=re.1.lst rel.fr
    refine ⟨a,rfl,?_⟩
    cases q1:intsD l with
    | some ns=>
      obtain ⟨e1,e2⟩:=zds r1 q1
      subst e1
      subst e2
      refine .inl ⟨ns,by have:=hc.1; rwa [length_map] at this,h1,fun ns' p pw q hq'=>?_⟩
      have es:sortD (ns.map D.int)=ns'.map D.int:=za3 zdE (fun d hd=>by obtain ⟨z,_,rfl⟩:=mem_map.mp hd; trivial) (p.map _) (pairwise_map.mpr (pw.imp fun {a b} h=>by rw [zce]; exact decide_eq_true h))
      rw [es] at hq
      exact hq _ F _ (Same.refl F) (rel.newLD hq' (zbb ns'))
    | none=>
      cases q2:strsD l with
      | none=>rw [q1,q2] at hc; simp at hc
      | some ys=>
        obtain ⟨zs,e1,e2⟩:=zho r1 q2
        subst e1
        obtain ⟨e3,sm⟩:=zdc r1 rfl
        subst e3
        refine .inr ⟨zs,by have:=hc.1; rwa [length_map] at this,h1,fun zs' p pw q hq'=>?_⟩
        have es:sortD (zs.map fun z=>D.str z.cps.toList)=zs'.map fun z=>D.str z.cps.toList:=za3 zfh (fun d hd=>by obtain ⟨z,_,rfl⟩:=mem_map.mp hd; trivial) (p.map _) (zgv zs' pw)
        rw [es] at hq
        exact hq _ F _ (Same.refl F) (rel.newLD hq' (zeu zs' fun z hz=>sm z (p.mem_iff.mp hz)))
   ·cases e
 | _=>cases e
end
mutual
def toPy:D->PyData
 | .non=>.none
 | .bl b=>.bool b
 | .int i=>.int i
 | .str l=>.str ⟨l.toArray⟩
 | .tup l=>.tuple (toPys l)
 | .lst l=>.list (toPys l)
 | _=>.none
def toPys:List D->List PyData
 | []=>[]
 | d::r=>toPy d::toPys r
end
mutual
def showD:D->Bool
 | .non=>true
 | .bl _=>true
 | .int i=>decide (i.natAbs.log2 < 1920)
 | .str _=>true
 | .tup l=>showDs l
 | .lst l=>showDs l
 | _=>false
def showDs:List D->Bool
 | []=>true
 | d::r=>showD d && showDs r
end
mutual
theorem zfd:∀ d:D,showD d=true->(toPy d).showable=true
 | .non,_=>rfl
 | .bl _,_=>rfl
 | .int i,h=>h
 | .str _,_=>rfl
 | .tup l,h=>by
   have h':showDs l=true:=h
   simpa [toPy,PyData.showable] using zbg l h'
 | .lst l,h=>by
   have h':showDs l=true:=h
   simpa [toPy,PyData.showable] using zbg l h'
 | .dct _ _ _,h=>by cases h
 | .set _,h=>by cases h
 | .exc _ _ _,h=>by cases h
theorem zbg:∀ l:List D,showDs l=true->PyData.showableAll (toPys l)=true
 | [],_=>rfl
 | d::r,h=>by
   rw [showDs,and_eq_true] at h
   rw [toPys,PyData.showableAll,zfd d h.1,zbg r h.2]
   rfl
end
mutual
theorem zhO:∀ d:D,(toPy d).hasDict=false
 | .non=>rfl
 | .bl _=>rfl
 | .int i=>rfl
 | .str _=>rfl
 | .tup l=>by simpa [toPy,PyData.hasDict] using zcd l
 | .lst l=>by simpa [toPy,PyData.hasDict] using zcd l
 | .dct _ _ _=>rfl
 | .set _=>rfl
 | .exc _ _ _=>rfl
theorem zcd:∀ l:List D,PyData.hasDictAll (toPys l)=false
 | []=>rfl
 | d::r=>by
   rw [toPys,PyData.hasDictAll,zhO d,zcd r]
   rfl
end
mutual
theorem zjs:∀ d:D,(toPy d).depth<=dep d
 | .non=>le_refl _
 | .bl _=>le_refl _
 | .int i=>le_refl _
 | .str _=>le_refl _
 | .tup l=>by
   have:=zcy l
   simp only [toPy,PyData.depth,dep]
   omega
 | .lst l=>by
   have:=zcy l
   simp only [toPy,PyData.depth,dep]
   omega
 | .dct _ _ _=>le_refl _
 | .set _=>le_refl _
 | .exc _ _ _=>le_refl _
theorem zcy:∀ l:List D,PyData.depthAll (toPys l)<=deps l
 | []=>le_refl _
 | d::r=>by
   have h1:=zjs d
   have h2:=zcy r
   simp only [toPys,PyData.depthAll,deps]
   omega
end
end FL
end
section
namespace FL
open PySem
def atD (l m:List Nat) (i:Nat):Bool:=decide (i + m.length<=l.length) && decide ((l.drop i).take m.length=m)
def findD (l m:List Nat):Option Nat:=(List.range (l.length + 1)).find? (atD l m)
noncomputable def bListA:List D->Option S
 | [.tup l]=>some (.lst (l.map .sh))
 | [.lst l]=>some (.lst (l.map .sh))
 | [.str l]=>if l.length<=big then some (.lst (l.map fun c=>.sh (.str [c]))) else none
 | _=>none
noncomputable def tyD:D->String
 | .non=>"NoneType"
 | .bl _=>"bool"
 | .int _=>"int"
 | .str _=>"str"
 | .tup _=>"tuple"
 | .lst _=>"list"
 | .dct _ _ _=>"dict"
 | .set _=>"set"
 | .exc _ _ _=>"?"
def isTy (T:String) (d:D):Bool:=tyD d == T || (tyD d == "bool" && T == "int")
def wIsI (T:String) (a:WE):WE:=fun U Q E=>a U (fun x U1=>need (view x U1) fun d=>Q (.v (.sh (.bl (isTy T d)))) U1) E
theorem find?_first {p:Nat->Bool} {n i:Nat} (h:i < n) (hp:p i=true) (hn:∀ k,k < i->p k=false):(List.range n).find? p=some i:=by
 rw [List.find?_range_eq_some]
 exact ⟨hp,by simpa using h,fun j hj=>by simp [hn j hj]⟩
theorem find?_not {p:Nat->Bool} {n:Nat} (hn:∀ k,p k=false):(List.range n).find? p=none:=by
 rw [List.find?_eq_none]
 intro x _ h
 rw [hn x] at h; cases h
end FL
end
section
namespace FL
open PySem PySem.Spec PyProof.Rows L2
section
variable {X:Cx} {K:W.Frag}
theorem zkd {x y:Str} {i:Nat}:StrLaws.At x y x.length i↔atD x.cps.toList y.cps.toList i=true:=by
 have h1:x.length=x.cps.toList.length:=by show x.cps.size=_; rw [length_toList]
 have h2:y.length=y.cps.toList.length:=by show y.cps.size=_; rw [length_toList]
 unfold StrLaws.At atD Builtin.Str.subAt
 rw [and_eq_true,decide_eq_true_eq,decide_eq_true_eq,h1,h2,beq_iff_eq]
 refine and_congr_right fun _=>?_
 rw [<- Array.toList_inj,Array.toList_extract,List.extract_eq_take_drop]
 have:i + y.cps.toList.length - i=y.cps.toList.length:=by omega
 rw [this]
theorem zkR (x y:Str):Txt.find x y=(match findD x.cps.toList y.cps.toList with | some i=>(i:Int) | none=>-1):=by
 have hn:∀ {i},¬ StrLaws.At x y x.length i->atD x.cps.toList y.cps.toList i=false:=fun {i} h=>by
  cases q:atD x.cps.toList y.cps.toList i with
  | false=>rfl
  | true=>exact absurd (zkd.mpr q) h
 rcases find_whole x y with ⟨e,h⟩ | ⟨i,e,hi,h⟩
 ·rw [e]
  unfold findD
  rw [find?_not fun k=>hn (h k)]
 ·rw [e]
  unfold findD
  have h3:=hi.1
  have h1:x.length=x.cps.toList.length:=by show x.cps.size=_; rw [length_toList]
  rw [find?_first (i:=i) (by rw [<- h1]; omega) (zkd.mp hi) fun k hk=>hn (h k hk)]
end
section
variable {X:Cx} {K:W.Frag} {p pos:Pos} {e:Expr} {es:List Expr} {wa:WA}
def rListS:List V->Hp->VK->Prop:=fun xs H Q=>∃ x:Str,xs=[.str x]/\x.length<=sizeLine/\∀ l,H l=none->Q (.ref l) (upd H l (.lst (x.cps.toList.map fun c=>.str ⟨#[c]⟩)))
theorem zbz:∀ {xs:List V} {us:List Value},xs.length=us.length->(∀ (j:Nat) x u,xs[j]?=some x->us[j]?=some u->RelV x u)->Vals xs us
 | [],[],_,_=>.nil
 | [],_::_,h,_=>by simp at h
 | _::_,[],h,_=>by simp at h
 | x::xs,u::us,h,k=>.cons (k 0 x u rfl rfl) (zbz (by simpa using h) fun j x' u' h1 h2=>k (j + 1) x' u' (by simpa using h1) (by simpa using h2))
theorem zc5 (hc:X.calm=true):CallR X (.type "list") rListS:=by
 intro pins s σ H xs us Q I r h
 obtain ⟨x,rfl,hz,q⟩:=h
 obtain ⟨u,rfl,rx⟩:=vals1 r
 obtain ⟨t,rfl⟩:=rx
 refine call_list_str (I.ok.hd hc) x t (hn:=hz) fun h' tk acc' c' hk hS' hacc=>?_
 have hv:Vals (x.cps.toList.map fun c=>V.str ⟨#[c]⟩) acc'.toList:=zbz (by rw [length_map,length_toList,length_toList,hacc.1]) fun j y v h1 h2=>by
  obtain ⟨c,u,hc,rfl⟩:=hacc.2 j v (by rw [<- getElem?_toList]; exact h2)
  rw [getElem?_map,getElem?_toList,hc] at h1
  cases h1
  exact ⟨u,rfl⟩
 refine ⟨.ref s.heap.objs.size,_,I.laid (t':=tk) hk (le_refl _) (show ObjOk X.prog X.w _ h' _ (.lst (x.cps.toList.map fun c=>V.str ⟨#[c]⟩)) from ⟨?_,acc'.toList,c',hv,by simpa using hS'⟩),rfl,q _ (I.hok.fresh (le_refl _))⟩
 rw [length_map,length_toList]; exact hz
def rListA (K:W.Frag):List V->Hp->VK->Prop:=fun xs H Q=>rList K xs H Q\/rListS xs H Q
theorem zc8 {F:Hp}:∀ l:List Nat,Reps K F (l.map fun c=>V.str ⟨#[c]⟩) (l.map fun c=>D.str [c])
 | []=>.nil
 | c::l=>.cons (.str rfl (by show 1<=16777216; decide)) (zc8 l)
theorem zgp:DoesB K (rListA K) bListA:=by
 intro σ U F G H vs ds s Q rel re e hq
 obtain ⟨d,v,rfl,rfl⟩:=arg1 (fun x y r=>by cases x <;> rfl) rfl re e
 cases d with
 | tup l=>exact .inl (zeH σ U F G H [v] [.tup l] s Q rel re e hq)
 | lst l=>exact .inl (zeH σ U F G H [v] [.lst l] s Q rel re e hq)
 | str l=>
   obtain ⟨x,rfl,e1,z⟩:=re.1.str
   have e:(if l.length<=big then some (S.lst (l.map fun c=>S.sh (.str [c]))) else none)=some s:=e
   split at e
   ·rename_i hb
    cases e
    refine .inr ⟨x,rfl,by rw [zb9 e1]; exact zci hb,fun p hp=>?_⟩
    rw [e1]
    have h:=rel.newLD hp (zc8 l)
    rw [map_map] at h
    exact hq (.ref p) F (upd H p (.lst (l.map fun c=>V.str ⟨#[c]⟩))) (Same.refl F) h
   ·cases e
 | _=>cases e
theorem zi3 (hc:X.calm=true) (hg:Gl X "list") (hm:X.mg "list"=none) (hv:bootBuiltins "list"=some (.type "list")) (ha:FA X (e::es) wa) (he:starEach (e::es) X.env=(false,eval e X.env)::starEach es X.env:=by rfl) (hpl:(backTo pos (starEach es X.env)).any (·.1)=false:=by rfl):FE X (.Call (.Name "list" p) (e::es) [] pos) (wB bListA wa):=
 zcD (fun pn xe=>CallR.or' zd1 (zc5 (X:=wp X pn xe) hc)) zgp hg hm hv ha (by decide) (by decide) he hpl
end
section
variable {X:Cx} {pins:List (Addr×Obj)} {σ:St} {H:Hp} {s:Shared} {A:Around} {E:Value->Shared->Prop} {Q:Value->Shared->Prop} {b:Bool}
def tyOk (T:String):Bool:=T == "bool" || T == "int" || T == "str" || T == "tuple" || T == "list"
theorem zpa (K:W.Frag):∀ (T:String),tyOk T=true->∀ d:D,(∀ c f v,d≠.exc c f v)->W.kitOne K (.type (tyD d)) (.type T)=some (isTy T d):=by
 intro T hT d h2
 simp only [tyOk,or_eq_true,beq_iff_eq] at hT
 rcases hT with (((rfl | rfl) | rfl) | rfl) | rfl <;> cases d <;> first | exact absurd rfl (h2 _ _ _) | kernel_rfl
theorem ziW {x:V} {u c:Value} {d:D} (I:Inv X pins σ H s) (rx:RelV x u) (rp:Rep X.K H x d) (e:W.kitOne X.K (.type (tyD d)) c=some b) (h:∀ tk,Q (.bool b) { s with toks:=tk }):
  wpAny (model X.prog X.w) A (call (.builtin "isinstance") [u,c]) Q E s:=by
 cases rp with
 | non=>exact zaO I rx .non e h
 | bl y=>exact zaO I rx (.bl y) e h
 | int i=>exact zaO I rx (.int i) e h
 | str e1 z=>exact zaO I rx (.str _) e h
 | tup ea r=>exact zaO I rx (.tup ea) e h
 | lst ea r=>
   cases rx
   obtain ⟨its,r,pl,_⟩:=I.list ea
   obtain ⟨o,ho,hc,_⟩:=pl.isList
   exact W.kia_one W.kitx_list I.kIn ⟨o,ho,hc⟩ e (fun z=>nomatch z) h
 | @dK a kvs ks vs ea k r=>
   cases rx
   rcases ea with ea | ⟨ob,ea⟩
   ·exact zaO (x:=.ref a) I rfl (.dK ea) e h
   ·obtain ⟨_,_,_,_,p⟩:=(show ObjOk X.prog X.w H s.heap a (.frz ob (.dK kvs)) from I.hok a _ ea)
    obtain ⟨_,o,es,ep,h1,h2,_⟩:=p
    exact W.kia_one W.kitx_dict I.kIn ⟨o,h1,h2.1⟩ e (fun z=>nomatch z) h
 | @dT a kvs ks vs ea k r=>
   cases rx
   rcases ea with ea | ⟨ob,ea⟩
   ·exact zaO (x:=.ref a) I rfl (.dT ea) e h
   ·obtain ⟨_,_,_,_,p⟩:=(show ObjOk X.prog X.w H s.heap a (.frz ob (.dT kvs)) from I.hok a _ ea)
    obtain ⟨_,o,es,ep,h1,h2,_⟩:=p
    exact W.kia_one W.kitx_dict I.kIn ⟨o,h1,h2.1⟩ e (fun z=>nomatch z) h
 | @st a xs ds ea r=>
   cases rx
   have t:∃ o,s.heap.get? a=some o/\o.cls=.type "set":=by
    rcases I.hok a _ ea with ⟨_,⟨_,h1⟩ | ⟨_,_,_,o,_,_,_,h1,h2,_⟩ | ⟨_,_,_,_,o,_,_,_,h1,h2,_⟩⟩
    ·exact ⟨_,h1,rfl⟩
    ·exact ⟨o,h1,h2.1⟩
    ·exact ⟨o,h1,h2.1⟩
   exact W.kia_one W.kitx_set I.kIn t e (fun z=>nomatch z) h
theorem znU {x:V} {d:D} {K:W.Frag} (r:Rep K H x d):∀ c f v,d≠.exc c f v:=by
 cases r <;> exact fun _ _ _ z=>nomatch z
end
section
variable {X:Cx} {p pos pt:Pos} {a:Expr} {wa:WE} {T:Str} {TS:String}
theorem zdp (hg:Gl X "isinstance") (hm:X.mg "isinstance"=none) (hv:bootBuiltins "isinstance"=some (.builtin "isinstance")) (hgT:Gl X T) (hmT:X.mg T=none) (hvT:bootBuiltins T=some (.type TS)) (hT:tyOk TS=true) (ha:FE X a wa)
  (hnT:T≠"__name__":=by decide) (hdT:(T == ("__debug__":Str))=false:=by decide)
  (he:starEach [a,.Name T pt] X.env=(false,eval a X.env)::starEach [.Name T pt] X.env:=by rfl) (he2:starEach [.Name T pt] X.env=[(false,eval (.Name T pt) X.env)]:=by rfl) (hpl:(backTo pos (starEach [.Name T pt] X.env)).any (·.1)=false:=by rfl):
  FE X (.Call (.Name "isinstance" p) [a,.Name T pt] [] pos) (wIsI TS wa):=fun pn xe hp=>by
 intro pins s σ H Q I h
 refine wpAny_Call_Name_kw (zbr (X:=wp X pn xe) I hg hm hv ?_ (by decide) (by decide))
 refine PyProof.Rows.callWith_builtin1 ?_ he hpl
 show wpAny _ _ (spliced (backTo pos (starEach [a,.Name T pt] X.env))) _ _ s
 rw [he,he2]
 show wpAny _ _ (spliced ((false,eval a X.env)::[(false,eval (.Name T pt) X.env)])) _ _ s
 refine Calls.spliced_cons (thn (ha pn xe hp pins s σ H _ I (one (k:=fun x U1 Q E=>need (view x U1) fun d=>Q (.v (.sh (.bl (isTy TS d)))) U1) h)) fun u s1 ⟨x,H1,I1,r1,q1⟩=>?_)
 refine Calls.spliced_cons (zbr (X:=wp X pn xe) I1 hgT hmT hvT (Calls.spliced_nil ?_) hnT hdT)
 obtain ⟨F,G,U,y,P,PX,rel,hl,ry,hk,hok,hx⟩:=q1
 obtain ⟨d,ed,hk⟩:=zad hk
 have rp:=look (U':=[]) (σ':=[]) rel hl ry ed
 refine ziW I1 r1 rp (zpa _ TS hT d (znU rp)) fun tk=>⟨.bl _,H1,I1.kept fun _ _ z=>z,rfl,?_⟩
 exact hok _ U _ F H1 hk (Same.refl F) ((rel.drop hl).push (.bl _)) trivial
end
theorem zey:bootBuiltins "int"=some (.type "int"):=by decide +kernel
theorem za4:bootBuiltins "tuple"=some (.type "tuple"):=by decide +kernel
theorem zkP:bootBuiltins "list"=some (.type "list"):=by decide +kernel
theorem zkt:bootBuiltins "bool"=some (.type "bool"):=by decide +kernel
theorem zj9:bootBuiltins "str"=some (.type "str"):=by decide +kernel
theorem zlZ:bootBuiltins "min"=some (.builtin "min"):=by decide +kernel
theorem znd:bootBuiltins "all"=some (.builtin "all"):=by decide +kernel
theorem zbE:bootBuiltins "sorted"=some (.builtin "sorted"):=by decide +kernel
theorem zay:bootBuiltins "isinstance"=some (.builtin "isinstance"):=by decide +kernel
section
variable {X:Cx} {k:Nat}
theorem u32 {A:Around} (hr:Room k A):A.units + 32 < cLine:=by have:=hr.units; omega
theorem u31 {A:Around} (hr:Room k A):A.units + 31 < cLine:=by have:=hr.units; omega
theorem uq {N:List Str} {x:Str} {i:Nat} (h:(N.zipIdx.all fun p=>!(p.1 == x) || p.2 == i)=true):∀ j,N[j]?=some x->j=i:=by
 intro j hj
 have hj':j < N.length:=(List.getElem?_eq_some_iff.mp hj).1
 have:=all_eq_true.mp h (x,j) (by rw [List.mem_zipIdx_iff_getElem?]; simpa using hj)
 simpa using this
instance (outer scope:Scope) (N vars:List Str):Decidable (scope.kind=.function/\(∀ x∈scope.names,x.2=.free->outer.names.lookup x.1=some .cell\/outer.names.lookup x.1=some .free)/\(scope.names.map (·.1)).Nodup/\
  (∀ x∈N,x∉vars->(x,NameKind.local)∉scope.names/\(x,NameKind.cell)∉scope.names)/\scope.names.lookup Str.empty=none):=inferInstance
def compOk (outer scope:Scope) (N vars:List Str):Bool:=decide (scope.kind=.function/\(∀ x∈scope.names,x.2=.free->outer.names.lookup x.1=some .cell\/outer.names.lookup x.1=some .free)/\(scope.names.map (·.1)).Nodup/\
    (∀ x∈N,x∉vars->(x,NameKind.local)∉scope.names/\(x,NameKind.cell)∉scope.names)/\scope.names.lookup Str.empty=none)
theorem compSc {outer scope:Scope} {N vars:List Str} (h:compOk outer scope N vars=true):CompScope outer scope N vars:=
 let ⟨a,b,c,d,e⟩:=of_decide_eq_true h
 ⟨a,b,c,d,e⟩
end
theorem zjP {K:W.Frag} {F H:Hp} {v:V} {fp:List Addr} (r:SRep K F H v (.sh (.bl true)) fp):v=.bl true:=by
 cases r with
 | sh r=>cases r; rfl
theorem znv {K:W.Frag} {wf:WF} (h:∀ ns:List Int,ns.length<=63->wf [.sh (.lst (ns.map .int))] (fun s _=>s=.sh (.bl true)) fun _ _=>True) (H:Hp) (a:Addr) (ns:List Int) (hl:ns.length<=63) (hS:SqL K H a (ns.map V.int)):
  spW K wf 1 [.ref a] H (fun v _=>v=.bl true) fun _ _ _=>False:=by
 refine ⟨H,fun _=>none,[.sh (.lst (ns.map .int))],_,_,rfl,⟨Same.refl H,fun _ _ z=>(nomatch z),[]++[],.so (.sh (.lst hS (zbb ns))) .nil,List.nodup_nil,fun _ z=>(nomatch z)⟩,h ns hl,fun s ss' v F' H' hs sm hlen r=>?_⟩
 subst hs
 obtain ⟨u,fp,e1,q⟩:=r.at (i:=ss'.length) (s:=.sh (.bl true)) (by
  have:=zaA (U:=ss'.map some) (o:=some (.sh (.bl true))) (U':=[])
  simpa using this)
 have hl1:ss'.length=1:=hlen
 rw [hl1] at e1
 have:u=v:=by simpa using e1.symm
 rw [<- this]
 exact zjP q
end FL
end
section
namespace FL
end FL
end
section
namespace FL
open PySem PySem.Spec PyProof.Rows L2
section
variable {X:Cx} {a b c:Expr} {wa wb wc:WE} {pos:Pos}
theorem zcJ (ha:FE X a wa):FE X (.UnaryOp .USub a pos) (wUn oNeg wa):=fun pn xe hp=>by
 refine PE.imp (zoQ zoa (ha pn xe hp)) fun σ H Q q=>?_
 refine (one (k:=fun x U1 Q E=>need (viewC x U1) fun p=>need (oNeg p) fun s=>Q (.v s) U1) q).mono fun v H1 h1=>?_
 obtain ⟨F,G,U,x,P,PX,rel,hl,rx,hk,hok,hx⟩:=h1
 obtain ⟨p,ep,hk⟩:=zad hk
 obtain ⟨s,es,hk⟩:=zad hk
 obtain ⟨F1,s1,re,r1⟩:=takeC (U':=[]) (σ':=[]) rel hl rx ep
 cases p with
 | int i=>
   cases es
   have e:=re.int
   subst e
   exact ⟨i,rfl,hok _ U _ F1 H1 hk s1 ((show Rel _ U σ F1 G H1 by simpa using r1).push (.int _)) trivial⟩
 | _=>cases es
end
open AutoSeq1 (wpAny_loadPart')
section
variable {prog:Program} {w:World} {A:Around} {E:Value->Shared->Prop} {s:Shared}
theorem znc {u z:Addr} {n:Nat} {xs:Array Value} {v:Value} {Q:Value->Shared->Prop} (hu:s.heap.IsTupleIter u z n) (hz:s.heap.IsTuple z xs) (hv:xs[n]?=some v) (k:∀ h',h'.IsTupleIter u z (n + 1)->Heap.SameBut u s.heap h'->Q v { s with heap:=h' }):
  wpAny (model prog w) A (Builtin.SmallTypes.nextOf (.ref u)) Q E s:=by
 obtain ⟨ob,e0,e1,e2⟩:=id hu
 obtain ⟨zb,f0,_,zn,f2⟩:=hz
 unfold Builtin.SmallTypes.nextOf
 apply wpAny_bind
 refine wpAny_callSpecial?_slot (name:=Str.ofString "__next__") hu.typeIs F.slot_tuple_iterator_next (wpAny_call_entry F.slot_tuple_iterator_next hu.typeIs F.entry_tuple_iterator_next ?_ (F.args_tuple_iterator_next_1 _))
 show wpAny _ _ (field (.ref u) 0 >>= _) _ _ _
 apply wpAny_bind
 refine wpAny_field e0 e2 (x:=.ref z) rfl ?_
 show wpAny _ _ (if (Value.ref z == Value.none)=true then _ else _) _ _ _
 rw [if_neg (show ¬ ((Value.ref z == Value.none)=true) from Bool.false_ne_true)]
 show wpAny _ _ (field (.ref u) 1 >>= _) _ _ _
 apply wpAny_bind
 refine wpAny_field e0 e2 (x:=.int n 0) rfl ?_
 show wpAny _ _ (seqItems? (.ref z) >>= _) _ _ _
 apply wpAny_bind
 refine wpAny_seqItems f0 f2 ?_
 simp only [toNat_natCast,hv]
 apply wpAny_bind
 refine wpAny_setField e0 e2 (by simp) (wpAny_pure ⟨v,rfl,wpAny_pure (k _ ⟨_,Heap.get?_update_self _ e0 (Obj.isFreed_of_fields (Obj.data_mapFields e2 _)),(Obj.cls_mapFields ..).trans e1,?_⟩ (Heap.SameBut.update ..))⟩)
 rw [Obj.data_mapFields e2]
 simp [rawInt]
theorem zdb {u z:Addr} {n:Nat} {xs:Array Value} {Q:Value->Shared->Prop} (hh:A.handled=none) (hu:s.heap.IsTupleIter u z n) (hz:s.heap.IsTuple z xs) (hv:xs[n]?=none)
  (k:∀ h' e,Heap.ExtBut u s.heap h'->(∃ o,h'.get? e=some o/\o.cls=.type "StopIteration")->E (.ref e) { s with heap:=h' }):wpAny (model prog w) A (Builtin.SmallTypes.nextOf (.ref u)) Q E s:=by
 obtain ⟨ob,e0,e1,e2⟩:=id hu
 obtain ⟨zb,f0,_,zn,f2⟩:=hz
 unfold Builtin.SmallTypes.nextOf
 apply wpAny_bind
 refine wpAny_callSpecial?_slot (name:=Str.ofString "__next__") hu.typeIs F.slot_tuple_iterator_next (wpAny_call_entry F.slot_tuple_iterator_next hu.typeIs F.entry_tuple_iterator_next ?_ (F.args_tuple_iterator_next_1 _))
 show wpAny _ _ (field (.ref u) 0 >>= _) _ _ _
 apply wpAny_bind
 refine wpAny_field e0 e2 (x:=.ref z) rfl ?_
 show wpAny _ _ (if (Value.ref z == Value.none)=true then _ else _) _ _ _
 rw [if_neg (show ¬ ((Value.ref z == Value.none)=true) from Bool.false_ne_true)]
 show wpAny _ _ (field (.ref u) 1 >>= _) _ _ _
 apply wpAny_bind
 refine wpAny_field e0 e2 (x:=.int n 0) rfl ?_
 show wpAny _ _ (seqItems? (.ref z) >>= _) _ _ _
 apply wpAny_bind
 refine wpAny_seqItems f0 f2 ?_
 simp only [toNat_natCast,hv]
 apply wpAny_bind
 apply wpAny_rule
 apply wpAny_bind
 refine wpAny_setField e0 e2 (by simp) ?_
 show wpAny _ _ (newExc (.type "StopIteration") [] >>= _) _ _ _
 apply wpAny_bind
 simp only [newExc,newTuple]
 apply wpAny_bind
 refine wpAny_newObj_type ?_ (by size_fits)
 refine wpAny_bind (m:=firstArgMember _ _) (wpAny_of_eq (a:=Value.none) (by first | rfl | (simp only [firstArgMember]; rfl)) (wpAny_newObj_type ?_ (by size_fits)))
 simp only [raiseNew]
 apply wpAny_bind
 refine wpAny_handled ?_
 first | rw [show A.in1.handled=none from hh] | rw [hh]
 exact wpAny_bind (wpAny_pure (wpAny_throw (k _ _ (((Heap.SameBut.update ..).extBut.push _).push _) ⟨_,Heap.get?_push_size _ rfl,rfl⟩)))
end
theorem zg7 {prog:Program} {w:World} {A:Around} (hh:A.handled=none) (u z:Addr) (hne:z≠u) (xs:Array Value):
  Draws prog w A u [u,z] xs.size (fun i v=>xs[i]?=some v) (fun i h=>h.IsTupleIter u z i/\h.IsTuple z xs) where
 live:=fun _ _ st=>let ⟨o,e,_⟩:=st.1; ⟨o,e⟩
 frame:=fun _ _ _ st k=>⟨st.1.at fun o e=>k u (by simp) o e,by obtain ⟨o,e,r⟩:=st.2; exact ⟨o,k z (by simp) o e,r⟩⟩
 item:=fun i s Q E hi st k=>znc st.1 st.2 (v:=xs[i]) (by simp [hi]) fun h' a b=>k _ h' s.toks (by simp [hi]) ⟨a,by obtain ⟨o,e,r⟩:=st.2; exact ⟨o,b.extBut _ _ hne e,r⟩⟩ b
 done:=fun s Q E st k=>zdb hh st.1 st.2 (by simp) k
structure Src (P:Program) (w:World) (K:W.Frag) (J:It) (it:Addr) (tn:Nat->Heap->Prop):Prop where
 live:∀ i h,tn i h->∃ o,h.get? it=some o/\(∀ v,o.data≠.cell v)/\o.cls≠.type "enumerate"/\o.cls≠.type "zip"/\o.cls≠.type "tuple"/\o.cls≠.type "list"
 keep:∀ i h h',tn i h->(∀ o,h.get? it=some o->h'.get? it=some o)->tn i h'
 yl:∀ i H x H',J.yld i H x H'->H'=H
 item:∀ (X:Cx),X.prog=P->X.w=w->X.K=K->∀ (i:Nat) (pins:List (Addr×Obj)) (s:Shared) (σ:St) (H:Hp) (A:Around),A.handled=none->Inv X pins σ H s->tn i s.heap->H it=none->J.go i H->
  ∃ fp n Pr Sx,Draws P w A it fp n Pr Sx/\Sx i s.heap/\i < n/\it∈fp/\(∀ b∈fp,b=it\/(H b≠none/\∃ o,s.heap.get? b=some o/\o.cls=.type "tuple")\/∃ o,s.heap.get? b=some o/\o.cls=.type "list")/\(∀ v,Pr i v->∃ x,RelV x v/\J.yld i H x H)/\∀ h',Sx (i + 1) h'->tn (i + 1) h'
 done:∀ (X:Cx),X.prog=P->X.w=w->X.K=K->∀ (i:Nat) (pins:List (Addr×Obj)) (s:Shared) (σ:St) (H:Hp) (A:Around),A.handled=none->Inv X pins σ H s->tn i s.heap->J.stop i H->∀ (Q:Value->Shared->Prop) (E:Value->Shared->Prop),
  (∀ h' e,Heap.ExtBut it s.heap h'->(∃ o,h'.get? e=some o/\o.cls=.type "StopIteration")->E (.ref e) { s with heap:=h' })->wpAny (model P w) A (Builtin.SmallTypes.nextOf (.ref it)) Q E s
theorem zfx {P:Program} {w:World} {K:W.Frag} (a it:Addr):Src P w K (Itl K a) it (fun i h=>h.IsListIter it a i) where
 live:=fun i h st=>by
  obtain ⟨o,e,c,d⟩:=st
  exact ⟨o,e,fun v z=>by (rw [d] at z; cases z),by rw [c]; decide,by rw [c]; decide,by rw [c]; decide,by rw [c]; decide⟩
 keep:=fun i h h' st k=>st.at k
 yl:=fun i H x H' h=>h.1
 item:=by
  intro X hP hw hK i pins s σ H A hh I st hn hg
  subst hP hw hK
  obtain ⟨xs,x,hq,hx⟩:=hg
  obtain ⟨its,rv,p,hz⟩:=I.list hq
  obtain ⟨lo,l1,l2,l3⟩:=id p.isList
  have hne:a≠it:=fun z=>by
   obtain ⟨o,e,c,d⟩:=id st
   rw [<- z,l1] at e
   cases e
   rw [l2] at c
   exact absurd c (by decide)
  have hl:=rv.length
  have hi:i < its.toArray.size:=by
   have:=(List.getElem?_eq_some_iff.mp hx).1
   rw [size_toArray]; omega
  refine ⟨_,_,_,_,Draws.list hh it a hne its.toArray,⟨st,p.isList⟩,hi,by simp,fun b hb=>?_,fun v hv=>?_,fun h' z=>z.1⟩
  ·simp at hb
   rcases hb with rfl | rfl
   ·exact .inl rfl
   ·exact .inr (.inr ⟨lo,l1,l2⟩)
  ·obtain ⟨u,hu,ru⟩:=rv.get hx
   have:u=v:=by
    have hv':its[i]?=some v:=by simpa using hv
    rw [hu] at hv'; exact Option.some.inj hv'
   subst this
   exact ⟨x,ru,rfl,fun ys hy=>by rw [I.list_inj hy hq]; exact hx⟩
 done:=by
  intro X hP hw hK i pins s σ H A hh I st hg Q E k
  subst hP hw hK
  obtain ⟨xs,hq,hx⟩:=hg
  obtain ⟨its,rv,p,hz⟩:=I.list hq
  have hl:=rv.length
  exact wpAny_nextOf_list_end hh st p.isList (by simp; omega) k
def Itu (a:Addr):It:=⟨fun i H=>∃ xs x,H a=some (.tup xs)/\xs[i]?=some x,fun i H x H'=>H'=H/\∀ xs,H a=some (.tup xs)->xs[i]?=some x,fun i H=>∃ xs,H a=some (.tup xs)/\xs.length<=i⟩
theorem zic {P:Program} {w:World} {K:W.Frag} (a it:Addr):Src P w K (Itu a) it (fun i h=>h.IsTupleIter it a i) where
 live:=fun i h st=>by
  obtain ⟨o,e,c,d⟩:=st
  exact ⟨o,e,fun v z=>by (rw [d] at z; cases z),by rw [c]; decide,by rw [c]; decide,by rw [c]; decide,by rw [c]; decide⟩
 keep:=fun i h h' st k=>st.at k
 yl:=fun i H x H' h=>h.1
 item:=by
  intro X hP hw hK i pins s σ H A hh I st hn hg
  subst hP hw hK
  obtain ⟨xs,x,hq,hx⟩:=hg
  obtain ⟨its,rv,p,hz⟩:=I.tuple (SqT.of hq)
  obtain ⟨lo,l1,l2,l3⟩:=id p
  have hne:a≠it:=fun z=>by rw [z,hn] at hq; cases hq
  have hl:=rv.length
  have hi:i < its.toArray.size:=by
   have:=(List.getElem?_eq_some_iff.mp hx).1
   rw [size_toArray]; omega
  refine ⟨_,_,_,_,zg7 hh it a hne its.toArray,⟨st,p⟩,hi,by simp,fun b hb=>?_,fun v hv=>?_,fun h' z=>z.1⟩
  ·simp at hb
   rcases hb with rfl | rfl
   ·exact .inl rfl
   ·exact .inr (.inl ⟨fun z=>by (rw [z] at hq; cases hq),lo,l1,l2⟩)
  ·obtain ⟨u,hu,ru⟩:=rv.get hx
   have:u=v:=by
    have hv':its[i]?=some v:=by simpa using hv
    rw [hu] at hv'; exact Option.some.inj hv'
   subst this
   exact ⟨x,ru,rfl,fun ys hy=>by rw [hq] at hy; cases hy; exact hx⟩
 done:=by
  intro X hP hw hK i pins s σ H A hh I st hg Q E k
  subst hP hw hK
  obtain ⟨xs,hq,hx⟩:=hg
  obtain ⟨its,rv,p,hz⟩:=I.tuple (SqT.of hq)
  have hl:=rv.length
  exact zdb hh st p (by simp; omega) k
theorem zhK {P:Program} {w:World} {K:W.Frag} (it:Addr) (x:Str) (t:Tok):Src P w K (Its x) it (fun i h=>h.IsStrIter it (strIterType x) x t i) where
 live:=fun i h st=>by
  obtain ⟨o,e,c,d⟩:=st
  have hc:o.cls=.type "str_ascii_iterator"\/o.cls=.type "str_iterator":=by
   rw [c]; unfold strIterType; split
   ·exact .inl rfl
   ·exact .inr rfl
  exact ⟨o,e,fun v z=>by (rw [d] at z; cases z),by rcases hc with q | q <;> (rw [q]; decide),by rcases hc with q | q <;> (rw [q]; decide),by rcases hc with q | q <;> (rw [q]; decide),by rcases hc with q | q <;> (rw [q]; decide)⟩
 keep:=fun i h h' st k=>by
  obtain ⟨o,e,r⟩:=st
  exact ⟨o,k o e,r⟩
 yl:=fun i H x H' h=>h.1
 item:=by
  intro X hP hw hK i pins s σ H A hh I st hn hg
  subst hP hw hK
  have fin:∀ v:Value,(∃ c u,x.cps[i]?=some c/\v=.str ⟨#[c]⟩ u)->∃ y,RelV y v/\(Its x).yld i H y H:=fun v ⟨c,u,e,ev⟩=>⟨.str ⟨#[c]⟩,by rw [ev]; exact ⟨u,rfl⟩,rfl,c,e,rfl⟩
  cases ha:x.cps.all (· < 128)
  ·have e:strIterType x="str_iterator":=by unfold strIterType; rw [ha]; rfl
   rw [e] at st ⊢
   exact ⟨_,_,_,_,Draws.strWide hh it x t,st,hg,by simp,fun b hb=>.inl (by simpa using hb),fin,fun _ z=>z⟩
  ·have e:strIterType x="str_ascii_iterator":=by unfold strIterType; rw [ha]; rfl
   rw [e] at st ⊢
   exact ⟨_,_,_,_,Draws.strAscii hh it x t,st,hg,by simp,fun b hb=>.inl (by simpa using hb),fin,fun _ z=>z⟩
 done:=by
  intro X hP hw hK i pins s σ H A hh I st hg Q E k
  have hn:x.cps[i]?=none:=by
   have:x.cps.size<=i:=hg
   simp [this]
  cases ha:x.cps.all (· < 128)
  ·have e:strIterType x="str_iterator":=by unfold strIterType; rw [ha]; rfl
   rw [e] at st
   exact wpAny_nextOf_wide_end hh st hn k
  ·have e:strIterType x="str_ascii_iterator":=by unfold strIterType; rw [ha]; rfl
   rw [e] at st
   exact wpAny_nextOf_ascii_end hh st hn k
end FL
end
section
namespace FL
noncomputable def enumF (k:Nat):List D->List D
 | []=>[]
 | d::l=>.tup [.int k,d]::enumF (k + 1) l
def wEnum (a:WE):WI:=fun U Q E=>a U (fun r U1=>need (give r U1) fun p=>need (items p.1.toD) fun l=>Q (enumF 0 l) p.2) E
noncomputable def zipD:List D->List D->List D
 | d::l,e::m=>.tup [d,e]::zipD l m
 | _,_=>[]
def wZip (a b:WE):WI:=fun U Q E=>a U (fun r U1=>b U1 (fun t U2=>need (give r U2) fun p=>need (give t p.2) fun q=>need (items p.1.toD) fun l=>need (items q.1.toD) fun m=>Q (zipD l m) q.2) E) E
theorem zek:∀ (l:List D) (k i:Nat) (d:D),(enumF k l)[i]?=some d->∃ e,l[i]?=some e/\d=.tup [.int ((k + i:Nat):Int),e]
 | [],_,_,_,h=>by simp [enumF] at h
 | e::l,k,0,d,h=>by
   simp [enumF] at h
   exact ⟨e,rfl,by simpa using h.symm⟩
 | e::l,k,i + 1,d,h=>by
   obtain ⟨e',h1,h2⟩:=zek l (k + 1) i d (by simpa [enumF] using h)
   exact ⟨e',by simpa using h1,by rw [h2]; congr 4; omega⟩
theorem zeL:∀ (l:List D) (k:Nat),(enumF k l).length=l.length
 | [],_=>rfl
 | _::l,k=>by simp [enumF,zeL l]
theorem zfX:∀ (l m:List D) (i:Nat) (d:D),(zipD l m)[i]?=some d->∃ e f,l[i]?=some e/\m[i]?=some f/\d=.tup [e,f]
 | [],_,_,_,h=>by simp [zipD] at h
 | _::_,[],_,_,h=>by simp [zipD] at h
 | e::l,f::m,0,d,h=>by
   simp [zipD] at h
   exact ⟨e,f,rfl,rfl,h.symm⟩
 | e::l,f::m,i + 1,d,h=>by
   obtain ⟨e',f',h1,h2,h3⟩:=zfX l m i d (by simpa [zipD] using h)
   exact ⟨e',f',by simpa using h1,by simpa using h2,h3⟩
theorem zft:∀ (l m:List D),(zipD l m).length=min l.length m.length
 | [],_=>by simp [zipD]
 | _::_,[]=>by simp [zipD]
 | _::l,_::m=>by simp [zipD,zft l m]
end FL
end
section
namespace FL
open PySem PySem.Spec PyProof.Rows L2
open AutoSeq1 (wpAny_loadPart')
section
variable {X:Cx} {pins:List (Addr×Obj)} {σ:St} {H:Hp} {s:Shared} {h':Heap}
theorem zbe {t':Nat} {ch:List Addr} (I:Inv X pins σ H s) (hf:∀ b∈ch,FpOk X pins H b) (k:∀ b o,b∉ch->s.heap.get? b=some o->h'.get? b=some o):Inv X pins σ H { s with heap:=h',toks:=t' }:=by
 have nit:∀ b u,H b=some u->b∉ch:=fun b u e z=>by rw [(hf b z).1] at e; cases e
 refine I.step (g':=s.gens) (d':=s.drawn) (ch:=ch) (fun b hb=>?_) (fun b o _ _ hc e _=>k b o hc e) (fun b o _ _ hc e _=>⟨o.slots,k b o hc e⟩) (fun _ _ _ _ n=>n)
  (fun b o hc e=>⟨o,k b o hc e⟩) (fun _ _ e=>e) (fun _ _ _ e=>e) (fun b ps e=>⟨#[],by rw [e]; simp⟩) (fun m hm=>?_) (fun b u e=>?_) I.bare
 ·obtain ⟨f0,f1,f2,f3,f4,f5⟩:=hf b hb
  exact ⟨f3,f1,f4,f5⟩
 ·obtain ⟨o,es,ep,ho,r⟩:=hm
  exact ⟨o,es,ep,k _ o (fun z=>(hf _ z).2.1 rfl) ho,r⟩
 ·refine (I.hok b u e).stay (fun c v hc q=>k c v ?_ q) (fun _ q=>q) fun _ _ q=>q
  rcases hc with z | z
  ·rw [z]; exact nit b u e
  ·exact nit c _ z
theorem zi5 {b T:Addr} {o:HO} (f:FpOk X pins H b) (h:b≠T):FpOk X pins (L2.upd H T o) b:=⟨by rw [zag h]; exact f.1,f.2⟩
theorem zcr {t':Nat} {ch:List Addr} {us:List Value} {xs:List V} (I:Inv X pins σ H s) (hf:∀ b∈ch,FpOk X pins H b) (hl:∀ b∈ch,b < s.heap.objs.size) (hz:xs.length<=sizeLine) (rv:Vals xs us)
  (hT:∃ o,h'.get? s.heap.objs.size=some o/\o.cls=.type "tuple"/\∃ n,o.data=.seq us.toArray n) (k:∀ b o,b∉ch->s.heap.get? b=some o->h'.get? b=some o):
  Inv X pins σ (L2.upd H s.heap.objs.size (.tup xs)) { s with heap:=h',toks:=t' }:=by
 obtain ⟨o,e,c,n,d⟩:=hT
 have hfree:o.isFreed=false:=by
  obtain ⟨oc,od,odt,osl⟩:=o
  have d':odt=.seq us.toArray n:=d
  subst d'
  rfl
 have I1:Inv X pins σ (L2.upd H s.heap.objs.size (.tup xs)) { s with heap:=s.heap.push o }:=I.laid (t':=s.toks) (fun b u q=>Heap.get?_push_of_some _ q) (le_refl _) ⟨hz,us,rv,⟨o,Heap.get?_push_size _ hfree,c,n,d⟩⟩
 have I2:=zbe I1 (h':=h') (t':=t') (ch:=ch) (fun b hb=>zi5 (hf b hb) (ne_of_lt (hl b hb))) fun b u hb q=>by
  rcases Heap.get?_push_cases q with ⟨rfl,rfl⟩ | q
  ·exact e
  ·exact k b u hb q
 exact I2
end
def Ite (J:It):It:=⟨J.go,fun i H x H'=>∃ p y,H p=none/\J.yld i H y H/\x=.ref p/\H'=upd H p (.tup [.int i,y]),J.stop⟩
section
variable {prog:Program} {w:World} {A:Around} {E:Value->Shared->Prop} {s:Shared}
theorem zjv {e it:Addr} {i:Int} {old:Value} {Q:Option Value->Shared->Prop} (he:IsEnum s.heap e it i old) (hd:∀ (Q:Value->Shared->Prop) (E:Value->Shared->Prop),(∀ h' x,Heap.ExtBut it s.heap h'->(∃ o,h'.get? x=some o/\o.cls=.type "StopIteration")->E (.ref x) { s with heap:=h' })->wpAny (model prog w) A.in1 (Builtin.SmallTypes.nextOf (.ref it)) Q E s)
  (hQ:∀ h',Heap.ExtBut it s.heap h'->Q none { s with heap:=h' }):wpAny (model prog w) A (pyNext (.ref e)) Q E s:=by
 have ty:s.TypeIs (.ref e) "enumerate":=⟨_,he,rfl⟩
 unfold pyNext
 apply wpAny_bind
 apply wpAny_attempt
 refine wpAny_callSpecial?_slot (name:=Str.ofString "__next__") ty F.slot_enumerate_next (wpAny_call_entry F.slot_enumerate_next ty F.entry_enumerate_next ?_ (F.args_enumerate_next_1 _))
 show wpAny _ _ (field (.ref e) 2 >>= _) _ _ _
 apply wpAny_bind
 refine wpAny_field he rfl (x:=.ref it) rfl (wpAny_bind (hd _ _ fun h' x hx1 hx2=>?_))
 obtain ⟨o,ho,hc⟩:=hx2
 exact wpAny_bind (wpAny_isInstance (T:="StopIteration") (b:=true) ⟨o,ho,hc⟩ isSubtype_stop (wpAny_pure (hQ _ hx1)))
end
theorem zhI {P:Program} {w:World} {K:W.Frag} {J:It} {it e:Addr} {tn:Nat->Heap->Prop} {elts:List Expr} {k:Nat} {pos:Pos} (S:Src P w K J it tn) (hei:e≠it):
  Turn P w K (.Tuple elts k pos) (Ite J) [e,it] e (fun i h=>(∃ old,IsEnum h e it i old)/\tn i h) where
 mem:=by simp
 obj:=fun i h st b hb=>by
  simp at hb
  rcases hb with rfl | rfl
  ·obtain ⟨old,q⟩:=st.1
   exact ⟨_,q,fun v z=>by cases z⟩
  ·obtain ⟨o,h1,h2,_⟩:=S.live i h st.2
   exact ⟨o,h1,h2⟩
 keep:=fun i h h' st kk=>by
  obtain ⟨⟨old,q⟩,t⟩:=st
  exact ⟨⟨old,kk e (by simp) _ q⟩,S.keep i h h' t fun o q=>kk it (by simp) o q⟩
 item:=by
  intro X hP hw hK hc i pins s σ H E I hf st hg
  obtain ⟨⟨old,he⟩,ht⟩:=st
  have hh:X.A.in1.handled=none:=I.ok.hd hc
  obtain ⟨fp,n,Pr,Sx,D,hS,hin,hif,hfp,hv,hs⟩:=S.item X hP hw hK i pins s σ H X.A.in1 hh I ht (hf it (by simp)).1 hg
  have hef:e∉fp:=fun z=>by
   rcases hfp e z with q | ⟨_,o,q,c⟩ | ⟨o,q,c⟩
   ·exact hei q
   ·rw [he] at q; cases q; exact absurd c (show ¬ (Value.type "enumerate"=Value.type "tuple") by decide)
   ·rw [he] at q; cases q; exact absurd c (show ¬ (Value.type "enumerate"=Value.type "list") by decide)
  have hel:e < s.heap.objs.size:=Heap.lt_size he
  obtain ⟨oi,hoi,_⟩:=S.live i _ ht
  have hil:it < s.heap.objs.size:=Heap.lt_size hoi
  subst hP hw hK
  refine wpAny_pyNext_enum_itemD (A:=X.A) D he hS hin hei hef fun x h1 tk hPx ho hS1 hT hsz hk=>?_
  obtain ⟨y,ry,hy⟩:=hv x hPx
  refine ⟨_,rfl,wpAny_letOwnedTupleGo_enum ho fun h2 he2 sb=>?_⟩
  have ne:s.heap.objs.size≠e:=ne_of_gt hel
  have I2:Inv X pins σ (upd H s.heap.objs.size (.tup [.int i,y])) { s with heap:=h2,toks:=tk + 1 }:=zcr I (ch:=[e,it]) (us:=[.int i tk,x]) hf (fun b hb=>by
    simp at hb
    rcases hb with rfl | rfl
    ·exact hel
    ·exact hil) (by show 2<=_; decide) (.cons ⟨_,rfl⟩ (.cons ry .nil)) ⟨_,sb.extBut _ _ ne hT,rfl,_,rfl⟩ fun b o hb q=>by
   simp at hb
   exact sb.extBut _ _ hb.1 (hk b o hb.1 hb.2 q)
  refine ⟨.ref s.heap.objs.size,_,I2,rfl,⟨s.heap.objs.size,y,I.hok.fresh (le_refl _),hy,rfl,rfl⟩,⟨⟨x,by simpa using he2⟩,S.keep _ _ _ (hs _ hS1) fun o q=>sb.extBut _ _ (Ne.symm hei) q⟩,fun b hb=>?_⟩
  simp at hb
  rcases hb with rfl | rfl
  ·rw [zag (ne_of_lt hel)]; exact (hf _ (by simp)).1
  ·rw [zag (ne_of_lt hil)]; exact (hf _ (by simp)).1
 done:=by
  intro X hP hw hK hc i pins s σ H E I hf st hg
  obtain ⟨⟨old,he⟩,ht⟩:=st
  have hh:X.A.in1.handled=none:=I.ok.hd hc
  refine zjv he (S.done X hP hw hK i pins s σ H X.A.in1 hh I ht hg) fun h' hx=>⟨rfl,zbe I (t':=s.toks) (ch:=[it]) (fun b hb=>hf b (by simp at hb; simp [hb])) fun b o hb q=>hx b o (by simpa using hb) q⟩
 self:=fun A i s Q E st h=>by
  obtain ⟨⟨old,he⟩,_⟩:=st
  exact wpAny_pyIter_enum he h
abbrev enumH (h:Heap) (z:Addr):Heap:=(h.push { cls:=.type "tuple_iterator",data:=.fields #[.ref z,.int 0 0] }).push { cls:=.type "enumerate",data:=.fields #[.none,.bool false,.ref h.objs.size,rawInt 0,.none,.none] }
set_option maxHeartbeats 1000000 in
theorem zgU (z:Addr) (xs:Array Value) (n:Nat) (dd:Option Addr) (sl:Array (Option Value)):Meets (Builtin.«enumerate.__new__» ⟨[.type "enumerate",.ref z],[]⟩) (fun _ R s=>s.heap.get? z=some { cls:=.type "tuple",dict:=dd,data:=.seq xs n,slots:=sl }/\
  R (.ok (.ret (.ref (s.heap.objs.size + 1)))) { s with heap:=enumH s.heap z }):=
 .of_wp fun prog w A R s hyp=>by
  obtain ⟨hp,g,d,tk,os⟩:=s
  obtain ⟨hl,hr⟩:=hyp
  have ss:=sub_enumerate
  have hz:(hp.push { cls:=.type "tuple_iterator",data:=.fields #[.ref z,.int 0 0] }).objs.size=hp.objs.size + 1:=Heap.size_push ..
  have hr':R (.ok (.ret (.ref (hp.push { cls:=.type "tuple_iterator",data:=.fields #[.ref z,.int 0 0] }).objs.size))) { heap:=enumH hp z,gens:=g,drawn:=d,toks:=tk,os:=os }:=by rw [hz]; exact hr
  have hT:Heap.IsTuple (Shared.heap ⟨hp,g,d,tk,os⟩) z xs:=⟨_,hl,rfl,n,rfl⟩
  wp_walk using wpAny_loadPart' hl
  refine wpAny_stack_any fun st=>wpAny_pure ?_
  split
  ·rename_i c _ _ _ _ _
   cases (c == Value.type "enumerate") <;> (wp_walk using wpAny_loadPart' hl,wpAny_pyIter_tuple hT; exact ⟨_,rfl,hr'⟩)
  ·wp_walk using wpAny_loadPart' hl,wpAny_pyIter_tuple hT
   exact ⟨_,rfl,hr'⟩
theorem ziM {prog:Program} {w:World} {A:Around} {E:Value->Shared->Prop} {s:Shared} {z:Addr} {xs:Array Value} {Q:Value->Shared->Prop} (hT:s.heap.IsTuple z xs)
  (k:∀ h',IsEnum h' (s.heap.objs.size + 1) s.heap.objs.size 0 .none->h'.IsTupleIter s.heap.objs.size z 0->(∀ b o,s.heap.get? b=some o->h'.get? b=some o)->Q (.ref (s.heap.objs.size + 1)) { s with heap:=h' }):
  wpAny (model prog w) A (call (.type "enumerate") [.ref z]) Q E s:=by
 obtain ⟨⟨c,dd,dt,sl⟩,hl,hc,n,hd⟩:=hT
 have e1:c=.type "tuple":=hc
 have e2:dt=.seq xs n:=hd
 subst e1 e2
 refine callType_new F.called_enumerate (by decide) (F.typeCall_enumerate_1 _) (F.newCall_enumerate_1 _) (fun obj=>F.args_object_init_2 obj _) F.entry_enumerate_new (zgU z xs n dd sl) ⟨hl,?_⟩
 have hz:(s.heap.push { cls:=.type "tuple_iterator",data:=.fields #[.ref z,.int 0 0] }).objs.size=s.heap.objs.size + 1:=Heap.size_push ..
 have he:IsEnum (enumH s.heap z) (s.heap.objs.size + 1) s.heap.objs.size 0 .none:=by
  have:=Heap.get?_push_size (s.heap.push { cls:=.type "tuple_iterator",data:=.fields #[.ref z,.int 0 0] }) (o:={ cls:=.type "enumerate",data:=.fields #[.none,.bool false,.ref s.heap.objs.size,rawInt 0,.none,.none] }) rfl
  rw [hz] at this
  exact this
 exact ⟨⟨_,he,rfl⟩,k _ he ⟨_,Heap.get?_push_of_some _ (Heap.get?_push_size _ rfl),rfl,rfl⟩ fun b o x=>Heap.get?_push_of_some _ (Heap.get?_push_of_some _ x)⟩
def iEnum (K:W.Frag) (tl:TA):TI:=fun σ H R=>tl σ H fun vs H1=>(∃ a,vs=[.ref a]/\(∃ xs,SqL K H1 a xs)/\R (Ite (Itl K a)) H1)\/(∃ a,vs=[.ref a]/\(∃ xs,H1 a=some (.tup xs))/\R (Ite (Itu a)) H1)\/∃ x,vs=[.str x]/\R (Ite (Its x)) H1
section
variable {X:Cx} {elts:List Expr} {kk:Nat} {tpos p pos:Pos} {a:Expr}
theorem zlm {tl:TA} (hc:X.calm=true) (hg:Gl X "enumerate") (hm:X.mg "enumerate"=none) (hv:bootBuiltins "enumerate"=some (.type "enumerate")) (hl:PA X [a] tl)
  (hs:starEach [a] X.env=[(false,eval a X.env)]:=by rfl):PI X (.Tuple elts kk tpos) (.Call (.Name "enumerate" p) [a] [] pos) (iEnum X.K tl):=by
 intro pins s σ H R I h
 refine wpAny_Call_Name_kw (zbr I hg hm hv ?_ (by decide) (by decide))
 refine PyProof.Rows.callWith_type1 (thn (hl pos pins s σ H _ I h) fun us s1 ⟨vs,H1,I1,r1,q1⟩=>?_) hs rfl
 have fin:∀ {J:It} {tn:Nat->Heap->Prop} {h':Heap},Src X.prog X.w X.K J s1.heap.objs.size tn->R (Ite J) H1->IsEnum h' (s1.heap.objs.size + 1) s1.heap.objs.size 0 .none->tn 0 h'->(∀ b o,s1.heap.get? b=some o->h'.get? b=some o)->
   wpAny (model X.prog X.w) X.A (pyIter (.ref (s1.heap.objs.size + 1))) (PIE X pins σ (.Tuple elts kk tpos) R) X.xe { s1 with heap:=h' }:=fun {J tn h'} S hR he ht kp=>by
  refine wpAny_pyIter_enum (s:={ s1 with heap:=h' }) he ?_
  refine ⟨s1.heap.objs.size + 1,[s1.heap.objs.size + 1,s1.heap.objs.size],_,_,H1,rfl,I1.kept (t':=s1.toks) kp,zhI S (Nat.succ_ne_self _),⟨⟨_,he⟩,ht⟩,fun b hb=>?_,hR⟩
  simp at hb
  rcases hb with rfl | rfl
  ·exact I1.fpOk (le_succ _) (I1.hok.fresh (le_succ _))
  ·exact I1.fpOk (le_refl _) (I1.hok.fresh (le_refl _))
 rcases q1 with ⟨b,e,⟨xs,hq⟩,q⟩ | ⟨b,e,⟨xs,hq⟩,q⟩ | ⟨x,e,q⟩
 ·subst e
  obtain ⟨u,rfl,ru⟩:=vals1 r1
  cases ru
  obtain ⟨its,rv,pl,hz⟩:=I1.list hq
  exact call_enumerate_list pl.isList fun h' he hi _ kp=>fin (zfx b _) q he hi kp
 ·subst e
  obtain ⟨u,rfl,ru⟩:=vals1 r1
  cases ru
  obtain ⟨its,rv,pl,hz⟩:=I1.tuple (SqT.of hq)
  exact ziM pl fun h' he hi kp=>fin (zic b _) q he hi kp
 ·subst e
  obtain ⟨u,rfl,ru⟩:=vals1 r1
  obtain ⟨t,rfl⟩:=ru
  exact call_enumerate_str fun h' he hi _ kp=>fin (zhK _ x t) q he hi kp
theorem zcS {K:W.Frag} {J:It} {l:List D} {F0:Hp} (hy:∀ i H x H',J.yld i H x H'->H'=H) (h:ItOk K J l F0):ItOk K (Ite J) (enumF 0 l) F0:=fun i U σ F G H sm rel=>by
 obtain ⟨h1,h2⟩:=h i U σ F G H sm rel
 refine ⟨fun d hd=>?_,fun hl=>h2 (by rw [zeL] at hl; exact hl)⟩
 obtain ⟨e,he,rfl⟩:=zek l 0 i d hd
 obtain ⟨g1,g2⟩:=h1 e he
 refine ⟨g1,fun x H' ⟨p,y,hp,hyl,ex,eH⟩=>?_⟩
 subst ex eH
 obtain ⟨F',s1,r1,rp⟩:=g2 y H hyl
 obtain ⟨f0,_,_⟩:=r1.free hp
 refine ⟨upd F' p (.tup [.int i,y]),s1.trans (Same.upd f0),r1.newF hp,?_⟩
 have:=Rep.tup (K:=K) (F:=upd F' p (.tup [.int i,y])) (a:=p) (xs:=[.int i,y]) (ds:=[.int i,e]) zam (.cons (.int i) (.cons (rp.mono (Same.upd f0)) .nil))
 simpa using this
theorem zfS {K:W.Frag} {a:Addr} {xs:List V} {l:List D} {F0:Hp} (e:F0 a=some (.tup xs)) (r:Reps K F0 xs l):ItOk K (Itu a) l F0:=fun i U σ F G H sm rel=>by
 have e':H a=some (.tup xs):=(sm.trans rel.fr) _ _ e
 refine ⟨fun d hd=>?_,fun h=>⟨xs,e',by rw [r.len]; exact h⟩⟩
 obtain ⟨x,hx,rx⟩:=r.get hd
 refine ⟨⟨xs,x,e',hx⟩,fun y H' hy=>?_⟩
 obtain ⟨rfl,hy⟩:=hy
 have:x=y:=Option.some.inj (hx.symm.trans (hy xs e'))
 subst this
 exact ⟨F,Same.refl F,rel,rx.mono sm⟩
theorem zev:bootBuiltins "enumerate"=some (.type "enumerate"):=by decide +kernel
theorem zlF {we:WE} (hc:X.calm=true) (hg:Gl X "enumerate") (hm:X.mg "enumerate"=none) (hv:bootBuiltins "enumerate"=some (.type "enumerate")) (ha:FE X a we) (hs:starEach [a] X.env=[(false,eval a X.env)]:=by rfl):
  FI X (.Tuple elts kk tpos) (.Call (.Name "enumerate" p) [a] [] pos) (wEnum we):=fun pn xe hp=>by
 refine PI.imp (zlm (X:=wp X pn xe) hc hg hm hv (zaa ha zab hs pn xe hp) hs) fun σ H R q=>?_
 obtain ⟨F,G,U,P,PX,rel,hw,hok,hx⟩:=q
 refine ⟨F,G,U,fun rs U1=>match rs with | [r]=>(need (give r U1) fun p=>need (items p.1.toD) fun l=>P (enumF 0 l) p.2) | _=>False,PX,rel,hw,fun rs U1 vs F1 H1 hk s1 r1 hl rv=>?_,hx⟩
 match rs,vs,rv,r1,hk with
 | [r],[v],rv,r1,hk=>
   dsimp only at hk
   obtain ⟨⟨s,U2⟩,eg,hk⟩:=zad hk
   obtain ⟨l,el,hk⟩:=zad hk
   obtain ⟨F2,s2,l2,r2⟩:=giveR (U':=[]) (σ':=[]) r1 hl rv.1 eg
   obtain ⟨F3,s3,rp,r3⟩:=Rel.giveD (U:=U2) (vs:=[v]) (ss:=[s]) r2 (l2.trans hl)
   have sm:=s1.trans (s2.trans s3)
   cases rp with
   | cons a0 b0=>
     have el':items s.toD=some l:=el
     generalize s.toD=d at a0 el'
     cases a0 with
     | lst e0 r0=>
       cases el'
       exact .inl ⟨_,rfl,⟨_,SqL.mono r3.fr e0⟩,hok _ U2 F3 H1 _ hk sm r3 (zcS (fun _ _ _ _ z=>z.1) (zcI e0 r0))⟩
     | tup e0 r0=>
       cases el'
       exact .inr (.inl ⟨_,rfl,⟨_,r3.fr _ _ e0⟩,hok _ U2 F3 H1 _ hk sm r3 (zcS (fun _ _ _ _ z=>z.1) (zfS e0 r0))⟩)
     | str e0 z0=>
       cases el'
       exact .inr (.inr ⟨_,rfl,hok _ U2 F3 H1 _ hk sm r3 (zcS (fun _ _ _ _ z=>z.1) (zdX e0))⟩)
     | _=>cases el'
 | [],_,_,_,hk=>exact hk.elim
 | [_],[],rv,_,_=>exact rv.elim
 | [_],_::_::_,rv,_,_=>exact rv.2.elim
 | _::_::_,_,_,_,hk=>exact hk.elim
end
end FL
end
section
namespace FL
open PySem PySem.Spec PyProof.Rows L2
structure ZAp (z TI TO i1 i2:Addr) (f1 f2:List Addr):Prop where
 a1:TI≠z
 a2:TO≠z
 a3:TI≠TO
 a4:TI≠i1
 a5:TI≠i2
 m1:i1∈f1
 m2:i2∈f2
 z1:z∉f1
 z2:z∉f2
 o1:TO∉f1
 o2:TO∉f2
 c1:i1∉f2
 c2:i2∉f1
section
variable {prog:Program} {w:World} {A:Around} {E:Value->Shared->Prop} {s:Shared} {z TI TO i1 i2:Addr} {f1 f2:List Addr}
theorem zak {f:List Addr} {a b:Addr} (ha:a∈f) (hb:b∉f):a≠b:=fun q=>hb (q ▸ ha)
theorem zlP {n1 n2 k1 k2:Nat} {P1 P2:Nat->Value->Prop} {S1 S2:Nat->Heap->Prop} {a b:Value} {Q:Value->Shared->Prop} (Z:ZAp z TI TO i1 i2 f1 f2) (D1:Draws prog w A i1 f1 n1 P1 S1) (D2:Draws prog w A i2 f2 n2 P2 S2)
  (hz:IsZip s.heap z TI TO .none) (hI:IsPair s.heap TI (.ref i1) (.ref i2)) (hO:IsPair s.heap TO a b) (t1:S1 k1 s.heap) (t2:S2 k2 s.heap) (l1:k1 < n1) (l2:k2 < n2)
  (k:∀ x y h' tk,P1 k1 x->P2 k2 y->IsZip h' z TI TO (rawInt s.heap.objs.size)->(∃ c d,IsPair h' TO c d)->S1 (k1 + 1) h'->S2 (k2 + 1) h'->IsPair h' s.heap.objs.size x y->
   (∀ c o,c≠z->c≠TO->c≠i1->c≠i2->s.heap.get? c=some o->h'.get? c=some o)->Q (.ref s.heap.objs.size) { s with heap:=h',toks:=tk }):
  wpAny (model prog w) A (Builtin.«zip.__next__» ⟨[.ref z],[]⟩) (fun fin s'=>∃ v,fin=.done (.ret v)/\Q v s') E s:=by
 have i1z:=zak Z.m1 Z.z1
 have i2z:=zak Z.m2 Z.z2
 have i1o:=zak Z.m1 Z.o1
 have i2o:=zak Z.m2 Z.o2
 have i12:=zak Z.m1 Z.c2
 show wpAny _ _ (field (.ref z) 2 >>= _) _ _ _
 apply wpAny_bind
 refine wpAny_field hz rfl (x:=.bool false) rfl ?_
 show wpAny _ _ (field (.ref z) 3 >>= _) _ _ _
 apply wpAny_bind
 refine wpAny_field hz rfl (x:=.ref TI) rfl ?_
 apply wpAny_bind
 refine wpAny_seqItems hI rfl ?_
 show wpAny _ _ (Builtin.SmallTypes.ownedTupleIsFree (.ref z) >>= _) _ _ _
 apply wpAny_bind
 unfold Builtin.SmallTypes.ownedTupleIsFree
 apply wpAny_bind
 refine wpAny_field hz rfl (x:=.none) rfl (wpAny_pure ?_)
 simp only [if_true]
 apply wpAny_bind
 apply wpAny_rule
 apply wpAny_bind
 refine wpAny_field hz rfl (x:=.ref TO) rfl ?_
 apply wpAny_bind
 refine wpAny_setField_rec hz (by simp) fun ha za sa=>?_
 have za':IsZip ha z TI TO .ellipsis:=za
 apply wpAny_bind
 simp only [zipIdx_cons,zipIdx_nil,forIn_cons,forIn_nil]
 apply wpAny_bind
 apply wpAny_bind
 apply wpAny_onRaise
 show wpAny _ _ (Builtin.SmallTypes.nextOf (.ref i1) >>= _) _ _ _
 apply wpAny_bind
 have t1a:S1 k1 ha:=D1.frame _ _ _ t1 fun c hc o q=>sa.extBut _ _ (zak hc Z.z1) q
 have t2a:S2 k2 ha:=D2.frame _ _ _ t2 fun c hc o q=>sa.extBut _ _ (zak hc Z.z2) q
 refine D1.item k1 _ _ _ l1 t1a fun x hb tb px t1b sb=>wpAny_pure ?_
 have hOb:IsPair hb TO a b:=sb.extBut _ _ (Ne.symm i1o) (sa.extBut _ _ Z.a2 hO)
 apply wpAny_bind
 refine wpAny_seqItems hOb rfl ?_
 apply wpAny_bind
 refine wpAny_updateSeq_pair hOb fun hc hOc sc=>?_
 have hOc':IsPair hc TO x b:=hOc
 refine wpAny_bind (wpAny_letGo (wpAny_pure ?_))
 apply wpAny_bind
 apply wpAny_bind
 apply wpAny_onRaise
 show wpAny _ _ (Builtin.SmallTypes.nextOf (.ref i2) >>= _) _ _ _
 apply wpAny_bind
 have t2c:S2 k2 hc:=D2.frame _ _ _ t2a fun c hcm o q=>sc.extBut _ _ (zak hcm Z.o2) (sb.extBut _ _ (zak hcm Z.c1) q)
 refine D2.item k2 _ _ _ l2 t2c fun y hd td py t2d sd=>wpAny_pure ?_
 have hOd:IsPair hd TO x b:=sd.extBut _ _ (Ne.symm i2o) hOc'
 apply wpAny_bind
 refine wpAny_seqItems hOd rfl ?_
 apply wpAny_bind
 refine wpAny_updateSeq_pair hOd fun he hOe se=>?_
 have hOe':IsPair he TO x y:=hOe
 refine wpAny_bind (wpAny_letGo (wpAny_pure (wpAny_pure ?_)))
 apply wpAny_bind
 refine wpAny_seqItems hOe' rfl ?_
 apply wpAny_bind
 refine wpAny_newTuple ?_
 have hsz:he.objs.size=s.heap.objs.size:=by rw [se.1,sd.1,sc.1,sb.1,sa.1]
 have ze:IsZip he z TI TO .ellipsis:=se.extBut _ _ (Ne.symm Z.a2) (sd.extBut _ _ (Ne.symm i2z) (sc.extBut _ _ (Ne.symm Z.a2) (sb.extBut _ _ (Ne.symm i1z) za')))
 have t1e:S1 (k1 + 1) he:=D1.frame _ _ _ t1b fun c hcm o q=>se.extBut _ _ (zak hcm Z.o1) (sd.extBut _ _ (zak hcm Z.c2) (sc.extBut _ _ (zak hcm Z.o1) q))
 have t2e:S2 (k2 + 1) he:=D2.frame _ _ _ t2d fun c hcm o q=>se.extBut _ _ (zak hcm Z.o2) q
 have old:∀ c o,c≠z->c≠TO->c≠i1->c≠i2->s.heap.get? c=some o->he.get? c=some o:=fun c o q1 q2 q3 q4 q=>se.extBut _ _ q2 (sd.extBut _ _ q4 (sc.extBut _ _ q2 (sb.extBut _ _ q3 (sa.extBut _ _ q1 q))))
 have zlt:z < he.objs.size:=Heap.lt_size ze
 show wpAny _ _ (Builtin.SmallTypes.ownedTupleHandOut (.ref z) (.ref he.objs.size) >>= _) _ _ _
 apply wpAny_bind
 unfold Builtin.SmallTypes.ownedTupleHandOut
 have zf:IsZip (he.push { cls:=.type "tuple",data:=.seq #[x,y] }) z TI TO .ellipsis:=Heap.get?_push_of_some _ ze
 apply wpAny_bind
 refine wpAny_setField_rec zf (by simp) fun hg zg sg=>?_
 have zg':IsZip hg z TI TO (rawInt he.objs.size):=zg
 refine wpAny_setField_rec zg' (by simp) fun hh zh sh=>?_
 have zh':IsZip hh z TI TO (rawInt he.objs.size):=zh
 have up:∀ c o,c≠z->he.get? c=some o->hh.get? c=some o:=fun c o q1 q=>sh.extBut _ _ q1 (sg.extBut _ _ q1 (Heap.get?_push_of_some _ q))
 have pT:IsPair hh he.objs.size x y:=sh.extBut _ _ (ne_of_gt zlt) (sg.extBut _ _ (ne_of_gt zlt) (Heap.get?_push_size _ rfl))
 rw [hsz] at zh' pT
 refine wpAny_pure ⟨_,rfl,?_⟩
 show Q (.ref he.objs.size) _
 rw [hsz]
 exact k x y hh _ px py zh' ⟨_,_,up _ _ Z.a2 hOe'⟩ (D1.frame _ _ _ t1e fun c hcm o q=>up c o (zak hcm Z.z1) q) (D2.frame _ _ _ t2e fun c hcm o q=>up c o (zak hcm Z.z2) q) pT fun c o q1 q2 q3 q4 q=>up c o q1 (old c o q1 q2 q3 q4 q)
theorem zi0 {Q:Fin->Shared->Prop} (i1z:i1≠z) (hz:IsZip s.heap z TI TO .none) (hI:IsPair s.heap TI (.ref i1) (.ref i2))
  (d:∀ ha,Heap.SameBut z s.heap ha->∀ (Q:Value->Shared->Prop) (E:Value->Shared->Prop),(∀ h' e,Heap.ExtBut i1 ha h'->(∃ o,h'.get? e=some o/\o.cls=.type "StopIteration")->E (.ref e) { s with heap:=h' })->wpAny (model prog w) A (Builtin.SmallTypes.nextOf (.ref i1)) Q E { s with heap:=ha })
  (k:∀ h' e,(∀ c o,c≠z->c≠i1->s.heap.get? c=some o->h'.get? c=some o)->(∃ o,h'.get? e=some o/\o.cls=.type "StopIteration")->E (.ref e) { s with heap:=h' }):
  wpAny (model prog w) A (Builtin.«zip.__next__» ⟨[.ref z],[]⟩) Q E s:=by
 show wpAny _ _ (field (.ref z) 2 >>= _) _ _ _
 apply wpAny_bind
 refine wpAny_field hz rfl (x:=.bool false) rfl ?_
 show wpAny _ _ (field (.ref z) 3 >>= _) _ _ _
 apply wpAny_bind
 refine wpAny_field hz rfl (x:=.ref TI) rfl ?_
 apply wpAny_bind
 refine wpAny_seqItems hI rfl ?_
 show wpAny _ _ (Builtin.SmallTypes.ownedTupleIsFree (.ref z) >>= _) _ _ _
 apply wpAny_bind
 unfold Builtin.SmallTypes.ownedTupleIsFree
 apply wpAny_bind
 refine wpAny_field hz rfl (x:=.none) rfl (wpAny_pure ?_)
 simp only [if_true]
 apply wpAny_bind
 apply wpAny_rule
 apply wpAny_bind
 refine wpAny_field hz rfl (x:=.ref TO) rfl ?_
 apply wpAny_bind
 refine wpAny_setField_rec hz (by simp) fun ha za sa=>?_
 have za':IsZip ha z TI TO .ellipsis:=za
 apply wpAny_bind
 simp only [zipIdx_cons,zipIdx_nil,forIn_cons,forIn_nil]
 apply wpAny_bind
 apply wpAny_bind
 apply wpAny_onRaise
 show wpAny _ _ (Builtin.SmallTypes.nextOf (.ref i1) >>= _) _ _ _
 apply wpAny_bind
 refine d ha sa _ _ fun hb e xb st=>?_
 obtain ⟨oe,q1,q2⟩:=st
 have zb:IsZip hb z TI TO .ellipsis:=xb _ _ (Ne.symm i1z) za'
 have ez:e≠z:=fun q=>by subst q; rw [zb] at q1; cases q1; simp at q2
 exact wpAny_setField_rec zb (by simp) fun hc _ sc=>k hc e (fun c o c1 c2 q=>sc.extBut _ _ c1 (xb _ _ c2 (sa.extBut _ _ c1 q))) ⟨oe,sc.extBut _ _ ez q1,q2⟩
theorem ziO {n1 k1:Nat} {P1:Nat->Value->Prop} {S1:Nat->Heap->Prop} {a b:Value} {Q:Fin->Shared->Prop} (D1:Draws prog w A i1 f1 n1 P1 S1) (m1:i1∈f1) (z1:z∉f1) (o1:TO∉f1) (TOz:TO≠z) (i2z:i2≠z)
  (hz:IsZip s.heap z TI TO .none) (hI:IsPair s.heap TI (.ref i1) (.ref i2)) (hO:IsPair s.heap TO a b) (t1:S1 k1 s.heap) (l1:k1 < n1)
  (d:∀ hc tk,(∀ c o,c≠z->c≠TO->c≠i1->s.heap.get? c=some o->hc.get? c=some o)->∀ (Q:Value->Shared->Prop) (E:Value->Shared->Prop),(∀ h' e,Heap.ExtBut i2 hc h'->(∃ o,h'.get? e=some o/\o.cls=.type "StopIteration")->E (.ref e) { s with heap:=h',toks:=tk })->wpAny (model prog w) A (Builtin.SmallTypes.nextOf (.ref i2)) Q E { s with heap:=hc,toks:=tk })
  (k:∀ h' e tk,(∀ c o,c≠z->c≠TO->c≠i1->c≠i2->s.heap.get? c=some o->h'.get? c=some o)->(∃ o,h'.get? e=some o/\o.cls=.type "StopIteration")->E (.ref e) { s with heap:=h',toks:=tk }):
  wpAny (model prog w) A (Builtin.«zip.__next__» ⟨[.ref z],[]⟩) Q E s:=by
 have i1z:=zak m1 z1
 have i1o:=zak m1 o1
 show wpAny _ _ (field (.ref z) 2 >>= _) _ _ _
 apply wpAny_bind
 refine wpAny_field hz rfl (x:=.bool false) rfl ?_
 show wpAny _ _ (field (.ref z) 3 >>= _) _ _ _
 apply wpAny_bind
 refine wpAny_field hz rfl (x:=.ref TI) rfl ?_
 apply wpAny_bind
 refine wpAny_seqItems hI rfl ?_
 show wpAny _ _ (Builtin.SmallTypes.ownedTupleIsFree (.ref z) >>= _) _ _ _
 apply wpAny_bind
 unfold Builtin.SmallTypes.ownedTupleIsFree
 apply wpAny_bind
 refine wpAny_field hz rfl (x:=.none) rfl (wpAny_pure ?_)
 simp only [if_true]
 apply wpAny_bind
 apply wpAny_rule
 apply wpAny_bind
 refine wpAny_field hz rfl (x:=.ref TO) rfl ?_
 apply wpAny_bind
 refine wpAny_setField_rec hz (by simp) fun ha za sa=>?_
 have za':IsZip ha z TI TO .ellipsis:=za
 apply wpAny_bind
 simp only [zipIdx_cons,zipIdx_nil,forIn_cons,forIn_nil]
 apply wpAny_bind
 apply wpAny_bind
 apply wpAny_onRaise
 show wpAny _ _ (Builtin.SmallTypes.nextOf (.ref i1) >>= _) _ _ _
 apply wpAny_bind
 have t1a:S1 k1 ha:=D1.frame _ _ _ t1 fun c hc o q=>sa.extBut _ _ (zak hc z1) q
 refine D1.item k1 _ _ _ l1 t1a fun x hb tb px t1b sb=>wpAny_pure ?_
 have hOb:IsPair hb TO a b:=sb.extBut _ _ (Ne.symm i1o) (sa.extBut _ _ TOz hO)
 apply wpAny_bind
 refine wpAny_seqItems hOb rfl ?_
 apply wpAny_bind
 refine wpAny_updateSeq_pair hOb fun hc hOc sc=>?_
 refine wpAny_bind (wpAny_letGo (wpAny_pure ?_))
 apply wpAny_bind
 apply wpAny_bind
 apply wpAny_onRaise
 show wpAny _ _ (Builtin.SmallTypes.nextOf (.ref i2) >>= _) _ _ _
 apply wpAny_bind
 refine d hc tb (fun c o c1 c2 c3 q=>sc.extBut _ _ c2 (sb.extBut _ _ c3 (sa.extBut _ _ c1 q))) _ _ fun hd e xd st=>?_
 obtain ⟨oe,q1,q2⟩:=st
 have zd:IsZip hd z TI TO .ellipsis:=xd _ _ (Ne.symm i2z) (sc.extBut _ _ (Ne.symm TOz) (sb.extBut _ _ (Ne.symm i1z) za'))
 have ez:e≠z:=fun q=>by subst q; rw [zd] at q1; cases q1; simp at q2
 exact wpAny_setField_rec zd (by simp) fun he _ se=>k he e tb (fun c o c1 c2 c3 c4 q=>se.extBut _ _ c1 (xd _ _ c4 (sc.extBut _ _ c2 (sb.extBut _ _ c3 (sa.extBut _ _ c1 q))))) ⟨oe,se.extBut _ _ ez q1,q2⟩
end
def Itz (J1 J2:It):It:=⟨fun i H=>J1.go i H/\J2.go i H,fun i H x H'=>∃ p y1 y2,H p=none/\J1.yld i H y1 H/\J2.yld i H y2 H/\x=.ref p/\H'=upd H p (.tup [y1,y2]),fun i H=>J1.stop i H\/(J1.go i H/\J2.stop i H)⟩
theorem zjc {P:Program} {w:World} {K:W.Frag} {J1 J2:It} {z TI TO i1 i2:Addr} {t1 t2:Nat->Heap->Prop} {elts:List Expr} {k:Nat} {pos:Pos} (S1:Src P w K J1 i1 t1) (S2:Src P w K J2 i2 t2) (nd:[z,TI,TO,i1,i2].Nodup):
  Turn P w K (.Tuple elts k pos) (Itz J1 J2) [z,TI,TO,i1,i2] z (fun i h=>IsZip h z TI TO .none/\IsPair h TI (.ref i1) (.ref i2)/\(∃ a b,IsPair h TO a b)/\t1 i h/\t2 i h) where
 mem:=by simp
 obj:=fun i h st b hb=>by
  obtain ⟨hz,hI,⟨a,c,hO⟩,q1,q2⟩:=st
  simp at hb
  rcases hb with rfl | rfl | rfl | rfl | rfl
  ·exact ⟨_,hz,fun v z=>by cases z⟩
  ·exact ⟨_,hI,fun v z=>by cases z⟩
  ·exact ⟨_,hO,fun v z=>by cases z⟩
  ·obtain ⟨o,e1,e2,_⟩:=S1.live i h q1
   exact ⟨o,e1,e2⟩
  ·obtain ⟨o,e1,e2,_⟩:=S2.live i h q2
   exact ⟨o,e1,e2⟩
 keep:=fun i h h' st kk=>by
  obtain ⟨hz,hI,⟨a,c,hO⟩,q1,q2⟩:=st
  exact ⟨kk _ (by simp) _ hz,kk _ (by simp) _ hI,⟨a,c,kk _ (by simp) _ hO⟩,S1.keep i h h' q1 fun o e=>kk _ (by simp) o e,S2.keep i h h' q2 fun o e=>kk _ (by simp) o e⟩
 item:=by
  intro X hP hw hK hc i pins s σ H E I hf st hg
  obtain ⟨hz,hI,⟨a,c,hO⟩,q1,q2⟩:=st
  have hh:X.A.in1.handled=none:=I.ok.hd hc
  obtain ⟨f1,n1,P1,T1,D1,u1,l1,m1,e1,v1,w1⟩:=S1.item X hP hw hK i pins s σ H X.A.in1 hh I q1 (hf i1 (by simp)).1 hg.1
  obtain ⟨f2,n2,P2,T2,D2,u2,l2,m2,e2,v2,w2⟩:=S2.item X hP hw hK i pins s σ H X.A.in1 hh I q2 (hf i2 (by simp)).1 hg.2
  obtain ⟨o1,g1,_,_,_,_,cl1⟩:=S1.live i _ q1
  obtain ⟨o2,g2,_,_,_,_,cl2⟩:=S2.live i _ q2
  simp only [nodup_cons,mem_cons,not_mem_nil,or_false,not_or] at nd
  obtain ⟨⟨d1,d2,d3,d4⟩,⟨d5,d6,d7⟩,⟨d8,d9⟩,d10,_⟩:=nd
  have hn:∀ b∈[z,TI,TO,i1,i2],H b=none:=fun b hb=>(hf b hb).1
  have out:∀ {f:List Addr} {it b:Addr} {ob:Obj},(∀ x∈f,x=it\/(H x≠none/\∃ o,s.heap.get? x=some o/\o.cls=.type "tuple")\/∃ o,s.heap.get? x=some o/\o.cls=.type "list")->b≠it->H b=none->s.heap.get? b=some ob->ob.cls≠.type "list"->b∉f:=fun {f it b ob} hf0 n1 n2 g n3 m=>by
   rcases hf0 b m with q | ⟨q,_⟩ | ⟨o,q,q'⟩
   ·exact n1 q
   ·exact q n2
   ·rw [g] at q; cases q; exact n3 q'
  have zl:Value.type "zip"≠Value.type "list":=by decide
  have tl:Value.type "tuple"≠Value.type "list":=by decide
  have Z:ZAp z TI TO i1 i2 f1 f2:=⟨Ne.symm d1,Ne.symm d2,d5,d6,d7,m1,m2,out e1 d3 (hn z (by simp)) hz zl,out e2 d4 (hn z (by simp)) hz zl,out e1 d8 (hn TO (by simp)) hO tl,out e2 d9 (hn TO (by simp)) hO tl,out e2 d10 (hn i1 (by simp)) g1 cl1,out e1 (Ne.symm d10) (hn i2 (by simp)) g2 cl2⟩
  have lt:∀ b∈[z,TI,TO,i1,i2],b < s.heap.objs.size:=fun b hb=>by
   simp at hb
   rcases hb with rfl | rfl | rfl | rfl | rfl
   ·exact Heap.lt_size hz
   ·exact Heap.lt_size hI
   ·exact Heap.lt_size hO
   ·exact Heap.lt_size g1
   ·exact Heap.lt_size g2
  subst hP hw hK
  have ty:s.TypeIs (.ref z) "zip":=⟨_,hz,rfl⟩
  unfold pyNext
  apply wpAny_bind
  apply wpAny_attempt
  refine wpAny_callSpecial?_slot (name:=Str.ofString "__next__") ty F.slot_zip_next (wpAny_call_entry F.slot_zip_next ty F.entry_zip_next (zlP Z D1 D2 hz hI hO u1 u2 l1 l2 fun x y h1 tk px py hz1 hO1 t1' t2' hT hk=>?_) (F.args_zip_next_1 _))
  refine wpAny_pure ⟨_,rfl,?_⟩
  obtain ⟨y1,ry1,hy1⟩:=v1 x px
  obtain ⟨y2,ry2,hy2⟩:=v2 y py
  refine wpAny_letOwnedTupleGo_zip hz1 fun h2 hz2 sb=>?_
  have nT:s.heap.objs.size≠z:=ne_of_gt (Heap.lt_size hz)
  have I2:Inv X pins σ (upd H s.heap.objs.size (.tup [y1,y2])) { s with heap:=h2,toks:=tk }:=zcr I (ch:=[z,TI,TO,i1,i2]) (us:=[x,y]) hf lt (by show 2<=_; decide) (.cons ry1 (.cons ry2 .nil)) ⟨_,sb.extBut _ _ nT hT,rfl,_,rfl⟩ fun b o hb q=>by
   simp at hb
   exact sb.extBut _ _ hb.1 (hk b o hb.1 hb.2.2.1 hb.2.2.2.1 hb.2.2.2.2 q)
  obtain ⟨ca,cb,hO1⟩:=hO1
  refine ⟨.ref s.heap.objs.size,_,I2,rfl,⟨s.heap.objs.size,y1,y2,I.hok.fresh (le_refl _),hy1,hy2,rfl,rfl⟩,⟨hz2,sb.extBut _ _ (Ne.symm d1) (hk _ _ (Ne.symm d1) d5 d6 d7 hI),⟨_,_,sb.extBut _ _ (Ne.symm d2) hO1⟩,S1.keep _ _ _ (w1 _ t1') fun o q=>sb.extBut _ _ (Ne.symm d3) q,S2.keep _ _ _ (w2 _ t2') fun o q=>sb.extBut _ _ (Ne.symm d4) q⟩,fun b hb=>?_⟩
  rw [zag (ne_of_lt (lt b hb))]; exact (hf b hb).1
 done:=by
  intro X hP hw hK hc i pins s σ H E I hf st hg
  obtain ⟨hz,hI,⟨a,c,hO⟩,q1,q2⟩:=st
  have hh:X.A.in1.handled=none:=I.ok.hd hc
  simp only [nodup_cons,mem_cons,not_mem_nil,or_false,not_or] at nd
  obtain ⟨⟨d1,d2,d3,d4⟩,⟨d5,d6,d7⟩,⟨d8,d9⟩,d10,_⟩:=nd
  have ty:s.TypeIs (.ref z) "zip":=⟨_,hz,rfl⟩
  have stop:∀ (h':Heap) (e:Addr) (tk:Nat),(∀ b o,b≠z->b≠TO->b≠i1->b≠i2->s.heap.get? b=some o->h'.get? b=some o)->Inv X pins σ H { s with heap:=h',toks:=tk }:=fun h' e tk hk=>zbe I (ch:=[z,TI,TO,i1,i2]) hf fun b o hb q=>by
   simp at hb
   exact hk b o hb.1 hb.2.2.1 hb.2.2.2.1 hb.2.2.2.2 q
  unfold pyNext
  apply wpAny_bind
  apply wpAny_attempt
  rcases hg with hg | ⟨hg1,hg2⟩
  ·refine wpAny_callSpecial?_slot (name:=Str.ofString "__next__") ty F.slot_zip_next (wpAny_call_entry F.slot_zip_next ty F.entry_zip_next (zi0 (Ne.symm d3) hz hI (fun ha sa=>?_) fun h' e hk st=>?_) (F.args_zip_next_1 _))
   ·have Ia:Inv X pins σ H { s with heap:=ha }:=zbe I (t':=s.toks) (ch:=[z]) (fun b hb=>hf b (by simp at hb; simp [hb])) fun b o hb q=>sa.extBut _ _ (by simpa using hb) q
    exact S1.done X hP hw hK i pins { s with heap:=ha } σ H X.A.in1 hh Ia (S1.keep _ _ _ q1 fun o q=>sa.extBut _ _ (Ne.symm d3) q) hg
   ·obtain ⟨o,r1,r2⟩:=st
    exact wpAny_bind (wpAny_isInstance (T:="StopIteration") (b:=true) ⟨o,r1,r2⟩ isSubtype_stop (wpAny_pure ⟨rfl,stop h' e s.toks fun b o c1 c2 c3 c4 q=>hk b o c1 c3 q⟩))
  ·obtain ⟨f1,n1,P1,T1,D1,u1,l1,m1,e1,v1,w1⟩:=S1.item X hP hw hK i pins s σ H X.A.in1 hh I q1 (hf i1 (by simp)).1 hg1
   have hn:∀ b∈[z,TI,TO,i1,i2],H b=none:=fun b hb=>(hf b hb).1
   have out:∀ {f:List Addr} {it b:Addr} {ob:Obj},(∀ x∈f,x=it\/(H x≠none/\∃ o,s.heap.get? x=some o/\o.cls=.type "tuple")\/∃ o,s.heap.get? x=some o/\o.cls=.type "list")->b≠it->H b=none->s.heap.get? b=some ob->ob.cls≠.type "list"->b∉f:=fun {f it b ob} hf0 n1 n2 g n3 m=>by
    rcases hf0 b m with q | ⟨q,_⟩ | ⟨o,q,q'⟩
    ·exact n1 q
    ·exact q n2
    ·rw [g] at q; cases q; exact n3 q'
   have zl:Value.type "zip"≠Value.type "list":=by decide
   have tl:Value.type "tuple"≠Value.type "list":=by decide
   have X1:=hP
   have X2:=hw
   subst hP hw
   refine wpAny_callSpecial?_slot (name:=Str.ofString "__next__") ty F.slot_zip_next (wpAny_call_entry F.slot_zip_next ty F.entry_zip_next (ziO D1 m1 (out e1 d3 (hn z (by simp)) hz zl) (out e1 d8 (hn TO (by simp)) hO tl) (Ne.symm d2) (Ne.symm d4) hz hI hO u1 l1 (fun hc2 tk sa=>?_) fun h' e tk hk st=>?_) (F.args_zip_next_1 _))
   ·have Ia:Inv X pins σ H { s with heap:=hc2,toks:=tk }:=zbe I (ch:=[z,TO,i1]) (fun b hb=>hf b (by simp at hb; rcases hb with q | q | q <;> simp [q])) fun b o hb q=>by
     simp at hb
     exact sa b o hb.1 hb.2.1 hb.2.2 q
    exact S2.done X rfl rfl hK i pins { s with heap:=hc2,toks:=tk } σ H X.A.in1 hh Ia (S2.keep _ _ _ q2 fun o q=>sa _ _ (Ne.symm d4) (Ne.symm d9) (Ne.symm d10) q) hg2
   ·obtain ⟨o,r1,r2⟩:=st
    exact wpAny_bind (wpAny_isInstance (T:="StopIteration") (b:=true) ⟨o,r1,r2⟩ isSubtype_stop (wpAny_pure ⟨rfl,stop h' e tk hk⟩))
 self:=fun A i s Q E st h=>wpAny_pyIter_zip st.1 h
def MkIt (v:Value) (o:Obj) (s:Shared):Prop:=∀ (prog:Program) (w:World) (A:Around) (Q:Value->Shared->Prop) (E:Value->Shared->Prop),Q (.ref s.heap.objs.size) { s with heap:=s.heap.push o }->wpAny (model prog w) A (pyIter v) Q E s
abbrev zA (h:Heap) (o1:Obj):Heap:=h.push o1
abbrev zB (h:Heap) (o1 o2:Obj):Heap:=(zA h o1).push o2
abbrev zC (h:Heap) (o1 o2:Obj):Heap:=(zB h o1 o2).push { cls:=.type "tuple",data:=.seq #[.ref h.objs.size,.ref (zA h o1).objs.size] }
abbrev zD (h:Heap) (o1 o2:Obj):Heap:=(zC h o1 o2).push { cls:=.type "tuple",data:=.seq #[.none,.none] }
abbrev zE (h:Heap) (o1 o2:Obj):Heap:=(zD h o1 o2).push { cls:=.type "zip",data:=.fields #[.none,.bool false,.bool false,.ref (zB h o1 o2).objs.size,.ref (zC h o1 o2).objs.size] }
theorem zkX (v1 v2:Value) (o1 o2:Obj):Meets (Builtin.«zip.__new__» ⟨[.type "zip",v1,v2],[]⟩) (fun _ R s=>MkIt v1 o1 s/\MkIt v2 o2 { s with heap:=zA s.heap o1 }/\R (.ok (.ret (.ref (zD s.heap o1 o2).objs.size))) { s with heap:=zE s.heap o1 o2 }):=
 .of_wp fun prog w A R s hyp=>by
  obtain ⟨hp,g,d,tk,os⟩:=s
  obtain ⟨k1,k2,hr⟩:=hyp
  have ss:=sub_zip
  have k1':=fun (A:Around) (Q:Value->Shared->Prop) (E:Value->Shared->Prop)=>k1 prog w A Q E
  have k2':=fun (A:Around) (Q:Value->Shared->Prop) (E:Value->Shared->Prop)=>k2 prog w A Q E
  wp_walk using k1',k2'
  exact ⟨_,rfl,hr⟩
theorem zlX {prog:Program} {w:World} {A:Around} {E:Value->Shared->Prop} {s:Shared} {v1 v2:Value} {o1 o2:Obj} {Q:Value->Shared->Prop} (m1:MkIt v1 o1 s) (m2:MkIt v2 o2 { s with heap:=zA s.heap o1 }) (f1:o1.isFreed=false) (f2:o2.isFreed=false)
  (k:∀ h',IsZip h' (s.heap.objs.size + 4) (s.heap.objs.size + 2) (s.heap.objs.size + 3) .none->IsPair h' (s.heap.objs.size + 2) (.ref s.heap.objs.size) (.ref (s.heap.objs.size + 1))->IsPair h' (s.heap.objs.size + 3) .none .none->
   h'.get? s.heap.objs.size=some o1->h'.get? (s.heap.objs.size + 1)=some o2->(∀ c o,s.heap.get? c=some o->h'.get? c=some o)->Q (.ref (s.heap.objs.size + 4)) { s with heap:=h' }):
  wpAny (model prog w) A (call (.type "zip") [v1,v2]) Q E s:=by
 refine callType_new F.called_zip (by decide) (F.typeCall_zip_2 _ _) (F.newCall_zip_2 _ _) (fun obj=>F.args_object_init_3 obj _ _) F.entry_zip_new (zkX v1 v2 o1 o2) ⟨m1,m2,?_⟩
 have q1:(zA s.heap o1).objs.size=s.heap.objs.size + 1:=Heap.size_push ..
 have q2:(zB s.heap o1 o2).objs.size=s.heap.objs.size + 2:=by rw [Heap.size_push,q1]
 have q3:(zC s.heap o1 o2).objs.size=s.heap.objs.size + 3:=by rw [Heap.size_push,q2]
 have q4:(zD s.heap o1 o2).objs.size=s.heap.objs.size + 4:=by rw [Heap.size_push,q3]
 have g5:(zE s.heap o1 o2).get? (zD s.heap o1 o2).objs.size=some _:=Heap.get?_push_size _ rfl
 have g4:(zE s.heap o1 o2).get? (zC s.heap o1 o2).objs.size=some _:=Heap.get?_push_of_some _ (Heap.get?_push_size _ rfl)
 have g3:(zE s.heap o1 o2).get? (zB s.heap o1 o2).objs.size=some _:=Heap.get?_push_of_some _ (Heap.get?_push_of_some _ (Heap.get?_push_size _ rfl))
 have g2:(zE s.heap o1 o2).get? (zA s.heap o1).objs.size=some o2:=Heap.get?_push_of_some _ (Heap.get?_push_of_some _ (Heap.get?_push_of_some _ (Heap.get?_push_size _ f2)))
 have g1:(zE s.heap o1 o2).get? s.heap.objs.size=some o1:=Heap.get?_push_of_some _ (Heap.get?_push_of_some _ (Heap.get?_push_of_some _ (Heap.get?_push_of_some _ (Heap.get?_push_size _ f1))))
 show _/\_
 rw [q2,q3,q4] at g5
 rw [q1,q2] at g3
 rw [q3] at g4
 rw [q1] at g2
 rw [q4]
 exact ⟨⟨_,g5,rfl⟩,k _ g5 g3 g4 g1 g2 fun c o x=>Heap.get?_push_of_some _ (Heap.get?_push_of_some _ (Heap.get?_push_of_some _ (Heap.get?_push_of_some _ (Heap.get?_push_of_some _ x))))⟩
def SrcV (X:Cx) (H:Hp) (v:V) (J:It):Prop:=(∃ a xs,v=.ref a/\SqL X.K H a xs/\J=Itl X.K a)\/(∃ a xs,v=.ref a/\H a=some (.tup xs)/\J=Itu a)\/∃ x,v=.str x/\J=Its x
theorem zhC {X:Cx} {pins:List (Addr×Obj)} {σ:St} {H:Hp} {s:Shared} {v:V} {u:Value} {J:It} (I:Inv X pins σ H s) (r:RelV v u) (h:SrcV X H v J):
  ∃ o:Obj,MkIt u o s/\o.isFreed=false/\∀ it,∃ tn,Src X.prog X.w X.K J it tn/\∀ h':Heap,h'.get? it=some o->tn 0 h':=by
 rcases h with ⟨a,xs,rfl,hq,rfl⟩ | ⟨a,xs,rfl,hq,rfl⟩ | ⟨x,rfl,rfl⟩
 ·cases r
  obtain ⟨its,rv,pl,hz⟩:=I.list hq
  exact ⟨{ cls:=.type "list_iterator",data:=.fields #[.ref a,.int 0 0] },fun prog w A Q E k=>wpAny_pyIter_list pl.isList k,rfl,fun it=>⟨_,zfx a it,fun h' e=>⟨_,e,rfl,rfl⟩⟩⟩
 ·cases r
  obtain ⟨its,rv,pl,hz⟩:=I.tuple (SqT.of hq)
  exact ⟨{ cls:=.type "tuple_iterator",data:=.fields #[.ref a,.int 0 0] },fun prog w A Q E k=>wpAny_pyIter_tuple pl k,rfl,fun it=>⟨_,zic a it,fun h' e=>⟨_,e,rfl,rfl⟩⟩⟩
 ·obtain ⟨t,rfl⟩:=r
  exact ⟨{ cls:=.type (strIterType x),data:=.fields #[.str x t,.int 0 0] },fun prog w A Q E k=>wpAny_pyIter_strU k,rfl,fun it=>⟨_,zhK it x t,fun h' e=>⟨_,e,rfl,rfl⟩⟩⟩
def iZip (X:Cx) (tl:TA):TI:=fun σ H R=>tl σ H fun vs H1=>∃ v1 v2 J1 J2,vs=[v1,v2]/\SrcV X H1 v1 J1/\SrcV X H1 v2 J2/\R (Itz J1 J2) H1
section
variable {X:Cx} {elts:List Expr} {kk:Nat} {tpos p pos:Pos} {a b:Expr}
theorem znq {tl:TA} (hc:X.calm=true) (hg:Gl X "zip") (hm:X.mg "zip"=none) (hv:bootBuiltins "zip"=some (.type "zip")) (hl:PA X [a,b] tl)
  (hs:starEach [a,b] X.env=[(false,eval a X.env),(false,eval b X.env)]:=by rfl) (hs2:starEach [b] X.env=[(false,eval b X.env)]:=by rfl):PI X (.Tuple elts kk tpos) (.Call (.Name "zip" p) [a,b] [] pos) (iZip X tl):=by
 intro pins s σ H R I h
 refine wpAny_Call_Name_kw (zbr I hg hm hv ?_ (by decide) (by decide))
 refine PyProof.Rows.callWith_type1 (thn (hl pos pins s σ H _ I h) fun us s1 ⟨vs,H1,I1,r1,q1⟩=>?_) (by rw [hs,hs2]) (by rw [hs2]; rfl)
 obtain ⟨v1,v2,J1,J2,rfl,k1,k2,q⟩:=q1
 cases r1 with
 | cons ra rb=>
   cases rb with
   | cons rb rn=>
     cases rn
     obtain ⟨o1,m1,f1,g1⟩:=zhC I1 ra k1
     have I2:Inv X pins σ H1 { s1 with heap:=zA s1.heap o1 }:=I1.kept (t':=s1.toks) fun _ _ e=>Heap.get?_push_of_some _ e
     obtain ⟨o2,m2,f2,g2⟩:=zhC I2 rb k2
     refine zlX m1 m2 f1 f2 fun h' hz hI hO e1 e2 kp=>?_
     obtain ⟨t1,S1,b1⟩:=g1 s1.heap.objs.size
     obtain ⟨t2,S2,b2⟩:=g2 (s1.heap.objs.size + 1)
     refine wpAny_pyIter_zip (s:={ s1 with heap:=h' }) hz ?_
     have lt:∀ k:Nat,s1.heap.objs.size<=s1.heap.objs.size + k:=fun k=>Nat.le_add_right _ _
     refine ⟨s1.heap.objs.size + 4,[s1.heap.objs.size + 4,s1.heap.objs.size + 2,s1.heap.objs.size + 3,s1.heap.objs.size,s1.heap.objs.size + 1],_,_,H1,rfl,I1.kept (t':=s1.toks) kp,zjc S1 S2 ?_,⟨hz,hI,⟨_,_,hO⟩,b1 h' e1,b2 h' e2⟩,fun c hcm=>?_,q⟩
     ·simp
     ·simp at hcm
      rcases hcm with rfl | rfl | rfl | rfl | rfl
      ·exact I1.fpOk (lt 4) (I1.hok.fresh (lt 4))
      ·exact I1.fpOk (lt 2) (I1.hok.fresh (lt 2))
      ·exact I1.fpOk (lt 3) (I1.hok.fresh (lt 3))
      ·exact I1.fpOk (lt 0) (I1.hok.fresh (lt 0))
      ·exact I1.fpOk (lt 1) (I1.hok.fresh (lt 1))
theorem zjG {K:W.Frag} {J1 J2:It} {l m:List D} {F0:Hp} (h1:ItOk K J1 l F0) (h2:ItOk K J2 m F0):ItOk K (Itz J1 J2) (zipD l m) F0:=fun i U σ F G H sm rel=>by
 obtain ⟨p1,p2⟩:=h1 i U σ F G H sm rel
 obtain ⟨q1,q2⟩:=h2 i U σ F G H sm rel
 refine ⟨fun d hd=>?_,fun hl=>?_⟩
 ·obtain ⟨e,f,he,hf,rfl⟩:=zfX l m i d hd
  obtain ⟨g1,g2⟩:=p1 e he
  obtain ⟨g3,g4⟩:=q1 f hf
  refine ⟨⟨g1,g3⟩,fun x H' ⟨p,y1,y2,hp,hy1,hy2,ex,eH⟩=>?_⟩
  subst ex eH
  obtain ⟨F1,s1,r1,rp1⟩:=g2 y1 H hy1
  obtain ⟨F2,s2,r2,rp2⟩:=(h2 i U σ F1 G H (sm.trans s1) r1).1 f hf |>.2 y2 H hy2
  obtain ⟨f0,_,_⟩:=r2.free hp
  exact ⟨upd F2 p (.tup [y1,y2]),(s1.trans s2).trans (Same.upd f0),r2.newF hp,.tup (xs:=[y1,y2]) zam (.cons ((rp1.mono s2).mono (Same.upd f0)) (.cons (rp2.mono (Same.upd f0)) .nil))⟩
 ·rw [zft] at hl
  by_cases h:l.length<=i
  ·exact .inl (p2 h)
  ·have hlt:i < l.length:=by omega
   exact .inr ⟨(p1 l[i] (getElem?_eq_getElem hlt)).1,q2 (by omega)⟩
theorem zkf:bootBuiltins "zip"=some (.type "zip"):=by decide +kernel
theorem zhh {pn:List (Addr×Obj)} {xe:Value->Shared->Prop} {F H:Hp} {v:V} {d:D} {l:List D} (sm:Same F H) (r:Rep X.K F v d) (e:items d=some l):∃ J,SrcV (wp X pn xe) H v J/\ItOk X.K J l F:=by
 cases r with
 | lst e0 r0=>
   cases e
   exact ⟨_,.inl ⟨_,_,rfl,SqL.mono sm e0,rfl⟩,zcI e0 r0⟩
 | tup e0 r0=>
   cases e
   exact ⟨_,.inr (.inl ⟨_,_,rfl,sm _ _ e0,rfl⟩),zfS e0 r0⟩
 | str e0 z0=>
   cases e
   exact ⟨_,.inr (.inr ⟨_,rfl,rfl⟩),zdX e0⟩
 | _=>cases e
theorem zkb {wa wb:WE} (hc:X.calm=true) (hg:Gl X "zip") (hm:X.mg "zip"=none) (hv:bootBuiltins "zip"=some (.type "zip")) (ha:FE X a wa) (hb:FE X b wb) (hs:starEach [a,b] X.env=[(false,eval a X.env),(false,eval b X.env)]:=by rfl) (hs2:starEach [b] X.env=[(false,eval b X.env)]:=by rfl):
  FI X (.Tuple elts kk tpos) (.Call (.Name "zip" p) [a,b] [] pos) (wZip wa wb):=fun pn xe hp=>by
 refine PI.imp (znq (X:=wp X pn xe) hc hg hm hv (zaa ha (zaa hb zab hs2) (by rw [hs,hs2]) pn xe hp) hs hs2) fun σ H R q=>?_
 obtain ⟨F,G,U,P,PX,rel,hw,hok,hx⟩:=q
 refine ⟨F,G,U,fun rs U1=>match rs with | [r,t]=>(need (give r U1) fun p=>need (give t p.2) fun q=>need (items p.1.toD) fun l=>need (items q.1.toD) fun m=>P (zipD l m) q.2) | _=>False,PX,rel,hw,fun rs U1 vs F1 H1 hk s1 r1 hl rv=>?_,hx⟩
 match rs,vs,rv,r1,hk with
 | [r,t],[v,u],rv,r1,hk=>
   dsimp only at hk
   obtain ⟨⟨s,U2⟩,eg,hk⟩:=zad hk
   obtain ⟨⟨s',U3⟩,eg',hk⟩:=zad hk
   obtain ⟨l,el,hk⟩:=zad hk
   obtain ⟨m,em,hk⟩:=zad hk
   obtain ⟨F2,s2,ss,e3,l3,r3⟩:∃ F2,Same F1 F2/\∃ ss,ss=[s,s']/\U3.length=U1.length/\Rel X.K (U3++ss.map some) (σ++[v,u].map some) F2 G H1:=by
    have e:giveAll [r,t] U1=some ([s,s'],U3):=by
     show (match give r U1 with | some (s,U1)=>(match giveAll [t] U1 with | some (ss,U2)=>some (s::ss,U2) | none=>none) | none=>none)=_
     rw [eg]
     show (match (match give t U2 with | some (s,U1)=>some ([s],U1) | none=>none) with | some (ss,U2)=>some (s::ss,U2) | none=>none)=_
     rw [eg']
    obtain ⟨F2,s2,l2,z,r2⟩:=zbq (rs:=[r,t]) (vs:=[v,u]) (U':=[]) (σ':=[]) (by simpa using r1) hl rv e
    exact ⟨F2,s2,_,rfl,by simpa using l2,by simpa using r2⟩
   subst e3
   obtain ⟨F3,s3,rp,r4⟩:=Rel.giveD (U:=U3) (vs:=[v,u]) (ss:=[s,s']) r3 (l3.trans hl)
   have sm:=s1.trans (s2.trans s3)
   cases rp with
   | cons a0 b0=>
     cases b0 with
     | cons b0 n0=>
       obtain ⟨J1,k1,i1⟩:=zhh (pn:=pn) (xe:=xe) r4.fr a0 el
       obtain ⟨J2,k2,i2⟩:=zhh (pn:=pn) (xe:=xe) r4.fr b0 em
       exact ⟨v,u,J1,J2,rfl,k1,k2,hok _ U3 F3 H1 _ hk sm r4 (zjG i1 i2)⟩
 | [],_,_,_,hk=>exact hk.elim
 | [_],_,_,_,hk=>exact hk.elim
 | [_,_],[],rv,_,_=>exact rv.elim
 | [_,_],[_],rv,_,_=>exact rv.2.elim
 | [_,_],_::_::_::_,rv,_,_=>exact rv.2.2.elim
 | _::_::_::_,_,_,_,hk=>exact hk.elim
end
theorem zil {k:Nat} {A:Around} (hr:Room k A):A.mark none=A:=by
 obtain ⟨h,d,f,g,u⟩:=A
 have e:h=none:=hr.hd
 subst e
 rfl
end FL
end
section
namespace FL
open Classical in
noncomputable def fIx (ks:List D) (k:D):Option Nat:=ks.findIdx? fun x=>decide (x=k)
noncomputable def dputS (t:Bool) (ks:List D) (l:List S) (k:D) (s:S):S:=match fIx ks k with
 | some i=>.dct t ks (l.set i s)
 | none=>.dct t (ks++[k]) (l++[s])
noncomputable def wDput (j:Nat) (i e:WE):WS:=fun D U=>e U (fun r U1=>wVar j U1 (fun x U2=>i U2 (fun y U3=>need (view y U3) fun q=>need (give r U3) fun p=>match x,slot p.2 j with
 | .loc k,some (.dct t ks l)=>k=j/\isKey t q=true/\ks.Nodup/\ks.length < big/\D.nx (p.2.set j (some (dputS t ks l q p.1)))
 | _,_=>False) D.ex) D.ex) D.ex
end FL
end
section
namespace FL
open PySem PySem.Spec PyProof.Rows L2
theorem zf7 {ks:List D} {k:D} {i:Nat} (h:fIx ks k=some i):ks[i]?=some k:=by
 unfold fIx at h
 rw [List.findIdx?_eq_some_iff_getElem] at h
 obtain ⟨hi,h1,_⟩:=h
 rw [getElem?_eq_getElem hi]
 congr 1
 simpa using h1
theorem zi9 {ks:List D} {k:D} (h:fIx ks k=none):k∉ks:=by
 unfold fIx at h
 rw [List.findIdx?_eq_none_iff] at h
 intro m
 have:=h k m
 simp at this
section
variable {κ:Type} [DecidableEq κ] {kd:κ->D} (inj:∀ a b,kd a=kd b->a=b)
include inj
theorem zja {kvs:List (κ×V)} {k:κ} {v:V} {i:Nat} (hn:(kvs.map fun p=>kd p.1).Nodup) (h:(kvs.map fun p=>kd p.1)[i]?=some (kd k)):putK kvs k v=kvs.set i (k,v):=by
 have hi:i < kvs.length:=by
  have:=(List.getElem?_eq_some_iff.mp h).1
  simpa using this
 have hk:kvs[i].1=k:=by
  rw [getElem?_map,getElem?_eq_getElem hi] at h
  exact inj _ _ (Option.some.inj h)
 have hany:(kvs.any fun kv=>decide (kv.1=k))=true:=any_eq_true.mpr ⟨kvs[i],getElem_mem hi,by simp [hk]⟩
 unfold putK
 rw [if_pos hany]
 apply ext_getElem?
 intro j
 rw [getElem?_map,getElem?_set]
 by_cases hj:i=j
 ·subst hj
  rw [getElem?_eq_getElem hi]
  simp [hk]
  exact hi
 ·rw [if_neg hj]
  cases q:kvs[j]? with
  | none=>rfl
  | some p=>
    have hne:¬ p.1=k:=fun z=>by
     apply hj
     have h2:(kvs.map fun p=>kd p.1)[j]?=some (kd k):=by rw [getElem?_map,q,<- z]; rfl
     exact (List.getElem?_inj (by simpa using hi) hn).mp (h.trans h2.symm)
    simp [hne]
omit inj in
theorem zjr {kvs:List (κ×V)} {k:κ} {v:V} (h:kd k∉kvs.map fun p=>kd p.1):putK kvs k v=kvs++[(k,v)]:=by
 unfold putK
 rw [if_neg]
 intro z
 obtain ⟨p,hp,e⟩:=any_eq_true.mp z
 exact h (mem_map.mpr ⟨p,hp,by rw [of_decide_eq_true e]⟩)
theorem zig {kvs:List (κ×V)} {k:κ} {v:V} {ks:List D} (hks:ks=kvs.map fun p=>kd p.1) (hn:ks.Nodup):
  (∀ m,fIx ks (kd k)=some m->ks=(putK kvs k v).map (fun p=>kd p.1)/\(kvs.map (·.2)).set m v=(putK kvs k v).map (·.2))/\(fIx ks (kd k)=none->ks++[kd k]=(putK kvs k v).map (fun p=>kd p.1)/\kvs.map (·.2)++[v]=(putK kvs k v).map (·.2)):=by
 subst hks
 refine ⟨fun m hm=>?_,fun hm=>?_⟩
 ·have h:=zf7 hm
  rw [zja inj hn h,map_set,map_set]
  refine ⟨?_,rfl⟩
  apply ext_getElem?
  intro j
  rw [getElem?_set]
  by_cases hj:m=j
  ·subst hj; rw [if_pos rfl,if_pos (List.getElem?_eq_some_iff.mp h).1,h]
  ·rw [if_neg hj]
 ·rw [zjr (zi9 hm),map_append,map_append]
  exact ⟨rfl,rfl⟩
end
inductive DOb (ks:List D) (xs:List V):Bool->HO->Prop
 | k {kvs:List (Key×V)}:ks=kvs.map (fun p=>keyD p.1)->xs=kvs.map (·.2)->DOb ks xs false (.dK kvs)
 | t {kvs:List (List Key×V)}:ks=kvs.map (fun p=>D.tup (p.1.map keyD))->xs=kvs.map (·.2)->DOb ks xs true (.dT kvs)
section
variable {K:W.Frag} {F H G:Hp} {σ:St} {U:Env}
theorem zdN {v:V} {t:Bool} {ks:List D} {l:List S} {fp:List Addr} (r:SRep K F H v (.dct t ks l) fp):∃ a o xs fl,v=.ref a/\fp=a::fl/\H a=some o/\DOb ks xs t o/\SReps K F H xs l fl:=by
 cases r with
 | dK e q r=>exact ⟨_,_,_,_,rfl,rfl,e,.k q rfl,r⟩
 | dT e q r=>exact ⟨_,_,_,_,rfl,rfl,e,.t q rfl,r⟩
theorem DOb.mk {a:Addr} {o:HO} {t:Bool} {ks:List D} {xs:List V} {l:List S} {fl:List Addr} (d:DOb ks xs t o) (e:H a=some o) (r:SReps K F H xs l fl):SRep K F H (.ref a) (.dct t ks l) (a::fl):=by
 cases d with
 | k q z=>subst z; exact .dK e q r
 | t q z=>subst z; exact .dT e q r
theorem DOb.len {o:HO} {t:Bool} {ks:List D} {xs:List V} (d:DOb ks xs t o):ks.length=xs.length:=by
 cases d with
 | k q z=>subst z; subst q; simp
 | t q z=>subst z; subst q; simp
theorem DOb.put {a:Addr} {o:HO} {t:Bool} {ks:List D} {xs:List V} {y v:V} {q:D} (d:DOb ks xs t o) (e:H a=some o) (r:Rep K H y q) (hk:isKey t q=true) (hn:ks.Nodup) (hb:ks.length < sizeLine):
  ∃ o',DPut H a y v (upd H a o')/\(∀ m,fIx ks q=some m->DOb ks (xs.set m v) t o')/\(fIx ks q=none->DOb (ks++[q]) (xs++[v]) t o'):=by
 cases d with
 | @k kvs h1 h2=>
   subst h2
   obtain ⟨key,rfl,rfl⟩:=zcR r hk
   obtain ⟨p1,p2⟩:=zig (fun _ _=>zbB) (k:=key) (v:=v) h1 hn
   exact ⟨_,.inl ⟨kvs,key,e,rfl,by rw [h1,length_map] at hb; exact hb,rfl⟩,fun m hm=>.k (p1 m hm).1 (p1 m hm).2,fun hm=>.k (p2 hm).1 (p2 hm).2⟩
 | @t kvs h1 h2=>
   subst h2
   cases r with
   | tup e1 q=>
     obtain ⟨keys,rfl,rfl⟩:=zfc q hk
     obtain ⟨p1,p2⟩:=zig (kd:=fun l:List Key=>D.tup (l.map keyD)) (fun a b z=>zbV (D.tup.inj z)) (k:=keys) (v:=v) h1 hn
     exact ⟨_,.inr ⟨kvs,keys,_,e,rfl,e1,by rw [h1,length_map] at hb; exact hb,rfl⟩,fun m hm=>.t (p1 m hm).1 (p1 m hm).2,fun hm=>.t (p2 hm).1 (p2 hm).2⟩
   | _=>cases hk
theorem Rel.dct {n:Nat} {t:Bool} {ks ks':List D} {l l':List S} {s:S} {v:V} {D:Addr} {o o':HO} {xs xs':List V} (r:Rel K (U++[some s]) (σ++[some v]) F G H) (hs:slot U n=some (.dct t ks l)) (hσ:σ[n]?=some (some (.ref D))) (hD:H D=some o) (ho:DOb ks xs t o) (ho':DOb ks' xs' t o')
  (hin:∀ (H':Hp) (fl fs:List Addr),SReps K F H' xs l fl->SRep K F H' v s fs->∃ fl' rest,SReps K F H' xs' l' fl'/\(fl'++rest).Perm (fl++fs)):
  Rel K (U.set n (some (.dct t ks' l'))) σ F G (upd H D o'):=by
 have hl:=len1 r
 obtain ⟨fp,e,nd,ap⟩:=r.en
 obtain ⟨f1,f2,rfl,a,b⟩:=e.cut hl
 obtain ⟨v',fa,fi,fb,e1,rfl,q,up⟩:=a.at hs
 rw [hσ] at e1
 have e2:V.ref D=v':=by simpa using e1
 subst e2
 obtain ⟨a',o2,xs2,fl,z1,rfl,hD2,ho2,rl⟩:=zdN q
 cases z1
 rw [hD] at hD2
 cases hD2
 have ex:xs2=xs:=by
  cases ho with
  | k _ z=>cases ho2 with | k _ z'=>rw [z,z']
  | t _ z=>cases ho2 with | t _ z'=>rw [z,z']
 subst ex
 cases b with
 | so sr nl=>
   cases nl
   rename_i fs
   obtain ⟨n1,n2,n12⟩:=nodup_append.mp nd
   obtain ⟨na,nib,nab⟩:=nodup_append.mp n1
   obtain ⟨ni,nb,nib⟩:=nodup_append.mp nib
   obtain ⟨nD,nfl⟩:=nodup_cons.mp ni
   have hDa:D∉fa:=fun z=>nab D z D (mem_append_left _ mem_cons_self) rfl
   have hDb:D∉fb:=fun z=>nib D mem_cons_self D z rfl
   have hDs:D∉fs:=fun z=>n12 D (mem_append_right _ (mem_append_left _ mem_cons_self)) D (by simpa using z) rfl
   have apD:=ap D (mem_append_left _ (mem_append_right _ (mem_append_left _ mem_cons_self)))
   have ne:∀ {l:List Addr},D∉l->∀ x∈l,upd H D o' x=H x:=fun h x hx=>zag fun z=>h (z ▸ hx)
   obtain ⟨fl',rest,rl',pm⟩:=hin (upd H D o') fl fs (rl.mono (Same.refl F) (ne nD)) (sr.mono (Same.refl F) (ne hDs))
   have a2:=up (F':=F) (H':=upd H D o') (o:=some (.dct t ks' l')) (u:=some (.ref D)) (Same.refl F) (fun x hx=>zag fun z=>(mem_append.mp hx).elim (fun w=>hDa (z ▸ w)) fun w=>hDb (z ▸ w)) (.so (ho'.mk zam rl') .nil)
   rw [zdy hσ] at a2
   have p:(fa++((D::(fl'++rest))++[]++fb)).Perm (fa++((D::fl)++fb)++(fs++[])):=by
    refine (List.Perm.append_left _ (List.Perm.append_right _ (List.Perm.append_right _ (List.Perm.cons _ pm)))).trans ?_
    simp only [append_nil,append_assoc,cons_append]
    refine List.Perm.append_left _ (List.Perm.cons _ (List.Perm.append_left _ perm_append_comm))
   have sb:List.Sublist (fa++((D::fl')++[]++fb)) (fa++((D::(fl'++rest))++[]++fb)):=by
    simp only [append_nil,append_assoc,cons_append]
    exact List.Sublist.append (List.Sublist.refl _) (List.Sublist.cons_cons _ (List.Sublist.append (List.Sublist.refl _) (List.sublist_append_right _ _)))
   refine ⟨Same.updR r.fr apD.1,fun x o w=>?_,_,a2,sb.nodup (p.nodup_iff.mpr nd),fun x hx=>ap x (p.mem_iff.mp (sb.subset hx))⟩
   have hx:x≠D:=fun z=>by rw [z,apD.2] at w; cases w
   rw [zag hx]
   exact r.gr x o w
theorem Rel.dput {n:Nat} {t:Bool} {ks:List D} {l:List S} {s:S} {v y:V} {q:FL.D} {D:Addr} (r:Rel K (U++[some s]) (σ++[some v]) F G H) (hs:slot U n=some (.dct t ks l)) (hσ:σ[n]?=some (some (.ref D))) (ry:Rep K H y q) (hk:isKey t q=true) (hn:ks.Nodup) (hb:ks.length < big):
  ∃ H',DPut H D y v H'/\Rel K (U.set n (some (dputS t ks l q s))) σ F G H':=by
 obtain ⟨v',fp,e1,sr⟩:=(r.drop (len1 r)).at hs
 rw [hσ] at e1
 have e2:V.ref D=v':=by simpa using e1
 subst e2
 obtain ⟨a',o,xs,fl,z1,_,hD,ho,rl⟩:=zdN sr
 cases z1
 have hlen:=ho.len
 have hll:=rl.len
 obtain ⟨o',dp,h1,h2⟩:=ho.put (v:=v) hD ry hk hn (by rw [sizeLine_eq]; exact lt_trans hb (by decide))
 refine ⟨_,dp,?_⟩
 cases qf:fIx ks q with
 | some m=>
   have ed:dputS t ks l q s=.dct t ks (l.set m s):=by unfold dputS; rw [qf]
   rw [ed]
   have hml:m < l.length:=by
    have:=(List.getElem?_eq_some_iff.mp (zf7 qf)).1
    omega
   refine r.dct hs hσ hD ho (h1 m qf) fun H' fl fs rl sr=>?_
   obtain ⟨ga,gi,gb,rfl,sup⟩:=rl.set hml
   refine ⟨_,gi,sup (fun _ _=>rfl) sr,?_⟩
   simp only [append_assoc]
   exact List.Perm.append_left _ ((List.Perm.append_left _ perm_append_comm).trans (perm_append_comm.trans (by simp)))
 | none=>
   have ed:dputS t ks l q s=.dct t (ks++[q]) (l++[s]):=by unfold dputS; rw [qf]
   rw [ed]
   exact r.dct hs hσ hD ho (h2 qf) fun H' fl fs rl sr=>⟨fl++fs,[],SReps.snoc rl sr,by simp⟩
end
section
variable {X:Cx} {ks:List Nat} {pos tpos:Pos}
theorem zld {j:Nat} {o i e:Expr} {wi we:WE} (hu:X.A.units + 1 < cLine) (ho:FE X o (wVar j)) (hi:FE X i wi) (he:FE X e we) (hs:swapsWith e (some (.Subscript o i tpos)) pos.line X.env=pure false:=by rfl):FS X ks (.Assign [.Subscript o i tpos] e pos) (wDput j wi we):=fun pn xe hp=>by
 refine PS.imp (zlC (X:=wp X pn xe) hu (ho pn xe hp) (hi pn xe hp) (he pn xe hp) hs) fun D σ H q=>?_
 obtain ⟨F,G,U,E,rel,hw,n,b,c,r,x⟩:=q
 have x0:XC (wp X pn xe) (·=σ) F G E.ex:=x.mono (fun σ2 z=>by rw [z]; exact KP.refl) (Same.refl F) (Same.refl G)
 refine ⟨F,G,U,_,_,rel,hw,fun r U1 v F1 H1 hk s1 r1 rv=>?_,x0⟩
 have l1:=len1 r1
 obtain ⟨G1,rel1,gg,back⟩:=r1.hide l1
 refine ⟨F1,G1,U1,_,_,rel1,hk,fun y U2 o' F2 H2 hk2 s2 r2 rv2=>?_,x0.mono (fun _ z=>z) s1 gg⟩
 have l2:=len1 r2
 obtain ⟨G2,rel2,gg2,back2⟩:=r2.hide l2
 refine ⟨F2,G2,U2,_,_,rel2,hk2,fun z U3 i' F3 H3 hk3 s3 r3 rv3=>?_,x0.mono (fun _ z=>z) (s1.trans s2) (gg.trans gg2)⟩
 have l3:=len1 r3
 obtain ⟨q,eq,hk3⟩:=zad hk3
 obtain ⟨⟨t,U4⟩,eg,hk4⟩:=zad hk3
 have r4:=back (s2.trans s3) (back2 s3 r3)
 simp only [append_assoc,cons_append,nil_append] at r4
 have ri:=look (U':=[slotOf y,slotOf r]) (σ':=[some o',some v]) r4 l3 rv3 eq
 have r5:Rel X.K (U3++[slotOf r]) (σ++[some v]) F3 G H3:=Rel.mid (U:=U3) (σ:=σ) (Rel.mid (U:=U3) (σ:=σ) r4 l3) l3
 obtain ⟨F4,s4,l4,r6⟩:=giveR (U':=[]) (σ':=[]) r5 l3 rv eg
 cases y with
 | v y0=>exact hk4.elim
 | loc k=>
   cases qs:slot U4 j with
   | none=>simp only [qs] at hk4
   | some sj=>
     rw [qs] at hk4
     match sj,qs,hk4 with
     | .dct t kk l,qs,⟨ekj,hkey,hnd,hbig,hnx⟩=>
       subst ekj
       have hσ:σ[k]?=some (some o'):=rv2
       obtain ⟨v',fp,e1,sr⟩:=r6.at (i:=k) (s:=.dct t kk l) (by rw [zbR (zb7 qs)]; exact qs)
       have hkl:k < σ.length:=(List.getElem?_eq_some_iff.mp hσ).1
       rw [getElem?_append_left hkl,hσ] at e1
       have e2:o'=v':=by simpa using e1
       subst e2
       obtain ⟨a,o2,xs,fl,rfl,_,_,_,_⟩:=zdN sr
       obtain ⟨H',dp,r7⟩:=Rel.dput r6 qs hσ ri hkey hnd hbig
       exact ⟨a,_,rfl,dp,n _ σ F4 _ hnx KP.refl (s1.trans (s2.trans (s3.trans s4))) r7⟩
end
end FL
end
section
namespace FL
def wDisp1 (k v:WE):WE:=fun U Q E=>k U (fun x U1=>v U1 (fun y U2=>need (view x U2) fun q=>need (give y U2) fun p=>isKey1 q=true/\Q (.v (.dct false [q] [p.1])) p.2) E) E
end FL
end
section
namespace FL
open PySem PySem.Spec PyProof.Rows L2
section
variable {X:Cx} {elts:List Expr} {kk:Nat} {tpos apos cpos:Pos} {o:Expr}
theorem ziU {k v:Expr} {wk wv:WE} {pos:Pos} (hk:FE X k wk) (hv:FE X v wv):FE X (.Dict [some k] [v] pos) (wDisp1 wk wv):=fun pn xe hp=>by
 refine PE.imp (zkN (X:=wp X pn xe) (zjl (hk pn xe hp) (hv pn xe hp) zkp) rfl rfl (by simp) (by show 1<=15; decide)) fun σ H Q q=>?_
 obtain ⟨F,G,U,P,PX,rel,hw,hok,hx⟩:=q
 intro p hp
 have r0:=Rel.newO (s:=.dct false [] []) rel hp (.dK (kvs:=[]) zam rfl .nil)
 obtain ⟨G0,rel0,g0,back0⟩:=r0.hide (len1 r0)
 refine ⟨F,G0,U,_,PX,rel0,hw,fun rx U1 vx F1 H1 hk1 s1 r1 rv1=>?_,hx.mono (fun _ z=>z) (Same.refl F) g0⟩
 have l1:=len1 r1
 obtain ⟨G1,rel1,g1,back1⟩:=r1.hide l1
 refine ⟨F1,G1,U1,_,PX,rel1,hk1,fun ry U2 vy F2 H2 hk2 s2 r2 rv2=>?_,hx.mono (fun _ z=>z) s1 (g0.trans g1)⟩
 have l2:=len1 r2
 obtain ⟨q,eq,hk3⟩:=zad hk2
 obtain ⟨⟨t,U3⟩,eg,hkey,hk4⟩:=zad hk3
 have r3:=back0 (s1.trans s2) (back1 s2 r2)
 simp only [append_assoc,cons_append,nil_append] at r3
 -- y,x,the dict
 obtain ⟨F3,s3,l3,r4⟩:=giveR (U':=[slotOf rx,some (.dct false [] [])]) (σ':=[some vx,some (.ref p)]) r3 l2 rv2 eg
 have r3':Rel X.K (U2++slotOf rx::[some (.dct false [] [])]) (σ++some vx::[some (.ref p)]) F2 G H2:=r3.mid l2
 have rq:=look (U':=[some (.dct false [] [])]) (σ':=[some (.ref p)]) r3' l2 rv1 eq
 obtain ⟨key,rfl,rfl⟩:=zcR rq hkey
 have l3':U3.length=σ.length:=l3.trans l2
 have r5:Rel X.K (U3++[some t,some (.dct false [] [])]) (σ++[some vy,some (.ref p)]) F3 G H2:=by
  have:=Rel.mid (U:=U3++[some t]) (σ:=σ++[some vy]) (U':=[some (.dct false [] [])]) (σ':=[some (.ref p)]) (o:=slotOf rx) (w:=some (kV key)) (by simpa using r4) (by simp [l3'])
  simpa using this
 have r6:=Rel.swap (U1:=[some t]) (σ1:=[some vy]) (U2:=[some (.dct false [] [])]) (σ2:=[some (.ref p)]) l3' rfl r5
 have r7:Rel X.K ((U3++[some (.dct false [] [])])++[some t]) ((σ++[some (.ref p)])++[some vy]) F3 G H2:=by simpa using r6
 have hs7:slot (U3++[some (.dct false [] [])]) U3.length=some (.dct false [] []):=zaA (U':=[])
 have hσ7:(σ++[some (V.ref p)])[U3.length]?=some (some (.ref p)):=by rw [l3']; simp
 have hp2:H2 p=some (.dK []):=by
  obtain ⟨v',fp,e1,sr⟩:=(r7.drop (len1 r7)).at hs7
  rw [hσ7] at e1
  have e2:V.ref p=v':=by simpa using e1
  subst e2
  cases sr with
  | @dK _ kvs _ _ fl hH hks rl=>
    have:kvs=[]:=by simpa using hks
    rw [this] at hH; exact hH
 have r8:=r7.dct (ks':=[keyD key]) (l':=[t]) (o':=.dK [(key,vy)]) hs7 hσ7 hp2 (.k rfl rfl) (.k rfl rfl) fun H' fl fs rl sr=>⟨fs++[],[],.cons sr .nil,by cases rl; simp⟩
 refine ⟨hp2,[(key,vy)],rfl,by show 1<=15; decide,?_⟩
 have e9:(U3++[some (S.dct false [] [])]).set U3.length (some (.dct false [keyD key] [t]))=U3++[some (.dct false [keyD key] [t])]:=zcb (U':=[])
 rw [e9] at r8
 exact hok _ U3 _ F3 _ hk4 (s1.trans (s2.trans s3)) r8 trivial
end
section
variable {X:Cx} {K:W.Frag} {p pos:Pos} {e:Expr} {es:List Expr} {wa:WA}
theorem za0 {ns:List Int}:∀ {us:List Value},Vals (ns.map V.int) us->IntsAre us ns:=by
 induction ns with
 | nil=>intro us r; cases r; exact .nil
 | cons n ns ih=>
   intro us r
   rw [map_cons] at r
   cases r with
   | cons r1 r2=>
     obtain ⟨t,rfl⟩:=r1
     exact .cons _ t (ih r2)
end
end FL
end
section
namespace FL
end FL
end
section
namespace FL
open PySem PySem.Spec PyProof.Rows L2
end FL
end
section
namespace FL
open PySem PySem.W PyProof.Rows
section
variable {n:Nat} {rk:Nat->Int} {α β:Type}
def AskOk (n:Nat) (rk:Nat->Int) {α:Type}:KasT α->(α->Prop)->Prop
 | .ret a,P=>P a
 | .ask i j k,P=>i < n/\j < n/\AskOk n rk (k (decide (rk i < rk j))) P
theorem zbl {f:α->KasT β} {P:β->Prop}:∀ {t:KasT α},AskOk n rk t (fun a=>AskOk n rk (f a) P)->AskOk n rk (t.bind f) P
 | .ret _,h=>h
 | .ask _ _ _,h=>⟨h.1,h.2.1,zbl h.2.2⟩
def kA (rk:Nat->Int) (p:Array Nat) (k:Nat):Int:=rk ((p[k]?).getD 0)
theorem zc6 (p:Array Nat) (k:Nat):rk (p.getD k 0)=kA rk p k:=by unfold kA; rw [getD_eq_getD_getElem?]
def InR (n:Nat) (p:Array Nat):Prop:=p.size=n/\∀ k,p.getD k 0 < n
def Srt (rk:Nat->Int) (p:Array Nat) (m:Nat):Prop:=∀ a b,a<=b->b < m->kA rk p a<=kA rk p b
def Dsc (rk:Nat->Int) (p:Array Nat) (m:Nat):Prop:=∀ a b,a<=b->b < m->kA rk p b<=kA rk p a
theorem zb4 {p q:Array Nat} (h:InR n q) (hp:p.Perm q) (hn:0 < n):InR n p:=by
 refine ⟨hp.size_eq.trans h.1,fun k=>?_⟩
 rw [getD_eq_getD_getElem?]
 cases e:p[k]? with
 | none=>exact hn
 | some x=>
   have hm:x∈q:=hp.mem_iff.mp (Array.mem_of_getElem? e)
   obtain ⟨j,hj,ej⟩:=Array.getElem_of_mem hm
   have:=h.2 j
   rw [getD_eq_getD_getElem?,Array.getElem?_eq_getElem hj,ej] at this
   exact this
theorem zfl {p:Array Nat} {P:Nat->Prop} (hr:InR n p):∀ (f m:Nat),1<=m->Srt rk p m->(∀ m',m<=m'->m'<=m + f->Srt rk p m'->(m' < m + f->kA rk p m' < kA rk p (m' - 1))->P m')->AskOk n rk (kas_asc p f m) P
 | 0,m,_,hs,h=>h m (le_refl _) (le_refl _) hs fun z=>absurd z (by omega)
 | f + 1,m,h1,hs,h=>by
   refine ⟨hr.2 m,hr.2 (m - 1),?_⟩
   rw [zc6 (rk:=rk),zc6 (rk:=rk)]
   by_cases hc:kA rk p m < kA rk p (m - 1)
   ·rw [decide_eq_true hc]
    exact h m (le_refl _) (by omega) hs fun _=>hc
   ·rw [decide_eq_false hc]
    refine zfl hr f (m + 1) (by omega) (fun a b hab hb=>?_) fun m' h2 h3 h4 h5=>h m' (by omega) (by omega) h4 fun z=>h5 (by omega)
    by_cases hbm:b < m
    ·exact hs a b hab hbm
    ·have:b=m:=by omega
     subst this
     by_cases ha:a=b
     ·rw [ha]; exact Int.le_refl _
     ·have:=hs a (b - 1) (by omega) (by omega)
      omega
theorem zcM {p:Array Nat} {k:Nat} {P:Nat->Prop} (hr:InR n p) (hs:Srt rk p k):∀ (f l r:Nat),l<=r->r<=k->r - l<=f->(∀ a,a < l->kA rk p a<=kA rk p k)->(∀ a,r<=a->a < k->kA rk p k < kA rk p a)->
  (∀ l',l'<=k->(∀ a,a < l'->kA rk p a<=kA rk p k)->(∀ a,l'<=a->a < k->kA rk p k < kA rk p a)->P l')->AskOk n rk (kas_place p k f l r) P
 | 0,l,r,h1,h2,h3,h4,h5,h=>by
   have:l=r:=by omega
   subst this
   exact h l h2 h4 h5
 | f + 1,l,r,h1,h2,h3,h4,h5,h=>by
   unfold kas_place
   by_cases hl:l ≥ r
   ·rw [if_pos hl]
    have:l=r:=by omega
    subst this
    exact h l h2 h4 h5
   ·rw [if_neg hl]
    refine ⟨hr.2 k,hr.2 _,?_⟩
    rw [zc6 (rk:=rk),zc6 (rk:=rk)]
    by_cases hc:kA rk p k < kA rk p ((l + r) / 2)
    ·rw [decide_eq_true hc]
     refine zcM hr hs f l ((l + r) / 2) (by omega) (by omega) (by omega) h4 (fun a h6 h7=>?_) h
     have:=hs _ a h6 h7
     omega
    ·rw [decide_eq_false hc]
     refine zcM hr hs f ((l + r) / 2 + 1) r (by omega) h2 (by omega) (fun a h6=>?_) h5 h
     have:=hs a ((l + r) / 2) (by omega) (by omega)
     omega
theorem zd9 {p:Array Nat} {k d:Nat} (hk:k < p.size) (hd:d<=k) (j:Nat):kA rk (bubble p k d) j=if j=k - d then kA rk p k else if k - d < j/\j<=k then kA rk p (j - 1) else kA rk p j:=by
 unfold kA
 rw [getElem?_bubble hk d hd j]
 by_cases h1:j=k - d
 ·rw [if_pos h1,if_pos h1]
 ·rw [if_neg h1,if_neg h1]
  by_cases h2:k - d < j/\j<=k
  ·rw [if_pos h2,if_pos h2]
  ·rw [if_neg h2,if_neg h2]
theorem zhN {P:Array Nat->Prop} (hn:0 < n):∀ (f:Nat) (p:Array Nat) (k:Nat),InR n p->Srt rk p k->k + f<=n->(∀ p',p'.Perm p->InR n p'->Srt rk p' (k + f)->P p')->AskOk n rk (kas_bin f p k) P
 | 0,p,k,hr,hs,_,h=>h p (Array.Perm.refl _) hr hs
 | f + 1,p,k,hr,hs,hk,h=>by
   unfold kas_bin
   refine zbl (zcM hr hs k 0 k (zero_le _) (le_refl _) (by omega) (fun a z=>absurd z (by omega)) (fun a z1 z2=>absurd z1 (by omega)) fun l hl h1 h2=>?_)
   have hks:k < p.size:=by rw [hr.1]; omega
   have hp:=bubble_perm p k (k - l)
   refine zhN hn f _ (k + 1) (zb4 hr hp hn) (fun a b hab hb=>?_) (by omega) fun p' q1 q2 q3=>h p' (q1.trans hp) q2 (by rw [show k + (f + 1)=k + 1 + f by omega]; exact q3)
   rw [zd9 hks (by omega),zd9 hks (by omega)]
   have ekl:k - (k - l)=l:=by omega
   rw [ekl]
   by_cases ha:a=l
   ·rw [if_pos ha]
    by_cases hb2:b=l
    ·rw [if_pos hb2]; exact Int.le_refl _
    ·rw [if_neg hb2,if_pos ⟨by omega,by omega⟩]
     have:=h2 (b - 1) (by omega) (by omega)
     omega
   ·rw [if_neg ha]
    by_cases ha2:l < a/\a<=k
    ·rw [if_pos ha2,if_neg (by omega),if_pos ⟨by omega,by omega⟩]
     exact hs (a - 1) (b - 1) (by omega) (by omega)
    ·rw [if_neg ha2]
     have hal:a < l:=by omega
     by_cases hb2:b=l
     ·rw [if_pos hb2]; exact h1 a hal
     ·rw [if_neg hb2]
      by_cases hb3:l < b/\b<=k
      ·rw [if_pos hb3]; exact hs a (b - 1) (by omega) (by omega)
      ·rw [if_neg hb3]; exact hs a b hab (by omega)
theorem zeM {p:Array Nat} {i j:Nat} (hj:j<=p.size) (k:Nat):kA rk (kas_rev p i j) k=if i<=k/\k < j then kA rk p (i + j - 1 - k) else kA rk p k:=by
 unfold kA kas_rev
 rw [getElem?_mirror_all hj]
 by_cases h:i<=k/\k < j
 ·rw [if_pos h,if_pos h]
 ·rw [if_neg h,if_neg h]
theorem za2 (p:Array Nat) (i j:Nat):(kas_rev p i j).Perm p:=mirror_perm ..
theorem zdw {P:Array Nat×Nat×Nat->Prop} (hn:0 < n):∀ (f:Nat) (p:Array Nat) (m q:Nat),InR n p->Dsc rk p m->m + f<=n->q + 1<=m->(∀ a,m - (q + 1)<=a->a < m->kA rk p a=kA rk p (m - 1))->
  (∀ p' m' q',p'.Perm p->InR n p'->Dsc rk p' m'->m'<=m + f->m<=m'->q' + 1<=m'->(∀ a,m' - (q' + 1)<=a->a < m'->kA rk p' a=kA rk p' (m' - 1))->P (p',m',q'))->AskOk n rk (kas_desc f p m q) P
 | 0,p,m,q,hr,hd,_,hq,he,h=>h p m q (Array.Perm.refl _) hr hd (le_refl _) (le_refl _) hq he
 | f + 1,p,m,q,hr,hd,hm,hq,he,h=>by
   unfold kas_desc
   refine ⟨hr.2 m,hr.2 (m - 1),?_⟩
   rw [zc6 (rk:=rk),zc6 (rk:=rk)]
   by_cases hc:kA rk p m < kA rk p (m - 1)
   ·(rw [decide_eq_true hc]; dsimp only; rw [if_pos rfl])
    have go:∀ p2:Array Nat,p2.Perm p->(∀ k,kA rk p2 k=kA rk p k)->AskOk n rk (kas_desc f p2 (m + 1) 0) P:=by
     intro p2 hp hk
     refine zdw hn f p2 (m + 1) 0 (zb4 hr hp hn) (fun a b hab hb=>?_) (by omega) (by omega) (fun a h1 h2=>?_) fun p' m' q' g1 g2 g3 g4 g5 g6 g7=>h p' m' q' (g1.trans hp) g2 g3 (by omega) (by omega) g6 g7
     ·rw [hk,hk]
      by_cases hbm:b < m
      ·exact hd a b hab hbm
      ·have:b=m:=by omega
       subst this
       by_cases ha:a=b
       ·rw [ha]; exact Int.le_refl _
       ·have:=hd a (b - 1) (by omega) (by omega)
        omega
     ·have:a=m + 1 - 1:=by omega
      rw [this]
    by_cases hq0:q > 0
    ·rw [if_pos hq0]
     refine go _ (za2 ..) fun k=>?_
     rw [zeM (by rw [hr.1]; omega)]
     by_cases hk:m - (q + 1)<=k/\k < m
     ·rw [if_pos hk,he k hk.1 hk.2,he _ (by omega) (by omega)]
     ·rw [if_neg hk]
    ·rw [if_neg hq0]
     exact go p (Array.Perm.refl _) fun _=>rfl
   ·(rw [decide_eq_false hc]; dsimp only; rw [if_neg Bool.false_ne_true])
    refine ⟨hr.2 (m - 1),hr.2 m,?_⟩
    rw [zc6 (rk:=rk),zc6 (rk:=rk)]
    by_cases hc2:kA rk p (m - 1) < kA rk p m
    ·(rw [decide_eq_true hc2]; dsimp only; rw [if_pos rfl])
     exact h p m q (Array.Perm.refl _) hr hd (by omega) (le_refl _) hq he
    ·(rw [decide_eq_false hc2]; dsimp only; rw [if_neg Bool.false_ne_true])
     have heq:kA rk p m=kA rk p (m - 1):=by omega
     refine zdw hn f p (m + 1) (q + 1) hr (fun a b hab hb=>?_) (by omega) (by omega) (fun a h1 h2=>?_) fun p' m' q' g1 g2 g3 g4 g5 g6 g7=>h p' m' q' g1 g2 g3 (by omega) (by omega) g6 g7
     ·by_cases hbm:b < m
      ·exact hd a b hab hbm
      ·have:b=m:=by omega
       subst this
       by_cases ha:a=b
       ·rw [ha]; exact Int.le_refl _
       ·have:=hd a (b - 1) (by omega) (by omega)
        omega
     ·show kA rk p a=kA rk p m
      by_cases ha:a=m
      ·rw [ha]
      ·rw [heq]; exact he a (by omega) (by omega)
theorem zkB {p:Array Nat} {m:Nat} (hm:m<=p.size) (hd:Dsc rk p m):Srt rk (kas_rev p 0 m) m:=fun a b hab hb=>by
 rw [zeM hm,zeM hm,if_pos ⟨zero_le _,by omega⟩,if_pos ⟨zero_le _,hb⟩]
 exact hd _ _ (by omega) (by omega)
theorem zfK {P:Nat×Array Nat->Prop} (hn:0 < n) {p:Array Nat} {m:Nat} (hr:InR n p) (hd:Dsc rk p m) (h1:1<=m) (hm:m<=n)
  (h:∀ m' p',p'.Perm p->InR n p'->m<=m'->m'<=n->Srt rk p' m'->P (m',p')):AskOk n rk (kas_tail3 m n p) P:=by
 have hs:=zkB (by rw [hr.1]; exact hm) hd
 have hr2:=zb4 hr (za2 p 0 m) hn
 unfold kas_tail3
 exact zbl (zfl hr2 (n - m) m h1 hs fun m' g1 g2 g3 _=>h m' _ (za2 ..) hr2 g1 (by omega) g3)
theorem zeh {P:Nat×Array Nat->Prop} (hn:0 < n) {p:Array Nat} {m:Nat} (hr:InR n p) (hd:Dsc rk p (m + 1)) (h1:1<=m) (hm:m + 1<=n)
  (h:∀ m' p',p'.Perm p->InR n p'->1<=m'->m'<=n->Srt rk p' m'->P (m',p')):AskOk n rk (kas_descPart m n p) P:=by
 unfold kas_descPart
 refine zbl (zdw hn (n - (m + 1)) p (m + 1) 0 hr hd (by omega) (by omega) (fun a g1 g2=>by rw [show a=m + 1 - 1 by omega]) fun p' m' q' g1 g2 g3 g4 g5 g6 g7=>?_)
 show AskOk n rk (if q' > 0 then kas_tail3 m' n (kas_rev p' (m' - (q' + 1)) m') else kas_tail3 m' n p') P
 by_cases hq:q' > 0
 ·rw [if_pos hq]
  have hk:∀ k,kA rk (kas_rev p' (m' - (q' + 1)) m') k=kA rk p' k:=fun k=>by
   rw [zeM (by rw [g2.1]; omega)]
   by_cases hk:m' - (q' + 1)<=k/\k < m'
   ·rw [if_pos hk,g7 k hk.1 hk.2,g7 _ (by omega) (by omega)]
   ·rw [if_neg hk]
  refine zfK hn (zb4 g2 (za2 ..) hn) (fun a b hab hb=>by rw [hk,hk]; exact g3 a b hab hb) (by omega) (by omega) fun m2 p2 e1 e2 e3 e4 e5=>h m2 p2 (e1.trans ((za2 ..).trans g1)) e2 (by omega) e4 e5
 ·rw [if_neg hq]
  exact zfK hn g2 g3 (by omega) (by omega) fun m2 p2 e1 e2 e3 e4 e5=>h m2 p2 (e1.trans g1) e2 (by omega) e4 e5
theorem zg2 {P:Nat×Array Nat->Prop} (hn:2<=n) {p:Array Nat} (hr:InR n p) (h:∀ m' p',p'.Perm p->InR n p'->1<=m'->m'<=n->Srt rk p' m'->P (m',p')):AskOk n rk (kas_count n p) P:=by
 unfold kas_count
 refine zbl (zfl hr (n - 1) 1 (le_refl _) (fun a b hab hb=>by rw [show a=b by omega]; exact Int.le_refl _) fun m g1 g2 g3 g4=>?_)
 by_cases hm:(m == n)=true
 ·rw [if_pos hm]
  have:m=n:=by simpa using hm
  exact h m p (Array.Perm.refl _) hr g1 (by omega) g3
 ·rw [if_neg hm]
  have hne:m≠n:=by simpa using hm
  have hlt:=g4 (by omega)
  by_cases hm1:m > 1
  ·rw [if_pos hm1]
   refine ⟨hr.2 0,hr.2 (m - 1),?_⟩
   rw [zc6 (rk:=rk),zc6 (rk:=rk)]
   by_cases hc:kA rk p 0 < kA rk p (m - 1)
   ·(rw [decide_eq_true hc]; dsimp only; rw [if_pos rfl])
    exact h m p (Array.Perm.refl _) hr g1 (by omega) g3
   ·(rw [decide_eq_false hc]; dsimp only; rw [if_neg Bool.false_ne_true])
    have heq:∀ a,a < m->kA rk p a=kA rk p (m - 1):=fun a ha=>by
     have e1:=g3 0 a (zero_le _) ha
     have e2:=g3 a (m - 1) (by omega) (by omega)
     omega
    have hk:∀ k,kA rk (kas_rev p 0 m) k=kA rk p k:=fun k=>by
     rw [zeM (by rw [hr.1]; omega)]
     by_cases hk:0<=k/\k < m
     ·rw [if_pos hk,heq k hk.2,heq _ (by omega)]
     ·rw [if_neg hk]
    refine zeh (by omega) (zb4 hr (za2 ..) (by omega)) (fun a b hab hb=>?_) g1 (by omega) fun m2 p2 e1 e2 e3 e4 e5=>h m2 p2 (e1.trans (za2 ..)) e2 e3 e4 e5
    rw [hk,hk]
    by_cases hbm:b < m
    ·rw [heq b hbm,heq a (by omega)]; exact Int.le_refl _
    ·have:b=m:=by omega
     subst this
     by_cases ha:a=b
     ·rw [ha]; exact Int.le_refl _
     ·rw [heq a (by omega)]; omega
  ·rw [if_neg hm1]
   have:m=1:=by omega
   subst this
   refine zeh (by omega) hr (fun a b hab hb=>?_) (le_refl _) (by omega) h
   by_cases hab2:a=b
   ·rw [hab2]; exact Int.le_refl _
   ·have e1:a=0:=by omega
    have e2:b=1:=by omega
    have hlt':kA rk p 1 < kA rk p 0:=hlt
    rw [e1,e2]; omega
theorem zis (hn:0 < n):InR n (List.range n).toArray:=by
 refine ⟨by simp,fun k=>?_⟩
 rw [getD_eq_getD_getElem?]
 by_cases hk:k < n
 ·simp [hk]
 ·simp [hk]; exact hn
theorem zjC {P:Array Nat->Prop} (hn:2<=n) (h:∀ p,p.Perm (List.range n).toArray->Srt rk p n->P p):AskOk n rk (kas_sort n) P:=by
 unfold kas_sort
 refine zbl (zg2 hn (zis (by omega)) fun m p g1 g2 g3 g4 g5=>?_)
 show AskOk n rk (if m < n then kas_bin (n - max m 1) p (max m 1) else .ret p) P
 have hmax:max m 1=m:=by omega
 rw [hmax]
 by_cases hm:m < n
 ·rw [if_pos hm]
  exact zhN (by omega) (n - m) p m g2 g5 (by omega) fun p' e1 e2 e3=>h p' (e1.trans g1) (by rw [show m + (n - m)=n by omega] at e3; exact e3)
 ·rw [if_neg hm]
  have:m=n:=by omega
  subst this
  exact h p g1 g5
end
end FL
end
section
namespace FL
open PySem PySem.Spec PyProof.Rows L2
section
variable {X:Cx} {pins:List (Addr×Obj)} {σ:List (Option V)} {H:Hp} {s:Shared} {h':Heap}
theorem zmJ {h:Heap} {a:Addr} {m m':Str->Option Value} (x:h.Ns a m) (y:h.Ns a m'):m=m':=by
 obtain ⟨o,es,ep,e,d,_,f⟩:=x
 obtain ⟨o',es',ep',e',d',_,f'⟩:=y
 rw [e] at e'; cases e'
 rw [d] at d'; cases d'
 funext n
 rw [<- f n,<- f' n]
theorem ObjOk.there {P:Program} {w:World} {h:Heap} {a:Addr} {o:HO} (x:ObjOk P w H h a o):∃ u,h.get? a=some u:=by
 cases o with
 | lst xs=>obtain ⟨_,_,_,_,e⟩:=x; exact ⟨_,e⟩
 | tup xs=>obtain ⟨_,_,_,u,e,_⟩:=x; exact ⟨_,e⟩
 | dK kvs=>obtain ⟨_,_,_,_,o,_,_,e,_⟩:=x; exact ⟨_,e⟩
 | dT kvs=>obtain ⟨_,_,_,_,o,_,_,e,_⟩:=x; exact ⟨_,e⟩
 | set vs=>
   rcases x with ⟨_,⟨_,e⟩ | ⟨_,_,_,_,_,_,_,e,_⟩ | ⟨_,_,_,_,_,_,_,_,e,_⟩⟩
   ·exact ⟨_,e⟩
   ·exact ⟨_,e⟩
   ·exact ⟨_,e⟩
 | ins C dx fs=>obtain ⟨_,_,_,e,_⟩:=x; exact ⟨_,e⟩
 | own y=>exact x
 | xd fs=>obtain ⟨_,⟨_,_,_,e,_⟩,_⟩:=x; exact ⟨_,e⟩
 | rng lo hi=>obtain ⟨_,_,_,e⟩:=x; exact ⟨_,e⟩
 | frz ob u=>exact ⟨_,x.1⟩
 | tbl ps=>exact ⟨_,(show h.get? a=some _ from x)⟩
 | met f y=>exact ⟨_,(show h.get? a=some _ from x)⟩
 | ext φ=>exact x.2.1
theorem Inv.laidF {a:Addr} {o:HO} {t':Nat} (I:Inv X pins σ H s) (hn:∀ m,s.heap.Ns X.env.locals m->h'.Ns X.env.locals m) (k:∀ b u,b≠X.env.locals->s.heap.get? b=some u->h'.get? b=some u)
  (hp:s.heap.get? a=none) (new:ObjOk X.prog X.w (upd H a o) h' a o):Inv X pins σ (upd H a o) { s with heap:=h',toks:=t' }:=by
 have ha:H a=none:=by
  cases e:H a with
  | none=>rfl
  | some u=>obtain ⟨v,z⟩:=ObjOk.there (I.hok a u e); rw [hp] at z; cases z
 refine I.step (g':=s.gens) (d':=s.drawn) (ch:=[]) (fun _ z=>nomatch z) (fun b ob nL _ _ e _=>k b ob nL e) (fun b ob nL _ _ e _=>⟨ob.slots,k b ob nL e⟩) (fun b ob _ e n=>by rw [zag (fun z=>by rw [z,hp] at e; cases e)]; exact n)
  (fun b ob _ e=>?_) (fun b xs q=>by rw [zag (zau q ha)]; exact q) (fun b u xs q=>by rw [zag (zau q ha)]; exact q) (fun b ps q=>⟨#[],by rw [zag (zau q ha),q]; simp⟩) hn (fun b ob e=>?_) I.bare
 ·by_cases hb:b=X.env.locals
  ·obtain ⟨m,x,_⟩:=I.loc
   obtain ⟨o',_,_,e',_⟩:=hn m x
   exact ⟨o',by rw [hb]; exact e'⟩
  ·exact ⟨ob,k b ob hb e⟩
 ·by_cases hb:b=a
  ·subst hb; rw [zam] at e; cases e; exact new
  ·rw [zag hb] at e
   refine (I.hok b ob e).stay (fun c v hc q=>k c v (fun z=>?_) q) (fun c q=>by rw [zag (zau q ha)]; exact q) fun c xs q=>by rw [zag (zau q ha)]; exact q
   rw [z] at hc
   rcases hc with r | r
   ·rw [<- r,I.free] at e; cases e
   ·rw [I.free] at r; cases r
end
section
open HT
theorem ziz:∀ l:List Int,lexLt l l=false
 | []=>rfl
 | x::l=>by rw [zaG,if_pos rfl,ziz l]
theorem zdD:∀ k j i:List Int,lexLt k j=true->lexLt i j=false->lexLt k i=true
 | [],[],_,h,_=>by cases h
 | [],_::_,[],_,g=>by cases g
 | [],_::_,_::_,_,_=>rfl
 | _::_,[],_,h,_=>by cases h
 | _::_,_::_,[],_,g=>by cases g
 | x::k,y::j,z::i,h,g=>by
   rw [zaG] at h g ⊢
   by_cases xy:x=y
   ·by_cases zy:z=y
    ·rw [if_pos xy] at h
     rw [if_pos zy] at g
     rw [if_pos (xy.trans zy.symm)]
     exact zdD k j i h g
    ·rw [if_neg zy] at g
     have:=of_decide_eq_false g
     rw [if_neg (by omega)]
     exact decide_eq_true (by omega)
   ·rw [if_neg xy] at h
    have:=of_decide_eq_true h
    by_cases zy:z=y
    ·rw [if_neg (by omega)]
     exact decide_eq_true (by omega)
    ·rw [if_neg zy] at g
     have:=of_decide_eq_false g
     rw [if_neg (by omega)]
     exact decide_eq_true (by omega)
theorem zcl:∀ i j:List Int,lexLt i j=true->lexLt j i=false
 | [],[],h=>by cases h
 | [],_::_,_=>rfl
 | _::_,[],h=>by cases h
 | x::i,y::j,h=>by
   rw [zaG] at h ⊢
   by_cases xy:x=y
   ·rw [if_pos xy] at h
    rw [if_pos xy.symm]
    exact zcl i j h
   ·rw [if_neg xy] at h
    have:=of_decide_eq_true h
    rw [if_neg (by omega)]
    exact decide_eq_false (by omega)
theorem zhz {p q:Nat->Bool} (h:∀ x,p x=true->q x=true):∀ l:List Nat,l.countP p<=l.countP q
 | []=>le_refl _
 | a::l=>by
   rw [countP_cons,countP_cons]
   have:=zhz h l
   cases e:p a with
   | true=>rw [h a e]; omega
   | false=>simp only [false_eq_true,if_false]; omega
theorem zki {p q:Nat->Bool} (h:∀ x,p x=true->q x=true):∀ l:List Nat,(∃ x,x∈l/\q x=true/\p x=false)->l.countP p < l.countP q
 | [],z=>by obtain ⟨_,z,_⟩:=z; cases z
 | a::l,z=>by
   rw [countP_cons,countP_cons]
   obtain ⟨x,hx,qx,px⟩:=z
   by_cases e:x=a
   ·subst e
    have:=zhz h l
    rw [qx,px]
    simp only [false_eq_true,if_false,if_true]
    omega
   ·have:=zki h l ⟨x,(mem_cons.mp hx).resolve_left e,qx,px⟩
    cases e:p a with
    | true=>rw [h a e]; omega
    | false=>simp only [false_eq_true,if_false]; omega
def rkL (ls:List (List Int)) (i:Nat):Int:=((List.range ls.length).countP fun j=>lexLt (ls.getD j []) (ls.getD i []):Nat)
theorem zmd {ls:List (List Int)} {i j:Nat} (hi:i < ls.length):decide (rkL ls i < rkL ls j)=lexLt (ls.getD i []) (ls.getD j []):=by
 unfold rkL
 cases e:lexLt (ls.getD i []) (ls.getD j []) with
 | true=>
   refine decide_eq_true (Int.ofNat_lt.mpr (zki (fun k hk=>?_) _ ⟨i,mem_range.mpr hi,e,ziz _⟩))
   exact zdD _ _ _ hk (zcl _ _ e)
 | false=>
   refine decide_eq_false fun h=>?_
   have:=zhz (p:=fun k=>lexLt (ls.getD k []) (ls.getD j [])) (q:=fun k=>lexLt (ls.getD k []) (ls.getD i [])) (fun k hk=>zdD _ _ _ hk e) (List.range ls.length)
   omega
end
section
open PySem.W HT
variable {prog:Program} {w:World} {A:Around} {s:Shared} {b:Bool} {Q:Bool->Shared->Prop} {κ:SortKind}
theorem zeX {us vs:List Value} {ns ms:List Int} (i:Nat) (r:IntsAre us ns) (r':IntsAre vs ms) (h:Q (lexLt ns ms) s):KatLex prog w A b (decide (ns.length < ms.length)) Q (us.zip vs) i s:=by
 induction r generalizing vs ms i with
 | nil=>cases r' <;> exact kat_nil h
 | @cons n _ _ ns r ih=>cases r' with
   | nil=>exact kat_nil h
   | @cons m _ _ ms r'=>
     have e:decide ((n::ns).length < (m::ms).length)=decide (ns.length < ms.length):=decide_eq_decide.2 Nat.succ_lt_succ_iff
     rw [e]
     refine kat_cons (wpAny_eqBool_int ?_)
     rw [zaG] at h
     by_cases nm:n=m
     ·rw [if_pos nm] at h
      rw [show (n == m)=true by simp [nm]]
      exact kat_yes (ih (i + 1) r' h)
     ·rw [if_neg nm] at h
      rw [show (n == m)=false by simp [nm]]
      refine kat_no ?_
      cases (b && i == 0) with
      | true=>exact oneLt_int h
      | false=>exact kat_one _ _ (PyProof.Rows.lt_int h)
theorem zdk {n:Nat} {rk:Nat->Int} {vs:List Value} {α:Type} {P:α->Prop} {R:α->Shared->Prop} (hc:∀ i j (C:Bool->Shared->Prop),i < n->j < n->C (decide (rk i < rk j)) s->kas_ask prog w A κ vs i j C s):
  ∀ (t:KasT α),AskOk n rk t P->(∀ a,P a->R a s)->t.kasWp (kas_ask prog w A κ vs) R s
 | .ret a,h,q=>q a h
 | .ask i j k,h,q=>hc i j _ h.1 h.2.1 (zdk hc (k _) h.2.2 q)
end
section
open PySem.W HT
variable {X:Cx} {pins:List (Addr×Obj)} {σ:List (Option V)} {H:Hp} {s:Shared}
def rest (h₀:Heap) (L:Addr) (h:Heap):List (Addr×Obj):=(List.range h.objs.size).filterMap fun b=>if b=L then none else if (h₀.get? b).isSome then none else (h.get? b).map fun o=>(b,o)
theorem zco {h₀ h:Heap} {L:Addr} {p:Addr×Obj}:p∈rest h₀ L h↔h.get? p.1=some p.2/\p.1≠L/\h₀.get? p.1=none:=by
 unfold rest
 rw [mem_filterMap]
 constructor
 ·rintro ⟨b,_,e⟩
  by_cases h1:b=L
  ·rw [if_pos h1] at e; cases e
  ·rw [if_neg h1] at e
   cases h2:h₀.get? b with
   | some o=>rw [h2] at e; cases e
   | none=>
     rw [h2] at e
     simp only [Option.isSome_none,false_eq_true,if_false] at e
     obtain ⟨o,e1,e2⟩:=map_eq_some_iff.mp e
     cases e2
     exact ⟨e1,h1,h2⟩
 ·rintro ⟨e1,e2,e3⟩
  refine ⟨p.1,mem_range.mpr (Heap.lt_size e1),?_⟩
  rw [if_neg e2,e3,e1]
  rfl
theorem zhE:∀ {bs:List Addr} {its:List Value},Vals (bs.map V.ref) its->its=bs.map Value.ref
 | [],_,.nil=>rfl
 | b::bs,_,.cons r t=>by
   have e:_=Value.ref b:=r
   rw [e,zhE t]
   rfl
theorem zeA:∀ bs:List Addr,Vals (bs.map V.ref) (bs.map Value.ref)
 | []=>.nil
 | _::bs=>.cons rfl (zeA bs)
def TupI (h:Heap) (b:Addr) (l:List Int):Prop:=∃ us,IntsAre us l/\IsTup h b us.toArray
theorem katTups {h:Heap}:∀ {bs:List Addr} {ls:List (List Int)},Paired (fun b l=>l≠[]/\TupI h b l) bs ls->∃ fs:List Value,KatTups h (bs.map Value.ref) fs/\fs.length=bs.length/\∀ v∈fs,∃ z t,v=Value.int z t
 | _,_,.nil=>⟨[],.nil,rfl,fun _ z=>nomatch z⟩
 | _,_,.cons ⟨hne,us,r,o,e,c,n,d⟩ t=>by
   obtain ⟨fs,t1,t2,t3⟩:=katTups t
   cases r with
   | nil=>exact absurd rfl hne
   | cons i tk r'=>
     refine ⟨_::fs,.cons e c d rfl t1,by simp [t2],fun v hv=>?_⟩
     rcases mem_cons.mp hv with z | z
     ·exact ⟨_,_,z⟩
     ·exact t3 v z
theorem zbL {α β:Type} {R:α->β->Prop}:∀ {l:List α} {m:List β} (i:Nat) (da:α) (db:β),Paired R l m->i < l.length->R (l.getD i da) (m.getD i db)
 | _,_,0,_,_,.cons r _,_=>r
 | _,_,i + 1,da,db,.cons _ t,h=>zbL i da db t (by simpa using h)
def rSortT (K:W.Frag):List V->Hp->VK->Prop:=fun xs H Q=>∃ (a:Addr) (bs:List Addr) (ls:List (List Int)),xs=[.ref a]/\SqL K H a (bs.map V.ref)/\2<=bs.length/\bs.length < 64/\
 Paired (fun b l=>l≠[]/\SqT K H b (l.map V.int)) bs ls/\
 ∀ p:Array Nat,p.Perm (List.range bs.length).toArray->Srt (rkL ls) p bs.length->∀ q,H q=none->Q (.ref q) (upd H q (.lst ((p.toList.map fun i=>bs.getD i 0).map V.ref)))
theorem zeI:CallR X (.builtin "sorted") (rSortT X.K):=by
 intro pins s σ H xs us Q I r h
 obtain ⟨a,bs,ls,rfl,hq,h2,h64,ht,q⟩:=h
 cases r with
 | cons r1 r2=>
   cases r2
   cases r1
   obtain ⟨its,rv,pl,_⟩:=I.list hq
   have hv:=zhE rv
   subst hv
   obtain ⟨m,F⟩:=I.fr
   have N:News X.base X.env.locals s.heap (rest X.base X.env.locals s.heap):=fun p hp=>zco.mp hp
   refine kat_sorted F N pl.isList (by rw [length_map]; exact h2) (by rw [length_map]; exact h64) fun D e1 h' F' N' hD=>?_
   have kp:∀ {h':Heap},Fr X.base X.env.locals h' m->News X.base X.env.locals h' (rest X.base X.env.locals s.heap)->∀ b u,b≠X.env.locals->s.heap.get? b=some u->h'.get? b=some u:=fun {h'} F' N' b u hb e=>by
    cases hb0:X.base.get? b with
    | some o=>
      rw [F.keep b o hb0] at e
      rw [<- e]
      exact F'.keep b o hb0
    | none=>exact (N' (b,u) (zco.mpr ⟨e,hb,hb0⟩)).1
   have tl:∀ {d o news},News X.base X.env.locals h' ((d,o)::news)->News X.base X.env.locals h' news:=fun N p hp=>N p (mem_cons_of_mem _ hp)
   have hDn:s.heap.get? D=none:=by
    cases e:s.heap.get? D with
    | none=>rfl
    | some u=>
      obtain ⟨_,n1,n2⟩:=N' (D,seqObj "list" #[] e1) mem_cons_self
      exact absurd (hD (D,u) (zco.mpr ⟨e,n1,n2⟩)) (lt_irrefl _)
   have tp:Paired (fun b l=>l≠[]/\TupI h' b l) bs ls:=Paired.mapP ht fun b l ⟨hne,hs⟩=>by
    obtain ⟨us,r,⟨o,e,c,n,d⟩,_⟩:=I.tuple hs
    refine ⟨hne,us,za0 r,o,kp F' (tl N') b o (fun z=>?_) e,c,n,d⟩
    obtain ⟨m,⟨o',es,ep,e',d',_⟩,_⟩:=I.loc
    rw [z,e'] at e; cases e
    rw [d'] at d; cases d
   obtain ⟨fs,t1,t2,t3⟩:=katTups tp
   have hll:ls.length=bs.length:=(Paired.length tp).symm
   refine kat_kind (T:=.type "int") t1 (by omega) (fun v hv=>?_) (by rfl) ?_
   ·obtain ⟨z,t,rfl⟩:=t3 v hv
    exact Looks.of_pure rfl
   ·refine zdk (n:=bs.length) (rk:=rkL ls) (P:=fun p=>p.Perm (List.range bs.length).toArray/\Srt (rkL ls) p bs.length) (fun i j C hi hj hc=>?_) _ (by rw [length_map]; exact zjC h2 fun p a b=>⟨a,b⟩) fun p ⟨p1,p2⟩=>?_
    ·rw [zmd (by omega)] at hc
     obtain ⟨_,us,r,o,e,c,n,d⟩:=zbL i 0 [] tp hi
     obtain ⟨_,us',r',o',e',c',n',d'⟩:=zbL j 0 [] tp hj
     have g:∀ i,i < bs.length->(bs.map Value.ref).getD i Value.none=.ref (bs.getD i 0):=fun i hi=>by simp [hi]
     unfold kas_ask
     rw [g i hi,g j hj]
     refine kat_lt e d e' d' ?_
     have l1:us.toArray.size=(ls.getD i []).length:=by rw [size_toArray]; exact r.length
     have l2:us'.toArray.size=(ls.getD j []).length:=by rw [size_toArray]; exact r'.length
     rw [l1,l2]
     exact zeX 0 r r' hc
    ·refine KasFin.intro F' N' (.head fun p hp=>ne_of_lt (hD p hp)) fun h3 c F3 N3=>?_
     have eo:(p.toList.map fun i=>(bs.map Value.ref).getD i Value.none)=(p.toList.map fun i=>bs.getD i 0).map Value.ref:=by
      rw [map_map]
      refine map_congr_left fun i hi=>?_
      have hi':i < bs.length:=by
       have:=p1.mem_iff.mp (mem_toList_iff.mp hi)
       simpa using this
      simp [hi']
     rw [eo] at N3
     have hsz:p.toList.length=bs.length:=by
      have:=p1.size_eq
      simpa using this
     refine ⟨.ref D,_,Inv.laidF (s:=s) (t':=s.toks) (o:=.lst ((p.toList.map fun i=>bs.getD i 0).map V.ref)) I (fun m' x=>by rw [zmJ x F.ns]; exact F3.ns) (fun b u hb e=>kp F3 (fun p hp=>N3 p (mem_cons_of_mem _ hp)) b u hb e) hDn ?_,rfl,q p p1 p2 D ?_⟩
     ·refine ⟨by simp only [length_map]; rw [sizeLine_eq]; omega,_,c,zeA _,(N3 (D,_) mem_cons_self).1⟩
     ·cases e:H D with
      | none=>rfl
      | some u=>obtain ⟨v,z⟩:=ObjOk.there (I.hok D u e); rw [hDn] at z; cases z
end
end FL
end
section
namespace FL
def tI (ns:List Int):D:=.tup (ns.map .int)
noncomputable def tupsD:List D->Option (List (List Int))
 | []=>some []
 | .tup ds::r=>match intsD ds with
   | some (x::xs)=>(tupsD r).map ((x::xs)::·)
   | _=>none
 | _::_=>none
def sortT (l:List D):Option S:=if 2<=l.length/\l.length < 64/\(tupsD l).isSome=true then some (.lst ((sortD l).map .sh)) else none
noncomputable def bSortT:List D->Option S
 | [.lst l]=>sortT l
 | _=>none
theorem zf0:∀ {l:List D} {ns:List Int},intsD l=some ns->l=ns.map .int
 | [],_,h=>by cases h; rfl
 | .int x::r,ns,h=>by
   rw [intsD] at h
   obtain ⟨ys,h1,rfl⟩:=map_eq_some_iff.mp h
   rw [zf0 h1]; rfl
theorem zfH:∀ {l:List D} {ls:List (List Int)},tupsD l=some ls->l=ls.map tI/\∀ x∈ls,x≠[]
 | [],_,h=>by cases h; exact ⟨rfl,fun _ z=>nomatch z⟩
 | .tup ds::r,ls,h=>by
   rw [tupsD] at h
   split at h
   ·rename_i x xs e
    obtain ⟨ys,h1,rfl⟩:=map_eq_some_iff.mp h
    obtain ⟨e1,e2⟩:=zfH h1
    refine ⟨by rw [e1,zf0 e]; rfl,fun z hz=>?_⟩
    rcases mem_cons.mp hz with rfl | hz
    ·exact fun q=>nomatch q
    ·exact e2 z hz
   ·cases h
theorem zel:∀ {ls:List (List Int)},(∀ x∈ls,x≠[])->tupsD (ls.map tI)=some ls
 | [],_=>rfl
 | []::_,h=>absurd rfl (h [] mem_cons_self)
 | (x::xs)::ls,h=>by
   rw [map_cons]
   show (match intsD ((x::xs).map D.int) with | some (x::xs)=>(tupsD (ls.map tI)).map ((x::xs)::·) | _=>none)=_
   rw [zbN,zel fun y hy=>h y (mem_cons_of_mem _ hy)]
   rfl
noncomputable def sort3 (l:List D):Option S:=if l.length < 2 then some (.lst (l.map .sh)) else match sortT l with
 | some s=>some s
 | none=>sortS l
noncomputable def bSort3:List D->Option S
 | [.lst l]=>sort3 l
 | _=>none
theorem zgf {ls:List (List Int)} (h64:ls.length < 64) (hne:∀ x∈ls,x≠[]):bSort3 [.lst (ls.map tI)]=some (.lst ((sortD (ls.map tI)).map .sh)):=by
 show sort3 _=_
 unfold sort3
 by_cases h2:(ls.map tI).length < 2
 ·rw [if_pos h2]
  match ls,h2 with
  | [],_=>rfl
  | [_],_=>rfl
  | _::_::_,h2=>simp at h2; omega
 ·rw [if_neg h2]
  rw [length_map] at h2
  have e:sortT (ls.map tI)=some (.lst ((sortD (ls.map tI)).map .sh)):=by
   unfold sortT
   rw [if_pos ⟨by rw [length_map]; omega,by rw [length_map]; exact h64,by rw [zel hne]; rfl⟩]
  rw [e]
end FL
end
section
namespace FL
open PySem PySem.Spec PyProof.Rows L2
open HT
theorem zdm:∀ ns ms:List Int,cmpDs (ns.map .int) (ms.map .int)=if lexLt ns ms=true then .lt else if lexLt ms ns=true then .gt else .eq
 | [],[]=>rfl
 | [],_::_=>rfl
 | _::_,[]=>rfl
 | x::ns,y::ms=>by
   rw [map_cons,map_cons,zaG,zaG,cmpDs,cmpD]
   by_cases h:x < y
   ·rw [if_pos h,if_neg (show ¬ x=y by omega),if_pos (decide_eq_true h)]
   ·rw [if_neg h]
    by_cases h2:y < x
    ·rw [if_pos h2,if_neg (show ¬ x=y by omega),if_neg (show ¬ y=x by omega),if_neg (by simp; omega),if_pos (decide_eq_true h2)]
    ·have e:x=y:=by omega
     subst e
     rw [if_neg h2,if_pos rfl,if_pos rfl]
     exact zdm ns ms
theorem zba (ns ms:List Int):leD (tI ns) (tI ms)=!lexLt ms ns:=by
 unfold leD tI
 rw [cmpD,zdm]
 cases e:lexLt ns ms with
 | true=>rw [zcl _ _ e]; rfl
 | false=>
   cases e2:lexLt ms ns with
   | true=>rfl
   | false=>rfl
theorem zfU:∀ a b:List Int,lexLt a b=false->lexLt b a=false->a=b
 | [],[],_,_=>rfl
 | [],_::_,h,_=>by cases h
 | _::_,[],_,h=>by cases h
 | x::a,y::b,h,g=>by
   rw [zaG] at h g
   by_cases e:x=y
   ·subst e
    rw [if_pos rfl] at h g
    rw [zfU a b h g]
   ·rw [if_neg e] at h
    rw [if_neg (Ne.symm e)] at g
    have:=of_decide_eq_false h
    have:=of_decide_eq_false g
    omega
def IsTI (d:D):Prop:=∃ ns,d=tI ns
theorem zk7:OrdOn IsTI where
 tot:=by
  rintro _ _ ⟨a,rfl⟩ ⟨b,rfl⟩
  rw [zba,zba]
  cases e:lexLt b a with
  | false=>exact .inl rfl
  | true=>exact .inr (by rw [zcl _ _ e]; rfl)
 tr:=by
  rintro _ _ _ ⟨a,rfl⟩ ⟨b,rfl⟩ ⟨c,rfl⟩
  rw [zba,zba,zba]
  intro h1 h2
  cases e:lexLt c a with
  | false=>rfl
  | true=>
    rw [zdD c a b e (by simpa using h1)] at h2
    cases h2
 anti:=by
  rintro _ _ ⟨a,rfl⟩ ⟨b,rfl⟩
  rw [zba,zba]
  intro h1 h2
  rw [zfU a b (by simpa using h2) (by simpa using h1)]
section
variable {X:Cx} {K:W.Frag} {p pos:Pos} {e:Expr} {es:List Expr} {wa:WA}
theorem zg6 {F:Hp}:∀ {xs:List V} {ls:List (List Int)},Reps K F xs (ls.map tI)->∃ bs:List Addr,xs=bs.map V.ref/\Paired (fun b l=>F b=some (.tup (l.map V.int))) bs ls
 | _,[],.nil=>⟨[],rfl,.nil⟩
 | _,l::ls,.cons a b=>by
   obtain ⟨bs,e,t⟩:=zg6 b
   cases a with
   | tup h r=>
     obtain ⟨e1,_⟩:=zds r (zbN l)
     subst e1
     exact ⟨_::bs,by rw [e]; rfl,.cons h t⟩
theorem zd0 {F:Hp}:∀ {bs:List Addr} {ls:List (List Int)},Paired (fun b l=>F b=some (.tup (l.map V.int))) bs ls->Reps K F (bs.map V.ref) (ls.map tI)
 | _,_,.nil=>.nil
 | _,_,.cons h t=>.cons (.tup h (zbb _)) (zd0 t)
theorem zdq {α β:Type} {R:α->β->Prop} {l:List α} {m:List β} {da:α} {db:β} (h:Paired R l m):∀ {q:List Nat},(∀ i∈q,i < l.length)->Paired R (q.map fun i=>l.getD i da) (q.map fun i=>m.getD i db)
 | [],_=>.nil
 | i::q,z=>.cons (zbL i da db h (z i mem_cons_self)) (zdq h fun j hj=>z j (mem_cons_of_mem _ hj))
theorem zih {α β:Type} {R R':α->β->Prop} {l:List α} {m:List β} (h:Paired R l m) (f:∀ a b,b∈m->R a b->R' a b):Paired R' l m:=by
 induction h with
 | nil=>exact .nil
 | cons r _ ih=>exact .cons (f _ _ mem_cons_self r) (ih fun a b hb=>f a b (mem_cons_of_mem _ hb))
theorem zgx {α:Type} (d:α):∀ l:List α,(List.range l.length).map (fun i=>l.getD i d)=l:=fun l=>by
 refine List.ext_getElem (by simp) fun i h1 h2=>?_
 simp [h2]
theorem zgJ:DoesB K (rSortT K) bSortT:=by
 intro σ U F G H vs ds s Q rel re e hq
 obtain ⟨d,v,rfl,rfl⟩:=arg1 (fun x y r=>by cases x <;> rfl) rfl re e
 cases d with
 | lst l=>
   have e:sortT l=some s:=e
   unfold sortT at e
   split at e
   ·rename_i hc
    cases e
    obtain ⟨h2,h64,h3⟩:=hc
    obtain ⟨ls,q1⟩:=isSome_iff_exists.mp h3
    obtain ⟨el,hne⟩:=zfH q1
    subst el
    rw [length_map] at h2 h64
    obtain ⟨a,xs,rfl,h1,r1⟩:=re.1.lst rel.fr
    obtain ⟨bs,rfl,t⟩:=zg6 r1
    have hl:bs.length=ls.length:=Paired.length t
    refine ⟨a,bs,ls,rfl,h1,by omega,by omega,zih t fun b l hb h=>⟨hne l hb,SqT.of (rel.fr _ _ h)⟩,fun p p1 p2 q hq'=>?_⟩
    have hin:∀ i∈p.toList,i < bs.length:=fun i hi=>by
     have:=p1.mem_iff.mp (mem_toList_iff.mp hi)
     simpa using this
    have t2:=zdq (da:=0) (db:=[]) t (q:=p.toList) hin
    have pp:p.toList.Perm (List.range ls.length):=by
     have:=Array.perm_iff_toList_perm.mp p1
     rw [<- hl]; simpa using this
    have perm:(p.toList.map fun i=>ls.getD i []).Perm ls:=(pp.map _).trans (by rw [zgx])
    have hsz:p.size=bs.length:=by have:=p1.size_eq; simpa using this
    have es:sortD (ls.map tI)=(p.toList.map fun i=>ls.getD i []).map tI:=by
     refine za3 zk7 (fun d hd=>by obtain ⟨z,_,rfl⟩:=mem_map.mp hd; exact ⟨z,rfl⟩) (perm.map _) ?_
     rw [map_map,pairwise_map]
     refine List.pairwise_iff_getElem.mpr fun i j hi hj hij=>?_
     simp only [Function.comp]
     rw [zba]
     have hj':j < bs.length:=by rw [<- hsz]; simpa using hj
     have hi':i < bs.length:=by omega
     have k:=p2 i j (by omega) hj'
     have gi:∀ i (h:i < p.toList.length),kA (rkL ls) p i=rkL ls p.toList[i]:=fun i h=>by
      unfold kA
      rw [Array.getElem?_eq_getElem (by simpa using h)]
      simp
     rw [gi i hi,gi j hj] at k
     have hb:=hin _ (getElem_mem hj)
     have:=zmd (ls:=ls) (i:=p.toList[j]) (j:=p.toList[i]) (by omega)
     rw [<- this,decide_eq_false (by omega)]
     rfl
    rw [es] at hq
    exact hq _ F _ (Same.refl F) (rel.newLD hq' (zd0 t2))
   ·cases e
 | _=>cases e
end
end FL
end
section
namespace FL
open PySem PySem.Spec PyProof.Rows L2
section
variable {prog:Program} {w:World} {A:Around} {E:Value->Shared->Prop} {s:Shared}
theorem zkv {vs:List Value} (few:vs.length < 2):(vs.toArray.zip vs.toArray).map (·.2)=vs.toArray:=by
 cases vs with
 | nil=>simp
 | cons v r=>
   cases r with
   | nil=>simp
   | cons x r=>exact absurd few (by show ¬ r.length + 1 + 1 < 2; omega)
theorem zjU {a:Addr} {vs:List Value} {n:Nat} {P:Fin->Shared->Prop} (at_:s.heap.get? a=some (seqObj "list" vs.toArray n)) (few:vs.length < 2)
  (k:P (.done (.ret .none)) { s with heap:=sortedHeap s.heap a vs vs.toArray }):wpAny (model prog w) A (Builtin.«list.sort» ⟨[.ref a],[]⟩) P E s:=by
 rw [list_sort_plain]
 have few':vs.toArray.size < 2:=by simpa using few
 have hmid:∃ e,(s.heap.update a (Obj.mapSeq fun _=>#[])).get? a=some (seqObj "list" #[] e):=⟨_,get?_update_seq at_ _⟩
 obtain ⟨e,mid⟩:=hmid
 have end_:(((s.heap.update a (Obj.mapSeq fun _=>#[])).push (seqObj "tuple" vs.toArray 0)).push (seqObj "list" #[] 0)).get? a=some (seqObj "list" #[] e):=
  Heap.get?_push_of_some _ (Heap.get?_push_of_some _ mid)
 refine wpAny_bind (listItems_at at_ rfl (wpAny_bind (listUpdate_at at_ rfl (wpAny_bind (seqEpoch_at mid rfl (wpAny_bind (wpAny_newTuple (wpAny_bind (wpAny_newList (wpAny_holding ?_))))))))))
 show wpAny (model prog w) A _ P E (Shared.mk (((s.heap.update a (Obj.mapSeq fun _=>#[])).push (seqObj "tuple" vs.toArray 0)).push (seqObj "list" #[] 0)) s.gens s.drawn s.toks s.os)
 dsimp only
 rw [if_pos few',if_pos few']
 refine wpAny_bind (wpAny_pure (?_:wpAny _ _ _ _ _ _))
 rw [StateT.run_pure]
 have eo:(arrOf (SortSt.mk' general' (vs.toArray.zip vs.toArray) #[] 7 none)).map (·.2)=vs.toArray:=by
  show (vs.toArray.zip vs.toArray).map (·.2)=_
  exact zkv few
 refine wpAny_bind (wpAny_pure (?_:wpAny _ _ _ _ _ _))
 dsimp only
 rw [eo]
 refine wpAny_bind (seqEpoch_at end_ rfl (wpAny_bind (listUpdate_at end_ rfl ?_ (hsz2:=by rw [sizeLine_eq]; omega))))
 simp only [bne_self_eq_false,false_eq_true,if_false]
 exact wpAny_pure k
theorem zgm {l:Addr} {vs:List Value} {Q:Value->Shared->Prop} (is:s.heap.IsList l vs.toArray) (few:vs.length < 2)
  (k:Q (.ref (s.heap.objs.size + 1)) { s with heap:=sortedAll s.heap vs vs.toArray }):wpAny (model prog w) A (call (.builtin "sorted") [.ref l]) Q E s:=by
 refine Calls.call_function_entry kind_sorted plain_sorted entry_sorted (args_sorted1 _) (?_:wpAny _ _ _ _ _ _)
 unfold Builtin.«sorted»
 refine wpAny_bind (m:=checkCount "sorted" 1 1 _) (wpAny_pure (wpAny_bind (collect_list is (wpAny_bind (wpAny_newList ?_)))))
 generalize eh:((s.heap.push (seqObj "list" #[] 0)).update s.heap.objs.size (Obj.mapSeq (·++vs.toArray)))=h1
 have z:h1.objs.size=s.heap.objs.size + 1:=by rw [<- eh,Heap.size_update,size_push']
 have new:(h1.push (seqObj "list" vs.toArray 0)).get? (s.heap.objs.size + 1)=some (seqObj "list" vs.toArray 0):=z ▸ Heap.get?_push_size _ rfl
 show wpAny _ _ _ _ _ (Shared.mk (h1.push (seqObj "list" vs.toArray 0)) s.gens s.drawn s.toks s.os)
 rw [z]
 refine wpAny_bind (wpAny_holding (wpAny_call_entry slot_list_sort ⟨_,new,rfl⟩ entry_list_sort (zjU new few ⟨_,rfl,?_⟩) (args_list_sort _)))
 subst eh
 exact wpAny_pure ⟨_,rfl,k⟩
end
section
variable {X:Cx} {K:W.Frag} {p pos:Pos} {e:Expr} {es:List Expr} {wa:WA}
def rSort1 (K:W.Frag):List V->Hp->VK->Prop:=fun xs H Q=>∃ a ys,xs=[.ref a]/\SqL K H a ys/\ys.length < 2/\∀ q,H q=none->Q (.ref q) (upd H q (.lst ys))
theorem zeG:CallR X (.builtin "sorted") (rSort1 X.K):=by
 intro pins s σ H xs us Q I r h
 obtain ⟨a,ys,rfl,hq,h2,q⟩:=h
 cases r with
 | cons r1 r2=>
   cases r2
   cases r1
   obtain ⟨its,r,pl,_⟩:=I.list hq
   refine zgm pl.isList (by rw [<- r.length]; exact h2) ?_
   obtain ⟨e,he⟩:=sortedAll_at s.heap its its.toArray
   refine ⟨.ref (s.heap.objs.size + 1),_,I.laid (t':=s.toks) (o:=.lst ys) (fun b ob w=>sortedAll_old w) (le_succ _) ?_,rfl,q _ (I.hok.fresh (le_succ _))⟩
   exact ⟨by rw [sizeLine_eq]; omega,its,e,r,he⟩
theorem zeP {F:Hp}:∀ {xs:List V} {l:List D},Reps K F xs l->xs.length=l.length
 | _,_,.nil=>rfl
 | _,_,.cons _ t=>by rw [length_cons,length_cons,zeP t]
def rSort3 (K:W.Frag):List V->Hp->VK->Prop:=fun xs H Q=>rSort1 K xs H Q\/rSortT K xs H Q\/rSorted K xs H Q
theorem zgs:CallR X (.builtin "sorted") (rSort3 X.K):=fun pins s σ H xs us Q I r h=>by
 rcases h with h | h | h
 ·exact zeG pins s σ H xs us Q I r h
 ·exact zeI pins s σ H xs us Q I r h
 ·exact zez pins s σ H xs us Q I r h
theorem zgB:DoesB K (rSort3 K) bSort3:=by
 intro σ U F G H vs ds s Q rel re e hq
 obtain ⟨d,v,rfl,rfl⟩:=arg1 (fun x y r=>by cases x <;> rfl) rfl re e
 cases d with
 | lst l=>
   have e:sort3 l=some s:=e
   unfold sort3 at e
   by_cases h2:l.length < 2
   ·rw [if_pos h2] at e
    cases e
    obtain ⟨a,xs,rfl,h1,r1⟩:=re.1.lst rel.fr
    exact .inl ⟨a,xs,rfl,h1,by rw [zeP r1]; exact h2,fun q hq'=>hq _ F _ (Same.refl F) (rel.newLD hq' r1)⟩
   ·rw [if_neg h2] at e
    cases e1:sortT l with
    | some t=>rw [e1] at e; exact .inr (.inl (zgJ σ U F G H [v] [.lst l] s Q rel re (e1.trans e) hq))
    | none=>rw [e1] at e; exact .inr (.inr (ze4 σ U F G H [v] [.lst l] s Q rel re e hq))
 | _=>cases e
theorem zdH (hg:Gl X "sorted") (hm:X.mg "sorted"=none) (hv:bootBuiltins "sorted"=some (.builtin "sorted")) (ha:FA X (e::es) wa) (he:starEach (e::es) X.env=(false,eval e X.env)::starEach es X.env:=by rfl) (hpl:(backTo pos (starEach es X.env)).any (·.1)=false:=by rfl):FE X (.Call (.Name "sorted" p) (e::es) [] pos) (wB bSort3 wa):=
 zbP (fun pn xe=>zgs (X:=wp X pn xe)) zgB hg hm hv ha (by decide) (by decide) he hpl
end
end FL
end
section
namespace FL
noncomputable def cInA (a b:D):Option Bool:=match b with
 | .str l=>match a with
   | .str x=>some (findD l x).isSome
   | _=>none
 | d=>cIn a d
noncomputable def cNotInA (a b:D):Option Bool:=(cInA a b).map (!·)
noncomputable def wAppendAt (j:Nat) (i e:WE):WE:=fun U Q E=>match slot U j with
 | some (.lst _)=>i U (fun y U1=>match view y U1,slot U1 j with
   | some (.int n),some (.lst l)=>need (ixN l.length n) fun m=>match l[m]? with
     | some (.lst l')=>e (U1.set j none) (fun r U2=>need (give r U2) fun p=>l'.length < big/\Q (.v (.sh .non)) (p.2.set j (some (.lst (l.set m (.lst (l'++[p.1]))))))) E
     | _=>False
   | _,_=>False) E
 | _=>False
def wFrz (a:WE):WE:=fun U Q E=>a U (fun r U1=>need (give r U1) fun p=>Q (.v (.sh p.1.toD)) p.2) E
def wFz (i:Nat) (w:WS):WS:=fun D U=>w { D with nx:=fun U1=>need (slot U1 i) fun s=>D.nx (U1.set i (some (.sh s.toD))) } U
noncomputable def lkD (d q:D):Option (Option D):=match d with
 | .dct t ks vs=>if isKey t q then some (lk ks vs q) else none
 | _=>none
noncomputable def wIxA (a b:WE):WE:=fun U Q E=>a U (fun x U1=>b U1 (fun y U2=>need (viewC x U2) fun dd=>need (view y U2) fun q=>need (lkD dd q) fun o=>need o fun e=>Q (.v (.sh e)) U2) E) E
noncomputable def bMinL:List D->Option S
 | [.lst l]=>(intsD l).bind fun ns=>(ns.min?).map fun m=>S.sh (.int m)
 | _=>none
noncomputable def wTupRev (a:WE):WE:=fun U Q E=>a U (fun r U1=>need (viewC r U1) fun d=>match d with
 | .tup l=>l.length<=big/\Q (.v (.sh (.tup l.reverse))) U1
 | _=>False) E
mutual
noncomputable def okSh:D->Bool
 | .non=>true
 | .bl _=>true
 | .int i=>decide (-1000000000000 < i) && decide (i < 1000000000000)
 | .str l=>l.all fun c=>decide (c < 1114112)
 | .tup l=>okShs l
 | .lst l=>okShs l
 | _=>false
noncomputable def okShs:List D->Bool
 | []=>true
 | d::r=>okSh d && okShs r
end
mutual
noncomputable def wtD:D->Nat
 | .int _=>41
 | .str l=>l.length
 | .tup l=>wtDs l
 | .lst l=>wtDs l
 | _=>0
noncomputable def wtDs:List D->Nat
 | []=>0
 | d::r=>wtD d + 1 + wtDs r
end
noncomputable def oMulA (p q:D):Option S:=match p,q with
 | .str x,.int n=>if 0<=n/\n<=1000/\x.length<=500 then some (.sh (.str (List.replicate n.toNat x).flatten)) else none
 | p,q=>oMul p q
end FL
end
section
namespace FL
open PySem PySem.Spec PyProof.Rows L2
section
variable {X:Cx} {K:W.Frag}
theorem ze1 (x y:Str):Txt.contains x y=(findD x.cps.toList y.cps.toList).isSome:=by
 have h:=zkR x y
 unfold Txt.find at h
 unfold Txt.contains
 cases q:Builtin.Str.occurrences x y 0 x.length 1 with
 | nil=>
   rw [q] at h
   cases e:findD x.cps.toList y.cps.toList with
   | none=>rfl
   | some i=>rw [e] at h; have h':(-1:Int)=(i:Int):=h; omega
 | cons i r=>
   rw [q] at h
   cases e:findD x.cps.toList y.cps.toList with
   | none=>rw [e] at h; have h':((i:Nat):Int)=-1:=h; omega
   | some i=>rfl
def rInS (neg:Bool):R2:=fun x y H Q=>∃ z u,x=.str z/\y=.str u/\Q (.bl (if neg then !(Txt.contains u z) else Txt.contains u z)) H
theorem znx:OpR X (compareOp .In) (rInS false):=by
 intro pins s σ H x y v u Q I rx ry h
 obtain ⟨z,t,rfl,rfl,q⟩:=h
 obtain ⟨t1,rfl⟩:=rx
 obtain ⟨t2,rfl⟩:=ry
 exact SB.contains ⟨.bl _,H,I,rfl,q⟩
theorem ziA:OpR X (compareOp .NotIn) (rInS true):=by
 intro pins s σ H x y v u Q I rx ry h
 obtain ⟨z,t,rfl,rfl,q⟩:=h
 obtain ⟨t1,rfl⟩:=rx
 obtain ⟨t2,rfl⟩:=ry
 exact SB.notContains ⟨.bl _,H,I,rfl,q⟩
def rInX (K:W.Frag) (neg:Bool):R2:=fun x y H Q=>rInAll K neg x y H Q\/rInS neg x y H Q
theorem zmH (hu:X.A.units + 32 < cLine):OpR X (compareOp .In) (rInX X.K false):=FL.OpR.or (zjo hu) znx
theorem zcx (hu:X.A.units + 32 < cLine):OpR X (compareOp .NotIn) (rInX X.K true):=FL.OpR.or (zeQ hu) ziA
theorem zf4 {neg:Bool} {H:Hp} {x y:V} {p q:D} {k:Bool} {Q:VK} (r1:Rep K H x p) (r2:Rep K H y q) (e:cInA p q=some k) (hq:Q (.bl (if neg then !k else k)) H):rInX K neg x y H Q:=by
 unfold cInA at e
 split at e
 ·split at e
  ·cases r1 with
   | str e1 z1=>cases r2 with
     | str e2 z2=>
       refine .inr ⟨_,_,rfl,rfl,?_⟩
       rw [ze1,e1,e2,Option.some.inj e]
       exact hq
  ·cases e
 ·exact .inl (zlg r1 r2 e hq)
theorem zjy:DoesC K (rInX K false) cInA:=fun H x y p q k Q r1 r2 e hq=>zf4 r1 r2 e hq
theorem zbA:DoesC K (rInX K true) cNotInA:=fun H x y p q k Q r1 r2 e hq=>by
 unfold cNotInA at e
 cases q1:cInA p q with
 | none=>rw [q1] at e; cases e
 | some b=>
   rw [q1] at e
   have e':(!b)=k:=Option.some.inj e
   subst e'
   exact zf4 r1 r2 q1 hq
end
section
variable {K:W.Frag} {F H G:Hp} {σ σ':St} {U U':Env}
theorem SReps.at:∀ {xs:List V} {l:List S} {fp:List Addr} {m:Nat} {s:S},SReps K F H xs l fp->l[m]?=some s->∃ x fa fi fb,xs[m]?=some x/\SRep K F H x s fi/\fp=fa++(fi++fb)/\
  ∀ {H':Hp} {v':V} {s':S} {fq:List Addr},(∀ a∈fa++fb,H' a=H a)->SRep K F H' v' s' fq->SReps K F H' (xs.set m v') (l.set m s') (fa++(fq++fb))
 | _,_,_,_,_,.nil,h=>by simp at h
 | _,_,_,0,_,.cons (fp:=fp) (fq:=fq) a b,h=>by
   simp at h
   subst h
   exact ⟨_,[],fp,fq,rfl,a,rfl,fun hk r=>by rw [nil_append]; exact .cons r (b.mono (Same.refl F) fun c hc=>hk c hc)⟩
 | _,_,_,m + 1,_,.cons (fp:=fp) (fq:=fq) a b,h=>by
   obtain ⟨x,fa,fi,fb,h1,h2,rfl,up⟩:=SReps.at (m:=m) b (by simpa using h)
   refine ⟨x,fp++fa,fi,fb,by simpa using h1,h2,(append_assoc ..).symm,fun hk r=>?_⟩
   rw [append_assoc]
   exact .cons (a.mono (Same.refl F) fun c hc=>hk c (mem_append_left _ (mem_append_left _ hc))) (up (fun c hc=>hk c ((mem_append.mp hc).elim (fun z=>mem_append_left _ (mem_append_right _ z)) fun z=>mem_append_right _ z)) r)
theorem Rel.hide2 {s:S} {v:V} (r:Rel K (U++[some s]) (σ++[some v]) F G H) (h:U.length=σ.length):∃ G' fp,Rel K U σ F G' H/\Same G G'/\SRep K F H v s fp/\(∀ a∈fp,∃ o,G' a=some o/\H a=some o)/\
  ∀ {U2:Env} {σ2:St} {F2 H2:Hp},Same F F2->Rel K U2 σ2 F2 G' H2->Rel K (U2++[some s]) (σ2++[some v]) F2 G H2:=by
 classical
 obtain ⟨fp,e,nd,ap⟩:=r.en
 obtain ⟨f1,f2,rfl,a,b⟩:=e.cut h
 obtain ⟨n1,n2,n12⟩:=nodup_append.mp nd
 have b':=b
 cases b' with
 | @so _ _ _ _ fs fn sr nl=>
 cases nl
 refine ⟨fun x=>if x∈fs++[] then H x else G x,fs,⟨r.fr,fun x o q=>?_,f1,a,n1,fun x hx=>?_⟩,fun x o q=>?_,sr,fun x hx=>?_,fun {U2 σ2 F2 H2} sm r2=>?_⟩
 ·by_cases z:x∈fs++[]
  ·simp only [z,if_true] at q
   exact ⟨q,(ap x (mem_append_right _ z)).1⟩
  ·simp only [z,if_false] at q
   exact r.gr x o q
 ·have z:x∉fs++[]:=fun z=>n12 x hx x z rfl
  simp only [z,if_false]
  exact ap x (mem_append_left _ hx)
 ·have z:x∉fs++[]:=fun z=>by
   have:=(ap x (mem_append_right _ z)).2
   rw [q] at this; cases this
  simp only [z,if_false]
  exact q
 ·obtain ⟨o,q⟩:=b.in_ x (mem_append_left _ hx)
  have z:x∈fs++[]:=mem_append_left _ hx
  refine ⟨o,?_,q⟩
  simp only [z,if_true]
  exact q
 ·obtain ⟨fp2,e2,nd2,ap2⟩:=r2.en
  have hk:∀ x∈fs++[],H2 x=H x/\F2 x=none/\x∉fp2:=fun x hx=>by
   obtain ⟨o,q⟩:=b.in_ x hx
   have w:=r2.gr x o (by simp only [hx,if_true]; exact q)
   refine ⟨w.1.trans q.symm,w.2,fun z=>?_⟩
   have w2:=(ap2 x z).2
   simp only [hx,if_true] at w2
   rw [q] at w2; cases w2
  refine ⟨r2.fr,fun x o q=>?_,fp2++(fs++[]),e2.app (b.mono sm fun x hx=>(hk x hx).1),?_,fun x hx=>?_⟩
  ·have z:x∉fs++[]:=fun z=>by
    have:=(ap x (mem_append_right _ z)).2
    rw [q] at this; cases this
   exact r2.gr x o (by simp only [z,if_false]; exact q)
  ·exact nodup_append.mpr ⟨nd2,n2,fun x hx y hy e=>(hk y hy).2.2 (e ▸ hx)⟩
  ·rcases mem_append.mp hx with z | z
   ·have w:=ap2 x z
    refine ⟨w.1,?_⟩
    have z2:x∉fs++[]:=fun z2=>(hk x z2).2.2 z
    have:=w.2
    simp only [z2,if_false] at this
    exact this
   ·exact ⟨(hk x z).2.1,(ap x (mem_append_right _ z)).2⟩
theorem Rel.appendAt {l l':List S} {t:S} {m:Nat} {v:V} {D b:Addr} {xs ys:List V} (r:Rel K (U++[some t,some (.lst l)]) (σ++[some v,some (.ref D)]) F G H) (h:U.length=σ.length) (hm:l[m]?=some (.lst l'))
  (hD:H D=some (.lst xs)) (hb:xs[m]?=some (.ref b)) (hy:H b=some (.lst ys)):
  ys.length=l'.length/\Rel K (U++[some (.lst (l.set m (.lst (l'++[t]))))]) (σ++[some (.ref D)]) F G (upd H b (.lst (ys++[v]))):=by
 obtain ⟨fp,e,nd,ap⟩:=r.en
 obtain ⟨f1,f2,rfl,a,c⟩:=e.cut h
 cases c with
 | @so _ _ _ _ ft f3 st c=>
 cases c with
 | @so _ _ _ _ fD fn sd nl=>
 cases nl
 cases sd with
 | @lst _ xs' _ fl hD' rl=>
 rw [hD] at hD'
 cases hD'
 obtain ⟨x,fa,fi,fb,hx,sx,rfl,up⟩:=rl.at hm
 rw [hb] at hx
 cases hx
 cases sx with
 | @lst _ ys' _ fy hy' ry=>
 rw [hy] at hy'
 cases hy'
 refine ⟨ry.len,?_⟩
 have hp:(f1++(ft++(D::(fa++(b::fy++fb))++[]))).Perm (b::(f1++(ft++(D::(fa++(fy++fb)))))):=by
  simp only [append_nil,cons_append]
  have h1:(fa++b::(fy++fb)).Perm (b::(fa++(fy++fb))):=perm_middle
  refine ((h1.cons D).append_left (f1++ft) |>.trans ?_ |> fun z=>(by simpa using z))
  have h2:(D::b::(fa++(fy++fb))).Perm (b::D::(fa++(fy++fb))):=List.Perm.swap ..
  refine (h2.append_left (f1++ft)).trans ?_
  exact perm_middle.trans (by rw [append_assoc])
 have nd':=hp.nodup_iff.mp nd
 obtain ⟨nb,_⟩:=nodup_cons.mp nd'
 have ne:∀ {w:List Addr},(∀ x∈w,x∈f1++(ft++(D::(fa++(fy++fb)))))->∀ x∈w,upd H b (.lst (ys++[v])) x=H x:=fun hw x hx=>zag fun z=>nb (z ▸ hw x hx)
 have apb:=ap b (hp.mem_iff.mpr mem_cons_self)
 have new:SRep K F (upd H b (.lst (ys++[v]))) (.ref b) (.lst (l'++[t])) (b::(fy++ft)):=.lst zam (SReps.snoc (ry.mono (Same.refl F) (ne fun x hx=>by simp [hx])) (st.mono (Same.refl F) (ne fun x hx=>by simp [hx])))
 have r2:=up (H':=upd H b (.lst (ys++[v]))) (ne fun x hx=>by
  rcases mem_append.mp hx with z | z <;> simp [z]) new
 have e2:xs.set m (.ref b)=xs:=by
  apply ext_getElem?
  intro j
  by_cases hj:m=j
  ·subst hj
   rw [getElem?_set_self (List.getElem?_eq_some_iff.mp hb).1,hb]
  ·rw [getElem?_set_ne hj]
 rw [e2] at r2
 have hDb:D≠b:=fun z=>nb (by simp [z])
 have top:SRep K F (upd H b (.lst (ys++[v]))) (.ref D) (.lst (l.set m (.lst (l'++[t])))) (D::(fa++((b::(fy++ft))++fb))):=.lst ((zag hDb).trans hD) r2
 have p:(f1++((D::(fa++((b::(fy++ft))++fb)))++[])).Perm (f1++(ft++(D::(fa++(b::fy++fb))++[]))):=by
  refine List.Perm.append_left _ ?_
  simp only [append_nil,cons_append,append_assoc]
  have h1:(fy++(ft++fb)).Perm (ft++(fy++fb)):=by
   rw [<- append_assoc,<- append_assoc]
   exact List.Perm.append_right _ perm_append_comm
  have h2:(fa++b::(fy++(ft++fb))).Perm (ft++(fa++b::(fy++fb))):=by
   refine ((h1.cons b).append_left fa).trans ?_
   have h3:(b::(ft++(fy++fb))).Perm (ft++(b::(fy++fb))):=perm_middle.symm
   refine (h3.append_left fa).trans ?_
   rw [<- append_assoc,<- append_assoc]
   exact List.Perm.append_right _ perm_append_comm
  refine (h2.cons D).trans ?_
  exact perm_middle.symm
 refine ⟨Same.updR r.fr apb.1,fun x o w=>?_,_,(a.mono (Same.refl F) (ne fun x hx=>by simp [hx])).app (.so top .nil),p.nodup_iff.mpr nd,fun x hx=>ap x (p.mem_iff.mp hx)⟩
 have hx:x≠b:=fun z=>by rw [z,apb.2] at w; cases w
 rw [zag hx]
 exact r.gr x o w
end
section
variable {X:Cx} {pos spos:Pos}
theorem zcY {j:Nat} {o i e:Expr} {wi we:WE} {apos cpos:Pos} (ho:FE X o (wVar j)) (hi:FE X i wi) (he:FE X e we) (hix:PlainIx i:=by intro _ _; rfl)
  (hbase:attributeBase (.Subscript o i spos) "append" X.env (eval (.Subscript o i spos) X.env)=eval (.Subscript o i spos) X.env:=by rfl)
  (hfew:((backTo cpos (starEach [e] X.env)).all (fun x=>!x.1) && (backToKw cpos (keywordEach [] X.env)).all (fun x=>x.1.isSome)
   && decide ([e].length + ([]:List Keyword).length + (if ([]:List Keyword).isEmpty then 0 else 1) < 30))=true:=by rfl)
  (hline:(apos.endLine == cpos.line)=true:=by rfl) (hs:starEach [e] X.env=[(false,eval e X.env)]:=by rfl):FE X (.Call (.Attribute (.Subscript o i spos) "append" apos) [e] [] cpos) (wAppendAt j wi we):=fun pn xe hp=>by
 refine PE.imp (zgR (X:=wp X pn xe) PySem.F.plainAttrs_list PySem.F.slot_list_append PySem.F.type_list_append zcN (zkk (zj8 (X:=wp X pn xe)) (ho pn xe hp) (hi pn xe hp) hix) (zaa he zab hs pn xe hp) hbase hfew hline hs rfl) fun σ H Q q=>?_
 obtain ⟨F,G,U,P,PX,rel,hw,hok,hx⟩:=q
 unfold wAppendAt at hw
 cases qs:slot U j with
 | none=>rw [qs] at hw; exact hw.elim
 | some s0=>
   cases s0 with
   | lst l0=>
     rw [qs] at hw
     dsimp only at hw
     refine ⟨F,G,U,fun y U1=>y=.loc j/\U1=U,PX,rel,by unfold wVar; rw [qs]; exact ⟨rfl,rfl⟩,fun y U1 o' F1 H1 hk s1 r1 rv=>?_,hx⟩
     obtain ⟨rfl,rfl⟩:=hk
     have l1:=len1 r1
     have hσ:σ[j]?=some (some o'):=rv
     have r2:=r1.drop l1
     refine ⟨F1,G,U1,_,PX,r2,hw,fun z U2 i' F2 H2 hk2 s2 r3 rv2=>?_,hx.grow s1⟩
     have l2:=len1 r3
     split at hk2
     ·rename_i n l ei ql
      obtain ⟨m,em,hk2⟩:=zad hk2
      split at hk2
      ·rename_i l' el
       have ri:=look (U':=[]) (σ':=[]) r3 l2 rv2 ei
       have r4:=r3.drop l2
       obtain ⟨v',fp,e1,sr⟩:=r4.at ql
       rw [hσ] at e1
       have e2:o'=v':=by simpa using e1
       subst e2
       have r5:=Rel.lend (U':=[]) (σ':=[]) (r4.pushN (u:=some o')) l2 ql hσ
       have l5:(U2.set j none).length=σ.length:=by simpa using l2
       obtain ⟨G2,fq,r6,gg,sq,hG,back⟩:=r5.hide2 l5
       cases sq with
       | @lst a xs _ fl hD rl=>
       obtain ⟨x,fa,fi,fb,hx1,sx,efl,_⟩:=rl.at el
       cases sx with
       | @lst b ys _ fy hy ry=>
       cases ri
       have hat:L2.atI xs n=some (.ref b):=by
        have e':L2.ixN xs.length n=some m:=by rw [rl.len]; exact em
        unfold L2.atI
        rw [e']; exact hx1
       refine .inl ⟨a,xs,n,_,rfl,rfl,SqL.of hD,hat,.inl ⟨rfl,_,SqL.of hy⟩,F2,G2,U2.set j none,fun rs U3=>match rs with | [r]=>(need (give r U3) fun p=>l'.length < big/\P (.v (.sh .non)) (p.2.set j (some (.lst (l.set m (.lst (l'++[p.1]))))))) | _=>False,PX,r6,hk2,fun rs U3 vs F3 H3 hk s3 r7 hl rvs=>?_,hx.mono (fun _ z=>z) (s1.trans s2) gg⟩
       match rs,vs,rvs,r7,hk with
       | [r],[v],rvs,r7,hk=>
         dsimp only at hk
         obtain ⟨⟨t,U4⟩,eg,hk⟩:=zad hk
         have r8:=back s3 r7
         simp only [map_cons,map_nil,append_assoc,cons_append,nil_append] at r8
         have l3:U3.length=σ.length:=hl
         obtain ⟨F4,s4,l4,r9⟩:=giveR (U':=[some (.lst l)]) (σ':=[some (.ref a)]) r8 l3 rvs.1 eg
         have kept:∀ c∈a::fl,H3 c=H2 c:=fun c hc=>by
          obtain ⟨o,h1,h2⟩:=hG c hc
          rw [(r7.gr c o h1).1,h2]
         have hb:b∈a::fl:=mem_cons_of_mem _ (by rw [efl]; simp)
         obtain ⟨hlen,r10⟩:=Rel.appendAt r9 (l4.trans l3) el ((kept a mem_cons_self).trans hD) hx1 ((kept b hb).trans hy)
         have r11:=Rel.back1 (U':=[]) (σ':=[]) (i:=j) r10 (l4.trans l3) hσ
         rw [append_nil,append_nil] at r11
         exact ⟨b,ys,v,rfl,rfl,(kept b hb).trans hy,by rw [hlen,sizeLine_eq]; exact lt_trans hk.1 (by decide),hok _ _ .non F4 _ hk.2 (s1.trans (s2.trans (s3.trans s4))) (r11.push .non) trivial⟩
       | [],_,_,_,hk=>exact hk.elim
       | [_],[],rvs,_,_=>exact rvs.elim
       | [_],_::_::_,rvs,_,_=>exact rvs.2.elim
       | _::_::_,_,_,_,hk=>exact hk.elim
      ·exact hk2.elim
     ·exact hk2.elim
   | _=>rw [qs] at hw; exact hw.elim
end
section
variable {K:W.Frag} {F H G:Hp} {σ:St} {U:Env}
theorem Rel.frzEnd {s:S} {v:V} (r:Rel K (U++[some s]) (σ++[some v]) F G H) (h:U.length=σ.length):∃ F',Same F F'/\Rel K (U++[some (.sh s.toD)]) (σ++[some v]) F' G H:=by
 obtain ⟨u,F',e1,sm,rp,r'⟩:=r.give (i:=U.length) (s:=s) zaA
 rw [show (U++[some s]).set U.length (some (S.sh s.toD))=U++[some (S.sh s.toD)] from zcb] at r'
 exact ⟨F',sm,r'⟩
end
section
variable {X:Cx} {e:Expr} {we:WE} {ks:List Nat} {st:Stmt} {w:WS}
theorem zaC (he:FE X e we):FE X e (wFrz we):=fun pn xe hp=>by
 refine PE.imp (he pn xe hp) fun σ H Q q=>?_
 obtain ⟨F,G,U,P,PX,rel,hw,hok,hx⟩:=q
 refine ⟨F,G,U,_,PX,rel,hw,fun r U1 v F1 H1 hk s1 r1 rv=>?_,hx⟩
 obtain ⟨⟨s,U2⟩,eg,hk⟩:=zad hk
 obtain ⟨F2,s2,l2,r2⟩:=giveR (U':=[]) (σ':=[]) r1 (len1 r1) rv eg
 obtain ⟨F3,s3,r3⟩:=Rel.frzEnd r2 (len1 r2)
 exact hok _ U2 v F3 H1 hk (s1.trans (s2.trans s3)) r3 trivial
theorem zmg {i:Nat} (h:FS X ks st w):FS X ks st (wFz i w):=fun pn xe hp=>by
 refine PS.imp (h pn xe hp) fun D σ H q=>?_
 obtain ⟨F,G,U,E,rel,hw,n,b,c,r,x⟩:=q
 refine ⟨F,G,U,_,rel,hw,fun U' σ' F' H' hk kp sm rel'=>?_,b,c,r,x⟩
 obtain ⟨s,es,hk⟩:=zad hk
 obtain ⟨v,F2,_,s2,_,r2⟩:=rel'.give es
 exact n _ σ' F2 H' hk kp (sm.trans s2) r2
end
section
variable {X:Cx} {K:W.Frag} {F H G:Hp}
theorem zlz {d q:D} {o:Option D} (h:lkD d q=some o):∃ t ks vs,d=.dct t ks vs/\isKey t q=true/\lk ks vs q=o:=by
 unfold lkD at h
 split at h
 ·split at h
  ·rename_i hk
   exact ⟨_,_,_,rfl,hk,Option.some.inj h⟩
  ·cases h
 ·cases h
def rIxD:R2:=fun x y H Q=>∃ a v,x=.ref a/\DGet H a y (some v)/\Q v H
theorem zll (hu:X.A.units + 1 < cLine):IxR X rIxD:=by
 intro value slice pins s σ H x y v u Q I rx ry h hs
 obtain ⟨a,r,rfl,g,q⟩:=h
 cases rx
 unfold subscriptTail
 have hT:=ze9 I g
 have h2:=zhP (E:=X.xe) hu I g ry (Q:=EP X pins σ Q) fun w' s3 I3 rw'=>⟨r,H,I3,rw',q⟩
 refine wpAny_bind ?_
 rw [getitemInPython_of_ne hT.not_modules]
 refine wpAny_bind (wpAny_specialOf hT PySem.F.slot_dict_getitem.lookup ?_)
 have fin:wpAny (model X.prog X.w) X.A (subscripted slice false (.ref a) u) (fun r s₃=>wpAny (model X.prog X.w) X.A (letTemporaryGo value (.ref a) r >>= fun _=>pure r) (EP X pins σ Q) X.xe s₃) X.xe s:=by
  rw [hs]
  exact wpAny_operating (wpAny_mono h2 (fun r s₃ h₃=>wpAny_bind (wpAny_letTemporaryGo (wpAny_pure h₃))) fun _ _ x=>x)
 first
  | exact wpAny_pure (wpAny_bind fin)
  | exact wpAny_bind (wpAny_pure (wpAny_bind fin))
  | exact wpAny_bind fin
theorem lk_K {α:Type} {kvs:List (Key×V)} {vs:List α} {key:Key} {P:V->α->Prop} (hl:kvs.length=vs.length) (h:∀ (i:Nat) x y,(kvs.map (·.2))[i]?=some x->vs[i]?=some y->P x y):
  (lk (kvs.map fun p=>keyD p.1) vs (keyD key)=none/\valV kvs key=none)\/∃ x y,valV kvs key=some x/\lk (kvs.map fun p=>keyD p.1) vs (keyD key)=some y/\P x y:=
 zcO keyD (fun _ _=>zbB) kvs vs key P hl h
theorem lk_T {α:Type} {kvs:List (List Key×V)} {vs:List α} {key:List Key} {P:V->α->Prop} (hl:kvs.length=vs.length) (h:∀ (i:Nat) x y,(kvs.map (·.2))[i]?=some x->vs[i]?=some y->P x y):
  (lk (kvs.map fun p=>D.tup (p.1.map keyD)) vs (D.tup (key.map keyD))=none/\valV kvs key=none)\/∃ x y,valV kvs key=some x/\lk (kvs.map fun p=>D.tup (p.1.map keyD)) vs (D.tup (key.map keyD))=some y/\P x y:=
 zcO (fun l=>D.tup (l.map keyD)) (fun a b z=>zbV (D.tup.inj z)) kvs vs key P hl h
theorem zkm {x:V} {a:Addr} {t:Bool} {d:D} {ks vs:List D} (r1:Rep K H x d) (hk:isKey t d=true)
  (r2:(∃ kvs,t=false/\Rd H a (.dK kvs)/\ks=kvs.map (fun p=>keyD p.1)/\Reps K F (kvs.map (·.2)) vs)\/∃ kvs,t=true/\Rd H a (.dT kvs)/\ks=kvs.map (fun p=>D.tup (p.1.map keyD))/\Reps K F (kvs.map (·.2)) vs):
  ∃ o,DGet H a x o/\((lk ks vs d=none/\o=none)\/∃ v e,o=some v/\lk ks vs d=some e/\Rep K F v e):=by
 rcases r2 with ⟨kvs,rfl,e,k,r⟩ | ⟨kvs,rfl,e,k,r⟩
 ·obtain ⟨key,rfl,rfl⟩:=zcR r1 hk
  refine ⟨_,.inl ⟨kvs,key,e,rfl,rfl⟩,?_⟩
  rw [k]
  rcases lk_K (kvs:=kvs) (vs:=vs) (key:=key) (P:=fun v e=>Rep K F v e) (by have:=r.len; simpa using this) (fun i x y h1 h2=>by
   obtain ⟨x',hx',rx⟩:=r.get h2
   rw [h1] at hx'; cases hx'; exact rx) with ⟨h1,h2⟩ | ⟨v,e,h1,h2,h3⟩
  ·exact .inl ⟨h1,h2⟩
  ·exact .inr ⟨v,e,h1,h2,h3⟩
 ·cases r1 with
  | tup e1 q=>
    obtain ⟨keys,rfl,rfl⟩:=zfc q hk
    refine ⟨_,.inr ⟨kvs,keys,_,e,rfl,e1,rfl⟩,?_⟩
    rw [k]
    rcases lk_T (kvs:=kvs) (vs:=vs) (key:=keys) (P:=fun v e=>Rep K F v e) (by have:=r.len; simpa using this) (fun i x y h1 h2=>by
     obtain ⟨x',hx',rx⟩:=r.get h2
     rw [h1] at hx'; cases hx'; exact rx) with ⟨h1,h2⟩ | ⟨v,e,h1,h2,h3⟩
    ·exact .inl ⟨h1,h2⟩
    ·exact .inr ⟨v,e,h1,h2,h3⟩
  | _=>cases hk
theorem RepE.dct {v:V} {t:Bool} {ks vs:List D} (r:RepE K F H v (.dct t ks vs)) (sm:Same F H):∃ a,v=.ref a/\((∃ kvs,t=false/\Rd H a (.dK kvs)/\ks=kvs.map (fun p=>keyD p.1)/\Reps K F (kvs.map (·.2)) vs)\/
  ∃ kvs,t=true/\Rd H a (.dT kvs)/\ks=kvs.map (fun p=>D.tup (p.1.map keyD))/\Reps K F (kvs.map (·.2)) vs):=by
 rcases r with r | ⟨a,xs,ds,e1,e2,e3,r⟩ | ⟨a,kvs,ks',vs',e1,e2,e3,e4,r⟩ | ⟨a,kvs,ks',vs',e1,e2,e3,e4,r⟩
 ·cases r with
  | dK e k r=>exact ⟨_,rfl,.inl ⟨_,rfl,Rd.mono sm e,k,r⟩⟩
  | dT e k r=>exact ⟨_,rfl,.inr ⟨_,rfl,Rd.mono sm e,k,r⟩⟩
 ·cases e2
 ·cases e2
  exact ⟨a,e1,.inl ⟨kvs,rfl,.inl e3,e4,r⟩⟩
 ·cases e2
  exact ⟨a,e1,.inr ⟨kvs,rfl,.inl e3,e4,r⟩⟩
end
section
variable {X:Cx} {a b:Expr} {wa wb:WE} {pos:Pos}
theorem zen (hu:X.A.units + 1 < cLine) (ha:FE X a wa) (hb:FE X b wb) (hs:PlainIx b:=by intro _ _; rfl):FE X (.Subscript a b pos) (wIxA wa wb):=fun pn xe hp=>by
 refine PE.imp (zkk (zll (X:=wp X pn xe) hu) (ha pn xe hp) (hb pn xe hp) hs) fun σ H Q q=>?_
 refine (two (k:=fun x y U2 Q E=>need (viewC x U2) fun dd=>need (view y U2) fun q=>need (lkD dd q) fun o=>need o fun e=>Q (.v (.sh e)) U2) q).mono fun v H1 h1=>h1.mono fun u H2 h2=>?_
 obtain ⟨F,G,U,x,y,P,PX,rel,hl,rx,ry,hk,hok,hx⟩:=h2
 obtain ⟨dd,ed,hk1⟩:=zad hk
 obtain ⟨q,eq,hk2⟩:=zad hk1
 obtain ⟨o,eo,hk3⟩:=zad hk2
 obtain ⟨e,ee,hk4⟩:=zad hk3
 have relx:Rel X.K (U++[slotOf x]) (σ++[some v]) F G H2:=Rel.mid (U:=U) (σ:=σ) (Rel.swap (U1:=[slotOf x]) (σ1:=[some v]) (U2:=[slotOf y]) (σ2:=[some u]) hl rfl rel) hl
 have ru:=look (U':=[]) (σ':=[]) (rel.mid hl) hl ry eq
 obtain ⟨F4,s4,re,r8⟩:=takeC (U':=[]) (σ':=[]) relx hl rx ed
 rw [append_nil,append_nil] at r8
 obtain ⟨t,ks,vs,rfl,hkey,hlk⟩:=zlz eo
 obtain ⟨c,rfl,hh⟩:=re.dct r8.fr
 obtain ⟨o2,g,h⟩:=zkm ru hkey hh
 rcases h with ⟨h1,rfl⟩ | ⟨w,e',rfl,h1,h2⟩
 ·rw [hlk,ee] at h1; cases h1
 ·rw [hlk,ee] at h1
  cases h1
  exact ⟨c,w,rfl,g,hok _ U _ F4 H2 hk4 s4 (r8.push h2) trivial⟩
end
section
variable {prog:Program} {w:World} {A:Around} {E:Value->Shared->Prop} {s:Shared} {l:Addr} {vs:List Value} {ns:List Int} {Q:Value->Shared->Prop}
theorem zh4 (hh:A.handled=none) (hl:s.heap.IsList l vs.toArray) (hi:IntsAre vs ns) (hne:0 < ns.length)
  (h:∀ h' M (t:Tok) tk,(∀ b x,s.heap.get? b=some x->h'.get? b=some x)->M∈ns->(∀ a,a∈ns->M<=a)->Q (.int M t) { s with heap:=h',toks:=tk }):wpAny (model prog w) A (call (.builtin "min") [.ref l]) Q E s:=by
 obtain ⟨xs,e⟩:=hi.allInts.items
 have hns:ns=xs.toList.map (·.1):=by
  rw [<- hi.numsOf,<- nums_intItems,<- e]
 have hsz:0 < xs.size:=by
  have h3:=hne; rw [hns,length_map,length_toList] at h3; exact h3
 rw [e] at hl
 refine min_intList hh hl hsz fun v h' tk hv hk=>?_
 obtain ⟨t,rfl⟩:=intItems_at hv
 obtain ⟨h1,h2⟩:=argBest_lt (numAt xs) (xs.size - 1)
 refine h _ _ t tk hk ?_ fun a ha=>?_
 ·rw [hns,numAt_eq]; exact getD_mem (by rw [length_map,length_toList]; omega)
 ·rw [hns] at ha
  obtain ⟨j,hj,rfl⟩:=mem_getD ha
  rw [length_map,length_toList] at hj
  rw [<- numAt_eq]; exact h2 j (by omega)
end
section
variable {X:Cx} {K:W.Frag} {p pos:Pos} {e:Expr} {es:List Expr} {wa:WA}
def rMinL (K:W.Frag):List V->Hp->VK->Prop:=fun xs H Q=>∃ (a:Addr) (ns:List Int),xs=[.ref a]/\SqL K H a (ns.map V.int)/\0 < ns.length/\∀ M,M∈ns->(∀ a,a∈ns->M<=a)->Q (.int M) H
theorem ziu (hc:X.calm=true):CallR X (.builtin "min") (rMinL X.K):=by
 intro pins s σ H xs us Q I r h
 obtain ⟨a,ns,rfl,hq,hne,q⟩:=h
 obtain ⟨u,rfl,rx⟩:=vals1 r
 cases rx
 obtain ⟨its,rv,pl,hz⟩:=I.list hq
 exact zh4 (I.ok.hd hc) pl.isList (za0 rv) hne fun h' M t tk kp h1 h2=>⟨.int _,H,I.kept kp,⟨_,rfl⟩,q M h1 h2⟩
theorem zhY:DoesB K (rMinL K) bMinL:=by
 intro σ U F G H vs ds s Q rel re e hq
 obtain ⟨d,v,rfl,rfl⟩:=arg1 (fun x y r=>by cases x <;> rfl) rfl re e
 cases d with
 | lst l=>
   obtain ⟨a,xs,rfl,h1,r1⟩:=re.1.lst rel.fr
   obtain ⟨ns,en,e⟩:=Option.bind_eq_some_iff.mp e
   obtain ⟨m,em,rfl⟩:=map_eq_some_iff.mp e
   obtain ⟨rfl,_⟩:=zds r1 en
   refine ⟨a,ns,rfl,h1,by cases ns with | nil=>cases em | cons _ _=>simp,fun M h2 h3=>?_⟩
   obtain ⟨h4,h5⟩:=List.min?_eq_some_iff.mp em
   have:M=m:=Int.le_antisymm (h3 m h4) (h5 M h2)
   subst this
   exact hq _ F H (Same.refl F) (rel.push (.int _))
 | _=>cases e
theorem zln (hc:X.calm=true) (hg:Gl X "min") (hm:X.mg "min"=none) (hv:bootBuiltins "min"=some (.builtin "min")) (ha:FA X (e::es) wa) (he:starEach (e::es) X.env=(false,eval e X.env)::starEach es X.env:=by rfl) (hpl:(backTo pos (starEach es X.env)).any (·.1)=false:=by rfl):FE X (.Call (.Name "min" p) (e::es) [] pos) (wB bMinL wa):=
 zbP (fun pn xe=>ziu (X:=wp X pn xe) hc) zhY hg hm hv ha (by decide) (by decide) he hpl
end
end FL
end
section
namespace FL
open PySem PySem.Spec PyProof.Rows
section
variable {prog:Program} {w:World} {A:Around} {E:Value->Shared->Prop} {s:Shared}
theorem zie:typeLookup (.type "tuple") "__reversed__"=pure none:=by rw [typeLookup_type,builtinLookup_eq_fast]; kernel_rfl
theorem zgS:typeLookup (.type "tuple") "__getitem__"=pure (some (.builtin "tuple.__getitem__")):=by rw [typeLookup_type,builtinLookup_eq_fast]; kernel_rfl
theorem zgu:isSubtype (.type "tuple") (.type "dict")=pure false:=by rw [isSubtype_type]; kernel_rfl
def revT (t:Addr) (i:Int):Obj:={ cls:=.type "reversed",data:=.fields #[.ref t,rawInt i] }
theorem zjn {t:Addr} {items:Array Value} {R:Fin->Shared->Prop} (ht:IsTup s.heap t items) (hfit:(items.size:Int) < 2 ^ 63)
  (h:R (.done (.ret (.ref s.heap.objs.size))) { s with heap:=s.heap.push (revT t ((items.size:Int) - 1)),toks:=s.toks + 1 + 1 }):
  wpAny (model prog w) A (Builtin.«reversed.__new__» ⟨[.type "reversed",.ref t],[]⟩) R E s:=by
 unfold Builtin.«reversed.__new__»
 refine wpAny_bind (wpAny_of_eq (newClass_reversed _) ?_)
 try dsimp only
 refine wpAny_bind (wpAny_of_eq (a:=()) (by first | rfl | kernel_rfl) (wpAny_bind (wpAny_of_eq (a:=()) (by first | rfl | kernel_rfl) ?_)))
 try dsimp only
 refine wpAny_bind (wpAny_specialOf ht.typeIs zie ?_)
 refine wpAny_bind ?_
 wp_delta
 refine wpAny_bind (wpAny_isInstance (b:=false) ht.typeIs zgu ?_)
 rw [if_neg (by simp)]
 refine wpAny_bind (wpAny_specialOf ht.typeIs zgS ?_)
 dsimp only
 rw [if_pos (by decide +kernel)]
 refine wpAny_pure ?_
 rw [if_neg (by simp)]
 refine wpAny_bind (PyProof.Rows.len_tuple ht hfit ?_)
 refine wpAny_bind (wpAny_of_eq (a:=some (items.size:Int)) rfl ?_)
 dsimp only
 unfold Builtin.SmallTypes.newRecord
 refine wpAny_bind (wpAny_newObj_type (wpAny_pure ?_))
 exact h
theorem ziv (t:Addr) (items:Array Value) (hfit:(items.size:Int) < 2 ^ 63):Meets (Builtin.«reversed.__new__» ⟨[.type "reversed",.ref t],[]⟩) (fun _ R s=>IsTup s.heap t items/\
   R (.ok (.ret (.ref s.heap.objs.size))) { s with heap:=s.heap.push (revT t ((items.size:Int) - 1)),toks:=s.toks + 1 + 1 }):=
 .of_wp fun prog w A R s h=>zjn h.1 hfit ⟨_,rfl,h.2⟩
theorem zct:Slot "reversed" "__init__" "object.__init__":=
 .of (owner:="object") (n:="__init__") (by rw [typeLookup_type,builtinLookup_eq_fast]; kernel_rfl) (by decide +kernel) (by decide +kernel) (by decide +kernel) (by first | exact .inl (by decide +kernel) | exact .inr (by decide +kernel)) (by rw [isSubtype_type]; kernel_rfl)
theorem zgA:TypeCalled "reversed" "reversed.__new__" "object.__init__":=⟨by decide +kernel,by decide +kernel,⟨_,_,F.mro_reversed⟩,F.made_reversed,by decide +kernel,F.sub_reversed_self,zct⟩
theorem zg9 {t:Addr} {items:Array Value} {Q:Value->Shared->Prop} (ht:IsTup s.heap t items) (hfit:(items.size:Int) < 2 ^ 63)
  (h:Q (.ref s.heap.objs.size) { s with heap:=s.heap.push (revT t ((items.size:Int) - 1)),toks:=s.toks + 1 + 1 }):wpAny (model prog w) A (call (.type "reversed") [.ref t]) Q E s:=by
 refine callType_new zgA (by decide) (F.typeCall_reversed_1 _) (F.newCall_reversed_1 _) (fun obj=>F.args_object_init_2 obj _) F.entry_reversed_new (ziv t items hfit) ⟨ht,?_⟩
 exact ⟨⟨_,Heap.get?_push_size _ rfl,rfl⟩,h⟩
end
end FL
end
section
namespace FL
open PySem PySem.Spec PyProof.Rows
section
variable {prog:Program} {w:World} {A:Around} {E:Value->Shared->Prop} {s:Shared}
theorem zfq:Manifest.owners.lookup (String.ofList ['d','e','s','r','e','v','e','r'].reverse)=some Manifest.sig_reversed:=by kernel_rfl
theorem zaE:Slot "reversed" "__next__" "reversed.__next__":=
 .of (owner:="reversed") (n:="__next__") (by rw [typeLookup_type,builtinLookup_eq_fast]; kernel_rfl) (by decide +kernel) (by decide +kernel) (by decide +kernel) (by first | exact .inl (by decide +kernel) | exact .inr (by decide +kernel)) (by rw [isSubtype_type]; kernel_rfl)
theorem zbv:entryFor table "reversed.__next__"=some Builtin.«reversed.__next__»:=entryFor_of_tree (by kernel_rfl)
theorem zbW (a:Value):argsOk "reversed.__next__" ⟨[a],[]⟩:=by
 unfold argsOk; rw [signature?_of (id:="reversed.__next__") (n:=['_','_','t','x','e','n','_','_']) (o:=['d','e','s','r','e','v','e','r']) (by kernel_rfl) zfq]; kernel_rfl
def IsRevT (h:Heap) (a t:Addr) (i:Int):Prop:=∃ o,h.get? a=some o/\o.cls=.type "reversed"/\o.data=.fields #[.ref t,rawInt i]
theorem IsRevT.typeIs {a t:Addr} {i:Int} (x:IsRevT s.heap a t i):s.TypeIs (.ref a) "reversed":=let ⟨o,ho,hc,_⟩:=x; ⟨o,ho,hc⟩
theorem zhD {it t:Addr} {i:Nat} {items:Array Value} {x:Value} {Q:Option Value->Shared->Prop} (hit:IsRevT s.heap it t (i:Int)) (ht:IsTup s.heap t items) (hx:items[i]?=some x) (hfit:(items.size:Int) < 2 ^ 63)
  (hQ:∀ h' tk,IsRevT h' it t ((i:Int) - 1)->Heap.SameBut it s.heap h'->Q (some x) { s with heap:=h',toks:=tk }):wpAny (model prog w) A (pyNext (.ref it)) Q E s:=by
 obtain ⟨o,ho,hc,hd⟩:=id hit
 have hi:i < items.size:=by
  rcases Array.getElem?_eq_some_iff.mp hx with ⟨h,_⟩
  exact h
 unfold pyNext
 refine wpAny_bind (wpAny_attempt (wpAny_callSpecial?_slot (name:=Str.ofString "__next__") hit.typeIs zaE (wpAny_call_entry zaE hit.typeIs zbv ?_ (zbW _))))
 unfold Builtin.«reversed.__next__»
 refine wpAny_bind (wpAny_of_eq (a:=(Value.ref it,[])) rfl ?_)
 try dsimp only
 refine wpAny_bind (wpAny_field ho hd (x:=.ref t) rfl (wpAny_bind (wpAny_field ho hd (x:=rawInt (i:Int)) rfl ?_)))
 show wpAny _ _ (if (i:Int) < 0 then _ else _) _ _ s
 rw [if_neg (by omega)]
 refine wpAny_bind (wpAny_specialOf ht.typeIs zgS ?_)
 rw [if_neg (by simp)]
 refine wpAny_bind (wpAny_mkInt ?_)
 have hj:seqIndex? (i:Int) items.size=some i:=by
  unfold seqIndex?
  have n0:¬ (i:Int) < 0:=by omega
  simp [hi,n0]
 refine wpAny_bind (wpAny_attempt (PyProof.Rows.getItem_tuple (s:={ s with toks:=s.toks + 1 }) (j:=i) (x:=x) (show IsTup s.heap t items from ht) (by omega) (by omega) hj hx ?_))
 dsimp only
 refine wpAny_bind (wpAny_field (s:={ s with toks:=s.toks + 1 }) ho hd (x:=rawInt (i:Int)) rfl ?_)
 show wpAny _ _ (setField (.ref it) 1 (rawInt ((i:Int) - 1)) >>= _) _ _ _
 refine wpAny_bind (wpAny_setField (s:={ s with toks:=s.toks + 1 }) ho hd (by simp) ?_)
 refine wpAny_pure ⟨x,rfl,wpAny_pure (hQ _ (s.toks + 1) ?_ (Heap.SameBut.update ..))⟩
 exact ⟨_,Heap.get?_update_self _ ho (Obj.isFreed_of_fields (Obj.data_mapFields hd _)),(Obj.cls_mapFields ..).trans hc,by rw [Obj.data_mapFields hd]; simp⟩
theorem zjj {it t:Addr} {Q:Option Value->Shared->Prop} (hh:A.handled=none) (hit:IsRevT s.heap it t (-1)) (hQ:∀ h',Heap.ExtBut it s.heap h'->Q none { s with heap:=h' }):wpAny (model prog w) A (pyNext (.ref it)) Q E s:=by
 obtain ⟨o,ho,hc,hd⟩:=id hit
 unfold pyNext
 refine wpAny_bind (wpAny_attempt (wpAny_callSpecial?_slot (name:=Str.ofString "__next__") hit.typeIs zaE (wpAny_call_entry zaE hit.typeIs zbv ?_ (zbW _))))
 unfold Builtin.«reversed.__next__»
 refine wpAny_bind (wpAny_of_eq (a:=(Value.ref it,[])) rfl ?_)
 try dsimp only
 refine wpAny_bind (wpAny_field ho hd (x:=.ref t) rfl (wpAny_bind (wpAny_field ho hd (x:=rawInt (-1)) rfl ?_)))
 show wpAny _ _ (if (-1:Int) < 0 then _ else _) _ _ s
 rw [if_pos (by decide)]
 refine wpAny_bind (wpAny_rule ?_)
 refine wpAny_bind ?_
 wp_delta
 refine wpAny_bind (wpAny_setField ho hd (by simp) ?_)
 have ho2:=Heap.get?_update_self (h:=s.heap) (a:=it) (Obj.mapFields (·.setIfInBounds 1 (rawInt (-1)))) ho (Obj.isFreed_of_fields (Obj.data_mapFields hd _))
 refine wpAny_setField (s:={ s with heap:=s.heap.update it (Obj.mapFields (·.setIfInBounds 1 (rawInt (-1)))) }) ho2 (Obj.data_mapFields hd _) (by simp) ?_
 refine wpAny_bind ?_
 unfold Builtin.SmallTypes.stopIteration
 show wpAny _ _ (newExc (.type "StopIteration") [] >>= _) _ _ _
 refine wpAny_bind ?_
 simp only [newExc,newTuple]
 refine wpAny_bind (wpAny_newObj_type ?_ (by size_fits))
 refine wpAny_bind (m:=firstArgMember _ _) (wpAny_of_eq (a:=Value.none) (by first | rfl | (simp only [firstArgMember]; rfl)) (wpAny_newObj_type ?_ (by size_fits)))
 simp only [raiseNew]
 refine wpAny_bind (wpAny_handled ?_)
 first | rw [show A.in1.handled=none from hh] | rw [hh]
 refine wpAny_bind (wpAny_pure (wpAny_throw ?_))
 refine wpAny_bind (wpAny_isInstance (T:="StopIteration") (b:=true) ?ty isSubtype_stop ?_)
 case ty=>exact ⟨_,Heap.get?_push_size _ rfl,rfl⟩
 refine wpAny_pure (hQ _ ?_)
 have x1:Heap.ExtBut it s.heap (s.heap.update it (Obj.mapFields (·.setIfInBounds 1 (rawInt (-1))))):=(Heap.SameBut.update s.heap it _).extBut
 have x2:Heap.ExtBut it s.heap ((s.heap.update it (Obj.mapFields (·.setIfInBounds 1 (rawInt (-1))))).update it (Obj.mapFields (·.setIfInBounds 0 Value.none))):=fun b o hb e=>(Heap.SameBut.update _ it _).extBut b o hb (x1 b o hb e)
 exact (x2.push _).push _
theorem zb3:Slot "reversed" "__iter__" "reversed.__iter__":=
 .of (owner:="reversed") (n:="__iter__") (by rw [typeLookup_type,builtinLookup_eq_fast]; kernel_rfl) (by decide +kernel) (by decide +kernel) (by decide +kernel) (by first | exact .inl (by decide +kernel) | exact .inr (by decide +kernel)) (by rw [isSubtype_type]; kernel_rfl)
theorem zdt (a:Value):argsOk "reversed.__iter__" ⟨[a],[]⟩:=by
 unfold argsOk; rw [signature?_of (id:="reversed.__iter__") (n:=['_','_','r','e','t','i','_','_']) (o:=['d','e','s','r','e','v','e','r']) (by kernel_rfl) zfq]; kernel_rfl
theorem zc3:entryFor table "reversed.__iter__"=some Builtin.«dict_keyiterator.__iter__»:=
 entryFor_alias (id':="dict_keyiterator.__iter__") (by kernel_rfl) (by first | rfl | decide +kernel | (unfold String.splitOn; simp +decide [String.splitOnAux])) (by decide +kernel) (by kernel_rfl)
theorem zeq {it t:Addr} {i:Int} {Q:Value->Shared->Prop} (hit:IsRevT s.heap it t i) (h:Q (.ref it) s):wpAny (model prog w) A (pyIter (.ref it)) Q E s:=by
 refine wpAny_pyIter_slot hit.typeIs zb3 (wpAny_call_entry zb3 hit.typeIs zc3 (?_:wpAny _ _ (ret (.ref it)) _ _ s) (zdt _))
 exact wpAny_pure ⟨_,rfl,"reversed",_,hit.typeIs,zaE.lookup,h⟩
end
theorem IsRevT.at {h h':Heap} {a t:Addr} {i:Int} (x:IsRevT h a t i) (e:∀ o,h.get? a=some o->h'.get? a=some o):IsRevT h' a t i:=let ⟨o,ho,r⟩:=x; ⟨o,e _ ho,r⟩
theorem zbY {h h':Heap} {t:Addr} {items:Array Value} (x:IsTup h t items) (e:∀ o,h.get? t=some o->h'.get? t=some o):IsTup h' t items:=let ⟨o,ho,r⟩:=x; ⟨o,e _ ho,r⟩
theorem zgj {prog:Program} {w:World} {A:Around} (hh:A.handled=none) (I t:Addr) (hne:t≠I) (items:Array Value) (hfit:(items.size:Int) < 2 ^ 63):
  Walks prog w A I [I,t] [I] items.size (fun i v=>items[items.size - 1 - i]?=some v) (fun i h=>i<=items.size/\IsRevT h I t ((items.size:Int) - 1 - (i:Int))/\IsTup h t items) where
 sub:=fun b hb=>by simp at hb; simp [hb]
 frame:=fun _ _ _ x hk=>⟨x.1,x.2.1.at fun o e=>hk I (by simp) o e,zbY x.2.2 fun o e=>hk t (by simp) o e⟩
 item:=fun i s Q E hi x hQ=>by
  have hit:=x.2.1
  rw [show (items.size:Int) - 1 - (i:Int)=((items.size - 1 - i:Nat):Int) by omega] at hit
  have hx:items[items.size - 1 - i]?=some (items[items.size - 1 - i]'(by omega)):=Array.getElem?_eq_getElem _
  refine zhD hit x.2.2 hx hfit fun h' tk hit' hs'=>?_
  refine hQ _ h' tk hx ⟨by omega,?_,zbY x.2.2 fun o e=>hs'.extBut t o hne e⟩ fun b o hb e=>hs'.extBut b o (fun h=>hb (by simp [h])) e
  rw [show ((items.size - 1 - i:Nat):Int) - 1=(items.size:Int) - 1 - ((i + 1:Nat):Int) by omega] at hit'
  exact hit'
 done:=fun s Q E x hQ=>zjj hh (by have:=x.2.1; rw [show (items.size:Int) - 1 - ((items.size:Nat):Int)=-1 by omega] at this; exact this) fun h' he'=>hQ h' s.toks fun b o hb e=>he' b o (fun h=>hb (by simp [h])) e
 self:=fun _ _ _ _ x hQ=>zeq x.2.1 hQ
end FL
end
section
namespace FL
open PySem PySem.Spec PyProof.Rows L2
section
variable {prog:Program} {w:World} {A:Around} {E:Value->Shared->Prop} {s:Shared}
theorem zhm:typeLookup (.type "reversed") "__len__"=pure none:=by rw [typeLookup_type,builtinLookup_eq_fast]; kernel_rfl
theorem zbU:Slot "reversed" "__length_hint__" "reversed.__length_hint__":=
 .of (owner:="reversed") (n:="__length_hint__") (by rw [typeLookup_type,builtinLookup_eq_fast]; kernel_rfl) (by decide +kernel) (by decide +kernel) (by decide +kernel) (by first | exact .inl (by decide +kernel) | exact .inr (by decide +kernel)) (by rw [isSubtype_type]; kernel_rfl)
theorem zc1:entryFor table "reversed.__length_hint__"=some Builtin.«reversed.__length_hint__»:=entryFor_of_tree (by kernel_rfl)
theorem zdL (a:Value):argsOk "reversed.__length_hint__" ⟨[a],[]⟩:=by
 unfold argsOk; rw [signature?_of (id:="reversed.__length_hint__") (n:="__length_hint__".toList.reverse) (o:=['d','e','s','r','e','v','e','r']) (by kernel_rfl) zfq]; kernel_rfl
theorem zdS {it t:Addr} {items:Array Value} {Q:Value->Shared->Prop} (hit:IsRevT s.heap it t ((items.size:Int) - 1)) (ht:IsTup s.heap t items) (hfit:(items.size:Int) < 2 ^ 63)
  (h:∀ u tk,Q (.int (items.size:Int) u) { s with toks:=tk }):wpAny (model prog w) A (call (.builtin "reversed.__length_hint__") [.ref it]) Q E s:=by
 obtain ⟨o,ho,hc,hd⟩:=id hit
 refine wpAny_call_entry zbU hit.typeIs zc1 ?_ (zdL _)
 unfold Builtin.«reversed.__length_hint__»
 refine wpAny_bind (wpAny_of_eq (a:=Value.ref it) rfl ?_)
 refine wpAny_bind (wpAny_field ho hd (x:=.ref t) rfl ?_)
 rw [if_neg (by simp)]
 refine wpAny_bind (PyProof.Rows.len_tuple ht hfit ?_)
 refine wpAny_bind (wpAny_of_eq (a:=some (items.size:Int)) rfl ?_)
 dsimp only
 refine wpAny_bind (wpAny_field ho hd (x:=rawInt ((items.size:Int) - 1)) rfl ?_)
 show wpAny _ _ (if (items.size:Int) < (items.size:Int) - 1 + 1 then _ else retInt ((items.size:Int) - 1 + 1)) _ _ _
 rw [if_neg (by omega),show (items.size:Int) - 1 + 1=items.size by omega]
 unfold retInt
 refine wpAny_bind (wpAny_mkInt ?_)
 exact wpAny_pure ⟨_,rfl,h _ _⟩
theorem zh7 (k:Int) (u:Tok):asInt? (.int k u)=pure (some k):=rfl
theorem zdv:typeOf (.builtin "reversed.__length_hint__")=pure (.type "method_descriptor"):=by show builtinType _=_; rw [builtinType_eq_fast]; kernel_rfl
theorem zjp {it t:Addr} {items:Array Value} {Q:Bool->Shared->Prop} (hit:IsRevT s.heap it t ((items.size:Int) - 1)) (ht:IsTup s.heap t items) (hlen:items.size<=2 ^ 24)
  (h:∀ tk,Q ((items.size:Int) !=0) { s with toks:=tk }):wpAny (model prog w) A (Builtin.List.listLengthHint (.ref it)) Q E s:=by
 unfold Builtin.List.listLengthHint
 refine wpAny_bind (wpAny_specialOf hit.typeIs zhm ?_)
 show wpAny _ A (specialOf (Value.ref it) (Str.ofString "__length_hint__") >>= _) _ _ _
 refine wpAny_bind (wpAny_specialOf hit.typeIs zbU.lookup ?_)
 (generalize hid:("reversed.__length_hint__":String)=id0; wp_delta; rw [show splitId id0=some ("reversed","__length_hint__") from by subst hid; decide +kernel]; subst hid)
 refine wpAny_bind (wpAny_isInstance (b:=true) hit.typeIs (by rw [isSubtype_type]; kernel_rfl) ?_)
 refine wpAny_ite_split (fun hab=>absurd hab (by decide)) (fun _=>?_)
 refine wpAny_ite_split (fun hab=>absurd hab (by decide +kernel)) (fun _=>?_)
 refine wpAny_bind (wpAny_rule ?_)
 unfold bindSpecial
 refine wpAny_bind (wpAny_bind (wpAny_of_eq zdv ?_))
 rw [if_pos (by decide)]
 refine wpAny_pure ?_
 dsimp only
 refine wpAny_bind (wpAny_attempt (zdS hit ht (by omega) fun u tk=>?_))
 dsimp only
 refine wpAny_bind ?_
 have htl:Builtin.List.listTooLong ((items.size:Int).toNat)=false:=by simp [Builtin.List.listTooLong,sizeLine]; omega
 have hfi:Builtin.List.listFitsIndex (items.size:Int)=true:=by simp [Builtin.List.listFitsIndex]; omega
 have h0:¬ (items.size:Int) < 0:=by omega
 have h':=h tk
 generalize (items.size:Int)=k at htl hfi h0 h' ⊢
 rw [zh7]
 refine wpAny_pure ?_
 simp only [hfi,htl,h0,Bool.not_true,false_eq_true,if_false]
 exact wpAny_pure h'
theorem zgo {R:Result->Shared->Prop} {it t:Addr} {items:Array Value} (hh:A.handled=none) (hit:IsRevT s.heap it t ((items.size:Int) - 1)) (ht:IsTup s.heap t items) (hne:t≠it) (hlen:items.size<=2 ^ 24)
  (S:Addr) (res:Value) (c₀:Nat) (hS:s.heap.get? S=some { cls:=.type "list",data:=.seq #[] c₀ })
  (hR:∀ h' tk acc' c',(∀ b o,b≠S->b≠it->s.heap.get? b=some o->Heap.get? h' b=some o)->Heap.get? h' S=some { cls:=.type "list",dict:=none,data:=.seq acc' c',slots:=#[] }->
   ItemsOf (fun i v=>items[items.size - 1 - i]?=some v) acc' items.size->R (.ok (.ret res)) { s with heap:=h',toks:=tk }):
  wpAny (model prog w) A.in1 (Builtin.List.listExtendWith (.ref S) (.ref it) res)
   (fun fin s'=>match fin with | .done f=>R (.ok f) s' | .again c'=>c'.quiet=true/\codeAny (model prog w) A c' R s') (fun e s'=>R (.error e) s') s:=by
 have hSr:S≠it:=fun e=>by
  obtain ⟨o,ho,hc,_⟩:=hit
  rw [e,ho] at hS
  cases hS
  simp at hc
 have hSt:S≠t:=fun e=>by
  obtain ⟨o,ho,hc,_⟩:=ht
  rw [e,ho] at hS
  cases hS
  simp at hc
 have hSf:S∉[it,t]:=fun hm=>by
  rcases mem_cons.mp hm with e | hm
  ·exact hSr e
  ·exact hSt (mem_singleton.mp hm)
 have W:=(zgj (prog:=prog) (w:=w) (A:=A.in1) hh it t hne items (by omega)).toS
 have key:∀ (h:Heap) (c₁ tk:Nat),(0<=items.size/\IsRevT h it t ((items.size:Int) - 1 - ((0:Nat):Int))/\IsTup h t items)->(∀ b o,b≠S->b≠it->s.heap.get? b=some o->h.get? b=some o)->
   h.get? S=some { cls:=.type "list",data:=.seq #[] c₁ }->codeAny (model prog w) A (.builtin "list.extend.loop" ⟨[.ref S,.ref it,res],[]⟩) R { s with heap:=h,toks:=tk }:=by
  intro h c₁ tk hit hk hS₁
  refine codeAny_extend_loopS W (by rw [sizeLine_eq]; omega) S hSf res items.size 0 _ #[] c₁ rfl (zero_le _) hit hS₁ (ItemsOf.nil _) fun s' acc' c' hm hS' hacc=>?_
  rw [Moved.eq_with hm]
  refine hR s'.heap s'.toks acc' c' (fun b o hb hb2 e=>hm.heap b o (fun hmem=>?_) (hk b o hb hb2 e)) hS' hacc
  rcases mem_cons.mp hmem with e' | hmem
  ·exact hb e'
  ·exact hb2 (mem_singleton.mp hmem)
 unfold Builtin.List.listExtendWith
 refine wpAny_bind (wpAny_typeOf (T:="reversed") hit.typeIs ?_)
 have h1:Builtin.List.listSameRef (.ref S) (.ref it)=false:=by simp [Builtin.List.listSameRef,hSr]
 have h2:(Value.type "reversed" == Value.type "list")=false:=by decide
 have h3:(Value.type "reversed" == Value.type "tuple")=false:=by decide
 simp only [h1,h2,h3,Bool.or_false,false_eq_true,if_false]
 refine wpAny_bind (zeq hit ?_)
 refine wpAny_bind (wpAny_holding (zjp hit ht hlen fun tk=>?_))
 have hit0:IsRevT s.heap it t ((items.size:Int) - 1 - ((0:Nat):Int)):=by simpa using hit
 refine wpAny_ite_split (fun _=>?_) (fun _=>wpAny_pure ⟨plainId_quiet F.plain_extend_loop _,key _ c₀ _ ⟨zero_le _,hit0,ht⟩ (fun b o _ _ e=>e) hS⟩)
 refine wpAny_bind (wpAny_rule ?_)
 refine wpAny_bind ?_
 show wpAny _ _ (updateSeq S (·.push .none) >>= fun _=>updateSeq S (·.pop)) _ _ _
 refine wpAny_bind (wpAny_updateSeq (s:={ s with toks:=tk }) hS rfl ?_)
 have hS₂:=Heap.get?_update_self (Obj.mapSeq (·.push Value.none)) hS rfl
 refine wpAny_updateSeq (hz:=by seq_fits) hS₂ rfl ?_
 have hS₃:=Heap.get?_update_self (Obj.mapSeq (·.pop)) hS₂ rfl
 have kk:∀ b o,b≠S->s.heap.get? b=some o->((s.heap.update S (Obj.mapSeq (·.push Value.none))).update S (Obj.mapSeq (·.pop))).get? b=some o:=fun b o hb e=>
  (Heap.get?_update_other _ _ (Ne.symm hb)).trans ((Heap.get?_update_other _ _ (Ne.symm hb)).trans e)
 refine wpAny_pure ⟨plainId_quiet F.plain_extend_loop _,key _ _ _ ⟨zero_le _,hit0.at fun o e=>kk it o (Ne.symm hSr) e,zbY ht fun o e=>kk t o (Ne.symm hSt) e⟩ (fun b o hb _ e=>kk b o hb e) hS₃⟩
end
section
variable {prog:Program} {w:World} {A:Around} {E:Value->Shared->Prop} {s:Shared}
theorem zeT {Q:List Value->Shared->Prop} {it t:Addr} {items:Array Value} (hh:A.handled=none) (hit:IsRevT s.heap it t ((items.size:Int) - 1)) (ht:IsTup s.heap t items) (hne:t≠it) (hlen:items.size<=2 ^ 24)
  (hQ:∀ (h':Heap) tk acc,(∀ b o,b≠it->s.heap.get? b=some o->h'.get? b=some o)->s.heap.objs.size<=h'.objs.size->ItemsOf (fun i v=>items[items.size - 1 - i]?=some v) acc items.size->Q acc.toList { s with heap:=h',toks:=tk }):wpAny (model prog w) A (collect (.ref it)) Q E s:=by
 unfold collect
 refine wpAny_bind (wpAny_runValue (codeAny_builtin F.entry_proto_collect ?_))
 rw [Around.under_plainId F.plain_proto_collect _]
 show wpAny _ A.in1 (newList [] >>= fun l=>again (.builtin "list.__iadd__" ⟨[l,.ref it],[]⟩)) _ _ s
 refine wpAny_bind (wpAny_newObj_type ?_)
 refine wpAny_pure ⟨plainId_quiet F.plain_list_iadd _,codeAny_builtin F.entry_list_iadd ?_⟩
 rw [Around.under_plainId F.plain_list_iadd _]
 show wpAny _ A.in1 (Builtin.List.listExtendWith (.ref s.heap.objs.size) (.ref it) (.ref s.heap.objs.size)) _ _ _
 have hS₁:(s.heap.push { cls:=.type "list",data:=.seq ([]:List Value).toArray }).get? s.heap.objs.size=some { cls:=.type "list",data:=.seq #[] }:=Heap.get?_push_size _ rfl
 refine zgo (R:=fun r s'=>match r with
  | .ok (.ret v)=>wpAny (model prog w) A (match v with
    | .ref a=>do
      let __do_lift <- load a
      match __do_lift.data with
       | .seq xs epoch=>pure xs.toList
       | x=>unsupported "internal:collect"
    | x=>unsupported "internal:collect") Q E s'
  | .ok a=>False
  | .error e=>E e s') (s:={ s with heap:=s.heap.push { cls:=.type "list",data:=.seq ([]:List Value).toArray } }) hh (hit.at fun o e=>Heap.get?_push_of_some _ e) (zbY ht fun o e=>Heap.get?_push_of_some _ e) hne hlen _ _ 0 hS₁ fun h' tk acc' c' hk hS' hacc=>?_
 show wpAny _ A (load s.heap.objs.size >>= _) _ _ _
 refine wpAny_bind (wpAny_load hS' ?_)
 exact wpAny_pure (hQ h' tk acc' (fun b o hb e=>hk b o (ne_of_lt (Heap.lt_size e)) hb (Heap.get?_push_of_some _ e)) (le_of_lt (Heap.lt_size hS')) hacc)
theorem zc0 {Q₁:Value->Shared->Prop} {it t:Addr} {items:Array Value} (hh:A.handled=none) (hit:IsRevT s.heap it t ((items.size:Int) - 1)) (ht:IsTup s.heap t items) (hne:t≠it) (hlen:items.size<=2 ^ 24)
  (h:∀ (h':Heap) tk acc,(∀ b o,b≠it->s.heap.get? b=some o->h'.get? b=some o)->s.heap.objs.size<=h'.objs.size->ItemsOf (fun i v=>items[items.size - 1 - i]?=some v) acc items.size->Q₁ (.ref h'.objs.size) { s with heap:=h'.push { cls:=.type "tuple",data:=.seq acc },toks:=tk }):
  codeAny (model prog w) A (.call (.builtin "tuple.__new__") ⟨[.type "tuple",.ref it],[]⟩) (wants Q₁ E) s:=by
 refine codeAny_of_tree ?_
 show wpAny _ A.in1 (do checkBuiltinCall "tuple.__new__" ⟨[.type "tuple",.ref it],[]⟩; again (.builtin "tuple.__new__" ⟨[.type "tuple",.ref it],[]⟩)) _ _ s
 refine wpAny_bind (wpAny_of_eq (F.newCall_tuple_1 _) (wpAny_pure ⟨plainId_quiet F.plain_tuple_new _,codeAny_builtin F.entry_tuple_new ?_⟩))
 rw [Around.under_plainId F.plain_tuple_new _]
 have hsub:=sub_tuple_self
 have hinit:=init_tuple_lookup
 have hmh:=madeHere_tuple
 have hTI:s.TypeIs (.ref it) "reversed":=hit.typeIs
 wp_walk using wpAny_typeOf hTI,zeT (A:=A.in1) hh hit ht hne hlen
 intro h' tk acc hm hle hacc
 show wpAny _ _ (Builtin.Tuple.tupleExact acc.toList.toArray >>= fun v=>ret v) _ _ _
 unfold Builtin.Tuple.tupleExact
 refine wpAny_bind (wpAny_newObj_type ?_ (by show acc.toList.toArray.size<=sizeLine; simp only [toArray_toList]; rw [hacc.1,sizeLine_eq]; exact hlen))
 refine wpAny_pure ?_
 have e:acc.toList.toArray=acc:=by simp
 rw [e]
 exact h h' tk acc hm hle hacc
theorem zc4 {Q:Value->Shared->Prop} {it t:Addr} {items:Array Value} (hh:A.handled=none) (hit:IsRevT s.heap it t ((items.size:Int) - 1)) (ht:IsTup s.heap t items) (hne:t≠it) (hlen:items.size<=2 ^ 24)
  (hQ:∀ (h':Heap) tk acc,(∀ b o,b≠it->s.heap.get? b=some o->h'.get? b=some o)->s.heap.objs.size<=h'.objs.size->ItemsOf (fun i v=>items[items.size - 1 - i]?=some v) acc items.size->Q (.ref h'.objs.size) { s with heap:=h'.push { cls:=.type "tuple",data:=.seq acc },toks:=tk }):
  wpAny (model prog w) A (call (.type "tuple") [.ref it]) Q E s:=by
 refine callType_codes (Q₁:=fun obj s₁=>s₁.TypeIs obj "tuple"/\Q obj s₁) F.called_tuple (F.typeCall_tuple_1 _) F.entry_object_init
  (zc0 (A:=A.in1) hh hit ht hne hlen fun s' tk acc hm hle hacc=>⟨⟨_,Heap.get?_push_size _ rfl,rfl⟩,hQ s' tk acc hm hle hacc⟩) fun obj s₁ h₁=>?_
 exact ⟨h₁.1,F.args_object_init_2 obj _,object_init_meets F.called_tuple.init.lookup F.called_tuple.made (by decide) prog w A.in1 _ s₁ ⟨h₁.1,rfl,h₁.2⟩⟩
end
section
variable {X:Cx} {K:W.Frag}
theorem zfi:bootBuiltins "reversed"=some (.type "reversed"):=by decide +kernel
def tTupRev (K:W.Frag) (ta:TA):TE:=fun σ H Q=>ta σ H fun vs H1=>∃ t xs,vs=[.ref t]/\SqT K H1 t xs/\xs.length<=2 ^ 24/\∀ q,H1 q=none->Q (.ref q) (upd H1 q (.tup xs.reverse))
theorem zhL {a:Expr} {ta:TA} {p p1 pos pos1:Pos} (hc:X.calm=true) (hg:Gl X "tuple") (hm:X.mg "tuple"=none) (hv:bootBuiltins "tuple"=some (.type "tuple")) (hgr:Gl X "reversed") (hmr:X.mg "reversed"=none) (ha:PA X [a] ta)
  (hs:starEach [a] X.env=[(false,eval a X.env)]) (he:starEach [.Call (.Name "reversed" p1) [a] [] pos1] X.env=[(false,eval (.Call (.Name "reversed" p1) [a] [] pos1) X.env)]):
  PE X (.Call (.Name "tuple" p) [.Call (.Name "reversed" p1) [a] [] pos1] [] pos) (tTupRev X.K ta):=by
 intro pins s σ H Q I h
 refine Call_ (zbr I hg hm hv (PyProof.Rows.callWith_type1 (rest:=[]) ?_ he (by rfl)))
 rw [he]
 refine Calls.spliced_cons (Call_ (zbr I hgr hmr zfi (PyProof.Rows.callWith_type1 (thn (ha pos1 pins s σ H _ I h) fun us s1 ⟨vs,H1,I1,r1,q1⟩=>?_) hs rfl)))
 obtain ⟨t,xs,rfl,hq,hz,q⟩:=q1
 obtain ⟨u,rfl,rx⟩:=vals1 r1
 cases rx
 obtain ⟨its,rv,pt,_⟩:=I1.tuple hq
 have hsz:its.toArray.size=xs.length:=by rw [size_toArray,rv.length]
 have hlt:t < s1.heap.objs.size:=by obtain ⟨_,e,_⟩:=pt; exact Heap.lt_size e
 refine zg9 pt (by rw [hsz]; omega) (Calls.spliced_nil ?_)
 refine zc4 (s:={ s1 with heap:=s1.heap.push (revT t ((its.toArray.size:Int) - 1)),toks:=s1.toks + 1 + 1 }) (items:=its.toArray) (I.ok.hd hc) ⟨_,Heap.get?_push_size _ rfl,rfl,rfl⟩ (zbY pt fun o e=>Heap.get?_push_of_some _ e) (ne_of_lt hlt) (by rw [hsz]; omega) fun h' tk acc hk hle hacc=>?_
 have hk':∀ b o,s1.heap.get? b=some o->(h'.push { cls:=.type "tuple",data:=.seq acc }).get? b=some o:=fun b o e=>
  Heap.get?_push_of_some _ (hk b o (ne_of_lt (Heap.lt_size e)) (Heap.get?_push_of_some _ e))
 have hle':s1.heap.objs.size<=h'.objs.size:=by
  refine le_trans ?_ hle
  show _<=(s1.heap.push _).objs.size
  rw [Heap.size_push]
  exact le_succ _
 refine ⟨.ref h'.objs.size,_,I1.laid (t':=tk) hk' hle' (show ObjOk X.prog X.w _ (h'.push _) _ (.tup xs.reverse) from ⟨?_,acc.toList,?_,?_⟩),rfl,q _ (I1.hok.fresh hle')⟩
 ·rw [List.length_reverse,sizeLine_eq]; exact hz
 ·refine zbz (by rw [List.length_reverse]; have:=hacc.1; rw [hsz] at this; simp [this]) fun j y v h1 h2=>?_
  have h3:=hacc.2 j v (by rw [<- getElem?_toList]; exact h2)
  have hj:j < xs.length:=by
   have:=(List.getElem?_eq_some_iff.mp h1).1
   simpa using this
  rw [List.getElem?_reverse hj] at h1
  rw [List.getElem?_toArray,hsz] at h3
  obtain ⟨u,h4,h5⟩:=rv.get h1
  rw [h3] at h4
  cases h4
  exact h5
 ·simpa using IsTup.new h' acc
theorem Reps.rev {F:Hp}:∀ {xs:List V} {l:List D},Reps K F xs l->Reps K F xs.reverse l.reverse
 | _,_,.nil=>.nil
 | _,_,.cons a b=>by
   rw [List.reverse_cons,List.reverse_cons]
   exact (Reps.rev b).append (.cons a .nil)
theorem zhk {a:Expr} {wa:WE} {p p1 pos pos1:Pos} (hc:X.calm=true) (hg:Gl X "tuple") (hm:X.mg "tuple"=none) (hv:bootBuiltins "tuple"=some (.type "tuple")) (hgr:Gl X "reversed") (hmr:X.mg "reversed"=none) (ha:FE X a wa)
  (hs:starEach [a] X.env=[(false,eval a X.env)]:=by rfl) (he:starEach [.Call (.Name "reversed" p1) [a] [] pos1] X.env=[(false,eval (.Call (.Name "reversed" p1) [a] [] pos1) X.env)]:=by rfl):
  FE X (.Call (.Name "tuple" p) [.Call (.Name "reversed" p1) [a] [] pos1] [] pos) (wTupRev wa):=fun pn xe hp=>by
 refine PE.imp (zhL (X:=wp X pn xe) hc hg hm hv hgr hmr (zaa ha zab hs pn xe hp) hs he) fun σ H Q q=>?_
 obtain ⟨F,G,U,P,PX,rel,hw,hok,hx⟩:=q
 refine ⟨F,G,U,fun rs U1=>match rs with | [r]=>(need (viewC r U1) fun d=>match d with | .tup l=>l.length<=big/\P (.v (.sh (.tup l.reverse))) U1 | _=>False) | _=>False,PX,rel,hw,fun rs U1 vs F1 H1 hk1 s1 r1 hl rv=>?_,hx⟩
 cases rs with
 | nil=>exact hk1.elim
 | cons r rs=>
   cases rs with
   | cons x rs=>exact hk1.elim
   | nil=>
     cases vs with
     | nil=>exact rv.elim
     | cons v vs=>
       cases vs with
       | cons x vs=>exact rv.2.elim
       | nil=>
         dsimp only at hk1
         obtain ⟨d,ed,hk1⟩:=zad hk1
         obtain ⟨F2,s2,re,r2⟩:=takeC (U':=[]) (σ':=[]) r1 hl rv.1 ed
         rw [append_nil,append_nil] at r2
         cases d with
         | tup l=>
           obtain ⟨hz,hk1⟩:=hk1
           obtain ⟨t,xs,rfl,e,rx⟩:=RepE.tup re
           have hlen:=rx.len
           have hb:l.length<=1000000:=hz
           refine ⟨t,xs,rfl,SqT.of (r2.fr _ _ e),by omega,fun q hq=>?_⟩
           obtain ⟨f0,_,_⟩:=r2.free hq
           exact hok _ U1 _ _ _ hk1 (s1.trans (s2.trans (Same.upd f0))) ((r2.newF (o:=.tup xs.reverse) hq).push (.tup zam (rx.rev.mono (Same.upd f0)))) trivial
         | _=>exact hk1.elim
end
theorem zhQ {i:Int} (h1:-1000000000000 < i) (h2:i < 1000000000000):i.natAbs.log2 < 40:=by
 have:i.natAbs < 2 ^ 40:=by omega
 by_cases h0:i.natAbs=0
 ·rw [h0]; decide
 ·exact (Nat.log2_lt h0).mpr this
mutual
theorem zij:∀ d:D,okSh d=true->showD d=true
 | .non,_=>rfl
 | .bl _,_=>rfl
 | .int i,h=>by
   have h':(decide (-1000000000000 < i) && decide (i < 1000000000000))=true:=h
   rw [and_eq_true,decide_eq_true_eq,decide_eq_true_eq] at h'
   have:=zhQ h'.1 h'.2
   show decide (i.natAbs.log2 < 1920)=true
   rw [decide_eq_true_eq]; omega
 | .str _,_=>rfl
 | .tup l,h=>zcc l h
 | .lst l,h=>zcc l h
 | .dct _ _ _,h=>by cases h
 | .set _,h=>by cases h
 | .exc _ _ _,h=>by cases h
theorem zcc:∀ l:List D,okShs l=true->showDs l=true
 | [],_=>rfl
 | d::r,h=>by
   rw [okShs,and_eq_true] at h
   rw [showDs,zij d h.1,zcc r h.2]
   rfl
end
mutual
theorem zfb:∀ d:D,okSh d=true->(toPy d).leavesShort 13=true
 | .non,_=>rfl
 | .bl _,_=>rfl
 | .int i,h=>by
   have h':(decide (-1000000000000 < i) && decide (i < 1000000000000))=true:=h
   rw [and_eq_true,decide_eq_true_eq,decide_eq_true_eq] at h'
   have:=int_text_length_le10 (a:=i) (k:=12) (by decide) (by omega)
   simp only [toPy,PyData.leavesShort,decide_eq_true_eq]
   show (Str.ofString (toString i)).length<=13
   rw [PySem.ofString_length]
   exact this
 | .str l,h=>by
   have h':(l.all fun c=>decide (c < 1114112))=true:=h
   simp only [toPy,PyData.leavesShort,all_eq_true,decide_eq_true_eq] at h' ⊢
   intro c hc
   have:=h' c (by simpa using hc)
   omega
 | .tup l,h=>by
   simp only [toPy,PyData.leavesShort]
   exact zbh l h
 | .lst l,h=>by
   simp only [toPy,PyData.leavesShort]
   exact zbh l h
 | .dct _ _ _,h=>by cases h
 | .set _,h=>by cases h
 | .exc _ _ _,h=>by cases h
theorem zbh:∀ l:List D,okShs l=true->PyData.leavesShortAll 13 (toPys l)=true
 | [],_=>rfl
 | d::r,h=>by
   rw [okShs,and_eq_true] at h
   simp only [toPys,PyData.leavesShortAll,and_eq_true]
   exact ⟨zfb d h.1,zbh r h.2⟩
end
mutual
theorem zff:∀ d:D,okSh d=true->(toPy d).weight<=wtD d
 | .non,_=>le_refl _
 | .bl _,_=>le_refl _
 | .int i,h=>by
   have h':(decide (-1000000000000 < i) && decide (i < 1000000000000))=true:=h
   rw [and_eq_true,decide_eq_true_eq,decide_eq_true_eq] at h'
   have:=zhQ h'.1 h'.2
   simp only [toPy,PyData.weight,wtD]
   split <;> omega
 | .str l,h=>by simp [toPy,PyData.weight,wtD]
 | .tup l,h=>by
   simp only [toPy,PyData.weight,wtD]
   exact zbf l h
 | .lst l,h=>by
   simp only [toPy,PyData.weight,wtD]
   exact zbf l h
 | .dct _ _ _,h=>by cases h
 | .set _,h=>by cases h
 | .exc _ _ _,h=>by cases h
theorem zbf:∀ l:List D,okShs l=true->PyData.weightAll (toPys l)<=wtDs l
 | [],_=>le_refl _
 | d::r,h=>by
   rw [okShs,and_eq_true] at h
   have h1:=zff d h.1
   have h2:=zbf r h.2
   simp only [toPys,PyData.weightAll,wtDs]
   omega
end
theorem RepE.view {K:W.Frag} {F H:Hp} {v:V} {d:D} (h:RepE K F H v d) (sm:Same F H):Rep K H v d:=by
 rcases h with h | ⟨a,xs,ds,rfl,rfl,e,r⟩ | ⟨a,kvs,ks,vs,rfl,rfl,e,k,r⟩ | ⟨a,kvs,ks,vs,rfl,rfl,e,k,r⟩
 ·exact h.mono sm
 ·exact .lst (SqL.of e) (r.mono sm)
 ·exact .dK (.of e) k (r.mono sm)
 ·exact .dT (.of e) k (r.mono sm)
section
variable {X:Cx} {K:W.Frag} {a b:Expr} {wa wb:WE} {pos:Pos}
theorem zeo (a:Array Nat):∀ (n:Nat) (b:Array Nat),((List.replicate n a).foldl (·++·) b).toList=b.toList++(List.replicate n a.toList).flatten
 | 0,b=>by simp
 | n + 1,b=>by
   rw [List.replicate_succ,List.foldl_cons,zeo a n,List.replicate_succ,List.flatten_cons,toList_append,append_assoc]
theorem znr {x:Str} {n:Int} (h0:0<=n):(Txt.mul x n).cps.toList=(List.replicate n.toNat x.cps.toList).flatten:=by
 unfold Txt.mul
 by_cases h1:n < 1
 ·rw [if_pos h1,show n=0 by omega]; rfl
 ·rw [if_neg h1]
  by_cases h2:(n == 1 || x.length == 0)=true
  ·rw [if_pos h2]
   rw [or_eq_true,beq_iff_eq,beq_iff_eq] at h2
   rcases h2 with h2 | h2
   ·subst h2; simp
   ·have:x.cps.toList=[]:=by
     have e:x.cps.size=0:=h2
     rw [<- List.length_eq_zero_iff,length_toList]; exact e
    rw [this]; simp
  ·rw [if_neg h2]
   show ((List.replicate n.toNat x.cps).foldl (·++·) #[]).toList=_
   rw [zeo]; simp
def rMulS:R2:=fun x y H Q=>∃ z n,x=.str z/\y=.int n/\0<=n/\n<=1000/\z.length<=500/\Q (.str (Txt.mul z n)) H
theorem zli:OpR X (binaryOp .Mult) rMulS:=by
 intro pins s σ H x y v u Q I rx ry h
 obtain ⟨z,n,rfl,rfl,h0,h1,hz,q⟩:=h
 obtain ⟨t,rfl⟩:=rx
 obtain ⟨t',rfl⟩:=ry
 refine SB.mul ⟨?_,fun h _=>?_,fun h _=>?_⟩ fun t2 k=>⟨.str _,H,I.kept fun _ _ z=>z,⟨_,rfl⟩,q⟩
 ·rw [or_eq_false_iff,decide_eq_false_iff_not,decide_eq_false_iff_not]; omega
 ·have h3:(9223372036854775807:Int) / 1000<=(2 ^ 63 - 1) / n:=by
   rw [Int.le_ediv_iff_mul_le (by omega)]
   have:(9223372036854775807:Int) / 1000=9223372036854775:=by decide
   rw [this]
   have h4:(9223372036854775:Int) * n<=9223372036854775 * 1000:=Int.mul_le_mul_of_nonneg_left h1 (by decide)
   omega
  have:(9223372036854775807:Int) / 1000=9223372036854775:=by decide
  omega
 ·have h4:z.length * n.toNat<=500 * 1000:=Nat.mul_le_mul hz (by omega)
  simp only [Builtin.Str.tooLong,decide_eq_false_iff_not,sizeLine_eq]
  omega
theorem zhv:Does K (fun x y H Q=>(rI CMul fun i j=>.int (i * j)) x y H Q\/rMulS x y H Q) oMulA:=by
 intro σ U F G H x y p q s Q rel rx ry e hq
 unfold oMulA at e
 split at e
 ·rename_i l n
  split at e
  ·rename_i hc
   cases e
   obtain ⟨h0,h1,hz⟩:=hc
   obtain ⟨z,rfl,e1,_⟩:=rx.str
   have ey:y=.int n:=by
    rcases ry with ry | ⟨_,_,_,_,e,_⟩ | ⟨_,_,_,_,_,e,_⟩ | ⟨_,_,_,_,_,e,_⟩
    ·cases ry; rfl
    ·cases e
    ·cases e
    ·cases e
   subst ey
   have hzl:z.length=l.length:=by rw [<- e1,length_toList]; rfl
   refine .inr ⟨z,n,rfl,rfl,h0,h1,by omega,?_⟩
   refine hq _ F H (Same.refl F) (rel.push (.str ?_ ?_))
   ·rw [znr h0,e1]
   ·have h4:n.toNat * l.length<=1000 * 500:=Nat.mul_le_mul (by omega) hz
    have e5:∀ m,((List.replicate m l).flatten).length=m * l.length:=fun m=>by simp [List.length_flatten]
    rw [e5]; omega
  ·cases e
 ·exact .inl (zjt σ U F G H x y _ _ s Q rel rx ry e hq)
theorem za5 (ha:FE X a wa) (hb:FE X b wb):FE X (.BinOp a .Mult b pos) (wBin oMulA wa wb):=zdg (fun _ _=>OpR.or zn7 zli) zhv ha hb
end
end FL
end
section
namespace FL
end FL
end
section
namespace FL
open PySem PySem.Spec PyProof.Rows L2
end FL
end
section
namespace FL
def wCM (s0:S) (n k:Nat) (it:WI) (g:WG) (c:WT) (b:WB):WE:=fun U Q E=>it U (fun l U1=>
 bLoop g c b l (U1++some s0::List.replicate k none) (fun U2=>need (slot U2 n) fun s=>Q (.v s) (U2.take n)) (fun x U2=>E x (U2.take n))) E
noncomputable def bPut (n:Nat) (a e:WE):WB:=fun U Q E=>a U (fun x U1=>e U1 (fun y U2=>need (view x U2) fun q=>need (give y U2) fun p=>match slot p.2 n with
 | some (.dct t ks l)=>isKey t q=true/\ks.Nodup/\ks.length < big/\Q (p.2.set n (some (dputS t ks l q p.1)))
 | _=>False) E) E
end FL
end
section
namespace FL
open PySem PySem.Spec PyProof.Rows L2
section
variable {X:Cx} {pins:List (Addr×Obj)} {σ:St} {H:Hp} {s:Shared} {a:Addr} {y v:V} {u r:Value} {A:Around} {E:Value->Shared->Prop}
theorem zht {H':Hp} {Q:Unit->Shared->Prop} (hu:A.units < cLine) (I:Inv X pins σ H s) (g:DPut H a y v H') (ry:RelV y u) (rv:RelV v r) (h:∀ s',Inv X pins σ H' s'->Q () s'):
  wpAny (model X.prog X.w) A (dictSet a u r) Q E s:=by
 rcases g with ⟨kvs,k,e,ey,l,eH⟩ | ⟨kvs,k,b,e,ey,eb,l,eH⟩
 ·subst ey eH
  obtain ⟨z,hd,vs,rel,dd⟩:=zkK I.hok e
  refine wpAny_dictSet_pairs (hsz:=by rw [<- rel.length]; exact z) (zfg ry) dd fun h' dd' hs=>h _ ?_
  exact zcZ I (by rw [e]; exact True.intro) hs (let ⟨q,_,_,hq,_⟩:=dd'; ⟨q,hq⟩) (zhR (by have:=zaM kvs k v; omega) hd (rel.put k rv) dd')
 ·subst ey eH
  cases (show u=Value.ref b from ry)
  obtain ⟨z,hd,xs,rel,dd⟩:=zmc I.hok e
  refine wpAny_dictSet_heap (hsz:=by rw [<- Paired.length rel]; exact z) hu (zdh I.hok eb) dd fun h' dd' hs=>h _ ?_
  obtain ⟨q,es,ep,hq,h2,h3,h4,_,h5⟩:=dd'
  refine zcZ I (by rw [e]; exact True.intro) hs ⟨q,hq⟩ ⟨by have:=zaM kvs k v; omega,hd,_,(rel.put k eb rv).keeps fun c ys ec=>?_,q,es,ep,hq,h2,h3,h4,h5⟩
  rw [zag (zmE ec e (fun z=>nomatch z))]
  exact ec
end
section
variable {X:Cx} {n:Nat} {D:Addr}
theorem zjN {ek ev:Expr} {wk we:WE} {p:Pos} (hxe:X.xe=fun _ _=>False) (hu:X.A.units < cLine) (hk:FE X ek wk) (he:FE X ev we):
  PRest X (eval ek X.env >>= fun kv=>holding [kv] (eval ev X.env) >>= fun vv=>standAt p >>= fun _=>holding [kv,vv] (dictSet D kv vv)) (tWB X n D (bPut n wk we)):=by
 intro pins s σ H Q I q
 obtain ⟨F,G,U,P,PX,rel,hσ,hw,hok⟩:=q
 have hp:PassesOwn (model X.prog X.w) X.A X.env X.xe:=by rw [hxe]; exact PassesOwn.never
 have xe0:∀ e s',X.xe e s'->False:=fun e s' z=>by rw [hxe] at z; exact z
 have h2:=two (X:=X) (wa:=wk) (wb:=we) (σ:=σ) (H:=H) (Q:=fun _ H'=>Q σ H') (k:=fun x y U2 Q' _=>need (view x U2) fun q=>need (give y U2) fun p=>match slot p.2 n with
  | some (.dct t ks l)=>isKey t q=true/\ks.Nodup/\ks.length < big/\Q' (.v (.sh .non)) (p.2.set n (some (dputS t ks l q p.1)))
  | _=>False) ⟨F,G,U,fun _ U'=>P U',PX,rel,hw,fun r U' v F' H' h1 sm r' _=>hok U' σ F' H' h1 KP.refl sm (r'.drop (len1 r')),xc0⟩
 refine wpAny_bind (wpAny_mono (hk X.pn X.xe hp pins s σ H _ I h2) (fun kv s1 ⟨v,H1,I1,rv,q1⟩=>?_) fun e s' z=>xe0 e s' z)
 refine wpAny_bind (wpAny_holding (wpAny_mono (he X.pn X.xe hp pins s1 σ H1 _ I1 q1) (fun vv s2 ⟨u,H2,I2,ru,q2⟩=>?_) fun e s' z=>xe0 e s' z))
 refine wpAny_bind (wpAny_standAt (wpAny_holding ?_))
 obtain ⟨F3,G3,U3,rx,ry,P3,PX3,rel3,hl3,vx,vy,hkk,hok3,_⟩:=q2
 obtain ⟨q,eq,hkk⟩:=zad hkk
 have rq:=look rel3 hl3 vx eq
 have r5:Rel X.K (U3++[slotOf ry]) (σ++[some u]) F3 G3 H2:=rel3.mid hl3
 obtain ⟨⟨t,U4⟩,eg,hkk⟩:=zad hkk
 obtain ⟨F4,s4,l4,r6⟩:=giveR (U':=[]) (σ':=[]) r5 hl3 vy eg
 cases qs:slot U4 n with
 | none=>simp only [qs] at hkk
 | some sj=>
   rw [qs] at hkk
   match sj,qs,hkk with
   | .dct tt kk l,qs,⟨hkey,hnd,hbig,hnx⟩=>
     obtain ⟨H',dp,r7⟩:=Rel.dput r6 qs hσ rq hkey hnd hbig
     refine zht hu I2 dp rv ru fun s' I'=>⟨σ,H',I',?_⟩
     exact hok3 (.v (.sh .non)) _ .non F4 H' hnx s4 (r7.push .non) trivial
theorem zkj {t:Bool} (H:Hp) (h:Heap) (hb:sysModules < h.objs.size):ObjOk X.prog X.w H (h.push { cls:=.type "dict",dict:=none,data:=.dict #[] }) h.objs.size (if t then .dT [] else .dK []):=by
 cases t
 ·exact zfG h hb
 ·exact ziV h hb
theorem zlN {t:Bool} (F H:Hp) (p:Addr) (e:H p=some (if t then .dT [] else .dK [])):SRep X.K F H (.ref p) (.dct t [] []) [p]:=by
 cases t
 ·exact .dK e rfl .nil
 ·exact .dT e rfl .nil
end
section
variable {X:Cx} {k:Nat} {vars:List Str}
theorem zn6 (t:Bool) {ek ev tg iter:Expr} {ifs:List Expr} {scope:Scope} {pos:Pos} {wi:WI} {g:WG} {wc:WT} {wk we:WE} {n:Nat} (hn:X.N.length=n) (hu:X.A.units < cLine) (hc:X.calm=true) (Sc:CompScope X.env.scope scope X.N vars) (hk:vars.length=k) (hi:FI X tg iter wi)
  (hg:∀ s H ex,FG (compCx X scope vars s H ex) (List.range (n + 1)) tg g) (ht:∀ s H ex,PIfs (compCx X scope vars s H ex) ifs (tWT (compCx X scope vars s H ex) wc)) (hkk:∀ s H ex,FE (compCx X scope vars s H ex) ek wk) (he:∀ s H ex,FE (compCx X scope vars s H ex) ev we)
  (hs:∀ x,foldedSetIterable iter X.env x=pure x:=by intro _; rfl):FE X (.DictComp ek ev [⟨tg,iter,ifs,0⟩] scope pos) (wCM (.dct t [] []) n k wi g wc (bPut n wk we)):=by
 subst hn
 intro pn xe hp pins s σ H Q I q
 show wpAny (model X.prog X.w) X.A (comprehension (.DictComp ek ev [⟨tg,iter,ifs,0⟩] scope pos) scope X.env _ (newObj (.type "dict") (.dict #[])) false (eval iter X.env) none) (EP (wp X pn xe) pins σ Q) xe s
 obtain ⟨F,G,U,P,PX,rel,hw,hok,hx⟩:=q
 refine zdT (fun A E s Q h=>zdU A E s Q h) (s0:=.dct t [] []) (zkj (t:=t)) zlN rfl hs Sc hk hi (fun s H ex D=>?_) (fun _ _ _=>rfl) (fun _ _ _=>rfl) (fun _ _ _=>rfl) (fun _ _ _=>⟨_,rfl⟩) hp I rel hw hx (zfo hok)
 exact zbc (X:=compCx X scope vars s H ex) hc rfl (hg s H ex [] (fun _ _=>False) PassesOwn.never) (ht s H ex) (fun _=>(zjN (X:=compCx X scope vars s H ex) rfl hu (hkk s H ex) (he s H ex)).f) (fun _=>rfl) (fun _=>rfl) (fun _=>rfl) (fun _=>rfl)
end
section
variable {X:Cx} {pos:Pos}
theorem zl4 {k:Nat} {A:Around} (hr:Room k A):A.units < cLine:=Nat.lt_of_succ_lt (zfk hr)
end
end FL
end
section
namespace FL
end FL
end
section
namespace FL
open PySem PySem.Spec PyProof.Rows L2
def dO (K:W.Frag) (f:Addr):FuncData:=match K.lookup f with
 | some ⟨_,_,.func d,_⟩=>d
 | _=>default
theorem zm4 {K:W.Frag} {f:Addr} {oc:Value} {od:Option Addr} {d:FuncData} {sl:Array (Option Value)} (l:K.lookup f=some ⟨oc,od,.func d,sl⟩):dO K f=d:=by unfold dO; rw [l]
inductive Lk (K:W.Frag) (n:Str) (st:Stmt) (f:Addr):Prop
 | mk {oc kV dc pm cd ct:Value} {od an:Option Addr} {sl:Array (Option Value)} (a:W.nsIn K mainGlobals n=some (some (.ref f))) (l:K.lookup f=some ⟨oc,od,.func (W.fnOf n n (defArgs st) (defBody st) (defScope st) .none kV dc pm an cd ct),sl⟩)
   (c:W.codeIn K cd n=true) (k:W.keepIn K (.ref f)=true):Lk K n st f
structure Tx (K:W.Frag) (mg:Str->Option Value) (f:Addr) (n:Str) (st:Stmt) (ps:List Str):Prop where
 F:Fun K n n st f (dO K f)
 m:mg n=some (.ref f)
 k:W.keepIn K (.ref f)=true
 b:Binds K (dO K f) ps []
def Bd0 (n:Str) (st:Stmt) (ps:List Str):Prop:=∀ (kV doc pm:Value) (an:Option Addr) (cdv ct:Value) (us:List Value),us.length=ps.length->bindArgs (W.fnOf n n (defArgs st) (defBody st) (defScope st) .none kV doc pm an cdv ct) ⟨us,[]⟩=pure (ps.zip us)
section
variable {K:W.Frag} {mg:Str->Option Value} {f:Addr} {n:Str} {st:Stmt} {ps:List Str} {h:Heap}
theorem Lk.mm (t:Lk K n st f) (X:K.In h) (G:h.Ns mainGlobals mg):mg n=some (.ref f):=by
 obtain ⟨a,l,c,k⟩:=t
 exact W.mg_of X G a
theorem Lk.tx (t:Lk K n st f) (X:K.In h) (G:h.Ns mainGlobals mg) (b:Bd0 n st ps:=by intro _ _ _ _ _ _ us hl; first | (obtain ⟨_,rfl⟩:=vlen1 (l:=us) hl; rfl) | (obtain ⟨_,_,rfl⟩:=vlen2 (l:=us) hl; rfl) | (obtain ⟨_,_,_,rfl⟩:=vlen3 (l:=us) hl; rfl) | (obtain ⟨_,_,_,_,rfl⟩:=vlen4 (l:=us) hl; rfl) | (obtain ⟨_,_,_,_,_,rfl⟩:=vlen5 (l:=us) hl; rfl)):Tx K mg f n st ps:=by
 obtain ⟨a,l,c,k⟩:=t
 have e:=zm4 l
 have F:=znM l c k
 refine ⟨?_,W.mg_of X G a,k,?_⟩
 ·rw [e]; exact F
 ·rw [e]; exact F.binds b
theorem Lk.bt {x:Str} (t:Lk K n st f) (s:Shared) (v:Value) (b:Bd0 n st [x]:=by intro _ _ _ _ _ _ us hl; obtain ⟨_,rfl⟩:=vlen1 (l:=us) hl; rfl):BindsTo s (dO K f) ⟨[v],[]⟩ [(x,v)]:=by
 obtain ⟨a,l,c,k⟩:=t
 have e:=zm4 l
 rw [e]
 exact .of_eq (b _ _ _ _ _ _ [v] rfl)
end
section
variable {X:Cx} {ks:List Nat} {pos:Pos} {x:Str}
theorem fw (i:Nat) (hN:X.N[i]?=some x:=by rfl) (hv:Vis X.env.scope x:=by first | exact Or.inl rfl | exact Or.inr (Or.inl rfl) | exact Or.inr (Or.inr rfl)) (hd:(x == ("__debug__":Str))=false:=by decide)
  (hcd:(x == ("__classdict__":Str))=false:=by decide):FE X (.Name x pos) (wVar i):=zlT hN hv hd hcd
theorem gnm (i:Nat) (hnd:X.N.Nodup) (hk:i∉ks:=by decide) (hi:X.N[i]?=some x:=by rfl) (hx:Loc X.env.scope x:=by first | exact Or.inl rfl | exact Or.inr rfl) (hf:X.fn x=true\/X.env.scope.names.lookup x=some .local:=by exact Or.inl rfl):FG X ks (.Name x pos) (FL.gName i):=zhb hk (fun j hj=>zcj hnd hj hi) hi hx hf
theorem gcm (i:Nat) (hk:i∉ks:=by decide) (hu:(X.N.zipIdx.all fun p=>!(p.1 == x) || p.2 == i)=true:=by kernel_rfl) (hi:X.N[i]?=some x:=by rfl) (hx:Loc X.env.scope x:=by first | exact Or.inl rfl | exact Or.inr rfl) (hf:X.fn x=true\/X.env.scope.names.lookup x=some .local:=by first | exact Or.inr rfl | exact Or.inl rfl):FG X ks (.Name x pos) (FL.gName i):=zhb hk (uq hu) hi hx hf
variable {k j n:Nat} {f:Addr} {ps:List Str} {st:Stmt} {wf:WF} {wa:WA} {e:Expr} {es:List Expr} {p:Pos}
theorem fcl (ms:List Bool) (t:Tx X.K X.mg f x st ps) (Fk:FnOk X.prog X.w X.K X.mg X.base CX0 k f (dO X.K f) ps (spW X.K wf n)) (hr:Room j X.A) (ha:FA X (e::es) wa) (hj:k<=j:=by decide) (hg:Gl X x:=by rfl) (hlen:∀ ss P PX,wf ss P PX->ss.length=n:=by exact fun _ _ _ h=>h.1)
  (hdb:(x == ("__debug__":Str))=false:=by decide) (he:starEach (e::es) X.env=(false,eval e X.env)::starEach es X.env:=by rfl) (hpl:(backTo pos (starEach es X.env)).any (·.1)=false:=by rfl):
  FE X (.Call (.Name x p) (e::es) [] pos) (wCall wf ms wa):=zk0 Fk (hr.mono hj) hg t.m t.k t.b ha hlen hdb he hpl
end
end FL
end
section
namespace FL
end FL
end
section
namespace FL
open PySem PySem.Spec PyProof.Rows L2
section
open PySem.W HT
variable {prog:Program} {w:World} {A:Around} {s:Shared} {b:Bool} {Q:Bool->Shared->Prop}
end
end FL
end
section
namespace FL
noncomputable def wML (f:List D->List D->Option S) (o:WE) (a:WA):WE:=fun U Q E=>o U (fun x U1=>match x with
 | .v (.sh (.lst l))=>a U1 (fun rs U2=>need (rs.mapM fun r=>viewC r U2) fun ds=>need (f l ds) fun s=>Q (.v s) U2) E
 | _=>False) E
def isScal:D->Bool
 | .non=>true
 | .bl _=>true
 | .int _=>true
 | .str _=>true
 | _=>false
open Classical in
noncomputable def ixD (l:List D) (x:D):Option Nat:=if l.all (fun d=>isScal d && !clash d x) then l.findIdx? (fun d=>decide (d=x)) else none
noncomputable def mIndexL (l:List D):List D->Option S
 | [x]=>(ixD l x).map fun (i:Nat)=>.sh (.int (i:Int))
 | _=>none
noncomputable def bSortU:List D->Option S
 | [.tup l]=>if l.length < 64/\(intsD l).isSome then some (.lst ((sortD l).map .sh)) else none
 | _=>none
def wRec (step:WF->WF):Nat->WF
 | 0=>fun _ _ _=>False
 | n + 1=>step (wRec step n)
end FL
end
section
namespace FL
open PySem PySem.Spec PyProof.Rows L2
section
variable {prog:Program} {w:World} {A:Around} {E:Value->Shared->Prop} {s:Shared}
theorem ze5 {l:Addr} {vs:List Value} {Q:List Value->Shared->Prop} (hl:s.heap.IsTuple l vs.toArray)
  (h:Q vs { s with heap:=(s.heap.push (seqObj "list" #[] 0)).update s.heap.objs.size (Obj.mapSeq (·++vs.toArray)) }) (hsz:vs.length<=sizeLine):
  wpAny (model prog w) A (collect (.ref l)) Q E s:=by
 obtain ⟨o,ho,hc,n,hd⟩:=id hl
 unfold collect
 refine wpAny_bind (wpAny_runValue (codeAny_builtin entry_proto_collect' ?_))
 show wpAny _ _ (do again (.builtin "list.__iadd__" ⟨[<- newList [],.ref l],[]⟩)) _ _ s
 refine wpAny_bind (wpAny_newList (wpAny_pure ⟨Code.quiet_builtin _ (by decide +kernel),codeAny_builtin entry_list_iadd' ?_⟩))
 show wpAny _ _ (Builtin.List.listExtendWith (.ref s.heap.objs.size) (.ref l) (.ref s.heap.objs.size)) _ _ { s with heap:=s.heap.push (seqObj "list" #[] 0) }
 unfold Builtin.List.listExtendWith
 have ho':(s.heap.push (seqObj "list" #[] 0)).get? l=some o:=Heap.get?_push_of_some _ ho
 refine wpAny_bind (wpAny_typeOf (T:="tuple") ⟨o,ho',hc⟩ ?_)
 have ht:(Value.type "tuple" == Value.type "tuple")=true:=by rfl
 rw [if_pos (by rw [ht]; simp)]
 refine wpAny_bind (listItems_at ho' hd ?_)
 refine wpAny_bind (listItems_at (xs:=#[]) (n:=0) (Heap.get?_push_size _ rfl) rfl ?_)
 rw [if_neg (by simp)]
 refine wpAny_bind (listUpdate_at (xs:=#[]) (n:=0) (Heap.get?_push_size _ rfl) rfl ?_ (zero_le _) (by show (#[]++vs.toArray).size<=sizeLine + 1; simp only [Array.size_append,size_toArray,length_nil]; omega))
 refine wpAny_pure ?_
 show wpAny (model prog w) A (do
   let o <- load s.heap.objs.size
   match o.data with
   | .seq xs _=>pure xs.toList
   | _=>unsupported "internal:collect") Q E { s with heap:=(s.heap.push (seqObj "list" #[] 0)).update s.heap.objs.size (Obj.mapSeq (·++vs.toArray)) }
 refine wpAny_bind (wpAny_load (get?_update_seq (Heap.get?_push_size _ rfl) _) ?_)
 show wpAny _ _ (pure ((#[]:Array Value)++vs.toArray).toList) Q E _
 rw [show ((#[]:Array Value)++vs.toArray).toList=vs by simp]
 exact wpAny_pure h
theorem zgE {l:Addr} {vs:List Value} {ns:List Int} {Q:Value->Shared->Prop} (hl:s.heap.IsTuple l vs.toArray) (hI:IntsAre vs ns) (h64:vs.length < 64)
  (h:∀ (out:Array Value) (ns':List Int),IntsAre out.toList ns'->ns'.Perm ns->ns'.Pairwise (·<=·)->Q (.ref (s.heap.objs.size + 1)) { s with heap:=sortedAll s.heap vs out }):
  wpAny (model prog w) A (call (.builtin "sorted") [.ref l]) Q E s:=by
 have hsl:vs.length<=sizeLine:=by rw [sizeLine_eq]; omega
 refine Calls.call_function_entry kind_sorted plain_sorted entry_sorted (args_sorted1 _) (?_:wpAny _ _ _ _ _ _)
 unfold Builtin.«sorted»
 refine wpAny_bind (m:=checkCount "sorted" 1 1 _) (wpAny_pure (wpAny_bind (ze5 hl ?_ hsl)))
 refine wpAny_bind (wpAny_newList ?_)
 have hsz:((s.heap.push (seqObj "list" #[] 0)).update s.heap.objs.size (Obj.mapSeq (·++vs.toArray))).objs.size=s.heap.objs.size + 1:=by
  rw [Heap.size_update,size_push']
 have hoL:(((s.heap.push (seqObj "list" #[] 0)).update s.heap.objs.size (Obj.mapSeq (·++vs.toArray))).push (seqObj "list" vs.toArray 0)).get? (s.heap.objs.size + 1)=some (seqObj "list" vs.toArray 0):=by
  rw [<- hsz]; exact Heap.get?_push_size _ rfl
 show wpAny _ _ _ _ _ (Shared.mk (((s.heap.push (seqObj "list" #[] 0)).update s.heap.objs.size (Obj.mapSeq (·++vs.toArray))).push (seqObj "list" vs.toArray 0)) s.gens s.drawn s.toks s.os)
 rw [hsz]
 refine wpAny_bind (wpAny_holding (wpAny_call_entry slot_list_sort ⟨_,hoL,rfl⟩ entry_list_sort (list_sort_tree hoL hI h64 fun out ns' a1 a2 a3=>⟨_,rfl,?_⟩) (args_list_sort _)))
 exact wpAny_pure ⟨_,rfl,h out ns' a1 a2 a3⟩
end
section
variable {X:Cx} {K:W.Frag} {p pos:Pos} {e:Expr} {es:List Expr} {wa:WA}
def rSortU (K:W.Frag):List V->Hp->VK->Prop:=fun xs H Q=>∃ a,∃ ns:List Int,xs=[.ref a]/\ns.length < 64/\SqT K H a (ns.map V.int)/\∀ ns':List Int,ns'.Perm ns->ns'.Pairwise (·<=·)->∀ q,H q=none->Q (.ref q) (upd H q (.lst (ns'.map V.int)))
theorem zgi:CallR X (.builtin "sorted") (rSortU X.K):=by
 intro pins s σ H xs us Q I r h
 obtain ⟨a,ns,rfl,h64,hq,q⟩:=h
 cases r with
 | cons r1 r2=>
   cases r2
   cases r1
   obtain ⟨its,r,pl,_⟩:=I.tuple hq
   have hlen:its.length=ns.length:=by have:=r.length; rw [length_map] at this; exact this.symm
   refine zgE (show s.heap.IsTuple a its.toArray from pl) (za0 r) (by rw [hlen]; exact h64) fun out ns' a1 a2 a3=>?_
   obtain ⟨e,he⟩:=sortedAll_at s.heap its out
   have hz:ns'.length<=sizeLine:=by rw [a2.length_eq,sizeLine_eq]; omega
   refine ⟨.ref (s.heap.objs.size + 1),_,I.laid (t':=s.toks) (o:=.lst (ns'.map V.int)) (fun b ob w=>sortedAll_old w) (le_succ _) ?_,rfl,q ns' a2 a3 _ (I.hok.fresh (le_succ _))⟩
   exact ⟨by rw [length_map]; exact hz,out.toList,e,zaY a1,by rw [toArray_toList]; exact he⟩
theorem zgg:DoesB K (rSortU K) bSortU:=by
 intro σ U F G H vs ds s Q rel re e hq
 obtain ⟨d,v,rfl,rfl⟩:=arg1 (fun x y r=>by cases x <;> rfl) rfl re e
 cases d with
 | tup l=>
   have e:(if l.length < 64/\(intsD l).isSome then some (S.lst ((sortD l).map .sh)) else none)=some s:=e
   split at e
   ·rename_i hc
    cases e
    obtain ⟨a,xs,rfl,h1,r1⟩:=re.1.tup
    obtain ⟨h64,hi⟩:=hc
    obtain ⟨ns,q1⟩:=isSome_iff_exists.mp hi
    obtain ⟨e1,e2⟩:=zds r1 q1
    subst e1 e2
    refine ⟨a,ns,rfl,by rwa [length_map] at h64,.of (rel.fr _ _ h1),fun ns' p pw q hn=>?_⟩
    rw [za3 zdE (m:=ns'.map D.int) (fun d hd=>by obtain ⟨z,_,rfl⟩:=mem_map.mp hd; trivial) (p.map _) (pairwise_map.mpr (pw.imp fun {a b} h=>by rw [zce]; exact decide_eq_true h))] at hq
    exact hq _ F _ (Same.refl F) (rel.newLD hn (zbb ns'))
   ·cases e
 | _=>cases e
theorem zju (hg:Gl X "sorted") (hm:X.mg "sorted"=none) (hv:bootBuiltins "sorted"=some (.builtin "sorted")) (ha:FA X (e::es) wa) (he:starEach (e::es) X.env=(false,eval e X.env)::starEach es X.env:=by rfl) (hpl:(backTo pos (starEach es X.env)).any (·.1)=false:=by rfl):FE X (.Call (.Name "sorted" p) (e::es) [] pos) (wB bSortU wa):=
 zbP (fun pn xe=>zgi (X:=wp X pn xe)) zgg hg hm hv ha (by decide) (by decide) he hpl
end
section
variable {X:Cx} {K:W.Frag}
def rIndexL (K:W.Frag):V->List V->Hp->VK->Prop:=fun x vs H Q=>∃ a xs ds y d j,x=.ref a/\vs=[y]/\SqL K H a xs/\Reps K H xs ds/\Rep K H y d/\ixD ds d=some j/\Q (.int j) H
theorem zhG {F:Hp}:∀ {xs:List V} {l:List D},Reps K F xs l->∀ {j:Nat} {v:V},xs[j]?=some v->∃ d,l[j]?=some d/\Rep K F v d
 | _,_,.nil,j,v,h=>by simp at h
 | _,_,.cons a b,0,v,h=>by cases h; exact ⟨_,rfl,a⟩
 | _,_,.cons a b,j + 1,v,h=>zhG b (j:=j) (by simpa using h)
theorem zgX:∀ {xs:List V} {us:List Value},Vals xs us->∀ {j:Nat} {u:Value},us[j]?=some u->∃ v,xs[j]?=some v/\RelV v u
 | _,_,.nil,j,u,h=>by simp at h
 | _,_,.cons a b,0,u,h=>by cases h; exact ⟨_,rfl,a⟩
 | _,_,.cons a b,j + 1,u,h=>zgX b (j:=j) (by simpa using h)
def dOf:Value->Option D
 | .none=>some .non
 | .bool b=>some (.bl b)
 | .int i _=>some (.int i)
 | .str x _=>some (.str x.cps.toList)
 | _=>none
theorem zkH {H:Hp} {v:V} {u:Value} {d:D} (r:Rep K H v d) (ru:RelV v u) (h:isScal d=true):dOf u=some d:=by
 cases r with
 | non=>cases ru; rfl
 | bl b=>cases ru; rfl
 | int i=>obtain ⟨t,rfl⟩:=ru; rfl
 | str e _=>obtain ⟨t,rfl⟩:=ru; rw [<- e]; rfl
 | _=>cases h
open Classical in
theorem zh1:MtM X "list.index" (rIndexL X.K):=by
 intro pins s σ H x vs v us Q I rx rv h
 obtain ⟨a,xs,ds,y,d,j,rfl,rfl,hq,rd,ry,hj,q⟩:=h
 cases rx
 obtain ⟨u,rfl,ru⟩:=rv.one
 obtain ⟨its,r,pl,hz⟩:=I.list hq
 unfold ixD at hj
 split at hj
 ·rename_i hall
  rw [all_eq_true] at hall
  obtain ⟨⟨cls,dd,data,sl⟩,ho,hc,n,hd⟩:=id pl.isList
  simp only at hc hd
  subst hc hd
  have hle:=r.length
  have hle2:=rd.len
  -- each thing of the list against u
  have eqs:∀ (k:Nat) (w':Value),its[k]?=some w'->∃ dk,ds[k]?=some dk/\dOf w'=some dk/\∀ {A:Around},PySem.SeqAt.EqAt A s w' u (decide (dk=d)):=fun k w' hk=>by
   obtain ⟨vk,h1,h2⟩:=zgX r hk
   obtain ⟨dk,h3,h4⟩:=zhG rd h1
   have:=hall dk (mem_of_getElem? h3)
   rw [and_eq_true,Bool.not_eq_true'] at this
   exact ⟨dk,h3,zkH h4 h2 this.1,(zeW h4 ry h2 ru this.2 (fun l e=>by rw [e] at this; cases this.1) (fun l e=>by rw [e] at this; cases this.1)).1⟩
  obtain ⟨hj1,hj2,hj3⟩:=List.findIdx?_eq_some_iff_getElem.mp hj
  have at':∀ m (hm:m < its.toArray.size) (hm2:m < ds.length),decide (dOf its.toArray[m]=some d)=decide (ds[m]=d):=fun m hm hm2=>by
   obtain ⟨dk,h1,h2,_⟩:=eqs m its.toArray[m] (by rw [getElem?_eq_getElem (by simpa using hm)]; simp)
   rw [getElem?_eq_getElem hm2] at h1
   rw [h2,<- Option.some.inj h1]
   simp
  have hjs:j < its.toArray.size:=by rw [size_toArray]; omega
  rw [sizeLine_eq] at hz
  refine call_meets PySem.F.slot_list_index ⟨_,ho,rfl⟩ PySem.F.entry_list_index (PySem.F.args_list_index_2 _ _)
   (PySem.SeqAt.list_indexAt a its.toArray n dd sl u (fun w'=>decide (dOf w'=some d)) j hjs (by omega) ?_ ?_) ⟨ho,fun w' hw=>?_,?_⟩
  ·exact (at' j hjs hj1).trans hj2
  ·intro m hm hlt
   refine (at' m hm (by omega)).trans ?_
   have:=hj3 m hlt
   simpa using this
  ·obtain ⟨k,hk,e⟩:=Array.mem_iff_getElem.mp hw
   obtain ⟨dk,h1,h2,h3⟩:=eqs k w' (by rw [getElem?_eq_getElem (by simpa using hk),<- e]; simp)
   rw [h2]
   have:decide (some dk=some d)=decide (dk=d):=by simp
   rw [this]
   exact h3
  ·exact ⟨.int _,H,I.kept fun _ _ z=>z,⟨_,rfl⟩,q⟩
 ·cases hj
end
section
variable {X:Cx} {e:Expr} {wo:WE} {wa:WA} {o:Expr} {apos cpos:Pos}
theorem zhU (ho:FE X o wo) (ha:FA X [e] wa)
  (hbase:attributeBase o "index" X.env (eval o X.env)=eval o X.env:=by rfl)
  (hfew:((backTo cpos (starEach [e] X.env)).all (fun x=>!x.1) && (backToKw cpos (keywordEach [] X.env)).all (fun x=>x.1.isSome)
   && decide ([e].length + ([]:List Keyword).length + (if ([]:List Keyword).isEmpty then 0 else 1) < 30))=true:=by rfl)
  (hline:(apos.endLine == cpos.line)=true:=by rfl) (hs:starEach [e] X.env=(false,eval e X.env)::starEach [] X.env:=by rfl) (hplain:(backTo cpos (starEach [] X.env)).any (·.1)=false:=by rfl):
  FE X (.Call (.Attribute o "index" apos) [e] [] cpos) (wML mIndexL wo wa):=fun pn xe hp=>by
 refine PE.imp (zgR (X:=wp X pn xe) PySem.F.plainAttrs_list PySem.F.slot_list_index PySem.F.type_list_index zh1 (ho pn xe hp) (ha pn xe hp) hbase hfew hline hs hplain) fun σ H Q q=>?_
 refine (one (k:=fun x U1 Q E=>match x with
  | .v (.sh (.lst l))=>wa U1 (fun rs U2=>need (rs.mapM fun r=>viewC r U2) fun ds=>need (mIndexL l ds) fun s=>Q (.v s) U2) E
  | _=>False) q).mono fun v H1 h1=>?_
 obtain ⟨F,G,U,x,P,PX,rel,hl,rx,hk,hok,hx⟩:=h1
 split at hk
 ·rename_i l
  have rp:Rep X.K F v (.lst l):=by
   obtain ⟨u,fp,e1,q⟩:=rel.at (i:=U.length) (s:=.sh (.lst l)) zaA
   rw [hl,getElem?_append_right (le_refl _),sub_self] at e1
   have e2:v=u:=by simpa using e1
   subst e2
   cases q with
   | sh r=>exact r
  cases rp with
  | lst hq rd=>
    rename_i a xs
    refine ⟨.inl ⟨rfl,xs,SqL.mono rel.fr hq⟩,F,G,U,_,PX,rel.drop hl,hk,fun rs U2 vs F2 H2 hk2 s2 r2 hl2 rvs=>?_,hx⟩
    obtain ⟨ds,ed,hk2⟩:=zad hk2
    obtain ⟨s,es,hk2⟩:=zad hk2
    obtain ⟨F3,s3,re,r3⟩:=takeAll (U':=[]) (σ':=[]) (by simpa using r2) hl2 rvs ed
    obtain ⟨d,v,rfl,rfl⟩:=arg1 (fun x y r=>by cases x <;> rfl) rfl re es
    have es:(ixD l d).map (fun (i:Nat)=>S.sh (.int (i:Int)))=some s:=es
    obtain ⟨i,ei,rfl⟩:=map_eq_some_iff.mp es
    have r3:Rel X.K U2 σ F3 G H2:=by simpa using r3
    have sm:Same F H2:=(s2.trans s3).trans r3.fr
    exact ⟨a,xs,l,v,d,i,rfl,rfl,SqL.mono sm hq,rd.mono sm,re.1.view r3.fr,ei,hok _ U2 _ F3 H2 hk2 (s2.trans s3) (r3.push (.int _)) trivial⟩
 ·exact hk.elim
end
section
variable {K:W.Frag}
theorem zpv {P:Program} {w:World} {mg:Str->Option Value} {base:Heap} {k n:Nat} {f:Addr} {fd:FuncData} {ps:List Str} (hn:ps.length=n):FnOk P w K mg base CX0 k f fd ps (spW K (fun _ _ _=>False) n):=
 ⟨fun vs H Q E h=>by obtain ⟨F,G,ss,P',PX,hl,_⟩:=h; rw [hl,hn],fun A outer s H args us vs Q E _ _ _ _ h=>by obtain ⟨F,G,ss,P',PX,hl,_,h,_⟩:=h; exact h.elim⟩
theorem zjY {P:Program} {w:World} {mg:Str->Option Value} {base:Heap} {k n:Nat} {f:Addr} {fd:FuncData} {ps:List Str} {step:WF->WF} (hn:ps.length=n)
  (h:∀ (r:WF) (j:Nat),(∀ ss P PX,r ss P PX->ss.length=n)->FnOk P w K mg base CX0 (k + j) f fd ps (spW K r n)->FnOk P w K mg base CX0 (k + j + 1) f fd ps (spW K (step r) n))
  (hl:∀ r ss P PX,step r ss P PX->ss.length=n):∀ j,FnOk P w K mg base CX0 (k + j) f fd ps (spW K (wRec step j) n)
 | 0=>zpv hn
 | j + 1=>h _ j (by cases j with | zero=>exact fun _ _ _ z=>z.elim | succ j=>exact hl _) (zjY hn h hl j)
end
end FL
end
section
namespace FL
section
variable {U U1 U2:Env} {Q:WQ} {QT:Bool->Env->Prop} {QA:List R->Env->Prop} {QI:List D->Env->Prop} {QE:Env->Prop} {E:WX} {a b c:WE} {t u:WT} {wa:WA} {r x y:R} {rs:List R} {s:S} {ss:List S} {d p q:D} {i j n m k:Nat} {o:D->D->Option S} {oc oc':D->D->Option Bool}
theorem e_C:wC d U Q E=Q (.v (.sh d)) U:=rfl
def kV (o:Option S) (Q:WQ) (U:Env):Prop:=need o fun s=>Q (.v s) U
theorem e_V:kV (some s) Q U=Q (.v s) U:=rfl
def kBin3 (o:D->D->Option S) (x y:Option D) (Q:WQ) (U:Env):Prop:=need x fun p=>need y fun q=>kV (o p q) Q U
def kBin2 (o:D->D->Option S) (x:R) (Q:WQ):WQ:=fun y U2=>kBin3 o (viewC x U2) (viewC y U2) Q U2
def kBin1 (o:D->D->Option S) (b:WE) (Q:WQ) (E:WX):WQ:=fun x U1=>b U1 (kBin2 o x Q) E
theorem zql:wBin o a b U Q E=a U (kBin1 o b Q E) E:=rfl
theorem zmn:kBin1 o b Q E x U=b U (kBin2 o x Q) E:=rfl
theorem zmv:kBin3 o (some p) (some q) Q U=kV (o p q) Q U:=rfl
def kUn2 (o:D->Option S) (x:Option D) (Q:WQ) (U:Env):Prop:=need x fun p=>kV (o p) Q U
def kUn (o:D->Option S) (Q:WQ):WQ:=fun x U=>kUn2 o (viewC x U) Q U
theorem e_Un {o:D->Option S}:wUn o a U Q E=a U (kUn o Q) E:=rfl
theorem zo9 {o:D->Option S}:kUn o Q x U=kUn2 o (viewC x U) Q U:=rfl
theorem zps {o:D->Option S}:kUn2 o (some p) Q U=kV (o p) Q U:=rfl
def kC (o:Option Bool) (Q:Bool->Env->Prop) (U:Env):Prop:=need o fun c=>Q c U
theorem e_Ck {c:Bool}:kC (some c) QT U=QT c U:=rfl
def kCmp3 (o:D->D->Option Bool) (x y:Option D) (Q:Bool->Env->Prop) (U:Env):Prop:=need x fun p=>need y fun q=>kC (o p q) Q U
def kCmp2 (o:D->D->Option Bool) (x:R) (Q:Bool->Env->Prop):WQ:=fun y U2=>kCmp3 o (view x U2) (view y U2) Q U2
def kCmp1 (o:D->D->Option Bool) (b:WE) (Q:Bool->Env->Prop) (E:WX):WQ:=fun x U1=>b U1 (kCmp2 o x Q) E
theorem zqa:wCmp oc a b U QT E=a U (kCmp1 oc b QT E) E:=rfl
theorem zn3:kCmp1 oc b QT E x U=b U (kCmp2 oc x QT) E:=rfl
theorem zl6:kCmp3 oc (some p) (some q) QT U=kC (oc p q) QT U:=rfl
def kTest2 (x:Option D) (Q:Bool->Env->Prop) (U:Env):Prop:=need x fun p=>kC (truth p) Q U
def kTest (Q:Bool->Env->Prop):WQ:=fun x U=>kTest2 (view x U) Q U
theorem zmL:wTest a U QT E=a U (kTest QT) E:=rfl
theorem zkA:kTest QT x U=kTest2 (view x U) QT U:=rfl
theorem zkq:kTest2 (some p) QT U=kC (truth p) QT U:=rfl
def kAnd (b:WT) (Q:Bool->Env->Prop) (E:WX):Bool->Env->Prop:=fun c U1=>if c then b U1 Q E else Q false U1
theorem zqN:wtAnd t u U QT E=t U (kAnd u QT E) E:=rfl
theorem zmT:kAnd u QT E true U=u U QT E:=rfl
theorem zmG:kAnd u QT E false U=QT false U:=rfl
def kOr (b:WT) (Q:Bool->Env->Prop) (E:WX):Bool->Env->Prop:=fun c U1=>if c then Q true U1 else b U1 Q E
theorem e_Or:wtOr t u U QT E=t U (kOr u QT E) E:=rfl
theorem zpN:kOr u QT E false U=u U QT E:=rfl
def kNot (Q:Bool->Env->Prop):Bool->Env->Prop:=fun c U1=>Q (!c) U1
theorem zoZ:wtNot t U QT E=t U (kNot QT) E:=rfl
theorem zny {c:Bool}:kNot QT c U=QT (!c) U:=rfl
def kOfT (Q:WQ):Bool->Env->Prop:=fun c U1=>Q (.v (.sh (.bl c))) U1
theorem zpR:wOfT t U Q E=t U (kOfT Q) E:=rfl
theorem zm7 {c:Bool}:kOfT Q c U=Q (.v (.sh (.bl c))) U:=rfl
def kNotV2 (x:Option D) (Q:WQ) (U:Env):Prop:=need x fun p=>need (truth p) fun c=>Q (.v (.sh (.bl (!c)))) U
def kNotV (Q:WQ):WQ:=fun x U=>kNotV2 (view x U) Q U
theorem zm5:wNotV a U Q E=a U (kNotV Q) E:=rfl
theorem zkr:kNotV Q x U=kNotV2 (view x U) Q U:=rfl
theorem zkC {c:Bool}:kNotV2 (some (.bl c)) Q U=Q (.v (.sh (.bl (!c)))) U:=rfl
def kAndV2 (x:Option D) (b:WE) (Q:WQ) (E:WX) (U:Env):Prop:=match x with | some (.bl c)=>if c then b U Q E else Q (.v (.sh (.bl false))) U | _=>False
def kAndV (b:WE) (Q:WQ) (E:WX):WQ:=fun x U=>kAndV2 (view x U) b Q E U
theorem zmp:wAndV a b U Q E=a U (kAndV b Q E) E:=rfl
theorem zkE:kAndV b Q E x U=kAndV2 (view x U) b Q E U:=rfl
theorem zkY:kAndV2 (some (.bl true)) b Q E U=b U Q E:=rfl
theorem zo4:wNil U QA E=QA [] U:=rfl
def kCons2 (r:R) (Q:List R->Env->Prop):List R->Env->Prop:=fun rs U=>Q (r::rs) U
def kCons1 (b:WA) (Q:List R->Env->Prop) (E:WX):WQ:=fun r U1=>b U1 (kCons2 r Q) E
theorem znK:wCons a wa U QA E=a U (kCons1 wa QA E) E:=rfl
theorem zk4:kCons1 wa QA E r U=wa U (kCons2 r QA) E:=rfl
theorem zla:kCons2 r QA rs U=QA (r::rs) U:=rfl
def gA2 (s:S):Option (List S×Env)->Option (List S×Env)
 | some (ss,U)=>some (s::ss,U)
 | none=>none
def gA1 (rs:List R):Option (S×Env)->Option (List S×Env)
 | some (s,U)=>gA2 s (giveAll rs U)
 | none=>none
theorem zqD:giveAll [] U=some ([],U):=rfl
theorem e_gA:giveAll (r::rs) U=gA1 rs (give r U):=by
 rw [giveAll]; unfold gA1
 cases give r U with
 | none=>rfl
 | some z=>obtain ⟨s,U1⟩:=z; show (match giveAll rs U1 with | some (ss,U2)=>some (s::ss,U2) | none=>none)=gA2 s (giveAll rs U1); unfold gA2; rfl
theorem zq8:gA1 rs (some (s,U))=gA2 s (giveAll rs U):=rfl
theorem zoX:gA2 s (some (ss,U))=some (s::ss,U):=rfl
def gv (i:Nat) (U:Env):Option S->Option (S×Env)
 | some s=>some (.sh s.toD,U.set i (some (.sh s.toD)))
 | none=>none
theorem e_gv:give (.v s) U=some (s,U):=rfl
theorem e_gl:give (.loc i) U=gv i U (slot U i):=by unfold give gv; rfl
theorem zra:gv i U (some s)=some (.sh s.toD,U.set i (some (.sh s.toD))):=rfl
def kTup2 (l:Bool) (x:Option (List S×Env)) (Q:WQ):Prop:=need (if l then x else none) fun p=>Q (.v (.sh (.tup (p.1.map S.toD)))) p.2
def kLst2 (l:Bool) (x:Option (List S×Env)) (Q:WQ):Prop:=need (if l then x else none) fun p=>Q (.v (.lst p.1)) p.2
def lenOk (rs:List R):Bool:=decide (rs.length<=big)
def kTup (Q:WQ):List R->Env->Prop:=fun rs U=>kTup2 (lenOk rs) (giveAll rs U) Q
def kLst (Q:WQ):List R->Env->Prop:=fun rs U=>kLst2 (lenOk rs) (giveAll rs U) Q
theorem zqn:wTup wa U Q E=wa U (kTup Q) E:=by unfold wTup kTup kTup2 lenOk; simp
theorem zmq:kTup Q rs U=kTup2 (lenOk rs) (giveAll rs U) Q:=rfl
theorem zmV:kTup2 true (some (ss,U)) Q=Q (.v (.sh (.tup (ss.map S.toD)))) U:=rfl
theorem zoS:wLst wa U Q E=wa U (kLst Q) E:=by unfold wLst kLst kLst2 lenOk; simp
theorem znk:kLst Q rs U=kLst2 (lenOk rs) (giveAll rs U) Q:=rfl
theorem znL:kLst2 true (some (ss,U)) Q=Q (.v (.lst ss)) U:=rfl
theorem e_l0:lenOk []=true:=rfl
theorem e_l1 {r1:R}:lenOk [r1]=true:=rfl
theorem e_l2 {r1 r2:R}:lenOk [r1,r2]=true:=rfl
theorem e_l3 {r1 r2 r3:R}:lenOk [r1,r2,r3]=true:=rfl
theorem e_l4 {r1 r2 r3 r4:R}:lenOk [r1,r2,r3,r4]=true:=rfl
theorem e_l5 {r1 r2 r3 r4 r5:R}:lenOk [r1,r2,r3,r4,r5]=true:=rfl
theorem e_vv:view (.v s) U=some s.toD:=rfl
theorem e_vl:view (.loc i) U=(slot U i).map S.toD:=rfl
theorem e_cv:viewC (.v s) U=some s.toD:=rfl
def vC:Option S->Option D
 | some s=>if s.flat then some s.toD else none
 | none=>none
theorem e_cl:viewC (.loc i) U=vC (slot U i):=by unfold viewC vC; rfl
theorem znC {l:List S} (h:l.all S.isSh=true):vC (some (.lst l))=some (.lst (l.map S.toD)):=by
 show (if l.all S.isSh=true then some (S.toD (.lst l)) else none)=_
 rw [if_pos h,S.toD_lst]
theorem e_sh {l:List D}:(l.map S.sh).all S.isSh=true:=by simp [S.isSh]
theorem zav {l:List D}:(l.map S.sh).map S.toD=l:=by
 rw [map_map]; exact map_id l
theorem zqm {l:List D}:vC (some (.lst (l.map S.sh)))=some (.lst l):=by rw [znC e_sh,zav]
def kIx5 (o:Option S) (Q:WQ) (U:Env):Prop:=match o with | some (.sh d)=>Q (.v (.sh d)) U | _=>False
def kIx4 (o:Option S) (q:D) (Q:WQ) (U:Env):Prop:=match o with | some s=>kIx5 (ixS s q) Q U | none=>False
def kIx3 (x:R) (o:Option D) (Q:WQ) (U:Env):Prop:=need o fun q=>match x with | .v s=>kV (ixS s q) Q U | .loc i=>kIx4 (slot U i) q Q U
def kIx2 (x:R) (Q:WQ):WQ:=fun y U2=>kIx3 x (view y U2) Q U2
def kIx1 (b:WE) (Q:WQ) (E:WX):WQ:=fun x U1=>b U1 (kIx2 x Q) E
theorem e_Ix:wIx a b U Q E=a U (kIx1 b Q E) E:=by
 unfold wIx kIx1 kIx2 kIx3 kIx4 kIx5 kV
 rfl
theorem zqt:kIx1 b Q E x U=b U (kIx2 x Q) E:=rfl
theorem zp1:kIx2 x Q y U=kIx3 x (view y U) Q U:=rfl
theorem zn5:kIx3 (.v s) (some q) Q U=kV (ixS s q) Q U:=rfl
theorem zlR:kIx3 (.loc i) (some q) Q U=kIx4 (slot U i) q Q U:=rfl
theorem zoV:kIx4 (some s) q Q U=kIx5 (ixS s q) Q U:=rfl
theorem zo7:kIx5 (some (.sh d)) Q U=Q (.v (.sh d)) U:=rfl
theorem zo0 {l:List D} {z:Int}:ixS (.sh (.tup l)) (.int z)=(atI l z).map S.sh:=rfl
theorem zoB {l:List D} {z:Int}:ixS (.sh (.lst l)) (.int z)=(atI l z).map S.sh:=rfl
theorem zqG {l:List Nat} {z:Int}:ixS (.sh (.str l)) (.int z)=(atI l z).map fun c=>S.sh (.str [c]):=rfl
theorem zqV {l:List S} {z:Int}:ixS (.lst l) (.int z)=atI l z:=rfl
theorem zbu {α:Type} {l:List α} {z:Int} {v:α} (h0:0<=z) (h:l[z.toNat]?=some v):atI l z=some v:=by
 have:z.toNat < l.length:=(List.getElem?_eq_some_iff.mp h).1
 unfold atI ixN
 rw [if_pos h0,if_pos (by omega)]
 exact h
theorem zqA {α:Type} {v:α} {l:List α}:atI (v::l) 0=some v:=zbu (by decide) rfl
theorem zpt {α:Type} {v1 v:α} {l:List α}:atI (v1::v::l) 1=some v:=zbu (by decide) rfl
theorem zpg {α:Type} {v1 v2 v:α} {l:List α}:atI (v1::v2::v::l) 2=some v:=zbu (by decide) rfl
theorem zq3 {α:Type} {v1 v2 v3 v:α} {l:List α}:atI (v1::v2::v3::v::l) 3=some v:=zbu (by decide) rfl
theorem zpb {α:Type} {v1 v2 v3 v4 v:α} {l:List α}:atI (v1::v2::v3::v4::v::l) 4=some v:=zbu (by decide) rfl
def pA (s:S):Option (List S×Env)->Option (List S×Env)
 | some (ss,U)=>some (s::ss,U)
 | none=>none
theorem e_p0 {ms:List Bool}:prep ms [] U=some ([],U):=by cases ms <;> rfl
theorem e_pv {h:Bool} {ms:List Bool}:prep (h::ms) (.v s::rs) U=pA s (prep ms rs U):=by rw [prep]; unfold pA; rfl
def pL (i:Nat) (o:Option S) (ms:List Bool) (rs:List R) (U:Env):Option (List S×Env):=match o with
 | some s=>pA s (prep ms rs (U.set i none))
 | none=>none
theorem e_pl {ms:List Bool}:prep (true::ms) (.loc i::rs) U=pL i (slot U i) ms rs U:=by
 rw [prep]; unfold pL pA
 cases slot U i <;> rfl
theorem zqQ {ms:List Bool}:pL i (some s) ms rs U=pA s (prep ms rs (U.set i none)):=rfl
theorem e_pA:pA s (some (ss,U))=some (s::ss,U):=rfl
theorem e_b0 {ms:List Bool}:back ms [] ss U=U:=by unfold back; cases ss <;> rfl
theorem e_bv {h:Bool} {ms:List Bool} {s t:S}:back (h::ms) (.v s::rs) (t::ss) U=back ms rs ss U:=by rw [back]; rfl
theorem e_bl {ms:List Bool} {t:S}:back (true::ms) (.loc i::rs) (t::ss) U=back ms rs ss (U.set i (some t)):=by rw [back]; rfl
def kCret (ms:List Bool) (rs:List R) (U:Env) (Q:WQ):S->List S->Prop:=fun s ss=>Q (.v s) (back ms rs ss U)
def kCex (ms:List Bool) (rs:List R) (U:Env) (E:WX):D->List S->Prop:=fun x ss=>E x (back ms rs ss U)
def kCall2 (f:WF) (ms:List Bool) (rs:List R) (o:Option (List S×Env)) (Q:WQ) (E:WX):Prop:=need o fun p=>f p.1 (kCret ms rs p.2 Q) (kCex ms rs p.2 E)
def kCall (f:WF) (ms:List Bool) (Q:WQ) (E:WX):List R->Env->Prop:=fun rs U=>kCall2 f ms rs (prep ms rs U) Q E
theorem zn4 {f:WF} {ms:List Bool}:wCall f ms wa U Q E=wa U (kCall f ms Q E) E:=rfl
theorem zlv {f:WF} {ms:List Bool}:kCall f ms Q E rs U=kCall2 f ms rs (prep ms rs U) Q E:=rfl
theorem zkF {f:WF} {ms:List Bool}:kCall2 f ms rs (some (ss,U)) Q E=f ss (kCret ms rs U Q) (kCex ms rs U E):=rfl
theorem zmu {ms:List Bool}:kCret ms rs U Q s ss=Q (.v s) (back ms rs ss U):=rfl
def vA:Option D->Option (List D)->Option (List D)
 | some d,some ds=>some (d::ds)
 | _,_=>none
def vAll (rs:List R) (U:Env):Option (List D):=match rs with
 | []=>some []
 | r::rs=>vA (viewC r U) (vAll rs U)
theorem zdu:∀ rs:List R,(rs.mapM fun r=>viewC r U)=vAll rs U
 | []=>rfl
 | r::rs=>by
   rw [List.mapM_cons,zdu rs,vAll]
   cases viewC r U with
   | none=>rfl
   | some d=>cases vAll rs U <;> rfl
theorem zon:vAll [] U=some []:=rfl
theorem e_vA:vAll (r::rs) U=vA (viewC r U) (vAll rs U):=rfl
theorem zpT {ds:List D}:vA (some d) (some ds)=some (d::ds):=rfl
def kB2 (f:List D->Option S) (o:Option (List D)) (Q:WQ) (U:Env):Prop:=need o fun ds=>kV (f ds) Q U
def kB (f:List D->Option S) (Q:WQ):List R->Env->Prop:=fun rs U=>kB2 f (vAll rs U) Q U
theorem e_B {f:List D->Option S}:wB f wa U Q E=wa U (kB f Q) E:=by
 unfold wB kB kB2 kV
 simp only [zdu]
theorem e_B1 {f:List D->Option S}:kB f Q rs U=kB2 f (vAll rs U) Q U:=rfl
theorem e_B2 {f:List D->Option S} {ds:List D}:kB2 f (some ds) Q U=kV (f ds) Q U:=rfl
def kMS2 (f:List Nat->List D->Option S) (l:List Nat) (Q:WQ):List R->Env->Prop:=fun rs U=>kB2 (f l) (vAll rs U) Q U
def kMS (f:List Nat->List D->Option S) (wa:WA) (Q:WQ) (E:WX):WQ:=fun x U=>match x with
 | .v (.sh (.str l))=>wa U (kMS2 f l Q) E
 | _=>False
theorem e_MS {f:List Nat->List D->Option S}:wMS f a wa U Q E=a U (kMS f wa Q E) E:=by
 unfold wMS kMS kMS2 kB2 kV
 simp only [zdu]
 all_goals rfl
theorem zpW {f:List Nat->List D->Option S} {l:List Nat}:kMS f wa Q E (.v (.sh (.str l))) U=wa U (kMS2 f l Q) E:=rfl
theorem zqI {f:List Nat->List D->Option S} {l:List Nat}:kMS2 f l Q rs U=kB2 (f l) (vAll rs U) Q U:=rfl
def kAp4 (j:Nat) (s:S) (o:Option S) (U:Env) (Q:WQ):Prop:=match o with
 | some (.lst l)=>l.length < big/\Q (.v (.sh .non)) (U.set j (some (.lst (l++[s]))))
 | _=>False
def kAp3 (j:Nat) (o:Option (S×Env)) (Q:WQ):Prop:=need o fun p=>kAp4 j p.1 (slot p.2 j) p.2 Q
def kAp2 (j:Nat) (Q:WQ):WQ:=fun r U=>kAp3 j (give r U) Q
def kAp (j:Nat) (o:Option S) (a:WE) (U:Env) (Q:WQ) (E:WX):Prop:=match o with
 | some (.lst _)=>a U (kAp2 j Q) E
 | _=>False
theorem e_Ap:wAppend j a U Q E=kAp j (slot U j) a U Q E:=by unfold wAppend kAp kAp2 kAp3 kAp4; rfl
theorem zpo {l:List S}:kAp j (some (.lst l)) a U Q E=a U (kAp2 j Q) E:=rfl
theorem zp3:kAp2 j Q r U=kAp3 j (give r U) Q:=rfl
theorem zp6:kAp3 j (some (s,U)) Q=kAp4 j s (slot U j) U Q:=rfl
theorem zqL {l:List S}:kAp4 j s (some (.lst l)) U Q=(l.length < big/\Q (.v (.sh .non)) (U.set j (some (.lst (l++[s]))))):=rfl
def kPop3 (j:Nat) (o:Option D) (p:Option S) (U:Env) (Q:WQ):Prop:=match o,p with
 | some (.int i),some (.lst l)=>need (if l.length<=big then ixN l.length i else none) fun k=>need l[k]? fun s=>Q (.v s) (U.set j (some (.lst (l.eraseIdx k))))
 | _,_=>False
def kPop2 (j:Nat) (Q:WQ):WQ:=fun r U=>kPop3 j (view r U) (slot U j) U Q
def kPop (j:Nat) (o:Option S) (a:WE) (U:Env) (Q:WQ) (E:WX):Prop:=match o with
 | some (.lst _)=>a U (kPop2 j Q) E
 | _=>False
theorem zo3:wPopAt j a U Q E=kPop j (slot U j) a U Q E:=by unfold wPopAt kPop kPop2 kPop3; rfl
theorem znH {l:List S}:kPop j (some (.lst l)) a U Q E=a U (kPop2 j Q) E:=rfl
theorem zmZ:kPop2 j Q r U=kPop3 j (view r U) (slot U j) U Q:=rfl
theorem zj1 {l:List S} {z:Int} (h0:0<=z) (hb:l.length<=big) (h:l[z.toNat]?=some s) (hq:Q (.v s) (U.set j (some (.lst (l.eraseIdx z.toNat))))):kPop3 j (some (.int z)) (some (.lst l)) U Q:=by
 have:z.toNat < l.length:=(List.getElem?_eq_some_iff.mp h).1
 have e:(if l.length<=big then ixN l.length z else none)=some z.toNat:=by
  unfold ixN
  rw [if_pos hb,if_pos h0,if_pos (by omega)]
 show need (if l.length<=big then ixN l.length z else none) _
 rw [e,zbG,h]
 exact hq
def kIsI2 (T:String) (o:Option D) (Q:WQ) (U:Env):Prop:=need o fun d=>Q (.v (.sh (.bl (isTy T d)))) U
def kIsI (T:String) (Q:WQ):WQ:=fun x U=>kIsI2 T (view x U) Q U
theorem zq7 {T:String}:wIsI T a U Q E=a U (kIsI T Q) E:=rfl
theorem zlS {T:String}:kIsI T Q x U=kIsI2 T (view x U) Q U:=rfl
theorem zmh {T:String}:kIsI2 T (some d) Q U=Q (.v (.sh (.bl (isTy T d)))) U:=rfl
def kDi3 (o:Option D) (p:Option (S×Env)) (Q:WQ):Prop:=need o fun q=>need p fun p=>isKey1 q=true/\Q (.v (.dct false [q] [p.1])) p.2
def kDi2 (x:R) (Q:WQ):WQ:=fun y U=>kDi3 (view x U) (give y U) Q
def kDi1 (v:WE) (Q:WQ) (E:WX):WQ:=fun x U=>v U (kDi2 x Q) E
theorem e_Di:wDisp1 a b U Q E=a U (kDi1 b Q E) E:=rfl
theorem zoq:kDi1 b Q E x U=b U (kDi2 x Q) E:=rfl
theorem zot:kDi2 x Q y U=kDi3 (view x U) (give y U) Q:=rfl
theorem zoP:kDi3 (some q) (some (s,U)) Q=(isKey1 q=true/\Q (.v (.dct false [q] [s])) U):=rfl
theorem znb {z:Int}:isKey1 (.int z)=true:=rfl
def kPt2 (o:Option D) (Q:Option Int->Env->Prop) (U:Env):Prop:=match o with | some (.int i)=>Q (some i) U | _=>False
def kPt (Q:Option Int->Env->Prop):WQ:=fun x U=>kPt2 (view x U) Q U
theorem zoM {Q:Option Int->Env->Prop}:wPart none U Q E=Q none U:=rfl
theorem e_Pt {Q:Option Int->Env->Prop}:wPart (some a) U Q E=a U (kPt Q) E:=rfl
theorem zq9 {Q:Option Int->Env->Prop}:kPt Q x U=kPt2 (view x U) Q U:=rfl
theorem zp2 {Q:Option Int->Env->Prop} {z:Int}:kPt2 (some (.int z)) Q U=Q (some z) U:=rfl
def kSl3 (o:Option D) (l h:Option Int) (Q:WQ) (U:Env):Prop:=need o fun d=>kV (slD d l h) Q U
def kSl2 (x:R) (l:Option Int) (Q:WQ):Option Int->Env->Prop:=fun h U=>kSl3 (viewC x U) l h Q U
def kSl1 (x:R) (hi:Option WE) (Q:WQ) (E:WX):Option Int->Env->Prop:=fun l U=>wPart hi U (kSl2 x l Q) E
def kSl (lo hi:Option WE) (Q:WQ) (E:WX):WQ:=fun x U=>wPart lo U (kSl1 x hi Q E) E
theorem e_Sl {lo hi:Option WE}:wSl a lo hi U Q E=a U (kSl lo hi Q E) E:=rfl
theorem zq0 {lo hi:Option WE}:kSl lo hi Q E x U=wPart lo U (kSl1 x hi Q E) E:=rfl
theorem zqE {hi:Option WE} {l:Option Int}:kSl1 x hi Q E l U=wPart hi U (kSl2 x l Q) E:=rfl
theorem zpd {l h:Option Int}:kSl2 x l Q h U=kSl3 (viewC x U) l h Q U:=rfl
theorem zqJ {l h:Option Int}:kSl3 (some d) l h Q U=kV (slD d l h) Q U:=rfl
end
section
variable {U U1 U2:Env} {K:Env->Prop} {QI:List D->Env->Prop} {QE:Env->Prop} {E:WX} {Q:WQ} {D':Ends} {a b:WE} {v w:WS} {t:WT} {r x y:R} {s:S} {ss:List S} {d q:D} {i j n m:Nat} {g:WG}
def wNx (D:Ends) (k:Env->Prop):Ends:={ D with nx:=k }
theorem e_nx:(wNx D' K).nx=K:=rfl
theorem e_rt:(wNx D' K).rt=D'.rt:=rfl
theorem e_ex:(wNx D' K).ex=D'.ex:=rfl
theorem znf:wPass D' U=D'.nx U:=rfl
theorem zoR:wSeq v w D' U=v (wNx D' (w D')) U:=rfl
def kIf (a b:WS) (D:Ends):Bool->Env->Prop:=fun k U=>if k then a D U else b D U
theorem e_If:wIf t v w D' U=t U (kIf v w D') D'.ex:=rfl
theorem zp4:kIf v w D' true U=v D' U:=rfl
theorem zqq:kIf v w D' false U=w D' U:=rfl
theorem zoF:wRet a D' U=a U D'.rt D'.ex:=rfl
def kEx (D:Ends):WQ:=fun _ U=>D.nx U
theorem zmR:wExpr a D' U=a U (kEx D') D'.ex:=rfl
theorem zkV:kEx D' r U=D'.nx U:=rfl
def kAsg2 (g:WG) (D:Ends) (o:Option (S×Env)):Prop:=need o fun p=>g p.1 p.2 D.nx
def kAsg (g:WG) (D:Ends):WQ:=fun r U=>kAsg2 g D (give r U)
theorem zpP:wAsg g a D' U=a U (kAsg g D') D'.ex:=rfl
theorem zmw:kAsg g D' r U=kAsg2 g D' (give r U):=rfl
theorem zmX:kAsg2 g D' (some (s,U))=g s U D'.nx:=rfl
theorem e_gN:gName i s U K=K (U.set i (some s)):=rfl
def kGT (gs:List WG) (d:D) (U:Env) (Q:Env->Prop):Prop:=match d with | .tup ds=>ds.length=gs.length/\gTups gs ds U Q | _=>False
theorem e_gT {gs:List WG}:gTup gs s U K=kGT gs s.toD U K:=rfl
theorem zow {gs:List WG} {ds:List D}:kGT gs (.tup ds) U K=(ds.length=gs.length/\gTups gs ds U K):=rfl
def kGTs (gs:List WG) (ds:List D) (Q:Env->Prop):Env->Prop:=fun U=>gTups gs ds U Q
theorem zpK:gTups [] [] U K=K U:=rfl
theorem zo8 {gs:List WG} {ds:List D}:gTups (g::gs) (d::ds) U K=g (.sh d) U (kGTs gs ds K):=rfl
theorem zoT {gs:List WG} {ds:List D}:kGTs gs ds K U=gTups gs ds U K:=rfl
def kSet5 (j:Nat) (D:Ends) (x:R) (q:FL.D) (s:S) (o:Option S) (U:Env):Prop:=match x,q,o with
 | .loc k,.int n,some (.lst l)=>k=j/\need (ixN l.length n) fun m=>D.nx (U.set j (some (.lst (l.set m s))))
 | _,_,_=>False
def kSet4 (j:Nat) (D:Ends) (x:R) (o:Option FL.D) (p:Option (S×Env)):Prop:=need o fun q=>need p fun p=>kSet5 j D x q p.1 (slot p.2 j) p.2
def kSet3 (j:Nat) (D:Ends) (r x:R):WQ:=fun y U=>kSet4 j D x (view y U) (give r U)
def kSet2 (j:Nat) (i:WE) (D:Ends) (r:R):WQ:=fun x U=>i U (kSet3 j D r x) D.ex
def kSet1 (j:Nat) (i:WE) (D:Ends):WQ:=fun r U=>wVar j U (kSet2 j i D r) D.ex
theorem zqR:wSetIx j a b D' U=b U (kSet1 j a D') D'.ex:=by unfold wSetIx kSet1 kSet2 kSet3 kSet4 kSet5; rfl
theorem znO:kSet1 j a D' r U=wVar j U (kSet2 j a D' r) D'.ex:=rfl
theorem zlW:kSet2 j a D' r x U=a U (kSet3 j D' r x) D'.ex:=rfl
theorem zne:kSet3 j D' r x y U=kSet4 j D' x (view y U) (give r U):=rfl
theorem zmI:kSet4 j D' x (some q) (some (s,U))=kSet5 j D' x q s (slot U j) U:=rfl
theorem zjX {l:List S} {z:Int} (h0:0<=z) (h1:z < l.length):kSet5 j D' (.loc j) (.int z) s (some (.lst l)) U=D'.nx (U.set j (some (.lst (l.set z.toNat s)))):=by
 show (j=j/\need (ixN l.length z) _)=_
 unfold ixN
 rw [if_pos h0,if_pos h1,zbG]
 simp
theorem zlM {s0 s1:S}:kSet5 j D' (.loc j) (.int 0) s (some (.lst [s0,s1])) U=D'.nx (U.set j (some (.lst [s,s1]))):=zjX (by decide) (by show (0:Int) < 2; decide)
theorem zlA {s0 s1:S}:kSet5 j D' (.loc j) (.int 1) s (some (.lst [s0,s1])) U=D'.nx (U.set j (some (.lst [s0,s]))):=zjX (by decide) (by show (1:Int) < 2; decide)
noncomputable def kDp5 (j:Nat) (D:Ends) (q:FL.D) (s:S) (o:Option S) (U:Env):Prop:=match o with
 | some (.dct t ks l)=>isKey t q=true/\ks.Nodup/\ks.length < big/\D.nx (U.set j (some (dputS t ks l q s)))
 | _=>False
noncomputable def kDp4 (j:Nat) (D:Ends) (x:R) (o:Option FL.D) (p:Option (S×Env)):Prop:=need o fun q=>need p fun p=>match x with
 | .loc k=>k=j/\kDp5 j D q p.1 (slot p.2 j) p.2
 | _=>False
noncomputable def kDp3 (j:Nat) (D:Ends) (r x:R):WQ:=fun y U=>kDp4 j D x (view y U) (give r U)
noncomputable def kDp2 (j:Nat) (i:WE) (D:Ends) (r:R):WQ:=fun x U=>i U (kDp3 j D r x) D.ex
noncomputable def kDp1 (j:Nat) (i:WE) (D:Ends):WQ:=fun r U=>wVar j U (kDp2 j i D r) D.ex
theorem e_Dp:wDput j a b D' U=b U (kDp1 j a D') D'.ex:=by
 have e:(fun (r:R) (U1:Env)=>wVar j U1 (fun x U2=>a U2 (fun y U3=>need (view y U3) fun q=>need (give r U3) fun p=>match x,slot p.2 j with
  | .loc k,some (.dct t ks l)=>k=j/\isKey t q=true/\ks.Nodup/\ks.length < big/\D'.nx (p.2.set j (some (dputS t ks l q p.1)))
  | _,_=>False) D'.ex) D'.ex)=kDp1 j a D':=by
  funext r U1
  unfold kDp1 kDp2 kDp3 kDp4 kDp5
  congr 1
  funext x U2
  congr 1
  funext y U3
  cases view y U3 with
  | none=>rfl
  | some q=>
    cases give r U3 with
    | none=>rfl
    | some p=>
      simp only [zbG]
      cases x with
      | v s=>cases slot p.2 j <;> rfl
      | loc k=>
        cases slot p.2 j with
        | none=>simp
        | some s=>
          cases s with
          | dct t ks l=>simp
          | _=>simp
 exact congrArg (fun z=>b U z D'.ex) e
theorem zpL:kDp1 j a D' r U=wVar j U (kDp2 j a D' r) D'.ex:=rfl
theorem zof:kDp2 j a D' r x U=a U (kDp3 j D' r x) D'.ex:=rfl
theorem zqb:kDp3 j D' r x y U=kDp4 j D' x (view y U) (give r U):=rfl
theorem zqB:kDp4 j D' (.loc j) (some q) (some (s,U))=kDp5 j D' q s (slot U j) U:=by show (j=j/\_)=_; simp
theorem zqd {ks:List D} {l:List S}:kDp5 j D' q s (some (.dct false ks l)) U=(isKey1 q=true/\ks.Nodup/\ks.length < big/\D'.nx (U.set j (some (dputS false ks l q s)))):=rfl
def kIt3 (o:Option (List D)) (U:Env) (Q:List D->Env->Prop):Prop:=need o fun l=>Q l U
def kIt2 (o:Option (S×Env)) (Q:List D->Env->Prop):Prop:=need o fun p=>kIt3 (items p.1.toD) p.2 Q
def kIt (Q:List D->Env->Prop):WQ:=fun r U=>kIt2 (give r U) Q
theorem e_It:wIter a U QI E=a U (kIt QI) E:=rfl
theorem zq5:kIt QI r U=kIt2 (give r U) QI:=rfl
theorem zpC:kIt2 (some (s,U)) QI=kIt3 (items s.toD) U QI:=rfl
theorem zox {l:List D}:kIt3 (some l) U QI=QI l U:=rfl
theorem zom {l:List D}:items (.lst l)=some l:=rfl
theorem zqe {l:List D}:items (.tup l)=some l:=rfl
def kEn3 (o:Option (List D)) (U:Env) (Q:List D->Env->Prop):Prop:=need o fun l=>Q (enumF 0 l) U
def kEn2 (o:Option (S×Env)) (Q:List D->Env->Prop):Prop:=need o fun p=>kEn3 (items p.1.toD) p.2 Q
def kEn (Q:List D->Env->Prop):WQ:=fun r U=>kEn2 (give r U) Q
theorem e_En:wEnum a U QI E=a U (kEn QI) E:=rfl
theorem zqr:kEn QI r U=kEn2 (give r U) QI:=rfl
theorem zos:kEn2 (some (s,U)) QI=kEn3 (items s.toD) U QI:=rfl
theorem zoH {l:List D}:kEn3 (some l) U QI=QI (enumF 0 l) U:=rfl
def kZi4 (o p:Option (List D)) (U:Env) (Q:List D->Env->Prop):Prop:=need o fun l=>need p fun m=>Q (zipD l m) U
def kZi3 (s:S) (o:Option (S×Env)) (Q:List D->Env->Prop):Prop:=need o fun q=>kZi4 (items s.toD) (items q.1.toD) q.2 Q
def kZi2 (t:R) (o:Option (S×Env)) (Q:List D->Env->Prop):Prop:=need o fun p=>kZi3 p.1 (give t p.2) Q
def kZi1 (r:R) (Q:List D->Env->Prop):WQ:=fun t U=>kZi2 t (give r U) Q
def kZi (b:WE) (Q:List D->Env->Prop) (E:WX):WQ:=fun r U=>b U (kZi1 r Q) E
theorem e_Zi:wZip a b U QI E=a U (kZi b QI E) E:=rfl
theorem zoG:kZi b QI E r U=b U (kZi1 r QI) E:=rfl
theorem zoC:kZi1 r QI x U=kZi2 x (give r U) QI:=rfl
theorem zph:kZi2 x (some (s,U)) QI=kZi3 s (give x U) QI:=rfl
theorem zqF {s':S}:kZi3 s' (some (s,U)) QI=kZi4 (items s'.toD) (items s.toD) U QI:=rfl
theorem zq4 {l m:List D}:kZi4 (some l) (some m) U QI=QI (zipD l m) U:=rfl
def kR1b (o:Option D) (Q:List D->Env->Prop) (U:Env):Prop:=match o with | some (.int j)=>(-big<=j/\j<=big)/\Q (fromTo 0 j.toNat) U | _=>False
def kR1 (Q:List D->Env->Prop):WQ:=fun r U=>kR1b (view r U) Q U
theorem e_R1:wRange1 a U QI E=a U (kR1 QI) E:=rfl
theorem zqk:kR1 QI r U=kR1b (view r U) QI U:=rfl
theorem zpS {z:Int}:kR1b (some (.int z)) QI U=((-big<=z/\z<=big)/\QI (fromTo 0 z.toNat) U):=rfl
def kR2b (o p:Option D) (Q:List D->Env->Prop) (U:Env):Prop:=match o,p with | some (.int i),some (.int j)=>(-big<=i/\i<=big/\-big<=j/\j<=big)/\Q (fromTo i (j - i).toNat) U | _,_=>False
def kR2a (r:R) (Q:List D->Env->Prop):WQ:=fun t U=>kR2b (view r U) (view t U) Q U
def kR2 (b:WE) (Q:List D->Env->Prop) (E:WX):WQ:=fun r U=>b U (kR2a r Q) E
theorem e_R2:wRange2 a b U QI E=a U (kR2 b QI E) E:=rfl
theorem zp5:kR2 b QI E r U=b U (kR2a r QI) E:=rfl
theorem zpD:kR2a r QI x U=kR2b (view r U) (view x U) QI U:=rfl
theorem zqc {z z':Int}:kR2b (some (.int z)) (some (.int z')) QI U=((-big<=z/\z<=big/\-big<=z'/\z'<=big)/\QI (fromTo z (z' - z).toNat) U):=rfl
def kFor (g:WG) (b:WS) (D:Ends):List FL.D->Env->Prop:=fun l U=>wLoop g b l D U
theorem zqH {it:WI}:wFor it g v D' U=it U (kFor g v D') D'.ex:=rfl
theorem zl1 {l:List D}:kFor g v D' l U=wLoop g v l D' U:=rfl
def lpE (g:WG) (b:WS) (xs:List FL.D) (D:Ends):Ends:={ D with nx:=wLoop g b xs D,ct:=wLoop g b xs D,bk:=D.nx }
def kLp (g:WG) (b:WS) (xs:List FL.D) (D:Ends):Env->Prop:=fun U=>b (lpE g b xs D) U
theorem e_Lp {xs:List D}:wLoop g v (d::xs) D' U=g (.sh d) U (kLp g v xs D'):=rfl
variable {c:WT} {bb:WB}
def kLCr2 (n:Nat) (o:Option S) (U:Env) (Q:WQ):Prop:=need o fun s=>Q (.v s) (U.take n)
def kLCr (n:Nat) (Q:WQ):Env->Prop:=fun U=>kLCr2 n (slot U n) U Q
def kLCx (n:Nat) (E:WX):WX:=fun x U=>E x (U.take n)
def kLC (n k:Nat) (g:WG) (c:WT) (b:WB) (Q:WQ) (E:WX):List D->Env->Prop:=fun l U=>bLoop g c b l (U++some (.lst [])::List.replicate k none) (kLCr n Q) (kLCx n E)
theorem e_LC {it:WI}:wLC n m it g c bb U Q E=it U (kLC n m g c bb Q E) E:=rfl
theorem zp7 {l:List D}:kLC n m g c bb Q E l U=bLoop g c bb l (U++some (.lst [])::List.replicate m none) (kLCr n Q) (kLCx n E):=rfl
theorem zpB:kLCr n Q U=kLCr2 n (slot U n) U Q:=rfl
theorem zmi:kLCr2 n (some s) U Q=Q (.v s) (U.take n):=rfl
def kbL3 (g:WG) (c:WT) (b:WB) (xs:List D) (Q:Env->Prop) (E:WX):Env->Prop:=fun U=>bLoop g c b xs U Q E
def kbL2 (g:WG) (c:WT) (b:WB) (xs:List D) (Q:Env->Prop) (E:WX):Bool->Env->Prop:=fun k U=>if k then b U (kbL3 g c b xs Q E) E else bLoop g c b xs U Q E
def kbL (g:WG) (c:WT) (b:WB) (xs:List D) (Q:Env->Prop) (E:WX):Env->Prop:=fun U=>c U (kbL2 g c b xs Q E) E
theorem e_bL {xs:List D}:bLoop g c bb (d::xs) U QE E=g (.sh d) U (kbL g c bb xs QE E):=rfl
theorem zo6 {xs:List D}:kbL g c bb xs QE E U=c U (kbL2 g c bb xs QE E) E:=rfl
theorem zlV {xs:List D}:kbL2 g c bb xs QE E true U=bb U (kbL3 g c bb xs QE E) E:=rfl
theorem zpI {xs:List D}:kbL3 g c bb xs QE E U=bLoop g c bb xs U QE E:=rfl
def kEm3 (n:Nat) (s:S) (o:Option S) (U:Env) (Q:Env->Prop):Prop:=match o with
 | some (.lst l)=>l.length < big/\Q (U.set n (some (.lst (l++[s]))))
 | _=>False
def kEm2 (n:Nat) (o:Option (S×Env)) (Q:Env->Prop):Prop:=need o fun p=>kEm3 n p.1 (slot p.2 n) p.2 Q
def kEm (n:Nat) (Q:Env->Prop):WQ:=fun r U=>kEm2 n (give r U) Q
theorem e_Em:bEmit n a U QE E=a U (kEm n QE) E:=by unfold bEmit kEm kEm2 kEm3; rfl
theorem zoL:kEm n QE r U=kEm2 n (give r U) QE:=rfl
theorem zpM:kEm2 n (some (s,U)) QE=kEm3 n s (slot U n) U QE:=rfl
theorem zqi {l:List S}:kEm3 n s (some (.lst l)) U QE=(l.length < big/\QE (U.set n (some (.lst (l++[s]))))):=rfl
def kbF (g:WG) (c:WT) (b:WB) (Q:Env->Prop) (E:WX):List D->Env->Prop:=fun l U=>bLoop g c b l U Q E
theorem e_bF {it:WI}:bFor it g c bb U QE E=it U (kbF g c bb QE E) E:=rfl
theorem zq2 {l:List D}:kbF g c bb QE E l U=bLoop g c bb l U QE E:=rfl
theorem zoj {QT:Bool->Env->Prop}:wYes U QT E=QT true U:=rfl
def kFn (o:Option (List S)) (P:S->List S->Prop) (s:S):Prop:=need o fun fs=>P s fs
def kRt2 (n:Nat) (ss:List S) (P:S->List S->Prop) (i:Nat) (o:Option S) (U:Env):Prop:=need o fun s=>if i < n then kFn (finals ss (U.set i (some (.sh s.toD)))) P (.sh s.toD) else kFn (finals ss U) P s
def kRt (n:Nat) (ss:List S) (P:S->List S->Prop):WQ:=fun r U=>match r with
 | .v s=>kFn (finals ss U) P s
 | .loc i=>kRt2 n ss P i (slot U i) U
def fnE (n:Nat) (ss:List S) (P:S->List S->Prop) (PX:D->List S->Prop):Ends where
 nx:=fun U=>kFn (finals ss U) P (.sh .non)
 rt:=kRt n ss P
 bk:=fun _=>False
 ct:=fun _=>False
 ex:=fun x U=>need (finals ss U) fun fs=>PX x fs
variable {P:S->List S->Prop} {PX:D->List S->Prop}
theorem za1 {ks:List Nat} (hl:ss.length=n) (hk:((List.range ss.length).all fun i=>decide (i∈ks))=true) (h:v (fnE n ss P PX) (ss.map some++List.replicate (m - n) none)):wFn n m ks v ss P PX:=by
 refine ⟨hl,fun i s hi=>?_,h⟩
 have:=(List.getElem?_eq_some_iff.mp hi).1
 exact .inl (by simpa using all_eq_true.mp hk i (by simpa using this))
theorem zpY:(fnE n ss P PX).rt=kRt n ss P:=rfl
theorem e_Rt:kRt n ss P (.v s) U=kFn (finals ss U) P s:=rfl
theorem zoK:kRt n ss P (.loc i) U=kRt2 n ss P i (slot U i) U:=rfl
theorem zpe (h:¬ i < n):kRt2 n ss P i (some s) U=kFn (finals ss U) P s:=by show (if i < n then _ else _)=_; rw [if_neg h]
theorem e_Fn {fs:List S}:kFn (some fs) P s=P s fs:=rfl
def fA (s:S):Option (List S)->Option (List S)
 | some fs=>some (s::fs)
 | none=>none
theorem e_f0:finals [] U=some []:=by cases U <;> rfl
theorem e_fs {o:Option S}:finals (.sh d::ss) (o::U)=fA (.sh d) (finals ss U):=by
 rw [finals]; unfold fA; cases finals ss U <;> rfl
theorem e_fl {l:List S}:finals (.lst l::ss) (some s::U)=fA s (finals ss U):=by
 rw [finals]; unfold fA; cases finals ss U <;> rfl
 intro d h; cases h
theorem e_fA {fs:List S}:fA s (some fs)=some (s::fs):=rfl
end
section
variable {i j:Int} {x y:List Nat} {l m:List D}
theorem zpp:oAdd (.int i) (.int j)=some (.sh (.int (i + j))):=rfl
theorem zm8 (h:x.length + y.length<=big):oAdd (.str x) (.str y)=some (.sh (.str (x++y))):=if_pos h
theorem znB (h:l.length + m.length<=big):oAdd (.lst l) (.lst m)=some (.lst ((l++m).map .sh)):=if_pos h
theorem znn (h:l.length + m.length<=big):oAdd (.tup l) (.tup m)=some (.sh (.tup (l++m))):=if_pos h
theorem zpA:oSub (.int i) (.int j)=some (.sh (.int (i - j))):=rfl
theorem zmj (h:-(2 ^ 64) < i/\i < 2 ^ 64):oMul (.int i) (.int j)=some (.sh (.int (i * j))):=by
 show (if mulOk i j=true then _ else none)=_
 rw [if_pos (by simp only [mulOk,h.1,h.2,decide_true,Bool.and_self,Bool.true_or])]
theorem zoz (h:0 < j):oMod (.int i) (.int j)=some (.sh (.int (i % j))):=if_pos h
theorem zms (h:0 < j) (h2:j < 18446744073709551616):oFdiv (.int i) (.int j)=some (.sh (.int (i / j))):=if_pos ⟨h,h2⟩
theorem zpk (h:0<=j/\j<=1000/\i.natAbs < 2 ^ 64):oPow (.int i) (.int j)=some (.sh (.int (i ^ j.toNat))):=if_pos h
theorem zoi:oNeg (.int i)=some (.sh (.int (-i))):=rfl
theorem e_lt:cLt (.int i) (.int j)=some (decide (i < j)):=rfl
theorem e_gt:cGt (.int i) (.int j)=some (decide (j < i)):=rfl
theorem e_le:cLe (.int i) (.int j)=some (decide (i<=j)):=rfl
theorem e_ge:cGe (.int i) (.int j)=some (decide (j<=i)):=rfl
theorem zn1:cEq (.int i) (.int j)=some (decide (i=j)):=by
 unfold cEq
 rw [if_neg (by exact fun z=>Bool.noConfusion (show false=true from z))]
 simp
theorem zoh:cNe (.int i) (.int j)=some (!decide (i=j)):=by unfold cNe; rw [zn1]; rfl
theorem zng:cEq (.str x) (.str y)=some (decide (x=y)):=by
 unfold cEq
 rw [if_neg (by exact fun z=>Bool.noConfusion (show false=true from z))]
 simp
theorem zq1:cNe (.str x) (.str y)=some (!decide (x=y)):=by unfold cNe; rw [zng]; rfl
theorem zq6 {b:Bool}:truth (.bl b)=some b:=rfl
theorem zlU:bLen [.str x]=some (.sh (.int x.length)):=rfl
theorem zno:bLen [.tup l]=some (.sh (.int l.length)):=rfl
theorem zl8:bLen [.lst l]=some (.sh (.int l.length)):=rfl
theorem zlO {b:Bool}:bInt [.bl b]=some (.sh (.int (if b then 1 else 0))):=rfl
theorem zme:bTuple [.lst l]=some (.sh (.tup l)):=rfl
theorem zn0 (h:x.length<=big):bListA [.str x]=some (.lst (x.map fun c=>.sh (.str [c]))):=if_pos h
theorem zpU {a b:Option Int}:slD (.str x) a b=some (.sh (.str (cutL x a b))):=rfl
theorem zpi {a b:Option Int}:slD (.tup l) a b=some (.sh (.tup (cutL l a b))):=rfl
theorem zqS {a b:Option Int}:slD (.lst l) a b=some (.lst ((cutL l a b).map .sh)):=rfl
end
section
variable {Q:WQ} {QT:Bool->Env->Prop} {E:WX} {U:Env} {d p q:D} {l m:List S} {t:Bool} {ks:List D} {s:S} {v:Option S} {o:D->D->Option S} {oc:D->D->Option Bool} {j k:Nat} {s0 s1 s2 s3 s4 s5 s6 s7 s8 s9 s10 s11 s12 s13 s14:Option S}
theorem zpr:wVar 0 (some (.sh d)::U) Q E=Q (.v (.sh d)) (some (.sh d)::U):=rfl
theorem zp0:wVar 0 (some (.lst l)::U) Q E=Q (.loc 0) (some (.lst l)::U):=rfl
theorem zpO:slot (v::U) 0=v:=rfl
theorem zoO {u:Option S}:List.set (u::U) 0 v=v::U:=rfl
theorem zqu:wVar 1 (s0::some (.sh d)::U) Q E=Q (.v (.sh d)) (s0::some (.sh d)::U):=rfl
theorem zqo:slot (s0::v::U) 1=v:=rfl
theorem zpl {u:Option S}:List.set (s0::u::U) 1 v=s0::v::U:=rfl
theorem zqf:wVar 2 (s0::s1::some (.sh d)::U) Q E=Q (.v (.sh d)) (s0::s1::some (.sh d)::U):=rfl
theorem zo1:wVar 2 (s0::s1::some (.lst l)::U) Q E=Q (.loc 2) (s0::s1::some (.lst l)::U):=rfl
theorem zqg:wVar 2 (s0::s1::some (.dct t ks l)::U) Q E=Q (.loc 2) (s0::s1::some (.dct t ks l)::U):=rfl
theorem zpw:slot (s0::s1::v::U) 2=v:=rfl
theorem zqw {u:Option S}:List.set (s0::s1::u::U) 2 v=s0::s1::v::U:=rfl
theorem zoU:wVar 3 (s0::s1::s2::some (.sh d)::U) Q E=Q (.v (.sh d)) (s0::s1::s2::some (.sh d)::U):=rfl
theorem zqP:wVar 3 (s0::s1::s2::some (.lst l)::U) Q E=Q (.loc 3) (s0::s1::s2::some (.lst l)::U):=rfl
theorem zqZ:slot (s0::s1::s2::v::U) 3=v:=rfl
theorem zqv {u:Option S}:List.set (s0::s1::s2::u::U) 3 v=s0::s1::s2::v::U:=rfl
theorem zoW:wVar 4 (s0::s1::s2::s3::some (.sh d)::U) Q E=Q (.v (.sh d)) (s0::s1::s2::s3::some (.sh d)::U):=rfl
theorem zoN:wVar 4 (s0::s1::s2::s3::some (.lst l)::U) Q E=Q (.loc 4) (s0::s1::s2::s3::some (.lst l)::U):=rfl
theorem zqy:slot (s0::s1::s2::s3::v::U) 4=v:=rfl
theorem zpE {u:Option S}:List.set (s0::s1::s2::s3::u::U) 4 v=s0::s1::s2::s3::v::U:=rfl
theorem zpn:wVar 5 (s0::s1::s2::s3::s4::some (.sh d)::U) Q E=Q (.v (.sh d)) (s0::s1::s2::s3::s4::some (.sh d)::U):=rfl
theorem zpV:slot (s0::s1::s2::s3::s4::v::U) 5=v:=rfl
theorem zqU {u:Option S}:List.set (s0::s1::s2::s3::s4::u::U) 5 v=s0::s1::s2::s3::s4::v::U:=rfl
theorem zqs:wVar 6 (s0::s1::s2::s3::s4::s5::some (.sh d)::U) Q E=Q (.v (.sh d)) (s0::s1::s2::s3::s4::s5::some (.sh d)::U):=rfl
theorem zqT:wVar 6 (s0::s1::s2::s3::s4::s5::some (.lst l)::U) Q E=Q (.loc 6) (s0::s1::s2::s3::s4::s5::some (.lst l)::U):=rfl
theorem zol:slot (s0::s1::s2::s3::s4::s5::v::U) 6=v:=rfl
theorem zpZ {u:Option S}:List.set (s0::s1::s2::s3::s4::s5::u::U) 6 v=s0::s1::s2::s3::s4::s5::v::U:=rfl
theorem zog:wVar 7 (s0::s1::s2::s3::s4::s5::s6::some (.sh d)::U) Q E=Q (.v (.sh d)) (s0::s1::s2::s3::s4::s5::s6::some (.sh d)::U):=rfl
theorem zok:slot (s0::s1::s2::s3::s4::s5::s6::v::U) 7=v:=rfl
theorem zqO {u:Option S}:List.set (s0::s1::s2::s3::s4::s5::s6::u::U) 7 v=s0::s1::s2::s3::s4::s5::s6::v::U:=rfl
theorem zqK:wVar 8 (s0::s1::s2::s3::s4::s5::s6::s7::some (.sh d)::U) Q E=Q (.v (.sh d)) (s0::s1::s2::s3::s4::s5::s6::s7::some (.sh d)::U):=rfl
theorem zpX {u:Option S}:List.set (s0::s1::s2::s3::s4::s5::s6::s7::u::U) 8 v=s0::s1::s2::s3::s4::s5::s6::s7::v::U:=rfl
theorem zqX:wVar 9 (s0::s1::s2::s3::s4::s5::s6::s7::s8::some (.sh d)::U) Q E=Q (.v (.sh d)) (s0::s1::s2::s3::s4::s5::s6::s7::s8::some (.sh d)::U):=rfl
theorem zoY {u:Option S}:List.set (s0::s1::s2::s3::s4::s5::s6::s7::s8::u::U) 9 v=s0::s1::s2::s3::s4::s5::s6::s7::s8::v::U:=rfl
theorem zl3:wVar 10 (s0::s1::s2::s3::s4::s5::s6::s7::s8::s9::some (.sh d)::U) Q E=Q (.v (.sh d)) (s0::s1::s2::s3::s4::s5::s6::s7::s8::s9::some (.sh d)::U):=rfl
theorem zml {u:Option S}:List.set (s0::s1::s2::s3::s4::s5::s6::s7::s8::s9::u::U) 10 v=s0::s1::s2::s3::s4::s5::s6::s7::s8::s9::v::U:=rfl
theorem zl2:slot (s0::s1::s2::s3::s4::s5::s6::s7::s8::s9::s10::v::U) 11=v:=rfl
theorem znV {u:Option S}:List.set (s0::s1::s2::s3::s4::s5::s6::s7::s8::s9::s10::u::U) 11 v=s0::s1::s2::s3::s4::s5::s6::s7::s8::s9::s10::v::U:=rfl
theorem zmB:wVar 12 (s0::s1::s2::s3::s4::s5::s6::s7::s8::s9::s10::s11::some (.sh d)::U) Q E=Q (.v (.sh d)) (s0::s1::s2::s3::s4::s5::s6::s7::s8::s9::s10::s11::some (.sh d)::U):=rfl
theorem zmC {u:Option S}:List.set (s0::s1::s2::s3::s4::s5::s6::s7::s8::s9::s10::s11::u::U) 12 v=s0::s1::s2::s3::s4::s5::s6::s7::s8::s9::s10::s11::v::U:=rfl
theorem zmt:kBin2 o (.v (.sh p)) Q (.v (.sh q)) U=kV (o p q) Q U:=rfl
theorem znZ:kCmp2 oc (.v (.sh p)) QT (.v (.sh q)) U=kC (oc p q) QT U:=rfl
theorem zmS:kBin2 o (.v (.sh p)) Q (.v (.lst m)) U=kBin3 o (some p) (some (S.lst m).toD) Q U:=rfl
theorem zl5:kCmp2 oc (.v (.sh p)) QT (.v (.lst m)) U=kCmp3 oc (some p) (some (S.lst m).toD) QT U:=rfl
theorem znl:kCmp2 oc (.v (.sh p)) QT (.loc k) U=kCmp3 oc (some p) (view (.loc k) U) QT U:=rfl
theorem znJ:kCmp2 oc (.loc j) QT (.v (.lst m)) U=kCmp3 oc (view (.loc j) U) (some (S.lst m).toD) QT U:=rfl
end
end FL
end
section
namespace FL
section
variable {U U1 U2:Env} {Q:WQ} {QT:Bool->Env->Prop} {QI:List D->Env->Prop} {E:WX} {a b c:WE} {r x y z:R} {s:S} {d p q:D} {i j n m k:Nat} {D':Ends} {v:WS} {l:List D} {z':Int}
theorem zpQ:cInA d (.lst l)=cIn d (.lst l):=rfl
theorem zor {t:Bool} {ks vs:List D}:cInA d (.dct t ks vs)=cIn d (.dct t ks vs):=rfl
theorem znE:cNotInA p q=(cInA p q).map (!·):=rfl
def kAA4 (j m:Nat) (l l':List S) (Q:WQ) (o:Option (S×Env)):Prop:=need o fun p=>l'.length < big/\Q (.v (.sh .non)) (p.2.set j (some (.lst (l.set m (.lst (l'++[p.1]))))))
def kAA3 (j m:Nat) (l l':List S) (Q:WQ):WQ:=fun r U=>kAA4 j m l l' Q (give r U)
def kAA2b (j m:Nat) (l:List S) (e:WE) (o:Option S) (U:Env) (Q:WQ) (E:WX):Prop:=match o with
 | some (.lst l')=>e (U.set j none) (kAA3 j m l l' Q) E
 | _=>False
def kAA2 (j:Nat) (e:WE) (n:Int) (l:List S) (U:Env) (Q:WQ) (E:WX):Prop:=need (ixN l.length n) fun m=>kAA2b j m l e l[m]? U Q E
def kAA1 (j:Nat) (e:WE) (o:Option D) (p:Option S) (U:Env) (Q:WQ) (E:WX):Prop:=match o,p with
 | some (.int n),some (.lst l)=>kAA2 j e n l U Q E
 | _,_=>False
def kAA0 (j:Nat) (e:WE) (Q:WQ) (E:WX):WQ:=fun y U=>kAA1 j e (view y U) (slot U j) U Q E
def kAA (j:Nat) (o:Option S) (i e:WE) (U:Env) (Q:WQ) (E:WX):Prop:=match o with
 | some (.lst _)=>i U (kAA0 j e Q E) E
 | _=>False
theorem e_AA:wAppendAt j a b U Q E=kAA j (slot U j) a b U Q E:=by unfold wAppendAt kAA kAA0 kAA1 kAA2 kAA2b kAA3 kAA4; rfl
theorem zpz {l:List S}:kAA j (some (.lst l)) a b U Q E=a U (kAA0 j b Q E) E:=rfl
theorem zpF:kAA0 j b Q E y U=kAA1 j b (view y U) (slot U j) U Q E:=rfl
theorem zoJ {n:Int} {l:List S}:kAA1 j b (some (.int n)) (some (.lst l)) U Q E=kAA2 j b n l U Q E:=rfl
theorem zqz {l l':List S}:kAA3 j m l l' Q r U=kAA4 j m l l' Q (give r U):=rfl
theorem zpG {l l':List S}:kAA4 j m l l' Q (some (s,U))=(l'.length < big/\Q (.v (.sh .non)) (U.set j (some (.lst (l.set m (.lst (l'++[s]))))))):=rfl
theorem zga {z:Int} {l l':List S} (h0:0<=z) (h1:l[z.toNat]?=some (.lst l')):kAA2 j b z l U Q E=b (U.set j none) (kAA3 j z.toNat l l' Q) E:=by
 have:z.toNat < l.length:=(List.getElem?_eq_some_iff.mp h1).1
 unfold kAA2 ixN
 rw [if_pos h0,if_pos (by omega),zbG,h1]
 rfl
def kFz2 (Q:WQ) (o:Option (S×Env)):Prop:=need o fun p=>Q (.v (.sh p.1.toD)) p.2
def kFz (Q:WQ):WQ:=fun r U=>kFz2 Q (give r U)
theorem zpJ:wFrz a U Q E=a U (kFz Q) E:=rfl
theorem znR:kFz Q r U=kFz2 Q (give r U):=rfl
theorem zmz:kFz2 Q (some (s,U))=Q (.v (.sh s.toD)) U:=rfl
def kFzN2 (i:Nat) (D:Ends) (o:Option S) (U:Env):Prop:=need o fun s=>D.nx (U.set i (some (.sh s.toD)))
def kFzN (i:Nat) (D:Ends):Env->Prop:=fun U=>kFzN2 i D (slot U i) U
theorem zqY:wFz i v D' U=v (wNx D' (kFzN i D')) U:=rfl
theorem znh:kFzN i D' U=kFzN2 i D' (slot U i) U:=rfl
theorem zna:kFzN2 i D' (some s) U=D'.nx (U.set i (some (.sh s.toD))):=rfl
theorem zoo {ks vs:List D} {z:Int}:lkD (.dct false ks vs) (.int z)=some (lk ks vs (.int z)):=rfl
theorem zns {ks vs:List D} {z z':Int}:lkD (.dct true ks vs) (.tup [.int z,.int z'])=some (lk ks vs (.tup [.int z,.int z'])):=rfl
noncomputable def kXA4 (o:Option (Option D)) (Q:WQ) (U:Env):Prop:=need o fun o=>need o fun e=>Q (.v (.sh e)) U
noncomputable def kXA3 (o p:Option D) (Q:WQ) (U:Env):Prop:=need o fun d=>need p fun q=>kXA4 (lkD d q) Q U
noncomputable def kXA2 (x:R) (Q:WQ):WQ:=fun y U=>kXA3 (viewC x U) (view y U) Q U
noncomputable def kXA1 (b:WE) (Q:WQ) (E:WX):WQ:=fun x U=>b U (kXA2 x Q) E
theorem e_XA:wIxA a b U Q E=a U (kXA1 b Q E) E:=rfl
theorem zqx:kXA1 b Q E x U=b U (kXA2 x Q) E:=rfl
theorem zpm:kXA2 x Q y U=kXA3 (viewC x U) (view y U) Q U:=rfl
theorem zou:kXA3 (some d) (some q) Q U=kXA4 (lkD d q) Q U:=rfl
theorem zpy:kXA4 (some (some d)) Q U=Q (.v (.sh d)) U:=rfl
theorem zgF {t:Bool} {ks vs:List D}:vC (some (.dct t ks (vs.map S.sh)))=some (.dct t ks vs):=by
 show (if (vs.map S.sh).all S.isSh=true then some (S.toD (.dct t ks (vs.map S.sh))) else none)=_
 rw [if_pos e_sh,S.toD_dct,zav]
def kTR2 (o:Option D) (Q:WQ) (U:Env):Prop:=need o fun d=>match d with
 | .tup l=>l.length<=big/\Q (.v (.sh (.tup l.reverse))) U
 | _=>False
def kTR (Q:WQ):WQ:=fun r U=>kTR2 (viewC r U) Q U
theorem e_TR:wTupRev a U Q E=a U (kTR Q) E:=by unfold wTupRev kTR kTR2; rfl
theorem zo5:kTR Q r U=kTR2 (viewC r U) Q U:=rfl
theorem zpH:kTR2 (some (.tup l)) Q U=(l.length<=big/\Q (.v (.sh (.tup l.reverse))) U):=rfl
theorem zn2 {z z':Int}:oMulA (.int z) (.int z')=oMul (.int z) (.int z'):=rfl
end
theorem uB {w v:WB} {U:Env} {Q:Env->Prop} {E:WX} (h:w=v):w U Q E=v U Q E:=by rw [h]
theorem uS {w v:WS} {D':Ends} {U:Env} (h:w=v):w D' U=v D' U:=by rw [h]
end FL
end
section
namespace FL
section
variable {U:Env} {Q:WQ} {QE:Env->Prop} {E:WX} {a b:WE} {x y:R} {s s0:S} {q:D} {n m:Nat} {g:WG} {c:WT} {bb:WB}
def kCM (s0:S) (n k:Nat) (g:WG) (c:WT) (b:WB) (Q:WQ) (E:WX):List D->Env->Prop:=fun l U=>bLoop g c b l (U++some s0::List.replicate k none) (kLCr n Q) (kLCx n E)
theorem e_CM {it:WI}:wCM s0 n m it g c bb U Q E=it U (kCM s0 n m g c bb Q E) E:=rfl
theorem zo2 {l:List D}:kCM s0 n m g c bb Q E l U=bLoop g c bb l (U++some s0::List.replicate m none) (kLCr n Q) (kLCx n E):=rfl
noncomputable def kPu3 (n:Nat) (q:D) (s:S) (o:Option S) (U:Env) (Q:Env->Prop):Prop:=match o with
 | some (.dct t ks l)=>isKey t q=true/\ks.Nodup/\ks.length < big/\Q (U.set n (some (dputS t ks l q s)))
 | _=>False
noncomputable def kPu2 (n:Nat) (o:Option D) (p:Option (S×Env)) (Q:Env->Prop):Prop:=need o fun q=>need p fun p=>kPu3 n q p.1 (slot p.2 n) p.2 Q
noncomputable def kPu1 (n:Nat) (x:R) (Q:Env->Prop):WQ:=fun y U=>kPu2 n (view x U) (give y U) Q
noncomputable def kPu (n:Nat) (e:WE) (Q:Env->Prop) (E:WX):WQ:=fun x U=>e U (kPu1 n x Q) E
theorem e_Pu:bPut n a b U QE E=a U (kPu n b QE E) E:=by unfold bPut kPu kPu1 kPu2 kPu3; rfl
theorem zpj:kPu n b QE E x U=b U (kPu1 n x QE) E:=rfl
theorem zop:kPu1 n x QE y U=kPu2 n (view x U) (give y U) QE:=rfl
theorem zoE:kPu2 n (some q) (some (s,U)) QE=kPu3 n q s (slot U n) U QE:=rfl
theorem zpx {t:Bool} {ks:List D} {l:List S}:kPu3 n q s (some (.dct t ks l)) U QE=(isKey t q=true/\ks.Nodup/\ks.length < big/\QE (U.set n (some (dputS t ks l q s)))):=rfl
end
end FL
end
section
namespace FL
section
variable {U:Env} {Q:WQ} {QE:Env->Prop} {E:WX} {a b:WE} {x y r:R} {s:S} {q d:D} {n m j:Nat} {l:List D}
def kML2 (f:List D->List D->Option S) (l:List D) (Q:WQ):List R->Env->Prop:=fun rs U=>kB2 (f l) (vAll rs U) Q U
def kML (f:List D->List D->Option S) (wa:WA) (Q:WQ) (E:WX):WQ:=fun x U=>match x with
 | .v (.sh (.lst l))=>wa U (kML2 f l Q) E
 | _=>False
theorem e_ML {f:List D->List D->Option S} {wa:WA}:wML f a wa U Q E=a U (kML f wa Q E) E:=by
 unfold wML kML kML2 kB2 kV
 simp only [zdu]
 all_goals rfl
theorem zoD {f:List D->List D->Option S} {wa:WA}:kML f wa Q E (.v (.sh (.lst l))) U=wa U (kML2 f l Q) E:=rfl
theorem zqj {f:List D->List D->Option S} {rs:List R}:kML2 f l Q rs U=kB2 (f l) (vAll rs U) Q U:=rfl
theorem zfD {k:Nat} (h:ixD l q=some k):mIndexL l [q]=some (.sh (.int k)):=by show (ixD l q).map _=_; rw [h]; rfl
end
end FL
end
section
namespace FL
def sg (c:Nat):D:=.str [c]
theorem zlK (l:List Nat):strsD (l.map sg)=some (l.map fun c=>[c]):=by
 have:=zee (l.map fun c=>[c])
 rw [map_map] at this
 exact this
theorem zf8:∀ l:List Nat,((l.map fun c=>[c]).map List.length).sum=l.length
 | []=>rfl
 | c::l=>by
   have:=zf8 l
   simp only [map_cons,sum_cons,length_cons,length_nil] at this ⊢
   omega
theorem zeC:∀ l:List Nat,(l.map fun c=>[c]).flatten=l
 | []=>rfl
 | c::l=>by
   have:=zeC l
   simp only [map_cons,List.flatten_cons,List.singleton_append]
   rw [this]
theorem zix {l:List Nat} (h:l.length<=big):mJoin [] [.lst (l.map sg)]=some (.sh (.str l)):=by
 show (strsD (l.map sg)).bind _=_
 rw [zlK]
 show (if ((l.map fun c=>[c]).map List.length).sum + (l.map fun c=>[c]).length * [].length<=big then some (S.sh (.str (joinD [] (l.map fun c=>[c])))) else none)=_
 rw [if_pos (by rw [zf8]; simpa using h),zet,zeC]
def unsg:D->Nat
 | .str [c]=>c
 | _=>0
theorem zlr {l:List D} {A:List Nat} (h:l.Perm (A.map sg)):∃ A':List Nat,A'.Perm A/\l=A'.map sg:=by
 refine ⟨l.map unsg,?_,?_⟩
 ·have:=h.map unsg
  rw [map_map] at this
  have e:(unsg ∘ sg)=id:=funext fun c=>rfl
  rw [e,map_id] at this
  exact this
 ·rw [map_map]
  have:∀ d∈l,(sg ∘ unsg) d=id d:=fun d hd=>by
   obtain ⟨c,_,rfl⟩:=mem_map.mp (h.mem_iff.mp hd)
   rfl
  rw [map_congr_left this,map_id]
theorem zah:big=1000000:=rfl
theorem zaB {lo:Int} {n:Nat}:(fromTo lo n).length=n:=by simp [fromTo]
theorem zgh {l:List D} {k:Nat} {d:D} (h:l[k]?=some d):(l.map S.sh)[k]?=some (.sh d):=by rw [getElem?_map,h]; rfl
theorem zb8 {α β:Type} {f:α->β} {l:List α} {z:Int} (h0:0<=z) (h1:z < l.length):∃ v,v∈l/\l[z.toNat]?=some v/\atI (l.map f) z=some (f v):=by
 have hz:z.toNat < l.length:=by omega
 exact ⟨l[z.toNat],getElem_mem hz,getElem?_eq_getElem hz,zbu h0 (by rw [getElem?_map,getElem?_eq_getElem hz]; rfl)⟩
theorem zeg {α:Type} {l:List α} {z:Int} (h0:0<=z) (h1:z < l.length):∃ v,v∈l/\l[z.toNat]?=some v/\atI l z=some v:=by
 have hz:z.toNat < l.length:=by omega
 exact ⟨l[z.toNat],getElem_mem hz,getElem?_eq_getElem hz,zbu h0 (getElem?_eq_getElem hz)⟩
theorem zcA {α β:Type} {f:α->β}:∀ (l:List α) (k:Nat),(l.map f).eraseIdx k=(l.eraseIdx k).map f
 | [],_=>rfl
 | _::_,0=>rfl
 | x::l,k + 1=>by
   show f x::(l.map f).eraseIdx k=f x::(l.eraseIdx k).map f
   rw [zcA l k]
theorem zjS {α β:Type} (f:α->β) (l:List α) (a b:Option Int):cutL (l.map f) a b=(cutL l a b).map f:=by
 unfold cutL
 rw [length_map,<- map_drop,<- List.map_take]
theorem zbQ {α:Type} (l:List α) (a b:Option Int):(cutL l a b).length<=l.length:=by
 unfold cutL
 rw [length_take,length_drop]
 omega
theorem zbn {α:Type} {l:List α} {a b:Option Int} {x:α} (h:x∈cutL l a b):x∈l:=by
 unfold cutL at h
 exact List.mem_of_mem_drop (List.mem_of_mem_take h)
theorem zhF {α:Type} (l:List α) {k:Int} (h0:0<=k) (h1:k<=l.length):cutL l none (some k)=l.take k.toNat:=by
 unfold cutL sIx
 have:¬ k < 0:=by omega
 simp only [if_neg this,drop_zero,sub_zero]
 congr 1
 omega
theorem zbS {α:Type} (l:List α) {k:Int} (h0:0<=k):cutL l (some k) none=l.drop k.toNat:=by
 unfold cutL sIx
 have:¬ k < 0:=by omega
 simp only [if_neg this]
 by_cases h:k.toNat<=l.length
 ·rw [min_eq_left h,take_of_length_le]
  rw [length_drop]; omega
 ·have h2:l.length<=k.toNat:=by omega
  rw [min_eq_right h2,drop_of_length_le (le_refl _),drop_of_length_le h2,take_nil]
theorem zcp:∀ l:List Int,deps (l.map D.int)=0
 | []=>rfl
 | z::l=>by
   show max (dep (.int z)) (deps (l.map D.int))=0
   rw [zcp l]; rfl
theorem znA (l:List Bool):bAll [.lst (l.map D.bl)]=some (.sh (.bl (l.all id))):=by
 show (bools (l.map D.bl)).map _=_
 rw [zhf]; rfl
theorem zc7 {α:Type}:∀ (l:List α) (i:Nat) (h:i < l.length),(l[i]::l.eraseIdx i).Perm l
 | x::l,0,_=>List.Perm.refl _
 | x::l,i + 1,h=>by
   have hi:i < l.length:=by simpa using h
   exact (List.Perm.swap x l[i] _).trans (List.Perm.cons x (zc7 l i hi))
def kbX2 (b:WB) (K:Env->Prop) (E:WX):Bool->Env->Prop:=fun k U=>if k then b U K E else K U
def kbX (c:WT) (b:WB) (K:Env->Prop) (E:WX):Env->Prop:=fun U=>c U (kbX2 b K E) E
theorem x_bX {c:WT} {b:WB} {K:Env->Prop} {E:WX} {U:Env}:kbX c b K E U=c U (kbX2 b K E) E:=rfl
theorem zcX {b:WB} {K:Env->Prop} {E:WX} {U:Env}:kbX2 b K E true U=b U K E:=rfl
theorem zlh {b:WB} {K:Env->Prop} {E:WX} {U:Env}:kbX2 b K E false U=K U:=rfl
theorem zh9 {α:Type} {toD:α->D} {g:WG} {c:WT} {b:WB} {E:WX} {Q:Env->Prop} (I:List α->Env->Prop) (xs:List α)
  (step:∀ (pre:List α) (x:α) (post:List α) (K:Env->Prop) (U:Env),pre++x::post=xs->I pre U->(∀ U',I (pre++[x]) U'->K U')->g (.sh (toD x)) U (kbX c b K E))
  (fin:∀ U,I xs U->Q U) {U:Env} (h0:I [] U):bLoop g c b (xs.map toD) U Q E:=by
 have gen:∀ (post pre:List α) (U:Env),pre++post=xs->I pre U->bLoop g c b (post.map toD) U Q E:=by
  intro post
  induction post with
  | nil=>intro pre U e h; rw [append_nil] at e; subst e; exact fin U h
  | cons x post ih=>
    intro pre U e h
    rw [map_cons,e_bL]
    exact step pre x post (kbL3 g c b (post.map toD) Q E) U e h fun U' h'=>ih (pre++[x]) U' (by rw [<- e]; simp) h'
 exact gen xs [] U rfl h0
theorem za9 {α:Type} {toD:α->D} {g:WG} {b:WS} {D':Ends} (I:List α->Env->Prop) (xs:List α)
  (step:∀ (pre:List α) (x:α) (post:List α) (D2:Ends) (U:Env),pre++x::post=xs->I pre U->(∀ U',I (pre++[x]) U'->D2.nx U')->(∀ U',I (pre++[x]) U'->D2.ct U')->D2.rt=D'.rt->D2.bk=D'.nx->g (.sh (toD x)) U (fun U=>b D2 U))
  (fin:∀ U,I xs U->D'.nx U) {U:Env} (h0:I [] U):wLoop g b (xs.map toD) D' U:=by
 have gen:∀ (post pre:List α) (U:Env),pre++post=xs->I pre U->wLoop g b (post.map toD) D' U:=by
  intro post
  induction post with
  | nil=>intro pre U e h; rw [append_nil] at e; subst e; exact fin U h
  | cons x post ih=>
    intro pre U e h
    rw [map_cons,e_Lp]
    have k:=fun U' h'=>ih (pre++[x]) U' (by rw [<- e]; simp) h'
    exact step pre x post (lpE g b (post.map toD) D') U e h k k rfl rfl
 exact gen xs [] U rfl h0
theorem zg0 {α:Type} {toD:α->D} {k:Nat} {g:WG} {c:WT} {b:WB} {E:WX} {Q:Env->Prop} (I:List α->List S->Env->Prop) (xs:List α)
  (step:∀ (pre:List α) (x:α) (post:List α) (l:List S) (U:Env) (vs:List (Option S)) (K:Env->Prop),pre++x::post=xs->vs.length=k->I pre l U->(∀ l' U1 vs',vs'.length=k->I (pre++[x]) l' U1->K (U1++some (.lst l')::vs'))->g (.sh (toD x)) (U++some (.lst l)::vs) (kbX c b K E))
  (fin:∀ l U vs,vs.length=k->I xs l U->Q (U++some (.lst l)::vs)) {U:Env} {vs:List (Option S)} (hv:vs.length=k) (h0:I [] [] U):bLoop g c b (xs.map toD) (U++some (.lst [])::vs) Q E:=by
 refine zh9 (fun pre U'=>∃ l U1 vs',vs'.length=k/\I pre l U1/\U'=U1++some (.lst l)::vs') xs (fun pre x post K U' e hI hK=>?_) (fun U' hI=>?_) ⟨[],U,vs,hv,h0,rfl⟩
 ·obtain ⟨l,U1,vs',h1,h2,rfl⟩:=hI
  exact step pre x post l U1 vs' K e h1 h2 fun l' U2 vs2 h3 h4=>hK _ ⟨l',U2,vs2,h3,h4,rfl⟩
 ·obtain ⟨l,U1,vs',h1,h2,rfl⟩:=hI
  exact fin l U1 vs' h1 h2
theorem zjW {α:Type} {toD:α->D} {k:Nat} {g:WG} {c:WT} {b:WB} {E:WX} {Q:Env->Prop} {U:Env} (xs:List α) (h:α->Option S)
  (step:∀ x∈xs,∀ (l:List S) (vs:List (Option S)) (K:Env->Prop),vs.length=k->l.length < xs.length->(∀ vs',vs'.length=k->K (U++some (.lst (l++(h x).toList))::vs'))->g (.sh (toD x)) (U++some (.lst l)::vs) (kbX c b K E))
  (fin:∀ vs,vs.length=k->Q (U++some (.lst (xs.filterMap h))::vs)) {vs:List (Option S)} (hv:vs.length=k):bLoop g c b (xs.map toD) (U++some (.lst [])::vs) Q E:=by
 refine zg0 (fun pre l U'=>U'=U/\l=pre.filterMap h) xs (fun pre x post l U' vs K e h1 h2 hK=>?_) (fun l U' vs h1 h2=>?_) hv ⟨rfl,rfl⟩
 ·obtain ⟨rfl,rfl⟩:=h2
  have hl:(pre.filterMap h).length < xs.length:=by
   have:=List.length_filterMap_le h pre
   rw [<- e]; simp only [length_append,length_cons]; omega
  refine step x (by rw [<- e]; simp) _ vs K h1 hl fun vs' h3=>hK _ _ vs' h3 ⟨rfl,?_⟩
  rw [List.filterMap_append]
  cases q:h x <;> simp [q]
 ·obtain ⟨rfl,rfl⟩:=h2
  exact fin vs h1
theorem len1v {vs:List (Option S)} (h:vs.length=1):∃ a,vs=[a]:=by
 match vs,h with
 | [a],_=>exact ⟨a,rfl⟩
theorem len2v {vs:List (Option S)} (h:vs.length=2):∃ a b,vs=[a,b]:=by
 match vs,h with
 | [a,b],_=>exact ⟨a,b,rfl⟩
theorem len3v {vs:List (Option S)} (h:vs.length=3):∃ a b c,vs=[a,b,c]:=by
 match vs,h with
 | [a,b,c],_=>exact ⟨a,b,c,rfl⟩
section
variable {α:Type} {toD:α->D} {n:Nat} {c:WT} {b:WB} {E:WX} {Q:Env->Prop} {U:Env}
theorem bl1 (xs:List α) (h:α->Option S)
  (step:∀ x∈xs,∀ (l:List S) (o:Option S) (K:Env->Prop),l.length < xs.length->(∀ o,K (U.take n++[some (.lst (l++(h x).toList)),o]))->gName (n + 1) (.sh (toD x)) (U.take n++[some (.lst l),o]) (kbX c b K E))
  (fin:∀ o,Q (U.take n++[some (.lst (xs.filterMap h)),o])) {o0:Option S} (e:U=U.take n++[some (.lst []),o0]:=by rfl):bLoop (gName (n + 1)) c b (xs.map toD) U Q E:=by
 rw [e]
 refine zjW (k:=1) xs h (fun x hx l vs K hv hl hK=>?_) (fun vs hv=>?_) rfl
 ·obtain ⟨a,rfl⟩:=len1v hv
  exact step x hx l a K hl fun o=>hK [o] rfl
 ·obtain ⟨a,rfl⟩:=len1v hv
  exact fin a
theorem bl2 (xs:List α) (h:α->Option S)
  (step:∀ x∈xs,∀ (l:List S) (o o':Option S) (K:Env->Prop),l.length < xs.length->(∀ o o',K (U.take n++[some (.lst (l++(h x).toList)),o,o']))->gTup [gName (n + 1),gName (n + 2)] (.sh (toD x)) (U.take n++[some (.lst l),o,o']) (kbX c b K E))
  (fin:∀ o o',Q (U.take n++[some (.lst (xs.filterMap h)),o,o'])) {o0 o1:Option S} (e:U=U.take n++[some (.lst []),o0,o1]:=by rfl):bLoop (gTup [gName (n + 1),gName (n + 2)]) c b (xs.map toD) U Q E:=by
 rw [e]
 refine zjW (k:=2) xs h (fun x hx l vs K hv hl hK=>?_) (fun vs hv=>?_) rfl
 ·obtain ⟨a,a',rfl⟩:=len2v hv
  exact step x hx l a a' K hl fun o o'=>hK [o,o'] rfl
 ·obtain ⟨a,a',rfl⟩:=len2v hv
  exact fin a a'
theorem bm1 (xs:List α) (h:α->S)
  (step:∀ x∈xs,∀ (l:List S) (o:Option S) (K:Env->Prop),l.length < xs.length->(∀ o,K (U.take n++[some (.lst (l++[h x])),o]))->gName (n + 1) (.sh (toD x)) (U.take n++[some (.lst l),o]) (kbX c b K E))
  (fin:∀ o,Q (U.take n++[some (.lst (xs.map h)),o])) {o0:Option S} (e:U=U.take n++[some (.lst []),o0]:=by rfl):bLoop (gName (n + 1)) c b (xs.map toD) U Q E:=
 bl1 xs (fun x=>some (h x)) step (fun o=>by rw [show (xs.filterMap fun x=>some (h x))=xs.map h from List.filterMap_eq_map ▸ rfl]; exact fin o) e
theorem bm2 (xs:List α) (h:α->S)
  (step:∀ x∈xs,∀ (l:List S) (o o':Option S) (K:Env->Prop),l.length < xs.length->(∀ o o',K (U.take n++[some (.lst (l++[h x])),o,o']))->gTup [gName (n + 1),gName (n + 2)] (.sh (toD x)) (U.take n++[some (.lst l),o,o']) (kbX c b K E))
  (fin:∀ o o',Q (U.take n++[some (.lst (xs.map h)),o,o'])) {o0 o1:Option S} (e:U=U.take n++[some (.lst []),o0,o1]:=by rfl):bLoop (gTup [gName (n + 1),gName (n + 2)]) c b (xs.map toD) U Q E:=
 bl2 xs (fun x=>some (h x)) step (fun o o'=>by rw [show (xs.filterMap fun x=>some (h x))=xs.map h from List.filterMap_eq_map ▸ rfl]; exact fin o o') e
end
theorem bd1 {β:Type} (emb:β->S) {n:Nat} {c:WT} {b:WB} {E:WX} {Q:Env->Prop} {U:Env} (xs:List D) (I:Env->Prop) (P:β->Prop)
  (step:∀ x∈xs,∀ (U:Env) (A:List β) (o:Option S) (K:Env->Prop),I U->A.length < xs.length->(∀ U1 y o1,I U1->P y->K (U1++[some (.lst (A.map emb++[emb y])),o1]))->gName (n + 1) (.sh x) (U++[some (.lst (A.map emb)),o]) (kbX c b K E))
  (fin:∀ U (A:List β) o,I U->A.length=xs.length->(∀ y∈A,P y)->Q (U++[some (.lst (A.map emb)),o])) (h0:I (U.take n)) {o0:Option S} (e:U=U.take n++[some (.lst []),o0]:=by rfl):bLoop (gName (n + 1)) c b xs U Q E:=by
 rw [e]
 have:=zg0 (toD:=fun x:D=>x) (k:=1) (g:=gName (n + 1)) (c:=c) (b:=b) (E:=E) (Q:=Q) (fun pre l U'=>I U'/\∃ A:List β,l=A.map emb/\A.length=pre.length/\∀ y∈A,P y) xs (fun pre x post l U' vs K e h1 h2 hK=>?_) (fun l U' vs h1 h2=>?_) (U:=U.take n) (vs:=[o0]) rfl ⟨h0,[],rfl,rfl,fun y hy=>nomatch hy⟩
 ·rwa [List.map_id'] at this
 ·obtain ⟨hI,A,rfl,hA,hP⟩:=h2
  obtain ⟨a,rfl⟩:=len1v h1
  refine step x (by rw [<- e]; simp) U' A a K hI (by rw [hA,<- e]; simp only [length_append,length_cons]; omega) fun U1 y o1 h3 h4=>hK _ U1 [o1] rfl ⟨h3,A++[y],by simp,by simp [hA],fun z hz=>?_⟩
  rcases mem_append.mp hz with q | q
  ·exact hP z q
  ·rw [mem_singleton.mp q]; exact h4
 ·obtain ⟨hI,A,rfl,hA,hP⟩:=h2
  obtain ⟨a,rfl⟩:=len1v h1
  exact fin U' A a hI hA hP
theorem lpn {g:WG} {b:WS} {D':Ends} (I:Nat->Env->Prop) (xs:List D)
  (step:∀ (k:Nat) (x:D),xs[k]?=some x->∀ (D2:Ends) (U:Env),I k U->(∀ U',I (k + 1) U'->D2.nx U')->(∀ U',I (k + 1) U'->D2.ct U')->D2.rt=D'.rt->D2.bk=D'.nx->g (.sh x) U (fun U=>b D2 U))
  (fin:∀ U,I xs.length U->D'.nx U) {U:Env} (h0:I 0 U):wLoop g b xs D' U:=by
 have:=za9 (toD:=fun x:D=>x) (g:=g) (b:=b) (D':=D') (fun pre U=>I pre.length U) xs (fun pre x post D2 U e hI hnx hct hrt hbk=>step pre.length x (by rw [<- e]; simp) D2 U hI (fun U' h=>hnx U' (by simpa using h)) (fun U' h=>hct U' (by simpa using h)) hrt hbk) fin h0
 rwa [List.map_id'] at this
theorem bf {α:Type} {toD:α->D} {n k:Nat} {g:WG} {c:WT} {b:WB} {E:WX} {Q:Env->Prop} {U:Env} (xs:List α) (h:α->List S)
  (step:∀ x∈xs,∀ (l:List S) (vs:List (Option S)) (K:Env->Prop),vs.length=k->l.length + (h x).length<=(xs.flatMap h).length->(∀ vs',vs'.length=k->K (U.take n++some (.lst (l++h x))::vs'))->g (.sh (toD x)) (U.take n++some (.lst l)::vs) (kbX c b K E))
  (fin:∀ vs,vs.length=k->Q (U.take n++some (.lst (xs.flatMap h))::vs)) {vs:List (Option S)} (e:U=U.take n++some (.lst [])::vs:=by rfl) (hv:vs.length=k:=by rfl):bLoop g c b (xs.map toD) U Q E:=by
 rw [e]
 refine zg0 (fun pre l U'=>U'=U.take n/\l=pre.flatMap h) xs (fun pre x post l U' vs K e h1 h2 hK=>?_) (fun l U' vs h1 h2=>?_) hv ⟨rfl,rfl⟩
 ·obtain ⟨rfl,rfl⟩:=h2
  have hl:(pre.flatMap h).length + (h x).length<=(xs.flatMap h).length:=by
   rw [<- e,List.flatMap_append,flatMap_cons,length_append,length_append]; omega
  exact step x (by rw [<- e]; simp) _ vs K h1 hl fun vs' h3=>hK _ _ vs' h3 ⟨rfl,by rw [List.flatMap_append]; simp⟩
 ·obtain ⟨rfl,rfl⟩:=h2
  exact fin vs h1
section
variable {α:Type} {toD:α->D} {g:WG} {c:WT} {b:WB} {E:WX} {Q:Env->Prop}
theorem bi2 (F:List S->Option S->Option S->Env) (xs:List α) (h:α->Option S) {l0:List S}
  (step:∀ x∈xs,∀ (l:List S) (o o':Option S) (K:Env->Prop),l.length + (h x).toList.length<=l0.length + (xs.filterMap h).length->(∀ o o',K (F (l++(h x).toList) o o'))->g (.sh (toD x)) (F l o o') (kbX c b K E))
  (fin:∀ o o',Q (F (l0++xs.filterMap h) o o')) {o0 o1:Option S}:bLoop g c b (xs.map toD) (F l0 o0 o1) Q E:=by
 refine zh9 (fun pre U'=>∃ o o',U'=F (l0++pre.filterMap h) o o') xs (fun pre x post K U' e hI hK=>?_) (fun U' hI=>?_) ⟨o0,o1,by simp⟩
 ·obtain ⟨o,o',rfl⟩:=hI
  refine step x (by rw [<- e]; simp) _ o o' K ?_ fun o o'=>hK _ ⟨o,o',?_⟩
  ·rw [<- e,List.filterMap_append,length_append,length_append]
   cases q:h x <;> simp [q] <;> omega
  ·rw [List.filterMap_append]
   cases q:h x <;> simp [q]
 ·obtain ⟨o,o',rfl⟩:=hI
  exact fin o o'
end
theorem zjJ {x:Int} {l:List Int}:tupsD ((x::l).map D.int)=none:=rfl
theorem ziR {x:List Nat} {l:List (List Nat)}:tupsD ((x::l).map D.str)=none:=rfl
theorem zjE:∀ l:List Int,∀ d∈l.map D.int,IsInt d:=fun l d hd=>by
 obtain ⟨x,_,rfl⟩:=mem_map.mp hd
 trivial
theorem zfT:∀ l:List (List Nat),∀ d∈l.map D.str,IsStr d:=fun l d hd=>by
 obtain ⟨x,_,rfl⟩:=mem_map.mp hd
 trivial
theorem zfV {l:List D} (h64:l.length < 64) (ht:sortT l=none) (hk:(intsD l).isSome\/(strsD l).isSome):bSort3 [.lst l]=some (.lst ((sortD l).map .sh)):=by
 show sort3 _=_
 unfold sort3
 by_cases h2:l.length < 2
 ·rw [if_pos h2]
  match l,h2 with
  | [],_=>rfl
  | [_],_=>rfl
  | _::_::_,h2=>simp at h2; omega
 ·rw [if_neg h2,ht]
  show sortS l=_
  unfold sortS
  rw [if_pos ⟨h64,hk⟩]
theorem zgK {l:List Int} (h64:l.length < 64):bSort3 [.lst (l.map .int)]=some (.lst ((sortD (l.map .int)).map .sh)):=by
 refine zfV (by simpa using h64) ?_ (.inl (by rw [zbN]; rfl))
 unfold sortT
 cases l with
 | nil=>rfl
 | cons x l=>rw [if_neg]; rw [zjJ]; simp
theorem zgy {l:List (List Nat)} (h64:l.length < 64):bSort3 [.lst (l.map .str)]=some (.lst ((sortD (l.map .str)).map .sh)):=by
 refine zfV (by simpa using h64) ?_ (.inr (by rw [zee]; rfl))
 unfold sortT
 cases l with
 | nil=>rfl
 | cons x l=>rw [if_neg]; rw [ziR]; simp
theorem zim {l m:List Int} (h64:l.length < 64) (p:m.Perm l) (hs:m.Pairwise (·<=·)):bSort3 [.lst (l.map .int)]=some (.lst ((m.map .int).map .sh)):=by
 rw [zgK h64,za3 zdE (zjE l) (p.map _)]
 rw [pairwise_map]
 exact hs.imp fun h=>by simpa using h
theorem znN {a b:Nat}:([a]:List Nat) < [b]↔a < b:=by simp [cons_lt_cons_iff]
theorem zlq {A:List Nat} (h:A.length < 64):∃ A':List Nat,A'.Perm A/\A'.Pairwise (·<=·)/\bSort3 [.lst (A.map sg)]=some (.lst ((A'.map sg).map .sh)):=by
 have e:A.map sg=(A.map fun c=>[c]).map D.str:=by rw [map_map]; rfl
 obtain ⟨A',hp,e2⟩:=zlr (zaZ (A.map sg))
 refine ⟨A',hp,?_,?_⟩
 ·have hs:=zbd zfh (A.map sg) (by rw [e]; exact zfT _)
  rw [e2,pairwise_map] at hs
  refine hs.imp fun {a b} h=>?_
  have h':(!decide (([b]:List Nat) < [a]))=true:=by rw [<- zcs]; exact h
  have h2:¬ ([b]:List Nat) < [a]:=by simpa using h'
  rw [znN] at h2
  omega
 ·rw [e,zgy (by simpa using h),<- e,e2]
theorem zg3 {l:List Nat} (h:l.Pairwise (·<=·)) (hn:l.Nodup):l.Pairwise (· < ·):=by
 have:=h.and hn
 exact this.imp fun ⟨h1,h2⟩=>by omega
theorem znT {x:D} {z:List Nat} (h:IsStr x):(clash x (.str z) || decide (30 < dep x))=false:=by
 cases x with
 | str i=>rfl
 | _=>exact h.elim
theorem zcE {z:List Nat} {ns:List (List Nat)}:(if (ns.map D.str).any (fun x=>clash x (.str z) || decide (30 < dep x)) then none else some (open Classical in decide (D.str z∈ns.map D.str)))=some (decide (z∈ns)):=by
 rw [if_neg]
 ·congr 1
  refine decide_eq_decide.mpr ⟨fun h=>?_,fun h=>mem_map.mpr ⟨z,h,rfl⟩⟩
  obtain ⟨y,hy,e⟩:=mem_map.mp h
  cases e
  exact hy
 ·intro h
  obtain ⟨x,hx,e⟩:=any_eq_true.mp h
  rw [znT (zfT ns x hx)] at e
  cases e
theorem zjx {z:List Nat} {ns:List (List Nat)}:cIn (.str z) (.tup (ns.map D.str))=some (decide (z∈ns)):=zcE
theorem zjV {z:List Nat} {ns:List (List Nat)}:cIn (.str z) (.lst (ns.map D.str))=some (decide (z∈ns)):=zcE
theorem zkT {α β:Type} (p:α->Bool) (f:α->β):∀ l:List α,(l.filterMap fun x=>if p x=true then some (f x) else none)=(l.filter p).map f
 | []=>rfl
 | x::l=>by
   have ih:=zkT p f l
   cases q:p x <;> simp [q,ih]
theorem zbm {α:Type} [DecidableEq α]:∀ (l m:List α),l.Nodup->(∀ x∈l,x∈m)->l.length<=m.length
 | [],m,_,_=>by simp
 | x::l,m,hn,hs=>by
   obtain ⟨h1,h2⟩:=nodup_cons.mp hn
   have hx:x∈m:=hs x (by simp)
   have:=zbm l (m.erase x) h2 fun y hy=>by
    refine (List.mem_erase_of_ne ?_).mpr (hs y (by simp [hy]))
    intro z; subst z; exact h1 hy
   rw [List.length_erase_of_mem hx] at this
   have hp:=List.length_pos_of_mem hx
   rw [length_cons]
   omega
theorem zem:∀ l:List (List Nat),deps (l.map D.str)=0
 | []=>rfl
 | z::l=>by
   show max (dep (.str z)) (deps (l.map D.str))=0
   rw [zem l]; rfl
theorem zi7 {l:List (List Nat)}:cNe (.lst (l.map D.str)) (.lst [])=some (!decide (l=[])):=by
 unfold cNe cEq
 rw [if_neg (by
  have:dep (.lst (l.map D.str))=1:=by show deps (l.map D.str) + 1=1; rw [zem]
  rw [this]
  cases l <;> exact fun z=>Bool.noConfusion (show false=true from z))]
 simp
theorem ze2 {n:Nat}:∀ l:List D,(∀ d∈l,dep d<=n)->deps l<=n
 | [],_=>zero_le _
 | d::l,h=>by
   show max (dep d) (deps l)<=n
   have h1:=h d (by simp)
   have h2:=ze2 l fun x hx=>h x (by simp [hx])
   omega
theorem zfm {l:List D} (h:deps l<=29):cNe (.lst l) (.lst [])=some (!l.isEmpty):=by
 unfold cNe cEq
 rw [if_neg (by
  have:dep (.lst l)=deps l + 1:=rfl
  rw [this]
  cases l with
  | nil=>exact fun z=>Bool.noConfusion (show false=true from z)
  | cons x l=>exact fun z=>absurd (of_decide_eq_true (show decide (30 < deps (x::l) + 1)=true from z)) (by omega))]
 cases l <;> simp
theorem vcons {α:Type} {n:Nat} {l:List α} (h:l.length=n + 1):∃ a r,l=a::r/\r.length=n:=by
 cases l with
 | nil=>cases h
 | cons a r=>exact ⟨a,r,rfl,Nat.succ.inj h⟩
theorem vnil {α:Type} {l:List α} (h:l.length=0):l=[]:=List.length_eq_zero_iff.mp h
theorem vlen1 {α:Type} {l:List α} (h:l.length=1):∃ a,l=[a]:=by
 obtain ⟨a,r,rfl,k⟩:=vcons h
 obtain rfl:=vnil k
 exact ⟨a,rfl⟩
theorem vlen2 {α:Type} {l:List α} (h:l.length=2):∃ a0 a1,l=[a0,a1]:=by
 obtain ⟨a0,r,rfl,k⟩:=vcons h
 obtain ⟨a1,rfl⟩:=vlen1 k
 exact ⟨a0,a1,rfl⟩
theorem vlen3 {α:Type} {l:List α} (h:l.length=3):∃ a0 a1 a2,l=[a0,a1,a2]:=by
 obtain ⟨a0,r,rfl,k⟩:=vcons h
 obtain ⟨a1,a2,rfl⟩:=vlen2 k
 exact ⟨a0,a1,a2,rfl⟩
theorem vlen4 {α:Type} {l:List α} (h:l.length=4):∃ a0 a1 a2 a3,l=[a0,a1,a2,a3]:=by
 obtain ⟨a0,r,rfl,k⟩:=vcons h
 obtain ⟨a1,a2,a3,rfl⟩:=vlen3 k
 exact ⟨a0,a1,a2,a3,rfl⟩
end FL
end
section
namespace FL
theorem zcV:∀ l m:List Int,cmpDs (l.map D.int) (m.map D.int)=if l < m then .lt else if m < l then .gt else .eq
 | [],[]=>by simp [cmpDs]
 | [],b::m=>by simp [cmpDs]
 | a::l,[]=>by simp [cmpDs]
 | a::l,b::m=>by
   have ih:=zcV l m
   rw [map_cons,map_cons,cmpDs]
   unfold cmpD
   by_cases h1:a < b
   ·rw [if_pos h1,if_pos (cons_lt_cons_iff.mpr (.inl h1))]
   ·rw [if_neg h1]
    by_cases h2:b < a
    ·rw [if_pos h2,if_neg (by rw [cons_lt_cons_iff]; rintro (h | ⟨h,_⟩) <;> omega),if_pos (cons_lt_cons_iff.mpr (.inl h2))]
    ·have e:a=b:=by omega
     subst e
     rw [if_neg h2]
     show cmpDs (l.map D.int) (m.map D.int)=_
     rw [ih]
     have e1:(a::l < a::m)↔l < m:=by rw [cons_lt_cons_iff]; constructor
                                     ·rintro (h | ⟨_,h⟩)
                                      ·omega
                                      ·exact h
                                     ·intro h; exact .inr ⟨rfl,h⟩
     have e2:(a::m < a::l)↔m < l:=by rw [cons_lt_cons_iff]; constructor
                                     ·rintro (h | ⟨_,h⟩)
                                      ·omega
                                      ·exact h
                                     ·intro h; exact .inr ⟨rfl,h⟩
     simp only [e1,e2]
theorem zfM (l m:List Int):leD (tI l) (tI m)=!decide (m < l):=by
 unfold leD tI
 rw [show cmpD (.tup (l.map D.int)) (.tup (m.map D.int))=cmpDs (l.map D.int) (m.map D.int) from rfl,zcV]
 by_cases h:l < m
 ·rw [if_pos h,decide_eq_false (fun h'=>lt_asymm h h')]; rfl
 ·rw [if_neg h]
  by_cases h2:m < l
  ·rw [if_pos h2,decide_eq_true h2]; rfl
  ·rw [if_neg h2,decide_eq_false h2]; rfl
def IsTP (d:D):Prop:=∃ l:List Int,d=tI l
theorem zn9:OrdOn IsTP where
 tot:=by
  rintro _ _ ⟨a,rfl⟩ ⟨b,rfl⟩
  simp only [zfM,Bool.not_eq_true',decide_eq_false_iff_not]
  by_cases h:b < a
  ·exact .inr fun h'=>lt_asymm h h'
  ·exact .inl h
 tr:=by
  rintro _ _ _ ⟨a,rfl⟩ ⟨b,rfl⟩ ⟨c,rfl⟩
  simp only [zfM,Bool.not_eq_true',decide_eq_false_iff_not]
  intro h1 h2
  exact fun h=>(List.le_trans (l₁:=a) (l₂:=b) (l₃:=c) h1 h2) h
 anti:=by
  rintro _ _ ⟨a,rfl⟩ ⟨b,rfl⟩
  simp only [zfM,Bool.not_eq_true',decide_eq_false_iff_not]
  intro h1 h2
  have:a=b:=List.le_antisymm (as:=a) (bs:=b) h1 h2
  rw [this]
theorem zi6 {ls ms:List (List Int)} (h64:ls.length < 64) (hne:∀ x∈ls,x≠[]) (p:ms.Perm ls) (hs:ms.Pairwise fun a b=>¬ b < a):bSort3 [.lst (ls.map tI)]=some (.lst ((ms.map tI).map .sh)):=by
 rw [zgf h64 hne,za3 zn9 (fun d hd=>by obtain ⟨x,_,rfl⟩:=mem_map.mp hd; exact ⟨x,rfl⟩) (p.map _)]
 rw [pairwise_map]
 exact hs.imp fun h=>by rw [zfM]; simpa using h
abbrev Wd:=List Nat
def seg (w:Wd) (i j:Nat):Wd:=(w.drop i).take (j - i)
theorem zgb {α:Type} (l:List α) (i j:Nat):cutL l (some (i:Int)) (some (j:Int))=(l.drop i).take (j - i):=by
 unfold cutL sIx
 have h1:¬ (i:Int) < 0:=by omega
 have h2:¬ (j:Int) < 0:=by omega
 simp only [if_neg h1,if_neg h2,toNat_natCast]
 by_cases hi:i<=l.length
 ·rw [min_eq_left hi]
  by_cases hj:j<=l.length
  ·rw [min_eq_left hj]
  ·rw [min_eq_right (by omega),take_of_length_le (by rw [length_drop]; omega),take_of_length_le (by rw [length_drop]; omega)]
 ·rw [min_eq_right (a:=i) (by omega),drop_of_length_le (i:=l.length) (le_refl _),drop_of_length_le (i:=i) (by omega),take_nil,take_nil]
theorem zeY (w:Wd) (i j:Nat):cutL w (some (i:Int)) (some (j:Int))=seg w i j:=zgb w i j
theorem zku {w:Wd} {i j:Nat} (h1:i<=j) (h2:j<=w.length):(seg w i j).length=j - i:=by
 unfold seg; rw [length_take,length_drop]; omega
def tieB (B:List Wd) (w:Wd) (i j:Nat):Bool:=decide (i < j) && (decide (j<=w.length) && decide (seg w i j∈B))
theorem zap {B:List Wd} {w:Wd} {i j:Nat}:tieB B w i j=true↔i < j/\j<=w.length/\seg w i j∈B:=by
 unfold tieB; simp [and_eq_true]
def tie (B:List Wd) (w:Wd) (p q:Nat):Bool:=tieB B w p q || tieB B w q p
theorem zdW {B:List Wd} {w:Wd} {p q:Nat}:tie B w p q=tie B w q p:=by unfold tie; rw [Bool.or_comm]
def nb (B:List Wd) (w:Wd) (p:Nat):List Nat:=(List.range (w.length + 1)).filter fun q=>tie B w p q
theorem zaQ {B:List Wd} {w:Wd} {p q:Nat}:q∈nb B w p↔tie B w p q=true:=by
 unfold nb
 rw [mem_filter,mem_range]
 refine ⟨fun h=>h.2,fun h=>⟨?_,h⟩⟩
 unfold tie at h
 rw [or_eq_true,zap,zap] at h
 omega
theorem zcP {B:List Wd} {w:Wd} {p:Nat}:(nb B w p).Pairwise (· < ·):=List.Pairwise.filter _ List.pairwise_lt_range
theorem zgN {B:List Wd} {w:Wd} {p q:Nat} (h:q∈nb B w p):q<=w.length/\p<=w.length/\p≠q:=by
 rw [zaQ] at h
 unfold tie at h
 rw [or_eq_true,zap,zap] at h
 omega
abbrev Tr:=Nat×Nat×Nat
def strI (B:List Wd) (w:Wd) (i:Nat):List Tr:=(List.range (w.length + 1)).filterMap fun j=>if tieB B w i j=true then some (i,j,B.idxOf (seg w i j)) else none
def strP (B:List Wd) (w:Wd):List Tr:=(List.range w.length).flatMap (strI B w)
def rawI (B:List Wd) (w:Wd) (i:Nat):List Tr:=(List.range B.length).filterMap fun k=>if decide (seg w i (i + ((B[k]?).getD []).length)=(B[k]?).getD [])=true then some (i,i + ((B[k]?).getD []).length,k) else none
theorem zbp {B:List Wd} {w:Wd} {i:Nat} {t:Tr}:t∈strI B w i↔t.1=i/\tieB B w i t.2.1=true/\t.2.2=B.idxOf (seg w i t.2.1):=by
 unfold strI
 rw [mem_filterMap]
 constructor
 ·rintro ⟨j,_,h⟩
  split at h
  ·rename_i hj
   cases h
   exact ⟨rfl,hj,rfl⟩
  ·cases h
 ·rintro ⟨h1,h2,h3⟩
  refine ⟨t.2.1,?_,?_⟩
  ·rw [mem_range]; have:=zap.mp h2; omega
  ·subst h1
   rw [if_pos h2,<- h3]
theorem zdP {B:List Wd} {w:Wd} {t:Tr}:t∈strP B w↔tieB B w t.1 t.2.1=true/\t.2.2=B.idxOf (seg w t.1 t.2.1):=by
 unfold strP
 rw [List.mem_flatMap]
 constructor
 ·rintro ⟨i,_,h⟩
  obtain ⟨h1,h2,h3⟩:=zbp.mp h
  rw [h1]; exact ⟨h2,h3⟩
 ·rintro ⟨h1,h2⟩
  refine ⟨t.1,?_,zbp.mpr ⟨rfl,h1,h2⟩⟩
  rw [mem_range]; have:=zap.mp h1; omega
theorem zby {B:List Wd} {w:Wd} {i:Nat}:(strI B w i).Pairwise fun t u=>t.1=u.1/\t.2.1 < u.2.1:=by
 unfold strI
 rw [List.pairwise_filterMap]
 refine List.pairwise_lt_range.imp fun {a b} hab=>?_
 intro x hx y hy
 split at hx
 ·split at hy
  ·cases hx; cases hy
   exact ⟨rfl,hab⟩
  ·cases hy
 ·cases hx
theorem zcW {B:List Wd} {w:Wd}:(strP B w).Pairwise fun t u=>t.1 < u.1\/(t.1=u.1/\t.2.1 < u.2.1):=by
 unfold strP
 rw [List.pairwise_flatMap]
 refine ⟨fun i _=>zby.imp fun h=>.inr h,List.pairwise_lt_range.imp fun {a b} hab=>?_⟩
 intro x hx y hy
 have h1:=(zbp.mp hx).1
 have h2:=(zbp.mp hy).1
 left; omega
theorem zi1 {B:List Wd} {w:Wd} {i:Nat} {t:Tr}:t∈rawI B w i↔t.1=i/\∃ o,B[t.2.2]?=some o/\t.2.1=i + o.length/\seg w i (i + o.length)=o:=by
 unfold rawI
 rw [mem_filterMap]
 constructor
 ·rintro ⟨k,hk,h⟩
  rw [mem_range] at hk
  rw [getElem?_eq_getElem hk,getD_some] at h
  split at h
  ·rename_i hj
   cases h
   exact ⟨rfl,B[k],getElem?_eq_getElem hk,rfl,of_decide_eq_true hj⟩
  ·cases h
 ·rintro ⟨h1,o,h2,h3,h4⟩
  refine ⟨t.2.2,?_,?_⟩
  ·rw [mem_range]; exact (List.getElem?_eq_some_iff.mp h2).1
  ·rw [h2,getD_some,if_pos (decide_eq_true h4),<- h3,<- h1]
theorem zf9 {B:List Wd} {w:Wd} {i:Nat} (hB:B.Nodup) (hne:∀ x∈B,x≠[]) (hi:i<=w.length):(strI B w i).Perm (rawI B w i):=by
 refine (List.perm_ext_iff_of_nodup ?_ ?_).mpr fun t=>?_
 ·exact zby.imp fun ⟨_,h⟩ e=>by rw [e] at h; omega
 ·unfold rawI
  rw [List.Nodup,List.pairwise_filterMap]
  refine List.nodup_range.imp fun {a b} hab x hx y hy e=>?_
  subst e
  split at hx
  ·split at hy
   ·cases hx
    injection hy with hy
    injection hy with _ hy
    injection hy with _ hy
    exact hab hy.symm
   ·cases hy
  ·cases hx
 ·rw [zbp,zi1]
  constructor
  ·rintro ⟨h1,h2,h3⟩
   obtain ⟨a1,a2,a3⟩:=zap.mp h2
   have hl:=zku (w:=w) (i:=i) (j:=t.2.1) (by omega) a2
   refine ⟨h1,seg w i t.2.1,?_,by rw [hl]; omega,by rw [hl]; congr 1; omega⟩
   rw [h3]
   rw [getElem?_eq_getElem (List.idxOf_lt_length_of_mem a3),List.getElem_idxOf]
  ·rintro ⟨h1,o,h2,h3,h4⟩
   have hm:o∈B:=mem_of_getElem? h2
   have ho:=hne o hm
   have hpos:0 < o.length:=length_pos_iff.mpr ho
   have hle:i + o.length<=w.length:=by
    have:=congrArg List.length h4
    unfold seg at this
    rw [length_take,length_drop] at this
    omega
   refine ⟨h1,zap.mpr ⟨by omega,by omega,by rw [h3,h4]; exact hm⟩,?_⟩
   rw [h3,h4]
   obtain ⟨hk,e⟩:=List.getElem?_eq_some_iff.mp h2
   rw [<- e]
   exact (hB.idxOf_getElem _ hk).symm
theorem ziJ {B:List Wd} {w:Wd} {i:Nat} (hB:B.Nodup) (hne:∀ x∈B,x≠[]) (hi:i<=w.length):(strI B w i).length<=min B.length (w.length - i):=by
 refine Nat.le_min.mpr ⟨?_,?_⟩
 ·rw [(zf9 hB hne hi).length_eq]
  unfold rawI
  exact le_trans (List.length_filterMap_le _ _) (by simp)
 ·have h:=zbm ((strI B w i).map (·.2.1)) (List.range' (i + 1) (w.length - i)) ?_ ?_
  ·simpa using h
  ·rw [List.Nodup,pairwise_map]
   exact zby.imp fun ⟨_,h⟩=>by omega
  ·intro j hj
   obtain ⟨t,ht,rfl⟩:=mem_map.mp hj
   have:=zap.mp (zbp.mp ht).2.1
   rw [List.mem_range'_1]
   omega
theorem zd4 {α:Type} {f g:α->Nat}:∀ l:List α,(∀ x∈l,f x<=g x)->(l.map f).sum<=(l.map g).sum
 | [],_=>by simp
 | x::l,h=>by
   have h1:=h x (by simp)
   have h2:=zd4 l fun y hy=>h y (by simp [hy])
   simp only [map_cons,sum_cons]
   omega
theorem zfL {B:List Wd} {w:Wd} (hB:B.Nodup) (hne:∀ x∈B,x≠[]) (h6:B.length<=6) (h12:w.length<=12):(strP B w).length < 64:=by
 unfold strP
 rw [List.length_flatMap]
 have h1:=zd4 (f:=fun i=>(strI B w i).length) (g:=fun i=>min 6 (w.length - i)) (List.range w.length) fun i hi=>by
  have:=ziJ (w:=w) (i:=i) hB hne (by rw [mem_range] at hi; omega)
  omega
 have h2:∀ n,n<=12->((List.range n).map fun i=>min 6 (n - i)).sum < 64:=by decide
 exact Nat.lt_of_le_of_lt h1 (h2 _ h12)
theorem zd2 {α β:Type} {f g:α->List β}:∀ l:List α,(∀ x∈l,(f x).Perm (g x))->(l.flatMap f).Perm (l.flatMap g)
 | [],_=>.refl _
 | x::l,h=>by
   rw [flatMap_cons,flatMap_cons]
   exact (h x (by simp)).append (zd2 l fun y hy=>h y (by simp [hy]))
theorem zeD {B:List Wd} {w:Wd} (hB:B.Nodup) (hne:∀ x∈B,x≠[]):(strP B w).Perm ((List.range w.length).flatMap (rawI B w)):=
 zd2 _ fun i hi=>zf9 hB hne (by rw [mem_range] at hi; omega)
def trI (t:Tr):List Int:=[(t.1:Int),(t.2.1:Int),(t.2.2:Int)]
def trD (t:Tr):D:=tI (trI t)
theorem zkh (t:Tr):trD t=.tup [.int t.1,.int t.2.1,.int t.2.2]:=rfl
theorem ziw {B:List Wd} {w:Wd} {l:List Tr} (hp:(strP B w).Perm l) (h64:l.length < 64):bSort3 [.lst (l.map trD)]=some (.lst (((strP B w).map trD).map .sh)):=by
 have e:∀ l:List Tr,l.map trD=(l.map trI).map tI:=fun l=>by rw [map_map]; rfl
 rw [e,e]
 refine zi6 (by simpa using h64) (fun x hx=>?_) (hp.map _) ?_
 ·obtain ⟨t,_,rfl⟩:=mem_map.mp hx
  exact fun z=>nomatch z
 ·rw [pairwise_map]
  refine zcW.imp fun {t u} h=>?_
  unfold trI
  rw [cons_lt_cons_iff,cons_lt_cons_iff]
  rintro (h1 | ⟨h1,h2 | ⟨h2,_⟩⟩) <;> omega
theorem zfQ {α:Type} (f:α->D):∀ (B:List α) (k:Nat),enumF k (B.map f)=(List.range B.length).map fun i=>D.tup [.int ((k + i:Nat):Int),(B[i]?).elim .non f]
 | [],k=>rfl
 | b::B,k=>by
   rw [map_cons,enumF,zfQ f B (k + 1),length_cons,List.range_succ_eq_map,map_cons,map_map]
   congr 1
   refine map_congr_left fun i _=>?_
   show D.tup [.int ((k + 1 + i:Nat):Int),_]=D.tup [.int ((k + (i + 1):Nat):Int),_]
   rw [show k + 1 + i=k + (i + 1) by omega]
   rfl
theorem zia (B:List Wd):enumF 0 (B.map D.str)=(List.range B.length).map fun (k:Nat)=>D.tup [.int (k:Int),.str ((B[k]?).getD [])]:=by
 rw [zfQ]
 refine map_congr_left fun k hk=>?_
 rw [mem_range] at hk
 rw [getElem?_eq_getElem hk,zero_add]
 rfl
theorem from0 {z:Int} {n:Nat} (h:z=n):fromTo 0 z.toNat=(List.range n).map fun (k:Nat)=>D.int (k:Int):=by
 subst h
 unfold fromTo
 rw [toNat_natCast]
 refine map_congr_left fun k _=>?_
 rw [Int.zero_add]
theorem from1 {i z:Int} {a n:Nat} (hi:i=a) (h:z=n):fromTo i (z - i).toNat=(List.range' a (n - a)).map fun (k:Nat)=>D.int (k:Int):=by
 subst hi; subst h
 unfold fromTo
 rw [show ((n:Int) - (a:Int)).toNat=n - a by omega,List.range'_eq_map_range,map_map]
 refine map_congr_left fun k _=>?_
 show D.int ((a:Int) + (k:Int))=D.int ((a + k:Nat):Int)
 rw [natCast_add]
theorem zdK {α β:Type} {f g:α->Option β}:∀ {l:List α},(∀ x∈l,f x=g x)->l.filterMap f=l.filterMap g
 | [],_=>rfl
 | x::l,h=>by
   rw [filterMap_cons,filterMap_cons,h x (by simp),zdK fun y hy=>h y (by simp [hy])]
def natD (q:Nat):D:=.int (q:Int)
def fnd (n:Nat) (f:Nat->List Nat):List S:=(List.range (n + 1)).map fun p=>S.lst ((f p).map fun q=>S.sh (natD q))
theorem zhy {n i:Nat} {f:Nat->List Nat} (h:i<=n):(fnd n f)[i]?=some (.lst ((f i).map fun q=>S.sh (natD q))):=by
 unfold fnd
 rw [getElem?_map,getElem?_range (by omega)]
 rfl
def addTo (f:Nat->List Nat) (i j:Nat):Nat->List Nat:=fun p=>if p=i then f p++[j] else f p
theorem zio {n i j:Nat} {f:Nat->List Nat} (h:i<=n):(fnd n f).set i (.lst (((f i).map fun q=>S.sh (natD q))++[.sh (natD j)]))=fnd n (addTo f i j):=by
 apply ext_getElem?
 intro k
 rw [getElem?_set]
 unfold fnd
 by_cases hk:i=k
 ·subst hk
  rw [if_pos rfl,if_pos (by simp; omega),getElem?_map,getElem?_range (by omega)]
  simp [addTo]
 ·rw [if_neg hk,getElem?_map,getElem?_map]
  by_cases h2:k < n + 1
  ·rw [getElem?_range h2]
   simp only [map_some,addTo,if_neg (Ne.symm hk)]
  ·rw [getElem?_eq_none (by simp; omega)]
   rfl
def Dn (i j p q:Nat):Prop:=p < i\/q < i\/p=i/\q < j\/q=i/\p < j
def GoneT (B:List Wd) (w:Wd) (i j:Nat) (f:Nat->List Nat):Prop:=∀ p,(f p).Nodup/\∀ q,q∈f p↔(tie B w p q=true/\Dn i j p q)
theorem DnS {i j p q:Nat}:Dn i (j + 1) p q↔Dn i j p q\/p=i/\q=j\/q=i/\p=j:=by
 unfold Dn
 rw [Nat.lt_succ_iff_lt_or_eq,Nat.lt_succ_iff_lt_or_eq]
 constructor
 ·rintro (h | h | ⟨h,k | k⟩ | ⟨h,k | k⟩)
  ·exact .inl (.inl h)
  ·exact .inl (.inr (.inl h))
  ·exact .inl (.inr (.inr (.inl ⟨h,k⟩)))
  ·exact .inr (.inl ⟨h,k⟩)
  ·exact .inl (.inr (.inr (.inr ⟨h,k⟩)))
  ·exact .inr (.inr ⟨h,k⟩)
 ·rintro ((h | h | h | h) | h | h)
  ·exact .inl h
  ·exact .inr (.inl h)
  ·exact .inr (.inr (.inl ⟨h.1,.inl h.2⟩))
  ·exact .inr (.inr (.inr ⟨h.1,.inl h.2⟩))
  ·exact .inr (.inr (.inl ⟨h.1,.inr h.2⟩))
  ·exact .inr (.inr (.inr ⟨h.1,.inr h.2⟩))
theorem znW {i j:Nat} (hij:i < j):¬Dn i j i j/\¬Dn i j j i:=by unfold Dn; omega
theorem zir {B:List Wd} {w:Wd} {i j:Nat} (hij:i < j):tie B w i j=tieB B w i j:=by
 cases e:tieB B w j i with
 | false=>unfold tie; rw [e,Bool.or_false]
 | true=>exact absurd (zap.mp e).1 (Nat.lt_asymm hij)
theorem zly {B:List Wd} {w:Wd} {i j:Nat} {f:Nat->List Nat} (hij:i < j) (h:GoneT B w i j f) (ht:tieB B w i j=false):GoneT B w i (j + 1) f:=fun p=>⟨(h p).1,fun q=>by
 rw [(h p).2 q,DnS]
 refine and_congr_right fun z=>⟨.inl,fun k=>k.elim id fun k=>?_⟩
 rcases k with ⟨rfl,rfl⟩ | ⟨rfl,rfl⟩
 ·rw [zir hij,ht] at z; cases z
 ·rw [zdW,zir hij,ht] at z; cases z⟩
theorem addOne {l:List Nat} {P Q:Nat->Prop} {a:Nat} (h1:l.Nodup) (h2:∀ q,q∈l↔P q) (hn:¬P a) (h:∀ q,P q\/q=a↔Q q):(l++[a]).Nodup/\∀ q,q∈l++[a]↔Q q:=
 ⟨nodup_append.mpr ⟨h1,by simp,fun x hx b hb e=>hn ((h2 a).mp (by rw [mem_singleton.mp hb] at e; rwa [<- e]))⟩,fun q=>by rw [mem_append,mem_singleton,h2 q,h q]⟩
theorem zjK {B:List Wd} {w:Wd} {i j:Nat} {f:Nat->List Nat} (hij:i < j) (h:GoneT B w i j f) (ht:tieB B w i j=true):GoneT B w i (j + 1) (addTo (addTo f i j) j i):=fun p=>by
 obtain ⟨h1,h2⟩:=h p
 rw [<- zir hij] at ht
 show (addTo (addTo f i j) j i p).Nodup/\_
 unfold addTo
 by_cases hj:p=j
 ·subst hj
  rw [if_pos rfl,if_neg (ne_of_gt hij)]
  rw [zdW] at ht
  refine addOne h1 h2 (fun k=>(znW hij).2 k.2) fun q=>?_
  rw [DnS]
  constructor
  ·rintro (⟨a,b⟩ | rfl)
   ·exact ⟨a,.inl b⟩
   ·exact ⟨ht,.inr (.inr ⟨rfl,rfl⟩)⟩
  ·rintro ⟨a,b | ⟨b,_⟩ | ⟨b,_⟩⟩
   ·exact .inl ⟨a,b⟩
   ·exact absurd b (ne_of_gt hij)
   ·exact .inr b
 ·rw [if_neg hj]
  by_cases hi:p=i
  ·subst hi
   rw [if_pos rfl]
   refine addOne h1 h2 (fun k=>(znW hij).1 k.2) fun q=>?_
   rw [DnS]
   constructor
   ·rintro (⟨a,b⟩ | rfl)
    ·exact ⟨a,.inl b⟩
    ·exact ⟨ht,.inr (.inl ⟨rfl,rfl⟩)⟩
   ·rintro ⟨a,b | ⟨_,b⟩ | ⟨_,b⟩⟩
    ·exact .inl ⟨a,b⟩
    ·exact .inr b
    ·exact absurd b hj
  ·rw [if_neg hi]
   refine ⟨h1,fun q=>?_⟩
   rw [h2 q,DnS]
   refine and_congr_right fun _=>⟨.inl,fun k=>k.elim id fun k=>?_⟩
   rcases k with ⟨k,_⟩ | ⟨_,k⟩
   ·exact absurd k hi
   ·exact absurd k hj
theorem zi4 {B:List Wd} {w:Wd} {i n:Nat} {f:Nat->List Nat} (hw:w.length<=n) (h:GoneT B w i (n + 1) f):GoneT B w (i + 1) (i + 2) f:=fun p=>by
 obtain ⟨h1,h2⟩:=h p
 refine ⟨h1,fun q=>?_⟩
 rw [h2 q]
 refine and_congr_right fun htq=>?_
 have:p<=n/\q<=n/\p≠q:=by
  have:=zgN (zaQ.mpr htq); omega
 unfold Dn
 omega
theorem zgz {B:List Wd} {w:Wd}:GoneT B w 0 1 fun _=>[]:=fun p=>⟨by simp,fun q=>by
 simp only [not_mem_nil,false_iff]
 rintro ⟨h,h2⟩
 have:=zgN (zaQ.mpr h)
 unfold Dn at h2
 omega⟩
theorem zh8 {B:List Wd} {w:Wd} {i j p:Nat} {f:Nat->List Nat} (hi:w.length<=i) (h:GoneT B w i j f):(nb B w p).Perm (f p):=by
 obtain ⟨h1,h2⟩:=h p
 refine (List.perm_ext_iff_of_nodup (zcP.imp fun h=>by omega) h1).mpr fun q=>?_
 rw [zaQ,h2 q]
 refine ⟨fun ht=>⟨ht,?_⟩,fun ht=>ht.1⟩
 have:=zgN (zaQ.mpr ht)
 unfold Dn
 omega
theorem zef {B:List Wd} {w:Wd} {p:Nat}:(nb B w p).length<=w.length + 1:=by
 unfold nb
 exact le_trans (List.length_filter_le _ _) (by simp)
def tiesL (B:List Wd) (w:Wd):List D:=(List.range (w.length + 1)).map fun p=>D.lst ((nb B w p).map natD)
theorem zlf {B:List Wd} {w:Wd} {p:Nat} {l:List Nat} (hp:(nb B w p).Perm l) (hw:w.length<=60):bSort3 [.lst (l.map natD)]=some (.lst (((nb B w p).map natD).map .sh)):=by
 have e:∀ l:List Nat,l.map natD=(l.map fun (q:Nat)=>(q:Int)).map D.int:=fun l=>by rw [map_map]; rfl
 rw [e,e]
 refine zim (by rw [length_map,<- hp.length_eq]; have:=zef (B:=B) (w:=w) (p:=p); omega) (hp.map _) ?_
 rw [pairwise_map]
 exact zcP.imp fun h=>by omega
theorem zex {n:Nat} {pre post:List Nat} {i:Nat} (h:pre++i::post=List.range n):pre.length=i/\i < n:=by
 have h1:(List.range n)[pre.length]?=some i:=by rw [<- h]; simp
 obtain ⟨h2,h3⟩:=List.getElem?_eq_some_iff.mp h1
 rw [List.getElem_range] at h3
 rw [length_range] at h2
 omega
theorem zdo {a n:Nat} {pre post:List Nat} {i:Nat} (h:pre++i::post=List.range' a n):i=a + pre.length/\pre.length < n:=by
 have h1:(List.range' a n)[pre.length]?=some i:=by rw [<- h]; simp
 obtain ⟨h2,h3⟩:=List.getElem?_eq_some_iff.mp h1
 rw [List.getElem_range'] at h3
 rw [List.length_range'] at h2
 omega
theorem zfB {B:List Wd} {w:Wd} {i j:Nat} {f:Nat->List Nat} (h:GoneT B w i j f) (p:Nat):(f p).length<=w.length + 1:=by
 obtain ⟨h1,h2⟩:=h p
 have:=zbm (f p) (nb B w p) h1 fun q hq=>zaQ.mpr ((h2 q).mp hq).1
 have:=zef (B:=B) (w:=w) (p:=p)
 omega
end FL
end
section
namespace FL
inductive Conn (R:Nat->Nat->Prop):Nat->Nat->Prop
 | refl (p:Nat):Conn R p p
 | step {p q r:Nat}:Conn R p q->R q r->Conn R p r
theorem Conn.trans {R:Nat->Nat->Prop} {p q r:Nat} (h1:Conn R p q) (h2:Conn R q r):Conn R p r:=by
 induction h2 with
 | refl=>exact h1
 | step _ e ih=>exact .step ih e
def TieR (B:List Wd) (w:Wd) (p q:Nat):Prop:=tie B w p q=true
theorem zhr {B:List Wd} {w:Wd} (p q:Nat) (h:TieR B w p q):TieR B w q p:=by unfold TieR at *; rw [zdW]; exact h
theorem zcw:∀ l m:List Int,clashs (l.map D.int) (m.map D.int)=false
 | [],_=>by cases ‹List Int› <;> rfl
 | _::_,[]=>rfl
 | a::l,b::m=>by
   show (clash (.int a) (.int b) || clashs (l.map D.int) (m.map D.int))=false
   rw [zcw l m]; rfl
theorem zgQ:∀ {l m:List Int},l.map D.int=m.map D.int->l=m
 | [],[],_=>rfl
 | [],_::_,h=>nomatch h
 | _::_,[],h=>nomatch h
 | a::l,b::m,h=>by
   simp only [map_cons,List.cons.injEq] at h
   rw [zgQ h.2]
   injection h.1 with e
   rw [e]
theorem zje {l m:List Int}:cEq (.lst (l.map D.int)) (.lst (m.map D.int))=some (decide (l=m)):=by
 unfold cEq
 rw [if_neg (by
  have:dep (.lst (l.map D.int))=1:=by show deps (l.map D.int) + 1=1; rw [zcp]
  rw [this,show clash (.lst (l.map D.int)) (.lst (m.map D.int))=clashs (l.map D.int) (m.map D.int) from rfl,zcw]
  decide)]
 by_cases h:l=m
 ·subst h; simp
 ·have hz:¬ (D.lst (l.map D.int)=D.lst (m.map D.int)):=fun z=>h (zgQ (by injection z))
  simp [h,hz]
theorem ziP {l m:List Int}:cNe (.lst (l.map D.int)) (.lst (m.map D.int))=some (!decide (l=m)):=by
 unfold cNe; rw [zje]; rfl
theorem zn8 {x:Int} {l:List Int}:∃ m,(x::l).min?=some m/\m∈x::l/\∀ y∈x::l,m<=y:=by
 cases e:(x::l).min? with
 | none=>cases List.min?_eq_none_iff.mp e
 | some m=>exact ⟨m,rfl,List.min?_mem e,fun y hy=>(List.le_min?_iff e).mp (Int.le_refl m) y hy⟩
theorem zkG {B:List Wd} {w:Wd} (p q:Nat) (h:TieR B w p q):p<=w.length/\q<=w.length:=by
 have:=zgN (zaQ.mpr h)
 exact ⟨this.2.1,this.1⟩
theorem znX (l:List (List Nat)):strsD (l.map D.str)=some l:=by
 induction l with
 | nil=>rfl
 | cons a l ih=>show (strsD (l.map D.str)).map (a::·)=_; rw [ih]; rfl
theorem zhe {l:List (List Nat)} (h:(l.map List.length).sum<=big):mJoin [] [.lst (l.map D.str)]=some (.sh (.str l.flatten)):=by
 show (strsD (l.map D.str)).bind _=_
 rw [znX]
 show (if (l.map List.length).sum + l.length * [].length<=big then some (S.sh (.str (joinD [] l))) else none)=_
 rw [if_pos (by simpa using h),zet]
def whE (D':Ends) (m:Nat) (J:Nat->Env->Prop):Ends:={ D' with nx:=fun U2=>∃ m',m' < m/\J m' U2,ct:=fun U2=>∃ m',m' < m/\J m' U2,bk:=D'.nx }
def kWh (b:WS) (D':Ends) (m:Nat) (J:Nat->Env->Prop) (k:Bool) (U:Env):Prop:=if k then b (whE D' m J) U else D'.nx U
theorem x_Wt {b:WS} {D':Ends} {m:Nat} {J:Nat->Env->Prop} {U:Env}:kWh b D' m J true U=b (whE D' m J) U:=rfl
theorem x_Wf {b:WS} {D':Ends} {m:Nat} {J:Nat->Env->Prop} {U:Env}:kWh b D' m J false U=D'.nx U:=rfl
theorem zl7 {D':Ends} {m m':Nat} {J:Nat->Env->Prop} {U:Env} (hm:m' < m) (h:J m' U):(whE D' m J).nx U:=⟨m',hm,h⟩
theorem zmN {c:WT} {b:WS} {D':Ends} {U:Env} (J:Nat->Env->Prop) (m:Nat) (h0:J m U) (h:∀ m U,J m U->c U (kWh b D' m J) D'.ex):wWhile c b D' U:=⟨J,⟨m,h0⟩,fun m U hJ=>h m U hJ⟩
theorem zfy {α:Type} {l:List α} (h:0 < l.length):∃ v,v∈l/\l.getLast?=some v/\atI l (-1)=some v:=by
 refine ⟨l.getLast (length_pos_iff.mp h),List.getLast_mem _,List.getLast?_eq_some_getLast (length_pos_iff.mp h),?_⟩
 unfold atI ixN
 rw [if_neg (by decide),if_pos (by omega)]
 show l[((-1:Int) + (l.length:Int)).toNat]?=_
 rw [show ((-1:Int) + (l.length:Int)).toNat=l.length - 1 by omega,getElem?_eq_getElem (by omega),List.getLast_eq_getElem]
end FL
end
section
namespace FL
inductive Walk (R:Nat->Nat->Prop) (g:Nat):Nat->Nat->Prop
 | zero:Walk R g 0 g
 | step {d p q:Nat}:Walk R g d p->R p q->Walk R g (d + 1) q
def IsDist (R:Nat->Nat->Prop) (g q d:Nat):Prop:=Walk R g d q/\∀ d',d' < d->¬ Walk R g d' q
section
variable {R:Nat->Nat->Prop} {g:Nat}
theorem Walk.inv {d q:Nat} (h:Walk R g d q):(d=0/\q=g)\/∃ e p,d=e + 1/\Walk R g e p/\R p q:=by
 cases h with
 | zero=>exact .inl ⟨rfl,rfl⟩
 | step h e=>exact .inr ⟨_,_,rfl,h,e⟩
theorem zcm {q d e:Nat} (h:IsDist R g q d) (k:IsDist R g q e):d=e:=by
 rcases Nat.lt_trichotomy d e with z | z | z
 ·exact (k.2 d z h.1).elim
 ·exact z
 ·exact (h.2 e z k.1).elim
theorem zg8 {q:Nat}:∀ {d:Nat},Walk R g d q->∃ e,e<=d/\IsDist R g q e:=by
 intro d
 induction d using Nat.strongRecOn with
 | _ d ih=>
   intro h
   by_cases z:∃ d',d' < d/\Walk R g d' q
   ·obtain ⟨d',hd,hw⟩:=z
    obtain ⟨e,he,hi⟩:=ih d' hd hw
    exact ⟨e,by omega,hi⟩
   ·exact ⟨d,le_refl _,h,fun d' hd hw=>z ⟨d',hd,hw⟩⟩
theorem zeJ:IsDist R g g 0:=⟨.zero,fun d' h=>by omega⟩
theorem zf3 {q:Nat} (h:IsDist R g q 0):q=g:=by
 rcases h.1.inv with ⟨_,e⟩ | ⟨_,_,e,_⟩
 ·exact e
 ·omega
theorem znt {d:Nat} (h:IsDist R g g d):d=0:=zcm h zeJ
theorem zbM {q d:Nat} (h:IsDist R g q (d + 1)):∃ p,IsDist R g p d/\R p q:=by
 rcases h.1.inv with ⟨e,_⟩ | ⟨e,p,z,hw,hr⟩
 ·omega
 ·obtain rfl:d=e:=by omega
  refine ⟨p,⟨hw,fun d' hd hw'=>h.2 (d' + 1) (by omega) (.step hw' hr)⟩,hr⟩
theorem zaR {q d:Nat} (h:Walk R g d q):Conn R g q:=by
 induction h with
 | zero=>exact .refl _
 | step _ e ih=>exact .step ih e
theorem zh5 {q:Nat} (h:Conn R g q):∃ d,Walk R g d q:=by
 induction h with
 | refl=>exact ⟨0,.zero⟩
 | step _ e ih=>obtain ⟨d,h⟩:=ih; exact ⟨d + 1,.step h e⟩
theorem zbC {q:Nat}:Conn R g q↔∃ d,IsDist R g q d:=by
 constructor
 ·intro h
  obtain ⟨d,h⟩:=zh5 h
  obtain ⟨e,_,h⟩:=zg8 h
  exact ⟨e,h⟩
 ·rintro ⟨d,h⟩
  exact zaR h.1
open Classical in
noncomputable def dst (R:Nat->Nat->Prop) (g q:Nat):Nat:=if h:∃ d,IsDist R g q d then Classical.choose h else 0
theorem zde {q d:Nat} (h:IsDist R g q d):dst R g q=d:=by
 unfold dst
 rw [dif_pos ⟨d,h⟩]
 exact zcm (Classical.choose_spec (⟨d,h⟩:∃ d,IsDist R g q d)) h
structure Right (R:Nat->Nat->Prop) (g:Nat) (L:List (Nat×Nat)):Prop where
 ok:∀ t∈L,IsDist R g t.1 t.2
 nd:(L.map (·.1)).Nodup
theorem Right.at {L:List (Nat×Nat)} (h:Right R g L) {q d e:Nat} (h1:(q,d)∈L) (h2:IsDist R g q e):d=e:=zcm (h.ok _ h1) h2
structure Queue (R:Nat->Nat->Prop) (g:Nat) (L:List (Nat×Nat)) (qu:List (Nat×Nat)):Prop where
 right:Right R g L
 sub:∀ t∈qu,t∈L
 out:∀ t∈L,t∉qu->∀ q,R t.1 q->∃ e,(q,e)∈L
 up:qu.Pairwise fun t u=>t.2<=u.2
 near:∀ t r,qu=t::r->∀ u∈r,u.2<=t.2 + 1
 all:∀ t r,qu=t::r->∀ q e,IsDist R g q e->e<=t.2->(q,e)∈L
 gin:(g,0)∈L
theorem Queue.done {L:List (Nat×Nat)} (h:Queue R g L []) {q d:Nat} (k:IsDist R g q d):(q,d)∈L:=by
 induction d generalizing q with
 | zero=>rw [zf3 k]; exact h.gin
 | succ d ih=>
   obtain ⟨p,hp,hr⟩:=zbM k
   obtain ⟨e,he⟩:=h.out _ (ih hp) (by simp) q hr
   have:=h.right.at he k
   rw [<- this]; exact he
structure Mid (R:Nat->Nat->Prop) (g:Nat) (L qu:List (Nat×Nat)) (t:Nat×Nat) (pre:List Nat):Prop where
 right:Right R g L
 tin:t∈L
 sub:∀ u∈qu,u∈L
 out:∀ u∈L,u∉qu->u≠t->∀ q,R u.1 q->∃ e,(q,e)∈L
 gone:∀ q∈pre,∃ e,(q,e)∈L
 up:qu.Pairwise fun t u=>t.2<=u.2
 lo:∀ u∈qu,t.2<=u.2/\u.2<=t.2 + 1
 all:∀ q e,IsDist R g q e->e<=t.2->(q,e)∈L
 gin:(g,0)∈L
theorem Queue.take {L qu:List (Nat×Nat)} {t:Nat×Nat} (h:Queue R g L (t::qu)):Mid R g L qu t [] where
 right:=h.right
 tin:=h.sub t (by simp)
 sub u hu:=h.sub u (by simp [hu])
 out u hu hn ht:=h.out u hu (by simp [hn,ht])
 gone:=by simp
 up:=(pairwise_cons.mp h.up).2
 lo u hu:=⟨(pairwise_cons.mp h.up).1 u hu,h.near t qu rfl u hu⟩
 all q e hq he:=h.all t qu rfl q e hq he
 gin:=h.gin
theorem Mid.skip {L qu:List (Nat×Nat)} {t:Nat×Nat} {pre:List Nat} {q e:Nat} (h:Mid R g L qu t pre) (hq:(q,e)∈L):Mid R g L qu t (pre++[q]):=
 ⟨h.right,h.tin,h.sub,h.out,fun x hx=>(mem_append.mp hx).elim (h.gone x) fun z=>⟨e,by rw [mem_singleton.mp z]; exact hq⟩,h.up,h.lo,h.all,h.gin⟩
theorem Mid.put {L qu:List (Nat×Nat)} {t:Nat×Nat} {pre:List Nat} {q:Nat} (h:Mid R g L qu t pre) (hr:R t.1 q) (hn:∀ e,(q,e)∉L):Mid R g (L++[(q,t.2 + 1)]) (qu++[(q,t.2 + 1)]) t (pre++[q]):=by
 have hd:IsDist R g q (t.2 + 1):=by
  refine ⟨.step (h.right.ok t h.tin).1 hr,fun d' hd' hw=>?_⟩
  obtain ⟨e,he,hi⟩:=zg8 hw
  exact hn e (h.all q e hi (by omega))
 refine ⟨⟨fun u hu=>?_,?_⟩,mem_append_left _ h.tin,fun u hu=>?_,fun u hu hnu hut=>?_,fun x hx=>?_,?_,fun u hu=>?_,fun x e hx he=>mem_append_left _ (h.all x e hx he),mem_append_left _ h.gin⟩
 ·rcases mem_append.mp hu with z | z
  ·exact h.right.ok u z
  ·rw [mem_singleton.mp z]; exact hd
 ·rw [map_append]
  refine nodup_append.mpr ⟨h.right.nd,by simp,fun x hx y hy e=>?_⟩
  simp only [map_cons,map_nil,mem_singleton] at hy
  subst e
  obtain ⟨u,hu,eu⟩:=mem_map.mp hx
  exact hn u.2 (by rw [<- hy,<- eu]; exact hu)
 ·rcases mem_append.mp hu with z | z
  ·exact mem_append_left _ (h.sub u z)
  ·exact mem_append_right _ z
 ·rcases mem_append.mp hu with z | z
  ·intro x hx
   obtain ⟨e,he⟩:=h.out u z (fun k=>hnu (mem_append_left _ k)) hut x hx
   exact ⟨e,mem_append_left _ he⟩
  ·exact (hnu (mem_append_right _ z)).elim
 ·rcases mem_append.mp hx with z | z
  ·obtain ⟨e,he⟩:=h.gone x z
   exact ⟨e,mem_append_left _ he⟩
  ·rw [mem_singleton.mp z]; exact ⟨t.2 + 1,by simp⟩
 ·refine List.pairwise_append.mpr ⟨h.up,by simp,fun x hx y hy=>?_⟩
  rw [mem_singleton.mp hy]
  exact (h.lo x hx).2
 ·rcases mem_append.mp hu with z | z
  ·exact h.lo u z
  ·rw [mem_singleton.mp z]; exact ⟨by show t.2<=t.2 + 1; omega,le_refl _⟩
theorem Mid.queue {L qu:List (Nat×Nat)} {t:Nat×Nat} {l:List Nat} (h:Mid R g L qu t l) (hl:∀ q,R t.1 q->q∈l):Queue R g L qu:=by
 have hout:∀ u∈L,u∉qu->∀ q,R u.1 q->∃ e,(q,e)∈L:=fun u hu hn q hq=>by
  by_cases e:u=t
  ·subst e; exact h.gone q (hl q hq)
  ·exact h.out u hu hn e q hq
 refine ⟨h.right,h.sub,hout,h.up,fun t' r e u hu=>?_,fun t' r e q d hq hd=>?_,h.gin⟩
 ·subst e
  have h1:=h.lo u (by simp [hu])
  have h2:=h.lo t' (by simp)
  omega
 ·subst e
  have h2:=h.lo t' (by simp)
  rcases Nat.lt_or_ge t.2 d with z | z
  ·obtain ⟨k,rfl⟩:∃ k,d=k + 1:=⟨d - 1,by omega⟩
   obtain ⟨p,hp,hr⟩:=zbM hq
   have hpL:=h.all p k hp (by omega)
   -- p was taken out,or it is in the queue with less than the first has
   by_cases hm:(p,k)∈t'::r
   ·have h3:=h.lo _ hm
    have h4:t'.2<=k:=by
     rcases mem_cons.mp hm with z2 | z2
     ·rw [<- z2]; exact le_refl _
     ·exact (pairwise_cons.mp h.up).1 _ z2
    omega
   ·obtain ⟨e,he⟩:=hout _ hpL hm q hr
    have:=h.right.at he hq
    rw [<- this]; exact he
  ·exact h.all q d hq z
theorem Queue.start:Queue R g [(g,0)] [(g,0)] where
 right:=⟨fun t ht=>by rw [mem_singleton.mp ht]; exact zeJ,by simp⟩
 sub t ht:=ht
 out t ht hn:=(hn ht).elim
 up:=by simp
 near t r e u hu:=by
  injection e with _ e
  rw [<- e] at hu; cases hu
 all t r e q d hq hd:=by
  injection e with e _
  rw [<- e] at hd
  obtain rfl:d=0:=by simpa using hd
  rw [zf3 hq]; simp
 gin:=by simp
end
def keyL (L:List (Nat×Nat)):List D:=L.map fun t=>natD t.1
def valL (L:List (Nat×Nat)):List D:=L.map fun t=>natD t.2
theorem zdx {a b:Nat} (h:natD a=natD b):a=b:=by
 unfold natD at h
 injection h with h
 omega
theorem zf6 {L:List (Nat×Nat)} {q:Nat}:D.int (q:Int)∈keyL L↔∃ d,(q,d)∈L:=by
 unfold keyL
 rw [mem_map]
 constructor
 ·rintro ⟨t,ht,e⟩
  exact ⟨t.2,by rw [<- zdx (a:=t.1) (b:=q) e]; exact ht⟩
 ·rintro ⟨d,hd⟩
  exact ⟨(q,d),hd,rfl⟩
theorem zk8 {L:List (Nat×Nat)} (h:(L.map (·.1)).Nodup):(keyL L).Nodup:=by
 unfold keyL
 have:(L.map fun t=>natD t.1)=(L.map (·.1)).map natD:=by rw [map_map]; rfl
 rw [this,List.Nodup,pairwise_map]
 exact h.imp fun hab e=>hab (zdx e)
open Classical in
theorem zha {L:List (Nat×Nat)} {vs:List D} {q:Nat}:cInA (.int (q:Int)) (.dct false (keyL L) vs)=some (decide (∃ d,(q,d)∈L)):=by
 show cIn (.int (q:Int)) (.dct false (keyL L) vs)=_
 show (if isKey false (.int (q:Int)) then some (decide (D.int (q:Int)∈keyL L)) else none)=_
 rw [if_pos (show isKey false (.int (q:Int))=true from rfl)]
 congr 1
 exact decide_eq_decide.mpr zf6
open Classical in
theorem zhi {L:List (Nat×Nat)} {vs:List D} {q:Nat} (h:∃ d,(q,d)∈L):cIn (.int (q:Int)) (.dct false (keyL L) vs)=some true:=by
 have:=zha (L:=L) (vs:=vs) (q:=q)
 rw [decide_eq_true h] at this
 exact this
open Classical in
theorem zj4 {L:List (Nat×Nat)} {vs:List D} {q:Nat} (h:¬ ∃ d,(q,d)∈L):cIn (.int (q:Int)) (.dct false (keyL L) vs)=some false:=by
 have:=zha (L:=L) (vs:=vs) (q:=q)
 rw [decide_eq_false h] at this
 exact this
open Classical in
theorem zeV {α:Type} {f:Nat->α}:∀ {L:List (Nat×Nat)} {q d:Nat},(L.map (·.1)).Nodup->(q,d)∈L->lk (keyL L) (L.map fun t=>f t.2) (.int (q:Int))=some (f d)
 | [],_,_,_,h=>nomatch h
 | t::L,q,d,hn,h=>by
   show (if natD t.1=.int (q:Int) then some (f t.2) else lk (keyL L) (L.map fun t=>f t.2) (.int (q:Int)))=_
   rw [map_cons,nodup_cons] at hn
   rcases mem_cons.mp h with e | h
   ·rw [<- e,if_pos (show natD (q,d).1=.int (q:Int) from rfl)]
   ·have hne:¬ natD t.1=.int (q:Int):=fun e=>hn.1 (by rw [zdx (a:=t.1) (b:=q) e]; exact mem_map.mpr ⟨_,h,rfl⟩)
    rw [if_neg hne]
    exact zeV hn.2 h
theorem zji {L:List (Nat×Nat)} {l:List S} {q:Nat} {s:S} (h:∀ d,(q,d)∉L):dputS false (keyL L) l (.int (q:Int)) s=.dct false (keyL L++[.int (q:Int)]) (l++[s]):=by
 unfold dputS
 have:fIx (keyL L) (.int (q:Int))=none:=by
  unfold fIx
  rw [List.findIdx?_eq_none_iff]
  intro x hx
  rw [decide_eq_false_iff_not]
  intro e
  subst e
  obtain ⟨d,hd⟩:=zf6.mp hx
  exact h d hd
 rw [this]
noncomputable def nearer (B:List Wd) (w:Wd) (p:Nat):Nat:=(((nb B w p).filter fun q=>decide (dst (TieR B w) w.length q + 1=dst (TieR B w) w.length p)).head?).getD p
noncomputable def wayP (B:List Wd) (w:Wd):Nat->Nat->List Nat
 | 0,p=>[p]
 | d + 1,p=>p::wayP B w d (nearer B w p)
theorem zdF {α:Type} {l:List α} {x:α}:atI (l++[x]) (-1)=some x:=by
 obtain ⟨v,_,h1,h2⟩:=zfy (l:=l++[x]) (by simp)
 rw [h2]
 rw [List.getLast?_append] at h1
 simpa using h1.symm
theorem ziY {x:Nat} {l:List Nat} (h:(x::l).Pairwise (· < ·)):((x::l).map fun q=>((q:Nat):Int)).min?=some ((x:Nat):Int):=by
 rw [map_cons]
 obtain ⟨m,em,hm,hle⟩:=zn8 (x:=((x:Nat):Int)) (l:=l.map fun q=>((q:Nat):Int))
 rw [em]
 have h1:=hle _ (mem_cons_self ..)
 rcases mem_cons.mp hm with e | hm
 ·rw [e]
 ·obtain ⟨q,hq,rfl⟩:=mem_map.mp hm
  have:=(pairwise_cons.mp h).1 q hq
  omega
theorem zcC {B:List Wd} {w:Wd} {p d:Nat} (h:IsDist (TieR B w) w.length p (d + 1)):∃ r,((nb B w p).filter fun q=>decide (dst (TieR B w) w.length q + 1=dst (TieR B w) w.length p))=nearer B w p::r/\IsDist (TieR B w) w.length (nearer B w p) d:=by
 obtain ⟨q,hq,hr⟩:=zbM h
 have hm:q∈(nb B w p).filter fun q=>decide (dst (TieR B w) w.length q + 1=dst (TieR B w) w.length p):=by
  rw [mem_filter]
  exact ⟨zaQ.mpr (zhr _ _ hr),decide_eq_true (by rw [zde hq,zde h])⟩
 cases e:(nb B w p).filter fun q=>decide (dst (TieR B w) w.length q + 1=dst (TieR B w) w.length p) with
 | nil=>rw [e] at hm; cases hm
 | cons x r=>
   have hx:nearer B w p=x:=by unfold nearer; rw [e]; rfl
   rw [hx]
   refine ⟨r,rfl,?_⟩
   have hxm:x∈(nb B w p).filter fun q=>decide (dst (TieR B w) w.length q + 1=dst (TieR B w) w.length p):=by rw [e]; simp
   obtain ⟨h1,h2⟩:=mem_filter.mp hxm
   have h2:=of_decide_eq_true h2
   obtain ⟨k,hk⟩:=zbC.mp ((zaR h.1).step (zaQ.mp h1))
   rw [zde hk,zde h] at h2
   obtain rfl:k=d:=by omega
   exact hk
theorem zdI {R:Nat->Nat->Prop} {g:Nat}:∀ {d p:Nat},IsDist R g p d->∀ k,k<=d->∃ q,IsDist R g q k
 | 0,p,h,k,hk=>by
   obtain rfl:k=0:=by omega
   exact ⟨p,h⟩
 | d + 1,p,h,k,hk=>by
   rcases Nat.lt_or_ge d k with z | z
   ·obtain rfl:k=d + 1:=by omega
    exact ⟨p,h⟩
   ·obtain ⟨q,hq,_⟩:=zbM h
    exact zdI hq k z
theorem zjw {R:Nat->Nat->Prop} {g p d:Nat} {L:List (Nat×Nat)} (hq:Queue R g L []) (hd:IsDist R g p d):d + 1<=L.length:=by
 have:=zbm (List.range (d + 1)) (L.map (·.2)) List.nodup_range fun k hk=>by
  obtain ⟨q,h⟩:=zdI hd k (by have:=mem_range.mp hk; omega)
  exact mem_map.mpr ⟨(q,k),hq.done h,rfl⟩
 rw [length_range,length_map] at this
 exact this
end FL
end
noncomputable section
namespace Law
open FL
def w_0_c1:WB:=bEmit 2 (wTup (wCons (wVar 3) (wCons (wBin oAdd (wVar 3) (wB bLen (wCons (wVar 5) wNil))) (wCons (wVar 4) wNil))))
def u_0_c1 {Q:Env->Prop} {E:WX} {U:Env}:=uB (U:=U) (Q:=Q) (E:=E) w_0_c1.eq_1
def w_0_c2:WB:=bFor (wEnum (wVar 0)) (gTup [gName 4,gName 5]) (wCmp cEq (wSl (wVar 1) (some (wVar 3)) (some (wBin oAdd (wVar 3) (wB bLen (wCons (wVar 5) wNil))))) (wVar 5)) w_0_c1
def u_0_c2 {Q:Env->Prop} {E:WX} {U:Env}:=uB (U:=U) (Q:=Q) (E:=E) w_0_c2.eq_1
def w_0:WF:=wFn 2 2 [0,1]
 (wRet (wB bSort3 (wCons (wLC 2 3 (wRange1 (wB bLen (wCons (wVar 1) wNil))) (gName 3) wYes w_0_c2) wNil)))
def w_3:WF:=wFn 2 4 [0,1]
 (wSeq (wAsg (gName 2) (wBin oAdd (wBin oMulA (wC (.int 7919)) (wVar 1)) (wC (.int 11))))
  (wSeq (wIf (wCmp cLt (wVar 1) (wB bLen (wCons (wVar 0) wNil))) (wAsg (gName 2) (wIx (wVar 0) (wVar 1))) (wIf (wCmp cGt (wB bLen (wCons (wVar 0) wNil)) (wC (.int 0))) (wAsg (gName 2) (wBin oAdd (wVar 2) (wBin oMulA (wBin oMod (wIx (wVar 0) (wBin oMod (wVar 1) (wB bLen (wCons (wVar 0) wNil)))) (wC (.int 2147483629))) (wC (.int 69623))))) wPass))
  (wSeq (wAsg (gName 3) (wBin oAdd (wBin oMod (wBin oAdd (wBin oMulA (wBin oMod (wVar 2) (wC (.int 2147483629))) (wC (.int 48271))) (wBin oMulA (wC (.int 40692)) (wVar 1))) (wC (.int 2147483629))) (wC (.int 1))))
  (wRet (wLst (wCons (wIx (wLst (wCons (wC (.int 0)) (wCons (wVar 2) wNil))) (wB bInt (wCons (wOfT (wCmp cGe (wVar 2) (wBin oPow (wC (.int 10)) (wC (.int 18))))) wNil))) (wCons (wVar 3) wNil)))))))
def w_4:WF:=wFn 2 4 [0,1]
 (wSeq (wIf (wCmp cGt (wIx (wVar 0) (wC (.int 0))) (wC (.int 0))) (wSeq (wAsg (gName 2) (wBin oMod (wIx (wVar 0) (wC (.int 0))) (wVar 1)))
  (wSeq (wSetIx 0 (wC (.int 0)) (wBin oFdiv (wIx (wVar 0) (wC (.int 0))) (wVar 1)))
  (wRet (wVar 2)))) wPass)
  (wSeq (wAsg (gName 3) (wBin oMod (wBin oMulA (wIx (wVar 0) (wC (.int 1))) (wC (.int 69623))) (wC (.int 2147483647))))
  (wSeq (wSetIx 0 (wC (.int 1)) (wBin oAdd (wBin oMod (wBin oAdd (wBin oMulA (wVar 3) (wC (.int 48271))) (wC (.int 30103))) (wC (.int 2147483629))) (wC (.int 1))))
  (wRet (wBin oMod (wBin oFdiv (wBin oAdd (wBin oMulA (wVar 3) (wC (.int 2147483647))) (wIx (wVar 0) (wC (.int 1)))) (wC (.int 8191))) (wVar 1))))))
def w_9_b1:WS:=wSeq (wIf (wtAnd (wCmp cEq (wSl (wVar 1) (some (wVar 2)) (some (wBin oAdd (wVar 2) (wB bLen (wCons (wVar 5) wNil))))) (wSl (wVar 5) none (some (wBin oSub (wB bLen (wCons (wVar 1) wNil)) (wVar 2))))) (wCmp cLe (wBin oAdd (wVar 2) (wB bLen (wCons (wVar 5) wNil))) (wVar 3))) (wExpr (wAppend 4 (wTup (wCons (wVar 5) (wCons (wBin oAdd (wVar 2) (wB bLen (wCons (wVar 5) wNil))) wNil))))) wPass)
  (wIf (wtAnd (wCmp cGe (wVar 2) (wB bLen (wCons (wVar 5) wNil))) (wCmp cEq (wSl (wVar 1) (some (wBin oSub (wVar 2) (wB bLen (wCons (wVar 5) wNil)))) (some (wVar 2))) (wVar 5))) (wExpr (wAppend 4 (wTup (wCons (wVar 5) (wCons (wBin oSub (wVar 2) (wB bLen (wCons (wVar 5) wNil))) wNil))))) wPass)
def u_9_b1 {D':Ends} {U:Env}:=uS (D':=D') (U:=U) w_9_b1.eq_1
def w_9:WF:=wFn 4 6 [0,1,2,3]
 (wSeq (wAsg (gName 4) (wLst wNil))
  (wSeq (wFor (wIter (wVar 0)) (gName 5) w_9_b1)
  (wRet (wVar 4))))
def w_11_c1:WB:=bEmit 5 (wLst wNil)
def u_11_c1 {Q:Env->Prop} {E:WX} {U:Env}:=uB (U:=U) (Q:=Q) (E:=E) w_11_c1.eq_1
def w_11_b2:WS:=wIf (wCmp cInA (wSl (wVar 1) (some (wVar 3)) (some (wVar 4))) (wVar 0)) (wSeq (wExpr (wAppendAt 2 (wVar 3) (wVar 4)))
  (wExpr (wAppendAt 2 (wVar 4) (wVar 3)))) wPass
def u_11_b2 {D':Ends} {U:Env}:=uS (D':=D') (U:=U) w_11_b2.eq_1
def w_11_b3:WS:=wFor (wRange2 (wBin oAdd (wVar 3) (wC (.int 1))) (wBin oAdd (wB bLen (wCons (wVar 1) wNil)) (wC (.int 1)))) (gName 4) w_11_b2
def u_11_b3 {D':Ends} {U:Env}:=uS (D':=D') (U:=U) w_11_b3.eq_1
def w_11_c4:WB:=bEmit 5 (wFrz (wB bSort3 (wCons (wVar 6) wNil)))
def u_11_c4 {Q:Env->Prop} {E:WX} {U:Env}:=uB (U:=U) (Q:=Q) (E:=E) w_11_c4.eq_1
def w_11:WF:=wFn 2 5 [0,1]
 (wSeq (wAsg (gName 2) (wLC 5 1 (wRange1 (wBin oAdd (wB bLen (wCons (wVar 1) wNil)) (wC (.int 1)))) (gName 6) wYes w_11_c1))
  (wSeq (wFor (wRange1 (wB bLen (wCons (wVar 1) wNil))) (gName 3) w_11_b3)
  (wRet (wLC 5 1 (wIter (wVar 2)) (gName 6) wYes w_11_c4))))
def w_12_b1:WS:=wIf (wCmp cNotInA (wVar 5) (wVar 2)) (wSeq (wDput 2 (wVar 5) (wBin oAdd (wIxA (wVar 2) (wVar 4)) (wC (.int 1))))
  (wExpr (wAppend 3 (wVar 5)))) wPass
def u_12_b1 {D':Ends} {U:Env}:=uS (D':=D') (U:=U) w_12_b1.eq_1
def w_12_b2:WS:=wSeq (wAsg (gName 4) (wFrz (wPopAt 3 (wC (.int 0)))))
  (wFor (wIter (wIx (wVar 0) (wVar 4))) (gName 5) w_12_b1)
def u_12_b2 {D':Ends} {U:Env}:=uS (D':=D') (U:=U) w_12_b2.eq_1
def w_12_c3:WB:=bEmit 7 (wVar 8)
def u_12_c3 {Q:Env->Prop} {E:WX} {U:Env}:=uB (U:=U) (Q:=Q) (E:=E) w_12_c3.eq_1
def w_12_b4:WS:=wExpr (wAppend 6 (wFrz (wB bMinL (wCons (wLC 7 1 (wIter (wIx (wVar 0) (wIx (wVar 6) (wUn oNeg (wC (.int 1)))))) (gName 8) (wCmp cEq (wIxA (wVar 2) (wVar 8)) (wBin oSub (wIxA (wVar 2) (wIx (wVar 6) (wUn oNeg (wC (.int 1))))) (wC (.int 1)))) w_12_c3) wNil))))
def u_12_b4 {D':Ends} {U:Env}:=uS (D':=D') (U:=U) w_12_b4.eq_1
def w_12:WF:=wFn 2 7 [0,1]
 (wSeq (wAsg (gName 2) (wDisp1 (wBin oSub (wB bLen (wCons (wVar 0) wNil)) (wC (.int 1))) (wC (.int 0))))
  (wSeq (wAsg (gName 3) (wLst (wCons (wBin oSub (wB bLen (wCons (wVar 0) wNil)) (wC (.int 1))) wNil)))
  (wSeq (wWhile (wCmp cNe (wVar 3) (wLst wNil)) w_12_b2)
  (wSeq (wIf (wCmp cNotInA (wVar 1) (wVar 2)) (wRet (wTup wNil)) wPass)
  (wSeq (wAsg (gName 6) (wLst (wCons (wVar 1) wNil)))
  (wSeq (wWhile (wCmp cNe (wIx (wVar 6) (wUn oNeg (wC (.int 1)))) (wBin oSub (wB bLen (wCons (wVar 0) wNil)) (wC (.int 1)))) w_12_b4)
  (wRet (wB bTuple (wCons (wVar 6) wNil)))))))))
def w_15_c1:WB:=bEmit 7 (wOfT (wCmp cEq (wVar 8) (wSl (wVar 1) (some (wIx (wVar 5) (wC (.int 0)))) (some (wIx (wVar 5) (wC (.int 1)))))))
def u_15_c1 {Q:Env->Prop} {E:WX} {U:Env}:=uB (U:=U) (Q:=Q) (E:=E) w_15_c1.eq_1
def w_15_b2:WS:=wSeq (wAsg (gName 5) (wFrz (wB bSortU (wCons (wSl (wVar 2) (some (wBin oSub (wVar 4) (wC (.int 1)))) (some (wBin oAdd (wVar 4) (wC (.int 1))))) wNil))))
  (wSeq (wAsg (gName 6) (wML mIndexL (wFrz (wLC 7 1 (wIter (wVar 0)) (gName 8) wYes w_15_c1)) (wCons (wC (.bl true)) wNil)))
  (wExpr (wAppend 3 (wTup (wCons (wIx (wLst (wCons (wC (.str [98,97,99,107])) (wCons (wC (.str [111,110])) wNil))) (wB bInt (wCons (wOfT (wCmp cLt (wIx (wVar 2) (wBin oSub (wVar 4) (wC (.int 1)))) (wIx (wVar 2) (wVar 4)))) wNil))) (wCons (wVar 6) wNil))))))
def u_15_b2 {D':Ends} {U:Env}:=uS (D':=D') (U:=U) w_15_b2.eq_1
def w_15:WF:=wFn 3 7 [0,1,2]
 (wSeq (wAsg (gName 3) (wLst wNil))
  (wSeq (wFor (wRange2 (wC (.int 1)) (wB bLen (wCons (wVar 2) wNil))) (gName 4) w_15_b2)
  (wRet (wB bTuple (wCons (wVar 3) wNil)))))
def w_1_c1:WB:=bPut 2 (wTup (wCons (wVar 3) (wCons (wVar 4) wNil))) (wVar 5)
def u_1_c1 {Q:Env->Prop} {E:WX} {U:Env}:=uB (U:=U) (Q:=Q) (E:=E) w_1_c1.eq_1
def w_1:WF:=wFn 2 2 [0,1]
 (wRet (wCM (.dct true [] []) 2 3 (wIter (wCall w_0 [true,true] (wCons (wVar 0) (wCons (wVar 1) wNil)))) (gTup [gName 3,gName 4,gName 5]) wYes w_1_c1))
def w_5_c1:WB:=bEmit 3 (wFrz (wPopAt 2 (wCall w_4 [true,true] (wCons (wVar 0) (wCons (wB bLen (wCons (wVar 2) wNil)) wNil)))))
def u_5_c1 {Q:Env->Prop} {E:WX} {U:Env}:=uB (U:=U) (Q:=Q) (E:=E) w_5_c1.eq_1
def w_5:WF:=wFn 2 3 [0,1]
 (wSeq (wAsg (gName 2) (wB bListA (wCons (wC (.str [97,98,99,100,101,102,103,104,105,106,107,108,109,110,111,112,113,114,115,116,117,118,119,120,121,122])) wNil)))
  (wRet (wMS mJoin (wC (.str [])) (wCons (wB bSort3 (wCons (wLC 3 1 (wRange1 (wVar 1)) (gName 4) wYes w_5_c1) wNil)) wNil))))
def w_6_c1:WB:=bEmit 4 (wIx (wVar 1) (wCall w_4 [true,true] (wCons (wVar 0) (wCons (wB bLen (wCons (wVar 1) wNil)) wNil))))
def u_6_c1 {Q:Env->Prop} {E:WX} {U:Env}:=uB (U:=U) (Q:=Q) (E:=E) w_6_c1.eq_1
def w_6:WF:=wFn 3 4 [0,1,2]
 (wSeq (wAsg (gName 3) (wBin oMulA (wCall w_4 [true,true] (wCons (wVar 0) (wCons (wBin oAdd (wVar 2) (wC (.int 1))) wNil))) (wB bInt (wCons (wOfT (wCmp cNe (wVar 1) (wC (.str [])))) wNil))))
  (wRet (wMS mJoin (wC (.str [])) (wCons (wLC 4 1 (wRange1 (wVar 3)) (gName 5) wYes w_6_c1) wNil))))
def w_7:WF:=wFn 3 7 [0,1,2]
 (wSeq (wAsg (gName 3) (wIx (wVar 2) (wCall w_4 [true,true] (wCons (wVar 0) (wCons (wB bLen (wCons (wVar 2) wNil)) wNil)))))
  (wSeq (wAsg (gName 4) (wCall w_4 [true,true] (wCons (wVar 0) (wCons (wC (.int 5)) wNil))))
  (wSeq (wAsg (gName 5) (wIx (wVar 1) (wCall w_4 [true,true] (wCons (wVar 0) (wCons (wB bLen (wCons (wVar 1) wNil)) wNil)))))
  (wSeq (wAsg (gName 6) (wCall w_4 [true,true] (wCons (wVar 0) (wCons (wB bLen (wCons (wVar 3) wNil)) wNil))))
  (wRet (wIx (wLst (wCons (wSl (wVar 3) none (some (wBin oAdd (wVar 6) (wC (.int 1))))) (wCons (wSl (wVar 3) (some (wVar 6)) none) (wCons (wBin oAdd (wVar 5) (wVar 3)) (wCons (wBin oAdd (wVar 3) (wVar 5)) (wCons (wBin oAdd (wVar 3) (wVar 3)) wNil)))))) (wVar 4)))))))
def w_10_c1:WB:=bEmit 11 (wVar 12)
def u_10_c1 {Q:Env->Prop} {E:WX} {U:Env}:=uB (U:=U) (Q:=Q) (E:=E) w_10_c1.eq_1
def w_10_b2:WS:=wSeq (wAsg (gName 7) (wFrz (wCall w_9 [true,true,true,true] (wCons (wVar 1) (wCons (wVar 4) (wCons (wVar 5) (wCons (wVar 3) wNil)))))))
  (wSeq (wIf (wCmp cGt (wVar 6) (wC (.int 4))) (wFz 7 (wAsg (gName 7) (wLC 11 1 (wIter (wVar 7)) (gName 12) (wCmp cGt (wIx (wVar 12) (wC (.int 1))) (wVar 5)) w_10_c1))) wPass)
  (wIf (wCmp cNe (wVar 7) (wLst wNil)) (wSeq (wAsg (gTup [gName 8,gName 9]) (wIx (wVar 7) (wCall w_4 [true,true] (wCons (wVar 0) (wCons (wB bLen (wCons (wVar 7) wNil)) wNil)))))
  (wSeq (wIf (wCmp cGt (wVar 9) (wVar 5)) (wAsg (gName 4) (wBin oAdd (wBin oAdd (wSl (wVar 4) none (some (wVar 5))) (wVar 8)) (wSl (wVar 4) (some (wVar 9)) none))) wPass)
  (wAsg (gName 5) (wVar 9)))) wPass))
def u_10_b2 {D':Ends} {U:Env}:=uS (D':=D') (U:=U) w_10_b2.eq_1
def w_10:WF:=wFn 4 11 [0,1,2,3]
 (wSeq (wAsg (gTup [gName 4,gName 5]) (wTup (wCons (wC (.str [])) (wCons (wC (.int 0)) wNil))))
  (wSeq (wFor (wRange1 (wBin oAdd (wC (.int 1)) (wCall w_4 [true,true] (wCons (wVar 0) (wCons (wC (.int 9)) wNil))))) (gName 6) w_10_b2)
  (wSeq (wIf (wtAnd (wCmp cNe (wVar 4) (wC (.str []))) (wCmp cEq (wCall w_4 [true,true] (wCons (wVar 0) (wCons (wC (.int 5)) wNil))) (wC (.int 0)))) (wSeq (wAsg (gName 10) (wCall w_4 [true,true] (wCons (wVar 0) (wCons (wB bLen (wCons (wVar 4) wNil)) wNil))))
  (wAsg (gName 4) (wBin oAdd (wBin oAdd (wSl (wVar 4) none (some (wVar 10))) (wIx (wVar 2) (wCall w_4 [true,true] (wCons (wVar 0) (wCons (wB bLen (wCons (wVar 2) wNil)) wNil))))) (wSl (wVar 4) (some (wBin oAdd (wVar 10) (wC (.int 1)))) none)))) wPass)
  (wRet (wVar 4)))))
def w_13_b1:WS:=wIf (wCmp cNe (wIx (wVar 1) (wIx (wVar 2) (wUn oNeg (wC (.int 1))))) (wLst wNil)) (wAsg (gName 2) (wBin oAdd (wVar 2) (wTup (wCons (wIx (wIx (wVar 1) (wIx (wVar 2) (wUn oNeg (wC (.int 1))))) (wCall w_4 [true,true] (wCons (wVar 0) (wCons (wB bLen (wCons (wIx (wVar 1) (wIx (wVar 2) (wUn oNeg (wC (.int 1))))) wNil)) wNil)))) wNil)))) wPass
def u_13_b1 {D':Ends} {U:Env}:=uS (D':=D') (U:=U) w_13_b1.eq_1
def w_13:WF:=wFn 2 5 [0,1]
 (wSeq (wAsg (gName 2) (wTup (wCons (wC (.int 0)) wNil)))
  (wSeq (wFor (wRange1 (wCall w_4 [true,true] (wCons (wVar 0) (wCons (wC (.int 9)) wNil)))) (gName 3) w_13_b1)
  (wSeq (wAsg (gName 4) (wFrz (wCall w_12 [true,true] (wCons (wVar 1) (wCons (wIx (wVar 2) (wUn oNeg (wC (.int 1)))) wNil)))))
  (wSeq (wIf (wCmp cEq (wVar 4) (wTup wNil)) (wRet (wTup wNil)) wPass)
  (wRet (wBin oAdd (wVar 2) (wSl (wVar 4) (some (wC (.int 1))) none)))))))
def w_2_b1:WS:=wIf (wCmp cLt (wVar 5) (wVar 6)) (wExpr (wAppend 4 (wTup (wCons (wC (.str [111,110])) (wCons (wIxA (wVar 3) (wTup (wCons (wVar 5) (wCons (wVar 6) wNil)))) wNil))))) (wExpr (wAppend 4 (wTup (wCons (wC (.str [98,97,99,107])) (wCons (wIxA (wVar 3) (wTup (wCons (wVar 6) (wCons (wVar 5) wNil)))) wNil)))))
def u_2_b1 {D':Ends} {U:Env}:=uS (D':=D') (U:=U) w_2_b1.eq_1
def w_2:WF:=wFn 3 7 [0,1,2]
 (wSeq (wAsg (gName 3) (wFrz (wCall w_1 [true,true] (wCons (wVar 0) (wCons (wVar 1) wNil)))))
  (wSeq (wAsg (gName 4) (wLst wNil))
  (wSeq (wFor (wZip (wVar 2) (wSl (wVar 2) (some (wC (.int 1))) none)) (gTup [gName 5,gName 6]) w_2_b1)
  (wRet (wB bTuple (wCons (wVar 4) wNil))))))
def w_8_b1:WS:=wSeq (wAsg (gName 6) (wBin oAdd (wIx (wVar 1) (wCall w_4 [true,true] (wCons (wVar 0) (wCons (wB bLen (wCons (wVar 1) wNil)) wNil)))) (wCall w_6 [true,true,true] (wCons (wVar 0) (wCons (wVar 1) (wCons (wBin oSub (wVar 3) (wC (.int 1))) wNil))))))
  (wSeq (wIf (wtAnd (wCmp cNe (wVar 4) (wLst wNil)) (wCmp cEq (wCall w_4 [true,true] (wCons (wVar 0) (wCons (wC (.int 2)) wNil))) (wC (.int 0)))) (wAsg (gName 6) (wSl (wCall w_7 [true,true,true] (wCons (wVar 0) (wCons (wVar 1) (wCons (wVar 4) wNil)))) none (some (wVar 3)))) wPass)
  (wIf (wCmp cNotInA (wVar 6) (wVar 4)) (wExpr (wAppend 4 (wVar 6))) wPass))
def u_8_b1 {D':Ends} {U:Env}:=uS (D':=D') (U:=U) w_8_b1.eq_1
def w_8:WF:=wFn 4 7 [0,1,2,3]
 (wSeq (wAsg (gName 4) (wLst wNil))
  (wSeq (wFor (wRange1 (wBin oMulA (wCall w_4 [true,true] (wCons (wVar 0) (wCons (wBin oAdd (wVar 2) (wC (.int 1))) wNil))) (wB bInt (wCons (wOfT (wCmp cNe (wVar 1) (wC (.str [])))) wNil)))) (gName 5) w_8_b1)
  (wRet (wB bTuple (wCons (wVar 4) wNil)))))
def w_14_c1:WB:=bEmit 5 (wIx (wVar 2) (wCall w_4 [true,true] (wCons (wVar 0) (wCons (wB bLen (wCons (wVar 2) wNil)) wNil))))
def u_14_c1 {Q:Env->Prop} {E:WX} {U:Env}:=uB (U:=U) (Q:=Q) (E:=E) w_14_c1.eq_1
def w_14:WF:=wFn 1 5 [0]
 (wSeq (wAsg (gName 1) (wCall w_5 [true,true] (wCons (wVar 0) (wCons (wBin oAdd (wC (.int 1)) (wCall w_4 [true,true] (wCons (wVar 0) (wCons (wC (.int 3)) wNil)))) wNil))))
  (wSeq (wAsg (gName 2) (wFrz (wCall w_8 [true,true,true,true] (wCons (wVar 0) (wCons (wVar 1) (wCons (wC (.int 6)) (wCons (wC (.int 6)) wNil)))))))
  (wSeq (wAsg (gName 3) (wFrz (wCall w_10 [true,true,true,true] (wCons (wVar 0) (wCons (wVar 2) (wCons (wVar 1) (wCons (wC (.int 12)) wNil)))))))
  (wSeq (wAsg (gName 4) (wFrz (wCall w_13 [true,true] (wCons (wVar 0) (wCons (wFrz (wCall w_11 [true,true] (wCons (wVar 2) (wCons (wVar 3) wNil)))) wNil)))))
  (wSeq (wIf (wCmp cEq (wVar 4) (wTup wNil)) (wSeq (wAsg (gName 3) (wMS mJoin (wC (.str [])) (wCons (wLC 5 1 (wRange1 (wBin oAdd (wC (.int 1)) (wCall w_4 [true,true] (wCons (wVar 0) (wCons (wC (.int 2)) wNil))))) (gName 6) wYes w_14_c1) wNil)))
  (wAsg (gName 4) (wFrz (wCall w_13 [true,true] (wCons (wVar 0) (wCons (wFrz (wCall w_11 [true,true] (wCons (wVar 2) (wCons (wVar 3) wNil)))) wNil)))))) wPass)
  (wRet (wTup (wCons (wVar 1) (wCons (wVar 2) (wCons (wVar 3) (wCons (wVar 4) wNil)))))))))))
def w_16_c1 (r:WF):WB:=bEmit 2 (wFrz (wCall r [true,true] (wCons (wVar 3) (wCons (wVar 4) wNil))))
def u_16_c1 {r:WF} {Q:Env->Prop} {E:WX} {U:Env}:=uB (U:=U) (Q:=Q) (E:=E) (w_16_c1.eq_1 r)
def zaX (r:WF):WF:=wFn 2 2 [0,1]
 (wSeq (wIf (wTest (wIsI "tuple" (wVar 1))) (wSeq (wIf (wtOr (wtNot (wTest (wIsI "tuple" (wVar 0)))) (wCmp cNe (wB bLen (wCons (wVar 0) wNil)) (wB bLen (wCons (wVar 1) wNil)))) (wRet (wC (.bl false))) wPass)
  (wRet (wB bAll (wCons (wLC 2 2 (wZip (wVar 0) (wVar 1)) (gTup [gName 3,gName 4]) wYes (w_16_c1 r)) wNil)))) wPass)
  (wSeq (wIf (wTest (wIsI "str" (wVar 1))) (wRet (wAndV (wIsI "str" (wVar 0)) (wOfT (wCmp cEq (wVar 0) (wVar 1))))) wPass)
  (wRet (wAndV (wIsI "int" (wVar 0)) (wAndV (wNotV (wIsI "bool" (wVar 0))) (wOfT (wCmp cEq (wVar 0) (wVar 1))))))))
def w_16:WF:=wRec zaX 4
def w_17_c1:WB:=bEmit 7 (wFrz (wCall w_14 [true] (wCons (wCall w_3 [true,true] (wCons (wVar 0) (wCons (wVar 8) wNil))) wNil)))
def u_17_c1 {Q:Env->Prop} {E:WX} {U:Env}:=uB (U:=U) (Q:=Q) (E:=E) w_17_c1.eq_1
def w_17_b2:WS:=wIf (wtNot (wTest (wCall w_16 [true,true] (wCons (wFrz (wCall w_2 [true,true,true] (wCons (wVar 6) (wCons (wVar 4) (wCons (wVar 5) wNil))))) (wCons (wFrz (wCall w_15 [true,true,true] (wCons (wVar 6) (wCons (wVar 4) (wCons (wVar 5) wNil))))) wNil))))) (wRet (wC (.bl false))) wPass
def u_17_b2 {D':Ends} {U:Env}:=uS (D':=D') (U:=U) w_17_b2.eq_1
def w_17_b3:WS:=wFor (wIter (wTup (wCons (wVar 3) (wCons (wTupRev (wVar 3)) (wCons (wVar 3) wNil))))) (gName 6) w_17_b2
def u_17_b3 {D':Ends} {U:Env}:=uS (D':=D') (U:=U) w_17_b3.eq_1
def w_17:WF:=wFn 1 7 [0]
 (wSeq (wFz 1 (wAsg (gName 1) (wLC 7 1 (wRange1 (wC (.int 2))) (gName 8) wYes w_17_c1)))
  (wSeq (wFor (wIter (wBin oAdd (wVar 1) (wSl (wVar 1) none (some (wC (.int 1)))))) (gTup [gName 2,gName 3,gName 4,gName 5]) w_17_b3)
  (wRet (wC (.bl true)))))
end Law
end
end
section
namespace Law
open FL
variable {P:S->List S->Prop} {PX:D->List S->Prop}
set_option hygiene false in
local macro_rules
 | `(tactic| simp! [$xs,*] $[$l:location]?)=>do
   let ls <- ("e_C e_V zql zmn zmv e_Un zo9 zps e_Ck zqa zn3 zl6 zmL zkA zkq zqN zmT zmG e_Or zpN zoZ zny zpR zm7 zm5 zkr zkC zmp zkE zkY zo4 znK zk4 zla zqD e_gA zq8 zoX e_gv e_gl zra zqn zmq zmV zoS znk znL e_l0 e_l1 e_l2 e_l3 e_l4 e_l5 e_vv e_vl e_cv e_cl znC e_sh zav zqm e_Ix zqt zp1 zn5 zlR zoV zo7 zo0 zoB zqG zqV zqA zpt zpg zq3 zpb e_p0 e_pv e_pl zqQ e_pA e_b0 e_bv e_bl zn4 zlv zkF zmu zon e_vA zpT e_B e_B1 e_B2 e_MS zpW zqI e_Ap zpo zp3 zp6 zqL zo3 znH zmZ zq7 zlS zmh e_Di zoq zot zoP znb zoM e_Pt zq9 zp2 e_Sl zq0 zqE zpd zqJ e_nx e_rt e_ex znf zoR e_If zp4 zqq zoF zmR zkV zpP zmw zmX e_gN e_gT zow zpK zo8 zoT zqR znO zlW zne zmI zlM zlA e_Dp zpL zof zqb zqB zqd e_It zq5 zpC zox zom zqe e_En zqr zos zoH e_Zi zoG zoC zph zqF zq4 e_R1 zqk zpS e_R2 zp5 zpD zqc zqH zl1 e_LC zp7 zpB zmi zo6 zlV zpI e_Em zoL zpM zqi e_bF zq2 zoj zpY e_Rt zoK zpe e_Fn e_f0 e_fs e_fl e_fA zpp zm8 znB znn zpA zmj zoz zms zpk zoi e_lt e_gt e_le e_ge zn1 zoh zng zq1 zq6 zlU zno zl8 zlO zme zn0 zpU zpi zqS zpr zp0 zpO zoO zqu zqo zpl zqf zo1 zqg zpw zqw zoU zqP zqZ zqv zoW zoN zqy zpE zpn zpV zqU zqs zqT zol zpZ zog zok zqO zqK zpX zqX zoY zl3 zml zl2 znV zmB zmC zmt znZ zmS zl5 znl znJ zpQ zor znE e_AA zpz zpF zoJ zqz zpG zpJ znR zmz zqY znh zna zoo zns e_XA zqx zpm zou zpy zgF e_TR zo5 zpH zn2 e_CM zo2 e_Pu zpj zop zoE zpx e_ML zoD zqj zfD map_some S.toD_sh S.toD_lst map_cons map_nil cons_append nil_append List.replicate_succ List.replicate_zero Nat.reduceSub Nat.reduceAdd append_nil List.take_succ_cons take_zero true_and S.toDs_map S.toD_dct Int.reduceEq Int.reduceLT Int.reduceLE decide_true decide_false Bool.not_true Bool.not_false".splitOn " ").toArray.mapM fun n=>`(Lean.Parser.Tactic.simpLemma| $(Lean.mkIdent n.toName):ident)
   let ls:=ls++xs.getElems
   `(tactic| simp -implicitDefEqProofs (disch:=first | omega | decide | rfl | (simp only [length_map,length_append,length_cons,length_nil,length_range,zah]; omega) | (simp only [length_map,length_append,length_cons,length_nil,length_range,zah]; done)) only [$ls,*] $[$l:location]?)
noncomputable section pu
def box (a s:Int):S:=.lst [.sh (.int a),.sh (.int s)]
theorem zaj {a s m:Int} (ha:0<=a) (hs:1<=s) (hs2:s<=2147483629) (hm:0 < m) (hm2:m < 18446744073709551616)
  (h:∀ r a' s',0<=r->r < m->0<=a'->1<=s'->s'<=2147483629->P (.sh (.int r)) [box a' s',.sh (.int m)]):w_4 [box a s,.sh (.int m)] P PX:=by
 refine za1 rfl rfl ?_
 simp! [box]
 cases hc:decide (0 < a)
 ·simp! [e_C]
  exact h _ _ _ (Int.emod_nonneg _ (by omega)) (Int.emod_lt_of_pos _ hm) ha (by omega) (by omega)
 ·simp! [e_C]
  exact h _ _ _ (Int.emod_nonneg _ (by omega)) (Int.emod_lt_of_pos _ hm) (Int.ediv_nonneg ha (by omega)) hs hs2
theorem zjg {ns:List Int} {k:Int} (hk:0<=k)
  (h:∀ a s,0<=a->1<=s->s<=2147483629->P (box a s) [.sh (.lst (ns.map .int)),.sh (.int k)]):w_3 [.sh (.lst (ns.map .int)),.sh (.int k)] P PX:=by
 refine za1 rfl rfl ?_
 simp! [length_map]
 by_cases h1:k < ns.length
 ·obtain ⟨v,hv,_,e⟩:=zb8 (f:=D.int) hk h1
  simp! [length_map,h1,decide_true,e]
  cases hc:decide ((10:Int) ^ (18:Int).toNat<=v)
  ·simp! [if_true,false_eq_true,if_false]
   exact h _ _ (by decide) (by omega) (by omega)
  ·simp! [if_true]
   have:(0:Int)<=v:=by
    have:=of_decide_eq_true hc
    have e:(10:Int) ^ (18:Int).toNat=1000000000000000000:=by decide
    omega
   exact h _ _ this (by omega) (by omega)
 ·by_cases h2:0 < ns.length
  ·have hp:(0:Int) < ns.length:=by omega
   obtain ⟨v,hv,_,e⟩:=zb8 (f:=D.int) (l:=ns) (z:=k % ns.length) (Int.emod_nonneg _ (by omega)) (Int.emod_lt_of_pos _ hp)
   simp! [length_map,h1,hp,decide_true,decide_false,e]
   generalize 7919 * k + 11 + v % 2147483629 * 69623=cell
   cases hc:decide ((10:Int) ^ (18:Int).toNat<=cell)
   ·simp! [if_true,false_eq_true,if_false]
    exact h _ _ (by decide) (by omega) (by omega)
   ·simp! [if_true]
    have:(0:Int)<=cell:=by
     have:=of_decide_eq_true hc
     have e:(10:Int) ^ (18:Int).toNat=1000000000000000000:=by decide
     omega
    exact h _ _ this (by omega) (by omega)
  ·have hp:¬ (0:Int) < ns.length:=by omega
   simp! [length_map,h1,hp,decide_true,decide_false]
   generalize 7919 * k + 11=cell
   cases hc:decide ((10:Int) ^ (18:Int).toNat<=cell)
   ·simp! [if_true,false_eq_true,if_false]
    exact h _ _ (by decide) (by omega) (by omega)
   ·simp! [if_true]
    have:(0:Int)<=cell:=by
     have:=of_decide_eq_true hc
     have e:(10:Int) ^ (18:Int).toNat=1000000000000000000:=by decide
     omega
    exact h _ _ this (by omega) (by omega)
def letters:List Nat:=[97,98,99,100,101,102,103,104,105,106,107,108,109,110,111,112,113,114,115,116,117,118,119,120,121,122]
theorem zjm {Q:Env->Prop} {E:WX} {m:Int}:∀ (xs:List D) (a s:Int) (L A:List Nat) (o:Option S),xs.length<=L.length->0<=a->1<=s->s<=2147483629->(A++L).Perm letters->
  (∀ a' s' (L' A':List Nat) o',0<=a'->1<=s'->s'<=2147483629->A'.length=A.length + xs.length->(A'++L').Perm letters->Q [some (box a' s'),some (.sh (.int m)),some (.lst ((L'.map sg).map .sh)),some (.lst ((A'.map sg).map .sh)),o'])->
  bLoop (gName 4) wYes w_5_c1 xs [some (box a s),some (.sh (.int m)),some (.lst ((L.map sg).map .sh)),some (.lst ((A.map sg).map .sh)),o] Q E:=by
 intro xs
 induction xs with
 | nil=>
   intro a s L A o h1 ha hs hs2 hnd h
   exact h a s L A o ha hs hs2 (by simp) hnd
 | cons x xs ih=>
   intro a s L A o h1 ha hs hs2 hnd h
   have hlen:=hnd.length_eq
   have h26:letters.length=26:=rfl
   simp only [length_cons,length_append] at h1 h hlen
   rw [e_bL]
   simp! [u_5_c1,e_sh,zav,box,length_map]
   refine zaj ha hs hs2 ?_ ?_ fun r a' s' hr hr2 ha' hs' hs2'=>?_
   ·omega
   ·omega
   simp! [e_sh,zav,box,length_map]
   obtain ⟨c,hc,hg,_⟩:=zeg (l:=L) hr hr2
   refine zj1 hr (by simp only [length_map,zah]; omega) (zgh (d:=sg c) (by rw [getElem?_map,hg]; rfl)) ?_
   simp! [e_sh,zav,box,length_map]
   refine ⟨by simp only [zah]; omega,?_⟩
   have e1:((L.map sg).map S.sh).eraseIdx r.toNat=((L.eraseIdx r.toNat).map sg).map S.sh:=by rw [zcA,zcA]
   have e2:((A.map sg).map S.sh)++[S.sh (sg c)]=(((A++[c]).map sg).map S.sh):=by simp
   rw [e1,e2]
   have hlt:r.toNat < L.length:=by omega
   have hl:(L.eraseIdx r.toNat).length=L.length - 1:=List.length_eraseIdx_of_lt hlt
   have hgc:L[r.toNat]=c:=by rw [getElem?_eq_getElem hlt] at hg; exact Option.some.inj hg
   have hperm:(A++[c]++L.eraseIdx r.toNat).Perm (A++L):=by
    rw [append_assoc]
    refine List.Perm.append_left A ?_
    have:=zc7 L r.toNat hlt
    rw [hgc] at this
    exact this
   refine ih a' s' _ _ _ (by omega) ha' hs' hs2' (hperm.trans hnd) fun a2 s2 L' A' o' x1 x2 x3 x4 x5=>h a2 s2 L' A' o' x1 x2 x3 (by rw [x4]; simp only [length_append,length_singleton]; omega) x5
theorem zer {a s m:Int} (ha:0<=a) (hs:1<=s) (hs2:s<=2147483629) (hm:0<=m) (hm2:m<=26)
  (h:∀ (l:List Nat) a' s',l.length=m.toNat->l.Pairwise (· < ·)->(∀ c∈l,97<=c/\c<=122)->0<=a'->1<=s'->s'<=2147483629->P (.sh (.str l)) [box a' s',.sh (.int m)]):w_5 [box a s,.sh (.int m)] P PX:=by
 refine za1 rfl rfl ?_
 simp! [box,e_sh,zav]
 refine ⟨by simp only [zah]; omega,?_⟩
 have hf:(fromTo 0 m.toNat).length=m.toNat:=zaB
 have h26:letters.length=26:=rfl
 refine zjm (fromTo 0 m.toNat) a s letters [] none (by rw [hf,h26]; omega) ha hs hs2 (List.Perm.refl _)
  fun a' s' L' A' o' ha' hs' hs2' hA hpm=>?_
 rw [hf,length_nil,zero_add] at hA
 have hnd:A'.Nodup:=(nodup_append.mp (hpm.nodup_iff.mpr (by decide))).1
 have hle:∀ c∈A',97<=c/\c<=122:=fun c hc=>by
  have:c∈letters:=hpm.mem_iff.mp (mem_append_left _ hc)
  have hall:∀ c∈letters,97<=c/\c<=122:=by decide
  exact hall c this
 obtain ⟨A2,hp,hso,e⟩:=zlq (A:=A') (by omega)
 have hl:A2.length=m.toNat:=hp.length_eq.trans hA
 simp! [box,e_sh,zav,e,zix (show A2.length<=big by simp only [zah]; omega)]
 exact h A2 a' s' hl (zg3 hso (hp.nodup_iff.mpr hnd)) (fun c hc=>hle c (hp.mem_iff.mp hc)) ha' hs' hs2'
theorem zhZ {Q:Env->Prop} {E:WX} {m many:Int} {col:List Nat} (hc:0 < col.length) (hc2:col.length<=26):∀ (xs:List D) (a s:Int) (A:List Nat) (o:Option S),0<=a->1<=s->s<=2147483629->A.length + xs.length<=1000->
  (∀ a' s' (A':List Nat) o',0<=a'->1<=s'->s'<=2147483629->A'.length=A.length + xs.length->(∀ z∈A',z∈A\/z∈col)->Q [some (box a' s'),some (.sh (.str col)),some (.sh (.int m)),some (.sh (.int many)),some (.lst ((A'.map sg).map .sh)),o'])->
  bLoop (gName 5) wYes w_6_c1 xs [some (box a s),some (.sh (.str col)),some (.sh (.int m)),some (.sh (.int many)),some (.lst ((A.map sg).map .sh)),o] Q E:=by
 intro xs
 induction xs with
 | nil=>
   intro a s A o ha hs hs2 h3 h
   exact h a s A o ha hs hs2 (by simp) fun z hz=>.inl hz
 | cons x xs ih=>
   intro a s A o ha hs hs2 h3 h
   simp only [length_cons] at h3 h
   rw [e_bL]
   simp! [u_6_c1,e_sh,zav,box,length_map]
   refine zaj ha hs hs2 (by omega) (by omega) fun r a' s' hr hr2 ha' hs' hs2'=>?_
   obtain ⟨c,hcm,_,e⟩:=zeg (l:=col) hr hr2
   simp! [e,e_sh,zav,box,length_map]
   refine ⟨by simp only [zah]; omega,?_⟩
   have e2:((A.map sg).map S.sh)++[S.sh (.str [c])]=(((A++[c]).map sg).map S.sh):=by simp [sg]
   rw [e2]
   refine ih a' s' _ _ ha' hs' hs2' (by simp only [length_append,length_singleton]; omega) fun a2 s2 A' o' x1 x2 x3 x4 x5=>h a2 s2 A' o' x1 x2 x3 (by rw [x4]; simp only [length_append,length_singleton]; omega) fun z hz=>?_
   rcases x5 z hz with q | q
   ·rcases mem_append.mp q with q | q
    ·exact .inl q
    ·rw [mem_singleton.mp q]; exact .inr hcm
   ·exact .inr q
theorem zhg {a s m:Int} {col:List Nat} (ha:0<=a) (hs:1<=s) (hs2:s<=2147483629) (hm:0<=m) (hm2:m<=900) (hc:0 < col.length) (hc2:col.length<=26)
  (h:∀ (l:List Nat) a' s',l.length<=m.toNat->(∀ z∈l,z∈col)->0<=a'->1<=s'->s'<=2147483629->P (.sh (.str l)) [box a' s',.sh (.str col),.sh (.int m)]):w_6 [box a s,.sh (.str col),.sh (.int m)] P PX:=by
 refine za1 rfl rfl ?_
 simp! [box,e_sh,zav]
 refine zaj ha hs hs2 (by omega) (by omega) fun r a1 s1 hr hr2 ha1 hs1 hs21=>?_
 have hne:(decide (col=[]))=false:=by simp; intro z; rw [z] at hc; simp at hc
 simp! [box,e_sh,zav,hne,Bool.not_false,if_true,mul_one]
 refine ⟨by simp only [zah]; omega,?_⟩
 have hf:(fromTo 0 r.toNat).length=r.toNat:=zaB
 refine zhZ (A:=[]) hc hc2 _ a1 s1 none ha1 hs1 hs21 (by rw [hf]; simp only [length_nil]; omega) fun a' s' A' o' ha' hs' hs2' hA hg=>?_
 rw [hf,length_nil,zero_add] at hA
 simp! [box,e_sh,zav]
 rw [zix (by simp only [zah]; omega)]
 simp! [box,e_sh,zav]
 exact h A' a' s' (by omega) (fun z hz=>(hg z hz).resolve_left (by simp)) ha' hs' hs2'
theorem ziG {a s:Int} {col:List Nat} {B:List Wd} (ha:0<=a) (hs:1<=s) (hs2:s<=2147483629) (hc:0 < col.length) (hc2:col.length<=26) (hB:0 < B.length) (hB2:B.length<=1000) (hw:∀ w∈B,w≠[]/\w.length<=1000/\∀ c∈w,c∈col)
  (h:∀ (w:Wd) a' s',w≠[]->w.length<=2000->(∀ c∈w,c∈col)->0<=a'->1<=s'->s'<=2147483629->P (.sh (.str w)) [box a' s',.sh (.str col),.lst ((B.map D.str).map .sh)]):w_7 [box a s,.sh (.str col),.lst ((B.map D.str).map .sh)] P PX:=by
 refine za1 rfl rfl ?_
 simp! [box,e_sh,zav,length_map]
 refine zaj ha hs hs2 (by omega) (by omega) fun r a1 s1 hr hr2 ha1 hs1 hs21=>?_
 obtain ⟨w,hwm,_,e⟩:=zb8 (f:=fun z=>S.sh (D.str z)) (l:=B) hr hr2
 have e':atI ((B.map D.str).map S.sh) r=some (S.sh (.str w)):=by rw [map_map]; exact e
 obtain ⟨hw1,hw2,hw3⟩:=hw w hwm
 have hwl:0 < w.length:=length_pos_iff.mpr hw1
 simp! [box,e']
 refine zaj ha1 hs1 hs21 (by decide) (by decide) fun kd a2 s2 hk0 hk1 ha2 hs2 hs22=>?_
 simp! [box]
 refine zaj ha2 hs2 hs22 (by omega) (by omega) fun r3 a3 s3 hr3 hr32 ha3 hs3 hs23=>?_
 obtain ⟨c,hcm,_,ec⟩:=zeg (l:=col) hr3 hr32
 simp! [box,ec]
 refine zaj ha3 hs3 hs23 (by omega) (by omega) fun p a4 s4 hp0 hp1 ha4 hs4 hs24=>?_
 simp! [box]
 rw [zhF w (by omega) (by omega),zbS w hp0]
 have hkd:kd=0\/kd=1\/kd=2\/kd=3\/kd=4:=by omega
 rcases hkd with rfl | rfl | rfl | rfl | rfl
 ·simp! [box]
  refine h _ _ _ ?_ ?_ (fun c hc=>hw3 c (List.mem_of_mem_take hc)) ha4 hs4 hs24
  ·intro z
   have:=congrArg List.length z
   rw [length_take,length_nil] at this
   omega
  ·rw [length_take]; omega
 ·simp! [box]
  refine h _ _ _ ?_ ?_ (fun c hc=>hw3 c (List.mem_of_mem_drop hc)) ha4 hs4 hs24
  ·intro z
   have:=congrArg List.length z
   rw [length_drop,length_nil] at this
   omega
  ·rw [length_drop]; omega
 ·simp! [box]
  refine h _ _ _ (by simp) (by simp; omega) (fun x hx=>?_) ha4 hs4 hs24
  rcases mem_cons.mp hx with rfl | hx
  ·exact hcm
  ·exact hw3 x hx
 ·simp! [box]
  refine h _ _ _ (by simp) (by simp; omega) (fun x hx=>?_) ha4 hs4 hs24
  rcases mem_append.mp hx with hx | hx
  ·exact hw3 x hx
  ·rw [mem_singleton.mp hx]; exact hcm
 ·simp! [box]
  refine h _ _ _ (by simp [hw1]) (by simp; omega) (fun x hx=>?_) ha4 hs4 hs24
  rcases mem_append.mp hx with hx | hx <;> exact hw3 x hx
def goodB (col:List Nat) (many most:Nat) (B:List Wd):Prop:=B.length<=many/\B.Nodup/\∀ w∈B,w≠[]/\w.length<=most/\∀ c∈w,c∈col
def boardD (B:List Wd):D:=.tup (B.map D.str)
theorem zgk {a s many most:Int} {col:List Nat} (ha:0<=a) (hs:1<=s) (hs2:s<=2147483629) (hc:0 < col.length) (hc2:col.length<=26) (hm:0<=many) (hm2:many<=500) (ho:1<=most) (ho2:most<=500)
  (h:∀ (B:List Wd) a' s',goodB col many.toNat most.toNat B->0<=a'->1<=s'->s'<=2147483629->P (.sh (boardD B)) [box a' s',.sh (.str col),.sh (.int many),.sh (.int most)]):w_8 [box a s,.sh (.str col),.sh (.int many),.sh (.int most)] P PX:=by
 refine za1 rfl rfl ?_
 simp! [box]
 refine zaj ha hs hs2 (by omega) (by omega) fun r a1 s1 hr hr2 ha1 hs1 hs21=>?_
 have hne:(decide (col=[]))=false:=by simp; intro z; rw [z] at hc; simp at hc
 simp! [box,hne,if_true,mul_one]
 refine ⟨by simp only [zah]; omega,?_⟩
 refine lpn (fun k U=>∃ (a s:Int) (B:List Wd) (o5 o6:Option S),0<=a/\1<=s/\s<=2147483629/\goodB col k most.toNat B/\U=[some (box a s),some (.sh (.str col)),some (.sh (.int many)),some (.sh (.int most)),some (.lst ((B.map D.str).map .sh)),o5,o6]) _ (fun k x hk D2 U hI hnx hct hrt hbk=>?_) (fun U hI=>?_) ⟨a1,s1,[],none,none,ha1,hs1,hs21,⟨by simp,by simp,by simp⟩,rfl⟩
 ·obtain ⟨a,s,B,o5,o6,ha,hs,hs2,hB,rfl⟩:=hI
  have hkl:=(List.getElem?_eq_some_iff.mp hk).1
  rw [zaB] at hkl
  obtain ⟨hB1,hB2,hB3⟩:=hB
  simp! [box,u_8_b1]
  refine zaj ha hs hs2 (by omega) (by omega) fun r3 a2 s2 hr3 hr32 ha2 hs2 hs22=>?_
  obtain ⟨c,hcm,_,ec⟩:=zeg (l:=col) hr3 hr32
  simp! [box,ec]
  refine zhg ha2 hs2 hs22 (by omega) (by omega) hc hc2 fun w a3 s3 hw1 hw2 ha3 hs3 hs23=>?_
  -- what is done with a word
  have put:∀ (w:Wd) (a s:Int),0<=a->1<=s->s<=2147483629->w≠[]->w.length<=most.toNat->(∀ c∈w,c∈col)->
    (wIf (wCmp cNotInA (wVar 6) (wVar 4)) (wExpr (wAppend 4 (wVar 6))) wPass) D2 [some (box a s),some (.sh (.str col)),some (.sh (.int many)),some (.sh (.int most)),some (.lst ((B.map D.str).map .sh)),some (.sh x),some (.sh (.str w))]:=fun w a s ha hs hs2 h1 h2 h3=>by
   simp! [box,zav,zjV]
   cases q:decide (w∈B)
   ·simp! [length_map]
    rw [show ((B.map D.str).map S.sh)++[S.sh (.str w)]=((B++[w]).map D.str).map S.sh by simp]
    refine ⟨by simp only [zah]; omega,hnx _ ⟨a,s,_,_,_,ha,hs,hs2,⟨by simp only [length_append,length_singleton]; omega,?_,fun x hx=>?_⟩,rfl⟩⟩
    ·refine nodup_append.mpr ⟨hB2,by simp,fun x hx y hy e=>?_⟩
     rw [mem_singleton.mp hy] at e
     subst e
     have:=of_decide_eq_false q
     exact this hx
    ·rcases mem_append.mp hx with z | z
     ·exact hB3 x z
     ·rw [mem_singleton.mp z]; exact ⟨h1,h2,h3⟩
   ·simp! [e_C]
    exact hnx _ ⟨a,s,B,_,_,ha,hs,hs2,⟨by omega,hB2,hB3⟩,rfl⟩
  have hword:([c]++w)≠[]/\([c]++w).length<=most.toNat/\∀ x∈[c]++w,x∈col:=by
   refine ⟨by simp,by simp; omega,fun x hx=>?_⟩
   rcases mem_append.mp hx with z | z
   ·rw [mem_singleton.mp z]; exact hcm
   ·exact hw2 x z
  simp! [box,zav,zi7,length_cons,length_nil]
  cases q:decide (B=[])
  ·simp! [box]
   refine zaj ha3 hs3 hs23 (by decide) (by decide) fun r4 a4 s4 hr4 hr42 ha4 hs4 hs24=>?_
   simp! [box]
   cases q2:decide (r4=0)
   ·simp! [e_C]
    have:=put _ a4 s4 ha4 hs4 hs24 hword.1 hword.2.1 hword.2.2
    simp! [box] at this
    exact this
   ·simp! [box]
    refine ziG ha4 hs4 hs24 hc hc2 (length_pos_iff.mpr (of_decide_eq_false q)) (by omega) (fun w hw=>⟨(hB3 w hw).1,by have:=(hB3 w hw).2.1; omega,(hB3 w hw).2.2⟩) fun w2 a5 s5 hn hl hm5 ha5 hs5 hs25=>?_
    simp! [box]
    have hw2l:0 < w2.length:=length_pos_iff.mpr hn
    have:=put (cutL w2 none (some most)) a5 s5 ha5 hs5 hs25 (fun z=>?_) ?_ fun c hc=>hm5 c (zbn hc)
    ·simp! [box] at this
     exact this
    ·have z2:=congrArg List.length z
     unfold cutL sIx at z2
     have:¬ most < 0:=by omega
     simp only [if_neg this,drop_zero,sub_zero,length_take,length_nil] at z2
     omega
    ·unfold cutL sIx
     have:¬ most < 0:=by omega
     simp only [if_neg this,drop_zero,sub_zero,length_take]
     omega
  ·simp! [e_C]
   have:=put _ a3 s3 ha3 hs3 hs23 hword.1 hword.2.1 hword.2.2
   simp! [box] at this
   exact this
 ·obtain ⟨a,s,B,o5,o6,ha,hs,hs2,hB,rfl⟩:=hI
  rw [zaB] at hB
  simp! [box,zav]
  exact h B a s ⟨by have:=hB.1; omega,hB.2⟩ ha hs hs2
abbrev Mv:=Wd×Int
def mvD (m:Mv):D:=.tup [.str m.1,.int m.2]
theorem zlb (l:List Mv):deps (l.map mvD)<=29:=ze2 _ fun d hd=>by
 obtain ⟨m,_,rfl⟩:=mem_map.mp hd
 show 1<=29
 decide
theorem zov {l:List Mv}:cNe (.lst (l.map mvD)) (.lst [])=some (!l.isEmpty):=by rw [zfm (zlb l),List.isEmpty_map]
theorem zgt {B:List Wd} {t:Wd} {p most:Int} (hB:B.length<=1000) (ht:t.length<=1000) (hp:0<=p) (hp2:p<=most)
  (h:∀ ms:List Mv,ms.length<=2000->(∀ m∈ms,m.1∈B/\0<=m.2/\m.2<=most/\(m.2=p + m.1.length\/m.2<=p))->P (.lst ((ms.map mvD).map .sh)) [.sh (boardD B),.sh (.str t),.sh (.int p),.sh (.int most)]):w_9 [.sh (boardD B),.sh (.str t),.sh (.int p),.sh (.int most)] P PX:=by
 refine za1 rfl rfl ?_
 simp! [boardD]
 refine za9 (fun pre U=>∃ (ms:List Mv) (o:Option S),ms.length<=2 * pre.length/\(∀ m∈ms,m.1∈B/\0<=m.2/\m.2<=most/\(m.2=p + m.1.length\/m.2<=p))/\U=[some (.sh (boardD B)),some (.sh (.str t)),some (.sh (.int p)),some (.sh (.int most)),some (.lst ((ms.map mvD).map .sh)),o]) B (fun pre w post D2 U e hI hnx hct hrt hbk=>?_) (fun U hI=>?_) ⟨[],none,by simp,by simp,rfl⟩
 ·obtain ⟨ms,o,hl,hm,rfl⟩:=hI
  have hlen:pre.length + 1<=B.length:=by rw [<- e]; simp only [length_append,length_cons]; omega
  have hwB:w∈B:=by rw [<- e]; simp
  have snd:∀ ms:List Mv,ms.length<=2 * pre.length + 1->(∀ m∈ms,m.1∈B/\0<=m.2/\m.2<=most/\(m.2=p + m.1.length\/m.2<=p))->
    (wIf (wtAnd (wCmp cGe (wVar 2) (wB bLen (wCons (wVar 5) wNil))) (wCmp cEq (wSl (wVar 1) (some (wBin oSub (wVar 2) (wB bLen (wCons (wVar 5) wNil)))) (some (wVar 2))) (wVar 5))) (wExpr (wAppend 4 (wTup (wCons (wVar 5) (wCons (wBin oSub (wVar 2) (wB bLen (wCons (wVar 5) wNil))) wNil))))) wPass) D2 [some (.sh (boardD B)),some (.sh (.str t)),some (.sh (.int p)),some (.sh (.int most)),some (.lst ((ms.map mvD).map .sh)),some (.sh (.str w))]:=fun ms hl hm=>by
   have stop:D2.nx [some (.sh (boardD B)),some (.sh (.str t)),some (.sh (.int p)),some (.sh (.int most)),some (.lst ((ms.map mvD).map .sh)),some (.sh (.str w))]:=hnx _ ⟨ms,_,by simp only [length_append,length_singleton]; omega,hm,rfl⟩
   simp! [boardD]
   cases q1:decide ((w.length:Int)<=p)
   ·simp! [e_C]
    exact stop
   have q1':=of_decide_eq_true q1
   simp! [boardD]
   cases q2:decide (cutL t (some (p - (w.length:Int))) (some p)=w)
   ·simp! [e_C]
    exact stop
   simp! [length_map]
   rw [show ((ms.map mvD).map S.sh)++[S.sh (.tup [.str w,.int (p - w.length)])]=((ms++[(w,p - w.length)]).map mvD).map S.sh by simp [mvD]]
   refine ⟨by simp only [zah]; omega,hnx _ ⟨_,_,by simp only [length_append,length_singleton]; omega,fun m hmm=>?_,rfl⟩⟩
   rcases mem_append.mp hmm with z | z
   ·exact hm m z
   ·rw [mem_singleton.mp z]; exact ⟨hwB,by show 0<=p - w.length; omega,by show p - (w.length:Int)<=most; omega,.inr (by show p - (w.length:Int)<=p; omega)⟩
  simp! [u_9_b1,boardD]
  have snd0:=snd ms (by omega) hm
  simp! [boardD] at snd0
  cases q1:decide (cutL t (some p) (some (p + (w.length:Int)))=cutL w none (some ((t.length:Int) - p)))
  ·simp! [e_C]
   exact snd0
  simp! [e_C]
  cases q2:decide (p + (w.length:Int)<=most)
  ·simp! [e_C]
   exact snd0
  have q2':=of_decide_eq_true q2
  simp! [length_map]
  rw [show ((ms.map mvD).map S.sh)++[S.sh (.tup [.str w,.int (p + w.length)])]=((ms++[(w,p + w.length)]).map mvD).map S.sh by simp [mvD]]
  refine ⟨by simp only [zah]; omega,?_⟩
  have snd1:=snd (ms++[(w,p + w.length)]) (by simp only [length_append,length_singleton]; omega) fun m hmm=>by
   rcases mem_append.mp hmm with z | z
   ·exact hm m z
   ·rw [mem_singleton.mp z]; exact ⟨hwB,by show 0<=p + (w.length:Int); omega,q2',.inl rfl⟩
  simp! [boardD] at snd1
  exact snd1
 ·obtain ⟨ms,o,hl,hm,rfl⟩:=hI
  simp! [boardD]
  exact h ms (by omega) hm
theorem cut3 {t w:Wd} {p g:Int} (hp:0<=p) (hp2:p<=t.length) (hg:g=p + w.length):((cutL t none (some p)++w)++cutL t (some g) none).length=max g.toNat t.length:=by
 obtain ⟨k,rfl⟩:=Int.eq_ofNat_of_zero_le hp
 have hk:k<=t.length:=Int.ofNat_le.mp hp2
 rw [<- natCast_add] at hg
 subst hg
 rw [zhF t hp hp2,zbS t (Int.natCast_nonneg _)]
 simp only [length_append,length_take,length_drop,toNat_natCast]
 rw [min_eq_left hk,Nat.add_comm,Nat.sub_add_eq_max,Nat.max_comm]
theorem ziN {a s most:Int} {col:List Nat} {B:List Wd} (ha:0<=a) (hs:1<=s) (hs2:s<=2147483629) (hc:0 < col.length) (hc2:col.length<=26) (hm:0<=most) (hm2:most<=500) (hB:B.length<=1000) (hw:∀ w∈B,w.length<=1000/\∀ c∈w,c∈col)
  (h:∀ (t:Wd) a' s',t.length<=most.toNat->(∀ c∈t,c∈col)->(B=[]->t=[])->0<=a'->1<=s'->s'<=2147483629->P (.sh (.str t)) [box a' s',.sh (boardD B),.sh (.str col),.sh (.int most)]):w_10 [box a s,.sh (boardD B),.sh (.str col),.sh (.int most)] P PX:=by
 refine za1 rfl rfl ?_
 simp! [box,length_cons,length_nil]
 refine zaj ha hs hs2 (by decide) (by decide) fun r a1 s1 hr hr2 ha1 hs1 hs21=>?_
 simp! [box]
 refine ⟨by simp only [zah]; omega,?_⟩
 refine za9 (toD:=fun k:Nat=>D.int (0 + (k:Int))) (fun pre U=>∃ (a s:Int) (t:Wd) (p:Int) (o6 o7 o8 o9 o10:Option S),0<=a/\1<=s/\s<=2147483629/\t.length<=most.toNat/\(∀ c∈t,c∈col)/\(B=[]->t=[])/\0<=p/\p<=t.length/\U=[some (box a s),some (.sh (boardD B)),some (.sh (.str col)),some (.sh (.int most)),some (.sh (.str t)),some (.sh (.int p)),o6,o7,o8,o9,o10]) (List.range _) (fun pre k post D2 U e hI hnx hct hrt hbk=>?_) (fun U hI=>?_) ⟨a1,s1,[],0,none,none,none,none,none,ha1,hs1,hs21,by simp,by simp,fun _=>rfl,by decide,by simp,rfl⟩
 ·obtain ⟨a,s,t,p,o6,o7,o8,o9,o10,ha,hs,hs2,ht,htc,hne,hp,hp2,rfl⟩:=hI
  simp! [box,u_10_b2]
  refine zgt hB (by omega) hp (by omega) fun ms hml hm=>?_
  -- the choice among some moves
  have pick:∀ ms:List Mv,ms.length<=2000->(∀ m∈ms,m.1∈B/\0<=m.2/\m.2<=most/\(m.2=p + m.1.length\/m.2<=p))->
    (wIf (wCmp cNe (wVar 7) (wLst wNil)) (wSeq (wAsg (gTup [gName 8,gName 9]) (wIx (wVar 7) (wCall w_4 [true,true] (wCons (wVar 0) (wCons (wB bLen (wCons (wVar 7) wNil)) wNil)))))
  (wSeq (wIf (wCmp cGt (wVar 9) (wVar 5)) (wAsg (gName 4) (wBin oAdd (wBin oAdd (wSl (wVar 4) none (some (wVar 5))) (wVar 8)) (wSl (wVar 4) (some (wVar 9)) none))) wPass)
  (wAsg (gName 5) (wVar 9)))) wPass) D2 [some (box a s),some (.sh (boardD B)),some (.sh (.str col)),some (.sh (.int most)),some (.sh (.str t)),some (.sh (.int p)),some (.sh (.int (0 + (k:Int)))),some (.sh (.lst (ms.map mvD))),o8,o9,o10]:=fun ms hml hm=>by
   simp! [box,zov]
   cases q:ms.isEmpty
   ·simp! [box,length_map]
    have hpos:0 < ms.length:=by
     cases ms with
     | nil=>cases q
     | cons _ _=>simp
    refine zaj ha hs hs2 (by omega) (by omega) fun r a1 s1 hr hr2 ha1 hs1 hs21=>?_
    obtain ⟨m,hmm,_,em⟩:=zb8 (f:=mvD) hr hr2
    obtain ⟨hmB,hg0,hg1,hg2⟩:=hm m hmm
    obtain ⟨hw1,hw2⟩:=hw m.1 hmB
    simp! [box,em,mvD,length_cons,length_nil]
    cases q2:decide (p < m.2)
    ·simp! [e_C]
     have:=of_decide_eq_false q2
     exact hnx _ ⟨a1,s1,t,m.2,_,_,_,_,_,ha1,hs1,hs21,ht,htc,hne,hg0,by omega,rfl⟩
    ·have q2':=of_decide_eq_true q2
     have hgp:m.2=p + m.1.length:=by omega
     have hl3:=cut3 hp hp2 hgp
     have l1:(cutL t none (some p)).length<=1000:=le_trans (zbQ _ _ _) (by omega)
     have l2:(cutL t (some m.2) none).length<=1000:=le_trans (zbQ _ _ _) (by omega)
     simp! [length_append]
     refine hnx _ ⟨a1,s1,(cutL t none (some p)++m.1)++cutL t (some m.2) none,m.2,_,_,_,_,_,ha1,hs1,hs21,by rw [hl3]; omega,fun c hc=>?_,(fun z=>by rw [z] at hmB; cases hmB),hg0,by rw [hl3]; omega,rfl⟩
     rcases mem_append.mp hc with z | z
     ·rcases mem_append.mp z with z | z
      ·exact htc c (zbn z)
      ·exact hw2 c z
     ·exact htc c (zbn z)
   ·simp! [e_C]
    exact hnx _ ⟨a,s,t,p,_,_,_,_,_,ha,hs,hs2,ht,htc,hne,hp,hp2,rfl⟩
  simp! [box,zav]
  cases q:decide ((4:Int) < 0 + (k:Int))
  ·simp! [e_C]
   have:=pick ms hml hm
   simp! [box] at this
   exact this
  ·simp! [e_C]
   refine bl1 (n:=11) (toD:=mvD) ms (fun m=>if decide (p < m.2)=true then some (.sh (mvD m)) else none) (fun m hmm l o K hl hK=>?_) fun o=>?_
   ·cases q3:decide (p < m.2)
    ·simp! [x_bX,zlh,u_10_c1,mvD,q3]
     rw [q3] at hK
     have:=hK (some (.sh (mvD m)))
     rw [if_neg (by decide),toList_none,append_nil] at this
     exact this
    ·simp! [x_bX,zcX,u_10_c1,mvD,q3]
     rw [q3] at hK
     exact ⟨by simp only [zah]; omega,hK _⟩
   ·rw [zkT (fun m:Mv=>decide (p < m.2)) (fun m=>S.sh (mvD m)),show ((ms.filter fun m:Mv=>decide (p < m.2)).map fun m=>S.sh (mvD m))=((ms.filter fun m:Mv=>decide (p < m.2)).map mvD).map S.sh by rw [map_map]; rfl]
    simp! [zav]
    have:=pick (ms.filter fun m:Mv=>decide (p < m.2)) (le_trans (List.length_filter_le _ _) hml) fun m hmm=>hm m (mem_filter.mp hmm).1
    simp! [box] at this
    exact this
 ·obtain ⟨a,s,t,p,o6,o7,o8,o9,o10,ha,hs,hs2,ht,htc,hne,hp,hp2,rfl⟩:=hI
  simp! [box]
  cases q:decide (t=[])
  ·have hpos:0 < t.length:=length_pos_iff.mpr (of_decide_eq_false q)
   simp! [box]
   refine zaj ha hs hs2 (by decide) (by decide) fun r a1 s1 hr hr2 ha1 hs1 hs21=>?_
   simp! [box]
   cases q2:decide (r=0)
   ·simp! [e_C]
    exact h t a1 s1 ht htc hne ha1 hs1 hs21
   ·simp! [box]
    refine zaj ha1 hs1 hs21 (by omega) (by omega) fun x a2 s2 hx0 hx1 ha2 hs2 hs22=>?_
    simp! [box]
    refine zaj ha2 hs2 hs22 (by omega) (by omega) fun r3 a3 s3 hr3 hr32 ha3 hs3 hs23=>?_
    obtain ⟨c,hcm,_,ec⟩:=zeg (l:=col) hr3 hr32
    have l1:(cutL t none (some x)).length<=1000:=le_trans (zbQ _ _ _) (by omega)
    have l2:(cutL t (some (x + 1)) none).length<=1000:=le_trans (zbQ _ _ _) (by omega)
    have l3:=cut3 (t:=t) (w:=[c]) (p:=x) (g:=x + 1) hx0 (by omega) (by simp)
    simp! [box,ec,length_append,length_cons,length_nil]
    refine h _ a3 s3 (by rw [l3]; omega) (fun y hy=>?_) (fun z=>by rw [hne z] at hpos; cases hpos) ha3 hs3 hs23
    rcases mem_append.mp hy with z | z
    ·rcases mem_append.mp z with z | z
     ·exact htc y (zbn z)
     ·rw [mem_singleton.mp z]; exact hcm
    ·exact htc y (zbn z)
  ·simp! [e_C]
   exact h t a s ht htc hne ha hs hs2
structure Fit (B:List Wd) (w:Wd):Prop where
 nd:B.Nodup
 ne:∀ x∈B,x≠[]
 le:∀ x∈B,x.length<=1000
 six:B.length<=6
 tw:w.length<=12
theorem zc2 {B:List Wd} {w:Wd} (hf:Fit B w)
  (h:P (.lst (((strP B w).map trD).map .sh)) [.sh (boardD B),.sh (.str w)]):w_0 [.sh (boardD B),.sh (.str w)] P PX:=by
 have h12:=hf.tw
 have h6:=hf.six
 have hlen:((List.range w.length).flatMap (rawI B w)).length < 64:=by rw [<- (zeD hf.nd hf.ne).length_eq]; exact zfL hf.nd hf.ne h6 h12
 have he:(List.range w.length).flatMap (fun i=>(rawI B w i).map fun t=>S.sh (trD t))=(((List.range w.length).flatMap (rawI B w)).map trD).map S.sh:=by simp [List.map_flatMap,Function.comp_def]
 refine za1 rfl rfl ?_
 simp! [e_C]
 refine ⟨by simp only [zah]; omega,?_⟩
 rw [from0 rfl]
 refine bf (n:=2) (k:=3) (List.range w.length) (fun i=>(rawI B w i).map fun t=>S.sh (trD t)) (fun i hi l vs K hv hl hK=>?_) (fun vs hv=>?_)
 ·obtain ⟨a,b,c,rfl⟩:=len3v hv
  rw [he,length_map,length_map,length_map] at hl
  simp! [x_bX,zcX,u_0_c2,boardD,zia]
  refine bi2 (fun l o o'=>[some (.sh (boardD B)),some (.sh (.str w)),some (.lst l),some (.sh (.int (i:Int))),o,o']) (List.range B.length) (fun k=>if decide (seg w i (i + ((B[k]?).getD []).length)=(B[k]?).getD [])=true then some (S.sh (trD (i,i + ((B[k]?).getD []).length,k))) else none) (fun k hk l2 o o' K2 hl2 hK2=>?_) fun o o'=>?_
  ·have hm:(List.range B.length).filterMap (fun k=>if decide (seg w i (i + ((B[k]?).getD []).length)=(B[k]?).getD [])=true then some (S.sh (trD (i,i + ((B[k]?).getD []).length,k))) else none)=(rawI B w i).map fun t=>S.sh (trD t):=by
    unfold rawI
    rw [List.map_filterMap]
    refine zdK fun x _=>?_
    split <;> rfl
   rw [hm,length_map] at hl2
   have ec:cutL w (some (i:Int)) (some ((i:Int) + ((((B[k]?).getD []).length:Nat):Int)))=seg w i (i + ((B[k]?).getD []).length):=by rw [<- natCast_add]; exact zeY w _ _
   cases q:decide (seg w i (i + ((B[k]?).getD []).length)=(B[k]?).getD [])
   ·simp! [x_bX,boardD,length_cons,length_nil,ec,q,zlh]
    have:=hK2 (some (.sh (.int (k:Int)))) (some (.sh (.str ((B[k]?).getD []))))
    rw [q,if_neg (by decide),toList_none,append_nil] at this
    exact this
   ·simp! [x_bX,boardD,length_cons,length_nil,ec,q,zcX,u_0_c1]
    have:=hK2 (some (.sh (.int (k:Int)))) (some (.sh (.str ((B[k]?).getD []))))
    rw [q,if_pos rfl,Option.toList_some] at this hl2
    simp only [length_singleton] at hl2
    refine ⟨by simp only [zah]; omega,?_⟩
    rw [zkh,natCast_add] at this
    exact this
  ·have hm:(List.range B.length).filterMap (fun k=>if decide (seg w i (i + ((B[k]?).getD []).length)=(B[k]?).getD [])=true then some (S.sh (trD (i,i + ((B[k]?).getD []).length,k))) else none)=(rawI B w i).map fun t=>S.sh (trD t):=by
    unfold rawI
    rw [List.map_filterMap]
    refine zdK fun x _=>?_
    split <;> rfl
   rw [hm]
   exact hK _ rfl
 ·obtain ⟨a,b,c,rfl⟩:=len3v hv
  rw [he]
  simp! [zav,ziw (zeD hf.nd hf.ne) hlen]
  exact h
theorem zgq {B:List Wd} {b:D} {w:Wd} (hb:∀ z,cInA (.str z) b=some (decide (z∈B))) (h12:w.length<=60)
  (h:P (.lst ((tiesL B w).map .sh)) [.sh b,.sh (.str w)]):w_11 [.sh b,.sh (.str w)] P PX:=by
 refine za1 rfl rfl ?_
 simp! [e_C]
 refine ⟨by simp only [zah]; omega,?_⟩
 rw [from0 (n:=w.length + 1) (by omega)]
 refine bm1 (n:=5) (List.range (w.length + 1)) (fun _=>S.lst []) (fun p hp l o K hl hK=>?_) fun o=>?_
 ·rw [length_range] at hl
  simp! [x_bX,zcX,u_11_c1]
  exact ⟨by simp only [zah]; omega,hK _⟩
 rw [show ((List.range (w.length + 1)).map fun _=>S.lst [])=fnd w.length fun _=>[] from rfl]
 simp! [e_C]
 refine ⟨by simp only [zah]; omega,?_⟩
 rw [from0 (n:=w.length) rfl]
 refine za9 (fun pre U=>∃ (f:Nat->List Nat) (o3 o4:Option S),GoneT B w pre.length (pre.length + 1) f/\U=[some (.sh b),some (.sh (.str w)),some (.lst (fnd w.length f)),o3,o4]) (List.range w.length) (fun pre i post D2 U e hI hnx hct hrt hbk=>?_) (fun U hI=>?_) ⟨fun _=>[],none,none,zgz,rfl⟩
 ·obtain ⟨f,o3,o4,hg,rfl⟩:=hI
  have hi:pre.length=i/\i < w.length:=zex e
  obtain ⟨rfl,hi⟩:=hi
  simp! [u_11_b3]
  refine ⟨by simp only [zah]; omega,?_⟩
  rw [from1 (a:=pre.length + 1) (n:=w.length + 1) (by omega) (by omega)]
  refine za9 (fun pre2 U=>∃ (f:Nat->List Nat) (o4:Option S),GoneT B w pre.length (pre.length + 1 + pre2.length) f/\U=[some (.sh b),some (.sh (.str w)),some (.lst (fnd w.length f)),some (.sh (natD pre.length)),o4]) (List.range' (pre.length + 1) (w.length + 1 - (pre.length + 1))) (fun pre2 j post2 D3 U e2 hI hnx2 hct2 hrt2 hbk2=>?_) (fun U hI=>?_) ⟨f,o4,by simpa using hg,rfl⟩
  ·obtain ⟨f,o4,hg,rfl⟩:=hI
   have hj:j=pre.length + 1 + pre2.length/\j<=w.length:=by
    have:=zdo e2; omega
   obtain ⟨hj1,hj2⟩:=hj
   rw [<- hj1] at hg
   have ht:decide (seg w pre.length j∈B)=tieB B w pre.length j:=by
    unfold tieB
    rw [decide_eq_true (show pre.length < j by omega),decide_eq_true hj2]; rfl
   simp! [u_11_b2,natD,zeY,hb]
   rw [ht]
   cases q:tieB B w pre.length j
   ·simp! [e_C]
    refine hnx2 _ ⟨f,_,?_,rfl⟩
    rw [length_append,length_singleton,show pre.length + 1 + (pre2.length + 1)=j + 1 by omega]
    exact zly (by omega) hg q
   ·simp! [e_C]
    rw [zga (by omega) (show (fnd w.length f)[((pre.length:Nat):Int).toNat]?=_ by rw [toNat_natCast]; exact zhy (by omega))]
    simp! [length_map]
    have hlen1:=zfB hg pre.length
    refine ⟨by simp only [zah]; omega,?_⟩
    rw [toNat_natCast,show (((f pre.length).map fun q=>S.sh (natD q))++[S.sh (D.int (j:Int))])=(((f pre.length).map fun q=>S.sh (natD q))++[S.sh (natD j)]) from rfl,zio (by omega)]
    rw [zga (by omega) (show (fnd w.length (addTo f pre.length j))[((j:Nat):Int).toNat]?=_ by rw [toNat_natCast]; exact zhy (by omega))]
    simp! [length_map]
    have hlen2:=zfB hg j
    have e3:addTo f pre.length j j=f j:=by unfold addTo; rw [if_neg (by omega)]
    refine ⟨by rw [e3]; simp only [zah]; omega,?_⟩
    rw [toNat_natCast,show (((addTo f pre.length j j).map fun q=>S.sh (natD q))++[S.sh (D.int (pre.length:Int))])=(((addTo f pre.length j j).map fun q=>S.sh (natD q))++[S.sh (natD pre.length)]) from rfl,zio (by omega)]
    refine hnx2 _ ⟨_,_,?_,rfl⟩
    rw [length_append,length_singleton,show pre.length + 1 + (pre2.length + 1)=j + 1 by omega]
    exact zjK (by omega) hg q
  ·obtain ⟨f,o4,hg,rfl⟩:=hI
   rw [List.length_range',show pre.length + 1 + (w.length + 1 - (pre.length + 1))=w.length + 1 by omega] at hg
   refine hnx _ ⟨f,_,_,?_,rfl⟩
   rw [length_append,length_singleton]
   exact zi4 (le_refl _) hg
 ·obtain ⟨f,o3,o4,hg,rfl⟩:=hI
  rw [length_range] at hg
  simp! [e_C]
  rw [show (fnd w.length f).map S.toD=(List.range (w.length + 1)).map fun p=>D.lst ((f p).map natD) by
   unfold fnd; rw [map_map]; refine map_congr_left fun p _=>?_; simp [Function.comp_def]]
  refine bm1 (n:=5) (List.range (w.length + 1)) (fun p=>.sh (.lst ((nb B w p).map natD))) (fun p hp l o K hl hK=>?_) fun o=>?_
  ·rw [length_range] at hl
   simp! [x_bX,zcX,u_11_c4,zlf (zh8 (le_refl _) hg) h12,zav]
   exact ⟨by simp only [zah]; omega,hK _⟩
  ·rw [show ((List.range (w.length + 1)).map fun p=>S.sh (.lst ((nb B w p).map natD)))=(tiesL B w).map S.sh by unfold tiesL; rw [map_map]; rfl]
   simp! [e_C]
   exact h
theorem zd6 {B:List Wd} {w:Wd} (h12:w.length<=60)
  (h:P (.lst ((tiesL B w).map .sh)) [.sh (boardD B),.sh (.str w)]):w_11 [.sh (boardD B),.sh (.str w)] P PX:=zgq (fun _=>zjx) h12 h
theorem ziF {B:List Wd} {w:Wd} {p:Nat} (hp:p<=w.length):atI (tiesL B w) (p:Int)=some (.lst ((nb B w p).map natD)):=by
 refine zbu (by omega) ?_
 rw [toNat_natCast]
 unfold tiesL
 rw [getElem?_map,getElem?_range (by omega)]; rfl
abbrev TS:=List (Nat×Nat)
def dctL (L:TS):S:=.dct false (keyL L) ((valL L).map .sh)
theorem zdY {B:List Wd} {w:Wd} {q:Nat} (h:Conn (TieR B w) w.length q):q<=w.length:=by
 cases h with
 | refl=>exact le_refl _
 | step _ e=>exact (zkG _ _ e).2
theorem zbT {B:List Wd} {w:Wd} {L:TS} (h:Right (TieR B w) w.length L):L.length<=w.length + 1:=by
 have:=zbm (L.map (·.1)) (List.range (w.length + 1)) h.nd fun x hx=>by
  obtain ⟨t,ht,rfl⟩:=mem_map.mp hx
  have:=zdY (zaR (h.ok t ht).1)
  exact mem_range.mpr (by omega)
 rw [length_map,length_range] at this
 exact this
theorem zfa {B:List Wd} {w:Wd} {D':Ends} {s1 o6:Option S} (h12:w.length<=60)
  (fin:∀ (L:TS) (o4 o5:Option S),Queue (TieR B w) w.length L []->D'.nx [some (.sh (.lst (tiesL B w))),s1,some (dctL L),some (.lst []),o4,o5,o6]):
  wWhile (wCmp cNe (wVar 3) (wLst wNil)) w_12_b2 D' [some (.sh (.lst (tiesL B w))),s1,some (dctL [(w.length,0)]),some (.lst [.sh (natD w.length)]),none,none,o6]:=by
 refine zmN (fun m U=>∃ (L qu:TS) (o4 o5:Option S),Queue (TieR B w) w.length L qu/\m + 2 * L.length=2 * (w.length + 1) + qu.length/\m<=2 * (w.length + 1)/\U=[some (.sh (.lst (tiesL B w))),s1,some (dctL L),some (.lst ((keyL qu).map .sh)),o4,o5,o6]) (2 * (w.length + 1) - 1) ⟨[(w.length,0)],[(w.length,0)],none,none,Queue.start,by simp; omega,by omega,rfl⟩ fun m U hJ=>?_
 obtain ⟨L,qu,o4,o5,hq,hm,hmb,rfl⟩:=hJ
 have hLl:=zbT hq.right
 cases qu with
 | nil=>
   simp! [x_Wf,keyL,map_nil,zfm (show deps []<=29 by decide),List.isEmpty_nil]
   exact fin L o4 o5 hq
 | cons t qu=>
   have hmid:=hq.take
   have hle:t.1<=w.length:=zdY (zaR (hq.right.ok t hmid.tin).1)
   have hdk:deps (keyL (t::qu))<=29:=ze2 _ fun d hd=>by
    unfold keyL at hd
    obtain ⟨u,_,rfl⟩:=mem_map.mp hd
    show 0<=29
    decide
   rw [length_cons] at hm
   have hql:qu.length<=2 * (w.length + 1):=by omega
   have hkl:(keyL (t::qu)).length=qu.length + 1:=by simp [keyL]
   simp! [x_Wt,zav,zfm hdk,show (keyL (t::qu)).isEmpty=false from rfl,u_12_b2,length_map,hkl,ziF hle]
   refine zj1 (s:=.sh (natD t.1)) (by decide) (by rw [length_map,hkl]; simp only [zah]; omega) rfl ?_
   rw [show (List.map S.sh (keyL (t::qu))).eraseIdx (Int.toNat 0)=(keyL qu).map S.sh from rfl]
   simp! [natD,ziF hle]
   refine za9 (toD:=natD) (fun pre U=>∃ (L2 qu2:TS) (o5:Option S),Mid (TieR B w) w.length L2 qu2 t pre/\L2.length + qu.length=L.length + qu2.length/\L.length<=L2.length/\U=[some (.sh (.lst (tiesL B w))),s1,some (dctL L2),some (.lst ((keyL qu2).map .sh)),some (.sh (.int (t.1:Int))),o5,o6]) (nb B w t.1) (fun pre q post D2 U e hI hnx hct hrt hbk=>?_) (fun U hI=>?_) ⟨L,qu,o5,hmid,rfl,le_refl _,rfl⟩
   ·obtain ⟨L2,qu2,o5,hm2,hl2,hl3,rfl⟩:=hI
    have hqn:q∈nb B w t.1:=by rw [<- e]; simp
    have hr:TieR B w t.1 q:=zaQ.mp hqn
    have hL2:=zbT hm2.right
    by_cases hin:∃ d,(q,d)∈L2
    ·have hn:=zhi (vs:=valL L2) hin
     simp! [u_12_b1,natD,dctL,zgF,hn]
     obtain ⟨d,hd⟩:=hin
     exact hnx _ ⟨L2,qu2,_,hm2.skip hd,hl2,hl3,rfl⟩
    ·have hn:=zj4 (vs:=valL L2) hin
     have hlk:lk (keyL L2) (valL L2) (.int (t.1:Int))=some (.int (t.2:Int)):=zeV (f:=natD) hm2.right.nd (show (t.1,t.2)∈L2 from hm2.tin)
     simp! [u_12_b1,natD,dctL,zgF,hn,hlk]
     have k1:(keyL L2).length=L2.length:=by simp [keyL]
     have k2:((keyL qu2).map S.sh).length=qu2.length:=by simp [keyL]
     refine ⟨zk8 hm2.right.nd,by rw [k1]; simp only [zah]; omega,by rw [k2]; simp only [zah]; omega,?_⟩
     rw [zji fun d hd=>hin ⟨d,hd⟩]
     refine hnx _ ⟨L2++[(q,t.2 + 1)],qu2++[(q,t.2 + 1)],some (.sh (.int (q:Int))),hm2.put hr (fun e he=>hin ⟨e,he⟩),by simp only [length_append,length_singleton]; omega,by simp only [length_append,length_singleton]; omega,?_⟩
     simp [dctL,keyL,valL,natD]
   ·obtain ⟨L2,qu2,o5,hm2,hl2,hl3,rfl⟩:=hI
    have hL2:=zbT hm2.right
    refine zl7 (m':=2 * (w.length + 1) + qu2.length - 2 * L2.length) (by omega) ⟨L2,qu2,_,_,hm2.queue fun q hq=>zaQ.mpr hq,by omega,by omega,rfl⟩
theorem zj3 {B:List Wd} {w:Wd} {L:TS} (hq:Queue (TieR B w) w.length L []) {q d:Nat} (h:IsDist (TieR B w) w.length q d):lk (keyL L) (valL L) (.int (q:Int))=some (.int (d:Int)):=zeV (f:=natD) hq.right.nd (hq.done h)
theorem zgO {B:List Wd} {w:Wd} {D':Ends} {s1 o3 o4 o5:Option S} {L:TS} {p:Nat} (h12:w.length<=60) (hq:Queue (TieR B w) w.length L []) {d:Nat} (hd:IsDist (TieR B w) w.length p d)
  (fin:D'.nx [some (.sh (.lst (tiesL B w))),s1,some (dctL L),o3,o4,o5,some (.lst (((wayP B w d p).map natD).map .sh))]):
  wWhile (wCmp cNe (wIx (wVar 6) (wUn oNeg (wC (.int 1)))) (wBin oSub (wB bLen (wCons (wVar 0) wNil)) (wC (.int 1)))) w_12_b4 D' [some (.sh (.lst (tiesL B w))),s1,some (dctL L),o3,o4,o5,some (.lst [.sh (natD p)])]:=by
 have htl:(tiesL B w).length=w.length + 1:=by simp [tiesL]
 refine zmN (fun m U=>∃ (pre:List Nat) (cur:Nat),IsDist (TieR B w) w.length cur m/\pre++wayP B w m cur=wayP B w d p/\pre.length + m<=d/\U=[some (.sh (.lst (tiesL B w))),s1,some (dctL L),o3,o4,o5,some (.lst (((pre.map natD).map .sh)++[.sh (.int (cur:Int))]))]) d ⟨[],p,hd,rfl,by simp,rfl⟩ fun m U hJ=>?_
 obtain ⟨pre,cur,hc,hw,hpl,rfl⟩:=hJ
 have hcl:cur<=w.length:=zdY (zaR hc.1)
 have e1:(((w.length + 1:Nat):Int) - 1)=(w.length:Int):=by omega
 simp! [zdF,htl,e1]
 cases m with
 | zero=>
   have:=zf3 hc
   subst this
   simp! [x_Wf,decide_true,Bool.not_true]
   have e2:((pre.map natD).map S.sh)++[S.sh (.int (w.length:Int))]=((wayP B w d p).map natD).map S.sh:=by
    rw [<- hw]; simp [wayP,natD]
   rw [e2]
   exact fin
 | succ m=>
   have hne:¬ (cur:Int)=(w.length:Int):=fun z=>by
    have:cur=w.length:=by omega
    subst this
    have:=znt hc
    omega
   have hdl:d<=w.length + 1:=by have:=zjw hq hd; have:=zbT hq.right; omega
   rw [decide_eq_false hne]
   simp! [x_Wt,u_12_b4,zdF,ziF hcl]
   obtain ⟨r,hr,hn⟩:=zcC hc
   refine bl1 (n:=7) (toD:=natD) (nb B w cur) (fun q=>if decide (dst (TieR B w) w.length q + 1=dst (TieR B w) w.length cur)=true then some (.sh (natD q)) else none) (fun q hqm l o K hl hK=>?_) fun o=>?_
   ·obtain ⟨k,hk⟩:=zbC.mp ((zaR hc.1).step (zaQ.mp hqm))
    simp! [x_bX,natD,dctL,zgF,zj3 hq hk,zj3 hq hc,zdF,u_12_c3]
    have hl1:=zef (B:=B) (w:=w) (p:=cur)
    have eq:decide (dst (TieR B w) w.length q + 1=dst (TieR B w) w.length cur)=decide ((k:Int)=((m + 1:Nat):Int) - 1):=by
     rw [zde hk,zde hc]
     exact decide_eq_decide.mpr (by omega)
    rw [eq] at hK
    cases q2:decide ((k:Int)=((m + 1:Nat):Int) - 1)
    ·rw [q2] at hK
     simp! [zlh]
     have:=hK (some (.sh (.int (q:Int))))
     rw [if_neg (by decide),toList_none,append_nil] at this
     exact this
    ·rw [q2] at hK
     simp! [zcX,u_12_c3]
     exact ⟨by simp only [zah]; omega,hK _⟩
   ·have hl1:=zef (B:=B) (w:=w) (p:=cur)
    rw [zkT (fun q=>decide (dst (TieR B w) w.length q + 1=dst (TieR B w) w.length cur)) (fun q=>S.sh (natD q)),hr]
    have hso:(nearer B w cur::r).Pairwise (· < ·):=by rw [<- hr]; exact zcP.filter _
    have eb:bMinL [.lst (natD (nearer B w cur)::r.map natD)]=some (.sh (.int ((nearer B w cur:Nat):Int))):=by
     show (intsD _).bind _=_
     rw [show (natD (nearer B w cur)::r.map natD)=((nearer B w cur::r).map fun q=>((q:Nat):Int)).map D.int by rw [map_map]; rfl,zbN,Option.bind_some,ziY hso]; rfl
    rw [show ((nearer B w cur::r).map fun q=>S.sh (natD q))=((nearer B w cur::r).map natD).map S.sh by rw [map_map]; rfl]
    simp! [zav,eb,length_append,length_map,length_singleton,length_cons,length_nil]
    refine ⟨by simp only [zah]; omega,zl7 (m':=m) (by omega) ⟨pre++[cur],nearer B w cur,hn,?_,by rw [length_append,length_singleton]; omega,?_⟩⟩
    ·rw [<- hw]
     show pre++[cur]++wayP B w m (nearer B w cur)=pre++(cur::wayP B w m (nearer B w cur))
     simp
    ·simp [natD,dctL]
theorem zjO {B:List Wd} {w:Wd} {p:Nat} (h12:w.length<=60) (hp:p<=w.length)
  (h1:∀ d,IsDist (TieR B w) w.length p d->P (.sh (.tup ((wayP B w d p).map natD))) [.sh (.lst (tiesL B w)),.sh (.int (p:Int))])
  (h2:¬ Conn (TieR B w) w.length p->P (.sh (.tup [])) [.sh (.lst (tiesL B w)),.sh (.int (p:Int))]):w_12 [.sh (.lst (tiesL B w)),.sh (.int (p:Int))] P PX:=by
 have htl:(tiesL B w).length=w.length + 1:=by simp [tiesL]
 have e1:(((w.length + 1:Nat):Int) - 1)=(w.length:Int):=by omega
 refine za1 rfl rfl ?_
 simp! [htl,e1]
 refine zfa h12 fun L o4 o5 hq=>?_
 by_cases hc:Conn (TieR B w) w.length p
 ·obtain ⟨d,hd⟩:=zbC.mp hc
  have hn:=zhi (vs:=valL L) ⟨d,hq.done hd⟩
  simp! [dctL,zgF,hn]
  refine zgO h12 hq hd ?_
  simp! [zav]
  exact h1 d hd
 ·have hn:=zj4 (vs:=valL L) (L:=L) (q:=p) fun ⟨d,hd⟩=>hc (zbC.mpr ⟨d,hq.right.ok _ hd⟩)
  simp! [dctL,zgF,hn]
  exact h2 hc
theorem zck (B:List Wd) (w:Wd):∀ d p,(wayP B w d p).length=d + 1
 | 0,_=>rfl
 | d + 1,p=>by rw [show wayP B w (d + 1) p=p::wayP B w d (nearer B w p) from rfl,length_cons,zck B w d]
theorem zks {B:List Wd} {w:Wd} {p d:Nat} (hd:IsDist (TieR B w) w.length p d):d<=w.length:=by
 have hsub:∀ k,k<=d->∃ q,IsDist (TieR B w) w.length q k:=fun k hk=>zdI hd k hk
 have key:∀ m,m<=d + 1->∃ l:List Nat,l.length=m/\l.Nodup/\∀ q∈l,q<=w.length/\∃ k,k < m/\IsDist (TieR B w) w.length q k:=by
  intro m
  induction m with
  | zero=>exact fun _=>⟨[],rfl,by simp,by simp⟩
  | succ m ih=>
    intro hm
    obtain ⟨l,h1,h2,h3⟩:=ih (by omega)
    obtain ⟨q,hq⟩:=hsub m (by omega)
    refine ⟨q::l,by simp [h1],nodup_cons.mpr ⟨fun hc=>?_,h2⟩,fun x hx=>?_⟩
    ·obtain ⟨_,k,hk,hq2⟩:=h3 q hc
     have:=zcm hq hq2
     omega
    ·rcases mem_cons.mp hx with rfl | hx
     ·exact ⟨zdY (zaR hq.1),m,by omega,hq⟩
     ·obtain ⟨h4,k,hk,hq2⟩:=h3 x hx
      exact ⟨h4,k,by omega,hq2⟩
 obtain ⟨l,h1,h2,h3⟩:=key (d + 1) (by omega)
 have:=zbm l (List.range (w.length + 1)) h2 fun x hx=>mem_range.mpr (by have:=(h3 x hx).1; omega)
 rw [h1,length_range] at this
 omega
theorem zhq {l:List Nat} (h:0 < l.length):cEq (.tup (l.map natD)) (.tup [])=some false:=by
 unfold cEq
 rw [if_neg (by
  have:dep (.tup (l.map natD))=1:=by show deps (l.map natD) + 1=1; rw [show l.map natD=(l.map fun q=>((q:Nat):Int)).map D.int by rw [map_map]; rfl,zcp]
  rw [this]
  exact fun z=>by cases l <;> exact Bool.noConfusion (show false=true from z))]
 cases l with
 | nil=>cases h
 | cons a l=>
   refine congrArg some ?_
   rw [decide_eq_false_iff_not]
   exact fun z=>by cases z
theorem zfA:cEq (.tup []) (.tup [])=some true:=by
 unfold cEq
 rw [if_neg (by decide)]
 simp
theorem zk9 {t:Bool} {ks:List D} {l:List S} {k:D} {s:S} (h:k∉ks):dputS t ks l k s=.dct t (ks++[k]) (l++[s]):=by
 unfold dputS
 have:fIx ks k=none:=by
  unfold fIx
  rw [List.findIdx?_eq_none_iff]
  intro x hx
  simp only [decide_eq_false_iff_not]
  exact fun z=>h (z ▸ hx)
 rw [this]
def epD (t:Tr):D:=.tup [.int (t.1:Int),.int (t.2.1:Int)]
def numS (ts:List Tr):S:=.dct true (ts.map epD) ((ts.map fun t=>natD t.2.2).map .sh)
theorem zk3 {t u:Tr} (h:epD t=epD u):t.1=u.1/\t.2.1=u.2.1:=by
 unfold epD at h
 simp only [D.tup.injEq,List.cons.injEq,D.int.injEq,and_true] at h
 omega
theorem zoc {B:List Wd} {w:Wd}:((strP B w).map epD).Nodup:=by
 unfold List.Nodup
 rw [pairwise_map]
 refine zcW.imp fun {t u} h e=>?_
 have:=zk3 e
 omega
theorem zej {B:List Wd} {w:Wd} (hf:Fit B w) (h64:(strP B w).length < 64)
  (h:P (numS (strP B w)) [.sh (boardD B),.sh (.str w)]):w_1 [.sh (boardD B),.sh (.str w)] P PX:=by
 refine za1 rfl rfl ?_
 simp! [e_C]
 refine zc2 hf ?_
 simp! [zav]
 refine zh9 (fun pre U=>∃ o3 o4 o5:Option S,U=[some (.sh (boardD B)),some (.sh (.str w)),some (numS pre),o3,o4,o5]) (strP B w) (fun pre t post K U e hI hK=>?_) (fun U hI=>?_) ⟨none,none,none,rfl⟩
 ·obtain ⟨o3,o4,o5,rfl⟩:=hI
  have hnd:=zoc (B:=B) (w:=w)
  rw [<- e,map_append,map_cons] at hnd
  obtain ⟨n1,n2,n3⟩:=nodup_append.mp hnd
  have hlen:pre.length < 64:=by
   have:=congrArg List.length e
   rw [length_append] at this
   omega
  simp! [x_bX,zcX,zkh,u_1_c1,numS,length_cons,length_nil,length_map]
  refine ⟨rfl,n1,by simp only [zah]; omega,?_⟩
  have hne:D.tup [.int (t.1:Int),.int (t.2.1:Int)]∉pre.map epD:=fun z=>n3 _ z (epD t) (mem_cons_self ..) rfl
  rw [zk9 hne]
  have:=hK _ ⟨some (.sh (.int (t.1:Int))),some (.sh (.int (t.2.1:Int))),some (.sh (.int (t.2.2:Int))),rfl⟩
  unfold numS at this
  simp only [map_append,map_cons,map_nil] at this
  exact this
 ·obtain ⟨o3,o4,o5,rfl⟩:=hI
  simp! [e_C]
  exact h
def endsB (B:List Wd) (w:Wd) (p q:Int):Bool:=(strP B w).any fun t=>decide ((t.1:Int)=min p q) && decide ((t.2.1:Int)=max p q)
def pairsOf (ns:List Int):List (Int×Int):=ns.zip (ns.drop 1)
def zzB (B:List Wd) (w:Wd) (ns:List Int):Bool:=decide (ns.head?=some 0) && (decide (ns.getLast?=some (w.length:Int)) && (pairsOf ns).all fun p=>endsB B w p.1 p.2)
theorem zfI {B:List Wd} {w:Wd} {p q:Nat} (h:TieR B w p q):endsB B w (p:Int) (q:Int)=true:=by
 have key:∀ i j,tieB B w i j=true->((i:Int)=min (p:Int) q/\(j:Int)=max (p:Int) q)->endsB B w (p:Int) (q:Int)=true:=fun i j hh e=>by
  unfold endsB
  rw [any_eq_true]
  exact ⟨(i,j,B.idxOf (seg w i j)),zdP.mpr ⟨hh,rfl⟩,by rw [decide_eq_true e.1,decide_eq_true e.2]; rfl⟩
 unfold TieR tie at h
 rw [or_eq_true] at h
 rcases h with h | h
 ·have:=(zap.mp h).1
  exact key p q h (by omega)
 ·have:=(zap.mp h).1
  exact key q p h (by omega)
theorem zjb {B:List Wd} {w:Wd} {p q:Int} (h:endsB B w p q=true):∃ a b:Nat,p=a/\q=b/\TieR B w a b:=by
 unfold endsB at h
 obtain ⟨t,ht,e⟩:=any_eq_true.mp h
 rw [and_eq_true,decide_eq_true_iff,decide_eq_true_iff] at e
 have htt:=(zdP.mp ht).1
 have hlt:=(zap.mp htt).1
 by_cases hpq:p<=q
 ·refine ⟨t.1,t.2.1,by omega,by omega,?_⟩
  unfold TieR tie; rw [htt]; rfl
 ·refine ⟨t.2.1,t.1,by omega,by omega,?_⟩
  unfold TieR tie; rw [htt,Bool.or_true]
def linked (R:Int->Int->Bool):List Int->Bool
 | a::b::r=>R a b && linked R (b::r)
 | _=>true
theorem zdn (R:Int->Int->Bool):∀ ns:List Int,((pairsOf ns).all fun p=>R p.1 p.2)=linked R ns
 | []=>rfl
 | [_]=>rfl
 | a::b::r=>by
   have:=zdn R (b::r)
   show (R a b && ((b::r).zip r).all fun p=>R p.1 p.2)=(R a b && linked R (b::r))
   rw [<- this]; rfl
theorem zca {R:Int->Int->Bool} {x:Int} {r:List Int} (h2:linked R (x::r)=true):∀ l:List Int,linked R (l++[x])=true->linked R (l++x::r)=true
 | [],_=>h2
 | [a],h1=>by
   have h1':(R a x && true)=true:=h1
   show (R a x && linked R (x::r))=true
   rw [h2]; exact h1'
 | a::b::l,h1=>by
   have h1':(R a b && linked R ((b::l)++[x]))=true:=h1
   rw [and_eq_true] at h1'
   show (R a b && linked R ((b::l)++x::r))=true
   rw [h1'.1,zca h2 (b::l) h1'.2]; rfl
noncomputable def wayI (B:List Wd) (w:Wd) (d p:Nat):List Int:=(wayP B w d p).map fun (q:Nat)=>(q:Int)
theorem zmQ (B:List Wd) (w:Wd) (d p:Nat):(wayP B w d p).map natD=(wayI B w d p).map D.int:=by unfold wayI; rw [map_map]; rfl
theorem zfJ (B:List Wd) (w:Wd) (d p:Nat):∃ r,wayI B w d p=(p:Int)::r/\r.length=d:=by
 cases d with
 | zero=>exact ⟨[],rfl,rfl⟩
 | succ d=>exact ⟨(wayP B w d (nearer B w p)).map fun (q:Nat)=>(q:Int),rfl,by rw [length_map,zck]⟩
theorem zjz {B:List Wd} {w:Wd} {p d:Nat} (h:IsDist (TieR B w) w.length p (d + 1)):TieR B w p (nearer B w p):=by
 obtain ⟨r,hr,_⟩:=zcC h
 have:nearer B w p∈(nb B w p).filter fun q=>decide (dst (TieR B w) w.length q + 1=dst (TieR B w) w.length p):=by rw [hr]; simp
 exact zaQ.mp (mem_filter.mp this).1
theorem zf2 {B:List Wd} {w:Wd}:∀ {d p:Nat},IsDist (TieR B w) w.length p d->linked (endsB B w) (wayI B w d p)=true/\∃ l,wayI B w d p=l++[(w.length:Int)]
 | 0,p,h=>by
   have:=zf3 h
   subst this
   exact ⟨rfl,[],rfl⟩
 | d + 1,p,h=>by
   obtain ⟨_,_,hn⟩:=zcC h
   obtain ⟨h1,l,h2⟩:=zf2 hn
   obtain ⟨r,hr,_⟩:=zfJ B w d (nearer B w p)
   have e:wayI B w (d + 1) p=(p:Int)::wayI B w d (nearer B w p):=rfl
   refine ⟨?_,(p:Int)::l,by rw [e,h2]; rfl⟩
   rw [e,hr]
   rw [hr] at h1
   show (endsB B w p (nearer B w p) && linked (endsB B w) ((nearer B w p:Int)::r))=true
   rw [h1,zfI (zjz h)]; rfl
theorem zpc {B:List Wd} {w:Wd} {r l ns:List Int} (h1:ns=0::r) (h2:ns=l++[(w.length:Int)]) (h3:linked (endsB B w) ns=true):zzB B w ns=true:=by
 unfold zzB
 rw [zdn,h3,show ns.getLast?=some (w.length:Int) by rw [h2]; simp,show ns.head?=some 0 by rw [h1]; rfl]
 simp
theorem znS {l:List Nat}:cNe (.lst (l.map natD)) (.lst [])=some (!decide (l=[])):=by
 rw [show l.map natD=(l.map fun (q:Nat)=>(q:Int)).map D.int by rw [map_map]; rfl,show (D.lst [])=.lst (([]:List Int).map D.int) from rfl,ziP]
 congr 2
 exact decide_eq_decide.mpr (by simp)
def Steps (B:List Wd) (w:Wd) (l:List Nat):Prop:=linked (endsB B w) (l.map fun (q:Nat)=>(q:Int))=true/\∀ p∈l,p<=w.length
def tupN (l:List Nat):D:=.tup (l.map natD)
theorem zdV {l:List Nat} {p:Nat}:atI ((l++[p]).map natD) (-1)=some (.int (p:Int)):=by rw [map_append]; exact zdF
theorem znu {B:List Wd} {w:Wd} {p:Nat} {r:Int} (h0:0<=r) (h1:r < (nb B w p).length):∃ q,q∈nb B w p/\atI ((nb B w p).map natD) r=some (.int (q:Int)):=by
 obtain ⟨v,hv,_,e⟩:=zb8 (f:=natD) h0 h1
 exact ⟨v,hv,e⟩
theorem Steps.snoc {B:List Wd} {w:Wd} {l:List Nat} {p q:Nat} (h:Steps B w (l++[p])) (hq:q∈nb B w p):Steps B w (l++[p]++[q]):=by
 refine ⟨?_,fun x hx=>?_⟩
 ·have:=h.1
  rw [map_append] at this ⊢
  rw [map_append,append_assoc]
  exact zca (x:=(p:Int)) (r:=[(q:Int)]) (by show (endsB B w p q && true)=true; rw [zfI (zaQ.mp hq)]; rfl) _ this
 ·rcases mem_append.mp hx with hx | hx
  ·exact h.2 x hx
  ·rw [mem_singleton.mp hx]; exact (zgN hq).1
theorem zlH {B:List Wd} {w:Wd} {D':Ends} {b:WS} {n:Nat} {s4:List (Option S)} {a s:Int} {l:List Nat} {p:Nat} {o3:Option S} (h12:w.length<=60) (hn:n<=10) (hl1:l.length<=1) (ha:0<=a) (hs:1<=s) (hs2:s<=2147483629) (hS:Steps B w (l++[p])) (hb:b=wIf (wCmp cNe (wIx (wVar 1) (wIx (wVar 2) (wUn oNeg (wC (.int 1))))) (wLst wNil)) (wAsg (gName 2) (wBin oAdd (wVar 2) (wTup (wCons (wIx (wIx (wVar 1) (wIx (wVar 2) (wUn oNeg (wC (.int 1))))) (wCall w_4 [true,true] (wCons (wVar 0) (wCons (wB bLen (wCons (wIx (wVar 1) (wIx (wVar 2) (wUn oNeg (wC (.int 1))))) wNil)) wNil)))) wNil)))) wPass)
  (fin:∀ (a s:Int) (m:List Nat) (q:Nat) o3,0<=a->1<=s->s<=2147483629->Steps B w (m++[q])->m.length<=l.length + n->(∃ t,m++[q]=l++[p]++t)->Conn (TieR B w) p q->D'.nx (some (box a s)::some (.sh (.lst (tiesL B w)))::some (.sh (tupN (m++[q])))::o3::s4)):
  wLoop (gName 3) b ((List.range n).map fun (k:Nat)=>D.int (k:Int)) D' (some (box a s)::some (.sh (.lst (tiesL B w)))::some (.sh (tupN (l++[p])))::o3::s4):=by
 subst hb
 refine za9 (fun pre U=>∃ (a s:Int) (m:List Nat) (q:Nat) (o3:Option S),0<=a/\1<=s/\s<=2147483629/\Steps B w (m++[q])/\m.length<=l.length + pre.length/\(∃ t,m++[q]=l++[p]++t)/\Conn (TieR B w) p q/\U=some (box a s)::some (.sh (.lst (tiesL B w)))::some (.sh (tupN (m++[q])))::o3::s4) (List.range n) (fun pre k post D2 U e hI hnx hct hrt hbk=>?_) (fun U hI=>?_) ⟨a,s,l,p,o3,ha,hs,hs2,hS,by simp,⟨[],by simp⟩,.refl _,rfl⟩
 ·obtain ⟨a,s,m,q,o3,ha,hs,hs2,hS,hm,⟨t,ht⟩,hC,rfl⟩:=hI
  have hk:=zex e
  have hq:q<=w.length:=hS.2 q (by simp)
  have hnl:=zef (B:=B) (w:=w) (p:=q)
  simp! [tupN,box,zdV,ziF hq,znS]
  cases qn:decide (nb B w q=[])
  ·have hpos:0 < (nb B w q).length:=length_pos_iff.mpr (of_decide_eq_false qn)
   simp! [zdV,ziF hq,length_map]
   refine zaj ha hs hs2 (by omega) (by omega) fun r a2 s2 hr hr2 ha2 hs2 hs22=>?_
   obtain ⟨v,hv,ev⟩:=znu hr hr2
   have hml:(m++[q]).length<=l.length + 11:=by rw [length_append,length_singleton]; omega
   have hll:l.length<=1:=hl1
   simp! [box,ev,length_map,length_cons,length_nil]
   rw [show (m++[q]).map natD++[D.int (v:Int)]=(m++[q]++[v]).map natD by rw [map_append (l₁:=m++[q])]; rfl]
   exact hnx _ ⟨a2,s2,m++[q],v,_,ha2,hs2,hs22,hS.snoc hv,by rw [length_append,length_append,length_singleton,length_singleton]; omega,⟨t++[v],by rw [ht]; simp⟩,hC.step (zaQ.mp hv),rfl⟩
  ·simp! [e_C]
   exact hnx _ ⟨a,s,m,q,_,ha,hs,hs2,hS,by rw [length_append]; omega,⟨t,ht⟩,hC,rfl⟩
 ·obtain ⟨a,s,m,q,o3,ha,hs,hs2,hS,hm,ht,hC,rfl⟩:=hI
  rw [length_range] at hm
  exact fin a s m q o3 ha hs hs2 hS hm ht hC
def intL (l:List Nat):List Int:=l.map fun (q:Nat)=>(q:Int)
theorem zd5 {a s:Int} {B:List Wd} {w:Wd} (ha:0<=a) (hs:1<=s) (hs2:s<=2147483629) (h12:w.length<=60)
  (h:∀ (l:List Nat) a' s',l.length<=w.length + 12->((l=[]/\¬ Conn (TieR B w) w.length 0)\/zzB B w (intL l)=true)->0<=a'->1<=s'->s'<=2147483629->P (.sh (tupN l)) [box a' s',.sh (.lst (tiesL B w))]):w_13 [box a s,.sh (.lst (tiesL B w))] P PX:=by
 refine za1 rfl rfl ?_
 simp! [box,length_cons,length_nil]
 refine zaj ha hs hs2 (by decide) (by decide) fun r a1 s1 hr hr2 ha1 hs1 hs21=>?_
 simp! [box]
 refine ⟨by simp only [zah]; omega,?_⟩
 rw [from0 (n:=r.toNat) (by omega)]
 refine zlH (l:=[]) (p:=0) h12 (by omega) (by simp) ha1 hs1 hs21 ⟨rfl,by simp⟩ w_13_b1.eq_1 fun a2 s2 m q o3 ha2 hs2 hs22 hS hm ht hC=>?_
 have hq:q<=w.length:=hS.2 q (by simp)
 obtain ⟨t,ht⟩:=ht
 rw [length_nil,zero_add] at hm
 simp! [tupN,zdV]
 refine zjO (by omega) hq (fun d hd=>?_) fun hn=>?_
 ·have hdl:d<=w.length:=zks hd
  obtain ⟨rr,hr1,hr2'⟩:=zfJ B w d q
  have hw:(wayP B w d q).map natD=natD q::rr.map D.int:=by
   rw [zmQ,hr1]; rfl
  have ecut:cutL ((wayP B w d q).map natD) (some 1) none=rr.map D.int:=by rw [zbS _ (by decide),hw]; rfl
  have hml:(m++[q]).length<=10:=by rw [length_append,length_singleton]; omega
  simp! [box,zhq (show 0 < (wayP B w d q).length by rw [zck]; omega),ecut,length_map]
  obtain ⟨k1,l',k2⟩:=zf2 hd
  have e1:intL (m++wayP B w d q)=intL m++(q:Int)::rr:=by
   unfold intL
   rw [map_append]
   congr 1
  have hz:zzB B w (intL (m++wayP B w d q))=true:=by
   have hlk:linked (endsB B w) (intL m++(q:Int)::rr)=true:=zca (by rw [<- hr1]; exact k1) _ (by
    have:=hS.1
    rw [map_append] at this
    exact this)
   have e2:intL m++(q:Int)::rr=(intL m++l')++[(w.length:Int)]:=by rw [<- hr1,k2,append_assoc]
   have e3:∃ r,intL m++(q:Int)::rr=0::r:=by
    have:intL (m++[q])=0::intL t:=by rw [ht]; rfl
    unfold intL at this
    rw [map_append] at this
    cases m with
    | nil=>
      simp only [map_nil,nil_append,map_cons,List.cons.injEq] at this
      exact ⟨rr,by unfold intL; rw [map_nil,nil_append,this.1]⟩
    | cons x m=>
      simp only [map_cons,cons_append,List.cons.injEq] at this
      exact ⟨intL m++(q:Int)::rr,by unfold intL; rw [map_cons,cons_append,this.1]⟩
   obtain ⟨r3,e3⟩:=e3
   rw [e1]
   exact zpc e3 e2 hlk
  have:=h (m++wayP B w d q) a2 s2 (by rw [length_append,zck]; omega) (.inr hz) ha2 hs2 hs22
  rw [show (m++[q]).map natD++rr.map D.int=(m++wayP B w d q).map natD by
   rw [map_append,map_append,append_assoc,hw]; rfl]
  exact this
 ·simp! [box,zfA]
  exact h [] a2 s2 (by simp) (.inl ⟨rfl,fun c=>hn (c.trans hC)⟩) ha2 hs2 hs22
def ak:Nat->D->Bool
 | 0,_=>false
 | n + 1,.tup l=>decide (l.length<=1000) && l.all (ak n)
 | _ + 1,.str _=>true
 | _ + 1,.int _=>true
 | _ + 1,_=>false
theorem zfN:∀ l:List D,zipD l l=l.map fun x=>D.tup [x,x]
 | []=>rfl
 | x::l=>by show D.tup [x,x]::zipD l l=_; rw [zfN l]; rfl
theorem zgG {n:Nat} {d:D} (h:ak n d=true) (k:P (.sh (.bl true)) [.sh d,.sh d]):wRec zaX n [.sh d,.sh d] P PX:=by
 induction n generalizing d P PX with
 | zero=>cases h
 | succ n ih=>
   cases d with
   | tup l=>
     have h':(decide (l.length<=1000) && l.all (ak n))=true:=h
     rw [and_eq_true,decide_eq_true_iff,all_eq_true] at h'
     refine za1 rfl rfl ?_
     simp! [show isTy "tuple" (D.tup l)=true from rfl,decide_true]
     rw [zfN]
     refine bm2 (n:=2) l (fun _=>.sh (.bl true)) (fun x hx m o o' K hl hK=>?_) fun o o'=>?_
     ·simp! [x_bX,zcX,u_16_c1,length_cons,length_nil]
      refine ih (h'.2 x hx) ?_
      simp! [e_C]
      exact ⟨by simp only [zah]; omega,hK _ _⟩
     ·rw [show (l.map fun _=>S.sh (.bl true))=((l.map fun _=>true).map D.bl).map S.sh by simp [Function.comp_def]]
      simp! [zav,znA]
      rw [List.all_map,show (l.all (id ∘ fun _=>true))=true by simp]
      exact k
   | str x=>
     refine za1 rfl rfl ?_
     simp! [show isTy "tuple" (D.str x)=false from rfl,show isTy "str" (D.str x)=true from rfl,decide_true]
     exact k
   | int x=>
     refine za1 rfl rfl ?_
     simp! [show isTy "tuple" (D.int x)=false from rfl,show isTy "str" (D.int x)=false from rfl,show isTy "int" (D.int x)=true from rfl,show isTy "bool" (D.int x)=false from rfl,decide_true]
     exact k
   | _=>cases h
def onD (p q:Nat):Wd:=if p < q then [111,110] else [98,97,99,107]
def numN (B:List Wd) (w:Wd) (p q:Nat):Nat:=B.idxOf (seg w (min p q) (max p q))
def stepD (B:List Wd) (w:Wd) (t:Nat×Nat):D:=.tup [.str (onD t.1 t.2),.int (numN B w t.1 t.2:Int)]
def prN (l:List Nat):List (Nat×Nat):=l.zip (l.drop 1)
def prD (t:Nat×Nat):D:=.tup [.int (t.1:Int),.int (t.2:Int)]
theorem zeZ (l:List Nat):(prN l).length=l.length - 1:=by unfold prN; rw [List.length_zip,length_drop]; omega
theorem zh6:∀ l m:List Nat,zipD (l.map natD) (m.map natD)=(l.zip m).map prD
 | [],m=>by cases m <;> rfl
 | x::l,[]=>rfl
 | x::l,y::m=>by
   show D.tup [.int x,.int y]::zipD (l.map natD) (m.map natD)=_
   rw [zh6 l m]; rfl
theorem zni {l:List Nat} {k:Nat} (h:k + 1 < l.length):∃ p q,l[k]?=some p/\l[k + 1]?=some q/\(prN l)[k]?=some (p,q):=by
 refine ⟨l[k],l[k + 1],getElem?_eq_getElem (by omega),getElem?_eq_getElem h,?_⟩
 unfold prN
 rw [List.getElem?_zip_eq_some]
 exact ⟨getElem?_eq_getElem (by omega),by rw [List.getElem?_drop,Nat.add_comm 1 k]; exact getElem?_eq_getElem h⟩
open Classical in
theorem zj0:∀ {ts:List Tr} {t:Tr},(ts.map epD).Nodup->t∈ts->lk (ts.map epD) (ts.map fun t=>natD t.2.2) (epD t)=some (natD t.2.2)
 | [],_,_,h=>nomatch h
 | u::ts,t,hn,h=>by
   rw [map_cons,nodup_cons] at hn
   show (if epD u=epD t then some (natD u.2.2) else lk (ts.map epD) (ts.map fun t=>natD t.2.2) (epD t))=_
   rcases mem_cons.mp h with e | h
   ·rw [e,if_pos rfl]
   ·rw [if_neg fun e=>hn.1 (by rw [e]; exact mem_map.mpr ⟨t,h,rfl⟩)]
    exact zj0 hn.2 h
theorem zj7 {B:List Wd} {w:Wd} {p q:Nat} (h:tieB B w p q=true):lk ((strP B w).map epD) ((strP B w).map fun t=>natD t.2.2) (.tup [.int (p:Int),.int (q:Int)])=some (natD (B.idxOf (seg w p q))):=
 zj0 (t:=(p,q,B.idxOf (seg w p q))) zoc (zdP.mpr ⟨h,rfl⟩)
theorem zgI {B:List Wd} {w:Wd} {l:List Nat} (hf:Fit B w) (h64:(strP B w).length < 64) (hl:l.length<=100) (ht:∀ t∈prN l,TieR B w t.1 t.2)
  (h:P (.sh (.tup ((prN l).map (stepD B w)))) [.sh (boardD B),.sh (.str w),.sh (tupN l)]):w_2 [.sh (boardD B),.sh (.str w),.sh (tupN l)] P PX:=by
 refine za1 rfl rfl ?_
 simp! [e_C]
 refine zej hf h64 ?_
 have ecut:cutL (l.map natD) (some 1) none=(l.drop 1).map natD:=by rw [zbS _ (by decide),map_drop]; rfl
 simp! [numS,zav,tupN,ecut]
 rw [zh6]
 refine za9 (fun pre U=>∃ o5 o6:Option S,U=[some (.sh (boardD B)),some (.sh (.str w)),some (.sh (tupN l)),some (.sh (.dct true ((strP B w).map epD) ((strP B w).map fun t=>natD t.2.2))),some (.lst ((pre.map (stepD B w)).map .sh)),o5,o6]) (prN l) (fun pre t post D2 U e hI hnx hct hrt hbk=>?_) (fun U hI=>?_) ⟨none,none,rfl⟩
 ·obtain ⟨o5,o6,rfl⟩:=hI
  have hlen:pre.length<=100:=by
   have:=congrArg List.length e
   rw [length_append,zeZ] at this
   omega
  have htt:=ht t (by rw [<- e]; simp)
  unfold TieR tie at htt
  rw [or_eq_true] at htt
  have done:∀ (on:Wd) (n:Nat),on=onD t.1 t.2->n=numN B w t.1 t.2->D2.nx [some (.sh (boardD B)),some (.sh (.str w)),some (.sh (tupN l)),some (.sh (.dct true ((strP B w).map epD) ((strP B w).map fun t=>natD t.2.2))),some (.lst (((pre.map (stepD B w)).map .sh)++[.sh (.tup [.str on,.int (n:Int)])])),some (.sh (.int (t.1:Int))),some (.sh (.int (t.2:Int)))]:=fun on n e1 e2=>by
   subst e1 e2
   have:=hnx _ ⟨some (.sh (.int (t.1:Int))),some (.sh (.int (t.2:Int))),rfl⟩
   simp only [map_append,map_cons,map_nil] at this
   exact this
  rcases htt with hh | hh
  ·have hlt:=(zap.mp hh).1
   simp! [prD,u_2_b1,length_cons,length_nil,decide_eq_true (show (t.1:Int) < (t.2:Int) by omega),zj7 hh,length_map]
   refine ⟨by simp only [zah]; omega,done _ _ (by unfold onD; rw [if_pos hlt]) ?_⟩
   unfold numN
   rw [show min t.1 t.2=t.1 by omega,show max t.1 t.2=t.2 by omega]
  ·have hlt:=(zap.mp hh).1
   simp! [prD,u_2_b1,length_cons,length_nil,decide_eq_false (show ¬ (t.1:Int) < (t.2:Int) by omega),zj7 hh,length_map]
   refine ⟨by simp only [zah]; omega,done _ _ (by unfold onD; rw [if_neg (by omega)]) ?_⟩
   unfold numN
   rw [show min t.1 t.2=t.2 by omega,show max t.1 t.2=t.1 by omega]
 ·obtain ⟨o5,o6,rfl⟩:=hI
  simp! [zav]
  exact h
theorem sortU2 {p q:Nat}:bSortU [.tup [.int (p:Int),.int (q:Int)]]=some (.lst [.sh (.int (min p q:Nat)),.sh (.int (max p q:Nat))]):=by
 show (if [D.int (p:Int),D.int (q:Int)].length < 64/\(intsD [D.int (p:Int),D.int (q:Int)]).isSome then some (S.lst ((sortD [D.int (p:Int),D.int (q:Int)]).map .sh)) else none)=_
 rw [if_pos ⟨by simp,rfl⟩,za3 zdE (m:=[D.int (min p q:Nat),D.int (max p q:Nat)])]
 ·rfl
 ·intro d hd
  simp only [mem_cons,not_mem_nil,or_false] at hd
  rcases hd with rfl | rfl <;> trivial
 ·by_cases h:p<=q
  ·rw [min_eq_left h,Nat.max_eq_right h]
  ·rw [min_eq_right (by omega),Nat.max_eq_left (by omega)]
   exact .swap _ _ _
 ·refine List.pairwise_pair.mpr ?_
  rw [zce]
  exact decide_eq_true (by omega)
theorem zmr {B:List Wd} {z:Wd} (h:z∈B):ixD ((B.map fun b=>decide (b=z)).map D.bl) (.bl true)=some (B.idxOf z):=by
 unfold ixD
 rw [if_pos (by
  rw [all_eq_true]
  intro d hd
  obtain ⟨b,_,rfl⟩:=mem_map.mp hd
  rfl)]
 rw [List.findIdx?_eq_some_iff_getElem]
 have hi:B.idxOf z < B.length:=List.idxOf_lt_length_iff.mpr h
 refine ⟨by simpa using hi,?_,fun j hj=>?_⟩
 ·simp [List.getElem_idxOf hi]
 ·have:¬ B[j]'(by omega)=z:=by
   have:=List.not_of_lt_findIdx hj
   simpa using this
  simp [this]
theorem zlD {l:List Nat} {k p q:Nat} (h1:l[k]?=some p) (h2:l[k + 1]?=some q):cutL (l.map natD) (some (k:Int)) (some ((k + 2:Nat):Int))=[natD p,natD q]:=by
 rw [zgb]
 obtain ⟨a1,a2⟩:=List.getElem?_eq_some_iff.mp h1
 obtain ⟨b1,b2⟩:=List.getElem?_eq_some_iff.mp h2
 rw [<- map_drop,<- List.map_take,show k + 2 - k=2 by omega,drop_eq_getElem_cons a1,drop_eq_getElem_cons b1,a2,b2]
 rfl
theorem ze8 {B:List Wd} {w:Wd} {l:List Nat} (hB:B.length<=1000) (hl:l.length<=100) (ht:∀ t∈prN l,TieR B w t.1 t.2)
  (h:P (.sh (.tup ((prN l).map (stepD B w)))) [.sh (boardD B),.sh (.str w),.sh (tupN l)]):w_15 [.sh (boardD B),.sh (.str w),.sh (tupN l)] P PX:=by
 refine za1 rfl rfl ?_
 simp! [tupN,length_map]
 refine ⟨by simp only [zah]; omega,?_⟩
 rw [show fromTo 1 ((l.length:Int) - 1).toNat=(List.range' 1 (l.length - 1)).map fun (k:Nat)=>D.int (k:Int) from from1 (a:=1) (n:=l.length) rfl rfl]
 refine za9 (fun pre U=>∃ o4 o5 o6:Option S,U=[some (.sh (boardD B)),some (.sh (.str w)),some (.sh (tupN l)),some (.lst ((((prN l).take pre.length).map (stepD B w)).map .sh)),o4,o5,o6]) (List.range' 1 (l.length - 1)) (fun pre i post D2 U e hI hnx hct hrt hbk=>?_) (fun U hI=>?_) ⟨none,none,none,rfl⟩
 ·obtain ⟨o4,o5,o6,rfl⟩:=hI
  have hi:=zdo e
  obtain ⟨k,rfl⟩:∃ k,i=k + 1:=⟨i - 1,by omega⟩
  have hk:pre.length=k:=by omega
  obtain ⟨p,q,e1,e2,e3⟩:=zni (l:=l) (k:=k) (by omega)
  have htt:=ht (p,q) (mem_of_getElem? e3)
  have hmem:seg w (min p q) (max p q)∈B:=by
   unfold TieR tie at htt
   rw [or_eq_true] at htt
   rcases htt with hh | hh
   ·obtain ⟨a,_,b⟩:=zap.mp hh
    rw [show min p q=p by omega,show max p q=q by omega]; exact b
   ·obtain ⟨a,_,b⟩:=zap.mp hh
    rw [show min p q=q by omega,show max p q=p by omega]; exact b
  have c1:cutL (l.map natD) (some ((((k + 1:Nat):Int)) - 1)) (some ((((k + 1:Nat):Int)) + 1))=[.int (p:Int),.int (q:Int)]:=by
   rw [show ((k + 1:Nat):Int) - 1=(k:Int) by omega,show ((k + 1:Nat):Int) + 1=((k + 2:Nat):Int) by omega]
   exact zlD e1 e2
  have a1:atI (l.map natD) (((k + 1:Nat):Int) - 1)=some (.int (p:Int)):=zbu (by omega) (by rw [show (((k + 1:Nat):Int) - 1).toNat=k by omega,getElem?_map,e1]; rfl)
  have a2:atI (l.map natD) ((k + 1:Nat):Int)=some (.int (q:Int)):=zbu (by omega) (by rw [toNat_natCast,getElem?_map,e2]; rfl)
  simp! [u_15_b2,tupN,c1,sortU2]
  simp! [zav,boardD]
  refine bm1 (n:=7) B (fun b=>.sh (.bl (decide (b=seg w (min p q) (max p q))))) (fun b hb m o K hm hK=>?_) fun o=>?_
  ·simp! [x_bX,zcX,u_15_c1,show ∀ x y:D,atI [x,y] 0=some x from fun _ _=>rfl,show ∀ x y:D,atI [x,y] 1=some y from fun _ _=>rfl,zeY]
   exact ⟨by simp only [zah]; omega,hK _⟩
  ·rw [show (B.map fun b=>S.sh (.bl (decide (b=seg w (min p q) (max p q)))))=((B.map fun b=>decide (b=seg w (min p q) (max p q))).map D.bl).map S.sh by simp [Function.comp_def]]
   simp! [zav,zfD (zmr hmem),a1,a2,length_map,length_take]
   have htk:(prN l).take (k + 1)=(prN l).take k++[(p,q)]:=by
    obtain ⟨b1,b2⟩:=List.getElem?_eq_some_iff.mp e3
    rw [List.take_succ_eq_append_getElem b1,b2]
   have fin:=hnx [some (.sh (boardD B)),some (.sh (.str w)),some (.sh (tupN l)),some (.lst ((((prN l).take (pre++[k + 1]).length).map (stepD B w)).map .sh)),some (.sh (.int ((k + 1:Nat):Int))),some (.sh (.lst [.int (min p q:Nat),.int (max p q:Nat)])),some (.sh (.int (B.idxOf (seg w (min p q) (max p q)):Nat)))] ⟨_,_,_,rfl⟩
   rw [length_append,length_singleton,hk,htk,map_append,map_append] at fin
   by_cases hpq:p < q
   ·simp! [decide_eq_true (show (p:Int) < (q:Int) by omega),if_true,show ∀ x y:S,atI [x,y] 1=some y from fun _ _=>rfl,length_map,length_take,hk]
    refine ⟨by simp only [zah]; omega,?_⟩
    have e5:stepD B w (p,q)=.tup [.str [111,110],.int (B.idxOf (seg w (min p q) (max p q)):Nat)]:=by unfold stepD onD numN; rw [if_pos hpq]
    simp only [map_cons,map_nil,e5] at fin
    exact fin
   ·simp! [decide_eq_false (show ¬ (p:Int) < (q:Int) by omega),false_eq_true,if_false,show ∀ x y:S,atI [x,y] 0=some x from fun _ _=>rfl,length_map,length_take,hk]
    refine ⟨by simp only [zah]; omega,?_⟩
    have e5:stepD B w (p,q)=.tup [.str [98,97,99,107],.int (B.idxOf (seg w (min p q) (max p q)):Nat)]:=by unfold stepD onD numN; rw [if_neg hpq]
    simp only [map_cons,map_nil,e5] at fin
    exact fin
 ·obtain ⟨o4,o5,o6,rfl⟩:=hI
  rw [List.length_range',take_of_length_le (by rw [zeZ]; omega)]
  simp! [zav]
  exact h
theorem zfC {n:Nat}:∀ l:List Wd,(∀ x∈l,x.length<=n)->(l.map List.length).sum<=l.length * n
 | [],_=>by simp
 | a::l,h=>by
   have h1:=h a (by simp)
   have h2:=zfC l fun x hx=>h x (by simp [hx])
   simp only [map_cons,sum_cons,length_cons,Nat.add_mul]
   omega
structure Scn where
 col:List Nat
 B:List Wd
 w:Wd
 l:List Nat
structure Scn.ok (c:Scn):Prop where
 f:Fit c.B c.w
 n:c.l.length<=24
 z:c.l=[]\/zzB c.B c.w (intL c.l)=true
def scnD (c:Scn):D:=.tup [.str c.col,boardD c.B,.str c.w,tupN c.l]
theorem zgH {a s:Int} (ha:0<=a) (hs:1<=s) (hs2:s<=2147483629)
  (h:∀ (c:Scn) a' s',c.ok->0<=a'->1<=s'->s'<=2147483629->P (.sh (scnD c)) [box a' s']):w_14 [box a s] P PX:=by
 refine za1 rfl rfl ?_
 simp! [box]
 refine zaj ha hs hs2 (by decide) (by decide) fun r a1 s1 hr hr2 ha1 hs1 hs21=>?_
 simp! [box]
 refine zer ha1 hs1 hs21 (by omega) (by omega) fun col a2 s2 hcol hso hle ha2 hs2 hs22=>?_
 simp! [box]
 refine zgk ha2 hs2 hs22 (by omega) (by omega) (by decide) (by decide) (by decide) (by decide) fun B a3 s3 hB ha3 hs3 hs23=>?_
 have hB':goodB col 6 6 B:=hB
 have hf:∀ w:Wd,w.length<=12->Fit B w:=fun w hw=>⟨hB'.2.1,fun x hx=>(hB'.2.2 x hx).1,fun x hx=>by have:=(hB'.2.2 x hx).2.1; omega,hB'.1,hw⟩
 simp! [box]
 refine ziN ha3 hs3 hs23 (by omega) (by omega) (by decide) (by decide) (by have:=hB'.1; omega) (fun w hw=>⟨by have:=(hB'.2.2 w hw).2.1; omega,(hB'.2.2 w hw).2.2⟩) fun t a4 s4 ht htc hne ha4 hs4 hs24=>?_
 have ht':t.length<=12:=ht
 simp! [box,zav]
 refine zd6 (by omega) ?_
 simp! [zav]
 refine zd5 ha4 hs4 hs24 (by omega) fun l a5 s5 hl hz ha5 hs5 hs25=>?_
 by_cases hl0:l=[]
 ·subst hl0
  have hnc:¬ Conn (TieR B t) t.length 0:=by
   rcases hz with ⟨_,z⟩ | z
   ·exact z
   ·cases z
  have hBne:0 < B.length:=by
   cases B with
   | cons _ _=>simp
   | nil=>exact absurd (by rw [hne rfl]; exact Conn.refl _) hnc
  simp! [tupN,map_nil,zfA,box]
  refine zaj ha5 hs5 hs25 (by decide) (by decide) fun r6 a6 s6 hr6 hr62 ha6 hs6 hs26=>?_
  simp! [box]
  refine ⟨by simp only [zah]; omega,?_⟩
  refine bd1 (n:=5) (fun z:Wd=>S.sh (.str z)) _ (fun U=>∃ a s,0<=a/\1<=s/\s<=2147483629/\U=[some (box a s),some (.sh (.str col)),some (.sh (boardD B)),some (.sh (.str t)),some (.sh (.tup []))]) (fun z=>z∈B) (fun x hx U A o K hI hA hK=>?_) (fun U A o hI hA hP=>?_) ⟨a6,s6,ha6,hs6,hs26,rfl⟩
  ·obtain ⟨a,s,ha,hs,hs2,rfl⟩:=hI
   have:=hB'.1
   rw [zaB] at hA
   simp! [x_bX,zcX,u_14_c1,box,boardD,length_map]
   refine zaj ha hs hs2 (by omega) (by omega) fun r7 a7 s7 hr7 hr72 ha7 hs7 hs27=>?_
   obtain ⟨z,hz,_,ez⟩:=zb8 (f:=D.str) (l:=B) hr7 hr72
   simp! [ez,length_map]
   exact ⟨by simp only [zah]; omega,hK _ _ _ ⟨a7,s7,ha7,hs7,hs27,rfl⟩ hz⟩
  ·obtain ⟨a,s,ha,hs,hs2,rfl⟩:=hI
   rw [zaB] at hA
   have hfl:=zfC (n:=6) A fun x hx=>(hB'.2.2 x (hP x hx)).2.1
   have hA2:A.length<=2:=by omega
   have hw12:A.flatten.length<=12:=by
    rw [List.length_flatten]
    omega
   rw [show (A.map fun z:Wd=>S.sh (.str z))=(A.map D.str).map S.sh by rw [map_map]; rfl]
   simp! [box,zav,zhe (show (A.map List.length).sum<=big by simp only [zah]; omega)]
   refine zd6 (by omega) ?_
   simp! [zav]
   refine zd5 ha hs hs2 (by omega) fun l a7 s7 hl hz ha7 hs7 hs27=>?_
   simp! [box]
   exact h ⟨col,B,A.flatten,l⟩ a7 s7 ⟨hf _ hw12,by show l.length<=24; omega,hz.imp (·.1) id⟩ ha7 hs7 hs27
 ·simp! [tupN,box,zhq (length_pos_iff.mpr hl0)]
  exact h ⟨col,B,t,l⟩ a5 s5 ⟨hf _ ht',by show l.length<=24; omega,hz.imp (·.1) id⟩ ha5 hs5 hs25
theorem zkz {B:List Wd} {w:Wd} {l:List Nat} (h:l=[]\/zzB B w (intL l)=true):∀ t∈prN l,TieR B w t.1 t.2:=by
 rcases h with rfl | h
 ·intro t ht; cases ht
 ·unfold zzB at h
  rw [and_eq_true,and_eq_true,all_eq_true] at h
  intro t ht
  have hm:((t.1:Int),(t.2:Int))∈pairsOf (intL l):=by
   unfold pairsOf intL
   rw [<- map_drop,List.zip_map]
   exact mem_map.mpr ⟨t,ht,rfl⟩
  obtain ⟨a,b,e1,e2,hh⟩:=zjb (h.2.2 _ hm)
  have e1':(t.1:Int)=a:=e1
  have e2':(t.2:Int)=b:=e2
  rw [show t.1=a by omega,show t.2=b by omega]
  exact hh
theorem zkx {B:List Wd} {w:Wd} {p q:Nat} (h:TieR B w p q):TieR B.reverse w p q:=by
 unfold TieR tie at *
 have e:∀ i j,tieB B.reverse w i j=tieB B w i j:=fun i j=>by unfold tieB; simp
 rw [e,e]
 exact h
theorem zko {B:List Wd} {w:Wd} (h:Fit B w):Fit B.reverse w:=⟨(List.reverse_perm B).nodup_iff.mpr h.nd,fun x hx=>h.ne x (List.mem_reverse.mp hx),fun x hx=>h.le x (List.mem_reverse.mp hx),by rw [List.length_reverse]; exact h.six,h.tw⟩
theorem zjQ {B:List Wd} {w:Wd} {l:List Nat} (hl:l.length<=24):ak 4 (.tup ((prN l).map (stepD B w)))=true:=by
 show (decide (((prN l).map (stepD B w)).length<=1000) && ((prN l).map (stepD B w)).all (ak 3))=true
 rw [and_eq_true,decide_eq_true_iff,length_map,zeZ,all_eq_true]
 refine ⟨by omega,fun d hd=>?_⟩
 obtain ⟨t,_,rfl⟩:=mem_map.mp hd
 rfl
theorem pure_law:∀ ns:List Int,ns.length<=63->w_17 [.sh (.lst (ns.map .int))] (fun s _=>s=.sh (.bl true)) fun _ _=>True:=by
 intro ns hl
 refine za1 rfl rfl ?_
 simp! [length_map]
 refine ⟨by decide,?_⟩
 refine bd1 (n:=7) (fun c:Scn=>S.sh (scnD c)) _ (fun U=>U=[some (.sh (.lst (ns.map .int))),none,none,none,none,none,none]) Scn.ok (fun x hx U A o K hI hA hK=>?_) (fun U A o hI hA hP=>?_) rfl
 ·subst hI
  rw [zaB] at hA
  have hx':∃ k:Nat,k < 2/\x=.int (k:Int):=by
   rw [show fromTo 0 (Int.toNat 2)=(List.range 2).map fun (k:Nat)=>D.int (k:Int) from rfl] at hx
   obtain ⟨k,hk,rfl⟩:=mem_map.mp hx
   exact ⟨k,by simpa using hk,rfl⟩
  obtain ⟨k,hk,rfl⟩:=hx'
  simp! [x_bX,zcX,u_17_c1]
  refine zjg (by omega) fun a s ha hs hs2=>?_
  simp! [box]
  refine zgH ha hs hs2 fun c a2 s2 hc ha2 hs2 hs22=>?_
  simp! [box,length_map]
  exact ⟨by simp only [zah]; omega,hK _ c _ rfl hc⟩
 ·subst hI
  rw [zaB] at hA
  rw [show (A.map fun c:Scn=>S.sh (scnD c))=(A.map scnD).map S.sh by rw [map_map]; rfl]
  have hA2:A.length=2:=hA
  have c0:=zbQ (A.map scnD) none (some 1)
  rw [length_map] at c0
  simp! [zav,length_map]
  rw [zjS,<- map_append]
  have hA':∀ c∈A++cutL A none (some 1),c.ok:=fun c hc=>(mem_append.mp hc).elim (hP c) fun z=>hP c (zbn z)
  generalize A++cutL A none (some 1)=C at hA'
  refine za9 (fun _ U=>∃ o2 o3 o4 o5 o6:Option S,U=[some (.sh (.lst (ns.map .int))),some (.sh (.lst (A.map scnD))),o2,o3,o4,o5,o6]) C (fun pre c post D2 U e hI hnx hct hrt hbk=>?_) (fun U hI=>?_) ⟨_,_,_,_,_,rfl⟩
  ·obtain ⟨o2,o3,o4,o5,o6,rfl⟩:=hI
   have hc:c.ok:=hA' c (by rw [<- e]; simp)
   have h6:=hc.f.six
   have hn:=hc.n
   have htie:=zkz hc.z
   simp! [scnD,u_17_b3,length_cons,length_nil,boardD]
   rw [<- List.map_reverse,show [D.tup (c.B.map D.str),D.tup (c.B.reverse.map D.str),D.tup (c.B.map D.str)]=[c.B,c.B.reverse,c.B].map boardD from rfl]
   refine ⟨by rw [length_map]; simp only [zah]; omega,?_⟩
   refine za9 (fun _ U=>∃ o6:Option S,U=[some (.sh (.lst (ns.map .int))),some (.sh (.lst (A.map scnD))),some (.sh (.str c.col)),some (.sh (boardD c.B)),some (.sh (.str c.w)),some (.sh (tupN c.l)),o6]) [c.B,c.B.reverse,c.B] (fun pre2 B post2 D3 U e2 hI hnx2 hct2 hrt2 hbk2=>?_) (fun U hI=>?_) ⟨_,rfl⟩
   ·obtain ⟨o6,rfl⟩:=hI
    have hB:Fit B c.w/\∀ t∈prN c.l,TieR B c.w t.1 t.2:=by
     have:B∈[c.B,c.B.reverse,c.B]:=by rw [<- e2]; simp
     simp only [mem_cons,not_mem_nil,or_false] at this
     rcases this with rfl | rfl | rfl
     ·exact ⟨hc.f,htie⟩
     ·exact ⟨zko hc.f,fun t ht=>zkx (htie t ht)⟩
     ·exact ⟨hc.f,htie⟩
    have hB6:=hB.1.six
    simp! [u_17_b2]
    refine zgI hB.1 (zfL hB.1.nd hB.1.ne hB.1.six hB.1.tw) (by omega) hB.2 ?_
    simp! [e_C]
    refine ze8 (by omega) (by omega) hB.2 ?_
    simp! [e_C]
    refine zgG (zjQ hn) ?_
    simp! [e_C]
    exact hnx2 _ ⟨_,rfl⟩
   ·obtain ⟨o6,rfl⟩:=hI
    exact hnx _ ⟨_,_,_,_,_,rfl⟩
  ·obtain ⟨o2,o3,o4,o5,o6,rfl⟩:=hI
   simp! [e_C]
end pu
end Law
end
section
set_option maxHeartbeats 4000000
namespace Law
open PySem PySem.Spec PyProof.Rows L2 FL
local macro_rules
 | `(tactic| trivial)=>`(tactic| first | exact Or.inl rfl | exact Or.inr rfl)
def top (i:Nat):Stmt:=PySem.Challenge.pw_walktold_k31_steps_of_zigzags.main.body.getD i (.Pass ⟨0,0,0,0⟩)
abbrev s_0:Stmt:=top 1
def n_0:List Str:=["board","word"]
abbrev p_0:List Str:=["board","word"]
theorem sc_0:FnScope n_0 p_0 (defScope s_0):=⟨rfl,rfl,rfl,by decide +kernel,rfl,by decide +kernel,by decide +kernel⟩
abbrev s_1:Stmt:=top 2
def n_1:List Str:=["board","word"]
abbrev p_1:List Str:=["board","word"]
theorem sc_1:FnScope n_1 p_1 (defScope s_1):=⟨rfl,rfl,rfl,by decide +kernel,rfl,by decide +kernel,by decide +kernel⟩
abbrev s_2:Stmt:=top 4
def n_2:List Str:=["board","word","zigzag","numbers","steps","one","other"]
abbrev p_2:List Str:=["board","word","zigzag"]
theorem sc_2:FnScope n_2 p_2 (defScope s_2):=⟨rfl,rfl,rfl,by decide +kernel,rfl,by decide +kernel,by decide +kernel⟩
abbrev s_3:Stmt:=top 6
def n_3:List Str:=["_law_script","_law_k","_law_cell","_law_seed"]
abbrev p_3:List Str:=["_law_script","_law_k"]
theorem sc_3:FnScope n_3 p_3 (defScope s_3):=⟨rfl,rfl,rfl,by decide +kernel,rfl,by decide +kernel,by decide +kernel⟩
abbrev s_4:Stmt:=top 7
def n_4:List Str:=["_law_box_here","_law_many","_law_digit","_law_one"]
abbrev p_4:List Str:=["_law_box_here","_law_many"]
theorem sc_4:FnScope n_4 p_4 (defScope s_4):=⟨rfl,rfl,rfl,by decide +kernel,rfl,by decide +kernel,by decide +kernel⟩
abbrev s_5:Stmt:=top 8
def n_5:List Str:=["_law_box_here","_law_many","_law_left"]
abbrev p_5:List Str:=["_law_box_here","_law_many"]
theorem sc_5:FnScope n_5 p_5 (defScope s_5):=⟨rfl,rfl,rfl,by decide +kernel,rfl,by decide +kernel,by decide +kernel⟩
abbrev s_6:Stmt:=top 9
def n_6:List Str:=["_law_box_here","_law_colours_here","_law_most","_law_many"]
abbrev p_6:List Str:=["_law_box_here","_law_colours_here","_law_most"]
theorem sc_6:FnScope n_6 p_6 (defScope s_6):=⟨rfl,rfl,rfl,by decide +kernel,rfl,by decide +kernel,by decide +kernel⟩
abbrev s_7:Stmt:=top 10
def n_7:List Str:=["_law_box_here","_law_colours_here","_law_board_here","_law_one","_law_kind","_law_colour","_law_at"]
abbrev p_7:List Str:=["_law_box_here","_law_colours_here","_law_board_here"]
theorem sc_7:FnScope n_7 p_7 (defScope s_7):=⟨rfl,rfl,rfl,by decide +kernel,rfl,by decide +kernel,by decide +kernel⟩
abbrev s_8:Stmt:=top 11
def n_8:List Str:=["_law_box_here","_law_colours_here","_law_many","_law_most","_law_found","_law_k","_law_word_here"]
abbrev p_8:List Str:=["_law_box_here","_law_colours_here","_law_many","_law_most"]
theorem sc_8:FnScope n_8 p_8 (defScope s_8):=⟨rfl,rfl,rfl,by decide +kernel,rfl,by decide +kernel,by decide +kernel⟩
abbrev s_9:Stmt:=top 12
def n_9:List Str:=["_law_board_here","_law_text","_law_p","_law_most","_law_found","_law_one"]
abbrev p_9:List Str:=["_law_board_here","_law_text","_law_p","_law_most"]
theorem sc_9:FnScope n_9 p_9 (defScope s_9):=⟨rfl,rfl,rfl,by decide +kernel,rfl,by decide +kernel,by decide +kernel⟩
abbrev s_10:Stmt:=top 13
def n_10:List Str:=["_law_box_here","_law_board_here","_law_colours_here","_law_most","_law_text","_law_p","_law_turn","_law_some","_law_one","_law_goal","_law_at"]
abbrev p_10:List Str:=["_law_box_here","_law_board_here","_law_colours_here","_law_most"]
theorem sc_10:FnScope n_10 p_10 (defScope s_10):=⟨rfl,rfl,rfl,by decide +kernel,rfl,by decide +kernel,by decide +kernel⟩
abbrev s_11:Stmt:=top 14
def n_11:List Str:=["_law_board_here","_law_word_here","_law_found","_law_i","_law_j"]
abbrev p_11:List Str:=["_law_board_here","_law_word_here"]
theorem sc_11:FnScope n_11 p_11 (defScope s_11):=⟨rfl,rfl,rfl,by decide +kernel,rfl,by decide +kernel,by decide +kernel⟩
abbrev s_12:Stmt:=top 15
def n_12:List Str:=["_law_ties_here","_law_p","_law_steps_here","_law_here","_law_one","_law_q","_law_found"]
abbrev p_12:List Str:=["_law_ties_here","_law_p"]
theorem sc_12:FnScope n_12 p_12 (defScope s_12):=⟨rfl,rfl,rfl,by decide +kernel,rfl,by decide +kernel,by decide +kernel⟩
abbrev s_13:Stmt:=top 16
def n_13:List Str:=["_law_box_here","_law_ties_here","_law_found","_law_turn","_law_more"]
abbrev p_13:List Str:=["_law_box_here","_law_ties_here"]
theorem sc_13:FnScope n_13 p_13 (defScope s_13):=⟨rfl,rfl,rfl,by decide +kernel,rfl,by decide +kernel,by decide +kernel⟩
abbrev s_14:Stmt:=top 17
def n_14:List Str:=["_law_box_here","_law_colours_here","_law_board_here","_law_word_here","_law_places"]
abbrev p_14:List Str:=["_law_box_here"]
theorem sc_14:FnScope n_14 p_14 (defScope s_14):=⟨rfl,rfl,rfl,by decide +kernel,rfl,by decide +kernel,by decide +kernel⟩
abbrev s_15:Stmt:=top 18
def n_15:List Str:=["_law_board_here","_law_word_here","_law_places","_law_found","_law_k","_law_ends","_law_number"]
abbrev p_15:List Str:=["_law_board_here","_law_word_here","_law_places"]
theorem sc_15:FnScope n_15 p_15 (defScope s_15):=⟨rfl,rfl,rfl,by decide +kernel,rfl,by decide +kernel,by decide +kernel⟩
abbrev s_16:Stmt:=top 19
def n_16:List Str:=["_law_found","_law_due"]
abbrev p_16:List Str:=["_law_found","_law_due"]
theorem sc_16:FnScope n_16 p_16 (defScope s_16):=⟨rfl,rfl,rfl,by decide +kernel,rfl,by decide +kernel,by decide +kernel⟩
abbrev s_17:Stmt:=top 20
def n_17:List Str:=["_law_script","_law_scenes","_law_colours_here","_law_board_here","_law_word_here","_law_places","_law_one"]
abbrev p_17:List Str:=["_law_script"]
theorem sc_17:FnScope n_17 p_17 (defScope s_17):=⟨rfl,rfl,rfl,by decide +kernel,rfl,by decide +kernel,by decide +kernel⟩
structure Txt (K:W.Frag) (mg:Str->Option Value) (af:Nat->Addr):Prop where
 t_0:Tx K mg (af 0) "stretches" s_0 p_0
 t_1:Tx K mg (af 1) "numbers_by_ends" s_1 p_1
 t_2:Tx K mg (af 2) "steps_of" s_2 p_2
 t_3:Tx K mg (af 3) "_law_box" s_3 p_3
 t_4:Tx K mg (af 4) "_law_take" s_4 p_4
 t_5:Tx K mg (af 5) "_law_colours" s_5 p_5
 t_6:Tx K mg (af 6) "_law_word" s_6 p_6
 t_7:Tx K mg (af 7) "_law_near" s_7 p_7
 t_8:Tx K mg (af 8) "_law_board" s_8 p_8
 t_9:Tx K mg (af 9) "_law_moves" s_9 p_9
 t_10:Tx K mg (af 10) "_law_led" s_10 p_10
 t_11:Tx K mg (af 11) "_law_ties" s_11 p_11
 t_12:Tx K mg (af 12) "_law_way" s_12 p_12
 t_13:Tx K mg (af 13) "_law_zigzag" s_13 p_13
 t_14:Tx K mg (af 14) "_law_scene" s_14 p_14
 t_15:Tx K mg (af 15) "_law_steps" s_15 p_15
 t_16:Tx K mg (af 16) "_law_alike" s_16 p_16
 t_17:Tx K mg (af 17) "law" s_17 p_17
 n_all:mg "all"=none
 n_bool:mg "bool"=none
 n_enumerate:mg "enumerate"=none
 n_int:mg "int"=none
 n_isinstance:mg "isinstance"=none
 n_len:mg "len"=none
 n_list:mg "list"=none
 n_min:mg "min"=none
 n_range:mg "range"=none
 n_reversed:mg "reversed"=none
 n_sorted:mg "sorted"=none
 n_str:mg "str"=none
 n_tuple:mg "tuple"=none
 n_zip:mg "zip"=none
section
variable {P:Program} {w:World} {K:W.Frag} {mg:Str->Option Value} {base:Heap} {af:Nat->Addr}
theorem ok_0 (T:Txt K mg af):FnOk P w K mg base CX0 1 (af 0) (dO K (af 0)) p_0 (spW K w_0 2):=by
 refine fn_w (k:=0) T.t_0.F sc_0 rfl rfl fun cdv A outer s H E hr=>?_
 exact zaf (zat (zdH (by rfl) T.n_sorted zbE (zaa (zmU (vars:=["i","k","one"]) rfl (zil hr) (by rfl) (compSc (by kernel_rfl)) rfl (zaz (by rfl) T.n_range (zan (by rfl) T.n_len (zaa (fw 1) zab))) (fun _ _ _=>gcm 3) (fun _ _ _=>zaV) (fun _ _ _=>zlF (by rfl) (by rfl) T.n_enumerate zev (fw 0)) (fun _ _ _=>zcG (by rfl) (zao (gcm 4) (zao (gcm 5) zbw))) (fun _ _ _=>zeR rfl (zaq (fun _ _=>zbi (u31 hr)) zaN (zda (fw 1) (fw 3) (zal (fw 3) (zan (by rfl) T.n_len (zaa (fw 5) zab)))) (fw 5) (nomark _))) (fun _ _ _=>zaF (zaa (fw 3) (zaa (zal (fw 3) (zan (by rfl) T.n_len (zaa (fw 5) zab))) (zaa (fw 4) zab))))) zab)))
theorem ok_3 (T:Txt K mg af):FnOk P w K mg base CX0 1 (af 3) (dO K (af 3)) p_3 (spW K w_3 2):=by
 refine fn_w (k:=0) T.t_3.F sc_3 rfl rfl fun cdv A outer s H E hr=>?_
 exact zac (zai (zal (za5 zae (fw 1)) zae) (gnm 2 sc_3.nd))
  (zac (zaT (zaq (fun _ _=>zhl) ze3 (fw 1) (zan (by rfl) T.n_len (zaa (fw 0) zab)) (nomark _)) (zaf (zai (zax (fw 0) (fw 1)) (gnm 2 sc_3.nd))) (zaf (zaT (zaq (fun _ _=>zea) zcK (zan (by rfl) T.n_len (zaa (fw 0) zab)) zae (nomark _)) (zaf (zai (zal (fw 2) (za5 (zcg (zax (fw 0) (zcg (fw 1) (zan (by rfl) T.n_len (zaa (fw 0) zab)))) zae) zae)) (gnm 2 sc_3.nd))) zar)))
  (zac (zai (zal (zcg (zal (za5 (zcg (fw 2) zae) zae) (za5 zae (fw 1))) zae) zae) (gnm 3 sc_3.nd))
  (zaf (zat (zaK (zaa (zax (zaK (zaa zae (zaa (fw 2) zab))) (zdG (by rfl) T.n_int zey (zaa (zcB (fun _ _=>zj6) zhJ (fw 2) (znj zae zae) (nomark _)) zab))) (zaa (fw 3) zab)))))))
theorem ok_4 (T:Txt K mg af):FnOk P w K mg base CX0 1 (af 4) (dO K (af 4)) p_4 (spW K w_4 2):=by
 refine fn_w (k:=0) T.t_4.F sc_4 rfl rfl fun cdv A outer s H E hr=>?_
 exact zac (zaT (zaq (fun _ _=>zea) zcK (zax (fw 0) zae) zae (nomark _)) (zac (zai (zcg (zax (fw 0) zae) (fw 1)) (gnm 2 sc_4.nd))
  (zac (zfv (j:=0) (fw 0) zae (ziE (zax (fw 0) zae) (fw 1)))
  (zaf (zat (fw 2))))) zar)
  (zac (zai (zcg (za5 (zax (fw 0) zae) zae) zae) (gnm 3 sc_4.nd))
  (zac (zfv (j:=0) (fw 0) zae (zal (zcg (zal (za5 (fw 3) zae) zae) zae) zae))
  (zaf (zat (zcg (ziE (zal (za5 (fw 3) zae) (zax (fw 0) zae)) zae) (fw 1))))))
theorem ok_9 (T:Txt K mg af):FnOk P w K mg base CX0 1 (af 9) (dO K (af 9)) p_9 (spW K w_9 4):=by
 refine fn_w (k:=0) T.t_9.F sc_9 rfl rfl fun cdv A outer s H E hr=>?_
 exact zac (zai (zaK zab) (gnm 4 sc_9.nd))
  (zac (zbj (by rfl) (zbO (fw 0)) (gnm 5 sc_9.nd) (zac (zaT (zit (zfu (zaq (fun _ _=>zbi (u31 hr)) zaN (zda (fw 1) (fw 2) (zal (fw 2) (zan (by rfl) T.n_len (zaa (fw 5) zab)))) (zdd (fw 5) (zbt (zan (by rfl) T.n_len (zaa (fw 1) zab)) (fw 2))) (nomark _)) (zdA (zaq (fun _ _=>zl9) zk5 (zal (fw 2) (zan (by rfl) T.n_len (zaa (fw 5) zab))) (fw 3) (nomark _))))) (zaf (zaW (zaJ (j:=4) (fw 4) (zaF (zaa (fw 5) (zaa (zal (fw 2) (zan (by rfl) T.n_len (zaa (fw 5) zab))) zab)))))) zar)
  (zaf (zaT (zit (zfu (zaq (fun _ _=>zj6) zhJ (fw 2) (zan (by rfl) T.n_len (zaa (fw 5) zab)) (nomark _)) (zdA (zaq (fun _ _=>zbi (u31 hr)) zaN (zda (fw 1) (zbt (fw 2) (zan (by rfl) T.n_len (zaa (fw 5) zab))) (fw 2)) (fw 5) (nomark _))))) (zaf (zaW (zaJ (j:=4) (fw 4) (zaF (zaa (fw 5) (zaa (zbt (fw 2) (zan (by rfl) T.n_len (zaa (fw 5) zab))) zab)))))) zar))))
  (zaf (zat (fw 4))))
theorem ok_11 (T:Txt K mg af):FnOk P w K mg base CX0 1 (af 11) (dO K (af 11)) p_11 (spW K w_11 2):=by
 refine fn_w (k:=0) T.t_11.F sc_11 rfl rfl fun cdv A outer s H E hr=>?_
 exact zac (zcH (i:=2) (by decide) (fun j hj=>zcj sc_11.nd hj rfl) rfl (by rfl) (by rfl) (vars:=["_law_p"]) rfl (by rfl) (compSc (by kernel_rfl)) rfl (zaz (by rfl) T.n_range (zal (zan (by rfl) T.n_len (zaa (fw 1) zab)) zae)) (fun _ _ _=>gcm 6) (fun _ _ _=>zaV) (fun _ _ _=>zaK zab))
  (zac (zbj (by rfl) (zaz (by rfl) T.n_range (zan (by rfl) T.n_len (zaa (fw 1) zab))) (gnm 3 sc_11.nd) (zaf (zbj (by rfl) (zes (by rfl) T.n_range (zal (fw 3) zae) (zal (zan (by rfl) T.n_len (zaa (fw 1) zab)) zae)) (gnm 4 sc_11.nd) (zaf (zaT (zaq (fun _ _=>zmH (u32 hr)) zjy (zda (fw 1) (fw 3) (fw 4)) (fw 0) (by with_unfolding_all rfl)) (zac (zaW (zcY (j:=2) (fw 2) (fw 3) (fw 4)))
  (zaf (zaW (zcY (j:=2) (fw 2) (fw 4) (fw 3))))) zar)))))
  (zaf (zat (zcT (vars:=["_law_some"]) rfl (by rfl) (compSc (by kernel_rfl)) rfl (zbO (fw 2)) (fun _ _ _=>gcm 6) (fun _ _ _=>zaV) (fun _ _ _=>zaC (zdH (by rfl) T.n_sorted zbE (zaa (fw 6) zab)))))))
theorem ok_12 (T:Txt K mg af):FnOk P w K mg base CX0 1 (af 12) (dO K (af 12)) p_12 (spW K w_12 2):=by
 refine fn_w (k:=0) T.t_12.F sc_12 rfl rfl fun cdv A outer s H E hr=>?_
 exact zac (zai (ziU (zbt (zan (by rfl) T.n_len (zaa (fw 0) zab)) zae) zae) (gnm 2 sc_12.nd))
  (zac (zai (zaK (zaa (zbt (zan (by rfl) T.n_len (zaa (fw 0) zab)) zae) zab)) (gnm 3 sc_12.nd))
  (zac (zfw (zaq (fun _ _=>zb1 (u32 hr)) za6 (fw 3) (zaK zab) (nomark _)) (zac (zai (zaC (zfO (j:=3) (fw 3) zae)) (gnm 4 sc_12.nd))
  (zaf (zbj (by rfl) (zbO (zax (fw 0) (fw 4))) (gnm 5 sc_12.nd) (zaf (zaT (zaq (fun _ _=>zcx (u32 hr)) zbA (fw 5) (fw 2) (by with_unfolding_all rfl)) (zac (zld (j:=2) (zfk hr) (fw 2) (fw 5) (zal (zen (zfk hr) (fw 2) (fw 4)) zae))
  (zaf (zaW (zaJ (j:=3) (fw 3) (fw 5))))) zar))))))
  (zac (zaT (zaq (fun _ _=>zcx (u32 hr)) zbA (fw 1) (fw 2) (by with_unfolding_all rfl)) (zaf (zat (zaF zab))) zar)
  (zac (zai (zaK (zaa (fw 1) zab)) (gnm 6 sc_12.nd))
  (zac (zfw (zaq (fun _ _=>zb1 (u32 hr)) za6 (zax (fw 6) (zcJ zae)) (zbt (zan (by rfl) T.n_len (zaa (fw 0) zab)) zae) (nomark _)) (zaf (zaW (zaJ (j:=6) (fw 6) (zaC (zln (by rfl) (by rfl) T.n_min zlZ (zaa (zcT (vars:=["_law_q"]) rfl (by rfl) (compSc (by kernel_rfl)) rfl (zbO (zax (fw 0) (zax (fw 6) (zcJ zae)))) (fun _ _ _=>gcm 8) (fun _ _ _=>zeR rfl (zaq (fun _ _=>zbi (u31 hr)) zaN (zen (zfk hr) (fw 2) (fw 8)) (zbt (zen (zfk hr) (fw 2) (zax (fw 6) (zcJ zae))) zae) (nomark _))) (fun _ _ _=>fw 8)) zab)))))))
  (zaf (zat (zbX (by rfl) T.n_tuple za4 (zaa (fw 6) zab)))))))))
theorem ok_15 (T:Txt K mg af):FnOk P w K mg base CX0 1 (af 15) (dO K (af 15)) p_15 (spW K w_15 3):=by
 refine fn_w (k:=0) T.t_15.F sc_15 rfl rfl fun cdv A outer s H E hr=>?_
 exact zac (zai (zaK zab) (gnm 3 sc_15.nd))
  (zac (zbj (by rfl) (zes (by rfl) T.n_range zae (zan (by rfl) T.n_len (zaa (fw 2) zab))) (gnm 4 sc_15.nd) (zac (zai (zaC (zju (by rfl) T.n_sorted zbE (zaa (zda (fw 2) (zbt (fw 4) zae) (zal (fw 4) zae)) zab))) (gnm 5 sc_15.nd))
  (zac (zai (zhU (zaC (zcT (vars:=["_law_one"]) rfl (by rfl) (compSc (by kernel_rfl)) rfl (zbO (fw 0)) (fun _ _ _=>gcm 8) (fun _ _ _=>zaV) (fun _ _ _=>zcB (fun _ _=>zbi (u31 hr)) zaN (fw 8) (zda (fw 1) (zax (fw 5) zae) (zax (fw 5) zae)) (nomark _)))) (zaa zjD zab)) (gnm 6 sc_15.nd))
  (zaf (zaW (zaJ (j:=3) (fw 3) (zaF (zaa (zax (zaK (zaa (za8 (by rfl) (by decide)) (zaa (za8 (by rfl) (by decide)) zab))) (zdG (by rfl) T.n_int zey (zaa (zcB (fun _ _=>zhl) ze3 (zax (fw 2) (zbt (fw 4) zae)) (zax (fw 2) (fw 4)) (nomark _)) zab))) (zaa (fw 6) zab)))))))))
  (zaf (zat (zbX (by rfl) T.n_tuple za4 (zaa (fw 3) zab)))))
theorem ok_1 (T:Txt K mg af):FnOk P w K mg base CX0 2 (af 1) (dO K (af 1)) p_1 (spW K w_1 2):=by
 refine fn_w (k:=1) T.t_1.F sc_1 rfl rfl fun cdv A outer s H E hr=>?_
 exact zaf (zat (zn6 true (vars:=["i","j","k"]) rfl (zl4 hr) (by rfl) (compSc (by kernel_rfl)) rfl (zbO (fcl [true,true] T.t_0 (ok_0 T) hr (zaa (fw 0) (zaa (fw 1) zab)))) (fun _ _ _=>zcG (by rfl) (zao (gcm 3) (zao (gcm 4) (zao (gcm 5) zbw)))) (fun _ _ _=>zaV) (fun _ _ _=>zaF (zaa (fw 3) (zaa (fw 4) zab))) (fun _ _ _=>fw 5)))
theorem ok_5 (T:Txt K mg af):FnOk P w K mg base CX0 2 (af 5) (dO K (af 5)) p_5 (spW K w_5 2):=by
 refine fn_w (k:=1) T.t_5.F sc_5 rfl rfl fun cdv A outer s H E hr=>?_
 exact zac (zai (zi3 (by rfl) (by rfl) T.n_list zkP (zaa (za8 (by rfl) (by decide)) zab)) (gnm 2 sc_5.nd))
  (zaf (zat (ze7 (za8 (by rfl) (by decide)) (zaa (zdH (by rfl) T.n_sorted zbE (zaa (zcT (vars:=["_law_k"]) rfl (by rfl) (compSc (by kernel_rfl)) rfl (zaz (by rfl) T.n_range (fw 1)) (fun _ _ _=>gcm 4) (fun _ _ _=>zaV) (fun _ _ _=>zaC (zfO (j:=2) (fw 2) (fcl [true,true] T.t_4 (ok_4 T) hr (zaa (fw 0) (zaa (zan (by rfl) T.n_len (zaa (fw 2) zab)) zab)))))) zab)) zab))))
theorem ok_6 (T:Txt K mg af):FnOk P w K mg base CX0 2 (af 6) (dO K (af 6)) p_6 (spW K w_6 3):=by
 refine fn_w (k:=1) T.t_6.F sc_6 rfl rfl fun cdv A outer s H E hr=>?_
 exact zac (zai (za5 (fcl [true,true] T.t_4 (ok_4 T) hr (zaa (fw 0) (zaa (zal (fw 2) zae) zab))) (zdG (by rfl) T.n_int zey (zaa (zcB (fun _ _=>zb1 (u32 hr)) za6 (fw 1) (za8 (by rfl) (by decide)) (nomark _)) zab))) (gnm 3 sc_6.nd))
  (zaf (zat (ze7 (za8 (by rfl) (by decide)) (zaa (zcT (vars:=["_law_k"]) rfl (by rfl) (compSc (by kernel_rfl)) rfl (zaz (by rfl) T.n_range (fw 3)) (fun _ _ _=>gcm 5) (fun _ _ _=>zaV) (fun _ _ _=>zax (fw 1) (fcl [true,true] T.t_4 (ok_4 T) hr (zaa (fw 0) (zaa (zan (by rfl) T.n_len (zaa (fw 1) zab)) zab))))) zab))))
theorem ok_7 (T:Txt K mg af):FnOk P w K mg base CX0 2 (af 7) (dO K (af 7)) p_7 (spW K w_7 3):=by
 refine fn_w (k:=1) T.t_7.F sc_7 rfl rfl fun cdv A outer s H E hr=>?_
 exact zac (zai (zax (fw 2) (fcl [true,true] T.t_4 (ok_4 T) hr (zaa (fw 0) (zaa (zan (by rfl) T.n_len (zaa (fw 2) zab)) zab)))) (gnm 3 sc_7.nd))
  (zac (zai (fcl [true,true] T.t_4 (ok_4 T) hr (zaa (fw 0) (zaa zae zab))) (gnm 4 sc_7.nd))
  (zac (zai (zax (fw 1) (fcl [true,true] T.t_4 (ok_4 T) hr (zaa (fw 0) (zaa (zan (by rfl) T.n_len (zaa (fw 1) zab)) zab)))) (gnm 5 sc_7.nd))
  (zac (zai (fcl [true,true] T.t_4 (ok_4 T) hr (zaa (fw 0) (zaa (zan (by rfl) T.n_len (zaa (fw 3) zab)) zab))) (gnm 6 sc_7.nd))
  (zaf (zat (zax (zaK (zaa (zdd (fw 3) (zal (fw 6) zae)) (zaa (zep (fw 3) (fw 6)) (zaa (zal (fw 5) (fw 3)) (zaa (zal (fw 3) (fw 5)) (zaa (zal (fw 3) (fw 3)) zab)))))) (fw 4)))))))
theorem ok_10 (T:Txt K mg af):FnOk P w K mg base CX0 2 (af 10) (dO K (af 10)) p_10 (spW K w_10 4):=by
 refine fn_w (k:=1) T.t_10.F sc_10 rfl rfl fun cdv A outer s H E hr=>?_
 exact zac (zai (zaF (zaa (za8 (by rfl) (by decide)) (zaa zae zab))) (zcG (by rfl) (zao (gnm 4 sc_10.nd) (zao (gnm 5 sc_10.nd) zbw))))
  (zac (zbj (by rfl) (zaz (by rfl) T.n_range (zal zae (fcl [true,true] T.t_4 (ok_4 T) hr (zaa (fw 0) (zaa zae zab))))) (gnm 6 sc_10.nd) (zac (zai (zaC (fcl [true,true,true,true] T.t_9 (ok_9 T) hr (zaa (fw 1) (zaa (fw 4) (zaa (fw 5) (zaa (fw 3) zab)))))) (gnm 7 sc_10.nd))
  (zac (zaT (zaq (fun _ _=>zea) zcK (fw 6) zae (nomark _)) (zaf (zmg (zcH (i:=7) (by decide) (fun j hj=>zcj sc_10.nd hj rfl) rfl (by rfl) (by rfl) (vars:=["_law_move"]) rfl (by rfl) (compSc (by kernel_rfl)) rfl (zbO (fw 7)) (fun _ _ _=>gcm 12) (fun _ _ _=>zeR rfl (zaq (fun _ _=>zea) zcK (zax (fw 12) zae) (fw 5) (nomark _))) (fun _ _ _=>fw 12)))) zar)
  (zaf (zaT (zaq (fun _ _=>zb1 (u32 hr)) za6 (fw 7) (zaK zab) (nomark _)) (zac (zai (zax (fw 7) (fcl [true,true] T.t_4 (ok_4 T) hr (zaa (fw 0) (zaa (zan (by rfl) T.n_len (zaa (fw 7) zab)) zab)))) (zcG (by rfl) (zao (gnm 8 sc_10.nd) (zao (gnm 9 sc_10.nd) zbw))))
  (zac (zaT (zaq (fun _ _=>zea) zcK (fw 9) (fw 5) (nomark _)) (zaf (zai (zal (zal (zdd (fw 4) (fw 5)) (fw 8)) (zep (fw 4) (fw 9))) (gnm 4 sc_10.nd))) zar)
  (zaf (zai (fw 9) (gnm 5 sc_10.nd))))) zar)))))
  (zac (zaT (zit (zfu (zaq (fun _ _=>zb1 (u32 hr)) za6 (fw 4) (za8 (by rfl) (by decide)) (nomark _)) (zdA (zaq (fun _ _=>zbi (u31 hr)) zaN (fcl [true,true] T.t_4 (ok_4 T) hr (zaa (fw 0) (zaa zae zab))) zae (nomark _))))) (zac (zai (fcl [true,true] T.t_4 (ok_4 T) hr (zaa (fw 0) (zaa (zan (by rfl) T.n_len (zaa (fw 4) zab)) zab))) (gnm 10 sc_10.nd))
  (zaf (zai (zal (zal (zdd (fw 4) (fw 10)) (zax (fw 2) (fcl [true,true] T.t_4 (ok_4 T) hr (zaa (fw 0) (zaa (zan (by rfl) T.n_len (zaa (fw 2) zab)) zab))))) (zep (fw 4) (zal (fw 10) zae))) (gnm 4 sc_10.nd)))) zar)
  (zaf (zat (fw 4)))))
theorem ok_13 (T:Txt K mg af):FnOk P w K mg base CX0 2 (af 13) (dO K (af 13)) p_13 (spW K w_13 2):=by
 refine fn_w (k:=1) T.t_13.F sc_13 rfl rfl fun cdv A outer s H E hr=>?_
 exact zac (zai (zaF (zaa zae zab)) (gnm 2 sc_13.nd))
  (zac (zbj (by rfl) (zaz (by rfl) T.n_range (fcl [true,true] T.t_4 (ok_4 T) hr (zaa (fw 0) (zaa zae zab)))) (gnm 3 sc_13.nd) (zaf (zaT (zaq (fun _ _=>zb1 (u32 hr)) za6 (zax (fw 1) (zax (fw 2) (zcJ zae))) (zaK zab) (nomark _)) (zaf (zai (zal (fw 2) (zaF (zaa (zax (zax (fw 1) (zax (fw 2) (zcJ zae))) (fcl [true,true] T.t_4 (ok_4 T) hr (zaa (fw 0) (zaa (zan (by rfl) T.n_len (zaa (zax (fw 1) (zax (fw 2) (zcJ zae))) zab)) zab)))) zab))) (gnm 2 sc_13.nd))) zar)))
  (zac (zai (zaC (fcl [true,true] T.t_12 (ok_12 T) hr (zaa (fw 1) (zaa (zax (fw 2) (zcJ zae)) zab)))) (gnm 4 sc_13.nd))
  (zac (zaT (zaq (fun _ _=>zbi (u31 hr)) zaN (fw 4) (zaF zab) (nomark _)) (zaf (zat (zaF zab))) zar)
  (zaf (zat (zal (fw 2) (zep (fw 4) zae)))))))
theorem ok_2 (T:Txt K mg af):FnOk P w K mg base CX0 3 (af 2) (dO K (af 2)) p_2 (spW K w_2 3):=by
 refine fn_w (k:=2) T.t_2.F sc_2 rfl rfl fun cdv A outer s H E hr=>?_
 exact zac (zai (zaC (fcl [true,true] T.t_1 (ok_1 T) hr (zaa (fw 0) (zaa (fw 1) zab)))) (gnm 3 sc_2.nd))
  (zac (zai (zaK zab) (gnm 4 sc_2.nd))
  (zac (zbj (by rfl) (zkb (by rfl) (by rfl) T.n_zip zkf (fw 2) (zep (fw 2) zae)) (zcG (by rfl) (zao (gnm 5 sc_2.nd) (zao (gnm 6 sc_2.nd) zbw))) (zaf (zaT (zaq (fun _ _=>zhl) ze3 (fw 5) (fw 6) (nomark _)) (zaf (zaW (zaJ (j:=4) (fw 4) (zaF (zaa (za8 (by rfl) (by decide)) (zaa (zen (zfk hr) (fw 3) (zaF (zaa (fw 5) (zaa (fw 6) zab)))) zab)))))) (zaf (zaW (zaJ (j:=4) (fw 4) (zaF (zaa (za8 (by rfl) (by decide)) (zaa (zen (zfk hr) (fw 3) (zaF (zaa (fw 6) (zaa (fw 5) zab)))) zab)))))))))
  (zaf (zat (zbX (by rfl) T.n_tuple za4 (zaa (fw 4) zab))))))
theorem ok_8 (T:Txt K mg af):FnOk P w K mg base CX0 3 (af 8) (dO K (af 8)) p_8 (spW K w_8 4):=by
 refine fn_w (k:=2) T.t_8.F sc_8 rfl rfl fun cdv A outer s H E hr=>?_
 exact zac (zai (zaK zab) (gnm 4 sc_8.nd))
  (zac (zbj (by rfl) (zaz (by rfl) T.n_range (za5 (fcl [true,true] T.t_4 (ok_4 T) hr (zaa (fw 0) (zaa (zal (fw 2) zae) zab))) (zdG (by rfl) T.n_int zey (zaa (zcB (fun _ _=>zb1 (u32 hr)) za6 (fw 1) (za8 (by rfl) (by decide)) (nomark _)) zab)))) (gnm 5 sc_8.nd) (zac (zai (zal (zax (fw 1) (fcl [true,true] T.t_4 (ok_4 T) hr (zaa (fw 0) (zaa (zan (by rfl) T.n_len (zaa (fw 1) zab)) zab)))) (fcl [true,true,true] T.t_6 (ok_6 T) hr (zaa (fw 0) (zaa (fw 1) (zaa (zbt (fw 3) zae) zab))))) (gnm 6 sc_8.nd))
  (zac (zaT (zit (zfu (zaq (fun _ _=>zb1 (u32 hr)) za6 (fw 4) (zaK zab) (nomark _)) (zdA (zaq (fun _ _=>zbi (u31 hr)) zaN (fcl [true,true] T.t_4 (ok_4 T) hr (zaa (fw 0) (zaa zae zab))) zae (nomark _))))) (zaf (zai (zdd (fcl [true,true,true] T.t_7 (ok_7 T) hr (zaa (fw 0) (zaa (fw 1) (zaa (fw 4) zab)))) (fw 3)) (gnm 6 sc_8.nd))) zar)
  (zaf (zaT (zaq (fun _ _=>zcx (u32 hr)) zbA (fw 6) (fw 4) (by with_unfolding_all rfl)) (zaf (zaW (zaJ (j:=4) (fw 4) (fw 6)))) zar)))))
  (zaf (zat (zbX (by rfl) T.n_tuple za4 (zaa (fw 4) zab)))))
theorem ok_14 (T:Txt K mg af):FnOk P w K mg base CX0 4 (af 14) (dO K (af 14)) p_14 (spW K w_14 1):=by
 refine fn_w (k:=3) T.t_14.F sc_14 rfl rfl fun cdv A outer s H E hr=>?_
 exact zac (zai (fcl [true,true] T.t_5 (ok_5 T) hr (zaa (fw 0) (zaa (zal zae (fcl [true,true] T.t_4 (ok_4 T) hr (zaa (fw 0) (zaa zae zab)))) zab))) (gnm 1 sc_14.nd))
  (zac (zai (zaC (fcl [true,true,true,true] T.t_8 (ok_8 T) hr (zaa (fw 0) (zaa (fw 1) (zaa zae (zaa zae zab)))))) (gnm 2 sc_14.nd))
  (zac (zai (zaC (fcl [true,true,true,true] T.t_10 (ok_10 T) hr (zaa (fw 0) (zaa (fw 2) (zaa (fw 1) (zaa zae zab)))))) (gnm 3 sc_14.nd))
  (zac (zai (zaC (fcl [true,true] T.t_13 (ok_13 T) hr (zaa (fw 0) (zaa (zaC (fcl [true,true] T.t_11 (ok_11 T) hr (zaa (fw 2) (zaa (fw 3) zab)))) zab)))) (gnm 4 sc_14.nd))
  (zac (zaT (zaq (fun _ _=>zbi (u31 hr)) zaN (fw 4) (zaF zab) (nomark _)) (zac (zai (ze7 (za8 (by rfl) (by decide)) (zaa (zcT (vars:=["_law_k"]) rfl (by rfl) (compSc (by kernel_rfl)) rfl (zaz (by rfl) T.n_range (zal zae (fcl [true,true] T.t_4 (ok_4 T) hr (zaa (fw 0) (zaa zae zab))))) (fun _ _ _=>gcm 6) (fun _ _ _=>zaV) (fun _ _ _=>zax (fw 2) (fcl [true,true] T.t_4 (ok_4 T) hr (zaa (fw 0) (zaa (zan (by rfl) T.n_len (zaa (fw 2) zab)) zab))))) zab)) (gnm 3 sc_14.nd))
  (zaf (zai (zaC (fcl [true,true] T.t_13 (ok_13 T) hr (zaa (fw 0) (zaa (zaC (fcl [true,true] T.t_11 (ok_11 T) hr (zaa (fw 2) (zaa (fw 3) zab)))) zab)))) (gnm 4 sc_14.nd)))) zar)
  (zaf (zat (zaF (zaa (fw 1) (zaa (fw 2) (zaa (fw 3) (zaa (fw 4) zab)))))))))))
theorem ok_16 (T:Txt K mg af):FnOk P w K mg base CX0 4 (af 16) (dO K (af 16)) p_16 (spW K w_16 2):=by
 refine zjY (k:=0) (n:=2) (step:=zaX) rfl (fun r j hl hF=>?_) (fun _ _ _ _ h=>h.1) 4
 refine fn_w (k:=0 + j) T.t_16.F sc_16 rfl rfl fun cdv A outer s H E hr=>?_
 exact zac (zaT (zfs (zdp (by rfl) T.n_isinstance zay (by rfl) T.n_tuple za4 (by decide) (fw 1))) (zac (zaT (zit (zoA (zke (zfs (zdp (by rfl) T.n_isinstance zay (by rfl) T.n_tuple za4 (by decide) (fw 0)))) (znm (zaq (fun _ _=>zb1 (u32 hr)) za6 (zan (by rfl) T.n_len (zaa (fw 0) zab)) (zan (by rfl) T.n_len (zaa (fw 1) zab)) (nomark _))))) (zaf (zat zjD)) zar)
  (zaf (zat (zmK (by rfl) (by rfl) T.n_all znd (zaa (zcT (vars:=["_law_one","_law_other"]) rfl (by rfl) (compSc (by kernel_rfl)) rfl (zkb (by rfl) (by rfl) T.n_zip zkf (fw 0) (fw 1)) (fun _ _ _=>zcG (by rfl) (zao (gcm 3) (zao (gcm 4) zbw))) (fun _ _ _=>zaV) (fun _ _ _=>zaC (fcl [true,true] T.t_16 hF hr (zaa (fw 3) (zaa (fw 4) zab)) (hj:=le_refl _) (hlen:=hl)))) zab))))) zar)
  (zac (zaT (zfs (zdp (by rfl) T.n_isinstance zay (by rfl) T.n_str zj9 (by decide) (fw 1))) (zaf (zat (ziC (zdp (by rfl) T.n_isinstance zay (by rfl) T.n_str zj9 (by decide) (fw 0)) (zjZ (zcB (fun _ _=>zbi (u31 hr)) zaN (fw 0) (fw 1) (nomark _)))))) zar)
  (zaf (zat (ziC (zdp (by rfl) T.n_isinstance zay (by rfl) T.n_int zey (by decide) (fw 0)) (ziC (zmf (zdp (by rfl) T.n_isinstance zay (by rfl) T.n_bool zkt (by decide) (fw 0))) (zjZ (zcB (fun _ _=>zbi (u31 hr)) zaN (fw 0) (fw 1) (nomark _))))))))
theorem ok_17 (T:Txt K mg af):FnOk P w K mg base CX0 5 (af 17) (dO K (af 17)) p_17 (spW K w_17 1):=by
 refine fn_w (k:=4) T.t_17.F sc_17 rfl rfl fun cdv A outer s H E hr=>?_
 exact zac (zmg (zcH (i:=1) (by decide) (fun j hj=>zcj sc_17.nd hj rfl) rfl (by rfl) (by rfl) (vars:=["_law_k"]) rfl (by rfl) (compSc (by kernel_rfl)) rfl (zaz (by rfl) T.n_range zae) (fun _ _ _=>gcm 8) (fun _ _ _=>zaV) (fun _ _ _=>zaC (fcl [true] T.t_14 (ok_14 T) hr (zaa (fcl [true,true] T.t_3 (ok_3 T) hr (zaa (fw 0) (zaa (fw 8) zab))) zab)))))
  (zac (zbj (by rfl) (zbO (zal (fw 1) (zdd (fw 1) zae))) (zcG (by rfl) (zao (gnm 2 sc_17.nd) (zao (gnm 3 sc_17.nd) (zao (gnm 4 sc_17.nd) (zao (gnm 5 sc_17.nd) zbw))))) (zaf (zbj (by rfl) (zbO (zaF (zaa (fw 3) (zaa (zhk (by rfl) (by rfl) T.n_tuple za4 (by rfl) T.n_reversed (fw 3)) (zaa (fw 3) zab))))) (gnm 6 sc_17.nd) (zaf (zaT (zke (zfs (fcl [true,true] T.t_16 (ok_16 T) hr (zaa (zaC (fcl [true,true,true] T.t_2 (ok_2 T) hr (zaa (fw 6) (zaa (fw 4) (zaa (fw 5) zab))))) (zaa (zaC (fcl [true,true,true] T.t_15 (ok_15 T) hr (zaa (fw 6) (zaa (fw 4) (zaa (fw 5) zab))))) zab))))) (zaf (zat zjD)) zar)))))
  (zaf (zat zjD)))
end
theorem all_mk {l:W.OpenLaw} {w:World} {K:W.Frag} {h:Heap} {mg:Str->Option Value} {fa:Addr} (X:K.In h) (G:h.Ns mainGlobals mg) (hfa:mg "law"=some (.ref fa))
  {f_0 f_1 f_2 f_3 f_4 f_5 f_6 f_7 f_8 f_9 f_10 f_11 f_12 f_13 f_14 f_15 f_16 f_17:Addr}
  (h_0:Lk K "stretches" s_0 f_0)
  (h_1:Lk K "numbers_by_ends" s_1 f_1)
  (h_2:Lk K "steps_of" s_2 f_2)
  (h_3:Lk K "_law_box" s_3 f_3)
  (h_4:Lk K "_law_take" s_4 f_4)
  (h_5:Lk K "_law_colours" s_5 f_5)
  (h_6:Lk K "_law_word" s_6 f_6)
  (h_7:Lk K "_law_near" s_7 f_7)
  (h_8:Lk K "_law_board" s_8 f_8)
  (h_9:Lk K "_law_moves" s_9 f_9)
  (h_10:Lk K "_law_led" s_10 f_10)
  (h_11:Lk K "_law_ties" s_11 f_11)
  (h_12:Lk K "_law_way" s_12 f_12)
  (h_13:Lk K "_law_zigzag" s_13 f_13)
  (h_14:Lk K "_law_scene" s_14 f_14)
  (h_15:Lk K "_law_steps" s_15 f_15)
  (h_16:Lk K "_law_alike" s_16 f_16)
  (h_17:Lk K "law" s_17 f_17)
  (z_all:W.nsIn K mainGlobals "all"=some none)
  (z_bool:W.nsIn K mainGlobals "bool"=some none)
  (z_enumerate:W.nsIn K mainGlobals "enumerate"=some none)
  (z_int:W.nsIn K mainGlobals "int"=some none)
  (z_isinstance:W.nsIn K mainGlobals "isinstance"=some none)
  (z_len:W.nsIn K mainGlobals "len"=some none)
  (z_list:W.nsIn K mainGlobals "list"=some none)
  (z_min:W.nsIn K mainGlobals "min"=some none)
  (z_range:W.nsIn K mainGlobals "range"=some none)
  (z_reversed:W.nsIn K mainGlobals "reversed"=some none)
  (z_sorted:W.nsIn K mainGlobals "sorted"=some none)
  (z_str:W.nsIn K mainGlobals "str"=some none)
  (z_tuple:W.nsIn K mainGlobals "tuple"=some none)
  (z_zip:W.nsIn K mainGlobals "zip"=some none):
  ∃ fd:FuncData,(∀ (s:Shared) (v:Value),BindsTo s fd ⟨[v],[]⟩ [("_law_script",v)])/\∀ base:Heap,K.In base->base.Ns mainGlobals mg->FnOk l.prog w K mg base CX0 5 fa fd ["_law_script"] (spW K w_17 1):=by
 have e:=hfa.symm.trans (h_17.mm X G)
 cases e
 have T:Txt K mg (fun n=>[f_0,f_1,f_2,f_3,f_4,f_5,f_6,f_7,f_8,f_9,f_10,f_11,f_12,f_13,f_14,f_15,f_16,fa].getD n 0):=⟨h_0.tx X G,h_1.tx X G,h_2.tx X G,h_3.tx X G,h_4.tx X G,h_5.tx X G,h_6.tx X G,h_7.tx X G,h_8.tx X G,h_9.tx X G,h_10.tx X G,h_11.tx X G,h_12.tx X G,h_13.tx X G,h_14.tx X G,h_15.tx X G,h_16.tx X G,h_17.tx X G,W.mg_none_of X G z_all,W.mg_none_of X G z_bool,W.mg_none_of X G z_enumerate,W.mg_none_of X G z_int,W.mg_none_of X G z_isinstance,W.mg_none_of X G z_len,W.mg_none_of X G z_list,W.mg_none_of X G z_min,W.mg_none_of X G z_range,W.mg_none_of X G z_reversed,W.mg_none_of X G z_sorted,W.mg_none_of X G z_str,W.mg_none_of X G z_tuple,W.mg_none_of X G z_zip⟩
 exact ⟨_,fun s v=>h_17.bt s v,fun base _ _=>ok_17 T⟩
theorem walk {l:W.OpenLaw} {q:Program} {loose:List Str} {XP:(Str->Option Value)->Heap->Prop} {YP:World->Heap->Prop} {d:DefRec} {K:Params->W.Frag} (hn:l.most=some 63) (hdf:d.params.defaults=[])
  (hY:∀ (w:World) (h:Heap),YP w h->(K w.params).In h)
  (F:∀ (w:World) (mg:Str->Option Value) (fa:Addr) (h:Heap),(K w.params).In h->h.Ns mainGlobals mg->mg d.name=some (.ref fa)->
   ∃ fd:FuncData,(∀ (s:Shared) (u:Value),BindsTo s fd ⟨[u],[]⟩ [("_law_script",u)])/\∀ base:Heap,(K w.params).In base->base.Ns mainGlobals mg->FnOk l.prog w (K w.params) mg base CX0 5 fa fd ["_law_script"] (spW (K w.params) w_17 1)):
  W.WalkO q loose XP YP l.row.toRowW d [] (fun f vs=>PySem.call f vs):=
 L2.walk_of (n:=63) (k:=5) (x:="_law_script") (CX:=fun _=>CX0) (sp:=fun w=>spW (K w.params) w_17 1) hn (by decide) hdf ⟨rfl,by decide,by decide,rfl⟩ hY F (fun _ H a ns hl _ hS=>znv pure_law H a ns hl hS) fun _ _ _ _ _ z=>z
end Law
end
open PySem PySem.W PyProof.Rows
set_option maxRecDepth 100000 in
set_option maxHeartbeats 0 in
theorem PySem.Challenge.cw_walktold_k31_steps_of_zigzags_holds : PySem.Challenge.rw_walktold_k31_steps_of_zigzags.Holds := by
 w_on; o_law; k_head; (case hw=>w_witness2)
 k_fill
 refine Law.walk (l:=PySem.Challenge.rw_walktold_k31_steps_of_zigzags) rfl rfl (fun w h Y=>PySem.W.kIn_of Y) ?F
 case F=>
  intro w mg fa h KX G hmg
  refine' Law.all_mk KX G hmg ⟨?a_0,?l_0,?c_0,?k_0⟩ ⟨?a_1,?l_1,?c_1,?k_1⟩ ⟨?a_2,?l_2,?c_2,?k_2⟩ ⟨?a_3,?l_3,?c_3,?k_3⟩ ⟨?a_4,?l_4,?c_4,?k_4⟩ ⟨?a_5,?l_5,?c_5,?k_5⟩ ⟨?a_6,?l_6,?c_6,?k_6⟩ ⟨?a_7,?l_7,?c_7,?k_7⟩ ⟨?a_8,?l_8,?c_8,?k_8⟩ ⟨?a_9,?l_9,?c_9,?k_9⟩ ⟨?a_10,?l_10,?c_10,?k_10⟩ ⟨?a_11,?l_11,?c_11,?k_11⟩ ⟨?a_12,?l_12,?c_12,?k_12⟩ ⟨?a_13,?l_13,?c_13,?k_13⟩ ⟨?a_14,?l_14,?c_14,?k_14⟩ ⟨?a_15,?l_15,?c_15,?k_15⟩ ⟨?a_16,?l_16,?c_16,?k_16⟩ ⟨?a_17,?l_17,?c_17,?k_17⟩ ?z_all ?z_bool ?z_enumerate ?z_int ?z_isinstance ?z_len ?z_list ?z_min ?z_range ?z_reversed ?z_sorted ?z_str ?z_tuple ?z_zip
  case a_0 | l_0 | c_0 | k_0 | a_1 | l_1 | c_1 | k_1 | a_2 | l_2 | c_2 | k_2 | a_3 | l_3 | c_3 | k_3 | a_4 | l_4 | c_4 | k_4 | a_5 | l_5 | c_5 | k_5 | a_6 | l_6 | c_6 | k_6 | a_7 | l_7 | c_7 | k_7 | a_8 | l_8 | c_8 | k_8 | a_9 | l_9 | c_9 | k_9 | a_10 | l_10 | c_10 | k_10 | a_11 | l_11 | c_11 | k_11 | a_12 | l_12 | c_12 | k_12 | a_13 | l_13 | c_13 | k_13 | a_14 | l_14 | c_14 | k_14 | a_15 | l_15 | c_15 | k_15 | a_16 | l_16 | c_16 | k_16 | a_17 | l_17 | c_17 | k_17 | z_all | z_bool | z_enumerate | z_int | z_isinstance | z_len | z_list | z_min | z_range | z_reversed | z_sorted | z_str | z_tuple | z_zip=>k_is
