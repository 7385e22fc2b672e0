import PyProof.Rows.All
import Wide.All
import OpenK.AllK
import Wide.FinOn
import PySem.SetTable
import PyProof.SetScanFacts
import PyProof.DictFindH
import PyProof.SetKind
import PyProof.IsRules
import PyProof.TupleKey
import PyProof.StrWalks
import PyProof.FactsAll.set
import PyProof.SetRoads
import PyProof.MakeMany
import PyProof.CollectIter
import PyProof.ListNew
import PyProof.Rows.SortShell
import PyProof.Rows.SortStr
import PyProof.SetNew
import PyProof.Rows.SetFrom
import PyProof.WalksMore
import Lean
import PyProof.EqAt
import PyProof.EqKinds
import PyProof.TupleCall
import PyProof.StationsW
import PyProof.RulesAs
import PyProof.Rows.Own
import PySem.Str
import PyProof.NsDelKeeps
import KE.KIsAll
import PyProof.ExcArgsOwn
import PyProof.ExcAttrAll.ValueError
import OpenK.KOwn
import PyProof.ExcBaseAll.ValueError
import PyProof.InstStoreFacts
import PyProof.NeKinds
import PyProof.Draws
import PyProof.EnumMake
import PyProof.ZipIter
import PyProof.DictItems
import PyProof.Rows.SumAny
import KE.KSortTup
import PyProof.Rows.MinMaxN
import PyProof.TupleOfGen
import PyProof.ListRange
import KE.KRevIter
import PyProof.ReprLen
import PyProof.FitsInt
import PyProof.StrBlock2
import PyProof.FactsAll.tuple_2
import PyProof.ListMulRoad
import PyProof.MeetsDict
import PyProof.Rows.Range3
import PyProof.Rows.SortRuns
import PyProof.Rows.StrStep
import PySem.Challenge.RW_walktold_k03_refusals
set_option Elab.async false
set_option linter.all false
set_option maxRecDepth 100000
set_option compiler.extract_closed false
set_option bootstrap.genMatcherCode false
open Array (length_toList)
open Bool (and_eq_true)
open List (all_eq_true append_assoc append_nil cons_append ext_getElem? forIn_cons forIn_nil getElem?_append_left getElem?_append_right getElem?_eq_none getElem?_map getElem?_set_ne getElem?_set_self length_append length_cons length_map length_nil length_range lookup_cons map_cons map_map map_nil mem_append mem_append_left mem_append_right mem_cons mem_cons_of_mem mem_cons_self mem_singleton nil_append nodup_append nodup_cons of_mem_zip perm_append_comm size_toArray zipIdx_cons zipIdx_nil)
open Nat (le_of_lt le_refl le_succ le_trans lt_irrefl lt_of_lt_of_le ne_of_gt ne_of_lt not_lt sub_self zero_le)
open Option (bind_some map_eq_some_iff)
def qa:=@PySem.wpAny_bind
def qb:=@PySem.wpAny_pure
def qc:=@PySem.Heap.get?_push_of_some
def qd:=@PySem.Heap.get?_push_size
def qe:=@PySem.Heap.lt_size
def qf.{u}:=@Option.some.inj.{u}
def qg.{u}:=@List.getElem?_eq_some_iff.{u}
def qh.{u}:=@List.getElem?_eq_getElem.{u}
def qi.{u}:=@List.mem_append_right.{u}
def qj.{u}:=@List.mem_append_left.{u}
def qk.{u}:=@List.mem_cons_of_mem.{u}
def ql.{u}:=@List.mem_cons_self.{u}
noncomputable section
section
namespace ST
open PySem PySem.SetTable
def Rising (xs:Array Nat):Prop:=∀ i j (hi:i < xs.size) (hj:j < xs.size),i < j->xs[i] < xs[j]
def path (t:SetTable) (p:Probe):Nat->Probe
 | 0=>p
 | n + 1=>path t (t.advance p) n
def okMask (mask:Nat):Prop:=mask=7\/mask=31\/mask=127\/mask=511
structure Tab (t:SetTable) (hs:List Int):Prop where
 ris:Rising t.place
 dum:t.dummies=#[]
 mask:okMask t.mask
 size:t.place.size=hs.length
 le:∀ i (hi:i < t.place.size),t.place[i]<=t.mask
 few:hs.length<=t.mask
 reach:∀ i (hi:i < t.place.size) (h:Int),hs[i]?=some h->∃ n,(path t (t.probeStart h) n).j=t.place[i]/\∀ m,m < n->t.slot (path t (t.probeStart h) m).j≠.empty
section
variable {prog:Program} {w:World} {K:Type} [DecidableEq K] (knd:HeapKind prog w K)
def ents (xs:List (K×Addr)):List (Int×Value):=xs.map fun p=>(knd.hash p.1,Value.ref p.2)
variable {knd}
variable {A:Around} {E:Value->Shared->Prop} {s:Shared} {a b:Addr} {o:Obj} {es:Array (Int×Value)} {ep:Nat} {t:SetTable} {xs:List (K×Addr)} {k:K}
def okRoom (t:SetTable) (n:Nat):Prop:=(t.mask=7/\n<=4)\/(t.mask=31/\n<=18)\/(t.mask=127/\n<=76)\/(t.mask=511/\n<=306)
end
end ST
end
section
namespace ST
open PySem
end ST
end
section
namespace ST
open PySem PySem.SetTable
end ST
end
section
namespace ST
open PySem PySem.SetTable PyProof.Rows
end ST
end
section
namespace ST
open PySem PySem.SetTable
structure WTab (t:SetTable) (n:Nat) (ld:Bool):Prop where
 ris:Rising t.place
 dum:t.dummies=#[]
 fit:t.fits n=true
 ldd:t.led=ld
section
variable {prog:Program} {w:World} {A:Around} {E:Value->Shared->Prop} {s:Shared} {a:Addr} {K:Type} [DecidableEq K] {knd:KeyKind prog w K} {xs:List (K×Value)}
def entV (knd:KeyKind prog w K) (xs:List (K×Value)):List (Int×Value):=xs.map fun p=>(knd.hash p.1,p.2)
def VSet (ld:Bool) (knd:KeyKind prog w K) (h:Heap) (a:Addr) (xs:List (K×Value)):Prop:=∃ o es ep t,h.get? a=some o/\o.ExactSet/\o.data=.set es ep t/\WTab t es.size ld/\es.toList=entV knd xs/\(∀ p∈xs,knd.is p.1 p.2=true/\p.2.scannable=true)/\(xs.map (·.1)).Nodup
end
end ST
end
section
namespace ST
open PySem PySem.SetTable PyProof.Rows
def freshSet (ld:Bool):Obj:={ cls:=.type "set",dict:=none,data:=.set #[] 0 (.fresh 0 0 ld) }
section
variable {prog:Program} {w:World} {A:Around} {E:Value->Shared->Prop} {s:Shared}
def ldOf (w:World):Bool:=!w.params.followText "set-order"
end
end ST
end
section
namespace ST
open PySem PySem.SetTable
section
variable {prog:Program} {w:World} {A:Around} {E:Value->Shared->Prop} {s:Shared} {a b:Addr} {K:Type} [DecidableEq K] {knd:KeyKind prog w K} {ks:List K} {ld:Bool} {xs:List (List K×Addr)}
def TRaw (ld:Bool) (knd:HeapKind prog w K) (h:Heap) (a:Addr) (xs:List (K×Addr)):Prop:=∃ o es ep t,h.get? a=some o/\o.ExactSet/\o.data=.set es ep t/\t.led=ld/\Tab t (es.toList.map (·.1))/\okRoom t es.size/\es.toList=ents knd xs/\(xs.map (·.1)).Nodup
end
end ST
end
section
namespace L2
open PySem PySem.Spec PyProof.Rows
abbrev Key:=Sum Int Str
def keyIs:Key->Value->Bool
 | .inl k,v=>Value.isInt k v
 | .inr x,v=>Value.isStrOf x v
def keyH (w:World):Key->Int
 | .inl k=>hashInt k
 | .inr x=>hashStr w x
theorem zap:∀ {k:Key} {v:Value},keyIs k v=true->(∃ i t,k=Sum.inl i/\v=Value.int i t)\/(∃ x t,k=Sum.inr x/\v=Value.str x t)
 | .inl i,v,h=>by
   obtain ⟨t,e⟩:=Value.isInt_shape (k:=i) (v:=v) h
   exact .inl ⟨i,t,rfl,e⟩
 | .inr x,v,h=>by
   obtain ⟨t,e⟩:=Value.isStrOf_shape (x:=x) (v:=v) h
   exact .inr ⟨x,t,rfl,e⟩
theorem zf6 (a b:Int):decide ((Sum.inl a:Key)=Sum.inl b)=(a == b):=by
 grind
theorem zfQ (a b:Str):decide ((Sum.inr a:Key)=Sum.inr b)=decide (a=b):=by
 grind
theorem zgs (a:Int) (b:Str):decide ((Sum.inl a:Key)=Sum.inr b)=false:=decide_eq_false (fun q=>nomatch q)
theorem zgq (a:Str) (b:Int):decide ((Sum.inr a:Key)=Sum.inl b)=false:=decide_eq_false (fun q=>nomatch q)
def mixKind (prog:Program) (w:World):PySem.KeyKind prog w Key where
 is:=keyIs
 hash:=keyH w
 inj:=fun v a b ha hb=>by
  rcases zap ha with ⟨i,t,rfl,rfl⟩ | ⟨x,t,rfl,rfl⟩
  ·rcases zap hb with ⟨j,u,rfl,e⟩ | ⟨y,u,rfl,e⟩
   ·injection e with e1 _; rw [e1]
   ·exact nomatch e
  ·rcases zap hb with ⟨j,u,rfl,e⟩ | ⟨y,u,rfl,e⟩
   ·exact nomatch e
   ·injection e with e1 _; rw [e1]
 byValue:=fun k v h=>by
  rcases zap h with ⟨i,t,rfl,rfl⟩ | ⟨x,t,rfl,rfl⟩ <;> rfl
 pyHash:=fun hv h=>by
  rcases zap hv with ⟨i,t,rfl,rfl⟩ | ⟨x,t,rfl,rfl⟩
  ·exact wpAny_pyHash_int h
  ·exact wpAny_pyHash_str h
 eqBool:=fun hu hv h=>by
  rcases zap hu with ⟨i,t,rfl,rfl⟩ | ⟨x,t,rfl,rfl⟩
  ·rcases zap hv with ⟨j,u,rfl,rfl⟩ | ⟨y,u,rfl,rfl⟩
   ·rw [zf6] at h; exact wpAny_eqBool_int h
   ·rw [zgs] at h; exact SeqAt.EqAt.int_str i t y u _ _ _ _ h
  ·rcases zap hv with ⟨j,u,rfl,rfl⟩ | ⟨y,u,rfl,rfl⟩
   ·rw [zgq] at h; exact SeqAt.EqAt.str_int x t j u _ _ _ _ h
   ·rw [zfQ] at h; exact wpAny_eqBool_str h
 «strs»:=fun k x t v h=>by
  rcases zap h with ⟨i,u,rfl,e⟩ | ⟨y,u,rfl,e⟩
  ·exact nomatch e
  ·injection e with e1 _
   subst e1
   cases v <;> rfl
end L2
namespace L2
open PySem PySem.Spec PyProof.Rows
inductive V where
 | non | bl (b:Bool) | int (i:Int) | str (x:Str) | byt (b:Array UInt8) | flt (b:UInt64) | ref (a:Addr) | ty (n:String)
 deriving DecidableEq
def RelV:V->Value->Prop
 | .non,u=>u=Value.none
 | .bl b,u=>u=Value.bool b
 | .int i,u=>∃ t,u=Value.int i t
 | .str x,u=>∃ t,u=Value.str x t
 | .byt b,u=>∃ t,u=Value.bytes b t
 | .flt b,u=>∃ t,u=Value.float b t
 | .ref a,u=>u=Value.ref a
 | .ty n,u=>u=Value.type n
abbrev Vals:List V->List Value->Prop:=Paired RelV
theorem Vals.length (r:Vals xs us):xs.length=us.length:=Paired.length r
theorem Vals.get:∀ {xs:List V} {us:List Value} {i:Nat} {x:V},Vals xs us->xs[i]?=some x->∃ u,us[i]?=some u/\RelV x u
 | _,_,_,_,.nil,e=>by simp at e
 | _,_,0,_,.cons r _,e=>by simp at e; subst e; exact ⟨_,rfl,r⟩
 | _,_,i + 1,x,.cons _ t,e=>by
   obtain ⟨u,h1,h2⟩:=Vals.get (i:=i) (x:=x) t (by simpa using e)
   exact ⟨u,by simpa using h1,h2⟩
theorem Vals.set (r:RelV x u):∀ {xs:List V} {us:List Value} (i:Nat),Vals xs us->Vals (xs.set i x) (us.set i u)
 | _,_,_,.nil=>.nil
 | _,_,0,.cons _ t=>.cons r t
 | _,_,i + 1,.cons q t=>.cons q (Vals.set r i t)
theorem Vals.append:∀ {xs ys:List V} {us ws:List Value},Vals xs us->Vals ys ws->Vals (xs++ys) (us++ws):=by
 intro xs ys us ws r s
 induction r with
 | nil=>exact s
 | cons r _ ih=>exact .cons r ih
def RelO:Option V->Option Value->Prop
 | some v,some u=>RelV v u
 | none,none=>True
 | _,_=>False
def KV {κ:Type}:List (κ×V)->List (κ×Value)->Prop:=Paired fun (p:κ×V) (q:κ×Value)=>p.1=q.1/\RelV p.2 q.2
def kV:Key->V
 | .inl i=>.int i
 | .inr x=>.str x
inductive HO where
 | lst (xs:List V)
 | tup (xs:List V)
 | dK (kvs:List (Key×V)) | dT (kvs:List (List Key×V))
 | set (vs:List V)
 | ins (C dx:Addr) (fs:List (Str×V))
 | own (x:Addr)
 | xd (fs:List (Str×V))
 | met (f x:Addr)
 | rng (lo hi:Int)
 | frz (o:Obj) (u:HO)
 | tbl (ps:Array Value)
 | ext (φ:Heap->Prop)
abbrev Hp:=Addr->Option HO
def upd (H:Hp) (a:Addr) (o:HO):Hp:=fun b=>if b=a then some o else H b
theorem zaj:upd H a o a=some o:=by unfold upd; rw [if_pos rfl]
theorem zac (h:b≠a):upd H a o b=H b:=by unfold upd; rw [if_neg h]
theorem zaD {H:Hp} (h:H a=some o) (h':H b=none):a≠b:=by
 intro e; subst e; rw [h] at h'; cases h'
section
variable (P:Program) (w:World)
def ObjOk (H:Hp) (h:Heap) (a:Addr):HO->Prop
 | .lst xs=>xs.length<=sizeLine/\∃ (its:List Value) (n:Nat),Vals xs its/\h.get? a=some { cls:=.type "list",data:=.seq its.toArray n }
 | .tup xs=>xs.length<=sizeLine/\∃ its:List Value,Vals xs its/\IsTup h a its.toArray
 | .dK kvs=>kvs.length<=sizeLine/\(a == sysModules)=false/\∃ vs,KV kvs vs/\h.DictOf (mixKind P w) a vs
 | .dT kvs=>kvs.length<=sizeLine/\(a == sysModules)=false/\∃ xs:List (List Key×Addr×Value),
   Paired (fun (p:List Key×V) (q:List Key×Addr×Value)=>p.1=q.1/\H q.2.1=some (.tup (p.1.map kV))/\RelV p.2 q.2.2) kvs xs/\
   ∃ o es ep,h.get? a=some o/\o.ExactDict/\o.data=.dict es ep/\es.toList=xs.map (entryOfKey (tupleKind (mixKind P w)))/\(xs.map (·.1)).Nodup
 | .set vs=>vs.length<=301/\((vs=[]/\h.get? a=some (ST.freshSet (ST.ldOf w)))\/(vs≠[]/\∃ xs:List (Key×Value),vs.Perm (xs.map fun p=>kV p.1)/\ST.VSet (ST.ldOf w) (mixKind P w) h a xs)\/vs≠[]/\∃ xs:List (List Key×Addr),vs.Perm (xs.map fun p=>V.ref p.2)/\(∀ p∈xs,H p.2=some (.tup (p.1.map kV)))/\ST.TRaw (ST.ldOf w) (tupleKind (mixKind P w)) h a xs)
 | .ins C dx fs=>H dx=some (.own a)/\fs.length<=1000/\dx≠a/\h.get? a=some (W.instObj C dx)/\
   ∃ mA,h.Ns1 dx mA/\(∀ f,RelO (fs.lookup f) (mA f))/\PySem.Within mA (fs.map (·.1))
 | .own _=>∃ o,h.get? a=some o
 | .xd fs=>∃ mA,h.Ns1 a mA/\∀ f,RelO (fs.lookup f) (mA f)
 | .rng lo hi=>∃ t u v,h.get? a=some { cls:=.type "range",data:=.fields #[.int lo t,.int hi u,.int 1 v] }
 | .frz o u=>h.get? a=some o/\ObjOk H h a u
 | .tbl ps=>h.get? a=some { cls:=.none,data:=.fields ps }
 | .met f x=>h.get? a=some (W.methodObj (.ref f) (.ref x))
 | .ext φ=>φ h/\(∃ o,h.get? a=some o)/\∀ h1 h2:Heap,φ h1->(∀ o,h1.get? a=some o->h2.get? a=some o)->φ h2
def HOk (H:Hp) (h:Heap):Prop:=∀ a o,H a=some o->ObjOk P w H h a o
end
section
variable {P:Program} {w:World} {H H':Hp} {h h':Heap} {a:Addr} {o:HO}
theorem ObjOk.lt (x:ObjOk P w H h a o):a < h.objs.size:=by
 cases o with
 | lst xs=>obtain ⟨_,_,_,_,e⟩:=x; exact qe e
 | tup xs=>obtain ⟨_,_,_,p⟩:=x; exact p.lt
 | dK kvs=>obtain ⟨_,_,_,_,o,_,_,e,_⟩:=x; exact qe e
 | dT kvs=>obtain ⟨_,_,_,_,o,_,_,e,_⟩:=x; exact qe e
 | set vs=>
   rcases x with ⟨_,⟨_,e⟩ | ⟨_,_,_,_,_,_,_,e,_⟩ | ⟨_,_,_,_,_,_,_,_,e,_⟩⟩
   ·exact qe e
   ·exact qe e
   ·exact qe e
 | ins C dx fs=>obtain ⟨_,_,_,e,_⟩:=x; exact qe e
 | own y=>obtain ⟨_,e⟩:=x; exact qe e
 | xd fs=>obtain ⟨_,⟨_,_,_,e,_⟩,_⟩:=x; exact qe e
 | rng lo hi=>obtain ⟨_,_,_,e⟩:=x; exact qe e
 | frz ob u=>obtain ⟨e,_⟩:=x; exact qe e
 | tbl ps=>exact qe (show h.get? a=some _ from x)
 | met f y=>exact qe (show h.get? a=some _ from x)
 | ext φ=>obtain ⟨_,⟨_,e⟩,_⟩:=x; exact qe e
theorem Paired.mapP:∀ {l₁:List α} {l₂:List β},Paired F l₁ l₂->(∀ a b,F a b->G a b)->Paired G l₁ l₂
 | _,_,.nil,_=>.nil
 | _,_,.cons r t,f=>.cons (f _ _ r) (Paired.mapP t f)
theorem ObjOk.stay (x:ObjOk P w H h a o) (k:∀ b u,(b=a\/H b=some (.own a))->h.get? b=some u->h'.get? b=some u)
  (ho:∀ b,H b=some (.own a)->H' b=some (.own a)) (ht:∀ b xs,H b=some (.tup xs)->H' b=some (.tup xs)):ObjOk P w H' h' a o:=by
 induction o with
 | lst xs=>obtain ⟨z,its,n,r,e⟩:=x; exact ⟨z,its,n,r,k _ _ (.inl rfl) e⟩
 | tup xs=>obtain ⟨z,its,r,ob,e,c⟩:=x; exact ⟨z,its,r,ob,k _ _ (.inl rfl) e,c⟩
 | dK kvs=>obtain ⟨z,y,vs,r,ob,es,ep,e,c⟩:=x; exact ⟨z,y,vs,r,ob,es,ep,k _ _ (.inl rfl) e,c⟩
 | dT kvs=>
   obtain ⟨z,y,xs,r,ob,es,ep,e,c⟩:=x
   exact ⟨z,y,xs,Paired.mapP r fun p q z=>⟨z.1,ht _ _ z.2.1,z.2.2⟩,ob,es,ep,k _ _ (.inl rfl) e,c⟩
 | set vs=>
   rcases x with ⟨z,⟨n,e⟩ | ⟨n,xs,p,ob,es,ep,t,e,c⟩ | ⟨n,xs,p,hx,ob,es,ep,t,e,c⟩⟩
   ·exact ⟨z,.inl ⟨n,k _ _ (.inl rfl) e⟩⟩
   ·exact ⟨z,.inr (.inl ⟨n,xs,p,ob,es,ep,t,k _ _ (.inl rfl) e,c⟩)⟩
   ·exact ⟨z,.inr (.inr ⟨n,xs,p,fun q hq=>ht _ _ (hx q hq),ob,es,ep,t,k _ _ (.inl rfl) e,c⟩)⟩
 | ins C dx fs=>
   obtain ⟨d,z,ne,e,mA,⟨od,es,ep,e2,c⟩,r⟩:=x
   exact ⟨ho _ d,z,ne,k _ _ (.inl rfl) e,mA,⟨od,es,ep,k _ _ (.inr d) e2,c⟩,r⟩
 | own y=>obtain ⟨ob,e⟩:=x; exact ⟨ob,k _ _ (.inl rfl) e⟩
 | xd fs=>obtain ⟨mA,⟨od,es,ep,e,c⟩,r⟩:=x; exact ⟨mA,⟨od,es,ep,k _ _ (.inl rfl) e,c⟩,r⟩
 | rng lo hi=>obtain ⟨t,u,v,e⟩:=x; exact ⟨t,u,v,k _ _ (.inl rfl) e⟩
 | frz ob u ih=>obtain ⟨e,q⟩:=x; exact ⟨k _ _ (.inl rfl) e,ih q⟩
 | tbl ps=>
   have e:h.get? a=some { cls:=.none,data:=.fields ps }:=x
   show h'.get? a=some { cls:=.none,data:=.fields ps }
   exact k a _ (.inl rfl) e
 | met f y=>
   have e:h.get? a=some (W.methodObj (.ref f) (.ref y)):=x
   show h'.get? a=some (W.methodObj (.ref f) (.ref y))
   exact k a _ (.inl rfl) e
 | ext φ=>obtain ⟨p,⟨o,e⟩,st⟩:=x; exact ⟨st _ _ p fun o q=>k _ _ (.inl rfl) q,⟨o,k _ _ (.inl rfl) e⟩,st⟩
theorem HOk.lt (x:HOk P w H h) (e:H a=some o):a < h.objs.size:=(x a o e).lt
theorem HOk.fresh (x:HOk P w H h) (e:h.objs.size<=a):H a=none:=by
 cases q:H a with
 | none=>rfl
 | some u=>exact absurd (lt_of_lt_of_le (x.lt q) e) (lt_irrefl _)
theorem HOk.kept (x:HOk P w H h) (k:∀ b u,h.get? b=some u->h'.get? b=some u):HOk P w H h':=fun a o e=>
 (x a o e).stay (fun b u _ q=>k b u q) (fun _ q=>q) fun _ _ q=>q
theorem HOk.laid (x:HOk P w H h) (k:∀ b u,h.get? b=some u->h'.get? b=some u) (hp:h.objs.size<=a) (new:ObjOk P w (upd H a o) h' a o):HOk P w (upd H a o) h':=fun b u e=>by
 have hn:=x.fresh hp
 by_cases hb:b=a
 ·subst hb; rw [zaj] at e; cases e; exact new
 ·rw [zac hb] at e
  exact (x b u e).stay (fun c v _ q=>k c v q) (fun c q=>by rw [zac (zaD q hn)]; exact q) fun c xs q=>by rw [zac (zaD q hn)]; exact q
end
def Rd (H:Hp) (a:Addr) (u:HO):Prop:=H a=some u\/∃ o,H a=some (.frz o u)
theorem Rd.of (h:H a=some u):Rd H a u:=.inl h
theorem Rd.ok (r:Rd H a u) (x:HOk P w H h):ObjOk P w H h a u:=by
 rcases r with r | ⟨o,r⟩
 ·exact x a u r
 ·obtain ⟨_,q⟩:=x a _ r
  exact q
def Mut:Option HO->Prop
 | some (.lst _)=>True
 | some (.dK _)=>True
 | some (.dT _)=>True
 | some (.set _)=>True
 | some (.ins _ _ _)=>True
 | some (.ext _)=>True
 | _=>False
section
variable {P:Program} {w:World} {H:Hp} {h h':Heap} {x e:Addr} {o':HO}
theorem HOk.write (ok:HOk P w H h) (mu:Mut (H x)) (he:e=x\/H e=some (.own x)) (k:∀ b u,b≠e->h.get? b=some u->h'.get? b=some u) (heo:∃ u,h'.get? e=some u)
  (new:ObjOk P w (upd H x o') h' x o'):HOk P w (upd H x o') h':=fun b u q=>by
 have nown:∀ c y,H c=some (.own y)->c≠x:=fun c y r z=>by subst z; rw [r] at mu; exact mu
 have ntup:∀ c xs,H c=some (.tup xs)->c≠x:=fun c xs r z=>by subst z; rw [r] at mu; exact mu
 by_cases hb:b=x
 ·subst hb; rw [zaj] at q; cases q; exact new
 ·rw [zac hb] at q
  by_cases hbe:b=e
  ·have q':H b=some (.own x):=by
    grind
   rw [q] at q'; cases q'
   obtain ⟨v,hv⟩:=heo
   exact ⟨v,by rw [hbe]; exact hv⟩
  ·refine (ok b u q).stay (fun c v hc r=>k c v ?_ r) (fun c r=>by rw [zac (nown c b r)]; exact r) fun c xs r=>by rw [zac (ntup c xs r)]; exact r
   grind
end
structure Un (fs ex:List Addr) (H H':Hp) (h h':Heap):Prop where
 keep:∀ b o,h.get? b=some o->H b=none->b∉fs->b∉ex->h'.get? b=some o
 slot:∀ b o,h.get? b=some o->H b=none->b∈fs->b∉ex->∃ sl,h'.get? b=some { o with slots:=sl }
 free:∀ b o,h.get? b=some o->H b=none->b∉ex->H' b=none
 there:∀ b o,h.get? b=some o->b∉ex->∃ o',h'.get? b=some o'
 tups:∀ b xs,H b=some (.tup xs)->H' b=some (.tup xs)
 frzs:∀ b o u,H b=some (.frz o u)->H' b=some (.frz o u)
 tbls:∀ b ps,H b=some (.tbl ps)->∃ more,H' b=some (.tbl (ps++more))
section
variable {fs fs' ex ex':List Addr} {H H1 H2:Hp} {h h1 h2 h':Heap} {a x e:Addr} {o:HO}
theorem Un.any (u:Un fs ex H H1 h h1) (q:h.get? b=some ob) (n:H b=none) (hx:b∉ex):∃ sl,h1.get? b=some { ob with slots:=sl }:=by
 by_cases hb:b∈fs
 ·exact u.slot b ob q n hb hx
 ·exact ⟨ob.slots,u.keep b ob q n hb hx⟩
theorem Un.kept (k:∀ b u,h.get? b=some u->h'.get? b=some u):Un fs ex H H h h':=
 ⟨fun b ob q _ _ _=>k b ob q,fun b ob q _ _ _=>⟨ob.slots,k b ob q⟩,fun _ _ _ n _=>n,fun b ob q _=>⟨ob,k b ob q⟩,fun _ _ q=>q,fun _ _ _ q=>q,fun _ ps q=>⟨#[],by rw [q]; simp⟩⟩
theorem Un.refl:Un fs ex H H h h:=Un.kept fun _ _ q=>q
theorem Un.laid (k:∀ b u,h.get? b=some u->h'.get? b=some u) (hp:h.objs.size<=a) (hn:H a=none):Un fs ex H (upd H a o) h h' where
 keep:=fun b u q _ _ _=>k b u q
 slot:=fun b u q _ _ _=>⟨u.slots,k b u q⟩
 free:=fun b u q n _=>by rw [zac (ne_of_lt (lt_of_lt_of_le (qe q) hp))]; exact n
 there:=fun b u q _=>⟨u,k b u q⟩
 tups:=fun b xs q=>by rw [zac (zaD q hn)]; exact q
 frzs:=fun b u xs q=>by rw [zac (zaD q hn)]; exact q
 tbls:=fun b ps q=>⟨#[],by rw [zac (zaD q hn),q]; simp⟩
theorem Un.write (mu:Mut (H x)) (he:e=x\/H e=some (.own x)) (k:∀ b u,b≠e->h.get? b=some u->h'.get? b=some u) (heo:∃ u,h'.get? e=some u):Un fs ex H (upd H x o) h h':=by
 have hx:∀ b,H b=none->b≠x:=fun b n z=>by subst z; rw [n] at mu; exact mu
 have hb:∀ b,H b=none->b≠e:=fun b n z=>by
  grind
 have hm:∀ b u,H b=some u->¬ Mut (some u)->b≠x:=fun b u q nm z=>by subst z; rw [q] at mu; exact nm mu
 refine ⟨fun b u q n _ _=>k b u (hb b n) q,fun b u q n _ _=>⟨u.slots,k b u (hb b n) q⟩,fun b u q n _=>by rw [zac (hx b n)]; exact n,fun b u q _=>?_,
  fun b xs q=>by rw [zac (hm b _ q fun z=>z)]; exact q,fun b u xs q=>by rw [zac (hm b _ q fun z=>z)]; exact q,fun b ps q=>⟨#[],by rw [zac (hm b _ q fun z=>z),q]; simp⟩⟩
 grind
end
def trk (h:Heap) (H:Hp):List Addr:=(List.range h.objs.size).filter fun a=>(H a).isSome
def hidT (h:Heap) (H:Hp):Heap:=W.hideAll h (trk h H)
theorem zcT (h:Heap) (H:Hp):(hidT h H).objs.size=h.objs.size:=W.hideAll_size _ _
theorem zem (e:h.get? b=some o) (n:H b=none):(hidT h H).get? b=some o:=
 W.hideAll_get _ e fun hm=>by
  have q:(H b).isSome=true:=(List.mem_filter.mp hm).2
  rw [n] at q; simp at q
theorem ze7 (e:(hidT h H).get? b=some o):h.get? b=some o/\H b=none:=by
 have e':h.get? b=some o:=W.of_hideAll (trk h H) e
 refine ⟨e',?_⟩
 cases q:H b with
 | none=>rfl
 | some x=>
   grind [trk,List.mem_filter,List.mem_range,Heap.lt_size,hidT,W.hideAll_none]
def allNews (g h:Heap) (L:Addr):List (Addr×Obj):=(List.range h.objs.size).filterMap fun a=>if a=L\/(g.get? a).isSome=true then none else (h.get? a).map fun o=>(a,o)
def rest (g h:Heap) (L d:Addr):List (Addr×Obj):=(allNews g h L).filter fun p=>decide (p.1≠d)
end L2
namespace L2
open PySem PySem.Spec PyProof.Rows
structure Mod (K:W.Frag) (mg:Str->Option Value) (base:Heap):Prop where
 kin:K.In base
 glob:base.Ns mainGlobals mg
 blt:∃ mb,base.Ns builtinsNs mb/\∀ x:Str,x≠"__name__"->mb x=bootBuiltins x
 nolimit:base.NoLimit
structure Cx where
 prog:Program
 w:World
 K:W.Frag
 mg:Str->Option Value
 base:Heap
 A:Around
 N:List Str
 s₀:Shared
 H₀:Hp
 env:Env
 outer:List Env
 stack:List Env
 ex:List Addr
 fn:Str->Bool
 calm:Bool
 pn:List (Addr×Obj)
 xe:Value->Shared->Prop
def frs (l:List Env):List Addr:=l.filterMap (·.frame)
abbrev Cx.fs (X:Cx):List Addr:=frs X.outer
def Vis (sc:Scope) (x:Str):Prop:=sc.names.lookup x=some .local\/sc.names.lookup x=some .cell\/sc.names.lookup x=some .free
def Loc (sc:Scope) (x:Str):Prop:=sc.names.lookup x=some .local\/sc.names.lookup x=some .cell
def Look (env:Env) (h:Heap) (m:Str->Option Value) (x:Str) (u:Value):Prop:=
 (env.kindOf x=some .local/\m x=some u)\/((env.kindOf x=some .cell\/env.kindOf x=some .free)/\∃ c,env.cells.lookup x=some c/\h.IsCell c (some u))
structure Cx.Ok (X:Cx):Prop where
 mod:Mod X.K X.mg X.base
 kind:X.env.scope.kind=.function
 glob:X.env.globals=mainGlobals
 blt:X.env.builtins=builtinsNs
 above:X.s₀.heap.objs.size<=X.env.locals
 inj:∀ x y c,X.env.cells.lookup x=some c->X.env.cells.lookup y=some c->x=y
 has:∀ x,(X.env.kindOf x=some .cell\/X.env.kindOf x=some .free)->∃ c,X.env.cells.lookup x=some c
 cab:∀ x c,X.fn x=true->X.env.cells.lookup x=some c->X.s₀.heap.objs.size<=c
 hd:X.calm=true->X.A.handled=none
 frames:X.A.frames=some X.stack
 stk:X.stack=X.outer\/(X.stack=X.env::X.outer/\X.env.frame=some X.env.locals)
 exf:∀ b∈X.ex,b≠X.env.locals/\∀ x c,X.env.cells.lookup x=some c->c≠b
 bs:∀ b o,X.base.get? b=some o->X.s₀.heap.get? b=some o/\X.H₀ b=none
 bsz:X.base.objs.size<=X.s₀.heap.objs.size
 noex:∀ b o,X.base.get? b=some o->b∉X.ex
 exfs:∀ b∈X.ex,b∉X.fs
 funs:X.s₀.heap.FunFrames X.base X.outer
 frf:∀ b∈X.fs,X.H₀ b=none
structure Inv (X:Cx) (pins:List (Addr×Obj)) (σ:List (Option V)) (H:Hp) (s:Shared):Prop where
 ok:X.Ok
 os:s.os=X.s₀.os
 bare:AllBare s.gens
 base:Un X.fs X.ex X.H₀ H X.s₀.heap s.heap
 loc:∃ m,s.heap.Ns X.env.locals m/\∀ (i:Nat) (x:Str) (v:V),X.N[i]?=some x->σ[i]?=some (some v)->Vis X.env.scope x->∃ u,RelV v u/\Look X.env s.heap m x u
 cell:∀ x c,X.env.cells.lookup x=some c->∃ v,s.heap.IsCell c v
 free:H X.env.locals=none
 freeC:∀ x c,X.env.cells.lookup x=some c->H c=none
 pin:∀ p∈X.pn++pins,s.heap.get? p.1=some p.2/\H p.1=none/\p.1≠X.env.locals/\p.1∉X.fs/\∀ v,p.2.data≠.cell v
 hok:HOk X.prog X.w H s.heap
 len:σ.length=X.N.length
section
variable {X:Cx} {pins:List (Addr×Obj)} {σ:List (Option V)} {H H':Hp} {s:Shared} {h':Heap}
theorem Cx.Ok.nofr (ok:X.Ok) (e:X.base.get? b=some o):b∉X.fs:=fun hb=>by
 have:=(ok.funs.mem hb).1
 rw [e] at this; cases this
theorem Inv.bs (I:Inv X pins σ H s):∀ b o,X.base.get? b=some o->s.heap.get? b=some o/\H b=none:=fun b o e=>
 ⟨I.base.keep b o (I.ok.bs b o e).1 (I.ok.bs b o e).2 (I.ok.nofr e) (I.ok.noex b o e),I.base.free b o (I.ok.bs b o e).1 (I.ok.bs b o e).2 (I.ok.noex b o e)⟩
theorem Inv.bk (I:Inv X pins σ H s):∀ b o,X.base.get? b=some o->s.heap.get? b=some o:=fun b o e=>(I.bs b o e).1
theorem Inv.mod (I:Inv X pins σ H s):Mod X.K X.mg X.base:=I.ok.mod
theorem Inv.kIn (I:Inv X pins σ H s):X.K.In s.heap:=I.ok.mod.kin.keeps I.bk
theorem Inv.lt (I:Inv X pins σ H s):X.env.locals < s.heap.objs.size:=let ⟨_,hn,_⟩:=I.loc; hn.lt
theorem Inv.sz (I:Inv X pins σ H s):X.s₀.heap.objs.size<=s.heap.objs.size:=le_trans I.ok.above (le_of_lt I.lt)
theorem Inv.nofs (I:Inv X pins σ H s) (h:s.heap.objs.size<=a):a∉X.fs:=fun hb=>by
 obtain ⟨_,o,ho,_⟩:=I.ok.funs.mem hb
 exact absurd (lt_of_lt_of_le (qe ho) (le_trans I.sz h)) (lt_irrefl _)
theorem Inv.cne (I:Inv X pins σ H s):∀ x c,X.env.cells.lookup x=some c->c≠X.env.locals:=fun x c e z=>by
 obtain ⟨v,o,ho,hd⟩:=I.cell x c e
 obtain ⟨m,⟨o',es,ep,ho',hd',_⟩,_⟩:=I.loc
 rw [z,ho'] at ho; cases ho; rw [hd'] at hd; cases hd
theorem Inv.funs (I:Inv X pins σ H s):s.heap.FunFrames X.base X.outer:=by
 have all:∀ (l:List Env),(∀ b∈frs l,b∈X.fs)->X.s₀.heap.FunFrames X.base l->s.heap.FunFrames X.base l:=by
  intro l
  induction l with
  | nil=>intro _ _; trivial
  | cons env r ih=>
    intro hs hl
    obtain ⟨hk,⟨L,o,hf,hn,ho,hd⟩,hr⟩:=hl
    have hL:L∈X.fs:=hs L (by unfold frs; rw [List.filterMap_cons,hf]; exact ql)
    obtain ⟨sl,e⟩:=I.base.slot L o ho (I.ok.frf L hL) hL fun z=>I.ok.exfs L z hL
    exact ⟨hk,⟨L,_,hf,hn,e,hd⟩,ih (fun b hb=>hs b (by unfold frs; rw [List.filterMap_cons,hf]; exact qk _ hb)) hr⟩
 exact all X.outer (fun _ hb=>hb) I.ok.funs
theorem Inv.stack (I:Inv X pins σ H s):s.heap.FunFrames X.base X.stack:=by
 rcases I.ok.stk with e | ⟨e,hf⟩
 ·rw [e]; exact I.funs
 ·rw [e]
  obtain ⟨m,hn,_⟩:=I.loc
  refine .cons (by rw [I.ok.kind]; decide) hf hn ?_ I.funs
  exact Heap.get?_none_of_le (le_trans I.ok.bsz I.ok.above)
theorem Inv.stkSub (I:Inv X pins σ H s):∀ b∈frs X.stack,b∈X.env.locals::X.fs:=fun b hb=>by
 rcases I.ok.stk with e | ⟨e,hf⟩
 ·rw [e] at hb; exact qk _ hb
 ·rw [e] at hb
  unfold frs at hb
  rw [List.filterMap_cons,hf] at hb
  exact hb
theorem Inv.stkFree (I:Inv X pins σ H s):∀ b∈frs X.stack,H b=none:=fun b hb=>by
 rcases mem_cons.mp (I.stkSub b hb) with e | hb
 ·rw [e]; exact I.free
 ·obtain ⟨_,o,ho,_⟩:=I.ok.funs.mem hb
  exact I.base.free b o ho (I.ok.frf b hb) fun z=>I.ok.exfs b z hb
theorem Inv.step {ch:List Addr} (I:Inv X pins σ H s)
  (hch:∀ b∈ch,(b∈X.ex\/X.s₀.heap.get? b=none)/\b≠X.env.locals/\(∀ x c,X.env.cells.lookup x=some c->c≠b)/\∀ p∈X.pn++pins,p.1≠b)
  (keep:∀ b o,b≠X.env.locals->b∉X.fs->b∉ch->s.heap.get? b=some o->H b=none->h'.get? b=some o)
  (slot:∀ b o,b≠X.env.locals->b∈X.fs->b∉ch->s.heap.get? b=some o->H b=none->∃ sl,h'.get? b=some { o with slots:=sl }) (free:∀ b o,b∉ch->s.heap.get? b=some o->H b=none->H' b=none)
  (there:∀ b o,b∉ch->s.heap.get? b=some o->∃ o',h'.get? b=some o')
  (tups:∀ b xs,H b=some (.tup xs)->H' b=some (.tup xs)) (frzs:∀ b o u,H b=some (.frz o u)->H' b=some (.frz o u)) (tbls:∀ b ps,H b=some (.tbl ps)->∃ more,H' b=some (.tbl (ps++more)))
  (ns:∀ m,s.heap.Ns X.env.locals m->h'.Ns X.env.locals m) (hok:HOk X.prog X.w H' h') (hg:AllBare g'):
  Inv X pins σ H' { s with heap:=h',gens:=g',drawn:=d',toks:=t' }:=by
 have neL:∀ b o,X.s₀.heap.get? b=some o->b≠X.env.locals:=fun b o e=>ne_of_lt (lt_of_lt_of_le (qe e) I.ok.above)
 have neC:∀ b o,X.s₀.heap.get? b=some o->b∉X.ex->b∉ch:=fun b o e hx hb=>by
  rcases (hch b hb).1 with z | z
  ·exact hx z
  ·rw [z] at e; cases e
 have cellK:∀ x c,X.env.cells.lookup x=some c->∀ v,s.heap.IsCell c v->h'.IsCell c v:=fun x c e v ⟨o,ho,hd⟩=>by
  have nch:c∉ch:=fun z=>(hch c z).2.2.1 x c e rfl
  by_cases hc:c∈X.fs
  ·obtain ⟨sl,q⟩:=slot c o (I.cne x c e) hc nch ho (I.freeC x c e)
   exact ⟨_,q,hd⟩
  ·exact ⟨o,keep c o (I.cne x c e) hc nch ho (I.freeC x c e),hd⟩
 refine ⟨I.ok,I.os,hg,⟨fun b o e n hb hx=>?_,fun b o e n hb hx=>?_,fun b o e n hx=>?_,fun b o e hx=>?_,fun b xs e=>tups b xs (I.base.tups b xs e),fun b o xs e=>frzs b o xs (I.base.frzs b o xs e),fun b ps e=>?_⟩,?_,fun x c e=>?_,?_,fun x c e=>?_,fun p hp=>?_,hok,I.len⟩
 ·exact keep b o (neL b o e) hb (neC b o e hx) (I.base.keep b o e n hb hx) (I.base.free b o e n hx)
 ·obtain ⟨sl,e1⟩:=I.base.slot b o e n hb hx
  obtain ⟨sl',e2⟩:=slot b _ (neL b o e) hb (neC b o e hx) e1 (I.base.free b o e n hx)
  exact ⟨sl',e2⟩
 ·obtain ⟨o',e1⟩:=I.base.there b o e hx
  exact free b o' (neC b o e hx) e1 (I.base.free b o e n hx)
 ·obtain ⟨o',e1⟩:=I.base.there b o e hx
  exact there b o' (neC b o e hx) e1
 ·obtain ⟨m1,e1⟩:=I.base.tbls b ps e
  obtain ⟨m2,e2⟩:=tbls b _ e1
  exact ⟨m1++m2,by rw [e2,Array.append_assoc]⟩
 ·obtain ⟨m,hn,hl⟩:=I.loc
  refine ⟨m,ns m hn,fun i x v e1 e2 e3=>?_⟩
  obtain ⟨u,r,l⟩:=hl i x v e1 e2 e3
  refine ⟨u,r,?_⟩
  rcases l with l | ⟨k,c,e,z⟩
  ·exact .inl l
  ·exact .inr ⟨k,c,e,cellK x c e _ z⟩
 ·obtain ⟨v,z⟩:=I.cell x c e
  exact ⟨v,cellK x c e v z⟩
 ·obtain ⟨m,⟨o,_,_,ho,_⟩,_⟩:=I.loc
  exact free _ o (fun z=>(hch _ z).2.1 rfl) ho I.free
 ·obtain ⟨v,o,ho,hd⟩:=I.cell x c e
  exact free c o (fun z=>(hch c z).2.2.1 x c e rfl) ho (I.freeC x c e)
 ·obtain ⟨e,n,ne,nf,d⟩:=I.pin p hp
  have nch:p.1∉ch:=fun z=>(hch p.1 z).2.2.2 p hp rfl
  exact ⟨keep p.1 p.2 ne nf nch e n,free p.1 p.2 nch e n,ne,nf,d⟩
theorem Inv.un (I:Inv X pins σ H s) (u:Un X.fs [] H H' s.heap h') (hok:HOk X.prog X.w H' h'):Inv X pins σ H' { s with heap:=h',toks:=t' }:=by
 obtain ⟨m,⟨o,es,ep,ho,r⟩,_⟩:=id I.loc
 obtain ⟨sl,hL⟩:=u.any ho I.free (by simp)
 exact I.step (g':=s.gens) (d':=s.drawn) (ch:=[]) (fun _ z=>nomatch z) (fun b o _ hb _ e n=>u.keep b o e n hb (by simp)) (fun b o _ hb _ e n=>u.slot b o e n hb (by simp)) (fun b o _ e n=>u.free b o e n (by simp)) (fun b o _ e=>u.there b o e (by simp)) u.tups u.frzs u.tbls (fun m' hm=>by
  obtain ⟨o',es',ep',ho',r'⟩:=hm
  rw [ho] at ho'; cases ho'
  exact ⟨_,es',ep',hL,r'⟩) hok I.bare
theorem Inv.call (I:Inv X pins σ H s) (u:Un (frs X.stack) ch H H' s.heap h') (hok:HOk X.prog X.w H' h') (hg:AllBare g')
  (hch:∀ b∈ch,(b∈X.ex\/X.s₀.heap.get? b=none)/\b≠X.env.locals/\(∀ x c,X.env.cells.lookup x=some c->c≠b)/\∀ p∈X.pn++pins,p.1≠b):
  Inv X pins σ H' { s with heap:=h',gens:=g',drawn:=d',toks:=t' }:=by
 obtain ⟨m,⟨o,es,ep,ho,r⟩,_⟩:=id I.loc
 obtain ⟨sl,hL⟩:=u.any ho I.free fun z=>(hch _ z).2.1 rfl
 exact I.step (ch:=ch) hch (fun b o hL hb hc e n=>u.keep b o e n (fun z=>(mem_cons.mp (I.stkSub b z)).elim hL hb) hc) (fun b o _ _ hc e n=>u.any e n hc) (fun b o hc e n=>u.free b o e n hc) (fun b o hc e=>u.there b o e hc) u.tups u.frzs u.tbls (fun m' hm=>by
  obtain ⟨o',es',ep',ho',r'⟩:=hm
  rw [ho] at ho'; cases ho'
  exact ⟨_,es',ep',hL,r'⟩) hok hg
theorem Inv.turned (I:Inv X pins σ H s) (k:∀ b o,b≠it->s.heap.get? b=some o->h'.get? b=some o) (hn:H it=none) (hL:it≠X.env.locals)
  (h1:it∈X.ex\/X.s₀.heap.get? it=none) (h2:∀ x c,X.env.cells.lookup x=some c->c≠it) (h3:∀ p∈X.pn++pins,p.1≠it):Inv X pins σ H { s with heap:=h',toks:=t' }:=by
 have nit:∀ b u,H b=some u->b≠it:=fun b u e z=>by rw [z,hn] at e; cases e
 refine I.step (g':=s.gens) (d':=s.drawn) (ch:=[it]) (fun b hb=>?_) (fun b o _ _ hc e _=>k b o (fun z=>hc (by simp [z])) e) (fun b o _ _ hc e _=>⟨o.slots,k b o (fun z=>hc (by simp [z])) e⟩) (fun _ _ _ _ n=>n)
  (fun b o hc e=>⟨o,k b o (fun z=>hc (by simp [z])) e⟩) (fun _ _ e=>e) (fun _ _ _ e=>e) (fun b ps e=>⟨#[],by rw [e]; simp⟩) (fun m hm=>?_) (fun b u e=>?_) I.bare
 ·have e:b=it:=by simpa using hb
  subst e
  exact ⟨h1,hL,h2,h3⟩
 ·obtain ⟨o,es,ep,ho,r⟩:=hm
  exact ⟨o,es,ep,k _ o (Ne.symm hL) ho,r⟩
 ·refine (I.hok b u e).stay (fun c v hc q=>k c v ?_ q) (fun _ q=>q) fun _ _ q=>q
  rcases hc with z | z
  ·rw [z]; exact nit b u e
  ·exact nit c _ z
theorem Inv.tok (I:Inv X pins σ H s) (t:Nat):Inv X pins σ H { s with toks:=t }:=I.un (h':=s.heap) (t':=t) Un.refl I.hok
theorem Inv.kept (I:Inv X pins σ H s) (k:∀ b u,s.heap.get? b=some u->h'.get? b=some u):Inv X pins σ H { s with heap:=h',toks:=t' }:=I.un (Un.kept k) (I.hok.kept k)
theorem Inv.laid (I:Inv X pins σ H s) (k:∀ b u,s.heap.get? b=some u->h'.get? b=some u) (hp:s.heap.objs.size<=a) (new:ObjOk X.prog X.w (upd H a o) h' a o):
  Inv X pins σ (upd H a o) { s with heap:=h',toks:=t' }:=I.un (Un.laid k hp (I.hok.fresh hp)) (I.hok.laid k hp new)
theorem Inv.write (I:Inv X pins σ H s) (mu:Mut (H x)) (he:e=x\/H e=some (.own x)) (k:∀ b u,b≠e->s.heap.get? b=some u->h'.get? b=some u) (heo:∃ u,h'.get? e=some u)
  (new:ObjOk X.prog X.w (upd H x o) h' x o):Inv X pins σ (upd H x o) { s with heap:=h',toks:=t' }:=I.un (Un.write mu he k heo) (I.hok.write mu he k heo new)
theorem Inv.pins_of (I:Inv X pins σ H s) (h:∀ p∈pins',s.heap.get? p.1=some p.2/\H p.1=none/\p.1≠X.env.locals/\p.1∉X.fs/\∀ v,p.2.data≠.cell v):Inv X pins' σ H s:=
 ⟨I.ok,I.os,I.bare,I.base,I.loc,I.cell,I.free,I.freeC,fun p hp=>(mem_append.mp hp).elim (fun z=>I.pin p (qj _ z)) (h p),I.hok,I.len⟩
theorem zba {N:List Str} (hN:N.Nodup) {i j:Nat} (a:N[i]?=some x) (b:N[j]?=some x):i=j:=by
 obtain ⟨h1,e1⟩:=qg.mp a
 obtain ⟨h2,e2⟩:=qg.mp b
 exact (List.getElem_inj hN).mp (e1.trans e2.symm)
theorem Inv.call' (I:Inv X pins σ H s) (ho:s'.os=s.os) (u:Un (frs X.stack) ch H H' s.heap s'.heap) (hok:HOk X.prog X.w H' s'.heap) (hg:AllBare s'.gens)
  (hch:∀ b∈ch,(b∈X.ex\/X.s₀.heap.get? b=none)/\b≠X.env.locals/\(∀ x c,X.env.cells.lookup x=some c->c≠b)/\∀ p∈X.pn++pins,p.1≠b):Inv X pins σ H' s':=by
 obtain ⟨h',g',d',t',o'⟩:=s'
 have e:o'=s.os:=ho
 subst e
 exact I.call (g':=g') (t':=t') (d':=d') u hok hg hch
end
abbrev XK:=Value->Option Addr->Hp->Prop
abbrev St:=List (Option V)
abbrev VK:=V->Hp->Prop
abbrev TE:=St->Hp->VK->Prop
abbrev TT:=St->Hp->(Bool->Hp->Prop)->Prop
abbrev TA:=St->Hp->(List V->Hp->Prop)->Prop
structure Ends where
 nx:St->Hp->Prop
 rt:VK
 bk:St->Hp->Prop:=fun _ _=>False
 ct:St->Hp->Prop:=fun _ _=>False
abbrev TS:=Ends->St->Hp->Prop
def EP (X:Cx) (pins:List (Addr×Obj)) (σ:St) (Q:VK) (u:Value) (s':Shared):Prop:=∃ v H',Inv X pins σ H' s'/\RelV v u/\Q v H'
def TP (X:Cx) (pins:List (Addr×Obj)) (σ:St) (Q:Bool->Hp->Prop) (b:Bool) (s':Shared):Prop:=∃ H',Inv X pins σ H' s'/\Q b H'
def AP (X:Cx) (pins:List (Addr×Obj)) (σ:St) (Q:List V->Hp->Prop) (us:List Value) (s':Shared):Prop:=∃ vs H',Inv X pins σ H' s'/\Vals vs us/\Q vs H'
def SP (X:Cx) (pins:List (Addr×Obj)) (D:Ends) (f:Flow) (s':Shared):Prop:=
 match f with
 | .next=>∃ σ' H',Inv X pins σ' H' s'/\D.nx σ' H'
 | .brk=>∃ σ' H',Inv X pins σ' H' s'/\D.bk σ' H'
 | .cont=>∃ σ' H',Inv X pins σ' H' s'/\D.ct σ' H'
 | .ret u=>∃ v σ' H',Inv X pins σ' H' s'/\RelV v u/\D.rt v H'
def PE (X:Cx) (e:Expr) (t:TE):Prop:=
 ∀ (pins:List (Addr×Obj)) (s:Shared) (σ:St) (H:Hp) (Q:VK),Inv X pins σ H s->t σ H Q->wpAny (model X.prog X.w) X.A (eval e X.env) (EP X pins σ Q) X.xe s
def PT (X:Cx) (e:Expr) (t:TT):Prop:=
 ∀ (pins:List (Addr×Obj)) (s:Shared) (σ:St) (H:Hp) (Q:Bool->Hp->Prop),Inv X pins σ H s->t σ H Q->wpAny (model X.prog X.w) X.A (isTrue e X.env (eval e X.env)) (TP X pins σ Q) X.xe s
def PW (X:Cx) (e:Expr) (t:TT):Prop:=
 ∀ (whole:Sem Value) (pins:List (Addr×Obj)) (s:Shared) (σ:St) (H:Hp) (Q:Bool->Hp->Prop),Inv X pins σ H s->t σ H Q->wpAny (model X.prog X.w) X.A (isTrue e X.env whole) (TP X pins σ Q) X.xe s
theorem PW.pt (h:PW X e t):PT X e t:=h _
def PA (X:Cx) (es:List Expr) (t:TA):Prop:=
 ∀ (pos:Pos) (pins:List (Addr×Obj)) (s:Shared) (σ:St) (H:Hp) (Q:List V->Hp->Prop),Inv X pins σ H s->t σ H Q->wpAny (model X.prog X.w) X.A (spliced (backTo pos (starEach es X.env))) (AP X pins σ Q) X.xe s
def PS (X:Cx) (st:Stmt) (t:TS):Prop:=
 ∀ (pins:List (Addr×Obj)) (s:Shared) (σ:St) (H:Hp) (D:Ends),Inv X pins σ H s->t D σ H->wpAny (model X.prog X.w) X.A (exec st X.env) (SP X pins D) X.xe s
def PSs (X:Cx) (st:List Stmt) (t:TS):Prop:=
 ∀ (pins:List (Addr×Obj)) (s:Shared) (σ:St) (H:Hp) (D:Ends),Inv X pins σ H s->t D σ H->wpAny (model X.prog X.w) X.A (execs st X.env) (SP X pins D) X.xe s
theorem thn (h:wpAny M A t Q E s) (hQ:∀ a s,Q a s->Q' a s):wpAny M A t Q' E s:=wpAny_mono h hQ fun _ _ x=>x
end L2
namespace L2
open PySem PySem.Spec PyProof.Rows
section
variable {X:Cx}
def tVar (i:Nat):TE:=fun σ H Q=>∃ v,σ[i]?=some (some v)/\Q v H
def tC (v:V):TE:=fun _ H Q=>Q v H
theorem zda (hN:X.N[i]?=some x) (hv:Vis X.env.scope x) (hd:(x == ("__debug__":Str))=false:=by decide) (hcd:(x == ("__classdict__":Str))=false:=by decide):PE X (.Name x pos) (tVar i):=by
 intro pins s σ H Q I h
 obtain ⟨v,e,h⟩:=h
 obtain ⟨m,hn,hl⟩:=I.loc
 obtain ⟨u,r,l⟩:=hl i x v hN e hv
 have fin:EP X pins σ Q u s:=⟨v,H,I,r,h⟩
 rcases l with ⟨hk,hm⟩ | ⟨hk,c,hc,hcell⟩
 ·exact wpAny_Name (wpAny_loadName_local I.ok.kind hk hn hm fin) hd
 ·rcases hk with hk | hk
  ·exact wpAny_Name (wpAny_loadName_cell I.ok.kind hk hc hcell fin) hd
  ·exact wpAny_Name (wpAny_loadName_free I.ok.kind hk hc hcell fin hcd) hd
theorem zgR:PE X (.Constant (.int i) j pos) (tC (.int i)):=fun _ _ _ H _ I h=>wpAny_Constant_int ⟨.int i,H,I.tok _,⟨_,rfl⟩,h⟩
theorem zhS:PE X (.Constant (.bool b) j pos) (tC (.bl b)):=fun _ _ _ H _ I h=>Constant_bool ⟨.bl b,H,I,rfl,h⟩
theorem zgt:PE X (.Constant .none j pos) (tC .non):=fun _ _ _ H _ I h=>Constant_none ⟨.non,H,I,rfl,h⟩
def Gl (X:Cx) (x:Str):Prop:=X.env.kindOf x=some .globalImplicit
theorem zbo (I:Inv X pins σ H s) (hg:Gl X x) (hm:X.mg x=some u) (h:Q u s)
  (hd:(x == ("__debug__":Str))=false:=by decide):wpAny (model X.prog X.w) X.A (eval (.Name x pos) X.env) Q E s:=
 Calls.Name_function_global I.ok.kind hg (Calls.loadGlobal_global (by rw [I.ok.glob]; exact I.mod.glob.keeps I.bk) hm h) hd
theorem zbf (I:Inv X pins σ H s) (hg:Gl X x) (hm:X.mg x=none) (hv:bootBuiltins x=some u) (h:Q u s)
  (hn:x≠"__name__":=by decide) (hd:(x == ("__debug__":Str))=false:=by decide):wpAny (model X.prog X.w) X.A (eval (.Name x pos) X.env) Q E s:=by
 obtain ⟨mb,h1,h2⟩:=I.mod.blt
 exact Calls.Name_function_global I.ok.kind hg (Calls.loadGlobal_builtin (by rw [I.ok.glob]; exact I.mod.glob.keeps I.bk) hm (by rw [I.ok.blt]; exact h1.keeps I.bk) ((h2 x hn).trans hv) h) hd
variable {a b:Expr} {ta tb:TE} {pos:Pos}
variable {tA tB':TT} {rest:List Expr}
def tOr (t u:TT):TT:=fun σ H Q=>t σ H fun c H1=>if c=true then Q true H1 else u σ H1 Q
def tNot (t:TT):TT:=fun σ H Q=>t σ H fun c H1=>Q (!c) H1
theorem zgX (ha:PT X a tA):PW X (.BoolOp .Or [a] pos) tA:=by
 intro wh pins s σ H Q I h
 refine isTrue_or (thn (ha pins s σ H Q I h) fun c s1 e=>?_)
 cases c with
 | false=>exact isTrue_or_nil e
 | true=>exact e
theorem zig (ha:PT X a tA) (hb:PW X (.BoolOp .Or (b::rest) pos) tB'):PW X (.BoolOp .Or (a::b::rest) pos) (tOr tA tB'):=by
 intro wh pins s σ H Q I h
 refine isTrue_or (thn (ha pins s σ H _ I h) fun c s1 zq=>?_)
 obtain ⟨H1,I1,q1⟩:=zq
 cases c with
 | true=>exact ⟨H1,I1,q1⟩
 | false=>exact hb wh pins s1 σ H1 Q I1 q1
theorem zgb (ha:PT X a tA):PT X (.UnaryOp .Not a pos) (tNot tA):=by
 intro pins s σ H Q I h
 exact isTrue_not (ha pins s σ H (fun c H1=>Q (!c) H1) I h)
end
end L2
namespace L2
open PySem PySem.Spec PyProof.Rows
def SqL (K:W.Frag) (H:Hp) (a:Addr) (xs:List V):Prop:=
 Rd H a (.lst xs)\/
  ∃ (o:Obj) (its:Array Value) (n:Nat),K.lookup a=some o/\o.cls=.type "list"/\o.dict=none/\o.data=.seq its n/\its.size<=sizeLine/\Vals xs its.toList
def SqT (K:W.Frag) (H:Hp) (a:Addr) (xs:List V):Prop:=
 Rd H a (.tup xs)\/
  ∃ (o:Obj) (its:Array Value) (n:Nat),K.lookup a=some o/\o.cls=.type "tuple"/\o.data=.seq its n/\its.size<=sizeLine/\Vals xs its.toList
def absV:Value->Option V
 | .none=>some .non
 | .bool b=>some (.bl b)
 | .int i _=>some (.int i)
 | .str x _=>some (.str x)
 | .bytes b _=>some (.byt b)
 | .float b _=>some (.flt b)
 | .ref a=>some (.ref a)
 | .type n=>some (.ty n)
 | _=>none
theorem RelV.abs (r:RelV x u):absV u=some x:=by
 cases x with
 | non=>cases r; rfl
 | bl _=>cases r; rfl
 | int _=>obtain ⟨t,rfl⟩:=r; rfl
 | str _=>obtain ⟨t,rfl⟩:=r; rfl
 | byt _=>obtain ⟨t,rfl⟩:=r; rfl
 | flt _=>obtain ⟨t,rfl⟩:=r; rfl
 | ref _=>cases r; rfl
 | ty _=>cases r; rfl
theorem RelV.inj (r:RelV x u) (q:RelV y u):x=y:=qf (r.abs.symm.trans q.abs)
theorem Vals.inj:∀ {xs ys:List V} {us:List Value},Vals xs us->Vals ys us->xs=ys:=by
 intro xs ys us r q
 induction r generalizing ys with
 | nil=>cases q; rfl
 | cons r _ ih=>cases q with
   | cons r' t'=>rw [r.inj r',ih t']
section
variable {X:Cx} {pins:List (Addr×Obj)} {σ:St} {H:Hp} {s:Shared} {a:Addr} {xs ys:List V}
theorem SqL.of {K:W.Frag} (h:H a=some (.lst xs)):SqL K H a xs:=.inl (.inl h)
theorem SqT.of {K:W.Frag} (h:H a=some (.tup xs)):SqT K H a xs:=.inl (.inl h)
theorem Inv.list (I:Inv X pins σ H s) (h:SqL X.K H a xs):∃ its:List Value,Vals xs its/\PlainL s.heap a its.toArray/\xs.length<=sizeLine:=by
 rcases h with h | ⟨o,its,n,hk,hc,hd,hs,hz,r⟩
 ·obtain ⟨z,its,n,r,e⟩:=h.ok I.hok
  exact ⟨its,r,⟨_,n,e,rfl,rfl,rfl⟩,z⟩
 ·refine ⟨its.toList,r,⟨o,n,I.kIn a o hk,hc,hd,by simpa using hs⟩,?_⟩
  have e:=r.length
  simp only [length_toList] at e
  lia
theorem Inv.tuple (I:Inv X pins σ H s) (h:SqT X.K H a xs):∃ its:List Value,Vals xs its/\IsTup s.heap a its.toArray/\xs.length<=sizeLine:=by
 rcases h with h | ⟨o,its,n,hk,hc,hs,hz,r⟩
 ·obtain ⟨z,its,r,p⟩:=h.ok I.hok
  exact ⟨its,r,p,z⟩
 ·refine ⟨its.toList,r,⟨o,I.kIn a o hk,hc,n,by simpa using hs⟩,?_⟩
  have e:=r.length
  simp only [length_toList] at e
  lia
theorem Inv.list_inj (I:Inv X pins σ H s) (h:SqL X.K H a xs) (h':SqL X.K H a ys):xs=ys:=by
 obtain ⟨its,r,⟨o,n,e,_,_,d⟩,_⟩:=I.list h
 obtain ⟨its',r',⟨o',n',e',_,_,d'⟩,_⟩:=I.list h'
 rw [e] at e'; cases e'
 rw [d] at d'
 injection d' with d1 _
 have:its=its':=by simpa using congrArg Array.toList d1
 subst this
 exact r.inj r'
theorem Inv.tuple_inj (I:Inv X pins σ H s) (h:SqT X.K H a xs) (h':SqT X.K H a ys):xs=ys:=by
 obtain ⟨its,r,⟨o,e,_,n,d⟩,_⟩:=I.tuple h
 obtain ⟨its',r',⟨o',e',_,n',d'⟩,_⟩:=I.tuple h'
 rw [e] at e'; cases e'
 rw [d] at d'
 injection d' with d1 _
 have:its=its':=by simpa using congrArg Array.toList d1
 subst this
 exact r.inj r'
end
section
variable {X:Cx} {st:Stmt} {rest:List Stmt} {t u:TS} {e:Expr} {te:TE} {pos:Pos}
def tNext:TS:=fun D σ H=>D.nx σ H
def tSeq (t u:TS):TS:=fun D σ H=>t { D with nx:=u D } σ H
theorem zc9:PSs X [] tNext:=fun _ _ σ H _ I h=>wpAny_execs_nil ⟨σ,H,I,h⟩
theorem zd9 (h1:PS X st t) (h2:PSs X rest u):PSs X (st::rest) (tSeq t u):=by
 intro pins s σ H D I h
 refine wpAny_execs_cons (thn (h1 pins s σ H { D with nx:=u D } I h) fun f s1 q=>?_)
 cases f with
 | next=>
   obtain ⟨σ',H',I',q⟩:=q
   exact h2 pins s1 σ' H' D I' q
 | ret v=>exact q
 | brk=>exact q
 | cont=>exact q
theorem zcW (h1:PS X st t):PSs X [st] t:=by
 intro pins s σ H D I h
 refine wpAny_execs_cons (thn (h1 pins s σ H D I h) fun f s1 q=>?_)
 cases f with
 | next=>exact wpAny_execs_nil q
 | ret v=>exact q
 | brk=>exact q
 | cont=>exact q
def tRet (te:TE):TS:=fun D σ H=>te σ H D.rt
theorem zgj (he:PE X e te):PS X (.Return (some e) pos) (tRet te):=by
 intro pins s σ H D I h
 exact wpAny_Return_some (thn (he pins s σ H _ I h) fun v s1 ⟨x,H1,I1,r1,q1⟩=>⟨x,σ,H1,I1,r1,q1⟩)
def tIfS (c:TT) (t u:TS):TS:=fun D σ H=>c σ H fun b H1=>if b=true then t D σ H1 else u D σ H1
theorem zij (hc:PT X c tc) (ha:PSs X a t) (hb:PSs X b u):PS X (.If c a b pos) (tIfS tc t u):=by
 intro pins s σ H D I h
 refine wpAny_If (thn (hc pins s σ H _ I h) fun d s1 zq=>?_)
 obtain ⟨H1,I1,q1⟩:=zq
 cases d with
 | true=>exact ha pins s1 σ H1 D I1 q1
 | false=>exact hb pins s1 σ H1 D I1 q1
end
abbrev TG:=V->St->Hp->(St->Hp->Prop)->Prop
abbrev TGs:=List V->St->Hp->(St->Hp->Prop)->Prop
def PG (X:Cx) (target:Expr) (t:TG):Prop:=
 ∀ (pins:List (Addr×Obj)) (s:Shared) (σ:St) (H:Hp) (v:V) (u:Value) (Q:St->Hp->Prop),Inv X pins σ H s->RelV v u->t v σ H Q->
   wpAny (model X.prog X.w) X.A (assign target X.env u) (fun _ s'=>∃ σ' H',Inv X pins σ' H' s'/\Q σ' H') X.xe s
def PGs (X:Cx) (ts:List Expr) (t:TGs):Prop:=
 ∀ (pins:List (Addr×Obj)) (s:Shared) (σ:St) (H:Hp) (vs:List V) (us:List Value) (Q:St->Hp->Prop),Inv X pins σ H s->Vals vs us->t vs σ H Q->
   wpAny (model X.prog X.w) X.A (assignInOrder ((assignEach ts X.env).map (·.2)) us) (fun _ s'=>∃ σ' H',Inv X pins σ' H' s'/\Q σ' H') X.xe s
abbrev TSet:=V->V->V->Hp->(Hp->Prop)->Prop
def PSet (X:Cx) (t:TSet):Prop:=
 ∀ (pins:List (Addr×Obj)) (s:Shared) (σ:St) (H:Hp) (o i v:V) (ov iv u:Value) (Q:Hp->Prop),Inv X pins σ H s->RelV o ov->RelV i iv->RelV v u->t o i v H Q->
   wpAny (model X.prog X.w) X.A (setItem ov iv u) (fun _ s'=>∃ H',Inv X pins σ H' s'/\Q H') X.xe s
section
variable {X:Cx} {pos:Pos}
def gNil:TGs:=fun vs σ H Q=>vs=[]/\Q σ H
def gCons (t:TG) (u:TGs):TGs:=fun vs σ H Q=>∃ v r,vs=v::r/\t v σ H fun σ' H'=>u r σ' H' Q
theorem zeK:PGs X [] gNil:=by
 intro pins s σ H vs us Q I r h
 obtain ⟨e,h⟩:=h
 subst e
 cases r
 exact assignInOrder_nil ⟨σ,H,I,h⟩
theorem zdX (h1:PG X e t) (h2:PGs X es u)
  (hs:(assignEach (e::es) X.env).map (·.2)=assign e X.env::(assignEach es X.env).map (·.2):=by rfl):PGs X (e::es) (gCons t u):=by
 intro pins s σ H vs us Q I r h
 obtain ⟨v,vr,e1,h⟩:=h
 subst e1
 cases r with
 | cons r rr=>
   rw [hs]
   refine assignInOrder_cons (thn (h1 pins s σ H _ _ _ I r h) fun _ s1 zq=>?_)
   obtain ⟨σ1,H1,I1,q1⟩:=zq
   exact h2 pins s1 σ1 H1 _ _ Q I1 rr q1
def gTup (K:W.Frag) (n:Nat) (t:TGs):TG:=fun v σ H Q=>∃ a xs,v=.ref a/\SqT K H a xs/\xs.length=n/\t xs σ H Q
theorem zgu (hc:X.calm=true) (h:PGs X es t)
  (hn:(assignEach es X.env).length=n:=by rfl) (hst:(assignEach es X.env).findIdx? (·.1)=none:=by rfl):PG X (.Tuple es k pos) (gTup X.K n t):=by
 intro pins s σ H v u Q I r hw
 obtain ⟨a,xs,e1,hq,hl,hw⟩:=hw
 subst e1
 cases r
 obtain ⟨its,rv,ht,hz⟩:=I.tuple hq
 refine assign_Tuple_tuple (I.ok.hd hc) ht (by simp [hn,<- hl,rv.length]) hst fun h' hx=>?_
 have I1:Inv X pins σ H { s with heap:=h' }:=I.kept (t':=s.toks) fun b o e=>hx b o (ne_of_lt (qe e)) e
 exact h pins _ σ H xs _ Q I1 (by simpa using rv) hw
def gSub (to ti:TE) (t:TSet):TG:=fun v σ H Q=>to σ H fun o H1=>ti σ H1 fun i H2=>t o i v H2 fun H3=>Q σ H3
theorem zg1 (ho:PE X o to) (hi:PE X i ti) (hs:PSet X t)
  (ha:∀ v,assign (.Subscript o i pos) X.env v=(do
   let ov <- holding [v] (eval o X.env)
   let iv <- holding [v,ov] (eval i X.env)
   standAt pos
   holding [v,ov,iv] (setItem ov iv v)
   release [v,ov,iv] []):=by intro _; rfl):PG X (.Subscript o i pos) (gSub to ti t):=by
 intro pins s σ H v u Q I r h
 rw [ha]
 refine qa (wpAny_holding (thn (ho pins s σ H _ I h) fun ov s1 zq=>?_))
 obtain ⟨x,H1,I1,r1,q1⟩:=zq
 refine qa (wpAny_holding (thn (hi pins s1 σ H1 _ I1 q1) fun iv s2 zq=>?_))
 obtain ⟨y,H2,I2,r2,q2⟩:=zq
 refine qa (wpAny_standAt (qa (wpAny_holding (thn (hs pins s2 σ H2 x y v ov iv u _ I2 r1 r2 r q2) fun _ s3 zq=>?_))))
 obtain ⟨H3,I3,q3⟩:=zq
 exact wpAny_release ⟨σ,H3,I3,q3⟩
def tAsg (te:TE) (g:TG):TS:=fun D σ H=>te σ H fun x H1=>g x σ H1 D.nx
theorem zeG (he:PE X e te) (hg:PG X tg g) (hs:swapsWithSole [tg] e pos.line X.env=pure false:=by rfl) (hw:swappedStores [tg] e X.env=pure none:=by rfl)
  (h1:(assignEach [tg] X.env).map (·.2)=[assign tg X.env]:=by rfl):PS X (.Assign [tg] e pos) (tAsg te g):=by
 intro pins s σ H D I h
 refine wpAny_Assign_stores (thn (he pins s σ H _ I h) fun v s1 zq=>?_) hs hw
 obtain ⟨x,H1,I1,r1,q1⟩:=zq
 rw [h1]
 exact thn (hg pins s1 σ H1 x v _ I1 r1 q1) fun _ s2 q=>q
end
structure It where
 go:Nat->Hp->Prop
 yld:Nat->Hp->V->Hp->Prop
 stop:Nat->Hp->Prop
def FpOk (X:Cx) (pins:List (Addr×Obj)) (H:Hp) (b:Addr):Prop:=
 H b=none/\b≠X.env.locals/\b∉X.fs/\(b∈X.ex\/X.s₀.heap.get? b=none)/\(∀ x c,X.env.cells.lookup x=some c->c≠b)/\∀ p∈X.pn++pins,p.1≠b
theorem Inv.fpOk (I:Inv X pins σ H s) (hb:s.heap.objs.size<=b) (hn:H' b=none):FpOk X pins H' b:=by
 refine ⟨hn,ne_of_gt (lt_of_lt_of_le I.lt hb),I.nofs hb,.inr (Heap.get?_none_of_le (le_trans I.sz hb)),fun x c e z=>?_,fun p hp z=>?_⟩
 ·obtain ⟨v,q⟩:=I.cell x c e
  exact absurd (lt_of_lt_of_le q.lt (by rw [z]; exact hb)) (lt_irrefl _)
 ·exact absurd (lt_of_lt_of_le (qe (I.pin p hp).1) (by rw [z]; exact hb)) (lt_irrefl _)
structure Turn (P:Program) (w:World) (K:W.Frag) (tg:Expr) (J:It) (fp:List Addr) (it:Addr) (tn:Nat->Heap->Prop):Prop where
 mem:it∈fp
 obj:∀ i h,tn i h->∀ b∈fp,∃ o,h.get? b=some o/\∀ v,o.data≠.cell v
 keep:∀ i h h',tn i h->(∀ b∈fp,∀ o,h.get? b=some o->h'.get? b=some o)->tn i h'
 item:∀ (X:Cx),X.prog=P->X.w=w->X.K=K->X.calm=true->∀ (i:Nat) (pins:List (Addr×Obj)) (s:Shared) (σ:St) (H:Hp) (E:Value->Shared->Prop),Inv X pins σ H s->(∀ b∈fp,FpOk X pins H b)->tn i s.heap->J.go i H->
  wpAny (model P w) X.A (pyNext (.ref it)) (fun r s1=>∃ u,r=some u/\
   wpAny (model P w) X.A (letOwnedTupleGo tg (.ref it) u) (fun _ s2=>∃ x H',Inv X pins σ H' s2/\RelV x u/\J.yld i H x H'/\tn (i + 1) s2.heap/\∀ b∈fp,H' b=none) E s1) E s
 done:∀ (X:Cx),X.prog=P->X.w=w->X.K=K->X.calm=true->∀ (i:Nat) (pins:List (Addr×Obj)) (s:Shared) (σ:St) (H:Hp) (E:Value->Shared->Prop),Inv X pins σ H s->(∀ b∈fp,FpOk X pins H b)->tn i s.heap->J.stop i H->
  wpAny (model P w) X.A (pyNext (.ref it)) (fun r s1=>r=none/\Inv X pins σ H s1) E s
 self:∀ (A:Around) (i:Nat) (s:Shared) (Q:Value->Shared->Prop) (E:Value->Shared->Prop),tn i s.heap->Q (.ref it) s->wpAny (model P w) A (pyIter (.ref it)) Q E s
abbrev TI:=St->Hp->(It->Hp->Prop)->Prop
def PIE (X:Cx) (pins:List (Addr×Obj)) (σ:St) (tg:Expr) (R:It->Hp->Prop) (itv:Value) (s2:Shared):Prop:=
 ∃ (it:Addr) (fp:List Addr) (tn:Nat->Heap->Prop) (J:It) (H':Hp),itv=.ref it/\Inv X pins σ H' s2/\Turn X.prog X.w X.K tg J fp it tn/\tn 0 s2.heap/\(∀ b∈fp,FpOk X pins H' b)/\R J H'
def PI (X:Cx) (tg iter:Expr) (wi:TI):Prop:=
 ∀ (pins:List (Addr×Obj)) (s:Shared) (σ:St) (H:Hp) (R:It->Hp->Prop),Inv X pins σ H s->wi σ H R->
   wpAny (model X.prog X.w) X.A (eval iter X.env) (fun v s1=>wpAny (model X.prog X.w) X.A (pyIter v) (PIE X pins σ tg R) X.xe s1) X.xe s
theorem zdL (ho:s.heap.get? it=some o) (hc:o.cls=.type n) (hd:o.data=.fields vs)
  (hn:["enumerate","zip","dict_itemiterator","dict_reverseitemiterator","odict_iterator","itertools.zip_longest","itertools.pairwise"].contains n=false) (hQ:Q () s):wpAny M A (letOwnedTupleGo tg (.ref it) u) Q E s:=by
 unfold letOwnedTupleGo
 cases tg <;> first
  | exact qb hQ
  | (cases u <;> first
    | exact qb hQ
    | (refine qa (wpAny_load ho ?_)
       rw [hc,hd]
       show wpAny M A (if (["enumerate","zip","dict_itemiterator","dict_reverseitemiterator","odict_iterator","itertools.zip_longest","itertools.pairwise"].contains n && vs[0]? == some (rawInt _))=true then _ else _) Q E s
       rw [if_neg (by intro h; rw [hn,Bool.false_and] at h; cases h)]
       exact qb hQ))
def Itl (K:W.Frag) (a:Addr):It:=
 ⟨fun i H=>∃ xs x,SqL K H a xs/\xs[i]?=some x,fun i H x H'=>H'=H/\∀ xs,SqL K H a xs->xs[i]?=some x,fun i H=>∃ xs,SqL K H a xs/\xs.length<=i⟩
def Itt (K:W.Frag) (a:Addr):It:=
 ⟨fun i H=>∃ xs x,SqT K H a xs/\xs[i]?=some x,fun i H x H'=>H'=H/\∀ xs,SqT K H a xs->xs[i]?=some x,fun i H=>∃ xs,SqT K H a xs/\xs.length<=i⟩
def Itr (lo:Int) (n:Nat):It:=⟨fun i _=>i < n,fun i H x H'=>H'=H/\x=.int (lo + i),fun i _=>n<=i⟩
theorem zcM {P:Program} {w:World} {K:W.Frag} {tg:Expr} (a it:Addr):Turn P w K tg (Itl K a) [it] it (fun i h=>h.IsListIter it a i) where
 mem:=by simp
 obj:=fun i h st b hb=>by
  have e:b=it:=by simpa using hb
  subst e
  obtain ⟨o,e,c,d⟩:=st
  exact ⟨o,e,fun v z=>by rw [d] at z; cases z⟩
 keep:=fun i h h' st k=>st.at fun o e=>k it (by simp) o e
 item:=by
  intro X hP hw hK hc i pins s σ H E I hf st hg
  subst hP hw hK
  obtain ⟨xs,x,hq,hx⟩:=hg
  obtain ⟨its,rv,p,hz⟩:=I.list hq
  obtain ⟨u,hu,ru⟩:=rv.get hx
  obtain ⟨f0,f1,f2,f3,f4,f5⟩:=hf it (by simp)
  refine wpAny_pyNext_list_item st p.isList (x:=u) (by simpa using hu) fun h' st' sb=>?_
  have I1:Inv X pins σ H { s with heap:=h' }:=I.turned (t':=s.toks) (fun b o hb e=>(sb.2 b hb).trans e) f0 f1 f3 f4 f5
  obtain ⟨o,e,c,d⟩:=id st'
  exact ⟨u,rfl,zdL (s:={ s with heap:=h' }) e c d (by decide) ⟨x,H,I1,ru,⟨rfl,fun ys hy=>by rw [I.list_inj hy hq]; exact hx⟩,st',fun b hb=>(hf b hb).1⟩⟩
 done:=by
  intro X hP hw hK hc i pins s σ H E I hf st hg
  subst hP hw hK
  obtain ⟨xs,hq,hx⟩:=hg
  obtain ⟨its,rv,p,hz⟩:=I.list hq
  obtain ⟨f0,f1,f2,f3,f4,f5⟩:=hf it (by simp)
  have hl:=rv.length
  exact wpAny_pyNext_list_end (I.ok.hd hc) st p.isList (by simp; lia) fun h' eb=>⟨rfl,I.turned (t':=s.toks) (fun b o hb e=>eb b o hb e) f0 f1 f3 f4 f5⟩
 self:=fun _ _ _ _ _ st h=>wpAny_pyIter_listiter st h
theorem zct {P:Program} {w:World} {K:W.Frag} {tg:Expr} (a it:Addr):Turn P w K tg (Itt K a) [it] it (fun i h=>h.IsTupleIter it a i) where
 mem:=by simp
 obj:=fun i h st b hb=>by
  have e:b=it:=by simpa using hb
  subst e
  obtain ⟨o,e,c,d⟩:=st
  exact ⟨o,e,fun v z=>by rw [d] at z; cases z⟩
 keep:=fun i h h' st k=>st.at fun o e=>k it (by simp) o e
 item:=by
  intro X hP hw hK hc i pins s σ H E I hf st hg
  subst hP hw hK
  obtain ⟨xs,x,hq,hx⟩:=hg
  obtain ⟨its,rv,p,hz⟩:=I.tuple hq
  obtain ⟨u,hu,ru⟩:=rv.get hx
  obtain ⟨f0,f1,f2,f3,f4,f5⟩:=hf it (by simp)
  refine wpAny_pyNext_tuple_item st (show s.heap.IsTuple a its.toArray from p) (x:=u) (by simpa using hu) fun h' st' sb=>?_
  have I1:Inv X pins σ H { s with heap:=h' }:=I.turned (t':=s.toks) (fun b o hb e=>(sb.2 b hb).trans e) f0 f1 f3 f4 f5
  obtain ⟨o,e,c,d⟩:=id st'
  exact ⟨u,rfl,zdL (s:={ s with heap:=h' }) e c d (by decide) ⟨x,H,I1,ru,⟨rfl,fun ys hy=>by rw [I.tuple_inj hy hq]; exact hx⟩,st',fun b hb=>(hf b hb).1⟩⟩
 done:=by
  intro X hP hw hK hc i pins s σ H E I hf st hg
  subst hP hw hK
  obtain ⟨xs,hq,hx⟩:=hg
  obtain ⟨its,rv,p,hz⟩:=I.tuple hq
  obtain ⟨f0,f1,f2,f3,f4,f5⟩:=hf it (by simp)
  have hl:=rv.length
  exact wpAny_pyNext_tuple_end (I.ok.hd hc) st (show s.heap.IsTuple a its.toArray from p) (by simp; lia) fun h' eb=>⟨rfl,I.turned (t':=s.toks) (fun b o hb e=>eb b o hb e) f0 f1 f3 f4 f5⟩
 self:=fun _ _ _ _ _ st h=>wpAny_pyIter_tupleiter st h
theorem zcu {P:Program} {w:World} {K:W.Frag} {tg:Expr} (it:Addr) (lo:Int) (n:Nat):Turn P w K tg (Itr lo n) [it] it (fun i h=>IsRangeIter h it (lo + (i:Nat) * 1) ((n:Int) - (i:Nat)) 1) where
 mem:=by simp
 obj:=fun i h st b hb=>by
  have e:b=it:=by simpa using hb
  subst e
  exact ⟨_,st,fun v z=>by
   have z':Data.fields _=Data.cell v:=z
   cases z'⟩
 keep:=fun i h h' st k=>k it (by simp) _ st
 item:=by
  intro X hP hw hK hc i pins s σ H E I hf st hg
  subst hP hw hK
  obtain ⟨f0,f1,f2,f3,f4,f5⟩:=hf it (by simp)
  have W:=Walks.range (prog:=X.prog) (w:=X.w) (I.ok.hd hc) it lo 1 n
  refine W.item i s _ _ hg st fun v h' tk hv st' kk=>?_
  obtain ⟨t,rfl⟩:=hv
  have I1:Inv X pins σ H { s with heap:=h',toks:=tk }:=I.turned (fun b o hb e=>kk b o (by simpa using hb) e) f0 f1 f3 f4 f5
  refine ⟨_,rfl,zdL (s:={ s with heap:=h',toks:=tk }) (n:="range_iterator") st' rfl rfl (by decide) ⟨.int (lo + i),H,I1,⟨t,?_⟩,⟨rfl,rfl⟩,st',fun b hb=>(hf b hb).1⟩⟩
  rw [Int.mul_one]
 done:=by
  intro X hP hw hK hc i pins s σ H E I hf st hg
  subst hP hw hK
  obtain ⟨f0,f1,f2,f3,f4,f5⟩:=hf it (by simp)
  exact wpAny_pyNext_range_end (I.ok.hd hc) st (by have:n<=i:=hg; lia) fun h' eb=>⟨rfl,I.turned (t':=s.toks) (fun b o hb e=>eb b o hb e) f0 f1 f3 f4 f5⟩
 self:=fun _ _ _ _ _ st h=>wpAny_pyIter_rangeiter st h
end L2
namespace L2
open PySem PySem.Spec PyProof.Rows
section
variable {X:Cx} {tg:Expr}
theorem zea {lo hi:Int} (I:Inv X pins σ H s) (h1:-(2 ^ 62)<=lo) (h2:lo < 2 ^ 62) (h3:-(2 ^ 62)<=hi) (h4:hi < 2 ^ 62)
  (q:R (Itr lo (hi - lo).toNat) H):wpAny (model X.prog X.w) X.A (pyIter (.ref s.heap.objs.size)) (PIE X pins σ tg R) E { s with heap:=s.heap.push { cls:=.type "range",data:=.fields #[.int lo t,.int hi u,.int 1 v] },toks:=tk }:=by
 refine wpAny_pyIter_range (IsRange.new ..) (small_one h1 h2 h3 h4) ?_
 have I1:Inv X pins σ H { s with heap:=s.heap.push { cls:=.type "range",data:=.fields #[.int lo t,.int hi u,.int 1 v] },toks:=tk }:=I.kept fun b o e=>qc _ e
 refine ⟨(s.heap.push { cls:=.type "range",data:=.fields #[.int lo t,.int hi u,.int 1 v] }).objs.size,[(s.heap.push { cls:=.type "range",data:=.fields #[.int lo t,.int hi u,.int 1 v] }).objs.size],_,_,H,rfl,
  I1.kept (t':=tk) fun b o e=>qc _ e,zcu _ lo (hi - lo).toNat,?_,fun b hb=>?_,q⟩
 ·have e1:lo + ((0:Nat):Int) * 1=lo:=by simp
  have e2:(((hi - lo).toNat:Nat):Int) - ((0:Nat):Int)=Builtin.Range.rangeSize lo hi 1:=by rw [rangeSize_one]; split <;> lia
  show IsRangeIter _ _ (lo + ((0:Nat):Int) * 1) ((((hi - lo).toNat:Nat):Int) - ((0:Nat):Int)) 1
  rw [e1,e2]
  exact qd _ rfl
 ·have e:b=(s.heap.push { cls:=.type "range",data:=.fields #[.int lo t,.int hi u,.int 1 v] }).objs.size:=by simpa using hb
  subst e
  exact I1.fpOk (le_refl _) (I1.hok.fresh (le_refl _))
def iRng1 (ta:TA):TI:=fun σ H R=>ta σ H fun vs H1=>∃ j:Int,vs=[.int j]/\-(2 ^ 62)<=j/\j < 2 ^ 62/\R (Itr 0 j.toNat) H1
theorem zc3 (hg:Gl X "range") (hm:X.mg "range"=none) (ha:PA X [a] ta) (hs:starEach [a] X.env=[(false,eval a X.env)]:=by rfl):PI X tg (.Call (.Name "range" p) [a] [] pos) (iRng1 ta):=by
 intro pins s σ H R I h
 refine Call_ (zbf I hg hm boot_range (PyProof.Rows.callWith_type1 (thn (ha pos pins s σ H _ I h) fun us s1 zq=>?_) hs rfl))
 obtain ⟨vs,H1,I1,r1,q1⟩:=zq
 obtain ⟨j,e,q1,q2,q⟩:=q1
 subst e
 cases r1 with
 | cons r rr=>
   cases rr
   obtain ⟨t,rfl⟩:=r
   exact call_range_1 (zea I1 (by lia) (by lia) q1 q2 (by simpa using q))
def tFor (wi:TI) (g:TG) (tb:TS):TS:=fun D σ H=>wi σ H fun J H1=>∃ W:Nat->Nat->St->Hp->Prop,(∃ m,W 0 m σ H1)/\∀ i m σ H,W i m σ H->
 (J.stop i H/\D.nx σ H)\/(J.go i H/\∃ N:St->Hp->Prop,(∀ σ' H',N σ' H'->∃ m',m' < m/\W (i + 1) m' σ' H')/\∀ x H',J.yld i H x H'->g x σ H' fun σ2 H2=>tb { D with nx:=N,ct:=N,bk:=D.nx } σ2 H2)
def pinsAt (fp:List Addr) (h:Heap):List (Addr×Obj):=fp.filterMap fun b=>(h.get? b).map fun o=>(b,o)
theorem zaM (hb:b∈fp) (e:h.get? b=some o):(b,o)∈pinsAt fp h:=List.mem_filterMap.mpr ⟨b,hb,by rw [e]; rfl⟩
theorem zdo (hp:p∈pinsAt fp h):p.1∈fp/\h.get? p.1=some p.2:=by
 obtain ⟨b,hb,e⟩:=List.mem_filterMap.mp hp
 cases q:h.get? b with
 | none=>rw [q] at e; cases e
 | some o=>
   grind
theorem Inv.pinned (I:Inv X pins σ H s) (hf:∀ b∈fp,FpOk X pins H b) (ho:∀ b∈fp,∃ o,s.heap.get? b=some o/\∀ v,o.data≠.cell v):Inv X (pins++pinsAt fp s.heap) σ H s:=
 I.pins_of fun p hp=>(mem_append.mp hp).elim (fun z=>I.pin p (qi _ z)) fun z=>by
  obtain ⟨hb,e⟩:=zdo z
  obtain ⟨f0,f1,f2,_⟩:=hf p.1 hb
  obtain ⟨o,e',d⟩:=ho p.1 hb
  rw [e] at e'; cases e'
  exact ⟨e,f0,f1,f2,d⟩
theorem Inv.unpinned (I:Inv X (pins++pl) σ H s):Inv X pins σ H s:=I.pins_of fun p hp=>I.pin p (qi _ (qj _ hp))
theorem zfR (hp:PassesOwn (model X.prog X.w) X.A X.env X.xe) (hc:X.calm=true) (hi:PI X tg iter wi) (hg:PG X tg g) (hb:PSs X body tb)
  (hs:∀ x,foldedSetIterable iter X.env x=pure x:=by intro _; rfl):PS X (.For tg iter body [] pos) (tFor wi g tb):=by
 intro pins s σ H D I h
 refine wpAny_For (thn (hi pins s σ H _ I h) fun v s1 h1=>thn h1 fun itv s2 h2=>?_) hs
 obtain ⟨it,fp,tn,J,H2,e,I2,T,st2,f2,W,⟨m0,w0⟩,turn⟩:=h2
 subst e
 -- what stays true of the iterator's objects through the loop
 have stat:∀ {H':Hp},(∀ b∈fp,H' b=none)->∀ b∈fp,FpOk X pins H' b:=fun hn b hb=>⟨hn b hb,(f2 b hb).2⟩
 refine codeAny_forLoop_any (fun n s'=>∃ i σ' H',Inv X pins σ' H' s'/\tn i s'.heap/\(∀ b∈fp,H' b=none)/\W i n σ' H') ?_ m0 ⟨0,σ,H2,I2,st2,fun b hb=>(f2 b hb).1,w0⟩
 rintro n s3 ⟨i,σ3,H3,I3,st3,fr3,w3⟩
 rcases turn i n σ3 H3 w3 with ⟨stop,qn⟩ | ⟨go,N,hN,step⟩
 ·refine wpAny_passesOwn hp (thn (T.done X rfl rfl rfl hc i pins s3 σ3 H3 X.xe I3 (stat fr3) st3 stop) fun r s4 ⟨hr,I4⟩=>?_)
  subst hr
  exact wpAny_execs_nil ⟨σ3,H3,I4,qn⟩
 ·refine wpAny_passesOwn hp (thn (T.item X rfl rfl rfl hc i pins s3 σ3 H3 X.xe I3 (stat fr3) st3 go) fun r s4 zq=>?_)
  obtain ⟨u,hr,h4⟩:=zq
  subst hr
  refine wpAny_passesOwn hp (thn h4 fun _ s5 zq=>?_)
  obtain ⟨x,H5,I5,r5,y5,st5,fr5⟩:=zq
  have I5':=I5.pinned (stat fr5) (T.obj _ _ st5)
  refine wpAny_passesOwn hp (thn (hg _ s5 σ3 H5 x u _ I5' r5 (step x H5 y5)) fun _ s6 zq=>?_)
  obtain ⟨σ6,H6,I6,q6⟩:=zq
  refine wpAny_passesOwn hp (thn (hb _ s6 σ6 H6 _ I6 q6) fun f s7 q7=>?_)
  have again:∀ {σ7:St} {H7:Hp},Inv X (pins++pinsAt fp s5.heap) σ7 H7 s7->N σ7 H7->∃ m,m < n/\∃ i σ' H',Inv X pins σ' H' s7/\tn i s7.heap/\(∀ b∈fp,H' b=none)/\W i m σ' H':=fun {σ7 H7} I7 n7=>by
   obtain ⟨m',hm,w7⟩:=hN σ7 H7 n7
   refine ⟨m',hm,i + 1,σ7,H7,I7.unpinned,T.keep _ _ _ st5 fun b hb o e=>(I7.pin (b,o) (qi _ (qi _ (zaM hb e)))).1,fun b hb=>?_,w7⟩
   obtain ⟨o,e,d⟩:=T.obj _ _ st5 b hb
   exact (I7.pin (b,o) (qi _ (qi _ (zaM hb e)))).2.1
  cases f with
  | next=>obtain ⟨σ7,H7,I7,n7⟩:=q7; exact again I7 n7
  | cont=>obtain ⟨σ7,H7,I7,n7⟩:=q7; exact again I7 n7
  | brk=>obtain ⟨σ7,H7,I7,q7⟩:=q7; exact ⟨σ7,H7,I7.unpinned,q7⟩
  | ret v=>obtain ⟨x7,σ7,H7,I7,r7,q7⟩:=q7; exact ⟨x7,σ7,H7,I7.unpinned,r7,q7⟩
end
end L2
namespace L2
open PySem PySem.Spec PyProof.Rows
abbrev R2:=V->V->Hp->VK->Prop
def OpR (X:Cx) (f:Value->Value->Sem Value) (r:R2):Prop:=
 ∀ (pins:List (Addr×Obj)) (s:Shared) (σ:St) (H:Hp) (x y:V) (v u:Value) (Q:VK),Inv X pins σ H s->RelV x v->RelV y u->r x y H Q->
   wpAny (model X.prog X.w) X.A (f v u) (EP X pins σ Q) X.xe s
def CallR (X:Cx) (f:Value) (r:List V->Hp->VK->Prop):Prop:=
 ∀ (pins:List (Addr×Obj)) (s:Shared) (σ:St) (H:Hp) (xs:List V) (us:List Value) (Q:VK),Inv X pins σ H s->Vals xs us->r xs H Q->
   wpAny (model X.prog X.w) X.A (call f us) (EP X pins σ Q) X.xe s
def TruR (X:Cx) (r:V->Hp->(Bool->Hp->Prop)->Prop):Prop:=
 ∀ (pins:List (Addr×Obj)) (s:Shared) (σ:St) (H:Hp) (x:V) (v:Value) (Q:Bool->Hp->Prop),Inv X pins σ H s->RelV x v->r x H Q->
   wpAny (model X.prog X.w) X.A (truthy v) (TP X pins σ Q) X.xe s
def tOp (r:R2) (ta tb:TE):TE:=fun σ H Q=>ta σ H fun x H1=>tb σ H1 fun y H2=>r x y H2 Q
def rI (C:Int->Int->Prop) (g:Int->Int->V):R2:=fun x y H Q=>∃ i j,x=.int i/\y=.int j/\C i j/\Q (g i j) H
def rI0 (g:Int->Int->V):R2:=fun x y H Q=>∃ i j,x=.int i/\y=.int j/\Q (g i j) H
section
variable {X:Cx} {a b c:Expr} {ta tb tc:TE} {pos:Pos}
theorem binT (ha:PE X a ta) (hb:PE X b tb) {R:V->V->Hp->Prop} (I:Inv X pins σ H s)
  (h:ta σ H fun x H1=>tb σ H1 fun y H2=>R x y H2) {f:Value->Value->Sem Value}
  (hf:∀ v u s2 x y H2,Inv X pins σ H2 s2->RelV x v->RelV y u->R x y H2->wpAny (model X.prog X.w) X.A (f v u) Q X.xe s2):
  wpAny (model X.prog X.w) X.A (eval a X.env) (fun v s₁=>wpAny (model X.prog X.w) X.A (eval b X.env) (fun u s₂=>wpAny (model X.prog X.w) X.A (f v u) Q X.xe s₂) X.xe s₁) X.xe s:=by
 refine thn (ha pins s σ H _ I h) fun v s1 zq=>?_
 obtain ⟨x,H1,I1,r1,q1⟩:=zq
 refine thn (hb pins s1 σ H1 _ I1 q1) fun u s2 zq=>?_
 obtain ⟨y,H2,I2,r2,q2⟩:=zq
 exact hf v u s2 x y H2 I2 r1 r2 q2
theorem zhk (ho:OpR X (binaryOp op) r) (ha:PE X a ta) (hb:PE X b tb):PE X (.BinOp a op b pos) (tOp r ta tb):=by
 intro pins s σ H Q I h
 exact wpAny_BinOp (binT ha hb I h fun v u s2 x y H2 I2 rx ry q=>ho pins s2 σ H2 x y v u Q I2 rx ry q)
theorem opI {g:Int->Int->Int}
  (rule:∀ (i j:Int) (t u:Tok) (s:Shared) (Q:Value->Shared->Prop) (E:Value->Shared->Prop),C i j->Q (.int (g i j) s.toks) { s with toks:=s.toks + 1 }->wpAny (model X.prog X.w) X.A (f (.int i t) (.int j u)) Q E s):
  OpR X f (rI C fun i j=>.int (g i j)):=by
 intro pins s σ H x y v u Q I rx ry h
 obtain ⟨i,j,rfl,rfl,hc,q⟩:=h
 obtain ⟨t,rfl⟩:=rx
 obtain ⟨t',rfl⟩:=ry
 exact rule i j t t' s _ _ hc ⟨.int (g i j),H,I.tok _,⟨_,rfl⟩,q⟩
theorem opI0 {g:Int->Int->Int}
  (rule:∀ (i j:Int) (t u:Tok) (s:Shared) (Q:Value->Shared->Prop) (E:Value->Shared->Prop),Q (.int (g i j) s.toks) { s with toks:=s.toks + 1 }->wpAny (model X.prog X.w) X.A (f (.int i t) (.int j u)) Q E s):
  OpR X f (rI0 fun i j=>.int (g i j)):=by
 intro pins s σ H x y v u Q I rx ry h
 obtain ⟨i,j,rfl,rfl,q⟩:=h
 obtain ⟨t,rfl⟩:=rx
 obtain ⟨t',rfl⟩:=ry
 exact rule i j t t' s _ _ ⟨.int (g i j),H,I.tok _,⟨_,rfl⟩,q⟩
theorem opB0 {g:Int->Int->Bool}
  (rule:∀ (i j:Int) (t u:Tok) (s:Shared) (Q:Value->Shared->Prop) (E:Value->Shared->Prop),Q (.bool (g i j)) s->wpAny (model X.prog X.w) X.A (f (.int i t) (.int j u)) Q E s):
  OpR X f (rI0 fun i j=>.bl (g i j)):=by
 intro pins s σ H x y v u Q I rx ry h
 obtain ⟨i,j,rfl,rfl,q⟩:=h
 obtain ⟨t,rfl⟩:=rx
 obtain ⟨t',rfl⟩:=ry
 exact rule i j t t' s _ _ ⟨.bl (g i j),H,I,rfl,q⟩
def CPow (i j:Int):Prop:=0<=j/\j<=1000000/\i.natAbs < 2 ^ 64
def CMul (i j:Int):Prop:=(-(2 ^ 64) < i/\i < 2 ^ 64)\/(-(2 ^ 64) < j/\j < 2 ^ 64)
theorem CMul.ok (h:CMul i j):IntMulOk i j:=by
 rcases h with ⟨h1,h2⟩ | ⟨h1,h2⟩
 ·exact .of_left (intBits_le_64 h1 h2)
 ·exact .of_right (intBits_le_64 h1 h2)
theorem zgN:OpR X (binaryOp .Add) (rI0 fun i j=>.int (i + j)):=opI0 fun _ _ _ _ _ _ _ q=>add_int q
theorem zg7:OpR X (binaryOp .Mult) (rI CMul fun i j=>.int (i * j)):=opI fun _ _ _ _ _ _ _ hc q=>mul_int q hc.ok
theorem zgT:OpR X (binaryOp .Mod) (rI (fun _ j=>0 < j) fun i j=>.int (i % j)):=opI fun i j _ _ _ _ _ hc q=>by
 have h1:(0:Int) < j:=hc
 exact mod_int' (by lia) (by rw [Int.fmod_eq_emod_of_nonneg i (by lia)]; exact q)
theorem zga:OpR X (binaryOp .Pow) (rI CPow fun i j=>.int (i ^ j.toNat)):=opI fun _ _ _ _ _ _ _ hc q=>pow_int_small hc.1 hc.2.1 hc.2.2 q
end
def scal:V->V->Bool
 | .non,.non=>true | .non,.int _=>true | .int _,.non=>true | .non,.bl _=>true | .bl _,.non=>true | .non,.str _=>true | .str _,.non=>true
 | .int _,.int _=>true | .bl _,.bl _=>true | .str _,.str _=>true | .byt _,.byt _=>true
 | .int _,.str _=>true | .str _,.int _=>true | .bl _,.str _=>true | .str _,.bl _=>true
 | _,_=>false
def rNe:R2:=fun x y H Q=>scal x y=true/\Q (.bl (!decide (x=y))) H
theorem zff:decide (V.int i=V.int j)=(i == j):=by
 rw [Bool.eq_iff_iff]
 simp
theorem zgh:decide (V.bl i=V.bl j)=(i == j):=by
 rw [Bool.eq_iff_iff]
 simp
theorem zfb:decide (V.str i=V.str j)=(i == j):=by
 rw [Bool.eq_iff_iff]
 simp
theorem zfp:decide (V.byt i=V.byt j)=(i.toList == j.toList):=by
 rw [Bool.eq_iff_iff]
 cases i
 cases j
 simp
section
variable {X:Cx} {a b c:Expr} {ta tb tc:TE} {pos:Pos}
theorem zaz (I:Inv X pins σ H s) (q:Q (.bl k) H) (e:k=k'):EP X pins σ Q (.bool k') s:=by
 subst e
 exact ⟨.bl k,H,I,rfl,q⟩
theorem zhP:OpR X (compareOp .NotEq) rNe:=by
 intro pins s σ H x y v u Q I rx ry h
 obtain ⟨hs,q⟩:=h
 cases x with
 | non=>
   cases rx
   cases y with
   | non=>cases ry; exact PySem.EqNone.ne_none_none (zaz I q (by simp))
   | bl j=>cases ry; exact PySem.EqNone.ne_none_bool (zaz I q (by simp))
   | int j=>obtain ⟨t',rfl⟩:=ry; exact PySem.EqNone.ne_none_int (zaz I q (by simp))
   | str j=>obtain ⟨t',rfl⟩:=ry; exact PySem.EqNone.ne_none_str (zaz I q (by simp))
   | _=>exact absurd (show false=true from hs) Bool.false_ne_true
 | bl i=>
   cases rx
   cases y with
   | non=>cases ry; exact PySem.EqNone.ne_bool_none (zaz I q (by simp))
   | bl j=>cases ry; exact ne_bool (zaz I q (congrArg not zgh))
   | str j=>obtain ⟨t',rfl⟩:=ry; exact PySem.EqMixed.ne_bool_str (zaz I q (by simp))
   | _=>exact absurd (show false=true from hs) Bool.false_ne_true
 | int i=>
   obtain ⟨t,rfl⟩:=rx
   cases y with
   | non=>cases ry; exact PySem.EqNone.ne_int_none (zaz I q (by simp))
   | int j=>obtain ⟨t',rfl⟩:=ry; exact ne_int (zaz I q (congrArg not zff))
   | str j=>obtain ⟨t',rfl⟩:=ry; exact PySem.EqMixed.ne_int_str (zaz I q (by simp))
   | _=>exact absurd (show false=true from hs) Bool.false_ne_true
 | str i=>
   obtain ⟨t,rfl⟩:=rx
   cases y with
   | non=>cases ry; exact PySem.EqNone.ne_str_none (zaz I q (by simp))
   | bl j=>cases ry; exact PySem.EqMixed.ne_str_bool (zaz I q (by simp))
   | int j=>obtain ⟨t',rfl⟩:=ry; exact PySem.EqMixed.ne_str_int (zaz I q (by simp))
   | str j=>obtain ⟨t',rfl⟩:=ry; exact ne_str (zaz I q (congrArg not zfb))
   | _=>exact absurd (show false=true from hs) Bool.false_ne_true
 | byt i=>
   obtain ⟨t,rfl⟩:=rx
   cases y with
   | byt j=>obtain ⟨t',rfl⟩:=ry; exact W.ne_bytes (zaz I q (congrArg not zfp))
   | _=>exact absurd (show false=true from hs) Bool.false_ne_true
 | _=>cases y <;> exact absurd (show false=true from hs) Bool.false_ne_true
theorem zht:OpR X (compareOp .Lt) (rI0 fun i j=>.bl (decide (i < j))):=opB0 fun _ _ _ _ _ _ _ q=>lt_int q
theorem ziA:OpR X (compareOp .Gt) (rI0 fun i j=>.bl (decide (j < i))):=opB0 fun _ _ _ _ _ _ _ q=>gt_int q
theorem zir:OpR X (compareOp .GtE) (rI0 fun i j=>.bl (decide (j<=i))):=opB0 fun _ _ _ _ _ _ _ q=>ge_int q
theorem nomark (b:Expr) (h:op≠.In:=by decide) (h2:op≠.NotIn:=by decide):behindInMarks op b=false:=by
 have e1:(op == CmpOp.In)=false:=by cases op <;> first | rfl | exact absurd rfl h
 have e2:(op == CmpOp.NotIn)=false:=by cases op <;> first | rfl | exact absurd rfl h2
 cases b <;> simp [behindInMarks,e1,e2]
theorem zfw (ho:OpR X (compareOp op) r) (ha:PE X a ta) (hb:PE X b tb) (hm:behindInMarks op b=false):PE X (.Compare a [op] [b] pos) (tOp r ta tb):=by
 intro pins s σ H Q I h
 exact wpAny_Compare1 (binT ha hb I h fun v u s2 x y H2 I2 rx ry q=>ho pins s2 σ H2 x y v u Q I2 rx ry q) hm
def tTest (t:TE):TT:=fun σ H Q=>t σ H fun x H'=>∃ k,x=.bl k/\Q k H'
theorem zeV (ho:OpR X (compareOp op) r) (ha:PE X a ta) (hb:PE X b tb) (hm:behindInMarks op b=false):PT X (.Compare a [op] [b] pos) (tTest (tOp r ta tb)):=by
 intro pins s σ H Q I h
 refine wpAny_isTrue_Compare1 (thn (ha pins s σ H _ I h) fun v s1 ⟨x,H1,I1,r1,q1⟩=>thn (hb pins s1 σ H1 _ I1 q1) fun u s2 ⟨y,H2,I2,r2,q2⟩=>
  thn (ho pins s2 σ H2 x y v u _ I2 r1 r2 q2) fun c s3 ⟨z,H3,I3,r3,k,e,q3⟩=>?_) hm
 subst e
 cases r3
 exact wpAny_truthy_bool ⟨H3,I3,q3⟩
def TruV (K:W.Frag) (x:V) (H:Hp) (k:Bool):Prop:=
 match x with
 | .non=>k=false
 | .bl b=>k=b
 | .int i=>k=(i !=0)
 | .str y=>y.length<=sizeLine/\k=((y.length:Int) !=0)
 | .byt y=>y.size<=sizeLine/\k=((y.size:Int) !=0)
 | .ref p=>(∃ xs,SqL K H p xs/\k=!xs.isEmpty)\/(∃ xs,SqT K H p xs/\k=!xs.isEmpty)\/∃ kvs,H p=some (.dK kvs)/\k=!kvs.isEmpty
 | _=>False
theorem zcy (r:KV kvs vs):(!vs.isEmpty)=!kvs.isEmpty:=by
 cases r <;> rfl
theorem zbv (r:Vals xs its):(!its.toArray.isEmpty)=!xs.isEmpty:=by
 cases r <;> simp
theorem line63:(sizeLine:Nat) < 2 ^ 63:=by rw [sizeLine_eq]; decide
theorem zgp:TruR X (fun x H Q=>∃ k,TruV X.K x H k/\Q k H):=by
 intro pins s σ H x v Q I rx h
 obtain ⟨k,e,q⟩:=h
 have hl:=line63
 have hs:sizeLine=16777216:=sizeLine_eq
 cases x with
 | non=>
   cases rx
   have e':k=false:=e
   subst e'
   exact truthy_none ⟨H,I,q⟩
 | bl b=>
   cases rx
   have e':k=b:=e
   subst e'
   exact wpAny_truthy_bool ⟨H,I,q⟩
 | int i=>
   obtain ⟨t,rfl⟩:=rx
   have e':k=(i !=0):=e
   subst e'
   exact PySem.P.truthy_int ⟨H,I,q⟩
 | str y=>
   obtain ⟨t,rfl⟩:=rx
   obtain ⟨hy,e'⟩:y.length<=sizeLine/\k=((y.length:Int) !=0):=e
   subst e'
   exact PySem.P.truthy_str (by lia) ⟨H,I.tok _,q⟩
 | byt y=>
   obtain ⟨t,rfl⟩:=rx
   obtain ⟨hy,e'⟩:y.size<=sizeLine/\k=((y.size:Int) !=0):=e
   subst e'
   exact W.truthy_bytes (by lia) ⟨H,I.tok _,q⟩
 | ref p=>
   cases rx
   have e':(∃ xs,SqL X.K H p xs/\k=!xs.isEmpty)\/(∃ xs,SqT X.K H p xs/\k=!xs.isEmpty)\/∃ kvs,H p=some (.dK kvs)/\k=!kvs.isEmpty:=e
   rcases e' with ⟨xs,hx,e'⟩ | ⟨xs,hx,e'⟩ | ⟨kvs,hx,e'⟩
   ·subst e'
    obtain ⟨its,r,pl,hz⟩:=I.list hx
    have hlen:=r.length
    exact wpAny_truthy_list pl.isList (by simp only [size_toArray]; lia) ⟨H,I.tok _,by rw [zbv r]; exact q⟩
   ·subst e'
    obtain ⟨its,r,pl,hz⟩:=I.tuple hx
    have hlen:=r.length
    exact truthy_tuple pl (by simp only [size_toArray]; lia) ⟨H,I.tok _,by rw [zbv r]; exact q⟩
   ·subst e'
    obtain ⟨hz,hS,vs,r,m⟩:kvs.length<=sizeLine/\(p == sysModules)=false/\∃ vs,KV kvs vs/\s.heap.DictOf (mixKind X.prog X.w) p vs:=I.hok p _ hx
    have hlen:kvs.length=vs.length:=Paired.length r
    exact wpAny_truthy_dict hS m (by lia) ⟨H,I.tok _,by rw [zcy r]; exact q⟩
 | _=>exact (show False from e).elim
theorem zee (ha:PE X a ta) (he:∀ whole,isTrue a X.env whole=(do let v <- whole; standAt a.pos; holding [v] (truthy v))):
  PT X a (fun σ H Q=>ta σ H fun x H'=>∃ k,TruV X.K x H' k/\Q k H'):=by
 intro pins s σ H Q I h
 exact isTrue_plain (thn (ha pins s σ H _ I h) fun v s1 ⟨x,H1,I1,r1,q1⟩=>zgp pins s1 σ H1 x v Q I1 r1 q1) (he _)
theorem zcr:OpR X (binaryOp .Add) (fun x y H Q=>∃ i j,x=.str i/\y=.str j/\i.length + j.length<=sizeLine/\Q (.str (i++j)) H):=by
 intro pins s σ H x y v u Q I rx ry h
 obtain ⟨i,j,rfl,rfl,hz,q⟩:=h
 obtain ⟨t,rfl⟩:=rx
 obtain ⟨t',rfl⟩:=ry
 exact add_str (fun t' tk=>⟨.str (i++j),H,I.tok _,⟨_,rfl⟩,q⟩) hz
theorem vals1 (r:Vals [x] us):∃ u,us=[u]/\RelV x u:=by
 cases r with
 | cons r1 r2=>cases r2; exact ⟨_,rfl,r1⟩
theorem zcY:CallR X (.type "int") (fun xs H Q=>(∃ i,xs=[.int i]/\Q (.int i) H)\/∃ k,xs=[.bl k]/\Q (.int (if k then 1 else 0)) H):=by
 intro pins s σ H xs us Q I r h
 rcases h with ⟨i,rfl,q⟩ | ⟨k,rfl,q⟩
 ·obtain ⟨u,rfl,t,rfl⟩:=vals1 r
  exact call_int_int ⟨.int i,H,I,⟨_,rfl⟩,q⟩
 ·obtain ⟨u,rfl,r1⟩:=vals1 r
  cases r1
  exact call_int_bool ⟨.int (if k then 1 else 0),H,I.tok _,⟨_,rfl⟩,q⟩
end
end L2
namespace L2
open PySem PySem.Spec PyProof.Rows
theorem zdg {h:Heap} (n:h.Ns1 dx mA):∃ od,h.get? dx=some od/\∀ name,W.lookIn name od=some (mA name):=by
 obtain ⟨o,es,ep,ho,hd,hk,_,hm⟩:=n
 refine ⟨o,ho,fun name=>?_⟩
 have e:=hm name
 unfold nsFind findBy at e
 rw [<- Array.find?_toList] at e
 unfold W.lookIn
 rw [hd]
 dsimp only
 split
 ·rename_i y q
  rw [q] at e
  exact congrArg some e
 ·rename_i q
  rw [q] at e
  have a:es.toList.any (·.refKey)=false:=by
   rw [List.any_eq_false]
   intro y hy
   obtain ⟨z,t,hkey⟩:=hk y (Array.mem_toList_iff.mp hy)
   simp [DictEntry.refKey,hkey]
  grind
section
variable {X:Cx} {pins:List (Addr×Obj)} {σ:St} {H:Hp} {s:Shared} {a C dx:Addr} {fs:List (Str×V)} {f:Str} {v:V} {A:Around} {E:Value->Shared->Prop}
theorem zeP (hb:attributeBase e f env (eval e env)=eval e env)
  (h:wpAny (model prog w) A (eval e env) (fun o s₁=>wpAny (model prog w) A (getAttr o f true) Q E s₁) E s):wpAny (model prog w) A (eval (.Attribute e f pos) env) Q E s:=
 Attribute_any_ h (by rw [arm_eval_Attribute,hb])
end
end L2
namespace L2
open PySem PySem.Spec PyProof.Rows
structure Room (k:Nat) (A:Around):Prop where
 hd:A.handled=none
 dp:A.depth + 3 * k + 5 < recursionLimit
 un:A.units + 16 * k + 200 < cLine
 gd:A.guards=some []
theorem Room.mono (r:Room k A) (h:j<=k):Room j A:=⟨r.hd,by have:=r.dp; lia,by have:=r.un; lia,r.gd⟩
theorem Room.deeper (r:Room (k + 1) A) (env:Env):Room k (A.deeper env):=
 ⟨r.hd,by have:=r.dp; show A.depth + 1 + 3 * k + 5 < _; lia,by have:=r.un; show A.units + 3 + 16 * k + 200 < _; lia,r.gd⟩
theorem zcA {A:Around}:(A.under (.builtin "type.__call__" ⟨.ref C::us,kw⟩)).depth=A.depth + 1:=by
 first | rfl | assumption | (simp_all; done)
theorem zcs {A:Around}:(A.under (.builtin "type.__call__" ⟨.ref C::us,kw⟩)).units=A.units + 1:=by
 first | rfl | assumption | (simp_all; done)
theorem Room.make (r:Room (k + 1) A) (C:Addr) (us:List Value) (kw:List (Str×Value)):Room k (A.under (.builtin "type.__call__" ⟨.ref C::us,kw⟩)):=
 ⟨r.hd,by have:=r.dp; rw [zcA]; lia,by have:=r.un; rw [zcs]; lia,by first | exact r.gd | (have:=r.gd; simp [Around.under,Code.isGuard,guardIds,this])⟩
theorem Room.depth (r:Room k A):A.depth < recursionLimit:=by have:=r.dp; lia
theorem Room.units (r:Room k A):A.units + 64 < cLine:=by have:=r.un; lia
def tNil:TA:=fun _ H Q=>Q [] H
def tCons (ta:TE) (tr:TA):TA:=fun σ H Q=>ta σ H fun x H1=>tr σ H1 fun xs H2=>Q (x::xs) H2
section
variable {X:Cx} {e:Expr} {es:List Expr} {te:TE} {t:TA} {pos:Pos}
theorem zgQ:PA X [] tNil:=fun _ _ _ _ H Q I h=>Calls.spliced_nil ⟨[],H,I,.nil,h⟩
theorem zfv (ha:PE X e te) (hr:PA X es t) (hs:starEach (e::es) X.env=(false,eval e X.env)::starEach es X.env:=by rfl):PA X (e::es) (tCons te t):=by
 intro pos pins s σ H Q I h
 rw [hs]
 show wpAny _ _ (spliced ((false,eval e X.env)::backTo pos (starEach es X.env))) _ _ s
 refine Calls.spliced_cons (thn (ha pins s σ H _ I h) fun u s1 zq=>?_)
 obtain ⟨x,H1,I1,r1,q1⟩:=zq
 exact thn (hr pos pins s1 σ H1 _ I1 q1) fun us s2 ⟨xs,H2,I2,r2,q2⟩=>⟨x::xs,H2,I2,.cons r1 r2,q2⟩
def tTup (t:TA):TE:=fun σ H Q=>t σ H fun xs H1=>xs.length<=sizeLine/\∀ p,H1 p=none->Q (.ref p) (upd H1 p (.tup xs))
def tLst (t:TA):TE:=fun σ H Q=>t σ H fun xs H1=>xs.length<=sizeLine/\∀ p,H1 p=none->Q (.ref p) (upd H1 p (.lst xs))
theorem zfJ (h:PA X es t):PE X (.Tuple es x1 pos) (tTup t):=by
 intro pins s σ H Q I hq
 refine wpAny_Tuple_spliced (thn (h pos pins s σ H _ I hq) fun us s1 ⟨xs,H1,I1,r,z,q⟩=>⟨by rw [<- r.length]; exact z,?_⟩)
 have hf:H1 s1.heap.objs.size=none:=I1.hok.fresh (le_refl _)
 refine ⟨.ref s1.heap.objs.size,upd H1 s1.heap.objs.size (.tup xs),I1.laid (t':=s1.toks) (fun b u e=>qc _ e) (le_refl _) ?_,rfl,q _ hf⟩
 exact ⟨z,us,r,⟨_,qd _ rfl,rfl,_,rfl⟩⟩
theorem zgo (h:PA X es t):PE X (.List es pos) (tLst t):=by
 intro pins s σ H Q I hq
 refine wpAny_List_spliced (thn (h pos pins s σ H _ I hq) fun us s1 ⟨xs,H1,I1,r,z,q⟩=>⟨by rw [<- r.length]; exact z,?_⟩)
 have hf:H1 s1.heap.objs.size=none:=I1.hok.fresh (le_refl _)
 refine ⟨.ref s1.heap.objs.size,upd H1 s1.heap.objs.size (.lst xs),I1.laid (t':=s1.toks) (fun b u e=>qc _ e) (le_refl _) ?_,rfl,q _ hf⟩
 exact ⟨z,us,0,r,qd _ rfl⟩
end
abbrev Sp:=List V->Hp->VK->XK->Prop
abbrev CXT:=List Env->Hp->Shared->XK->Value->Shared->Prop
structure Env0 (P:Program) (w:World) (K:W.Frag) (mg:Str->Option Value) (base:Heap) (A:Around) (outer:List Env) (s:Shared) (H:Hp):Prop where
 frames:A.frames=some outer
 mod:Mod K mg base
 bs:∀ b o,base.get? b=some o->s.heap.get? b=some o/\H b=none
 bsz:base.objs.size<=s.heap.objs.size
 funs:s.heap.FunFrames base outer
 frf:∀ b∈frs outer,H b=none
 hok:HOk P w H s.heap
 bare:AllBare s.gens
def CE (outer:List Env) (P:Program) (w:World) (H:Hp) (s:Shared) (Q:VK) (u:Value) (s':Shared):Prop:=
 ∃ v H',s'.os=s.os/\AllBare s'.gens/\Un (frs outer) [] H H' s.heap s'.heap/\HOk P w H' s'.heap/\RelV v u/\Q v H'
def CR (CX:CXT) (outer:List Env) (P:Program) (w:World) (H:Hp) (s:Shared) (Q:VK) (E:XK) (r:Result) (s':Shared):Prop:=
 match r with
 | .ok (.ret u)=>CE outer P w H s Q u s'
 | .ok _=>False
 | .error e=>CX outer H s E e s'
structure FnOk (P:Program) (w:World) (K:W.Frag) (mg:Str->Option Value) (base:Heap) (CX:CXT) (k:Nat) (f:Addr) (fd:FuncData) (ps:List Str) (sp:Sp):Prop where
 len:∀ vs H Q E,sp vs H Q E->vs.length=ps.length
 run:∀ (A:Around) (outer:List Env) (s:Shared) (H:Hp) (args:Args) (us:List Value) (vs:List V) (Q:VK) (E:XK),Room k A->Env0 P w K mg base A outer s H->BindsTo s fd args (ps.zip us)->Vals vs us->sp vs H Q E->
  codeAny (model P w) A (.call (.ref f) args) (CR CX outer P w H s Q E) s
theorem Env0.make {K:W.Frag} (e:Env0 P w K mg base A outer s H) (C:Addr) (us:List Value) (kw:List (Str×Value)):
  Env0 P w K mg base (A.under (.builtin "type.__call__" ⟨.ref C::us,kw⟩)) outer s H:=⟨by first | exact e.frames | (simpa [Around.under,Code.envs,Code.isFrame,pushEnvs] using e.frames),e.mod,e.bs,e.bsz,e.funs,e.frf,e.hok,e.bare⟩
section
variable {X:Cx} {pins:List (Addr×Obj)} {σ:St} {H:Hp} {s s':Shared}
theorem Inv.env0 (I:Inv X pins σ H s):Env0 X.prog X.w X.K X.mg X.base X.A X.stack s H:=
 ⟨I.ok.frames,I.ok.mod,I.bs,le_trans I.ok.bsz I.sz,I.stack,I.stkFree,I.hok,I.bare⟩
theorem Inv.after (I:Inv X pins σ H s) (h:CE X.stack X.prog X.w H s Q u s'):EP X pins σ Q u s':=by
 obtain ⟨v,H',os,bare,un,hok,r,q⟩:=h
 obtain ⟨hh,g,d,t,os'⟩:=s'
 obtain rfl:os'=s.os:=os
 exact ⟨v,H',I.call (h':=hh) (g':=g) (d':=d) (t':=t) (ch:=[]) un hok bare (fun b z=>absurd z (by simp)),r,q⟩
end
def Binds (K:W.Frag) (fd:FuncData) (ps:List Str) (ds:List Value):Prop:=
 ∀ (s:Shared) (us:List Value),K.In s.heap->(us++ds).length=ps.length->BindsTo s fd ⟨us,[]⟩ (ps.zip (us++ds))
theorem Binds.all {K:W.Frag} (h:∀ us:List Value,us.length=ps.length->bindArgs fd ⟨us,[]⟩=pure (ps.zip us)):Binds K fd ps []:=fun s us _ hl=>by
 rw [append_nil] at hl ⊢
 exact .of_eq (h us hl)
section
variable {X:Cx} {CX:CXT} {k:Nat} {f C:Addr} {fd:FuncData} {ps ks:List Str} {sp:Sp} {E:XK} {x m:Str} {p pos apos kpos:Pos} {e o:Expr} {es:List Expr} {kws:List Keyword} {te ta:TE} {t tk:TA} {nm:Option Str}
variable {g:List Value->List Value->List Value} {gV:List V->List V->List V}
end
structure FnScope (N P:List Str) (sc:Scope):Prop where
 kind:sc.kind=.function
 co:sc.isCoroutine=false
 gen:sc.isGenerator=false
 nd:N.Nodup
 pre:N.take P.length=P
 par:∀ x∈P,sc.names.lookup x=some .local\/sc.names.lookup x=some .cell
 nofree:∀ y∈sc.names,y.2≠.free
theorem zbL {kindOf:Str->Option NameKind}:∀ {binds:List (Str×Value)} {m:Str->Option Value},(∀ v,(x,v)∉binds)->bindL kindOf binds m x=m x
 | [],_,_=>rfl
 | (n,v)::r,m,h=>by
   unfold bindL
   rw [zbL fun w hw=>h w (qk _ hw)]
   split
   ·have:x≠n:=by rintro rfl; exact h v ql
    simp [this]
   ·rfl
theorem zbK {kindOf:Str->Option NameKind}:∀ {binds:List (Str×Value)} {m:Str->Option Value},(∀ v,(x,v)∉binds)->bindC kindOf binds m x=m x
 | [],_,_=>rfl
 | (n,v)::r,m,h=>by
   unfold bindC
   rw [zbK fun w hw=>h w (qk _ hw)]
   split
   ·rfl
   ·have:x≠n:=by rintro rfl; exact h v ql
    simp [this]
theorem zbN {kindOf:Str->Option NameKind}:∀ {P:List Str} {vs:List Value} {i:Nat} {m:Str->Option Value},P.Nodup->P[i]?=some x->vs[i]?=some v->kindOf x=some .local->
  bindL kindOf (P.zip vs) m x=some v
 | [],_,_,_,_,h,_,_=>by simp at h
 | _::_,[],_,_,_,_,h,_=>by simp at h
 | p::P,w::vs,0,m,nd,h1,h2,hk=>by
   simp at h1 h2; subst h1; subst h2
   show bindL kindOf ((p,w)::P.zip vs) m p=_
   unfold bindL
   rw [zbL fun v hv=>(nodup_cons.mp nd).1 (of_mem_zip hv).1,if_pos hk]
   simp
 | p::P,w::vs,i + 1,m,nd,h1,h2,hk=>by
   show bindL kindOf ((p,w)::P.zip vs) m x=_
   unfold bindL
   exact zbN (i:=i) (nodup_cons.mp nd).2 (by simpa using h1) (by simpa using h2) hk
theorem zbX {kindOf:Str->Option NameKind}:∀ {P:List Str} {vs:List Value} {i:Nat} {m:Str->Option Value},P.Nodup->P[i]?=some x->vs[i]?=some v->kindOf x≠some .local->
  bindC kindOf (P.zip vs) m x=some v
 | [],_,_,_,_,h,_,_=>by simp at h
 | _::_,[],_,_,_,_,h,_=>by simp at h
 | p::P,w::vs,0,m,nd,h1,h2,hk=>by
   simp at h1 h2; subst h1; subst h2
   show bindC kindOf ((p,w)::P.zip vs) m p=_
   unfold bindC
   rw [zbK fun v hv=>(nodup_cons.mp nd).1 (of_mem_zip hv).1,if_neg hk]
   simp
 | p::P,w::vs,i + 1,m,nd,h1,h2,hk=>by
   show bindC kindOf ((p,w)::P.zip vs) m x=_
   unfold bindC
   exact zbX (i:=i) (nodup_cons.mp nd).2 (by simpa using h1) (by simpa using h2) hk
def start (N:List Str) (vs:List V):St:=vs.map some++List.replicate (N.length - vs.length) none
def cxOf (CX:CXT) (P:Program) (w:World) (K:W.Frag) (mg:Str->Option Value) (base:Heap) (N:List Str) (qual:Str) (scope:Scope) (f:Addr) (cd:Value) (A:Around) (outer:List Env) (s:Shared) (H:Hp) (E:XK):Cx where
 prog:=P
 w:=w
 K:=K
 mg:=mg
 base:=base
 A:=A.deeper (envOfC qual scope s.heap.objs.size f cd)
 N:=N
 s₀:=s
 H₀:=H
 env:=envOfC qual scope s.heap.objs.size f cd
 outer:=outer
 stack:=envOfC qual scope s.heap.objs.size f cd::outer
 ex:=[]
 calm:=true
 fn:=fun _=>true
 pn:=[]
 xe:=fun e s'=>wpAny (model P w) (A.deeper (envOfC qual scope s.heap.objs.size f cd)) (leaving (envOfC qual scope s.heap.objs.size f cd) e) (fun _ s''=>CX outer H s E e s'') (fun e' s''=>CX outer H s E e' s'') s'
theorem zck {sc:Scope} (h:sc.names.lookup x=some .cell):∃ c,(cellsFrom n sc.names []).lookup x=some c:=by
 have q:=W.cellsFrom_some sc.names n [] (.inl h)
 exact Option.isSome_iff_exists.mp q
theorem zdv {K:W.Frag}
  (S:FnScope N ps scope) (hd:A.handled=none) (e0:Env0 P w K mg base A outer s H) (hl:vs.length=ps.length) (r:Vals vs us)
  (x:InCallC s s.heap.objs.size (bindL (envOfC qual scope s.heap.objs.size f cd).kindOf (ps.zip us) fun _=>none) (cellsFrom (s.heap.objs.size + 1) scope.names []) (bindC (envOfC qual scope s.heap.objs.size f cd).kindOf (ps.zip us) fun _=>none) s1):
  Inv (cxOf CX P w K mg base N qual scope f cd A outer s H E) [] (start N vs) H s1:=by
 have hpl:ps.length<=N.length:=by have:=congrArg List.length S.pre; rw [List.length_take] at this; lia
 obtain ⟨h1,tk,rfl,hk⟩:=x.done
 have noA:∀ b:Addr,b∉(cxOf CX P w K mg base N qual scope f cd A outer s H E).ex:=fun b z=>absurd (show b∈([]:List Addr) from z) (by simp)
 refine ⟨⟨e0.mod,S.kind,rfl,rfl,le_refl _,fun y z c h1 h2=>?_,fun y hy=>?_,fun y c _ h=>?_,fun _=>hd,Around.frames_deeper e0.frames,.inr ⟨rfl,rfl⟩,fun b z=>absurd z (noA b),e0.bs,e0.bsz,fun b _ _=>noA b,fun b z=>absurd z (noA b),e0.funs,e0.frf⟩,
  rfl,e0.bare,Un.kept hk,⟨_,x.toInCall.ns,fun i y v h1 h2 h3=>?_⟩,fun y c h=>⟨_,x.cell y c h⟩,e0.hok.fresh (le_refl _),fun y c h=>?_,fun p hp=>absurd (show p∈([]:List (Addr×Obj)) from hp) (by simp),e0.hok.kept hk,?_⟩
 ·exact name_of_addr x.apart (PySem.mem_of_lookup h1) (PySem.mem_of_lookup h2)
 ·have hy:scope.names.lookup y=some .cell\/scope.names.lookup y=some .free:=hy
  rcases hy with hy | hy
  ·exact zck hy
  ·exact absurd rfl (S.nofree _ (PySem.mem_of_lookup hy))
 ·exact le_of_lt (x.above y c (PySem.mem_of_lookup h))
 ·have hi:i < vs.length:=by
   unfold start at h2
   by_cases hi:i < vs.length
   ·exact hi
   ·rw [getElem?_append_right (by simpa using hi)] at h2
    rw [List.getElem?_replicate] at h2
    split at h2 <;> cases h2
  have ha:vs[i]?=some v:=by
   unfold start at h2
   rw [getElem?_append_left (by simpa using hi),getElem?_map] at h2
   cases e:vs[i]? with
   | none=>rw [e] at h2; cases h2
   | some a=>rw [e] at h2; cases h2; rfl
  obtain ⟨u,hu,rv⟩:=r.get ha
  have hp:ps[i]?=some y:=by
   rw [<- S.pre,List.getElem?_take_of_lt (by lia)]; exact h1
  have ndP:ps.Nodup:=by rw [<- S.pre]; exact S.nd.sublist (List.take_sublist _ _)
  refine ⟨u,rv,?_⟩
  rcases S.par y (List.mem_of_getElem? hp) with k | k
  ·exact .inl ⟨k,zbN ndP hp hu k⟩
  ·obtain ⟨c,e⟩:=zck (n:=s.heap.objs.size + 1) k
   refine .inr ⟨.inl k,c,e,?_⟩
   have q:=x.cell y c e
   rw [zbX ndP hp hu (by show scope.names.lookup y≠_; rw [k]; decide)] at q
   exact q
 ·exact e0.hok.fresh (le_of_lt (x.above y c (PySem.mem_of_lookup h)))
 ·unfold start
  show _=N.length
  rw [length_append,length_map,List.length_replicate]
  lia
theorem ziK {K:W.Frag} {dV kV doc pm cdv ct oc:Value} (lk:K.lookup f=some ⟨oc,od,.func (W.fnOf name qual params body scope dV kV doc pm an cdv ct),osl⟩) (hcd:W.codeIn K cdv qual=true) (S:FnScope N ps scope)
  (len:∀ vs H Q E,sp vs H Q E->vs.length=ps.length)
  (hbody:∀ (A:Around) (outer:List Env) (s:Shared) (H:Hp) (vs:List V) (Q:VK) (E:XK),Room k (A.deeper (envOfC qual scope s.heap.objs.size f cdv))->sp vs H Q E->
   ∃ t,PSs (cxOf CX P w K mg base N qual scope f cdv A outer s H E) body t/\t { nx:=fun _ H'=>Q .non H',rt:=Q } (start N vs) H):
  FnOk P w K mg base CX (k + 1) f (W.fnOf name qual params body scope dV kV doc pm an cdv ct) ps sp:=by
 refine ⟨len,fun A outer s H args us vs Q E hr e0 hb r hsp=>?_⟩
 have hl:=len _ _ _ _ hsp
 have KX:K.In s.heap:=e0.mod.kin.keeps fun b o e=>(e0.bs b o e).1
 have lim:s.heap.NoLimit:=e0.mod.nolimit.keeps fun b o e=>(e0.bs b o e).1
 have hkind:∀ y∈ps.zip us,scope.names.lookup y.1=some .local\/(scope.names.lookup y.1=some .cell/\((cellsFrom (s.heap.objs.size + 1) scope.names []).lookup y.1).isSome=true):=fun ⟨n,v⟩ hy=>by
  rcases S.par n (of_mem_zip hy).1 with q | q
  ·exact .inl q
  ·exact .inr ⟨q,W.cellsFrom_some _ _ _ (.inl q)⟩
 refine codeAny_call_function hr.depth (KX _ _ lk) rfl S.co S.gen rfl (W.codeRec_of KX hcd) (hb _ _ _ _ ?_)
 refine wpAny_newFunctionEnv_cells S.kind hkind fun env he s1 x=>?_
 subst he
 refine ⟨lim.keeps x.toInCall.keep,codeAny_func ?_⟩
 obtain ⟨t,ht,hq⟩:=hbody A outer s H vs Q E (hr.deeper _) hsp
 have I:Inv (cxOf CX P w K mg base N qual scope f cdv A outer s H E) [] (start N vs) H s1:=zdv S hr.hd e0 hl r x
 refine wpAny_mono (ht [] s1 (start N vs) H _ I hq) (fun fl s' hs=>?_) fun e s' hs=>hs
 have fin:∀ {σ':St} {H':Hp} {v:V} {u:Value},Inv (cxOf CX P w K mg base N qual scope f cdv A outer s H E) [] σ' H' s'->RelV v u->Q v H'->CE outer P w H s Q u s':=
  fun {σ' H' v u} J rv q=>⟨v,H',J.os,J.bare,J.base,J.hok,rv,q⟩
 cases fl with
 | ret u=>
   obtain ⟨v,σ',H',J,rv,q⟩:=hs
   exact fin J rv q
 | next=>
   obtain ⟨σ',H',J,q⟩:=hs
   exact fin (v:=V.non) (u:=Value.none) J rfl q
 | brk=>
   obtain ⟨_,_,_,q⟩:=hs
   exact False.elim q
 | cont=>
   obtain ⟨_,_,_,q⟩:=hs
   exact False.elim q
end L2
namespace L2
open PySem PySem.Spec PyProof.Rows
section
variable {X:Cx} {x:Str} {p pos:Pos} {e:Expr} {es:List Expr} {t:TA} {id T:String} {r:List V->Hp->VK->Prop}
def tCB (r:List V->Hp->VK->Prop) (t:TA):TE:=fun σ H Q=>t σ H fun vs H1=>r vs H1 Q
theorem zei (hc:CallR X (.builtin id) r) (hg:Gl X x) (hm:X.mg x=none) (hv:bootBuiltins x=some (.builtin id)) (ha:PA X (e::es) t) (hn:x≠"__name__":=by decide) (hdb:(x == ("__debug__":Str))=false:=by decide)
  (he:starEach (e::es) X.env=(false,eval e X.env)::starEach es X.env:=by rfl) (hpl:(backTo pos (starEach es X.env)).any (·.1)=false:=by rfl):PE X (.Call (.Name x p) (e::es) [] pos) (tCB r t):=by
 intro pins s σ H Q I h
 refine wpAny_Call_Name_kw (zbf I hg hm hv ?_ hn hdb)
 exact PyProof.Rows.callWith_builtin1 (thn (ha pos pins s σ H _ I h) fun us s1 ⟨vs,H1,I1,r1,q1⟩=>hc pins s1 σ H1 vs us Q I1 r1 q1) he hpl
theorem zdh (hc:CallR X (.type T) r) (hg:Gl X x) (hm:X.mg x=none) (hv:bootBuiltins x=some (.type T)) (ha:PA X (e::es) t) (hn:x≠"__name__":=by decide) (hdb:(x == ("__debug__":Str))=false:=by decide)
  (he:starEach (e::es) X.env=(false,eval e X.env)::starEach es X.env:=by rfl) (hpl:(backTo pos (starEach es X.env)).any (·.1)=false:=by rfl):PE X (.Call (.Name x p) (e::es) [] pos) (tCB r t):=by
 intro pins s σ H Q I h
 refine wpAny_Call_Name_kw (zbf I hg hm hv ?_ hn hdb)
 exact PyProof.Rows.callWith_type1 (thn (ha pos pins s σ H _ I h) fun us s1 ⟨vs,H1,I1,r1,q1⟩=>hc pins s1 σ H1 vs us Q I1 r1 q1) he hpl
end
section
variable {X:Cx} {pins:List (Addr×Obj)} {σ:St} {H:Hp} {s:Shared} {a:Addr} {y v:V} {u r:Value} {o:Option V} {A:Around} {E:Value->Shared->Prop}
theorem Inv.big (I:Inv X pins σ H s):sysModules < s.heap.objs.size:=by
 have h:mainGlobals < s.heap.objs.size:=(I.mod.glob.keeps I.bk).lt
 exact Nat.lt_trans (by decide) h
end
end L2
end
section
namespace HT
open PySem PyProof.Rows
section
open PySem.SeqAt
open PySem.AutoSeq1 (wpAny_loadPart')
open PySem.MeetsSeq PySem.MeetsSeq2 PySem.MeetsSeq3
end
section
variable {prog:Program} {w:World} {A:Around} {E:Value->Shared->Prop} {s:Shared}
theorem cat_tup (ht:IsTup s.heap t vs.toArray) (hb:IsTup s.heap b ws.toArray) (hv:vs≠[])
  (h1:ws=[]->Q (.ref t) s) (h2:ws≠[]->Q (.ref s.heap.objs.size) { s with heap:=s.heap.push { cls:=.type "tuple",data:=.seq (vs++ws).toArray } })
  (hsz:vs.length + ws.length<=sizeLine):wpAny (model prog w) A (binaryOp .Add (.ref t) (.ref b)) Q E s:=by
 obtain ⟨⟨cls,dd,data,sl⟩,ho,hc,n,hd⟩:=id ht
 obtain ⟨⟨cls2,dd2,data2,sl2⟩,ho2,hc2,n2,hd2⟩:=id hb
 simp only at hc hd hc2 hd2
 subst hc hd hc2 hd2
 have e:vs.toArray++ws.toArray=(vs++ws).toArray:=by simp
 by_cases hw:ws=[]
 ·exact concat_meets ⟨_,ho,rfl⟩ ⟨_,ho2,rfl⟩ noFill_tuple_add seq_tuple_add PySem.F.slot_tuple_add PySem.F.entry_tuple_add (PySem.F.args_tuple_add_2 _ _)
   (tuple_addW1 t b vs.toArray ws.toArray n n2 dd dd2 sl sl2 (by simpa using hv) (by simp [hw])) ⟨ho,ho2,h1 hw⟩
 ·refine concat_meets ⟨_,ho,rfl⟩ ⟨_,ho2,rfl⟩ noFill_tuple_add seq_tuple_add PySem.F.slot_tuple_add PySem.F.entry_tuple_add (PySem.F.args_tuple_add_2 _ _)
   (tuple_addW2 t b vs.toArray ws.toArray n n2 dd dd2 sl sl2 (by simpa using hv) (by simpa using hw) (by rw [size_toArray,size_toArray]; exact hsz)) ⟨ho,ho2,?_⟩
  rw [e]
  exact h2 hw
end
end HT
namespace L2
open PySem PySem.Spec PyProof.Rows
section
variable {X:Cx} {e:Expr} {te:TE} {lo hi:Option Expr} {tl th:TO} {pos p2:Pos}
def rCatT (K:W.Frag):R2:=fun x y H Q=>∃ a b xs ys,x=.ref a/\y=.ref b/\SqT K H a xs/\SqT K H b ys/\xs≠[]/\xs.length + ys.length<=sizeLine/\
 (ys=[]->Q (.ref a) H)/\(ys≠[]->∀ p,H p=none->Q (.ref p) (upd H p (.tup (xs++ys))))
theorem Vals.nil_iff (r:Vals xs us):us=[]↔xs=[]:=by
 cases r with
 | nil=>simp
 | cons _ _=>simp
theorem zfl:OpR X (binaryOp .Add) (rCatT X.K):=by
 intro pins s σ H x y v u Q I rx ry h
 obtain ⟨a,b,xs,ys,rfl,rfl,ha,hb,hx,hz,q1,q2⟩:=h
 cases rx
 cases ry
 obtain ⟨its,r1,p1,_⟩:=I.tuple ha
 obtain ⟨its2,r2,p2,_⟩:=I.tuple hb
 refine HT.cat_tup p1 p2 (fun z=>hx (r1.nil_iff.mp z)) (fun z=>⟨.ref a,H,I,rfl,q1 (r2.nil_iff.mp z)⟩) (fun z=>?_) (by rw [<- r1.length,<- r2.length]; exact hz)
 refine ⟨.ref s.heap.objs.size,_,I.laid (t':=s.toks) (o:=.tup (xs++ys)) (fun b ob q=>qc _ q) (le_refl _) ?_,rfl,q2 (fun w=>z (r2.nil_iff.mpr w)) _ (I.hok.fresh (le_refl _))⟩
 exact ⟨by rw [length_append]; exact hz,_,r1.append r2,IsTup.new _ _⟩
end
end L2
namespace L2
open PySem PySem.Spec PyProof.Rows
def ixN (n:Nat) (i:Int):Option Nat:=if 0<=i then (if i < n then some i.toNat else none) else if -(n:Int)<=i then some (i + n).toNat else none
def atI {α:Type} (xs:List α) (i:Int):Option α:=(ixN xs.length i).bind fun j=>xs[j]?
theorem zcN (h:ixN n i=some j):seqIndex? i n=some j/\j < n/\-(n:Int)<=i/\i < n:=by
 unfold ixN at h
 by_cases h0:0<=i
 ·rw [if_pos h0] at h
  by_cases h1:i < n
  ·rw [if_pos h1] at h
   have e:i.toNat=j:=qf h
   exact ⟨by rw [seqIndex_of h0 h1,e],by lia,by lia,h1⟩
  ·rw [if_neg h1] at h; cases h
 ·rw [if_neg h0] at h
  by_cases h1:-(n:Int)<=i
  ·rw [if_pos h1] at h
   have e:(i + n).toNat=j:=qf h
   exact ⟨by rw [seqIndex_neg (by lia) h1,e],by lia,h1,by lia⟩
  ·rw [if_neg h1] at h; cases h
theorem zb6 (h:atI xs i=some v):∃ j,seqIndex? i xs.length=some j/\xs[j]?=some v/\j < xs.length/\-(xs.length:Int)<=i/\i < xs.length:=by
 unfold atI at h
 cases e:ixN xs.length i with
 | none=>rw [e] at h; cases h
 | some j=>
   rw [e] at h
   obtain ⟨h1,h2,h3,h4⟩:=zcN e
   exact ⟨j,h1,h,h2,h3,h4⟩
def PlainIx (b:Expr):Prop:=∀ o i,subscripted b false o i=operate [o,i] (getItem o i)
def IxR (X:Cx) (r:R2):Prop:=
 ∀ (value slice:Expr) (pins:List (Addr×Obj)) (s:Shared) (σ:St) (H:Hp) (x y:V) (v u:Value) (Q:VK),Inv X pins σ H s->RelV x v->RelV y u->r x y H Q->
   subscripted slice false v u=operate [v,u] (getItem v u)->wpAny (model X.prog X.w) X.A (subscriptTail value slice v u) (EP X pins σ Q) X.xe s
section
variable {X:Cx} {a b:Expr} {ta tb:TE} {pos:Pos}
theorem IxR.or (h:IxR X r) (h':IxR X r'):IxR X (fun x y H Q=>r x y H Q\/r' x y H Q):=by
 intro value slice pins s σ H x y v u Q I rx ry q hs
 rcases q with q | q
 ·exact h value slice pins s σ H x y v u Q I rx ry q hs
 ·exact h' value slice pins s σ H x y v u Q I rx ry q hs
theorem zha (hr:IxR X r) (ha:PE X a ta) (hb:PE X b tb) (hs:PlainIx b):PE X (.Subscript a b pos) (tOp r ta tb):=by
 intro pins s σ H Q I h
 exact Subscript_ (binT ha hb I h fun v u s2 x y H2 I2 rx ry q=>hr a b pins s2 σ H2 x y v u Q I2 rx ry q (hs _ _))
def rIxL (K:W.Frag):R2:=fun x y H Q=>∃ p xs i v,x=.ref p/\y=.int i/\SqL K H p xs/\atI xs i=some v/\Q v H
def rIxT (K:W.Frag):R2:=fun x y H Q=>∃ p xs i v,x=.ref p/\y=.int i/\SqT K H p xs/\atI xs i=some v/\Q v H
def rIxS:R2:=fun x y H Q=>∃ z i c,x=.str z/\y=.int i/\z.length<=sizeLine/\atI z.cps.toList i=some c/\Q (.str ⟨#[c]⟩) H
theorem zfi:IxR X (rIxL X.K):=by
 intro value slice pins s σ H x y v u Q I rx ry h hs
 obtain ⟨p,xs,i,z,rfl,rfl,hq,he,q⟩:=h
 cases rx
 obtain ⟨t,rfl⟩:=ry
 obtain ⟨its,r,pl,hz⟩:=I.list hq
 obtain ⟨j,h1,h2,h3,h4,h5⟩:=zb6 he
 obtain ⟨w,ew,rw'⟩:=r.get h2
 have hl:=r.length
 have hn:=line63
 have fin:EP X pins σ Q w s:=⟨z,H,I,rw',q⟩
 by_cases h0:0<=i
 ·have hj:i.toNat=j:=by
   rw [seqIndex_of h0 h5] at h1
   exact qf h1
  exact item_listR pl.isList h0 (by lia) (by rw [hj]; simpa using ew) fin hs
 ·have hj:(i + (its.toArray.size:Int)).toNat=j:=by
   rw [seqIndex_neg (by lia) h4] at h1
   rw [size_toArray,<- hl]
   exact qf h1
  exact subscriptTail_builtinR (x:=w) pl.isList.typeIs slot_list_getitem.lookup
   (wpAny_getItem_list_neg (Q:=fun r s'=>r=w/\EP X pins σ Q r s') pl.isList (by lia) (by rw [size_toArray] <;> lia) (by lia) (by rw [hj]; simpa using ew) ⟨rfl,fin⟩) hs
theorem zgi:IxR X (rIxT X.K):=by
 intro value slice pins s σ H x y v u Q I rx ry h hs
 obtain ⟨p,xs,i,z,rfl,rfl,hq,he,q⟩:=h
 cases rx
 obtain ⟨t,rfl⟩:=ry
 obtain ⟨its,r,pl,hz⟩:=I.tuple hq
 obtain ⟨j,h1,h2,h3,h4,h5⟩:=zb6 he
 obtain ⟨w,ew,rw'⟩:=r.get h2
 have hl:=r.length
 have hn:=line63
 have fin:EP X pins σ Q w s:=⟨z,H,I,rw',q⟩
 exact subscriptTail_builtinR (x:=w) pl.typeIs slot_tuple_getitem.lookup
  (getItem_tuple (j:=j) (Q:=fun r s'=>r=w/\EP X pins σ Q r s') pl (by lia) (by lia) (by rw [size_toArray,<- hl]; exact h1) (by simpa using ew) ⟨rfl,fin⟩) hs
theorem zgc:IxR X rIxS:=by
 intro value slice pins s σ H x y v u Q I rx ry h hs
 obtain ⟨z,i,c,rfl,rfl,hz,he,q⟩:=h
 obtain ⟨t,rfl⟩:=rx
 obtain ⟨t',rfl⟩:=ry
 obtain ⟨j,h1,h2,h3,h4,h5⟩:=zb6 he
 have hl:z.cps.toList.length=z.length:=by simp [Str.length]
 rw [hl] at h1 h4 h5
 have hn:=line63
 exact tail_any (typeIs_str s z t) slot_str_getitem.lookup (getItem_str (c:=c) (by
  have e1:decide (i < -(2 ^ 63:Int))=false:=decide_eq_false (by lia)
  have e2:decide (i ≥ 2 ^ 63)=false:=decide_eq_false (by lia)
  rw [e1,e2,Bool.or_false]) (by rw [h1]; simpa using h2) ⟨.str ⟨#[c]⟩,H,I.tok _,⟨_,rfl⟩,q⟩) hs
def rIx (K:W.Frag):R2:=fun x y H Q=>rIxL K x y H Q\/rIxT K x y H Q\/rIxS x y H Q
theorem zgd:IxR X (rIx X.K):=zfi.or (zgi.or zgc)
theorem zcG (its:List Value) (n j:Nat) (u:Value):Obj.mapSeq (·.setIfInBounds j u) { cls:=.type "list",data:=.seq its.toArray n }={ cls:=.type "list",data:=.seq (its.set j u).toArray n }:=by
 simp [Obj.mapSeq]
theorem Inv.lst (I:Inv X pins σ H s) (h:H p=some (.lst xs)):
  ∃ (its:List Value) (n:Nat),Vals xs its/\s.heap.get? p=some { cls:=.type "list",data:=.seq its.toArray n }/\xs.length<=sizeLine:=by
 obtain ⟨z,its,n,r,e⟩:=I.hok p _ h
 exact ⟨its,n,r,e,z⟩
theorem Inv.lstUpd {its its':List Value} (I:Inv X pins σ H s) (h:H p=some (.lst xs))
  (ho:s.heap.get? p=some { cls:=.type "list",data:=.seq its.toArray n }) (hf:f { cls:=.type "list",data:=.seq its.toArray n }={ cls:=.type "list",data:=.seq its'.toArray n' }) (r:Vals ys its') (hz:ys.length<=sizeLine) (t:Nat):
  Inv X pins σ (upd H p (.lst ys)) { s with heap:=s.heap.update p f,toks:=t }:=by
 have e:(s.heap.update p f).get? p=some { cls:=.type "list",data:=.seq its'.toArray n' }:=by
  rw [Heap.get?_update_self f ho (by rw [hf] <;> rfl),hf]
 refine I.write (x:=p) (e:=p) (by rw [h]; trivial) (.inl rfl) (fun b u hb q=>(Heap.get?_update_other _ _ (Ne.symm hb)).trans q) ⟨_,e⟩ ?_
 exact ⟨hz,its',n',r,e⟩
def rSetL:V->V->V->Hp->(Hp->Prop)->Prop:=fun o i v H Q=>∃ p xs k j,o=.ref p/\i=.int k/\H p=some (.lst xs)/\ixN xs.length k=some j/\Q (upd H p (.lst (xs.set j v)))
theorem zdC:PSet X rSetL:=by
 intro pins s σ H o i v ov iv u Q I ro ri rv h
 obtain ⟨p,xs,k,j,rfl,rfl,hp,hj,q⟩:=h
 cases ro
 obtain ⟨t,rfl⟩:=ri
 obtain ⟨its,n,r,ho,hz⟩:=I.lst hp
 obtain ⟨h1,h2,h3,h4⟩:=zcN hj
 have hl:=r.length
 have hn:=line63
 have I':Inv X pins σ (upd H p (.lst (xs.set j v))) { s with heap:=s.heap.update p (Obj.mapSeq (·.setIfInBounds j u)) }:=
  I.lstUpd hp ho (zcG its n j u) (r.set rv j) (by rw [List.length_set]; exact hz) s.toks
 by_cases h0:0<=k
 ·have hk:k.toNat=j:=by
   rw [seqIndex_of h0 h4] at h1
   exact qf h1
  exact W.ki_setAt ho h0 (by lia) (by rw [size_toArray,<- hl]; exact h4) (by rw [hk]; exact ⟨_,I',q⟩)
 ·have hk:(k + (its.toArray.size:Int)).toNat=j:=by
   rw [seqIndex_neg (by lia) h3] at h1
   rw [size_toArray,<- hl]
   exact qf h1
  exact W.ki_setBack ho (by lia) (by rw [size_toArray,<- hl]; exact h3) (by lia) (by rw [hk]; exact ⟨_,I',q⟩)
theorem zbU:CallR X (.builtin "len") (fun xs H Q=>∃ p ys,xs=[.ref p]/\(SqL X.K H p ys\/SqT X.K H p ys)/\Q (.int ys.length) H):=by
 intro pins s σ H xs us Q I r h
 obtain ⟨p,ys,rfl,hq,q⟩:=h
 obtain ⟨u,rfl,rx⟩:=vals1 r
 cases rx
 have hn:=line63
 rcases hq with hq | hq
 ·obtain ⟨its,r',pl,hz⟩:=I.list hq
  have hlen:=r'.length
  exact Calls.call_len_list pl.isList (by simp only [size_toArray] <;> lia) ⟨.int ys.length,H,I.tok _,⟨s.toks + 1,by rw [size_toArray,hlen]⟩,q⟩
 ·obtain ⟨its,r',pl,hz⟩:=I.tuple hq
  have hlen:=r'.length
  exact len_tuple pl (by simp only [size_toArray] <;> lia) ⟨.int ys.length,H,I.tok _,⟨s.toks + 1,by rw [size_toArray,hlen]⟩,q⟩
theorem zbO:CallR X (.builtin "len") (fun xs H Q=>∃ z,xs=[.str z]/\z.length<=sizeLine/\Q (.int z.length) H):=by
 intro pins s σ H xs us Q I r h
 obtain ⟨z,rfl,hz,q⟩:=h
 obtain ⟨u,rfl,t,rfl⟩:=vals1 r
 have hn:=line63
 exact len_str (by lia) ⟨.int z.length,H,I.tok _,⟨_,rfl⟩,q⟩
variable {o e:Expr} {es:List Expr} {to:TE} {t:TA} {name:Str} {apos cpos:Pos} {T id:String} {r:V->List V->Hp->VK->Prop}
end
end L2
namespace L2
open PySem PySem.Spec PyProof.Rows
def MtM (X:Cx) (id:String) (r:V->List V->Hp->VK->Prop):Prop:=
 ∀ (pins:List (Addr×Obj)) (s:Shared) (σ:St) (H:Hp) (x:V) (xs:List V) (v:Value) (us:List Value) (Q:VK),Inv X pins σ H s->RelV x v->Vals xs us->r x xs H Q->
   wpAny (model X.prog X.w) X.A (call (.builtin id) (v::us)) (EP X pins σ Q) X.xe s
theorem Vals.one:∀ {x:V} {us:List Value},Vals [x] us->∃ u,us=[u]/\RelV x u:=by
 intro x us h
 cases h with
 | cons r t=>cases t; exact ⟨_,rfl,r⟩
section
variable {X:Cx} {pins:List (Addr×Obj)} {σ:St} {H:Hp} {s:Shared} {l b:Addr} {xs ys zs:List V}
theorem Inv.lset {its its':List Value} (I:Inv X pins σ H s) (hH:H l=some (.lst xs))
  (e:s.heap.get? l=some { cls:=.type "list",data:=.seq its.toArray n }) (hf:f its.toArray=its'.toArray) (hv:Vals ys its') (hz:ys.length<=sizeLine):
  Inv X pins σ (upd H l (.lst ys)) { s with heap:=s.heap.update l (Obj.mapSeq f),toks:=t' }:=by
 have q:=PySem.IsL.update e f
 rw [hf] at q
 refine I.write (x:=l) (e:=l) (by rw [hH]; exact trivial) (.inl rfl) (fun b' u hb hu=>(Heap.get?_update_other s.heap (Obj.mapSeq f) (Ne.symm hb)).trans hu) ⟨_,q⟩ ?_
 exact ⟨hz,its',_,hv,q⟩
theorem Inv.lnew (I:Inv X pins σ H s) (hv:Vals ys its) (hz:ys.length<=sizeLine):
  Inv X pins σ (upd H s.heap.objs.size (.lst ys)) { s with heap:=s.heap.push { cls:=.type "list",data:=.seq its.toArray },toks:=t' }:=
 I.laid (fun _ _ q=>qc _ q) (le_refl _) ⟨hz,its,0,hv,qd _ rfl⟩
theorem Inv.fresh (I:Inv X pins σ H s):H s.heap.objs.size=none:=I.hok.fresh (le_refl _)
theorem Inv.lstM (I:Inv X pins σ H s) (hH:H l=some (.lst xs)):xs.length<=sizeLine/\∃ (its:List Value) (n:Nat),Vals xs its/\xs.length=its.length/\s.heap.get? l=some { cls:=.type "list",data:=.seq its.toArray n }:=by
 obtain ⟨z,its,n,r,e⟩:=I.hok l _ hH
 exact ⟨z,its,n,r,r.length,e⟩
end
section
variable {X:Cx}
def rAppend:V->List V->Hp->VK->Prop:=fun x vs H Q=>∃ l xs y,x=.ref l/\vs=[y]/\H l=some (.lst xs)/\xs.length < sizeLine/\Q .non (upd H l (.lst (xs++[y])))
theorem zdn:MtM X "list.append" rAppend:=by
 intro pins s σ H x vs v us Q I rx rv h
 obtain ⟨l,xs,y,rfl,rfl,hH,hz,q⟩:=h
 cases rx
 obtain ⟨u,rfl,ru⟩:=rv.one
 obtain ⟨z,its,n,r,hl,e⟩:=I.lstM hH
 refine call_meets F.slot_list_append ⟨_,e,rfl⟩ F.entry_list_append (F.args_list_append_2 _ _) (PySem.list_append l its.toArray n u (by rw [size_toArray]; lia)) ⟨e,?_⟩
 refine ⟨.non,_,I.lset (its':=its++[u]) hH e (by simp) (r.append (.cons ru .nil)) ?_,rfl,q⟩
 rw [length_append,List.length_singleton]
 lia
end
end L2
end
section
namespace Att
open PySem PySem.W PySem.Calls PyProof.Rows
theorem zbl:∀ (ns:List Int) (vs:List Value),WellAll P h vs (ns.map WData.int)->IntsAre vs ns:=by
 intro ns
 induction ns with
 | nil=>
   intro vs w
   rw [map_nil] at w
   cases w
   exact .nil
 | cons n ns ih=>
   intro vs w
   rw [map_cons] at w
   cases w with
   | cons a b=>
     cases a
     exact .cons _ _ (ih _ b)
theorem zdt {l:OpenLaw} (hn:l.most=some n)
  (hpre:l.row.toRowW.claim.pre args=true) (hwl:WellAll P h vals args):
  ∃ a vs ns,vals=[Value.ref a]/\args=[WData.list (ns.map WData.int)]/\h.get? a=some { cls:=.type "list",data:=.seq vs.toArray }/\IntsAre vs ns/\ns.length<=n:=by
 have hsh:WShape.hasAll [] args [.list .int]=true:=(pre_splitW hpre).1
 have hc:l.pre.holds [] { args:=args }=true:=(pre_splitW hpre).2
 obtain ⟨d,r,rfl,h1,h2⟩:=hasAllW_cons hsh
 obtain rfl:=hasAllW_nil h2
 obtain ⟨xs,rfl,h3⟩:=hasW_list h1
 obtain ⟨ns,rfl⟩:=items_int h3
 have hlen:ns.length<=n:=by
  unfold OpenLaw.pre at hc
  have h4:(WTm.not (.lt (.lit (.int (n:Int))) (.len (.arg 0)))).holds [] { args:=[.list (ns.map .int)] }=true:=by
   have h4:=(holds_andW hc).1
   rw [hn] at h4
   exact h4
  have h5:=condW_of h4 (w_not (w_lt w_lit (w_len_list (w_arg rfl))))
  grind
 cases hwl with
 | cons w1 w2=>
   cases w2
   cases w1 with
   | list ho hall=>exact ⟨_,_,ns,rfl,rfl,ho,zbl ns _ hall,hlen⟩
theorem zcZ (l:OpenLaw) (args:List WData):l.row.toRowW.claim.post args (.bool true) args=true:=
 postW_of (r:=l.row.toRowW) (X:=(true == true))
  (show WShape.has [] (.bool true) .bool=true by first | rfl | decide | simp [WShape.has,WShape.arms,WShape.armsAll])
  (show (WTm.eq .res (.lit (.bool true))).value [] { args:=args,res:=some (.bool true),after:=args }=some (.bool (true == true)) from w_eq_bool (w_res rfl) w_lit) rfl
theorem attach_call {l:OpenLaw}
  (hn:l.most=some n) (hdf:d.params.defaults=[])
  (call:∀ (w:World) (s₀ s₁:Shared) (mg mb:Str->Option Value) (fa:Addr) (o:Obj) (pm cd doc:Value) (a:Addr) (vs:List Value) (ns:List Int),
   Ground q loose [] XP w s₀ mg mb s₁.heap->YP w s₁.heap->
   s₁.heap.get? fa=some o->o.data=.func (docDef d.name d.params d.body d.scope pm cd doc)->s₁.heap.CodeRec cd d.name->mg d.name=some (.ref fa)->
   s₁.heap.get? a=some { cls:=.type "list",data:=.seq vs.toArray }->IntsAre vs ns->ns.length<=n->s₁.gens=#[]->
   codeAny (model l.prog w) callerA (.call (.ref fa) ⟨[.ref a],[]⟩) (fun r s'=>r=.ok (.ret (.bool true))/\OldK s₁.heap s'.heap/\s'.os=s₁.os/\AllBare s'.gens) s₁):
  WalkO q loose XP YP l.row.toRowW d [] (fun f vs=>PySem.call f vs):=by
 intro w s₀ s₁ mg mb G Y fa o pm cd doc dV kV ho hd hcd hD hmg hg args vals as hpre hlay hrd hwl hlo
 obtain rfl:dV=.none:=Dflts.none hD hdf
 obtain rfl:kV=.none:=Dflts.noKw hD
 obtain ⟨a,vs,ns,rfl,rfl,hobj,hints,hlen⟩:=zdt hn hpre hwl
 refine enter_call (codeAny_mono (call w s₀ s₁ mg mb fa o pm cd doc a vs ns G Y ho (fd_plain hd) hcd hmg hobj hints hlen hg) fun r s' hq=>?_)
 obtain ⟨rfl,h2,h3,h4⟩:=hq
 exact ⟨.inl ⟨.bool true,.bool true,[],rfl,fun _=>rfl,.bool true,zcZ l _,fun _=>⟨List.Pairwise.nil,fun _ hm=>(nomatch hm)⟩⟩,h2,h3,h4⟩
end Att
namespace L2
open PySem PySem.Spec PyProof.Rows
theorem zaT:∀ {vs:List Value} {ns:List Int},IntsAre vs ns->Vals (ns.map V.int) vs
 | _,_,.nil=>.nil
 | _,_,.cons n t h=>.cons ⟨t,rfl⟩ (zaT h)
def Only (H:Hp):Prop:=∀ b,H b=none\/∃ o xs,H b=some (.frz o (.lst xs))
theorem zdU {K:W.Frag}
  (KX:K.In s₁.heap) (hns:s₁.heap.Ns mainGlobals mg) (hb:s₁.heap.Ns builtinsNs mb) (hbb:∀ x:Str,x≠"__name__"->mb x=bootBuiltins x) (hlim:s₁.heap.NoLimit) (hg:s₁.gens=#[])
  (ha:s₁.heap.get? a=some { cls:=.type "list",data:=.seq vs.toArray }) (hi:IntsAre vs ns) (hl:ns.length<=sizeLine) (hr:Room k callerA)
  (F:∀ base:Heap,K.In base->base.Ns mainGlobals mg->FnOk P w K mg base CX k fa fd [x] sp) (hbind:∀ (s:Shared) (u:Value),BindsTo s fd ⟨[u],[]⟩ [(x,u)])
  (hsp:∀ H:Hp,Only H->SqL K H a (ns.map V.int)->sp [.ref a] H (fun v _=>v=.bl true) fun _ _ _=>False)
  (hCX:∀ H e s',CX [] H s₁ (fun _ _ _=>False) e s'->False):
  codeAny (model P w) callerA (.call (.ref fa) ⟨[.ref a],[]⟩) (fun r s'=>r=.ok (.ret (.bool true))/\OldK s₁.heap s'.heap/\s'.os=s₁.os/\AllBare s'.gens) s₁:=by
 have rv:=zaT hi
 have lenV:=hi.length
 -- from an abstract heap in which nothing but the script may be tracked
 have core:∀ H:Hp,Only H->SqL K H a (ns.map V.int)->HOk P w H s₁.heap->(∀ b,H b≠none->b=a)->(H a≠none->K.lookup a=none)->
   codeAny (model P w) callerA (.call (.ref fa) ⟨[.ref a],[]⟩) (fun r s'=>r=.ok (.ret (.bool true))/\OldK s₁.heap s'.heap/\s'.os=s₁.os/\AllBare s'.gens) s₁:=by
  intro H hO hS hok hA hK
  have base_of:∀ {b:Addr} {o:Obj},s₁.heap.get? b=some o->H b=none->(hidT s₁.heap H).get? b=some o:=fun e n=>zem e n
  have noA:∀ {b:Addr} {o:Obj} {es:Array DictEntry} {ep:Nat},s₁.heap.get? b=some o->o.data=.dict es ep->H b=none:=fun {b o es ep} e d=>by
   cases q:H b with
   | none=>rfl
   | some u=>
     grind
  have nsK:∀ {b:Addr} {m:Str->Option Value},s₁.heap.Ns b m->(hidT s₁.heap H).Ns b m:=fun {b m} ⟨o,es,ep,e,d,r⟩=>⟨o,es,ep,base_of e (noA e d),d,r⟩
  have hKb:K.In (hidT s₁.heap H):=fun b o e=>base_of (KX b o e) (by
   cases q:H b with
   | none=>rfl
   | some u=>
     have e':b=a:=hA b (by rw [q]; simp)
     subst e'
     rw [hK (by rw [q]; simp)] at e; cases e)
  have hM:Mod K mg (hidT s₁.heap H):=⟨hKb,nsK hns,⟨mb,nsK hb,hbb⟩,let ⟨mc,h1,h2⟩:=hlim; ⟨mc,nsK h1,h2⟩⟩
  have e0:Env0 P w K mg (hidT s₁.heap H) callerA [] s₁ H:=⟨rfl,hM,fun b o e=>ze7 e,Nat.le_of_eq (zcT _ _),trivial,fun b hb=>absurd (show b∈([]:List Addr) from hb) (by simp),hok,.of_eq hg⟩
  refine codeAny_mono ((F _ hKb (nsK hns)).run callerA [] s₁ H ⟨[.ref a],[]⟩ [.ref a] [.ref a] _ _ hr e0 (hbind s₁ (.ref a)) (.cons rfl .nil) (hsp H hO hS)) fun r s' h=>?_
  cases r with
  | error e=>exact (hCX H e s' h).elim
  | ok fl=>
    cases fl with
    | next=>exact False.elim h
    | brk=>exact False.elim h
    | cont=>exact False.elim h
    | ret u=>
      obtain ⟨v,H',os,bare,un,hok',r',q⟩:=h
      have q':v=.bl true:=q
      subst q'
      obtain rfl:u=Value.bool true:=r'
      refine ⟨rfl,OldK.of_keep fun b o e=>?_,os,bare⟩
      cases q:H b with
      | none=>exact un.keep b o e q (by intro z; exact absurd (show b∈([]:List Addr) from z) (by simp)) (by simp)
      | some u=>
        rcases hO b with z | ⟨ob,xs,z⟩
        ·rw [q] at z; cases z
        ·have z2:=un.frzs b ob _ z
         obtain ⟨e1,_⟩:=hok b _ z
         obtain ⟨e2,_⟩:=hok' b _ z2
         rw [e] at e1; cases e1
         exact e2
 cases hk:K.lookup a with
 | some o=>
   -- the script is one of the module's own objects
   have e:=KX a o hk
   rw [ha] at e
   cases e
   refine core (fun _=>none) (fun _=>.inl rfl) (.inr ⟨_,vs.toArray,_,hk,rfl,rfl,rfl,by rw [size_toArray,lenV]; exact hl,by simpa using rv⟩) (fun b u z=>by have z':(none:Option HO)=some u:=z; cases z') (fun b z=>absurd rfl z) fun z=>absurd rfl z
 | none=>
   refine core (fun b=>if b=a then some (.frz { cls:=.type "list",data:=.seq vs.toArray } (.lst (ns.map V.int))) else none) (fun b=>?_) (.inl (.inr ⟨{ cls:=.type "list",data:=.seq vs.toArray },if_pos rfl⟩)) (fun b u z=>?_) (fun b z=>?_) fun _=>hk
   ·grind
   ·by_cases hb:b=a
    ·have z':=(if_pos hb).symm.trans z
     cases z'
     subst hb
     exact ⟨ha,by rw [length_map]; exact hl,vs,_,rv,ha⟩
    ·have z':=(if_neg hb).symm.trans z
     cases z'
   grind
end L2
namespace L2
open PySem PySem.Spec PyProof.Rows
theorem walk_of {l:W.OpenLaw} {K:Params->W.Frag} {CX:World->CXT} {sp:World->Sp}
  (hn:l.most=some n) (hn2:n<=sizeLine) (hdf:d.params.defaults=[]) (hr:Room k callerA)
  (hY:∀ (w:World) (h:Heap),YP w h->(K w.params).In h)
  (F:∀ (w:World) (mg:Str->Option Value) (fa:Addr) (h:Heap),(K w.params).In h->h.Ns mainGlobals mg->mg d.name=some (.ref fa)->
   ∃ fd:FuncData,(∀ (s:Shared) (u:Value),BindsTo s fd ⟨[u],[]⟩ [(x,u)])/\
     ∀ base:Heap,(K w.params).In base->base.Ns mainGlobals mg->FnOk l.prog w (K w.params) mg base (CX w) k fa fd [x] (sp w))
  (hsp:∀ (w:World) (H:Hp) (a:Addr) (ns:List Int),ns.length<=n->Only H->SqL (K w.params) H a (ns.map V.int)->sp w [.ref a] H (fun v _=>v=.bl true) fun _ _ _=>False)
  (hCX:∀ (w:World) (H:Hp) (s:Shared) (e:Value) (s':Shared),CX w [] H s (fun _ _ _=>False) e s'->False):
  W.WalkO q loose XP YP l.row.toRowW d [] (fun f vs=>PySem.call f vs):=by
 refine Att.attach_call hn hdf fun w s₀ s₁ mg mb fa o pm cd doc a vs ns G Y ho hd hcd hmg hobj hints hlen hg=>?_
 have KX:=hY w _ Y
 obtain ⟨fd,hb,hF⟩:=F w mg fa _ KX G.T.g hmg
 exact zdU KX G.T.g G.T.b G.T.builtins G.T.nolimit hg hobj hints (le_trans hlen hn2) hr hF hb (fun H hO hS=>hsp w H a ns hlen hO hS) fun H e s'=>hCX w H s₁ e s'
end L2
namespace L2
open PySem PySem.Spec PyProof.Rows
def defArgs (s:Stmt):Arguments:=match s with
 | .FunctionDef _ a _ _ _ _ _ _ _ _=>a
 | _=>{ posonlyargs:=[],args:=[],vararg:=none,kwonlyargs:=[],kw_defaults:=[],kwarg:=none,defaults:=[] }
def defBody (s:Stmt):List Stmt:=match s with
 | .FunctionDef _ _ b _ _ _ _ _ _ _=>b
 | _=>[]
def defScope (s:Stmt):Scope:=match s with
 | .FunctionDef _ _ _ _ _ _ sc _ _ _=>sc
 | _=>{ kind:=.function,names:=[],isGenerator:=false,isCoroutine:=false }
structure Fun (K:W.Frag) (x qual:Str) (st:Stmt) (f:Addr) (fd:FuncData):Prop where
 ex:∃ (oc:Value) (od:Option Addr) (kV doc pm:Value) (an:Option Addr) (cdv ct:Value) (osl:Array (Option Value)),
  fd=W.fnOf x qual (defArgs st) (defBody st) (defScope st) .none kV doc pm an cdv ct/\K.lookup f=some ⟨oc,od,.func fd,osl⟩/\W.codeIn K cdv qual=true
 kp:W.keepIn K (.ref f)=true
section
variable {P:Program} {w:World} {K:W.Frag} {mg:Str->Option Value} {base:Heap}
theorem Fun.binds {st:Stmt} (F:Fun K x qual st f fd)
  (h:∀ (kV doc pm:Value) (an:Option Addr) (cdv ct:Value) (us:List Value),us.length=ps.length->bindArgs (W.fnOf x qual (defArgs st) (defBody st) (defScope st) .none kV doc pm an cdv ct) ⟨us,[]⟩=pure (ps.zip us)):Binds K fd ps []:=by
 obtain ⟨oc,od,kV,doc,pm,an,cdv,ct,osl,rfl,lk,hcd⟩:=F.ex
 exact .all (h kV doc pm an cdv ct)
theorem zeH {st:Stmt} {kV doc pm cdv ct:Value} (l:K.lookup f=some ⟨oc,od,.func (W.fnOf x qual (defArgs st) (defBody st) (defScope st) .none kV doc pm an cdv ct),osl⟩)
  (c:W.codeIn K cdv qual=true) (k:W.keepIn K (.ref f)=true):Fun K x qual st f (W.fnOf x qual (defArgs st) (defBody st) (defScope st) .none kV doc pm an cdv ct):=⟨⟨oc,od,kV,doc,pm,an,cdv,ct,osl,rfl,l,c⟩,k⟩
end
def Same (H H':Hp):Prop:=∀ b o,H b=some o->H' b=some o
theorem Same.refl (H:Hp):Same H H:=fun _ _ h=>h
theorem Same.trans (a:Same H H1) (b:Same H1 H2):Same H H2:=fun c o h=>b c o (a c o h)
end L2
end
section
namespace L2
open PySem PySem.Spec PyProof.Rows
section
variable {M:Model} {A:Around} {E:Value->Shared->Prop} {s:Shared}
structure Left (fs:List Addr) (e:Addr) (cls:Value) (dx:Option Addr) (a0:Option Value) (T:Addr) (h h':Heap):Prop where
 new:h.objs.size<=T
 keep:∀ b o,b∉fs->b≠e->h.get? b=some o->h'.get? b=some o
 slot:∀ b o,b∈fs->b≠e->h.get? b=some o->∃ sl,h'.get? b=some { o with slots:=sl }
 rcd:∃ oe vs,h'.get? e=some oe/\oe.cls=cls/\oe.dict=dx/\oe.data=.fields vs/\vs[0]?=a0/\vs[1]?=some (.ref T)
 trc:∃ oT ts,h'.get? T=some oT/\oT.data=.fields ts/\ts[3]?=some .none
theorem Obj.dict_mapFields (o:Obj) (f:Array Value->Array Value):(o.mapFields f).dict=o.dict:=by
 unfold Obj.mapFields; split <;> rfl
theorem zbW {base:Heap} {env:Env} {outer:List Env} {L e:Addr} {oe:Obj} {vs:Array Value} {head:Value} {hadNext:Bool} {Q:Unit->Shared->Prop}
  (hfr:A.frames=some (env::outer)) (hl:s.heap.FunFrames base (env::outer)) (hf:env.frame=some L) (he:s.heap.get? e=some oe) (hd:oe.data=.fields vs) (hsz:1 < vs.size)
  (h:∀ h' T,Left (frs (env::outer)) e oe.cls oe.dict vs[0]? T s.heap h'->Q () { s with heap:=h' }):
  wpAny M A (do let a <- frameOf env; let pl <- entryPlaceOf L hadNext; let b <- EntryCells.newEntry head a .none (rawInt L) .none pl; setField (.ref e) 1 b) (fun _ s'=>wpAny M A (setFlight (.ref e) none) Q E s') E s:=by
 have hene:e∉frs (env::outer):=fun hm=>by
  obtain ⟨_,o,ho,hnf⟩:=hl.mem hm
  rw [he] at ho; injection ho with ho; subst ho; exact hnf vs hd
 refine qa (wpAny_frameOf_fun hfr hl hf fun h₁ hs₁=>?_)
 refine qa (wpAny_entryPlaceOf fun pl hpl=>?_)
 unfold EntryCells.newEntry newFields
 refine qa (wpAny_newObj_type ?_ (hpl.sizeOk5 _ _ _ _ _))
 have he₁:h₁.get? e=some oe:=(hs₁.2.1 e hene).trans he
 have he₂:=qc (h:=h₁) { cls:=.type "traceback",dict:=none,data:=.fields ([head,.ref L,.none,rawInt L,.none]++(if pl.isEmpty then List.replicate 6 Value.none else pl)).toArray } he₁
 refine wpAny_setField he₂ hd hsz ?_
 have hTe:h₁.objs.size≠e:=ne_of_gt (qe he₁)
 have hd₃:=Obj.data_mapFields hd (·.setIfInBounds 1 (Value.ref h₁.objs.size))
 have he₃:=Heap.get?_update_self (Obj.mapFields (·.setIfInBounds 1 (Value.ref h₁.objs.size))) he₂ (Obj.isFreed_of_fields hd₃)
 have hT₃:=(Heap.get?_update_other (h₁.push { cls:=.type "traceback",dict:=none,data:=.fields ([head,.ref L,.none,rawInt L,.none]++(if pl.isEmpty then List.replicate 6 Value.none else pl)).toArray })
  (Obj.mapFields (·.setIfInBounds 1 (Value.ref h₁.objs.size))) (Ne.symm hTe)).trans (qd h₁ rfl)
 unfold setFlight
 refine qa (wpAny_field he₃ hd₃ (x:=.ref h₁.objs.size) (by simp [hsz]) ?_)
 rw [if_pos (show (Value.ref h₁.objs.size !=Value.none)=true from by simp)]
 refine wpAny_setField hT₃ rfl (by simp only [size_toArray,length_append,length_cons,length_nil] <;> omega) (h _ h₁.objs.size ?_)
 have keep:∀ b o,b≠e->h₁.get? b=some o->
   (((h₁.push { cls:=.type "traceback",dict:=none,data:=.fields ([head,.ref L,.none,rawInt L,.none]++(if pl.isEmpty then List.replicate 6 Value.none else pl)).toArray }).update e (Obj.mapFields (·.setIfInBounds 1 (Value.ref h₁.objs.size)))).update h₁.objs.size
     (Obj.mapFields (·.setIfInBounds 3 ((none:Option Addr).elim Value.none fun f=>rawInt f)))).get? b=some o:=fun b o hbe hb=>by
  have hbT:h₁.objs.size≠b:=ne_of_gt (qe hb)
  rw [Heap.get?_update_other _ _ hbT,Heap.get?_update_other _ _ (Ne.symm hbe)]
  exact qc _ hb
 refine ⟨by rw [hs₁.1]; exact le_refl _,fun b o hb hbe q=>keep b o hbe ((hs₁.2.1 b hb).trans q),fun b o _ hbe q=>?_,?_,?_⟩
 ·obtain ⟨sl,hs⟩:=hs₁.2.2 b o q
  exact ⟨sl,keep b _ hbe hs⟩
 ·refine ⟨_,_,?_,Obj.cls_mapFields _ _,Obj.dict_mapFields _ _,hd₃,by rw [Array.getElem?_setIfInBounds_ne (by decide)],by simp [hsz]⟩
  rw [Heap.get?_update_other _ _ hTe]; exact he₃
 ·exact ⟨_,_,Heap.get?_update_self _ hT₃ (Obj.isFreed_of_fields (Obj.data_mapFields rfl _)),Obj.data_mapFields rfl _,by first | (simp; done) | (rcases hpl with rfl | ⟨_,_,_,_,_,_,_,rfl⟩ <;> simp)⟩
end
section
variable {P:Program} {w:World} {H:Hp} {h:Heap} {a:Addr} {o:HO}
theorem ObjOk.there (x:ObjOk P w H h a o):∃ u,h.get? a=some u:=by
 cases o with
 | lst xs=>obtain ⟨_,_,_,_,e⟩:=x; exact ⟨_,e⟩
 | tup xs=>obtain ⟨_,_,_,u,e,_⟩:=x; exact ⟨_,e⟩
 | dK kvs=>obtain ⟨_,_,_,_,o,_,_,e,_⟩:=x; exact ⟨_,e⟩
 | dT kvs=>obtain ⟨_,_,_,_,o,_,_,e,_⟩:=x; exact ⟨_,e⟩
 | set vs=>
   rcases x with ⟨_,⟨_,e⟩ | ⟨_,_,_,_,_,_,_,e,_⟩ | ⟨_,_,_,_,_,_,_,_,e,_⟩⟩
   ·exact ⟨_,e⟩
   ·exact ⟨_,e⟩
   ·exact ⟨_,e⟩
 | ins C dx fs=>obtain ⟨_,_,_,e,_⟩:=x; exact ⟨_,e⟩
 | own y=>exact x
 | xd fs=>obtain ⟨_,⟨_,_,_,e,_⟩,_⟩:=x; exact ⟨_,e⟩
 | rng lo hi=>obtain ⟨_,_,_,e⟩:=x; exact ⟨_,e⟩
 | frz ob u=>exact ⟨_,x.1⟩
 | tbl ps=>exact ⟨_,(show h.get? a=some _ from x)⟩
 | met f y=>exact ⟨_,(show h.get? a=some _ from x)⟩
 | ext φ=>exact x.2.1
end
def Fly (X:Cx) (pins:List (Addr×Obj)) (H:Hp) (h:Heap) (e:Addr) (cls:Value) (dx:Option Addr):Prop:=FpOk X pins H e/\∃ oe vs,h.get? e=some oe/\oe.cls=cls/\oe.dict=dx/\oe.data=.fields vs/\
 (vs[1]?=some .none\/∃ T oT ts,vs[1]?=some (.ref T)/\T≠e/\FpOk X pins H T/\h.get? T=some oT/\oT.data=.fields ts/\ts[3]?=some .none)
section
variable {X:Cx} {pins:List (Addr×Obj)} {σ:St} {H:Hp} {s:Shared} {E:Value->Shared->Prop} {e:Addr} {cls:Value} {dx:Option Addr}
theorem zby {ch:List Addr} {h':Heap} (I:Inv X pins σ H s) (hch:∀ b∈ch,FpOk X pins H b) (keep:∀ b o,b∉frs X.stack->b∉ch->s.heap.get? b=some o->h'.get? b=some o) (slot:∀ b o,b∈frs X.stack->b∉ch->s.heap.get? b=some o->∃ sl,h'.get? b=some { o with slots:=sl }):
  Inv X pins σ H { s with heap:=h' }:=by
 have hx:∀ b u,H b=some u->b∉frs X.stack/\b∉ch:=fun b u z=>⟨fun q=>(by rw [I.stkFree b q] at z; cases z),fun q=>(by rw [(hch b q).1] at z; cases z)⟩
 refine I.call (ch:=ch) (t':=s.toks) (d':=s.drawn) (g':=s.gens) ⟨fun b o q _ n1 n2=>keep b o n1 n2 q,fun b o q _ n1 n2=>slot b o n1 n2 q,fun _ _ _ z _=>z,fun b o q n=>?_,fun _ _ z=>z,fun _ _ _ z=>z,fun b ps z=>⟨#[],by rw [z]; simp⟩⟩ (fun a o q=>?_) I.bare fun b hb=>?_
 ·by_cases hb:b∈frs X.stack
  ·obtain ⟨sl,z⟩:=slot b o hb n q
   exact ⟨_,z⟩
  ·exact ⟨o,keep b o hb n q⟩
 ·refine (I.hok a o q).stay (fun b u hb z=>?_) (fun _ z=>z) fun _ _ z=>z
  rcases hb with rfl | hb
  ·exact keep _ _ (hx _ _ q).1 (hx _ _ q).2 z
  ·exact keep _ _ (hx _ _ hb).1 (hx _ _ hb).2 z
 ·obtain ⟨_,f1,_,f3,f4,f5⟩:=hch b hb
  exact ⟨f3,f1,f4,f5⟩
theorem zcq {Q:Unit->Shared->Prop} (hst:X.stack=X.env::X.outer) (hf:X.env.frame=some X.env.locals) (I:Inv X pins σ H s) (F:Fly X pins H s.heap e cls dx)
  (k:∀ h',Inv X pins σ H { s with heap:=h' }->Fly X pins H h' e cls dx->Q () { s with heap:=h' }):wpAny (model X.prog X.w) X.A (noteFrame (.ref e) X.env) (fun _ s'=>wpAny (model X.prog X.w) X.A (setFlight (.ref e) none) Q E s') E s:=by
 obtain ⟨fe,oe,vs,he,rfl,rfl,hd,ht⟩:=F
 have hfr:X.A.frames=some (X.env::X.outer):=hst ▸ I.ok.frames
 have hl:s.heap.FunFrames X.base (X.env::X.outer):=hst ▸ I.stack
 unfold noteFrame
 simp only [hf]
 rcases ht with h1 | ⟨T,oT,ts,h1,hTe,fT,hT,hdT,h3⟩
 ·refine qa (wpAny_field he hd h1 ?_)
  rw [if_neg (by decide)]
  refine zbW hfr hl hf he hd (Array.getElem?_eq_some_iff.mp h1).1 fun h' T' L=>?_
  rw [<- hst] at L
  have I':Inv X pins σ H { s with heap:=h' }:=zby (ch:=[e]) I (fun b hb=>by rw [mem_singleton.mp hb]; exact fe) (fun b o n1 n2 q=>L.keep b o n1 (fun z=>n2 (by simp [z])) q) fun b o n1 n2 q=>L.slot b o n1 (fun z=>n2 (by simp [z])) q
  obtain ⟨oe',vs',r1,r2,rd,r3,_,r5⟩:=L.rcd
  obtain ⟨oT,ts,t1,t2,t3⟩:=L.trc
  exact k h' I' ⟨fe,oe',vs',r1,r2,rd,r3,.inr ⟨T',oT,ts,r5,fun z=>absurd (qe he) (by have:=L.new; rw [z] at this; lia),I.fpOk L.new (I.hok.fresh L.new),t1,t2,t3⟩⟩
 ·refine qa (wpAny_field he hd h1 ?_)
  rw [if_pos (show (Value.ref T !=Value.none)=true from by simp)]
  refine qa (wpAny_field hT hdT h3 ?_)
  rw [if_neg (show ¬ ((Value.none == rawInt X.env.locals)=true) from by simp [rawInt])]
  refine qa (wpAny_setField hT hdT (Array.getElem?_eq_some_iff.mp h3).1 ?_)
  have other:∀ b,b≠T->(s.heap.update T (Obj.mapFields (·.setIfInBounds 3 Value.none))).get? b=s.heap.get? b:=fun b hb=>Heap.get?_update_other _ _ (Ne.symm hb)
  have noRecord:∀ b o,s.heap.get? b=some o->(∀ vs,o.data≠.fields vs)->b≠T:=fun b o hb hnf q=>by
   rw [q,hT] at hb; injection hb with hb; subst hb; exact hnf ts hdT
  refine zbW hfr (hl.of_keeps fun b o hb hnf=>⟨o,(other b (noRecord b o hb hnf)).trans hb,rfl⟩) hf ((other e (Ne.symm hTe)).trans he) hd (Array.getElem?_eq_some_iff.mp h1).1 fun h' T' L=>?_
  rw [<- hst] at L
  have hsz:(s.heap.update T (Obj.mapFields (·.setIfInBounds 3 Value.none))).objs.size=s.heap.objs.size:=Heap.size_update ..
  have I':Inv X pins σ H { s with heap:=h' }:=zby (ch:=[e,T]) I (fun b hb=>by
   rcases mem_cons.mp hb with rfl | hb
   ·exact fe
   ·rw [mem_singleton.mp hb]; exact fT) (fun b o n1 n2 q=>L.keep b o n1 (fun z=>n2 (by simp [z])) ((other b fun z=>n2 (by simp [z])).trans q)) fun b o n1 n2 q=>L.slot b o n1 (fun z=>n2 (by simp [z])) ((other b fun z=>n2 (by simp [z])).trans q)
  obtain ⟨oe',vs',r1,r2,rd,r3,_,r5⟩:=L.rcd
  obtain ⟨oT,ts,t1,t2,t3⟩:=L.trc
  have hn:s.heap.objs.size<=T':=hsz ▸ L.new
  exact k h' I' ⟨fe,oe',vs',r1,r2,rd,r3,.inr ⟨T',oT,ts,r5,fun z=>absurd (qe he) (by rw [z] at hn; lia),I.fpOk hn (I.hok.fresh hn),t1,t2,t3⟩⟩
theorem zdE {Q:Unit->Shared->Prop} (hst:X.stack=X.env::X.outer) (hf:X.env.frame=some X.env.locals) (I:Inv X pins σ H s) (F:Fly X pins H s.heap e cls dx)
  (k:∀ h',Inv X pins σ H { s with heap:=h' }->Fly X pins H h' e cls dx->Q () { s with heap:=h' }):wpAny (model X.prog X.w) X.A (leaving X.env (.ref e)) Q E s:=by
 unfold leaving
 exact qa (zcq hst hf I F k)
theorem zcB {Q:Unit->Shared->Prop} (I:Inv X pins σ H s) (F:Fly X pins H s.heap e cls dx)
  (k:∀ h',Inv X pins σ H { s with heap:=h' }->Fly X pins H h' e cls dx->Q () { s with heap:=h' }):wpAny (model X.prog X.w) A (setFlight (.ref e) none) Q E s:=by
 obtain ⟨fe,oe,vs,he,rfl,rfl,hd,ht⟩:=F
 unfold setFlight
 rcases ht with h1 | ⟨T,oT,ts,h1,hTe,fT,hT,hdT,h3⟩
 ·refine qa (wpAny_field he hd h1 ?_)
  rw [if_neg (by decide)]
  exact qb (k s.heap I ⟨fe,oe,vs,he,rfl,rfl,hd,.inl h1⟩)
 ·refine qa (wpAny_field he hd h1 ?_)
  rw [if_pos (show (Value.ref T !=Value.none)=true from by simp)]
  have hsz:=(Array.getElem?_eq_some_iff.mp h3).1
  refine wpAny_setField hT hdT hsz ?_
  have other:∀ b,b≠T->(s.heap.update T (Obj.mapFields (·.setIfInBounds 3 ((none:Option Addr).elim Value.none fun f=>rawInt f)))).get? b=s.heap.get? b:=fun b hb=>Heap.get?_update_other _ _ (Ne.symm hb)
  refine k _ (zby (ch:=[T]) I (fun b hb=>by rw [mem_singleton.mp hb]; exact fT) (fun b o n1 n2 q=>(other b fun z=>n2 (by simp [z])).trans q) fun b o n1 n2 q=>⟨o.slots,(other b fun z=>n2 (by simp [z])).trans q⟩)
   ⟨fe,oe,vs,(other e (Ne.symm hTe)).trans he,rfl,rfl,hd,.inr ⟨T,_,_,h1,hTe,fT,Heap.get?_update_self _ hT (Obj.isFreed_of_fields (Obj.data_mapFields hdT _)),Obj.data_mapFields hdT _,by simp [hsz]⟩⟩
end
section
variable {X:Cx} {pins:List (Addr×Obj)} {σ:St} {H H':Hp} {s s':Shared} {e:Addr} {cls:Value} {dx:Option Addr}
theorem Inv.fpNew (I:Inv X pins σ H s) (hb:s.heap.get? b=none) (hn:H' b=none):FpOk X pins H' b:=by
 have no:∀ o,s.heap.get? b=some o->False:=fun o z=>by rw [hb] at z; cases z
 refine ⟨hn,fun z=>?_,fun z=>?_,?_,fun x c q z=>?_,fun p hp z=>?_⟩
 ·obtain ⟨m,⟨o,_,_,ho,_⟩,_⟩:=I.loc
  rw [<- z] at ho
  exact no o ho
 ·obtain ⟨_,o,ho,_⟩:=I.funs.mem z
  exact no o ho
 ·by_cases hx:b∈X.ex
  ·exact .inl hx
  ·refine .inr ?_
   cases q:X.s₀.heap.get? b with
   | none=>rfl
   | some o=>
     obtain ⟨o',z⟩:=I.base.there b o q hx
     exact (no o' z).elim
 ·obtain ⟨v,o,ho,_⟩:=I.cell x c q
  rw [z] at ho
  exact no o ho
 ·have:=(I.pin p hp).1
  rw [z] at this
  exact no _ this
theorem FpOk.few (f:FpOk X pins H b):FpOk X [] H b:=⟨f.1,f.2.1,f.2.2.1,f.2.2.2.1,f.2.2.2.2.1,fun p hp=>f.2.2.2.2.2 p (qj _ (by simpa using hp))⟩
theorem Fly.few (F:Fly X pins H h e cls dx):Fly X [] H h e cls dx:=by
 obtain ⟨f,oe,vs,h1,h2,hd,h3,h4⟩:=F
 refine ⟨f.few,oe,vs,h1,h2,hd,h3,h4.imp id ?_⟩
 rintro ⟨T,oT,ts,a1,a2,a3,a4⟩
 exact ⟨T,oT,ts,a1,a2,a3.few,a4⟩
theorem Inv.few (I:Inv X pins σ H s):Inv X [] σ H s:=I.pins_of fun p hp=>I.pin p (qj _ (by simpa using hp))
end
def CXe (P:Program) (w:World):CXT:=fun outer H s E e s'=>∃ a cls dx H',e=.ref a/\s'.os=s.os/\AllBare s'.gens/\Un (frs outer) [] H H' s.heap s'.heap/\HOk P w H' s'.heap/\E cls dx H'/\s.heap.get? a=none/\H' a=none/\
 ∃ oe vs,s'.heap.get? a=some oe/\oe.cls=cls/\oe.dict=dx/\oe.data=.fields vs/\(vs[1]?=some .none\/∃ T oT ts,vs[1]?=some (.ref T)/\T≠a/\s.heap.get? T=none/\H' T=none/\s'.heap.get? T=some oT/\oT.data=.fields ts/\ts[3]?=some .none)
section
variable {P:Program} {w:World} {K:W.Frag} {mg:Str->Option Value} {base:Heap} {N:List Str} {qual:Str} {scope:Scope} {f:Addr} {cd:Value} {A:Around} {outer:List Env} {s s':Shared} {H H':Hp} {E:XK} {σ:St} {e:Addr} {cls:Value} {dx:Option Addr}
theorem zd8 (I:Inv (cxOf (CXe P w) P w K mg base N qual scope f cd A outer s H E) [] σ H' s') (F:Fly (cxOf (CXe P w) P w K mg base N qual scope f cd A outer s H E) [] H' s'.heap e cls dx) (q:E cls dx H'):
  (cxOf (CXe P w) P w K mg base N qual scope f cd A outer s H E).xe (.ref e) s':=by
 refine zdE (X:=cxOf (CXe P w) P w K mg base N qual scope f cd A outer s H E) rfl rfl I F fun h' I' F'=>?_
 obtain ⟨fe,oe,vs,h1,h2,hd,h3,h4⟩:=F'
 have nw:∀ {b},FpOk (cxOf (CXe P w) P w K mg base N qual scope f cd A outer s H E) [] H' b->s.heap.get? b=none:=fun {b} z=>z.2.2.2.1.resolve_left fun z=>by cases z
 refine ⟨e,cls,dx,H',rfl,I'.os,I'.bare,I'.base,I'.hok,q,nw fe,fe.1,oe,vs,h1,h2,hd,h3,h4.imp id ?_⟩
 rintro ⟨T,oT,ts,a1,a2,a3,a4⟩
 exact ⟨T,oT,ts,a1,a2,nw a3,a3.1,a4⟩
end
section
variable {X:Cx} {pins:List (Addr×Obj)} {σ:St} {H:Hp} {s s':Shared} {E:XK} {u:Value}
theorem ze0 (I:Inv X pins σ H s) (h:CXe X.prog X.w X.stack H s E u s'):∃ a cls dx H',u=.ref a/\Inv X pins σ H' s'/\Fly X pins H' s'.heap a cls dx/\E cls dx H':=by
 obtain ⟨a,cls,dx,H',rfl,ho,hg,un,hok,q,n1,n2,oe,vs,h1,h2,hd,h3,h4⟩:=h
 refine ⟨a,cls,dx,H',rfl,I.call' ho un hok hg (fun b z=>absurd z (by simp)),⟨I.fpNew n1 n2,oe,vs,h1,h2,hd,h3,h4.imp id ?_⟩,q⟩
 rintro ⟨T,oT,ts,a1,a2,a3,a4,a5⟩
 exact ⟨T,oT,ts,a1,a2,I.fpNew a3 a4,a5⟩
def XW (X:Cx) (σ:St):XK:=fun cls dx H'=>∀ (a:Addr) (s':Shared),Inv X [] σ H' s'->Fly X [] H' s'.heap a cls dx->X.xe (.ref a) s'
def tCallX (X:Cx) (sp:Sp) (t:TA):TE:=fun σ H Q=>t σ H fun vs H1=>sp vs H1 Q (XW X σ)
variable {k:Nat} {f:Addr} {fd:FuncData} {ps:List Str} {sp:Sp} {x:Str} {p pos:Pos} {e:Expr} {es:List Expr} {t:TA}
theorem zd5 (F:FnOk X.prog X.w X.K X.mg X.base (CXe X.prog X.w) k f fd ps sp) (hr:Room k X.A) (hg:Gl X x) (hm:X.mg x=some (.ref f)) (hk:W.keepIn X.K (.ref f)=true) (hb:Binds X.K fd ps [])
  (ha:PA X (e::es) t) (hdb:(x == ("__debug__":Str))=false:=by decide) (he:starEach (e::es) X.env=(false,eval e X.env)::starEach es X.env:=by rfl) (hpl:(backTo pos (starEach es X.env)).any (·.1)=false:=by rfl):
  PE X (.Call (.Name x p) (e::es) [] pos) (tCallX X sp t):=by
 intro pins s σ H Q I h
 refine wpAny_Call_Name_kw (zbo I hg hm ?_ hdb)
 refine W.callWith_K (h₀:=X.base) I.ok.mod.kin hk (thn (ha pos pins s σ H _ I h) fun us s1 zq=>?_) he hpl
 obtain ⟨vs,H1,I1,r,q⟩:=zq
 refine ⟨I1.kIn,?_⟩
 have hl:(us++[]).length=ps.length:=by rw [append_nil,<- r.length]; exact F.len _ _ _ _ q
 refine wpAny_call (codeAny_mono (F.run X.A X.stack s1 H1 ⟨us,[]⟩ us vs Q (XW X σ) hr I1.env0 (by have:=hb s1 us I1.kIn hl; rwa [append_nil] at this) r q) fun r s' hq=>?_)
 cases r with
 | error e=>
   obtain ⟨a,cls,dx,H',rfl,I',F',q'⟩:=ze0 I1 hq
   exact q' a s' I'.few F'.few
 | ok fl=>
   cases fl with
   | ret u=>exact I1.after hq
   | next=>exact False.elim hq
   | brk=>exact False.elim hq
   | cont=>exact False.elim hq
variable {C:Addr} {bm:List Value} {B newId initId:String} {np cpos:Pos}
def tRaise (X:Cx) (C:Addr):TS:=fun _ σ H=>XW X σ (.ref C) none H
theorem zej (O:OwnCls x C bm newId X.mg X.base) (FB:ExcBaseFacts B newId initId bm) (hc:X.calm=true) (hg:Gl X x) (hd:(x == ("__debug__":Str))=false:=by decide):
  PS X (.Raise (some (.Call (.Name x np) [] [] cpos)) none pos) (tRaise X C):=by
 intro pins s σ H D I h
 obtain ⟨tl,N,nm,q,bs,hdct,sn,sub,ab,col,dd,k0,k1,k2,k3,k5,mN,hC,hN,hni,T⟩:=(O.keeps fun b o z=>(I.bs b o z).1).obj
 refine wpAny_Raise_call_subT (C:=C) (nm:=nm) (q:=q) (N:=N) (bs:=bs) (bm:=tl) (hdct:=hdct) (sn:=sn) (sub:=sub) (ab:=ab) (col:=col) (dd:=dd) (k0:=k0) (k1:=k1) (k2:=k2) (k3:=k3) (k5:=k5)
  FB (mN:=mN) (T.hasType FB.hasBase) (I.ok.hd hc) rfl hni (zbo I hg O.bound ⟨rfl,?_⟩ hd)
 refine evalArgs_empty ⟨rfl,zero_le _,hC,hN,T,fun h' e m=>?_⟩
 have I':Inv X pins σ H { s with heap:=h' }:=I.kept (t':=s.toks) m.keeps
 obtain ⟨t,he,_,_⟩:=m.there
 have hn:H e=none:=by
  cases z:H e with
  | none=>rfl
  | some o=>obtain ⟨v,z⟩:=ObjOk.there (I.hok e o z); rw [m.new] at z; cases z
 exact h e _ I'.few (Fly.few ⟨I.fpNew m.new hn,_,_,he,rfl,rfl,rfl,.inl rfl⟩)
end
section
variable {P:Program} {w:World} {K:W.Frag} {mg:Str->Option Value} {base:Heap}
theorem Fun.okX {st:Stmt} (F:Fun K x qual st f fd) (S:FnScope N ps (defScope st)) (len:∀ vs H Q E,sp vs H Q E->vs.length=ps.length)
  (hbody:∀ (cdv:Value) (A:Around) (outer:List Env) (s:Shared) (H:Hp) (vs:List V) (Q:VK) (E:XK),Room k (A.deeper (envOfC qual (defScope st) s.heap.objs.size f cdv))->sp vs H Q E->
   ∃ t,PSs (cxOf (CXe P w) P w K mg base N qual (defScope st) f cdv A outer s H E) (defBody st) t/\t { nx:=fun _ H'=>Q .non H',rt:=Q } (start N vs) H):FnOk P w K mg base (CXe P w) (k + 1) f fd ps sp:=by
 obtain ⟨oc,od,kV,doc,pm,an,cdv,ct,osl,rfl,lk,hcd⟩:=F.ex
 exact ziK lk hcd S len fun A outer s H vs Q E hr hsp=>hbody cdv A outer s H vs Q E hr hsp
end
end L2
end
section
namespace FL
open PySem
inductive D where
 | non
 | bl (b:Bool)
 | int (i:Int)
 | str (l:List Nat)
 | tup (l:List D)
 | lst (l:List D)
 | dct (t:Bool) (ks vs:List D)
 | set (l:List D)
 | exc (c:List Nat) (fs:List (List Nat)) (vs:List D)
 deriving Inhabited
inductive S where
 | sh (d:D)
 | lst (l:List S)
 | dct (t:Bool) (ks:List D) (vs:List S)
 | set (l:List D)
 deriving Inhabited
mutual
def S.toD:S->D
 | .sh d=>d
 | .lst l=>.lst (S.toDs l)
 | .dct t ks vs=>.dct t ks (S.toDs vs)
 | .set l=>.set l
def S.toDs:List S->List D
 | []=>[]
 | s::r=>S.toD s::S.toDs r
end
@[simp] theorem S.toDs_map:∀ l:List S,S.toDs l=l.map S.toD
  | []=>rfl
  | s::r=>by rw [S.toDs,S.toDs_map r,map_cons]
@[simp] theorem S.toD_sh (d:D):(S.sh d).toD=d:=rfl
@[simp] theorem S.toD_lst (l:List S):(S.lst l).toD=.lst (l.map S.toD):=by rw [<- S.toDs_map]; rfl
@[simp] theorem S.toD_dct (t:Bool) (ks:List D) (l:List S):(S.dct t ks l).toD=.dct t ks (l.map S.toD):=by rw [<- S.toDs_map]; rfl
@[simp] theorem S.toD_set (l:List D):(S.set l).toD=.set l:=rfl
def S.isSh:S->Bool
 | .sh _=>true
 | _=>false
def S.flat:S->Bool
 | .sh _=>true
 | .lst l=>l.all S.isSh
 | .dct _ _ vs=>vs.all S.isSh
 | .set _=>false
inductive R where
 | v (s:S)
 | loc (i:Nat)
abbrev Env:=List (Option S)
abbrev WQ:=R->Env->Prop
abbrev WX:=D->Env->Prop
def NX:WX:=fun _ _=>False
abbrev WE:=Env->WQ->WX->Prop
abbrev WT:=Env->(Bool->Env->Prop)->WX->Prop
abbrev WA:=Env->(List R->Env->Prop)->WX->Prop
structure Ends where
 nx:Env->Prop
 rt:WQ
 bk:Env->Prop
 ct:Env->Prop
 ex:WX
abbrev WS:=Ends->Env->Prop
def slot (U:Env) (i:Nat):Option S:=match U,i with
 | [],_=>none
 | s::_,0=>s
 | _::r,i + 1=>slot r i
@[simp] theorem zgy (s:Option S) (r:Env):slot (s::r) 0=s:=rfl
@[simp] theorem zgH (s:Option S) (r:Env) (i:Nat):slot (s::r) (i + 1)=slot r i:=rfl
def view (r:R) (U:Env):Option D:=match r with
 | .v s=>some s.toD
 | .loc i=>(slot U i).map S.toD
def viewC (r:R) (U:Env):Option D:=match r with
 | .v s=>some s.toD
 | .loc i=>match slot U i with
   | some s=>if s.flat then some s.toD else none
   | none=>none
def give (r:R) (U:Env):Option (S×Env):=match r with
 | .v s=>some (s,U)
 | .loc i=>match slot U i with
   | some s=>some (.sh s.toD,U.set i (some (.sh s.toD)))
   | none=>none
def giveAll:List R->Env->Option (List S×Env)
 | [],U=>some ([],U)
 | r::rs,U=>match give r U with
   | some (s,U1)=>match giveAll rs U1 with
     | some (ss,U2)=>some (s::ss,U2)
     | none=>none
   | none=>none
def ixN (n:Nat) (i:Int):Option Nat:=if 0<=i then (if i < n then some i.toNat else none) else if -(n:Int)<=i then some (i + n).toNat else none
def atI {α:Type} (xs:List α) (i:Int):Option α:=(ixN xs.length i).bind fun j=>xs[j]?
def big:Nat:=1000000
def need {α:Type} (o:Option α) (k:α->Prop):Prop:=match o with
 | some a=>k a
 | none=>False
@[simp] theorem zcQ {α:Type} (a:α) (k:α->Prop):need (some a) k=k a:=rfl
@[simp] theorem zfY {α:Type} (k:α->Prop):need (none:Option α) k=False:=rfl
@[simp] theorem zg9 {α:Type} {c:Prop} [Decidable c] (a:α) (k:α->Prop):need (if c then some a else none) k=(c/\k a):=by
  by_cases h:c <;> simp [h]
def wVar (i:Nat):WE:=fun U Q _=>match slot U i with
 | some (.sh d)=>Q (.v (.sh d)) U
 | some _=>Q (.loc i) U
 | none=>False
def wC (d:D):WE:=fun U Q _=>Q (.v (.sh d)) U
def wBin (op:D->D->Option S) (a b:WE):WE:=fun U Q E=>a U (fun x U1=>b U1 (fun y U2=>
 need (viewC x U2) fun p=>need (viewC y U2) fun q=>need (op p q) fun s=>Q (.v s) U2) E) E
def oAdd:D->D->Option S
 | .int i,.int j=>some (.sh (.int (i + j)))
 | .str x,.str y=>if x.length + y.length<=big then some (.sh (.str (x++y))) else none
 | .lst x,.lst y=>if x.length + y.length<=big then some (.lst ((x++y).map .sh)) else none
 | .tup x,.tup y=>if x.length + y.length<=big then some (.sh (.tup (x++y))) else none
 | _,_=>none
def oSub:D->D->Option S
 | .int i,.int j=>some (.sh (.int (i - j)))
 | _,_=>none
def mulOk (i j:Int):Bool:=(decide (-(2 ^ 64) < i) && decide (i < 2 ^ 64)) || (decide (-(2 ^ 64) < j) && decide (j < 2 ^ 64))
def oMul:D->D->Option S
 | .int i,.int j=>if mulOk i j then some (.sh (.int (i * j))) else none
 | _,_=>none
def oFdiv:D->D->Option S
 | .int i,.int j=>if 0 < j/\j < 18446744073709551616 then some (.sh (.int (i / j))) else none
 | _,_=>none
def oMod:D->D->Option S
 | .int i,.int j=>if 0 < j then some (.sh (.int (i % j))) else none
 | _,_=>none
def oPow:D->D->Option S
 | .int i,.int j=>if 0<=j/\j<=1000/\i.natAbs < 2 ^ 64 then some (.sh (.int (i ^ j.toNat))) else none
 | _,_=>none
mutual
def clash:D->D->Bool
 | .tup l,.tup m=>clashs l m
 | .lst l,.lst m=>clashs l m
 | .int _,.int _=>false
 | .int _,.str _=>false
 | .int _,.non=>false
 | .str _,.int _=>false
 | .str _,.str _=>false
 | .str _,.non=>false
 | .str _,.bl _=>false
 | .bl _,.bl _=>false
 | .bl _,.str _=>false
 | .bl _,.non=>false
 | .non,.int _=>false
 | .non,.str _=>false
 | .non,.bl _=>false
 | .non,.non=>false
 | _,_=>true
def clashs:List D->List D->Bool
 | a::l,b::m=>clash a b || clashs l m
 | _,_=>false
end
mutual
def dep:D->Nat
 | .tup l=>deps l + 1
 | .lst l=>deps l + 1
 | _=>0
def deps:List D->Nat
 | []=>0
 | a::l=>max (dep a) (deps l)
end
open Classical in
def cEq (a b:D):Option Bool:=if clash a b || decide (30 < dep a) then none else some (decide (a=b))
def cNe (a b:D):Option Bool:=(cEq a b).map (!·)
def ltD:D->D->Option Bool
 | .int i,.int j=>some (decide (i < j))
 | .str x,.str y=>some (decide (x < y))
 | _,_=>none
def cLt (a b:D):Option Bool:=ltD a b
def cGt (a b:D):Option Bool:=ltD b a
def cGe:D->D->Option Bool
 | .int i,.int j=>some (decide (j<=i))
 | .str x,.str y=>some (!decide (x < y))
 | _,_=>none
def truth:D->Option Bool
 | .non=>some false
 | .bl b=>some b
 | .int i=>some (decide (i≠0))
 | .str l=>some (!l.isEmpty)
 | .tup l=>some (!l.isEmpty)
 | .lst l=>some (!l.isEmpty)
 | _=>none
def wCmp (op:D->D->Option Bool) (a b:WE):WT:=fun U Q E=>a U (fun x U1=>b U1 (fun y U2=>
 need (view x U2) fun p=>need (view y U2) fun q=>need (op p q) fun c=>Q c U2) E) E
def wTest (a:WE):WT:=fun U Q E=>a U (fun x U1=>need (view x U1) fun p=>need (truth p) fun c=>Q c U1) E
def wtOr (a b:WT):WT:=fun U Q E=>a U (fun c U1=>if c then Q true U1 else b U1 Q E) E
def wtNot (a:WT):WT:=fun U Q E=>a U (fun c U1=>Q (!c) U1) E
def wOfT (t:WT):WE:=fun U Q E=>t U (fun c U1=>Q (.v (.sh (.bl c))) U1) E
def wNil:WA:=fun U Q _=>Q [] U
def wCons (a:WE) (b:WA):WA:=fun U Q E=>a U (fun r U1=>b U1 (fun rs U2=>Q (r::rs) U2) E) E
def wTup (a:WA):WE:=fun U Q E=>a U (fun rs U1=>need (if rs.length<=big then giveAll rs U1 else none) fun p=>Q (.v (.sh (.tup (p.1.map S.toD)))) p.2) E
def wLst (a:WA):WE:=fun U Q E=>a U (fun rs U1=>need (if rs.length<=big then giveAll rs U1 else none) fun p=>Q (.v (.lst p.1)) p.2) E
def ixS:S->D->Option S
 | .sh (.tup l),.int i=>(atI l i).map .sh
 | .sh (.lst l),.int i=>(atI l i).map .sh
 | .sh (.str l),.int i=>(atI l i).map fun c=>.sh (.str [c])
 | .lst l,.int i=>atI l i
 | _,_=>none
def wIx (a b:WE):WE:=fun U Q E=>a U (fun x U1=>b U1 (fun y U2=>need (view y U2) fun q=>match x with
 | .v s=>need (ixS s q) fun t=>Q (.v t) U2
 | .loc i=>match slot U2 i with
   | some s=>match ixS s q with
     | some (.sh d)=>Q (.v (.sh d)) U2
     | _=>False
   | none=>False) E) E
abbrev WF:=List S->(S->List S->Prop)->(D->List S->Prop)->Prop
def prep:List Bool->List R->Env->Option (List S×Env)
 | _,[],U=>some ([],U)
 | ms,.v s::rs,U=>match prep ms.tail rs U with
   | some (ss,U1)=>some (s::ss,U1)
   | none=>none
 | ms,.loc i::rs,U=>match slot U i with
   | some s=>if ms.headD false then (match prep ms.tail rs (U.set i none) with
     | some (ss,U1)=>some (s::ss,U1)
     | none=>none)
     else (match prep ms.tail rs (U.set i (some (.sh s.toD))) with
      | some (ss,U1)=>some (.sh s.toD::ss,U1)
      | none=>none)
   | none=>none
def back:List Bool->List R->List S->Env->Env
 | ms,.v _::rs,_::ss,U=>back ms.tail rs ss U
 | ms,.loc i::rs,s::ss,U=>if ms.headD false then back ms.tail rs ss (U.set i (some s)) else back ms.tail rs ss U
 | _,_,_,U=>U
def wCall (f:WF) (ms:List Bool) (a:WA):WE:=fun U Q E=>a U (fun rs U1=>need (prep ms rs U1) fun p=>
 f p.1 (fun s ss=>Q (.v s) (back ms rs ss p.2)) (fun x ss=>E x (back ms rs ss p.2))) E
def wB (f:List D->Option S) (a:WA):WE:=fun U Q E=>a U (fun rs U1=>need (rs.mapM fun r=>viewC r U1) fun ds=>need (f ds) fun s=>Q (.v s) U1) E
def bLen:List D->Option S
 | [.str l]=>some (.sh (.int l.length))
 | [.tup l]=>some (.sh (.int l.length))
 | [.lst l]=>some (.sh (.int l.length))
 | _=>none
def bInt:List D->Option S
 | [.int i]=>some (.sh (.int i))
 | [.bl b]=>some (.sh (.int (if b then 1 else 0)))
 | _=>none
def wPass:WS:=fun D U=>D.nx U
def wSeq (a b:WS):WS:=fun D U=>a { D with nx:=b D } U
def wIf (c:WT) (a b:WS):WS:=fun D U=>c U (fun k U1=>if k then a D U1 else b D U1) D.ex
def wRet (a:WE):WS:=fun D U=>a U D.rt D.ex
abbrev WG:=S->Env->(Env->Prop)->Prop
def gName (i:Nat):WG:=fun s U Q=>Q (U.set i (some s))
def gTups:List WG->List D->Env->(Env->Prop)->Prop
 | [],[],U,Q=>Q U
 | g::gs,d::ds,U,Q=>g (.sh d) U fun U1=>gTups gs ds U1 Q
 | _,_,_,_=>False
def gTup (gs:List WG):WG:=fun s U Q=>match s.toD with
 | .tup ds=>ds.length=gs.length/\gTups gs ds U Q
 | _=>False
def wSetIx (j:Nat) (i e:WE):WS:=fun D U=>e U (fun r U1=>wVar j U1 (fun x U2=>i U2 (fun y U3=>need (view y U3) fun q=>need (give r U3) fun p=>match x,q,slot p.2 j with
 | .loc k,.int n,some (.lst l)=>k=j/\need (ixN l.length n) fun m=>D.nx (p.2.set j (some (.lst (l.set m p.1))))
 | _,_,_=>False) D.ex) D.ex) D.ex
def wAsg (g:WG) (a:WE):WS:=fun D U=>a U (fun r U1=>need (give r U1) fun p=>g p.1 p.2 D.nx) D.ex
abbrev WI:=Env->(List D->Env->Prop)->WX->Prop
def items:D->Option (List D)
 | .lst l=>some l
 | .tup l=>some l
 | .str l=>some (l.map fun c=>.str [c])
 | _=>none
def wIter (a:WE):WI:=fun U Q E=>a U (fun r U1=>need (give r U1) fun p=>need (items p.1.toD) fun l=>Q l p.2) E
def fromTo (lo:Int) (n:Nat):List D:=(List.range n).map fun (k:Nat)=>.int (lo + (k:Int))
def wRange1 (a:WE):WI:=fun U Q E=>a U (fun r U1=>match view r U1 with
 | some (.int j)=>(-big<=j/\j<=big)/\Q (fromTo 0 j.toNat) U1
 | _=>False) E
def wLoop (g:WG) (body:WS):List D->WS
 | [],D,U=>D.nx U
 | x::xs,D,U=>g (.sh x) U fun U1=>body { D with nx:=wLoop g body xs D,ct:=wLoop g body xs D,bk:=D.nx } U1
def wFor (it:WI) (g:WG) (body:WS):WS:=fun D U=>it U (fun l U1=>wLoop g body l D U1) D.ex
abbrev WB:=Env->(Env->Prop)->WX->Prop
def wYes:WT:=fun U Q _=>Q true U
def bLoop (g:WG) (c:WT) (b:WB):List D->WB
 | [],U,Q,_=>Q U
 | x::xs,U,Q,E=>g (.sh x) U fun U1=>c U1 (fun k U2=>if k then b U2 (fun U3=>bLoop g c b xs U3 Q E) E else bLoop g c b xs U2 Q E) E
def bEmit (n:Nat) (a:WE):WB:=fun U Q E=>a U (fun r U1=>need (give r U1) fun p=>match slot p.2 n with
 | some (.lst l)=>l.length < big/\Q (p.2.set n (some (.lst (l++[p.1]))))
 | _=>False) E
def wLC (n k:Nat) (it:WI) (g:WG) (c:WT) (b:WB):WE:=fun U Q E=>it U (fun l U1=>
 bLoop g c b l (U1++some (.lst [])::List.replicate k none) (fun U2=>need (slot U2 n) fun s=>Q (.v s) (U2.take n)) NX) E
def finals:List S->Env->Option (List S)
 | [],_=>some []
 | .sh d::ss,_::U=>(finals ss U).map (.sh d::·)
 | _::ss,some s::U=>(finals ss U).map (s::·)
 | _,_=>none
def wFn (n m:Nat) (ks:List Nat) (body:WS):WF:=fun ss P PX=>ss.length=n/\(∀ i s,ss[i]?=some s->i∈ks\/s.isSh=true)/\
 body { nx:=fun U=>need (finals ss U) fun fs=>P (.sh .non) fs
        rt:=fun r U=>match r with
         | .v s=>need (finals ss U) fun fs=>P s fs
         | .loc i=>need (slot U i) fun s=>if i < n then need (finals ss (U.set i (some (.sh s.toD)))) fun fs=>P (.sh s.toD) fs else need (finals ss U) fun fs=>P s fs
        bk:=fun _=>False
        ct:=fun _=>False
        ex:=fun x U=>need (finals ss U) fun fs=>PX x fs } (ss.map some++List.replicate (m - n) none)
def wRaise (c:List Nat):WS:=fun D U=>D.ex (.exc c [] []) U
def kRz (c f:List Nat) (De:Ends) (U:Env):Option D->Prop
 | some (.int i)=>De.ex (.exc c [f] [.int i]) U
 | _=>False
def wRaise1 (c f:List Nat) (a:WE):WS:=fun D U=>a U (fun r U1=>kRz c f D U1 (view r U1)) D.ex
def xFld (kn:List (List Nat)) (f:List Nat):D->Option D
 | .exc c [g] [v]=>if kn.contains c && g == f then some v else none
 | _=>none
def wXFld (kn:List (List Nat)) (f:List Nat) (a:WE):WE:=fun U Q E=>a U (fun x U1=>need (view x U1) fun d=>need (xFld kn f d) fun v=>Q (.v (.sh v)) U1) E
def IsX (cs:List (List Nat)) (d:D):Prop:=∃ c∈cs,∃ fs vs,d=.exc c fs vs
def wTryAs (cs:List (List Nat)) (j:Nat) (wb ws:WS):WS:=fun D U=>wb { D with ex:=fun d U1=>IsX cs d/\ws { nx:=fun U2=>D.nx (U2.set j none),rt:=fun _ _=>False,bk:=fun _=>False,ct:=fun _=>False,ex:=NX } (U1.set j (some (.sh d))) } U
def tX (kn yes:List (List Nat)):D->Option Bool
 | .non=>some false
 | .exc c _ _=>if kn.contains c then some (yes.contains c) else none
 | _=>none
def wIsX (kn yes:List (List Nat)) (a:WE):WE:=fun U Q E=>a U (fun x U1=>need (view x U1) fun d=>need (tX kn yes d) fun b=>Q (.v (.sh (.bl b))) U1) E
end FL
end
section
namespace FL
open PySem L2
def keyD:Key->D
 | .inl i=>.int i
 | .inr x=>.str x.cps.toList
def excφ (a C:Addr) (dx:Option Addr) (h:Heap):Prop:=∃ o vs,h.get? a=some o/\o.cls=.ref C/\o.dict=dx/\o.data=.fields vs
def XDct (F:Hp) (dx:Option Addr) (fs:List (List Nat)) (vs:List D):Prop:=(dx=none/\fs=[]/\vs=[])\/∃ p f i,dx=some p/\fs=[f]/\vs=[.int i]/\F p=some (.xd [((⟨f.toArray⟩:Str),.int i)])
mutual
inductive Rep (K:W.Frag) (F:Hp):V->D->Prop
 | non:Rep K F .non .non
 | bl (b:Bool):Rep K F (.bl b) (.bl b)
 | int (i:Int):Rep K F (.int i) (.int i)
 | str {x:Str} {l:List Nat}:x.cps.toList=l->l.length<=16777216->Rep K F (.str x) (.str l)
 | tup {a:Addr} {xs:List V} {ds:List D}:F a=some (.tup xs)->Reps K F xs ds->Rep K F (.ref a) (.tup ds)
 | lst {a:Addr} {xs:List V} {ds:List D}:SqL K F a xs->Reps K F xs ds->Rep K F (.ref a) (.lst ds)
 | dK {a:Addr} {kvs:List (Key×V)} {ks vs:List D}:Rd F a (.dK kvs)->ks=kvs.map (fun p=>keyD p.1)->Reps K F (kvs.map (·.2)) vs->Rep K F (.ref a) (.dct false ks vs)
 | dT {a:Addr} {kvs:List (List Key×V)} {ks vs:List D}:Rd F a (.dT kvs)->ks=kvs.map (fun p=>D.tup (p.1.map keyD))->Reps K F (kvs.map (·.2)) vs->Rep K F (.ref a) (.dct true ks vs)
 | st {a:Addr} {xs:List V} {ds:List D}:F a=some (.set xs)->Reps K F xs ds->Rep K F (.ref a) (.set ds)
 | exc {a C:Addr} {dx:Option Addr} {c:List Nat} {fs:List (List Nat)} {vs:List D}:F a=some (.ext (excφ a C dx))->W.nsIn K mainGlobals (⟨c.toArray⟩:Str)=some (some (.ref C))->XDct F dx fs vs->Rep K F (.ref a) (.exc c fs vs)
inductive Reps (K:W.Frag) (F:Hp):List V->List D->Prop
 | nil:Reps K F [] []
 | cons {x:V} {d:D} {xs:List V} {ds:List D}:Rep K F x d->Reps K F xs ds->Reps K F (x::xs) (d::ds)
end
mutual
inductive SRep (K:W.Frag) (F H:Hp):V->S->List Addr->Prop
 | sh {v:V} {d:D}:Rep K F v d->SRep K F H v (.sh d) []
 | lst {a:Addr} {xs:List V} {l:List S} {fp:List Addr}:H a=some (.lst xs)->SReps K F H xs l fp->SRep K F H (.ref a) (.lst l) (a::fp)
 | dK {a:Addr} {kvs:List (Key×V)} {ks:List D} {l:List S} {fp:List Addr}:H a=some (.dK kvs)->ks=kvs.map (fun p=>keyD p.1)->SReps K F H (kvs.map (·.2)) l fp->SRep K F H (.ref a) (.dct false ks l) (a::fp)
 | dT {a:Addr} {kvs:List (List Key×V)} {ks:List D} {l:List S} {fp:List Addr}:H a=some (.dT kvs)->ks=kvs.map (fun p=>D.tup (p.1.map keyD))->SReps K F H (kvs.map (·.2)) l fp->SRep K F H (.ref a) (.dct true ks l) (a::fp)
 | st {a:Addr} {xs:List V} {ds:List D}:H a=some (.set xs)->Reps K F xs ds->SRep K F H (.ref a) (.set ds) [a]
inductive SReps (K:W.Frag) (F H:Hp):List V->List S->List Addr->Prop
 | nil:SReps K F H [] [] []
 | cons {x:V} {s:S} {xs:List V} {l:List S} {fp fq:List Addr}:SRep K F H x s fp->SReps K F H xs l fq->SReps K F H (x::xs) (s::l) (fp++fq)
end
section
variable {K:W.Frag} {F F' H H' G:Hp}
theorem Rd.mono (h:Same F F') (r:Rd F a u):Rd F' a u:=by
 rcases r with r | ⟨o,r⟩
 ·exact .inl (h _ _ r)
 ·exact .inr ⟨o,h _ _ r⟩
theorem SqL.mono (h:Same F F') (r:SqL K F a xs):SqL K F' a xs:=r.elim (fun r=>.inl (Rd.mono h r)) .inr
theorem SqT.mono (h:Same F F') (r:SqT K F a xs):SqT K F' a xs:=r.elim (fun r=>.inl (Rd.mono h r)) .inr
theorem Reps.ind {P:List V->List D->Prop} (hn:P [] []) (hc:∀ {x:V} {d:D} {xs:List V} {ds:List D},Rep K F x d->Reps K F xs ds->P xs ds->P (x::xs) (d::ds)) (r:Reps K F xs ds):P xs ds:=
 Reps.rec (motive_1:=fun _ _ _=>True) (motive_2:=fun xs ds _=>P xs ds) trivial (fun _=>trivial) (fun _=>trivial) (fun _ _=>trivial) (fun _ _ _=>trivial) (fun _ _ _=>trivial) (fun _ _ _ _=>trivial) (fun _ _ _ _=>trivial) (fun _ _ _=>trivial) (fun _ _ _=>trivial) hn (fun a b _ ih=>hc a b ih) r
theorem SReps.ind {P:List V->List S->List Addr->Prop} (hn:P [] [] []) (hc:∀ {x:V} {s:S} {xs:List V} {l:List S} {fp fq:List Addr},SRep K F H x s fp->SReps K F H xs l fq->P xs l fq->P (x::xs) (s::l) (fp++fq)) (r:SReps K F H xs l fp):P xs l fp:=
 SReps.rec (motive_1:=fun _ _ _ _=>True) (motive_2:=fun xs l fp _=>P xs l fp) (fun _=>trivial) (fun _ _ _=>trivial) (fun _ _ _ _=>trivial) (fun _ _ _ _=>trivial) (fun _ _=>trivial) hn (fun a b _ ih=>hc a b ih) r
theorem XDct.mono (h:Same F F') (x:XDct F dx fs vs):XDct F' dx fs vs:=x.imp id fun ⟨p,f,i,e1,e2,e3,e4⟩=>⟨p,f,i,e1,e2,e3,h _ _ e4⟩
theorem Rep.mono (h:Same F F') (r:Rep K F v d):Rep K F' v d:=
 Rep.rec (motive_1:=fun v d _=>Rep K F' v d) (motive_2:=fun v d _=>Reps K F' v d) .non .bl .int (fun e z=>.str e z) (fun e _ ih=>.tup (h _ _ e) ih) (fun e _ ih=>.lst (SqL.mono h e) ih) (fun e k _ ih=>.dK (Rd.mono h e) k ih) (fun e k _ ih=>.dT (Rd.mono h e) k ih) (fun e _ ih=>.st (h _ _ e) ih) (fun e k x=>.exc (h _ _ e) k (x.mono h)) .nil (fun _ _ a b=>.cons a b) r
theorem Reps.mono (h:Same F F') (r:Reps K F v d):Reps K F' v d:=Reps.ind .nil (fun a _ ih=>.cons (Rep.mono h a) ih) r
theorem SRep.mono (h:Same F F') (r:SRep K F H v s fp):(∀ a∈fp,H' a=H a)->SRep K F' H' v s fp:=
 SRep.rec (motive_1:=fun v s fp _=>(∀ a∈fp,H' a=H a)->SRep K F' H' v s fp) (motive_2:=fun v s fp _=>(∀ a∈fp,H' a=H a)->SReps K F' H' v s fp)
  (fun r _=>.sh (Rep.mono h r)) (fun e _ ih k=>.lst ((k _ ql).trans e) (ih fun a ha=>k a (qk _ ha)))
  (fun e q _ ih k=>.dK ((k _ ql).trans e) q (ih fun a ha=>k a (qk _ ha))) (fun e q _ ih k=>.dT ((k _ ql).trans e) q (ih fun a ha=>k a (qk _ ha)))
  (fun e r k=>.st ((k _ ql).trans e) (Reps.mono h r)) (fun _=>.nil) (fun _ _ a b k=>.cons (a fun c hc=>k c (qj _ hc)) (b fun c hc=>k c (qi _ hc))) r
theorem SReps.mono (h:Same F F') (r:SReps K F H v s fp):(∀ a∈fp,H' a=H a)->SReps K F' H' v s fp:=
 SReps.ind (P:=fun v s fp=>(∀ a∈fp,H' a=H a)->SReps K F' H' v s fp) (fun _=>.nil) (fun a _ b k=>.cons (SRep.mono h a fun c hc=>k c (qj _ hc)) (b fun c hc=>k c (qi _ hc))) r
theorem SRep.frz (h:Same F F') (r:SRep K F H v s fp):(∀ a∈fp,F' a=H a)->Rep K F' v s.toD:=
 SRep.rec (motive_1:=fun v s fp _=>(∀ a∈fp,F' a=H a)->Rep K F' v s.toD) (motive_2:=fun v s fp _=>(∀ a∈fp,F' a=H a)->Reps K F' v (S.toDs s))
  (fun r _=>Rep.mono h r) (fun e _ ih k=>.lst (SqL.of ((k _ ql).trans e)) (ih fun a ha=>k a (qk _ ha)))
  (fun e q _ ih k=>.dK (.of ((k _ ql).trans e)) q (ih fun a ha=>k a (qk _ ha))) (fun e q _ ih k=>.dT (.of ((k _ ql).trans e)) q (ih fun a ha=>k a (qk _ ha)))
  (fun e r k=>.st ((k _ ql).trans e) (Reps.mono h r)) (fun _=>.nil) (fun _ _ a b k=>.cons (a fun c hc=>k c (qj _ hc)) (b fun c hc=>k c (qi _ hc))) r
theorem SReps.frz (h:Same F F') (r:SReps K F H v s fp):(∀ a∈fp,F' a=H a)->Reps K F' v (S.toDs s):=
 SReps.ind (P:=fun v s fp=>(∀ a∈fp,F' a=H a)->Reps K F' v (S.toDs s)) (fun _=>.nil) (fun a _ b k=>.cons (SRep.frz h a fun c hc=>k c (qj _ hc)) (b fun c hc=>k c (qi _ hc))) r
theorem SRep.view (h:Same F H) (r:SRep K F H v s fp):Rep K H v s.toD:=SRep.frz h r fun _ _=>rfl
theorem SRep.in_:∀ {v:V} {s:S} {fp:List Addr},SRep K F H v s fp->∀ a∈fp,∃ o,H a=some o:=by
 intro v s fp r
 refine SRep.rec (motive_1:=fun v s fp _=>∀ a∈fp,∃ o,H a=some o) (motive_2:=fun v s fp _=>∀ a∈fp,∃ o,H a=some o) ?_ ?_ ?_ ?_ ?_ ?_ ?_ r
 ·intro v d r a ha; cases ha
 ·grind
 ·grind
 ·grind
 ·grind
 ·intro a ha; cases ha
 grind
end
inductive EnvRep (K:W.Frag) (F H:Hp):Env->St->List Addr->Prop
 | nil:EnvRep K F H [] [] []
 | no {U:Env} {σ:St} {o:Option V} {fp:List Addr}:EnvRep K F H U σ fp->EnvRep K F H (none::U) (o::σ) fp
 | so {U:Env} {σ:St} {v:V} {s:S} {fp fq:List Addr}:SRep K F H v s fp->EnvRep K F H U σ fq->EnvRep K F H (some s::U) (some v::σ) (fp++fq)
section
variable {K:W.Frag} {F F' H H' G G':Hp}
theorem EnvRep.len (r:EnvRep K F H U σ fp):U.length=σ.length:=by
 induction r with
 | nil=>rfl
 | no _ ih=>exact congrArg (· + 1) ih
 | so _ _ ih=>exact congrArg (· + 1) ih
theorem EnvRep.mono (h:Same F F') (r:EnvRep K F H U σ fp) (k:∀ a∈fp,H' a=H a):EnvRep K F' H' U σ fp:=by
 induction r with
 | nil=>exact .nil
 | no _ ih=>exact .no (ih k)
 | so a _ ih=>exact .so (SRep.mono h a fun c hc=>k c (qj _ hc)) (ih fun c hc=>k c (qi _ hc))
theorem EnvRep.in_ (r:EnvRep K F H U σ fp):∀ a∈fp,∃ o,H a=some o:=by
 induction r with
 | nil=>exact fun a ha=>nomatch ha
 | no _ ih=>exact ih
 | so q _ ih=>exact fun a ha=>(mem_append.mp ha).elim (fun z=>SRep.in_ q a z) fun z=>ih a z
theorem EnvRep.app (r:EnvRep K F H U σ fp) (r':EnvRep K F H U' σ' fq):EnvRep K F H (U++U') (σ++σ') (fp++fq):=by
 induction r with
 | nil=>exact r'
 | no _ ih=>exact .no ih
 | so a _ ih=>rw [append_assoc]; exact .so a ih
theorem EnvRep.cut (e:U.length=σ.length) (r:EnvRep K F H (U++U') (σ++σ') fp):∃ f1 f2,fp=f1++f2/\EnvRep K F H U σ f1/\EnvRep K F H U' σ' f2:=by
 induction U generalizing σ fp with
 | nil=>cases σ with
   | nil=>exact ⟨[],fp,rfl,.nil,r⟩
   | cons _ _=>exact absurd e.symm (Nat.succ_ne_zero _)
 | cons x U ih=>cases σ with
   | nil=>exact absurd e (Nat.succ_ne_zero _)
   | cons y σ=>cases r with
     | no r=>
       obtain ⟨f1,f2,rfl,a,b⟩:=ih (Nat.succ.inj e) r
       exact ⟨f1,f2,rfl,.no a,b⟩
     | so q r=>
       obtain ⟨f1,f2,rfl,a,b⟩:=ih (Nat.succ.inj e) r
       exact ⟨_,f2,(append_assoc ..).symm,.so q a,b⟩
theorem EnvRep.at:∀ {U:Env} {σ:St} {fp:List Addr} {i:Nat} {s:S},EnvRep K F H U σ fp->slot U i=some s->
  ∃ v fa fi fb,σ[i]?=some (some v)/\fp=fa++(fi++fb)/\SRep K F H v s fi/\
    ∀ {F' H':Hp} {o:Option S} {u:Option V} {fi':List Addr},Same F F'->(∀ a∈fa++fb,H' a=H a)->(EnvRep K F' H' [o] [u] fi')->EnvRep K F' H' (U.set i o) (σ.set i u) (fa++(fi'++fb))
 | _,_,_,_,_,.nil,e=>by simp [slot] at e
 | _,_,_,0,_,.no r,e=>by simp at e
 | _,_,_,0,s,.so (fp:=fp) (fq:=fq) q r,e=>by
   simp at e; subst e
   refine ⟨_,[],fp,fq,rfl,rfl,q,fun {F' H' o u fi'} h k x=>?_⟩
   have r':=EnvRep.mono (H':=H') h r fun a ha=>k a ha
   exact x.app r'
 | _,_,_,i + 1,s,.no r,e=>by
   obtain ⟨v,fa,fi,fb,e1,rfl,q,up⟩:=EnvRep.at r (by simpa using e)
   exact ⟨v,fa,fi,fb,by simpa using e1,rfl,q,fun h k x=>.no (up h k x)⟩
 | _,_,_,i + 1,s,.so (fp:=fp) (fq:=fq) p r,e=>by
   obtain ⟨v,fa,fi,fb,e1,rfl,q,up⟩:=EnvRep.at r (by simpa using e)
   refine ⟨v,fp++fa,fi,fb,by simpa using e1,(append_assoc ..).symm,q,fun {F' H' o u fi'} h k x=>?_⟩
   rw [append_assoc]
   exact .so (SRep.mono h p fun a ha=>k a (qj _ (qj _ ha))) (up h (fun a ha=>k a ((mem_append.mp ha).elim (fun z=>qj _ (qi _ z)) fun z=>qi _ z)) x)
theorem EnvRep.put:∀ {U:Env} {σ:St} {fp:List Addr} {i:Nat},EnvRep K F H U σ fp->i < U.length->
  ∃ fa fi fb,fp=fa++(fi++fb)/\
    ∀ {F' H':Hp} {o:Option S} {u:Option V} {fi':List Addr},Same F F'->(∀ a∈fa++fb,H' a=H a)->(EnvRep K F' H' [o] [u] fi')->EnvRep K F' H' (U.set i o) (σ.set i u) (fa++(fi'++fb))
 | _,_,_,_,.nil,e=>by simp at e
 | _,_,fp,0,.no r,e=>⟨[],[],fp,rfl,fun {F' H' o u fi'} h k x=>x.app (EnvRep.mono (H':=H') h r fun a ha=>k a ha)⟩
 | _,_,_,0,.so (fp:=fp) (fq:=fq) q r,e=>⟨[],fp,fq,rfl,fun {F' H' o u fi'} h k x=>x.app (EnvRep.mono (H':=H') h r fun a ha=>k a ha)⟩
 | _,_,_,i + 1,.no r,e=>by
   obtain ⟨fa,fi,fb,rfl,up⟩:=EnvRep.put (i:=i) r (by simpa using e)
   exact ⟨fa,fi,fb,rfl,fun h k x=>.no (up h k x)⟩
 | _,_,_,i + 1,.so (fp:=fp) (fq:=fq) p r,e=>by
   obtain ⟨fa,fi,fb,rfl,up⟩:=EnvRep.put (i:=i) r (by simpa using e)
   refine ⟨fp++fa,fi,fb,(append_assoc ..).symm,fun {F' H' o u fi'} h k x=>?_⟩
   rw [append_assoc]
   exact .so (SRep.mono h p fun a ha=>k a (qj _ (qj _ ha))) (up h (fun a ha=>k a ((mem_append.mp ha).elim (fun z=>qj _ (qi _ z)) fun z=>qi _ z)) x)
end
structure Rel (K:W.Frag) (U:Env) (σ:St) (F G H:Hp):Prop where
 fr:Same F H
 gr:∀ a o,G a=some o->H a=some o/\F a=none
 en:∃ fp,EnvRep K F H U σ fp/\fp.Nodup/\∀ a∈fp,F a=none/\G a=none
section
variable {K:W.Frag} {F F' H H' G G':Hp} {U U':Env} {σ σ':St}
theorem Rel.len (r:Rel K U σ F G H):U.length=σ.length:=let ⟨_,e,_⟩:=r.en; e.len
theorem Rel.free (r:Rel K U σ F G H) (h:H p=none):F p=none/\G p=none/\∀ fp,EnvRep K F H U σ fp->p∉fp:=by
 refine ⟨?_,?_,fun fp e hp=>?_⟩
 ·cases q:F p with
  | none=>rfl
  | some o=>rw [r.fr p o q] at h; cases h
 ·cases q:G p with
  | none=>rfl
  | some o=>rw [(r.gr p o q).1] at h; cases h
 ·obtain ⟨o,q⟩:=e.in_ p hp
  rw [h] at q; cases q
theorem Same.upd (h:F p=none):Same F (upd F p o):=fun b u e=>by
 rw [zac (fun z=>by rw [z,h] at e; cases e)]; exact e
theorem Same.upd2 (h:Same F H):Same (L2.upd F p o) (L2.upd H p o):=fun b u e=>by
 by_cases q:b=p
 ·subst q; rw [zaj] at e ⊢; exact e
 ·rw [zac q] at e ⊢; exact h b u e
theorem Same.updR (h:Same F H) (n:F p=none):Same F (L2.upd H p o):=fun b u e=>by
 rw [zac (fun z=>by rw [z,n] at e; cases e)]; exact h b u e
theorem Rel.newF (r:Rel K U σ F G H) (h:H p=none):Rel K U σ (upd F p o) G (upd H p o):=by
 obtain ⟨f0,g0,n0⟩:=r.free h
 obtain ⟨fp,e,nd,ap⟩:=r.en
 have hne:∀ a∈fp,a≠p:=fun a ha z=>n0 fp e (z ▸ ha)
 refine ⟨Same.upd2 r.fr,fun a u q=>?_,fp,e.mono (Same.upd f0) fun a ha=>zac (hne a ha),nd,fun a ha=>?_⟩
 ·have hp:a≠p:=fun z=>by rw [z,g0] at q; cases q
  rw [zac hp,zac hp]; exact r.gr a u q
 ·rw [zac (hne a ha)]; exact ap a ha
theorem Rel.newO (r:Rel K U σ F G H) (h:H p=none) (q:SRep K F (upd H p o) (.ref p) s [p]):Rel K (U++[some s]) (σ++[some (.ref p)]) F G (upd H p o):=by
 obtain ⟨f0,g0,n0⟩:=r.free h
 obtain ⟨fp,e,nd,ap⟩:=r.en
 have hne:∀ a∈fp,a≠p:=fun a ha z=>n0 fp e (z ▸ ha)
 refine ⟨Same.updR r.fr f0,fun a u q=>?_,fp++([p]++[]),(e.mono (Same.refl F) fun a ha=>zac (hne a ha)).app (.so q .nil),?_,fun a ha=>?_⟩
 ·have hp:a≠p:=fun z=>by rw [z,g0] at q; cases q
  rw [zac hp]; exact r.gr a u q
 ·grind
 grind
theorem Rel.drop (r:Rel K (U++U') (σ++σ') F G H) (h:U.length=σ.length):Rel K U σ F G H:=by
 obtain ⟨fp,e,nd,ap⟩:=r.en
 obtain ⟨f1,f2,rfl,a,b⟩:=e.cut h
 exact ⟨r.fr,r.gr,f1,a,(nodup_append.mp nd).1,fun c hc=>ap c (qj _ hc)⟩
theorem Rel.hide (r:Rel K (U++U') (σ++σ') F G H) (h:U.length=σ.length):∃ G',Rel K U σ F G' H/\Same G G'/\
  ∀ {U2:Env} {σ2:St} {F2 H2:Hp},Same F F2->Rel K U2 σ2 F2 G' H2->Rel K (U2++U') (σ2++σ') F2 G H2:=by
 classical
 obtain ⟨fp,e,nd,ap⟩:=r.en
 obtain ⟨f1,f2,rfl,a,b⟩:=e.cut h
 obtain ⟨n1,n2,n12⟩:=nodup_append.mp nd
 refine ⟨fun x=>if x∈f2 then H x else G x,⟨r.fr,fun x o q=>?_,f1,a,n1,fun x hx=>?_⟩,fun x o q=>?_,fun {U2 σ2 F2 H2} sm r2=>?_⟩
 ·by_cases z:x∈f2
  ·grind
  ·simp only [z,if_false] at q
   exact r.gr x o q
 ·grind
 ·grind
 ·obtain ⟨fp2,e2,nd2,ap2⟩:=r2.en
  have hk:∀ x∈f2,H2 x=H x/\F2 x=none/\x∉fp2:=fun x hx=>by
   obtain ⟨o,q⟩:=b.in_ x hx
   have w:=r2.gr x o (by simp only [hx,if_true]; exact q)
   grind
  refine ⟨r2.fr,fun x o q=>?_,fp2++f2,e2.app (b.mono sm fun x hx=>(hk x hx).1),?_,fun x hx=>?_⟩
  ·have z:x∉f2:=fun z=>by
    grind
   exact r2.gr x o (by simp only [z,if_false]; exact q)
  ·grind
  grind
theorem Rel.weakG (r:Rel K U σ F G' H) (h:Same G G'):Rel K U σ F G H:=by
 obtain ⟨fp,e,nd,ap⟩:=r.en
 refine ⟨r.fr,fun a o q=>r.gr a o (h a o q),fp,e,nd,fun a ha=>⟨(ap a ha).1,?_⟩⟩
 cases q:G a with
 | none=>rfl
 | some o=>have:=(ap a ha).2; rw [h a o q] at this; cases this
theorem Rel.swap (h:U.length=σ.length) (h1:U1.length=σ1.length) (r:Rel K (U++(U1++U2)) (σ++(σ1++σ2)) F G H):Rel K (U++(U2++U1)) (σ++(σ2++σ1)) F G H:=by
 obtain ⟨fp,e,nd,ap⟩:=r.en
 obtain ⟨f0,f12,rfl,a,b⟩:=e.cut h
 obtain ⟨f1,f2,rfl,b,c⟩:=b.cut h1
 have p:(f0++(f2++f1)).Perm (f0++(f1++f2)):=List.Perm.append_left _ perm_append_comm
 exact ⟨r.fr,r.gr,_,a.app (c.app b),p.nodup_iff.mpr nd,fun x hx=>ap x (p.mem_iff.mp hx)⟩
theorem Rel.push (r:Rel K U σ F G H) (h:Rep K F v d):Rel K (U++[some (.sh d)]) (σ++[some v]) F G H:=by
 obtain ⟨fp,e,nd,ap⟩:=r.en
 refine ⟨r.fr,r.gr,fp++([]++[]),e.app (.so (.sh h) .nil),?_,fun x hx=>ap x ?_⟩
 ·simpa using nd
 ·simpa using hx
theorem Rel.pushN (r:Rel K U σ F G H):Rel K (U++[none]) (σ++[u]) F G H:=by
 obtain ⟨fp,e,nd,ap⟩:=r.en
 refine ⟨r.fr,r.gr,fp++[],e.app (.no .nil),?_,fun x hx=>ap x ?_⟩
 ·simpa using nd
 ·simpa using hx
theorem zaY (h:slot U i=some s):U[i]?=some (some s):=by
 induction U generalizing i with
 | nil=>simp [slot] at h
 | cons a r ih=>cases i with
   | zero=>simp at h; simp [h]
   | succ i=>simp at h; simpa using ih h
theorem zbi (h:slot U i=some s):i < U.length:=(qg.mp (zaY h)).1
theorem zbb (h:i < U.length):slot (U++U') i=slot U i:=by
 induction U generalizing i with
 | nil=>simp at h
 | cons a r ih=>cases i with
   | zero=>rfl
   | succ i=>simpa using ih (by simpa using h)
theorem zay:slot (U++o::U') U.length=o:=by
 induction U with
 | nil=>rfl
 | cons a r ih=>simpa using ih
theorem Rel.at (r:Rel K U σ F G H) (h:slot U i=some s):∃ v fp,σ[i]?=some (some v)/\SRep K F H v s fp:=by
 obtain ⟨fp,e,nd,ap⟩:=r.en
 obtain ⟨v,fa,fi,fb,e1,_,q,_⟩:=e.at h
 exact ⟨v,fi,e1,q⟩
theorem Rel.give (r:Rel K U σ F G H) (h:slot U i=some s):∃ v F',σ[i]?=some (some v)/\Same F F'/\Rep K F' v s.toD/\Rel K (U.set i (some (.sh s.toD))) σ F' G H:=by
 classical
 obtain ⟨fp,e,nd,ap⟩:=r.en
 obtain ⟨v,fa,fi,fb,e1,rfl,q,up⟩:=e.at h
 obtain ⟨na,nib,nab⟩:=nodup_append.mp nd
 obtain ⟨ni,nb,nib⟩:=nodup_append.mp nib
 have nofi:∀ x∈fa++fb,x∉fi:=fun x hx z=>by
  grind
 have sm:Same F (fun x=>if x∈fi then H x else F x):=fun x o w=>by
  grind
 have rp:Rep K (fun x=>if x∈fi then H x else F x) v s.toD:=q.frz sm fun x hx=>by simp only [hx,if_true]
 have e2:σ.set i (some v)=σ:=by
  apply ext_getElem?
  grind
 refine ⟨v,_,e1,sm,rp,fun x o w=>?_,fun x o w=>?_,fa++([]++fb),?_,?_,fun x hx=>?_⟩
 ·by_cases z:x∈fi
  ·simp only [z,if_true] at w; exact w
  ·simp only [z,if_false] at w; exact r.fr x o w
 ·have w2:=r.gr x o w
  grind
 ·have:=up (F':=fun x=>if x∈fi then H x else F x) (H':=H) (o:=some (.sh s.toD)) (u:=some v) (fi':=[]) sm (fun _ _=>rfl) (.so (.sh rp) .nil)
  rw [e2] at this
  exact this
 ·grind
 grind
theorem Rel.store (r:Rel K (U++[o]) (σ++[u]) F G H) (h:U.length=σ.length) (hi:i < U.length):Rel K (U.set i o) (σ.set i u) F G H:=by
 obtain ⟨fp,e,nd,ap⟩:=r.en
 obtain ⟨f1,f2,rfl,a,b⟩:=e.cut h
 obtain ⟨fa,fi,fb,rfl,up⟩:=a.put hi
 obtain ⟨n1,n2,n12⟩:=nodup_append.mp nd
 obtain ⟨na,nib,nab⟩:=nodup_append.mp n1
 obtain ⟨ni,nb,nib⟩:=nodup_append.mp nib
 refine ⟨r.fr,r.gr,fa++(f2++fb),up (Same.refl F) (fun _ _=>rfl) b,?_,fun x hx=>?_⟩
 ·grind
 grind
end
end FL
end
section
namespace FL
open PySem PySem.Spec PyProof.Rows L2
abbrev St:=L2.St
abbrev wp (X:Cx) (pn:List (Addr×Obj)) (xe:Value->Shared->Prop):Cx:={ X with pn:=pn,xe:=xe }
def slotOf:R->Option S
 | .v s=>some s
 | .loc _=>none
def RV (σ:St) (v:V):R->Prop
 | .v _=>True
 | .loc i=>σ[i]?=some (some v)
def RVs (σ:St):List V->List R->Prop
 | [],[]=>True
 | v::vs,r::rs=>RV σ v r/\RVs σ vs rs
 | _,_=>False
def clsD (K:W.Frag) (F:Hp) (d:D) (C:Addr) (dx:Option Addr):Prop:=∃ c fs vs,d=.exc c fs vs/\W.nsIn K mainGlobals (⟨c.toArray⟩:Str)=some (some (.ref C))/\XDct F dx fs vs
def XRep (X:Cx) (F H:Hp) (h:Heap) (u:Value) (d:D):Prop:=∃ e C dx,u=.ref e/\clsD X.K F d C dx/\Fly X [] H h e (.ref C) dx
def KP (ks:List Nat) (σ σ':St):Prop:=∀ i∈ks,σ'[i]?=σ[i]?
def XC (X:Cx) (T:St->Prop) (F G:Hp) (PX:WX):Prop:=∀ (d:D) (U':Env) (σ':St) (F' H':Hp) (u:Value) (s':Shared),PX d U'->T σ'->Same F F'->Rel X.K U' σ' F' G H'->Inv X [] σ' H' s'->XRep X F' H' s'.heap u d->X.xe u s'
theorem XC.mono (h:XC X T F G PX) (t:∀ σ,T' σ->T σ) (f:Same F F') (g:Same G G'):XC X T' F' G' PX:=
 fun d U' σ' F2 H2 u s' p q sm r I x=>h d U' σ' F2 H2 u s' p (t _ q) (f.trans sm) (r.weakG g) I x
theorem XC.grow (h:XC X T F G PX) (f:Same F F'):XC X T F' G PX:=h.mono (fun _ z=>z) f (Same.refl G)
inductive tW (X:Cx) (w:WE) (σ:St) (H:Hp) (Q:VK):Prop
 | mk (F G:Hp) (U:Env) (P:WQ) (PX:WX) (rel:Rel X.K U σ F G H) (hw:w U P PX) (hok:∀ r U' v F' H',P r U'->Same F F'->Rel X.K (U'++[slotOf r]) (σ++[some v]) F' G H'->RV σ v r->Q v H') (hx:XC X (·=σ) F G PX):tW X w σ H Q
def FE (X:Cx) (e:Expr) (w:WE):Prop:=∀ (pn:List (Addr×Obj)) (xe:Value->Shared->Prop),PassesOwn (model X.prog X.w) X.A X.env xe->PE (wp X pn xe) e (tW (wp X pn xe) w)
inductive tWT (X:Cx) (w:WT) (σ:St) (H:Hp) (Q:Bool->Hp->Prop):Prop
 | mk (F G:Hp) (U:Env) (P:Bool->Env->Prop) (PX:WX) (rel:Rel X.K U σ F G H) (hw:w U P PX) (hok:∀ b U' F' H',P b U'->Same F F'->Rel X.K U' σ F' G H'->Q b H') (hx:XC X (·=σ) F G PX):tWT X w σ H Q
def FT (X:Cx) (e:Expr) (w:WT):Prop:=∀ (pn:List (Addr×Obj)) (xe:Value->Shared->Prop),PassesOwn (model X.prog X.w) X.A X.env xe->PT (wp X pn xe) e (tWT (wp X pn xe) w)
def FW (X:Cx) (e:Expr) (w:WT):Prop:=∀ (pn:List (Addr×Obj)) (xe:Value->Shared->Prop),PassesOwn (model X.prog X.w) X.A X.env xe->PW (wp X pn xe) e (tWT (wp X pn xe) w)
inductive tWA (X:Cx) (w:WA) (σ:St) (H:Hp) (Q:List V->Hp->Prop):Prop
 | mk (F G:Hp) (U:Env) (P:List R->Env->Prop) (PX:WX) (rel:Rel X.K U σ F G H) (hw:w U P PX) (hok:∀ rs U' vs F' H',P rs U'->Same F F'->Rel X.K (U'++rs.map slotOf) (σ++vs.map some) F' G H'->U'.length=σ.length->RVs σ vs rs->Q vs H') (hx:XC X (·=σ) F G PX):tWA X w σ H Q
def FA (X:Cx) (es:List Expr) (w:WA):Prop:=∀ (pn:List (Addr×Obj)) (xe:Value->Shared->Prop),PassesOwn (model X.prog X.w) X.A X.env xe->PA (wp X pn xe) es (tWA (wp X pn xe) w)
theorem PE.imp (h:PE X e t) (k:∀ σ H Q,t' σ H Q->t σ H Q):PE X e t':=fun pins s σ H Q I q=>h pins s σ H Q I (k σ H Q q)
theorem PT.imp (h:PT X e t) (k:∀ σ H Q,t' σ H Q->t σ H Q):PT X e t':=fun pins s σ H Q I q=>h pins s σ H Q I (k σ H Q q)
theorem PW.imp (h:PW X e t) (k:∀ σ H Q,t' σ H Q->t σ H Q):PW X e t':=fun wh pins s σ H Q I q=>h wh pins s σ H Q I (k σ H Q q)
theorem PA.imp (h:PA X e t) (k:∀ σ H Q,t' σ H Q->t σ H Q):PA X e t':=fun p pins s σ H Q I q=>h p pins s σ H Q I (k σ H Q q)
section
variable {K:W.Frag} {F F' H H' G G':Hp} {U U':Env} {σ σ':St} {v u:V}
theorem Rel.mid (r:Rel K (U++o::U') (σ++w::σ') F G H) (h:U.length=σ.length):Rel K (U++U') (σ++σ') F G H:=by
 obtain ⟨fp,e,nd,ap⟩:=r.en
 obtain ⟨f1,f2,rfl,a,b⟩:=e.cut h
 obtain ⟨f2,f3,rfl,b,c⟩:=EnvRep.cut (U:=[o]) (σ:=[w]) rfl b
 obtain ⟨n1,n2,n3⟩:=nodup_append.mp nd
 obtain ⟨n4,n5,n6⟩:=nodup_append.mp n2
 refine ⟨r.fr,r.gr,f1++f3,a.app c,nodup_append.mpr ⟨n1,n5,fun x hx y hy=>n3 x hx y (qi _ hy)⟩,fun x hx=>ap x ?_⟩
 grind
theorem len1 (r:Rel K (U++[o]) (σ++[w]) F G H):U.length=σ.length:=by
 have:=r.len
 simpa using this
theorem zbw:(U++o::U').set U.length o'=U++o'::U':=by
 induction U with
 | nil=>rfl
 | cons a r ih=>simpa using ih
theorem zab (h:need o k):∃ a,o=some a/\k a:=by
 cases o with
 | none=>exact h.elim
 | some a=>exact ⟨a,rfl,h⟩
def RepE (K:W.Frag) (F H:Hp) (v:V) (d:D):Prop:=Rep K F v d\/
 (∃ a xs ds,v=.ref a/\d=.lst ds/\H a=some (.lst xs)/\Reps K F xs ds)\/
 (∃ a kvs ks vs,v=.ref a/\d=.dct false ks vs/\H a=some (.dK kvs)/\ks=kvs.map (fun p=>keyD p.1)/\Reps K F (kvs.map (·.2)) vs)\/
 (∃ a kvs ks vs,v=.ref a/\d=.dct true ks vs/\H a=some (.dT kvs)/\ks=kvs.map (fun p=>D.tup (p.1.map keyD))/\Reps K F (kvs.map (·.2)) vs)
theorem RepE.mono (h:Same F F') (r:RepE K F H v d):RepE K F' H v d:=by
 rcases r with r | ⟨a,xs,ds,e1,e2,e3,r⟩ | ⟨a,kvs,ks,vs,e1,e2,e3,e4,r⟩ | ⟨a,kvs,ks,vs,e1,e2,e3,e4,r⟩
 ·exact .inl (r.mono h)
 ·exact .inr (.inl ⟨a,xs,ds,e1,e2,e3,r.mono h⟩)
 ·exact .inr (.inr (.inl ⟨a,kvs,ks,vs,e1,e2,e3,e4,r.mono h⟩))
 ·exact .inr (.inr (.inr ⟨a,kvs,ks,vs,e1,e2,e3,e4,r.mono h⟩))
theorem SReps.sh (r:SReps K F H xs l fp):l.all S.isSh=true->Reps K F xs (l.map S.toD)/\fp=[]:=
 SReps.ind (P:=fun xs l fp=>l.all S.isSh=true->Reps K F xs (l.map S.toD)/\fp=[]) (fun _=>⟨.nil,rfl⟩) (fun a _ ih h=>by
  rw [List.all_cons,and_eq_true] at h
  obtain ⟨q,e⟩:=ih h.2
  cases a with
  | sh r=>exact ⟨.cons r q,e⟩
  | _=>exact absurd h.1 (by simp [S.isSh])) r
theorem look (r:Rel K (U++(slotOf x::U')) (σ++(some v::σ')) F G H) (h:U.length=σ.length) (rv:RV σ v x) (e:view x U=some d):Rep K H v d:=by
 cases x with
 | v s=>
   obtain ⟨u,fp,e1,q⟩:=r.at (i:=U.length) (s:=s) zay
   rw [h,getElem?_append_right (le_refl _),sub_self] at e1
   have e2:v=u:=by simpa using e1
   subst e2
   have e3:s.toD=d:=qf e
   rw [<- e3]
   exact q.view r.fr
 | loc i=>
   have e':(slot U i).map S.toD=some d:=e
   cases q:slot U i with
   | none=>rw [q] at e'; cases e'
   | some s=>
     rw [q] at e'
     have e3:s.toD=d:=qf e'
     have hi:=zbi q
     obtain ⟨u,fp,e1,w⟩:=r.at (i:=i) (s:=s) (by rw [zbb hi]; exact q)
     rw [getElem?_append_left (h ▸ hi)] at e1
     have rv':σ[i]?=some (some v):=rv
     rw [rv'] at e1
     have e2:v=u:=by simpa using e1
     subst e2
     rw [<- e3]
     exact w.view r.fr
theorem takeC (r:Rel K (U++(slotOf x::U')) (σ++(some v::σ')) F G H) (h:U.length=σ.length) (rv:RV σ v x) (e:viewC x U=some d):
  ∃ F',Same F F'/\RepE K F' H v d/\Rel K (U++U') (σ++σ') F' G H:=by
 cases x with
 | v s=>
   obtain ⟨u,F',e1,sm,rp,r'⟩:=r.give (i:=U.length) (s:=s) zay
   rw [h,getElem?_append_right (le_refl _),sub_self] at e1
   have e2:v=u:=by simpa using e1
   subst e2
   have e3:s.toD=d:=qf e
   rw [show (U++slotOf (.v s)::U').set U.length (some (S.sh s.toD))=U++some (S.sh s.toD)::U' from zbw] at r'
   exact ⟨F',sm,.inl (e3 ▸ rp),r'.mid h⟩
 | loc i=>
   have e':(match slot U i with | some s=>if s.flat then some s.toD else none | none=>none)=some d:=e
   cases q:slot U i with
   | none=>rw [q] at e'; cases e'
   | some s=>
     rw [q] at e'
     have hi:=zbi q
     obtain ⟨u,fp,e1,w⟩:=r.at (i:=i) (s:=s) (by rw [zbb hi]; exact q)
     rw [getElem?_append_left (h ▸ hi)] at e1
     have rv':σ[i]?=some (some v):=rv
     rw [rv'] at e1
     have e2:v=u:=by simpa using e1
     subst e2
     refine ⟨F,Same.refl F,?_,r.mid h⟩
     by_cases hf:s.flat=true
     ·have e3:s.toD=d:=by
       grind
      subst e3
      cases w with
      | sh r=>exact .inl r
      | lst e0 r0=>
        obtain ⟨r1,_⟩:=r0.sh hf
        exact .inr (.inl ⟨_,_,_,rfl,by simp,e0,r1⟩)
      | dK e0 k0 r0=>
        obtain ⟨r1,_⟩:=r0.sh hf
        exact .inr (.inr (.inl ⟨_,_,_,_,rfl,by simp,e0,k0,r1⟩))
      | dT e0 k0 r0=>
        obtain ⟨r1,_⟩:=r0.sh hf
        exact .inr (.inr (.inr ⟨_,_,_,_,rfl,by simp,e0,k0,r1⟩))
      | st _ _=>exact absurd hf (by simp [S.flat])
     grind
theorem giveR (r:Rel K (U++(slotOf x::U')) (σ++(some v::σ')) F G H) (h:U.length=σ.length) (rv:RV σ v x) (e:give x U=some (s,U1)):
  ∃ F',Same F F'/\U1.length=U.length/\Rel K (U1++(some s::U')) (σ++(some v::σ')) F' G H:=by
 cases x with
 | v t=>
   have e':some (t,U)=some (s,U1):=e
   cases e'
   exact ⟨F,Same.refl F,rfl,r⟩
 | loc i=>
   have e':(match slot U i with | some s=>some (S.sh s.toD,U.set i (some (.sh s.toD))) | none=>none)=some (s,U1):=e
   cases q:slot U i with
   | none=>rw [q] at e'; cases e'
   | some t=>
     rw [q] at e'
     cases e'
     have hi:=zbi q
     obtain ⟨u,F',e1,sm,rp,r'⟩:=r.give (i:=i) (s:=t) (by rw [zbb hi]; exact q)
     rw [getElem?_append_left (h ▸ hi)] at e1
     have rv':σ[i]?=some (some v):=rv
     rw [rv'] at e1
     have e2:v=u:=by simpa using e1
     subst e2
     rw [List.set_append_left _ _ hi] at r'
     refine ⟨F',sm,by simp,?_⟩
     obtain ⟨fp,en,nd,ap⟩:=r'.en
     have hl:(U.set i (some (S.sh t.toD))).length=σ.length:=by simpa using h
     obtain ⟨f1,f2,rfl,a,b⟩:=en.cut hl
     have b':EnvRep K F' H (none::U') (some v::σ') f2:=b
     cases b' with
     | no b=>exact ⟨r'.fr,r'.gr,f1++([]++f2),a.app (.so (.sh rp) b),by simpa using nd,fun x hx=>ap x (by simpa using hx)⟩
end
theorem tW.mono (h:tW X w σ H Q) (k:∀ v H',Q v H'->Q' v H'):tW X w σ H Q':=by
 obtain ⟨F,G,U,P,PX,rel,hw,hok,hx⟩:=h
 exact ⟨F,G,U,P,PX,rel,hw,fun r U' v F' H' a b c d=>k _ _ (hok r U' v F' H' a b c d),hx⟩
section
variable {X:Cx} {σ:St} {H:Hp} {Q:VK}
inductive Two (X:Cx) (σ:St) (k:R->R->Env->WQ->WX->Prop) (Q:VK) (v u:V) (H:Hp):Prop
 | mk (F G:Hp) (U:Env) (x y:R) (P:WQ) (PX:WX) (rel:Rel X.K (U++[slotOf x,slotOf y]) (σ++[some v,some u]) F G H) (hl:U.length=σ.length) (rx:RV σ v x) (ry:RV σ u y) (hk:k x y U P PX) (hok:∀ r U' v F' H',P r U'->Same F F'->Rel X.K (U'++[slotOf r]) (σ++[some v]) F' G H'->RV σ v r->Q v H') (hx:XC X (·=σ) F G PX):Two X σ k Q v u H
theorem two (h:tW X (fun U Q E=>wa U (fun x U1=>wb U1 (fun y U2=>k x y U2 Q E) E) E) σ H Q):
  tW X wa σ H fun v H1=>tW X wb σ H1 fun u H2=>Two X σ k Q v u H2:=by
 obtain ⟨F,G,U,P,PX,rel,hw,hok,hx⟩:=h
 refine ⟨F,G,U,_,PX,rel,hw,fun x U1 v F1 H1 hp1 s1 r1 rv1=>?_,hx⟩
 have h1:=len1 r1
 obtain ⟨G1,rel1,gg,back⟩:=r1.hide h1
 refine ⟨F1,G1,U1,_,PX,rel1,hp1,fun y U2 u F2 H2 hp2 s2 r2 rv2=>?_,hx.mono (fun _ z=>z) s1 gg⟩
 have h2:=len1 r2
 have r3:=back s2 r2
 rw [append_assoc,append_assoc] at r3
 exact ⟨F2,G,U2,x,y,P,PX,Rel.swap (U1:=[slotOf y]) (σ1:=[some u]) (U2:=[slotOf x]) (σ2:=[some v]) h2 rfl r3,h2,rv1,rv2,hp2,fun r U' v F' H' a b c d=>hok r U' v F' H' a (s1.trans (s2.trans b)) c d,hx.grow (s1.trans s2)⟩
inductive One (X:Cx) (σ:St) (k:R->Env->WQ->WX->Prop) (Q:VK) (v:V) (H:Hp):Prop
 | mk (F G:Hp) (U:Env) (x:R) (P:WQ) (PX:WX) (rel:Rel X.K (U++[slotOf x]) (σ++[some v]) F G H) (hl:U.length=σ.length) (rx:RV σ v x) (hk:k x U P PX) (hok:∀ r U' v F' H',P r U'->Same F F'->Rel X.K (U'++[slotOf r]) (σ++[some v]) F' G H'->RV σ v r->Q v H') (hx:XC X (·=σ) F G PX):One X σ k Q v H
theorem one (h:tW X (fun U Q E=>wa U (fun x U1=>k x U1 Q E) E) σ H Q):tW X wa σ H fun v H1=>One X σ k Q v H1:=by
 obtain ⟨F,G,U,P,PX,rel,hw,hok,hx⟩:=h
 exact ⟨F,G,U,_,PX,rel,hw,fun x U1 v F1 H1 hp1 s1 r1 rv1=>⟨F1,G,U1,x,P,PX,r1,len1 r1,rv1,hp1,fun r U' v F' H' a b c d=>hok r U' v F' H' a (s1.trans b) c d,hx.grow s1⟩,hx⟩
end
section
variable {X:Cx}
theorem zfC (hN:X.N[i]?=some x) (hv:Vis X.env.scope x) (hd:(x == ("__debug__":Str))=false:=by decide) (hcd:(x == ("__classdict__":Str))=false:=by decide):FE X (.Name x pos) (wVar i):=by
 intro pn xe hp
 refine PE.imp (zda (X:=wp X pn xe) hN hv hd hcd) fun σ H Q h=>?_
 obtain ⟨F,G,U,P,PX,rel,hw,hok,hx⟩:=h
 unfold wVar at hw
 cases q:slot U i with
 | none=>rw [q] at hw; exact hw.elim
 | some s=>
   obtain ⟨v,fp,e1,sr⟩:=rel.at q
   rw [q] at hw
   cases s with
   | sh d=>
     cases sr with
     | sh r=>exact ⟨v,e1,hok _ _ v F H hw (Same.refl F) (rel.push r) trivial⟩
   | lst l=>exact ⟨v,e1,hok _ _ v F H hw (Same.refl F) rel.pushN e1⟩
   | dct t a b=>exact ⟨v,e1,hok _ _ v F H hw (Same.refl F) rel.pushN e1⟩
   | set l=>exact ⟨v,e1,hok _ _ v F H hw (Same.refl F) rel.pushN e1⟩
theorem fe_c (h:∀ X:Cx,PE X e (tC v)) (r:∀ K F,Rep K F v d):FE X e (wC d):=by
 intro pn xe hp
 refine PE.imp (h _) fun σ H Q h=>?_
 obtain ⟨F,G,U,P,PX,rel,hw,hok,hx⟩:=h
 exact hok _ _ v F H hw (Same.refl F) (rel.push (r _ _)) trivial
theorem zae:FE X (.Constant (.int i) j pos) (wC (.int i)):=fe_c (fun _=>zgR) fun _ _=>.int i
theorem zeb:FE X (.Constant (.bool b) j pos) (wC (.bl b)):=fe_c (fun _=>zhS) fun _ _=>.bl b
theorem zfD:FE X (.Constant .none j pos) (wC .non):=fe_c (fun _=>zgt) fun _ _=>.non
end
section
variable {X:Cx} {a b c:Expr} {wa wb wc:WE} {pos:Pos}
theorem OpR.or (h:OpR X f r) (h':OpR X f r'):OpR X f (fun x y H Q=>r x y H Q\/r' x y H Q):=fun pins s σ H x y v u Q I rx ry q=>
 q.elim (fun z=>h pins s σ H x y v u Q I rx ry z) fun z=>h' pins s σ H x y v u Q I rx ry z
def Does (K:W.Frag) (r:R2) (op:D->D->Option S):Prop:=∀ (σ:St) (U:Env) (F G H:Hp) (x y:V) (p q:D) (s:S) (Q:VK),Rel K U σ F G H->RepE K F H x p->RepE K F H y q->op p q=some s->
 (∀ v F' H',Same F F'->Rel K (U++[some s]) (σ++[some v]) F' G H'->Q v H')->r x y H Q
theorem zbt (ho:∀ pn xe,OpR (wp X pn xe) (binaryOp op) r) (hd:Does X.K r o) (ha:FE X a wa) (hb:FE X b wb):FE X (.BinOp a op b pos) (wBin o wa wb):=by
 intro pn xe hp
 refine PE.imp (zhk (ho pn xe) (ha pn xe hp) (hb pn xe hp)) fun σ H Q h=>?_
 refine (two (k:=fun x y U2 Q E=>need (viewC x U2) fun p=>need (viewC y U2) fun q=>need (o p q) fun s=>Q (.v s) U2) h).mono fun v H1 h1=>h1.mono fun u H2 h2=>?_
 obtain ⟨F,G,U,x,y,P,PX,rel,hl,rx,ry,hk,hok,hx⟩:=h2
 obtain ⟨p,ep,hk⟩:=zab hk
 obtain ⟨q,eq,hk⟩:=zab hk
 obtain ⟨t,et,hk⟩:=zab hk
 obtain ⟨F1,s1,re1,rel1⟩:=takeC rel hl rx ep
 obtain ⟨F2,s2,re2,rel2⟩:=takeC (U':=[]) (σ':=[]) rel1 hl ry eq
 rw [append_nil,append_nil] at rel2
 exact hd σ U F2 G H2 v u p q t Q rel2 (re1.mono s2) re2 et fun v' F' H' sm r'=>hok (.v t) U v' F' H' hk (s1.trans (s2.trans sm)) r' trivial
end
theorem tWA.mono (h:tWA X w σ H Q) (k:∀ v H',Q v H'->Q' v H'):tWA X w σ H Q':=by
 obtain ⟨F,G,U,P,PX,rel,hw,hok,hx⟩:=h
 exact ⟨F,G,U,P,PX,rel,hw,fun r U' v F' H' a b c d e=>k _ _ (hok r U' v F' H' a b c d e),hx⟩
section
variable {X:Cx} {a b c:Expr} {wa wb wc:WE} {ta tb:WT} {pos:Pos} {σ:St} {H:Hp}
inductive TwoT (X:Cx) (σ:St) (k:R->R->Env->(Bool->Env->Prop)->WX->Prop) (Q:Bool->Hp->Prop) (v u:V) (H:Hp):Prop
 | mk (F G:Hp) (U:Env) (x y:R) (P:Bool->Env->Prop) (PX:WX) (rel:Rel X.K (U++[slotOf x,slotOf y]) (σ++[some v,some u]) F G H) (hl:U.length=σ.length) (rx:RV σ v x) (ry:RV σ u y) (hk:k x y U P PX) (hok:∀ r U' F' H',P r U'->Same F F'->Rel X.K U' σ F' G H'->Q r H') (hx:XC X (·=σ) F G PX):TwoT X σ k Q v u H
theorem twoT (h:tWT X (fun U Q E=>wa U (fun x U1=>wb U1 (fun y U2=>k x y U2 Q E) E) E) σ H Q):
  tW X wa σ H fun v H1=>tW X wb σ H1 fun u H2=>TwoT X σ k Q v u H2:=by
 obtain ⟨F,G,U,P,PX,rel,hw,hok,hx⟩:=h
 refine ⟨F,G,U,_,PX,rel,hw,fun x U1 v F1 H1 hp1 s1 r1 rv1=>?_,hx⟩
 have h1:=len1 r1
 obtain ⟨G1,rel1,gg,back⟩:=r1.hide h1
 refine ⟨F1,G1,U1,_,PX,rel1,hp1,fun y U2 u F2 H2 hp2 s2 r2 rv2=>?_,hx.mono (fun _ z=>z) s1 gg⟩
 have h2:=len1 r2
 have r3:=back s2 r2
 rw [append_assoc,append_assoc] at r3
 exact ⟨F2,G,U2,x,y,P,PX,Rel.swap (U1:=[slotOf y]) (σ1:=[some u]) (U2:=[slotOf x]) (σ2:=[some v]) h2 rfl r3,h2,rv1,rv2,hp2,fun r U' F' H' a b c=>hok r U' F' H' a (s1.trans (s2.trans b)) c,hx.grow (s1.trans s2)⟩
def DoesC (K:W.Frag) (r:R2) (op:D->D->Option Bool):Prop:=∀ (H:Hp) (x y:V) (p q:D) (k:Bool) (Q:VK),Rep K H x p->Rep K H y q->op p q=some k->Q (.bl k) H->r x y H Q
theorem look2 {K:W.Frag} (rel:Rel K (U++[slotOf x,slotOf y]) (σ++[some v,some u]) F G H) (hl:U.length=σ.length) (rx:RV σ v x) (ry:RV σ u y) (ep:view x U=some p) (eq:view y U=some q):
  Rep K H v p/\Rep K H u q/\Rel K U σ F G H:=by
 have rel':Rel K (U++[slotOf y]) (σ++[some u]) F G H:=rel.mid hl
 exact ⟨look rel hl rx ep,look (U':=[]) (σ':=[]) rel' hl ry eq,rel'.drop hl⟩
theorem zaQ (ho:∀ pn xe,OpR (wp X pn xe) (compareOp op) r) (hd:DoesC X.K r o) (ha:FE X a wa) (hb:FE X b wb) (hm:behindInMarks op b=false):FT X (.Compare a [op] [b] pos) (wCmp o wa wb):=by
 intro pn xe hp
 refine PT.imp (zeV (ho pn xe) (ha pn xe hp) (hb pn xe hp) hm) fun σ H Q h=>?_
 refine (twoT (k:=fun x y U2 Q E=>need (view x U2) fun p=>need (view y U2) fun q=>need (o p q) fun c=>Q c U2) h).mono fun v H1 h1=>h1.mono fun u H2 h2=>?_
 obtain ⟨F,G,U,x,y,P,PX,rel,hl,rx,ry,hk,hok,hx⟩:=h2
 obtain ⟨p,ep,hk⟩:=zab hk
 obtain ⟨q,eq,hk⟩:=zab hk
 obtain ⟨t,et,hk⟩:=zab hk
 obtain ⟨r1,r2,rel'⟩:=look2 rel hl rx ry ep eq
 exact hd H2 v u p q t _ r1 r2 et ⟨t,rfl,hok t U F H2 hk (Same.refl F) rel'⟩
theorem zex (ho:∀ pn xe,OpR (wp X pn xe) (compareOp op) r) (hd:DoesC X.K r o) (ha:FE X a wa) (hb:FE X b wb) (hm:behindInMarks op b=false):FE X (.Compare a [op] [b] pos) (wOfT (wCmp o wa wb)):=by
 intro pn xe hp
 refine PE.imp (zfw (ho pn xe) (ha pn xe hp) (hb pn xe hp) hm) fun σ H Q h=>?_
 refine (two (k:=fun x y U2 Q E=>need (view x U2) fun p=>need (view y U2) fun q=>need (o p q) fun c=>Q (.v (.sh (.bl c))) U2) h).mono fun v H1 h1=>h1.mono fun u H2 h2=>?_
 obtain ⟨F,G,U,x,y,P,PX,rel,hl,rx,ry,hk,hok,hx⟩:=h2
 obtain ⟨p,ep,hk⟩:=zab hk
 obtain ⟨q,eq,hk⟩:=zab hk
 obtain ⟨t,et,hk⟩:=zab hk
 obtain ⟨r1,r2,rel'⟩:=look2 rel hl rx ry ep eq
 exact hd H2 v u p q t _ r1 r2 et (hok _ U (.bl t) F H2 hk (Same.refl F) (rel'.push (.bl t)) trivial)
theorem zfj {K:W.Frag} (r:Rep K H v d) (e:truth d=some k):TruV K v H k:=by
 cases r with
 | non=>exact (qf e).symm
 | bl b=>exact (qf e).symm
 | int i=>
   have e':=(qf e).symm
   rw [e']
   show decide (i≠0)=(i !=0)
   by_cases h:i=0 <;> simp [h]
 | str e1 z=>
   rename_i x l
   have e':=(qf e).symm
   have hl:x.length=l.length:=by rw [<- e1]; rfl
   refine ⟨by rw [hl,sizeLine_eq]; exact z,?_⟩
   rw [e',hl]
   cases l with
   | nil=>rfl
   | cons a r=>simp; lia
 | tup h r=>
   refine .inr (.inl ⟨_,SqT.of h,?_⟩)
   have e':=(qf e).symm
   rw [e']
   cases r <;> rfl
 | lst h r=>
   refine .inl ⟨_,h,?_⟩
   have e':=(qf e).symm
   rw [e']
   cases r <;> rfl
 | dK h k r=>cases e
 | dT h k r=>cases e
 | st h r=>cases e
 | exc h k=>cases e
theorem zeo (ha:FE X a wa) (he:∀ whole,isTrue a X.env whole=(do let v <- whole; standAt a.pos; holding [v] (truthy v)):=by intro _; rfl):FT X a (wTest wa):=by
 intro pn xe hp
 refine PT.imp (zee (ha pn xe hp) he) fun σ H Q h=>?_
 obtain ⟨F,G,U,P,PX,rel,hw,hok,hx⟩:=h
 refine ⟨F,G,U,_,PX,rel,hw,fun x U1 v F1 H1 hk s1 r1 rv1=>?_,hx⟩
 obtain ⟨p,ep,hk⟩:=zab hk
 obtain ⟨t,et,hk⟩:=zab hk
 have hl:=len1 r1
 exact ⟨t,zfj (look (U':=[]) (σ':=[]) r1 hl rv1 ep) et,hok t U1 F1 H1 hk s1 (r1.drop hl)⟩
theorem thenT {k:Bool->Env->(Bool->Env->Prop)->WX->Prop} (h:tWT X (fun U Q E=>ta U (fun c U1=>k c U1 Q E) E) σ H Q)
  (hk:∀ (c:Bool) (F G:Hp) (U:Env) (P:Bool->Env->Prop) (PX:WX) (H1:Hp),Rel X.K U σ F G H1->k c U P PX->(∀ r U' F' H',P r U'->Same F F'->Rel X.K U' σ F' G H'->Q r H')->XC X (·=σ) F G PX->Q' c H1):tWT X ta σ H Q':=by
 obtain ⟨F,G,U,P,PX,rel,hw,hok,hx⟩:=h
 exact ⟨F,G,U,_,PX,rel,hw,fun c U1 F1 H1 hp s1 r1=>hk c F1 G U1 P PX H1 r1 hp (fun r U' F' H' a b c=>hok r U' F' H' a (s1.trans b) c) (hx.grow s1),hx⟩
theorem ziE (h:FW X a ta):FT X a ta:=fun pn xe hp=>(h pn xe hp).pt
theorem zgF (h:FT X a ta):FW X (.BoolOp .Or [a] pos) ta:=fun pn xe hp=>zgX (h pn xe hp)
theorem zhm {rest:List Expr} (h:FT X a ta) (h':FW X (.BoolOp .Or (b::rest) pos) tb):FW X (.BoolOp .Or (a::b::rest) pos) (wtOr ta tb):=fun pn xe hp=>by
 refine PW.imp (zig (h pn xe hp) (h' pn xe hp)) fun σ H Q q=>?_
 refine thenT (k:=fun c U1 Q E=>if c then Q true U1 else tb U1 Q E) q fun c F G U P PX H1 rel hk hok hx=>?_
 cases c with
 | false=>exact ⟨F,G,U,P,PX,rel,hk,hok,hx⟩
 | true=>exact hok true U F H1 hk (Same.refl F) rel
theorem zeD (h:FT X a ta):FT X (.UnaryOp .Not a pos) (wtNot ta):=fun pn xe hp=>by
 refine PT.imp (zgb (h pn xe hp)) fun σ H Q q=>?_
 exact thenT (k:=fun c U1 Q E=>Q (!c) U1) q fun c F G U P PX H1 rel hk hok hx=>hok _ U F H1 hk (Same.refl F) rel
end
section
variable {X:Cx} {e:Expr} {es:List Expr} {wa:WE} {wb:WA} {pos:Pos} {K:W.Frag}
theorem zau:FA X [] wNil:=fun pn xe hp=>PA.imp zgQ fun σ H Q q=>by
 obtain ⟨F,G,U,P,PX,rel,hw,hok,hx⟩:=q
 exact hok [] U [] F H hw (Same.refl F) (by simpa using rel) rel.len trivial
theorem zad (ha:FE X e wa) (hb:FA X es wb) (hs:starEach (e::es) X.env=(false,eval e X.env)::starEach es X.env:=by rfl):FA X (e::es) (wCons wa wb):=fun pn xe hp=>by
 refine PA.imp (zfv (ha pn xe hp) (hb pn xe hp) hs) fun σ H Q q=>?_
 obtain ⟨F,G,U,P,PX,rel,hw,hok,hx⟩:=q
 refine ⟨F,G,U,_,PX,rel,hw,fun x U1 v F1 H1 hp1 s1 r1 rv1=>?_,hx⟩
 have h1:=len1 r1
 obtain ⟨G1,rel1,gg,back⟩:=r1.hide h1
 refine ⟨F1,G1,U1,_,PX,rel1,hp1,fun rs U2 vs F2 H2 hp2 s2 r2 h2 rv2=>?_,hx.mono (fun _ z=>z) s1 gg⟩
 have r3:=back s2 r2
 rw [append_assoc,append_assoc] at r3
 have hl:(rs.map slotOf).length=(vs.map some).length:=by
  have:=r2.len
  grind
 exact hok (x::rs) U2 (v::vs) F2 H2 hp2 (s1.trans s2) (Rel.swap (U1:=rs.map slotOf) (σ1:=vs.map some) (U2:=[slotOf x]) (σ2:=[some v]) h2 hl r3) h2 ⟨rv1,rv2⟩
end
section
variable {K:W.Frag} {F F' H H' G G':Hp} {σ σ':St} {v u:V}
theorem RVs.len:∀ {vs:List V} {rs:List R},RVs σ vs rs->vs.length=rs.length
 | [],[],_=>rfl
 | [],_::_,h=>h.elim
 | _::_,[],h=>h.elim
 | _::vs,_::rs,h=>by simp [RVs.len h.2]
theorem zaO:∀ {rs:List R} {vs:List V} {U U' U1:Env} {ss:List S} {F:Hp} {σ':St},Rel K (U++(rs.map slotOf++U')) (σ++(vs.map some++σ')) F G H->U.length=σ.length->RVs σ vs rs->giveAll rs U=some (ss,U1)->
  ∃ F',Same F F'/\U1.length=U.length/\ss.length=rs.length/\Rel K (U1++(ss.map some++U')) (σ++(vs.map some++σ')) F' G H
 | [],[],U,U',U1,ss,F,σ',r,h,_,e=>by
   have e':some (([]:List S),U)=some (ss,U1):=e
   cases e'
   exact ⟨F,Same.refl F,rfl,rfl,r⟩
 | [],_::_,_,_,_,_,_,_,_,_,h,_=>h.elim
 | _::_,[],_,_,_,_,_,_,_,_,h,_=>h.elim
 | x::rs,v::vs,U,U',U1,ss,F,σ',r,h,rv,e=>by
   have e':(match give x U with | some (s,U1)=>(match giveAll rs U1 with | some (ss,U2)=>some (s::ss,U2) | none=>none) | none=>none)=some (ss,U1):=e
   cases q:give x U with
   | none=>rw [q] at e'; cases e'
   | some p=>
     obtain ⟨s,U2⟩:=p
     rw [q] at e'
     cases q2:giveAll rs U2 with
     | none=>simp only [q2] at e'; cases e'
     | some p2=>
       obtain ⟨ts,U3⟩:=p2
       simp only [q2] at e'
       cases e'
       obtain ⟨F1,s1,l1,r1⟩:=giveR (U':=rs.map slotOf++U') (σ':=vs.map some++σ') r h rv.1 q
       have h2:U2.length=σ.length:=l1.trans h
       have hl:(rs.map slotOf++U').length=(vs.map some++σ').length:=by
        have:=r1.len
        rw [length_append,length_append,h2,length_cons,length_cons] at this
        lia
       have hl':U'.length=σ'.length:=by
        have:=rv.2.len
        simp at hl
        lia
       have r2:=Rel.swap (U1:=[some s]) (σ1:=[some v]) (U2:=rs.map slotOf++U') (σ2:=vs.map some++σ') h2 rfl r1
       rw [append_assoc,append_assoc] at r2
       obtain ⟨F2,s2,l2,l3,r3⟩:=zaO (rs:=rs) (vs:=vs) r2 h2 rv.2 q2
       have h3:U1.length=σ.length:=l2.trans h2
       rw [<- append_assoc (ts.map some),<- append_assoc (vs.map some)] at r3
       have r4:=Rel.swap (U1:=ts.map some++U') (σ1:=vs.map some++σ') (U2:=[some s]) (σ2:=[some v]) h3 (by simp [l3,rv.2.len,hl']) r3
       exact ⟨F2,s1.trans s2,l2.trans l1,by simp [l3],r4⟩
theorem envReps:∀ {vs:List V} {ss:List S} {fp:List Addr},EnvRep K F H (ss.map some) (vs.map some) fp->SReps K F H vs ss fp
 | [],[],_,.nil=>.nil
 | [],_::_,_,h=>nomatch h
 | _::_,[],_,h=>nomatch h
 | v::vs,s::ss,_,.so a b=>.cons a (envReps b)
theorem Rel.newL (r:Rel K (U++ss.map some) (σ++vs.map some) F G H) (h:U.length=σ.length) (hp:H p=none):
  Rel K (U++[some (.lst ss)]) (σ++[some (.ref p)]) F G (upd H p (.lst vs)):=by
 obtain ⟨f0,g0,n0⟩:=r.free hp
 obtain ⟨fp,e,nd,ap⟩:=r.en
 have hne:∀ a∈fp,a≠p:=fun a ha z=>n0 fp e (z ▸ ha)
 obtain ⟨f1,f2,rfl,en1,en2⟩:=(e.mono (H':=upd H p (.lst vs)) (Same.refl F) fun a ha=>zac (hne a ha)).cut h
 refine ⟨Same.updR r.fr f0,fun a u q=>?_,f1++((p::f2)++[]),en1.app (.so (.lst zaj (envReps en2)) .nil),?_,fun a ha=>?_⟩
 ·have hp:a≠p:=fun z=>by rw [z,g0] at q; cases q
  rw [zac hp]; exact r.gr a u q
 ·grind
 grind
theorem Rel.giveD {ss:List S} (r:Rel K (U++ss.map some) (σ++vs.map some) F G H) (h:U.length=σ.length):∃ F',Same F F'/\Reps K F' vs (ss.map S.toD)/\Rel K U σ F' G H:=by
 classical
 obtain ⟨fp,e,nd,ap⟩:=r.en
 obtain ⟨f1,f2,rfl,a,b⟩:=e.cut h
 obtain ⟨n1,n2,n3⟩:=nodup_append.mp nd
 have sm:Same F (fun x=>if x∈f2 then H x else F x):=fun x o w=>by
  grind
 have rp:=(envReps b).frz sm fun x hx=>by simp only [hx,if_true]
 rw [S.toDs_map] at rp
 refine ⟨_,sm,rp,fun x o w=>?_,fun x o w=>?_,f1,a.mono sm fun _ _=>rfl,n1,fun x hx=>?_⟩
 ·by_cases z:x∈f2
  ·simp only [z,if_true] at w; exact w
  ·simp only [z,if_false] at w; exact r.fr x o w
 ·have w2:=r.gr x o w
  grind
 grind
end
section
variable {X:Cx} {es:List Expr} {wa:WA} {pos:Pos}
inductive Many (X:Cx) (σ:St) (k:List R->Env->WQ->WX->Prop) (Q:VK) (vs:List V) (H:Hp):Prop
 | mk (F G:Hp) (U:Env) (rs:List R) (P:WQ) (PX:WX) (rel:Rel X.K (U++rs.map slotOf) (σ++vs.map some) F G H) (hl:U.length=σ.length) (rv:RVs σ vs rs) (hk:k rs U P PX) (hok:∀ r U' v F' H',P r U'->Same F F'->Rel X.K (U'++[slotOf r]) (σ++[some v]) F' G H'->RV σ v r->Q v H') (hx:XC X (·=σ) F G PX):Many X σ k Q vs H
theorem many (h:tW X (fun U Q E=>wa U (fun rs U1=>k rs U1 Q E) E) σ H Q):tWA X wa σ H fun vs H1=>Many X σ k Q vs H1:=by
 obtain ⟨F,G,U,P,PX,rel,hw,hok,hx⟩:=h
 exact ⟨F,G,U,_,PX,rel,hw,fun rs U1 vs F1 H1 hp1 s1 r1 h1 rv1=>⟨F1,G,U1,rs,P,PX,r1,h1,rv1,hp1,fun r U' v F' H' a b c d=>hok r U' v F' H' a (s1.trans b) c d,hx.grow s1⟩,hx⟩
theorem zce (h:FA X es wa):FE X (.List es pos) (wLst wa):=fun pn xe hp=>by
 refine PE.imp (zgo (h pn xe hp)) fun σ H Q q=>?_
 refine (many (k:=fun rs U1 Q E=>need (if rs.length<=big then giveAll rs U1 else none) fun p=>Q (.v (.lst p.1)) p.2) q).mono fun vs H1 h1=>?_
 obtain ⟨F,G,U,rs,P,PX,rel,hl,rv,hk,hok,hx⟩:=h1
 obtain ⟨⟨ss,U1⟩,ep,hk⟩:=zab hk
 by_cases hz:rs.length<=big
 ·rw [if_pos hz] at ep
  obtain ⟨F1,s1,l1,l2,r1⟩:=zaO (U':=[]) (σ':=[]) (by simpa using rel) hl rv ep
  refine ⟨by rw [rv.len,sizeLine_eq]; exact le_trans hz (by decide),fun p hp=>hok _ U1 (.ref p) F1 _ hk s1 (Rel.newL (by simpa using r1) (l1.trans hl) hp) trivial⟩
 ·rw [if_neg hz] at ep; cases ep
theorem zeI (h:FA X es wa):FE X (.Tuple es k pos) (wTup wa):=fun pn xe hp=>by
 refine PE.imp (zfJ (h pn xe hp)) fun σ H Q q=>?_
 refine (many (k:=fun rs U1 Q E=>need (if rs.length<=big then giveAll rs U1 else none) fun p=>Q (.v (.sh (.tup (p.1.map S.toD)))) p.2) q).mono fun vs H1 h1=>?_
 obtain ⟨F,G,U,rs,P,PX,rel,hl,rv,hk,hok,hx⟩:=h1
 obtain ⟨⟨ss,U1⟩,ep,hk⟩:=zab hk
 by_cases hz:rs.length<=big
 ·rw [if_pos hz] at ep
  obtain ⟨F1,s1,l1,l2,r1⟩:=zaO (U':=[]) (σ':=[]) (by simpa using rel) hl rv ep
  obtain ⟨F2,s2,rp,r2⟩:=Rel.giveD (U:=U1) (by simpa using r1) (l1.trans hl)
  refine ⟨by rw [rv.len,sizeLine_eq]; exact le_trans hz (by decide),fun p hp=>?_⟩
  have n2:=(r2.free hp).1
  exact hok _ U1 (.ref p) _ _ hk (s1.trans (s2.trans (Same.upd n2))) ((r2.newF hp).push (.tup zaj (rp.mono (Same.upd n2)))) trivial
 ·rw [if_neg hz] at ep; cases ep
end
theorem KP.refl:KP ks σ σ:=fun _ _=>rfl
theorem KP.trans (a:KP ks σ σ1) (b:KP ks σ1 σ2):KP ks σ σ2:=fun i h=>(b i h).trans (a i h)
inductive tWS (X:Cx) (ks:List Nat) (w:WS) (D:L2.Ends) (σ:St) (H:Hp):Prop
 | mk (F G:Hp) (U:Env) (E:Ends) (rel:Rel X.K U σ F G H) (hw:w E U) (n:∀ U' σ' F' H',E.nx U'->KP ks σ σ'->Same F F'->Rel X.K U' σ' F' G H'->D.nx σ' H') (b:∀ U' σ' F' H',E.bk U'->KP ks σ σ'->Same F F'->Rel X.K U' σ' F' G H'->D.bk σ' H') (c:∀ U' σ' F' H',E.ct U'->KP ks σ σ'->Same F F'->Rel X.K U' σ' F' G H'->D.ct σ' H') (r:∀ r U' σ' v F' H',E.rt r U'->KP ks σ σ'->Same F F'->Rel X.K (U'++[slotOf r]) (σ'++[some v]) F' G H'->RV σ' v r->D.rt v H') (hx:XC X (KP ks σ) F G E.ex):tWS X ks w D σ H
def FS (X:Cx) (ks:List Nat) (st:Stmt) (w:WS):Prop:=∀ (pn:List (Addr×Obj)) (xe:Value->Shared->Prop),PassesOwn (model X.prog X.w) X.A X.env xe->PS (wp X pn xe) st (tWS (wp X pn xe) ks w)
def FSs (X:Cx) (ks:List Nat) (st:List Stmt) (w:WS):Prop:=∀ (pn:List (Addr×Obj)) (xe:Value->Shared->Prop),PassesOwn (model X.prog X.w) X.A X.env xe->PSs (wp X pn xe) st (tWS (wp X pn xe) ks w)
theorem PS.imp (h:PS X e t) (k:∀ D σ H,t' D σ H->t D σ H):PS X e t':=fun pins s σ H D I q=>h pins s σ H D I (k D σ H q)
theorem PSs.imp (h:PSs X e t) (k:∀ D σ H,t' D σ H->t D σ H):PSs X e t':=fun pins s σ H D I q=>h pins s σ H D I (k D σ H q)
inductive tWG (X:Cx) (ks:List Nat) (g:WG) (v:V) (σ:St) (H:Hp) (Q:St->Hp->Prop):Prop
 | mk (F G:Hp) (U:Env) (s:S) (P:Env->Prop) (rel:Rel X.K (U++[some s]) (σ++[some v]) F G H) (hw:g s U P) (n:∀ U' σ' F' H',P U'->KP ks σ σ'->Same F F'->Rel X.K U' σ' F' G H'->Q σ' H'):tWG X ks g v σ H Q
def FG (X:Cx) (ks:List Nat) (tg:Expr) (g:WG):Prop:=∀ (pn:List (Addr×Obj)) (xe:Value->Shared->Prop),PassesOwn (model X.prog X.w) X.A X.env xe->PG (wp X pn xe) tg (tWG (wp X pn xe) ks g)
theorem PG.imp (h:PG X e t) (k:∀ v σ H Q,t' v σ H Q->t v σ H Q):PG X e t':=fun pins s σ H v u Q I r q=>h pins s σ H v u Q I r (k v σ H Q q)
section
variable {X:Cx} {ks:List Nat} {st:Stmt} {rest:List Stmt} {w1 w2:WS} {e:Expr} {we:WE} {pos:Pos}
theorem zaC:FSs X ks [] wPass:=fun pn xe hp=>PSs.imp zc9 fun D σ H q=>by
 obtain ⟨F,G,U,E,rel,hw,n,b,c,r,x⟩:=q
 exact n U σ F H hw KP.refl (Same.refl F) rel
theorem zai (h1:FS X ks st w1) (h2:FSs X ks rest w2):FSs X ks (st::rest) (wSeq w1 w2):=fun pn xe hp=>PSs.imp (zd9 (h1 pn xe hp) (h2 pn xe hp)) fun D σ H q=>by
 obtain ⟨F,G,U,E,rel,hw,n,b,c,r,x⟩:=q
 refine ⟨F,G,U,{ E with nx:=w2 E },rel,hw,fun U1 σ1 F1 H1 hp k s1 r1=>?_,b,c,r,x⟩
 exact ⟨F1,G,U1,E,r1,hp,fun U' σ' F' H' h k' s r=>n U' σ' F' H' h (k.trans k') (s1.trans s) r,fun U' σ' F' H' h k' s r=>b U' σ' F' H' h (k.trans k') (s1.trans s) r,
  fun U' σ' F' H' h k' s r=>c U' σ' F' H' h (k.trans k') (s1.trans s) r,fun a U' σ' v F' H' h k' s q rv=>r a U' σ' v F' H' h (k.trans k') (s1.trans s) q rv,x.mono (fun σ2 k'=>k.trans k') s1 (Same.refl G)⟩
theorem zao (h1:FS X ks st w1):FSs X ks [st] w1:=fun pn xe hp=>zcW (h1 pn xe hp)
theorem za0 (h:FE X e we):FS X ks (.Return (some e) pos) (wRet we):=fun pn xe hp=>PS.imp (zgj (h pn xe hp)) fun D σ H q=>by
 obtain ⟨F,G,U,E,rel,hw,n,b,c,r,x⟩:=q
 exact ⟨F,G,U,_,_,rel,hw,fun a U1 v F1 H1 hp s1 r1 rv=>r a U1 σ v F1 H1 hp KP.refl s1 r1 rv,x.mono (fun σ2 z=>by rw [z]; exact KP.refl) (Same.refl F) (Same.refl G)⟩
theorem zbe (hc:FT X c tc) (ha:FSs X ks a w1) (hb:FSs X ks b w2):FS X ks (.If c a b pos) (wIf tc w1 w2):=fun pn xe hp=>PS.imp (zij (hc pn xe hp) (ha pn xe hp) (hb pn xe hp)) fun D σ H q=>by
 obtain ⟨F,G,U,E,rel,hw,n,b,c,r,x⟩:=q
 refine ⟨F,G,U,_,_,rel,hw,fun k U1 F1 H1 hp s1 r1=>?_,x.mono (fun σ2 z=>by rw [z]; exact KP.refl) (Same.refl F) (Same.refl G)⟩
 have go:∀ w:WS,w E U1->tWS (wp X pn xe) ks w D σ H1:=fun w hw=>⟨F1,G,U1,E,r1,hw,fun U' σ' F' H' h k' s r=>n U' σ' F' H' h k' (s1.trans s) r,fun U' σ' F' H' h k' s r=>b U' σ' F' H' h k' (s1.trans s) r,
  fun U' σ' F' H' h k' s r=>c U' σ' F' H' h k' (s1.trans s) r,fun a U' σ' v F' H' h k' s q rv=>r a U' σ' v F' H' h k' (s1.trans s) q rv,x.grow s1⟩
 cases k with
 | true=>exact go _ hp
 | false=>exact go _ hp
theorem zaX (he:FE X e we) (hg:FG X ks tg g) (hs:swapsWithSole [tg] e pos.line X.env=pure false:=by rfl) (hw:swappedStores [tg] e X.env=pure none:=by rfl)
  (h1:(assignEach [tg] X.env).map (·.2)=[assign tg X.env]:=by rfl):FS X ks (.Assign [tg] e pos) (wAsg g we):=fun pn xe hp=>PS.imp (zeG (he pn xe hp) (hg pn xe hp) hs hw h1) fun D σ H q=>by
 obtain ⟨F,G,U,E,rel,hw,n,b,c,r,x⟩:=q
 refine ⟨F,G,U,_,_,rel,hw,fun a U1 v F1 H1 hp s1 r1 rv=>?_,x.mono (fun σ2 z=>by rw [z]; exact KP.refl) (Same.refl F) (Same.refl G)⟩
 obtain ⟨⟨s,U2⟩,eg,hk⟩:=zab hp
 obtain ⟨F2,s2,l2,r2⟩:=giveR (U':=[]) (σ':=[]) r1 (len1 r1) rv eg
 exact ⟨F2,G,U2,s,_,r2,hk,fun U' σ' F' H' h k' s r=>n U' σ' F' H' h k' (s1.trans (s2.trans s)) r⟩
end
theorem zbh (I:Inv X pins σ H s) (hN:∀ j,X.N[j]?=some x->j=i) (hi:X.N[i]?=some x) (hx:Loc X.env.scope x) (r:RelV v u)
  (h:∀ s',Inv X pins (σ.set i (some v)) H s'->(∃ a,Heap.SameBut a s.heap s'.heap/\(a=X.env.locals\/X.env.cells.lookup x=some a))->Q () s') (hf:X.fn x=true\/X.env.scope.names.lookup x=some .local):wpAny M A (storeName X.env x u) Q E s:=by
 obtain ⟨m,hn,hl⟩:=id I.loc
 have hcls:(X.env.scope.kind == .class || (X.env.scope.kind == .module && X.env.locals !=X.env.globals))=false:=by rw [I.ok.kind]; rfl
 have hiσ:i < σ.length:=by rw [I.len]; exact (qg.mp hi).1
 have cne:=I.cne
 have tracked:∀ {a:Addr} {h':Heap},(∃ o,s.heap.get? a=some o/\H a=none)->Heap.SameBut a s.heap h'->HOk X.prog X.w H h':=fun {a h'} ha hs b ob e=>by
  obtain ⟨_,_,hfree⟩:=ha
  refine (I.hok b ob e).stay (fun c w' hc q=>(hs.2 c ?_).trans q) (fun _ q=>q) fun _ _ q=>q
  rintro rfl
  rcases hc with rfl | hc
  ·rw [hfree] at e; cases e
  ·rw [hfree] at hc; cases hc
 rcases hx with hk | hk
 ·refine wpAny_storeName_local hk hn (fun h' hn' hs=>?_) hcls
  obtain ⟨oL,_,_,hoL,_⟩:=id hn
  refine h _ ⟨I.ok,I.os,I.bare,⟨fun b o e n hb hx=>?_,fun b o e n hb hx=>?_,I.base.free,fun b o e hx=>?_,I.base.tups,I.base.frzs,I.base.tbls⟩,⟨_,hn',fun j y v' e1 e2 e3=>?_⟩,fun y c e=>?_,I.free,I.freeC,fun p hp=>?_,tracked ⟨oL,hoL,I.free⟩ hs,by simpa using I.len⟩ ⟨_,hs,.inl rfl⟩
  ·exact (hs.2 b (ne_of_lt (lt_of_lt_of_le (qe e) I.ok.above))).trans (I.base.keep b o e n hb hx)
  ·obtain ⟨sl,e1⟩:=I.base.slot b o e n hb hx
   exact ⟨sl,(hs.2 b (ne_of_lt (lt_of_lt_of_le (qe e) I.ok.above))).trans e1⟩
  ·obtain ⟨o',e1⟩:=I.base.there b o e hx
   exact ⟨o',(hs.2 b (ne_of_lt (lt_of_lt_of_le (qe e) I.ok.above))).trans e1⟩
  ·by_cases hj:j=i
   ·subst hj
    rw [hi] at e1; cases e1
    rw [getElem?_set_self hiσ] at e2
    cases e2
    exact ⟨u,r,.inl ⟨hk,by simp⟩⟩
   ·rw [getElem?_set_ne (Ne.symm hj)] at e2
    obtain ⟨u',r',q⟩:=hl j y v' e1 e2 e3
    refine ⟨u',r',?_⟩
    rcases q with ⟨k,e⟩ | ⟨k,c,e,z⟩
    ·refine .inl ⟨k,?_⟩
     have:y≠x:=fun e=>hj (hN j (e ▸ e1))
     simp [this,e]
    ·exact .inr ⟨k,c,e,z.sameBut hs (cne y c e)⟩
  ·obtain ⟨w',z⟩:=I.cell y c e
   exact ⟨w',z.sameBut hs (cne y c e)⟩
  ·obtain ⟨e,n,ne,nf,d⟩:=I.pin p hp
   exact ⟨(hs.2 p.1 ne).trans e,n,ne,nf,d⟩
 ·have hfn:X.fn x=true:=by
   rcases hf with z | z
   ·exact z
   ·rw [z] at hk; cases hk
  obtain ⟨c,hc⟩:=I.ok.has x (.inl hk)
  obtain ⟨w',z⟩:=I.cell x c hc
  refine wpAny_storeName_cell I.ok.kind hk hc z (fun h' hc' hs=>?_)
  obtain ⟨oc,hoc,hocd⟩:=id z
  refine h { s with heap:=h' } ⟨I.ok,I.os,I.bare,⟨fun b o e n hb hx=>?_,fun b o e n hb hx=>?_,I.base.free,fun b o e hx=>?_,I.base.tups,I.base.frzs,I.base.tbls⟩,⟨m,hn.sameBut hs (Ne.symm (cne x c hc)),fun j y v' e1 e2 e3=>?_⟩,fun y c' e=>?_,I.free,I.freeC,fun p hp=>?_,tracked ⟨oc,hoc,I.freeC x c hc⟩ hs,by simpa using I.len⟩ ⟨c,hs,.inr hc⟩
  ·exact (hs.2 b (ne_of_lt (lt_of_lt_of_le (qe e) (I.ok.cab x c hfn hc)))).trans (I.base.keep b o e n hb hx)
  ·obtain ⟨sl,e1⟩:=I.base.slot b o e n hb hx
   exact ⟨sl,(hs.2 b (ne_of_lt (lt_of_lt_of_le (qe e) (I.ok.cab x c hfn hc)))).trans e1⟩
  ·obtain ⟨o',e1⟩:=I.base.there b o e hx
   exact ⟨o',(hs.2 b (ne_of_lt (lt_of_lt_of_le (qe e) (I.ok.cab x c hfn hc)))).trans e1⟩
  ·by_cases hj:j=i
   ·subst hj
    rw [hi] at e1; cases e1
    rw [getElem?_set_self hiσ] at e2
    cases e2
    exact ⟨u,r,.inr ⟨.inl hk,c,hc,hc'⟩⟩
   ·rw [getElem?_set_ne (Ne.symm hj)] at e2
    obtain ⟨u',r',q⟩:=hl j y v' e1 e2 e3
    refine ⟨u',r',?_⟩
    rcases q with q | ⟨k,c',e,z'⟩
    ·exact .inl q
    ·refine .inr ⟨k,c',e,z'.sameBut hs ?_⟩
     rintro rfl
     exact hj (hN j (I.ok.inj _ _ _ e hc ▸ e1))
  ·by_cases hcc:c'=c
   ·subst hcc; exact ⟨_,hc'⟩
   ·obtain ⟨w2,z2⟩:=I.cell y c' e
    exact ⟨w2,z2.sameBut hs hcc⟩
  ·obtain ⟨e,n,ne,nf,d⟩:=I.pin p hp
   refine ⟨(hs.2 p.1 ?_).trans e,n,ne,nf,d⟩
   intro q
   rw [q,hoc] at e
   have q':oc=p.2:=qf e
   exact d w' (by rw [<- q']; exact hocd)
section
variable {X:Cx} {ks:List Nat} {pos:Pos}
theorem KP.set (h:i∉ks):KP ks σ (σ.set i u):=fun j hj=>getElem?_set_ne (fun (z:i=j)=>h (z ▸ hj))
theorem zcS (hk:i∉ks) (hN:∀ j,X.N[j]?=some x->j=i) (hi:X.N[i]?=some x) (hx:Loc X.env.scope x) (hf:X.fn x=true\/X.env.scope.names.lookup x=some .local):FG X ks (.Name x pos) (gName i):=by
 intro pn xe hp pins s σ H v u Q I rv q
 obtain ⟨F,G,U,t,P,rel,hw,n⟩:=q
 have hl:=len1 rel
 have hiU:i < U.length:=by rw [hl,I.len]; exact (qg.mp hi).1
 exact wpAny_assign_Name (zbh (X:=wp X pn xe) I hN hi hx rv (fun s' I' _=>⟨_,H,I',n _ _ F H hw (KP.set hk) (Same.refl F) (rel.store hl hiU)⟩) hf)
inductive tWGs (X:Cx) (ks:List Nat) (gs:List WG) (vs:List V) (σ:St) (H:Hp) (Q:St->Hp->Prop):Prop
 | mk (F G:Hp) (U:Env) (ds:List D) (P:Env->Prop) (rel:Rel X.K U σ F G H) (rp:Reps X.K F vs ds) (hw:gTups gs ds U P) (n:∀ U' σ' F' H',P U'->KP ks σ σ'->Same F F'->Rel X.K U' σ' F' G H'->Q σ' H'):tWGs X ks gs vs σ H Q
def FGs (X:Cx) (ks:List Nat) (tg:List Expr) (g:List WG):Prop:=∀ (pn:List (Addr×Obj)) (xe:Value->Shared->Prop),PassesOwn (model X.prog X.w) X.A X.env xe->PGs (wp X pn xe) tg (tWGs (wp X pn xe) ks g)
theorem zcI:FGs X ks [] []:=fun pn xe hp pins s σ H vs us Q I r q=>by
 obtain ⟨F,G,U,ds,P,rel,rp,hw,n⟩:=q
 refine zeK pins s σ H vs us Q I r ?_
 cases rp with
 | nil=>exact ⟨rfl,n U σ F H hw KP.refl (Same.refl F) rel⟩
 | cons a b=>exact hw.elim
theorem zbc (h1:FG X ks e g) (h2:FGs X ks es gs)
  (hs:(assignEach (e::es) X.env).map (·.2)=assign e X.env::(assignEach es X.env).map (·.2):=by rfl):FGs X ks (e::es) (g::gs):=fun pn xe hp pins s σ H vs us Q I r q=>by
 obtain ⟨F,G,U,ds,P,rel,rp,hw,n⟩:=q
 refine zdX (X:=wp X pn xe) (h1 pn xe hp) (h2 pn xe hp) hs pins s σ H vs us Q I r ?_
 cases rp with
 | nil=>exact hw.elim
 | cons a b=>
   refine ⟨_,_,rfl,F,G,U,_,_,rel.push a,hw,fun U1 σ1 F1 H1 hp k s1 r1=>⟨F1,G,U1,_,P,r1,b.mono s1,hp,fun U' σ' F' H' h k' s r=>n U' σ' F' H' h (k.trans k') (s1.trans s) r⟩⟩
theorem Reps.len {K:W.Frag} (r:Reps K F xs ds):xs.length=ds.length:=Reps.ind (P:=fun xs ds=>xs.length=ds.length) rfl (fun _ _ ih=>congrArg (· + 1) ih) r
theorem zeA (hc:X.calm=true) (h:FGs X ks es gs) (hn:(assignEach es X.env).length=gs.length:=by rfl) (hst:(assignEach es X.env).findIdx? (·.1)=none:=by rfl):FG X ks (.Tuple es k pos) (gTup gs):=fun pn xe hp=>by
 refine PG.imp (zgu (X:=wp X pn xe) hc (h pn xe hp) hn hst) fun v σ H Q q=>?_
 obtain ⟨F,G,U,s,P,rel,hw,n⟩:=q
 obtain ⟨F1,s1,rp,r1⟩:=Rel.giveD (U:=U) (vs:=[v]) (ss:=[s]) rel (len1 rel)
 cases rp with
 | cons a b=>
   have hw':(match s.toD with | .tup ds=>ds.length=gs.length/\gTups gs ds U P | _=>False):=hw
   generalize s.toD=d at a hw'
   cases a with
   | tup e r=>exact ⟨_,_,rfl,SqT.of (r1.fr _ _ e),by rw [r.len]; exact hw'.1,F1,G,U,_,P,r1,r,hw'.2,fun U' σ' F' H' h k' s r=>n U' σ' F' H' h k' (s1.trans s) r⟩
   | _=>exact hw'.elim
end
def ItOk (K:W.Frag) (J:It) (l:List D) (F0:Hp):Prop:=∀ (i:Nat) (U:Env) (σ:St) (F G H:Hp),Same F0 F->Rel K U σ F G H->
 (∀ d,l[i]?=some d->J.go i H/\∀ x H',J.yld i H x H'->∃ F',Same F F'/\Rel K U σ F' G H'/\Rep K F' x d)/\(l.length<=i->J.stop i H)
inductive tWI (X:Cx) (wi:WI) (σ:St) (H:Hp) (R:It->Hp->Prop):Prop
 | mk (F G:Hp) (U:Env) (P:List D->Env->Prop) (PX:WX) (rel:Rel X.K U σ F G H) (hw:wi U P PX) (hok:∀ l U' F' H' J,P l U'->Same F F'->Rel X.K U' σ F' G H'->ItOk X.K J l F'->R J H') (hx:XC X (·=σ) F G PX):tWI X wi σ H R
def FI (X:Cx) (tg iter:Expr) (wi:WI):Prop:=∀ (pn:List (Addr×Obj)) (xe:Value->Shared->Prop),PassesOwn (model X.prog X.w) X.A X.env xe->PI (wp X pn xe) tg iter (tWI (wp X pn xe) wi)
theorem PI.imp (h:PI X tg e t) (k:∀ σ H R,t' σ H R->t σ H R):PI X tg e t':=fun pins s σ H R I q=>h pins s σ H R I (k σ H R q)
theorem Reps.get {K:W.Frag} {i:Nat} (r:Reps K F xs ds) (h:ds[i]?=some d):∃ x,xs[i]?=some x/\Rep K F x d:=
 Reps.ind (P:=fun xs ds=>∀ i d,ds[i]?=some d->∃ x,xs[i]?=some x/\Rep K F x d) (fun _ _ e=>by cases e) (fun a _ ih i d e=>by
  cases i with
  | zero=>cases e; exact ⟨_,rfl,a⟩
  | succ i=>exact ih i d e) r i d h
section
variable {X:Cx} {tg e:Expr} {we:WE} {pos:Pos} {K:W.Frag}
theorem zbp (e:SqL K F0 a xs) (r:Reps K F0 xs l):ItOk K (Itl K a) l F0:=fun i U σ F G H sm rel=>by
 have e':SqL K H a xs:=SqL.mono (sm.trans rel.fr) e
 refine ⟨fun d hd=>?_,fun h=>⟨xs,e',by rw [r.len]; exact h⟩⟩
 obtain ⟨x,hx,rx⟩:=r.get hd
 refine ⟨⟨xs,x,e',hx⟩,fun y H' hy=>?_⟩
 obtain ⟨rfl,hy⟩:=hy
 have:x=y:=qf (hx.symm.trans (hy xs e'))
 subst this
 exact ⟨F,Same.refl F,rel,rx.mono sm⟩
theorem zdQ (e:SqT K F0 a xs) (r:Reps K F0 xs l):ItOk K (Itt K a) l F0:=fun i U σ F G H sm rel=>by
 have e':SqT K H a xs:=SqT.mono (sm.trans rel.fr) e
 refine ⟨fun d hd=>?_,fun h=>⟨xs,e',by rw [r.len]; exact h⟩⟩
 obtain ⟨x,hx,rx⟩:=r.get hd
 refine ⟨⟨xs,x,e',hx⟩,fun y H' hy=>?_⟩
 obtain ⟨rfl,hy⟩:=hy
 have:x=y:=qf (hx.symm.trans (hy xs e'))
 subst this
 exact ⟨F,Same.refl F,rel,rx.mono sm⟩
theorem zcC {lo:Int} (h:(fromTo lo n)[i]?=some d):i < n/\d=.int (lo + i):=by
 unfold fromTo at h
 rw [getElem?_map] at h
 by_cases hi:i < n
 ·rw [List.getElem?_range hi] at h
  exact ⟨hi,(qf h).symm⟩
 ·rw [getElem?_eq_none (by simpa using hi)] at h; cases h
theorem zcw {lo:Int}:ItOk K (Itr lo n) (fromTo lo n) F0:=fun i U σ F G H sm rel=>by
 refine ⟨fun d hd=>?_,fun h=>?_⟩
 ·obtain ⟨hi,rfl⟩:=zcC hd
  refine ⟨hi,fun x H' hy=>?_⟩
  obtain ⟨rfl,rfl⟩:=hy
  exact ⟨F,Same.refl F,rel,.int _⟩
 ·have:n<=i:=by simpa [fromTo] using h
  exact this
end
def Its (x:Str):It:=⟨fun i _=>i < x.cps.size,fun i H v H'=>H'=H/\∃ c,x.cps[i]?=some c/\v=.str ⟨#[c]⟩,fun i _=>x.cps.size<=i⟩
theorem zdH {P:Program} {w:World} {K:W.Frag} {tg:Expr} (it:Addr) (x:Str) (t:Tok) (ty:String) (hty:ty="str_ascii_iterator"\/ty="str_iterator"):Turn P w K tg (Its x) [it] it (fun i h=>h.IsStrIter it ty x t i) where
 mem:=by simp
 obj:=fun i h st b hb=>by
  have e:b=it:=by simpa using hb
  subst e
  obtain ⟨o,e,c,d⟩:=st
  exact ⟨o,e,fun v z=>by rw [d] at z; cases z⟩
 keep:=fun i h h' st k=>by
  obtain ⟨o,e,r⟩:=st
  exact ⟨o,k it (by simp) o e,r⟩
 item:=by
  intro X hP hw hK hc i pins s σ H E I hf st hg
  subst hP hw hK
  obtain ⟨f0,f1,f2,f3,f4,f5⟩:=hf it (by simp)
  have W:Walks X.prog X.w X.A it [it] [it] x.cps.size (SignAt x) (fun i h=>h.IsStrIter it ty x t i):=by
   rcases hty with rfl | rfl
   ·exact Walks.strAscii (I.ok.hd hc) it x t
   ·exact Walks.strWide (I.ok.hd hc) it x t
  refine W.item i s _ _ hg st fun v h' tk hv st' kk=>?_
  obtain ⟨c,u,e1,rfl⟩:=hv
  have I1:Inv X pins σ H { s with heap:=h',toks:=tk }:=I.turned (fun b o hb e=>kk b o (by simpa using hb) e) f0 f1 f3 f4 f5
  obtain ⟨o,e,cl,d⟩:=id st'
  exact ⟨_,rfl,zdL (s:={ s with heap:=h',toks:=tk }) e cl d (by rcases hty with rfl | rfl <;> decide) ⟨.str ⟨#[c]⟩,H,I1,⟨u,rfl⟩,⟨rfl,c,e1,rfl⟩,st',fun b hb=>(hf b hb).1⟩⟩
 done:=by
  intro X hP hw hK hc i pins s σ H E I hf st hg
  subst hP hw hK
  obtain ⟨f0,f1,f2,f3,f4,f5⟩:=hf it (by simp)
  have hn:x.cps[i]?=none:=by
   have:x.cps.size<=i:=hg
   simp [this]
  rcases hty with rfl | rfl
  ·exact wpAny_pyNext_ascii_end (I.ok.hd hc) st hn fun h' eb=>⟨rfl,I.turned (t':=s.toks) (fun b o hb e=>eb b o hb e) f0 f1 f3 f4 f5⟩
  ·exact wpAny_pyNext_wide_end (I.ok.hd hc) st hn fun h' eb=>⟨rfl,I.turned (t':=s.toks) (fun b o hb e=>eb b o hb e) f0 f1 f3 f4 f5⟩
 self:=fun A i s Q E st h=>by
  rcases hty with rfl | rfl
  ·exact wpAny_pyIter_striter_ascii st h
  ·exact wpAny_pyIter_striter_wide st h
def iAny (K:W.Frag) (tl:TE):TI:=fun σ H R=>tl σ H fun v H1=>(∃ a,v=.ref a/\(∃ xs,SqL K H1 a xs)/\R (Itl K a) H1)\/(∃ a,v=.ref a/\(∃ xs,SqT K H1 a xs)/\R (Itt K a) H1)\/∃ x,v=.str x/\R (Its x) H1
theorem zfI (hl:PE X l tl):PI X tg l (iAny X.K tl):=by
 intro pins s σ H R I h
 refine thn (hl pins s σ H _ I h) fun v s1 zq=>?_
 obtain ⟨y,H1,I1,r1,q1⟩:=zq
 rcases q1 with ⟨a,e,⟨xs,hq⟩,q⟩ | ⟨a,e,⟨xs,hq⟩,q⟩ | ⟨x,e,q⟩
 ·subst e
  cases r1
  obtain ⟨its,rv,p,hz⟩:=I1.list hq
  refine wpAny_pyIter_list p.isList ?_
  refine ⟨s1.heap.objs.size,[s1.heap.objs.size],_,_,H1,rfl,I1.kept (t':=s1.toks) fun b o e=>qc _ e,zcM a _,⟨_,qd _ rfl,rfl,rfl⟩,fun b hb=>?_,q⟩
  have e:b=s1.heap.objs.size:=by simpa using hb
  subst e
  exact I1.fpOk (le_refl _) (I1.hok.fresh (le_refl _))
 ·subst e
  cases r1
  obtain ⟨its,rv,p,hz⟩:=I1.tuple hq
  refine wpAny_pyIter_tuple (show s1.heap.IsTuple a its.toArray from p) ?_
  refine ⟨s1.heap.objs.size,[s1.heap.objs.size],_,_,H1,rfl,I1.kept (t':=s1.toks) fun b o e=>qc _ e,zct a _,⟨_,qd _ rfl,rfl,rfl⟩,fun b hb=>?_,q⟩
  have e:b=s1.heap.objs.size:=by simpa using hb
  subst e
  exact I1.fpOk (le_refl _) (I1.hok.fresh (le_refl _))
 ·subst e
  obtain ⟨t,rfl⟩:=r1
  have fin:∀ (ty:String) (o:Obj),(ty="str_ascii_iterator"\/ty="str_iterator")->o.cls=.type ty->o.data=.fields #[.str x t,.int 0 0]->o.isFreed=false->PIE X pins σ tg R (.ref s1.heap.objs.size) { s1 with heap:=s1.heap.push o }:=fun ty o hty hc hd hf=>by
   refine ⟨s1.heap.objs.size,[s1.heap.objs.size],_,_,H1,rfl,I1.kept (t':=s1.toks) fun b o e=>qc _ e,zdH _ x t ty hty,⟨_,qd _ hf,hc,hd⟩,fun b hb=>?_,q⟩
   have e:b=s1.heap.objs.size:=by simpa using hb
   subst e
   exact I1.fpOk (le_refl _) (I1.hok.fresh (le_refl _))
  cases ha:x.cps.all (· < 128)
  ·exact wpAny_pyIter_wide ha (fin "str_iterator" _ (.inr rfl) rfl rfl rfl)
  ·exact wpAny_pyIter_ascii ha (fin "str_ascii_iterator" _ (.inl rfl) rfl rfl rfl)
section
variable {X:Cx} {tg e:Expr} {we:WE} {pos:Pos} {K:W.Frag}
theorem zbJ (e:x.cps.toList=l):ItOk K (Its x) (l.map fun c=>.str [c]) F0:=fun i U σ F G H sm rel=>by
 have hs:x.cps.size=l.length:=by rw [<- e]; simp
 refine ⟨fun d hd=>?_,fun h=>by show x.cps.size<=i; rw [hs]; simpa using h⟩
 rw [getElem?_map] at hd
 cases q:l[i]? with
 | none=>rw [q] at hd; cases hd
 | some c=>
   rw [q] at hd
   have hd':D.str [c]=d:=qf hd
   have hi:i < l.length:=(qg.mp q).1
   have hx:x.cps[i]?=some c:=by rw [<- Array.getElem?_toList,e]; exact q
   refine ⟨by show i < x.cps.size; rw [hs]; exact hi,fun y H' hy=>?_⟩
   obtain ⟨rfl,c',e1,rfl⟩:=hy
   rw [hx] at e1
   have:c=c':=qf e1
   subst this
   rw [<- hd']
   exact ⟨F,Same.refl F,rel,.str rfl (by show 1<=_; decide)⟩
theorem zgm (h:FE X e we):FI X tg e (wIter we):=fun pn xe hp=>by
 refine PI.imp (zfI (h pn xe hp)) fun σ H R q=>?_
 obtain ⟨F,G,U,P,PX,rel,hw,hok,hx⟩:=q
 refine ⟨F,G,U,_,PX,rel,hw,fun r U1 v F1 H1 hk s1 r1 rv=>?_,hx⟩
 obtain ⟨⟨s,U2⟩,eg,hk⟩:=zab hk
 obtain ⟨l,el,hk⟩:=zab hk
 obtain ⟨F2,s2,l2,r2⟩:=giveR (U':=[]) (σ':=[]) r1 (len1 r1) rv eg
 obtain ⟨F3,s3,rp,r3⟩:=Rel.giveD (U:=U2) (vs:=[v]) (ss:=[s]) r2 (len1 r2)
 have sm:=s1.trans (s2.trans s3)
 cases rp with
 | cons a b=>
   have el':items s.toD=some l:=el
   generalize s.toD=d at a el'
   cases a with
   | lst e r=>
     have:l=_:=(qf el').symm
     subst this
     exact .inl ⟨_,rfl,⟨_,SqL.mono r3.fr e⟩,hok _ U2 F3 H1 _ hk sm r3 (zbp e r)⟩
   | tup e r=>
     have:l=_:=(qf el').symm
     subst this
     exact .inr (.inl ⟨_,rfl,⟨_,SqT.of (r3.fr _ _ e)⟩,hok _ U2 F3 H1 _ hk sm r3 (zdQ (SqT.of e) r)⟩)
   | str e z=>
     have:l=_:=(qf el').symm
     subst this
     exact .inr (.inr ⟨_,rfl,hok _ U2 F3 H1 _ hk sm r3 (zbJ e)⟩)
   | _=>cases el'
theorem zbn (hg:Gl X "range") (hm:X.mg "range"=none) (ha:FE X a we) (hs:starEach [a] X.env=[(false,eval a X.env)]:=by rfl):FI X tg (.Call (.Name "range" p) [a] [] pos) (wRange1 we):=fun pn xe hp=>by
 refine PI.imp (zc3 (X:=wp X pn xe) hg hm (zad ha zau hs pn xe hp) hs) fun σ H R q=>?_
 obtain ⟨F,G,U,P,PX,rel,hw,hok,hx⟩:=q
 refine ⟨F,G,U,fun rs U1=>match rs with | [r]=>(match view r U1 with | some (.int j)=>(-big<=j/\j<=big)/\P (fromTo 0 j.toNat) U1 | _=>False) | _=>False,PX,rel,hw,fun rs U1 vs F1 H1 hk s1 r1 hl rv=>?_,hx⟩
 match rs,vs,rv,r1,hk with
 | [r],[v],rv,r1,hk=>
   dsimp only at hk
   split at hk
   ·rename_i j ej
    have rp:=look (U':=[]) (σ':=[]) r1 hl rv.1 ej
    cases rp
    obtain ⟨⟨h1,h2⟩,hk⟩:=hk
    have eb:(big:Int)=1000000:=rfl
    rw [eb] at h1 h2
    exact ⟨j,rfl,by lia,by lia,hok _ U1 F1 H1 _ hk s1 ((show Rel X.K (U1++[slotOf r]) (σ++[some (.int j)]) F1 G H1 from r1).drop hl) zcw⟩
   ·exact hk.elim
 | [],_,_,_,hk=>exact hk.elim
 | [_],[],rv,_,_=>exact rv.elim
 | [_],_::_::_,rv,_,_=>exact rv.2.elim
 | _::_::_,_,_,_,hk=>exact hk.elim
end
section
variable {X:Cx} {ks:List Nat} {tg iter:Expr} {body:List Stmt} {wi:WI} {g:WG} {wb:WS} {pos:Pos}
theorem zeB (hc:X.calm=true) (hi:FI X tg iter wi) (hg:FG X ks tg g) (hb:FSs X ks body wb) (hs:∀ x,foldedSetIterable iter X.env x=pure x:=by intro _; rfl):FS X ks (.For tg iter body [] pos) (wFor wi g wb):=fun pn xe hp=>by
 refine PS.imp (zfR (X:=wp X pn xe) hp hc (hi pn xe hp) (hg pn xe hp) (hb pn xe hp) hs) fun D σ H q=>?_
 obtain ⟨F,G,U,E,rel,hw,n,b,c,r,x⟩:=q
 refine ⟨F,G,U,_,_,rel,hw,fun l U1 F1 H1 J hk s1 r1 it=>?_,x.mono (fun σ2 z=>by rw [z]; exact KP.refl) (Same.refl F) (Same.refl G)⟩
 refine ⟨fun i m σ2 H2=>m=l.length - i/\i<=l.length/\∃ F2 U2,KP ks σ σ2/\Same F1 F2/\Rel X.K U2 σ2 F2 G H2/\wLoop g wb (l.drop i) E U2,⟨l.length,by simp,zero_le _,F1,U1,KP.refl,Same.refl F1,r1,by simpa using hk⟩,?_⟩
 rintro i m σ2 H2 ⟨rfl,hi,F2,U2,kp,s2,r2,hw2⟩
 obtain ⟨it1,it2⟩:=it i U2 σ2 F2 G H2 s2 r2
 by_cases hlt:i < l.length
 ·obtain ⟨go,yld⟩:=it1 l[i] (by simp [hlt])
  refine .inr ⟨go,fun σ3 H3=>i + 1<=l.length/\∃ F3 U3,KP ks σ σ3/\Same F1 F3/\Rel X.K U3 σ3 F3 G H3/\wLoop g wb (l.drop (i + 1)) E U3,fun σ3 H3 h=>⟨l.length - (i + 1),by lia,rfl,h⟩,fun y H3 hy=>?_⟩
  obtain ⟨F3,s3,r3,rp⟩:=yld y H3 hy
  rw [List.drop_eq_getElem_cons hlt] at hw2
  refine ⟨F3,G,U2,_,_,r3.push rp,hw2,fun U4 σ4 F4 H4 hp4 k4 s4 r4=>?_⟩
  have kp4:=kp.trans k4
  have sm4:=s1.trans (s2.trans (s3.trans s4))
  exact ⟨F4,G,U4,_,r4,hp4,fun U' σ' F' H' h k' s r=>⟨hlt,F',U',kp4.trans k',s2.trans (s3.trans (s4.trans s)),r,h⟩,fun U' σ' F' H' h k' s r=>n U' σ' F' H' h (kp4.trans k') (sm4.trans s) r,
   fun U' σ' F' H' h k' s r=>⟨hlt,F',U',kp4.trans k',s2.trans (s3.trans (s4.trans s)),r,h⟩,fun a U' σ' v F' H' h k' s q rv=>r a U' σ' v F' H' h (kp4.trans k') (sm4.trans s) q rv,x.mono (fun σ5 k'=>kp4.trans k') sm4 (Same.refl G)⟩
 ·have e:i=l.length:=Nat.le_antisymm hi (not_lt.mp hlt)
  subst e
  rw [List.drop_length] at hw2
  exact .inl ⟨it2 (le_refl _),n U2 σ2 F2 H2 hw2 kp (s1.trans s2) r2⟩
end
inductive spW (K:W.Frag) (f:WF) (n:Nat) (vs:List V) (H:Hp) (Q:VK) (Z:XK):Prop
 | mk (F G:Hp) (ss:List S) (P:S->List S->Prop) (PX:D->List S->Prop) (hn:vs.length=n) (rel:Rel K (ss.map some) (vs.map some) F G H) (hw:f ss P PX) (hok:∀ s ss' v F' H',P s ss'->Same F F'->ss'.length=ss.length->Rel K (ss'.map some++[some s]) (vs.map some++[some v]) F' G H'->Q v H') (hex:∀ d ss' F' H' C dx,PX d ss'->Same F F'->ss'.length=ss.length->Rel K (ss'.map some) (vs.map some) F' G H'->clsD K F' d C dx->Z (.ref C) dx H'):spW K f n vs H Q Z
section
variable {K:W.Frag} {F F' H H' G G':Hp} {σ σ':St} {v u:V}
theorem Rel.comm (h:U.length=σ.length) (r:Rel K (U++U') (σ++σ') F G H):Rel K (U'++U) (σ'++σ) F G H:=by
 have:=Rel.swap (U:=[]) (σ:=[]) (U1:=U) (σ1:=σ) (U2:=U') (σ2:=σ') rfl h (by simpa using r)
 simpa using this
theorem Rel.lend (r:Rel K (U++(none::U')) (σ++(some v::σ')) F G H) (h:U.length=σ.length) (hs:slot U i=some s) (hv:σ[i]?=some (some v)):
  Rel K (U.set i none++(some s::U')) (σ++(some v::σ')) F G H:=by
 obtain ⟨fp,e,nd,ap⟩:=r.en
 obtain ⟨f1,f2,rfl,a,b⟩:=e.cut h
 obtain ⟨v',fa,fi,fb,e1,rfl,q,up⟩:=a.at hs
 rw [hv] at e1
 have e2:v=v':=by simpa using e1
 subst e2
 have a2:=up (F':=F) (H':=H) (o:=none) (u:=some v) (fi':=[]) (Same.refl F) (fun _ _=>rfl) (.no .nil)
 have es:σ.set i (some v)=σ:=by
  apply ext_getElem?
  intro j
  by_cases hj:i=j
  ·subst hj
   rw [getElem?_set_self (qg.mp hv).1,hv]
  ·rw [getElem?_set_ne hj]
 rw [es] at a2
 cases b with
 | no b=>
   have p:((fa++([]++fb))++(fi++f2)).Perm ((fa++(fi++fb))++f2):=by
    simp only [nil_append,append_assoc]
    refine List.Perm.append_left _ ?_
    rw [<- append_assoc,<- append_assoc fi]
    exact List.Perm.append_right _ perm_append_comm
   exact ⟨r.fr,r.gr,_,a2.app (.so q b),p.nodup_iff.mpr nd,fun x hx=>ap x (p.mem_iff.mp hx)⟩
theorem Rel.back1 (r:Rel K (U++(some s::U')) (σ++(some v::σ')) F G H) (h:U.length=σ.length) (hv:σ[i]?=some (some v)):Rel K (U.set i (some s)++U') (σ++σ') F G H:=by
 have hi:i < σ.length:=(qg.mp hv).1
 have es:σ.set i (some v)=σ:=by
  apply ext_getElem?
  grind
 have hl:U'.length=σ'.length:=by
  have:=r.len
  grind
 have r1:=Rel.swap (U1:=[some s]) (σ1:=[some v]) (U2:=U') (σ2:=σ') h rfl r
 rw [<- append_assoc,<- append_assoc] at r1
 have r2:=Rel.store (i:=i) r1 (by simp [h,hl]) (by simp [h]; lia)
 grind
theorem zdr:∀ {rs:List R} {vs:List V} {ms:List Bool} {U U' U1:Env} {ss:List S} {F:Hp} {σ':St},Rel K (U++(rs.map slotOf++U')) (σ++(vs.map some++σ')) F G H->U.length=σ.length->RVs σ vs rs->prep ms rs U=some (ss,U1)->
  ∃ F',Same F F'/\U1.length=U.length/\ss.length=rs.length/\Rel K (U1++(ss.map some++U')) (σ++(vs.map some++σ')) F' G H
 | [],[],ms,U,U',U1,ss,F,σ',r,h,_,e=>by
   have e':some (([]:List S),U)=some (ss,U1):=by cases ms <;> exact e
   cases e'
   exact ⟨F,Same.refl F,rfl,rfl,r⟩
 | [],_::_,_,_,_,_,_,_,_,_,_,h,_=>h.elim
 | _::_,[],_,_,_,_,_,_,_,_,_,h,_=>h.elim
 | x::rs,v::vs,ms,U,U',U1,ss,F,σ',r,h,rv,e=>by
   -- the first one,as it is handed on
   have first:∃ s U2 ts F1,prep ms.tail rs U2=some (ts,U1)/\ss=s::ts/\Same F F1/\U2.length=U.length/\Rel K (U2++(some s::(rs.map slotOf++U'))) (σ++(some v::(vs.map some++σ'))) F1 G H:=by
    cases x with
    | v s=>
      have e':(match prep ms.tail rs U with | some (ss,U1)=>some (s::ss,U1) | none=>none)=some (ss,U1):=by cases ms <;> exact e
      cases q:prep ms.tail rs U with
      | none=>rw [q] at e'; cases e'
      | some p=>
        obtain ⟨ts,U3⟩:=p
        rw [q] at e'
        cases e'
        exact ⟨s,U,ts,F,q,rfl,Same.refl F,rfl,r⟩
    | loc i=>
      have e':(match slot U i with
       | some s=>if ms.headD false then (match prep ms.tail rs (U.set i none) with
         | some (ss,U1)=>some (s::ss,U1)
         | none=>none)
         else (match prep ms.tail rs (U.set i (some (.sh s.toD))) with
          | some (ss,U1)=>some (.sh s.toD::ss,U1)
          | none=>none)
       | none=>none)=some (ss,U1):=by cases ms <;> exact e
      cases q:slot U i with
      | none=>rw [q] at e'; cases e'
      | some s=>
        rw [q] at e'
        dsimp only at e'
        by_cases hm:ms.headD false=true
        ·rw [if_pos hm] at e'
         cases q2:prep ms.tail rs (U.set i none) with
         | none=>rw [q2] at e'; cases e'
         | some p=>
           obtain ⟨ts,U3⟩:=p
           rw [q2] at e'
           cases e'
           exact ⟨s,U.set i none,ts,F,q2,rfl,Same.refl F,by simp,Rel.lend r h q rv.1⟩
        ·rw [if_neg hm] at e'
         cases q2:prep ms.tail rs (U.set i (some (.sh s.toD))) with
         | none=>rw [q2] at e'; cases e'
         | some p=>
           obtain ⟨ts,U3⟩:=p
           rw [q2] at e'
           cases e'
           obtain ⟨F1,s1,l1,r1⟩:=giveR (x:=.loc i) (s:=.sh s.toD) (U1:=U.set i (some (.sh s.toD))) r h rv.1 (by show (match slot U i with | some s=>some (S.sh s.toD,U.set i (some (.sh s.toD))) | none=>none)=_; rw [q])
           exact ⟨_,_,ts,F1,q2,rfl,s1,by simp,r1⟩
   obtain ⟨s,U2,ts,F1,q2,rfl,s1,l1,r1⟩:=first
   have h2:U2.length=σ.length:=l1.trans h
   have hl:(rs.map slotOf++U').length=(vs.map some++σ').length:=by
    have:=r1.len
    rw [length_append,length_append,h2,length_cons,length_cons] at this
    lia
   have hl':U'.length=σ'.length:=by
    have:=rv.2.len
    simp at hl
    lia
   have r2:=Rel.swap (U1:=[some s]) (σ1:=[some v]) (U2:=rs.map slotOf++U') (σ2:=vs.map some++σ') h2 rfl r1
   rw [append_assoc,append_assoc] at r2
   obtain ⟨F2,s2,l2,l3,r3⟩:=zdr (rs:=rs) (vs:=vs) r2 h2 rv.2 q2
   have h3:U1.length=σ.length:=l2.trans h2
   rw [<- append_assoc (ts.map some),<- append_assoc (vs.map some)] at r3
   have r4:=Rel.swap (U1:=ts.map some++U') (σ1:=vs.map some++σ') (U2:=[some s]) (σ2:=[some v]) h3 (by simp [l3,rv.2.len,hl']) r3
   exact ⟨F2,s1.trans s2,l2.trans l1,by simp [l3],r4⟩
theorem zbk:∀ {rs:List R} {vs:List V} {ms:List Bool} {U U':Env} {ss:List S} {σ':St},Rel K (U++(ss.map some++U')) (σ++(vs.map some++σ')) F G H->U.length=σ.length->ss.length=rs.length->RVs σ vs rs->
  (back ms rs ss U).length=U.length/\Rel K (back ms rs ss U++U') (σ++σ') F G H
 | [],[],ms,U,U',[],σ',r,h,_,_=>by
   have e:back ms [] [] U=U:=by cases ms <;> rfl
   rw [e]
   exact ⟨rfl,r⟩
 | [],_,_,_,_,_::_,_,_,_,hl,_=>by simp at hl
 | _::_,_,_,_,_,[],_,_,_,hl,_=>by simp at hl
 | [],_::_,_,_,_,_,_,_,_,_,h=>h.elim
 | _::_,[],_,_,_,_,_,_,_,_,h=>h.elim
 | x::rs,v::vs,ms,U,U',s::ss,σ',r,h,hl,rv=>by
   cases x with
   | v t=>
     have e:back ms (.v t::rs) (s::ss) U=back ms.tail rs ss U:=by cases ms <;> rfl
     rw [e]
     exact zbk (rs:=rs) (vs:=vs) (r.mid h) h (by simpa using hl) rv.2
   | loc i=>
     have e:back ms (.loc i::rs) (s::ss) U=if ms.headD false then back ms.tail rs ss (U.set i (some s)) else back ms.tail rs ss U:=by cases ms <;> rfl
     rw [e]
     by_cases hm:ms.headD false=true
     ·rw [if_pos hm]
      have q:=zbk (rs:=rs) (vs:=vs) (ms:=ms.tail) (U:=U.set i (some s)) (Rel.back1 r h rv.1) (by simpa using h) (by simpa using hl) rv.2
      exact ⟨q.1.trans (by simp),q.2⟩
     ·rw [if_neg hm]
      exact zbk (rs:=rs) (vs:=vs) (r.mid h) h (by simpa using hl) rv.2
end
section
variable {X:Cx} {k n:Nat} {f:Addr} {fd:FuncData} {ps:List Str} {wf:WF} {ms:List Bool} {x:Str} {p pos:Pos} {e:Expr} {es:List Expr} {wa:WA}
theorem ze4 (Fk:FnOk X.prog X.w X.K X.mg X.base (CXe X.prog X.w) k f fd ps (spW X.K wf n)) (hr:Room k X.A) (hg:Gl X x) (hm:X.mg x=some (.ref f)) (hk:W.keepIn X.K (.ref f)=true) (hb:Binds X.K fd ps [])
  (ha:FA X (e::es) wa) (hlen:∀ ss P PX,wf ss P PX->ss.length=n) (hdb:(x == ("__debug__":Str))=false:=by decide) (he:starEach (e::es) X.env=(false,eval e X.env)::starEach es X.env:=by rfl) (hpl:(backTo pos (starEach es X.env)).any (·.1)=false:=by rfl):
  FE X (.Call (.Name x p) (e::es) [] pos) (wCall wf ms wa):=fun pn xe hp=>by
 refine PE.imp (zd5 (X:=wp X pn xe) Fk hr hg hm hk hb (ha pn xe hp) hdb he hpl) fun σ H Q q=>?_
 refine (many (k:=fun rs U1 Q E=>need (prep ms rs U1) fun p=>wf p.1 (fun s ss=>Q (.v s) (back ms rs ss p.2)) (fun x ss=>E x (back ms rs ss p.2))) q).mono fun vs H1 h1=>?_
 obtain ⟨F,G,U,rs,P,PX,rel,hl,rv,hk,hok,hx⟩:=h1
 obtain ⟨⟨ss,U1⟩,ep,hk⟩:=zab hk
 obtain ⟨F1,s1,l1,l2,r1⟩:=zdr (U':=[]) (σ':=[]) (by simpa using rel) hl rv ep
 have h1:U1.length=σ.length:=l1.trans hl
 have r2:=Rel.comm (U':=ss.map some) (σ':=vs.map some) h1 (by simpa using r1)
 have hsv:(ss.map some).length=(vs.map some).length:=by simp [l2,rv.len]
 obtain ⟨G',r3,gg,bk⟩:=r2.hide hsv
 have hn:=hlen _ _ _ hk
 show spW X.K wf n vs H1 Q (XW (wp X pn xe) σ)
 refine ⟨F1,G',ss,_,_,by rw [rv.len,<- l2]; exact hn,r3,hk,fun s ss' v F2 H2 hp s2 l3 r4=>?_,fun d ss' F2 H2 C dx hp s2 l3 r4 cd a s' I Fl=>?_⟩
 ·have r5:=bk s2 r4
  have hsv':(ss'.map some++[some s]).length=(vs.map some++[some v]).length:=by simp [l3,l2,rv.len]
  have r6:=Rel.comm hsv' r5
  obtain ⟨l7,r7⟩:=zbk (ms:=ms) (rs:=rs) (vs:=vs) (U':=[some s]) (σ':=[some v]) r6 h1 (l3.trans l2) rv
  exact hok _ _ v F2 H2 hp (s1.trans s2) r7 trivial
 ·have r5:=bk s2 r4
  have hsv':(ss'.map some).length=(vs.map some).length:=by simp [l3,l2,rv.len]
  have r6:=Rel.comm hsv' r5
  obtain ⟨l7,r7⟩:=zbk (ms:=ms) (rs:=rs) (vs:=vs) (U':=[]) (σ':=[]) (by simpa using r6) h1 (l3.trans l2) rv
  exact hx d _ σ F2 H2 (.ref a) s' hp rfl (s1.trans s2) (by simpa using r7) I ⟨a,C,dx,rfl,cd,Fl⟩
end
section
variable {K:W.Frag} {F F' H H' G G':Hp}
theorem Rel.pushNs (r:Rel K U σ F G H):∀ m:Nat,Rel K (U++List.replicate m none) (σ++List.replicate m none) F G H
 | 0=>by simpa using r
 | m + 1=>by
   have:=(Rel.pushNs r m).pushN (u:=none)
   rw [append_assoc,append_assoc,<- List.replicate_succ',<- List.replicate_succ'] at this
   exact this
def Args (K:W.Frag) (F:Hp):List S->List V->St->Prop
 | [],[],_=>True
 | s::ss,v::vs,u::σ=>((∃ d,s=.sh d/\Rep K F v d)\/(s.isSh=false/\u=some v))/\Args K F ss vs σ
 | _,_,_=>False
theorem zaU:∀ {ss:List S} {vs:List V} {fs:List S} {U U' Ua:Env} {σ σ' σa:St},finals ss U=some fs->Rel K (Ua++(U++U')) (σa++(σ++σ')) F G H->Ua.length=σa.length->U.length=σ.length->Args K F ss vs σ->
  fs.length=ss.length/\vs.length=ss.length/\Rel K (Ua++(fs.map some++U')) (σa++(vs.map some++σ')) F G H
 | [],[],fs,U,U',Ua,σ,σ',σa,e,r,h,h2,_=>by
   have e':some ([]:List S)=some fs:=by cases U <;> exact e
   cases e'
   refine ⟨rfl,rfl,?_⟩
   have r1:=Rel.swap (U1:=U) (σ1:=σ) (U2:=U') (σ2:=σ') h h2 r
   rw [<- append_assoc,<- append_assoc] at r1
   have hl:(Ua++U').length=(σa++σ').length:=by
    have:=r.len
    simp at this
    simp
    lia
   simpa using r1.drop hl
 | [],_::_,_,_,_,_,_,_,_,_,_,_,_,h=>by cases h
 | _::_,[],_,_,_,_,_,_,_,_,_,_,_,h=>by cases h
 | _::_,_::_,_,_,_,_,[],_,_,_,_,_,_,h=>by cases h
 | _::_,_::_,_,[],_,_,_::_,_,_,_,_,_,h2,_=>by simp at h2
 | s::ss,v::vs,fs,o::U,U',Ua,u::σ,σ',σa,e,r,h,h2,ha=>by
   have h2':U.length=σ.length:=by simpa using h2
   obtain ⟨ha1,ha2⟩:=ha
   rcases ha1 with ⟨d,rfl,rp⟩ | ⟨hs,hu⟩
   ·have e':(finals ss U).map (S.sh d::·)=some fs:=e
    cases q:finals ss U with
    | none=>rw [q] at e'; cases e'
    | some gs=>
      rw [q] at e'
      have e'':S.sh d::gs=fs:=qf e'
      subst e''
      have r1:Rel K (Ua++(U++U')) (σa++(σ++σ')) F G H:=Rel.mid (U:=Ua) (σ:=σa) r h
      obtain ⟨l1,l2,r2⟩:=zaU q r1 h h2' ha2
      have hl:(gs.map some++U').length=(vs.map some++σ').length:=by
       have:=r2.len
       simp at this
       simp
       lia
      have r3:=r2.push rp
      rw [append_assoc Ua,append_assoc σa] at r3
      have r4:=Rel.swap (U1:=gs.map some++U') (σ1:=vs.map some++σ') (U2:=[some (.sh d)]) (σ2:=[some v]) h hl r3
      exact ⟨by simp [l1],by simp [l2],r4⟩
   ·subst hu
    have e':∃ t gs,o=some t/\finals ss U=some gs/\fs=t::gs:=by
     cases s with
     | sh d=>cases hs
     | _=>
       cases o with
       | none=>cases e
       | some t=>
         have e':(finals ss U).map (t::·)=some fs:=e
         cases q:finals ss U with
         | none=>rw [q] at e'; cases e'
         | some gs=>rw [q] at e'; exact ⟨t,gs,rfl,rfl,(qf e').symm⟩
    obtain ⟨t,gs,rfl,q,rfl⟩:=e'
    have r1:Rel K ((Ua++[some t])++(U++U')) ((σa++[some v])++(σ++σ')) F G H:=by simpa using r
    obtain ⟨l1,l2,r2⟩:=zaU q r1 (by simp [h]) h2' ha2
    exact ⟨by simp [l1],by simp [l2],by simpa using r2⟩
theorem zdu {ks:List Nat}:∀ {ss:List S} {vs:List V} {σ:St} {j:Nat} {fp:List Addr},EnvRep K F0 H (ss.map some) (vs.map some) fp->Same F0 F->(∀ i s,ss[i]?=some s->(j + i)∈ks\/s.isSh=true)->
  (∀ i v,vs[i]?=some v->(j + i)∈ks->σ[i]?=some (some v))->vs.length<=σ.length->Args K F ss vs σ
 | [],[],_,_,_,_,_,_,_,_=>by simp [Args]
 | [],_::_,_,_,_,r,_,_,_,_=>by cases r
 | _::_,[],_,_,_,r,_,_,_,_=>by cases r
 | _::_,_::_,[],_,_,_,_,_,_,h=>by simp at h
 | s::ss,v::vs,u::σ,j,_,.so a b,sm,hk,hv,hl=>by
   refine ⟨?_,zdu (j:=j + 1) b sm (fun i t e=>by have:=hk (i + 1) t (by simpa using e); rwa [show j + (i + 1)=j + 1 + i by lia] at this) (fun i t e z=>by simpa using hv (i + 1) t (by simpa using e) (by rwa [show j + (i + 1)=j + 1 + i by lia])) (by simpa using hl)⟩
   cases hs:s.isSh with
   | true=>
     cases s with
     | sh d=>cases a with
       | sh r=>exact .inl ⟨d,rfl,r.mono sm⟩
     | _=>cases hs
   | false=>
     refine .inr ⟨rfl,?_⟩
     have:=hk 0 s rfl
     rw [hs] at this
     have z:(j + 0)∈ks:=this.resolve_right (by simp)
     simpa using hv 0 v rfl z
theorem fn_w {st:Stmt} (Fn:Fun K x qual st f fd) (Sc:FnScope N ps (defScope st)) (hn:ps.length=n) (hm:N.length=m)
  (hb:∀ (cdv:Value) (A:Around) (outer:List PySem.Env) (s:Shared) (H:Hp) (E:XK),Room k (A.deeper (envOfC qual (defScope st) s.heap.objs.size f cdv))->FSs (cxOf (CXe P w) P w K mg base N qual (defScope st) f cdv A outer s H E) ks (defBody st) wb):
  FnOk P w K mg base (CXe P w) (k + 1) f fd ps (spW K (wFn n m ks wb) n):=by
 refine Fn.okX Sc (fun vs H Q E h=>?_) (fun cdv A outer s H vs Q E hr h=>?_)
 ·obtain ⟨F,G,ss,P',PX,hl,_⟩:=h
  rw [hl,hn]
 ·obtain ⟨F,G,ss,P',PX,hvl,rel,⟨hsl,hks,hbody⟩,hok,hex⟩:=h
  refine ⟨_,hb cdv A outer s H E hr [] (cxOf (CXe P w) P w K mg base N qual (defScope st) f cdv A outer s H E).xe PassesOwn.leaving,?_⟩
  have hmn:N.length - vs.length=m - n:=by rw [hvl,hm]
  have hr0:Rel K (ss.map some++List.replicate (m - n) none) (L2.start N vs) F G H:=by
   unfold L2.start
   rw [hmn]
   exact rel.pushNs (m - n)
  have hpl:ps.length<=N.length:=by have:=congrArg List.length Sc.pre; rw [List.length_take] at this; lia
  have hst:∀ i v,vs[i]?=some v->(L2.start N vs)[i]?=some (some v):=fun i v e=>by
   unfold L2.start
   have hi:i < vs.length:=(qg.mp e).1
   rw [getElem?_append_left (by simpa using hi),getElem?_map,e]
   rfl
  -- how the arguments are at an end
  have arg:∀ {U':Env} {σ':St} {F':Hp} {fs:List S},KP ks (L2.start N vs) σ'->Same F F'->U'.length=σ'.length->finals ss U'=some fs->Args K F' ss vs σ':=by
   intro U' σ' F' fs kp sm hlen e
   obtain ⟨fp,en,_⟩:=rel.en
   have hσ:vs.length<=σ'.length:=by
    -- finals reads as many slots as there are arguments
    have:∀ (ss:List S) (U:Env) (fs:List S),finals ss U=some fs->ss.length<=U.length:=by
     intro ss
     induction ss with
     | nil=>intro U fs _; simp
     | cons s ss ih=>
       intro U fs e
       cases U with
       | nil=>cases s <;> cases e
       | cons o U=>
         have:∃ gs,finals ss U=some gs:=by
          cases q:finals ss U with
          | some gs=>exact ⟨gs,rfl⟩
          | none=>
            cases s with
            | sh d=>have e':(finals ss U).map (S.sh d::·)=some fs:=e; rw [q] at e'; cases e'
            | _=>
              cases o with
              | none=>cases e
              | some t=>have e':(finals ss U).map (t::·)=some fs:=e; rw [q] at e'; cases e'
         obtain ⟨gs,q⟩:=this
         have:=ih U gs q
         simp
         exact this
    have:=this ss U' fs e
    rw [hsl] at this
    lia
   exact zdu (ks:=ks) (F:=F') (σ:=σ') (j:=0) en sm (fun i s e=>by simpa using hks i s e) (fun i v e z=>by
    rw [kp i (by simpa using z)]
    exact hst i v e) hσ
  have fin:∀ {U':Env} {σ':St} {F' H':Hp} {t:S} {v:V} {fs:List S},KP ks (L2.start N vs) σ'->Same F F'->Rel K (U'++[some t]) (σ'++[some v]) F' G H'->finals ss U'=some fs->P' t fs->Q v H':=by
   intro U' σ' F' H' t v fs kp sm r e hp
   have hlen:U'.length=σ'.length:=len1 r
   obtain ⟨l1,l2,r1⟩:=zaU (Ua:=[]) (σa:=[]) (U':=[some t]) (σ':=[some v]) e (by simpa using r) rfl hlen (arg kp sm hlen e)
   exact hok t fs v F' H' hp sm l1 (by simpa using r1)
  refine ⟨F,G,_,_,hr0,hbody,fun U' σ' F' H' h kp sm r=>?_,fun U' σ' F' H' h=>h.elim,fun U' σ' F' H' h=>h.elim,fun a U' σ' v F' H' h kp sm r rv=>?_,fun d U' σ' F' H' u s' h kp sm r I xr=>?_⟩
  ·obtain ⟨fs,e,h⟩:=zab h
   exact fin kp sm (r.push .non) e h
  ·cases a with
   | v t=>
     obtain ⟨fs,e,h⟩:=zab h
     exact fin kp sm r e h
   | loc i=>
     obtain ⟨t,et,h⟩:=zab h
     have hl:=len1 r
     by_cases hi:i < n
     ·rw [if_pos hi] at h
      obtain ⟨fs,e,h⟩:=zab h
      obtain ⟨F2,s2,_,r2⟩:=giveR (x:=.loc i) (s:=.sh t.toD) (U1:=U'.set i (some (.sh t.toD))) (U':=[]) (σ':=[]) r hl rv (by show (match slot U' i with | some s=>some (S.sh s.toD,U'.set i (some (.sh s.toD))) | none=>none)=_; rw [et])
      exact fin kp (sm.trans s2) r2 e h
     ·rw [if_neg hi] at h
      obtain ⟨fs,e,h⟩:=zab h
      have r2:=Rel.lend (U':=[]) (σ':=[]) r hl et rv
      refine fin kp sm r2 ?_ h
      -- the slot lies behind the parameters
      have:∀ (ss:List S) (U:Env) (i:Nat),ss.length<=i->finals ss (U.set i none)=finals ss U:=by
       intro ss
       induction ss with
       | nil=>intro U i _; cases U <;> cases i <;> rfl
       | cons s ss ih=>
         intro U i hi
         cases U with
         | nil=>rfl
         | cons o U=>
           cases i with
           | zero=>simp at hi
           | succ i=>
             have e:=ih U i (by simpa using hi)
             show finals (s::ss) (o::U.set i none)=finals (s::ss) (o::U)
             cases s with
             | sh d=>show (finals ss (U.set i none)).map _=(finals ss U).map _; rw [e]
             | _=>
               cases o with
               | none=>rfl
               | some t=>show (finals ss (U.set i none)).map _=(finals ss U).map _; rw [e]
      rw [this ss U' i (by lia)]
      exact e
  ·obtain ⟨fs,e,h⟩:=zab h
   obtain ⟨a,C,dx,rfl,cd,Fl⟩:=xr
   obtain ⟨l1,l2,r1⟩:=zaU (K:=K) (Ua:=[]) (σa:=[]) (U':=[]) (σ':=[]) e (by simpa using (show Rel K U' σ' F' G H' from r)) rfl r.len (arg kp sm r.len e)
   exact zd8 I Fl (hex d fs F' H' C dx h sm l1 (by simpa using r1) cd)
end
def ClsAt (h:Heap) (C:Addr) (bm:List Value):Prop:=∃ nm q N bs hdct sn sub ab col dd k0 k1 k2 k3 k5 newId,h.get? C=some (excClassObj nm q C N bs bm hdct sn sub ab col dd k0 k1 k2 k3 k5 newId)/\bm.contains (.type "BaseException")=true
theorem ClsAt.keeps (k:∀ b o,h.get? b=some o->h'.get? b=some o) (c:ClsAt h C bm):ClsAt h' C bm:=by
 obtain ⟨nm,q,N,bs,hdct,sn,sub,ab,col,dd,k0,k1,k2,k3,k5,newId,hC,hb⟩:=c
 exact ⟨nm,q,N,bs,hdct,sn,sub,ab,col,dd,k0,k1,k2,k3,k5,newId,k _ _ hC,hb⟩
theorem zb8 {M:Model} {A:Around} {E:Value->Shared->Prop} {s:Shared} {e C B:Addr} {oe:Obj} {bm bmB:List Value} {Q:Bool->Shared->Prop} (hC:ClsAt s.heap C bm) (hB:ClsAt s.heap B bmB) (he:s.heap.get? e=some oe) (hcls:oe.cls=.ref C)
  (hm:(Value.ref C::bm).contains (.ref B)=true) (hq:Q true s):wpAny M A (excMatches (.ref e) (.ref B)) Q E s:=by
 obtain ⟨nm,q,N,bs,hdct,sn,sub,ab,col,dd,k0,k1,k2,k3,k5,newId,hC,hb⟩:=hC
 obtain ⟨nm',q',N',bs',hdct',sn',sub',ab',col',dd',k0',k1',k2',k3',k5',newId',hB,hb'⟩:=hB
 have hcB:(Value.ref B::bmB).contains (.type "BaseException")=true:=by rw [List.contains_cons,hb',Bool.or_true]
 obtain ⟨h,g,d,t,os⟩:=s
 have f:=tc_notTuple
 unfold excMatches
 repeat (first | (with_reducible refine wpAny_loadPart_at he ?_; rw [hcls]) | with_reducible refine wpAny_loadPart_at hB ?_ | (with_reducible refine wpAny_isSubtype_exc hC ?_; rw [hm]) | (with_reducible refine wpAny_isSubtype_exc hB ?_; rw [hcB]) | wp_step)
 exact hq
section
variable {X:Cx} {pins pins' pn pn':List (Addr×Obj)} {xe xe':Value->Shared->Prop} {σ:St} {H:Hp} {s:Shared}
abbrev hX (X:Cx) (e:Addr):Cx:={ X with A:=X.A.mark (some (.ref e)),calm:=false }
theorem Inv.wp' (I:Inv (wp X pn xe) pins σ H s) (h:∀ p∈pn'++pins',p∈pn++pins):Inv (wp X pn' xe') pins' σ H s:=
 ⟨⟨I.ok.mod,I.ok.kind,I.ok.glob,I.ok.blt,I.ok.above,I.ok.inj,I.ok.has,I.ok.cab,I.ok.hd,I.ok.frames,I.ok.stk,I.ok.exf,I.ok.bs,I.ok.bsz,I.ok.noex,I.ok.exfs,I.ok.funs,I.ok.frf⟩,
   I.os,I.bare,I.base,I.loc,I.cell,I.free,I.freeC,fun p hp=>I.pin p (h p hp),I.hok,I.len⟩
theorem Inv.held (I:Inv (wp X pn xe) pins σ H s) (h:∀ p∈pn'++pins',p∈pn++pins):Inv (wp (hX X e) pn' xe') pins' σ H s:=
 ⟨⟨I.ok.mod,I.ok.kind,I.ok.glob,I.ok.blt,I.ok.above,I.ok.inj,I.ok.has,I.ok.cab,fun z=>(by cases z),I.ok.frames,I.ok.stk,I.ok.exf,I.ok.bs,I.ok.bsz,I.ok.noex,I.ok.exfs,I.ok.funs,I.ok.frf⟩,
   I.os,I.bare,I.base,I.loc,I.cell,I.free,I.freeC,fun p hp=>I.pin p (h p hp),I.hok,I.len⟩
theorem Inv.let (I:Inv (wp (hX X e) pn' xe') pins' σ H s) (hd:X.calm=true->X.A.handled=none) (h:∀ p∈pn++pins,p∈pn'++pins'):Inv (wp X pn xe) pins σ H s:=
 ⟨⟨I.ok.mod,I.ok.kind,I.ok.glob,I.ok.blt,I.ok.above,I.ok.inj,I.ok.has,I.ok.cab,hd,I.ok.frames,I.ok.stk,I.ok.exf,I.ok.bs,I.ok.bsz,I.ok.noex,I.ok.exfs,I.ok.funs,I.ok.frf⟩,
   I.os,I.bare,I.base,I.loc,I.cell,I.free,I.freeC,fun p hp=>I.pin p (h p hp),I.hok,I.len⟩
theorem Fly.wp' {H:Hp} (F:Fly (wp X pn xe) pins H h e cls dx) (hs:∀ p∈pn'++pins',p∈pn++pins):Fly (wp X pn' xe') pins' H h e cls dx:=by
 have g:∀ {b},FpOk (wp X pn xe) pins H b->FpOk (wp X pn' xe') pins' H b:=fun f=>⟨f.1,f.2.1,f.2.2.1,f.2.2.2.1,f.2.2.2.2.1,fun p hp=>f.2.2.2.2.2 p (hs p hp)⟩
 obtain ⟨f,oe,vs,h1,h2,hd,h3,h4⟩:=F
 refine ⟨g f,oe,vs,h1,h2,hd,h3,h4.imp id ?_⟩
 rintro ⟨T,oT,ts,a1,a2,a3,a4⟩
 exact ⟨T,oT,ts,a1,a2,g a3,a4⟩
theorem SP.wp' {D:L2.Ends} (h:∀ p∈pn++pins,p∈pn'++pins') (z:SP (wp X pn' xe') pins' D f s):SP (wp X pn xe) pins D f s:=by
 cases f with
 | next=>obtain ⟨σ',H',I,q⟩:=z; exact ⟨σ',H',Inv.wp' I h,q⟩
 | brk=>obtain ⟨σ',H',I,q⟩:=z; exact ⟨σ',H',Inv.wp' I h,q⟩
 | cont=>obtain ⟨σ',H',I,q⟩:=z; exact ⟨σ',H',Inv.wp' I h,q⟩
 | ret u=>obtain ⟨v,σ',H',I,r,q⟩:=z; exact ⟨v,σ',H',Inv.wp' I h,r,q⟩
end
section
variable {X:Cx} {ks:List Nat} {body suite:List Stmt} {b0:Stmt} {wb ws:WS} {cs:List (List Nat)} {x:Str} {np hpos pos:Pos} {B C:Addr} {bmB:List Value}
def Caught (X:Cx) (cs:List (List Nat)) (B:Addr):Prop:=∀ c∈cs,∃ C bm,W.nsIn X.K mainGlobals (⟨c.toArray⟩:Str)=some (some (.ref C))/\ClsAt X.base C bm/\(Value.ref C::bm).contains (.ref B)=true
theorem Inv.adopt {pins:List (Addr×Obj)} {σ:St} {H:Hp} {s:Shared} {e:Addr} (I:Inv X pins σ H s) (F:Fly X pins H s.heap e (.ref C) dx):Inv X pins σ (upd H e (.ext (excφ e C dx))) s:=by
 obtain ⟨⟨f0,f1,f2,f3,f4,f5⟩,oe,vs,he,hc,hx,hd,_⟩:=F
 have ne:∀ b o,H b=some o->b≠e:=fun b o q z=>by rw [z,f0] at q; cases q
 refine I.call' (ch:=[e]) rfl ⟨fun b o q _ _ _=>q,fun b o q _ _ _=>⟨o.slots,q⟩,fun b o _ n x=>(zac fun z=>x (by simp [z])).trans n,fun b o q _=>⟨o,q⟩,fun b xs q=>(zac (ne _ _ q)).trans q,fun b o u q=>(zac (ne _ _ q)).trans q,fun b ps q=>⟨#[],by rw [zac (ne _ _ q),q]; simp⟩⟩ (fun b o q=>?_) I.bare fun b hb=>?_
 ·by_cases hb:b=e
  ·subst hb
   rw [zaj] at q
   cases q
   refine ⟨⟨oe,vs,he,hc,hx,hd⟩,⟨oe,he⟩,fun h1 h2 z k=>?_⟩
   obtain ⟨o,ws,a1,a2,a3⟩:=z
   exact ⟨o,ws,k _ a1,a2,a3⟩
  ·rw [zac hb] at q
   exact (I.hok b o q).stay (fun _ _ _ z=>z) (fun c z=>(zac (ne _ _ z)).trans z) fun c xs z=>(zac (ne _ _ z)).trans z
 ·rw [mem_singleton.mp hb]
  exact ⟨f3,f1,f4,f5⟩
theorem gone {pins:List (Addr×Obj)} {σ:St} {H:Hp} {s:Shared} {i:Nat} {y:Str} {M:Model} {A:Around} {E:Value->Shared->Prop} {Q:Unit->Shared->Prop} (I:Inv X pins σ H s) (hN:∀ j,X.N[j]?=some y->j=i) (hk:X.env.scope.names.lookup y=some .local) (h:∀ s',Inv X pins (σ.set i none) H s'->Q () s'):
  wpAny M A (do bindName X.env y .none; unbindBehindTheSuite X.env y pos) Q E s:=by
 obtain ⟨m,hn,hl⟩:=id I.loc
 have hcls:(X.env.scope.kind == .class || (X.env.scope.kind == .module && X.env.locals !=X.env.globals))=false:=by rw [I.ok.kind]; rfl
 have cne:=I.cne
 obtain ⟨oL,_,_,hoL,_⟩:=id hn
 refine wpAny_nameGoes_keeps hk hn hcls fun h' v hn' hs=>h _ ⟨I.ok,I.os,I.bare,⟨fun b o e n hb hx=>?_,fun b o e n hb hx=>?_,I.base.free,fun b o e hx=>?_,I.base.tups,I.base.frzs,I.base.tbls⟩,⟨_,hn',fun j z v' e1 e2 e3=>?_⟩,fun y c e=>?_,I.free,I.freeC,fun p hp=>?_,fun b ob e=>?_,by simpa using I.len⟩
 ·exact (hs.2 b (ne_of_lt (lt_of_lt_of_le (qe e) I.ok.above))).trans (I.base.keep b o e n hb hx)
 ·obtain ⟨sl,e1⟩:=I.base.slot b o e n hb hx
  exact ⟨sl,(hs.2 b (ne_of_lt (lt_of_lt_of_le (qe e) I.ok.above))).trans e1⟩
 ·obtain ⟨o',e1⟩:=I.base.there b o e hx
  exact ⟨o',(hs.2 b (ne_of_lt (lt_of_lt_of_le (qe e) I.ok.above))).trans e1⟩
 ·have hj:i≠j:=fun q=>by
   subst q
   rw [List.getElem?_set] at e2
   grind
  rw [getElem?_set_ne hj] at e2
  obtain ⟨u',r',q⟩:=hl j z v' e1 e2 e3
  refine ⟨u',r',?_⟩
  rcases q with ⟨k,e⟩ | ⟨k,c,e,w⟩
  ·refine .inl ⟨k,?_⟩
   have:z≠y:=fun e=>hj (hN j (e ▸ e1)).symm
   simp [this,e]
  ·exact .inr ⟨k,c,e,w.sameBut hs (cne z c e)⟩
 ·obtain ⟨w',z⟩:=I.cell y c e
  exact ⟨w',z.sameBut hs (cne y c e)⟩
 ·obtain ⟨e,n,ne,nf,d⟩:=I.pin p hp
  exact ⟨(hs.2 p.1 ne).trans e,n,ne,nf,d⟩
 ·refine (I.hok b ob e).stay (fun c w' hc q=>(hs.2 c ?_).trans q) (fun _ q=>q) fun _ _ q=>q
  rintro rfl
  have:=I.free
  rcases hc with hc | hc
  ·rw [<- hc,this] at e; cases e
  ·rw [this] at hc; cases hc
theorem zdD {j:Nat} {y:Str} (hk:j∉ks) (hN:∀ i,X.N[i]?=some y->i=j) (hj:X.N[j]?=some y) (hy:X.env.scope.names.lookup y=some .local) (hst:X.stack=X.env::X.outer) (hf:X.env.frame=some X.env.locals) (hg:Gl X x) (hB:X.mg x=some (.ref B)) (cB:ClsAt X.base B bmB) (hcs:Caught X cs B) (hb:FSs X ks body wb) (hs:∀ e,FSs (hX X e) ks (b0::suite) ws)
  (hdb:(x == ("__debug__":Str))=false:=by decide):FS X ks (.Try body [.ExceptHandler (some (.Name x np)) (some y) (b0::suite) hpos] [] [] pos) (wTryAs cs j wb ws):=by
 intro pn xe hp pins s σ H D I q
 obtain ⟨F,G,U,E,rel,hw,n,b,c,r,hx⟩:=q
 have hd:X.calm=true->X.A.handled=none:=I.ok.hd
 refine wpAny_Try_except (thn (hb (pn++pins) (fun e s₁=>wpAny (model X.prog X.w) X.A (noteFrame e X.env) (fun _ s₂=>wpAny (model X.prog X.w) X.A (setFlight e none) (fun _ s₃=>wpAny (model X.prog X.w) X.A (handleBy e X.env [.ExceptHandler (some (.Name x np)) (some y) (b0::suite) hpos]) (SP (wp X pn xe) pins D) xe s₃) xe s₂) xe s₁) PassesOwn.looking [] s σ H D (Inv.wp' I fun p hp=>by simpa using hp) ?_) fun f s1 z=>?_)
 ·refine ⟨F,G,U,_,rel,hw,n,b,c,r,fun d U' σ' F' H' u s' hp hkp sm rel' I' xr=>?_⟩
  obtain ⟨⟨c0,hc0,fs0,vs0,rfl⟩,hws⟩:=hp
  obtain ⟨e,C,dx,rfl,⟨c',fs',vs',ec,hns,hxd⟩,Fl⟩:=xr
  cases ec
  obtain ⟨C',bm,hns',hC,hm⟩:=hcs c0 hc0
  have hns:W.nsIn X.K mainGlobals (⟨c0.toArray⟩:Str)=some (some (.ref C)):=hns
  rw [hns'] at hns
  cases hns
  have J:Inv (wp X pn xe) pins σ' H' s':=Inv.wp' I' fun p hp=>by simpa using hp
  refine zcq (X:=wp X pn xe) (pins:=pins) hst hf J (Fly.wp' Fl fun p hp=>by simpa using hp) fun h1 J1 F1=>?_
  refine wpAny_handleBy_cons (codeAny_handlers_test ?_) (by intro q; cases q)
  have J2:Inv (wp (hX X e) pn (fun _ _=>False)) pins σ' H' { s' with heap:=h1 }:=Inv.held J1 fun _ z=>z
  refine zbo (X:=wp (hX X e) pn (fun _ _=>False)) J2 hg hB ?_ hdb
  obtain ⟨_,oe,vs,he,hcl,_⟩:=id F1
  refine zb8 (hC.keeps J2.bk) (cB.keeps J2.bk) he hcl hm ?_
  refine codeAny_handlers_suite_as (zcB (X:=wp X pn xe) J1 F1 fun h2 J3 F3=>?_)
  have J4:Inv (wp (hX X e) (pn++pins) (fun _ _=>False)) [] σ' (upd H' e (.ext (excφ e C dx))) { s' with heap:=h2 }:=Inv.held (Inv.adopt (X:=wp X pn xe) J3 F3) fun p hp=>by simpa using hp
  have hl:=rel'.len
  have hne:=F3.1.1
  have rel2:Rel X.K (U'.set j (some (.sh (.exc c0 fs0 vs0)))) (σ'.set j (some (.ref e))) (upd F' e (.ext (excφ e C dx))) G (upd H' e (.ext (excφ e C dx))):=
   Rel.store ((rel'.newF hne).push (.exc zaj hns' (hxd.mono (Same.upd (rel'.free hne).1)))) hl (by rw [hl,J.len]; exact (qg.mp hj).1)
  refine zbh (X:=wp (hX X e) (pn++pins) (fun _ _=>False)) (v:=.ref e) J4 hN hj (.inl hy) rfl (fun s4 J5 _=>?_) (.inr hy)
  refine wpAny_mono (hs e (pn++pins) (fun _ _=>False) PassesOwn.never [] _ _ _ { nx:=fun σ2 H2=>D.nx (σ2.set j none) H2,rt:=fun _ _=>False } J5 ?_) (fun f s2 z=>?_) fun _ _ z=>z.elim
  ·refine ⟨_,G,_,_,rel2,hws,fun U2 σ2 F2 H2 h k s r=>?_,fun _ _ _ _ h=>h.elim,fun _ _ _ _ h=>h.elim,fun _ _ _ _ _ _ h=>h.elim,fun d U2 σ2 F2 H2 u s2 p=>p.elim⟩
   have hl2:=r.len
   refine n _ _ F2 H2 h (fun i hi=>?_) (sm.trans ((Same.upd (rel'.free hne).1).trans s)) ?_
   ·have hij:j≠i:=fun z=>hk (z ▸ hi)
    rw [getElem?_set_ne hij,k i hi,getElem?_set_ne hij]
    exact hkp i hi
   ·by_cases hj2:j < U2.length
    ·exact Rel.store (r.pushN (u:=none)) hl2 hj2
    ·rw [List.set_eq_of_length_le (by lia),List.set_eq_of_length_le (by lia)]
     exact r
  ·cases f with
   | next=>
     obtain ⟨σ2,H2,J6,q⟩:=z
     exact gone (X:=wp X pn xe) (pins:=pins) (Inv.let J6 hd fun p hp=>by simpa using hp) hN hy fun s5 J7=>⟨_,H2,J7,q⟩
   | brk=>obtain ⟨_,_,_,q⟩:=z; exact q.elim
   | cont=>obtain ⟨_,_,_,q⟩:=z; exact q.elim
   | ret u=>obtain ⟨_,_,_,_,_,q⟩:=z; exact q.elim
 ·have z':SP (wp X pn xe) pins D f s1:=SP.wp' (fun p hp=>by simpa using hp) z
  cases f with
  | next=>
    obtain ⟨σ',H',I',q⟩:=z'
    exact zc9 (X:=wp X pn xe) pins s1 σ' H' D I' q
  | brk=>exact z'
  | cont=>exact z'
  | ret u=>exact z'
theorem zel {bm:List Value} {Bs newId initId:String} {cpos:Pos} {c:List Nat} (O:OwnCls x C bm newId X.mg X.base) (FB:ExcBaseFacts Bs newId initId bm) (hc:X.calm=true) (hg:Gl X x) (hns:W.nsIn X.K mainGlobals (⟨c.toArray⟩:Str)=some (some (.ref C))) (hd:(x == ("__debug__":Str))=false:=by decide):
  FS X ks (.Raise (some (.Call (.Name x np) [] [] cpos)) none pos) (wRaise c):=fun pn xe hp=>PS.imp (zej (X:=wp X pn xe) O FB hc hg hd) fun D σ H q=>by
 obtain ⟨F,G,U,E,rel,hw,n,b,c,r,hx⟩:=q
 exact fun a s' I Fl=>hx _ U σ F H (.ref a) s' hw KP.refl (Same.refl F) rel I ⟨a,C,none,rfl,⟨_,_,_,rfl,hns,.inl ⟨rfl,rfl,rfl⟩⟩,Fl⟩
end
end FL
end
section
namespace FL
open PySem PySem.Spec PySem.Calls PyProof.Rows PySem.W L2
structure ExK (K:Frag) (C:Addr):Prop where
 ga:findIn K (.ref C) "__getattribute__"=some (some (.builtin "BaseException.__getattribute__"))
 gt:findIn K (.ref C) "__getattr__"=some none
 cl:findIn K (.ref C) "__class__"=some (some (.builtin "object.__class__"))
 hn:specialIn K (.builtin "object.__class__") "__get__"=some (some (.builtin "getset_descriptor.__get__"))
 tk:takesIn K (.builtin "object.__class__")=some true
 ob:mroIn K C (.type "object")=some true
 be:mroIn K C (.type "BaseException")=some true
section
variable {prog:Program} {w:World} {A:Around} {E:Value->Shared->Prop} {s:Shared} {K:Frag} {x C D:Addr} {ox:Obj} {odo:Option Obj} {name:Str}
theorem zeL (self:Value):bindSpecial (.builtin "BaseException.__getattribute__") self=pure (.builtin "BaseException.__getattribute__",[self]):=F.attr_ValueError.ga.bind self
theorem zcm {fill expr:Bool} {tk:Tok} {Q:Value->Shared->Prop} (X:K.In s.heap) (I:InstAt s.heap x ox D odo) (k:ExK K D)
  (h:∀ (A:Around) (Q':Fin->Shared->Prop) (E':Value->Shared->Prop),(∀ v s',handedOut v=pure v/\Q v s'->Q' (.done (.ret v)) s')->wpAny (model prog w) A (Builtin.«object.__getattribute__» ⟨[.ref x,.str name tk],[]⟩) Q' E' s):
  wpAny (model prog w) A (getAttrBy (.ref x) (.str name tk) fill expr) Q E s:=by
 obtain ⟨hh,gg,d,t,os⟩:=s
 have L0:=I.type (M:=model prog w)
 have L1:=looks_findIn (M:=model prog w) X k.ga
 have L2:=looks_findIn (M:=model prog w) X k.gt
 have L3:=looks_mroIn (M:=model prog w) X k.be
 have hx0:(expr && onTheHeap (Value.builtin "BaseException.__getattribute__"))=false:=by cases expr <;> rfl
 have hx2:(Value.builtin "BaseException.__getattribute__" == Value.builtin "object.__getattribute__")=false:=by decide +kernel
 have hx1:(onTheHeap (Value.ref D) && Value.builtin "BaseException.__getattribute__" == Value.builtin "object.__getattribute__")=false:=by rw [hx2]; rfl
 unfold getAttrBy
 refine wpAny_holding (qa (L0.at (qa (L1.at ?_))))
 dsimp only
 rw [if_neg (by rw [hx1]; decide)]
 unfold getAttrByItsOwn hookBefore
 rw [if_pos (show onTheHeap (Value.ref D)=true from rfl)]
 refine qa (L2.at (qa (wpAny_attempt (wpAny_holding ?_))))
 unfold callGetattribute
 rw [if_neg (by rw [hx0]; decide)]
 unfold boundAndCalled
 rw [zeL]
 refine qa (qb ?_)
 refine wpAny_call (codeAny_call_builtin (by decide +kernel) F.entry_bexc_ga ?_)
 have hk:builtinKind "BaseException.__getattribute__"=some .slot:=by decide +kernel
 have hsplit:splitId "BaseException.__getattribute__"=some ("BaseException","__getattribute__"):=by decide +kernel
 have ha:=F.args_bexc_ga (.ref x) (.str name tk)
 simp only [checkBuiltinCall,hk,hsplit]
 refine qa ?_
 unfold isInstance
 refine qa (L0.at (L3.at ?_))
 repeat (first | (refine h _ _ _ fun v s' z=>?_) | wp_step)
 obtain ⟨z1,z2⟩:=z
 show wpAny _ _ (handedOut v) _ _ _
 rw [z1]
 exact qb z2
theorem zfc {fill expr:Bool} {tk:Tok} {Q:Value->Shared->Prop} (X:K.In s.heap) (I:InstAt s.heap x ox D odo) (k:ExK K D) (hf:findObj K D odo name=some (.bind g a))
  (h:∀ A,wpAny (model prog w) A (call g [a,.ref x,.ref D]) (fun v s'=>handedOut v=pure v/\Q v s') (fun _ _=>False) s):
  wpAny (model prog w) A (getAttrBy (.ref x) (.str name tk) fill expr) Q E s:=zcm X I k fun A Q' E' hq=>by
 obtain ⟨hh,gg,d,t,os⟩:=s
 have L0:=I.type (M:=model prog w)
 have L4:=looks_find (M:=model prog w) X I hf
 unfold Builtin.«object.__getattribute__»
 refine qa (qb (qa (qb (qa (L0.at (qa (L4.at ?_)))))))
 show wpAny _ _ (holding [a] (call g [a,.ref x,.ref D]) >>= ret) _ _ _
 exact qa (wpAny_holding (wpAny_mono (h _) (fun v s' z=>qb (hq v s' z)) fun _ _ z=>z.elim))
theorem zfd {Q:Option Value->Shared->Prop} (X:K.In s.heap) (I:InstAt s.heap x ox D odo) (k:ExK K D) (h:Q (some (.ref D)) { s with toks:=s.toks + 1 }):wpAny (model prog w) A (getAttr? (.ref x) "__class__") Q E s:=by
 have hc:(clsIn K D).isSome=true:=by
  have:=k.ob
  unfold mroIn at this
  cases q:clsIn K D with
  | none=>rw [q] at this; cases this
  | some _=>rfl
 have hf:findObj K D odo "__class__"=some (.bind (.builtin "getset_descriptor.__get__") (.builtin "object.__class__")):=by
  obtain ⟨cd,hc⟩:=Option.isSome_iff_exists.mp hc
  unfold findObj
  rw [hc,bind_some,k.cl,bind_some]
  simp [k.hn,k.tk]
 unfold getAttr? getAttrBy?
 refine qa (wpAny_mkText (qa (wpAny_attempt ?_)))
 exact zfc (s:={ s with toks:=s.toks + 1 }) X I k hf fun A=>wpAny_call (class_get (s:={ s with toks:=s.toks + 1 }) X I k.ob ⟨rfl,qb h⟩)
theorem zdY {x C:Addr} {odo:Option Obj} (k:ExK K C):KitX K (.ref x) (.ref C) (fun h=>∃ ox,InstAt h x ox C odo) where
 ty:=fun _ _ _ ⟨_,I⟩=>I.type
 it:=fun _ _ X _=>by
  have hc:=k.ob
  unfold mroIn clsIn at hc
  split at hc
  ·rename_i c' d' cd' sl' ho
   intro A' Q' E' s' k q
   unfold isType loadHead
   exact qa (wpAny_loadPart (k _ _ (X _ _ ho)) (qb q))
  ·cases hc
 ne:=fun h tp dd its n sl X htp=>by
  have hc:=k.ob
  refine Bool.eq_false_iff.mpr fun q=>?_
  have e:C=tp:=Value.ref.inj (beq_iff_eq.mp q)
  subst e
  unfold mroIn clsIn at hc
  split at hc
  ·rename_i c' d' cd' sl' ho
   have z:=(X _ _ ho).symm.trans htp
   cases z
  ·cases hc
 ca:=fun X ⟨_,I⟩ q=>zfd X I k q
end
end FL
end
section
namespace FL
open PySem PySem.Spec PyProof.Rows L2
open PySem.W (kitOne kitAny nsIn kia_one kia_tup kitx_none)
def IsiOne (K:W.Frag) (kn yes:List (List Nat)) (cv:Value):Prop:=kitOne K (.type "NoneType") cv=some false/\∀ c∈kn,∃ C,nsIn K mainGlobals (⟨c.toArray⟩:Str)=some (some (.ref C))/\ExK K C/\kitOne K (.ref C) cv=some (yes.contains c)
section
variable {X:Cx} {pins:List (Addr×Obj)} {σ:St} {H:Hp} {s:Shared} {A:Around} {E:Value->Shared->Prop} {Q:Value->Shared->Prop} {kn yes:List (List Nat)} {cv:Value} {b:Bool} {x:V} {u:Value} {d:D}
theorem zgr {c:List Nat} {fs:List (List Nat)} {vs:List D} (e:tX kn yes (.exc c fs vs)=some b):c∈kn/\yes.contains c=b:=by
 have e':(if kn.contains c then some (yes.contains c) else none)=some b:=e
 split at e'
 ·rename_i h
  exact ⟨by simpa using h,qf e'⟩
 ·cases e'
theorem zdR {a C:Addr} {dx:Option Addr} {fs:List (List Nat)} {vs:List D} (hok:HOk X.prog X.w H s.heap) (ea:H a=some (.ext (excφ a C dx))) (hx:XDct H dx fs vs):∃ odo ox,W.InstAt s.heap a ox C odo:=by
 obtain ⟨⟨o,ws,h1,h2,h3,h4⟩,_,_⟩:=(show ObjOk X.prog X.w H s.heap a (.ext (excφ a C dx)) from hok a _ ea)
 have hn:W.notCls o=true:=by unfold W.notCls; rw [h4]
 rcases hx with ⟨rfl,_⟩ | ⟨p,f,i,rfl,_,_,e⟩
 ·exact ⟨none,o,h1,h2,hn,by rw [h3]; trivial⟩
 ·obtain ⟨u,hu⟩:=ObjOk.there (hok p _ e)
  exact ⟨some u,o,h1,h2,hn,by rw [h3]; exact hu⟩
theorem zdJ (I:Inv X pins σ H s) (rx:RelV x u) (rp:Rep X.K H x d) (e:tX kn yes d=some b) (hi:IsiOne X.K kn yes cv) (h:∀ tk,Q (.bool b) { s with toks:=tk }):
  wpAny (model X.prog X.w) A (call (.builtin "isinstance") [u,cv]) Q E s:=by
 cases rp with
 | non=>
   cases (show u=Value.none from rx)
   cases e
   exact kia_one kitx_none I.kIn True.intro hi.1 (fun z=>nomatch z) h
 | @exc a C dx c fs vs ea hn hx=>
   cases (show u=Value.ref a from rx)
   obtain ⟨hc,rfl⟩:=zgr e
   obtain ⟨C',hn',k,q⟩:=hi.2 _ hc
   rw [hn] at hn'
   cases hn'
   obtain ⟨odo,ox,J⟩:=zdR I.hok ea hx
   exact kia_one (zdY k) I.kIn ⟨ox,J⟩ q (fun z=>nomatch z) h
 | _=>cases e
end
section
variable {X:Cx} {p pos pt:Pos} {a:Expr} {wa:WE} {T:Str} {kn yes:List (List Nat)} {cv:Value}
theorem zev (hg:Gl X "isinstance") (hm:X.mg "isinstance"=none) (hv:bootBuiltins "isinstance"=some (.builtin "isinstance"))
  (hT:∀ (pn:List (Addr×Obj)) (xe:Value->Shared->Prop) (pins:List (Addr×Obj)) (σ:St) (H:Hp) (s:Shared) (Q:Value->Shared->Prop) (E:Value->Shared->Prop),Inv (wp X pn xe) pins σ H s->Q cv s->wpAny (model X.prog X.w) X.A (eval (.Name T pt) X.env) Q E s)
  (hi:IsiOne X.K kn yes cv) (ha:FE X a wa)
  (he:starEach [a,.Name T pt] X.env=(false,eval a X.env)::starEach [.Name T pt] X.env:=by rfl) (he2:starEach [.Name T pt] X.env=[(false,eval (.Name T pt) X.env)]:=by rfl) (hpl:(backTo pos (starEach [.Name T pt] X.env)).any (·.1)=false:=by rfl):
  FE X (.Call (.Name "isinstance" p) [a,.Name T pt] [] pos) (wIsX kn yes wa):=fun pn xe hp=>by
 intro pins s σ H Q I h
 refine wpAny_Call_Name_kw (zbf (X:=wp X pn xe) I hg hm hv ?_ (by decide) (by decide))
 refine PyProof.Rows.callWith_builtin1 ?_ he hpl
 show wpAny _ _ (spliced (backTo pos (starEach [a,.Name T pt] X.env))) _ _ s
 rw [he,he2]
 show wpAny _ _ (spliced ((false,eval a X.env)::[(false,eval (.Name T pt) X.env)])) _ _ s
 refine Calls.spliced_cons (thn (ha pn xe hp pins s σ H _ I (one (k:=fun x U1 Q E=>need (view x U1) fun d=>need (tX kn yes d) fun b=>Q (.v (.sh (.bl b))) U1) h)) fun u s1 zq=>?_)
 obtain ⟨x,H1,I1,r1,q1⟩:=zq
 refine Calls.spliced_cons (hT pn xe pins σ H1 s1 _ _ I1 (Calls.spliced_nil ?_))
 obtain ⟨F,G,U,y,P,PX,rel,hl,ry,hk,hok,hx⟩:=q1
 obtain ⟨d,ed,hk⟩:=zab hk
 obtain ⟨b,eb,hk⟩:=zab hk
 have rp:=look (U':=[]) (σ':=[]) rel hl ry ed
 refine zdJ I1 r1 rp eb hi fun tk=>⟨.bl _,H1,I1.kept fun _ _ z=>z,rfl,?_⟩
 exact hok _ U _ F H1 hk (Same.refl F) ((rel.drop hl).push (.bl _)) trivial
theorem zaR {B:Addr} (hg:Gl X "isinstance") (hm:X.mg "isinstance"=none) (hv:bootBuiltins "isinstance"=some (.builtin "isinstance")) (hgT:Gl X T) (hmT:X.mg T=some (.ref B)) (hi:IsiOne X.K kn yes (.ref B)) (ha:FE X a wa) (hdT:(T == ("__debug__":Str))=false:=by decide)
  (he:starEach [a,.Name T pt] X.env=(false,eval a X.env)::starEach [.Name T pt] X.env:=by rfl):FE X (.Call (.Name "isinstance" p) [a,.Name T pt] [] pos) (wIsX kn yes wa):=
 zev hg hm hv (fun pn xe pins σ H s Q E I q=>zbo (X:=wp X pn xe) I hgT hmT q hdT) hi ha he
theorem zfa {TS:String} (hg:Gl X "isinstance") (hm:X.mg "isinstance"=none) (hv:bootBuiltins "isinstance"=some (.builtin "isinstance")) (hgT:Gl X T) (hmT:X.mg T=none) (hvT:bootBuiltins T=some (.type TS)) (hi:IsiOne X.K kn yes (.type TS)) (ha:FE X a wa) (hnT:T≠"__name__":=by decide) (hdT:(T == ("__debug__":Str))=false:=by decide)
  (he:starEach [a,.Name T pt] X.env=(false,eval a X.env)::starEach [.Name T pt] X.env:=by rfl):FE X (.Call (.Name "isinstance" p) [a,.Name T pt] [] pos) (wIsX kn yes wa):=
 zev hg hm hv (fun pn xe pins σ H s Q E I q=>zbf (X:=wp X pn xe) I hgT hmT hvT q hnT hdT) hi ha he
end
end FL
end
section
namespace FL
open PySem PySem.Spec PyProof.Rows L2
open PySem.W (nsIn excIn mroIn clsIn isNs_of_in nsMap_none_of_in tail_of_in)
abbrev bmVE:List Value:=[.type "ValueError",.type "Exception",.type "BaseException",.type "object"]
abbrev neVE:String:="ValueError.__new__"
section
variable {K:W.Frag} {h:Heap} {mg:Str->Option Value} {x:Str} {C:Addr}
theorem zfL (X:K.In h) (m:mg x=some (.ref C)) (q:excIn K C bmVE neVE=true):OwnCls x C bmVE neVE mg h:=by
 refine ⟨m,?_⟩
 unfold excIn at q
 split at q
 ·rename_i dd cd sl ho
  split at q
  ·rename_i C' bm k0 k1 k2 k3 n k5 hm hs
   simp only [and_eq_true,beq_iff_eq,Bool.not_eq_true'] at q
   obtain ⟨⟨⟨⟨⟨rfl,rfl⟩,hdel⟩,ht⟩,hok⟩,hni⟩:=q
   obtain ⟨nm,bs,mro,ns,qn,hd,sn,sub,ab,col,del⟩:=cd
   dsimp only at hm hdel hok hni
   subst hm hdel
   have hsl:sl=#[k0,k1,k2,k3,some (.builtin neVE),k5]:=by
    obtain ⟨l⟩:=sl
    simp only at hs
    rw [hs]
   subst hsl
   exact ⟨bm,ns,nm,qn,bs,hd,sn,sub,ab,col,dd,k0,k1,k2,k3,k5,_,X _ _ ho,.of_isNs (isNs_of_in X hok),nsMap_none_of_in X hok hni,tail_of_in X ht⟩
  ·cases q
 ·cases q
theorem zg8 (X:K.In h) (q:excIn K C bmVE neVE=true):∃ bm,ClsAt h C bm/\∀ B,mroIn K C (.ref B)=some true->(Value.ref C::bm).contains (.ref B)=true:=by
 unfold excIn at q
 split at q
 ·rename_i dd cd sl ho
  split at q
  ·rename_i C' bm k0 k1 k2 k3 n k5 hm hs
   simp only [and_eq_true,beq_iff_eq,Bool.not_eq_true'] at q
   obtain ⟨⟨⟨⟨⟨rfl,rfl⟩,hdel⟩,ht⟩,hok⟩,hni⟩:=q
   obtain ⟨nm,bs,mro,ns,qn,hd,sn,sub,ab,col,del⟩:=cd
   dsimp only at hm hdel hok hni
   subst hm hdel
   have hsl:sl=#[k0,k1,k2,k3,some (.builtin neVE),k5]:=by
    obtain ⟨l⟩:=sl
    simp only at hs
    rw [hs]
   subst hsl
   refine ⟨bm,⟨nm,qn,ns,bs,hd,sn,sub,ab,col,dd,k0,k1,k2,k3,k5,neVE,X _ _ ho,(tail_of_in X ht).hasType (by decide +kernel)⟩,fun B e=>?_⟩
   unfold mroIn clsIn at e
   rw [ho] at e
   simpa using e
  ·cases q
 ·cases q
end
def ClK (K:W.Frag) (C:Addr):Prop:=∀ h,K.In h->∃ bm,ClsAt h C bm/\∀ B,mroIn K C (.ref B)=some true->(Value.ref C::bm).contains (.ref B)=true
theorem ck {K:W.Frag} {C:Addr} (q:excIn K C bmVE neVE=true):ClK K C:=fun _ X=>zg8 X q
def CaughtK (K:W.Frag) (cs:List (List Nat)) (B:Addr):Prop:=∀ c∈cs,∃ C,nsIn K mainGlobals (⟨c.toArray⟩:Str)=some (some (.ref C))/\ClK K C/\mroIn K C (.ref B)=some true
section
variable {X:Cx} {ks:List Nat} {body suite:List Stmt} {b0:Stmt} {wb ws:WS} {cs:List (List Nat)} {x y:Str} {np hpos pos cpos:Pos} {B C:Addr} {j:Nat} {c:List Nat}
theorem CaughtK.at {h:Heap} (X':X.K.In X.base) (k:CaughtK X.K cs B):Caught X cs B:=fun c hc=>by
 obtain ⟨C,h1,h2,h3⟩:=k c hc
 obtain ⟨bm,a,b⟩:=h2 _ X'
 exact ⟨C,bm,h1,a,b B h3⟩
theorem zdw (hk:j∉ks) (hN:∀ i,X.N[i]?=some y->i=j) (hj:X.N[j]?=some y) (hy:X.env.scope.names.lookup y=some .local) (hB:X.mg x=some (.ref B)) (eB:ClK X.K B) (hcs:CaughtK X.K cs B) (hb:FSs X ks body wb) (hs:∀ e,FSs (hX X e) ks (b0::suite) ws)
  (hst:X.stack=X.env::X.outer:=by rfl) (hf:X.env.frame=some X.env.locals:=by rfl) (hg:Gl X x:=by rfl) (hdb:(x == ("__debug__":Str))=false:=by decide):FS X ks (.Try body [.ExceptHandler (some (.Name x np)) (some y) (b0::suite) hpos] [] [] pos) (wTryAs cs j wb ws):=fun pn xe hp pins s σ H D I q=>by
 obtain ⟨bm,cB,_⟩:=eB _ I.ok.mod.kin
 exact zdD hk hN hj hy hst hf hg hB cB (hcs.at (h:=X.base) I.ok.mod.kin) hb hs hdb pn xe hp pins s σ H D I q
theorem zbS (hB:X.mg x=some (.ref C)) (hns:nsIn X.K mainGlobals (⟨c.toArray⟩:Str)=some (some (.ref C))) (eB:excIn X.K C bmVE neVE=true) (hc:X.calm=true:=by rfl) (hg:Gl X x:=by rfl) (hd:(x == ("__debug__":Str))=false:=by decide):
  FS X ks (.Raise (some (.Call (.Name x np) [] [] cpos)) none pos) (wRaise c):=fun pn xe hp pins s σ H D I q=>zel (zfL I.ok.mod.kin hB eB) F.excBase_ValueError hc hg hns hd pn xe hp pins s σ H D I q
end
theorem zbH:bootBuiltins "ValueError"=some (.type "ValueError"):=by decide +kernel
section
variable {K:W.Frag} {B C:Addr} {cs kn yes:List (List Nat)} {c:List Nat} {cv:Value} {cvs:List Value} {b:Bool} {x:Str} {r:Option (Option Value)}
theorem zaf (h:x.cps.toList=c) (e:nsIn K mainGlobals x=r):nsIn K mainGlobals (⟨c.toArray⟩:Str)=r:=by
 subst h
 simpa using e
theorem zcx:CaughtK K [] B:=fun _ h=>nomatch h
theorem zav (h1:nsIn K mainGlobals (⟨c.toArray⟩:Str)=some (some (.ref C))) (h2:ClK K C) (h3:mroIn K C (.ref B)=some true) (r:CaughtK K cs B):CaughtK K (c::cs) B:=fun d hd=>by
 rcases mem_cons.mp hd with rfl | hd
 ·exact ⟨C,h1,h2,h3⟩
 ·exact r d hd
theorem zaK (h:W.kitOne K (.type "NoneType") cv=some false):IsiOne K [] yes cv:=⟨h,fun _ h=>nomatch h⟩
theorem zaa (h1:nsIn K mainGlobals (⟨c.toArray⟩:Str)=some (some (.ref C))) (h2:ExK K C) (h3:W.kitOne K (.ref C) cv=some b) (hb:yes.contains c=b) (r:IsiOne K kn yes cv):IsiOne K (c::kn) yes cv:=⟨r.1,fun d hd=>by
 rcases mem_cons.mp hd with rfl | hd
 ·exact ⟨C,h1,h2,by rw [hb]; exact h3⟩
 ·exact r.2 d hd⟩
end
end FL
end
section
namespace FL
open PySem PySem.Spec PySem.Calls PyProof.Rows PySem.W L2
section
variable {prog:Program} {w:World} {A:Around} {E:Value->Shared->Prop} {h:Heap} {g:Array GenState} {d:Drawn} {t:Nat} {os:OsState}
variable {nm q:Str} {C N:Addr} {bs bm bmB:List Value} {hdct:Bool} {sn:List Str} {sub:List Value} {ab:Bool} {col:Option Bool} {dd:Option Addr} {k0 k1 k2 k3 k5:Option Value} {B newId initId:String} {K:Frag} {fI:Addr} {rest:List Value}
theorem zcF {Q:Fin->Shared->Prop} (F:ExcBaseFacts B newId initId bmB) (T:OwnTail h bmB bm) (hC:h.get? C=some (excClassObj nm q C N bs bm hdct sn sub ab col dd k0 k1 k2 k3 k5 newId)) (X:K.In h)
  (hi:findIn K (.ref C) "__init__"=some (some (.ref fI))) (hf:typeIn K (.ref fI)=some (.type "function"))
  (hq:∀ h' e,Heap.MadeExcOf h h' e (.ref C) rest->wpAny (model prog w) A (call (.ref fI) (.ref e::rest)) (fun r s'=>r=.none/\Q (.done (.ret (.ref e))) s') E ⟨h',g,d,t,os⟩) (hrest:rest.length<=sizeLine):
  wpAny (model prog w) A (Builtin.«type.__call__» ⟨.ref C::rest,[]⟩) Q E ⟨h,g,d,t,os⟩:=by
 repeat (first | with_reducible refine wpAny_loadPart_at hC ?_ | with_reducible refine wpAny_madeBy_exc hC ?_ | wp_step)
 refine codeAny_call_builtin_code (Code.quiet_builtin _ F.quiet) (wpAny_check_new_subT F T hC ?_)
 refine codeAny_exc_new_subT F T hC ?_ hrest
 show wpAny _ _ _ _ _ _
 have kk:∀ b o,h.get? b=some o->((h.push { cls:=.type "tuple",data:=.seq rest.toArray }).push { cls:=.ref C,data:=.fields #[.ref h.objs.size,.none,.none,.none,.bool false,.none] }).get? b=some o:=fun b o e=>qc _ (qc _ e)
 have hC₁:=kk _ _ hC
 have hget:((h.push { cls:=.type "tuple",data:=.seq rest.toArray }).push { cls:=.ref C,data:=.fields #[.ref h.objs.size,.none,.none,.none,.bool false,.none] }).get? (h.objs.size + 1)=some
   { cls:=.ref C,data:=.fields #[.ref h.objs.size,.none,.none,.none,.bool false,.none] }:=by heap_get
 have hcC:(Value.ref C::bm).contains (.ref C)=true:=by simp
 unfold isInstance
 repeat (first | with_reducible refine wpAny_loadPart_at hget ?_ | (with_reducible refine wpAny_isSubtype_exc hC₁ ?_; rw [hcC]) | wp_step)
 show wpAny _ _ (typeLookup (.ref C) _) _ _ _
 refine (looks_findIn (X.keeps kk) hi).at ?_
 refine wpAny_holding (qa ((bind_fn (X.keeps kk) _ hf).at ?_))
 refine qa (wpAny_mono (hq _ (h.objs.size + 1) ⟨kk,Heap.get?_none_of_le (le_succ _),h.objs.size,hget,Heap.get?_none_of_le (le_refl _),qc _ (Heap.get?_push_at rfl rfl)⟩) (fun r s' hr=>?_) fun _ _ x=>x)
 obtain ⟨rfl,hQ⟩:=hr
 wp_walk
 exact hQ
theorem zdm {Q:Value->Shared->Prop} (F:ExcBaseFacts B newId initId bmB) (T:OwnTail h bmB bm) (hC:h.get? C=some (excClassObj nm q C N bs bm hdct sn sub ab col dd k0 k1 k2 k3 k5 newId)) (X:K.In h)
  (hi:findIn K (.ref C) "__init__"=some (some (.ref fI))) (hf:typeIn K (.ref fI)=some (.type "function"))
  (hq:∀ h' e,Heap.MadeExcOf h h' e (.ref C) rest->wpAny (model prog w) (A.under (.builtin "type.__call__" ⟨.ref C::rest,[]⟩)) (call (.ref fI) (.ref e::rest)) (fun r s'=>r=.none/\Q (.ref e) s') E ⟨h',g,d,t,os⟩) (hrest:rest.length<=sizeLine):
  wpAny (model prog w) A (call (.ref C) rest) Q E ⟨h,g,d,t,os⟩:=by
 have f1:=tc_lookup
 have f2:=tc_bind (.ref C)
 have hT:(⟨h,g,d,t,os⟩:Shared).TypeIs (.ref C) "type":=⟨_,hC,rfl⟩
 refine wpAny_call (codeAny_of_tree ?_)
 show wpAny _ _ (callAny (.ref C) _) _ _ _
 repeat (any_goals (first | assumption | with_reducible refine wpAny_loadPart_at hC ?_ | wp_step))
 refine ⟨rfl,?_⟩
 exact codeAny_call_builtin_at (Code.quiet_builtin _ (by decide +kernel)) entry_typeCall (wpAny_check_type_call_sub hC (zcF F T hC X hi hf (fun h' e hm=>hq h' e hm) hrest))
end
def mkφ (e C:Addr) (dx:Option Addr) (h:Heap):Prop:=∃ t sl,h.get? e=some ⟨.ref C,dx,.fields #[.ref t,.none,.none,.none,.bool false,.none],sl⟩
section
variable {M:Model} {prog:Program} {w:World} {A:Around} {E:Value->Shared->Prop} {s:Shared} {env:PySem.Env}
variable {nm q:Str} {C N:Addr} {bs bm bmB:List Value} {hdct:Bool} {sn:List Str} {sub:List Value} {ab:Bool} {col:Option Bool} {dd:Option Addr} {k0 k1 k2 k3 k5:Option Value} {B newId initId:String} {K:Frag} {fI:Addr}
theorem zcz {x:Sem Value} {Q:Flow->Shared->Prop} (hbase:bm.contains (.type "BaseException")=true) (hh:A.handled=none)
  (h:wpAny M A x (fun v s₁=>∃ e od,v=.ref e/\s₁.heap.get? C=some (excClassObj nm q C N bs bm hdct sn sub ab col dd k0 k1 k2 k3 k5 newId)/\
   mkφ e C od s₁.heap/\E (.ref e) s₁) E s):
  wpAny M A (raiseStmt env (some x) none) Q E s:=by
 have hcB:(Value.ref C::bm).contains (.type "BaseException")=true:=by rw [List.contains_cons,hbase,Bool.or_true]
 unfold raiseStmt
 refine qa (wpAny_mono h (fun v s₁ h₁=>?_) fun _ _ x=>x)
 obtain ⟨e,od,rfl,hC,⟨t,sl,he⟩,hE⟩:=h₁
 obtain ⟨hp,g,d,tk,os⟩:=s₁
 repeat (first | with_reducible refine wpAny_loadPart_at he ?_ | with_reducible refine wpAny_loadPart_at hC ?_ | (with_reducible refine wpAny_isSubtype_exc hC ?_; rw [hcB]) | wp_step)
 exact wpAny_raiseNew_none hh hE
theorem zcv (F:ExcBaseFacts B newId initId bmB) {x:Str} {np cpos pos:Pos} {args:List Expr} {Q:Flow->Shared->Prop}
  (hi:findIn K (.ref C) "__init__"=some (some (.ref fI))) (hf:typeIn K (.ref fI)=some (.type "function")) (hbase:bm.contains (.type "BaseException")=true) (hh:A.handled=none) (hplain:(backTo cpos (starEach args env)).any (·.1)=false)
  (h:wpAny (model prog w) A (eval (.Name x np) env) (fun f s₁=>f=.ref C/\wpAny (model prog w) A (evalArgs (.ref C) true (backTo cpos (starEach args env)) [])
   (fun a s₂=>a.kw=[]/\a.pos.length<=sizeLine/\s₂.heap.get? C=some (excClassObj nm q C N bs bm hdct sn sub ab col dd k0 k1 k2 k3 k5 newId)/\K.In s₂.heap/\OwnTail s₂.heap bmB bm/\
    ∀ h' e,Heap.MadeExcOf s₂.heap h' e (.ref C) a.pos->wpAny (model prog w) (A.under (.builtin "type.__call__" ⟨.ref C::a.pos,[]⟩)) (call (.ref fI) (.ref e::a.pos)) (fun r s'=>r=.none/\s'.heap.get? C=some (excClassObj nm q C N bs bm hdct sn sub ab col dd k0 k1 k2 k3 k5 newId)/\∃ od,mkφ e C od s'.heap/\E (.ref e) s') E { s₂ with heap:=h' }) E s₁) E s):
  wpAny (model prog w) A (exec (.Raise (some (.Call (.Name x np) args [] cpos)) none pos) env) Q E s:=by
 rw [arm_exec_Raise]
 simp only [evalOpt,Option.map]
 refine qa (wpAny_standAt (zcz (C:=C) (nm:=nm) (q:=q) (N:=N) (bs:=bs) (bm:=bm) (hdct:=hdct) (sn:=sn) (sub:=sub) (ab:=ab) (col:=col) (dd:=dd) (k0:=k0) (k1:=k1) (k2:=k2) (k3:=k3) (k5:=k5) (newId:=newId) hbase hh (qa (wpAny_mono (wpAny_Call_ofName (wpAny_mono h (fun f s₁ h₁=>?_) fun _ _ x=>x)) (fun v s₃ h₃=>qa (wpAny_standAt (qb h₃))) fun _ _ x=>x))))
 obtain ⟨rfl,h₁⟩:=h₁
 unfold callWith
 refine qa (wpAny_holding (wpAny_mono h₁ (fun a s₂ h₂=>qa (wpAny_standAt ?_)) fun _ _ x=>x))
 obtain ⟨apos,akw⟩:=a
 obtain ⟨hkw,hlen,hC,X,T,h₂⟩:=h₂
 obtain rfl:akw=[]:=hkw
 obtain ⟨hp,g,d,tk,os⟩:=s₂
 simp only [hplain]
 refine qa (wpAny_keeperOf_exc hC ?_)
 refine qa (zdm F T hC X hi hf (fun h' e hm=>wpAny_mono (h₂ h' e hm) (fun r s' z=>?_) fun _ _ z=>z) hlen)
 obtain ⟨z1,z2,od,z3,z4⟩:=z
 exact ⟨z1,qa (wpAny_holding (wpAny_point (qb ⟨e,od,rfl,z2,z3,z4⟩)))⟩
end
end FL
end
section
namespace FL
open PySem PySem.Spec PySem.Calls PyProof.Rows PySem.W L2
open Builtin Builtin.ObjectAttr
structure ExI (K:Frag) (C Wb fI:Addr) (n:Str):Prop where
 lk:∃ dd nm bs ns qn sn sub ab col k0 k1 k2 k3 k5,K.lookup C=some (excClassObj nm qn C ns bs (.ref Wb::bmVE) true sn sub ab col dd k0 k1 k2 k3 k5 neVE)
 eW:excIn K Wb bmVE neVE=true
 hi:findIn K (.ref C) "__init__"=some (some (.ref fI))
 hf:typeIn K (.ref fI)=some (.type "function")
 hs:findIn K (.ref C) "__setattr__"=some (some (.builtin "object.__setattr__"))
 hn:findIn K (.ref C) n=some none
section
variable {prog:Program} {w:World} {A:Around} {E:Value->Shared->Prop} {s:Shared} {K:Frag} {x C Wb fI:Addr} {name:Str} {v:Value} {Q:Unit->Shared->Prop} {h:Heap}
theorem ExI.tail (k:ExI K C Wb fI name) (X:K.In h):OwnTail h bmVE (.ref Wb::bmVE):=by
 have q:=k.eW
 unfold excIn at q
 split at q
 ·rename_i dd cd sl ho
  split at q
  ·simp only [and_eq_true,beq_iff_eq,Bool.not_eq_true'] at q
   obtain ⟨⟨⟨⟨⟨rfl,rfl⟩,hdel⟩,ht⟩,hok⟩,hni⟩:=q
   exact .own (X _ _ ho) (.of_isNs (isNs_of_in X hok)) (nsMap_none_of_in X hok hni) .base
  ·cases q
 ·cases q
theorem zeQ (X:K.In s.heap) (k:ExI K C Wb fI name) (he:mkφ x C none s.heap)
  (h:∀ h' dx tk,s.heap.get? dx=none->mkφ x C (some dx) h'->h'.Ns1 dx (fun y=>if y=name then some v else none)->(∀ b o,b≠x->s.heap.get? b=some o->h'.get? b=some o)->Q () { s with heap:=h',toks:=tk }):
  wpAny (model prog w) A (setAttr (.ref x) name v) Q E s:=by
 obtain ⟨tt,sl,hx⟩:=he
 obtain ⟨dd,nm,bs,ns,qn,sn,sub,ab,col,k0,k1,k2,k3,k5,lk⟩:=k.lk
 have I:InstAt s.heap x ⟨.ref C,none,.fields #[.ref tt,.none,.none,.none,.bool false,.none],sl⟩ C none:=⟨hx,rfl,rfl,True.intro⟩
 refine set_plain X I k.hs ?_
 have SF:=PySem.F.store_object
 have hc:clsIn K C=some ⟨nm,bs,.ref C::.ref Wb::bmVE,ns,qn,true,sn,sub,ab,col,false⟩:=by unfold clsIn; rw [lk]
 have sb:Looks (model prog w) s.heap (isInstance (.ref x) (.type "object")) true:=I.type.andThen (looks_mroIn X (by unfold mroIn; rw [hc,bind_some,if_neg (by simp)]; simp))
 refine codeAny_call_builtin SF.slot.plain SF.entry (@check_slot (model prog w) _ _ _ "object.__setattr__" "object" "__setattr__" (.ref x) [.str name s.toks,v] [] _ SF.kind SF.split sb (SF.args (.ref x) (.str name s.toks) v) ?_)
 have hm:Looks (model prog w) s.heap (mroOf (.ref C)) (.ref C::.ref Wb::bmVE):=(looks_clsIn X hc).andThen .now
 rw [osa_eq,refuse_eq]
 refine qa (qa (I.type.at (qa (hm.at ?_))))
 rw [refuseLoop_ref,refuseLoop_ref,PySem.F.store_ValueError.passes]
 refine qb (qa (I.type.at (qa ((looks_findIn X k.hn).at (qa (qb ?_))))))
 show wpAny _ _ (storeInOwnDict (.ref x) (.ref C) (.str name s.toks) name v false) _ _ _
 unfold storeInOwnDict
 refine qa (qb (qa ?_))
 obtain ⟨hh,gg,dr,tk,os⟩:=s
 have hx:hh.get? x=some ⟨.ref C,none,.fields #[.ref tt,.none,.none,.none,.bool false,.none],sl⟩:=hx
 have hxs:x≠hh.objs.size:=ne_of_lt (qe hx)
 have hx₁:=qc { cls:=.type "dict",data:=.dict #[] } hx
 have hC:hh.get? C=some (excClassObj nm qn C ns bs (.ref Wb::bmVE) true sn sub ab col dd k0 k1 k2 k3 k5 neVE):=X _ _ lk
 have hid:∀ {A:Around} {Q':Option Addr->Shared->Prop} {E':Value->Shared->Prop} {gg dr tk os},Q' (some hh.objs.size) ⟨(hh.push { cls:=.type "dict",data:=.dict #[] }).update x fun o=>{ o with dict:=some hh.objs.size },gg,dr,tk,os⟩->wpAny (model prog w) A (instanceDict x true) Q' E' ⟨hh,gg,dr,tk,os⟩:=fun {A Q' E' gg dr tk os} q=>by
  unfold instanceDict
  repeat (first | with_reducible refine wpAny_loadPart_at hx ?_ | with_reducible refine wpAny_loadPart_at hC ?_ | wp_step)
  exact q
 show wpAny _ _ (instanceDict x true) _ _ _
 refine hid ?_
 have hgd:((hh.push { cls:=.type "dict",data:=.dict #[] }).update x fun o=>{ o with dict:=some hh.objs.size }).get? hh.objs.size=some { cls:=.type "dict",data:=.dict #[] }:=
  (Heap.get?_update_ne _ _ _ _ hxs.symm).trans (Heap.get?_push_at rfl rfl)
 have hnd:((hh.push { cls:=.type "dict",data:=.dict #[] }).update x fun o=>{ o with dict:=some hh.objs.size }).Ns hh.objs.size (fun _=>none):=
  ⟨_,#[],_,hgd,rfl,fun e he=>absurd he (by simp),fun _=>rfl⟩
 show wpAny _ _ (storeInDict hh.objs.size (.str name _) name v) _ _ _
 unfold storeInDict newKeyGuard
 refine qa (qb (qa (wpAny_nsSet1 (Heap.Ns1.of_empty hnd) fun h' hn' hs=>?_)))
 obtain ⟨oD,esD,epD,hoD,hdD,hcD⟩:=hn'.count (Within.cons name v Within.nil)
 refine qa (wpAny_lookBehind hoD (by rw [hdD]; exact pastItsLine_dict (le_trans hcD (by rw [length_cons,length_nil,sizeLine_eq]; omega))) ?_)
 refine qb ?_
 refine h h' hh.objs.size _ (Heap.get?_none_of_le (le_refl _)) ⟨tt,sl,?_⟩ ?_ fun b ob hbx hb=>?_
 ·exact (hs.2 x hxs).trans (Heap.get?_update_self _ hx₁ rfl)
 ·obtain ⟨o',es,ep,e1,e2,e3,eu,e4⟩:=hn'
  exact ⟨o',es,ep,e1,e2,e3,eu,fun y=>by rw [e4 y]⟩
 ·exact (hs.2 b (ne_of_lt (qe hb))).trans ((Heap.get?_update_ne _ _ _ _ hbx).trans (qc _ hb))
end
end FL
end
section
namespace FL
open PySem PySem.Spec PyProof.Rows L2
open PySem.W (Frag nsIn findIn findObj)
def spInit (K:Frag) (n:Str):Sp:=fun vs H Q _=>∃ e C Wb fI i,vs=[.ref e,.int i]/\ExI K C Wb fI n/\H e=some (.ext (mkφ e C none))/\∀ d,H d=none->d≠e->Q .non (upd (upd H e (.ext (mkφ e C (some d)))) d (.xd [(n,.int i)]))
def sXf (K:Frag) (ta tv:TE) (n:Str):TS:=fun D σ H=>tv σ H fun y H1=>ta σ H1 fun x H2=>∃ e C Wb fI,x=.ref e/\ExI K C Wb fI n/\H2 e=some (.ext (mkφ e C none))/\∀ d,H2 d=none->d≠e->D.nx σ (upd (upd H2 e (.ext (mkφ e C (some d)))) d (.xd [(n,y)]))
section
variable {P:Program} {w:World} {H:Hp} {h:Heap} {e C:Addr} {dx:Option Addr}
theorem zfG (z:mkφ e C dx h):ObjOk P w H h e (.ext (mkφ e C dx)):=⟨z,let ⟨_,_,q⟩:=z; ⟨_,q⟩,fun _ _ ⟨t,sl,q⟩ k=>⟨t,sl,k _ q⟩⟩
variable {X:Cx} {pins:List (Addr×Obj)} {σ:St} {s:Shared} {Wb fI:Addr} {n:Str} {y:V} {u:Value} {A:Around} {E:Value->Shared->Prop} {Q:Unit->Shared->Prop}
theorem Inv.noH (I:Inv X pins σ H s) (h:s.heap.get? d=none):H d=none:=by
 cases z:H d with
 | none=>rfl
 | some o=>obtain ⟨v,z⟩:=ObjOk.there (I.hok d o z); rw [h] at z; cases z
theorem zb4 (I:Inv X pins σ H s) (ee:H e=some (.ext (mkφ e C none))) (k:ExI X.K C Wb fI n) (ry:RelV y u)
  (h:∀ s' d,H d=none->d≠e->Inv X pins σ (upd (upd H e (.ext (mkφ e C (some d)))) d (.xd [(n,y)])) s'->Q () s'):wpAny (model X.prog X.w) A (setAttr (.ref e) n u) Q E s:=by
 obtain ⟨hm,⟨oe,he⟩,_⟩:=(show ObjOk X.prog X.w H s.heap e (.ext (mkφ e C none)) from I.hok e _ ee)
 refine zeQ I.kIn k hm fun h' dx tk nd hm' hns keep=>?_
 have hd:H dx=none:=Inv.noH I nd
 have hne:dx≠e:=fun z=>by rw [z,he] at nd; cases nd
 have nee:∀ b,H b=none->b≠e:=fun b q z=>by rw [z,ee] at q; cases q
 have old:∀ b o u,s.heap.get? b=some u->b≠e->H b=o->(upd (upd H e (.ext (mkφ e C (some dx)))) dx (.xd [(n,y)])) b=o:=fun b o u q z r=>by
  rw [zac (fun z=>by rw [z,nd] at q; cases q),zac z]; exact r
 have oldH:∀ b o,b≠e->H b=some o->(upd (upd H e (.ext (mkφ e C (some dx)))) dx (.xd [(n,y)])) b=some o:=fun b o z r=>by
  obtain ⟨u,q⟩:=ObjOk.there (I.hok b o r); exact old b _ u q z r
 refine h _ dx hd hne (I.call (ch:=[]) (g':=s.gens) (d':=s.drawn) (t':=tk) ⟨fun b o q r _ _=>keep b o (nee b r) q,fun b o q r _ _=>⟨o.slots,keep b o (nee b r) q⟩,fun b o q r _=>old b _ o q (nee b r) r,fun b o q _=>?_,
  fun b xs q=>oldH b _ (fun z=>by rw [z,ee] at q; cases q) q,fun b o u q=>oldH b _ (fun z=>by rw [z,ee] at q; cases q) q,fun b ps q=>⟨#[],by rw [oldH b _ (fun z=>by rw [z,ee] at q; cases q) q]; simp⟩⟩ (fun b o q=>?_) I.bare fun b hb=>absurd hb (by simp))
 ·by_cases z:b=e
  ·subst z; obtain ⟨_,_,z⟩:=hm'; exact ⟨_,z⟩
  ·exact ⟨o,keep b o z q⟩
 ·by_cases z:b=dx
  ·subst z
   rw [zaj] at q
   cases q
   refine ⟨_,hns,fun f=>?_⟩
   by_cases hf:f=n
   ·subst hf; simp [RelO,List.lookup,ry]
   ·have:(f == n)=false:=beq_eq_false_iff_ne.mpr hf
    simp [RelO,List.lookup,hf,this]
  ·rw [zac z] at q
   by_cases z2:b=e
   ·subst z2
    rw [zaj] at q
    cases q
    exact zfG hm'
   ·rw [zac z2] at q
    refine (I.hok b o q).stay (fun c u hc r=>keep c u ?_ r) (fun c r=>oldH c _ (fun z=>by rw [z,ee] at r; cases r) r) fun c xs r=>oldH c _ (fun z=>by rw [z,ee] at r; cases r) r
    rcases hc with rfl | hc
    ·exact z2
    ·exact fun z=>by rw [z,ee] at hc; cases hc
variable {o value:Expr} {pos pos':Pos} {ta tv:TE}
theorem zin (ha:PE X o ta) (hv:PE X value tv) (hs:swapsWith value (some (.Attribute o n pos')) pos.line X.env=pure false):PS X (.Assign [.Attribute o n pos'] value pos) (sXf X.K ta tv n):=by
 intro pins s σ H D I h
 refine plainObj_wpAny_Assign_Attribute (thn (hv pins s σ H _ I h) fun u s1 zq=>?_) hs
 obtain ⟨y,H1,I1,ry,q⟩:=zq
 refine thn (ha pins s1 σ H1 _ I1 q) fun ov s2 zq=>?_
 obtain ⟨x,H2,I2,rx,e,C,Wb,fI,ex,k,ee,q2⟩:=zq
 subst ex
 obtain rfl:ov=Value.ref e:=rx
 exact zb4 I2 ee k ry fun s3 d h1 h2 I3=>⟨σ,_,I3,q2 d h1 h2⟩
end
def initOf:Stmt->Stmt
 | .ClassDef _ _ _ b _ _ _ _ _ _ _=>(b.find? fun | .FunctionDef ..=>true | _=>false).getD (.Pass ⟨0,0,0,0⟩)
 | s=>s
section
variable {P:Program} {w:World} {K:Frag} {mg:Str->Option Value} {base:Heap} {f:Addr} {fd:FuncData} {x qual a b n:Str} {st:Stmt} {N:List Str} {p1 p2 p3 p4:Pos}
theorem zbC (Fn:Fun K x qual st f fd) (Sc:FnScope [a,b] [a,b] (defScope st)) (hb:defBody st=[.Assign [.Attribute (.Name a p1) n p2] (.Name b p3) p4]) (va:Vis (defScope st) a:=by first | exact Or.inl rfl | exact Or.inr (Or.inl rfl) | exact Or.inr (Or.inr rfl)) (vb:Vis (defScope st) b:=by first | exact Or.inl rfl | exact Or.inr (Or.inl rfl) | exact Or.inr (Or.inr rfl))
  (da:(a == ("__debug__":Str))=false:=by decide) (db:(b == ("__debug__":Str))=false:=by decide) (ca:(a == ("__classdict__":Str))=false:=by decide) (cb:(b == ("__classdict__":Str))=false:=by decide):
  FnOk P w K mg base (CXe P w) 1 f fd [a,b] (spInit K n):=by
 refine Fn.okX Sc (fun vs H Q E h=>?_) fun cdv A outer s H vs Q E hr h=>?_
 ·obtain ⟨e,C,Wb,fI,i,rfl,_⟩:=h
  rfl
 ·obtain ⟨e,C,Wb,fI,i,rfl,k,ee,q⟩:=h
  refine ⟨_,by rw [hb]; exact zcW (zin (zda (i:=0) rfl va da ca) (zda (i:=1) rfl vb db cb) rfl),?_⟩
  exact ⟨_,rfl,_,rfl,e,C,Wb,fI,rfl,k,ee,fun d h1 h2=>q d h1 h2⟩
end
section
variable {X:Cx} {pins:List (Addr×Obj)} {σ:St} {H:Hp} {s:Shared} {e C Wb fI:Addr} {n x:Str} {kk:Nat} {fd:FuncData} {ps:List Str} {np cpos pos:Pos} {a:Expr} {ta:TE}
theorem Inv.adoptM (I:Inv X pins σ H s) (F:FpOk X pins H e) (z:mkφ e C none s.heap):Inv X pins σ (upd H e (.ext (mkφ e C none))) s:=by
 obtain ⟨f0,f1,f2,f3,f4,f5⟩:=F
 have ne:∀ b o,H b=some o->b≠e:=fun b o q z=>by rw [z,f0] at q; cases q
 refine I.call' (ch:=[e]) rfl ⟨fun b o q _ _ _=>q,fun b o q _ _ _=>⟨o.slots,q⟩,fun b o _ n x=>(zac fun z=>x (by simp [z])).trans n,fun b o q _=>⟨o,q⟩,fun b xs q=>(zac (ne _ _ q)).trans q,fun b o u q=>(zac (ne _ _ q)).trans q,fun b ps q=>⟨#[],by rw [zac (ne _ _ q),q]; simp⟩⟩ (fun b o q=>?_) I.bare fun b hb=>?_
 ·by_cases hb:b=e
  ·subst hb
   rw [zaj] at q
   cases q
   exact zfG z
  ·rw [zac hb] at q
   exact (I.hok b o q).stay (fun _ _ _ z=>z) (fun c z=>(zac (ne _ _ z)).trans z) fun c xs z=>(zac (ne _ _ z)).trans z
 ·rw [mem_singleton.mp hb]
  exact ⟨f3,f1,f4,f5⟩
theorem Inv.unadopt {H':Hp} (I:Inv X pins σ H' s) (hn:H e=none) (F:FpOk X pins H e) (old:∀ b,b≠e->H' b=H b) (he:∀ o,H' e=some o->∃ φ,o=.ext φ):Inv X pins σ H s:=by
 obtain ⟨f0,f1,f2,f3,f4,f5⟩:=F
 have ne:∀ b o,H' b=some o->(∀ φ,o≠.ext φ)->H b=some o:=fun b o q z=>by
  by_cases hb:b=e
  ·subst hb; obtain ⟨φ,r⟩:=he o q; exact absurd r (z φ)
  ·rw [<- old b hb]; exact q
 refine I.call' (ch:=[e]) rfl ⟨fun b o q _ _ _=>q,fun b o q _ _ _=>⟨o.slots,q⟩,fun b o _ n x=>by rw [<- old b fun z=>x (by simp [z])]; exact n,fun b o q _=>⟨o,q⟩,fun b xs q=>ne _ _ q (fun φ z=>by cases z),fun b o u q=>ne _ _ q (fun φ z=>by cases z),fun b ps q=>⟨#[],by rw [ne _ _ q (fun φ z=>by cases z)]; simp⟩⟩ (fun b o q=>?_) I.bare fun b hb=>?_
 ·have hb:b≠e:=fun z=>by rw [z,hn] at q; cases q
  rw [<- old b hb] at q
  exact (I.hok b o q).stay (fun _ _ _ z=>z) (fun c z=>ne _ _ z (fun φ z=>by cases z)) fun c xs z=>ne _ _ z (fun φ z=>by cases z)
 ·rw [mem_singleton.mp hb]
  exact ⟨f3,f1,f4,f5⟩
theorem zcH (k:ExI X.K C Wb fI n) (Fk:FnOk X.prog X.w X.K X.mg X.base (CXe X.prog X.w) kk fI fd ps (spInit X.K n)) (hb:Binds X.K fd ps []) (hr:Room (kk + 1) X.A) (hm:X.mg x=some (.ref C)) (hc:X.calm=true) (hg:Gl X x) (ha:PE X a ta)
  (hd:(x == ("__debug__":Str))=false) (he:starEach [a] X.env=[(false,eval a X.env)]):
  PS X (.Raise (some (.Call (.Name x np) [a] [] cpos)) none pos) (fun _ σ H=>ta σ H fun v H1=>∃ i,v=.int i/\∀ d,H1 d=none->XW X σ (.ref C) (some d) (upd H1 d (.xd [(n,.int i)]))):=by
 intro pins s σ H D I h
 obtain ⟨dd,nm,bs,ns,qn,sn,sub,ab,col,k0,k1,k2,k3,k5,lk⟩:=k.lk
 refine zcv (C:=C) (nm:=nm) (q:=qn) (N:=ns) (bs:=bs) (bm:=.ref Wb::bmVE) (hdct:=true) (sn:=sn) (sub:=sub) (ab:=ab) (col:=col) (dd:=dd) (k0:=k0) (k1:=k1) (k2:=k2) (k3:=k3) (k5:=k5) F.excBase_ValueError k.hi k.hf (by simp) (I.ok.hd hc) (by rw [he]; rfl) (zbo I hg hm ⟨rfl,?_⟩ hd)
 rw [he]
 refine Calls.evalArgs_plain ?_
 refine Calls.spliced_cons (thn (ha pins s σ H _ I h) fun u s1 zq=>Calls.spliced_nil ?_)
 obtain ⟨v,H1,I1,rv,i,rfl,q⟩:=zq
 obtain ⟨t,rfl⟩:=(show ∃ t,u=Value.int i t from rv)
 refine ⟨rfl,by rw [sizeLine_eq]; show 1<=_; omega,I1.kIn _ _ lk,I1.kIn,k.tail I1.kIn,fun h' e m=>?_⟩
 have hn:=Inv.noH I1 m.new
 obtain ⟨tt,het,_,_⟩:=m.there
 have I2:Inv X pins σ (upd H1 e (.ext (mkφ e C none))) { s1 with heap:=h' }:=Inv.adoptM (I1.kept (t':=s1.toks) m.keeps) (I1.fpNew m.new hn) ⟨tt,_,het⟩
 have r2:Vals [V.ref e,V.int i] [Value.ref e,Value.int i t]:=.cons rfl (.cons ⟨t,rfl⟩ .nil)
 have hl:([Value.ref e,Value.int i t]++[]).length=ps.length:=(Fk.len [.ref e,.int i] (upd H1 e (.ext (mkφ e C none))) (fun _ _=>True) (fun _ _ _=>False) ⟨e,C,Wb,fI,i,rfl,k,zaj,fun _ _ _=>trivial⟩)
 refine wpAny_call (codeAny_mono (Fk.run _ X.stack _ _ ⟨[Value.ref e,Value.int i t],[]⟩ [Value.ref e,Value.int i t] [.ref e,.int i] (fun v H'=>v=.non/\∃ d,H1 d=none/\d≠e/\H'=upd (upd (upd H1 e (.ext (mkφ e C none))) e (.ext (mkφ e C (some d)))) d (.xd [(n,.int i)])) (fun _ _ _=>False) (hr.make C _ []) (I2.env0.make C _ []) (hb _ [Value.ref e,Value.int i t] I2.kIn hl) r2 ⟨e,C,Wb,fI,i,rfl,k,zaj,fun d h1 h2=>⟨rfl,d,by rw [zac h2] at h1; exact h1,h2,rfl⟩⟩) fun r s' hq'=>?_)
 cases r with
 | error u=>obtain ⟨_,_,_,_,_,_,_,_,_,z,_⟩:=hq'; exact z.elim
 | ok fl=>
   cases fl with
   | ret u=>
     obtain ⟨v,H',I3,rv,rfl,d,h1,h2,rfl⟩:=I2.after hq'
     have eH:(upd (upd (upd H1 e (.ext (mkφ e C none))) e (.ext (mkφ e C (some d)))) d (.xd [(n,.int i)])) e=some (.ext (mkφ e C (some d))):=by rw [zac (Ne.symm h2),zaj]
     obtain ⟨hm,_,_⟩:=(show ObjOk X.prog X.w _ s'.heap e (.ext (mkφ e C (some d))) from I3.hok e _ eH)
     have hn2:(upd H1 d (.xd [(n,.int i)])) e=none:=by rw [zac (Ne.symm h2)]; exact hn
     have fp:FpOk X pins (upd H1 d (.xd [(n,.int i)])) e:=I1.fpNew m.new hn2
     have I4:Inv X pins σ (upd H1 d (.xd [(n,.int i)])) s':=Inv.unadopt I3 hn2 fp (fun b hb=>by
      unfold upd
      by_cases z:b=d
      ·simp [z]
      ·simp [z,hb]) fun o z=>by rw [eH] at z; cases z; exact ⟨_,rfl⟩
     obtain ⟨t1,sl1,hm1⟩:=id hm
     exact ⟨rv,I3.kIn _ _ lk,some d,hm,q d h1 e s' I4.few (Fly.few ⟨fp,_,_,hm1,rfl,rfl,rfl,.inl rfl⟩)⟩
   | next=>exact False.elim hq'
   | brk=>exact False.elim hq'
   | cont=>exact False.elim hq'
end
section
variable {X:Cx} {ks:List Nat} {C Wb fI:Addr} {n x:Str} {kk j:Nat} {fd:FuncData} {ps:List Str} {np cpos pos:Pos} {a:Expr} {wa:WE} {c f:List Nat} {kn:List (List Nat)}
theorem ExI.ck {K:Frag} (k:ExI K C Wb fI n):ClK K C:=fun h X=>by
 obtain ⟨dd,nm,bs,ns,qn,sn,sub,ab,col,k0,k1,k2,k3,k5,lk⟩:=k.lk
 refine ⟨_,⟨nm,qn,ns,bs,true,sn,sub,ab,col,dd,k0,k1,k2,k3,k5,neVE,X _ _ lk,by simp⟩,fun B e=>?_⟩
 unfold W.mroIn W.clsIn at e
 rw [lk] at e
 simpa using e
theorem za2 (hf:(⟨f.toArray⟩:Str)=n) (k:ExI X.K C Wb fI n) (Fk:FnOk X.prog X.w X.K X.mg X.base (CXe X.prog X.w) kk fI fd ps (spInit X.K n)) (hb:Binds X.K fd ps []) (hm:X.mg x=some (.ref C)) (hns:nsIn X.K mainGlobals (⟨c.toArray⟩:Str)=some (some (.ref C))) (hr:Room j X.A) (ha:FE X a wa)
  (hj:kk + 1<=j:=by decide) (hc:X.calm=true:=by rfl) (hg:Gl X x:=by rfl) (hd:(x == ("__debug__":Str))=false:=by decide) (he:starEach [a] X.env=[(false,eval a X.env)]:=by rfl):
  FS X ks (.Raise (some (.Call (.Name x np) [a] [] cpos)) none pos) (wRaise1 c f wa):=fun pn xe hp=>PS.imp (zcH (X:=wp X pn xe) k Fk hb (hr.mono hj) hm hc hg (ha pn xe hp) hd he) fun D σ H q=>by
 subst hf
 obtain ⟨F,G,U,E,rel,hw,n,b,c,r,hx⟩:=q
 refine ⟨F,G,U,_,_,rel,hw,fun r U1 v F1 H1 hp s1 r1 rv=>?_,hx.mono (fun σ2 z=>by rw [z]; exact KP.refl) (Same.refl F) (Same.refl G)⟩
 have hl:=len1 r1
 cases hv:view r U1 with
 | none=>rw [hv] at hp; exact hp.elim
 | some d=>
   rw [hv] at hp
   have rp:=look (U':=[]) (σ':=[]) r1 hl rv hv
   cases rp with
   | int i=>
     refine ⟨i,rfl,fun d hd a s' I Fl=>?_⟩
     exact hx _ U1 σ (upd F1 d (.xd [((⟨f.toArray⟩:Str),.int i)])) (upd H1 d (.xd [((⟨f.toArray⟩:Str),.int i)])) (.ref a) s' hp KP.refl (s1.trans (Same.upd (r1.free hd).1)) ((r1.drop hl).newF hd) I ⟨a,C,some d,rfl,⟨_,_,_,rfl,hns,.inr ⟨d,f,i,rfl,rfl,rfl,zaj⟩⟩,Fl⟩
   | _=>exact hp.elim
theorem zd2 {prog:Program} {w:World} {A:Around} {E:Value->Shared->Prop} {s:Shared} {K:Frag} {x D:Addr} {ox:Obj} {odo:Option Obj} {name:Str} {expr:Bool} {v:Value} {Q:Value->Shared->Prop} (X:K.In s.heap) (I:W.InstAt s.heap x ox D odo) (k:ExK K D)
  (hf:findObj K D odo name=some (.value v)) (hh:W.handedIn v=true) (h:Q v { s with toks:=s.toks + 1 }):wpAny (model prog w) A (getAttr (.ref x) name expr) Q E s:=by
 unfold getAttr
 refine qa (wpAny_mkText ?_)
 refine zcm (s:={ s with toks:=s.toks + 1 }) X I k fun A Q' E' hq=>?_
 have L0:=I.type (M:=model prog w)
 have L4:=W.looks_find (M:=model prog w) X I hf
 unfold Builtin.«object.__getattribute__»
 refine qa (qb (qa (qb (qa (L0.at (qa (L4.at ?_)))))))
 exact qb (hq _ _ ⟨W.handedOut_of hh,h⟩)
def XFk (K:Frag) (kn:List (List Nat)) (n:Str):Prop:=∀ c∈kn,∃ C,nsIn K mainGlobals (⟨c.toArray⟩:Str)=some (some (.ref C))/\ExK K C/\findIn K (.ref C) n=some none/\W.hasDictIn K C=true
theorem zbI {K:Frag}:XFk K [] n:=fun _ h=>nomatch h
theorem zaN {K:Frag} (h1:nsIn K mainGlobals (⟨c.toArray⟩:Str)=some (some (.ref C))) (h2:ExK K C) (h3:findIn K (.ref C) n=some none) (h4:W.hasDictIn K C=true) (r:XFk K kn n):XFk K (c::kn) n:=fun d hd=>by
 rcases mem_cons.mp hd with rfl | hd
 ·exact ⟨C,h1,h2,h3,h4⟩
 ·exact r d hd
theorem zbD (hk:XFk X.K kn n) (hf:(⟨f.toArray⟩:Str)=n) (ha:FE X a wa) (hb:attributeBase a n X.env (eval a X.env)=eval a X.env:=by rfl):FE X (.Attribute a n pos) (wXFld kn f wa):=fun pn xe hp=>by
 subst hf
 intro pins s σ H Q I h
 refine zeP hb (thn (ha pn xe hp pins s σ H _ I (one (k:=fun x U1 Q E=>need (view x U1) fun d=>need (xFld kn f d) fun v=>Q (.v (.sh v)) U1) h)) fun u s1 zq=>?_)
 obtain ⟨x,H1,I1,r1,F,G,U,y,P,PX,rel,hl,ry,hk',hok,hx⟩:=zq
 obtain ⟨d,ed,hk'⟩:=zab hk'
 obtain ⟨v,ev,hk'⟩:=zab hk'
 have rp:=look (U':=[]) (σ':=[]) rel hl ry ed
 cases rp with
 | @exc a C dx c fs vs ea hn hxd=>
   rcases hxd with ⟨rfl,rfl,rfl⟩ | ⟨p,g,i,rfl,rfl,rfl,hp'⟩
   ·cases ev
   ·have ev':(if (kn.contains c && g == f)=true then some (D.int i) else none)=some v:=ev
    split at ev'
    ·rename_i hc
     rw [and_eq_true,beq_iff_eq] at hc
     obtain ⟨hc,rfl⟩:=hc
     cases ev'
     obtain ⟨C',hn',k,h3,h4⟩:=hk _ (by simpa using hc)
     rw [hn] at hn'
     cases hn'
     cases (show u=Value.ref a from r1)
     obtain ⟨⟨o,ws,q1,q2,q3,q4⟩,_,_⟩:=(show ObjOk X.prog X.w H1 s1.heap a (.ext (excφ a C (some p))) from I1.hok a _ ea)
     obtain ⟨mA,hns,hrel⟩:=(show ObjOk X.prog X.w H1 s1.heap p (.xd _) from I1.hok p _ hp')
     obtain ⟨od,ho,hlk⟩:=zdg hns
     have J:W.InstAt s1.heap a o C (some od):=⟨q1,q2,by unfold W.notCls; rw [q4],by rw [q3]; exact ho⟩
     have hv:=hrel (⟨g.toArray⟩:Str)
     rw [show List.lookup (⟨g.toArray⟩:Str) [((⟨g.toArray⟩:Str),V.int i)]=some (.int i) by simp [List.lookup]] at hv
     cases hm:mA (⟨g.toArray⟩:Str) with
     | none=>rw [hm] at hv; exact hv.elim
     | some v=>
       rw [hm] at hv
       obtain ⟨t,rfl⟩:=(show ∃ t,v=Value.int i t from hv)
       refine zd2 I1.kIn J k (W.findObj_own h4 h3 rfl (by rw [hlk,hm])) rfl ⟨.int i,H1,I1.tok _,⟨t,rfl⟩,?_⟩
       exact hok _ U _ F H1 hk' (Same.refl F) ((rel.drop hl).push (.int i)) trivial
    ·cases ev'
 | _=>cases ev
end
end FL
end
section
namespace L2
open PySem PySem.Spec PyProof.Rows
def closL (cells:List (Str×Addr)):List (Str×NameKind)->List (Str×Addr)->List (Str×Addr)
 | [],acc=>acc
 | (n,k)::r,acc=>if k == .free then (match cells.lookup n with | some c=>closL cells r ((n,c)::acc) | none=>closL cells r acc) else closL cells r acc
theorem za5 (f:Str×NameKind->List (Str×Addr)->Sem (ForInStep (List (Str×Addr))))
  (hf:∀ n k cs,f (n,k) cs=if k == .free then (do let a <- cellOf env n; pure (.yield ((n,a)::cs))) else pure (.yield cs)):
  ∀ (names:List (Str×NameKind)) (acc:List (Str×Addr)),(∀ x∈names,x.2=.free->∃ c,env.cells.lookup x.1=some c)->(forIn names acc f:Sem _)=pure (closL env.cells names acc)
 | [],acc,_=>by rw [forIn_nil]; rfl
 | (n,k)::r,acc,h=>by
   rw [forIn_cons,hf]
   have hr:∀ x∈r,x.2=.free->∃ c,env.cells.lookup x.1=some c:=fun x hx=>h x (qk _ hx)
   by_cases hk:(k == .free)=true
   ·obtain ⟨c,hc⟩:=h (n,k) ql (by simpa using hk)
    have hc':env.cells.lookup n=some c:=hc
    have e:cellOf env n=pure c:=by unfold cellOf; rw [hc']
    rw [if_pos hk,e]
    have ih:=za5 f hf r ((n,c)::acc) hr
    unfold closL
    rw [if_pos hk,hc']
    rw [<- ih]
    simp
   ·rw [if_neg hk]
    have ih:=za5 f hf r acc hr
    unfold closL
    rw [if_neg hk,<- ih]
    simp
theorem zbE (h:∀ x∈scope.names,x.2=.free->∃ c,env.cells.lookup x.1=some c):closureFor scope env=pure (closL env.cells scope.names []):=by
 show (forIn scope.names ([]:List (Str×Addr)) _ >>= fun cs=>pure cs)=_
 rw [za5 (env:=env) _ (fun n k cs=>rfl) scope.names [] h]
 rfl
theorem zaW:∀ {names:List (Str×NameKind)} {acc:List (Str×Addr)},(n,c)∈closL cells names acc->(n,c)∈acc\/((n,NameKind.free)∈names/\cells.lookup n=some c)
 | [],_,h=>.inl h
 | (m,k)::r,acc,h=>by
   unfold closL at h
   by_cases hk:(k == .free)=true
   ·rw [if_pos hk] at h
    have hk':k=.free:=by simpa using hk
    cases q:cells.lookup m with
    | none=>
      rw [q] at h
      rcases zaW h with z | ⟨z,w⟩
      ·exact .inl z
      ·exact .inr ⟨qk _ z,w⟩
    | some d=>
      rw [q] at h
      rcases zaW h with z | ⟨z,w⟩
      ·rcases mem_cons.mp z with e | z
       ·cases e
        exact .inr ⟨by rw [<- hk']; exact ql,q⟩
       ·exact .inl z
      ·exact .inr ⟨qk _ z,w⟩
   ·rw [if_neg hk] at h
    rcases zaW h with z | ⟨z,w⟩
    ·exact .inl z
    ·exact .inr ⟨qk _ z,w⟩
theorem zaL (hc:cells.lookup n=some c):∀ {names:List (Str×NameKind)} {acc:List (Str×Addr)},((n,c)∈acc\/(n,NameKind.free)∈names)->(n,c)∈closL cells names acc
 | [],_,h=>h.elim id fun z=>by simp at z
 | (m,k)::r,acc,h=>by
   unfold closL
   by_cases hk:(k == .free)=true
   ·rw [if_pos hk]
    have hk':k=.free:=by simpa using hk
    cases q:cells.lookup m with
    | none=>
      refine zaL hc ?_
      rcases h with z | z
      ·exact .inl z
      ·rcases mem_cons.mp z with e | z
       ·cases e; rw [hc] at q; cases q
       ·exact .inr z
    | some d=>
      refine zaL hc ?_
      rcases h with z | z
      ·exact .inl (qk _ z)
      ·rcases mem_cons.mp z with e | z
       ·cases e; rw [hc] at q; cases q; exact .inl ql
       ·exact .inr z
   ·rw [if_neg hk]
    refine zaL hc ?_
    rcases h with z | z
    ·exact .inl z
    ·rcases mem_cons.mp z with e | z
     ·cases e; exact (hk (by decide)).elim
     ·exact .inr z
theorem zaB {α:Type}:∀ {l:List (Str×α)} {n:Str} {c:α},(n,c)∈l->(∀ c',(n,c')∈l->c'=c)->l.lookup n=some c
 | [],_,_,h,_=>by simp at h
 | (m,d)::r,n,c,h,u=>by
   rw [lookup_cons]
   cases hb:n == m with
   | true=>
     have e:n=m:=by simpa using hb
     subst e
     exact congrArg some (u d ql)
   | false=>
     refine zaB (l:=r) ?_ fun c' hc=>u c' (qk _ hc)
     rcases mem_cons.mp h with e | h
     ·cases e; simp at hb
     ·exact h
theorem zaF:∀ {names:List (Str×NameKind)} {n:Nat} {acc:List (Str×Addr)} {x:Str} {c:Addr},(x,c)∈cellsFrom n names acc->(x,c)∈acc\/((x,NameKind.cell)∈names/\n<=c)
 | [],_,_,_,_,h=>.inl h
 | (m,k)::r,n,acc,x,c,h=>by
   unfold cellsFrom at h
   by_cases hk:(k == .cell)=true
   ·rw [if_pos hk] at h
    have hk':k=.cell:=by simpa using hk
    rcases zaF h with z | ⟨z,w⟩
    ·rcases mem_cons.mp z with e | z
     ·cases e; exact .inr ⟨by rw [<- hk']; exact ql,le_refl _⟩
     ·exact .inl z
    ·exact .inr ⟨qk _ z,by lia⟩
   ·rw [if_neg hk] at h
    rcases zaF h with z | ⟨z,w⟩
    ·exact .inl z
    ·exact .inr ⟨qk _ z,w⟩
theorem zat:∀ {names:List (Str×NameKind)} {n:Nat} {acc:List (Str×Addr)} {x:Str},((x,NameKind.cell)∈names\/∃ c,(x,c)∈acc)->∃ c,(x,c)∈cellsFrom n names acc
 | [],_,_,_,h=>h.elim (fun z=>by simp at z) id
 | (m,k)::r,n,acc,x,h=>by
   unfold cellsFrom
   by_cases hk:(k == .cell)=true
   ·rw [if_pos hk]
    refine zat ?_
    rcases h with z | ⟨c,z⟩
    ·rcases mem_cons.mp z with e | z
     ·cases e; exact .inr ⟨n,ql⟩
     ·exact .inl z
    ·exact .inr ⟨c,qk _ z⟩
   ·rw [if_neg hk]
    refine zat ?_
    rcases h with z | z
    ·rcases mem_cons.mp z with e | z
     ·cases e; exact (hk (by decide)).elim
     ·exact .inl z
    ·exact .inr z
theorem zar {α:Type}:∀ {l:List (Str×α)} {x:Str},(∃ c,(x,c)∈l)->∃ c,l.lookup x=some c
 | [],_,⟨_,h⟩=>by simp at h
 | (m,d)::r,x,⟨c,h⟩=>by
   rw [lookup_cons]
   cases hb:x == m with
   | true=>exact ⟨d,rfl⟩
   | false=>
     refine zar (l:=r) ⟨c,?_⟩
     rcases mem_cons.mp h with e | h
     ·cases e; simp at hb
     ·exact h
theorem zaA:∀ {names:List (Str×NameKind)} {n:Nat} {acc:List (Str×Addr)},(∀ p∈acc,p.2 < n)->(∀ p∈acc,∀ q∈acc,p.2=q.2->p.1=q.1)->
  ∀ p∈cellsFrom n names acc,∀ q∈cellsFrom n names acc,p.2=q.2->p.1=q.1
 | [],_,_,_,h=>h
 | (m,k)::r,n,acc,hb,h=>by
   unfold cellsFrom
   by_cases hk:(k == .cell)=true
   ·rw [if_pos hk]
    refine zaA (fun p hp=>?_) fun p hp q hq e=>?_
    ·rcases mem_cons.mp hp with rfl | hp
     ·exact Nat.lt_succ_self _
     ·exact Nat.lt_succ_of_lt (hb p hp)
    ·rcases mem_cons.mp hp with rfl | hp <;> rcases mem_cons.mp hq with rfl | hq
     ·rfl
     ·have h1:=hb q hq
      have e':n=q.2:=e
      exact absurd h1 (by rw [<- e']; exact lt_irrefl _)
     ·have h1:=hb p hp
      have e':p.2=n:=e
      exact absurd h1 (by rw [e']; exact lt_irrefl _)
     ·exact h p hp q hq e
   ·rw [if_neg hk]
    exact zaA hb h
section
variable {M:Model} {A:Around} {E:Value->Shared->Prop} {s:Shared}
theorem zb3
  (hQ:∀ h':Heap,(∀ b o,s.heap.get? b=some o->h'.get? b=some o)->h'.Ns s.heap.objs.size (fun _=>none)->(∀ x c,(x,c)∈cellsFrom (s.heap.objs.size + 1) scope.names cl->(x,c)∈cl\/h'.IsCell c none)->
   Q { scope:=scope,locals:=s.heap.objs.size,globals:=globals,cells:=cellsFrom (s.heap.objs.size + 1) scope.names cl,qual:=qual,func:=none,code:=env.code,frame:=env.frame,builtins:=env.builtins } { s with heap:=h' }):
  wpAny M A (newFunctionEnv scope globals cl [] qual none .none (some env)) Q E s:=by
 simp only [newFunctionEnv,Option.isSome_some,if_true]
 refine qa (wpAny_alloc ?_)
 refine qa (wpAny_layCells _ (fun name kind cells=>by cases hkc:kind == NameKind.cell <;> simp [hkc]) _ _ _ _ ?_)
 rw [show ({ s with heap:=s.heap.push { cls:=.type "dict",data:=.dict #[] } }:Shared).heap.objs.size=s.heap.objs.size + 1 from Heap.size_push ..]
 refine qb (hQ _ (fun b o e=>pushCells_keeps _ _ b o (qc _ e)) ((Heap.Ns.new s.heap (.type "dict")).keeps (pushCells_keeps _ _)) fun x c h=>?_)
 -- the new cells are empty
 have all:∀ (names:List (Str×NameKind)) (h:Heap) (acc:List (Str×Addr)),(∀ p∈acc,p∈cl\/h.IsCell p.2 none)->∀ p∈cellsFrom h.objs.size names acc,p∈cl\/(pushCells h names).IsCell p.2 none:=by
  intro names
  induction names with
  | nil=>intro h acc ha p hp; exact ha p hp
  | cons q r ih=>
    intro h acc ha p hp
    obtain ⟨m,k⟩:=q
    unfold cellsFrom at hp
    unfold pushCells
    by_cases hk:(k == .cell)=true
    ·rw [if_pos hk] at hp ⊢
     have e:(h.push { cls:=.type "cell",data:=.cell none }).objs.size=h.objs.size + 1:=Heap.size_push ..
     rw [<- e] at hp
     refine ih _ _ (fun p hp=>?_) p hp
     rcases mem_cons.mp hp with rfl | hp
     ·exact .inr ⟨_,qd _ rfl,rfl⟩
     ·rcases ha p hp with z | z
      ·exact .inl z
      ·exact .inr (z.keeps fun b o e=>qc _ e)
    ·rw [if_neg hk] at hp ⊢
     exact ih h acc ha p hp
 have:=all scope.names (s.heap.push { cls:=.type "dict",data:=.dict #[] }) cl (fun p hp=>.inl hp) (x,c) (by rw [Heap.size_push]; exact h)
 exact this
end
def compN (N vars:List Str):List Str:=N.map (fun x=>if x∈vars then Str.empty else x)++Str.empty::vars
def compCx (X:Cx) (scope:Scope) (vars:List Str) (s:Shared) (H:Hp) (ex:List Addr):Cx where
 prog:=X.prog
 w:=X.w
 K:=X.K
 mg:=X.mg
 base:=X.base
 A:=X.A
 N:=compN X.N vars
 s₀:=s
 H₀:=H
 env:=compEnvC scope (cellsFrom (s.heap.objs.size + 1) scope.names (closL X.env.cells scope.names [])) s.heap.objs.size X.env
 outer:=X.stack
 stack:=X.stack
 ex:=ex
 fn:=fun x=>decide ((x,NameKind.cell)∈scope.names)
 calm:=X.calm
 pn:=[]
 xe:=fun _ _=>False
structure CompScope (outer scope:Scope) (N vars:List Str):Prop where
 kind:scope.kind=.function
 fr:∀ x∈scope.names,x.2=.free->outer.names.lookup x.1=some .cell\/outer.names.lookup x.1=some .free
 nd:(scope.names.map (·.1)).Nodup
 own:∀ x∈N,x∉vars->(x,NameKind.local)∉scope.names/\(x,NameKind.cell)∉scope.names
 emp:scope.names.lookup Str.empty=none
theorem zaw {α:Type} {l:List (Str×α)} {c:α} (nd:(l.map (·.1)).Nodup):l.lookup n=some c↔(n,c)∈l:=by
 refine ⟨mem_of_lookup,fun h=>zaB h fun c' h'=>?_⟩
 induction l with
 | nil=>simp at h
 | cons p r ih=>
   grind
theorem zaP {α β:Type} (g:Str->α->β):∀ (l:List (Str×α)) (n:Str),(l.map fun p=>(p.1,g p.1 p.2)).lookup n=(l.lookup n).map (g n)
 | [],_=>rfl
 | (m,d)::r,n=>by
   rw [map_cons,lookup_cons,lookup_cons]
   cases hb:n == m with
   | true=>have e:n=m:=by simpa using hb
           subst e; rfl
   | false=>exact zaP g r n
def rl (env:PySem.Env) (n:Str) (k:NameKind):NameKind:=if (k == NameKind.free && env.scope.kind == .function && env.kindOf n == some .cell) then NameKind.cell else k
theorem zbB (scope:Scope) (env:PySem.Env):(relabel scope env).names=scope.names.map fun p=>(p.1,rl env p.1 p.2):=by
 unfold relabel
 show scope.names.map _=scope.names.map _
 refine List.map_congr_left fun p _=>?_
 obtain ⟨n,k⟩:=p
 show (if (k == NameKind.free && env.scope.kind == .function && env.kindOf n == some .cell)=true then (n,NameKind.cell) else (n,k))=(n,rl env n k)
 unfold rl
 by_cases h:(k == NameKind.free && env.scope.kind == .function && env.kindOf n == some .cell)=true
 ·rw [if_pos h,if_pos h]
 ·rw [if_neg h,if_neg h]
theorem zax (scope:Scope) (env:PySem.Env) (x:Str):(relabel scope env).names.lookup x=(scope.names.lookup x).map (rl env x):=by
 rw [zbB,zaP]
theorem zbZ (h:k≠.free):rl env x k=k:=by
 unfold rl
 rw [if_neg]
 intro z
 simp at z
 exact h z.1.1
theorem ze3:rl env x .free=.cell\/rl env x .free=.free:=by
 unfold rl
 split
 ·exact .inl rfl
 ·exact .inr rfl
section
variable {X:Cx} {pins:List (Addr×Obj)} {σ:St} {H:Hp} {s:Shared} {scope:Scope} {vars:List Str} {ex:List Addr}
theorem zdA (h:(compN N vars)[i]?=some x) (hi:i < N.length):(N[i]?=some x/\x∉vars)\/x=Str.empty:=by
 unfold compN at h
 rw [getElem?_append_left (by simpa using hi),getElem?_map] at h
 cases q:N[i]? with
 | none=>rw [q] at h; cases h
 | some y=>
   grind
theorem Inv.comp (I:Inv X pins σ H s) (S:CompScope X.env.scope scope X.N vars) (hex:∀ b∈ex,FpOk X pins H b/\b < s.heap.objs.size) (kept:∀ b o,s.heap.get? b=some o->h'.get? b=some o) (hns:h'.Ns s.heap.objs.size (fun _=>none))
  (hcl:∀ x c,(x,c)∈cellsFrom (s.heap.objs.size + 1) scope.names (closL X.env.cells scope.names [])->(x,c)∈closL X.env.cells scope.names []\/h'.IsCell c none) (hk:vars.length=k) (w0:Option V):
  Inv (compCx X scope vars s H ex) [] (σ++w0::List.replicate k none) H { s with heap:=h' }:=by
 have cm:∀ {x:Str} {c:Addr},(x,c)∈closL X.env.cells scope.names []->(x,NameKind.free)∈scope.names/\X.env.cells.lookup x=some c:=fun {x c} h=>by
  rcases zaW h with z | z
  ·simp at z
  ·exact z
 have lt:∀ {x:Str} {c:Addr},X.env.cells.lookup x=some c->c < s.heap.objs.size:=fun {x c} h=>by
  obtain ⟨v,z⟩:=I.cell x c h
  exact z.lt
 have look:∀ {x:Str} {c:Addr},(compCx X scope vars s H ex).env.cells.lookup x=some c->(X.env.cells.lookup x=some c/\(x,NameKind.free)∈scope.names)\/((x,NameKind.cell)∈scope.names/\s.heap.objs.size + 1<=c):=fun {x c} h=>by
  rcases zaF (mem_of_lookup h) with z | z
  ·exact .inl ⟨(cm z).2,(cm z).1⟩
  ·exact .inr z
 have uniq:∀ {x:Str} {a b:NameKind},(x,a)∈scope.names->(x,b)∈scope.names->a=b:=fun {x a b} h1 h2=>by
  have e1:=(zaw S.nd).mpr h1
  have e2:=(zaw S.nd).mpr h2
  rw [e1] at e2
  exact qf e2
 -- what a visible name is,seen from around
 have vis:∀ {x:Str},((relabel scope X.env).names.lookup x=some .cell\/(relabel scope X.env).names.lookup x=some .free)->(x,NameKind.cell)∈scope.names\/(x,NameKind.free)∈scope.names:=fun {x} h=>by
  rw [zax] at h
  cases q:scope.names.lookup x with
  | none=>rw [q] at h; rcases h with h | h <;> cases h
  | some k=>
    have hm:=mem_of_lookup q
    rw [q] at h
    have h0:some (rl X.env x k)=some .cell\/some (rl X.env x k)=some .free:=h
    cases k with
    | cell=>exact .inl hm
    | free=>exact .inr hm
    | «local»=>rw [zbZ (by decide)] at h0; rcases h0 with h | h <;> cases h
    | globalImplicit=>rw [zbZ (by decide)] at h0; rcases h0 with h | h <;> cases h
    | globalExplicit=>rw [zbZ (by decide)] at h0; rcases h0 with h | h <;> cases h
 have ok:(compCx X scope vars s H ex).Ok:=by
  refine ⟨I.ok.mod,S.kind,I.ok.glob,I.ok.blt,le_refl _,fun x y c h1 h2=>?_,fun x h=>?_,fun x c hf h=>?_,I.ok.hd,I.ok.frames,.inl rfl,fun b hb=>⟨?_,fun x c h z=>?_⟩,I.bs,le_trans I.ok.bsz I.sz,fun b o e hb=>?_,fun b hb z=>?_,I.stack,I.stkFree⟩
  ·refine zaA (fun p hp=>?_) (fun p hp q hq e=>?_) (x,c) (mem_of_lookup h1) (y,c) (mem_of_lookup h2) rfl
   ·exact Nat.lt_succ_of_lt (lt (cm (x:=p.1) (c:=p.2) hp).2)
   ·exact I.ok.inj _ _ _ (cm (x:=p.1) (c:=p.2) hp).2 (e ▸ (cm (x:=q.1) (c:=q.2) hq).2)
  ·rcases vis h with z | z
   ·exact zar (zat (.inl z))
   ·obtain ⟨c,hc⟩:=I.ok.has x (S.fr (x,.free) z rfl)
    exact zar (zat (.inr ⟨c,zaL hc (.inr z)⟩))
  ·have hf':(x,NameKind.cell)∈scope.names:=of_decide_eq_true hf
   rcases look h with ⟨_,z⟩ | ⟨_,z⟩
   ·cases uniq hf' z
   ·exact Nat.le_of_succ_le z
  ·exact ne_of_lt (hex b hb).2
  ·rcases look h with ⟨w,_⟩ | ⟨_,w⟩
   ·exact (hex b hb).1.2.2.2.2.1 x c w z
   ·have h1:=(hex b hb).2
    rw [<- z] at h1
    exact absurd (lt_of_lt_of_le h1 (Nat.le_of_succ_le w)) (lt_irrefl _)
  ·obtain ⟨_,_,_,h1,_⟩:=(hex b hb).1
   rcases h1 with z | z
   ·exact I.ok.noex b o e z
   ·rw [(I.ok.bs b o e).1] at z; cases z
  ·obtain ⟨_,h2,h3,_⟩:=(hex b hb).1
   rcases mem_cons.mp (I.stkSub b z) with w | w
   ·exact h2 w
   ·exact h3 w
 have cellK:∀ {c:Addr} {v:Option Value},s.heap.IsCell c v->h'.IsCell c v:=fun z=>z.keeps kept
 refine ⟨ok,rfl,I.bare,Un.kept kept,⟨_,hns,fun i x v h1 h2 h3=>?_⟩,fun x c h=>?_,I.hok.fresh (le_refl _),fun x c h=>?_,fun p hp=>absurd (show p∈([]:List (Addr×Obj)) from hp) (by simp),I.hok.kept kept,?_⟩
 ·-- a slot of the context
  have noE:¬ Vis (compCx X scope vars s H ex).env.scope Str.empty:=fun h3=>by
   have h3':(relabel scope X.env).names.lookup Str.empty=some .local\/(relabel scope X.env).names.lookup Str.empty=some .cell\/(relabel scope X.env).names.lookup Str.empty=some .free:=h3
   rw [zax,S.emp] at h3'
   rcases h3' with z | z | z <;> cases z
  have hi:i < σ.length:=by
   by_cases hi:i < σ.length
   ·exact hi
   ·exfalso
    rw [getElem?_append_right (not_lt.mp hi)] at h2
    cases q:i - σ.length with
    | zero=>
      have e:i=X.N.length:=by have:=I.len; lia
      rw [e] at h1
      have h1':(compN X.N vars)[X.N.length]?=some x:=h1
      unfold compN at h1'
      rw [getElem?_append_right (by simp)] at h1'
      simp at h1'
      subst h1'
      exact noE h3
    | succ j=>
      rw [q,List.getElem?_cons_succ,List.getElem?_replicate] at h2
      split at h2 <;> cases h2
  rw [getElem?_append_left hi] at h2
  rcases zdA h1 (by rw [<- I.len]; exact hi) with ⟨h1,hx⟩ | rfl
  ·have own:=S.own x (List.mem_of_getElem? h1) hx
   have hfree:(x,NameKind.free)∈scope.names:=by
    have h3':(relabel scope X.env).names.lookup x=some .local\/(relabel scope X.env).names.lookup x=some .cell\/(relabel scope X.env).names.lookup x=some .free:=h3
    rcases h3' with z | z
    ·rw [zax] at z
     cases q:scope.names.lookup x with
     | none=>rw [q] at z; cases z
     | some kk=>
       rw [q] at z
       have z0:some (rl X.env x kk)=some .local:=z
       have hm:=mem_of_lookup q
       cases kk with
       | «local»=>exact absurd hm own.1
       | cell=>exact absurd hm own.2
       | free=>exact hm
       | globalImplicit=>rw [zbZ (by decide)] at z0; cases z0
       | globalExplicit=>rw [zbZ (by decide)] at z0; cases z0
    ·rcases vis z with w | w
     ·exact absurd w own.2
     ·exact w
   have hout:=S.fr (x,.free) hfree rfl
   obtain ⟨m,hm,hl⟩:=I.loc
   obtain ⟨u,r,l⟩:=hl i x v h1 h2 (hout.elim (fun z=>.inr (.inl z)) fun z=>.inr (.inr z))
   refine ⟨u,r,.inr ⟨?_,?_⟩⟩
   ·show (relabel scope X.env).names.lookup x=some .cell\/(relabel scope X.env).names.lookup x=some .free
    rw [zax,(zaw S.nd).mpr hfree]
    show some (rl X.env x .free)=_\/some (rl X.env x .free)=_
    rcases ze3 (env:=X.env) (x:=x) with e | e <;> rw [e]
    ·exact .inl rfl
    ·exact .inr rfl
   ·rcases l with ⟨z,_⟩ | ⟨_,c,hc,z⟩
    ·have z':X.env.scope.names.lookup x=some .local:=z
     rcases hout with w | w <;> (have w':X.env.scope.names.lookup x=_:=w; rw [w'] at z'; cases z')
    ·refine ⟨c,?_,cellK z⟩
     show (cellsFrom (s.heap.objs.size + 1) scope.names (closL X.env.cells scope.names [])).lookup x=some c
     obtain ⟨c',hc'⟩:=zar (zat (n:=s.heap.objs.size + 1) (names:=scope.names) (.inr ⟨c,zaL hc (.inr hfree)⟩))
     rcases look hc' with ⟨w,_⟩ | ⟨w,_⟩
     ·rw [hc] at w
      cases w
      exact hc'
     ·cases uniq hfree w
  ·exact absurd h3 noE
 ·rcases hcl x c (mem_of_lookup h) with z | z
  ·obtain ⟨v,w⟩:=I.cell x c (cm z).2
   exact ⟨v,cellK w⟩
  ·exact ⟨none,z⟩
 ·rcases look h with ⟨w,_⟩ | ⟨_,w⟩
  ·exact I.freeC x c w
  ·exact I.hok.fresh (Nat.le_of_succ_le w)
 ·show _=(compN X.N vars).length
  unfold compN
  simp [I.len,hk]
end
abbrev TB:=St->Hp->(St->Hp->Prop)->Prop
def PRest (X:Cx) (m:Sem Unit) (t:TB):Prop:=∀ (pins:List (Addr×Obj)) (s:Shared) (σ:St) (H:Hp) (Q:St->Hp->Prop),Inv X pins σ H s->t σ H Q->
 wpAny (model X.prog X.w) X.A m (fun _ s'=>∃ σ' H',Inv X pins σ' H' s'/\Q σ' H') (fun _ _=>False) s
def PIfs (X:Cx) (ifs:List Expr) (t:TT):Prop:=∀ (pins:List (Addr×Obj)) (s:Shared) (σ:St) (H:Hp) (Q:Bool->Hp->Prop),Inv X pins σ H s->t σ H Q->
 wpAny (model X.prog X.w) X.A (forIn ifs true fun c r=>if r=true then do let ok <- isTrue c X.env (eval c X.env); pure (ForInStep.yield ok) else pure (ForInStep.yield r)) (TP X pins σ Q) X.xe s
theorem zdO:PIfs X [] (fun _ H Q=>Q true H):=fun pins s σ H Q I q=>wpAny_tests_nil ⟨H,I,q⟩
def tLoopB (g:TG) (tc:TT) (tb:TB) (J:It):TB:=fun σ H Q=>∃ W:Nat->Nat->St->Hp->Prop,(∃ m,W 0 m σ H)/\∀ i m σ H,W i m σ H->
 (J.stop i H/\Q σ H)\/(J.go i H/\∃ N:St->Hp->Prop,(∀ σ' H',N σ' H'->∃ m',m' < m/\W (i + 1) m' σ' H')/\∀ x H',J.yld i H x H'->g x σ H' fun σ2 H2=>tc σ2 H2 fun b H3=>if b=true then tb σ2 H3 N else N σ2 H3)
def PLoop (X:Cx) (e:Expr) (d:Nat) (acc:Value) (tg:Expr) (tl:It->TB):Prop:=∀ (pins:List (Addr×Obj)) (s:Shared) (σ:St) (H:Hp) (J:It) (fp:List Addr) (it:Addr) (tn:Nat->Heap->Prop) (Q:St->Hp->Prop),Inv X pins σ H s->
 Turn X.prog X.w X.K tg J fp it tn->tn 0 s.heap->(∀ b∈fp,FpOk X pins H b)->tl J σ H Q->
 codeAny (model X.prog X.w) X.A (.compLoop e d (.ref it) acc X.env) (fun r s'=>∃ σ' H',r=.ok .next/\Inv X pins σ' H' s'/\Q σ' H') s
def PRestF (X:Cx) (m:Sem Fin) (c:Code) (t:TB):Prop:=∀ (pins:List (Addr×Obj)) (s:Shared) (σ:St) (H:Hp) (Q:St->Hp->Prop),Inv X pins σ H s->t σ H Q->
 wpAny (model X.prog X.w) X.A m (fun f s'=>f=.again c/\∃ σ' H',Inv X pins σ' H' s'/\Q σ' H') (fun _ _=>False) s
theorem PRest.f (h:PRest X m t):PRestF X (m >>= fun _=>again c) c t:=fun pins s σ H Q I q=>
 qa (wpAny_mono (h pins s σ H Q I q) (fun _ s' z=>qb ⟨rfl,z⟩) fun _ _ z=>z)
theorem zbP {inner:Addr->Sem Fin} (hc:X.calm=true) (hxe:X.xe=fun _ _=>False) (hg:PG X tg g) (ht:PIfs X ifs tc) (hr:∀ it,PRestF X (inner it) (.compLoop e d (.ref it) acc X.env) tb)
  (hq:∀ it,(Code.compLoop e d (.ref it) acc X.env).quiet=true) (hun:∀ it,X.A.under (.compLoop e d (.ref it) acc X.env)=X.A)
  (hden:∀ it,(model X.prog X.w).den (.compLoop e d (.ref it) acc X.env)=(compTurn e d (.ref it) acc X.env).onRaise (fun x=>do noteFrame x X.env; theTreesLotGoes x))
  (heq:∀ it,compTurn e d (.ref it) acc X.env=(standAt ipos >>= fun _=>pyNext (.ref it) >>= fun r=>match r with
   | none=>pure (.done .next)
   | some v=>letOwnedTupleGo tg (.ref it) v >>= fun _=>assign tg X.env v >>= fun _=>
     (forIn ifs true fun c r=>if r=true then do let ok <- isTrue c X.env (eval c X.env); pure (ForInStep.yield ok) else pure (ForInStep.yield r)) >>= fun ok=>
      if ok=true then inner it else again (.compLoop e d (.ref it) acc X.env))):
  PLoop X e d acc tg (tLoopB g tc tb):=by
 intro pins s σ H J fp it tn Q I T st f ⟨W,⟨m0,w0⟩,turn⟩
 have stat:∀ {H':Hp},(∀ b∈fp,H' b=none)->∀ b∈fp,FpOk X pins H' b:=fun hn b hb=>⟨hn b hb,(f b hb).2⟩
 have nox:∀ {α:Type} {m:Sem α} {Q:α->Shared->Prop} {E:Value->Shared->Prop} {s:Shared},wpAny (model X.prog X.w) X.A m Q X.xe s->wpAny (model X.prog X.w) X.A m Q E s:=fun h=>wpAny_mono h (fun _ _ q=>q) fun _ _ x=>by rw [hxe] at x; exact x.elim
 refine codeAny_loop (hq it) (fun n s'=>∃ i σ' H',Inv X pins σ' H' s'/\tn i s'.heap/\(∀ b∈fp,H' b=none)/\W i n σ' H') ?_ m0 ⟨0,σ,H,I,st,fun b hb=>(f b hb).1,w0⟩
 rintro n s3 ⟨i,σ3,H3,I3,st3,fr3,w3⟩
 rw [hun,hden]
 refine wpAny_noted ?_
 rw [heq]
 refine qa (wpAny_standAt (qa ?_))
 rcases turn i n σ3 H3 w3 with ⟨stop,qn⟩ | ⟨go,N,hN,step⟩
 ·refine thn (T.done X rfl rfl rfl hc i pins s3 σ3 H3 _ I3 (stat fr3) st3 stop) fun r s4 ⟨hr,I4⟩=>?_
  subst hr
  exact qb ⟨σ3,H3,rfl,I4,qn⟩
 ·refine thn (T.item X rfl rfl rfl hc i pins s3 σ3 H3 _ I3 (stat fr3) st3 go) fun r s4 zq=>?_
  obtain ⟨u,hr',h4⟩:=zq
  subst hr'
  refine qa (thn h4 fun _ s5 zq=>?_)
  obtain ⟨x,H5,I5,r5,y5,st5,fr5⟩:=zq
  have I5':=I5.pinned (stat fr5) (T.obj _ _ st5)
  refine qa (nox (thn (hg _ s5 σ3 H5 x u _ I5' r5 (step x H5 y5)) fun _ s6 zq=>?_))
  obtain ⟨σ6,H6,I6,q6⟩:=zq
  have again:∀ {σ7:St} {H7:Hp} {s7:Shared},Inv X (pins++pinsAt fp s5.heap) σ7 H7 s7->N σ7 H7->∃ m,m < n/\∃ i σ' H',Inv X pins σ' H' s7/\tn i s7.heap/\(∀ b∈fp,H' b=none)/\W i m σ' H':=fun {σ7 H7 s7} I7 n7=>by
   obtain ⟨m',hm,w7⟩:=hN σ7 H7 n7
   refine ⟨m',hm,i + 1,σ7,H7,I7.unpinned,T.keep _ _ _ st5 fun b hb o e=>(I7.pin (b,o) (qi _ (qi _ (zaM hb e)))).1,fun b hb=>?_,w7⟩
   obtain ⟨o,e,d⟩:=T.obj _ _ st5 b hb
   exact (I7.pin (b,o) (qi _ (qi _ (zaM hb e)))).2.1
  refine qa (nox (thn (ht _ s6 σ6 H6 _ I6 q6) fun b s7 zq=>?_))
  obtain ⟨H7,I7,q7⟩:=zq
  cases b with
  | true=>
    rw [if_pos rfl] at q7
    rw [if_pos rfl]
    refine wpAny_mono (hr it _ s7 σ6 H7 _ I7 q7) (fun f s8 zq=>?_) fun _ _ z=>z.elim
    obtain ⟨ef,σ8,H8,I8,n8⟩:=zq
    subst ef
    exact ⟨rfl,again I8 n8⟩
  | false=>
    rw [if_neg Bool.false_ne_true] at q7
    rw [if_neg Bool.false_ne_true]
    exact qb ⟨rfl,again I7 q7⟩
theorem zcE (hl:PLoop X e d acc tg tl)
  (hq:∀ it,(Code.compLoop e d (.ref it) acc X.env).quiet=true) (hun:∀ it,X.A.under (.compStart e d (.ref it) acc X.env)=X.A)
  (hden:∀ it,(model X.prog X.w).den (.compStart e d (.ref it) acc X.env)=(compStart e d (.ref it) acc X.env).onRaise (fun x=>do noteFrame x X.env; standAt theWindowsPlace))
  (heq:∀ it,∃ p,compStart e d (.ref it) acc X.env=(ask >>= fun c=>if c.params.followText "comprehension-iter-twice"=true then again (.compLoop e d (.ref it) acc X.env) else
   rule "comprehension.iter-twice" >>= fun _=>standAt p >>= fun _=>pyIter (.ref it) >>= fun it'=>again (.compLoop e d it' acc X.env))) (I:Inv X pins σ H s)
  (T:Turn X.prog X.w X.K tg J fp it tn) (st:tn 0 s.heap) (f:∀ b∈fp,FpOk X pins H b) (q:tl J σ H Q):
  codeAny (model X.prog X.w) X.A (.compStart e d (.ref it) acc X.env) (fun r s'=>∃ σ' H',r=.ok .next/\Inv X pins σ' H' s'/\Q σ' H') s:=by
 have h0:=hl pins s σ H J fp it tn Q I T st f q
 refine codeAny_of_tree ?_
 rw [hun,hden]
 refine wpAny_notedAt ?_
 obtain ⟨p,e⟩:=heq it
 rw [e]
 refine qa (wpAny_askSetting (wpAny_ite ?_))
 split
 ·exact qb ⟨hq it,h0⟩
 ·exact qa (wpAny_rule (qa (wpAny_standAt (qa (T.self X.A 0 s _ _ st (qb ⟨hq it,h0⟩))))))
end L2
end
section
namespace FL
open PySem PySem.Spec PyProof.Rows L2
inductive tWB (X:Cx) (n:Nat) (D:Addr) (b:WB) (σ:St) (H:Hp) (Q:St->Hp->Prop):Prop
 | mk (F G:Hp) (U:Env) (P:Env->Prop) (rel:Rel X.K U σ F G H) (hs:σ[n]?=some (some (.ref D))) (hw:b U P NX) (hn:∀ U' σ' F' H',P U'->KP (List.range (n + 1)) σ σ'->Same F F'->Rel X.K U' σ' F' G H'->Q σ' H'):tWB X n D b σ H Q
theorem xc0:XC X T F G NX:=fun _ _ _ _ _ _ _ z=>z.elim
section
variable {K:W.Frag} {F F' H H' G G':Hp} {σ σ':St} {v u:V}
theorem SReps.snoc (b:SReps K F H xs l fp) (r:SRep K F H v s fq):SReps K F H (xs++[v]) (l++[s]) (fp++fq):=
 SReps.ind (P:=fun xs l fp=>SReps K F H (xs++[v]) (l++[s]) (fp++fq)) (by have:=SReps.cons r .nil; rwa [append_nil] at this) (fun a _ ih=>by rw [append_assoc]; exact .cons a ih) b
theorem SReps.len (r:SReps K F H xs l fp):xs.length=l.length:=SReps.ind (P:=fun xs l _=>xs.length=l.length) rfl (fun _ _ ih=>congrArg (· + 1) ih) r
theorem Rel.append {D:Addr} (r:Rel K (U++[some s]) (σ++[some v]) F G H) (hs:slot U n=some (.lst l)) (hσ:σ[n]?=some (some (.ref D))):
  ∃ xs,H D=some (.lst xs)/\xs.length=l.length/\Rel K (U.set n (some (.lst (l++[s])))) σ F G (upd H D (.lst (xs++[v]))):=by
 have hl:=len1 r
 obtain ⟨fp,e,nd,ap⟩:=r.en
 obtain ⟨f1,f2,rfl,a,b⟩:=e.cut hl
 obtain ⟨v',fa,fi,fb,e1,rfl,q,up⟩:=a.at hs
 rw [hσ] at e1
 have e2:V.ref D=v':=by simpa using e1
 subst e2
 cases q with
 | lst hD rl=>
   rename_i xs fl
   cases b with
   | so sr nl=>
     cases nl
     rename_i fs
     refine ⟨xs,hD,rl.len,?_⟩
     have es:σ.set n (some (.ref D))=σ:=by
      apply ext_getElem?
      intro j
      by_cases hj:n=j
      ·subst hj
       rw [getElem?_set_self (qg.mp hσ).1,hσ]
      ·rw [getElem?_set_ne hj]
     -- D is nobody else's
     obtain ⟨n1,n2,n12⟩:=nodup_append.mp nd
     obtain ⟨na,nib,nab⟩:=nodup_append.mp n1
     obtain ⟨ni,nb,nib⟩:=nodup_append.mp nib
     obtain ⟨nD,nfl⟩:=nodup_cons.mp ni
     have hDa:D∉fa:=fun z=>nab D z D (qj _ ql) rfl
     have hDb:D∉fb:=fun z=>nib D ql D z rfl
     have hDs:D∉fs:=fun z=>n12 D (qi _ (qj _ ql)) D (by simpa using z) rfl
     have apD:=ap D (qj _ (qi _ (qj _ ql)))
     have ne:∀ {l:List Addr},D∉l->∀ x∈l,upd H D (.lst (xs++[v])) x=H x:=fun h x hx=>zac fun z=>h (z ▸ hx)
     have new:SRep K F (upd H D (.lst (xs++[v]))) (.ref D) (.lst (l++[s])) (D::(fl++fs)):=.lst zaj (SReps.snoc (rl.mono (Same.refl F) (ne nD)) (sr.mono (Same.refl F) (ne hDs)))
     have a2:=up (F':=F) (H':=upd H D (.lst (xs++[v]))) (o:=some (.lst (l++[s]))) (u:=some (.ref D)) (Same.refl F) (fun x hx=>zac fun z=>(mem_append.mp hx).elim (fun w=>hDa (z ▸ w)) fun w=>hDb (z ▸ w)) (.so new .nil)
     rw [es] at a2
     have p:(fa++((D::(fl++fs))++[]++fb)).Perm (fa++((D::fl)++fb)++(fs++[])):=by
      simp only [append_nil,append_assoc,cons_append]
      refine List.Perm.append_left _ (List.Perm.cons _ (List.Perm.append_left _ perm_append_comm))
     refine ⟨Same.updR r.fr apD.1,fun x o w=>?_,_,a2,p.nodup_iff.mpr (by simpa using nd),fun x hx=>ap x (by simpa using p.mem_iff.mp hx)⟩
     have hx:x≠D:=fun z=>by rw [z,apD.2] at w; cases w
     rw [zac hx]
     exact r.gr x o w
end
section
variable {X:Cx} {n:Nat} {D:Addr} {ks:List Nat}
theorem zbY (hxe:X.xe=fun _ _=>False) (h:FE X elt we):PRest X (eval elt X.env >>= fun x=>call (.builtin "list.append") [.ref D,x] >>= fun _=>pure ()) (tWB X n D (bEmit n we)):=by
 intro pins s σ H Q I q
 obtain ⟨F,G,U,P,rel,hσ,hw,hok⟩:=q
 have hp:PassesOwn (model X.prog X.w) X.A X.env X.xe:=by rw [hxe]; exact PassesOwn.never
 have he:=h X.pn X.xe hp pins s σ H (fun v H1=>∃ F1 U1 t l,Same F F1/\Rel X.K (U1++[some t]) (σ++[some v]) F1 G H1/\slot U1 n=some (.lst l)/\l.length < big/\P (U1.set n (some (.lst (l++[t]))))) I
  ⟨F,G,U,_,NX,rel,hw,fun r U1 v F1 H1 hk s1 r1 rv=>?_,xc0⟩
 ·have xe0:∀ e s',X.xe e s'->False:=fun e s' z=>by rw [hxe] at z; exact z
  refine qa (wpAny_mono he (fun u s1 zq=>?_) fun e s' z=>xe0 e s' z)
  obtain ⟨v,H1,I1,rv,F1,U1,t,l,sm,r1,hs,hz,hP⟩:=zq
  obtain ⟨xs,hD,hlen,r2⟩:=Rel.append r1 hs hσ
  refine qa (wpAny_mono (zdn pins s1 σ H1 (.ref D) [v] (.ref D) [u] (fun w H'=>w=.non/\H'=upd H1 D (.lst (xs++[v]))) I1 rfl (.cons rv .nil) ⟨D,xs,v,rfl,rfl,hD,by rw [hlen,sizeLine_eq]; exact Nat.lt_trans hz (by decide),rfl,rfl⟩) (fun w s2 zq=>?_) fun e s' z=>xe0 e s' z)
  obtain ⟨w',H2,I2,_,_,e2⟩:=zq
  subst e2
  exact qb ⟨σ,_,I2,hok _ σ F1 _ hP KP.refl sm r2⟩
 ·obtain ⟨⟨t,U2⟩,eg,hk⟩:=zab hk
  obtain ⟨F2,s2,l2,r2⟩:=giveR (U':=[]) (σ':=[]) r1 (len1 r1) rv eg
  dsimp only at hk
  split at hk
  ·rename_i l e
   exact ⟨F2,U2,t,l,s1.trans s2,r2,e,hk.1,hk.2⟩
  ·exact hk.elim
theorem zbF:PIfs X [] (tWT X wYes):=fun pins s σ H Q I q=>zdO pins s σ H Q I (by
 obtain ⟨F,G,U,P,PX,rel,hw,hok,hx⟩:=q
 exact hok true U F H hw (Same.refl F) rel)
theorem zd6 (it:ItOk X.K J l F) (rel:Rel X.K U σ F G H) (hσ:σ[n]?=some (some (.ref D)))
  (hw:bLoop g wc b l U P NX) (hok:∀ U' σ' F' H',P U'->KP (List.range (n + 1)) σ σ'->Same F F'->Rel X.K U' σ' F' G H'->Q σ' H'):
  tLoopB (tWG X (List.range (n + 1)) g) (tWT X wc) (tWB X n D b) J σ H Q:=by
 have hσ':∀ {σ':St},KP (List.range (n + 1)) σ σ'->σ'[n]?=some (some (.ref D)):=fun k=>by rw [k n (by simp)]; exact hσ
 refine ⟨fun i m σ2 H2=>m=l.length - i/\i<=l.length/\∃ F2 U2,KP (List.range (n + 1)) σ σ2/\Same F F2/\Rel X.K U2 σ2 F2 G H2/\bLoop g wc b (l.drop i) U2 P NX,⟨l.length,by simp,zero_le _,F,U,KP.refl,Same.refl F,rel,by simpa using hw⟩,?_⟩
 rintro i m σ2 H2 ⟨rfl,hi,F2,U2,kp,s2,r2,hw2⟩
 obtain ⟨it1,it2⟩:=it i U2 σ2 F2 G H2 s2 r2
 by_cases hlt:i < l.length
 ·obtain ⟨go,yld⟩:=it1 l[i] (by simp [hlt])
  refine .inr ⟨go,fun σ3 H3=>i + 1<=l.length/\∃ F3 U3,KP (List.range (n + 1)) σ σ3/\Same F F3/\Rel X.K U3 σ3 F3 G H3/\bLoop g wc b (l.drop (i + 1)) U3 P NX,fun σ3 H3 h=>⟨l.length - (i + 1),by lia,rfl,h⟩,fun y H3 hy=>?_⟩
  obtain ⟨F3,s3,r3,rp⟩:=yld y H3 hy
  rw [List.drop_eq_getElem_cons hlt] at hw2
  refine ⟨F3,G,U2,_,_,r3.push rp,hw2,fun U4 σ4 F4 H4 hp4 k4 s4 r4=>?_⟩
  have kp4:=kp.trans k4
  have sm4:=s2.trans (s3.trans s4)
  refine ⟨F4,G,U4,_,_,r4,hp4,fun k U5 F5 H5 hp5 s5 r5=>?_,xc0⟩
  cases k with
  | true=>
    dsimp only
    rw [if_pos rfl]
    exact ⟨F5,G,U5,_,r5,hσ' kp4,hp5,fun U' σ' F' H' h k' s r=>⟨hlt,F',U',kp4.trans k',sm4.trans (s5.trans s),r,h⟩⟩
  | false=>
    dsimp only
    rw [if_neg Bool.false_ne_true]
    exact ⟨hlt,F5,U5,kp4,sm4.trans s5,r5,hp5⟩
 ·have e:i=l.length:=Nat.le_antisymm hi (not_lt.mp hlt)
  subst e
  rw [List.drop_length] at hw2
  exact .inl ⟨it2 (le_refl _),hok U2 σ2 F2 H2 hw2 kp s2 r2⟩
end
theorem zbq {α:Type} {l:List α} {a:α} (h:l[n]?=some a):l=l.take n++a::l.drop (n + 1):=by
 obtain ⟨hn,e⟩:=qg.mp h
 rw [<- e,<- List.drop_eq_getElem_cons hn,List.take_append_drop]
section
variable {X:Cx} {k:Nat} {vars:List Str}
theorem zdx (hmk:∀ (A:Around) (E:Value->Shared->Prop) (s:Shared) (Q:Value->Shared->Prop),Q (.ref s.heap.objs.size) { s with heap:=s.heap.push { cls:=.type ty,dict:=none,data:=dat } }->wpAny (model X.prog X.w) A mk Q E s) (ho:∀ (H:Hp) (h:Heap),sysModules < h.objs.size->ObjOk X.prog X.w H (h.push { cls:=.type ty,dict:=none,data:=dat }) h.objs.size o0) (hs0:∀ (F H:Hp) (p:Addr),H p=some o0->SRep X.K F H (.ref p) s0 [p]) (hcl:clausesOf e=⟨tg,iter,ifs,0⟩::gs) (hs:∀ x,foldedSetIterable iter X.env x=pure x)
  (Sc:CompScope X.env.scope scope X.N vars) (hk:vars.length=k) (hi:FI X tg iter wi)
  (hb:∀ (s:Shared) (H:Hp) (ex:List Addr) (D:Addr),PLoop (compCx X scope vars s H ex) e 0 (.ref D) tg (tLoopB (tWG (compCx X scope vars s H ex) (List.range (X.N.length + 1)) g) (tWT (compCx X scope vars s H ex) wc) (tWB (compCx X scope vars s H ex) X.N.length D b)))
  (hq:∀ it acc env,(Code.compLoop e 0 (.ref it) acc env).quiet=true) (hun:∀ it acc env,X.A.under (.compStart e 0 (.ref it) acc env)=X.A)
  (hden:∀ it acc env,(model X.prog X.w).den (.compStart e 0 (.ref it) acc env)=(compStart e 0 (.ref it) acc env).onRaise (fun x=>do noteFrame x env; standAt theWindowsPlace))
  (heq:∀ it acc env,∃ p,compStart e 0 (.ref it) acc env=(ask >>= fun c=>if c.params.followText "comprehension-iter-twice"=true then again (.compLoop e 0 (.ref it) acc env) else
   rule "comprehension.iter-twice" >>= fun _=>standAt p >>= fun _=>pyIter (.ref it) >>= fun it'=>again (.compLoop e 0 it' acc env))) (hp:PassesOwn (model X.prog X.w) X.A X.env xe) {P:WQ} (I:Inv (wp X pn xe) pins σ H s)
  (rel:Rel X.K U σ F G H) (hw:wi U (fun l U1=>bLoop g wc b l (U1++some s0::List.replicate k none) (fun U2=>need (slot U2 X.N.length) fun s=>P (.v s) (U2.take X.N.length)) NX) PX) (hx:XC (wp X pn xe) (·=σ) F G PX)
  (fin:∀ (D C:Addr) (s4:Shared) (H4 F4:Hp) (m:Str->Option Value) (t:S) (U4:Env),s4.heap.Ns C m->Inv (wp X pn xe) pins σ H4 s4->H4 C=none->C≠X.env.locals->X.s₀.heap.objs.size<=C->(∀ x c,X.env.cells.lookup x=some c->c≠C)->(∀ p∈pn++pins,p.1≠C)->
   P (.v t) U4->Same F F4->Rel X.K (U4++[some t]) (σ++[some (.ref D)]) F4 G H4->compPost (model X.prog X.w) X.A xe use Q' (.ref D) C (.ok .next) s4):
  wpAny (model X.prog X.w) X.A (comprehension e scope X.env cpos mk false (eval iter X.env) use) Q' xe s:=by
 have hi':=hi pn xe hp pins s σ H (fun J H1=>∃ F1 U1 l,Same F F1/\Rel X.K U1 σ F1 G H1/\ItOk X.K J l F1/\
   bLoop g wc b l (U1++some s0::List.replicate k none) (fun U2=>need (slot U2 X.N.length) fun s=>P (.v s) (U2.take X.N.length)) NX) I
  ⟨F,G,U,_,PX,rel,hw,fun l U1 F1 H1 J hk s1 r1 it=>⟨F1,U1,l,s1,r1,it,hk⟩,hx⟩
 have hfree:∀ x∈scope.names,x.2=.free->∃ c,X.env.cells.lookup x.1=some c:=fun x hx hf=>I.ok.has x.1 (Sc.fr x hx hf)
 refine wpAny_comprehension_free (use:=use) hcl hs (zbE hfree) Sc.kind (fun x hx hl=>(zaw Sc.nd).mpr (by obtain ⟨a,b⟩:=x; have hl':b=.local:=hl; subst hl'; exact hx)) (wpAny_mono hi' (fun v s1 h1=>wpAny_mono h1 (fun itv s2 h2=>?_) fun _ _ z=>z) fun _ _ z=>z)
 obtain ⟨it,fp,tn,J,H2,e1,I2,T,st,f,F1,U1,l,s1',r1,ito,hk2⟩:=h2
 subst e1
 -- the acc
 refine hmk _ _ _ _ ?_
 generalize hs3:({ s2 with heap:=s2.heap.push { cls:=.type ty,dict:=none,data:=dat } }:Shared)=s3
 have k23:∀ b o,s2.heap.get? b=some o->s3.heap.get? b=some o:=fun b o e=>by rw [<- hs3]; exact qc _ e
 have sz3:s3.heap.objs.size=s2.heap.objs.size + 1:=by rw [<- hs3]; exact Heap.size_push ..
 have hD:H2 s2.heap.objs.size=none:=I2.hok.fresh (le_refl _)
 have I3:Inv (wp X pn xe) pins σ (upd H2 s2.heap.objs.size o0) s3:=by
  rw [<- hs3]
  exact I2.laid (t':=s2.toks) (fun b o e=>qc _ e) (le_refl _) (ho _ _ I2.big)
 have r3:Rel X.K (U1++[some s0]) (σ++[some (.ref s2.heap.objs.size)]) F1 G (upd H2 s2.heap.objs.size o0):=r1.newO hD (hs0 _ _ _ zaj)
 have fplt:∀ b∈fp,b < s2.heap.objs.size:=fun b hb=>by
  obtain ⟨o,e,_⟩:=T.obj _ _ st b hb
  exact qe e
 have fne:∀ b∈fp,b≠s2.heap.objs.size:=fun b hb=>ne_of_lt (fplt b hb)
 have f3:∀ b∈fp,FpOk (wp X pn xe) pins (upd H2 s2.heap.objs.size o0) b:=fun b hb=>by
  obtain ⟨h1,h2⟩:=f b hb
  exact ⟨by rw [zac (fne b hb)]; exact h1,h2⟩
 refine zb3 fun h' kept hns hcl'=>?_
 have I4:=Inv.comp (X:=wp X pn xe) (ex:=fp) I3 Sc (fun b hb=>⟨f3 b hb,by rw [sz3]; exact Nat.lt_succ_of_lt (fplt b hb)⟩) kept hns hcl' hk (some (.ref s2.heap.objs.size))
 have hσn:(σ++some (.ref s2.heap.objs.size)::List.replicate k none)[X.N.length]?=some (some (.ref s2.heap.objs.size)):=by
  have hl:X.N.length=σ.length:=I2.len.symm
  rw [hl,getElem?_append_right (le_refl _),sub_self]
  rfl
 have r4:Rel X.K (U1++some s0::List.replicate k none) (σ++some (.ref s2.heap.objs.size)::List.replicate k none) F1 G (upd H2 s2.heap.objs.size o0):=by
  have:=r3.pushNs k
  simpa using this
 have st4:tn 0 h':=T.keep _ _ _ st fun b hb o e=>kept b o (k23 b o e)
 have f4:∀ b∈fp,FpOk (compCx X scope vars s3 (upd H2 s2.heap.objs.size o0) fp) [] (upd H2 s2.heap.objs.size o0) b:=fun b hb=>by
  obtain ⟨h1,h2,h3,h4,h5,h6⟩:=f3 b hb
  have e:=I4.ok.exf b hb
  exact ⟨h1,e.1,I4.ok.exfs b hb,.inl hb,e.2,fun p hp=>absurd (show p∈([]:List (Addr×Obj)) from hp) (by simp)⟩
 have go:=zcE (hb s3 (upd H2 s2.heap.objs.size o0) fp s2.heap.objs.size) (fun it=>hq it _ _) (fun it=>hun it _ _) (fun it=>hden it _ _) (fun it=>heq it _ _) I4 T st4 f4
  (Q:=fun σ' H'=>∃ F' U',need (slot U' X.N.length) (fun s=>P (.v s) (U'.take X.N.length))/\KP (List.range (X.N.length + 1)) (σ++some (.ref s2.heap.objs.size)::List.replicate k none) σ'/\Same F1 F'/\Rel X.K U' σ' F' G H')
  (zd6 ito r4 hσn hk2 fun U' σ' F' H' a kp sm r=>⟨F',U',a,kp,sm,r⟩)
 refine codeAny_mono go fun r s4 zq=>?_
 obtain ⟨σ4,H4,er,I5,F4,U4,hn4,kp4,sm4,r5⟩:=zq
 subst er
 obtain ⟨m,hm,_⟩:=id I5.loc
 have I6:Inv (wp X pn xe) pins σ H4 s4:=Inv.call' (ch:=fp) I3 I5.os I5.base I5.hok I5.bare fun b hb=>by
  obtain ⟨h1,h2,h3,h4,h5,h6⟩:=f3 b hb
  exact ⟨h4,h2,h5,h6⟩
 -- the block's names go
 obtain ⟨t,et,hP⟩:=zab hn4
 have hl:X.N.length=σ.length:=I2.len.symm
 have hσ4:σ4[X.N.length]?=some (some (.ref s2.heap.objs.size)):=by rw [kp4 X.N.length (by simp)]; exact hσn
 have eσ:σ4.take X.N.length=σ:=by
  apply ext_getElem?
  intro j
  by_cases hj:j < X.N.length
  ·rw [List.getElem?_take_of_lt hj,kp4 j (by simp; lia),getElem?_append_left (by lia)]
  ·rw [List.getElem?_take_eq_none (not_lt.mp hj),getElem?_eq_none (by lia)]
 have e1:=zbq (zaY et)
 have e2:=zbq hσ4
 rw [e1,e2,eσ] at r5
 have r6:Rel X.K ((U4.take X.N.length++[some t])++U4.drop (X.N.length + 1)) ((σ++[some (.ref s2.heap.objs.size)])++σ4.drop (X.N.length + 1)) F4 G H4:=by simpa using r5
 have hlt:X.N.length < U4.length:=zbi et
 have ltC:∀ {b:Addr} {o:Obj},s3.heap.get? b=some o->b≠s3.heap.objs.size:=fun e=>ne_of_lt (qe e)
 refine fin s2.heap.objs.size s3.heap.objs.size s4 H4 F4 m t (U4.take X.N.length) hm I6 I5.free (Ne.symm (ne_of_lt I3.lt)) I3.sz (fun x c e z=>?_) (fun p hp z=>?_) hP (s1'.trans sm4) (r6.drop (by simp; lia))
 ·obtain ⟨v,o,ho,_⟩:=I3.cell x c e
  exact ltC ho z
 ·exact ltC (I3.pin p hp).1 z
theorem zfu {P:WQ} (hok:∀ r U' v F' H',P r U'->Same F F'->Rel X.K (U'++[slotOf r]) (σ++[some v]) F' G H'->RV σ v r->Q v H'):
  ∀ (D C:Addr) (s4:Shared) (H4 F4:Hp) (m:Str->Option Value) (t:S) (U4:Env),s4.heap.Ns C m->Inv (wp X pn xe) pins σ H4 s4->H4 C=none->C≠X.env.locals->X.s₀.heap.objs.size<=C->(∀ x c,X.env.cells.lookup x=some c->c≠C)->(∀ p∈pn++pins,p.1≠C)->
    P (.v t) U4->Same F F4->Rel X.K (U4++[some t]) (σ++[some (.ref D)]) F4 G H4->compPost (model X.prog X.w) X.A xe none (EP (wp X pn xe) pins σ Q) (.ref D) C (.ok .next) s4:=
 fun D C s4 H4 F4 m t U4 hm I n1 n2 n3 n4 n5 hP sm r=>⟨m,hm,fun h'' sb=>⟨.ref D,H4,I.turned (t':=s4.toks) (fun b o hb e=>(sb.2 b hb).trans e) n1 n2 (.inr (Heap.get?_none_of_le n3)) n4 n5,rfl,hok (.v t) U4 _ F4 H4 hP sm r trivial⟩⟩
theorem zfm {P:WQ} {Nx:Env->Prop} (hk:i∉ks) (hN:∀ j,X.N[j]?=some y->j=i) (hi:X.N[i]?=some y) (hy:X.env.scope.names.lookup y=some .local)
  (hP:∀ s U,P (.v s) U->Nx (U.set i (some s))) (hok:∀ U' σ' F' H',Nx U'->KP ks σ σ'->Same F F'->Rel X.K U' σ' F' G H'->DD.nx σ' H'):
  ∀ (D C:Addr) (s4:Shared) (H4 F4:Hp) (m:Str->Option Value) (t:S) (U4:Env),s4.heap.Ns C m->Inv (wp X pn xe) pins σ H4 s4->H4 C=none->C≠X.env.locals->X.s₀.heap.objs.size<=C->(∀ x c,X.env.cells.lookup x=some c->c≠C)->(∀ p∈pn++pins,p.1≠C)->
    P (.v t) U4->Same F F4->Rel X.K (U4++[some t]) (σ++[some (.ref D)]) F4 G H4->compPost (model X.prog X.w) X.A xe (some (assign (.Name y py) X.env)) (fun _ s'=>SP (wp X pn xe) pins DD .next s') (.ref D) C (.ok .next) s4:=
 fun D C s4 H4 F4 m t U4 hm I n1 n2 n3 n4 n5 hp sm r=>by
  have hl:=len1 r
  have hiU:i < U4.length:=by rw [hl,I.len]; exact (qg.mp hi).1
  refine wpAny_assign_Name (zbh (X:=wp X pn xe) (v:=.ref D) I hN hi (.inl hy) rfl (fun s5 I5 zq=>?_) (.inr hy))
  obtain ⟨a,sb,ha⟩:=zq
  have haC:C≠a:=by
   rcases ha with e | e
   ·rw [e]; exact n2
   ·exact Ne.symm (n4 y a e)
  refine ⟨m,hm.sameBut sb haC,fun h'' sb2=>⟨_,H4,I5.turned (t':=s5.toks) (fun b o hb e=>(sb2.2 b hb).trans e) n1 n2 (.inr (Heap.get?_none_of_le n3)) n4 n5,?_⟩⟩
  exact hok _ _ F4 H4 (hP t U4 hp) (KP.set hk) sm (r.store hl hiU)
theorem zdy (A:Around) (E:Value->Shared->Prop) (s:Shared) (Q:Value->Shared->Prop) (h:Q (.ref s.heap.objs.size) { s with heap:=s.heap.push { cls:=.type ty,dict:=none,data:=dat } }) (hz:sizeOk dat:=by size_fits):wpAny (model X.prog X.w) A (newObj (.type ty) dat) Q E s:=wpAny_newObj_type h hz
theorem zdi (H:Hp) (h:Heap) (_:sysModules < h.objs.size):ObjOk X.prog X.w H (h.push { cls:=.type "list",dict:=none,data:=.seq ([]:List Value).toArray }) h.objs.size (.lst []):=⟨zero_le _,[],0,.nil,qd _ rfl⟩
theorem zet (F H:Hp) (p:Addr) (e:H p=some (.lst [])):SRep X.K F H (.ref p) (.lst []) [p]:=.lst e .nil
theorem zeE (hn:X.N.length=n) (hc:X.calm=true) (Sc:CompScope X.env.scope scope X.N vars) (hk:vars.length=k) (hi:FI X tg iter wi)
  (hg:∀ s H ex,FG (compCx X scope vars s H ex) (List.range (n + 1)) tg g) (ht:∀ s H ex,PIfs (compCx X scope vars s H ex) ifs (tWT (compCx X scope vars s H ex) wc)) (he:∀ s H ex,FE (compCx X scope vars s H ex) elt we)
  (hs:∀ x,foldedSetIterable iter X.env x=pure x:=by intro _; rfl):FE X (.ListComp elt [⟨tg,iter,ifs,0⟩] scope pos) (wLC n k wi g wc (bEmit n we)):=by
 subst hn
 intro pn xe hp pins s σ H Q I q
 show wpAny (model X.prog X.w) X.A (eval (.ListComp elt [⟨tg,iter,ifs,0⟩] scope pos) X.env) (EP (wp X pn xe) pins σ Q) xe s
 rw [eval_ListComp]
 obtain ⟨F,G,U,P,PX,rel,hw,hok,hx⟩:=q
 refine zdx (fun A E s Q h=>zdy A E s Q h) (s0:=.lst []) zdi zet rfl hs Sc hk hi (fun s H ex D=>?_) (fun _ _ _=>rfl) (fun _ _ _=>rfl) (fun _ _ _=>rfl) (fun _ _ _=>⟨_,rfl⟩) hp I rel hw hx (zfu hok)
 exact zbP (X:=compCx X scope vars s H ex) hc rfl (hg s H ex [] (fun _ _=>False) PassesOwn.never) (ht s H ex) (fun _=>(zbY (X:=compCx X scope vars s H ex) rfl (he s H ex)).f) (fun _=>rfl) (fun _=>rfl) (fun _=>rfl) (fun _=>rfl)
theorem zbV (hki:i∉ks) (hN:∀ j,X.N[j]?=some y->j=i) (hiN:X.N[i]?=some y) (hy:X.env.scope.names.lookup y=some .local)
  (hsw:swapsWith (.ListComp elt [⟨tg,iter,ifs,0⟩] scope pos) (some (.Name y py)) spos.line X.env=pure true)
  (hn:X.N.length=n) (hc:X.calm=true) (Sc:CompScope X.env.scope scope X.N vars) (hk:vars.length=k) (hi:FI X tg iter wi)
  (hg:∀ s H ex,FG (compCx X scope vars s H ex) (List.range (n + 1)) tg g) (ht:∀ s H ex,PIfs (compCx X scope vars s H ex) ifs (tWT (compCx X scope vars s H ex) wc)) (he:∀ s H ex,FE (compCx X scope vars s H ex) elt we)
  (hs:∀ x,foldedSetIterable iter X.env x=pure x:=by intro _; rfl):FS X ks (.Assign [.Name y py] (.ListComp elt [⟨tg,iter,ifs,0⟩] scope pos) spos) (wAsg (gName i) (wLC n k wi g wc (bEmit n we))):=by
 subst hn
 intro pn xe hp pins s σ H D I q
 show wpAny (model X.prog X.w) X.A (exec (.Assign [.Name y py] (.ListComp elt [⟨tg,iter,ifs,0⟩] scope pos) spos) X.env) (SP (wp X pn xe) pins D) xe s
 rw [exec_Assign_Name_used _ _ _ _ hsw]
 refine qa (wpAny_standAt (qa ?_))
 obtain ⟨F,G,U,E,rel,hw,n,b,c,r,x⟩:=q
 show wpAny _ X.A (do let _ <- comprehension (.ListComp elt [⟨tg,iter,ifs,0⟩] scope pos) scope X.env _ (newList []) false (eval iter X.env) (some (assign (.Name y py) X.env))) _ _ s
 refine qa (wpAny_mono (zdx (fun A E s Q h=>zdy A E s Q h) (s0:=.lst []) (P:=fun r U1=>need (give r U1) fun p=>gName i p.1 p.2 E.nx) (PX:=E.ex) (g:=g) (wc:=wc) (b:=bEmit X.N.length we) (Q':=fun _ s'=>SP (wp X pn xe) pins D .next s') zdi zet rfl hs Sc hk hi (fun s H ex D=>?_) (fun _ _ _=>rfl) (fun _ _ _=>rfl) (fun _ _ _=>rfl) (fun _ _ _=>⟨_,rfl⟩) hp I rel hw (x.mono (fun σ2 z=>by rw [z]; exact KP.refl) (Same.refl F) (Same.refl G))
  (zfm (P:=fun r U1=>need (give r U1) fun p=>gName i p.1 p.2 E.nx) (Nx:=E.nx) hki hN hiN hy (fun s U h=>h) n)) (fun _ s' hq=>qb (qb hq)) fun _ _ e=>e)
 exact zbP (X:=compCx X scope vars s H ex) hc rfl (hg s H ex [] (fun _ _=>False) PassesOwn.never) (ht s H ex) (fun _=>(zbY (X:=compCx X scope vars s H ex) rfl (he s H ex)).f) (fun _=>rfl) (fun _=>rfl) (fun _=>rfl) (fun _=>rfl)
end
section
variable {X:Cx} {K:W.Frag}
theorem zbm {x:Str} (e:x.cps.toList=l):x.length=l.length:=by rw [<- e]; rfl
theorem zeM {x y:Str} (e:x.cps.toList=l) (e':y.cps.toList=m):(x++y).cps.toList=l++m:=by
 show (x.cps++y.cps).toList=_
 rw [Array.toList_append,e,e']
theorem RepE.int (h:RepE K F H v (.int i)):v=.int i:=by
 rcases h with h | ⟨_,_,_,_,h,_⟩ | ⟨_,_,_,_,_,h,_⟩ | ⟨_,_,_,_,_,h,_⟩
 ·cases h; rfl
 ·cases h
 ·cases h
 ·cases h
theorem RepE.str (h:RepE K F H v (.str l)):∃ x,v=.str x/\x.cps.toList=l/\l.length<=16777216:=by
 rcases h with h | ⟨_,_,_,_,h,_⟩ | ⟨_,_,_,_,_,h,_⟩ | ⟨_,_,_,_,_,h,_⟩
 ·cases h with
  | str e z=>exact ⟨_,rfl,e,z⟩
 ·cases h
 ·cases h
 ·cases h
theorem RepE.tup (h:RepE K F H v (.tup l)):∃ a xs,v=.ref a/\F a=some (.tup xs)/\Reps K F xs l:=by
 rcases h with h | ⟨_,_,_,_,h,_⟩ | ⟨_,_,_,_,_,h,_⟩ | ⟨_,_,_,_,_,h,_⟩
 ·cases h with
  | tup e r=>exact ⟨_,_,rfl,e,r⟩
 ·cases h
 ·cases h
 ·cases h
theorem RepE.lst (sm:Same F H) (h:RepE K F H v (.lst l)):∃ a xs,v=.ref a/\SqL K H a xs/\Reps K F xs l:=by
 rcases h with h | ⟨a,xs,ds,e1,h,e2,r⟩ | ⟨_,_,_,_,_,h,_⟩ | ⟨_,_,_,_,_,h,_⟩
 ·cases h with
  | lst e r=>exact ⟨_,_,rfl,SqL.mono sm e,r⟩
 ·cases h
  exact ⟨a,xs,e1,SqL.of e2,r⟩
 ·cases h
 ·cases h
theorem Reps.append (a:Reps K F xs l) (r:Reps K F ys m):Reps K F (xs++ys) (l++m):=Reps.ind (P:=fun xs l=>Reps K F (xs++ys) (l++m)) r (fun a _ ih=>.cons a ih) a
theorem Rel.newLD (r:Rel K U σ F G H) (hp:H p=none) (rx:Reps K F xs l):Rel K (U++[some (.lst (l.map .sh))]) (σ++[some (.ref p)]) F G (upd H p (.lst xs)):=by
 have sr:∀ {xs:List V} {l:List D},Reps K F xs l->SReps K F (upd H p (.lst xs)) xs (l.map .sh) []:=by
  intro xs l h
  generalize upd H p (.lst xs)=H'
  induction xs generalizing l with
  | nil=>cases h; exact .nil
  | cons x xs ih=>cases h with
    | cons a b=>
      have:=SReps.cons (SRep.sh (H:=H') a) (ih b)
      exact this
 refine r.newO hp (.lst zaj ?_)
 have:=sr rx
 exact this
def rCatL (K:W.Frag):R2:=fun x y H Q=>∃ l b xs zs,x=.ref l/\y=.ref b/\SqL K H l xs/\SqL K H b zs/\xs.length + zs.length<=sizeLine/\∀ p,H p=none->Q (.ref p) (upd H p (.lst (xs++zs)))
theorem zeU:OpR X (binaryOp .Add) (rCatL X.K):=by
 intro pins s σ H x y v u Q I rx ry h
 obtain ⟨l,b,xs,zs,rfl,rfl,hl,hb,hz,q⟩:=h
 cases rx
 cases ry
 obtain ⟨its,r1,⟨⟨cls,dd,data,sl⟩,n,ho,hc,hd0,hd⟩,_⟩:=I.list hl
 obtain ⟨its2,r2,⟨⟨cls2,dd2,data2,sl2⟩,n2,ho2,hc2,hd02,hd2⟩,_⟩:=I.list hb
 simp only at hc hd0 hd hc2 hd02 hd2
 subst hc hd0 hd hc2 hd02 hd2
 refine concat_meets ⟨_,ho,rfl⟩ ⟨_,ho2,rfl⟩ noFill_list_add seq_list_add PySem.F.slot_list_add PySem.F.entry_list_add (PySem.F.args_list_add_2 _ _) (list_addW l b its.toArray its2.toArray n n2 none none sl sl2 (by rw [size_toArray,size_toArray,<- r1.length,<- r2.length]; exact hz)) ⟨ho,ho2,?_⟩
 have ea:its.toArray++its2.toArray=(its++its2).toArray:=by simp
 rw [ea]
 exact ⟨.ref _,_,I.lnew (t':=s.toks) (r1.append r2) (by rw [length_append]; exact hz),rfl,q _ I.fresh⟩
def rCatTT (K:W.Frag):R2:=fun x y H Q=>∃ a b xs ys,x=.ref a/\y=.ref b/\SqT K H a xs/\SqT K H b ys/\xs.length + ys.length<=sizeLine/\
 (xs=[]->Q (.ref b) H)/\(xs≠[]->ys=[]->Q (.ref a) H)/\(xs≠[]->ys≠[]->∀ p,H p=none->Q (.ref p) (upd H p (.tup (xs++ys))))
theorem zeh:OpR X (binaryOp .Add) (rCatTT X.K):=by
 intro pins s σ H x y v u Q I rx ry h
 obtain ⟨a,b,xs,ys,rfl,rfl,ha,hb,hz,q0,q1,q2⟩:=h
 by_cases hx:xs=[]
 ·cases rx
  cases ry
  obtain ⟨its,r1,p1,_⟩:=I.tuple ha
  obtain ⟨its2,r2,p2,_⟩:=I.tuple hb
  obtain ⟨⟨cls,dd,data,sl⟩,ho,hc,n,hd⟩:=id p1
  obtain ⟨⟨cls2,dd2,data2,sl2⟩,ho2,hc2,n2,hd2⟩:=id p2
  simp only at hc hd hc2 hd2
  subst hc hd hc2 hd2
  have hi:its=[]:=r1.nil_iff.mpr hx
  exact concat_meets ⟨_,ho,rfl⟩ ⟨_,ho2,rfl⟩ noFill_tuple_add seq_tuple_add PySem.F.slot_tuple_add PySem.F.entry_tuple_add (PySem.F.args_tuple_add_2 _ _)
   (tuple_addW0 a b its.toArray its2.toArray n n2 dd dd2 sl sl2 (by simp [hi])) ⟨ho,ho2,.ref b,H,I,rfl,q0 hx⟩
 ·exact zfl pins s σ H _ _ v u Q I rx ry ⟨a,b,xs,ys,rfl,rfl,ha,hb,hx,hz,q1 hx,q2 hx⟩
def rStrAdd:R2:=fun x y H Q=>∃ i j,x=.str i/\y=.str j/\i.length + j.length<=sizeLine/\Q (.str (i++j)) H
def rAddAll (K:W.Frag):R2:=fun x y H Q=>rI0 (fun i j=>.int (i + j)) x y H Q\/(rStrAdd x y H Q\/(rCatL K x y H Q\/rCatTT K x y H Q))
theorem zcU:OpR X (binaryOp .Add) (rAddAll X.K):=OpR.or zgN (OpR.or zcr (OpR.or zeU zeh))
theorem zbA (h:n<=big):n<=sizeLine:=by rw [sizeLine_eq]; exact le_trans h (by decide)
theorem zdK:Does K (rAddAll K) oAdd:=by
 intro σ U F G H x y p q s Q rel ex ey e hq
 unfold oAdd at e
 split at e
 ·cases e
  have h1:=ex.int
  have h2:=ey.int
  subst h1 h2
  exact .inl ⟨_,_,rfl,rfl,hq _ F H (Same.refl F) (rel.push (.int _))⟩
 ·rename_i a b
  split at e
  ·rename_i hz
   cases e
   obtain ⟨x,rfl,e1,z1⟩:=ex.str
   obtain ⟨y,rfl,e2,z2⟩:=ey.str
   refine .inr (.inl ⟨_,_,rfl,rfl,by rw [zbm e1,zbm e2]; exact zbA hz,hq _ F H (Same.refl F) (rel.push (.str (zeM e1 e2) (by rw [length_append]; exact le_trans hz (by decide))))⟩)
  ·cases e
 ·rename_i a b
  split at e
  ·rename_i hz
   cases e
   obtain ⟨l,xs,rfl,h1,r1⟩:=ex.lst rel.fr
   obtain ⟨m,ys,rfl,h2,r2⟩:=ey.lst rel.fr
   refine .inr (.inr (.inl ⟨l,m,xs,ys,rfl,rfl,h1,h2,by rw [r1.len,r2.len]; exact zbA hz,fun p hp=>?_⟩))
   exact hq _ F _ (Same.refl F) (rel.newLD hp (r1.append r2))
  ·cases e
 ·rename_i a b
  split at e
  ·rename_i hz
   cases e
   obtain ⟨l,xs,rfl,h1,r1⟩:=ex.tup
   obtain ⟨m,ys,rfl,h2,r2⟩:=ey.tup
   refine .inr (.inr (.inr ⟨l,m,xs,ys,rfl,rfl,SqT.of (rel.fr _ _ h1),SqT.of (rel.fr _ _ h2),by rw [r1.len,r2.len]; exact zbA hz,fun hx=>?_,fun _ hy=>?_,fun _ _ p hp=>?_⟩))
   ·subst hx
    cases r1
    exact hq _ F H (Same.refl F) (rel.push (.tup h2 r2))
   ·subst hy
    cases r2
    rw [append_nil] at hq
    exact hq _ F H (Same.refl F) (rel.push (.tup h1 r1))
   ·have n2:=(rel.free hp).1
    exact hq _ _ _ (Same.upd n2) ((rel.newF hp).push (.tup zaj ((r1.append r2).mono (Same.upd n2))))
  ·cases e
 ·cases e
theorem za1 {g:Int->Int->Int} (ho:∀ p q s,o p q=some s->∃ i j,p=.int i/\q=.int j/\C i j/\s=.sh (.int (g i j))):Does K (rI C fun i j=>.int (g i j)) o:=by
 intro σ U F G H x y p q s Q rel ex ey e hq
 obtain ⟨i,j,rfl,rfl,hc,rfl⟩:=ho p q s e
 have h1:=ex.int
 have h2:=ey.int
 subst h1 h2
 exact ⟨i,j,rfl,rfl,hc,hq _ F H (Same.refl F) (rel.push (.int _))⟩
theorem zdT:Does K (rI (fun _ _=>True) fun i j=>.int (i - j)) oSub:=za1 fun p q s e=>by
 unfold oSub at e
 split at e
 ·cases e; exact ⟨_,_,rfl,rfl,trivial,rfl⟩
 ·cases e
theorem zfs:OpR X (binaryOp .Sub) (rI (fun _ _=>True) fun i j=>.int (i - j)):=opI fun _ _ _ _ _ _ _ _ q=>sub_int q
theorem zd3:Does K (rI CMul fun i j=>.int (i * j)) oMul:=za1 fun p q s e=>by
 unfold oMul at e
 split at e
 ·rename_i i j
  split at e
  ·rename_i h
   cases e
   refine ⟨_,_,rfl,rfl,?_,rfl⟩
   simp only [mulOk,Bool.or_eq_true,and_eq_true,decide_eq_true_eq] at h
   exact h
  ·cases e
 ·cases e
theorem zec:Does K (rI (fun _ j=>0 < j) fun i j=>.int (i % j)) oMod:=za1 fun p q s e=>by
 unfold oMod at e
 split at e
 ·split at e
  ·rename_i h; cases e; exact ⟨_,_,rfl,rfl,h,rfl⟩
  ·cases e
 ·cases e
theorem zd0:Does K (rI CPow fun i j=>.int (i ^ j.toNat)) oPow:=za1 fun p q s e=>by
 unfold oPow at e
 split at e
 ·split at e
  ·rename_i h; cases e; exact ⟨_,_,rfl,rfl,⟨h.1,by lia,h.2.2⟩,rfl⟩
  ·cases e
 ·cases e
def CDivB (i j:Int):Prop:=0 < j/\j < 18446744073709551616
theorem zdW:OpR X (binaryOp .FloorDiv) (rI CDivB fun i j=>.int (i / j)):=opI fun i j _ _ _ _ _ hc q=>by
 have h1:(0:Int) < j:=hc.1
 have h2:j < 18446744073709551616:=hc.2
 refine floordiv_int (by lia) ?_ (.inl (PyProof.noPylong_of_log2 ?_))
 ·rw [Int.fdiv_eq_ediv_of_nonneg _ (by lia)]; exact q
 ·have h0:j.natAbs≠0:=by lia
  have:j.natAbs.log2 < 64:=(Nat.log2_lt h0).mpr (by lia)
  lia
theorem zc2:Does K (rI CDivB fun i j=>.int (i / j)) oFdiv:=za1 fun p q s e=>by
 unfold oFdiv at e
 split at e
 ·split at e
  ·rename_i h; cases e; exact ⟨_,_,rfl,rfl,h,rfl⟩
  ·cases e
 ·cases e
end
section
variable {X:Cx} {a b:Expr} {wa wb:WE} {pos:Pos}
theorem za3 (ha:FE X a wa) (hb:FE X b wb):FE X (.BinOp a .Add b pos) (wBin oAdd wa wb):=zbt (fun _ _=>zcU) zdK ha hb
theorem zey (ha:FE X a wa) (hb:FE X b wb):FE X (.BinOp a .Sub b pos) (wBin oSub wa wb):=zbt (fun _ _=>zfs) zdT ha hb
theorem za9 (ha:FE X a wa) (hb:FE X b wb):FE X (.BinOp a .Mod b pos) (wBin oMod wa wb):=zbt (fun _ _=>zgT) zec ha hb
theorem zdB (ha:FE X a wa) (hb:FE X b wb):FE X (.BinOp a .FloorDiv b pos) (wBin oFdiv wa wb):=zbt (fun _ _=>zdW) zc2 ha hb
theorem zeC (ha:FE X a wa) (hb:FE X b wb):FE X (.BinOp a .Pow b pos) (wBin oPow wa wb):=zbt (fun _ _=>zga) zd0 ha hb
end
section
variable {X:Cx} {pins:List (Addr×Obj)} {σ:St} {H:Hp} {s:Shared}
open PySem.SeqAt
theorem zcX (h:clash (.tup l) (.tup m)=false):clashs l m=false:=h
theorem zaZ:∀ {l m:List D} {j:Nat} {a b:D},clashs l m=false->l[j]?=some a->m[j]?=some b->clash a b=false
 | [],_,_,_,_,_,h,_=>by simp at h
 | _::_,[],_,_,_,_,_,h=>by simp at h
 | x::l,y::m,0,a,b,h,h1,h2=>by
   simp at h1 h2
   subst h1 h2
   have h':(clash x y || clashs l m)=false:=h
   rw [Bool.or_eq_false_iff] at h'
   exact h'.1
 | x::l,y::m,j + 1,a,b,h,h1,h2=>by
   have h':(clash x y || clashs l m)=false:=h
   rw [Bool.or_eq_false_iff] at h'
   exact zaZ h'.2 (by simpa using h1) (by simpa using h2)
theorem zbG:∀ {l:List D} {j:Nat} {a:D},l[j]?=some a->dep a<=deps l
 | [],_,_,h=>by simp at h
 | x::l,0,a,h=>by
   simp at h
   subst h
   show dep x<=max (dep x) (deps l)
   lia
 | x::l,j + 1,a,h=>by
   have:=zbG (l:=l) (j:=j) (a:=a) (by simpa using h)
   show dep a<=max (dep x) (deps l)
   lia
open Classical in
theorem zci {l m:List D} (n:Nat) (hn:n=min l.length m.length):((List.range n).all (fun j=>decide (l[j]?=m[j]?)) && (l.length == m.length))=decide (l=m):=by
 by_cases h:l=m
 ·subst h
  simp
 ·rw [decide_eq_false h]
  by_cases hl:l.length=m.length
  ·have:(List.range n).all (fun j=>decide (l[j]?=m[j]?))=false:=by
    cases q:(List.range n).all (fun j=>decide (l[j]?=m[j]?)) with
    | false=>rfl
    | true=>
      exfalso
      apply h
      apply ext_getElem?
      intro j
      by_cases hj:j < n
      ·exact of_decide_eq_true (all_eq_true.mp q j (by simpa using hj))
      ·rw [getElem?_eq_none (by lia),getElem?_eq_none (by lia)]
   rw [this]; rfl
  ·have:(l.length == m.length)=false:=by simpa using hl
   rw [this,Bool.and_false]
inductive Sc:V->D->Prop
 | non:Sc .non .non
 | bl (b:Bool):Sc (.bl b) (.bl b)
 | int (i:Int):Sc (.int i) (.int i)
 | str {x:Str} {l:List Nat}:x.cps.toList=l->Sc (.str x) (.str l)
theorem zgY {K:W.Frag} (r:Rep K H v d) (hc:clash d e=false) (h1:∀ l,d≠.tup l) (h2:∀ l,d≠.lst l):Sc v d:=by
 cases r with
 | tup=>exact absurd rfl (h1 _)
 | lst=>exact absurd rfl (h2 _)
 | dK=>cases e <;> cases hc
 | dT=>cases e <;> cases hc
 | st=>cases e <;> cases hc
 | exc=>cases e <;> cases hc
 | non=>exact .non
 | bl=>exact .bl _
 | int=>exact .int _
 | str e _=>exact .str e
theorem zes {K:W.Frag} (r:Rep K H u e) (s:Sc v d) (hc:clash d e=false):Sc u e:=by
 cases r with
 | non=>exact .non
 | bl=>exact .bl _
 | int=>exact .int _
 | str e _=>exact .str e
 | _=>cases s <;> cases hc
open Classical in
theorem zcP {K:W.Frag} (r1:Rep K H v d) (r2:Rep K H u e) (rv:RelV v vv) (ru:RelV u uu) (hc:clash d e=false) (h1:∀ l,d≠.tup l) (h2:∀ l,d≠.lst l):
  EqAt A s vv uu (decide (d=e))/\RcAt A s vv uu (decide (d=e)):=by
 have s1:=zgY r1 hc h1 h2
 have s2:=zes r2 s1 hc
 clear r1 r2 h1 h2
 cases s1 with
 | non=>
   cases rv
   cases s2 with
   | non=>cases ru; simp; exact ⟨EqAt.same _,RcAt.none_none⟩
   | bl b=>cases ru; simp; exact ⟨EqAt.none_bool _,RcAt.none_bool _⟩
   | int i=>obtain ⟨t,rfl⟩:=ru; simp; exact ⟨EqAt.none_int _ _,RcAt.none_int _ _⟩
   | str e=>obtain ⟨t,rfl⟩:=ru; simp; exact ⟨EqAt.none_str _ _,RcAt.none_str _ _⟩
 | bl a=>
   cases rv
   cases s2 with
   | non=>cases ru; simp; exact ⟨EqAt.bool_none _,RcAt.bool_none _⟩
   | bl b=>
     cases ru
     have e:(decide (D.bl a=D.bl b))=(a == b):=by cases a <;> cases b <;> simp
     rw [e]; exact ⟨EqAt.bool_bool _ _,RcAt.bool_bool _ _⟩
   | str e=>obtain ⟨t,rfl⟩:=ru; simp; exact ⟨EqAt.bool_str _ _ _,RcAt.bool_str _ _ _⟩
   | int=>cases hc
 | int i=>
   obtain ⟨t,rfl⟩:=rv
   cases s2 with
   | non=>cases ru; simp; exact ⟨EqAt.int_none _ _,RcAt.int_none _ _⟩
   | int j=>
     obtain ⟨t',rfl⟩:=ru
     have e:(decide (D.int i=D.int j))=(i == j):=by by_cases h:i=j <;> simp [h]
     rw [e]; exact ⟨EqAt.int_int _ _ _ _,RcAt.int_int _ _ _ _⟩
   | str e=>obtain ⟨t',rfl⟩:=ru; simp; exact ⟨EqAt.int_str _ _ _ _,RcAt.int_str _ _ _ _⟩
   | bl=>cases hc
 | str e1=>
   obtain ⟨t,rfl⟩:=rv
   cases s2 with
   | non=>cases ru; simp; exact ⟨EqAt.str_none _ _,RcAt.str_none _ _⟩
   | bl b=>cases ru; simp; exact ⟨EqAt.str_bool _ _ _,RcAt.str_bool _ _ _⟩
   | int j=>obtain ⟨t',rfl⟩:=ru; simp; exact ⟨EqAt.str_int _ _ _ _,RcAt.str_int _ _ _ _⟩
   | str e2=>
     obtain ⟨t',rfl⟩:=ru
     rename_i x l y m
     have e:(decide (D.str l=D.str m))=(x == y):=by
      by_cases h:x=y
      ·subst h
       rw [<- e1,<- e2]; simp
      ·have hb:(x == y)=false:=by simpa using h
       rw [hb]
       refine decide_eq_false fun q=>h ?_
       obtain ⟨⟨a⟩⟩:=x
       obtain ⟨⟨b⟩⟩:=y
       have a1:a=l:=e1
       have b1:b=m:=e2
       rw [a1,b1,D.str.inj q]
     rw [e]; exact ⟨EqAt.str_str _ _ _ _,RcAt.str_str _ _ _ _⟩
theorem zaE (r:Vals xs us) (h:j < us.toArray.size):∃ x,xs[j]?=some x/\RelV x us.toArray[j]:=by
 have hl:=r.length
 have hj:j < us.length:=by simpa using h
 have hj':j < xs.length:=by lia
 obtain ⟨u,hu,ru⟩:=r.get (i:=j) (x:=xs[j]) (by simp [hj'])
 refine ⟨xs[j],by simp [hj'],?_⟩
 have:us.toArray[j]=u:=by
  have:=qg.mp hu
  simpa using this.2
 rw [this]; exact ru
mutual
theorem Rep.uniq (I:Inv X pins σ H s) (r:Rep X.K H v d) (q:Rep X.K H v e) (hc:clash d e=false):d=e:=by
 cases r with
 | non=>cases q; rfl
 | bl _=>cases q; rfl
 | int _=>cases q; rfl
 | str e1 _=>cases q with | str e2 _=>rw [<- e1,<- e2]
 | tup e1 r1=>cases q with
   | tup e2 r2=>
     cases I.tuple_inj (SqT.of e1) (SqT.of e2)
     rw [Reps.uniq I r1 r2 hc]
   | _=>cases hc
 | lst e1 r1=>cases q with
   | lst e2 r2=>
     cases I.list_inj e1 e2
     rw [Reps.uniq I r1 r2 hc]
   | _=>cases hc
 | dK=>cases e <;> cases hc
 | dT=>cases e <;> cases hc
 | st=>cases e <;> cases hc
 | exc=>cases e <;> cases hc
theorem Reps.uniq (I:Inv X pins σ H s) (r:Reps X.K H v d) (q:Reps X.K H v e) (hc:clashs d e=false):d=e:=by
 cases r with
 | nil=>cases q; rfl
 | @cons _ a _ l a1 b1=>cases q with
   | @cons _ b _ m a2 b2=>
     have h':(clash a b || clashs l m)=false:=hc
     rw [Bool.or_eq_false_iff] at h'
     rw [Rep.uniq I a1 a2 h'.1,Reps.uniq I b1 b2 h'.2]
end
open Classical in
theorem zfP:∀ (n:Nat) {A:Around} {v u:V} {vv uu:Value} {d e:D},dep d<=n->Inv X pins σ H s->Rep X.K H v d->Rep X.K H u e->RelV v vv->RelV u uu->clash d e=false->A.units + n < cLine->
  EqAt A s vv uu (decide (d=e))/\RcAt A s vv uu (decide (d=e)):=by
 intro n
 induction n with
 | zero=>
   intro A v u vv uu d e hd I r1 r2 rv ru hc hu
   exact zcP r1 r2 rv ru hc (fun l z=>by subst z; exact absurd hd (by show ¬ deps l + 1<=0; lia)) (fun l z=>by subst z; exact absurd hd (by show ¬ deps l + 1<=0; lia))
 | succ n ih=>
   intro A v u vv uu d e hd I r1 r2 rv ru hc hu
   have hin:A.in1.units + n < cLine:=by show A.units + 1 + n < cLine; lia
   cases r1 with
   | tup e1 q1=>
     cases r2 with
     | tup e2 q2=>
       rename_i a xs l b ys m
       cases rv
       cases ru
       obtain ⟨its,w1,p1,_⟩:=I.tuple (SqT.of e1)
       obtain ⟨its2,w2,p2,_⟩:=I.tuple (SqT.of e2)
       have hdl:deps l<=n:=by have:deps l + 1<=n + 1:=hd; lia
       have el1:its.toArray.size=l.length:=by rw [size_toArray,<- w1.length,q1.len]
       have el2:its2.toArray.size=m.length:=by rw [size_toArray,<- w2.length,q2.len]
       have items:∀ j (h1:j < its.toArray.size) (h2:j < its2.toArray.size),EqAt A.in1 s its.toArray[j] its2.toArray[j] (decide (l[j]?=m[j]?)):=fun j h1 h2=>by
        obtain ⟨x,hx,rx⟩:=zaE w1 h1
        obtain ⟨y,hy,ry⟩:=zaE w2 h2
        have hj1:j < l.length:=by lia
        have hj2:j < m.length:=by lia
        obtain ⟨x',hx',rp1⟩:=q1.get (i:=j) (d:=l[j]) (by simp [hj1])
        obtain ⟨y',hy',rp2⟩:=q2.get (i:=j) (d:=m[j]) (by simp [hj2])
        rw [hx] at hx'; cases hx'
        rw [hy] at hy'; cases hy'
        have:=(ih (A:=A.in1) (le_trans (zbG (l:=l) (j:=j) (by simp [hj1])) hdl) I rp1 rp2 rx ry (zaZ (j:=j) (a:=l[j]) (b:=m[j]) (zcX hc) (by simp [hj1]) (by simp [hj2])) hin).1
        have e:decide (l[j]?=m[j]?)=decide (l[j]=m[j]):=by simp [hj1,hj2]
        rw [e]; exact this
       have hrc:RcAt A s (.ref a) (.ref b) (decide (D.tup l=D.tup m)):=by
        have:=RcAt.tuples (s:=s) (show s.heap.IsTuple a its.toArray from p1) (show s.heap.IsTuple b its2.toArray from p2) (by lia) items
        rw [el1,el2,zci (l:=l) (m:=m) _ rfl] at this
        have e:decide (D.tup l=D.tup m)=decide (l=m):=by by_cases h:l=m <;> simp [h]
        rw [e]; exact this
       refine ⟨?_,hrc⟩
       by_cases hab:a=b
       ·subst hab
        have hxy:l=m:=by
         have z:=Rep.uniq I (.tup e1 q1) (.tup e2 q2) hc
         cases z; rfl
        subst hxy
        simp
        exact EqAt.same _
       ·exact EqAt.of_refs hab hrc
     | _=>cases hc
   | lst e1 q1=>
     cases r2 with
     | lst e2 q2=>
       rename_i a xs l b ys m
       cases rv
       cases ru
       obtain ⟨its,w1,p1,_⟩:=I.list e1
       obtain ⟨its2,w2,p2,_⟩:=I.list e2
       have hdl:deps l<=n:=by have:deps l + 1<=n + 1:=hd; lia
       have el1:its.toArray.size=l.length:=by rw [size_toArray,<- w1.length,q1.len]
       have el2:its2.toArray.size=m.length:=by rw [size_toArray,<- w2.length,q2.len]
       have items:∀ j (h1:j < its.toArray.size) (h2:j < its2.toArray.size),EqAt A.in1 s its.toArray[j] its2.toArray[j] (decide (l[j]?=m[j]?)):=fun j h1 h2=>by
        obtain ⟨x,hx,rx⟩:=zaE w1 h1
        obtain ⟨y,hy,ry⟩:=zaE w2 h2
        have hj1:j < l.length:=by lia
        have hj2:j < m.length:=by lia
        obtain ⟨x',hx',rp1⟩:=q1.get (i:=j) (d:=l[j]) (by simp [hj1])
        obtain ⟨y',hy',rp2⟩:=q2.get (i:=j) (d:=m[j]) (by simp [hj2])
        rw [hx] at hx'; cases hx'
        rw [hy] at hy'; cases hy'
        have hc':clashs l m=false:=hc
        have:=(ih (A:=A.in1) (le_trans (zbG (l:=l) (j:=j) (by simp [hj1])) hdl) I rp1 rp2 rx ry (zaZ (j:=j) (a:=l[j]) (b:=m[j]) hc' (by simp [hj1]) (by simp [hj2])) hin).1
        have e:decide (l[j]?=m[j]?)=decide (l[j]=m[j]):=by simp [hj1,hj2]
        rw [e]; exact this
       have hrc:RcAt A s (.ref a) (.ref b) (decide (D.lst l=D.lst m)):=by
        have e:decide (D.lst l=D.lst m)=decide (l=m):=by by_cases h:l=m <;> simp [h]
        rw [e]
        by_cases hlen:l.length=m.length
        ·have:=RcAt.lists (s:=s) p1.isList p2.isList (by lia) (by lia) items
         rw [el1] at this
         have e2:=zci (l:=l) (m:=m) l.length (by lia)
         have e3:(l.length == m.length)=true:=by simpa using hlen
         rw [e3,Bool.and_true] at e2
         rw [<- e2]; exact this
        ·have:=RcAt.lists_lengths (A:=A) (s:=s) p1.isList p2.isList (by simp only [el1,el2]; simpa using hlen) (by lia)
         have e2:decide (l=m)=false:=decide_eq_false fun z=>hlen (by rw [z])
         rw [e2]; exact this
       refine ⟨?_,hrc⟩
       by_cases hab:a=b
       ·subst hab
        have hxy:l=m:=by
         have z:=Rep.uniq I (.lst e1 q1) (.lst e2 q2) hc
         cases z; rfl
        subst hxy
        simp
        exact EqAt.same _
       ·exact EqAt.of_refs hab hrc
     | _=>cases hc
   | _=>exact zcP (by first | exact .non | exact .bl _ | exact .int _ | (rename_i e z; exact .str e z) | (rename_i e k r; exact .dK e k r) | (rename_i e k r; exact .dT e k r) | (rename_i e r; exact .st e r) | (rename_i e k z; exact .exc e k z)) r2 rv ru hc (fun l z=>by cases z) (fun l z=>by cases z)
end
section
variable {X:Cx} {K:W.Frag}
open PySem.SeqAt
open Classical in
def rEqD (K:W.Frag):R2:=fun x y H Q=>∃ p q,Rep K H x p/\Rep K H y q/\clash p q=false/\dep p<=30/\Q (.bl (decide (p=q))) H
theorem zbu (hu:X.A.units + 31 < cLine):OpR X (compareOp .Eq) (rEqD X.K):=by
 intro pins s σ H x y v u Q I rx ry h
 obtain ⟨p,q,r1,r2,hc,hd,hq⟩:=h
 exact (zfP 30 hd I r1 r2 rx ry hc (by lia)).2 X.prog X.w X.xe _ ⟨.bl _,H,I,rfl,hq⟩
theorem zew (h:cEq p q=some k):clash p q=false/\dep p<=30:=by
 grind [cEq]
open Classical in
theorem zcL (h:cEq p q=some k):k=decide (p=q):=by
 unfold cEq at h
 split at h
 ·cases h
 ·exact (qf h).symm
theorem za6:DoesC K (rEqD K) cEq:=by
 intro H x y p q k Q r1 r2 e hq
 obtain ⟨h1,h2⟩:=zew e
 have:=zcL e
 subst this
 exact ⟨p,q,r1,r2,h1,h2,hq⟩
open Classical in
def rNeD (K:W.Frag):R2:=fun x y H Q=>∃ p q,Rep K H x p/\Rep K H y q/\clash p q=false/\dep p<=30/\Q (.bl (!decide (p=q))) H
theorem zcj (I:Inv X pins σ H s) (q1:Reps X.K H xs l) (q2:Reps X.K H ys m) (w1:Vals xs us) (w2:Vals ys ws) (hc:clashs l m=false) (hd:deps l<=30) (hu:A.units + 30 < cLine):
  ∀ j (h1:j < us.toArray.size) (h2:j < ws.toArray.size),EqAt A s us.toArray[j] ws.toArray[j] (open Classical in decide (l[j]?=m[j]?)):=fun j h1 h2=>by
 obtain ⟨x,hx,rx⟩:=zaE w1 h1
 obtain ⟨y,hy,ry⟩:=zaE w2 h2
 have el1:us.toArray.size=l.length:=by rw [size_toArray,<- w1.length,q1.len]
 have el2:ws.toArray.size=m.length:=by rw [size_toArray,<- w2.length,q2.len]
 have hj1:j < l.length:=by lia
 have hj2:j < m.length:=by lia
 obtain ⟨x',hx',rp1⟩:=q1.get (i:=j) (d:=l[j]) (by simp [hj1])
 obtain ⟨y',hy',rp2⟩:=q2.get (i:=j) (d:=m[j]) (by simp [hj2])
 rw [hx] at hx'; cases hx'
 rw [hy] at hy'; cases hy'
 have:=(zfP 30 (A:=A) (le_trans (zbG (l:=l) (j:=j) (by simp [hj1])) hd) I rp1 rp2 rx ry (zaZ (j:=j) (a:=l[j]) (b:=m[j]) hc (by simp [hj1]) (by simp [hj2])) hu).1
 have e:(open Classical in decide (l[j]?=m[j]?))=(open Classical in decide (l[j]=m[j])):=by simp [hj1,hj2]
 rw [e]; exact this
theorem kindD (p:D):(∃ l,p=.tup l)\/(∃ l,p=.lst l)\/((∀ l,p≠.tup l)/\∀ l,p≠.lst l):=by
 cases p with
 | tup l=>exact .inl ⟨l,rfl⟩
 | lst l=>exact .inr (.inl ⟨l,rfl⟩)
 | _=>exact .inr (.inr ⟨fun l z=>D.noConfusion z,fun l z=>D.noConfusion z⟩)
theorem zfq (h:clash (.tup l) q=false):∃ m,q=.tup m:=by
 cases q with
 | tup m=>exact ⟨m,rfl⟩
 | _=>cases h
theorem zeY (h:clash (.lst l) q=false):∃ m,q=.lst m:=by
 cases q with
 | lst m=>exact ⟨m,rfl⟩
 | _=>cases h
theorem zft (r1:Rep K H x p) (r2:Rep K H y q) (hc:clash p q=false) (h1:∀ l,p≠.tup l) (h2:∀ l,p≠.lst l):scal x y=true/\(p=q↔x=y):=by
 have s1:=zgY r1 hc h1 h2
 have s2:=zes r2 s1 hc
 clear r1 r2 h1 h2
 cases s1 with
 | str e1=>
   cases s2 with
   | str e2=>
     rename_i x l y m
     refine ⟨rfl,fun z=>?_,fun z=>?_⟩
     ·obtain ⟨⟨a⟩⟩:=x
      obtain ⟨⟨b⟩⟩:=y
      grind
     ·cases z
      rw [<- e1,<- e2]
   | _=>exact ⟨rfl,fun z=>D.noConfusion z,fun z=>V.noConfusion z⟩
 | _=>cases s2 <;> first | exact ⟨rfl,fun z=>D.noConfusion z,fun z=>V.noConfusion z⟩ | exact ⟨rfl,fun z=>by cases z; rfl,fun z=>by cases z; rfl⟩ | cases hc
theorem zeF (hu:X.A.units + 32 < cLine):OpR X (compareOp .NotEq) (rNeD X.K):=by
 classical
 intro pins s σ H x y v u Q I rx ry h
 obtain ⟨p,q,r1,r2,hc,hd,hq⟩:=h
 have fin:EP X pins σ Q (.bool (!decide (p=q))) s:=⟨.bl _,H,I,rfl,hq⟩
 have hin:X.A.in1.units + 30 < cLine:=by show X.A.units + 1 + 30 < cLine; lia
 rcases kindD p with ⟨l,rfl⟩ | ⟨l,rfl⟩ | ⟨n1,n2⟩
 ·obtain ⟨m,rfl⟩:=zfq hc
  cases r1 with
  | tup e1 q1=>
  cases r2 with
  | tup e2 q2=>
    rename_i a xs b ys
    cases rx
    cases ry
    obtain ⟨its,w1,p1,_⟩:=I.tuple (SqT.of e1)
    obtain ⟨its2,w2,p2,_⟩:=I.tuple (SqT.of e2)
    have hdl:deps l<=30:=by have:deps l + 1<=30:=hd; lia
    have el1:its.toArray.size=l.length:=by rw [size_toArray,<- w1.length,q1.len]
    have el2:its2.toArray.size=m.length:=by rw [size_toArray,<- w2.length,q2.len]
    have:=RcNeAt.tuples (A:=X.A) (s:=s) (show s.heap.IsTuple a its.toArray from p1) (show s.heap.IsTuple b its2.toArray from p2) (by lia) (zcj I q1 q2 w1 w2 hc hdl hin)
    rw [el1,el2,zci (l:=l) (m:=m) _ rfl] at this
    have e:decide (D.tup l=D.tup m)=decide (l=m):=by by_cases h:l=m <;> simp [h]
    rw [e] at fin
    exact this X.prog X.w X.xe _ fin
 ·obtain ⟨m,rfl⟩:=zeY hc
  cases r1 with
  | lst e1 q1=>
  cases r2 with
  | lst e2 q2=>
    rename_i a xs b ys
    cases rx
    cases ry
    obtain ⟨its,w1,p1,_⟩:=I.list e1
    obtain ⟨its2,w2,p2,_⟩:=I.list e2
    have hdl:deps l<=30:=by have:deps l + 1<=30:=hd; lia
    have el1:its.toArray.size=l.length:=by rw [size_toArray,<- w1.length,q1.len]
    have el2:its2.toArray.size=m.length:=by rw [size_toArray,<- w2.length,q2.len]
    have e:decide (D.lst l=D.lst m)=decide (l=m):=by by_cases h:l=m <;> simp [h]
    rw [e] at fin
    by_cases hlen:l.length=m.length
    ·have:=RcNeAt.lists (A:=X.A) (s:=s) p1.isList p2.isList (by lia) (by lia) (zcj I q1 q2 w1 w2 hc hdl hin)
     rw [el1] at this
     have e2:=zci (l:=l) (m:=m) l.length (by lia)
     have e3:(l.length == m.length)=true:=by simpa using hlen
     rw [e3,Bool.and_true] at e2
     rw [<- e2] at fin
     exact this X.prog X.w X.xe _ fin
    ·have:=RcNeAt.lists_lengths (A:=X.A) (s:=s) p1.isList p2.isList (by simp only [el1,el2]; simpa using hlen) (by lia)
     have e2:decide (l=m)=false:=decide_eq_false fun z=>hlen (by rw [z])
     rw [e2] at fin
     exact this X.prog X.w X.xe _ fin
 ·obtain ⟨h1,h2⟩:=zft r1 r2 hc n1 n2
  rw [decide_eq_decide.mpr h2] at hq
  exact zhP pins s σ H x y v u Q I rx ry ⟨h1,hq⟩
theorem zdf:DoesC K (rNeD K) cNe:=by
 intro H x y p q k Q r1 r2 e hq
 unfold cNe at e
 cases q1:cEq p q with
 | none=>rw [q1] at e; cases e
 | some b=>
   rw [q1] at e
   have e':(!b)=k:=qf e
   obtain ⟨h1,h2⟩:=zew q1
   have:=zcL q1
   subst this
   subst e'
   exact ⟨p,q,r1,r2,h1,h2,hq⟩
def rOrd (f:Int->Int->Bool) (g:List Nat->List Nat->Bool):R2:=fun x y H Q=>(∃ i j,x=.int i/\y=.int j/\Q (.bl (f i j)) H)\/∃ i j,x=.str i/\y=.str j/\Q (.bl (g i.cps.toList j.cps.toList)) H
theorem zb9 {g:List Nat->List Nat->Bool} (rule:∀ (i j:Str) (t u:Tok) (s:Shared) (Q:Value->Shared->Prop) (E:Value->Shared->Prop),Q (.bool (g i.cps.toList j.cps.toList)) s->wpAny (model X.prog X.w) X.A (compareOp op (.str i t) (.str j u)) Q E s):
  OpR X (compareOp op) (fun x y H Q=>∃ i j,x=.str i/\y=.str j/\Q (.bl (g i.cps.toList j.cps.toList)) H):=by
 intro pins s σ H x y v u Q I rx ry h
 obtain ⟨i,j,rfl,rfl,q⟩:=h
 obtain ⟨t,rfl⟩:=rx
 obtain ⟨t',rfl⟩:=ry
 exact rule i j t t' s _ _ ⟨.bl _,H,I,rfl,q⟩
theorem zf9:OpR X (compareOp .Lt) (rOrd (fun i j=>decide (i < j)) fun l m=>decide (l < m)):=FL.OpR.or zht (zb9 (g:=fun l m=>decide (l < m)) fun _ _ _ _ _ _ _ q=>PyProof.Rows.lt_str q)
theorem zeu:OpR X (compareOp .Gt) (rOrd (fun i j=>decide (j < i)) fun l m=>decide (m < l)):=FL.OpR.or ziA (zb9 (g:=fun l m=>decide (m < l)) fun _ _ _ _ _ _ _ q=>PySem.P.gt_str q)
theorem zf7:OpR X (compareOp .GtE) (rOrd (fun i j=>decide (j<=i)) fun l m=>!decide (l < m)):=FL.OpR.or zir (zb9 (g:=fun l m=>!decide (l < m)) fun _ _ _ _ _ _ _ q=>PySem.P.ge_str q)
theorem zbz (h:∀ p q k,o p q=some k->(∃ i j,p=.int i/\q=.int j/\k=f i j)\/∃ l m,p=.str l/\q=.str m/\k=g l m):DoesC K (rOrd f g) o:=by
 intro H x y p q k Q r1 r2 e hq
 rcases h p q k e with ⟨i,j,rfl,rfl,rfl⟩ | ⟨l,m,rfl,rfl,rfl⟩
 ·cases r1
  cases r2
  exact .inl ⟨i,j,rfl,rfl,hq⟩
 ·cases r1 with
  | str e1 z1=>cases r2 with
    | str e2 z2=>
      subst e1 e2
      exact .inr ⟨_,_,rfl,rfl,hq⟩
theorem zeX:DoesC K (rOrd (fun i j=>decide (i < j)) fun l m=>decide (l < m)) cLt:=zbz fun p q k e=>by
 unfold cLt ltD at e
 split at e
 ·exact .inl ⟨_,_,rfl,rfl,(qf e).symm⟩
 ·exact .inr ⟨_,_,rfl,rfl,(qf e).symm⟩
 ·cases e
theorem zdl:DoesC K (rOrd (fun i j=>decide (j < i)) fun l m=>decide (m < l)) cGt:=zbz fun p q k e=>by
 unfold cGt ltD at e
 split at e
 ·exact .inl ⟨_,_,rfl,rfl,(qf e).symm⟩
 ·exact .inr ⟨_,_,rfl,rfl,(qf e).symm⟩
 ·cases e
theorem ze5:DoesC K (rOrd (fun i j=>decide (j<=i)) fun l m=>!decide (l < m)) cGe:=zbz fun p q k e=>by
 unfold cGe at e
 split at e
 ·exact .inl ⟨_,_,rfl,rfl,(qf e).symm⟩
 ·exact .inr ⟨_,_,rfl,rfl,(qf e).symm⟩
 ·cases e
end
section
variable {X:Cx} {K:W.Frag}
open PySem.SeqAt
end
section
variable {K:W.Frag} {F H G:Hp} {σ:St} {U:Env}
theorem zdq (hl:xs.length=l.length) (h:atI l i=some d):∃ j,ixN l.length i=some j/\l[j]?=some d/\∀ x,xs[j]?=some x->L2.atI xs i=some x:=by
 unfold atI at h
 cases q:ixN l.length i with
 | none=>rw [q] at h; cases h
 | some j=>
   rw [q] at h
   refine ⟨j,rfl,h,fun x hx=>?_⟩
   have e:L2.ixN xs.length i=some j:=by rw [hl]; exact q
   unfold L2.atI
   rw [e]; exact hx
theorem Reps.atI (r:Reps K F xs l) (h:FL.atI l i=some d):∃ x,L2.atI xs i=some x/\Rep K F x d:=by
 obtain ⟨j,_,h1,h2⟩:=zdq (xs:=xs) r.len h
 obtain ⟨x,hx,rx⟩:=r.get h1
 exact ⟨x,h2 x hx,rx⟩
theorem SReps.get {j:Nat} (r:SReps K F H xs l fp) (h:l[j]?=some t):∃ x fa fi fb,xs[j]?=some x/\SRep K F H x t fi/\fp=fa++(fi++fb):=
 SReps.ind (P:=fun xs l fp=>∀ j t,l[j]?=some t->∃ x fa fi fb,xs[j]?=some x/\SRep K F H x t fi/\fp=fa++(fi++fb)) (fun _ _ e=>by cases e) (fun a _ ih j t e=>by
  cases j with
  | zero=>cases e; exact ⟨_,[],_,_,rfl,a,rfl⟩
  | succ j=>
    obtain ⟨x,fa,fi,fb,h1,h2,rfl⟩:=ih j t e
    exact ⟨x,_++fa,fi,fb,h1,h2,(append_assoc ..).symm⟩) r j t h
theorem Rel.item {j:Nat} (r:Rel K (U++[some (.lst l)]) (σ++[some (.ref a)]) F G H) (h:l[j]?=some t):∃ xs x,H a=some (.lst xs)/\xs.length=l.length/\xs[j]?=some x/\Rel K (U++[some t]) (σ++[some x]) F G H:=by
 obtain ⟨fp,e,nd,ap⟩:=r.en
 obtain ⟨f1,f2,rfl,en,b⟩:=e.cut (len1 r)
 cases b with
 | so sr nl=>
   cases nl
   cases sr with
   | lst hD rl=>
     rename_i xs fl
     obtain ⟨x,fa,fi,fb,h1,h2,rfl⟩:=rl.get h
     refine ⟨xs,x,hD,rl.len,h1,r.fr,r.gr,f1++(fi++[]),en.app (.so h2 .nil),?_,fun y hy=>ap y ?_⟩
     ·have sub:List.Sublist (f1++(fi++[])) (f1++(a::(fa++(fi++fb))++[])):=by
       refine List.Sublist.append (List.Sublist.refl _) ?_
       simp only [append_nil]
       exact (List.Sublist.cons _ ((List.sublist_append_left fi fb).trans (List.sublist_append_right fa _)))
      exact sub.nodup nd
     ·rcases mem_append.mp hy with z | z
      ·exact qj _ z
      ·refine qi _ ?_
       simp only [append_nil] at z ⊢
       exact qk _ (qi _ (qj _ z))
end
section
variable {X:Cx} {a b:Expr} {wa wb:WE} {pos:Pos}
theorem zeO {K:W.Frag} (e:SqT K H c xs) (r:Reps K F xs l) (h:atI l i=some d) (hq:∀ x,Rep K F x d->Q x H):rIx K (.ref c) (.int i) H Q:=by
 obtain ⟨x,hx,rx⟩:=r.atI h
 exact .inr (.inl ⟨c,xs,i,x,rfl,rfl,e,hx,hq x rx⟩)
theorem zeS {K:W.Frag} (e:SqL K H c xs) (r:Reps K F xs l) (h:atI l i=some d) (hq:∀ x,Rep K F x d->Q x H):rIx K (.ref c) (.int i) H Q:=by
 obtain ⟨x,hx,rx⟩:=r.atI h
 exact .inl ⟨c,xs,i,x,rfl,rfl,e,hx,hq x rx⟩
theorem zeW (h:ixS s q=some t):(∃ l i d,s=.sh (.tup l)/\q=.int i/\atI l i=some d/\t=.sh d)\/(∃ l i d,s=.sh (.lst l)/\q=.int i/\atI l i=some d/\t=.sh d)\/
  (∃ l i c,s=.sh (.str l)/\q=.int i/\atI l i=some c/\t=.sh (.str [c]))\/∃ l i,s=.lst l/\q=.int i/\atI l i=some t:=by
 unfold ixS at h
 split at h
 ·obtain ⟨d,e,e'⟩:=map_eq_some_iff.mp h
  exact .inl ⟨_,_,d,rfl,rfl,e,e'.symm⟩
 ·obtain ⟨d,e,e'⟩:=map_eq_some_iff.mp h
  exact .inr (.inl ⟨_,_,d,rfl,rfl,e,e'.symm⟩)
 ·obtain ⟨d,e,e'⟩:=map_eq_some_iff.mp h
  exact .inr (.inr (.inl ⟨_,_,d,rfl,rfl,e,e'.symm⟩))
 ·exact .inr (.inr (.inr ⟨_,_,rfl,rfl,h⟩))
 ·cases h
theorem zb2 {K:W.Frag} (h:SRep K F H v (.sh d) fp):Rep K F v d:=by cases h; assumption
theorem zcl {K:W.Frag} (h:SRep K F H v (.lst l) fp):∃ a xs fq,v=.ref a/\H a=some (.lst xs)/\SReps K F H xs l fq:=by
 cases h with
 | lst h1 h2=>exact ⟨_,_,_,rfl,h1,h2⟩
theorem zez {K:W.Frag} (fr:Same F H) (r:Rep K F v d) (ru:Rep K F2 u q) (et:ixS (.sh d) q=some t) (done:∀ e x,t=.sh e->Rep K F x e->Q x H):rIx K v u H Q:=by
 rcases zeW et with ⟨l,i,e,e1,rfl,ed,rfl⟩ | ⟨l,i,e,e1,rfl,ed,rfl⟩ | ⟨l,i,c,e1,rfl,ec,rfl⟩ | ⟨l,i,e1,_⟩
 ·injection e1 with e1
  subst e1
  obtain rfl:=RepE.int (H:=H) (.inl ru)
  obtain ⟨a,xs,rfl,h1,r1⟩:=RepE.tup (H:=H) (.inl r)
  exact zeO (SqT.of (fr _ _ h1)) r1 ed fun x rx=>done _ x rfl rx
 ·injection e1 with e1
  subst e1
  obtain rfl:=RepE.int (H:=H) (.inl ru)
  obtain ⟨a,xs,rfl,h1,r1⟩:=RepE.lst (H:=H) fr (.inl r)
  exact zeS h1 r1 ed fun x rx=>done _ x rfl rx
 ·injection e1 with e1
  subst e1
  obtain rfl:=RepE.int (H:=H) (.inl ru)
  obtain ⟨x,rfl,h1,z⟩:=RepE.str (H:=H) (.inl r)
  exact .inr (.inr ⟨_,i,c,rfl,rfl,by rw [zbm h1,sizeLine_eq]; exact z,by rw [h1]; exact ec,done _ _ rfl (.str rfl (by show 1<=_; decide))⟩)
 ·cases e1
theorem zc1 (h:ixS (.lst l) q=some t):∃ i,q=.int i/\atI l i=some t:=by
 cases q with
 | int i=>exact ⟨i,rfl,h⟩
 | _=>cases h
theorem za4 (ha:FE X a wa) (hb:FE X b wb) (hs:PlainIx b:=by intro _ _; rfl):FE X (.Subscript a b pos) (wIx wa wb):=fun pn xe hp=>by
 refine PE.imp (zha (zgd (X:=wp X pn xe)) (ha pn xe hp) (hb pn xe hp) hs) fun σ H Q q=>?_
 refine (two (k:=fun x y U2 Q E=>need (view y U2) fun q=>match x with
  | .v s=>need (ixS s q) fun t=>Q (.v t) U2
  | .loc i=>match slot U2 i with
    | some s=>match ixS s q with
      | some (.sh d)=>Q (.v (.sh d)) U2
      | _=>False
    | none=>False) q).mono fun v H1 h1=>h1.mono fun u H2 h2=>?_
 obtain ⟨F,G,U,x,y,P,PX,rel,hl,rx,ry,hk,hok,hx⟩:=h2
 obtain ⟨q,eq,hk⟩:=zab hk
 have relx:Rel X.K (U++[slotOf x]) (σ++[some v]) F G H2:=by
  have:=Rel.swap (U1:=[slotOf x]) (σ1:=[some v]) (U2:=[slotOf y]) (σ2:=[some u]) hl rfl rel
  exact Rel.mid (U:=U) (σ:=σ) this hl
 have rely:Rel X.K (U++[slotOf y]) (σ++[some u]) F G H2:=rel.mid hl
 have ru:=look (U':=[]) (σ':=[]) rely hl ry eq
 have done:∀ {d:D} {x:V},P (.v (.sh d)) U->Rep X.K F x d->Q x H2:=fun hP r=>hok _ U _ F H2 hP (Same.refl F) ((relx.drop hl).push r) trivial
 cases x with
 | v s=>
   obtain ⟨t,et,hP⟩:=zab hk
   obtain ⟨w,fp,e1,sr⟩:=relx.at (i:=U.length) (s:=s) zay
   rw [hl,getElem?_append_right (le_refl _),sub_self] at e1
   have e2:v=w:=by simpa using e1
   subst e2
   cases s with
   | sh d=>exact zez relx.fr (zb2 sr) ru et fun e x z rx=>done (by rw [<- z]; exact hP) rx
   | lst l=>
     obtain ⟨i,rfl,et⟩:=zc1 et
     obtain rfl:=RepE.int (H:=H2) (.inl ru)
     obtain ⟨a,ys,fq,rfl,hD,rl⟩:=zcl sr
     obtain ⟨j,_,hj,hat⟩:=zdq rl.len et
     obtain ⟨xs,x,hD',hlen,hxj,r2⟩:=Rel.item relx hj
     rw [hD] at hD'
     cases hD'
     exact .inl ⟨_,_,i,x,rfl,rfl,SqL.of hD,hat x hxj,hok _ U _ F H2 hP (Same.refl F) r2 trivial⟩
   | _=>cases q <;> cases et
 | loc k=>
   dsimp only at hk
   cases qs:slot U k with
   | none=>rw [qs] at hk; exact hk.elim
   | some s=>
     rw [qs] at hk
     dsimp only at hk
     split at hk
     ·rename_i d et
      obtain ⟨w,fp,e1,sr⟩:=(relx.drop hl).at qs
      have rx':σ[k]?=some (some v):=rx
      rw [rx'] at e1
      have e2:v=w:=by simpa using e1
      subst e2
      cases s with
      | sh d'=>exact zez relx.fr (zb2 sr) ru et fun e x z rx=>done (by injection z with z; rw [<- z]; exact hk) rx
      | lst l=>
        obtain ⟨i,rfl,et⟩:=zc1 et
        obtain rfl:=RepE.int (H:=H2) (.inl ru)
        obtain ⟨a,ys,fq,rfl,hD,rl⟩:=zcl sr
        obtain ⟨j,_,hj,hat⟩:=zdq rl.len et
        obtain ⟨x,fa,fi,fb,hxj,sx,_⟩:=rl.get hj
        exact .inl ⟨_,_,i,x,rfl,rfl,SqL.of hD,hat x hxj,done hk (zb2 sx)⟩
      | _=>cases q <;> cases et
     ·exact hk.elim
end
section
variable {K:W.Frag} {F H G:Hp} {σ:St} {U:Env}
theorem SReps.set:∀ {xs:List V} {l:List S} {fp:List Addr} {m:Nat},SReps K F H xs l fp->m < l.length->∃ fa fi fb,fp=fa++(fi++fb)/\
  ∀ {H':Hp} {v:V} {s:S} {fq:List Addr},(∀ a∈fa++fb,H' a=H a)->SRep K F H' v s fq->SReps K F H' (xs.set m v) (l.set m s) (fa++(fq++fb))
 | _,_,_,_,.nil,h=>by simp at h
 | _,_,_,0,.cons (fp:=fp) (fq:=fq) a b,h=>⟨[],fp,fq,rfl,fun hk r=>by rw [nil_append]; exact .cons r (b.mono (Same.refl F) fun c hc=>hk c hc)⟩
 | _,_,_,m + 1,.cons (fp:=fp) (fq:=fq) a b,h=>by
   obtain ⟨fa,fi,fb,rfl,up⟩:=SReps.set (m:=m) b (by simpa using h)
   refine ⟨fp++fa,fi,fb,(append_assoc ..).symm,fun hk r=>?_⟩
   rw [append_assoc]
   exact .cons (a.mono (Same.refl F) fun c hc=>hk c (qj _ (qj _ hc))) (up (fun c hc=>hk c ((mem_append.mp hc).elim (fun z=>qj _ (qi _ z)) fun z=>qi _ z)) r)
theorem zdM (h:σ[n]?=some (some v)):σ.set n (some v)=σ:=by
 apply ext_getElem?
 intro j
 by_cases hj:n=j
 ·subst hj
  rw [getElem?_set_self (qg.mp h).1,h]
 ·rw [getElem?_set_ne hj]
theorem Rel.setItem {D:Addr} (r:Rel K (U++[some s]) (σ++[some v]) F G H) (hs:slot U n=some (.lst l)) (hσ:σ[n]?=some (some (.ref D))) (hm:m < l.length):
  ∃ xs,H D=some (.lst xs)/\xs.length=l.length/\Rel K (U.set n (some (.lst (l.set m s)))) σ F G (upd H D (.lst (xs.set m v))):=by
 have hl:=len1 r
 obtain ⟨fp,e,nd,ap⟩:=r.en
 obtain ⟨f1,f2,rfl,a,b⟩:=e.cut hl
 obtain ⟨v',fa,fi,fb,e1,rfl,q,up⟩:=a.at hs
 rw [hσ] at e1
 have e2:V.ref D=v':=by simpa using e1
 subst e2
 cases q with
 | lst hD rl=>
   rename_i xs fl
   cases b with
   | so sr nl=>
     cases nl
     rename_i fs
     obtain ⟨ga,gi,gb,rfl,sup⟩:=rl.set hm
     refine ⟨xs,hD,rl.len,?_⟩
     obtain ⟨n1,n2,n12⟩:=nodup_append.mp nd
     obtain ⟨na,nib,nab⟩:=nodup_append.mp n1
     obtain ⟨ni,nb,nib⟩:=nodup_append.mp nib
     obtain ⟨nD,nfl⟩:=nodup_cons.mp ni
     have hDa:D∉fa:=fun z=>nab D z D (qj _ ql) rfl
     have hDb:D∉fb:=fun z=>nib D ql D z rfl
     have hDs:D∉fs:=fun z=>n12 D (qi _ (qj _ ql)) D (by simpa using z) rfl
     have apD:=ap D (qj _ (qi _ (qj _ ql)))
     have ne:∀ {l:List Addr},D∉l->∀ x∈l,upd H D (.lst (xs.set m v)) x=H x:=fun h x hx=>zac fun z=>h (z ▸ hx)
     have hDg:D∉ga++gb:=fun z=>nD ((mem_append.mp z).elim (fun w=>qj _ w) fun w=>qi _ (qi _ w))
     have new:SRep K F (upd H D (.lst (xs.set m v))) (.ref D) (.lst (l.set m s)) (D::(ga++(fs++gb))):=.lst zaj (sup (ne hDg) (sr.mono (Same.refl F) (ne hDs)))
     have a2:=up (F':=F) (H':=upd H D (.lst (xs.set m v))) (o:=some (.lst (l.set m s))) (u:=some (.ref D)) (Same.refl F) (fun x hx=>zac fun z=>(mem_append.mp hx).elim (fun w=>hDa (z ▸ w)) fun w=>hDb (z ▸ w)) (.so new .nil)
     rw [zdM hσ] at a2
     have sub:∃ l2,l2.Perm (fa++((D::(ga++(gi++gb)))++fb)++(fs++[]))/\List.Sublist (fa++((D::(ga++(fs++gb)))++[]++fb)) l2:=by
      refine ⟨fa++((D::(ga++(fs++(gi++gb))))++[]++fb),?_,?_⟩
      ·simp only [append_nil,append_assoc,cons_append]
       refine List.Perm.append_left _ (List.Perm.cons _ (List.Perm.append_left _ ?_))
       exact perm_append_comm.trans (by simp)
      first | rfl | assumption | (simp_all; done)
     obtain ⟨l2,p,sb⟩:=sub
     refine ⟨Same.updR r.fr apD.1,fun x o w=>?_,_,a2,sb.nodup (p.nodup_iff.mpr nd),fun x hx=>ap x (p.mem_iff.mp (sb.subset hx))⟩
     have hx:x≠D:=fun z=>by rw [z,apD.2] at w; cases w
     rw [zac hx]
     exact r.gr x o w
end
section
variable {X:Cx} {ks:List Nat} {pos tpos:Pos}
theorem zcg (ho:FE X o (wVar j)) (hi:FE X i wi) (he:FE X e we) (hs:swapsWithSole [.Subscript o i tpos] e pos.line X.env=pure false:=by rfl) (hw:swappedStores [.Subscript o i tpos] e X.env=pure none:=by rfl)
  (h1:(assignEach [.Subscript o i tpos] X.env).map (·.2)=[assign (.Subscript o i tpos) X.env]:=by rfl)
  (ha:∀ v,assign (.Subscript o i tpos) X.env v=(do
   let ov <- holding [v] (eval o X.env)
   let iv <- holding [v,ov] (eval i X.env)
   standAt tpos
   holding [v,ov,iv] (setItem ov iv v)
   release [v,ov,iv] []):=by intro _; rfl):FS X ks (.Assign [.Subscript o i tpos] e pos) (wSetIx j wi we):=fun pn xe hp=>by
 refine PS.imp (zeG (X:=wp X pn xe) (he pn xe hp) (zg1 (X:=wp X pn xe) (ho pn xe hp) (hi pn xe hp) zdC ha) hs hw h1) fun D σ H q=>?_
 obtain ⟨F,G,U,E,rel,hw,n,b,c,r,x⟩:=q
 have x0:XC (wp X pn xe) (·=σ) F G E.ex:=x.mono (fun σ2 z=>by rw [z]; exact KP.refl) (Same.refl F) (Same.refl G)
 refine ⟨F,G,U,_,_,rel,hw,fun r U1 v F1 H1 hk s1 r1 rv=>?_,x0⟩
 have l1:=len1 r1
 obtain ⟨G1,rel1,gg,back⟩:=r1.hide l1
 refine ⟨F1,G1,U1,_,_,rel1,hk,fun y U2 o' F2 H2 hk2 s2 r2 rv2=>?_,x0.mono (fun _ z=>z) s1 gg⟩
 have l2:=len1 r2
 obtain ⟨G2,rel2,gg2,back2⟩:=r2.hide l2
 refine ⟨F2,G2,U2,_,_,rel2,hk2,fun z U3 i' F3 H3 hk3 s3 r3 rv3=>?_,x0.mono (fun _ z=>z) (s1.trans s2) (gg.trans gg2)⟩
 have l3:=len1 r3
 obtain ⟨q,eq,hk3⟩:=zab hk3
 obtain ⟨⟨t,U4⟩,eg,hk4⟩:=zab hk3
 -- all three stand at the end
 have r4:=back (s2.trans s3) (back2 s3 r3)
 simp only [append_assoc,cons_append,nil_append] at r4
 have ri:=look (U':=[slotOf y,slotOf r]) (σ':=[some o',some v]) r4 l3 rv3 eq
 have r5:Rel X.K (U3++[slotOf r]) (σ++[some v]) F3 G H3:=Rel.mid (U:=U3) (σ:=σ) (Rel.mid (U:=U3) (σ:=σ) r4 l3) l3
 obtain ⟨F4,s4,l4,r6⟩:=giveR (U':=[]) (σ':=[]) r5 l3 rv eg
 cases y with
 | v y0=>exact hk4.elim
 | loc k=>
   cases q with
   | int m=>
     cases qs:slot U4 j with
     | none=>simp only [qs] at hk4
     | some sj=>
       cases sj with
       | lst l=>
         simp only [qs] at hk4
         obtain ⟨rfl,hk4⟩:=hk4
         obtain ⟨w,ew,hnx⟩:=zab hk4
         have hσ:σ[k]?=some (some o'):=rv2
         obtain ⟨v',fp,e1,sr⟩:=r6.at (i:=k) (s:=.lst l) (by rw [zbb (zbi qs)]; exact qs)
         have hkl:k < σ.length:=(qg.mp hσ).1
         rw [getElem?_append_left hkl,hσ] at e1
         have e2:o'=v':=by simpa using e1
         subst e2
         have hw:w < l.length:=by
          unfold ixN at ew
          split at ew
          ·split at ew
           ·have e:=qf ew
            lia
           ·cases ew
          ·split at ew
           ·have e:=qf ew
            lia
           ·cases ew
         cases sr with
         | lst hD rl=>
           rename_i a xs fl
           obtain ⟨xs',hD',hlen,r7⟩:=Rel.setItem r6 qs hσ hw
           rw [hD] at hD'
           cases hD'
           cases ri
           exact ⟨a,xs,m,w,rfl,rfl,hD,by rw [hlen]; exact ew,n _ σ F4 _ hnx KP.refl (s1.trans (s2.trans (s3.trans s4))) r7⟩
       | _=>simp only [qs] at hk4
   | _=>exact hk4.elim
end
section
variable {K:W.Frag} {F F' H G:Hp} {σ σ':St}
def RepEs (K:W.Frag) (F H:Hp):List V->List D->Prop
 | [],[]=>True
 | v::vs,d::ds=>RepE K F H v d/\RepEs K F H vs ds
 | _,_=>False
theorem arg1 {b:List D->Option S} (h2:∀ x y r,b (x::y::r)=none) (h0:b []=none) (re:RepEs K F H vs ds) (e:b ds=some s):∃ d v,ds=[d]/\vs=[v]:=by
 cases ds with
 | nil=>rw [h0] at e; cases e
 | cons x ds=>
   cases ds with
   | cons y r=>rw [h2] at e; cases e
   | nil=>
     cases vs with
     | nil=>exact re.elim
     | cons v vs=>
       cases vs with
       | nil=>exact ⟨x,v,rfl,rfl⟩
       | cons u vs=>exact re.2.elim
theorem takeAll:∀ {rs:List R} {vs:List V} {ds:List D} {U U':Env} {F:Hp} {σ':St},Rel K (U++(rs.map slotOf++U')) (σ++(vs.map some++σ')) F G H->U.length=σ.length->RVs σ vs rs->(rs.mapM fun r=>viewC r U)=some ds->
  ∃ F',Same F F'/\RepEs K F' H vs ds/\Rel K (U++U') (σ++σ') F' G H
 | [],[],ds,U,U',F,σ',r,h,_,e=>by
   have e':ds=[]:=by simpa using e.symm
   subst e'
   exact ⟨F,Same.refl F,trivial,r⟩
 | [],_::_,_,_,_,_,_,_,_,h,_=>h.elim
 | _::_,[],_,_,_,_,_,_,_,h,_=>h.elim
 | x::rs,v::vs,ds,U,U',F,σ',r,h,rv,e=>by
   rw [List.mapM_cons] at e
   cases q:viewC x U with
   | none=>rw [q] at e; cases e
   | some d=>
     rw [q] at e
     cases q2:(rs.mapM fun r=>viewC r U) with
     | none=>rw [q2] at e; cases e
     | some es=>
       rw [q2] at e
       have e':d::es=ds:=qf e
       subst e'
       obtain ⟨F1,s1,re,r1⟩:=takeC (U':=rs.map slotOf++U') (σ':=vs.map some++σ') r h rv.1 q
       obtain ⟨F2,s2,res,r2⟩:=takeAll (rs:=rs) (vs:=vs) r1 h rv.2 q2
       exact ⟨F2,s1.trans s2,⟨re.mono s2,res⟩,r2⟩
def DoesB (K:W.Frag) (r:List V->Hp->VK->Prop) (f:List D->Option S):Prop:=∀ (σ:St) (U:Env) (F G H:Hp) (vs:List V) (ds:List D) (s:S) (Q:VK),Rel K U σ F G H->RepEs K F H vs ds->f ds=some s->
 (∀ v F' H',Same F F'->Rel K (U++[some s]) (σ++[some v]) F' G H'->Q v H')->r vs H Q
end
section
variable {X:Cx} {x:Str} {p pos:Pos} {e:Expr} {es:List Expr} {wa:WA} {id T:String} {r:List V->Hp->VK->Prop} {f:List D->Option S}
theorem zcp (hd:DoesB X.K r f) (σ:St) (H:Hp) (Q:VK) (q:tW (wp X pn xe) (wB f wa) σ H Q):tCB r (tWA (wp X pn xe) wa) σ H Q:=by
 refine (many (k:=fun rs U1 Q E=>need (rs.mapM fun r=>viewC r U1) fun ds=>need (f ds) fun s=>Q (.v s) U1) q).mono fun vs H1 h1=>?_
 obtain ⟨F,G,U,rs,P,PX,rel,hl,rv,hk,hok,hx⟩:=h1
 obtain ⟨ds,ed,hk⟩:=zab hk
 obtain ⟨s,es,hk⟩:=zab hk
 obtain ⟨F1,s1,re,r1⟩:=takeAll (U':=[]) (σ':=[]) (by simpa using rel) hl rv ed
 exact hd σ U F1 G H1 vs ds s Q (by simpa using r1) re es fun v F' H' sm r'=>hok _ U v F' H' hk (s1.trans sm) r' trivial
theorem zdZ (hc:∀ pn xe,CallR (wp X pn xe) (.builtin id) r) (hd:DoesB X.K r f) (hg:Gl X x) (hm:X.mg x=none) (hv:bootBuiltins x=some (.builtin id)) (ha:FA X (e::es) wa) (hn:x≠"__name__":=by decide) (hdb:(x == ("__debug__":Str))=false:=by decide)
  (he:starEach (e::es) X.env=(false,eval e X.env)::starEach es X.env:=by rfl) (hpl:(backTo pos (starEach es X.env)).any (·.1)=false:=by rfl):FE X (.Call (.Name x p) (e::es) [] pos) (wB f wa):=fun pn xe hp=>
 PE.imp (zei (X:=wp X pn xe) (hc pn xe) hg hm hv (ha pn xe hp) hn hdb he hpl) (zcp hd)
theorem zc5 (hc:∀ pn xe,CallR (wp X pn xe) (.type T) r) (hd:DoesB X.K r f) (hg:Gl X x) (hm:X.mg x=none) (hv:bootBuiltins x=some (.type T)) (ha:FA X (e::es) wa) (hn:x≠"__name__":=by decide) (hdb:(x == ("__debug__":Str))=false:=by decide)
  (he:starEach (e::es) X.env=(false,eval e X.env)::starEach es X.env:=by rfl) (hpl:(backTo pos (starEach es X.env)).any (·.1)=false:=by rfl):FE X (.Call (.Name x p) (e::es) [] pos) (wB f wa):=fun pn xe hp=>
 PE.imp (zdh (X:=wp X pn xe) (hc pn xe) hg hm hv (ha pn xe hp) hn hdb he hpl) (zcp hd)
def rLen (K:W.Frag):List V->Hp->VK->Prop:=fun xs H Q=>(∃ p ys,xs=[.ref p]/\(SqL K H p ys\/SqT K H p ys)/\Q (.int ys.length) H)\/∃ z,xs=[.str z]/\z.length<=sizeLine/\Q (.int z.length) H
theorem CallR.or' {f:Value} (h:CallR X f r) (h':CallR X f r'):CallR X f (fun x H Q=>r x H Q\/r' x H Q):=fun pins s σ H xs us Q I rr q=>q.elim (h pins s σ H xs us Q I rr) (h' pins s σ H xs us Q I rr)
theorem zdk:CallR X (.builtin "len") (rLen X.K):=CallR.or' zbU zbO
theorem zdI {K:W.Frag}:DoesB K (rLen K) bLen:=by
 intro σ U F G H vs ds s Q rel re e hq
 obtain ⟨d,v,rfl,rfl⟩:=arg1 (fun x y r=>by cases x <;> rfl) rfl re e
 cases d with
 | str l=>
   cases e
   obtain ⟨x,rfl,e1,z⟩:=re.1.str
   exact .inr ⟨x,rfl,by rw [zbm e1,sizeLine_eq]; exact z,by rw [zbm e1]; exact hq _ F H (Same.refl F) (rel.push (.int _))⟩
 | tup l=>
   cases e
   obtain ⟨a,xs,rfl,h1,r1⟩:=re.1.tup
   exact .inl ⟨a,xs,rfl,.inr (SqT.of (rel.fr _ _ h1)),by rw [r1.len]; exact hq _ F H (Same.refl F) (rel.push (.int _))⟩
 | lst l=>
   cases e
   obtain ⟨a,xs,rfl,h1,r1⟩:=re.1.lst rel.fr
   exact .inl ⟨a,xs,rfl,.inl h1,by rw [r1.len]; exact hq _ F H (Same.refl F) (rel.push (.int _))⟩
 | _=>cases e
theorem zdj (hg:Gl X "len") (hm:X.mg "len"=none) (ha:FA X (e::es) wa) (he:starEach (e::es) X.env=(false,eval e X.env)::starEach es X.env:=by rfl) (hpl:(backTo pos (starEach es X.env)).any (·.1)=false:=by rfl):FE X (.Call (.Name "len" p) (e::es) [] pos) (wB bLen wa):=
 zdZ (fun _ _=>zdk) zdI hg hm PySem.boot_len ha (by decide) (by decide) he hpl
end
section
variable {X:Cx} {p pos:Pos} {e:Expr} {es:List Expr} {wa:WA} {K:W.Frag}
def rInt:List V->Hp->VK->Prop:=fun xs H Q=>(∃ i,xs=[.int i]/\Q (.int i) H)\/∃ k,xs=[.bl k]/\Q (.int (if k then 1 else 0)) H
theorem RepE.bl (h:RepE K F H v (.bl b)):v=.bl b:=by
 rcases h with h | ⟨_,_,_,_,h,_⟩ | ⟨_,_,_,_,_,h,_⟩ | ⟨_,_,_,_,_,h,_⟩
 ·cases h; rfl
 ·cases h
 ·cases h
 ·cases h
theorem zcO:DoesB K rInt bInt:=by
 intro σ U F G H vs ds s Q rel re e hq
 obtain ⟨d,v,rfl,rfl⟩:=arg1 (fun x y r=>by cases x <;> rfl) rfl re e
 cases d with
 | int i=>
   cases e
   have:=re.1.int
   subst this
   exact .inl ⟨i,rfl,hq _ F H (Same.refl F) (rel.push (.int _))⟩
 | bl b=>
   cases e
   have:=re.1.bl
   subst this
   exact .inr ⟨b,rfl,hq _ F H (Same.refl F) (rel.push (.int _))⟩
 | _=>cases e
theorem ze2 (hg:Gl X "int") (hm:X.mg "int"=none) (hv:bootBuiltins "int"=some (.type "int")) (ha:FA X (e::es) wa) (he:starEach (e::es) X.env=(false,eval e X.env)::starEach es X.env:=by rfl) (hpl:(backTo pos (starEach es X.env)).any (·.1)=false:=by rfl):FE X (.Call (.Name "int" p) (e::es) [] pos) (wB bInt wa):=
 zc5 (fun _ _=>zcY) zcO hg hm hv ha (by decide) (by decide) he hpl
end
open PySem.Builtin.Str (strSliceIndices)
end FL
end
section
namespace FL
open PySem
def strsD:List D->Option (List (List Nat))
 | []=>some []
 | .str x::r=>(strsD r).map (x::·)
 | _::_=>none
@[simp] theorem zfZ (l:List (List Nat)):strsD (l.map .str)=some l:=by
  induction l with
  | nil=>rfl
  | cons a r ih=>rw [map_cons,strsD,ih]; rfl
def bools:List D->Option (List Bool)
 | []=>some []
 | .bl x::r=>(bools r).map (x::·)
 | _::_=>none
@[simp] theorem zf4 (l:List Bool):bools (l.map .bl)=some l:=by
  induction l with
  | nil=>rfl
  | cons a r ih=>rw [map_cons,bools,ih]; rfl
end FL
end
section
namespace FL
open PySem PySem.Spec PyProof.Rows L2
end FL
end
section
namespace FL
open PySem
mutual
def cmpD:D->D->Ordering
 | .int i,.int j=>if i < j then .lt else if j < i then .gt else .eq
 | .str x,.str y=>if x < y then .lt else if y < x then .gt else .eq
 | .tup l,.tup m=>cmpDs l m
 | _,_=>.eq
def cmpDs:List D->List D->Ordering
 | [],[]=>.eq
 | [],_::_=>.lt
 | _::_,[]=>.gt
 | a::l,b::m=>match cmpD a b with
   | .eq=>cmpDs l m
   | o=>o
end
def leD (a b:D):Bool:=match cmpD a b with
 | .gt=>false
 | _=>true
@[simp] theorem ziU (i j:Int):leD (.int i) (.int j)=decide (i<=j):=by
  unfold leD cmpD
  by_cases h:i < j
  ·rw [if_pos h,decide_eq_true (by lia)]
  ·rw [if_neg h]
   by_cases h2:j < i
   ·rw [if_pos h2,decide_eq_false (by lia)]
   ·rw [if_neg h2,decide_eq_true (by lia)]
@[simp] theorem zhc (x y:List Nat):leD (.str x) (.str y)=!decide (y < x):=by
  unfold leD cmpD
  by_cases h:x < y
  ·rw [if_pos h,decide_eq_false (fun h'=>List.lt_asymm h h')]; rfl
  ·rw [if_neg h]
   by_cases h2:y < x
   ·rw [if_pos h2,decide_eq_true h2]; rfl
   ·rw [if_neg h2,decide_eq_false h2]; rfl
def intsD:List D->Option (List Int)
 | []=>some []
 | .int x::r=>(intsD r).map (x::·)
 | _::_=>none
@[simp] theorem zge (l:List Int):intsD (l.map .int)=some l:=by
  induction l with
  | nil=>rfl
  | cons a r ih=>rw [map_cons,intsD,ih]; rfl
end FL
end
section
namespace FL
open PySem PySem.Spec PyProof.Rows L2
section
variable {X:Cx} {K:W.Frag} {p pos:Pos} {e:Expr} {es:List Expr} {wa:WA}
theorem zaT:∀ {us:List Value} {ns:List Int},IntsAre us ns->Vals (ns.map V.int) us
 | _,_,.nil=>.nil
 | _,_,.cons i t r=>.cons ⟨t,rfl⟩ (zaT r)
theorem zbM:∀ ns:List Int,Reps K F (ns.map V.int) (ns.map D.int)
 | []=>.nil
 | n::ns=>.cons (.int n) (zbM ns)
end
mutual
def toPy:D->PyData
 | .non=>.none
 | .bl b=>.bool b
 | .int i=>.int i
 | .str l=>.str ⟨l.toArray⟩
 | .tup l=>.tuple (toPys l)
 | .lst l=>.list (toPys l)
 | _=>.none
def toPys:List D->List PyData
 | []=>[]
 | d::r=>toPy d::toPys r
end
mutual
def showD:D->Bool
 | .non=>true
 | .bl _=>true
 | .int i=>decide (i.natAbs.log2 < 1920)
 | .str _=>true
 | .tup l=>showDs l
 | .lst l=>showDs l
 | _=>false
def showDs:List D->Bool
 | []=>true
 | d::r=>showD d && showDs r
end
mutual
theorem zcb:∀ d:D,showD d=true->(toPy d).showable=true
 | .non,_=>rfl
 | .bl _,_=>rfl
 | .int i,h=>h
 | .str _,_=>rfl
 | .tup l,h=>by
   have h':showDs l=true:=h
   simpa [toPy,PyData.showable] using zaI l h'
 | .lst l,h=>by
   have h':showDs l=true:=h
   simpa [toPy,PyData.showable] using zaI l h'
 | .dct _ _ _,h=>by cases h
 | .set _,h=>by cases h
 | .exc _ _ _,h=>by cases h
theorem zaI:∀ l:List D,showDs l=true->PyData.showableAll (toPys l)=true
 | [],_=>rfl
 | d::r,h=>by
   rw [showDs,and_eq_true] at h
   rw [toPys,PyData.showableAll,zcb d h.1,zaI r h.2]
   rfl
end
mutual
theorem zdd:∀ d:D,(toPy d).hasDict=false
 | .non=>rfl
 | .bl _=>rfl
 | .int i=>rfl
 | .str _=>rfl
 | .tup l=>by simpa [toPy,PyData.hasDict] using za8 l
 | .lst l=>by simpa [toPy,PyData.hasDict] using za8 l
 | .dct _ _ _=>rfl
 | .set _=>rfl
 | .exc _ _ _=>rfl
theorem za8:∀ l:List D,PyData.hasDictAll (toPys l)=false
 | []=>rfl
 | d::r=>by
   rw [toPys,PyData.hasDictAll,zdd d,za8 r]
   rfl
end
mutual
theorem zd1:∀ d:D,(toPy d).depth<=dep d
 | .non=>le_refl _
 | .bl _=>le_refl _
 | .int i=>le_refl _
 | .str _=>le_refl _
 | .tup l=>by
   have:=zbg l
   simp only [toPy,PyData.depth,dep]
   lia
 | .lst l=>by
   have:=zbg l
   simp only [toPy,PyData.depth,dep]
   lia
 | .dct _ _ _=>le_refl _
 | .set _=>le_refl _
 | .exc _ _ _=>le_refl _
theorem zbg:∀ l:List D,PyData.depthAll (toPys l)<=deps l
 | []=>le_refl _
 | d::r=>by
   have h1:=zd1 d
   have h2:=zbg r
   simp only [toPys,PyData.depthAll,deps]
   lia
end
end FL
end
section
namespace FL
open PySem
end FL
end
section
namespace FL
open PySem PySem.Spec PyProof.Rows L2
theorem zgv:bootBuiltins "int"=some (.type "int"):=by decide +kernel
theorem zan:bootBuiltins "isinstance"=some (.builtin "isinstance"):=by decide +kernel
section
variable {X:Cx} {k:Nat}
theorem u32 (hr:Room k A):A.units + 32 < cLine:=by have:=hr.units; lia
theorem u31 (hr:Room k A):A.units + 31 < cLine:=by have:=hr.units; lia
theorem uq {N:List Str} (h:(N.zipIdx.all fun p=>!(p.1 == x) || p.2 == i)=true):∀ j,N[j]?=some x->j=i:=by
 intro j hj
 have hj':j < N.length:=(qg.mp hj).1
 have:=all_eq_true.mp h (x,j) (by rw [List.mem_zipIdx_iff_getElem?]; simpa using hj)
 simpa using this
instance (outer scope:Scope) (N vars:List Str):Decidable (scope.kind=.function/\(∀ x∈scope.names,x.2=.free->outer.names.lookup x.1=some .cell\/outer.names.lookup x.1=some .free)/\(scope.names.map (·.1)).Nodup/\
  (∀ x∈N,x∉vars->(x,NameKind.local)∉scope.names/\(x,NameKind.cell)∉scope.names)/\scope.names.lookup Str.empty=none):=inferInstance
def compOk (outer scope:Scope) (N vars:List Str):Bool:=decide (scope.kind=.function/\(∀ x∈scope.names,x.2=.free->outer.names.lookup x.1=some .cell\/outer.names.lookup x.1=some .free)/\(scope.names.map (·.1)).Nodup/\
    (∀ x∈N,x∉vars->(x,NameKind.local)∉scope.names/\(x,NameKind.cell)∉scope.names)/\scope.names.lookup Str.empty=none)
theorem compSc (h:compOk outer scope N vars=true):CompScope outer scope N vars:=
 let ⟨a,b,c,d,e⟩:=of_decide_eq_true h
 ⟨a,b,c,d,e⟩
end
theorem zek {K:W.Frag} (r:SRep K F H v (.sh (.bl true)) fp):v=.bl true:=by
 cases r with
 | sh r=>cases r; rfl
theorem zgM {K:W.Frag} (h:∀ ns:List Int,ns.length<=63->wf [.sh (.lst (ns.map .int))] (fun s _=>s=.sh (.bl true)) fun _ _=>False) (H:Hp) (a:Addr) (ns:List Int) (hl:ns.length<=63) (hS:SqL K H a (ns.map V.int)):
  spW K wf 1 [.ref a] H (fun v _=>v=.bl true) fun _ _ _=>False:=by
 refine ⟨H,fun _=>none,[.sh (.lst (ns.map .int))],_,_,rfl,⟨Same.refl H,fun _ _ z=>(nomatch z),[]++[],.so (.sh (.lst hS (zbM ns))) .nil,List.nodup_nil,fun _ z=>(nomatch z)⟩,h ns hl,fun s ss' v F' H' hs sm hlen r=>?_,fun _ _ _ _ _ _ z=>z.elim⟩
 subst hs
 obtain ⟨u,fp,e1,q⟩:=r.at (i:=ss'.length) (s:=.sh (.bl true)) (by
  have:=zay (U:=ss'.map some) (o:=some (.sh (.bl true))) (U':=[])
  simpa using this)
 have hl1:ss'.length=1:=hlen
 rw [hl1] at e1
 have:u=v:=by simpa using e1.symm
 rw [<- this]
 exact zek q
end FL
end
section
namespace FL
end FL
end
section
namespace FL
open PySem PySem.Spec PyProof.Rows L2
open AutoSeq1 (wpAny_loadPart')
section
variable {prog:Program} {w:World} {A:Around} {E:Value->Shared->Prop} {s:Shared}
theorem zgA (hu:s.heap.IsTupleIter u z n) (hz:s.heap.IsTuple z xs) (hv:xs[n]?=some v) (k:∀ h',h'.IsTupleIter u z (n + 1)->Heap.SameBut u s.heap h'->Q v { s with heap:=h' }):
  wpAny (model prog w) A (Builtin.SmallTypes.nextOf (.ref u)) Q E s:=by
 obtain ⟨ob,e0,e1,e2⟩:=id hu
 obtain ⟨zb,f0,_,zn,f2⟩:=hz
 unfold Builtin.SmallTypes.nextOf
 apply qa
 refine wpAny_callSpecial?_slot (name:=Str.ofString "__next__") hu.typeIs F.slot_tuple_iterator_next (wpAny_call_entry F.slot_tuple_iterator_next hu.typeIs F.entry_tuple_iterator_next ?_ (F.args_tuple_iterator_next_1 _))
 show wpAny _ _ (field (.ref u) 0 >>= _) _ _ _
 apply qa
 refine wpAny_field e0 e2 (x:=.ref z) rfl ?_
 show wpAny _ _ (if (Value.ref z == Value.none)=true then _ else _) _ _ _
 rw [if_neg (show ¬ ((Value.ref z == Value.none)=true) from Bool.false_ne_true)]
 show wpAny _ _ (field (.ref u) 1 >>= _) _ _ _
 apply qa
 refine wpAny_field e0 e2 (x:=.int n 0) rfl ?_
 show wpAny _ _ (seqItems? (.ref z) >>= _) _ _ _
 apply qa
 refine wpAny_seqItems f0 f2 ?_
 simp only [Int.toNat_natCast,hv]
 apply qa
 refine wpAny_setField e0 e2 (by simp) (qb ⟨v,rfl,qb (k _ ⟨_,Heap.get?_update_self _ e0 (Obj.isFreed_of_fields (Obj.data_mapFields e2 _)),(Obj.cls_mapFields ..).trans e1,?_⟩ (Heap.SameBut.update ..))⟩)
 rw [Obj.data_mapFields e2]
 simp [rawInt]
theorem zbs (hh:A.handled=none) (hu:s.heap.IsTupleIter u z n) (hz:s.heap.IsTuple z xs) (hv:xs[n]?=none)
  (k:∀ h' e,Heap.ExtBut u s.heap h'->(∃ o,h'.get? e=some o/\o.cls=.type "StopIteration")->E (.ref e) { s with heap:=h' }):wpAny (model prog w) A (Builtin.SmallTypes.nextOf (.ref u)) Q E s:=by
 obtain ⟨ob,e0,e1,e2⟩:=id hu
 obtain ⟨zb,f0,_,zn,f2⟩:=hz
 unfold Builtin.SmallTypes.nextOf
 apply qa
 refine wpAny_callSpecial?_slot (name:=Str.ofString "__next__") hu.typeIs F.slot_tuple_iterator_next (wpAny_call_entry F.slot_tuple_iterator_next hu.typeIs F.entry_tuple_iterator_next ?_ (F.args_tuple_iterator_next_1 _))
 show wpAny _ _ (field (.ref u) 0 >>= _) _ _ _
 apply qa
 refine wpAny_field e0 e2 (x:=.ref z) rfl ?_
 show wpAny _ _ (if (Value.ref z == Value.none)=true then _ else _) _ _ _
 rw [if_neg (show ¬ ((Value.ref z == Value.none)=true) from Bool.false_ne_true)]
 show wpAny _ _ (field (.ref u) 1 >>= _) _ _ _
 apply qa
 refine wpAny_field e0 e2 (x:=.int n 0) rfl ?_
 show wpAny _ _ (seqItems? (.ref z) >>= _) _ _ _
 apply qa
 refine wpAny_seqItems f0 f2 ?_
 simp only [Int.toNat_natCast,hv]
 apply qa
 apply wpAny_rule
 apply qa
 refine wpAny_setField e0 e2 (by simp) ?_
 show wpAny _ _ (newExc (.type "StopIteration") [] >>= _) _ _ _
 apply qa
 simp only [newExc,newTuple]
 apply qa
 refine wpAny_newObj_type ?_ (by size_fits)
 refine qa (m:=firstArgMember _ _) (wpAny_of_eq (a:=Value.none) (by first | rfl | (simp only [firstArgMember]; rfl)) (wpAny_newObj_type ?_ (by size_fits)))
 simp only [raiseNew]
 apply qa
 refine wpAny_handled ?_
 first | rw [show A.in1.handled=none from hh] | rw [hh]
 exact qa (qb (wpAny_throw (k _ _ (((Heap.SameBut.update ..).extBut.push _).push _) ⟨_,qd _ rfl,rfl⟩)))
end
theorem zcR {prog:Program} {w:World} {A:Around} (hh:A.handled=none) (u z:Addr) (hne:z≠u) (xs:Array Value):
  Draws prog w A u [u,z] xs.size (fun i v=>xs[i]?=some v) (fun i h=>h.IsTupleIter u z i/\h.IsTuple z xs) where
 live:=fun _ _ st=>let ⟨o,e,_⟩:=st.1; ⟨o,e⟩
 frame:=fun _ _ _ st k=>⟨st.1.at fun o e=>k u (by simp) o e,by obtain ⟨o,e,r⟩:=st.2; exact ⟨o,k z (by simp) o e,r⟩⟩
 item:=fun i s Q E hi st k=>zgA st.1 st.2 (v:=xs[i]) (by simp [hi]) fun h' a b=>k _ h' s.toks (by simp [hi]) ⟨a,by obtain ⟨o,e,r⟩:=st.2; exact ⟨o,b.extBut _ _ hne e,r⟩⟩ b
 done:=fun s Q E st k=>zbs hh st.1 st.2 (by simp) k
structure Src (P:Program) (w:World) (K:W.Frag) (J:It) (it:Addr) (tn:Nat->Heap->Prop):Prop where
 live:∀ i h,tn i h->∃ o,h.get? it=some o/\(∀ v,o.data≠.cell v)/\o.cls≠.type "enumerate"/\o.cls≠.type "zip"/\o.cls≠.type "tuple"/\o.cls≠.type "list"
 keep:∀ i h h',tn i h->(∀ o,h.get? it=some o->h'.get? it=some o)->tn i h'
 yl:∀ i H x H',J.yld i H x H'->H'=H
 item:∀ (X:Cx),X.prog=P->X.w=w->X.K=K->∀ (i:Nat) (pins:List (Addr×Obj)) (s:Shared) (σ:St) (H:Hp) (A:Around),A.handled=none->Inv X pins σ H s->tn i s.heap->H it=none->J.go i H->
  ∃ fp n Pr Sx,Draws P w A it fp n Pr Sx/\Sx i s.heap/\i < n/\it∈fp/\(∀ b∈fp,b=it\/(H b≠none/\∃ o,s.heap.get? b=some o/\o.cls=.type "tuple")\/∃ o,s.heap.get? b=some o/\o.cls=.type "list")/\(∀ v,Pr i v->∃ x,RelV x v/\J.yld i H x H)/\∀ h',Sx (i + 1) h'->tn (i + 1) h'
 done:∀ (X:Cx),X.prog=P->X.w=w->X.K=K->∀ (i:Nat) (pins:List (Addr×Obj)) (s:Shared) (σ:St) (H:Hp) (A:Around),A.handled=none->Inv X pins σ H s->tn i s.heap->J.stop i H->∀ (Q:Value->Shared->Prop) (E:Value->Shared->Prop),
  (∀ h' e,Heap.ExtBut it s.heap h'->(∃ o,h'.get? e=some o/\o.cls=.type "StopIteration")->E (.ref e) { s with heap:=h' })->wpAny (model P w) A (Builtin.SmallTypes.nextOf (.ref it)) Q E s
theorem zch {P:Program} {w:World} {K:W.Frag} (a it:Addr):Src P w K (Itl K a) it (fun i h=>h.IsListIter it a i) where
 live:=fun i h st=>by
  obtain ⟨o,e,c,d⟩:=st
  exact ⟨o,e,fun v z=>by (rw [d] at z; cases z),by rw [c]; decide,by rw [c]; decide,by rw [c]; decide,by rw [c]; decide⟩
 keep:=fun i h h' st k=>st.at k
 yl:=fun i H x H' h=>h.1
 item:=by
  intro X hP hw hK i pins s σ H A hh I st hn hg
  subst hP hw hK
  obtain ⟨xs,x,hq,hx⟩:=hg
  obtain ⟨its,rv,p,hz⟩:=I.list hq
  obtain ⟨lo,l1,l2,l3⟩:=id p.isList
  have hne:a≠it:=fun z=>by
   obtain ⟨o,e,c,d⟩:=id st
   rw [<- z,l1] at e
   cases e
   rw [l2] at c
   exact absurd c (by decide)
  have hl:=rv.length
  have hi:i < its.toArray.size:=by
   have:=(qg.mp hx).1
   rw [size_toArray]; lia
  refine ⟨_,_,_,_,Draws.list hh it a hne its.toArray,⟨st,p.isList⟩,hi,by simp,fun b hb=>?_,fun v hv=>?_,fun h' z=>z.1⟩
  ·simp at hb
   rcases hb with rfl | rfl
   ·exact .inl rfl
   ·exact .inr (.inr ⟨lo,l1,l2⟩)
  ·obtain ⟨u,hu,ru⟩:=rv.get hx
   have:u=v:=by
    have hv':its[i]?=some v:=by simpa using hv
    rw [hu] at hv'; exact qf hv'
   subst this
   exact ⟨x,ru,rfl,fun ys hy=>by rw [I.list_inj hy hq]; exact hx⟩
 done:=by
  intro X hP hw hK i pins s σ H A hh I st hg Q E k
  subst hP hw hK
  obtain ⟨xs,hq,hx⟩:=hg
  obtain ⟨its,rv,p,hz⟩:=I.list hq
  have hl:=rv.length
  exact wpAny_nextOf_list_end hh st p.isList (by simp; lia) k
def Itu (a:Addr):It:=⟨fun i H=>∃ xs x,H a=some (.tup xs)/\xs[i]?=some x,fun i H x H'=>H'=H/\∀ xs,H a=some (.tup xs)->xs[i]?=some x,fun i H=>∃ xs,H a=some (.tup xs)/\xs.length<=i⟩
theorem zdp {P:Program} {w:World} {K:W.Frag} (a it:Addr):Src P w K (Itu a) it (fun i h=>h.IsTupleIter it a i) where
 live:=fun i h st=>by
  obtain ⟨o,e,c,d⟩:=st
  exact ⟨o,e,fun v z=>by (rw [d] at z; cases z),by rw [c]; decide,by rw [c]; decide,by rw [c]; decide,by rw [c]; decide⟩
 keep:=fun i h h' st k=>st.at k
 yl:=fun i H x H' h=>h.1
 item:=by
  intro X hP hw hK i pins s σ H A hh I st hn hg
  subst hP hw hK
  obtain ⟨xs,x,hq,hx⟩:=hg
  obtain ⟨its,rv,p,hz⟩:=I.tuple (SqT.of hq)
  obtain ⟨lo,l1,l2,l3⟩:=id p
  have hne:a≠it:=fun z=>by rw [z,hn] at hq; cases hq
  have hl:=rv.length
  have hi:i < its.toArray.size:=by
   grind
  refine ⟨_,_,_,_,zcR hh it a hne its.toArray,⟨st,p⟩,hi,by simp,fun b hb=>?_,fun v hv=>?_,fun h' z=>z.1⟩
  ·grind
  ·obtain ⟨u,hu,ru⟩:=rv.get hx
   have:u=v:=by
    grind
   subst this
   exact ⟨x,ru,rfl,fun ys hy=>by rw [hq] at hy; cases hy; exact hx⟩
 done:=by
  intro X hP hw hK i pins s σ H A hh I st hg Q E k
  subst hP hw hK
  obtain ⟨xs,hq,hx⟩:=hg
  obtain ⟨its,rv,p,hz⟩:=I.tuple (SqT.of hq)
  have hl:=rv.length
  exact zbs hh st p (by simp; lia) k
theorem zdc {P:Program} {w:World} {K:W.Frag} (it:Addr) (x:Str) (t:Tok):Src P w K (Its x) it (fun i h=>h.IsStrIter it (strIterType x) x t i) where
 live:=fun i h st=>by
  obtain ⟨o,e,c,d⟩:=st
  have hc:o.cls=.type "str_ascii_iterator"\/o.cls=.type "str_iterator":=by
   rw [c]; unfold strIterType; split
   ·exact .inl rfl
   ·exact .inr rfl
  grind
 keep:=fun i h h' st k=>by
  obtain ⟨o,e,r⟩:=st
  exact ⟨o,k o e,r⟩
 yl:=fun i H x H' h=>h.1
 item:=by
  intro X hP hw hK i pins s σ H A hh I st hn hg
  subst hP hw hK
  have fin:∀ v:Value,(∃ c u,x.cps[i]?=some c/\v=.str ⟨#[c]⟩ u)->∃ y,RelV y v/\(Its x).yld i H y H:=fun v ⟨c,u,e,ev⟩=>⟨.str ⟨#[c]⟩,by rw [ev]; exact ⟨u,rfl⟩,rfl,c,e,rfl⟩
  cases ha:x.cps.all (· < 128)
  ·have e:strIterType x="str_iterator":=by unfold strIterType; rw [ha]; rfl
   rw [e] at st ⊢
   exact ⟨_,_,_,_,Draws.strWide hh it x t,st,hg,by simp,fun b hb=>.inl (by simpa using hb),fin,fun _ z=>z⟩
  ·have e:strIterType x="str_ascii_iterator":=by unfold strIterType; rw [ha]; rfl
   rw [e] at st ⊢
   exact ⟨_,_,_,_,Draws.strAscii hh it x t,st,hg,by simp,fun b hb=>.inl (by simpa using hb),fin,fun _ z=>z⟩
 done:=by
  intro X hP hw hK i pins s σ H A hh I st hg Q E k
  have hn:x.cps[i]?=none:=by
   have:x.cps.size<=i:=hg
   simp [this]
  cases ha:x.cps.all (· < 128)
  ·have e:strIterType x="str_iterator":=by unfold strIterType; rw [ha]; rfl
   rw [e] at st
   exact wpAny_nextOf_wide_end hh st hn k
  ·have e:strIterType x="str_ascii_iterator":=by unfold strIterType; rw [ha]; rfl
   rw [e] at st
   exact wpAny_nextOf_ascii_end hh st hn k
end FL
end
section
namespace FL
def enumF (k:Nat):List D->List D
 | []=>[]
 | d::l=>.tup [.int k,d]::enumF (k + 1) l
def wEnum (a:WE):WI:=fun U Q E=>a U (fun r U1=>need (give r U1) fun p=>need (items p.1.toD) fun l=>Q (enumF 0 l) p.2) E
def zipD:List D->List D->List D
 | d::l,e::m=>.tup [d,e]::zipD l m
 | _,_=>[]
def wZip (a b:WE):WI:=fun U Q E=>a U (fun r U1=>b U1 (fun t U2=>need (give r U2) fun p=>need (give t p.2) fun q=>need (items p.1.toD) fun l=>need (items q.1.toD) fun m=>Q (zipD l m) q.2) E) E
theorem zbQ:∀ (l:List D) (k i:Nat) (d:D),(enumF k l)[i]?=some d->∃ e,l[i]?=some e/\d=.tup [.int ((k + i:Nat):Int),e]
 | [],_,_,_,h=>by simp [enumF] at h
 | e::l,k,0,d,h=>by
   simp [enumF] at h
   exact ⟨e,rfl,by simpa using h.symm⟩
 | e::l,k,i + 1,d,h=>by
   obtain ⟨e',h1,h2⟩:=zbQ l (k + 1) i d (by simpa [enumF] using h)
   exact ⟨e',by simpa using h1,by rw [h2]; congr 4; lia⟩
theorem zb0:∀ (l:List D) (k:Nat),(enumF k l).length=l.length
 | [],_=>rfl
 | _::l,k=>by simp [enumF,zb0 l]
theorem zco:∀ (l m:List D) (i:Nat) (d:D),(zipD l m)[i]?=some d->∃ e f,l[i]?=some e/\m[i]?=some f/\d=.tup [e,f]
 | [],_,_,_,h=>by simp [zipD] at h
 | _::_,[],_,_,h=>by simp [zipD] at h
 | e::l,f::m,0,d,h=>by
   simp [zipD] at h
   exact ⟨e,f,rfl,rfl,h.symm⟩
 | e::l,f::m,i + 1,d,h=>by
   obtain ⟨e',f',h1,h2,h3⟩:=zco l m i d (by simpa [zipD] using h)
   exact ⟨e',f',by simpa using h1,by simpa using h2,h3⟩
theorem zcf:∀ (l m:List D),(zipD l m).length=min l.length m.length
 | [],_=>by simp [zipD]
 | _::_,[]=>by simp [zipD]
 | _::l,_::m=>by simp [zipD,zcf l m]
end FL
end
section
namespace FL
open PySem PySem.Spec PyProof.Rows L2
open AutoSeq1 (wpAny_loadPart')
section
variable {X:Cx} {pins:List (Addr×Obj)} {σ:St} {H:Hp} {s:Shared} {h':Heap}
theorem zaG {ch:List Addr} (I:Inv X pins σ H s) (hf:∀ b∈ch,FpOk X pins H b) (k:∀ b o,b∉ch->s.heap.get? b=some o->h'.get? b=some o):Inv X pins σ H { s with heap:=h',toks:=t' }:=by
 have nit:∀ b u,H b=some u->b∉ch:=fun b u e z=>by rw [(hf b z).1] at e; cases e
 refine I.step (g':=s.gens) (d':=s.drawn) (ch:=ch) (fun b hb=>?_) (fun b o _ _ hc e _=>k b o hc e) (fun b o _ _ hc e _=>⟨o.slots,k b o hc e⟩) (fun _ _ _ _ n=>n)
  (fun b o hc e=>⟨o,k b o hc e⟩) (fun _ _ e=>e) (fun _ _ _ e=>e) (fun b ps e=>⟨#[],by rw [e]; simp⟩) (fun m hm=>?_) (fun b u e=>?_) I.bare
 ·obtain ⟨f0,f1,f2,f3,f4,f5⟩:=hf b hb
  exact ⟨f3,f1,f4,f5⟩
 ·obtain ⟨o,es,ep,ho,r⟩:=hm
  exact ⟨o,es,ep,k _ o (fun z=>(hf _ z).2.1 rfl) ho,r⟩
 ·refine (I.hok b u e).stay (fun c v hc q=>k c v ?_ q) (fun _ q=>q) fun _ _ q=>q
  grind
theorem zdP (f:FpOk X pins H b) (h:b≠T):FpOk X pins (L2.upd H T o) b:=⟨by rw [zac h]; exact f.1,f.2⟩
theorem zbd {ch:List Addr} (I:Inv X pins σ H s) (hf:∀ b∈ch,FpOk X pins H b) (hl:∀ b∈ch,b < s.heap.objs.size) (hz:xs.length<=sizeLine) (rv:Vals xs us)
  (hT:∃ o,h'.get? s.heap.objs.size=some o/\o.cls=.type "tuple"/\∃ n,o.data=.seq us.toArray n) (k:∀ b o,b∉ch->s.heap.get? b=some o->h'.get? b=some o):
  Inv X pins σ (L2.upd H s.heap.objs.size (.tup xs)) { s with heap:=h',toks:=t' }:=by
 obtain ⟨o,e,c,n,d⟩:=hT
 have hfree:o.isFreed=false:=by
  obtain ⟨oc,od,odt,osl⟩:=o
  have d':odt=.seq us.toArray n:=d
  subst d'
  rfl
 have I1:Inv X pins σ (L2.upd H s.heap.objs.size (.tup xs)) { s with heap:=s.heap.push o }:=I.laid (t':=s.toks) (fun b u q=>qc _ q) (le_refl _) ⟨hz,us,rv,⟨o,qd _ hfree,c,n,d⟩⟩
 have I2:=zaG I1 (h':=h') (t':=t') (ch:=ch) (fun b hb=>zdP (hf b hb) (ne_of_lt (hl b hb))) fun b u hb q=>by
  rcases Heap.get?_push_cases q with ⟨rfl,rfl⟩ | q
  ·exact e
  ·exact k b u hb q
 exact I2
end
def Ite (J:It):It:=⟨J.go,fun i H x H'=>∃ p y,H p=none/\J.yld i H y H/\x=.ref p/\H'=upd H p (.tup [.int i,y]),J.stop⟩
section
variable {prog:Program} {w:World} {A:Around} {E:Value->Shared->Prop} {s:Shared}
theorem zd7 (he:IsEnum s.heap e it i old) (hd:∀ (Q:Value->Shared->Prop) (E:Value->Shared->Prop),(∀ h' x,Heap.ExtBut it s.heap h'->(∃ o,h'.get? x=some o/\o.cls=.type "StopIteration")->E (.ref x) { s with heap:=h' })->wpAny (model prog w) A.in1 (Builtin.SmallTypes.nextOf (.ref it)) Q E s)
  (hQ:∀ h',Heap.ExtBut it s.heap h'->Q none { s with heap:=h' }):wpAny (model prog w) A (pyNext (.ref e)) Q E s:=by
 have ty:s.TypeIs (.ref e) "enumerate":=⟨_,he,rfl⟩
 unfold pyNext
 apply qa
 apply wpAny_attempt
 refine wpAny_callSpecial?_slot (name:=Str.ofString "__next__") ty F.slot_enumerate_next (wpAny_call_entry F.slot_enumerate_next ty F.entry_enumerate_next ?_ (F.args_enumerate_next_1 _))
 show wpAny _ _ (field (.ref e) 2 >>= _) _ _ _
 apply qa
 refine wpAny_field he rfl (x:=.ref it) rfl (qa (hd _ _ fun h' x hx1 hx2=>?_))
 obtain ⟨o,ho,hc⟩:=hx2
 exact qa (wpAny_isInstance (T:="StopIteration") (b:=true) ⟨o,ho,hc⟩ isSubtype_stop (qb (hQ _ hx1)))
end
theorem zdb {P:Program} {w:World} {K:W.Frag} {J:It} {it e:Addr} {tn:Nat->Heap->Prop} {elts:List Expr} {k:Nat} {pos:Pos} (S:Src P w K J it tn) (hei:e≠it):
  Turn P w K (.Tuple elts k pos) (Ite J) [e,it] e (fun i h=>(∃ old,IsEnum h e it i old)/\tn i h) where
 mem:=by simp
 obj:=fun i h st b hb=>by
  simp at hb
  rcases hb with rfl | rfl
  ·obtain ⟨old,q⟩:=st.1
   exact ⟨_,q,fun v z=>by cases z⟩
  ·obtain ⟨o,h1,h2,_⟩:=S.live i h st.2
   exact ⟨o,h1,h2⟩
 keep:=fun i h h' st kk=>by
  obtain ⟨⟨old,q⟩,t⟩:=st
  exact ⟨⟨old,kk e (by simp) _ q⟩,S.keep i h h' t fun o q=>kk it (by simp) o q⟩
 item:=by
  intro X hP hw hK hc i pins s σ H E I hf st hg
  obtain ⟨⟨old,he⟩,ht⟩:=st
  have hh:X.A.in1.handled=none:=I.ok.hd hc
  obtain ⟨fp,n,Pr,Sx,D,hS,hin,hif,hfp,hv,hs⟩:=S.item X hP hw hK i pins s σ H X.A.in1 hh I ht (hf it (by simp)).1 hg
  have hef:e∉fp:=fun z=>by
   grind
  have hel:e < s.heap.objs.size:=qe he
  obtain ⟨oi,hoi,_⟩:=S.live i _ ht
  have hil:it < s.heap.objs.size:=qe hoi
  subst hP hw hK
  refine wpAny_pyNext_enum_itemD (A:=X.A) D he hS hin hei hef fun x h1 tk hPx ho hS1 hT hsz hk=>?_
  obtain ⟨y,ry,hy⟩:=hv x hPx
  refine ⟨_,rfl,wpAny_letOwnedTupleGo_enum ho fun h2 he2 sb=>?_⟩
  have ne:s.heap.objs.size≠e:=ne_of_gt hel
  have I2:Inv X pins σ (upd H s.heap.objs.size (.tup [.int i,y])) { s with heap:=h2,toks:=tk + 1 }:=zbd I (ch:=[e,it]) (us:=[.int i tk,x]) hf (fun b hb=>by
    simp at hb
    rcases hb with rfl | rfl
    ·exact hel
    ·exact hil) (by show 2<=_; decide) (.cons ⟨_,rfl⟩ (.cons ry .nil)) ⟨_,sb.extBut _ _ ne hT,rfl,_,rfl⟩ fun b o hb q=>by
   simp at hb
   exact sb.extBut _ _ hb.1 (hk b o hb.1 hb.2 q)
  refine ⟨.ref s.heap.objs.size,_,I2,rfl,⟨s.heap.objs.size,y,I.hok.fresh (le_refl _),hy,rfl,rfl⟩,⟨⟨x,by simpa using he2⟩,S.keep _ _ _ (hs _ hS1) fun o q=>sb.extBut _ _ (Ne.symm hei) q⟩,fun b hb=>?_⟩
  simp at hb
  rcases hb with rfl | rfl
  ·rw [zac (ne_of_lt hel)]; exact (hf _ (by simp)).1
  ·rw [zac (ne_of_lt hil)]; exact (hf _ (by simp)).1
 done:=by
  intro X hP hw hK hc i pins s σ H E I hf st hg
  obtain ⟨⟨old,he⟩,ht⟩:=st
  have hh:X.A.in1.handled=none:=I.ok.hd hc
  refine zd7 he (S.done X hP hw hK i pins s σ H X.A.in1 hh I ht hg) fun h' hx=>⟨rfl,zaG I (t':=s.toks) (ch:=[it]) (fun b hb=>hf b (by simp at hb; simp [hb])) fun b o hb q=>hx b o (by simpa using hb) q⟩
 self:=fun A i s Q E st h=>by
  obtain ⟨⟨old,he⟩,_⟩:=st
  exact wpAny_pyIter_enum he h
abbrev enumH (h:Heap) (z:Addr):Heap:=(h.push { cls:=.type "tuple_iterator",data:=.fields #[.ref z,.int 0 0] }).push { cls:=.type "enumerate",data:=.fields #[.none,.bool false,.ref h.objs.size,rawInt 0,.none,.none] }
set_option maxHeartbeats 1000000 in
theorem zcK (z:Addr) (xs:Array Value) (n:Nat) (dd:Option Addr) (sl:Array (Option Value)):Meets (Builtin.«enumerate.__new__» ⟨[.type "enumerate",.ref z],[]⟩) (fun _ R s=>s.heap.get? z=some { cls:=.type "tuple",dict:=dd,data:=.seq xs n,slots:=sl }/\
  R (.ok (.ret (.ref (s.heap.objs.size + 1)))) { s with heap:=enumH s.heap z }):=
 .of_wp fun prog w A R s hyp=>by
  obtain ⟨hp,g,d,tk,os⟩:=s
  obtain ⟨hl,hr⟩:=hyp
  have ss:=sub_enumerate
  have hz:(hp.push { cls:=.type "tuple_iterator",data:=.fields #[.ref z,.int 0 0] }).objs.size=hp.objs.size + 1:=Heap.size_push ..
  have hr':R (.ok (.ret (.ref (hp.push { cls:=.type "tuple_iterator",data:=.fields #[.ref z,.int 0 0] }).objs.size))) { heap:=enumH hp z,gens:=g,drawn:=d,toks:=tk,os:=os }:=by rw [hz]; exact hr
  have hT:Heap.IsTuple (Shared.heap ⟨hp,g,d,tk,os⟩) z xs:=⟨_,hl,rfl,n,rfl⟩
  wp_walk using wpAny_loadPart' hl
  refine wpAny_stack_any fun st=>qb ?_
  split
  ·rename_i c _ _ _ _ _
   cases (c == Value.type "enumerate") <;> (wp_walk using wpAny_loadPart' hl,wpAny_pyIter_tuple hT; exact ⟨_,rfl,hr'⟩)
  ·wp_walk using wpAny_loadPart' hl,wpAny_pyIter_tuple hT
   exact ⟨_,rfl,hr'⟩
theorem zdF (hT:s.heap.IsTuple z xs)
  (k:∀ h',IsEnum h' (s.heap.objs.size + 1) s.heap.objs.size 0 .none->h'.IsTupleIter s.heap.objs.size z 0->(∀ b o,s.heap.get? b=some o->h'.get? b=some o)->Q (.ref (s.heap.objs.size + 1)) { s with heap:=h' }):
  wpAny (model prog w) A (call (.type "enumerate") [.ref z]) Q E s:=by
 obtain ⟨⟨c,dd,dt,sl⟩,hl,hc,n,hd⟩:=hT
 have e1:c=.type "tuple":=hc
 have e2:dt=.seq xs n:=hd
 subst e1 e2
 refine callType_new F.called_enumerate (by decide) (F.typeCall_enumerate_1 _) (F.newCall_enumerate_1 _) (fun obj=>F.args_object_init_2 obj _) F.entry_enumerate_new (zcK z xs n dd sl) ⟨hl,?_⟩
 have hz:(s.heap.push { cls:=.type "tuple_iterator",data:=.fields #[.ref z,.int 0 0] }).objs.size=s.heap.objs.size + 1:=Heap.size_push ..
 have he:IsEnum (enumH s.heap z) (s.heap.objs.size + 1) s.heap.objs.size 0 .none:=by
  have:=qd (s.heap.push { cls:=.type "tuple_iterator",data:=.fields #[.ref z,.int 0 0] }) (o:={ cls:=.type "enumerate",data:=.fields #[.none,.bool false,.ref s.heap.objs.size,rawInt 0,.none,.none] }) rfl
  rw [hz] at this
  exact this
 exact ⟨⟨_,he,rfl⟩,k _ he ⟨_,qc _ (qd _ rfl),rfl,rfl⟩ fun b o x=>qc _ (qc _ x)⟩
def iEnum (K:W.Frag) (tl:TA):TI:=fun σ H R=>tl σ H fun vs H1=>(∃ a,vs=[.ref a]/\(∃ xs,SqL K H1 a xs)/\R (Ite (Itl K a)) H1)\/(∃ a,vs=[.ref a]/\(∃ xs,H1 a=some (.tup xs))/\R (Ite (Itu a)) H1)\/∃ x,vs=[.str x]/\R (Ite (Its x)) H1
section
variable {X:Cx} {elts:List Expr} {kk:Nat} {tpos p pos:Pos} {a:Expr}
theorem zfg (hc:X.calm=true) (hg:Gl X "enumerate") (hm:X.mg "enumerate"=none) (hv:bootBuiltins "enumerate"=some (.type "enumerate")) (hl:PA X [a] tl)
  (hs:starEach [a] X.env=[(false,eval a X.env)]:=by rfl):PI X (.Tuple elts kk tpos) (.Call (.Name "enumerate" p) [a] [] pos) (iEnum X.K tl):=by
 intro pins s σ H R I h
 refine wpAny_Call_Name_kw (zbf I hg hm hv ?_ (by decide) (by decide))
 refine PyProof.Rows.callWith_type1 (thn (hl pos pins s σ H _ I h) fun us s1 zq=>?_) hs rfl
 obtain ⟨vs,H1,I1,r1,q1⟩:=zq
 have fin:∀ {J:It} {tn:Nat->Heap->Prop} {h':Heap},Src X.prog X.w X.K J s1.heap.objs.size tn->R (Ite J) H1->IsEnum h' (s1.heap.objs.size + 1) s1.heap.objs.size 0 .none->tn 0 h'->(∀ b o,s1.heap.get? b=some o->h'.get? b=some o)->
   wpAny (model X.prog X.w) X.A (pyIter (.ref (s1.heap.objs.size + 1))) (PIE X pins σ (.Tuple elts kk tpos) R) X.xe { s1 with heap:=h' }:=fun {J tn h'} S hR he ht kp=>by
  refine wpAny_pyIter_enum (s:={ s1 with heap:=h' }) he ?_
  refine ⟨s1.heap.objs.size + 1,[s1.heap.objs.size + 1,s1.heap.objs.size],_,_,H1,rfl,I1.kept (t':=s1.toks) kp,zdb S (Nat.succ_ne_self _),⟨⟨_,he⟩,ht⟩,fun b hb=>?_,hR⟩
  simp at hb
  rcases hb with rfl | rfl
  ·exact I1.fpOk (le_succ _) (I1.hok.fresh (le_succ _))
  ·exact I1.fpOk (le_refl _) (I1.hok.fresh (le_refl _))
 rcases q1 with ⟨b,e,⟨xs,hq⟩,q⟩ | ⟨b,e,⟨xs,hq⟩,q⟩ | ⟨x,e,q⟩
 ·subst e
  obtain ⟨u,rfl,ru⟩:=vals1 r1
  cases ru
  obtain ⟨its,rv,pl,hz⟩:=I1.list hq
  exact call_enumerate_list pl.isList fun h' he hi _ kp=>fin (zch b _) q he hi kp
 ·subst e
  obtain ⟨u,rfl,ru⟩:=vals1 r1
  cases ru
  obtain ⟨its,rv,pl,hz⟩:=I1.tuple (SqT.of hq)
  exact zdF pl fun h' he hi kp=>fin (zdp b _) q he hi kp
 ·subst e
  obtain ⟨u,rfl,ru⟩:=vals1 r1
  obtain ⟨t,rfl⟩:=ru
  exact call_enumerate_str fun h' he hi _ kp=>fin (zdc _ x t) q he hi kp
theorem zbr {K:W.Frag} (hy:∀ i H x H',J.yld i H x H'->H'=H) (h:ItOk K J l F0):ItOk K (Ite J) (enumF 0 l) F0:=fun i U σ F G H sm rel=>by
 obtain ⟨h1,h2⟩:=h i U σ F G H sm rel
 refine ⟨fun d hd=>?_,fun hl=>h2 (by rw [zb0] at hl; exact hl)⟩
 obtain ⟨e,he,rfl⟩:=zbQ l 0 i d hd
 obtain ⟨g1,g2⟩:=h1 e he
 refine ⟨g1,fun x H' zq=>?_⟩
 obtain ⟨p,y,hp,hyl,ex,eH⟩:=zq
 subst ex eH
 obtain ⟨F',s1,r1,rp⟩:=g2 y H hyl
 obtain ⟨f0,_,_⟩:=r1.free hp
 refine ⟨upd F' p (.tup [.int i,y]),s1.trans (Same.upd f0),r1.newF hp,?_⟩
 have:=Rep.tup (K:=K) (F:=upd F' p (.tup [.int i,y])) (a:=p) (xs:=[.int i,y]) (ds:=[.int i,e]) zaj (.cons (.int i) (.cons (rp.mono (Same.upd f0)) .nil))
 simpa using this
theorem zcn {K:W.Frag} {a:Addr} (e:F0 a=some (.tup xs)) (r:Reps K F0 xs l):ItOk K (Itu a) l F0:=fun i U σ F G H sm rel=>by
 have e':H a=some (.tup xs):=(sm.trans rel.fr) _ _ e
 refine ⟨fun d hd=>?_,fun h=>⟨xs,e',by rw [r.len]; exact h⟩⟩
 obtain ⟨x,hx,rx⟩:=r.get hd
 refine ⟨⟨xs,x,e',hx⟩,fun y H' hy=>?_⟩
 obtain ⟨rfl,hy⟩:=hy
 have:x=y:=qf (hx.symm.trans (hy xs e'))
 subst this
 exact ⟨F,Same.refl F,rel,rx.mono sm⟩
theorem zbT:bootBuiltins "enumerate"=some (.type "enumerate"):=by decide +kernel
theorem zfr (hc:X.calm=true) (hg:Gl X "enumerate") (hm:X.mg "enumerate"=none) (hv:bootBuiltins "enumerate"=some (.type "enumerate")) (ha:FE X a we) (hs:starEach [a] X.env=[(false,eval a X.env)]:=by rfl):
  FI X (.Tuple elts kk tpos) (.Call (.Name "enumerate" p) [a] [] pos) (wEnum we):=fun pn xe hp=>by
 refine PI.imp (zfg (X:=wp X pn xe) hc hg hm hv (zad ha zau hs pn xe hp) hs) fun σ H R q=>?_
 obtain ⟨F,G,U,P,PX,rel,hw,hok,hx⟩:=q
 refine ⟨F,G,U,fun rs U1=>match rs with | [r]=>(need (give r U1) fun p=>need (items p.1.toD) fun l=>P (enumF 0 l) p.2) | _=>False,PX,rel,hw,fun rs U1 vs F1 H1 hk s1 r1 hl rv=>?_,hx⟩
 match rs,vs,rv,r1,hk with
 | [r],[v],rv,r1,hk=>
   dsimp only at hk
   obtain ⟨⟨s,U2⟩,eg,hk⟩:=zab hk
   obtain ⟨l,el,hk⟩:=zab hk
   obtain ⟨F2,s2,l2,r2⟩:=giveR (U':=[]) (σ':=[]) r1 hl rv.1 eg
   obtain ⟨F3,s3,rp,r3⟩:=Rel.giveD (U:=U2) (vs:=[v]) (ss:=[s]) r2 (l2.trans hl)
   have sm:=s1.trans (s2.trans s3)
   cases rp with
   | cons a0 b0=>
     have el':items s.toD=some l:=el
     generalize s.toD=d at a0 el'
     cases a0 with
     | lst e0 r0=>
       cases el'
       exact .inl ⟨_,rfl,⟨_,SqL.mono r3.fr e0⟩,hok _ U2 F3 H1 _ hk sm r3 (zbr (fun _ _ _ _ z=>z.1) (zbp e0 r0))⟩
     | tup e0 r0=>
       cases el'
       exact .inr (.inl ⟨_,rfl,⟨_,r3.fr _ _ e0⟩,hok _ U2 F3 H1 _ hk sm r3 (zbr (fun _ _ _ _ z=>z.1) (zcn e0 r0))⟩)
     | str e0 z0=>
       cases el'
       exact .inr (.inr ⟨_,rfl,hok _ U2 F3 H1 _ hk sm r3 (zbr (fun _ _ _ _ z=>z.1) (zbJ e0))⟩)
     | _=>cases el'
 | [],_,_,_,hk=>exact hk.elim
 | [_],[],rv,_,_=>exact rv.elim
 | [_],_::_::_,rv,_,_=>exact rv.2.elim
 | _::_::_,_,_,_,hk=>exact hk.elim
end
end FL
end
section
namespace FL
open PySem PySem.Spec PyProof.Rows L2
structure ZAp (z TI TO i1 i2:Addr) (f1 f2:List Addr):Prop where
 a1:TI≠z
 a2:TO≠z
 a3:TI≠TO
 a4:TI≠i1
 a5:TI≠i2
 m1:i1∈f1
 m2:i2∈f2
 z1:z∉f1
 z2:z∉f2
 o1:TO∉f1
 o2:TO∉f2
 c1:i1∉f2
 c2:i2∉f1
section
variable {prog:Program} {w:World} {A:Around} {E:Value->Shared->Prop} {s:Shared} {z TI TO i1 i2:Addr} {f1 f2:List Addr}
theorem zah {f:List Addr} (ha:a∈f) (hb:b∉f):a≠b:=fun q=>hb (q ▸ ha)
theorem zfA {Q:Value->Shared->Prop} (Z:ZAp z TI TO i1 i2 f1 f2) (D1:Draws prog w A i1 f1 n1 P1 S1) (D2:Draws prog w A i2 f2 n2 P2 S2)
  (hz:IsZip s.heap z TI TO .none) (hI:IsPair s.heap TI (.ref i1) (.ref i2)) (hO:IsPair s.heap TO a b) (t1:S1 k1 s.heap) (t2:S2 k2 s.heap) (l1:k1 < n1) (l2:k2 < n2)
  (k:∀ x y h' tk,P1 k1 x->P2 k2 y->IsZip h' z TI TO (rawInt s.heap.objs.size)->(∃ c d,IsPair h' TO c d)->S1 (k1 + 1) h'->S2 (k2 + 1) h'->IsPair h' s.heap.objs.size x y->
   (∀ c o,c≠z->c≠TO->c≠i1->c≠i2->s.heap.get? c=some o->h'.get? c=some o)->Q (.ref s.heap.objs.size) { s with heap:=h',toks:=tk }):
  wpAny (model prog w) A (Builtin.«zip.__next__» ⟨[.ref z],[]⟩) (fun fin s'=>∃ v,fin=.done (.ret v)/\Q v s') E s:=by
 have i1z:=zah Z.m1 Z.z1
 have i2z:=zah Z.m2 Z.z2
 have i1o:=zah Z.m1 Z.o1
 have i2o:=zah Z.m2 Z.o2
 have i12:=zah Z.m1 Z.c2
 show wpAny _ _ (field (.ref z) 2 >>= _) _ _ _
 apply qa
 refine wpAny_field hz rfl (x:=.bool false) rfl ?_
 show wpAny _ _ (field (.ref z) 3 >>= _) _ _ _
 apply qa
 refine wpAny_field hz rfl (x:=.ref TI) rfl ?_
 apply qa
 refine wpAny_seqItems hI rfl ?_
 show wpAny _ _ (Builtin.SmallTypes.ownedTupleIsFree (.ref z) >>= _) _ _ _
 apply qa
 unfold Builtin.SmallTypes.ownedTupleIsFree
 apply qa
 refine wpAny_field hz rfl (x:=.none) rfl (qb ?_)
 simp only [if_true]
 apply qa
 apply wpAny_rule
 apply qa
 refine wpAny_field hz rfl (x:=.ref TO) rfl ?_
 apply qa
 refine wpAny_setField_rec hz (by simp) fun ha za sa=>?_
 have za':IsZip ha z TI TO .ellipsis:=za
 apply qa
 simp only [zipIdx_cons,zipIdx_nil,forIn_cons,forIn_nil]
 apply qa
 apply qa
 apply wpAny_onRaise
 show wpAny _ _ (Builtin.SmallTypes.nextOf (.ref i1) >>= _) _ _ _
 apply qa
 have t1a:S1 k1 ha:=D1.frame _ _ _ t1 fun c hc o q=>sa.extBut _ _ (zah hc Z.z1) q
 have t2a:S2 k2 ha:=D2.frame _ _ _ t2 fun c hc o q=>sa.extBut _ _ (zah hc Z.z2) q
 refine D1.item k1 _ _ _ l1 t1a fun x hb tb px t1b sb=>qb ?_
 have hOb:IsPair hb TO a b:=sb.extBut _ _ (Ne.symm i1o) (sa.extBut _ _ Z.a2 hO)
 apply qa
 refine wpAny_seqItems hOb rfl ?_
 apply qa
 refine wpAny_updateSeq_pair hOb fun hc hOc sc=>?_
 have hOc':IsPair hc TO x b:=hOc
 refine qa (wpAny_letGo (qb ?_))
 apply qa
 apply qa
 apply wpAny_onRaise
 show wpAny _ _ (Builtin.SmallTypes.nextOf (.ref i2) >>= _) _ _ _
 apply qa
 have t2c:S2 k2 hc:=D2.frame _ _ _ t2a fun c hcm o q=>sc.extBut _ _ (zah hcm Z.o2) (sb.extBut _ _ (zah hcm Z.c1) q)
 refine D2.item k2 _ _ _ l2 t2c fun y hd td py t2d sd=>qb ?_
 have hOd:IsPair hd TO x b:=sd.extBut _ _ (Ne.symm i2o) hOc'
 apply qa
 refine wpAny_seqItems hOd rfl ?_
 apply qa
 refine wpAny_updateSeq_pair hOd fun he hOe se=>?_
 have hOe':IsPair he TO x y:=hOe
 refine qa (wpAny_letGo (qb (qb ?_)))
 apply qa
 refine wpAny_seqItems hOe' rfl ?_
 apply qa
 refine wpAny_newTuple ?_
 have hsz:he.objs.size=s.heap.objs.size:=by rw [se.1,sd.1,sc.1,sb.1,sa.1]
 have ze:IsZip he z TI TO .ellipsis:=se.extBut _ _ (Ne.symm Z.a2) (sd.extBut _ _ (Ne.symm i2z) (sc.extBut _ _ (Ne.symm Z.a2) (sb.extBut _ _ (Ne.symm i1z) za')))
 have t1e:S1 (k1 + 1) he:=D1.frame _ _ _ t1b fun c hcm o q=>se.extBut _ _ (zah hcm Z.o1) (sd.extBut _ _ (zah hcm Z.c2) (sc.extBut _ _ (zah hcm Z.o1) q))
 have t2e:S2 (k2 + 1) he:=D2.frame _ _ _ t2d fun c hcm o q=>se.extBut _ _ (zah hcm Z.o2) q
 have old:∀ c o,c≠z->c≠TO->c≠i1->c≠i2->s.heap.get? c=some o->he.get? c=some o:=fun c o q1 q2 q3 q4 q=>se.extBut _ _ q2 (sd.extBut _ _ q4 (sc.extBut _ _ q2 (sb.extBut _ _ q3 (sa.extBut _ _ q1 q))))
 have zlt:z < he.objs.size:=qe ze
 show wpAny _ _ (Builtin.SmallTypes.ownedTupleHandOut (.ref z) (.ref he.objs.size) >>= _) _ _ _
 apply qa
 unfold Builtin.SmallTypes.ownedTupleHandOut
 have zf:IsZip (he.push { cls:=.type "tuple",data:=.seq #[x,y] }) z TI TO .ellipsis:=qc _ ze
 apply qa
 refine wpAny_setField_rec zf (by simp) fun hg zg sg=>?_
 have zg':IsZip hg z TI TO (rawInt he.objs.size):=zg
 refine wpAny_setField_rec zg' (by simp) fun hh zh sh=>?_
 have zh':IsZip hh z TI TO (rawInt he.objs.size):=zh
 have up:∀ c o,c≠z->he.get? c=some o->hh.get? c=some o:=fun c o q1 q=>sh.extBut _ _ q1 (sg.extBut _ _ q1 (qc _ q))
 have pT:IsPair hh he.objs.size x y:=sh.extBut _ _ (ne_of_gt zlt) (sg.extBut _ _ (ne_of_gt zlt) (qd _ rfl))
 rw [hsz] at zh' pT
 refine qb ⟨_,rfl,?_⟩
 show Q (.ref he.objs.size) _
 rw [hsz]
 exact k x y hh _ px py zh' ⟨_,_,up _ _ Z.a2 hOe'⟩ (D1.frame _ _ _ t1e fun c hcm o q=>up c o (zah hcm Z.z1) q) (D2.frame _ _ _ t2e fun c hcm o q=>up c o (zah hcm Z.z2) q) pT fun c o q1 q2 q3 q4 q=>up c o q1 (old c o q1 q2 q3 q4 q)
theorem zdN (i1z:i1≠z) (hz:IsZip s.heap z TI TO .none) (hI:IsPair s.heap TI (.ref i1) (.ref i2))
  (d:∀ ha,Heap.SameBut z s.heap ha->∀ (Q:Value->Shared->Prop) (E:Value->Shared->Prop),(∀ h' e,Heap.ExtBut i1 ha h'->(∃ o,h'.get? e=some o/\o.cls=.type "StopIteration")->E (.ref e) { s with heap:=h' })->wpAny (model prog w) A (Builtin.SmallTypes.nextOf (.ref i1)) Q E { s with heap:=ha })
  (k:∀ h' e,(∀ c o,c≠z->c≠i1->s.heap.get? c=some o->h'.get? c=some o)->(∃ o,h'.get? e=some o/\o.cls=.type "StopIteration")->E (.ref e) { s with heap:=h' }):
  wpAny (model prog w) A (Builtin.«zip.__next__» ⟨[.ref z],[]⟩) Q E s:=by
 show wpAny _ _ (field (.ref z) 2 >>= _) _ _ _
 apply qa
 refine wpAny_field hz rfl (x:=.bool false) rfl ?_
 show wpAny _ _ (field (.ref z) 3 >>= _) _ _ _
 apply qa
 refine wpAny_field hz rfl (x:=.ref TI) rfl ?_
 apply qa
 refine wpAny_seqItems hI rfl ?_
 show wpAny _ _ (Builtin.SmallTypes.ownedTupleIsFree (.ref z) >>= _) _ _ _
 apply qa
 unfold Builtin.SmallTypes.ownedTupleIsFree
 apply qa
 refine wpAny_field hz rfl (x:=.none) rfl (qb ?_)
 simp only [if_true]
 apply qa
 apply wpAny_rule
 apply qa
 refine wpAny_field hz rfl (x:=.ref TO) rfl ?_
 apply qa
 refine wpAny_setField_rec hz (by simp) fun ha za sa=>?_
 have za':IsZip ha z TI TO .ellipsis:=za
 apply qa
 simp only [zipIdx_cons,zipIdx_nil,forIn_cons,forIn_nil]
 apply qa
 apply qa
 apply wpAny_onRaise
 show wpAny _ _ (Builtin.SmallTypes.nextOf (.ref i1) >>= _) _ _ _
 apply qa
 refine d ha sa _ _ fun hb e xb st=>?_
 obtain ⟨oe,q1,q2⟩:=st
 have zb:IsZip hb z TI TO .ellipsis:=xb _ _ (Ne.symm i1z) za'
 have ez:e≠z:=fun q=>by subst q; rw [zb] at q1; cases q1; simp at q2
 exact wpAny_setField_rec zb (by simp) fun hc _ sc=>k hc e (fun c o c1 c2 q=>sc.extBut _ _ c1 (xb _ _ c2 (sa.extBut _ _ c1 q))) ⟨oe,sc.extBut _ _ ez q1,q2⟩
theorem zdG (D1:Draws prog w A i1 f1 n1 P1 S1) (m1:i1∈f1) (z1:z∉f1) (o1:TO∉f1) (TOz:TO≠z) (i2z:i2≠z)
  (hz:IsZip s.heap z TI TO .none) (hI:IsPair s.heap TI (.ref i1) (.ref i2)) (hO:IsPair s.heap TO a b) (t1:S1 k1 s.heap) (l1:k1 < n1)
  (d:∀ hc tk,(∀ c o,c≠z->c≠TO->c≠i1->s.heap.get? c=some o->hc.get? c=some o)->∀ (Q:Value->Shared->Prop) (E:Value->Shared->Prop),(∀ h' e,Heap.ExtBut i2 hc h'->(∃ o,h'.get? e=some o/\o.cls=.type "StopIteration")->E (.ref e) { s with heap:=h',toks:=tk })->wpAny (model prog w) A (Builtin.SmallTypes.nextOf (.ref i2)) Q E { s with heap:=hc,toks:=tk })
  (k:∀ h' e tk,(∀ c o,c≠z->c≠TO->c≠i1->c≠i2->s.heap.get? c=some o->h'.get? c=some o)->(∃ o,h'.get? e=some o/\o.cls=.type "StopIteration")->E (.ref e) { s with heap:=h',toks:=tk }):
  wpAny (model prog w) A (Builtin.«zip.__next__» ⟨[.ref z],[]⟩) Q E s:=by
 have i1z:=zah m1 z1
 have i1o:=zah m1 o1
 show wpAny _ _ (field (.ref z) 2 >>= _) _ _ _
 apply qa
 refine wpAny_field hz rfl (x:=.bool false) rfl ?_
 show wpAny _ _ (field (.ref z) 3 >>= _) _ _ _
 apply qa
 refine wpAny_field hz rfl (x:=.ref TI) rfl ?_
 apply qa
 refine wpAny_seqItems hI rfl ?_
 show wpAny _ _ (Builtin.SmallTypes.ownedTupleIsFree (.ref z) >>= _) _ _ _
 apply qa
 unfold Builtin.SmallTypes.ownedTupleIsFree
 apply qa
 refine wpAny_field hz rfl (x:=.none) rfl (qb ?_)
 simp only [if_true]
 apply qa
 apply wpAny_rule
 apply qa
 refine wpAny_field hz rfl (x:=.ref TO) rfl ?_
 apply qa
 refine wpAny_setField_rec hz (by simp) fun ha za sa=>?_
 have za':IsZip ha z TI TO .ellipsis:=za
 apply qa
 simp only [zipIdx_cons,zipIdx_nil,forIn_cons,forIn_nil]
 apply qa
 apply qa
 apply wpAny_onRaise
 show wpAny _ _ (Builtin.SmallTypes.nextOf (.ref i1) >>= _) _ _ _
 apply qa
 have t1a:S1 k1 ha:=D1.frame _ _ _ t1 fun c hc o q=>sa.extBut _ _ (zah hc z1) q
 refine D1.item k1 _ _ _ l1 t1a fun x hb tb px t1b sb=>qb ?_
 have hOb:IsPair hb TO a b:=sb.extBut _ _ (Ne.symm i1o) (sa.extBut _ _ TOz hO)
 apply qa
 refine wpAny_seqItems hOb rfl ?_
 apply qa
 refine wpAny_updateSeq_pair hOb fun hc hOc sc=>?_
 refine qa (wpAny_letGo (qb ?_))
 apply qa
 apply qa
 apply wpAny_onRaise
 show wpAny _ _ (Builtin.SmallTypes.nextOf (.ref i2) >>= _) _ _ _
 apply qa
 refine d hc tb (fun c o c1 c2 c3 q=>sc.extBut _ _ c2 (sb.extBut _ _ c3 (sa.extBut _ _ c1 q))) _ _ fun hd e xd st=>?_
 obtain ⟨oe,q1,q2⟩:=st
 have zd:IsZip hd z TI TO .ellipsis:=xd _ _ (Ne.symm i2z) (sc.extBut _ _ (Ne.symm TOz) (sb.extBut _ _ (Ne.symm i1z) za'))
 have ez:e≠z:=fun q=>by subst q; rw [zd] at q1; cases q1; simp at q2
 exact wpAny_setField_rec zd (by simp) fun he _ se=>k he e tb (fun c o c1 c2 c3 c4 q=>se.extBut _ _ c1 (xd _ _ c4 (sc.extBut _ _ c2 (sb.extBut _ _ c3 (sa.extBut _ _ c1 q))))) ⟨oe,se.extBut _ _ ez q1,q2⟩
end
def Itz (J1 J2:It):It:=⟨fun i H=>J1.go i H/\J2.go i H,fun i H x H'=>∃ p y1 y2,H p=none/\J1.yld i H y1 H/\J2.yld i H y2 H/\x=.ref p/\H'=upd H p (.tup [y1,y2]),fun i H=>J1.stop i H\/(J1.go i H/\J2.stop i H)⟩
theorem zdS {P:Program} {w:World} {K:W.Frag} {J1 J2:It} {z TI TO i1 i2:Addr} {t1 t2:Nat->Heap->Prop} {elts:List Expr} {k:Nat} {pos:Pos} (S1:Src P w K J1 i1 t1) (S2:Src P w K J2 i2 t2) (nd:[z,TI,TO,i1,i2].Nodup):
  Turn P w K (.Tuple elts k pos) (Itz J1 J2) [z,TI,TO,i1,i2] z (fun i h=>IsZip h z TI TO .none/\IsPair h TI (.ref i1) (.ref i2)/\(∃ a b,IsPair h TO a b)/\t1 i h/\t2 i h) where
 mem:=by simp
 obj:=fun i h st b hb=>by
  obtain ⟨hz,hI,⟨a,c,hO⟩,q1,q2⟩:=st
  simp at hb
  rcases hb with rfl | rfl | rfl | rfl | rfl
  ·exact ⟨_,hz,fun v z=>by cases z⟩
  ·exact ⟨_,hI,fun v z=>by cases z⟩
  ·exact ⟨_,hO,fun v z=>by cases z⟩
  ·obtain ⟨o,e1,e2,_⟩:=S1.live i h q1
   exact ⟨o,e1,e2⟩
  ·obtain ⟨o,e1,e2,_⟩:=S2.live i h q2
   exact ⟨o,e1,e2⟩
 keep:=fun i h h' st kk=>by
  obtain ⟨hz,hI,⟨a,c,hO⟩,q1,q2⟩:=st
  exact ⟨kk _ (by simp) _ hz,kk _ (by simp) _ hI,⟨a,c,kk _ (by simp) _ hO⟩,S1.keep i h h' q1 fun o e=>kk _ (by simp) o e,S2.keep i h h' q2 fun o e=>kk _ (by simp) o e⟩
 item:=by
  intro X hP hw hK hc i pins s σ H E I hf st hg
  obtain ⟨hz,hI,⟨a,c,hO⟩,q1,q2⟩:=st
  have hh:X.A.in1.handled=none:=I.ok.hd hc
  obtain ⟨f1,n1,P1,T1,D1,u1,l1,m1,e1,v1,w1⟩:=S1.item X hP hw hK i pins s σ H X.A.in1 hh I q1 (hf i1 (by simp)).1 hg.1
  obtain ⟨f2,n2,P2,T2,D2,u2,l2,m2,e2,v2,w2⟩:=S2.item X hP hw hK i pins s σ H X.A.in1 hh I q2 (hf i2 (by simp)).1 hg.2
  obtain ⟨o1,g1,_,_,_,_,cl1⟩:=S1.live i _ q1
  obtain ⟨o2,g2,_,_,_,_,cl2⟩:=S2.live i _ q2
  simp only [nodup_cons,mem_cons,List.not_mem_nil,or_false,not_or] at nd
  obtain ⟨⟨d1,d2,d3,d4⟩,⟨d5,d6,d7⟩,⟨d8,d9⟩,d10,_⟩:=nd
  have hn:∀ b∈[z,TI,TO,i1,i2],H b=none:=fun b hb=>(hf b hb).1
  have out:∀ {f:List Addr} {it b:Addr} {ob:Obj},(∀ x∈f,x=it\/(H x≠none/\∃ o,s.heap.get? x=some o/\o.cls=.type "tuple")\/∃ o,s.heap.get? x=some o/\o.cls=.type "list")->b≠it->H b=none->s.heap.get? b=some ob->ob.cls≠.type "list"->b∉f:=fun {f it b ob} hf0 n1 n2 g n3 m=>by
   grind
  have zl:Value.type "zip"≠Value.type "list":=by decide
  have tl:Value.type "tuple"≠Value.type "list":=by decide
  have Z:ZAp z TI TO i1 i2 f1 f2:=⟨Ne.symm d1,Ne.symm d2,d5,d6,d7,m1,m2,out e1 d3 (hn z (by simp)) hz zl,out e2 d4 (hn z (by simp)) hz zl,out e1 d8 (hn TO (by simp)) hO tl,out e2 d9 (hn TO (by simp)) hO tl,out e2 d10 (hn i1 (by simp)) g1 cl1,out e1 (Ne.symm d10) (hn i2 (by simp)) g2 cl2⟩
  have lt:∀ b∈[z,TI,TO,i1,i2],b < s.heap.objs.size:=fun b hb=>by
   simp at hb
   rcases hb with rfl | rfl | rfl | rfl | rfl
   ·exact qe hz
   ·exact qe hI
   ·exact qe hO
   ·exact qe g1
   ·exact qe g2
  subst hP hw hK
  have ty:s.TypeIs (.ref z) "zip":=⟨_,hz,rfl⟩
  unfold pyNext
  apply qa
  apply wpAny_attempt
  refine wpAny_callSpecial?_slot (name:=Str.ofString "__next__") ty F.slot_zip_next (wpAny_call_entry F.slot_zip_next ty F.entry_zip_next (zfA Z D1 D2 hz hI hO u1 u2 l1 l2 fun x y h1 tk px py hz1 hO1 t1' t2' hT hk=>?_) (F.args_zip_next_1 _))
  refine qb ⟨_,rfl,?_⟩
  obtain ⟨y1,ry1,hy1⟩:=v1 x px
  obtain ⟨y2,ry2,hy2⟩:=v2 y py
  refine wpAny_letOwnedTupleGo_zip hz1 fun h2 hz2 sb=>?_
  have nT:s.heap.objs.size≠z:=ne_of_gt (qe hz)
  have I2:Inv X pins σ (upd H s.heap.objs.size (.tup [y1,y2])) { s with heap:=h2,toks:=tk }:=zbd I (ch:=[z,TI,TO,i1,i2]) (us:=[x,y]) hf lt (by show 2<=_; decide) (.cons ry1 (.cons ry2 .nil)) ⟨_,sb.extBut _ _ nT hT,rfl,_,rfl⟩ fun b o hb q=>by
   simp at hb
   exact sb.extBut _ _ hb.1 (hk b o hb.1 hb.2.2.1 hb.2.2.2.1 hb.2.2.2.2 q)
  obtain ⟨ca,cb,hO1⟩:=hO1
  refine ⟨.ref s.heap.objs.size,_,I2,rfl,⟨s.heap.objs.size,y1,y2,I.hok.fresh (le_refl _),hy1,hy2,rfl,rfl⟩,⟨hz2,sb.extBut _ _ (Ne.symm d1) (hk _ _ (Ne.symm d1) d5 d6 d7 hI),⟨_,_,sb.extBut _ _ (Ne.symm d2) hO1⟩,S1.keep _ _ _ (w1 _ t1') fun o q=>sb.extBut _ _ (Ne.symm d3) q,S2.keep _ _ _ (w2 _ t2') fun o q=>sb.extBut _ _ (Ne.symm d4) q⟩,fun b hb=>?_⟩
  rw [zac (ne_of_lt (lt b hb))]; exact (hf b hb).1
 done:=by
  intro X hP hw hK hc i pins s σ H E I hf st hg
  obtain ⟨hz,hI,⟨a,c,hO⟩,q1,q2⟩:=st
  have hh:X.A.in1.handled=none:=I.ok.hd hc
  simp only [nodup_cons,mem_cons,List.not_mem_nil,or_false,not_or] at nd
  obtain ⟨⟨d1,d2,d3,d4⟩,⟨d5,d6,d7⟩,⟨d8,d9⟩,d10,_⟩:=nd
  have ty:s.TypeIs (.ref z) "zip":=⟨_,hz,rfl⟩
  have stop:∀ (h':Heap) (e:Addr) (tk:Nat),(∀ b o,b≠z->b≠TO->b≠i1->b≠i2->s.heap.get? b=some o->h'.get? b=some o)->Inv X pins σ H { s with heap:=h',toks:=tk }:=fun h' e tk hk=>zaG I (ch:=[z,TI,TO,i1,i2]) hf fun b o hb q=>by
   grind
  unfold pyNext
  apply qa
  apply wpAny_attempt
  rcases hg with hg | ⟨hg1,hg2⟩
  ·refine wpAny_callSpecial?_slot (name:=Str.ofString "__next__") ty F.slot_zip_next (wpAny_call_entry F.slot_zip_next ty F.entry_zip_next (zdN (Ne.symm d3) hz hI (fun ha sa=>?_) fun h' e hk st=>?_) (F.args_zip_next_1 _))
   ·have Ia:Inv X pins σ H { s with heap:=ha }:=zaG I (t':=s.toks) (ch:=[z]) (fun b hb=>hf b (by simp at hb; simp [hb])) fun b o hb q=>sa.extBut _ _ (by simpa using hb) q
    exact S1.done X hP hw hK i pins { s with heap:=ha } σ H X.A.in1 hh Ia (S1.keep _ _ _ q1 fun o q=>sa.extBut _ _ (Ne.symm d3) q) hg
   ·obtain ⟨o,r1,r2⟩:=st
    exact qa (wpAny_isInstance (T:="StopIteration") (b:=true) ⟨o,r1,r2⟩ isSubtype_stop (qb ⟨rfl,stop h' e s.toks fun b o c1 c2 c3 c4 q=>hk b o c1 c3 q⟩))
  ·obtain ⟨f1,n1,P1,T1,D1,u1,l1,m1,e1,v1,w1⟩:=S1.item X hP hw hK i pins s σ H X.A.in1 hh I q1 (hf i1 (by simp)).1 hg1
   have hn:∀ b∈[z,TI,TO,i1,i2],H b=none:=fun b hb=>(hf b hb).1
   have out:∀ {f:List Addr} {it b:Addr} {ob:Obj},(∀ x∈f,x=it\/(H x≠none/\∃ o,s.heap.get? x=some o/\o.cls=.type "tuple")\/∃ o,s.heap.get? x=some o/\o.cls=.type "list")->b≠it->H b=none->s.heap.get? b=some ob->ob.cls≠.type "list"->b∉f:=fun {f it b ob} hf0 n1 n2 g n3 m=>by
    grind
   have zl:Value.type "zip"≠Value.type "list":=by decide
   have tl:Value.type "tuple"≠Value.type "list":=by decide
   have X1:=hP
   have X2:=hw
   subst hP hw
   refine wpAny_callSpecial?_slot (name:=Str.ofString "__next__") ty F.slot_zip_next (wpAny_call_entry F.slot_zip_next ty F.entry_zip_next (zdG D1 m1 (out e1 d3 (hn z (by simp)) hz zl) (out e1 d8 (hn TO (by simp)) hO tl) (Ne.symm d2) (Ne.symm d4) hz hI hO u1 l1 (fun hc2 tk sa=>?_) fun h' e tk hk st=>?_) (F.args_zip_next_1 _))
   ·have Ia:Inv X pins σ H { s with heap:=hc2,toks:=tk }:=zaG I (ch:=[z,TO,i1]) (fun b hb=>hf b (by simp at hb; rcases hb with q | q | q <;> simp [q])) fun b o hb q=>by
     simp at hb
     exact sa b o hb.1 hb.2.1 hb.2.2 q
    exact S2.done X rfl rfl hK i pins { s with heap:=hc2,toks:=tk } σ H X.A.in1 hh Ia (S2.keep _ _ _ q2 fun o q=>sa _ _ (Ne.symm d4) (Ne.symm d9) (Ne.symm d10) q) hg2
   ·obtain ⟨o,r1,r2⟩:=st
    exact qa (wpAny_isInstance (T:="StopIteration") (b:=true) ⟨o,r1,r2⟩ isSubtype_stop (qb ⟨rfl,stop h' e tk hk⟩))
 self:=fun A i s Q E st h=>wpAny_pyIter_zip st.1 h
def MkIt (v:Value) (o:Obj) (s:Shared):Prop:=∀ (prog:Program) (w:World) (A:Around) (Q:Value->Shared->Prop) (E:Value->Shared->Prop),Q (.ref s.heap.objs.size) { s with heap:=s.heap.push o }->wpAny (model prog w) A (pyIter v) Q E s
abbrev zA (h:Heap) (o1:Obj):Heap:=h.push o1
abbrev zB (h:Heap) (o1 o2:Obj):Heap:=(zA h o1).push o2
abbrev zC (h:Heap) (o1 o2:Obj):Heap:=(zB h o1 o2).push { cls:=.type "tuple",data:=.seq #[.ref h.objs.size,.ref (zA h o1).objs.size] }
abbrev zD (h:Heap) (o1 o2:Obj):Heap:=(zC h o1 o2).push { cls:=.type "tuple",data:=.seq #[.none,.none] }
abbrev zE (h:Heap) (o1 o2:Obj):Heap:=(zD h o1 o2).push { cls:=.type "zip",data:=.fields #[.none,.bool false,.bool false,.ref (zB h o1 o2).objs.size,.ref (zC h o1 o2).objs.size] }
theorem zeZ (v1 v2:Value) (o1 o2:Obj):Meets (Builtin.«zip.__new__» ⟨[.type "zip",v1,v2],[]⟩) (fun _ R s=>MkIt v1 o1 s/\MkIt v2 o2 { s with heap:=zA s.heap o1 }/\R (.ok (.ret (.ref (zD s.heap o1 o2).objs.size))) { s with heap:=zE s.heap o1 o2 }):=
 .of_wp fun prog w A R s hyp=>by
  obtain ⟨hp,g,d,tk,os⟩:=s
  obtain ⟨k1,k2,hr⟩:=hyp
  have ss:=sub_zip
  have k1':=fun (A:Around) (Q:Value->Shared->Prop) (E:Value->Shared->Prop)=>k1 prog w A Q E
  have k2':=fun (A:Around) (Q:Value->Shared->Prop) (E:Value->Shared->Prop)=>k2 prog w A Q E
  wp_walk using k1',k2'
  exact ⟨_,rfl,hr⟩
theorem zfF (m1:MkIt v1 o1 s) (m2:MkIt v2 o2 { s with heap:=zA s.heap o1 }) (f1:o1.isFreed=false) (f2:o2.isFreed=false)
  (k:∀ h',IsZip h' (s.heap.objs.size + 4) (s.heap.objs.size + 2) (s.heap.objs.size + 3) .none->IsPair h' (s.heap.objs.size + 2) (.ref s.heap.objs.size) (.ref (s.heap.objs.size + 1))->IsPair h' (s.heap.objs.size + 3) .none .none->
   h'.get? s.heap.objs.size=some o1->h'.get? (s.heap.objs.size + 1)=some o2->(∀ c o,s.heap.get? c=some o->h'.get? c=some o)->Q (.ref (s.heap.objs.size + 4)) { s with heap:=h' }):
  wpAny (model prog w) A (call (.type "zip") [v1,v2]) Q E s:=by
 refine callType_new F.called_zip (by decide) (F.typeCall_zip_2 _ _) (F.newCall_zip_2 _ _) (fun obj=>F.args_object_init_3 obj _ _) F.entry_zip_new (zeZ v1 v2 o1 o2) ⟨m1,m2,?_⟩
 have q1:(zA s.heap o1).objs.size=s.heap.objs.size + 1:=Heap.size_push ..
 have q2:(zB s.heap o1 o2).objs.size=s.heap.objs.size + 2:=by rw [Heap.size_push,q1]
 have q3:(zC s.heap o1 o2).objs.size=s.heap.objs.size + 3:=by rw [Heap.size_push,q2]
 have q4:(zD s.heap o1 o2).objs.size=s.heap.objs.size + 4:=by rw [Heap.size_push,q3]
 have g5:(zE s.heap o1 o2).get? (zD s.heap o1 o2).objs.size=some _:=qd _ rfl
 have g4:(zE s.heap o1 o2).get? (zC s.heap o1 o2).objs.size=some _:=qc _ (qd _ rfl)
 have g3:(zE s.heap o1 o2).get? (zB s.heap o1 o2).objs.size=some _:=qc _ (qc _ (qd _ rfl))
 have g2:(zE s.heap o1 o2).get? (zA s.heap o1).objs.size=some o2:=qc _ (qc _ (qc _ (qd _ f2)))
 have g1:(zE s.heap o1 o2).get? s.heap.objs.size=some o1:=qc _ (qc _ (qc _ (qc _ (qd _ f1))))
 show _/\_
 rw [q2,q3,q4] at g5
 rw [q1,q2] at g3
 rw [q3] at g4
 rw [q1] at g2
 rw [q4]
 exact ⟨⟨_,g5,rfl⟩,k _ g5 g3 g4 g1 g2 fun c o x=>qc _ (qc _ (qc _ (qc _ (qc _ x))))⟩
def SrcV (X:Cx) (H:Hp) (v:V) (J:It):Prop:=(∃ a xs,v=.ref a/\SqL X.K H a xs/\J=Itl X.K a)\/(∃ a xs,v=.ref a/\H a=some (.tup xs)/\J=Itu a)\/∃ x,v=.str x/\J=Its x
theorem zc6 (I:Inv X pins σ H s) (r:RelV v u) (h:SrcV X H v J):
  ∃ o:Obj,MkIt u o s/\o.isFreed=false/\∀ it,∃ tn,Src X.prog X.w X.K J it tn/\∀ h':Heap,h'.get? it=some o->tn 0 h':=by
 rcases h with ⟨a,xs,rfl,hq,rfl⟩ | ⟨a,xs,rfl,hq,rfl⟩ | ⟨x,rfl,rfl⟩
 ·cases r
  obtain ⟨its,rv,pl,hz⟩:=I.list hq
  exact ⟨{ cls:=.type "list_iterator",data:=.fields #[.ref a,.int 0 0] },fun prog w A Q E k=>wpAny_pyIter_list pl.isList k,rfl,fun it=>⟨_,zch a it,fun h' e=>⟨_,e,rfl,rfl⟩⟩⟩
 ·cases r
  obtain ⟨its,rv,pl,hz⟩:=I.tuple (SqT.of hq)
  exact ⟨{ cls:=.type "tuple_iterator",data:=.fields #[.ref a,.int 0 0] },fun prog w A Q E k=>wpAny_pyIter_tuple pl k,rfl,fun it=>⟨_,zdp a it,fun h' e=>⟨_,e,rfl,rfl⟩⟩⟩
 ·obtain ⟨t,rfl⟩:=r
  exact ⟨{ cls:=.type (strIterType x),data:=.fields #[.str x t,.int 0 0] },fun prog w A Q E k=>wpAny_pyIter_strU k,rfl,fun it=>⟨_,zdc it x t,fun h' e=>⟨_,e,rfl,rfl⟩⟩⟩
def iZip (X:Cx) (tl:TA):TI:=fun σ H R=>tl σ H fun vs H1=>∃ v1 v2 J1 J2,vs=[v1,v2]/\SrcV X H1 v1 J1/\SrcV X H1 v2 J2/\R (Itz J1 J2) H1
section
variable {X:Cx} {elts:List Expr} {kk:Nat} {tpos p pos:Pos} {a b:Expr}
theorem zgJ (hc:X.calm=true) (hg:Gl X "zip") (hm:X.mg "zip"=none) (hv:bootBuiltins "zip"=some (.type "zip")) (hl:PA X [a,b] tl)
  (hs:starEach [a,b] X.env=[(false,eval a X.env),(false,eval b X.env)]:=by rfl) (hs2:starEach [b] X.env=[(false,eval b X.env)]:=by rfl):PI X (.Tuple elts kk tpos) (.Call (.Name "zip" p) [a,b] [] pos) (iZip X tl):=by
 intro pins s σ H R I h
 refine wpAny_Call_Name_kw (zbf I hg hm hv ?_ (by decide) (by decide))
 refine PyProof.Rows.callWith_type1 (thn (hl pos pins s σ H _ I h) fun us s1 zq=>?_) (by rw [hs,hs2]) (by rw [hs2]; rfl)
 obtain ⟨vs,H1,I1,r1,q1⟩:=zq
 obtain ⟨v1,v2,J1,J2,rfl,k1,k2,q⟩:=q1
 cases r1 with
 | cons ra rb=>
   cases rb with
   | cons rb rn=>
     cases rn
     obtain ⟨o1,m1,f1,g1⟩:=zc6 I1 ra k1
     have I2:Inv X pins σ H1 { s1 with heap:=zA s1.heap o1 }:=I1.kept (t':=s1.toks) fun _ _ e=>qc _ e
     obtain ⟨o2,m2,f2,g2⟩:=zc6 I2 rb k2
     refine zfF m1 m2 f1 f2 fun h' hz hI hO e1 e2 kp=>?_
     obtain ⟨t1,S1,b1⟩:=g1 s1.heap.objs.size
     obtain ⟨t2,S2,b2⟩:=g2 (s1.heap.objs.size + 1)
     refine wpAny_pyIter_zip (s:={ s1 with heap:=h' }) hz ?_
     have lt:∀ k:Nat,s1.heap.objs.size<=s1.heap.objs.size + k:=fun k=>Nat.le_add_right _ _
     refine ⟨s1.heap.objs.size + 4,[s1.heap.objs.size + 4,s1.heap.objs.size + 2,s1.heap.objs.size + 3,s1.heap.objs.size,s1.heap.objs.size + 1],_,_,H1,rfl,I1.kept (t':=s1.toks) kp,zdS S1 S2 ?_,⟨hz,hI,⟨_,_,hO⟩,b1 h' e1,b2 h' e2⟩,fun c hcm=>?_,q⟩
     ·simp
     ·simp at hcm
      rcases hcm with rfl | rfl | rfl | rfl | rfl
      ·exact I1.fpOk (lt 4) (I1.hok.fresh (lt 4))
      ·exact I1.fpOk (lt 2) (I1.hok.fresh (lt 2))
      ·exact I1.fpOk (lt 3) (I1.hok.fresh (lt 3))
      ·exact I1.fpOk (lt 0) (I1.hok.fresh (lt 0))
      ·exact I1.fpOk (lt 1) (I1.hok.fresh (lt 1))
theorem zed {K:W.Frag} (h1:ItOk K J1 l F0) (h2:ItOk K J2 m F0):ItOk K (Itz J1 J2) (zipD l m) F0:=fun i U σ F G H sm rel=>by
 obtain ⟨p1,p2⟩:=h1 i U σ F G H sm rel
 obtain ⟨q1,q2⟩:=h2 i U σ F G H sm rel
 refine ⟨fun d hd=>?_,fun hl=>?_⟩
 ·obtain ⟨e,f,he,hf,rfl⟩:=zco l m i d hd
  obtain ⟨g1,g2⟩:=p1 e he
  obtain ⟨g3,g4⟩:=q1 f hf
  refine ⟨⟨g1,g3⟩,fun x H' zq=>?_⟩
  obtain ⟨p,y1,y2,hp,hy1,hy2,ex,eH⟩:=zq
  subst ex eH
  obtain ⟨F1,s1,r1,rp1⟩:=g2 y1 H hy1
  obtain ⟨F2,s2,r2,rp2⟩:=(h2 i U σ F1 G H (sm.trans s1) r1).1 f hf |>.2 y2 H hy2
  obtain ⟨f0,_,_⟩:=r2.free hp
  exact ⟨upd F2 p (.tup [y1,y2]),(s1.trans s2).trans (Same.upd f0),r2.newF hp,.tup (xs:=[y1,y2]) zaj (.cons ((rp1.mono s2).mono (Same.upd f0)) (.cons (rp2.mono (Same.upd f0)) .nil))⟩
 ·rw [zcf] at hl
  by_cases h:l.length<=i
  ·exact .inl (p2 h)
  ·have hlt:i < l.length:=by lia
   exact .inr ⟨(p1 l[i] (qh hlt)).1,q2 (by lia)⟩
theorem zgL:bootBuiltins "zip"=some (.type "zip"):=by decide +kernel
theorem zcV (sm:Same F H) (r:Rep X.K F v d) (e:items d=some l):∃ J,SrcV (wp X pn xe) H v J/\ItOk X.K J l F:=by
 cases r with
 | lst e0 r0=>
   cases e
   exact ⟨_,.inl ⟨_,_,rfl,SqL.mono sm e0,rfl⟩,zbp e0 r0⟩
 | tup e0 r0=>
   cases e
   exact ⟨_,.inr (.inl ⟨_,_,rfl,sm _ _ e0,rfl⟩),zcn e0 r0⟩
 | str e0 z0=>
   cases e
   exact ⟨_,.inr (.inr ⟨_,rfl,rfl⟩),zbJ e0⟩
 | _=>cases e
theorem zgl (hc:X.calm=true) (hg:Gl X "zip") (hm:X.mg "zip"=none) (hv:bootBuiltins "zip"=some (.type "zip")) (ha:FE X a wa) (hb:FE X b wb) (hs:starEach [a,b] X.env=[(false,eval a X.env),(false,eval b X.env)]:=by rfl) (hs2:starEach [b] X.env=[(false,eval b X.env)]:=by rfl):
  FI X (.Tuple elts kk tpos) (.Call (.Name "zip" p) [a,b] [] pos) (wZip wa wb):=fun pn xe hp=>by
 refine PI.imp (zgJ (X:=wp X pn xe) hc hg hm hv (zad ha (zad hb zau hs2) (by rw [hs,hs2]) pn xe hp) hs hs2) fun σ H R q=>?_
 obtain ⟨F,G,U,P,PX,rel,hw,hok,hx⟩:=q
 refine ⟨F,G,U,fun rs U1=>match rs with | [r,t]=>(need (give r U1) fun p=>need (give t p.2) fun q=>need (items p.1.toD) fun l=>need (items q.1.toD) fun m=>P (zipD l m) q.2) | _=>False,PX,rel,hw,fun rs U1 vs F1 H1 hk s1 r1 hl rv=>?_,hx⟩
 match rs,vs,rv,r1,hk with
 | [r,t],[v,u],rv,r1,hk=>
   dsimp only at hk
   obtain ⟨⟨s,U2⟩,eg,hk⟩:=zab hk
   obtain ⟨⟨s',U3⟩,eg',hk⟩:=zab hk
   obtain ⟨l,el,hk⟩:=zab hk
   obtain ⟨m,em,hk⟩:=zab hk
   obtain ⟨F2,s2,ss,e3,l3,r3⟩:∃ F2,Same F1 F2/\∃ ss,ss=[s,s']/\U3.length=U1.length/\Rel X.K (U3++ss.map some) (σ++[v,u].map some) F2 G H1:=by
    have e:giveAll [r,t] U1=some ([s,s'],U3):=by
     show (match give r U1 with | some (s,U1)=>(match giveAll [t] U1 with | some (ss,U2)=>some (s::ss,U2) | none=>none) | none=>none)=_
     rw [eg]
     show (match (match give t U2 with | some (s,U1)=>some ([s],U1) | none=>none) with | some (ss,U2)=>some (s::ss,U2) | none=>none)=_
     rw [eg']
    obtain ⟨F2,s2,l2,z,r2⟩:=zaO (rs:=[r,t]) (vs:=[v,u]) (U':=[]) (σ':=[]) (by simpa using r1) hl rv e
    exact ⟨F2,s2,_,rfl,by simpa using l2,by simpa using r2⟩
   subst e3
   obtain ⟨F3,s3,rp,r4⟩:=Rel.giveD (U:=U3) (vs:=[v,u]) (ss:=[s,s']) r3 (l3.trans hl)
   have sm:=s1.trans (s2.trans s3)
   cases rp with
   | cons a0 b0=>
     cases b0 with
     | cons b0 n0=>
       obtain ⟨J1,k1,i1⟩:=zcV (pn:=pn) (xe:=xe) r4.fr a0 el
       obtain ⟨J2,k2,i2⟩:=zcV (pn:=pn) (xe:=xe) r4.fr b0 em
       exact ⟨v,u,J1,J2,rfl,k1,k2,hok _ U3 F3 H1 _ hk sm r4 (zed i1 i2)⟩
 | [],_,_,_,hk=>exact hk.elim
 | [_],_,_,_,hk=>exact hk.elim
 | [_,_],[],rv,_,_=>exact rv.elim
 | [_,_],[_],rv,_,_=>exact rv.2.elim
 | [_,_],_::_::_::_,rv,_,_=>exact rv.2.2.elim
 | _::_::_::_,_,_,_,hk=>exact hk.elim
end
end FL
end
section
namespace FL
end FL
end
section
namespace FL
open PySem PySem.Spec PyProof.Rows L2
section
variable {κ:Type} [DecidableEq κ] {kd:κ->D} (inj:∀ a b,kd a=kd b->a=b)
include inj
end
end FL
end
section
namespace FL
end FL
end
section
namespace FL
open PySem PySem.Spec PyProof.Rows L2
end FL
end
section
namespace FL
end FL
end
section
namespace FL
open PySem PySem.Spec PyProof.Rows L2
end FL
end
section
namespace FL
open PySem PySem.W PyProof.Rows
end FL
end
section
namespace FL
open PySem PySem.Spec PyProof.Rows L2
section
open HT
end
section
open PySem.W HT
variable {prog:Program} {w:World} {A:Around} {s:Shared} {b:Bool} {Q:Bool->Shared->Prop} {κ:SortKind}
end
section
open PySem.W HT
variable {X:Cx} {pins:List (Addr×Obj)} {σ:List (Option V)} {H:Hp} {s:Shared}
def rest (h₀:Heap) (L:Addr) (h:Heap):List (Addr×Obj):=(List.range h.objs.size).filterMap fun b=>if b=L then none else if (h₀.get? b).isSome then none else (h.get? b).map fun o=>(b,o)
end
end FL
end
section
namespace FL
end FL
end
section
namespace FL
open PySem PySem.Spec PyProof.Rows L2
open HT
end FL
end
section
namespace FL
open PySem PySem.Spec PyProof.Rows L2
end FL
end
section
namespace FL
def wFrz (a:WE):WE:=fun U Q E=>a U (fun r U1=>need (give r U1) fun p=>Q (.v (.sh p.1.toD)) p.2) E
def wFz (i:Nat) (w:WS):WS:=fun D U=>w { D with nx:=fun U1=>need (slot U1 i) fun s=>D.nx (U1.set i (some (.sh s.toD))) } U
mutual
def okSh:D->Bool
 | .non=>true
 | .bl _=>true
 | .int i=>decide (-1000000000000 < i) && decide (i < 1000000000000)
 | .str l=>l.all fun c=>decide (c < 1114112)
 | .tup l=>okShs l
 | .lst l=>okShs l
 | _=>false
def okShs:List D->Bool
 | []=>true
 | d::r=>okSh d && okShs r
end
mutual
def wtD:D->Nat
 | .int _=>41
 | .str l=>l.length
 | .tup l=>wtDs l
 | .lst l=>wtDs l
 | _=>0
def wtDs:List D->Nat
 | []=>0
 | d::r=>wtD d + 1 + wtDs r
end
def oMulA (p q:D):Option S:=match p,q with
 | .str x,.int n=>if 0<=n/\n<=1000/\x.length<=500 then some (.sh (.str (List.replicate n.toNat x).flatten)) else none
 | p,q=>oMul p q
end FL
end
section
namespace FL
open PySem PySem.Spec PyProof.Rows L2
section
variable {K:W.Frag} {F H G:Hp} {σ:St} {U:Env}
theorem Rel.frzEnd (r:Rel K (U++[some s]) (σ++[some v]) F G H) (h:U.length=σ.length):∃ F',Same F F'/\Rel K (U++[some (.sh s.toD)]) (σ++[some v]) F' G H:=by
 obtain ⟨u,F',e1,sm,rp,r'⟩:=r.give (i:=U.length) (s:=s) zay
 rw [show (U++[some s]).set U.length (some (S.sh s.toD))=U++[some (S.sh s.toD)] from zbw] at r'
 exact ⟨F',sm,r'⟩
end
section
variable {X:Cx} {e:Expr} {we:WE} {ks:List Nat} {st:Stmt} {w:WS}
theorem zeq (he:FE X e we):FE X e (wFrz we):=fun pn xe hp=>by
 refine PE.imp (he pn xe hp) fun σ H Q q=>?_
 obtain ⟨F,G,U,P,PX,rel,hw,hok,hx⟩:=q
 refine ⟨F,G,U,_,PX,rel,hw,fun r U1 v F1 H1 hk s1 r1 rv=>?_,hx⟩
 obtain ⟨⟨s,U2⟩,eg,hk⟩:=zab hk
 obtain ⟨F2,s2,l2,r2⟩:=giveR (U':=[]) (σ':=[]) r1 (len1 r1) rv eg
 obtain ⟨F3,s3,r3⟩:=Rel.frzEnd r2 (len1 r2)
 exact hok _ U2 v F3 H1 hk (s1.trans (s2.trans s3)) r3 trivial
theorem zfS (h:FS X ks st w):FS X ks st (wFz i w):=fun pn xe hp=>by
 refine PS.imp (h pn xe hp) fun D σ H q=>?_
 obtain ⟨F,G,U,E,rel,hw,n,b,c,r,x⟩:=q
 refine ⟨F,G,U,_,rel,hw,fun U' σ' F' H' hk kp sm rel'=>?_,b,c,r,x⟩
 obtain ⟨s,es,hk⟩:=zab hk
 obtain ⟨v,F2,_,s2,_,r2⟩:=rel'.give es
 exact n _ σ' F2 H' hk kp (sm.trans s2) r2
end
end FL
end
section
namespace FL
open PySem PySem.Spec PyProof.Rows
end FL
end
section
namespace FL
open PySem PySem.Spec PyProof.Rows L2
theorem zde (h1:-1000000000000 < i) (h2:i < 1000000000000):i.natAbs.log2 < 40:=by
 have:i.natAbs < 2 ^ 40:=by lia
 by_cases h0:i.natAbs=0
 ·rw [h0]; decide
 ·exact (Nat.log2_lt h0).mpr this
mutual
theorem zds:∀ d:D,okSh d=true->showD d=true
 | .non,_=>rfl
 | .bl _,_=>rfl
 | .int i,h=>by
   have h':(decide (-1000000000000 < i) && decide (i < 1000000000000))=true:=h
   rw [and_eq_true,decide_eq_true_eq,decide_eq_true_eq] at h'
   have:=zde h'.1 h'.2
   show decide (i.natAbs.log2 < 1920)=true
   rw [decide_eq_true_eq]; lia
 | .str _,_=>rfl
 | .tup l,h=>za7 l h
 | .lst l,h=>za7 l h
 | .dct _ _ _,h=>by cases h
 | .set _,h=>by cases h
 | .exc _ _ _,h=>by cases h
theorem za7:∀ l:List D,okShs l=true->showDs l=true
 | [],_=>rfl
 | d::r,h=>by
   rw [okShs,and_eq_true] at h
   rw [showDs,zds d h.1,za7 r h.2]
   rfl
end
mutual
theorem zca:∀ d:D,okSh d=true->(toPy d).leavesShort 13=true
 | .non,_=>rfl
 | .bl _,_=>rfl
 | .int i,h=>by
   have h':(decide (-1000000000000 < i) && decide (i < 1000000000000))=true:=h
   rw [and_eq_true,decide_eq_true_eq,decide_eq_true_eq] at h'
   have:=int_text_length_le10 (a:=i) (k:=12) (by decide) (by lia)
   simp only [toPy,PyData.leavesShort,decide_eq_true_eq]
   show (Str.ofString (toString i)).length<=13
   rw [PySem.ofString_length]
   exact this
 | .str l,h=>by
   have h':(l.all fun c=>decide (c < 1114112))=true:=h
   simp only [toPy,PyData.leavesShort,all_eq_true,decide_eq_true_eq] at h' ⊢
   intro c hc
   have:=h' c (by simpa using hc)
   lia
 | .tup l,h=>by
   simp only [toPy,PyData.leavesShort]
   exact zaJ l h
 | .lst l,h=>by
   simp only [toPy,PyData.leavesShort]
   exact zaJ l h
 | .dct _ _ _,h=>by cases h
 | .set _,h=>by cases h
 | .exc _ _ _,h=>by cases h
theorem zaJ:∀ l:List D,okShs l=true->PyData.leavesShortAll 13 (toPys l)=true
 | [],_=>rfl
 | d::r,h=>by
   rw [okShs,and_eq_true] at h
   simp only [toPys,PyData.leavesShortAll,and_eq_true]
   exact ⟨zca d h.1,zaJ r h.2⟩
end
mutual
theorem zcc:∀ d:D,okSh d=true->(toPy d).weight<=wtD d
 | .non,_=>le_refl _
 | .bl _,_=>le_refl _
 | .int i,h=>by
   have h':(decide (-1000000000000 < i) && decide (i < 1000000000000))=true:=h
   rw [and_eq_true,decide_eq_true_eq,decide_eq_true_eq] at h'
   have:=zde h'.1 h'.2
   simp only [toPy,PyData.weight,wtD]
   split <;> lia
 | .str l,h=>by simp [toPy,PyData.weight,wtD]
 | .tup l,h=>by
   simp only [toPy,PyData.weight,wtD]
   exact zaH l h
 | .lst l,h=>by
   simp only [toPy,PyData.weight,wtD]
   exact zaH l h
 | .dct _ _ _,h=>by cases h
 | .set _,h=>by cases h
 | .exc _ _ _,h=>by cases h
theorem zaH:∀ l:List D,okShs l=true->PyData.weightAll (toPys l)<=wtDs l
 | [],_=>le_refl _
 | d::r,h=>by
   rw [okShs,and_eq_true] at h
   have h1:=zcc d h.1
   have h2:=zaH r h.2
   simp only [toPys,PyData.weightAll,wtDs]
   lia
end
section
variable {X:Cx} {K:W.Frag} {a b:Expr} {wa wb:WE} {pos:Pos}
theorem zbR (a:Array Nat):∀ (n:Nat) (b:Array Nat),((List.replicate n a).foldl (·++·) b).toList=b.toList++(List.replicate n a.toList).flatten
 | 0,b=>by simp
 | n + 1,b=>by
   rw [List.replicate_succ,List.foldl_cons,zbR a n,List.replicate_succ,List.flatten_cons,Array.toList_append,append_assoc]
theorem zgK (h0:0<=n):(Txt.mul x n).cps.toList=(List.replicate n.toNat x.cps.toList).flatten:=by
 unfold Txt.mul
 by_cases h1:n < 1
 ·rw [if_pos h1,show n=0 by lia]; rfl
 ·rw [if_neg h1]
  by_cases h2:(n == 1 || x.length == 0)=true
  ·rw [if_pos h2]
   rw [Bool.or_eq_true,beq_iff_eq,beq_iff_eq] at h2
   rcases h2 with h2 | h2
   ·subst h2; simp
   ·have:x.cps.toList=[]:=by
     have e:x.cps.size=0:=h2
     rw [<- List.length_eq_zero_iff,length_toList]; exact e
    rw [this]; simp
  ·rw [if_neg h2]
   show ((List.replicate n.toNat x.cps).foldl (·++·) #[]).toList=_
   rw [zbR]; simp
def rMulS:R2:=fun x y H Q=>∃ z n,x=.str z/\y=.int n/\0<=n/\n<=1000/\z.length<=500/\Q (.str (Txt.mul z n)) H
theorem zfe:OpR X (binaryOp .Mult) rMulS:=by
 intro pins s σ H x y v u Q I rx ry h
 obtain ⟨z,n,rfl,rfl,h0,h1,hz,q⟩:=h
 obtain ⟨t,rfl⟩:=rx
 obtain ⟨t',rfl⟩:=ry
 refine SB.mul ⟨?_,fun h _=>?_,fun h _=>?_⟩ fun t2 k=>⟨.str _,H,I.kept fun _ _ z=>z,⟨_,rfl⟩,q⟩
 ·grind
 ·have h3:(9223372036854775807:Int) / 1000<=(2 ^ 63 - 1) / n:=by
   rw [Int.le_ediv_iff_mul_le (by lia)]
   grind
  grind
 ·have h4:z.length * n.toNat<=500 * 1000:=Nat.mul_le_mul hz (by lia)
  simp only [Builtin.Str.tooLong,decide_eq_false_iff_not,sizeLine_eq]
  lia
theorem zc0:Does K (fun x y H Q=>(rI CMul fun i j=>.int (i * j)) x y H Q\/rMulS x y H Q) oMulA:=by
 intro σ U F G H x y p q s Q rel rx ry e hq
 unfold oMulA at e
 split at e
 ·rename_i l n
  split at e
  ·rename_i hc
   cases e
   obtain ⟨h0,h1,hz⟩:=hc
   obtain ⟨z,rfl,e1,_⟩:=rx.str
   have ey:y=.int n:=by
    rcases ry with ry | ⟨_,_,_,_,e,_⟩ | ⟨_,_,_,_,_,e,_⟩ | ⟨_,_,_,_,_,e,_⟩
    ·cases ry; rfl
    ·cases e
    ·cases e
    ·cases e
   subst ey
   have hzl:z.length=l.length:=by rw [<- e1,length_toList]; rfl
   refine .inr ⟨z,n,rfl,rfl,h0,h1,by lia,?_⟩
   refine hq _ F H (Same.refl F) (rel.push (.str ?_ ?_))
   ·rw [zgK h0,e1]
   ·have h4:n.toNat * l.length<=1000 * 500:=Nat.mul_le_mul (by lia) hz
    have e5:∀ m,((List.replicate m l).flatten).length=m * l.length:=fun m=>by simp [List.length_flatten]
    rw [e5]; lia
  ·cases e
 ·exact .inl (zd3 σ U F G H x y _ _ s Q rel rx ry e hq)
theorem zaS (ha:FE X a wa) (hb:FE X b wb):FE X (.BinOp a .Mult b pos) (wBin oMulA wa wb):=zbt (fun _ _=>OpR.or zg7 zfe) zc0 ha hb
end
end FL
end
section
namespace FL
end FL
end
section
namespace FL
open PySem PySem.Spec PyProof.Rows L2
end FL
end
section
namespace FL
end FL
end
section
namespace FL
open PySem PySem.Spec PyProof.Rows L2
end FL
end
section
namespace FL
end FL
end
section
namespace FL
open PySem PySem.Spec PyProof.Rows L2
def dO (K:W.Frag) (f:Addr):FuncData:=match K.lookup f with
 | some ⟨_,_,.func d,_⟩=>d
 | _=>default
theorem ze8 {K:W.Frag} (l:K.lookup f=some ⟨oc,od,.func d,sl⟩):dO K f=d:=by unfold dO; rw [l]
inductive Lk (K:W.Frag) (n:Str) (st:Stmt) (f:Addr):Prop
 | mk {oc kV dc pm cd ct:Value} {od an:Option Addr} {sl:Array (Option Value)} (a:W.nsIn K mainGlobals n=some (some (.ref f))) (l:K.lookup f=some ⟨oc,od,.func (W.fnOf n n (defArgs st) (defBody st) (defScope st) .none kV dc pm an cd ct),sl⟩)
   (c:W.codeIn K cd n=true) (k:W.keepIn K (.ref f)=true):Lk K n st f
structure Tx (K:W.Frag) (mg:Str->Option Value) (f:Addr) (n:Str) (st:Stmt) (ps:List Str):Prop where
 F:Fun K n n st f (dO K f)
 m:mg n=some (.ref f)
 k:W.keepIn K (.ref f)=true
 b:Binds K (dO K f) ps []
def Bd0 (n:Str) (st:Stmt) (ps:List Str):Prop:=∀ (kV doc pm:Value) (an:Option Addr) (cdv ct:Value) (us:List Value),us.length=ps.length->bindArgs (W.fnOf n n (defArgs st) (defBody st) (defScope st) .none kV doc pm an cdv ct) ⟨us,[]⟩=pure (ps.zip us)
section
variable {K:W.Frag} {mg:Str->Option Value} {f:Addr} {n:Str} {st:Stmt} {ps:List Str} {h:Heap}
theorem Lk.mm (t:Lk K n st f) (X:K.In h) (G:h.Ns mainGlobals mg):mg n=some (.ref f):=by
 obtain ⟨a,l,c,k⟩:=t
 exact W.mg_of X G a
theorem Lk.tx (t:Lk K n st f) (X:K.In h) (G:h.Ns mainGlobals mg) (b:Bd0 n st ps:=by intro _ _ _ _ _ _ us hl; first | (obtain ⟨_,rfl⟩:=vlen1 (l:=us) hl; rfl) | (obtain ⟨_,_,rfl⟩:=vlen2 (l:=us) hl; rfl) | (obtain ⟨_,_,_,rfl⟩:=vlen3 (l:=us) hl; rfl) | (obtain ⟨_,_,_,_,rfl⟩:=vlen4 (l:=us) hl; rfl) | (obtain ⟨_,_,_,_,_,rfl⟩:=vlen5 (l:=us) hl; rfl)):Tx K mg f n st ps:=by
 obtain ⟨a,l,c,k⟩:=t
 have e:=ze8 l
 have F:=zeH l c k
 refine ⟨?_,W.mg_of X G a,k,?_⟩
 ·rw [e]; exact F
 ·rw [e]; exact F.binds b
theorem Lk.bt (t:Lk K n st f) (s:Shared) (v:Value) (b:Bd0 n st [x]:=by intro _ _ _ _ _ _ us hl; obtain ⟨_,rfl⟩:=vlen1 (l:=us) hl; rfl):BindsTo s (dO K f) ⟨[v],[]⟩ [(x,v)]:=by
 obtain ⟨a,l,c,k⟩:=t
 have e:=ze8 l
 rw [e]
 exact .of_eq (b _ _ _ _ _ _ [v] rfl)
end
section
variable {X:Cx} {ks:List Nat} {pos:Pos} {x:Str}
theorem fw (i:Nat) (hN:X.N[i]?=some x:=by rfl) (hv:Vis X.env.scope x:=by first | exact Or.inl rfl | exact Or.inr (Or.inl rfl) | exact Or.inr (Or.inr rfl)) (hd:(x == ("__debug__":Str))=false:=by decide)
  (hcd:(x == ("__classdict__":Str))=false:=by decide):FE X (.Name x pos) (wVar i):=zfC hN hv hd hcd
theorem gnm (i:Nat) (hnd:X.N.Nodup) (hk:i∉ks:=by decide) (hi:X.N[i]?=some x:=by rfl) (hx:Loc X.env.scope x:=by first | exact Or.inl rfl | exact Or.inr rfl) (hf:X.fn x=true\/X.env.scope.names.lookup x=some .local:=by exact Or.inl rfl):FG X ks (.Name x pos) (FL.gName i):=zcS hk (fun j hj=>zba hnd hj hi) hi hx hf
theorem gcm (i:Nat) (hk:i∉ks:=by decide) (hu:(X.N.zipIdx.all fun p=>!(p.1 == x) || p.2 == i)=true:=by kernel_rfl) (hi:X.N[i]?=some x:=by rfl) (hx:Loc X.env.scope x:=by first | exact Or.inl rfl | exact Or.inr rfl) (hf:X.fn x=true\/X.env.scope.names.lookup x=some .local:=by first | exact Or.inr rfl | exact Or.inl rfl):FG X ks (.Name x pos) (FL.gName i):=zcS hk (uq hu) hi hx hf
variable {k j n:Nat} {f:Addr} {ps:List Str} {st:Stmt} {wf:WF} {wa:WA} {e:Expr} {es:List Expr} {p:Pos}
theorem fcl (ms:List Bool) (t:Tx X.K X.mg f x st ps) (Fk:FnOk X.prog X.w X.K X.mg X.base (CXe X.prog X.w) k f (dO X.K f) ps (spW X.K wf n)) (hr:Room j X.A) (ha:FA X (e::es) wa) (hj:k<=j:=by decide) (hg:Gl X x:=by rfl) (hlen:∀ ss P PX,wf ss P PX->ss.length=n:=by exact fun _ _ _ h=>h.1)
  (hdb:(x == ("__debug__":Str))=false:=by decide) (he:starEach (e::es) X.env=(false,eval e X.env)::starEach es X.env:=by rfl) (hpl:(backTo pos (starEach es X.env)).any (·.1)=false:=by rfl):
  FE X (.Call (.Name x p) (e::es) [] pos) (wCall wf ms wa):=ze4 Fk (hr.mono hj) hg t.m t.k t.b ha hlen hdb he hpl
end
inductive Ci (K:W.Frag) (C Wb f:Addr) (q n:Str) (st:Stmt):Prop
 | mk {dd od an:Option Addr} {nm qn:Str} {bs sub:List Value} {ns:Addr} {sn:List Str} {ab:Bool} {col:Option Bool} {k0 k1 k2 k3 k5:Option Value} {oc kV dc pm cd ct:Value} {sl:Array (Option Value)}
   (a:K.lookup C=some (excClassObj nm qn C ns bs (.ref Wb::bmVE) true sn sub ab col dd k0 k1 k2 k3 k5 neVE))
   (i:W.findIn K (.ref C) "__init__"=some (some (.ref f)))
   (l:K.lookup f=some ⟨oc,od,.func (W.fnOf "__init__" q (defArgs st) (defBody st) (defScope st) .none kV dc pm an cd ct),sl⟩)
   (c:W.codeIn K cd q=true) (k:W.keepIn K (.ref f)=true) (t:W.typeIn K (.ref f)=some (.type "function"))
   (s:W.findIn K (.ref C) "__setattr__"=some (some (.builtin "object.__setattr__"))) (z:W.findIn K (.ref C) n=some none):Ci K C Wb f q n st
structure Ix (K:W.Frag) (C Wb f:Addr) (q n:Str) (st:Stmt) (ps:List Str):Prop where
 e:ExI K C Wb f n
 F:Fun K "__init__" q st f (dO K f)
 b:Binds K (dO K f) ps []
theorem Ci.ix {K:W.Frag} {C Wb f:Addr} {q n:Str} {st:Stmt} {ps:List Str} (t:Ci K C Wb f q n st) (w:W.excIn K Wb bmVE neVE=true)
  (b:∀ (kV doc pm:Value) (an:Option Addr) (cdv ct:Value) (us:List Value),us.length=ps.length->bindArgs (W.fnOf "__init__" q (defArgs st) (defBody st) (defScope st) .none kV doc pm an cdv ct) ⟨us,[]⟩=pure (ps.zip us):=by intro _ _ _ _ _ _ us hl; (obtain ⟨_,_,rfl⟩:=vlen2 (l:=us) hl; rfl)):Ix K C Wb f q n st ps:=by
 obtain ⟨a,i,l,c,k,t,s,z⟩:=t
 have e:=ze8 l
 have F:=zeH l c k
 refine ⟨⟨⟨_,_,_,_,_,_,_,_,_,_,_,_,_,_,a⟩,w,i,t,s,z⟩,?_,?_⟩
 ·rw [e]; exact F
 ·rw [e]; exact F.binds b
end FL
end
section
namespace FL
end FL
end
section
namespace FL
open PySem PySem.Spec PyProof.Rows L2
section
open PySem.W HT
variable {prog:Program} {w:World} {A:Around} {s:Shared} {b:Bool} {Q:Bool->Shared->Prop}
end
end FL
end
section
namespace FL
end FL
end
section
namespace FL
open PySem PySem.Spec PyProof.Rows L2
end FL
end
section
namespace TS
open PySem PyProof.Rows
end TS
end
section
namespace FL
open PySem PySem.Spec PyProof.Rows L2 PySem.W
end FL
end
section
namespace FL
open PySem PySem.Spec PyProof.Rows L2
open PySem.Builtin.Str (strSliceIndices)
end FL
end
section
namespace FL
open PySem PySem.Spec PyProof.Rows L2
end FL
end
section
namespace ST
open PySem
section
variable {prog:Program} {w:World} {A:Around} {E:Value->Shared->Prop} {s:Shared} {Q:Value->Shared->Prop}
variable {K:Type} [DecidableEq K] {knd:KeyKind prog w K} {a:Addr} {xs:List (K×Value)} {ld:Bool}
end
end ST
namespace FL
open PySem PySem.Spec PyProof.Rows L2
end FL
end
section
namespace FL
section
variable {U U1 U2:Env} {Q:WQ} {QT:Bool->Env->Prop} {QA:List R->Env->Prop} {QI:List D->Env->Prop} {QE:Env->Prop} {E:WX} {a b c:WE} {t u:WT} {wa:WA} {r x y:R} {rs:List R} {s:S} {ss:List S} {d p q:D} {i j n m k:Nat} {o:D->D->Option S} {oc oc':D->D->Option Bool}
theorem e_C:wC d U Q E=Q (.v (.sh d)) U:=rfl
def kV (o:Option S) (Q:WQ) (U:Env):Prop:=need o fun s=>Q (.v s) U
theorem e_V:kV (some s) Q U=Q (.v s) U:=rfl
def kBin3 (o:D->D->Option S) (x y:Option D) (Q:WQ) (U:Env):Prop:=need x fun p=>need y fun q=>kV (o p q) Q U
def kBin2 (o:D->D->Option S) (x:R) (Q:WQ):WQ:=fun y U2=>kBin3 o (viewC x U2) (viewC y U2) Q U2
def kBin1 (o:D->D->Option S) (b:WE) (Q:WQ) (E:WX):WQ:=fun x U1=>b U1 (kBin2 o x Q) E
theorem zim:wBin o a b U Q E=a U (kBin1 o b Q E) E:=rfl
theorem zfX:kBin1 o b Q E x U=b U (kBin2 o x Q) E:=rfl
def kC (o:Option Bool) (Q:Bool->Env->Prop) (U:Env):Prop:=need o fun c=>Q c U
theorem e_Ck {c:Bool}:kC (some c) QT U=QT c U:=rfl
def kCmp3 (o:D->D->Option Bool) (x y:Option D) (Q:Bool->Env->Prop) (U:Env):Prop:=need x fun p=>need y fun q=>kC (o p q) Q U
def kCmp2 (o:D->D->Option Bool) (x:R) (Q:Bool->Env->Prop):WQ:=fun y U2=>kCmp3 o (view x U2) (view y U2) Q U2
def kCmp1 (o:D->D->Option Bool) (b:WE) (Q:Bool->Env->Prop) (E:WX):WQ:=fun x U1=>b U1 (kCmp2 o x Q) E
theorem zih:wCmp oc a b U QT E=a U (kCmp1 oc b QT E) E:=rfl
theorem zg4:kCmp1 oc b QT E x U=b U (kCmp2 oc x QT) E:=rfl
theorem zfM:kCmp3 oc (some p) (some q) QT U=kC (oc p q) QT U:=rfl
def kTest2 (x:Option D) (Q:Bool->Env->Prop) (U:Env):Prop:=need x fun p=>kC (truth p) Q U
def kTest (Q:Bool->Env->Prop):WQ:=fun x U=>kTest2 (view x U) Q U
theorem zgg:wTest a U QT E=a U (kTest QT) E:=rfl
theorem zeR:kTest QT x U=kTest2 (view x U) QT U:=rfl
theorem zeN:kTest2 (some p) QT U=kC (truth p) QT U:=rfl
def kOr (b:WT) (Q:Bool->Env->Prop) (E:WX):Bool->Env->Prop:=fun c U1=>if c then Q true U1 else b U1 Q E
theorem e_Or:wtOr t u U QT E=t U (kOr u QT E) E:=rfl
theorem zh2:kOr u QT E false U=u U QT E:=rfl
def kNot (Q:Bool->Env->Prop):Bool->Env->Prop:=fun c U1=>Q (!c) U1
theorem zhF:wtNot t U QT E=t U (kNot QT) E:=rfl
theorem zgP {c:Bool}:kNot QT c U=QT (!c) U:=rfl
def kOfT (Q:WQ):Bool->Env->Prop:=fun c U1=>Q (.v (.sh (.bl c))) U1
theorem zh5:wOfT t U Q E=t U (kOfT Q) E:=rfl
theorem zgw {c:Bool}:kOfT Q c U=Q (.v (.sh (.bl c))) U:=rfl
theorem zhG:wNil U QA E=QA [] U:=rfl
def kCons2 (r:R) (Q:List R->Env->Prop):List R->Env->Prop:=fun rs U=>Q (r::rs) U
def kCons1 (b:WA) (Q:List R->Env->Prop) (E:WX):WQ:=fun r U1=>b U1 (kCons2 r Q) E
theorem zgU:wCons a wa U QA E=a U (kCons1 wa QA E) E:=rfl
theorem ze6:kCons1 wa QA E r U=wa U (kCons2 r QA) E:=rfl
theorem ze9:kCons2 r QA rs U=QA (r::rs) U:=rfl
def gA2 (s:S):Option (List S×Env)->Option (List S×Env)
 | some (ss,U)=>some (s::ss,U)
 | none=>none
def gA1 (rs:List R):Option (S×Env)->Option (List S×Env)
 | some (s,U)=>gA2 s (giveAll rs U)
 | none=>none
theorem ziB:giveAll [] U=some ([],U):=rfl
theorem e_gA:giveAll (r::rs) U=gA1 rs (give r U):=by
 rw [giveAll]; unfold gA1
 cases give r U with
 | none=>rfl
 | some z=>obtain ⟨s,U1⟩:=z; show (match giveAll rs U1 with | some (ss,U2)=>some (s::ss,U2) | none=>none)=gA2 s (giveAll rs U1); unfold gA2; rfl
theorem ziT:gA1 rs (some (s,U))=gA2 s (giveAll rs U):=rfl
theorem zhD:gA2 s (some (ss,U))=some (s::ss,U):=rfl
theorem e_gv:give (.v s) U=some (s,U):=rfl
def kTup2 (l:Bool) (x:Option (List S×Env)) (Q:WQ):Prop:=need (if l then x else none) fun p=>Q (.v (.sh (.tup (p.1.map S.toD)))) p.2
def kLst2 (l:Bool) (x:Option (List S×Env)) (Q:WQ):Prop:=need (if l then x else none) fun p=>Q (.v (.lst p.1)) p.2
def lenOk (rs:List R):Bool:=decide (rs.length<=big)
def kTup (Q:WQ):List R->Env->Prop:=fun rs U=>kTup2 (lenOk rs) (giveAll rs U) Q
def kLst (Q:WQ):List R->Env->Prop:=fun rs U=>kLst2 (lenOk rs) (giveAll rs U) Q
theorem zio:wTup wa U Q E=wa U (kTup Q) E:=by unfold wTup kTup kTup2 lenOk; simp
theorem zf0:kTup Q rs U=kTup2 (lenOk rs) (giveAll rs U) Q:=rfl
theorem zgk:kTup2 true (some (ss,U)) Q=Q (.v (.sh (.tup (ss.map S.toD)))) U:=rfl
theorem zhy:wLst wa U Q E=wa U (kLst Q) E:=by unfold wLst kLst kLst2 lenOk; simp
theorem zgE:kLst Q rs U=kLst2 (lenOk rs) (giveAll rs U) Q:=rfl
theorem zgV:kLst2 true (some (ss,U)) Q=Q (.v (.lst ss)) U:=rfl
theorem e_l2:lenOk [r1,r2]=true:=rfl
theorem e_l4:lenOk [r1,r2,r3,r4]=true:=rfl
theorem e_l6:lenOk [r1,r2,r3,r4,r5,r6]=true:=rfl
theorem e_vv:view (.v s) U=some s.toD:=rfl
theorem e_cv:viewC (.v s) U=some s.toD:=rfl
theorem zfN {l:List D}:(l.map S.sh).map S.toD=l:=by
 rw [map_map]; exact List.map_id l
def kIx5 (o:Option S) (Q:WQ) (U:Env):Prop:=match o with | some (.sh d)=>Q (.v (.sh d)) U | _=>False
def kIx4 (o:Option S) (q:D) (Q:WQ) (U:Env):Prop:=match o with | some s=>kIx5 (ixS s q) Q U | none=>False
def kIx3 (x:R) (o:Option D) (Q:WQ) (U:Env):Prop:=need o fun q=>match x with | .v s=>kV (ixS s q) Q U | .loc i=>kIx4 (slot U i) q Q U
def kIx2 (x:R) (Q:WQ):WQ:=fun y U2=>kIx3 x (view y U2) Q U2
def kIx1 (b:WE) (Q:WQ) (E:WX):WQ:=fun x U1=>b U1 (kIx2 x Q) E
theorem e_Ix:wIx a b U Q E=a U (kIx1 b Q E) E:=by
 unfold wIx kIx1 kIx2 kIx3 kIx4 kIx5 kV
 rfl
theorem ziv:kIx1 b Q E x U=b U (kIx2 x Q) E:=rfl
theorem zid:kIx2 x Q y U=kIx3 x (view y U) Q U:=rfl
theorem zg6:kIx3 (.v s) (some q) Q U=kV (ixS s q) Q U:=rfl
theorem zfB:kIx3 (.loc i) (some q) Q U=kIx4 (slot U i) q Q U:=rfl
theorem zhB:kIx4 (some s) q Q U=kIx5 (ixS s q) Q U:=rfl
theorem zhH:kIx5 (some (.sh d)) Q U=Q (.v (.sh d)) U:=rfl
theorem zhn:ixS (.sh (.lst l)) (.int z)=(atI l z).map S.sh:=rfl
theorem ziJ:ixS (.lst l) (.int z)=atI l z:=rfl
theorem zc8 (h0:0<=z) (h:l[z.toNat]?=some v):atI l z=some v:=by
 have:z.toNat < l.length:=(qg.mp h).1
 unfold atI ixN
 rw [if_pos h0,if_pos (by lia)]
 exact h
theorem ziz:atI (v::l) 0=some v:=zc8 (by decide) rfl
theorem zhR:atI (v1::v::l) 1=some v:=zc8 (by decide) rfl
def pA (s:S):Option (List S×Env)->Option (List S×Env)
 | some (ss,U)=>some (s::ss,U)
 | none=>none
theorem e_p0:prep ms [] U=some ([],U):=by cases ms <;> rfl
theorem e_pv:prep (h::ms) (.v s::rs) U=pA s (prep ms rs U):=by rw [prep]; unfold pA; rfl
def pL (i:Nat) (o:Option S) (ms:List Bool) (rs:List R) (U:Env):Option (List S×Env):=match o with
 | some s=>pA s (prep ms rs (U.set i none))
 | none=>none
theorem e_pl:prep (true::ms) (.loc i::rs) U=pL i (slot U i) ms rs U:=by
 rw [prep]; unfold pL pA
 cases slot U i <;> rfl
theorem ziG:pL i (some s) ms rs U=pA s (prep ms rs (U.set i none)):=rfl
theorem e_pA:pA s (some (ss,U))=some (s::ss,U):=rfl
theorem e_b0:back ms [] ss U=U:=by unfold back; cases ss <;> rfl
theorem e_bv {s t:S}:back (h::ms) (.v s::rs) (t::ss) U=back ms rs ss U:=by rw [back]; rfl
theorem e_bl {t:S}:back (true::ms) (.loc i::rs) (t::ss) U=back ms rs ss (U.set i (some t)):=by rw [back]; rfl
def kCret (ms:List Bool) (rs:List R) (U:Env) (Q:WQ):S->List S->Prop:=fun s ss=>Q (.v s) (back ms rs ss U)
def kCex (ms:List Bool) (rs:List R) (U:Env) (E:WX):D->List S->Prop:=fun x ss=>E x (back ms rs ss U)
def kCall2 (f:WF) (ms:List Bool) (rs:List R) (o:Option (List S×Env)) (Q:WQ) (E:WX):Prop:=need o fun p=>f p.1 (kCret ms rs p.2 Q) (kCex ms rs p.2 E)
def kCall (f:WF) (ms:List Bool) (Q:WQ) (E:WX):List R->Env->Prop:=fun rs U=>kCall2 f ms rs (prep ms rs U) Q E
theorem zg5:wCall f ms wa U Q E=wa U (kCall f ms Q E) E:=rfl
theorem zfk:kCall f ms Q E rs U=kCall2 f ms rs (prep ms rs U) Q E:=rfl
theorem zeT:kCall2 f ms rs (some (ss,U)) Q E=f ss (kCret ms rs U Q) (kCex ms rs U E):=rfl
theorem zf3:kCret ms rs U Q s ss=Q (.v s) (back ms rs ss U):=rfl
def vA:Option D->Option (List D)->Option (List D)
 | some d,some ds=>some (d::ds)
 | _,_=>none
def vAll (rs:List R) (U:Env):Option (List D):=match rs with
 | []=>some []
 | r::rs=>vA (viewC r U) (vAll rs U)
theorem zcJ:∀ rs:List R,(rs.mapM fun r=>viewC r U)=vAll rs U
 | []=>rfl
 | r::rs=>by
   rw [List.mapM_cons,zcJ rs,vAll]
   cases viewC r U with
   | none=>rfl
   | some d=>cases vAll rs U <;> rfl
theorem zhg:vAll [] U=some []:=rfl
theorem e_vA:vAll (r::rs) U=vA (viewC r U) (vAll rs U):=rfl
theorem zh7:vA (some d) (some ds)=some (d::ds):=rfl
def kB2 (f:List D->Option S) (o:Option (List D)) (Q:WQ) (U:Env):Prop:=need o fun ds=>kV (f ds) Q U
def kB (f:List D->Option S) (Q:WQ):List R->Env->Prop:=fun rs U=>kB2 f (vAll rs U) Q U
theorem e_B:wB f wa U Q E=wa U (kB f Q) E:=by
 unfold wB kB kB2 kV
 simp only [zcJ]
theorem e_B1:kB f Q rs U=kB2 f (vAll rs U) Q U:=rfl
theorem e_B2:kB2 f (some ds) Q U=kV (f ds) Q U:=rfl
end
section
variable {U U1 U2:Env} {K:Env->Prop} {QI:List D->Env->Prop} {QE:Env->Prop} {E:WX} {Q:WQ} {D':Ends} {a b:WE} {v w:WS} {t:WT} {r x y:R} {s:S} {ss:List S} {d q:D} {i j n m:Nat} {g:WG}
def wNx (D:Ends) (k:Env->Prop):Ends:={ D with nx:=k }
theorem e_nx:(wNx D' K).nx=K:=rfl
theorem e_rt:(wNx D' K).rt=D'.rt:=rfl
theorem e_ex:(wNx D' K).ex=D'.ex:=rfl
theorem zgC:wPass D' U=D'.nx U:=rfl
theorem zhx:wSeq v w D' U=v (wNx D' (w D')) U:=rfl
def kIf (a b:WS) (D:Ends):Bool->Env->Prop:=fun k U=>if k then a D U else b D U
theorem e_If:wIf t v w D' U=t U (kIf v w D') D'.ex:=rfl
theorem zie:kIf v w D' true U=v D' U:=rfl
theorem zis:kIf v w D' false U=w D' U:=rfl
theorem zhp:wRet a D' U=a U D'.rt D'.ex:=rfl
def kAsg2 (g:WG) (D:Ends) (o:Option (S×Env)):Prop:=need o fun p=>g p.1 p.2 D.nx
def kAsg (g:WG) (D:Ends):WQ:=fun r U=>kAsg2 g D (give r U)
theorem zh4:wAsg g a D' U=a U (kAsg g D') D'.ex:=rfl
theorem zf5:kAsg g D' r U=kAsg2 g D' (give r U):=rfl
theorem zgn:kAsg2 g D' (some (s,U))=g s U D'.nx:=rfl
theorem e_gN:gName i s U K=K (U.set i (some s)):=rfl
def kGT (gs:List WG) (d:D) (U:Env) (Q:Env->Prop):Prop:=match d with | .tup ds=>ds.length=gs.length/\gTups gs ds U Q | _=>False
theorem e_gT:gTup gs s U K=kGT gs s.toD U K:=rfl
theorem zhi:kGT gs (.tup ds) U K=(ds.length=gs.length/\gTups gs ds U K):=rfl
def kGTs (gs:List WG) (ds:List D) (Q:Env->Prop):Env->Prop:=fun U=>gTups gs ds U Q
theorem zh0:gTups [] [] U K=K U:=rfl
theorem zhI:gTups (g::gs) (d::ds) U K=g (.sh d) U (kGTs gs ds K):=rfl
theorem zhz:kGTs gs ds K U=gTups gs ds U K:=rfl
def kSet5 (j:Nat) (D:Ends) (x:R) (q:FL.D) (s:S) (o:Option S) (U:Env):Prop:=match x,q,o with
 | .loc k,.int n,some (.lst l)=>k=j/\need (ixN l.length n) fun m=>D.nx (U.set j (some (.lst (l.set m s))))
 | _,_,_=>False
def kSet4 (j:Nat) (D:Ends) (x:R) (o:Option FL.D) (p:Option (S×Env)):Prop:=need o fun q=>need p fun p=>kSet5 j D x q p.1 (slot p.2 j) p.2
def kSet3 (j:Nat) (D:Ends) (r x:R):WQ:=fun y U=>kSet4 j D x (view y U) (give r U)
def kSet2 (j:Nat) (i:WE) (D:Ends) (r:R):WQ:=fun x U=>i U (kSet3 j D r x) D.ex
def kSet1 (j:Nat) (i:WE) (D:Ends):WQ:=fun r U=>wVar j U (kSet2 j i D r) D.ex
theorem ziH:wSetIx j a b D' U=b U (kSet1 j a D') D'.ex:=by unfold wSetIx kSet1 kSet2 kSet3 kSet4 kSet5; rfl
theorem zgW:kSet1 j a D' r U=wVar j U (kSet2 j a D' r) D'.ex:=rfl
theorem zfE:kSet2 j a D' r x U=a U (kSet3 j D' r x) D'.ex:=rfl
theorem zgB:kSet3 j D' r x y U=kSet4 j D' x (view y U) (give r U):=rfl
theorem zgf:kSet4 j D' x (some q) (some (s,U))=kSet5 j D' x q s (slot U j) U:=rfl
theorem zep (h0:0<=z) (h1:z < l.length):kSet5 j D' (.loc j) (.int z) s (some (.lst l)) U=D'.nx (U.set j (some (.lst (l.set z.toNat s)))):=by
 show (j=j/\need (ixN l.length z) _)=_
 unfold ixN
 rw [if_pos h0,if_pos h1,zcQ]
 simp
theorem zfx:kSet5 j D' (.loc j) (.int 0) s (some (.lst [s0,s1])) U=D'.nx (U.set j (some (.lst [s,s1]))):=zep (by decide) (by show (0:Int) < 2; decide)
theorem zfo:kSet5 j D' (.loc j) (.int 1) s (some (.lst [s0,s1])) U=D'.nx (U.set j (some (.lst [s0,s]))):=zep (by decide) (by show (1:Int) < 2; decide)
def kIt3 (o:Option (List D)) (U:Env) (Q:List D->Env->Prop):Prop:=need o fun l=>Q l U
def kIt2 (o:Option (S×Env)) (Q:List D->Env->Prop):Prop:=need o fun p=>kIt3 (items p.1.toD) p.2 Q
def kIt (Q:List D->Env->Prop):WQ:=fun r U=>kIt2 (give r U) Q
theorem e_It:wIter a U QI E=a U (kIt QI) E:=rfl
theorem ziQ:kIt QI r U=kIt2 (give r U) QI:=rfl
theorem zhX:kIt2 (some (s,U)) QI=kIt3 (items s.toD) U QI:=rfl
theorem zhj:kIt3 (some l) U QI=QI l U:=rfl
theorem zhf:items (.lst l)=some l:=rfl
def kEn3 (o:Option (List D)) (U:Env) (Q:List D->Env->Prop):Prop:=need o fun l=>Q (enumF 0 l) U
def kEn2 (o:Option (S×Env)) (Q:List D->Env->Prop):Prop:=need o fun p=>kEn3 (items p.1.toD) p.2 Q
def kEn (Q:List D->Env->Prop):WQ:=fun r U=>kEn2 (give r U) Q
theorem e_En:wEnum a U QI E=a U (kEn QI) E:=rfl
theorem zit:kEn QI r U=kEn2 (give r U) QI:=rfl
theorem zhh:kEn2 (some (s,U)) QI=kEn3 (items s.toD) U QI:=rfl
theorem zhs:kEn3 (some l) U QI=QI (enumF 0 l) U:=rfl
def kZi4 (o p:Option (List D)) (U:Env) (Q:List D->Env->Prop):Prop:=need o fun l=>need p fun m=>Q (zipD l m) U
def kZi3 (s:S) (o:Option (S×Env)) (Q:List D->Env->Prop):Prop:=need o fun q=>kZi4 (items s.toD) (items q.1.toD) q.2 Q
def kZi2 (t:R) (o:Option (S×Env)) (Q:List D->Env->Prop):Prop:=need o fun p=>kZi3 p.1 (give t p.2) Q
def kZi1 (r:R) (Q:List D->Env->Prop):WQ:=fun t U=>kZi2 t (give r U) Q
def kZi (b:WE) (Q:List D->Env->Prop) (E:WX):WQ:=fun r U=>b U (kZi1 r Q) E
theorem e_Zi:wZip a b U QI E=a U (kZi b QI E) E:=rfl
theorem zhr:kZi b QI E r U=b U (kZi1 r QI) E:=rfl
theorem zho:kZi1 r QI x U=kZi2 x (give r U) QI:=rfl
theorem zhK:kZi2 x (some (s,U)) QI=kZi3 s (give x U) QI:=rfl
theorem ziC:kZi3 s' (some (s,U)) QI=kZi4 (items s'.toD) (items s.toD) U QI:=rfl
theorem ziP {l m:List D}:kZi4 (some l) (some m) U QI=QI (zipD l m) U:=rfl
def kR1b (o:Option D) (Q:List D->Env->Prop) (U:Env):Prop:=match o with | some (.int j)=>(-big<=j/\j<=big)/\Q (fromTo 0 j.toNat) U | _=>False
def kR1 (Q:List D->Env->Prop):WQ:=fun r U=>kR1b (view r U) Q U
theorem e_R1:wRange1 a U QI E=a U (kR1 QI) E:=rfl
theorem zil:kR1 QI r U=kR1b (view r U) QI U:=rfl
theorem zh6:kR1b (some (.int z)) QI U=((-big<=z/\z<=big)/\QI (fromTo 0 z.toNat) U):=rfl
def kFor (g:WG) (b:WS) (D:Ends):List FL.D->Env->Prop:=fun l U=>wLoop g b l D U
theorem ziD:wFor it g v D' U=it U (kFor g v D') D'.ex:=rfl
theorem zfK:kFor g v D' l U=wLoop g v l D' U:=rfl
def lpE (g:WG) (b:WS) (xs:List FL.D) (D:Ends):Ends:={ D with nx:=wLoop g b xs D,ct:=wLoop g b xs D,bk:=D.nx }
def kLp (g:WG) (b:WS) (xs:List FL.D) (D:Ends):Env->Prop:=fun U=>b (lpE g b xs D) U
theorem e_Lp:wLoop g v (d::xs) D' U=g (.sh d) U (kLp g v xs D'):=rfl
variable {c:WT} {bb:WB}
def kLCr2 (n:Nat) (o:Option S) (U:Env) (Q:WQ):Prop:=need o fun s=>Q (.v s) (U.take n)
def kLCr (n:Nat) (Q:WQ):Env->Prop:=fun U=>kLCr2 n (slot U n) U Q
def kLCx (n:Nat) (E:WX):WX:=NX
def kLC (n k:Nat) (g:WG) (c:WT) (b:WB) (Q:WQ) (E:WX):List D->Env->Prop:=fun l U=>bLoop g c b l (U++some (.lst [])::List.replicate k none) (kLCr n Q) (kLCx n E)
theorem e_LC:wLC n m it g c bb U Q E=it U (kLC n m g c bb Q E) E:=rfl
theorem zif:kLC n m g c bb Q E l U=bLoop g c bb l (U++some (.lst [])::List.replicate m none) (kLCr n Q) (kLCx n E):=rfl
theorem zhW:kLCr n Q U=kLCr2 n (slot U n) U Q:=rfl
theorem zfT:kLCr2 n (some s) U Q=Q (.v s) (U.take n):=rfl
def kbL3 (g:WG) (c:WT) (b:WB) (xs:List D) (Q:Env->Prop) (E:WX):Env->Prop:=fun U=>bLoop g c b xs U Q E
def kbL2 (g:WG) (c:WT) (b:WB) (xs:List D) (Q:Env->Prop) (E:WX):Bool->Env->Prop:=fun k U=>if k then b U (kbL3 g c b xs Q E) E else bLoop g c b xs U Q E
def kbL (g:WG) (c:WT) (b:WB) (xs:List D) (Q:Env->Prop) (E:WX):Env->Prop:=fun U=>c U (kbL2 g c b xs Q E) E
theorem e_bL:bLoop g c bb (d::xs) U QE E=g (.sh d) U (kbL g c bb xs QE E):=rfl
def kEm3 (n:Nat) (s:S) (o:Option S) (U:Env) (Q:Env->Prop):Prop:=match o with
 | some (.lst l)=>l.length < big/\Q (U.set n (some (.lst (l++[s]))))
 | _=>False
def kEm2 (n:Nat) (o:Option (S×Env)) (Q:Env->Prop):Prop:=need o fun p=>kEm3 n p.1 (slot p.2 n) p.2 Q
def kEm (n:Nat) (Q:Env->Prop):WQ:=fun r U=>kEm2 n (give r U) Q
theorem e_Em:bEmit n a U QE E=a U (kEm n QE) E:=by unfold bEmit kEm kEm2 kEm3; rfl
theorem zhu:kEm n QE r U=kEm2 n (give r U) QE:=rfl
theorem zh1:kEm2 n (some (s,U)) QE=kEm3 n s (slot U n) U QE:=rfl
theorem zik:kEm3 n s (some (.lst l)) U QE=(l.length < big/\QE (U.set n (some (.lst (l++[s]))))):=rfl
theorem zhd:wYes U QT E=QT true U:=rfl
def kFn (o:Option (List S)) (P:S->List S->Prop) (s:S):Prop:=need o fun fs=>P s fs
def kRt2 (n:Nat) (ss:List S) (P:S->List S->Prop) (i:Nat) (o:Option S) (U:Env):Prop:=need o fun s=>if i < n then kFn (finals ss (U.set i (some (.sh s.toD)))) P (.sh s.toD) else kFn (finals ss U) P s
def kRt (n:Nat) (ss:List S) (P:S->List S->Prop):WQ:=fun r U=>match r with
 | .v s=>kFn (finals ss U) P s
 | .loc i=>kRt2 n ss P i (slot U i) U
def fnE (n:Nat) (ss:List S) (P:S->List S->Prop) (PX:D->List S->Prop):Ends where
 nx:=fun U=>kFn (finals ss U) P (.sh .non)
 rt:=kRt n ss P
 bk:=fun _=>False
 ct:=fun _=>False
 ex:=fun x U=>need (finals ss U) fun fs=>PX x fs
variable {P:S->List S->Prop} {PX:D->List S->Prop}
theorem zdz (hl:ss.length=n) (hk:((List.range ss.length).all fun i=>decide (i∈ks))=true) (h:v (fnE n ss P PX) (ss.map some++List.replicate (m - n) none)):wFn n m ks v ss P PX:=by
 refine ⟨hl,fun i s hi=>?_,h⟩
 have:=(qg.mp hi).1
 exact .inl (by simpa using all_eq_true.mp hk i (by simpa using this))
theorem zia:(fnE n ss P PX).rt=kRt n ss P:=rfl
theorem e_Rt:kRt n ss P (.v s) U=kFn (finals ss U) P s:=rfl
theorem e_Fn:kFn (some fs) P s=P s fs:=rfl
def fA (s:S):Option (List S)->Option (List S)
 | some fs=>some (s::fs)
 | none=>none
theorem e_f0:finals [] U=some []:=by cases U <;> rfl
theorem e_fs:finals (.sh d::ss) (o::U)=fA (.sh d) (finals ss U):=by
 rw [finals]; unfold fA; cases finals ss U <;> rfl
theorem e_fl:finals (.lst l::ss) (some s::U)=fA s (finals ss U):=by
 rw [finals]; unfold fA; cases finals ss U <;> rfl
 intro d h; cases h
theorem e_fA:fA s (some fs)=some (s::fs):=rfl
end
section
variable {i j:Int} {x y:List Nat} {l m:List D}
theorem zhO:oAdd (.int i) (.int j)=some (.sh (.int (i + j))):=rfl
theorem zhV:oSub (.int i) (.int j)=some (.sh (.int (i - j))):=rfl
theorem zfV (h:-(2 ^ 64) < i/\i < 2 ^ 64):oMul (.int i) (.int j)=some (.sh (.int (i * j))):=by
 show (if mulOk i j=true then _ else none)=_
 rw [if_pos (by simp only [mulOk,h.1,h.2,decide_true,Bool.and_self,Bool.true_or])]
theorem zhl (h:0 < j):oMod (.int i) (.int j)=some (.sh (.int (i % j))):=if_pos h
theorem zf1 (h:0 < j) (h2:j < 18446744073709551616):oFdiv (.int i) (.int j)=some (.sh (.int (i / j))):=if_pos ⟨h,h2⟩
theorem zhL (h:0<=j/\j<=1000/\i.natAbs < 2 ^ 64):oPow (.int i) (.int j)=some (.sh (.int (i ^ j.toNat))):=if_pos h
theorem e_lt:cLt (.int i) (.int j)=some (decide (i < j)):=rfl
theorem e_gt:cGt (.int i) (.int j)=some (decide (j < i)):=rfl
theorem e_ge:cGe (.int i) (.int j)=some (decide (j<=i)):=rfl
theorem ziO:cEq (.int i) (.int j)=some (decide (i=j)):=by
 unfold cEq
 rw [if_neg (by exact fun z=>Bool.noConfusion (show false=true from z))]
 simp
theorem ziS:truth (.bl b)=some b:=rfl
theorem zfO:bLen [.lst l]=some (.sh (.int l.length)):=rfl
theorem zfz:bInt [.bl b]=some (.sh (.int (if b then 1 else 0))):=rfl
end
section
variable {Q:WQ} {QT:Bool->Env->Prop} {E:WX} {U:Env} {d p q:D} {l m:List S} {t:Bool} {ks:List D} {s:S} {v:Option S} {o:D->D->Option S} {oc:D->D->Option Bool} {j k:Nat} {s0 s1 s2 s3 s4 s5 s6 s7 s8 s9 s10 s11 s12 s13 s14:Option S}
theorem zhQ:wVar 0 (some (.sh d)::U) Q E=Q (.v (.sh d)) (some (.sh d)::U):=rfl
theorem zic:wVar 0 (some (.lst l)::U) Q E=Q (.loc 0) (some (.lst l)::U):=rfl
theorem zh3:slot (v::U) 0=v:=rfl
theorem zhv:List.set (u::U) 0 v=v::U:=rfl
theorem ziw:wVar 1 (s0::some (.sh d)::U) Q E=Q (.v (.sh d)) (s0::some (.sh d)::U):=rfl
theorem zhe:wVar 1 (s0::some (.lst l)::U) Q E=Q (.loc 1) (s0::some (.lst l)::U):=rfl
theorem ziq:slot (s0::v::U) 1=v:=rfl
theorem zhM:List.set (s0::u::U) 1 v=s0::v::U:=rfl
theorem zii:wVar 2 (s0::s1::some (.sh d)::U) Q E=Q (.v (.sh d)) (s0::s1::some (.sh d)::U):=rfl
theorem zhU:slot (s0::s1::v::U) 2=v:=rfl
theorem ziy:List.set (s0::s1::u::U) 2 v=s0::s1::v::U:=rfl
theorem zhA:wVar 3 (s0::s1::s2::some (.sh d)::U) Q E=Q (.v (.sh d)) (s0::s1::s2::some (.sh d)::U):=rfl
theorem ziN:slot (s0::s1::s2::v::U) 3=v:=rfl
theorem zix:List.set (s0::s1::s2::u::U) 3 v=s0::s1::s2::v::U:=rfl
theorem zhC:wVar 4 (s0::s1::s2::s3::some (.sh d)::U) Q E=Q (.v (.sh d)) (s0::s1::s2::s3::some (.sh d)::U):=rfl
theorem zhY:List.set (s0::s1::s2::s3::u::U) 4 v=s0::s1::s2::s3::v::U:=rfl
theorem zhN:wVar 5 (s0::s1::s2::s3::s4::some (.sh d)::U) Q E=Q (.v (.sh d)) (s0::s1::s2::s3::s4::some (.sh d)::U):=rfl
theorem ziI:List.set (s0::s1::s2::s3::s4::u::U) 5 v=s0::s1::s2::s3::s4::v::U:=rfl
theorem ziu:wVar 6 (s0::s1::s2::s3::s4::s5::some (.sh d)::U) Q E=Q (.v (.sh d)) (s0::s1::s2::s3::s4::s5::some (.sh d)::U):=rfl
theorem zib:List.set (s0::s1::s2::s3::s4::s5::u::U) 6 v=s0::s1::s2::s3::s4::s5::v::U:=rfl
theorem zhb:wVar 7 (s0::s1::s2::s3::s4::s5::s6::some (.sh d)::U) Q E=Q (.v (.sh d)) (s0::s1::s2::s3::s4::s5::s6::some (.sh d)::U):=rfl
theorem ziF:List.set (s0::s1::s2::s3::s4::s5::s6::u::U) 7 v=s0::s1::s2::s3::s4::s5::s6::v::U:=rfl
theorem zhw:slot (s0::s1::s2::s3::s4::s5::s6::s7::v::U) 8=v:=rfl
theorem zh9:List.set (s0::s1::s2::s3::s4::s5::s6::s7::u::U) 8 v=s0::s1::s2::s3::s4::s5::s6::s7::v::U:=rfl
theorem ziL:wVar 9 (s0::s1::s2::s3::s4::s5::s6::s7::s8::some (.sh d)::U) Q E=Q (.v (.sh d)) (s0::s1::s2::s3::s4::s5::s6::s7::s8::some (.sh d)::U):=rfl
theorem zhE:List.set (s0::s1::s2::s3::s4::s5::s6::s7::s8::u::U) 9 v=s0::s1::s2::s3::s4::s5::s6::s7::s8::v::U:=rfl
theorem zgS:slot (s0::s1::s2::s3::s4::s5::s6::s7::s8::s9::v::U) 10=v:=rfl
theorem zfW:List.set (s0::s1::s2::s3::s4::s5::s6::s7::s8::s9::u::U) 10 v=s0::s1::s2::s3::s4::s5::s6::s7::s8::s9::v::U:=rfl
theorem zgx:wVar 11 (s0::s1::s2::s3::s4::s5::s6::s7::s8::s9::s10::some (.sh d)::U) Q E=Q (.v (.sh d)) (s0::s1::s2::s3::s4::s5::s6::s7::s8::s9::s10::some (.sh d)::U):=rfl
theorem zg0:List.set (s0::s1::s2::s3::s4::s5::s6::s7::s8::s9::s10::u::U) 11 v=s0::s1::s2::s3::s4::s5::s6::s7::s8::s9::s10::v::U:=rfl
theorem zf2:kBin2 o (.v (.sh p)) Q (.v (.sh q)) U=kV (o p q) Q U:=rfl
theorem zg2:kCmp2 oc (.v (.sh p)) QT (.v (.sh q)) U=kC (oc p q) QT U:=rfl
theorem zfU:kCmp2 oc (.v (.lst l)) QT (.v (.lst m)) U=kCmp3 oc (some (S.lst l).toD) (some (S.lst m).toD) QT U:=rfl
end
section
variable {U U1 U2:Env} {Q:WQ} {QT:Bool->Env->Prop} {QI:List D->Env->Prop} {E:WX} {a b c:WE} {r x y z:R} {s:S} {d p q:D} {i j n m k:Nat} {D':Ends} {v:WS} {l:List D} {z':Int}
def kFz2 (Q:WQ) (o:Option (S×Env)):Prop:=need o fun p=>Q (.v (.sh p.1.toD)) p.2
def kFz (Q:WQ):WQ:=fun r U=>kFz2 Q (give r U)
theorem zhZ:wFrz a U Q E=a U (kFz Q) E:=rfl
theorem zgZ:kFz Q r U=kFz2 Q (give r U):=rfl
theorem zf8:kFz2 Q (some (s,U))=Q (.v (.sh s.toD)) U:=rfl
def kFzN2 (i:Nat) (D:Ends) (o:Option S) (U:Env):Prop:=need o fun s=>D.nx (U.set i (some (.sh s.toD)))
def kFzN (i:Nat) (D:Ends):Env->Prop:=fun U=>kFzN2 i D (slot U i) U
theorem ziM:wFz i v D' U=v (wNx D' (kFzN i D')) U:=rfl
theorem zgD:kFzN i D' U=kFzN2 i D' (slot U i) U:=rfl
theorem zgz:kFzN2 i D' (some s) U=D'.nx (U.set i (some (.sh s.toD))):=rfl
theorem zg3 {z z':Int}:oMulA (.int z) (.int z')=oMul (.int z) (.int z'):=rfl
end
theorem uB {w v:WB} (h:w=v):w U Q E=v U Q E:=by rw [h]
theorem uS {w v:WS} (h:w=v):w D' U=v D' U:=by rw [h]
section
variable {U:Env} {Q:WQ} {QE:Env->Prop} {E:WX} {a b:WE} {x y r:R} {s:S} {q d:D} {n m j:Nat} {l:List D}
variable {fr:D->Option S}
variable {c:WE} {QI:List D->Env->Prop}
end
section
variable {U:Env} {Q:WQ} {E:WX} {D':Ends} {a:WE} {v w:WS} {x:R} {j:Nat} {c:List Nat} {cs kn yes fs:List (List Nat)} {vs:List D} {d:D}
theorem zfy:wRaise c D' U=D'.ex (.exc c [] []) U:=rfl
def kRz1 (c f:List Nat) (D:Ends):WQ:=fun r U=>kRz c f D U (view r U)
theorem e_Rz {f:List Nat}:wRaise1 c f a D' U=a U (kRz1 c f D') D'.ex:=rfl
theorem zhJ {f:List Nat}:kRz1 c f D' x U=kRz c f D' U (view x U):=rfl
theorem ziR {f:List Nat} {i:Int}:kRz c f D' U (some (.int i))=D'.ex (.exc c [f] [.int i]) U:=rfl
def kXF2 (kn:List (List Nat)) (f:List Nat) (o:Option D) (Q:WQ) (U:Env):Prop:=need o fun d=>need (xFld kn f d) fun v=>Q (.v (.sh v)) U
def kXF (kn:List (List Nat)) (f:List Nat) (Q:WQ):WQ:=fun x U=>kXF2 kn f (view x U) Q U
theorem e_XF {f:List Nat}:wXFld kn f a U Q E=a U (kXF kn f Q) E:=rfl
theorem zhq {f:List Nat}:kXF kn f Q x U=kXF2 kn f (view x U) Q U:=rfl
theorem zh8 {f g:List Nat} (h:(kn.contains c && g == f)=true):kXF2 kn f (some (.exc c [g] [d])) Q U=Q (.v (.sh d)) U:=by
 show need (if (kn.contains c && g == f)=true then some d else none) _=_
 rw [if_pos h]
 rfl
def yTry (j:Nat) (D:Ends):Ends:={ nx:=fun U2=>D.nx (U2.set j none),rt:=fun _ _=>False,bk:=fun _=>False,ct:=fun _=>False,ex:=NX }
def xTryA (cs:List (List Nat)) (j:Nat) (w:WS) (D:Ends):Ends:={ D with ex:=fun d U=>IsX cs d/\w (yTry j D) (U.set j (some (.sh d))) }
theorem zgO:wTryAs cs j v w D' U=v (xTryA cs j w D') U:=rfl
theorem ze1 (h:cs.contains c=true):(xTryA cs j w D').ex (.exc c fs vs) U=w (yTry j D') (U.set j (some (.sh (.exc c fs vs)))):=by
 show (IsX cs _/\w _ _)=_
 have:IsX cs (.exc c fs vs):=⟨c,by simpa using h,fs,vs,rfl⟩
 simp only [this,true_and]
theorem zfh:(yTry j D').nx U=D'.nx (U.set j none):=rfl
def kIsX2 (kn yes:List (List Nat)) (o:Option D) (Q:WQ) (U:Env):Prop:=need o fun d=>need (tX kn yes d) fun b=>Q (.v (.sh (.bl b))) U
def kIsX (kn yes:List (List Nat)) (Q:WQ):WQ:=fun x U=>kIsX2 kn yes (view x U) Q U
theorem zhT:wIsX kn yes a U Q E=a U (kIsX kn yes Q) E:=rfl
theorem zgI:kIsX kn yes Q x U=kIsX2 kn yes (view x U) Q U:=rfl
theorem zeJ (h:kn.contains c=true):kIsX2 kn yes (some (.exc c fs vs)) Q U=Q (.v (.sh (.bl (yes.contains c)))) U:=by
 show need (if kn.contains c then some (yes.contains c) else none) _=_
 rw [if_pos h]
 rfl
end
theorem zaV:big=1000000:=rfl
theorem zbx:(fromTo lo n).length=n:=by simp [fromTo]
theorem zc4 {α β:Type} {f:α->β} {l:List α} {z:Int} (h0:0<=z) (h1:z < l.length):∃ v,v∈l/\l[z.toNat]?=some v/\atI (l.map f) z=some (f v):=by
 have hz:z.toNat < l.length:=by lia
 exact ⟨l[z.toNat],List.getElem_mem hz,qh hz,zc8 h0 (by rw [getElem?_map,qh hz]; rfl)⟩
def kbX2 (b:WB) (K:Env->Prop) (E:WX):Bool->Env->Prop:=fun k U=>if k then b U K E else K U
def kbX (c:WT) (b:WB) (K:Env->Prop) (E:WX):Env->Prop:=fun U=>c U (kbX2 b K E) E
theorem x_bX:kbX c b K E U=c U (kbX2 b K E) E:=rfl
theorem zeg:kbX2 b K E true U=b U K E:=rfl
theorem zgG {α:Type} {toD:α->D} (I:List α->Env->Prop) (xs:List α)
  (step:∀ (pre:List α) (x:α) (post:List α) (K:Env->Prop) (U:Env),pre++x::post=xs->I pre U->(∀ U',I (pre++[x]) U'->K U')->g (.sh (toD x)) U (kbX c b K E))
  (fin:∀ U,I xs U->Q U) (h0:I [] U):bLoop g c b (xs.map toD) U Q E:=by
 have gen:∀ (post pre:List α) (U:Env),pre++post=xs->I pre U->bLoop g c b (post.map toD) U Q E:=by
  intro post
  induction post with
  | nil=>intro pre U e h; rw [append_nil] at e; subst e; exact fin U h
  | cons x post ih=>
    intro pre U e h
    rw [map_cons,e_bL]
    exact step pre x post (kbL3 g c b (post.map toD) Q E) U e h fun U' h'=>ih (pre++[x]) U' (by rw [<- e]; simp) h'
 exact gen xs [] U rfl h0
theorem zen {α:Type} {toD:α->D} (I:List α->Env->Prop) (xs:List α)
  (step:∀ (pre:List α) (x:α) (post:List α) (D2:Ends) (U:Env),pre++x::post=xs->I pre U->(∀ U',I (pre++[x]) U'->D2.nx U')->(∀ U',I (pre++[x]) U'->D2.ct U')->D2.rt=D'.rt->D2.bk=D'.nx->g (.sh (toD x)) U (fun U=>b D2 U))
  (fin:∀ U,I xs U->D'.nx U) (h0:I [] U):wLoop g b (xs.map toD) D' U:=by
 have gen:∀ (post pre:List α) (U:Env),pre++post=xs->I pre U->wLoop g b (post.map toD) D' U:=by
  intro post
  induction post with
  | nil=>intro pre U e h; rw [append_nil] at e; subst e; exact fin U h
  | cons x post ih=>
    intro pre U e h
    rw [map_cons,e_Lp]
    have k:=fun U' h'=>ih (pre++[x]) U' (by rw [<- e]; simp) h'
    exact step pre x post (lpE g b (post.map toD) D') U e h k k rfl rfl
 exact gen xs [] U rfl h0
theorem zer {α:Type} {toD:α->D} (I:List α->List S->Env->Prop) (xs:List α)
  (step:∀ (pre:List α) (x:α) (post:List α) (l:List S) (U:Env) (vs:List (Option S)) (K:Env->Prop),pre++x::post=xs->vs.length=k->I pre l U->(∀ l' U1 vs',vs'.length=k->I (pre++[x]) l' U1->K (U1++some (.lst l')::vs'))->g (.sh (toD x)) (U++some (.lst l)::vs) (kbX c b K E))
  (fin:∀ l U vs,vs.length=k->I xs l U->Q (U++some (.lst l)::vs)) (hv:vs.length=k) (h0:I [] [] U):bLoop g c b (xs.map toD) (U++some (.lst [])::vs) Q E:=by
 refine zgG (fun pre U'=>∃ l U1 vs',vs'.length=k/\I pre l U1/\U'=U1++some (.lst l)::vs') xs (fun pre x post K U' e hI hK=>?_) (fun U' hI=>?_) ⟨[],U,vs,hv,h0,rfl⟩
 ·obtain ⟨l,U1,vs',h1,h2,rfl⟩:=hI
  exact step pre x post l U1 vs' K e h1 h2 fun l' U2 vs2 h3 h4=>hK _ ⟨l',U2,vs2,h3,h4,rfl⟩
 ·obtain ⟨l,U1,vs',h1,h2,rfl⟩:=hI
  exact fin l U1 vs' h1 h2
theorem zfH {α:Type} {toD:α->D} (xs:List α) (h:α->Option S)
  (step:∀ x∈xs,∀ (l:List S) (vs:List (Option S)) (K:Env->Prop),vs.length=k->l.length < xs.length->(∀ vs',vs'.length=k->K (U++some (.lst (l++(h x).toList))::vs'))->g (.sh (toD x)) (U++some (.lst l)::vs) (kbX c b K E))
  (fin:∀ vs,vs.length=k->Q (U++some (.lst (xs.filterMap h))::vs)) (hv:vs.length=k):bLoop g c b (xs.map toD) (U++some (.lst [])::vs) Q E:=by
 refine zer (fun pre l U'=>U'=U/\l=pre.filterMap h) xs (fun pre x post l U' vs K e h1 h2 hK=>?_) (fun l U' vs h1 h2=>?_) hv ⟨rfl,rfl⟩
 ·obtain ⟨rfl,rfl⟩:=h2
  have hl:(pre.filterMap h).length < xs.length:=by
   have:=List.length_filterMap_le h pre
   rw [<- e]; simp only [length_append,length_cons]; lia
  refine step x (by rw [<- e]; simp) _ vs K h1 hl fun vs' h3=>hK _ _ vs' h3 ⟨rfl,?_⟩
  rw [List.filterMap_append]
  cases q:h x <;> simp [q]
 ·obtain ⟨rfl,rfl⟩:=h2
  exact fin vs h1
theorem len1v {vs:List (Option S)} (h:vs.length=1):∃ a,vs=[a]:=by
 match vs,h with
 | [a],_=>exact ⟨a,rfl⟩
section
variable {α:Type} {toD:α->D} {n:Nat} {c:WT} {b:WB} {E:WX} {Q:Env->Prop} {U:Env}
theorem bl1 (xs:List α) (h:α->Option S)
  (step:∀ x∈xs,∀ (l:List S) (o:Option S) (K:Env->Prop),l.length < xs.length->(∀ o,K (U.take n++[some (.lst (l++(h x).toList)),o]))->gName (n + 1) (.sh (toD x)) (U.take n++[some (.lst l),o]) (kbX c b K E))
  (fin:∀ o,Q (U.take n++[some (.lst (xs.filterMap h)),o])) (e:U=U.take n++[some (.lst []),o0]:=by rfl):bLoop (gName (n + 1)) c b (xs.map toD) U Q E:=by
 rw [e]
 refine zfH (k:=1) xs h (fun x hx l vs K hv hl hK=>?_) (fun vs hv=>?_) rfl
 ·obtain ⟨a,rfl⟩:=len1v hv
  exact step x hx l a K hl fun o=>hK [o] rfl
 ·obtain ⟨a,rfl⟩:=len1v hv
  exact fin a
theorem bm1 (xs:List α) (h:α->S)
  (step:∀ x∈xs,∀ (l:List S) (o:Option S) (K:Env->Prop),l.length < xs.length->(∀ o,K (U.take n++[some (.lst (l++[h x])),o]))->gName (n + 1) (.sh (toD x)) (U.take n++[some (.lst l),o]) (kbX c b K E))
  (fin:∀ o,Q (U.take n++[some (.lst (xs.map h)),o])) (e:U=U.take n++[some (.lst []),o0]:=by rfl):bLoop (gName (n + 1)) c b (xs.map toD) U Q E:=
 bl1 xs (fun x=>some (h x)) step (fun o=>by rw [show (xs.filterMap fun x=>some (h x))=xs.map h from List.filterMap_eq_map ▸ rfl]; exact fin o) e
end
theorem bd1 {β:Type} (emb:β->S) (xs:List D) (I:Env->Prop) (P:β->Prop)
  (step:∀ x∈xs,∀ (U:Env) (A:List β) (o:Option S) (K:Env->Prop),I U->A.length < xs.length->(∀ U1 y o1,I U1->P y->K (U1++[some (.lst (A.map emb++[emb y])),o1]))->gName (n + 1) (.sh x) (U++[some (.lst (A.map emb)),o]) (kbX c b K E))
  (fin:∀ U (A:List β) o,I U->A.length=xs.length->(∀ y∈A,P y)->Q (U++[some (.lst (A.map emb)),o])) (h0:I (U.take n)) (e:U=U.take n++[some (.lst []),o0]:=by rfl):bLoop (gName (n + 1)) c b xs U Q E:=by
 rw [e]
 have:=zer (toD:=fun x:D=>x) (k:=1) (g:=gName (n + 1)) (c:=c) (b:=b) (E:=E) (Q:=Q) (fun pre l U'=>I U'/\∃ A:List β,l=A.map emb/\A.length=pre.length/\∀ y∈A,P y) xs (fun pre x post l U' vs K e h1 h2 hK=>?_) (fun l U' vs h1 h2=>?_) (U:=U.take n) (vs:=[o0]) rfl ⟨h0,[],rfl,rfl,fun y hy=>nomatch hy⟩
 ·rwa [List.map_id'] at this
 ·obtain ⟨hI,A,rfl,hA,hP⟩:=h2
  obtain ⟨a,rfl⟩:=len1v h1
  refine step x (by rw [<- e]; simp) U' A a K hI (by rw [hA,<- e]; simp only [length_append,length_cons]; lia) fun U1 y o1 h3 h4=>hK _ U1 [o1] rfl ⟨h3,A++[y],by simp,by simp [hA],fun z hz=>?_⟩
  grind
 grind [len1v]
theorem vcons {α:Type} {l:List α} (h:l.length=n + 1):∃ a r,l=a::r/\r.length=n:=by
 cases l with
 | nil=>cases h
 | cons a r=>exact ⟨a,r,rfl,Nat.succ.inj h⟩
theorem vnil {α:Type} {l:List α} (h:l.length=0):l=[]:=List.length_eq_zero_iff.mp h
theorem vlen1 {α:Type} {l:List α} (h:l.length=1):∃ a,l=[a]:=by
 obtain ⟨a,r,rfl,k⟩:=vcons h
 obtain rfl:=vnil k
 exact ⟨a,rfl⟩
theorem vlen2 {α:Type} {l:List α} (h:l.length=2):∃ a0 a1,l=[a0,a1]:=by
 obtain ⟨a0,r,rfl,k⟩:=vcons h
 obtain ⟨a1,rfl⟩:=vlen1 k
 exact ⟨a0,a1,rfl⟩
theorem from0 {z:Int} {n:Nat} (h:z=n):fromTo 0 z.toNat=(List.range n).map fun (k:Nat)=>D.int (k:Int):=by
 subst h
 unfold fromTo
 rw [Int.toNat_natCast]
 refine List.map_congr_left fun k _=>?_
 rw [Int.zero_add]
end FL
end
section
namespace Law
open FL
abbrev zal:List Nat:=[66,97,100,84,101,120,116]
abbrev zam:List Nat:=[73,115,70,105,120,101,100]
abbrev zag:List Nat:=[78,111,66,111,97,114,100]
abbrev zaq:List Nat:=[78,111,77,97,112]
abbrev zas:List Nat:=[78,111,82,111,119]
abbrev zak:List Nat:=[84,111,111,77,97,110,121]
def w_0:WF:=wFn 2 4 [0,1]
 (wSeq (wAsg (gName 2) (wBin oAdd (wBin oMulA (wC (.int 7919)) (wVar 1)) (wC (.int 11))))
  (wSeq (wIf (wCmp cLt (wVar 1) (wB bLen (wCons (wVar 0) wNil))) (wAsg (gName 2) (wIx (wVar 0) (wVar 1))) (wIf (wCmp cGt (wB bLen (wCons (wVar 0) wNil)) (wC (.int 0))) (wAsg (gName 2) (wBin oAdd (wVar 2) (wBin oMulA (wBin oMod (wIx (wVar 0) (wBin oMod (wVar 1) (wB bLen (wCons (wVar 0) wNil)))) (wC (.int 2147483629))) (wC (.int 69623))))) wPass))
  (wSeq (wAsg (gName 3) (wBin oAdd (wBin oMod (wBin oAdd (wBin oMulA (wBin oMod (wVar 2) (wC (.int 2147483629))) (wC (.int 48271))) (wBin oMulA (wC (.int 40692)) (wVar 1))) (wC (.int 2147483629))) (wC (.int 1))))
  (wRet (wLst (wCons (wIx (wLst (wCons (wC (.int 0)) (wCons (wVar 2) wNil))) (wB bInt (wCons (wOfT (wCmp cGe (wVar 2) (wBin oPow (wC (.int 10)) (wC (.int 18))))) wNil))) (wCons (wVar 3) wNil)))))))
def w_1:WF:=wFn 2 4 [0,1]
 (wSeq (wIf (wCmp cGt (wIx (wVar 0) (wC (.int 0))) (wC (.int 0))) (wSeq (wAsg (gName 2) (wBin oMod (wIx (wVar 0) (wC (.int 0))) (wVar 1)))
  (wSeq (wSetIx 0 (wC (.int 0)) (wBin oFdiv (wIx (wVar 0) (wC (.int 0))) (wVar 1)))
  (wRet (wVar 2)))) wPass)
  (wSeq (wAsg (gName 3) (wBin oMod (wBin oMulA (wIx (wVar 0) (wC (.int 1))) (wC (.int 69623))) (wC (.int 2147483647))))
  (wSeq (wSetIx 0 (wC (.int 1)) (wBin oAdd (wBin oMod (wBin oAdd (wBin oMulA (wVar 3) (wC (.int 48271))) (wC (.int 30103))) (wC (.int 2147483629))) (wC (.int 1))))
  (wRet (wBin oMod (wBin oFdiv (wBin oAdd (wBin oMulA (wVar 3) (wC (.int 2147483647))) (wIx (wVar 0) (wC (.int 1)))) (wC (.int 8191))) (wVar 1))))))
def w_2:WF:=wFn 1 1 [0]
 (wRet (wLst (wCons (wIsX [zal,zam,zag,zaq,zas,zak] [zag] (wVar 0)) (wCons (wIsX [zal,zam,zag,zaq,zas,zak] [zaq] (wVar 0)) (wCons (wIsX [zal,zam,zag,zaq,zas,zak] [zal] (wVar 0)) (wCons (wIsX [zal,zam,zag,zaq,zas,zak] [zak] (wVar 0)) (wCons (wIsX [zal,zam,zag,zaq,zas,zak] [zam] (wVar 0)) (wCons (wIsX [zal,zam,zag,zaq,zas,zak] [zas] (wVar 0)) wNil))))))))
def w_3:WF:=wFn 2 4 [0,1]
 (wSeq (wAsg (gName 2) (wC .non))
  (wSeq (wTryAs [zal,zam,zag,zaq,zas,zak] 3 (wSeq (wIf (wCmp cEq (wVar 0) (wC (.int 0))) (wRaise1 zag [97,116] (wVar 1)) wPass)
  (wSeq (wIf (wCmp cEq (wVar 0) (wC (.int 1))) (wRaise1 zaq [97,116] (wBin oSub (wVar 1) (wC (.int 1)))) wPass)
  (wSeq (wIf (wCmp cEq (wVar 0) (wC (.int 2))) (wRaise1 zal [114,111,119] (wVar 1)) wPass)
  (wSeq (wIf (wCmp cEq (wVar 0) (wC (.int 3))) (wRaise1 zak [109,111,115,116] (wBin oAdd (wVar 1) (wC (.int 1)))) wPass)
  (wSeq (wIf (wCmp cEq (wVar 0) (wC (.int 4))) (wRaise zam) wPass)
  (wRaise zas)))))) (wAsg (gName 2) (wVar 3)))
  (wRet (wVar 2))))
def w_4_c1:WB:=bEmit 8 (wIx (wLst (wCons (wCall w_1 [true,true] (wCons (wVar 1) (wCons (wC (.int 9)) wNil))) (wCons (wCall w_1 [true,true] (wCons (wVar 1) (wCons (wBin oPow (wC (.int 10)) (wC (.int 12))) wNil))) wNil))) (wCall w_1 [true,true] (wCons (wVar 1) (wCons (wC (.int 2)) wNil))))
def u_4_c1 {Q:Env->Prop} {E:WX} {U:Env}:=uB (U:=U) (Q:=Q) (E:=E) w_4_c1.eq_1
def w_4_c2:WB:=bEmit 10 (wFrz (wCall w_3 [true,true] (wCons (wVar 11) (wCons (wVar 9) wNil))))
def u_4_c2 {Q:Env->Prop} {E:WX} {U:Env}:=uB (U:=U) (Q:=Q) (E:=E) w_4_c2.eq_1
def w_4_c3:WB:=bEmit 8 (wFrz (wLC 10 1 (wRange1 (wC (.int 6))) (gName 11) wYes w_4_c2))
def u_4_c3 {Q:Env->Prop} {E:WX} {U:Env}:=uB (U:=U) (Q:=Q) (E:=E) w_4_c3.eq_1
def w_4_c4:WB:=bEmit 8 (wOfT (wCmp cEq (wVar 9) (wVar 6)))
def u_4_c4 {Q:Env->Prop} {E:WX} {U:Env}:=uB (U:=U) (Q:=Q) (E:=E) w_4_c4.eq_1
def w_4_b5:WS:=wSeq (wIf (wtOr (wCmp cNe (wCall w_2 [true] (wCons (wVar 7) wNil)) (wLC 8 1 (wRange1 (wC (.int 6))) (gName 9) wYes w_4_c4)) (wtNot (wTest (wIsX [zal,zam,zag,zaq,zas,zak] [zal,zam,zag,zaq,zas,zak] (wVar 7))))) (wRet (wC (.bl false))) wPass)
  (wIf (wtNot (wTest (wIsX [zal,zam,zag,zaq,zas,zak] [zal,zam,zag,zaq,zas,zak] (wVar 7)))) (wRet (wC (.bl false))) wPass)
def u_4_b5 {D':Ends} {U:Env}:=uS (D':=D') (U:=U) w_4_b5.eq_1
def w_4_b6:WS:=wSeq (wIf (wCmp cNe (wTup (wCons (wXFld [zag,zaq] [97,116] (wIx (wVar 4) (wC (.int 0)))) (wCons (wXFld [zag,zaq] [97,116] (wIx (wVar 4) (wC (.int 1)))) (wCons (wXFld [zal] [114,111,119] (wIx (wVar 4) (wC (.int 2)))) (wCons (wXFld [zak] [109,111,115,116] (wIx (wVar 4) (wC (.int 3)))) wNil))))) (wTup (wCons (wVar 5) (wCons (wBin oSub (wVar 5) (wC (.int 1))) (wCons (wVar 5) (wCons (wBin oAdd (wVar 5) (wC (.int 1))) wNil)))))) (wRet (wC (.bl false))) wPass)
  (wFor (wEnum (wVar 4)) (gTup [gName 6,gName 7]) w_4_b5)
def u_4_b6 {D':Ends} {U:Env}:=uS (D':=D') (U:=U) w_4_b6.eq_1
def w_4:WF:=wFn 1 8 [0]
 (wSeq (wAsg (gName 1) (wCall w_0 [true,true] (wCons (wVar 0) (wCons (wC (.int 0)) wNil))))
  (wSeq (wFz 2 (wAsg (gName 2) (wLC 8 1 (wRange1 (wC (.int 2))) (gName 9) wYes w_4_c1)))
  (wSeq (wFz 3 (wAsg (gName 3) (wLC 8 1 (wIter (wVar 2)) (gName 9) wYes w_4_c3)))
  (wSeq (wFor (wZip (wVar 3) (wVar 2)) (gTup [gName 4,gName 5]) w_4_b6)
  (wRet (wC (.bl true)))))))
end Law
end
end
section
namespace Law
open FL
set_option hygiene false in
local macro_rules
 | `(tactic| simp! [$xs,*] $[$l:location]?)=>do
   let ls <- ("e_C e_V zim zfX e_Ck zih zg4 zfM zgg zeR zeN e_Or zh2 zhF zgP zh5 zgw zhG zgU ze6 ze9 ziB e_gA ziT zhD e_gv zio zf0 zgk zhy zgE zgV e_l2 e_l4 e_l6 e_vv e_cv zfN e_Ix ziv zid zg6 zfB zhB zhH zhn ziJ ziz zhR e_p0 e_pv e_pl ziG e_pA e_b0 e_bv e_bl zg5 zfk zeT zf3 zhg e_vA zh7 e_B e_B1 e_B2 e_nx e_rt e_ex zgC zhx e_If zie zis zhp zh4 zf5 zgn e_gN e_gT zhi zh0 zhI zhz ziH zgW zfE zgB zgf zfx zfo e_It ziQ zhX zhj zhf e_En zit zhh zhs e_Zi zhr zho zhK ziC ziP e_R1 zil zh6 ziD zfK e_LC zif zhW zfT e_Em zhu zh1 zik zhd zia e_Rt e_Fn e_f0 e_fs e_fl e_fA zhO zhV zfV zhl zf1 zhL e_lt e_gt e_ge ziO ziS zfO zfz zhQ zic zh3 zhv ziw zhe ziq zhM zii zhU ziy zhA ziN zix zhC zhY zhN ziI ziu zib zhb ziF zhw zh9 ziL zhE zgS zfW zgx zg0 zf2 zg2 zfU zhZ zgZ zf8 ziM zgD zgz zg3 zfy e_Rz zhJ ziR e_XF zhq zh8 zgO ze1 zfh zhT zgI zeJ Option.map_some S.toD_sh S.toD_lst map_cons map_nil cons_append nil_append List.replicate_succ List.replicate_zero Nat.reduceSub Nat.reduceAdd append_nil List.take_succ_cons List.take_zero true_and S.toDs_map S.toD_dct Int.reduceEq Int.reduceLT Int.reduceLE decide_true decide_false Bool.not_true Bool.not_false".splitOn " ").toArray.mapM fun n=>`(Lean.Parser.Tactic.simpLemma| $(Lean.mkIdent n.toName):ident)
   let ls:=ls++xs.getElems
   `(tactic| simp -implicitDefEqProofs (disch:=first | omega | decide | rfl | (simp only [length_map,length_append,length_cons,length_nil,length_range,zaV]; omega) | (simp only [length_map,length_append,length_cons,length_nil,length_range,zaV]; done)) only [$ls,*] $[$l:location]?)
noncomputable section pu
def box (a s:Int):S:=.lst [.sh (.int a),.sh (.int s)]
theorem zbj {a s m:Int} {P:S->List S->Prop} {PX:D->List S->Prop} (ha:0<=a) (hs:1<=s) (hs2:s<=2147483629) (hm:0 < m) (hm2:m < 18446744073709551616)
  (h:∀ r a' s',0<=r->r < m->0<=a'->1<=s'->s'<=2147483629->P (.sh (.int r)) [box a' s',.sh (.int m)]):w_1 [box a s,.sh (.int m)] P PX:=by
 refine zdz rfl rfl ?_
 simp! [box]
 cases hc:decide (0 < a)
 ·simp! [e_C]
  exact h _ _ _ (Int.emod_nonneg _ (by lia)) (Int.emod_lt_of_pos _ hm) ha (by lia) (by lia)
 ·simp! [e_C]
  exact h _ _ _ (Int.emod_nonneg _ (by lia)) (Int.emod_lt_of_pos _ hm) (Int.ediv_nonneg ha (by lia)) hs hs2
theorem zdV {ns:List Int} {k:Int} {P:S->List S->Prop} {PX:D->List S->Prop} (hk:0<=k)
  (h:∀ a s,0<=a->1<=s->s<=2147483629->P (box a s) [.sh (.lst (ns.map .int)),.sh (.int k)]):w_0 [.sh (.lst (ns.map .int)),.sh (.int k)] P PX:=by
 refine zdz rfl rfl ?_
 simp! [length_map]
 by_cases h1:k < ns.length
 ·obtain ⟨v,hv,_,e⟩:=zc4 (f:=D.int) hk h1
  simp! [length_map,h1,decide_true,e]
  cases hc:decide ((10:Int) ^ (18:Int).toNat<=v)
  ·simp! [if_true,Bool.false_eq_true,if_false]
   exact h _ _ (by decide) (by lia) (by lia)
  ·simp! [if_true]
   have:(0:Int)<=v:=by
    have:=of_decide_eq_true hc
    have e:(10:Int) ^ (18:Int).toNat=1000000000000000000:=by decide
    lia
   exact h _ _ this (by lia) (by lia)
 ·by_cases h2:0 < ns.length
  ·have hp:(0:Int) < ns.length:=by lia
   obtain ⟨v,hv,_,e⟩:=zc4 (f:=D.int) (l:=ns) (z:=k % ns.length) (Int.emod_nonneg _ (by lia)) (Int.emod_lt_of_pos _ hp)
   simp! [length_map,h1,hp,decide_true,decide_false,e]
   generalize 7919 * k + 11 + v % 2147483629 * 69623=cell
   cases hc:decide ((10:Int) ^ (18:Int).toNat<=cell)
   ·simp! [if_true,Bool.false_eq_true,if_false]
    exact h _ _ (by decide) (by lia) (by lia)
   ·simp! [if_true]
    have:(0:Int)<=cell:=by
     have:=of_decide_eq_true hc
     have e:(10:Int) ^ (18:Int).toNat=1000000000000000000:=by decide
     lia
    exact h _ _ this (by lia) (by lia)
  ·have hp:¬ (0:Int) < ns.length:=by lia
   simp! [length_map,h1,hp,decide_true,decide_false]
   generalize 7919 * k + 11=cell
   cases hc:decide ((10:Int) ^ (18:Int).toNat<=cell)
   ·simp! [if_true,Bool.false_eq_true,if_false]
    exact h _ _ (by decide) (by lia) (by lia)
   ·simp! [if_true]
    have:(0:Int)<=cell:=by
     have:=of_decide_eq_true hc
     have e:(10:Int) ^ (18:Int).toNat=1000000000000000000:=by decide
     lia
    exact h _ _ this (by lia) (by lia)
abbrev kA:List (List Nat):=[zal,zam,zag,zaq,zas,zak]
def excO (n:Int):Nat->D
 | 0=>.exc zag [[97,116]] [.int n]
 | 1=>.exc zaq [[97,116]] [.int (n - 1)]
 | 2=>.exc zal [[114,111,119]] [.int n]
 | 3=>.exc zak [[109,111,115,116]] [.int (n + 1)]
 | 4=>.exc zam [] []
 | _=>.exc zas [] []
theorem six {z:Nat} (h:z∈List.range 6):z=0\/z=1\/z=2\/z=3\/z=4\/z=5:=by
 have:=List.mem_range.mp h
 lia
theorem zb5 {k:Nat} {n:Int} {P:S->List S->Prop} {PX:D->List S->Prop} (hk:k∈List.range 6) (h:P (.sh (excO n k)) [.sh (.int (k:Int)),.sh (.int n)]):w_3 [.sh (.int (k:Int)),.sh (.int n)] P PX:=by
 refine zdz rfl rfl ?_
 rcases six hk with rfl | rfl | rfl | rfl | rfl | rfl
 all_goals
  simp! [Int.cast_ofNat_Int,Int.reduceAdd]
  exact h
def kindsD (k:Nat):List D:=(List.range 6).map fun j=>D.bl (decide (j=k))
theorem zcD {k:Nat} {n:Int} {P:S->List S->Prop} {PX:D->List S->Prop} (hk:k∈List.range 6) (h:P (.lst ((kindsD k).map .sh)) [.sh (excO n k)]):w_2 [.sh (excO n k)] P PX:=by
 refine zdz rfl rfl ?_
 rcases six hk with rfl | rfl | rfl | rfl | rfl | rfl
 all_goals
  simp! [excO,length_cons,length_nil]
  exact h
theorem isA {k:Nat} {n:Int} {Q:WQ} {U:Env} (hk:k∈List.range 6):kIsX2 kA kA (some (excO n k)) Q U=Q (.v (.sh (.bl true))) U:=by
 rcases six hk with rfl | rfl | rfl | rfl | rfl | rfl <;> exact zeJ (by decide)
theorem zd4 (k:Nat):cNe (.lst (kindsD k)) (.lst (kindsD k))=some false:=by
 unfold cNe cEq
 rw [if_neg (show ¬ ((clash (.lst (kindsD k)) (.lst (kindsD k)) || decide (30 < dep (.lst (kindsD k))))=true) from fun z=>Bool.noConfusion (show false=true from z))]
 simp
def manyD (n:Int):D:=.lst ((List.range 6).map (excO n))
theorem zef (A:List Int):zipD (A.map manyD) (A.map D.int)=A.map fun n=>D.tup [manyD n,.int n]:=by
 induction A with
 | nil=>rfl
 | cons n A ih=>simp only [map_cons,zipD,ih]
theorem zfn {a b c d:Int}:cNe (.tup [.int a,.int b,.int c,.int d]) (.tup [.int a,.int b,.int c,.int d])=some false:=by
 unfold cNe cEq
 rw [if_neg (show ¬ ((clash (.tup [.int a,.int b,.int c,.int d]) (.tup [.int a,.int b,.int c,.int d]) || decide (30 < dep (.tup [.int a,.int b,.int c,.int d])))=true) from fun z=>Bool.noConfusion (show false=true from z))]
 simp
theorem pure_law:∀ ns:List Int,ns.length<=63->w_4 [.sh (.lst (ns.map .int))] (fun s _=>s=.sh (.bl true)) fun _ _=>False:=by
 intro ns hns
 refine zdz rfl rfl ?_
 simp! [e_C]
 refine zdV (by decide) fun a s ha hs hs2=>?_
 simp! [e_C]
 refine ⟨by simp only [zaV]; decide,?_⟩
 refine bd1 (n:=8) (fun z:Int=>S.sh (.int z)) _ (fun U=>∃ a s,0<=a/\1<=s/\s<=2147483629/\U=[some (.sh (.lst (ns.map .int))),some (box a s),none,none,none,none,none,none]) (fun _=>True) (fun x hx U A o K hI hA hK=>?_) (fun U A o hI hA hP=>?_) ⟨a,s,ha,hs,hs2,rfl⟩
 ·obtain ⟨a,s,ha,hs,hs2,rfl⟩:=hI
  simp! [x_bX,zeg,u_4_c1,box]
  refine zbj ha hs hs2 (by decide) (by decide) fun r1 a1 s1 _ _ ha1 hs1 hs21=>?_
  simp! [box]
  refine zbj ha1 hs1 hs21 (by decide) (by decide) fun r2 a2 s2 _ _ ha2 hs2 hs22=>?_
  simp! [box]
  refine zbj ha2 hs2 hs22 (by decide) (by decide) fun r3 a3 s3 h0 h1 ha3 hs3 hs23=>?_
  simp! [box]
  rcases (by lia:r3=0\/r3=1) with rfl | rfl
  all_goals
   simp! [box]
   refine ⟨?_,hK _ _ _ ⟨a3,s3,ha3,hs3,hs23,rfl⟩ trivial⟩
   rw [zbx] at hA
   rw [length_map,zaV]
   have:(Int.toNat 2)=2:=rfl
   lia
 ·obtain ⟨a,s,ha,hs,hs2,rfl⟩:=hI
  have eA:(A.map fun z=>S.sh (D.int z)).map S.toD=A.map D.int:=by rw [map_map]; rfl
  have hA2:A.length=2:=by rw [hA,zbx]; rfl
  simp! [eA]
  refine bm1 (n:=8) A (toD:=D.int) (fun n=>.sh (manyD n)) (fun n hn l o K hl hK=>?_) fun o=>?_
  ·simp! [x_bX,zeg,u_4_c3]
   refine ⟨by simp only [zaV]; decide,?_⟩
   rw [from0 (z:=6) (n:=6) rfl]
   refine bm1 (n:=10) (List.range 6) (fun k=>.sh (excO n k)) (fun k hk m o2 K2 hm hK2=>?_) fun o2=>?_
   ·simp! [x_bX,zeg,u_4_c2]
    refine zb5 hk ?_
    simp! [e_C]
    exact ⟨by rw [length_range] at hm; simp only [zaV]; lia,hK2 _⟩
   ·have eR:((List.range 6).map fun k=>S.sh (excO n k)).map S.toD=(List.range 6).map (excO n):=by rw [map_map]; rfl
    simp! [eR]
    exact ⟨by simp only [zaV]; lia,hK _⟩
  ·have eM:(A.map fun n=>S.sh (manyD n)).map S.toD=A.map manyD:=by rw [map_map]; rfl
   simp! [eM,zef]
   refine zen (fun _ U=>∃ o4 o5 o6 o7:Option S,U=[some (S.sh (D.lst (List.map D.int ns))),some (box a s),some (S.sh (D.lst (List.map D.int A))),some (S.sh (D.lst (A.map manyD))),o4,o5,o6,o7]) A (fun pre n post D2 U e hI hnx hct hrt hbk=>?_) (fun U hI=>?_) ⟨none,none,none,none,rfl⟩
   ·obtain ⟨o4,o5,o6,o7,rfl⟩:=hI
    have g0:atI ((List.range 6).map (excO n)) 0=some (.exc zag [[97,116]] [.int n]):=rfl
    have g1:atI ((List.range 6).map (excO n)) 1=some (.exc zaq [[97,116]] [.int (n - 1)]):=rfl
    have g2:atI ((List.range 6).map (excO n)) 2=some (.exc zal [[114,111,119]] [.int n]):=rfl
    have g3:atI ((List.range 6).map (excO n)) 3=some (.exc zak [[109,111,115,116]] [.int (n + 1)]):=rfl
    have ge:enumF 0 ((List.range 6).map (excO n))=(List.range 6).map fun k:Nat=>D.tup [.int (k:Int),excO n k]:=rfl
    simp! [u_4_b6,manyD,length_cons,length_nil,g0,g1,g2,g3,zfn,ge]
    refine zen (fun _ U=>∃ o6 o7:Option S,U=[some (S.sh (D.lst (List.map D.int ns))),some (box a s),some (S.sh (D.lst (List.map D.int A))),some (S.sh (D.lst (A.map manyD))),some (.sh (manyD n)),some (.sh (.int n)),o6,o7]) (List.range 6) (fun pre2 k post2 D3 U e2 hI hnx2 hct2 hrt2 hbk2=>?_) (fun U hI=>?_) ⟨o6,o7,rfl⟩
    ·obtain ⟨o6,o7,rfl⟩:=hI
     have hk:k∈List.range 6:=by rw [<- e2]; simp
     simp! [u_4_b5,length_cons,length_nil]
     refine zcD hk ?_
     simp! [e_C]
     refine ⟨by simp only [zaV]; decide,?_⟩
     rw [from0 (z:=6) (n:=6) rfl]
     refine bm1 (n:=8) (List.range 6) (fun j=>.sh (.bl (decide (j=k)))) (fun j hj m o K hm hK=>?_) fun o=>?_
     ·have ej:decide ((j:Int)=(k:Int))=decide (j=k):=by rw [decide_eq_decide]; lia
      simp! [x_bX,zeg,u_4_c4,ej]
      exact ⟨by rw [length_range] at hm; simp only [zaV]; lia,hK _⟩
     ·have eK:((List.range 6).map fun j=>S.sh (D.bl (decide (j=k)))).map S.toD=kindsD k:=by rw [map_map]; rfl
      simp! [eK,zfN,zd4,isA hk]
      exact hnx2 _ ⟨_,_,rfl⟩
    ·obtain ⟨o6,o7,rfl⟩:=hI
     exact hnx _ ⟨_,_,_,_,rfl⟩
   ·obtain ⟨o4,o5,o6,o7,rfl⟩:=hI
    simp! [e_C]
end pu
end Law
end
section
set_option maxHeartbeats 4000000
namespace Law
open PySem PySem.Spec PyProof.Rows L2 FL
local macro_rules
 | `(tactic| trivial)=>`(tactic| first | exact Or.inl rfl | exact Or.inr rfl)
def top (i:Nat):Stmt:=PySem.Challenge.pw_walktold_k03_refusals.main.body.getD i (.Pass ⟨0,0,0,0⟩)
abbrev s_0:Stmt:=top 9
def n_0:List Str:=["_law_script","_law_k","_law_cell","_law_seed"]
abbrev p_0:List Str:=["_law_script","_law_k"]
theorem sc_0:FnScope n_0 p_0 (defScope s_0):=⟨rfl,rfl,rfl,by decide +kernel,rfl,by decide +kernel,by decide +kernel⟩
abbrev s_1:Stmt:=top 10
def n_1:List Str:=["_law_box_here","_law_many","_law_digit","_law_one"]
abbrev p_1:List Str:=["_law_box_here","_law_many"]
theorem sc_1:FnScope n_1 p_1 (defScope s_1):=⟨rfl,rfl,rfl,by decide +kernel,rfl,by decide +kernel,by decide +kernel⟩
abbrev s_2:Stmt:=top 11
def n_2:List Str:=["_law_e"]
abbrev p_2:List Str:=["_law_e"]
theorem sc_2:FnScope n_2 p_2 (defScope s_2):=⟨rfl,rfl,rfl,by decide +kernel,rfl,by decide +kernel,by decide +kernel⟩
abbrev s_3:Stmt:=top 12
def n_3:List Str:=["_law_k","_law_number","_law_found","_law_e"]
abbrev p_3:List Str:=["_law_k","_law_number"]
theorem sc_3:FnScope n_3 p_3 (defScope s_3):=⟨rfl,rfl,rfl,by decide +kernel,rfl,by decide +kernel,by decide +kernel⟩
abbrev s_4:Stmt:=top 13
def n_4:List Str:=["_law_script","_law_box_here","_law_numbers","_law_made_two","_law_some","_law_number","_law_k","_law_e"]
abbrev p_4:List Str:=["_law_script"]
theorem sc_4:FnScope n_4 p_4 (defScope s_4):=⟨rfl,rfl,rfl,by decide +kernel,rfl,by decide +kernel,by decide +kernel⟩
theorem zb7:FnScope ["self","at"] ["self","at"] (defScope (initOf (top 2))):=⟨rfl,rfl,rfl,by decide +kernel,rfl,by decide +kernel,by decide +kernel⟩
theorem zc7:FnScope ["self","at"] ["self","at"] (defScope (initOf (top 3))):=⟨rfl,rfl,rfl,by decide +kernel,rfl,by decide +kernel,by decide +kernel⟩
theorem zb1:FnScope ["self","row"] ["self","row"] (defScope (initOf (top 4))):=⟨rfl,rfl,rfl,by decide +kernel,rfl,by decide +kernel,by decide +kernel⟩
theorem zcd:FnScope ["self","most"] ["self","most"] (defScope (initOf (top 6))):=⟨rfl,rfl,rfl,by decide +kernel,rfl,by decide +kernel,by decide +kernel⟩
structure Txt (K:W.Frag) (mg:Str->Option Value) (af:Nat->Addr):Prop where
 t_0:Tx K mg (af 0) "_law_box" s_0 p_0
 t_1:Tx K mg (af 1) "_law_take" s_1 p_1
 t_2:Tx K mg (af 2) "_law_kinds" s_2 p_2
 t_3:Tx K mg (af 3) "_law_caught" s_3 p_3
 t_4:Tx K mg (af 4) "law" s_4 p_4
 n_ValueError:mg "ValueError"=none
 n_enumerate:mg "enumerate"=none
 n_int:mg "int"=none
 n_isinstance:mg "isinstance"=none
 n_len:mg "len"=none
 n_range:mg "range"=none
 n_zip:mg "zip"=none
 j_NoBoard:Ix K (af 8) (af 11) (af 12) "NoBoard.__init__" "at" (initOf (top 2)) ["self","at"]
 j_NoMap:Ix K (af 7) (af 11) (af 13) "NoMap.__init__" "at" (initOf (top 3)) ["self","at"]
 j_BadText:Ix K (af 10) (af 11) (af 14) "BadText.__init__" "row" (initOf (top 4)) ["self","row"]
 j_TooMany:Ix K (af 5) (af 11) (af 15) "TooMany.__init__" "most" (initOf (top 6)) ["self","most"]
 g_TooMany:mg "TooMany"=some (.ref (af 5))
 g_NoRow:mg "NoRow"=some (.ref (af 6))
 g_NoMap:mg "NoMap"=some (.ref (af 7))
 g_NoBoard:mg "NoBoard"=some (.ref (af 8))
 g_IsFixed:mg "IsFixed"=some (.ref (af 9))
 g_BadText:mg "BadText"=some (.ref (af 10))
 g_WalkError:mg "WalkError"=some (.ref (af 11))
 i_NoRow_0:W.kitOne K (.type "NoneType") (.ref (af 6))=some false
 k_TooMany:W.nsIn K mainGlobals "TooMany"=some (some (.ref (af 5)))
 x0_TooMany:W.findIn K (.ref (af 5)) "__getattribute__"=some (some (.builtin "BaseException.__getattribute__"))
 x1_TooMany:W.findIn K (.ref (af 5)) "__getattr__"=some none
 x2_TooMany:W.findIn K (.ref (af 5)) "__class__"=some (some (.builtin "object.__class__"))
 x3_TooMany:W.specialIn K (.builtin "object.__class__") "__get__"=some (some (.builtin "getset_descriptor.__get__"))
 x4_TooMany:W.takesIn K (.builtin "object.__class__")=some true
 x5_TooMany:W.mroIn K (af 5) (.type "object")=some true
 x6_TooMany:W.mroIn K (af 5) (.type "BaseException")=some true
 i_NoRow_TooMany:W.kitOne K (.ref (af 5)) (.ref (af 6))=some false
 k_NoRow:W.nsIn K mainGlobals "NoRow"=some (some (.ref (af 6)))
 x0_NoRow:W.findIn K (.ref (af 6)) "__getattribute__"=some (some (.builtin "BaseException.__getattribute__"))
 x1_NoRow:W.findIn K (.ref (af 6)) "__getattr__"=some none
 x2_NoRow:W.findIn K (.ref (af 6)) "__class__"=some (some (.builtin "object.__class__"))
 x3_NoRow:W.specialIn K (.builtin "object.__class__") "__get__"=some (some (.builtin "getset_descriptor.__get__"))
 x4_NoRow:W.takesIn K (.builtin "object.__class__")=some true
 x5_NoRow:W.mroIn K (af 6) (.type "object")=some true
 x6_NoRow:W.mroIn K (af 6) (.type "BaseException")=some true
 i_NoRow_NoRow:W.kitOne K (.ref (af 6)) (.ref (af 6))=some true
 k_NoMap:W.nsIn K mainGlobals "NoMap"=some (some (.ref (af 7)))
 x0_NoMap:W.findIn K (.ref (af 7)) "__getattribute__"=some (some (.builtin "BaseException.__getattribute__"))
 x1_NoMap:W.findIn K (.ref (af 7)) "__getattr__"=some none
 x2_NoMap:W.findIn K (.ref (af 7)) "__class__"=some (some (.builtin "object.__class__"))
 x3_NoMap:W.specialIn K (.builtin "object.__class__") "__get__"=some (some (.builtin "getset_descriptor.__get__"))
 x4_NoMap:W.takesIn K (.builtin "object.__class__")=some true
 x5_NoMap:W.mroIn K (af 7) (.type "object")=some true
 x6_NoMap:W.mroIn K (af 7) (.type "BaseException")=some true
 i_NoRow_NoMap:W.kitOne K (.ref (af 7)) (.ref (af 6))=some false
 k_NoBoard:W.nsIn K mainGlobals "NoBoard"=some (some (.ref (af 8)))
 x0_NoBoard:W.findIn K (.ref (af 8)) "__getattribute__"=some (some (.builtin "BaseException.__getattribute__"))
 x1_NoBoard:W.findIn K (.ref (af 8)) "__getattr__"=some none
 x2_NoBoard:W.findIn K (.ref (af 8)) "__class__"=some (some (.builtin "object.__class__"))
 x3_NoBoard:W.specialIn K (.builtin "object.__class__") "__get__"=some (some (.builtin "getset_descriptor.__get__"))
 x4_NoBoard:W.takesIn K (.builtin "object.__class__")=some true
 x5_NoBoard:W.mroIn K (af 8) (.type "object")=some true
 x6_NoBoard:W.mroIn K (af 8) (.type "BaseException")=some true
 i_NoRow_NoBoard:W.kitOne K (.ref (af 8)) (.ref (af 6))=some false
 k_IsFixed:W.nsIn K mainGlobals "IsFixed"=some (some (.ref (af 9)))
 x0_IsFixed:W.findIn K (.ref (af 9)) "__getattribute__"=some (some (.builtin "BaseException.__getattribute__"))
 x1_IsFixed:W.findIn K (.ref (af 9)) "__getattr__"=some none
 x2_IsFixed:W.findIn K (.ref (af 9)) "__class__"=some (some (.builtin "object.__class__"))
 x3_IsFixed:W.specialIn K (.builtin "object.__class__") "__get__"=some (some (.builtin "getset_descriptor.__get__"))
 x4_IsFixed:W.takesIn K (.builtin "object.__class__")=some true
 x5_IsFixed:W.mroIn K (af 9) (.type "object")=some true
 x6_IsFixed:W.mroIn K (af 9) (.type "BaseException")=some true
 i_NoRow_IsFixed:W.kitOne K (.ref (af 9)) (.ref (af 6))=some false
 k_BadText:W.nsIn K mainGlobals "BadText"=some (some (.ref (af 10)))
 x0_BadText:W.findIn K (.ref (af 10)) "__getattribute__"=some (some (.builtin "BaseException.__getattribute__"))
 x1_BadText:W.findIn K (.ref (af 10)) "__getattr__"=some none
 x2_BadText:W.findIn K (.ref (af 10)) "__class__"=some (some (.builtin "object.__class__"))
 x3_BadText:W.specialIn K (.builtin "object.__class__") "__get__"=some (some (.builtin "getset_descriptor.__get__"))
 x4_BadText:W.takesIn K (.builtin "object.__class__")=some true
 x5_BadText:W.mroIn K (af 10) (.type "object")=some true
 x6_BadText:W.mroIn K (af 10) (.type "BaseException")=some true
 i_NoRow_BadText:W.kitOne K (.ref (af 10)) (.ref (af 6))=some false
 i_IsFixed_0:W.kitOne K (.type "NoneType") (.ref (af 9))=some false
 i_IsFixed_TooMany:W.kitOne K (.ref (af 5)) (.ref (af 9))=some false
 i_IsFixed_NoRow:W.kitOne K (.ref (af 6)) (.ref (af 9))=some false
 i_IsFixed_NoMap:W.kitOne K (.ref (af 7)) (.ref (af 9))=some false
 i_IsFixed_NoBoard:W.kitOne K (.ref (af 8)) (.ref (af 9))=some false
 i_IsFixed_IsFixed:W.kitOne K (.ref (af 9)) (.ref (af 9))=some true
 i_IsFixed_BadText:W.kitOne K (.ref (af 10)) (.ref (af 9))=some false
 i_TooMany_0:W.kitOne K (.type "NoneType") (.ref (af 5))=some false
 i_TooMany_TooMany:W.kitOne K (.ref (af 5)) (.ref (af 5))=some true
 i_TooMany_NoRow:W.kitOne K (.ref (af 6)) (.ref (af 5))=some false
 i_TooMany_NoMap:W.kitOne K (.ref (af 7)) (.ref (af 5))=some false
 i_TooMany_NoBoard:W.kitOne K (.ref (af 8)) (.ref (af 5))=some false
 i_TooMany_IsFixed:W.kitOne K (.ref (af 9)) (.ref (af 5))=some false
 i_TooMany_BadText:W.kitOne K (.ref (af 10)) (.ref (af 5))=some false
 i_BadText_0:W.kitOne K (.type "NoneType") (.ref (af 10))=some false
 i_BadText_TooMany:W.kitOne K (.ref (af 5)) (.ref (af 10))=some false
 i_BadText_NoRow:W.kitOne K (.ref (af 6)) (.ref (af 10))=some false
 i_BadText_NoMap:W.kitOne K (.ref (af 7)) (.ref (af 10))=some false
 i_BadText_NoBoard:W.kitOne K (.ref (af 8)) (.ref (af 10))=some false
 i_BadText_IsFixed:W.kitOne K (.ref (af 9)) (.ref (af 10))=some false
 i_BadText_BadText:W.kitOne K (.ref (af 10)) (.ref (af 10))=some true
 i_NoMap_0:W.kitOne K (.type "NoneType") (.ref (af 7))=some false
 i_NoMap_TooMany:W.kitOne K (.ref (af 5)) (.ref (af 7))=some false
 i_NoMap_NoRow:W.kitOne K (.ref (af 6)) (.ref (af 7))=some false
 i_NoMap_NoMap:W.kitOne K (.ref (af 7)) (.ref (af 7))=some true
 i_NoMap_NoBoard:W.kitOne K (.ref (af 8)) (.ref (af 7))=some false
 i_NoMap_IsFixed:W.kitOne K (.ref (af 9)) (.ref (af 7))=some false
 i_NoMap_BadText:W.kitOne K (.ref (af 10)) (.ref (af 7))=some false
 i_NoBoard_0:W.kitOne K (.type "NoneType") (.ref (af 8))=some false
 i_NoBoard_TooMany:W.kitOne K (.ref (af 5)) (.ref (af 8))=some false
 i_NoBoard_NoRow:W.kitOne K (.ref (af 6)) (.ref (af 8))=some false
 i_NoBoard_NoMap:W.kitOne K (.ref (af 7)) (.ref (af 8))=some false
 i_NoBoard_NoBoard:W.kitOne K (.ref (af 8)) (.ref (af 8))=some true
 i_NoBoard_IsFixed:W.kitOne K (.ref (af 9)) (.ref (af 8))=some false
 i_NoBoard_BadText:W.kitOne K (.ref (af 10)) (.ref (af 8))=some false
 k_WalkError:W.nsIn K mainGlobals "WalkError"=some (some (.ref (af 11)))
 e_WalkError:W.excIn K (af 11) bmVE neVE=true
 e_IsFixed:W.excIn K (af 9) bmVE neVE=true
 e_NoRow:W.excIn K (af 6) bmVE neVE=true
 m_TooMany_WalkError:W.mroIn K (af 5) (.ref (af 11))=some true
 m_NoRow_WalkError:W.mroIn K (af 6) (.ref (af 11))=some true
 m_NoMap_WalkError:W.mroIn K (af 7) (.ref (af 11))=some true
 m_NoBoard_WalkError:W.mroIn K (af 8) (.ref (af 11))=some true
 m_IsFixed_WalkError:W.mroIn K (af 9) (.ref (af 11))=some true
 m_BadText_WalkError:W.mroIn K (af 10) (.ref (af 11))=some true
 y_TooMany_most:W.findIn K (.ref (af 5)) "most"=some none
 d_TooMany:W.hasDictIn K (af 5)=true
 y_BadText_row:W.findIn K (.ref (af 10)) "row"=some none
 d_BadText:W.hasDictIn K (af 10)=true
 y_NoMap_at:W.findIn K (.ref (af 7)) "at"=some none
 d_NoMap:W.hasDictIn K (af 7)=true
 y_NoBoard_at:W.findIn K (.ref (af 8)) "at"=some none
 d_NoBoard:W.hasDictIn K (af 8)=true
 i_WalkError_0:W.kitOne K (.type "NoneType") (.ref (af 11))=some false
 i_WalkError_TooMany:W.kitOne K (.ref (af 5)) (.ref (af 11))=some true
 i_WalkError_NoRow:W.kitOne K (.ref (af 6)) (.ref (af 11))=some true
 i_WalkError_NoMap:W.kitOne K (.ref (af 7)) (.ref (af 11))=some true
 i_WalkError_NoBoard:W.kitOne K (.ref (af 8)) (.ref (af 11))=some true
 i_WalkError_IsFixed:W.kitOne K (.ref (af 9)) (.ref (af 11))=some true
 i_WalkError_BadText:W.kitOne K (.ref (af 10)) (.ref (af 11))=some true
 i_ValueError_0:W.kitOne K (.type "NoneType") (.type "ValueError")=some false
 i_ValueError_TooMany:W.kitOne K (.ref (af 5)) (.type "ValueError")=some true
 i_ValueError_NoRow:W.kitOne K (.ref (af 6)) (.type "ValueError")=some true
 i_ValueError_NoMap:W.kitOne K (.ref (af 7)) (.type "ValueError")=some true
 i_ValueError_NoBoard:W.kitOne K (.ref (af 8)) (.type "ValueError")=some true
 i_ValueError_IsFixed:W.kitOne K (.ref (af 9)) (.type "ValueError")=some true
 i_ValueError_BadText:W.kitOne K (.ref (af 10)) (.type "ValueError")=some true
section
variable {P:Program} {w:World} {K:W.Frag} {mg:Str->Option Value} {base:Heap} {af:Nat->Addr}
theorem ok_0 (T:Txt K mg af):FnOk P w K mg base (CXe P w) 1 (af 0) (dO K (af 0)) p_0 (spW K w_0 2):=by
 refine fn_w (k:=0) T.t_0.F sc_0 rfl rfl fun cdv A outer s H E hr=>?_
 exact zai (zaX (za3 (zaS zae (fw 1)) zae) (gnm 2 sc_0.nd))
  (zai (zbe (zaQ (fun _ _=>zf9) zeX (fw 1) (zdj (by rfl) T.n_len (zad (fw 0) zau)) (nomark _)) (zao (zaX (za4 (fw 0) (fw 1)) (gnm 2 sc_0.nd))) (zao (zbe (zaQ (fun _ _=>zeu) zdl (zdj (by rfl) T.n_len (zad (fw 0) zau)) zae (nomark _)) (zao (zaX (za3 (fw 2) (zaS (za9 (za4 (fw 0) (za9 (fw 1) (zdj (by rfl) T.n_len (zad (fw 0) zau)))) zae) zae)) (gnm 2 sc_0.nd))) zaC)))
  (zai (zaX (za3 (za9 (za3 (zaS (za9 (fw 2) zae) zae) (zaS zae (fw 1))) zae) zae) (gnm 3 sc_0.nd))
  (zao (za0 (zce (zad (za4 (zce (zad zae (zad (fw 2) zau))) (ze2 (by rfl) T.n_int zgv (zad (zex (fun _ _=>zf7) ze5 (fw 2) (zeC zae zae) (nomark _)) zau))) (zad (fw 3) zau)))))))
theorem ok_1 (T:Txt K mg af):FnOk P w K mg base (CXe P w) 1 (af 1) (dO K (af 1)) p_1 (spW K w_1 2):=by
 refine fn_w (k:=0) T.t_1.F sc_1 rfl rfl fun cdv A outer s H E hr=>?_
 exact zai (zbe (zaQ (fun _ _=>zeu) zdl (za4 (fw 0) zae) zae (nomark _)) (zai (zaX (za9 (za4 (fw 0) zae) (fw 1)) (gnm 2 sc_1.nd))
  (zai (zcg (j:=0) (fw 0) zae (zdB (za4 (fw 0) zae) (fw 1)))
  (zao (za0 (fw 2))))) zaC)
  (zai (zaX (za9 (zaS (za4 (fw 0) zae) zae) zae) (gnm 3 sc_1.nd))
  (zai (zcg (j:=0) (fw 0) zae (za3 (za9 (za3 (zaS (fw 3) zae) zae) zae) zae))
  (zao (za0 (za9 (zdB (za3 (zaS (fw 3) zae) (za4 (fw 0) zae)) zae) (fw 1))))))
theorem ok_2 (T:Txt K mg af):FnOk P w K mg base (CXe P w) 1 (af 2) (dO K (af 2)) p_2 (spW K w_2 1):=by
 refine fn_w (k:=0) T.t_2.F sc_2 rfl rfl fun cdv A outer s H E hr=>?_
 exact zao (za0 (zce (zad (zaR (by rfl) T.n_isinstance zan (by rfl) T.g_NoBoard (zaa (zaf (by decide +kernel) T.k_BadText) ⟨T.x0_BadText,T.x1_BadText,T.x2_BadText,T.x3_BadText,T.x4_BadText,T.x5_BadText,T.x6_BadText⟩ T.i_NoBoard_BadText (by rfl) (zaa (zaf (by decide +kernel) T.k_IsFixed) ⟨T.x0_IsFixed,T.x1_IsFixed,T.x2_IsFixed,T.x3_IsFixed,T.x4_IsFixed,T.x5_IsFixed,T.x6_IsFixed⟩ T.i_NoBoard_IsFixed (by rfl) (zaa (zaf (by decide +kernel) T.k_NoBoard) ⟨T.x0_NoBoard,T.x1_NoBoard,T.x2_NoBoard,T.x3_NoBoard,T.x4_NoBoard,T.x5_NoBoard,T.x6_NoBoard⟩ T.i_NoBoard_NoBoard (by rfl) (zaa (zaf (by decide +kernel) T.k_NoMap) ⟨T.x0_NoMap,T.x1_NoMap,T.x2_NoMap,T.x3_NoMap,T.x4_NoMap,T.x5_NoMap,T.x6_NoMap⟩ T.i_NoBoard_NoMap (by rfl) (zaa (zaf (by decide +kernel) T.k_NoRow) ⟨T.x0_NoRow,T.x1_NoRow,T.x2_NoRow,T.x3_NoRow,T.x4_NoRow,T.x5_NoRow,T.x6_NoRow⟩ T.i_NoBoard_NoRow (by rfl) (zaa (zaf (by decide +kernel) T.k_TooMany) ⟨T.x0_TooMany,T.x1_TooMany,T.x2_TooMany,T.x3_TooMany,T.x4_TooMany,T.x5_TooMany,T.x6_TooMany⟩ T.i_NoBoard_TooMany (by rfl) (zaK T.i_NoBoard_0))))))) (fw 0)) (zad (zaR (by rfl) T.n_isinstance zan (by rfl) T.g_NoMap (zaa (zaf (by decide +kernel) T.k_BadText) ⟨T.x0_BadText,T.x1_BadText,T.x2_BadText,T.x3_BadText,T.x4_BadText,T.x5_BadText,T.x6_BadText⟩ T.i_NoMap_BadText (by rfl) (zaa (zaf (by decide +kernel) T.k_IsFixed) ⟨T.x0_IsFixed,T.x1_IsFixed,T.x2_IsFixed,T.x3_IsFixed,T.x4_IsFixed,T.x5_IsFixed,T.x6_IsFixed⟩ T.i_NoMap_IsFixed (by rfl) (zaa (zaf (by decide +kernel) T.k_NoBoard) ⟨T.x0_NoBoard,T.x1_NoBoard,T.x2_NoBoard,T.x3_NoBoard,T.x4_NoBoard,T.x5_NoBoard,T.x6_NoBoard⟩ T.i_NoMap_NoBoard (by rfl) (zaa (zaf (by decide +kernel) T.k_NoMap) ⟨T.x0_NoMap,T.x1_NoMap,T.x2_NoMap,T.x3_NoMap,T.x4_NoMap,T.x5_NoMap,T.x6_NoMap⟩ T.i_NoMap_NoMap (by rfl) (zaa (zaf (by decide +kernel) T.k_NoRow) ⟨T.x0_NoRow,T.x1_NoRow,T.x2_NoRow,T.x3_NoRow,T.x4_NoRow,T.x5_NoRow,T.x6_NoRow⟩ T.i_NoMap_NoRow (by rfl) (zaa (zaf (by decide +kernel) T.k_TooMany) ⟨T.x0_TooMany,T.x1_TooMany,T.x2_TooMany,T.x3_TooMany,T.x4_TooMany,T.x5_TooMany,T.x6_TooMany⟩ T.i_NoMap_TooMany (by rfl) (zaK T.i_NoMap_0))))))) (fw 0)) (zad (zaR (by rfl) T.n_isinstance zan (by rfl) T.g_BadText (zaa (zaf (by decide +kernel) T.k_BadText) ⟨T.x0_BadText,T.x1_BadText,T.x2_BadText,T.x3_BadText,T.x4_BadText,T.x5_BadText,T.x6_BadText⟩ T.i_BadText_BadText (by rfl) (zaa (zaf (by decide +kernel) T.k_IsFixed) ⟨T.x0_IsFixed,T.x1_IsFixed,T.x2_IsFixed,T.x3_IsFixed,T.x4_IsFixed,T.x5_IsFixed,T.x6_IsFixed⟩ T.i_BadText_IsFixed (by rfl) (zaa (zaf (by decide +kernel) T.k_NoBoard) ⟨T.x0_NoBoard,T.x1_NoBoard,T.x2_NoBoard,T.x3_NoBoard,T.x4_NoBoard,T.x5_NoBoard,T.x6_NoBoard⟩ T.i_BadText_NoBoard (by rfl) (zaa (zaf (by decide +kernel) T.k_NoMap) ⟨T.x0_NoMap,T.x1_NoMap,T.x2_NoMap,T.x3_NoMap,T.x4_NoMap,T.x5_NoMap,T.x6_NoMap⟩ T.i_BadText_NoMap (by rfl) (zaa (zaf (by decide +kernel) T.k_NoRow) ⟨T.x0_NoRow,T.x1_NoRow,T.x2_NoRow,T.x3_NoRow,T.x4_NoRow,T.x5_NoRow,T.x6_NoRow⟩ T.i_BadText_NoRow (by rfl) (zaa (zaf (by decide +kernel) T.k_TooMany) ⟨T.x0_TooMany,T.x1_TooMany,T.x2_TooMany,T.x3_TooMany,T.x4_TooMany,T.x5_TooMany,T.x6_TooMany⟩ T.i_BadText_TooMany (by rfl) (zaK T.i_BadText_0))))))) (fw 0)) (zad (zaR (by rfl) T.n_isinstance zan (by rfl) T.g_TooMany (zaa (zaf (by decide +kernel) T.k_BadText) ⟨T.x0_BadText,T.x1_BadText,T.x2_BadText,T.x3_BadText,T.x4_BadText,T.x5_BadText,T.x6_BadText⟩ T.i_TooMany_BadText (by rfl) (zaa (zaf (by decide +kernel) T.k_IsFixed) ⟨T.x0_IsFixed,T.x1_IsFixed,T.x2_IsFixed,T.x3_IsFixed,T.x4_IsFixed,T.x5_IsFixed,T.x6_IsFixed⟩ T.i_TooMany_IsFixed (by rfl) (zaa (zaf (by decide +kernel) T.k_NoBoard) ⟨T.x0_NoBoard,T.x1_NoBoard,T.x2_NoBoard,T.x3_NoBoard,T.x4_NoBoard,T.x5_NoBoard,T.x6_NoBoard⟩ T.i_TooMany_NoBoard (by rfl) (zaa (zaf (by decide +kernel) T.k_NoMap) ⟨T.x0_NoMap,T.x1_NoMap,T.x2_NoMap,T.x3_NoMap,T.x4_NoMap,T.x5_NoMap,T.x6_NoMap⟩ T.i_TooMany_NoMap (by rfl) (zaa (zaf (by decide +kernel) T.k_NoRow) ⟨T.x0_NoRow,T.x1_NoRow,T.x2_NoRow,T.x3_NoRow,T.x4_NoRow,T.x5_NoRow,T.x6_NoRow⟩ T.i_TooMany_NoRow (by rfl) (zaa (zaf (by decide +kernel) T.k_TooMany) ⟨T.x0_TooMany,T.x1_TooMany,T.x2_TooMany,T.x3_TooMany,T.x4_TooMany,T.x5_TooMany,T.x6_TooMany⟩ T.i_TooMany_TooMany (by rfl) (zaK T.i_TooMany_0))))))) (fw 0)) (zad (zaR (by rfl) T.n_isinstance zan (by rfl) T.g_IsFixed (zaa (zaf (by decide +kernel) T.k_BadText) ⟨T.x0_BadText,T.x1_BadText,T.x2_BadText,T.x3_BadText,T.x4_BadText,T.x5_BadText,T.x6_BadText⟩ T.i_IsFixed_BadText (by rfl) (zaa (zaf (by decide +kernel) T.k_IsFixed) ⟨T.x0_IsFixed,T.x1_IsFixed,T.x2_IsFixed,T.x3_IsFixed,T.x4_IsFixed,T.x5_IsFixed,T.x6_IsFixed⟩ T.i_IsFixed_IsFixed (by rfl) (zaa (zaf (by decide +kernel) T.k_NoBoard) ⟨T.x0_NoBoard,T.x1_NoBoard,T.x2_NoBoard,T.x3_NoBoard,T.x4_NoBoard,T.x5_NoBoard,T.x6_NoBoard⟩ T.i_IsFixed_NoBoard (by rfl) (zaa (zaf (by decide +kernel) T.k_NoMap) ⟨T.x0_NoMap,T.x1_NoMap,T.x2_NoMap,T.x3_NoMap,T.x4_NoMap,T.x5_NoMap,T.x6_NoMap⟩ T.i_IsFixed_NoMap (by rfl) (zaa (zaf (by decide +kernel) T.k_NoRow) ⟨T.x0_NoRow,T.x1_NoRow,T.x2_NoRow,T.x3_NoRow,T.x4_NoRow,T.x5_NoRow,T.x6_NoRow⟩ T.i_IsFixed_NoRow (by rfl) (zaa (zaf (by decide +kernel) T.k_TooMany) ⟨T.x0_TooMany,T.x1_TooMany,T.x2_TooMany,T.x3_TooMany,T.x4_TooMany,T.x5_TooMany,T.x6_TooMany⟩ T.i_IsFixed_TooMany (by rfl) (zaK T.i_IsFixed_0))))))) (fw 0)) (zad (zaR (by rfl) T.n_isinstance zan (by rfl) T.g_NoRow (zaa (zaf (by decide +kernel) T.k_BadText) ⟨T.x0_BadText,T.x1_BadText,T.x2_BadText,T.x3_BadText,T.x4_BadText,T.x5_BadText,T.x6_BadText⟩ T.i_NoRow_BadText (by rfl) (zaa (zaf (by decide +kernel) T.k_IsFixed) ⟨T.x0_IsFixed,T.x1_IsFixed,T.x2_IsFixed,T.x3_IsFixed,T.x4_IsFixed,T.x5_IsFixed,T.x6_IsFixed⟩ T.i_NoRow_IsFixed (by rfl) (zaa (zaf (by decide +kernel) T.k_NoBoard) ⟨T.x0_NoBoard,T.x1_NoBoard,T.x2_NoBoard,T.x3_NoBoard,T.x4_NoBoard,T.x5_NoBoard,T.x6_NoBoard⟩ T.i_NoRow_NoBoard (by rfl) (zaa (zaf (by decide +kernel) T.k_NoMap) ⟨T.x0_NoMap,T.x1_NoMap,T.x2_NoMap,T.x3_NoMap,T.x4_NoMap,T.x5_NoMap,T.x6_NoMap⟩ T.i_NoRow_NoMap (by rfl) (zaa (zaf (by decide +kernel) T.k_NoRow) ⟨T.x0_NoRow,T.x1_NoRow,T.x2_NoRow,T.x3_NoRow,T.x4_NoRow,T.x5_NoRow,T.x6_NoRow⟩ T.i_NoRow_NoRow (by rfl) (zaa (zaf (by decide +kernel) T.k_TooMany) ⟨T.x0_TooMany,T.x1_TooMany,T.x2_TooMany,T.x3_TooMany,T.x4_TooMany,T.x5_TooMany,T.x6_TooMany⟩ T.i_NoRow_TooMany (by rfl) (zaK T.i_NoRow_0))))))) (fw 0)) zau))))))))
theorem ok_3 (T:Txt K mg af):FnOk P w K mg base (CXe P w) 3 (af 3) (dO K (af 3)) p_3 (spW K w_3 2):=by
 refine fn_w (k:=2) T.t_3.F sc_3 rfl rfl fun cdv A outer s H E hr=>?_
 exact zai (zaX zfD (gnm 2 sc_3.nd))
  (zai (zdw (j:=3) (by decide) (fun j hj=>zba sc_3.nd hj rfl) rfl (by rfl) T.g_WalkError (ck T.e_WalkError) (zav (zaf (by decide +kernel) T.k_BadText) T.j_BadText.e.ck T.m_BadText_WalkError (zav (zaf (by decide +kernel) T.k_IsFixed) (ck T.e_IsFixed) T.m_IsFixed_WalkError (zav (zaf (by decide +kernel) T.k_NoBoard) T.j_NoBoard.e.ck T.m_NoBoard_WalkError (zav (zaf (by decide +kernel) T.k_NoMap) T.j_NoMap.e.ck T.m_NoMap_WalkError (zav (zaf (by decide +kernel) T.k_NoRow) (ck T.e_NoRow) T.m_NoRow_WalkError (zav (zaf (by decide +kernel) T.k_TooMany) T.j_TooMany.e.ck T.m_TooMany_WalkError zcx)))))) (zai (zbe (zaQ (fun _ _=>zbu (u31 hr)) za6 (fw 0) zae (nomark _)) (zao (za2 (by decide +kernel) T.j_NoBoard.e (zbC T.j_NoBoard.F zb7 rfl) T.j_NoBoard.b T.g_NoBoard (zaf (by decide +kernel) T.k_NoBoard) hr (fw 1))) zaC)
  (zai (zbe (zaQ (fun _ _=>zbu (u31 hr)) za6 (fw 0) zae (nomark _)) (zao (za2 (by decide +kernel) T.j_NoMap.e (zbC T.j_NoMap.F zc7 rfl) T.j_NoMap.b T.g_NoMap (zaf (by decide +kernel) T.k_NoMap) hr (zey (fw 1) zae))) zaC)
  (zai (zbe (zaQ (fun _ _=>zbu (u31 hr)) za6 (fw 0) zae (nomark _)) (zao (za2 (by decide +kernel) T.j_BadText.e (zbC T.j_BadText.F zb1 rfl) T.j_BadText.b T.g_BadText (zaf (by decide +kernel) T.k_BadText) hr (fw 1))) zaC)
  (zai (zbe (zaQ (fun _ _=>zbu (u31 hr)) za6 (fw 0) zae (nomark _)) (zao (za2 (by decide +kernel) T.j_TooMany.e (zbC T.j_TooMany.F zcd rfl) T.j_TooMany.b T.g_TooMany (zaf (by decide +kernel) T.k_TooMany) hr (za3 (fw 1) zae))) zaC)
  (zai (zbe (zaQ (fun _ _=>zbu (u31 hr)) za6 (fw 0) zae (nomark _)) (zao (zbS T.g_IsFixed (zaf (by decide +kernel) T.k_IsFixed) T.e_IsFixed)) zaC)
  (zao (zbS T.g_NoRow (zaf (by decide +kernel) T.k_NoRow) T.e_NoRow))))))) (fun _=>zao (zaX (fw 3) (gnm 2 sc_3.nd))))
  (zao (za0 (fw 2))))
theorem ok_4 (T:Txt K mg af):FnOk P w K mg base (CXe P w) 4 (af 4) (dO K (af 4)) p_4 (spW K w_4 1):=by
 refine fn_w (k:=3) T.t_4.F sc_4 rfl rfl fun cdv A outer s H E hr=>?_
 exact zai (zaX (fcl [true,true] T.t_0 (ok_0 T) hr (zad (fw 0) (zad zae zau))) (gnm 1 sc_4.nd))
  (zai (zfS (zbV (i:=2) (by decide) (fun j hj=>zba sc_4.nd hj rfl) rfl (by rfl) (by rfl) (vars:=["_law_k"]) rfl (by rfl) (compSc (by kernel_rfl)) rfl (zbn (by rfl) T.n_range zae) (fun _ _ _=>gcm 9) (fun _ _ _=>zbF) (fun _ _ _=>za4 (zce (zad (fcl [true,true] T.t_1 (ok_1 T) hr (zad (fw 1) (zad zae zau))) (zad (fcl [true,true] T.t_1 (ok_1 T) hr (zad (fw 1) (zad (zeC zae zae) zau))) zau))) (fcl [true,true] T.t_1 (ok_1 T) hr (zad (fw 1) (zad zae zau))))))
  (zai (zfS (zbV (i:=3) (by decide) (fun j hj=>zba sc_4.nd hj rfl) rfl (by rfl) (by rfl) (vars:=["_law_number"]) rfl (by rfl) (compSc (by kernel_rfl)) rfl (zgm (fw 2)) (fun _ _ _=>gcm 9) (fun _ _ _=>zbF) (fun _ _ _=>zeq (zeE (vars:=["_law_k"]) rfl (by rfl) (compSc (by kernel_rfl)) rfl (zbn (by rfl) T.n_range zae) (fun _ _ _=>gcm 11) (fun _ _ _=>zbF) (fun _ _ _=>zeq (fcl [true,true] T.t_3 (ok_3 T) hr (zad (fw 11) (zad (fw 9) zau))))))))
  (zai (zeB (by rfl) (zgl (by rfl) (by rfl) T.n_zip zgL (fw 3) (fw 2)) (zeA (by rfl) (zbc (gnm 4 sc_4.nd) (zbc (gnm 5 sc_4.nd) zcI))) (zai (zbe (zaQ (fun _ _=>zeF (u32 hr)) zdf (zeI (zad (zbD (zaN (zaf (by decide +kernel) T.k_NoBoard) ⟨T.x0_NoBoard,T.x1_NoBoard,T.x2_NoBoard,T.x3_NoBoard,T.x4_NoBoard,T.x5_NoBoard,T.x6_NoBoard⟩ T.y_NoBoard_at T.d_NoBoard (zaN (zaf (by decide +kernel) T.k_NoMap) ⟨T.x0_NoMap,T.x1_NoMap,T.x2_NoMap,T.x3_NoMap,T.x4_NoMap,T.x5_NoMap,T.x6_NoMap⟩ T.y_NoMap_at T.d_NoMap zbI)) (by decide +kernel) (za4 (fw 4) zae)) (zad (zbD (zaN (zaf (by decide +kernel) T.k_NoBoard) ⟨T.x0_NoBoard,T.x1_NoBoard,T.x2_NoBoard,T.x3_NoBoard,T.x4_NoBoard,T.x5_NoBoard,T.x6_NoBoard⟩ T.y_NoBoard_at T.d_NoBoard (zaN (zaf (by decide +kernel) T.k_NoMap) ⟨T.x0_NoMap,T.x1_NoMap,T.x2_NoMap,T.x3_NoMap,T.x4_NoMap,T.x5_NoMap,T.x6_NoMap⟩ T.y_NoMap_at T.d_NoMap zbI)) (by decide +kernel) (za4 (fw 4) zae)) (zad (zbD (zaN (zaf (by decide +kernel) T.k_BadText) ⟨T.x0_BadText,T.x1_BadText,T.x2_BadText,T.x3_BadText,T.x4_BadText,T.x5_BadText,T.x6_BadText⟩ T.y_BadText_row T.d_BadText zbI) (by decide +kernel) (za4 (fw 4) zae)) (zad (zbD (zaN (zaf (by decide +kernel) T.k_TooMany) ⟨T.x0_TooMany,T.x1_TooMany,T.x2_TooMany,T.x3_TooMany,T.x4_TooMany,T.x5_TooMany,T.x6_TooMany⟩ T.y_TooMany_most T.d_TooMany zbI) (by decide +kernel) (za4 (fw 4) zae)) zau))))) (zeI (zad (fw 5) (zad (zey (fw 5) zae) (zad (fw 5) (zad (za3 (fw 5) zae) zau))))) (nomark _)) (zao (za0 zeb)) zaC)
  (zao (zeB (by rfl) (zfr (by rfl) (by rfl) T.n_enumerate zbT (fw 4)) (zeA (by rfl) (zbc (gnm 6 sc_4.nd) (zbc (gnm 7 sc_4.nd) zcI))) (zai (zbe (ziE (zhm (zaQ (fun _ _=>zeF (u32 hr)) zdf (fcl [true] T.t_2 (ok_2 T) hr (zad (fw 7) zau)) (zeE (vars:=["_law_j"]) rfl (by rfl) (compSc (by kernel_rfl)) rfl (zbn (by rfl) T.n_range zae) (fun _ _ _=>gcm 9) (fun _ _ _=>zbF) (fun _ _ _=>zex (fun _ _=>zbu (u31 hr)) za6 (fw 9) (fw 6) (nomark _))) (nomark _)) (zgF (zeD (zeo (zaR (by rfl) T.n_isinstance zan (by rfl) T.g_WalkError (zaa (zaf (by decide +kernel) T.k_BadText) ⟨T.x0_BadText,T.x1_BadText,T.x2_BadText,T.x3_BadText,T.x4_BadText,T.x5_BadText,T.x6_BadText⟩ T.i_WalkError_BadText (by rfl) (zaa (zaf (by decide +kernel) T.k_IsFixed) ⟨T.x0_IsFixed,T.x1_IsFixed,T.x2_IsFixed,T.x3_IsFixed,T.x4_IsFixed,T.x5_IsFixed,T.x6_IsFixed⟩ T.i_WalkError_IsFixed (by rfl) (zaa (zaf (by decide +kernel) T.k_NoBoard) ⟨T.x0_NoBoard,T.x1_NoBoard,T.x2_NoBoard,T.x3_NoBoard,T.x4_NoBoard,T.x5_NoBoard,T.x6_NoBoard⟩ T.i_WalkError_NoBoard (by rfl) (zaa (zaf (by decide +kernel) T.k_NoMap) ⟨T.x0_NoMap,T.x1_NoMap,T.x2_NoMap,T.x3_NoMap,T.x4_NoMap,T.x5_NoMap,T.x6_NoMap⟩ T.i_WalkError_NoMap (by rfl) (zaa (zaf (by decide +kernel) T.k_NoRow) ⟨T.x0_NoRow,T.x1_NoRow,T.x2_NoRow,T.x3_NoRow,T.x4_NoRow,T.x5_NoRow,T.x6_NoRow⟩ T.i_WalkError_NoRow (by rfl) (zaa (zaf (by decide +kernel) T.k_TooMany) ⟨T.x0_TooMany,T.x1_TooMany,T.x2_TooMany,T.x3_TooMany,T.x4_TooMany,T.x5_TooMany,T.x6_TooMany⟩ T.i_WalkError_TooMany (by rfl) (zaK T.i_WalkError_0))))))) (fw 7))))))) (zao (za0 zeb)) zaC)
  (zao (zbe (zeD (zeo (zfa (by rfl) T.n_isinstance zan (by rfl) T.n_ValueError zbH (zaa (zaf (by decide +kernel) T.k_BadText) ⟨T.x0_BadText,T.x1_BadText,T.x2_BadText,T.x3_BadText,T.x4_BadText,T.x5_BadText,T.x6_BadText⟩ T.i_ValueError_BadText (by rfl) (zaa (zaf (by decide +kernel) T.k_IsFixed) ⟨T.x0_IsFixed,T.x1_IsFixed,T.x2_IsFixed,T.x3_IsFixed,T.x4_IsFixed,T.x5_IsFixed,T.x6_IsFixed⟩ T.i_ValueError_IsFixed (by rfl) (zaa (zaf (by decide +kernel) T.k_NoBoard) ⟨T.x0_NoBoard,T.x1_NoBoard,T.x2_NoBoard,T.x3_NoBoard,T.x4_NoBoard,T.x5_NoBoard,T.x6_NoBoard⟩ T.i_ValueError_NoBoard (by rfl) (zaa (zaf (by decide +kernel) T.k_NoMap) ⟨T.x0_NoMap,T.x1_NoMap,T.x2_NoMap,T.x3_NoMap,T.x4_NoMap,T.x5_NoMap,T.x6_NoMap⟩ T.i_ValueError_NoMap (by rfl) (zaa (zaf (by decide +kernel) T.k_NoRow) ⟨T.x0_NoRow,T.x1_NoRow,T.x2_NoRow,T.x3_NoRow,T.x4_NoRow,T.x5_NoRow,T.x6_NoRow⟩ T.i_ValueError_NoRow (by rfl) (zaa (zaf (by decide +kernel) T.k_TooMany) ⟨T.x0_TooMany,T.x1_TooMany,T.x2_TooMany,T.x3_TooMany,T.x4_TooMany,T.x5_TooMany,T.x6_TooMany⟩ T.i_ValueError_TooMany (by rfl) (zaK T.i_ValueError_0))))))) (fw 7)))) (zao (za0 zeb)) zaC)))))))
  (zao (za0 zeb)))))
end
theorem all_mk {l:W.OpenLaw} {w:World} {K:W.Frag} {h:Heap} {mg:Str->Option Value} {fa:Addr} (X:K.In h) (G:h.Ns mainGlobals mg) (hfa:mg "law"=some (.ref fa))
  {f_0 f_1 f_2 f_3 f_4:Addr}
  (h_0:Lk K "_law_box" s_0 f_0)
  (h_1:Lk K "_law_take" s_1 f_1)
  (h_2:Lk K "_law_kinds" s_2 f_2)
  (h_3:Lk K "_law_caught" s_3 f_3)
  (h_4:Lk K "law" s_4 f_4)
  (z_ValueError:W.nsIn K mainGlobals "ValueError"=some none)
  (z_enumerate:W.nsIn K mainGlobals "enumerate"=some none)
  (z_int:W.nsIn K mainGlobals "int"=some none)
  (z_isinstance:W.nsIn K mainGlobals "isinstance"=some none)
  (z_len:W.nsIn K mainGlobals "len"=some none)
  (z_range:W.nsIn K mainGlobals "range"=some none)
  (z_zip:W.nsIn K mainGlobals "zip"=some none)
  {C_TooMany C_NoRow C_NoMap C_NoBoard C_IsFixed C_BadText C_WalkError C_i_NoBoard C_i_NoMap C_i_BadText C_i_TooMany:Addr}
  (j_NoBoard:Ci K C_NoBoard C_WalkError C_i_NoBoard "NoBoard.__init__" "at" (initOf (top 2)))
  (j_NoMap:Ci K C_NoMap C_WalkError C_i_NoMap "NoMap.__init__" "at" (initOf (top 3)))
  (j_BadText:Ci K C_BadText C_WalkError C_i_BadText "BadText.__init__" "row" (initOf (top 4)))
  (j_TooMany:Ci K C_TooMany C_WalkError C_i_TooMany "TooMany.__init__" "most" (initOf (top 6)))
  (i_NoRow_0:W.kitOne K (.type "NoneType") (.ref C_NoRow)=some false)
  (k_TooMany:W.nsIn K mainGlobals "TooMany"=some (some (.ref C_TooMany)))
  (x0_TooMany:W.findIn K (.ref C_TooMany) "__getattribute__"=some (some (.builtin "BaseException.__getattribute__")))
  (x1_TooMany:W.findIn K (.ref C_TooMany) "__getattr__"=some none)
  (x2_TooMany:W.findIn K (.ref C_TooMany) "__class__"=some (some (.builtin "object.__class__")))
  (x3_TooMany:W.specialIn K (.builtin "object.__class__") "__get__"=some (some (.builtin "getset_descriptor.__get__")))
  (x4_TooMany:W.takesIn K (.builtin "object.__class__")=some true)
  (x5_TooMany:W.mroIn K C_TooMany (.type "object")=some true)
  (x6_TooMany:W.mroIn K C_TooMany (.type "BaseException")=some true)
  (i_NoRow_TooMany:W.kitOne K (.ref C_TooMany) (.ref C_NoRow)=some false)
  (k_NoRow:W.nsIn K mainGlobals "NoRow"=some (some (.ref C_NoRow)))
  (x0_NoRow:W.findIn K (.ref C_NoRow) "__getattribute__"=some (some (.builtin "BaseException.__getattribute__")))
  (x1_NoRow:W.findIn K (.ref C_NoRow) "__getattr__"=some none)
  (x2_NoRow:W.findIn K (.ref C_NoRow) "__class__"=some (some (.builtin "object.__class__")))
  (x3_NoRow:W.specialIn K (.builtin "object.__class__") "__get__"=some (some (.builtin "getset_descriptor.__get__")))
  (x4_NoRow:W.takesIn K (.builtin "object.__class__")=some true)
  (x5_NoRow:W.mroIn K C_NoRow (.type "object")=some true)
  (x6_NoRow:W.mroIn K C_NoRow (.type "BaseException")=some true)
  (i_NoRow_NoRow:W.kitOne K (.ref C_NoRow) (.ref C_NoRow)=some true)
  (k_NoMap:W.nsIn K mainGlobals "NoMap"=some (some (.ref C_NoMap)))
  (x0_NoMap:W.findIn K (.ref C_NoMap) "__getattribute__"=some (some (.builtin "BaseException.__getattribute__")))
  (x1_NoMap:W.findIn K (.ref C_NoMap) "__getattr__"=some none)
  (x2_NoMap:W.findIn K (.ref C_NoMap) "__class__"=some (some (.builtin "object.__class__")))
  (x3_NoMap:W.specialIn K (.builtin "object.__class__") "__get__"=some (some (.builtin "getset_descriptor.__get__")))
  (x4_NoMap:W.takesIn K (.builtin "object.__class__")=some true)
  (x5_NoMap:W.mroIn K C_NoMap (.type "object")=some true)
  (x6_NoMap:W.mroIn K C_NoMap (.type "BaseException")=some true)
  (i_NoRow_NoMap:W.kitOne K (.ref C_NoMap) (.ref C_NoRow)=some false)
  (k_NoBoard:W.nsIn K mainGlobals "NoBoard"=some (some (.ref C_NoBoard)))
  (x0_NoBoard:W.findIn K (.ref C_NoBoard) "__getattribute__"=some (some (.builtin "BaseException.__getattribute__")))
  (x1_NoBoard:W.findIn K (.ref C_NoBoard) "__getattr__"=some none)
  (x2_NoBoard:W.findIn K (.ref C_NoBoard) "__class__"=some (some (.builtin "object.__class__")))
  (x3_NoBoard:W.specialIn K (.builtin "object.__class__") "__get__"=some (some (.builtin "getset_descriptor.__get__")))
  (x4_NoBoard:W.takesIn K (.builtin "object.__class__")=some true)
  (x5_NoBoard:W.mroIn K C_NoBoard (.type "object")=some true)
  (x6_NoBoard:W.mroIn K C_NoBoard (.type "BaseException")=some true)
  (i_NoRow_NoBoard:W.kitOne K (.ref C_NoBoard) (.ref C_NoRow)=some false)
  (k_IsFixed:W.nsIn K mainGlobals "IsFixed"=some (some (.ref C_IsFixed)))
  (x0_IsFixed:W.findIn K (.ref C_IsFixed) "__getattribute__"=some (some (.builtin "BaseException.__getattribute__")))
  (x1_IsFixed:W.findIn K (.ref C_IsFixed) "__getattr__"=some none)
  (x2_IsFixed:W.findIn K (.ref C_IsFixed) "__class__"=some (some (.builtin "object.__class__")))
  (x3_IsFixed:W.specialIn K (.builtin "object.__class__") "__get__"=some (some (.builtin "getset_descriptor.__get__")))
  (x4_IsFixed:W.takesIn K (.builtin "object.__class__")=some true)
  (x5_IsFixed:W.mroIn K C_IsFixed (.type "object")=some true)
  (x6_IsFixed:W.mroIn K C_IsFixed (.type "BaseException")=some true)
  (i_NoRow_IsFixed:W.kitOne K (.ref C_IsFixed) (.ref C_NoRow)=some false)
  (k_BadText:W.nsIn K mainGlobals "BadText"=some (some (.ref C_BadText)))
  (x0_BadText:W.findIn K (.ref C_BadText) "__getattribute__"=some (some (.builtin "BaseException.__getattribute__")))
  (x1_BadText:W.findIn K (.ref C_BadText) "__getattr__"=some none)
  (x2_BadText:W.findIn K (.ref C_BadText) "__class__"=some (some (.builtin "object.__class__")))
  (x3_BadText:W.specialIn K (.builtin "object.__class__") "__get__"=some (some (.builtin "getset_descriptor.__get__")))
  (x4_BadText:W.takesIn K (.builtin "object.__class__")=some true)
  (x5_BadText:W.mroIn K C_BadText (.type "object")=some true)
  (x6_BadText:W.mroIn K C_BadText (.type "BaseException")=some true)
  (i_NoRow_BadText:W.kitOne K (.ref C_BadText) (.ref C_NoRow)=some false)
  (i_IsFixed_0:W.kitOne K (.type "NoneType") (.ref C_IsFixed)=some false)
  (i_IsFixed_TooMany:W.kitOne K (.ref C_TooMany) (.ref C_IsFixed)=some false)
  (i_IsFixed_NoRow:W.kitOne K (.ref C_NoRow) (.ref C_IsFixed)=some false)
  (i_IsFixed_NoMap:W.kitOne K (.ref C_NoMap) (.ref C_IsFixed)=some false)
  (i_IsFixed_NoBoard:W.kitOne K (.ref C_NoBoard) (.ref C_IsFixed)=some false)
  (i_IsFixed_IsFixed:W.kitOne K (.ref C_IsFixed) (.ref C_IsFixed)=some true)
  (i_IsFixed_BadText:W.kitOne K (.ref C_BadText) (.ref C_IsFixed)=some false)
  (i_TooMany_0:W.kitOne K (.type "NoneType") (.ref C_TooMany)=some false)
  (i_TooMany_TooMany:W.kitOne K (.ref C_TooMany) (.ref C_TooMany)=some true)
  (i_TooMany_NoRow:W.kitOne K (.ref C_NoRow) (.ref C_TooMany)=some false)
  (i_TooMany_NoMap:W.kitOne K (.ref C_NoMap) (.ref C_TooMany)=some false)
  (i_TooMany_NoBoard:W.kitOne K (.ref C_NoBoard) (.ref C_TooMany)=some false)
  (i_TooMany_IsFixed:W.kitOne K (.ref C_IsFixed) (.ref C_TooMany)=some false)
  (i_TooMany_BadText:W.kitOne K (.ref C_BadText) (.ref C_TooMany)=some false)
  (i_BadText_0:W.kitOne K (.type "NoneType") (.ref C_BadText)=some false)
  (i_BadText_TooMany:W.kitOne K (.ref C_TooMany) (.ref C_BadText)=some false)
  (i_BadText_NoRow:W.kitOne K (.ref C_NoRow) (.ref C_BadText)=some false)
  (i_BadText_NoMap:W.kitOne K (.ref C_NoMap) (.ref C_BadText)=some false)
  (i_BadText_NoBoard:W.kitOne K (.ref C_NoBoard) (.ref C_BadText)=some false)
  (i_BadText_IsFixed:W.kitOne K (.ref C_IsFixed) (.ref C_BadText)=some false)
  (i_BadText_BadText:W.kitOne K (.ref C_BadText) (.ref C_BadText)=some true)
  (i_NoMap_0:W.kitOne K (.type "NoneType") (.ref C_NoMap)=some false)
  (i_NoMap_TooMany:W.kitOne K (.ref C_TooMany) (.ref C_NoMap)=some false)
  (i_NoMap_NoRow:W.kitOne K (.ref C_NoRow) (.ref C_NoMap)=some false)
  (i_NoMap_NoMap:W.kitOne K (.ref C_NoMap) (.ref C_NoMap)=some true)
  (i_NoMap_NoBoard:W.kitOne K (.ref C_NoBoard) (.ref C_NoMap)=some false)
  (i_NoMap_IsFixed:W.kitOne K (.ref C_IsFixed) (.ref C_NoMap)=some false)
  (i_NoMap_BadText:W.kitOne K (.ref C_BadText) (.ref C_NoMap)=some false)
  (i_NoBoard_0:W.kitOne K (.type "NoneType") (.ref C_NoBoard)=some false)
  (i_NoBoard_TooMany:W.kitOne K (.ref C_TooMany) (.ref C_NoBoard)=some false)
  (i_NoBoard_NoRow:W.kitOne K (.ref C_NoRow) (.ref C_NoBoard)=some false)
  (i_NoBoard_NoMap:W.kitOne K (.ref C_NoMap) (.ref C_NoBoard)=some false)
  (i_NoBoard_NoBoard:W.kitOne K (.ref C_NoBoard) (.ref C_NoBoard)=some true)
  (i_NoBoard_IsFixed:W.kitOne K (.ref C_IsFixed) (.ref C_NoBoard)=some false)
  (i_NoBoard_BadText:W.kitOne K (.ref C_BadText) (.ref C_NoBoard)=some false)
  (k_WalkError:W.nsIn K mainGlobals "WalkError"=some (some (.ref C_WalkError)))
  (e_WalkError:W.excIn K C_WalkError bmVE neVE=true)
  (e_IsFixed:W.excIn K C_IsFixed bmVE neVE=true)
  (e_NoRow:W.excIn K C_NoRow bmVE neVE=true)
  (m_TooMany_WalkError:W.mroIn K C_TooMany (.ref C_WalkError)=some true)
  (m_NoRow_WalkError:W.mroIn K C_NoRow (.ref C_WalkError)=some true)
  (m_NoMap_WalkError:W.mroIn K C_NoMap (.ref C_WalkError)=some true)
  (m_NoBoard_WalkError:W.mroIn K C_NoBoard (.ref C_WalkError)=some true)
  (m_IsFixed_WalkError:W.mroIn K C_IsFixed (.ref C_WalkError)=some true)
  (m_BadText_WalkError:W.mroIn K C_BadText (.ref C_WalkError)=some true)
  (y_TooMany_most:W.findIn K (.ref C_TooMany) "most"=some none)
  (d_TooMany:W.hasDictIn K C_TooMany=true)
  (y_BadText_row:W.findIn K (.ref C_BadText) "row"=some none)
  (d_BadText:W.hasDictIn K C_BadText=true)
  (y_NoMap_at:W.findIn K (.ref C_NoMap) "at"=some none)
  (d_NoMap:W.hasDictIn K C_NoMap=true)
  (y_NoBoard_at:W.findIn K (.ref C_NoBoard) "at"=some none)
  (d_NoBoard:W.hasDictIn K C_NoBoard=true)
  (i_WalkError_0:W.kitOne K (.type "NoneType") (.ref C_WalkError)=some false)
  (i_WalkError_TooMany:W.kitOne K (.ref C_TooMany) (.ref C_WalkError)=some true)
  (i_WalkError_NoRow:W.kitOne K (.ref C_NoRow) (.ref C_WalkError)=some true)
  (i_WalkError_NoMap:W.kitOne K (.ref C_NoMap) (.ref C_WalkError)=some true)
  (i_WalkError_NoBoard:W.kitOne K (.ref C_NoBoard) (.ref C_WalkError)=some true)
  (i_WalkError_IsFixed:W.kitOne K (.ref C_IsFixed) (.ref C_WalkError)=some true)
  (i_WalkError_BadText:W.kitOne K (.ref C_BadText) (.ref C_WalkError)=some true)
  (i_ValueError_0:W.kitOne K (.type "NoneType") (.type "ValueError")=some false)
  (i_ValueError_TooMany:W.kitOne K (.ref C_TooMany) (.type "ValueError")=some true)
  (i_ValueError_NoRow:W.kitOne K (.ref C_NoRow) (.type "ValueError")=some true)
  (i_ValueError_NoMap:W.kitOne K (.ref C_NoMap) (.type "ValueError")=some true)
  (i_ValueError_NoBoard:W.kitOne K (.ref C_NoBoard) (.type "ValueError")=some true)
  (i_ValueError_IsFixed:W.kitOne K (.ref C_IsFixed) (.type "ValueError")=some true)
  (i_ValueError_BadText:W.kitOne K (.ref C_BadText) (.type "ValueError")=some true):
  ∃ fd:FuncData,(∀ (s:Shared) (v:Value),BindsTo s fd ⟨[v],[]⟩ [("_law_script",v)])/\∀ base:Heap,K.In base->base.Ns mainGlobals mg->FnOk l.prog w K mg base (CXe l.prog w) 4 fa fd ["_law_script"] (spW K w_4 1):=by
 have e:=hfa.symm.trans (h_4.mm X G)
 cases e
 have T:Txt K mg (fun n=>[f_0,f_1,f_2,f_3,fa,C_TooMany,C_NoRow,C_NoMap,C_NoBoard,C_IsFixed,C_BadText,C_WalkError,C_i_NoBoard,C_i_NoMap,C_i_BadText,C_i_TooMany].getD n 0):=⟨h_0.tx X G,h_1.tx X G,h_2.tx X G,h_3.tx X G,h_4.tx X G,W.mg_none_of X G z_ValueError,W.mg_none_of X G z_enumerate,W.mg_none_of X G z_int,W.mg_none_of X G z_isinstance,W.mg_none_of X G z_len,W.mg_none_of X G z_range,W.mg_none_of X G z_zip,j_NoBoard.ix e_WalkError,j_NoMap.ix e_WalkError,j_BadText.ix e_WalkError,j_TooMany.ix e_WalkError,W.mg_of X G k_TooMany,W.mg_of X G k_NoRow,W.mg_of X G k_NoMap,W.mg_of X G k_NoBoard,W.mg_of X G k_IsFixed,W.mg_of X G k_BadText,W.mg_of X G k_WalkError,i_NoRow_0,k_TooMany,x0_TooMany,x1_TooMany,x2_TooMany,x3_TooMany,x4_TooMany,x5_TooMany,x6_TooMany,i_NoRow_TooMany,k_NoRow,x0_NoRow,x1_NoRow,x2_NoRow,x3_NoRow,x4_NoRow,x5_NoRow,x6_NoRow,i_NoRow_NoRow,k_NoMap,x0_NoMap,x1_NoMap,x2_NoMap,x3_NoMap,x4_NoMap,x5_NoMap,x6_NoMap,i_NoRow_NoMap,k_NoBoard,x0_NoBoard,x1_NoBoard,x2_NoBoard,x3_NoBoard,x4_NoBoard,x5_NoBoard,x6_NoBoard,i_NoRow_NoBoard,k_IsFixed,x0_IsFixed,x1_IsFixed,x2_IsFixed,x3_IsFixed,x4_IsFixed,x5_IsFixed,x6_IsFixed,i_NoRow_IsFixed,k_BadText,x0_BadText,x1_BadText,x2_BadText,x3_BadText,x4_BadText,x5_BadText,x6_BadText,i_NoRow_BadText,i_IsFixed_0,i_IsFixed_TooMany,i_IsFixed_NoRow,i_IsFixed_NoMap,i_IsFixed_NoBoard,i_IsFixed_IsFixed,i_IsFixed_BadText,i_TooMany_0,i_TooMany_TooMany,i_TooMany_NoRow,i_TooMany_NoMap,i_TooMany_NoBoard,i_TooMany_IsFixed,i_TooMany_BadText,i_BadText_0,i_BadText_TooMany,i_BadText_NoRow,i_BadText_NoMap,i_BadText_NoBoard,i_BadText_IsFixed,i_BadText_BadText,i_NoMap_0,i_NoMap_TooMany,i_NoMap_NoRow,i_NoMap_NoMap,i_NoMap_NoBoard,i_NoMap_IsFixed,i_NoMap_BadText,i_NoBoard_0,i_NoBoard_TooMany,i_NoBoard_NoRow,i_NoBoard_NoMap,i_NoBoard_NoBoard,i_NoBoard_IsFixed,i_NoBoard_BadText,k_WalkError,e_WalkError,e_IsFixed,e_NoRow,m_TooMany_WalkError,m_NoRow_WalkError,m_NoMap_WalkError,m_NoBoard_WalkError,m_IsFixed_WalkError,m_BadText_WalkError,y_TooMany_most,d_TooMany,y_BadText_row,d_BadText,y_NoMap_at,d_NoMap,y_NoBoard_at,d_NoBoard,i_WalkError_0,i_WalkError_TooMany,i_WalkError_NoRow,i_WalkError_NoMap,i_WalkError_NoBoard,i_WalkError_IsFixed,i_WalkError_BadText,i_ValueError_0,i_ValueError_TooMany,i_ValueError_NoRow,i_ValueError_NoMap,i_ValueError_NoBoard,i_ValueError_IsFixed,i_ValueError_BadText⟩
 exact ⟨_,fun s v=>h_4.bt s v,fun base _ _=>ok_4 T⟩
theorem walk {l:W.OpenLaw} {q:Program} {loose:List Str} {XP:(Str->Option Value)->Heap->Prop} {YP:World->Heap->Prop} {d:DefRec} {K:Params->W.Frag} (hn:l.most=some 63) (hdf:d.params.defaults=[])
  (hY:∀ (w:World) (h:Heap),YP w h->(K w.params).In h)
  (F:∀ (w:World) (mg:Str->Option Value) (fa:Addr) (h:Heap),(K w.params).In h->h.Ns mainGlobals mg->mg d.name=some (.ref fa)->
   ∃ fd:FuncData,(∀ (s:Shared) (u:Value),BindsTo s fd ⟨[u],[]⟩ [("_law_script",u)])/\∀ base:Heap,(K w.params).In base->base.Ns mainGlobals mg->FnOk l.prog w (K w.params) mg base (CXe l.prog w) 4 fa fd ["_law_script"] (spW (K w.params) w_4 1)):
  W.WalkO q loose XP YP l.row.toRowW d [] (fun f vs=>PySem.call f vs):=
 L2.walk_of (n:=63) (k:=4) (x:="_law_script") (CX:=fun w=>CXe l.prog w) (sp:=fun w=>spW (K w.params) w_4 1) hn (by decide) hdf ⟨rfl,by decide,by decide,rfl⟩ hY F (fun _ H a ns hl _ hS=>zgM pure_law H a ns hl hS) fun _ _ _ _ _ ⟨_,_,_,_,_,_,_,_,_,q,_⟩=>q
end Law
end
open PySem PySem.W PyProof.Rows
set_option maxRecDepth 100000 in
set_option maxHeartbeats 0 in
theorem PySem.Challenge.cw_walktold_k03_refusals_holds : PySem.Challenge.rw_walktold_k03_refusals.Holds := by
 w_on; o_law; k_head; (case hw=>w_witness2)
 k_fill
 refine Law.walk (l:=PySem.Challenge.rw_walktold_k03_refusals) rfl rfl (fun w h Y=>PySem.W.kIn_of Y) ?F
 case F=>
  intro w mg fa h KX G hmg
  refine' Law.all_mk KX G hmg ⟨?a_0,?l_0,?c_0,?k_0⟩ ⟨?a_1,?l_1,?c_1,?k_1⟩ ⟨?a_2,?l_2,?c_2,?k_2⟩ ⟨?a_3,?l_3,?c_3,?k_3⟩ ⟨?a_4,?l_4,?c_4,?k_4⟩ ?z_ValueError ?z_enumerate ?z_int ?z_isinstance ?z_len ?z_range ?z_zip ⟨?aj_NoBoard,?ij_NoBoard,?lj_NoBoard,?cj_NoBoard,?kj_NoBoard,?tj_NoBoard,?sj_NoBoard,?zj_NoBoard⟩ ⟨?aj_NoMap,?ij_NoMap,?lj_NoMap,?cj_NoMap,?kj_NoMap,?tj_NoMap,?sj_NoMap,?zj_NoMap⟩ ⟨?aj_BadText,?ij_BadText,?lj_BadText,?cj_BadText,?kj_BadText,?tj_BadText,?sj_BadText,?zj_BadText⟩ ⟨?aj_TooMany,?ij_TooMany,?lj_TooMany,?cj_TooMany,?kj_TooMany,?tj_TooMany,?sj_TooMany,?zj_TooMany⟩ ?i_NoRow_0 ?k_TooMany ?x0_TooMany ?x1_TooMany ?x2_TooMany ?x3_TooMany ?x4_TooMany ?x5_TooMany ?x6_TooMany ?i_NoRow_TooMany ?k_NoRow ?x0_NoRow ?x1_NoRow ?x2_NoRow ?x3_NoRow ?x4_NoRow ?x5_NoRow ?x6_NoRow ?i_NoRow_NoRow ?k_NoMap ?x0_NoMap ?x1_NoMap ?x2_NoMap ?x3_NoMap ?x4_NoMap ?x5_NoMap ?x6_NoMap ?i_NoRow_NoMap ?k_NoBoard ?x0_NoBoard ?x1_NoBoard ?x2_NoBoard ?x3_NoBoard ?x4_NoBoard ?x5_NoBoard ?x6_NoBoard ?i_NoRow_NoBoard ?k_IsFixed ?x0_IsFixed ?x1_IsFixed ?x2_IsFixed ?x3_IsFixed ?x4_IsFixed ?x5_IsFixed ?x6_IsFixed ?i_NoRow_IsFixed ?k_BadText ?x0_BadText ?x1_BadText ?x2_BadText ?x3_BadText ?x4_BadText ?x5_BadText ?x6_BadText ?i_NoRow_BadText ?i_IsFixed_0 ?i_IsFixed_TooMany ?i_IsFixed_NoRow ?i_IsFixed_NoMap ?i_IsFixed_NoBoard ?i_IsFixed_IsFixed ?i_IsFixed_BadText ?i_TooMany_0 ?i_TooMany_TooMany ?i_TooMany_NoRow ?i_TooMany_NoMap ?i_TooMany_NoBoard ?i_TooMany_IsFixed ?i_TooMany_BadText ?i_BadText_0 ?i_BadText_TooMany ?i_BadText_NoRow ?i_BadText_NoMap ?i_BadText_NoBoard ?i_BadText_IsFixed ?i_BadText_BadText ?i_NoMap_0 ?i_NoMap_TooMany ?i_NoMap_NoRow ?i_NoMap_NoMap ?i_NoMap_NoBoard ?i_NoMap_IsFixed ?i_NoMap_BadText ?i_NoBoard_0 ?i_NoBoard_TooMany ?i_NoBoard_NoRow ?i_NoBoard_NoMap ?i_NoBoard_NoBoard ?i_NoBoard_IsFixed ?i_NoBoard_BadText ?k_WalkError ?e_WalkError ?e_IsFixed ?e_NoRow ?m_TooMany_WalkError ?m_NoRow_WalkError ?m_NoMap_WalkError ?m_NoBoard_WalkError ?m_IsFixed_WalkError ?m_BadText_WalkError ?y_TooMany_most ?d_TooMany ?y_BadText_row ?d_BadText ?y_NoMap_at ?d_NoMap ?y_NoBoard_at ?d_NoBoard ?i_WalkError_0 ?i_WalkError_TooMany ?i_WalkError_NoRow ?i_WalkError_NoMap ?i_WalkError_NoBoard ?i_WalkError_IsFixed ?i_WalkError_BadText ?i_ValueError_0 ?i_ValueError_TooMany ?i_ValueError_NoRow ?i_ValueError_NoMap ?i_ValueError_NoBoard ?i_ValueError_IsFixed ?i_ValueError_BadText
  case a_0 | l_0 | c_0 | k_0 | a_1 | l_1 | c_1 | k_1 | a_2 | l_2 | c_2 | k_2 | a_3 | l_3 | c_3 | k_3 | a_4 | l_4 | c_4 | k_4 | z_ValueError | z_enumerate | z_int | z_isinstance | z_len | z_range | z_zip | k_TooMany | k_NoRow | k_NoMap | k_NoBoard | k_IsFixed | k_BadText | k_WalkError | aj_NoBoard | ij_NoBoard | lj_NoBoard | cj_NoBoard | kj_NoBoard | tj_NoBoard | sj_NoBoard | zj_NoBoard | aj_NoMap | ij_NoMap | lj_NoMap | cj_NoMap | kj_NoMap | tj_NoMap | sj_NoMap | zj_NoMap | aj_BadText | ij_BadText | lj_BadText | cj_BadText | kj_BadText | tj_BadText | sj_BadText | zj_BadText | aj_TooMany | ij_TooMany | lj_TooMany | cj_TooMany | kj_TooMany | tj_TooMany | sj_TooMany | zj_TooMany=>k_is
  case x0_TooMany | x1_TooMany | x2_TooMany | x3_TooMany | x4_TooMany | x5_TooMany | x6_TooMany | x0_NoRow | x1_NoRow | x2_NoRow | x3_NoRow | x4_NoRow | x5_NoRow | x6_NoRow | x0_NoMap | x1_NoMap | x2_NoMap | x3_NoMap | x4_NoMap | x5_NoMap | x6_NoMap | x0_NoBoard | x1_NoBoard | x2_NoBoard | x3_NoBoard | x4_NoBoard | x5_NoBoard | x6_NoBoard | x0_IsFixed | x1_IsFixed | x2_IsFixed | x3_IsFixed | x4_IsFixed | x5_IsFixed | x6_IsFixed | x0_BadText | x1_BadText | x2_BadText | x3_BadText | x4_BadText | x5_BadText | x6_BadText | m_TooMany_WalkError | m_NoRow_WalkError | m_NoMap_WalkError | m_NoBoard_WalkError | m_IsFixed_WalkError | m_BadText_WalkError | y_TooMany_most | d_TooMany | y_BadText_row | d_BadText | y_NoMap_at | d_NoMap | y_NoBoard_at | d_NoBoard=>k_is
  case e_WalkError | e_IsFixed | e_NoRow=>k_exc
  case i_NoRow_0 | i_NoRow_TooMany | i_NoRow_NoRow | i_NoRow_NoMap | i_NoRow_NoBoard | i_NoRow_IsFixed | i_NoRow_BadText | i_IsFixed_0 | i_IsFixed_TooMany | i_IsFixed_NoRow | i_IsFixed_NoMap | i_IsFixed_NoBoard | i_IsFixed_IsFixed | i_IsFixed_BadText | i_TooMany_0 | i_TooMany_TooMany | i_TooMany_NoRow | i_TooMany_NoMap | i_TooMany_NoBoard | i_TooMany_IsFixed | i_TooMany_BadText | i_BadText_0 | i_BadText_TooMany | i_BadText_NoRow | i_BadText_NoMap | i_BadText_NoBoard | i_BadText_IsFixed | i_BadText_BadText | i_NoMap_0 | i_NoMap_TooMany | i_NoMap_NoRow | i_NoMap_NoMap | i_NoMap_NoBoard | i_NoMap_IsFixed | i_NoMap_BadText | i_NoBoard_0 | i_NoBoard_TooMany | i_NoBoard_NoRow | i_NoBoard_NoMap | i_NoBoard_NoBoard | i_NoBoard_IsFixed | i_NoBoard_BadText | i_WalkError_0 | i_WalkError_TooMany | i_WalkError_NoRow | i_WalkError_NoMap | i_WalkError_NoBoard | i_WalkError_IsFixed | i_WalkError_BadText | i_ValueError_0 | i_ValueError_TooMany | i_ValueError_NoRow | i_ValueError_NoMap | i_ValueError_NoBoard | i_ValueError_IsFixed | i_ValueError_BadText=>kit_is
