import PyProof.Rows.All
import Wide.All
import OpenK.AllK
import Wide.FinOn
import PySem.SetTable
import PyProof.SetScanFacts
import PyProof.DictFindH
import PyProof.SetKind
import PyProof.IsRules
import PyProof.TupleKey
import PyProof.StrWalks
import PyProof.FactsAll.set
import PyProof.SetRoads
import PyProof.MakeMany
import PyProof.CollectIter
import PyProof.ListNew
import PyProof.Rows.SortShell
import PyProof.Rows.SortStr
import PyProof.SetNew
import PyProof.Rows.SetFrom
import PyProof.WalksMore
import PyProof.DictIter
import PyProof.DictWalks
import KE.KDictList
import PyProof.TupleOfGen
import PyProof.TupleOfSeq
import PyProof.AttrMissHeap
import KE.KDictOf
import PyProof.DictItems
import KE.KItemsList
import Lean
import PyProof.EqAt
import PyProof.EqKinds
import PyProof.TupleCall
import PyProof.StationsW
import PyProof.RulesAs
import PyProof.Rows.Own
import PySem.Str
import PyProof.NsDelKeeps
import KE.KIsAll
import PyProof.ExcArgsOwn
import PyProof.ExcAttrAll.ValueError
import OpenK.KOwn
import PyProof.ExcBaseAll.ValueError
import PyProof.InstStoreFacts
import PyProof.NeKinds
import PyProof.Draws
import PyProof.EnumMake
import PyProof.ZipIter
import PyProof.Rows.SumAny
import KE.KSortTup
import PyProof.Rows.MinMaxN
import PyProof.ListRange
import KE.KRevIter
import PyProof.ReprLen
import PyProof.FitsInt
import PyProof.StrBlock2
import PyProof.FactsAll.tuple_2
import PyProof.ListMulRoad
import PyProof.MeetsDict
import PyProof.Rows.Range3
import PyProof.Rows.SortRuns
import PyProof.Rows.StrStep
import KE.KMinKey
import PyProof.Rows.CallKwBuiltin
import PySem.Challenge.RW_walktold_k41_twins_room_by_room
set_option Elab.async false
set_option linter.all false
set_option maxRecDepth 100000
set_option compiler.extract_closed false
set_option bootstrap.genMatcherCode false
noncomputable def qa:=@PySem.wpAny_bind
noncomputable def qb:=@PySem.wpAny_pure
noncomputable def qc:=@PySem.Heap.get?_push_of_some
noncomputable def qd:=@PySem.Heap.get?_push_size
noncomputable def qf:=@PySem.Heap.lt_size
noncomputable def qg.{u}:=@Option.some.inj.{u}
noncomputable def qh.{u}:=@List.getElem?_eq_some_iff.{u}
noncomputable def qi.{u}:=@List.getElem?_eq_getElem.{u}
noncomputable def qj:=@decide_eq_true
noncomputable def qk:=@decide_eq_false
noncomputable def qm:=@decide_eq_true_eq
noncomputable def qo:=@of_decide_eq_true
noncomputable def qp:=Bool.false_ne_true
noncomputable def qq:=@if_pos
noncomputable def qr:=@if_neg
noncomputable def qt:=@PySem.Heap.get?_update_other
noncomputable def qu:=@PySem.Heap.get?_update_self
noncomputable def qv:=@PySem.wpAny_field
noncomputable def qw:=@PySem.wpAny_newObj_type
noncomputable def qy:=@PySem.wpAny_call_entry
noncomputable def qz:=@PySem.sizeLine_eq
noncomputable def qA:=@PySem.wpAny_setField_rec
noncomputable def qB:=@PySem.wpAny_holding
noncomputable def qD:=@PySem.wpAny_mono
noncomputable abbrev qE:=PySem.Value->PySem.Shared->Prop
noncomputable section
namespace ST
open PySem PySem.SetTable
noncomputable def Rising (xs:Array Nat):Prop:=∀ i j (hi:i < xs.size) (hj:j < xs.size),i < j->xs[i] < xs[j]
noncomputable def path (t:SetTable) (p:Probe):Nat->Probe
 | 0=>p
 | n + 1=>path t (t.advance p) n
noncomputable def okMask (mask:Nat):Prop:=mask=7\/mask=31\/mask=127\/mask=511
structure Tab (t:SetTable) (hs:List Int):Prop where
 ris:Rising t.place
 dum:t.dummies=#[]
 mask:okMask t.mask
 size:t.place.size=hs.length
 le:∀ i (hi:i < t.place.size),t.place[i]<=t.mask
 few:hs.length<=t.mask
 reach:∀ i (hi:i < t.place.size) (h:Int),hs[i]?=some h->∃ n,(path t (t.probeStart h) n).j=t.place[i]/\∀ m,m < n->t.slot (path t (t.probeStart h) m).j≠.empty
section
variable {prog:Program} {w:World} {K:Type} [DecidableEq K] (knd:HeapKind prog w K)
noncomputable def ents (xs:List (K×Addr)):List (Int×Value):=xs.map fun p=>(knd.hash p.1,Value.ref p.2)
variable {knd}
noncomputable def okRoom (t:SetTable) (n:Nat):Prop:=(t.mask=7/\n<=4)\/(t.mask=31/\n<=18)\/(t.mask=127/\n<=76)\/(t.mask=511/\n<=306)
end
structure WTab (t:SetTable) (n:Nat) (ld:Bool):Prop where
 ris:Rising t.place
 dum:t.dummies=#[]
 fit:t.fits n=true
 ldd:t.led=ld
section
variable {prog:Program} {w:World} {A:Around} {E:qE} {s:Shared} {a:Addr} {K:Type} [DecidableEq K] {knd:KeyKind prog w K} {xs:List (K×Value)}
noncomputable def entV (knd:KeyKind prog w K) (xs:List (K×Value)):List (Int×Value):=xs.map fun p=>(knd.hash p.1,p.2)
noncomputable def VSet (ld:Bool) (knd:KeyKind prog w K) (h:Heap) (a:Addr) (xs:List (K×Value)):Prop:=∃ o es ep t,h.get? a=some o/\o.ExactSet/\o.data=.set es ep t/\WTab t es.size ld/\es.toList=entV knd xs/\(∀ p∈xs,knd.is p.1 p.2=true/\p.2.scannable=true)/\(xs.map (·.1)).Nodup
end
end ST
namespace ST
open PySem PySem.SetTable PyProof.Rows
noncomputable def freshSet (ld:Bool):Obj:={ cls:=.type "set",dict:=none,data:=.set #[] 0 (.fresh 0 0 ld) }
noncomputable def ldOf (w:World):Bool:=!w.params.followText "set-order"
end ST
theorem m1 {α:Type} {a:α} {l:List α}:a∈a::l:=.head _
theorem m2 {α:Type} {a b:α} {l:List α}:b∈a::b::l:=.tail _ m1
theorem m3 {α:Type} {a b c:α} {l:List α}:c∈a::b::c::l:=.tail _ m2
theorem m4 {α:Type} {a b c d:α} {l:List α}:d∈a::b::c::d::l:=.tail _ m3
theorem m5 {α:Type} {a b c d e:α} {l:List α}:e∈a::b::c::d::e::l:=.tail _ m4
theorem clipI (i:Int) (n:Nat):max 0 (min (if i < 0 then i + (n:Int) else i) (n:Int))=(((if i < 0 then (i + (n:Int)).toNat else min i.toNat n):Nat):Int):=by
 by_cases h:i < 0
 ·rw [qq h,qq h,Int.min_eq_left (by lia),Int.ofNat_toNat,Int.max_comm]
 ·rw [qr h,qr h]
  obtain ⟨k,rfl⟩:=Int.eq_ofNat_of_zero_le (Int.not_lt.mp h)
  rw [Int.toNat_natCast]
  rcases Nat.le_total k n with q | q
  ·rw [Nat.min_eq_left q,Int.min_eq_left (Int.ofNat_le.mpr q),Int.max_eq_right (Int.natCast_nonneg k)]
  ·rw [Nat.min_eq_right q,Int.min_eq_right (Int.ofNat_le.mpr q),Int.max_eq_right (Int.natCast_nonneg n)]
theorem cps {A:Prop} (h:∀ G:Prop,(A->G)->G):A:=h A id
namespace ST
open PySem PySem.SetTable
section
variable {prog:Program} {w:World} {A:Around} {E:qE} {s:Shared} {a b:Addr} {K:Type} [DecidableEq K] {knd:KeyKind prog w K} {ks:List K} {ld:Bool} {xs:List (List K×Addr)}
noncomputable def TRaw (ld:Bool) (knd:HeapKind prog w K) (h:Heap) (a:Addr) (xs:List (K×Addr)):Prop:=∃ o es ep t,h.get? a=some o/\o.ExactSet/\o.data=.set es ep t/\t.led=ld/\Tab t (es.toList.map (·.1))/\okRoom t es.size/\es.toList=ents knd xs/\(xs.map (·.1)).Nodup
end
end ST
namespace L2
open PySem PySem.Spec PyProof.Rows
noncomputable abbrev Key:=Sum Int Str
noncomputable def keyIs:Key->Value->Bool
 | .inl k,v=>Value.isInt k v
 | .inr x,v=>Value.isStrOf x v
noncomputable def keyH (w:World):Key->Int
 | .inl k=>hashInt k
 | .inr x=>hashStr w x
theorem zaq:∀ {k:Key} {v:Value},keyIs k v=true->(∃ i t,k=Sum.inl i/\v=Value.int i t)\/(∃ x t,k=Sum.inr x/\v=Value.str x t)
 | .inl i,v,h=>by
   obtain ⟨t,e⟩:=Value.isInt_shape (k:=i) (v:=v) h
   exact .inl ⟨i,t,rfl,e⟩
 | .inr x,v,h=>by
   obtain ⟨t,e⟩:=Value.isStrOf_shape (x:=x) (v:=v) h
   exact .inr ⟨x,t,rfl,e⟩
theorem zgr (i:Int) (t:Tok):keyIs (.inl i) (.int i t)=true:=by simp [keyIs,Value.isInt]
theorem zgX (x:Str) (t:Tok):keyIs (.inr x) (.str x t)=true:=by simp [keyIs,Value.isStrOf]
theorem zlA (a b:Int):decide ((Sum.inl a:Key)=Sum.inl b)=(a == b):=by
 grind
theorem zlf (a b:Str):decide ((Sum.inr a:Key)=Sum.inr b)=decide (a=b):=by
 grind
theorem zl4 (a:Int) (b:Str):decide ((Sum.inl a:Key)=Sum.inr b)=false:=qk (fun q=>nomatch q)
theorem zl3 (a:Str) (b:Int):decide ((Sum.inr a:Key)=Sum.inl b)=false:=qk (fun q=>nomatch q)
noncomputable def mixKind (prog:Program) (w:World):PySem.KeyKind prog w Key where
 is:=keyIs
 hash:=keyH w
 inj:=fun v a b ha hb=>by
  rcases zaq ha with ⟨i,t,rfl,rfl⟩ | ⟨x,t,rfl,rfl⟩
  ·rcases zaq hb with ⟨j,u,rfl,e⟩ | ⟨y,u,rfl,e⟩
   ·injection e with e1 _; rw [e1]
   ·exact nomatch e
  ·rcases zaq hb with ⟨j,u,rfl,e⟩ | ⟨y,u,rfl,e⟩
   ·exact nomatch e
   ·injection e with e1 _; rw [e1]
 byValue:=fun k v h=>by
  rcases zaq h with ⟨i,t,rfl,rfl⟩ | ⟨x,t,rfl,rfl⟩ <;> rfl
 pyHash:=fun hv h=>by
  rcases zaq hv with ⟨i,t,rfl,rfl⟩ | ⟨x,t,rfl,rfl⟩
  ·exact wpAny_pyHash_int h
  ·exact wpAny_pyHash_str h
 eqBool:=fun hu hv h=>by
  rcases zaq hu with ⟨i,t,rfl,rfl⟩ | ⟨x,t,rfl,rfl⟩
  ·rcases zaq hv with ⟨j,u,rfl,rfl⟩ | ⟨y,u,rfl,rfl⟩
   ·rw [zlA] at h; exact wpAny_eqBool_int h
   ·rw [zl4] at h; exact SeqAt.EqAt.int_str i t y u _ _ _ _ h
  ·rcases zaq hv with ⟨j,u,rfl,rfl⟩ | ⟨y,u,rfl,rfl⟩
   ·rw [zl3] at h; exact SeqAt.EqAt.str_int x t j u _ _ _ _ h
   ·rw [zlf] at h; exact wpAny_eqBool_str h
 «strs»:=fun k x t v h=>by
  rcases zaq h with ⟨i,u,rfl,e⟩ | ⟨y,u,rfl,e⟩
  ·exact nomatch e
  ·injection e with e1 _
   subst e1
   cases v <;> rfl
theorem ze0 (prog:Program) (w:World) (i:Int) (t:Tok):(mixKind prog w).is (.inl i) (.int i t)=true:=zgr i t
theorem zeS (prog:Program) (w:World) (x:Str) (t:Tok):(mixKind prog w).is (.inr x) (.str x t)=true:=zgX x t
inductive V where
 | non | bl (b:Bool) | int (i:Int) | str (x:Str) | byt (b:Array UInt8) | flt (b:UInt64) | ref (a:Addr) | ty (n:String)
 deriving DecidableEq
noncomputable def qO:V->Value->Prop
 | .non,u=>u=Value.none
 | .bl b,u=>u=Value.bool b
 | .int i,u=>∃ t,u=Value.int i t
 | .str x,u=>∃ t,u=Value.str x t
 | .byt b,u=>∃ t,u=Value.bytes b t
 | .flt b,u=>∃ t,u=Value.float b t
 | .ref a,u=>u=Value.ref a
 | .ty n,u=>u=Value.type n
noncomputable abbrev qW:List V->List Value->Prop:=Paired qO
theorem qW.length (r:qW xs us):xs.length=us.length:=Paired.length r
theorem qW.get:∀ {xs:List V} {us:List Value} {i:Nat} {x:V},qW xs us->xs[i]?=some x->∃ u,us[i]?=some u/\qO x u
 | _,_,_,_,.nil,e=>by simp at e
 | _,_,0,_,.cons r _,e=>by simp at e; subst e; exact ⟨_,rfl,r⟩
 | _,_,i + 1,x,.cons _ t,e=>by
   obtain ⟨u,h1,h2⟩:=qW.get (i:=i) (x:=x) t (by simpa using e)
   exact ⟨u,by simpa using h1,h2⟩
theorem qW.set (r:qO x u):∀ {xs:List V} {us:List Value} (i:Nat),qW xs us->qW (xs.set i x) (us.set i u)
 | _,_,_,.nil=>.nil
 | _,_,0,.cons _ t=>.cons r t
 | _,_,i + 1,.cons q t=>.cons q (qW.set r i t)
theorem qW.append:∀ {xs ys:List V} {us ws:List Value},qW xs us->qW ys ws->qW (xs++ys) (us++ws):=by
 intro xs ys us ws r s
 induction r with
 | nil=>exact s
 | cons r _ ih=>exact .cons r ih
theorem qW.take:∀ {xs:List V} {us:List Value} (n:Nat),qW xs us->qW (xs.take n) (us.take n)
 | _,_,0,_=>.nil
 | _,_,_ + 1,.nil=>.nil
 | _,_,n + 1,.cons r t=>.cons r (qW.take n t)
theorem qW.drop:∀ {xs:List V} {us:List Value} (n:Nat),qW xs us->qW (xs.drop n) (us.drop n)
 | _,_,0,r=>r
 | _,_,_ + 1,.nil=>.nil
 | _,_,n + 1,.cons _ t=>qW.drop n t
noncomputable def RelO:Option V->Option Value->Prop
 | some v,some u=>qO v u
 | none,none=>True
 | _,_=>False
noncomputable def KV {κ:Type}:List (κ×V)->List (κ×Value)->Prop:=Paired fun (p:κ×V) (q:κ×Value)=>p.1=q.1/\qO p.2 q.2
noncomputable def kV:Key->V
 | .inl i=>.int i
 | .inr x=>.str x
inductive HO where
 | lst (xs:List V)
 | tup (xs:List V)
 | dK (q5:List (Key×V)) | dT (q5:List (List Key×V))
 | set (vs:List V)
 | ins (C dx:Addr) (fs:List (Str×V))
 | own (x:Addr)
 | xd (fs:List (Str×V))
 | met (f x:Addr)
 | rng (lo hi:Int)
 | frz (o:Obj) (u:HO)
 | tbl (ps:Array Value)
 | ext (φ:Heap->Prop)
noncomputable abbrev Hp:=Addr->Option HO
noncomputable def upd (H:Hp) (a:Addr) (o:HO):Hp:=fun b=>if b=a then some o else H b
theorem zam:upd H a o a=some o:=by unfold upd; rw [qq rfl]
theorem zag (h:b≠a):upd H a o b=H b:=by unfold upd; rw [qr h]
theorem zas {H:Hp} (h:H a=some o) (h':H b=none):a≠b:=by
 intro e; subst e; rw [h] at h'; cases h'
section
variable (P:Program) (w:World)
noncomputable def NoDc (h:Heap) (a:Addr):Prop:=∀ o,h.get? a=some o->o.dict=none
theorem NoDc.new {h:Heap} {c:Value} {x:Data} {n:Addr} (e:n=h.objs.size) (hx:(h.push { cls:=c,data:=x }).get? h.objs.size=some { cls:=c,data:=x }):NoDc (h.push { cls:=c,data:=x }) n:=fun o q=>by subst e; rw [hx] at q; cases q; rfl
noncomputable def qY (H:Hp) (h:Heap) (a:Addr):HO->Prop
 | .lst xs=>xs.length<=sizeLine/\∃ (zc:List Value) (n:Nat),qW xs zc/\h.get? a=some { cls:=.type "list",data:=.seq zc.toArray n }
 | .tup xs=>(xs.length<=sizeLine/\NoDc h a)/\∃ zc:List Value,qW xs zc/\IsTup h a zc.toArray
 | .dK q5=>q5.length<=sizeLine/\(a == sysModules)=false/\∃ vs,KV q5 vs/\h.DictOf (mixKind P w) a vs
 | .dT q5=>q5.length<=sizeLine/\(a == sysModules)=false/\∃ xs:List (List Key×Addr×Value),
   Paired (fun (p:List Key×V) (q:List Key×Addr×Value)=>p.1=q.1/\H q.2.1=some (.tup (p.1.map kV))/\qO p.2 q.2.2) q5 xs/\
   ∃ o es ep,h.get? a=some o/\o.ExactDict/\o.data=.dict es ep/\es.toList=xs.map (entryOfKey (tupleKind (mixKind P w)))/\(xs.map (·.1)).Nodup
 | .set vs=>vs.length<=301/\((vs=[]/\h.get? a=some (ST.freshSet (ST.ldOf w)))\/(vs≠[]/\∃ xs:List (Key×Value),vs.Perm (xs.map fun p=>kV p.1)/\ST.VSet (ST.ldOf w) (mixKind P w) h a xs)\/vs≠[]/\∃ xs:List (List Key×Addr),vs.Perm (xs.map fun p=>V.ref p.2)/\(∀ p∈xs,H p.2=some (.tup (p.1.map kV)))/\ST.TRaw (ST.ldOf w) (tupleKind (mixKind P w)) h a xs)
 | .ins C dx fs=>H dx=some (.own a)/\fs.length<=1000/\dx≠a/\h.get? a=some (W.instObj C dx)/\
   ∃ mA,h.Ns1 dx mA/\(∀ f,RelO (fs.lookup f) (mA f))/\PySem.Within mA (fs.map (·.1))
 | .own _=>∃ o,h.get? a=some o
 | .xd fs=>∃ mA,h.Ns1 a mA/\∀ f,RelO (fs.lookup f) (mA f)
 | .rng lo hi=>∃ t u v,h.get? a=some { cls:=.type "range",data:=.fields #[.int lo t,.int hi u,.int 1 v] }
 | .frz o u=>h.get? a=some o/\qY H h a u
 | .tbl ps=>h.get? a=some { cls:=.none,data:=.fields ps }
 | .met f x=>h.get? a=some (W.methodObj (.ref f) (.ref x))
 | .ext φ=>φ h/\(∃ o,h.get? a=some o)/\∀ h1 h2:Heap,φ h1->(∀ o,h1.get? a=some o->h2.get? a=some o)->φ h2
noncomputable def HOk (H:Hp) (h:Heap):Prop:=∀ a o,H a=some o->qY P w H h a o
end
section
variable {P:Program} {w:World} {H H':Hp} {h h':Heap} {a:Addr} {o:HO}
theorem qY.lt (x:qY P w H h a o):a < h.objs.size:=by
 cases o with
 | lst xs=>obtain ⟨_,_,_,_,e⟩:=x; exact qf e
 | tup xs=>obtain ⟨_,_,_,p⟩:=x; exact p.lt
 | dK q5=>obtain ⟨_,_,_,_,o,_,_,e,_⟩:=x; exact qf e
 | dT q5=>obtain ⟨_,_,_,_,o,_,_,e,_⟩:=x; exact qf e
 | set vs=>
   rcases x with ⟨_,⟨_,e⟩ | ⟨_,_,_,_,_,_,_,e,_⟩ | ⟨_,_,_,_,_,_,_,_,e,_⟩⟩
   ·exact qf e
   ·exact qf e
   ·exact qf e
 | ins C dx fs=>obtain ⟨_,_,_,e,_⟩:=x; exact qf e
 | own y=>obtain ⟨_,e⟩:=x; exact qf e
 | xd fs=>obtain ⟨_,⟨_,_,_,e,_⟩,_⟩:=x; exact qf e
 | rng lo hi=>obtain ⟨_,_,_,e⟩:=x; exact qf e
 | frz ob u=>obtain ⟨e,_⟩:=x; exact qf e
 | tbl ps=>exact qf (show h.get? a=some _ from x)
 | met f y=>exact qf (show h.get? a=some _ from x)
 | ext φ=>obtain ⟨_,⟨_,e⟩,_⟩:=x; exact qf e
theorem Paired.mapP:∀ {l₁:List α} {l₂:List β},Paired F l₁ l₂->(∀ a b,F a b->G a b)->Paired G l₁ l₂
 | _,_,.nil,_=>.nil
 | _,_,.cons r t,f=>.cons (f _ _ r) (Paired.mapP t f)
theorem qY.stay (x:qY P w H h a o) (k:∀ b u,(b=a\/H b=some (.own a))->h.get? b=some u->h'.get? b=some u)
  (ho:∀ b,H b=some (.own a)->H' b=some (.own a)) (ht:∀ b xs,H b=some (.tup xs)->H' b=some (.tup xs)):qY P w H' h' a o:=by
 induction o with
 | lst xs=>obtain ⟨z,zc,n,r,e⟩:=x; exact ⟨z,zc,n,r,k _ _ (.inl rfl) e⟩
 | tup xs=>obtain ⟨⟨z,nd⟩,zc,r,ob,e,c⟩:=x; exact ⟨⟨z,fun o q=>by rw [k _ _ (.inl rfl) e] at q; cases q; exact nd _ e⟩,zc,r,ob,k _ _ (.inl rfl) e,c⟩
 | dK q5=>obtain ⟨z,y,vs,r,ob,es,ep,e,c⟩:=x; exact ⟨z,y,vs,r,ob,es,ep,k _ _ (.inl rfl) e,c⟩
 | dT q5=>
   obtain ⟨z,y,xs,r,ob,es,ep,e,c⟩:=x
   exact ⟨z,y,xs,Paired.mapP r fun p q z=>⟨z.1,ht _ _ z.2.1,z.2.2⟩,ob,es,ep,k _ _ (.inl rfl) e,c⟩
 | set vs=>
   rcases x with ⟨z,⟨n,e⟩ | ⟨n,xs,p,ob,es,ep,t,e,c⟩ | ⟨n,xs,p,hx,ob,es,ep,t,e,c⟩⟩
   ·exact ⟨z,.inl ⟨n,k _ _ (.inl rfl) e⟩⟩
   ·exact ⟨z,.inr (.inl ⟨n,xs,p,ob,es,ep,t,k _ _ (.inl rfl) e,c⟩)⟩
   ·exact ⟨z,.inr (.inr ⟨n,xs,p,fun q hq=>ht _ _ (hx q hq),ob,es,ep,t,k _ _ (.inl rfl) e,c⟩)⟩
 | ins C dx fs=>
   obtain ⟨d,z,ne,e,mA,⟨od,es,ep,e2,c⟩,r⟩:=x
   exact ⟨ho _ d,z,ne,k _ _ (.inl rfl) e,mA,⟨od,es,ep,k _ _ (.inr d) e2,c⟩,r⟩
 | own y=>obtain ⟨ob,e⟩:=x; exact ⟨ob,k _ _ (.inl rfl) e⟩
 | xd fs=>obtain ⟨mA,⟨od,es,ep,e,c⟩,r⟩:=x; exact ⟨mA,⟨od,es,ep,k _ _ (.inl rfl) e,c⟩,r⟩
 | rng lo hi=>obtain ⟨t,u,v,e⟩:=x; exact ⟨t,u,v,k _ _ (.inl rfl) e⟩
 | frz ob u ih=>obtain ⟨e,q⟩:=x; exact ⟨k _ _ (.inl rfl) e,ih q⟩
 | tbl ps=>
   have e:h.get? a=some { cls:=.none,data:=.fields ps }:=x
   show h'.get? a=some { cls:=.none,data:=.fields ps }
   exact k a _ (.inl rfl) e
 | met f y=>
   have e:h.get? a=some (W.methodObj (.ref f) (.ref y)):=x
   show h'.get? a=some (W.methodObj (.ref f) (.ref y))
   exact k a _ (.inl rfl) e
 | ext φ=>obtain ⟨p,⟨o,e⟩,st⟩:=x; exact ⟨st _ _ p fun o q=>k _ _ (.inl rfl) q,⟨o,k _ _ (.inl rfl) e⟩,st⟩
theorem HOk.lt (x:HOk P w H h) (e:H a=some o):a < h.objs.size:=(x a o e).lt
theorem HOk.fresh (x:HOk P w H h) (e:h.objs.size<=a):H a=none:=by
 cases q:H a with
 | none=>rfl
 | some u=>exact absurd (Nat.lt_of_lt_of_le (x.lt q) e) (Nat.lt_irrefl _)
theorem HOk.kept (x:HOk P w H h) (k:∀ b u,h.get? b=some u->h'.get? b=some u):HOk P w H h':=fun a o e=>
 (x a o e).stay (fun b u _ q=>k b u q) (fun _ q=>q) fun _ _ q=>q
theorem HOk.laid (x:HOk P w H h) (k:∀ b u,h.get? b=some u->h'.get? b=some u) (hp:h.objs.size<=a) (new:qY P w (upd H a o) h' a o):HOk P w (upd H a o) h':=fun b u e=>by
 have hn:=x.fresh hp
 by_cases hb:b=a
 ·subst hb; rw [zam] at e; cases e; exact new
 ·rw [zag hb] at e
  exact (x b u e).stay (fun c v _ q=>k c v q) (fun c q=>by rw [zag (zas q hn)]; exact q) fun c xs q=>by rw [zag (zas q hn)]; exact q
end
noncomputable def Rd (H:Hp) (a:Addr) (u:HO):Prop:=H a=some u\/∃ o,H a=some (.frz o u)
theorem Rd.of (h:H a=some u):Rd H a u:=.inl h
theorem Rd.ok (r:Rd H a u) (x:HOk P w H h):qY P w H h a u:=by
 rcases r with r | ⟨o,r⟩
 ·exact x a u r
 ·obtain ⟨_,q⟩:=x a _ r
  exact q
noncomputable def Mut:Option HO->Prop
 | some (.lst _)=>True
 | some (.dK _)=>True
 | some (.dT _)=>True
 | some (.set _)=>True
 | some (.ins _ _ _)=>True
 | some (.ext _)=>True
 | _=>False
section
variable {P:Program} {w:World} {H:Hp} {h h':Heap} {x e:Addr} {o':HO}
theorem HOk.write (ok:HOk P w H h) (mu:Mut (H x)) (he:e=x\/H e=some (.own x)) (k:∀ b u,b≠e->h.get? b=some u->h'.get? b=some u) (heo:∃ u,h'.get? e=some u)
  (new:qY P w (upd H x o') h' x o'):HOk P w (upd H x o') h':=fun b u q=>by
 have nown:∀ c y,H c=some (.own y)->c≠x:=fun c y r z=>by subst z; rw [r] at mu; exact mu
 have ntup:∀ c xs,H c=some (.tup xs)->c≠x:=fun c xs r z=>by subst z; rw [r] at mu; exact mu
 by_cases hb:b=x
 ·subst hb; rw [zam] at q; cases q; exact new
 ·rw [zag hb] at q
  by_cases hbe:b=e
  ·have q':H b=some (.own x):=by
    grind
   rw [q] at q'; cases q'
   obtain ⟨v,hv⟩:=heo
   exact ⟨v,by rw [hbe]; exact hv⟩
  ·refine (ok b u q).stay (fun c v hc r=>k c v ?_ r) (fun c r=>by rw [zag (nown c b r)]; exact r) fun c xs r=>by rw [zag (ntup c xs r)]; exact r
   grind
end
structure Un (fs ex:List Addr) (H H':Hp) (h h':Heap):Prop where
 keep:∀ b o,h.get? b=some o->H b=none->b∉fs->b∉ex->h'.get? b=some o
 slot:∀ b o,h.get? b=some o->H b=none->b∈fs->b∉ex->∃ sl,h'.get? b=some { o with slots:=sl }
 free:∀ b o,h.get? b=some o->H b=none->b∉ex->H' b=none
 there:∀ b o,h.get? b=some o->b∉ex->∃ o',h'.get? b=some o'
 tups:∀ b xs,H b=some (.tup xs)->H' b=some (.tup xs)
 frzs:∀ b o u,H b=some (.frz o u)->H' b=some (.frz o u)
 tbls:∀ b ps,H b=some (.tbl ps)->∃ more,H' b=some (.tbl (ps++more))
section
variable {fs fs' ex ex':List Addr} {H H1 H2:Hp} {h h1 h2 h':Heap} {a x e:Addr} {o:HO}
theorem Un.any (u:Un fs ex H H1 h h1) (q:h.get? b=some ob) (n:H b=none) (hx:b∉ex):∃ sl,h1.get? b=some { ob with slots:=sl }:=by
 by_cases hb:b∈fs
 ·exact u.slot b ob q n hb hx
 ·exact ⟨ob.slots,u.keep b ob q n hb hx⟩
theorem Un.kept (k:∀ b u,h.get? b=some u->h'.get? b=some u):Un fs ex H H h h':=
 ⟨fun b ob q _ _ _=>k b ob q,fun b ob q _ _ _=>⟨ob.slots,k b ob q⟩,fun _ _ _ n _=>n,fun b ob q _=>⟨ob,k b ob q⟩,fun _ _ q=>q,fun _ _ _ q=>q,fun _ ps q=>⟨#[],by rw [q]; simp⟩⟩
theorem Un.refl:Un fs ex H H h h:=Un.kept fun _ _ q=>q
theorem Un.laid (k:∀ b u,h.get? b=some u->h'.get? b=some u) (hp:h.objs.size<=a) (hn:H a=none):Un fs ex H (upd H a o) h h' where
 keep:=fun b u q _ _ _=>k b u q
 slot:=fun b u q _ _ _=>⟨u.slots,k b u q⟩
 free:=fun b u q n _=>by rw [zag (Nat.ne_of_lt (Nat.lt_of_lt_of_le (qf q) hp))]; exact n
 there:=fun b u q _=>⟨u,k b u q⟩
 tups:=fun b xs q=>by rw [zag (zas q hn)]; exact q
 frzs:=fun b u xs q=>by rw [zag (zas q hn)]; exact q
 tbls:=fun b ps q=>⟨#[],by rw [zag (zas q hn),q]; simp⟩
theorem Un.write (mu:Mut (H x)) (he:e=x\/H e=some (.own x)) (k:∀ b u,b≠e->h.get? b=some u->h'.get? b=some u) (heo:∃ u,h'.get? e=some u):Un fs ex H (upd H x o) h h':=by
 have hx:∀ b,H b=none->b≠x:=fun b n z=>by subst z; rw [n] at mu; exact mu
 have hb:∀ b,H b=none->b≠e:=fun b n z=>by
  grind
 have hm:∀ b u,H b=some u->¬ Mut (some u)->b≠x:=fun b u q nm z=>by subst z; rw [q] at mu; exact nm mu
 refine ⟨fun b u q n _ _=>k b u (hb b n) q,fun b u q n _ _=>⟨u.slots,k b u (hb b n) q⟩,fun b u q n _=>by rw [zag (hx b n)]; exact n,fun b u q _=>?_,
  fun b xs q=>by rw [zag (hm b _ q fun z=>z)]; exact q,fun b u xs q=>by rw [zag (hm b _ q fun z=>z)]; exact q,fun b ps q=>⟨#[],by rw [zag (hm b _ q fun z=>z),q]; simp⟩⟩
 grind
end
noncomputable def trk (h:Heap) (H:Hp):List Addr:=(List.range h.objs.size).filter fun a=>(H a).isSome
noncomputable def hidT (h:Heap) (H:Hp):Heap:=W.hideAll h (trk h H)
theorem zgG (h:Heap) (H:Hp):(hidT h H).objs.size=h.objs.size:=W.hideAll_size _ _
theorem zjd (e:h.get? b=some o) (n:H b=none):(hidT h H).get? b=some o:=
 W.hideAll_get _ e fun hm=>by
  have q:(H b).isSome=true:=(List.mem_filter.mp hm).2
  rw [n] at q; simp at q
theorem zj7 (e:(hidT h H).get? b=some o):h.get? b=some o/\H b=none:=by
 have e':h.get? b=some o:=W.of_hideAll (trk h H) e
 refine ⟨e',?_⟩
 cases q:H b with
 | none=>rfl
 | some x=>
   grind [trk,List.mem_filter,List.mem_range,Heap.lt_size,hidT,W.hideAll_none]
noncomputable def allNews (g h:Heap) (L:Addr):List (Addr×Obj):=(List.range h.objs.size).filterMap fun a=>if a=L\/(g.get? a).isSome=true then none else (h.get? a).map fun o=>(a,o)
theorem zeZ (h1:a≠L) (h2:g.get? a=none) (h3:h.get? a=some o):(a,o)∈allNews g h L:=
 List.mem_filterMap.mpr ⟨a,List.mem_range.mpr (qf h3),by simp [h1,h2,h3]⟩
noncomputable def rest (g h:Heap) (L d:Addr):List (Addr×Obj):=(allNews g h L).filter fun p=>decide (p.1≠d)
theorem zcf (h1:a≠L) (h2:g.get? a=none) (h3:h.get? a=some o) (h4:a≠d):(a,o)∈rest g h L d:=
 List.mem_filter.mpr ⟨zeZ h1 h2 h3,qj h4⟩
structure Mod (K:W.Frag) (mg:Str->Option Value) (base:Heap):Prop where
 kin:K.In base
 glob:base.Ns mainGlobals mg
 blt:∃ mb,base.Ns builtinsNs mb/\∀ x:Str,x≠"__name__"->mb x=bootBuiltins x
 nolimit:base.NoLimit
structure Cx where
 prog:Program
 w:World
 K:W.Frag
 mg:Str->Option Value
 base:Heap
 A:Around
 N:List Str
 s₀:Shared
 H₀:Hp
 env:Env
 outer:List Env
 stack:List Env
 ex:List Addr
 fn:Str->Bool
 calm:Bool
 pn:List (Addr×Obj)
 xe:qE
noncomputable def frs (l:List Env):List Addr:=l.filterMap (·.frame)
noncomputable abbrev Cx.fs (X:Cx):List Addr:=frs X.outer
noncomputable def Vis (sc:Scope) (x:Str):Prop:=sc.names.lookup x=some .local\/sc.names.lookup x=some .cell\/sc.names.lookup x=some .free
noncomputable def Loc (sc:Scope) (x:Str):Prop:=sc.names.lookup x=some .local\/sc.names.lookup x=some .cell
noncomputable def Look (env:Env) (h:Heap) (m:Str->Option Value) (x:Str) (u:Value):Prop:=
 (env.kindOf x=some .local/\m x=some u)\/((env.kindOf x=some .cell\/env.kindOf x=some .free)/\∃ c,env.cells.lookup x=some c/\h.IsCell c (some u))
structure Cx.Ok (X:Cx):Prop where
 mod:Mod X.K X.mg X.base
 kind:X.env.scope.kind=.function
 glob:X.env.globals=mainGlobals
 blt:X.env.builtins=builtinsNs
 above:X.s₀.heap.objs.size<=X.env.locals
 inj:∀ x y c,X.env.cells.lookup x=some c->X.env.cells.lookup y=some c->x=y
 has:∀ x,(X.env.kindOf x=some .cell\/X.env.kindOf x=some .free)->∃ c,X.env.cells.lookup x=some c
 cab:∀ x c,X.fn x=true->X.env.cells.lookup x=some c->X.s₀.heap.objs.size<=c
 hd:X.calm=true->X.A.handled=none
 frames:X.A.frames=some X.stack
 stk:X.stack=X.outer\/(X.stack=X.env::X.outer/\X.env.frame=some X.env.locals)
 exf:∀ b∈X.ex,b≠X.env.locals/\∀ x c,X.env.cells.lookup x=some c->c≠b
 bs:∀ b o,X.base.get? b=some o->X.s₀.heap.get? b=some o/\X.H₀ b=none
 bsz:X.base.objs.size<=X.s₀.heap.objs.size
 noex:∀ b o,X.base.get? b=some o->b∉X.ex
 exfs:∀ b∈X.ex,b∉X.fs
 funs:X.s₀.heap.FunFrames X.base X.outer
 frf:∀ b∈X.fs,X.H₀ b=none
structure Inv (X:Cx) (qZ:List (Addr×Obj)) (σ:List (Option V)) (H:Hp) (s:Shared):Prop where
 ok:X.Ok
 os:s.os=X.s₀.os
 bare:AllBare s.gens
 base:Un X.fs X.ex X.H₀ H X.s₀.heap s.heap
 loc:∃ m,s.heap.Ns X.env.locals m/\∀ (i:Nat) (x:Str) (v:V),X.N[i]?=some x->σ[i]?=some (some v)->Vis X.env.scope x->∃ u,qO v u/\Look X.env s.heap m x u
 cell:∀ x c,X.env.cells.lookup x=some c->∃ v,s.heap.IsCell c v
 free:H X.env.locals=none
 freeC:∀ x c,X.env.cells.lookup x=some c->H c=none
 pin:∀ p∈X.pn++qZ,s.heap.get? p.1=some p.2/\H p.1=none/\p.1≠X.env.locals/\p.1∉X.fs/\∀ v,p.2.data≠.cell v
 hok:HOk X.prog X.w H s.heap
 len:σ.length=X.N.length
section
variable {X:Cx} {qZ:List (Addr×Obj)} {σ:List (Option V)} {H H':Hp} {s:Shared} {h':Heap}
theorem Cx.Ok.nofr (ok:X.Ok) (e:X.base.get? b=some o):b∉X.fs:=fun hb=>by
 have:=(ok.funs.mem hb).1
 rw [e] at this; cases this
theorem Inv.bs (I:Inv X qZ σ H s):∀ b o,X.base.get? b=some o->s.heap.get? b=some o/\H b=none:=fun b o e=>
 ⟨I.base.keep b o (I.ok.bs b o e).1 (I.ok.bs b o e).2 (I.ok.nofr e) (I.ok.noex b o e),I.base.free b o (I.ok.bs b o e).1 (I.ok.bs b o e).2 (I.ok.noex b o e)⟩
theorem Inv.bk (I:Inv X qZ σ H s):∀ b o,X.base.get? b=some o->s.heap.get? b=some o:=fun b o e=>(I.bs b o e).1
theorem Inv.mod (I:Inv X qZ σ H s):Mod X.K X.mg X.base:=I.ok.mod
theorem Inv.kIn (I:Inv X qZ σ H s):X.K.In s.heap:=I.ok.mod.kin.keeps I.bk
theorem Inv.fr (I:Inv X qZ σ H s):∃ m,Fr X.base X.env.locals s.heap m:=
 let ⟨m,hn,_⟩:=I.loc
 ⟨m,hn,I.bk,Nat.le_trans I.ok.bsz I.ok.above⟩
theorem Inv.lt (I:Inv X qZ σ H s):X.env.locals < s.heap.objs.size:=let ⟨_,hn,_⟩:=I.loc; hn.lt
theorem Inv.sz (I:Inv X qZ σ H s):X.s₀.heap.objs.size<=s.heap.objs.size:=Nat.le_trans I.ok.above (Nat.le_of_lt I.lt)
theorem Inv.nofs (I:Inv X qZ σ H s) (h:s.heap.objs.size<=a):a∉X.fs:=fun hb=>by
 obtain ⟨_,o,ho,_⟩:=I.ok.funs.mem hb
 exact absurd (Nat.lt_of_lt_of_le (qf ho) (Nat.le_trans I.sz h)) (Nat.lt_irrefl _)
theorem Inv.cne (I:Inv X qZ σ H s):∀ x c,X.env.cells.lookup x=some c->c≠X.env.locals:=fun x c e z=>by
 obtain ⟨v,o,ho,hd⟩:=I.cell x c e
 obtain ⟨m,⟨o',es,ep,ho',hd',_⟩,_⟩:=I.loc
 rw [z,ho'] at ho; cases ho; rw [hd'] at hd; cases hd
theorem Inv.funs (I:Inv X qZ σ H s):s.heap.FunFrames X.base X.outer:=by
 have all:∀ (l:List Env),(∀ b∈frs l,b∈X.fs)->X.s₀.heap.FunFrames X.base l->s.heap.FunFrames X.base l:=by
  intro l
  induction l with
  | nil=>intro _ _; trivial
  | cons env r ih=>
    intro hs hl
    obtain ⟨hk,⟨L,o,hf,hn,ho,hd⟩,hr⟩:=hl
    have hL:L∈X.fs:=hs L (by unfold frs; rw [List.filterMap_cons,hf]; exact List.mem_cons_self)
    obtain ⟨sl,e⟩:=I.base.slot L o ho (I.ok.frf L hL) hL fun z=>I.ok.exfs L z hL
    exact ⟨hk,⟨L,_,hf,hn,e,hd⟩,ih (fun b hb=>hs b (by unfold frs; rw [List.filterMap_cons,hf]; exact List.mem_cons_of_mem _ hb)) hr⟩
 exact all X.outer (fun _ hb=>hb) I.ok.funs
theorem Inv.stack (I:Inv X qZ σ H s):s.heap.FunFrames X.base X.stack:=by
 rcases I.ok.stk with e | ⟨e,hf⟩
 ·rw [e]; exact I.funs
 ·rw [e]
  obtain ⟨m,hn,_⟩:=I.loc
  refine .cons (by rw [I.ok.kind]; decide) hf hn ?_ I.funs
  exact Heap.get?_none_of_le (Nat.le_trans I.ok.bsz I.ok.above)
theorem Inv.stkSub (I:Inv X qZ σ H s):∀ b∈frs X.stack,b∈X.env.locals::X.fs:=fun b hb=>by
 rcases I.ok.stk with e | ⟨e,hf⟩
 ·rw [e] at hb; exact List.mem_cons_of_mem _ hb
 ·rw [e] at hb
  unfold frs at hb
  rw [List.filterMap_cons,hf] at hb
  exact hb
theorem Inv.stkFree (I:Inv X qZ σ H s):∀ b∈frs X.stack,H b=none:=fun b hb=>by
 rcases List.mem_cons.mp (I.stkSub b hb) with e | hb
 ·rw [e]; exact I.free
 ·obtain ⟨_,o,ho,_⟩:=I.ok.funs.mem hb
  exact I.base.free b o ho (I.ok.frf b hb) fun z=>I.ok.exfs b z hb
theorem Inv.step {ch:List Addr} (I:Inv X qZ σ H s)
  (hch:∀ b∈ch,(b∈X.ex\/X.s₀.heap.get? b=none)/\b≠X.env.locals/\(∀ x c,X.env.cells.lookup x=some c->c≠b)/\∀ p∈X.pn++qZ,p.1≠b)
  (keep:∀ b o,b≠X.env.locals->b∉X.fs->b∉ch->s.heap.get? b=some o->H b=none->h'.get? b=some o)
  (slot:∀ b o,b≠X.env.locals->b∈X.fs->b∉ch->s.heap.get? b=some o->H b=none->∃ sl,h'.get? b=some { o with slots:=sl }) (free:∀ b o,b∉ch->s.heap.get? b=some o->H b=none->H' b=none)
  (there:∀ b o,b∉ch->s.heap.get? b=some o->∃ o',h'.get? b=some o')
  (tups:∀ b xs,H b=some (.tup xs)->H' b=some (.tup xs)) (frzs:∀ b o u,H b=some (.frz o u)->H' b=some (.frz o u)) (tbls:∀ b ps,H b=some (.tbl ps)->∃ more,H' b=some (.tbl (ps++more)))
  (ns:∀ m,s.heap.Ns X.env.locals m->h'.Ns X.env.locals m) (hok:HOk X.prog X.w H' h') (hg:AllBare g'):
  Inv X qZ σ H' { s with heap:=h',gens:=g',drawn:=d',toks:=t' }:=by
 have neL:∀ b o,X.s₀.heap.get? b=some o->b≠X.env.locals:=fun b o e=>Nat.ne_of_lt (Nat.lt_of_lt_of_le (qf e) I.ok.above)
 have neC:∀ b o,X.s₀.heap.get? b=some o->b∉X.ex->b∉ch:=fun b o e hx hb=>by
  rcases (hch b hb).1 with z | z
  ·exact hx z
  ·rw [z] at e; cases e
 have cellK:∀ x c,X.env.cells.lookup x=some c->∀ v,s.heap.IsCell c v->h'.IsCell c v:=fun x c e v ⟨o,ho,hd⟩=>by
  have nch:c∉ch:=fun z=>(hch c z).2.2.1 x c e rfl
  by_cases hc:c∈X.fs
  ·obtain ⟨sl,q⟩:=slot c o (I.cne x c e) hc nch ho (I.freeC x c e)
   exact ⟨_,q,hd⟩
  ·exact ⟨o,keep c o (I.cne x c e) hc nch ho (I.freeC x c e),hd⟩
 refine ⟨I.ok,I.os,hg,⟨fun b o e n hb hx=>?_,fun b o e n hb hx=>?_,fun b o e n hx=>?_,fun b o e hx=>?_,fun b xs e=>tups b xs (I.base.tups b xs e),fun b o xs e=>frzs b o xs (I.base.frzs b o xs e),fun b ps e=>?_⟩,?_,fun x c e=>?_,?_,fun x c e=>?_,fun p hp=>?_,hok,I.len⟩
 ·exact keep b o (neL b o e) hb (neC b o e hx) (I.base.keep b o e n hb hx) (I.base.free b o e n hx)
 ·obtain ⟨sl,e1⟩:=I.base.slot b o e n hb hx
  obtain ⟨sl',e2⟩:=slot b _ (neL b o e) hb (neC b o e hx) e1 (I.base.free b o e n hx)
  exact ⟨sl',e2⟩
 ·obtain ⟨o',e1⟩:=I.base.there b o e hx
  exact free b o' (neC b o e hx) e1 (I.base.free b o e n hx)
 ·obtain ⟨o',e1⟩:=I.base.there b o e hx
  exact there b o' (neC b o e hx) e1
 ·obtain ⟨m1,e1⟩:=I.base.tbls b ps e
  obtain ⟨m2,e2⟩:=tbls b _ e1
  exact ⟨m1++m2,by rw [e2,Array.append_assoc]⟩
 ·obtain ⟨m,hn,hl⟩:=I.loc
  refine ⟨m,ns m hn,fun i x v e1 e2 e3=>?_⟩
  obtain ⟨u,r,l⟩:=hl i x v e1 e2 e3
  refine ⟨u,r,?_⟩
  rcases l with l | ⟨k,c,e,z⟩
  ·exact .inl l
  ·exact .inr ⟨k,c,e,cellK x c e _ z⟩
 ·obtain ⟨v,z⟩:=I.cell x c e
  exact ⟨v,cellK x c e v z⟩
 ·obtain ⟨m,⟨o,_,_,ho,_⟩,_⟩:=I.loc
  exact free _ o (fun z=>(hch _ z).2.1 rfl) ho I.free
 ·obtain ⟨v,o,ho,hd⟩:=I.cell x c e
  exact free c o (fun z=>(hch c z).2.2.1 x c e rfl) ho (I.freeC x c e)
 ·obtain ⟨e,n,ne,nf,d⟩:=I.pin p hp
  have nch:p.1∉ch:=fun z=>(hch p.1 z).2.2.2 p hp rfl
  exact ⟨keep p.1 p.2 ne nf nch e n,free p.1 p.2 nch e n,ne,nf,d⟩
theorem Inv.un (I:Inv X qZ σ H s) (u:Un X.fs [] H H' s.heap h') (hok:HOk X.prog X.w H' h'):Inv X qZ σ H' { s with heap:=h',toks:=t' }:=by
 obtain ⟨m,⟨o,es,ep,ho,r⟩,_⟩:=id I.loc
 obtain ⟨sl,hL⟩:=u.any ho I.free (by simp)
 exact I.step (g':=s.gens) (d':=s.drawn) (ch:=[]) (fun _ z=>nomatch z) (fun b o _ hb _ e n=>u.keep b o e n hb (by simp)) (fun b o _ hb _ e n=>u.slot b o e n hb (by simp)) (fun b o _ e n=>u.free b o e n (by simp)) (fun b o _ e=>u.there b o e (by simp)) u.tups u.frzs u.tbls (fun m' hm=>by
  obtain ⟨o',es',ep',ho',r'⟩:=hm
  rw [ho] at ho'; cases ho'
  exact ⟨_,es',ep',hL,r'⟩) hok I.bare
theorem Inv.call (I:Inv X qZ σ H s) (u:Un (frs X.stack) ch H H' s.heap h') (hok:HOk X.prog X.w H' h') (hg:AllBare g')
  (hch:∀ b∈ch,(b∈X.ex\/X.s₀.heap.get? b=none)/\b≠X.env.locals/\(∀ x c,X.env.cells.lookup x=some c->c≠b)/\∀ p∈X.pn++qZ,p.1≠b):
  Inv X qZ σ H' { s with heap:=h',gens:=g',drawn:=d',toks:=t' }:=by
 obtain ⟨m,⟨o,es,ep,ho,r⟩,_⟩:=id I.loc
 obtain ⟨sl,hL⟩:=u.any ho I.free fun z=>(hch _ z).2.1 rfl
 exact I.step (ch:=ch) hch (fun b o hL hb hc e n=>u.keep b o e n (fun z=>(List.mem_cons.mp (I.stkSub b z)).elim hL hb) hc) (fun b o _ _ hc e n=>u.any e n hc) (fun b o hc e n=>u.free b o e n hc) (fun b o hc e=>u.there b o e hc) u.tups u.frzs u.tbls (fun m' hm=>by
  obtain ⟨o',es',ep',ho',r'⟩:=hm
  rw [ho] at ho'; cases ho'
  exact ⟨_,es',ep',hL,r'⟩) hok hg
theorem Inv.turned (I:Inv X qZ σ H s) (k:∀ b o,b≠it->s.heap.get? b=some o->h'.get? b=some o) (hn:H it=none) (hL:it≠X.env.locals)
  (h1:it∈X.ex\/X.s₀.heap.get? it=none) (h2:∀ x c,X.env.cells.lookup x=some c->c≠it) (h3:∀ p∈X.pn++qZ,p.1≠it):Inv X qZ σ H { s with heap:=h',toks:=t' }:=by
 have nit:∀ b u,H b=some u->b≠it:=fun b u e z=>by rw [z,hn] at e; cases e
 refine I.step (g':=s.gens) (d':=s.drawn) (ch:=[it]) (fun b hb=>?_) (fun b o _ _ hc e _=>k b o (fun z=>hc (by simp [z])) e) (fun b o _ _ hc e _=>⟨o.slots,k b o (fun z=>hc (by simp [z])) e⟩) (fun _ _ _ _ n=>n)
  (fun b o hc e=>⟨o,k b o (fun z=>hc (by simp [z])) e⟩) (fun _ _ e=>e) (fun _ _ _ e=>e) (fun b ps e=>⟨#[],by rw [e]; simp⟩) (fun m hm=>?_) (fun b u e=>?_) I.bare
 ·have e:b=it:=by simpa using hb
  subst e
  exact ⟨h1,hL,h2,h3⟩
 ·obtain ⟨o,es,ep,ho,r⟩:=hm
  exact ⟨o,es,ep,k _ o (Ne.symm hL) ho,r⟩
 ·refine (I.hok b u e).stay (fun c v hc q=>k c v ?_ q) (fun _ q=>q) fun _ _ q=>q
  rcases hc with z | z
  ·rw [z]; exact nit b u e
  ·exact nit c _ z
theorem Inv.tok (I:Inv X qZ σ H s) (t:Nat):Inv X qZ σ H { s with toks:=t }:=I.un (h':=s.heap) (t':=t) Un.refl I.hok
theorem Inv.kept (I:Inv X qZ σ H s) (k:∀ b u,s.heap.get? b=some u->h'.get? b=some u):Inv X qZ σ H { s with heap:=h',toks:=t' }:=I.un (Un.kept k) (I.hok.kept k)
theorem Inv.laid (I:Inv X qZ σ H s) (k:∀ b u,s.heap.get? b=some u->h'.get? b=some u) (hp:s.heap.objs.size<=a) (new:qY X.prog X.w (upd H a o) h' a o):
  Inv X qZ σ (upd H a o) { s with heap:=h',toks:=t' }:=I.un (Un.laid k hp (I.hok.fresh hp)) (I.hok.laid k hp new)
theorem Inv.write (I:Inv X qZ σ H s) (mu:Mut (H x)) (he:e=x\/H e=some (.own x)) (k:∀ b u,b≠e->s.heap.get? b=some u->h'.get? b=some u) (heo:∃ u,h'.get? e=some u)
  (new:qY X.prog X.w (upd H x o) h' x o):Inv X qZ σ (upd H x o) { s with heap:=h',toks:=t' }:=I.un (Un.write mu he k heo) (I.hok.write mu he k heo new)
theorem Inv.pins_of (I:Inv X qZ σ H s) (h:∀ p∈pins',s.heap.get? p.1=some p.2/\H p.1=none/\p.1≠X.env.locals/\p.1∉X.fs/\∀ v,p.2.data≠.cell v):Inv X pins' σ H s:=
 ⟨I.ok,I.os,I.bare,I.base,I.loc,I.cell,I.free,I.freeC,fun p hp=>(List.mem_append.mp hp).elim (fun z=>I.pin p (List.mem_append_left _ z)) (h p),I.hok,I.len⟩
theorem zbn {N:List Str} (hN:N.Nodup) {i j:Nat} (a:N[i]?=some x) (b:N[j]?=some x):i=j:=by
 obtain ⟨h1,e1⟩:=qh.mp a
 obtain ⟨h2,e2⟩:=qh.mp b
 exact (List.getElem_inj hN).mp (e1.trans e2.symm)
theorem Inv.call' (I:Inv X qZ σ H s) (ho:s'.os=s.os) (u:Un (frs X.stack) ch H H' s.heap s'.heap) (hok:HOk X.prog X.w H' s'.heap) (hg:AllBare s'.gens)
  (hch:∀ b∈ch,(b∈X.ex\/X.s₀.heap.get? b=none)/\b≠X.env.locals/\(∀ x c,X.env.cells.lookup x=some c->c≠b)/\∀ p∈X.pn++qZ,p.1≠b):Inv X qZ σ H' s':=by
 obtain ⟨h',g',d',t',o'⟩:=s'
 have e:o'=s.os:=ho
 subst e
 exact I.call (g':=g') (t':=t') (d':=d') u hok hg hch
end
noncomputable abbrev XK:=Value->Option Addr->Hp->Prop
noncomputable abbrev St:=List (Option V)
noncomputable abbrev VK:=V->Hp->Prop
noncomputable abbrev TE:=St->Hp->VK->Prop
noncomputable abbrev TT:=St->Hp->(Bool->Hp->Prop)->Prop
noncomputable abbrev TA:=St->Hp->(List V->Hp->Prop)->Prop
structure Ends where
 nx:St->Hp->Prop
 rt:VK
 bk:St->Hp->Prop:=fun _ _=>False
 ct:St->Hp->Prop:=fun _ _=>False
noncomputable abbrev TS:=Ends->St->Hp->Prop
inductive EP (X:Cx) (qZ:List (Addr×Obj)) (σ:St) (Q:VK) (u:Value) (s':Shared):Prop
 | mk (v:V) (H':Hp):Inv X qZ σ H' s'->qO v u->Q v H'->EP X qZ σ Q u s'
inductive TP (X:Cx) (qZ:List (Addr×Obj)) (σ:St) (Q:Bool->Hp->Prop) (b:Bool) (s':Shared):Prop
 | mk (H':Hp):Inv X qZ σ H' s'->Q b H'->TP X qZ σ Q b s'
inductive AP (X:Cx) (qZ:List (Addr×Obj)) (σ:St) (Q:List V->Hp->Prop) (us:List Value) (s':Shared):Prop
 | mk (vs:List V) (H':Hp):Inv X qZ σ H' s'->qW vs us->Q vs H'->AP X qZ σ Q us s'
noncomputable def SP (X:Cx) (qZ:List (Addr×Obj)) (D:Ends) (f:Flow) (s':Shared):Prop:=
 match f with
 | .next=>∃ σ' H',Inv X qZ σ' H' s'/\D.nx σ' H'
 | .brk=>∃ σ' H',Inv X qZ σ' H' s'/\D.bk σ' H'
 | .cont=>∃ σ' H',Inv X qZ σ' H' s'/\D.ct σ' H'
 | .ret u=>∃ v σ' H',Inv X qZ σ' H' s'/\qO v u/\D.rt v H'
noncomputable def PE (X:Cx) (e:Expr) (t:TE):Prop:=
 ∀ (qZ:List (Addr×Obj)) (s:Shared) (σ:St) (H:Hp) (Q:VK),Inv X qZ σ H s->t σ H Q->wpAny (model X.prog X.w) X.A (eval e X.env) (EP X qZ σ Q) X.xe s
noncomputable def PT (X:Cx) (e:Expr) (t:TT):Prop:=
 ∀ (qZ:List (Addr×Obj)) (s:Shared) (σ:St) (H:Hp) (Q:Bool->Hp->Prop),Inv X qZ σ H s->t σ H Q->wpAny (model X.prog X.w) X.A (isTrue e X.env (eval e X.env)) (TP X qZ σ Q) X.xe s
noncomputable def PW (X:Cx) (e:Expr) (t:TT):Prop:=
 ∀ (whole:Sem Value) (qZ:List (Addr×Obj)) (s:Shared) (σ:St) (H:Hp) (Q:Bool->Hp->Prop),Inv X qZ σ H s->t σ H Q->wpAny (model X.prog X.w) X.A (isTrue e X.env whole) (TP X qZ σ Q) X.xe s
theorem PW.pt (h:PW X e t):PT X e t:=h _
noncomputable def PA (X:Cx) (es:List Expr) (t:TA):Prop:=
 ∀ (pos:Pos) (qZ:List (Addr×Obj)) (s:Shared) (σ:St) (H:Hp) (Q:List V->Hp->Prop),Inv X qZ σ H s->t σ H Q->wpAny (model X.prog X.w) X.A (spliced (backTo pos (starEach es X.env))) (AP X qZ σ Q) X.xe s
noncomputable def PS (X:Cx) (st:Stmt) (t:TS):Prop:=
 ∀ (qZ:List (Addr×Obj)) (s:Shared) (σ:St) (H:Hp) (D:Ends),Inv X qZ σ H s->t D σ H->wpAny (model X.prog X.w) X.A (exec st X.env) (SP X qZ D) X.xe s
noncomputable def PSs (X:Cx) (st:List Stmt) (t:TS):Prop:=
 ∀ (qZ:List (Addr×Obj)) (s:Shared) (σ:St) (H:Hp) (D:Ends),Inv X qZ σ H s->t D σ H->wpAny (model X.prog X.w) X.A (execs st X.env) (SP X qZ D) X.xe s
theorem thn (h:wpAny M A t Q E s) (hQ:∀ a s,Q a s->Q' a s):wpAny M A t Q' E s:=qD h hQ fun _ _ x=>x
section
variable {X:Cx}
noncomputable def tVar (i:Nat):TE:=fun σ H Q=>∃ v,σ[i]?=some (some v)/\Q v H
noncomputable def tC (v:V):TE:=fun _ H Q=>Q v H
theorem zlY (hN:X.N[i]?=some x) (hv:Vis X.env.scope x) (hd:(x == ("__debug__":Str))=false:=by decide) (hcd:(x == ("__classdict__":Str))=false:=by decide):PE X (.Name x pos) (tVar i):=by
 intro qZ s σ H Q I h
 obtain ⟨v,e,h⟩:=h
 obtain ⟨m,hn,hl⟩:=I.loc
 obtain ⟨u,r,l⟩:=hl i x v hN e hv
 have fin:EP X qZ σ Q u s:=⟨v,H,I,r,h⟩
 rcases l with ⟨hk,hm⟩ | ⟨hk,c,hc,hcell⟩
 ·exact wpAny_Name (wpAny_loadName_local I.ok.kind hk hn hm fin) hd
 ·rcases hk with hk | hk
  ·exact wpAny_Name (wpAny_loadName_cell I.ok.kind hk hc hcell fin) hd
  ·exact wpAny_Name (wpAny_loadName_free I.ok.kind hk hc hcell fin hcd) hd
theorem zmG:PE X (.Constant (.int i) j pos) (tC (.int i)):=fun _ _ _ H _ I h=>wpAny_Constant_int ⟨.int i,H,I.tok _,⟨_,rfl⟩,h⟩
theorem zoj:PE X (.Constant (.bool b) j pos) (tC (.bl b)):=fun _ _ _ H _ I h=>Constant_bool ⟨.bl b,H,I,rfl,h⟩
theorem zl5:PE X (.Constant .none j pos) (tC .non):=fun _ _ _ H _ I h=>Constant_none ⟨.non,H,I,rfl,h⟩
theorem zll:PE X (.Constant (.str x) j pos) (tC (.str x)):=fun _ _ _ H _ I h=>Calls.Constant_str ⟨.str x,H,I.tok _,⟨_,rfl⟩,h⟩
noncomputable def Gl (X:Cx) (x:Str):Prop:=X.env.kindOf x=some .globalImplicit
theorem zcF (I:Inv X qZ σ H s) (hg:Gl X x) (hm:X.mg x=some u) (h:Q u s)
  (hd:(x == ("__debug__":Str))=false:=by decide):wpAny (model X.prog X.w) X.A (eval (.Name x pos) X.env) Q E s:=
 Calls.Name_function_global I.ok.kind hg (Calls.loadGlobal_global (by rw [I.ok.glob]; exact I.mod.glob.keeps I.bk) hm h) hd
theorem zbu (I:Inv X qZ σ H s) (hg:Gl X x) (hm:X.mg x=none) (hv:bootBuiltins x=some u) (h:Q u s)
  (hn:x≠"__name__":=by decide) (hd:(x == ("__debug__":Str))=false:=by decide):wpAny (model X.prog X.w) X.A (eval (.Name x pos) X.env) Q E s:=by
 obtain ⟨mb,h1,h2⟩:=I.mod.blt
 exact Calls.Name_function_global I.ok.kind hg (Calls.loadGlobal_builtin (by rw [I.ok.glob]; exact I.mod.glob.keeps I.bk) hm (by rw [I.ok.blt]; exact h1.keeps I.bk) ((h2 x hn).trans hv) h) hd
variable {a b:Expr} {ta tb:TE} {pos:Pos}
theorem nobehind (b:Expr) (h:op≠.In) (h2:op≠.NotIn):behindInMarks op b=false:=by
 have e1:(op == CmpOp.In)=false:=by cases op <;> first | rfl | exact absurd rfl h
 have e2:(op == CmpOp.NotIn)=false:=by cases op <;> first | rfl | exact absurd rfl h2
 cases b <;> first | rfl | (show (_ && (op == .In || op == .NotIn) && _)=false; rw [e1,e2,Bool.or_false,Bool.and_false]; rfl)
variable {tA tB':TT} {rest:List Expr}
noncomputable def tAnd (t u:TT):TT:=fun σ H Q=>t σ H fun c H1=>if c=true then u σ H1 Q else Q false H1
noncomputable def tOr (t u:TT):TT:=fun σ H Q=>t σ H fun c H1=>if c=true then Q true H1 else u σ H1 Q
noncomputable def tNot (t:TT):TT:=fun σ H Q=>t σ H fun c H1=>Q (!c) H1
theorem zkm (ha:PT X a tA):PW X (.BoolOp .And [a] pos) tA:=by
 intro wh qZ s σ H Q I h
 refine isTrue_and (thn (ha qZ s σ H Q I h) fun c s1 e=>?_)
 cases c with
 | true=>exact isTrue_and_nil e
 | false=>exact e
theorem zmR (ha:PT X a tA):PW X (.BoolOp .Or [a] pos) tA:=by
 intro wh qZ s σ H Q I h
 refine isTrue_or (thn (ha qZ s σ H Q I h) fun c s1 e=>?_)
 cases c with
 | false=>exact isTrue_or_nil e
 | true=>exact e
theorem znd (ha:PT X a tA) (hb:PW X (.BoolOp .And (b::rest) pos) tB'):PW X (.BoolOp .And (a::b::rest) pos) (tAnd tA tB'):=by
 intro wh qZ s σ H Q I h
 refine isTrue_and (thn (ha qZ s σ H _ I h) fun c s1 zq=>?_)
 obtain ⟨H1,I1,q1⟩:=zq
 cases c with
 | true=>exact hb wh qZ s1 σ H1 Q I1 q1
 | false=>exact ⟨H1,I1,q1⟩
theorem zoZ (ha:PT X a tA) (hb:PW X (.BoolOp .Or (b::rest) pos) tB'):PW X (.BoolOp .Or (a::b::rest) pos) (tOr tA tB'):=by
 intro wh qZ s σ H Q I h
 refine isTrue_or (thn (ha qZ s σ H _ I h) fun c s1 zq=>?_)
 obtain ⟨H1,I1,q1⟩:=zq
 cases c with
 | true=>exact ⟨H1,I1,q1⟩
 | false=>exact hb wh qZ s1 σ H1 Q I1 q1
theorem zlH (ha:PT X a tA):PT X (.UnaryOp .Not a pos) (tNot tA):=by
 intro qZ s σ H Q I h
 exact isTrue_not (thn (ha qZ s σ H (fun c H1=>Q (!c) H1) I h) fun c s1 z=>by obtain ⟨H1,I1,q1⟩:=z; exact ⟨H1,I1,q1⟩)
noncomputable def tAndV (ta tb:TE):TE:=fun σ H Q=>ta σ H fun x H1=>∃ c,x=.bl c/\if c=true then tb σ H1 Q else Q (.bl false) H1
theorem zkP (h:PE X a t):PE X (.BoolOp op [a] pos) t:=by first | rfl | assumption | (simp_all; done)
theorem zmH (ha:PE X a ta) (hb:PE X (.BoolOp .And (b::rest) pos) tb):PE X (.BoolOp .And (a::b::rest) pos) (tAndV ta tb):=by
 intro qZ s σ H Q I h
 refine BoolOp_and (thn (ha qZ s σ H _ I h) fun v s1 zq=>?_)
 obtain ⟨x,H1,I1,r1,q1⟩:=zq
 obtain ⟨c,rfl,q1⟩:=q1
 cases r1
 refine wpAny_truthy_bool ?_
 cases c with
 | true=>exact hb qZ s1 σ H1 Q I1 q1
 | false=>exact ⟨.bl false,H1,I1,rfl,q1⟩
noncomputable def tIf (t:TT) (ta tb:TE):TE:=fun σ H Q=>t σ H fun c H1=>if c=true then ta σ H1 Q else tb σ H1 Q
theorem ziq (hc:PT X c tA) (ha:PE X a ta) (hb:PE X b tb):PE X (.IfExp c a b pos) (tIf tA ta tb):=by
 intro qZ s σ H Q I h
 refine wpAny_IfExp (thn (hc qZ s σ H _ I h) fun d s1 zq=>?_)
 obtain ⟨H1,I1,q1⟩:=zq
 cases d with
 | true=>exact ha qZ s1 σ H1 Q I1 q1
 | false=>exact hb qZ s1 σ H1 Q I1 q1
end
noncomputable def SqL (K:W.Frag) (H:Hp) (a:Addr) (xs:List V):Prop:=
 Rd H a (.lst xs)\/
  ∃ (o:Obj) (zc:Array Value) (n:Nat),K.lookup a=some o/\o.cls=.type "list"/\o.dict=none/\o.data=.seq zc n/\zc.size<=sizeLine/\qW xs zc.toList
noncomputable def SqT (K:W.Frag) (H:Hp) (a:Addr) (xs:List V):Prop:=
 Rd H a (.tup xs)\/
  ∃ (o:Obj) (zc:Array Value) (n:Nat),K.lookup a=some o/\o.cls=.type "tuple"/\o.data=.seq zc n/\zc.size<=sizeLine/\qW xs zc.toList
noncomputable def absV:Value->Option V
 | .none=>some .non
 | .bool b=>some (.bl b)
 | .int i _=>some (.int i)
 | .str x _=>some (.str x)
 | .bytes b _=>some (.byt b)
 | .float b _=>some (.flt b)
 | .ref a=>some (.ref a)
 | .type n=>some (.ty n)
 | _=>none
theorem qO.abs (r:qO x u):absV u=some x:=by
 cases x with
 | non=>cases r; rfl
 | bl _=>cases r; rfl
 | int _=>obtain ⟨t,rfl⟩:=r; rfl
 | str _=>obtain ⟨t,rfl⟩:=r; rfl
 | byt _=>obtain ⟨t,rfl⟩:=r; rfl
 | flt _=>obtain ⟨t,rfl⟩:=r; rfl
 | ref _=>cases r; rfl
 | ty _=>cases r; rfl
theorem qO.inj (r:qO x u) (q:qO y u):x=y:=qg (r.abs.symm.trans q.abs)
theorem qW.inj:∀ {xs ys:List V} {us:List Value},qW xs us->qW ys us->xs=ys:=by
 intro xs ys us r q
 induction r generalizing ys with
 | nil=>cases q; rfl
 | cons r _ ih=>cases q with
   | cons r' t'=>rw [r.inj r',ih t']
inductive ItsL (xs:List V) (h:Heap) (a:Addr):Prop
 | mk (zc:List Value):qW xs zc->PlainL h a zc.toArray->xs.length<=sizeLine->ItsL xs h a
inductive ItsT (xs:List V) (h:Heap) (a:Addr):Prop
 | mk (zc:List Value):qW xs zc->IsTup h a zc.toArray->xs.length<=sizeLine->ItsT xs h a
section
variable {X:Cx} {qZ:List (Addr×Obj)} {σ:St} {H:Hp} {s:Shared} {a:Addr} {xs ys:List V}
theorem SqL.of {K:W.Frag} (h:H a=some (.lst xs)):SqL K H a xs:=.inl (.inl h)
theorem SqT.of {K:W.Frag} (h:H a=some (.tup xs)):SqT K H a xs:=.inl (.inl h)
theorem Inv.list (I:Inv X qZ σ H s) (h:SqL X.K H a xs):ItsL xs s.heap a:=by
 rcases h with h | ⟨o,zc,n,hk,hc,hd,hs,hz,r⟩
 ·obtain ⟨z,zc,n,r,e⟩:=h.ok I.hok
  exact ⟨zc,r,⟨_,n,e,rfl,rfl,rfl⟩,z⟩
 ·refine ⟨zc.toList,r,⟨o,n,I.kIn a o hk,hc,hd,by simpa using hs⟩,?_⟩
  have e:=r.length
  simp only [Array.length_toList] at e
  lia
theorem Inv.tuple (I:Inv X qZ σ H s) (h:SqT X.K H a xs):ItsT xs s.heap a:=by
 rcases h with h | ⟨o,zc,n,hk,hc,hs,hz,r⟩
 ·obtain ⟨z,zc,r,p⟩:=h.ok I.hok
  exact ⟨zc,r,p,z.1⟩
 ·refine ⟨zc.toList,r,⟨o,I.kIn a o hk,hc,n,by simpa using hs⟩,?_⟩
  have e:=r.length
  simp only [Array.length_toList] at e
  lia
theorem Inv.list_inj (I:Inv X qZ σ H s) (h:SqL X.K H a xs) (h':SqL X.K H a ys):xs=ys:=by
 obtain ⟨zc,r,⟨o,n,e,_,_,d⟩,_⟩:=I.list h
 obtain ⟨its',r',⟨o',n',e',_,_,d'⟩,_⟩:=I.list h'
 rw [e] at e'; cases e'
 rw [d] at d'
 injection d' with d1 _
 have:zc=its':=by simpa using congrArg Array.toList d1
 subst this
 exact r.inj r'
theorem Inv.tuple_inj (I:Inv X qZ σ H s) (h:SqT X.K H a xs) (h':SqT X.K H a ys):xs=ys:=by
 obtain ⟨zc,r,⟨o,e,_,n,d⟩,_⟩:=I.tuple h
 obtain ⟨its',r',⟨o',e',_,n',d'⟩,_⟩:=I.tuple h'
 rw [e] at e'; cases e'
 rw [d] at d'
 injection d' with d1 _
 have:zc=its':=by simpa using congrArg Array.toList d1
 subst this
 exact r.inj r'
end
section
variable {X:Cx} {st:Stmt} {rest:List Stmt} {t u:TS} {e:Expr} {te:TE} {pos:Pos}
noncomputable def tNext:TS:=fun D σ H=>D.nx σ H
noncomputable def tSeq (t u:TS):TS:=fun D σ H=>t { D with nx:=u D } σ H
theorem zg3:PSs X [] tNext:=fun _ _ σ H _ I h=>wpAny_execs_nil ⟨σ,H,I,h⟩
theorem ziU (h1:PS X st t) (h2:PSs X rest u):PSs X (st::rest) (tSeq t u):=by
 intro qZ s σ H D I h
 refine wpAny_execs_cons (thn (h1 qZ s σ H { D with nx:=u D } I h) fun f s1 q=>?_)
 cases f with
 | next=>
   obtain ⟨σ',H',I',q⟩:=q
   exact h2 qZ s1 σ' H' D I' q
 | ret v=>exact q
 | brk=>exact q
 | cont=>exact q
theorem zjS (h1:PS X st t):PSs X [st] t:=by
 intro qZ s σ H D I h
 refine wpAny_execs_cons (thn (h1 qZ s σ H D I h) fun f s1 q=>?_)
 cases f with
 | next=>exact wpAny_execs_nil q
 | ret v=>exact q
 | brk=>exact q
 | cont=>exact q
theorem Inv.quiet (I:Inv X qZ σ H s):interactive X.env=false:=by simp [interactive,I.ok.kind]
noncomputable def tDrop (te:TE):TS:=fun D σ H=>te σ H fun _ H1=>D.nx σ H1
theorem zjW (he:PE X e te) (hs:swapsWith e none pos.line X.env=pure false:=by rfl):PS X (.Expr e pos) (tDrop te):=by
 intro qZ s σ H D I h
 exact wpAny_Expr_any (thn (he qZ s σ H _ I h) fun v s1 ⟨x,H1,I1,r1,q1⟩=>⟨σ,H1,I1,q1⟩) I.quiet hs
noncomputable def tRet (te:TE):TS:=fun D σ H=>te σ H D.rt
theorem zlR (he:PE X e te):PS X (.Return (some e) pos) (tRet te):=by
 intro qZ s σ H D I h
 exact wpAny_Return_some (thn (he qZ s σ H _ I h) fun v s1 ⟨x,H1,I1,r1,q1⟩=>⟨x,σ,H1,I1,r1,q1⟩)
noncomputable def tIfS (c:TT) (t u:TS):TS:=fun D σ H=>c σ H fun b H1=>if b=true then t D σ H1 else u D σ H1
theorem zo8 (hc:PT X c tc) (ha:PSs X a t) (hb:PSs X b u):PS X (.If c a b pos) (tIfS tc t u):=by
 intro qZ s σ H D I h
 refine wpAny_If (thn (hc qZ s σ H _ I h) fun d s1 zq=>?_)
 obtain ⟨H1,I1,q1⟩:=zq
 cases d with
 | true=>exact ha qZ s1 σ H1 D I1 q1
 | false=>exact hb qZ s1 σ H1 D I1 q1
end
noncomputable abbrev TG:=V->St->Hp->(St->Hp->Prop)->Prop
noncomputable abbrev TGs:=List V->St->Hp->(St->Hp->Prop)->Prop
noncomputable def PG (X:Cx) (target:Expr) (t:TG):Prop:=
 ∀ (qZ:List (Addr×Obj)) (s:Shared) (σ:St) (H:Hp) (v:V) (u:Value) (Q:St->Hp->Prop),Inv X qZ σ H s->qO v u->t v σ H Q->
   wpAny (model X.prog X.w) X.A (assign target X.env u) (fun _ s'=>∃ σ' H',Inv X qZ σ' H' s'/\Q σ' H') X.xe s
noncomputable def PGs (X:Cx) (ts:List Expr) (t:TGs):Prop:=
 ∀ (qZ:List (Addr×Obj)) (s:Shared) (σ:St) (H:Hp) (vs:List V) (us:List Value) (Q:St->Hp->Prop),Inv X qZ σ H s->qW vs us->t vs σ H Q->
   wpAny (model X.prog X.w) X.A (assignInOrder ((assignEach ts X.env).map (·.2)) us) (fun _ s'=>∃ σ' H',Inv X qZ σ' H' s'/\Q σ' H') X.xe s
noncomputable abbrev TSet:=V->V->V->Hp->(Hp->Prop)->Prop
noncomputable def PSet (X:Cx) (t:TSet):Prop:=
 ∀ (qZ:List (Addr×Obj)) (s:Shared) (σ:St) (H:Hp) (o i v:V) (ov iv u:Value) (Q:Hp->Prop),Inv X qZ σ H s->qO o ov->qO i iv->qO v u->t o i v H Q->
   wpAny (model X.prog X.w) X.A (setItem ov iv u) (fun _ s'=>∃ H',Inv X qZ σ H' s'/\Q H') X.xe s
section
variable {X:Cx} {pos:Pos}
noncomputable def gNil:TGs:=fun vs σ H Q=>vs=[]/\Q σ H
noncomputable def gCons (t:TG) (u:TGs):TGs:=fun vs σ H Q=>∃ v r,vs=v::r/\t v σ H fun σ' H'=>u r σ' H' Q
theorem zjx:PGs X [] gNil:=by
 intro qZ s σ H vs us Q I r h
 obtain ⟨e,h⟩:=h
 subst e
 cases r
 exact assignInOrder_nil ⟨σ,H,I,h⟩
theorem ziF (h1:PG X e t) (h2:PGs X es u)
  (hs:(assignEach (e::es) X.env).map (·.2)=assign e X.env::(assignEach es X.env).map (·.2):=by rfl):PGs X (e::es) (gCons t u):=by
 intro qZ s σ H vs us Q I r h
 obtain ⟨v,vr,e1,h⟩:=h
 subst e1
 cases r with
 | cons r rr=>
   rw [hs]
   refine assignInOrder_cons (thn (h1 qZ s σ H _ _ _ I r h) fun _ s1 zq=>?_)
   obtain ⟨σ1,H1,I1,q1⟩:=zq
   exact h2 qZ s1 σ1 H1 _ _ Q I1 rr q1
noncomputable def gTup (K:W.Frag) (n:Nat) (t:TGs):TG:=fun v σ H Q=>∃ a xs,v=.ref a/\SqT K H a xs/\xs.length=n/\t xs σ H Q
theorem zl6 (hc:X.calm=true) (h:PGs X es t)
  (hn:(assignEach es X.env).length=n:=by rfl) (hst:(assignEach es X.env).findIdx? (·.1)=none:=by rfl):PG X (.Tuple es k pos) (gTup X.K n t):=by
 intro qZ s σ H v u Q I r hw
 obtain ⟨a,xs,e1,hq,hl,hw⟩:=hw
 subst e1
 cases r
 obtain ⟨zc,rv,ht,hz⟩:=I.tuple hq
 refine assign_Tuple_tuple (I.ok.hd hc) ht (by simp [hn,<- hl,rv.length]) hst fun h' hx=>?_
 have I1:Inv X qZ σ H { s with heap:=h' }:=I.kept (t':=s.toks) fun b o e=>hx b o (Nat.ne_of_lt (qf e)) e
 exact h qZ _ σ H xs _ Q I1 (by simpa using rv) hw
noncomputable def gSub (to ti:TE) (t:TSet):TG:=fun v σ H Q=>to σ H fun o H1=>ti σ H1 fun i H2=>t o i v H2 fun H3=>Q σ H3
theorem zmZ (ho:PE X o to) (hi:PE X i ti) (hs:PSet X t)
  (ha:∀ v,assign (.Subscript o i pos) X.env v=(do
   let ov <- holding [v] (eval o X.env)
   let iv <- holding [v,ov] (eval i X.env)
   standAt pos
   holding [v,ov,iv] (setItem ov iv v)
   release [v,ov,iv] []):=by intro _; rfl):PG X (.Subscript o i pos) (gSub to ti t):=by
 intro qZ s σ H v u Q I r h
 rw [ha]
 refine qa (qB (thn (ho qZ s σ H _ I h) fun ov s1 zq=>?_))
 obtain ⟨x,H1,I1,r1,q1⟩:=zq
 refine qa (qB (thn (hi qZ s1 σ H1 _ I1 q1) fun iv s2 zq=>?_))
 obtain ⟨y,H2,I2,r2,q2⟩:=zq
 refine qa (wpAny_standAt (qa (qB (thn (hs qZ s2 σ H2 x y v ov iv u _ I2 r1 r2 r q2) fun _ s3 zq=>?_))))
 obtain ⟨H3,I3,q3⟩:=zq
 exact wpAny_release ⟨σ,H3,I3,q3⟩
noncomputable def tAsg (te:TE) (g:TG):TS:=fun D σ H=>te σ H fun x H1=>g x σ H1 D.nx
theorem zju (he:PE X e te) (hg:PG X tg g) (hs:swapsWithSole [tg] e pos.line X.env=pure false:=by rfl) (hw:swappedStores [tg] e X.env=pure none:=by rfl)
  (h1:(assignEach [tg] X.env).map (·.2)=[assign tg X.env]:=by rfl):PS X (.Assign [tg] e pos) (tAsg te g):=by
 intro qZ s σ H D I h
 refine wpAny_Assign_stores (thn (he qZ s σ H _ I h) fun v s1 zq=>?_) hs hw
 obtain ⟨x,H1,I1,r1,q1⟩:=zq
 rw [h1]
 exact thn (hg qZ s1 σ H1 x v _ I1 r1 q1) fun _ s2 q=>q
noncomputable def tWhile (c:TT) (tb:TS):TS:=fun D σ H=>∃ W:Nat->St->Hp->Prop,(∃ m,W m σ H)/\∀ m σ H,W m σ H->
 c σ H fun b H1=>if b=true then ∃ N:St->Hp->Prop,(∀ σ' H',N σ' H'->∃ m',m' < m/\W m' σ' H')/\tb { D with nx:=N,ct:=N,bk:=D.nx } σ H1 else D.nx σ H1
theorem zh5 (hp:PassesOwn (model X.prog X.w) X.A X.env X.xe) (hc:PT X c tc) (hb:PSs X body tb):PS X (.While c body [] pos) (tWhile tc tb):=by
 intro qZ s σ H D I h
 obtain ⟨W,⟨m0,w0⟩,turn⟩:=h
 refine wpAny_While (codeAny_whileLoop (fun n s'=>∃ σ' H',Inv X qZ σ' H' s'/\W n σ' H') ?_ m0 ⟨σ,H,I,w0⟩)
 rintro n s1 ⟨σ1,H1,I1,w1⟩
 refine wpAny_passesOwn hp (thn (hc qZ s1 σ1 H1 _ I1 (turn n σ1 H1 w1)) fun b s2 zq=>?_)
 obtain ⟨H2,I2,q2⟩:=zq
 cases b with
 | true=>
   obtain ⟨N,hN,q2⟩:=q2
   rw [qq rfl]
   refine wpAny_passesOwn hp (thn (hb qZ s2 σ1 H2 _ I2 q2) fun f s3 q3=>?_)
   cases f with
   | next=>
     obtain ⟨σ3,H3,I3,n3⟩:=q3
     obtain ⟨m',hm,w3⟩:=hN σ3 H3 n3
     exact ⟨m',hm,σ3,H3,I3,w3⟩
   | cont=>
     obtain ⟨σ3,H3,I3,n3⟩:=q3
     obtain ⟨m',hm,w3⟩:=hN σ3 H3 n3
     exact ⟨m',hm,σ3,H3,I3,w3⟩
   | brk=>exact q3
   | ret v=>exact q3
 | false=>
   rw [qr qp]
   exact wpAny_execs_nil ⟨σ1,H2,I2,q2⟩
end
structure It where
 go:Nat->Hp->Prop
 yld:Nat->Hp->V->Hp->Prop
 stop:Nat->Hp->Prop
noncomputable def FpOk (X:Cx) (qZ:List (Addr×Obj)) (H:Hp) (b:Addr):Prop:=
 H b=none/\b≠X.env.locals/\b∉X.fs/\(b∈X.ex\/X.s₀.heap.get? b=none)/\(∀ x c,X.env.cells.lookup x=some c->c≠b)/\∀ p∈X.pn++qZ,p.1≠b
theorem Inv.fpOk (I:Inv X qZ σ H s) (hb:s.heap.objs.size<=b) (hn:H' b=none):FpOk X qZ H' b:=by
 refine ⟨hn,Nat.ne_of_gt (Nat.lt_of_lt_of_le I.lt hb),I.nofs hb,.inr (Heap.get?_none_of_le (Nat.le_trans I.sz hb)),fun x c e z=>?_,fun p hp z=>?_⟩
 ·obtain ⟨v,q⟩:=I.cell x c e
  exact absurd (Nat.lt_of_lt_of_le q.lt (by rw [z]; exact hb)) (Nat.lt_irrefl _)
 ·exact absurd (Nat.lt_of_lt_of_le (qf (I.pin p hp).1) (by rw [z]; exact hb)) (Nat.lt_irrefl _)
structure Turn (P:Program) (w:World) (K:W.Frag) (tg:Expr) (J:It) (fp:List Addr) (it:Addr) (tn:Nat->Heap->Prop):Prop where
 mem:it∈fp
 obj:∀ i h,tn i h->∀ b∈fp,∃ o,h.get? b=some o/\∀ v,o.data≠.cell v
 keep:∀ i h h',tn i h->(∀ b∈fp,∀ o,h.get? b=some o->h'.get? b=some o)->tn i h'
 item:∀ (X:Cx),X.prog=P->X.w=w->X.K=K->X.calm=true->∀ (i:Nat) (qZ:List (Addr×Obj)) (s:Shared) (σ:St) (H:Hp) (E:qE),Inv X qZ σ H s->(∀ b∈fp,FpOk X qZ H b)->tn i s.heap->J.go i H->
  wpAny (model P w) X.A (pyNext (.ref it)) (fun r s1=>∃ u,r=some u/\
   wpAny (model P w) X.A (letOwnedTupleGo tg (.ref it) u) (fun _ s2=>∃ x H',Inv X qZ σ H' s2/\qO x u/\J.yld i H x H'/\tn (i + 1) s2.heap/\∀ b∈fp,H' b=none) E s1) E s
 done:∀ (X:Cx),X.prog=P->X.w=w->X.K=K->X.calm=true->∀ (i:Nat) (qZ:List (Addr×Obj)) (s:Shared) (σ:St) (H:Hp) (E:qE),Inv X qZ σ H s->(∀ b∈fp,FpOk X qZ H b)->tn i s.heap->J.stop i H->
  wpAny (model P w) X.A (pyNext (.ref it)) (fun r s1=>r=none/\Inv X qZ σ H s1) E s
 self:∀ (A:Around) (i:Nat) (s:Shared) (Q:qE) (E:qE),tn i s.heap->Q (.ref it) s->wpAny (model P w) A (pyIter (.ref it)) Q E s
noncomputable abbrev TI:=St->Hp->(It->Hp->Prop)->Prop
inductive PIE (X:Cx) (qZ:List (Addr×Obj)) (σ:St) (tg:Expr) (R:It->Hp->Prop) (itv:Value) (s2:Shared):Prop
 | mk (it:Addr) (fp:List Addr) (tn:Nat->Heap->Prop) (J:It) (H':Hp):itv=.ref it->Inv X qZ σ H' s2->Turn X.prog X.w X.K tg J fp it tn->tn 0 s2.heap->(∀ b∈fp,FpOk X qZ H' b)->R J H'->PIE X qZ σ tg R itv s2
noncomputable def PI (X:Cx) (tg iter:Expr) (wi:TI):Prop:=
 ∀ (qZ:List (Addr×Obj)) (s:Shared) (σ:St) (H:Hp) (R:It->Hp->Prop),Inv X qZ σ H s->wi σ H R->
   wpAny (model X.prog X.w) X.A (eval iter X.env) (fun v s1=>wpAny (model X.prog X.w) X.A (pyIter v) (PIE X qZ σ tg R) X.xe s1) X.xe s
theorem zil (ho:s.heap.get? it=some o) (hc:o.cls=.type n) (hd:o.data=.fields vs)
  (hn:["enumerate","zip","dict_itemiterator","dict_reverseitemiterator","odict_iterator","itertools.zip_longest","itertools.pairwise"].contains n=false) (hQ:Q () s):wpAny M A (letOwnedTupleGo tg (.ref it) u) Q E s:=by
 unfold letOwnedTupleGo
 cases tg <;> first
  | exact qb hQ
  | (cases u <;> first
    | exact qb hQ
    | (refine qa (wpAny_load ho ?_)
       rw [hc,hd]
       show wpAny M A (if (["enumerate","zip","dict_itemiterator","dict_reverseitemiterator","odict_iterator","itertools.zip_longest","itertools.pairwise"].contains n && vs[0]? == some (rawInt _))=true then _ else _) Q E s
       rw [qr (by intro h; rw [hn,Bool.false_and] at h; cases h)]
       exact qb hQ))
noncomputable def Itl (K:W.Frag) (a:Addr):It:=
 ⟨fun i H=>∃ xs x,SqL K H a xs/\xs[i]?=some x,fun i H x H'=>H'=H/\∀ xs,SqL K H a xs->xs[i]?=some x,fun i H=>∃ xs,SqL K H a xs/\xs.length<=i⟩
noncomputable def Itt (K:W.Frag) (a:Addr):It:=
 ⟨fun i H=>∃ xs x,SqT K H a xs/\xs[i]?=some x,fun i H x H'=>H'=H/\∀ xs,SqT K H a xs->xs[i]?=some x,fun i H=>∃ xs,SqT K H a xs/\xs.length<=i⟩
noncomputable def Itr (lo:Int) (n:Nat):It:=⟨fun i _=>i < n,fun i H x H'=>H'=H/\x=.int (lo + i),fun i _=>n<=i⟩
theorem zgq {P:Program} {w:World} {K:W.Frag} {tg:Expr} (a it:Addr):Turn P w K tg (Itl K a) [it] it (fun i h=>h.IsListIter it a i) where
 mem:=by simp
 obj:=fun i h st b hb=>by
  have e:b=it:=by simpa using hb
  subst e
  obtain ⟨o,e,c,d⟩:=st
  exact ⟨o,e,fun v z=>by rw [d] at z; cases z⟩
 keep:=fun i h h' st k=>st.at fun o e=>k it (by simp) o e
 item:=by
  intro X hP hw hK hc i qZ s σ H E I hf st hg
  subst hP hw hK
  obtain ⟨xs,x,hq,hx⟩:=hg
  obtain ⟨zc,rv,p,hz⟩:=I.list hq
  obtain ⟨u,hu,ru⟩:=rv.get hx
  obtain ⟨f0,f1,f2,f3,f4,f5⟩:=hf it (by simp)
  refine wpAny_pyNext_list_item st p.isList (x:=u) (by simpa using hu) fun h' st' sb=>?_
  have I1:Inv X qZ σ H { s with heap:=h' }:=I.turned (t':=s.toks) (fun b o hb e=>(sb.2 b hb).trans e) f0 f1 f3 f4 f5
  obtain ⟨o,e,c,d⟩:=id st'
  exact ⟨u,rfl,zil (s:={ s with heap:=h' }) e c d (by decide) ⟨x,H,I1,ru,⟨rfl,fun ys hy=>by rw [I.list_inj hy hq]; exact hx⟩,st',fun b hb=>(hf b hb).1⟩⟩
 done:=by
  intro X hP hw hK hc i qZ s σ H E I hf st hg
  subst hP hw hK
  obtain ⟨xs,hq,hx⟩:=hg
  obtain ⟨zc,rv,p,hz⟩:=I.list hq
  obtain ⟨f0,f1,f2,f3,f4,f5⟩:=hf it (by simp)
  have hl:=rv.length
  exact wpAny_pyNext_list_end (I.ok.hd hc) st p.isList (by simp; lia) fun h' eb=>⟨rfl,I.turned (t':=s.toks) (fun b o hb e=>eb b o hb e) f0 f1 f3 f4 f5⟩
 self:=fun _ _ _ _ _ st h=>wpAny_pyIter_listiter st h
theorem zfJ {P:Program} {w:World} {K:W.Frag} {tg:Expr} (a it:Addr):Turn P w K tg (Itt K a) [it] it (fun i h=>h.IsTupleIter it a i) where
 mem:=by simp
 obj:=fun i h st b hb=>by
  have e:b=it:=by simpa using hb
  subst e
  obtain ⟨o,e,c,d⟩:=st
  exact ⟨o,e,fun v z=>by rw [d] at z; cases z⟩
 keep:=fun i h h' st k=>st.at fun o e=>k it (by simp) o e
 item:=by
  intro X hP hw hK hc i qZ s σ H E I hf st hg
  subst hP hw hK
  obtain ⟨xs,x,hq,hx⟩:=hg
  obtain ⟨zc,rv,p,hz⟩:=I.tuple hq
  obtain ⟨u,hu,ru⟩:=rv.get hx
  obtain ⟨f0,f1,f2,f3,f4,f5⟩:=hf it (by simp)
  refine wpAny_pyNext_tuple_item st (show s.heap.IsTuple a zc.toArray from p) (x:=u) (by simpa using hu) fun h' st' sb=>?_
  have I1:Inv X qZ σ H { s with heap:=h' }:=I.turned (t':=s.toks) (fun b o hb e=>(sb.2 b hb).trans e) f0 f1 f3 f4 f5
  obtain ⟨o,e,c,d⟩:=id st'
  exact ⟨u,rfl,zil (s:={ s with heap:=h' }) e c d (by decide) ⟨x,H,I1,ru,⟨rfl,fun ys hy=>by rw [I.tuple_inj hy hq]; exact hx⟩,st',fun b hb=>(hf b hb).1⟩⟩
 done:=by
  intro X hP hw hK hc i qZ s σ H E I hf st hg
  subst hP hw hK
  obtain ⟨xs,hq,hx⟩:=hg
  obtain ⟨zc,rv,p,hz⟩:=I.tuple hq
  obtain ⟨f0,f1,f2,f3,f4,f5⟩:=hf it (by simp)
  have hl:=rv.length
  exact wpAny_pyNext_tuple_end (I.ok.hd hc) st (show s.heap.IsTuple a zc.toArray from p) (by simp; lia) fun h' eb=>⟨rfl,I.turned (t':=s.toks) (fun b o hb e=>eb b o hb e) f0 f1 f3 f4 f5⟩
 self:=fun _ _ _ _ _ st h=>wpAny_pyIter_tupleiter st h
theorem zfL {P:Program} {w:World} {K:W.Frag} {tg:Expr} (it:Addr) (lo:Int) (n:Nat):Turn P w K tg (Itr lo n) [it] it (fun i h=>IsRangeIter h it (lo + (i:Nat) * 1) ((n:Int) - (i:Nat)) 1) where
 mem:=by simp
 obj:=fun i h st b hb=>by
  have e:b=it:=by simpa using hb
  subst e
  exact ⟨_,st,fun v z=>by
   have z':Data.fields _=Data.cell v:=z
   cases z'⟩
 keep:=fun i h h' st k=>k it (by simp) _ st
 item:=by
  intro X hP hw hK hc i qZ s σ H E I hf st hg
  subst hP hw hK
  obtain ⟨f0,f1,f2,f3,f4,f5⟩:=hf it (by simp)
  have W:=Walks.range (prog:=X.prog) (w:=X.w) (I.ok.hd hc) it lo 1 n
  refine W.item i s _ _ hg st fun v h' tk hv st' kk=>?_
  obtain ⟨t,rfl⟩:=hv
  have I1:Inv X qZ σ H { s with heap:=h',toks:=tk }:=I.turned (fun b o hb e=>kk b o (by simpa using hb) e) f0 f1 f3 f4 f5
  refine ⟨_,rfl,zil (s:={ s with heap:=h',toks:=tk }) (n:="range_iterator") st' rfl rfl (by decide) ⟨.int (lo + i),H,I1,⟨t,?_⟩,⟨rfl,rfl⟩,st',fun b hb=>(hf b hb).1⟩⟩
  rw [Int.mul_one]
 done:=by
  intro X hP hw hK hc i qZ s σ H E I hf st hg
  subst hP hw hK
  obtain ⟨f0,f1,f2,f3,f4,f5⟩:=hf it (by simp)
  exact wpAny_pyNext_range_end (I.ok.hd hc) st (by have:n<=i:=hg; lia) fun h' eb=>⟨rfl,I.turned (t':=s.toks) (fun b o hb e=>eb b o hb e) f0 f1 f3 f4 f5⟩
 self:=fun _ _ _ _ _ st h=>wpAny_pyIter_rangeiter st h
section
variable {X:Cx} {tg:Expr}
theorem zfv {lo hi:Int} (I:Inv X qZ σ H s) (h1:-(2 ^ 62)<=lo) (h2:lo < 2 ^ 62) (h3:-(2 ^ 62)<=hi) (h4:hi < 2 ^ 62)
  (q:R (Itr lo (hi - lo).toNat) H):wpAny (model X.prog X.w) X.A (pyIter (.ref s.heap.objs.size)) (PIE X qZ σ tg R) E { s with heap:=s.heap.push { cls:=.type "range",data:=.fields #[.int lo t,.int hi u,.int 1 v] },toks:=tk }:=by
 refine wpAny_pyIter_range (IsRange.new ..) (small_one h1 h2 h3 h4) ?_
 have I1:Inv X qZ σ H { s with heap:=s.heap.push { cls:=.type "range",data:=.fields #[.int lo t,.int hi u,.int 1 v] },toks:=tk }:=I.kept fun b o e=>qc _ e
 refine ⟨(s.heap.push { cls:=.type "range",data:=.fields #[.int lo t,.int hi u,.int 1 v] }).objs.size,[(s.heap.push { cls:=.type "range",data:=.fields #[.int lo t,.int hi u,.int 1 v] }).objs.size],_,_,H,rfl,
  I1.kept (t':=tk) fun b o e=>qc _ e,zfL _ lo (hi - lo).toNat,?_,fun b hb=>?_,q⟩
 ·have e1:lo + ((0:Nat):Int) * 1=lo:=by simp
  have e2:(((hi - lo).toNat:Nat):Int) - ((0:Nat):Int)=Builtin.Range.rangeSize lo hi 1:=by rw [rangeSize_one]; split <;> lia
  show IsRangeIter _ _ (lo + ((0:Nat):Int) * 1) ((((hi - lo).toNat:Nat):Int) - ((0:Nat):Int)) 1
  rw [e1,e2]
  exact qd _ rfl
 ·have e:b=(s.heap.push { cls:=.type "range",data:=.fields #[.int lo t,.int hi u,.int 1 v] }).objs.size:=by simpa using hb
  subst e
  exact I1.fpOk (Nat.le_refl _) (I1.hok.fresh (Nat.le_refl _))
noncomputable def iRng1 (ta:TA):TI:=fun σ H R=>ta σ H fun vs H1=>∃ j:Int,vs=[.int j]/\-(2 ^ 62)<=j/\j < 2 ^ 62/\R (Itr 0 j.toNat) H1
noncomputable def iRng2 (ta:TA):TI:=fun σ H R=>ta σ H fun vs H1=>∃ i j:Int,vs=[.int i,.int j]/\(-(2 ^ 62)<=i/\i < 2 ^ 62/\-(2 ^ 62)<=j/\j < 2 ^ 62)/\R (Itr i (j - i).toNat) H1
theorem zg1 (hg:Gl X "range") (hm:X.mg "range"=none) (ha:PA X [a] ta) (hs:starEach [a] X.env=[(false,eval a X.env)]:=by rfl):PI X tg (.Call (.Name "range" p) [a] [] pos) (iRng1 ta):=by
 intro qZ s σ H R I h
 refine Call_ (zbu I hg hm boot_range (PyProof.Rows.callWith_type1 (thn (ha pos qZ s σ H _ I h) fun us s1 zq=>?_) hs rfl))
 obtain ⟨vs,H1,I1,r1,q1⟩:=zq
 obtain ⟨j,e,q1,q2,q⟩:=q1
 subst e
 cases r1 with
 | cons r rr=>
   cases rr
   obtain ⟨t,rfl⟩:=r
   exact call_range_1 (zfv I1 (by lia) (by lia) q1 q2 (by simpa using q))
theorem zho (hg:Gl X "range") (hm:X.mg "range"=none) (ha:PA X [a,b] ta) (hs:starEach [a,b] X.env=[(false,eval a X.env),(false,eval b X.env)]:=by rfl) (hs2:starEach [b] X.env=[(false,eval b X.env)]:=by rfl):
  PI X tg (.Call (.Name "range" p) [a,b] [] pos) (iRng2 ta):=by
 intro qZ s σ H R I h
 refine Call_ (zbu I hg hm boot_range (PyProof.Rows.callWith_type1 (thn (ha pos qZ s σ H _ I h) fun us s1 zq=>?_) (by rw [hs,hs2]) (by rw [hs2]; rfl)))
 obtain ⟨vs,H1,I1,r1,q1⟩:=zq
 obtain ⟨i,j,e,⟨q1,q2,q3,q4⟩,q⟩:=q1
 subst e
 cases r1 with
 | cons r rr=>
   cases rr with
   | cons r' rr=>
     cases rr
     obtain ⟨t,rfl⟩:=r
     obtain ⟨t',rfl⟩:=r'
     exact call_range_2 (zfv I1 q1 q2 q3 q4 q)
noncomputable def tFor (wi:TI) (g:TG) (tb:TS):TS:=fun D σ H=>wi σ H fun J H1=>∃ W:Nat->Nat->St->Hp->Prop,(∃ m,W 0 m σ H1)/\∀ i m σ H,W i m σ H->
 (J.stop i H/\D.nx σ H)\/(J.go i H/\∃ N:St->Hp->Prop,(∀ σ' H',N σ' H'->∃ m',m' < m/\W (i + 1) m' σ' H')/\∀ x H',J.yld i H x H'->g x σ H' fun σ2 H2=>tb { D with nx:=N,ct:=N,bk:=D.nx } σ2 H2)
noncomputable def pinsAt (fp:List Addr) (h:Heap):List (Addr×Obj):=fp.filterMap fun b=>(h.get? b).map fun o=>(b,o)
theorem zbp (hb:b∈fp) (e:h.get? b=some o):(b,o)∈pinsAt fp h:=List.mem_filterMap.mpr ⟨b,hb,by rw [e]; rfl⟩
theorem zhw (hp:p∈pinsAt fp h):p.1∈fp/\h.get? p.1=some p.2:=by
 obtain ⟨b,hb,e⟩:=List.mem_filterMap.mp hp
 cases q:h.get? b with
 | none=>rw [q] at e; cases e
 | some o=>
   grind
theorem Inv.pinned (I:Inv X qZ σ H s) (hf:∀ b∈fp,FpOk X qZ H b) (ho:∀ b∈fp,∃ o,s.heap.get? b=some o/\∀ v,o.data≠.cell v):Inv X (qZ++pinsAt fp s.heap) σ H s:=
 I.pins_of fun p hp=>(List.mem_append.mp hp).elim (fun z=>I.pin p (List.mem_append_right _ z)) fun z=>by
  obtain ⟨hb,e⟩:=zhw z
  obtain ⟨f0,f1,f2,_⟩:=hf p.1 hb
  obtain ⟨o,e',d⟩:=ho p.1 hb
  rw [e] at e'; cases e'
  exact ⟨e,f0,f1,f2,d⟩
theorem Inv.unpinned (I:Inv X (qZ++pl) σ H s):Inv X qZ σ H s:=I.pins_of fun p hp=>I.pin p (List.mem_append_right _ (List.mem_append_left _ hp))
theorem zlg (hp:PassesOwn (model X.prog X.w) X.A X.env X.xe) (hc:X.calm=true) (hi:PI X tg iter wi) (hg:PG X tg g) (hb:PSs X body tb)
  (hs:∀ x,foldedSetIterable iter X.env x=pure x:=by intro _; rfl):PS X (.For tg iter body [] pos) (tFor wi g tb):=by
 intro qZ s σ H D I h
 refine wpAny_For (thn (hi qZ s σ H _ I h) fun v s1 h1=>thn h1 fun itv s2 h2=>?_) hs
 obtain ⟨it,fp,tn,J,H2,e,I2,T,st2,f2,W,⟨m0,w0⟩,turn⟩:=h2
 subst e
 -- what stays true of the iterator's objects through the loop
 have stat:∀ {H':Hp},(∀ b∈fp,H' b=none)->∀ b∈fp,FpOk X qZ H' b:=fun hn b hb=>⟨hn b hb,(f2 b hb).2⟩
 refine codeAny_forLoop_any (fun n s'=>∃ i σ' H',Inv X qZ σ' H' s'/\tn i s'.heap/\(∀ b∈fp,H' b=none)/\W i n σ' H') ?_ m0 ⟨0,σ,H2,I2,st2,fun b hb=>(f2 b hb).1,w0⟩
 rintro n s3 ⟨i,σ3,H3,I3,st3,fr3,w3⟩
 rcases turn i n σ3 H3 w3 with ⟨stop,qn⟩ | ⟨go,N,hN,step⟩
 ·refine wpAny_passesOwn hp (thn (T.done X rfl rfl rfl hc i qZ s3 σ3 H3 X.xe I3 (stat fr3) st3 stop) fun r s4 ⟨hr,I4⟩=>?_)
  subst hr
  exact wpAny_execs_nil ⟨σ3,H3,I4,qn⟩
 ·refine wpAny_passesOwn hp (thn (T.item X rfl rfl rfl hc i qZ s3 σ3 H3 X.xe I3 (stat fr3) st3 go) fun r s4 zq=>?_)
  obtain ⟨u,hr,h4⟩:=zq
  subst hr
  refine wpAny_passesOwn hp (thn h4 fun _ s5 zq=>?_)
  obtain ⟨x,H5,I5,r5,y5,st5,fr5⟩:=zq
  have I5':=I5.pinned (stat fr5) (T.obj _ _ st5)
  refine wpAny_passesOwn hp (thn (hg _ s5 σ3 H5 x u _ I5' r5 (step x H5 y5)) fun _ s6 zq=>?_)
  obtain ⟨σ6,H6,I6,q6⟩:=zq
  refine wpAny_passesOwn hp (thn (hb _ s6 σ6 H6 _ I6 q6) fun f s7 q7=>?_)
  have again:∀ {σ7:St} {H7:Hp},Inv X (qZ++pinsAt fp s5.heap) σ7 H7 s7->N σ7 H7->∃ m,m < n/\∃ i σ' H',Inv X qZ σ' H' s7/\tn i s7.heap/\(∀ b∈fp,H' b=none)/\W i m σ' H':=fun {σ7 H7} I7 n7=>by
   obtain ⟨m',hm,w7⟩:=hN σ7 H7 n7
   refine ⟨m',hm,i + 1,σ7,H7,I7.unpinned,T.keep _ _ _ st5 fun b hb o e=>(I7.pin (b,o) (List.mem_append_right _ (List.mem_append_right _ (zbp hb e)))).1,fun b hb=>?_,w7⟩
   obtain ⟨o,e,d⟩:=T.obj _ _ st5 b hb
   exact (I7.pin (b,o) (List.mem_append_right _ (List.mem_append_right _ (zbp hb e)))).2.1
  cases f with
  | next=>obtain ⟨σ7,H7,I7,n7⟩:=q7; exact again I7 n7
  | cont=>obtain ⟨σ7,H7,I7,n7⟩:=q7; exact again I7 n7
  | brk=>obtain ⟨σ7,H7,I7,q7⟩:=q7; exact ⟨σ7,H7,I7.unpinned,q7⟩
  | ret v=>obtain ⟨x7,σ7,H7,I7,r7,q7⟩:=q7; exact ⟨x7,σ7,H7,I7.unpinned,r7,q7⟩
end
noncomputable abbrev R2:=V->V->Hp->VK->Prop
noncomputable def OpR (X:Cx) (f:Value->Value->Sem Value) (r:R2):Prop:=
 ∀ (qZ:List (Addr×Obj)) (s:Shared) (σ:St) (H:Hp) (x y:V) (v u:Value) (Q:VK),Inv X qZ σ H s->qO x v->qO y u->r x y H Q->
   wpAny (model X.prog X.w) X.A (f v u) (EP X qZ σ Q) X.xe s
noncomputable def UnR (X:Cx) (f:Value->Sem Value) (r:V->Hp->VK->Prop):Prop:=
 ∀ (qZ:List (Addr×Obj)) (s:Shared) (σ:St) (H:Hp) (x:V) (v:Value) (Q:VK),Inv X qZ σ H s->qO x v->r x H Q->
   wpAny (model X.prog X.w) X.A (f v) (EP X qZ σ Q) X.xe s
noncomputable def CallR (X:Cx) (f:Value) (r:List V->Hp->VK->Prop):Prop:=
 ∀ (qZ:List (Addr×Obj)) (s:Shared) (σ:St) (H:Hp) (xs:List V) (us:List Value) (Q:VK),Inv X qZ σ H s->qW xs us->r xs H Q->
   wpAny (model X.prog X.w) X.A (call f us) (EP X qZ σ Q) X.xe s
noncomputable def TruR (X:Cx) (r:V->Hp->(Bool->Hp->Prop)->Prop):Prop:=
 ∀ (qZ:List (Addr×Obj)) (s:Shared) (σ:St) (H:Hp) (x:V) (v:Value) (Q:Bool->Hp->Prop),Inv X qZ σ H s->qO x v->r x H Q->
   wpAny (model X.prog X.w) X.A (truthy v) (TP X qZ σ Q) X.xe s
noncomputable def tOp (r:R2) (ta tb:TE):TE:=fun σ H Q=>ta σ H fun x H1=>tb σ H1 fun y H2=>r x y H2 Q
noncomputable def tUn (r:V->Hp->VK->Prop) (ta:TE):TE:=fun σ H Q=>ta σ H fun x H1=>r x H1 Q
noncomputable def rI (C:Int->Int->Prop) (g:Int->Int->V):R2:=fun x y H Q=>∃ i j,x=.int i/\y=.int j/\C i j/\Q (g i j) H
noncomputable def rI0 (g:Int->Int->V):R2:=fun x y H Q=>∃ i j,x=.int i/\y=.int j/\Q (g i j) H
noncomputable def rU (g:Int->V):V->Hp->VK->Prop:=fun x H Q=>∃ i,x=.int i/\Q (g i) H
section
variable {X:Cx} {a b c:Expr} {ta tb tc:TE} {pos:Pos}
theorem binT (ha:PE X a ta) (hb:PE X b tb) {R:V->V->Hp->Prop} (I:Inv X qZ σ H s)
  (h:ta σ H fun x H1=>tb σ H1 fun y H2=>R x y H2) {f:Value->Value->Sem Value}
  (hf:∀ v u s2 x y H2,Inv X qZ σ H2 s2->qO x v->qO y u->R x y H2->wpAny (model X.prog X.w) X.A (f v u) Q X.xe s2):
  wpAny (model X.prog X.w) X.A (eval a X.env) (fun v s₁=>wpAny (model X.prog X.w) X.A (eval b X.env) (fun u s₂=>wpAny (model X.prog X.w) X.A (f v u) Q X.xe s₂) X.xe s₁) X.xe s:=by
 refine thn (ha qZ s σ H _ I h) fun v s1 zq=>?_
 obtain ⟨x,H1,I1,r1,q1⟩:=zq
 refine thn (hb qZ s1 σ H1 _ I1 q1) fun u s2 zq=>?_
 obtain ⟨y,H2,I2,r2,q2⟩:=zq
 exact hf v u s2 x y H2 I2 r1 r2 q2
theorem znr (ho:OpR X (binaryOp op) r) (ha:PE X a ta) (hb:PE X b tb):PE X (.BinOp a op b pos) (tOp r ta tb):=by
 intro qZ s σ H Q I h
 exact wpAny_BinOp (binT ha hb I h fun v u s2 x y H2 I2 rx ry q=>ho qZ s2 σ H2 x y v u Q I2 rx ry q)
theorem znK (ho:UnR X (unaryOp op) r) (ha:PE X a ta):PE X (.UnaryOp op a pos) (tUn r ta):=by
 intro qZ s σ H Q I h
 exact UnaryOp_ (thn (ha qZ s σ H _ I h) fun v s1 ⟨x,H1,I1,r1,q1⟩=>ho qZ s1 σ H1 x v Q I1 r1 q1)
theorem opI {g:Int->Int->Int}
  (rule:∀ (i j:Int) (t u:Tok) (s:Shared) (Q:qE) (E:qE),C i j->Q (.int (g i j) s.toks) { s with toks:=s.toks + 1 }->wpAny (model X.prog X.w) X.A (f (.int i t) (.int j u)) Q E s):
  OpR X f (rI C fun i j=>.int (g i j)):=by
 intro qZ s σ H x y v u Q I rx ry h
 obtain ⟨i,j,rfl,rfl,hc,q⟩:=h
 obtain ⟨t,rfl⟩:=rx
 obtain ⟨t',rfl⟩:=ry
 exact rule i j t t' s _ _ hc ⟨.int (g i j),H,I.tok _,⟨_,rfl⟩,q⟩
theorem opI0 {g:Int->Int->Int}
  (rule:∀ (i j:Int) (t u:Tok) (s:Shared) (Q:qE) (E:qE),Q (.int (g i j) s.toks) { s with toks:=s.toks + 1 }->wpAny (model X.prog X.w) X.A (f (.int i t) (.int j u)) Q E s):
  OpR X f (rI0 fun i j=>.int (g i j)):=by
 intro qZ s σ H x y v u Q I rx ry h
 obtain ⟨i,j,rfl,rfl,q⟩:=h
 obtain ⟨t,rfl⟩:=rx
 obtain ⟨t',rfl⟩:=ry
 exact rule i j t t' s _ _ ⟨.int (g i j),H,I.tok _,⟨_,rfl⟩,q⟩
theorem opB0 {g:Int->Int->Bool}
  (rule:∀ (i j:Int) (t u:Tok) (s:Shared) (Q:qE) (E:qE),Q (.bool (g i j)) s->wpAny (model X.prog X.w) X.A (f (.int i t) (.int j u)) Q E s):
  OpR X f (rI0 fun i j=>.bl (g i j)):=by
 intro qZ s σ H x y v u Q I rx ry h
 obtain ⟨i,j,rfl,rfl,q⟩:=h
 obtain ⟨t,rfl⟩:=rx
 obtain ⟨t',rfl⟩:=ry
 exact rule i j t t' s _ _ ⟨.bl (g i j),H,I,rfl,q⟩
noncomputable def CPow (i j:Int):Prop:=0<=j/\j<=1000000/\i.natAbs < 2 ^ 64
noncomputable def CMul (i j:Int):Prop:=(-(2 ^ 64) < i/\i < 2 ^ 64)\/(-(2 ^ 64) < j/\j < 2 ^ 64)
theorem CMul.ok (h:CMul i j):IntMulOk i j:=by
 rcases h with ⟨h1,h2⟩ | ⟨h1,h2⟩
 ·exact .of_left (intBits_le_64 h1 h2)
 ·exact .of_right (intBits_le_64 h1 h2)
theorem zmv:OpR X (binaryOp .Add) (rI0 fun i j=>.int (i + j)):=opI0 fun _ _ _ _ _ _ _ q=>add_int q
theorem zm7:OpR X (binaryOp .Mult) (rI CMul fun i j=>.int (i * j)):=opI fun _ _ _ _ _ _ _ hc q=>mul_int q hc.ok
theorem zmJ:OpR X (binaryOp .Mod) (rI (fun _ j=>0 < j) fun i j=>.int (i % j)):=opI fun i j _ _ _ _ _ hc q=>by
 have h1:(0:Int) < j:=hc
 exact mod_int' (by lia) (by rw [Int.fmod_eq_emod_of_nonneg i (by lia)]; exact q)
theorem zlE:OpR X (binaryOp .Pow) (rI CPow fun i j=>.int (i ^ j.toNat)):=opI fun _ _ _ _ _ _ _ hc q=>pow_int_small hc.1 hc.2.1 hc.2.2 q
theorem unI {g:Int->Int}
  (rule:∀ (i:Int) (t:Tok) (s:Shared) (Q:qE) (E:qE),Q (.int (g i) s.toks) { s with toks:=s.toks + 1 }->wpAny (model X.prog X.w) X.A (f (.int i t)) Q E s):
  UnR X f (rU fun i=>.int (g i)):=by
 intro qZ s σ H x v Q I rx h
 obtain ⟨i,rfl,q⟩:=h
 obtain ⟨t,rfl⟩:=rx
 exact rule i t s _ _ ⟨.int (g i),H,I.tok _,⟨_,rfl⟩,q⟩
theorem znb:UnR X (unaryOp .USub) (rU fun i=>.int (-i)):=unI fun _ _ _ _ _ q=>neg_int q
end
noncomputable def scal:V->V->Bool
 | .non,.non=>true | .non,.int _=>true | .int _,.non=>true | .non,.bl _=>true | .bl _,.non=>true | .non,.str _=>true | .str _,.non=>true
 | .int _,.int _=>true | .bl _,.bl _=>true | .str _,.str _=>true | .byt _,.byt _=>true
 | .int _,.str _=>true | .str _,.int _=>true | .bl _,.str _=>true | .str _,.bl _=>true
 | _,_=>false
noncomputable def rNe:R2:=fun x y H Q=>scal x y=true/\Q (.bl (!decide (x=y))) H
theorem zkl:decide (V.int i=V.int j)=(i == j):=by
 rw [Bool.eq_iff_iff]
 simp
theorem zlP:decide (V.bl i=V.bl j)=(i == j):=by
 rw [Bool.eq_iff_iff]
 simp
theorem zke:decide (V.str i=V.str j)=(i == j):=by
 rw [Bool.eq_iff_iff]
 simp
theorem zkC:decide (V.byt i=V.byt j)=(i.toList == j.toList):=by
 rw [Bool.eq_iff_iff]
 cases i
 cases j
 simp
section
variable {X:Cx} {a b c:Expr} {ta tb tc:TE} {pos:Pos}
theorem zaL (I:Inv X qZ σ H s) (q:Q (.bl k) H) (e:k=k'):EP X qZ σ Q (.bool k') s:=by
 subst e
 exact ⟨.bl k,H,I,rfl,q⟩
theorem zof:OpR X (compareOp .NotEq) rNe:=by
 intro qZ s σ H x y v u Q I rx ry h
 obtain ⟨hs,q⟩:=h
 cases x with
 | non=>
   cases rx
   cases y with
   | non=>cases ry; exact PySem.EqNone.ne_none_none (zaL I q (by simp))
   | bl j=>cases ry; exact PySem.EqNone.ne_none_bool (zaL I q (by simp))
   | int j=>obtain ⟨t',rfl⟩:=ry; exact PySem.EqNone.ne_none_int (zaL I q (by simp))
   | str j=>obtain ⟨t',rfl⟩:=ry; exact PySem.EqNone.ne_none_str (zaL I q (by simp))
   | _=>exact absurd (show false=true from hs) qp
 | bl i=>
   cases rx
   cases y with
   | non=>cases ry; exact PySem.EqNone.ne_bool_none (zaL I q (by simp))
   | bl j=>cases ry; exact ne_bool (zaL I q (congrArg not zlP))
   | str j=>obtain ⟨t',rfl⟩:=ry; exact PySem.EqMixed.ne_bool_str (zaL I q (by simp))
   | _=>exact absurd (show false=true from hs) qp
 | int i=>
   obtain ⟨t,rfl⟩:=rx
   cases y with
   | non=>cases ry; exact PySem.EqNone.ne_int_none (zaL I q (by simp))
   | int j=>obtain ⟨t',rfl⟩:=ry; exact ne_int (zaL I q (congrArg not zkl))
   | str j=>obtain ⟨t',rfl⟩:=ry; exact PySem.EqMixed.ne_int_str (zaL I q (by simp))
   | _=>exact absurd (show false=true from hs) qp
 | str i=>
   obtain ⟨t,rfl⟩:=rx
   cases y with
   | non=>cases ry; exact PySem.EqNone.ne_str_none (zaL I q (by simp))
   | bl j=>cases ry; exact PySem.EqMixed.ne_str_bool (zaL I q (by simp))
   | int j=>obtain ⟨t',rfl⟩:=ry; exact PySem.EqMixed.ne_str_int (zaL I q (by simp))
   | str j=>obtain ⟨t',rfl⟩:=ry; exact ne_str (zaL I q (congrArg not zke))
   | _=>exact absurd (show false=true from hs) qp
 | byt i=>
   obtain ⟨t,rfl⟩:=rx
   cases y with
   | byt j=>obtain ⟨t',rfl⟩:=ry; exact W.ne_bytes (zaL I q (congrArg not zkC))
   | _=>exact absurd (show false=true from hs) qp
 | _=>cases y <;> exact absurd (show false=true from hs) qp
theorem znB:OpR X (compareOp .Lt) (rI0 fun i j=>.bl (decide (i < j))):=opB0 fun _ _ _ _ _ _ _ q=>lt_int q
theorem zn5:OpR X (compareOp .LtE) (rI0 fun i j=>.bl (decide (i<=j))):=opB0 fun _ _ _ _ _ _ _ q=>le_int q
theorem zpr:OpR X (compareOp .Gt) (rI0 fun i j=>.bl (decide (j < i))):=opB0 fun _ _ _ _ _ _ _ q=>gt_int q
theorem zpf:OpR X (compareOp .GtE) (rI0 fun i j=>.bl (decide (j<=i))):=opB0 fun _ _ _ _ _ _ _ q=>ge_int q
theorem nomark (b:Expr) (h:op≠.In:=by decide) (h2:op≠.NotIn:=by decide):behindInMarks op b=false:=nobehind b h h2
theorem zkK (ho:OpR X (compareOp op) r) (ha:PE X a ta) (hb:PE X b tb) (hm:behindInMarks op b=false):PE X (.Compare a [op] [b] pos) (tOp r ta tb):=by
 intro qZ s σ H Q I h
 exact wpAny_Compare1 (binT ha hb I h fun v u s2 x y H2 I2 rx ry q=>ho qZ s2 σ H2 x y v u Q I2 rx ry q) hm
noncomputable def tTest (t:TE):TT:=fun σ H Q=>t σ H fun x H'=>∃ k,x=.bl k/\Q k H'
theorem zgD (ho:OpR X (compareOp op) r) (ha:PE X a ta) (hb:PE X b tb) (hm:behindInMarks op b=false):PT X (.Compare a [op] [b] pos) (tTest (tOp r ta tb)):=by
 intro qZ s σ H Q I h
 refine wpAny_isTrue_Compare1 (thn (ha qZ s σ H _ I h) fun v s1 ⟨x,H1,I1,r1,q1⟩=>thn (hb qZ s1 σ H1 _ I1 q1) fun u s2 ⟨y,H2,I2,r2,q2⟩=>
  thn (ho qZ s2 σ H2 x y v u _ I2 r1 r2 q2) fun c s3 ⟨z,H3,I3,r3,k,e,q3⟩=>?_) hm
 subst e
 cases r3
 exact wpAny_truthy_bool ⟨H3,I3,q3⟩
noncomputable def TruV (K:W.Frag) (x:V) (H:Hp) (k:Bool):Prop:=
 match x with
 | .non=>k=false
 | .bl b=>k=b
 | .int i=>k=(i !=0)
 | .str y=>y.length<=sizeLine/\k=((y.length:Int) !=0)
 | .byt y=>y.size<=sizeLine/\k=((y.size:Int) !=0)
 | .ref p=>(∃ xs,SqL K H p xs/\k=!xs.isEmpty)\/(∃ xs,SqT K H p xs/\k=!xs.isEmpty)\/∃ q5,H p=some (.dK q5)/\k=!q5.isEmpty
 | _=>False
theorem zfU (r:KV q5 vs):(!vs.isEmpty)=!q5.isEmpty:=by
 cases r <;> rfl
theorem zc9 (r:qW xs zc):(!zc.toArray.isEmpty)=!xs.isEmpty:=by
 cases r <;> simp
theorem line63:(sizeLine:Nat) < 2 ^ 63:=by rw [qz]; decide
theorem zl2:TruR X (fun x H Q=>∃ k,TruV X.K x H k/\Q k H):=by
 intro qZ s σ H x v Q I rx h
 obtain ⟨k,e,q⟩:=h
 have hl:=line63
 have hs:sizeLine=16777216:=qz
 cases x with
 | non=>
   cases rx
   have e':k=false:=e
   subst e'
   exact truthy_none ⟨H,I,q⟩
 | bl b=>
   cases rx
   have e':k=b:=e
   subst e'
   exact wpAny_truthy_bool ⟨H,I,q⟩
 | int i=>
   obtain ⟨t,rfl⟩:=rx
   have e':k=(i !=0):=e
   subst e'
   exact PySem.P.truthy_int ⟨H,I,q⟩
 | str y=>
   obtain ⟨t,rfl⟩:=rx
   obtain ⟨hy,e'⟩:y.length<=sizeLine/\k=((y.length:Int) !=0):=e
   subst e'
   exact PySem.P.truthy_str (by lia) ⟨H,I.tok _,q⟩
 | byt y=>
   obtain ⟨t,rfl⟩:=rx
   obtain ⟨hy,e'⟩:y.size<=sizeLine/\k=((y.size:Int) !=0):=e
   subst e'
   exact W.truthy_bytes (by lia) ⟨H,I.tok _,q⟩
 | ref p=>
   cases rx
   have e':(∃ xs,SqL X.K H p xs/\k=!xs.isEmpty)\/(∃ xs,SqT X.K H p xs/\k=!xs.isEmpty)\/∃ q5,H p=some (.dK q5)/\k=!q5.isEmpty:=e
   rcases e' with ⟨xs,hx,e'⟩ | ⟨xs,hx,e'⟩ | ⟨q5,hx,e'⟩
   ·subst e'
    obtain ⟨zc,r,pl,hz⟩:=I.list hx
    have q9:=r.length
    exact wpAny_truthy_list pl.isList (by simp only [List.size_toArray]; lia) ⟨H,I.tok _,by rw [zc9 r]; exact q⟩
   ·subst e'
    obtain ⟨zc,r,pl,hz⟩:=I.tuple hx
    have q9:=r.length
    exact truthy_tuple pl (by simp only [List.size_toArray]; lia) ⟨H,I.tok _,by rw [zc9 r]; exact q⟩
   ·subst e'
    obtain ⟨hz,hS,vs,r,m⟩:q5.length<=sizeLine/\(p == sysModules)=false/\∃ vs,KV q5 vs/\s.heap.DictOf (mixKind X.prog X.w) p vs:=I.hok p _ hx
    have q9:q5.length=vs.length:=Paired.length r
    exact wpAny_truthy_dict hS m (by lia) ⟨H,I.tok _,by rw [zfU r]; exact q⟩
 | _=>exact (show False from e).elim
theorem zi4 (ha:PE X a ta) (he:∀ whole,isTrue a X.env whole=(do let v <- whole; standAt a.pos; holding [v] (truthy v))):
  PT X a (fun σ H Q=>ta σ H fun x H'=>∃ k,TruV X.K x H' k/\Q k H'):=by
 intro qZ s σ H Q I h
 exact isTrue_plain (thn (ha qZ s σ H _ I h) fun v s1 ⟨x,H1,I1,r1,q1⟩=>zl2 qZ s1 σ H1 x v Q I1 r1 q1) (he _)
theorem zfE:OpR X (binaryOp .Add) (fun x y H Q=>∃ i j,x=.str i/\y=.str j/\i.length + j.length<=sizeLine/\Q (.str (i++j)) H):=by
 intro qZ s σ H x y v u Q I rx ry h
 obtain ⟨i,j,rfl,rfl,hz,q⟩:=h
 obtain ⟨t,rfl⟩:=rx
 obtain ⟨t',rfl⟩:=ry
 exact add_str (fun t' tk=>⟨.str (i++j),H,I.tok _,⟨_,rfl⟩,q⟩) hz
theorem vals1 (r:qW [x] us):∃ u,us=[u]/\qO x u:=by
 cases r with
 | cons r1 r2=>cases r2; exact ⟨_,rfl,r1⟩
theorem vals2 (r:qW [x,y] us):∃ u w',us=[u,w']/\qO x u/\qO y w':=by
 cases r with
 | cons r1 r2=>
   cases r2 with
   | cons r3 r4=>cases r4; exact ⟨_,_,rfl,r1,r3⟩
theorem zhi (hc:X.calm=true):CallR X (.builtin "max") (fun xs H Q=>∃ i j,xs=[.int i,.int j]/\Q (.int (if j > i then j else i)) H):=by
 intro qZ s σ H xs us Q I r h
 obtain ⟨i,j,rfl,q⟩:=h
 obtain ⟨u,w',rfl,⟨t,rfl⟩,⟨t',rfl⟩⟩:=vals2 r
 refine max_two_ints (I.ok.hd hc) fun h' tk k=>⟨_,H,I.kept k,?_,q⟩
 by_cases hj:j > i
 ·rw [qq hj,qq hj]; exact ⟨_,rfl⟩
 ·rw [qr hj,qr hj]; exact ⟨_,rfl⟩
theorem zhD (hc:X.calm=true):CallR X (.builtin "min") (fun xs H Q=>∃ i j,xs=[.int i,.int j]/\Q (.int (if j < i then j else i)) H):=by
 intro qZ s σ H xs us Q I r h
 obtain ⟨i,j,rfl,q⟩:=h
 obtain ⟨u,w',rfl,⟨t,rfl⟩,⟨t',rfl⟩⟩:=vals2 r
 refine min_two_ints (I.ok.hd hc) fun h' tk k=>⟨_,H,I.kept k,?_,q⟩
 by_cases hj:j < i
 ·rw [qq hj,qq hj]; exact ⟨_,rfl⟩
 ·rw [qr hj,qr hj]; exact ⟨_,rfl⟩
theorem zgK:CallR X (.type "int") (fun xs H Q=>(∃ i,xs=[.int i]/\Q (.int i) H)\/∃ k,xs=[.bl k]/\Q (.int (if k then 1 else 0)) H):=by
 intro qZ s σ H xs us Q I r h
 rcases h with ⟨i,rfl,q⟩ | ⟨k,rfl,q⟩
 ·obtain ⟨u,rfl,t,rfl⟩:=vals1 r
  exact call_int_int ⟨.int i,H,I,⟨_,rfl⟩,q⟩
 ·obtain ⟨u,rfl,r1⟩:=vals1 r
  cases r1
  exact call_int_bool ⟨.int (if k then 1 else 0),H,I.tok _,⟨_,rfl⟩,q⟩
end
structure Room (k:Nat) (A:Around):Prop where
 hd:A.handled=none
 dp:A.depth + 3 * k + 5 < recursionLimit
 un:A.units + 16 * k + 200 < cLine
 gd:A.guards=some []
theorem Room.mono (r:Room k A) (h:j<=k):Room j A:=⟨r.hd,by have:=r.dp; lia,by have:=r.un; lia,r.gd⟩
theorem Room.deeper (r:Room (k + 1) A) (env:Env):Room k (A.deeper env):=
 ⟨r.hd,by have:=r.dp; show A.depth + 1 + 3 * k + 5 < _; lia,by have:=r.un; show A.units + 3 + 16 * k + 200 < _; lia,r.gd⟩
theorem Room.depth (r:Room k A):A.depth < recursionLimit:=by have:=r.dp; lia
theorem Room.units (r:Room k A):A.units + 64 < cLine:=by have:=r.un; lia
noncomputable def tNil:TA:=fun _ H Q=>Q [] H
noncomputable def tCons (ta:TE) (tr:TA):TA:=fun σ H Q=>ta σ H fun x H1=>tr σ H1 fun xs H2=>Q (x::xs) H2
section
variable {X:Cx} {e:Expr} {es:List Expr} {te:TE} {t:TA} {pos:Pos}
theorem zjs:PA X [] tNil:=fun _ _ _ _ H Q I h=>Calls.spliced_nil ⟨[],H,I,.nil,h⟩
theorem zhZ (ha:PE X e te) (hr:PA X es t) (hs:starEach (e::es) X.env=(false,eval e X.env)::starEach es X.env:=by rfl):PA X (e::es) (tCons te t):=by
 intro pos qZ s σ H Q I h
 rw [hs]
 show wpAny _ _ (spliced ((false,eval e X.env)::backTo pos (starEach es X.env))) _ _ s
 refine Calls.spliced_cons (thn (ha qZ s σ H _ I h) fun u s1 zq=>?_)
 obtain ⟨x,H1,I1,r1,q1⟩:=zq
 exact thn (hr pos qZ s1 σ H1 _ I1 q1) fun us s2 ⟨xs,H2,I2,r2,q2⟩=>⟨x::xs,H2,I2,.cons r1 r2,q2⟩
noncomputable def tTup (t:TA):TE:=fun σ H Q=>t σ H fun xs H1=>xs.length<=sizeLine/\∀ p,H1 p=none->Q (.ref p) (upd H1 p (.tup xs))
noncomputable def tLst (t:TA):TE:=fun σ H Q=>t σ H fun xs H1=>xs.length<=sizeLine/\∀ p,H1 p=none->Q (.ref p) (upd H1 p (.lst xs))
theorem zk0 (h:PA X es t):PE X (.Tuple es x1 pos) (tTup t):=by
 intro qZ s σ H Q I hq
 refine wpAny_Tuple_spliced (thn (h pos qZ s σ H _ I hq) fun us s1 ⟨xs,H1,I1,r,z,q⟩=>⟨by rw [<- r.length]; exact z,?_⟩)
 have hf:H1 s1.heap.objs.size=none:=I1.hok.fresh (Nat.le_refl _)
 refine ⟨.ref s1.heap.objs.size,upd H1 s1.heap.objs.size (.tup xs),I1.laid (t':=s1.toks) (fun b u e=>qc _ e) (Nat.le_refl _) ?_,rfl,q _ hf⟩
 exact ⟨⟨z,NoDc.new rfl (qd _ rfl)⟩,us,r,⟨_,qd _ rfl,rfl,_,rfl⟩⟩
theorem zl1 (h:PA X es t):PE X (.List es pos) (tLst t):=by
 intro qZ s σ H Q I hq
 refine wpAny_List_spliced (thn (h pos qZ s σ H _ I hq) fun us s1 ⟨xs,H1,I1,r,z,q⟩=>⟨by rw [<- r.length]; exact z,?_⟩)
 have hf:H1 s1.heap.objs.size=none:=I1.hok.fresh (Nat.le_refl _)
 refine ⟨.ref s1.heap.objs.size,upd H1 s1.heap.objs.size (.lst xs),I1.laid (t':=s1.toks) (fun b u e=>qc _ e) (Nat.le_refl _) ?_,rfl,q _ hf⟩
 exact ⟨z,us,0,r,qd _ rfl⟩
end
noncomputable abbrev Sp:=List V->Hp->VK->XK->Prop
noncomputable abbrev CXT:=List Env->Hp->Shared->XK->Value->Shared->Prop
structure Env0 (P:Program) (w:World) (K:W.Frag) (mg:Str->Option Value) (base:Heap) (A:Around) (outer:List Env) (s:Shared) (H:Hp):Prop where
 frames:A.frames=some outer
 mod:Mod K mg base
 bs:∀ b o,base.get? b=some o->s.heap.get? b=some o/\H b=none
 bsz:base.objs.size<=s.heap.objs.size
 funs:s.heap.FunFrames base outer
 frf:∀ b∈frs outer,H b=none
 hok:HOk P w H s.heap
 bare:AllBare s.gens
noncomputable def CE (outer:List Env) (P:Program) (w:World) (H:Hp) (s:Shared) (Q:VK) (u:Value) (s':Shared):Prop:=
 ∃ v H',s'.os=s.os/\AllBare s'.gens/\Un (frs outer) [] H H' s.heap s'.heap/\HOk P w H' s'.heap/\qO v u/\Q v H'
noncomputable def CR (CX:CXT) (outer:List Env) (P:Program) (w:World) (H:Hp) (s:Shared) (Q:VK) (E:XK) (r:Result) (s':Shared):Prop:=
 match r with
 | .ok (.ret u)=>CE outer P w H s Q u s'
 | .ok _=>False
 | .error e=>CX outer H s E e s'
structure FnOk (P:Program) (w:World) (K:W.Frag) (mg:Str->Option Value) (base:Heap) (CX:CXT) (k:Nat) (f:Addr) (fd:FuncData) (ps:List Str) (sp:Sp):Prop where
 len:∀ vs H Q E,sp vs H Q E->vs.length=ps.length
 run:∀ (A:Around) (outer:List Env) (s:Shared) (H:Hp) (args:Args) (us:List Value) (vs:List V) (Q:VK) (E:XK),Room k A->Env0 P w K mg base A outer s H->BindsTo s fd args (ps.zip us)->qW vs us->sp vs H Q E->
  codeAny (model P w) A (.call (.ref f) args) (CR CX outer P w H s Q E) s
section
variable {X:Cx} {qZ:List (Addr×Obj)} {σ:St} {H:Hp} {s s':Shared}
theorem Inv.env0 (I:Inv X qZ σ H s):Env0 X.prog X.w X.K X.mg X.base X.A X.stack s H:=
 ⟨I.ok.frames,I.ok.mod,I.bs,Nat.le_trans I.ok.bsz I.sz,I.stack,I.stkFree,I.hok,I.bare⟩
theorem Inv.after (I:Inv X qZ σ H s) (h:CE X.stack X.prog X.w H s Q u s'):EP X qZ σ Q u s':=by
 obtain ⟨v,H',os,bare,un,hok,r,q⟩:=h
 obtain ⟨hh,g,d,t,os'⟩:=s'
 obtain rfl:os'=s.os:=os
 exact ⟨v,H',I.call (h':=hh) (g':=g) (d':=d) (t':=t) (ch:=[]) un hok bare (fun b z=>absurd z (by simp)),r,q⟩
end
noncomputable def Binds (K:W.Frag) (fd:FuncData) (ps:List Str) (ds:List Value):Prop:=
 ∀ (s:Shared) (us:List Value),K.In s.heap->(us++ds).length=ps.length->BindsTo s fd ⟨us,[]⟩ (ps.zip (us++ds))
theorem Binds.all {K:W.Frag} (h:∀ us:List Value,us.length=ps.length->bindArgs fd ⟨us,[]⟩=pure (ps.zip us)):Binds K fd ps []:=fun s us _ hl=>by
 rw [List.append_nil] at hl ⊢
 exact .of_eq (h us hl)
structure FnScope (N P:List Str) (sc:Scope):Prop where
 kind:sc.kind=.function
 co:sc.isCoroutine=false
 gen:sc.isGenerator=false
 nd:N.Nodup
 pre:N.take P.length=P
 par:∀ x∈P,sc.names.lookup x=some .local\/sc.names.lookup x=some .cell
 nofree:∀ y∈sc.names,y.2≠.free
theorem zdP {kindOf:Str->Option NameKind}:∀ {binds:List (Str×Value)} {m:Str->Option Value},(∀ v,(x,v)∉binds)->bindL kindOf binds m x=m x
 | [],_,_=>rfl
 | (n,v)::r,m,h=>by
   unfold bindL
   rw [zdP fun w hw=>h w (List.mem_cons_of_mem _ hw)]
   split
   ·have:x≠n:=by rintro rfl; exact h v List.mem_cons_self
    simp [this]
   ·rfl
theorem zdL {kindOf:Str->Option NameKind}:∀ {binds:List (Str×Value)} {m:Str->Option Value},(∀ v,(x,v)∉binds)->bindC kindOf binds m x=m x
 | [],_,_=>rfl
 | (n,v)::r,m,h=>by
   unfold bindC
   rw [zdL fun w hw=>h w (List.mem_cons_of_mem _ hw)]
   split
   ·rfl
   ·have:x≠n:=by rintro rfl; exact h v List.mem_cons_self
    simp [this]
theorem zdR {kindOf:Str->Option NameKind}:∀ {P:List Str} {vs:List Value} {i:Nat} {m:Str->Option Value},P.Nodup->P[i]?=some x->vs[i]?=some v->kindOf x=some .local->
  bindL kindOf (P.zip vs) m x=some v
 | [],_,_,_,_,h,_,_=>by simp at h
 | _::_,[],_,_,_,_,h,_=>by simp at h
 | p::P,w::vs,0,m,nd,h1,h2,hk=>by
   simp at h1 h2; subst h1; subst h2
   show bindL kindOf ((p,w)::P.zip vs) m p=_
   unfold bindL
   rw [zdP fun v hv=>(List.nodup_cons.mp nd).1 (List.of_mem_zip hv).1,qq hk]
   simp
 | p::P,w::vs,i + 1,m,nd,h1,h2,hk=>by
   show bindL kindOf ((p,w)::P.zip vs) m x=_
   unfold bindL
   exact zdR (i:=i) (List.nodup_cons.mp nd).2 (by simpa using h1) (by simpa using h2) hk
theorem zeh {kindOf:Str->Option NameKind}:∀ {P:List Str} {vs:List Value} {i:Nat} {m:Str->Option Value},P.Nodup->P[i]?=some x->vs[i]?=some v->kindOf x≠some .local->
  bindC kindOf (P.zip vs) m x=some v
 | [],_,_,_,_,h,_,_=>by simp at h
 | _::_,[],_,_,_,_,h,_=>by simp at h
 | p::P,w::vs,0,m,nd,h1,h2,hk=>by
   simp at h1 h2; subst h1; subst h2
   show bindC kindOf ((p,w)::P.zip vs) m p=_
   unfold bindC
   rw [zdL fun v hv=>(List.nodup_cons.mp nd).1 (List.of_mem_zip hv).1,qr hk]
   simp
 | p::P,w::vs,i + 1,m,nd,h1,h2,hk=>by
   show bindC kindOf ((p,w)::P.zip vs) m x=_
   unfold bindC
   exact zeh (i:=i) (List.nodup_cons.mp nd).2 (by simpa using h1) (by simpa using h2) hk
noncomputable def start (N:List Str) (vs:List V):St:=vs.map some++List.replicate (N.length - vs.length) none
noncomputable def cxOf (CX:CXT) (P:Program) (w:World) (K:W.Frag) (mg:Str->Option Value) (base:Heap) (N:List Str) (qual:Str) (scope:Scope) (f:Addr) (cd:Value) (A:Around) (outer:List Env) (s:Shared) (H:Hp) (E:XK):Cx where
 prog:=P
 w:=w
 K:=K
 mg:=mg
 base:=base
 A:=A.deeper (envOfC qual scope s.heap.objs.size f cd)
 N:=N
 s₀:=s
 H₀:=H
 env:=envOfC qual scope s.heap.objs.size f cd
 outer:=outer
 stack:=envOfC qual scope s.heap.objs.size f cd::outer
 ex:=[]
 calm:=true
 fn:=fun _=>true
 pn:=[]
 xe:=fun e s'=>wpAny (model P w) (A.deeper (envOfC qual scope s.heap.objs.size f cd)) (leaving (envOfC qual scope s.heap.objs.size f cd) e) (fun _ s''=>CX outer H s E e s'') (fun e' s''=>CX outer H s E e' s'') s'
theorem zfa {sc:Scope} (h:sc.names.lookup x=some .cell):∃ c,(cellsFrom n sc.names []).lookup x=some c:=by
 have q:=W.cellsFrom_some sc.names n [] (.inl h)
 exact Option.isSome_iff_exists.mp q
theorem zhI {K:W.Frag}
  (S:FnScope N ps scope) (hd:A.handled=none) (e0:Env0 P w K mg base A outer s H) (hl:vs.length=ps.length) (r:qW vs us)
  (x:InCallC s s.heap.objs.size (bindL (envOfC qual scope s.heap.objs.size f cd).kindOf (ps.zip us) fun _=>none) (cellsFrom (s.heap.objs.size + 1) scope.names []) (bindC (envOfC qual scope s.heap.objs.size f cd).kindOf (ps.zip us) fun _=>none) s1):
  Inv (cxOf CX P w K mg base N qual scope f cd A outer s H E) [] (start N vs) H s1:=by
 have hpl:ps.length<=N.length:=by have:=congrArg List.length S.pre; rw [List.length_take] at this; lia
 obtain ⟨h1,tk,rfl,hk⟩:=x.done
 have noA:∀ b:Addr,b∉(cxOf CX P w K mg base N qual scope f cd A outer s H E).ex:=fun b z=>absurd (show b∈([]:List Addr) from z) (by simp)
 refine ⟨⟨e0.mod,S.kind,rfl,rfl,Nat.le_refl _,fun y z c h1 h2=>?_,fun y hy=>?_,fun y c _ h=>?_,fun _=>hd,Around.frames_deeper e0.frames,.inr ⟨rfl,rfl⟩,fun b z=>absurd z (noA b),e0.bs,e0.bsz,fun b _ _=>noA b,fun b z=>absurd z (noA b),e0.funs,e0.frf⟩,
  rfl,e0.bare,Un.kept hk,⟨_,x.toInCall.ns,fun i y v h1 h2 h3=>?_⟩,fun y c h=>⟨_,x.cell y c h⟩,e0.hok.fresh (Nat.le_refl _),fun y c h=>?_,fun p hp=>absurd (show p∈([]:List (Addr×Obj)) from hp) (by simp),e0.hok.kept hk,?_⟩
 ·exact name_of_addr x.apart (PySem.mem_of_lookup h1) (PySem.mem_of_lookup h2)
 ·have hy:scope.names.lookup y=some .cell\/scope.names.lookup y=some .free:=hy
  rcases hy with hy | hy
  ·exact zfa hy
  ·exact absurd rfl (S.nofree _ (PySem.mem_of_lookup hy))
 ·exact Nat.le_of_lt (x.above y c (PySem.mem_of_lookup h))
 ·have hi:i < vs.length:=by
   unfold start at h2
   by_cases hi:i < vs.length
   ·exact hi
   ·rw [List.getElem?_append_right (by simpa using hi)] at h2
    rw [List.getElem?_replicate] at h2
    split at h2 <;> cases h2
  have ha:vs[i]?=some v:=by
   unfold start at h2
   rw [List.getElem?_append_left (by simpa using hi),List.getElem?_map] at h2
   cases e:vs[i]? with
   | none=>rw [e] at h2; cases h2
   | some a=>rw [e] at h2; cases h2; rfl
  obtain ⟨u,hu,rv⟩:=r.get ha
  have hp:ps[i]?=some y:=by
   rw [<- S.pre,List.getElem?_take_of_lt (by lia)]; exact h1
  have ndP:ps.Nodup:=by rw [<- S.pre]; exact S.nd.sublist (List.take_sublist _ _)
  refine ⟨u,rv,?_⟩
  rcases S.par y (List.mem_of_getElem? hp) with k | k
  ·exact .inl ⟨k,zdR ndP hp hu k⟩
  ·obtain ⟨c,e⟩:=zfa (n:=s.heap.objs.size + 1) k
   refine .inr ⟨.inl k,c,e,?_⟩
   have q:=x.cell y c e
   rw [zeh ndP hp hu (by show scope.names.lookup y≠_; rw [k]; decide)] at q
   exact q
 ·exact e0.hok.fresh (Nat.le_of_lt (x.above y c (PySem.mem_of_lookup h)))
 ·unfold start
  show _=N.length
  rw [List.length_append,List.length_map,List.length_replicate]
  lia
theorem zpM {K:W.Frag} {dV kV doc pm cdv ct oc:Value} (lk:K.lookup f=some ⟨oc,od,.func (W.fnOf name qual params body scope dV kV doc pm an cdv ct),osl⟩) (hcd:W.codeIn K cdv qual=true) (S:FnScope N ps scope)
  (len:∀ vs H Q E,sp vs H Q E->vs.length=ps.length)
  (hbody:∀ (A:Around) (outer:List Env) (s:Shared) (H:Hp) (vs:List V) (Q:VK) (E:XK),Room k (A.deeper (envOfC qual scope s.heap.objs.size f cdv))->sp vs H Q E->
   ∃ t,PSs (cxOf CX P w K mg base N qual scope f cdv A outer s H E) body t/\t { nx:=fun _ H'=>Q .non H',rt:=Q } (start N vs) H):
  FnOk P w K mg base CX (k + 1) f (W.fnOf name qual params body scope dV kV doc pm an cdv ct) ps sp:=by
 refine ⟨len,fun A outer s H args us vs Q E hr e0 hb r hsp=>?_⟩
 have hl:=len _ _ _ _ hsp
 have KX:K.In s.heap:=e0.mod.kin.keeps fun b o e=>(e0.bs b o e).1
 have lim:s.heap.NoLimit:=e0.mod.nolimit.keeps fun b o e=>(e0.bs b o e).1
 have hkind:∀ y∈ps.zip us,scope.names.lookup y.1=some .local\/(scope.names.lookup y.1=some .cell/\((cellsFrom (s.heap.objs.size + 1) scope.names []).lookup y.1).isSome=true):=fun ⟨n,v⟩ hy=>by
  rcases S.par n (List.of_mem_zip hy).1 with q | q
  ·exact .inl q
  ·exact .inr ⟨q,W.cellsFrom_some _ _ _ (.inl q)⟩
 refine codeAny_call_function hr.depth (KX _ _ lk) rfl S.co S.gen rfl (W.codeRec_of KX hcd) (hb _ _ _ _ ?_)
 refine wpAny_newFunctionEnv_cells S.kind hkind fun env he s1 x=>?_
 subst he
 refine ⟨lim.keeps x.toInCall.keep,codeAny_func ?_⟩
 obtain ⟨t,ht,hq⟩:=hbody A outer s H vs Q E (hr.deeper _) hsp
 have I:Inv (cxOf CX P w K mg base N qual scope f cdv A outer s H E) [] (start N vs) H s1:=zhI S hr.hd e0 hl r x
 refine qD (ht [] s1 (start N vs) H _ I hq) (fun fl s' hs=>?_) fun e s' hs=>hs
 have fin:∀ {σ':St} {H':Hp} {v:V} {u:Value},Inv (cxOf CX P w K mg base N qual scope f cdv A outer s H E) [] σ' H' s'->qO v u->Q v H'->CE outer P w H s Q u s':=
  fun {σ' H' v u} J rv q=>⟨v,H',J.os,J.bare,J.base,J.hok,rv,q⟩
 cases fl with
 | ret u=>
   obtain ⟨v,σ',H',J,rv,q⟩:=hs
   exact fin J rv q
 | next=>
   obtain ⟨σ',H',J,q⟩:=hs
   exact fin (v:=V.non) (u:=Value.none) J rfl q
 | brk=>
   obtain ⟨_,_,_,q⟩:=hs
   exact False.elim q
 | cont=>
   obtain ⟨_,_,_,q⟩:=hs
   exact False.elim q
section
variable {X:Cx} {x:Str} {p pos:Pos} {e:Expr} {es:List Expr} {t:TA} {id T:String} {r:List V->Hp->VK->Prop}
noncomputable def tCB (r:List V->Hp->VK->Prop) (t:TA):TE:=fun σ H Q=>t σ H fun vs H1=>r vs H1 Q
theorem zdF (hc:CallR X (.builtin id) r) (hg:Gl X x) (hm:X.mg x=none) (hv:bootBuiltins x=some (.builtin id)) (ha:PA X (e::es) t) (hn:x≠"__name__":=by decide) (hdb:(x == ("__debug__":Str))=false:=by decide)
  (he:starEach (e::es) X.env=(false,eval e X.env)::starEach es X.env:=by rfl) (hpl:(backTo pos (starEach es X.env)).any (·.1)=false:=by rfl):PE X (.Call (.Name x p) (e::es) [] pos) (tCB r t):=by
 intro qZ s σ H Q I h
 refine wpAny_Call_Name_kw (zbu I hg hm hv ?_ hn hdb)
 exact PyProof.Rows.callWith_builtin1 (thn (ha pos qZ s σ H _ I h) fun us s1 ⟨vs,H1,I1,r1,q1⟩=>hc qZ s1 σ H1 vs us Q I1 r1 q1) he hpl
theorem zed (hc:CallR X (.type T) r) (hg:Gl X x) (hm:X.mg x=none) (hv:bootBuiltins x=some (.type T)) (ha:PA X (e::es) t) (hn:x≠"__name__":=by decide) (hdb:(x == ("__debug__":Str))=false:=by decide)
  (he:starEach (e::es) X.env=(false,eval e X.env)::starEach es X.env:=by rfl) (hpl:(backTo pos (starEach es X.env)).any (·.1)=false:=by rfl):PE X (.Call (.Name x p) (e::es) [] pos) (tCB r t):=by
 intro qZ s σ H Q I h
 refine wpAny_Call_Name_kw (zbu I hg hm hv ?_ hn hdb)
 exact PyProof.Rows.callWith_type1 (thn (ha pos qZ s σ H _ I h) fun us s1 ⟨vs,H1,I1,r1,q1⟩=>hc qZ s1 σ H1 vs us Q I1 r1 q1) he hpl
end
section
variable {κ:Type} [DecidableEq κ]
noncomputable def valV (q5:List (κ×V)) (k:κ):Option V:=(q5.find? fun kv=>decide (kv.1=k)).map (·.2)
theorem zb9 {p:κ×V} {r:List (κ×V)} {k:κ} (e:p.1=k):valV (p::r) k=some p.2:=by simp [valV,List.find?_cons,e]
theorem zce {p:κ×V} {r:List (κ×V)} {k:κ} (e:¬ p.1=k):valV (p::r) k=valV r k:=by simp [valV,List.find?_cons,e]
theorem RelO.isSome_eq (r:RelO o u):o.isSome=u.isSome:=by
 cases o with
 | none=>cases u with
   | none=>rfl
   | some _=>exact (show False from r).elim
 | some _=>cases u with
   | none=>exact (show False from r).elim
   | some _=>rfl
theorem KV.val {q5:List (κ×V)} {vs:List (κ×Value)} (r:KV q5 vs) (k:κ):RelO (valV q5 k) (valueAt vs k):=by
 unfold KV at r
 induction r with
 | nil=>exact True.intro
 | @cons p q ps qs h t ih=>
   obtain ⟨h1,h2⟩:=h
   by_cases e:p.1=k
   ·have e':q.1=k:=h1.symm.trans e
    have b:valueAt (q::qs) k=some q.2:=by simp [valueAt,List.find?_cons,e']
    rw [zb9 e,b]; exact h2
   ·have e':¬ q.1=k:=fun z=>e (h1.trans z)
    have b:valueAt (q::qs) k=valueAt qs k:=by simp [valueAt,List.find?_cons,e']
    rw [zce e,b]; exact ih
end
theorem zkn (r:qO (kV k) u):(mixKind P w).is k u=true:=by
 cases k with
 | inl i=>obtain ⟨t,e⟩:=(show ∃ t,u=Value.int i t from r); subst e; exact ze0 P w i t
 | inr x=>obtain ⟨t,e⟩:=(show ∃ t,u=Value.str x t from r); subst e; exact zeS P w x t
theorem zdV:∀ {ks:List Key} {us:List Value},qW (ks.map kV) us->ItemsAre (mixKind P w) ks us
 | [],_,r=>by rw [List.map_nil] at r; cases r; exact .nil
 | k::ks,_,r=>by
   rw [List.map_cons] at r
   cases r with
   | cons h t=>exact .cons (zkn h) (zdV t)
noncomputable abbrev KT (H:Hp):List (List Key×V)->List (List Key×Addr×Value)->Prop:=Paired fun p q=>p.1=q.1/\H q.2.1=some (.tup (p.1.map kV))/\qO p.2 q.2.2
theorem KT.val {H:Hp} {q5:List (List Key×V)} {xs:List (List Key×Addr×Value)} (r:KT H q5 xs) (k:List Key):RelO (valV q5 k) ((atKey xs k).map (·.2)):=by
 induction r with
 | nil=>exact True.intro
 | @cons p q ps qs h t ih=>
   obtain ⟨h1,_,h2⟩:=h
   by_cases e:p.1=k
   ·have e':q.1=k:=h1.symm.trans e
    have b:atKey (q::qs) k=some q.2:=by simp [atKey,List.find?_cons,e']
    rw [zb9 e,b]; exact h2
   ·have e':¬ q.1=k:=fun z=>e (h1.trans z)
    have b:atKey (q::qs) k=atKey qs k:=by simp [atKey,List.find?_cons,e']
    rw [zce e,b]; exact ih
theorem zl8 (ok:HOk P w H h) (e:Rd H a u):qY P w H h a u:=e.ok ok
theorem zmY (ok:HOk P w H h) (e:Rd H a (.dK q5)):q5.length<=sizeLine/\(a == sysModules)=false/\∃ vs,KV q5 vs/\h.DictOf (mixKind P w) a vs:=
 show qY P w H h a (.dK q5) from zl8 ok e
theorem zhf (ok:HOk P w H h) (e:H a=some (.tup (ks.map kV))):(tupleKind (mixKind P w)).is h ks a:=by
 obtain ⟨_,zc,r,o,h1,h2,n,h3⟩:=(show qY P w H h a (.tup (ks.map kV)) from ok a _ e)
 exact ⟨o,zc.toArray,n,h1,h2,h3,by simpa using zdV r⟩
theorem zkZ (ok:HOk P w H h) (e:Rd H a (.dT q5)):q5.length<=sizeLine/\(a == sysModules)=false/\
  ∃ xs,KT H q5 xs/\h.DictOfH (tupleKind (mixKind P w)) a xs:=by
 obtain ⟨z,y,xs,r,o,es,ep,h1,h2,h3,h4,h5⟩:=(show qY P w H h a (.dT q5) from zl8 ok e)
 refine ⟨z,y,xs,r,o,es,ep,h1,h2,h3,h4,fun x hx=>?_,h5⟩
 have all:∀ {l:List (List Key×V)} {m:List (List Key×Addr×Value)},KT H l m->∀ x∈m,(tupleKind (mixKind P w)).is h x.1 x.2.1:=by
  intro l m q
  induction q with
  | nil=>intro x hx; exact nomatch hx
  | @cons p q ps qs hq t ih=>
    intro x hx
    rcases List.mem_cons.mp hx with e | hx
    ·subst e
     exact zhf ok (by rw [<- hq.1]; exact hq.2.1)
    ·exact ih x hx
 exact all r x hx
noncomputable def DGet (H:Hp) (a:Addr) (y:V) (r:Option V):Prop:=
 (∃ q5 k,Rd H a (.dK q5)/\y=kV k/\r=valV q5 k)\/∃ q5 k b,Rd H a (.dT q5)/\y=.ref b/\H b=some (.tup (k.map kV))/\r=valV q5 k
theorem Inv.big (I:Inv X qZ σ H s):sysModules < s.heap.objs.size:=by
 have h:mainGlobals < s.heap.objs.size:=(I.mod.glob.keeps I.bk).lt
 exact Nat.lt_trans (by decide) h
theorem d_in (hu:A.units + 1 < cLine) (I:Inv X qZ σ H s) (g:DGet H a y o) (ry:qO y u) (h:∀ s',Inv X qZ σ H s'->Q (.bool o.isSome) s'):
  wpAny (model X.prog X.w) A (compareOp .In u (.ref a)) Q E s:=by
 rcases g with ⟨q5,k,e,ey,l⟩ | ⟨q5,k,b,e,ey,eb,l⟩
 ·subst ey
  obtain ⟨z,hd,vs,q8,dd⟩:=zmY I.hok e
  refine wpAny_in_of (zkn ry) hd dd.mapOf ?_
  rw [<- (q8.val k).isSome_eq,<- l]
  exact h _ (I.tok _)
 ·subst ey
  cases (show u=Value.ref b from ry)
  obtain ⟨z,hd,xs,q8,dd⟩:=zkZ I.hok e
  refine wpAny_in_heap (tupleKind_room_in1 hu) (zhf I.hok eb) hd dd ?_
  have q:=(q8.val k).isSome_eq
  rw [Option.isSome_map] at q
  rw [<- q,<- l]
  exact h _ (I.tok _)
theorem zks (hu:A.units + 1 < cLine) (I:Inv X qZ σ H s) (g:DGet H a y o) (ry:qO y u) (h:∀ s',Inv X qZ σ H s'->Q (.bool (!o.isSome)) s'):
  wpAny (model X.prog X.w) A (compareOp .NotIn u (.ref a)) Q E s:=by
 rcases g with ⟨q5,k,e,ey,l⟩ | ⟨q5,k,b,e,ey,eb,l⟩
 ·subst ey
  obtain ⟨z,hd,vs,q8,dd⟩:=zmY I.hok e
  refine wpAny_notIn_of (zkn ry) hd dd.mapOf ?_
  rw [<- (q8.val k).isSome_eq,<- l]
  exact h _ (I.tok _)
 ·subst ey
  cases (show u=Value.ref b from ry)
  obtain ⟨z,hd,xs,q8,dd⟩:=zkZ I.hok e
  refine wpAny_notIn_heap (tupleKind_room_in1 hu) (zhf I.hok eb) hd dd ?_
  have q:=(q8.val k).isSome_eq
  rw [Option.isSome_map] at q
  rw [<- q,<- l]
  exact h _ (I.tok _)
end L2
namespace HT
open PySem PyProof.Rows
noncomputable def lexLt:List Int->List Int->Bool
 | [],[]=>false
 | [],_::_=>true
 | _::_,[]=>false
 | x::xs,y::ys=>if x=y then lexLt xs ys else decide (x < y)
noncomputable def zaC (x y:Int) (xs ys:List Int):lexLt (x::xs) (y::ys)=if x=y then lexLt xs ys else decide (x < y):=rfl
theorem cat_tup (ht:IsTup s.heap t vs.toArray) (hb:IsTup s.heap b ws.toArray) (hv:vs≠[])
  (h1:ws=[]->Q (.ref t) s) (h2:ws≠[]->Q (.ref s.heap.objs.size) { s with heap:=s.heap.push { cls:=.type "tuple",data:=.seq (vs++ws).toArray } })
  (hsz:vs.length + ws.length<=sizeLine):wpAny (model prog w) A (binaryOp .Add (.ref t) (.ref b)) Q E s:=by
 obtain ⟨⟨cls,dd,data,sl⟩,ho,hc,n,hd⟩:=id ht
 obtain ⟨⟨cls2,dd2,data2,sl2⟩,ho2,hc2,n2,hd2⟩:=id hb
 simp only at hc hd hc2 hd2
 subst hc hd hc2 hd2
 have e:vs.toArray++ws.toArray=(vs++ws).toArray:=by simp
 by_cases hw:ws=[]
 ·exact concat_meets ⟨_,ho,rfl⟩ ⟨_,ho2,rfl⟩ noFill_tuple_add seq_tuple_add PySem.F.slot_tuple_add PySem.F.entry_tuple_add (PySem.F.args_tuple_add_2 _ _)
   (tuple_addW1 t b vs.toArray ws.toArray n n2 dd dd2 sl sl2 (by simpa using hv) (by simp [hw])) ⟨ho,ho2,h1 hw⟩
 ·refine concat_meets ⟨_,ho,rfl⟩ ⟨_,ho2,rfl⟩ noFill_tuple_add seq_tuple_add PySem.F.slot_tuple_add PySem.F.entry_tuple_add (PySem.F.args_tuple_add_2 _ _)
   (tuple_addW2 t b vs.toArray ws.toArray n n2 dd dd2 sl sl2 (by simpa using hv) (by simpa using hw) (by rw [List.size_toArray,List.size_toArray]; exact hsz)) ⟨ho,ho2,?_⟩
  rw [e]
  exact h2 hw
noncomputable def sIx (n d:Nat):Option Int->Nat
 | none=>d
 | some v=>if v < 0 then (v + (n:Int)).toNat else min v.toNat n
theorem sIx_le (n d:Nat) (hd:d<=n) (o:Option Int):sIx n d o<=n:=by
 cases o with
 | none=>exact hd
 | some v=>
   show (if v < 0 then (v + (n:Int)).toNat else min v.toNat n)<=n
   by_cases hv:v < 0
   ·rw [qq hv]; lia
   ·rw [qr hv]; exact Nat.min_le_right _ _
theorem zhp (v:Int) (n d:Nat):(if v < 0 then max (v + (n:Int)) 0 else min v (n:Int))=((sIx n d (some v):Nat):Int):=by
 show (if v < 0 then max (v + (n:Int)) 0 else min v (n:Int))=(((if v < 0 then (v + (n:Int)).toNat else min v.toNat n):Nat):Int)
 grind
theorem zga (lo hi:Option Int) (n:Nat):Builtin.Slice.sliceAdjust lo hi 1 (n:Int)=(((sIx n 0 lo:Nat):Int),((sIx n n hi:Nat):Int)):=by
 have h1:¬ ((1:Int) < 0):=by lia
 unfold Builtin.Slice.sliceAdjust
 simp only [h1,if_false]
 refine Prod.ext ?_ ?_
 ·cases lo with
  | none=>rfl
  | some v=>exact zhp v n 0
 ·cases hi with
  | none=>rfl
  | some v=>exact zhp v n n
theorem zfQ (i j:Nat):Builtin.Slice.slicePlaces (i:Int) (j:Int) 1=j - i:=by
 unfold Builtin.Slice.slicePlaces
 have h1:(1:Int) > 0:=by lia
 simp only [h1,if_true,Int.ediv_one]
 split <;> lia
theorem zc0 (p:IsPart v o) (h:Q o s):wpAny (model prog w) A (Builtin.Slice.slicePartIndex v) Q E s:=by
 cases p with
 | none=>exact slicePart_none h
 | int i t=>exact slicePart_int h
theorem sliceApplied_gen {lo hi:Option Int} {n:Nat} (hs:s.heap.IsSliceOf sl vl vu .none) (pl:IsPart vl lo) (pu:IsPart vu hi)
  (h:Q (((sIx n 0 lo:Nat):Int),1,sIx n n hi - sIx n 0 lo) s):wpAny (model prog w) A (Builtin.Slice.sliceApplied (.ref sl) (pure (n:Int))) Q E s:=by
 obtain ⟨os,hos,hcs,hds⟩:=id hs
 unfold Builtin.Slice.sliceApplied Builtin.Slice.sliceFields
 refine qa (qa (qv hos hds (x:=vl) rfl (qa (qv hos hds (x:=vu) rfl (qa (qv hos hds (x:=.none) rfl (qb ?_)))))))
 refine qa (slicePart_none ?_)
 show wpAny _ _ (if ((1:Int) == 0)=true then _ else _) _ _ s
 rw [qr (by decide)]
 refine qa (zc0 pl (qa (zc0 pu (qa (qb ?_)))))
 show wpAny _ _ (match Builtin.Slice.sliceAdjust lo hi 1 (n:Int) with | (lo,hi)=>pure (lo,(1:Int),Builtin.Slice.slicePlaces lo hi 1)) _ _ s
 rw [zga lo hi n]
 show wpAny _ _ (pure (((sIx n 0 lo:Nat):Int),(1:Int),Builtin.Slice.slicePlaces ((sIx n 0 lo:Nat):Int) ((sIx n n hi:Nat):Int) 1)) _ _ s
 rw [zfQ]
 exact qb h
theorem zja (xs:Array Value) (i k:Nat):((List.range k).filterMap fun (m:Nat)=>xs[((i:Int) + (m:Int) * 1).toNat]?).toArray=((xs.toList.drop i).take k).toArray:=by
 have e:(fun (m:Nat)=>xs[((i:Int) + (m:Int) * 1).toNat]?)=fun m=>xs[i + m]?:=by
  funext m
  have:((i:Int) + (m:Int) * 1).toNat=i + m:=by lia
  rw [this]
 rw [e]
 have:=pick_run xs i k
 rw [List.filterMap_map] at this
 have e2:((fun x=>xs[x]?) ∘ fun x=>i + x)=fun m=>xs[i + m]?:=rfl
 rw [e2] at this
 rw [this]
theorem getItem_tuple_cut {lo hi:Option Int} (ht:IsTup s.heap t items) (hs:s.heap.IsSliceOf sl vl vu .none) (pl:IsPart vl lo) (pu:IsPart vu hi)
  (hw:¬ (sIx items.size 0 lo=0/\sIx items.size items.size hi=items.size))
  (h:Q (.ref s.heap.objs.size) { s with heap:=s.heap.push { cls:=.type "tuple",data:=.seq ((items.toList.drop (sIx items.size 0 lo)).take (sIx items.size items.size hi - sIx items.size 0 lo)).toArray } })
  (hsz:items.size<=sizeLine):wpAny (model prog w) A (getItem (.ref t) (.ref sl)) Q E s:=by
 have htake:sizeOk (.seq ((items.toList.drop (sIx items.size 0 lo)).take (sIx items.size items.size hi - sIx items.size 0 lo)).toArray):=by
  show ((items.toList.drop (sIx items.size 0 lo)).take (sIx items.size items.size hi - sIx items.size 0 lo)).toArray.size<=sizeLine
  rw [List.size_toArray,List.length_take,List.length_drop]
  exact Nat.le_trans (Nat.min_le_right ..) (Nat.le_trans (Nat.sub_le ..) hsz)
 have hj:sIx items.size items.size hi<=items.size:=sIx_le _ _ (Nat.le_refl _) hi
 obtain ⟨os,hos,hcs,hds⟩:=id hs
 have hTs:s.TypeIs (.ref sl) "slice":=⟨os,hos,hcs⟩
 unfold getItem
 try with_reducible refine qB ?_
 first | refine qa (qb ?_) | skip
 refine qa (wpAny_sequenceKey ht.typeIs (by decide) ?_)
 refine qa (wpAny_callSpecial?_slot (name:=Str.ofString "__getitem__") ht.typeIs PyProof.Rows.slot_tuple_getitem
  (qy PyProof.Rows.slot_tuple_getitem ht.typeIs entry_tuple_getitem ?_ (args_tuple_getitem _ _)))
 show wpAny _ _ (Builtin.Tuple.tupleItemsOf (.ref t) >>= _) _ _ s
 refine qa (tupleItemsOf_ ht ?_)
 refine qa (wpAny_typeOf hTs ?_)
 rw [qq (by decide)]
 refine qa (sliceApplied_gen hs pl pu ?_)
 have hno:¬ ((((sIx items.size 0 lo:Nat):Int) == 0 && (1:Int) == 1 && (sIx items.size items.size hi - sIx items.size 0 lo) == items.size)=true):=by
  grind
 show wpAny _ _ (if (((sIx items.size 0 lo:Nat):Int) == 0 && (1:Int) == 1 && (sIx items.size items.size hi - sIx items.size 0 lo) == items.size)=true then _ else _) _ _ s
 rw [qr hno,zja]
 first
  | exact qa (m:=Builtin.Tuple.tupleExact _) (qw (qb ⟨_,rfl,qb h⟩) htake)
  | exact qa (m:=Builtin.Tuple.tupleExact _) (qw (qa (qb (qb ⟨_,rfl,qb h⟩))) htake)
  | exact qa (qa (m:=Builtin.Tuple.tupleExact _) (qw (qb (qb ⟨_,rfl,qb h⟩)) htake))
  | exact qa (qa (m:=Builtin.Tuple.tupleExact _) (qw (qb ⟨_,rfl,qb h⟩) htake))
end HT
namespace L2
open PySem PySem.Spec PyProof.Rows
noncomputable abbrev TO:=St->Hp->(Option Int->Hp->Prop)->Prop
noncomputable def PO (X:Cx) (e:Option Expr) (t:TO):Prop:=
 ∀ (qZ:List (Addr×Obj)) (s:Shared) (σ:St) (H:Hp) (Q:Option Int->Hp->Prop),Inv X qZ σ H s->t σ H Q->
   wpAny (model X.prog X.w) X.A (evalPart e X.env) (fun u s'=>∃ o H',Inv X qZ σ H' s'/\IsPart u o/\Q o H') X.xe s
noncomputable def tNoPart:TO:=fun _ H Q=>Q none H
noncomputable def tPart (t:TE):TO:=fun σ H Q=>t σ H fun x H1=>∃ i,x=.int i/\Q (some i) H1
theorem zbm:∀ {us:List Value},qW (ns.map V.int) us->IntsAre us ns:=by
 induction ns with
 | nil=>intro us r; rw [List.map_nil] at r; cases r; exact .nil
 | cons n ns ih=>
   intro us r
   rw [List.map_cons] at r
   cases r with
   | cons r1 r2=>
     obtain ⟨t,e⟩:=r1
     subst e
     exact .cons n t (ih r2)
section
variable {lo hi:Option Expr}
theorem zge:PO X none tNoPart:=by
 intro qZ s σ H Q I h
 rw [evalPart_none]
 exact qb ⟨none,H,I,.none,h⟩
theorem zdf (h:PE X e te):PO X (some e) (tPart te):=by
 intro qZ s σ H Q I hw
 rw [evalPart_some]
 refine thn (h qZ s σ H _ I hw) fun u s1 zq=>?_
 obtain ⟨x,H1,I1,r1,q1⟩:=zq
 obtain ⟨i,rfl,q⟩:=q1
 obtain ⟨t,rfl⟩:=r1
 exact ⟨some i,H1,I1,.int i t,q⟩
noncomputable def SlR (X:Cx) (r:V->Option Int->Option Int->Hp->VK->Prop):Prop:=
 ∀ (qZ:List (Addr×Obj)) (s:Shared) (σ:St) (H:Hp) (x:V) (v vl vu:Value) (lo hi:Option Int) (sl:Addr) (Q:VK),Inv X qZ σ H s->qO x v->s.heap.IsSliceOf sl vl vu .none->IsPart vl lo->IsPart vu hi->r x lo hi H Q->
   ∃ T id,typeLookup (.type T) "__getitem__"=pure (some (.builtin id))/\s.TypeIs v T/\wpAny (model X.prog X.w) X.A (getItem v (.ref sl)) (EP X qZ σ Q) X.xe s
theorem SlR.or (h:SlR X r) (h':SlR X r'):SlR X (fun x lo hi H Q=>r x lo hi H Q\/r' x lo hi H Q):=by
 intro qZ s σ H x v vl vu lo hi sl Q I rx hs pl pu q
 rcases q with q | q
 ·exact h qZ s σ H x v vl vu lo hi sl Q I rx hs pl pu q
 ·exact h' qZ s σ H x v vl vu lo hi sl Q I rx hs pl pu q
noncomputable def tSl (r:V->Option Int->Option Int->Hp->VK->Prop) (te:TE) (tl th:TO):TE:=fun σ H Q=>te σ H fun x H1=>tl σ H1 fun l H2=>th σ H2 fun u H3=>r x l u H3 Q
theorem zdl (hr:SlR X r) (he:PE X e te) (hl:PO X lo tl) (hu:PO X hi th):PE X (.Subscript e (.Slice lo hi none p2) pos) (tSl r te tl th):=by
 intro qZ s σ H Q I h
 refine Subscript_ (thn (he qZ s σ H _ I h) fun v s1 zq=>?_)
 obtain ⟨x,H1,I1,r1,q1⟩:=zq
 refine wpAny_Slice (thn (hl qZ s1 σ H1 _ I1 q1) fun vl s2 ⟨l,H2,I2,pl,q2⟩=>thn (hu qZ s2 σ H2 _ I2 q2) fun vu s3 zq=>?_)
 obtain ⟨u,H3,I3,pu,q3⟩:=zq
 rw [evalPart_none]
 refine qb ?_
 have I4:Inv X qZ σ H3 { s3 with heap:=s3.heap.push { cls:=.type "slice",data:=.fields #[vl,vu,.none] } }:=I3.kept (t':=s3.toks) fun b ob q=>qc _ q
 obtain ⟨T,id,hT,ht,hg⟩:=hr qZ { s3 with heap:=s3.heap.push { cls:=.type "slice",data:=.fields #[vl,vu,.none] } } σ H3 x v vl vu l u s3.heap.objs.size Q I4 r1 (Heap.IsSliceOf.new ..) pl pu q3
 show wpAny (model X.prog X.w) X.A (subscriptTail e (.Slice lo hi none p2) v (.ref s3.heap.objs.size)) (EP X qZ σ Q) X.xe { s3 with heap:=s3.heap.push { cls:=.type "slice",data:=.fields #[vl,vu,.none] } }
 exact tail_any (ops:=[.ref s3.heap.objs.size,v]) ht hT hg (by with_unfolding_all rfl)
noncomputable def cutV (xs:List V) (lo hi:Option Int):List V:=(xs.drop (HT.sIx xs.length 0 lo)).take (HT.sIx xs.length xs.length hi - HT.sIx xs.length 0 lo)
theorem zcQ (xs:List V) (lo hi:Option Int):(cutV xs lo hi).length<=xs.length:=by
 unfold cutV
 rw [List.length_take,List.length_drop]
 exact Nat.le_trans (Nat.min_le_right ..) (Nat.sub_le ..)
noncomputable def rSlT (K:W.Frag):V->Option Int->Option Int->Hp->VK->Prop:=fun x lo hi H Q=>∃ a xs,x=.ref a/\SqT K H a xs/\
 ¬ (HT.sIx xs.length 0 lo=0/\HT.sIx xs.length xs.length hi=xs.length)/\∀ p,H p=none->Q (.ref p) (upd H p (.tup (cutV xs lo hi)))
theorem znc:SlR X (rSlT X.K):=by
 intro qZ s σ H x v vl vu lo hi sl Q I rx hs pl pu h
 obtain ⟨a,xs,rfl,hx,hw,q⟩:=h
 cases rx
 obtain ⟨zc,r,ht,hz⟩:=I.tuple hx
 have q9:zc.toArray.size=xs.length:=by rw [List.size_toArray]; exact r.length.symm
 refine ⟨"tuple",_,PyProof.Rows.slot_tuple_getitem.lookup,ht.typeIs,?_⟩
 refine HT.getItem_tuple_cut ht hs pl pu (by rw [q9]; exact hw) ?_ (by rw [q9]; exact hz)
 rw [q9]
 refine ⟨.ref s.heap.objs.size,_,I.laid (t':=s.toks) (o:=.tup (cutV xs lo hi)) (fun b ob q=>qc _ q) (Nat.le_refl _) ?_,rfl,q _ (I.hok.fresh (Nat.le_refl _))⟩
 exact ⟨⟨Nat.le_trans (zcQ xs lo hi) hz,NoDc.new rfl (qd _ rfl)⟩,_,(r.drop (HT.sIx xs.length 0 lo)).take (HT.sIx xs.length xs.length hi - HT.sIx xs.length 0 lo),IsTup.new _ _⟩
noncomputable def rCatT (K:W.Frag):R2:=fun x y H Q=>∃ a b xs ys,x=.ref a/\y=.ref b/\SqT K H a xs/\SqT K H b ys/\xs≠[]/\xs.length + ys.length<=sizeLine/\
 (ys=[]->Q (.ref a) H)/\(ys≠[]->∀ p,H p=none->Q (.ref p) (upd H p (.tup (xs++ys))))
theorem qW.nil_iff (r:qW xs us):us=[]↔xs=[]:=by
 cases r with
 | nil=>simp
 | cons _ _=>simp
theorem zky:OpR X (binaryOp .Add) (rCatT X.K):=by
 intro qZ s σ H x y v u Q I rx ry h
 obtain ⟨a,b,xs,ys,rfl,rfl,ha,hb,hx,hz,q1,q2⟩:=h
 cases rx
 cases ry
 obtain ⟨zc,r1,p1,_⟩:=I.tuple ha
 obtain ⟨its2,r2,p2,_⟩:=I.tuple hb
 refine HT.cat_tup p1 p2 (fun z=>hx (r1.nil_iff.mp z)) (fun z=>⟨.ref a,H,I,rfl,q1 (r2.nil_iff.mp z)⟩) (fun z=>?_) (by rw [<- r1.length,<- r2.length]; exact hz)
 refine ⟨.ref s.heap.objs.size,_,I.laid (t':=s.toks) (o:=.tup (xs++ys)) (fun b ob q=>qc _ q) (Nat.le_refl _) ?_,rfl,q2 (fun w=>z (r2.nil_iff.mpr w)) _ (I.hok.fresh (Nat.le_refl _))⟩
 exact ⟨⟨by rw [List.length_append]; exact hz,NoDc.new rfl (qd _ rfl)⟩,_,r1.append r2,IsTup.new _ _⟩
end
noncomputable def ixN (n:Nat) (i:Int):Option Nat:=if 0<=i then (if i < n then some i.toNat else none) else if -(n:Int)<=i then some (i + n).toNat else none
noncomputable def atI {α:Type} (xs:List α) (i:Int):Option α:=(ixN xs.length i).bind fun j=>xs[j]?
theorem zeE (h:ixN n i=some j):seqIndex? i n=some j/\j < n/\-(n:Int)<=i/\i < n:=by
 unfold ixN at h
 by_cases h0:0<=i
 ·rw [qq h0] at h
  by_cases h1:i < n
  ·rw [qq h1] at h
   have e:i.toNat=j:=qg h
   exact ⟨by rw [seqIndex_of h0 h1,e],by lia,by lia,h1⟩
  ·rw [qr h1] at h; cases h
 ·rw [qr h0] at h
  by_cases h1:-(n:Int)<=i
  ·rw [qq h1] at h
   have e:(i + n).toNat=j:=qg h
   exact ⟨by rw [seqIndex_neg (by lia) h1,e],by lia,h1,by lia⟩
  ·rw [qr h1] at h; cases h
theorem zeK (h:atI xs i=some v):∃ j,seqIndex? i xs.length=some j/\xs[j]?=some v/\j < xs.length/\-(xs.length:Int)<=i/\i < xs.length:=by
 unfold atI at h
 cases e:ixN xs.length i with
 | none=>rw [e] at h; cases h
 | some j=>
   rw [e] at h
   obtain ⟨h1,h2,h3,h4⟩:=zeE e
   exact ⟨j,h1,h,h2,h3,h4⟩
noncomputable def PlainIx (b:Expr):Prop:=∀ o i,subscripted b false o i=operate [o,i] (getItem o i)
noncomputable def IxR (X:Cx) (r:R2):Prop:=
 ∀ (value slice:Expr) (qZ:List (Addr×Obj)) (s:Shared) (σ:St) (H:Hp) (x y:V) (v u:Value) (Q:VK),Inv X qZ σ H s->qO x v->qO y u->r x y H Q->
   subscripted slice false v u=operate [v,u] (getItem v u)->wpAny (model X.prog X.w) X.A (subscriptTail value slice v u) (EP X qZ σ Q) X.xe s
noncomputable def MtR (X:Cx) (id:String) (r:V->List V->Hp->VK->Prop):Prop:=
 ∀ (qZ:List (Addr×Obj)) (s:Shared) (σ:St) (H:Hp) (x:V) (xs:List V) (v:Value) (us:List Value) (Q:VK),Inv X qZ σ H s->qO x v->qW xs us->r x xs H Q->
   wpAny (model X.prog X.w) X.A (call (.builtin id) (v::us)) (EP X qZ σ Q) X.xe s
section
theorem IxR.or (h:IxR X r) (h':IxR X r'):IxR X (fun x y H Q=>r x y H Q\/r' x y H Q):=by
 intro value slice qZ s σ H x y v u Q I rx ry q hs
 rcases q with q | q
 ·exact h value slice qZ s σ H x y v u Q I rx ry q hs
 ·exact h' value slice qZ s σ H x y v u Q I rx ry q hs
theorem zkR (hr:IxR X r) (ha:PE X a ta) (hb:PE X b tb) (hs:PlainIx b):PE X (.Subscript a b pos) (tOp r ta tb):=by
 intro qZ s σ H Q I h
 exact Subscript_ (binT ha hb I h fun v u s2 x y H2 I2 rx ry q=>hr a b qZ s2 σ H2 x y v u Q I2 rx ry q (hs _ _))
noncomputable def rIxL (K:W.Frag):R2:=fun x y H Q=>∃ p xs i v,x=.ref p/\y=.int i/\SqL K H p xs/\atI xs i=some v/\Q v H
noncomputable def rIxT (K:W.Frag):R2:=fun x y H Q=>∃ p xs i v,x=.ref p/\y=.int i/\SqT K H p xs/\atI xs i=some v/\Q v H
noncomputable def rIxS:R2:=fun x y H Q=>∃ z i c,x=.str z/\y=.int i/\z.length<=sizeLine/\atI z.cps.toList i=some c/\Q (.str ⟨#[c]⟩) H
theorem zkv:IxR X (rIxL X.K):=by
 intro value slice qZ s σ H x y v u Q I rx ry h hs
 obtain ⟨p,xs,i,z,rfl,rfl,hq,he,q⟩:=h
 cases rx
 obtain ⟨t,rfl⟩:=ry
 obtain ⟨zc,r,pl,hz⟩:=I.list hq
 obtain ⟨j,h1,h2,h3,h4,h5⟩:=zeK he
 obtain ⟨w,ew,rw'⟩:=r.get h2
 have hl:=r.length
 have hn:=line63
 have fin:EP X qZ σ Q w s:=⟨z,H,I,rw',q⟩
 by_cases h0:0<=i
 ·have hj:i.toNat=j:=by
   rw [seqIndex_of h0 h5] at h1
   exact qg h1
  exact item_listR pl.isList h0 (by lia) (by rw [hj]; simpa using ew) fin hs
 ·have hj:(i + (zc.toArray.size:Int)).toNat=j:=by
   rw [seqIndex_neg (by lia) h4] at h1
   rw [List.size_toArray,<- hl]
   exact qg h1
  exact subscriptTail_builtinR (x:=w) pl.isList.typeIs slot_list_getitem.lookup
   (wpAny_getItem_list_neg (Q:=fun r s'=>r=w/\EP X qZ σ Q r s') pl.isList (by lia) (by rw [List.size_toArray] <;> lia) (by lia) (by rw [hj]; simpa using ew) ⟨rfl,fin⟩) hs
theorem zlQ:IxR X (rIxT X.K):=by
 intro value slice qZ s σ H x y v u Q I rx ry h hs
 obtain ⟨p,xs,i,z,rfl,rfl,hq,he,q⟩:=h
 cases rx
 obtain ⟨t,rfl⟩:=ry
 obtain ⟨zc,r,pl,hz⟩:=I.tuple hq
 obtain ⟨j,h1,h2,h3,h4,h5⟩:=zeK he
 obtain ⟨w,ew,rw'⟩:=r.get h2
 have hl:=r.length
 have hn:=line63
 have fin:EP X qZ σ Q w s:=⟨z,H,I,rw',q⟩
 exact subscriptTail_builtinR (x:=w) pl.typeIs slot_tuple_getitem.lookup
  (getItem_tuple (j:=j) (Q:=fun r s'=>r=w/\EP X qZ σ Q r s') pl (by lia) (by lia) (by rw [List.size_toArray,<- hl]; exact h1) (by simpa using ew) ⟨rfl,fin⟩) hs
theorem zlJ:IxR X rIxS:=by
 intro value slice qZ s σ H x y v u Q I rx ry h hs
 obtain ⟨z,i,c,rfl,rfl,hz,he,q⟩:=h
 obtain ⟨t,rfl⟩:=rx
 obtain ⟨t',rfl⟩:=ry
 obtain ⟨j,h1,h2,h3,h4,h5⟩:=zeK he
 have hl:z.cps.toList.length=z.length:=by simp [Str.length]
 rw [hl] at h1 h4 h5
 have hn:=line63
 exact tail_any (typeIs_str s z t) slot_str_getitem.lookup (getItem_str (c:=c) (by
  have e1:decide (i < -(2 ^ 63:Int))=false:=qk (by lia)
  have e2:decide (i ≥ 2 ^ 63)=false:=qk (by lia)
  rw [e1,e2,Bool.or_false]) (by rw [h1]; simpa using h2) ⟨.str ⟨#[c]⟩,H,I.tok _,⟨_,rfl⟩,q⟩) hs
noncomputable def rIx (K:W.Frag):R2:=fun x y H Q=>rIxL K x y H Q\/rIxT K x y H Q\/rIxS x y H Q
theorem zjn:IxR X (rIx X.K):=zkv.or (zlQ.or zlJ)
theorem zf8 (zc:List Value) (n j:Nat) (u:Value):Obj.mapSeq (·.setIfInBounds j u) { cls:=.type "list",data:=.seq zc.toArray n }={ cls:=.type "list",data:=.seq (zc.set j u).toArray n }:=by
 simp [Obj.mapSeq]
theorem Inv.lst (I:Inv X qZ σ H s) (h:H p=some (.lst xs)):
  ∃ (zc:List Value) (n:Nat),qW xs zc/\s.heap.get? p=some { cls:=.type "list",data:=.seq zc.toArray n }/\xs.length<=sizeLine:=by
 obtain ⟨z,zc,n,r,e⟩:=I.hok p _ h
 exact ⟨zc,n,r,e,z⟩
theorem Inv.lstUpd {zc its':List Value} (I:Inv X qZ σ H s) (h:H p=some (.lst xs))
  (ho:s.heap.get? p=some { cls:=.type "list",data:=.seq zc.toArray n }) (hf:f { cls:=.type "list",data:=.seq zc.toArray n }={ cls:=.type "list",data:=.seq its'.toArray n' }) (r:qW ys its') (hz:ys.length<=sizeLine) (t:Nat):
  Inv X qZ σ (upd H p (.lst ys)) { s with heap:=s.heap.update p f,toks:=t }:=by
 have e:(s.heap.update p f).get? p=some { cls:=.type "list",data:=.seq its'.toArray n' }:=by
  rw [qu f ho (by rw [hf] <;> rfl),hf]
 refine I.write (x:=p) (e:=p) (by rw [h]; trivial) (.inl rfl) (fun b u hb q=>(qt _ _ (Ne.symm hb)).trans q) ⟨_,e⟩ ?_
 exact ⟨hz,its',n',r,e⟩
noncomputable def rSetL:V->V->V->Hp->(Hp->Prop)->Prop:=fun o i v H Q=>∃ p xs k j,o=.ref p/\i=.int k/\H p=some (.lst xs)/\ixN xs.length k=some j/\Q (upd H p (.lst (xs.set j v)))
theorem zh3:PSet X rSetL:=by
 intro qZ s σ H o i v ov iv u Q I ro ri rv h
 obtain ⟨p,xs,k,j,rfl,rfl,hp,hj,q⟩:=h
 cases ro
 obtain ⟨t,rfl⟩:=ri
 obtain ⟨zc,n,r,ho,hz⟩:=I.lst hp
 obtain ⟨h1,h2,h3,h4⟩:=zeE hj
 have hl:=r.length
 have hn:=line63
 have I':Inv X qZ σ (upd H p (.lst (xs.set j v))) { s with heap:=s.heap.update p (Obj.mapSeq (·.setIfInBounds j u)) }:=
  I.lstUpd hp ho (zf8 zc n j u) (r.set rv j) (by rw [List.length_set]; exact hz) s.toks
 by_cases h0:0<=k
 ·have hk:k.toNat=j:=by
   rw [seqIndex_of h0 h4] at h1
   exact qg h1
  exact W.ki_setAt ho h0 (by lia) (by rw [List.size_toArray,<- hl]; exact h4) (by rw [hk]; exact ⟨_,I',q⟩)
 ·have hk:(k + (zc.toArray.size:Int)).toNat=j:=by
   rw [seqIndex_neg (by lia) h3] at h1
   rw [List.size_toArray,<- hl]
   exact qg h1
  exact W.ki_setBack ho (by lia) (by rw [List.size_toArray,<- hl]; exact h3) (by lia) (by rw [hk]; exact ⟨_,I',q⟩)
theorem zdU (lo hi:Option Int) (n:Nat):(sliceBounds lo hi none n).1=((HT.sIx n 0 lo:Nat):Int)/\(sliceBounds lo hi none n).2.1=((HT.sIx n n hi:Nat):Int)/\(sliceBounds lo hi none n).2.2=1:=by
 have clip:∀ (i:Int) (n d:Nat),max 0 (min (if i < 0 then i + (n:Int) else i) (n:Int))=((HT.sIx n d (some i):Nat):Int):=fun i n _=>clipI i n
 refine ⟨?_,?_,rfl⟩
 ·cases lo with
  | none=>rfl
  | some i=>exact clip i n 0
 ·cases hi with
  | none=>rfl
  | some i=>exact clip i n n
theorem zdC (zc:List Value) (lo hi:Option Int):slicePick zc.toArray lo hi none=((zc.drop (HT.sIx zc.length 0 lo)).take (HT.sIx zc.length zc.length hi - HT.sIx zc.length 0 lo)).toArray:=by
 obtain ⟨h1,h2,h3⟩:=zdU lo hi zc.toArray.size
 unfold slicePick
 rw [h1,h2,h3]
 simp only [sliceRange_one,pick_run,List.size_toArray] <;> rfl
noncomputable def rSlL (K:W.Frag):V->Option Int->Option Int->Hp->VK->Prop:=fun x lo hi H Q=>∃ a xs,x=.ref a/\SqL K H a xs/\∀ p,H p=none->Q (.ref p) (upd H p (.lst (cutV xs lo hi)))
theorem zj4:SlR X (rSlL X.K):=by
 intro qZ s σ H x v vl vu lo hi sl Q I rx hs pl pu h
 obtain ⟨a,xs,rfl,hx,q⟩:=h
 cases rx
 obtain ⟨zc,r,ht,hz⟩:=I.list hx
 have q9:=r.length
 refine ⟨"list",_,slot_list_getitem.lookup,ht.isList.typeIs,?_⟩
 refine wpAny_getItem_list_slice ht.isList hs pl pu .none (by simp) ?_ (by rw [List.size_toArray] <;> lia)
 rw [zdC,<- q9]
 refine ⟨.ref s.heap.objs.size,_,I.laid (t':=s.toks) (o:=.lst (cutV xs lo hi)) (fun b ob q=>qc _ q) (Nat.le_refl _) ?_,rfl,q _ (I.hok.fresh (Nat.le_refl _))⟩
 exact ⟨Nat.le_trans (zcQ xs lo hi) hz,_,0,(r.drop (HT.sIx xs.length 0 lo)).take (HT.sIx xs.length xs.length hi - HT.sIx xs.length 0 lo),qd _ rfl⟩
theorem zea:CallR X (.builtin "len") (fun xs H Q=>∃ p ys,xs=[.ref p]/\(SqL X.K H p ys\/SqT X.K H p ys)/\Q (.int ys.length) H):=by
 intro qZ s σ H xs us Q I r h
 obtain ⟨p,ys,rfl,hq,q⟩:=h
 obtain ⟨u,rfl,rx⟩:=vals1 r
 cases rx
 have hn:=line63
 rcases hq with hq | hq
 ·obtain ⟨zc,r',pl,hz⟩:=I.list hq
  have q9:=r'.length
  exact Calls.call_len_list pl.isList (by simp only [List.size_toArray] <;> lia) ⟨.int ys.length,H,I.tok _,⟨s.toks + 1,by rw [List.size_toArray,q9]⟩,q⟩
 ·obtain ⟨zc,r',pl,hz⟩:=I.tuple hq
  have q9:=r'.length
  exact len_tuple pl (by simp only [List.size_toArray] <;> lia) ⟨.int ys.length,H,I.tok _,⟨s.toks + 1,by rw [List.size_toArray,q9]⟩,q⟩
theorem zdS:CallR X (.builtin "len") (fun xs H Q=>∃ z,xs=[.str z]/\z.length<=sizeLine/\Q (.int z.length) H):=by
 intro qZ s σ H xs us Q I r h
 obtain ⟨z,rfl,hz,q⟩:=h
 obtain ⟨u,rfl,t,rfl⟩:=vals1 r
 have hn:=line63
 exact len_str (by lia) ⟨.int z.length,H,I.tok _,⟨_,rfl⟩,q⟩
theorem zdN:CallR X (.type "list") (fun xs H Q=>∃ p ys,xs=[.ref p]/\(SqL X.K H p ys\/SqT X.K H p ys)/\∀ l,H l=none->Q (.ref l) (upd H l (.lst ys))):=by
 intro qZ s σ H xs us Q I r h
 obtain ⟨p,ys,rfl,hq,q⟩:=h
 obtain ⟨u,rfl,rx⟩:=vals1 r
 cases rx
 have fin:∀ (zc:List Value),qW ys zc->ys.length<=sizeLine->∀ (h':Heap) (c':Nat),(∀ b o',s.heap.get? b=some o'->h'.get? b=some o')->
   h'.get? s.heap.objs.size=some { cls:=.type "list",dict:=none,data:=.seq zc.toArray c',slots:=#[] }->EP X qZ σ Q (.ref s.heap.objs.size) { s with heap:=h' }:=fun zc r' hz h' c' kp e=>
  ⟨.ref s.heap.objs.size,_,I.laid (t':=s.toks) kp (Nat.le_refl _) (show qY X.prog X.w _ h' _ (.lst ys) from ⟨hz,zc,c',r',e⟩),rfl,q _ (I.hok.fresh (Nat.le_refl _))⟩
 rcases hq with hq | hq
 ·obtain ⟨zc,r',pl,hz⟩:=I.list hq
  have q9:=r'.length
  obtain ⟨o,ho,hc,n,hd⟩:=pl.isList
  exact call_list_seq p (.inl rfl) ho hc hd (fun h' c' kp e=>fin zc r' hz h' c' kp e) (by simp only [List.size_toArray] <;> lia)
 ·obtain ⟨zc,r',pl,hz⟩:=I.tuple hq
  have q9:=r'.length
  obtain ⟨o,ho,hc,n,hd⟩:=pl
  exact call_list_seq p (.inr rfl) ho hc hd (fun h' c' kp e=>fin zc r' hz h' c' kp e) (by simp only [List.size_toArray] <;> lia)
theorem zdr:CallR X (.type "tuple") (fun xs H Q=>∃ p ys,xs=[.ref p]/\((SqL X.K H p ys/\∀ l,H l=none->Q (.ref l) (upd H l (.tup ys)))\/(SqT X.K H p ys/\Q (.ref p) H))):=by
 intro qZ s σ H xs us Q I r h
 obtain ⟨p,ys,rfl,h⟩:=h
 obtain ⟨u,rfl,rx⟩:=vals1 r
 cases rx
 rcases h with ⟨hq,q⟩ | ⟨hq,q⟩
 ·obtain ⟨zc,r',pl,hz⟩:=I.list hq
  have q9:=r'.length
  refine call_tuple_list pl.isList (fun h' kp=>?_) (by simp only [List.size_toArray] <;> lia)
  have I1:Inv X qZ σ H { s with heap:=h' }:=I.kept (t':=s.toks) kp
  have I2:Inv X qZ σ (upd H h'.objs.size (.tup ys)) { s with heap:=h'.push { cls:=.type "tuple",data:=.seq zc.toArray } }:=
   I1.laid (t':=s.toks) (fun b o e=>qc _ e) (Nat.le_refl _) (show qY X.prog X.w _ _ _ (.tup ys) from ⟨⟨hz,NoDc.new rfl (qd _ rfl)⟩,zc,r',IsTup.new _ _⟩)
  exact ⟨.ref h'.objs.size,_,I2,rfl,q _ (I1.hok.fresh (Nat.le_refl _))⟩
 ·obtain ⟨zc,r',pl,hz⟩:=I.tuple hq
  exact call_tuple_same pl ⟨.ref p,H,I,rfl,q⟩
noncomputable def tyV (K:W.Frag) (T:String) (x:V) (H:Hp):Prop:=match x with
 | .str _=>T="str"
 | .int _=>T="int"
 | .ref p=>(T="list"/\∃ xs,SqL K H p xs)\/(T="tuple"/\∃ o,K.lookup p=some o/\o.cls=.type "tuple"/\o.dict=none)\/
   (T="dict"/\((∃ q5,H p=some (.dK q5))\/∃ q5,H p=some (.dT q5)))
 | _=>False
theorem zln (I:Inv X qZ σ H s) (r:qO x v) (ty:tyV X.K T x H):
  s.TypeIs v T/\∀ a,v=.ref a->∃ ob,s.heap.get? a=some ob/\ob.dict=none:=by
 cases x with
 | str z=>
   obtain ⟨t,rfl⟩:=r
   cases (show T="str" from ty)
   exact ⟨typeIs_str s z t,fun _ e=>nomatch e⟩
 | int i=>
   obtain ⟨t,rfl⟩:=r
   cases (show T="int" from ty)
   exact ⟨typeIs_int s i t,fun _ e=>nomatch e⟩
 | ref p=>
   cases r
   rcases ty with ⟨rfl,xs,hq⟩ | ⟨rfl,o,hk,hc,hd⟩ | ⟨rfl,hk⟩
   ·obtain ⟨zc,_,pl,_⟩:=I.list hq
    refine ⟨pl.isList.typeIs,fun a e=>?_⟩
    cases e
    obtain ⟨o,n,e,c,hd,_⟩:=pl
    exact ⟨o,e,hd⟩
   ·refine ⟨⟨o,I.kIn p o hk,hc⟩,fun a e=>?_⟩
    cases e
    exact ⟨o,I.kIn _ o hk,hd⟩
   ·have z:∃ o,s.heap.get? p=some o/\o.ExactDict:=by
     rcases hk with ⟨q5,hk⟩ | ⟨q5,hk⟩
     ·obtain ⟨_,_,_,_,o,_,_,e,ex,_⟩:=I.hok p _ hk
      exact ⟨o,e,ex⟩
     ·obtain ⟨_,_,_,_,o,_,_,e,ex,_⟩:=I.hok p _ hk
      exact ⟨o,e,ex⟩
    obtain ⟨o,e,ex⟩:=z
    refine ⟨⟨o,e,ex.1⟩,fun a e2=>?_⟩
    cases e2
    exact ⟨o,e,ex.2.1⟩
 | _=>exact False.elim ty
noncomputable def tBM (K:W.Frag) (T:String) (r:V->List V->Hp->VK->Prop) (to:TE) (t:TA):TE:=fun σ H Q=>to σ H fun x H1=>tyV K T x H1/\t σ H1 fun xs H2=>r x xs H2 Q
variable {T id:String}
theorem zh8 (pa:PlainAttrs T) (slot:Slot T name id) (hty:typeOf (.builtin id)=pure (.type "method_descriptor")) (hm:MtR X id r) (ho:PE X o to) (ha:PA X (e::es) t)
  (hbase:attributeBase o name X.env (eval o X.env)=eval o X.env:=by rfl)
  (hfew:((backTo cpos (starEach (e::es) X.env)).all (fun x=>!x.1) && (backToKw cpos (keywordEach [] X.env)).all (fun x=>x.1.isSome)
   && decide ((e::es).length + ([]:List Keyword).length + (if ([]:List Keyword).isEmpty then 0 else 1) < 30))=true:=by rfl)
  (hline:(apos.endLine == cpos.line)=true:=by rfl) (hs:starEach (e::es) X.env=(false,eval e X.env)::starEach es X.env:=by rfl) (hplain:(backTo cpos (starEach es X.env)).any (·.1)=false:=by rfl):
  PE X (.Call (.Attribute o name apos) (e::es) [] cpos) (tBM X.K T r to t):=by
 intro qZ s σ H Q I h
 refine wpAny_Call_method_late hbase hfew hline rfl (thn (ho qZ s σ H _ I h) fun v s1 zq=>?_)
 obtain ⟨x,H1,I1,r1,ty,q1⟩:=zq
 obtain ⟨h1,h2⟩:=zln I1 r1 ty
 refine ⟨T,id,pa,slot,hty,h1,h2,?_⟩
 have hA:=ha cpos qZ s1 σ H1 _ I1 q1
 rw [hs] at hA ⊢
 refine Calls.callWith_builtin (by show (false || (backTo cpos (starEach es X.env)).any (·.1))=false; rw [hplain] <;> rfl) (Calls.evalArgs_plain ?_)
 exact thn hA fun us s2 ⟨vs,H2,I2,r2,q2⟩=>hm qZ s2 σ H2 x vs v us Q I2 r1 r2 q2
end
noncomputable def MtM (X:Cx) (id:String) (r:V->List V->Hp->VK->Prop):Prop:=
 ∀ (qZ:List (Addr×Obj)) (s:Shared) (σ:St) (H:Hp) (x:V) (xs:List V) (v:Value) (us:List Value) (Q:VK),Inv X qZ σ H s->qO x v->qW xs us->r x xs H Q->
   wpAny (model X.prog X.w) X.A (call (.builtin id) (v::us)) (EP X qZ σ Q) X.xe s
theorem qW.one:∀ {x:V} {us:List Value},qW [x] us->∃ u,us=[u]/\qO x u:=by
 intro x us h
 cases h with
 | cons r t=>cases t; exact ⟨_,rfl,r⟩
theorem qW.eraseIdx:∀ {xs:List V} {us:List Value} (i:Nat),qW xs us->qW (xs.eraseIdx i) (us.eraseIdx i)
 | _,_,_,.nil=>.nil
 | _,_,0,.cons _ t=>t
 | _,_,i + 1,.cons r t=>.cons r (qW.eraseIdx i t)
theorem zdW {α:Type}:∀ (l:List α) (i:Nat),(l.eraseIdx i).length<=l.length
 | [],_=>Nat.le_refl _
 | _::_,0=>Nat.le_succ _
 | _::r,i + 1=>Nat.succ_le_succ (zdW r i)
theorem Inv.lset {zc its':List Value} (I:Inv X qZ σ H s) (hH:H l=some (.lst xs))
  (e:s.heap.get? l=some { cls:=.type "list",data:=.seq zc.toArray n }) (hf:f zc.toArray=its'.toArray) (hv:qW ys its') (hz:ys.length<=sizeLine):
  Inv X qZ σ (upd H l (.lst ys)) { s with heap:=s.heap.update l (Obj.mapSeq f),toks:=t' }:=by
 have q:=PySem.IsL.update e f
 rw [hf] at q
 refine I.write (x:=l) (e:=l) (by rw [hH]; exact trivial) (.inl rfl) (fun b' u hb hu=>(qt s.heap (Obj.mapSeq f) (Ne.symm hb)).trans hu) ⟨_,q⟩ ?_
 exact ⟨hz,its',_,hv,q⟩
theorem Inv.lnew (I:Inv X qZ σ H s) (hv:qW ys zc) (hz:ys.length<=sizeLine):
  Inv X qZ σ (upd H s.heap.objs.size (.lst ys)) { s with heap:=s.heap.push { cls:=.type "list",data:=.seq zc.toArray },toks:=t' }:=
 I.laid (fun _ _ q=>qc _ q) (Nat.le_refl _) ⟨hz,zc,0,hv,qd _ rfl⟩
theorem Inv.fresh (I:Inv X qZ σ H s):H s.heap.objs.size=none:=I.hok.fresh (Nat.le_refl _)
theorem Inv.lstM (I:Inv X qZ σ H s) (hH:H l=some (.lst xs)):xs.length<=sizeLine/\∃ (zc:List Value) (n:Nat),qW xs zc/\xs.length=zc.length/\s.heap.get? l=some { cls:=.type "list",data:=.seq zc.toArray n }:=by
 obtain ⟨z,zc,n,r,e⟩:=I.hok l _ hH
 exact ⟨z,zc,n,r,r.length,e⟩
noncomputable def rAppend:V->List V->Hp->VK->Prop:=fun x vs H Q=>∃ l xs y,x=.ref l/\vs=[y]/\H l=some (.lst xs)/\xs.length < sizeLine/\Q .non (upd H l (.lst (xs++[y])))
theorem zcK:MtM X "list.append" rAppend:=by
 intro qZ s σ H x vs v us Q I rx rv h
 obtain ⟨l,xs,y,rfl,rfl,hH,hz,q⟩:=h
 cases rx
 obtain ⟨u,rfl,ru⟩:=rv.one
 obtain ⟨z,zc,n,r,hl,e⟩:=I.lstM hH
 refine call_meets F.slot_list_append ⟨_,e,rfl⟩ F.entry_list_append (F.args_list_append_2 _ _) (PySem.list_append l zc.toArray n u (by rw [List.size_toArray]; lia)) ⟨e,?_⟩
 refine ⟨.non,_,I.lset (its':=zc++[u]) hH e (by simp) (r.append (.cons ru .nil)) ?_,rfl,q⟩
 rw [List.length_append,List.length_singleton]
 lia
noncomputable def rPopAt:V->List V->Hp->VK->Prop:=fun x vs H Q=>∃ l xs i k y,x=.ref l/\vs=[.int i]/\H l=some (.lst xs)/\-(2 ^ 63)<=i/\i < 2 ^ 63/\seqIndex? i xs.length=some k/\xs[k]?=some y/\Q y (upd H l (.lst (xs.eraseIdx k)))
theorem zi3:MtM X "list.pop" rPopAt:=by
 intro qZ s σ H x vs v us Q I rx rv h
 obtain ⟨l,xs,i,k,y,rfl,rfl,hH,h1,h2,hk,hy,q⟩:=h
 cases rx
 obtain ⟨u,rfl,ru⟩:=rv.one
 obtain ⟨t,rfl⟩:=ru
 obtain ⟨z,zc,n,r,hl,e⟩:=I.lstM hH
 obtain ⟨w,hw,rw'⟩:=r.get hy
 refine call_meets F.slot_list_pop ⟨_,e,rfl⟩ F.entry_list_pop (F.args_list_pop_2 _ _)
  (MeetsSeq.list_pop_at l zc.toArray n i t k w (fitsIndex_both h1 h2) (by rw [List.size_toArray,<- hl]; exact hk) (by rw [<- Array.getElem?_toList]; exact hw) (by rw [List.size_toArray]; lia)) ⟨e,?_⟩
 refine ⟨y,_,I.lset (its':=zc.eraseIdx k) hH e ?_ (r.eraseIdx k) ?_,rw',q⟩
 ·show zc.toArray.eraseIdxIfInBounds k=(zc.eraseIdx k).toArray
  rw [List.eraseIdxIfInBounds_toArray]
 ·have:=zdW xs k
  lia
end L2
namespace Att
open PySem PySem.W PySem.Calls PyProof.Rows
theorem zcE:∀ (ns:List Int) (vs:List Value),WellAll P h vs (ns.map WData.int)->IntsAre vs ns:=by
 intro ns
 induction ns with
 | nil=>
   intro vs w
   rw [List.map_nil] at w
   cases w
   exact .nil
 | cons n ns ih=>
   intro vs w
   rw [List.map_cons] at w
   cases w with
   | cons a b=>
     cases a
     exact .cons _ _ (ih _ b)
theorem zhC {l:OpenLaw} (hn:l.most=some n)
  (hpre:l.row.toRowW.claim.pre args=true) (hwl:WellAll P h vals args):
  ∃ a vs ns,vals=[Value.ref a]/\args=[WData.list (ns.map WData.int)]/\h.get? a=some { cls:=.type "list",data:=.seq vs.toArray }/\IntsAre vs ns/\ns.length<=n:=by
 have hsh:WShape.hasAll [] args [.list .int]=true:=(pre_splitW hpre).1
 have hc:l.pre.holds [] { args:=args }=true:=(pre_splitW hpre).2
 obtain ⟨d,r,rfl,h1,h2⟩:=hasAllW_cons hsh
 obtain rfl:=hasAllW_nil h2
 obtain ⟨xs,rfl,h3⟩:=hasW_list h1
 obtain ⟨ns,rfl⟩:=items_int h3
 have q9:ns.length<=n:=by
  unfold OpenLaw.pre at hc
  have h4:(WTm.not (.lt (.lit (.int (n:Int))) (.len (.arg 0)))).holds [] { args:=[.list (ns.map .int)] }=true:=by
   have h4:=(holds_andW hc).1
   rw [hn] at h4
   exact h4
  have h5:=condW_of h4 (w_not (w_lt w_lit (w_len_list (w_arg rfl))))
  grind
 cases hwl with
 | cons w1 w2=>
   cases w2
   cases w1 with
   | list ho hall=>exact ⟨_,_,ns,rfl,rfl,ho,zcE ns _ hall,q9⟩
theorem zgS (l:OpenLaw) (args:List WData):l.row.toRowW.claim.post args (.bool true) args=true:=
 postW_of (r:=l.row.toRowW) (X:=(true == true))
  (show WShape.has [] (.bool true) .bool=true by first | rfl | decide | simp [WShape.has,WShape.arms,WShape.armsAll])
  (show (WTm.eq .res (.lit (.bool true))).value [] { args:=args,res:=some (.bool true),after:=args }=some (.bool (true == true)) from w_eq_bool (w_res rfl) w_lit) rfl
theorem attach_call {l:OpenLaw}
  (hn:l.most=some n) (hdf:d.params.defaults=[])
  (call:∀ (w:World) (s₀ s₁:Shared) (mg mb:Str->Option Value) (fa:Addr) (o:Obj) (pm cd doc:Value) (a:Addr) (vs:List Value) (ns:List Int),
   Ground q loose [] XP w s₀ mg mb s₁.heap->YP w s₁.heap->
   s₁.heap.get? fa=some o->o.data=.func (docDef d.name d.params d.body d.scope pm cd doc)->s₁.heap.CodeRec cd d.name->mg d.name=some (.ref fa)->
   s₁.heap.get? a=some { cls:=.type "list",data:=.seq vs.toArray }->IntsAre vs ns->ns.length<=n->s₁.gens=#[]->
   codeAny (model l.prog w) callerA (.call (.ref fa) ⟨[.ref a],[]⟩) (fun r s'=>r=.ok (.ret (.bool true))/\OldK s₁.heap s'.heap/\s'.os=s₁.os/\AllBare s'.gens) s₁):
  WalkO q loose XP YP l.row.toRowW d [] (fun f vs=>PySem.call f vs):=by
 intro w s₀ s₁ mg mb G Y fa o pm cd doc dV kV ho hd hcd hD hmg hg args vals as hpre hlay hrd hwl hlo
 obtain rfl:dV=.none:=Dflts.none hD hdf
 obtain rfl:kV=.none:=Dflts.noKw hD
 obtain ⟨a,vs,ns,rfl,rfl,hobj,hints,q9⟩:=zhC hn hpre hwl
 refine enter_call (codeAny_mono (call w s₀ s₁ mg mb fa o pm cd doc a vs ns G Y ho (fd_plain hd) hcd hmg hobj hints q9 hg) fun r s' hq=>?_)
 obtain ⟨rfl,h2,h3,h4⟩:=hq
 exact ⟨.inl ⟨.bool true,.bool true,[],rfl,fun _=>rfl,.bool true,zgS l _,fun _=>⟨List.Pairwise.nil,fun _ hm=>(nomatch hm)⟩⟩,h2,h3,h4⟩
end Att
namespace L2
open PySem PySem.Spec PyProof.Rows
theorem za9:∀ {vs:List Value} {ns:List Int},IntsAre vs ns->qW (ns.map V.int) vs
 | _,_,.nil=>.nil
 | _,_,.cons n t h=>.cons ⟨t,rfl⟩ (za9 h)
noncomputable def Only (H:Hp):Prop:=∀ b,H b=none\/∃ o xs,H b=some (.frz o (.lst xs))
theorem ziD {K:W.Frag}
  (KX:K.In s₁.heap) (hns:s₁.heap.Ns mainGlobals mg) (hb:s₁.heap.Ns builtinsNs mb) (hbb:∀ x:Str,x≠"__name__"->mb x=bootBuiltins x) (hlim:s₁.heap.NoLimit) (hg:s₁.gens=#[])
  (ha:s₁.heap.get? a=some { cls:=.type "list",data:=.seq vs.toArray }) (hi:IntsAre vs ns) (hl:ns.length<=sizeLine) (hr:Room k callerA)
  (F:∀ base:Heap,K.In base->base.Ns mainGlobals mg->FnOk P w K mg base CX k fa fd [x] sp) (hbind:∀ (s:Shared) (u:Value),BindsTo s fd ⟨[u],[]⟩ [(x,u)])
  (hsp:∀ H:Hp,Only H->SqL K H a (ns.map V.int)->sp [.ref a] H (fun v _=>v=.bl true) fun _ _ _=>False)
  (hCX:∀ H e s',CX [] H s₁ (fun _ _ _=>False) e s'->False):
  codeAny (model P w) callerA (.call (.ref fa) ⟨[.ref a],[]⟩) (fun r s'=>r=.ok (.ret (.bool true))/\OldK s₁.heap s'.heap/\s'.os=s₁.os/\AllBare s'.gens) s₁:=by
 have rv:=za9 hi
 have lenV:=hi.length
 -- from an abstract heap in which nothing but the script may be tracked
 have core:∀ H:Hp,Only H->SqL K H a (ns.map V.int)->HOk P w H s₁.heap->(∀ b,H b≠none->b=a)->(H a≠none->K.lookup a=none)->
   codeAny (model P w) callerA (.call (.ref fa) ⟨[.ref a],[]⟩) (fun r s'=>r=.ok (.ret (.bool true))/\OldK s₁.heap s'.heap/\s'.os=s₁.os/\AllBare s'.gens) s₁:=by
  intro H hO hS hok hA hK
  have base_of:∀ {b:Addr} {o:Obj},s₁.heap.get? b=some o->H b=none->(hidT s₁.heap H).get? b=some o:=fun e n=>zjd e n
  have noA:∀ {b:Addr} {o:Obj} {es:Array DictEntry} {ep:Nat},s₁.heap.get? b=some o->o.data=.dict es ep->H b=none:=fun {b o es ep} e d=>by
   cases q:H b with
   | none=>rfl
   | some u=>
     grind
  have nsK:∀ {b:Addr} {m:Str->Option Value},s₁.heap.Ns b m->(hidT s₁.heap H).Ns b m:=fun {b m} ⟨o,es,ep,e,d,r⟩=>⟨o,es,ep,base_of e (noA e d),d,r⟩
  have hKb:K.In (hidT s₁.heap H):=fun b o e=>base_of (KX b o e) (by
   cases q:H b with
   | none=>rfl
   | some u=>
     have e':b=a:=hA b (by rw [q]; simp)
     subst e'
     rw [hK (by rw [q]; simp)] at e; cases e)
  have hM:Mod K mg (hidT s₁.heap H):=⟨hKb,nsK hns,⟨mb,nsK hb,hbb⟩,let ⟨mc,h1,h2⟩:=hlim; ⟨mc,nsK h1,h2⟩⟩
  have e0:Env0 P w K mg (hidT s₁.heap H) callerA [] s₁ H:=⟨rfl,hM,fun b o e=>zj7 e,Nat.le_of_eq (zgG _ _),trivial,fun b hb=>absurd (show b∈([]:List Addr) from hb) (by simp),hok,.of_eq hg⟩
  refine codeAny_mono ((F _ hKb (nsK hns)).run callerA [] s₁ H ⟨[.ref a],[]⟩ [.ref a] [.ref a] _ _ hr e0 (hbind s₁ (.ref a)) (.cons rfl .nil) (hsp H hO hS)) fun r s' h=>?_
  cases r with
  | error e=>exact (hCX H e s' h).elim
  | ok fl=>
    cases fl with
    | next=>exact False.elim h
    | brk=>exact False.elim h
    | cont=>exact False.elim h
    | ret u=>
      obtain ⟨v,H',os,bare,un,hok',r',q⟩:=h
      have q':v=.bl true:=q
      subst q'
      obtain rfl:u=Value.bool true:=r'
      refine ⟨rfl,OldK.of_keep fun b o e=>?_,os,bare⟩
      cases q:H b with
      | none=>exact un.keep b o e q (by intro z; exact absurd (show b∈([]:List Addr) from z) (by simp)) (by simp)
      | some u=>
        rcases hO b with z | ⟨ob,xs,z⟩
        ·rw [q] at z; cases z
        ·have z2:=un.frzs b ob _ z
         obtain ⟨e1,_⟩:=hok b _ z
         obtain ⟨e2,_⟩:=hok' b _ z2
         rw [e] at e1; cases e1
         exact e2
 cases hk:K.lookup a with
 | some o=>
   -- the script is one of the module's own objects
   have e:=KX a o hk
   rw [ha] at e
   cases e
   refine core (fun _=>none) (fun _=>.inl rfl) (.inr ⟨_,vs.toArray,_,hk,rfl,rfl,rfl,by rw [List.size_toArray,lenV]; exact hl,by simpa using rv⟩) (fun b u z=>by have z':(none:Option HO)=some u:=z; cases z') (fun b z=>absurd rfl z) fun z=>absurd rfl z
 | none=>
   refine core (fun b=>if b=a then some (.frz { cls:=.type "list",data:=.seq vs.toArray } (.lst (ns.map V.int))) else none) (fun b=>?_) (.inl (.inr ⟨{ cls:=.type "list",data:=.seq vs.toArray },qq rfl⟩)) (fun b u z=>?_) (fun b z=>?_) fun _=>hk
   ·grind
   ·by_cases hb:b=a
    ·have z':=(qq hb).symm.trans z
     cases z'
     subst hb
     exact ⟨ha,by rw [List.length_map]; exact hl,vs,_,rv,ha⟩
    ·have z':=(qr hb).symm.trans z
     cases z'
   grind
theorem walk_of {l:W.OpenLaw} {K:Params->W.Frag} {CX:World->CXT} {sp:World->Sp}
  (hn:l.most=some n) (hn2:n<=sizeLine) (hdf:d.params.defaults=[]) (hr:Room k callerA)
  (hY:∀ (w:World) (h:Heap),YP w h->(K w.params).In h)
  (F:∀ (w:World) (mg:Str->Option Value) (fa:Addr) (h:Heap),(K w.params).In h->h.Ns mainGlobals mg->mg d.name=some (.ref fa)->
   ∃ fd:FuncData,(∀ (s:Shared) (u:Value),BindsTo s fd ⟨[u],[]⟩ [(x,u)])/\
     ∀ base:Heap,(K w.params).In base->base.Ns mainGlobals mg->FnOk l.prog w (K w.params) mg base (CX w) k fa fd [x] (sp w))
  (hsp:∀ (w:World) (H:Hp) (a:Addr) (ns:List Int),ns.length<=n->Only H->SqL (K w.params) H a (ns.map V.int)->sp w [.ref a] H (fun v _=>v=.bl true) fun _ _ _=>False)
  (hCX:∀ (w:World) (H:Hp) (s:Shared) (e:Value) (s':Shared),CX w [] H s (fun _ _ _=>False) e s'->False):
  W.WalkO q loose XP YP l.row.toRowW d [] (fun f vs=>PySem.call f vs):=by
 refine Att.attach_call hn hdf fun w s₀ s₁ mg mb fa o pm cd doc a vs ns G Y ho hd hcd hmg hobj hints q9 hg=>?_
 have KX:=hY w _ Y
 obtain ⟨fd,hb,hF⟩:=F w mg fa _ KX G.T.g hmg
 exact ziD KX G.T.g G.T.b G.T.builtins G.T.nolimit hg hobj hints (Nat.le_trans q9 hn2) hr hF hb (fun H hO hS=>hsp w H a ns q9 hO hS) fun H e s'=>hCX w H s₁ e s'
noncomputable def defArgs (s:Stmt):Arguments:=match s with
 | .FunctionDef _ a _ _ _ _ _ _ _ _=>a
 | _=>{ posonlyargs:=[],args:=[],vararg:=none,kwonlyargs:=[],kw_defaults:=[],kwarg:=none,defaults:=[] }
noncomputable def defBody (s:Stmt):List Stmt:=match s with
 | .FunctionDef _ _ b _ _ _ _ _ _ _=>b
 | _=>[]
noncomputable def defScope (s:Stmt):Scope:=match s with
 | .FunctionDef _ _ _ _ _ _ sc _ _ _=>sc
 | _=>{ kind:=.function,names:=[],isGenerator:=false,isCoroutine:=false }
structure Fun (K:W.Frag) (x qual:Str) (st:Stmt) (f:Addr) (fd:FuncData):Prop where
 ex:∃ (oc:Value) (od:Option Addr) (kV doc pm:Value) (an:Option Addr) (cdv ct:Value) (osl:Array (Option Value)),
  fd=W.fnOf x qual (defArgs st) (defBody st) (defScope st) .none kV doc pm an cdv ct/\K.lookup f=some ⟨oc,od,.func fd,osl⟩/\W.codeIn K cdv qual=true
 kp:W.keepIn K (.ref f)=true
section
variable {K:W.Frag}
theorem Fun.binds {st:Stmt} (F:Fun K x qual st f fd)
  (h:∀ (kV doc pm:Value) (an:Option Addr) (cdv ct:Value) (us:List Value),us.length=ps.length->bindArgs (W.fnOf x qual (defArgs st) (defBody st) (defScope st) .none kV doc pm an cdv ct) ⟨us,[]⟩=pure (ps.zip us)):Binds K fd ps []:=by
 obtain ⟨oc,od,kV,doc,pm,an,cdv,ct,osl,rfl,lk,hcd⟩:=F.ex
 exact .all (h kV doc pm an cdv ct)
theorem zmO {st:Stmt} {kV doc pm cdv ct:Value} (l:K.lookup f=some ⟨oc,od,.func (W.fnOf x qual (defArgs st) (defBody st) (defScope st) .none kV doc pm an cdv ct),osl⟩)
  (c:W.codeIn K cdv qual=true) (k:W.keepIn K (.ref f)=true):Fun K x qual st f (W.fnOf x qual (defArgs st) (defBody st) (defScope st) .none kV doc pm an cdv ct):=⟨⟨oc,od,kV,doc,pm,an,cdv,ct,osl,rfl,l,c⟩,k⟩
end
noncomputable def qK (H H':Hp):Prop:=∀ b o,H b=some o->H' b=some o
theorem qK.refl (H:Hp):qK H H:=fun _ _ h=>h
theorem qK.trans (a:qK H H1) (b:qK H1 H2):qK H H2:=fun c o h=>b c o (a c o h)
structure Left (fs:List Addr) (e:Addr) (cls:Value) (dx:Option Addr) (a0:Option Value) (T:Addr) (h h':Heap):Prop where
 new:h.objs.size<=T
 keep:∀ b o,b∉fs->b≠e->h.get? b=some o->h'.get? b=some o
 slot:∀ b o,b∈fs->b≠e->h.get? b=some o->∃ sl,h'.get? b=some { o with slots:=sl }
 rcd:∃ oe vs,h'.get? e=some oe/\oe.cls=cls/\oe.dict=dx/\oe.data=.fields vs/\vs[0]?=a0/\vs[1]?=some (.ref T)
 trc:∃ oT ts,h'.get? T=some oT/\oT.data=.fields ts/\ts[3]?=some .none
theorem Obj.dict_mapFields (o:Obj) (f:Array Value->Array Value):(o.mapFields f).dict=o.dict:=by
 unfold Obj.mapFields; split <;> rfl
theorem zee {base:Heap} {env:Env} {outer:List Env} {L e:Addr} {oe:Obj} {vs:Array Value} {head:Value} {hadNext:Bool} {Q:Unit->Shared->Prop}
  (hfr:A.frames=some (env::outer)) (hl:s.heap.FunFrames base (env::outer)) (hf:env.frame=some L) (he:s.heap.get? e=some oe) (hd:oe.data=.fields vs) (hsz:1 < vs.size)
  (h:∀ h' T,Left (frs (env::outer)) e oe.cls oe.dict vs[0]? T s.heap h'->Q () { s with heap:=h' }):
  wpAny M A (do let a <- frameOf env; let pl <- entryPlaceOf L hadNext; let b <- EntryCells.newEntry head a .none (rawInt L) .none pl; setField (.ref e) 1 b) (fun _ s'=>wpAny M A (setFlight (.ref e) none) Q E s') E s:=by
 have hene:e∉frs (env::outer):=fun hm=>by
  obtain ⟨_,o,ho,hnf⟩:=hl.mem hm
  rw [he] at ho; injection ho with ho; subst ho; exact hnf vs hd
 refine qa (wpAny_frameOf_fun hfr hl hf fun h₁ hs₁=>?_)
 refine qa (wpAny_entryPlaceOf fun pl hpl=>?_)
 unfold EntryCells.newEntry newFields
 refine qa (qw ?_ (hpl.sizeOk5 _ _ _ _ _))
 have he₁:h₁.get? e=some oe:=(hs₁.2.1 e hene).trans he
 have he₂:=qc (h:=h₁) { cls:=.type "traceback",dict:=none,data:=.fields ([head,.ref L,.none,rawInt L,.none]++(if pl.isEmpty then List.replicate 6 Value.none else pl)).toArray } he₁
 refine wpAny_setField he₂ hd hsz ?_
 have hTe:h₁.objs.size≠e:=Nat.ne_of_gt (qf he₁)
 have hd₃:=Obj.data_mapFields hd (·.setIfInBounds 1 (Value.ref h₁.objs.size))
 have he₃:=qu (Obj.mapFields (·.setIfInBounds 1 (Value.ref h₁.objs.size))) he₂ (Obj.isFreed_of_fields hd₃)
 have hT₃:=(qt (h₁.push { cls:=.type "traceback",dict:=none,data:=.fields ([head,.ref L,.none,rawInt L,.none]++(if pl.isEmpty then List.replicate 6 Value.none else pl)).toArray })
  (Obj.mapFields (·.setIfInBounds 1 (Value.ref h₁.objs.size))) (Ne.symm hTe)).trans (qd h₁ rfl)
 unfold setFlight
 refine qa (qv he₃ hd₃ (x:=.ref h₁.objs.size) (by simp [hsz]) ?_)
 rw [qq (show (Value.ref h₁.objs.size !=Value.none)=true from by simp)]
 refine wpAny_setField hT₃ rfl (by simp only [List.size_toArray,List.length_append,List.length_cons,List.length_nil] <;> omega) (h _ h₁.objs.size ?_)
 have keep:∀ b o,b≠e->h₁.get? b=some o->
   (((h₁.push { cls:=.type "traceback",dict:=none,data:=.fields ([head,.ref L,.none,rawInt L,.none]++(if pl.isEmpty then List.replicate 6 Value.none else pl)).toArray }).update e (Obj.mapFields (·.setIfInBounds 1 (Value.ref h₁.objs.size)))).update h₁.objs.size
     (Obj.mapFields (·.setIfInBounds 3 ((none:Option Addr).elim Value.none fun f=>rawInt f)))).get? b=some o:=fun b o hbe hb=>by
  have hbT:h₁.objs.size≠b:=Nat.ne_of_gt (qf hb)
  rw [qt _ _ hbT,qt _ _ (Ne.symm hbe)]
  exact qc _ hb
 refine ⟨by rw [hs₁.1]; exact Nat.le_refl _,fun b o hb hbe q=>keep b o hbe ((hs₁.2.1 b hb).trans q),fun b o _ hbe q=>?_,?_,?_⟩
 ·obtain ⟨sl,hs⟩:=hs₁.2.2 b o q
  exact ⟨sl,keep b _ hbe hs⟩
 ·refine ⟨_,_,?_,Obj.cls_mapFields _ _,Obj.dict_mapFields _ _,hd₃,by rw [Array.getElem?_setIfInBounds_ne (by decide)],by simp [hsz]⟩
  rw [qt _ _ hTe]; exact he₃
 ·exact ⟨_,_,qu _ hT₃ (Obj.isFreed_of_fields (Obj.data_mapFields rfl _)),Obj.data_mapFields rfl _,by first | (simp; done) | (rcases hpl with rfl | ⟨_,_,_,_,_,_,_,rfl⟩ <;> simp)⟩
theorem qY.there (x:qY P w H h a o):∃ u,h.get? a=some u:=by
 cases o with
 | lst xs=>obtain ⟨_,_,_,_,e⟩:=x; exact ⟨_,e⟩
 | tup xs=>obtain ⟨_,_,_,u,e,_⟩:=x; exact ⟨_,e⟩
 | dK q5=>obtain ⟨_,_,_,_,o,_,_,e,_⟩:=x; exact ⟨_,e⟩
 | dT q5=>obtain ⟨_,_,_,_,o,_,_,e,_⟩:=x; exact ⟨_,e⟩
 | set vs=>
   rcases x with ⟨_,⟨_,e⟩ | ⟨_,_,_,_,_,_,_,e,_⟩ | ⟨_,_,_,_,_,_,_,_,e,_⟩⟩
   ·exact ⟨_,e⟩
   ·exact ⟨_,e⟩
   ·exact ⟨_,e⟩
 | ins C dx fs=>obtain ⟨_,_,_,e,_⟩:=x; exact ⟨_,e⟩
 | own y=>exact x
 | xd fs=>obtain ⟨_,⟨_,_,_,e,_⟩,_⟩:=x; exact ⟨_,e⟩
 | rng lo hi=>obtain ⟨_,_,_,e⟩:=x; exact ⟨_,e⟩
 | frz ob u=>exact ⟨_,x.1⟩
 | tbl ps=>exact ⟨_,(show h.get? a=some _ from x)⟩
 | met f y=>exact ⟨_,(show h.get? a=some _ from x)⟩
 | ext φ=>exact x.2.1
noncomputable def Fly (X:Cx) (qZ:List (Addr×Obj)) (H:Hp) (h:Heap) (e:Addr) (cls:Value) (dx:Option Addr):Prop:=FpOk X qZ H e/\∃ oe vs,h.get? e=some oe/\oe.cls=cls/\oe.dict=dx/\oe.data=.fields vs/\
 (vs[1]?=some .none\/∃ T oT ts,vs[1]?=some (.ref T)/\T≠e/\FpOk X qZ H T/\h.get? T=some oT/\oT.data=.fields ts/\ts[3]?=some .none)
theorem zdi {ch:List Addr} {h':Heap} (I:Inv X qZ σ H s) (hch:∀ b∈ch,FpOk X qZ H b) (keep:∀ b o,b∉frs X.stack->b∉ch->s.heap.get? b=some o->h'.get? b=some o) (slot:∀ b o,b∈frs X.stack->b∉ch->s.heap.get? b=some o->∃ sl,h'.get? b=some { o with slots:=sl }):
  Inv X qZ σ H { s with heap:=h' }:=by
 have hx:∀ b u,H b=some u->b∉frs X.stack/\b∉ch:=fun b u z=>⟨fun q=>(by rw [I.stkFree b q] at z; cases z),fun q=>(by rw [(hch b q).1] at z; cases z)⟩
 refine I.call (ch:=ch) (t':=s.toks) (d':=s.drawn) (g':=s.gens) ⟨fun b o q _ n1 n2=>keep b o n1 n2 q,fun b o q _ n1 n2=>slot b o n1 n2 q,fun _ _ _ z _=>z,fun b o q n=>?_,fun _ _ z=>z,fun _ _ _ z=>z,fun b ps z=>⟨#[],by rw [z]; simp⟩⟩ (fun a o q=>?_) I.bare fun b hb=>?_
 ·by_cases hb:b∈frs X.stack
  ·obtain ⟨sl,z⟩:=slot b o hb n q
   exact ⟨_,z⟩
  ·exact ⟨o,keep b o hb n q⟩
 ·refine (I.hok a o q).stay (fun b u hb z=>?_) (fun _ z=>z) fun _ _ z=>z
  rcases hb with rfl | hb
  ·exact keep _ _ (hx _ _ q).1 (hx _ _ q).2 z
  ·exact keep _ _ (hx _ _ hb).1 (hx _ _ hb).2 z
 ·obtain ⟨_,f1,_,f3,f4,f5⟩:=hch b hb
  exact ⟨f3,f1,f4,f5⟩
theorem zfx {Q:Unit->Shared->Prop} (hst:X.stack=X.env::X.outer) (hf:X.env.frame=some X.env.locals) (I:Inv X qZ σ H s) (F:Fly X qZ H s.heap e cls dx)
  (k:∀ h',Inv X qZ σ H { s with heap:=h' }->Fly X qZ H h' e cls dx->Q () { s with heap:=h' }):wpAny (model X.prog X.w) X.A (noteFrame (.ref e) X.env) (fun _ s'=>wpAny (model X.prog X.w) X.A (setFlight (.ref e) none) Q E s') E s:=by
 obtain ⟨fe,oe,vs,he,rfl,rfl,hd,ht⟩:=F
 have hfr:X.A.frames=some (X.env::X.outer):=hst ▸ I.ok.frames
 have hl:s.heap.FunFrames X.base (X.env::X.outer):=hst ▸ I.stack
 unfold noteFrame
 simp only [hf]
 rcases ht with h1 | ⟨T,oT,ts,h1,hTe,fT,hT,hdT,h3⟩
 ·refine qa (qv he hd h1 ?_)
  rw [qr (by decide)]
  refine zee hfr hl hf he hd (Array.getElem?_eq_some_iff.mp h1).1 fun h' T' L=>?_
  rw [<- hst] at L
  have I':Inv X qZ σ H { s with heap:=h' }:=zdi (ch:=[e]) I (fun b hb=>by rw [List.mem_singleton.mp hb]; exact fe) (fun b o n1 n2 q=>L.keep b o n1 (fun z=>n2 (by simp [z])) q) fun b o n1 n2 q=>L.slot b o n1 (fun z=>n2 (by simp [z])) q
  obtain ⟨oe',vs',r1,r2,rd,r3,_,r5⟩:=L.rcd
  obtain ⟨oT,ts,t1,t2,t3⟩:=L.trc
  exact k h' I' ⟨fe,oe',vs',r1,r2,rd,r3,.inr ⟨T',oT,ts,r5,fun z=>absurd (qf he) (by have:=L.new; rw [z] at this; lia),I.fpOk L.new (I.hok.fresh L.new),t1,t2,t3⟩⟩
 ·refine qa (qv he hd h1 ?_)
  rw [qq (show (Value.ref T !=Value.none)=true from by simp)]
  refine qa (qv hT hdT h3 ?_)
  rw [qr (show ¬ ((Value.none == rawInt X.env.locals)=true) from by simp [rawInt])]
  refine qa (wpAny_setField hT hdT (Array.getElem?_eq_some_iff.mp h3).1 ?_)
  have other:∀ b,b≠T->(s.heap.update T (Obj.mapFields (·.setIfInBounds 3 Value.none))).get? b=s.heap.get? b:=fun b hb=>qt _ _ (Ne.symm hb)
  have noRecord:∀ b o,s.heap.get? b=some o->(∀ vs,o.data≠.fields vs)->b≠T:=fun b o hb hnf q=>by
   rw [q,hT] at hb; injection hb with hb; subst hb; exact hnf ts hdT
  refine zee hfr (hl.of_keeps fun b o hb hnf=>⟨o,(other b (noRecord b o hb hnf)).trans hb,rfl⟩) hf ((other e (Ne.symm hTe)).trans he) hd (Array.getElem?_eq_some_iff.mp h1).1 fun h' T' L=>?_
  rw [<- hst] at L
  have hsz:(s.heap.update T (Obj.mapFields (·.setIfInBounds 3 Value.none))).objs.size=s.heap.objs.size:=Heap.size_update ..
  have I':Inv X qZ σ H { s with heap:=h' }:=zdi (ch:=[e,T]) I (fun b hb=>by
   rcases List.mem_cons.mp hb with rfl | hb
   ·exact fe
   ·rw [List.mem_singleton.mp hb]; exact fT) (fun b o n1 n2 q=>L.keep b o n1 (fun z=>n2 (by simp [z])) ((other b fun z=>n2 (by simp [z])).trans q)) fun b o n1 n2 q=>L.slot b o n1 (fun z=>n2 (by simp [z])) ((other b fun z=>n2 (by simp [z])).trans q)
  obtain ⟨oe',vs',r1,r2,rd,r3,_,r5⟩:=L.rcd
  obtain ⟨oT,ts,t1,t2,t3⟩:=L.trc
  have hn:s.heap.objs.size<=T':=hsz ▸ L.new
  exact k h' I' ⟨fe,oe',vs',r1,r2,rd,r3,.inr ⟨T',oT,ts,r5,fun z=>absurd (qf he) (by rw [z] at hn; lia),I.fpOk hn (I.hok.fresh hn),t1,t2,t3⟩⟩
theorem zh7 {Q:Unit->Shared->Prop} (hst:X.stack=X.env::X.outer) (hf:X.env.frame=some X.env.locals) (I:Inv X qZ σ H s) (F:Fly X qZ H s.heap e cls dx)
  (k:∀ h',Inv X qZ σ H { s with heap:=h' }->Fly X qZ H h' e cls dx->Q () { s with heap:=h' }):wpAny (model X.prog X.w) X.A (leaving X.env (.ref e)) Q E s:=by
 unfold leaving
 exact qa (zfx hst hf I F k)
theorem zfZ {Q:Unit->Shared->Prop} (I:Inv X qZ σ H s) (F:Fly X qZ H s.heap e cls dx)
  (k:∀ h',Inv X qZ σ H { s with heap:=h' }->Fly X qZ H h' e cls dx->Q () { s with heap:=h' }):wpAny (model X.prog X.w) A (setFlight (.ref e) none) Q E s:=by
 obtain ⟨fe,oe,vs,he,rfl,rfl,hd,ht⟩:=F
 unfold setFlight
 rcases ht with h1 | ⟨T,oT,ts,h1,hTe,fT,hT,hdT,h3⟩
 ·refine qa (qv he hd h1 ?_)
  rw [qr (by decide)]
  exact qb (k s.heap I ⟨fe,oe,vs,he,rfl,rfl,hd,.inl h1⟩)
 ·refine qa (qv he hd h1 ?_)
  rw [qq (show (Value.ref T !=Value.none)=true from by simp)]
  have hsz:=(Array.getElem?_eq_some_iff.mp h3).1
  refine wpAny_setField hT hdT hsz ?_
  have other:∀ b,b≠T->(s.heap.update T (Obj.mapFields (·.setIfInBounds 3 ((none:Option Addr).elim Value.none fun f=>rawInt f)))).get? b=s.heap.get? b:=fun b hb=>qt _ _ (Ne.symm hb)
  refine k _ (zdi (ch:=[T]) I (fun b hb=>by rw [List.mem_singleton.mp hb]; exact fT) (fun b o n1 n2 q=>(other b fun z=>n2 (by simp [z])).trans q) fun b o n1 n2 q=>⟨o.slots,(other b fun z=>n2 (by simp [z])).trans q⟩)
   ⟨fe,oe,vs,(other e (Ne.symm hTe)).trans he,rfl,rfl,hd,.inr ⟨T,_,_,h1,hTe,fT,qu _ hT (Obj.isFreed_of_fields (Obj.data_mapFields hdT _)),Obj.data_mapFields hdT _,by simp [hsz]⟩⟩
theorem Inv.fpNew (I:Inv X qZ σ H s) (hb:s.heap.get? b=none) (hn:H' b=none):FpOk X qZ H' b:=by
 have no:∀ o,s.heap.get? b=some o->False:=fun o z=>by rw [hb] at z; cases z
 refine ⟨hn,fun z=>?_,fun z=>?_,?_,fun x c q z=>?_,fun p hp z=>?_⟩
 ·obtain ⟨m,⟨o,_,_,ho,_⟩,_⟩:=I.loc
  rw [<- z] at ho
  exact no o ho
 ·obtain ⟨_,o,ho,_⟩:=I.funs.mem z
  exact no o ho
 ·by_cases hx:b∈X.ex
  ·exact .inl hx
  ·refine .inr ?_
   cases q:X.s₀.heap.get? b with
   | none=>rfl
   | some o=>
     obtain ⟨o',z⟩:=I.base.there b o q hx
     exact (no o' z).elim
 ·obtain ⟨v,o,ho,_⟩:=I.cell x c q
  rw [z] at ho
  exact no o ho
 ·have:=(I.pin p hp).1
  rw [z] at this
  exact no _ this
theorem FpOk.few (f:FpOk X qZ H b):FpOk X [] H b:=⟨f.1,f.2.1,f.2.2.1,f.2.2.2.1,f.2.2.2.2.1,fun p hp=>f.2.2.2.2.2 p (List.mem_append_left _ (by simpa using hp))⟩
theorem Fly.few (F:Fly X qZ H h e cls dx):Fly X [] H h e cls dx:=by
 obtain ⟨f,oe,vs,h1,h2,hd,h3,h4⟩:=F
 refine ⟨f.few,oe,vs,h1,h2,hd,h3,h4.imp id ?_⟩
 rintro ⟨T,oT,ts,a1,a2,a3,a4⟩
 exact ⟨T,oT,ts,a1,a2,a3.few,a4⟩
theorem Inv.few (I:Inv X qZ σ H s):Inv X [] σ H s:=I.pins_of fun p hp=>I.pin p (List.mem_append_left _ (by simpa using hp))
noncomputable def CXe (P:Program) (w:World):CXT:=fun outer H s E e s'=>∃ a cls dx H',e=.ref a/\s'.os=s.os/\AllBare s'.gens/\Un (frs outer) [] H H' s.heap s'.heap/\HOk P w H' s'.heap/\E cls dx H'/\s.heap.get? a=none/\H' a=none/\
 ∃ oe vs,s'.heap.get? a=some oe/\oe.cls=cls/\oe.dict=dx/\oe.data=.fields vs/\(vs[1]?=some .none\/∃ T oT ts,vs[1]?=some (.ref T)/\T≠a/\s.heap.get? T=none/\H' T=none/\s'.heap.get? T=some oT/\oT.data=.fields ts/\ts[3]?=some .none)
section
variable {K:W.Frag}
theorem ziQ (I:Inv (cxOf (CXe P w) P w K mg base N qual scope f cd A outer s H E) [] σ H' s') (F:Fly (cxOf (CXe P w) P w K mg base N qual scope f cd A outer s H E) [] H' s'.heap e cls dx) (q:E cls dx H'):
  (cxOf (CXe P w) P w K mg base N qual scope f cd A outer s H E).xe (.ref e) s':=by
 refine zh7 (X:=cxOf (CXe P w) P w K mg base N qual scope f cd A outer s H E) rfl rfl I F fun h' I' F'=>?_
 obtain ⟨fe,oe,vs,h1,h2,hd,h3,h4⟩:=F'
 have nw:∀ {b},FpOk (cxOf (CXe P w) P w K mg base N qual scope f cd A outer s H E) [] H' b->s.heap.get? b=none:=fun {b} z=>z.2.2.2.1.resolve_left fun z=>by cases z
 refine ⟨e,cls,dx,H',rfl,I'.os,I'.bare,I'.base,I'.hok,q,nw fe,fe.1,oe,vs,h1,h2,hd,h3,h4.imp id ?_⟩
 rintro ⟨T,oT,ts,a1,a2,a3,a4⟩
 exact ⟨T,oT,ts,a1,a2,nw a3,a3.1,a4⟩
end
theorem zjZ (I:Inv X qZ σ H s) (h:CXe X.prog X.w X.stack H s E u s'):∃ a cls dx H',u=.ref a/\Inv X qZ σ H' s'/\Fly X qZ H' s'.heap a cls dx/\E cls dx H':=by
 obtain ⟨a,cls,dx,H',rfl,ho,hg,un,hok,q,n1,n2,oe,vs,h1,h2,hd,h3,h4⟩:=h
 refine ⟨a,cls,dx,H',rfl,I.call' ho un hok hg (fun b z=>absurd z (by simp)),⟨I.fpNew n1 n2,oe,vs,h1,h2,hd,h3,h4.imp id ?_⟩,q⟩
 rintro ⟨T,oT,ts,a1,a2,a3,a4,a5⟩
 exact ⟨T,oT,ts,a1,a2,I.fpNew a3 a4,a5⟩
noncomputable def XW (X:Cx) (σ:St):XK:=fun cls dx H'=>∀ (a:Addr) (s':Shared),Inv X [] σ H' s'->Fly X [] H' s'.heap a cls dx->X.xe (.ref a) s'
noncomputable def tCallX (X:Cx) (sp:Sp) (t:TA):TE:=fun σ H Q=>t σ H fun vs H1=>sp vs H1 Q (XW X σ)
theorem ziM (F:FnOk X.prog X.w X.K X.mg X.base (CXe X.prog X.w) k f fd ps sp) (hr:Room k X.A) (hg:Gl X x) (hm:X.mg x=some (.ref f)) (hk:W.keepIn X.K (.ref f)=true) (hb:Binds X.K fd ps [])
  (ha:PA X (e::es) t) (hdb:(x == ("__debug__":Str))=false:=by decide) (he:starEach (e::es) X.env=(false,eval e X.env)::starEach es X.env:=by rfl) (hpl:(backTo pos (starEach es X.env)).any (·.1)=false:=by rfl):
  PE X (.Call (.Name x p) (e::es) [] pos) (tCallX X sp t):=by
 intro qZ s σ H Q I h
 refine wpAny_Call_Name_kw (zcF I hg hm ?_ hdb)
 refine W.callWith_K (h₀:=X.base) I.ok.mod.kin hk (thn (ha pos qZ s σ H _ I h) fun us s1 zq=>?_) he hpl
 obtain ⟨vs,H1,I1,r,q⟩:=zq
 refine ⟨I1.kIn,?_⟩
 have hl:(us++[]).length=ps.length:=by rw [List.append_nil,<- r.length]; exact F.len _ _ _ _ q
 refine wpAny_call (codeAny_mono (F.run X.A X.stack s1 H1 ⟨us,[]⟩ us vs Q (XW X σ) hr I1.env0 (by have:=hb s1 us I1.kIn hl; rwa [List.append_nil] at this) r q) fun r s' hq=>?_)
 cases r with
 | error e=>
   obtain ⟨a,cls,dx,H',rfl,I',F',q'⟩:=zjZ I1 hq
   exact q' a s' I'.few F'.few
 | ok fl=>
   cases fl with
   | ret u=>exact I1.after hq
   | next=>exact False.elim hq
   | brk=>exact False.elim hq
   | cont=>exact False.elim hq
noncomputable def tRaise (X:Cx) (C:Addr):TS:=fun _ σ H=>XW X σ (.ref C) none H
theorem zi8 (O:OwnCls x C bm newId X.mg X.base) (FB:ExcBaseFacts B newId initId bm) (hc:X.calm=true) (hg:Gl X x) (hd:(x == ("__debug__":Str))=false:=by decide):
  PS X (.Raise (some (.Call (.Name x np) [] [] cpos)) none pos) (tRaise X C):=by
 intro qZ s σ H D I h
 obtain ⟨tl,N,nm,q,bs,hdct,sn,sub,ab,col,dd,k0,k1,k2,k3,k5,mN,hC,hN,hni,T⟩:=(O.keeps fun b o z=>(I.bs b o z).1).obj
 refine wpAny_Raise_call_subT (C:=C) (nm:=nm) (q:=q) (N:=N) (bs:=bs) (bm:=tl) (hdct:=hdct) (sn:=sn) (sub:=sub) (ab:=ab) (col:=col) (dd:=dd) (k0:=k0) (k1:=k1) (k2:=k2) (k3:=k3) (k5:=k5)
  FB (mN:=mN) (T.hasType FB.hasBase) (I.ok.hd hc) rfl hni (zcF I hg O.bound ⟨rfl,?_⟩ hd)
 refine evalArgs_empty ⟨rfl,Nat.zero_le _,hC,hN,T,fun h' e m=>?_⟩
 have I':Inv X qZ σ H { s with heap:=h' }:=I.kept (t':=s.toks) m.keeps
 obtain ⟨t,he,_,_⟩:=m.there
 have hn:H e=none:=by
  cases z:H e with
  | none=>rfl
  | some o=>obtain ⟨v,z⟩:=qY.there (I.hok e o z); rw [m.new] at z; cases z
 exact h e _ I'.few (Fly.few ⟨I.fpNew m.new hn,_,_,he,rfl,rfl,rfl,.inl rfl⟩)
section
variable {K:W.Frag}
theorem Fun.okX {st:Stmt} (F:Fun K x qual st f fd) (S:FnScope N ps (defScope st)) (len:∀ vs H Q E,sp vs H Q E->vs.length=ps.length)
  (hbody:∀ (cdv:Value) (A:Around) (outer:List Env) (s:Shared) (H:Hp) (vs:List V) (Q:VK) (E:XK),Room k (A.deeper (envOfC qual (defScope st) s.heap.objs.size f cdv))->sp vs H Q E->
   ∃ t,PSs (cxOf (CXe P w) P w K mg base N qual (defScope st) f cdv A outer s H E) (defBody st) t/\t { nx:=fun _ H'=>Q .non H',rt:=Q } (start N vs) H):FnOk P w K mg base (CXe P w) (k + 1) f fd ps sp:=by
 obtain ⟨oc,od,kV,doc,pm,an,cdv,ct,osl,rfl,lk,hcd⟩:=F.ex
 exact zpM lk hcd S len fun A outer s H vs Q E hr hsp=>hbody cdv A outer s H vs Q E hr hsp
end
end L2
namespace FL
open PySem
inductive D where
 | non
 | bl (b:Bool)
 | int (i:Int)
 | str (l:List Nat)
 | tup (l:List D)
 | lst (l:List D)
 | dct (t:Bool) (ks vs:List D)
 | set (l:List D)
 | exc (c:List Nat) (fs:List (List Nat)) (vs:List D)
 deriving Inhabited
inductive S where
 | sh (d:D)
 | lst (l:List S)
 | dct (t:Bool) (ks:List D) (vs:List S)
 | set (l:List D)
 deriving Inhabited
mutual
noncomputable def S.toD:S->D
 | .sh d=>d
 | .lst l=>.lst (S.toDs l)
 | .dct t ks vs=>.dct t ks (S.toDs vs)
 | .set l=>.set l
noncomputable def S.toDs:List S->List D
 | []=>[]
 | s::r=>S.toD s::S.toDs r
end
@[simp] theorem S.toDs_map:∀ l:List S,S.toDs l=l.map S.toD
  | []=>rfl
  | s::r=>by rw [S.toDs,S.toDs_map r,List.map_cons]
@[simp] theorem S.toD_sh (d:D):(S.sh d).toD=d:=rfl
@[simp] theorem S.toD_lst (l:List S):(S.lst l).toD=.lst (l.map S.toD):=by rw [<- S.toDs_map]; rfl
@[simp] theorem S.toD_dct (t:Bool) (ks:List D) (l:List S):(S.dct t ks l).toD=.dct t ks (l.map S.toD):=by rw [<- S.toDs_map]; rfl
@[simp] theorem S.toD_set (l:List D):(S.set l).toD=.set l:=rfl
noncomputable def S.isSh:S->Bool
 | .sh _=>true
 | _=>false
noncomputable def S.flat:S->Bool
 | .sh _=>true
 | .lst l=>l.all S.isSh
 | .dct _ _ vs=>vs.all S.isSh
 | .set _=>false
inductive R where
 | v (s:S)
 | loc (i:Nat)
noncomputable abbrev Env:=List (Option S)
noncomputable abbrev WQ:=R->Env->Prop
noncomputable abbrev WX:=D->Env->Prop
noncomputable def NX:WX:=fun _ _=>False
noncomputable abbrev WE:=Env->WQ->WX->Prop
noncomputable abbrev WT:=Env->(Bool->Env->Prop)->WX->Prop
noncomputable abbrev WA:=Env->(List R->Env->Prop)->WX->Prop
structure Ends where
 nx:Env->Prop
 rt:WQ
 bk:Env->Prop
 ct:Env->Prop
 ex:WX
noncomputable abbrev WS:=Ends->Env->Prop
noncomputable def slot (U:Env) (i:Nat):Option S:=match U,i with
 | [],_=>none
 | s::_,0=>s
 | _::r,i + 1=>slot r i
@[simp] theorem zmc (s:Option S) (r:Env):slot (s::r) 0=s:=rfl
@[simp] theorem zmo (s:Option S) (r:Env) (i:Nat):slot (s::r) (i + 1)=slot r i:=rfl
noncomputable def view (r:R) (U:Env):Option D:=match r with
 | .v s=>some s.toD
 | .loc i=>(slot U i).map S.toD
noncomputable def qV (r:R) (U:Env):Option D:=match r with
 | .v s=>some s.toD
 | .loc i=>match slot U i with
   | some s=>if s.flat then some s.toD else none
   | none=>none
noncomputable def give (r:R) (U:Env):Option (S×Env):=match r with
 | .v s=>some (s,U)
 | .loc i=>match slot U i with
   | some s=>some (.sh s.toD,U.set i (some (.sh s.toD)))
   | none=>none
noncomputable def giveAll:List R->Env->Option (List S×Env)
 | [],U=>some ([],U)
 | r::rs,U=>match give r U with
   | some (s,U1)=>match giveAll rs U1 with
     | some (ss,U2)=>some (s::ss,U2)
     | none=>none
   | none=>none
noncomputable def ixN (n:Nat) (i:Int):Option Nat:=if 0<=i then (if i < n then some i.toNat else none) else if -(n:Int)<=i then some (i + n).toNat else none
noncomputable def atI {α:Type} (xs:List α) (i:Int):Option α:=(ixN xs.length i).bind fun j=>xs[j]?
noncomputable def sIx (n d:Nat):Option Int->Nat
 | none=>d
 | some i=>if i < 0 then (i + n).toNat else min i.toNat n
noncomputable def cutL {α:Type} (xs:List α) (lo hi:Option Int):List α:=(xs.drop (sIx xs.length 0 lo)).take (sIx xs.length xs.length hi - sIx xs.length 0 lo)
noncomputable def big:Nat:=1000000
noncomputable def qJ {α:Type} (o:Option α) (k:α->Prop):Prop:=match o with
 | some a=>k a
 | none=>False
@[simp] theorem zcs {α:Type} (a:α) (k:α->Prop):qJ (some a) k=k a:=rfl
@[simp] theorem zlp {α:Type} (k:α->Prop):qJ (none:Option α) k=False:=rfl
@[simp] theorem zne {α:Type} {c:Prop} [Decidable c] (a:α) (k:α->Prop):qJ (if c then some a else none) k=(c/\k a):=by
  by_cases h:c <;> simp [h]
noncomputable def qF (i:Nat):WE:=fun U Q _=>match slot U i with
 | some (.sh d)=>Q (.v (.sh d)) U
 | some _=>Q (.loc i) U
 | none=>False
noncomputable def wC (d:D):WE:=fun U Q _=>Q (.v (.sh d)) U
noncomputable def qQ (op:D->D->Option S) (a b:WE):WE:=fun U Q E=>a U (fun x U1=>b U1 (fun y U2=>
 qJ (qV x U2) fun p=>qJ (qV y U2) fun q=>qJ (op p q) fun s=>Q (.v s) U2) E) E
noncomputable def wUn (op:D->Option S) (a:WE):WE:=fun U Q E=>a U (fun x U1=>qJ (qV x U1) fun p=>qJ (op p) fun s=>Q (.v s) U1) E
noncomputable def oAdd:D->D->Option S
 | .int i,.int j=>some (.sh (.int (i + j)))
 | .str x,.str y=>if x.length + y.length<=big then some (.sh (.str (x++y))) else none
 | .lst x,.lst y=>if x.length + y.length<=big then some (.lst ((x++y).map .sh)) else none
 | .tup x,.tup y=>if x.length + y.length<=big then some (.sh (.tup (x++y))) else none
 | _,_=>none
noncomputable def oSub:D->D->Option S
 | .int i,.int j=>some (.sh (.int (i - j)))
 | _,_=>none
noncomputable def mulOk (i j:Int):Bool:=(decide (-(2 ^ 64) < i) && decide (i < 2 ^ 64)) || (decide (-(2 ^ 64) < j) && decide (j < 2 ^ 64))
noncomputable def oMul:D->D->Option S
 | .int i,.int j=>if mulOk i j then some (.sh (.int (i * j))) else none
 | _,_=>none
noncomputable def oFdiv:D->D->Option S
 | .int i,.int j=>if 0 < j/\j < 18446744073709551616 then some (.sh (.int (i / j))) else none
 | _,_=>none
noncomputable def oMod:D->D->Option S
 | .int i,.int j=>if 0 < j then some (.sh (.int (i % j))) else none
 | _,_=>none
noncomputable def oPow:D->D->Option S
 | .int i,.int j=>if 0<=j/\j<=1000/\i.natAbs < 2 ^ 64 then some (.sh (.int (i ^ j.toNat))) else none
 | _,_=>none
noncomputable def oNeg:D->Option S
 | .int i=>some (.sh (.int (-i)))
 | _=>none
mutual
noncomputable def clash:D->D->Bool
 | .tup l,.tup m=>clashs l m
 | .lst l,.lst m=>clashs l m
 | .int _,.int _=>false
 | .int _,.str _=>false
 | .int _,.non=>false
 | .str _,.int _=>false
 | .str _,.str _=>false
 | .str _,.non=>false
 | .str _,.bl _=>false
 | .bl _,.bl _=>false
 | .bl _,.str _=>false
 | .bl _,.non=>false
 | .non,.int _=>false
 | .non,.str _=>false
 | .non,.bl _=>false
 | .non,.non=>false
 | _,_=>true
noncomputable def clashs:List D->List D->Bool
 | a::l,b::m=>clash a b || clashs l m
 | _,_=>false
end
mutual
noncomputable def dep:D->Nat
 | .tup l=>deps l + 1
 | .lst l=>deps l + 1
 | _=>0
noncomputable def deps:List D->Nat
 | []=>0
 | a::l=>max (dep a) (deps l)
end
open Classical in
noncomputable def cEq (a b:D):Option Bool:=if clash a b || decide (30 < dep a) then none else some (decide (a=b))
noncomputable def cNe (a b:D):Option Bool:=(cEq a b).map (!·)
noncomputable def ltD:D->D->Option Bool
 | .int i,.int j=>some (decide (i < j))
 | .str x,.str y=>some (decide (x < y))
 | _,_=>none
noncomputable def cLt (a b:D):Option Bool:=ltD a b
noncomputable def cGt (a b:D):Option Bool:=ltD b a
noncomputable def cLe:D->D->Option Bool
 | .int i,.int j=>some (decide (i<=j))
 | .str x,.str y=>some (!decide (y < x))
 | _,_=>none
noncomputable def cGe:D->D->Option Bool
 | .int i,.int j=>some (decide (j<=i))
 | .str x,.str y=>some (!decide (x < y))
 | _,_=>none
noncomputable def isKey1:D->Bool
 | .int _=>true
 | .str _=>true
 | _=>false
noncomputable def isKey:Bool->D->Bool
 | true,.tup l=>l.all isKey1
 | false,d=>isKey1 d
 | _,_=>false
open Classical in
noncomputable def cIn (a:D):D->Option Bool
 | .lst l=>if l.any (fun x=>clash x a || decide (30 < dep x)) then none else some (decide (a∈l))
 | .tup l=>if l.any (fun x=>clash x a || decide (30 < dep x)) then none else some (decide (a∈l))
 | .dct t ks _=>if isKey t a then some (decide (a∈ks)) else none
 | _=>none
noncomputable def truth:D->Option Bool
 | .non=>some false
 | .bl b=>some b
 | .int i=>some (decide (i≠0))
 | .str l=>some (!l.isEmpty)
 | .tup l=>some (!l.isEmpty)
 | .lst l=>some (!l.isEmpty)
 | _=>none
noncomputable def wCmp (op:D->D->Option Bool) (a b:WE):WT:=fun U Q E=>a U (fun x U1=>b U1 (fun y U2=>
 qJ (view x U2) fun p=>qJ (view y U2) fun q=>qJ (op p q) fun c=>Q c U2) E) E
noncomputable def wTest (a:WE):WT:=fun U Q E=>a U (fun x U1=>qJ (view x U1) fun p=>qJ (truth p) fun c=>Q c U1) E
noncomputable def wtAnd (a b:WT):WT:=fun U Q E=>a U (fun c U1=>if c then b U1 Q E else Q false U1) E
noncomputable def wtOr (a b:WT):WT:=fun U Q E=>a U (fun c U1=>if c then Q true U1 else b U1 Q E) E
noncomputable def wtNot (a:WT):WT:=fun U Q E=>a U (fun c U1=>Q (!c) U1) E
noncomputable def wOfT (t:WT):WE:=fun U Q E=>t U (fun c U1=>Q (.v (.sh (.bl c))) U1) E
noncomputable def wIfE (c:WT) (a b:WE):WE:=fun U Q E=>c U (fun k U1=>if k then a U1 Q E else b U1 Q E) E
noncomputable def wAndV (a b:WE):WE:=fun U Q E=>a U (fun x U1=>match view x U1 with
 | some (.bl c)=>if c then b U1 Q E else Q (.v (.sh (.bl false))) U1
 | _=>False) E
noncomputable def qH:WA:=fun U Q _=>Q [] U
noncomputable def qG (a:WE) (b:WA):WA:=fun U Q E=>a U (fun r U1=>b U1 (fun rs U2=>Q (r::rs) U2) E) E
noncomputable def wTup (a:WA):WE:=fun U Q E=>a U (fun rs U1=>qJ (if rs.length<=big then giveAll rs U1 else none) fun p=>Q (.v (.sh (.tup (p.1.map S.toD)))) p.2) E
noncomputable def wLst (a:WA):WE:=fun U Q E=>a U (fun rs U1=>qJ (if rs.length<=big then giveAll rs U1 else none) fun p=>Q (.v (.lst p.1)) p.2) E
open Classical in
noncomputable def lk {α:Type}:List D->List α->D->Option α
 | k'::ks,v::vs,k=>if k'=k then some v else lk ks vs k
 | _,_,_=>none
noncomputable def ixS:S->D->Option S
 | .sh (.tup l),.int i=>(atI l i).map .sh
 | .sh (.lst l),.int i=>(atI l i).map .sh
 | .sh (.str l),.int i=>(atI l i).map fun c=>.sh (.str [c])
 | .lst l,.int i=>atI l i
 | _,_=>none
noncomputable def wIx (a b:WE):WE:=fun U Q E=>a U (fun x U1=>b U1 (fun y U2=>qJ (view y U2) fun q=>match x with
 | .v s=>qJ (ixS s q) fun t=>Q (.v t) U2
 | .loc i=>match slot U2 i with
   | some s=>match ixS s q with
     | some (.sh d)=>Q (.v (.sh d)) U2
     | _=>False
   | none=>False) E) E
noncomputable def wPart (a:Option WE):Env->(Option Int->Env->Prop)->WX->Prop:=match a with
 | none=>fun U Q _=>Q none U
 | some a=>fun U Q E=>a U (fun x U1=>match view x U1 with
   | some (.int i)=>Q (some i) U1
   | _=>False) E
noncomputable def slD (d:D) (lo hi:Option Int):Option S:=match d with
 | .str l=>some (.sh (.str (cutL l lo hi)))
 | .tup l=>some (.sh (.tup (cutL l lo hi)))
 | .lst l=>some (.lst ((cutL l lo hi).map .sh))
 | _=>none
noncomputable def wSl (a:WE) (lo hi:Option WE):WE:=fun U Q E=>a U (fun x U1=>wPart lo U1 (fun l U2=>wPart hi U2 (fun h U3=>
 qJ (qV x U3) fun d=>qJ (slD d l h) fun s=>Q (.v s) U3) E) E) E
noncomputable abbrev WF:=List S->(S->List S->Prop)->(D->List S->Prop)->Prop
noncomputable def prep:List Bool->List R->Env->Option (List S×Env)
 | _,[],U=>some ([],U)
 | ms,.v s::rs,U=>match prep ms.tail rs U with
   | some (ss,U1)=>some (s::ss,U1)
   | none=>none
 | ms,.loc i::rs,U=>match slot U i with
   | some s=>if ms.headD false then (match prep ms.tail rs (U.set i none) with
     | some (ss,U1)=>some (s::ss,U1)
     | none=>none)
     else (match prep ms.tail rs (U.set i (some (.sh s.toD))) with
      | some (ss,U1)=>some (.sh s.toD::ss,U1)
      | none=>none)
   | none=>none
noncomputable def back:List Bool->List R->List S->Env->Env
 | ms,.v _::rs,_::ss,U=>back ms.tail rs ss U
 | ms,.loc i::rs,s::ss,U=>if ms.headD false then back ms.tail rs ss (U.set i (some s)) else back ms.tail rs ss U
 | _,_,_,U=>U
noncomputable def qS (f:WF) (ms:List Bool) (a:WA):WE:=fun U Q E=>a U (fun rs U1=>qJ (prep ms rs U1) fun p=>
 f p.1 (fun s ss=>Q (.v s) (back ms rs ss p.2)) (fun x ss=>E x (back ms rs ss p.2))) E
noncomputable def wB (f:List D->Option S) (a:WA):WE:=fun U Q E=>a U (fun rs U1=>qJ (rs.mapM fun r=>qV r U1) fun ds=>qJ (f ds) fun s=>Q (.v s) U1) E
noncomputable def wAppend (j:Nat) (e:WE):WE:=fun U Q E=>match slot U j with
 | some (.lst _)=>e U (fun r U2=>qJ (give r U2) fun p=>match slot p.2 j with
   | some (.lst l)=>l.length < big/\Q (.v (.sh .non)) (p.2.set j (some (.lst (l++[p.1]))))
   | _=>False) E
 | _=>False
noncomputable def bLen:List D->Option S
 | [.str l]=>some (.sh (.int l.length))
 | [.tup l]=>some (.sh (.int l.length))
 | [.lst l]=>some (.sh (.int l.length))
 | _=>none
noncomputable def bInt:List D->Option S
 | [.int i]=>some (.sh (.int i))
 | [.bl b]=>some (.sh (.int (if b then 1 else 0)))
 | _=>none
noncomputable def bTuple:List D->Option S
 | [.tup l]=>some (.sh (.tup l))
 | [.lst l]=>some (.sh (.tup l))
 | _=>none
noncomputable def bList:List D->Option S
 | [.tup l]=>some (.lst (l.map .sh))
 | [.lst l]=>some (.lst (l.map .sh))
 | _=>none
noncomputable def bMax:List D->Option S
 | [.int i,.int j]=>some (.sh (.int (if j > i then j else i)))
 | _=>none
noncomputable def bMin:List D->Option S
 | [.int i,.int j]=>some (.sh (.int (if j < i then j else i)))
 | _=>none
noncomputable def wPass:WS:=fun D U=>D.nx U
noncomputable def qR (a b:WS):WS:=fun D U=>a { D with nx:=b D } U
noncomputable def wIf (c:WT) (a b:WS):WS:=fun D U=>c U (fun k U1=>if k then a D U1 else b D U1) D.ex
noncomputable def wRet (a:WE):WS:=fun D U=>a U D.rt D.ex
noncomputable def wExpr (a:WE):WS:=fun D U=>a U (fun _ U1=>D.nx U1) D.ex
noncomputable abbrev WG:=S->Env->(Env->Prop)->Prop
noncomputable def qI (i:Nat):WG:=fun s U Q=>Q (U.set i (some s))
noncomputable def gTups:List WG->List D->Env->(Env->Prop)->Prop
 | [],[],U,Q=>Q U
 | g::gs,d::ds,U,Q=>g (.sh d) U fun U1=>gTups gs ds U1 Q
 | _,_,_,_=>False
noncomputable def gTup (gs:List WG):WG:=fun s U Q=>match s.toD with
 | .tup ds=>ds.length=gs.length/\gTups gs ds U Q
 | _=>False
noncomputable def wSetIx (j:Nat) (i e:WE):WS:=fun D U=>e U (fun r U1=>qF j U1 (fun x U2=>i U2 (fun y U3=>qJ (view y U3) fun q=>qJ (give r U3) fun p=>match x,q,slot p.2 j with
 | .loc k,.int n,some (.lst l)=>k=j/\qJ (ixN l.length n) fun m=>D.nx (p.2.set j (some (.lst (l.set m p.1))))
 | _,_,_=>False) D.ex) D.ex) D.ex
noncomputable def qT (g:WG) (a:WE):WS:=fun D U=>a U (fun r U1=>qJ (give r U1) fun p=>g p.1 p.2 D.nx) D.ex
noncomputable abbrev WI:=Env->(List D->Env->Prop)->WX->Prop
noncomputable def items:D->Option (List D)
 | .lst l=>some l
 | .tup l=>some l
 | .str l=>some (l.map fun c=>.str [c])
 | _=>none
noncomputable def wIter (a:WE):WI:=fun U Q E=>a U (fun r U1=>qJ (give r U1) fun p=>qJ (items p.1.toD) fun l=>Q l p.2) E
noncomputable def fromTo (lo:Int) (n:Nat):List D:=(List.range n).map fun (k:Nat)=>.int (lo + (k:Int))
noncomputable def wRange1 (a:WE):WI:=fun U Q E=>a U (fun r U1=>match view r U1 with
 | some (.int j)=>(-big<=j/\j<=big)/\Q (fromTo 0 j.toNat) U1
 | _=>False) E
noncomputable def wRange2 (a b:WE):WI:=fun U Q E=>a U (fun r U1=>b U1 (fun t U2=>match view r U2,view t U2 with
 | some (.int i),some (.int j)=>(-big<=i/\i<=big/\-big<=j/\j<=big)/\Q (fromTo i (j - i).toNat) U2
 | _,_=>False) E) E
noncomputable def wLoop (g:WG) (body:WS):List D->WS
 | [],D,U=>D.nx U
 | x::xs,D,U=>g (.sh x) U fun U1=>body { D with nx:=wLoop g body xs D,ct:=wLoop g body xs D,bk:=D.nx } U1
noncomputable def wFor (it:WI) (g:WG) (body:WS):WS:=fun D U=>it U (fun l U1=>wLoop g body l D U1) D.ex
noncomputable def wWhile (c:WT) (body:WS):WS:=fun D U=>∃ J:Nat->Env->Prop,(∃ m,J m U)/\∀ m U,J m U->c U (fun k U1=>if k then
 body { D with nx:=fun U2=>∃ m',m' < m/\J m' U2,ct:=fun U2=>∃ m',m' < m/\J m' U2,bk:=D.nx } U1 else D.nx U1) D.ex
noncomputable abbrev WB:=Env->(Env->Prop)->WX->Prop
noncomputable def wYes:WT:=fun U Q _=>Q true U
noncomputable def bLoop (g:WG) (c:WT) (b:WB):List D->WB
 | [],U,Q,_=>Q U
 | x::xs,U,Q,E=>g (.sh x) U fun U1=>c U1 (fun k U2=>if k then b U2 (fun U3=>bLoop g c b xs U3 Q E) E else bLoop g c b xs U2 Q E) E
noncomputable def bFor (it:WI) (g:WG) (c:WT) (b:WB):WB:=fun U Q E=>it U (fun l U1=>bLoop g c b l U1 Q E) E
noncomputable def bEmit (n:Nat) (a:WE):WB:=fun U Q E=>a U (fun r U1=>qJ (give r U1) fun p=>match slot p.2 n with
 | some (.lst l)=>l.length < big/\Q (p.2.set n (some (.lst (l++[p.1]))))
 | _=>False) E
noncomputable def wLC (n k:Nat) (it:WI) (g:WG) (c:WT) (b:WB):WE:=fun U Q E=>it U (fun l U1=>
 bLoop g c b l (U1++some (.lst [])::List.replicate k none) (fun U2=>qJ (slot U2 n) fun s=>Q (.v s) (U2.take n)) NX) E
noncomputable def finals:List S->Env->Option (List S)
 | [],_=>some []
 | .sh d::ss,_::U=>(finals ss U).map (.sh d::·)
 | _::ss,some s::U=>(finals ss U).map (s::·)
 | _,_=>none
noncomputable def wFn (n m:Nat) (ks:List Nat) (body:WS):WF:=fun ss P PX=>ss.length=n/\(∀ i s,ss[i]?=some s->i∈ks\/s.isSh=true)/\
 body { nx:=fun U=>qJ (finals ss U) fun fs=>P (.sh .non) fs
        rt:=fun r U=>match r with
         | .v s=>qJ (finals ss U) fun fs=>P s fs
         | .loc i=>qJ (slot U i) fun s=>if i < n then qJ (finals ss (U.set i (some (.sh s.toD)))) fun fs=>P (.sh s.toD) fs else qJ (finals ss U) fun fs=>P s fs
        bk:=fun _=>False
        ct:=fun _=>False
        ex:=fun x U=>qJ (finals ss U) fun fs=>PX x fs } (ss.map some++List.replicate (m - n) none)
noncomputable def wRaise (c:List Nat):WS:=fun D U=>D.ex (.exc c [] []) U
noncomputable def IsX (cs:List (List Nat)) (d:D):Prop:=∃ c∈cs,∃ fs vs,d=.exc c fs vs
noncomputable def wTryAs (cs:List (List Nat)) (j:Nat) (wb ws:WS):WS:=fun D U=>wb { D with ex:=fun d U1=>IsX cs d/\ws { nx:=fun U2=>D.nx (U2.set j none),rt:=fun _ _=>False,bk:=fun _=>False,ct:=fun _=>False,ex:=NX } (U1.set j (some (.sh d))) } U
noncomputable def tX (kn yes:List (List Nat)):D->Option Bool
 | .non=>some false
 | .exc c _ _=>if kn.contains c then some (yes.contains c) else none
 | _=>none
noncomputable def wIsX (kn yes:List (List Nat)) (a:WE):WE:=fun U Q E=>a U (fun x U1=>qJ (view x U1) fun d=>qJ (tX kn yes d) fun b=>Q (.v (.sh (.bl b))) U1) E
end FL
namespace FL
open PySem L2
noncomputable def keyD:Key->D
 | .inl i=>.int i
 | .inr x=>.str x.cps.toList
noncomputable def excφ (a C:Addr) (dx:Option Addr) (h:Heap):Prop:=∃ o vs,h.get? a=some o/\o.cls=.ref C/\o.dict=dx/\o.data=.fields vs
noncomputable def noTup:HO->Bool
 | .tup _=>false
 | _=>true
noncomputable def XDct (F:Hp) (dx:Option Addr) (fs:List (List Nat)) (vs:List D):Prop:=(dx=none/\fs=[]/\vs=[])\/∃ p f i,dx=some p/\fs=[f]/\vs=[.int i]/\F p=some (.xd [((⟨f.toArray⟩:Str),.int i)])
mutual
inductive Rep (K:W.Frag) (F:Hp):V->D->Prop
 | non:Rep K F .non .non
 | bl (b:Bool):Rep K F (.bl b) (.bl b)
 | int (i:Int):Rep K F (.int i) (.int i)
 | str {x:Str} {l:List Nat}:x.cps.toList=l->l.length<=16777216->Rep K F (.str x) (.str l)
 | tup {a:Addr} {xs:List V} {ds:List D}:F a=some (.tup xs)->qX K F xs ds->Rep K F (.ref a) (.tup ds)
 | lst {a:Addr} {xs:List V} {ds:List D}:SqL K F a xs->qX K F xs ds->Rep K F (.ref a) (.lst ds)
 | dK {a:Addr} {q5:List (Key×V)} {ks vs:List D}:Rd F a (.dK q5)->ks=q5.map (fun p=>keyD p.1)->qX K F (q5.map (·.2)) vs->Rep K F (.ref a) (.dct false ks vs)
 | dT {a:Addr} {q5:List (List Key×V)} {ks vs:List D}:Rd F a (.dT q5)->ks=q5.map (fun p=>D.tup (p.1.map keyD))->qX K F (q5.map (·.2)) vs->Rep K F (.ref a) (.dct true ks vs)
 | st {a:Addr} {xs:List V} {ds:List D}:F a=some (.set xs)->qX K F xs ds->Rep K F (.ref a) (.set ds)
 | exc {a C:Addr} {dx:Option Addr} {c:List Nat} {fs:List (List Nat)} {vs:List D}:F a=some (.ext (excφ a C dx))->W.nsIn K mainGlobals (⟨c.toArray⟩:Str)=some (some (.ref C))->XDct F dx fs vs->Rep K F (.ref a) (.exc c fs vs)
inductive qX (K:W.Frag) (F:Hp):List V->List D->Prop
 | nil:qX K F [] []
 | cons {x:V} {d:D} {xs:List V} {ds:List D}:Rep K F x d->qX K F xs ds->qX K F (x::xs) (d::ds)
end
mutual
inductive SRep (K:W.Frag) (F H:Hp):V->S->List Addr->Prop
 | sh {v:V} {d:D}:Rep K F v d->SRep K F H v (.sh d) []
 | lst {a:Addr} {xs:List V} {l:List S} {fp:List Addr}:H a=some (.lst xs)->qN K F H xs l fp->SRep K F H (.ref a) (.lst l) (a::fp)
 | dK {a:Addr} {q5:List (Key×V)} {ks:List D} {l:List S} {fp:List Addr}:H a=some (.dK q5)->ks=q5.map (fun p=>keyD p.1)->qN K F H (q5.map (·.2)) l fp->SRep K F H (.ref a) (.dct false ks l) (a::fp)
 | dT {a:Addr} {q5:List (List Key×V)} {ks:List D} {l:List S} {fp:List Addr}:H a=some (.dT q5)->ks=q5.map (fun p=>D.tup (p.1.map keyD))->qN K F H (q5.map (·.2)) l fp->SRep K F H (.ref a) (.dct true ks l) (a::fp)
 | st {a:Addr} {xs:List V} {ds:List D}:H a=some (.set xs)->qX K F xs ds->SRep K F H (.ref a) (.set ds) [a]
inductive qN (K:W.Frag) (F H:Hp):List V->List S->List Addr->Prop
 | nil:qN K F H [] [] []
 | cons {x:V} {s:S} {xs:List V} {l:List S} {fp fq:List Addr}:SRep K F H x s fp->qN K F H xs l fq->qN K F H (x::xs) (s::l) (fp++fq)
end
theorem Rd.mono (h:qK F F') (r:Rd F a u):Rd F' a u:=by
 rcases r with r | ⟨o,r⟩
 ·exact .inl (h _ _ r)
 ·exact .inr ⟨o,h _ _ r⟩
theorem SqL.mono (h:qK F F') (r:SqL K F a xs):SqL K F' a xs:=r.elim (fun r=>.inl (Rd.mono h r)) .inr
theorem SqT.mono (h:qK F F') (r:SqT K F a xs):SqT K F' a xs:=r.elim (fun r=>.inl (Rd.mono h r)) .inr
theorem qX.ind {P:List V->List D->Prop} (hn:P [] []) (hc:∀ {x:V} {d:D} {xs:List V} {ds:List D},Rep K F x d->qX K F xs ds->P xs ds->P (x::xs) (d::ds)) (r:qX K F xs ds):P xs ds:=
 qX.rec (motive_1:=fun _ _ _=>True) (motive_2:=fun xs ds _=>P xs ds) trivial (fun _=>trivial) (fun _=>trivial) (fun _ _=>trivial) (fun _ _ _=>trivial) (fun _ _ _=>trivial) (fun _ _ _ _=>trivial) (fun _ _ _ _=>trivial) (fun _ _ _=>trivial) (fun _ _ _=>trivial) hn (fun a b _ ih=>hc a b ih) r
theorem qN.ind {P:List V->List S->List Addr->Prop} (hn:P [] [] []) (hc:∀ {x:V} {s:S} {xs:List V} {l:List S} {fp fq:List Addr},SRep K F H x s fp->qN K F H xs l fq->P xs l fq->P (x::xs) (s::l) (fp++fq)) (r:qN K F H xs l fp):P xs l fp:=
 qN.rec (motive_1:=fun _ _ _ _=>True) (motive_2:=fun xs l fp _=>P xs l fp) (fun _=>trivial) (fun _ _ _=>trivial) (fun _ _ _ _=>trivial) (fun _ _ _ _=>trivial) (fun _ _=>trivial) hn (fun a b _ ih=>hc a b ih) r
theorem XDct.mono (h:qK F F') (x:XDct F dx fs vs):XDct F' dx fs vs:=x.imp id fun ⟨p,f,i,e1,e2,e3,e4⟩=>⟨p,f,i,e1,e2,e3,h _ _ e4⟩
theorem Rep.mono (h:qK F F') (r:Rep K F v d):Rep K F' v d:=
 Rep.rec (motive_1:=fun v d _=>Rep K F' v d) (motive_2:=fun v d _=>qX K F' v d) .non .bl .int (fun e z=>.str e z) (fun e _ ih=>.tup (h _ _ e) ih) (fun e _ ih=>.lst (SqL.mono h e) ih) (fun e k _ ih=>.dK (Rd.mono h e) k ih) (fun e k _ ih=>.dT (Rd.mono h e) k ih) (fun e _ ih=>.st (h _ _ e) ih) (fun e k x=>.exc (h _ _ e) k (x.mono h)) .nil (fun _ _ a b=>.cons a b) r
theorem qX.mono (h:qK F F') (r:qX K F v d):qX K F' v d:=qX.ind .nil (fun a _ ih=>.cons (Rep.mono h a) ih) r
theorem SRep.mono (h:qK F F') (r:SRep K F H v s fp):(∀ a∈fp,H' a=H a)->SRep K F' H' v s fp:=
 SRep.rec (motive_1:=fun v s fp _=>(∀ a∈fp,H' a=H a)->SRep K F' H' v s fp) (motive_2:=fun v s fp _=>(∀ a∈fp,H' a=H a)->qN K F' H' v s fp)
  (fun r _=>.sh (Rep.mono h r)) (fun e _ ih k=>.lst ((k _ List.mem_cons_self).trans e) (ih fun a ha=>k a (List.mem_cons_of_mem _ ha)))
  (fun e q _ ih k=>.dK ((k _ List.mem_cons_self).trans e) q (ih fun a ha=>k a (List.mem_cons_of_mem _ ha))) (fun e q _ ih k=>.dT ((k _ List.mem_cons_self).trans e) q (ih fun a ha=>k a (List.mem_cons_of_mem _ ha)))
  (fun e r k=>.st ((k _ List.mem_cons_self).trans e) (qX.mono h r)) (fun _=>.nil) (fun _ _ a b k=>.cons (a fun c hc=>k c (List.mem_append_left _ hc)) (b fun c hc=>k c (List.mem_append_right _ hc))) r
theorem qN.mono (h:qK F F') (r:qN K F H v s fp):(∀ a∈fp,H' a=H a)->qN K F' H' v s fp:=
 qN.ind (P:=fun v s fp=>(∀ a∈fp,H' a=H a)->qN K F' H' v s fp) (fun _=>.nil) (fun a _ b k=>.cons (SRep.mono h a fun c hc=>k c (List.mem_append_left _ hc)) (b fun c hc=>k c (List.mem_append_right _ hc))) r
theorem SRep.frz (h:qK F F') (r:SRep K F H v s fp):(∀ a∈fp,F' a=H a)->Rep K F' v s.toD:=
 SRep.rec (motive_1:=fun v s fp _=>(∀ a∈fp,F' a=H a)->Rep K F' v s.toD) (motive_2:=fun v s fp _=>(∀ a∈fp,F' a=H a)->qX K F' v (S.toDs s))
  (fun r _=>Rep.mono h r) (fun e _ ih k=>.lst (SqL.of ((k _ List.mem_cons_self).trans e)) (ih fun a ha=>k a (List.mem_cons_of_mem _ ha)))
  (fun e q _ ih k=>.dK (.of ((k _ List.mem_cons_self).trans e)) q (ih fun a ha=>k a (List.mem_cons_of_mem _ ha))) (fun e q _ ih k=>.dT (.of ((k _ List.mem_cons_self).trans e)) q (ih fun a ha=>k a (List.mem_cons_of_mem _ ha)))
  (fun e r k=>.st ((k _ List.mem_cons_self).trans e) (qX.mono h r)) (fun _=>.nil) (fun _ _ a b k=>.cons (a fun c hc=>k c (List.mem_append_left _ hc)) (b fun c hc=>k c (List.mem_append_right _ hc))) r
theorem qN.frz (h:qK F F') (r:qN K F H v s fp):(∀ a∈fp,F' a=H a)->qX K F' v (S.toDs s):=
 qN.ind (P:=fun v s fp=>(∀ a∈fp,F' a=H a)->qX K F' v (S.toDs s)) (fun _=>.nil) (fun a _ b k=>.cons (SRep.frz h a fun c hc=>k c (List.mem_append_left _ hc)) (b fun c hc=>k c (List.mem_append_right _ hc))) r
theorem SRep.view (h:qK F H) (r:SRep K F H v s fp):Rep K H v s.toD:=SRep.frz h r fun _ _=>rfl
theorem SRep.in_:∀ {v:V} {s:S} {fp:List Addr},SRep K F H v s fp->∀ a∈fp,∃ o,H a=some o/\noTup o=true:=by
 intro v s fp r
 refine SRep.rec (motive_1:=fun v s fp _=>∀ a∈fp,∃ o,H a=some o/\noTup o=true) (motive_2:=fun v s fp _=>∀ a∈fp,∃ o,H a=some o/\noTup o=true) ?_ ?_ ?_ ?_ ?_ ?_ ?_ r
 ·intro v d r a ha; cases ha
 ·grind [noTup]
 ·grind [noTup]
 ·grind [noTup]
 ·grind [noTup]
 ·intro a ha; cases ha
 grind
inductive qM (K:W.Frag) (F H:Hp):Env->St->List Addr->Prop
 | nil:qM K F H [] [] []
 | no {U:Env} {σ:St} {o:Option V} {fp:List Addr}:qM K F H U σ fp->qM K F H (none::U) (o::σ) fp
 | so {U:Env} {σ:St} {v:V} {s:S} {fp fq:List Addr}:SRep K F H v s fp->qM K F H U σ fq->qM K F H (some s::U) (some v::σ) (fp++fq)
theorem qM.len (r:qM K F H U σ fp):U.length=σ.length:=by
 induction r with
 | nil=>rfl
 | no _ ih=>exact congrArg (· + 1) ih
 | so _ _ ih=>exact congrArg (· + 1) ih
theorem qM.mono (h:qK F F') (r:qM K F H U σ fp) (k:∀ a∈fp,H' a=H a):qM K F' H' U σ fp:=by
 induction r with
 | nil=>exact .nil
 | no _ ih=>exact .no (ih k)
 | so a _ ih=>exact .so (SRep.mono h a fun c hc=>k c (List.mem_append_left _ hc)) (ih fun c hc=>k c (List.mem_append_right _ hc))
theorem qM.in_ (r:qM K F H U σ fp):∀ a∈fp,∃ o,H a=some o/\noTup o=true:=by
 induction r with
 | nil=>exact fun a ha=>nomatch ha
 | no _ ih=>exact ih
 | so q _ ih=>exact fun a ha=>(List.mem_append.mp ha).elim (fun z=>SRep.in_ q a z) fun z=>ih a z
theorem qM.app (r:qM K F H U σ fp) (r':qM K F H U' σ' fq):qM K F H (U++U') (σ++σ') (fp++fq):=by
 induction r with
 | nil=>exact r'
 | no _ ih=>exact .no ih
 | so a _ ih=>rw [List.append_assoc]; exact .so a ih
inductive ECut (K:W.Frag) (F H:Hp) (U:Env) (σ:St) (U':Env) (σ':St) (fp:List Addr):Prop
 | mk (f1 f2:List Addr):fp=f1++f2->qM K F H U σ f1->qM K F H U' σ' f2->ECut K F H U σ U' σ' fp
theorem qM.cut (e:U.length=σ.length) (r:qM K F H (U++U') (σ++σ') fp):ECut K F H U σ U' σ' fp:=by
 induction U generalizing σ fp with
 | nil=>cases σ with
   | nil=>exact ⟨[],fp,rfl,.nil,r⟩
   | cons _ _=>exact absurd e.symm (Nat.succ_ne_zero _)
 | cons x U ih=>cases σ with
   | nil=>exact absurd e (Nat.succ_ne_zero _)
   | cons y σ=>cases r with
     | no r=>
       obtain ⟨f1,f2,rfl,a,b⟩:=ih (Nat.succ.inj e) r
       exact ⟨f1,f2,rfl,.no a,b⟩
     | so q r=>
       obtain ⟨f1,f2,rfl,a,b⟩:=ih (Nat.succ.inj e) r
       exact ⟨_,f2,(List.append_assoc ..).symm,.so q a,b⟩
noncomputable def EUp (K:W.Frag) (F H:Hp) (U:Env) (σ:St) (i:Nat) (fa fb:List Addr):Prop:=∀ {F' H':Hp} {o:Option S} {u:Option V} {fi':List Addr},qK F F'->(∀ a∈fa++fb,H' a=H a)->(qM K F' H' [o] [u] fi')->qM K F' H' (U.set i o) (σ.set i u) (fa++(fi'++fb))
inductive EAt (K:W.Frag) (F H:Hp) (U:Env) (σ:St) (fp:List Addr) (i:Nat) (s:S):Prop
 | mk (v:V) (fa fi fb:List Addr):σ[i]?=some (some v)->fp=fa++(fi++fb)->SRep K F H v s fi->EUp K F H U σ i fa fb->EAt K F H U σ fp i s
inductive EPut (K:W.Frag) (F H:Hp) (U:Env) (σ:St) (fp:List Addr) (i:Nat):Prop
 | mk (fa fi fb:List Addr):fp=fa++(fi++fb)->EUp K F H U σ i fa fb->EPut K F H U σ fp i
theorem qM.at:∀ {U:Env} {σ:St} {fp:List Addr} {i:Nat} {s:S},qM K F H U σ fp->slot U i=some s->EAt K F H U σ fp i s
 | _,_,_,_,_,.nil,e=>by simp [slot] at e
 | _,_,_,0,_,.no r,e=>by simp at e
 | _,_,_,0,s,.so (fp:=fp) (fq:=fq) q r,e=>by
   simp at e; subst e
   refine ⟨_,[],fp,fq,rfl,rfl,q,fun {F' H' o u fi'} h k x=>?_⟩
   have r':=qM.mono (H':=H') h r fun a ha=>k a ha
   exact x.app r'
 | _,_,_,i + 1,s,.no r,e=>by
   obtain ⟨v,fa,fi,fb,e1,rfl,q,up⟩:=qM.at r (by simpa using e)
   exact ⟨v,fa,fi,fb,by simpa using e1,rfl,q,fun h k x=>.no (up h k x)⟩
 | _,_,_,i + 1,s,.so (fp:=fp) (fq:=fq) p r,e=>by
   obtain ⟨v,fa,fi,fb,e1,rfl,q,up⟩:=qM.at r (by simpa using e)
   refine ⟨v,fp++fa,fi,fb,by simpa using e1,(List.append_assoc ..).symm,q,fun {F' H' o u fi'} h k x=>?_⟩
   rw [List.append_assoc]
   exact .so (SRep.mono h p fun a ha=>k a (List.mem_append_left _ (List.mem_append_left _ ha))) (up h (fun a ha=>k a ((List.mem_append.mp ha).elim (fun z=>List.mem_append_left _ (List.mem_append_right _ z)) fun z=>List.mem_append_right _ z)) x)
theorem qM.put:∀ {U:Env} {σ:St} {fp:List Addr} {i:Nat},qM K F H U σ fp->i < U.length->EPut K F H U σ fp i
 | _,_,_,_,.nil,e=>by simp at e
 | _,_,fp,0,.no r,e=>⟨[],[],fp,rfl,fun {F' H' o u fi'} h k x=>x.app (qM.mono (H':=H') h r fun a ha=>k a ha)⟩
 | _,_,_,0,.so (fp:=fp) (fq:=fq) q r,e=>⟨[],fp,fq,rfl,fun {F' H' o u fi'} h k x=>x.app (qM.mono (H':=H') h r fun a ha=>k a ha)⟩
 | _,_,_,i + 1,.no r,e=>by
   obtain ⟨fa,fi,fb,rfl,up⟩:=qM.put (i:=i) r (by simpa using e)
   exact ⟨fa,fi,fb,rfl,fun h k x=>.no (up h k x)⟩
 | _,_,_,i + 1,.so (fp:=fp) (fq:=fq) p r,e=>by
   obtain ⟨fa,fi,fb,rfl,up⟩:=qM.put (i:=i) r (by simpa using e)
   refine ⟨fp++fa,fi,fb,(List.append_assoc ..).symm,fun {F' H' o u fi'} h k x=>?_⟩
   rw [List.append_assoc]
   exact .so (SRep.mono h p fun a ha=>k a (List.mem_append_left _ (List.mem_append_left _ ha))) (up h (fun a ha=>k a ((List.mem_append.mp ha).elim (fun z=>List.mem_append_left _ (List.mem_append_right _ z)) fun z=>List.mem_append_right _ z)) x)
inductive Own (K:W.Frag) (U:Env) (σ:St) (F G H:Hp):Prop
 | mk (fp:List Addr):qM K F H U σ fp->fp.Nodup->(∀ a∈fp,F a=none/\G a=none)->Own K U σ F G H
structure Rel (K:W.Frag) (U:Env) (σ:St) (F G H:Hp):Prop where
 fr:qK F H
 gr:∀ a o,G a=some o->(H a=some o/\noTup o=true)/\F a=none
 en:Own K U σ F G H
theorem Rel.len (r:Rel K U σ F G H):U.length=σ.length:=let ⟨_,e,_,_⟩:=r.en; e.len
theorem Rel.free (r:Rel K U σ F G H) (h:H p=none):F p=none/\G p=none/\∀ fp,qM K F H U σ fp->p∉fp:=by
 refine ⟨?_,?_,fun fp e hp=>?_⟩
 ·cases q:F p with
  | none=>rfl
  | some o=>rw [r.fr p o q] at h; cases h
 ·cases q:G p with
  | none=>rfl
  | some o=>rw [(r.gr p o q).1.1] at h; cases h
 ·obtain ⟨o,q,_⟩:=e.in_ p hp
  rw [h] at q; cases q
theorem qK.upd (h:F p=none):qK F (upd F p o):=fun b u e=>by
 rw [zag (fun z=>by rw [z,h] at e; cases e)]; exact e
theorem qK.upd2 (h:qK F H):qK (L2.upd F p o) (L2.upd H p o):=fun b u e=>by
 by_cases q:b=p
 ·subst q; rw [zam] at e ⊢; exact e
 ·rw [zag q] at e ⊢; exact h b u e
theorem qK.updR (h:qK F H) (n:F p=none):qK F (L2.upd H p o):=fun b u e=>by
 rw [zag (fun z=>by rw [z,n] at e; cases e)]; exact h b u e
theorem Rel.newF (r:Rel K U σ F G H) (h:H p=none):Rel K U σ (upd F p o) G (upd H p o):=by
 obtain ⟨f0,g0,n0⟩:=r.free h
 obtain ⟨fp,e,nd,ap⟩:=r.en
 have hne:∀ a∈fp,a≠p:=fun a ha z=>n0 fp e (z ▸ ha)
 refine ⟨qK.upd2 r.fr,fun a u q=>?_,fp,e.mono (qK.upd f0) fun a ha=>zag (hne a ha),nd,fun a ha=>?_⟩
 ·have hp:a≠p:=fun z=>by rw [z,g0] at q; cases q
  rw [zag hp,zag hp]; exact r.gr a u q
 ·rw [zag (hne a ha)]; exact ap a ha
theorem Rel.newO (r:Rel K U σ F G H) (h:H p=none) (q:SRep K F (upd H p o) (.ref p) s [p]):Rel K (U++[some s]) (σ++[some (.ref p)]) F G (upd H p o):=by
 obtain ⟨f0,g0,n0⟩:=r.free h
 obtain ⟨fp,e,nd,ap⟩:=r.en
 have hne:∀ a∈fp,a≠p:=fun a ha z=>n0 fp e (z ▸ ha)
 refine ⟨qK.updR r.fr f0,fun a u q=>?_,fp++([p]++[]),(e.mono (qK.refl F) fun a ha=>zag (hne a ha)).app (.so q .nil),?_,fun a ha=>?_⟩
 ·have hp:a≠p:=fun z=>by rw [z,g0] at q; cases q
  rw [zag hp]; exact r.gr a u q
 ·grind
 grind
theorem Rel.drop (r:Rel K (U++U') (σ++σ') F G H) (h:U.length=σ.length):Rel K U σ F G H:=by
 obtain ⟨fp,e,nd,ap⟩:=r.en
 obtain ⟨f1,f2,rfl,a,b⟩:=e.cut h
 exact ⟨r.fr,r.gr,f1,a,(List.nodup_append.mp nd).1,fun c hc=>ap c (List.mem_append_left _ hc)⟩
theorem Rel.hide (r:Rel K (U++U') (σ++σ') F G H) (h:U.length=σ.length):∃ G',Rel K U σ F G' H/\qK G G'/\
  ∀ {U2:Env} {σ2:St} {F2 H2:Hp},qK F F2->Rel K U2 σ2 F2 G' H2->Rel K (U2++U') (σ2++σ') F2 G H2:=by
 classical
 obtain ⟨fp,e,nd,ap⟩:=r.en
 obtain ⟨f1,f2,rfl,a,b⟩:=e.cut h
 obtain ⟨n1,n2,n12⟩:=List.nodup_append.mp nd
 refine ⟨fun x=>if x∈f2 then H x else G x,⟨r.fr,fun x o q=>?_,f1,a,n1,fun x hx=>?_⟩,fun x o q=>?_,fun {U2 σ2 F2 H2} sm r2=>?_⟩
 ·by_cases z:x∈f2
  ·have:=b.in_ x z
   grind
  ·simp only [z,if_false] at q
   exact r.gr x o q
 ·grind
 ·grind
 ·obtain ⟨fp2,e2,nd2,ap2⟩:=r2.en
  have hk:∀ x∈f2,H2 x=H x/\F2 x=none/\x∉fp2:=fun x hx=>by
   obtain ⟨o,q,_⟩:=b.in_ x hx
   have w:=r2.gr x o (by simp only [hx,if_true]; exact q)
   grind
  refine ⟨r2.fr,fun x o q=>?_,fp2++f2,e2.app (b.mono sm fun x hx=>(hk x hx).1),?_,fun x hx=>?_⟩
  ·have z:x∉f2:=fun z=>by
    grind
   exact r2.gr x o (by simp only [z,if_false]; exact q)
  ·grind
  grind
theorem Rel.weakG (r:Rel K U σ F G' H) (h:qK G G'):Rel K U σ F G H:=by
 obtain ⟨fp,e,nd,ap⟩:=r.en
 refine ⟨r.fr,fun a o q=>r.gr a o (h a o q),fp,e,nd,fun a ha=>⟨(ap a ha).1,?_⟩⟩
 cases q:G a with
 | none=>rfl
 | some o=>have:=(ap a ha).2; rw [h a o q] at this; cases this
theorem Rel.swap (h:U.length=σ.length) (h1:U1.length=σ1.length) (r:Rel K (U++(U1++U2)) (σ++(σ1++σ2)) F G H):Rel K (U++(U2++U1)) (σ++(σ2++σ1)) F G H:=by
 obtain ⟨fp,e,nd,ap⟩:=r.en
 obtain ⟨f0,f12,rfl,a,b⟩:=e.cut h
 obtain ⟨f1,f2,rfl,b1,c⟩:=b.cut h1
 have p:(f0++(f2++f1)).Perm (f0++(f1++f2)):=List.Perm.append_left _ List.perm_append_comm
 exact ⟨r.fr,r.gr,_,a.app (c.app b1),p.nodup_iff.mpr nd,fun x hx=>ap x (p.mem_iff.mp hx)⟩
theorem Rel.push (r:Rel K U σ F G H) (h:Rep K F v d):Rel K (U++[some (.sh d)]) (σ++[some v]) F G H:=by
 obtain ⟨fp,e,nd,ap⟩:=r.en
 refine ⟨r.fr,r.gr,fp++([]++[]),e.app (.so (.sh h) .nil),?_,fun x hx=>ap x ?_⟩
 ·simpa using nd
 ·simpa using hx
theorem Rel.pushN (r:Rel K U σ F G H):Rel K (U++[none]) (σ++[u]) F G H:=by
 obtain ⟨fp,e,nd,ap⟩:=r.en
 refine ⟨r.fr,r.gr,fp++[],e.app (.no .nil),?_,fun x hx=>ap x ?_⟩
 ·simpa using nd
 ·simpa using hx
theorem zbG (h:slot U i=some s):U[i]?=some (some s):=by
 induction U generalizing i with
 | nil=>simp [slot] at h
 | cons a r ih=>cases i with
   | zero=>simp at h; simp [h]
   | succ i=>simp at h; simpa using ih h
theorem zcz (h:slot U i=some s):i < U.length:=(qh.mp (zbG h)).1
theorem zcb (h:i < U.length):slot (U++U') i=slot U i:=by
 induction U generalizing i with
 | nil=>simp at h
 | cons a r ih=>cases i with
   | zero=>rfl
   | succ i=>simpa using ih (by simpa using h)
theorem zaK:slot (U++o::U') U.length=o:=by
 induction U with
 | nil=>rfl
 | cons a r ih=>simpa using ih
inductive RAt (K:W.Frag) (F H:Hp) (σ:St) (i:Nat) (s:S):Prop
 | mk (v:V) (fp:List Addr):σ[i]?=some (some v)->SRep K F H v s fp->RAt K F H σ i s
theorem Rel.at (r:Rel K U σ F G H) (h:slot U i=some s):RAt K F H σ i s:=by
 obtain ⟨fp,e,nd,ap⟩:=r.en
 obtain ⟨v,fa,fi,fb,e1,_,q,_⟩:=e.at h
 exact ⟨v,fi,e1,q⟩
theorem Rel.give (r:Rel K U σ F G H) (h:slot U i=some s):∃ v F',σ[i]?=some (some v)/\qK F F'/\Rep K F' v s.toD/\Rel K (U.set i (some (.sh s.toD))) σ F' G H:=by
 classical
 obtain ⟨fp,e,nd,ap⟩:=r.en
 obtain ⟨v,fa,fi,fb,e1,rfl,q,up⟩:=e.at h
 obtain ⟨na,nib,nab⟩:=List.nodup_append.mp nd
 obtain ⟨ni,nb,nib⟩:=List.nodup_append.mp nib
 have nofi:∀ x∈fa++fb,x∉fi:=fun x hx z=>by
  grind
 have sm:qK F (fun x=>if x∈fi then H x else F x):=fun x o w=>by
  grind
 have rp:Rep K (fun x=>if x∈fi then H x else F x) v s.toD:=q.frz sm fun x hx=>by simp only [hx,if_true]
 have e2:σ.set i (some v)=σ:=by
  apply List.ext_getElem?
  grind
 refine ⟨v,_,e1,sm,rp,fun x o w=>?_,fun x o w=>?_,fa++([]++fb),?_,?_,fun x hx=>?_⟩
 ·by_cases z:x∈fi
  ·simp only [z,if_true] at w; exact w
  ·simp only [z,if_false] at w; exact r.fr x o w
 ·have w2:=r.gr x o w
  grind
 ·have:=up (F':=fun x=>if x∈fi then H x else F x) (H':=H) (o:=some (.sh s.toD)) (u:=some v) (fi':=[]) sm (fun _ _=>rfl) (.so (.sh rp) .nil)
  rw [e2] at this
  exact this
 ·grind
 grind
theorem Rel.store (r:Rel K (U++[o]) (σ++[u]) F G H) (h:U.length=σ.length) (hi:i < U.length):Rel K (U.set i o) (σ.set i u) F G H:=by
 obtain ⟨fp,e,nd,ap⟩:=r.en
 obtain ⟨f1,f2,rfl,a,b⟩:=e.cut h
 obtain ⟨fa,fi,fb,rfl,up⟩:=a.put hi
 obtain ⟨n1,n2,n12⟩:=List.nodup_append.mp nd
 obtain ⟨na,nib,nab⟩:=List.nodup_append.mp n1
 obtain ⟨ni,nb,nib⟩:=List.nodup_append.mp nib
 refine ⟨r.fr,r.gr,fa++(f2++fb),up (qK.refl F) (fun _ _=>rfl) b,?_,fun x hx=>?_⟩
 ·grind
 grind
end FL
namespace FL
open PySem PySem.Spec PyProof.Rows L2
noncomputable abbrev St:=L2.St
noncomputable abbrev wp (X:Cx) (pn:List (Addr×Obj)) (xe:qE):Cx:={ X with pn:=pn,xe:=xe }
noncomputable def qL:R->Option S
 | .v s=>some s
 | .loc _=>none
noncomputable def RV (σ:St) (v:V):R->Prop
 | .v _=>True
 | .loc i=>σ[i]?=some (some v)
noncomputable def RVs (σ:St):List V->List R->Prop
 | [],[]=>True
 | v::vs,r::rs=>RV σ v r/\RVs σ vs rs
 | _,_=>False
noncomputable def clsD (K:W.Frag) (F:Hp) (d:D) (C:Addr) (dx:Option Addr):Prop:=∃ c fs vs,d=.exc c fs vs/\W.nsIn K mainGlobals (⟨c.toArray⟩:Str)=some (some (.ref C))/\XDct F dx fs vs
noncomputable def XRep (X:Cx) (F H:Hp) (h:Heap) (u:Value) (d:D):Prop:=∃ e C dx,u=.ref e/\clsD X.K F d C dx/\Fly X [] H h e (.ref C) dx
noncomputable def KP (ks:List Nat) (σ σ':St):Prop:=∀ i∈ks,σ'[i]?=σ[i]?
noncomputable def XC (X:Cx) (T:St->Prop) (F G:Hp) (PX:WX):Prop:=∀ (d:D) (U':Env) (σ':St) (F' H':Hp) (u:Value) (s':Shared),PX d U'->T σ'->qK F F'->Rel X.K U' σ' F' G H'->Inv X [] σ' H' s'->XRep X F' H' s'.heap u d->X.xe u s'
theorem XC.mono (h:XC X T F G PX) (t:∀ σ,T' σ->T σ) (f:qK F F') (g:qK G G'):XC X T' F' G' PX:=
 fun d U' σ' F2 H2 u s' p q sm r I x=>h d U' σ' F2 H2 u s' p (t _ q) (f.trans sm) (r.weakG g) I x
theorem XC.grow (h:XC X T F G PX) (f:qK F F'):XC X T F' G PX:=h.mono (fun _ z=>z) f (qK.refl G)
inductive tW (X:Cx) (w:WE) (σ:St) (H:Hp) (Q:VK):Prop
 | mk (F G:Hp) (U:Env) (P:WQ) (PX:WX) (q8:Rel X.K U σ F G H) (hw:w U P PX) (hok:∀ r U' v F' H',P r U'->qK F F'->Rel X.K (U'++[qL r]) (σ++[some v]) F' G H'->RV σ v r->Q v H') (hx:XC X (·=σ) F G PX):tW X w σ H Q
noncomputable def FE (X:Cx) (e:Expr) (w:WE):Prop:=∀ (pn:List (Addr×Obj)) (xe:qE),PassesOwn (model X.prog X.w) X.A X.env xe->PE (wp X pn xe) e (tW (wp X pn xe) w)
inductive tWT (X:Cx) (w:WT) (σ:St) (H:Hp) (Q:Bool->Hp->Prop):Prop
 | mk (F G:Hp) (U:Env) (P:Bool->Env->Prop) (PX:WX) (q8:Rel X.K U σ F G H) (hw:w U P PX) (hok:∀ b U' F' H',P b U'->qK F F'->Rel X.K U' σ F' G H'->Q b H') (hx:XC X (·=σ) F G PX):tWT X w σ H Q
noncomputable def FT (X:Cx) (e:Expr) (w:WT):Prop:=∀ (pn:List (Addr×Obj)) (xe:qE),PassesOwn (model X.prog X.w) X.A X.env xe->PT (wp X pn xe) e (tWT (wp X pn xe) w)
noncomputable def FW (X:Cx) (e:Expr) (w:WT):Prop:=∀ (pn:List (Addr×Obj)) (xe:qE),PassesOwn (model X.prog X.w) X.A X.env xe->PW (wp X pn xe) e (tWT (wp X pn xe) w)
inductive tWA (X:Cx) (w:WA) (σ:St) (H:Hp) (Q:List V->Hp->Prop):Prop
 | mk (F G:Hp) (U:Env) (P:List R->Env->Prop) (PX:WX) (q8:Rel X.K U σ F G H) (hw:w U P PX) (hok:∀ rs U' vs F' H',P rs U'->qK F F'->Rel X.K (U'++rs.map qL) (σ++vs.map some) F' G H'->U'.length=σ.length->RVs σ vs rs->Q vs H') (hx:XC X (·=σ) F G PX):tWA X w σ H Q
noncomputable def FA (X:Cx) (es:List Expr) (w:WA):Prop:=∀ (pn:List (Addr×Obj)) (xe:qE),PassesOwn (model X.prog X.w) X.A X.env xe->PA (wp X pn xe) es (tWA (wp X pn xe) w)
theorem PE.imp (h:PE X e t) (k:∀ σ H Q,t' σ H Q->t σ H Q):PE X e t':=fun qZ s σ H Q I q=>h qZ s σ H Q I (k σ H Q q)
theorem PT.imp (h:PT X e t) (k:∀ σ H Q,t' σ H Q->t σ H Q):PT X e t':=fun qZ s σ H Q I q=>h qZ s σ H Q I (k σ H Q q)
theorem PW.imp (h:PW X e t) (k:∀ σ H Q,t' σ H Q->t σ H Q):PW X e t':=fun wh qZ s σ H Q I q=>h wh qZ s σ H Q I (k σ H Q q)
theorem PA.imp (h:PA X e t) (k:∀ σ H Q,t' σ H Q->t σ H Q):PA X e t':=fun p qZ s σ H Q I q=>h p qZ s σ H Q I (k σ H Q q)
section
variable {K:W.Frag}
theorem Rel.mid (r:Rel K (U++o::U') (σ++w::σ') F G H) (h:U.length=σ.length):Rel K (U++U') (σ++σ') F G H:=by
 obtain ⟨fp,e,nd,ap⟩:=r.en
 obtain ⟨f1,f2,rfl,a,b⟩:=e.cut h
 obtain ⟨f2,f3,rfl,b,c⟩:=qM.cut (U:=[o]) (σ:=[w]) rfl b
 obtain ⟨n1,n2,n3⟩:=List.nodup_append.mp nd
 obtain ⟨n4,n5,n6⟩:=List.nodup_append.mp n2
 refine ⟨r.fr,r.gr,f1++f3,a.app c,List.nodup_append.mpr ⟨n1,n5,fun x hx y hy=>n3 x hx y (List.mem_append_right _ hy)⟩,fun x hx=>ap x ?_⟩
 grind
theorem len1 (r:Rel K (U++[o]) (σ++[w]) F G H):U.length=σ.length:=by
 have:=r.len
 simpa using this
theorem zdc:(U++o::U').set U.length o'=U++o'::U':=by
 induction U with
 | nil=>rfl
 | cons a r ih=>simpa using ih
inductive Nd {α:Type} (o:Option α) (k:α->Prop):Prop
 | mk (a:α):o=some a->k a->Nd o k
theorem zae (h:qJ o k):Nd o k:=by
 cases o with
 | none=>exact h.elim
 | some a=>exact ⟨a,rfl,h⟩
noncomputable def RepE (K:W.Frag) (F H:Hp) (v:V) (d:D):Prop:=Rep K F v d\/
 (∃ a xs ds,v=.ref a/\d=.lst ds/\H a=some (.lst xs)/\qX K F xs ds)\/
 (∃ a q5 ks vs,v=.ref a/\d=.dct false ks vs/\H a=some (.dK q5)/\ks=q5.map (fun p=>keyD p.1)/\qX K F (q5.map (·.2)) vs)\/
 (∃ a q5 ks vs,v=.ref a/\d=.dct true ks vs/\H a=some (.dT q5)/\ks=q5.map (fun p=>D.tup (p.1.map keyD))/\qX K F (q5.map (·.2)) vs)
theorem RepE.mono (h:qK F F') (r:RepE K F H v d):RepE K F' H v d:=by
 rcases r with r | ⟨a,xs,ds,e1,e2,e3,r⟩ | ⟨a,q5,ks,vs,e1,e2,e3,e4,r⟩ | ⟨a,q5,ks,vs,e1,e2,e3,e4,r⟩
 ·exact .inl (r.mono h)
 ·exact .inr (.inl ⟨a,xs,ds,e1,e2,e3,r.mono h⟩)
 ·exact .inr (.inr (.inl ⟨a,q5,ks,vs,e1,e2,e3,e4,r.mono h⟩))
 ·exact .inr (.inr (.inr ⟨a,q5,ks,vs,e1,e2,e3,e4,r.mono h⟩))
theorem qN.sh (r:qN K F H xs l fp):l.all S.isSh=true->qX K F xs (l.map S.toD)/\fp=[]:=
 qN.ind (P:=fun xs l fp=>l.all S.isSh=true->qX K F xs (l.map S.toD)/\fp=[]) (fun _=>⟨.nil,rfl⟩) (fun a _ ih h=>by
  rw [List.all_cons,Bool.and_eq_true] at h
  obtain ⟨q,e⟩:=ih h.2
  cases a with
  | sh r=>exact ⟨.cons r q,e⟩
  | _=>exact absurd h.1 (by simp [S.isSh])) r
theorem look (r:Rel K (U++(qL x::U')) (σ++(some v::σ')) F G H) (h:U.length=σ.length) (rv:RV σ v x) (e:view x U=some d):Rep K H v d:=by
 cases x with
 | v s=>
   obtain ⟨u,fp,e1,q⟩:=r.at (i:=U.length) (s:=s) zaK
   rw [h,List.getElem?_append_right (Nat.le_refl _),Nat.sub_self] at e1
   have e2:v=u:=by simpa using e1
   subst e2
   have e3:s.toD=d:=qg e
   rw [<- e3]
   exact q.view r.fr
 | loc i=>
   have e':(slot U i).map S.toD=some d:=e
   cases q:slot U i with
   | none=>rw [q] at e'; cases e'
   | some s=>
     rw [q] at e'
     have e3:s.toD=d:=qg e'
     have hi:=zcz q
     obtain ⟨u,fp,e1,w⟩:=r.at (i:=i) (s:=s) (by rw [zcb hi]; exact q)
     rw [List.getElem?_append_left (h ▸ hi)] at e1
     have rv':σ[i]?=some (some v):=rv
     rw [rv'] at e1
     have e2:v=u:=by simpa using e1
     subst e2
     rw [<- e3]
     exact w.view r.fr
inductive TkC (K:W.Frag) (U:Env) (σ:St) (F G H:Hp) (v:V) (d:D):Prop
 | mk (F':Hp):qK F F'->RepE K F' H v d->Rel K U σ F' G H->TkC K U σ F G H v d
theorem takeC (r:Rel K (U++(qL x::U')) (σ++(some v::σ')) F G H) (h:U.length=σ.length) (rv:RV σ v x) (e:qV x U=some d):
  TkC K (U++U') (σ++σ') F G H v d:=by
 cases x with
 | v s=>
   obtain ⟨u,F',e1,sm,rp,r'⟩:=r.give (i:=U.length) (s:=s) zaK
   rw [h,List.getElem?_append_right (Nat.le_refl _),Nat.sub_self] at e1
   have e2:v=u:=by simpa using e1
   subst e2
   have e3:s.toD=d:=qg e
   rw [show (U++qL (.v s)::U').set U.length (some (S.sh s.toD))=U++some (S.sh s.toD)::U' from zdc] at r'
   exact ⟨F',sm,.inl (e3 ▸ rp),r'.mid h⟩
 | loc i=>
   have e':(match slot U i with | some s=>if s.flat then some s.toD else none | none=>none)=some d:=e
   cases q:slot U i with
   | none=>rw [q] at e'; cases e'
   | some s=>
     rw [q] at e'
     have hi:=zcz q
     obtain ⟨u,fp,e1,w⟩:=r.at (i:=i) (s:=s) (by rw [zcb hi]; exact q)
     rw [List.getElem?_append_left (h ▸ hi)] at e1
     have rv':σ[i]?=some (some v):=rv
     rw [rv'] at e1
     have e2:v=u:=by simpa using e1
     subst e2
     refine ⟨F,qK.refl F,?_,r.mid h⟩
     by_cases hf:s.flat=true
     ·have e3:s.toD=d:=by
       grind
      subst e3
      cases w with
      | sh r=>exact .inl r
      | lst e0 r0=>
        obtain ⟨r1,_⟩:=r0.sh hf
        exact .inr (.inl ⟨_,_,_,rfl,by simp,e0,r1⟩)
      | dK e0 k0 r0=>
        obtain ⟨r1,_⟩:=r0.sh hf
        exact .inr (.inr (.inl ⟨_,_,_,_,rfl,by simp,e0,k0,r1⟩))
      | dT e0 k0 r0=>
        obtain ⟨r1,_⟩:=r0.sh hf
        exact .inr (.inr (.inr ⟨_,_,_,_,rfl,by simp,e0,k0,r1⟩))
      | st _ _=>exact absurd hf (by simp [S.flat])
     grind
inductive GvR (K:W.Frag) (L:Prop) (U:Env) (σ:St) (F G H:Hp):Prop
 | mk (F':Hp):qK F F'->L->Rel K U σ F' G H->GvR K L U σ F G H
theorem giveR (r:Rel K (U++(qL x::U')) (σ++(some v::σ')) F G H) (h:U.length=σ.length) (rv:RV σ v x) (e:give x U=some (s,U1)):
  GvR K (U1.length=U.length) (U1++(some s::U')) (σ++(some v::σ')) F G H:=by
 cases x with
 | v t=>
   have e':some (t,U)=some (s,U1):=e
   cases e'
   exact ⟨F,qK.refl F,rfl,r⟩
 | loc i=>
   have e':(match slot U i with | some s=>some (S.sh s.toD,U.set i (some (.sh s.toD))) | none=>none)=some (s,U1):=e
   cases q:slot U i with
   | none=>rw [q] at e'; cases e'
   | some t=>
     rw [q] at e'
     cases e'
     have hi:=zcz q
     obtain ⟨u,F',e1,sm,rp,r'⟩:=r.give (i:=i) (s:=t) (by rw [zcb hi]; exact q)
     rw [List.getElem?_append_left (h ▸ hi)] at e1
     have rv':σ[i]?=some (some v):=rv
     rw [rv'] at e1
     have e2:v=u:=by simpa using e1
     subst e2
     rw [List.set_append_left _ _ hi] at r'
     refine ⟨F',sm,by simp,?_⟩
     obtain ⟨fp,en,nd,ap⟩:=r'.en
     have hl:(U.set i (some (S.sh t.toD))).length=σ.length:=by simpa using h
     obtain ⟨f1,f2,rfl,a,b⟩:=en.cut hl
     have b':qM K F' H (none::U') (some v::σ') f2:=b
     cases b' with
     | no b=>exact ⟨r'.fr,r'.gr,f1++([]++f2),a.app (.so (.sh rp) b),by simpa using nd,fun x hx=>ap x (by simpa using hx)⟩
end
theorem tW.mono (h:tW X w σ H Q) (k:∀ v H',Q v H'->Q' v H'):tW X w σ H Q':=by
 obtain ⟨F,G,U,P,PX,q8,hw,hok,hx⟩:=h
 exact ⟨F,G,U,P,PX,q8,hw,fun r U' v F' H' a b c d=>k _ _ (hok r U' v F' H' a b c d),hx⟩
inductive Two (X:Cx) (σ:St) (k:R->R->Env->WQ->WX->Prop) (Q:VK) (v u:V) (H:Hp):Prop
 | mk (F G:Hp) (U:Env) (x y:R) (P:WQ) (PX:WX) (q8:Rel X.K (U++[qL x,qL y]) (σ++[some v,some u]) F G H) (hl:U.length=σ.length) (rx:RV σ v x) (ry:RV σ u y) (hk:k x y U P PX) (hok:∀ r U' v F' H',P r U'->qK F F'->Rel X.K (U'++[qL r]) (σ++[some v]) F' G H'->RV σ v r->Q v H') (hx:XC X (·=σ) F G PX):Two X σ k Q v u H
theorem two (h:tW X (fun U Q E=>wa U (fun x U1=>wb U1 (fun y U2=>k x y U2 Q E) E) E) σ H Q):
  tW X wa σ H fun v H1=>tW X wb σ H1 fun u H2=>Two X σ k Q v u H2:=by
 obtain ⟨F,G,U,P,PX,q8,hw,hok,hx⟩:=h
 refine ⟨F,G,U,_,PX,q8,hw,fun x U1 v F1 H1 hp1 s1 r1 rv1=>?_,hx⟩
 have h1:=len1 r1
 obtain ⟨G1,rel1,gg,back⟩:=r1.hide h1
 refine ⟨F1,G1,U1,_,PX,rel1,hp1,fun y U2 u F2 H2 hp2 s2 r2 rv2=>?_,hx.mono (fun _ z=>z) s1 gg⟩
 have h2:=len1 r2
 have r3:=back s2 r2
 rw [List.append_assoc,List.append_assoc] at r3
 exact ⟨F2,G,U2,x,y,P,PX,Rel.swap (U1:=[qL y]) (σ1:=[some u]) (U2:=[qL x]) (σ2:=[some v]) h2 rfl r3,h2,rv1,rv2,hp2,fun r U' v F' H' a b c d=>hok r U' v F' H' a (s1.trans (s2.trans b)) c d,hx.grow (s1.trans s2)⟩
inductive One (X:Cx) (σ:St) (k:R->Env->WQ->WX->Prop) (Q:VK) (v:V) (H:Hp):Prop
 | mk (F G:Hp) (U:Env) (x:R) (P:WQ) (PX:WX) (q8:Rel X.K (U++[qL x]) (σ++[some v]) F G H) (hl:U.length=σ.length) (rx:RV σ v x) (hk:k x U P PX) (hok:∀ r U' v F' H',P r U'->qK F F'->Rel X.K (U'++[qL r]) (σ++[some v]) F' G H'->RV σ v r->Q v H') (hx:XC X (·=σ) F G PX):One X σ k Q v H
theorem one (h:tW X (fun U Q E=>wa U (fun x U1=>k x U1 Q E) E) σ H Q):tW X wa σ H fun v H1=>One X σ k Q v H1:=by
 obtain ⟨F,G,U,P,PX,q8,hw,hok,hx⟩:=h
 exact ⟨F,G,U,_,PX,q8,hw,fun x U1 v F1 H1 hp1 s1 r1 rv1=>⟨F1,G,U1,x,P,PX,r1,len1 r1,rv1,hp1,fun r U' v F' H' a b c d=>hok r U' v F' H' a (s1.trans b) c d,hx.grow s1⟩,hx⟩
theorem zkS (hN:X.N[i]?=some x) (hv:Vis X.env.scope x) (hd:(x == ("__debug__":Str))=false:=by decide) (hcd:(x == ("__classdict__":Str))=false:=by decide):FE X (.Name x pos) (qF i):=by
 intro pn xe hp
 refine PE.imp (zlY (X:=wp X pn xe) hN hv hd hcd) fun σ H Q h=>?_
 obtain ⟨F,G,U,P,PX,q8,hw,hok,hx⟩:=h
 unfold qF at hw
 cases q:slot U i with
 | none=>rw [q] at hw; exact hw.elim
 | some s=>
   obtain ⟨v,fp,e1,sr⟩:=q8.at q
   rw [q] at hw
   cases s with
   | sh d=>
     cases sr with
     | sh r=>exact ⟨v,e1,hok _ _ v F H hw (qK.refl F) (q8.push r) trivial⟩
   | lst l=>exact ⟨v,e1,hok _ _ v F H hw (qK.refl F) q8.pushN e1⟩
   | dct t a b=>exact ⟨v,e1,hok _ _ v F H hw (qK.refl F) q8.pushN e1⟩
   | set l=>exact ⟨v,e1,hok _ _ v F H hw (qK.refl F) q8.pushN e1⟩
theorem fe_c (h:∀ X:Cx,PE X e (tC v)) (r:∀ K F,Rep K F v d):FE X e (wC d):=by
 intro pn xe hp
 refine PE.imp (h _) fun σ H Q h=>?_
 obtain ⟨F,G,U,P,PX,q8,hw,hok,hx⟩:=h
 exact hok _ _ v F H hw (qK.refl F) (q8.push (r _ _)) trivial
theorem zad:FE X (.Constant (.int i) j pos) (wC (.int i)):=fe_c (fun _=>zmG) fun _ _=>.int i
theorem zmw:FE X (.Constant (.bool b) j pos) (wC (.bl b)):=fe_c (fun _=>zoj) fun _ _=>.bl b
theorem zkT:FE X (.Constant .none j pos) (wC .non):=fe_c (fun _=>zl5) fun _ _=>.non
theorem zaG (e:x.cps.toList=l) (z:l.length<=16777216):FE X (.Constant (.str x) j pos) (wC (.str l)):=fe_c (fun _=>zll) fun _ _=>.str e z
theorem OpR.or (h:OpR X f r) (h':OpR X f r'):OpR X f (fun x y H Q=>r x y H Q\/r' x y H Q):=fun qZ s σ H x y v u Q I rx ry q=>
 q.elim (fun z=>h qZ s σ H x y v u Q I rx ry z) fun z=>h' qZ s σ H x y v u Q I rx ry z
noncomputable def Does (K:W.Frag) (r:R2) (op:D->D->Option S):Prop:=∀ (σ:St) (U:Env) (F G H:Hp) (x y:V) (p q:D) (s:S) (Q:VK),Rel K U σ F G H->RepE K F H x p->RepE K F H y q->op p q=some s->
 (∀ v F' H',qK F F'->Rel K (U++[some s]) (σ++[some v]) F' G H'->Q v H')->r x y H Q
theorem zc7 (ho:∀ pn xe,OpR (wp X pn xe) (binaryOp op) r) (hd:Does X.K r o) (ha:FE X a wa) (hb:FE X b wb):FE X (.BinOp a op b pos) (qQ o wa wb):=by
 intro pn xe hp
 refine PE.imp (znr (ho pn xe) (ha pn xe hp) (hb pn xe hp)) fun σ H Q h=>?_
 refine (two (k:=fun x y U2 Q E=>qJ (qV x U2) fun p=>qJ (qV y U2) fun q=>qJ (o p q) fun s=>Q (.v s) U2) h).mono fun v H1 h1=>h1.mono fun u H2 h2=>?_
 obtain ⟨F,G,U,x,y,P,PX,q8,hl,rx,ry,hk,hok,hx⟩:=h2
 obtain ⟨p,ep,hk⟩:=zae hk
 obtain ⟨q,eq,hk⟩:=zae hk
 obtain ⟨t,et,hk⟩:=zae hk
 obtain ⟨F1,s1,re1,rel1⟩:=takeC q8 hl rx ep
 obtain ⟨F2,s2,re2,rel2⟩:=takeC (U':=[]) (σ':=[]) rel1 hl ry eq
 rw [List.append_nil,List.append_nil] at rel2
 exact hd σ U F2 G H2 v u p q t Q rel2 (re1.mono s2) re2 et fun v' F' H' sm r'=>hok (.v t) U v' F' H' hk (s1.trans (s2.trans sm)) r' trivial
theorem tWA.mono (h:tWA X w σ H Q) (k:∀ v H',Q v H'->Q' v H'):tWA X w σ H Q':=by
 obtain ⟨F,G,U,P,PX,q8,hw,hok,hx⟩:=h
 exact ⟨F,G,U,P,PX,q8,hw,fun r U' v F' H' a b c d e=>k _ _ (hok r U' v F' H' a b c d e),hx⟩
inductive TwoT (X:Cx) (σ:St) (k:R->R->Env->(Bool->Env->Prop)->WX->Prop) (Q:Bool->Hp->Prop) (v u:V) (H:Hp):Prop
 | mk (F G:Hp) (U:Env) (x y:R) (P:Bool->Env->Prop) (PX:WX) (q8:Rel X.K (U++[qL x,qL y]) (σ++[some v,some u]) F G H) (hl:U.length=σ.length) (rx:RV σ v x) (ry:RV σ u y) (hk:k x y U P PX) (hok:∀ r U' F' H',P r U'->qK F F'->Rel X.K U' σ F' G H'->Q r H') (hx:XC X (·=σ) F G PX):TwoT X σ k Q v u H
theorem twoT (h:tWT X (fun U Q E=>wa U (fun x U1=>wb U1 (fun y U2=>k x y U2 Q E) E) E) σ H Q):
  tW X wa σ H fun v H1=>tW X wb σ H1 fun u H2=>TwoT X σ k Q v u H2:=by
 obtain ⟨F,G,U,P,PX,q8,hw,hok,hx⟩:=h
 refine ⟨F,G,U,_,PX,q8,hw,fun x U1 v F1 H1 hp1 s1 r1 rv1=>?_,hx⟩
 have h1:=len1 r1
 obtain ⟨G1,rel1,gg,back⟩:=r1.hide h1
 refine ⟨F1,G1,U1,_,PX,rel1,hp1,fun y U2 u F2 H2 hp2 s2 r2 rv2=>?_,hx.mono (fun _ z=>z) s1 gg⟩
 have h2:=len1 r2
 have r3:=back s2 r2
 rw [List.append_assoc,List.append_assoc] at r3
 exact ⟨F2,G,U2,x,y,P,PX,Rel.swap (U1:=[qL y]) (σ1:=[some u]) (U2:=[qL x]) (σ2:=[some v]) h2 rfl r3,h2,rv1,rv2,hp2,fun r U' F' H' a b c=>hok r U' F' H' a (s1.trans (s2.trans b)) c,hx.grow (s1.trans s2)⟩
noncomputable def DoesC (K:W.Frag) (r:R2) (op:D->D->Option Bool):Prop:=∀ (H:Hp) (x y:V) (p q:D) (k:Bool) (Q:VK),Rep K H x p->Rep K H y q->op p q=some k->Q (.bl k) H->r x y H Q
theorem look2 {K:W.Frag} (q8:Rel K (U++[qL x,qL y]) (σ++[some v,some u]) F G H) (hl:U.length=σ.length) (rx:RV σ v x) (ry:RV σ u y) (ep:view x U=some p) (eq:view y U=some q):
  Rep K H v p/\Rep K H u q/\Rel K U σ F G H:=by
 have rel':Rel K (U++[qL y]) (σ++[some u]) F G H:=q8.mid hl
 exact ⟨look q8 hl rx ep,look (U':=[]) (σ':=[]) rel' hl ry eq,rel'.drop hl⟩
theorem zav (ho:∀ pn xe,OpR (wp X pn xe) (compareOp op) r) (hd:DoesC X.K r o) (ha:FE X a wa) (hb:FE X b wb) (hm:behindInMarks op b=false):FT X (.Compare a [op] [b] pos) (wCmp o wa wb):=by
 intro pn xe hp
 refine PT.imp (zgD (ho pn xe) (ha pn xe hp) (hb pn xe hp) hm) fun σ H Q h=>?_
 refine (twoT (k:=fun x y U2 Q E=>qJ (view x U2) fun p=>qJ (view y U2) fun q=>qJ (o p q) fun c=>Q c U2) h).mono fun v H1 h1=>h1.mono fun u H2 h2=>?_
 obtain ⟨F,G,U,x,y,P,PX,q8,hl,rx,ry,hk,hok,hx⟩:=h2
 obtain ⟨p,ep,hk⟩:=zae hk
 obtain ⟨q,eq,hk⟩:=zae hk
 obtain ⟨t,et,hk⟩:=zae hk
 obtain ⟨r1,r2,rel'⟩:=look2 q8 hl rx ry ep eq
 exact hd H2 v u p q t _ r1 r2 et ⟨t,rfl,hok t U F H2 hk (qK.refl F) rel'⟩
theorem zbc (ho:∀ pn xe,OpR (wp X pn xe) (compareOp op) r) (hd:DoesC X.K r o) (ha:FE X a wa) (hb:FE X b wb) (hm:behindInMarks op b=false):FE X (.Compare a [op] [b] pos) (wOfT (wCmp o wa wb)):=by
 intro pn xe hp
 refine PE.imp (zkK (ho pn xe) (ha pn xe hp) (hb pn xe hp) hm) fun σ H Q h=>?_
 refine (two (k:=fun x y U2 Q E=>qJ (view x U2) fun p=>qJ (view y U2) fun q=>qJ (o p q) fun c=>Q (.v (.sh (.bl c))) U2) h).mono fun v H1 h1=>h1.mono fun u H2 h2=>?_
 obtain ⟨F,G,U,x,y,P,PX,q8,hl,rx,ry,hk,hok,hx⟩:=h2
 obtain ⟨p,ep,hk⟩:=zae hk
 obtain ⟨q,eq,hk⟩:=zae hk
 obtain ⟨t,et,hk⟩:=zae hk
 obtain ⟨r1,r2,rel'⟩:=look2 q8 hl rx ry ep eq
 exact hd H2 v u p q t _ r1 r2 et (hok _ U (.bl t) F H2 hk (qK.refl F) (rel'.push (.bl t)) trivial)
theorem zkw {K:W.Frag} (r:Rep K H v d) (e:truth d=some k):TruV K v H k:=by
 cases r with
 | non=>exact (qg e).symm
 | bl b=>exact (qg e).symm
 | int i=>
   have e':=(qg e).symm
   rw [e']
   show decide (i≠0)=(i !=0)
   by_cases h:i=0 <;> simp [h]
 | str e1 z=>
   rename_i x l
   have e':=(qg e).symm
   have hl:x.length=l.length:=by rw [<- e1]; rfl
   refine ⟨by rw [hl,qz]; exact z,?_⟩
   rw [e',hl]
   cases l with
   | nil=>rfl
   | cons a r=>simp; lia
 | tup h r=>
   refine .inr (.inl ⟨_,SqT.of h,?_⟩)
   have e':=(qg e).symm
   rw [e']
   cases r <;> rfl
 | lst h r=>
   refine .inl ⟨_,h,?_⟩
   have e':=(qg e).symm
   rw [e']
   cases r <;> rfl
 | dK h k r=>cases e
 | dT h k r=>cases e
 | st h r=>cases e
 | exc h k=>cases e
theorem zgj (ha:FE X a wa) (he:∀ whole,isTrue a X.env whole=(do let v <- whole; standAt a.pos; holding [v] (truthy v)):=by intro _; rfl):FT X a (wTest wa):=by
 intro pn xe hp
 refine PT.imp (zi4 (ha pn xe hp) he) fun σ H Q h=>?_
 obtain ⟨F,G,U,P,PX,q8,hw,hok,hx⟩:=h
 refine ⟨F,G,U,_,PX,q8,hw,fun x U1 v F1 H1 hk s1 r1 rv1=>?_,hx⟩
 obtain ⟨p,ep,hk⟩:=zae hk
 obtain ⟨t,et,hk⟩:=zae hk
 have hl:=len1 r1
 exact ⟨t,zkw (look (U':=[]) (σ':=[]) r1 hl rv1 ep) et,hok t U1 F1 H1 hk s1 (r1.drop hl)⟩
theorem thenT {k:Bool->Env->(Bool->Env->Prop)->WX->Prop} (h:tWT X (fun U Q E=>ta U (fun c U1=>k c U1 Q E) E) σ H Q)
  (hk:∀ (c:Bool) (F G:Hp) (U:Env) (P:Bool->Env->Prop) (PX:WX) (H1:Hp),Rel X.K U σ F G H1->k c U P PX->(∀ r U' F' H',P r U'->qK F F'->Rel X.K U' σ F' G H'->Q r H')->XC X (·=σ) F G PX->Q' c H1):tWT X ta σ H Q':=by
 obtain ⟨F,G,U,P,PX,q8,hw,hok,hx⟩:=h
 exact ⟨F,G,U,_,PX,q8,hw,fun c U1 F1 H1 hp s1 r1=>hk c F1 G U1 P PX H1 r1 hp (fun r U' F' H' a b c=>hok r U' F' H' a (s1.trans b) c) (hx.grow s1),hx⟩
theorem zhM (h:FW X a ta):FT X a ta:=fun pn xe hp=>(h pn xe hp).pt
theorem zdm (h:FT X a ta):FW X (.BoolOp .And [a] pos) ta:=fun pn xe hp=>zkm (h pn xe hp)
theorem zmn (h:FT X a ta):FW X (.BoolOp .Or [a] pos) ta:=fun pn xe hp=>zmR (h pn xe hp)
theorem ze3 {rest:List Expr} (h:FT X a ta) (h':FW X (.BoolOp .And (b::rest) pos) tb):FW X (.BoolOp .And (a::b::rest) pos) (wtAnd ta tb):=fun pn xe hp=>by
 refine PW.imp (znd (h pn xe hp) (h' pn xe hp)) fun σ H Q q=>?_
 refine thenT (k:=fun c U1 Q E=>if c then tb U1 Q E else Q false U1) q fun c F G U P PX H1 q8 hk hok hx=>?_
 cases c with
 | true=>exact ⟨F,G,U,P,PX,q8,hk,hok,hx⟩
 | false=>exact hok false U F H1 hk (qK.refl F) q8
theorem znt {rest:List Expr} (h:FT X a ta) (h':FW X (.BoolOp .Or (b::rest) pos) tb):FW X (.BoolOp .Or (a::b::rest) pos) (wtOr ta tb):=fun pn xe hp=>by
 refine PW.imp (zoZ (h pn xe hp) (h' pn xe hp)) fun σ H Q q=>?_
 refine thenT (k:=fun c U1 Q E=>if c then Q true U1 else tb U1 Q E) q fun c F G U P PX H1 q8 hk hok hx=>?_
 cases c with
 | false=>exact ⟨F,G,U,P,PX,q8,hk,hok,hx⟩
 | true=>exact hok true U F H1 hk (qK.refl F) q8
theorem zms (h:FT X a ta):FT X (.UnaryOp .Not a pos) (wtNot ta):=fun pn xe hp=>by
 refine PT.imp (zlH (h pn xe hp)) fun σ H Q q=>?_
 exact thenT (k:=fun c U1 Q E=>Q (!c) U1) q fun c F G U P PX H1 q8 hk hok hx=>hok _ U F H1 hk (qK.refl F) q8
theorem zfB (hc:FT X c tc) (ha:FE X a wa) (hb:FE X b wb):FE X (.IfExp c a b pos) (wIfE tc wa wb):=fun pn xe hp=>by
 refine PE.imp (ziq (hc pn xe hp) (ha pn xe hp) (hb pn xe hp)) fun σ H Q q=>?_
 obtain ⟨F,G,U,P,PX,q8,hw,hok,hx⟩:=q
 refine ⟨F,G,U,_,PX,q8,hw,fun c U1 F1 H1 hk s1 r1=>?_,hx⟩
 cases c with
 | true=>exact ⟨F1,G,U1,P,PX,r1,hk,fun r U' v F' H' a b c d=>hok r U' v F' H' a (s1.trans b) c d,hx.grow s1⟩
 | false=>exact ⟨F1,G,U1,P,PX,r1,hk,fun r U' v F' H' a b c d=>hok r U' v F' H' a (s1.trans b) c d,hx.grow s1⟩
theorem zo0 {K:W.Frag} {c:Bool} (r:Rep K H v (.bl c)):v=.bl c:=by cases r; rfl
theorem zk5 (h:FE X a wa):FE X (.BoolOp op [a] pos) wa:=fun pn xe hp=>zkP (h pn xe hp)
theorem zm1 {rest:List Expr} (ha:FE X a wa) (hb:FE X (.BoolOp .And (b::rest) pos) wb):FE X (.BoolOp .And (a::b::rest) pos) (wAndV wa wb):=fun pn xe hp=>by
 refine PE.imp (zmH (ha pn xe hp) (hb pn xe hp)) fun σ H Q q=>?_
 refine (one (k:=fun x U1 Q E=>match view x U1 with | some (.bl c)=>if c then wb U1 Q E else Q (.v (.sh (.bl false))) U1 | _=>False) q).mono fun v H1 h1=>?_
 obtain ⟨F,G,U,x,P,PX,q8,hl,rx,hk,hok,hx⟩:=h1
 split at hk
 ·rename_i c e
  refine ⟨c,zo0 (look (U':=[]) (σ':=[]) q8 hl rx e),?_⟩
  cases c with
  | true=>exact ⟨F,G,U,P,PX,q8.drop hl,hk,hok,hx⟩
  | false=>exact hok _ U (.bl false) F H1 hk (qK.refl F) ((q8.drop hl).push (.bl false)) trivial
 ·exact hk.elim
theorem zab:FA X [] qH:=fun pn xe hp=>PA.imp zjs fun σ H Q q=>by
 obtain ⟨F,G,U,P,PX,q8,hw,hok,hx⟩:=q
 exact hok [] U [] F H hw (qK.refl F) (by simpa using q8) q8.len trivial
theorem zaa (ha:FE X e wa) (hb:FA X es wb) (hs:starEach (e::es) X.env=(false,eval e X.env)::starEach es X.env:=by rfl):FA X (e::es) (qG wa wb):=fun pn xe hp=>by
 refine PA.imp (zhZ (ha pn xe hp) (hb pn xe hp) hs) fun σ H Q q=>?_
 obtain ⟨F,G,U,P,PX,q8,hw,hok,hx⟩:=q
 refine ⟨F,G,U,_,PX,q8,hw,fun x U1 v F1 H1 hp1 s1 r1 rv1=>?_,hx⟩
 have h1:=len1 r1
 obtain ⟨G1,rel1,gg,back⟩:=r1.hide h1
 refine ⟨F1,G1,U1,_,PX,rel1,hp1,fun rs U2 vs F2 H2 hp2 s2 r2 h2 rv2=>?_,hx.mono (fun _ z=>z) s1 gg⟩
 have r3:=back s2 r2
 rw [List.append_assoc,List.append_assoc] at r3
 have hl:(rs.map qL).length=(vs.map some).length:=by
  have:=r2.len
  grind
 exact hok (x::rs) U2 (v::vs) F2 H2 hp2 (s1.trans s2) (Rel.swap (U1:=rs.map qL) (σ1:=vs.map some) (U2:=[qL x]) (σ2:=[some v]) h2 hl r3) h2 ⟨rv1,rv2⟩
section
variable {K:W.Frag}
theorem RVs.len:∀ {vs:List V} {rs:List R},RVs σ vs rs->vs.length=rs.length
 | [],[],_=>rfl
 | [],_::_,h=>h.elim
 | _::_,[],h=>h.elim
 | _::vs,_::rs,h=>by simp [RVs.len h.2]
theorem zbs:∀ {rs:List R} {vs:List V} {U U' U1:Env} {ss:List S} {F:Hp} {σ':St},Rel K (U++(rs.map qL++U')) (σ++(vs.map some++σ')) F G H->U.length=σ.length->RVs σ vs rs->giveAll rs U=some (ss,U1)->
  ∃ F',qK F F'/\U1.length=U.length/\ss.length=rs.length/\Rel K (U1++(ss.map some++U')) (σ++(vs.map some++σ')) F' G H
 | [],[],U,U',U1,ss,F,σ',r,h,_,e=>by
   have e':some (([]:List S),U)=some (ss,U1):=e
   cases e'
   exact ⟨F,qK.refl F,rfl,rfl,r⟩
 | [],_::_,_,_,_,_,_,_,_,_,h,_=>h.elim
 | _::_,[],_,_,_,_,_,_,_,_,h,_=>h.elim
 | x::rs,v::vs,U,U',U1,ss,F,σ',r,h,rv,e=>by
   have e':(match give x U with | some (s,U1)=>(match giveAll rs U1 with | some (ss,U2)=>some (s::ss,U2) | none=>none) | none=>none)=some (ss,U1):=e
   cases q:give x U with
   | none=>rw [q] at e'; cases e'
   | some p=>
     obtain ⟨s,U2⟩:=p
     rw [q] at e'
     cases q2:giveAll rs U2 with
     | none=>simp only [q2] at e'; cases e'
     | some p2=>
       obtain ⟨ts,U3⟩:=p2
       simp only [q2] at e'
       cases e'
       obtain ⟨F1,s1,l1,r1⟩:=giveR (U':=rs.map qL++U') (σ':=vs.map some++σ') r h rv.1 q
       have h2:U2.length=σ.length:=l1.trans h
       have hl:(rs.map qL++U').length=(vs.map some++σ').length:=by
        have:=r1.len
        rw [List.length_append,List.length_append,h2,List.length_cons,List.length_cons] at this
        lia
       have hl':U'.length=σ'.length:=by
        have:=rv.2.len
        simp at hl
        lia
       have r2:=Rel.swap (U1:=[some s]) (σ1:=[some v]) (U2:=rs.map qL++U') (σ2:=vs.map some++σ') h2 rfl r1
       rw [List.append_assoc,List.append_assoc] at r2
       obtain ⟨F2,s2,l2,l3,r3⟩:=zbs (rs:=rs) (vs:=vs) r2 h2 rv.2 q2
       have h3:U1.length=σ.length:=l2.trans h2
       rw [<- List.append_assoc (ts.map some),<- List.append_assoc (vs.map some)] at r3
       have r4:=Rel.swap (U1:=ts.map some++U') (σ1:=vs.map some++σ') (U2:=[some s]) (σ2:=[some v]) h3 (by simp [l3,rv.2.len,hl']) r3
       exact ⟨F2,s1.trans s2,l2.trans l1,by simp [l3],r4⟩
theorem envReps:∀ {vs:List V} {ss:List S} {fp:List Addr},qM K F H (ss.map some) (vs.map some) fp->qN K F H vs ss fp
 | [],[],_,.nil=>.nil
 | [],_::_,_,h=>nomatch h
 | _::_,[],_,h=>nomatch h
 | v::vs,s::ss,_,.so a b=>.cons a (envReps b)
theorem Rel.newL (r:Rel K (U++ss.map some) (σ++vs.map some) F G H) (h:U.length=σ.length) (hp:H p=none):
  Rel K (U++[some (.lst ss)]) (σ++[some (.ref p)]) F G (upd H p (.lst vs)):=by
 obtain ⟨f0,g0,n0⟩:=r.free hp
 obtain ⟨fp,e,nd,ap⟩:=r.en
 have hne:∀ a∈fp,a≠p:=fun a ha z=>n0 fp e (z ▸ ha)
 obtain ⟨f1,f2,rfl,en1,en2⟩:=(e.mono (H':=upd H p (.lst vs)) (qK.refl F) fun a ha=>zag (hne a ha)).cut h
 refine ⟨qK.updR r.fr f0,fun a u q=>?_,f1++((p::f2)++[]),en1.app (.so (.lst zam (envReps en2)) .nil),?_,fun a ha=>?_⟩
 ·have hp:a≠p:=fun z=>by rw [z,g0] at q; cases q
  rw [zag hp]; exact r.gr a u q
 ·grind
 grind
theorem Rel.giveD {ss:List S} (r:Rel K (U++ss.map some) (σ++vs.map some) F G H) (h:U.length=σ.length):∃ F',qK F F'/\qX K F' vs (ss.map S.toD)/\Rel K U σ F' G H:=by
 classical
 obtain ⟨fp,e,nd,ap⟩:=r.en
 obtain ⟨f1,f2,rfl,a,b⟩:=e.cut h
 obtain ⟨n1,n2,n3⟩:=List.nodup_append.mp nd
 have sm:qK F (fun x=>if x∈f2 then H x else F x):=fun x o w=>by
  grind
 have rp:=(envReps b).frz sm fun x hx=>by simp only [hx,if_true]
 rw [S.toDs_map] at rp
 refine ⟨_,sm,rp,fun x o w=>?_,fun x o w=>?_,f1,a.mono sm fun _ _=>rfl,n1,fun x hx=>?_⟩
 ·by_cases z:x∈f2
  ·simp only [z,if_true] at w; exact w
  ·simp only [z,if_false] at w; exact r.fr x o w
 ·have w2:=r.gr x o w
  grind
 grind
end
inductive Many (X:Cx) (σ:St) (k:List R->Env->WQ->WX->Prop) (Q:VK) (vs:List V) (H:Hp):Prop
 | mk (F G:Hp) (U:Env) (rs:List R) (P:WQ) (PX:WX) (q8:Rel X.K (U++rs.map qL) (σ++vs.map some) F G H) (hl:U.length=σ.length) (rv:RVs σ vs rs) (hk:k rs U P PX) (hok:∀ r U' v F' H',P r U'->qK F F'->Rel X.K (U'++[qL r]) (σ++[some v]) F' G H'->RV σ v r->Q v H') (hx:XC X (·=σ) F G PX):Many X σ k Q vs H
theorem many (h:tW X (fun U Q E=>wa U (fun rs U1=>k rs U1 Q E) E) σ H Q):tWA X wa σ H fun vs H1=>Many X σ k Q vs H1:=by
 obtain ⟨F,G,U,P,PX,q8,hw,hok,hx⟩:=h
 exact ⟨F,G,U,_,PX,q8,hw,fun rs U1 vs F1 H1 hp1 s1 r1 h1 rv1=>⟨F1,G,U1,rs,P,PX,r1,h1,rv1,hp1,fun r U' v F' H' a b c d=>hok r U' v F' H' a (s1.trans b) c d,hx.grow s1⟩,hx⟩
theorem zaF (h:FA X es wa):FE X (.List es pos) (wLst wa):=fun pn xe hp=>by
 refine PE.imp (zl1 (h pn xe hp)) fun σ H Q q=>?_
 refine (many (k:=fun rs U1 Q E=>qJ (if rs.length<=big then giveAll rs U1 else none) fun p=>Q (.v (.lst p.1)) p.2) q).mono fun vs H1 h1=>?_
 obtain ⟨F,G,U,rs,P,PX,q8,hl,rv,hk,hok,hx⟩:=h1
 obtain ⟨⟨ss,U1⟩,ep,hk⟩:=zae hk
 by_cases hz:rs.length<=big
 ·rw [qq hz] at ep
  obtain ⟨F1,s1,l1,l2,r1⟩:=zbs (U':=[]) (σ':=[]) (by simpa using q8) hl rv ep
  refine ⟨by rw [rv.len,qz]; exact Nat.le_trans hz (by decide),fun p hp=>hok _ U1 (.ref p) F1 _ hk s1 (Rel.newL (by simpa using r1) (l1.trans hl) hp) trivial⟩
 ·rw [qr hz] at ep; cases ep
theorem zaB (h:FA X es wa):FE X (.Tuple es k pos) (wTup wa):=fun pn xe hp=>by
 refine PE.imp (zk0 (h pn xe hp)) fun σ H Q q=>?_
 refine (many (k:=fun rs U1 Q E=>qJ (if rs.length<=big then giveAll rs U1 else none) fun p=>Q (.v (.sh (.tup (p.1.map S.toD)))) p.2) q).mono fun vs H1 h1=>?_
 obtain ⟨F,G,U,rs,P,PX,q8,hl,rv,hk,hok,hx⟩:=h1
 obtain ⟨⟨ss,U1⟩,ep,hk⟩:=zae hk
 by_cases hz:rs.length<=big
 ·rw [qq hz] at ep
  obtain ⟨F1,s1,l1,l2,r1⟩:=zbs (U':=[]) (σ':=[]) (by simpa using q8) hl rv ep
  obtain ⟨F2,s2,rp,r2⟩:=Rel.giveD (U:=U1) (by simpa using r1) (l1.trans hl)
  refine ⟨by rw [rv.len,qz]; exact Nat.le_trans hz (by decide),fun p hp=>?_⟩
  have n2:=(r2.free hp).1
  exact hok _ U1 (.ref p) _ _ hk (s1.trans (s2.trans (qK.upd n2))) ((r2.newF hp).push (.tup zam (rp.mono (qK.upd n2)))) trivial
 ·rw [qr hz] at ep; cases ep
theorem KP.refl:KP ks σ σ:=fun _ _=>rfl
theorem KP.trans (a:KP ks σ σ1) (b:KP ks σ1 σ2):KP ks σ σ2:=fun i h=>(b i h).trans (a i h)
inductive tWS (X:Cx) (ks:List Nat) (w:WS) (D:L2.Ends) (σ:St) (H:Hp):Prop
 | mk (F G:Hp) (U:Env) (E:Ends) (q8:Rel X.K U σ F G H) (hw:w E U) (n:∀ U' σ' F' H',E.nx U'->KP ks σ σ'->qK F F'->Rel X.K U' σ' F' G H'->D.nx σ' H') (b:∀ U' σ' F' H',E.bk U'->KP ks σ σ'->qK F F'->Rel X.K U' σ' F' G H'->D.bk σ' H') (c:∀ U' σ' F' H',E.ct U'->KP ks σ σ'->qK F F'->Rel X.K U' σ' F' G H'->D.ct σ' H') (r:∀ r U' σ' v F' H',E.rt r U'->KP ks σ σ'->qK F F'->Rel X.K (U'++[qL r]) (σ'++[some v]) F' G H'->RV σ' v r->D.rt v H') (hx:XC X (KP ks σ) F G E.ex):tWS X ks w D σ H
noncomputable def FS (X:Cx) (ks:List Nat) (st:Stmt) (w:WS):Prop:=∀ (pn:List (Addr×Obj)) (xe:qE),PassesOwn (model X.prog X.w) X.A X.env xe->PS (wp X pn xe) st (tWS (wp X pn xe) ks w)
noncomputable def FSs (X:Cx) (ks:List Nat) (st:List Stmt) (w:WS):Prop:=∀ (pn:List (Addr×Obj)) (xe:qE),PassesOwn (model X.prog X.w) X.A X.env xe->PSs (wp X pn xe) st (tWS (wp X pn xe) ks w)
theorem PS.imp (h:PS X e t) (k:∀ D σ H,t' D σ H->t D σ H):PS X e t':=fun qZ s σ H D I q=>h qZ s σ H D I (k D σ H q)
theorem PSs.imp (h:PSs X e t) (k:∀ D σ H,t' D σ H->t D σ H):PSs X e t':=fun qZ s σ H D I q=>h qZ s σ H D I (k D σ H q)
inductive tWG (X:Cx) (ks:List Nat) (g:WG) (v:V) (σ:St) (H:Hp) (Q:St->Hp->Prop):Prop
 | mk (F G:Hp) (U:Env) (s:S) (P:Env->Prop) (q8:Rel X.K (U++[some s]) (σ++[some v]) F G H) (hw:g s U P) (n:∀ U' σ' F' H',P U'->KP ks σ σ'->qK F F'->Rel X.K U' σ' F' G H'->Q σ' H'):tWG X ks g v σ H Q
noncomputable def FG (X:Cx) (ks:List Nat) (tg:Expr) (g:WG):Prop:=∀ (pn:List (Addr×Obj)) (xe:qE),PassesOwn (model X.prog X.w) X.A X.env xe->PG (wp X pn xe) tg (tWG (wp X pn xe) ks g)
theorem PG.imp (h:PG X e t) (k:∀ v σ H Q,t' v σ H Q->t v σ H Q):PG X e t':=fun qZ s σ H v u Q I r q=>h qZ s σ H v u Q I r (k v σ H Q q)
section
variable {st:Stmt} {rest:List Stmt}
theorem zax:FSs X ks [] wPass:=fun pn xe hp=>PSs.imp zg3 fun D σ H q=>by
 obtain ⟨F,G,U,E,q8,hw,n,b,c,r,x⟩:=q
 exact n U σ F H hw KP.refl (qK.refl F) q8
theorem zac (h1:FS X ks st w1) (h2:FSs X ks rest w2):FSs X ks (st::rest) (qR w1 w2):=fun pn xe hp=>PSs.imp (ziU (h1 pn xe hp) (h2 pn xe hp)) fun D σ H q=>by
 obtain ⟨F,G,U,E,q8,hw,n,b,c,r,x⟩:=q
 refine ⟨F,G,U,{ E with nx:=w2 E },q8,hw,fun U1 σ1 F1 H1 hp k s1 r1=>?_,b,c,r,x⟩
 exact ⟨F1,G,U1,E,r1,hp,fun U' σ' F' H' h k' s r=>n U' σ' F' H' h (k.trans k') (s1.trans s) r,fun U' σ' F' H' h k' s r=>b U' σ' F' H' h (k.trans k') (s1.trans s) r,
  fun U' σ' F' H' h k' s r=>c U' σ' F' H' h (k.trans k') (s1.trans s) r,fun a U' σ' v F' H' h k' s q rv=>r a U' σ' v F' H' h (k.trans k') (s1.trans s) q rv,x.mono (fun σ2 k'=>k.trans k') s1 (qK.refl G)⟩
theorem zaf (h1:FS X ks st w1):FSs X ks [st] w1:=fun pn xe hp=>zjS (h1 pn xe hp)
theorem zaU (h:FE X e we) (hs:swapsWith e none pos.line X.env=pure false:=by rfl):FS X ks (.Expr e pos) (wExpr we):=fun pn xe hp=>PS.imp (zjW (h pn xe hp) hs) fun D σ H q=>by
 obtain ⟨F,G,U,E,q8,hw,n,b,c,r,x⟩:=q
 exact ⟨F,G,U,_,_,q8,hw,fun a U1 v F1 H1 hp s1 r1 rv=>n U1 σ F1 H1 hp KP.refl s1 (r1.drop (len1 r1)),x.mono (fun σ2 z=>by rw [z]; exact KP.refl) (qK.refl F) (qK.refl G)⟩
theorem zar (h:FE X e we):FS X ks (.Return (some e) pos) (wRet we):=fun pn xe hp=>PS.imp (zlR (h pn xe hp)) fun D σ H q=>by
 obtain ⟨F,G,U,E,q8,hw,n,b,c,r,x⟩:=q
 exact ⟨F,G,U,_,_,q8,hw,fun a U1 v F1 H1 hp s1 r1 rv=>r a U1 σ v F1 H1 hp KP.refl s1 r1 rv,x.mono (fun σ2 z=>by rw [z]; exact KP.refl) (qK.refl F) (qK.refl G)⟩
theorem za8 (hc:FT X c tc) (ha:FSs X ks a w1) (hb:FSs X ks b w2):FS X ks (.If c a b pos) (wIf tc w1 w2):=fun pn xe hp=>PS.imp (zo8 (hc pn xe hp) (ha pn xe hp) (hb pn xe hp)) fun D σ H q=>by
 obtain ⟨F,G,U,E,q8,hw,n,b,c,r,x⟩:=q
 refine ⟨F,G,U,_,_,q8,hw,fun k U1 F1 H1 hp s1 r1=>?_,x.mono (fun σ2 z=>by rw [z]; exact KP.refl) (qK.refl F) (qK.refl G)⟩
 have go:∀ w:WS,w E U1->tWS (wp X pn xe) ks w D σ H1:=fun w hw=>⟨F1,G,U1,E,r1,hw,fun U' σ' F' H' h k' s r=>n U' σ' F' H' h k' (s1.trans s) r,fun U' σ' F' H' h k' s r=>b U' σ' F' H' h k' (s1.trans s) r,
  fun U' σ' F' H' h k' s r=>c U' σ' F' H' h k' (s1.trans s) r,fun a U' σ' v F' H' h k' s q rv=>r a U' σ' v F' H' h k' (s1.trans s) q rv,x.grow s1⟩
 cases k with
 | true=>exact go _ hp
 | false=>exact go _ hp
theorem zah (he:FE X e we) (hg:FG X ks tg g) (hs:swapsWithSole [tg] e pos.line X.env=pure false:=by rfl) (hw:swappedStores [tg] e X.env=pure none:=by rfl)
  (h1:(assignEach [tg] X.env).map (·.2)=[assign tg X.env]:=by rfl):FS X ks (.Assign [tg] e pos) (qT g we):=fun pn xe hp=>PS.imp (zju (he pn xe hp) (hg pn xe hp) hs hw h1) fun D σ H q=>by
 obtain ⟨F,G,U,E,q8,hw,n,b,c,r,x⟩:=q
 refine ⟨F,G,U,_,_,q8,hw,fun a U1 v F1 H1 hp s1 r1 rv=>?_,x.mono (fun σ2 z=>by rw [z]; exact KP.refl) (qK.refl F) (qK.refl G)⟩
 obtain ⟨⟨s,U2⟩,eg,hk⟩:=zae hp
 obtain ⟨F2,s2,l2,r2⟩:=giveR (U':=[]) (σ':=[]) r1 (len1 r1) rv eg
 exact ⟨F2,G,U2,s,_,r2,hk,fun U' σ' F' H' h k' s r=>n U' σ' F' H' h k' (s1.trans (s2.trans s)) r⟩
end
theorem zcv (I:Inv X qZ σ H s) (hN:∀ j,X.N[j]?=some x->j=i) (hi:X.N[i]?=some x) (hx:Loc X.env.scope x) (r:qO v u)
  (h:∀ s',Inv X qZ (σ.set i (some v)) H s'->(∃ a,Heap.SameBut a s.heap s'.heap/\(a=X.env.locals\/X.env.cells.lookup x=some a))->Q () s') (hf:X.fn x=true\/X.env.scope.names.lookup x=some .local):wpAny M A (storeName X.env x u) Q E s:=by
 obtain ⟨m,hn,hl⟩:=id I.loc
 have hcls:(X.env.scope.kind == .class || (X.env.scope.kind == .module && X.env.locals !=X.env.globals))=false:=by rw [I.ok.kind]; rfl
 have hiσ:i < σ.length:=by rw [I.len]; exact (qh.mp hi).1
 have cne:=I.cne
 have tracked:∀ {a:Addr} {h':Heap},(∃ o,s.heap.get? a=some o/\H a=none)->Heap.SameBut a s.heap h'->HOk X.prog X.w H h':=fun {a h'} ha hs b ob e=>by
  obtain ⟨_,_,hfree⟩:=ha
  refine (I.hok b ob e).stay (fun c w' hc q=>(hs.2 c ?_).trans q) (fun _ q=>q) fun _ _ q=>q
  rintro rfl
  rcases hc with rfl | hc
  ·rw [hfree] at e; cases e
  ·rw [hfree] at hc; cases hc
 rcases hx with hk | hk
 ·refine wpAny_storeName_local hk hn (fun h' hn' hs=>?_) hcls
  obtain ⟨oL,_,_,hoL,_⟩:=id hn
  refine h _ ⟨I.ok,I.os,I.bare,⟨fun b o e n hb hx=>?_,fun b o e n hb hx=>?_,I.base.free,fun b o e hx=>?_,I.base.tups,I.base.frzs,I.base.tbls⟩,⟨_,hn',fun j y v' e1 e2 e3=>?_⟩,fun y c e=>?_,I.free,I.freeC,fun p hp=>?_,tracked ⟨oL,hoL,I.free⟩ hs,by simpa using I.len⟩ ⟨_,hs,.inl rfl⟩
  ·exact (hs.2 b (Nat.ne_of_lt (Nat.lt_of_lt_of_le (qf e) I.ok.above))).trans (I.base.keep b o e n hb hx)
  ·obtain ⟨sl,e1⟩:=I.base.slot b o e n hb hx
   exact ⟨sl,(hs.2 b (Nat.ne_of_lt (Nat.lt_of_lt_of_le (qf e) I.ok.above))).trans e1⟩
  ·obtain ⟨o',e1⟩:=I.base.there b o e hx
   exact ⟨o',(hs.2 b (Nat.ne_of_lt (Nat.lt_of_lt_of_le (qf e) I.ok.above))).trans e1⟩
  ·by_cases hj:j=i
   ·subst hj
    rw [hi] at e1; cases e1
    rw [List.getElem?_set_self hiσ] at e2
    cases e2
    exact ⟨u,r,.inl ⟨hk,by simp⟩⟩
   ·rw [List.getElem?_set_ne (Ne.symm hj)] at e2
    obtain ⟨u',r',q⟩:=hl j y v' e1 e2 e3
    refine ⟨u',r',?_⟩
    rcases q with ⟨k,e⟩ | ⟨k,c,e,z⟩
    ·refine .inl ⟨k,?_⟩
     have:y≠x:=fun e=>hj (hN j (e ▸ e1))
     simp [this,e]
    ·exact .inr ⟨k,c,e,z.sameBut hs (cne y c e)⟩
  ·obtain ⟨w',z⟩:=I.cell y c e
   exact ⟨w',z.sameBut hs (cne y c e)⟩
  ·obtain ⟨e,n,ne,nf,d⟩:=I.pin p hp
   exact ⟨(hs.2 p.1 ne).trans e,n,ne,nf,d⟩
 ·have hfn:X.fn x=true:=by
   rcases hf with z | z
   ·exact z
   ·rw [z] at hk; cases hk
  obtain ⟨c,hc⟩:=I.ok.has x (.inl hk)
  obtain ⟨w',z⟩:=I.cell x c hc
  refine wpAny_storeName_cell I.ok.kind hk hc z (fun h' hc' hs=>?_)
  obtain ⟨oc,hoc,hocd⟩:=id z
  refine h { s with heap:=h' } ⟨I.ok,I.os,I.bare,⟨fun b o e n hb hx=>?_,fun b o e n hb hx=>?_,I.base.free,fun b o e hx=>?_,I.base.tups,I.base.frzs,I.base.tbls⟩,⟨m,hn.sameBut hs (Ne.symm (cne x c hc)),fun j y v' e1 e2 e3=>?_⟩,fun y c' e=>?_,I.free,I.freeC,fun p hp=>?_,tracked ⟨oc,hoc,I.freeC x c hc⟩ hs,by simpa using I.len⟩ ⟨c,hs,.inr hc⟩
  ·exact (hs.2 b (Nat.ne_of_lt (Nat.lt_of_lt_of_le (qf e) (I.ok.cab x c hfn hc)))).trans (I.base.keep b o e n hb hx)
  ·obtain ⟨sl,e1⟩:=I.base.slot b o e n hb hx
   exact ⟨sl,(hs.2 b (Nat.ne_of_lt (Nat.lt_of_lt_of_le (qf e) (I.ok.cab x c hfn hc)))).trans e1⟩
  ·obtain ⟨o',e1⟩:=I.base.there b o e hx
   exact ⟨o',(hs.2 b (Nat.ne_of_lt (Nat.lt_of_lt_of_le (qf e) (I.ok.cab x c hfn hc)))).trans e1⟩
  ·by_cases hj:j=i
   ·subst hj
    rw [hi] at e1; cases e1
    rw [List.getElem?_set_self hiσ] at e2
    cases e2
    exact ⟨u,r,.inr ⟨.inl hk,c,hc,hc'⟩⟩
   ·rw [List.getElem?_set_ne (Ne.symm hj)] at e2
    obtain ⟨u',r',q⟩:=hl j y v' e1 e2 e3
    refine ⟨u',r',?_⟩
    rcases q with q | ⟨k,c',e,z'⟩
    ·exact .inl q
    ·refine .inr ⟨k,c',e,z'.sameBut hs ?_⟩
     rintro rfl
     exact hj (hN j (I.ok.inj _ _ _ e hc ▸ e1))
  ·by_cases hcc:c'=c
   ·subst hcc; exact ⟨_,hc'⟩
   ·obtain ⟨w2,z2⟩:=I.cell y c' e
    exact ⟨w2,z2.sameBut hs hcc⟩
  ·obtain ⟨e,n,ne,nf,d⟩:=I.pin p hp
   refine ⟨(hs.2 p.1 ?_).trans e,n,ne,nf,d⟩
   intro q
   rw [q,hoc] at e
   have q':oc=p.2:=qg e
   exact d w' (by rw [<- q']; exact hocd)
theorem KP.set (h:i∉ks):KP ks σ (σ.set i u):=fun j hj=>List.getElem?_set_ne (fun (z:i=j)=>h (z ▸ hj))
theorem zgF (hk:i∉ks) (hN:∀ j,X.N[j]?=some x->j=i) (hi:X.N[i]?=some x) (hx:Loc X.env.scope x) (hf:X.fn x=true\/X.env.scope.names.lookup x=some .local):FG X ks (.Name x pos) (qI i):=by
 intro pn xe hp qZ s σ H v u Q I rv q
 obtain ⟨F,G,U,t,P,q8,hw,n⟩:=q
 have hl:=len1 q8
 have hiU:i < U.length:=by rw [hl,I.len]; exact (qh.mp hi).1
 exact wpAny_assign_Name (zcv (X:=wp X pn xe) I hN hi hx rv (fun s' I' _=>⟨_,H,I',n _ _ F H hw (KP.set hk) (qK.refl F) (q8.store hl hiU)⟩) hf)
inductive tWGs (X:Cx) (ks:List Nat) (gs:List WG) (vs:List V) (σ:St) (H:Hp) (Q:St->Hp->Prop):Prop
 | mk (F G:Hp) (U:Env) (ds:List D) (P:Env->Prop) (q8:Rel X.K U σ F G H) (rp:qX X.K F vs ds) (hw:gTups gs ds U P) (n:∀ U' σ' F' H',P U'->KP ks σ σ'->qK F F'->Rel X.K U' σ' F' G H'->Q σ' H'):tWGs X ks gs vs σ H Q
noncomputable def FGs (X:Cx) (ks:List Nat) (tg:List Expr) (g:List WG):Prop:=∀ (pn:List (Addr×Obj)) (xe:qE),PassesOwn (model X.prog X.w) X.A X.env xe->PGs (wp X pn xe) tg (tWGs (wp X pn xe) ks g)
theorem zaJ:FGs X ks [] []:=fun pn xe hp qZ s σ H vs us Q I r q=>by
 obtain ⟨F,G,U,ds,P,q8,rp,hw,n⟩:=q
 refine zjx qZ s σ H vs us Q I r ?_
 cases rp with
 | nil=>exact ⟨rfl,n U σ F H hw KP.refl (qK.refl F) q8⟩
 | cons a b=>exact hw.elim
theorem zak (h1:FG X ks e g) (h2:FGs X ks es gs)
  (hs:(assignEach (e::es) X.env).map (·.2)=assign e X.env::(assignEach es X.env).map (·.2):=by rfl):FGs X ks (e::es) (g::gs):=fun pn xe hp qZ s σ H vs us Q I r q=>by
 obtain ⟨F,G,U,ds,P,q8,rp,hw,n⟩:=q
 refine ziF (X:=wp X pn xe) (h1 pn xe hp) (h2 pn xe hp) hs qZ s σ H vs us Q I r ?_
 cases rp with
 | nil=>exact hw.elim
 | cons a b=>
   refine ⟨_,_,rfl,F,G,U,_,_,q8.push a,hw,fun U1 σ1 F1 H1 hp k s1 r1=>⟨F1,G,U1,_,P,r1,b.mono s1,hp,fun U' σ' F' H' h k' s r=>n U' σ' F' H' h (k.trans k') (s1.trans s) r⟩⟩
theorem qX.len {K:W.Frag} (r:qX K F xs ds):xs.length=ds.length:=qX.ind (P:=fun xs ds=>xs.length=ds.length) rfl (fun _ _ ih=>congrArg (· + 1) ih) r
theorem zbg (hc:X.calm=true) (h:FGs X ks es gs) (hn:(assignEach es X.env).length=gs.length:=by rfl) (hst:(assignEach es X.env).findIdx? (·.1)=none:=by rfl):FG X ks (.Tuple es k pos) (gTup gs):=fun pn xe hp=>by
 refine PG.imp (zl6 (X:=wp X pn xe) hc (h pn xe hp) hn hst) fun v σ H Q q=>?_
 obtain ⟨F,G,U,s,P,q8,hw,n⟩:=q
 obtain ⟨F1,s1,rp,r1⟩:=Rel.giveD (U:=U) (vs:=[v]) (ss:=[s]) q8 (len1 q8)
 cases rp with
 | cons a b=>
   have hw':(match s.toD with | .tup ds=>ds.length=gs.length/\gTups gs ds U P | _=>False):=hw
   generalize s.toD=d at a hw'
   cases a with
   | tup e r=>exact ⟨_,_,rfl,SqT.of (r1.fr _ _ e),by rw [r.len]; exact hw'.1,F1,G,U,_,P,r1,r,hw'.2,fun U' σ' F' H' h k' s r=>n U' σ' F' H' h k' (s1.trans s) r⟩
   | _=>exact hw'.elim
noncomputable def ItOk (K:W.Frag) (J:It) (l:List D) (F0:Hp):Prop:=∀ (i:Nat) (U:Env) (σ:St) (F G H:Hp),qK F0 F->Rel K U σ F G H->
 (∀ d,l[i]?=some d->J.go i H/\∀ x H',J.yld i H x H'->∃ F',qK F F'/\Rel K U σ F' G H'/\Rep K F' x d)/\(l.length<=i->J.stop i H)
inductive tWI (X:Cx) (wi:WI) (σ:St) (H:Hp) (R:It->Hp->Prop):Prop
 | mk (F G:Hp) (U:Env) (P:List D->Env->Prop) (PX:WX) (q8:Rel X.K U σ F G H) (hw:wi U P PX) (hok:∀ l U' F' H' J,P l U'->qK F F'->Rel X.K U' σ F' G H'->ItOk X.K J l F'->R J H') (hx:XC X (·=σ) F G PX):tWI X wi σ H R
noncomputable def FI (X:Cx) (tg iter:Expr) (wi:WI):Prop:=∀ (pn:List (Addr×Obj)) (xe:qE),PassesOwn (model X.prog X.w) X.A X.env xe->PI (wp X pn xe) tg iter (tWI (wp X pn xe) wi)
theorem PI.imp (h:PI X tg e t) (k:∀ σ H R,t' σ H R->t σ H R):PI X tg e t':=fun qZ s σ H R I q=>h qZ s σ H R I (k σ H R q)
theorem qX.get {K:W.Frag} {i:Nat} (r:qX K F xs ds) (h:ds[i]?=some d):∃ x,xs[i]?=some x/\Rep K F x d:=
 qX.ind (P:=fun xs ds=>∀ i d,ds[i]?=some d->∃ x,xs[i]?=some x/\Rep K F x d) (fun _ _ e=>by cases e) (fun a _ ih i d e=>by
  cases i with
  | zero=>cases e; exact ⟨_,rfl,a⟩
  | succ i=>exact ih i d e) r i d h
section
variable {K:W.Frag}
theorem zcG (e:SqL K F0 a xs) (r:qX K F0 xs l):ItOk K (Itl K a) l F0:=fun i U σ F G H sm q8=>by
 have e':SqL K H a xs:=SqL.mono (sm.trans q8.fr) e
 refine ⟨fun d hd=>?_,fun h=>⟨xs,e',by rw [r.len]; exact h⟩⟩
 obtain ⟨x,hx,rx⟩:=r.get hd
 refine ⟨⟨xs,x,e',hx⟩,fun y H' hy=>?_⟩
 obtain ⟨rfl,hy⟩:=hy
 have:x=y:=qg (hx.symm.trans (hy xs e'))
 subst this
 exact ⟨F,qK.refl F,q8,rx.mono sm⟩
theorem zix (e:SqT K F0 a xs) (r:qX K F0 xs l):ItOk K (Itt K a) l F0:=fun i U σ F G H sm q8=>by
 have e':SqT K H a xs:=SqT.mono (sm.trans q8.fr) e
 refine ⟨fun d hd=>?_,fun h=>⟨xs,e',by rw [r.len]; exact h⟩⟩
 obtain ⟨x,hx,rx⟩:=r.get hd
 refine ⟨⟨xs,x,e',hx⟩,fun y H' hy=>?_⟩
 obtain ⟨rfl,hy⟩:=hy
 have:x=y:=qg (hx.symm.trans (hy xs e'))
 subst this
 exact ⟨F,qK.refl F,q8,rx.mono sm⟩
theorem zf1 {lo:Int} (h:(fromTo lo n)[i]?=some d):i < n/\d=.int (lo + i):=by
 unfold fromTo at h
 rw [List.getElem?_map] at h
 by_cases hi:i < n
 ·rw [List.getElem?_range hi] at h
  exact ⟨hi,(qg h).symm⟩
 ·rw [List.getElem?_eq_none (by simpa using hi)] at h; cases h
theorem zc4 {lo:Int}:ItOk K (Itr lo n) (fromTo lo n) F0:=fun i U σ F G H sm q8=>by
 refine ⟨fun d hd=>?_,fun h=>?_⟩
 ·obtain ⟨hi,rfl⟩:=zf1 hd
  refine ⟨hi,fun x H' hy=>?_⟩
  obtain ⟨rfl,rfl⟩:=hy
  exact ⟨F,qK.refl F,q8,.int _⟩
 ·have:n<=i:=by simpa [fromTo] using h
  exact this
end
noncomputable def Its (x:Str):It:=⟨fun i _=>i < x.cps.size,fun i H v H'=>H'=H/\∃ c,x.cps[i]?=some c/\v=.str ⟨#[c]⟩,fun i _=>x.cps.size<=i⟩
theorem zid {P:Program} {w:World} {K:W.Frag} {tg:Expr} (it:Addr) (x:Str) (t:Tok) (ty:String) (hty:ty="str_ascii_iterator"\/ty="str_iterator"):Turn P w K tg (Its x) [it] it (fun i h=>h.IsStrIter it ty x t i) where
 mem:=m1
 obj:=fun i h st b hb=>by
  have e:b=it:=by simpa using hb
  subst e
  obtain ⟨o,e,c,d⟩:=st
  exact ⟨o,e,fun v z=>by rw [d] at z; cases z⟩
 keep:=fun i h h' st k=>by
  obtain ⟨o,e,r⟩:=st
  exact ⟨o,k it (m1) o e,r⟩
 item:=by
  intro X hP hw hK hc i qZ s σ H E I hf st hg
  subst hP hw hK
  obtain ⟨f0,f1,f2,f3,f4,f5⟩:=hf it (m1)
  have W:Walks X.prog X.w X.A it [it] [it] x.cps.size (SignAt x) (fun i h=>h.IsStrIter it ty x t i):=by
   rcases hty with rfl | rfl
   ·exact Walks.strAscii (I.ok.hd hc) it x t
   ·exact Walks.strWide (I.ok.hd hc) it x t
  refine W.item i s _ _ hg st fun v h' tk hv st' kk=>?_
  obtain ⟨c,u,e1,rfl⟩:=hv
  have I1:Inv X qZ σ H { s with heap:=h',toks:=tk }:=I.turned (fun b o hb e=>kk b o (by simpa using hb) e) f0 f1 f3 f4 f5
  obtain ⟨o,e,cl,d⟩:=id st'
  exact ⟨_,rfl,zil (s:={ s with heap:=h',toks:=tk }) e cl d (by rcases hty with rfl | rfl <;> decide) ⟨.str ⟨#[c]⟩,H,I1,⟨u,rfl⟩,⟨rfl,c,e1,rfl⟩,st',fun b hb=>(hf b hb).1⟩⟩
 done:=by
  intro X hP hw hK hc i qZ s σ H E I hf st hg
  subst hP hw hK
  obtain ⟨f0,f1,f2,f3,f4,f5⟩:=hf it (m1)
  have hn:x.cps[i]?=none:=by
   have:x.cps.size<=i:=hg
   simp [this]
  rcases hty with rfl | rfl
  ·exact wpAny_pyNext_ascii_end (I.ok.hd hc) st hn fun h' eb=>⟨rfl,I.turned (t':=s.toks) (fun b o hb e=>eb b o hb e) f0 f1 f3 f4 f5⟩
  ·exact wpAny_pyNext_wide_end (I.ok.hd hc) st hn fun h' eb=>⟨rfl,I.turned (t':=s.toks) (fun b o hb e=>eb b o hb e) f0 f1 f3 f4 f5⟩
 self:=fun A i s Q E st h=>by
  rcases hty with rfl | rfl
  ·exact wpAny_pyIter_striter_ascii st h
  ·exact wpAny_pyIter_striter_wide st h
noncomputable def iAny (K:W.Frag) (tl:TE):TI:=fun σ H R=>tl σ H fun v H1=>(∃ a,v=.ref a/\(∃ xs,SqL K H1 a xs)/\R (Itl K a) H1)\/(∃ a,v=.ref a/\(∃ xs,SqT K H1 a xs)/\R (Itt K a) H1)\/∃ x,v=.str x/\R (Its x) H1
theorem zkY (hl:PE X l tl):PI X tg l (iAny X.K tl):=by
 intro qZ s σ H R I h
 refine thn (hl qZ s σ H _ I h) fun v s1 zq=>?_
 obtain ⟨y,H1,I1,r1,q1⟩:=zq
 rcases q1 with ⟨a,e,⟨xs,hq⟩,q⟩ | ⟨a,e,⟨xs,hq⟩,q⟩ | ⟨x,e,q⟩
 ·subst e
  cases r1
  obtain ⟨zc,rv,p,hz⟩:=I1.list hq
  refine wpAny_pyIter_list p.isList ?_
  refine ⟨s1.heap.objs.size,[s1.heap.objs.size],_,_,H1,rfl,I1.kept (t':=s1.toks) fun b o e=>qc _ e,zgq a _,⟨_,qd _ rfl,rfl,rfl⟩,fun b hb=>?_,q⟩
  have e:b=s1.heap.objs.size:=by simpa using hb
  subst e
  exact I1.fpOk (Nat.le_refl _) (I1.hok.fresh (Nat.le_refl _))
 ·subst e
  cases r1
  obtain ⟨zc,rv,p,hz⟩:=I1.tuple hq
  refine wpAny_pyIter_tuple (show s1.heap.IsTuple a zc.toArray from p) ?_
  refine ⟨s1.heap.objs.size,[s1.heap.objs.size],_,_,H1,rfl,I1.kept (t':=s1.toks) fun b o e=>qc _ e,zfJ a _,⟨_,qd _ rfl,rfl,rfl⟩,fun b hb=>?_,q⟩
  have e:b=s1.heap.objs.size:=by simpa using hb
  subst e
  exact I1.fpOk (Nat.le_refl _) (I1.hok.fresh (Nat.le_refl _))
 ·subst e
  obtain ⟨t,rfl⟩:=r1
  have fin:∀ (ty:String) (o:Obj),(ty="str_ascii_iterator"\/ty="str_iterator")->o.cls=.type ty->o.data=.fields #[.str x t,.int 0 0]->o.isFreed=false->PIE X qZ σ tg R (.ref s1.heap.objs.size) { s1 with heap:=s1.heap.push o }:=fun ty o hty hc hd hf=>by
   refine ⟨s1.heap.objs.size,[s1.heap.objs.size],_,_,H1,rfl,I1.kept (t':=s1.toks) fun b o e=>qc _ e,zid _ x t ty hty,⟨_,qd _ hf,hc,hd⟩,fun b hb=>?_,q⟩
   have e:b=s1.heap.objs.size:=by simpa using hb
   subst e
   exact I1.fpOk (Nat.le_refl _) (I1.hok.fresh (Nat.le_refl _))
  cases ha:x.cps.all (· < 128)
  ·exact wpAny_pyIter_wide ha (fin "str_iterator" _ (.inr rfl) rfl rfl rfl)
  ·exact wpAny_pyIter_ascii ha (fin "str_ascii_iterator" _ (.inl rfl) rfl rfl rfl)
section
variable {K:W.Frag}
theorem zdI (e:x.cps.toList=l):ItOk K (Its x) (l.map fun c=>.str [c]) F0:=fun i U σ F G H sm q8=>by
 have hs:x.cps.size=l.length:=by rw [<- e]; simp
 refine ⟨fun d hd=>?_,fun h=>by show x.cps.size<=i; rw [hs]; simpa using h⟩
 rw [List.getElem?_map] at hd
 cases q:l[i]? with
 | none=>rw [q] at hd; cases hd
 | some c=>
   rw [q] at hd
   have hd':D.str [c]=d:=qg hd
   have hi:i < l.length:=(qh.mp q).1
   have hx:x.cps[i]?=some c:=by rw [<- Array.getElem?_toList,e]; exact q
   refine ⟨by show i < x.cps.size; rw [hs]; exact hi,fun y H' hy=>?_⟩
   obtain ⟨rfl,c',e1,rfl⟩:=hy
   rw [hx] at e1
   have:c=c':=qg e1
   subst this
   rw [<- hd']
   exact ⟨F,qK.refl F,q8,.str rfl (by show 1<=_; decide)⟩
theorem za7 (h:FE X e we):FI X tg e (wIter we):=fun pn xe hp=>by
 refine PI.imp (zkY (h pn xe hp)) fun σ H R q=>?_
 obtain ⟨F,G,U,P,PX,q8,hw,hok,hx⟩:=q
 refine ⟨F,G,U,_,PX,q8,hw,fun r U1 v F1 H1 hk s1 r1 rv=>?_,hx⟩
 obtain ⟨⟨s,U2⟩,eg,hk⟩:=zae hk
 obtain ⟨l,el,hk⟩:=zae hk
 obtain ⟨F2,s2,l2,r2⟩:=giveR (U':=[]) (σ':=[]) r1 (len1 r1) rv eg
 obtain ⟨F3,s3,rp,r3⟩:=Rel.giveD (U:=U2) (vs:=[v]) (ss:=[s]) r2 (len1 r2)
 have sm:=s1.trans (s2.trans s3)
 cases rp with
 | cons a b=>
   have el':items s.toD=some l:=el
   generalize s.toD=d at a el'
   cases a with
   | lst e r=>
     have:l=_:=(qg el').symm
     subst this
     exact .inl ⟨_,rfl,⟨_,SqL.mono r3.fr e⟩,hok _ U2 F3 H1 _ hk sm r3 (zcG e r)⟩
   | tup e r=>
     have:l=_:=(qg el').symm
     subst this
     exact .inr (.inl ⟨_,rfl,⟨_,SqT.of (r3.fr _ _ e)⟩,hok _ U2 F3 H1 _ hk sm r3 (zix (SqT.of e) r)⟩)
   | str e z=>
     have:l=_:=(qg el').symm
     subst this
     exact .inr (.inr ⟨_,rfl,hok _ U2 F3 H1 _ hk sm r3 (zdI e)⟩)
   | _=>cases el'
theorem zaO (hg:Gl X "range") (hm:X.mg "range"=none) (ha:FE X a we) (hs:starEach [a] X.env=[(false,eval a X.env)]:=by rfl):FI X tg (.Call (.Name "range" p) [a] [] pos) (wRange1 we):=fun pn xe hp=>by
 refine PI.imp (zg1 (X:=wp X pn xe) hg hm (zaa ha zab hs pn xe hp) hs) fun σ H R q=>?_
 obtain ⟨F,G,U,P,PX,q8,hw,hok,hx⟩:=q
 refine ⟨F,G,U,fun rs U1=>match rs with | [r]=>(match view r U1 with | some (.int j)=>(-big<=j/\j<=big)/\P (fromTo 0 j.toNat) U1 | _=>False) | _=>False,PX,q8,hw,fun rs U1 vs F1 H1 hk s1 r1 hl rv=>?_,hx⟩
 match rs,vs,rv,r1,hk with
 | [r],[v],rv,r1,hk=>
   dsimp only at hk
   split at hk
   ·rename_i j ej
    have rp:=look (U':=[]) (σ':=[]) r1 hl rv.1 ej
    cases rp
    obtain ⟨⟨h1,h2⟩,hk⟩:=hk
    have eb:(big:Int)=1000000:=rfl
    rw [eb] at h1 h2
    exact ⟨j,rfl,by lia,by lia,hok _ U1 F1 H1 _ hk s1 ((show Rel X.K (U1++[qL r]) (σ++[some (.int j)]) F1 G H1 from r1).drop hl) zc4⟩
   ·exact hk.elim
 | [],_,_,_,hk=>exact hk.elim
 | [_],[],rv,_,_=>exact rv.elim
 | [_],_::_::_,rv,_,_=>exact rv.2.elim
 | _::_::_,_,_,_,hk=>exact hk.elim
theorem zd7 (hg:Gl X "range") (hm:X.mg "range"=none) (ha:FE X a we) (hb:FE X b wb) (hs:starEach [a,b] X.env=[(false,eval a X.env),(false,eval b X.env)]:=by rfl) (hs2:starEach [b] X.env=[(false,eval b X.env)]:=by rfl):
  FI X tg (.Call (.Name "range" p) [a,b] [] pos) (wRange2 we wb):=fun pn xe hp=>by
 refine PI.imp (zho (X:=wp X pn xe) hg hm (zaa ha (zaa hb zab hs2) (by rw [hs,hs2]) pn xe hp) hs hs2) fun σ H R q=>?_
 obtain ⟨F,G,U,P,PX,q8,hw,hok,hx⟩:=q
 refine ⟨F,G,U,fun rs U1=>match rs with | [r,t]=>(match view r U1,view t U1 with | some (.int i),some (.int j)=>(-big<=i/\i<=big/\-big<=j/\j<=big)/\P (fromTo i (j - i).toNat) U1 | _,_=>False) | _=>False,PX,q8,hw,fun rs U1 vs F1 H1 hk s1 r1 hl rv=>?_,hx⟩
 match rs,vs,rv,r1,hk with
 | [r,t],[v,u],rv,r1,hk=>
   dsimp only at hk
   split at hk
   ·rename_i i j ei ej
    obtain ⟨rp,rq,r2⟩:=look2 r1 hl rv.1 rv.2.1 ei ej
    cases rp
    cases rq
    obtain ⟨⟨h1,h2,h3,h4⟩,hk⟩:=hk
    have eb:(big:Int)=1000000:=rfl
    rw [eb] at h1 h2 h3 h4
    exact ⟨i,j,rfl,⟨by lia,by lia,by lia,by lia⟩,hok _ U1 F1 H1 _ hk s1 r2 zc4⟩
   ·exact hk.elim
 | [],_,_,_,hk=>exact hk.elim
 | [_],_,_,_,hk=>exact hk.elim
 | [_,_],[],rv,_,_=>exact rv.elim
 | [_,_],[_],rv,_,_=>exact rv.2.elim
 | [_,_],_::_::_::_,rv,_,_=>exact rv.2.2.elim
 | _::_::_::_,_,_,_,hk=>exact hk.elim
end
theorem zaX (hc:X.calm=true) (hi:FI X tg iter wi) (hg:FG X ks tg g) (hb:FSs X ks body wb) (hs:∀ x,foldedSetIterable iter X.env x=pure x:=by intro _; rfl):FS X ks (.For tg iter body [] pos) (wFor wi g wb):=fun pn xe hp=>by
 refine PS.imp (zlg (X:=wp X pn xe) hp hc (hi pn xe hp) (hg pn xe hp) (hb pn xe hp) hs) fun D σ H q=>?_
 obtain ⟨F,G,U,E,q8,hw,n,b,c,r,x⟩:=q
 refine ⟨F,G,U,_,_,q8,hw,fun l U1 F1 H1 J hk s1 r1 it=>?_,x.mono (fun σ2 z=>by rw [z]; exact KP.refl) (qK.refl F) (qK.refl G)⟩
 refine ⟨fun i m σ2 H2=>m=l.length - i/\i<=l.length/\∃ F2 U2,KP ks σ σ2/\qK F1 F2/\Rel X.K U2 σ2 F2 G H2/\wLoop g wb (l.drop i) E U2,⟨l.length,rfl,Nat.zero_le _,F1,U1,KP.refl,qK.refl F1,r1,by simpa using hk⟩,?_⟩
 rintro i m σ2 H2 ⟨rfl,hi,F2,U2,kp,s2,r2,hw2⟩
 obtain ⟨it1,it2⟩:=it i U2 σ2 F2 G H2 s2 r2
 by_cases hlt:i < l.length
 ·obtain ⟨go,yld⟩:=it1 l[i] (by simp [hlt])
  refine .inr ⟨go,fun σ3 H3=>i + 1<=l.length/\∃ F3 U3,KP ks σ σ3/\qK F1 F3/\Rel X.K U3 σ3 F3 G H3/\wLoop g wb (l.drop (i + 1)) E U3,fun σ3 H3 h=>⟨l.length - (i + 1),by lia,rfl,h⟩,fun y H3 hy=>?_⟩
  obtain ⟨F3,s3,r3,rp⟩:=yld y H3 hy
  rw [List.drop_eq_getElem_cons hlt] at hw2
  refine ⟨F3,G,U2,_,_,r3.push rp,hw2,fun U4 σ4 F4 H4 hp4 k4 s4 r4=>?_⟩
  have kp4:=kp.trans k4
  have sm4:=s1.trans (s2.trans (s3.trans s4))
  exact ⟨F4,G,U4,_,r4,hp4,fun U' σ' F' H' h k' s r=>⟨hlt,F',U',kp4.trans k',s2.trans (s3.trans (s4.trans s)),r,h⟩,fun U' σ' F' H' h k' s r=>n U' σ' F' H' h (kp4.trans k') (sm4.trans s) r,
   fun U' σ' F' H' h k' s r=>⟨hlt,F',U',kp4.trans k',s2.trans (s3.trans (s4.trans s)),r,h⟩,fun a U' σ' v F' H' h k' s q rv=>r a U' σ' v F' H' h (kp4.trans k') (sm4.trans s) q rv,x.mono (fun σ5 k'=>kp4.trans k') sm4 (qK.refl G)⟩
 ·have e:i=l.length:=Nat.le_antisymm hi (Nat.not_lt.mp hlt)
  subst e
  rw [List.drop_length] at hw2
  exact .inl ⟨it2 (Nat.le_refl _),n U2 σ2 F2 H2 hw2 kp (s1.trans s2) r2⟩
theorem zij (hc:FT X c wc) (hb:FSs X ks body wb):FS X ks (.While c body [] pos) (wWhile wc wb):=fun pn xe hp=>by
 refine PS.imp (zh5 (X:=wp X pn xe) hp (hc pn xe hp) (hb pn xe hp)) fun D σ H q=>?_
 obtain ⟨F,G,U,E,q8,⟨J,⟨m0,j0⟩,step⟩,n,b,c,r,x⟩:=q
 refine ⟨fun m σ2 H2=>∃ F2 U2,KP ks σ σ2/\qK F F2/\Rel X.K U2 σ2 F2 G H2/\J m U2,⟨m0,F,U,KP.refl,qK.refl F,q8,j0⟩,?_⟩
 rintro m σ2 H2 ⟨F2,U2,kp,s2,r2,j2⟩
 refine ⟨F2,G,U2,_,_,r2,step m U2 j2,fun k U3 F3 H3 hk s3 r3=>?_,x.mono (fun σ5 z=>by rw [z]; exact kp) s2 (qK.refl G)⟩
 have sm3:=s2.trans s3
 cases k with
 | true=>
   dsimp only
   rw [qq rfl]
   refine ⟨fun σ4 H4=>∃ m',m' < m/\∃ F2 U2,KP ks σ σ4/\qK F F2/\Rel X.K U2 σ4 F2 G H4/\J m' U2,fun σ4 H4 h=>h,?_⟩
   exact ⟨F3,G,U3,_,r3,hk,fun U' σ' F' H' ⟨m',hm,h⟩ k' s r=>⟨m',hm,F',U',kp.trans k',sm3.trans s,r,h⟩,fun U' σ' F' H' h k' s r=>n U' σ' F' H' h (kp.trans k') (sm3.trans s) r,
    fun U' σ' F' H' ⟨m',hm,h⟩ k' s r=>⟨m',hm,F',U',kp.trans k',sm3.trans s,r,h⟩,fun a U' σ' v F' H' h k' s q rv=>r a U' σ' v F' H' h (kp.trans k') (sm3.trans s) q rv,x.mono (fun σ5 k'=>kp.trans k') sm3 (qK.refl G)⟩
 | false=>
   dsimp only
   rw [qr qp]
   exact n U3 σ2 F3 H3 hk kp sm3 r3
inductive spW (K:W.Frag) (f:WF) (n:Nat) (vs:List V) (H:Hp) (Q:VK) (Z:XK):Prop
 | mk (F G:Hp) (ss:List S) (P:S->List S->Prop) (PX:D->List S->Prop) (hn:vs.length=n) (q8:Rel K (ss.map some) (vs.map some) F G H) (hw:f ss P PX) (hok:∀ s ss' v F' H',P s ss'->qK F F'->ss'.length=ss.length->Rel K (ss'.map some++[some s]) (vs.map some++[some v]) F' G H'->Q v H') (hex:∀ d ss' F' H' C dx,PX d ss'->qK F F'->ss'.length=ss.length->Rel K (ss'.map some) (vs.map some) F' G H'->clsD K F' d C dx->Z (.ref C) dx H'):spW K f n vs H Q Z
section
variable {K:W.Frag}
theorem Rel.comm (h:U.length=σ.length) (r:Rel K (U++U') (σ++σ') F G H):Rel K (U'++U) (σ'++σ) F G H:=by
 have:=Rel.swap (U:=[]) (σ:=[]) (U1:=U) (σ1:=σ) (U2:=U') (σ2:=σ') rfl h (by simpa using r)
 simpa using this
theorem Rel.lend (r:Rel K (U++(none::U')) (σ++(some v::σ')) F G H) (h:U.length=σ.length) (hs:slot U i=some s) (hv:σ[i]?=some (some v)):
  Rel K (U.set i none++(some s::U')) (σ++(some v::σ')) F G H:=by
 obtain ⟨fp,e,nd,ap⟩:=r.en
 obtain ⟨f1,f2,rfl,a,b⟩:=e.cut h
 obtain ⟨v',fa,fi,fb,e1,rfl,q,up⟩:=a.at hs
 rw [hv] at e1
 have e2:v=v':=by simpa using e1
 subst e2
 have a2:=up (F':=F) (H':=H) (o:=none) (u:=some v) (fi':=[]) (qK.refl F) (fun _ _=>rfl) (.no .nil)
 have es:σ.set i (some v)=σ:=by
  apply List.ext_getElem?
  intro j
  by_cases hj:i=j
  ·subst hj
   rw [List.getElem?_set_self (qh.mp hv).1,hv]
  ·rw [List.getElem?_set_ne hj]
 rw [es] at a2
 cases b with
 | no b=>
   have p:((fa++([]++fb))++(fi++f2)).Perm ((fa++(fi++fb))++f2):=by
    simp only [List.nil_append,List.append_assoc]
    refine List.Perm.append_left _ ?_
    rw [<- List.append_assoc,<- List.append_assoc fi]
    exact List.Perm.append_right _ List.perm_append_comm
   exact ⟨r.fr,r.gr,_,a2.app (.so q b),p.nodup_iff.mpr nd,fun x hx=>ap x (p.mem_iff.mp hx)⟩
theorem Rel.back1 (r:Rel K (U++(some s::U')) (σ++(some v::σ')) F G H) (h:U.length=σ.length) (hv:σ[i]?=some (some v)):Rel K (U.set i (some s)++U') (σ++σ') F G H:=by
 have hi:i < σ.length:=(qh.mp hv).1
 have es:σ.set i (some v)=σ:=by
  apply List.ext_getElem?
  grind
 have hl:U'.length=σ'.length:=by
  have:=r.len
  grind
 have r1:=Rel.swap (U1:=[some s]) (σ1:=[some v]) (U2:=U') (σ2:=σ') h rfl r
 rw [<- List.append_assoc,<- List.append_assoc] at r1
 have r2:=Rel.store (i:=i) r1 (by simp [h,hl]) (by simp [h]; lia)
 grind
theorem zhB:∀ {rs:List R} {vs:List V} {ms:List Bool} {U U' U1:Env} {ss:List S} {F:Hp} {σ':St},Rel K (U++(rs.map qL++U')) (σ++(vs.map some++σ')) F G H->U.length=σ.length->RVs σ vs rs->prep ms rs U=some (ss,U1)->
  ∃ F',qK F F'/\U1.length=U.length/\ss.length=rs.length/\Rel K (U1++(ss.map some++U')) (σ++(vs.map some++σ')) F' G H
 | [],[],ms,U,U',U1,ss,F,σ',r,h,_,e=>by
   have e':some (([]:List S),U)=some (ss,U1):=by cases ms <;> exact e
   cases e'
   exact ⟨F,qK.refl F,rfl,rfl,r⟩
 | [],_::_,_,_,_,_,_,_,_,_,_,h,_=>h.elim
 | _::_,[],_,_,_,_,_,_,_,_,_,h,_=>h.elim
 | x::rs,v::vs,ms,U,U',U1,ss,F,σ',r,h,rv,e=>by
   -- the first one,as it is handed on
   have first:∃ s U2 ts F1,prep ms.tail rs U2=some (ts,U1)/\ss=s::ts/\qK F F1/\U2.length=U.length/\Rel K (U2++(some s::(rs.map qL++U'))) (σ++(some v::(vs.map some++σ'))) F1 G H:=by
    cases x with
    | v s=>
      have e':(match prep ms.tail rs U with | some (ss,U1)=>some (s::ss,U1) | none=>none)=some (ss,U1):=by cases ms <;> exact e
      cases q:prep ms.tail rs U with
      | none=>rw [q] at e'; cases e'
      | some p=>
        obtain ⟨ts,U3⟩:=p
        rw [q] at e'
        cases e'
        exact ⟨s,U,ts,F,q,rfl,qK.refl F,rfl,r⟩
    | loc i=>
      have e':(match slot U i with
       | some s=>if ms.headD false then (match prep ms.tail rs (U.set i none) with
         | some (ss,U1)=>some (s::ss,U1)
         | none=>none)
         else (match prep ms.tail rs (U.set i (some (.sh s.toD))) with
          | some (ss,U1)=>some (.sh s.toD::ss,U1)
          | none=>none)
       | none=>none)=some (ss,U1):=by cases ms <;> exact e
      cases q:slot U i with
      | none=>rw [q] at e'; cases e'
      | some s=>
        rw [q] at e'
        dsimp only at e'
        by_cases hm:ms.headD false=true
        ·rw [qq hm] at e'
         cases q2:prep ms.tail rs (U.set i none) with
         | none=>rw [q2] at e'; cases e'
         | some p=>
           obtain ⟨ts,U3⟩:=p
           rw [q2] at e'
           cases e'
           exact ⟨s,U.set i none,ts,F,q2,rfl,qK.refl F,by simp,Rel.lend r h q rv.1⟩
        ·rw [qr hm] at e'
         cases q2:prep ms.tail rs (U.set i (some (.sh s.toD))) with
         | none=>rw [q2] at e'; cases e'
         | some p=>
           obtain ⟨ts,U3⟩:=p
           rw [q2] at e'
           cases e'
           obtain ⟨F1,s1,l1,r1⟩:=giveR (x:=.loc i) (s:=.sh s.toD) (U1:=U.set i (some (.sh s.toD))) r h rv.1 (by show (match slot U i with | some s=>some (S.sh s.toD,U.set i (some (.sh s.toD))) | none=>none)=_; rw [q])
           exact ⟨_,_,ts,F1,q2,rfl,s1,by simp,r1⟩
   obtain ⟨s,U2,ts,F1,q2,rfl,s1,l1,r1⟩:=first
   have h2:U2.length=σ.length:=l1.trans h
   have hl:(rs.map qL++U').length=(vs.map some++σ').length:=by
    have:=r1.len
    rw [List.length_append,List.length_append,h2,List.length_cons,List.length_cons] at this
    lia
   have hl':U'.length=σ'.length:=by
    have:=rv.2.len
    simp at hl
    lia
   have r2:=Rel.swap (U1:=[some s]) (σ1:=[some v]) (U2:=rs.map qL++U') (σ2:=vs.map some++σ') h2 rfl r1
   rw [List.append_assoc,List.append_assoc] at r2
   obtain ⟨F2,s2,l2,l3,r3⟩:=zhB (rs:=rs) (vs:=vs) r2 h2 rv.2 q2
   have h3:U1.length=σ.length:=l2.trans h2
   rw [<- List.append_assoc (ts.map some),<- List.append_assoc (vs.map some)] at r3
   have r4:=Rel.swap (U1:=ts.map some++U') (σ1:=vs.map some++σ') (U2:=[some s]) (σ2:=[some v]) h3 (by simp [l3,rv.2.len,hl']) r3
   exact ⟨F2,s1.trans s2,l2.trans l1,by simp [l3],r4⟩
theorem zcD:∀ {rs:List R} {vs:List V} {ms:List Bool} {U U':Env} {ss:List S} {σ':St},Rel K (U++(ss.map some++U')) (σ++(vs.map some++σ')) F G H->U.length=σ.length->ss.length=rs.length->RVs σ vs rs->
  (back ms rs ss U).length=U.length/\Rel K (back ms rs ss U++U') (σ++σ') F G H
 | [],[],ms,U,U',[],σ',r,h,_,_=>by
   have e:back ms [] [] U=U:=by cases ms <;> rfl
   rw [e]
   exact ⟨rfl,r⟩
 | [],_,_,_,_,_::_,_,_,_,hl,_=>by simp at hl
 | _::_,_,_,_,_,[],_,_,_,hl,_=>by simp at hl
 | [],_::_,_,_,_,_,_,_,_,_,h=>h.elim
 | _::_,[],_,_,_,_,_,_,_,_,h=>h.elim
 | x::rs,v::vs,ms,U,U',s::ss,σ',r,h,hl,rv=>by
   cases x with
   | v t=>
     have e:back ms (.v t::rs) (s::ss) U=back ms.tail rs ss U:=by cases ms <;> rfl
     rw [e]
     exact zcD (rs:=rs) (vs:=vs) (r.mid h) h (by simpa using hl) rv.2
   | loc i=>
     have e:back ms (.loc i::rs) (s::ss) U=if ms.headD false then back ms.tail rs ss (U.set i (some s)) else back ms.tail rs ss U:=by cases ms <;> rfl
     rw [e]
     by_cases hm:ms.headD false=true
     ·rw [qq hm]
      have q:=zcD (rs:=rs) (vs:=vs) (ms:=ms.tail) (U:=U.set i (some s)) (Rel.back1 r h rv.1) (by simpa using h) (by simpa using hl) rv.2
      exact ⟨q.1.trans (by simp),q.2⟩
     ·rw [qr hm]
      exact zcD (rs:=rs) (vs:=vs) (r.mid h) h (by simpa using hl) rv.2
end
theorem zj3 (Fk:FnOk X.prog X.w X.K X.mg X.base (CXe X.prog X.w) k f fd ps (spW X.K wf n)) (hr:Room k X.A) (hg:Gl X x) (hm:X.mg x=some (.ref f)) (hk:W.keepIn X.K (.ref f)=true) (hb:Binds X.K fd ps [])
  (ha:FA X (e::es) wa) (q9:∀ ss P PX,wf ss P PX->ss.length=n) (hdb:(x == ("__debug__":Str))=false:=by decide) (he:starEach (e::es) X.env=(false,eval e X.env)::starEach es X.env:=by rfl) (hpl:(backTo pos (starEach es X.env)).any (·.1)=false:=by rfl):
  FE X (.Call (.Name x p) (e::es) [] pos) (qS wf ms wa):=fun pn xe hp=>by
 refine PE.imp (ziM (X:=wp X pn xe) Fk hr hg hm hk hb (ha pn xe hp) hdb he hpl) fun σ H Q q=>?_
 refine (many (k:=fun rs U1 Q E=>qJ (prep ms rs U1) fun p=>wf p.1 (fun s ss=>Q (.v s) (back ms rs ss p.2)) (fun x ss=>E x (back ms rs ss p.2))) q).mono fun vs H1 h1=>?_
 obtain ⟨F,G,U,rs,P,PX,q8,hl,rv,hk,hok,hx⟩:=h1
 obtain ⟨⟨ss,U1⟩,ep,hk⟩:=zae hk
 obtain ⟨F1,s1,l1,l2,r1⟩:=zhB (U':=[]) (σ':=[]) (by simpa using q8) hl rv ep
 have h1:U1.length=σ.length:=l1.trans hl
 have r2:=Rel.comm (U':=ss.map some) (σ':=vs.map some) h1 (by simpa using r1)
 have hsv:(ss.map some).length=(vs.map some).length:=by simp [l2,rv.len]
 obtain ⟨G',r3,gg,bk⟩:=r2.hide hsv
 have hn:=q9 _ _ _ hk
 show spW X.K wf n vs H1 Q (XW (wp X pn xe) σ)
 refine ⟨F1,G',ss,_,_,by rw [rv.len,<- l2]; exact hn,r3,hk,fun s ss' v F2 H2 hp s2 l3 r4=>?_,fun d ss' F2 H2 C dx hp s2 l3 r4 cd a s' I Fl=>?_⟩
 ·have r5:=bk s2 r4
  have hsv':(ss'.map some++[some s]).length=(vs.map some++[some v]).length:=by simp [l3,l2,rv.len]
  have r6:=Rel.comm hsv' r5
  obtain ⟨l7,r7⟩:=zcD (ms:=ms) (rs:=rs) (vs:=vs) (U':=[some s]) (σ':=[some v]) r6 h1 (l3.trans l2) rv
  exact hok _ _ v F2 H2 hp (s1.trans s2) r7 trivial
 ·have r5:=bk s2 r4
  have hsv':(ss'.map some).length=(vs.map some).length:=by simp [l3,l2,rv.len]
  have r6:=Rel.comm hsv' r5
  obtain ⟨l7,r7⟩:=zcD (ms:=ms) (rs:=rs) (vs:=vs) (U':=[]) (σ':=[]) (by simpa using r6) h1 (l3.trans l2) rv
  exact hx d _ σ F2 H2 (.ref a) s' hp rfl (s1.trans s2) (by simpa using r7) I ⟨a,C,dx,rfl,cd,Fl⟩
section
variable {K:W.Frag}
theorem Rel.pushNs (r:Rel K U σ F G H):∀ m:Nat,Rel K (U++List.replicate m none) (σ++List.replicate m none) F G H
 | 0=>by simpa using r
 | m + 1=>by
   have:=(Rel.pushNs r m).pushN (u:=none)
   rw [List.append_assoc,List.append_assoc,<- List.replicate_succ',<- List.replicate_succ'] at this
   exact this
noncomputable def Args (K:W.Frag) (F:Hp):List S->List V->St->Prop
 | [],[],_=>True
 | s::ss,v::vs,u::σ=>((∃ d,s=.sh d/\Rep K F v d)\/(s.isSh=false/\u=some v))/\Args K F ss vs σ
 | _,_,_=>False
theorem zbB:∀ {ss:List S} {vs:List V} {fs:List S} {U U' Ua:Env} {σ σ' σa:St},finals ss U=some fs->Rel K (Ua++(U++U')) (σa++(σ++σ')) F G H->Ua.length=σa.length->U.length=σ.length->Args K F ss vs σ->
  fs.length=ss.length/\vs.length=ss.length/\Rel K (Ua++(fs.map some++U')) (σa++(vs.map some++σ')) F G H
 | [],[],fs,U,U',Ua,σ,σ',σa,e,r,h,h2,_=>by
   have e':some ([]:List S)=some fs:=by cases U <;> exact e
   cases e'
   refine ⟨rfl,rfl,?_⟩
   have r1:=Rel.swap (U1:=U) (σ1:=σ) (U2:=U') (σ2:=σ') h h2 r
   rw [<- List.append_assoc,<- List.append_assoc] at r1
   have hl:(Ua++U').length=(σa++σ').length:=by
    have:=r.len
    simp at this
    simp
    lia
   simpa using r1.drop hl
 | [],_::_,_,_,_,_,_,_,_,_,_,_,_,h=>by cases h
 | _::_,[],_,_,_,_,_,_,_,_,_,_,_,h=>by cases h
 | _::_,_::_,_,_,_,_,[],_,_,_,_,_,_,h=>by cases h
 | _::_,_::_,_,[],_,_,_::_,_,_,_,_,_,h2,_=>by simp at h2
 | s::ss,v::vs,fs,o::U,U',Ua,u::σ,σ',σa,e,r,h,h2,ha=>by
   have h2':U.length=σ.length:=by simpa using h2
   obtain ⟨ha1,ha2⟩:=ha
   rcases ha1 with ⟨d,rfl,rp⟩ | ⟨hs,hu⟩
   ·have e':(finals ss U).map (S.sh d::·)=some fs:=e
    cases q:finals ss U with
    | none=>rw [q] at e'; cases e'
    | some gs=>
      rw [q] at e'
      have e'':S.sh d::gs=fs:=qg e'
      subst e''
      have r1:Rel K (Ua++(U++U')) (σa++(σ++σ')) F G H:=Rel.mid (U:=Ua) (σ:=σa) r h
      obtain ⟨l1,l2,r2⟩:=zbB q r1 h h2' ha2
      have hl:(gs.map some++U').length=(vs.map some++σ').length:=by
       have:=r2.len
       simp at this
       simp
       lia
      have r3:=r2.push rp
      rw [List.append_assoc Ua,List.append_assoc σa] at r3
      have r4:=Rel.swap (U1:=gs.map some++U') (σ1:=vs.map some++σ') (U2:=[some (.sh d)]) (σ2:=[some v]) h hl r3
      exact ⟨by simp [l1],by simp [l2],r4⟩
   ·subst hu
    have e':∃ t gs,o=some t/\finals ss U=some gs/\fs=t::gs:=by
     cases s with
     | sh d=>cases hs
     | _=>
       cases o with
       | none=>cases e
       | some t=>
         have e':(finals ss U).map (t::·)=some fs:=e
         cases q:finals ss U with
         | none=>rw [q] at e'; cases e'
         | some gs=>rw [q] at e'; exact ⟨t,gs,rfl,rfl,(qg e').symm⟩
    obtain ⟨t,gs,rfl,q,rfl⟩:=e'
    have r1:Rel K ((Ua++[some t])++(U++U')) ((σa++[some v])++(σ++σ')) F G H:=by simpa using r
    obtain ⟨l1,l2,r2⟩:=zbB q r1 (by simp [h]) h2' ha2
    exact ⟨by simp [l1],by simp [l2],by simpa using r2⟩
theorem zhG {ks:List Nat}:∀ {ss:List S} {vs:List V} {σ:St} {j:Nat} {fp:List Addr},qM K F0 H (ss.map some) (vs.map some) fp->qK F0 F->(∀ i s,ss[i]?=some s->(j + i)∈ks\/s.isSh=true)->
  (∀ i v,vs[i]?=some v->(j + i)∈ks->σ[i]?=some (some v))->vs.length<=σ.length->Args K F ss vs σ
 | [],[],_,_,_,_,_,_,_,_=>trivial
 | [],_::_,_,_,_,r,_,_,_,_=>by cases r
 | _::_,[],_,_,_,r,_,_,_,_=>by cases r
 | _::_,_::_,[],_,_,_,_,_,_,h=>by simp at h
 | s::ss,v::vs,u::σ,j,_,.so a b,sm,hk,hv,hl=>by
   refine ⟨?_,zhG (j:=j + 1) b sm (fun i t e=>by have:=hk (i + 1) t (by simpa using e); rwa [show j + (i + 1)=j + 1 + i by lia] at this) (fun i t e z=>by simpa using hv (i + 1) t (by simpa using e) (by rwa [show j + (i + 1)=j + 1 + i by lia])) (by simpa using hl)⟩
   cases hs:s.isSh with
   | true=>
     cases s with
     | sh d=>cases a with
       | sh r=>exact .inl ⟨d,rfl,r.mono sm⟩
     | _=>cases hs
   | false=>
     refine .inr ⟨rfl,?_⟩
     have:=hk 0 s rfl
     rw [hs] at this
     have z:(j + 0)∈ks:=this.resolve_right (by simp)
     simpa using hv 0 v rfl z
theorem fn_w {st:Stmt} (Fn:Fun K x qual st f fd) (Sc:FnScope N ps (defScope st)) (hn:ps.length=n) (hm:N.length=m)
  (hb:∀ (cdv:Value) (A:Around) (outer:List PySem.Env) (s:Shared) (H:Hp) (E:XK),Room k (A.deeper (envOfC qual (defScope st) s.heap.objs.size f cdv))->FSs (cxOf (CXe P w) P w K mg base N qual (defScope st) f cdv A outer s H E) ks (defBody st) wb):
  FnOk P w K mg base (CXe P w) (k + 1) f fd ps (spW K (wFn n m ks wb) n):=by
 refine Fn.okX Sc (fun vs H Q E h=>?_) (fun cdv A outer s H vs Q E hr h=>?_)
 ·obtain ⟨F,G,ss,P',PX,hl,_⟩:=h
  rw [hl,hn]
 ·obtain ⟨F,G,ss,P',PX,hvl,q8,⟨hsl,hks,hbody⟩,hok,hex⟩:=h
  refine ⟨_,hb cdv A outer s H E hr [] (cxOf (CXe P w) P w K mg base N qual (defScope st) f cdv A outer s H E).xe PassesOwn.leaving,?_⟩
  have hmn:N.length - vs.length=m - n:=by rw [hvl,hm]
  have hr0:Rel K (ss.map some++List.replicate (m - n) none) (L2.start N vs) F G H:=by
   unfold L2.start
   rw [hmn]
   exact q8.pushNs (m - n)
  have hpl:ps.length<=N.length:=by have:=congrArg List.length Sc.pre; rw [List.length_take] at this; lia
  have hst:∀ i v,vs[i]?=some v->(L2.start N vs)[i]?=some (some v):=fun i v e=>by
   unfold L2.start
   have hi:i < vs.length:=(qh.mp e).1
   rw [List.getElem?_append_left (by simpa using hi),List.getElem?_map,e]
   rfl
  -- how the arguments are at an end
  have arg:∀ {U':Env} {σ':St} {F':Hp} {fs:List S},KP ks (L2.start N vs) σ'->qK F F'->U'.length=σ'.length->finals ss U'=some fs->Args K F' ss vs σ':=by
   intro U' σ' F' fs kp sm q9 e
   obtain ⟨fp,en,_⟩:=q8.en
   have hσ:vs.length<=σ'.length:=by
    -- finals reads as many slots as there are arguments
    have:∀ (ss:List S) (U:Env) (fs:List S),finals ss U=some fs->ss.length<=U.length:=by
     intro ss
     induction ss with
     | nil=>intro U fs _; simp
     | cons s ss ih=>
       intro U fs e
       cases U with
       | nil=>cases s <;> cases e
       | cons o U=>
         have:∃ gs,finals ss U=some gs:=by
          cases q:finals ss U with
          | some gs=>exact ⟨gs,rfl⟩
          | none=>
            cases s with
            | sh d=>have e':(finals ss U).map (S.sh d::·)=some fs:=e; rw [q] at e'; cases e'
            | _=>
              cases o with
              | none=>cases e
              | some t=>have e':(finals ss U).map (t::·)=some fs:=e; rw [q] at e'; cases e'
         obtain ⟨gs,q⟩:=this
         have:=ih U gs q
         simp
         exact this
    have:=this ss U' fs e
    rw [hsl] at this
    lia
   exact zhG (ks:=ks) (F:=F') (σ:=σ') (j:=0) en sm (fun i s e=>by simpa using hks i s e) (fun i v e z=>by
    rw [kp i (by simpa using z)]
    exact hst i v e) hσ
  have fin:∀ {U':Env} {σ':St} {F' H':Hp} {t:S} {v:V} {fs:List S},KP ks (L2.start N vs) σ'->qK F F'->Rel K (U'++[some t]) (σ'++[some v]) F' G H'->finals ss U'=some fs->P' t fs->Q v H':=by
   intro U' σ' F' H' t v fs kp sm r e hp
   have q9:U'.length=σ'.length:=len1 r
   obtain ⟨l1,l2,r1⟩:=zbB (Ua:=[]) (σa:=[]) (U':=[some t]) (σ':=[some v]) e (by simpa using r) rfl q9 (arg kp sm q9 e)
   exact hok t fs v F' H' hp sm l1 (by simpa using r1)
  refine ⟨F,G,_,_,hr0,hbody,fun U' σ' F' H' h kp sm r=>?_,fun U' σ' F' H' h=>h.elim,fun U' σ' F' H' h=>h.elim,fun a U' σ' v F' H' h kp sm r rv=>?_,fun d U' σ' F' H' u s' h kp sm r I xr=>?_⟩
  ·obtain ⟨fs,e,h⟩:=zae h
   exact fin kp sm (r.push .non) e h
  ·cases a with
   | v t=>
     obtain ⟨fs,e,h⟩:=zae h
     exact fin kp sm r e h
   | loc i=>
     obtain ⟨t,et,h⟩:=zae h
     have hl:=len1 r
     by_cases hi:i < n
     ·rw [qq hi] at h
      obtain ⟨fs,e,h⟩:=zae h
      obtain ⟨F2,s2,_,r2⟩:=giveR (x:=.loc i) (s:=.sh t.toD) (U1:=U'.set i (some (.sh t.toD))) (U':=[]) (σ':=[]) r hl rv (by show (match slot U' i with | some s=>some (S.sh s.toD,U'.set i (some (.sh s.toD))) | none=>none)=_; rw [et])
      exact fin kp (sm.trans s2) r2 e h
     ·rw [qr hi] at h
      obtain ⟨fs,e,h⟩:=zae h
      have r2:=Rel.lend (U':=[]) (σ':=[]) r hl et rv
      refine fin kp sm r2 ?_ h
      -- the slot lies behind the parameters
      have:∀ (ss:List S) (U:Env) (i:Nat),ss.length<=i->finals ss (U.set i none)=finals ss U:=by
       intro ss
       induction ss with
       | nil=>intro U i _; cases U <;> cases i <;> rfl
       | cons s ss ih=>
         intro U i hi
         cases U with
         | nil=>rfl
         | cons o U=>
           cases i with
           | zero=>simp at hi
           | succ i=>
             have e:=ih U i (by simpa using hi)
             show finals (s::ss) (o::U.set i none)=finals (s::ss) (o::U)
             cases s with
             | sh d=>show (finals ss (U.set i none)).map _=(finals ss U).map _; rw [e]
             | _=>
               cases o with
               | none=>rfl
               | some t=>show (finals ss (U.set i none)).map _=(finals ss U).map _; rw [e]
      rw [this ss U' i (by lia)]
      exact e
  ·obtain ⟨fs,e,h⟩:=zae h
   obtain ⟨a,C,dx,rfl,cd,Fl⟩:=xr
   obtain ⟨l1,l2,r1⟩:=zbB (K:=K) (Ua:=[]) (σa:=[]) (U':=[]) (σ':=[]) e (by simpa using (show Rel K U' σ' F' G H' from r)) rfl r.len (arg kp sm r.len e)
   exact ziQ I Fl (hex d fs F' H' C dx h sm l1 (by simpa using r1) cd)
end
noncomputable def ClsAt (h:Heap) (C:Addr) (bm:List Value):Prop:=∃ nm q N bs hdct sn sub ab col dd k0 k1 k2 k3 k5 newId,h.get? C=some (excClassObj nm q C N bs bm hdct sn sub ab col dd k0 k1 k2 k3 k5 newId)/\bm.contains (.type "BaseException")=true
theorem ClsAt.keeps (k:∀ b o,h.get? b=some o->h'.get? b=some o) (c:ClsAt h C bm):ClsAt h' C bm:=by
 obtain ⟨nm,q,N,bs,hdct,sn,sub,ab,col,dd,k0,k1,k2,k3,k5,newId,hC,hb⟩:=c
 exact ⟨nm,q,N,bs,hdct,sn,sub,ab,col,dd,k0,k1,k2,k3,k5,newId,k _ _ hC,hb⟩
theorem zeM {M:Model} {A:Around} {E:qE} {s:Shared} {e C B:Addr} {oe:Obj} {bm bmB:List Value} {Q:Bool->Shared->Prop} (hC:ClsAt s.heap C bm) (hB:ClsAt s.heap B bmB) (he:s.heap.get? e=some oe) (hcls:oe.cls=.ref C)
  (hm:(Value.ref C::bm).contains (.ref B)=true) (hq:Q true s):wpAny M A (excMatches (.ref e) (.ref B)) Q E s:=by
 obtain ⟨nm,q,N,bs,hdct,sn,sub,ab,col,dd,k0,k1,k2,k3,k5,newId,hC,hb⟩:=hC
 obtain ⟨nm',q',N',bs',hdct',sn',sub',ab',col',dd',k0',k1',k2',k3',k5',newId',hB,hb'⟩:=hB
 have hcB:(Value.ref B::bmB).contains (.type "BaseException")=true:=by rw [List.contains_cons,hb',Bool.or_true]
 obtain ⟨h,g,d,t,os⟩:=s
 have f:=tc_notTuple
 unfold excMatches
 repeat (first | (with_reducible refine wpAny_loadPart_at he ?_; rw [hcls]) | with_reducible refine wpAny_loadPart_at hB ?_ | (with_reducible refine wpAny_isSubtype_exc hC ?_; rw [hm]) | (with_reducible refine wpAny_isSubtype_exc hB ?_; rw [hcB]) | wp_step)
 exact hq
noncomputable abbrev hX (X:Cx) (e:Addr):Cx:={ X with A:=X.A.mark (some (.ref e)),calm:=false }
theorem Inv.wp' (I:Inv (wp X pn xe) qZ σ H s) (h:∀ p∈pn'++pins',p∈pn++qZ):Inv (wp X pn' xe') pins' σ H s:=
 ⟨⟨I.ok.mod,I.ok.kind,I.ok.glob,I.ok.blt,I.ok.above,I.ok.inj,I.ok.has,I.ok.cab,I.ok.hd,I.ok.frames,I.ok.stk,I.ok.exf,I.ok.bs,I.ok.bsz,I.ok.noex,I.ok.exfs,I.ok.funs,I.ok.frf⟩,
   I.os,I.bare,I.base,I.loc,I.cell,I.free,I.freeC,fun p hp=>I.pin p (h p hp),I.hok,I.len⟩
theorem Inv.held (I:Inv (wp X pn xe) qZ σ H s) (h:∀ p∈pn'++pins',p∈pn++qZ):Inv (wp (hX X e) pn' xe') pins' σ H s:=
 ⟨⟨I.ok.mod,I.ok.kind,I.ok.glob,I.ok.blt,I.ok.above,I.ok.inj,I.ok.has,I.ok.cab,fun z=>(by cases z),I.ok.frames,I.ok.stk,I.ok.exf,I.ok.bs,I.ok.bsz,I.ok.noex,I.ok.exfs,I.ok.funs,I.ok.frf⟩,
   I.os,I.bare,I.base,I.loc,I.cell,I.free,I.freeC,fun p hp=>I.pin p (h p hp),I.hok,I.len⟩
theorem Inv.let (I:Inv (wp (hX X e) pn' xe') pins' σ H s) (hd:X.calm=true->X.A.handled=none) (h:∀ p∈pn++qZ,p∈pn'++pins'):Inv (wp X pn xe) qZ σ H s:=
 ⟨⟨I.ok.mod,I.ok.kind,I.ok.glob,I.ok.blt,I.ok.above,I.ok.inj,I.ok.has,I.ok.cab,hd,I.ok.frames,I.ok.stk,I.ok.exf,I.ok.bs,I.ok.bsz,I.ok.noex,I.ok.exfs,I.ok.funs,I.ok.frf⟩,
   I.os,I.bare,I.base,I.loc,I.cell,I.free,I.freeC,fun p hp=>I.pin p (h p hp),I.hok,I.len⟩
theorem Fly.wp' {H:Hp} (F:Fly (wp X pn xe) qZ H h e cls dx) (hs:∀ p∈pn'++pins',p∈pn++qZ):Fly (wp X pn' xe') pins' H h e cls dx:=by
 have g:∀ {b},FpOk (wp X pn xe) qZ H b->FpOk (wp X pn' xe') pins' H b:=fun f=>⟨f.1,f.2.1,f.2.2.1,f.2.2.2.1,f.2.2.2.2.1,fun p hp=>f.2.2.2.2.2 p (hs p hp)⟩
 obtain ⟨f,oe,vs,h1,h2,hd,h3,h4⟩:=F
 refine ⟨g f,oe,vs,h1,h2,hd,h3,h4.imp id ?_⟩
 rintro ⟨T,oT,ts,a1,a2,a3,a4⟩
 exact ⟨T,oT,ts,a1,a2,g a3,a4⟩
theorem SP.wp' {D:L2.Ends} (h:∀ p∈pn++qZ,p∈pn'++pins') (z:SP (wp X pn' xe') pins' D f s):SP (wp X pn xe) qZ D f s:=by
 cases f with
 | next=>obtain ⟨σ',H',I,q⟩:=z; exact ⟨σ',H',Inv.wp' I h,q⟩
 | brk=>obtain ⟨σ',H',I,q⟩:=z; exact ⟨σ',H',Inv.wp' I h,q⟩
 | cont=>obtain ⟨σ',H',I,q⟩:=z; exact ⟨σ',H',Inv.wp' I h,q⟩
 | ret u=>obtain ⟨v,σ',H',I,r,q⟩:=z; exact ⟨v,σ',H',Inv.wp' I h,r,q⟩
noncomputable def Caught (X:Cx) (cs:List (List Nat)) (B:Addr):Prop:=∀ c∈cs,∃ C bm,W.nsIn X.K mainGlobals (⟨c.toArray⟩:Str)=some (some (.ref C))/\ClsAt X.base C bm/\(Value.ref C::bm).contains (.ref B)=true
theorem Inv.adopt {qZ:List (Addr×Obj)} {σ:St} {H:Hp} {s:Shared} {e:Addr} (I:Inv X qZ σ H s) (F:Fly X qZ H s.heap e (.ref C) dx):Inv X qZ σ (upd H e (.ext (excφ e C dx))) s:=by
 obtain ⟨⟨f0,f1,f2,f3,f4,f5⟩,oe,vs,he,hc,hx,hd,_⟩:=F
 have ne:∀ b o,H b=some o->b≠e:=fun b o q z=>by rw [z,f0] at q; cases q
 refine I.call' (ch:=[e]) rfl ⟨fun b o q _ _ _=>q,fun b o q _ _ _=>⟨o.slots,q⟩,fun b o _ n x=>(zag fun z=>x (by simp [z])).trans n,fun b o q _=>⟨o,q⟩,fun b xs q=>(zag (ne _ _ q)).trans q,fun b o u q=>(zag (ne _ _ q)).trans q,fun b ps q=>⟨#[],by rw [zag (ne _ _ q),q]; simp⟩⟩ (fun b o q=>?_) I.bare fun b hb=>?_
 ·by_cases hb:b=e
  ·subst hb
   rw [zam] at q
   cases q
   refine ⟨⟨oe,vs,he,hc,hx,hd⟩,⟨oe,he⟩,fun h1 h2 z k=>?_⟩
   obtain ⟨o,ws,a1,a2,a3⟩:=z
   exact ⟨o,ws,k _ a1,a2,a3⟩
  ·rw [zag hb] at q
   exact (I.hok b o q).stay (fun _ _ _ z=>z) (fun c z=>(zag (ne _ _ z)).trans z) fun c xs z=>(zag (ne _ _ z)).trans z
 ·rw [List.mem_singleton.mp hb]
  exact ⟨f3,f1,f4,f5⟩
theorem gone {qZ:List (Addr×Obj)} {σ:St} {H:Hp} {s:Shared} {i:Nat} {y:Str} {M:Model} {A:Around} {E:qE} {Q:Unit->Shared->Prop} (I:Inv X qZ σ H s) (hN:∀ j,X.N[j]?=some y->j=i) (hk:X.env.scope.names.lookup y=some .local) (h:∀ s',Inv X qZ (σ.set i none) H s'->Q () s'):
  wpAny M A (do bindName X.env y .none; unbindBehindTheSuite X.env y pos) Q E s:=by
 obtain ⟨m,hn,hl⟩:=id I.loc
 have hcls:(X.env.scope.kind == .class || (X.env.scope.kind == .module && X.env.locals !=X.env.globals))=false:=by rw [I.ok.kind]; rfl
 have cne:=I.cne
 obtain ⟨oL,_,_,hoL,_⟩:=id hn
 refine wpAny_nameGoes_keeps hk hn hcls fun h' v hn' hs=>h _ ⟨I.ok,I.os,I.bare,⟨fun b o e n hb hx=>?_,fun b o e n hb hx=>?_,I.base.free,fun b o e hx=>?_,I.base.tups,I.base.frzs,I.base.tbls⟩,⟨_,hn',fun j z v' e1 e2 e3=>?_⟩,fun y c e=>?_,I.free,I.freeC,fun p hp=>?_,fun b ob e=>?_,by simpa using I.len⟩
 ·exact (hs.2 b (Nat.ne_of_lt (Nat.lt_of_lt_of_le (qf e) I.ok.above))).trans (I.base.keep b o e n hb hx)
 ·obtain ⟨sl,e1⟩:=I.base.slot b o e n hb hx
  exact ⟨sl,(hs.2 b (Nat.ne_of_lt (Nat.lt_of_lt_of_le (qf e) I.ok.above))).trans e1⟩
 ·obtain ⟨o',e1⟩:=I.base.there b o e hx
  exact ⟨o',(hs.2 b (Nat.ne_of_lt (Nat.lt_of_lt_of_le (qf e) I.ok.above))).trans e1⟩
 ·have hj:i≠j:=fun q=>by
   subst q
   rw [List.getElem?_set] at e2
   grind
  rw [List.getElem?_set_ne hj] at e2
  obtain ⟨u',r',q⟩:=hl j z v' e1 e2 e3
  refine ⟨u',r',?_⟩
  rcases q with ⟨k,e⟩ | ⟨k,c,e,w⟩
  ·refine .inl ⟨k,?_⟩
   have:z≠y:=fun e=>hj (hN j (e ▸ e1)).symm
   simp [this,e]
  ·exact .inr ⟨k,c,e,w.sameBut hs (cne z c e)⟩
 ·obtain ⟨w',z⟩:=I.cell y c e
  exact ⟨w',z.sameBut hs (cne y c e)⟩
 ·obtain ⟨e,n,ne,nf,d⟩:=I.pin p hp
  exact ⟨(hs.2 p.1 ne).trans e,n,ne,nf,d⟩
 ·refine (I.hok b ob e).stay (fun c w' hc q=>(hs.2 c ?_).trans q) (fun _ q=>q) fun _ _ q=>q
  rintro rfl
  have:=I.free
  rcases hc with hc | hc
  ·rw [<- hc,this] at e; cases e
  ·rw [this] at hc; cases hc
theorem zh6 {j:Nat} {y:Str} (hk:j∉ks) (hN:∀ i,X.N[i]?=some y->i=j) (hj:X.N[j]?=some y) (hy:X.env.scope.names.lookup y=some .local) (hst:X.stack=X.env::X.outer) (hf:X.env.frame=some X.env.locals) (hg:Gl X x) (hB:X.mg x=some (.ref B)) (cB:ClsAt X.base B bmB) (hcs:Caught X cs B) (hb:FSs X ks body wb) (hs:∀ e,FSs (hX X e) ks (b0::suite) ws)
  (hdb:(x == ("__debug__":Str))=false:=by decide):FS X ks (.Try body [.ExceptHandler (some (.Name x np)) (some y) (b0::suite) hpos] [] [] pos) (wTryAs cs j wb ws):=by
 intro pn xe hp qZ s σ H D I q
 obtain ⟨F,G,U,E,q8,hw,n,b,c,r,hx⟩:=q
 have hd:X.calm=true->X.A.handled=none:=I.ok.hd
 refine wpAny_Try_except (thn (hb (pn++qZ) (fun e s₁=>wpAny (model X.prog X.w) X.A (noteFrame e X.env) (fun _ s₂=>wpAny (model X.prog X.w) X.A (setFlight e none) (fun _ s₃=>wpAny (model X.prog X.w) X.A (handleBy e X.env [.ExceptHandler (some (.Name x np)) (some y) (b0::suite) hpos]) (SP (wp X pn xe) qZ D) xe s₃) xe s₂) xe s₁) PassesOwn.looking [] s σ H D (Inv.wp' I fun p hp=>by simpa using hp) ?_) fun f s1 z=>?_)
 ·refine ⟨F,G,U,_,q8,hw,n,b,c,r,fun d U' σ' F' H' u s' hp hkp sm rel' I' xr=>?_⟩
  obtain ⟨⟨c0,hc0,fs0,vs0,rfl⟩,hws⟩:=hp
  obtain ⟨e,C,dx,rfl,⟨c',fs',vs',ec,hns,hxd⟩,Fl⟩:=xr
  cases ec
  obtain ⟨C',bm,hns',hC,hm⟩:=hcs c0 hc0
  have hns:W.nsIn X.K mainGlobals (⟨c0.toArray⟩:Str)=some (some (.ref C)):=hns
  rw [hns'] at hns
  cases hns
  have J:Inv (wp X pn xe) qZ σ' H' s':=Inv.wp' I' fun p hp=>by simpa using hp
  refine zfx (X:=wp X pn xe) (qZ:=qZ) hst hf J (Fly.wp' Fl fun p hp=>by simpa using hp) fun h1 J1 F1=>?_
  refine wpAny_handleBy_cons (codeAny_handlers_test ?_) (by intro q; cases q)
  have J2:Inv (wp (hX X e) pn (fun _ _=>False)) qZ σ' H' { s' with heap:=h1 }:=Inv.held J1 fun _ z=>z
  refine zcF (X:=wp (hX X e) pn (fun _ _=>False)) J2 hg hB ?_ hdb
  obtain ⟨_,oe,vs,he,hcl,_⟩:=id F1
  refine zeM (hC.keeps J2.bk) (cB.keeps J2.bk) he hcl hm ?_
  refine codeAny_handlers_suite_as (zfZ (X:=wp X pn xe) J1 F1 fun h2 J3 F3=>?_)
  have J4:Inv (wp (hX X e) (pn++qZ) (fun _ _=>False)) [] σ' (upd H' e (.ext (excφ e C dx))) { s' with heap:=h2 }:=Inv.held (Inv.adopt (X:=wp X pn xe) J3 F3) fun p hp=>by simpa using hp
  have hl:=rel'.len
  have hne:=F3.1.1
  have rel2:Rel X.K (U'.set j (some (.sh (.exc c0 fs0 vs0)))) (σ'.set j (some (.ref e))) (upd F' e (.ext (excφ e C dx))) G (upd H' e (.ext (excφ e C dx))):=
   Rel.store ((rel'.newF hne).push (.exc zam hns' (hxd.mono (qK.upd (rel'.free hne).1)))) hl (by rw [hl,J.len]; exact (qh.mp hj).1)
  refine zcv (X:=wp (hX X e) (pn++qZ) (fun _ _=>False)) (v:=.ref e) J4 hN hj (.inl hy) rfl (fun s4 J5 _=>?_) (.inr hy)
  refine qD (hs e (pn++qZ) (fun _ _=>False) PassesOwn.never [] _ _ _ { nx:=fun σ2 H2=>D.nx (σ2.set j none) H2,rt:=fun _ _=>False } J5 ?_) (fun f s2 z=>?_) fun _ _ z=>z.elim
  ·refine ⟨_,G,_,_,rel2,hws,fun U2 σ2 F2 H2 h k s r=>?_,fun _ _ _ _ h=>h.elim,fun _ _ _ _ h=>h.elim,fun _ _ _ _ _ _ h=>h.elim,fun d U2 σ2 F2 H2 u s2 p=>p.elim⟩
   have hl2:=r.len
   refine n _ _ F2 H2 h (fun i hi=>?_) (sm.trans ((qK.upd (rel'.free hne).1).trans s)) ?_
   ·have hij:j≠i:=fun z=>hk (z ▸ hi)
    rw [List.getElem?_set_ne hij,k i hi,List.getElem?_set_ne hij]
    exact hkp i hi
   ·by_cases hj2:j < U2.length
    ·exact Rel.store (r.pushN (u:=none)) hl2 hj2
    ·rw [List.set_eq_of_length_le (by lia),List.set_eq_of_length_le (by lia)]
     exact r
  ·cases f with
   | next=>
     obtain ⟨σ2,H2,J6,q⟩:=z
     exact gone (X:=wp X pn xe) (qZ:=qZ) (Inv.let J6 hd fun p hp=>by simpa using hp) hN hy fun s5 J7=>⟨_,H2,J7,q⟩
   | brk=>obtain ⟨_,_,_,q⟩:=z; exact q.elim
   | cont=>obtain ⟨_,_,_,q⟩:=z; exact q.elim
   | ret u=>obtain ⟨_,_,_,_,_,q⟩:=z; exact q.elim
 ·have z':SP (wp X pn xe) qZ D f s1:=SP.wp' (fun p hp=>by simpa using hp) z
  cases f with
  | next=>
    obtain ⟨σ',H',I',q⟩:=z'
    exact zg3 (X:=wp X pn xe) qZ s1 σ' H' D I' q
  | brk=>exact z'
  | cont=>exact z'
  | ret u=>exact z'
theorem zjb {bm:List Value} {Bs newId initId:String} {cpos:Pos} {c:List Nat} (O:OwnCls x C bm newId X.mg X.base) (FB:ExcBaseFacts Bs newId initId bm) (hc:X.calm=true) (hg:Gl X x) (hns:W.nsIn X.K mainGlobals (⟨c.toArray⟩:Str)=some (some (.ref C))) (hd:(x == ("__debug__":Str))=false:=by decide):
  FS X ks (.Raise (some (.Call (.Name x np) [] [] cpos)) none pos) (wRaise c):=fun pn xe hp=>PS.imp (zi8 (X:=wp X pn xe) O FB hc hg hd) fun D σ H q=>by
 obtain ⟨F,G,U,E,q8,hw,n,b,c,r,hx⟩:=q
 exact fun a s' I Fl=>hx _ U σ F H (.ref a) s' hw KP.refl (qK.refl F) q8 I ⟨a,C,none,rfl,⟨_,_,_,rfl,hns,.inl ⟨rfl,rfl,rfl⟩⟩,Fl⟩
end FL
namespace FL
open PySem PySem.Spec PySem.Calls PyProof.Rows PySem.W L2
structure ExK (K:Frag) (C:Addr):Prop where
 ga:findIn K (.ref C) "__getattribute__"=some (some (.builtin "BaseException.__getattribute__"))
 gt:findIn K (.ref C) "__getattr__"=some none
 cl:findIn K (.ref C) "__class__"=some (some (.builtin "object.__class__"))
 hn:specialIn K (.builtin "object.__class__") "__get__"=some (some (.builtin "getset_descriptor.__get__"))
 tk:takesIn K (.builtin "object.__class__")=some true
 ob:mroIn K C (.type "object")=some true
 be:mroIn K C (.type "BaseException")=some true
section
variable {K:Frag} {x C D:Addr}
theorem zjy (self:Value):bindSpecial (.builtin "BaseException.__getattribute__") self=pure (.builtin "BaseException.__getattribute__",[self]):=F.attr_ValueError.ga.bind self
theorem ziK {fill expr:Bool} {tk:Tok} {Q:qE} (X:K.In s.heap) (I:InstAt s.heap x ox D odo) (k:ExK K D)
  (h:∀ (A:Around) (Q':Fin->Shared->Prop) (E':qE),(∀ v s',handedOut v=pure v/\Q v s'->Q' (.done (.ret v)) s')->wpAny (model prog w) A (Builtin.«object.__getattribute__» ⟨[.ref x,.str name tk],[]⟩) Q' E' s):
  wpAny (model prog w) A (getAttrBy (.ref x) (.str name tk) fill expr) Q E s:=by
 obtain ⟨hh,gg,d,t,os⟩:=s
 have L0:=I.type (M:=model prog w)
 have L1:=looks_findIn (M:=model prog w) X k.ga
 have L2:=looks_findIn (M:=model prog w) X k.gt
 have L3:=looks_mroIn (M:=model prog w) X k.be
 have hx0:(expr && onTheHeap (Value.builtin "BaseException.__getattribute__"))=false:=by cases expr <;> rfl
 have hx2:(Value.builtin "BaseException.__getattribute__" == Value.builtin "object.__getattribute__")=false:=by decide +kernel
 have hx1:(onTheHeap (Value.ref D) && Value.builtin "BaseException.__getattribute__" == Value.builtin "object.__getattribute__")=false:=by rw [hx2]; rfl
 unfold getAttrBy
 refine qB (qa (L0.at (qa (L1.at ?_))))
 dsimp only
 rw [qr (by rw [hx1]; decide)]
 unfold getAttrByItsOwn hookBefore
 rw [qq (show onTheHeap (Value.ref D)=true from rfl)]
 refine qa (L2.at (qa (wpAny_attempt (qB ?_))))
 unfold callGetattribute
 rw [qr (by rw [hx0]; decide)]
 unfold boundAndCalled
 rw [zjy]
 refine qa (qb ?_)
 refine wpAny_call (codeAny_call_builtin (by decide +kernel) F.entry_bexc_ga ?_)
 have hk:builtinKind "BaseException.__getattribute__"=some .slot:=by decide +kernel
 have hsplit:splitId "BaseException.__getattribute__"=some ("BaseException","__getattribute__"):=by decide +kernel
 have ha:=F.args_bexc_ga (.ref x) (.str name tk)
 simp only [checkBuiltinCall,hk,hsplit]
 refine qa ?_
 unfold isInstance
 refine qa (L0.at (L3.at ?_))
 repeat (first | (refine h _ _ _ fun v s' z=>?_) | wp_step)
 obtain ⟨z1,z2⟩:=z
 show wpAny _ _ (handedOut v) _ _ _
 rw [z1]
 exact qb z2
theorem zkf {fill expr:Bool} {tk:Tok} {Q:qE} (X:K.In s.heap) (I:InstAt s.heap x ox D odo) (k:ExK K D) (hf:findObj K D odo name=some (.bind g a))
  (h:∀ A,wpAny (model prog w) A (call g [a,.ref x,.ref D]) (fun v s'=>handedOut v=pure v/\Q v s') (fun _ _=>False) s):
  wpAny (model prog w) A (getAttrBy (.ref x) (.str name tk) fill expr) Q E s:=ziK X I k fun A Q' E' hq=>by
 obtain ⟨hh,gg,d,t,os⟩:=s
 have L0:=I.type (M:=model prog w)
 have L4:=looks_find (M:=model prog w) X I hf
 unfold Builtin.«object.__getattribute__»
 refine qa (qb (qa (qb (qa (L0.at (qa (L4.at ?_)))))))
 show wpAny _ _ (holding [a] (call g [a,.ref x,.ref D]) >>= ret) _ _ _
 exact qa (qB (qD (h _) (fun v s' z=>qb (hq v s' z)) fun _ _ z=>z.elim))
theorem zki {Q:Option Value->Shared->Prop} (X:K.In s.heap) (I:InstAt s.heap x ox D odo) (k:ExK K D) (h:Q (some (.ref D)) { s with toks:=s.toks + 1 }):wpAny (model prog w) A (getAttr? (.ref x) "__class__") Q E s:=by
 have hc:(clsIn K D).isSome=true:=by
  have:=k.ob
  unfold mroIn at this
  cases q:clsIn K D with
  | none=>rw [q] at this; cases this
  | some _=>rfl
 have hf:findObj K D odo "__class__"=some (.bind (.builtin "getset_descriptor.__get__") (.builtin "object.__class__")):=by
  obtain ⟨cd,hc⟩:=Option.isSome_iff_exists.mp hc
  unfold findObj
  rw [hc,Option.bind_some,k.cl,Option.bind_some]
  simp [k.hn,k.tk]
 unfold getAttr? getAttrBy?
 refine qa (wpAny_mkText (qa (wpAny_attempt ?_)))
 exact zkf (s:={ s with toks:=s.toks + 1 }) X I k hf fun A=>wpAny_call (class_get (s:={ s with toks:=s.toks + 1 }) X I k.ob ⟨rfl,qb h⟩)
theorem zfi {x C:Addr} {odo:Option Obj} (k:ExK K C):KitX K (.ref x) (.ref C) (fun h=>∃ ox,InstAt h x ox C odo) where
 ty:=fun _ _ _ ⟨_,I⟩=>I.type
 it:=fun _ _ X _=>by
  have hc:=k.ob
  unfold mroIn clsIn at hc
  split at hc
  ·rename_i c' d' cd' sl' ho
   intro A' Q' E' s' k q
   unfold isType loadHead
   exact qa (wpAny_loadPart (k _ _ (X _ _ ho)) (qb q))
  ·cases hc
 ne:=fun h tp dd zc n sl X htp=>by
  have hc:=k.ob
  refine Bool.eq_false_iff.mpr fun q=>?_
  have e:C=tp:=Value.ref.inj (beq_iff_eq.mp q)
  subst e
  unfold mroIn clsIn at hc
  split at hc
  ·rename_i c' d' cd' sl' ho
   have z:=(X _ _ ho).symm.trans htp
   cases z
  ·cases hc
 ca:=fun X ⟨_,I⟩ q=>zki X I k q
end
end FL
namespace FL
open PySem PySem.Spec PyProof.Rows L2
open PySem.W (kitOne kitAny nsIn kia_one kia_tup kitx_none)
noncomputable def IsiOne (K:W.Frag) (kn yes:List (List Nat)) (cv:Value):Prop:=kitOne K (.type "NoneType") cv=some false/\∀ c∈kn,∃ C,nsIn K mainGlobals (⟨c.toArray⟩:Str)=some (some (.ref C))/\ExK K C/\kitOne K (.ref C) cv=some (yes.contains c)
noncomputable def IsiAny (K:W.Frag) (kn yes:List (List Nat)) (cvs:List Value):Prop:=kitAny K (.type "NoneType") cvs=some false/\∀ c∈kn,∃ C,nsIn K mainGlobals (⟨c.toArray⟩:Str)=some (some (.ref C))/\ExK K C/\kitAny K (.ref C) cvs=some (yes.contains c)
section
variable {X:Cx} {s:Shared}
theorem zjp {c:List Nat} {fs:List (List Nat)} {vs:List D} (e:tX kn yes (.exc c fs vs)=some b):c∈kn/\yes.contains c=b:=by
 have e':(if kn.contains c then some (yes.contains c) else none)=some b:=e
 split at e'
 ·rename_i h
  exact ⟨by simpa using h,qg e'⟩
 ·cases e'
theorem zfb {a C:Addr} {dx:Option Addr} {fs:List (List Nat)} {vs:List D} (hok:HOk X.prog X.w H s.heap) (ea:H a=some (.ext (excφ a C dx))) (hx:XDct H dx fs vs):∃ odo ox,W.InstAt s.heap a ox C odo:=by
 obtain ⟨⟨o,ws,h1,h2,h3,h4⟩,_,_⟩:=(show qY X.prog X.w H s.heap a (.ext (excφ a C dx)) from hok a _ ea)
 have hn:W.notCls o=true:=by unfold W.notCls; rw [h4]
 rcases hx with ⟨rfl,_⟩ | ⟨p,f,i,rfl,_,_,e⟩
 ·exact ⟨none,o,h1,h2,hn,by rw [h3]; trivial⟩
 ·obtain ⟨u,hu⟩:=qY.there (hok p _ e)
  exact ⟨some u,o,h1,h2,hn,by rw [h3]; exact hu⟩
theorem zii (I:Inv X qZ σ H s) (rx:qO x u) (rp:Rep X.K H x d) (e:tX kn yes d=some b) (hi:IsiOne X.K kn yes cv) (h:∀ tk,Q (.bool b) { s with toks:=tk }):
  wpAny (model X.prog X.w) A (call (.builtin "isinstance") [u,cv]) Q E s:=by
 cases rp with
 | non=>
   cases (show u=Value.none from rx)
   cases e
   exact kia_one kitx_none I.kIn True.intro hi.1 (fun z=>nomatch z) h
 | @exc a C dx c fs vs ea hn hx=>
   cases (show u=Value.ref a from rx)
   obtain ⟨hc,rfl⟩:=zjp e
   obtain ⟨C',hn',k,q⟩:=hi.2 _ hc
   rw [hn] at hn'
   cases hn'
   obtain ⟨odo,ox,J⟩:=zfb I.hok ea hx
   exact kia_one (zfi k) I.kIn ⟨ox,J⟩ q (fun z=>nomatch z) h
 | _=>cases e
theorem zhW {tp:Addr} {dd:Option Addr} {zc:List Value} {n:Nat} {sl:Array (Option Value)} (I:Inv X qZ σ H s) (rx:qO x u) (rp:Rep X.K H x d) (e:tX kn yes d=some b) (hi:IsiAny X.K kn yes zc) (htp:s.heap.get? tp=some ⟨.type "tuple",dd,.seq zc.toArray n,sl⟩) (h:∀ tk,Q (.bool b) { s with toks:=tk }):
  wpAny (model X.prog X.w) A (call (.builtin "isinstance") [u,.ref tp]) Q E s:=by
 cases rp with
 | non=>
   cases (show u=Value.none from rx)
   cases e
   exact kia_tup kitx_none I.kIn True.intro htp hi.1 (fun z=>nomatch z) h
 | @exc a C dx c fs vs ea hn hx=>
   cases (show u=Value.ref a from rx)
   obtain ⟨hc,rfl⟩:=zjp e
   obtain ⟨C',hn',k,q⟩:=hi.2 _ hc
   rw [hn] at hn'
   cases hn'
   obtain ⟨odo,ox,J⟩:=zfb I.hok ea hx
   exact kia_tup (zfi k) I.kIn ⟨ox,J⟩ htp q (fun z=>nomatch z) h
 | _=>cases e
end
theorem zjj (hg:Gl X "isinstance") (hm:X.mg "isinstance"=none) (hv:bootBuiltins "isinstance"=some (.builtin "isinstance"))
  (hT:∀ (pn:List (Addr×Obj)) (xe:qE) (qZ:List (Addr×Obj)) (σ:St) (H:Hp) (s:Shared) (Q:qE) (E:qE),Inv (wp X pn xe) qZ σ H s->Q cv s->wpAny (model X.prog X.w) X.A (eval (.Name T pt) X.env) Q E s)
  (hi:IsiOne X.K kn yes cv) (ha:FE X a wa)
  (he:starEach [a,.Name T pt] X.env=(false,eval a X.env)::starEach [.Name T pt] X.env:=by rfl) (he2:starEach [.Name T pt] X.env=[(false,eval (.Name T pt) X.env)]:=by rfl) (hpl:(backTo pos (starEach [.Name T pt] X.env)).any (·.1)=false:=by rfl):
  FE X (.Call (.Name "isinstance" p) [a,.Name T pt] [] pos) (wIsX kn yes wa):=fun pn xe hp=>by
 intro qZ s σ H Q I h
 refine wpAny_Call_Name_kw (zbu (X:=wp X pn xe) I hg hm hv ?_ (by decide) (by decide))
 refine PyProof.Rows.callWith_builtin1 ?_ he hpl
 show wpAny _ _ (spliced (backTo pos (starEach [a,.Name T pt] X.env))) _ _ s
 rw [he,he2]
 show wpAny _ _ (spliced ((false,eval a X.env)::[(false,eval (.Name T pt) X.env)])) _ _ s
 refine Calls.spliced_cons (thn (ha pn xe hp qZ s σ H _ I (one (k:=fun x U1 Q E=>qJ (view x U1) fun d=>qJ (tX kn yes d) fun b=>Q (.v (.sh (.bl b))) U1) h)) fun u s1 zq=>?_)
 obtain ⟨x,H1,I1,r1,q1⟩:=zq
 refine Calls.spliced_cons (hT pn xe qZ σ H1 s1 _ _ I1 (Calls.spliced_nil ?_))
 obtain ⟨F,G,U,y,P,PX,q8,hl,ry,hk,hok,hx⟩:=q1
 obtain ⟨d,ed,hk⟩:=zae hk
 obtain ⟨b,eb,hk⟩:=zae hk
 have rp:=look (U':=[]) (σ':=[]) q8 hl ry ed
 refine zii I1 r1 rp eb hi fun tk=>⟨.bl _,H1,I1.kept fun _ _ z=>z,rfl,?_⟩
 exact hok _ U _ F H1 hk (qK.refl F) ((q8.drop hl).push (.bl _)) trivial
theorem zjz {B:Addr} (hg:Gl X "isinstance") (hm:X.mg "isinstance"=none) (hv:bootBuiltins "isinstance"=some (.builtin "isinstance")) (hgT:Gl X T) (hmT:X.mg T=some (.ref B)) (hi:IsiOne X.K kn yes (.ref B)) (ha:FE X a wa) (hdT:(T == ("__debug__":Str))=false:=by decide)
  (he:starEach [a,.Name T pt] X.env=(false,eval a X.env)::starEach [.Name T pt] X.env:=by rfl):FE X (.Call (.Name "isinstance" p) [a,.Name T pt] [] pos) (wIsX kn yes wa):=
 zjj hg hm hv (fun pn xe qZ σ H s Q E I q=>zcF (X:=wp X pn xe) I hgT hmT q hdT) hi ha he
theorem zkb {TS:String} (hg:Gl X "isinstance") (hm:X.mg "isinstance"=none) (hv:bootBuiltins "isinstance"=some (.builtin "isinstance")) (hgT:Gl X T) (hmT:X.mg T=none) (hvT:bootBuiltins T=some (.type TS)) (hi:IsiOne X.K kn yes (.type TS)) (ha:FE X a wa) (hnT:T≠"__name__":=by decide) (hdT:(T == ("__debug__":Str))=false:=by decide)
  (he:starEach [a,.Name T pt] X.env=(false,eval a X.env)::starEach [.Name T pt] X.env:=by rfl):FE X (.Call (.Name "isinstance" p) [a,.Name T pt] [] pos) (wIsX kn yes wa):=
 zjj hg hm hv (fun pn xe qZ σ H s Q E I q=>zbu (X:=wp X pn xe) I hgT hmT hvT q hnT hdT) hi ha he
inductive NmL (X:Cx):List Expr->List Value->Prop
 | nil:NmL X [] []
 | cons {x:Str} {p:Pos} {B:Addr} {es:List Expr} {vs:List Value}:Gl X x->X.mg x=some (.ref B)->(x == ("__debug__":Str))=false->NmL X es vs->NmL X (.Name x p::es) (.ref B::vs)
theorem NmL.run {es:List Expr} {vs:List Value} (n:NmL X es vs):∀ {pn:List (Addr×Obj)} {xe:qE} {qZ:List (Addr×Obj)} {σ:St} {H:Hp} {s:Shared} {Q:List Value->Shared->Prop} {E:qE},Inv (wp X pn xe) qZ σ H s->Q vs s->wpAny (model X.prog X.w) X.A (spliced (backTo pos (starEach es X.env))) Q E s:=by
 induction n with
 | nil=>exact fun I q=>Calls.spliced_nil q
 | @cons x p B es vs hg hm hd _ ih=>
   intro pn xe qZ σ H s Q E I q
   show wpAny _ _ (spliced ((false,eval (.Name x p) X.env)::backTo pos (starEach es X.env))) _ _ s
   exact Calls.spliced_cons (zcF (X:=wp X pn xe) I hg hm (ih I q) hd)
theorem zkD {es:List Expr} {vs:List Value} (hg:Gl X "isinstance") (hm:X.mg "isinstance"=none) (hv:bootBuiltins "isinstance"=some (.builtin "isinstance")) (hT:NmL X es vs) (hz:vs.length<=sizeLine) (hi:IsiAny X.K kn yes vs) (ha:FE X a wa)
  (he:starEach [a,.Tuple es z pt] X.env=(false,eval a X.env)::starEach [.Tuple es z pt] X.env:=by rfl) (he2:starEach [.Tuple es z pt] X.env=[(false,eval (.Tuple es z pt) X.env)]:=by rfl) (hpl:(backTo pos (starEach [.Tuple es z pt] X.env)).any (·.1)=false:=by rfl):
  FE X (.Call (.Name "isinstance" p) [a,.Tuple es z pt] [] pos) (wIsX kn yes wa):=fun pn xe hp=>by
 intro qZ s σ H Q I h
 refine wpAny_Call_Name_kw (zbu (X:=wp X pn xe) I hg hm hv ?_ (by decide) (by decide))
 refine PyProof.Rows.callWith_builtin1 ?_ he hpl
 show wpAny _ _ (spliced (backTo pos (starEach [a,.Tuple es z pt] X.env))) _ _ s
 rw [he,he2]
 show wpAny _ _ (spliced ((false,eval a X.env)::[(false,eval (.Tuple es z pt) X.env)])) _ _ s
 refine Calls.spliced_cons (thn (ha pn xe hp qZ s σ H _ I (one (k:=fun x U1 Q E=>qJ (view x U1) fun d=>qJ (tX kn yes d) fun b=>Q (.v (.sh (.bl b))) U1) h)) fun u s1 zq=>?_)
 obtain ⟨x,H1,I1,r1,q1⟩:=zq
 refine Calls.spliced_cons (wpAny_Tuple_spliced (hT.run I1 ⟨hz,Calls.spliced_nil ?_⟩))
 obtain ⟨F,G,U,y,P,PX,q8,hl,ry,hk,hok,hx⟩:=q1
 obtain ⟨d,ed,hk⟩:=zae hk
 obtain ⟨b,eb,hk⟩:=zae hk
 have rp:=look (U':=[]) (σ':=[]) q8 hl ry ed
 have I2:=I1.kept (t':=s1.toks) fun b u e=>qc { cls:=.type "tuple",data:=.seq vs.toArray } e
 refine zhW I2 r1 rp eb hi (qd _ rfl) fun tk=>⟨.bl _,H1,I2.kept fun _ _ z=>z,rfl,?_⟩
 exact hok _ U _ F H1 hk (qK.refl F) ((q8.drop hl).push (.bl _)) trivial
end FL
namespace FL
open PySem PySem.Spec PyProof.Rows L2
open PySem.W (nsIn excIn mroIn clsIn isNs_of_in nsMap_none_of_in tail_of_in)
abbrev bmVE:List Value:=[.type "ValueError",.type "Exception",.type "BaseException",.type "object"]
abbrev neVE:String:="ValueError.__new__"
section
variable {K:W.Frag}
theorem zk3 (X:K.In h) (m:mg x=some (.ref C)) (q:excIn K C bmVE neVE=true):OwnCls x C bmVE neVE mg h:=by
 refine ⟨m,?_⟩
 unfold excIn at q
 split at q
 ·rename_i dd cd sl ho
  split at q
  ·rename_i C' bm k0 k1 k2 k3 n k5 hm hs
   simp only [Bool.and_eq_true,beq_iff_eq,Bool.not_eq_true'] at q
   obtain ⟨⟨⟨⟨⟨rfl,rfl⟩,hdel⟩,ht⟩,hok⟩,hni⟩:=q
   obtain ⟨nm,bs,mro,ns,qn,hd,sn,sub,ab,col,del⟩:=cd
   dsimp only at hm hdel hok hni
   subst hm hdel
   have hsl:sl=#[k0,k1,k2,k3,some (.builtin neVE),k5]:=by
    obtain ⟨l⟩:=sl
    simp only at hs
    rw [hs]
   subst hsl
   exact ⟨bm,ns,nm,qn,bs,hd,sn,sub,ab,col,dd,k0,k1,k2,k3,k5,_,X _ _ ho,.of_isNs (isNs_of_in X hok),nsMap_none_of_in X hok hni,tail_of_in X ht⟩
  ·cases q
 ·cases q
theorem zm8 (X:K.In h) (q:excIn K C bmVE neVE=true):∃ bm,ClsAt h C bm/\∀ B,mroIn K C (.ref B)=some true->(Value.ref C::bm).contains (.ref B)=true:=by
 unfold excIn at q
 split at q
 ·rename_i dd cd sl ho
  split at q
  ·rename_i C' bm k0 k1 k2 k3 n k5 hm hs
   simp only [Bool.and_eq_true,beq_iff_eq,Bool.not_eq_true'] at q
   obtain ⟨⟨⟨⟨⟨rfl,rfl⟩,hdel⟩,ht⟩,hok⟩,hni⟩:=q
   obtain ⟨nm,bs,mro,ns,qn,hd,sn,sub,ab,col,del⟩:=cd
   dsimp only at hm hdel hok hni
   subst hm hdel
   have hsl:sl=#[k0,k1,k2,k3,some (.builtin neVE),k5]:=by
    obtain ⟨l⟩:=sl
    simp only at hs
    rw [hs]
   subst hsl
   refine ⟨bm,⟨nm,qn,ns,bs,hd,sn,sub,ab,col,dd,k0,k1,k2,k3,k5,neVE,X _ _ ho,(tail_of_in X ht).hasType (by decide +kernel)⟩,fun B e=>?_⟩
   unfold mroIn clsIn at e
   rw [ho] at e
   simpa using e
  ·cases q
 ·cases q
end
noncomputable def ClK (K:W.Frag) (C:Addr):Prop:=∀ h,K.In h->∃ bm,ClsAt h C bm/\∀ B,mroIn K C (.ref B)=some true->(Value.ref C::bm).contains (.ref B)=true
theorem ck {K:W.Frag} {C:Addr} (q:excIn K C bmVE neVE=true):ClK K C:=fun _ X=>zm8 X q
noncomputable def CaughtK (K:W.Frag) (cs:List (List Nat)) (B:Addr):Prop:=∀ c∈cs,∃ C,nsIn K mainGlobals (⟨c.toArray⟩:Str)=some (some (.ref C))/\ClK K C/\mroIn K C (.ref B)=some true
theorem CaughtK.at {h:Heap} (X':X.K.In X.base) (k:CaughtK X.K cs B):Caught X cs B:=fun c hc=>by
 obtain ⟨C,h1,h2,h3⟩:=k c hc
 obtain ⟨bm,a,b⟩:=h2 _ X'
 exact ⟨C,bm,h1,a,b B h3⟩
theorem zhJ (hk:j∉ks) (hN:∀ i,X.N[i]?=some y->i=j) (hj:X.N[j]?=some y) (hy:X.env.scope.names.lookup y=some .local) (hB:X.mg x=some (.ref B)) (eB:ClK X.K B) (hcs:CaughtK X.K cs B) (hb:FSs X ks body wb) (hs:∀ e,FSs (hX X e) ks (b0::suite) ws)
  (hst:X.stack=X.env::X.outer:=by rfl) (hf:X.env.frame=some X.env.locals:=by rfl) (hg:Gl X x:=by rfl) (hdb:(x == ("__debug__":Str))=false:=by decide):FS X ks (.Try body [.ExceptHandler (some (.Name x np)) (some y) (b0::suite) hpos] [] [] pos) (wTryAs cs j wb ws):=fun pn xe hp qZ s σ H D I q=>by
 obtain ⟨bm,cB,_⟩:=eB _ I.ok.mod.kin
 exact zh6 hk hN hj hy hst hf hg hB cB (hcs.at (h:=X.base) I.ok.mod.kin) hb hs hdb pn xe hp qZ s σ H D I q
theorem zgU (hB:X.mg x=some (.ref C)) (hns:nsIn X.K mainGlobals (⟨c.toArray⟩:Str)=some (some (.ref C))) (eB:excIn X.K C bmVE neVE=true) (hc:X.calm=true:=by rfl) (hg:Gl X x:=by rfl) (hd:(x == ("__debug__":Str))=false:=by decide):
  FS X ks (.Raise (some (.Call (.Name x np) [] [] cpos)) none pos) (wRaise c):=fun pn xe hp qZ s σ H D I q=>zjb (zk3 I.ok.mod.kin hB eB) F.excBase_ValueError hc hg hns hd pn xe hp qZ s σ H D I q
theorem zdE:bootBuiltins "ValueError"=some (.type "ValueError"):=by decide +kernel
section
variable {K:W.Frag}
theorem zgP (h:x.cps.toList=c) (e:nsIn K mainGlobals x=r):nsIn K mainGlobals (⟨c.toArray⟩:Str)=r:=by
 subst h
 simpa using e
theorem zfP:CaughtK K [] B:=fun _ h=>nomatch h
theorem zeL (h1:nsIn K mainGlobals (⟨c.toArray⟩:Str)=some (some (.ref C))) (h2:ClK K C) (h3:mroIn K C (.ref B)=some true) (r:CaughtK K cs B):CaughtK K (c::cs) B:=fun d hd=>by
 rcases List.mem_cons.mp hd with rfl | hd
 ·exact ⟨C,h1,h2,h3⟩
 ·exact r d hd
theorem zht (h:W.kitOne K (.type "NoneType") cv=some false):IsiOne K [] yes cv:=⟨h,fun _ h=>nomatch h⟩
theorem zfD (h1:nsIn K mainGlobals (⟨c.toArray⟩:Str)=some (some (.ref C))) (h2:ExK K C) (h3:W.kitOne K (.ref C) cv=some b) (hb:yes.contains c=b) (r:IsiOne K kn yes cv):IsiOne K (c::kn) yes cv:=⟨r.1,fun d hd=>by
 rcases List.mem_cons.mp hd with rfl | hd
 ·exact ⟨C,h1,h2,by rw [hb]; exact h3⟩
 ·exact r.2 d hd⟩
theorem zka (h:W.kitAny K (.type "NoneType") cvs=some false):IsiAny K [] yes cvs:=⟨h,fun _ h=>nomatch h⟩
theorem ziw (h1:nsIn K mainGlobals (⟨c.toArray⟩:Str)=some (some (.ref C))) (h2:ExK K C) (h3:W.kitAny K (.ref C) cvs=some b) (hb:yes.contains c=b) (r:IsiAny K kn yes cvs):IsiAny K (c::kn) yes cvs:=⟨r.1,fun d hd=>by
 rcases List.mem_cons.mp hd with rfl | hd
 ·exact ⟨C,h1,h2,by rw [hb]; exact h3⟩
 ·exact r.2 d hd⟩
end
end FL
namespace L2
open PySem PySem.Spec PyProof.Rows
noncomputable def closL (cells:List (Str×Addr)):List (Str×NameKind)->List (Str×Addr)->List (Str×Addr)
 | [],zi=>zi
 | (n,k)::r,zi=>if k == .free then (match cells.lookup n with | some c=>closL cells r ((n,c)::zi) | none=>closL cells r zi) else closL cells r zi
theorem zbW (f:Str×NameKind->List (Str×Addr)->Sem (ForInStep (List (Str×Addr))))
  (hf:∀ n k cs,f (n,k) cs=if k == .free then (do let a <- cellOf env n; pure (.yield ((n,a)::cs))) else pure (.yield cs)):
  ∀ (names:List (Str×NameKind)) (zi:List (Str×Addr)),(∀ x∈names,x.2=.free->∃ c,env.cells.lookup x.1=some c)->(forIn names zi f:Sem _)=pure (closL env.cells names zi)
 | [],zi,_=>by rw [List.forIn_nil]; rfl
 | (n,k)::r,zi,h=>by
   rw [List.forIn_cons,hf]
   have hr:∀ x∈r,x.2=.free->∃ c,env.cells.lookup x.1=some c:=fun x hx=>h x (List.mem_cons_of_mem _ hx)
   by_cases hk:(k == .free)=true
   ·obtain ⟨c,hc⟩:=h (n,k) List.mem_cons_self (by simpa using hk)
    have hc':env.cells.lookup n=some c:=hc
    have e:cellOf env n=pure c:=by unfold cellOf; rw [hc']
    rw [qq hk,e]
    have ih:=zbW f hf r ((n,c)::zi) hr
    unfold closL
    rw [qq hk,hc']
    rw [<- ih]
    simp
   ·rw [qr hk]
    have ih:=zbW f hf r zi hr
    unfold closL
    rw [qr hk,<- ih]
    simp
theorem zdx (h:∀ x∈scope.names,x.2=.free->∃ c,env.cells.lookup x.1=some c):closureFor scope env=pure (closL env.cells scope.names []):=by
 show (forIn scope.names ([]:List (Str×Addr)) _ >>= fun cs=>pure cs)=_
 rw [zbW (env:=env) _ (fun n k cs=>rfl) scope.names [] h]
 rfl
theorem zbD:∀ {names:List (Str×NameKind)} {zi:List (Str×Addr)},(n,c)∈closL cells names zi->(n,c)∈zi\/((n,NameKind.free)∈names/\cells.lookup n=some c)
 | [],_,h=>.inl h
 | (m,k)::r,zi,h=>by
   unfold closL at h
   by_cases hk:(k == .free)=true
   ·rw [qq hk] at h
    have hk':k=.free:=by simpa using hk
    cases q:cells.lookup m with
    | none=>
      rw [q] at h
      rcases zbD h with z | ⟨z,w⟩
      ·exact .inl z
      ·exact .inr ⟨List.mem_cons_of_mem _ z,w⟩
    | some d=>
      rw [q] at h
      rcases zbD h with z | ⟨z,w⟩
      ·rcases List.mem_cons.mp z with e | z
       ·cases e
        exact .inr ⟨by rw [<- hk']; exact List.mem_cons_self,q⟩
       ·exact .inl z
      ·exact .inr ⟨List.mem_cons_of_mem _ z,w⟩
   ·rw [qr hk] at h
    rcases zbD h with z | ⟨z,w⟩
    ·exact .inl z
    ·exact .inr ⟨List.mem_cons_of_mem _ z,w⟩
theorem zbk (hc:cells.lookup n=some c):∀ {names:List (Str×NameKind)} {zi:List (Str×Addr)},((n,c)∈zi\/(n,NameKind.free)∈names)->(n,c)∈closL cells names zi
 | [],_,h=>h.elim id fun z=>by simp at z
 | (m,k)::r,zi,h=>by
   unfold closL
   by_cases hk:(k == .free)=true
   ·rw [qq hk]
    have hk':k=.free:=by simpa using hk
    cases q:cells.lookup m with
    | none=>
      refine zbk hc ?_
      rcases h with z | z
      ·exact .inl z
      ·rcases List.mem_cons.mp z with e | z
       ·cases e; rw [hc] at q; cases q
       ·exact .inr z
    | some d=>
      refine zbk hc ?_
      rcases h with z | z
      ·exact .inl (List.mem_cons_of_mem _ z)
      ·rcases List.mem_cons.mp z with e | z
       ·cases e; rw [hc] at q; cases q; exact .inl List.mem_cons_self
       ·exact .inr z
   ·rw [qr hk]
    refine zbk hc ?_
    rcases h with z | z
    ·exact .inl z
    ·rcases List.mem_cons.mp z with e | z
     ·cases e; exact (hk (by decide)).elim
     ·exact .inr z
theorem zaS {α:Type}:∀ {l:List (Str×α)} {n:Str} {c:α},(n,c)∈l->(∀ c',(n,c')∈l->c'=c)->l.lookup n=some c
 | [],_,_,h,_=>by simp at h
 | (m,d)::r,n,c,h,u=>by
   rw [List.lookup_cons]
   cases hb:n == m with
   | true=>
     have e:n=m:=by simpa using hb
     subst e
     exact congrArg some (u d List.mem_cons_self)
   | false=>
     refine zaS (l:=r) ?_ fun c' hc=>u c' (List.mem_cons_of_mem _ hc)
     rcases List.mem_cons.mp h with e | h
     ·cases e; simp at hb
     ·exact h
theorem za3:∀ {names:List (Str×NameKind)} {n:Nat} {zi:List (Str×Addr)} {x:Str} {c:Addr},(x,c)∈cellsFrom n names zi->(x,c)∈zi\/((x,NameKind.cell)∈names/\n<=c)
 | [],_,_,_,_,h=>.inl h
 | (m,k)::r,n,zi,x,c,h=>by
   unfold cellsFrom at h
   by_cases hk:(k == .cell)=true
   ·rw [qq hk] at h
    have hk':k=.cell:=by simpa using hk
    rcases za3 h with z | ⟨z,w⟩
    ·rcases List.mem_cons.mp z with e | z
     ·cases e; exact .inr ⟨by rw [<- hk']; exact List.mem_cons_self,Nat.le_refl _⟩
     ·exact .inl z
    ·exact .inr ⟨List.mem_cons_of_mem _ z,by lia⟩
   ·rw [qr hk] at h
    rcases za3 h with z | ⟨z,w⟩
    ·exact .inl z
    ·exact .inr ⟨List.mem_cons_of_mem _ z,w⟩
theorem zaA:∀ {names:List (Str×NameKind)} {n:Nat} {zi:List (Str×Addr)} {x:Str},((x,NameKind.cell)∈names\/∃ c,(x,c)∈zi)->∃ c,(x,c)∈cellsFrom n names zi
 | [],_,_,_,h=>h.elim (fun z=>by simp at z) id
 | (m,k)::r,n,zi,x,h=>by
   unfold cellsFrom
   by_cases hk:(k == .cell)=true
   ·rw [qq hk]
    refine zaA ?_
    rcases h with z | ⟨c,z⟩
    ·rcases List.mem_cons.mp z with e | z
     ·cases e; exact .inr ⟨n,List.mem_cons_self⟩
     ·exact .inl z
    ·exact .inr ⟨c,List.mem_cons_of_mem _ z⟩
   ·rw [qr hk]
    refine zaA ?_
    rcases h with z | z
    ·rcases List.mem_cons.mp z with e | z
     ·cases e; exact (hk (by decide)).elim
     ·exact .inl z
    ·exact .inr z
theorem zau {α:Type}:∀ {l:List (Str×α)} {x:Str},(∃ c,(x,c)∈l)->∃ c,l.lookup x=some c
 | [],_,⟨_,h⟩=>by simp at h
 | (m,d)::r,x,⟨c,h⟩=>by
   rw [List.lookup_cons]
   cases hb:x == m with
   | true=>exact ⟨d,rfl⟩
   | false=>
     refine zau (l:=r) ⟨c,?_⟩
     rcases List.mem_cons.mp h with e | h
     ·cases e; simp at hb
     ·exact h
theorem zaQ:∀ {names:List (Str×NameKind)} {n:Nat} {zi:List (Str×Addr)},(∀ p∈zi,p.2 < n)->(∀ p∈zi,∀ q∈zi,p.2=q.2->p.1=q.1)->
  ∀ p∈cellsFrom n names zi,∀ q∈cellsFrom n names zi,p.2=q.2->p.1=q.1
 | [],_,_,_,h=>h
 | (m,k)::r,n,zi,hb,h=>by
   unfold cellsFrom
   by_cases hk:(k == .cell)=true
   ·rw [qq hk]
    refine zaQ (fun p hp=>?_) fun p hp q hq e=>?_
    ·rcases List.mem_cons.mp hp with rfl | hp
     ·exact Nat.lt_succ_self _
     ·exact Nat.lt_succ_of_lt (hb p hp)
    ·rcases List.mem_cons.mp hp with rfl | hp <;> rcases List.mem_cons.mp hq with rfl | hq
     ·rfl
     ·have h1:=hb q hq
      have e':n=q.2:=e
      exact absurd h1 (by rw [<- e']; exact Nat.lt_irrefl _)
     ·have h1:=hb p hp
      have e':p.2=n:=e
      exact absurd h1 (by rw [e']; exact Nat.lt_irrefl _)
     ·exact h p hp q hq e
   ·rw [qr hk]
    exact zaQ hb h
theorem zeG
  (hQ:∀ h':Heap,(∀ b o,s.heap.get? b=some o->h'.get? b=some o)->h'.Ns s.heap.objs.size (fun _=>none)->(∀ x c,(x,c)∈cellsFrom (s.heap.objs.size + 1) scope.names cl->(x,c)∈cl\/h'.IsCell c none)->
   Q { scope:=scope,locals:=s.heap.objs.size,globals:=globals,cells:=cellsFrom (s.heap.objs.size + 1) scope.names cl,qual:=qual,func:=none,code:=env.code,frame:=env.frame,builtins:=env.builtins } { s with heap:=h' }):
  wpAny M A (newFunctionEnv scope globals cl [] qual none .none (some env)) Q E s:=by
 simp only [newFunctionEnv,Option.isSome_some,if_true]
 refine qa (wpAny_alloc ?_)
 refine qa (wpAny_layCells _ (fun name kind cells=>by cases hkc:kind == NameKind.cell <;> simp [hkc]) _ _ _ _ ?_)
 rw [show ({ s with heap:=s.heap.push { cls:=.type "dict",data:=.dict #[] } }:Shared).heap.objs.size=s.heap.objs.size + 1 from Heap.size_push ..]
 refine qb (hQ _ (fun b o e=>pushCells_keeps _ _ b o (qc _ e)) ((Heap.Ns.new s.heap (.type "dict")).keeps (pushCells_keeps _ _)) fun x c h=>?_)
 -- the new cells are empty
 have all:∀ (names:List (Str×NameKind)) (h:Heap) (zi:List (Str×Addr)),(∀ p∈zi,p∈cl\/h.IsCell p.2 none)->∀ p∈cellsFrom h.objs.size names zi,p∈cl\/(pushCells h names).IsCell p.2 none:=by
  intro names
  induction names with
  | nil=>intro h zi ha p hp; exact ha p hp
  | cons q r ih=>
    intro h zi ha p hp
    obtain ⟨m,k⟩:=q
    unfold cellsFrom at hp
    unfold pushCells
    by_cases hk:(k == .cell)=true
    ·rw [qq hk] at hp ⊢
     have e:(h.push { cls:=.type "cell",data:=.cell none }).objs.size=h.objs.size + 1:=Heap.size_push ..
     rw [<- e] at hp
     refine ih _ _ (fun p hp=>?_) p hp
     rcases List.mem_cons.mp hp with rfl | hp
     ·exact .inr ⟨_,qd _ rfl,rfl⟩
     ·rcases ha p hp with z | z
      ·exact .inl z
      ·exact .inr (z.keeps fun b o e=>qc _ e)
    ·rw [qr hk] at hp ⊢
     exact ih h zi ha p hp
 have:=all scope.names (s.heap.push { cls:=.type "dict",data:=.dict #[] }) cl (fun p hp=>.inl hp) (x,c) (by rw [Heap.size_push]; exact h)
 exact this
noncomputable def compN (N vars:List Str):List Str:=N.map (fun x=>if x∈vars then Str.empty else x)++Str.empty::vars
noncomputable def compCx (X:Cx) (scope:Scope) (vars:List Str) (s:Shared) (H:Hp) (ex:List Addr):Cx where
 prog:=X.prog
 w:=X.w
 K:=X.K
 mg:=X.mg
 base:=X.base
 A:=X.A
 N:=compN X.N vars
 s₀:=s
 H₀:=H
 env:=compEnvC scope (cellsFrom (s.heap.objs.size + 1) scope.names (closL X.env.cells scope.names [])) s.heap.objs.size X.env
 outer:=X.stack
 stack:=X.stack
 ex:=ex
 fn:=fun x=>decide ((x,NameKind.cell)∈scope.names)
 calm:=X.calm
 pn:=[]
 xe:=fun _ _=>False
structure CompScope (outer scope:Scope) (N vars:List Str):Prop where
 kind:scope.kind=.function
 fr:∀ x∈scope.names,x.2=.free->outer.names.lookup x.1=some .cell\/outer.names.lookup x.1=some .free
 nd:(scope.names.map (·.1)).Nodup
 own:∀ x∈N,x∉vars->(x,NameKind.local)∉scope.names/\(x,NameKind.cell)∉scope.names
 emp:scope.names.lookup Str.empty=none
theorem zaD {α:Type} {l:List (Str×α)} {c:α} (nd:(l.map (·.1)).Nodup):l.lookup n=some c↔(n,c)∈l:=by
 refine ⟨mem_of_lookup,fun h=>zaS h fun c' h'=>?_⟩
 induction l with
 | nil=>simp at h
 | cons p r ih=>
   grind
theorem zbv {α β:Type} (g:Str->α->β):∀ (l:List (Str×α)) (n:Str),(l.map fun p=>(p.1,g p.1 p.2)).lookup n=(l.lookup n).map (g n)
 | [],_=>rfl
 | (m,d)::r,n=>by
   rw [List.map_cons,List.lookup_cons,List.lookup_cons]
   cases hb:n == m with
   | true=>have e:n=m:=by simpa using hb
           subst e; rfl
   | false=>exact zbv g r n
noncomputable def rl (env:PySem.Env) (n:Str) (k:NameKind):NameKind:=if (k == NameKind.free && env.scope.kind == .function && env.kindOf n == some .cell) then NameKind.cell else k
theorem zdp (scope:Scope) (env:PySem.Env):(relabel scope env).names=scope.names.map fun p=>(p.1,rl env p.1 p.2):=by
 unfold relabel
 show scope.names.map _=scope.names.map _
 refine List.map_congr_left fun p _=>?_
 obtain ⟨n,k⟩:=p
 show (if (k == NameKind.free && env.scope.kind == .function && env.kindOf n == some .cell)=true then (n,NameKind.cell) else (n,k))=(n,rl env n k)
 unfold rl
 by_cases h:(k == NameKind.free && env.scope.kind == .function && env.kindOf n == some .cell)=true
 ·rw [qq h,qq h]
 ·rw [qr h,qr h]
theorem zaE (scope:Scope) (env:PySem.Env) (x:Str):(relabel scope env).names.lookup x=(scope.names.lookup x).map (rl env x):=by
 rw [zdp,zbv]
theorem zer (h:k≠.free):rl env x k=k:=by
 unfold rl
 rw [qr]
 intro z
 simp at z
 exact h z.1.1
theorem zj2:rl env x .free=.cell\/rl env x .free=.free:=by
 unfold rl
 split
 ·exact .inl rfl
 ·exact .inr rfl
theorem zhV (h:(compN N vars)[i]?=some x) (hi:i < N.length):(N[i]?=some x/\x∉vars)\/x=Str.empty:=by
 unfold compN at h
 rw [List.getElem?_append_left (by simpa using hi),List.getElem?_map] at h
 cases q:N[i]? with
 | none=>rw [q] at h; cases h
 | some y=>
   grind
theorem Inv.comp (I:Inv X qZ σ H s) (S:CompScope X.env.scope scope X.N vars) (hex:∀ b∈ex,FpOk X qZ H b/\b < s.heap.objs.size) (kept:∀ b o,s.heap.get? b=some o->h'.get? b=some o) (hns:h'.Ns s.heap.objs.size (fun _=>none))
  (hcl:∀ x c,(x,c)∈cellsFrom (s.heap.objs.size + 1) scope.names (closL X.env.cells scope.names [])->(x,c)∈closL X.env.cells scope.names []\/h'.IsCell c none) (hk:vars.length=k) (w0:Option V):
  Inv (compCx X scope vars s H ex) [] (σ++w0::List.replicate k none) H { s with heap:=h' }:=by
 have cm:∀ {x:Str} {c:Addr},(x,c)∈closL X.env.cells scope.names []->(x,NameKind.free)∈scope.names/\X.env.cells.lookup x=some c:=fun {x c} h=>by
  rcases zbD h with z | z
  ·simp at z
  ·exact z
 have lt:∀ {x:Str} {c:Addr},X.env.cells.lookup x=some c->c < s.heap.objs.size:=fun {x c} h=>by
  obtain ⟨v,z⟩:=I.cell x c h
  exact z.lt
 have look:∀ {x:Str} {c:Addr},(compCx X scope vars s H ex).env.cells.lookup x=some c->(X.env.cells.lookup x=some c/\(x,NameKind.free)∈scope.names)\/((x,NameKind.cell)∈scope.names/\s.heap.objs.size + 1<=c):=fun {x c} h=>by
  rcases za3 (mem_of_lookup h) with z | z
  ·exact .inl ⟨(cm z).2,(cm z).1⟩
  ·exact .inr z
 have uniq:∀ {x:Str} {a b:NameKind},(x,a)∈scope.names->(x,b)∈scope.names->a=b:=fun {x a b} h1 h2=>by
  have e1:=(zaD S.nd).mpr h1
  have e2:=(zaD S.nd).mpr h2
  rw [e1] at e2
  exact qg e2
 -- what a visible name is,seen from around
 have vis:∀ {x:Str},((relabel scope X.env).names.lookup x=some .cell\/(relabel scope X.env).names.lookup x=some .free)->(x,NameKind.cell)∈scope.names\/(x,NameKind.free)∈scope.names:=fun {x} h=>by
  rw [zaE] at h
  cases q:scope.names.lookup x with
  | none=>rw [q] at h; rcases h with h | h <;> cases h
  | some k=>
    have hm:=mem_of_lookup q
    rw [q] at h
    have h0:some (rl X.env x k)=some .cell\/some (rl X.env x k)=some .free:=h
    cases k with
    | cell=>exact .inl hm
    | free=>exact .inr hm
    | «local»=>rw [zer (by decide)] at h0; rcases h0 with h | h <;> cases h
    | globalImplicit=>rw [zer (by decide)] at h0; rcases h0 with h | h <;> cases h
    | globalExplicit=>rw [zer (by decide)] at h0; rcases h0 with h | h <;> cases h
 have ok:(compCx X scope vars s H ex).Ok:=by
  refine ⟨I.ok.mod,S.kind,I.ok.glob,I.ok.blt,Nat.le_refl _,fun x y c h1 h2=>?_,fun x h=>?_,fun x c hf h=>?_,I.ok.hd,I.ok.frames,.inl rfl,fun b hb=>⟨?_,fun x c h z=>?_⟩,I.bs,Nat.le_trans I.ok.bsz I.sz,fun b o e hb=>?_,fun b hb z=>?_,I.stack,I.stkFree⟩
  ·refine zaQ (fun p hp=>?_) (fun p hp q hq e=>?_) (x,c) (mem_of_lookup h1) (y,c) (mem_of_lookup h2) rfl
   ·exact Nat.lt_succ_of_lt (lt (cm (x:=p.1) (c:=p.2) hp).2)
   ·exact I.ok.inj _ _ _ (cm (x:=p.1) (c:=p.2) hp).2 (e ▸ (cm (x:=q.1) (c:=q.2) hq).2)
  ·rcases vis h with z | z
   ·exact zau (zaA (.inl z))
   ·obtain ⟨c,hc⟩:=I.ok.has x (S.fr (x,.free) z rfl)
    exact zau (zaA (.inr ⟨c,zbk hc (.inr z)⟩))
  ·have hf':(x,NameKind.cell)∈scope.names:=qo hf
   rcases look h with ⟨_,z⟩ | ⟨_,z⟩
   ·cases uniq hf' z
   ·exact Nat.le_of_succ_le z
  ·exact Nat.ne_of_lt (hex b hb).2
  ·rcases look h with ⟨w,_⟩ | ⟨_,w⟩
   ·exact (hex b hb).1.2.2.2.2.1 x c w z
   ·have h1:=(hex b hb).2
    rw [<- z] at h1
    exact absurd (Nat.lt_of_lt_of_le h1 (Nat.le_of_succ_le w)) (Nat.lt_irrefl _)
  ·obtain ⟨_,_,_,h1,_⟩:=(hex b hb).1
   rcases h1 with z | z
   ·exact I.ok.noex b o e z
   ·rw [(I.ok.bs b o e).1] at z; cases z
  ·obtain ⟨_,h2,h3,_⟩:=(hex b hb).1
   rcases List.mem_cons.mp (I.stkSub b z) with w | w
   ·exact h2 w
   ·exact h3 w
 have cellK:∀ {c:Addr} {v:Option Value},s.heap.IsCell c v->h'.IsCell c v:=fun z=>z.keeps kept
 refine ⟨ok,rfl,I.bare,Un.kept kept,⟨_,hns,fun i x v h1 h2 h3=>?_⟩,fun x c h=>?_,I.hok.fresh (Nat.le_refl _),fun x c h=>?_,fun p hp=>absurd (show p∈([]:List (Addr×Obj)) from hp) (by simp),I.hok.kept kept,?_⟩
 ·-- a slot of the context
  have noE:¬ Vis (compCx X scope vars s H ex).env.scope Str.empty:=fun h3=>by
   have h3':(relabel scope X.env).names.lookup Str.empty=some .local\/(relabel scope X.env).names.lookup Str.empty=some .cell\/(relabel scope X.env).names.lookup Str.empty=some .free:=h3
   rw [zaE,S.emp] at h3'
   rcases h3' with z | z | z <;> cases z
  have hi:i < σ.length:=by
   by_cases hi:i < σ.length
   ·exact hi
   ·exfalso
    rw [List.getElem?_append_right (Nat.not_lt.mp hi)] at h2
    cases q:i - σ.length with
    | zero=>
      have e:i=X.N.length:=by have:=I.len; lia
      rw [e] at h1
      have h1':(compN X.N vars)[X.N.length]?=some x:=h1
      unfold compN at h1'
      rw [List.getElem?_append_right (by simp)] at h1'
      simp at h1'
      subst h1'
      exact noE h3
    | succ j=>
      rw [q,List.getElem?_cons_succ,List.getElem?_replicate] at h2
      split at h2 <;> cases h2
  rw [List.getElem?_append_left hi] at h2
  rcases zhV h1 (by rw [<- I.len]; exact hi) with ⟨h1,hx⟩ | rfl
  ·have own:=S.own x (List.mem_of_getElem? h1) hx
   have hfree:(x,NameKind.free)∈scope.names:=by
    have h3':(relabel scope X.env).names.lookup x=some .local\/(relabel scope X.env).names.lookup x=some .cell\/(relabel scope X.env).names.lookup x=some .free:=h3
    rcases h3' with z | z
    ·rw [zaE] at z
     cases q:scope.names.lookup x with
     | none=>rw [q] at z; cases z
     | some kk=>
       rw [q] at z
       have z0:some (rl X.env x kk)=some .local:=z
       have hm:=mem_of_lookup q
       cases kk with
       | «local»=>exact absurd hm own.1
       | cell=>exact absurd hm own.2
       | free=>exact hm
       | globalImplicit=>rw [zer (by decide)] at z0; cases z0
       | globalExplicit=>rw [zer (by decide)] at z0; cases z0
    ·rcases vis z with w | w
     ·exact absurd w own.2
     ·exact w
   have hout:=S.fr (x,.free) hfree rfl
   obtain ⟨m,hm,hl⟩:=I.loc
   obtain ⟨u,r,l⟩:=hl i x v h1 h2 (hout.elim (fun z=>.inr (.inl z)) fun z=>.inr (.inr z))
   refine ⟨u,r,.inr ⟨?_,?_⟩⟩
   ·show (relabel scope X.env).names.lookup x=some .cell\/(relabel scope X.env).names.lookup x=some .free
    rw [zaE,(zaD S.nd).mpr hfree]
    show some (rl X.env x .free)=_\/some (rl X.env x .free)=_
    rcases zj2 (env:=X.env) (x:=x) with e | e <;> rw [e]
    ·exact .inl rfl
    ·exact .inr rfl
   ·rcases l with ⟨z,_⟩ | ⟨_,c,hc,z⟩
    ·have z':X.env.scope.names.lookup x=some .local:=z
     rcases hout with w | w <;> (have w':X.env.scope.names.lookup x=_:=w; rw [w'] at z'; cases z')
    ·refine ⟨c,?_,cellK z⟩
     show (cellsFrom (s.heap.objs.size + 1) scope.names (closL X.env.cells scope.names [])).lookup x=some c
     obtain ⟨c',hc'⟩:=zau (zaA (n:=s.heap.objs.size + 1) (names:=scope.names) (.inr ⟨c,zbk hc (.inr hfree)⟩))
     rcases look hc' with ⟨w,_⟩ | ⟨w,_⟩
     ·rw [hc] at w
      cases w
      exact hc'
     ·cases uniq hfree w
  ·exact absurd h3 noE
 ·rcases hcl x c (mem_of_lookup h) with z | z
  ·obtain ⟨v,w⟩:=I.cell x c (cm z).2
   exact ⟨v,cellK w⟩
  ·exact ⟨none,z⟩
 ·rcases look h with ⟨w,_⟩ | ⟨_,w⟩
  ·exact I.freeC x c w
  ·exact I.hok.fresh (Nat.le_of_succ_le w)
 ·show _=(compN X.N vars).length
  unfold compN
  simp [I.len,hk]
noncomputable abbrev TB:=St->Hp->(St->Hp->Prop)->Prop
noncomputable def PRest (X:Cx) (m:Sem Unit) (t:TB):Prop:=∀ (qZ:List (Addr×Obj)) (s:Shared) (σ:St) (H:Hp) (Q:St->Hp->Prop),Inv X qZ σ H s->t σ H Q->
 wpAny (model X.prog X.w) X.A m (fun _ s'=>∃ σ' H',Inv X qZ σ' H' s'/\Q σ' H') (fun _ _=>False) s
noncomputable def PIfs (X:Cx) (ifs:List Expr) (t:TT):Prop:=∀ (qZ:List (Addr×Obj)) (s:Shared) (σ:St) (H:Hp) (Q:Bool->Hp->Prop),Inv X qZ σ H s->t σ H Q->
 wpAny (model X.prog X.w) X.A (forIn ifs true fun c r=>if r=true then do let ok <- isTrue c X.env (eval c X.env); pure (ForInStep.yield ok) else pure (ForInStep.yield r)) (TP X qZ σ Q) X.xe s
theorem zio:PIfs X [] (fun _ H Q=>Q true H):=fun qZ s σ H Q I q=>wpAny_tests_nil ⟨H,I,q⟩
theorem ziV (h:PT X c t):PIfs X [c] t:=fun qZ s σ H Q I q=>wpAny_tests_one (h qZ s σ H Q I q)
noncomputable def tLoopB (g:TG) (tc:TT) (tb:TB) (J:It):TB:=fun σ H Q=>∃ W:Nat->Nat->St->Hp->Prop,(∃ m,W 0 m σ H)/\∀ i m σ H,W i m σ H->
 (J.stop i H/\Q σ H)\/(J.go i H/\∃ N:St->Hp->Prop,(∀ σ' H',N σ' H'->∃ m',m' < m/\W (i + 1) m' σ' H')/\∀ x H',J.yld i H x H'->g x σ H' fun σ2 H2=>tc σ2 H2 fun b H3=>if b=true then tb σ2 H3 N else N σ2 H3)
noncomputable def PLoop (X:Cx) (e:Expr) (d:Nat) (zi:Value) (tg:Expr) (tl:It->TB):Prop:=∀ (qZ:List (Addr×Obj)) (s:Shared) (σ:St) (H:Hp) (J:It) (fp:List Addr) (it:Addr) (tn:Nat->Heap->Prop) (Q:St->Hp->Prop),Inv X qZ σ H s->
 Turn X.prog X.w X.K tg J fp it tn->tn 0 s.heap->(∀ b∈fp,FpOk X qZ H b)->tl J σ H Q->
 codeAny (model X.prog X.w) X.A (.compLoop e d (.ref it) zi X.env) (fun r s'=>∃ σ' H',r=.ok .next/\Inv X qZ σ' H' s'/\Q σ' H') s
noncomputable def PRestF (X:Cx) (m:Sem Fin) (c:Code) (t:TB):Prop:=∀ (qZ:List (Addr×Obj)) (s:Shared) (σ:St) (H:Hp) (Q:St->Hp->Prop),Inv X qZ σ H s->t σ H Q->
 wpAny (model X.prog X.w) X.A m (fun f s'=>f=.again c/\∃ σ' H',Inv X qZ σ' H' s'/\Q σ' H') (fun _ _=>False) s
theorem PRest.f (h:PRest X m t):PRestF X (m >>= fun _=>again c) c t:=fun qZ s σ H Q I q=>
 qa (qD (h qZ s σ H Q I q) (fun _ s' z=>qb ⟨rfl,z⟩) fun _ _ z=>z)
theorem zbE {inner:Addr->Sem Fin} (hc:X.calm=true) (hxe:X.xe=fun _ _=>False) (hg:PG X tg g) (ht:PIfs X ifs tc) (hr:∀ it,PRestF X (inner it) (.compLoop e d (.ref it) zi X.env) tb)
  (hq:∀ it,(Code.compLoop e d (.ref it) zi X.env).quiet=true) (hun:∀ it,X.A.under (.compLoop e d (.ref it) zi X.env)=X.A)
  (hden:∀ it,(model X.prog X.w).den (.compLoop e d (.ref it) zi X.env)=(compTurn e d (.ref it) zi X.env).onRaise (fun x=>do noteFrame x X.env; theTreesLotGoes x))
  (heq:∀ it,compTurn e d (.ref it) zi X.env=(standAt ipos >>= fun _=>pyNext (.ref it) >>= fun r=>match r with
   | none=>pure (.done .next)
   | some v=>letOwnedTupleGo tg (.ref it) v >>= fun _=>assign tg X.env v >>= fun _=>
     (forIn ifs true fun c r=>if r=true then do let ok <- isTrue c X.env (eval c X.env); pure (ForInStep.yield ok) else pure (ForInStep.yield r)) >>= fun ok=>
      if ok=true then inner it else again (.compLoop e d (.ref it) zi X.env))):
  PLoop X e d zi tg (tLoopB g tc tb):=by
 intro qZ s σ H J fp it tn Q I T st f ⟨W,⟨m0,w0⟩,turn⟩
 have stat:∀ {H':Hp},(∀ b∈fp,H' b=none)->∀ b∈fp,FpOk X qZ H' b:=fun hn b hb=>⟨hn b hb,(f b hb).2⟩
 have nox:∀ {α:Type} {m:Sem α} {Q:α->Shared->Prop} {E:qE} {s:Shared},wpAny (model X.prog X.w) X.A m Q X.xe s->wpAny (model X.prog X.w) X.A m Q E s:=fun h=>qD h (fun _ _ q=>q) fun _ _ x=>by rw [hxe] at x; exact x.elim
 refine codeAny_loop (hq it) (fun n s'=>∃ i σ' H',Inv X qZ σ' H' s'/\tn i s'.heap/\(∀ b∈fp,H' b=none)/\W i n σ' H') ?_ m0 ⟨0,σ,H,I,st,fun b hb=>(f b hb).1,w0⟩
 rintro n s3 ⟨i,σ3,H3,I3,st3,fr3,w3⟩
 rw [hun,hden]
 refine wpAny_noted ?_
 rw [heq]
 refine qa (wpAny_standAt (qa ?_))
 rcases turn i n σ3 H3 w3 with ⟨stop,qn⟩ | ⟨go,N,hN,step⟩
 ·refine thn (T.done X rfl rfl rfl hc i qZ s3 σ3 H3 _ I3 (stat fr3) st3 stop) fun r s4 ⟨hr,I4⟩=>?_
  subst hr
  exact qb ⟨σ3,H3,rfl,I4,qn⟩
 ·refine thn (T.item X rfl rfl rfl hc i qZ s3 σ3 H3 _ I3 (stat fr3) st3 go) fun r s4 zq=>?_
  obtain ⟨u,hr',h4⟩:=zq
  subst hr'
  refine qa (thn h4 fun _ s5 zq=>?_)
  refine cps fun _ kk=>?_
  obtain ⟨x,H5,I5,r5,y5,st5,fr5⟩:=zq
  refine kk ?_
  have I5':=I5.pinned (stat fr5) (T.obj _ _ st5)
  refine qa (nox (thn (hg _ s5 σ3 H5 x u _ I5' r5 (step x H5 y5)) fun _ s6 zq=>?_))
  obtain ⟨σ6,H6,I6,q6⟩:=zq
  have again:∀ {σ7:St} {H7:Hp} {s7:Shared},Inv X (qZ++pinsAt fp s5.heap) σ7 H7 s7->N σ7 H7->∃ m,m < n/\∃ i σ' H',Inv X qZ σ' H' s7/\tn i s7.heap/\(∀ b∈fp,H' b=none)/\W i m σ' H':=fun {σ7 H7 s7} I7 n7=>by
   obtain ⟨m',hm,w7⟩:=hN σ7 H7 n7
   refine ⟨m',hm,i + 1,σ7,H7,I7.unpinned,T.keep _ _ _ st5 fun b hb o e=>(I7.pin (b,o) (List.mem_append_right _ (List.mem_append_right _ (zbp hb e)))).1,fun b hb=>?_,w7⟩
   obtain ⟨o,e,d⟩:=T.obj _ _ st5 b hb
   exact (I7.pin (b,o) (List.mem_append_right _ (List.mem_append_right _ (zbp hb e)))).2.1
  refine qa (nox (thn (ht _ s6 σ6 H6 _ I6 q6) fun b s7 zq=>?_))
  obtain ⟨H7,I7,q7⟩:=zq
  cases b with
  | true=>
    rw [qq rfl] at q7
    rw [qq rfl]
    refine qD (hr it _ s7 σ6 H7 _ I7 q7) (fun f s8 zq=>?_) fun _ _ z=>z.elim
    obtain ⟨ef,σ8,H8,I8,n8⟩:=zq
    subst ef
    exact ⟨rfl,again I8 n8⟩
  | false=>
    rw [qr qp] at q7
    rw [qr qp]
    exact qb ⟨rfl,again I7 q7⟩
theorem zda (hl:PLoop X e d zi tg tl)
  (hq:∀ it,(Code.compLoop e d (.ref it) zi X.env).quiet=true) (hun:∀ it,X.A.under (.compStart e d (.ref it) zi X.env)=X.A)
  (hden:∀ it,(model X.prog X.w).den (.compStart e d (.ref it) zi X.env)=(compStart e d (.ref it) zi X.env).onRaise (fun x=>do noteFrame x X.env; standAt theWindowsPlace))
  (heq:∀ it,∃ p,compStart e d (.ref it) zi X.env=(ask >>= fun c=>if c.params.followText "comprehension-iter-twice"=true then again (.compLoop e d (.ref it) zi X.env) else
   rule "comprehension.iter-twice" >>= fun _=>standAt p >>= fun _=>pyIter (.ref it) >>= fun it'=>again (.compLoop e d it' zi X.env))) (I:Inv X qZ σ H s)
  (T:Turn X.prog X.w X.K tg J fp it tn) (st:tn 0 s.heap) (f:∀ b∈fp,FpOk X qZ H b) (q:tl J σ H Q):
  codeAny (model X.prog X.w) X.A (.compStart e d (.ref it) zi X.env) (fun r s'=>∃ σ' H',r=.ok .next/\Inv X qZ σ' H' s'/\Q σ' H') s:=by
 have h0:=hl qZ s σ H J fp it tn Q I T st f q
 refine codeAny_of_tree ?_
 rw [hun,hden]
 refine wpAny_notedAt ?_
 obtain ⟨p,e⟩:=heq it
 rw [e]
 refine qa (wpAny_askSetting (wpAny_ite ?_))
 split
 ·exact qb ⟨hq it,h0⟩
 ·exact qa (wpAny_rule (qa (wpAny_standAt (qa (T.self X.A 0 s _ _ st (qb ⟨hq it,h0⟩))))))
end L2
namespace FL
open PySem PySem.Spec PyProof.Rows L2
inductive tWB (X:Cx) (n:Nat) (D:Addr) (b:WB) (σ:St) (H:Hp) (Q:St->Hp->Prop):Prop
 | mk (F G:Hp) (U:Env) (P:Env->Prop) (q8:Rel X.K U σ F G H) (hs:σ[n]?=some (some (.ref D))) (hw:b U P NX) (hn:∀ U' σ' F' H',P U'->KP (List.range (n + 1)) σ σ'->qK F F'->Rel X.K U' σ' F' G H'->Q σ' H'):tWB X n D b σ H Q
theorem xc0:XC X T F G NX:=fun _ _ _ _ _ _ _ z=>z.elim
section
variable {K:W.Frag}
theorem qN.snoc (b:qN K F H xs l fp) (r:SRep K F H v s fq):qN K F H (xs++[v]) (l++[s]) (fp++fq):=
 qN.ind (P:=fun xs l fp=>qN K F H (xs++[v]) (l++[s]) (fp++fq)) (by have:=qN.cons r .nil; rwa [List.append_nil] at this) (fun a _ ih=>by rw [List.append_assoc]; exact .cons a ih) b
theorem qN.len (r:qN K F H xs l fp):xs.length=l.length:=qN.ind (P:=fun xs l _=>xs.length=l.length) rfl (fun _ _ ih=>congrArg (· + 1) ih) r
theorem Rel.append {D:Addr} (r:Rel K (U++[some s]) (σ++[some v]) F G H) (hs:slot U n=some (.lst l)) (hσ:σ[n]?=some (some (.ref D))):
  ∃ xs,H D=some (.lst xs)/\xs.length=l.length/\Rel K (U.set n (some (.lst (l++[s])))) σ F G (upd H D (.lst (xs++[v]))):=by
 have hl:=len1 r
 obtain ⟨fp,e,nd,ap⟩:=r.en
 obtain ⟨f1,f2,rfl,a,b⟩:=e.cut hl
 obtain ⟨v',fa,fi,fb,e1,rfl,q,up⟩:=a.at hs
 rw [hσ] at e1
 have e2:V.ref D=v':=by simpa using e1
 subst e2
 cases q with
 | lst hD rl=>
   rename_i xs fl
   cases b with
   | so sr nl=>
     cases nl
     rename_i fs
     refine ⟨xs,hD,rl.len,?_⟩
     have es:σ.set n (some (.ref D))=σ:=by
      apply List.ext_getElem?
      intro j
      by_cases hj:n=j
      ·subst hj
       rw [List.getElem?_set_self (qh.mp hσ).1,hσ]
      ·rw [List.getElem?_set_ne hj]
     -- D is nobody else's
     obtain ⟨n1,n2,n12⟩:=List.nodup_append.mp nd
     obtain ⟨na,nib,nab⟩:=List.nodup_append.mp n1
     obtain ⟨ni,nb,nib⟩:=List.nodup_append.mp nib
     obtain ⟨nD,nfl⟩:=List.nodup_cons.mp ni
     have hDa:D∉fa:=fun z=>nab D z D (List.mem_append_left _ List.mem_cons_self) rfl
     have hDb:D∉fb:=fun z=>nib D List.mem_cons_self D z rfl
     have hDs:D∉fs:=fun z=>n12 D (List.mem_append_right _ (List.mem_append_left _ List.mem_cons_self)) D (by simpa using z) rfl
     have apD:=ap D (List.mem_append_left _ (List.mem_append_right _ (List.mem_append_left _ List.mem_cons_self)))
     have ne:∀ {l:List Addr},D∉l->∀ x∈l,upd H D (.lst (xs++[v])) x=H x:=fun h x hx=>zag fun z=>h (z ▸ hx)
     have new:SRep K F (upd H D (.lst (xs++[v]))) (.ref D) (.lst (l++[s])) (D::(fl++fs)):=.lst zam (qN.snoc (rl.mono (qK.refl F) (ne nD)) (sr.mono (qK.refl F) (ne hDs)))
     have a2:=up (F':=F) (H':=upd H D (.lst (xs++[v]))) (o:=some (.lst (l++[s]))) (u:=some (.ref D)) (qK.refl F) (fun x hx=>zag fun z=>(List.mem_append.mp hx).elim (fun w=>hDa (z ▸ w)) fun w=>hDb (z ▸ w)) (.so new .nil)
     rw [es] at a2
     have p:(fa++((D::(fl++fs))++[]++fb)).Perm (fa++((D::fl)++fb)++(fs++[])):=by
      simp only [List.append_nil,List.append_assoc,List.cons_append]
      refine List.Perm.append_left _ (List.Perm.cons _ (List.Perm.append_left _ List.perm_append_comm))
     refine ⟨qK.updR r.fr apD.1,fun x o w=>?_,_,a2,p.nodup_iff.mpr (by simpa using nd),fun x hx=>ap x (by simpa using p.mem_iff.mp hx)⟩
     have hx:x≠D:=fun z=>by rw [z,apD.2] at w; cases w
     rw [zag hx]
     exact r.gr x o w
end
section
variable {D:Addr}
theorem zcL (hxe:X.xe=fun _ _=>False) (h:FE X elt we):PRest X (eval elt X.env >>= fun x=>call (.builtin "list.append") [.ref D,x] >>= fun _=>pure ()) (tWB X n D (bEmit n we)):=by
 intro qZ s σ H Q I q
 obtain ⟨F,G,U,P,q8,hσ,hw,hok⟩:=q
 have hp:PassesOwn (model X.prog X.w) X.A X.env X.xe:=by rw [hxe]; exact PassesOwn.never
 have he:=h X.pn X.xe hp qZ s σ H (fun v H1=>∃ F1 U1 t l,qK F F1/\Rel X.K (U1++[some t]) (σ++[some v]) F1 G H1/\slot U1 n=some (.lst l)/\l.length < big/\P (U1.set n (some (.lst (l++[t]))))) I
  ⟨F,G,U,_,NX,q8,hw,fun r U1 v F1 H1 hk s1 r1 rv=>?_,xc0⟩
 ·have xe0:∀ e s',X.xe e s'->False:=fun e s' z=>by rw [hxe] at z; exact z
  refine qa (qD he (fun u s1 zq=>?_) fun e s' z=>xe0 e s' z)
  refine cps fun _ kk=>?_
  obtain ⟨v,H1,I1,rv,F1,U1,t,l,sm,r1,hs,hz,hP⟩:=zq
  obtain ⟨xs,hD,q9,r2⟩:=Rel.append r1 hs hσ
  refine kk ?_
  refine qa (qD (zcK qZ s1 σ H1 (.ref D) [v] (.ref D) [u] (fun w H'=>w=.non/\H'=upd H1 D (.lst (xs++[v]))) I1 rfl (.cons rv .nil) ⟨D,xs,v,rfl,rfl,hD,by rw [q9,qz]; exact Nat.lt_trans hz (by decide),rfl,rfl⟩) (fun w s2 zq=>?_) fun e s' z=>xe0 e s' z)
  obtain ⟨w',H2,I2,_,_,e2⟩:=zq
  subst e2
  exact qb ⟨σ,_,I2,hok _ σ F1 _ hP KP.refl sm r2⟩
 ·obtain ⟨⟨t,U2⟩,eg,hk⟩:=zae hk
  obtain ⟨F2,s2,l2,r2⟩:=giveR (U':=[]) (σ':=[]) r1 (len1 r1) rv eg
  dsimp only at hk
  split at hk
  ·rename_i l e
   exact ⟨F2,U2,t,l,s1.trans s2,r2,e,hk.1,hk.2⟩
  ·exact hk.elim
theorem zaM:PIfs X [] (tWT X wYes):=fun qZ s σ H Q I q=>zio qZ s σ H Q I (by
 obtain ⟨F,G,U,P,PX,q8,hw,hok,hx⟩:=q
 exact hok true U F H hw (qK.refl F) q8)
theorem zgh (hxe:X.xe=fun _ _=>False) (h:FT X c wc):PIfs X [c] (tWT X wc):=ziV (h X.pn X.xe (by rw [hxe]; exact PassesOwn.never))
theorem zfm (it:ItOk X.K J l F) (q8:Rel X.K U σ F G H) (hσ:σ[n]?=some (some (.ref D)))
  (hw:bLoop g wc b l U P NX) (hok:∀ U' σ' F' H',P U'->KP (List.range (n + 1)) σ σ'->qK F F'->Rel X.K U' σ' F' G H'->Q σ' H'):
  tLoopB (tWG X (List.range (n + 1)) g) (tWT X wc) (tWB X n D b) J σ H Q:=by
 have hσ':∀ {σ':St},KP (List.range (n + 1)) σ σ'->σ'[n]?=some (some (.ref D)):=fun k=>by rw [k n (by simp)]; exact hσ
 refine ⟨fun i m σ2 H2=>m=l.length - i/\i<=l.length/\∃ F2 U2,KP (List.range (n + 1)) σ σ2/\qK F F2/\Rel X.K U2 σ2 F2 G H2/\bLoop g wc b (l.drop i) U2 P NX,⟨l.length,by simp,Nat.zero_le _,F,U,KP.refl,qK.refl F,q8,by simpa using hw⟩,?_⟩
 rintro i m σ2 H2 ⟨rfl,hi,F2,U2,kp,s2,r2,hw2⟩
 obtain ⟨it1,it2⟩:=it i U2 σ2 F2 G H2 s2 r2
 by_cases hlt:i < l.length
 ·obtain ⟨go,yld⟩:=it1 l[i] (by simp [hlt])
  refine .inr ⟨go,fun σ3 H3=>i + 1<=l.length/\∃ F3 U3,KP (List.range (n + 1)) σ σ3/\qK F F3/\Rel X.K U3 σ3 F3 G H3/\bLoop g wc b (l.drop (i + 1)) U3 P NX,fun σ3 H3 h=>⟨l.length - (i + 1),by lia,rfl,h⟩,fun y H3 hy=>?_⟩
  obtain ⟨F3,s3,r3,rp⟩:=yld y H3 hy
  rw [List.drop_eq_getElem_cons hlt] at hw2
  refine ⟨F3,G,U2,_,_,r3.push rp,hw2,fun U4 σ4 F4 H4 hp4 k4 s4 r4=>?_⟩
  have kp4:=kp.trans k4
  have sm4:=s2.trans (s3.trans s4)
  refine ⟨F4,G,U4,_,_,r4,hp4,fun k U5 F5 H5 hp5 s5 r5=>?_,xc0⟩
  cases k with
  | true=>
    dsimp only
    rw [qq rfl]
    exact ⟨F5,G,U5,_,r5,hσ' kp4,hp5,fun U' σ' F' H' h k' s r=>⟨hlt,F',U',kp4.trans k',sm4.trans (s5.trans s),r,h⟩⟩
  | false=>
    dsimp only
    rw [qr qp]
    exact ⟨hlt,F5,U5,kp4,sm4.trans s5,r5,hp5⟩
 ·have e:i=l.length:=Nat.le_antisymm hi (Nat.not_lt.mp hlt)
  subst e
  rw [List.drop_length] at hw2
  exact .inl ⟨it2 (Nat.le_refl _),hok U2 σ2 F2 H2 hw2 kp s2 r2⟩
theorem zif (hxe:X.xe=fun _ _=>False) (hi:FI X tg iter wi) (hl:PLoop X e d (.ref D) tg (tLoopB (tWG X (List.range (n + 1)) g) (tWT X wc) (tWB X n D b)))
  (hs:∀ x,foldedSetIterable iter X.env x=pure x) (hm:X.A.mark none=X.A)
  (hq:∀ it,(Code.compLoop e d (.ref it) (.ref D) X.env).quiet=true) (hun:∀ it,X.A.under (.compStart e d (.ref it) (.ref D) X.env)=X.A)
  (hden:∀ it,(model X.prog X.w).den (.compStart e d (.ref it) (.ref D) X.env)=(compStart e d (.ref it) (.ref D) X.env).onRaise (fun x=>do noteFrame x X.env; standAt theWindowsPlace))
  (heq:∀ it,∃ p,compStart e d (.ref it) (.ref D) X.env=(ask >>= fun c=>if c.params.followText "comprehension-iter-twice"=true then again (.compLoop e d (.ref it) (.ref D) X.env) else
   rule "comprehension.iter-twice" >>= fun _=>standAt p >>= fun _=>pyIter (.ref it) >>= fun it'=>again (.compLoop e d it' (.ref D) X.env))):
  PRestF X (eval iter X.env >>= fun x=>standAt ip >>= fun _=>foldedSetIterable iter X.env x >>= fun x=>holding [x] (pyIter x) >>= fun it=>runOwn (.compStart e d it (.ref D) X.env) X.env >>= fun _=>again c0) c0 (tWB X n D (bFor wi g wc b)):=by
 intro qZ s σ H Q I q
 obtain ⟨F,G,U,P,q8,hσ,hw,hok⟩:=q
 have hp:PassesOwn (model X.prog X.w) X.A X.env X.xe:=by rw [hxe]; exact PassesOwn.never
 have xe0:∀ e s',X.xe e s'->False:=fun e s' z=>by rw [hxe] at z; exact z
 have hi':=hi X.pn X.xe hp qZ s σ H (fun J H1=>tLoopB (tWG X (List.range (n + 1)) g) (tWT X wc) (tWB X n D b) J σ H1 Q) I
  ⟨F,G,U,_,NX,q8,hw,fun l U1 F1 H1 J hk s1 r1 it=>zfm it r1 hσ hk fun U' σ' F' H' a k s r=>hok U' σ' F' H' a k (s1.trans s) r,xc0⟩
 refine qa (qD hi' (fun x s1 h1=>?_) fun e s' z=>xe0 e s' z)
 refine qa (wpAny_standAt (qa (wpAny_of_eq (hs x) (qa (qB (qD h1 (fun itv s2 h2=>?_) fun e s' z=>xe0 e s' z))))))
 obtain ⟨it,fp,tn,J,H2,e1,I2,T,st,f,q2⟩:=h2
 subst e1
 refine qa (wpAny_runOwn ?_)
 rw [hm]
 refine codeAny_mono (zda hl hq hun hden heq I2 T st f q2) fun r s3 zq=>?_
 obtain ⟨σ3,H3,er,I3,q3⟩:=zq
 subst er
 exact qb ⟨rfl,σ3,H3,I3,q3⟩
end
theorem zcI {α:Type} {l:List α} {a:α} (h:l[n]?=some a):l=l.take n++a::l.drop (n + 1):=by
 obtain ⟨hn,e⟩:=qh.mp h
 rw [<- e,<- List.drop_eq_getElem_cons hn,List.take_append_drop]
section
variable {X:Cx}
theorem zeT (hmk:∀ (A:Around) (E:qE) (s:Shared) (Q:qE),Q (.ref s.heap.objs.size) { s with heap:=s.heap.push { cls:=.type ty,dict:=none,data:=dat } }->wpAny (model X.prog X.w) A mk Q E s) (ho:∀ (H:Hp) (h:Heap),sysModules < h.objs.size->qY X.prog X.w H (h.push { cls:=.type ty,dict:=none,data:=dat }) h.objs.size o0) (hs0:∀ (F H:Hp) (p:Addr),H p=some o0->SRep X.K F H (.ref p) s0 [p]) (hcl:clausesOf e=⟨tg,iter,ifs,0⟩::gs) (hs:∀ x,foldedSetIterable iter X.env x=pure x)
  (Sc:CompScope X.env.scope scope X.N vars) (hk:vars.length=k) (hi:FI X tg iter wi)
  (hb:∀ (s:Shared) (H:Hp) (ex:List Addr) (D:Addr),PLoop (compCx X scope vars s H ex) e 0 (.ref D) tg (tLoopB (tWG (compCx X scope vars s H ex) (List.range (X.N.length + 1)) g) (tWT (compCx X scope vars s H ex) wc) (tWB (compCx X scope vars s H ex) X.N.length D b)))
  (hq:∀ it zi env,(Code.compLoop e 0 (.ref it) zi env).quiet=true) (hun:∀ it zi env,X.A.under (.compStart e 0 (.ref it) zi env)=X.A)
  (hden:∀ it zi env,(model X.prog X.w).den (.compStart e 0 (.ref it) zi env)=(compStart e 0 (.ref it) zi env).onRaise (fun x=>do noteFrame x env; standAt theWindowsPlace))
  (heq:∀ it zi env,∃ p,compStart e 0 (.ref it) zi env=(ask >>= fun c=>if c.params.followText "comprehension-iter-twice"=true then again (.compLoop e 0 (.ref it) zi env) else
   rule "comprehension.iter-twice" >>= fun _=>standAt p >>= fun _=>pyIter (.ref it) >>= fun it'=>again (.compLoop e 0 it' zi env))) (hp:PassesOwn (model X.prog X.w) X.A X.env xe) {P:WQ} (I:Inv (wp X pn xe) qZ σ H s)
  (q8:Rel X.K U σ F G H) (hw:wi U (fun l U1=>bLoop g wc b l (U1++some s0::List.replicate k none) (fun U2=>qJ (slot U2 X.N.length) fun s=>P (.v s) (U2.take X.N.length)) NX) PX) (hx:XC (wp X pn xe) (·=σ) F G PX)
  (fin:∀ (D C:Addr) (s4:Shared) (H4 F4:Hp) (m:Str->Option Value) (t:S) (U4:Env),s4.heap.Ns C m->Inv (wp X pn xe) qZ σ H4 s4->H4 C=none->C≠X.env.locals->X.s₀.heap.objs.size<=C->(∀ x c,X.env.cells.lookup x=some c->c≠C)->(∀ p∈pn++qZ,p.1≠C)->
   P (.v t) U4->qK F F4->Rel X.K (U4++[some t]) (σ++[some (.ref D)]) F4 G H4->compPost (model X.prog X.w) X.A xe use Q' (.ref D) C (.ok .next) s4):
  wpAny (model X.prog X.w) X.A (comprehension e scope X.env cpos mk false (eval iter X.env) use) Q' xe s:=by
 have hi':=hi pn xe hp qZ s σ H (fun J H1=>∃ F1 U1 l,qK F F1/\Rel X.K U1 σ F1 G H1/\ItOk X.K J l F1/\
   bLoop g wc b l (U1++some s0::List.replicate k none) (fun U2=>qJ (slot U2 X.N.length) fun s=>P (.v s) (U2.take X.N.length)) NX) I
  ⟨F,G,U,_,PX,q8,hw,fun l U1 F1 H1 J hk s1 r1 it=>⟨F1,U1,l,s1,r1,it,hk⟩,hx⟩
 have hfree:∀ x∈scope.names,x.2=.free->∃ c,X.env.cells.lookup x.1=some c:=fun x hx hf=>I.ok.has x.1 (Sc.fr x hx hf)
 refine wpAny_comprehension_free (use:=use) hcl hs (zdx hfree) Sc.kind (fun x hx hl=>(zaD Sc.nd).mpr (by obtain ⟨a,b⟩:=x; have hl':b=.local:=hl; subst hl'; exact hx)) (qD hi' (fun v s1 h1=>qD h1 (fun itv s2 h2=>?_) fun _ _ z=>z) fun _ _ z=>z)
 refine cps fun _ kk=>?_
 obtain ⟨it,fp,tn,J,H2,e1,I2,T,st,f,F1,U1,l,s1',r1,ito,hk2⟩:=h2
 refine kk ?_
 subst e1
 -- the zi
 refine hmk _ _ _ _ ?_
 generalize hs3:({ s2 with heap:=s2.heap.push { cls:=.type ty,dict:=none,data:=dat } }:Shared)=s3
 have k23:∀ b o,s2.heap.get? b=some o->s3.heap.get? b=some o:=fun b o e=>by rw [<- hs3]; exact qc _ e
 have sz3:s3.heap.objs.size=s2.heap.objs.size + 1:=by rw [<- hs3]; exact Heap.size_push ..
 have hD:H2 s2.heap.objs.size=none:=I2.hok.fresh (Nat.le_refl _)
 have I3:Inv (wp X pn xe) qZ σ (upd H2 s2.heap.objs.size o0) s3:=by
  rw [<- hs3]
  exact I2.laid (t':=s2.toks) (fun b o e=>qc _ e) (Nat.le_refl _) (ho _ _ I2.big)
 have r3:Rel X.K (U1++[some s0]) (σ++[some (.ref s2.heap.objs.size)]) F1 G (upd H2 s2.heap.objs.size o0):=r1.newO hD (hs0 _ _ _ zam)
 have fplt:∀ b∈fp,b < s2.heap.objs.size:=fun b hb=>by
  obtain ⟨o,e,_⟩:=T.obj _ _ st b hb
  exact qf e
 have fne:∀ b∈fp,b≠s2.heap.objs.size:=fun b hb=>Nat.ne_of_lt (fplt b hb)
 have f3:∀ b∈fp,FpOk (wp X pn xe) qZ (upd H2 s2.heap.objs.size o0) b:=fun b hb=>by
  obtain ⟨h1,h2⟩:=f b hb
  exact ⟨by rw [zag (fne b hb)]; exact h1,h2⟩
 refine zeG fun h' kept hns hcl'=>?_
 have I4:=Inv.comp (X:=wp X pn xe) (ex:=fp) I3 Sc (fun b hb=>⟨f3 b hb,by rw [sz3]; exact Nat.lt_succ_of_lt (fplt b hb)⟩) kept hns hcl' hk (some (.ref s2.heap.objs.size))
 have hσn:(σ++some (.ref s2.heap.objs.size)::List.replicate k none)[X.N.length]?=some (some (.ref s2.heap.objs.size)):=by
  have hl:X.N.length=σ.length:=I2.len.symm
  rw [hl,List.getElem?_append_right (Nat.le_refl _),Nat.sub_self]
  rfl
 have r4:Rel X.K (U1++some s0::List.replicate k none) (σ++some (.ref s2.heap.objs.size)::List.replicate k none) F1 G (upd H2 s2.heap.objs.size o0):=by
  have:=r3.pushNs k
  simpa using this
 have st4:tn 0 h':=T.keep _ _ _ st fun b hb o e=>kept b o (k23 b o e)
 have f4:∀ b∈fp,FpOk (compCx X scope vars s3 (upd H2 s2.heap.objs.size o0) fp) [] (upd H2 s2.heap.objs.size o0) b:=fun b hb=>by
  obtain ⟨h1,h2,h3,h4,h5,h6⟩:=f3 b hb
  have e:=I4.ok.exf b hb
  exact ⟨h1,e.1,I4.ok.exfs b hb,.inl hb,e.2,fun p hp=>absurd (show p∈([]:List (Addr×Obj)) from hp) (by simp)⟩
 have go:=zda (hb s3 (upd H2 s2.heap.objs.size o0) fp s2.heap.objs.size) (fun it=>hq it _ _) (fun it=>hun it _ _) (fun it=>hden it _ _) (fun it=>heq it _ _) I4 T st4 f4
  (Q:=fun σ' H'=>∃ F' U',qJ (slot U' X.N.length) (fun s=>P (.v s) (U'.take X.N.length))/\KP (List.range (X.N.length + 1)) (σ++some (.ref s2.heap.objs.size)::List.replicate k none) σ'/\qK F1 F'/\Rel X.K U' σ' F' G H')
  (zfm ito r4 hσn hk2 fun U' σ' F' H' a kp sm r=>⟨F',U',a,kp,sm,r⟩)
 refine codeAny_mono go fun r s4 zq=>?_
 refine cps fun _ kk=>?_
 obtain ⟨σ4,H4,er,I5,F4,U4,hn4,kp4,sm4,r5⟩:=zq
 subst er
 obtain ⟨m,hm,_⟩:=id I5.loc
 refine kk ?_
 have I6:Inv (wp X pn xe) qZ σ H4 s4:=Inv.call' (ch:=fp) I3 I5.os I5.base I5.hok I5.bare fun b hb=>by
  obtain ⟨h1,h2,h3,h4,h5,h6⟩:=f3 b hb
  exact ⟨h4,h2,h5,h6⟩
 -- the block's names go
 obtain ⟨t,et,hP⟩:=zae hn4
 have hl:X.N.length=σ.length:=I2.len.symm
 have hσ4:σ4[X.N.length]?=some (some (.ref s2.heap.objs.size)):=by rw [kp4 X.N.length (by simp)]; exact hσn
 have eσ:σ4.take X.N.length=σ:=by
  apply List.ext_getElem?
  intro j
  by_cases hj:j < X.N.length
  ·rw [List.getElem?_take_of_lt hj,kp4 j (by simp; lia),List.getElem?_append_left (by lia)]
  ·rw [List.getElem?_take_eq_none (Nat.not_lt.mp hj),List.getElem?_eq_none (by lia)]
 have e1:=zcI (zbG et)
 have e2:=zcI hσ4
 rw [e1,e2,eσ] at r5
 have r6:Rel X.K ((U4.take X.N.length++[some t])++U4.drop (X.N.length + 1)) ((σ++[some (.ref s2.heap.objs.size)])++σ4.drop (X.N.length + 1)) F4 G H4:=by simpa using r5
 have hlt:X.N.length < U4.length:=zcz et
 have ltC:∀ {b:Addr} {o:Obj},s3.heap.get? b=some o->b≠s3.heap.objs.size:=fun e=>Nat.ne_of_lt (qf e)
 refine fin s2.heap.objs.size s3.heap.objs.size s4 H4 F4 m t (U4.take X.N.length) hm I6 I5.free (Ne.symm (Nat.ne_of_lt I3.lt)) I3.sz (fun x c e z=>?_) (fun p hp z=>?_) hP (s1'.trans sm4) (r6.drop (by simp; lia))
 ·obtain ⟨v,o,ho,_⟩:=I3.cell x c e
  exact ltC ho z
 ·exact ltC (I3.pin p hp).1 z
theorem zhX {P:WQ} (hok:∀ r U' v F' H',P r U'->qK F F'->Rel X.K (U'++[qL r]) (σ++[some v]) F' G H'->RV σ v r->Q v H'):
  ∀ (D C:Addr) (s4:Shared) (H4 F4:Hp) (m:Str->Option Value) (t:S) (U4:Env),s4.heap.Ns C m->Inv (wp X pn xe) qZ σ H4 s4->H4 C=none->C≠X.env.locals->X.s₀.heap.objs.size<=C->(∀ x c,X.env.cells.lookup x=some c->c≠C)->(∀ p∈pn++qZ,p.1≠C)->
    P (.v t) U4->qK F F4->Rel X.K (U4++[some t]) (σ++[some (.ref D)]) F4 G H4->compPost (model X.prog X.w) X.A xe none (EP (wp X pn xe) qZ σ Q) (.ref D) C (.ok .next) s4:=
 fun D C s4 H4 F4 m t U4 hm I n1 n2 n3 n4 n5 hP sm r=>⟨m,hm,fun h'' sb=>⟨.ref D,H4,I.turned (t':=s4.toks) (fun b o hb e=>(sb.2 b hb).trans e) n1 n2 (.inr (Heap.get?_none_of_le n3)) n4 n5,rfl,hok (.v t) U4 _ F4 H4 hP sm r trivial⟩⟩
theorem zkz {P:WQ} {Nx:Env->Prop} (hk:i∉ks) (hN:∀ j,X.N[j]?=some y->j=i) (hi:X.N[i]?=some y) (hy:X.env.scope.names.lookup y=some .local)
  (hP:∀ s U,P (.v s) U->Nx (U.set i (some s))) (hok:∀ U' σ' F' H',Nx U'->KP ks σ σ'->qK F F'->Rel X.K U' σ' F' G H'->DD.nx σ' H'):
  ∀ (D C:Addr) (s4:Shared) (H4 F4:Hp) (m:Str->Option Value) (t:S) (U4:Env),s4.heap.Ns C m->Inv (wp X pn xe) qZ σ H4 s4->H4 C=none->C≠X.env.locals->X.s₀.heap.objs.size<=C->(∀ x c,X.env.cells.lookup x=some c->c≠C)->(∀ p∈pn++qZ,p.1≠C)->
    P (.v t) U4->qK F F4->Rel X.K (U4++[some t]) (σ++[some (.ref D)]) F4 G H4->compPost (model X.prog X.w) X.A xe (some (assign (.Name y py) X.env)) (fun _ s'=>SP (wp X pn xe) qZ DD .next s') (.ref D) C (.ok .next) s4:=
 fun D C s4 H4 F4 m t U4 hm I n1 n2 n3 n4 n5 hp sm r=>by
  have hl:=len1 r
  have hiU:i < U4.length:=by rw [hl,I.len]; exact (qh.mp hi).1
  refine wpAny_assign_Name (zcv (X:=wp X pn xe) (v:=.ref D) I hN hi (.inl hy) rfl (fun s5 I5 zq=>?_) (.inr hy))
  obtain ⟨a,sb,ha⟩:=zq
  have haC:C≠a:=by
   rcases ha with e | e
   ·rw [e]; exact n2
   ·exact Ne.symm (n4 y a e)
  refine ⟨m,hm.sameBut sb haC,fun h'' sb2=>⟨_,H4,I5.turned (t':=s5.toks) (fun b o hb e=>(sb2.2 b hb).trans e) n1 n2 (.inr (Heap.get?_none_of_le n3)) n4 n5,?_⟩⟩
  exact hok _ _ F4 H4 (hP t U4 hp) (KP.set hk) sm (r.store hl hiU)
theorem zeU (A:Around) (E:qE) (s:Shared) (Q:qE) (h:Q (.ref s.heap.objs.size) { s with heap:=s.heap.push { cls:=.type ty,dict:=none,data:=dat } }) (hz:sizeOk dat:=by size_fits):wpAny (model X.prog X.w) A (newObj (.type ty) dat) Q E s:=qw h hz
theorem zeO (H:Hp) (h:Heap) (_:sysModules < h.objs.size):qY X.prog X.w H (h.push { cls:=.type "list",dict:=none,data:=.seq ([]:List Value).toArray }) h.objs.size (.lst []):=⟨Nat.zero_le _,[],0,.nil,qd _ rfl⟩
theorem zgz (F H:Hp) (p:Addr) (e:H p=some (.lst [])):SRep X.K F H (.ref p) (.lst []) [p]:=.lst e .nil
theorem zcP (hn:X.N.length=n) (hc:X.calm=true) (Sc:CompScope X.env.scope scope X.N vars) (hk:vars.length=k) (hi:FI X tg iter wi)
  (hg:∀ s H ex,FG (compCx X scope vars s H ex) (List.range (n + 1)) tg g) (ht:∀ s H ex,PIfs (compCx X scope vars s H ex) ifs (tWT (compCx X scope vars s H ex) wc)) (he:∀ s H ex,FE (compCx X scope vars s H ex) elt we)
  (hs:∀ x,foldedSetIterable iter X.env x=pure x:=by intro _; rfl):FE X (.ListComp elt [⟨tg,iter,ifs,0⟩] scope pos) (wLC n k wi g wc (bEmit n we)):=by
 subst hn
 intro pn xe hp qZ s σ H Q I q
 show wpAny (model X.prog X.w) X.A (eval (.ListComp elt [⟨tg,iter,ifs,0⟩] scope pos) X.env) (EP (wp X pn xe) qZ σ Q) xe s
 rw [eval_ListComp]
 obtain ⟨F,G,U,P,PX,q8,hw,hok,hx⟩:=q
 refine zeT (fun A E s Q h=>zeU A E s Q h) (s0:=.lst []) zeO zgz rfl hs Sc hk hi (fun s H ex D=>?_) (fun _ _ _=>rfl) (fun _ _ _=>rfl) (fun _ _ _=>rfl) (fun _ _ _=>⟨_,rfl⟩) hp I q8 hw hx (zhX hok)
 exact zbE (X:=compCx X scope vars s H ex) hc rfl (hg s H ex [] (fun _ _=>False) PassesOwn.never) (ht s H ex) (fun _=>(zcL (X:=compCx X scope vars s H ex) rfl (he s H ex)).f) (fun _=>rfl) (fun _=>rfl) (fun _=>rfl) (fun _=>rfl)
theorem zbQ (hki:i∉ks) (hN:∀ j,X.N[j]?=some y->j=i) (hiN:X.N[i]?=some y) (hy:X.env.scope.names.lookup y=some .local)
  (hsw:swapsWith (.ListComp elt [⟨tg,iter,ifs,0⟩] scope pos) (some (.Name y py)) spos.line X.env=pure true)
  (hn:X.N.length=n) (hc:X.calm=true) (Sc:CompScope X.env.scope scope X.N vars) (hk:vars.length=k) (hi:FI X tg iter wi)
  (hg:∀ s H ex,FG (compCx X scope vars s H ex) (List.range (n + 1)) tg g) (ht:∀ s H ex,PIfs (compCx X scope vars s H ex) ifs (tWT (compCx X scope vars s H ex) wc)) (he:∀ s H ex,FE (compCx X scope vars s H ex) elt we)
  (hs:∀ x,foldedSetIterable iter X.env x=pure x:=by intro _; rfl):FS X ks (.Assign [.Name y py] (.ListComp elt [⟨tg,iter,ifs,0⟩] scope pos) spos) (qT (qI i) (wLC n k wi g wc (bEmit n we))):=by
 subst hn
 intro pn xe hp qZ s σ H D I q
 show wpAny (model X.prog X.w) X.A (exec (.Assign [.Name y py] (.ListComp elt [⟨tg,iter,ifs,0⟩] scope pos) spos) X.env) (SP (wp X pn xe) qZ D) xe s
 rw [exec_Assign_Name_used _ _ _ _ hsw]
 refine qa (wpAny_standAt (qa ?_))
 obtain ⟨F,G,U,E,q8,hw,n,b,c,r,x⟩:=q
 show wpAny _ X.A (do let _ <- comprehension (.ListComp elt [⟨tg,iter,ifs,0⟩] scope pos) scope X.env _ (newList []) false (eval iter X.env) (some (assign (.Name y py) X.env))) _ _ s
 refine qa (qD (zeT (fun A E s Q h=>zeU A E s Q h) (s0:=.lst []) (P:=fun r U1=>qJ (give r U1) fun p=>qI i p.1 p.2 E.nx) (PX:=E.ex) (g:=g) (wc:=wc) (b:=bEmit X.N.length we) (Q':=fun _ s'=>SP (wp X pn xe) qZ D .next s') zeO zgz rfl hs Sc hk hi (fun s H ex D=>?_) (fun _ _ _=>rfl) (fun _ _ _=>rfl) (fun _ _ _=>rfl) (fun _ _ _=>⟨_,rfl⟩) hp I q8 hw (x.mono (fun σ2 z=>by rw [z]; exact KP.refl) (qK.refl F) (qK.refl G))
  (zkz (P:=fun r U1=>qJ (give r U1) fun p=>qI i p.1 p.2 E.nx) (Nx:=E.nx) hki hN hiN hy (fun s U h=>h) n)) (fun _ s' hq=>qb (qb hq)) fun _ _ e=>e)
 exact zbE (X:=compCx X scope vars s H ex) hc rfl (hg s H ex [] (fun _ _=>False) PassesOwn.never) (ht s H ex) (fun _=>(zcL (X:=compCx X scope vars s H ex) rfl (he s H ex)).f) (fun _=>rfl) (fun _=>rfl) (fun _=>rfl) (fun _=>rfl)
set_option maxHeartbeats 4000000 in
theorem zlV (hn:X.N.length=n) (hm:X.A.mark none=X.A) (hc:X.calm=true) (Sc:CompScope X.env.scope scope X.N vars) (hk:vars.length=k) (hi:FI X tg iter wi)
  (hg:∀ s H ex,FG (compCx X scope vars s H ex) (List.range (n + 1)) tg g) (ht:∀ s H ex,PIfs (compCx X scope vars s H ex) ifs (tWT (compCx X scope vars s H ex) wc))
  (hi2:∀ s H ex,FI (compCx X scope vars s H ex) tg2 iter2 wi2) (hg2:∀ s H ex,FG (compCx X scope vars s H ex) (List.range (n + 1)) tg2 g2) (ht2:∀ s H ex,PIfs (compCx X scope vars s H ex) ifs2 (tWT (compCx X scope vars s H ex) wc2))
  (he:∀ s H ex,FE (compCx X scope vars s H ex) elt we)
  (hs:∀ x,foldedSetIterable iter X.env x=pure x:=by intro _; rfl) (hs2:∀ env x,foldedSetIterable iter2 env x=pure x:=by intro _ _; rfl):FE X (.ListComp elt [⟨tg,iter,ifs,0⟩,⟨tg2,iter2,ifs2,0⟩] scope pos) (wLC n k wi g wc (bFor wi2 g2 wc2 (bEmit n we))):=by
 subst hn
 intro pn xe hp qZ s σ H Q I q
 show wpAny (model X.prog X.w) X.A (eval (.ListComp elt [⟨tg,iter,ifs,0⟩,⟨tg2,iter2,ifs2,0⟩] scope pos) X.env) (EP (wp X pn xe) qZ σ Q) xe s
 rw [eval_ListComp]
 obtain ⟨F,G,U,P,PX,q8,hw,hok,hx⟩:=q
 refine zeT (fun A E s Q h=>zeU A E s Q h) (s0:=.lst []) zeO zgz rfl hs Sc hk hi (fun s H ex D=>?_) (fun _ _ _=>rfl) (fun _ _ _=>rfl) (fun _ _ _=>rfl) (fun _ _ _=>⟨_,rfl⟩) hp I q8 hw hx (zhX hok)
 have inner:PLoop (compCx X scope vars s H ex) (.ListComp elt [⟨tg,iter,ifs,0⟩,⟨tg2,iter2,ifs2,0⟩] scope pos) 1 (.ref D) tg2 _:=
  zbE (X:=compCx X scope vars s H ex) hc rfl (hg2 s H ex [] (fun _ _=>False) PassesOwn.never) (ht2 s H ex) (fun _=>(zcL (X:=compCx X scope vars s H ex) (n:=X.N.length) rfl (he s H ex)).f) (fun _=>rfl) (fun _=>rfl) (fun _=>rfl) (fun _=>rfl)
 exact zbE (X:=compCx X scope vars s H ex) hc rfl (hg s H ex [] (fun _ _=>False) PassesOwn.never) (ht s H ex) (fun _=>zif (X:=compCx X scope vars s H ex) rfl (hi2 s H ex) inner (hs2 _) hm (fun _=>rfl) (fun _=>rfl) (fun _=>rfl) (fun _=>⟨_,rfl⟩)) (fun _=>rfl) (fun _=>rfl) (fun _=>rfl) (fun _=>rfl)
end
section
variable {K:W.Frag}
theorem zbY {x:Str} (e:x.cps.toList=l):x.length=l.length:=by rw [<- e]; rfl
theorem zjB {x y:Str} (e:x.cps.toList=l) (e':y.cps.toList=m):(x++y).cps.toList=l++m:=by
 show (x.cps++y.cps).toList=_
 rw [Array.toList_append,e,e']
theorem RepE.int (h:RepE K F H v (.int i)):v=.int i:=by
 rcases h with h | ⟨_,_,_,_,h,_⟩ | ⟨_,_,_,_,_,h,_⟩ | ⟨_,_,_,_,_,h,_⟩
 ·cases h; rfl
 ·cases h
 ·cases h
 ·cases h
theorem RepE.str (h:RepE K F H v (.str l)):∃ x,v=.str x/\x.cps.toList=l/\l.length<=16777216:=by
 rcases h with h | ⟨_,_,_,_,h,_⟩ | ⟨_,_,_,_,_,h,_⟩ | ⟨_,_,_,_,_,h,_⟩
 ·cases h with
  | str e z=>exact ⟨_,rfl,e,z⟩
 ·cases h
 ·cases h
 ·cases h
theorem RepE.tup (h:RepE K F H v (.tup l)):∃ a xs,v=.ref a/\F a=some (.tup xs)/\qX K F xs l:=by
 rcases h with h | ⟨_,_,_,_,h,_⟩ | ⟨_,_,_,_,_,h,_⟩ | ⟨_,_,_,_,_,h,_⟩
 ·cases h with
  | tup e r=>exact ⟨_,_,rfl,e,r⟩
 ·cases h
 ·cases h
 ·cases h
theorem RepE.lst (sm:qK F H) (h:RepE K F H v (.lst l)):∃ a xs,v=.ref a/\SqL K H a xs/\qX K F xs l:=by
 rcases h with h | ⟨a,xs,ds,e1,h,e2,r⟩ | ⟨_,_,_,_,_,h,_⟩ | ⟨_,_,_,_,_,h,_⟩
 ·cases h with
  | lst e r=>exact ⟨_,_,rfl,SqL.mono sm e,r⟩
 ·cases h
  exact ⟨a,xs,e1,SqL.of e2,r⟩
 ·cases h
 ·cases h
theorem qX.append (a:qX K F xs l) (r:qX K F ys m):qX K F (xs++ys) (l++m):=qX.ind (P:=fun xs l=>qX K F (xs++ys) (l++m)) r (fun a _ ih=>.cons a ih) a
theorem Rel.newLD (r:Rel K U σ F G H) (hp:H p=none) (rx:qX K F xs l):Rel K (U++[some (.lst (l.map .sh))]) (σ++[some (.ref p)]) F G (upd H p (.lst xs)):=by
 have sr:∀ {xs:List V} {l:List D},qX K F xs l->qN K F (upd H p (.lst xs)) xs (l.map .sh) []:=by
  intro xs l h
  generalize upd H p (.lst xs)=H'
  induction xs generalizing l with
  | nil=>cases h; exact .nil
  | cons x xs ih=>cases h with
    | cons a b=>
      have:=qN.cons (SRep.sh (H:=H') a) (ih b)
      exact this
 refine r.newO hp (.lst zam ?_)
 have:=sr rx
 exact this
noncomputable def rCatL (K:W.Frag):R2:=fun x y H Q=>∃ l b xs zs,x=.ref l/\y=.ref b/\SqL K H l xs/\SqL K H b zs/\xs.length + zs.length<=sizeLine/\∀ p,H p=none->Q (.ref p) (upd H p (.lst (xs++zs)))
theorem zjN:OpR X (binaryOp .Add) (rCatL X.K):=by
 intro qZ s σ H x y v u Q I rx ry h
 obtain ⟨l,b,xs,zs,rfl,rfl,hl,hb,hz,q⟩:=h
 cases rx
 cases ry
 obtain ⟨zc,r1,⟨⟨cls,dd,data,sl⟩,n,ho,hc,hd0,hd⟩,_⟩:=I.list hl
 obtain ⟨its2,r2,⟨⟨cls2,dd2,data2,sl2⟩,n2,ho2,hc2,hd02,hd2⟩,_⟩:=I.list hb
 simp only at hc hd0 hd hc2 hd02 hd2
 subst hc hd0 hd hc2 hd02 hd2
 refine concat_meets ⟨_,ho,rfl⟩ ⟨_,ho2,rfl⟩ noFill_list_add seq_list_add PySem.F.slot_list_add PySem.F.entry_list_add (PySem.F.args_list_add_2 _ _) (list_addW l b zc.toArray its2.toArray n n2 none none sl sl2 (by rw [List.size_toArray,List.size_toArray,<- r1.length,<- r2.length]; exact hz)) ⟨ho,ho2,?_⟩
 have ea:zc.toArray++its2.toArray=(zc++its2).toArray:=by simp
 rw [ea]
 exact ⟨.ref _,_,I.lnew (t':=s.toks) (r1.append r2) (by rw [List.length_append]; exact hz),rfl,q _ I.fresh⟩
noncomputable def rCatTT (K:W.Frag):R2:=fun x y H Q=>∃ a b xs ys,x=.ref a/\y=.ref b/\SqT K H a xs/\SqT K H b ys/\xs.length + ys.length<=sizeLine/\
 (xs=[]->Q (.ref b) H)/\(xs≠[]->ys=[]->Q (.ref a) H)/\(xs≠[]->ys≠[]->∀ p,H p=none->Q (.ref p) (upd H p (.tup (xs++ys))))
theorem zi7:OpR X (binaryOp .Add) (rCatTT X.K):=by
 intro qZ s σ H x y v u Q I rx ry h
 obtain ⟨a,b,xs,ys,rfl,rfl,ha,hb,hz,q0,q1,q2⟩:=h
 by_cases hx:xs=[]
 ·cases rx
  cases ry
  obtain ⟨zc,r1,p1,_⟩:=I.tuple ha
  obtain ⟨its2,r2,p2,_⟩:=I.tuple hb
  obtain ⟨⟨cls,dd,data,sl⟩,ho,hc,n,hd⟩:=id p1
  obtain ⟨⟨cls2,dd2,data2,sl2⟩,ho2,hc2,n2,hd2⟩:=id p2
  simp only at hc hd hc2 hd2
  subst hc hd hc2 hd2
  have hi:zc=[]:=r1.nil_iff.mpr hx
  exact concat_meets ⟨_,ho,rfl⟩ ⟨_,ho2,rfl⟩ noFill_tuple_add seq_tuple_add PySem.F.slot_tuple_add PySem.F.entry_tuple_add (PySem.F.args_tuple_add_2 _ _)
   (tuple_addW0 a b zc.toArray its2.toArray n n2 dd dd2 sl sl2 (by simp [hi])) ⟨ho,ho2,.ref b,H,I,rfl,q0 hx⟩
 ·exact zky qZ s σ H _ _ v u Q I rx ry ⟨a,b,xs,ys,rfl,rfl,ha,hb,hx,hz,q1 hx,q2 hx⟩
noncomputable def rStrAdd:R2:=fun x y H Q=>∃ i j,x=.str i/\y=.str j/\i.length + j.length<=sizeLine/\Q (.str (i++j)) H
noncomputable def rAddAll (K:W.Frag):R2:=fun x y H Q=>rI0 (fun i j=>.int (i + j)) x y H Q\/(rStrAdd x y H Q\/(rCatL K x y H Q\/rCatTT K x y H Q))
theorem zgH:OpR X (binaryOp .Add) (rAddAll X.K):=OpR.or zmv (OpR.or zfE (OpR.or zjN zi7))
theorem zb8 (h:n<=big):n<=sizeLine:=by rw [qz]; exact Nat.le_trans h (by decide)
theorem zik:Does K (rAddAll K) oAdd:=by
 intro σ U F G H x y p q s Q q8 ex ey e hq
 unfold oAdd at e
 split at e
 ·cases e
  have h1:=ex.int
  have h2:=ey.int
  subst h1 h2
  exact .inl ⟨_,_,rfl,rfl,hq _ F H (qK.refl F) (q8.push (.int _))⟩
 ·rename_i a b
  split at e
  ·rename_i hz
   cases e
   obtain ⟨x,rfl,e1,z1⟩:=ex.str
   obtain ⟨y,rfl,e2,z2⟩:=ey.str
   refine .inr (.inl ⟨_,_,rfl,rfl,by rw [zbY e1,zbY e2]; exact zb8 hz,hq _ F H (qK.refl F) (q8.push (.str (zjB e1 e2) (by rw [List.length_append]; exact Nat.le_trans hz (by decide))))⟩)
  ·cases e
 ·rename_i a b
  split at e
  ·rename_i hz
   cases e
   obtain ⟨l,xs,rfl,h1,r1⟩:=ex.lst q8.fr
   obtain ⟨m,ys,rfl,h2,r2⟩:=ey.lst q8.fr
   refine .inr (.inr (.inl ⟨l,m,xs,ys,rfl,rfl,h1,h2,by rw [r1.len,r2.len]; exact zb8 hz,fun p hp=>?_⟩))
   exact hq _ F _ (qK.refl F) (q8.newLD hp (r1.append r2))
  ·cases e
 ·rename_i a b
  split at e
  ·rename_i hz
   cases e
   obtain ⟨l,xs,rfl,h1,r1⟩:=ex.tup
   obtain ⟨m,ys,rfl,h2,r2⟩:=ey.tup
   refine .inr (.inr (.inr ⟨l,m,xs,ys,rfl,rfl,SqT.of (q8.fr _ _ h1),SqT.of (q8.fr _ _ h2),by rw [r1.len,r2.len]; exact zb8 hz,fun hx=>?_,fun _ hy=>?_,fun _ _ p hp=>?_⟩))
   ·subst hx
    cases r1
    exact hq _ F H (qK.refl F) (q8.push (.tup h2 r2))
   ·subst hy
    cases r2
    rw [List.append_nil] at hq
    exact hq _ F H (qK.refl F) (q8.push (.tup h1 r1))
   ·have n2:=(q8.free hp).1
    exact hq _ _ _ (qK.upd n2) ((q8.newF hp).push (.tup zam ((r1.append r2).mono (qK.upd n2))))
  ·cases e
 ·cases e
theorem zbR {g:Int->Int->Int} (ho:∀ p q s,o p q=some s->∃ i j,p=.int i/\q=.int j/\C i j/\s=.sh (.int (g i j))):Does K (rI C fun i j=>.int (g i j)) o:=by
 intro σ U F G H x y p q s Q q8 ex ey e hq
 obtain ⟨i,j,rfl,rfl,hc,rfl⟩:=ho p q s e
 have h1:=ex.int
 have h2:=ey.int
 subst h1 h2
 exact ⟨i,j,rfl,rfl,hc,hq _ F H (qK.refl F) (q8.push (.int _))⟩
theorem ziB:Does K (rI (fun _ _=>True) fun i j=>.int (i - j)) oSub:=zbR fun p q s e=>by
 unfold oSub at e
 split at e
 ·cases e; exact ⟨_,_,rfl,rfl,trivial,rfl⟩
 ·cases e
theorem zkH:OpR X (binaryOp .Sub) (rI (fun _ _=>True) fun i j=>.int (i - j)):=opI fun _ _ _ _ _ _ _ _ q=>sub_int q
theorem ziL:Does K (rI CMul fun i j=>.int (i * j)) oMul:=zbR fun p q s e=>by
 unfold oMul at e
 split at e
 ·rename_i i j
  split at e
  ·rename_i h
   cases e
   refine ⟨_,_,rfl,rfl,?_,rfl⟩
   simp only [mulOk,Bool.or_eq_true,Bool.and_eq_true,qm] at h
   exact h
  ·cases e
 ·cases e
theorem ziY:Does K (rI (fun _ j=>0 < j) fun i j=>.int (i % j)) oMod:=zbR fun p q s e=>by
 unfold oMod at e
 split at e
 ·split at e
  ·rename_i h; cases e; exact ⟨_,_,rfl,rfl,h,rfl⟩
  ·cases e
 ·cases e
theorem ziI:Does K (rI CPow fun i j=>.int (i ^ j.toNat)) oPow:=zbR fun p q s e=>by
 unfold oPow at e
 split at e
 ·split at e
  ·rename_i h; cases e; exact ⟨_,_,rfl,rfl,⟨h.1,by lia,h.2.2⟩,rfl⟩
  ·cases e
 ·cases e
noncomputable def CDivB (i j:Int):Prop:=0 < j/\j < 18446744073709551616
theorem ziE:OpR X (binaryOp .FloorDiv) (rI CDivB fun i j=>.int (i / j)):=opI fun i j _ _ _ _ _ hc q=>by
 have h1:(0:Int) < j:=hc.1
 have h2:j < 18446744073709551616:=hc.2
 refine floordiv_int (by lia) ?_ (.inl (PyProof.noPylong_of_log2 ?_))
 ·rw [Int.fdiv_eq_ediv_of_nonneg _ (by lia)]; exact q
 ·have h0:j.natAbs≠0:=by lia
  have:j.natAbs.log2 < 64:=(Nat.log2_lt h0).mpr (by lia)
  lia
theorem zg0:Does K (rI CDivB fun i j=>.int (i / j)) oFdiv:=zbR fun p q s e=>by
 unfold oFdiv at e
 split at e
 ·split at e
  ·rename_i h; cases e; exact ⟨_,_,rfl,rfl,h,rfl⟩
  ·cases e
 ·cases e
end
theorem zaj (ha:FE X a wa) (hb:FE X b wb):FE X (.BinOp a .Add b pos) (qQ oAdd wa wb):=zc7 (fun _ _=>zgH) zik ha hb
theorem zc5 (ha:FE X a wa) (hb:FE X b wb):FE X (.BinOp a .Sub b pos) (qQ oSub wa wb):=zc7 (fun _ _=>zkH) ziB ha hb
theorem zb4 (ha:FE X a wa) (hb:FE X b wb):FE X (.BinOp a .Mod b pos) (qQ oMod wa wb):=zc7 (fun _ _=>zmJ) ziY ha hb
theorem zhY (ha:FE X a wa) (hb:FE X b wb):FE X (.BinOp a .FloorDiv b pos) (qQ oFdiv wa wb):=zc7 (fun _ _=>ziE) zg0 ha hb
theorem zmk (ha:FE X a wa) (hb:FE X b wb):FE X (.BinOp a .Pow b pos) (qQ oPow wa wb):=zc7 (fun _ _=>zlE) ziI ha hb
section
open PySem.SeqAt
theorem zgJ (h:clash (.tup l) (.tup m)=false):clashs l m=false:=h
theorem zbJ:∀ {l m:List D} {j:Nat} {a b:D},clashs l m=false->l[j]?=some a->m[j]?=some b->clash a b=false
 | [],_,_,_,_,_,h,_=>by simp at h
 | _::_,[],_,_,_,_,_,h=>by simp at h
 | x::l,y::m,0,a,b,h,h1,h2=>by
   simp at h1 h2
   subst h1 h2
   have h':(clash x y || clashs l m)=false:=h
   rw [Bool.or_eq_false_iff] at h'
   exact h'.1
 | x::l,y::m,j + 1,a,b,h,h1,h2=>by
   have h':(clash x y || clashs l m)=false:=h
   rw [Bool.or_eq_false_iff] at h'
   exact zbJ h'.2 (by simpa using h1) (by simpa using h2)
theorem zdD:∀ {l:List D} {j:Nat} {a:D},l[j]?=some a->dep a<=deps l
 | [],_,_,h=>by simp at h
 | x::l,0,a,h=>by
   simp at h
   subst h
   show dep x<=max (dep x) (deps l)
   lia
 | x::l,j + 1,a,h=>by
   have:=zdD (l:=l) (j:=j) (a:=a) (by simpa using h)
   show dep a<=max (dep x) (deps l)
   lia
open Classical in
theorem ze5 {l m:List D} (n:Nat) (hn:n=min l.length m.length):((List.range n).all (fun j=>decide (l[j]?=m[j]?)) && (l.length == m.length))=decide (l=m):=by
 by_cases h:l=m
 ·subst h
  simp
 ·rw [qk h]
  by_cases hl:l.length=m.length
  ·have:(List.range n).all (fun j=>decide (l[j]?=m[j]?))=false:=by
    cases q:(List.range n).all (fun j=>decide (l[j]?=m[j]?)) with
    | false=>rfl
    | true=>
      exfalso
      apply h
      apply List.ext_getElem?
      intro j
      by_cases hj:j < n
      ·exact qo (List.all_eq_true.mp q j (by simpa using hj))
      ·rw [List.getElem?_eq_none (by lia),List.getElem?_eq_none (by lia)]
   rw [this]; rfl
  ·have:(l.length == m.length)=false:=by simpa using hl
   rw [this,Bool.and_false]
inductive Sc:V->D->Prop
 | non:Sc .non .non
 | bl (b:Bool):Sc (.bl b) (.bl b)
 | int (i:Int):Sc (.int i) (.int i)
 | str {x:Str} {l:List Nat}:x.cps.toList=l->Sc (.str x) (.str l)
theorem zmS {K:W.Frag} (r:Rep K H v d) (hc:clash d e=false) (h1:∀ l,d≠.tup l) (h2:∀ l,d≠.lst l):Sc v d:=by
 cases r with
 | tup=>exact absurd rfl (h1 _)
 | lst=>exact absurd rfl (h2 _)
 | dK=>cases e <;> cases hc
 | dT=>cases e <;> cases hc
 | st=>cases e <;> cases hc
 | exc=>cases e <;> cases hc
 | non=>exact .non
 | bl=>exact .bl _
 | int=>exact .int _
 | str e _=>exact .str e
theorem zji {K:W.Frag} (r:Rep K H u e) (s:Sc v d) (hc:clash d e=false):Sc u e:=by
 cases r with
 | non=>exact .non
 | bl=>exact .bl _
 | int=>exact .int _
 | str e _=>exact .str e
 | _=>cases s <;> cases hc
open Classical in
theorem zgt {K:W.Frag} (r1:Rep K H v d) (r2:Rep K H u e) (rv:qO v vv) (ru:qO u uu) (hc:clash d e=false) (h1:∀ l,d≠.tup l) (h2:∀ l,d≠.lst l):
  EqAt A s vv uu (decide (d=e))/\RcAt A s vv uu (decide (d=e)):=by
 have s1:=zmS r1 hc h1 h2
 have s2:=zji r2 s1 hc
 clear r1 r2 h1 h2
 cases s1 with
 | non=>
   cases rv
   cases s2 with
   | non=>cases ru; simp; exact ⟨EqAt.same _,RcAt.none_none⟩
   | bl b=>cases ru; simp; exact ⟨EqAt.none_bool _,RcAt.none_bool _⟩
   | int i=>obtain ⟨t,rfl⟩:=ru; simp; exact ⟨EqAt.none_int _ _,RcAt.none_int _ _⟩
   | str e=>obtain ⟨t,rfl⟩:=ru; simp; exact ⟨EqAt.none_str _ _,RcAt.none_str _ _⟩
 | bl a=>
   cases rv
   cases s2 with
   | non=>cases ru; simp; exact ⟨EqAt.bool_none _,RcAt.bool_none _⟩
   | bl b=>
     cases ru
     have e:(decide (D.bl a=D.bl b))=(a == b):=by cases a <;> cases b <;> simp
     rw [e]; exact ⟨EqAt.bool_bool _ _,RcAt.bool_bool _ _⟩
   | str e=>obtain ⟨t,rfl⟩:=ru; simp; exact ⟨EqAt.bool_str _ _ _,RcAt.bool_str _ _ _⟩
   | int=>cases hc
 | int i=>
   obtain ⟨t,rfl⟩:=rv
   cases s2 with
   | non=>cases ru; simp; exact ⟨EqAt.int_none _ _,RcAt.int_none _ _⟩
   | int j=>
     obtain ⟨t',rfl⟩:=ru
     have e:(decide (D.int i=D.int j))=(i == j):=by by_cases h:i=j <;> simp [h]
     rw [e]; exact ⟨EqAt.int_int _ _ _ _,RcAt.int_int _ _ _ _⟩
   | str e=>obtain ⟨t',rfl⟩:=ru; simp; exact ⟨EqAt.int_str _ _ _ _,RcAt.int_str _ _ _ _⟩
   | bl=>cases hc
 | str e1=>
   obtain ⟨t,rfl⟩:=rv
   cases s2 with
   | non=>cases ru; simp; exact ⟨EqAt.str_none _ _,RcAt.str_none _ _⟩
   | bl b=>cases ru; simp; exact ⟨EqAt.str_bool _ _ _,RcAt.str_bool _ _ _⟩
   | int j=>obtain ⟨t',rfl⟩:=ru; simp; exact ⟨EqAt.str_int _ _ _ _,RcAt.str_int _ _ _ _⟩
   | str e2=>
     obtain ⟨t',rfl⟩:=ru
     rename_i x l y m
     have e:(decide (D.str l=D.str m))=(x == y):=by
      by_cases h:x=y
      ·subst h
       rw [<- e1,<- e2]; simp
      ·have hb:(x == y)=false:=by simpa using h
       rw [hb]
       refine qk fun q=>h ?_
       obtain ⟨⟨a⟩⟩:=x
       obtain ⟨⟨b⟩⟩:=y
       have a1:a=l:=e1
       have b1:b=m:=e2
       rw [a1,b1,D.str.inj q]
     rw [e]; exact ⟨EqAt.str_str _ _ _ _,RcAt.str_str _ _ _ _⟩
theorem zaP (r:qW xs us) (h:j < us.toArray.size):∃ x,xs[j]?=some x/\qO x us.toArray[j]:=by
 have hl:=r.length
 have hj:j < us.length:=by simpa using h
 have hj':j < xs.length:=by lia
 obtain ⟨u,hu,ru⟩:=r.get (i:=j) (x:=xs[j]) (by simp [hj'])
 refine ⟨xs[j],by simp [hj'],?_⟩
 have:us.toArray[j]=u:=by
  have:=qh.mp hu
  simpa using this.2
 rw [this]; exact ru
mutual
theorem Rep.uniq (I:Inv X qZ σ H s) (r:Rep X.K H v d) (q:Rep X.K H v e) (hc:clash d e=false):d=e:=by
 cases r with
 | non=>cases q; rfl
 | bl _=>cases q; rfl
 | int _=>cases q; rfl
 | str e1 _=>cases q with | str e2 _=>rw [<- e1,<- e2]
 | tup e1 r1=>cases q with
   | tup e2 r2=>
     cases I.tuple_inj (SqT.of e1) (SqT.of e2)
     rw [qX.uniq I r1 r2 hc]
   | _=>cases hc
 | lst e1 r1=>cases q with
   | lst e2 r2=>
     cases I.list_inj e1 e2
     rw [qX.uniq I r1 r2 hc]
   | _=>cases hc
 | dK=>cases e <;> cases hc
 | dT=>cases e <;> cases hc
 | st=>cases e <;> cases hc
 | exc=>cases e <;> cases hc
theorem qX.uniq (I:Inv X qZ σ H s) (r:qX X.K H v d) (q:qX X.K H v e) (hc:clashs d e=false):d=e:=by
 cases r with
 | nil=>cases q; rfl
 | @cons _ a _ l a1 b1=>cases q with
   | @cons _ b _ m a2 b2=>
     have h':(clash a b || clashs l m)=false:=hc
     rw [Bool.or_eq_false_iff] at h'
     rw [Rep.uniq I a1 a2 h'.1,qX.uniq I b1 b2 h'.2]
end
open Classical in
theorem zjF:∀ (n:Nat) {A:Around} {v u:V} {vv uu:Value} {d e:D},dep d<=n->Inv X qZ σ H s->Rep X.K H v d->Rep X.K H u e->qO v vv->qO u uu->clash d e=false->A.units + n < cLine->
  EqAt A s vv uu (decide (d=e))/\RcAt A s vv uu (decide (d=e)):=by
 intro n
 induction n with
 | zero=>
   intro A v u vv uu d e hd I r1 r2 rv ru hc hu
   exact zgt r1 r2 rv ru hc (fun l z=>by subst z; exact absurd hd (by show ¬ deps l + 1<=0; lia)) (fun l z=>by subst z; exact absurd hd (by show ¬ deps l + 1<=0; lia))
 | succ n ih=>
   intro A v u vv uu d e hd I r1 r2 rv ru hc hu
   have hin:A.in1.units + n < cLine:=by show A.units + 1 + n < cLine; lia
   cases r1 with
   | tup e1 q1=>
     cases r2 with
     | tup e2 q2=>
       rename_i a xs l b ys m
       cases rv
       cases ru
       obtain ⟨zc,w1,p1,_⟩:=I.tuple (SqT.of e1)
       obtain ⟨its2,w2,p2,_⟩:=I.tuple (SqT.of e2)
       have hdl:deps l<=n:=by have:deps l + 1<=n + 1:=hd; lia
       have el1:zc.toArray.size=l.length:=by rw [List.size_toArray,<- w1.length,q1.len]
       have el2:its2.toArray.size=m.length:=by rw [List.size_toArray,<- w2.length,q2.len]
       have items:∀ j (h1:j < zc.toArray.size) (h2:j < its2.toArray.size),EqAt A.in1 s zc.toArray[j] its2.toArray[j] (decide (l[j]?=m[j]?)):=fun j h1 h2=>by
        obtain ⟨x,hx,rx⟩:=zaP w1 h1
        obtain ⟨y,hy,ry⟩:=zaP w2 h2
        have hj1:j < l.length:=by lia
        have hj2:j < m.length:=by lia
        obtain ⟨x',hx',rp1⟩:=q1.get (i:=j) (d:=l[j]) (by simp [hj1])
        obtain ⟨y',hy',rp2⟩:=q2.get (i:=j) (d:=m[j]) (by simp [hj2])
        rw [hx] at hx'; cases hx'
        rw [hy] at hy'; cases hy'
        have:=(ih (A:=A.in1) (Nat.le_trans (zdD (l:=l) (j:=j) (by simp [hj1])) hdl) I rp1 rp2 rx ry (zbJ (j:=j) (a:=l[j]) (b:=m[j]) (zgJ hc) (by simp [hj1]) (by simp [hj2])) hin).1
        have e:decide (l[j]?=m[j]?)=decide (l[j]=m[j]):=by simp [hj1,hj2]
        rw [e]; exact this
       have hrc:RcAt A s (.ref a) (.ref b) (decide (D.tup l=D.tup m)):=by
        have:=RcAt.tuples (s:=s) (show s.heap.IsTuple a zc.toArray from p1) (show s.heap.IsTuple b its2.toArray from p2) (by lia) items
        rw [el1,el2,ze5 (l:=l) (m:=m) _ rfl] at this
        have e:decide (D.tup l=D.tup m)=decide (l=m):=by by_cases h:l=m <;> simp [h]
        rw [e]; exact this
       refine ⟨?_,hrc⟩
       by_cases hab:a=b
       ·subst hab
        have hxy:l=m:=by
         have z:=Rep.uniq I (.tup e1 q1) (.tup e2 q2) hc
         cases z; rfl
        subst hxy
        simp
        exact EqAt.same _
       ·exact EqAt.of_refs hab hrc
     | _=>cases hc
   | lst e1 q1=>
     cases r2 with
     | lst e2 q2=>
       rename_i a xs l b ys m
       cases rv
       cases ru
       obtain ⟨zc,w1,p1,_⟩:=I.list e1
       obtain ⟨its2,w2,p2,_⟩:=I.list e2
       have hdl:deps l<=n:=by have:deps l + 1<=n + 1:=hd; lia
       have el1:zc.toArray.size=l.length:=by rw [List.size_toArray,<- w1.length,q1.len]
       have el2:its2.toArray.size=m.length:=by rw [List.size_toArray,<- w2.length,q2.len]
       have items:∀ j (h1:j < zc.toArray.size) (h2:j < its2.toArray.size),EqAt A.in1 s zc.toArray[j] its2.toArray[j] (decide (l[j]?=m[j]?)):=fun j h1 h2=>by
        obtain ⟨x,hx,rx⟩:=zaP w1 h1
        obtain ⟨y,hy,ry⟩:=zaP w2 h2
        have hj1:j < l.length:=by lia
        have hj2:j < m.length:=by lia
        obtain ⟨x',hx',rp1⟩:=q1.get (i:=j) (d:=l[j]) (by simp [hj1])
        obtain ⟨y',hy',rp2⟩:=q2.get (i:=j) (d:=m[j]) (by simp [hj2])
        rw [hx] at hx'; cases hx'
        rw [hy] at hy'; cases hy'
        have hc':clashs l m=false:=hc
        have:=(ih (A:=A.in1) (Nat.le_trans (zdD (l:=l) (j:=j) (by simp [hj1])) hdl) I rp1 rp2 rx ry (zbJ (j:=j) (a:=l[j]) (b:=m[j]) hc' (by simp [hj1]) (by simp [hj2])) hin).1
        have e:decide (l[j]?=m[j]?)=decide (l[j]=m[j]):=by simp [hj1,hj2]
        rw [e]; exact this
       have hrc:RcAt A s (.ref a) (.ref b) (decide (D.lst l=D.lst m)):=by
        have e:decide (D.lst l=D.lst m)=decide (l=m):=by by_cases h:l=m <;> simp [h]
        rw [e]
        by_cases q9:l.length=m.length
        ·have:=RcAt.lists (s:=s) p1.isList p2.isList (by lia) (by lia) items
         rw [el1] at this
         have e2:=ze5 (l:=l) (m:=m) l.length (by lia)
         have e3:(l.length == m.length)=true:=by simpa using q9
         rw [e3,Bool.and_true] at e2
         rw [<- e2]; exact this
        ·have:=RcAt.lists_lengths (A:=A) (s:=s) p1.isList p2.isList (by simp only [el1,el2]; simpa using q9) (by lia)
         have e2:decide (l=m)=false:=qk fun z=>q9 (by rw [z])
         rw [e2]; exact this
       refine ⟨?_,hrc⟩
       by_cases hab:a=b
       ·subst hab
        have hxy:l=m:=by
         have z:=Rep.uniq I (.lst e1 q1) (.lst e2 q2) hc
         cases z; rfl
        subst hxy
        simp
        exact EqAt.same _
       ·exact EqAt.of_refs hab hrc
     | _=>cases hc
   | _=>exact zgt (by first | exact .non | exact .bl _ | exact .int _ | (rename_i e z; exact .str e z) | (rename_i e k r; exact .dK e k r) | (rename_i e k r; exact .dT e k r) | (rename_i e r; exact .st e r) | (rename_i e k z; exact .exc e k z)) r2 rv ru hc (fun l z=>by cases z) (fun l z=>by cases z)
end
section
variable {K:W.Frag}
open PySem.SeqAt
open Classical in
noncomputable def rEqD (K:W.Frag):R2:=fun x y H Q=>∃ p q,Rep K H x p/\Rep K H y q/\clash p q=false/\dep p<=30/\Q (.bl (decide (p=q))) H
theorem zaN (hu:X.A.units + 31 < cLine):OpR X (compareOp .Eq) (rEqD X.K):=by
 intro qZ s σ H x y v u Q I rx ry h
 obtain ⟨p,q,r1,r2,hc,hd,hq⟩:=h
 exact (zjF 30 hd I r1 r2 rx ry hc (by lia)).2 X.prog X.w X.xe _ ⟨.bl _,H,I,rfl,hq⟩
theorem zjk (h:cEq p q=some k):clash p q=false/\dep p<=30:=by
 grind [cEq]
open Classical in
theorem zgp (h:cEq p q=some k):k=decide (p=q):=by
 unfold cEq at h
 split at h
 ·cases h
 ·exact (qg h).symm
theorem zay:DoesC K (rEqD K) cEq:=by
 intro H x y p q k Q r1 r2 e hq
 obtain ⟨h1,h2⟩:=zjk e
 have:=zgp e
 subst this
 exact ⟨p,q,r1,r2,h1,h2,hq⟩
open Classical in
noncomputable def rNeD (K:W.Frag):R2:=fun x y H Q=>∃ p q,Rep K H x p/\Rep K H y q/\clash p q=false/\dep p<=30/\Q (.bl (!decide (p=q))) H
theorem ze9 (I:Inv X qZ σ H s) (q1:qX X.K H xs l) (q2:qX X.K H ys m) (w1:qW xs us) (w2:qW ys ws) (hc:clashs l m=false) (hd:deps l<=30) (hu:A.units + 30 < cLine):
  ∀ j (h1:j < us.toArray.size) (h2:j < ws.toArray.size),EqAt A s us.toArray[j] ws.toArray[j] (open Classical in decide (l[j]?=m[j]?)):=fun j h1 h2=>by
 obtain ⟨x,hx,rx⟩:=zaP w1 h1
 obtain ⟨y,hy,ry⟩:=zaP w2 h2
 have el1:us.toArray.size=l.length:=by rw [List.size_toArray,<- w1.length,q1.len]
 have el2:ws.toArray.size=m.length:=by rw [List.size_toArray,<- w2.length,q2.len]
 have hj1:j < l.length:=by lia
 have hj2:j < m.length:=by lia
 obtain ⟨x',hx',rp1⟩:=q1.get (i:=j) (d:=l[j]) (by simp [hj1])
 obtain ⟨y',hy',rp2⟩:=q2.get (i:=j) (d:=m[j]) (by simp [hj2])
 rw [hx] at hx'; cases hx'
 rw [hy] at hy'; cases hy'
 have:=(zjF 30 (A:=A) (Nat.le_trans (zdD (l:=l) (j:=j) (by simp [hj1])) hd) I rp1 rp2 rx ry (zbJ (j:=j) (a:=l[j]) (b:=m[j]) hc (by simp [hj1]) (by simp [hj2])) hu).1
 have e:(open Classical in decide (l[j]?=m[j]?))=(open Classical in decide (l[j]=m[j])):=by simp [hj1,hj2]
 rw [e]; exact this
theorem kindD (p:D):(∃ l,p=.tup l)\/(∃ l,p=.lst l)\/((∀ l,p≠.tup l)/\∀ l,p≠.lst l):=by
 cases p with
 | tup l=>exact .inl ⟨l,rfl⟩
 | lst l=>exact .inr (.inl ⟨l,rfl⟩)
 | _=>exact .inr (.inr ⟨fun l z=>D.noConfusion z,fun l z=>D.noConfusion z⟩)
theorem zkF (h:clash (.tup l) q=false):∃ m,q=.tup m:=by
 cases q with
 | tup m=>exact ⟨m,rfl⟩
 | _=>cases h
theorem zjU (h:clash (.lst l) q=false):∃ m,q=.lst m:=by
 cases q with
 | lst m=>exact ⟨m,rfl⟩
 | _=>cases h
theorem zkI (r1:Rep K H x p) (r2:Rep K H y q) (hc:clash p q=false) (h1:∀ l,p≠.tup l) (h2:∀ l,p≠.lst l):scal x y=true/\(p=q↔x=y):=by
 have s1:=zmS r1 hc h1 h2
 have s2:=zji r2 s1 hc
 clear r1 r2 h1 h2
 cases s1 with
 | str e1=>
   cases s2 with
   | str e2=>
     rename_i x l y m
     refine ⟨rfl,fun z=>?_,fun z=>?_⟩
     ·obtain ⟨⟨a⟩⟩:=x
      obtain ⟨⟨b⟩⟩:=y
      grind
     ·cases z
      rw [<- e1,<- e2]
   | _=>exact ⟨rfl,fun z=>D.noConfusion z,fun z=>V.noConfusion z⟩
 | _=>cases s2 <;> first | exact ⟨rfl,fun z=>D.noConfusion z,fun z=>V.noConfusion z⟩ | exact ⟨rfl,fun z=>by cases z; rfl,fun z=>by cases z; rfl⟩ | cases hc
theorem zbS (hu:X.A.units + 32 < cLine):OpR X (compareOp .NotEq) (rNeD X.K):=by
 classical
 intro qZ s σ H x y v u Q I rx ry h
 obtain ⟨p,q,r1,r2,hc,hd,hq⟩:=h
 have fin:EP X qZ σ Q (.bool (!decide (p=q))) s:=⟨.bl _,H,I,rfl,hq⟩
 have hin:X.A.in1.units + 30 < cLine:=by show X.A.units + 1 + 30 < cLine; lia
 rcases kindD p with ⟨l,rfl⟩ | ⟨l,rfl⟩ | ⟨n1,n2⟩
 ·obtain ⟨m,rfl⟩:=zkF hc
  cases r1 with
  | tup e1 q1=>
  cases r2 with
  | tup e2 q2=>
    rename_i a xs b ys
    cases rx
    cases ry
    obtain ⟨zc,w1,p1,_⟩:=I.tuple (SqT.of e1)
    obtain ⟨its2,w2,p2,_⟩:=I.tuple (SqT.of e2)
    have hdl:deps l<=30:=by have:deps l + 1<=30:=hd; lia
    have el1:zc.toArray.size=l.length:=by rw [List.size_toArray,<- w1.length,q1.len]
    have el2:its2.toArray.size=m.length:=by rw [List.size_toArray,<- w2.length,q2.len]
    have:=RcNeAt.tuples (A:=X.A) (s:=s) (show s.heap.IsTuple a zc.toArray from p1) (show s.heap.IsTuple b its2.toArray from p2) (by lia) (ze9 I q1 q2 w1 w2 hc hdl hin)
    rw [el1,el2,ze5 (l:=l) (m:=m) _ rfl] at this
    have e:decide (D.tup l=D.tup m)=decide (l=m):=by by_cases h:l=m <;> simp [h]
    rw [e] at fin
    exact this X.prog X.w X.xe _ fin
 ·obtain ⟨m,rfl⟩:=zjU hc
  cases r1 with
  | lst e1 q1=>
  cases r2 with
  | lst e2 q2=>
    rename_i a xs b ys
    cases rx
    cases ry
    obtain ⟨zc,w1,p1,_⟩:=I.list e1
    obtain ⟨its2,w2,p2,_⟩:=I.list e2
    have hdl:deps l<=30:=by have:deps l + 1<=30:=hd; lia
    have el1:zc.toArray.size=l.length:=by rw [List.size_toArray,<- w1.length,q1.len]
    have el2:its2.toArray.size=m.length:=by rw [List.size_toArray,<- w2.length,q2.len]
    have e:decide (D.lst l=D.lst m)=decide (l=m):=by by_cases h:l=m <;> simp [h]
    rw [e] at fin
    by_cases q9:l.length=m.length
    ·have:=RcNeAt.lists (A:=X.A) (s:=s) p1.isList p2.isList (by lia) (by lia) (ze9 I q1 q2 w1 w2 hc hdl hin)
     rw [el1] at this
     have e2:=ze5 (l:=l) (m:=m) l.length (by lia)
     have e3:(l.length == m.length)=true:=by simpa using q9
     rw [e3,Bool.and_true] at e2
     rw [<- e2] at fin
     exact this X.prog X.w X.xe _ fin
    ·have:=RcNeAt.lists_lengths (A:=X.A) (s:=s) p1.isList p2.isList (by simp only [el1,el2]; simpa using q9) (by lia)
     have e2:decide (l=m)=false:=qk fun z=>q9 (by rw [z])
     rw [e2] at fin
     exact this X.prog X.w X.xe _ fin
 ·obtain ⟨h1,h2⟩:=zkI r1 r2 hc n1 n2
  rw [decide_eq_decide.mpr h2] at hq
  exact zof qZ s σ H x y v u Q I rx ry ⟨h1,hq⟩
theorem zbi:DoesC K (rNeD K) cNe:=by
 intro H x y p q k Q r1 r2 e hq
 unfold cNe at e
 cases q1:cEq p q with
 | none=>rw [q1] at e; cases e
 | some b=>
   rw [q1] at e
   have e':(!b)=k:=qg e
   obtain ⟨h1,h2⟩:=zjk q1
   have:=zgp q1
   subst this
   subst e'
   exact ⟨p,q,r1,r2,h1,h2,hq⟩
noncomputable def rOrd (f:Int->Int->Bool) (g:List Nat->List Nat->Bool):R2:=fun x y H Q=>(∃ i j,x=.int i/\y=.int j/\Q (.bl (f i j)) H)\/∃ i j,x=.str i/\y=.str j/\Q (.bl (g i.cps.toList j.cps.toList)) H
theorem zdz {g:List Nat->List Nat->Bool} (rule:∀ (i j:Str) (t u:Tok) (s:Shared) (Q:qE) (E:qE),Q (.bool (g i.cps.toList j.cps.toList)) s->wpAny (model X.prog X.w) X.A (compareOp op (.str i t) (.str j u)) Q E s):
  OpR X (compareOp op) (fun x y H Q=>∃ i j,x=.str i/\y=.str j/\Q (.bl (g i.cps.toList j.cps.toList)) H):=by
 intro qZ s σ H x y v u Q I rx ry h
 obtain ⟨i,j,rfl,rfl,q⟩:=h
 obtain ⟨t,rfl⟩:=rx
 obtain ⟨t',rfl⟩:=ry
 exact rule i j t t' s _ _ ⟨.bl _,H,I,rfl,q⟩
theorem zlD:OpR X (compareOp .Lt) (rOrd (fun i j=>decide (i < j)) fun l m=>decide (l < m)):=FL.OpR.or znB (zdz (g:=fun l m=>decide (l < m)) fun _ _ _ _ _ _ _ q=>PyProof.Rows.lt_str q)
theorem zlc:OpR X (compareOp .LtE) (rOrd (fun i j=>decide (i<=j)) fun l m=>!decide (m < l)):=FL.OpR.or zn5 (zdz (g:=fun l m=>!decide (m < l)) fun _ _ _ _ _ _ _ q=>PySem.P.le_str q)
theorem zc1:OpR X (compareOp .Gt) (rOrd (fun i j=>decide (j < i)) fun l m=>decide (m < l)):=FL.OpR.or zpr (zdz (g:=fun l m=>decide (m < l)) fun _ _ _ _ _ _ _ q=>PySem.P.gt_str q)
theorem zjl:OpR X (compareOp .GtE) (rOrd (fun i j=>decide (j<=i)) fun l m=>!decide (l < m)):=FL.OpR.or zpf (zdz (g:=fun l m=>!decide (l < m)) fun _ _ _ _ _ _ _ q=>PySem.P.ge_str q)
theorem zb7 (h:∀ p q k,o p q=some k->(∃ i j,p=.int i/\q=.int j/\k=f i j)\/∃ l m,p=.str l/\q=.str m/\k=g l m):DoesC K (rOrd f g) o:=by
 intro H x y p q k Q r1 r2 e hq
 rcases h p q k e with ⟨i,j,rfl,rfl,rfl⟩ | ⟨l,m,rfl,rfl,rfl⟩
 ·cases r1
  cases r2
  exact .inl ⟨i,j,rfl,rfl,hq⟩
 ·cases r1 with
  | str e1 z1=>cases r2 with
    | str e2 z2=>
      subst e1 e2
      exact .inr ⟨_,_,rfl,rfl,hq⟩
theorem zjR:DoesC K (rOrd (fun i j=>decide (i < j)) fun l m=>decide (l < m)) cLt:=zb7 fun p q k e=>by
 unfold cLt ltD at e
 split at e
 ·exact .inl ⟨_,_,rfl,rfl,(qg e).symm⟩
 ·exact .inr ⟨_,_,rfl,rfl,(qg e).symm⟩
 ·cases e
theorem zbZ:DoesC K (rOrd (fun i j=>decide (j < i)) fun l m=>decide (m < l)) cGt:=zb7 fun p q k e=>by
 unfold cGt ltD at e
 split at e
 ·exact .inl ⟨_,_,rfl,rfl,(qg e).symm⟩
 ·exact .inr ⟨_,_,rfl,rfl,(qg e).symm⟩
 ·cases e
theorem zj6:DoesC K (rOrd (fun i j=>decide (i<=j)) fun l m=>!decide (m < l)) cLe:=zb7 fun p q k e=>by
 unfold cLe at e
 split at e
 ·exact .inl ⟨_,_,rfl,rfl,(qg e).symm⟩
 ·exact .inr ⟨_,_,rfl,rfl,(qg e).symm⟩
 ·cases e
theorem zha:DoesC K (rOrd (fun i j=>decide (j<=i)) fun l m=>!decide (l < m)) cGe:=zb7 fun p q k e=>by
 unfold cGe at e
 split at e
 ·exact .inl ⟨_,_,rfl,rfl,(qg e).symm⟩
 ·exact .inr ⟨_,_,rfl,rfl,(qg e).symm⟩
 ·cases e
end
section
open PySem.SeqAt
open Classical in
noncomputable def rInD (K:W.Frag) (neg:Bool):R2:=fun x y H Q=>∃ p l,Rep K H x p/\(Rep K H y (.lst l)\/Rep K H y (.tup l))/\(∀ d∈l,clash d p=false/\dep d<=30)/\Q (.bl (if neg then !decide (p∈l) else decide (p∈l))) H
theorem zcd (I:Inv X qZ σ H s) (rx:qO x v) (r1:Rep X.K H x p) (q1:qX X.K H xs l) (w1:qW xs us) (hc:∀ d∈l,clash d p=false/\dep d<=30) (hu:A.units + 30 < cLine):
  ∃ e:Value->Bool,(∀ y,y∈us.toArray->EqAt A s y v (e y))/\us.toArray.any e=(open Classical in decide (p∈l)):=by
 classical
 have item:∀ {y:Value},y∈us->∃ z d,qO z y/\Rep X.K H z d/\d∈l:=fun {y} hy=>by
  obtain ⟨j,hj,e⟩:=List.getElem_of_mem hy
  obtain ⟨z,hz,rz⟩:=zaP (j:=j) w1 (by simpa using hj)
  have hl:j < l.length:=by rw [<- q1.len,w1.length]; exact hj
  obtain ⟨z',hz',rp⟩:=q1.get (i:=j) (d:=l[j]) (by simp [hl])
  rw [hz] at hz'; cases hz'
  refine ⟨z,l[j],?_,rp,by simp⟩
  have:us.toArray[j]=y:=by simpa using e
  rw [<- this]; exact rz
 refine ⟨fun y=>decide (∃ z,qO z y/\Rep X.K H z p),fun y hy=>?_,?_⟩
 ·have hy':y∈us:=by simpa using hy
  obtain ⟨z,d,rz,rp,hd⟩:=item hy'
  have hcd:=hc d hd
  have:=(zjF 30 (A:=A) hcd.2 I rp r1 rz rx hcd.1 hu).1
  have e:decide (d=p)=decide (∃ z,qO z y/\Rep X.K H z p):=by
   by_cases h:d=p
   ·subst h
    rw [qj rfl,qj ⟨z,rz,rp⟩]
   ·rw [qk h]
    refine (qk ?_).symm
    rintro ⟨z',rz',rp'⟩
    have:z=z':=rz.inj rz'
    subst this
    exact h (Rep.uniq I rp rp' hcd.1)
  show EqAt A s y v (decide (∃ z,qO z y/\Rep X.K H z p))
  rw [<- e]; exact this
 ·by_cases h:p∈l
  ·rw [qj h]
   obtain ⟨j,hj,e⟩:=List.getElem_of_mem h
   obtain ⟨z,hz,rp⟩:=q1.get (i:=j) (d:=l[j]) (by simp [hj])
   obtain ⟨u,hu',ru⟩:=w1.get hz
   rw [Array.any_eq_true']
   exact ⟨u,by simpa using List.mem_of_getElem? hu',qj ⟨z,ru,e ▸ rp⟩⟩
  ·rw [qk h]
   rw [Array.any_eq_false']
   intro y hy z
   obtain ⟨z',rz',rp'⟩:=qo z
   obtain ⟨z2,d,rz,rp,hd⟩:=item (y:=y) (by simpa using hy)
   have:z2=z':=rz.inj rz'
   subst this
   exact h (Rep.uniq I rp rp' (hc d hd).1 ▸ hd)
theorem zmD (hu:X.A.units + 32 < cLine):OpR X (compareOp .In) (rInD X.K false):=by
 intro qZ s σ H x y v u Q I rx ry h
 obtain ⟨p,l,r1,r2,hc,hq⟩:=h
 have hin:X.A.in1.units + 30 < cLine:=by show X.A.units + 1 + 30 < cLine; lia
 rcases r2 with r2 | r2
 ·cases r2 with
  | lst e q=>
    cases ry
    obtain ⟨zc,w1,p1,_⟩:=I.list e
    obtain ⟨f,hf,ha⟩:=zcd (A:=X.A.in1) I rx r1 q w1 hc hin
    exact in_listAt f p1.isList hf ⟨.bl _,H,I,rfl,by rw [ha]; exact hq⟩
 ·cases r2 with
  | tup e q=>
    cases ry
    obtain ⟨zc,w1,p1,_⟩:=I.tuple (SqT.of e)
    obtain ⟨f,hf,ha⟩:=zcd (A:=X.A.in1) I rx r1 q w1 hc hin
    exact in_tupleAt f (show s.heap.IsTuple _ zc.toArray from p1) hf ⟨.bl _,H,I,rfl,by rw [ha]; exact hq⟩
theorem zhh (hu:X.A.units + 32 < cLine):OpR X (compareOp .NotIn) (rInD X.K true):=by
 intro qZ s σ H x y v u Q I rx ry h
 obtain ⟨p,l,r1,r2,hc,hq⟩:=h
 have hin:X.A.in1.units + 30 < cLine:=by show X.A.units + 1 + 30 < cLine; lia
 rcases r2 with r2 | r2
 ·cases r2 with
  | lst e q=>
    cases ry
    obtain ⟨zc,w1,p1,_⟩:=I.list e
    obtain ⟨f,hf,ha⟩:=zcd (A:=X.A.in1) I rx r1 q w1 hc hin
    exact notIn_listAt f p1.isList hf ⟨.bl _,H,I,rfl,by rw [ha]; exact hq⟩
 ·cases r2 with
  | tup e q=>
    cases ry
    obtain ⟨zc,w1,p1,_⟩:=I.tuple (SqT.of e)
    obtain ⟨f,hf,ha⟩:=zcd (A:=X.A.in1) I rx r1 q w1 hc hin
    exact notIn_tupleAt f (show s.heap.IsTuple _ zc.toArray from p1) hf ⟨.bl _,H,I,rfl,by rw [ha]; exact hq⟩
end
section
variable {K:W.Frag}
theorem zhy (hl:xs.length=l.length) (h:atI l i=some d):∃ j,ixN l.length i=some j/\l[j]?=some d/\∀ x,xs[j]?=some x->L2.atI xs i=some x:=by
 unfold atI at h
 cases q:ixN l.length i with
 | none=>rw [q] at h; cases h
 | some j=>
   rw [q] at h
   refine ⟨j,rfl,h,fun x hx=>?_⟩
   have e:L2.ixN xs.length i=some j:=by rw [hl]; exact q
   unfold L2.atI
   rw [e]; exact hx
theorem qX.atI (r:qX K F xs l) (h:FL.atI l i=some d):∃ x,L2.atI xs i=some x/\Rep K F x d:=by
 obtain ⟨j,_,h1,h2⟩:=zhy (xs:=xs) r.len h
 obtain ⟨x,hx,rx⟩:=r.get h1
 exact ⟨x,h2 x hx,rx⟩
theorem qN.get {j:Nat} (r:qN K F H xs l fp) (h:l[j]?=some t):∃ x fa fi fb,xs[j]?=some x/\SRep K F H x t fi/\fp=fa++(fi++fb):=
 qN.ind (P:=fun xs l fp=>∀ j t,l[j]?=some t->∃ x fa fi fb,xs[j]?=some x/\SRep K F H x t fi/\fp=fa++(fi++fb)) (fun _ _ e=>by cases e) (fun a _ ih j t e=>by
  cases j with
  | zero=>cases e; exact ⟨_,[],_,_,rfl,a,rfl⟩
  | succ j=>
    obtain ⟨x,fa,fi,fb,h1,h2,rfl⟩:=ih j t e
    exact ⟨x,_++fa,fi,fb,h1,h2,(List.append_assoc ..).symm⟩) r j t h
theorem Rel.item {j:Nat} (r:Rel K (U++[some (.lst l)]) (σ++[some (.ref a)]) F G H) (h:l[j]?=some t):∃ xs x,H a=some (.lst xs)/\xs.length=l.length/\xs[j]?=some x/\Rel K (U++[some t]) (σ++[some x]) F G H:=by
 obtain ⟨fp,e,nd,ap⟩:=r.en
 obtain ⟨f1,f2,rfl,en,b⟩:=e.cut (len1 r)
 cases b with
 | so sr nl=>
   cases nl
   cases sr with
   | lst hD rl=>
     rename_i xs fl
     obtain ⟨x,fa,fi,fb,h1,h2,rfl⟩:=rl.get h
     refine ⟨xs,x,hD,rl.len,h1,r.fr,r.gr,f1++(fi++[]),en.app (.so h2 .nil),?_,fun y hy=>ap y ?_⟩
     ·have sub:List.Sublist (f1++(fi++[])) (f1++(a::(fa++(fi++fb))++[])):=by
       refine List.Sublist.append (List.Sublist.refl _) ?_
       simp only [List.append_nil]
       exact (List.Sublist.cons _ ((List.sublist_append_left fi fb).trans (List.sublist_append_right fa _)))
      exact sub.nodup nd
     ·rcases List.mem_append.mp hy with z | z
      ·exact List.mem_append_left _ z
      ·refine List.mem_append_right _ ?_
       simp only [List.append_nil] at z ⊢
       exact List.mem_cons_of_mem _ (List.mem_append_right _ (List.mem_append_left _ z))
end
theorem zjG {K:W.Frag} (e:SqT K H c xs) (r:qX K F xs l) (h:atI l i=some d) (hq:∀ x,Rep K F x d->Q x H):rIx K (.ref c) (.int i) H Q:=by
 obtain ⟨x,hx,rx⟩:=r.atI h
 exact .inr (.inl ⟨c,xs,i,x,rfl,rfl,e,hx,hq x rx⟩)
theorem zjK {K:W.Frag} (e:SqL K H c xs) (r:qX K F xs l) (h:atI l i=some d) (hq:∀ x,Rep K F x d->Q x H):rIx K (.ref c) (.int i) H Q:=by
 obtain ⟨x,hx,rx⟩:=r.atI h
 exact .inl ⟨c,xs,i,x,rfl,rfl,e,hx,hq x rx⟩
theorem zjP (h:ixS s q=some t):(∃ l i d,s=.sh (.tup l)/\q=.int i/\atI l i=some d/\t=.sh d)\/(∃ l i d,s=.sh (.lst l)/\q=.int i/\atI l i=some d/\t=.sh d)\/
  (∃ l i c,s=.sh (.str l)/\q=.int i/\atI l i=some c/\t=.sh (.str [c]))\/∃ l i,s=.lst l/\q=.int i/\atI l i=some t:=by
 refine cps fun _ kk=>?_
 rcases s with d | l | _ | _
 ·rcases d with _ | _ | _ | l | l | l | _ | _ | _
  case str | tup | lst=>
   rcases q with _ | _ | i | _ | _ | _ | _ | _ | _
   case int=>
    obtain ⟨d,e,e'⟩:=Option.map_eq_some_iff.mp h
    first | exact kk (.inl ⟨_,_,d,rfl,rfl,e,e'.symm⟩) | exact kk (.inr (.inl ⟨_,_,d,rfl,rfl,e,e'.symm⟩)) | exact kk (.inr (.inr (.inl ⟨_,_,d,rfl,rfl,e,e'.symm⟩)))
   all_goals cases h
  all_goals cases h
 ·rcases q with _ | _ | i | _ | _ | _ | _ | _ | _
  case int=>exact kk (.inr (.inr (.inr ⟨_,_,rfl,rfl,h⟩)))
  all_goals cases h
 all_goals cases h
theorem zeD {K:W.Frag} (h:SRep K F H v (.sh d) fp):Rep K F v d:=by cases h; assumption
theorem zfk {K:W.Frag} (h:SRep K F H v (.lst l) fp):∃ a xs fq,v=.ref a/\H a=some (.lst xs)/\qN K F H xs l fq:=by
 cases h with
 | lst h1 h2=>exact ⟨_,_,_,rfl,h1,h2⟩
theorem zjo {K:W.Frag} (fr:qK F H) (r:Rep K F v d) (ru:Rep K F2 u q) (et:ixS (.sh d) q=some t) (done:∀ e x,t=.sh e->Rep K F x e->Q x H):rIx K v u H Q:=by
 rcases zjP et with ⟨l,i,e,e1,rfl,ed,rfl⟩ | ⟨l,i,e,e1,rfl,ed,rfl⟩ | ⟨l,i,c,e1,rfl,ec,rfl⟩ | ⟨l,i,e1,_⟩
 ·injection e1 with e1
  subst e1
  obtain rfl:=RepE.int (H:=H) (.inl ru)
  obtain ⟨a,xs,rfl,h1,r1⟩:=RepE.tup (H:=H) (.inl r)
  exact zjG (SqT.of (fr _ _ h1)) r1 ed fun x rx=>done _ x rfl rx
 ·injection e1 with e1
  subst e1
  obtain rfl:=RepE.int (H:=H) (.inl ru)
  obtain ⟨a,xs,rfl,h1,r1⟩:=RepE.lst (H:=H) fr (.inl r)
  exact zjK h1 r1 ed fun x rx=>done _ x rfl rx
 ·injection e1 with e1
  subst e1
  obtain rfl:=RepE.int (H:=H) (.inl ru)
  obtain ⟨x,rfl,h1,z⟩:=RepE.str (H:=H) (.inl r)
  exact .inr (.inr ⟨_,i,c,rfl,rfl,by rw [zbY h1,qz]; exact z,by rw [h1]; exact ec,done _ _ rfl (.str rfl (by show 1<=_; decide))⟩)
 ·cases e1
theorem zgW (h:ixS (.lst l) q=some t):∃ i,q=.int i/\atI l i=some t:=by
 cases q with
 | int i=>exact ⟨i,rfl,h⟩
 | _=>cases h
theorem zaz (ha:FE X a wa) (hb:FE X b wb) (hs:PlainIx b:=by intro _ _; rfl):FE X (.Subscript a b pos) (wIx wa wb):=fun pn xe hp=>by
 refine PE.imp (zkR (zjn (X:=wp X pn xe)) (ha pn xe hp) (hb pn xe hp) hs) fun σ H Q q=>?_
 refine (two (k:=fun x y U2 Q E=>qJ (view y U2) fun q=>match x with
  | .v s=>qJ (ixS s q) fun t=>Q (.v t) U2
  | .loc i=>match slot U2 i with
    | some s=>match ixS s q with
      | some (.sh d)=>Q (.v (.sh d)) U2
      | _=>False
    | none=>False) q).mono fun v H1 h1=>h1.mono fun u H2 h2=>?_
 obtain ⟨F,G,U,x,y,P,PX,q8,hl,rx,ry,hk,hok,hx⟩:=h2
 obtain ⟨q,eq,hk⟩:=zae hk
 have relx:Rel X.K (U++[qL x]) (σ++[some v]) F G H2:=by
  have:=Rel.swap (U1:=[qL x]) (σ1:=[some v]) (U2:=[qL y]) (σ2:=[some u]) hl rfl q8
  exact Rel.mid (U:=U) (σ:=σ) this hl
 have rely:Rel X.K (U++[qL y]) (σ++[some u]) F G H2:=q8.mid hl
 have ru:=look (U':=[]) (σ':=[]) rely hl ry eq
 have done:∀ {d:D} {x:V},P (.v (.sh d)) U->Rep X.K F x d->Q x H2:=fun hP r=>hok _ U _ F H2 hP (qK.refl F) ((relx.drop hl).push r) trivial
 cases x with
 | v s=>
   obtain ⟨t,et,hP⟩:=zae hk
   obtain ⟨w,fp,e1,sr⟩:=relx.at (i:=U.length) (s:=s) zaK
   rw [hl,List.getElem?_append_right (Nat.le_refl _),Nat.sub_self] at e1
   have e2:v=w:=by simpa using e1
   subst e2
   cases s with
   | sh d=>exact zjo relx.fr (zeD sr) ru et fun e x z rx=>done (by rw [<- z]; exact hP) rx
   | lst l=>
     obtain ⟨i,rfl,et⟩:=zgW et
     obtain rfl:=RepE.int (H:=H2) (.inl ru)
     obtain ⟨a,ys,fq,rfl,hD,rl⟩:=zfk sr
     obtain ⟨j,_,hj,hat⟩:=zhy rl.len et
     obtain ⟨xs,x,hD',q9,hxj,r2⟩:=Rel.item relx hj
     rw [hD] at hD'
     cases hD'
     exact .inl ⟨_,_,i,x,rfl,rfl,SqL.of hD,hat x hxj,hok _ U _ F H2 hP (qK.refl F) r2 trivial⟩
   | _=>cases q <;> cases et
 | loc k=>
   dsimp only at hk
   cases qs:slot U k with
   | none=>rw [qs] at hk; exact hk.elim
   | some s=>
     rw [qs] at hk
     dsimp only at hk
     split at hk
     ·rename_i d et
      obtain ⟨w,fp,e1,sr⟩:=(relx.drop hl).at qs
      have rx':σ[k]?=some (some v):=rx
      rw [rx'] at e1
      have e2:v=w:=by simpa using e1
      subst e2
      cases s with
      | sh d'=>exact zjo relx.fr (zeD sr) ru et fun e x z rx=>done (by injection z with z; rw [<- z]; exact hk) rx
      | lst l=>
        obtain ⟨i,rfl,et⟩:=zgW et
        obtain rfl:=RepE.int (H:=H2) (.inl ru)
        obtain ⟨a,ys,fq,rfl,hD,rl⟩:=zfk sr
        obtain ⟨j,_,hj,hat⟩:=zhy rl.len et
        obtain ⟨x,fa,fi,fb,hxj,sx,_⟩:=rl.get hj
        exact .inl ⟨_,_,i,x,rfl,rfl,SqL.of hD,hat x hxj,done hk (zeD sx)⟩
      | _=>cases q <;> cases et
     ·exact hk.elim
section
variable {K:W.Frag} {σ:St}
theorem qN.set:∀ {xs:List V} {l:List S} {fp:List Addr} {m:Nat},qN K F H xs l fp->m < l.length->∃ fa fi fb,fp=fa++(fi++fb)/\
  ∀ {H':Hp} {v:V} {s:S} {fq:List Addr},(∀ a∈fa++fb,H' a=H a)->SRep K F H' v s fq->qN K F H' (xs.set m v) (l.set m s) (fa++(fq++fb))
 | _,_,_,_,.nil,h=>by simp at h
 | _,_,_,0,.cons (fp:=fp) (fq:=fq) a b,h=>⟨[],fp,fq,rfl,fun hk r=>by rw [List.nil_append]; exact .cons r (b.mono (qK.refl F) fun c hc=>hk c hc)⟩
 | _,_,_,m + 1,.cons (fp:=fp) (fq:=fq) a b,h=>by
   obtain ⟨fa,fi,fb,rfl,up⟩:=qN.set (m:=m) b (by simpa using h)
   refine ⟨fp++fa,fi,fb,(List.append_assoc ..).symm,fun hk r=>?_⟩
   rw [List.append_assoc]
   exact .cons (a.mono (qK.refl F) fun c hc=>hk c (List.mem_append_left _ (List.mem_append_left _ hc))) (up (fun c hc=>hk c ((List.mem_append.mp hc).elim (fun z=>List.mem_append_left _ (List.mem_append_right _ z)) fun z=>List.mem_append_right _ z)) r)
theorem ze6 (h:σ[n]?=some (some v)):σ.set n (some v)=σ:=by
 apply List.ext_getElem?
 intro j
 by_cases hj:n=j
 ·subst hj
  rw [List.getElem?_set_self (qh.mp h).1,h]
 ·rw [List.getElem?_set_ne hj]
theorem Rel.setItem {D:Addr} (r:Rel K (U++[some s]) (σ++[some v]) F G H) (hs:slot U n=some (.lst l)) (hσ:σ[n]?=some (some (.ref D))) (hm:m < l.length):
  ∃ xs,H D=some (.lst xs)/\xs.length=l.length/\Rel K (U.set n (some (.lst (l.set m s)))) σ F G (upd H D (.lst (xs.set m v))):=by
 have hl:=len1 r
 obtain ⟨fp,e,nd,ap⟩:=r.en
 obtain ⟨f1,f2,rfl,a,b⟩:=e.cut hl
 obtain ⟨v',fa,fi,fb,e1,rfl,q,up⟩:=a.at hs
 rw [hσ] at e1
 have e2:V.ref D=v':=by simpa using e1
 subst e2
 cases q with
 | lst hD rl=>
   rename_i xs fl
   cases b with
   | so sr nl=>
     cases nl
     rename_i fs
     obtain ⟨ga,gi,gb,rfl,sup⟩:=rl.set hm
     refine ⟨xs,hD,rl.len,?_⟩
     obtain ⟨n1,n2,n12⟩:=List.nodup_append.mp nd
     obtain ⟨na,nib,nab⟩:=List.nodup_append.mp n1
     obtain ⟨ni,nb,nib⟩:=List.nodup_append.mp nib
     obtain ⟨nD,nfl⟩:=List.nodup_cons.mp ni
     have hDa:D∉fa:=fun z=>nab D z D (List.mem_append_left _ List.mem_cons_self) rfl
     have hDb:D∉fb:=fun z=>nib D List.mem_cons_self D z rfl
     have hDs:D∉fs:=fun z=>n12 D (List.mem_append_right _ (List.mem_append_left _ List.mem_cons_self)) D (by simpa using z) rfl
     have apD:=ap D (List.mem_append_left _ (List.mem_append_right _ (List.mem_append_left _ List.mem_cons_self)))
     have ne:∀ {l:List Addr},D∉l->∀ x∈l,upd H D (.lst (xs.set m v)) x=H x:=fun h x hx=>zag fun z=>h (z ▸ hx)
     have hDg:D∉ga++gb:=fun z=>nD ((List.mem_append.mp z).elim (fun w=>List.mem_append_left _ w) fun w=>List.mem_append_right _ (List.mem_append_right _ w))
     have new:SRep K F (upd H D (.lst (xs.set m v))) (.ref D) (.lst (l.set m s)) (D::(ga++(fs++gb))):=.lst zam (sup (ne hDg) (sr.mono (qK.refl F) (ne hDs)))
     have a2:=up (F':=F) (H':=upd H D (.lst (xs.set m v))) (o:=some (.lst (l.set m s))) (u:=some (.ref D)) (qK.refl F) (fun x hx=>zag fun z=>(List.mem_append.mp hx).elim (fun w=>hDa (z ▸ w)) fun w=>hDb (z ▸ w)) (.so new .nil)
     rw [ze6 hσ] at a2
     have sub:∃ l2,l2.Perm (fa++((D::(ga++(gi++gb)))++fb)++(fs++[]))/\List.Sublist (fa++((D::(ga++(fs++gb)))++[]++fb)) l2:=by
      refine ⟨fa++((D::(ga++(fs++(gi++gb))))++[]++fb),?_,?_⟩
      ·simp only [List.append_nil,List.append_assoc,List.cons_append]
       refine List.Perm.append_left _ (List.Perm.cons _ (List.Perm.append_left _ ?_))
       exact List.perm_append_comm.trans (by simp)
      first | rfl | assumption | (simp_all; done)
     obtain ⟨l2,p,sb⟩:=sub
     refine ⟨qK.updR r.fr apD.1,fun x o w=>?_,_,a2,sb.nodup (p.nodup_iff.mpr nd),fun x hx=>ap x (p.mem_iff.mp (sb.subset hx))⟩
     have hx:x≠D:=fun z=>by rw [z,apD.2] at w; cases w
     rw [zag hx]
     exact r.gr x o w
end
theorem zdj (ho:FE X o (qF j)) (hi:FE X i wi) (he:FE X e we) (hs:swapsWithSole [.Subscript o i tpos] e pos.line X.env=pure false:=by rfl) (hw:swappedStores [.Subscript o i tpos] e X.env=pure none:=by rfl)
  (h1:(assignEach [.Subscript o i tpos] X.env).map (·.2)=[assign (.Subscript o i tpos) X.env]:=by rfl)
  (ha:∀ v,assign (.Subscript o i tpos) X.env v=(do
   let ov <- holding [v] (eval o X.env)
   let iv <- holding [v,ov] (eval i X.env)
   standAt tpos
   holding [v,ov,iv] (setItem ov iv v)
   release [v,ov,iv] []):=by intro _; rfl):FS X ks (.Assign [.Subscript o i tpos] e pos) (wSetIx j wi we):=fun pn xe hp=>by
 refine PS.imp (zju (X:=wp X pn xe) (he pn xe hp) (zmZ (X:=wp X pn xe) (ho pn xe hp) (hi pn xe hp) zh3 ha) hs hw h1) fun D σ H q=>?_
 obtain ⟨F,G,U,E,q8,hw,n,b,c,r,x⟩:=q
 have x0:XC (wp X pn xe) (·=σ) F G E.ex:=x.mono (fun σ2 z=>by rw [z]; exact KP.refl) (qK.refl F) (qK.refl G)
 refine ⟨F,G,U,_,_,q8,hw,fun r U1 v F1 H1 hk s1 r1 rv=>?_,x0⟩
 have l1:=len1 r1
 obtain ⟨G1,rel1,gg,back⟩:=r1.hide l1
 refine ⟨F1,G1,U1,_,_,rel1,hk,fun y U2 o' F2 H2 hk2 s2 r2 rv2=>?_,x0.mono (fun _ z=>z) s1 gg⟩
 have l2:=len1 r2
 obtain ⟨G2,rel2,gg2,back2⟩:=r2.hide l2
 refine ⟨F2,G2,U2,_,_,rel2,hk2,fun z U3 i' F3 H3 hk3 s3 r3 rv3=>?_,x0.mono (fun _ z=>z) (s1.trans s2) (gg.trans gg2)⟩
 have l3:=len1 r3
 obtain ⟨q,eq,hk3⟩:=zae hk3
 obtain ⟨⟨t,U4⟩,eg,hk4⟩:=zae hk3
 -- all three stand at the end
 have r4:=back (s2.trans s3) (back2 s3 r3)
 simp only [List.append_assoc,List.cons_append,List.nil_append] at r4
 have ri:=look (U':=[qL y,qL r]) (σ':=[some o',some v]) r4 l3 rv3 eq
 have r5:Rel X.K (U3++[qL r]) (σ++[some v]) F3 G H3:=Rel.mid (U:=U3) (σ:=σ) (Rel.mid (U:=U3) (σ:=σ) r4 l3) l3
 obtain ⟨F4,s4,l4,r6⟩:=giveR (U':=[]) (σ':=[]) r5 l3 rv eg
 cases y with
 | v y0=>exact hk4.elim
 | loc k=>
   cases q with
   | int m=>
     cases qs:slot U4 j with
     | none=>simp only [qs] at hk4
     | some sj=>
       cases sj with
       | lst l=>
         simp only [qs] at hk4
         obtain ⟨rfl,hk4⟩:=hk4
         obtain ⟨w,ew,hnx⟩:=zae hk4
         have hσ:σ[k]?=some (some o'):=rv2
         obtain ⟨v',fp,e1,sr⟩:=r6.at (i:=k) (s:=.lst l) (by rw [zcb (zcz qs)]; exact qs)
         have hkl:k < σ.length:=(qh.mp hσ).1
         rw [List.getElem?_append_left hkl,hσ] at e1
         have e2:o'=v':=by simpa using e1
         subst e2
         have hw:w < l.length:=by
          unfold ixN at ew
          split at ew
          ·split at ew
           ·have e:=qg ew
            lia
           ·cases ew
          ·split at ew
           ·have e:=qg ew
            lia
           ·cases ew
         cases sr with
         | lst hD rl=>
           rename_i a xs fl
           obtain ⟨xs',hD',q9,r7⟩:=Rel.setItem r6 qs hσ hw
           rw [hD] at hD'
           cases hD'
           cases ri
           exact ⟨a,xs,m,w,rfl,rfl,hD,by rw [q9]; exact ew,n _ σ F4 _ hnx KP.refl (s1.trans (s2.trans (s3.trans s4))) r7⟩
       | _=>simp only [qs] at hk4
   | _=>exact hk4.elim
theorem zaW (ho:FE X o (qF j)) (he:FE X e we)
  (hbase:attributeBase o "append" X.env (eval o X.env)=eval o X.env:=by rfl)
  (hfew:((backTo cpos (starEach [e] X.env)).all (fun x=>!x.1) && (backToKw cpos (keywordEach [] X.env)).all (fun x=>x.1.isSome)
   && decide ([e].length + ([]:List Keyword).length + (if ([]:List Keyword).isEmpty then 0 else 1) < 30))=true:=by rfl)
  (hline:(apos.endLine == cpos.line)=true:=by rfl) (hs:starEach [e] X.env=[(false,eval e X.env)]:=by rfl):FE X (.Call (.Attribute o "append" apos) [e] [] cpos) (wAppend j we):=fun pn xe hp=>by
 refine PE.imp (zh8 (X:=wp X pn xe) PySem.F.plainAttrs_list PySem.F.slot_list_append PySem.F.type_list_append zcK (ho pn xe hp) (zaa he zab hs pn xe hp) hbase hfew hline hs rfl) fun σ H Q q=>?_
 obtain ⟨F,G,U,P,PX,q8,hw,hok,hx⟩:=q
 have hw':(match slot U j with
  | some (.lst _)=>we U (fun r U2=>qJ (give r U2) fun p=>(match slot p.2 j with
    | some (.lst l)=>l.length < big/\P (.v (.sh .non)) (p.2.set j (some (.lst (l++[p.1]))))
    | _=>False)) PX
  | _=>False):=hw
 cases qs:slot U j with
 | none=>rw [qs] at hw'; exact hw'.elim
 | some s0=>
   cases s0 with
   | lst l0=>
     rw [qs] at hw'
     refine ⟨F,G,U,fun y U1=>y=.loc j/\U1=U,PX,q8,by unfold qF; rw [qs]; exact ⟨rfl,rfl⟩,fun y U1 o' F1 H1 hk s1 r1 rv=>?_,hx⟩
     obtain ⟨rfl,rfl⟩:=hk
     have l1:=len1 r1
     have hσ:σ[j]?=some (some o'):=rv
     have r2:=r1.drop l1
     obtain ⟨v',fp,e1,sr⟩:=r2.at qs
     rw [hσ] at e1
     have e2:o'=v':=by simpa using e1
     subst e2
     cases sr with
     | lst hD rl=>
       rename_i a xs fl
       refine ⟨.inl ⟨rfl,_,SqL.of hD⟩,F1,G,U1,fun rs U2=>match rs with | [r]=>(qJ (give r U2) fun p=>match slot p.2 j with | some (.lst l)=>l.length < big/\P (.v (.sh .non)) (p.2.set j (some (.lst (l++[p.1])))) | _=>False) | _=>False,PX,r2,hw',fun rs U2 vs F2 H2 hk s2 r3 hl rvs=>?_,hx.grow s1⟩
       match rs,vs,rvs,r3,hk with
       | [r],[v],rvs,r3,hk=>
         dsimp only at hk
         obtain ⟨⟨t,U3⟩,eg,hk⟩:=zae hk
         obtain ⟨F3,s3,l3,r4⟩:=giveR (U':=[]) (σ':=[]) r3 hl rvs.1 eg
         dsimp only at hk
         split at hk
         ·rename_i l ql
          obtain ⟨ys,hD2,q9,r5⟩:=Rel.append r4 ql hσ
          exact ⟨a,ys,v,rfl,rfl,hD2,by rw [q9,qz]; exact Nat.lt_trans hk.1 (by decide),hok _ _ .non F3 _ hk.2 (s1.trans (s2.trans s3)) (r5.push .non) trivial⟩
         ·exact hk.elim
       | [],_,_,_,hk=>exact hk.elim
       | [_],[],rvs,_,_=>exact rvs.elim
       | [_],_::_::_,rvs,_,_=>exact rvs.2.elim
       | _::_::_,_,_,_,hk=>exact hk.elim
   | _=>rw [qs] at hw'; exact hw'.elim
section
variable {K:W.Frag}
noncomputable def RepEs (K:W.Frag) (F H:Hp):List V->List D->Prop
 | [],[]=>True
 | v::vs,d::ds=>RepE K F H v d/\RepEs K F H vs ds
 | _,_=>False
theorem arg1 {b:List D->Option S} (h2:∀ x y r,b (x::y::r)=none) (h0:b []=none) (re:RepEs K F H vs ds) (e:b ds=some s):∃ d v,ds=[d]/\vs=[v]:=by
 cases ds with
 | nil=>rw [h0] at e; cases e
 | cons x ds=>
   cases ds with
   | cons y r=>rw [h2] at e; cases e
   | nil=>
     cases vs with
     | nil=>exact re.elim
     | cons v vs=>
       cases vs with
       | nil=>exact ⟨x,v,rfl,rfl⟩
       | cons u vs=>exact re.2.elim
theorem arg2 {b:List D->Option S} (h1:∀ x,b [x]=none) (h3:∀ x y z r,b (x::y::z::r)=none) (h0:b []=none) (re:RepEs K F H vs ds) (e:b ds=some s):∃ d d2 v u,ds=[d,d2]/\vs=[v,u]:=by
 cases ds with
 | nil=>rw [h0] at e; cases e
 | cons x ds=>
   cases ds with
   | nil=>rw [h1] at e; cases e
   | cons y ds=>
     cases ds with
     | cons z r=>rw [h3] at e; cases e
     | nil=>
       cases vs with
       | nil=>exact re.elim
       | cons v vs=>
         cases vs with
         | nil=>exact re.2.elim
         | cons u vs=>
           cases vs with
           | nil=>exact ⟨x,y,v,u,rfl,rfl⟩
           | cons u vs=>exact re.2.2.elim
theorem takeAll:∀ {rs:List R} {vs:List V} {ds:List D} {U U':Env} {F:Hp} {σ':St},Rel K (U++(rs.map qL++U')) (σ++(vs.map some++σ')) F G H->U.length=σ.length->RVs σ vs rs->(rs.mapM fun r=>qV r U)=some ds->
  ∃ F',qK F F'/\RepEs K F' H vs ds/\Rel K (U++U') (σ++σ') F' G H
 | [],[],ds,U,U',F,σ',r,h,_,e=>by
   have e':ds=[]:=by simpa using e.symm
   subst e'
   exact ⟨F,qK.refl F,trivial,r⟩
 | [],_::_,_,_,_,_,_,_,_,h,_=>h.elim
 | _::_,[],_,_,_,_,_,_,_,h,_=>h.elim
 | x::rs,v::vs,ds,U,U',F,σ',r,h,rv,e=>by
   rw [List.mapM_cons] at e
   cases q:qV x U with
   | none=>rw [q] at e; cases e
   | some d=>
     rw [q] at e
     cases q2:(rs.mapM fun r=>qV r U) with
     | none=>rw [q2] at e; cases e
     | some es=>
       rw [q2] at e
       have e':d::es=ds:=qg e
       subst e'
       obtain ⟨F1,s1,re,r1⟩:=takeC (U':=rs.map qL++U') (σ':=vs.map some++σ') r h rv.1 q
       obtain ⟨F2,s2,res,r2⟩:=takeAll (rs:=rs) (vs:=vs) r1 h rv.2 q2
       exact ⟨F2,s1.trans s2,⟨re.mono s2,res⟩,r2⟩
noncomputable def DoesB (K:W.Frag) (r:List V->Hp->VK->Prop) (f:List D->Option S):Prop:=∀ (σ:St) (U:Env) (F G H:Hp) (vs:List V) (ds:List D) (s:S) (Q:VK),Rel K U σ F G H->RepEs K F H vs ds->f ds=some s->
 (∀ v F' H',qK F F'->Rel K (U++[some s]) (σ++[some v]) F' G H'->Q v H')->r vs H Q
end
section
variable {id T:String}
theorem zft (hd:DoesB X.K r f) (σ:St) (H:Hp) (Q:VK) (q:tW (wp X pn xe) (wB f wa) σ H Q):tCB r (tWA (wp X pn xe) wa) σ H Q:=by
 refine (many (k:=fun rs U1 Q E=>qJ (rs.mapM fun r=>qV r U1) fun ds=>qJ (f ds) fun s=>Q (.v s) U1) q).mono fun vs H1 h1=>?_
 obtain ⟨F,G,U,rs,P,PX,q8,hl,rv,hk,hok,hx⟩:=h1
 obtain ⟨ds,ed,hk⟩:=zae hk
 obtain ⟨s,es,hk⟩:=zae hk
 obtain ⟨F1,s1,re,r1⟩:=takeAll (U':=[]) (σ':=[]) (by simpa using q8) hl rv ed
 exact hd σ U F1 G H1 vs ds s Q (by simpa using r1) re es fun v F' H' sm r'=>hok _ U v F' H' hk (s1.trans sm) r' trivial
theorem zbN (hc:∀ pn xe,CallR (wp X pn xe) (.builtin id) r) (hd:DoesB X.K r f) (hg:Gl X x) (hm:X.mg x=none) (hv:bootBuiltins x=some (.builtin id)) (ha:FA X (e::es) wa) (hn:x≠"__name__":=by decide) (hdb:(x == ("__debug__":Str))=false:=by decide)
  (he:starEach (e::es) X.env=(false,eval e X.env)::starEach es X.env:=by rfl) (hpl:(backTo pos (starEach es X.env)).any (·.1)=false:=by rfl):FE X (.Call (.Name x p) (e::es) [] pos) (wB f wa):=fun pn xe hp=>
 PE.imp (zdF (X:=wp X pn xe) (hc pn xe) hg hm hv (ha pn xe hp) hn hdb he hpl) (zft hd)
theorem zcB (hc:∀ pn xe,CallR (wp X pn xe) (.type T) r) (hd:DoesB X.K r f) (hg:Gl X x) (hm:X.mg x=none) (hv:bootBuiltins x=some (.type T)) (ha:FA X (e::es) wa) (hn:x≠"__name__":=by decide) (hdb:(x == ("__debug__":Str))=false:=by decide)
  (he:starEach (e::es) X.env=(false,eval e X.env)::starEach es X.env:=by rfl) (hpl:(backTo pos (starEach es X.env)).any (·.1)=false:=by rfl):FE X (.Call (.Name x p) (e::es) [] pos) (wB f wa):=fun pn xe hp=>
 PE.imp (zed (X:=wp X pn xe) (hc pn xe) hg hm hv (ha pn xe hp) hn hdb he hpl) (zft hd)
noncomputable def rLen (K:W.Frag):List V->Hp->VK->Prop:=fun xs H Q=>(∃ p ys,xs=[.ref p]/\(SqL K H p ys\/SqT K H p ys)/\Q (.int ys.length) H)\/∃ z,xs=[.str z]/\z.length<=sizeLine/\Q (.int z.length) H
theorem CallR.or' {f:Value} (h:CallR X f r) (h':CallR X f r'):CallR X f (fun x H Q=>r x H Q\/r' x H Q):=fun qZ s σ H xs us Q I rr q=>q.elim (h qZ s σ H xs us Q I rr) (h' qZ s σ H xs us Q I rr)
theorem zhq:CallR X (.builtin "len") (rLen X.K):=CallR.or' zea zdS
theorem zig {K:W.Frag}:DoesB K (rLen K) bLen:=by
 intro σ U F G H vs ds s Q q8 re e hq
 obtain ⟨d,v,rfl,rfl⟩:=arg1 (fun x y r=>by cases x <;> rfl) rfl re e
 cases d with
 | str l=>
   cases e
   obtain ⟨x,rfl,e1,z⟩:=re.1.str
   exact .inr ⟨x,rfl,by rw [zbY e1,qz]; exact z,by rw [zbY e1]; exact hq _ F H (qK.refl F) (q8.push (.int _))⟩
 | tup l=>
   cases e
   obtain ⟨a,xs,rfl,h1,r1⟩:=re.1.tup
   exact .inl ⟨a,xs,rfl,.inr (SqT.of (q8.fr _ _ h1)),by rw [r1.len]; exact hq _ F H (qK.refl F) (q8.push (.int _))⟩
 | lst l=>
   cases e
   obtain ⟨a,xs,rfl,h1,r1⟩:=re.1.lst q8.fr
   exact .inl ⟨a,xs,rfl,.inl h1,by rw [r1.len]; exact hq _ F H (qK.refl F) (q8.push (.int _))⟩
 | _=>cases e
theorem zap (hg:Gl X "len") (hm:X.mg "len"=none) (ha:FA X (e::es) wa) (he:starEach (e::es) X.env=(false,eval e X.env)::starEach es X.env:=by rfl) (hpl:(backTo pos (starEach es X.env)).any (·.1)=false:=by rfl):FE X (.Call (.Name "len" p) (e::es) [] pos) (wB bLen wa):=
 zbN (fun _ _=>zhq) zig hg hm PySem.boot_len ha (by decide) (by decide) he hpl
end
section
variable {K:W.Frag}
noncomputable def rInt:List V->Hp->VK->Prop:=fun xs H Q=>(∃ i,xs=[.int i]/\Q (.int i) H)\/∃ k,xs=[.bl k]/\Q (.int (if k then 1 else 0)) H
theorem RepE.bl (h:RepE K F H v (.bl b)):v=.bl b:=by
 rcases h with h | ⟨_,_,_,_,h,_⟩ | ⟨_,_,_,_,_,h,_⟩ | ⟨_,_,_,_,_,h,_⟩
 ·cases h; rfl
 ·cases h
 ·cases h
 ·cases h
theorem zgs:DoesB K rInt bInt:=by
 intro σ U F G H vs ds s Q q8 re e hq
 obtain ⟨d,v,rfl,rfl⟩:=arg1 (fun x y r=>by cases x <;> rfl) rfl re e
 cases d with
 | int i=>
   cases e
   have:=re.1.int
   subst this
   exact .inl ⟨i,rfl,hq _ F H (qK.refl F) (q8.push (.int _))⟩
 | bl b=>
   cases e
   have:=re.1.bl
   subst this
   exact .inr ⟨b,rfl,hq _ F H (qK.refl F) (q8.push (.int _))⟩
 | _=>cases e
theorem zcy (hg:Gl X "int") (hm:X.mg "int"=none) (hv:bootBuiltins "int"=some (.type "int")) (ha:FA X (e::es) wa) (he:starEach (e::es) X.env=(false,eval e X.env)::starEach es X.env:=by rfl) (hpl:(backTo pos (starEach es X.env)).any (·.1)=false:=by rfl):FE X (.Call (.Name "int" p) (e::es) [] pos) (wB bInt wa):=
 zcB (fun _ _=>zgK) zgs hg hm hv ha (by decide) (by decide) he hpl
noncomputable def rTuple (K:W.Frag):List V->Hp->VK->Prop:=fun xs H Q=>∃ p ys,xs=[.ref p]/\((SqL K H p ys/\∀ l,H l=none->Q (.ref l) (upd H l (.tup ys)))\/(SqT K H p ys/\Q (.ref p) H))
theorem zfF:DoesB K (rTuple K) bTuple:=by
 intro σ U F G H vs ds s Q q8 re e hq
 obtain ⟨d,v,rfl,rfl⟩:=arg1 (fun x y r=>by cases x <;> rfl) rfl re e
 cases d with
 | tup l=>
   cases e
   obtain ⟨a,xs,rfl,h1,r1⟩:=re.1.tup
   exact ⟨a,xs,rfl,.inr ⟨SqT.of (q8.fr _ _ h1),hq _ F H (qK.refl F) (q8.push (.tup h1 r1))⟩⟩
 | lst l=>
   cases e
   obtain ⟨a,xs,rfl,h1,r1⟩:=re.1.lst q8.fr
   refine ⟨a,xs,rfl,.inl ⟨h1,fun p hp=>?_⟩⟩
   have n2:=(q8.free hp).1
   exact hq _ _ _ (qK.upd n2) ((q8.newF hp).push (.tup zam (r1.mono (qK.upd n2))))
 | _=>cases e
theorem zbj (hg:Gl X "tuple") (hm:X.mg "tuple"=none) (hv:bootBuiltins "tuple"=some (.type "tuple")) (ha:FA X (e::es) wa) (he:starEach (e::es) X.env=(false,eval e X.env)::starEach es X.env:=by rfl) (hpl:(backTo pos (starEach es X.env)).any (·.1)=false:=by rfl):FE X (.Call (.Name "tuple" p) (e::es) [] pos) (wB bTuple wa):=
 zcB (fun _ _=>zdr) zfF hg hm hv ha (by decide) (by decide) he hpl
noncomputable def rList (K:W.Frag):List V->Hp->VK->Prop:=fun xs H Q=>∃ p ys,xs=[.ref p]/\(SqL K H p ys\/SqT K H p ys)/\∀ l,H l=none->Q (.ref l) (upd H l (.lst ys))
theorem zep:DoesB K (rList K) bList:=by
 intro σ U F G H vs ds s Q q8 re e hq
 obtain ⟨d,v,rfl,rfl⟩:=arg1 (fun x y r=>by cases x <;> rfl) rfl re e
 cases d with
 | tup l=>
   cases e
   obtain ⟨a,xs,rfl,h1,r1⟩:=re.1.tup
   exact ⟨a,xs,rfl,.inr (SqT.of (q8.fr _ _ h1)),fun p hp=>hq _ F _ (qK.refl F) (q8.newLD hp r1)⟩
 | lst l=>
   cases e
   obtain ⟨a,xs,rfl,h1,r1⟩:=re.1.lst q8.fr
   exact ⟨a,xs,rfl,.inl h1,fun p hp=>hq _ F _ (qK.refl F) (q8.newLD hp r1)⟩
 | _=>cases e
end
theorem zdg (h:keyD a=keyD b):a=b:=by
 cases a with
 | inl i=>cases b with
   | inl j=>have h':D.int i=D.int j:=h; cases h'; rfl
   | inr y=>have h':D.int i=D.str y.cps.toList:=h; cases h'
 | inr x=>cases b with
   | inl j=>have h':D.str x.cps.toList=D.int j:=h; cases h'
   | inr y=>
     have h':D.str x.cps.toList=D.str y.cps.toList:=h
     obtain ⟨⟨a⟩⟩:=x
     first | rfl | assumption | (simp_all; done)
theorem zeg:∀ {a b:List Key},a.map keyD=b.map keyD->a=b
 | [],[],_=>rfl
 | [],_::_,h=>by simp at h
 | _::_,[],h=>by simp at h
 | x::a,y::b,h=>by
   rw [List.map_cons,List.map_cons] at h
   injection h with h1 h2
   rw [zdg h1,zeg h2]
section
variable {K:W.Frag}
theorem zhu (r:Rep K H x d) (h:isKey1 d=true):∃ k:Key,x=kV k/\d=keyD k:=by
 cases r with
 | int i=>exact ⟨.inl i,rfl,rfl⟩
 | str e z=>exact ⟨.inr _,rfl,by rw [<- e]; rfl⟩
 | _=>cases h
theorem zkg (r:qX K H xs l):l.all isKey1=true->∃ ks:List Key,xs=ks.map kV/\l=ks.map keyD:=
 qX.ind (P:=fun xs l=>l.all isKey1=true->∃ ks:List Key,xs=ks.map kV/\l=ks.map keyD) (fun _=>⟨[],rfl,rfl⟩) (fun a _ ih h=>by
  rw [List.all_cons,Bool.and_eq_true] at h
  obtain ⟨k,rfl,rfl⟩:=zhu a h.1
  obtain ⟨ks,rfl,rfl⟩:=ih h.2
  exact ⟨k::ks,rfl,rfl⟩) r
open Classical in
theorem zch {κ:Type} [DecidableEq κ] (g:κ->D) (hg:∀ a b,g a=g b->a=b):∀ (q5:List (κ×V)) (k:κ),(valV q5 k).isSome=decide (g k∈q5.map fun p=>g p.1)
 | [],k=>by simp [valV]
 | p::r,k=>by
   by_cases e:p.1=k
   ·rw [zb9 e]
    have:g k∈(p::r).map fun p=>g p.1:=by rw [List.map_cons,e]; exact List.mem_cons_self
    exact (qj this).symm
   ·rw [zce e,zch g hg r k]
    have:(g k∈(p::r).map fun p=>g p.1)↔(g k∈r.map fun p=>g p.1):=by
     rw [List.map_cons,List.mem_cons]
     exact ⟨fun z=>z.elim (fun w=>absurd (hg _ _ w).symm e) id,.inr⟩
    exact (decide_eq_decide.2 this).symm
open Classical in
theorem zeQ {κ:Type} [DecidableEq κ] (g:κ->D) (hg:∀ a b,g a=g b->a=b) {α:Type}:∀ (q5:List (κ×V)) (vs:List α) (k:κ) (P:V->α->Prop),q5.length=vs.length->(∀ (i:Nat) x y,(q5.map (·.2))[i]?=some x->vs[i]?=some y->P x y)->
  (lk (q5.map fun p=>g p.1) vs (g k)=none/\valV q5 k=none)\/∃ x y,valV q5 k=some x/\lk (q5.map fun p=>g p.1) vs (g k)=some y/\P x y
 | [],[],k,P,_,_=>.inl ⟨rfl,rfl⟩
 | [],_::_,_,_,h,_=>by simp at h
 | _::_,[],_,_,h,_=>by simp at h
 | p::r,v::vs,k,P,hl,h=>by
   by_cases e:p.1=k
   ·refine .inr ⟨p.2,v,zb9 e,?_,h 0 p.2 v rfl rfl⟩
    show (if g p.1=g k then some v else lk (r.map fun p=>g p.1) vs (g k))=some v
    rw [qq (by rw [e])]
   ·have hne:¬ g p.1=g k:=fun z=>e (hg _ _ z)
    rw [zce e]
    have e2:lk ((p::r).map fun p=>g p.1) (v::vs) (g k)=lk (r.map fun p=>g p.1) vs (g k):=by
     show (if g p.1=g k then some v else lk (r.map fun p=>g p.1) vs (g k))=_
     rw [qr hne]
    rw [e2]
    exact zeQ g hg r vs k P (by simpa using hl) fun i x y h1 h2=>h (i + 1) x y (by simpa using h1) (by simpa using h2)
theorem zkr (r1:Rep K H x d) (r2:Rep K H (.ref a) (.dct t ks vs)) (hk:isKey t d=true):∃ o,DGet H a x o/\o.isSome=(open Classical in decide (d∈ks))/\
  ((lk ks vs d=none/\o=none)\/∃ v e,o=some v/\lk ks vs d=some e/\Rep K H v e):=by
 cases r2 with
 | dK e k r=>
   rename_i q5
   obtain ⟨key,rfl,rfl⟩:=zhu r1 hk
   refine ⟨_,.inl ⟨q5,key,e,rfl,rfl⟩,?_,?_⟩
   ·rw [k]; exact zch keyD (fun _ _=>zdg) q5 key
   ·rw [k]
    rcases zeQ keyD (fun _ _=>zdg) q5 vs key (fun v e=>Rep K H v e) (by have:=r.len; simpa using this) (fun i x y h1 h2=>by
     obtain ⟨x',hx',rx⟩:=r.get h2
     rw [h1] at hx'; cases hx'; exact rx) with ⟨h1,h2⟩ | ⟨v,e,h1,h2,h3⟩
    ·exact .inl ⟨h1,h2⟩
    ·exact .inr ⟨v,e,h1,h2,h3⟩
 | dT e k r=>
   rename_i q5
   cases r1 with
   | tup e1 q=>
     obtain ⟨keys,rfl,rfl⟩:=zkg q hk
     have inj:∀ a b:List Key,D.tup (a.map keyD)=D.tup (b.map keyD)->a=b:=fun a b z=>zeg (D.tup.inj z)
     refine ⟨_,.inr ⟨q5,keys,_,e,rfl,e1,rfl⟩,?_,?_⟩
     ·rw [k]; exact zch (fun l=>D.tup (l.map keyD)) inj q5 keys
     ·rw [k]
      rcases zeQ (fun l=>D.tup (l.map keyD)) inj q5 vs keys (fun v e=>Rep K H v e) (by have:=r.len; simpa using this) (fun i x y h1 h2=>by
       obtain ⟨x',hx',rx⟩:=r.get h2
       rw [h1] at hx'; cases hx'; exact rx) with ⟨h1,h2⟩ | ⟨v,e,h1,h2,h3⟩
      ·exact .inl ⟨h1,h2⟩
      ·exact .inr ⟨v,e,h1,h2,h3⟩
   | _=>cases hk
noncomputable def rInDict (neg:Bool):R2:=fun x y H Q=>∃ a o,y=.ref a/\DGet H a x o/\Q (.bl (if neg then !o.isSome else o.isSome)) H
theorem zgT (hu:X.A.units + 1 < cLine):OpR X (compareOp .In) (rInDict false):=by
 intro qZ s σ H x y v u Q I rx ry h
 obtain ⟨a,o,rfl,g,q⟩:=h
 cases ry
 exact d_in hu I g rx fun s' I'=>⟨.bl _,H,I',rfl,q⟩
theorem zem (hu:X.A.units + 1 < cLine):OpR X (compareOp .NotIn) (rInDict true):=by
 intro qZ s σ H x y v u Q I rx ry h
 obtain ⟨a,o,rfl,g,q⟩:=h
 cases ry
 exact zks hu I g rx fun s' I'=>⟨.bl _,H,I',rfl,q⟩
noncomputable def rInAll (K:W.Frag) (neg:Bool):R2:=fun x y H Q=>rInD K neg x y H Q\/rInDict neg x y H Q
theorem ziH (hu:X.A.units + 32 < cLine):OpR X (compareOp .In) (rInAll X.K false):=FL.OpR.or (zmD hu) (zgT (by lia))
theorem zey (hu:X.A.units + 32 < cLine):OpR X (compareOp .NotIn) (rInAll X.K true):=FL.OpR.or (zhh hu) (zem (by lia))
open Classical in
theorem zkj (r1:Rep K H x p) (r2:Rep K H y q) (e:cIn p q=some k) (hq:Q (.bl (if neg then !k else k)) H):rInAll K neg x y H Q:=by
 unfold cIn at e
 split at e
 ·rename_i l
  split at e
  ·cases e
  ·rename_i h
   have e':=qg e
   subst e'
   refine .inl ⟨p,l,r1,.inl r2,fun d hd=>?_,hq⟩
   grind
 ·rename_i l
  split at e
  ·cases e
  ·rename_i h
   have e':=qg e
   subst e'
   refine .inl ⟨p,l,r1,.inr r2,fun d hd=>?_,hq⟩
   grind
 ·rename_i t ks vs
  split at e
  ·rename_i h
   have e':=qg e
   cases y with
   | ref a=>
     obtain ⟨o,g,ho,_⟩:=zkr r1 r2 h
     refine .inr ⟨a,o,rfl,g,?_⟩
     rw [ho,e']
     exact hq
   | _=>cases r2
  ·cases e
 ·cases e
end
open PySem.Builtin.Str (strSliceIndices)
theorem zbT (n d:Nat) (o:Option Int):HT.sIx n d o=FL.sIx n d o:=by cases o <;> rfl
theorem zhk (n d:Nat) (hd:d<=n) (o:Option Int):FL.sIx n d o<=n:=by rw [<- zbT]; exact HT.sIx_le n d hd o
noncomputable def cutS (z:Str) (lo hi:Option Int):Str:=⟨(cutL z.cps.toList lo hi).toArray⟩
theorem zf2 (lo hi:Option Int) (n:Nat):strSliceIndices lo hi 1 n=(List.range (FL.sIx n n hi - FL.sIx n 0 lo)).map (FL.sIx n 0 lo + ·):=by
 rw [<- sliceRange_one]
 unfold strSliceIndices
 cases lo <;> cases hi <;> simp only [show (1:Int) > 0 by decide,if_true,FL.sIx,clipI] <;> rfl
theorem zhg (x:Str) (lo hi:Option Int):Txt.slice x lo hi=cutS x lo hi:=by
 have q9:x.length=x.cps.toList.length:=by show x.cps.size=_; rw [Array.length_toList]
 unfold Txt.slice cutS cutL
 rw [zf2,pick_run,<- q9]
 split
 ·rename_i h
  simp only [beq_self_eq_true,Bool.true_and,List.length_map,List.length_range,beq_iff_eq] at h
  have h1:=zhk x.length x.length (Nat.le_refl _) hi
  have h2:FL.sIx x.length 0 lo=0\/x.length=0:=by lia
  have h3:FL.sIx x.length 0 lo=0:=h2.elim id fun z=>by have:=zhk x.length 0 (Nat.zero_le _) lo; lia
  rw [h,h3,List.drop_zero,List.take_of_length_le (by rw [q9]; exact Nat.le_refl _)]
 ·rfl
noncomputable def rSlS:V->Option Int->Option Int->Hp->VK->Prop:=fun x lo hi H Q=>∃ z,x=.str z/\z.length<=sizeLine/\Q (.str (cutS z lo hi)) H
theorem zgM (p:IsPart v o):∃ l:Option (Int×Tok),v=partValue l/\o=l.map (·.1):=by
 cases p with
 | none=>exact ⟨none,rfl,rfl⟩
 | int i t=>exact ⟨some (i,t),rfl,rfl⟩
theorem zlB:SlR X rSlS:=by
 intro qZ s σ H x v vl vu lo hi sl Q I rx hs pl pu h
 obtain ⟨z,rfl,hz,q⟩:=h
 obtain ⟨t,rfl⟩:=rx
 obtain ⟨l,rfl,rfl⟩:=zgM pl
 obtain ⟨u,rfl,rfl⟩:=zgM pu
 rw [<- zhg] at q
 exact ⟨"str",_,F.slot_str_getitem.lookup,typeIs_str _ _ _,wpAny_getItem_str_slice (l:=l) (u:=u) (st:=none) hs rfl
  (post_val_or_str ⟨Nat.le_trans (Txt.slice_le z _ _) hz,fun t' k=>⟨.str (Txt.slice z (l.map (·.1)) (u.map (·.1))),H,I.tok _,⟨_,rfl⟩,q⟩⟩)⟩
noncomputable def rSlW (K:W.Frag):V->Option Int->Option Int->Hp->VK->Prop:=fun x lo hi H Q=>∃ a xs,x=.ref a/\SqT K H a xs/\
 (HT.sIx xs.length 0 lo=0/\HT.sIx xs.length xs.length hi=xs.length)/\Q (.ref a) H
theorem zbx {items:Array Value} {lo hi:Option Int} (ht:IsTup s.heap t items) (hs:s.heap.IsSliceOf sl vl vu .none) (pl:IsPart vl lo) (pu:IsPart vu hi)
  (hw:HT.sIx items.size 0 lo=0/\HT.sIx items.size items.size hi=items.size) (h:Q (.ref t) s):wpAny (model prog w) A (getItem (.ref t) (.ref sl)) Q E s:=by
 obtain ⟨os,hos,hcs,hds⟩:=id hs
 have hTs:s.TypeIs (.ref sl) "slice":=⟨os,hos,hcs⟩
 unfold getItem
 try with_reducible refine qB ?_
 first | refine qa (qb ?_) | skip
 refine qa (wpAny_sequenceKey ht.typeIs (by decide) ?_)
 refine qa (wpAny_callSpecial?_slot (name:=Str.ofString "__getitem__") ht.typeIs PyProof.Rows.slot_tuple_getitem
  (qy PyProof.Rows.slot_tuple_getitem ht.typeIs entry_tuple_getitem ?_ (args_tuple_getitem _ _)))
 show wpAny _ _ (Builtin.Tuple.tupleItemsOf (.ref t) >>= _) _ _ s
 refine qa (tupleItemsOf_ ht ?_)
 refine qa (wpAny_typeOf hTs ?_)
 rw [qq (by decide)]
 refine qa (HT.sliceApplied_gen hs pl pu ?_)
 have hyes:(((HT.sIx items.size 0 lo:Nat):Int) == 0 && (1:Int) == 1 && (HT.sIx items.size items.size hi - HT.sIx items.size 0 lo) == items.size)=true:=by
  rw [hw.1,hw.2]; simp
 show wpAny _ _ (if (((HT.sIx items.size 0 lo:Nat):Int) == 0 && (1:Int) == 1 && (HT.sIx items.size items.size hi - HT.sIx items.size 0 lo) == items.size)=true then _ else _) _ _ s
 rw [qq hyes]
 unfold Builtin.Tuple.tupleIsExact
 refine qa (qa (wpAny_typeOf ht.typeIs (qb ?_)))
 rw [qq (by decide)]
 first
  | exact qa (wpAny_rule (qb ⟨_,rfl,qb h⟩))
  | exact qa (qb (qb ⟨_,rfl,qb h⟩))
  | exact qb ⟨_,rfl,qb h⟩
theorem zh2:SlR X (rSlW X.K):=by
 intro qZ s σ H x v vl vu lo hi sl Q I rx hs pl pu h
 obtain ⟨a,xs,rfl,hx,hw,q⟩:=h
 cases rx
 obtain ⟨zc,r,ht,hz⟩:=I.tuple hx
 have q9:zc.toArray.size=xs.length:=by rw [List.size_toArray]; exact r.length.symm
 refine ⟨"tuple",_,PyProof.Rows.slot_tuple_getitem.lookup,ht.typeIs,?_⟩
 exact zbx ht hs pl pu (by rw [q9]; exact hw) ⟨.ref a,H,I,rfl,q⟩
section
variable {K:W.Frag}
theorem qX.drop:∀ {xs:List V} {l:List D} (n:Nat),qX K F xs l->qX K F (xs.drop n) (l.drop n)
 | _,_,0,r=>by rw [List.drop_zero,List.drop_zero]; exact r
 | _,_,n + 1,.nil=>by rw [List.drop_nil,List.drop_nil]; exact .nil
 | _,_,n + 1,.cons a b=>by rw [List.drop_succ_cons,List.drop_succ_cons]; exact qX.drop n b
theorem qX.take:∀ {xs:List V} {l:List D} (n:Nat),qX K F xs l->qX K F (xs.take n) (l.take n)
 | _,_,0,r=>by rw [List.take_zero,List.take_zero]; exact .nil
 | _,_,n + 1,.nil=>by rw [List.take_nil,List.take_nil]; exact .nil
 | _,_,n + 1,.cons a b=>by rw [List.take_succ_cons,List.take_succ_cons]; exact .cons a (qX.take n b)
theorem qX.cut {lo hi:Option Int} (r:qX K F xs l):qX K F (cutV xs lo hi) (cutL l lo hi):=by
 unfold cutV cutL
 rw [zbT,zbT,r.len]
 exact (r.drop _).take _
noncomputable def rSl (K:W.Frag):V->Option Int->Option Int->Hp->VK->Prop:=fun x lo hi H Q=>rSlL K x lo hi H Q\/rSlT K x lo hi H Q\/rSlW K x lo hi H Q\/rSlS x lo hi H Q
theorem zg8:SlR X (rSl X.K):=SlR.or zj4 (SlR.or znc (SlR.or zh2 zlB))
theorem zjO {lo hi:Option Int} (q8:Rel K U σ F G H) (re:RepE K F H v d) (e:slD d lo hi=some s)
  (hq:∀ v F' H',qK F F'->Rel K (U++[some s]) (σ++[some v]) F' G H'->Q v H'):rSl K v lo hi H Q:=by
 cases d with
 | str l=>
   cases e
   obtain ⟨x,rfl,h1,h2⟩:=re.str
   subst h1
   refine .inr (.inr (.inr ⟨x,rfl,?_,hq _ F H (qK.refl F) (q8.push (.str rfl ?_))⟩))
   ·have:x.length=x.cps.toList.length:=by show x.cps.size=_; rw [Array.length_toList]
    rw [this]; exact h2
   ·refine Nat.le_trans ?_ h2
    unfold cutL
    rw [List.length_take,List.length_drop]
    lia
 | tup l=>
   cases e
   obtain ⟨a,xs,rfl,h1,r1⟩:=re.tup
   by_cases hw:HT.sIx xs.length 0 lo=0/\HT.sIx xs.length xs.length hi=xs.length
   ·refine .inr (.inr (.inl ⟨a,xs,rfl,SqT.of (q8.fr _ _ h1),hw,hq _ F H (qK.refl F) (q8.push ?_)⟩))
    have:cutL l lo hi=l:=by
     unfold cutL
     rw [<- r1.len,<- zbT,<- zbT,hw.1,hw.2,List.drop_zero,List.take_of_length_le (by rw [<- r1.len]; lia)]
    rw [this]
    exact .tup h1 r1
   ·refine .inr (.inl ⟨a,xs,rfl,SqT.of (q8.fr _ _ h1),hw,fun p hp=>?_⟩)
    have n2:=(q8.free hp).1
    exact hq _ _ _ (qK.upd n2) ((q8.newF hp).push (.tup zam (r1.cut.mono (qK.upd n2))))
 | lst l=>
   cases e
   obtain ⟨a,xs,rfl,h1,r1⟩:=re.lst q8.fr
   exact .inl ⟨a,xs,rfl,h1,fun p hp=>hq _ F _ (qK.refl F) (q8.newLD hp r1.cut)⟩
 | _=>cases e
end
theorem nextOf (r1:Rel X.K (U1++[qL x]) (σ++[some v]) F G H1) (rv1:RV σ v x) (hp1:wb U1 (fun y U2=>k x y U2 P PX) PX)
  (hok:∀ r U' v F' H',P r U'->qK F F'->Rel X.K (U'++[qL r]) (σ++[some v]) F' G H'->RV σ v r->Q v H') (hx:XC X (·=σ) F G PX):tW X wb σ H1 fun u H2=>Two X σ k Q v u H2:=by
 have h1:=len1 r1
 obtain ⟨G1,rel1,gg,back⟩:=r1.hide h1
 refine ⟨F,G1,U1,_,PX,rel1,hp1,fun y U2 u F2 H2 hp2 s2 r2 rv2=>?_,hx.mono (fun _ z=>z) (qK.refl F) gg⟩
 have h2:=len1 r2
 have r3:=back s2 r2
 rw [List.append_assoc,List.append_assoc] at r3
 exact ⟨F2,G,U2,x,y,P,PX,Rel.swap (U1:=[qL y]) (σ1:=[some u]) (U2:=[qL x]) (σ2:=[some v]) h2 rfl r3,h2,rv1,rv2,hp2,fun r U' v F' H' a b c d=>hok r U' v F' H' a (s2.trans b) c d,hx.grow s2⟩
theorem match_int {U:Env} {o:Option D} {k:Int->Prop} (h:(match o with | some (.int i)=>k i | _=>False)):∃ i,o=some (.int i)/\k i:=by
 split at h
 ·exact ⟨_,rfl,h⟩
 ·exact h.elim
theorem zgw {K:W.Frag} {U:Env} {σ:St} {F G H:Hp} {x y:R} {v u:V} {lo hi:Option Int} {P:WQ} {Q:VK} {q:D} (q8:Rel K (U++[qL x,qL y]) (σ++[some v,some u]) F G H) (hl:U.length=σ.length) (rx:RV σ v x)
  (hk:qJ (qV x U) fun d=>qJ (slD d lo hi) fun s=>P (.v s) U)
  (hok:∀ r U' v F' H',P r U'->qK F F'->Rel K (U'++[qL r]) (σ++[some v]) F' G H'->RV σ v r->Q v H'):rSl K v lo hi H Q:=by
 obtain ⟨d,ed,hk⟩:=zae hk
 obtain ⟨s,es,hk⟩:=zae hk
 have relx:Rel K (U++[qL x]) (σ++[some v]) F G H:=by
  have:=Rel.swap (U1:=[qL x]) (σ1:=[some v]) (U2:=[qL y]) (σ2:=[some u]) hl rfl q8
  exact Rel.mid (U:=U) (σ:=σ) this hl
 obtain ⟨F1,s1,re,r1⟩:=takeC (U':=[]) (σ':=[]) relx hl rx ed
 exact zjO (U:=U) (σ:=σ) (by simpa using r1) re es fun v F' H' sm r'=>hok _ U v F' H' hk (s1.trans sm) r' trivial
theorem zc6 (ha:FE X a wa) (hb:FE X b wb):FE X (.Subscript a (.Slice (some b) none none p2) pos) (wSl wa (some wb) none):=fun pn xe hp=>by
 refine PE.imp (zdl (zg8 (X:=wp X pn xe)) (ha pn xe hp) (zdf (hb pn xe hp)) zge) fun σ H Q q=>?_
 refine (two (k:=fun x y U2 Q E=>match view y U2 with
  | some (.int i)=>qJ (qV x U2) fun d=>qJ (slD d (some i) none) fun s=>Q (.v s) U2
  | _=>False) q).mono fun v H1 h1=>h1.mono fun u H2 h2=>?_
 obtain ⟨F,G,U,x,y,P,PX,q8,hl,rx,ry,hk,hok,hx⟩:=h2
 obtain ⟨i,ei,hk⟩:=match_int (U:=U) (k:=fun i=>qJ (qV x U) fun d=>qJ (slD d (some i) none) fun s=>P (.v s) U) hk
 have ru:=look (U':=[]) (σ':=[]) (q8.mid hl) hl ry ei
 cases ru
 exact ⟨i,rfl,zgw (q:=.non) q8 hl rx hk hok⟩
theorem zcu (ha:FE X a wa) (hb:FE X b wb):FE X (.Subscript a (.Slice none (some b) none p2) pos) (wSl wa none (some wb)):=fun pn xe hp=>by
 refine PE.imp (zdl (zg8 (X:=wp X pn xe)) (ha pn xe hp) zge (zdf (hb pn xe hp))) fun σ H Q q=>?_
 refine (two (k:=fun x y U2 Q E=>match view y U2 with
  | some (.int i)=>qJ (qV x U2) fun d=>qJ (slD d none (some i)) fun s=>Q (.v s) U2
  | _=>False) q).mono fun v H1 h1=>h1.mono fun u H2 h2=>?_
 obtain ⟨F,G,U,x,y,P,PX,q8,hl,rx,ry,hk,hok,hx⟩:=h2
 obtain ⟨i,ei,hk⟩:=match_int (U:=U) (k:=fun i=>qJ (qV x U) fun d=>qJ (slD d none (some i)) fun s=>P (.v s) U) hk
 have ru:=look (U':=[]) (σ':=[]) (q8.mid hl) hl ry ei
 cases ru
 exact ⟨i,rfl,zgw (q:=.non) q8 hl rx hk hok⟩
theorem ze1 (ha:FE X a wa) (hb:FE X b wb) (hc:FE X c wc):FE X (.Subscript a (.Slice (some b) (some c) none p2) pos) (wSl wa (some wb) (some wc)):=fun pn xe hp=>by
 refine PE.imp (zdl (zg8 (X:=wp X pn xe)) (ha pn xe hp) (zdf (hb pn xe hp)) (zdf (hc pn xe hp))) fun σ H Q q=>?_
 refine (two (k:=fun x y U2 Q E=>match view y U2 with
  | some (.int i)=>wc U2 (fun z U3=>match view z U3 with
    | some (.int j)=>qJ (qV x U3) fun d=>qJ (slD d (some i) (some j)) fun s=>Q (.v s) U3
    | _=>False) E
  | _=>False) q).mono fun v H1 h1=>h1.mono fun u H2 h2=>?_
 obtain ⟨F,G,U,x,y,P,PX,q8,hl,rx,ry,hk,hok,hx⟩:=h2
 obtain ⟨i,ei,hk⟩:=match_int (U:=U) (k:=fun i=>wc U (fun z U3=>match view z U3 with
   | some (.int j)=>qJ (qV x U3) fun d=>qJ (slD d (some i) (some j)) fun s=>P (.v s) U3
   | _=>False) PX) hk
 have ru:=look (U':=[]) (σ':=[]) (q8.mid hl) hl ry ei
 cases ru
 have relx:Rel X.K (U++[qL x]) (σ++[some v]) F G H2:=by
  have:=Rel.swap (U1:=[qL x]) (σ1:=[some v]) (U2:=[qL y]) (σ2:=[some (.int i)]) hl rfl q8
  exact Rel.mid (U:=U) (σ:=σ) this hl
 refine ⟨i,rfl,(nextOf (X:=wp X pn xe) (k:=fun x z U3 P PX=>match view z U3 with
   | some (.int j)=>qJ (qV x U3) fun d=>qJ (slD d (some i) (some j)) fun s=>P (.v s) U3
   | _=>False) relx rx hk hok hx).mono fun t H3 h3=>?_⟩
 obtain ⟨F,G,U,x,y,P,PX,q8,hl,rx,ry,hk,hok,hx⟩:=h3
 obtain ⟨j,ej,hk⟩:=match_int (U:=U) (k:=fun j=>qJ (qV x U) fun d=>qJ (slD d (some i) (some j)) fun s=>P (.v s) U) hk
 have ru:=look (U':=[]) (σ':=[]) (q8.mid hl) hl ry ej
 cases ru
 exact ⟨j,rfl,zgw (q:=.non) q8 hl rx hk hok⟩
end FL
namespace FL
open PySem
noncomputable def wMS (f:List Nat->List D->Option S) (o:WE) (a:WA):WE:=fun U Q E=>o U (fun x U1=>match x with
 | .v (.sh (.str l))=>a U1 (fun rs U2=>qJ (rs.mapM fun r=>qV r U2) fun ds=>qJ (f l ds) fun s=>Q (.v s) U2) E
 | _=>False) E
noncomputable def strsD:List D->Option (List (List Nat))
 | []=>some []
 | .str x::r=>(strsD r).map (x::·)
 | _::_=>none
@[simp] theorem zdX (l:List (List Nat)):strsD (l.map .str)=some l:=by
  induction l with
  | nil=>rfl
  | cons a r ih=>rw [List.map_cons,strsD,ih]; rfl
noncomputable def joinD (sep:List Nat):List (List Nat)->List Nat
 | []=>[]
 | [x]=>x
 | x::r=>x++sep++joinD sep r
theorem zb2 (sep:List Nat):∀ ys:List (List Nat),(joinD sep ys).length<=(ys.map List.length).sum + ys.length * sep.length
 | []=>Nat.zero_le _
 | [x]=>by simp [joinD]
 | x::y::r=>by
   have:=zb2 sep (y::r)
   rw [joinD,List.length_append,List.length_append,List.map_cons,List.sum_cons,List.length_cons (a:=x),Nat.succ_mul]
   ·lia
   ·intro h; cases h
theorem zg7 (ys:List (List Nat)):joinD [] ys=ys.flatten:=by
 induction ys with
 | nil=>rfl
 | cons x r ih=>
   cases r with
   | nil=>simp [joinD]
   | cons y r=>rw [joinD,ih]; simp; intro h; cases h
noncomputable def joinS (sep:List Nat) (l:List D):Option S:=(strsD l).bind fun ys=>if (ys.map List.length).sum + ys.length * sep.length<=big then some (.sh (.str (joinD sep ys))) else none
noncomputable def mJoin (sep:List Nat):List D->Option S
 | [.lst l]=>joinS sep l
 | [.tup l]=>joinS sep l
 | _=>none
noncomputable def wPopAt (j:Nat) (e:WE):WE:=fun U Q E=>match slot U j with
 | some (.lst _)=>e U (fun r U2=>match view r U2,slot U2 j with
   | some (.int i),some (.lst l)=>qJ (if l.length<=big then ixN l.length i else none) fun k=>qJ l[k]? fun s=>Q (.v s) (U2.set j (some (.lst (l.eraseIdx k))))
   | _,_=>False) E
 | _=>False
noncomputable def bools:List D->Option (List Bool)
 | []=>some []
 | .bl x::r=>(bools r).map (x::·)
 | _::_=>none
@[simp] theorem zlx (l:List Bool):bools (l.map .bl)=some l:=by
  induction l with
  | nil=>rfl
  | cons a r ih=>rw [List.map_cons,bools,ih]; rfl
end FL
namespace FL
open PySem PySem.Spec PyProof.Rows L2
section
variable {id:String}
noncomputable def DoesMS (K:W.Frag) (r:V->List V->Hp->VK->Prop) (f:List Nat->List D->Option S):Prop:=∀ (σ:St) (U:Env) (F G H:Hp) (x:Str) (vs:List V) (ds:List D) (s:S) (Q:VK),Rel K U σ F G H->x.cps.toList.length<=16777216->RepEs K F H vs ds->f x.cps.toList ds=some s->
 (∀ v F' H',qK F F'->Rel K (U++[some s]) (σ++[some v]) F' G H'->Q v H')->r (.str x) vs H Q
theorem zpD (hm:∀ pn xe,MtM (wp X pn xe) id r) (hd:DoesMS X.K r f) (slot:Slot "str" name id) (hty:typeOf (.builtin id)=pure (.type "method_descriptor")) (ho:FE X o wo) (ha:FA X (e::es) wa)
  (hbase:attributeBase o name X.env (eval o X.env)=eval o X.env:=by rfl)
  (hfew:((backTo cpos (starEach (e::es) X.env)).all (fun x=>!x.1) && (backToKw cpos (keywordEach [] X.env)).all (fun x=>x.1.isSome)
   && decide ((e::es).length + ([]:List Keyword).length + (if ([]:List Keyword).isEmpty then 0 else 1) < 30))=true:=by rfl)
  (hline:(apos.endLine == cpos.line)=true:=by rfl) (hs:starEach (e::es) X.env=(false,eval e X.env)::starEach es X.env:=by rfl) (hplain:(backTo cpos (starEach es X.env)).any (·.1)=false:=by rfl):
  FE X (.Call (.Attribute o name apos) (e::es) [] cpos) (wMS f wo wa):=fun pn xe hp=>by
 refine PE.imp (zh8 (X:=wp X pn xe) PySem.F.plainAttrs_str slot hty (hm pn xe) (ho pn xe hp) (ha pn xe hp) hbase hfew hline hs hplain) fun σ H Q q=>?_
 refine (one (k:=fun x U1 Q E=>match x with
  | .v (.sh (.str l))=>wa U1 (fun rs U2=>qJ (rs.mapM fun r=>qV r U2) fun ds=>qJ (f l ds) fun s=>Q (.v s) U2) E
  | _=>False) q).mono fun v H1 h1=>?_
 obtain ⟨F,G,U,x,P,PX,q8,hl,rx,hk,hok,hx⟩:=h1
 split at hk
 ·rename_i l
  have rp:=look (U':=[]) (σ':=[]) (x:=.v (.sh (.str l))) q8 hl rx rfl
  cases rp with
  | str e1 z=>
    rename_i y
    subst e1
    refine ⟨rfl,F,G,U,_,PX,q8.drop hl,hk,fun rs U2 vs F2 H2 hk2 s2 r2 hl2 rvs=>?_,hx⟩
    obtain ⟨ds,ed,hk2⟩:=zae hk2
    obtain ⟨s,es,hk2⟩:=zae hk2
    obtain ⟨F3,s3,re,r3⟩:=takeAll (U':=[]) (σ':=[]) (by simpa using r2) hl2 rvs ed
    exact hd σ U2 F3 G H2 y vs ds s Q (by simpa using r3) z re es fun v F' H' sm r'=>hok _ U2 v F' H' hk2 (s2.trans (s3.trans sm)) r' trivial
 ·exact hk.elim
end
section
variable {K:W.Frag}
theorem zgL (r:qX K F xs l) (h:strsD l=some ys):∃ zs:List Str,xs=zs.map V.str/\ys=zs.map fun z=>z.cps.toList:=
 qX.ind (P:=fun xs l=>∀ ys,strsD l=some ys->∃ zs:List Str,xs=zs.map V.str/\ys=zs.map fun z=>z.cps.toList) (fun ys h=>by cases h; exact ⟨[],rfl,rfl⟩) (fun a _ ih ys h=>by
  cases a with
  | @str x _ e z=>
    rw [strsD] at h
    obtain ⟨ys',h1,rfl⟩:=Option.map_eq_some_iff.mp h
    obtain ⟨zs,rfl,rfl⟩:=ih _ h1
    exact ⟨x::zs,rfl,by rw [List.map_cons,e]⟩
  | _=>cases h) r ys h
theorem zfr (sep:Str):∀ zs:List Str,(Str.join sep zs).cps.toList=joinD sep.cps.toList (zs.map fun z=>z.cps.toList)
 | []=>rfl
 | [x]=>rfl
 | x::y::r=>by
   show ((x++sep++Str.join sep (y::r):Str)).cps.toList=x.cps.toList++sep.cps.toList++joinD sep.cps.toList ((y::r).map fun z=>z.cps.toList)
   rw [<- zfr sep (y::r)]
   show (x.cps++sep.cps++(Str.join sep (y::r)).cps).toList=_
   rw [Array.toList_append,Array.toList_append]
theorem zbX:∀ {us:List Value},qW (ys.map V.str) us->StrsAre us ys:=by
 induction ys with
 | nil=>intro us r; rw [List.map_nil] at r; cases r; exact .nil
 | cons n ns ih=>
   intro us r
   rw [List.map_cons] at r
   cases r with
   | cons r1 r2=>
     obtain ⟨t,e⟩:=r1
     subst e
     exact .cons n t (ih r2)
noncomputable def rJoin (K:W.Frag):V->List V->Hp->VK->Prop:=fun x vs H Q=>∃ z a ys,x=.str z/\vs=[.ref a]/\(SqL K H a (ys.map V.str)\/SqT K H a (ys.map V.str))/\(ys.map (·.length)).sum + ys.length * z.length<=16777216/\Q (.str (Str.join z ys)) H
theorem zjQ:MtM X "str.join" (rJoin X.K):=by
 intro qZ s σ H x vs v us Q I rx rv h
 obtain ⟨z,a,ys,rfl,rfl,hq,hz,q⟩:=h
 obtain ⟨t,rfl⟩:=rx
 cases rv with
 | cons r1 r2=>
   cases r2
   cases r1
   have e:Txt.join z ys=Str.join z ys:=StrLaws.glued_eq_join z ys
   rcases hq with hq | hq
   ·obtain ⟨zc,r,pl,_⟩:=I.list hq
    exact join_list pl.isList (zbX r) hz fun t' k=>⟨.str (Str.join z ys),H,I.tok _,⟨_,by rw [e]⟩,q⟩
   ·obtain ⟨zc,r,pl,_⟩:=I.tuple hq
    exact join_tuple pl (zbX r) hz fun t' k=>⟨.str (Str.join z ys),H,I.tok _,⟨_,by rw [e]⟩,q⟩
theorem zen (q8:Rel K U σ F G H) (hq:SqL K H a xs\/SqT K H a xs) (r:qX K F xs l) (e:joinS x.cps.toList l=some s)
  (k:∀ v F' H',qK F F'->Rel K (U++[some s]) (σ++[some v]) F' G H'->Q v H'):rJoin K (.str x) [.ref a] H Q:=by
 unfold joinS at e
 obtain ⟨ys,e1,e2⟩:=Option.bind_eq_some_iff.mp e
 obtain ⟨zs,rfl,rfl⟩:=zgL r e1
 split at e2
 ·rename_i hz
  cases e2
  have hl:∀ z:Str,z.cps.toList.length=z.length:=fun z=>by rw [Array.length_toList]; rfl
  have e3:((zs.map fun z=>z.cps.toList).map List.length)=zs.map (·.length):=by rw [List.map_map]; exact List.map_congr_left fun z _=>hl z
  have hz2:=hz
  rw [e3,List.length_map,hl] at hz
  refine ⟨x,a,zs,rfl,rfl,hq,Nat.le_trans hz (by decide),k _ F H (qK.refl F) (q8.push (.str (zfr x zs) ?_))⟩
  exact Nat.le_trans (zb2 _ _) (Nat.le_trans hz2 (by decide))
 ·cases e2
theorem zhc:DoesMS K (rJoin K) mJoin:=by
 intro σ U F G H x vs ds s Q q8 hz re e hq
 obtain ⟨d,v,rfl,rfl⟩:=arg1 (fun x y r=>by cases x <;> rfl) rfl re e
 cases d with
 | tup l=>
   obtain ⟨a,xs,rfl,h1,r1⟩:=re.1.tup
   exact zen q8 (.inr (SqT.of (q8.fr _ _ h1))) r1 e hq
 | lst l=>
   obtain ⟨a,xs,rfl,h1,r1⟩:=re.1.lst q8.fr
   exact zen q8 (.inl h1) r1 e hq
 | _=>cases e
end
theorem zg6 (ho:FE X o wo) (ha:FA X [e] wa)
  (hbase:attributeBase o "join" X.env (eval o X.env)=eval o X.env:=by rfl)
  (hfew:((backTo cpos (starEach [e] X.env)).all (fun x=>!x.1) && (backToKw cpos (keywordEach [] X.env)).all (fun x=>x.1.isSome)
   && decide ([e].length + ([]:List Keyword).length + (if ([]:List Keyword).isEmpty then 0 else 1) < 30))=true:=by rfl)
  (hline:(apos.endLine == cpos.line)=true:=by rfl) (hs:starEach [e] X.env=(false,eval e X.env)::starEach [] X.env:=by rfl) (hplain:(backTo cpos (starEach [] X.env)).any (·.1)=false:=by rfl):
  FE X (.Call (.Attribute o "join" apos) [e] [] cpos) (wMS mJoin wo wa):=zpD (fun _ _=>zjQ) zhc PySem.F.slot_str_join PySem.F.type_str_join ho ha hbase hfew hline hs hplain
section
variable {K:W.Frag}
theorem qN.erase:∀ {xs:List V} {l:List S} {fp:List Addr} {m:Nat} {s:S},qN K F H xs l fp->l[m]?=some s->∃ y fa fi fb,fp=fa++(fi++fb)/\xs[m]?=some y/\SRep K F H y s fi/\qN K F H (xs.eraseIdx m) (l.eraseIdx m) (fa++fb)
 | _,_,_,_,_,.nil,h=>by simp at h
 | _,_,_,0,s,.cons (x:=x) (fp:=fp) (fq:=fq) a b,h=>by
   have e:=qg h
   subst e
   exact ⟨x,[],fp,fq,rfl,rfl,a,b⟩
 | _,_,_,m + 1,s,.cons (fp:=fp) (fq:=fq) a b,h=>by
   obtain ⟨y,fa,fi,fb,rfl,h1,h2,h3⟩:=qN.erase (m:=m) b (by simpa using h)
   refine ⟨y,fp++fa,fi,fb,(List.append_assoc ..).symm,by simpa using h1,h2,?_⟩
   rw [List.append_assoc]
   exact .cons a h3
theorem Rel.popItem {D:Addr} (r:Rel K U σ F G H) (hs:slot U n=some (.lst l)) (hσ:σ[n]?=some (some (.ref D))) (hm:l[m]?=some s):
  ∃ xs y,H D=some (.lst xs)/\xs.length=l.length/\xs[m]?=some y/\Rel K (U.set n (some (.lst (l.eraseIdx m)))++[some s]) (σ++[some y]) F G (upd H D (.lst (xs.eraseIdx m))):=by
 obtain ⟨fp,e,nd,ap⟩:=r.en
 obtain ⟨v',fa,fi,fb,e1,rfl,q,up⟩:=e.at hs
 rw [hσ] at e1
 have e2:V.ref D=v':=by simpa using e1
 subst e2
 cases q with
 | lst hD rl=>
   rename_i xs fl
   obtain ⟨y,ga,gi,gb,rfl,hy,sr,rl2⟩:=rl.erase hm
   refine ⟨xs,y,hD,rl.len,hy,?_⟩
   obtain ⟨na,nib,nab⟩:=List.nodup_append.mp nd
   obtain ⟨ni,nb,nib⟩:=List.nodup_append.mp nib
   obtain ⟨nD,nfl⟩:=List.nodup_cons.mp ni
   have hDa:D∉fa:=fun z=>nab D z D (List.mem_append_left _ List.mem_cons_self) rfl
   have hDb:D∉fb:=fun z=>nib D List.mem_cons_self D z rfl
   have apD:=ap D (List.mem_append_right _ (List.mem_append_left _ List.mem_cons_self))
   have ne:∀ {l:List Addr},D∉l->∀ x∈l,upd H D (.lst (xs.eraseIdx m)) x=H x:=fun h x hx=>zag fun z=>h (z ▸ hx)
   have hDg:D∉ga++gb:=fun z=>nD ((List.mem_append.mp z).elim (fun w=>List.mem_append_left _ w) fun w=>List.mem_append_right _ (List.mem_append_right _ w))
   have hDi:D∉gi:=fun z=>nD (List.mem_append_right _ (List.mem_append_left _ z))
   have new:SRep K F (upd H D (.lst (xs.eraseIdx m))) (.ref D) (.lst (l.eraseIdx m)) (D::(ga++gb)):=.lst zam (rl2.mono (qK.refl F) (ne hDg))
   have a2:=up (F':=F) (H':=upd H D (.lst (xs.eraseIdx m))) (o:=some (.lst (l.eraseIdx m))) (u:=some (.ref D)) (qK.refl F) (fun x hx=>zag fun z=>(List.mem_append.mp hx).elim (fun w=>hDa (z ▸ w)) fun w=>hDb (z ▸ w)) (.so new .nil)
   rw [ze6 hσ] at a2
   have a3:=a2.app (.so (sr.mono (qK.refl F) (ne hDi)) .nil)
   have pm:(fa++((D::(ga++gb))++[]++fb)++(gi++[])).Perm (fa++((D::(ga++(gi++gb)))++fb)):=by
    simp only [List.append_nil,List.append_assoc,List.cons_append]
    refine List.Perm.append_left _ (List.Perm.cons _ (List.Perm.append_left _ ?_))
    rw [<- List.append_assoc gi gb fb,<- List.append_assoc gb fb gi]
    refine (List.perm_append_comm (l₁:=gb++fb) (l₂:=gi)).trans ?_
    rw [List.append_assoc]
   refine ⟨qK.updR r.fr apD.1,fun x o w=>?_,_,a3,pm.nodup_iff.mpr nd,fun x hx=>ap x (pm.mem_iff.mp hx)⟩
   have hx:x≠D:=fun z=>by rw [z,apD.2] at w; cases w
   rw [zag hx]
   exact r.gr x o w
end
theorem ziJ (ho:FE X o (qF j)) (he:FE X e we)
  (hbase:attributeBase o "pop" X.env (eval o X.env)=eval o X.env:=by rfl)
  (hfew:((backTo cpos (starEach [e] X.env)).all (fun x=>!x.1) && (backToKw cpos (keywordEach [] X.env)).all (fun x=>x.1.isSome)
   && decide ([e].length + ([]:List Keyword).length + (if ([]:List Keyword).isEmpty then 0 else 1) < 30))=true:=by rfl)
  (hline:(apos.endLine == cpos.line)=true:=by rfl) (hs:starEach [e] X.env=[(false,eval e X.env)]:=by rfl):FE X (.Call (.Attribute o "pop" apos) [e] [] cpos) (wPopAt j we):=fun pn xe hp=>by
 refine PE.imp (zh8 (X:=wp X pn xe) PySem.F.plainAttrs_list PySem.F.slot_list_pop PySem.F.type_list_pop zi3 (ho pn xe hp) (zaa he zab hs pn xe hp) hbase hfew hline hs rfl) fun σ H Q q=>?_
 obtain ⟨F,G,U,P,PX,q8,hw,hok,hx⟩:=q
 have hw':(match slot U j with
  | some (.lst _)=>we U (fun r U2=>match view r U2,slot U2 j with
    | some (.int i),some (.lst l)=>qJ (if l.length<=big then ixN l.length i else none) fun k=>qJ l[k]? fun s=>P (.v s) (U2.set j (some (.lst (l.eraseIdx k))))
    | _,_=>False) PX
  | _=>False):=hw
 cases qs:slot U j with
 | none=>rw [qs] at hw'; exact hw'.elim
 | some s0=>
   cases s0 with
   | lst l0=>
     rw [qs] at hw'
     refine ⟨F,G,U,fun y U1=>y=.loc j/\U1=U,PX,q8,by unfold qF; rw [qs]; exact ⟨rfl,rfl⟩,fun y U1 o' F1 H1 hk s1 r1 rv=>?_,hx⟩
     obtain ⟨rfl,rfl⟩:=hk
     have l1:=len1 r1
     have hσ:σ[j]?=some (some o'):=rv
     have r2:=r1.drop l1
     obtain ⟨v',fp,e1,sr⟩:=r2.at qs
     rw [hσ] at e1
     have e2:o'=v':=by simpa using e1
     subst e2
     cases sr with
     | lst hD rl=>
       rename_i a xs fl
       refine ⟨.inl ⟨rfl,_,SqL.of hD⟩,F1,G,U1,fun rs U2=>match rs with | [r]=>(match view r U2,slot U2 j with | some (.int i),some (.lst l)=>qJ (if l.length<=big then ixN l.length i else none) fun k=>qJ l[k]? fun s=>P (.v s) (U2.set j (some (.lst (l.eraseIdx k)))) | _,_=>False) | _=>False,PX,r2,hw',fun rs U2 vs F2 H2 hk s2 r3 hl rvs=>?_,hx.grow s1⟩
       match rs,vs,rvs,r3,hk with
       | [r],[v],rvs,r3,hk=>
         dsimp only at hk
         split at hk
         ·rename_i i l ei ql
          obtain ⟨m,em,hk⟩:=zae hk
          obtain ⟨s,es,hk⟩:=zae hk
          have rp:=look (U':=[]) (σ':=[]) r3 hl rvs.1 ei
          cases rp
          split at em
          ·rename_i hz
           have r4:=r3.drop hl
           obtain ⟨ys,y,hD2,q9,hy,r5⟩:=Rel.popItem r4 ql hσ es
           rw [<- q9] at em hz
           obtain ⟨b1,b2,b3,b4⟩:=zeE em
           have hb:ys.length<=1000000:=hz
           exact ⟨a,ys,i,m,y,rfl,rfl,hD2,by lia,by lia,b1,hy,hok _ _ y F2 _ hk (s1.trans s2) r5 trivial⟩
          ·cases em
         ·exact hk.elim
       | [],_,_,_,hk=>exact hk.elim
       | [_],[],rvs,_,_=>exact rvs.elim
       | [_],_::_::_,rvs,_,_=>exact rvs.2.elim
       | _::_::_,_,_,_,hk=>exact hk.elim
   | _=>rw [qs] at hw'; exact hw'.elim
section
variable {K:W.Frag}
theorem zi1:DoesB K (fun xs H Q=>∃ i j,xs=[.int i,.int j]/\Q (.int (if j > i then j else i)) H) bMax:=by
 intro σ U F G H vs ds s Q q8 re e hq
 obtain ⟨d,d2,v,u,rfl,rfl⟩:=arg2 (fun x=>by cases x <;> rfl) (fun x y z r=>by cases x <;> first | rfl | (cases y <;> rfl)) rfl re e
 cases d with
 | int i=>
   cases d2 with
   | int j=>
     cases e
     have h1:=re.1.int
     have h2:=re.2.1.int
     subst h1
     subst h2
     exact ⟨i,j,rfl,hq _ F H (qK.refl F) (q8.push (.int _))⟩
   | _=>cases e
 | _=>cases e
theorem ziz:DoesB K (fun xs H Q=>∃ i j,xs=[.int i,.int j]/\Q (.int (if j < i then j else i)) H) bMin:=by
 intro σ U F G H vs ds s Q q8 re e hq
 obtain ⟨d,d2,v,u,rfl,rfl⟩:=arg2 (fun x=>by cases x <;> rfl) (fun x y z r=>by cases x <;> first | rfl | (cases y <;> rfl)) rfl re e
 cases d with
 | int i=>
   cases d2 with
   | int j=>
     cases e
     have h1:=re.1.int
     have h2:=re.2.1.int
     subst h1
     subst h2
     exact ⟨i,j,rfl,hq _ F H (qK.refl F) (q8.push (.int _))⟩
   | _=>cases e
 | _=>cases e
theorem zjm (hc:X.calm=true) (hg:Gl X "max") (hm:X.mg "max"=none) (hv:bootBuiltins "max"=some (.builtin "max")) (ha:FA X (e::es) wa) (he:starEach (e::es) X.env=(false,eval e X.env)::starEach es X.env:=by rfl) (hpl:(backTo pos (starEach es X.env)).any (·.1)=false:=by rfl):FE X (.Call (.Name "max" p) (e::es) [] pos) (wB bMax wa):=
 zbN (fun _ _=>zhi hc) zi1 hg hm hv ha (by decide) (by decide) he hpl
theorem zjg (hc:X.calm=true) (hg:Gl X "min") (hm:X.mg "min"=none) (hv:bootBuiltins "min"=some (.builtin "min")) (ha:FA X (e::es) wa) (he:starEach (e::es) X.env=(false,eval e X.env)::starEach es X.env:=by rfl) (hpl:(backTo pos (starEach es X.env)).any (·.1)=false:=by rfl):FE X (.Call (.Name "min" p) (e::es) [] pos) (wB bMin wa):=
 zbN (fun _ _=>zhD hc) ziz hg hm hv ha (by decide) (by decide) he hpl
end
end FL
namespace FL
open PySem
mutual
noncomputable def cmpD:D->D->Ordering
 | .int i,.int j=>if i < j then .lt else if j < i then .gt else .eq
 | .str x,.str y=>if x < y then .lt else if y < x then .gt else .eq
 | .tup l,.tup m=>cmpDs l m
 | _,_=>.eq
noncomputable def cmpDs:List D->List D->Ordering
 | [],[]=>.eq
 | [],_::_=>.lt
 | _::_,[]=>.gt
 | a::l,b::m=>match cmpD a b with
   | .eq=>cmpDs l m
   | o=>o
end
noncomputable def leD (a b:D):Bool:=match cmpD a b with
 | .gt=>false
 | _=>true
@[simp] theorem zdJ (i j:Int):leD (.int i) (.int j)=decide (i<=j):=by
  show (match (if i < j then Ordering.lt else if j < i then .gt else .eq) with | .gt=>false | _=>true)=_
  by_cases h:i < j
  ·rw [qq h,qj (by lia)]
  ·rw [qr h]
   by_cases h2:j < i
   ·rw [qq h2,qk (by lia)]
   ·rw [qr h2,qj (by lia)]
@[simp] theorem zck (x y:List Nat):leD (.str x) (.str y)=!decide (y < x):=by
  show (match (if x < y then Ordering.lt else if y < x then .gt else .eq) with | .gt=>false | _=>true)=_
  by_cases h:x < y
  ·rw [qq h,qk (fun h'=>List.lt_asymm h h')]; rfl
  ·rw [qr h]
   by_cases h2:y < x
   ·rw [qq h2,qj h2]; rfl
   ·rw [qr h2,qk h2]; rfl
noncomputable def insD (x:D):List D->List D
 | []=>[x]
 | y::r=>if leD x y then x::y::r else y::insD x r
noncomputable def sortD:List D->List D
 | []=>[]
 | x::r=>insD x (sortD r)
theorem zct (x:D):∀ l:List D,(insD x l).Perm (x::l)
 | []=>.refl _
 | y::r=>by
   unfold insD
   split
   ·exact .refl _
   ·exact (List.Perm.cons y (zct x r)).trans (.swap x y r)
theorem zaV:∀ l:List D,(sortD l).Perm l
 | []=>.refl _
 | x::r=>(zct x _).trans (.cons x (zaV r))
structure OrdOn (P:D->Prop):Prop where
 tot:∀ a b,P a->P b->leD a b=true\/leD b a=true
 tr:∀ a b c,P a->P b->P c->leD a b=true->leD b c=true->leD a c=true
 anti:∀ a b,P a->P b->leD a b=true->leD b a=true->a=b
theorem zcn (o:OrdOn P) (x:D) (hx:P x):∀ l:List D,(∀ d∈l,P d)->l.Pairwise (leD · ·=true)->(insD x l).Pairwise (leD · ·=true)
 | [],_,_=>List.pairwise_singleton _ _
 | y::r,hp,h=>by
   obtain ⟨h1,h2⟩:=List.pairwise_cons.mp h
   have hy:=hp y List.mem_cons_self
   have hr:∀ d∈r,P d:=fun d hd=>hp d (List.mem_cons_of_mem _ hd)
   unfold insD
   split
   ·rename_i c
    refine List.pairwise_cons.mpr ⟨fun d hd=>?_,h⟩
    rcases List.mem_cons.mp hd with rfl | hd
    ·exact c
    ·exact o.tr x y d hx hy (hr d hd) c (h1 d hd)
   ·rename_i c
    refine List.pairwise_cons.mpr ⟨fun d hd=>?_,zcn o x hx r hr h2⟩
    rcases List.mem_cons.mp ((zct x r).mem_iff.mp hd) with rfl | hd
    ·exact (o.tot d y hx hy).resolve_left c
    ·exact h1 d hd
theorem zba (o:OrdOn P):∀ l:List D,(∀ d∈l,P d)->(sortD l).Pairwise (leD · ·=true)
 | [],_=>.nil
 | x::r,hp=>zcn o x (hp x List.mem_cons_self) _ (fun d hd=>hp d (List.mem_cons_of_mem _ ((zaV r).mem_iff.mp hd))) (zba o r fun d hd=>hp d (List.mem_cons_of_mem _ hd))
theorem zbF (o:OrdOn P):∀ l m:List D,(∀ d∈l,P d)->l.Perm m->l.Pairwise (leD · ·=true)->m.Pairwise (leD · ·=true)->l=m
 | [],m,_,p,_,_=>(List.nil_perm.mp p).symm
 | x::r,[],_,p,_,_=>absurd p.length_eq (by simp)
 | x::r,y::t,hp,p,h1,h2=>by
   obtain ⟨a1,a2⟩:=List.pairwise_cons.mp h1
   obtain ⟨b1,b2⟩:=List.pairwise_cons.mp h2
   have hx:=hp x List.mem_cons_self
   have hy:P y:=hp y (p.mem_iff.mpr List.mem_cons_self)
   have e:x=y:=by
    have m1:x∈y::t:=p.mem_iff.mp List.mem_cons_self
    have m2:y∈x::r:=p.mem_iff.mpr List.mem_cons_self
    rcases List.mem_cons.mp m1 with e | m1
    ·exact e
    ·rcases List.mem_cons.mp m2 with e | m2
     ·exact e.symm
     ·exact o.anti x y hx hy (a1 y m2) (b1 x m1)
   subst e
   rw [zbF o r t (fun d hd=>hp d (List.mem_cons_of_mem _ hd)) (List.Perm.cons_inv p) a2 b2]
theorem zbA (o:OrdOn P) (hp:∀ d∈l,P d) (p:m.Perm l) (h:m.Pairwise (leD · ·=true)):sortD l=m:=
 zbF o _ _ (fun d hd=>hp d ((zaV l).mem_iff.mp hd)) ((zaV l).trans p.symm) (zba o l hp) h
noncomputable def IsInt:D->Prop
 | .int _=>True
 | _=>False
noncomputable def IsStr:D->Prop
 | .str _=>True
 | _=>False
theorem zgN:OrdOn IsInt where
 tot
  | .int a,.int b,_,_=>by simp only [zdJ,qm]; lia
 tr
  | .int a,.int b,.int c,_,_,_=>by simp only [zdJ,qm]; lia
 anti
  | .int a,.int b,_,_=>by simp only [zdJ,qm]; intro h1 h2; rw [Int.le_antisymm h1 h2]
theorem zeP:OrdOn IsStr where
 tot
  | .str a,.str b,_,_=>by
    simp only [zck,Bool.not_eq_true',decide_eq_false_iff_not]
    by_cases h:b < a
    ·exact .inr fun h'=>List.lt_asymm h h'
    ·exact .inl h
 tr
  | .str a,.str b,.str c,_,_,_=>by
    simp only [zck,Bool.not_eq_true',decide_eq_false_iff_not]
    intro h1 h2
    exact fun h=>(List.le_trans (l₁:=a) (l₂:=b) (l₃:=c) h1 h2) h
 anti
  | .str a,.str b,_,_=>by
    simp only [zck,Bool.not_eq_true',decide_eq_false_iff_not]
    intro h1 h2
    have:a=b:=List.le_antisymm (as:=a) (bs:=b) h1 h2
    rw [this]
noncomputable def intsD:List D->Option (List Int)
 | []=>some []
 | .int x::r=>(intsD r).map (x::·)
 | _::_=>none
@[simp] theorem zbL (l:List Int):intsD (l.map .int)=some l:=by
  induction l with
  | nil=>rfl
  | cons a r ih=>rw [List.map_cons,intsD,ih]; rfl
noncomputable def sortS (l:List D):Option S:=if l.length < 64/\((intsD l).isSome\/(strsD l).isSome) then some (.lst ((sortD l).map .sh)) else none
noncomputable def bSorted:List D->Option S
 | [.lst l]=>sortS l
 | _=>none
end FL
namespace FL
open PySem PySem.Spec PyProof.Rows L2
section
variable {K:W.Frag}
theorem zeA (r:qX K F xs l) (h:intsD l=some ys):xs=ys.map V.int/\l=ys.map D.int:=
 qX.ind (P:=fun xs l=>∀ ys,intsD l=some ys->xs=ys.map V.int/\l=ys.map D.int) (fun ys h=>by cases h; exact ⟨rfl,rfl⟩) (fun a _ ih ys h=>by
  cases a with
  | int c=>
    rw [intsD] at h
    obtain ⟨ys',h1,rfl⟩:=Option.map_eq_some_iff.mp h
    obtain ⟨e1,e2⟩:=ih _ h1
    rw [e1,e2]
    exact ⟨rfl,rfl⟩
  | _=>cases h) r ys h
theorem za9:∀ {us:List Value} {ns:List Int},IntsAre us ns->qW (ns.map V.int) us
 | _,_,.nil=>.nil
 | _,_,.cons i t r=>.cons ⟨t,rfl⟩ (za9 r)
theorem zev:∀ {us:List Value} {ns:List Str},StrsAre us ns->qW (ns.map V.str) us
 | _,_,.nil=>.nil
 | _,_,.cons i t r=>.cons ⟨t,rfl⟩ (zev r)
noncomputable def rSorted (K:W.Frag):List V->Hp->VK->Prop:=fun xs H Q=>∃ a,xs=[.ref a]/\
 ((∃ ns:List Int,ns.length < 64/\SqL K H a (ns.map V.int)/\∀ ns':List Int,ns'.Perm ns->ns'.Pairwise (·<=·)->∀ q,H q=none->Q (.ref q) (upd H q (.lst (ns'.map V.int))))\/
  (∃ zs:List Str,zs.length < 64/\SqL K H a (zs.map V.str)/\∀ zs':List Str,zs'.Perm zs->sortedS zs'=true->∀ q,H q=none->Q (.ref q) (upd H q (.lst (zs'.map V.str)))))
theorem zec:CallR X (.builtin "sorted") (rSorted X.K):=by
 intro qZ s σ H xs us Q I r h
 obtain ⟨a,rfl,h⟩:=h
 cases r with
 | cons r1 r2=>
   cases r2
   cases r1
   rcases h with ⟨ns,h64,hq,q⟩ | ⟨zs,h64,hq,q⟩
   ·obtain ⟨zc,r,pl,_⟩:=I.list hq
    have q9:zc.length=ns.length:=by have:=r.length; rw [List.length_map] at this; exact this.symm
    refine sorted_ints pl.isList (zbm r) (by rw [q9]; exact h64) fun out ns' a1 a2 a3=>?_
    obtain ⟨e,he⟩:=sortedAll_at s.heap zc out
    have hz:ns'.length<=sizeLine:=by rw [a2.length_eq,qz]; lia
    refine ⟨.ref (s.heap.objs.size + 1),_,I.laid (t':=s.toks) (o:=.lst (ns'.map V.int)) (fun b ob w=>sortedAll_old w) (Nat.le_succ _) ?_,rfl,q ns' a2 a3 _ (I.hok.fresh (Nat.le_succ _))⟩
    exact ⟨by rw [List.length_map]; exact hz,out.toList,e,za9 a1,by rw [Array.toArray_toList]; exact he⟩
   ·obtain ⟨zc,r,pl,_⟩:=I.list hq
    have q9:zc.length=zs.length:=by have:=r.length; rw [List.length_map] at this; exact this.symm
    refine sorted_strs pl.isList (zbX r) (by rw [q9]; exact h64) fun out ns' a1 a2 a3=>?_
    obtain ⟨e,he⟩:=sortedAll_at s.heap zc out
    have hz:ns'.length<=sizeLine:=by rw [a2.length_eq,qz]; lia
    refine ⟨.ref (s.heap.objs.size + 1),_,I.laid (t':=s.toks) (o:=.lst (ns'.map V.str)) (fun b ob w=>sortedAll_old w) (Nat.le_succ _) ?_,rfl,q ns' a2 a3 _ (I.hok.fresh (Nat.le_succ _))⟩
    exact ⟨by rw [List.length_map]; exact hz,out.toList,e,zev a1,by rw [Array.toArray_toList]; exact he⟩
theorem zbC:∀ ns:List Int,qX K F (ns.map V.int) (ns.map D.int)
 | []=>.nil
 | n::ns=>.cons (.int n) (zbC ns)
theorem zd8:∀ zs:List Str,(∀ z∈zs,z.cps.toList.length<=16777216)->qX K F (zs.map V.str) (zs.map fun z=>D.str z.cps.toList)
 | [],_=>.nil
 | z::zs,h=>.cons (.str rfl (h z List.mem_cons_self)) (zd8 zs fun y hy=>h y (List.mem_cons_of_mem _ hy))
theorem zc3:∀ {xs:List V} {l:List D} {zs:List Str},qX K F xs l->xs=zs.map V.str->l=(zs.map fun z=>D.str z.cps.toList)/\∀ z∈zs,z.cps.toList.length<=16777216
 | _,_,[],.nil,_=>⟨rfl,fun _ h=>by cases h⟩
 | _,_,_::_,.nil,h=>by simp at h
 | _,_,[],.cons _ _,h=>by simp at h
 | _,_,z::zs,.cons a b,h=>by
   rw [List.map_cons] at h
   injection h with h1 h2
   subst h1
   obtain ⟨e,k⟩:=zc3 b h2
   cases a with
   | str e1 z1=>
     subst e1
     refine ⟨by rw [e]; rfl,fun y hy=>?_⟩
     rcases List.mem_cons.mp hy with rfl | hy
     ·exact z1
     ·exact k y hy
theorem zew:∀ (r:List Str) (p:Str),risingS p r=true->((p::r).map fun z=>D.str z.cps.toList).Pairwise (leD · ·=true)
 | [],p,_=>List.pairwise_singleton _ _
 | x::r,p,h=>by
   have h':(!ltCps x.cps.toList p.cps.toList && risingS x r)=true:=h
   rw [Bool.and_eq_true,ltCps_eq] at h'
   have ih:=zew r x h'.2
   have px:leD (.str p.cps.toList) (.str x.cps.toList)=true:=by rw [zck]; exact h'.1
   rw [List.map_cons]
   refine List.pairwise_cons.mpr ⟨fun d hd=>?_,ih⟩
   rw [List.map_cons] at hd ih
   rcases List.mem_cons.mp hd with rfl | hd
   ·exact px
   ·obtain ⟨z,_,rfl⟩:=List.mem_map.mp hd
    exact zeP.tr _ (.str x.cps.toList) _ trivial trivial trivial px ((List.pairwise_cons.mp ih).1 _ hd)
theorem zfT:∀ r:List Str,sortedS r=true->(r.map fun z=>D.str z.cps.toList).Pairwise (leD · ·=true)
 | [],_=>.nil
 | x::r,h=>zew r x h
theorem zeJ:DoesB K (rSorted K) bSorted:=by
 intro σ U F G H vs ds s Q q8 re e hq
 obtain ⟨d,v,rfl,rfl⟩:=arg1 (fun x y r=>by cases x <;> rfl) rfl re e
 cases d with
 | lst l=>
   have e:sortS l=some s:=e
   unfold sortS at e
   split at e
   ·rename_i hc
    cases e
    obtain ⟨a,xs,rfl,h1,r1⟩:=re.1.lst q8.fr
    refine ⟨a,rfl,?_⟩
    cases q1:intsD l with
    | some ns=>
      obtain ⟨e1,e2⟩:=zeA r1 q1
      subst e1
      subst e2
      refine .inl ⟨ns,by have:=hc.1; rwa [List.length_map] at this,h1,fun ns' p pw q hq'=>?_⟩
      have es:sortD (ns.map D.int)=ns'.map D.int:=zbA zgN (fun d hd=>by obtain ⟨z,_,rfl⟩:=List.mem_map.mp hd; trivial) (p.map _) (List.pairwise_map.mpr (pw.imp fun {a b} h=>by rw [zdJ]; exact qj h))
      rw [es] at hq
      exact hq _ F _ (qK.refl F) (q8.newLD hq' (zbC ns'))
    | none=>
      cases q2:strsD l with
      | none=>rw [q1,q2] at hc; simp at hc
      | some ys=>
        obtain ⟨zs,e1,e2⟩:=zgL r1 q2
        subst e1
        obtain ⟨e3,sm⟩:=zc3 r1 rfl
        subst e3
        refine .inr ⟨zs,by have:=hc.1; rwa [List.length_map] at this,h1,fun zs' p pw q hq'=>?_⟩
        have es:sortD (zs.map fun z=>D.str z.cps.toList)=zs'.map fun z=>D.str z.cps.toList:=zbA zeP (fun d hd=>by obtain ⟨z,_,rfl⟩:=List.mem_map.mp hd; trivial) (p.map _) (zfT zs' pw)
        rw [es] at hq
        exact hq _ F _ (qK.refl F) (q8.newLD hq' (zd8 zs' fun z hz=>sm z (p.mem_iff.mp hz)))
   ·cases e
 | _=>cases e
end
mutual
noncomputable def toPy:D->PyData
 | .non=>.none
 | .bl b=>.bool b
 | .int i=>.int i
 | .str l=>.str ⟨l.toArray⟩
 | .tup l=>.tuple (toPys l)
 | .lst l=>.list (toPys l)
 | _=>.none
noncomputable def toPys:List D->List PyData
 | []=>[]
 | d::r=>toPy d::toPys r
end
mutual
noncomputable def showD:D->Bool
 | .non=>true
 | .bl _=>true
 | .int i=>decide (i.natAbs.log2 < 1920)
 | .str _=>true
 | .tup l=>showDs l
 | .lst l=>showDs l
 | _=>false
noncomputable def showDs:List D->Bool
 | []=>true
 | d::r=>showD d && showDs r
end
noncomputable def isSeq:D->Bool
 | .tup _=>true
 | .lst _=>true
 | _=>false
mutual
theorem zcH:∀ d:D,showD d=true->(toPy d).showable=true
 | .non,_=>rfl
 | .bl _,_=>rfl
 | .int i,h=>h
 | .str _,_=>rfl
 | .tup l,h=>zbe l h
 | .lst l,h=>zbe l h
 | .dct _ _ _,h=>by cases h
 | .set _,h=>by cases h
 | .exc _ _ _,h=>by cases h
theorem zbe:∀ l:List D,showDs l=true->PyData.showableAll (toPys l)=true
 | [],_=>rfl
 | d::r,h=>by
   rw [showDs,Bool.and_eq_true] at h
   rw [toPys,PyData.showableAll,zcH d h.1,zbe r h.2]
   rfl
end
mutual
theorem zd9:∀ d:D,(toPy d).hasDict=false
 | .non=>rfl
 | .bl _=>rfl
 | .int i=>rfl
 | .str _=>rfl
 | .tup l=>zb1 l
 | .lst l=>zb1 l
 | .dct _ _ _=>rfl
 | .set _=>rfl
 | .exc _ _ _=>rfl
theorem zb1:∀ l:List D,PyData.hasDictAll (toPys l)=false
 | []=>rfl
 | d::r=>by
   rw [toPys,PyData.hasDictAll,zd9 d,zb1 r]
   rfl
end
mutual
theorem zfj:∀ d:D,(toPy d).depth<=dep d
 | .non=>Nat.le_refl _
 | .bl _=>Nat.le_refl _
 | .int i=>Nat.le_refl _
 | .str _=>Nat.le_refl _
 | .tup l=>Nat.succ_le_succ (zcr l)
 | .lst l=>Nat.succ_le_succ (zcr l)
 | .dct _ _ _=>Nat.le_refl _
 | .set _=>Nat.le_refl _
 | .exc _ _ _=>Nat.le_refl _
theorem zcr:∀ l:List D,PyData.depthAll (toPys l)<=deps l
 | []=>Nat.le_refl _
 | d::r=>by
   have h1:=zfj d
   have h2:=zcr r
   simp only [toPys,PyData.depthAll,deps]
   lia
end
theorem ziO (I:Inv X qZ σ H s) (q:Rep X.K H v d) (r:qO v u) (h:showD d=true):∃ as,Reads s.heap u (toPy d) as:=by
 refine Rep.rec (motive_1:=fun v d _=>∀ u,qO v u->showD d=true->∃ as,Reads s.heap u (toPy d) as) (motive_2:=fun vs l _=>∀ us,qW vs us->showDs l=true->∃ as,ReadsAll s.heap us (toPys l) as) ?_ ?_ ?_ ?_ ?_ ?_ ?_ ?_ ?_ ?_ ?_ ?_ q u r h
 ·intro u r _; cases r; exact ⟨[],.none⟩
 ·intro b u r _; cases r; exact ⟨[],.bool b⟩
 ·intro i u r _; obtain ⟨t,rfl⟩:=r; exact ⟨[],.int i t⟩
 ·intro x l e z u r _
  obtain ⟨t,rfl⟩:=r
  subst e
  exact ⟨[],.str _ t⟩
 ·intro a xs ds e q ih u r h
  cases r
  obtain ⟨zc,rv,⟨o,g,c,n,dt⟩,_⟩:=I.tuple (SqT.of e)
  obtain ⟨as,ra⟩:=ih _ rv h
  exact ⟨as,.tuple g c dt ra⟩
 ·intro a xs ds e q ih u r h
  cases r
  obtain ⟨zc,rv,⟨o,n,g,c,_,dt⟩,_⟩:=I.list e
  obtain ⟨as,ra⟩:=ih _ rv h
  exact ⟨_::as,.list g c dt ra⟩
 ·intro _ _ _ _ _ _ _ _ _ _ h; cases h
 ·intro _ _ _ _ _ _ _ _ _ _ h; cases h
 ·intro _ _ _ _ _ _ _ _ h; cases h
 ·intro _ _ _ _ _ _ _ _ _ _ _ h; cases h
 ·intro us r _; cases r; exact ⟨[],.nil⟩
 ·intro x d xs ds _ _ i1 i2 us r h
  rw [showDs,Bool.and_eq_true] at h
  cases r with
  | cons r1 r2=>
    obtain ⟨as,h1⟩:=i1 _ r1 h.1
    obtain ⟨bs,h2⟩:=i2 _ r2 h.2
    exact ⟨as++bs,.cons h1 h2⟩
end FL
namespace FL
open PySem
noncomputable def atD (l m:List Nat) (i:Nat):Bool:=decide (i + m.length<=l.length) && decide ((l.drop i).take m.length=m)
noncomputable def findD (l m:List Nat):Option Nat:=(List.range (l.length + 1)).find? (atD l m)
noncomputable def bListA:List D->Option S
 | [.tup l]=>some (.lst (l.map .sh))
 | [.lst l]=>some (.lst (l.map .sh))
 | [.str l]=>if l.length<=big then some (.lst (l.map fun c=>.sh (.str [c]))) else none
 | _=>none
theorem find?_first (h:i < n) (hp:p i=true) (hn:∀ k,k < i->p k=false):(List.range n).find? p=some i:=by
 first | rfl | assumption | (simp_all; done)
theorem find?_not (hn:∀ k,p k=false):(List.range n).find? p=none:=by
 grind
end FL
namespace FL
open PySem PySem.Spec PyProof.Rows L2
section
variable {K:W.Frag}
theorem zjq:StrLaws.At x y x.length i↔atD x.cps.toList y.cps.toList i=true:=by
 have h1:x.length=x.cps.toList.length:=by show x.cps.size=_; rw [Array.length_toList]
 have h2:y.length=y.cps.toList.length:=by show y.cps.size=_; rw [Array.length_toList]
 unfold StrLaws.At atD Builtin.Str.subAt
 rw [Bool.and_eq_true,qm,qm,h1,h2,beq_iff_eq]
 refine and_congr_right fun _=>?_
 rw [<- Array.toList_inj,Array.toList_extract,List.extract_eq_take_drop]
 have:i + y.cps.toList.length - i=y.cps.toList.length:=by lia
 rw [this]
theorem zjT (x y:Str):Txt.find x y=(match findD x.cps.toList y.cps.toList with | some i=>(i:Int) | none=>-1):=by
 have hn:∀ {i},¬ StrLaws.At x y x.length i->atD x.cps.toList y.cps.toList i=false:=fun {i} h=>by
  cases q:atD x.cps.toList y.cps.toList i with
  | false=>rfl
  | true=>exact absurd (zjq.mpr q) h
 rcases find_whole x y with ⟨e,h⟩ | ⟨i,e,hi,h⟩
 ·rw [e]
  unfold findD
  rw [find?_not fun k=>hn (h k)]
 ·rw [e]
  unfold findD
  have h3:=hi.1
  have h1:x.length=x.cps.toList.length:=by show x.cps.size=_; rw [Array.length_toList]
  rw [find?_first (i:=i) (by rw [<- h1]; lia) (zjq.mp hi) fun k hk=>hn (h k hk)]
noncomputable def rListS:List V->Hp->VK->Prop:=fun xs H Q=>∃ x:Str,xs=[.str x]/\x.length<=sizeLine/\∀ l,H l=none->Q (.ref l) (upd H l (.lst (x.cps.toList.map fun c=>.str ⟨#[c]⟩)))
theorem zbz:∀ {xs:List V} {us:List Value},xs.length=us.length->(∀ (j:Nat) x u,xs[j]?=some x->us[j]?=some u->qO x u)->qW xs us
 | [],[],_,_=>.nil
 | [],_::_,h,_=>by simp at h
 | _::_,[],h,_=>by simp at h
 | x::xs,u::us,h,k=>.cons (k 0 x u rfl rfl) (zbz (by simpa using h) fun j x' u' h1 h2=>k (j + 1) x' u' (by simpa using h1) (by simpa using h2))
theorem zcV (hc:X.calm=true):CallR X (.type "list") rListS:=by
 intro qZ s σ H xs us Q I r h
 obtain ⟨x,rfl,hz,q⟩:=h
 obtain ⟨u,rfl,rx⟩:=vals1 r
 obtain ⟨t,rfl⟩:=rx
 refine call_list_str (I.ok.hd hc) x t (hn:=hz) fun h' tk acc' c' hk hS' hacc=>?_
 have hv:qW (x.cps.toList.map fun c=>V.str ⟨#[c]⟩) acc'.toList:=zbz (by rw [List.length_map,Array.length_toList,Array.length_toList,hacc.1]) fun j y v h1 h2=>by
  obtain ⟨c,u,hc,rfl⟩:=hacc.2 j v (by rw [<- Array.getElem?_toList]; exact h2)
  rw [List.getElem?_map,Array.getElem?_toList,hc] at h1
  cases h1
  exact ⟨u,rfl⟩
 refine ⟨.ref s.heap.objs.size,_,I.laid (t':=tk) hk (Nat.le_refl _) (show qY X.prog X.w _ h' _ (.lst (x.cps.toList.map fun c=>V.str ⟨#[c]⟩)) from ⟨?_,acc'.toList,c',hv,by simpa using hS'⟩),rfl,q _ (I.hok.fresh (Nat.le_refl _))⟩
 rw [List.length_map,Array.length_toList]; exact hz
noncomputable def rListA (K:W.Frag):List V->Hp->VK->Prop:=fun xs H Q=>rList K xs H Q\/rListS xs H Q
theorem zcZ:∀ l:List Nat,qX K F (l.map fun c=>V.str ⟨#[c]⟩) (l.map fun c=>D.str [c])
 | []=>.nil
 | c::l=>.cons (.str rfl (by show 1<=16777216; decide)) (zcZ l)
theorem zfN:DoesB K (rListA K) bListA:=by
 intro σ U F G H vs ds s Q q8 re e hq
 obtain ⟨d,v,rfl,rfl⟩:=arg1 (fun x y r=>by cases x <;> rfl) rfl re e
 cases d with
 | tup l=>exact .inl (zep σ U F G H [v] [.tup l] s Q q8 re e hq)
 | lst l=>exact .inl (zep σ U F G H [v] [.lst l] s Q q8 re e hq)
 | str l=>
   obtain ⟨x,rfl,e1,z⟩:=re.1.str
   have e:(if l.length<=big then some (S.lst (l.map fun c=>S.sh (.str [c]))) else none)=some s:=e
   split at e
   ·rename_i hb
    cases e
    refine .inr ⟨x,rfl,by rw [zbY e1]; exact zb8 hb,fun p hp=>?_⟩
    rw [e1]
    have h:=q8.newLD hp (zcZ l)
    rw [List.map_map] at h
    exact hq (.ref p) F (upd H p (.lst (l.map fun c=>V.str ⟨#[c]⟩))) (qK.refl F) h
   ·cases e
 | _=>cases e
theorem zdn (hc:X.calm=true) (hg:Gl X "list") (hm:X.mg "list"=none) (hv:bootBuiltins "list"=some (.type "list")) (ha:FA X (e::es) wa) (he:starEach (e::es) X.env=(false,eval e X.env)::starEach es X.env:=by rfl) (hpl:(backTo pos (starEach es X.env)).any (·.1)=false:=by rfl):FE X (.Call (.Name "list" p) (e::es) [] pos) (wB bListA wa):=
 zcB (fun pn xe=>CallR.or' zdN (zcV (X:=wp X pn xe) hc)) zfN hg hm hv ha (by decide) (by decide) he hpl
end
theorem zeb:bootBuiltins "int"=some (.type "int"):=by decide +kernel
theorem zbo:bootBuiltins "tuple"=some (.type "tuple"):=by decide +kernel
theorem zdt:bootBuiltins "list"=some (.type "list"):=by decide +kernel
theorem zjt:bootBuiltins "max"=some (.builtin "max"):=by decide +kernel
theorem zgn:bootBuiltins "min"=some (.builtin "min"):=by decide +kernel
theorem zco:bootBuiltins "sorted"=some (.builtin "sorted"):=by decide +kernel
theorem za4:bootBuiltins "isinstance"=some (.builtin "isinstance"):=by decide +kernel
theorem u32 (hr:Room k A):A.units + 32 < cLine:=by have:=hr.units; lia
theorem u31 (hr:Room k A):A.units + 31 < cLine:=by have:=hr.units; lia
theorem uq {N:List Str} (h:(N.zipIdx.all fun p=>!(p.1 == x) || p.2 == i)=true):∀ j,N[j]?=some x->j=i:=by
 intro j hj
 have hj':j < N.length:=(qh.mp hj).1
 have:=List.all_eq_true.mp h (x,j) (by rw [List.mem_zipIdx_iff_getElem?]; simpa using hj)
 simpa using this
instance (outer scope:Scope) (N vars:List Str):Decidable (scope.kind=.function/\(∀ x∈scope.names,x.2=.free->outer.names.lookup x.1=some .cell\/outer.names.lookup x.1=some .free)/\(scope.names.map (·.1)).Nodup/\
  (∀ x∈N,x∉vars->(x,NameKind.local)∉scope.names/\(x,NameKind.cell)∉scope.names)/\scope.names.lookup Str.empty=none):=inferInstance
noncomputable def compOk (outer scope:Scope) (N vars:List Str):Bool:=decide (scope.kind=.function/\(∀ x∈scope.names,x.2=.free->outer.names.lookup x.1=some .cell\/outer.names.lookup x.1=some .free)/\(scope.names.map (·.1)).Nodup/\
    (∀ x∈N,x∉vars->(x,NameKind.local)∉scope.names/\(x,NameKind.cell)∉scope.names)/\scope.names.lookup Str.empty=none)
theorem compSc (h:compOk outer scope N vars=true):CompScope outer scope N vars:=
 let ⟨a,b,c,d,e⟩:=qo h
 ⟨a,b,c,d,e⟩
theorem zi9 {K:W.Frag} (r:SRep K F H v (.sh (.bl true)) fp):v=.bl true:=by
 cases r with
 | sh r=>cases r; rfl
theorem zmu {K:W.Frag} (h:∀ ns:List Int,ns.length<=63->wf [.sh (.lst (ns.map .int))] (fun s _=>s=.sh (.bl true)) fun _ _=>False) (H:Hp) (a:Addr) (ns:List Int) (hl:ns.length<=63) (hS:SqL K H a (ns.map V.int)):
  spW K wf 1 [.ref a] H (fun v _=>v=.bl true) fun _ _ _=>False:=by
 refine ⟨H,fun _=>none,[.sh (.lst (ns.map .int))],_,_,rfl,⟨qK.refl H,fun _ _ z=>(nomatch z),[]++[],.so (.sh (.lst hS (zbC ns))) .nil,List.nodup_nil,fun _ z=>(nomatch z)⟩,h ns hl,fun s ss' v F' H' hs sm q9 r=>?_,fun _ _ _ _ _ _ z=>z.elim⟩
 subst hs
 obtain ⟨u,fp,e1,q⟩:=r.at (i:=ss'.length) (s:=.sh (.bl true)) (by
  have:=zaK (U:=ss'.map some) (o:=some (.sh (.bl true))) (U':=[])
  simpa using this)
 have hl1:ss'.length=1:=q9
 rw [hl1] at e1
 have:u=v:=by simpa using e1.symm
 rw [<- this]
 exact zi9 q
end FL
namespace FL
open PySem PySem.Spec PyProof.Rows L2
theorem zhl (ha:FE X a wa):FE X (.UnaryOp .USub a pos) (wUn oNeg wa):=fun pn xe hp=>by
 refine PE.imp (znK znb (ha pn xe hp)) fun σ H Q q=>?_
 refine (one (k:=fun x U1 Q E=>qJ (qV x U1) fun p=>qJ (oNeg p) fun s=>Q (.v s) U1) q).mono fun v H1 h1=>?_
 obtain ⟨F,G,U,x,P,PX,q8,hl,rx,hk,hok,hx⟩:=h1
 obtain ⟨p,ep,hk⟩:=zae hk
 obtain ⟨s,es,hk⟩:=zae hk
 obtain ⟨F1,s1,re,r1⟩:=takeC (U':=[]) (σ':=[]) q8 hl rx ep
 cases p with
 | int i=>
   cases es
   have e:=re.int
   subst e
   exact ⟨i,rfl,hok _ U _ F1 H1 hk s1 ((show Rel _ U σ F1 G H1 by simpa using r1).push (.int _)) trivial⟩
 | _=>cases es
open AutoSeq1 (wpAny_loadPart')
theorem zme (hu:s.heap.IsTupleIter u z n) (hz:s.heap.IsTuple z xs) (hv:xs[n]?=some v) (k:∀ h',h'.IsTupleIter u z (n + 1)->Heap.SameBut u s.heap h'->Q v { s with heap:=h' }):
  wpAny (model prog w) A (Builtin.SmallTypes.nextOf (.ref u)) Q E s:=by
 obtain ⟨ob,e0,e1,e2⟩:=id hu
 obtain ⟨zb,f0,_,zn,f2⟩:=hz
 unfold Builtin.SmallTypes.nextOf
 apply qa
 refine wpAny_callSpecial?_slot (name:=Str.ofString "__next__") hu.typeIs F.slot_tuple_iterator_next (qy F.slot_tuple_iterator_next hu.typeIs F.entry_tuple_iterator_next ?_ (F.args_tuple_iterator_next_1 _))
 show wpAny _ _ (field (.ref u) 0 >>= _) _ _ _
 apply qa
 refine qv e0 e2 (x:=.ref z) rfl ?_
 show wpAny _ _ (if (Value.ref z == Value.none)=true then _ else _) _ _ _
 rw [qr (show ¬ ((Value.ref z == Value.none)=true) from qp)]
 show wpAny _ _ (field (.ref u) 1 >>= _) _ _ _
 apply qa
 refine qv e0 e2 (x:=.int n 0) rfl ?_
 show wpAny _ _ (seqItems? (.ref z) >>= _) _ _ _
 apply qa
 refine wpAny_seqItems f0 f2 ?_
 simp only [Int.toNat_natCast,hv]
 apply qa
 refine wpAny_setField e0 e2 (by simp) (qb ⟨v,rfl,qb (k _ ⟨_,qu _ e0 (Obj.isFreed_of_fields (Obj.data_mapFields e2 _)),(Obj.cls_mapFields ..).trans e1,?_⟩ (Heap.SameBut.update ..))⟩)
 rw [Obj.data_mapFields e2]
 simp [rawInt]
theorem zc2 (hh:A.handled=none) (hu:s.heap.IsTupleIter u z n) (hz:s.heap.IsTuple z xs) (hv:xs[n]?=none)
  (k:∀ h' e,Heap.ExtBut u s.heap h'->(∃ o,h'.get? e=some o/\o.cls=.type "StopIteration")->E (.ref e) { s with heap:=h' }):wpAny (model prog w) A (Builtin.SmallTypes.nextOf (.ref u)) Q E s:=by
 obtain ⟨ob,e0,e1,e2⟩:=id hu
 obtain ⟨zb,f0,_,zn,f2⟩:=hz
 unfold Builtin.SmallTypes.nextOf
 apply qa
 refine wpAny_callSpecial?_slot (name:=Str.ofString "__next__") hu.typeIs F.slot_tuple_iterator_next (qy F.slot_tuple_iterator_next hu.typeIs F.entry_tuple_iterator_next ?_ (F.args_tuple_iterator_next_1 _))
 show wpAny _ _ (field (.ref u) 0 >>= _) _ _ _
 apply qa
 refine qv e0 e2 (x:=.ref z) rfl ?_
 show wpAny _ _ (if (Value.ref z == Value.none)=true then _ else _) _ _ _
 rw [qr (show ¬ ((Value.ref z == Value.none)=true) from qp)]
 show wpAny _ _ (field (.ref u) 1 >>= _) _ _ _
 apply qa
 refine qv e0 e2 (x:=.int n 0) rfl ?_
 show wpAny _ _ (seqItems? (.ref z) >>= _) _ _ _
 apply qa
 refine wpAny_seqItems f0 f2 ?_
 simp only [Int.toNat_natCast,hv]
 apply qa
 apply wpAny_rule
 apply qa
 refine wpAny_setField e0 e2 (by simp) ?_
 show wpAny _ _ (newExc (.type "StopIteration") [] >>= _) _ _ _
 apply qa
 simp only [newExc,newTuple]
 apply qa
 refine qw ?_ (by size_fits)
 refine qa (m:=firstArgMember _ _) (wpAny_of_eq (a:=Value.none) (by first | rfl | (simp only [firstArgMember]; rfl)) (qw ?_ (by size_fits)))
 simp only [raiseNew]
 apply qa
 refine wpAny_handled ?_
 first | rw [show A.in1.handled=none from hh] | rw [hh]
 exact qa (qb (wpAny_throw (k _ _ (((Heap.SameBut.update ..).extBut.push _).push _) ⟨_,qd _ rfl,rfl⟩)))
theorem zgB {prog:Program} {w:World} {A:Around} (hh:A.handled=none) (u z:Addr) (hne:z≠u) (xs:Array Value):
  Draws prog w A u [u,z] xs.size (fun i v=>xs[i]?=some v) (fun i h=>h.IsTupleIter u z i/\h.IsTuple z xs) where
 live:=fun _ _ st=>let ⟨o,e,_⟩:=st.1; ⟨o,e⟩
 frame:=fun _ _ _ st k=>⟨st.1.at fun o e=>k u (by simp) o e,by obtain ⟨o,e,r⟩:=st.2; exact ⟨o,k z (by simp) o e,r⟩⟩
 item:=fun i s Q E hi st k=>zme st.1 st.2 (v:=xs[i]) (by simp [hi]) fun h' a b=>k _ h' s.toks (by simp [hi]) ⟨a,by obtain ⟨o,e,r⟩:=st.2; exact ⟨o,b.extBut _ _ hne e,r⟩⟩ b
 done:=fun s Q E st k=>zc2 hh st.1 st.2 (by simp) k
inductive SrcI (P:Program) (w:World) (A:Around) (it:Addr) (J:It) (tn:Nat->Heap->Prop) (i:Nat) (s:Shared) (H:Hp):Prop
 | mk (fp:List Addr) (n:Nat) (Pr:Nat->Value->Prop) (Sx:Nat->Heap->Prop):Draws P w A it fp n Pr Sx->Sx i s.heap->i < n->it∈fp->(∀ b∈fp,b=it\/(H b≠none/\∃ o,s.heap.get? b=some o/\o.cls=.type "tuple")\/∃ o,s.heap.get? b=some o/\o.cls=.type "list")->(∀ v,Pr i v->∃ x,qO x v/\J.yld i H x H)->(∀ h',Sx (i + 1) h'->tn (i + 1) h')->SrcI P w A it J tn i s H
structure Src (P:Program) (w:World) (K:W.Frag) (J:It) (it:Addr) (tn:Nat->Heap->Prop):Prop where
 live:∀ i h,tn i h->∃ o,h.get? it=some o/\(∀ v,o.data≠.cell v)/\o.cls≠.type "enumerate"/\o.cls≠.type "zip"/\o.cls≠.type "tuple"/\o.cls≠.type "list"
 keep:∀ i h h',tn i h->(∀ o,h.get? it=some o->h'.get? it=some o)->tn i h'
 yl:∀ i H x H',J.yld i H x H'->H'=H
 item:∀ (X:Cx),X.prog=P->X.w=w->X.K=K->∀ (i:Nat) (qZ:List (Addr×Obj)) (s:Shared) (σ:St) (H:Hp) (A:Around),A.handled=none->Inv X qZ σ H s->tn i s.heap->H it=none->J.go i H->
  SrcI P w A it J tn i s H
 done:∀ (X:Cx),X.prog=P->X.w=w->X.K=K->∀ (i:Nat) (qZ:List (Addr×Obj)) (s:Shared) (σ:St) (H:Hp) (A:Around),A.handled=none->Inv X qZ σ H s->tn i s.heap->J.stop i H->∀ (Q:qE) (E:qE),
  (∀ h' e,Heap.ExtBut it s.heap h'->(∃ o,h'.get? e=some o/\o.cls=.type "StopIteration")->E (.ref e) { s with heap:=h' })->wpAny (model P w) A (Builtin.SmallTypes.nextOf (.ref it)) Q E s
theorem ze4 {P:Program} {w:World} {K:W.Frag} (a it:Addr):Src P w K (Itl K a) it (fun i h=>h.IsListIter it a i) where
 live:=fun i h st=>by
  obtain ⟨o,e,c,d⟩:=st
  exact ⟨o,e,fun v z=>by (rw [d] at z; cases z),by rw [c]; decide,by rw [c]; decide,by rw [c]; decide,by rw [c]; decide⟩
 keep:=fun i h h' st k=>st.at k
 yl:=fun i H x H' h=>h.1
 item:=by
  intro X hP hw hK i qZ s σ H A hh I st hn hg
  subst hP hw hK
  obtain ⟨xs,x,hq,hx⟩:=hg
  obtain ⟨zc,rv,p,hz⟩:=I.list hq
  obtain ⟨lo,l1,l2,l3⟩:=id p.isList
  have hne:a≠it:=fun z=>by
   obtain ⟨o,e,c,d⟩:=id st
   rw [<- z,l1] at e
   cases e
   rw [l2] at c
   exact absurd c (by decide)
  have hl:=rv.length
  have hi:i < zc.toArray.size:=by
   have:=(qh.mp hx).1
   rw [List.size_toArray]; lia
  refine ⟨_,_,_,_,Draws.list hh it a hne zc.toArray,⟨st,p.isList⟩,hi,m1,fun b hb=>?_,fun v hv=>?_,fun h' z=>z.1⟩
  ·simp at hb
   rcases hb with rfl | rfl
   ·exact .inl rfl
   ·exact .inr (.inr ⟨lo,l1,l2⟩)
  ·obtain ⟨u,hu,ru⟩:=rv.get hx
   have:u=v:=by
    have hv':zc[i]?=some v:=by simpa using hv
    rw [hu] at hv'; exact qg hv'
   subst this
   exact ⟨x,ru,rfl,fun ys hy=>by rw [I.list_inj hy hq]; exact hx⟩
 done:=by
  intro X hP hw hK i qZ s σ H A hh I st hg Q E k
  subst hP hw hK
  obtain ⟨xs,hq,hx⟩:=hg
  obtain ⟨zc,rv,p,hz⟩:=I.list hq
  have hl:=rv.length
  exact wpAny_nextOf_list_end hh st p.isList (by simp; lia) k
noncomputable def Itu (a:Addr):It:=⟨fun i H=>∃ xs x,H a=some (.tup xs)/\xs[i]?=some x,fun i H x H'=>H'=H/\∀ xs,H a=some (.tup xs)->xs[i]?=some x,fun i H=>∃ xs,H a=some (.tup xs)/\xs.length<=i⟩
theorem zhx {P:Program} {w:World} {K:W.Frag} (a it:Addr):Src P w K (Itu a) it (fun i h=>h.IsTupleIter it a i) where
 live:=fun i h st=>by
  obtain ⟨o,e,c,d⟩:=st
  exact ⟨o,e,fun v z=>by (rw [d] at z; cases z),by rw [c]; decide,by rw [c]; decide,by rw [c]; decide,by rw [c]; decide⟩
 keep:=fun i h h' st k=>st.at k
 yl:=fun i H x H' h=>h.1
 item:=by
  intro X hP hw hK i qZ s σ H A hh I st hn hg
  subst hP hw hK
  obtain ⟨xs,x,hq,hx⟩:=hg
  obtain ⟨zc,rv,p,hz⟩:=I.tuple (SqT.of hq)
  obtain ⟨lo,l1,l2,l3⟩:=id p
  have hne:a≠it:=fun z=>by rw [z,hn] at hq; cases hq
  have hl:=rv.length
  have hi:i < zc.toArray.size:=by
   grind
  refine ⟨_,_,_,_,zgB hh it a hne zc.toArray,⟨st,p⟩,hi,m1,fun b hb=>?_,fun v hv=>?_,fun h' z=>z.1⟩
  ·grind
  ·obtain ⟨u,hu,ru⟩:=rv.get hx
   have:u=v:=by
    grind
   subst this
   exact ⟨x,ru,rfl,fun ys hy=>by rw [hq] at hy; cases hy; exact hx⟩
 done:=by
  intro X hP hw hK i qZ s σ H A hh I st hg Q E k
  subst hP hw hK
  obtain ⟨xs,hq,hx⟩:=hg
  obtain ⟨zc,rv,p,hz⟩:=I.tuple (SqT.of hq)
  have hl:=rv.length
  exact zc2 hh st p (by simp; lia) k
theorem zhb {P:Program} {w:World} {K:W.Frag} (it:Addr) (x:Str) (t:Tok):Src P w K (Its x) it (fun i h=>h.IsStrIter it (strIterType x) x t i) where
 live:=fun i h st=>by
  obtain ⟨o,e,c,d⟩:=st
  have hc:o.cls=.type "str_ascii_iterator"\/o.cls=.type "str_iterator":=by
   rw [c]; unfold strIterType; split
   ·exact .inl rfl
   ·exact .inr rfl
  grind
 keep:=fun i h h' st k=>by
  obtain ⟨o,e,r⟩:=st
  exact ⟨o,k o e,r⟩
 yl:=fun i H x H' h=>h.1
 item:=by
  intro X hP hw hK i qZ s σ H A hh I st hn hg
  subst hP hw hK
  have fin:∀ v:Value,(∃ c u,x.cps[i]?=some c/\v=.str ⟨#[c]⟩ u)->∃ y,qO y v/\(Its x).yld i H y H:=fun v ⟨c,u,e,ev⟩=>⟨.str ⟨#[c]⟩,by rw [ev]; exact ⟨u,rfl⟩,rfl,c,e,rfl⟩
  cases ha:x.cps.all (· < 128)
  ·have e:strIterType x="str_iterator":=by unfold strIterType; rw [ha]; rfl
   rw [e] at st ⊢
   exact ⟨_,_,_,_,Draws.strWide hh it x t,st,hg,m1,fun b hb=>.inl (by simpa using hb),fin,fun _ z=>z⟩
  ·have e:strIterType x="str_ascii_iterator":=by unfold strIterType; rw [ha]; rfl
   rw [e] at st ⊢
   exact ⟨_,_,_,_,Draws.strAscii hh it x t,st,hg,m1,fun b hb=>.inl (by simpa using hb),fin,fun _ z=>z⟩
 done:=by
  intro X hP hw hK i qZ s σ H A hh I st hg Q E k
  have hn:x.cps[i]?=none:=by
   have:x.cps.size<=i:=hg
   simp [this]
  cases ha:x.cps.all (· < 128)
  ·have e:strIterType x="str_iterator":=by unfold strIterType; rw [ha]; rfl
   rw [e] at st
   exact wpAny_nextOf_wide_end hh st hn k
  ·have e:strIterType x="str_ascii_iterator":=by unfold strIterType; rw [ha]; rfl
   rw [e] at st
   exact wpAny_nextOf_ascii_end hh st hn k
end FL
namespace FL
noncomputable def enumF (k:Nat):List D->List D
 | []=>[]
 | d::l=>.tup [.int k,d]::enumF (k + 1) l
noncomputable def wEnum (a:WE):WI:=fun U Q E=>a U (fun r U1=>qJ (give r U1) fun p=>qJ (items p.1.toD) fun l=>Q (enumF 0 l) p.2) E
noncomputable def zipD:List D->List D->List D
 | d::l,e::m=>.tup [d,e]::zipD l m
 | _,_=>[]
noncomputable def wZip (a b:WE):WI:=fun U Q E=>a U (fun r U1=>b U1 (fun t U2=>qJ (give r U2) fun p=>qJ (give t p.2) fun q=>qJ (items p.1.toD) fun l=>qJ (items q.1.toD) fun m=>Q (zipD l m) q.2) E) E
theorem zd0:∀ (l:List D) (k i:Nat) (d:D),(enumF k l)[i]?=some d->∃ e,l[i]?=some e/\d=.tup [.int ((k + i:Nat):Int),e]
 | [],_,_,_,h=>by simp [enumF] at h
 | e::l,k,0,d,h=>by
   simp [enumF] at h
   exact ⟨e,rfl,by simpa using h.symm⟩
 | e::l,k,i + 1,d,h=>by
   obtain ⟨e',h1,h2⟩:=zd0 l (k + 1) i d (by simpa [enumF] using h)
   exact ⟨e',by simpa using h1,by rw [h2]; congr 4; lia⟩
theorem zes:∀ (l:List D) (k:Nat),(enumF k l).length=l.length
 | [],_=>rfl
 | _::l,k=>by simp [enumF,zes l]
theorem zfs:∀ (l m:List D) (i:Nat) (d:D),(zipD l m)[i]?=some d->∃ e f,l[i]?=some e/\m[i]?=some f/\d=.tup [e,f]
 | [],_,_,_,h=>by simp [zipD] at h
 | _::_,[],_,_,h=>by simp [zipD] at h
 | e::l,f::m,0,d,h=>by
   simp [zipD] at h
   exact ⟨e,f,rfl,rfl,h.symm⟩
 | e::l,f::m,i + 1,d,h=>by
   obtain ⟨e',f',h1,h2,h3⟩:=zfs l m i d (by simpa [zipD] using h)
   exact ⟨e',f',by simpa using h1,by simpa using h2,h3⟩
theorem ze2:∀ (l m:List D),(zipD l m).length=min l.length m.length
 | [],_=>by simp [zipD]
 | _::_,[]=>by simp [zipD]
 | _::l,_::m=>by simp [zipD,ze2 l m]
end FL
namespace FL
open PySem PySem.Spec PyProof.Rows L2
open AutoSeq1 (wpAny_loadPart')
theorem zbb {ch:List Addr} (I:Inv X qZ σ H s) (hf:∀ b∈ch,FpOk X qZ H b) (k:∀ b o,b∉ch->s.heap.get? b=some o->h'.get? b=some o):Inv X qZ σ H { s with heap:=h',toks:=t' }:=by
 have nit:∀ b u,H b=some u->b∉ch:=fun b u e z=>by rw [(hf b z).1] at e; cases e
 refine I.step (g':=s.gens) (d':=s.drawn) (ch:=ch) (fun b hb=>?_) (fun b o _ _ hc e _=>k b o hc e) (fun b o _ _ hc e _=>⟨o.slots,k b o hc e⟩) (fun _ _ _ _ n=>n)
  (fun b o hc e=>⟨o,k b o hc e⟩) (fun _ _ e=>e) (fun _ _ _ e=>e) (fun b ps e=>⟨#[],by rw [e]; simp⟩) (fun m hm=>?_) (fun b u e=>?_) I.bare
 ·obtain ⟨f0,f1,f2,f3,f4,f5⟩:=hf b hb
  exact ⟨f3,f1,f4,f5⟩
 ·obtain ⟨o,es,ep,ho,r⟩:=hm
  exact ⟨o,es,ep,k _ o (fun z=>(hf _ z).2.1 rfl) ho,r⟩
 ·refine (I.hok b u e).stay (fun c v hc q=>k c v ?_ q) (fun _ q=>q) fun _ _ q=>q
  grind
theorem zis (f:FpOk X qZ H b) (h:b≠T):FpOk X qZ (L2.upd H T o) b:=⟨by rw [zag h]; exact f.1,f.2⟩
theorem zci {ch:List Addr} (I:Inv X qZ σ H s) (hf:∀ b∈ch,FpOk X qZ H b) (hl:∀ b∈ch,b < s.heap.objs.size) (hz:xs.length<=sizeLine) (rv:qW xs us)
  (hT:∃ o,h'.get? s.heap.objs.size=some o/\o.cls=.type "tuple"/\o.dict=none/\∃ n,o.data=.seq us.toArray n) (k:∀ b o,b∉ch->s.heap.get? b=some o->h'.get? b=some o):
  Inv X qZ σ (L2.upd H s.heap.objs.size (.tup xs)) { s with heap:=h',toks:=t' }:=by
 obtain ⟨o,e,c,nd,n,d⟩:=hT
 have hfree:o.isFreed=false:=by
  obtain ⟨oc,od,odt,osl⟩:=o
  have d':odt=.seq us.toArray n:=d
  subst d'
  rfl
 have I1:Inv X qZ σ (L2.upd H s.heap.objs.size (.tup xs)) { s with heap:=s.heap.push o }:=I.laid (t':=s.toks) (fun b u q=>qc _ q) (Nat.le_refl _) ⟨⟨hz,fun o' q=>by rw [qd _ hfree] at q; cases q; exact nd⟩,us,rv,⟨o,qd _ hfree,c,n,d⟩⟩
 have I2:=zbb I1 (h':=h') (t':=t') (ch:=ch) (fun b hb=>zis (hf b hb) (Nat.ne_of_lt (hl b hb))) fun b u hb q=>by
  rcases Heap.get?_push_cases q with ⟨rfl,rfl⟩ | q
  ·exact e
  ·exact k b u hb q
 exact I2
noncomputable def Ite (J:It):It:=⟨J.go,fun i H x H'=>∃ p y,H p=none/\J.yld i H y H/\x=.ref p/\H'=upd H p (.tup [.int i,y]),J.stop⟩
theorem ziN (he:IsEnum s.heap e it i old) (hd:∀ (Q:qE) (E:qE),(∀ h' x,Heap.ExtBut it s.heap h'->(∃ o,h'.get? x=some o/\o.cls=.type "StopIteration")->E (.ref x) { s with heap:=h' })->wpAny (model prog w) A.in1 (Builtin.SmallTypes.nextOf (.ref it)) Q E s)
  (hQ:∀ h',Heap.ExtBut it s.heap h'->Q none { s with heap:=h' }):wpAny (model prog w) A (pyNext (.ref e)) Q E s:=by
 have ty:s.TypeIs (.ref e) "enumerate":=⟨_,he,rfl⟩
 unfold pyNext
 apply qa
 apply wpAny_attempt
 refine wpAny_callSpecial?_slot (name:=Str.ofString "__next__") ty F.slot_enumerate_next (qy F.slot_enumerate_next ty F.entry_enumerate_next ?_ (F.args_enumerate_next_1 _))
 show wpAny _ _ (field (.ref e) 2 >>= _) _ _ _
 apply qa
 refine qv he rfl (x:=.ref it) rfl (qa (hd _ _ fun h' x hx1 hx2=>?_))
 obtain ⟨o,ho,hc⟩:=hx2
 exact qa (wpAny_isInstance (T:="StopIteration") (b:=true) ⟨o,ho,hc⟩ isSubtype_stop (qb (hQ _ hx1)))
theorem zg9 {P:Program} {w:World} {K:W.Frag} {J:It} {it e:Addr} {tn:Nat->Heap->Prop} {elts:List Expr} {k:Nat} {pos:Pos} (S:Src P w K J it tn) (hei:e≠it):
  Turn P w K (.Tuple elts k pos) (Ite J) [e,it] e (fun i h=>(∃ old,IsEnum h e it i old)/\tn i h) where
 mem:=m1
 obj:=fun i h st b hb=>by
  simp at hb
  rcases hb with rfl | rfl
  ·obtain ⟨old,q⟩:=st.1
   exact ⟨_,q,fun v z=>by cases z⟩
  ·obtain ⟨o,h1,h2,_⟩:=S.live i h st.2
   exact ⟨o,h1,h2⟩
 keep:=fun i h h' st kk=>by
  obtain ⟨⟨old,q⟩,t⟩:=st
  exact ⟨⟨old,kk e (m1) _ q⟩,S.keep i h h' t fun o q=>kk it (m2) o q⟩
 item:=by
  intro X hP hw hK hc i qZ s σ H E I hf st hg
  obtain ⟨⟨old,he⟩,ht⟩:=st
  have hh:X.A.in1.handled=none:=I.ok.hd hc
  obtain ⟨fp,n,Pr,Sx,D,hS,hin,hif,hfp,hv,hs⟩:=S.item X hP hw hK i qZ s σ H X.A.in1 hh I ht (hf it (m2)).1 hg
  have hef:e∉fp:=fun z=>by
   grind
  have hel:e < s.heap.objs.size:=qf he
  obtain ⟨oi,hoi,_⟩:=S.live i _ ht
  have hil:it < s.heap.objs.size:=qf hoi
  subst hP hw hK
  refine wpAny_pyNext_enum_itemD (A:=X.A) D he hS hin hei hef fun x h1 tk hPx ho hS1 hT hsz hk=>?_
  obtain ⟨y,ry,hy⟩:=hv x hPx
  refine ⟨_,rfl,wpAny_letOwnedTupleGo_enum ho fun h2 he2 sb=>?_⟩
  have ne:s.heap.objs.size≠e:=Nat.ne_of_gt hel
  have I2:Inv X qZ σ (upd H s.heap.objs.size (.tup [.int i,y])) { s with heap:=h2,toks:=tk + 1 }:=zci I (ch:=[e,it]) (us:=[.int i tk,x]) hf (fun b hb=>by
    simp at hb
    rcases hb with rfl | rfl
    ·exact hel
    ·exact hil) (by show 2<=_; decide) (.cons ⟨_,rfl⟩ (.cons ry .nil)) ⟨_,sb.extBut _ _ ne hT,rfl,rfl,_,rfl⟩ fun b o hb q=>by
   simp at hb
   exact sb.extBut _ _ hb.1 (hk b o hb.1 hb.2 q)
  refine ⟨.ref s.heap.objs.size,_,I2,rfl,⟨s.heap.objs.size,y,I.hok.fresh (Nat.le_refl _),hy,rfl,rfl⟩,⟨⟨x,by simpa using he2⟩,S.keep _ _ _ (hs _ hS1) fun o q=>sb.extBut _ _ (Ne.symm hei) q⟩,fun b hb=>?_⟩
  simp at hb
  rcases hb with rfl | rfl
  ·rw [zag (Nat.ne_of_lt hel)]; exact (hf _ (m1)).1
  ·rw [zag (Nat.ne_of_lt hil)]; exact (hf _ (m2)).1
 done:=by
  intro X hP hw hK hc i qZ s σ H E I hf st hg
  obtain ⟨⟨old,he⟩,ht⟩:=st
  have hh:X.A.in1.handled=none:=I.ok.hd hc
  refine ziN he (S.done X hP hw hK i qZ s σ H X.A.in1 hh I ht hg) fun h' hx=>⟨rfl,zbb I (t':=s.toks) (ch:=[it]) (fun b hb=>hf b (by simp at hb; simp [hb])) fun b o hb q=>hx b o (by simpa using hb) q⟩
 self:=fun A i s Q E st h=>by
  obtain ⟨⟨old,he⟩,_⟩:=st
  exact wpAny_pyIter_enum he h
noncomputable abbrev enumH (h:Heap) (z:Addr):Heap:=(h.push { cls:=.type "tuple_iterator",data:=.fields #[.ref z,.int 0 0] }).push { cls:=.type "enumerate",data:=.fields #[.none,.bool false,.ref h.objs.size,rawInt 0,.none,.none] }
set_option maxHeartbeats 1000000 in
theorem zgm (z:Addr) (xs:Array Value) (n:Nat) (dd:Option Addr) (sl:Array (Option Value)):Meets (Builtin.«enumerate.__new__» ⟨[.type "enumerate",.ref z],[]⟩) (fun _ R s=>s.heap.get? z=some { cls:=.type "tuple",dict:=dd,data:=.seq xs n,slots:=sl }/\
  R (.ok (.ret (.ref (s.heap.objs.size + 1)))) { s with heap:=enumH s.heap z }):=
 .of_wp fun prog w A R s hyp=>by
  obtain ⟨hp,g,d,tk,os⟩:=s
  obtain ⟨hl,hr⟩:=hyp
  have ss:=sub_enumerate
  have hz:(hp.push { cls:=.type "tuple_iterator",data:=.fields #[.ref z,.int 0 0] }).objs.size=hp.objs.size + 1:=Heap.size_push ..
  have hr':R (.ok (.ret (.ref (hp.push { cls:=.type "tuple_iterator",data:=.fields #[.ref z,.int 0 0] }).objs.size))) { heap:=enumH hp z,gens:=g,drawn:=d,toks:=tk,os:=os }:=by rw [hz]; exact hr
  have hT:Heap.IsTuple (Shared.heap ⟨hp,g,d,tk,os⟩) z xs:=⟨_,hl,rfl,n,rfl⟩
  wp_walk using wpAny_loadPart' hl
  refine wpAny_stack_any fun st=>qb ?_
  split
  ·rename_i c _ _ _ _ _
   cases (c == Value.type "enumerate") <;> (wp_walk using wpAny_loadPart' hl,wpAny_pyIter_tuple hT; exact ⟨_,rfl,hr'⟩)
  ·wp_walk using wpAny_loadPart' hl,wpAny_pyIter_tuple hT
   exact ⟨_,rfl,hr'⟩
theorem zh9 (hT:s.heap.IsTuple z xs)
  (k:∀ h',IsEnum h' (s.heap.objs.size + 1) s.heap.objs.size 0 .none->h'.IsTupleIter s.heap.objs.size z 0->(∀ b o,s.heap.get? b=some o->h'.get? b=some o)->Q (.ref (s.heap.objs.size + 1)) { s with heap:=h' }):
  wpAny (model prog w) A (call (.type "enumerate") [.ref z]) Q E s:=by
 obtain ⟨⟨c,dd,dt,sl⟩,hl,hc,n,hd⟩:=hT
 have e1:c=.type "tuple":=hc
 have e2:dt=.seq xs n:=hd
 subst e1 e2
 refine callType_new F.called_enumerate (by decide) (F.typeCall_enumerate_1 _) (F.newCall_enumerate_1 _) (fun obj=>F.args_object_init_2 obj _) F.entry_enumerate_new (zgm z xs n dd sl) ⟨hl,?_⟩
 have hz:(s.heap.push { cls:=.type "tuple_iterator",data:=.fields #[.ref z,.int 0 0] }).objs.size=s.heap.objs.size + 1:=Heap.size_push ..
 have he:IsEnum (enumH s.heap z) (s.heap.objs.size + 1) s.heap.objs.size 0 .none:=by
  have:=qd (s.heap.push { cls:=.type "tuple_iterator",data:=.fields #[.ref z,.int 0 0] }) (o:={ cls:=.type "enumerate",data:=.fields #[.none,.bool false,.ref s.heap.objs.size,rawInt 0,.none,.none] }) rfl
  rw [hz] at this
  exact this
 exact ⟨⟨_,he,rfl⟩,k _ he ⟨_,qc _ (qd _ rfl),rfl,rfl⟩ fun b o x=>qc _ (qc _ x)⟩
noncomputable def iEnum (K:W.Frag) (tl:TA):TI:=fun σ H R=>tl σ H fun vs H1=>(∃ a,vs=[.ref a]/\(∃ xs,SqL K H1 a xs)/\R (Ite (Itl K a)) H1)\/(∃ a,vs=[.ref a]/\(∃ xs,H1 a=some (.tup xs))/\R (Ite (Itu a)) H1)\/∃ x,vs=[.str x]/\R (Ite (Its x)) H1
theorem zko (hc:X.calm=true) (hg:Gl X "enumerate") (hm:X.mg "enumerate"=none) (hv:bootBuiltins "enumerate"=some (.type "enumerate")) (hl:PA X [a] tl)
  (hs:starEach [a] X.env=[(false,eval a X.env)]:=by rfl):PI X (.Tuple elts kk tpos) (.Call (.Name "enumerate" p) [a] [] pos) (iEnum X.K tl):=by
 intro qZ s σ H R I h
 refine wpAny_Call_Name_kw (zbu I hg hm hv ?_ (by decide) (by decide))
 refine PyProof.Rows.callWith_type1 (thn (hl pos qZ s σ H _ I h) fun us s1 zq=>?_) hs rfl
 obtain ⟨vs,H1,I1,r1,q1⟩:=zq
 have fin:∀ {J:It} {tn:Nat->Heap->Prop} {h':Heap},Src X.prog X.w X.K J s1.heap.objs.size tn->R (Ite J) H1->IsEnum h' (s1.heap.objs.size + 1) s1.heap.objs.size 0 .none->tn 0 h'->(∀ b o,s1.heap.get? b=some o->h'.get? b=some o)->
   wpAny (model X.prog X.w) X.A (pyIter (.ref (s1.heap.objs.size + 1))) (PIE X qZ σ (.Tuple elts kk tpos) R) X.xe { s1 with heap:=h' }:=fun {J tn h'} S hR he ht kp=>by
  refine wpAny_pyIter_enum (s:={ s1 with heap:=h' }) he ?_
  refine ⟨s1.heap.objs.size + 1,[s1.heap.objs.size + 1,s1.heap.objs.size],_,_,H1,rfl,I1.kept (t':=s1.toks) kp,zg9 S (Nat.succ_ne_self _),⟨⟨_,he⟩,ht⟩,fun b hb=>?_,hR⟩
  simp at hb
  rcases hb with rfl | rfl
  ·exact I1.fpOk (Nat.le_succ _) (I1.hok.fresh (Nat.le_succ _))
  ·exact I1.fpOk (Nat.le_refl _) (I1.hok.fresh (Nat.le_refl _))
 rcases q1 with ⟨b,e,⟨xs,hq⟩,q⟩ | ⟨b,e,⟨xs,hq⟩,q⟩ | ⟨x,e,q⟩
 ·subst e
  obtain ⟨u,rfl,ru⟩:=vals1 r1
  cases ru
  obtain ⟨zc,rv,pl,hz⟩:=I1.list hq
  exact call_enumerate_list pl.isList fun h' he hi _ kp=>fin (ze4 b _) q he hi kp
 ·subst e
  obtain ⟨u,rfl,ru⟩:=vals1 r1
  cases ru
  obtain ⟨zc,rv,pl,hz⟩:=I1.tuple (SqT.of hq)
  exact zh9 pl fun h' he hi kp=>fin (zhx b _) q he hi kp
 ·subst e
  obtain ⟨u,rfl,ru⟩:=vals1 r1
  obtain ⟨t,rfl⟩:=ru
  exact call_enumerate_str fun h' he hi _ kp=>fin (zhb _ x t) q he hi kp
theorem zcM {K:W.Frag} (hy:∀ i H x H',J.yld i H x H'->H'=H) (h:ItOk K J l F0):ItOk K (Ite J) (enumF 0 l) F0:=fun i U σ F G H sm q8=>by
 obtain ⟨h1,h2⟩:=h i U σ F G H sm q8
 refine ⟨fun d hd=>?_,fun hl=>h2 (by rw [zes] at hl; exact hl)⟩
 obtain ⟨e,he,rfl⟩:=zd0 l 0 i d hd
 obtain ⟨g1,g2⟩:=h1 e he
 refine ⟨g1,fun x H' zq=>?_⟩
 obtain ⟨p,y,hp,hyl,ex,eH⟩:=zq
 subst ex eH
 obtain ⟨F',s1,r1,rp⟩:=g2 y H hyl
 obtain ⟨f0,_,_⟩:=r1.free hp
 refine ⟨upd F' p (.tup [.int i,y]),s1.trans (qK.upd f0),r1.newF hp,?_⟩
 have:=Rep.tup (K:=K) (F:=upd F' p (.tup [.int i,y])) (a:=p) (xs:=[.int i,y]) (ds:=[.int i,e]) zam (.cons (.int i) (.cons (rp.mono (qK.upd f0)) .nil))
 simpa using this
theorem zfn {K:W.Frag} {a:Addr} (e:F0 a=some (.tup xs)) (r:qX K F0 xs l):ItOk K (Itu a) l F0:=fun i U σ F G H sm q8=>by
 have e':H a=some (.tup xs):=(sm.trans q8.fr) _ _ e
 refine ⟨fun d hd=>?_,fun h=>⟨xs,e',by rw [r.len]; exact h⟩⟩
 obtain ⟨x,hx,rx⟩:=r.get hd
 refine ⟨⟨xs,x,e',hx⟩,fun y H' hy=>?_⟩
 obtain ⟨rfl,hy⟩:=hy
 have:x=y:=qg (hx.symm.trans (hy xs e'))
 subst this
 exact ⟨F,qK.refl F,q8,rx.mono sm⟩
theorem zaT:bootBuiltins "enumerate"=some (.type "enumerate"):=by decide +kernel
theorem zdH (hc:X.calm=true) (hg:Gl X "enumerate") (hm:X.mg "enumerate"=none) (hv:bootBuiltins "enumerate"=some (.type "enumerate")) (ha:FE X a we) (hs:starEach [a] X.env=[(false,eval a X.env)]:=by rfl):
  FI X (.Tuple elts kk tpos) (.Call (.Name "enumerate" p) [a] [] pos) (wEnum we):=fun pn xe hp=>by
 refine PI.imp (zko (X:=wp X pn xe) hc hg hm hv (zaa ha zab hs pn xe hp) hs) fun σ H R q=>?_
 obtain ⟨F,G,U,P,PX,q8,hw,hok,hx⟩:=q
 refine ⟨F,G,U,fun rs U1=>match rs with | [r]=>(qJ (give r U1) fun p=>qJ (items p.1.toD) fun l=>P (enumF 0 l) p.2) | _=>False,PX,q8,hw,fun rs U1 vs F1 H1 hk s1 r1 hl rv=>?_,hx⟩
 match rs,vs,rv,r1,hk with
 | [r],[v],rv,r1,hk=>
   dsimp only at hk
   obtain ⟨⟨s,U2⟩,eg,hk⟩:=zae hk
   obtain ⟨l,el,hk⟩:=zae hk
   obtain ⟨F2,s2,l2,r2⟩:=giveR (U':=[]) (σ':=[]) r1 hl rv.1 eg
   obtain ⟨F3,s3,rp,r3⟩:=Rel.giveD (U:=U2) (vs:=[v]) (ss:=[s]) r2 (l2.trans hl)
   have sm:=s1.trans (s2.trans s3)
   cases rp with
   | cons a0 b0=>
     have el':items s.toD=some l:=el
     generalize s.toD=d at a0 el'
     cases a0 with
     | lst e0 r0=>
       cases el'
       exact .inl ⟨_,rfl,⟨_,SqL.mono r3.fr e0⟩,hok _ U2 F3 H1 _ hk sm r3 (zcM (fun _ _ _ _ z=>z.1) (zcG e0 r0))⟩
     | tup e0 r0=>
       cases el'
       exact .inr (.inl ⟨_,rfl,⟨_,r3.fr _ _ e0⟩,hok _ U2 F3 H1 _ hk sm r3 (zcM (fun _ _ _ _ z=>z.1) (zfn e0 r0))⟩)
     | str e0 z0=>
       cases el'
       exact .inr (.inr ⟨_,rfl,hok _ U2 F3 H1 _ hk sm r3 (zcM (fun _ _ _ _ z=>z.1) (zdI e0))⟩)
     | _=>cases el'
 | [],_,_,_,hk=>exact hk.elim
 | [_],[],rv,_,_=>exact rv.elim
 | [_],_::_::_,rv,_,_=>exact rv.2.elim
 | _::_::_,_,_,_,hk=>exact hk.elim
end FL
namespace FL
open PySem PySem.Spec PyProof.Rows L2
structure ZAp (z TI TO i1 i2:Addr) (f1 f2:List Addr):Prop where
 a1:TI≠z
 a2:TO≠z
 a3:TI≠TO
 a4:TI≠i1
 a5:TI≠i2
 m1:i1∈f1
 m2:i2∈f2
 z1:z∉f1
 z2:z∉f2
 o1:TO∉f1
 o2:TO∉f2
 c1:i1∉f2
 c2:i2∉f1
section
variable {z TI TO i1 i2:Addr}
theorem zal {f:List Addr} (ha:a∈f) (hb:b∉f):a≠b:=fun q=>hb (q ▸ ha)
theorem zkO {Q:qE} (Z:ZAp z TI TO i1 i2 f1 f2) (D1:Draws prog w A i1 f1 n1 P1 S1) (D2:Draws prog w A i2 f2 n2 P2 S2)
  (hz:IsZip s.heap z TI TO .none) (hI:IsPair s.heap TI (.ref i1) (.ref i2)) (hO:IsPair s.heap TO a b) (t1:S1 k1 s.heap) (t2:S2 k2 s.heap) (l1:k1 < n1) (l2:k2 < n2)
  (k:∀ x y h' tk,P1 k1 x->P2 k2 y->IsZip h' z TI TO (rawInt s.heap.objs.size)->(∃ c d,IsPair h' TO c d)->S1 (k1 + 1) h'->S2 (k2 + 1) h'->IsPair h' s.heap.objs.size x y->
   (∀ c o,c≠z->c≠TO->c≠i1->c≠i2->s.heap.get? c=some o->h'.get? c=some o)->Q (.ref s.heap.objs.size) { s with heap:=h',toks:=tk }):
  wpAny (model prog w) A (Builtin.«zip.__next__» ⟨[.ref z],[]⟩) (fun fin s'=>∃ v,fin=.done (.ret v)/\Q v s') E s:=by
 have i1z:=zal Z.m1 Z.z1
 have i2z:=zal Z.m2 Z.z2
 have i1o:=zal Z.m1 Z.o1
 have i2o:=zal Z.m2 Z.o2
 have i12:=zal Z.m1 Z.c2
 show wpAny _ _ (field (.ref z) 2 >>= _) _ _ _
 apply qa
 refine qv hz rfl (x:=.bool false) rfl ?_
 show wpAny _ _ (field (.ref z) 3 >>= _) _ _ _
 apply qa
 refine qv hz rfl (x:=.ref TI) rfl ?_
 apply qa
 refine wpAny_seqItems hI rfl ?_
 show wpAny _ _ (Builtin.SmallTypes.ownedTupleIsFree (.ref z) >>= _) _ _ _
 apply qa
 unfold Builtin.SmallTypes.ownedTupleIsFree
 apply qa
 refine qv hz rfl (x:=.none) rfl (qb ?_)
 simp only [if_true]
 apply qa
 apply wpAny_rule
 apply qa
 refine qv hz rfl (x:=.ref TO) rfl ?_
 apply qa
 refine qA hz (by simp) fun ha za sa=>?_
 have za':IsZip ha z TI TO .ellipsis:=za
 apply qa
 simp only [List.zipIdx_cons,List.zipIdx_nil,List.forIn_cons,List.forIn_nil]
 apply qa
 apply qa
 apply wpAny_onRaise
 show wpAny _ _ (Builtin.SmallTypes.nextOf (.ref i1) >>= _) _ _ _
 apply qa
 have t1a:S1 k1 ha:=D1.frame _ _ _ t1 fun c hc o q=>sa.extBut _ _ (zal hc Z.z1) q
 have t2a:S2 k2 ha:=D2.frame _ _ _ t2 fun c hc o q=>sa.extBut _ _ (zal hc Z.z2) q
 refine D1.item k1 _ _ _ l1 t1a fun x hb tb px t1b sb=>qb ?_
 have hOb:IsPair hb TO a b:=sb.extBut _ _ (Ne.symm i1o) (sa.extBut _ _ Z.a2 hO)
 apply qa
 refine wpAny_seqItems hOb rfl ?_
 apply qa
 refine wpAny_updateSeq_pair hOb fun hc hOc sc=>?_
 have hOc':IsPair hc TO x b:=hOc
 refine qa (wpAny_letGo (qb ?_))
 apply qa
 apply qa
 apply wpAny_onRaise
 show wpAny _ _ (Builtin.SmallTypes.nextOf (.ref i2) >>= _) _ _ _
 apply qa
 have t2c:S2 k2 hc:=D2.frame _ _ _ t2a fun c hcm o q=>sc.extBut _ _ (zal hcm Z.o2) (sb.extBut _ _ (zal hcm Z.c1) q)
 refine D2.item k2 _ _ _ l2 t2c fun y hd td py t2d sd=>qb ?_
 have hOd:IsPair hd TO x b:=sd.extBut _ _ (Ne.symm i2o) hOc'
 apply qa
 refine wpAny_seqItems hOd rfl ?_
 apply qa
 refine wpAny_updateSeq_pair hOd fun he hOe se=>?_
 have hOe':IsPair he TO x y:=hOe
 refine qa (wpAny_letGo (qb (qb ?_)))
 apply qa
 refine wpAny_seqItems hOe' rfl ?_
 apply qa
 refine wpAny_newTuple ?_
 have hsz:he.objs.size=s.heap.objs.size:=by rw [se.1,sd.1,sc.1,sb.1,sa.1]
 have ze:IsZip he z TI TO .ellipsis:=se.extBut _ _ (Ne.symm Z.a2) (sd.extBut _ _ (Ne.symm i2z) (sc.extBut _ _ (Ne.symm Z.a2) (sb.extBut _ _ (Ne.symm i1z) za')))
 have t1e:S1 (k1 + 1) he:=D1.frame _ _ _ t1b fun c hcm o q=>se.extBut _ _ (zal hcm Z.o1) (sd.extBut _ _ (zal hcm Z.c2) (sc.extBut _ _ (zal hcm Z.o1) q))
 have t2e:S2 (k2 + 1) he:=D2.frame _ _ _ t2d fun c hcm o q=>se.extBut _ _ (zal hcm Z.o2) q
 have old:∀ c o,c≠z->c≠TO->c≠i1->c≠i2->s.heap.get? c=some o->he.get? c=some o:=fun c o q1 q2 q3 q4 q=>se.extBut _ _ q2 (sd.extBut _ _ q4 (sc.extBut _ _ q2 (sb.extBut _ _ q3 (sa.extBut _ _ q1 q))))
 have zlt:z < he.objs.size:=qf ze
 show wpAny _ _ (Builtin.SmallTypes.ownedTupleHandOut (.ref z) (.ref he.objs.size) >>= _) _ _ _
 apply qa
 unfold Builtin.SmallTypes.ownedTupleHandOut
 have zf:IsZip (he.push { cls:=.type "tuple",data:=.seq #[x,y] }) z TI TO .ellipsis:=qc _ ze
 apply qa
 refine qA zf (by simp) fun hg zg sg=>?_
 have zg':IsZip hg z TI TO (rawInt he.objs.size):=zg
 refine qA zg' (by simp) fun hh zh sh=>?_
 have zh':IsZip hh z TI TO (rawInt he.objs.size):=zh
 have up:∀ c o,c≠z->he.get? c=some o->hh.get? c=some o:=fun c o q1 q=>sh.extBut _ _ q1 (sg.extBut _ _ q1 (qc _ q))
 have pT:IsPair hh he.objs.size x y:=sh.extBut _ _ (Nat.ne_of_gt zlt) (sg.extBut _ _ (Nat.ne_of_gt zlt) (qd _ rfl))
 rw [hsz] at zh' pT
 refine qb ⟨_,rfl,?_⟩
 show Q (.ref he.objs.size) _
 rw [hsz]
 exact k x y hh _ px py zh' ⟨_,_,up _ _ Z.a2 hOe'⟩ (D1.frame _ _ _ t1e fun c hcm o q=>up c o (zal hcm Z.z1) q) (D2.frame _ _ _ t2e fun c hcm o q=>up c o (zal hcm Z.z2) q) pT fun c o q1 q2 q3 q4 q=>up c o q1 (old c o q1 q2 q3 q4 q)
theorem zim (i1z:i1≠z) (hz:IsZip s.heap z TI TO .none) (hI:IsPair s.heap TI (.ref i1) (.ref i2))
  (d:∀ ha,Heap.SameBut z s.heap ha->∀ (Q:qE) (E:qE),(∀ h' e,Heap.ExtBut i1 ha h'->(∃ o,h'.get? e=some o/\o.cls=.type "StopIteration")->E (.ref e) { s with heap:=h' })->wpAny (model prog w) A (Builtin.SmallTypes.nextOf (.ref i1)) Q E { s with heap:=ha })
  (k:∀ h' e,(∀ c o,c≠z->c≠i1->s.heap.get? c=some o->h'.get? c=some o)->(∃ o,h'.get? e=some o/\o.cls=.type "StopIteration")->E (.ref e) { s with heap:=h' }):
  wpAny (model prog w) A (Builtin.«zip.__next__» ⟨[.ref z],[]⟩) Q E s:=by
 show wpAny _ _ (field (.ref z) 2 >>= _) _ _ _
 apply qa
 refine qv hz rfl (x:=.bool false) rfl ?_
 show wpAny _ _ (field (.ref z) 3 >>= _) _ _ _
 apply qa
 refine qv hz rfl (x:=.ref TI) rfl ?_
 apply qa
 refine wpAny_seqItems hI rfl ?_
 show wpAny _ _ (Builtin.SmallTypes.ownedTupleIsFree (.ref z) >>= _) _ _ _
 apply qa
 unfold Builtin.SmallTypes.ownedTupleIsFree
 apply qa
 refine qv hz rfl (x:=.none) rfl (qb ?_)
 simp only [if_true]
 apply qa
 apply wpAny_rule
 apply qa
 refine qv hz rfl (x:=.ref TO) rfl ?_
 apply qa
 refine qA hz (by simp) fun ha za sa=>?_
 have za':IsZip ha z TI TO .ellipsis:=za
 apply qa
 simp only [List.zipIdx_cons,List.zipIdx_nil,List.forIn_cons,List.forIn_nil]
 apply qa
 apply qa
 apply wpAny_onRaise
 show wpAny _ _ (Builtin.SmallTypes.nextOf (.ref i1) >>= _) _ _ _
 apply qa
 refine d ha sa _ _ fun hb e xb st=>?_
 obtain ⟨oe,q1,q2⟩:=st
 have zb:IsZip hb z TI TO .ellipsis:=xb _ _ (Ne.symm i1z) za'
 have ez:e≠z:=fun q=>by subst q; rw [zb] at q1; cases q1; simp at q2
 exact qA zb (by simp) fun hc _ sc=>k hc e (fun c o c1 c2 q=>sc.extBut _ _ c1 (xb _ _ c2 (sa.extBut _ _ c1 q))) ⟨oe,sc.extBut _ _ ez q1,q2⟩
theorem zib (D1:Draws prog w A i1 f1 n1 P1 S1) (m1:i1∈f1) (z1:z∉f1) (o1:TO∉f1) (TOz:TO≠z) (i2z:i2≠z)
  (hz:IsZip s.heap z TI TO .none) (hI:IsPair s.heap TI (.ref i1) (.ref i2)) (hO:IsPair s.heap TO a b) (t1:S1 k1 s.heap) (l1:k1 < n1)
  (d:∀ hc tk,(∀ c o,c≠z->c≠TO->c≠i1->s.heap.get? c=some o->hc.get? c=some o)->∀ (Q:qE) (E:qE),(∀ h' e,Heap.ExtBut i2 hc h'->(∃ o,h'.get? e=some o/\o.cls=.type "StopIteration")->E (.ref e) { s with heap:=h',toks:=tk })->wpAny (model prog w) A (Builtin.SmallTypes.nextOf (.ref i2)) Q E { s with heap:=hc,toks:=tk })
  (k:∀ h' e tk,(∀ c o,c≠z->c≠TO->c≠i1->c≠i2->s.heap.get? c=some o->h'.get? c=some o)->(∃ o,h'.get? e=some o/\o.cls=.type "StopIteration")->E (.ref e) { s with heap:=h',toks:=tk }):
  wpAny (model prog w) A (Builtin.«zip.__next__» ⟨[.ref z],[]⟩) Q E s:=by
 have i1z:=zal m1 z1
 have i1o:=zal m1 o1
 show wpAny _ _ (field (.ref z) 2 >>= _) _ _ _
 apply qa
 refine qv hz rfl (x:=.bool false) rfl ?_
 show wpAny _ _ (field (.ref z) 3 >>= _) _ _ _
 apply qa
 refine qv hz rfl (x:=.ref TI) rfl ?_
 apply qa
 refine wpAny_seqItems hI rfl ?_
 show wpAny _ _ (Builtin.SmallTypes.ownedTupleIsFree (.ref z) >>= _) _ _ _
 apply qa
 unfold Builtin.SmallTypes.ownedTupleIsFree
 apply qa
 refine qv hz rfl (x:=.none) rfl (qb ?_)
 simp only [if_true]
 apply qa
 apply wpAny_rule
 apply qa
 refine qv hz rfl (x:=.ref TO) rfl ?_
 apply qa
 refine qA hz (by simp) fun ha za sa=>?_
 have za':IsZip ha z TI TO .ellipsis:=za
 apply qa
 simp only [List.zipIdx_cons,List.zipIdx_nil,List.forIn_cons,List.forIn_nil]
 apply qa
 apply qa
 apply wpAny_onRaise
 show wpAny _ _ (Builtin.SmallTypes.nextOf (.ref i1) >>= _) _ _ _
 apply qa
 have t1a:S1 k1 ha:=D1.frame _ _ _ t1 fun c hc o q=>sa.extBut _ _ (zal hc z1) q
 refine D1.item k1 _ _ _ l1 t1a fun x hb tb px t1b sb=>qb ?_
 have hOb:IsPair hb TO a b:=sb.extBut _ _ (Ne.symm i1o) (sa.extBut _ _ TOz hO)
 apply qa
 refine wpAny_seqItems hOb rfl ?_
 apply qa
 refine wpAny_updateSeq_pair hOb fun hc hOc sc=>?_
 refine qa (wpAny_letGo (qb ?_))
 apply qa
 apply qa
 apply wpAny_onRaise
 show wpAny _ _ (Builtin.SmallTypes.nextOf (.ref i2) >>= _) _ _ _
 apply qa
 refine d hc tb (fun c o c1 c2 c3 q=>sc.extBut _ _ c2 (sb.extBut _ _ c3 (sa.extBut _ _ c1 q))) _ _ fun hd e xd st=>?_
 obtain ⟨oe,q1,q2⟩:=st
 have zd:IsZip hd z TI TO .ellipsis:=xd _ _ (Ne.symm i2z) (sc.extBut _ _ (Ne.symm TOz) (sb.extBut _ _ (Ne.symm i1z) za'))
 have ez:e≠z:=fun q=>by subst q; rw [zd] at q1; cases q1; simp at q2
 exact qA zd (by simp) fun he _ se=>k he e tb (fun c o c1 c2 c3 c4 q=>se.extBut _ _ c1 (xd _ _ c4 (sc.extBut _ _ c2 (sb.extBut _ _ c3 (sa.extBut _ _ c1 q))))) ⟨oe,se.extBut _ _ ez q1,q2⟩
end
noncomputable def Itz (J1 J2:It):It:=⟨fun i H=>J1.go i H/\J2.go i H,fun i H x H'=>∃ p y1 y2,H p=none/\J1.yld i H y1 H/\J2.yld i H y2 H/\x=.ref p/\H'=upd H p (.tup [y1,y2]),fun i H=>J1.stop i H\/(J1.go i H/\J2.stop i H)⟩
theorem ziA {P:Program} {w:World} {K:W.Frag} {J1 J2:It} {z TI TO i1 i2:Addr} {t1 t2:Nat->Heap->Prop} {elts:List Expr} {k:Nat} {pos:Pos} (S1:Src P w K J1 i1 t1) (S2:Src P w K J2 i2 t2) (nd:[z,TI,TO,i1,i2].Nodup):
  Turn P w K (.Tuple elts k pos) (Itz J1 J2) [z,TI,TO,i1,i2] z (fun i h=>IsZip h z TI TO .none/\IsPair h TI (.ref i1) (.ref i2)/\(∃ a b,IsPair h TO a b)/\t1 i h/\t2 i h) where
 mem:=m1
 obj:=fun i h st b hb=>by
  obtain ⟨hz,hI,⟨a,c,hO⟩,q1,q2⟩:=st
  simp at hb
  rcases hb with rfl | rfl | rfl | rfl | rfl
  ·exact ⟨_,hz,fun v z=>by cases z⟩
  ·exact ⟨_,hI,fun v z=>by cases z⟩
  ·exact ⟨_,hO,fun v z=>by cases z⟩
  ·obtain ⟨o,e1,e2,_⟩:=S1.live i h q1
   exact ⟨o,e1,e2⟩
  ·obtain ⟨o,e1,e2,_⟩:=S2.live i h q2
   exact ⟨o,e1,e2⟩
 keep:=fun i h h' st kk=>by
  obtain ⟨hz,hI,⟨a,c,hO⟩,q1,q2⟩:=st
  exact ⟨kk _ (m1) _ hz,kk _ (m2) _ hI,⟨a,c,kk _ (m3) _ hO⟩,S1.keep i h h' q1 fun o e=>kk _ (m4) o e,S2.keep i h h' q2 fun o e=>kk _ (m5) o e⟩
 item:=by
  intro X hP hw hK hc i qZ s σ H E I hf st hg
  refine cps fun G kk=>?_
  obtain ⟨hz,hI,⟨a,c,hO⟩,q1,q2⟩:=st
  have hh:X.A.in1.handled=none:=I.ok.hd hc
  obtain ⟨f1,n1,P1,T1,D1,u1,l1,m1,e1,v1,w1⟩:=S1.item X hP hw hK i qZ s σ H X.A.in1 hh I q1 (hf i1 (m4)).1 hg.1
  obtain ⟨f2,n2,P2,T2,D2,u2,l2,m2,e2,v2,w2⟩:=S2.item X hP hw hK i qZ s σ H X.A.in1 hh I q2 (hf i2 (m5)).1 hg.2
  obtain ⟨o1,g1,_,_,_,_,cl1⟩:=S1.live i _ q1
  obtain ⟨o2,g2,_,_,_,_,cl2⟩:=S2.live i _ q2
  simp only [List.nodup_cons,List.mem_cons,List.not_mem_nil,or_false,not_or] at nd
  obtain ⟨⟨d1,d2,d3,d4⟩,⟨d5,d6,d7⟩,⟨d8,d9⟩,d10,_⟩:=nd
  have hn:∀ b∈[z,TI,TO,i1,i2],H b=none:=fun b hb=>(hf b hb).1
  have out:∀ {f:List Addr} {it b:Addr} {ob:Obj},(∀ x∈f,x=it\/(H x≠none/\∃ o,s.heap.get? x=some o/\o.cls=.type "tuple")\/∃ o,s.heap.get? x=some o/\o.cls=.type "list")->b≠it->H b=none->s.heap.get? b=some ob->ob.cls≠.type "list"->b∉f:=fun {f it b ob} hf0 n1 n2 g n3 m=>by
   grind
  have zl:Value.type "zip"≠Value.type "list":=by decide
  have tl:Value.type "tuple"≠Value.type "list":=by decide
  have Z:ZAp z TI TO i1 i2 f1 f2:=⟨Ne.symm d1,Ne.symm d2,d5,d6,d7,m1,m2,out e1 d3 (hn z (by simp)) hz zl,out e2 d4 (hn z (by simp)) hz zl,out e1 d8 (hn TO (by simp)) hO tl,out e2 d9 (hn TO (by simp)) hO tl,out e2 d10 (hn i1 (by simp)) g1 cl1,out e1 (Ne.symm d10) (hn i2 (by simp)) g2 cl2⟩
  have lt:∀ b∈[z,TI,TO,i1,i2],b < s.heap.objs.size:=fun b hb=>by
   simp at hb
   rcases hb with rfl | rfl | rfl | rfl | rfl
   ·exact qf hz
   ·exact qf hI
   ·exact qf hO
   ·exact qf g1
   ·exact qf g2
  subst hP hw hK
  have ty:s.TypeIs (.ref z) "zip":=⟨_,hz,rfl⟩
  refine kk ?_
  unfold pyNext
  apply qa
  apply wpAny_attempt
  refine wpAny_callSpecial?_slot (name:=Str.ofString "__next__") ty F.slot_zip_next (qy F.slot_zip_next ty F.entry_zip_next (zkO Z D1 D2 hz hI hO u1 u2 l1 l2 fun x y h1 tk px py hz1 hO1 t1' t2' hT hk=>?_) (F.args_zip_next_1 _))
  refine qb ⟨_,rfl,?_⟩
  refine cps fun _ kk=>?_
  obtain ⟨y1,ry1,hy1⟩:=v1 x px
  obtain ⟨y2,ry2,hy2⟩:=v2 y py
  refine kk ?_
  refine wpAny_letOwnedTupleGo_zip hz1 fun h2 hz2 sb=>?_
  have nT:s.heap.objs.size≠z:=Nat.ne_of_gt (qf hz)
  have I2:Inv X qZ σ (upd H s.heap.objs.size (.tup [y1,y2])) { s with heap:=h2,toks:=tk }:=zci I (ch:=[z,TI,TO,i1,i2]) (us:=[x,y]) hf lt (by show 2<=_; decide) (.cons ry1 (.cons ry2 .nil)) ⟨_,sb.extBut _ _ nT hT,rfl,rfl,_,rfl⟩ fun b o hb q=>by
   simp at hb
   exact sb.extBut _ _ hb.1 (hk b o hb.1 hb.2.2.1 hb.2.2.2.1 hb.2.2.2.2 q)
  obtain ⟨ca,cb,hO1⟩:=hO1
  refine ⟨.ref s.heap.objs.size,_,I2,rfl,⟨s.heap.objs.size,y1,y2,I.hok.fresh (Nat.le_refl _),hy1,hy2,rfl,rfl⟩,⟨hz2,sb.extBut _ _ (Ne.symm d1) (hk _ _ (Ne.symm d1) d5 d6 d7 hI),⟨_,_,sb.extBut _ _ (Ne.symm d2) hO1⟩,S1.keep _ _ _ (w1 _ t1') fun o q=>sb.extBut _ _ (Ne.symm d3) q,S2.keep _ _ _ (w2 _ t2') fun o q=>sb.extBut _ _ (Ne.symm d4) q⟩,fun b hb=>?_⟩
  rw [zag (Nat.ne_of_lt (lt b hb))]; exact (hf b hb).1
 done:=by
  intro X hP hw hK hc i qZ s σ H E I hf st hg
  refine cps fun G kk=>?_
  obtain ⟨hz,hI,⟨a,c,hO⟩,q1,q2⟩:=st
  have hh:X.A.in1.handled=none:=I.ok.hd hc
  simp only [List.nodup_cons,List.mem_cons,List.not_mem_nil,or_false,not_or] at nd
  obtain ⟨⟨d1,d2,d3,d4⟩,⟨d5,d6,d7⟩,⟨d8,d9⟩,d10,_⟩:=nd
  have ty:s.TypeIs (.ref z) "zip":=⟨_,hz,rfl⟩
  have stop:∀ (h':Heap) (e:Addr) (tk:Nat),(∀ b o,b≠z->b≠TO->b≠i1->b≠i2->s.heap.get? b=some o->h'.get? b=some o)->Inv X qZ σ H { s with heap:=h',toks:=tk }:=fun h' e tk hk=>zbb I (ch:=[z,TI,TO,i1,i2]) hf fun b o hb q=>by
   grind
  refine kk ?_
  unfold pyNext
  apply qa
  apply wpAny_attempt
  rcases hg with hg | ⟨hg1,hg2⟩
  ·refine wpAny_callSpecial?_slot (name:=Str.ofString "__next__") ty F.slot_zip_next (qy F.slot_zip_next ty F.entry_zip_next (zim (Ne.symm d3) hz hI (fun ha sa=>?_) fun h' e hk st=>?_) (F.args_zip_next_1 _))
   ·have Ia:Inv X qZ σ H { s with heap:=ha }:=zbb I (t':=s.toks) (ch:=[z]) (fun b hb=>hf b (by simp at hb; simp [hb])) fun b o hb q=>sa.extBut _ _ (by simpa using hb) q
    exact S1.done X hP hw hK i qZ { s with heap:=ha } σ H X.A.in1 hh Ia (S1.keep _ _ _ q1 fun o q=>sa.extBut _ _ (Ne.symm d3) q) hg
   ·obtain ⟨o,r1,r2⟩:=st
    exact qa (wpAny_isInstance (T:="StopIteration") (b:=true) ⟨o,r1,r2⟩ isSubtype_stop (qb ⟨rfl,stop h' e s.toks fun b o c1 c2 c3 c4 q=>hk b o c1 c3 q⟩))
  ·obtain ⟨f1,n1,P1,T1,D1,u1,l1,m1,e1,v1,w1⟩:=S1.item X hP hw hK i qZ s σ H X.A.in1 hh I q1 (hf i1 (m4)).1 hg1
   have hn:∀ b∈[z,TI,TO,i1,i2],H b=none:=fun b hb=>(hf b hb).1
   have out:∀ {f:List Addr} {it b:Addr} {ob:Obj},(∀ x∈f,x=it\/(H x≠none/\∃ o,s.heap.get? x=some o/\o.cls=.type "tuple")\/∃ o,s.heap.get? x=some o/\o.cls=.type "list")->b≠it->H b=none->s.heap.get? b=some ob->ob.cls≠.type "list"->b∉f:=fun {f it b ob} hf0 n1 n2 g n3 m=>by
    grind
   have zl:Value.type "zip"≠Value.type "list":=by decide
   have tl:Value.type "tuple"≠Value.type "list":=by decide
   have X1:=hP
   have X2:=hw
   subst hP hw
   refine wpAny_callSpecial?_slot (name:=Str.ofString "__next__") ty F.slot_zip_next (qy F.slot_zip_next ty F.entry_zip_next (zib D1 m1 (out e1 d3 (hn z (by simp)) hz zl) (out e1 d8 (hn TO (by simp)) hO tl) (Ne.symm d2) (Ne.symm d4) hz hI hO u1 l1 (fun hc2 tk sa=>?_) fun h' e tk hk st=>?_) (F.args_zip_next_1 _))
   ·have Ia:Inv X qZ σ H { s with heap:=hc2,toks:=tk }:=zbb I (ch:=[z,TO,i1]) (fun b hb=>hf b (by simp at hb; rcases hb with q | q | q <;> simp [q])) fun b o hb q=>by
     simp at hb
     exact sa b o hb.1 hb.2.1 hb.2.2 q
    exact S2.done X rfl rfl hK i qZ { s with heap:=hc2,toks:=tk } σ H X.A.in1 hh Ia (S2.keep _ _ _ q2 fun o q=>sa _ _ (Ne.symm d4) (Ne.symm d9) (Ne.symm d10) q) hg2
   ·obtain ⟨o,r1,r2⟩:=st
    exact qa (wpAny_isInstance (T:="StopIteration") (b:=true) ⟨o,r1,r2⟩ isSubtype_stop (qb ⟨rfl,stop h' e tk hk⟩))
 self:=fun A i s Q E st h=>wpAny_pyIter_zip st.1 h
noncomputable def MkIt (v:Value) (o:Obj) (s:Shared):Prop:=∀ (prog:Program) (w:World) (A:Around) (Q:qE) (E:qE),Q (.ref s.heap.objs.size) { s with heap:=s.heap.push o }->wpAny (model prog w) A (pyIter v) Q E s
noncomputable abbrev zA (h:Heap) (o1:Obj):Heap:=h.push o1
noncomputable abbrev zB (h:Heap) (o1 o2:Obj):Heap:=(zA h o1).push o2
noncomputable abbrev zC (h:Heap) (o1 o2:Obj):Heap:=(zB h o1 o2).push { cls:=.type "tuple",data:=.seq #[.ref h.objs.size,.ref (zA h o1).objs.size] }
noncomputable abbrev zD (h:Heap) (o1 o2:Obj):Heap:=(zC h o1 o2).push { cls:=.type "tuple",data:=.seq #[.none,.none] }
noncomputable abbrev zE (h:Heap) (o1 o2:Obj):Heap:=(zD h o1 o2).push { cls:=.type "zip",data:=.fields #[.none,.bool false,.bool false,.ref (zB h o1 o2).objs.size,.ref (zC h o1 o2).objs.size] }
theorem zjX (v1 v2:Value) (o1 o2:Obj):Meets (Builtin.«zip.__new__» ⟨[.type "zip",v1,v2],[]⟩) (fun _ R s=>MkIt v1 o1 s/\MkIt v2 o2 { s with heap:=zA s.heap o1 }/\R (.ok (.ret (.ref (zD s.heap o1 o2).objs.size))) { s with heap:=zE s.heap o1 o2 }):=
 .of_wp fun prog w A R s hyp=>by
  obtain ⟨hp,g,d,tk,os⟩:=s
  obtain ⟨k1,k2,hr⟩:=hyp
  have ss:=sub_zip
  have k1':=fun (A:Around) (Q:qE) (E:qE)=>k1 prog w A Q E
  have k2':=fun (A:Around) (Q:qE) (E:qE)=>k2 prog w A Q E
  wp_walk using k1',k2'
  exact ⟨_,rfl,hr⟩
theorem zkX (m1:MkIt v1 o1 s) (m2:MkIt v2 o2 { s with heap:=zA s.heap o1 }) (f1:o1.isFreed=false) (f2:o2.isFreed=false)
  (k:∀ h',IsZip h' (s.heap.objs.size + 4) (s.heap.objs.size + 2) (s.heap.objs.size + 3) .none->IsPair h' (s.heap.objs.size + 2) (.ref s.heap.objs.size) (.ref (s.heap.objs.size + 1))->IsPair h' (s.heap.objs.size + 3) .none .none->
   h'.get? s.heap.objs.size=some o1->h'.get? (s.heap.objs.size + 1)=some o2->(∀ c o,s.heap.get? c=some o->h'.get? c=some o)->Q (.ref (s.heap.objs.size + 4)) { s with heap:=h' }):
  wpAny (model prog w) A (call (.type "zip") [v1,v2]) Q E s:=by
 refine callType_new F.called_zip (by decide) (F.typeCall_zip_2 _ _) (F.newCall_zip_2 _ _) (fun obj=>F.args_object_init_3 obj _ _) F.entry_zip_new (zjX v1 v2 o1 o2) ⟨m1,m2,?_⟩
 have q1:(zA s.heap o1).objs.size=s.heap.objs.size + 1:=Heap.size_push ..
 have q2:(zB s.heap o1 o2).objs.size=s.heap.objs.size + 2:=by rw [Heap.size_push,q1]
 have q3:(zC s.heap o1 o2).objs.size=s.heap.objs.size + 3:=by rw [Heap.size_push,q2]
 have q4:(zD s.heap o1 o2).objs.size=s.heap.objs.size + 4:=by rw [Heap.size_push,q3]
 have g5:(zE s.heap o1 o2).get? (zD s.heap o1 o2).objs.size=some _:=qd _ rfl
 have g4:(zE s.heap o1 o2).get? (zC s.heap o1 o2).objs.size=some _:=qc _ (qd _ rfl)
 have g3:(zE s.heap o1 o2).get? (zB s.heap o1 o2).objs.size=some _:=qc _ (qc _ (qd _ rfl))
 have g2:(zE s.heap o1 o2).get? (zA s.heap o1).objs.size=some o2:=qc _ (qc _ (qc _ (qd _ f2)))
 have g1:(zE s.heap o1 o2).get? s.heap.objs.size=some o1:=qc _ (qc _ (qc _ (qc _ (qd _ f1))))
 show _/\_
 rw [q2,q3,q4] at g5
 rw [q1,q2] at g3
 rw [q3] at g4
 rw [q1] at g2
 rw [q4]
 exact ⟨⟨_,g5,rfl⟩,k _ g5 g3 g4 g1 g2 fun c o x=>qc _ (qc _ (qc _ (qc _ (qc _ x))))⟩
noncomputable def SrcV (X:Cx) (H:Hp) (v:V) (J:It):Prop:=(∃ a xs,v=.ref a/\SqL X.K H a xs/\J=Itl X.K a)\/(∃ a xs,v=.ref a/\H a=some (.tup xs)/\J=Itu a)\/∃ x,v=.str x/\J=Its x
theorem zg2 (I:Inv X qZ σ H s) (r:qO v u) (h:SrcV X H v J):
  ∃ o:Obj,MkIt u o s/\o.isFreed=false/\∀ it,∃ tn,Src X.prog X.w X.K J it tn/\∀ h':Heap,h'.get? it=some o->tn 0 h':=by
 rcases h with ⟨a,xs,rfl,hq,rfl⟩ | ⟨a,xs,rfl,hq,rfl⟩ | ⟨x,rfl,rfl⟩
 ·cases r
  obtain ⟨zc,rv,pl,hz⟩:=I.list hq
  exact ⟨{ cls:=.type "list_iterator",data:=.fields #[.ref a,.int 0 0] },fun prog w A Q E k=>wpAny_pyIter_list pl.isList k,rfl,fun it=>⟨_,ze4 a it,fun h' e=>⟨_,e,rfl,rfl⟩⟩⟩
 ·cases r
  obtain ⟨zc,rv,pl,hz⟩:=I.tuple (SqT.of hq)
  exact ⟨{ cls:=.type "tuple_iterator",data:=.fields #[.ref a,.int 0 0] },fun prog w A Q E k=>wpAny_pyIter_tuple pl k,rfl,fun it=>⟨_,zhx a it,fun h' e=>⟨_,e,rfl,rfl⟩⟩⟩
 ·obtain ⟨t,rfl⟩:=r
  exact ⟨{ cls:=.type (strIterType x),data:=.fields #[.str x t,.int 0 0] },fun prog w A Q E k=>wpAny_pyIter_strU k,rfl,fun it=>⟨_,zhb it x t,fun h' e=>⟨_,e,rfl,rfl⟩⟩⟩
noncomputable def iZip (X:Cx) (tl:TA):TI:=fun σ H R=>tl σ H fun vs H1=>∃ v1 v2 J1 J2,vs=[v1,v2]/\SrcV X H1 v1 J1/\SrcV X H1 v2 J2/\R (Itz J1 J2) H1
theorem zmq (hc:X.calm=true) (hg:Gl X "zip") (hm:X.mg "zip"=none) (hv:bootBuiltins "zip"=some (.type "zip")) (hl:PA X [a,b] tl)
  (hs:starEach [a,b] X.env=[(false,eval a X.env),(false,eval b X.env)]:=by rfl) (hs2:starEach [b] X.env=[(false,eval b X.env)]:=by rfl):PI X (.Tuple elts kk tpos) (.Call (.Name "zip" p) [a,b] [] pos) (iZip X tl):=by
 intro qZ s σ H R I h
 refine wpAny_Call_Name_kw (zbu I hg hm hv ?_ (by decide) (by decide))
 refine PyProof.Rows.callWith_type1 (thn (hl pos qZ s σ H _ I h) fun us s1 zq=>?_) (by rw [hs,hs2]) (by rw [hs2]; rfl)
 obtain ⟨vs,H1,I1,r1,q1⟩:=zq
 obtain ⟨v1,v2,J1,J2,rfl,k1,k2,q⟩:=q1
 cases r1 with
 | cons ra rb=>
   cases rb with
   | cons rb rn=>
     cases rn
     obtain ⟨o1,m1,f1,g1⟩:=zg2 I1 ra k1
     have I2:Inv X qZ σ H1 { s1 with heap:=zA s1.heap o1 }:=I1.kept (t':=s1.toks) fun _ _ e=>qc _ e
     obtain ⟨o2,m2,f2,g2⟩:=zg2 I2 rb k2
     refine zkX m1 m2 f1 f2 fun h' hz hI hO e1 e2 kp=>?_
     obtain ⟨t1,S1,b1⟩:=g1 s1.heap.objs.size
     obtain ⟨t2,S2,b2⟩:=g2 (s1.heap.objs.size + 1)
     refine wpAny_pyIter_zip (s:={ s1 with heap:=h' }) hz ?_
     have lt:∀ k:Nat,s1.heap.objs.size<=s1.heap.objs.size + k:=fun k=>Nat.le_add_right _ _
     refine ⟨s1.heap.objs.size + 4,[s1.heap.objs.size + 4,s1.heap.objs.size + 2,s1.heap.objs.size + 3,s1.heap.objs.size,s1.heap.objs.size + 1],_,_,H1,rfl,I1.kept (t':=s1.toks) kp,ziA S1 S2 ?_,⟨hz,hI,⟨_,_,hO⟩,b1 h' e1,b2 h' e2⟩,fun c hcm=>?_,q⟩
     ·simp
     ·simp at hcm
      rcases hcm with rfl | rfl | rfl | rfl | rfl
      ·exact I1.fpOk (lt 4) (I1.hok.fresh (lt 4))
      ·exact I1.fpOk (lt 2) (I1.hok.fresh (lt 2))
      ·exact I1.fpOk (lt 3) (I1.hok.fresh (lt 3))
      ·exact I1.fpOk (lt 0) (I1.hok.fresh (lt 0))
      ·exact I1.fpOk (lt 1) (I1.hok.fresh (lt 1))
theorem ziZ {K:W.Frag} (h1:ItOk K J1 l F0) (h2:ItOk K J2 m F0):ItOk K (Itz J1 J2) (zipD l m) F0:=fun i U σ F G H sm q8=>by
 obtain ⟨p1,p2⟩:=h1 i U σ F G H sm q8
 obtain ⟨q1,q2⟩:=h2 i U σ F G H sm q8
 refine ⟨fun d hd=>?_,fun hl=>?_⟩
 ·obtain ⟨e,f,he,hf,rfl⟩:=zfs l m i d hd
  obtain ⟨g1,g2⟩:=p1 e he
  obtain ⟨g3,g4⟩:=q1 f hf
  refine ⟨⟨g1,g3⟩,fun x H' zq=>?_⟩
  refine cps fun _ kk=>?_
  obtain ⟨p,y1,y2,hp,hy1,hy2,ex,eH⟩:=zq
  subst ex eH
  obtain ⟨F1,s1,r1,rp1⟩:=g2 y1 H hy1
  obtain ⟨F2,s2,r2,rp2⟩:=(h2 i U σ F1 G H (sm.trans s1) r1).1 f hf |>.2 y2 H hy2
  obtain ⟨f0,_,_⟩:=r2.free hp
  refine kk ?_
  exact ⟨upd F2 p (.tup [y1,y2]),(s1.trans s2).trans (qK.upd f0),r2.newF hp,.tup (xs:=[y1,y2]) zam (.cons ((rp1.mono s2).mono (qK.upd f0)) (.cons (rp2.mono (qK.upd f0)) .nil))⟩
 ·rw [ze2] at hl
  by_cases h:l.length<=i
  ·exact .inl (p2 h)
  ·have hlt:i < l.length:=by lia
   exact .inr ⟨(p1 l[i] (qi hlt)).1,q2 (by lia)⟩
theorem zmt:bootBuiltins "zip"=some (.type "zip"):=by decide +kernel
theorem zgI (sm:qK F H) (r:Rep X.K F v d) (e:items d=some l):∃ J,SrcV (wp X pn xe) H v J/\ItOk X.K J l F:=by
 cases r with
 | lst e0 r0=>
   cases e
   exact ⟨_,.inl ⟨_,_,rfl,SqL.mono sm e0,rfl⟩,zcG e0 r0⟩
 | tup e0 r0=>
   cases e
   exact ⟨_,.inr (.inl ⟨_,_,rfl,sm _ _ e0,rfl⟩),zfn e0 r0⟩
 | str e0 z0=>
   cases e
   exact ⟨_,.inr (.inr ⟨_,rfl,rfl⟩),zdI e0⟩
 | _=>cases e
theorem zlX (hc:X.calm=true) (hg:Gl X "zip") (hm:X.mg "zip"=none) (hv:bootBuiltins "zip"=some (.type "zip")) (ha:FE X a wa) (hb:FE X b wb) (hs:starEach [a,b] X.env=[(false,eval a X.env),(false,eval b X.env)]:=by rfl) (hs2:starEach [b] X.env=[(false,eval b X.env)]:=by rfl):
  FI X (.Tuple elts kk tpos) (.Call (.Name "zip" p) [a,b] [] pos) (wZip wa wb):=fun pn xe hp=>by
 refine PI.imp (zmq (X:=wp X pn xe) hc hg hm hv (zaa ha (zaa hb zab hs2) (by rw [hs,hs2]) pn xe hp) hs hs2) fun σ H R q=>?_
 obtain ⟨F,G,U,P,PX,q8,hw,hok,hx⟩:=q
 refine ⟨F,G,U,fun rs U1=>match rs with | [r,t]=>(qJ (give r U1) fun p=>qJ (give t p.2) fun q=>qJ (items p.1.toD) fun l=>qJ (items q.1.toD) fun m=>P (zipD l m) q.2) | _=>False,PX,q8,hw,fun rs U1 vs F1 H1 hk s1 r1 hl rv=>?_,hx⟩
 match rs,vs,rv,r1,hk with
 | [r,t],[v,u],rv,r1,hk=>
   dsimp only at hk
   refine cps fun _ kk=>?_
   obtain ⟨⟨s,U2⟩,eg,hk⟩:=zae hk
   obtain ⟨⟨s',U3⟩,eg',hk⟩:=zae hk
   obtain ⟨l,el,hk⟩:=zae hk
   obtain ⟨m,em,hk⟩:=zae hk
   obtain ⟨F2,s2,ss,e3,l3,r3⟩:∃ F2,qK F1 F2/\∃ ss,ss=[s,s']/\U3.length=U1.length/\Rel X.K (U3++ss.map some) (σ++[v,u].map some) F2 G H1:=by
    have e:giveAll [r,t] U1=some ([s,s'],U3):=by
     show (match give r U1 with | some (s,U1)=>(match giveAll [t] U1 with | some (ss,U2)=>some (s::ss,U2) | none=>none) | none=>none)=_
     rw [eg]
     show (match (match give t U2 with | some (s,U1)=>some ([s],U1) | none=>none) with | some (ss,U2)=>some (s::ss,U2) | none=>none)=_
     rw [eg']
    obtain ⟨F2,s2,l2,z,r2⟩:=zbs (rs:=[r,t]) (vs:=[v,u]) (U':=[]) (σ':=[]) (by simpa using r1) hl rv e
    exact ⟨F2,s2,_,rfl,by simpa using l2,by simpa using r2⟩
   subst e3
   obtain ⟨F3,s3,rp,r4⟩:=Rel.giveD (U:=U3) (vs:=[v,u]) (ss:=[s,s']) r3 (l3.trans hl)
   refine kk ?_
   have sm:=s1.trans (s2.trans s3)
   cases rp with
   | cons a0 b0=>
     cases b0 with
     | cons b0 n0=>
       obtain ⟨J1,k1,i1⟩:=zgI (pn:=pn) (xe:=xe) r4.fr a0 el
       obtain ⟨J2,k2,i2⟩:=zgI (pn:=pn) (xe:=xe) r4.fr b0 em
       exact ⟨v,u,J1,J2,rfl,k1,k2,hok _ U3 F3 H1 _ hk sm r4 (ziZ i1 i2)⟩
 | [],_,_,_,hk=>exact hk.elim
 | [_],_,_,_,hk=>exact hk.elim
 | [_,_],[],rv,_,_=>exact rv.elim
 | [_,_],[_],rv,_,_=>exact rv.2.elim
 | [_,_],_::_::_::_,rv,_,_=>exact rv.2.2.elim
 | _::_::_::_,_,_,_,hk=>exact hk.elim
theorem zhE (hr:Room k A):A.mark none=A:=by
 first | rfl | assumption | (simp_all; done)
section
variable {κ:Type} [DecidableEq κ] {kd:κ->D} (inj:∀ a b,kd a=kd b->a=b)
include inj
end
section
variable {K:W.Frag}
theorem zbm:∀ {us:List Value},qW (ns.map V.int) us->IntsAre us ns:=by
 induction ns with
 | nil=>intro us r; cases r; exact .nil
 | cons n ns ih=>
   intro us r
   rw [List.map_cons] at r
   cases r with
   | cons r1 r2=>
     obtain ⟨t,rfl⟩:=r1
     exact .cons _ t (ih r2)
end
end FL
namespace FL
open PySem PySem.W PyProof.Rows
noncomputable def AskOk (n:Nat) (rk:Nat->Int) {α:Type}:KasT α->(α->Prop)->Prop
 | .ret a,P=>P a
 | .ask i j k,P=>i < n/\j < n/\AskOk n rk (k (decide (rk i < rk j))) P
theorem zbl:∀ {t:KasT α},AskOk n rk t (fun a=>AskOk n rk (f a) P)->AskOk n rk (t.bind f) P
 | .ret _,h=>h
 | .ask _ _ _,h=>⟨h.1,h.2.1,zbl h.2.2⟩
noncomputable def kA (rk:Nat->Int) (p:Array Nat) (k:Nat):Int:=rk ((p[k]?).getD 0)
theorem zcX (p:Array Nat) (k:Nat):rk (p.getD k 0)=kA rk p k:=by unfold kA; rw [Array.getD_eq_getD_getElem?]
noncomputable def InR (n:Nat) (p:Array Nat):Prop:=p.size=n/\∀ k,p.getD k 0 < n
noncomputable def Srt (rk:Nat->Int) (p:Array Nat) (m:Nat):Prop:=∀ a b,a<=b->b < m->kA rk p a<=kA rk p b
noncomputable def Dsc (rk:Nat->Int) (p:Array Nat) (m:Nat):Prop:=∀ a b,a<=b->b < m->kA rk p b<=kA rk p a
theorem zbU (h:InR n q) (hp:p.Perm q) (hn:0 < n):InR n p:=by
 refine ⟨hp.size_eq.trans h.1,fun k=>?_⟩
 rw [Array.getD_eq_getD_getElem?]
 cases e:p[k]? with
 | none=>exact hn
 | some x=>
   have hm:x∈q:=hp.mem_iff.mp (Array.mem_of_getElem? e)
   obtain ⟨j,hj,ej⟩:=Array.getElem_of_mem hm
   have:=h.2 j
   first | rfl | assumption | (simp_all; done)
theorem zeW (hr:InR n p):∀ (f m:Nat),1<=m->Srt rk p m->(∀ m',m<=m'->m'<=m + f->Srt rk p m'->(m' < m + f->kA rk p m' < kA rk p (m' - 1))->P m')->AskOk n rk (kas_asc p f m) P
 | 0,m,_,hs,h=>h m (Nat.le_refl _) (Nat.le_refl _) hs fun z=>absurd z (by lia)
 | f + 1,m,h1,hs,h=>by
   refine ⟨hr.2 m,hr.2 (m - 1),?_⟩
   rw [zcX (rk:=rk),zcX (rk:=rk)]
   by_cases hc:kA rk p m < kA rk p (m - 1)
   ·rw [qj hc]
    exact h m (Nat.le_refl _) (by lia) hs fun _=>hc
   ·rw [qk hc]
    refine zeW hr f (m + 1) (by lia) (fun a b hab hb=>?_) fun m' h2 h3 h4 h5=>h m' (by lia) (by lia) h4 fun z=>h5 (by lia)
    by_cases hbm:b < m
    ·exact hs a b hab hbm
    ·have:b=m:=by lia
     subst this
     by_cases ha:a=b
     ·rw [ha]; exact Int.le_refl _
     ·have:=hs a (b - 1) (by lia) (by lia)
      lia
theorem zcJ (hr:InR n p) (hs:Srt rk p k):∀ (f l r:Nat),l<=r->r<=k->r - l<=f->(∀ a,a < l->kA rk p a<=kA rk p k)->(∀ a,r<=a->a < k->kA rk p k < kA rk p a)->
  (∀ l',l'<=k->(∀ a,a < l'->kA rk p a<=kA rk p k)->(∀ a,l'<=a->a < k->kA rk p k < kA rk p a)->P l')->AskOk n rk (kas_place p k f l r) P
 | 0,l,r,h1,h2,h3,h4,h5,h=>by
   have:l=r:=by lia
   subst this
   exact h l h2 h4 h5
 | f + 1,l,r,h1,h2,h3,h4,h5,h=>by
   unfold kas_place
   by_cases hl:l ≥ r
   ·rw [qq hl]
    have:l=r:=by lia
    subst this
    exact h l h2 h4 h5
   ·rw [qr hl]
    refine ⟨hr.2 k,hr.2 _,?_⟩
    rw [zcX (rk:=rk),zcX (rk:=rk)]
    by_cases hc:kA rk p k < kA rk p ((l + r) / 2)
    ·rw [qj hc]
     refine zcJ hr hs f l ((l + r) / 2) (by lia) (by lia) (by lia) h4 (fun a h6 h7=>?_) h
     have:=hs _ a h6 h7
     lia
    ·rw [qk hc]
     refine zcJ hr hs f ((l + r) / 2 + 1) r (by lia) h2 (by lia) (fun a h6=>?_) h5 h
     have:=hs a ((l + r) / 2) (by lia) (by lia)
     lia
theorem zdT (hk:k < p.size) (hd:d<=k) (j:Nat):kA rk (bubble p k d) j=if j=k - d then kA rk p k else if k - d < j/\j<=k then kA rk p (j - 1) else kA rk p j:=by
 unfold kA
 rw [getElem?_bubble hk d hd j]
 grind
theorem zhd (hn:0 < n):∀ (f:Nat) (p:Array Nat) (k:Nat),InR n p->Srt rk p k->k + f<=n->(∀ p',p'.Perm p->InR n p'->Srt rk p' (k + f)->P p')->AskOk n rk (kas_bin f p k) P
 | 0,p,k,hr,hs,_,h=>h p (Array.Perm.refl _) hr hs
 | f + 1,p,k,hr,hs,hk,h=>by
   unfold kas_bin
   refine zbl (zcJ hr hs k 0 k (Nat.zero_le _) (Nat.le_refl _) (by lia) (fun a z=>absurd z (by lia)) (fun a z1 z2=>absurd z1 (by lia)) fun l hl h1 h2=>?_)
   have hks:k < p.size:=by rw [hr.1]; lia
   have hp:=bubble_perm p k (k - l)
   refine zhd hn f _ (k + 1) (zbU hr hp hn) (fun a b hab hb=>?_) (by lia) fun p' q1 q2 q3=>h p' (q1.trans hp) q2 (by rw [show k + (f + 1)=k + 1 + f by lia]; exact q3)
   rw [zdT hks (by lia),zdT hks (by lia)]
   have ekl:k - (k - l)=l:=by lia
   rw [ekl]
   by_cases ha:a=l
   ·rw [qq ha]
    by_cases hb2:b=l
    ·rw [qq hb2]; exact Int.le_refl _
    ·rw [qr hb2,qq ⟨by lia,by lia⟩]
     have:=h2 (b - 1) (by lia) (by lia)
     lia
   ·rw [qr ha]
    by_cases ha2:l < a/\a<=k
    ·rw [qq ha2,qr (by lia),qq ⟨by lia,by lia⟩]
     exact hs (a - 1) (b - 1) (by lia) (by lia)
    ·rw [qr ha2]
     have hal:a < l:=by lia
     by_cases hb2:b=l
     ·rw [qq hb2]; exact h1 a hal
     ·rw [qr hb2]
      by_cases hb3:l < b/\b<=k
      ·rw [qq hb3]; exact hs a (b - 1) (by lia) (by lia)
      ·rw [qr hb3]; exact hs a b hab (by lia)
theorem zeu (hj:j<=p.size) (k:Nat):kA rk (kas_rev p i j) k=if i<=k/\k < j then kA rk p (i + j - 1 - k) else kA rk p k:=by
 unfold kA kas_rev
 rw [getElem?_mirror_all hj]
 by_cases h:i<=k/\k < j
 ·rw [qq h,qq h]
 ·rw [qr h,qr h]
theorem zaZ (p:Array Nat) (i j:Nat):(kas_rev p i j).Perm p:=mirror_perm ..
theorem zdk (hn:0 < n):∀ (f:Nat) (p:Array Nat) (m q:Nat),InR n p->Dsc rk p m->m + f<=n->q + 1<=m->(∀ a,m - (q + 1)<=a->a < m->kA rk p a=kA rk p (m - 1))->
  (∀ p' m' q',p'.Perm p->InR n p'->Dsc rk p' m'->m'<=m + f->m<=m'->q' + 1<=m'->(∀ a,m' - (q' + 1)<=a->a < m'->kA rk p' a=kA rk p' (m' - 1))->P (p',m',q'))->AskOk n rk (kas_desc f p m q) P
 | 0,p,m,q,hr,hd,_,hq,he,h=>h p m q (Array.Perm.refl _) hr hd (Nat.le_refl _) (Nat.le_refl _) hq he
 | f + 1,p,m,q,hr,hd,hm,hq,he,h=>by
   unfold kas_desc
   refine ⟨hr.2 m,hr.2 (m - 1),?_⟩
   rw [zcX (rk:=rk),zcX (rk:=rk)]
   by_cases hc:kA rk p m < kA rk p (m - 1)
   ·(rw [qj hc]; dsimp only; rw [qq rfl])
    have go:∀ p2:Array Nat,p2.Perm p->(∀ k,kA rk p2 k=kA rk p k)->AskOk n rk (kas_desc f p2 (m + 1) 0) P:=by
     intro p2 hp hk
     refine zdk hn f p2 (m + 1) 0 (zbU hr hp hn) (fun a b hab hb=>?_) (by lia) (by lia) (fun a h1 h2=>?_) fun p' m' q' g1 g2 g3 g4 g5 g6 g7=>h p' m' q' (g1.trans hp) g2 g3 (by lia) (by lia) g6 g7
     ·rw [hk,hk]
      by_cases hbm:b < m
      ·exact hd a b hab hbm
      ·have:b=m:=by lia
       subst this
       by_cases ha:a=b
       ·rw [ha]; exact Int.le_refl _
       ·have:=hd a (b - 1) (by lia) (by lia)
        lia
     ·have:a=m + 1 - 1:=by lia
      rw [this]
    by_cases hq0:q > 0
    ·rw [qq hq0]
     refine go _ (zaZ ..) fun k=>?_
     rw [zeu (by rw [hr.1]; lia)]
     by_cases hk:m - (q + 1)<=k/\k < m
     ·rw [qq hk,he k hk.1 hk.2,he _ (by lia) (by lia)]
     ·rw [qr hk]
    ·rw [qr hq0]
     exact go p (Array.Perm.refl _) fun _=>rfl
   ·(rw [qk hc]; dsimp only; rw [qr qp])
    refine ⟨hr.2 (m - 1),hr.2 m,?_⟩
    rw [zcX (rk:=rk),zcX (rk:=rk)]
    by_cases hc2:kA rk p (m - 1) < kA rk p m
    ·(rw [qj hc2]; dsimp only; rw [qq rfl])
     exact h p m q (Array.Perm.refl _) hr hd (by lia) (Nat.le_refl _) hq he
    ·(rw [qk hc2]; dsimp only; rw [qr qp])
     have heq:kA rk p m=kA rk p (m - 1):=by lia
     refine zdk hn f p (m + 1) (q + 1) hr (fun a b hab hb=>?_) (by lia) (by lia) (fun a h1 h2=>?_) fun p' m' q' g1 g2 g3 g4 g5 g6 g7=>h p' m' q' g1 g2 g3 (by lia) (by lia) g6 g7
     ·by_cases hbm:b < m
      ·exact hd a b hab hbm
      ·have:b=m:=by lia
       subst this
       by_cases ha:a=b
       ·rw [ha]; exact Int.le_refl _
       ·have:=hd a (b - 1) (by lia) (by lia)
        lia
     ·show kA rk p a=kA rk p m
      by_cases ha:a=m
      ·rw [ha]
      ·rw [heq]; exact he a (by lia) (by lia)
theorem zjJ (hm:m<=p.size) (hd:Dsc rk p m):Srt rk (kas_rev p 0 m) m:=fun a b hab hb=>by
 rw [zeu hm,zeu hm,qq ⟨Nat.zero_le _,by lia⟩,qq ⟨Nat.zero_le _,hb⟩]
 exact hd _ _ (by lia) (by lia)
theorem zfe (hn:0 < n) (hr:InR n p) (hd:Dsc rk p m) (h1:1<=m) (hm:m<=n)
  (h:∀ m' p',p'.Perm p->InR n p'->m<=m'->m'<=n->Srt rk p' m'->P (m',p')):AskOk n rk (kas_tail3 m n p) P:=by
 have hs:=zjJ (by rw [hr.1]; exact hm) hd
 have hr2:=zbU hr (zaZ p 0 m) hn
 unfold kas_tail3
 exact zbl (zeW hr2 (n - m) m h1 hs fun m' g1 g2 g3 _=>h m' _ (zaZ ..) hr2 g1 (by lia) g3)
theorem zdZ (hn:0 < n) (hr:InR n p) (hd:Dsc rk p (m + 1)) (h1:1<=m) (hm:m + 1<=n)
  (h:∀ m' p',p'.Perm p->InR n p'->1<=m'->m'<=n->Srt rk p' m'->P (m',p')):AskOk n rk (kas_descPart m n p) P:=by
 unfold kas_descPart
 refine zbl (zdk hn (n - (m + 1)) p (m + 1) 0 hr hd (by lia) (by lia) (fun a g1 g2=>by rw [show a=m + 1 - 1 by lia]) fun p' m' q' g1 g2 g3 g4 g5 g6 g7=>?_)
 show AskOk n rk (if q' > 0 then kas_tail3 m' n (kas_rev p' (m' - (q' + 1)) m') else kas_tail3 m' n p') P
 by_cases hq:q' > 0
 ·rw [qq hq]
  have hk:∀ k,kA rk (kas_rev p' (m' - (q' + 1)) m') k=kA rk p' k:=fun k=>by
   rw [zeu (by rw [g2.1]; lia)]
   by_cases hk:m' - (q' + 1)<=k/\k < m'
   ·rw [qq hk,g7 k hk.1 hk.2,g7 _ (by lia) (by lia)]
   ·rw [qr hk]
  refine zfe hn (zbU g2 (zaZ ..) hn) (fun a b hab hb=>by rw [hk,hk]; exact g3 a b hab hb) (by lia) (by lia) fun m2 p2 e1 e2 e3 e4 e5=>h m2 p2 (e1.trans ((zaZ ..).trans g1)) e2 (by lia) e4 e5
 ·rw [qr hq]
  exact zfe hn g2 g3 (by lia) (by lia) fun m2 p2 e1 e2 e3 e4 e5=>h m2 p2 (e1.trans g1) e2 (by lia) e4 e5
theorem zgx (hn:2<=n) (hr:InR n p) (h:∀ m' p',p'.Perm p->InR n p'->1<=m'->m'<=n->Srt rk p' m'->P (m',p')):AskOk n rk (kas_count n p) P:=by
 unfold kas_count
 refine zbl (zeW hr (n - 1) 1 (Nat.le_refl _) (fun a b hab hb=>by rw [show a=b by lia]; exact Int.le_refl _) fun m g1 g2 g3 g4=>?_)
 by_cases hm:(m == n)=true
 ·rw [qq hm]
  have:m=n:=by simpa using hm
  exact h m p (Array.Perm.refl _) hr g1 (by lia) g3
 ·rw [qr hm]
  have hne:m≠n:=by simpa using hm
  have hlt:=g4 (by lia)
  by_cases hm1:m > 1
  ·rw [qq hm1]
   refine ⟨hr.2 0,hr.2 (m - 1),?_⟩
   rw [zcX (rk:=rk),zcX (rk:=rk)]
   by_cases hc:kA rk p 0 < kA rk p (m - 1)
   ·(rw [qj hc]; dsimp only; rw [qq rfl])
    exact h m p (Array.Perm.refl _) hr g1 (by lia) g3
   ·(rw [qk hc]; dsimp only; rw [qr qp])
    have heq:∀ a,a < m->kA rk p a=kA rk p (m - 1):=fun a ha=>by
     have e1:=g3 0 a (Nat.zero_le _) ha
     have e2:=g3 a (m - 1) (by lia) (by lia)
     lia
    have hk:∀ k,kA rk (kas_rev p 0 m) k=kA rk p k:=fun k=>by
     rw [zeu (by rw [hr.1]; lia)]
     grind
    refine zdZ (by lia) (zbU hr (zaZ ..) (by lia)) (fun a b hab hb=>?_) g1 (by lia) fun m2 p2 e1 e2 e3 e4 e5=>h m2 p2 (e1.trans (zaZ ..)) e2 e3 e4 e5
    grind
  ·rw [qr hm1]
   have:m=1:=by lia
   subst this
   refine zdZ (by lia) hr (fun a b hab hb=>?_) (Nat.le_refl _) (by lia) h
   grind
theorem zhL (hn:0 < n):InR n (List.range n).toArray:=by
 refine ⟨by simp,fun k=>?_⟩
 rw [Array.getD_eq_getD_getElem?]
 by_cases hk:k < n
 ·simp [hk]
 ·simp [hk]; exact hn
theorem ziW (hn:2<=n) (h:∀ p,p.Perm (List.range n).toArray->Srt rk p n->P p):AskOk n rk (kas_sort n) P:=by
 unfold kas_sort
 refine zbl (zgx hn (zhL (by lia)) fun m p g1 g2 g3 g4 g5=>?_)
 show AskOk n rk (if m < n then kas_bin (n - max m 1) p (max m 1) else .ret p) P
 have hmax:max m 1=m:=by lia
 rw [hmax]
 by_cases hm:m < n
 ·rw [qq hm]
  exact zhd (by lia) (n - m) p m g2 g5 (by lia) fun p' e1 e2 e3=>h p' (e1.trans g1) (by rw [show m + (n - m)=n by lia] at e3; exact e3)
 ·rw [qr hm]
  have:m=n:=by lia
  subst this
  exact h p g1 g5
end FL
namespace FL
open PySem PySem.Spec PyProof.Rows L2
theorem zlN {h:Heap} (x:h.Ns a m) (y:h.Ns a m'):m=m':=by
 obtain ⟨o,es,ep,e,d,_,f⟩:=x
 obtain ⟨o',es',ep',e',d',_,f'⟩:=y
 grind
theorem Inv.laidF (I:Inv X qZ σ H s) (hn:∀ m,s.heap.Ns X.env.locals m->h'.Ns X.env.locals m) (k:∀ b u,b≠X.env.locals->s.heap.get? b=some u->h'.get? b=some u)
  (hp:s.heap.get? a=none) (new:qY X.prog X.w (upd H a o) h' a o):Inv X qZ σ (upd H a o) { s with heap:=h',toks:=t' }:=by
 have ha:H a=none:=by
  cases e:H a with
  | none=>rfl
  | some u=>obtain ⟨v,z⟩:=qY.there (I.hok a u e); rw [hp] at z; cases z
 refine I.step (g':=s.gens) (d':=s.drawn) (ch:=[]) (fun _ z=>nomatch z) (fun b ob nL _ _ e _=>k b ob nL e) (fun b ob nL _ _ e _=>⟨ob.slots,k b ob nL e⟩) (fun b ob _ e n=>by rw [zag (fun z=>by rw [z,hp] at e; cases e)]; exact n)
  (fun b ob _ e=>?_) (fun b xs q=>by rw [zag (zas q ha)]; exact q) (fun b u xs q=>by rw [zag (zas q ha)]; exact q) (fun b ps q=>⟨#[],by rw [zag (zas q ha),q]; simp⟩) hn (fun b ob e=>?_) I.bare
 ·by_cases hb:b=X.env.locals
  ·obtain ⟨m,x,_⟩:=I.loc
   obtain ⟨o',_,_,e',_⟩:=hn m x
   exact ⟨o',by rw [hb]; exact e'⟩
  ·exact ⟨ob,k b ob hb e⟩
 ·by_cases hb:b=a
  ·subst hb; rw [zam] at e; cases e; exact new
  ·rw [zag hb] at e
   refine (I.hok b ob e).stay (fun c v hc q=>k c v (fun z=>?_) q) (fun c q=>by rw [zag (zas q ha)]; exact q) fun c xs q=>by rw [zag (zas q ha)]; exact q
   rw [z] at hc
   rcases hc with r | r
   ·rw [<- r,I.free] at e; cases e
   ·rw [I.free] at r; cases r
section
open HT
theorem zhS:∀ l:List Int,lexLt l l=false
 | []=>rfl
 | x::l=>by rw [zaC,qq rfl,zhS l]
theorem zds:∀ k j i:List Int,lexLt k j=true->lexLt i j=false->lexLt k i=true
 | [],[],_,h,_=>by cases h
 | [],_::_,[],_,g=>by cases g
 | [],_::_,_::_,_,_=>rfl
 | _::_,[],_,h,_=>by cases h
 | _::_,_::_,[],_,g=>by cases g
 | x::k,y::j,z::i,h,g=>by
   rw [zaC] at h g ⊢
   by_cases xy:x=y
   ·by_cases zy:z=y
    ·rw [qq xy] at h
     rw [qq zy] at g
     rw [qq (xy.trans zy.symm)]
     exact zds k j i h g
    ·rw [qr zy] at g
     have:=of_decide_eq_false g
     rw [qr (by lia)]
     exact qj (by lia)
   ·rw [qr xy] at h
    have:=qo h
    by_cases zy:z=y
    ·rw [qr (by lia)]
     exact qj (by lia)
    ·rw [qr zy] at g
     have:=of_decide_eq_false g
     rw [qr (by lia)]
     exact qj (by lia)
theorem zca:∀ i j:List Int,lexLt i j=true->lexLt j i=false
 | [],[],h=>by cases h
 | [],_::_,_=>rfl
 | _::_,[],h=>by cases h
 | x::i,y::j,h=>by
   rw [zaC] at h ⊢
   by_cases xy:x=y
   ·rw [qq xy] at h
    rw [qq xy.symm]
    exact zca i j h
   ·rw [qr xy] at h
    have:=qo h
    rw [qr (by lia)]
    exact qk (by lia)
theorem zgZ (h:∀ x,p x=true->q x=true):∀ l:List Nat,l.countP p<=l.countP q
 | []=>Nat.le_refl _
 | a::l=>by
   rw [List.countP_cons,List.countP_cons]
   have:=zgZ h l
   cases e:p a with
   | true=>rw [h a e]; lia
   | false=>simp only [Bool.false_eq_true,if_false]; lia
theorem zjw (h:∀ x,p x=true->q x=true):∀ l:List Nat,(∃ x,x∈l/\q x=true/\p x=false)->l.countP p < l.countP q
 | [],z=>by obtain ⟨_,z,_⟩:=z; cases z
 | a::l,z=>by
   rw [List.countP_cons,List.countP_cons]
   obtain ⟨x,hx,qx,px⟩:=z
   by_cases e:x=a
   ·subst e
    have:=zgZ h l
    rw [qx,px]
    simp only [Bool.false_eq_true,if_false,if_true]
    lia
   ·have:=zjw h l ⟨x,(List.mem_cons.mp hx).resolve_left e,qx,px⟩
    cases e:p a with
    | true=>rw [h a e]; lia
    | false=>simp only [Bool.false_eq_true,if_false]; lia
noncomputable def rkL (ls:List (List Int)) (i:Nat):Int:=((List.range ls.length).countP fun j=>lexLt (ls.getD j []) (ls.getD i []):Nat)
theorem zlh (hi:i < ls.length):decide (rkL ls i < rkL ls j)=lexLt (ls.getD i []) (ls.getD j []):=by
 unfold rkL
 cases e:lexLt (ls.getD i []) (ls.getD j []) with
 | true=>
   refine qj (Int.ofNat_lt.mpr (zjw (fun k hk=>?_) _ ⟨i,List.mem_range.mpr hi,e,zhS _⟩))
   exact zds _ _ _ hk (zca _ _ e)
 | false=>
   refine qk fun h=>?_
   have:=zgZ (p:=fun k=>lexLt (ls.getD k []) (ls.getD j [])) (q:=fun k=>lexLt (ls.getD k []) (ls.getD i [])) (fun k hk=>zds _ _ _ hk e) (List.range ls.length)
   lia
end
section
open PySem.W HT
theorem zeF (i:Nat) (r:IntsAre us ns) (r':IntsAre vs ms) (h:Q (lexLt ns ms) s):KatLex prog w A b (decide (ns.length < ms.length)) Q (us.zip vs) i s:=by
 induction r generalizing vs ms i with
 | nil=>cases r' <;> exact kat_nil h
 | @cons n _ _ ns r ih=>cases r' with
   | nil=>exact kat_nil h
   | @cons m _ _ ms r'=>
     have e:decide ((n::ns).length < (m::ms).length)=decide (ns.length < ms.length):=decide_eq_decide.2 Nat.succ_lt_succ_iff
     rw [e]
     refine kat_cons (wpAny_eqBool_int ?_)
     rw [zaC] at h
     by_cases nm:n=m
     ·rw [qq nm] at h
      rw [show (n == m)=true by simp [nm]]
      exact kat_yes (ih (i + 1) r' h)
     ·rw [qr nm] at h
      rw [show (n == m)=false by simp [nm]]
      refine kat_no ?_
      cases (b && i == 0) with
      | true=>exact oneLt_int h
      | false=>exact kat_one _ _ (PyProof.Rows.lt_int h)
theorem zdb {P:α->Prop} {R:α->Shared->Prop} (hc:∀ i j (C:Bool->Shared->Prop),i < n->j < n->C (decide (rk i < rk j)) s->kas_ask prog w A κ vs i j C s):
  ∀ (t:KasT α),AskOk n rk t P->(∀ a,P a->R a s)->t.kasWp (kas_ask prog w A κ vs) R s
 | .ret a,h,q=>q a h
 | .ask i j k,h,q=>hc i j _ h.1 h.2.1 (zdb hc (k _) h.2.2 q)
noncomputable def rest (h₀:Heap) (L:Addr) (h:Heap):List (Addr×Obj):=(List.range h.objs.size).filterMap fun b=>if b=L then none else if (h₀.get? b).isSome then none else (h.get? b).map fun o=>(b,o)
theorem zcf:p∈rest h₀ L h↔h.get? p.1=some p.2/\p.1≠L/\h₀.get? p.1=none:=by
 unfold rest
 rw [List.mem_filterMap]
 constructor
 ·rintro ⟨b,_,e⟩
  by_cases h1:b=L
  ·rw [qq h1] at e; cases e
  ·rw [qr h1] at e
   cases h2:h₀.get? b with
   | some o=>rw [h2] at e; cases e
   | none=>
     rw [h2] at e
     simp only [Option.isSome_none,Bool.false_eq_true,if_false] at e
     obtain ⟨o,e1,e2⟩:=Option.map_eq_some_iff.mp e
     cases e2
     exact ⟨e1,h1,h2⟩
 ·rintro ⟨e1,e2,e3⟩
  refine ⟨p.1,List.mem_range.mpr (qf e1),?_⟩
  rw [qr e2,e3,e1]
  rfl
theorem zg4:∀ {bs:List Addr} {zc:List Value},qW (bs.map V.ref) zc->zc=bs.map Value.ref
 | [],_,.nil=>rfl
 | b::bs,_,.cons r t=>by
   have e:_=Value.ref b:=r
   rw [e,zg4 t]
   rfl
theorem zef:∀ bs:List Addr,qW (bs.map V.ref) (bs.map Value.ref)
 | []=>.nil
 | _::bs=>.cons rfl (zef bs)
noncomputable def TupI (h:Heap) (b:Addr) (l:List Int):Prop:=∃ us,IntsAre us l/\IsTup h b us.toArray
theorem katTups:∀ {bs:List Addr} {ls:List (List Int)},Paired (fun b l=>l≠[]/\TupI h b l) bs ls->∃ fs:List Value,KatTups h (bs.map Value.ref) fs/\fs.length=bs.length/\∀ v∈fs,∃ z t,v=Value.int z t
 | _,_,.nil=>⟨[],.nil,rfl,fun _ z=>nomatch z⟩
 | _,_,.cons ⟨hne,us,r,o,e,c,n,d⟩ t=>by
   obtain ⟨fs,t1,t2,t3⟩:=katTups t
   cases r with
   | nil=>exact absurd rfl hne
   | cons i tk r'=>
     refine ⟨_::fs,.cons e c d rfl t1,by simp [t2],fun v hv=>?_⟩
     rcases List.mem_cons.mp hv with z | z
     ·exact ⟨_,_,z⟩
     ·exact t3 v z
theorem zbK {R:α->β->Prop}:∀ {l:List α} {m:List β} (i:Nat) (da:α) (db:β),Paired R l m->i < l.length->R (l.getD i da) (m.getD i db)
 | _,_,0,_,_,.cons r _,_=>r
 | _,_,i + 1,da,db,.cons _ t,h=>zbK i da db t (by simpa using h)
noncomputable def rSortT (K:W.Frag):List V->Hp->VK->Prop:=fun xs H Q=>∃ (a:Addr) (bs:List Addr) (ls:List (List Int)),xs=[.ref a]/\SqL K H a (bs.map V.ref)/\2<=bs.length/\bs.length < 64/\
 Paired (fun b l=>l≠[]/\SqT K H b (l.map V.int)) bs ls/\
 ∀ p:Array Nat,p.Perm (List.range bs.length).toArray->Srt (rkL ls) p bs.length->∀ q,H q=none->Q (.ref q) (upd H q (.lst ((p.toList.map fun i=>bs.getD i 0).map V.ref)))
theorem zeq:CallR X (.builtin "sorted") (rSortT X.K):=by
 intro qZ s σ H xs us Q I r h
 obtain ⟨a,bs,ls,rfl,hq,h2,h64,ht,q⟩:=h
 cases r with
 | cons r1 r2=>
   cases r2
   cases r1
   obtain ⟨zc,rv,pl,_⟩:=I.list hq
   have hv:=zg4 rv
   subst hv
   obtain ⟨m,F⟩:=I.fr
   have N:News X.base X.env.locals s.heap (rest X.base X.env.locals s.heap):=fun p hp=>zcf.mp hp
   refine kat_sorted F N pl.isList (by rw [List.length_map]; exact h2) (by rw [List.length_map]; exact h64) fun D e1 h' F' N' hD=>?_
   have kp:∀ {h':Heap},Fr X.base X.env.locals h' m->News X.base X.env.locals h' (rest X.base X.env.locals s.heap)->∀ b u,b≠X.env.locals->s.heap.get? b=some u->h'.get? b=some u:=fun {h'} F' N' b u hb e=>by
    cases hb0:X.base.get? b with
    | some o=>
      rw [F.keep b o hb0] at e
      rw [<- e]
      exact F'.keep b o hb0
    | none=>exact (N' (b,u) (zcf.mpr ⟨e,hb,hb0⟩)).1
   have tl:∀ {d o news},News X.base X.env.locals h' ((d,o)::news)->News X.base X.env.locals h' news:=fun N p hp=>N p (List.mem_cons_of_mem _ hp)
   have hDn:s.heap.get? D=none:=by
    cases e:s.heap.get? D with
    | none=>rfl
    | some u=>
      obtain ⟨_,n1,n2⟩:=N' (D,seqObj "list" #[] e1) List.mem_cons_self
      exact absurd (hD (D,u) (zcf.mpr ⟨e,n1,n2⟩)) (Nat.lt_irrefl _)
   have tp:Paired (fun b l=>l≠[]/\TupI h' b l) bs ls:=Paired.mapP ht fun b l ⟨hne,hs⟩=>by
    obtain ⟨us,r,⟨o,e,c,n,d⟩,_⟩:=I.tuple hs
    refine ⟨hne,us,zbm r,o,kp F' (tl N') b o (fun z=>?_) e,c,n,d⟩
    obtain ⟨m,⟨o',es,ep,e',d',_⟩,_⟩:=I.loc
    rw [z,e'] at e; cases e
    rw [d'] at d; cases d
   obtain ⟨fs,t1,t2,t3⟩:=katTups tp
   have hll:ls.length=bs.length:=(Paired.length tp).symm
   refine kat_kind (T:=.type "int") t1 (by lia) (fun v hv=>?_) (by rfl) ?_
   ·obtain ⟨z,t,rfl⟩:=t3 v hv
    exact Looks.of_pure rfl
   ·refine zdb (n:=bs.length) (rk:=rkL ls) (P:=fun p=>p.Perm (List.range bs.length).toArray/\Srt (rkL ls) p bs.length) (fun i j C hi hj hc=>?_) _ (by rw [List.length_map]; exact ziW h2 fun p a b=>⟨a,b⟩) fun p ⟨p1,p2⟩=>?_
    ·rw [zlh (by lia)] at hc
     refine cps fun _ kk=>?_
     obtain ⟨_,us,r,o,e,c,n,d⟩:=zbK i 0 [] tp hi
     obtain ⟨_,us',r',o',e',c',n',d'⟩:=zbK j 0 [] tp hj
     refine kk ?_
     have g:∀ i,i < bs.length->(bs.map Value.ref).getD i Value.none=.ref (bs.getD i 0):=fun i hi=>by simp [hi]
     unfold kas_ask
     rw [g i hi,g j hj]
     refine kat_lt e d e' d' ?_
     have l1:us.toArray.size=(ls.getD i []).length:=by rw [List.size_toArray]; exact r.length
     have l2:us'.toArray.size=(ls.getD j []).length:=by rw [List.size_toArray]; exact r'.length
     rw [l1,l2]
     exact zeF 0 r r' hc
    ·refine KasFin.intro F' N' (.head fun p hp=>Nat.ne_of_lt (hD p hp)) fun h3 c F3 N3=>?_
     have eo:(p.toList.map fun i=>(bs.map Value.ref).getD i Value.none)=(p.toList.map fun i=>bs.getD i 0).map Value.ref:=by
      rw [List.map_map]
      refine List.map_congr_left fun i hi=>?_
      have hi':i < bs.length:=by
       have:=p1.mem_iff.mp (Array.mem_toList_iff.mp hi)
       simpa using this
      simp [hi']
     rw [eo] at N3
     have hsz:p.toList.length=bs.length:=by
      have:=p1.size_eq
      simpa using this
     refine ⟨.ref D,_,Inv.laidF (s:=s) (t':=s.toks) (o:=.lst ((p.toList.map fun i=>bs.getD i 0).map V.ref)) I (fun m' x=>by rw [zlN x F.ns]; exact F3.ns) (fun b u hb e=>kp F3 (fun p hp=>N3 p (List.mem_cons_of_mem _ hp)) b u hb e) hDn ?_,rfl,q p p1 p2 D ?_⟩
     ·refine ⟨by simp only [List.length_map]; rw [qz]; lia,_,c,zef _,(N3 (D,_) List.mem_cons_self).1⟩
     ·cases e:H D with
      | none=>rfl
      | some u=>obtain ⟨v,z⟩:=qY.there (I.hok D u e); rw [hDn] at z; cases z
end
end FL
namespace FL
noncomputable def tI (ns:List Int):D:=.tup (ns.map .int)
noncomputable def tupsD:List D->Option (List (List Int))
 | []=>some []
 | .tup ds::r=>match intsD ds with
   | some (x::xs)=>(tupsD r).map ((x::xs)::·)
   | _=>none
 | _::_=>none
noncomputable def sortT (l:List D):Option S:=if 2<=l.length/\l.length < 64/\(tupsD l).isSome=true then some (.lst ((sortD l).map .sh)) else none
noncomputable def bSortT:List D->Option S
 | [.lst l]=>sortT l
 | _=>none
theorem zfu:∀ {l:List D} {ns:List Int},intsD l=some ns->l=ns.map .int
 | [],_,h=>by cases h; rfl
 | .int x::r,ns,h=>by
   rw [intsD] at h
   obtain ⟨ys,h1,rfl⟩:=Option.map_eq_some_iff.mp h
   rw [zfu h1]; rfl
theorem zfd:∀ {l:List D} {ls:List (List Int)},tupsD l=some ls->l=ls.map tI/\∀ x∈ls,x≠[]
 | [],_,h=>by cases h; exact ⟨rfl,fun _ z=>nomatch z⟩
 | .tup ds::r,ls,h=>by
   rw [tupsD] at h
   split at h
   ·rename_i x xs e
    obtain ⟨ys,h1,rfl⟩:=Option.map_eq_some_iff.mp h
    obtain ⟨e1,e2⟩:=zfd h1
    refine ⟨by rw [e1,zfu e]; rfl,fun z hz=>?_⟩
    rcases List.mem_cons.mp hz with rfl | hz
    ·exact fun q=>nomatch q
    ·exact e2 z hz
   ·cases h
theorem zd1:∀ {ls:List (List Int)},(∀ x∈ls,x≠[])->tupsD (ls.map tI)=some ls
 | [],_=>rfl
 | []::_,h=>absurd rfl (h [] List.mem_cons_self)
 | (x::xs)::ls,h=>by
   rw [List.map_cons]
   show (match intsD ((x::xs).map D.int) with | some (x::xs)=>(tupsD (ls.map tI)).map ((x::xs)::·) | _=>none)=_
   rw [zbL,zd1 fun y hy=>h y (List.mem_cons_of_mem _ hy)]
   rfl
noncomputable def sort3 (l:List D):Option S:=if l.length < 2 then some (.lst (l.map .sh)) else match sortT l with
 | some s=>some s
 | none=>sortS l
noncomputable def bSort3:List D->Option S
 | [.lst l]=>sort3 l
 | _=>none
theorem zfG {ls:List (List Int)} (h64:ls.length < 64) (hne:∀ x∈ls,x≠[]):bSort3 [.lst (ls.map tI)]=some (.lst ((sortD (ls.map tI)).map .sh)):=by
 show sort3 _=_
 unfold sort3
 by_cases h2:(ls.map tI).length < 2
 ·rw [qq h2]
  match ls,h2 with
  | [],_=>rfl
  | [_],_=>rfl
  | _::_::_,h2=>simp at h2; lia
 ·rw [qr h2]
  rw [List.length_map] at h2
  have e:sortT (ls.map tI)=some (.lst ((sortD (ls.map tI)).map .sh)):=by
   unfold sortT
   rw [qq ⟨by rw [List.length_map]; lia,by rw [List.length_map]; exact h64,by rw [zd1 hne]; rfl⟩]
  rw [e]
end FL
namespace FL
open PySem PySem.Spec PyProof.Rows L2
open HT
theorem zdd:∀ ns ms:List Int,cmpDs (ns.map .int) (ms.map .int)=if lexLt ns ms=true then .lt else if lexLt ms ns=true then .gt else .eq
 | [],[]=>rfl
 | [],_::_=>rfl
 | _::_,[]=>rfl
 | x::ns,y::ms=>by
   rw [List.map_cons,List.map_cons,zaC,zaC,cmpDs,cmpD]
   by_cases h:x < y
   ·rw [qq h,qr (show ¬ x=y by lia),qq (qj h)]
   ·rw [qr h]
    by_cases h2:y < x
    ·rw [qq h2,qr (show ¬ x=y by lia),qr (show ¬ y=x by lia),qr (by simp; lia),qq (qj h2)]
    ·have e:x=y:=by lia
     subst e
     rw [qr h2,qq rfl,qq rfl]
     exact zdd ns ms
theorem zbw (ns ms:List Int):leD (tI ns) (tI ms)=!lexLt ms ns:=by
 unfold leD tI
 rw [cmpD,zdd]
 cases e:lexLt ns ms with
 | true=>rw [zca _ _ e]; rfl
 | false=>
   cases e2:lexLt ms ns with
   | true=>rfl
   | false=>rfl
theorem zfp:∀ a b:List Int,lexLt a b=false->lexLt b a=false->a=b
 | [],[],_,_=>rfl
 | [],_::_,h,_=>by cases h
 | _::_,[],_,h=>by cases h
 | x::a,y::b,h,g=>by
   rw [zaC] at h g
   by_cases e:x=y
   ·subst e
    rw [qq rfl] at h g
    rw [zfp a b h g]
   ·rw [qr e] at h
    rw [qr (Ne.symm e)] at g
    have:=of_decide_eq_false h
    have:=of_decide_eq_false g
    lia
noncomputable def IsTI (d:D):Prop:=∃ ns,d=tI ns
theorem zj8:OrdOn IsTI where
 tot:=by
  rintro _ _ ⟨a,rfl⟩ ⟨b,rfl⟩
  rw [zbw,zbw]
  cases e:lexLt b a with
  | false=>exact .inl rfl
  | true=>exact .inr (by rw [zca _ _ e]; rfl)
 tr:=by
  rintro _ _ _ ⟨a,rfl⟩ ⟨b,rfl⟩ ⟨c,rfl⟩
  rw [zbw,zbw,zbw]
  intro h1 h2
  cases e:lexLt c a with
  | false=>rfl
  | true=>
    grind [zds]
 anti:=by
  rintro _ _ ⟨a,rfl⟩ ⟨b,rfl⟩
  grind [zbw,zfp]
section
variable {K:W.Frag}
theorem zgA:∀ {xs:List V} {ls:List (List Int)},qX K F xs (ls.map tI)->∃ bs:List Addr,xs=bs.map V.ref/\Paired (fun b l=>F b=some (.tup (l.map V.int))) bs ls
 | _,[],.nil=>⟨[],rfl,.nil⟩
 | _,l::ls,.cons a b=>by
   obtain ⟨bs,e,t⟩:=zgA b
   cases a with
   | tup h r=>
     obtain ⟨e1,_⟩:=zeA r (zbL l)
     subst e1
     exact ⟨_::bs,by rw [e]; rfl,.cons h t⟩
theorem zdM:∀ {bs:List Addr} {ls:List (List Int)},Paired (fun b l=>F b=some (.tup (l.map V.int))) bs ls->qX K F (bs.map V.ref) (ls.map tI)
 | _,_,.nil=>.nil
 | _,_,.cons h t=>.cons (.tup h (zbC _)) (zdM t)
theorem zde {R:α->β->Prop} {l:List α} {m:List β} {da:α} {db:β} (h:Paired R l m):∀ {q:List Nat},(∀ i∈q,i < l.length)->Paired R (q.map fun i=>l.getD i da) (q.map fun i=>m.getD i db)
 | [],_=>.nil
 | i::q,z=>.cons (zbK i da db h (z i List.mem_cons_self)) (zde h fun j hj=>z j (List.mem_cons_of_mem _ hj))
theorem zhz {R R':α->β->Prop} {l:List α} {m:List β} (h:Paired R l m) (f:∀ a b,b∈m->R a b->R' a b):Paired R' l m:=by
 induction h with
 | nil=>exact .nil
 | cons r _ ih=>exact .cons (f _ _ List.mem_cons_self r) (ih fun a b hb=>f a b (List.mem_cons_of_mem _ hb))
theorem zfW {α:Type} (d:α):∀ l:List α,(List.range l.length).map (fun i=>l.getD i d)=l:=fun l=>by
 refine List.ext_getElem (by simp) fun i h1 h2=>?_
 simp [h2]
theorem zf4:DoesB K (rSortT K) bSortT:=by
 intro σ U F G H vs ds s Q q8 re e hq
 obtain ⟨d,v,rfl,rfl⟩:=arg1 (fun x y r=>by cases x <;> rfl) rfl re e
 cases d with
 | lst l=>
   have e:sortT l=some s:=e
   unfold sortT at e
   split at e
   ·rename_i hc
    cases e
    obtain ⟨h2,h64,h3⟩:=hc
    obtain ⟨ls,q1⟩:=Option.isSome_iff_exists.mp h3
    obtain ⟨el,hne⟩:=zfd q1
    subst el
    rw [List.length_map] at h2 h64
    obtain ⟨a,xs,rfl,h1,r1⟩:=re.1.lst q8.fr
    obtain ⟨bs,rfl,t⟩:=zgA r1
    have hl:bs.length=ls.length:=Paired.length t
    refine ⟨a,bs,ls,rfl,h1,by lia,by lia,zhz t fun b l hb h=>⟨hne l hb,SqT.of (q8.fr _ _ h)⟩,fun p p1 p2 q hq'=>?_⟩
    have hin:∀ i∈p.toList,i < bs.length:=fun i hi=>by
     have:=p1.mem_iff.mp (Array.mem_toList_iff.mp hi)
     simpa using this
    have t2:=zde (da:=0) (db:=[]) t (q:=p.toList) hin
    have pp:p.toList.Perm (List.range ls.length):=by
     have:=Array.perm_iff_toList_perm.mp p1
     rw [<- hl]; simpa using this
    have perm:(p.toList.map fun i=>ls.getD i []).Perm ls:=(pp.map _).trans (by rw [zfW])
    have hsz:p.size=bs.length:=by have:=p1.size_eq; simpa using this
    have es:sortD (ls.map tI)=(p.toList.map fun i=>ls.getD i []).map tI:=by
     refine zbA zj8 (fun d hd=>by obtain ⟨z,_,rfl⟩:=List.mem_map.mp hd; exact ⟨z,rfl⟩) (perm.map _) ?_
     rw [List.map_map,List.pairwise_map]
     refine List.pairwise_iff_getElem.mpr fun i j hi hj hij=>?_
     simp only [Function.comp]
     rw [zbw]
     have hj':j < bs.length:=by rw [<- hsz]; simpa using hj
     have hi':i < bs.length:=by lia
     have k:=p2 i j (by lia) hj'
     have gi:∀ i (h:i < p.toList.length),kA (rkL ls) p i=rkL ls p.toList[i]:=fun i h=>by
      unfold kA
      rw [Array.getElem?_eq_getElem (by simpa using h)]
      simp
     rw [gi i hi,gi j hj] at k
     have hb:=hin _ (List.getElem_mem hj)
     have:=zlh (ls:=ls) (i:=p.toList[j]) (j:=p.toList[i]) (by lia)
     rw [<- this,qk (by lia)]
     rfl
    rw [es] at hq
    exact hq _ F _ (qK.refl F) (q8.newLD hq' (zdM t2))
   ·cases e
 | _=>cases e
end
end FL
namespace FL
open PySem PySem.Spec PyProof.Rows L2
theorem zjE {vs:List Value} (few:vs.length < 2):(vs.toArray.zip vs.toArray).map (·.2)=vs.toArray:=by
 rw [List.zip_toArray,List.map_toArray,List.map_snd_zip (Nat.le_refl _)]
theorem zje (at_:s.heap.get? a=some (seqObj "list" vs.toArray n)) (few:vs.length < 2)
  (k:P (.done (.ret .none)) { s with heap:=sortedHeap s.heap a vs vs.toArray }):wpAny (model prog w) A (Builtin.«list.sort» ⟨[.ref a],[]⟩) P E s:=by
 rw [list_sort_plain]
 have few':vs.toArray.size < 2:=by simpa using few
 have hmid:∃ e,(s.heap.update a (Obj.mapSeq fun _=>#[])).get? a=some (seqObj "list" #[] e):=⟨_,get?_update_seq at_ _⟩
 obtain ⟨e,mid⟩:=hmid
 have end_:(((s.heap.update a (Obj.mapSeq fun _=>#[])).push (seqObj "tuple" vs.toArray 0)).push (seqObj "list" #[] 0)).get? a=some (seqObj "list" #[] e):=
  qc _ (qc _ mid)
 refine qa (listItems_at at_ rfl (qa (listUpdate_at at_ rfl (qa (seqEpoch_at mid rfl (qa (wpAny_newTuple (qa (wpAny_newList (qB ?_))))))))))
 show wpAny (model prog w) A _ P E (Shared.mk (((s.heap.update a (Obj.mapSeq fun _=>#[])).push (seqObj "tuple" vs.toArray 0)).push (seqObj "list" #[] 0)) s.gens s.drawn s.toks s.os)
 dsimp only
 rw [qq few',qq few']
 refine qa (qb (?_:wpAny _ _ _ _ _ _))
 rw [StateT.run_pure]
 have eo:(arrOf (SortSt.mk' general' (vs.toArray.zip vs.toArray) #[] 7 none)).map (·.2)=vs.toArray:=by
  show (vs.toArray.zip vs.toArray).map (·.2)=_
  exact zjE few
 refine qa (qb (?_:wpAny _ _ _ _ _ _))
 dsimp only
 rw [eo]
 refine qa (seqEpoch_at end_ rfl (qa (listUpdate_at end_ rfl ?_ (hsz2:=by rw [qz]; lia))))
 simp only [bne_self_eq_false,Bool.false_eq_true,if_false]
 exact qb k
theorem zfK (is:s.heap.IsList l vs.toArray) (few:vs.length < 2)
  (k:Q (.ref (s.heap.objs.size + 1)) { s with heap:=sortedAll s.heap vs vs.toArray }):wpAny (model prog w) A (call (.builtin "sorted") [.ref l]) Q E s:=by
 refine Calls.call_function_entry kind_sorted plain_sorted entry_sorted (args_sorted1 _) (?_:wpAny _ _ _ _ _ _)
 unfold Builtin.«sorted»
 refine qa (m:=checkCount "sorted" 1 1 _) (qb (qa (collect_list is (qa (wpAny_newList ?_)))))
 generalize eh:((s.heap.push (seqObj "list" #[] 0)).update s.heap.objs.size (Obj.mapSeq (·++vs.toArray)))=h1
 have z:h1.objs.size=s.heap.objs.size + 1:=by rw [<- eh,Heap.size_update,size_push']
 have new:(h1.push (seqObj "list" vs.toArray 0)).get? (s.heap.objs.size + 1)=some (seqObj "list" vs.toArray 0):=z ▸ qd _ rfl
 show wpAny _ _ _ _ _ (Shared.mk (h1.push (seqObj "list" vs.toArray 0)) s.gens s.drawn s.toks s.os)
 rw [z]
 refine qa (qB (qy slot_list_sort ⟨_,new,rfl⟩ entry_list_sort (zje new few ⟨_,rfl,?_⟩) (args_list_sort _)))
 subst eh
 exact qb ⟨_,rfl,k⟩
section
variable {K:W.Frag}
noncomputable def rSort1 (K:W.Frag):List V->Hp->VK->Prop:=fun xs H Q=>∃ a ys,xs=[.ref a]/\SqL K H a ys/\ys.length < 2/\∀ q,H q=none->Q (.ref q) (upd H q (.lst ys))
theorem zeo:CallR X (.builtin "sorted") (rSort1 X.K):=by
 intro qZ s σ H xs us Q I r h
 obtain ⟨a,ys,rfl,hq,h2,q⟩:=h
 cases r with
 | cons r1 r2=>
   cases r2
   cases r1
   obtain ⟨zc,r,pl,_⟩:=I.list hq
   refine zfK pl.isList (by rw [<- r.length]; exact h2) ?_
   obtain ⟨e,he⟩:=sortedAll_at s.heap zc zc.toArray
   refine ⟨.ref (s.heap.objs.size + 1),_,I.laid (t':=s.toks) (o:=.lst ys) (fun b ob w=>sortedAll_old w) (Nat.le_succ _) ?_,rfl,q _ (I.hok.fresh (Nat.le_succ _))⟩
   exact ⟨by rw [qz]; lia,zc,e,r,he⟩
theorem zex:∀ {xs:List V} {l:List D},qX K F xs l->xs.length=l.length
 | _,_,.nil=>rfl
 | _,_,.cons _ t=>by rw [List.length_cons,List.length_cons,zex t]
noncomputable def rSort3 (K:W.Frag):List V->Hp->VK->Prop:=fun xs H Q=>rSort1 K xs H Q\/rSortT K xs H Q\/rSorted K xs H Q
theorem zfR:CallR X (.builtin "sorted") (rSort3 X.K):=fun qZ s σ H xs us Q I r h=>by
 rcases h with h | h | h
 ·exact zeo qZ s σ H xs us Q I r h
 ·exact zeq qZ s σ H xs us Q I r h
 ·exact zec qZ s σ H xs us Q I r h
theorem zf0:DoesB K (rSort3 K) bSort3:=by
 intro σ U F G H vs ds s Q q8 re e hq
 obtain ⟨d,v,rfl,rfl⟩:=arg1 (fun x y r=>by cases x <;> rfl) rfl re e
 cases d with
 | lst l=>
   have e:sort3 l=some s:=e
   unfold sort3 at e
   by_cases h2:l.length < 2
   ·rw [qq h2] at e
    cases e
    obtain ⟨a,xs,rfl,h1,r1⟩:=re.1.lst q8.fr
    exact .inl ⟨a,xs,rfl,h1,by rw [zex r1]; exact h2,fun q hq'=>hq _ F _ (qK.refl F) (q8.newLD hq' r1)⟩
   ·rw [qr h2] at e
    cases e1:sortT l with
    | some t=>rw [e1] at e; exact .inr (.inl (zf4 σ U F G H [v] [.lst l] s Q q8 re (e1.trans e) hq))
    | none=>rw [e1] at e; exact .inr (.inr (zeJ σ U F G H [v] [.lst l] s Q q8 re e hq))
 | _=>cases e
theorem zdv (hg:Gl X "sorted") (hm:X.mg "sorted"=none) (hv:bootBuiltins "sorted"=some (.builtin "sorted")) (ha:FA X (e::es) wa) (he:starEach (e::es) X.env=(false,eval e X.env)::starEach es X.env:=by rfl) (hpl:(backTo pos (starEach es X.env)).any (·.1)=false:=by rfl):FE X (.Call (.Name "sorted" p) (e::es) [] pos) (wB bSort3 wa):=
 zbN (fun pn xe=>zfR (X:=wp X pn xe)) zf0 hg hm hv ha (by decide) (by decide) he hpl
end
end FL
namespace FL
noncomputable def cInA (a b:D):Option Bool:=match b with
 | .str l=>match a with
   | .str x=>some (findD l x).isSome
   | _=>none
 | d=>cIn a d
noncomputable def cNotInA (a b:D):Option Bool:=(cInA a b).map (!·)
noncomputable def wAppendAt (j:Nat) (i e:WE):WE:=fun U Q E=>match slot U j with
 | some (.lst _)=>i U (fun y U1=>match view y U1,slot U1 j with
   | some (.int n),some (.lst l)=>qJ (ixN l.length n) fun m=>match l[m]? with
     | some (.lst l')=>e (U1.set j none) (fun r U2=>qJ (give r U2) fun p=>l'.length < big/\Q (.v (.sh .non)) (p.2.set j (some (.lst (l.set m (.lst (l'++[p.1]))))))) E
     | _=>False
   | _,_=>False) E
 | _=>False
noncomputable def wFrz (a:WE):WE:=fun U Q E=>a U (fun r U1=>qJ (give r U1) fun p=>Q (.v (.sh p.1.toD)) p.2) E
noncomputable def wFz (i:Nat) (w:WS):WS:=fun D U=>w { D with nx:=fun U1=>qJ (slot U1 i) fun s=>D.nx (U1.set i (some (.sh s.toD))) } U
noncomputable def bMinL:List D->Option S
 | [.lst l]=>(intsD l).bind fun ns=>(ns.min?).map fun m=>S.sh (.int m)
 | _=>none
noncomputable def wListI (it:WI):WE:=fun U Q E=>it U (fun l U1=>l.length<=big/\Q (.v (.lst (l.map .sh))) U1) E
noncomputable def wTupI (it:WI):WE:=fun U Q E=>it U (fun l U1=>l.length<=big/\Q (.v (.sh (.tup l))) U1) E
mutual
noncomputable def okSh:D->Bool
 | .non=>true
 | .bl _=>true
 | .int i=>decide (-1000000000000 < i) && decide (i < 1000000000000)
 | .str l=>l.all fun c=>decide (c < 1114112)
 | .tup l=>okShs l
 | .lst l=>okShs l
 | _=>false
noncomputable def okShs:List D->Bool
 | []=>true
 | d::r=>okSh d && okShs r
end
mutual
noncomputable def wtD:D->Nat
 | .int _=>41
 | .str l=>l.length
 | .tup l=>wtDs l
 | .lst l=>wtDs l
 | _=>0
noncomputable def wtDs:List D->Nat
 | []=>0
 | d::r=>wtD d + 1 + wtDs r
end
noncomputable def okShow (d:D):Bool:=okSh d && (decide (dep d<=30) && decide (wtD d<=1000000))
noncomputable def wReprEq (res:Bool) (a b:WE):WT:=fun U Q E=>a U (fun x U1=>qJ (qV x U1) fun p=>okShow p=true/\b U1 (fun y U2=>qJ (qV y U2) fun q=>p=q/\Q res U2) E) E
noncomputable def oMulA (p q:D):Option S:=match p,q with
 | .str x,.int n=>if 0<=n/\n<=1000/\x.length<=500 then some (.sh (.str (List.replicate n.toNat x).flatten)) else none
 | p,q=>oMul p q
end FL
namespace FL
open PySem PySem.Spec PyProof.Rows L2
section
variable {K:W.Frag}
theorem zeH (x y:Str):Txt.contains x y=(findD x.cps.toList y.cps.toList).isSome:=by
 have h:=zjT x y
 unfold Txt.find at h
 unfold Txt.contains
 cases q:Builtin.Str.occurrences x y 0 x.length 1 with
 | nil=>
   rw [q] at h
   cases e:findD x.cps.toList y.cps.toList with
   | none=>rfl
   | some i=>rw [e] at h; have h':(-1:Int)=(i:Int):=h; lia
 | cons i r=>
   rw [q] at h
   cases e:findD x.cps.toList y.cps.toList with
   | none=>rw [e] at h; have h':((i:Nat):Int)=-1:=h; lia
   | some i=>rfl
noncomputable def rInS (neg:Bool):R2:=fun x y H Q=>∃ z u,x=.str z/\y=.str u/\Q (.bl (if neg then !(Txt.contains u z) else Txt.contains u z)) H
theorem zmz:OpR X (compareOp .In) (rInS false):=by
 intro qZ s σ H x y v u Q I rx ry h
 obtain ⟨z,t,rfl,rfl,q⟩:=h
 obtain ⟨t1,rfl⟩:=rx
 obtain ⟨t2,rfl⟩:=ry
 exact SB.contains ⟨.bl _,H,I,rfl,q⟩
theorem zhT:OpR X (compareOp .NotIn) (rInS true):=by
 intro qZ s σ H x y v u Q I rx ry h
 obtain ⟨z,t,rfl,rfl,q⟩:=h
 obtain ⟨t1,rfl⟩:=rx
 obtain ⟨t2,rfl⟩:=ry
 exact SB.notContains ⟨.bl _,H,I,rfl,q⟩
noncomputable def rInX (K:W.Frag) (neg:Bool):R2:=fun x y H Q=>rInAll K neg x y H Q\/rInS neg x y H Q
theorem zlL (hu:X.A.units + 32 < cLine):OpR X (compareOp .In) (rInX X.K false):=FL.OpR.or (ziH hu) zmz
theorem zgv (hu:X.A.units + 32 < cLine):OpR X (compareOp .NotIn) (rInX X.K true):=FL.OpR.or (zey hu) zhT
theorem zfy (r1:Rep K H x p) (r2:Rep K H y q) (e:cInA p q=some k) (hq:Q (.bl (if neg then !k else k)) H):rInX K neg x y H Q:=by
 unfold cInA at e
 split at e
 ·split at e
  ·cases r1 with
   | str e1 z1=>cases r2 with
     | str e2 z2=>
       refine .inr ⟨_,_,rfl,rfl,?_⟩
       rw [zeH,e1,e2,qg e]
       exact hq
  ·cases e
 ·exact .inl (zkj r1 r2 e hq)
theorem ziR:DoesC K (rInX K false) cInA:=fun H x y p q k Q r1 r2 e hq=>zfy r1 r2 e hq
theorem zeX:DoesC K (rInX K true) cNotInA:=fun H x y p q k Q r1 r2 e hq=>by
 unfold cNotInA at e
 cases q1:cInA p q with
 | none=>rw [q1] at e; cases e
 | some b=>
   rw [q1] at e
   have e':(!b)=k:=qg e
   subst e'
   exact zfy r1 r2 q1 hq
inductive SAt (K:W.Frag) (F H:Hp) (xs:List V) (l:List S) (fp:List Addr) (m:Nat) (s:S):Prop
 | mk (x:V) (fa fi fb:List Addr):xs[m]?=some x->SRep K F H x s fi->fp=fa++(fi++fb)->(∀ {H':Hp} {v':V} {s':S} {fq:List Addr},(∀ a∈fa++fb,H' a=H a)->SRep K F H' v' s' fq->qN K F H' (xs.set m v') (l.set m s') (fa++(fq++fb)))->SAt K F H xs l fp m s
theorem qN.at:∀ {xs:List V} {l:List S} {fp:List Addr} {m:Nat} {s:S},qN K F H xs l fp->l[m]?=some s->SAt K F H xs l fp m s
 | _,_,_,_,_,.nil,h=>by simp at h
 | _,_,_,0,_,.cons (fp:=fp) (fq:=fq) a b,h=>by
   simp at h
   subst h
   exact ⟨_,[],fp,fq,rfl,a,rfl,fun hk r=>by rw [List.nil_append]; exact .cons r (b.mono (qK.refl F) fun c hc=>hk c hc)⟩
 | _,_,_,m + 1,_,.cons (fp:=fp) (fq:=fq) a b,h=>by
   obtain ⟨x,fa,fi,fb,h1,h2,rfl,up⟩:=qN.at (m:=m) b (by simpa using h)
   refine ⟨x,fp++fa,fi,fb,by simpa using h1,h2,(List.append_assoc ..).symm,fun hk r=>?_⟩
   rw [List.append_assoc]
   exact .cons (a.mono (qK.refl F) fun c hc=>hk c (List.mem_append_left _ (List.mem_append_left _ hc))) (up (fun c hc=>hk c ((List.mem_append.mp hc).elim (fun z=>List.mem_append_left _ (List.mem_append_right _ z)) fun z=>List.mem_append_right _ z)) r)
theorem Rel.hide2 (r:Rel K (U++[some s]) (σ++[some v]) F G H) (h:U.length=σ.length):∃ G' fp,Rel K U σ F G' H/\qK G G'/\SRep K F H v s fp/\(∀ a∈fp,∃ o,G' a=some o/\H a=some o)/\
  ∀ {U2:Env} {σ2:St} {F2 H2:Hp},qK F F2->Rel K U2 σ2 F2 G' H2->Rel K (U2++[some s]) (σ2++[some v]) F2 G H2:=by
 classical
 refine cps fun _ kk=>?_
 obtain ⟨fp,e,nd,ap⟩:=r.en
 obtain ⟨f1,f2,rfl,a,b⟩:=e.cut h
 obtain ⟨n1,n2,n12⟩:=List.nodup_append.mp nd
 refine kk ?_
 have b':=b
 cases b' with
 | @so _ _ _ _ fs fn sr nl=>
 cases nl
 refine ⟨fun x=>if x∈fs++[] then H x else G x,fs,⟨r.fr,fun x o q=>?_,f1,a,n1,fun x hx=>?_⟩,fun x o q=>?_,sr,fun x hx=>?_,fun {U2 σ2 F2 H2} sm r2=>?_⟩
 ·by_cases z:x∈fs++[]
  ·have:=b.in_ x z
   grind
  ·simp only [z,if_false] at q
   exact r.gr x o q
 ·grind
 ·grind
 ·obtain ⟨o,q,_⟩:=b.in_ x (List.mem_append_left _ hx)
  grind
 ·obtain ⟨fp2,e2,nd2,ap2⟩:=r2.en
  have hk:∀ x∈fs++[],H2 x=H x/\F2 x=none/\x∉fp2:=fun x hx=>by
   obtain ⟨o,q,_⟩:=b.in_ x hx
   have w:=r2.gr x o (by simp only [hx,if_true]; exact q)
   grind
  refine ⟨r2.fr,fun x o q=>?_,fp2++(fs++[]),e2.app (b.mono sm fun x hx=>(hk x hx).1),?_,fun x hx=>?_⟩
  ·have z:x∉fs++[]:=fun z=>by
    grind
   exact r2.gr x o (by simp only [z,if_false]; exact q)
  ·grind
  grind
theorem Rel.appendAt {D b:Addr} (r:Rel K (U++[some t,some (.lst l)]) (σ++[some v,some (.ref D)]) F G H) (h:U.length=σ.length) (hm:l[m]?=some (.lst l'))
  (hD:H D=some (.lst xs)) (hb:xs[m]?=some (.ref b)) (hy:H b=some (.lst ys)):
  ys.length=l'.length/\Rel K (U++[some (.lst (l.set m (.lst (l'++[t]))))]) (σ++[some (.ref D)]) F G (upd H b (.lst (ys++[v]))):=by
 obtain ⟨fp,e,nd,ap⟩:=r.en
 obtain ⟨f1,f2,rfl,a,c⟩:=e.cut h
 cases c with
 | @so _ _ _ _ ft f3 st c=>
 cases c with
 | @so _ _ _ _ fD fn sd nl=>
 cases nl
 cases sd with
 | @lst _ xs' _ fl hD' rl=>
 rw [hD] at hD'
 cases hD'
 obtain ⟨x,fa,fi,fb,hx,sx,rfl,up⟩:=rl.at hm
 rw [hb] at hx
 cases hx
 cases sx with
 | @lst _ ys' _ fy hy' ry=>
 rw [hy] at hy'
 cases hy'
 refine ⟨ry.len,?_⟩
 have hp:(f1++(ft++(D::(fa++(b::fy++fb))++[]))).Perm (b::(f1++(ft++(D::(fa++(fy++fb)))))):=by
  simp only [List.append_nil,List.cons_append]
  have h1:(fa++b::(fy++fb)).Perm (b::(fa++(fy++fb))):=List.perm_middle
  refine ((h1.cons D).append_left (f1++ft) |>.trans ?_ |> fun z=>(by simpa using z))
  have h2:(D::b::(fa++(fy++fb))).Perm (b::D::(fa++(fy++fb))):=List.Perm.swap ..
  refine (h2.append_left (f1++ft)).trans ?_
  exact List.perm_middle.trans (by rw [List.append_assoc])
 have nd':=hp.nodup_iff.mp nd
 obtain ⟨nb,_⟩:=List.nodup_cons.mp nd'
 have ne:∀ {w:List Addr},(∀ x∈w,x∈f1++(ft++(D::(fa++(fy++fb)))))->∀ x∈w,upd H b (.lst (ys++[v])) x=H x:=fun hw x hx=>zag fun z=>nb (z ▸ hw x hx)
 have apb:=ap b (hp.mem_iff.mpr List.mem_cons_self)
 have new:SRep K F (upd H b (.lst (ys++[v]))) (.ref b) (.lst (l'++[t])) (b::(fy++ft)):=.lst zam (qN.snoc (ry.mono (qK.refl F) (ne fun x hx=>by simp [hx])) (st.mono (qK.refl F) (ne fun x hx=>by simp [hx])))
 have r2:=up (H':=upd H b (.lst (ys++[v]))) (ne fun x hx=>by
  rcases List.mem_append.mp hx with z | z <;> simp [z]) new
 have e2:xs.set m (.ref b)=xs:=by
  apply List.ext_getElem?
  intro j
  by_cases hj:m=j
  ·subst hj
   rw [List.getElem?_set_self (qh.mp hb).1,hb]
  ·rw [List.getElem?_set_ne hj]
 rw [e2] at r2
 have hDb:D≠b:=fun z=>nb (by simp [z])
 have top:SRep K F (upd H b (.lst (ys++[v]))) (.ref D) (.lst (l.set m (.lst (l'++[t])))) (D::(fa++((b::(fy++ft))++fb))):=.lst ((zag hDb).trans hD) r2
 have p:(f1++((D::(fa++((b::(fy++ft))++fb)))++[])).Perm (f1++(ft++(D::(fa++(b::fy++fb))++[]))):=by
  refine List.Perm.append_left _ ?_
  simp only [List.append_nil,List.cons_append,List.append_assoc]
  have h1:(fy++(ft++fb)).Perm (ft++(fy++fb)):=by
   rw [<- List.append_assoc,<- List.append_assoc]
   exact List.Perm.append_right _ List.perm_append_comm
  have h2:(fa++b::(fy++(ft++fb))).Perm (ft++(fa++b::(fy++fb))):=by
   refine ((h1.cons b).append_left fa).trans ?_
   have h3:(b::(ft++(fy++fb))).Perm (ft++(b::(fy++fb))):=List.perm_middle.symm
   refine (h3.append_left fa).trans ?_
   rw [<- List.append_assoc,<- List.append_assoc]
   exact List.Perm.append_right _ List.perm_append_comm
  refine (h2.cons D).trans ?_
  exact List.perm_middle.symm
 refine ⟨qK.updR r.fr apb.1,fun x o w=>?_,_,(a.mono (qK.refl F) (ne fun x hx=>by simp [hx])).app (.so top .nil),p.nodup_iff.mpr nd,fun x hx=>ap x (p.mem_iff.mp hx)⟩
 have hx:x≠b:=fun z=>by rw [z,apb.2] at w; cases w
 rw [zag hx]
 exact r.gr x o w
end
theorem za5 (ho:FE X o (qF j)) (hi:FE X i wi) (he:FE X e we) (hix:PlainIx i:=by intro _ _; rfl)
  (hbase:attributeBase (.Subscript o i spos) "append" X.env (eval (.Subscript o i spos) X.env)=eval (.Subscript o i spos) X.env:=by rfl)
  (hfew:((backTo cpos (starEach [e] X.env)).all (fun x=>!x.1) && (backToKw cpos (keywordEach [] X.env)).all (fun x=>x.1.isSome)
   && decide ([e].length + ([]:List Keyword).length + (if ([]:List Keyword).isEmpty then 0 else 1) < 30))=true:=by rfl)
  (hline:(apos.endLine == cpos.line)=true:=by rfl) (hs:starEach [e] X.env=[(false,eval e X.env)]:=by rfl):FE X (.Call (.Attribute (.Subscript o i spos) "append" apos) [e] [] cpos) (wAppendAt j wi we):=fun pn xe hp=>by
 refine PE.imp (zh8 (X:=wp X pn xe) PySem.F.plainAttrs_list PySem.F.slot_list_append PySem.F.type_list_append zcK (zkR (zjn (X:=wp X pn xe)) (ho pn xe hp) (hi pn xe hp) hix) (zaa he zab hs pn xe hp) hbase hfew hline hs rfl) fun σ H Q q=>?_
 obtain ⟨F,G,U,P,PX,q8,hw,hok,hx⟩:=q
 unfold wAppendAt at hw
 cases qs:slot U j with
 | none=>rw [qs] at hw; exact hw.elim
 | some s0=>
   cases s0 with
   | lst l0=>
     rw [qs] at hw
     dsimp only at hw
     refine ⟨F,G,U,fun y U1=>y=.loc j/\U1=U,PX,q8,by unfold qF; rw [qs]; exact ⟨rfl,rfl⟩,fun y U1 o' F1 H1 hk s1 r1 rv=>?_,hx⟩
     obtain ⟨rfl,rfl⟩:=hk
     have l1:=len1 r1
     have hσ:σ[j]?=some (some o'):=rv
     have r2:=r1.drop l1
     refine ⟨F1,G,U1,_,PX,r2,hw,fun z U2 i' F2 H2 hk2 s2 r3 rv2=>?_,hx.grow s1⟩
     have l2:=len1 r3
     split at hk2
     ·rename_i n l ei ql
      obtain ⟨m,em,hk2⟩:=zae hk2
      split at hk2
      ·rename_i l' el
       have ri:=look (U':=[]) (σ':=[]) r3 l2 rv2 ei
       have r4:=r3.drop l2
       obtain ⟨v',fp,e1,sr⟩:=r4.at ql
       rw [hσ] at e1
       have e2:o'=v':=by simpa using e1
       subst e2
       have r5:=Rel.lend (U':=[]) (σ':=[]) (r4.pushN (u:=some o')) l2 ql hσ
       have l5:(U2.set j none).length=σ.length:=by simpa using l2
       obtain ⟨G2,fq,r6,gg,sq,hG,back⟩:=r5.hide2 l5
       cases sq with
       | @lst a xs _ fl hD rl=>
       obtain ⟨x,fa,fi,fb,hx1,sx,efl,_⟩:=rl.at el
       cases sx with
       | @lst b ys _ fy hy ry=>
       cases ri
       have hat:L2.atI xs n=some (.ref b):=by
        have e':L2.ixN xs.length n=some m:=by rw [rl.len]; exact em
        unfold L2.atI
        rw [e']; exact hx1
       refine .inl ⟨a,xs,n,_,rfl,rfl,SqL.of hD,hat,.inl ⟨rfl,_,SqL.of hy⟩,F2,G2,U2.set j none,fun rs U3=>match rs with | [r]=>(qJ (give r U3) fun p=>l'.length < big/\P (.v (.sh .non)) (p.2.set j (some (.lst (l.set m (.lst (l'++[p.1]))))))) | _=>False,PX,r6,hk2,fun rs U3 vs F3 H3 hk s3 r7 hl rvs=>?_,hx.mono (fun _ z=>z) (s1.trans s2) gg⟩
       match rs,vs,rvs,r7,hk with
       | [r],[v],rvs,r7,hk=>
         dsimp only at hk
         obtain ⟨⟨t,U4⟩,eg,hk⟩:=zae hk
         have r8:=back s3 r7
         simp only [List.map_cons,List.map_nil,List.append_assoc,List.cons_append,List.nil_append] at r8
         have l3:U3.length=σ.length:=hl
         obtain ⟨F4,s4,l4,r9⟩:=giveR (U':=[some (.lst l)]) (σ':=[some (.ref a)]) r8 l3 rvs.1 eg
         have kept:∀ c∈a::fl,H3 c=H2 c:=fun c hc=>by
          obtain ⟨o,h1,h2⟩:=hG c hc
          rw [(r7.gr c o h1).1.1,h2]
         have hb:b∈a::fl:=List.mem_cons_of_mem _ (by rw [efl]; simp)
         obtain ⟨q9,r10⟩:=Rel.appendAt r9 (l4.trans l3) el ((kept a List.mem_cons_self).trans hD) hx1 ((kept b hb).trans hy)
         have r11:=Rel.back1 (U':=[]) (σ':=[]) (i:=j) r10 (l4.trans l3) hσ
         rw [List.append_nil,List.append_nil] at r11
         exact ⟨b,ys,v,rfl,rfl,(kept b hb).trans hy,by rw [q9,qz]; exact Nat.lt_trans hk.1 (by decide),hok _ _ .non F4 _ hk.2 (s1.trans (s2.trans (s3.trans s4))) (r11.push .non) trivial⟩
       | [],_,_,_,hk=>exact hk.elim
       | [_],[],rvs,_,_=>exact rvs.elim
       | [_],_::_::_,rvs,_,_=>exact rvs.2.elim
       | _::_::_,_,_,_,hk=>exact hk.elim
      ·exact hk2.elim
     ·exact hk2.elim
   | _=>rw [qs] at hw; exact hw.elim
section
variable {K:W.Frag}
theorem Rel.frzEnd (r:Rel K (U++[some s]) (σ++[some v]) F G H) (h:U.length=σ.length):∃ F',qK F F'/\Rel K (U++[some (.sh s.toD)]) (σ++[some v]) F' G H:=by
 obtain ⟨u,F',e1,sm,rp,r'⟩:=r.give (i:=U.length) (s:=s) zaK
 rw [show (U++[some s]).set U.length (some (S.sh s.toD))=U++[some (S.sh s.toD)] from zdc] at r'
 exact ⟨F',sm,r'⟩
end
section
variable {st:Stmt}
theorem zaH (he:FE X e we):FE X e (wFrz we):=fun pn xe hp=>by
 refine PE.imp (he pn xe hp) fun σ H Q q=>?_
 obtain ⟨F,G,U,P,PX,q8,hw,hok,hx⟩:=q
 refine ⟨F,G,U,_,PX,q8,hw,fun r U1 v F1 H1 hk s1 r1 rv=>?_,hx⟩
 obtain ⟨⟨s,U2⟩,eg,hk⟩:=zae hk
 obtain ⟨F2,s2,l2,r2⟩:=giveR (U':=[]) (σ':=[]) r1 (len1 r1) rv eg
 obtain ⟨F3,s3,r3⟩:=Rel.frzEnd r2 (len1 r2)
 exact hok _ U2 v F3 H1 hk (s1.trans (s2.trans s3)) r3 trivial
theorem zjH (h:FS X ks st w):FS X ks st (wFz i w):=fun pn xe hp=>by
 refine PS.imp (h pn xe hp) fun D σ H q=>?_
 obtain ⟨F,G,U,E,q8,hw,n,b,c,r,x⟩:=q
 refine ⟨F,G,U,_,q8,hw,fun U' σ' F' H' hk kp sm rel'=>?_,b,c,r,x⟩
 obtain ⟨s,es,hk⟩:=zae hk
 obtain ⟨v,F2,_,s2,_,r2⟩:=rel'.give es
 exact n _ σ' F2 H' hk kp (sm.trans s2) r2
end
theorem zhr (hh:A.handled=none) (hl:s.heap.IsList l vs.toArray) (hi:IntsAre vs ns) (hne:0 < ns.length)
  (h:∀ h' M (t:Tok) tk,(∀ b x,s.heap.get? b=some x->h'.get? b=some x)->M∈ns->(∀ a,a∈ns->M<=a)->Q (.int M t) { s with heap:=h',toks:=tk }):wpAny (model prog w) A (call (.builtin "min") [.ref l]) Q E s:=by
 obtain ⟨xs,e⟩:=hi.allInts.items
 have hns:ns=xs.toList.map (·.1):=by
  rw [<- hi.numsOf,<- nums_intItems,<- e]
 have hsz:0 < xs.size:=by
  grind
 rw [e] at hl
 refine min_intList hh hl hsz fun v h' tk hv hk=>?_
 obtain ⟨t,rfl⟩:=intItems_at hv
 obtain ⟨h1,h2⟩:=argBest_lt (numAt xs) (xs.size - 1)
 refine h _ _ t tk hk ?_ fun a ha=>?_
 ·rw [hns,numAt_eq]; exact getD_mem (by rw [List.length_map,Array.length_toList]; lia)
 ·rw [hns] at ha
  obtain ⟨j,hj,rfl⟩:=mem_getD ha
  rw [List.length_map,Array.length_toList] at hj
  rw [<- numAt_eq]; exact h2 j (by lia)
section
variable {K:W.Frag}
noncomputable def rMinL (K:W.Frag):List V->Hp->VK->Prop:=fun xs H Q=>∃ (a:Addr) (ns:List Int),xs=[.ref a]/\SqL K H a (ns.map V.int)/\0 < ns.length/\∀ M,M∈ns->(∀ a,a∈ns->M<=a)->Q (.int M) H
theorem zhO (hc:X.calm=true):CallR X (.builtin "min") (rMinL X.K):=by
 intro qZ s σ H xs us Q I r h
 obtain ⟨a,ns,rfl,hq,hne,q⟩:=h
 obtain ⟨u,rfl,rx⟩:=vals1 r
 cases rx
 obtain ⟨zc,rv,pl,hz⟩:=I.list hq
 exact zhr (I.ok.hd hc) pl.isList (zbm rv) hne fun h' M t tk kp h1 h2=>⟨.int _,H,I.kept kp,⟨_,rfl⟩,q M h1 h2⟩
theorem zhm:DoesB K (rMinL K) bMinL:=by
 intro σ U F G H vs ds s Q q8 re e hq
 obtain ⟨d,v,rfl,rfl⟩:=arg1 (fun x y r=>by cases x <;> rfl) rfl re e
 cases d with
 | lst l=>
   obtain ⟨a,xs,rfl,h1,r1⟩:=re.1.lst q8.fr
   obtain ⟨ns,en,e⟩:=Option.bind_eq_some_iff.mp e
   obtain ⟨m,em,rfl⟩:=Option.map_eq_some_iff.mp e
   obtain ⟨rfl,_⟩:=zeA r1 en
   refine ⟨a,ns,rfl,h1,by cases ns with | nil=>cases em | cons _ _=>simp,fun M h2 h3=>?_⟩
   obtain ⟨h4,h5⟩:=List.min?_eq_some_iff.mp em
   have:M=m:=Int.le_antisymm (h3 m h4) (h5 M h2)
   subst this
   exact hq _ F H (qK.refl F) (q8.push (.int _))
 | _=>cases e
theorem zkq (hc:X.calm=true) (hg:Gl X "min") (hm:X.mg "min"=none) (hv:bootBuiltins "min"=some (.builtin "min")) (ha:FA X (e::es) wa) (he:starEach (e::es) X.env=(false,eval e X.env)::starEach es X.env:=by rfl) (hpl:(backTo pos (starEach es X.env)).any (·.1)=false:=by rfl):FE X (.Call (.Name "min" p) (e::es) [] pos) (wB bMinL wa):=
 zbN (fun pn xe=>zhO (X:=wp X pn xe) hc) zhm hg hm hv ha (by decide) (by decide) he hpl
end
theorem zdu {n:Nat} (hh:A.handled=none) (hr:IsRange s.heap r a b c t u v) (hsmall:Builtin.Range.small a b c=true)
  (hn:Builtin.Range.rangeSize a b c=n) (q9:n<=2 ^ 24)
  (hQ:∀ (h':Heap) tk zi,(∀ b o,s.heap.get? b=some o->Heap.get? h' b=some o)->s.heap.objs.size<=h'.objs.size->ItemsOf (fun i v=>∃ t,v=.int (a + i * c) t) zi n->Q zi.toList { s with heap:=h',toks:=tk }):wpAny (model prog w) A (collect (.ref r)) Q E s:=by
 unfold collect
 refine qa (wpAny_runValue (codeAny_builtin F.entry_proto_collect ?_))
 rw [Around.under_plainId F.plain_proto_collect _]
 show wpAny _ A.in1 (newList [] >>= fun l=>again (.builtin "list.__iadd__" ⟨[l,.ref r],[]⟩)) _ _ s
 refine qa (qw ?_)
 refine qb ⟨plainId_quiet F.plain_list_iadd _,codeAny_builtin F.entry_list_iadd ?_⟩
 rw [Around.under_plainId F.plain_list_iadd _]
 show wpAny _ A.in1 (Builtin.List.listExtendWith (.ref s.heap.objs.size) (.ref r) (.ref s.heap.objs.size)) _ _ _
 have hS₁:(s.heap.push { cls:=.type "list",data:=.seq ([]:List Value).toArray }).get? s.heap.objs.size=some { cls:=.type "list",data:=.seq #[] }:=qd _ rfl
 refine wpAny_extend_range (R:=fun r s'=>match r with
  | .ok (.ret v)=>wpAny (model prog w) A (match v with
    | .ref a=>do
      let __do_lift <- load a
      match __do_lift.data with
       | .seq xs epoch=>pure xs.toList
       | x=>unsupported "internal:collect"
    | x=>unsupported "internal:collect") Q E s'
  | .ok a=>False
  | .error e=>E e s') (s:={ s with heap:=s.heap.push { cls:=.type "list",data:=.seq ([]:List Value).toArray } }) hh (qc _ hr) hsmall hn q9 _ _ 0 hS₁ fun h' tk acc' c' hk hS' hacc=>?_
 show wpAny _ A (load s.heap.objs.size >>= _) _ _ _
 refine qa (wpAny_load hS' ?_)
 exact qb (hQ h' tk acc' (fun b o e=>hk b o (Nat.ne_of_lt (qf e)) (qc _ e)) (Nat.le_of_lt (qf hS')) hacc)
theorem zb6 {n:Nat} (hh:A.handled=none) (hr:IsRange s.heap r a b c t u v) (hsmall:Builtin.Range.small a b c=true)
  (hn:Builtin.Range.rangeSize a b c=n) (q9:n<=2 ^ 24)
  (h:∀ (h':Heap) tk zi,(∀ b o,s.heap.get? b=some o->Heap.get? h' b=some o)->s.heap.objs.size<=h'.objs.size->ItemsOf (fun i v=>∃ t,v=.int (a + i * c) t) zi n->Q₁ (.ref h'.objs.size) { s with heap:=h'.push { cls:=.type "tuple",data:=.seq zi },toks:=tk }):
  codeAny (model prog w) A (.call (.builtin "tuple.__new__") ⟨[.type "tuple",.ref r],[]⟩) (wants Q₁ E) s:=by
 refine codeAny_of_tree ?_
 show wpAny _ A.in1 (do checkBuiltinCall "tuple.__new__" ⟨[.type "tuple",.ref r],[]⟩; again (.builtin "tuple.__new__" ⟨[.type "tuple",.ref r],[]⟩)) _ _ s
 refine qa (wpAny_of_eq (F.newCall_tuple_1 _) (qb ⟨plainId_quiet F.plain_tuple_new _,codeAny_builtin F.entry_tuple_new ?_⟩))
 rw [Around.under_plainId F.plain_tuple_new _]
 have hsub:=sub_tuple_self
 have hinit:=init_tuple_lookup
 have hmh:=madeHere_tuple
 have hTI:s.TypeIs (.ref r) "range":=⟨_,hr,rfl⟩
 wp_walk using wpAny_typeOf hTI,zdu (A:=A.in1) hh hr hsmall hn q9
 intro h' tk zi hm hle hacc
 show wpAny _ _ (Builtin.Tuple.tupleExact zi.toList.toArray >>= fun v=>ret v) _ _ _
 unfold Builtin.Tuple.tupleExact
 refine qa (qw ?_ (by show zi.toList.toArray.size<=sizeLine; simp only [Array.toArray_toList]; rw [hacc.1,qz]; exact q9))
 refine qb ?_
 have e:zi.toList.toArray=zi:=by simp
 rw [e]
 exact h h' tk zi hm hle hacc
theorem zb5 {n:Nat} (hh:A.handled=none) (hr:IsRange s.heap r a b c t u v) (hsmall:Builtin.Range.small a b c=true)
  (hn:Builtin.Range.rangeSize a b c=n) (q9:n<=2 ^ 24)
  (hQ:∀ (h':Heap) tk zi,(∀ b o,s.heap.get? b=some o->Heap.get? h' b=some o)->s.heap.objs.size<=h'.objs.size->ItemsOf (fun i v=>∃ t,v=.int (a + i * c) t) zi n->Q (.ref h'.objs.size) { s with heap:=h'.push { cls:=.type "tuple",data:=.seq zi },toks:=tk }):
  wpAny (model prog w) A (call (.type "tuple") [.ref r]) Q E s:=by
 refine callType_codes (Q₁:=fun obj s₁=>s₁.TypeIs obj "tuple"/\Q obj s₁) F.called_tuple (F.typeCall_tuple_1 _) F.entry_object_init
  (zb6 (A:=A.in1) hh hr hsmall hn q9 fun s' tk zi hm hle hacc=>⟨⟨_,qd _ rfl,rfl⟩,hQ s' tk zi hm hle hacc⟩) fun obj s₁ h₁=>?_
 exact ⟨h₁.1,F.args_object_init_2 obj _,object_init_meets F.called_tuple.init.lookup F.called_tuple.made (by decide) prog w A.in1 _ s₁ ⟨h₁.1,rfl,h₁.2⟩⟩
section
variable {K:W.Frag}
noncomputable def tRng1 (ta:TA):TE:=fun σ H Q=>ta σ H fun vs H1=>∃ j:Int,vs=[.int j]/\∀ p,H1 p=none->Q (.ref p) (upd H1 p (.rng 0 j))
theorem zhN (hg:Gl X "range") (hm:X.mg "range"=none) (ha:PA X [a] ta) (hs:starEach [a] X.env=[(false,eval a X.env)]):PE X (.Call (.Name "range" p) [a] [] pos) (tRng1 ta):=by
 intro qZ s σ H Q I h
 refine Call_ (zbu I hg hm boot_range (PyProof.Rows.callWith_type1 (thn (ha pos qZ s σ H _ I h) fun us s1 zq=>?_) hs rfl))
 obtain ⟨vs,H1,I1,r1,q1⟩:=zq
 obtain ⟨j,e,q⟩:=q1
 subst e
 cases r1 with
 | cons r rr=>
   cases rr
   obtain ⟨t,rfl⟩:=r
   refine call_range_1 ⟨.ref s1.heap.objs.size,_,I1.laid (a:=s1.heap.objs.size) (o:=.rng 0 j) (t':=s1.toks + 1 + 1) (fun _ _ q=>qc _ q) (Nat.le_refl _) ?_,rfl,q _ (I1.hok.fresh (Nat.le_refl _))⟩
   exact ⟨_,_,_,qd _ rfl⟩
noncomputable def rngVs (i:Int) (n:Nat):List V:=(List.range n).map fun (k:Nat)=>V.int (i + (k:Int))
noncomputable def rOfRng (f:List V->HO):List V->Hp->VK->Prop:=fun xs H Q=>∃ (a:Addr) (i j:Int),xs=[.ref a]/\H a=some (.rng i j)/\(-(2 ^ 62)<=i/\i < 2 ^ 62/\-(2 ^ 62)<=j/\j < 2 ^ 62)/\j - i<=2 ^ 24/\∀ p,H p=none->Q (.ref p) (upd H p (f (rngVs i (j - i).toNat)))
theorem zfl (h:ItemsOf (fun k v=>∃ t,v=.int (i + k * 1) t) zi n):qW (rngVs i n) zi.toList:=by
 unfold rngVs
 refine zbz (by rw [List.length_map,List.length_range,Array.length_toList,h.1]) fun j y v h1 h2=>?_
 obtain ⟨t,rfl⟩:=h.2 j v (by rw [<- Array.getElem?_toList]; exact h2)
 rw [List.getElem?_map] at h1
 have hj:j < n:=by
  have:=(qh.mp h2).1
  rw [Array.length_toList,h.1] at this
  exact this
 rw [List.getElem?_range hj] at h1
 cases h1
 exact ⟨t,by simp⟩
theorem zdB (hc:X.calm=true):CallR X (.type "list") (rOfRng .lst):=by
 intro qZ s σ H xs us Q I r h
 obtain ⟨a,i,j,rfl,hH,⟨b1,b2,b3,b4⟩,hz,q⟩:=h
 obtain ⟨u,rfl,rx⟩:=vals1 r
 cases rx
 obtain ⟨t,u,v,ho⟩:=I.hok a _ hH
 have hn:Builtin.Range.rangeSize i j 1=((j - i).toNat:Nat):=by rw [rangeSize_one]; split <;> lia
 refine call_list_range (I.ok.hd hc) (show IsRange s.heap a i j 1 t u v from ho) (small_one b1 b2 b3 b4) hn (by lia) fun h' tk acc' c' hk hS' hacc=>?_
 refine ⟨.ref s.heap.objs.size,_,I.laid (t':=tk) hk (Nat.le_refl _) (show qY X.prog X.w _ h' _ (.lst (rngVs i (j - i).toNat)) from ⟨?_,acc'.toList,c',zfl hacc,by simpa using hS'⟩),rfl,q _ (I.hok.fresh (Nat.le_refl _))⟩
 unfold rngVs
 rw [List.length_map,List.length_range,qz]; lia
theorem zcW (hc:X.calm=true):CallR X (.type "tuple") (rOfRng .tup):=by
 intro qZ s σ H xs us Q I r h
 obtain ⟨a,i,j,rfl,hH,⟨b1,b2,b3,b4⟩,hz,q⟩:=h
 obtain ⟨u,rfl,rx⟩:=vals1 r
 cases rx
 obtain ⟨t,u,v,ho⟩:=I.hok a _ hH
 have hn:Builtin.Range.rangeSize i j 1=((j - i).toNat:Nat):=by rw [rangeSize_one]; split <;> lia
 refine zb5 (I.ok.hd hc) (show IsRange s.heap a i j 1 t u v from ho) (small_one b1 b2 b3 b4) hn (by lia) fun h' tk zi hk hle hacc=>?_
 refine ⟨.ref h'.objs.size,_,I.laid (t':=tk) (fun b o e=>qc _ (hk b o e)) hle (show qY X.prog X.w _ (h'.push _) _ (.tup (rngVs i (j - i).toNat)) from ⟨⟨?_,NoDc.new rfl (qd _ rfl)⟩,zi.toList,zfl hacc,?_⟩),rfl,q _ (I.hok.fresh hle)⟩
 ·unfold rngVs
  rw [List.length_map,List.length_range,qz]; lia
 ·simpa using IsTup.new h' zi
theorem zi2:qX K F (rngVs i n) (fromTo i n):=by
 unfold rngVs fromTo
 generalize List.range n=l
 induction l with
 | nil=>exact .nil
 | cons k l ih=>exact .cons (.int _) ih
theorem zgf {k:List D->Env->WQ->Prop} (hcall:∀ pn xe,CallR (wp X pn xe) (.type T) (rOfRng f)) (hg:Gl X x) (hm:X.mg x=none) (hv:bootBuiltins x=some (.type T)) (hgr:Gl X "range") (hmr:X.mg "range"=none) (ha:FE X a wa)
  (hk:∀ {U:Env} {σ:St} {F G H:Hp} {l:List D} {xs:List V} {P:WQ} {q:Addr},Rel X.K U σ F G H->qX X.K F xs l->k l U P->H q=none->∃ r F',qK F F'/\P r U/\RV σ (.ref q) r/\Rel X.K (U++[qL r]) (σ++[some (.ref q)]) F' G (upd H q (f xs)))
  (hs:starEach [a] X.env=[(false,eval a X.env)]) (he:starEach [.Call (.Name "range" p1) [a] [] pos1] X.env=[(false,eval (.Call (.Name "range" p1) [a] [] pos1) X.env)]) (hn:x≠"__name__") (hdb:(x == ("__debug__":Str))=false):
  FE X (.Call (.Name x p) [.Call (.Name "range" p1) [a] [] pos1] [] pos) (fun U Q E=>wRange1 wa U (fun l U1=>l.length<=big/\k l U1 Q) E):=fun pn xe hp=>by
 refine PE.imp (zed (X:=wp X pn xe) (hcall pn xe) hg hm hv (zhZ (zhN (X:=wp X pn xe) hgr hmr (zaa ha zab hs pn xe hp) hs) zjs (by rw [he]; rfl)) hn hdb (by rw [he]; rfl) (by rfl)) fun σ H Q q=>?_
 obtain ⟨F,G,U,P,PX,q8,hw,hok,hx⟩:=q
 refine ⟨F,G,U,fun rs U1=>match rs with | [r]=>(match view r U1 with | some (.int j)=>(-big<=j/\j<=big)/\(fromTo 0 j.toNat).length<=big/\k (fromTo 0 j.toNat) U1 P | _=>False) | _=>False,PX,q8,hw,fun rs U1 vs F1 H1 hk1 s1 r1 hl rv=>?_,hx⟩
 match rs,vs,rv,r1,hk1 with
 | [r],[v],rv,r1,hk1=>
   dsimp only at hk1
   split at hk1
   ·rename_i j ej
    have rp:=look (U':=[]) (σ':=[]) r1 hl rv.1 ej
    cases rp
    obtain ⟨⟨h1,h2⟩,_,hk1⟩:=hk1
    have eb:(big:Int)=1000000:=rfl
    rw [eb] at h1 h2
    have r2:Rel X.K U1 σ F1 G H1:=(show Rel X.K (U1++[qL r]) (σ++[some (.int j)]) F1 G H1 from r1).drop hl
    refine ⟨j,rfl,fun p hp=>?_⟩
    have r3:=r2.newF (o:=.rng 0 j) hp
    obtain ⟨f0,_,_⟩:=r2.free hp
    refine ⟨p,0,j,rfl,zam,⟨by lia,by lia,by lia,by lia⟩,by lia,fun q hq=>?_⟩
    rw [Int.sub_zero]
    obtain ⟨r,F',s',hP,rv',r4⟩:=hk (xs:=rngVs 0 j.toNat) r3 zi2 hk1 hq
    exact hok r U1 _ F' _ hP (s1.trans ((qK.upd f0).trans s')) r4 rv'
   ·exact hk1.elim
 | [],_,_,_,hk=>exact hk.elim
 | [_],[],rv,_,_=>exact rv.elim
 | [_],_::_::_,rv,_,_=>exact rv.2.elim
 | _::_::_,_,_,_,hk=>exact hk.elim
theorem zhU (hc:X.calm=true) (hg:Gl X "list") (hm:X.mg "list"=none) (hv:bootBuiltins "list"=some (.type "list")) (hgr:Gl X "range") (hmr:X.mg "range"=none) (ha:FE X a wa)
  (hs:starEach [a] X.env=[(false,eval a X.env)]:=by rfl) (he:starEach [.Call (.Name "range" p1) [a] [] pos1] X.env=[(false,eval (.Call (.Name "range" p1) [a] [] pos1) X.env)]:=by rfl):
  FE X (.Call (.Name "list" p) [.Call (.Name "range" p1) [a] [] pos1] [] pos) (wListI (wRange1 wa)):=
 zgf (f:=.lst) (k:=fun l U1 Q=>Q (.v (.lst (l.map .sh))) U1) (fun pn xe=>zdB (X:=wp X pn xe) hc) hg hm hv hgr hmr ha (fun q8 rx hP hq=>⟨_,_,qK.refl _,hP,trivial,Rel.newLD q8 hq rx⟩) hs he (by decide) (by decide)
theorem ziS (hc:X.calm=true) (hg:Gl X "tuple") (hm:X.mg "tuple"=none) (hv:bootBuiltins "tuple"=some (.type "tuple")) (hgr:Gl X "range") (hmr:X.mg "range"=none) (ha:FE X a wa)
  (hs:starEach [a] X.env=[(false,eval a X.env)]:=by rfl) (he:starEach [.Call (.Name "range" p1) [a] [] pos1] X.env=[(false,eval (.Call (.Name "range" p1) [a] [] pos1) X.env)]:=by rfl):
  FE X (.Call (.Name "tuple" p) [.Call (.Name "range" p1) [a] [] pos1] [] pos) (wTupI (wRange1 wa)):=
 zgf (f:=.tup) (k:=fun l U1 Q=>Q (.v (.sh (.tup l))) U1) (fun pn xe=>zcW (X:=wp X pn xe) hc) hg hm hv hgr hmr ha (fun q8 rx hP hq=>by
  obtain ⟨f0,_,_⟩:=q8.free hq
  exact ⟨_,_,qK.upd f0,hP,trivial,(q8.newF (o:=.tup _) hq).push (.tup zam (rx.mono (qK.upd f0)))⟩) hs he (by decide) (by decide)
end
theorem zeN (h1:-1000000000000 < i) (h2:i < 1000000000000):i.natAbs.log2 < 40:=by
 have:i.natAbs < 2 ^ 40:=by lia
 by_cases h0:i.natAbs=0
 ·rw [h0]; decide
 ·exact (Nat.log2_lt h0).mpr this
mutual
theorem zcO:∀ d:D,okSh d=true->showD d=true
 | .non,_=>rfl
 | .bl _,_=>rfl
 | .int i,h=>by
   have h':(decide (-1000000000000 < i) && decide (i < 1000000000000))=true:=h
   rw [Bool.and_eq_true,qm,qm] at h'
   have:=zeN h'.1 h'.2
   show decide (i.natAbs.log2 < 1920)=true
   rw [qm]; lia
 | .str _,_=>rfl
 | .tup l,h=>zb0 l h
 | .lst l,h=>zb0 l h
 | .dct _ _ _,h=>by cases h
 | .set _,h=>by cases h
 | .exc _ _ _,h=>by cases h
theorem zb0:∀ l:List D,okShs l=true->showDs l=true
 | [],_=>rfl
 | d::r,h=>by
   rw [okShs,Bool.and_eq_true] at h
   rw [showDs,zcO d h.1,zb0 r h.2]
   rfl
end
mutual
theorem za1:∀ d:D,okSh d=true->(toPy d).leavesShort 13=true
 | .non,_=>rfl
 | .bl _,_=>rfl
 | .int i,h=>by
   have h':(decide (-1000000000000 < i) && decide (i < 1000000000000))=true:=h
   rw [Bool.and_eq_true,qm,qm] at h'
   have:=int_text_length_le10 (a:=i) (k:=12) (by decide) (by lia)
   simp only [toPy,PyData.leavesShort,qm]
   show (Str.ofString (toString i)).length<=13
   rw [PySem.ofString_length]
   exact this
 | .str l,h=>by
   have h':(l.all fun c=>decide (c < 1114112))=true:=h
   simp only [toPy,PyData.leavesShort,List.all_eq_true,qm] at h' ⊢
   intro c hc
   have:=h' c (by simpa using hc)
   lia
 | .tup l,h=>by
   simp only [toPy,PyData.leavesShort]
   exact zbf l h
 | .lst l,h=>by
   simp only [toPy,PyData.leavesShort]
   exact zbf l h
 | .dct _ _ _,h=>by cases h
 | .set _,h=>by cases h
 | .exc _ _ _,h=>by cases h
theorem zbf:∀ l:List D,okShs l=true->PyData.leavesShortAll 13 (toPys l)=true
 | [],_=>rfl
 | d::r,h=>by
   rw [okShs,Bool.and_eq_true] at h
   simp only [toPys,PyData.leavesShortAll,Bool.and_eq_true]
   exact ⟨za1 d h.1,zbf r h.2⟩
end
mutual
theorem za2:∀ d:D,okSh d=true->(toPy d).weight<=wtD d
 | .non,_=>Nat.le_refl _
 | .bl _,_=>Nat.le_refl _
 | .int i,h=>by
   have h':(decide (-1000000000000 < i) && decide (i < 1000000000000))=true:=h
   rw [Bool.and_eq_true,qm,qm] at h'
   have:=zeN h'.1 h'.2
   simp only [toPy,PyData.weight,wtD]
   split <;> lia
 | .str l,h=>by simp [toPy,PyData.weight,wtD]
 | .tup l,h=>by
   simp only [toPy,PyData.weight,wtD]
   exact zbd l h
 | .lst l,h=>by
   simp only [toPy,PyData.weight,wtD]
   exact zbd l h
 | .dct _ _ _,h=>by cases h
 | .set _,h=>by cases h
 | .exc _ _ _,h=>by cases h
theorem zbd:∀ l:List D,okShs l=true->PyData.weightAll (toPys l)<=wtDs l
 | [],_=>Nat.le_refl _
 | d::r,h=>by
   rw [okShs,Bool.and_eq_true] at h
   have h1:=za2 d h.1
   have h2:=zbd r h.2
   simp only [toPys,PyData.weightAll,wtDs]
   lia
end
theorem RepE.view {K:W.Frag} (h:RepE K F H v d) (sm:qK F H):Rep K H v d:=by
 rcases h with h | ⟨a,xs,ds,rfl,rfl,e,r⟩ | ⟨a,q5,ks,vs,rfl,rfl,e,k,r⟩ | ⟨a,q5,ks,vs,rfl,rfl,e,k,r⟩
 ·exact h.mono sm
 ·exact .lst (SqL.of e) (r.mono sm)
 ·exact .dK (.of e) k (r.mono sm)
 ·exact .dT (.of e) k (r.mono sm)
noncomputable def txD:D->Str
 | .non=>"None"
 | .bl b=>if b then "True" else "False"
 | .int i=>toString i
 | d=>(toPy d).shown
noncomputable def rRepr2 (K:W.Frag):List V->Hp->VK->Prop:=fun xs H Q=>∃ v d,xs=[v]/\Rep K H v d/\okShow d=true/\Q (.str (txD d)) H
theorem zc8 (hr:Room k X.A):CallR X (.builtin "repr") (rRepr2 X.K):=by
 intro qZ s σ H xs us Q I r h
 obtain ⟨v,d,rfl,rp,hok,q⟩:=h
 unfold okShow at hok
 rw [Bool.and_eq_true,Bool.and_eq_true,qm,qm] at hok
 obtain ⟨hs,hd,hw⟩:=hok
 obtain ⟨u,rfl,rx⟩:=vals1 r
 have seq:∀ a,v=.ref a->isSeq d=true->wpAny (model X.prog X.w) X.A (call (.builtin "repr") [u]) (EP X qZ σ Q) X.xe s:=fun a e hq=>by
  subst e
  cases rx
  obtain ⟨as,rd⟩:=ziO I rp rfl (zcO d hs)
  have h1:=zfj d
  have h2:=hr.units
  have etx:txD d=(toPy d).shown:=by cases d <;> first | rfl | cases hq
  rw [etx] at q
  refine repr_of_reads' (h₀:=s.heap) rd (zcH d (zcO d hs)) (fun h=>by rw [zd9] at h; cases h) hr.gd (by lia) (fun _ _ z=>z) (fun h' u tk hk=>⟨.str _,H,I.kept hk,⟨u,rfl⟩,q⟩) ?_
  have hw2:=za2 d hs
  exact PyData.shown_fits (B:=13) (by decide) (by decide) (za1 d hs) (by lia)
 cases rp with
 | non=>
   cases rx
   exact P.repr_of_none ⟨.str _,H,I.kept fun _ _ z=>z,⟨_,rfl⟩,q⟩
 | bl b=>
   cases rx
   exact P.repr_of_bool ⟨.str _,H,I.kept fun _ _ z=>z,⟨_,rfl⟩,q⟩
 | int i=>
   obtain ⟨t,rfl⟩:=rx
   have h':(decide (-1000000000000 < i) && decide (i < 1000000000000))=true:=hs
   rw [Bool.and_eq_true,qm,qm] at h'
   have:=zeN h'.1 h'.2
   exact P.repr_of_int (by lia) ⟨.str _,H,I.kept fun _ _ z=>z,⟨_,rfl⟩,q⟩
 | @str x l e z=>
   obtain ⟨t,rfl⟩:=rx
   have ex:x=⟨l.toArray⟩:=by
    obtain ⟨⟨a⟩⟩:=x
    have e':a=l:=e
    rw [e']
   subst ex
   have hw2:=za2 (.str l) hs
   exact P.repr_of_str ⟨.str _,H,I.kept fun _ _ z=>z,⟨_,rfl⟩,q⟩ (PyData.shown_fits (d:=toPy (.str l)) (B:=13) (by decide) (by decide) (za1 _ hs) (by lia))
 | tup e r=>exact seq _ rfl rfl
 | lst e r=>exact seq _ rfl rfl
 | dK e k r=>cases hs
 | dT e k r=>cases hs
 | st e r=>cases hs
 | exc e k=>cases hs
theorem zjA (hs:okShow d=true):(txD d).cps.toList.length<=16777216:=by
 unfold okShow at hs
 rw [Bool.and_eq_true,Bool.and_eq_true,qm,qm] at hs
 obtain ⟨hs,hd,hw⟩:=hs
 have hw2:=za2 d hs
 have h:=PyData.shown_fits (d:=toPy d) (B:=13) (by decide) (by decide) (za1 _ hs) (by lia)
 have e:txD d=(toPy d).shown:=by
  cases d with
  | non=>rfl
  | bl b=>rfl
  | int i=>rfl
  | str l=>rfl
  | tup l=>rfl
  | lst l=>rfl
  | _=>cases hs
 rw [e,Array.length_toList]
 exact h
theorem zfV {a b:Expr} {wa wb:WE} {res:Bool} {X':Cx} {σ:St} {H:Hp} {Q:Bool->Hp->Prop} {C:V->V->Hp->Prop} (hC:∀ (z:Str) H2,z.cps.toList.length<=16777216->Q res H2->C (.str z) (.str z) H2) (q:tWT X' (wReprEq res wa wb) σ H Q):
  tCB (rRepr2 X'.K) (tWA X' (qG wa qH)) σ H fun v H1=>tCB (rRepr2 X'.K) (tWA X' (qG wb qH)) σ H1 fun u H2=>C v u H2:=by
 obtain ⟨F,G,U,P,PX,q8,hw,hok,hx⟩:=q
 refine ⟨F,G,U,fun rs U1=>match rs with | [r]=>(qJ (qV r U1) fun p=>okShow p=true/\wb U1 (fun y U2=>qJ (qV y U2) fun q=>p=q/\P res U2) PX) | _=>False,PX,q8,hw,fun rs U1 vs F1 H1 hk s1 r1 hl rv=>?_,hx⟩
 match rs,vs,rv,r1,hk with
 | [r],[v],rv,r1,hk=>
   dsimp only at hk
   obtain ⟨d,ed,hsh,hk⟩:=zae hk
   obtain ⟨F2,s2,re,r2⟩:=takeC (U':=[]) (σ':=[]) r1 hl rv.1 ed
   rw [List.append_nil,List.append_nil] at r2
   refine ⟨v,d,rfl,re.view r2.fr,hsh,F2,G,U1,fun rs U2=>match rs with | [r]=>(qJ (qV r U2) fun q=>d=q/\P res U2) | _=>False,PX,r2,hk,fun rs U2 us F3 H3 hk2 s3 r3 hl3 rv3=>?_,hx.grow (s1.trans s2)⟩
   match rs,us,rv3,r3,hk2 with
   | [r],[u],rv3,r3,hk2=>
     dsimp only at hk2
     obtain ⟨d2,ed2,e12,hk2⟩:=zae hk2
     subst e12
     obtain ⟨F4,s4,re4,r4⟩:=takeC (U':=[]) (σ':=[]) r3 hl3 rv3.1 ed2
     rw [List.append_nil,List.append_nil] at r4
     exact ⟨u,d,rfl,re4.view r4.fr,hsh,hC _ _ (zjA hsh) (hok _ U2 F4 H3 hk2 (s1.trans (s2.trans (s3.trans s4))) r4)⟩
   | [],_,_,_,hk=>exact hk.elim
   | [_],[],rv,_,_=>exact rv.elim
   | [_],_::_::_,rv,_,_=>exact rv.2.elim
   | _::_::_,_,_,_,hk=>exact hk.elim
 | [],_,_,_,hk=>exact hk.elim
 | [_],[],rv,_,_=>exact rv.elim
 | [_],_::_::_,rv,_,_=>exact rv.2.elim
 | _::_::_,_,_,_,hk=>exact hk.elim
theorem zfw:bootBuiltins "repr"=some (.builtin "repr"):=by decide +kernel
theorem zhe (hr:Room k X.A) (hg:Gl X "repr") (hm:X.mg "repr"=none) (ha:FE X a wa) (hb:FE X b wb) (hs:starEach [a] X.env=[(false,eval a X.env)]:=by rfl) (hs2:starEach [b] X.env=[(false,eval b X.env)]:=by rfl):
  FT X (.Compare (.Call (.Name "repr" p) [a] [] pos1) [.NotEq] [.Call (.Name "repr" p2) [b] [] pos2] pos) (wReprEq false wa wb):=fun pn xe hp=>by
 refine PT.imp (zgD (zbS (X:=wp X pn xe) (u32 hr)) (zdF (X:=wp X pn xe) (zc8 (X:=wp X pn xe) hr) hg hm zfw (zaa ha zab hs pn xe hp) (by decide) (by decide) hs (by rfl)) (zdF (X:=wp X pn xe) (zc8 (X:=wp X pn xe) hr) hg hm zfw (zaa hb zab hs2 pn xe hp) (by decide) (by decide) hs2 (by rfl)) (nomark _)) fun σ H Q q=>?_
 refine zfV (a:=a) (b:=b) (C:=fun v u H2=>rNeD X.K v u H2 fun z H3=>∃ c,z=.bl c/\Q c H3) (fun z H2 hz hq=>?_) q
 exact ⟨.str z.cps.toList,.str z.cps.toList,.str rfl hz,.str rfl hz,rfl,Nat.zero_le _,false,by simp,hq⟩
section
variable {K:W.Frag}
theorem zd3 (a:Array Nat):∀ (n:Nat) (b:Array Nat),((List.replicate n a).foldl (·++·) b).toList=b.toList++(List.replicate n a.toList).flatten
 | 0,b=>by simp
 | n + 1,b=>by
   rw [List.replicate_succ,List.foldl_cons,zd3 a n,List.replicate_succ,List.flatten_cons,Array.toList_append,List.append_assoc]
theorem zmr (h0:0<=n):(Txt.mul x n).cps.toList=(List.replicate n.toNat x.cps.toList).flatten:=by
 unfold Txt.mul
 by_cases h1:n < 1
 ·rw [qq h1,show n=0 by lia]; rfl
 ·rw [qr h1]
  by_cases h2:(n == 1 || x.length == 0)=true
  ·rw [qq h2]
   rw [Bool.or_eq_true,beq_iff_eq,beq_iff_eq] at h2
   rcases h2 with h2 | h2
   ·subst h2; simp
   ·have:x.cps.toList=[]:=by
     have e:x.cps.size=0:=h2
     rw [<- List.length_eq_zero_iff,Array.length_toList]; exact e
    rw [this]; simp
  ·rw [qr h2]
   show ((List.replicate n.toNat x.cps).foldl (·++·) #[]).toList=_
   rw [zd3]; simp
noncomputable def rMulS:R2:=fun x y H Q=>∃ z n,x=.str z/\y=.int n/\0<=n/\n<=1000/\z.length<=500/\Q (.str (Txt.mul z n)) H
theorem zkk:OpR X (binaryOp .Mult) rMulS:=by
 intro qZ s σ H x y v u Q I rx ry h
 obtain ⟨z,n,rfl,rfl,h0,h1,hz,q⟩:=h
 obtain ⟨t,rfl⟩:=rx
 obtain ⟨t',rfl⟩:=ry
 refine SB.mul ⟨?_,fun h _=>?_,fun h _=>?_⟩ fun t2 k=>⟨.str _,H,I.kept fun _ _ z=>z,⟨_,rfl⟩,q⟩
 ·grind
 ·have h3:(9223372036854775807:Int) / 1000<=(2 ^ 63 - 1) / n:=by
   rw [Int.le_ediv_iff_mul_le (by lia)]
   grind
  grind
 ·have h4:z.length * n.toNat<=500 * 1000:=Nat.mul_le_mul hz (by lia)
  simp only [Builtin.Str.tooLong,decide_eq_false_iff_not,qz]
  lia
theorem zgV:Does K (fun x y H Q=>(rI CMul fun i j=>.int (i * j)) x y H Q\/rMulS x y H Q) oMulA:=by
 intro σ U F G H x y p q s Q q8 rx ry e hq
 unfold oMulA at e
 split at e
 ·rename_i l n
  split at e
  ·rename_i hc
   cases e
   obtain ⟨h0,h1,hz⟩:=hc
   obtain ⟨z,rfl,e1,_⟩:=rx.str
   have ey:y=.int n:=by
    rcases ry with ry | ⟨_,_,_,_,e,_⟩ | ⟨_,_,_,_,_,e,_⟩ | ⟨_,_,_,_,_,e,_⟩
    ·cases ry; rfl
    ·cases e
    ·cases e
    ·cases e
   subst ey
   have hzl:z.length=l.length:=by rw [<- e1,Array.length_toList]; rfl
   refine .inr ⟨z,n,rfl,rfl,h0,h1,by lia,?_⟩
   refine hq _ F H (qK.refl F) (q8.push (.str ?_ ?_))
   ·rw [zmr h0,e1]
   ·have h4:n.toNat * l.length<=1000 * 500:=Nat.mul_le_mul (by lia) hz
    have e5:∀ m,((List.replicate m l).flatten).length=m * l.length:=fun m=>by simp [List.length_flatten]
    rw [e5]; lia
  ·cases e
 ·exact .inl (ziL σ U F G H x y _ _ s Q q8 rx ry e hq)
theorem zat (ha:FE X a wa) (hb:FE X b wb):FE X (.BinOp a .Mult b pos) (qQ oMulA wa wb):=zc7 (fun _ _=>OpR.or zm7 zkk) zgV ha hb
end
noncomputable def dO (K:W.Frag) (f:Addr):FuncData:=match K.lookup f with
 | some ⟨_,_,.func d,_⟩=>d
 | _=>default
theorem zl7 {K:W.Frag} (l:K.lookup f=some ⟨oc,od,.func d,sl⟩):dO K f=d:=by unfold dO; rw [l]
inductive Lk (K:W.Frag) (n:Str) (st:Stmt) (f:Addr):Prop
 | mk {oc kV dc pm cd ct:Value} {od an:Option Addr} {sl:Array (Option Value)} (a:W.nsIn K mainGlobals n=some (some (.ref f))) (l:K.lookup f=some ⟨oc,od,.func (W.fnOf n n (defArgs st) (defBody st) (defScope st) .none kV dc pm an cd ct),sl⟩)
   (c:W.codeIn K cd n=true) (k:W.keepIn K (.ref f)=true):Lk K n st f
structure Tx (K:W.Frag) (mg:Str->Option Value) (f:Addr) (n:Str) (st:Stmt) (ps:List Str):Prop where
 F:Fun K n n st f (dO K f)
 m:mg n=some (.ref f)
 k:W.keepIn K (.ref f)=true
 b:Binds K (dO K f) ps []
noncomputable def Bd0 (n:Str) (st:Stmt) (ps:List Str):Prop:=∀ (kV doc pm:Value) (an:Option Addr) (cdv ct:Value) (us:List Value),us.length=ps.length->bindArgs (W.fnOf n n (defArgs st) (defBody st) (defScope st) .none kV doc pm an cdv ct) ⟨us,[]⟩=pure (ps.zip us)
section
variable {K:W.Frag} {st:Stmt}
theorem Lk.mm (t:Lk K n st f) (X:K.In h) (G:h.Ns mainGlobals mg):mg n=some (.ref f):=by
 obtain ⟨a,l,c,k⟩:=t
 exact W.mg_of X G a
theorem Lk.tx (t:Lk K n st f) (X:K.In h) (G:h.Ns mainGlobals mg) (b:Bd0 n st ps:=by intro _ _ _ _ _ _ us hl; first | (obtain ⟨_,rfl⟩:=vlen1 (l:=us) hl; rfl) | (obtain ⟨_,_,rfl⟩:=vlen2 (l:=us) hl; rfl) | (obtain ⟨_,_,_,rfl⟩:=vlen3 (l:=us) hl; rfl) | (obtain ⟨_,_,_,_,rfl⟩:=vlen4 (l:=us) hl; rfl) | (obtain ⟨_,_,_,_,_,rfl⟩:=vlen5 (l:=us) hl; rfl)):Tx K mg f n st ps:=by
 obtain ⟨a,l,c,k⟩:=t
 have e:=zl7 l
 have F:=zmO l c k
 refine ⟨?_,W.mg_of X G a,k,?_⟩
 ·rw [e]; exact F
 ·rw [e]; exact F.binds b
theorem Lk.bt (t:Lk K n st f) (s:Shared) (v:Value) (b:Bd0 n st [x]:=by intro _ _ _ _ _ _ us hl; obtain ⟨_,rfl⟩:=vlen1 (l:=us) hl; rfl):BindsTo s (dO K f) ⟨[v],[]⟩ [(x,v)]:=by
 obtain ⟨a,l,c,k⟩:=t
 have e:=zl7 l
 rw [e]
 exact .of_eq (b _ _ _ _ _ _ [v] rfl)
end
theorem msc {N P:List Str} {sc:Scope} (a:sc.kind=.function:=by rfl) (b:sc.isCoroutine=false:=by rfl) (c:sc.isGenerator=false:=by rfl) (d:N.Nodup:=by decide +kernel) (e:N.take P.length=P:=by rfl) (f:∀ x∈P,sc.names.lookup x=some .local\/sc.names.lookup x=some .cell:=by decide +kernel) (g:∀ y∈sc.names,y.2≠.free:=by decide +kernel):FnScope N P sc:=⟨a,b,c,d,e,f,g⟩
noncomputable abbrev FnK (P:Program) (w:World) (K:W.Frag) (mg:Str->Option Value) (base:Heap) (af:Nat->Addr) (k i:Nat) (ps:List Str) (sp:Sp):Prop:=FnOk P w K mg base (CXe P w) k (af i) (dO K (af i)) ps sp
theorem fn2 {K:W.Frag} {st:Stmt} (t:Tx K mg f x st ps) (Sc:FnScope N ps (defScope st))
  (hb:∀ (cdv:Value) (A:Around) (outer:List PySem.Env) (s:Shared) (H:Hp) (E:XK),Room k (A.deeper (envOfC x (defScope st) s.heap.objs.size f cdv))->FSs (cxOf (CXe P w) P w K mg base N x (defScope st) f cdv A outer s H E) ks (defBody st) wb) (hn:ps.length=n:=by rfl) (hm:N.length=m:=by rfl):
  FnOk P w K mg base (CXe P w) (k + 1) f (dO K f) ps (spW K (wFn n m ks wb) n):=fn_w t.F Sc hn hm hb
section
theorem fw (i:Nat) (hN:X.N[i]?=some x:=by rfl) (hv:Vis X.env.scope x:=by first | exact Or.inl rfl | exact Or.inr (Or.inl rfl) | exact Or.inr (Or.inr rfl)) (hd:(x == ("__debug__":Str))=false:=by decide)
  (hcd:(x == ("__classdict__":Str))=false:=by decide):FE X (.Name x pos) (qF i):=zkS hN hv hd hcd
theorem gnm (i:Nat) (hnd:X.N.Nodup) (hk:i∉ks:=by decide) (hi:X.N[i]?=some x:=by rfl) (hx:Loc X.env.scope x:=by first | exact Or.inl rfl | exact Or.inr rfl) (hf:X.fn x=true\/X.env.scope.names.lookup x=some .local:=by exact Or.inl rfl):FG X ks (.Name x pos) (FL.qI i):=zgF hk (fun j hj=>zbn hnd hj hi) hi hx hf
theorem gcm (i:Nat) (hk:i∉ks:=by decide) (hu:(X.N.zipIdx.all fun p=>!(p.1 == x) || p.2 == i)=true:=by kernel_rfl) (hi:X.N[i]?=some x:=by rfl) (hx:Loc X.env.scope x:=by first | exact Or.inl rfl | exact Or.inr rfl) (hf:X.fn x=true\/X.env.scope.names.lookup x=some .local:=by first | exact Or.inr rfl | exact Or.inl rfl):FG X ks (.Name x pos) (FL.qI i):=zgF hk (uq hu) hi hx hf
variable {st:Stmt}
theorem fcl (ms:List Bool) (t:Tx X.K X.mg f x st ps) (Fk:FnOk X.prog X.w X.K X.mg X.base (CXe X.prog X.w) k f (dO X.K f) ps (spW X.K wf n)) (hr:Room j X.A) (ha:FA X (e::es) wa) (hj:k<=j:=by decide) (hg:Gl X x:=by rfl) (q9:∀ ss P PX,wf ss P PX->ss.length=n:=by exact fun _ _ _ h=>h.1)
  (hdb:(x == ("__debug__":Str))=false:=by decide) (he:starEach (e::es) X.env=(false,eval e X.env)::starEach es X.env:=by rfl) (hpl:(backTo pos (starEach es X.env)).any (·.1)=false:=by rfl):
  FE X (.Call (.Name x p) (e::es) [] pos) (qS wf ms wa):=zj3 Fk (hr.mono hj) hg t.m t.k t.b ha q9 hdb he hpl
end
end FL
namespace FL
end FL
namespace FL
open PySem PySem.Spec PyProof.Rows L2
open PySem.SeqAt AutoSeq1
end FL
namespace FL
noncomputable def e_C:wC d U Q E=Q (.v (.sh d)) U:=rfl
noncomputable def kV (o:Option S) (Q:WQ) (U:Env):Prop:=qJ o fun s=>Q (.v s) U
noncomputable def e_V:kV (some s) Q U=Q (.v s) U:=rfl
noncomputable def kBin3 (o:D->D->Option S) (x y:Option D) (Q:WQ) (U:Env):Prop:=qJ x fun p=>qJ y fun q=>kV (o p q) Q U
noncomputable def kBin2 (o:D->D->Option S) (x:R) (Q:WQ):WQ:=fun y U2=>kBin3 o (qV x U2) (qV y U2) Q U2
noncomputable def kBin1 (o:D->D->Option S) (b:WE) (Q:WQ) (E:WX):WQ:=fun x U1=>b U1 (kBin2 o x Q) E
noncomputable def zpb:qQ o a b U Q E=a U (kBin1 o b Q E) E:=rfl
noncomputable def zlo:kBin1 o b Q E x U=b U (kBin2 o x Q) E:=rfl
noncomputable def zly:kBin3 o (some p) (some q) Q U=kV (o p q) Q U:=rfl
noncomputable def kUn2 (o:D->Option S) (x:Option D) (Q:WQ) (U:Env):Prop:=qJ x fun p=>kV (o p) Q U
noncomputable def kUn (o:D->Option S) (Q:WQ):WQ:=fun x U=>kUn2 o (qV x U) Q U
noncomputable def e_Un {o:D->Option S}:wUn o a U Q E=a U (kUn o Q) E:=rfl
noncomputable def zn1 {o:D->Option S}:kUn o Q x U=kUn2 o (qV x U) Q U:=rfl
noncomputable def zoh {o:D->Option S}:kUn2 o (some p) Q U=kV (o p) Q U:=rfl
noncomputable def kC (o:Option Bool) (Q:Bool->Env->Prop) (U:Env):Prop:=qJ o fun c=>Q c U
noncomputable def e_Ck {c:Bool}:kC (some c) QT U=QT c U:=rfl
noncomputable def kCmp3 (o:D->D->Option Bool) (x y:Option D) (Q:Bool->Env->Prop) (U:Env):Prop:=qJ x fun p=>qJ y fun q=>kC (o p q) Q U
noncomputable def kCmp2 (o:D->D->Option Bool) (x:R) (Q:Bool->Env->Prop):WQ:=fun y U2=>kCmp3 o (view x U2) (view y U2) Q U2
noncomputable def kCmp1 (o:D->D->Option Bool) (b:WE) (Q:Bool->Env->Prop) (E:WX):WQ:=fun x U1=>b U1 (kCmp2 o x Q) E
noncomputable def zo1:wCmp oc a b U QT E=a U (kCmp1 oc b QT E) E:=rfl
noncomputable def zm4:kCmp1 oc b QT E x U=b U (kCmp2 oc x QT) E:=rfl
noncomputable def zk7:kCmp3 oc (some p) (some q) QT U=kC (oc p q) QT U:=rfl
noncomputable def kTest2 (x:Option D) (Q:Bool->Env->Prop) (U:Env):Prop:=qJ x fun p=>kC (truth p) Q U
noncomputable def kTest (Q:Bool->Env->Prop):WQ:=fun x U=>kTest2 (view x U) Q U
noncomputable def zlO:wTest a U QT E=a U (kTest QT) E:=rfl
noncomputable def zjI:kTest QT x U=kTest2 (view x U) QT U:=rfl
noncomputable def zjC:kTest2 (some p) QT U=kC (truth p) QT U:=rfl
noncomputable def kAnd (b:WT) (Q:Bool->Env->Prop) (E:WX):Bool->Env->Prop:=fun c U1=>if c then b U1 Q E else Q false U1
noncomputable def zpE:wtAnd t u U QT E=t U (kAnd u QT E) E:=rfl
noncomputable def zlU:kAnd u QT E true U=u U QT E:=rfl
noncomputable def zlK:kAnd u QT E false U=QT false U:=rfl
noncomputable def kOr (b:WT) (Q:Bool->Env->Prop) (E:WX):Bool->Env->Prop:=fun c U1=>if c then Q true U1 else b U1 Q E
noncomputable def e_Or:wtOr t u U QT E=t U (kOr u QT E) E:=rfl
noncomputable def zoC:kOr u QT E false U=u U QT E:=rfl
noncomputable def kNot (Q:Bool->Env->Prop):Bool->Env->Prop:=fun c U1=>Q (!c) U1
noncomputable def znT:wtNot t U QT E=t U (kNot QT) E:=rfl
noncomputable def zmA {c:Bool}:kNot QT c U=QT (!c) U:=rfl
noncomputable def kOfT (Q:WQ):Bool->Env->Prop:=fun c U1=>Q (.v (.sh (.bl c))) U1
noncomputable def zoI:wOfT t U Q E=t U (kOfT Q) E:=rfl
noncomputable def zl9 {c:Bool}:kOfT Q c U=Q (.v (.sh (.bl c))) U:=rfl
noncomputable def kIfE (a b:WE) (Q:WQ) (E:WX):Bool->Env->Prop:=fun k U1=>if k then a U1 Q E else b U1 Q E
noncomputable def zny:wIfE t a b U Q E=t U (kIfE a b Q E) E:=rfl
noncomputable def zld:kIfE a b Q E true U=a U Q E:=rfl
noncomputable def zmM:kIfE a b Q E false U=b U Q E:=rfl
noncomputable def kAndV2 (x:Option D) (b:WE) (Q:WQ) (E:WX) (U:Env):Prop:=match x with | some (.bl c)=>if c then b U Q E else Q (.v (.sh (.bl false))) U | _=>False
noncomputable def kAndV (b:WE) (Q:WQ) (E:WX):WQ:=fun x U=>kAndV2 (view x U) b Q E U
noncomputable def zlq:wAndV a b U Q E=a U (kAndV b Q E) E:=rfl
noncomputable def zjL:kAndV b Q E x U=kAndV2 (view x U) b Q E U:=rfl
noncomputable def zj1:kAndV2 (some (.bl true)) b Q E U=b U Q E:=rfl
noncomputable def znX:qH U QA E=QA [] U:=rfl
noncomputable def kCons2 (r:R) (Q:List R->Env->Prop):List R->Env->Prop:=fun rs U=>Q (r::rs) U
noncomputable def kCons1 (b:WA) (Q:List R->Env->Prop) (E:WX):WQ:=fun r U1=>b U1 (kCons2 r Q) E
noncomputable def zmL:qG a wa U QA E=a U (kCons1 wa QA E) E:=rfl
noncomputable def zj5:kCons1 wa QA E r U=wa U (kCons2 r QA) E:=rfl
noncomputable def zj9:kCons2 r QA rs U=QA (r::rs) U:=rfl
noncomputable def gA2 (s:S):Option (List S×Env)->Option (List S×Env)
 | some (ss,U)=>some (s::ss,U)
 | none=>none
noncomputable def gA1 (rs:List R):Option (S×Env)->Option (List S×Env)
 | some (s,U)=>gA2 s (giveAll rs U)
 | none=>none
noncomputable def zpt:giveAll [] U=some ([],U):=rfl
theorem e_gA:giveAll (r::rs) U=gA1 rs (give r U):=by
 rw [giveAll]; unfold gA1
 cases give r U with
 | none=>rfl
 | some z=>obtain ⟨s,U1⟩:=z; show (match giveAll rs U1 with | some (ss,U2)=>some (s::ss,U2) | none=>none)=gA2 s (giveAll rs U1); unfold gA2; rfl
noncomputable def zpY:gA1 rs (some (s,U))=gA2 s (giveAll rs U):=rfl
noncomputable def znR:gA2 s (some (ss,U))=some (s::ss,U):=rfl
noncomputable def gv (i:Nat) (U:Env):Option S->Option (S×Env)
 | some s=>some (.sh s.toD,U.set i (some (.sh s.toD)))
 | none=>none
noncomputable def e_gv:give (.v s) U=some (s,U):=rfl
theorem e_gl:give (.loc i) U=gv i U (slot U i):=by unfold give gv; rfl
noncomputable def zp0:gv i U (some s)=some (.sh s.toD,U.set i (some (.sh s.toD))):=rfl
noncomputable def kTup2 (l:Bool) (x:Option (List S×Env)) (Q:WQ):Prop:=qJ (if l then x else none) fun p=>Q (.v (.sh (.tup (p.1.map S.toD)))) p.2
noncomputable def kLst2 (l:Bool) (x:Option (List S×Env)) (Q:WQ):Prop:=qJ (if l then x else none) fun p=>Q (.v (.lst p.1)) p.2
noncomputable def lenOk (rs:List R):Bool:=decide (rs.length<=big)
noncomputable def kTup (Q:WQ):List R->Env->Prop:=fun rs U=>kTup2 (lenOk rs) (giveAll rs U) Q
noncomputable def kLst (Q:WQ):List R->Env->Prop:=fun rs U=>kLst2 (lenOk rs) (giveAll rs U) Q
theorem zpd:wTup wa U Q E=wa U (kTup Q) E:=by unfold wTup kTup kTup2 lenOk; simp
noncomputable def zlr:kTup Q rs U=kTup2 (lenOk rs) (giveAll rs U) Q:=rfl
noncomputable def zlW:kTup2 true (some (ss,U)) Q=Q (.v (.sh (.tup (ss.map S.toD)))) U:=rfl
theorem znM:wLst wa U Q E=wa U (kLst Q) E:=by unfold wLst kLst kLst2 lenOk; simp
noncomputable def zml:kLst Q rs U=kLst2 (lenOk rs) (giveAll rs U) Q:=rfl
noncomputable def zmN:kLst2 true (some (ss,U)) Q=Q (.v (.lst ss)) U:=rfl
noncomputable def e_l0:lenOk []=true:=rfl
noncomputable def e_l1:lenOk [r1]=true:=rfl
noncomputable def e_l2:lenOk [r1,r2]=true:=rfl
noncomputable def e_l3:lenOk [r1,r2,r3]=true:=rfl
noncomputable def e_l5:lenOk [r1,r2,r3,r4,r5]=true:=rfl
noncomputable def e_vv:view (.v s) U=some s.toD:=rfl
noncomputable def e_vl:view (.loc i) U=(slot U i).map S.toD:=rfl
noncomputable def e_cv:qV (.v s) U=some s.toD:=rfl
noncomputable def vC:Option S->Option D
 | some s=>if s.flat then some s.toD else none
 | none=>none
theorem e_cl:qV (.loc i) U=vC (slot U i):=by unfold qV vC; rfl
theorem zmC (h:l.all S.isSh=true):vC (some (.lst l))=some (.lst (l.map S.toD)):=by
 show (if l.all S.isSh=true then some (S.toD (.lst l)) else none)=_
 rw [qq h,S.toD_lst]
theorem e_sh {l:List D}:(l.map S.sh).all S.isSh=true:=by simp [S.isSh]
theorem zao {l:List D}:(l.map S.sh).map S.toD=l:=by
 rw [List.map_map]; exact List.map_id l
theorem zpc:vC (some (.lst (l.map S.sh)))=some (.lst l):=by rw [zmC e_sh,zao]
noncomputable def kIx5 (o:Option S) (Q:WQ) (U:Env):Prop:=match o with | some (.sh d)=>Q (.v (.sh d)) U | _=>False
noncomputable def kIx4 (o:Option S) (q:D) (Q:WQ) (U:Env):Prop:=match o with | some s=>kIx5 (ixS s q) Q U | none=>False
noncomputable def kIx3 (x:R) (o:Option D) (Q:WQ) (U:Env):Prop:=qJ o fun q=>match x with | .v s=>kV (ixS s q) Q U | .loc i=>kIx4 (slot U i) q Q U
noncomputable def kIx2 (x:R) (Q:WQ):WQ:=fun y U2=>kIx3 x (view y U2) Q U2
noncomputable def kIx1 (b:WE) (Q:WQ) (E:WX):WQ:=fun x U1=>b U1 (kIx2 x Q) E
theorem e_Ix:wIx a b U Q E=a U (kIx1 b Q E) E:=by
 unfold wIx kIx1 kIx2 kIx3 kIx4 kIx5 kV
 rfl
noncomputable def zpk:kIx1 b Q E x U=b U (kIx2 x Q) E:=rfl
noncomputable def zoS:kIx2 x Q y U=kIx3 x (view y U) Q U:=rfl
noncomputable def zm6:kIx3 (.v s) (some q) Q U=kV (ixS s q) Q U:=rfl
noncomputable def zkQ:kIx3 (.loc i) (some q) Q U=kIx4 (slot U i) q Q U:=rfl
noncomputable def znP:kIx4 (some s) q Q U=kIx5 (ixS s q) Q U:=rfl
noncomputable def znZ:kIx5 (some (.sh d)) Q U=Q (.v (.sh d)) U:=rfl
noncomputable def znU:ixS (.sh (.tup l)) (.int z)=(atI l z).map S.sh:=rfl
noncomputable def znu:ixS (.sh (.lst l)) (.int z)=(atI l z).map S.sh:=rfl
noncomputable def zpw:ixS (.sh (.str l)) (.int z)=(atI l z).map fun c=>S.sh (.str [c]):=rfl
noncomputable def zpL:ixS (.lst l) (.int z)=atI l z:=rfl
theorem zbM (h0:0<=z) (h:l[z.toNat]?=some v):atI l z=some v:=by
 have:z.toNat < l.length:=(qh.mp h).1
 unfold atI ixN
 rw [qq h0,qq (by lia)]
 exact h
theorem zpq:atI (v::l) 0=some v:=zbM (by decide) rfl
theorem zoi:atI (v1::v::l) 1=some v:=zbM (by decide) rfl
theorem zn6:atI (v1::v2::v::l) 2=some v:=zbM (by decide) rfl
theorem zpU:atI (v1::v2::v3::v::l) 3=some v:=zbM (by decide) rfl
theorem zn2:atI (v1::v2::v3::v4::v::l) 4=some v:=zbM (by decide) rfl
noncomputable def pA (s:S):Option (List S×Env)->Option (List S×Env)
 | some (ss,U)=>some (s::ss,U)
 | none=>none
theorem e_p0:prep ms [] U=some ([],U):=by cases ms <;> rfl
theorem e_pv:prep (h::ms) (.v s::rs) U=pA s (prep ms rs U):=by rw [prep]; unfold pA; rfl
noncomputable def pL (i:Nat) (o:Option S) (ms:List Bool) (rs:List R) (U:Env):Option (List S×Env):=match o with
 | some s=>pA s (prep ms rs (U.set i none))
 | none=>none
theorem e_pl:prep (true::ms) (.loc i::rs) U=pL i (slot U i) ms rs U:=by
 rw [prep]; unfold pL pA
 cases slot U i <;> rfl
noncomputable def zpH:pL i (some s) ms rs U=pA s (prep ms rs (U.set i none)):=rfl
noncomputable def e_pA:pA s (some (ss,U))=some (s::ss,U):=rfl
noncomputable def e_b0:back ms [] ss U=U:=rfl
noncomputable def e_bv {s t:S}:back (h::ms) (.v s::rs) (t::ss) U=back ms rs ss U:=rfl
noncomputable def e_bl {t:S}:back (true::ms) (.loc i::rs) (t::ss) U=back ms rs ss (U.set i (some t)):=rfl
noncomputable def kCret (ms:List Bool) (rs:List R) (U:Env) (Q:WQ):S->List S->Prop:=fun s ss=>Q (.v s) (back ms rs ss U)
noncomputable def kCex (ms:List Bool) (rs:List R) (U:Env) (E:WX):D->List S->Prop:=fun x ss=>E x (back ms rs ss U)
noncomputable def kCall2 (f:WF) (ms:List Bool) (rs:List R) (o:Option (List S×Env)) (Q:WQ) (E:WX):Prop:=qJ o fun p=>f p.1 (kCret ms rs p.2 Q) (kCex ms rs p.2 E)
noncomputable def kCall (f:WF) (ms:List Bool) (Q:WQ) (E:WX):List R->Env->Prop:=fun rs U=>kCall2 f ms rs (prep ms rs U) Q E
noncomputable def zm5:qS f ms wa U Q E=wa U (kCall f ms Q E) E:=rfl
noncomputable def zkx:kCall f ms Q E rs U=kCall2 f ms rs (prep ms rs U) Q E:=rfl
noncomputable def zjM:kCall2 f ms rs (some (ss,U)) Q E=f ss (kCret ms rs U Q) (kCex ms rs U E):=rfl
noncomputable def zlv:kCret ms rs U Q s ss=Q (.v s) (back ms rs ss U):=rfl
noncomputable def vA:Option D->Option (List D)->Option (List D)
 | some d,some ds=>some (d::ds)
 | _,_=>none
noncomputable def vAll (rs:List R) (U:Env):Option (List D):=match rs with
 | []=>some []
 | r::rs=>vA (qV r U) (vAll rs U)
theorem zeB:∀ rs:List R,(rs.mapM fun r=>qV r U)=vAll rs U
 | []=>rfl
 | r::rs=>by
   rw [List.mapM_cons,zeB rs,vAll]
   cases qV r U with
   | none=>rfl
   | some d=>cases vAll rs U <;> rfl
noncomputable def znl:vAll [] U=some []:=rfl
noncomputable def e_vA:vAll (r::rs) U=vA (qV r U) (vAll rs U):=rfl
noncomputable def zoK:vA (some d) (some ds)=some (d::ds):=rfl
noncomputable def kB2 (f:List D->Option S) (o:Option (List D)) (Q:WQ) (U:Env):Prop:=qJ o fun ds=>kV (f ds) Q U
noncomputable def kB (f:List D->Option S) (Q:WQ):List R->Env->Prop:=fun rs U=>kB2 f (vAll rs U) Q U
theorem e_B:wB f wa U Q E=wa U (kB f Q) E:=by
 unfold wB kB kB2 kV
 simp only [zeB]
noncomputable def e_B1:kB f Q rs U=kB2 f (vAll rs U) Q U:=rfl
noncomputable def e_B2:kB2 f (some ds) Q U=kV (f ds) Q U:=rfl
noncomputable def kMS2 (f:List Nat->List D->Option S) (l:List Nat) (Q:WQ):List R->Env->Prop:=fun rs U=>kB2 (f l) (vAll rs U) Q U
noncomputable def kMS (f:List Nat->List D->Option S) (wa:WA) (Q:WQ) (E:WX):WQ:=fun x U=>match x with
 | .v (.sh (.str l))=>wa U (kMS2 f l Q) E
 | _=>False
theorem e_MS:wMS f a wa U Q E=a U (kMS f wa Q E) E:=by
 unfold wMS kMS kMS2 kB2 kV
 simp only [zeB]
 all_goals rfl
noncomputable def zoN:kMS f wa Q E (.v (.sh (.str l))) U=wa U (kMS2 f l Q) E:=rfl
noncomputable def zpy:kMS2 f l Q rs U=kB2 (f l) (vAll rs U) Q U:=rfl
noncomputable def kAp4 (j:Nat) (s:S) (o:Option S) (U:Env) (Q:WQ):Prop:=match o with
 | some (.lst l)=>l.length < big/\Q (.v (.sh .non)) (U.set j (some (.lst (l++[s]))))
 | _=>False
noncomputable def kAp3 (j:Nat) (o:Option (S×Env)) (Q:WQ):Prop:=qJ o fun p=>kAp4 j p.1 (slot p.2 j) p.2 Q
noncomputable def kAp2 (j:Nat) (Q:WQ):WQ:=fun r U=>kAp3 j (give r U) Q
noncomputable def kAp (j:Nat) (o:Option S) (a:WE) (U:Env) (Q:WQ) (E:WX):Prop:=match o with
 | some (.lst _)=>a U (kAp2 j Q) E
 | _=>False
theorem e_Ap:wAppend j a U Q E=kAp j (slot U j) a U Q E:=by unfold wAppend kAp kAp2 kAp3 kAp4; rfl
noncomputable def zod:kAp j (some (.lst l)) a U Q E=a U (kAp2 j Q) E:=rfl
noncomputable def zoU:kAp2 j Q r U=kAp3 j (give r U) Q:=rfl
noncomputable def zoX:kAp3 j (some (s,U)) Q=kAp4 j s (slot U j) U Q:=rfl
noncomputable def zpC:kAp4 j s (some (.lst l)) U Q=(l.length < big/\Q (.v (.sh .non)) (U.set j (some (.lst (l++[s]))))):=rfl
noncomputable def kPop3 (j:Nat) (o:Option D) (p:Option S) (U:Env) (Q:WQ):Prop:=match o,p with
 | some (.int i),some (.lst l)=>qJ (if l.length<=big then ixN l.length i else none) fun k=>qJ l[k]? fun s=>Q (.v s) (U.set j (some (.lst (l.eraseIdx k))))
 | _,_=>False
noncomputable def kPop2 (j:Nat) (Q:WQ):WQ:=fun r U=>kPop3 j (view r U) (slot U j) U Q
noncomputable def kPop (j:Nat) (o:Option S) (a:WE) (U:Env) (Q:WQ) (E:WX):Prop:=match o with
 | some (.lst _)=>a U (kPop2 j Q) E
 | _=>False
theorem znW:wPopAt j a U Q E=kPop j (slot U j) a U Q E:=by unfold wPopAt kPop kPop2 kPop3; rfl
noncomputable def zmI:kPop j (some (.lst l)) a U Q E=a U (kPop2 j Q) E:=rfl
noncomputable def zl0:kPop2 j Q r U=kPop3 j (view r U) (slot U j) U Q:=rfl
theorem zle (h0:0<=z) (hb:l.length<=big) (h:l[z.toNat]?=some s) (hq:Q (.v s) (U.set j (some (.lst (l.eraseIdx z.toNat))))):kPop3 j (some (.int z)) (some (.lst l)) U Q:=by
 have:z.toNat < l.length:=(qh.mp h).1
 have e:(if l.length<=big then ixN l.length z else none)=some z.toNat:=by
  unfold ixN
  rw [qq hb,qq h0,qq (by lia)]
 show qJ (if l.length<=big then ixN l.length z else none) _
 rw [e,zcs,h]
 exact hq
noncomputable def kPt2 (o:Option D) (Q:Option Int->Env->Prop) (U:Env):Prop:=match o with | some (.int i)=>Q (some i) U | _=>False
noncomputable def kPt (Q:Option Int->Env->Prop):WQ:=fun x U=>kPt2 (view x U) Q U
noncomputable def znG {Q:Option Int->Env->Prop}:wPart none U Q E=Q none U:=rfl
noncomputable def e_Pt {Q:Option Int->Env->Prop}:wPart (some a) U Q E=a U (kPt Q) E:=rfl
noncomputable def zpZ {Q:Option Int->Env->Prop}:kPt Q x U=kPt2 (view x U) Q U:=rfl
noncomputable def zoT {Q:Option Int->Env->Prop}:kPt2 (some (.int z)) Q U=Q (some z) U:=rfl
noncomputable def kSl3 (o:Option D) (l h:Option Int) (Q:WQ) (U:Env):Prop:=qJ o fun d=>kV (slD d l h) Q U
noncomputable def kSl2 (x:R) (l:Option Int) (Q:WQ):Option Int->Env->Prop:=fun h U=>kSl3 (qV x U) l h Q U
noncomputable def kSl1 (x:R) (hi:Option WE) (Q:WQ) (E:WX):Option Int->Env->Prop:=fun l U=>wPart hi U (kSl2 x l Q) E
noncomputable def kSl (lo hi:Option WE) (Q:WQ) (E:WX):WQ:=fun x U=>wPart lo U (kSl1 x hi Q E) E
noncomputable def e_Sl:wSl a lo hi U Q E=a U (kSl lo hi Q E) E:=rfl
noncomputable def zpQ:kSl lo hi Q E x U=wPart lo U (kSl1 x hi Q E) E:=rfl
noncomputable def zpu:kSl1 x hi Q E l U=wPart hi U (kSl2 x l Q) E:=rfl
noncomputable def zn3:kSl2 x l Q h U=kSl3 (qV x U) l h Q U:=rfl
noncomputable def zpz:kSl3 (some d) l h Q U=kV (slD d l h) Q U:=rfl
noncomputable def wNx (D:Ends) (k:Env->Prop):Ends:={ D with nx:=k }
noncomputable def e_nx:(wNx D' K).nx=K:=rfl
noncomputable def e_rt:(wNx D' K).rt=D'.rt:=rfl
noncomputable def e_ex:(wNx D' K).ex=D'.ex:=rfl
noncomputable def zmg:wPass D' U=D'.nx U:=rfl
noncomputable def znL:qR v w D' U=v (wNx D' (w D')) U:=rfl
noncomputable def kIf (a b:WS) (D:Ends):Bool->Env->Prop:=fun k U=>if k then a D U else b D U
noncomputable def e_If:wIf t v w D' U=t U (kIf v w D') D'.ex:=rfl
noncomputable def zoV:kIf v w D' true U=v D' U:=rfl
noncomputable def zpg:kIf v w D' false U=w D' U:=rfl
noncomputable def znw:wRet a D' U=a U D'.rt D'.ex:=rfl
noncomputable def kEx (D:Ends):WQ:=fun _ U=>D.nx U
noncomputable def zlS:wExpr a D' U=a U (kEx D') D'.ex:=rfl
noncomputable def zjV:kEx D' r U=D'.nx U:=rfl
noncomputable def kAsg2 (g:WG) (D:Ends) (o:Option (S×Env)):Prop:=qJ o fun p=>g p.1 p.2 D.nx
noncomputable def kAsg (g:WG) (D:Ends):WQ:=fun r U=>kAsg2 g D (give r U)
noncomputable def zoF:qT g a D' U=a U (kAsg g D') D'.ex:=rfl
noncomputable def zlz:kAsg g D' r U=kAsg2 g D' (give r U):=rfl
noncomputable def zlZ:kAsg2 g D' (some (s,U))=g s U D'.nx:=rfl
noncomputable def e_gN:qI i s U K=K (U.set i (some s)):=rfl
noncomputable def kGT (gs:List WG) (d:D) (U:Env) (Q:Env->Prop):Prop:=match d with | .tup ds=>ds.length=gs.length/\gTups gs ds U Q | _=>False
noncomputable def e_gT:gTup gs s U K=kGT gs s.toD U K:=rfl
noncomputable def znp:kGT gs (.tup ds) U K=(ds.length=gs.length/\gTups gs ds U K):=rfl
noncomputable def kGTs (gs:List WG) (ds:List D) (Q:Env->Prop):Env->Prop:=fun U=>gTups gs ds U Q
noncomputable def zoy:gTups [] [] U K=K U:=rfl
noncomputable def zn0:gTups (g::gs) (d::ds) U K=g (.sh d) U (kGTs gs ds K):=rfl
noncomputable def znN:kGTs gs ds K U=gTups gs ds U K:=rfl
noncomputable def kSet5 (j:Nat) (D:Ends) (x:R) (q:FL.D) (s:S) (o:Option S) (U:Env):Prop:=match x,q,o with
 | .loc k,.int n,some (.lst l)=>k=j/\qJ (ixN l.length n) fun m=>D.nx (U.set j (some (.lst (l.set m s))))
 | _,_,_=>False
noncomputable def kSet4 (j:Nat) (D:Ends) (x:R) (o:Option FL.D) (p:Option (S×Env)):Prop:=qJ o fun q=>qJ p fun p=>kSet5 j D x q p.1 (slot p.2 j) p.2
noncomputable def kSet3 (j:Nat) (D:Ends) (r x:R):WQ:=fun y U=>kSet4 j D x (view y U) (give r U)
noncomputable def kSet2 (j:Nat) (i:WE) (D:Ends) (r:R):WQ:=fun x U=>i U (kSet3 j D r x) D.ex
noncomputable def kSet1 (j:Nat) (i:WE) (D:Ends):WQ:=fun r U=>qF j U (kSet2 j i D r) D.ex
theorem zpI:wSetIx j a b D' U=b U (kSet1 j a D') D'.ex:=by unfold wSetIx kSet1 kSet2 kSet3 kSet4 kSet5; rfl
noncomputable def zmQ:kSet1 j a D' r U=qF j U (kSet2 j a D' r) D'.ex:=rfl
noncomputable def zkW:kSet2 j a D' r x U=a U (kSet3 j D' r x) D'.ex:=rfl
noncomputable def zmf:kSet3 j D' r x y U=kSet4 j D' x (view y U) (give r U):=rfl
noncomputable def zlM:kSet4 j D' x (some q) (some (s,U))=kSet5 j D' x q s (slot U j) U:=rfl
theorem zgl (h0:0<=z) (h1:z < l.length):kSet5 j D' (.loc j) (.int z) s (some (.lst l)) U=D'.nx (U.set j (some (.lst (l.set z.toNat s)))):=by
 show (j=j/\qJ (ixN l.length z) _)=_
 unfold ixN
 rw [qq h0,qq h1,zcs]
 simp
theorem zkL:kSet5 j D' (.loc j) (.int 0) s (some (.lst [s0,s1])) U=D'.nx (U.set j (some (.lst [s,s1]))):=zgl (by decide) (by show (0:Int) < 2; decide)
theorem zkB:kSet5 j D' (.loc j) (.int 1) s (some (.lst [s0,s1])) U=D'.nx (U.set j (some (.lst [s0,s]))):=zgl (by decide) (by show (1:Int) < 2; decide)
noncomputable def kIt3 (o:Option (List D)) (U:Env) (Q:List D->Env->Prop):Prop:=qJ o fun l=>Q l U
noncomputable def kIt2 (o:Option (S×Env)) (Q:List D->Env->Prop):Prop:=qJ o fun p=>kIt3 (items p.1.toD) p.2 Q
noncomputable def kIt (Q:List D->Env->Prop):WQ:=fun r U=>kIt2 (give r U) Q
noncomputable def e_It:wIter a U QI E=a U (kIt QI) E:=rfl
noncomputable def zpW:kIt QI r U=kIt2 (give r U) QI:=rfl
noncomputable def zor:kIt2 (some (s,U)) QI=kIt3 (items s.toD) U QI:=rfl
noncomputable def znq:kIt3 (some l) U QI=QI l U:=rfl
noncomputable def znk:items (.lst l)=some l:=rfl
noncomputable def zo5:items (.tup l)=some l:=rfl
noncomputable def zoG:items (.str l)=some (l.map fun c=>.str [c]):=rfl
noncomputable def kEn3 (o:Option (List D)) (U:Env) (Q:List D->Env->Prop):Prop:=qJ o fun l=>Q (enumF 0 l) U
noncomputable def kEn2 (o:Option (S×Env)) (Q:List D->Env->Prop):Prop:=qJ o fun p=>kEn3 (items p.1.toD) p.2 Q
noncomputable def kEn (Q:List D->Env->Prop):WQ:=fun r U=>kEn2 (give r U) Q
noncomputable def e_En:wEnum a U QI E=a U (kEn QI) E:=rfl
noncomputable def zpi:kEn QI r U=kEn2 (give r U) QI:=rfl
noncomputable def znm:kEn2 (some (s,U)) QI=kEn3 (items s.toD) U QI:=rfl
noncomputable def znz:kEn3 (some l) U QI=QI (enumF 0 l) U:=rfl
noncomputable def kZi4 (o p:Option (List D)) (U:Env) (Q:List D->Env->Prop):Prop:=qJ o fun l=>qJ p fun m=>Q (zipD l m) U
noncomputable def kZi3 (s:S) (o:Option (S×Env)) (Q:List D->Env->Prop):Prop:=qJ o fun q=>kZi4 (items s.toD) (items q.1.toD) q.2 Q
noncomputable def kZi2 (t:R) (o:Option (S×Env)) (Q:List D->Env->Prop):Prop:=qJ o fun p=>kZi3 p.1 (give t p.2) Q
noncomputable def kZi1 (r:R) (Q:List D->Env->Prop):WQ:=fun t U=>kZi2 t (give r U) Q
noncomputable def kZi (b:WE) (Q:List D->Env->Prop) (E:WX):WQ:=fun r U=>b U (kZi1 r Q) E
noncomputable def e_Zi:wZip a b U QI E=a U (kZi b QI E) E:=rfl
noncomputable def znx:kZi b QI E r U=b U (kZi1 r QI) E:=rfl
noncomputable def znv:kZi1 r QI x U=kZi2 x (give r U) QI:=rfl
noncomputable def zn7:kZi2 x (some (s,U)) QI=kZi3 s (give x U) QI:=rfl
noncomputable def zpv:kZi3 s' (some (s,U)) QI=kZi4 (items s'.toD) (items s.toD) U QI:=rfl
noncomputable def zpV {l m:List D}:kZi4 (some l) (some m) U QI=QI (zipD l m) U:=rfl
noncomputable def kR1b (o:Option D) (Q:List D->Env->Prop) (U:Env):Prop:=match o with | some (.int j)=>(-big<=j/\j<=big)/\Q (fromTo 0 j.toNat) U | _=>False
noncomputable def kR1 (Q:List D->Env->Prop):WQ:=fun r U=>kR1b (view r U) Q U
noncomputable def e_R1:wRange1 a U QI E=a U (kR1 QI) E:=rfl
noncomputable def zpa:kR1 QI r U=kR1b (view r U) QI U:=rfl
noncomputable def zoJ:kR1b (some (.int z)) QI U=((-big<=z/\z<=big)/\QI (fromTo 0 z.toNat) U):=rfl
noncomputable def kR2b (o p:Option D) (Q:List D->Env->Prop) (U:Env):Prop:=match o,p with | some (.int i),some (.int j)=>(-big<=i/\i<=big/\-big<=j/\j<=big)/\Q (fromTo i (j - i).toNat) U | _,_=>False
noncomputable def kR2a (r:R) (Q:List D->Env->Prop):WQ:=fun t U=>kR2b (view r U) (view t U) Q U
noncomputable def kR2 (b:WE) (Q:List D->Env->Prop) (E:WX):WQ:=fun r U=>b U (kR2a r Q) E
noncomputable def e_R2:wRange2 a b U QI E=a U (kR2 b QI E) E:=rfl
noncomputable def zoW:kR2 b QI E r U=b U (kR2a r QI) E:=rfl
noncomputable def zos:kR2a r QI x U=kR2b (view r U) (view x U) QI U:=rfl
noncomputable def zo3:kR2b (some (.int z)) (some (.int z')) QI U=((-big<=z/\z<=big/\-big<=z'/\z'<=big)/\QI (fromTo z (z' - z).toNat) U):=rfl
noncomputable def kFor (g:WG) (b:WS) (D:Ends):List FL.D->Env->Prop:=fun l U=>wLoop g b l D U
noncomputable def zpx:wFor it g v D' U=it U (kFor g v D') D'.ex:=rfl
noncomputable def zk1:kFor g v D' l U=wLoop g v l D' U:=rfl
noncomputable def lpE (g:WG) (b:WS) (xs:List FL.D) (D:Ends):Ends:={ D with nx:=wLoop g b xs D,ct:=wLoop g b xs D,bk:=D.nx }
noncomputable def kLp (g:WG) (b:WS) (xs:List FL.D) (D:Ends):Env->Prop:=fun U=>b (lpE g b xs D) U
noncomputable def zoE:wLoop g v [] D' U=D'.nx U:=rfl
noncomputable def e_Lp:wLoop g v (d::xs) D' U=g (.sh d) U (kLp g v xs D'):=rfl
noncomputable def zo4:kLp g v xs D' U=v (lpE g v xs D') U:=rfl
noncomputable def zph:(lpE g v xs D').nx=wLoop g v xs D':=rfl
noncomputable def znA:(lpE g v xs D').ex=D'.ex:=rfl
noncomputable def kLCr2 (n:Nat) (o:Option S) (U:Env) (Q:WQ):Prop:=qJ o fun s=>Q (.v s) (U.take n)
noncomputable def kLCr (n:Nat) (Q:WQ):Env->Prop:=fun U=>kLCr2 n (slot U n) U Q
noncomputable def kLCx (n:Nat) (E:WX):WX:=NX
noncomputable def kLC (n k:Nat) (g:WG) (c:WT) (b:WB) (Q:WQ) (E:WX):List D->Env->Prop:=fun l U=>bLoop g c b l (U++some (.lst [])::List.replicate k none) (kLCr n Q) (kLCx n E)
noncomputable def e_LC:wLC n m it g c bb U Q E=it U (kLC n m g c bb Q E) E:=rfl
noncomputable def zoY:kLC n m g c bb Q E l U=bLoop g c bb l (U++some (.lst [])::List.replicate m none) (kLCr n Q) (kLCx n E):=rfl
noncomputable def zoq:kLCr n Q U=kLCr2 n (slot U n) U Q:=rfl
noncomputable def zlj:kLCr2 n (some s) U Q=Q (.v s) (U.take n):=rfl
noncomputable def kbL3 (g:WG) (c:WT) (b:WB) (xs:List D) (Q:Env->Prop) (E:WX):Env->Prop:=fun U=>bLoop g c b xs U Q E
noncomputable def kbL2 (g:WG) (c:WT) (b:WB) (xs:List D) (Q:Env->Prop) (E:WX):Bool->Env->Prop:=fun k U=>if k then b U (kbL3 g c b xs Q E) E else bLoop g c b xs U Q E
noncomputable def kbL (g:WG) (c:WT) (b:WB) (xs:List D) (Q:Env->Prop) (E:WX):Env->Prop:=fun U=>c U (kbL2 g c b xs Q E) E
noncomputable def e_bL:bLoop g c bb (d::xs) U QE E=g (.sh d) U (kbL g c bb xs QE E):=rfl
noncomputable def znY:kbL g c bb xs QE E U=c U (kbL2 g c bb xs QE E) E:=rfl
noncomputable def zkV:kbL2 g c bb xs QE E true U=bb U (kbL3 g c bb xs QE E) E:=rfl
noncomputable def zow:kbL3 g c bb xs QE E U=bLoop g c bb xs U QE E:=rfl
noncomputable def kEm3 (n:Nat) (s:S) (o:Option S) (U:Env) (Q:Env->Prop):Prop:=match o with
 | some (.lst l)=>l.length < big/\Q (U.set n (some (.lst (l++[s]))))
 | _=>False
noncomputable def kEm2 (n:Nat) (o:Option (S×Env)) (Q:Env->Prop):Prop:=qJ o fun p=>kEm3 n p.1 (slot p.2 n) p.2 Q
noncomputable def kEm (n:Nat) (Q:Env->Prop):WQ:=fun r U=>kEm2 n (give r U) Q
theorem e_Em:bEmit n a U QE E=a U (kEm n QE) E:=by unfold bEmit kEm kEm2 kEm3; rfl
noncomputable def znF:kEm n QE r U=kEm2 n (give r U) QE:=rfl
noncomputable def zoB:kEm2 n (some (s,U)) QE=kEm3 n s (slot U n) U QE:=rfl
noncomputable def zo9:kEm3 n s (some (.lst l)) U QE=(l.length < big/\QE (U.set n (some (.lst (l++[s]))))):=rfl
noncomputable def kbF (g:WG) (c:WT) (b:WB) (Q:Env->Prop) (E:WX):List D->Env->Prop:=fun l U=>bLoop g c b l U Q E
noncomputable def e_bF:bFor it g c bb U QE E=it U (kbF g c bb QE E) E:=rfl
noncomputable def zpT:kbF g c bb QE E l U=bLoop g c bb l U QE E:=rfl
noncomputable def znh:wYes U QT E=QT true U:=rfl
noncomputable def kFn (o:Option (List S)) (P:S->List S->Prop) (s:S):Prop:=qJ o fun fs=>P s fs
noncomputable def kRt2 (n:Nat) (ss:List S) (P:S->List S->Prop) (i:Nat) (o:Option S) (U:Env):Prop:=qJ o fun s=>if i < n then kFn (finals ss (U.set i (some (.sh s.toD)))) P (.sh s.toD) else kFn (finals ss U) P s
noncomputable def kRt (n:Nat) (ss:List S) (P:S->List S->Prop):WQ:=fun r U=>match r with
 | .v s=>kFn (finals ss U) P s
 | .loc i=>kRt2 n ss P i (slot U i) U
noncomputable def fnE (n:Nat) (ss:List S) (P:S->List S->Prop) (PX:D->List S->Prop):Ends where
 nx:=fun U=>kFn (finals ss U) P (.sh .non)
 rt:=kRt n ss P
 bk:=fun _=>False
 ct:=fun _=>False
 ex:=fun x U=>qJ (finals ss U) fun fs=>PX x fs
theorem zaY (hl:ss.length=n) (hk:((List.range ss.length).all fun i=>decide (i∈ks))=true) (h:v (fnE n ss P PX) (ss.map some++List.replicate (m - n) none)):wFn n m ks v ss P PX:=by
 refine ⟨hl,fun i s hi=>?_,h⟩
 have:=(qh.mp hi).1
 exact .inl (by simpa using List.all_eq_true.mp hk i (by simpa using this))
noncomputable def zoP:(fnE n ss P PX).rt=kRt n ss P:=rfl
noncomputable def e_Rt:kRt n ss P (.v s) U=kFn (finals ss U) P s:=rfl
noncomputable def znE:kRt n ss P (.loc i) U=kRt2 n ss P i (slot U i) U:=rfl
theorem zn4 (h:¬ i < n):kRt2 n ss P i (some s) U=kFn (finals ss U) P s:=by show (if i < n then _ else _)=_; rw [qr h]
noncomputable def e_Fn:kFn (some fs) P s=P s fs:=rfl
noncomputable def fA (s:S):Option (List S)->Option (List S)
 | some fs=>some (s::fs)
 | none=>none
theorem e_f0:finals [] U=some []:=by cases U <;> rfl
theorem e_fs:finals (.sh d::ss) (o::U)=fA (.sh d) (finals ss U):=by
 show (finals ss U).map _=_; cases finals ss U <;> rfl
theorem e_fl:finals (.lst l::ss) (some s::U)=fA s (finals ss U):=by
 show (finals ss U).map _=_; cases finals ss U <;> rfl
noncomputable def e_fA:fA s (some fs)=some (s::fs):=rfl
noncomputable def zoe:oAdd (.int i) (.int j)=some (.sh (.int (i + j))):=rfl
theorem zma (h:x.length + y.length<=big):oAdd (.str x) (.str y)=some (.sh (.str (x++y))):=qq h
theorem zmB (h:l.length + m.length<=big):oAdd (.lst l) (.lst m)=some (.lst ((l++m).map .sh)):=qq h
noncomputable def zop:oSub (.int i) (.int j)=some (.sh (.int (i - j))):=rfl
theorem zlk (h:-(2 ^ 64) < i/\i < 2 ^ 64):oMul (.int i) (.int j)=some (.sh (.int (i * j))):=by
 show (if mulOk i j=true then _ else none)=_
 rw [qq (by simp only [mulOk,h.1,h.2,decide_true,Bool.and_self,Bool.true_or])]
theorem zns (h:0 < j):oMod (.int i) (.int j)=some (.sh (.int (i % j))):=qq h
theorem zls (h:0 < j) (h2:j < 18446744073709551616):oFdiv (.int i) (.int j)=some (.sh (.int (i / j))):=qq ⟨h,h2⟩
theorem zoa (h:0<=j/\j<=1000/\i.natAbs < 2 ^ 64):oPow (.int i) (.int j)=some (.sh (.int (i ^ j.toNat))):=qq h
noncomputable def zng:oNeg (.int i)=some (.sh (.int (-i))):=rfl
noncomputable def e_lt:cLt (.int i) (.int j)=some (decide (i < j)):=rfl
noncomputable def e_gt:cGt (.int i) (.int j)=some (decide (j < i)):=rfl
noncomputable def e_le:cLe (.int i) (.int j)=some (decide (i<=j)):=rfl
noncomputable def e_ge:cGe (.int i) (.int j)=some (decide (j<=i)):=rfl
theorem zpR:cEq (.int i) (.int j)=some (decide (i=j)):=by
 unfold cEq
 rw [qr (by exact fun z=>Bool.noConfusion (show false=true from z))]
 simp
theorem zmh:cEq (.str x) (.str y)=some (decide (x=y)):=by
 unfold cEq
 rw [qr (by exact fun z=>Bool.noConfusion (show false=true from z))]
 simp
theorem zpS:cNe (.str x) (.str y)=some (!decide (x=y)):=by unfold cNe; rw [zmh]; rfl
theorem zla:cEq (.bl b) (.bl c)=some (decide (b=c)):=by
 unfold cEq
 rw [qr (by exact fun z=>Bool.noConfusion (show false=true from z))]
 simp
theorem zoz:cNe (.bl b) (.bl c)=some (!decide (b=c)):=by unfold cNe; rw [zla]; rfl
noncomputable def zpX:truth (.bl b)=some b:=rfl
noncomputable def zkU:bLen [.str x]=some (.sh (.int x.length)):=rfl
noncomputable def zlb:bLen [.lst l]=some (.sh (.int l.length)):=rfl
noncomputable def zkN:bInt [.bl b]=some (.sh (.int (if b then 1 else 0))):=rfl
noncomputable def zli:bTuple [.lst l]=some (.sh (.tup l)):=rfl
noncomputable def zk9:bListA [.tup l]=some (.lst (l.map .sh)):=rfl
noncomputable def zmF:bListA [.lst l]=some (.lst (l.map .sh)):=rfl
theorem zm2 (h:x.length<=big):bListA [.str x]=some (.lst (x.map fun c=>.sh (.str [c]))):=qq h
noncomputable def zon:bMax [.int i,.int j]=some (.sh (.int (if j > i then j else i))):=rfl
noncomputable def znn:bMin [.int i,.int j]=some (.sh (.int (if j < i then j else i))):=rfl
noncomputable def zoL:slD (.str x) a b=some (.sh (.str (cutL x a b))):=rfl
noncomputable def zn9:slD (.tup l) a b=some (.sh (.tup (cutL l a b))):=rfl
noncomputable def zpJ:slD (.lst l) a b=some (.lst ((cutL l a b).map .sh)):=rfl
noncomputable def zog:qF 0 (some (.sh d)::U) Q E=Q (.v (.sh d)) (some (.sh d)::U):=rfl
noncomputable def zoR:qF 0 (some (.lst l)::U) Q E=Q (.loc 0) (some (.lst l)::U):=rfl
noncomputable def zoD:slot (v::U) 0=v:=rfl
noncomputable def znI:List.set (u::U) 0 v=v::U:=rfl
noncomputable def zpl:qF 1 (s0::some (.sh d)::U) Q E=Q (.v (.sh d)) (s0::some (.sh d)::U):=rfl
noncomputable def znj:qF 1 (s0::some (.lst l)::U) Q E=Q (.loc 1) (s0::some (.lst l)::U):=rfl
noncomputable def zpe:slot (s0::v::U) 1=v:=rfl
noncomputable def zob:List.set (s0::u::U) 1 v=s0::v::U:=rfl
noncomputable def zo6:qF 2 (s0::s1::some (.sh d)::U) Q E=Q (.v (.sh d)) (s0::s1::some (.sh d)::U):=rfl
noncomputable def znV:qF 2 (s0::s1::some (.lst l)::U) Q E=Q (.loc 2) (s0::s1::some (.lst l)::U):=rfl
noncomputable def zol:slot (s0::s1::v::U) 2=v:=rfl
noncomputable def zpn:List.set (s0::s1::u::U) 2 v=s0::s1::v::U:=rfl
noncomputable def znO:qF 3 (s0::s1::s2::some (.sh d)::U) Q E=Q (.v (.sh d)) (s0::s1::s2::some (.sh d)::U):=rfl
noncomputable def zpG:qF 3 (s0::s1::s2::some (.lst l)::U) Q E=Q (.loc 3) (s0::s1::s2::some (.lst l)::U):=rfl
noncomputable def zpP:slot (s0::s1::s2::v::U) 3=v:=rfl
noncomputable def zpm:List.set (s0::s1::s2::u::U) 3 v=s0::s1::s2::v::U:=rfl
noncomputable def znQ:qF 4 (s0::s1::s2::s3::some (.sh d)::U) Q E=Q (.v (.sh d)) (s0::s1::s2::s3::some (.sh d)::U):=rfl
noncomputable def znH:qF 4 (s0::s1::s2::s3::some (.lst l)::U) Q E=Q (.loc 4) (s0::s1::s2::s3::some (.lst l)::U):=rfl
noncomputable def zpo:slot (s0::s1::s2::s3::v::U) 4=v:=rfl
noncomputable def zot:List.set (s0::s1::s2::s3::u::U) 4 v=s0::s1::s2::s3::v::U:=rfl
noncomputable def zoc:qF 5 (s0::s1::s2::s3::s4::some (.sh d)::U) Q E=Q (.v (.sh d)) (s0::s1::s2::s3::s4::some (.sh d)::U):=rfl
noncomputable def zoM:slot (s0::s1::s2::s3::s4::v::U) 5=v:=rfl
noncomputable def zpK:List.set (s0::s1::s2::s3::s4::u::U) 5 v=s0::s1::s2::s3::s4::v::U:=rfl
noncomputable def zpj:qF 6 (s0::s1::s2::s3::s4::s5::some (.sh d)::U) Q E=Q (.v (.sh d)) (s0::s1::s2::s3::s4::s5::some (.sh d)::U):=rfl
noncomputable def zoQ:List.set (s0::s1::s2::s3::s4::s5::u::U) 6 v=s0::s1::s2::s3::s4::s5::v::U:=rfl
noncomputable def znf:qF 7 (s0::s1::s2::s3::s4::s5::s6::some (.sh d)::U) Q E=Q (.v (.sh d)) (s0::s1::s2::s3::s4::s5::s6::some (.sh d)::U):=rfl
noncomputable def zni:slot (s0::s1::s2::s3::s4::s5::s6::v::U) 7=v:=rfl
noncomputable def zpF:List.set (s0::s1::s2::s3::s4::s5::s6::u::U) 7 v=s0::s1::s2::s3::s4::s5::s6::v::U:=rfl
noncomputable def zpB:qF 8 (s0::s1::s2::s3::s4::s5::s6::s7::some (.sh d)::U) Q E=Q (.v (.sh d)) (s0::s1::s2::s3::s4::s5::s6::s7::some (.sh d)::U):=rfl
noncomputable def znJ:slot (s0::s1::s2::s3::s4::s5::s6::s7::v::U) 8=v:=rfl
noncomputable def zoO:List.set (s0::s1::s2::s3::s4::s5::s6::s7::u::U) 8 v=s0::s1::s2::s3::s4::s5::s6::s7::v::U:=rfl
noncomputable def zpN:qF 9 (s0::s1::s2::s3::s4::s5::s6::s7::s8::some (.sh d)::U) Q E=Q (.v (.sh d)) (s0::s1::s2::s3::s4::s5::s6::s7::s8::some (.sh d)::U):=rfl
noncomputable def znS:List.set (s0::s1::s2::s3::s4::s5::s6::s7::s8::u::U) 9 v=s0::s1::s2::s3::s4::s5::s6::s7::s8::v::U:=rfl
noncomputable def zk4:qF 10 (s0::s1::s2::s3::s4::s5::s6::s7::s8::s9::some (.sh d)::U) Q E=Q (.v (.sh d)) (s0::s1::s2::s3::s4::s5::s6::s7::s8::s9::some (.sh d)::U):=rfl
noncomputable def zlm:List.set (s0::s1::s2::s3::s4::s5::s6::s7::s8::s9::u::U) 10 v=s0::s1::s2::s3::s4::s5::s6::s7::s8::s9::v::U:=rfl
noncomputable def zmb:qF 11 (s0::s1::s2::s3::s4::s5::s6::s7::s8::s9::s10::some (.sh d)::U) Q E=Q (.v (.sh d)) (s0::s1::s2::s3::s4::s5::s6::s7::s8::s9::s10::some (.sh d)::U):=rfl
noncomputable def zk2:slot (s0::s1::s2::s3::s4::s5::s6::s7::s8::s9::s10::v::U) 11=v:=rfl
noncomputable def zmV:List.set (s0::s1::s2::s3::s4::s5::s6::s7::s8::s9::s10::u::U) 11 v=s0::s1::s2::s3::s4::s5::s6::s7::s8::s9::s10::v::U:=rfl
noncomputable def zlF:qF 12 (s0::s1::s2::s3::s4::s5::s6::s7::s8::s9::s10::s11::some (.sh d)::U) Q E=Q (.v (.sh d)) (s0::s1::s2::s3::s4::s5::s6::s7::s8::s9::s10::s11::some (.sh d)::U):=rfl
noncomputable def zlG:List.set (s0::s1::s2::s3::s4::s5::s6::s7::s8::s9::s10::s11::u::U) 12 v=s0::s1::s2::s3::s4::s5::s6::s7::s8::s9::s10::s11::v::U:=rfl
noncomputable def zlu:kBin2 o (.v (.sh p)) Q (.v (.sh q)) U=kV (o p q) Q U:=rfl
noncomputable def zm0:kCmp2 oc (.v (.sh p)) QT (.v (.sh q)) U=kC (oc p q) QT U:=rfl
noncomputable def zk6:kCmp2 oc (.v (.sh p)) QT (.v (.lst m)) U=kCmp3 oc (some p) (some (S.lst m).toD) QT U:=rfl
noncomputable def zmm:kCmp2 oc (.v (.sh p)) QT (.loc k) U=kCmp3 oc (some p) (view (.loc k) U) QT U:=rfl
noncomputable def zlT:kBin2 o (.v (.lst l)) Q (.v (.lst m)) U=kBin3 o (some (S.lst l).toD) (some (S.lst m).toD) Q U:=rfl
noncomputable def zmK:kCmp2 oc (.loc j) QT (.v (.lst m)) U=kCmp3 oc (view (.loc j) U) (some (S.lst m).toD) QT U:=rfl
noncomputable def zoH:cInA d (.lst l)=cIn d (.lst l):=rfl
noncomputable def zmE:cNotInA p q=(cInA p q).map (!·):=rfl
noncomputable def kAA4 (j m:Nat) (l l':List S) (Q:WQ) (o:Option (S×Env)):Prop:=qJ o fun p=>l'.length < big/\Q (.v (.sh .non)) (p.2.set j (some (.lst (l.set m (.lst (l'++[p.1]))))))
noncomputable def kAA3 (j m:Nat) (l l':List S) (Q:WQ):WQ:=fun r U=>kAA4 j m l l' Q (give r U)
noncomputable def kAA2b (j m:Nat) (l:List S) (e:WE) (o:Option S) (U:Env) (Q:WQ) (E:WX):Prop:=match o with
 | some (.lst l')=>e (U.set j none) (kAA3 j m l l' Q) E
 | _=>False
noncomputable def kAA2 (j:Nat) (e:WE) (n:Int) (l:List S) (U:Env) (Q:WQ) (E:WX):Prop:=qJ (ixN l.length n) fun m=>kAA2b j m l e l[m]? U Q E
noncomputable def kAA1 (j:Nat) (e:WE) (o:Option D) (p:Option S) (U:Env) (Q:WQ) (E:WX):Prop:=match o,p with
 | some (.int n),some (.lst l)=>kAA2 j e n l U Q E
 | _,_=>False
noncomputable def kAA0 (j:Nat) (e:WE) (Q:WQ) (E:WX):WQ:=fun y U=>kAA1 j e (view y U) (slot U j) U Q E
noncomputable def kAA (j:Nat) (o:Option S) (i e:WE) (U:Env) (Q:WQ) (E:WX):Prop:=match o with
 | some (.lst _)=>i U (kAA0 j e Q E) E
 | _=>False
theorem e_AA:wAppendAt j a b U Q E=kAA j (slot U j) a b U Q E:=by first | rfl | assumption | (simp_all; done)
noncomputable def zoo {l:List S}:kAA j (some (.lst l)) a b U Q E=a U (kAA0 j b Q E) E:=rfl
noncomputable def zou:kAA0 j b Q E y U=kAA1 j b (view y U) (slot U j) U Q E:=rfl
noncomputable def znD {n:Int} {l:List S}:kAA1 j b (some (.int n)) (some (.lst l)) U Q E=kAA2 j b n l U Q E:=rfl
noncomputable def zpp {l l':List S}:kAA3 j m l l' Q r U=kAA4 j m l l' Q (give r U):=rfl
noncomputable def zov {l l':List S}:kAA4 j m l l' Q (some (s,U))=(l'.length < big/\Q (.v (.sh .non)) (U.set j (some (.lst (l.set m (.lst (l'++[s]))))))):=rfl
theorem zcg {z:Int} {l l':List S} (h0:0<=z) (h1:l[z.toNat]?=some (.lst l')):kAA2 j b z l U Q E=b (U.set j none) (kAA3 j z.toNat l l' Q) E:=by
 have:z.toNat < l.length:=(qh.mp h1).1
 unfold kAA2 ixN
 rw [qq h0,qq (by lia),zcs,h1]
 rfl
noncomputable def kFz2 (Q:WQ) (o:Option (S×Env)):Prop:=qJ o fun p=>Q (.v (.sh p.1.toD)) p.2
noncomputable def kFz (Q:WQ):WQ:=fun r U=>kFz2 Q (give r U)
noncomputable def zox:wFrz a U Q E=a U (kFz Q) E:=rfl
noncomputable def zmT:kFz Q r U=kFz2 Q (give r U):=rfl
noncomputable def zlC:kFz2 Q (some (s,U))=Q (.v (.sh s.toD)) U:=rfl
noncomputable def kFzN2 (i:Nat) (D:Ends) (o:Option S) (U:Env):Prop:=qJ o fun s=>D.nx (U.set i (some (.sh s.toD)))
noncomputable def kFzN (i:Nat) (D:Ends):Env->Prop:=fun U=>kFzN2 i D (slot U i) U
noncomputable def zpO:wFz i v D' U=v (wNx D' (kFzN i D')) U:=rfl
noncomputable def zmi:kFzN i D' U=kFzN2 i D' (slot U i) U:=rfl
noncomputable def zmd:kFzN2 i D' (some s) U=D'.nx (U.set i (some (.sh s.toD))):=rfl
noncomputable def kLI (Q:WQ):List D->Env->Prop:=fun l U=>l.length<=big/\Q (.v (.lst (l.map .sh))) U
noncomputable def kTI (Q:WQ):List D->Env->Prop:=fun l U=>l.length<=big/\Q (.v (.sh (.tup l))) U
noncomputable def e_LI:wListI it U Q E=it U (kLI Q) E:=rfl
noncomputable def zo2:kLI Q l U=(l.length<=big/\Q (.v (.lst (l.map .sh))) U):=rfl
noncomputable def e_TI:wTupI it U Q E=it U (kTI Q) E:=rfl
noncomputable def zoA:kTI Q l U=(l.length<=big/\Q (.v (.sh (.tup l))) U):=rfl
noncomputable def kRe4 (res:Bool) (p:D) (o:Option D) (Q:Bool->Env->Prop) (U:Env):Prop:=qJ o fun q=>p=q/\Q res U
noncomputable def kRe3 (res:Bool) (p:D) (Q:Bool->Env->Prop):WQ:=fun y U=>kRe4 res p (qV y U) Q U
noncomputable def kRe2 (res:Bool) (b:WE) (o:Option D) (Q:Bool->Env->Prop) (E:WX) (U:Env):Prop:=qJ o fun p=>okShow p=true/\b U (kRe3 res p Q) E
noncomputable def kRe1 (res:Bool) (b:WE) (Q:Bool->Env->Prop) (E:WX):WQ:=fun x U=>kRe2 res b (qV x U) Q E U
noncomputable def e_Re:wReprEq res a b U QT E=a U (kRe1 res b QT E) E:=rfl
noncomputable def zo7:kRe1 res b QT E x U=kRe2 res b (qV x U) QT E U:=rfl
noncomputable def zps:kRe2 res b (some p) QT E U=(okShow p=true/\b U (kRe3 res p QT) E):=rfl
noncomputable def znC:kRe3 res p QT y U=kRe4 res p (qV y U) QT U:=rfl
noncomputable def zn8:kRe4 res p (some q) QT U=(p=q/\QT res U):=rfl
noncomputable def zm3 {z z':Int}:oMulA (.int z) (.int z')=oMul (.int z) (.int z'):=rfl
theorem uB {w v:WB} (h:w=v) (U:Env) (Q:Env->Prop) (E:WX):w U Q E=v U Q E:=by rw [h]
theorem uS {w v:WS} (h:w=v) (D':Ends) (U:Env):w D' U=v D' U:=by rw [h]
section
variable {U:Env} {Q:WQ} {E:WX} {D':Ends} {a:WE} {v w:WS} {x:R} {j:Nat} {c:List Nat} {cs kn yes fs:List (List Nat)} {vs:List D} {d:D}
noncomputable def zpA {ms:List Bool} {rs:List R} {ss:List S}:kCex ms rs U E d ss=E d (back ms rs ss U):=rfl
noncomputable def zkM:wRaise c D' U=D'.ex (.exc c [] []) U:=rfl
noncomputable def yTry (j:Nat) (D:Ends):Ends:={ nx:=fun U2=>D.nx (U2.set j none),rt:=fun _ _=>False,bk:=fun _=>False,ct:=fun _=>False,ex:=NX }
noncomputable def xTryA (cs:List (List Nat)) (j:Nat) (w:WS) (D:Ends):Ends:={ D with ex:=fun d U=>IsX cs d/\w (yTry j D) (U.set j (some (.sh d))) }
noncomputable def zmx:wTryAs cs j v w D' U=v (xTryA cs j w D') U:=rfl
noncomputable def zkd:(xTryA cs j w D').rt=D'.rt:=rfl
theorem zj0 (h:cs.contains c=true):(xTryA cs j w D').ex (.exc c fs vs) U=w (yTry j D') (U.set j (some (.sh (.exc c fs vs)))):=by
 show (IsX cs _/\w _ _)=_
 have:IsX cs (.exc c fs vs):=⟨c,by simpa using h,fs,vs,rfl⟩
 simp only [this,true_and]
noncomputable def zkp:(yTry j D').nx U=D'.nx (U.set j none):=rfl
noncomputable def kIsX2 (kn yes:List (List Nat)) (o:Option D) (Q:WQ) (U:Env):Prop:=qJ o fun d=>qJ (tX kn yes d) fun b=>Q (.v (.sh (.bl b))) U
noncomputable def kIsX (kn yes:List (List Nat)) (Q:WQ):WQ:=fun x U=>kIsX2 kn yes (view x U) Q U
noncomputable def zok:wIsX kn yes a U Q E=a U (kIsX kn yes Q) E:=rfl
noncomputable def zmp:kIsX kn yes Q x U=kIsX2 kn yes (view x U) Q U:=rfl
theorem zmW (h:kn.contains c=true):kIsX2 kn yes (some (.exc c fs vs)) Q U=Q (.v (.sh (.bl (yes.contains c)))) U:=by
 show qJ (if kn.contains c then some (yes.contains c) else none) _=_
 rw [qq h]
 rfl
end
noncomputable def sg (c:Nat):D:=.str [c]
theorem zkJ (l:List Nat):strsD (l.map sg)=some (l.map fun c=>[c]):=by
 have:=zdX (l.map fun c=>[c])
 rw [List.map_map] at this
 exact this
theorem zfz:∀ l:List Nat,((l.map fun c=>[c]).map List.length).sum=l.length
 | []=>rfl
 | c::l=>by
   have:=zfz l
   simp only [List.map_cons,List.sum_cons,List.length_cons,List.length_nil] at this ⊢
   lia
theorem zei:∀ l:List Nat,(l.map fun c=>[c]).flatten=l
 | []=>rfl
 | c::l=>by
   have:=zei l
   simp only [List.map_cons,List.flatten_cons,List.singleton_append]
   rw [this]
theorem zhQ (h:l.length<=big):mJoin [] [.lst (l.map sg)]=some (.sh (.str l)):=by
 show (strsD (l.map sg)).bind _=_
 grind [zkJ,List.length,big,joinD,zfz,zg7,zei]
noncomputable def unsg:D->Nat
 | .str [c]=>c
 | _=>0
theorem zku (h:l.Perm (A.map sg)):∃ A':List Nat,A'.Perm A/\l=A'.map sg:=by
 refine ⟨l.map unsg,?_,?_⟩
 ·have:=h.map unsg
  rw [List.map_map] at this
  have e:(unsg ∘ sg)=id:=funext fun c=>rfl
  rw [e,List.map_id] at this
  exact this
 ·rw [List.map_map]
  have:∀ d∈l,(sg ∘ unsg) d=id d:=fun d hd=>by
   obtain ⟨c,_,rfl⟩:=List.mem_map.mp (h.mem_iff.mp hd)
   rfl
  rw [List.map_congr_left this,List.map_id]
noncomputable def zai:big=1000000:=rfl
theorem zbt:(fromTo lo n).length=n:=by simp [fromTo]
theorem zfH {l:List D} {k:Nat} (h:l[k]?=some d):(l.map S.sh)[k]?=some (.sh d):=by rw [List.getElem?_map,h]; rfl
theorem zdw {α β:Type} {f:α->β} {l:List α} {z:Int} (h0:0<=z) (h1:z < l.length):∃ v,v∈l/\l[z.toNat]?=some v/\atI (l.map f) z=some (f v):=by
 have hz:z.toNat < l.length:=by lia
 exact ⟨l[z.toNat],List.getElem_mem hz,qi hz,zbM h0 (by rw [List.getElem?_map,qi hz]; rfl)⟩
theorem zdY (h0:0<=z) (h1:z < l.length):∃ v,v∈l/\l[z.toNat]?=some v/\atI l z=some v:=by
 have hz:z.toNat < l.length:=by lia
 exact ⟨l[z.toNat],List.getElem_mem hz,qi hz,zbM h0 (qi hz)⟩
theorem zcx {α β:Type} {f:α->β}:∀ (l:List α) (k:Nat),(l.map f).eraseIdx k=(l.eraseIdx k).map f
 | [],_=>rfl
 | _::_,0=>rfl
 | x::l,k + 1=>by
   show f x::(l.map f).eraseIdx k=f x::(l.eraseIdx k).map f
   rw [zcx l k]
theorem zfC (f:α->β) (l:List α) (a b:Option Int):cutL (l.map f) a b=(cutL l a b).map f:=by
 unfold cutL
 first | rfl | assumption | (simp_all; done)
theorem zbr (l:List α) (a b:Option Int):(cutL l a b).length<=l.length:=by
 unfold cutL
 rw [List.length_take,List.length_drop]
 exact Nat.le_trans (Nat.min_le_right ..) (Nat.sub_le ..)
theorem zaR (h:x∈cutL l a b):x∈l:=by
 unfold cutL at h
 exact List.mem_of_mem_drop (List.mem_of_mem_take h)
theorem zg5 (l:List α) {k:Int} (h0:0<=k) (h1:k<=l.length):cutL l none (some k)=l.take k.toNat:=by
 unfold cutL sIx
 grind
theorem zbO (l:List α) (h0:0<=k):cutL l (some k) none=l.drop k.toNat:=by
 unfold cutL sIx
 have:¬ k < 0:=by lia
 simp only [qr this]
 by_cases h:k.toNat<=l.length
 ·rw [Nat.min_eq_left h,List.take_of_length_le]
  rw [List.length_drop]; lia
 ·have h2:l.length<=k.toNat:=by lia
  rw [Nat.min_eq_right h2,List.drop_of_length_le (Nat.le_refl _),List.drop_of_length_le h2,List.take_nil]
theorem zdK:∀ l:List Int,deps (l.map D.int)=0
 | []=>rfl
 | z::l=>by
   show max (dep (.int z)) (deps (l.map D.int))=0
   rw [zdK l]; rfl
theorem zcY {α:Type}:∀ (l:List α) (i:Nat) (h:i < l.length),(l[i]::l.eraseIdx i).Perm l
 | x::l,0,_=>List.Perm.refl _
 | x::l,i + 1,h=>by
   have hi:i < l.length:=by simpa using h
   exact (List.Perm.swap x l[i] _).trans (List.Perm.cons x (zcY l i hi))
noncomputable def kbX2 (b:WB) (K:Env->Prop) (E:WX):Bool->Env->Prop:=fun k U=>if k then b U K E else K U
noncomputable def kbX (c:WT) (b:WB) (K:Env->Prop) (E:WX):Env->Prop:=fun U=>c U (kbX2 b K E) E
noncomputable def x_bX:kbX c b K E U=c U (kbX2 b K E) E:=rfl
noncomputable def zcT:kbX2 b K E true U=b U K E:=rfl
noncomputable def zmj:kbX2 b K E false U=K U:=rfl
theorem zjr {α:Type} {toD:α->D} (I:List α->Env->Prop) (xs:List α)
  (step:∀ (pre:List α) (x:α) (post:List α) (K:Env->Prop) (U:Env),pre++x::post=xs->I pre U->(∀ U',I (pre++[x]) U'->K U')->g (.sh (toD x)) U (kbX c b K E))
  (fin:∀ U,I xs U->Q U) (h0:I [] U):bLoop g c b (xs.map toD) U Q E:=by
 have gen:∀ (post pre:List α) (U:Env),pre++post=xs->I pre U->bLoop g c b (post.map toD) U Q E:=by
  intro post
  induction post with
  | nil=>intro pre U e h; rw [List.append_nil] at e; subst e; exact fin U h
  | cons x post ih=>
    intro pre U e h
    rw [List.map_cons,e_bL]
    exact step pre x post (kbL3 g c b (post.map toD) Q E) U e h fun U' h'=>ih (pre++[x]) U' (by rw [<- e]; simp) h'
 exact gen xs [] U rfl h0
theorem za6 {α:Type} {toD:α->D} (I:List α->Env->Prop) (xs:List α)
  (step:∀ (pre:List α) (x:α) (post:List α) (D2:Ends) (U:Env),pre++x::post=xs->I pre U->(∀ U',I (pre++[x]) U'->D2.nx U')->(∀ U',I (pre++[x]) U'->D2.ct U')->D2.rt=D'.rt->D2.bk=D'.nx->g (.sh (toD x)) U (fun U=>b D2 U))
  (fin:∀ U,I xs U->D'.nx U) (h0:I [] U):wLoop g b (xs.map toD) D' U:=by
 have gen:∀ (post pre:List α) (U:Env),pre++post=xs->I pre U->wLoop g b (post.map toD) D' U:=by
  intro post
  induction post with
  | nil=>intro pre U e h; rw [List.append_nil] at e; subst e; exact fin U h
  | cons x post ih=>
    intro pre U e h
    rw [List.map_cons,e_Lp]
    have k:=fun U' h'=>ih (pre++[x]) U' (by rw [<- e]; simp) h'
    exact step pre x post (lpE g b (post.map toD) D') U e h k k rfl rfl
 exact gen xs [] U rfl h0
theorem zjh {α:Type} {toD:α->D} (I:List α->List S->Env->Prop) (xs:List α)
  (step:∀ (pre:List α) (x:α) (post:List α) (l:List S) (U:Env) (vs:List (Option S)) (K:Env->Prop),pre++x::post=xs->vs.length=k->I pre l U->(∀ l' U1 vs',vs'.length=k->I (pre++[x]) l' U1->K (U1++some (.lst l')::vs'))->g (.sh (toD x)) (U++some (.lst l)::vs) (kbX c b K E))
  (fin:∀ l U vs,vs.length=k->I xs l U->Q (U++some (.lst l)::vs)) (hv:vs.length=k) (h0:I [] [] U):bLoop g c b (xs.map toD) (U++some (.lst [])::vs) Q E:=by
 refine zjr (fun pre U'=>∃ l U1 vs',vs'.length=k/\I pre l U1/\U'=U1++some (.lst l)::vs') xs (fun pre x post K U' e hI hK=>?_) (fun U' hI=>?_) ⟨[],U,vs,hv,h0,rfl⟩
 ·obtain ⟨l,U1,vs',h1,h2,rfl⟩:=hI
  exact step pre x post l U1 vs' K e h1 h2 fun l' U2 vs2 h3 h4=>hK _ ⟨l',U2,vs2,h3,h4,rfl⟩
 ·obtain ⟨l,U1,vs',h1,h2,rfl⟩:=hI
  exact fin l U1 vs' h1 h2
theorem zgk {α:Type} {toD:α->D} (xs:List α) (h:α->Option S)
  (step:∀ x∈xs,∀ (l:List S) (vs:List (Option S)) (K:Env->Prop),vs.length=k->l.length < xs.length->(∀ vs',vs'.length=k->K (U++some (.lst (l++(h x).toList))::vs'))->g (.sh (toD x)) (U++some (.lst l)::vs) (kbX c b K E))
  (fin:∀ vs,vs.length=k->Q (U++some (.lst (xs.filterMap h))::vs)) (hv:vs.length=k):bLoop g c b (xs.map toD) (U++some (.lst [])::vs) Q E:=by
 refine zjh (fun pre l U'=>U'=U/\l=pre.filterMap h) xs (fun pre x post l U' vs K e h1 h2 hK=>?_) (fun l U' vs h1 h2=>?_) hv ⟨rfl,rfl⟩
 ·obtain ⟨rfl,rfl⟩:=h2
  have hl:(pre.filterMap h).length < xs.length:=by
   have:=List.length_filterMap_le h pre
   rw [<- e]; simp only [List.length_append,List.length_cons]; lia
  refine step x (by rw [<- e]; simp) _ vs K h1 hl fun vs' h3=>hK _ _ vs' h3 ⟨rfl,?_⟩
  rw [List.filterMap_append]
  cases q:h x <;> simp [q]
 ·obtain ⟨rfl,rfl⟩:=h2
  exact fin vs h1
theorem len1v {vs:List (Option S)} (h:vs.length=1):∃ a,vs=[a]:=by
 match vs,h with
 | [a],_=>exact ⟨a,rfl⟩
theorem len2v {vs:List (Option S)} (h:vs.length=2):∃ a b,vs=[a,b]:=by
 match vs,h with
 | [a,b],_=>exact ⟨a,b,rfl⟩
theorem len3v {vs:List (Option S)} (h:vs.length=3):∃ a b c,vs=[a,b,c]:=by
 match vs,h with
 | [a,b,c],_=>exact ⟨a,b,c,rfl⟩
section
variable {α:Type}
theorem bl1 (xs:List α) (h:α->Option S)
  (step:∀ x∈xs,∀ (l:List S) (o:Option S) (K:Env->Prop),l.length < xs.length->(∀ o,K (U.take n++[some (.lst (l++(h x).toList)),o]))->qI (n + 1) (.sh (toD x)) (U.take n++[some (.lst l),o]) (kbX c b K E))
  (fin:∀ o,Q (U.take n++[some (.lst (xs.filterMap h)),o])) (e:U=U.take n++[some (.lst []),o0]:=by rfl):bLoop (qI (n + 1)) c b (xs.map toD) U Q E:=by
 rw [e]
 refine zgk (k:=1) xs h (fun x hx l vs K hv hl hK=>?_) (fun vs hv=>?_) rfl
 ·obtain ⟨a,rfl⟩:=len1v hv
  exact step x hx l a K hl fun o=>hK [o] rfl
 ·obtain ⟨a,rfl⟩:=len1v hv
  exact fin a
theorem bl2 (xs:List α) (h:α->Option S)
  (step:∀ x∈xs,∀ (l:List S) (o o':Option S) (K:Env->Prop),l.length < xs.length->(∀ o o',K (U.take n++[some (.lst (l++(h x).toList)),o,o']))->gTup [qI (n + 1),qI (n + 2)] (.sh (toD x)) (U.take n++[some (.lst l),o,o']) (kbX c b K E))
  (fin:∀ o o',Q (U.take n++[some (.lst (xs.filterMap h)),o,o'])) (e:U=U.take n++[some (.lst []),o0,o1]:=by rfl):bLoop (gTup [qI (n + 1),qI (n + 2)]) c b (xs.map toD) U Q E:=by
 rw [e]
 refine zgk (k:=2) xs h (fun x hx l vs K hv hl hK=>?_) (fun vs hv=>?_) rfl
 ·obtain ⟨a,a',rfl⟩:=len2v hv
  exact step x hx l a a' K hl fun o o'=>hK [o,o'] rfl
 ·obtain ⟨a,a',rfl⟩:=len2v hv
  exact fin a a'
theorem bl3 (xs:List α) (h:α->Option S)
  (step:∀ x∈xs,∀ (l:List S) (o o' o'':Option S) (K:Env->Prop),l.length < xs.length->(∀ o o' o'',K (U.take n++[some (.lst (l++(h x).toList)),o,o',o'']))->gTup [qI (n + 1),qI (n + 2),qI (n + 3)] (.sh (toD x)) (U.take n++[some (.lst l),o,o',o'']) (kbX c b K E))
  (fin:∀ o o' o'',Q (U.take n++[some (.lst (xs.filterMap h)),o,o',o''])) (e:U=U.take n++[some (.lst []),o0,o1,o2]:=by rfl):bLoop (gTup [qI (n + 1),qI (n + 2),qI (n + 3)]) c b (xs.map toD) U Q E:=by
 rw [e]
 refine zgk (k:=3) xs h (fun x hx l vs K hv hl hK=>?_) (fun vs hv=>?_) rfl
 ·obtain ⟨a,a',a'',rfl⟩:=len3v hv
  exact step x hx l a a' a'' K hl fun o o' o''=>hK [o,o',o''] rfl
 ·obtain ⟨a,a',a'',rfl⟩:=len3v hv
  exact fin a a' a''
theorem bm1 (xs:List α) (h:α->S)
  (step:∀ x∈xs,∀ (l:List S) (o:Option S) (K:Env->Prop),l.length < xs.length->(∀ o,K (U.take n++[some (.lst (l++[h x])),o]))->qI (n + 1) (.sh (toD x)) (U.take n++[some (.lst l),o]) (kbX c b K E))
  (fin:∀ o,Q (U.take n++[some (.lst (xs.map h)),o])) (e:U=U.take n++[some (.lst []),o0]:=by rfl):bLoop (qI (n + 1)) c b (xs.map toD) U Q E:=
 bl1 xs (fun x=>some (h x)) step (fun o=>by rw [show (xs.filterMap fun x=>some (h x))=xs.map h from List.filterMap_eq_map ▸ rfl]; exact fin o) e
theorem bm2 (xs:List α) (h:α->S)
  (step:∀ x∈xs,∀ (l:List S) (o o':Option S) (K:Env->Prop),l.length < xs.length->(∀ o o',K (U.take n++[some (.lst (l++[h x])),o,o']))->gTup [qI (n + 1),qI (n + 2)] (.sh (toD x)) (U.take n++[some (.lst l),o,o']) (kbX c b K E))
  (fin:∀ o o',Q (U.take n++[some (.lst (xs.map h)),o,o'])) (e:U=U.take n++[some (.lst []),o0,o1]:=by rfl):bLoop (gTup [qI (n + 1),qI (n + 2)]) c b (xs.map toD) U Q E:=
 bl2 xs (fun x=>some (h x)) step (fun o o'=>by rw [show (xs.filterMap fun x=>some (h x))=xs.map h from List.filterMap_eq_map ▸ rfl]; exact fin o o') e
theorem bm3 (xs:List α) (h:α->S)
  (step:∀ x∈xs,∀ (l:List S) (o o' o'':Option S) (K:Env->Prop),l.length < xs.length->(∀ o o' o'',K (U.take n++[some (.lst (l++[h x])),o,o',o'']))->gTup [qI (n + 1),qI (n + 2),qI (n + 3)] (.sh (toD x)) (U.take n++[some (.lst l),o,o',o'']) (kbX c b K E))
  (fin:∀ o o' o'',Q (U.take n++[some (.lst (xs.map h)),o,o',o''])) (e:U=U.take n++[some (.lst []),o0,o1,o2]:=by rfl):bLoop (gTup [qI (n + 1),qI (n + 2),qI (n + 3)]) c b (xs.map toD) U Q E:=
 bl3 xs (fun x=>some (h x)) step (fun o o' o''=>by rw [show (xs.filterMap fun x=>some (h x))=xs.map h from List.filterMap_eq_map ▸ rfl]; exact fin o o' o'') e
end
theorem lpn (I:Nat->Env->Prop) (xs:List D)
  (step:∀ (k:Nat) (x:D),xs[k]?=some x->∀ (D2:Ends) (U:Env),I k U->(∀ U',I (k + 1) U'->D2.nx U')->(∀ U',I (k + 1) U'->D2.ct U')->D2.rt=D'.rt->D2.bk=D'.nx->g (.sh x) U (fun U=>b D2 U))
  (fin:∀ U,I xs.length U->D'.nx U) (h0:I 0 U):wLoop g b xs D' U:=by
 have:=za6 (toD:=fun x:D=>x) (g:=g) (b:=b) (D':=D') (fun pre U=>I pre.length U) xs (fun pre x post D2 U e hI hnx hct hrt hbk=>step pre.length x (by rw [<- e]; simp) D2 U hI (fun U' h=>hnx U' (by simpa using h)) (fun U' h=>hct U' (by simpa using h)) hrt hbk) fin h0
 rwa [List.map_id'] at this
theorem bf {α:Type} {toD:α->D} (xs:List α) (h:α->List S)
  (step:∀ x∈xs,∀ (l:List S) (vs:List (Option S)) (K:Env->Prop),vs.length=k->l.length + (h x).length<=(xs.flatMap h).length->(∀ vs',vs'.length=k->K (U.take n++some (.lst (l++h x))::vs'))->g (.sh (toD x)) (U.take n++some (.lst l)::vs) (kbX c b K E))
  (fin:∀ vs,vs.length=k->Q (U.take n++some (.lst (xs.flatMap h))::vs)) (e:U=U.take n++some (.lst [])::vs:=by rfl) (hv:vs.length=k:=by rfl):bLoop g c b (xs.map toD) U Q E:=by
 rw [e]
 refine zjh (fun pre l U'=>U'=U.take n/\l=pre.flatMap h) xs (fun pre x post l U' vs K e h1 h2 hK=>?_) (fun l U' vs h1 h2=>?_) hv ⟨rfl,rfl⟩
 ·obtain ⟨rfl,rfl⟩:=h2
  have hl:(pre.flatMap h).length + (h x).length<=(xs.flatMap h).length:=by
   rw [<- e,List.flatMap_append,List.flatMap_cons,List.length_append,List.length_append]; lia
  exact step x (by rw [<- e]; simp) _ vs K h1 hl fun vs' h3=>hK _ _ vs' h3 ⟨rfl,by rw [List.flatMap_append]; simp⟩
 ·obtain ⟨rfl,rfl⟩:=h2
  exact fin vs h1
section
variable {α:Type}
theorem bi2 (F:List S->Option S->Option S->Env) (xs:List α) (h:α->Option S)
  (step:∀ x∈xs,∀ (l:List S) (o o':Option S) (K:Env->Prop),l.length + (h x).toList.length<=l0.length + (xs.filterMap h).length->(∀ o o',K (F (l++(h x).toList) o o'))->g (.sh (toD x)) (F l o o') (kbX c b K E))
  (fin:∀ o o',Q (F (l0++xs.filterMap h) o o')):bLoop g c b (xs.map toD) (F l0 o0 o1) Q E:=by
 refine zjr (fun pre U'=>∃ o o',U'=F (l0++pre.filterMap h) o o') xs (fun pre x post K U' e hI hK=>?_) (fun U' hI=>?_) ⟨o0,o1,by simp⟩
 ·obtain ⟨o,o',rfl⟩:=hI
  refine step x (by rw [<- e]; simp) _ o o' K ?_ fun o o'=>hK _ ⟨o,o',?_⟩
  ·rw [<- e,List.filterMap_append,List.length_append,List.length_append]
   cases q:h x <;> simp [q] <;> lia
  ·rw [List.filterMap_append]
   cases q:h x <;> simp [q]
 ·obtain ⟨o,o',rfl⟩:=hI
  exact fin o o'
end
noncomputable def zi5:tupsD ((x::l).map D.int)=none:=rfl
noncomputable def zie:tupsD ((x::l).map D.str)=none:=rfl
theorem ziX:∀ l:List Int,∀ d∈l.map D.int,IsInt d:=fun l d hd=>by
 obtain ⟨x,_,rfl⟩:=List.mem_map.mp hd
 trivial
theorem zfo:∀ l:List (List Nat),∀ d∈l.map D.str,IsStr d:=fun l d hd=>by
 obtain ⟨x,_,rfl⟩:=List.mem_map.mp hd
 trivial
theorem zfq (h64:l.length < 64) (ht:sortT l=none) (hk:(intsD l).isSome\/(strsD l).isSome):bSort3 [.lst l]=some (.lst ((sortD l).map .sh)):=by
 show sort3 _=_
 unfold sort3
 by_cases h2:l.length < 2
 ·rw [qq h2]
  match l,h2 with
  | [],_=>rfl
  | [_],_=>rfl
  | _::_::_,h2=>simp at h2; lia
 ·rw [qr h2,ht]
  show sortS l=_
  unfold sortS
  rw [qq ⟨h64,hk⟩]
theorem zf7 {l:List Int} (h64:l.length < 64):bSort3 [.lst (l.map .int)]=some (.lst ((sortD (l.map .int)).map .sh)):=by
 refine zfq (by simpa using h64) ?_ (.inl (by rw [zbL]; rfl))
 unfold sortT
 cases l with
 | nil=>rfl
 | cons x l=>rw [qr]; rw [zi5]; simp
theorem zfX {l:List (List Nat)} (h64:l.length < 64):bSort3 [.lst (l.map .str)]=some (.lst ((sortD (l.map .str)).map .sh)):=by
 refine zfq (by simpa using h64) ?_ (.inr (by rw [zdX]; rfl))
 unfold sortT
 cases l with
 | nil=>rfl
 | cons x l=>rw [qr]; rw [zie]; simp
theorem zhF {l m:List Int} (h64:l.length < 64) (p:m.Perm l) (hs:m.Pairwise (·<=·)):bSort3 [.lst (l.map .int)]=some (.lst ((m.map .int).map .sh)):=by
 rw [zf7 h64,zbA zgN (ziX l) (p.map _)]
 rw [List.pairwise_map]
 exact hs.imp fun h=>by simpa using h
theorem zmP:([a]:List Nat) < [b]↔a < b:=by simp [List.cons_lt_cons_iff]
theorem zkt (h:A.length < 64):∃ A':List Nat,A'.Perm A/\A'.Pairwise (·<=·)/\bSort3 [.lst (A.map sg)]=some (.lst ((A'.map sg).map .sh)):=by
 have e:A.map sg=(A.map fun c=>[c]).map D.str:=by rw [List.map_map]; rfl
 obtain ⟨A',hp,e2⟩:=zku (zaV (A.map sg))
 refine ⟨A',hp,?_,?_⟩
 ·have hs:=zba zeP (A.map sg) (by rw [e]; exact zfo _)
  rw [e2,List.pairwise_map] at hs
  refine hs.imp fun {a b} h=>?_
  have h':(!decide (([b]:List Nat) < [a]))=true:=by rw [<- zck]; exact h
  grind [zmP]
 ·rw [e,zfX (by simpa using h),<- e,e2]
theorem zgy {l:List Nat} (h:l.Pairwise (·<=·)) (hn:l.Nodup):l.Pairwise (· < ·):=by
 have:=h.and hn
 exact this.imp fun ⟨h1,h2⟩=>by lia
theorem zmU (h:IsStr x):(clash x (.str z) || decide (30 < dep x))=false:=by
 cases x with
 | str i=>rfl
 | _=>exact h.elim
theorem zcC {ns:List (List Nat)}:(if (ns.map D.str).any (fun x=>clash x (.str z) || decide (30 < dep x)) then none else some (open Classical in decide (D.str z∈ns.map D.str)))=some (decide (z∈ns)):=by
 grind [List.mem_map,List.any_eq_true.mp,zmU,zfo]
theorem ziP {ns:List (List Nat)}:cIn (.str z) (.tup (ns.map D.str))=some (decide (z∈ns)):=zcC
theorem zjf {ns:List (List Nat)}:cIn (.str z) (.lst (ns.map D.str))=some (decide (z∈ns)):=zcC
theorem zlI {α β:Type} (p:α->Bool) (f:α->β):∀ l:List α,(l.filterMap fun x=>if p x=true then some (f x) else none)=(l.filter p).map f
 | []=>rfl
 | x::l=>by
   have ih:=zlI p f l
   cases q:p x <;> simp [q,ih]
theorem zdo {α:Type} [DecidableEq α]:∀ (l m:List α),l.Nodup->(∀ x∈l,x∈m)->l.length<=m.length
 | [],m,_,_=>by simp
 | x::l,m,hn,hs=>by
   obtain ⟨h1,h2⟩:=List.nodup_cons.mp hn
   have hx:x∈m:=hs x (by simp)
   have:=zdo l (m.erase x) h2 fun y hy=>by
    refine (List.mem_erase_of_ne ?_).mpr (hs y (by simp [hy]))
    intro z; subst z; exact h1 hy
   rw [List.length_erase_of_mem hx] at this
   have hp:=List.length_pos_of_mem hx
   rw [List.length_cons]
   lia
theorem zd2:∀ l:List (List Nat),deps (l.map D.str)=0
 | []=>rfl
 | z::l=>by
   show max (dep (.str z)) (deps (l.map D.str))=0
   rw [zd2 l]; rfl
theorem ziv:cNe (.lst (l.map D.str)) (.lst [])=some (!decide (l=[])):=by
 unfold cNe cEq
 rw [qr (by
  have:dep (.lst (l.map D.str))=1:=by show deps (l.map D.str) + 1=1; rw [zd2]
  rw [this]
  cases l <;> exact fun z=>Bool.noConfusion (show false=true from z))]
 simp
theorem zdq:∀ l:List D,(∀ d∈l,dep d<=n)->deps l<=n
 | [],_=>Nat.zero_le _
 | d::l,h=>by
   show max (dep d) (deps l)<=n
   have h1:=h d (by simp)
   have h2:=zdq l fun x hx=>h x (by simp [hx])
   lia
theorem zkE (h:deps l<=29):cNe (.lst l) (.lst [])=some (!l.isEmpty):=by
 unfold cNe cEq
 rw [qr (by
  have:dep (.lst l)=deps l + 1:=rfl
  rw [this]
  cases l with
  | nil=>exact fun z=>Bool.noConfusion (show false=true from z)
  | cons x l=>exact fun z=>absurd (qo (show decide (30 < deps (x::l) + 1)=true from z)) (by lia))]
 cases l <;> simp
theorem vcons {α:Type} {l:List α} (h:l.length=n + 1):∃ a r,l=a::r/\r.length=n:=by
 cases l with
 | nil=>cases h
 | cons a r=>exact ⟨a,r,rfl,Nat.succ.inj h⟩
theorem vnil {α:Type} {l:List α} (h:l.length=0):l=[]:=List.length_eq_zero_iff.mp h
theorem vlen1 {α:Type} {l:List α} (h:l.length=1):∃ a,l=[a]:=by
 obtain ⟨a,r,rfl,k⟩:=vcons h
 obtain rfl:=vnil k
 exact ⟨a,rfl⟩
theorem vlen2 {α:Type} {l:List α} (h:l.length=2):∃ a0 a1,l=[a0,a1]:=by
 obtain ⟨a0,r,rfl,k⟩:=vcons h
 obtain ⟨a1,rfl⟩:=vlen1 k
 exact ⟨a0,a1,rfl⟩
theorem vlen3 {α:Type} {l:List α} (h:l.length=3):∃ a0 a1 a2,l=[a0,a1,a2]:=by
 obtain ⟨a0,r,rfl,k⟩:=vcons h
 obtain ⟨a1,a2,rfl⟩:=vlen2 k
 exact ⟨a0,a1,a2,rfl⟩
theorem vlen4 {α:Type} {l:List α} (h:l.length=4):∃ a0 a1 a2 a3,l=[a0,a1,a2,a3]:=by
 obtain ⟨a0,r,rfl,k⟩:=vcons h
 obtain ⟨a1,a2,a3,rfl⟩:=vlen3 k
 exact ⟨a0,a1,a2,a3,rfl⟩
theorem zcR:∀ l m:List Int,cmpDs (l.map D.int) (m.map D.int)=if l < m then .lt else if m < l then .gt else .eq
 | [],[]=>by simp [cmpDs]
 | [],b::m=>by simp [cmpDs]
 | a::l,[]=>by simp [cmpDs]
 | a::l,b::m=>by
   have ih:=zcR l m
   rw [List.map_cons,List.map_cons,cmpDs]
   rw [show cmpD (.int a) (.int b)=if a < b then .lt else if b < a then .gt else .eq from rfl]
   by_cases h1:a < b
   ·rw [qq h1,qq (List.cons_lt_cons_iff.mpr (.inl h1))]
   ·rw [qr h1]
    by_cases h2:b < a
    ·rw [qq h2,qr (by rw [List.cons_lt_cons_iff]; rintro (h | ⟨h,_⟩) <;> lia),qq (List.cons_lt_cons_iff.mpr (.inl h2))]
    ·have e:a=b:=by lia
     subst e
     rw [qr h2]
     show cmpDs (l.map D.int) (m.map D.int)=_
     rw [ih]
     have e1:(a::l < a::m)↔l < m:=by rw [List.cons_lt_cons_iff]; constructor
                                     ·rintro (h | ⟨_,h⟩)
                                      ·lia
                                      ·exact h
                                     ·intro h; exact .inr ⟨rfl,h⟩
     have e2:(a::m < a::l)↔m < l:=by rw [List.cons_lt_cons_iff]; constructor
                                     ·rintro (h | ⟨_,h⟩)
                                      ·lia
                                      ·exact h
                                     ·intro h; exact .inr ⟨rfl,h⟩
     simp only [e1,e2]
theorem zfg (l m:List Int):leD (tI l) (tI m)=!decide (m < l):=by
 show (match cmpDs (l.map D.int) (m.map D.int) with | .gt=>false | _=>true)=_
 rw [zcR]
 by_cases h:m < l
 ·rw [qr (List.lt_asymm h),qq h,qj h]; rfl
 ·rw [qr h,qk h]
  by_cases h2:l < m
  ·rw [qq h2]; rfl
  ·rw [qr h2]; rfl
noncomputable def IsTP (d:D):Prop:=∃ l:List Int,d=tI l
theorem zna:OrdOn IsTP where
 tot:=by
  rintro _ _ ⟨a,rfl⟩ ⟨b,rfl⟩
  grind [zfg,Bool.not_eq_true',List.lt_asymm]
 tr:=by
  rintro _ _ _ ⟨a,rfl⟩ ⟨b,rfl⟩ ⟨c,rfl⟩
  grind [zfg,Bool.not_eq_true',List.le_trans]
 anti:=by
  rintro _ _ ⟨a,rfl⟩ ⟨b,rfl⟩
  grind [zfg,Bool.not_eq_true',List.le_antisymm]
theorem zit {ls ms:List (List Int)} (h64:ls.length < 64) (hne:∀ x∈ls,x≠[]) (p:ms.Perm ls) (hs:ms.Pairwise fun a b=>¬ b < a):bSort3 [.lst (ls.map tI)]=some (.lst ((ms.map tI).map .sh)):=by
 rw [zfG h64 hne,zbA zna (fun d hd=>by obtain ⟨x,_,rfl⟩:=List.mem_map.mp hd; exact ⟨x,rfl⟩) (p.map _)]
 grind [List.pairwise_map,zfg]
noncomputable abbrev Wd:=List Nat
noncomputable def seg (w:Wd) (i j:Nat):Wd:=(w.drop i).take (j - i)
theorem zjc (l:List α) (i j:Nat):cutL l (some (i:Int)) (some (j:Int))=(l.drop i).take (j - i):=by
 unfold cutL sIx
 have h1:¬ (i:Int) < 0:=by lia
 have h2:¬ (j:Int) < 0:=by lia
 simp only [qr h1,qr h2,Int.toNat_natCast]
 by_cases hi:i<=l.length
 ·rw [Nat.min_eq_left hi]
  by_cases hj:j<=l.length
  ·rw [Nat.min_eq_left hj]
  ·rw [Nat.min_eq_right (by lia),List.take_of_length_le (by rw [List.length_drop]; lia),List.take_of_length_le (by rw [List.length_drop]; lia)]
 ·rw [Nat.min_eq_right (a:=i) (by lia),List.drop_of_length_le (i:=l.length) (Nat.le_refl _),List.drop_of_length_le (i:=i) (by lia),List.take_nil,List.take_nil]
theorem zgu (w:Wd) (i j:Nat):cutL w (some (i:Int)) (some (j:Int))=seg w i j:=zjc w i j
theorem zjD (h1:i<=j) (h2:j<=w.length):(seg w i j).length=j - i:=by
 unfold seg; rw [List.length_take,List.length_drop]; lia
noncomputable def tieB (B:List Wd) (w:Wd) (i j:Nat):Bool:=decide (i < j) && (decide (j<=w.length) && decide (seg w i j∈B))
theorem zaI:tieB B w i j=true↔i < j/\j<=w.length/\seg w i j∈B:=by
 unfold tieB; simp [Bool.and_eq_true]
noncomputable def tie (B:List Wd) (w:Wd) (p q:Nat):Bool:=tieB B w p q || tieB B w q p
theorem zdG:tie B w p q=tie B w q p:=by unfold tie; rw [Bool.or_comm]
noncomputable def nb (B:List Wd) (w:Wd) (p:Nat):List Nat:=(List.range (w.length + 1)).filter fun q=>tie B w p q
theorem zb3:q∈nb B w p↔tie B w p q=true:=by
 grind [nb,List.mem_filter,List.mem_range,tie,zaI]
theorem zel:(nb B w p).Pairwise (· < ·):=List.Pairwise.filter _ List.pairwise_lt_range
theorem zgc (h:q∈nb B w p):q<=w.length/\p<=w.length/\p≠q:=by
 grind [zb3,tie,zaI]
noncomputable abbrev Tr:=Nat×Nat×Nat
noncomputable def strI (B:List Wd) (w:Wd) (i:Nat):List Tr:=(List.range (w.length + 1)).filterMap fun j=>if tieB B w i j=true then some (i,j,B.idxOf (seg w i j)) else none
noncomputable def strP (B:List Wd) (w:Wd):List Tr:=(List.range w.length).flatMap (strI B w)
noncomputable def rawI (B:List Wd) (w:Wd) (i:Nat):List Tr:=(List.range B.length).filterMap fun k=>if decide (seg w i (i + ((B[k]?).getD []).length)=(B[k]?).getD [])=true then some (i,i + ((B[k]?).getD []).length,k) else none
theorem zbq:t∈strI B w i↔t.1=i/\tieB B w i t.2.1=true/\t.2.2=B.idxOf (seg w i t.2.1):=by
 unfold strI
 rw [List.mem_filterMap]
 constructor
 ·rintro ⟨j,_,h⟩
  split at h
  ·rename_i hj
   cases h
   exact ⟨rfl,hj,rfl⟩
  ·cases h
 ·rintro ⟨h1,h2,h3⟩
  refine ⟨t.2.1,?_,?_⟩
  ·rw [List.mem_range]; have:=zaI.mp h2; lia
  ·subst h1
   rw [qq h2,<- h3]
theorem zcc:t∈strP B w↔tieB B w t.1 t.2.1=true/\t.2.2=B.idxOf (seg w t.1 t.2.1):=by
 unfold strP
 rw [List.mem_flatMap]
 constructor
 ·grind [zbq]
 ·rintro ⟨h1,h2⟩
  refine ⟨t.1,?_,zbq.mpr ⟨rfl,h1,h2⟩⟩
  rw [List.mem_range]; have:=zaI.mp h1; lia
theorem zby:(strI B w i).Pairwise fun t u=>t.1=u.1/\t.2.1 < u.2.1:=by
 unfold strI
 rw [List.pairwise_filterMap]
 refine List.pairwise_lt_range.imp fun {a b} hab=>?_
 intro x hx y hy
 split at hx
 ·split at hy
  ·cases hx; cases hy
   exact ⟨rfl,hab⟩
  ·cases hy
 ·cases hx
theorem zeV:(strP B w).Pairwise fun t u=>t.1 < u.1\/(t.1=u.1/\t.2.1 < u.2.1):=by
 unfold strP
 rw [List.pairwise_flatMap]
 refine ⟨fun i _=>zby.imp fun h=>.inr h,List.pairwise_lt_range.imp fun {a b} hab=>?_⟩
 intro x hx y hy
 have h1:=(zbq.mp hx).1
 have h2:=(zbq.mp hy).1
 left; lia
theorem zin:t∈rawI B w i↔t.1=i/\∃ o,B[t.2.2]?=some o/\t.2.1=i + o.length/\seg w i (i + o.length)=o:=by
 unfold rawI
 rw [List.mem_filterMap]
 refine ⟨fun ⟨k,hk,e⟩=>?_,fun ⟨h1,o,h2,h3,h4⟩=>⟨t.2.2,List.mem_range.mpr (qh.mp h2).1,?_⟩⟩
 ·rw [qi (List.mem_range.mp hk)] at e
  split at e
  ·cases e
   exact ⟨rfl,_,qi (List.mem_range.mp hk),rfl,qo ‹_›⟩
  ·cases e
 ·rw [h2]
  refine (qq (qj h4)).trans ?_
  show some (i,i + o.length,t.2.2)=some t
  rw [<- h3,<- h1]
theorem zfA (hB:B.Nodup) (hne:∀ x∈B,x≠[]) (hi:i<=w.length):(strI B w i).Perm (rawI B w i):=by
 refine (List.perm_ext_iff_of_nodup ?_ ?_).mpr fun t=>?_
 ·exact zby.imp fun ⟨_,h⟩ e=>by rw [e] at h; lia
 ·unfold rawI
  rw [List.Nodup,List.pairwise_filterMap]
  refine List.nodup_range.imp fun {a b} hab x hx y hy e=>?_
  subst e
  split at hx
  ·split at hy
   ·cases hx
    injection hy with hy
    injection hy with _ hy
    injection hy with _ hy
    exact hab hy.symm
   ·cases hy
  ·cases hx
 ·rw [zbq,zin]
  constructor
  ·rintro ⟨h1,h2,h3⟩
   obtain ⟨a1,a2,a3⟩:=zaI.mp h2
   have hl:=zjD (w:=w) (i:=i) (j:=t.2.1) (by lia) a2
   refine ⟨h1,seg w i t.2.1,?_,by rw [hl]; lia,by rw [hl]; congr 1; lia⟩
   rw [h3]
   rw [qi (List.idxOf_lt_length_of_mem a3),List.getElem_idxOf]
  ·rintro ⟨h1,o,h2,h3,h4⟩
   have hm:o∈B:=List.mem_of_getElem? h2
   have ho:=hne o hm
   have hpos:0 < o.length:=List.length_pos_iff.mpr ho
   have hle:i + o.length<=w.length:=by
    have:=congrArg List.length h4
    unfold seg at this
    rw [List.length_take,List.length_drop] at this
    lia
   refine ⟨h1,zaI.mpr ⟨by lia,by lia,by rw [h3,h4]; exact hm⟩,?_⟩
   rw [h3,h4]
   obtain ⟨hk,e⟩:=qh.mp h2
   rw [<- e]
   exact (hB.idxOf_getElem _ hk).symm
theorem zh4 (hB:B.Nodup) (hne:∀ x∈B,x≠[]) (hi:i<=w.length):(strI B w i).length<=min B.length (w.length - i):=by
 refine Nat.le_min.mpr ⟨?_,?_⟩
 ·rw [(zfA hB hne hi).length_eq]
  unfold rawI
  grind
 ·have h:=zdo ((strI B w i).map (·.2.1)) (List.range' (i + 1) (w.length - i)) ?_ ?_
  ·simpa using h
  ·rw [List.Nodup,List.pairwise_map]
   exact zby.imp fun ⟨_,h⟩=>by lia
  grind [List.mem_map,zaI,zbq,List.mem_range'_1]
theorem zcm {α:Type} {f g:α->Nat}:∀ l:List α,(∀ x∈l,f x<=g x)->(l.map f).sum<=(l.map g).sum
 | [],_=>by simp
 | x::l,h=>by
   have h1:=h x (by simp)
   have h2:=zcm l fun y hy=>h y (by simp [hy])
   simp only [List.map_cons,List.sum_cons]
   lia
theorem zff (hB:B.Nodup) (hne:∀ x∈B,x≠[]) (h6:B.length<=6) (h12:w.length<=12):(strP B w).length < 64:=by
 unfold strP
 rw [List.length_flatMap]
 have h1:=zcm (f:=fun i=>(strI B w i).length) (g:=fun i=>min 6 (w.length - i)) (List.range w.length) fun i hi=>by
  have:=zh4 (w:=w) (i:=i) hB hne (by rw [List.mem_range] at hi; lia)
  lia
 have h2:∀ n,n<=12->((List.range n).map fun i=>min 6 (n - i)).sum < 64:=by decide
 exact Nat.lt_of_le_of_lt h1 (h2 _ h12)
theorem zdO {α β:Type} {f g:α->List β}:∀ l:List α,(∀ x∈l,(f x).Perm (g x))->(l.flatMap f).Perm (l.flatMap g)
 | [],_=>.refl _
 | x::l,h=>by
   rw [List.flatMap_cons,List.flatMap_cons]
   exact (h x (by simp)).append (zdO l fun y hy=>h y (by simp [hy]))
theorem zej (hB:B.Nodup) (hne:∀ x∈B,x≠[]):(strP B w).Perm ((List.range w.length).flatMap (rawI B w)):=
 zdO _ fun i hi=>zfA hB hne (by rw [List.mem_range] at hi; lia)
noncomputable def trI (t:Tr):List Int:=[(t.1:Int),(t.2.1:Int),(t.2.2:Int)]
noncomputable def trD (t:Tr):D:=tI (trI t)
noncomputable def zjv (t:Tr):trD t=.tup [.int t.1,.int t.2.1,.int t.2.2]:=rfl
theorem zhP (hp:(strP B w).Perm l) (h64:l.length < 64):bSort3 [.lst (l.map trD)]=some (.lst (((strP B w).map trD).map .sh)):=by
 have e:∀ l:List Tr,l.map trD=(l.map trI).map tI:=fun l=>by rw [List.map_map]; rfl
 rw [e,e]
 refine zit (by simpa using h64) (fun x hx=>?_) (hp.map _) ?_
 ·obtain ⟨t,_,rfl⟩:=List.mem_map.mp hx
  exact fun z=>nomatch z
 ·rw [List.pairwise_map]
  refine zeV.imp fun {t u} h=>?_
  grind [trI,List.cons_lt_cons_iff]
theorem zdA {α:Type} (f:α->D):∀ (B:List α) (k:Nat),enumF k (B.map f)=(List.range B.length).map fun i=>D.tup [.int ((k + i:Nat):Int),(B[i]?).elim .non f]
 | [],k=>rfl
 | b::B,k=>by
   rw [List.map_cons,enumF,zdA f B (k + 1),List.length_cons,List.range_succ_eq_map,List.map_cons,List.map_map]
   congr 1
   refine List.map_congr_left fun i _=>?_
   show D.tup [.int ((k + 1 + i:Nat):Int),_]=D.tup [.int ((k + (i + 1):Nat):Int),_]
   rw [show k + 1 + i=k + (i + 1) by lia]
   rfl
theorem zhv (B:List Wd):enumF 0 (B.map D.str)=(List.range B.length).map fun (k:Nat)=>D.tup [.int (k:Int),.str ((B[k]?).getD [])]:=by
 rw [zdA]
 first | rfl | assumption | (simp_all; done)
theorem from0 {z:Int} {n:Nat} (h:z=n):fromTo 0 z.toNat=(List.range n).map fun (k:Nat)=>D.int (k:Int):=by
 subst h
 unfold fromTo
 rw [Int.toNat_natCast]
 refine List.map_congr_left fun k _=>?_
 rw [Int.zero_add]
theorem from1 {i z:Int} {a n:Nat} (hi:i=a) (h:z=n):fromTo i (z - i).toNat=(List.range' a (n - a)).map fun (k:Nat)=>D.int (k:Int):=by
 subst hi; subst h
 unfold fromTo
 rw [show ((n:Int) - (a:Int)).toNat=n - a by lia,List.range'_eq_map_range,List.map_map]
 first | rfl | assumption | (simp_all; done)
theorem zdy {α β:Type} {f g:α->Option β}:∀ {l:List α},(∀ x∈l,f x=g x)->l.filterMap f=l.filterMap g
 | [],_=>rfl
 | x::l,h=>by
   rw [List.filterMap_cons,List.filterMap_cons,h x (by simp),zdy fun y hy=>h y (by simp [hy])]
noncomputable def qU (q:Nat):D:=.int (q:Int)
noncomputable def fnd (n:Nat) (f:Nat->List Nat):List S:=(List.range (n + 1)).map fun p=>S.lst ((f p).map fun q=>S.sh (qU q))
theorem zgY (h:i<=n):(fnd n f)[i]?=some (.lst ((f i).map fun q=>S.sh (qU q))):=by
 unfold fnd
 rw [List.getElem?_map,List.getElem?_range (by lia)]
 rfl
noncomputable def addTo (f:Nat->List Nat) (i j:Nat):Nat->List Nat:=fun p=>if p=i then f p++[j] else f p
theorem zhH (h:i<=n):(fnd n f).set i (.lst (((f i).map fun q=>S.sh (qU q))++[.sh (qU j)]))=fnd n (addTo f i j):=by
 apply List.ext_getElem?
 intro k
 rw [List.getElem?_set]
 unfold fnd
 by_cases hk:i=k
 ·subst hk
  rw [qq rfl,qq (by simp; lia),List.getElem?_map,List.getElem?_range (by lia)]
  simp [addTo]
 ·rw [qr hk,List.getElem?_map,List.getElem?_map]
  by_cases h2:k < n + 1
  ·rw [List.getElem?_range h2]
   simp only [Option.map_some,addTo,qr (Ne.symm hk)]
  ·rw [List.getElem?_eq_none (by simp; lia)]
   rfl
noncomputable def Dn (i j p q:Nat):Prop:=p < i\/q < i\/p=i/\q < j\/q=i/\p < j
noncomputable def GoneT (B:List Wd) (w:Wd) (i j:Nat) (f:Nat->List Nat):Prop:=∀ p,(f p).Nodup/\∀ q,q∈f p↔(tie B w p q=true/\Dn i j p q)
theorem DnS:Dn i (j + 1) p q↔Dn i j p q\/p=i/\q=j\/q=i/\p=j:=by
 unfold Dn
 rw [Nat.lt_succ_iff_lt_or_eq,Nat.lt_succ_iff_lt_or_eq]
 constructor
 ·rintro (h | h | ⟨h,k | k⟩ | ⟨h,k | k⟩)
  ·exact .inl (.inl h)
  ·exact .inl (.inr (.inl h))
  ·exact .inl (.inr (.inr (.inl ⟨h,k⟩)))
  ·exact .inr (.inl ⟨h,k⟩)
  ·exact .inl (.inr (.inr (.inr ⟨h,k⟩)))
  ·exact .inr (.inr ⟨h,k⟩)
 ·rintro ((h | h | h | h) | h | h)
  ·exact .inl h
  ·exact .inr (.inl h)
  ·exact .inr (.inr (.inl ⟨h.1,.inl h.2⟩))
  ·exact .inr (.inr (.inr ⟨h.1,.inl h.2⟩))
  ·exact .inr (.inr (.inl ⟨h.1,.inr h.2⟩))
  ·exact .inr (.inr (.inr ⟨h.1,.inr h.2⟩))
theorem zmX (hij:i < j):¬Dn i j i j/\¬Dn i j j i:=by unfold Dn; lia
theorem zhK (hij:i < j):tie B w i j=tieB B w i j:=by
 cases e:tieB B w j i with
 | false=>unfold tie; rw [e,Bool.or_false]
 | true=>exact absurd (zaI.mp e).1 (Nat.lt_asymm hij)
theorem zkA (hij:i < j) (h:GoneT B w i j f) (ht:tieB B w i j=false):GoneT B w i (j + 1) f:=fun p=>⟨(h p).1,fun q=>by
 rw [(h p).2 q,DnS]
 refine and_congr_right fun z=>⟨.inl,fun k=>k.elim id fun k=>?_⟩
 rcases k with ⟨rfl,rfl⟩ | ⟨rfl,rfl⟩
 ·rw [zhK hij,ht] at z; cases z
 ·rw [zdG,zhK hij,ht] at z; cases z⟩
theorem addOne {P Q:Nat->Prop} (h1:l.Nodup) (h2:∀ q,q∈l↔P q) (hn:¬P a) (h:∀ q,P q\/q=a↔Q q):(l++[a]).Nodup/\∀ q,q∈l++[a]↔Q q:=
 ⟨List.nodup_append.mpr ⟨h1,by simp,fun x hx b hb e=>hn ((h2 a).mp (by rw [List.mem_singleton.mp hb] at e; rwa [<- e]))⟩,fun q=>by rw [List.mem_append,List.mem_singleton,h2 q,h q]⟩
theorem zi6 (hij:i < j) (h:GoneT B w i j f) (ht:tieB B w i j=true):GoneT B w i (j + 1) (addTo (addTo f i j) j i):=fun p=>by
 obtain ⟨h1,h2⟩:=h p
 rw [<- zhK hij] at ht
 show (addTo (addTo f i j) j i p).Nodup/\_
 unfold addTo
 by_cases hj:p=j
 ·subst hj
  rw [qq rfl,qr (Nat.ne_of_gt hij)]
  rw [zdG] at ht
  refine addOne h1 h2 (fun k=>(zmX hij).2 k.2) fun q=>?_
  rw [DnS]
  constructor
  ·rintro (⟨a,b⟩ | rfl)
   ·exact ⟨a,.inl b⟩
   ·exact ⟨ht,.inr (.inr ⟨rfl,rfl⟩)⟩
  ·rintro ⟨a,b | ⟨b,_⟩ | ⟨b,_⟩⟩
   ·exact .inl ⟨a,b⟩
   ·exact absurd b (Nat.ne_of_gt hij)
   ·exact .inr b
 ·rw [qr hj]
  by_cases hi:p=i
  ·subst hi
   rw [qq rfl]
   refine addOne h1 h2 (fun k=>(zmX hij).1 k.2) fun q=>?_
   rw [DnS]
   constructor
   ·rintro (⟨a,b⟩ | rfl)
    ·exact ⟨a,.inl b⟩
    ·exact ⟨ht,.inr (.inl ⟨rfl,rfl⟩)⟩
   ·rintro ⟨a,b | ⟨_,b⟩ | ⟨_,b⟩⟩
    ·exact .inl ⟨a,b⟩
    ·exact .inr b
    ·exact absurd b hj
  ·rw [qr hi]
   refine ⟨h1,fun q=>?_⟩
   rw [h2 q,DnS]
   refine and_congr_right fun _=>⟨.inl,fun k=>k.elim id fun k=>?_⟩
   rcases k with ⟨k,_⟩ | ⟨_,k⟩
   ·exact absurd k hi
   ·exact absurd k hj
theorem zir (hw:w.length<=n) (h:GoneT B w i (n + 1) f):GoneT B w (i + 1) (i + 2) f:=fun p=>by
 obtain ⟨h1,h2⟩:=h p
 refine ⟨h1,fun q=>?_⟩
 rw [h2 q]
 refine and_congr_right fun htq=>?_
 obtain ⟨h3,h4,h5⟩:=zgc (zb3.mpr htq)
 have e1:p < n + 1:=Nat.lt_succ_of_le (Nat.le_trans h4 hw)
 have e2:q < n + 1:=Nat.lt_succ_of_le (Nat.le_trans h3 hw)
 refine ⟨fun h=>?_,fun h=>?_⟩
 ·rcases h with h | h | ⟨h,_⟩ | ⟨h,_⟩
  ·exact .inl (Nat.lt_succ_of_lt h)
  ·exact .inr (.inl (Nat.lt_succ_of_lt h))
  ·exact .inl (h ▸ Nat.lt_succ_self _)
  ·exact .inr (.inl (h ▸ Nat.lt_succ_self _))
 ·have hk:p < i + 1\/q < i + 1:=by
   rcases h with h | h | ⟨h,h'⟩ | ⟨h,h'⟩
   ·exact .inl h
   ·exact .inr h
   ·exact .inr (Nat.lt_of_le_of_ne (Nat.le_of_lt_succ h') fun z=>h5 (h.trans z.symm))
   ·exact .inl (Nat.lt_of_le_of_ne (Nat.le_of_lt_succ h') fun z=>h5 (z.trans h.symm))
  rcases hk with h | h
  ·exact (Nat.lt_or_eq_of_le (Nat.le_of_lt_succ h)).elim .inl fun z=>.inr (.inr (.inl ⟨z,e2⟩))
  ·exact (Nat.lt_or_eq_of_le (Nat.le_of_lt_succ h)).elim (fun z=>.inr (.inl z)) fun z=>.inr (.inr (.inr ⟨z,e1⟩))
theorem zfY:GoneT B w 0 1 fun _=>[]:=fun p=>⟨by simp,fun q=>by
 simp only [List.not_mem_nil,false_iff]
 rintro ⟨h,h2⟩
 have:=zgc (zb3.mpr h)
 unfold Dn at h2
 lia⟩
theorem zhs (hi:w.length<=i) (h:GoneT B w i j f):(nb B w p).Perm (f p):=by
 obtain ⟨h1,h2⟩:=h p
 refine (List.perm_ext_iff_of_nodup (zel.imp fun h=>by lia) h1).mpr fun q=>?_
 rw [zb3,h2 q]
 refine ⟨fun ht=>⟨ht,?_⟩,fun ht=>ht.1⟩
 have:=zgc (zb3.mpr ht)
 unfold Dn
 lia
theorem zgE:(nb B w p).length<=w.length + 1:=by
 unfold nb
 exact Nat.le_trans (List.length_filter_le _ _) (by simp)
noncomputable def tiesL (B:List Wd) (w:Wd):List D:=(List.range (w.length + 1)).map fun p=>D.lst ((nb B w p).map qU)
theorem zkh (hp:(nb B w p).Perm l) (hw:w.length<=60):bSort3 [.lst (l.map qU)]=some (.lst (((nb B w p).map qU).map .sh)):=by
 have e:∀ l:List Nat,l.map qU=(l.map fun (q:Nat)=>(q:Int)).map D.int:=fun l=>by rw [List.map_map]; rfl
 rw [e,e]
 refine zhF (by rw [List.length_map,<- hp.length_eq]; have:=zgE (B:=B) (w:=w) (p:=p); lia) (hp.map _) ?_
 rw [List.pairwise_map]
 exact zel.imp fun h=>by lia
theorem zbh (h:pre++i::post=List.range n):pre.length=i/\i < n:=by
 have h1:(List.range n)[pre.length]?=some i:=by rw [<- h]; simp
 obtain ⟨h2,h3⟩:=qh.mp h1
 rw [List.getElem_range] at h3
 rw [List.length_range] at h2
 lia
theorem zf5 (h:pre++i::post=List.range' a n):i=a + pre.length/\pre.length < n:=by
 have h1:(List.range' a n)[pre.length]?=some i:=by rw [<- h]; simp
 obtain ⟨h2,h3⟩:=qh.mp h1
 rw [List.getElem_range'] at h3
 rw [List.length_range'] at h2
 lia
theorem ze7 (h:GoneT B w i j f) (p:Nat):(f p).length<=w.length + 1:=by
 obtain ⟨h1,h2⟩:=h p
 have:=zdo (f p) (nb B w p) h1 fun q hq=>zb3.mpr ((h2 q).mp hq).1
 have:=zgE (B:=B) (w:=w) (p:=p)
 lia
inductive Conn (R:Nat->Nat->Prop):Nat->Nat->Prop
 | refl (p:Nat):Conn R p p
 | step {p q r:Nat}:Conn R p q->R q r->Conn R p r
theorem Conn.trans {R:Nat->Nat->Prop} (h1:Conn R p q) (h2:Conn R q r):Conn R p r:=by
 induction h2 with
 | refl=>exact h1
 | step _ e ih=>exact .step ih e
theorem Conn.one {R:Nat->Nat->Prop} (h:R p q):Conn R p q:=.step (.refl p) h
theorem Conn.symm {R:Nat->Nat->Prop} (hR:∀ p q,R p q->R q p) (h:Conn R p q):Conn R q p:=by
 induction h with
 | refl=>exact .refl _
 | step _ e ih=>exact (Conn.one (hR _ _ e)).trans ih
theorem Conn.mono {R R':Nat->Nat->Prop} (h:∀ p q,R p q->R' p q) (c:Conn R p q):Conn R' p q:=by
 induction c with
 | refl=>exact .refl _
 | step _ e ih=>exact .step ih (h _ _ e)
structure IsLand (R:Nat->Nat->Prop) (L:Nat->Nat):Prop where
 conn:∀ p,Conn R p (L p)
 same:∀ p q,R p q->L p=L q
 le:∀ p,L p<=p
theorem IsLand.eq {R:Nat->Nat->Prop} (h:IsLand R L) (c:Conn R p q):L p=L q:=by
 induction c with
 | refl=>rfl
 | step _ e ih=>exact ih.trans (h.same _ _ e)
theorem IsLand.unique {R:Nat->Nat->Prop} (h:IsLand R L) (k:IsLand R M) (p:Nat):L p=M p:=by
 have h1:L p<=M p:=by rw [h.eq (k.conn p)]; exact h.le _
 have h2:M p<=L p:=by rw [k.eq (h.conn p)]; exact k.le _
 lia
theorem zfM:IsLand (fun _ _=>False) fun p=>p:=⟨fun p=>.refl p,fun _ _ h=>h.elim,fun p=>Nat.le_refl p⟩
noncomputable def glue (L:Nat->Nat) (i j:Nat):Nat->Nat:=fun p=>if L p=max (L i) (L j) then min (L i) (L j) else L p
theorem zh0 {R R':Nat->Nat->Prop} {L:Nat->Nat} {i j:Nat} (hR:∀ p q,R' p q->R' q p) (hsub:∀ p q,R p q->R' p q) (hij:R' i j) (hall:∀ p q,R' p q->R p q\/(p=i/\q=j)\/(p=j/\q=i)) (h:IsLand R L):IsLand R' (glue L i j) where
 conn p:=by
  unfold glue
  split
  ·rename_i e
   have cp:Conn R' p (L p):=(h.conn p).mono hsub
   have ci:Conn R' i (L i):=(h.conn i).mono hsub
   have cj:Conn R' j (L j):=(h.conn j).mono hsub
   have cij:Conn R' (L i) (L j):=(ci.symm hR).trans ((Conn.one hij).trans cj)
   rw [e] at cp
   rcases Nat.le_total (L i) (L j) with hh | hh
   ·rw [Nat.max_eq_right hh] at cp
    rw [Nat.min_eq_left hh]
    exact cp.trans (cij.symm hR)
   ·rw [Nat.max_eq_left hh] at cp
    rw [Nat.min_eq_right hh]
    exact cp.trans cij
  ·exact (h.conn p).mono hsub
 same p q e:=by
  have key:glue L i j i=glue L i j j:=by unfold glue; split <;> split <;> lia
  rcases hall p q e with e | ⟨rfl,rfl⟩ | ⟨rfl,rfl⟩
  ·unfold glue; rw [h.same p q e]
  ·exact key
  ·exact key.symm
 le p:=by
  have:=h.le p
  unfold glue
  split <;> lia
noncomputable def TieR (B:List Wd) (w:Wd) (p q:Nat):Prop:=tie B w p q=true
theorem zgQ (p q:Nat) (h:TieR B w p q):TieR B w q p:=by unfold TieR at *; rw [zdG]; exact h
noncomputable def StrR (pre:List Tr) (p q:Nat):Prop:=∃ t∈pre,(t.1=p/\t.2.1=q)\/(t.1=q/\t.2.1=p)
theorem zgR (p q:Nat) (h:StrR pre p q):StrR pre q p:=by
 obtain ⟨t,ht,h⟩:=h
 exact ⟨t,ht,h.symm⟩
theorem zi0:StrR (strP B w) p q↔TieR B w p q:=by
 unfold StrR TieR tie
 rw [Bool.or_eq_true]
 constructor
 ·grind [zcc]
 ·rintro (h | h)
  ·exact ⟨(p,q,B.idxOf (seg w p q)),zcc.mpr ⟨h,rfl⟩,.inl ⟨rfl,rfl⟩⟩
  ·exact ⟨(q,p,B.idxOf (seg w q p)),zcc.mpr ⟨h,rfl⟩,.inr ⟨rfl,rfl⟩⟩
theorem zhj (h:IsLand (StrR pre) L):IsLand (StrR (pre++[t])) (glue L t.1 t.2.1):=by
 refine zh0 zgR (fun p q ⟨u,hu,e⟩=>⟨u,List.mem_append_left _ hu,e⟩) ⟨t,by simp,.inl ⟨rfl,rfl⟩⟩ (fun p q zq=>?_) h
 obtain ⟨u,hu,e⟩:=zq
 rcases List.mem_append.mp hu with z | z
 ·exact .inl ⟨u,z,e⟩
 ·rw [List.mem_singleton.mp z] at e
  rcases e with ⟨a,b⟩ | ⟨a,b⟩
  ·exact .inr (.inl ⟨a.symm,b.symm⟩)
  ·exact .inr (.inr ⟨b.symm,a.symm⟩)
theorem IsLand.congr {R R':Nat->Nat->Prop} (h:∀ p q,R p q↔R' p q) (k:IsLand R L):IsLand R' L:=
 ⟨fun p=>(k.conn p).mono fun p q e=>(h p q).mp e,fun p q e=>k.same p q ((h p q).mpr e),k.le⟩
noncomputable def landOf:List Tr->(Nat->Nat)->Nat->Nat
 | [],L=>L
 | t::r,L=>landOf r (glue L t.1 t.2.1)
noncomputable def landP (B:List Wd) (w:Wd):Nat->Nat:=landOf (strP B w) fun p=>p
theorem zd6:∀ (post pre:List Tr) (L:Nat->Nat),IsLand (StrR pre) L->IsLand (StrR (pre++post)) (landOf post L)
 | [],pre,L,h=>by rw [List.append_nil]; exact h
 | t::r,pre,L,h=>by
   have:=zd6 r (pre++[t]) _ (zhj (t:=t) h)
   rw [List.append_assoc] at this
   exact this
theorem ze8 (B:List Wd) (w:Wd):IsLand (TieR B w) (landP B w):=by
 have h0:IsLand (StrR []) fun p=>p:=zfM.congr fun p q=>⟨fun h=>h.elim,fun ⟨_,h,_⟩=>nomatch h⟩
 exact (zd6 (strP B w) [] _ h0).congr fun p q=>zi0
theorem zbI:∀ (a b:List Tr) (L:Nat->Nat),landOf (a++b) L=landOf b (landOf a L)
 | [],_,_=>rfl
 | t::a,b,L=>zbI a b _
theorem zcp:∀ l m:List Int,clashs (l.map D.int) (m.map D.int)=false
 | [],_=>by cases ‹List Int› <;> rfl
 | _::_,[]=>rfl
 | a::l,b::m=>by
   show (clash (.int a) (.int b) || clashs (l.map D.int) (m.map D.int))=false
   rw [zcp l m]; rfl
theorem zgg:∀ {l m:List Int},l.map D.int=m.map D.int->l=m
 | [],[],_=>rfl
 | [],_::_,h=>nomatch h
 | _::_,[],h=>nomatch h
 | a::l,b::m,h=>by
   simp only [List.map_cons,List.cons.injEq] at h
   rw [zgg h.2]
   injection h.1 with e
   rw [e]
theorem ziC {l m:List Int}:cEq (.lst (l.map D.int)) (.lst (m.map D.int))=some (decide (l=m)):=by
 unfold cEq
 rw [qr (by
  have:dep (.lst (l.map D.int))=1:=by show deps (l.map D.int) + 1=1; rw [zdK]
  rw [this,show clash (.lst (l.map D.int)) (.lst (m.map D.int))=clashs (l.map D.int) (m.map D.int) from rfl,zcp]
  decide)]
 by_cases h:l=m
 ·subst h; simp
 ·have hz:¬ (D.lst (l.map D.int)=D.lst (m.map D.int)):=fun z=>h (zgg (by injection z))
  simp [h,hz]
theorem zic {l m:List Int}:cNe (.lst (l.map D.int)) (.lst (m.map D.int))=some (!decide (l=m)):=by
 unfold cNe; rw [ziC]; rfl
noncomputable def vecN (n:Nat) (f:Nat->Nat):List D:=(List.range (n + 1)).map fun p=>qU (f p)
noncomputable def vecI (n:Nat) (f:Nat->Nat):List Int:=(List.range (n + 1)).map fun p=>((f p:Nat):Int)
theorem zcS (n:Nat) (f:Nat->Nat):vecN n f=(vecI n f).map D.int:=by unfold vecN vecI; rw [List.map_map]; rfl
theorem za0:(vecN n f).length=n + 1:=by simp [vecN]
theorem zbH (h:p<=n):(vecN n f)[p]?=some (qU (f p)):=by
 unfold vecN; rw [List.getElem?_map,List.getElem?_range (by lia)]; rfl
theorem zcj (h:p<=n):atI (vecN n f) (p:Int)=some (.int ((f p:Nat):Int)):=by
 refine zbM (by lia) ?_
 rw [Int.toNat_natCast]; exact zbH h
theorem zdh (h:p<=n):atI ((vecN n f).map S.sh) (p:Int)=some (.sh (.int ((f p:Nat):Int))):=by
 refine zbM (by lia) ?_
 rw [Int.toNat_natCast,List.getElem?_map,zbH h]; rfl
theorem zeY:vecI n f=vecI n g↔∀ p,p<=n->f p=g p:=by
 unfold vecI
 constructor
 ·intro h p hp
  have:=congrArg (fun l=>l[p]?) h
  simp only [List.getElem?_map,List.getElem?_range (show p < n + 1 by lia),Option.map_some,Option.some.injEq] at this
  lia
 ·intro h
  exact List.map_congr_left fun p hp=>by rw [h p (by have:=List.mem_range.mp hp; lia)]
theorem ziu (h:p<=n):(vecN n f).set p (qU v)=vecN n fun q=>if q=p then v else f q:=by
 refine List.ext_getElem? fun j=>?_
 rw [List.getElem?_set]
 by_cases hj:j < n + 1
 ·by_cases e:p=j
  ·subst e
   rw [qq rfl,qq (by rw [za0]; exact hj),zbH h,qq rfl]
  ·rw [qr e,zbH (by lia),zbH (by lia),qr (by lia)]
 ·have:(vecN n fun q=>if q=p then v else f q)[j]?=none:=List.getElem?_eq_none_iff.mpr (by rw [za0]; lia)
  rw [this]
  have h2:(vecN n f)[j]?=none:=List.getElem?_eq_none_iff.mpr (by rw [za0]; lia)
  rw [h2,qr (by lia)]
theorem minN {a b:Nat}:(if (b:Int) < (a:Int) then (b:Int) else (a:Int))=((min a b:Nat):Int):=by split <;> lia
theorem maxN {a b:Nat}:(if (b:Int) > (a:Int) then (b:Int) else (a:Int))=((max a b:Nat):Int):=by split <;> lia
noncomputable def sumF (n:Nat) (f:Nat->Nat):Nat:=((List.range (n + 1)).map f).sum
theorem zek {α:Type} {f g:α->Nat}:∀ l:List α,(∀ x∈l,f x<=g x)->(l.map g).sum<=(l.map f).sum->∀ x∈l,f x=g x
 | [],_,_=>by simp
 | a::l,h,e=>by
   have h1:=h a (by simp)
   have h2:=zcm l fun x hx=>h x (by simp [hx])
   simp only [List.map_cons,List.sum_cons] at e
   intro x hx
   rcases List.mem_cons.mp hx with rfl | hx
   ·lia
   ·exact zek l (fun y hy=>h y (by simp [hy])) (by lia) x hx
theorem zjY (h:∀ p,g p<=f p) (hne:¬ ∀ p,p<=n->g p=f p):sumF n g < sumF n f:=by
 rcases Nat.lt_or_ge (sumF n g) (sumF n f) with q | q
 ·exact q
 ·exact (hne fun p hp=>zek (List.range (n + 1)) (fun x _=>h x) q p (List.mem_range.mpr (by lia))).elim
structure Swept (R:Nat->Nat->Prop) (n:Nat) (f:Nat->Nat):Prop where
 le:∀ p,f p<=p
 conn:∀ p,Conn R p (f p)
noncomputable def Still (R:Nat->Nat->Prop) (k:Nat) (f:Nat->Nat):Prop:=∀ p,p < k->∀ q,R p q->f p<=f q
theorem zgb {R:Nat->Nat->Prop} (hR:∀ p q,R p q->R q p) (hn:∀ p q,R p q->p<=n/\q<=n) (h:Swept R n f) (hs:Still R (n + 1) f):IsLand R f:=
 ⟨h.conn,fun p q e=>by
  have h1:=hs p (by have:=hn p q e; lia) q e
  have h2:=hs q (by have:=hn p q e; lia) p (hR p q e)
  lia,h.le⟩
theorem zm9 {x:Int} {l:List Int}:∃ m,(x::l).min?=some m/\m∈x::l/\∀ y∈x::l,m<=y:=by
 cases e:(x::l).min? with
 | none=>cases List.min?_eq_none_iff.mp e
 | some m=>exact ⟨m,rfl,List.min?_mem e,fun y hy=>(List.le_min?_iff e).mp (Int.le_refl m) y hy⟩
theorem zhR {R:Nat->Nat->Prop} {l:List Nat} (hl:∀ q,q∈l↔R k q) (hg:Swept R n g) (hle:∀ p,g p<=f0 p) (hst:(∀ p,p<=n->g p=f0 p)->Still R k f0) (hk:k<=n) (hn:∀ p q,R p q->p<=n/\q<=n):
  ∃ v:Nat,((((g k:Nat):Int)::l.map fun q=>((g q:Nat):Int)).min?)=some ((v:Nat):Int)/\Swept R n (fun q=>if q=k then v else g q)/\(∀ p,(if p=k then v else g p)<=f0 p)/\((∀ p,p<=n->(if p=k then v else g p)=f0 p)->Still R (k + 1) f0):=by
 obtain ⟨m,em,hm,hlem⟩:=zm9 (x:=((g k:Nat):Int)) (l:=l.map fun q=>((g q:Nat):Int))
 have hv:∃ q,m=((g q:Nat):Int)/\(q=k\/R k q):=by
  grind
 obtain ⟨q,rfl,hq⟩:=hv
 have hk0:g q<=g k:=by have:=hlem _ (by simp:((g k:Nat):Int)∈_); lia
 refine ⟨g q,em,⟨fun p=>?_,fun p=>?_⟩,fun p=>?_,fun hall=>?_⟩
 ·have:=hg.le p
  grind
 ·by_cases e:p=k
  ·subst e
   simp only [if_true]
   rcases hq with rfl | hq
   ·exact hg.conn _
   ·exact (Conn.one hq).trans (hg.conn q)
  ·simp only [qr e]; exact hg.conn p
 ·grind
 ·have hall':∀ p,p<=n->g p=f0 p:=fun p hp=>by
   grind
  intro p hp r hr
  rcases Nat.lt_or_ge p k with hpk | hpk
  ·exact hst hall' p hpk r hr
  ·obtain rfl:p=k:=by lia
   have h1:=hall p hk
   simp only [if_true] at h1
   have h2:=hlem ((g r:Nat):Int) (List.mem_cons_of_mem _ (List.mem_map.mpr ⟨r,(hl r).mpr hr,rfl⟩))
   have h3:=hall' r (hn p r hr).2
   lia
theorem zeI (p q:Nat) (h:TieR B w p q):p<=w.length/\q<=w.length:=by
 have:=zgc (zb3.mpr h)
 exact ⟨this.2.1,this.1⟩
noncomputable def whE (D':Ends) (m:Nat) (J:Nat->Env->Prop):Ends:={ D' with nx:=fun U2=>∃ m',m' < m/\J m' U2,ct:=fun U2=>∃ m',m' < m/\J m' U2,bk:=D'.nx }
noncomputable def kWh (b:WS) (D':Ends) (m:Nat) (J:Nat->Env->Prop) (k:Bool) (U:Env):Prop:=if k then b (whE D' m J) U else D'.nx U
noncomputable def x_Wt:kWh b D' m J true U=b (whE D' m J) U:=rfl
noncomputable def x_Wf:kWh b D' m J false U=D'.nx U:=rfl
theorem zk8 (hm:m' < m) (h:J m' U):(whE D' m J).nx U:=⟨m',hm,h⟩
theorem zom (J:Nat->Env->Prop) (m:Nat) (h0:J m U) (h:∀ m U,J m U->c U (kWh b D' m J) D'.ex):wWhile c b D' U:=⟨J,⟨m,h0⟩,fun m U hJ=>h m U hJ⟩
theorem zcl:∀ l:List D,(∀ d∈l,okSh d=true)->okShs l=true
 | [],_=>rfl
 | a::l,h=>by
   show (okSh a && okShs l)=true
   rw [h a (by simp),zcl l fun d hd=>h d (by simp [hd])]; rfl
theorem zeR:∀ l:List D,(∀ d∈l,wtD d<=n)->wtDs l<=l.length * (n + 1)
 | [],_=>by simp [wtDs]
 | a::l,h=>by
   show wtD a + 1 + wtDs l<=_
   have h1:=h a (by simp)
   have h2:=zeR l fun d hd=>h d (by simp [hd])
   rw [List.length_cons,Nat.add_mul]
   lia
theorem ziT (h:∀ d∈l,okSh d=true/\dep d<=m/\wtD d<=n) (hm:m<=29) (hl:l.length * (n + 1)<=1000000):okShow (.lst l)=true/\okShow (.tup l)=true:=by
 have h1:=zcl l fun d hd=>(h d hd).1
 have h2:=zdq (n:=m) l fun d hd=>(h d hd).2.1
 have h3:=zeR (n:=n) l fun d hd=>(h d hd).2.2
 grind [okShow,okSh,okShs,dep,deps,wtD,wtDs]
end FL
namespace Law
open FL
noncomputable abbrev zaw:List Nat:=[73,115,70,105,120,101,100]
noncomputable def w_0_c1:WB:=bEmit 2 (wTup (qG (qF 3) (qG (qQ oAdd (qF 3) (wB bLen (qG (qF 5) qH))) (qG (qF 4) qH))))
noncomputable def u_0_c1:=uB w_0_c1.eq_1
noncomputable def w_0_c2:WB:=bFor (wEnum (qF 0)) (gTup [qI 4,qI 5]) (wCmp cEq (wSl (qF 1) (some (qF 3)) (some (qQ oAdd (qF 3) (wB bLen (qG (qF 5) qH))))) (qF 5)) w_0_c1
noncomputable def u_0_c2:=uB w_0_c2.eq_1
noncomputable def w_0:WF:=wFn 2 2 [0,1]
 (wRet (wB bSort3 (qG (wLC 2 3 (wRange1 (wB bLen (qG (qF 1) qH))) (qI 3) wYes w_0_c2) qH)))
noncomputable def w_3_c1:WB:=bEmit 5 (wIfE (wCmp cEq (qF 6) (qF 4)) (qF 3) (qF 6))
noncomputable def u_3_c1:=uB w_3_c1.eq_1
noncomputable def w_3:WF:=wFn 3 5 [0,1,2]
 (qR (qT (gTup [qI 3,qI 4]) (wTup (qG (wB bMin (qG (wIx (qF 0) (qF 1)) (qG (wIx (qF 0) (qF 2)) qH))) (qG (wB bMax (qG (wIx (qF 0) (qF 1)) (qG (wIx (qF 0) (qF 2)) qH))) qH))))
  (wRet (wLC 5 1 (wIter (qF 0)) (qI 6) wYes w_3_c1)))
noncomputable def w_5_b1:WS:=qR (qT (qI 5) (wIfE (wTest (wIx (qF 1) (qF 3))) (wC (.int 1)) (wC (.int 0))))
  (qR (wExpr (wAppend 2 (wTup (qG (qQ oMulA (wC (.int 2)) (qF 3)) (qG (qF 4) (qG (qQ oAdd (qQ oAdd (qQ oMulA (wC (.int 2)) (qF 3)) (wC (.int 2))) (qF 5)) qH))))))
  (wExpr (wAppend 2 (wTup (qG (qQ oAdd (qQ oMulA (wC (.int 2)) (qF 3)) (wC (.int 1))) (qG (qF 4) (qG (qQ oSub (qQ oAdd (qQ oMulA (wC (.int 2)) (qF 3)) (wC (.int 3))) (qF 5)) qH)))))))
noncomputable def u_5_b1:=uS w_5_b1.eq_1
noncomputable def w_5:WF:=wFn 2 6 [0,1]
 (qR (qT (qI 2) (wLst qH))
  (qR (wFor (wEnum (qF 0)) (gTup [qI 3,qI 4]) w_5_b1)
  (wRet (wTup (qG (qQ oAdd (qQ oMulA (wC (.int 2)) (wB bLen (qG (qF 0) qH))) (wC (.int 2))) (qG (wB bTuple (qG (qF 2) qH)) qH))))))
noncomputable def w_6:WF:=wFn 2 4 [0,1]
 (qR (qT (qI 2) (qQ oAdd (qQ oMulA (wC (.int 7919)) (qF 1)) (wC (.int 11))))
  (qR (wIf (wCmp cLt (qF 1) (wB bLen (qG (qF 0) qH))) (qT (qI 2) (wIx (qF 0) (qF 1))) (wIf (wCmp cGt (wB bLen (qG (qF 0) qH)) (wC (.int 0))) (qT (qI 2) (qQ oAdd (qF 2) (qQ oMulA (qQ oMod (wIx (qF 0) (qQ oMod (qF 1) (wB bLen (qG (qF 0) qH)))) (wC (.int 2147483629))) (wC (.int 69623))))) wPass))
  (qR (qT (qI 3) (qQ oAdd (qQ oMod (qQ oAdd (qQ oMulA (qQ oMod (qF 2) (wC (.int 2147483629))) (wC (.int 48271))) (qQ oMulA (wC (.int 40692)) (qF 1))) (wC (.int 2147483629))) (wC (.int 1))))
  (wRet (wLst (qG (wIx (wLst (qG (wC (.int 0)) (qG (qF 2) qH))) (wB bInt (qG (wOfT (wCmp cGe (qF 2) (qQ oPow (wC (.int 10)) (wC (.int 18))))) qH))) (qG (qF 3) qH)))))))
noncomputable def w_7:WF:=wFn 2 4 [0,1]
 (qR (wIf (wCmp cGt (wIx (qF 0) (wC (.int 0))) (wC (.int 0))) (qR (qT (qI 2) (qQ oMod (wIx (qF 0) (wC (.int 0))) (qF 1)))
  (qR (wSetIx 0 (wC (.int 0)) (qQ oFdiv (wIx (qF 0) (wC (.int 0))) (qF 1)))
  (wRet (qF 2)))) wPass)
  (qR (qT (qI 3) (qQ oMod (qQ oMulA (wIx (qF 0) (wC (.int 1))) (wC (.int 69623))) (wC (.int 2147483647))))
  (qR (wSetIx 0 (wC (.int 1)) (qQ oAdd (qQ oMod (qQ oAdd (qQ oMulA (qF 3) (wC (.int 48271))) (wC (.int 30103))) (wC (.int 2147483629))) (wC (.int 1))))
  (wRet (qQ oMod (qQ oFdiv (qQ oAdd (qQ oMulA (qF 3) (wC (.int 2147483647))) (wIx (qF 0) (wC (.int 1)))) (wC (.int 8191))) (qF 1))))))
noncomputable def w_12_b1:WS:=qR (wIf (wtAnd (wCmp cEq (wSl (qF 1) (some (qF 2)) (some (qQ oAdd (qF 2) (wB bLen (qG (qF 5) qH))))) (wSl (qF 5) none (some (qQ oSub (wB bLen (qG (qF 1) qH)) (qF 2))))) (wCmp cLe (qQ oAdd (qF 2) (wB bLen (qG (qF 5) qH))) (qF 3))) (wExpr (wAppend 4 (wTup (qG (qF 5) (qG (qQ oAdd (qF 2) (wB bLen (qG (qF 5) qH))) qH))))) wPass)
  (wIf (wtAnd (wCmp cGe (qF 2) (wB bLen (qG (qF 5) qH))) (wCmp cEq (wSl (qF 1) (some (qQ oSub (qF 2) (wB bLen (qG (qF 5) qH)))) (some (qF 2))) (qF 5))) (wExpr (wAppend 4 (wTup (qG (qF 5) (qG (qQ oSub (qF 2) (wB bLen (qG (qF 5) qH))) qH))))) wPass)
noncomputable def u_12_b1:=uS w_12_b1.eq_1
noncomputable def w_12:WF:=wFn 4 6 [0,1,2,3]
 (qR (qT (qI 4) (wLst qH))
  (qR (wFor (wIter (qF 0)) (qI 5) w_12_b1)
  (wRet (qF 4))))
noncomputable def w_14_c1:WB:=bEmit 5 (wLst qH)
noncomputable def u_14_c1:=uB w_14_c1.eq_1
noncomputable def w_14_b2:WS:=wIf (wCmp cInA (wSl (qF 1) (some (qF 3)) (some (qF 4))) (qF 0)) (qR (wExpr (wAppendAt 2 (qF 3) (qF 4)))
  (wExpr (wAppendAt 2 (qF 4) (qF 3)))) wPass
noncomputable def u_14_b2:=uS w_14_b2.eq_1
noncomputable def w_14_b3:WS:=wFor (wRange2 (qQ oAdd (qF 3) (wC (.int 1))) (qQ oAdd (wB bLen (qG (qF 1) qH)) (wC (.int 1)))) (qI 4) w_14_b2
noncomputable def u_14_b3:=uS w_14_b3.eq_1
noncomputable def w_14_c4:WB:=bEmit 5 (wFrz (wB bSort3 (qG (qF 6) qH)))
noncomputable def u_14_c4:=uB w_14_c4.eq_1
noncomputable def w_14:WF:=wFn 2 5 [0,1]
 (qR (qT (qI 2) (wLC 5 1 (wRange1 (qQ oAdd (wB bLen (qG (qF 1) qH)) (wC (.int 1)))) (qI 6) wYes w_14_c1))
  (qR (wFor (wRange1 (wB bLen (qG (qF 1) qH))) (qI 3) w_14_b3)
  (wRet (wLC 5 1 (wIter (qF 2)) (qI 6) wYes w_14_c4))))
noncomputable def w_15_c1:WB:=bEmit 5 (wIx (qF 1) (qF 6))
noncomputable def u_15_c1:=uB w_15_c1.eq_1
noncomputable def w_15_b2:WS:=wSetIx 1 (qF 3) (wB bMinL (qG (qQ oAdd (wLst (qG (wIx (qF 1) (qF 3)) qH)) (wLC 5 1 (wIter (qF 4)) (qI 6) wYes w_15_c1)) qH))
noncomputable def u_15_b2:=uS w_15_b2.eq_1
noncomputable def w_15_b3:WS:=qR (qT (qI 2) (wFrz (wB bListA (qG (qF 1) qH))))
  (wFor (wEnum (qF 0)) (gTup [qI 3,qI 4]) w_15_b2)
noncomputable def u_15_b3:=uS w_15_b3.eq_1
noncomputable def w_15:WF:=wFn 1 5 [0]
 (qR (qT (qI 1) (wListI (wRange1 (wB bLen (qG (qF 0) qH)))))
  (qR (qT (qI 2) (wFrz (wLst qH)))
  (qR (wWhile (wCmp cNe (qF 2) (qF 1)) w_15_b3)
  (wRet (qF 1)))))
noncomputable def w_2_b1:WS:=qT (qI 2) (wFrz (qS w_3 [true,true,true] (qG (qF 2) (qG (qF 3) (qG (qF 4) qH)))))
noncomputable def u_2_b1:=uS w_2_b1.eq_1
noncomputable def w_2:WF:=wFn 2 5 [0,1]
 (qR (qT (qI 2) (wFrz (wB bListA (qG (qF 0) qH))))
  (qR (wFor (wIter (qF 1)) (gTup [qI 3,qI 4]) w_2_b1)
  (wRet (wB bTuple (qG (qF 2) qH)))))
noncomputable def w_8_c1:WB:=bEmit 3 (wFrz (wPopAt 2 (qS w_7 [true,true] (qG (qF 0) (qG (wB bLen (qG (qF 2) qH)) qH)))))
noncomputable def u_8_c1:=uB w_8_c1.eq_1
noncomputable def w_8:WF:=wFn 2 3 [0,1]
 (qR (qT (qI 2) (wB bListA (qG (wC (.str [97,98,99,100,101,102,103,104,105,106,107,108,109,110,111,112,113,114,115,116,117,118,119,120,121,122])) qH)))
  (wRet (wMS mJoin (wC (.str [])) (qG (wB bSort3 (qG (wLC 3 1 (wRange1 (qF 1)) (qI 4) wYes w_8_c1) qH)) qH))))
noncomputable def w_9_c1:WB:=bEmit 4 (wIx (qF 1) (qS w_7 [true,true] (qG (qF 0) (qG (wB bLen (qG (qF 1) qH)) qH))))
noncomputable def u_9_c1:=uB w_9_c1.eq_1
noncomputable def w_9:WF:=wFn 3 4 [0,1,2]
 (qR (qT (qI 3) (qQ oMulA (qS w_7 [true,true] (qG (qF 0) (qG (qQ oAdd (qF 2) (wC (.int 1))) qH))) (wB bInt (qG (wOfT (wCmp cNe (qF 1) (wC (.str [])))) qH))))
  (wRet (wMS mJoin (wC (.str [])) (qG (wLC 4 1 (wRange1 (qF 3)) (qI 5) wYes w_9_c1) qH))))
noncomputable def w_10:WF:=wFn 3 7 [0,1,2]
 (qR (qT (qI 3) (wIx (qF 2) (qS w_7 [true,true] (qG (qF 0) (qG (wB bLen (qG (qF 2) qH)) qH)))))
  (qR (qT (qI 4) (qS w_7 [true,true] (qG (qF 0) (qG (wC (.int 5)) qH))))
  (qR (qT (qI 5) (wIx (qF 1) (qS w_7 [true,true] (qG (qF 0) (qG (wB bLen (qG (qF 1) qH)) qH)))))
  (qR (qT (qI 6) (qS w_7 [true,true] (qG (qF 0) (qG (wB bLen (qG (qF 3) qH)) qH))))
  (wRet (wIx (wLst (qG (wSl (qF 3) none (some (qQ oAdd (qF 6) (wC (.int 1))))) (qG (wSl (qF 3) (some (qF 6)) none) (qG (qQ oAdd (qF 5) (qF 3)) (qG (qQ oAdd (qF 3) (qF 5)) (qG (qQ oAdd (qF 3) (qF 3)) qH)))))) (qF 4)))))))
noncomputable def w_13_c1:WB:=bEmit 11 (qF 12)
noncomputable def u_13_c1:=uB w_13_c1.eq_1
noncomputable def w_13_b2:WS:=qR (qT (qI 7) (wFrz (qS w_12 [true,true,true,true] (qG (qF 1) (qG (qF 4) (qG (qF 5) (qG (qF 3) qH)))))))
  (qR (wIf (wCmp cGt (qF 6) (wC (.int 4))) (wFz 7 (qT (qI 7) (wLC 11 1 (wIter (qF 7)) (qI 12) (wCmp cGt (wIx (qF 12) (wC (.int 1))) (qF 5)) w_13_c1))) wPass)
  (wIf (wCmp cNe (qF 7) (wLst qH)) (qR (qT (gTup [qI 8,qI 9]) (wIx (qF 7) (qS w_7 [true,true] (qG (qF 0) (qG (wB bLen (qG (qF 7) qH)) qH)))))
  (qR (wIf (wCmp cGt (qF 9) (qF 5)) (qT (qI 4) (qQ oAdd (qQ oAdd (wSl (qF 4) none (some (qF 5))) (qF 8)) (wSl (qF 4) (some (qF 9)) none))) wPass)
  (qT (qI 5) (qF 9)))) wPass))
noncomputable def u_13_b2:=uS w_13_b2.eq_1
noncomputable def w_13:WF:=wFn 4 11 [0,1,2,3]
 (qR (qT (gTup [qI 4,qI 5]) (wTup (qG (wC (.str [])) (qG (wC (.int 0)) qH))))
  (qR (wFor (wRange1 (qQ oAdd (wC (.int 1)) (qS w_7 [true,true] (qG (qF 0) (qG (wC (.int 9)) qH))))) (qI 6) w_13_b2)
  (qR (wIf (wtAnd (wCmp cNe (qF 4) (wC (.str []))) (wCmp cEq (qS w_7 [true,true] (qG (qF 0) (qG (wC (.int 5)) qH))) (wC (.int 0)))) (qR (qT (qI 10) (qS w_7 [true,true] (qG (qF 0) (qG (wB bLen (qG (qF 4) qH)) qH))))
  (qT (qI 4) (qQ oAdd (qQ oAdd (wSl (qF 4) none (some (qF 10))) (wIx (qF 2) (qS w_7 [true,true] (qG (qF 0) (qG (wB bLen (qG (qF 2) qH)) qH))))) (wSl (qF 4) (some (qQ oAdd (qF 10) (wC (.int 1)))) none)))) wPass)
  (wRet (qF 4)))))
noncomputable def w_17_b1:WS:=qR (wExpr (wAppendAt 3 (wC (.int 0)) (wTup (qG (qF 7) (qG (qF 5) (qG (qQ oAdd (qF 7) (wC (.int 2))) qH))))))
  (wExpr (wAppendAt 3 (wC (.int 1)) (wTup (qG (qF 7) (qG (qF 5) (qG (wIx (wLst (qG (qQ oAdd (qF 7) (wC (.int 2))) (qG (qQ oSub (qQ oAdd (qQ oMulA (wC (.int 4)) (qF 4)) (wC (.int 3))) (qF 7)) qH))) (wB bInt (qG (qF 6) qH))) qH))))))
noncomputable def u_17_b1:=uS w_17_b1.eq_1
noncomputable def w_17_b2:WS:=qR (qT (qI 6) (wOfT (wCmp cNe (wOfT (wCmp cEq (wIx (qF 2) (qF 4)) (wC (.int 0)))) (wOfT (wCmp cEq (wIx (qF 2) (qQ oAdd (qF 4) (wC (.int 1)))) (wC (.int 0)))))))
  (wFor (wIter (wTup (qG (qQ oMulA (wC (.int 2)) (qF 4)) (qG (qQ oAdd (qQ oMulA (wC (.int 2)) (qF 4)) (wC (.int 1))) qH)))) (qI 7) w_17_b1)
noncomputable def u_17_b2:=uS w_17_b2.eq_1
noncomputable def w_17_c3:WB:=bEmit 8 (wTup (qG (qQ oAdd (qQ oMulA (wC (.int 2)) (wB bLen (qG (qF 1) qH))) (wC (.int 2))) (qG (wB bTuple (qG (qF 9) qH)) qH)))
noncomputable def u_17_c3:=uB w_17_c3.eq_1
noncomputable def w_17:WF:=wFn 2 8 [0,1]
 (qR (qT (qI 2) (wFrz (qS w_15 [true] (qG (wFrz (qS w_14 [true,true] (qG (qF 0) (qG (qF 1) qH)))) qH))))
  (qR (qT (qI 3) (wLst (qG (wLst qH) (qG (wLst qH) qH))))
  (qR (wFor (wEnum (qF 1)) (gTup [qI 4,qI 5]) w_17_b2)
  (wRet (wB bTuple (qG (wLC 8 1 (wIter (qF 3)) (qI 9) wYes w_17_c3) qH))))))
noncomputable def w_1_c1:WB:=bEmit 2 (wTup (qG (qF 3) (qG (qF 4) qH)))
noncomputable def u_1_c1:=uB w_1_c1.eq_1
noncomputable def w_1:WF:=wFn 2 2 [0,1]
 (wRet (qS w_2 [true,true] (qG (wTupI (wRange1 (qQ oAdd (wB bLen (qG (qF 1) qH)) (wC (.int 1))))) (qG (wFrz (wLC 2 3 (wIter (qS w_0 [true,true] (qG (qF 0) (qG (qF 1) qH)))) (gTup [qI 3,qI 4,qI 5]) wYes w_1_c1)) qH))))
noncomputable def w_11_b1:WS:=qR (qT (qI 6) (qQ oAdd (wIx (qF 1) (qS w_7 [true,true] (qG (qF 0) (qG (wB bLen (qG (qF 1) qH)) qH)))) (qS w_9 [true,true,true] (qG (qF 0) (qG (qF 1) (qG (qQ oSub (qF 3) (wC (.int 1))) qH))))))
  (qR (wIf (wtAnd (wCmp cNe (qF 4) (wLst qH)) (wCmp cEq (qS w_7 [true,true] (qG (qF 0) (qG (wC (.int 2)) qH))) (wC (.int 0)))) (qT (qI 6) (wSl (qS w_10 [true,true,true] (qG (qF 0) (qG (qF 1) (qG (qF 4) qH)))) none (some (qF 3)))) wPass)
  (wIf (wCmp cNotInA (qF 6) (qF 4)) (wExpr (wAppend 4 (qF 6))) wPass))
noncomputable def u_11_b1:=uS w_11_b1.eq_1
noncomputable def w_11:WF:=wFn 4 7 [0,1,2,3]
 (qR (qT (qI 4) (wLst qH))
  (qR (wFor (wRange1 (qQ oMulA (qS w_7 [true,true] (qG (qF 0) (qG (qQ oAdd (qF 2) (wC (.int 1))) qH))) (wB bInt (qG (wOfT (wCmp cNe (qF 1) (wC (.str [])))) qH)))) (qI 5) w_11_b1)
  (wRet (wB bTuple (qG (qF 4) qH)))))
noncomputable def w_16:WF:=wFn 4 6 [0,1,2,3]
 (qR (qT (qI 4) (qS w_7 [true,true] (qG (qF 0) (qG (wC (.int 4)) qH))))
  (qR (wIf (wCmp cEq (qF 4) (wC (.int 0))) (wRet (qS w_9 [true,true,true] (qG (qF 0) (qG (qF 2) (qG (qF 3) qH))))) wPass)
  (qR (qT (qI 5) (wFrz (qS w_13 [true,true,true,true] (qG (qF 0) (qG (qF 1) (qG (qF 2) (qG (qF 3) qH)))))))
  (qR (wIf (wCmp cEq (qF 4) (wC (.int 1))) (qT (qI 5) (wSl (qQ oAdd (qF 5) (qS w_9 [true,true,true] (qG (qF 0) (qG (qF 2) (qG (qF 3) qH))))) none (some (qF 3)))) wPass)
  (wRet (qF 5))))))
noncomputable def w_4_c1:WB:=bEmit 5 (wC (.bl false))
noncomputable def u_4_c1:=uB w_4_c1.eq_1
noncomputable def w_4_c2:WB:=bEmit 5 (wOfT (wCmp cNe (wOfT (wCmp cEq (qF 6) (wC (.int 0)))) (wOfT (wCmp cEq (qF 7) (wC (.int 0))))))
noncomputable def u_4_c2:=uB w_4_c2.eq_1
noncomputable def w_4:WF:=wFn 2 5 [0,1]
 (qR (qT (qI 2) (wFrz (qS w_1 [true,true] (qG (qF 0) (qG (qF 1) qH)))))
  (qR (wIf (wCmp cEq (wIx (qF 2) (wUn oNeg (wC (.int 1)))) (wC (.int 0))) (wRaise zaw) wPass)
  (qR (wFz 3 (qT (qI 3) (wLC 5 1 (wIter (qF 1)) (qI 6) wYes w_4_c1)))
  (qR (wFz 4 (qT (qI 4) (wLC 5 2 (wZip (qF 2) (wSl (qF 2) (some (wC (.int 1))) none)) (gTup [qI 6,qI 7]) wYes w_4_c2)))
  (wRet (wTup (qG (qS w_5 [true,true] (qG (qF 1) (qG (qF 3) qH))) (qG (qS w_5 [true,true] (qG (qF 1) (qG (qF 4) qH))) qH))))))))
noncomputable def w_18:WF:=wFn 2 4 [0,1]
 (qR (qT (qI 2) (wC .non))
  (qR (wTryAs [zaw] 3 (wRet (qS w_4 [true,true] (qG (qF 0) (qG (qF 1) qH)))) (qT (qI 2) (qF 3)))
  (qR (wIf (wtOr (wTest (wIsX [zaw] [] (qF 2))) (wtNot (wTest (wIsX [zaw] [zaw] (qF 2))))) (wRet (wC (.str [111,116,104,101,114]))) wPass)
  (wRet (wIx (wLst (qG (wC (.str [111,116,104,101,114])) (qG (wC (.str [102,105,120,101,100])) qH))) (wB bInt (qG (wIsX [zaw] [zaw] (qF 2)) qH)))))))
noncomputable def w_19_b1:WS:=qR (qT (qI 8) (wC (.str [102,105,120,101,100])))
  (qR (wIf (wCmp cGt (wIx (qS w_15 [true] (qG (wFrz (qS w_14 [true,true] (qG (qF 7) (qG (qF 6) qH)))) qH)) (wUn oNeg (wC (.int 1)))) (wC (.int 0))) (qT (qI 8) (wFrz (qS w_17 [true,true] (qG (qF 7) (qG (qF 6) qH))))) wPass)
  (wExpr (wAppend 1 (wTup (qG (qF 7) (qG (qF 6) (qG (qF 8) qH)))))))
noncomputable def u_19_b1:=uS w_19_b1.eq_1
noncomputable def w_19_b2:WS:=wIf (wReprEq false (qS w_18 [true,true] (qG (qF 9) (qG (qF 10) qH))) (qF 11)) (wRet (wC (.bl false))) wPass
noncomputable def u_19_b2:=uS w_19_b2.eq_1
noncomputable def w_19_b3:WS:=qR (qT (qI 2) (qS w_6 [true,true] (qG (qF 0) (qG (qF 4) qH))))
  (qR (qT (qI 5) (wFrz (qS w_11 [true,true,true,true] (qG (qF 2) (qG (qF 3) (qG (wC (.int 6)) (qG (wC (.int 6)) qH)))))))
  (qR (qT (qI 6) (wFrz (qS w_16 [true,true,true,true] (qG (qF 2) (qG (qF 5) (qG (qF 3) (qG (wC (.int 12)) qH)))))))
  (qR (wFor (wIter (wTup (qG (qF 5) (qG (wSl (qF 5) (some (wC (.int 1))) none) qH)))) (qI 7) w_19_b1)
  (wFor (wIter (qQ oAdd (wSl (qF 1) (some (wUn oNeg (wC (.int 3)))) none) (wSl (qF 1) none (some (wC (.int 1)))))) (gTup [qI 9,qI 10,qI 11]) w_19_b2))))
noncomputable def u_19_b3:=uS w_19_b3.eq_1
noncomputable def w_19:WF:=wFn 1 12 [0]
 (qR (qT (qI 1) (wLst qH))
  (qR (qT (qI 2) (qS w_6 [true,true] (qG (qF 0) (qG (wC (.int 0)) qH))))
  (qR (qT (qI 3) (qS w_8 [true,true] (qG (qF 2) (qG (qQ oAdd (wC (.int 1)) (qS w_7 [true,true] (qG (qF 2) (qG (wC (.int 4)) qH)))) qH))))
  (qR (wFor (wRange2 (wC (.int 1)) (wB bMax (qG (wC (.int 3)) (qG (wB bMin (qG (wC (.int 7)) (qG (wB bLen (qG (qF 0) qH)) qH))) qH)))) (qI 4) w_19_b3)
  (wRet (wAndV (wOfT (wCmp cEq (qS w_18 [true,true] (qG (wTup qH) (qG (wC (.str [])) qH))) (wC (.str [102,105,120,101,100])))) (wOfT (wCmp cEq (qS w_18 [true,true] (qG (wTup (qG (wC (.str [97,97])) qH)) (qG (wC (.str [])) qH))) (wC (.str [102,105,120,101,100]))))))))))
end Law
end
namespace Law
open FL
variable {P:S->List S->Prop} {PX:D->List S->Prop}
set_option hygiene false in
local macro_rules
 | `(tactic| simp! [$xs,*] $[$l:location]?)=>do
   let ls <- ("e_C e_V zpb zlo zly e_Un zn1 zoh e_Ck zo1 zm4 zk7 zlO zjI zjC zpE zlU zlK e_Or zoC znT zmA zoI zl9 zny zld zmM zlq zjL zj1 znX zmL zj5 zj9 zpt e_gA zpY znR e_gv e_gl zp0 zpd zlr zlW znM zml zmN e_l0 e_l1 e_l2 e_l3 e_l5 e_vv e_vl e_cv e_cl zmC e_sh zao zpc e_Ix zpk zoS zm6 zkQ znP znZ znU znu zpw zpL zpq zoi zn6 zpU zn2 e_p0 e_pv e_pl zpH e_pA e_b0 e_bv e_bl zm5 zkx zjM zlv znl e_vA zoK e_B e_B1 e_B2 e_MS zoN zpy e_Ap zod zoU zoX zpC znW zmI zl0 znG e_Pt zpZ zoT e_Sl zpQ zpu zn3 zpz e_nx e_rt e_ex zmg znL e_If zoV zpg znw zlS zjV zoF zlz zlZ e_gN e_gT znp zoy zn0 znN zpI zmQ zkW zmf zlM zkL zkB e_It zpW zor znq znk zo5 zoG e_En zpi znm znz e_Zi znx znv zn7 zpv zpV e_R1 zpa zoJ e_R2 zoW zos zo3 zpx zk1 zoE zo4 zph znA e_LC zoY zoq zlj znY zkV zow e_Em znF zoB zo9 e_bF zpT znh zoP e_Rt znE zn4 e_Fn e_f0 e_fs e_fl e_fA zoe zma zmB zop zlk zns zls zoa zng e_lt e_gt e_le e_ge zpR zmh zpS zla zoz zpX zkU zlb zkN zli zk9 zmF zm2 zon znn zoL zn9 zpJ zog zoR zoD znI zpl znj zpe zob zo6 znV zol zpn znO zpG zpP zpm znQ znH zpo zot zoc zoM zpK zpj zoQ znf zni zpF zpB znJ zoO zpN znS zk4 zlm zmb zk2 zmV zlF zlG zlu zm0 zk6 zmm zlT zmK zoH zmE e_AA zoo zou znD zpp zov zox zmT zlC zpO zmi zmd e_LI zo2 e_TI zoA e_Re zo7 zps znC zn8 zm3 zpA zkM zmx zkd zj0 zkp zok zmp zmW Option.map_some S.toD_sh S.toD_lst List.map_cons List.map_nil List.cons_append List.nil_append List.replicate_succ List.replicate_zero Nat.reduceSub Nat.reduceAdd List.append_nil List.take_succ_cons List.take_zero true_and S.toDs_map S.toD_dct Int.reduceEq Int.reduceLT Int.reduceLE decide_true decide_false Bool.not_true Bool.not_false".splitOn " ").toArray.mapM fun n=>`(Lean.Parser.Tactic.simpLemma| $(Lean.mkIdent n.toName):ident)
   let ls:=ls++xs.getElems
   `(tactic| simp -implicitDefEqProofs (disch:=first | omega | decide | rfl | (simp only [List.length_map,List.length_append,List.length_cons,List.length_nil,List.length_range,zai]; omega) | (simp only [List.length_map,List.length_append,List.length_cons,List.length_nil,List.length_range,zai]; done)) only [$ls,*] $[$l:location]?)
noncomputable section pu
noncomputable def box (a s:Int):S:=.lst [.sh (.int a),.sh (.int s)]
theorem zan {a s m:Int} (ha:0<=a) (hs:1<=s) (hs2:s<=2147483629) (hm:0 < m) (hm2:m < 18446744073709551616)
  (h:∀ r a' s',0<=r->r < m->0<=a'->1<=s'->s'<=2147483629->P (.sh (.int r)) [box a' s',.sh (.int m)]):w_7 [box a s,.sh (.int m)] P PX:=by
 refine zaY rfl rfl ?_
 simp! [box]
 cases hc:decide (0 < a)
 ·simp! [e_C]
  exact h _ _ _ (Int.emod_nonneg _ (by lia)) (Int.emod_lt_of_pos _ hm) ha (by lia) (by lia)
 ·simp! [e_C]
  exact h _ _ _ (Int.emod_nonneg _ (by lia)) (Int.emod_lt_of_pos _ hm) (Int.ediv_nonneg ha (by lia)) hs hs2
theorem zfc {ns:List Int} {k:Int} (hk:0<=k)
  (h:∀ a s,0<=a->1<=s->s<=2147483629->P (box a s) [.sh (.lst (ns.map .int)),.sh (.int k)]):w_6 [.sh (.lst (ns.map .int)),.sh (.int k)] P PX:=by
 refine zaY rfl rfl ?_
 simp! [List.length_map]
 by_cases h1:k < ns.length
 ·obtain ⟨v,hv,_,e⟩:=zdw (f:=D.int) hk h1
  simp! [List.length_map,h1,decide_true,e]
  cases hc:decide ((10:Int) ^ (18:Int).toNat<=v)
  ·simp! [if_true,Bool.false_eq_true,if_false]
   exact h _ _ (by decide) (by lia) (by lia)
  ·simp! [if_true]
   have:(0:Int)<=v:=by
    have:=qo hc
    have e:(10:Int) ^ (18:Int).toNat=1000000000000000000:=by decide
    lia
   exact h _ _ this (by lia) (by lia)
 ·by_cases h2:0 < ns.length
  ·have hp:(0:Int) < ns.length:=by lia
   obtain ⟨v,hv,_,e⟩:=zdw (f:=D.int) (l:=ns) (z:=k % ns.length) (Int.emod_nonneg _ (by lia)) (Int.emod_lt_of_pos _ hp)
   simp! [List.length_map,h1,hp,decide_true,decide_false,e]
   generalize 7919 * k + 11 + v % 2147483629 * 69623=cell
   cases hc:decide ((10:Int) ^ (18:Int).toNat<=cell)
   ·simp! [if_true,Bool.false_eq_true,if_false]
    exact h _ _ (by decide) (by lia) (by lia)
   ·simp! [if_true]
    have:(0:Int)<=cell:=by
     have:=qo hc
     have e:(10:Int) ^ (18:Int).toNat=1000000000000000000:=by decide
     lia
    exact h _ _ this (by lia) (by lia)
  ·have hp:¬ (0:Int) < ns.length:=by lia
   simp! [List.length_map,h1,hp,decide_true,decide_false]
   generalize 7919 * k + 11=cell
   cases hc:decide ((10:Int) ^ (18:Int).toNat<=cell)
   ·simp! [if_true,Bool.false_eq_true,if_false]
    exact h _ _ (by decide) (by lia) (by lia)
   ·simp! [if_true]
    have:(0:Int)<=cell:=by
     have:=qo hc
     have e:(10:Int) ^ (18:Int).toNat=1000000000000000000:=by decide
     lia
    exact h _ _ this (by lia) (by lia)
noncomputable def letters:List Nat:=[97,98,99,100,101,102,103,104,105,106,107,108,109,110,111,112,113,114,115,116,117,118,119,120,121,122]
theorem ziG {Q:Env->Prop} {E:WX} {m:Int}:∀ (xs:List D) (a s:Int) (L A:List Nat) (o:Option S),xs.length<=L.length->0<=a->1<=s->s<=2147483629->(A++L).Perm letters->
  (∀ a' s' (L' A':List Nat) o',0<=a'->1<=s'->s'<=2147483629->A'.length=A.length + xs.length->(A'++L').Perm letters->Q [some (box a' s'),some (.sh (.int m)),some (.lst ((L'.map sg).map .sh)),some (.lst ((A'.map sg).map .sh)),o'])->
  bLoop (qI 4) wYes w_8_c1 xs [some (box a s),some (.sh (.int m)),some (.lst ((L.map sg).map .sh)),some (.lst ((A.map sg).map .sh)),o] Q E:=by
 intro xs
 induction xs with
 | nil=>
   intro a s L A o h1 ha hs hs2 hnd h
   exact h a s L A o ha hs hs2 (by simp) hnd
 | cons x xs ih=>
   intro a s L A o h1 ha hs hs2 hnd h
   have q9:=hnd.length_eq
   have h26:letters.length=26:=rfl
   simp only [List.length_cons,List.length_append] at h1 h q9
   rw [e_bL]
   simp! [u_8_c1,e_sh,zao,box,List.length_map]
   refine zan ha hs hs2 ?_ ?_ fun r a' s' hr hr2 ha' hs' hs2'=>?_
   ·lia
   ·lia
   simp! [e_sh,zao,box,List.length_map]
   obtain ⟨c,hc,hg,_⟩:=zdY (l:=L) hr hr2
   refine zle hr (by simp only [List.length_map,zai]; lia) (zfH (d:=sg c) (by rw [List.getElem?_map,hg]; rfl)) ?_
   simp! [e_sh,zao,box,List.length_map]
   refine ⟨by simp only [zai]; lia,?_⟩
   have e1:((L.map sg).map S.sh).eraseIdx r.toNat=((L.eraseIdx r.toNat).map sg).map S.sh:=by rw [zcx,zcx]
   have e2:((A.map sg).map S.sh)++[S.sh (sg c)]=(((A++[c]).map sg).map S.sh):=by simp
   rw [e1,e2]
   have hlt:r.toNat < L.length:=by lia
   have hl:(L.eraseIdx r.toNat).length=L.length - 1:=List.length_eraseIdx_of_lt hlt
   have hgc:L[r.toNat]=c:=by rw [qi hlt] at hg; exact qg hg
   have hperm:(A++[c]++L.eraseIdx r.toNat).Perm (A++L):=by
    rw [List.append_assoc]
    refine List.Perm.append_left A ?_
    have:=zcY L r.toNat hlt
    rw [hgc] at this
    exact this
   refine ih a' s' _ _ _ (by lia) ha' hs' hs2' (hperm.trans hnd) fun a2 s2 L' A' o' x1 x2 x3 x4 x5=>h a2 s2 L' A' o' x1 x2 x3 (by rw [x4]; simp only [List.length_append,List.length_singleton]; lia) x5
theorem zd5 {a s m:Int} (ha:0<=a) (hs:1<=s) (hs2:s<=2147483629) (hm:0<=m) (hm2:m<=26)
  (h:∀ (l:List Nat) a' s',l.length=m.toNat->l.Pairwise (· < ·)->(∀ c∈l,97<=c/\c<=122)->0<=a'->1<=s'->s'<=2147483629->P (.sh (.str l)) [box a' s',.sh (.int m)]):w_8 [box a s,.sh (.int m)] P PX:=by
 refine zaY rfl rfl ?_
 simp! [box,e_sh,zao]
 refine ⟨by simp only [zai]; lia,?_⟩
 have hf:(fromTo 0 m.toNat).length=m.toNat:=zbt
 have h26:letters.length=26:=rfl
 refine ziG (fromTo 0 m.toNat) a s letters [] none (by rw [hf,h26]; lia) ha hs hs2 (List.Perm.refl _)
  fun a' s' L' A' o' ha' hs' hs2' hA hpm=>?_
 rw [hf,List.length_nil,Nat.zero_add] at hA
 have hnd:A'.Nodup:=(List.nodup_append.mp (hpm.nodup_iff.mpr (by decide))).1
 have hle:∀ c∈A',97<=c/\c<=122:=fun c hc=>by
  have:c∈letters:=hpm.mem_iff.mp (List.mem_append_left _ hc)
  have hall:∀ c∈letters,97<=c/\c<=122:=by decide
  exact hall c this
 obtain ⟨A2,hp,hso,e⟩:=zkt (A:=A') (by lia)
 have hl:A2.length=m.toNat:=hp.length_eq.trans hA
 simp! [box,e_sh,zao,e,zhQ (show A2.length<=big by simp only [zai]; lia)]
 exact h A2 a' s' hl (zgy hso (hp.nodup_iff.mpr hnd)) (fun c hc=>hle c (hp.mem_iff.mp hc)) ha' hs' hs2'
theorem zhn {Q:Env->Prop} {E:WX} {m many:Int} {col:List Nat} (hc:0 < col.length) (hc2:col.length<=26):∀ (xs:List D) (a s:Int) (A:List Nat) (o:Option S),0<=a->1<=s->s<=2147483629->A.length + xs.length<=1000->
  (∀ a' s' (A':List Nat) o',0<=a'->1<=s'->s'<=2147483629->A'.length=A.length + xs.length->(∀ z∈A',z∈A\/z∈col)->Q [some (box a' s'),some (.sh (.str col)),some (.sh (.int m)),some (.sh (.int many)),some (.lst ((A'.map sg).map .sh)),o'])->
  bLoop (qI 5) wYes w_9_c1 xs [some (box a s),some (.sh (.str col)),some (.sh (.int m)),some (.sh (.int many)),some (.lst ((A.map sg).map .sh)),o] Q E:=by
 intro xs
 induction xs with
 | nil=>
   intro a s A o ha hs hs2 h3 h
   exact h a s A o ha hs hs2 (by simp) fun z hz=>.inl hz
 | cons x xs ih=>
   intro a s A o ha hs hs2 h3 h
   simp only [List.length_cons] at h3 h
   rw [e_bL]
   simp! [u_9_c1,e_sh,zao,box,List.length_map]
   refine zan ha hs hs2 (by lia) (by lia) fun r a' s' hr hr2 ha' hs' hs2'=>?_
   obtain ⟨c,hcm,_,e⟩:=zdY (l:=col) hr hr2
   simp! [e,e_sh,zao,box,List.length_map]
   refine ⟨by simp only [zai]; lia,?_⟩
   have e2:((A.map sg).map S.sh)++[S.sh (.str [c])]=(((A++[c]).map sg).map S.sh):=by simp [sg]
   rw [e2]
   refine ih a' s' _ _ ha' hs' hs2' (by simp only [List.length_append,List.length_singleton]; lia) fun a2 s2 A' o' x1 x2 x3 x4 x5=>h a2 s2 A' o' x1 x2 x3 (by rw [x4]; simp only [List.length_append,List.length_singleton]; lia) fun z hz=>?_
   rcases x5 z hz with q | q
   ·rcases List.mem_append.mp q with q | q
    ·exact .inl q
    ·rw [List.mem_singleton.mp q]; exact .inr hcm
   ·exact .inr q
theorem zcw {a s m:Int} {col:List Nat} (ha:0<=a) (hs:1<=s) (hs2:s<=2147483629) (hm:0<=m) (hm2:m<=900) (hc:0 < col.length) (hc2:col.length<=26)
  (h:∀ (l:List Nat) a' s',l.length<=m.toNat->(∀ z∈l,z∈col)->0<=a'->1<=s'->s'<=2147483629->P (.sh (.str l)) [box a' s',.sh (.str col),.sh (.int m)]):w_9 [box a s,.sh (.str col),.sh (.int m)] P PX:=by
 refine zaY rfl rfl ?_
 simp! [box,e_sh,zao]
 refine zan ha hs hs2 (by lia) (by lia) fun r a1 s1 hr hr2 ha1 hs1 hs21=>?_
 have hne:(decide (col=[]))=false:=by simp; intro z; rw [z] at hc; simp at hc
 simp! [box,e_sh,zao,hne,Bool.not_false,if_true,Int.mul_one]
 refine ⟨by simp only [zai]; lia,?_⟩
 have hf:(fromTo 0 r.toNat).length=r.toNat:=zbt
 refine zhn (A:=[]) hc hc2 _ a1 s1 none ha1 hs1 hs21 (by rw [hf]; simp only [List.length_nil]; lia) fun a' s' A' o' ha' hs' hs2' hA hg=>?_
 rw [hf,List.length_nil,Nat.zero_add] at hA
 simp! [box,e_sh,zao]
 rw [zhQ (by simp only [zai]; lia)]
 simp! [box,e_sh,zao]
 exact h A' a' s' (by lia) (fun z hz=>(hg z hz).resolve_left (by simp)) ha' hs' hs2'
theorem zh1 {a s:Int} {col:List Nat} {B:List Wd} (ha:0<=a) (hs:1<=s) (hs2:s<=2147483629) (hc:0 < col.length) (hc2:col.length<=26) (hB:0 < B.length) (hB2:B.length<=1000) (hw:∀ w∈B,w≠[]/\w.length<=1000/\∀ c∈w,c∈col)
  (h:∀ (w:Wd) a' s',w≠[]->w.length<=2000->(∀ c∈w,c∈col)->0<=a'->1<=s'->s'<=2147483629->P (.sh (.str w)) [box a' s',.sh (.str col),.lst ((B.map D.str).map .sh)]):w_10 [box a s,.sh (.str col),.lst ((B.map D.str).map .sh)] P PX:=by
 refine zaY rfl rfl ?_
 simp! [box,e_sh,zao,List.length_map]
 refine zan ha hs hs2 (by lia) (by lia) fun r a1 s1 hr hr2 ha1 hs1 hs21=>?_
 obtain ⟨w,hwm,_,e⟩:=zdw (f:=fun z=>S.sh (D.str z)) (l:=B) hr hr2
 have e':atI ((B.map D.str).map S.sh) r=some (S.sh (.str w)):=by rw [List.map_map]; exact e
 obtain ⟨hw1,hw2,hw3⟩:=hw w hwm
 have hwl:0 < w.length:=List.length_pos_iff.mpr hw1
 simp! [box,e']
 refine zan ha1 hs1 hs21 (by decide) (by decide) fun kd a2 s2 hk0 hk1 ha2 hs2 hs22=>?_
 simp! [box]
 refine zan ha2 hs2 hs22 (by lia) (by lia) fun r3 a3 s3 hr3 hr32 ha3 hs3 hs23=>?_
 obtain ⟨c,hcm,_,ec⟩:=zdY (l:=col) hr3 hr32
 simp! [box,ec]
 refine zan ha3 hs3 hs23 (by lia) (by lia) fun p a4 s4 hp0 hp1 ha4 hs4 hs24=>?_
 simp! [box]
 rw [zg5 w (by lia) (by lia),zbO w hp0]
 have hkd:kd=0\/kd=1\/kd=2\/kd=3\/kd=4:=by lia
 rcases hkd with rfl | rfl | rfl | rfl | rfl
 ·simp! [box]
  refine h _ _ _ ?_ ?_ (fun c hc=>hw3 c (List.mem_of_mem_take hc)) ha4 hs4 hs24
  ·intro z
   have:=congrArg List.length z
   rw [List.length_take,List.length_nil] at this
   lia
  ·rw [List.length_take]; lia
 ·simp! [box]
  refine h _ _ _ ?_ ?_ (fun c hc=>hw3 c (List.mem_of_mem_drop hc)) ha4 hs4 hs24
  ·intro z
   have:=congrArg List.length z
   rw [List.length_drop,List.length_nil] at this
   lia
  ·rw [List.length_drop]; lia
 ·simp! [box]
  refine h _ _ _ (by simp) (by simp; lia) (fun x hx=>?_) ha4 hs4 hs24
  rcases List.mem_cons.mp hx with rfl | hx
  ·exact hcm
  ·exact hw3 x hx
 ·simp! [box]
  refine h _ _ _ (by simp) (by simp; lia) (fun x hx=>?_) ha4 hs4 hs24
  rcases List.mem_append.mp hx with hx | hx
  ·exact hw3 x hx
  ·rw [List.mem_singleton.mp hx]; exact hcm
 ·simp! [box]
  refine h _ _ _ (by simp [hw1]) (by simp; lia) (fun x hx=>?_) ha4 hs4 hs24
  rcases List.mem_append.mp hx with hx | hx <;> exact hw3 x hx
noncomputable def goodB (col:List Nat) (many most:Nat) (B:List Wd):Prop:=B.length<=many/\B.Nodup/\∀ w∈B,w≠[]/\w.length<=most/\∀ c∈w,c∈col
noncomputable def qP (B:List Wd):D:=.tup (B.map D.str)
theorem zfI {a s many most:Int} {col:List Nat} (ha:0<=a) (hs:1<=s) (hs2:s<=2147483629) (hc:0 < col.length) (hc2:col.length<=26) (hm:0<=many) (hm2:many<=500) (ho:1<=most) (ho2:most<=500)
  (h:∀ (B:List Wd) a' s',goodB col many.toNat most.toNat B->0<=a'->1<=s'->s'<=2147483629->P (.sh (qP B)) [box a' s',.sh (.str col),.sh (.int many),.sh (.int most)]):w_11 [box a s,.sh (.str col),.sh (.int many),.sh (.int most)] P PX:=by
 refine zaY rfl rfl ?_
 simp! [box]
 refine zan ha hs hs2 (by lia) (by lia) fun r a1 s1 hr hr2 ha1 hs1 hs21=>?_
 have hne:(decide (col=[]))=false:=by simp; intro z; rw [z] at hc; simp at hc
 simp! [box,hne,if_true,Int.mul_one]
 refine ⟨by simp only [zai]; lia,?_⟩
 refine lpn (fun k U=>∃ (a s:Int) (B:List Wd) (o5 o6:Option S),0<=a/\1<=s/\s<=2147483629/\goodB col k most.toNat B/\U=[some (box a s),some (.sh (.str col)),some (.sh (.int many)),some (.sh (.int most)),some (.lst ((B.map D.str).map .sh)),o5,o6]) _ (fun k x hk D2 U hI hnx hct hrt hbk=>?_) (fun U hI=>?_) ⟨a1,s1,[],none,none,ha1,hs1,hs21,⟨by simp,by simp,by simp⟩,rfl⟩
 ·obtain ⟨a,s,B,o5,o6,ha,hs,hs2,hB,rfl⟩:=hI
  have hkl:=(qh.mp hk).1
  rw [zbt] at hkl
  obtain ⟨hB1,hB2,hB3⟩:=hB
  simp! [box,u_11_b1]
  refine zan ha hs hs2 (by lia) (by lia) fun r3 a2 s2 hr3 hr32 ha2 hs2 hs22=>?_
  obtain ⟨c,hcm,_,ec⟩:=zdY (l:=col) hr3 hr32
  simp! [box,ec]
  refine zcw ha2 hs2 hs22 (by lia) (by lia) hc hc2 fun w a3 s3 hw1 hw2 ha3 hs3 hs23=>?_
  -- what is done with a word
  have put:∀ (w:Wd) (a s:Int),0<=a->1<=s->s<=2147483629->w≠[]->w.length<=most.toNat->(∀ c∈w,c∈col)->
    (wIf (wCmp cNotInA (qF 6) (qF 4)) (wExpr (wAppend 4 (qF 6))) wPass) D2 [some (box a s),some (.sh (.str col)),some (.sh (.int many)),some (.sh (.int most)),some (.lst ((B.map D.str).map .sh)),some (.sh x),some (.sh (.str w))]:=fun w a s ha hs hs2 h1 h2 h3=>by
   simp! [box,zao,zjf]
   cases q:decide (w∈B)
   ·simp! [List.length_map]
    rw [show ((B.map D.str).map S.sh)++[S.sh (.str w)]=((B++[w]).map D.str).map S.sh by simp]
    refine ⟨by simp only [zai]; lia,hnx _ ⟨a,s,_,_,_,ha,hs,hs2,⟨by simp only [List.length_append,List.length_singleton]; lia,?_,fun x hx=>?_⟩,rfl⟩⟩
    ·refine List.nodup_append.mpr ⟨hB2,by simp,fun x hx y hy e=>?_⟩
     rw [List.mem_singleton.mp hy] at e
     subst e
     have:=of_decide_eq_false q
     exact this hx
    ·rcases List.mem_append.mp hx with z | z
     ·exact hB3 x z
     ·rw [List.mem_singleton.mp z]; exact ⟨h1,h2,h3⟩
   ·simp! [e_C]
    exact hnx _ ⟨a,s,B,_,_,ha,hs,hs2,⟨by lia,hB2,hB3⟩,rfl⟩
  have hword:([c]++w)≠[]/\([c]++w).length<=most.toNat/\∀ x∈[c]++w,x∈col:=by
   refine ⟨by simp,by simp; lia,fun x hx=>?_⟩
   rcases List.mem_append.mp hx with z | z
   ·rw [List.mem_singleton.mp z]; exact hcm
   ·exact hw2 x z
  simp! [box,zao,ziv,List.length_cons,List.length_nil]
  cases q:decide (B=[])
  ·simp! [box]
   refine zan ha3 hs3 hs23 (by decide) (by decide) fun r4 a4 s4 hr4 hr42 ha4 hs4 hs24=>?_
   simp! [box]
   cases q2:decide (r4=0)
   ·simp! [e_C]
    have:=put _ a4 s4 ha4 hs4 hs24 hword.1 hword.2.1 hword.2.2
    simp! [box] at this
    exact this
   ·simp! [box]
    refine zh1 ha4 hs4 hs24 hc hc2 (List.length_pos_iff.mpr (of_decide_eq_false q)) (by lia) (fun w hw=>⟨(hB3 w hw).1,by have:=(hB3 w hw).2.1; lia,(hB3 w hw).2.2⟩) fun w2 a5 s5 hn hl hm5 ha5 hs5 hs25=>?_
    simp! [box]
    have hw2l:0 < w2.length:=List.length_pos_iff.mpr hn
    have:=put (cutL w2 none (some most)) a5 s5 ha5 hs5 hs25 (fun z=>?_) ?_ fun c hc=>hm5 c (zaR hc)
    ·simp! [box] at this
     exact this
    ·have z2:=congrArg List.length z
     unfold cutL sIx at z2
     have:¬ most < 0:=by lia
     simp only [qr this,List.drop_zero,Nat.sub_zero,List.length_take,List.length_nil] at z2
     lia
    ·unfold cutL sIx
     have:¬ most < 0:=by lia
     simp only [qr this,List.drop_zero,Nat.sub_zero,List.length_take]
     lia
  ·simp! [e_C]
   have:=put _ a3 s3 ha3 hs3 hs23 hword.1 hword.2.1 hword.2.2
   simp! [box] at this
   exact this
 ·obtain ⟨a,s,B,o5,o6,ha,hs,hs2,hB,rfl⟩:=hI
  rw [zbt] at hB
  simp! [box,zao]
  exact h B a s ⟨by have:=hB.1; lia,hB.2⟩ ha hs hs2
noncomputable abbrev Mv:=Wd×Int
noncomputable def mvD (m:Mv):D:=.tup [.str m.1,.int m.2]
theorem zkc (l:List Mv):deps (l.map mvD)<=29:=zdq _ fun d hd=>by
 obtain ⟨m,_,rfl⟩:=List.mem_map.mp hd
 show 1<=29
 decide
theorem zno {l:List Mv}:cNe (.lst (l.map mvD)) (.lst [])=some (!l.isEmpty):=by rw [zkE (zkc l),List.isEmpty_map]
theorem zfS {B:List Wd} {t:Wd} {p most:Int} (hB:B.length<=1000) (ht:t.length<=1000) (hp:0<=p) (hp2:p<=most)
  (h:∀ ms:List Mv,ms.length<=2000->(∀ m∈ms,m.1∈B/\0<=m.2/\m.2<=most/\(m.2=p + m.1.length\/m.2<=p))->P (.lst ((ms.map mvD).map .sh)) [.sh (qP B),.sh (.str t),.sh (.int p),.sh (.int most)]):w_12 [.sh (qP B),.sh (.str t),.sh (.int p),.sh (.int most)] P PX:=by
 refine zaY rfl rfl ?_
 simp! [qP]
 refine za6 (fun pre U=>∃ (ms:List Mv) (o:Option S),ms.length<=2 * pre.length/\(∀ m∈ms,m.1∈B/\0<=m.2/\m.2<=most/\(m.2=p + m.1.length\/m.2<=p))/\U=[some (.sh (qP B)),some (.sh (.str t)),some (.sh (.int p)),some (.sh (.int most)),some (.lst ((ms.map mvD).map .sh)),o]) B (fun pre w post D2 U e hI hnx hct hrt hbk=>?_) (fun U hI=>?_) ⟨[],none,by simp,by simp,rfl⟩
 ·obtain ⟨ms,o,hl,hm,rfl⟩:=hI
  have q9:pre.length + 1<=B.length:=by rw [<- e]; simp only [List.length_append,List.length_cons]; lia
  have hwB:w∈B:=by rw [<- e]; simp
  have snd:∀ ms:List Mv,ms.length<=2 * pre.length + 1->(∀ m∈ms,m.1∈B/\0<=m.2/\m.2<=most/\(m.2=p + m.1.length\/m.2<=p))->
    (wIf (wtAnd (wCmp cGe (qF 2) (wB bLen (qG (qF 5) qH))) (wCmp cEq (wSl (qF 1) (some (qQ oSub (qF 2) (wB bLen (qG (qF 5) qH)))) (some (qF 2))) (qF 5))) (wExpr (wAppend 4 (wTup (qG (qF 5) (qG (qQ oSub (qF 2) (wB bLen (qG (qF 5) qH))) qH))))) wPass) D2 [some (.sh (qP B)),some (.sh (.str t)),some (.sh (.int p)),some (.sh (.int most)),some (.lst ((ms.map mvD).map .sh)),some (.sh (.str w))]:=fun ms hl hm=>by
   have stop:D2.nx [some (.sh (qP B)),some (.sh (.str t)),some (.sh (.int p)),some (.sh (.int most)),some (.lst ((ms.map mvD).map .sh)),some (.sh (.str w))]:=hnx _ ⟨ms,_,by simp only [List.length_append,List.length_singleton]; lia,hm,rfl⟩
   simp! [qP]
   cases q1:decide ((w.length:Int)<=p)
   ·simp! [e_C]
    exact stop
   have q1':=qo q1
   simp! [qP]
   cases q2:decide (cutL t (some (p - (w.length:Int))) (some p)=w)
   ·simp! [e_C]
    exact stop
   simp! [List.length_map]
   rw [show ((ms.map mvD).map S.sh)++[S.sh (.tup [.str w,.int (p - w.length)])]=((ms++[(w,p - w.length)]).map mvD).map S.sh by simp [mvD]]
   refine ⟨by simp only [zai]; lia,hnx _ ⟨_,_,by simp only [List.length_append,List.length_singleton]; lia,fun m hmm=>?_,rfl⟩⟩
   rcases List.mem_append.mp hmm with z | z
   ·exact hm m z
   ·rw [List.mem_singleton.mp z]; exact ⟨hwB,by show 0<=p - w.length; lia,by show p - (w.length:Int)<=most; lia,.inr (by show p - (w.length:Int)<=p; lia)⟩
  simp! [u_12_b1,qP]
  have snd0:=snd ms (by lia) hm
  simp! [qP] at snd0
  cases q1:decide (cutL t (some p) (some (p + (w.length:Int)))=cutL w none (some ((t.length:Int) - p)))
  ·simp! [e_C]
   exact snd0
  simp! [e_C]
  cases q2:decide (p + (w.length:Int)<=most)
  ·simp! [e_C]
   exact snd0
  have q2':=qo q2
  simp! [List.length_map]
  rw [show ((ms.map mvD).map S.sh)++[S.sh (.tup [.str w,.int (p + w.length)])]=((ms++[(w,p + w.length)]).map mvD).map S.sh by simp [mvD]]
  refine ⟨by simp only [zai]; lia,?_⟩
  have snd1:=snd (ms++[(w,p + w.length)]) (by simp only [List.length_append,List.length_singleton]; lia) fun m hmm=>by
   rcases List.mem_append.mp hmm with z | z
   ·exact hm m z
   ·rw [List.mem_singleton.mp z]; exact ⟨hwB,by show 0<=p + (w.length:Int); lia,q2',.inl rfl⟩
  simp! [qP] at snd1
  exact snd1
 ·obtain ⟨ms,o,hl,hm,rfl⟩:=hI
  simp! [qP]
  exact h ms (by lia) hm
theorem cut3 {t w:Wd} {p g:Int} (hp:0<=p) (hp2:p<=t.length) (hg:g=p + w.length):((cutL t none (some p)++w)++cutL t (some g) none).length=max g.toNat t.length:=by
 obtain ⟨k,rfl⟩:=Int.eq_ofNat_of_zero_le hp
 have hk:k<=t.length:=Int.ofNat_le.mp hp2
 rw [<- Int.natCast_add] at hg
 subst hg
 rw [zg5 t hp hp2,zbO t (Int.natCast_nonneg _)]
 simp only [List.length_append,List.length_take,List.length_drop,Int.toNat_natCast]
 rw [Nat.min_eq_left hk,Nat.add_comm,Nat.sub_add_eq_max,Nat.max_comm]
theorem zia {a s most:Int} {col:List Nat} {B:List Wd} (ha:0<=a) (hs:1<=s) (hs2:s<=2147483629) (hc:0 < col.length) (hc2:col.length<=26) (hm:0<=most) (hm2:most<=500) (hB:B.length<=1000) (hw:∀ w∈B,w.length<=1000/\∀ c∈w,c∈col)
  (h:∀ (t:Wd) a' s',t.length<=most.toNat->(∀ c∈t,c∈col)->0<=a'->1<=s'->s'<=2147483629->P (.sh (.str t)) [box a' s',.sh (qP B),.sh (.str col),.sh (.int most)]):w_13 [box a s,.sh (qP B),.sh (.str col),.sh (.int most)] P PX:=by
 refine zaY rfl rfl ?_
 simp! [box,List.length_cons,List.length_nil]
 refine zan ha hs hs2 (by decide) (by decide) fun r a1 s1 hr hr2 ha1 hs1 hs21=>?_
 simp! [box]
 refine ⟨by simp only [zai]; lia,?_⟩
 refine za6 (toD:=fun k:Nat=>D.int (0 + (k:Int))) (fun pre U=>∃ (a s:Int) (t:Wd) (p:Int) (o6 o7 o8 o9 o10:Option S),0<=a/\1<=s/\s<=2147483629/\t.length<=most.toNat/\(∀ c∈t,c∈col)/\0<=p/\p<=t.length/\U=[some (box a s),some (.sh (qP B)),some (.sh (.str col)),some (.sh (.int most)),some (.sh (.str t)),some (.sh (.int p)),o6,o7,o8,o9,o10]) (List.range _) (fun pre k post D2 U e hI hnx hct hrt hbk=>?_) (fun U hI=>?_) ⟨a1,s1,[],0,none,none,none,none,none,ha1,hs1,hs21,by simp,by simp,by decide,by simp,rfl⟩
 ·obtain ⟨a,s,t,p,o6,o7,o8,o9,o10,ha,hs,hs2,ht,htc,hp,hp2,rfl⟩:=hI
  simp! [box,u_13_b2]
  refine zfS hB (by lia) hp (by lia) fun ms hml hm=>?_
  -- the choice among some moves
  have pick:∀ ms:List Mv,ms.length<=2000->(∀ m∈ms,m.1∈B/\0<=m.2/\m.2<=most/\(m.2=p + m.1.length\/m.2<=p))->
    (wIf (wCmp cNe (qF 7) (wLst qH)) (qR (qT (gTup [qI 8,qI 9]) (wIx (qF 7) (qS w_7 [true,true] (qG (qF 0) (qG (wB bLen (qG (qF 7) qH)) qH)))))
  (qR (wIf (wCmp cGt (qF 9) (qF 5)) (qT (qI 4) (qQ oAdd (qQ oAdd (wSl (qF 4) none (some (qF 5))) (qF 8)) (wSl (qF 4) (some (qF 9)) none))) wPass)
  (qT (qI 5) (qF 9)))) wPass) D2 [some (box a s),some (.sh (qP B)),some (.sh (.str col)),some (.sh (.int most)),some (.sh (.str t)),some (.sh (.int p)),some (.sh (.int (0 + (k:Int)))),some (.sh (.lst (ms.map mvD))),o8,o9,o10]:=fun ms hml hm=>by
   simp! [box,zno]
   cases q:ms.isEmpty
   ·simp! [box,List.length_map]
    have hpos:0 < ms.length:=by
     cases ms with
     | nil=>cases q
     | cons _ _=>simp
    refine zan ha hs hs2 (by lia) (by lia) fun r a1 s1 hr hr2 ha1 hs1 hs21=>?_
    obtain ⟨m,hmm,_,em⟩:=zdw (f:=mvD) hr hr2
    obtain ⟨hmB,hg0,hg1,hg2⟩:=hm m hmm
    obtain ⟨hw1,hw2⟩:=hw m.1 hmB
    simp! [box,em,mvD,List.length_cons,List.length_nil]
    cases q2:decide (p < m.2)
    ·simp! [e_C]
     have:=of_decide_eq_false q2
     exact hnx _ ⟨a1,s1,t,m.2,_,_,_,_,_,ha1,hs1,hs21,ht,htc,hg0,by lia,rfl⟩
    ·have q2':=qo q2
     have hgp:m.2=p + m.1.length:=by lia
     have hl3:=cut3 hp hp2 hgp
     have l1:(cutL t none (some p)).length<=1000:=Nat.le_trans (zbr _ _ _) (by lia)
     have l2:(cutL t (some m.2) none).length<=1000:=Nat.le_trans (zbr _ _ _) (by lia)
     simp! [List.length_append]
     refine hnx _ ⟨a1,s1,(cutL t none (some p)++m.1)++cutL t (some m.2) none,m.2,_,_,_,_,_,ha1,hs1,hs21,by rw [hl3]; lia,fun c hc=>?_,hg0,by rw [hl3]; lia,rfl⟩
     rcases List.mem_append.mp hc with z | z
     ·rcases List.mem_append.mp z with z | z
      ·exact htc c (zaR z)
      ·exact hw2 c z
     ·exact htc c (zaR z)
   ·simp! [e_C]
    exact hnx _ ⟨a,s,t,p,_,_,_,_,_,ha,hs,hs2,ht,htc,hp,hp2,rfl⟩
  simp! [box,zao]
  cases q:decide ((4:Int) < 0 + (k:Int))
  ·simp! [e_C]
   have:=pick ms hml hm
   simp! [box] at this
   exact this
  ·simp! [e_C]
   refine bl1 (n:=11) (toD:=mvD) ms (fun m=>if decide (p < m.2)=true then some (.sh (mvD m)) else none) (fun m hmm l o K hl hK=>?_) fun o=>?_
   ·cases q3:decide (p < m.2)
    ·simp! [x_bX,zmj,u_13_c1,mvD,q3]
     rw [q3] at hK
     have:=hK (some (.sh (mvD m)))
     rw [qr (by decide),Option.toList_none,List.append_nil] at this
     exact this
    ·simp! [x_bX,zcT,u_13_c1,mvD,q3]
     rw [q3] at hK
     exact ⟨by simp only [zai]; lia,hK _⟩
   ·rw [zlI (fun m:Mv=>decide (p < m.2)) (fun m=>S.sh (mvD m)),show ((ms.filter fun m:Mv=>decide (p < m.2)).map fun m=>S.sh (mvD m))=((ms.filter fun m:Mv=>decide (p < m.2)).map mvD).map S.sh by rw [List.map_map]; rfl]
    simp! [zao]
    have:=pick (ms.filter fun m:Mv=>decide (p < m.2)) (Nat.le_trans (List.length_filter_le _ _) hml) fun m hmm=>hm m (List.mem_filter.mp hmm).1
    simp! [box] at this
    exact this
 ·obtain ⟨a,s,t,p,o6,o7,o8,o9,o10,ha,hs,hs2,ht,htc,hp,hp2,rfl⟩:=hI
  simp! [box]
  cases q:decide (t=[])
  ·have hpos:0 < t.length:=List.length_pos_iff.mpr (of_decide_eq_false q)
   simp! [box]
   refine zan ha hs hs2 (by decide) (by decide) fun r a1 s1 hr hr2 ha1 hs1 hs21=>?_
   simp! [box]
   cases q2:decide (r=0)
   ·simp! [e_C]
    exact h t a1 s1 ht htc ha1 hs1 hs21
   ·simp! [box]
    refine zan ha1 hs1 hs21 (by lia) (by lia) fun x a2 s2 hx0 hx1 ha2 hs2 hs22=>?_
    simp! [box]
    refine zan ha2 hs2 hs22 (by lia) (by lia) fun r3 a3 s3 hr3 hr32 ha3 hs3 hs23=>?_
    obtain ⟨c,hcm,_,ec⟩:=zdY (l:=col) hr3 hr32
    have l1:(cutL t none (some x)).length<=1000:=Nat.le_trans (zbr _ _ _) (by lia)
    have l2:(cutL t (some (x + 1)) none).length<=1000:=Nat.le_trans (zbr _ _ _) (by lia)
    have l3:=cut3 (t:=t) (w:=[c]) (p:=x) (g:=x + 1) hx0 (by lia) (by simp)
    simp! [box,ec,List.length_append,List.length_cons,List.length_nil]
    refine h _ a3 s3 (by rw [l3]; lia) (fun y hy=>?_) ha3 hs3 hs23
    rcases List.mem_append.mp hy with z | z
    ·rcases List.mem_append.mp z with z | z
     ·exact htc y (zaR z)
     ·rw [List.mem_singleton.mp z]; exact hcm
    ·exact htc y (zaR z)
  ·simp! [e_C]
   exact h t a s ht htc ha hs hs2
structure Fit (B:List Wd) (w:Wd):Prop where
 nd:B.Nodup
 ne:∀ x∈B,x≠[]
 le:∀ x∈B,x.length<=1000
 six:B.length<=6
 tw:w.length<=12
theorem zcU {B:List Wd} {w:Wd} (hf:Fit B w)
  (h:P (.lst (((strP B w).map trD).map .sh)) [.sh (qP B),.sh (.str w)]):w_0 [.sh (qP B),.sh (.str w)] P PX:=by
 have h12:=hf.tw
 have h6:=hf.six
 have q9:((List.range w.length).flatMap (rawI B w)).length < 64:=by rw [<- (zej hf.nd hf.ne).length_eq]; exact zff hf.nd hf.ne h6 h12
 have he:(List.range w.length).flatMap (fun i=>(rawI B w i).map fun t=>S.sh (trD t))=(((List.range w.length).flatMap (rawI B w)).map trD).map S.sh:=by simp [List.map_flatMap,Function.comp_def]
 refine zaY rfl rfl ?_
 simp! [e_C]
 refine ⟨by simp only [zai]; lia,?_⟩
 rw [from0 rfl]
 refine bf (n:=2) (k:=3) (List.range w.length) (fun i=>(rawI B w i).map fun t=>S.sh (trD t)) (fun i hi l vs K hv hl hK=>?_) (fun vs hv=>?_)
 ·obtain ⟨a,b,c,rfl⟩:=len3v hv
  rw [he,List.length_map,List.length_map,List.length_map] at hl
  simp! [x_bX,zcT,u_0_c2,qP,zhv]
  refine bi2 (fun l o o'=>[some (.sh (qP B)),some (.sh (.str w)),some (.lst l),some (.sh (.int (i:Int))),o,o']) (List.range B.length) (fun k=>if decide (seg w i (i + ((B[k]?).getD []).length)=(B[k]?).getD [])=true then some (S.sh (trD (i,i + ((B[k]?).getD []).length,k))) else none) (fun k hk l2 o o' K2 hl2 hK2=>?_) fun o o'=>?_
  ·have hm:(List.range B.length).filterMap (fun k=>if decide (seg w i (i + ((B[k]?).getD []).length)=(B[k]?).getD [])=true then some (S.sh (trD (i,i + ((B[k]?).getD []).length,k))) else none)=(rawI B w i).map fun t=>S.sh (trD t):=by
    unfold rawI
    rw [List.map_filterMap]
    refine zdy fun x _=>?_
    split <;> rfl
   rw [hm,List.length_map] at hl2
   have ec:cutL w (some (i:Int)) (some ((i:Int) + ((((B[k]?).getD []).length:Nat):Int)))=seg w i (i + ((B[k]?).getD []).length):=by rw [<- Int.natCast_add]; exact zgu w _ _
   cases q:decide (seg w i (i + ((B[k]?).getD []).length)=(B[k]?).getD [])
   ·simp! [x_bX,qP,List.length_cons,List.length_nil,ec,q,zmj]
    have:=hK2 (some (.sh (.int (k:Int)))) (some (.sh (.str ((B[k]?).getD []))))
    rw [q,qr (by decide),Option.toList_none,List.append_nil] at this
    exact this
   ·simp! [x_bX,qP,List.length_cons,List.length_nil,ec,q,zcT,u_0_c1]
    have:=hK2 (some (.sh (.int (k:Int)))) (some (.sh (.str ((B[k]?).getD []))))
    rw [q,qq rfl,Option.toList_some] at this hl2
    simp only [List.length_singleton] at hl2
    refine ⟨by simp only [zai]; lia,?_⟩
    rw [zjv,Int.natCast_add] at this
    exact this
  ·have hm:(List.range B.length).filterMap (fun k=>if decide (seg w i (i + ((B[k]?).getD []).length)=(B[k]?).getD [])=true then some (S.sh (trD (i,i + ((B[k]?).getD []).length,k))) else none)=(rawI B w i).map fun t=>S.sh (trD t):=by
    unfold rawI
    rw [List.map_filterMap]
    refine zdy fun x _=>?_
    split <;> rfl
   rw [hm]
   exact hK _ rfl
 ·obtain ⟨a,b,c,rfl⟩:=len3v hv
  rw [he]
  simp! [zao,zhP (zej hf.nd hf.ne) q9]
  exact h
theorem zfO {B:List Wd} {b:D} {w:Wd} (hb:∀ z,cInA (.str z) b=some (decide (z∈B))) (h12:w.length<=60)
  (h:P (.lst ((tiesL B w).map .sh)) [.sh b,.sh (.str w)]):w_14 [.sh b,.sh (.str w)] P PX:=by
 refine zaY rfl rfl ?_
 simp! [e_C]
 refine ⟨by simp only [zai]; lia,?_⟩
 rw [from0 (n:=w.length + 1) (by lia)]
 refine bm1 (n:=5) (List.range (w.length + 1)) (fun _=>S.lst []) (fun p hp l o K hl hK=>?_) fun o=>?_
 ·rw [List.length_range] at hl
  simp! [x_bX,zcT,u_14_c1]
  exact ⟨by simp only [zai]; lia,hK _⟩
 rw [show ((List.range (w.length + 1)).map fun _=>S.lst [])=fnd w.length fun _=>[] from rfl]
 simp! [e_C]
 refine ⟨by simp only [zai]; lia,?_⟩
 rw [from0 (n:=w.length) rfl]
 refine za6 (fun pre U=>∃ (f:Nat->List Nat) (o3 o4:Option S),GoneT B w pre.length (pre.length + 1) f/\U=[some (.sh b),some (.sh (.str w)),some (.lst (fnd w.length f)),o3,o4]) (List.range w.length) (fun pre i post D2 U e hI hnx hct hrt hbk=>?_) (fun U hI=>?_) ⟨fun _=>[],none,none,zfY,rfl⟩
 ·obtain ⟨f,o3,o4,hg,rfl⟩:=hI
  have hi:pre.length=i/\i < w.length:=zbh e
  obtain ⟨rfl,hi⟩:=hi
  simp! [u_14_b3]
  refine ⟨by simp only [zai]; lia,?_⟩
  rw [from1 (a:=pre.length + 1) (n:=w.length + 1) (by lia) (by lia)]
  refine za6 (fun pre2 U=>∃ (f:Nat->List Nat) (o4:Option S),GoneT B w pre.length (pre.length + 1 + pre2.length) f/\U=[some (.sh b),some (.sh (.str w)),some (.lst (fnd w.length f)),some (.sh (qU pre.length)),o4]) (List.range' (pre.length + 1) (w.length + 1 - (pre.length + 1))) (fun pre2 j post2 D3 U e2 hI hnx2 hct2 hrt2 hbk2=>?_) (fun U hI=>?_) ⟨f,o4,by simpa using hg,rfl⟩
  ·obtain ⟨f,o4,hg,rfl⟩:=hI
   have hj:j=pre.length + 1 + pre2.length/\j<=w.length:=by
    have:=zf5 e2; lia
   obtain ⟨hj1,hj2⟩:=hj
   rw [<- hj1] at hg
   have ht:decide (seg w pre.length j∈B)=tieB B w pre.length j:=by
    unfold tieB
    rw [qj (show pre.length < j by lia),qj hj2]; rfl
   simp! [u_14_b2,qU,zgu,hb]
   rw [ht]
   cases q:tieB B w pre.length j
   ·simp! [e_C]
    refine hnx2 _ ⟨f,_,?_,rfl⟩
    rw [List.length_append,List.length_singleton,show pre.length + 1 + (pre2.length + 1)=j + 1 by lia]
    exact zkA (by lia) hg q
   ·simp! [e_C]
    rw [zcg (by lia) (show (fnd w.length f)[((pre.length:Nat):Int).toNat]?=_ by rw [Int.toNat_natCast]; exact zgY (by lia))]
    simp! [List.length_map]
    have hlen1:=ze7 hg pre.length
    refine ⟨by simp only [zai]; lia,?_⟩
    rw [Int.toNat_natCast,show (((f pre.length).map fun q=>S.sh (qU q))++[S.sh (D.int (j:Int))])=(((f pre.length).map fun q=>S.sh (qU q))++[S.sh (qU j)]) from rfl,zhH (by lia)]
    rw [zcg (by lia) (show (fnd w.length (addTo f pre.length j))[((j:Nat):Int).toNat]?=_ by rw [Int.toNat_natCast]; exact zgY (by lia))]
    simp! [List.length_map]
    have hlen2:=ze7 hg j
    have e3:addTo f pre.length j j=f j:=by unfold addTo; rw [qr (by lia)]
    refine ⟨by rw [e3]; simp only [zai]; lia,?_⟩
    rw [Int.toNat_natCast,show (((addTo f pre.length j j).map fun q=>S.sh (qU q))++[S.sh (D.int (pre.length:Int))])=(((addTo f pre.length j j).map fun q=>S.sh (qU q))++[S.sh (qU pre.length)]) from rfl,zhH (by lia)]
    refine hnx2 _ ⟨_,_,?_,rfl⟩
    rw [List.length_append,List.length_singleton,show pre.length + 1 + (pre2.length + 1)=j + 1 by lia]
    exact zi6 (by lia) hg q
  ·obtain ⟨f,o4,hg,rfl⟩:=hI
   rw [List.length_range',show pre.length + 1 + (w.length + 1 - (pre.length + 1))=w.length + 1 by lia] at hg
   refine hnx _ ⟨f,_,_,?_,rfl⟩
   rw [List.length_append,List.length_singleton]
   exact zir (Nat.le_refl _) hg
 ·obtain ⟨f,o3,o4,hg,rfl⟩:=hI
  rw [List.length_range] at hg
  simp! [e_C]
  rw [show (fnd w.length f).map S.toD=(List.range (w.length + 1)).map fun p=>D.lst ((f p).map qU) by
   unfold fnd; rw [List.map_map]; refine List.map_congr_left fun p _=>?_; simp [Function.comp_def]]
  refine bm1 (n:=5) (List.range (w.length + 1)) (fun p=>.sh (.lst ((nb B w p).map qU))) (fun p hp l o K hl hK=>?_) fun o=>?_
  ·rw [List.length_range] at hl
   simp! [x_bX,zcT,u_14_c4,zkh (zhs (Nat.le_refl _) hg) h12,zao]
   exact ⟨by simp only [zai]; lia,hK _⟩
  ·rw [show ((List.range (w.length + 1)).map fun p=>S.sh (.lst ((nb B w p).map qU)))=(tiesL B w).map S.sh by unfold tiesL; rw [List.map_map]; rfl]
   simp! [e_C]
   exact h
theorem zdQ {B:List Wd} {w:Wd} (h12:w.length<=60)
  (h:P (.lst ((tiesL B w).map .sh)) [.sh (qP B),.sh (.str w)]):w_14 [.sh (qP B),.sh (.str w)] P PX:=zfO (fun _=>ziP) h12 h
noncomputable def prD (t:Tr):D:=.tup [.int (t.1:Int),.int (t.2.1:Int)]
theorem zeC {n i j:Nat} {L:Nat->Nat} (hn:n<=60) (hi:i<=n) (hj:j<=n)
  (h:P (.lst ((vecN n (glue L i j)).map .sh)) [.sh (.lst (vecN n L)),.sh (.int (i:Int)),.sh (.int (j:Int))]):w_3 [.sh (.lst (vecN n L)),.sh (.int (i:Int)),.sh (.int (j:Int))] P PX:=by
 refine zaY rfl rfl ?_
 simp! [zcj hi,zcj hj,minN,maxN,List.length_cons,List.length_nil]
 rw [show vecN n L=(List.range (n + 1)).map fun p=>qU (L p) from rfl]
 refine bm1 (n:=5) (List.range (n + 1)) (fun p=>.sh (qU (glue L i j p))) (fun p hp l o K hl hK=>?_) fun o=>?_
 ·rw [List.length_range] at hl
  have e:qU (glue L i j p)=.int (if decide (((L p:Nat):Int)=((max (L i) (L j):Nat):Int))=true then ((min (L i) (L j):Nat):Int) else ((L p:Nat):Int)):=by
   unfold glue qU
   by_cases q:L p=max (L i) (L j)
   ·rw [qq q,qq (qj (by lia))]
   ·rw [qr q,qr (by rw [qm]; lia)]
  cases q:decide (((L p:Nat):Int)=((max (L i) (L j):Nat):Int)) <;> rw [e,q] at hK <;> simp! [x_bX,zcT,u_3_c1,qU,q]
  ·exact ⟨by simp only [zai]; lia,hK _⟩
  ·exact ⟨by simp only [zai]; lia,hK _⟩
 ·rw [show ((List.range (n + 1)).map fun p=>S.sh (qU (glue L i j p)))=(vecN n (glue L i j)).map S.sh by unfold vecN; rw [List.map_map]; rfl]
  simp! [e_C]
  exact h
theorem zcA {n:Nat} {L:Nat->Nat} {ts:List Tr} (hn:n<=60) (ht:∀ t∈ts,t.1<=n/\t.2.1<=n)
  (h:P (.sh (.tup (vecN n (landOf ts L)))) [.sh (.tup (vecN n L)),.sh (.lst (ts.map prD))]):w_2 [.sh (.tup (vecN n L)),.sh (.lst (ts.map prD))] P PX:=by
 refine zaY rfl rfl ?_
 simp! [zao]
 refine za6 (fun pre U=>∃ o3 o4,U=[some (.sh (.tup (vecN n L))),some (.sh (.lst (ts.map prD))),some (.sh (.lst (vecN n (landOf pre L)))),o3,o4]) ts (fun pre t post D2 U e hI hnx hct hrt hbk=>?_) (fun U hI=>?_) ⟨none,none,rfl⟩
 ·obtain ⟨o3,o4,rfl⟩:=hI
  have htt:=ht t (by rw [<- e]; simp)
  simp! [prD,List.length_cons,List.length_nil,u_2_b1]
  refine zeC hn htt.1 htt.2 ?_
  simp! [zao]
  refine hnx _ ⟨some (.sh (.int (t.1:Int))),some (.sh (.int (t.2.1:Int))),?_⟩
  rw [zbI]
  rfl
 ·obtain ⟨o3,o4,rfl⟩:=hI
  simp! [e_C]
  exact h
theorem zf3 {B:List Wd} {w:Wd} (hf:Fit B w)
  (h:P (.sh (.tup (vecN w.length (landP B w)))) [.sh (qP B),.sh (.str w)]):w_1 [.sh (qP B),.sh (.str w)] P PX:=by
 have h12:=hf.tw
 have hts:∀ t∈strP B w,t.1<=w.length/\t.2.1<=w.length:=fun t ht=>by
  have:=zaI.mp (zcc.mp ht).1
  lia
 have h64:=zff hf.nd hf.ne hf.six hf.tw
 refine zaY rfl rfl ?_
 simp! [e_C]
 refine ⟨by simp only [zai]; lia,?_⟩
 rw [from0 (n:=w.length + 1) (by lia)]
 refine ⟨by rw [List.length_map,List.length_range]; simp only [zai]; lia,?_⟩
 refine zcU hf ?_
 simp! [zao]
 refine bm3 (n:=2) (strP B w) (fun t=>.sh (prD t)) (fun t ht l o1 o2 o3 K hl hK=>?_) fun o1 o2 o3=>?_
 ·simp! [x_bX,zcT,u_1_c1,zjv,List.length_cons,List.length_nil]
  exact ⟨by simp only [zai]; lia,hK _ _ _⟩
 ·rw [show ((strP B w).map fun t=>S.sh (prD t))=((strP B w).map prD).map S.sh by rw [List.map_map]; rfl]
  simp! [zao]
  refine zcA (n:=w.length) (L:=fun p=>p) (ts:=strP B w) (by lia) hts ?_
  simp! [e_C]
  exact h
theorem zgi (l:List D):enumF 0 l=(List.range l.length).map fun (k:Nat)=>D.tup [.int (k:Int),(l[k]?).getD .non]:=by
 have:=zdA (fun d:D=>d) l 0
 rw [List.map_id'] at this
 rw [this]
 refine List.map_congr_left fun i _=>?_
 rw [Nat.zero_add]
 cases l[i]? <;> rfl
theorem zbP {B:List Wd} {w:Wd} (h12:w.length<=60)
  (h:P (.lst ((vecN w.length (landP B w)).map .sh)) [.sh (.lst (tiesL B w))]):w_15 [.sh (.lst (tiesL B w))] P PX:=by
 have htl:(tiesL B w).length=w.length + 1:=by simp [tiesL]
 refine zaY rfl rfl ?_
 simp! [htl]
 refine ⟨by simp only [zai]; lia,?_⟩
 rw [from0 (n:=w.length + 1) (by lia)]
 refine ⟨by rw [List.length_map,List.length_range]; simp only [zai]; lia,?_⟩
 rw [show ((List.range (w.length + 1)).map fun (k:Nat)=>D.int (k:Int))=vecN w.length fun p=>p from rfl]
 refine zom (fun m U=>∃ (f:Nat->Nat) (a:List Int) (o3 o4:Option S),Swept (TieR B w) w.length f/\(a=vecI w.length f->Still (TieR B w) (w.length + 1) f)/\m=(if a=vecI w.length f then 0 else 1) + sumF w.length f/\U=[some (.sh (.lst (tiesL B w))),some (.lst ((vecN w.length f).map .sh)),some (.sh (.lst (a.map D.int))),o3,o4]) _ ⟨fun p=>p,[],none,none,⟨fun p=>Nat.le_refl p,fun p=>.refl p⟩,fun e=>?_,rfl,rfl⟩ fun m U hJ=>?_
 ·have:=congrArg List.length e
  simp [vecI] at this
 obtain ⟨f,a,o3,o4,hf,hst,hm,rfl⟩:=hJ
 simp! [zao,zcS,zic]
 cases q:decide (a=vecI w.length f)
 ·have q':=of_decide_eq_false q
  rw [qr q'] at hm
  simp! [x_Wt,u_15_b3,zao,zgi,htl]
  refine za6 (fun pre U=>∃ (g:Nat->Nat) (o3 o4:Option S),Swept (TieR B w) w.length g/\(∀ p,g p<=f p)/\((∀ p,p<=w.length->g p=f p)->Still (TieR B w) pre.length f)/\U=[some (.sh (.lst (tiesL B w))),some (.lst ((vecN w.length g).map .sh)),some (.sh (.lst ((vecI w.length f).map D.int))),o3,o4]) (List.range (w.length + 1)) (fun pre k post D2 U e hI hnx hct hrt hbk=>?_) (fun U hI=>?_) ⟨f,o3,o4,hf,fun p=>Nat.le_refl _,fun _ p hp=>by simp at hp,by rw [zcS]⟩
  ·obtain ⟨g,o3,o4,hg,hle,hs,rfl⟩:=hI
   have hk:=zbh e
   obtain ⟨hk1,hk2⟩:=hk
   rw [hk1] at hs
   have et:((tiesL B w)[k]?).getD .non=.lst ((nb B w k).map qU):=by
    unfold tiesL; rw [List.getElem?_map,List.getElem?_range hk2]; rfl
   obtain ⟨v,ev,hv1,hv2,hv3⟩:=zhR (R:=TieR B w) (n:=w.length) (k:=k) (f0:=f) (g:=g) (l:=nb B w k) (fun q=>zb3) hg hle hs (by lia) zeI
   have hnl:=zgE (B:=B) (w:=w) (p:=k)
   simp! [List.length_cons,List.length_nil,u_15_b2,et,zdh (show k<=w.length by lia)]
   refine bm1 (n:=5) (nb B w k) (fun q=>.sh (qU (g q))) (fun q hq l o K hl hK=>?_) fun o=>?_
   ·simp! [x_bX,zcT,u_15_c1,qU,zdh (zgc hq).1]
    exact ⟨by simp only [zai]; lia,hK _⟩
   ·rw [show ((nb B w k).map fun q=>S.sh (qU (g q)))=((nb B w k).map fun q=>qU (g q)).map S.sh by rw [List.map_map]; rfl]
    have eb:bMinL [.lst (D.int ((g k:Nat):Int)::(nb B w k).map fun q=>qU (g q))]=some (.sh (.int ((v:Nat):Int))):=by
     show (intsD _).bind _=_
     rw [show (D.int ((g k:Nat):Int)::(nb B w k).map fun q=>qU (g q))=((((g k:Nat):Int)::(nb B w k).map fun q=>((g q:Nat):Int)).map D.int) by simp [qU],zbL]
     rw [Option.bind_some,ev]; rfl
    simp! [zao,List.length_map,List.length_cons,List.length_nil,eb]
    rw [zgl (by lia) (by rw [List.length_map,za0]; lia)]
    refine hnx _ ⟨_,some (.sh (.int (k:Int))),some (.sh (.lst ((nb B w k).map qU))),hv1,hv2,?_,?_⟩
    ·rw [List.length_append,List.length_singleton,hk1]; exact hv3
    ·rw [Int.toNat_natCast,<- ziu (show k<=w.length by lia),List.map_set]
     rfl
  ·obtain ⟨g,o3,o4,hg,hle,hs,rfl⟩:=hI
   rw [List.length_range] at hs
   by_cases qe:∀ p,p<=w.length->g p=f p
   ·have ev:vecI w.length f=vecI w.length g:=zeY.mpr fun p hp=>(qe p hp).symm
    have es:sumF w.length g=sumF w.length f:=by
     unfold sumF
     congr 1
     exact List.map_congr_left fun p hp=>qe p (by have:=List.mem_range.mp hp; lia)
    refine zk8 (m':=sumF w.length f) (by lia) ⟨g,vecI w.length f,_,_,hg,fun _=>?_,?_,by rw [zcS]⟩
    ·intro p hp r hr
     have:=hs qe p hp r hr
     have h1:=qe p (by lia)
     have h2:=qe r (zeI p r hr).2
     lia
    ·rw [qq ev,es]; lia
   ·have:=zjY (n:=w.length) hle qe
    refine zk8 ?_ ⟨g,vecI w.length f,_,_,hg,fun e=>?_,rfl,by rw [zcS]⟩
    ·split <;> lia
    ·exact (qe fun p hp=>(zeY.mp e p hp).symm).elim
 ·have q':=qo q
  have hL:=zgb zgQ zeI hf (hst q')
  have e2:vecI w.length f=vecI w.length (landP B w):=zeY.mpr fun p _=>hL.unique (ze8 B w) p
  simp! [x_Wf]
  rw [e2,<- zcS]
  exact h
noncomputable def colD (w:Wd) (p:Nat):D:=((w.map fun c=>D.str [c])[p]?).getD .non
noncomputable def dbl (w:Wd) (f:Nat->Bool) (p:Nat):List D:=[.tup [.int (2 * (p:Int)),colD w p,.int (2 * (p:Int) + 2 + if f p then 1 else 0)],.tup [.int (2 * (p:Int) + 1),colD w p,.int (2 * (p:Int) + 3 - if f p then 1 else 0)]]
noncomputable def dmapD (w:Wd) (f:Nat->Bool):D:=.tup [.int (2 * (w.length:Int) + 2),.tup ((List.range w.length).flatMap (dbl w f))]
theorem zbV (w:Wd) (f:Nat->Bool) (l:List Nat):(l.flatMap (dbl w f)).length=2 * l.length:=by
 induction l with
 | nil=>rfl
 | cons a r ih=>rw [List.flatMap_cons,List.length_append,ih]; simp [dbl]; lia
theorem zd4 {w:Wd} {f:Nat->Bool} (h12:w.length<=60)
  (h:P (.sh (dmapD w f)) [.sh (.str w),.sh (.lst ((List.range w.length).map fun p=>D.bl (f p)))]):w_5 [.sh (.str w),.sh (.lst ((List.range w.length).map fun p=>D.bl (f p)))] P PX:=by
 refine zaY rfl rfl ?_
 simp! [zgi,List.length_map]
 refine za6 (fun pre U=>∃ o3 o4 o5:Option S,U=[some (.sh (.str w)),some (.sh (.lst ((List.range w.length).map fun p=>D.bl (f p)))),some (.lst ((pre.flatMap (dbl w f)).map .sh)),o3,o4,o5]) (List.range w.length) (fun pre k post D2 U e hI hnx hct hrt hbk=>?_) (fun U hI=>?_) ⟨none,none,none,rfl⟩
 ·obtain ⟨o3,o4,o5,rfl⟩:=hI
  obtain ⟨hk1,hk2⟩:=zbh e
  have hl:=zbV w f pre
  have ea:atI ((List.range w.length).map fun p=>D.bl (f p)) (k:Int)=some (.bl (f k)):=by
   unfold atI ixN
   rw [qq (by lia),qq (by simp; lia)]
   simp [hk2]
  have hm:(pre++[k]).flatMap (dbl w f)=pre.flatMap (dbl w f)++dbl w f k:=by simp
  rw [hm] at hnx
  cases q:f k
  all_goals
   simp! [u_5_b1,List.length_cons,List.length_nil,ea,q]
   refine ⟨by rw [List.length_map,hl]; simp only [zai]; lia,by rw [List.length_append,List.length_map,hl]; simp only [zai,List.length_singleton]; lia,hnx _ ⟨some (.sh (.int (k:Int))),some (.sh (colD w k)),some (.sh (.int (if f k then 1 else 0))),?_⟩⟩
   simp [dbl,colD,q]
 ·obtain ⟨o3,o4,o5,rfl⟩:=hI
  have hl:=zbV w f (List.range w.length)
  rw [List.length_range] at hl
  simp! [List.length_cons,List.length_nil,zao]
  exact h
noncomputable def isFx (B:List Wd) (w:Wd):Bool:=decide (landP B w w.length=0)
noncomputable def crs (B:List Wd) (w:Wd) (p:Nat):Bool:=!decide (decide (landP B w p=0)=decide (landP B w (p + 1)=0))
noncomputable def twinsD (B:List Wd) (w:Wd):D:=.tup [dmapD w fun _=>false,dmapD w (crs B w)]
theorem zgd:∀ l m:List D,zipD l m=List.zipWith (fun d e=>D.tup [d,e]) l m
 | [],m=>by cases m <;> rfl
 | _::_,[]=>rfl
 | d::l,e::m=>by rw [List.zipWith_cons_cons,<- zgd l m]; rfl
theorem zkG (n:Nat) (f:Nat->Nat):zipD (vecN n f) (cutL (vecN n f) (some 1) none)=(List.range n).map fun p=>D.tup [qU (f p),qU (f (p + 1))]:=by
 rw [zbO _ (by decide),zgd]
 apply List.ext_getElem?
 intro j
 by_cases hj:j < n
 ·have h1:(vecN n f)[j]?=some (qU (f j)):=by simp [vecN,show j < n + 1 by lia]
  have h2:((vecN n f).drop (1:Int).toNat)[j]?=some (qU (f (j + 1))):=by
   rw [List.getElem?_drop]
   simp [vecN,Nat.add_comm 1 j,show j + 1 < n + 1 by lia]
  rw [List.getElem?_zipWith,h1,h2]
  simp [hj]
 ·have hl:=za0 (n:=n) (f:=f)
  rw [List.getElem?_eq_none (by simp [hl]; lia),List.getElem?_eq_none (by simp; lia)]
theorem ziy {n:Nat} {f:Nat->Nat}:atI (vecN n f) (-1)=some (.int ((f n:Nat):Int)):=by
 have e1:atI (vecN n f) (-1)=atI (vecN n f) ((n:Nat):Int):=by
  unfold atI
  rw [za0]
  congr 1
  unfold ixN
  rw [qr (by decide),qq (by lia),qq (by lia),qq (by lia)]
  congr 1
  lia
 rw [e1,zcj (Nat.le_refl _)]
theorem zgC {n:Nat} {f:Nat->Nat}:atI ((vecN n f).map S.sh) (-1)=some (.sh (.int ((f n:Nat):Int))):=by
 have e1:atI ((vecN n f).map S.sh) (-1)=atI ((vecN n f).map S.sh) ((n:Nat):Int):=by
  unfold atI
  rw [List.length_map,za0]
  congr 1
  unfold ixN
  rw [qr (by decide),qq (by lia),qq (by lia),qq (by lia)]
  congr 1
  lia
 rw [e1,zdh (Nat.le_refl _)]
theorem zf9 {B:List Wd} {w:Wd} (hf:Fit B w)
  (h1:isFx B w=true->PX (.exc zaw [] []) [.sh (qP B),.sh (.str w)]) (h2:isFx B w=false->P (.sh (twinsD B w)) [.sh (qP B),.sh (.str w)]):w_4 [.sh (qP B),.sh (.str w)] P PX:=by
 have h12:=hf.tw
 refine zaY rfl rfl ?_
 simp! [e_C]
 refine zf3 hf ?_
 simp! [zao]
 have ed:∀ n:Nat,decide (((n:Nat):Int)=0)=decide (n=0):=fun n=>by simp
 simp! [ziy]
 rw [ed]
 cases q:decide (landP B w w.length=0)
 ·simp! [e_C]
  refine bm1 (n:=5) w (toD:=fun c=>D.str [c]) (fun _=>.sh (.bl false)) (fun c hc l o K hl hK=>?_) fun o=>?_
  ·simp! [x_bX,zcT,u_4_c1]
   exact ⟨by simp only [zai]; lia,hK _⟩
  ·simp! [zao]
   rw [zkG]
   refine bm2 (n:=5) (List.range w.length) (toD:=fun p=>D.tup [qU (landP B w p),qU (landP B w (p + 1))]) (fun p=>.sh (.bl (crs B w p))) (fun p hp l o o' K hl hK=>?_) fun o o'=>?_
   ·simp! [x_bX,zcT,u_4_c2,qU,ed,List.length_cons,List.length_nil]
    exact ⟨by simp only [zai]; rw [List.length_range] at hl; lia,hK _ _⟩
   ·have ew:List.map S.toD (List.map (fun _=>S.sh (D.bl false)) w)=(List.range w.length).map fun _=>D.bl false:=by
     rw [List.map_map]
     apply List.ext_getElem?
     intro j
     by_cases hj:j < w.length <;> simp [hj]
    have ec:List.map S.toD (List.map (fun p=>S.sh (D.bl (crs B w p))) (List.range w.length))=(List.range w.length).map fun p=>D.bl (crs B w p):=by rw [List.map_map]; rfl
    simp! [zao,ew,ec]
    refine zd4 (f:=fun _=>false) (by lia) ?_
    simp! [zao]
    refine zd4 (f:=crs B w) (by lia) ?_
    simp! [zao,List.length_cons,List.length_nil]
    exact h2 q
 ·simp! [e_C]
  exact h1 q
noncomputable abbrev fixS:List Nat:=[102,105,120,101,100]
noncomputable def toldD (B:List Wd) (w:Wd):D:=if isFx B w then .str fixS else twinsD B w
theorem zcN {B:List Wd} {w:Wd} (hf:Fit B w)
  (h:P (.sh (toldD B w)) [.sh (qP B),.sh (.str w)]):w_18 [.sh (qP B),.sh (.str w)] P PX:=by
 unfold toldD at h
 refine zaY rfl rfl ?_
 simp! [e_C]
 refine zf9 hf (fun q=>?_) fun q=>?_
 ·rw [qq q] at h
  have e0:([]:List (List Nat)).contains zaw=false:=rfl
  have e1:[zaw].contains zaw=true:=by decide
  simp! [e0,e1,List.length_cons,List.length_nil]
  exact h
 ·rw [qr (by rw [q]; decide)] at h
  simp! [e_C]
  exact h
theorem aa0 {j:Nat} {b:WE} {l r:List S} {U:Env} {Q:WQ} {E:WX}:kAA2 j b 0 (.lst l::r) U Q E=b (U.set j none) (kAA3 j 0 (.lst l::r) l Q) E:=zcg (by decide) rfl
theorem aa1 {j:Nat} {b:WE} {x:S} {l r:List S} {U:Env} {Q:WQ} {E:WX}:kAA2 j b 1 (x::.lst l::r) U Q E=b (U.set j none) (kAA3 j 1 (x::.lst l::r) l Q) E:=zcg (by decide) rfl
noncomputable def at2f {α:Type} {x y:α}:atI [x,y] (if false=true then 1 else 0)=some x:=rfl
noncomputable def at21 {α:Type} {x y:α}:atI [x,y] (if True then 1 else 0)=some y:=rfl
theorem zez {B:List Wd} {w:Wd} (h12:w.length<=60)
  (h:P (.sh (twinsD B w)) [.sh (qP B),.sh (.str w)]):w_17 [.sh (qP B),.sh (.str w)] P PX:=by
 refine zaY rfl rfl ?_
 simp! [e_C]
 refine zdQ (by lia) ?_
 simp! [zao]
 refine zbP (by lia) ?_
 simp! [zao]
 rw [zgi,List.length_map]
 refine za6 (fun pre U=>∃ o4 o5 o6 o7:Option S,U=[some (.sh (qP B)),some (.sh (.str w)),some (.sh (.lst (vecN w.length (landP B w)))),some (.lst [.lst ((pre.flatMap (dbl w fun _=>false)).map .sh),.lst ((pre.flatMap (dbl w (crs B w))).map .sh)]),o4,o5,o6,o7]) (List.range w.length) (fun pre k post D2 U e hI hnx hct hrt hbk=>?_) (fun U hI=>?_) ⟨none,none,none,none,rfl⟩
 ·obtain ⟨o4,o5,o6,o7,rfl⟩:=hI
  obtain ⟨hk1,hk2⟩:=zbh e
  have hl1:=zbV w (fun _=>false) pre
  have hl2:=zbV w (crs B w) pre
  have ed:∀ n:Nat,decide (((n:Nat):Int)=0)=decide (n=0):=fun n=>by simp
  have ek:((k:Int) + 1)=((k + 1:Nat):Int):=by simp
  simp! [u_17_b2,u_17_b1,List.length_cons,List.length_nil,zcj (show k<=w.length by lia),ek,zcj (show k + 1<=w.length by lia),ed]
  rw [show (!decide (decide (landP B w k=0)=decide (landP B w (k + 1)=0)))=crs B w k from rfl]
  have hm1:(pre++[k]).flatMap (dbl w fun _=>false)=pre.flatMap (dbl w fun _=>false)++dbl w (fun _=>false) k:=by simp
  have hm2:(pre++[k]).flatMap (dbl w (crs B w))=pre.flatMap (dbl w (crs B w))++dbl w (crs B w) k:=by simp
  rw [hm1,hm2] at hnx
  cases q:crs B w k
  all_goals
   simp! [e_Lp,u_17_b1,List.length_cons,List.length_nil,aa0,aa1,at2f,at21,List.set_cons_zero,List.set_cons_succ]
   refine ⟨by rw [List.length_map,hl1]; simp only [zai]; lia,by rw [List.length_map,hl2]; simp only [zai]; lia,by rw [List.length_append,List.length_map,hl1]; simp only [zai,List.length_singleton]; lia,by rw [List.length_append,List.length_map,hl2]; simp only [zai,List.length_singleton]; lia,hnx _ ⟨some (.sh (.int (k:Int))),some (.sh (colD w k)),some (.sh (.bl (crs B w k))),some (.sh (.int (2 * (k:Int) + 1))),?_⟩⟩
   simp [dbl,colD,q]
   lia
 ·obtain ⟨o4,o5,o6,o7,rfl⟩:=hI
  simp! [zao]
  refine bm1 (n:=8) [fun _=>false,crs B w] (toD:=fun g=>D.lst ((List.range w.length).flatMap (dbl w g))) (fun g=>.sh (dmapD w g)) (fun g hg l o K hl hK=>?_) fun o=>?_
  ·have hg2:=zbV w g (List.range w.length)
   rw [List.length_range] at hg2
   simp! [x_bX,zcT,u_17_c3,List.length_cons,List.length_nil]
   exact ⟨by simp only [List.length_cons,List.length_nil] at hl; simp only [zai]; lia,hK _⟩
  ·simp! [zao,List.length_cons,List.length_nil]
   exact h
theorem zgO {a s:Int} {col:List Nat} {B:List Wd} (ha:0<=a) (hs:1<=s) (hs2:s<=2147483629) (hc:0 < col.length) (hc2:col.length<=26) (hB:B.length<=1000) (hw:∀ w∈B,w.length<=1000/\∀ c∈w,c∈col)
  (h:∀ (t:Wd) a' s',t.length<=12->(∀ c∈t,c∈col)->0<=a'->1<=s'->s'<=2147483629->P (.sh (.str t)) [box a' s',.sh (qP B),.sh (.str col),.sh (.int 12)]):w_16 [box a s,.sh (qP B),.sh (.str col),.sh (.int 12)] P PX:=by
 refine zaY rfl rfl ?_
 simp! [box,List.length_cons,List.length_nil]
 refine zan ha hs hs2 (by lia) (by lia) fun r a1 s1 hr hr2 ha1 hs1 hs21=>?_
 simp! [box]
 cases q:decide (r=0)
 ·simp! [e_C]
  refine zia ha1 hs1 hs21 hc hc2 (by decide) (by decide) hB hw fun t a2 s2 ht htc ha2 hs2' hs22=>?_
  have ht:t.length<=12:=by simpa using ht
  simp! [box,zao]
  cases q1:decide (r=1)
  ·simp! [box]
   exact h t a2 s2 ht htc ha2 hs2' hs22
  ·simp! [box]
   refine zcw ha2 hs2' hs22 (by decide) (by decide) hc hc2 fun l a3 s3 hl hlc ha3 hs3 hs23=>?_
   have hl:l.length<=12:=by simpa using hl
   simp! [box,zao]
   refine h _ a3 s3 ?_ (fun c hc=>?_) ha3 hs3 hs23
   ·unfold cutL sIx
    simp
    lia
   ·exact (List.mem_append.mp (zaR hc)).elim (htc c) (hlc c)
 ·simp! [e_C]
  refine zcw ha1 hs1 hs21 (by decide) (by decide) hc hc2 fun l a2 s2 hl hlc ha2 hs2' hs22=>?_
  simp! [box]
  exact h l a2 s2 (by simpa using hl) hlc ha2 hs2' hs22
theorem zgo {B:List Wd} {w:Wd} (h12:w.length<=12) (hc:∀ c∈w,c < 1114112):okShow (toldD B w)=true:=by
 have one:∀ g,okSh (dmapD w g)=true/\dep (dmapD w g)<=4/\wtD (dmapD w g)<=5000:=fun g=>by
  have hl:=zbV w g (List.range w.length)
  rw [List.length_range] at hl
  have hd:∀ d∈(List.range w.length).flatMap (dbl w g),okSh d=true/\dep d<=1/\wtD d<=100:=fun d hd=>by
   obtain ⟨p,hp,hd⟩:=List.mem_flatMap.mp hd
   have hp:=List.mem_range.mp hp
   have ec:colD w p=.str [w[p]]:=by simp [colD,hp]
   have hcc:=hc w[p] (List.getElem_mem hp)
   have hx:∀ x y:Int,0<=x/\x<=100/\0<=y/\y<=100->okSh (.tup [.int x,colD w p,.int y])=true/\dep (.tup [.int x,colD w p,.int y])<=1/\wtD (.tup [.int x,colD w p,.int y])<=100:=fun x y hxy=>by
    rw [ec]
    refine ⟨?_,by simp [dep,deps],by simp [wtD,wtDs]⟩
    simp [okSh,okShs,hcc]
    lia
   have hb:(0:Int)<=(if g p then 1 else 0)/\(if g p then (1:Int) else 0)<=1:=by split <;> decide
   unfold dbl at hd
   rcases List.mem_cons.mp hd with e | hd
   ·rw [e]
    exact hx _ _ (by lia)
   ·rw [List.mem_singleton.mp hd]
    exact hx _ _ (by lia)
  have h1:=zcl _ fun d q=>(hd d q).1
  have h2:=zdq (n:=1) _ fun d q=>(hd d q).2.1
  have h3:=zeR (n:=100) _ fun d q=>(hd d q).2.2
  rw [hl] at h3
  refine ⟨?_,?_,?_⟩
  ·simp only [dmapD,okSh,okShs,h1,Bool.and_true,Bool.and_eq_true,qm]
   lia
  ·simp only [dmapD,dep,deps]
   lia
  ·simp only [dmapD,wtD,wtDs]
   lia
 unfold toldD
 split
 ·decide +kernel
 ·refine (ziT (n:=5000) (m:=4) (l:=[dmapD w fun _=>false,dmapD w (crs B w)]) (fun d hd=>?_) (by decide) (by simp)).2
  rcases (by simpa using hd:d=_\/d=_) with rfl | rfl
  ·exact one _
  ·exact one _
structure Ask where
 B:List Wd
 w:Wd
noncomputable def askD (c:Ask):D:=.tup [qP c.B,.str c.w,toldD c.B c.w]
noncomputable def GoodA (c:Ask):Prop:=Fit c.B c.w/\∀ x∈c.w,x < 1114112
theorem zlw {col:List Nat} {B:List Wd} {w:Wd} (h:goodB col 6 6 B) (hw:w.length<=12):Fit B w:=⟨h.2.1,fun x hx=>(h.2.2 x hx).1,fun x hx=>by have:=(h.2.2 x hx).2.1; lia,h.1,hw⟩
theorem zfh {B:List Wd} {w:Wd} (h:Fit B w):Fit (B.drop 1) w:=⟨h.nd.sublist (List.drop_sublist _ _),fun x hx=>h.ne x (List.mem_of_mem_drop hx),fun x hx=>h.3 x (List.mem_of_mem_drop hx),by rw [List.length_drop]; have:=h.six; lia,h.tw⟩
theorem pure_law:∀ ns:List Int,ns.length<=63->w_19 [.sh (.lst (ns.map .int))] (fun s _=>s=.sh (.bl true)) fun _ _=>False:=by
 intro ns hl
 refine zaY rfl rfl ?_
 simp! [List.length_map]
 refine zfc (by lia) fun a s ha hs hs2=>?_
 simp! [box]
 refine zan ha hs hs2 (by lia) (by lia) fun r a1 s1 hr hr2 ha1 hs1 hs21=>?_
 simp! [box,zao]
 refine zd5 ha1 hs1 hs21 (by lia) (by lia) fun col a2 s2 hcl hcp hcr ha2 hs2' hs22=>?_
 simp! [box,zao,List.length_map]
 generalize hz:(if (if (ns.length:Int) < 7 then (ns.length:Int) else 7) > 3 then (if (ns.length:Int) < 7 then (ns.length:Int) else 7) else 3)=z
 have hz1:3<=z/\z<=7:=by subst hz; split <;> split <;> lia
 refine ⟨by simp only [zai]; lia,?_⟩
 rw [show fromTo 1 (z - 1).toNat=(List.range (z - 1).toNat).map fun (k:Nat)=>D.int ((k:Int) + 1) by
  unfold fromTo
  exact List.map_congr_left fun k _=>by rw [Int.add_comm]]
 refine za6 (fun pre U=>∃ (A:List Ask) (o2 o4 o5 o6 o7 o8 o9 o10 o11:Option S),A.length=2 * pre.length/\(∀ c∈A,GoodA c)/\U=[some (.sh (.lst (ns.map .int))),some (.lst ((A.map askD).map .sh)),o2,some (.sh (.str col)),o4,o5,o6,o7,o8,o9,o10,o11]) (List.range (z - 1).toNat) (fun pre k post D2 U e hI hnx hct hrt hbk=>?_) (fun U hI=>?_) ⟨[],_,_,_,_,_,_,_,_,_,by simp,by simp,rfl⟩
 ·obtain ⟨A,o2,o4,o5,o6,o7,o8,o9,o10,o11,hA,hF,rfl⟩:=hI
  have hk:=zbh e
  simp! [u_19_b3]
  refine zfc (by lia) fun a s ha hs hs2=>?_
  simp! [box]
  refine zfI ha hs hs2 (by lia) (by lia) (by decide) (by decide) (by decide) (by decide) fun B a1 s1 hB ha1 hs1 hs21=>?_
  simp! [box,zao]
  have hB:goodB col 6 6 B:=hB
  refine zgO ha1 hs1 hs21 (by lia) (by lia) (by have:=hB.1; lia) (fun x hx=>⟨by have:=(hB.2.2 x hx).2.1; lia,(hB.2.2 x hx).2.2⟩) fun t a3 s3 ht htc ha3 hs3 hs23=>?_
  have htx:∀ c∈t,c < 1114112:=fun c hc=>by have:=hcr c (htc c hc); lia
  have hf:=zlw hB ht
  simp! [box,zao,qP,List.length_map,List.length_cons,List.length_nil]
  rw [show [D.tup (B.map D.str),D.tup (cutL (B.map D.str) (some 1) none)]=[B,B.drop 1].map qP by rw [zfC,zbO _ (by decide)]; rfl]
  refine za6 (fun pre U=>∃ (o7 o8:Option S),U=[some (.sh (.lst (ns.map .int))),some (.lst (((A++pre.map fun X=>(⟨X,t⟩:Ask)).map askD).map .sh)),some (box a3 s3),some (.sh (.str col)),some (.sh (.int ((k:Int) + 1))),some (.sh (qP B)),some (.sh (.str t)),o7,o8,o9,o10,o11]) [B,B.drop 1] (fun pre X post D3 U e2 hI hnx2 hct2 hrt2 hbk2=>?_) (fun U hI=>?_) ⟨o7,o8,by simp [box,qP]⟩
  ·obtain ⟨o7,o8,rfl⟩:=hI
   have hX:Fit X t:=by
    have:X∈[B,B.drop 1]:=by rw [<- e2]; simp
    rcases (by simpa using this:X=B\/X=B.drop 1) with rfl | rfl
    ·exact hf
    ·exact zfh hf
   have hp:pre.length<=2:=by have:=congrArg List.length e2; simp at this; lia
   simp! [u_19_b1]
   refine zdQ (by lia) ?_
   simp! [zao]
   refine zbP (by lia) ?_
   simp! [zao]
   simp! [zgC]
   have hn:(A++pre.map fun X=>(⟨X,t⟩:Ask)).length < 100:=by simp [hA]; lia
   cases q:isFx X t
   ·have q':decide (((landP X t t.length:Nat):Int) > 0)=true:=by
     have:=of_decide_eq_false q
     simp
     lia
    rw [q']
    simp! [e_C]
    refine zez (by lia) ?_
    simp! [zao,List.length_map,List.length_cons,List.length_nil]
    refine ⟨by simp only [zai]; lia,hnx2 _ ⟨some (.sh (qP X)),some (.sh (twinsD X t)),?_⟩⟩
    simp [askD,toldD,q]
   ·have q':decide (((landP X t t.length:Nat):Int) > 0)=false:=by
     have:=qo q
     simp
     lia
    rw [q']
    simp! [List.length_map,List.length_cons,List.length_nil]
    refine ⟨by simp only [zai]; lia,hnx2 _ ⟨some (.sh (qP X)),some (.sh (.str fixS)),?_⟩⟩
    simp [askD,toldD,q]
  ·obtain ⟨o7,o8,rfl⟩:=hI
   have hF':∀ c∈A++[(⟨B,t⟩:Ask),⟨B.drop 1,t⟩],GoodA c:=fun c hc=>by
    rcases List.mem_append.mp hc with hc | hc
    ·exact hF c hc
    ·rcases (by simpa using hc:c=⟨B,t⟩\/c=⟨B.drop 1,t⟩) with rfl | rfl
     ·exact ⟨hf,htx⟩
     ·exact ⟨zfh hf,htx⟩
   have hA':(A++[(⟨B,t⟩:Ask),⟨B.drop 1,t⟩]).length=2 * (pre++[k]).length:=by simp [hA]; lia
   have hs14:(A++[(⟨B,t⟩:Ask),⟨B.drop 1,t⟩]).length<=14:=by rw [hA']; simp; lia
   have b1:=zbr (A++[(⟨B,t⟩:Ask),⟨B.drop 1,t⟩]) (some (-3)) none
   have b2:=zbr (A++[(⟨B,t⟩:Ask),⟨B.drop 1,t⟩]) none (some 1)
   rw [show ([B,B.drop 1].map fun X=>(⟨X,t⟩:Ask))=[⟨B,t⟩,⟨B.drop 1,t⟩] from rfl]
   generalize A++[(⟨B,t⟩:Ask),⟨B.drop 1,t⟩]=A' at *
   simp! [zao,List.length_map,zfC]
   rw [<- List.map_append]
   have hG:∀ c∈cutL A' (some (-3)) none++cutL A' none (some 1),GoodA c:=fun c hc=>(List.mem_append.mp hc).elim (fun q=>hF' c (zaR q)) fun q=>hF' c (zaR q)
   generalize cutL A' (some (-3)) none++cutL A' none (some 1)=L at hG ⊢
   refine za6 (fun pre U=>∃ (o9 o10 o11:Option S),U=[some (.sh (.lst (ns.map .int))),some (.lst ((A'.map askD).map .sh)),some (box a3 s3),some (.sh (.str col)),some (.sh (.int ((k:Int) + 1))),some (.sh (qP B)),some (.sh (.str t)),o7,o8,o9,o10,o11]) L (fun pre c post D3 U e2 hI hnx2 hct2 hrt2 hbk2=>?_) (fun U hI=>?_) ⟨o9,o10,o11,rfl⟩
   ·obtain ⟨o9,o10,o11,rfl⟩:=hI
    have hc:=hG c (by rw [<- e2]; simp)
    simp! [u_19_b2,askD,List.length_cons,List.length_nil]
    refine zcN hc.1 ?_
    simp! [zao]
    exact ⟨zgo hc.1.tw hc.2,hnx2 _ ⟨_,_,_,rfl⟩⟩
   ·obtain ⟨o9,o10,o11,rfl⟩:=hI
    exact hnx _ ⟨A',_,_,_,_,_,_,_,_,_,hA',hF',rfl⟩
 ·obtain ⟨A,o2,o4,o5,o6,o7,o8,o9,o10,o11,hA,hF,rfl⟩:=hI
  have f1:Fit [] []:=⟨by simp,by simp,by simp,by simp,by simp⟩
  have f2:Fit [[97,97]] []:=⟨by simp,by simp,by simp,by simp,by simp⟩
  simp! [zao,List.length_cons,List.length_nil]
  have fx:∀ B,toldD B []=.str fixS:=fun B=>by
   have:isFx B []=true:=by
    have:=(ze8 B []).le 0
    simp [isFx]
    lia
   simp [toldD,this]
  refine zcN (B:=[]) f1 ?_
  simp! [zao,fx]
  refine zcN (B:=[[97,97]]) f2 ?_
  simp! [zao,fx]
end pu
end Law
section
set_option maxHeartbeats 4000000
namespace Law
open PySem PySem.Spec PyProof.Rows L2 FL
local macro_rules
 | `(tactic| trivial)=>`(tactic| first | exact Or.inl rfl | exact Or.inr rfl)
def top (i:Nat):Stmt:=PySem.Challenge.pw_walktold_k41_twins_room_by_room.main.body.getD i (.Pass ⟨0,0,0,0⟩)
noncomputable abbrev s_0:Stmt:=top 9
noncomputable def n_0:List Str:=["board","word"]
noncomputable abbrev p_0:List Str:=["board","word"]
theorem sc_0:FnScope n_0 p_0 (defScope s_0):=msc
noncomputable abbrev s_1:Stmt:=top 10
noncomputable def n_1:List Str:=["board","word"]
noncomputable abbrev p_1:List Str:=["board","word"]
theorem sc_1:FnScope n_1 p_1 (defScope s_1):=msc
noncomputable abbrev s_2:Stmt:=top 11
noncomputable def n_2:List Str:=["land","ends","told","i","j"]
noncomputable abbrev p_2:List Str:=["land","ends"]
theorem sc_2:FnScope n_2 p_2 (defScope s_2):=msc
noncomputable abbrev s_3:Stmt:=top 12
noncomputable def n_3:List Str:=["land","i","j","low","high"]
noncomputable abbrev p_3:List Str:=["land","i","j"]
theorem sc_3:FnScope n_3 p_3 (defScope s_3):=msc
noncomputable abbrev s_4:Stmt:=top 14
noncomputable def n_4:List Str:=["board","word","land","straight","crossed"]
noncomputable abbrev p_4:List Str:=["board","word"]
theorem sc_4:FnScope n_4 p_4 (defScope s_4):=msc
noncomputable abbrev s_5:Stmt:=top 15
noncomputable def n_5:List Str:=["word","crossed","streets","place","colour","turn"]
noncomputable abbrev p_5:List Str:=["word","crossed"]
theorem sc_5:FnScope n_5 p_5 (defScope s_5):=msc
noncomputable abbrev s_6:Stmt:=top 17
noncomputable def n_6:List Str:=["_law_script","_law_k","_law_cell","_law_seed"]
noncomputable abbrev p_6:List Str:=["_law_script","_law_k"]
theorem sc_6:FnScope n_6 p_6 (defScope s_6):=msc
noncomputable abbrev s_7:Stmt:=top 18
noncomputable def n_7:List Str:=["_law_box_here","_law_many","_law_digit","_law_one"]
noncomputable abbrev p_7:List Str:=["_law_box_here","_law_many"]
theorem sc_7:FnScope n_7 p_7 (defScope s_7):=msc
noncomputable abbrev s_8:Stmt:=top 19
noncomputable def n_8:List Str:=["_law_box_here","_law_many","_law_left"]
noncomputable abbrev p_8:List Str:=["_law_box_here","_law_many"]
theorem sc_8:FnScope n_8 p_8 (defScope s_8):=msc
noncomputable abbrev s_9:Stmt:=top 20
noncomputable def n_9:List Str:=["_law_box_here","_law_colours_here","_law_most","_law_many"]
noncomputable abbrev p_9:List Str:=["_law_box_here","_law_colours_here","_law_most"]
theorem sc_9:FnScope n_9 p_9 (defScope s_9):=msc
noncomputable abbrev s_10:Stmt:=top 21
noncomputable def n_10:List Str:=["_law_box_here","_law_colours_here","_law_board_here","_law_one","_law_kind","_law_colour","_law_at"]
noncomputable abbrev p_10:List Str:=["_law_box_here","_law_colours_here","_law_board_here"]
theorem sc_10:FnScope n_10 p_10 (defScope s_10):=msc
noncomputable abbrev s_11:Stmt:=top 22
noncomputable def n_11:List Str:=["_law_box_here","_law_colours_here","_law_many","_law_most","_law_found","_law_k","_law_word_here"]
noncomputable abbrev p_11:List Str:=["_law_box_here","_law_colours_here","_law_many","_law_most"]
theorem sc_11:FnScope n_11 p_11 (defScope s_11):=msc
noncomputable abbrev s_12:Stmt:=top 23
noncomputable def n_12:List Str:=["_law_board_here","_law_text","_law_p","_law_most","_law_found","_law_one"]
noncomputable abbrev p_12:List Str:=["_law_board_here","_law_text","_law_p","_law_most"]
theorem sc_12:FnScope n_12 p_12 (defScope s_12):=msc
noncomputable abbrev s_13:Stmt:=top 24
noncomputable def n_13:List Str:=["_law_box_here","_law_board_here","_law_colours_here","_law_most","_law_text","_law_p","_law_turn","_law_some","_law_one","_law_goal","_law_at"]
noncomputable abbrev p_13:List Str:=["_law_box_here","_law_board_here","_law_colours_here","_law_most"]
theorem sc_13:FnScope n_13 p_13 (defScope s_13):=msc
noncomputable abbrev s_14:Stmt:=top 25
noncomputable def n_14:List Str:=["_law_board_here","_law_word_here","_law_found","_law_i","_law_j"]
noncomputable abbrev p_14:List Str:=["_law_board_here","_law_word_here"]
theorem sc_14:FnScope n_14 p_14 (defScope s_14):=msc
noncomputable abbrev s_15:Stmt:=top 26
noncomputable def n_15:List Str:=["_law_ties_here","_law_found","_law_ahead","_law_p","_law_some"]
noncomputable abbrev p_15:List Str:=["_law_ties_here"]
theorem sc_15:FnScope n_15 p_15 (defScope s_15):=msc
noncomputable abbrev s_16:Stmt:=top 27
noncomputable def n_16:List Str:=["_law_box_here","_law_board_here","_law_colours_here","_law_most","_law_kind","_law_found"]
noncomputable abbrev p_16:List Str:=["_law_box_here","_law_board_here","_law_colours_here","_law_most"]
theorem sc_16:FnScope n_16 p_16 (defScope s_16):=msc
noncomputable abbrev s_17:Stmt:=top 28
noncomputable def n_17:List Str:=["_law_board_here","_law_word_here","_law_where","_law_sides","_law_p","_law_colour","_law_odd","_law_x"]
noncomputable abbrev p_17:List Str:=["_law_board_here","_law_word_here"]
theorem sc_17:FnScope n_17 p_17 (defScope s_17):=msc
noncomputable abbrev s_18:Stmt:=top 29
noncomputable def n_18:List Str:=["_law_board_here","_law_word_here","_law_caught","e"]
noncomputable abbrev p_18:List Str:=["_law_board_here","_law_word_here"]
theorem sc_18:FnScope n_18 p_18 (defScope s_18):=msc
noncomputable abbrev s_19:Stmt:=top 30
noncomputable def n_19:List Str:=["_law_script","_law_met","_law_box_here","_law_colours_here","_law_k","_law_board_here","_law_word_here","_law_other","_law_due","_law_one","_law_text","_law_maps"]
noncomputable abbrev p_19:List Str:=["_law_script"]
theorem sc_19:FnScope n_19 p_19 (defScope s_19):=msc
structure Txt (K:W.Frag) (mg:Str->Option Value) (af:Nat->Addr):Prop where
 t_0:Tx K mg (af 0) "stretches" s_0 p_0
 t_1:Tx K mg (af 1) "lands" s_1 p_1
 t_2:Tx K mg (af 2) "all_joined" s_2 p_2
 t_3:Tx K mg (af 3) "land_joined" s_3 p_3
 t_4:Tx K mg (af 4) "twins" s_4 p_4
 t_5:Tx K mg (af 5) "double_map" s_5 p_5
 t_6:Tx K mg (af 6) "_law_box" s_6 p_6
 t_7:Tx K mg (af 7) "_law_take" s_7 p_7
 t_8:Tx K mg (af 8) "_law_colours" s_8 p_8
 t_9:Tx K mg (af 9) "_law_word" s_9 p_9
 t_10:Tx K mg (af 10) "_law_near" s_10 p_10
 t_11:Tx K mg (af 11) "_law_board" s_11 p_11
 t_12:Tx K mg (af 12) "_law_moves" s_12 p_12
 t_13:Tx K mg (af 13) "_law_led" s_13 p_13
 t_14:Tx K mg (af 14) "_law_ties" s_14 p_14
 t_15:Tx K mg (af 15) "_law_lands" s_15 p_15
 t_16:Tx K mg (af 16) "_law_any_word" s_16 p_16
 t_17:Tx K mg (af 17) "_law_twins" s_17 p_17
 t_18:Tx K mg (af 18) "_law_told" s_18 p_18
 t_19:Tx K mg (af 19) "law" s_19 p_19
 n_ValueError:mg "ValueError"=none
 n_enumerate:mg "enumerate"=none
 n_int:mg "int"=none
 n_isinstance:mg "isinstance"=none
 n_len:mg "len"=none
 n_list:mg "list"=none
 n_max:mg "max"=none
 n_min:mg "min"=none
 n_range:mg "range"=none
 n_repr:mg "repr"=none
 n_sorted:mg "sorted"=none
 n_tuple:mg "tuple"=none
 n_zip:mg "zip"=none
 g_IsFixed:mg "IsFixed"=some (.ref (af 20))
 g_WalkError:mg "WalkError"=some (.ref (af 21))
 g_TooMany:mg "TooMany"=some (.ref (af 22))
 g_NoRow:mg "NoRow"=some (.ref (af 23))
 g_NoMap:mg "NoMap"=some (.ref (af 24))
 g_NoBoard:mg "NoBoard"=some (.ref (af 25))
 g_BadText:mg "BadText"=some (.ref (af 26))
 k_IsFixed:W.nsIn K mainGlobals "IsFixed"=some (some (.ref (af 20)))
 e_IsFixed:W.excIn K (af 20) bmVE neVE=true
 k_WalkError:W.nsIn K mainGlobals "WalkError"=some (some (.ref (af 21)))
 m_IsFixed_WalkError:W.mroIn K (af 20) (.ref (af 21))=some true
 e_WalkError:W.excIn K (af 21) bmVE neVE=true
 i_BadText_NoBoard_NoMap_NoRow_TooMany_0:W.kitAny K (.type "NoneType") [.ref (af 26),.ref (af 25),.ref (af 24),.ref (af 23),.ref (af 22)]=some false
 x0_IsFixed:W.findIn K (.ref (af 20)) "__getattribute__"=some (some (.builtin "BaseException.__getattribute__"))
 x1_IsFixed:W.findIn K (.ref (af 20)) "__getattr__"=some none
 x2_IsFixed:W.findIn K (.ref (af 20)) "__class__"=some (some (.builtin "object.__class__"))
 x3_IsFixed:W.specialIn K (.builtin "object.__class__") "__get__"=some (some (.builtin "getset_descriptor.__get__"))
 x4_IsFixed:W.takesIn K (.builtin "object.__class__")=some true
 x5_IsFixed:W.mroIn K (af 20) (.type "object")=some true
 x6_IsFixed:W.mroIn K (af 20) (.type "BaseException")=some true
 i_BadText_NoBoard_NoMap_NoRow_TooMany_IsFixed:W.kitAny K (.ref (af 20)) [.ref (af 26),.ref (af 25),.ref (af 24),.ref (af 23),.ref (af 22)]=some false
 k_TooMany:W.nsIn K mainGlobals "TooMany"=some (some (.ref (af 22)))
 k_NoRow:W.nsIn K mainGlobals "NoRow"=some (some (.ref (af 23)))
 k_NoMap:W.nsIn K mainGlobals "NoMap"=some (some (.ref (af 24)))
 k_NoBoard:W.nsIn K mainGlobals "NoBoard"=some (some (.ref (af 25)))
 k_BadText:W.nsIn K mainGlobals "BadText"=some (some (.ref (af 26)))
 i_ValueError_0:W.kitOne K (.type "NoneType") (.type "ValueError")=some false
 i_ValueError_IsFixed:W.kitOne K (.ref (af 20)) (.type "ValueError")=some true
 i_IsFixed_0:W.kitOne K (.type "NoneType") (.ref (af 20))=some false
 i_IsFixed_IsFixed:W.kitOne K (.ref (af 20)) (.ref (af 20))=some true
section
variable {P:Program} {w:World} {K:W.Frag} {mg:Str->Option Value} {base:Heap} {af:Nat->Addr}
theorem ok_0 (T:Txt K mg af):FnK P w K mg base af 1 0 p_0 (spW K w_0 2):=fn2 T.t_0 sc_0 fun _ _ _ _ _ _ hr=>zaf (zar (zdv (by rfl) T.n_sorted zco (zaa (zlV (vars:=["i","k","one"]) rfl (zhE hr) (by rfl) (compSc (by kernel_rfl)) rfl (zaO (by rfl) T.n_range (zap (by rfl) T.n_len (zaa (fw 1) zab))) (fun _ _ _=>gcm 3) (fun _ _ _=>zaM) (fun _ _ _=>zdH (by rfl) (by rfl) T.n_enumerate zaT (fw 0)) (fun _ _ _=>zbg (by rfl) (zak (gcm 4) (zak (gcm 5) zaJ))) (fun _ _ _=>zgh rfl (zav (fun _ _=>zaN (u31 hr)) zay (ze1 (fw 1) (fw 3) (zaj (fw 3) (zap (by rfl) T.n_len (zaa (fw 5) zab)))) (fw 5) (nomark _))) (fun _ _ _=>zaB (zaa (fw 3) (zaa (zaj (fw 3) (zap (by rfl) T.n_len (zaa (fw 5) zab))) (zaa (fw 4) zab))))) zab)))
theorem ok_3 (T:Txt K mg af):FnK P w K mg base af 1 3 p_3 (spW K w_3 3):=fn2 T.t_3 sc_3 fun _ _ _ _ _ _ hr=>zac (zah (zaB (zaa (zjg (by rfl) (by rfl) T.n_min zgn (zaa (zaz (fw 0) (fw 1)) (zaa (zaz (fw 0) (fw 2)) zab))) (zaa (zjm (by rfl) (by rfl) T.n_max zjt (zaa (zaz (fw 0) (fw 1)) (zaa (zaz (fw 0) (fw 2)) zab))) zab))) (zbg (by rfl) (zak (gnm 3 sc_3.nd) (zak (gnm 4 sc_3.nd) zaJ))))
  (zaf (zar (zcP (vars:=["one"]) rfl (by rfl) (compSc (by kernel_rfl)) rfl (za7 (fw 0)) (fun _ _ _=>gcm 6) (fun _ _ _=>zaM) (fun _ _ _=>zfB (zav (fun _ _=>zaN (u31 hr)) zay (fw 6) (fw 4) (nomark _)) (fw 3) (fw 6)))))
theorem ok_5 (T:Txt K mg af):FnK P w K mg base af 1 5 p_5 (spW K w_5 2):=fn2 T.t_5 sc_5 fun _ _ _ _ _ _ hr=>zac (zah (zaF zab) (gnm 2 sc_5.nd))
  (zac (zaX (by rfl) (zdH (by rfl) (by rfl) T.n_enumerate zaT (fw 0)) (zbg (by rfl) (zak (gnm 3 sc_5.nd) (zak (gnm 4 sc_5.nd) zaJ))) (zac (zah (zfB (zgj (zaz (fw 1) (fw 3))) zad zad) (gnm 5 sc_5.nd))
  (zac (zaU (zaW (j:=2) (fw 2) (zaB (zaa (zat zad (fw 3)) (zaa (fw 4) (zaa (zaj (zaj (zat zad (fw 3)) zad) (fw 5)) zab))))))
  (zaf (zaU (zaW (j:=2) (fw 2) (zaB (zaa (zaj (zat zad (fw 3)) zad) (zaa (fw 4) (zaa (zc5 (zaj (zat zad (fw 3)) zad) (fw 5)) zab))))))))))
  (zaf (zar (zaB (zaa (zaj (zat zad (zap (by rfl) T.n_len (zaa (fw 0) zab))) zad) (zaa (zbj (by rfl) T.n_tuple zbo (zaa (fw 2) zab)) zab))))))
theorem ok_6 (T:Txt K mg af):FnK P w K mg base af 1 6 p_6 (spW K w_6 2):=fn2 T.t_6 sc_6 fun _ _ _ _ _ _ hr=>zac (zah (zaj (zat zad (fw 1)) zad) (gnm 2 sc_6.nd))
  (zac (za8 (zav (fun _ _=>zlD) zjR (fw 1) (zap (by rfl) T.n_len (zaa (fw 0) zab)) (nomark _)) (zaf (zah (zaz (fw 0) (fw 1)) (gnm 2 sc_6.nd))) (zaf (za8 (zav (fun _ _=>zc1) zbZ (zap (by rfl) T.n_len (zaa (fw 0) zab)) zad (nomark _)) (zaf (zah (zaj (fw 2) (zat (zb4 (zaz (fw 0) (zb4 (fw 1) (zap (by rfl) T.n_len (zaa (fw 0) zab)))) zad) zad)) (gnm 2 sc_6.nd))) zax)))
  (zac (zah (zaj (zb4 (zaj (zat (zb4 (fw 2) zad) zad) (zat zad (fw 1))) zad) zad) (gnm 3 sc_6.nd))
  (zaf (zar (zaF (zaa (zaz (zaF (zaa zad (zaa (fw 2) zab))) (zcy (by rfl) T.n_int zeb (zaa (zbc (fun _ _=>zjl) zha (fw 2) (zmk zad zad) (nomark _)) zab))) (zaa (fw 3) zab)))))))
theorem ok_7 (T:Txt K mg af):FnK P w K mg base af 1 7 p_7 (spW K w_7 2):=fn2 T.t_7 sc_7 fun _ _ _ _ _ _ hr=>zac (za8 (zav (fun _ _=>zc1) zbZ (zaz (fw 0) zad) zad (nomark _)) (zac (zah (zb4 (zaz (fw 0) zad) (fw 1)) (gnm 2 sc_7.nd))
  (zac (zdj (j:=0) (fw 0) zad (zhY (zaz (fw 0) zad) (fw 1)))
  (zaf (zar (fw 2))))) zax)
  (zac (zah (zb4 (zat (zaz (fw 0) zad) zad) zad) (gnm 3 sc_7.nd))
  (zac (zdj (j:=0) (fw 0) zad (zaj (zb4 (zaj (zat (fw 3) zad) zad) zad) zad))
  (zaf (zar (zb4 (zhY (zaj (zat (fw 3) zad) (zaz (fw 0) zad)) zad) (fw 1))))))
theorem ok_12 (T:Txt K mg af):FnK P w K mg base af 1 12 p_12 (spW K w_12 4):=fn2 T.t_12 sc_12 fun _ _ _ _ _ _ hr=>zac (zah (zaF zab) (gnm 4 sc_12.nd))
  (zac (zaX (by rfl) (za7 (fw 0)) (gnm 5 sc_12.nd) (zac (za8 (zhM (ze3 (zav (fun _ _=>zaN (u31 hr)) zay (ze1 (fw 1) (fw 2) (zaj (fw 2) (zap (by rfl) T.n_len (zaa (fw 5) zab)))) (zcu (fw 5) (zc5 (zap (by rfl) T.n_len (zaa (fw 1) zab)) (fw 2))) (nomark _)) (zdm (zav (fun _ _=>zlc) zj6 (zaj (fw 2) (zap (by rfl) T.n_len (zaa (fw 5) zab))) (fw 3) (nomark _))))) (zaf (zaU (zaW (j:=4) (fw 4) (zaB (zaa (fw 5) (zaa (zaj (fw 2) (zap (by rfl) T.n_len (zaa (fw 5) zab))) zab)))))) zax)
  (zaf (za8 (zhM (ze3 (zav (fun _ _=>zjl) zha (fw 2) (zap (by rfl) T.n_len (zaa (fw 5) zab)) (nomark _)) (zdm (zav (fun _ _=>zaN (u31 hr)) zay (ze1 (fw 1) (zc5 (fw 2) (zap (by rfl) T.n_len (zaa (fw 5) zab))) (fw 2)) (fw 5) (nomark _))))) (zaf (zaU (zaW (j:=4) (fw 4) (zaB (zaa (fw 5) (zaa (zc5 (fw 2) (zap (by rfl) T.n_len (zaa (fw 5) zab))) zab)))))) zax))))
  (zaf (zar (fw 4))))
theorem ok_14 (T:Txt K mg af):FnK P w K mg base af 1 14 p_14 (spW K w_14 2):=fn2 T.t_14 sc_14 fun _ _ _ _ _ _ hr=>zac (zbQ (i:=2) (by decide) (fun j hj=>zbn sc_14.nd hj rfl) rfl (by rfl) (by rfl) (vars:=["_law_p"]) rfl (by rfl) (compSc (by kernel_rfl)) rfl (zaO (by rfl) T.n_range (zaj (zap (by rfl) T.n_len (zaa (fw 1) zab)) zad)) (fun _ _ _=>gcm 6) (fun _ _ _=>zaM) (fun _ _ _=>zaF zab))
  (zac (zaX (by rfl) (zaO (by rfl) T.n_range (zap (by rfl) T.n_len (zaa (fw 1) zab))) (gnm 3 sc_14.nd) (zaf (zaX (by rfl) (zd7 (by rfl) T.n_range (zaj (fw 3) zad) (zaj (zap (by rfl) T.n_len (zaa (fw 1) zab)) zad)) (gnm 4 sc_14.nd) (zaf (za8 (zav (fun _ _=>zlL (u32 hr)) ziR (ze1 (fw 1) (fw 3) (fw 4)) (fw 0) (by with_unfolding_all rfl)) (zac (zaU (za5 (j:=2) (fw 2) (fw 3) (fw 4)))
  (zaf (zaU (za5 (j:=2) (fw 2) (fw 4) (fw 3))))) zax)))))
  (zaf (zar (zcP (vars:=["_law_some"]) rfl (by rfl) (compSc (by kernel_rfl)) rfl (za7 (fw 2)) (fun _ _ _=>gcm 6) (fun _ _ _=>zaM) (fun _ _ _=>zaH (zdv (by rfl) T.n_sorted zco (zaa (fw 6) zab)))))))
theorem ok_15 (T:Txt K mg af):FnK P w K mg base af 1 15 p_15 (spW K w_15 1):=fn2 T.t_15 sc_15 fun _ _ _ _ _ _ hr=>zac (zah (zhU (by rfl) (by rfl) T.n_list zdt (by rfl) T.n_range (zap (by rfl) T.n_len (zaa (fw 0) zab))) (gnm 1 sc_15.nd))
  (zac (zah (zaH (zaF zab)) (gnm 2 sc_15.nd))
  (zac (zij (zav (fun _ _=>zbS (u32 hr)) zbi (fw 2) (fw 1) (nomark _)) (zac (zah (zaH (zdn (by rfl) (by rfl) T.n_list zdt (zaa (fw 1) zab))) (gnm 2 sc_15.nd))
  (zaf (zaX (by rfl) (zdH (by rfl) (by rfl) T.n_enumerate zaT (fw 0)) (zbg (by rfl) (zak (gnm 3 sc_15.nd) (zak (gnm 4 sc_15.nd) zaJ))) (zaf (zdj (j:=1) (fw 1) (fw 3) (zkq (by rfl) (by rfl) T.n_min zgn (zaa (zaj (zaF (zaa (zaz (fw 1) (fw 3)) zab)) (zcP (vars:=["_law_q"]) rfl (by rfl) (compSc (by kernel_rfl)) rfl (za7 (fw 4)) (fun _ _ _=>gcm 6) (fun _ _ _=>zaM) (fun _ _ _=>zaz (fw 1) (fw 6)))) zab))))))))
  (zaf (zar (fw 1)))))
theorem ok_2 (T:Txt K mg af):FnK P w K mg base af 2 2 p_2 (spW K w_2 2):=fn2 T.t_2 sc_2 fun _ _ _ _ _ _ hr=>zac (zah (zaH (zdn (by rfl) (by rfl) T.n_list zdt (zaa (fw 0) zab))) (gnm 2 sc_2.nd))
  (zac (zaX (by rfl) (za7 (fw 1)) (zbg (by rfl) (zak (gnm 3 sc_2.nd) (zak (gnm 4 sc_2.nd) zaJ))) (zaf (zah (zaH (fcl [true,true,true] T.t_3 (ok_3 T) hr (zaa (fw 2) (zaa (fw 3) (zaa (fw 4) zab))))) (gnm 2 sc_2.nd))))
  (zaf (zar (zbj (by rfl) T.n_tuple zbo (zaa (fw 2) zab)))))
theorem ok_8 (T:Txt K mg af):FnK P w K mg base af 2 8 p_8 (spW K w_8 2):=fn2 T.t_8 sc_8 fun _ _ _ _ _ _ hr=>zac (zah (zdn (by rfl) (by rfl) T.n_list zdt (zaa (zaG (by rfl) (by decide)) zab)) (gnm 2 sc_8.nd))
  (zaf (zar (zg6 (zaG (by rfl) (by decide)) (zaa (zdv (by rfl) T.n_sorted zco (zaa (zcP (vars:=["_law_k"]) rfl (by rfl) (compSc (by kernel_rfl)) rfl (zaO (by rfl) T.n_range (fw 1)) (fun _ _ _=>gcm 4) (fun _ _ _=>zaM) (fun _ _ _=>zaH (ziJ (j:=2) (fw 2) (fcl [true,true] T.t_7 (ok_7 T) hr (zaa (fw 0) (zaa (zap (by rfl) T.n_len (zaa (fw 2) zab)) zab)))))) zab)) zab))))
theorem ok_9 (T:Txt K mg af):FnK P w K mg base af 2 9 p_9 (spW K w_9 3):=fn2 T.t_9 sc_9 fun _ _ _ _ _ _ hr=>zac (zah (zat (fcl [true,true] T.t_7 (ok_7 T) hr (zaa (fw 0) (zaa (zaj (fw 2) zad) zab))) (zcy (by rfl) T.n_int zeb (zaa (zbc (fun _ _=>zbS (u32 hr)) zbi (fw 1) (zaG (by rfl) (by decide)) (nomark _)) zab))) (gnm 3 sc_9.nd))
  (zaf (zar (zg6 (zaG (by rfl) (by decide)) (zaa (zcP (vars:=["_law_k"]) rfl (by rfl) (compSc (by kernel_rfl)) rfl (zaO (by rfl) T.n_range (fw 3)) (fun _ _ _=>gcm 5) (fun _ _ _=>zaM) (fun _ _ _=>zaz (fw 1) (fcl [true,true] T.t_7 (ok_7 T) hr (zaa (fw 0) (zaa (zap (by rfl) T.n_len (zaa (fw 1) zab)) zab))))) zab))))
theorem ok_10 (T:Txt K mg af):FnK P w K mg base af 2 10 p_10 (spW K w_10 3):=fn2 T.t_10 sc_10 fun _ _ _ _ _ _ hr=>zac (zah (zaz (fw 2) (fcl [true,true] T.t_7 (ok_7 T) hr (zaa (fw 0) (zaa (zap (by rfl) T.n_len (zaa (fw 2) zab)) zab)))) (gnm 3 sc_10.nd))
  (zac (zah (fcl [true,true] T.t_7 (ok_7 T) hr (zaa (fw 0) (zaa zad zab))) (gnm 4 sc_10.nd))
  (zac (zah (zaz (fw 1) (fcl [true,true] T.t_7 (ok_7 T) hr (zaa (fw 0) (zaa (zap (by rfl) T.n_len (zaa (fw 1) zab)) zab)))) (gnm 5 sc_10.nd))
  (zac (zah (fcl [true,true] T.t_7 (ok_7 T) hr (zaa (fw 0) (zaa (zap (by rfl) T.n_len (zaa (fw 3) zab)) zab))) (gnm 6 sc_10.nd))
  (zaf (zar (zaz (zaF (zaa (zcu (fw 3) (zaj (fw 6) zad)) (zaa (zc6 (fw 3) (fw 6)) (zaa (zaj (fw 5) (fw 3)) (zaa (zaj (fw 3) (fw 5)) (zaa (zaj (fw 3) (fw 3)) zab)))))) (fw 4)))))))
theorem ok_13 (T:Txt K mg af):FnK P w K mg base af 2 13 p_13 (spW K w_13 4):=fn2 T.t_13 sc_13 fun _ _ _ _ _ _ hr=>zac (zah (zaB (zaa (zaG (by rfl) (by decide)) (zaa zad zab))) (zbg (by rfl) (zak (gnm 4 sc_13.nd) (zak (gnm 5 sc_13.nd) zaJ))))
  (zac (zaX (by rfl) (zaO (by rfl) T.n_range (zaj zad (fcl [true,true] T.t_7 (ok_7 T) hr (zaa (fw 0) (zaa zad zab))))) (gnm 6 sc_13.nd) (zac (zah (zaH (fcl [true,true,true,true] T.t_12 (ok_12 T) hr (zaa (fw 1) (zaa (fw 4) (zaa (fw 5) (zaa (fw 3) zab)))))) (gnm 7 sc_13.nd))
  (zac (za8 (zav (fun _ _=>zc1) zbZ (fw 6) zad (nomark _)) (zaf (zjH (zbQ (i:=7) (by decide) (fun j hj=>zbn sc_13.nd hj rfl) rfl (by rfl) (by rfl) (vars:=["_law_move"]) rfl (by rfl) (compSc (by kernel_rfl)) rfl (za7 (fw 7)) (fun _ _ _=>gcm 12) (fun _ _ _=>zgh rfl (zav (fun _ _=>zc1) zbZ (zaz (fw 12) zad) (fw 5) (nomark _))) (fun _ _ _=>fw 12)))) zax)
  (zaf (za8 (zav (fun _ _=>zbS (u32 hr)) zbi (fw 7) (zaF zab) (nomark _)) (zac (zah (zaz (fw 7) (fcl [true,true] T.t_7 (ok_7 T) hr (zaa (fw 0) (zaa (zap (by rfl) T.n_len (zaa (fw 7) zab)) zab)))) (zbg (by rfl) (zak (gnm 8 sc_13.nd) (zak (gnm 9 sc_13.nd) zaJ))))
  (zac (za8 (zav (fun _ _=>zc1) zbZ (fw 9) (fw 5) (nomark _)) (zaf (zah (zaj (zaj (zcu (fw 4) (fw 5)) (fw 8)) (zc6 (fw 4) (fw 9))) (gnm 4 sc_13.nd))) zax)
  (zaf (zah (fw 9) (gnm 5 sc_13.nd))))) zax)))))
  (zac (za8 (zhM (ze3 (zav (fun _ _=>zbS (u32 hr)) zbi (fw 4) (zaG (by rfl) (by decide)) (nomark _)) (zdm (zav (fun _ _=>zaN (u31 hr)) zay (fcl [true,true] T.t_7 (ok_7 T) hr (zaa (fw 0) (zaa zad zab))) zad (nomark _))))) (zac (zah (fcl [true,true] T.t_7 (ok_7 T) hr (zaa (fw 0) (zaa (zap (by rfl) T.n_len (zaa (fw 4) zab)) zab))) (gnm 10 sc_13.nd))
  (zaf (zah (zaj (zaj (zcu (fw 4) (fw 10)) (zaz (fw 2) (fcl [true,true] T.t_7 (ok_7 T) hr (zaa (fw 0) (zaa (zap (by rfl) T.n_len (zaa (fw 2) zab)) zab))))) (zc6 (fw 4) (zaj (fw 10) zad))) (gnm 4 sc_13.nd)))) zax)
  (zaf (zar (fw 4)))))
theorem ok_17 (T:Txt K mg af):FnK P w K mg base af 2 17 p_17 (spW K w_17 2):=fn2 T.t_17 sc_17 fun _ _ _ _ _ _ hr=>zac (zah (zaH (fcl [true] T.t_15 (ok_15 T) hr (zaa (zaH (fcl [true,true] T.t_14 (ok_14 T) hr (zaa (fw 0) (zaa (fw 1) zab)))) zab))) (gnm 2 sc_17.nd))
  (zac (zah (zaF (zaa (zaF zab) (zaa (zaF zab) zab))) (gnm 3 sc_17.nd))
  (zac (zaX (by rfl) (zdH (by rfl) (by rfl) T.n_enumerate zaT (fw 1)) (zbg (by rfl) (zak (gnm 4 sc_17.nd) (zak (gnm 5 sc_17.nd) zaJ))) (zac (zah (zbc (fun _ _=>zbS (u32 hr)) zbi (zbc (fun _ _=>zaN (u31 hr)) zay (zaz (fw 2) (fw 4)) zad (nomark _)) (zbc (fun _ _=>zaN (u31 hr)) zay (zaz (fw 2) (zaj (fw 4) zad)) zad (nomark _)) (nomark _)) (gnm 6 sc_17.nd))
  (zaf (zaX (by rfl) (za7 (zaB (zaa (zat zad (fw 4)) (zaa (zaj (zat zad (fw 4)) zad) zab)))) (gnm 7 sc_17.nd) (zac (zaU (za5 (j:=3) (fw 3) zad (zaB (zaa (fw 7) (zaa (fw 5) (zaa (zaj (fw 7) zad) zab))))))
  (zaf (zaU (za5 (j:=3) (fw 3) zad (zaB (zaa (fw 7) (zaa (fw 5) (zaa (zaz (zaF (zaa (zaj (fw 7) zad) (zaa (zc5 (zaj (zat zad (fw 4)) zad) (fw 7)) zab))) (zcy (by rfl) T.n_int zeb (zaa (fw 6) zab))) zab))))))))))))
  (zaf (zar (zbj (by rfl) T.n_tuple zbo (zaa (zcP (vars:=["_law_streets"]) rfl (by rfl) (compSc (by kernel_rfl)) rfl (za7 (fw 3)) (fun _ _ _=>gcm 9) (fun _ _ _=>zaM) (fun _ _ _=>zaB (zaa (zaj (zat zad (zap (by rfl) T.n_len (zaa (fw 1) zab))) zad) (zaa (zbj (by rfl) T.n_tuple zbo (zaa (fw 9) zab)) zab)))) zab))))))
theorem ok_1 (T:Txt K mg af):FnK P w K mg base af 3 1 p_1 (spW K w_1 2):=fn2 T.t_1 sc_1 fun _ _ _ _ _ _ hr=>zaf (zar (fcl [true,true] T.t_2 (ok_2 T) hr (zaa (ziS (by rfl) (by rfl) T.n_tuple zbo (by rfl) T.n_range (zaj (zap (by rfl) T.n_len (zaa (fw 1) zab)) zad)) (zaa (zaH (zcP (vars:=["i","j","k"]) rfl (by rfl) (compSc (by kernel_rfl)) rfl (za7 (fcl [true,true] T.t_0 (ok_0 T) hr (zaa (fw 0) (zaa (fw 1) zab)))) (fun _ _ _=>zbg (by rfl) (zak (gcm 3) (zak (gcm 4) (zak (gcm 5) zaJ)))) (fun _ _ _=>zaM) (fun _ _ _=>zaB (zaa (fw 3) (zaa (fw 4) zab))))) zab))))
theorem ok_11 (T:Txt K mg af):FnK P w K mg base af 3 11 p_11 (spW K w_11 4):=fn2 T.t_11 sc_11 fun _ _ _ _ _ _ hr=>zac (zah (zaF zab) (gnm 4 sc_11.nd))
  (zac (zaX (by rfl) (zaO (by rfl) T.n_range (zat (fcl [true,true] T.t_7 (ok_7 T) hr (zaa (fw 0) (zaa (zaj (fw 2) zad) zab))) (zcy (by rfl) T.n_int zeb (zaa (zbc (fun _ _=>zbS (u32 hr)) zbi (fw 1) (zaG (by rfl) (by decide)) (nomark _)) zab)))) (gnm 5 sc_11.nd) (zac (zah (zaj (zaz (fw 1) (fcl [true,true] T.t_7 (ok_7 T) hr (zaa (fw 0) (zaa (zap (by rfl) T.n_len (zaa (fw 1) zab)) zab)))) (fcl [true,true,true] T.t_9 (ok_9 T) hr (zaa (fw 0) (zaa (fw 1) (zaa (zc5 (fw 3) zad) zab))))) (gnm 6 sc_11.nd))
  (zac (za8 (zhM (ze3 (zav (fun _ _=>zbS (u32 hr)) zbi (fw 4) (zaF zab) (nomark _)) (zdm (zav (fun _ _=>zaN (u31 hr)) zay (fcl [true,true] T.t_7 (ok_7 T) hr (zaa (fw 0) (zaa zad zab))) zad (nomark _))))) (zaf (zah (zcu (fcl [true,true,true] T.t_10 (ok_10 T) hr (zaa (fw 0) (zaa (fw 1) (zaa (fw 4) zab)))) (fw 3)) (gnm 6 sc_11.nd))) zax)
  (zaf (za8 (zav (fun _ _=>zgv (u32 hr)) zeX (fw 6) (fw 4) (by with_unfolding_all rfl)) (zaf (zaU (zaW (j:=4) (fw 4) (fw 6)))) zax)))))
  (zaf (zar (zbj (by rfl) T.n_tuple zbo (zaa (fw 4) zab)))))
theorem ok_16 (T:Txt K mg af):FnK P w K mg base af 3 16 p_16 (spW K w_16 4):=fn2 T.t_16 sc_16 fun _ _ _ _ _ _ hr=>zac (zah (fcl [true,true] T.t_7 (ok_7 T) hr (zaa (fw 0) (zaa zad zab))) (gnm 4 sc_16.nd))
  (zac (za8 (zav (fun _ _=>zaN (u31 hr)) zay (fw 4) zad (nomark _)) (zaf (zar (fcl [true,true,true] T.t_9 (ok_9 T) hr (zaa (fw 0) (zaa (fw 2) (zaa (fw 3) zab)))))) zax)
  (zac (zah (zaH (fcl [true,true,true,true] T.t_13 (ok_13 T) hr (zaa (fw 0) (zaa (fw 1) (zaa (fw 2) (zaa (fw 3) zab)))))) (gnm 5 sc_16.nd))
  (zac (za8 (zav (fun _ _=>zaN (u31 hr)) zay (fw 4) zad (nomark _)) (zaf (zah (zcu (zaj (fw 5) (fcl [true,true,true] T.t_9 (ok_9 T) hr (zaa (fw 0) (zaa (fw 2) (zaa (fw 3) zab))))) (fw 3)) (gnm 5 sc_16.nd))) zax)
  (zaf (zar (fw 5))))))
theorem ok_4 (T:Txt K mg af):FnK P w K mg base af 4 4 p_4 (spW K w_4 2):=fn2 T.t_4 sc_4 fun _ _ _ _ _ _ hr=>zac (zah (zaH (fcl [true,true] T.t_1 (ok_1 T) hr (zaa (fw 0) (zaa (fw 1) zab)))) (gnm 2 sc_4.nd))
  (zac (za8 (zav (fun _ _=>zaN (u31 hr)) zay (zaz (fw 2) (zhl zad)) zad (nomark _)) (zaf (zgU T.g_IsFixed (zgP (by decide +kernel) T.k_IsFixed) T.e_IsFixed)) zax)
  (zac (zjH (zbQ (i:=3) (by decide) (fun j hj=>zbn sc_4.nd hj rfl) rfl (by rfl) (by rfl) (vars:=["colour"]) rfl (by rfl) (compSc (by kernel_rfl)) rfl (za7 (fw 1)) (fun _ _ _=>gcm 6) (fun _ _ _=>zaM) (fun _ _ _=>zmw)))
  (zac (zjH (zbQ (i:=4) (by decide) (fun j hj=>zbn sc_4.nd hj rfl) rfl (by rfl) (by rfl) (vars:=["one","other"]) rfl (by rfl) (compSc (by kernel_rfl)) rfl (zlX (by rfl) (by rfl) T.n_zip zmt (fw 2) (zc6 (fw 2) zad)) (fun _ _ _=>zbg (by rfl) (zak (gcm 6) (zak (gcm 7) zaJ))) (fun _ _ _=>zaM) (fun _ _ _=>zbc (fun _ _=>zbS (u32 hr)) zbi (zbc (fun _ _=>zaN (u31 hr)) zay (fw 6) zad (nomark _)) (zbc (fun _ _=>zaN (u31 hr)) zay (fw 7) zad (nomark _)) (nomark _))))
  (zaf (zar (zaB (zaa (fcl [true,true] T.t_5 (ok_5 T) hr (zaa (fw 1) (zaa (fw 3) zab))) (zaa (fcl [true,true] T.t_5 (ok_5 T) hr (zaa (fw 1) (zaa (fw 4) zab))) zab))))))))
theorem ok_18 (T:Txt K mg af):FnK P w K mg base af 5 18 p_18 (spW K w_18 2):=fn2 T.t_18 sc_18 fun _ _ _ _ _ _ hr=>zac (zah zkT (gnm 2 sc_18.nd))
  (zac (zhJ (j:=3) (by decide) (fun j hj=>zbn sc_18.nd hj rfl) rfl (by rfl) T.g_WalkError (ck T.e_WalkError) (zeL (zgP (by decide +kernel) T.k_IsFixed) (ck T.e_IsFixed) T.m_IsFixed_WalkError zfP) (zaf (zar (fcl [true,true] T.t_4 (ok_4 T) hr (zaa (fw 0) (zaa (fw 1) zab))))) (fun _=>zaf (zah (fw 3) (gnm 2 sc_18.nd))))
  (zac (za8 (zhM (znt (zgj (zkD (by rfl) T.n_isinstance za4 (.cons (by rfl) T.g_BadText (by decide) (.cons (by rfl) T.g_NoBoard (by decide) (.cons (by rfl) T.g_NoMap (by decide) (.cons (by rfl) T.g_NoRow (by decide) (.cons (by rfl) T.g_TooMany (by decide) .nil))))) (by rw [qz]; exact Nat.le_of_ble_eq_true rfl) (ziw (zgP (by decide +kernel) T.k_IsFixed) ⟨T.x0_IsFixed,T.x1_IsFixed,T.x2_IsFixed,T.x3_IsFixed,T.x4_IsFixed,T.x5_IsFixed,T.x6_IsFixed⟩ T.i_BadText_NoBoard_NoMap_NoRow_TooMany_IsFixed (by rfl) (zka T.i_BadText_NoBoard_NoMap_NoRow_TooMany_0)) (fw 2))) (zmn (zms (zgj (zkb (by rfl) T.n_isinstance za4 (by rfl) T.n_ValueError zdE (zfD (zgP (by decide +kernel) T.k_IsFixed) ⟨T.x0_IsFixed,T.x1_IsFixed,T.x2_IsFixed,T.x3_IsFixed,T.x4_IsFixed,T.x5_IsFixed,T.x6_IsFixed⟩ T.i_ValueError_IsFixed (by rfl) (zht T.i_ValueError_0)) (fw 2))))))) (zaf (zar (zaG (by rfl) (by decide)))) zax)
  (zaf (zar (zaz (zaF (zaa (zaG (by rfl) (by decide)) (zaa (zaG (by rfl) (by decide)) zab))) (zcy (by rfl) T.n_int zeb (zaa (zjz (by rfl) T.n_isinstance za4 (by rfl) T.g_IsFixed (zfD (zgP (by decide +kernel) T.k_IsFixed) ⟨T.x0_IsFixed,T.x1_IsFixed,T.x2_IsFixed,T.x3_IsFixed,T.x4_IsFixed,T.x5_IsFixed,T.x6_IsFixed⟩ T.i_IsFixed_IsFixed (by rfl) (zht T.i_IsFixed_0)) (fw 2)) zab)))))))
theorem ok_19 (T:Txt K mg af):FnK P w K mg base af 6 19 p_19 (spW K w_19 1):=fn2 T.t_19 sc_19 fun _ _ _ _ _ _ hr=>zac (zah (zaF zab) (gnm 1 sc_19.nd))
  (zac (zah (fcl [true,true] T.t_6 (ok_6 T) hr (zaa (fw 0) (zaa zad zab))) (gnm 2 sc_19.nd))
  (zac (zah (fcl [true,true] T.t_8 (ok_8 T) hr (zaa (fw 2) (zaa (zaj zad (fcl [true,true] T.t_7 (ok_7 T) hr (zaa (fw 2) (zaa zad zab)))) zab))) (gnm 3 sc_19.nd))
  (zac (zaX (by rfl) (zd7 (by rfl) T.n_range zad (zjm (by rfl) (by rfl) T.n_max zjt (zaa zad (zaa (zjg (by rfl) (by rfl) T.n_min zgn (zaa zad (zaa (zap (by rfl) T.n_len (zaa (fw 0) zab)) zab))) zab)))) (gnm 4 sc_19.nd) (zac (zah (fcl [true,true] T.t_6 (ok_6 T) hr (zaa (fw 0) (zaa (fw 4) zab))) (gnm 2 sc_19.nd))
  (zac (zah (zaH (fcl [true,true,true,true] T.t_11 (ok_11 T) hr (zaa (fw 2) (zaa (fw 3) (zaa zad (zaa zad zab)))))) (gnm 5 sc_19.nd))
  (zac (zah (zaH (fcl [true,true,true,true] T.t_16 (ok_16 T) hr (zaa (fw 2) (zaa (fw 5) (zaa (fw 3) (zaa zad zab)))))) (gnm 6 sc_19.nd))
  (zac (zaX (by rfl) (za7 (zaB (zaa (fw 5) (zaa (zc6 (fw 5) zad) zab)))) (gnm 7 sc_19.nd) (zac (zah (zaG (by rfl) (by decide)) (gnm 8 sc_19.nd))
  (zac (za8 (zav (fun _ _=>zc1) zbZ (zaz (fcl [true] T.t_15 (ok_15 T) hr (zaa (zaH (fcl [true,true] T.t_14 (ok_14 T) hr (zaa (fw 7) (zaa (fw 6) zab)))) zab)) (zhl zad)) zad (nomark _)) (zaf (zah (zaH (fcl [true,true] T.t_17 (ok_17 T) hr (zaa (fw 7) (zaa (fw 6) zab)))) (gnm 8 sc_19.nd))) zax)
  (zaf (zaU (zaW (j:=1) (fw 1) (zaB (zaa (fw 7) (zaa (fw 6) (zaa (fw 8) zab))))))))))
  (zaf (zaX (by rfl) (za7 (zaj (zc6 (fw 1) (zhl zad)) (zcu (fw 1) zad))) (zbg (by rfl) (zak (gnm 9 sc_19.nd) (zak (gnm 10 sc_19.nd) (zak (gnm 11 sc_19.nd) zaJ)))) (zaf (za8 (zhe hr (by rfl) T.n_repr (fcl [true,true] T.t_18 (ok_18 T) hr (zaa (fw 9) (zaa (fw 10) zab))) (fw 11)) (zaf (zar zmw)) zax)))))))))
  (zaf (zar (zm1 (zbc (fun _ _=>zaN (u31 hr)) zay (fcl [true,true] T.t_18 (ok_18 T) hr (zaa (zaB zab) (zaa (zaG (by rfl) (by decide)) zab))) (zaG (by rfl) (by decide)) (nomark _)) (zk5 (zbc (fun _ _=>zaN (u31 hr)) zay (fcl [true,true] T.t_18 (ok_18 T) hr (zaa (zaB (zaa (zaG (by rfl) (by decide)) zab)) (zaa (zaG (by rfl) (by decide)) zab))) (zaG (by rfl) (by decide)) (nomark _)))))))))
end
theorem all_mk {l:W.OpenLaw} {w:World} {K:W.Frag} {h:Heap} {mg:Str->Option Value} {fa:Addr} (X:K.In h) (G:h.Ns mainGlobals mg) (hfa:mg "law"=some (.ref fa))
  {f_0 f_1 f_2 f_3 f_4 f_5 f_6 f_7 f_8 f_9 f_10 f_11 f_12 f_13 f_14 f_15 f_16 f_17 f_18 f_19:Addr}
  (h_0:Lk K "stretches" s_0 f_0)
  (h_1:Lk K "lands" s_1 f_1)
  (h_2:Lk K "all_joined" s_2 f_2)
  (h_3:Lk K "land_joined" s_3 f_3)
  (h_4:Lk K "twins" s_4 f_4)
  (h_5:Lk K "double_map" s_5 f_5)
  (h_6:Lk K "_law_box" s_6 f_6)
  (h_7:Lk K "_law_take" s_7 f_7)
  (h_8:Lk K "_law_colours" s_8 f_8)
  (h_9:Lk K "_law_word" s_9 f_9)
  (h_10:Lk K "_law_near" s_10 f_10)
  (h_11:Lk K "_law_board" s_11 f_11)
  (h_12:Lk K "_law_moves" s_12 f_12)
  (h_13:Lk K "_law_led" s_13 f_13)
  (h_14:Lk K "_law_ties" s_14 f_14)
  (h_15:Lk K "_law_lands" s_15 f_15)
  (h_16:Lk K "_law_any_word" s_16 f_16)
  (h_17:Lk K "_law_twins" s_17 f_17)
  (h_18:Lk K "_law_told" s_18 f_18)
  (h_19:Lk K "law" s_19 f_19)
  (z_ValueError:W.nsIn K mainGlobals "ValueError"=some none)
  (z_enumerate:W.nsIn K mainGlobals "enumerate"=some none)
  (z_int:W.nsIn K mainGlobals "int"=some none)
  (z_isinstance:W.nsIn K mainGlobals "isinstance"=some none)
  (z_len:W.nsIn K mainGlobals "len"=some none)
  (z_list:W.nsIn K mainGlobals "list"=some none)
  (z_max:W.nsIn K mainGlobals "max"=some none)
  (z_min:W.nsIn K mainGlobals "min"=some none)
  (z_range:W.nsIn K mainGlobals "range"=some none)
  (z_repr:W.nsIn K mainGlobals "repr"=some none)
  (z_sorted:W.nsIn K mainGlobals "sorted"=some none)
  (z_tuple:W.nsIn K mainGlobals "tuple"=some none)
  (z_zip:W.nsIn K mainGlobals "zip"=some none)
  {C_IsFixed C_WalkError C_TooMany C_NoRow C_NoMap C_NoBoard C_BadText:Addr}
  (k_IsFixed:W.nsIn K mainGlobals "IsFixed"=some (some (.ref C_IsFixed)))
  (e_IsFixed:W.excIn K C_IsFixed bmVE neVE=true)
  (k_WalkError:W.nsIn K mainGlobals "WalkError"=some (some (.ref C_WalkError)))
  (m_IsFixed_WalkError:W.mroIn K C_IsFixed (.ref C_WalkError)=some true)
  (e_WalkError:W.excIn K C_WalkError bmVE neVE=true)
  (i_BadText_NoBoard_NoMap_NoRow_TooMany_0:W.kitAny K (.type "NoneType") [.ref C_BadText,.ref C_NoBoard,.ref C_NoMap,.ref C_NoRow,.ref C_TooMany]=some false)
  (x0_IsFixed:W.findIn K (.ref C_IsFixed) "__getattribute__"=some (some (.builtin "BaseException.__getattribute__")))
  (x1_IsFixed:W.findIn K (.ref C_IsFixed) "__getattr__"=some none)
  (x2_IsFixed:W.findIn K (.ref C_IsFixed) "__class__"=some (some (.builtin "object.__class__")))
  (x3_IsFixed:W.specialIn K (.builtin "object.__class__") "__get__"=some (some (.builtin "getset_descriptor.__get__")))
  (x4_IsFixed:W.takesIn K (.builtin "object.__class__")=some true)
  (x5_IsFixed:W.mroIn K C_IsFixed (.type "object")=some true)
  (x6_IsFixed:W.mroIn K C_IsFixed (.type "BaseException")=some true)
  (i_BadText_NoBoard_NoMap_NoRow_TooMany_IsFixed:W.kitAny K (.ref C_IsFixed) [.ref C_BadText,.ref C_NoBoard,.ref C_NoMap,.ref C_NoRow,.ref C_TooMany]=some false)
  (k_TooMany:W.nsIn K mainGlobals "TooMany"=some (some (.ref C_TooMany)))
  (k_NoRow:W.nsIn K mainGlobals "NoRow"=some (some (.ref C_NoRow)))
  (k_NoMap:W.nsIn K mainGlobals "NoMap"=some (some (.ref C_NoMap)))
  (k_NoBoard:W.nsIn K mainGlobals "NoBoard"=some (some (.ref C_NoBoard)))
  (k_BadText:W.nsIn K mainGlobals "BadText"=some (some (.ref C_BadText)))
  (i_ValueError_0:W.kitOne K (.type "NoneType") (.type "ValueError")=some false)
  (i_ValueError_IsFixed:W.kitOne K (.ref C_IsFixed) (.type "ValueError")=some true)
  (i_IsFixed_0:W.kitOne K (.type "NoneType") (.ref C_IsFixed)=some false)
  (i_IsFixed_IsFixed:W.kitOne K (.ref C_IsFixed) (.ref C_IsFixed)=some true):
  ∃ fd:FuncData,(∀ (s:Shared) (v:Value),BindsTo s fd ⟨[v],[]⟩ [("_law_script",v)])/\∀ base:Heap,K.In base->base.Ns mainGlobals mg->FnOk l.prog w K mg base (CXe l.prog w) 6 fa fd ["_law_script"] (spW K w_19 1):=by
 have e:=hfa.symm.trans (h_19.mm X G)
 cases e
 have T:Txt K mg (fun n=>[f_0,f_1,f_2,f_3,f_4,f_5,f_6,f_7,f_8,f_9,f_10,f_11,f_12,f_13,f_14,f_15,f_16,f_17,f_18,fa,C_IsFixed,C_WalkError,C_TooMany,C_NoRow,C_NoMap,C_NoBoard,C_BadText].getD n 0):=⟨h_0.tx X G,h_1.tx X G,h_2.tx X G,h_3.tx X G,h_4.tx X G,h_5.tx X G,h_6.tx X G,h_7.tx X G,h_8.tx X G,h_9.tx X G,h_10.tx X G,h_11.tx X G,h_12.tx X G,h_13.tx X G,h_14.tx X G,h_15.tx X G,h_16.tx X G,h_17.tx X G,h_18.tx X G,h_19.tx X G,W.mg_none_of X G z_ValueError,W.mg_none_of X G z_enumerate,W.mg_none_of X G z_int,W.mg_none_of X G z_isinstance,W.mg_none_of X G z_len,W.mg_none_of X G z_list,W.mg_none_of X G z_max,W.mg_none_of X G z_min,W.mg_none_of X G z_range,W.mg_none_of X G z_repr,W.mg_none_of X G z_sorted,W.mg_none_of X G z_tuple,W.mg_none_of X G z_zip,W.mg_of X G k_IsFixed,W.mg_of X G k_WalkError,W.mg_of X G k_TooMany,W.mg_of X G k_NoRow,W.mg_of X G k_NoMap,W.mg_of X G k_NoBoard,W.mg_of X G k_BadText,k_IsFixed,e_IsFixed,k_WalkError,m_IsFixed_WalkError,e_WalkError,i_BadText_NoBoard_NoMap_NoRow_TooMany_0,x0_IsFixed,x1_IsFixed,x2_IsFixed,x3_IsFixed,x4_IsFixed,x5_IsFixed,x6_IsFixed,i_BadText_NoBoard_NoMap_NoRow_TooMany_IsFixed,k_TooMany,k_NoRow,k_NoMap,k_NoBoard,k_BadText,i_ValueError_0,i_ValueError_IsFixed,i_IsFixed_0,i_IsFixed_IsFixed⟩
 exact ⟨_,fun s v=>h_19.bt s v,fun base _ _=>ok_19 T⟩
theorem walk {l:W.OpenLaw} {q:Program} {loose:List Str} {XP:(Str->Option Value)->Heap->Prop} {YP:World->Heap->Prop} {d:DefRec} {K:Params->W.Frag} (hn:l.most=some 63) (hdf:d.params.defaults=[])
  (hY:∀ (w:World) (h:Heap),YP w h->(K w.params).In h)
  (F:∀ (w:World) (mg:Str->Option Value) (fa:Addr) (h:Heap),(K w.params).In h->h.Ns mainGlobals mg->mg d.name=some (.ref fa)->
   ∃ fd:FuncData,(∀ (s:Shared) (u:Value),BindsTo s fd ⟨[u],[]⟩ [("_law_script",u)])/\∀ base:Heap,(K w.params).In base->base.Ns mainGlobals mg->FnOk l.prog w (K w.params) mg base (CXe l.prog w) 6 fa fd ["_law_script"] (spW (K w.params) w_19 1)):
  W.WalkO q loose XP YP l.row.toRowW d [] (fun f vs=>PySem.call f vs):=
 L2.walk_of (n:=63) (k:=6) (x:="_law_script") (CX:=fun w=>CXe l.prog w) (sp:=fun w=>spW (K w.params) w_19 1) hn (by decide) hdf ⟨rfl,by decide,by decide,rfl⟩ hY F (fun _ H a ns hl _ hS=>zmu pure_law H a ns hl hS) fun _ _ _ _ _ h=>by obtain ⟨_,_,_,_,_,_,_,_,_,q,_⟩:=h; exact q
end Law
end
open PySem PySem.W PyProof.Rows
theorem PySem.W.Fast.te16292690731485489319:True:=trivial
def PySem.W.Fast.tw15869662105947430597:=PySem.Challenge.pw_walktold_k41_twins_room_by_room
theorem PySem.W.Fast.te15869662105947430597:PySem.Challenge.pw_walktold_k41_twins_room_by_room=PySem.W.Fast.tw15869662105947430597:=rfl
set_option maxRecDepth 100000 in
set_option maxHeartbeats 0 in
theorem PySem.Challenge.cw_walktold_k41_twins_room_by_room_holds : PySem.Challenge.rw_walktold_k41_twins_room_by_room.Holds := by
 w_on; o_law; k_head; (case hw=>w_witness2)
 k_fill
 refine Law.walk (l:=PySem.Challenge.rw_walktold_k41_twins_room_by_room) rfl rfl (fun w h Y=>PySem.W.kIn_of Y) ?F
 case F=>
  intro w mg fa h KX G hmg
  refine' Law.all_mk KX G hmg ..
  all_goals try first | k_is | (refine' ⟨?_,?_,?_,?_⟩ <;> try k_is)
  all_goals try first | k_is | k_exc | kit_is
