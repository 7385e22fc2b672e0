import PyProof.Rows.All
import Wide.All
import OpenK.AllK
import Wide.FinOn
import PySem.Challenge.RW_walktold_k36_steps_as_texts
set_option Elab.async false
set_option linter.all false
set_option maxRecDepth 100000
set_option compiler.extract_closed false
set_option bootstrap.genMatcherCode false
open Array (getElem?_toList length_toList mem_toList_iff toArray_toList toList_append)
open Bool (and_eq_true false_eq_true or_eq_true)
open Int (mul_one natCast_nonneg ofNat_le toNat_natCast)
open List (all_eq_true any_cons any_eq_true append_assoc append_nil cons_append countP_cons count_append drop_eq_getElem_cons drop_of_length_le drop_zero ext_getElem? flatten_cons flatten_nil forIn_cons getD_eq_getElem?_getD getElem?_append_left getElem?_append_right getElem?_eq_getElem getElem?_eq_none getElem?_map getElem?_range getElem?_set getElem?_set_ne getElem?_set_self getElem_mem length_append length_cons length_drop length_map length_nil length_pos_iff length_range length_singleton length_take lookup_cons map_append map_congr_left map_cons map_id map_map map_nil map_set mem_append mem_cons mem_cons_self mem_filter mem_filterMap mem_map mem_of_getElem? mem_of_mem_take mem_range mem_singleton nil_append nodup_append nodup_cons not_mem_nil of_mem_zip pairwise_cons pairwise_map perm_append_comm perm_middle replicate_succ set_comm size_toArray sum_append sum_cons take_append_drop take_nil take_of_length_le)
open Nat (add_comm le_of_lt le_of_lt_succ le_refl le_succ le_trans lt_irrefl lt_of_lt_of_le lt_succ_of_lt lt_trans min_eq_left min_eq_right min_le_right ne_of_gt ne_of_lt not_lt sub_le sub_zero succ_mul zero_add zero_le)
open Option (bind_some isSome_iff_exists isSome_map isSome_some map_eq_some_iff map_some toList_none)
def qa:=@PySem.wpAny_bind
def qb:=@PySem.wpAny_pure
def qc:=@PySem.Heap.get?_push_of_some
def qd:=@PySem.Heap.get?_push_size
def qe:=@PySem.Heap.lt_size
def qf.{u}:=@Option.some.inj.{u}
def qg.{u}:=@List.getElem?_eq_some_iff.{u}
def qi.{u}:=@List.mem_append_right.{u}
def qj.{u}:=@List.mem_append_left.{u}
def qk.{u}:=@List.mem_cons_of_mem.{u}
def qm.{u}:=@List.mem_cons_self.{u}
def qh:=@List.length_map
def qo:=@List.append_assoc
def qp:=@List.length_append
def qq:=@List.size_toArray
def qr:=@List.length_cons
def qt:=@List.mem_singleton
def qv:=@List.length_nil
def qw:=@List.nodup_append
def qx:=@List.mem_append
def qy:=@List.map_cons
def qz:=@List.append_nil
def qA:=@List.mem_cons
def qB:=@List.length_singleton
def qC:=@List.length_range
def qD:=@List.map_map
def qE:=@List.getElem?_map
def qF:=@List.length_drop
def qG:=@List.length_take
def qH:=@List.all_eq_true
def qI:=@List.mem_range
def qJ:=@List.mem_map
def qK:=@List.nodup_cons
def qL:=@List.mem_of_getElem?
def qM:=@List.perm_append_comm
def qN:=@List.cons_append
def qO:=@List.length_pos_iff
def qP:=@List.getElem?_eq_none
def qQ:=@decide_eq_true
def qR:=@decide_eq_false
def qS:=@decide_eq_true_eq
def qT:=@of_decide_eq_true
def qU:=@Array.length_toList
def qV:=@Int.toNat_natCast
def qW:=Bool.false_ne_true
def qX:=@Option.map_eq_some_iff
def qY:=@Array.getElem?_toList
def qZ:=@if_pos
def q5:=@if_neg
def q8:=@Nat.le_refl
def q9:=@PySem.Heap.get?_update_other
def zb:=@PySem.Heap.get?_update_self
def zc:=@PySem.wpAny_field
def zi:=@PySem.wpAny_newObj_type
def zj:=@PySem.wpAny_call_entry
def zk:=@PySem.sizeLine_eq
def zm:=@PySem.wpAny_setField_rec
def zn:=@PySem.wpAny_holding
def zo:=@PySem.wpAny_of_eq
def zp:=@PySem.wpAny_mono
abbrev zr:=PySem.Value->PySem.Shared->Prop
theorem aZ8(h:1=1:=by rfl):True:=trivial
theorem aZ9(h:1=1:=by decide):True:=trivial
@[inline]def rZ9:=aZ8._auto_1
@[inline]def dZ9:=aZ9._auto_1
theorem cpsZ9{A:Prop}(h:∀G:Prop,(A->G)->G):A:=h A id
section
set_option hygiene false in
open Lean Parser.Tactic in
local macro_rules
|`($m:declModifiers def $i:declId $s:optDeclSig $v:declVal)=>do
 let a:=m.raw.getArgs
 if !a[4]!.isNone then Macro.throwUnsupported
 match i.raw[0].getId with
 |.str p n=>do
  let f(s:Syntax):=s.rewriteBottomUp (·.setInfo .none)
  let c:=mkNode ``Parser.Command.declaration
  let i:=f i
  let s:=f s
  let v:=f v
  if a[1]!.isNone&&(n.front.isUpper||!p.isAnonymous) then return c #[m,mkNode ``Parser.Command.theorem #[mkAtom "theorem",i,mkNode ``Parser.Command.declSig #[s[0],s[1][0]],v]] else return c #[m.raw.setArg 4 (mkNullNode #[mkNode ``Parser.Command.noncomputable #[mkAtom "noncomputable"]]),mkNode ``Parser.Command.definition #[mkAtom "def",i,s,v,mkNullNode]]
 |_=>Macro.throwUnsupported
|`(#[$x,*])=>if x.getElems.isEmpty then Macro.throwUnsupported else `(⟨$x,*⟩)
|`(∅)=>`((by lia))
|`(⋯)=>`((by decide))
|`(⇑$x)=>`(some $x)
|`(↥$x)=>`(decide $x)
|`(↑$x)=>`((by simpa using $x))
|`(tactic|lia)=>`(tactic|first|assumption|exact Nat.le_refl _|exact Nat.le_of_lt ‹_›|exact Nat.succ_pos _|exact Nat.not_lt.1 ‹_›|exact Nat.lt_of_lt_of_le ‹_› ‹_›|exact Nat.lt_of_le_of_lt ‹_› ‹_›|exact Nat.le_trans ‹_› ‹_›|exact Nat.lt_trans ‹_› ‹_›|exact Nat.ne_of_lt ‹_›|exact Nat.ne_of_gt ‹_›|exact Nat.lt_succ_of_le ‹_›|exact Nat.le_add_right _ _|exact Nat.sub_le _ _|exact Nat.le_of_lt_succ ‹_›|exact absurd ‹_› (Nat.not_lt_zero _)|exact absurd ‹_ < _› (Nat.not_lt.2 ‹_›)|exact Nat.lt_of_le_of_ne ‹_› ‹_›|exact Nat.pos_of_ne_zero ‹_›|exact Nat.le_trans ‹_› (Nat.le_add_right _ _)|exact Nat.le_trans (Nat.sub_le _ _) ‹_›|exact Int.le_of_lt ‹_›|exact Nat.sub_lt ‹_› Nat.one_pos|exact Nat.add_sub_of_le ‹_›|exact Nat.lt_add_of_pos_right ‹_›|exact Nat.lt_of_lt_of_eq ‹_› ‹_›|exact Nat.le_of_eq ‹_›|exact Nat.not_lt_of_le ‹_›|exact Nat.sub_pos_of_lt ‹_›|exact Nat.le_of_eq (Nat.add_sub_of_le ‹_›)|lia -verbose)
|`(tactic|show $e:term)=>`(tactic|first|refine $e|fail)
|`(tactic|let #[$x,*]:=$e)=>do
 let rec go:Nat->Syntax->MacroM (TSyntax ``rcasesPatLo)
  |n+1,t=>do match t with
   |`(#[$y,*])=>let z<-y.getElems.mapM (go n ·.raw);`(rcasesPatLo|⟨$[$z],*⟩)
   |`(_)=>`(rcasesPatLo|_)
   |_=>`(rcasesPatLo|$(⟨t⟩):ident)
  |_,_=>Macro.throwUnsupported
 let z<-x.getElems.mapM (go 9 ·.raw)
 if z.size>3 then `(tactic|(refine _root_.cpsZ9 fun gZ kZ=>?_;rcases $e:term with ⟨$[$z],*⟩;refine kZ ?_;clear kZ gZ)) else `(tactic|obtain ⟨$[$z],*⟩:=$e)
|`(tactic|let $d:letDecl)=>`(tactic|have $d:letDecl)
noncomputable section
namespace ST
open PySem PySem.SetTable
def oK(xs:Array Nat):Prop:=∀i j(hi:i<xs.size)(hj:j<xs.size),i<j->xs[i]<xs[j]
def vF(t:SetTable)(p:Probe):Nat->Probe
 |0=>p
 |n+1=>vF t (t.advance p) n
def kH(mask:Nat):Prop:=mask=7\/mask=15\/mask=31\/mask=63\/mask=127\/mask=255\/mask=511
structure rf(t:SetTable)(hs:List Int):Prop where
 ris:oK t.place
 dum:t.dummies=#[]
 mask:kH t.mask
 size:t.place.size=hs.length
 le:∀i(hi:i<t.place.size),t.place[i]<=t.mask
 few:hs.length<=t.mask
 reach:∀i(hi:i<t.place.size)(h:Int),hs[i]?=⇑h->∃n,(vF t (t.probeStart h) n).j=t.place[i]/\∀m,m<n->t.slot (vF t (t.probeStart h) m).j≠.empty
section
variable{prog:Program}{w:World}{K:Type}[DecidableEq K](knd:HeapKind prog w K)
def la(xs:List (K×Addr)):List (Int×Value):=xs.map λp=>(knd.hash p.1,Value.ref p.2)
variable{knd}
def vS(t:SetTable)(n:Nat):Prop:=n*5<t.mask*3
end
structure WTab(t:SetTable)(n:Nat)(ld:Bool):Prop where
 ris:oK t.place
 dum:t.dummies=#[]
 fit:t.fits n=true
 ldd:t.led=ld
section
variable{prog:Program}{w:World}{A:Around}{E:zr}{s:Shared}{a:Addr}{K:Type}[DecidableEq K]{knd:KeyKind prog w K}{xs:List (K×Value)}
def lb(knd:KeyKind prog w K)(xs:List (K×Value)):List (Int×Value):=xs.map λp=>(knd.hash p.1,p.2)
@[inline]def VSet(ld:Bool)(knd:KeyKind prog w K)(h:Heap)(a:Addr)(xs:List (K×Value)):Prop:=∃o es i t,h.get? a=some o/\o.ExactSet/\o.data=.set es i t/\WTab t es.size ld/\es.toList=lb knd xs/\(∀p∈xs,knd.is p.1 p.2=true/\p.2.scannable=true)/\(xs.map (·.1)).Nodup
end
end ST
namespace ST
open PySem PySem.SetTable PyProof.Rows
def freshSet(ld:Bool):Obj:={cls:=.type "set",dict:=none,data:=.set #[] 0 (.fresh 0 0 ld)}
def ldOf(w:World):Bool:=!w.params.followText "set-order"
end ST
theorem m1{α:Type}{a:α}{l:List α}:a∈a::l:=.head _
theorem m2{α:Type}{a b:α}{l:List α}:b∈a::b::l:=.tail _ m1
theorem m3{α:Type}{a b c:α}{l:List α}:c∈a::b::c::l:=.tail _ m2
theorem m4{α:Type}{a b c d:α}{l:List α}:d∈a::b::c::d::l:=.tail _ m3
theorem m5{α:Type}{a b c d e:α}{l:List α}:e∈a::b::c::d::e::l:=.tail _ m4
def Cw(i:Int)(n:Nat):max 0 (min (if i<0 then i+(n:Int)else i) (n:Int))=(((if i<0 then(i+(n:Int)).toNat else min i.toNat n):Nat):Int):=by
 by_cases h:i<0
 .rw[qZ h,qZ h,Int.min_eq_left ∅,Int.ofNat_toNat,Int.max_comm]
 .rw[q5 h,q5 h];let#[k,rfl]:=Int.eq_ofNat_of_zero_le (Int.not_lt.mp h);rw[qV];rcases Nat.le_total k n with q|q
  .rw[min_eq_left q,Int.min_eq_left (ofNat_le.mpr q),Int.max_eq_right (natCast_nonneg k)]
  .rw[min_eq_right q,Int.min_eq_right (ofNat_le.mpr q),Int.max_eq_right (natCast_nonneg n)]
theorem cps{A:Prop}(h:∀G:Prop,(A->G)->G):A:=h A id
namespace ST
open PySem PySem.SetTable
section
variable{prog:Program}{w:World}{A:Around}{E:zr}{s:Shared}{a b:Addr}{K:Type}[DecidableEq K]{knd:KeyKind prog w K}{ks:List K}{ld:Bool}{xs:List (List K×Addr)}
@[inline]def TRaw(ld:Bool)(knd:HeapKind prog w K)(h:Heap)(a:Addr)(xs:List (K×Addr)):Prop:=∃o es i t,h.get? a=some o/\o.ExactSet/\o.data=.set es i t/\t.led=ld/\rf t (es.toList.map (·.1))/\vS t es.size/\es.toList=la knd xs/\(xs.map (·.1)).Nodup
end
instance okDec(m:Nat):Decidable (kH m):=by unfold kH;infer_instance
end ST
namespace L2
open PySem PySem.Spec PyProof.Rows
abbrev bX:=Sum Int Str
def gZ:bX->Value->Bool
 |.inl k,v=>Value.isInt k v
 |.inr x,v=>Value.isStrOf x v
def kf(w:World):bX->Int
 |.inl k=>hashInt k
 |.inr x=>hashStr w x
def BY:∀{k:bX}{v:Value},gZ k v=true->(∃i t,k=Sum.inl i/\v=Value.int i t)\/(∃x t,k=Sum.inr x/\v=Value.str x t)
 |.inl i,v,h=>by let#[t,e]:=Value.isInt_shape (k:=i) (v:=v) h;show .inl #[i,t,rfl,e]
 |.inr x,v,h=>by let#[t,e]:=Value.isStrOf_shape (x:=x) (v:=v) h;show .inr #[x,t,rfl,e]
def SJ(i:Int)(t:Tok):gZ (.inl i) (.int i t)=true:=by simp[gZ,Value.isInt]
def SN(x:Str)(t:Tok):gZ (.inr x) (.str x t)=true:=by simp[gZ,Value.isStrOf]
def NC(a b:Int):↥((Sum.inl a:bX)=Sum.inl b)=(a==b):=by grind
def Nm(a b:Str):↥((Sum.inr a:bX)=Sum.inr b)=↥(a=b):=by grind
def MN(a:Int)(b:Str):↥((Sum.inl a:bX)=Sum.inr b)=false:=qR (λq=>nomatch q)
def MO(a:Str)(b:Int):↥((Sum.inr a:bX)=Sum.inl b)=false:=qR (λq=>nomatch q)
def aS(prog:Program)(w:World):PySem.KeyKind prog w bX where
 is:=gZ
 hash:=kf w
 inj:=λv a b ha hb=>by
  rcases BY ha with⟨i,t,rfl,rfl⟩|⟨x,t,rfl,rfl⟩
  .rcases BY hb with⟨j,u,rfl,e⟩|⟨y,u,rfl,e⟩
   .injection e with e1 _;rw[e1]
   .show nomatch e
  .rcases BY hb with⟨j,u,rfl,e⟩|⟨y,u,rfl,e⟩
   .show nomatch e
   .injection e with e1 _;rw[e1]
 byValue:=λk v h=>by rcases BY h with⟨i,t,rfl,rfl⟩|⟨x,t,rfl,rfl⟩<;>rfl
 pyHash:=λhv h=>by
  rcases BY hv with⟨i,t,rfl,rfl⟩|⟨x,t,rfl,rfl⟩
  .show wpAny_pyHash_int h
  .show wpAny_pyHash_str h
 eqBool:=λhu hv h=>by
  rcases BY hu with⟨i,t,rfl,rfl⟩|⟨x,t,rfl,rfl⟩
  .rcases BY hv with⟨j,u,rfl,rfl⟩|⟨y,u,rfl,rfl⟩
   .rw[NC]at h;show wpAny_eqBool_int h
   .rw[MN]at h;show SeqAt.EqAt.int_str i t y u _ _ _ _ h
  .rcases BY hv with⟨j,u,rfl,rfl⟩|⟨y,u,rfl,rfl⟩
   .rw[MO]at h;show SeqAt.EqAt.str_int x t j u _ _ _ _ h
   .rw[Nm]at h;show wpAny_eqBool_str h
 «strs»:=λk x t v h=>by
  rcases BY h with⟨i,u,rfl,e⟩|⟨y,u,rfl,e⟩
  .show nomatch e
  .injection e with e1 _
   subst e1;cases v<;>rfl
def UA(prog:Program)(w:World)(i:Int)(t:Tok):(aS prog w).is (.inl i) (.int i t)=true:=SJ i t
def Va(prog:Program)(w:World)(x:Str)(t:Tok):(aS prog w).is (.inr x) (.str x t)=true:=SN x t
inductive V where
 |non|bl(b:Bool)|int(i:Int)|str(x:Str)|byt(b:Array UInt8)|flt(b:UInt64)|ref(a:Addr)|ty(n:String)
 deriving DecidableEq
def zH:V->Value->Prop
 |.non,u=>u=Value.none
 |.bl b,u=>u=Value.bool b
 |.int i,u=>∃t,u=Value.int i t
 |.str x,u=>∃t,u=Value.str x t
 |.byt b,u=>∃t,u=Value.bytes b t
 |.flt b,u=>∃t,u=Value.float b t
 |.ref a,u=>u=Value.ref a
 |.ty n,u=>u=Value.type n
abbrev zP:List V->List Value->Prop:=Paired zH
def zP.length(r:zP xs us):xs.length=us.length:=Paired.length r
def zP.get:∀{xs:List V}{us:List Value}{i:Nat}{x:V},zP xs us->xs[i]?=⇑x->∃u,us[i]?=⇑u/\zH x u
 |_,_,_,_,.nil,e=>by simp at e
 |_,_,0,_,.cons r _,e=>by simp at e;subst e;show#[_,rfl,r]
 |_,_,i+1,x,.cons _ t,e=>by let#[u,h1,h2]:=zP.get (i:=i) (x:=x) t ↑e;show#[u,↑h1,h2]
def zP.set(r:zH x u):∀{xs:List V}{us:List Value}(i:Nat),zP xs us->zP (xs.set i x) (us.set i u)
 |_,_,_,.nil=>.nil
 |_,_,0,.cons _ t=>.cons r t
 |_,_,i+1,.cons q t=>.cons q (zP.set r i t)
def zP.append:∀{xs ys:List V}{us i:List Value},zP xs us->zP ys i->zP (xs++ys) (us++i):=by
 intro xs ys us i r s;induction r with
 |nil=>show s
 |cons r _ B=>show .cons r B
def zP.take:∀{xs:List V}{us:List Value}(n:Nat),zP xs us->zP (xs.take n) (us.take n)
 |_,_,0,_=>.nil
 |_,_,_+1,.nil=>.nil
 |_,_,n+1,.cons r t=>.cons r (zP.take n t)
def zP.drop:∀{xs:List V}{us:List Value}(n:Nat),zP xs us->zP (xs.drop n) (us.drop n)
 |_,_,0,r=>r
 |_,_,_+1,.nil=>.nil
 |_,_,n+1,.cons _ t=>zP.drop n t
def fL:Option V->Option Value->Prop
 |some v,some u=>zH v u
 |none,none=>True
 |_,_=>False
@[inline]def KV{κ:Type}:List (κ×V)->List (κ×Value)->Prop:=Paired λ(p:κ×V)(q:κ×Value)=>p.1=q.1/\zH p.2 q.2
def kV:bX->V
 |.inl i=>.int i
 |.inr x=>.str x
inductive HO where
 |lst(xs:List V)
 |tup(xs:List V)
 |dK(zT:List (bX×V))|dT(zT:List (List bX×V))
 |set(vs:List V)
 |ins(C dx:Addr)(fs:List (Str×V))
 |own(x:Addr)
 |xd(fs:List (Str×V))
 |met(f x:Addr)
 |rng(lo hi:Int)
 |frz(o:Obj)(u:HO)
 |tbl(ps:Array Value)
 |ext(φ:Heap->Prop)
abbrev Hp:=Addr->Option HO
def upd(H:Hp)(a:Addr)(o:HO):Hp:=λb=>if b=a then ⇑o else H b
def AB:upd H a o a=⇑o:=by unfold upd;rw[qZ rfl]
def Aj(h:b≠a):upd H a o b=H b:=by unfold upd;rw[q5 h]
def Ib{H:Hp}(h:H a=⇑o)(h':H b=⇑u)(d:o≠u):a≠b:=by grind
def BR{H:Hp}(h:H a=⇑o)(h':H b=none):a≠b:=by intro e;subst e;rw[h]at h';cases h'
section
variable(P:Program)(w:World)
def iS(h:Heap)(a:Addr):Prop:=∀o,h.get? a=⇑o->o.dict=none
def iS.new{h:Heap}{c:Value}{x:Data}{n:Addr}(e:n=h.objs.size)(i:(h.push {cls:=c,data:=x}).get? h.objs.size=some {cls:=c,data:=x}):iS (h.push {cls:=c,data:=x}) n:=λo q=>by subst e;rw[i]at q;cases q;rfl
def zR(H:Hp)(h:Heap)(a:Addr):HO->Prop
 |.lst xs=>xs.length<=sizeLine/\∃(i:List Value)(n:Nat),zP xs i/\h.get? a=some {cls:=.type "list",data:=.seq i.toArray n}
 |.tup xs=>(xs.length<=sizeLine/\iS h a)/\∃i:List Value,zP xs i/\IsTup h a i.toArray
 |.dK zT=>zT.length<=sizeLine/\(a==sysModules)=false/\∃vs,KV zT vs/\h.DictOf (aS P w) a vs
 |.dT zT=>zT.length<=sizeLine/\(a==sysModules)=false/\∃xs:List (List bX×Addr×Value),
  Paired (λ(p:List bX×V)(q:List bX×Addr×Value)=>p.1=q.1/\H q.2.1=⇑(.tup (p.1.map kV))/\zH p.2 q.2.2) zT xs/\
  ∃o es F,h.get? a=⇑o/\o.ExactDict/\o.data=.dict es F/\es.toList=xs.map (entryOfKey (tupleKind (aS P w)))/\(xs.map (·.1)).Nodup
 |.set vs=>vs.length<=151/\((vs=[]/\h.get? a=⇑(ST.freshSet (ST.ldOf w)))\/(vs≠[]/\∃xs:List (bX×Value),vs.Perm (xs.map λp=>kV p.1)/\ST.VSet (ST.ldOf w) (aS P w) h a xs)\/vs≠[]/\∃xs:List (List bX×Addr),vs.Perm (xs.map λp=>V.ref p.2)/\(∀p∈xs,H p.2=⇑(.tup (p.1.map kV)))/\ST.TRaw (ST.ldOf w) (tupleKind (aS P w)) h a xs)
 |.ins C dx fs=>H dx=⇑(.own a)/\fs.length<=1000/\dx≠a/\h.get? a=⇑(W.instObj C dx)/\
  ∃B,h.Ns1 dx B/\(∀f,fL (fs.lookup f) (B f))/\PySem.Within B (fs.map (·.1))
 |.own _=>∃o,h.get? a=⇑o
 |.xd fs=>∃B,h.Ns1 a B/\∀f,fL (fs.lookup f) (B f)
 |.rng lo hi=>∃t u v,h.get? a=some {cls:=.type "range",data:=.fields [.int lo t,.int hi u,.int 1 v].toArray}
 |.frz o u=>h.get? a=⇑o/\zR H h a u
 |.tbl ps=>h.get? a=some {cls:=.none,data:=.fields ps}
 |.met f x=>h.get? a=⇑(W.methodObj (.ref f) (.ref x))
 |.ext φ=>φ h/\(∃o,h.get? a=⇑o)/\∀h1 h2:Heap,φ h1->(∀o,h1.get? a=⇑o->h2.get? a=⇑o)->φ h2
def eA(H:Hp)(h:Heap):Prop:=∀a o,H a=⇑o->zR P w H h a o
end
section
variable{P:Program}{w:World}{H H':Hp}{h h':Heap}{a:Addr}{o:HO}
def zR.lt(x:zR P w H h a o):a<h.objs.size:=by
 cases o with
 |lst xs=>let#[_,_,_,_,e]:=x;show qe e
 |tup xs=>let#[_,_,_,p]:=x;show p.lt
 |dK i=>let#[_,_,_,_,o,_,_,e,_]:=x;show qe e
 |dT i=>let#[_,_,_,_,o,_,_,e,_]:=x;show qe e
 |set vs=>
  rcases x with⟨_,⟨_,e⟩|⟨_,_,_,_,_,_,_,e,_⟩|⟨_,_,_,_,_,_,_,_,e,_⟩⟩
  .show qe e
  .show qe e
  .show qe e
 |ins C dx fs=>let#[_,_,_,e,_]:=x;show qe e
 |own y=>let#[_,e]:=x;show qe e
 |xd fs=>let#[_,#[_,_,_,e,_],_]:=x;show qe e
 |rng lo hi=>let#[_,_,_,e]:=x;show qe e
 |frz B u=>let#[e,_]:=x;show qe e
 |tbl ps=>show qe (show h.get? a=⇑_ from x)
 |met f y=>show qe (show h.get? a=⇑_ from x)
 |ext φ=>let#[_,#[_,e],_]:=x;show qe e
def Paired.mapP:∀{l₁:List α}{l₂:List β},Paired F l₁ l₂->(∀a b,F a b->G a b)->Paired G l₁ l₂
 |_,_,.nil,_=>.nil
 |_,_,.cons r t,f=>.cons (f _ _ r) (Paired.mapP t f)
def zR.stay(x:zR P w H h a o)(k:∀b u,(b=a\/H b=⇑(.own a))->h.get? b=⇑u->h'.get? b=⇑u)
  (ho:∀b,H b=⇑(.own a)->H' b=⇑(.own a))(L:∀b xs,H b=⇑(.tup xs)->H' b=⇑(.tup xs)):zR P w H' h' a o:=by
 induction o with
 |lst xs=>let#[z,F,n,r,e]:=x;show#[z,F,n,r,k _ _ (.inl rfl) e]
 |tup xs=>let#[#[z,O],F,r,i,e,c]:=x;show#[#[z,λo q=>by rw[k _ _ (.inl rfl) e]at q;cases q;show O _ e],F,r,i,k _ _ (.inl rfl) e,c]
 |dK J=>let#[z,y,vs,r,i,es,B,e,c]:=x;show#[z,y,vs,r,i,es,B,k _ _ (.inl rfl) e,c]
 |dT J=>let#[z,y,xs,r,i,es,B,e,c]:=x;show#[z,y,xs,Paired.mapP r λp q z=>#[z.1,L _ _ z.2.1,z.2.2],i,es,B,k _ _ (.inl rfl) e,c]
 |set vs=>
  rcases x with⟨z,⟨n,e⟩|⟨n,xs,p,i,es,B,t,e,c⟩|⟨n,xs,p,Y,i,es,B,t,e,c⟩⟩
  .show#[z,.inl #[n,k _ _ (.inl rfl) e]]
  .show#[z,.inr (.inl #[n,xs,p,i,es,B,t,k _ _ (.inl rfl) e,c])]
  .show#[z,.inr (.inr #[n,xs,p,λq Z=>L _ _ (Y q Z),i,es,B,t,k _ _ (.inl rfl) e,c])]
 |ins C dx fs=>let#[d,z,M,e,I,#[G,es,B,e2,c],r]:=x;show#[ho _ d,z,M,k _ _ (.inl rfl) e,I,#[G,es,B,k _ _ (.inr d) e2,c],r]
 |own y=>let#[i,e]:=x;show#[i,k _ _ (.inl rfl) e]
 |xd fs=>let#[I,#[G,es,B,e,c],r]:=x;show#[I,#[G,es,B,k _ _ (.inl rfl) e,c],r]
 |rng lo hi=>let#[t,u,v,e]:=x;show#[t,u,v,k _ _ (.inl rfl) e]
 |frz i u U=>let#[e,q]:=x;show#[k _ _ (.inl rfl) e,U q]
 |tbl ps=>have e:h.get? a=some {cls:=.none,data:=.fields ps}:=x;show h'.get? a=some {cls:=.none,data:=.fields ps};show k a _ (.inl rfl) e
 |met f y=>have e:h.get? a=⇑(W.methodObj (.ref f) (.ref y)):=x;show h'.get? a=⇑(W.methodObj (.ref f) (.ref y));show k a _ (.inl rfl) e
 |ext φ=>let#[p,#[o,e],st]:=x;show#[st _ _ p λo q=>k _ _ (.inl rfl) q,#[o,k _ _ (.inl rfl) e],st]
def eA.lt(x:eA P w H h)(e:H a=⇑o):a<h.objs.size:=(x a o e).lt
def eA.fresh(x:eA P w H h)(e:h.objs.size<=a):H a=none:=by
 cases q:H a with
 |none=>rfl
 |some u=>show absurd (lt_of_lt_of_le (x.lt q) e) (lt_irrefl _)
def eA.kept(x:eA P w H h)(k:∀b u,h.get? b=⇑u->h'.get? b=⇑u):eA P w H h':=λa o e=>(x a o e).stay (λb u _ q=>k b u q) (λ_ q=>q) λ_ _ q=>q
def eA.laid(x:eA P w H h)(k:∀b u,h.get? b=⇑u->h'.get? b=⇑u)(F:h.objs.size<=a)(new:zR P w (upd H a o) h' a o):eA P w (upd H a o) h':=λb u e=>by
 let i:=x.fresh F;by_cases B:b=a
 .subst B;rw[AB]at e;cases e;show new
 .rw[Aj B]at e;show(x b u e).stay (λc v _ q=>k c v q) (λc q=>by rw[Aj (BR q i)];show q) λc xs q=>by rw[Aj (BR q i)];show q
end
@[inline]def Rd(H:Hp)(a:Addr)(u:HO):Prop:=H a=some u\/∃o,H a=some (.frz o u)
def Rd.of(h:H a=⇑u):Rd H a u:=.inl h
def Rd.ok(r:Rd H a u)(x:eA P w H h):zR P w H h a u:=by
 rcases r with r|⟨o,r⟩
 .show x a u r
 .obtain⟨_,q⟩:=x a _ r;show q
def cx:Option HO->Prop
 |some (.lst _)=>True
 |some (.dK _)=>True
 |some (.dT _)=>True
 |some (.set _)=>True
 |some (.ins _ _ _)=>True
 |some (.ext _)=>True
 |_=>False
section
variable{P:Program}{w:World}{H:Hp}{h h':Heap}{x e:Addr}{o':HO}
def eA.write(ok:eA P w H h)(F:cx (H x))(O:e=x\/H e=⇑(.own x))(k:∀b u,b≠e->h.get? b=⇑u->h'.get? b=⇑u)(G:∃u,h'.get? e=⇑u)
  (new:zR P w (upd H x o') h' x o'):eA P w (upd H x o') h':=λb u q=>by
 let B:∀c y,H c=⇑(.own y)->c≠x:=λc y r z=>by subst z;rw[r]at F;show F
 let i:∀c xs,H c=⇑(.tup xs)->c≠x:=λc xs r z=>by subst z;rw[r]at F;show F
 by_cases L:b=x
 .subst L;rw[AB]at q;cases q;show new
 .rw[Aj L]at q;by_cases I:b=e
  .let J:H b=⇑(.own x):=by grind
   rw[q]at J;cases J;let#[v,M]:=G;show#[v,by rw[I];show M]
  .show(ok b u q).stay (λc v U r=>k c v ?_ r) (λc r=>by rw[Aj (B c b r)];show r) λc xs r=>by rw[Aj (i c xs r)];exact r
   grind
end
structure Un(fs ex:List Addr)(H H':Hp)(h h':Heap):Prop where
 keep:∀b o,h.get? b=⇑o->H b=none->b∉fs->b∉ex->h'.get? b=⇑o
 slot:∀b o,h.get? b=⇑o->H b=none->b∈fs->b∉ex->∃sl,h'.get? b=some {o with slots:=sl}
 free:∀b o,h.get? b=⇑o->H b=none->b∉ex->H' b=none
 there:∀b o,h.get? b=⇑o->b∉ex->∃o',h'.get? b=⇑o'
 tups:∀b xs,H b=⇑(.tup xs)->H' b=⇑(.tup xs)
 frzs:∀b o u,H b=⇑(.frz o u)->H' b=⇑(.frz o u)
 tbls:∀b ps,H b=⇑(.tbl ps)->∃more,H' b=⇑(.tbl (ps++more))
section
variable{fs fs' ex ex':List Addr}{H H1 H2:Hp}{h h1 h2 h':Heap}{a x e:Addr}{o:HO}
def Un.any(u:Un fs ex H H1 h h1)(q:h.get? b=⇑i)(n:H b=none)(B:b∉ex):∃G,h1.get? b=some {i with slots:=G}:=by
 by_cases F:b∈fs
 .show u.slot b i q n F B
 .show#[i.slots,u.keep b i q n F B]
def Un.kept(k:∀b u,h.get? b=⇑u->h'.get? b=⇑u):Un fs ex H H h h':=
 #[λb i q _ _ _=>k b i q,λb i q _ _ _=>#[i.slots,k b i q],λ_ _ _ n _=>n,λb i q _=>#[i,k b i q],λ_ _ q=>q,λ_ _ _ q=>q,λ_ ps q=>#[#[],by rw[q];simp]]
def Un.refl:Un fs ex H H h h:=Un.kept λ_ _ q=>q
def Un.laid(k:∀b u,h.get? b=⇑u->h'.get? b=⇑u)(hp:h.objs.size<=a)(hn:H a=none):Un fs ex H (upd H a o) h h' where
 keep:=λb u q _ _ _=>k b u q
 slot:=λb u q _ _ _=>#[u.slots,k b u q]
 free:=λb u q n _=>by rw[Aj (ne_of_lt (lt_of_lt_of_le (qe q) hp))];show n
 there:=λb u q _=>#[u,k b u q]
 tups:=λb xs q=>by rw[Aj (BR q hn)];show q
 frzs:=λb u xs q=>by rw[Aj (BR q hn)];show q
 tbls:=λb ps q=>#[#[],by rw[Aj (BR q hn),q];simp]
def Un.write(i:cx (H x))(J:e=x\/H e=⇑(.own x))(k:∀b u,b≠e->h.get? b=⇑u->h'.get? b=⇑u)(I:∃u,h'.get? e=⇑u):Un fs ex H (upd H x o) h h':=by
 let G:∀b,H b=none->b≠x:=λb n z=>by subst z;rw[n]at i;show i
 let F:∀b,H b=none->b≠e:=λb n z=>by grind
 let B:∀b u,H b=⇑u->¬cx ⇑u->b≠x:=λb u q nm z=>by subst z;rw[q]at i;show nm i
 refine⟨λb u q n _ _=>k b u (F b n) q,λb u q n _ _=>#[u.slots,k b u (F b n) q],λb u q n _=>by rw[Aj (G b n)];exact n,λb u q _=>?_,
  λb xs q=>by rw[Aj (B b _ q λz=>z)];show q,λb u xs q=>by rw[Aj (B b _ q λz=>z)];show q,λb ps q=>#[#[],by rw[Aj (B b _ q λz=>z),q];simp]⟩
 grind
end
def gq(h:Heap)(H:Hp):List Addr:=(List.range h.objs.size).filter λa=>(H a).isSome
def iN(h:Heap)(H:Hp):Heap:=W.hideAll h (gq h H)
def SC(h:Heap)(H:Hp):(iN h H).objs.size=h.objs.size:=W.hideAll_size _ _
def Qs(e:h.get? b=⇑o)(n:H b=none):(iN h H).get? b=⇑o:=
 W.hideAll_get _ e λi=>by let q:(H b).isSome=true:=(mem_filter.mp i).2;rw[n]at q;simp at q
def PJ(e:(iN h H).get? b=⇑o):h.get? b=⇑o/\H b=none:=by
 let i:h.get? b=⇑o:=W.of_hideAll (gq h H) e;show#[i,?_];cases q:H b with
 |none=>rfl
 |some x=>grind[gq,mem_filter,mem_range,Heap.lt_size,iN,W.hideAll_none]
def lZ(g h:Heap)(L:Addr):List (Addr×Obj):=(List.range h.objs.size).filterMap λa=>if a=L\/(g.get? a).isSome=true then none else(h.get? a).map λo=>(a,o)
def UB(h1:a≠L)(h2:g.get? a=none)(i:h.get? a=⇑o):(a,o)∈lZ g h L:=
 mem_filterMap.mpr #[a,qI.mpr (qe i),by simp[h1,h2,i]]
def rest(g h:Heap)(L d:Addr):List (Addr×Obj):=(lZ g h L).filter λp=>↥(p.1≠d)
theorem zcN(h1:a≠L)(h2:g.get? a=none)(B:h.get? a=⇑o)(i:a≠d):(a,o)∈rest g h L d:=
 mem_filter.mpr #[UB h1 h2 B,qQ i]
structure Mod(K:W.Frag)(mg:Str->Option Value)(base:Heap):Prop where
 kin:K.In base
 glob:base.Ns mainGlobals mg
 blt:∃mb,base.Ns builtinsNs mb/\∀x:Str,x≠"__name__"->mb x=bootBuiltins x
 nolimit:base.NoLimit
structure Cx where
 prog:Program
 w:World
 K:W.Frag
 mg:Str->Option Value
 base:Heap
 A:Around
 N:List Str
 s₀:Shared
 H₀:Hp
 env:Env
 outer:List Env
 stack:List Env
 ex:List Addr
 fn:Str->Bool
 calm:Bool
 pn:List (Addr×Obj)
 xe:zr
def iW(l:List Env):List Addr:=l.filterMap (·.frame)
abbrev Cx.fs(X:Cx):List Addr:=iW X.outer
def xT(i:Scope)(x:Str):Prop:=i.names.lookup x=⇑.local\/i.names.lookup x=⇑.cell\/i.names.lookup x=⇑.free
@[inline]def Loc(i:Scope)(x:Str):Prop:=i.names.lookup x=some .local\/i.names.lookup x=some .cell
@[inline]def Look(env:Env)(h:Heap)(m:Str->Option Value)(x:Str)(u:Value):Prop:=
 (env.kindOf x=⇑.local/\m x=⇑u)\/((env.kindOf x=⇑.cell\/env.kindOf x=⇑.free)/\∃c,env.cells.lookup x=⇑c/\h.IsCell c ⇑u)
structure Cx.Ok(X:Cx):Prop where
 mod:Mod X.K X.mg X.base
 kind:X.env.scope.kind=.function
 glob:X.env.globals=mainGlobals
 blt:X.env.builtins=builtinsNs
 above:X.s₀.heap.objs.size<=X.env.locals
 inj:∀x y c,X.env.cells.lookup x=⇑c->X.env.cells.lookup y=⇑c->x=y
 has:∀x,(X.env.kindOf x=⇑.cell\/X.env.kindOf x=⇑.free)->∃c,X.env.cells.lookup x=⇑c
 cab:∀x c,X.fn x=true->X.env.cells.lookup x=⇑c->X.s₀.heap.objs.size<=c
 hd:X.calm=true->X.A.handled=none
 frames:X.A.frames=⇑X.stack
 stk:X.stack=X.outer\/(X.stack=X.env::X.outer/\X.env.frame=⇑X.env.locals)
 exf:∀b∈X.ex,b≠X.env.locals/\∀x c,X.env.cells.lookup x=⇑c->c≠b
 bs:∀b o,X.base.get? b=⇑o->X.s₀.heap.get? b=⇑o/\X.H₀ b=none
 bsz:X.base.objs.size<=X.s₀.heap.objs.size
 noex:∀b o,X.base.get? b=⇑o->b∉X.ex
 exfs:∀b∈X.ex,b∉X.fs
 funs:X.s₀.heap.FunFrames X.base X.outer
 frf:∀b∈X.fs,X.H₀ b=none
structure Inv(X:Cx)(zS:List (Addr×Obj))(σ:List (Option V))(H:Hp)(s:Shared):Prop where
 ok:X.Ok
 os:s.os=X.s₀.os
 bare:AllBare s.gens
 base:Un X.fs X.ex X.H₀ H X.s₀.heap s.heap
 loc:∃m,s.heap.Ns X.env.locals m/\∀(i:Nat)(x:Str)(v:V),X.N[i]?=⇑x->σ[i]?=⇑⇑v->xT X.env.scope x->∃u,zH v u/\Look X.env s.heap m x u
 cell:∀x c,X.env.cells.lookup x=⇑c->∃v,s.heap.IsCell c v
 free:H X.env.locals=none
 freeC:∀x c,X.env.cells.lookup x=⇑c->H c=none
 pin:∀p∈X.pn++zS,s.heap.get? p.1=⇑p.2/\H p.1=none/\p.1≠X.env.locals/\p.1∉X.fs/\∀v,p.2.data≠.cell v
 hok:eA X.prog X.w H s.heap
 len:σ.length=X.N.length
section
variable{X:Cx}{zS:List (Addr×Obj)}{σ:List (Option V)}{H H':Hp}{s:Shared}{h':Heap}
def Cx.Ok.nofr(ok:X.Ok)(e:X.base.get? b=⇑o):b∉X.fs:=λi=>by let:=(ok.funs.mem i).1;rw[e]at this;cases this
def Inv.bs(I:Inv X zS σ H s):∀b o,X.base.get? b=⇑o->s.heap.get? b=⇑o/\H b=none:=λb o e=>#[I.base.keep b o (I.ok.bs b o e).1 (I.ok.bs b o e).2 (I.ok.nofr e) (I.ok.noex b o e),I.base.free b o (I.ok.bs b o e).1 (I.ok.bs b o e).2 (I.ok.noex b o e)]
def Inv.bk(I:Inv X zS σ H s):∀b o,X.base.get? b=⇑o->s.heap.get? b=⇑o:=λb o e=>(I.bs b o e).1
def Inv.mod(I:Inv X zS σ H s):Mod X.K X.mg X.base:=I.ok.mod
def Inv.kIn(I:Inv X zS σ H s):X.K.In s.heap:=I.ok.mod.kin.keeps I.bk
def Inv.fr(I:Inv X zS σ H s):∃m,Fr X.base X.env.locals s.heap m:=
 let⟨m,hn,_⟩:=I.loc
 #[m,hn,I.bk,le_trans I.ok.bsz I.ok.above]
def Inv.lt(I:Inv X zS σ H s):X.env.locals<s.heap.objs.size:=let⟨_,hn,_⟩:=I.loc;hn.lt
def Inv.sz(I:Inv X zS σ H s):X.s₀.heap.objs.size<=s.heap.objs.size:=le_trans I.ok.above (le_of_lt I.lt)
def Inv.nofs(I:Inv X zS σ H s)(h:s.heap.objs.size<=a):a∉X.fs:=λB=>by let#[_,o,i,_]:=I.ok.funs.mem B;show absurd (lt_of_lt_of_le (qe i) (le_trans I.sz h)) (lt_irrefl _)
def Inv.cne(I:Inv X zS σ H s):∀x c,X.env.cells.lookup x=⇑c->c≠X.env.locals:=λx c e z=>by let#[v,o,F,G]:=I.cell x c e;let#[m,#[o',es,J,i,B,_],_]:=I.loc;rw[z,i]at F;cases F;rw[B]at G;cases G
def Inv.funs(I:Inv X zS σ H s):s.heap.FunFrames X.base X.outer:=by
 have all:∀(l:List Env),(∀b∈iW l,b∈X.fs)->X.s₀.heap.FunFrames X.base l->s.heap.FunFrames X.base l:=by
  intro l;induction l with
  |nil=>intro _ _;trivial
  |cons h1 r J=>intro G Y;let#[Z,#[L,o,i,U,O,hd],M]:=Y;let F:L∈X.fs:=G L (by unfold iW;rw[List.filterMap_cons,i];show qm);let#[sl,e]:=I.base.slot L o O (I.ok.frf L F) F λz=>I.ok.exfs L z F;show#[Z,#[L,_,i,U,e,hd],J (λb B=>G b (by unfold iW;rw[List.filterMap_cons,i];show qk _ B)) M]
 show all X.outer (λ_ B=>B) I.ok.funs
def Inv.stack(I:Inv X zS σ H s):s.heap.FunFrames X.base X.stack:=by
 rcases I.ok.stk with e|⟨e,B⟩
 .rw[e];show I.funs
 .rw[e];let#[m,i,_]:=I.loc;show .cons (by rw[I.ok.kind];decide) B i ?_ I.funs;show Heap.get?_none_of_le (le_trans I.ok.bsz I.ok.above)
def Inv.stkSub(I:Inv X zS σ H s):∀b∈iW X.stack,b∈X.env.locals::X.fs:=λb i=>by
 rcases I.ok.stk with e|⟨e,B⟩
 .rw[e]at i;show qk _ i
 .rw[e]at i;unfold iW at i;rw[List.filterMap_cons,B]at i;show i
def Inv.stkFree(I:Inv X zS σ H s):∀b∈iW X.stack,H b=none:=λb i=>by
 rcases qA.mp (I.stkSub b i)with e|i
 .rw[e];show I.free
 .obtain⟨_,o,B,_⟩:=I.ok.funs.mem i;show I.base.free b o B (I.ok.frf b i) λz=>I.ok.exfs b z i
def Inv.step{ch:List Addr}(I:Inv X zS σ H s)
  (J:∀b∈ch,(b∈X.ex\/X.s₀.heap.get? b=none)/\b≠X.env.locals/\(∀x c,X.env.cells.lookup x=⇑c->c≠b)/\∀p∈X.pn++zS,p.1≠b)
  (G:∀b o,b≠X.env.locals->b∉X.fs->b∉ch->s.heap.get? b=⇑o->H b=none->h'.get? b=⇑o)
  (slot:∀b o,b≠X.env.locals->b∈X.fs->b∉ch->s.heap.get? b=⇑o->H b=none->∃sl,h'.get? b=some {o with slots:=sl})(free:∀b o,b∉ch->s.heap.get? b=⇑o->H b=none->H' b=none)
  (there:∀b o,b∉ch->s.heap.get? b=⇑o->∃o',h'.get? b=⇑o')
  (Z:∀b xs,H b=⇑(.tup xs)->H' b=⇑(.tup xs))(h4:∀b o u,H b=⇑(.frz o u)->H' b=⇑(.frz o u))(h1:∀b ps,H b=⇑(.tbl ps)->∃h3,H' b=⇑(.tbl (ps++h3)))
  (ns:∀m,s.heap.Ns X.env.locals m->h'.Ns X.env.locals m)(h6:eA X.prog X.w H' h')(hg:AllBare g'):
  Inv X zS σ H' {s with heap:=h',gens:=g',drawn:=d',toks:=t'}:=by
 have h2:∀b o,X.s₀.heap.get? b=⇑o->b≠X.env.locals:=λb o e=>ne_of_lt (lt_of_lt_of_le (qe e) I.ok.above);let M:∀b o,X.s₀.heap.get? b=⇑o->b∉X.ex->b∉ch:=λb o e B U=>by
  rcases(J b U).1 with z|z
  .show B z
  .rw[z]at e;cases e
 have L:∀x c,X.env.cells.lookup x=⇑c->∀v,s.heap.IsCell c v->h'.IsCell c v:=λx c e v⟨o,Y,hd⟩=>by
  let F:c∉ch:=λz=>(J c z).2.2.1 x c e rfl;by_cases hc:c∈X.fs
  .obtain⟨sl,q⟩:=slot c o (I.cne x c e) hc F Y (I.freeC x c e);show#[_,q,hd]
  .show#[o,G c o (I.cne x c e) hc F Y (I.freeC x c e),hd]
 show#[I.ok,I.os,hg,#[λb o e n U B=>?_,λb o e n U B=>?_,λb o e n B=>?_,λb o e B=>?_,λb xs e=>Z b xs (I.base.tups b xs e),λb o xs e=>h4 b o xs (I.base.frzs b o xs e),λb ps e=>?_],?_,λx c e=>?_,?_,λx c e=>?_,λp hp=>?_,h6,I.len]
 .show G b o (h2 b o e) U (M b o e B) (I.base.keep b o e n U B) (I.base.free b o e n B)
 .obtain⟨sl,O⟩:=I.base.slot b o e n U B;let#[h5,e2]:=slot b _ (h2 b o e) U (M b o e B) O (I.base.free b o e n B);show#[h5,e2]
 .obtain⟨o',O⟩:=I.base.there b o e B;show free b o' (M b o e B) O (I.base.free b o e n B)
 .obtain⟨o',O⟩:=I.base.there b o e B;show there b o' (M b o e B) O
 .obtain⟨m1,O⟩:=I.base.tbls b ps e;let#[m2,e2]:=h1 b _ O;show#[m1++m2,by rw[e2,Array.append_assoc]]
 .obtain⟨m,hn,hl⟩:=I.loc;show#[m,ns m hn,λi x v O e2 e3=>?_];let#[u,r,l]:=hl i x v O e2 e3;show#[u,r,?_];rcases l with l|⟨k,c,e,z⟩
  .show .inl l
  .show .inr #[k,c,e,L x c e _ z]
 .obtain⟨v,z⟩:=I.cell x c e;show#[v,L x c e v z]
 .obtain⟨m,⟨o,_,_,Y,_⟩,_⟩:=I.loc;show free _ o (λz=>(J _ z).2.1 rfl) Y I.free
 .obtain⟨v,o,Y,hd⟩:=I.cell x c e;show free c o (λz=>(J c z).2.2.1 x c e rfl) Y (I.freeC x c e)
 .obtain⟨e,n,ne,nf,d⟩:=I.pin p hp;let F:p.1∉ch:=λz=>(J p.1 z).2.2.2 p hp rfl;show#[G p.1 p.2 ne nf F e n,free p.1 p.2 F e n,ne,nf,d]
def Inv.un(I:Inv X zS σ H s)(u:Un X.fs [] H H' s.heap h')(B:eA X.prog X.w H' h'):Inv X zS σ H' {s with heap:=h',toks:=t'}:=by let#[m,#[o,es,ep,L,r],_]:=id I.loc;let#[Y,U]:=u.any L I.free (by simp);show I.step (g':=s.gens) (d':=s.drawn) (ch:=[]) (λ_ z=>nomatch z) (λb o _ F _ e n=>u.keep b o e n F (by simp)) (λb o _ F _ e n=>u.slot b o e n F (by simp)) (λb o _ e n=>u.free b o e n (by simp)) (λb o _ e=>u.there b o e (by simp)) u.tups u.frzs u.tbls (λZ O=>by let#[o',G,J,i,M]:=O;rw[L]at i;cases i;show#[_,G,J,U,M]) B I.bare
def Inv.call(I:Inv X zS σ H s)(u:Un (iW X.stack) ch H H' s.heap h')(G:eA X.prog X.w H' h')(Z:AllBare g')
  (F:∀b∈ch,(b∈X.ex\/X.s₀.heap.get? b=none)/\b≠X.env.locals/\(∀x c,X.env.cells.lookup x=⇑c->c≠b)/\∀p∈X.pn++zS,p.1≠b):
  Inv X zS σ H' {s with heap:=h',gens:=g',drawn:=d',toks:=t'}:=by
 let#[m,#[o,es,ep,O,r],_]:=id I.loc;let#[sl,J]:=u.any O I.free λz=>(F _ z).2.1 rfl;show I.step (ch:=ch) F (λb o J hb i e n=>u.keep b o e n (λz=>(qA.mp (I.stkSub b z)).elim J hb) i) (λb o _ _ i e n=>u.any e n i) (λb o i e n=>u.free b o e n i) (λb o i e=>u.there b o e i) u.tups u.frzs u.tbls (λm' Y=>by let#[o',L,M,B,U]:=Y;rw[O]at B;cases B;show#[_,L,M,J,U]) G Z
def Inv.turned(I:Inv X zS σ H s)(k:∀b o,b≠i->s.heap.get? b=⇑o->h'.get? b=⇑o)(hn:H i=none)(G:i≠X.env.locals)
  (h1:i∈X.ex\/X.s₀.heap.get? i=none)(h2:∀x c,X.env.cells.lookup x=⇑c->c≠i)(O:∀p∈X.pn++zS,p.1≠i):Inv X zS σ H {s with heap:=h',toks:=t'}:=by
 let F:∀b u,H b=⇑u->b≠i:=λb u e z=>by rw[z,hn]at e;cases e
 refine I.step (g':=s.gens) (d':=s.drawn) (ch:=[i]) (λb M=>?_) (λb o _ _ B e _=>k b o (λz=>B (by simp[z])) e) (λb o _ _ B e _=>#[o.slots,k b o (λz=>B (by simp[z])) e]) (λ_ _ _ _ n=>n)
  (λb o B e=>#[o,k b o (λz=>B (by simp[z])) e]) (λ_ _ e=>e) (λ_ _ _ e=>e) (λb ps e=>#[#[],by rw[e];simp]) (λm L=>?_) (λb u e=>?_) I.bare
 .let e:b=i:=by simpa using M
  subst e;show#[h1,G,h2,O]
 .obtain⟨o,es,U,J,r⟩:=L;show#[o,es,U,k _ o (Ne.symm G) J,r]
 .show(I.hok b u e).stay (λc v B q=>k c v ?_ q) (λ_ q=>q) λ_ _ q=>q;rcases B with z|z
  .rw[z];show F b u e
  .show F c _ z
def Inv.tok(I:Inv X zS σ H s)(t:Nat):Inv X zS σ H {s with toks:=t}:=I.un (h':=s.heap) (t':=t) Un.refl I.hok
def Inv.kept(I:Inv X zS σ H s)(k:∀b u,s.heap.get? b=⇑u->h'.get? b=⇑u):Inv X zS σ H {s with heap:=h',toks:=t'}:=I.un (Un.kept k) (I.hok.kept k)
def Inv.laid(I:Inv X zS σ H s)(k:∀b u,s.heap.get? b=⇑u->h'.get? b=⇑u)(i:s.heap.objs.size<=a)(new:zR X.prog X.w (upd H a o) h' a o):
  Inv X zS σ (upd H a o) {s with heap:=h',toks:=t'}:=I.un (Un.laid k i (I.hok.fresh i)) (I.hok.laid k i new)
def Inv.write(I:Inv X zS σ H s)(B:cx (H x))(F:e=x\/H e=⇑(.own x))(k:∀b u,b≠e->s.heap.get? b=⇑u->h'.get? b=⇑u)(i:∃u,h'.get? e=⇑u)
  (new:zR X.prog X.w (upd H x o) h' x o):Inv X zS σ (upd H x o) {s with heap:=h',toks:=t'}:=I.un (Un.write B F k i) (I.hok.write B F k i new)
def Inv.pins_of(I:Inv X zS σ H s)(h:∀p∈pins',s.heap.get? p.1=⇑p.2/\H p.1=none/\p.1≠X.env.locals/\p.1∉X.fs/\∀v,p.2.data≠.cell v):Inv X pins' σ H s:=
 #[I.ok,I.os,I.bare,I.base,I.loc,I.cell,I.free,I.freeC,λp i=>(qx.mp i).elim (λz=>I.pin p (qj _ z)) (h p),I.hok,I.len]
def CG{N:List Str}(B:N.Nodup){i j:Nat}(a:N[i]?=⇑x)(b:N[j]?=⇑x):i=j:=by let#[h1,G]:=qg.mp a;let#[h2,F]:=qg.mp b;show(List.getElem_inj B).mp (G.trans F.symm)
def SM(I:Inv X zS σ H s)(hN:X.N.Nodup)(hi:X.N[i]?=⇑x)(L:Loc X.env.scope x)(r:zH v u)
  (h:∀s',Inv X zS (σ.set i ⇑v) H s'->(∃a,Heap.SameBut a s.heap s'.heap/\(a=X.env.locals\/X.env.cells.lookup x=⇑a))->Q () s')(hf:X.fn x=true\/X.env.scope.names.lookup x=⇑.local:=by first|show .inl rfl|show .inr rfl|assumption):wpAny M A (storeName X.env x u) Q E s:=by
 let#[m,hn,hl]:=id I.loc;let h4:(X.env.scope.kind==.class||(X.env.scope.kind==.module&&X.env.locals !=X.env.globals))=false:=by rw[I.ok.kind];rfl
 let Z:i<σ.length:=by rw[I.len];show(qg.mp hi).1
 have cne:=I.cne;let F:∀{a:Addr}{h':Heap},(∃o,s.heap.get? a=⇑o/\H a=none)->Heap.SameBut a s.heap h'->eA X.prog X.w H h':=λ{a h'} ha B b ob e=>by
  let#[_,_,O]:=ha;show(I.hok b ob e).stay (λc w' J q=>(B.2 c ?_).trans q) (λ_ q=>q) λ_ _ q=>q;rintro rfl;rcases J with rfl|J
  .rw[O]at e;cases e
  .rw[O]at J;cases J
 rcases L with Y|Y
 .refine wpAny_storeName_local Y hn (λh' h8 B=>?_) h4;let#[oL,_,_,h7,_]:=id hn;refine h _ #[I.ok,I.os,I.bare,#[λb o e n hb L=>?_,λb o e n hb L=>?_,I.base.free,λb o e L=>?_,I.base.tups,I.base.frzs,I.base.tbls],#[_,h8,λj y v' G U e3=>?_],λy c e=>?_,I.free,I.freeC,λp hp=>?_,F #[oL,h7,I.free] B,↑I.len] #[_,B,.inl rfl]
  .show(B.2 b (ne_of_lt (lt_of_lt_of_le (qe e) I.ok.above))).trans (I.base.keep b o e n hb L)
  .obtain⟨sl,G⟩:=I.base.slot b o e n hb L;show#[sl,(B.2 b (ne_of_lt (lt_of_lt_of_le (qe e) I.ok.above))).trans G]
  .obtain⟨o',G⟩:=I.base.there b o e L;show#[o',(B.2 b (ne_of_lt (lt_of_lt_of_le (qe e) I.ok.above))).trans G]
  .by_cases hj:j=i
   .subst hj;rw[hi]at G;cases G;rw[getElem?_set_self Z]at U;cases U;show#[u,r,.inl #[Y,by simp]]
   .rw[getElem?_set_ne (Ne.symm hj)]at U;let#[u',r',q]:=hl j y v' G U e3;show#[u',r',?_];rcases q with⟨k,e⟩|⟨k,c,e,z⟩
    .show .inl #[k,?_];let:y≠x:=λe=>hj (CG hN G (e▸hi));simp[this,e]
    .show .inr #[k,c,e,z.sameBut B (cne y c e)]
  .obtain⟨w',z⟩:=I.cell y c e;show#[w',z.sameBut B (cne y c e)]
  .obtain⟨e,n,ne,nf,d⟩:=I.pin p hp;show#[(B.2 p.1 ne).trans e,n,ne,nf,d]
 .have h1:X.fn x=true:=by
   rcases hf with z|z
   .show z
   .rw[z]at Y;cases Y
  let#[c,J]:=I.ok.has x (.inl Y);let#[w',z]:=I.cell x c J;show wpAny_storeName_cell I.ok.kind Y J z (λh' h6 B=>?_);let#[oc,h3,h2]:=id z;show h {s with heap:=h'} ⟨I.ok,I.os,I.bare,⟨λb o e n hb L=>?_,λb o e n hb L=>?_,I.base.free,λb o e L=>?_,I.base.tups,I.base.frzs,I.base.tbls⟩,⟨m,hn.sameBut B (Ne.symm (cne x c J)),λj y v' G U e3=>?_⟩,λy c' e=>?_,I.free,I.freeC,λp hp=>?_,F ⟨oc,h3,I.freeC x c J⟩ B,↑I.len⟩ #[c,B,.inr J]
  .show(B.2 b (ne_of_lt (lt_of_lt_of_le (qe e) (I.ok.cab x c h1 J)))).trans (I.base.keep b o e n hb L)
  .obtain⟨sl,G⟩:=I.base.slot b o e n hb L;show#[sl,(B.2 b (ne_of_lt (lt_of_lt_of_le (qe e) (I.ok.cab x c h1 J)))).trans G]
  .obtain⟨o',G⟩:=I.base.there b o e L;show#[o',(B.2 b (ne_of_lt (lt_of_lt_of_le (qe e) (I.ok.cab x c h1 J)))).trans G]
  .by_cases hj:j=i
   .subst hj;rw[hi]at G;cases G;rw[getElem?_set_self Z]at U;cases U;show#[u,r,.inr #[.inl Y,c,J,h6]]
   .rw[getElem?_set_ne (Ne.symm hj)]at U;let#[u',r',q]:=hl j y v' G U e3;show#[u',r',?_];rcases q with q|⟨k,c',e,z'⟩
    .show .inl q
    .show .inr #[k,c',e,z'.sameBut B ?_];rintro rfl;show hj (CG hN G (I.ok.inj _ _ _ e J▸hi))
  .by_cases h5:c'=c
   .subst h5;show#[_,h6]
   .obtain⟨w2,z2⟩:=I.cell y c' e;show#[w2,z2.sameBut B h5]
  .obtain⟨e,n,ne,nf,d⟩:=I.pin p hp;show#[(B.2 p.1 ?_).trans e,n,ne,nf,d];intro q;rw[q,h3]at e;let q':oc=p.2:=qf e;show d w' (by rw[<-q'];show h2)
def JY(I:Inv X zS σ H s)(G:X.N.Nodup)(hi:X.N[i]?=⇑x)(B:Loc X.env.scope x)(r:zH v u)
  (h:∀s',Inv X zS (σ.set i ⇑v) H s'->Q () s')(F:X.fn x=true\/X.env.scope.names.lookup x=⇑.local:=by first|show .inl rfl|show .inr rfl|assumption):wpAny M A (storeName X.env x u) Q E s:=
 SM I G hi B r (λs' J _=>h s' J) F
def Inv.call'(I:Inv X zS σ H s)(F:s'.os=s.os)(u:Un (iW X.stack) ch H H' s.heap s'.heap)(i:eA X.prog X.w H' s'.heap)(G:AllBare s'.gens)
  (B:∀b∈ch,(b∈X.ex\/X.s₀.heap.get? b=none)/\b≠X.env.locals/\(∀x c,X.env.cells.lookup x=⇑c->c≠b)/\∀p∈X.pn++zS,p.1≠b):Inv X zS σ H' s':=by
 let#[h',g',d',t',o']:=s';let e:o'=s.os:=F;subst e;show I.call (g':=g') (t':=t') (d':=d') u i G B
end
abbrev XK:=Value->Option Addr->Hp->Prop
abbrev St:=List (Option V)
abbrev VK:=V->Hp->Prop
abbrev TE:=St->Hp->VK->Prop
abbrev TT:=St->Hp->(Bool->Hp->Prop)->Prop
abbrev TA:=St->Hp->(List V->Hp->Prop)->Prop
structure Ends where
 nx:St->Hp->Prop
 rt:VK
 bk:St->Hp->Prop:=λ_ _=>False
 ct:St->Hp->Prop:=λ_ _=>False
abbrev TS:=Ends->St->Hp->Prop
inductive EP(X:Cx)(zS:List (Addr×Obj))(σ:St)(Q:VK)(u:Value)(s':Shared):Prop
 |mk (v:V) (H':Hp):Inv X zS σ H' s'->zH v u->Q v H'->EP X zS σ Q u s'
inductive TP(X:Cx)(zS:List (Addr×Obj))(σ:St)(Q:Bool->Hp->Prop)(b:Bool)(s':Shared):Prop
 |mk (H':Hp):Inv X zS σ H' s'->Q b H'->TP X zS σ Q b s'
inductive AP(X:Cx)(zS:List (Addr×Obj))(σ:St)(Q:List V->Hp->Prop)(us:List Value)(s':Shared):Prop
 |mk (vs:List V) (H':Hp):Inv X zS σ H' s'->zP vs us->Q vs H'->AP X zS σ Q us s'
@[inline]def SP(X:Cx)(zS:List (Addr×Obj))(D:Ends)(f:Flow)(s':Shared):Prop:=
 match f with
 |.next=>∃σ' H',Inv X zS σ' H' s'/\D.nx σ' H'
 |.brk=>∃σ' H',Inv X zS σ' H' s'/\D.bk σ' H'
 |.cont=>∃σ' H',Inv X zS σ' H' s'/\D.ct σ' H'
 |.ret u=>∃v σ' H',Inv X zS σ' H' s'/\zH v u/\D.rt v H'
@[inline]def PE(X:Cx)(e:Expr)(t:TE):Prop:=
 ∀(zS:List (Addr×Obj))(s:Shared)(σ:St)(H:Hp)(Q:VK),Inv X zS σ H s->t σ H Q->wpAny (model X.prog X.w) X.A (eval e X.env) (EP X zS σ Q) X.xe s
@[inline]def PT(X:Cx)(e:Expr)(t:TT):Prop:=
 ∀(zS:List (Addr×Obj))(s:Shared)(σ:St)(H:Hp)(Q:Bool->Hp->Prop),Inv X zS σ H s->t σ H Q->wpAny (model X.prog X.w) X.A (isTrue e X.env (eval e X.env)) (TP X zS σ Q) X.xe s
@[inline]def PW(X:Cx)(e:Expr)(t:TT):Prop:=
 ∀(i:Sem Value)(zS:List (Addr×Obj))(s:Shared)(σ:St)(H:Hp)(Q:Bool->Hp->Prop),Inv X zS σ H s->t σ H Q->wpAny (model X.prog X.w) X.A (isTrue e X.env i) (TP X zS σ Q) X.xe s
def PW.pt(h:PW X e t):PT X e t:=h _
@[inline]def PA(X:Cx)(es:List Expr)(t:TA):Prop:=
 ∀(pos:Pos)(zS:List (Addr×Obj))(s:Shared)(σ:St)(H:Hp)(Q:List V->Hp->Prop),Inv X zS σ H s->t σ H Q->wpAny (model X.prog X.w) X.A (spliced (backTo pos (starEach es X.env))) (AP X zS σ Q) X.xe s
@[inline]def PS(X:Cx)(st:Stmt)(t:TS):Prop:=
 ∀(zS:List (Addr×Obj))(s:Shared)(σ:St)(H:Hp)(D:Ends),Inv X zS σ H s->t D σ H->wpAny (model X.prog X.w) X.A (exec st X.env) (SP X zS D) X.xe s
def jR(X:Cx)(st:List Stmt)(t:TS):Prop:=
 ∀(zS:List (Addr×Obj))(s:Shared)(σ:St)(H:Hp)(D:Ends),Inv X zS σ H s->t D σ H->wpAny (model X.prog X.w) X.A (execs st X.env) (SP X zS D) X.xe s
def Ah(h:wpAny M A t Q E s)(i:∀a s,Q a s->Q' a s):wpAny M A t Q' E s:=zp h i λ_ _ x=>x
section
variable{X:Cx}
def gu(i:Nat):TE:=λσ H Q=>∃v,σ[i]?=⇑⇑v/\Q v H
def tC(v:V):TE:=λ_ H Q=>Q v H
def FR(hN:X.N[i]?=⇑x)(O:xT X.env.scope x)(J:autoParam ((x==("__debug__":Str))=false) dZ9)(L:autoParam ((x==("__classdict__":Str))=false) dZ9):PE X (.Name x pos) (gu i):=by
 intro zS s σ H Q I h;let#[v,e,h]:=h;let#[m,U,Z]:=I.loc;let#[u,r,l]:=Z i x v hN e O;let G:EP X zS σ Q u s:=#[v,H,I,r,h]
 rcases l with⟨F,Y⟩|⟨F,c,M,B⟩
 .show wpAny_Name (wpAny_loadName_local I.ok.kind F U Y G) J
 .rcases F with F|F
  .show wpAny_Name (wpAny_loadName_cell I.ok.kind F M B G) J
  .show wpAny_Name (wpAny_loadName_free I.ok.kind F M B G L) J
def Ni:PE X (.Constant (.int i) j pos) (tC (.int i)):=λ_ _ _ H _ I h=>wpAny_Constant_int #[.int i,H,I.tok _,#[_,rfl],h]
def Mn:PE X (.Constant (.bool b) j pos) (tC (.bl b)):=λ_ _ _ H _ I h=>Constant_bool #[.bl b,H,I,rfl,h]
def MM:PE X (.Constant .none j pos) (tC .non):=λ_ _ _ H _ I h=>Constant_none #[.non,H,I,rfl,h]
def NH:PE X (.Constant (.str x) j pos) (tC (.str x)):=λ_ _ _ H _ I h=>Calls.Constant_str #[.str x,H,I.tok _,#[_,rfl],h]
@[inline]def Gl(X:Cx)(x:Str):Prop:=X.env.kindOf x=some .globalImplicit
def Dc(I:Inv X zS σ H s)(B:Gl X x)(i:X.mg x=⇑u)(h:Q u s)
  (F:autoParam ((x==("__debug__":Str))=false) dZ9):wpAny (model X.prog X.w) X.A (eval (.Name x pos) X.env) Q E s:=
 Calls.Name_function_global I.ok.kind B (Calls.loadGlobal_global (by rw[I.ok.glob];show I.mod.glob.keeps I.bk) i h) F
def Bg(I:Inv X zS σ H s)(F:Gl X x)(B:X.mg x=none)(i:bootBuiltins x=⇑u)(h:Q u s)
  (hn:autoParam (x≠"__name__") dZ9)(G:autoParam ((x==("__debug__":Str))=false) dZ9):wpAny (model X.prog X.w) X.A (eval (.Name x pos) X.env) Q E s:=by
 let#[J,h1,h2]:=I.mod.blt;show Calls.Name_function_global I.ok.kind F (Calls.loadGlobal_builtin (by rw[I.ok.glob];show I.mod.glob.keeps I.bk) B (by rw[I.ok.blt];show h1.keeps I.bk) ((h2 x hn).trans i) h) G
def Ge(B:Gl X x)(i:X.mg x=⇑u)(r:zH v u)(F:autoParam ((x==("__debug__":Str))=false) dZ9):PE X (.Name x pos) (tC v):=
 λ_ _ _ H _ I h=>Dc I B i #[v,H,I,r,h] F
variable{a b:Expr}{ta tb:TE}{pos:Pos}
def BH(b:Expr)(h:i≠.In)(h2:i≠.NotIn):behindInMarks i b=false:=by
 let F:(i==CmpOp.In)=false:=by cases i<;>first|rfl|show absurd rfl h
 let B:(i==CmpOp.NotIn)=false:=by cases i<;>first|rfl|show absurd rfl h2
 cases b<;>first|rfl|(show(_&&(i==.In||i==.NotIn)&&_)=false;rw[F,B,Bool.or_false,Bool.and_false];rfl)
variable{tA tB':TT}{rest:List Expr}
def il(t u:TT):TT:=λσ H Q=>t σ H λc H1=>if c=true then u σ H1 Q else Q false H1
def ow(t u:TT):TT:=λσ H Q=>t σ H λc H1=>if c=true then Q true H1 else u σ H1 Q
def ia(t:TT):TT:=λσ H Q=>t σ H λc H1=>Q (!c) H1
def NW(i:PT X a tA):PW X (.BoolOp .And [a] pos) tA:=by
 intro B zS s σ H Q I h;show isTrue_and (Ah (i zS s σ H Q I h) λc F e=>?_);cases c with
 |true=>show isTrue_and_nil e
 |false=>show e
def MD(i:PT X a tA):PW X (.BoolOp .Or [a] pos) tA:=by
 intro B zS s σ H Q I h;show isTrue_or (Ah (i zS s σ H Q I h) λc F e=>?_);cases c with
 |false=>show isTrue_or_nil e
 |true=>show e
def Ms(M:PT X a tA)(L:PW X (.BoolOp .And (b::rest) pos) tB'):PW X (.BoolOp .And (a::b::rest) pos) (il tA tB'):=by
 intro G zS s σ H Q I h;show isTrue_and (Ah (M zS s σ H _ I h) λc J F=>?_);let#[H1,B,i]:=F;cases c with
 |true=>show L G zS J σ H1 Q B i
 |false=>show#[H1,B,i]
def Mi(M:PT X a tA)(L:PW X (.BoolOp .Or (b::rest) pos) tB'):PW X (.BoolOp .Or (a::b::rest) pos) (ow tA tB'):=by
 intro G zS s σ H Q I h;show isTrue_or (Ah (M zS s σ H _ I h) λc J F=>?_);let#[H1,B,i]:=F;cases c with
 |true=>show#[H1,B,i]
 |false=>show L G zS J σ H1 Q B i
def Nz(B:PT X a tA):PT X (.UnaryOp .Not a pos) (ia tA):=by intro zS s σ H Q I h;show isTrue_not (Ah (B zS s σ H (λc H1=>Q (!c) H1) I h) λc G z=>by let#[H1,F,i]:=z;show#[H1,F,i])
def yS(ta tb:TE):TE:=λσ H Q=>ta σ H λx H1=>∃c,x=.bl c/\if c=true then tb σ H1 Q else Q (.bl false) H1
def OJ(h:PE X a t):PE X (.BoolOp i [a] pos) t:=by first|rfl|assumption|(simp_all;done)
def Nh(M:PE X a ta)(L:PE X (.BoolOp .And (b::rest) pos) tb):PE X (.BoolOp .And (a::b::rest) pos) (yS ta tb):=by
 intro zS s σ H Q I h;show BoolOp_and (Ah (M zS s σ H _ I h) λv G F=>?_);let#[x,H1,B,J,i]:=F;let#[c,rfl,i]:=i;cases J;show wpAny_truthy_bool ?_;cases c with
 |true=>show L zS G σ H1 Q B i
 |false=>show#[.bl false,H1,B,rfl,i]
end
def bJ(K:W.Frag)(H:Hp)(a:Addr)(xs:List V):Prop:=
 Rd H a (.lst xs)\/
  ∃(o:Obj)(i:Array Value)(n:Nat),K.lookup a=⇑o/\o.cls=.type "list"/\o.dict=none/\o.data=.seq i n/\i.size<=sizeLine/\zP xs i.toList
def bD(K:W.Frag)(H:Hp)(a:Addr)(xs:List V):Prop:=
 Rd H a (.tup xs)\/
  ∃(o:Obj)(i:Array Value)(n:Nat),K.lookup a=⇑o/\o.cls=.type "tuple"/\o.data=.seq i n/\i.size<=sizeLine/\zP xs i.toList
def lg:Value->Option V
 |.none=>⇑.non
 |.bool b=>⇑(.bl b)
 |.int i _=>⇑(.int i)
 |.str x _=>⇑(.str x)
 |.bytes b _=>⇑(.byt b)
 |.float b _=>⇑(.flt b)
 |.ref a=>⇑(.ref a)
 |.type n=>⇑(.ty n)
 |_=>none
def zH.abs(r:zH x u):lg u=⇑x:=by
 cases x with
 |non=>cases r;rfl
 |bl _=>cases r;rfl
 |int _=>let#[t,rfl]:=r;rfl
 |str _=>let#[t,rfl]:=r;rfl
 |byt _=>let#[t,rfl]:=r;rfl
 |flt _=>let#[t,rfl]:=r;rfl
 |ref _=>cases r;rfl
 |ty _=>cases r;rfl
def zH.inj(r:zH x u)(q:zH y u):x=y:=qf (r.abs.symm.trans q.abs)
def zP.inj:∀{xs ys:List V}{us:List Value},zP xs us->zP ys us->xs=ys:=by
 intro xs ys us r q;induction r generalizing ys with
 |nil=>cases q;rfl
 |cons r _ F=>cases q with
  |cons B i=>rw[r.inj B,F i]
inductive de(xs:List V)(h:Heap)(a:Addr):Prop
 |mk (zW:List Value):zP xs zW->PlainL h a zW.toArray->xs.length<=sizeLine->de xs h a
inductive cz(xs:List V)(h:Heap)(a:Addr):Prop
 |mk (zW:List Value):zP xs zW->IsTup h a zW.toArray->xs.length<=sizeLine->cz xs h a
section
variable{X:Cx}{zS:List (Addr×Obj)}{σ:St}{H:Hp}{s:Shared}{a:Addr}{xs ys:List V}
def bJ.of{K:W.Frag}(h:H a=⇑(.lst xs)):bJ K H a xs:=.inl (.inl h)
def bD.of{K:W.Frag}(h:H a=⇑(.tup xs)):bD K H a xs:=.inl (.inl h)
def Inv.list(I:Inv X zS σ H s)(h:bJ X.K H a xs):de xs s.heap a:=by
 rcases h with h|⟨o,i,n,F,J,G,B,L,r⟩
 .obtain⟨z,i,n,r,e⟩:=h.ok I.hok;show#[i,r,#[_,n,e,rfl,rfl,rfl],z]
 .show#[i.toList,r,#[o,n,I.kIn a o F,J,G,↑B],?_];let e:=r.length;simp only[qU]at e;lia
def Inv.tuple(I:Inv X zS σ H s)(h:bD X.K H a xs):cz xs s.heap a:=by
 rcases h with h|⟨o,i,n,F,G,B,J,r⟩
 .obtain⟨z,i,r,p⟩:=h.ok I.hok;show#[i,r,p,z.1]
 .show#[i.toList,r,#[o,I.kIn a o F,G,n,↑B],?_];let e:=r.length;simp only[qU]at e;lia
def Inv.list_inj(I:Inv X zS σ H s)(h:bJ X.K H a xs)(h':bJ X.K H a ys):xs=ys:=by
 let#[B,r,#[o,n,e,_,_,d],_]:=I.list h;let#[i,J,#[o',L,F,_,_,G],_]:=I.list h';rw[e]at F;cases F;rw[d]at G;injection G with d1 _
 let:B=i:=by simpa using congrArg Array.toList d1
 subst this;show r.inj J
def Inv.tuple_inj(I:Inv X zS σ H s)(h:bD X.K H a xs)(h':bD X.K H a ys):xs=ys:=by
 let#[B,r,#[o,e,_,n,d],_]:=I.tuple h;let#[i,J,#[o',F,_,L,G],_]:=I.tuple h';rw[e]at F;cases F;rw[d]at G;injection G with d1 _
 let:B=i:=by simpa using congrArg Array.toList d1
 subst this;show r.inj J
end
section
variable{X:Cx}{st:Stmt}{rest:List Stmt}{t u:TS}{e:Expr}{te:TE}{pos:Pos}
def yO:TS:=λD σ H=>D.nx σ H
def gx(t u:TS):TS:=λD σ H=>t {D with nx:=u D} σ H
def Jy:jR X [] yO:=λ_ _ σ H _ I h=>wpAny_execs_nil #[σ,H,I,h]
def Qe(h1:PS X st t)(h2:jR X rest u):jR X (st::rest) (gx t u):=by
 intro zS s σ H D I h;show wpAny_execs_cons (Ah (h1 zS s σ H {D with nx:=u D} I h) λf B q=>?_);cases f with
 |next=>let#[i,H',F,q]:=q;show h2 zS B i H' D F q
 |ret v=>show q
 |brk=>show q
 |cont=>show q
def Jt(h1:PS X st t):jR X [st] t:=by
 intro zS s σ H D I h;show wpAny_execs_cons (Ah (h1 zS s σ H D I h) λf i q=>?_);cases f with
 |next=>show wpAny_execs_nil q
 |ret v=>show q
 |brk=>show q
 |cont=>show q
def Inv.quiet(I:Inv X zS σ H s):interactive X.env=false:=by simp[interactive,I.ok.kind]
def yP(te:TE):TS:=λD σ H=>te σ H λ_ H1=>D.nx σ H1
def Pn(F:PE X e te)(B:autoParam (swapsWith e none pos.line X.env=pure false) rZ9):PS X (.Expr e pos) (yP te):=by intro zS s σ H D I h;show wpAny_Expr_any (Ah (F zS s σ H _ I h) λv J⟨x,H1,G,L,i⟩=>#[σ,H1,G,i]) I.quiet B
def gy(te:TE):TS:=λD σ H=>te σ H D.rt
def NL(F:PE X e te):PS X (.Return ⇑e pos) (gy te):=by intro zS s σ H D I h;show wpAny_Return_some (Ah (F zS s σ H _ I h) λv J⟨x,H1,G,i,B⟩=>#[x,σ,H1,G,i,B])
def ie(c:TT)(t u:TS):TS:=λD σ H=>c σ H λb H1=>if b=true then t D σ H1 else u D σ H1
def Mg(J:PT X c tc)(M:jR X a t)(L:jR X b u):PS X (.If c a b pos) (ie tc t u):=by
 intro zS s σ H D I h;show wpAny_If (Ah (J zS s σ H _ I h) λd i G=>?_);let#[H1,F,B]:=G;cases d with
 |true=>show M zS i σ H1 D F B
 |false=>show L zS i σ H1 D F B
end
abbrev TG:=V->St->Hp->(St->Hp->Prop)->Prop
abbrev cp:=List V->St->Hp->(St->Hp->Prop)->Prop
@[inline]def PG(X:Cx)(i:Expr)(t:TG):Prop:=
 ∀(zS:List (Addr×Obj))(s:Shared)(σ:St)(H:Hp)(v:V)(u:Value)(Q:St->Hp->Prop),Inv X zS σ H s->zH v u->t v σ H Q->
  wpAny (model X.prog X.w) X.A (assign i X.env u) (λ_ s'=>∃σ' H',Inv X zS σ' H' s'/\Q σ' H') X.xe s
def cw(X:Cx)(i:List Expr)(t:cp):Prop:=
 ∀(zS:List (Addr×Obj))(s:Shared)(σ:St)(H:Hp)(vs:List V)(us:List Value)(Q:St->Hp->Prop),Inv X zS σ H s->zP vs us->t vs σ H Q->
  wpAny (model X.prog X.w) X.A (assignInOrder ((assignEach i X.env).map (·.2)) us) (λ_ s'=>∃σ' H',Inv X zS σ' H' s'/\Q σ' H') X.xe s
abbrev cn:=V->V->V->Hp->(Hp->Prop)->Prop
def cq(X:Cx)(t:cn):Prop:=
 ∀(zS:List (Addr×Obj))(s:Shared)(σ:St)(H:Hp)(o i v:V)(B F u:Value)(Q:Hp->Prop),Inv X zS σ H s->zH o B->zH i F->zH v u->t o i v H Q->
  wpAny (model X.prog X.w) X.A (setItem B F u) (λ_ s'=>∃H',Inv X zS σ H' s'/\Q H') X.xe s
section
variable{X:Cx}{pos:Pos}
def ky:cp:=λvs σ H Q=>vs=[]/\Q σ H
def br(t:TG)(u:cp):cp:=λvs σ H Q=>∃v r,vs=v::r/\t v σ H λi H'=>u r i H' Q
def Pg:cw X [] ky:=by intro zS s σ H vs i Q I r h;let#[e,h]:=h;subst e;cases r;show assignInOrder_nil #[σ,H,I,h]
def Ra(h1:PG X e t)(h2:cw X es u)
  (L:autoParam ((assignEach (e::es) X.env).map (·.2)=assign e X.env::(assignEach es X.env).map (·.2)) rZ9):cw X (e::es) (br t u):=by
 intro zS s σ H vs Y Q I r h;let#[v,U,M,h]:=h;subst M;cases r with
 |cons r G=>rw[L];show assignInOrder_cons (Ah (h1 zS s σ H _ _ _ I r h) λ_ F B=>?_);let#[i,H1,O,J]:=B;show h2 zS F i H1 _ _ Q O G J
def eM(K:W.Frag)(n:Nat)(t:cp):TG:=λv σ H Q=>∃a xs,v=.ref a/\bD K H a xs/\xs.length=n/\t xs σ H Q
def ML(U:X.calm=true)(h:cw X es t)
  (hn:autoParam ((assignEach es X.env).length=n) rZ9)(B:autoParam ((assignEach es X.env).findIdx? (·.1)=none) rZ9):PG X (.Tuple es k pos) (eM X.K n t):=by
 intro zS s σ H v u Q I r i;let#[a,xs,Y,M,O,i]:=i;subst Y;cases r;let#[G,F,L,hz]:=I.tuple M;show assign_Tuple_tuple (I.ok.hd U) L (by simp[hn,<-O,F.length]) B λh' J=>?_;let Z:Inv X zS σ H {s with heap:=h'}:=I.kept (t':=s.toks) λb o e=>J b o (ne_of_lt (qe e)) e;show h zS _ σ H xs _ Q Z ↑F i
def kx(B F:TE)(t:cn):TG:=λv σ H Q=>B σ H λo H1=>F σ H1 λi H2=>t o i v H2 λG=>Q σ G
def MA(ho:PE X o to)(hi:PE X i ti)(hs:cq X t)
  (ha:∀v,assign (.Subscript o i pos) X.env v=(do
   let ov<-holding [v] (eval o X.env)
   let iv<-holding [v,ov] (eval i X.env)
   standAt pos
   holding [v,ov,iv] (setItem ov iv v)
   release [v,ov,iv] []):=by intro _;rfl):PG X (.Subscript o i pos) (kx to ti t):=by
 intro zS s σ H v u Q I r h;rw[ha];show qa (zn (Ah (ho zS s σ H _ I h) λov s1 zq=>?_));let#[x,H1,I1,r1,q1]:=zq;show qa (zn (Ah (hi zS s1 σ H1 _ I1 q1) λiv s2 zq=>?_));let#[y,H2,I2,r2,q2]:=zq;show qa (wpAny_standAt (qa (zn (Ah (hs zS s2 σ H2 x y v ov iv u _ I2 r1 r2 r q2) λ_ s3 zq=>?_))));let#[H3,I3,q3]:=zq;show wpAny_release #[σ,H3,I3,q3]
def ik(te:TE)(g:TG):TS:=λD σ H=>te σ H λx H1=>g x σ H1 D.nx
def IB(O:PE X e te)(M:PG X tg g)(L:autoParam (swapsWithSole [tg] e pos.line X.env=pure false) rZ9)(J:autoParam (swappedStores [tg] e X.env=pure none) rZ9)
  (h1:autoParam ((assignEach [tg] X.env).map (·.2)=[assign tg X.env]) rZ9):PS X (.Assign [tg] e pos) (ik te g):=by
 intro zS s σ H D I h;show wpAny_Assign_stores (Ah (O zS s σ H _ I h) λv B i=>?_) L J;let#[x,H1,U,F,G]:=i;rw[h1];show Ah (M zS B σ H1 x v _ U F G) λ_ Y q=>q
def gz(i j:Nat)(ta:TA):TS:=λD σ H=>ta σ H λvs H1=>∃v w,vs=[v,w]/\D.nx ((σ.set i ⇑v).set j ⇑w) H1
def Nb(hc:X.calm=true)(hN:X.N.Nodup)(hi:X.N[i]?=⇑x)(hj:X.N[j]?=⇑y)(hij:i≠j)
  (hx:X.env.scope.names.lookup x=⇑.local)(hy:X.env.scope.names.lookup y=⇑.local)(ha:PA X [a,b] ta)
  (hw:swappedStores [.Tuple [.Name x px,.Name y py] kt pt] (.Tuple [a,b] k2 pt2) X.env=pure ⇑[x,y])
  (hs:autoParam (swapsWithSole [.Tuple [.Name x px,.Name y py] kt pt] (.Tuple [a,b] k2 pt2) pos.line X.env=pure false) rZ9):
  PS X (.Assign [.Tuple [.Name x px,.Name y py] kt pt] (.Tuple [a,b] k2 pt2) pos) (gz i j ta):=by
 intro zS s σ H D I h;rw[exec_Assign_arm];show qa (wpAny_standAt ?_);rw[hs];show qa (qb ?_);rw[q5 ⋯];show qa (Tuple_ (Ah (ha _ zS s σ H _ I h) λus s1 zq=>?_));let#[vs,H1,I1,r1,q1]:=zq;let#[v,w,e1,q1]:=q1;subst e1;obtain⟨u1,u2,rfl,rv,rw'⟩:∃u1 u2,us=[u1,u2]/\zH v u1/\zH w u2:=by
  cases r1 with
  |cons p q=>
   cases q with
   |cons p' q'=>cases q';show#[_,_,rfl,p,p']
 show zi ?_ (by show 2<=sizeLine;decide);let I2:Inv X zS σ H1 {s1 with heap:=s1.heap.push {cls:=.type "tuple",data:=.seq [u1,u2].toArray}}:=I1.kept (t':=s1.toks) λb o e=>qc _ e;rw[hw];show qa (qb ?_);show wpAny (model X.prog X.w) X.A (do rule "assign.swapped-stores";let items<-unpackItems (.ref s1.heap.objs.size) 2 none;assignInOrder [λv=>bindName X.env y v,λv=>bindName X.env x v] items.reverse;pure Flow.next) _ _ _;show qa (wpAny_rule (qa (unpackItems_tuple (items:=[u1,u2].toArray) (I.ok.hd hc) (IsTup.new s1.heap _) λh' hx'=>?_)));let I3:=I2.kept (h':=h') (t':=s1.toks) λb o e=>hx' b o (ne_of_lt (qe e)) e;show wpAny _ _ (assignInOrder [λv=>bindName X.env y v,λv=>bindName X.env x v] [u2,u1]>>=λ_=>pure Flow.next) _ _ _;show qa (assignInOrder_cons (wpAny_bindName (JY I3 hN hj (.inl hy) rw' (λs2 I4=>?_) (.inr hy))));show assignInOrder_cons (wpAny_bindName (JY I4 hN hi (.inl hx) rv (λs3 I5=>assignInOrder_nil (qb ?_)) (.inr hx)));rw[set_comm _ _ (Ne.symm hij)]at I5;show#[_,H1,I5,q1]
def uG(c:TT)(tb:TS):TS:=λD σ H=>∃W:Nat->St->Hp->Prop,(∃m,W m σ H)/\∀m σ H,W m σ H->
 c σ H λb H1=>if b=true then∃N:St->Hp->Prop,(∀σ' H',N σ' H'->∃m',m'<m/\W m' σ' H')/\tb {D with nx:=N,ct:=N,bk:=D.nx} σ H1 else D.nx σ H1
def QR(hp:PassesOwn (model X.prog X.w) X.A X.env X.xe)(hc:PT X c tc)(hb:jR X body tb):PS X (.While c body [] pos) (uG tc tb):=by
 intro zS s σ H D I h;let#[W,#[m0,w0],F]:=h;show wpAny_While (codeAny_whileLoop (λn s'=>∃σ' H',Inv X zS σ' H' s'/\W n σ' H') ?_ m0 #[σ,H,I,w0]);rintro n s1 ⟨B,H1,I1,w1⟩;show wpAny_passesOwn hp (Ah (hc zS s1 B H1 _ I1 (F n B H1 w1)) λb s2 zq=>?_);let#[H2,I2,L]:=zq;cases b with
 |true=>
  let#[N,hN,L]:=L;rw[qZ rfl];show wpAny_passesOwn hp (Ah (hb zS s2 B H2 _ I2 L) λf s3 J=>?_);cases f with
  |next=>let#[i,G,Z,O]:=J;let#[U,Y,M]:=hN i G O;show#[U,Y,i,G,Z,M]
  |cont=>let#[i,G,Z,O]:=J;let#[U,Y,M]:=hN i G O;show#[U,Y,i,G,Z,M]
  |brk=>show J
  |ret v=>show J
 |false=>rw[q5 qW];show wpAny_execs_nil #[B,H2,I2,L]
end
structure It where
 go:Nat->Hp->Prop
 yld:Nat->Hp->V->Hp->Prop
 stop:Nat->Hp->Prop
def bN(X:Cx)(zS:List (Addr×Obj))(H:Hp)(b:Addr):Prop:=
 H b=none/\b≠X.env.locals/\b∉X.fs/\(b∈X.ex\/X.s₀.heap.get? b=none)/\(∀x c,X.env.cells.lookup x=⇑c->c≠b)/\∀p∈X.pn++zS,p.1≠b
def Inv.fpOk(I:Inv X zS σ H s)(i:s.heap.objs.size<=b)(hn:H' b=none):bN X zS H' b:=by
 show#[hn,ne_of_gt (lt_of_lt_of_le I.lt i),I.nofs i,.inr (Heap.get?_none_of_le (le_trans I.sz i)),λx c e z=>?_,λp B z=>?_]
 .obtain⟨v,q⟩:=I.cell x c e;show absurd (lt_of_lt_of_le q.lt (by rw[z];show i)) (lt_irrefl _)
 .show absurd (lt_of_lt_of_le (qe (I.pin p B).1) (by rw[z];show i)) (lt_irrefl _)
structure iQ(P:Program)(w:World)(K:W.Frag)(tg:Expr)(J:It)(fp:List Addr)(it:Addr)(tn:Nat->Heap->Prop):Prop where
 mem:it∈fp
 obj:∀i h,tn i h->∀b∈fp,∃o,h.get? b=⇑o/\∀v,o.data≠.cell v
 keep:∀i h h',tn i h->(∀b∈fp,∀o,h.get? b=⇑o->h'.get? b=⇑o)->tn i h'
 item:∀(X:Cx),X.prog=P->X.w=w->X.K=K->X.calm=true->∀(i:Nat)(zS:List (Addr×Obj))(s:Shared)(σ:St)(H:Hp)(E:zr),Inv X zS σ H s->(∀b∈fp,bN X zS H b)->tn i s.heap->J.go i H->
  wpAny (model P w) X.A (pyNext (.ref it)) (λr s1=>∃u,r=⇑u/\
   wpAny (model P w) X.A (letOwnedTupleGo tg (.ref it) u) (λ_ s2=>∃x H',Inv X zS σ H' s2/\zH x u/\J.yld i H x H'/\tn (i+1) s2.heap/\∀b∈fp,H' b=none) E s1) E s
 done:∀(X:Cx),X.prog=P->X.w=w->X.K=K->X.calm=true->∀(i:Nat)(zS:List (Addr×Obj))(s:Shared)(σ:St)(H:Hp)(E:zr),Inv X zS σ H s->(∀b∈fp,bN X zS H b)->tn i s.heap->J.stop i H->
  wpAny (model P w) X.A (pyNext (.ref it)) (λr s1=>r=none/\Inv X zS σ H s1) E s
 self:∀(A:Around)(i:Nat)(s:Shared)(Q:zr)(E:zr),tn i s.heap->Q (.ref it) s->wpAny (model P w) A (pyIter (.ref it)) Q E s
abbrev TI:=St->Hp->(It->Hp->Prop)->Prop
inductive cu(X:Cx)(zS:List (Addr×Obj))(σ:St)(tg:Expr)(R:It->Hp->Prop)(itv:Value)(s2:Shared):Prop
 |mk (it:Addr) (fp:List Addr) (tn:Nat->Heap->Prop) (J:It) (H':Hp):itv=.ref it->Inv X zS σ H' s2->iQ X.prog X.w X.K tg J fp it tn->tn 0 s2.heap->(∀b∈fp,bN X zS H' b)->R J H'->cu X zS σ tg R itv s2
@[inline]def PI(X:Cx)(tg iter:Expr)(i:TI):Prop:=
 ∀(zS:List (Addr×Obj))(s:Shared)(σ:St)(H:Hp)(R:It->Hp->Prop),Inv X zS σ H s->i σ H R->
  wpAny (model X.prog X.w) X.A (eval iter X.env) (λv B=>wpAny (model X.prog X.w) X.A (pyIter v) (cu X zS σ tg R) X.xe B) X.xe s
def Ez(F:s.heap.get? B=⇑o)(I:o.cls=.type n)(G:o.data=.fields vs)
  (hn:["enumerate","zip","dict_itemiterator","dict_reverseitemiterator","odict_iterator","itertools.zip_longest","itertools.pairwise"].contains n=false)(i:Q () s):wpAny M A (letOwnedTupleGo tg (.ref B) u) Q E s:=by
 unfold letOwnedTupleGo;cases tg<;>first
  |show qb i
  |(cases u<;>first
   |show qb i
   |(show qa (wpAny_load F ?_);rw[I,G];show wpAny M A (if(["enumerate","zip","dict_itemiterator","dict_reverseitemiterator","odict_iterator","itertools.zip_longest","itertools.pairwise"].contains n&&vs[0]?==some (rawInt _))=true then _ else _) Q E s;rw[q5 (by intro h;rw[hn,Bool.false_and]at h;cases h)];show qb i))
def yE(K:W.Frag)(a:Addr):It:=
 #[λi H=>∃xs x,bJ K H a xs/\xs[i]?=⇑x,λi H x H'=>H'=H/\∀xs,bJ K H a xs->xs[i]?=⇑x,λi H=>∃xs,bJ K H a xs/\xs.length<=i]
def lu(K:W.Frag)(a:Addr):It:=
 #[λi H=>∃xs x,bD K H a xs/\xs[i]?=⇑x,λi H x H'=>H'=H/\∀xs,bD K H a xs->xs[i]?=⇑x,λi H=>∃xs,bD K H a xs/\xs.length<=i]
def df(lo:Int)(n:Nat):It:=#[λi _=>i<n,λi H x H'=>H'=H/\x=.int (lo+i),λi _=>n<=i]
def SK{P:Program}{w:World}{K:W.Frag}{tg:Expr}(a it:Addr):iQ P w K tg (yE K a) [it] it (λi h=>h.IsListIter it a i) where
 mem:=by simp
 obj:=λi h st b hb=>by
  let e:b=it:=↑hb
  subst e;let#[o,e,c,d]:=st;show#[o,e,λv z=>by rw[d]at z;cases z]
 keep:=λi h h' st k=>st.at λo e=>k it (by simp) o e
 item:=by intro X hP hw hK hc i zS s σ H E I hf st hg;subst hP hw hK;let#[xs,x,hq,hx]:=hg;let#[zW,rv,p,hz]:=I.list hq;let#[u,hu,ru]:=rv.get hx;let#[f0,f1,f2,f3,f4,f5]:=hf it (by simp);show wpAny_pyNext_list_item st p.isList (x:=u) ↑hu λh' st' sb=>?_;let I1:Inv X zS σ H {s with heap:=h'}:=I.turned (t':=s.toks) (λb o hb e=>(sb.2 b hb).trans e) f0 f1 f3 f4 f5;let#[o,e,c,d]:=id st';show#[u,rfl,Ez (s:={s with heap:=h'}) e c d ⋯ #[x,H,I1,ru,#[rfl,λys hy=>by rw[I.list_inj hy hq];show hx],st',λb hb=>(hf b hb).1]]
 done:=by intro X hP hw hK hc i zS s σ H E I hf st hg;subst hP hw hK;let#[xs,hq,hx]:=hg;let#[zW,rv,p,hz]:=I.list hq;let#[f0,f1,f2,f3,f4,f5]:=hf it (by simp);let hl:=rv.length;show wpAny_pyNext_list_end (I.ok.hd hc) st p.isList (by simp;lia -verbose) λh' eb=>#[rfl,I.turned (t':=s.toks) (λb o hb e=>eb b o hb e) f0 f1 f3 f4 f5]
 self:=λ_ _ _ _ _ st h=>wpAny_pyIter_listiter st h
def TH{P:Program}{w:World}{K:W.Frag}{tg:Expr}(a it:Addr):iQ P w K tg (lu K a) [it] it (λi h=>h.IsTupleIter it a i) where
 mem:=by simp
 obj:=λi h st b hb=>by
  let e:b=it:=↑hb
  subst e;let#[o,e,c,d]:=st;show#[o,e,λv z=>by rw[d]at z;cases z]
 keep:=λi h h' st k=>st.at λo e=>k it (by simp) o e
 item:=by intro X hP hw hK hc i zS s σ H E I hf st hg;subst hP hw hK;let#[xs,x,hq,hx]:=hg;let#[zW,rv,p,hz]:=I.tuple hq;let#[u,hu,ru]:=rv.get hx;let#[f0,f1,f2,f3,f4,f5]:=hf it (by simp);show wpAny_pyNext_tuple_item st (show s.heap.IsTuple a zW.toArray from p) (x:=u) ↑hu λh' st' sb=>?_;let I1:Inv X zS σ H {s with heap:=h'}:=I.turned (t':=s.toks) (λb o hb e=>(sb.2 b hb).trans e) f0 f1 f3 f4 f5;let#[o,e,c,d]:=id st';show#[u,rfl,Ez (s:={s with heap:=h'}) e c d ⋯ #[x,H,I1,ru,#[rfl,λys hy=>by rw[I.tuple_inj hy hq];show hx],st',λb hb=>(hf b hb).1]]
 done:=by intro X hP hw hK hc i zS s σ H E I hf st hg;subst hP hw hK;let#[xs,hq,hx]:=hg;let#[zW,rv,p,hz]:=I.tuple hq;let#[f0,f1,f2,f3,f4,f5]:=hf it (by simp);let hl:=rv.length;show wpAny_pyNext_tuple_end (I.ok.hd hc) st (show s.heap.IsTuple a zW.toArray from p) (by simp;lia -verbose) λh' eb=>#[rfl,I.turned (t':=s.toks) (λb o hb e=>eb b o hb e) f0 f1 f3 f4 f5]
 self:=λ_ _ _ _ _ st h=>wpAny_pyIter_tupleiter st h
def Tz{P:Program}{w:World}{K:W.Frag}{tg:Expr}(it:Addr)(lo:Int)(n:Nat):iQ P w K tg (df lo n) [it] it (λi h=>IsRangeIter h it (lo+(i:Nat)*1) ((n:Int)-(i:Nat)) 1) where
 mem:=by simp
 obj:=λi h st b hb=>by
  let e:b=it:=↑hb
  subst e;show#[_,st,λv z=>by let z':Data.fields _=Data.cell v:=z;cases z']
 keep:=λi h h' st k=>k it (by simp) _ st
 item:=by intro X hP hw hK hc i zS s σ H E I hf st hg;subst hP hw hK;let#[f0,f1,f2,f3,f4,f5]:=hf it (by simp);let W:=Walks.range (prog:=X.prog) (w:=X.w) (I.ok.hd hc) it lo 1 n;show W.item i s _ _ hg st λv h' tk hv st' kk=>?_;let#[t,rfl]:=hv;let I1:Inv X zS σ H {s with heap:=h',toks:=tk}:=I.turned (λb o hb e=>kk b o ↑hb e) f0 f1 f3 f4 f5;show#[_,rfl,Ez (s:={s with heap:=h',toks:=tk}) (n:="range_iterator") st' rfl rfl ⋯ #[.int (lo+i),H,I1,#[t,?_],#[rfl,rfl],st',λb hb=>(hf b hb).1]];rw[mul_one]
 done:=by intro X hP hw hK hc i zS s σ H E I hf st hg;subst hP hw hK;let#[f0,f1,f2,f3,f4,f5]:=hf it (by simp);show wpAny_pyNext_range_end (I.ok.hd hc) st (by let:n<=i:=hg;lia) λh' eb=>#[rfl,I.turned (t':=s.toks) (λb o hb e=>eb b o hb e) f0 f1 f3 f4 f5]
 self:=λ_ _ _ _ _ st h=>wpAny_pyIter_rangeiter st h
section
variable{X:Cx}{tg:Expr}
def JV{lo hi:Int}(I:Inv X zS σ H s)(h1:-(2^62)<=lo)(h2:lo<2^62)(G:-(2^62)<=hi)(F:hi<2^62)
  (q:R (df lo (hi-lo).toNat) H):wpAny (model X.prog X.w) X.A (pyIter (.ref s.heap.objs.size)) (cu X zS σ tg R) E {s with heap:=s.heap.push {cls:=.type "range",data:=.fields [.int lo t,.int hi u,.int 1 v].toArray},toks:=tk}:=by
 refine wpAny_pyIter_range (IsRange.new ..) (small_one h1 h2 G F) ?_;let i:Inv X zS σ H {s with heap:=s.heap.push {cls:=.type "range",data:=.fields [.int lo t,.int hi u,.int 1 v].toArray},toks:=tk}:=I.kept λb o e=>qc _ e;refine⟨(s.heap.push {cls:=.type "range",data:=.fields [.int lo t,.int hi u,.int 1 v].toArray}).objs.size,[(s.heap.push {cls:=.type "range",data:=.fields [.int lo t,.int hi u,.int 1 v].toArray}).objs.size],_,_,H,rfl,
  i.kept (t':=tk) λb o e=>qc _ e,Tz _ lo (hi-lo).toNat,?_,λb B=>?_,q⟩
 .let L:lo+((0:Nat):Int)*1=lo:=by simp
  let J:(((hi-lo).toNat:Nat):Int)-((0:Nat):Int)=Builtin.Range.rangeSize lo hi 1:=by rw[rangeSize_one];split<;>lia
  show IsRangeIter _ _ (lo+((0:Nat):Int)*1) ((((hi-lo).toNat:Nat):Int)-((0:Nat):Int)) 1;rw[L,J];show qd _ rfl
 .let e:b=(s.heap.push {cls:=.type "range",data:=.fields [.int lo t,.int hi u,.int 1 v].toArray}).objs.size:=by simpa using B
  subst e;show i.fpOk (q8 _) (i.hok.fresh (q8 _))
def bp(ta:TA):TI:=λσ H R=>ta σ H λvs H1=>∃j:Int,vs=[.int j]/\-(2^62)<=j/\j<2^62/\R (df 0 j.toNat) H1
def bo(ta:TA):TI:=λσ H R=>ta σ H λvs H1=>∃i j:Int,vs=[.int i,.int j]/\(-(2^62)<=i/\i<2^62/\-(2^62)<=j/\j<2^62)/\R (df i (j-i).toNat) H1
def Tg(O:Gl X "range")(M:X.mg "range"=none)(U:PA X [a] ta)(L:autoParam (starEach [a] X.env=[(false,eval a X.env)]) rZ9):PI X tg (.Call (.Name "range" p) [a] [] pos) (bp ta):=by
 intro zS s σ H R I h;show Call_ (Bg I O M boot_range (PyProof.Rows.callWith_type1 (Ah (U pos zS s σ H _ I h) λZ s1 B=>?_) L rfl));let#[vs,H1,Y,G,i]:=B;let#[j,e,i,J,q]:=i;subst e;cases G with
 |cons r F=>cases F;let#[t,rfl]:=r;show call_range_1 (JV Y ∅ ∅ i J ↑q)
def RQ(hg:Gl X "range")(hm:X.mg "range"=none)(ha:PA X [a,b] ta)(Z:autoParam (starEach [a,b] X.env=[(false,eval a X.env),(false,eval b X.env)]) rZ9)(B:autoParam (starEach [b] X.env=[(false,eval b X.env)]) rZ9):
  PI X tg (.Call (.Name "range" p) [a,b] [] pos) (bo ta):=by
 intro zS s σ H R I h;show Call_ (Bg I hg hm boot_range (PyProof.Rows.callWith_type1 (Ah (ha pos zS s σ H _ I h) λus s1 J=>?_) (by rw[Z,B]) (by rw[B];rfl)));let#[vs,H1,I1,L,G]:=J;let#[i,j,e,#[G,Y,U,O],q]:=G;subst e;cases L with
 |cons r F=>
  cases F with
  |cons M F=>cases F;let#[t,rfl]:=r;let#[t',rfl]:=M;show call_range_2 (JV I1 G Y U O q)
def ig(F:TI)(g:TG)(tb:TS):TS:=λD σ H=>F σ H λJ H1=>∃W:Nat->Nat->St->Hp->Prop,(∃m,W 0 m σ H1)/\∀i m σ H,W i m σ H->
 (J.stop i H/\D.nx σ H)\/(J.go i H/\∃N:St->Hp->Prop,(∀σ' H',N σ' H'->∃m',m'<m/\W (i+1) m' σ' H')/\∀x H',J.yld i H x H'->g x σ H' λB H2=>tb {D with nx:=N,ct:=N,bk:=D.nx} B H2)
def gK(fp:List Addr)(h:Heap):List (Addr×Obj):=fp.filterMap λb=>(h.get? b).map λo=>(b,o)
def Fp(i:b∈fp)(e:h.get? b=⇑o):(b,o)∈gK fp h:=mem_filterMap.mpr #[b,i,by rw[e];rfl]
def Sn(i:p∈gK fp h):p.1∈fp/\h.get? p.1=⇑p.2:=by
 let#[b,B,e]:=mem_filterMap.mp i;cases q:h.get? b with
 |none=>rw[q]at e;cases e
 |some o=>grind
def Inv.pinned(I:Inv X zS σ H s)(J:∀b∈fp,bN X zS H b)(G:∀b∈fp,∃o,s.heap.get? b=⇑o/\∀v,o.data≠.cell v):Inv X (zS++gK fp s.heap) σ H s:=
 I.pins_of λp F=>(qx.mp F).elim (λz=>I.pin p (qi _ z)) λz=>by let#[i,e]:=Sn z;let#[O,M,L,_]:=J p.1 i;let#[o,B,d]:=G p.1 i;rw[e]at B;cases B;show#[e,O,M,L,d]
def Inv.unpinned(I:Inv X (zS++B) σ H s):Inv X zS σ H s:=I.pins_of λp i=>I.pin p (qi _ (qj _ i))
def Nl(hp:PassesOwn (model X.prog X.w) X.A X.env X.xe)(hc:X.calm=true)(hi:PI X tg iter wi)(hg:PG X tg g)(L:jR X body tb)
  (hs:∀x,foldedSetIterable iter X.env x=pure x:=by intro _;rfl):PS X (.For tg iter body [] pos) (ig wi g tb):=by
 intro zS s σ H D I h;show wpAny_For (Ah (hi zS s σ H _ I h) λv s1 h1=>Ah h1 λe3 s2 h2=>?_) hs;let#[it,fp,tn,J,H2,e,I2,T,h9,f2,W,#[m0,w0],h3]:=h2;subst e
 --what stays true of the iterator's objects through the loop
 let G:∀{H':Hp},(∀b∈fp,H' b=none)->∀b∈fp,bN X zS H' b:=λhn b L=>#[hn b L,(f2 b L).2]
 show codeAny_forLoop_any (λn s'=>∃i σ' H',Inv X zS σ' H' s'/\tn i s'.heap/\(∀b∈fp,H' b=none)/\W i n σ' H') ?_ m0 #[0,σ,H2,I2,h9,λb L=>(f2 b L).1,w0];rintro n s3 ⟨i,F,H3,I3,h6,h7,w3⟩;rcases h3 i n F H3 w3 with⟨h5,qn⟩|⟨go,N,hN,step⟩
 .show wpAny_passesOwn hp (Ah (T.done X rfl rfl rfl hc i zS s3 F H3 X.xe I3 (G h7) h6 h5) λr s4⟨hr,I4⟩=>?_);subst hr;show wpAny_execs_nil #[F,H3,I4,qn]
 .show wpAny_passesOwn hp (Ah (T.item X rfl rfl rfl hc i zS s3 F H3 X.xe I3 (G h7) h6 go) λr s4 Z=>?_);let#[u,hr,h4]:=Z;subst hr;show wpAny_passesOwn hp (Ah h4 λ_ s5 Z=>?_);let#[x,H5,I5,r5,y5,Y,e1]:=Z;let e2:=I5.pinned (G e1) (T.obj _ _ Y);show wpAny_passesOwn hp (Ah (hg _ s5 F H5 x u _ e2 r5 (step x H5 y5)) λ_ s6 Z=>?_);let#[h8,H6,I6,q6]:=Z;show wpAny_passesOwn hp (Ah (L _ s6 h8 H6 _ I6 q6) λf s7 U=>?_);let again:∀{B:St}{O:Hp},Inv X (zS++gK fp s5.heap) B O s7->N B O->∃m,m<n/\∃i σ' H',Inv X zS σ' H' s7/\tn i s7.heap/\(∀b∈fp,H' b=none)/\W i m σ' H':=λ{B O} M n7=>by let#[m',hm,w7]:=hN B O n7;show#[m',hm,i+1,B,O,M.unpinned,T.keep _ _ _ Y λb L o e=>(M.pin (b,o) (qi _ (qi _ (Fp L e)))).1,λb L=>?_,w7];let#[o,e,d]:=T.obj _ _ Y b L;exact(M.pin (b,o) (qi _ (qi _ (Fp L e)))).2.1
  cases f with
  |next=>let#[B,O,M,n7]:=U;show again M n7
  |cont=>let#[B,O,M,n7]:=U;show again M n7
  |brk=>let#[B,O,M,U]:=U;show#[B,O,M.unpinned,U]
  |ret v=>let#[x7,B,O,M,r7,U]:=U;show#[x7,B,O,M.unpinned,r7,U]
end
abbrev R2:=V->V->Hp->VK->Prop
@[inline]def OpR(X:Cx)(f:Value->Value->Sem Value)(r:R2):Prop:=
 ∀(zS:List (Addr×Obj))(s:Shared)(σ:St)(H:Hp)(x y:V)(v u:Value)(Q:VK),Inv X zS σ H s->zH x v->zH y u->r x y H Q->
  wpAny (model X.prog X.w) X.A (f v u) (EP X zS σ Q) X.xe s
def lj(X:Cx)(f:Value->Sem Value)(r:V->Hp->VK->Prop):Prop:=
 ∀(zS:List (Addr×Obj))(s:Shared)(σ:St)(H:Hp)(x:V)(v:Value)(Q:VK),Inv X zS σ H s->zH x v->r x H Q->
  wpAny (model X.prog X.w) X.A (f v) (EP X zS σ Q) X.xe s
def aW(X:Cx)(f:Value)(r:List V->Hp->VK->Prop):Prop:=
 ∀(zS:List (Addr×Obj))(s:Shared)(σ:St)(H:Hp)(xs:List V)(us:List Value)(Q:VK),Inv X zS σ H s->zP xs us->r xs H Q->
  wpAny (model X.prog X.w) X.A (call f us) (EP X zS σ Q) X.xe s
def lp(X:Cx)(r:V->Hp->(Bool->Hp->Prop)->Prop):Prop:=
 ∀(zS:List (Addr×Obj))(s:Shared)(σ:St)(H:Hp)(x:V)(v:Value)(Q:Bool->Hp->Prop),Inv X zS σ H s->zH x v->r x H Q->
  wpAny (model X.prog X.w) X.A (truthy v) (TP X zS σ Q) X.xe s
def dz(r:R2)(ta tb:TE):TE:=λσ H Q=>ta σ H λx H1=>tb σ H1 λy H2=>r x y H2 Q
def oq(r:V->Hp->VK->Prop)(ta:TE):TE:=λσ H Q=>ta σ H λx H1=>r x H1 Q
def rI(C:Int->Int->Prop)(g:Int->Int->V):R2:=λx y H Q=>∃i j,x=.int i/\y=.int j/\C i j/\Q (g i j) H
def sU(g:Int->Int->V):R2:=λx y H Q=>∃i j,x=.int i/\y=.int j/\Q (g i j) H
def rU(g:Int->V):V->Hp->VK->Prop:=λx H Q=>∃i,x=.int i/\Q (g i) H
section
variable{X:Cx}{a b c:Expr}{ta tb tc:TE}{pos:Pos}
def CU(ha:PE X a ta)(Z:PE X b tb){R:V->V->Hp->Prop}(I:Inv X zS σ H s)
  (h:ta σ H λx H1=>tb σ H1 λy H2=>R x y H2){f:Value->Value->Sem Value}
  (Y:∀v u F x y H2,Inv X zS σ H2 F->zH x v->zH y u->R x y H2->wpAny (model X.prog X.w) X.A (f v u) Q X.xe F):
  wpAny (model X.prog X.w) X.A (eval a X.env) (λv B=>wpAny (model X.prog X.w) X.A (eval b X.env) (λu i=>wpAny (model X.prog X.w) X.A (f v u) Q X.xe i) X.xe B) X.xe s:=by
 show Ah (ha zS s σ H _ I h) λv J G=>?_;let#[x,H1,I1,M,U]:=G;show Ah (Z zS J σ H1 _ I1 U) λu F G=>?_;let#[y,H2,I2,L,O]:=G;show Y v u F x y H2 I2 M L O
def MF(J:OpR X (binaryOp G) r)(M:PE X a ta)(L:PE X b tb):PE X (.BinOp a G b pos) (dz r ta tb):=by intro zS s σ H Q I h;show wpAny_BinOp (CU M L I h λv u i x y H2 O F B q=>J zS i σ H2 x y v u Q O F B q)
def Ml(J:lj X (unaryOp G) r)(L:PE X a ta):PE X (.UnaryOp G a pos) (oq r ta):=by intro zS s σ H Q I h;show UnaryOp_ (Ah (L zS s σ H _ I h) λv i⟨x,H1,M,B,F⟩=>J zS i σ H1 x v Q M B F)
def Eh{g:Int->Int->Int}
  (rule:∀(i j:Int)(t u:Tok)(s:Shared)(Q:zr)(E:zr),C i j->Q (.int (g i j) s.toks) {s with toks:=s.toks+1}->wpAny (model X.prog X.w) X.A (f (.int i t) (.int j u)) Q E s):
  OpR X f (rI C λi j=>.int (g i j)):=by
 intro zS s σ H x y v u Q I G F h;let#[i,j,rfl,rfl,J,q]:=h;let#[t,rfl]:=G;let#[B,rfl]:=F;show rule i j t B s _ _ J #[.int (g i j),H,I.tok _,#[_,rfl],q]
def Hz{g:Int->Int->Int}
  (rule:∀(i j:Int)(t u:Tok)(s:Shared)(Q:zr)(E:zr),Q (.int (g i j) s.toks) {s with toks:=s.toks+1}->wpAny (model X.prog X.w) X.A (f (.int i t) (.int j u)) Q E s):
  OpR X f (sU λi j=>.int (g i j)):=by
 intro zS s σ H x y v u Q I G F h;let#[i,j,rfl,rfl,q]:=h;let#[t,rfl]:=G;let#[B,rfl]:=F;show rule i j t B s _ _ #[.int (g i j),H,I.tok _,#[_,rfl],q]
def Cb{g:Int->Int->Bool}
  (rule:∀(i j:Int)(t u:Tok)(s:Shared)(Q:zr)(E:zr),Q (.bool (g i j)) s->wpAny (model X.prog X.w) X.A (f (.int i t) (.int j u)) Q E s):
  OpR X f (sU λi j=>.bl (g i j)):=by
 intro zS s σ H x y v u Q I G F h;let#[i,j,rfl,rfl,q]:=h;let#[t,rfl]:=G;let#[B,rfl]:=F;show rule i j t B s _ _ #[.bl (g i j),H,I,rfl,q]
def dm(i j:Int):Prop:=0<=j/\j<=1000000/\i.natAbs<2^64
def oW(i j:Int):Prop:=(-(2^64)<i/\i<2^64)\/(-(2^64)<j/\j<2^64)
def oW.ok(h:oW i j):IntMulOk i j:=by
 rcases h with⟨h1,h2⟩|⟨h1,h2⟩
 .show .of_left (intBits_le_64 h1 h2)
 .show .of_right (intBits_le_64 h1 h2)
def MU:OpR X (binaryOp .Add) (sU λi j=>.int (i+j)):=Hz λ_ _ _ _ _ _ _ q=>add_int q
def My:OpR X (binaryOp .Mult) (rI oW λi j=>.int (i*j)):=Eh λ_ _ _ _ _ _ _ B q=>mul_int q B.ok
def Ng:OpR X (binaryOp .Mod) (rI (λ_ j=>0<j) λi j=>.int (i %j)):=Eh λi j _ _ _ _ _ B q=>by let h1:(0:Int)<j:=B;show mod_int' ∅ (by rw[Int.fmod_eq_emod_of_nonneg i ∅];show q)
def NA:OpR X (binaryOp .Pow) (rI dm λi j=>.int (i^j.toNat)):=Eh λ_ _ _ _ _ _ _ B q=>pow_int_small B.1 B.2.1 B.2.2 q
def VJ{g:Int->Int}
  (rule:∀(i:Int)(t:Tok)(s:Shared)(Q:zr)(E:zr),Q (.int (g i) s.toks) {s with toks:=s.toks+1}->wpAny (model X.prog X.w) X.A (f (.int i t)) Q E s):
  lj X f (rU λi=>.int (g i)):=by
 intro zS s σ H x v Q I B h;let#[i,rfl,q]:=h;let#[t,rfl]:=B;show rule i t s _ _ #[.int (g i),H,I.tok _,#[_,rfl],q]
def Mu:lj X (unaryOp .USub) (rU λi=>.int (-i)):=VJ λ_ _ _ _ _ q=>neg_int q
end
def yU:V->V->Bool
 |.non,.non=>true|.non,.int _=>true|.int _,.non=>true|.non,.bl _=>true|.bl _,.non=>true|.non,.str _=>true|.str _,.non=>true
 |.int _,.int _=>true|.bl _,.bl _=>true|.str _,.str _=>true|.byt _,.byt _=>true
 |.int _,.str _=>true|.str _,.int _=>true|.bl _,.str _=>true|.str _,.bl _=>true
 |_,_=>false
def pb:R2:=λx y H Q=>yU x y=true/\Q (.bl (!decide (x=y))) H
def NY:↥(V.int i=V.int j)=(i==j):=by rw[Bool.eq_iff_iff];simp
def NM:↥(V.bl i=V.bl j)=(i==j):=by rw[Bool.eq_iff_iff];simp
def Oh:↥(V.str i=V.str j)=(i==j):=by rw[Bool.eq_iff_iff];simp
def OE:↥(V.byt i=V.byt j)=(i.toList==j.toList):=by rw[Bool.eq_iff_iff];cases i;cases j;simp
section
variable{X:Cx}{a b c:Expr}{ta tb tc:TE}{pos:Pos}
def Be(I:Inv X zS σ H s)(q:Q (.bl k) H)(e:k=i):EP X zS σ Q (.bool i) s:=by subst e;show#[.bl k,H,I,rfl,q]
def Mo:OpR X (compareOp .NotEq) pb:=by
 intro zS s σ H x y v u Q I J B h;let#[G,q]:=h;cases x with
 |non=>
  cases J;cases y with
  |non=>cases B;show PySem.EqNone.ne_none_none (Be I q (by simp))
  |bl j=>cases B;show PySem.EqNone.ne_none_bool (Be I q (by simp))
  |int j=>let#[F,rfl]:=B;show PySem.EqNone.ne_none_int (Be I q (by simp))
  |str j=>let#[F,rfl]:=B;show PySem.EqNone.ne_none_str (Be I q (by simp))
  |_=>show absurd (show false=true from G) qW
 |bl i=>
  cases J;cases y with
  |non=>cases B;show PySem.EqNone.ne_bool_none (Be I q (by simp))
  |bl j=>cases B;show ne_bool (Be I q (congrArg not NM))
  |str j=>let#[F,rfl]:=B;show PySem.EqMixed.ne_bool_str (Be I q (by simp))
  |_=>show absurd (show false=true from G) qW
 |int i=>
  let#[t,rfl]:=J;cases y with
  |non=>cases B;show PySem.EqNone.ne_int_none (Be I q (by simp))
  |int j=>let#[F,rfl]:=B;show ne_int (Be I q (congrArg not NY))
  |str j=>let#[F,rfl]:=B;show PySem.EqMixed.ne_int_str (Be I q (by simp))
  |_=>show absurd (show false=true from G) qW
 |str i=>
  let#[t,rfl]:=J;cases y with
  |non=>cases B;show PySem.EqNone.ne_str_none (Be I q (by simp))
  |bl j=>cases B;show PySem.EqMixed.ne_str_bool (Be I q (by simp))
  |int j=>let#[F,rfl]:=B;show PySem.EqMixed.ne_str_int (Be I q (by simp))
  |str j=>let#[F,rfl]:=B;show ne_str (Be I q (congrArg not Oh))
  |_=>show absurd (show false=true from G) qW
 |byt i=>
  let#[t,rfl]:=J;cases y with
  |byt j=>let#[F,rfl]:=B;show W.ne_bytes (Be I q (congrArg not OE))
  |_=>show absurd (show false=true from G) qW
 |_=>cases y<;>show absurd (show false=true from G) qW
def MI:OpR X (compareOp .Lt) (sU λi j=>.bl ↥(i<j)):=Cb λ_ _ _ _ _ _ _ q=>lt_int q
def Mp:OpR X (compareOp .LtE) (sU λi j=>.bl ↥(i<=j)):=Cb λ_ _ _ _ _ _ _ q=>le_int q
def Mc:OpR X (compareOp .Gt) (sU λi j=>.bl ↥(j<i)):=Cb λ_ _ _ _ _ _ _ q=>gt_int q
def Mj:OpR X (compareOp .GtE) (sU λi j=>.bl ↥(j<=i)):=Cb λ_ _ _ _ _ _ _ q=>ge_int q
def NK:OpR X (compareOp .Is) (λx y H Q=>y=.non/\Q (.bl ↥(x=.non)) H):=by
 intro zS s σ H x y v u Q I i B h;let#[rfl,q]:=h;cases B;show is_none_gen (Be I q ?_);cases x<;>first
  |(cases i;rfl)
  |(let#[t,rfl]:=i;rfl)
def Ac(b:Expr)(h:autoParam (i≠.In) dZ9)(h2:autoParam (i≠.NotIn) dZ9):behindInMarks i b=false:=BH b h h2
def Oo(J:OpR X (compareOp i) r)(O:PE X a ta)(M:PE X b tb)(L:behindInMarks i b=false):PE X (.Compare a [i] [b] pos) (dz r ta tb):=by intro zS s σ H Q I h;show wpAny_Compare1 (CU O M I h λv u B x y H2 U G F q=>J zS B σ H2 x y v u Q U G F q) L
def yL(t:TE):TT:=λσ H Q=>t σ H λx H'=>∃k,x=.bl k/\Q k H'
def Jf(Y:OpR X (compareOp i) r)(ha:PE X a ta)(hb:PE X b tb)(Z:behindInMarks i b=false):PT X (.Compare a [i] [b] pos) (yL (dz r ta tb)):=by
 intro zS s σ H Q I h;show wpAny_isTrue_Compare1 (Ah (ha zS s σ H _ I h) λv F⟨x,H1,I1,L,U⟩=>Ah (hb zS F σ H1 _ I1 U) λu B⟨y,H2,I2,J,O⟩=>Ah (Y zS B σ H2 x y v u _ I2 L J O) λc s3⟨z,H3,I3,G,k,e,M⟩=>?_) Z
 subst e;cases G;show wpAny_truthy_bool #[H3,I3,M]
def xU(K:W.Frag)(x:V)(H:Hp)(k:Bool):Prop:=
 match x with
 |.non=>k=false
 |.bl b=>k=b
 |.int i=>k=(i !=0)
 |.str y=>y.length<=sizeLine/\k=((y.length:Int) !=0)
 |.byt y=>y.size<=sizeLine/\k=((y.size:Int) !=0)
 |.ref p=>(∃xs,bJ K H p xs/\k=!xs.isEmpty)\/(∃xs,bD K H p xs/\k=!xs.isEmpty)\/∃zT,H p=⇑(.dK zT)/\k=!zT.isEmpty
 |_=>False
def Ux(r:KV zT vs):(!vs.isEmpty)=!zT.isEmpty:=by cases r<;>rfl
def LC(r:zP xs i):(!i.toArray.isEmpty)=!xs.isEmpty:=by cases r<;>simp
def AD:(sizeLine:Nat)<2^63:=by rw[zk];decide
def IF:lp X (λx H Q=>∃k,xU X.K x H k/\Q k H):=by
 intro zS s σ H x v Q I G h;let#[k,e,q]:=h;let hl:=AD;let Z:sizeLine=16777216:=zk;cases x with
 |non=>cases G;let B:k=false:=e;subst B;show truthy_none #[H,I,q]
 |bl b=>cases G;let B:k=b:=e;subst B;show wpAny_truthy_bool #[H,I,q]
 |int i=>let#[t,rfl]:=G;let B:k=(i !=0):=e;subst B;show PySem.P.truthy_int #[H,I,q]
 |str y=>let#[t,rfl]:=G;obtain⟨U,B⟩:y.length<=sizeLine/\k=((y.length:Int) !=0):=e;subst B;show PySem.P.truthy_str ∅ #[H,I.tok _,q]
 |byt y=>let#[t,rfl]:=G;obtain⟨U,B⟩:y.size<=sizeLine/\k=((y.size:Int) !=0):=e;subst B;show W.truthy_bytes ∅ #[H,I.tok _,q]
 |ref p=>
  cases G;let B:(∃xs,bJ X.K H p xs/\k=!xs.isEmpty)\/(∃xs,bD X.K H p xs/\k=!xs.isEmpty)\/∃zT,H p=⇑(.dK zT)/\k=!zT.isEmpty:=e;rcases B with⟨xs,J,B⟩|⟨xs,J,B⟩|⟨zT,J,B⟩
  .subst B;let#[M,r,L,O]:=I.list J;let F:=r.length;show wpAny_truthy_list L.isList (by simp only[qq];lia) #[H,I.tok _,by rw[LC r];show q]
  .subst B;let#[M,r,L,O]:=I.tuple J;let F:=r.length;show truthy_tuple L (by simp only[qq];lia) #[H,I.tok _,by rw[LC r];show q]
  .subst B;obtain⟨O,Y,vs,r,m⟩:zT.length<=sizeLine/\(p==sysModules)=false/\∃vs,KV zT vs/\s.heap.DictOf (aS X.prog X.w) p vs:=I.hok p _ J;let F:zT.length=vs.length:=Paired.length r;show wpAny_truthy_dict Y m ∅ #[H,I.tok _,by rw[Ux r];show q]
 |_=>show(show False from e).elim
def PR(ha:PE X a ta)(he:∀whole,isTrue a X.env whole=(do let v<-whole;standAt a.pos;holding [v] (truthy v))):
  PT X a (λσ H Q=>ta σ H λx H'=>∃k,xU X.K x H' k/\Q k H'):=by
 intro zS s σ H Q I h;show isTrue_plain (Ah (ha zS s σ H _ I h) λv s1⟨x,H1,I1,r1,q1⟩=>IF zS s1 σ H1 x v Q I1 r1 q1) (he _)
def TX:OpR X (binaryOp .Add) (λx y H Q=>∃i j,x=.str i/\y=.str j/\i.length+j.length<=sizeLine/\Q (.str (i++j)) H):=by intro zS s σ H x y v u Q I G F h;let#[i,j,rfl,rfl,J,q]:=h;let#[t,rfl]:=G;let#[B,rfl]:=F;show add_str (λB tk=>#[.str (i++j),H,I.tok _,#[_,rfl],q]) J
theorem vals1(r:zP [x] us):∃u,us=[u]/\zH x u:=by
 cases r with
 |cons B i=>cases i;show#[_,rfl,B]
def SW:aW X (.type "int") (λxs H Q=>(∃i,xs=[.int i]/\Q (.int i) H)\/∃k,xs=[.bl k]/\Q (.int (if k then 1 else 0)) H):=by
 intro zS s σ H xs F Q I r h;rcases h with⟨i,rfl,q⟩|⟨k,rfl,q⟩
 .obtain⟨u,rfl,t,rfl⟩:=vals1 r;show call_int_int #[.int i,H,I,#[_,rfl],q]
 .obtain⟨u,rfl,B⟩:=vals1 r;cases B;show call_int_bool #[.int (if k then 1 else 0),H,I.tok _,#[_,rfl],q]
end
structure xX(h:Heap)(x dx C:Addr)(mA:Str->Option Value):Prop where
 obj:h.get? x=⇑(W.instObj C dx)
 ns:h.Ns1 dx mA
 ne:dx≠x
def Ln{h:Heap}(n:h.Ns1 dx F):∃B,h.get? dx=⇑B/\∀name,W.lookIn name B=⇑(F name):=by
 let#[o,es,O,I,M,L,_,J]:=n;show#[o,I,λname=>?_];let e:=J name;unfold nsFind findBy at e;rw[<-Array.find?_toList]at e;unfold W.lookIn;rw[M];dsimp only;split
 .rename_i y q;rw[q]at e;show congrArg some e
 .rename_i q;rw[q]at e;let a:es.toList.any (·.refKey)=false:=by rw[List.any_eq_false];intro y G;let#[z,t,i]:=L y (mem_toList_iff.mp G);simp[DictEntry.refKey,i]
  grind
def xX.look(I:xX h x dx C B):∃i,W.InstAt h x (W.instObj C dx) C ⇑i/\∀name,W.lookIn name i=⇑(B name):=
 let⟨i,ho,hl⟩:=Ln I.ns
 #[i,#[I.obj,rfl,rfl,ho],hl]
def fL.some_of(r:fL ⇑v o):∃u,o=⇑u/\zH v u:=by
 cases o with
 |none=>show(show False from r).elim
 |some u=>show#[u,rfl,r]
section
variable{P:Program}{w:World}{H H':Hp}{h h':Heap}{a C dx:Addr}{fs fs':List (Str×V)}
def Pp(B:eA P w H h)(e:H a=⇑(.ins C dx fs)):∃i,xX h a dx C i/\(∀f,fL (fs.lookup f) (i f))/\PySem.Within i (fs.map (·.1))/\fs.length<=1000/\H dx=⇑(.own a):=by
 let#[d,z,G,F,i,n,r,q]:=(show zR P w H h a (.ins C dx fs) from B a _ e)
 show#[i,#[F,n,G],r,q,z,d]
end
structure ly(K:W.Frag)(C:Addr):Prop where
 pg:W.plainGet K C Str.empty=true
 hd:W.hasDictIn K C=true
 po:W.plainOver K C=true
 sa:W.findIn K (.ref C) "__setattr__"=⇑⇑(.builtin "object.__setattr__")
def ly.get{K:W.Frag}(c:ly K C)(f:Str):W.plainGet K C f=true:=c.pg
section
variable{X:Cx}{zS:List (Addr×Obj)}{σ:St}{H:Hp}{s:Shared}{a C dx:Addr}{fs:List (Str×V)}{f:Str}{v:V}{A:Around}{E:zr}
def OQ(B:attributeBase e f env (eval e env)=eval e env)
  (h:wpAny (model prog w) A (eval e env) (λo i=>wpAny (model prog w) A (getAttr o f true) Q E i) E s):wpAny (model prog w) A (eval (.Attribute e f pos) env) Q E s:=
 Attribute_any_ h (by rw[arm_eval_Attribute,B])
end
section
variable{X:Cx}{zS:List (Addr×Obj)}{σ:St}{H:Hp}{s:Shared}{A:Around}{E:zr}{Q:zr}{c:Value}{b:Bool}
inductive gB(K:W.Frag)(H:Hp):V->Value->Prop where
 |non:gB K H .non (.type "NoneType")
 |bl (x:Bool):gB K H (.bl x) (.type "bool")
 |int (i:Int):gB K H (.int i) (.type "int")
 |str (x:Str):gB K H (.str x) (.type "str")
 |flt (x:UInt64):gB K H (.flt x) (.type "float")
 |lst {a:Addr} {xs:List V} (e:H a=some (.lst xs)):gB K H (.ref a) (.type "list")
 |frz {a:Addr} {o:Obj} {xs:List V} (e:H a=some (.frz o (.lst xs))):gB K H (.ref a) (.type "list")
 |tup {a:Addr} {xs:List V} (e:H a=some (.tup xs)):gB K H (.ref a) (.type "tuple")
 |dK {a:Addr} {zT:List (bX×V)} (e:H a=some (.dK zT)):gB K H (.ref a) (.type "dict")
 |dT {a:Addr} {zT:List (List bX×V)} (e:H a=some (.dT zT)):gB K H (.ref a) (.type "dict")
 |ins {a C dx:Addr} {fs:List (Str×V)} (e:H a=some (.ins C dx fs)) (cl:ly K C) (ha:W.findIn K (.ref C) "__class__"=some (some (.builtin "object.__class__")))
  (hn:W.specialIn K (.builtin "object.__class__") "__get__"=⇑⇑(.builtin "getset_descriptor.__get__")) (htk:W.takesIn K (.builtin "object.__class__")=⇑true)
  (hm:W.mroIn K C (.type "object")=⇑true):gB K H (.ref a) (.ref C)
def CO(I:Inv X zS σ H s)(B:zH x u)(U:gB X.K H x t)(e:W.kitOne X.K t c=⇑b)(h:∀tk,Q (.bool b) {s with toks:=tk}):
  wpAny (model X.prog X.w) A (call (.builtin "isinstance") [u,c]) Q E s:=by
 cases U with
 |non=>cases(show u=Value.none from B);show W.kia_one W.kitx_none I.kIn True.intro e (λz=>nomatch z) h
 |bl y=>cases(show u=Value.bool y from B);show W.kia_one W.kitx_bool I.kIn True.intro e (λz=>nomatch z) h
 |int i=>let#[t,q]:=(show∃t,u=Value.int i t from B);cases q;show W.kia_one W.kitx_int I.kIn True.intro e (λz=>nomatch z) h
 |str y=>let#[t,q]:=(show∃t,u=Value.str y t from B);cases q;show W.kia_one W.kitx_str I.kIn True.intro e (λz=>nomatch z) h
 |flt y=>let#[t,q]:=(show∃t,u=Value.float y t from B);cases q;show W.kia_one W.kitx_float I.kIn True.intro e (λz=>nomatch z) h
 |@lst a xs F=>
  cases(show u=Value.ref a from B);let#[_,_,n,_,h1]:=(show zR X.prog X.w H s.heap a (.lst xs) from I.hok a _ F)
  show W.kia_one W.kitx_list I.kIn #[_,h1,rfl] e (λz=>nomatch z) h
 |@frz a Y xs F=>
  cases(show u=Value.ref a from B);let#[_,_,_,n,_,h1]:=(show zR X.prog X.w H s.heap a (.frz Y (.lst xs)) from I.hok a _ F)
  show W.kia_one W.kitx_list I.kIn #[_,h1,rfl] e (λz=>nomatch z) h
 |@tup a xs F=>
  cases(show u=Value.ref a from B);let#[_,_,_,p]:=(show zR X.prog X.w H s.heap a (.tup xs) from I.hok a _ F)
  let#[o,h1,h2,_]:=p;show W.kia_one W.kitx_tuple I.kIn #[o,h1,h2] e (λz=>nomatch z) h
 |@dK a G F=>
  cases(show u=Value.ref a from B);let#[_,_,vs,_,p]:=(show zR X.prog X.w H s.heap a (.dK G) from I.hok a _ F)
  let#[o,es,ep,h1,h2,_]:=p;show W.kia_one W.kitx_dict I.kIn #[o,h1,h2.1] e (λz=>nomatch z) h
 |@dT a G F=>
  cases(show u=Value.ref a from B);let#[_,_,xs,_,o,es,ep,h1,h2,_]:=(show zR X.prog X.w H s.heap a (.dT G) from I.hok a _ F)
  show W.kia_one W.kitx_dict I.kIn #[o,h1,h2.1] e (λz=>nomatch z) h
 |@ins a C dx fs F M ha Z L hm=>cases(show u=Value.ref a from B);let#[mA,O,_]:=Pp I.hok F;let#[od,J,_]:=O.look;show W.kia_one (W.kitx_own (M.get _) M.hd ha Z L hm) I.kIn J e (λz=>nomatch z) h
end
structure bM(k:Nat)(A:Around):Prop where
 hd:A.handled=none
 dp:A.depth+3*k+5<recursionLimit
 un:A.units+16*k+200<cLine
 gd:A.guards=⇑[]
def bM.mono(r:bM k A)(h:j<=k):bM j A:=#[r.hd,by let:=r.dp;lia,by let:=r.un;lia,r.gd]
def bM.deeper(r:bM (k+1) A)(env:Env):bM k (A.deeper env):=
 #[r.hd,by let:=r.dp;show A.depth+1+3*k+5<_;lia,by let:=r.un;show A.units+3+16*k+200<_;lia,r.gd]
def Us{A:Around}:(A.under (.builtin "type.__call__" #[.ref C::us,i])).depth=A.depth+1:=by first|rfl|assumption|(simp_all;done)
def TK{A:Around}:(A.under (.builtin "type.__call__" #[.ref C::us,i])).units=A.units+1:=by first|rfl|assumption|(simp_all;done)
def bM.make(r:bM (k+1) A)(C:Addr)(us:List Value)(i:List (Str×Value)):bM k (A.under (.builtin "type.__call__" #[.ref C::us,i])):=
 #[r.hd,by let:=r.dp;rw[Us];lia,by let:=r.un;rw[TK];lia,by first|show r.gd|(have:=r.gd;simp[Around.under,Code.isGuard,guardIds,this])]
def bM.depth(r:bM k A):A.depth<recursionLimit:=by let:=r.dp;lia
def bM.units(r:bM k A):A.units+64<cLine:=by let:=r.un;lia
def ib:TA:=λ_ H Q=>Q [] H
def yR(ta:TE)(i:TA):TA:=λσ H Q=>ta σ H λx H1=>i σ H1 λxs H2=>Q (x::xs) H2
section
variable{X:Cx}{e:Expr}{es:List Expr}{te:TE}{t:TA}{pos:Pos}
def IC:PA X [] ib:=λ_ _ _ _ H Q I h=>Calls.spliced_nil #[[],H,I,.nil,h]
def II(U:PE X e te)(O:PA X es t)(M:autoParam (starEach (e::es) X.env=(false,eval e X.env)::starEach es X.env) rZ9):PA X (e::es) (yR te t):=by intro pos zS s σ H Q I h;rw[M];show wpAny _ _ (spliced ((false,eval e X.env)::backTo pos (starEach es X.env))) _ _ s;show Calls.spliced_cons (Ah (U zS s σ H _ I h) λu B i=>?_);let#[x,H1,Z,G,L]:=i;show Ah (O pos zS B σ H1 _ Z L) λus s2⟨xs,H2,Y,F,J⟩=>#[x::xs,H2,Y,.cons G F,J]
def gw(t:TA):TE:=λσ H Q=>t σ H λxs H1=>xs.length<=sizeLine/\∀p,H1 p=none->Q (.ref p) (upd H1 p (.tup xs))
def ic(t:TA):TE:=λσ H Q=>t σ H λxs H1=>xs.length<=sizeLine/\∀p,H1 p=none->Q (.ref p) (upd H1 p (.lst xs))
def Nq(h:PA X es t):PE X (.Tuple es L pos) (gw t):=by intro zS s σ H Q I G;show wpAny_Tuple_spliced (Ah (h pos zS s σ H _ I G) λF i⟨xs,H1,B,r,z,q⟩=>#[by rw[<-r.length];show z,?_]);let J:H1 i.heap.objs.size=none:=B.hok.fresh (q8 _);show#[.ref i.heap.objs.size,upd H1 i.heap.objs.size (.tup xs),B.laid (t':=i.toks) (λb u e=>qc _ e) (q8 _) ?_,rfl,q _ J];show#[#[z,iS.new rfl (qd _ rfl)],F,r,#[_,qd _ rfl,rfl,_,rfl]]
def MP(h:PA X es t):PE X (.List es pos) (ic t):=by intro zS s σ H Q I G;show wpAny_List_spliced (Ah (h pos zS s σ H _ I G) λF i⟨xs,H1,B,r,z,q⟩=>#[by rw[<-r.length];show z,?_]);let J:H1 i.heap.objs.size=none:=B.hok.fresh (q8 _);show#[.ref i.heap.objs.size,upd H1 i.heap.objs.size (.lst xs),B.laid (t':=i.toks) (λb u e=>qc _ e) (q8 _) ?_,rfl,q _ J];show#[z,F,0,r,qd _ rfl]
end
abbrev Sp:=List V->Hp->VK->XK->Prop
abbrev dk:=List Env->Hp->Shared->XK->Value->Shared->Prop
structure kR(P:Program)(w:World)(K:W.Frag)(mg:Str->Option Value)(base:Heap)(A:Around)(outer:List Env)(s:Shared)(H:Hp):Prop where
 frames:A.frames=⇑outer
 mod:Mod K mg base
 bs:∀b o,base.get? b=⇑o->s.heap.get? b=⇑o/\H b=none
 bsz:base.objs.size<=s.heap.objs.size
 funs:s.heap.FunFrames base outer
 frf:∀b∈iW outer,H b=none
 hok:eA P w H s.heap
 bare:AllBare s.gens
@[inline]def CE(i:List Env)(P:Program)(w:World)(H:Hp)(s:Shared)(Q:VK)(u:Value)(s':Shared):Prop:=
 ∃v H',s'.os=s.os/\AllBare s'.gens/\Un (iW i) [] H H' s.heap s'.heap/\eA P w H' s'.heap/\zH v u/\Q v H'
@[inline]def CR(CX:dk)(i:List Env)(P:Program)(w:World)(H:Hp)(s:Shared)(Q:VK)(E:XK)(r:Result)(s':Shared):Prop:=
 match r with
 |.ok (.ret u)=>CE i P w H s Q u s'
 |.ok _=>False
 |.error e=>CX i H s E e s'
structure dA(P:Program)(w:World)(K:W.Frag)(mg:Str->Option Value)(base:Heap)(CX:dk)(k:Nat)(f:Addr)(fd:FuncData)(ps:List Str)(sp:Sp):Prop where
 len:∀vs H Q E,sp vs H Q E->vs.length=ps.length
 run:∀(A:Around)(outer:List Env)(s:Shared)(H:Hp)(args:Args)(us:List Value)(vs:List V)(Q:VK)(E:XK),bM k A->kR P w K mg base A outer s H->BindsTo s fd args (ps.zip us)->zP vs us->sp vs H Q E->
  codeAny (model P w) A (.call (.ref f) args) (CR CX outer P w H s Q E) s
def kR.make{K:W.Frag}(e:kR P w K mg base A outer s H)(C:Addr)(us:List Value)(i:List (Str×Value)):
  kR P w K mg base (A.under (.builtin "type.__call__" #[.ref C::us,i])) outer s H:=#[by first|show e.frames|(simpa[Around.under,Code.envs,Code.isFrame,pushEnvs] using e.frames),e.mod,e.bs,e.bsz,e.funs,e.frf,e.hok,e.bare]
section
variable{X:Cx}{zS:List (Addr×Obj)}{σ:St}{H:Hp}{s s':Shared}
def Inv.env0(I:Inv X zS σ H s):kR X.prog X.w X.K X.mg X.base X.A X.stack s H:=
 #[I.ok.frames,I.ok.mod,I.bs,le_trans I.ok.bsz I.sz,I.stack,I.stkFree,I.hok,I.bare]
def Inv.after(I:Inv X zS σ H s)(h:CE X.stack X.prog X.w H s Q u s'):EP X zS σ Q u s':=by let#[v,H',os,i,un,F,r,q]:=h;let#[G,g,d,t,B]:=s';obtain rfl:B=s.os:=os;show#[v,H',I.call (h':=G) (g':=g) (d':=d) (t':=t) (ch:=[]) un F i (λb z=>absurd z (by simp)),r,q]
end
@[inline]def Binds(K:W.Frag)(fd:FuncData)(ps:List Str)(ds:List Value):Prop:=
 ∀(s:Shared)(us:List Value),K.In s.heap->(us++ds).length=ps.length->BindsTo s fd #[us,[]] (ps.zip (us++ds))
def Binds.all{K:W.Frag}(h:∀us:List Value,us.length=ps.length->bindArgs fd #[us,[]]=pure (ps.zip us)):Binds K fd ps []:=λs us _ i=>by rw[qz]at i⊢;show .of_eq (h us i)
structure aD(N P:List Str)(sc:Scope):Prop where
 kind:sc.kind=.function
 co:sc.isCoroutine=false
 gen:sc.isGenerator=false
 nd:N.Nodup
 pre:N.take P.length=P
 par:∀x∈P,sc.names.lookup x=⇑.local\/sc.names.lookup x=⇑.cell
 nofree:∀y∈sc.names,y.2≠.free
def Lj{kindOf:Str->Option NameKind}:∀{binds:List (Str×Value)}{m:Str->Option Value},(∀v,(x,v)∉binds)->bindL kindOf binds m x=m x
 |[],_,_=>rfl
 |(n,v)::r,m,h=>by
  unfold bindL;rw[Lj λw i=>h w (qk _ i)];split
  .let:x≠n:=by rintro rfl;exact h v qm
   simp[this]
  .rfl
def Lm{kindOf:Str->Option NameKind}:∀{binds:List (Str×Value)}{m:Str->Option Value},(∀v,(x,v)∉binds)->bindC kindOf binds m x=m x
 |[],_,_=>rfl
 |(n,v)::r,m,h=>by
  unfold bindC;rw[Lm λw i=>h w (qk _ i)];split
  .rfl
  .let:x≠n:=by rintro rfl;exact h v qm
   simp[this]
def Le{kindOf:Str->Option NameKind}:∀{P:List Str}{vs:List Value}{i:Nat}{m:Str->Option Value},P.Nodup->P[i]?=⇑x->vs[i]?=⇑v->kindOf x=⇑.local->
  bindL kindOf (P.zip vs) m x=⇑v
 |[],_,_,_,_,h,_,_=>by simp at h
 |_::_,[],_,_,_,_,h,_=>by simp at h
 |p::P,w::vs,0,m,nd,h1,h2,hk=>by simp at h1 h2;subst h1;subst h2;show bindL kindOf ((p,w)::P.zip vs) m p=_;unfold bindL;rw[Lj λv B=>(qK.mp nd).1 (of_mem_zip B).1,qZ hk];simp
 |p::P,w::vs,i+1,m,nd,h1,h2,hk=>by show bindL kindOf ((p,w)::P.zip vs) m x=_;unfold bindL;show Le (i:=i) (qK.mp nd).2 ↑h1 ↑h2 hk
def KM{kindOf:Str->Option NameKind}:∀{P:List Str}{vs:List Value}{i:Nat}{m:Str->Option Value},P.Nodup->P[i]?=⇑x->vs[i]?=⇑v->kindOf x≠⇑.local->
  bindC kindOf (P.zip vs) m x=⇑v
 |[],_,_,_,_,h,_,_=>by simp at h
 |_::_,[],_,_,_,_,h,_=>by simp at h
 |p::P,w::vs,0,m,nd,h1,h2,hk=>by simp at h1 h2;subst h1;subst h2;show bindC kindOf ((p,w)::P.zip vs) m p=_;unfold bindC;rw[Lm λv B=>(qK.mp nd).1 (of_mem_zip B).1,q5 hk];simp
 |p::P,w::vs,i+1,m,nd,h1,h2,hk=>by show bindC kindOf ((p,w)::P.zip vs) m x=_;unfold bindC;show KM (i:=i) (qK.mp nd).2 ↑h1 ↑h2 hk
def start(N:List Str)(vs:List V):St:=vs.map some++List.replicate (N.length-vs.length) none
def eV(CX:dk)(P:Program)(w:World)(K:W.Frag)(mg:Str->Option Value)(base:Heap)(N:List Str)(qual:Str)(scope:Scope)(f:Addr)(cd:Value)(A:Around)(outer:List Env)(s:Shared)(H:Hp)(E:XK):Cx where
 prog:=P
 w:=w
 K:=K
 mg:=mg
 base:=base
 A:=A.deeper (envOfC qual scope s.heap.objs.size f cd)
 N:=N
 s₀:=s
 H₀:=H
 env:=envOfC qual scope s.heap.objs.size f cd
 outer:=outer
 stack:=envOfC qual scope s.heap.objs.size f cd::outer
 ex:=[]
 calm:=true
 fn:=λ_=>true
 pn:=[]
 xe:=λe s'=>wpAny (model P w) (A.deeper (envOfC qual scope s.heap.objs.size f cd)) (leaving (envOfC qual scope s.heap.objs.size f cd) e) (λ_ s''=>CX outer H s E e s'') (λe' s''=>CX outer H s E e' s'') s'
def JK{i:Scope}(h:i.names.lookup x=⇑.cell):∃c,(cellsFrom n i.names []).lookup x=⇑c:=by let q:=W.cellsFrom_some i.names n [] (.inl h);show isSome_iff_exists.mp q
def Sg{K:W.Frag}
  (S:aD N ps scope)(hd:A.handled=none)(B:kR P w K mg base A outer s H)(hl:vs.length=ps.length)(r:zP vs us)
  (x:InCallC s s.heap.objs.size (bindL (envOfC qual scope s.heap.objs.size f L).kindOf (ps.zip us) λ_=>none) (cellsFrom (s.heap.objs.size+1) scope.names []) (bindC (envOfC qual scope s.heap.objs.size f L).kindOf (ps.zip us) λ_=>none) U):
  Inv (eV CX P w K mg base N qual scope f L A outer s H E) [] (start N vs) H U:=by
 let Z:ps.length<=N.length:=by let:=congrArg List.length S.pre;rw[qG]at this;lia
 obtain⟨h1,tk,rfl,O⟩:=x.done;let F:∀b:Addr,b∉(eV CX P w K mg base N qual scope f L A outer s H E).ex:=λb z=>absurd (show b∈([]:List Addr) from z) (by simp);refine⟨#[B.mod,S.kind,rfl,rfl,q8 _,λy z c h1 h2=>?_,λy G=>?_,λy c _ h=>?_,λ_=>hd,Around.frames_deeper B.frames,.inr #[rfl,rfl],λb z=>absurd z (F b),B.bs,B.bsz,λb _ _=>F b,λb z=>absurd z (F b),B.funs,B.frf],
  rfl,B.bare,Un.kept O,#[_,x.toInCall.ns,λi y v h1 h2 h3=>?_],λy c h=>#[_,x.cell y c h],B.hok.fresh (q8 _),λy c h=>?_,λp J=>absurd (show p∈([]:List (Addr×Obj)) from J) (by simp),B.hok.kept O,?_⟩
 .show name_of_addr x.apart (PySem.mem_of_lookup h1) (PySem.mem_of_lookup h2)
 .let G:scope.names.lookup y=⇑.cell\/scope.names.lookup y=⇑.free:=G;rcases G with G|G
  .show JK G
  .show absurd rfl (S.nofree _ (PySem.mem_of_lookup G))
 .show le_of_lt (x.above y c (PySem.mem_of_lookup h))
 .have hi:i<vs.length:=by
   unfold start at h2;by_cases hi:i<vs.length
   .show hi
   .rw[getElem?_append_right ↑hi]at h2;rw[List.getElem?_replicate]at h2;split at h2<;>cases h2
  have ha:vs[i]?=⇑v:=by
   unfold start at h2;rw[getElem?_append_left ↑hi,qE]at h2;cases e:vs[i]? with
   |none=>rw[e]at h2;cases h2
   |some a=>rw[e]at h2;cases h2;rfl
  let#[u,M,Y]:=r.get ha;let J:ps[i]?=⇑y:=by rw[<-S.pre,List.getElem?_take_of_lt ∅];show h1
  let I:ps.Nodup:=by rw[<-S.pre];show S.nd.sublist (List.take_sublist _ _)
  show#[u,Y,?_];rcases S.par y (qL J)with k|k
  .show .inl #[k,Le I J M k]
  .obtain⟨c,e⟩:=JK (n:=s.heap.objs.size+1) k;show .inr #[.inl k,c,e,?_];let q:=x.cell y c e;rw[KM I J M (by show scope.names.lookup y≠_;rw[k];decide)]at q;show q
 .show B.hok.fresh (le_of_lt (x.above y c (PySem.mem_of_lookup h)))
 .unfold start;show _=N.length;rw[qp,qh,List.length_replicate];lia
def Md{K:W.Frag}{dV kV Y pm B ct oc:Value}(lk:K.lookup f=⇑#[oc,od,.func (W.fnOf name qual params body scope dV kV Y pm an B ct),h3])(h2:W.codeIn K B qual=true)(S:aD N ps scope)
  (len:∀vs H Q E,sp vs H Q E->vs.length=ps.length)
  (G:∀(A:Around)(i:List Env)(s:Shared)(H:Hp)(vs:List V)(Q:VK)(E:XK),bM k (A.deeper (envOfC qual scope s.heap.objs.size f B))->sp vs H Q E->
   ∃t,jR (eV CX P w K mg base N qual scope f B A i s H E) body t/\t {nx:=λ_ H'=>Q .non H',rt:=Q} (start N vs) H):
  dA P w K mg base CX (k+1) f (W.fnOf name qual params body scope dV kV Y pm an B ct) ps sp:=by
 refine#[len,λA i s H args us vs Q E hr U hb r M=>?_];let hl:=len _ _ _ _ M;let KX:K.In s.heap:=U.mod.kin.keeps λb o e=>(U.bs b o e).1;let h1:s.heap.NoLimit:=U.mod.nolimit.keeps λb o e=>(U.bs b o e).1;let F:∀y∈ps.zip us,scope.names.lookup y.1=⇑.local\/(scope.names.lookup y.1=⇑.cell/\((cellsFrom (s.heap.objs.size+1) scope.names []).lookup y.1).isSome=true):=λ⟨n,v⟩ hy=>by
  rcases S.par n (of_mem_zip hy).1 with q|q
  .show .inl q
  .show .inr #[q,W.cellsFrom_some _ _ _ (.inl q)]
 refine codeAny_call_function hr.depth (KX _ _ lk) rfl S.co S.gen rfl (W.codeRec_of KX h2) (hb _ _ _ _ ?_);show wpAny_newFunctionEnv_cells S.kind F λh4 he s1 x=>?_;subst he;show#[h1.keeps x.toInCall.keep,codeAny_func ?_];let#[t,ht,hq]:=G A i s H vs Q E (hr.deeper _) M;let I:Inv (eV CX P w K mg base N qual scope f B A i s H E) [] (start N vs) H s1:=Sg S hr.hd U hl r x;show zp (ht [] s1 (start N vs) H _ I hq) (λfl s' L=>?_) λe s' L=>L;let O:∀{σ':St}{H':Hp}{v:V}{u:Value},Inv (eV CX P w K mg base N qual scope f B A i s H E) [] σ' H' s'->zH v u->Q v H'->CE i P w H s Q u s':=
  λ{σ' H' v u} J Z q=>#[v,H',J.os,J.bare,J.base,J.hok,Z,q]
 cases fl with
 |ret u=>let#[v,σ',H',J,Z,q]:=L;show O J Z q
 |next=>let#[σ',H',J,q]:=L;show O (v:=V.non) (u:=Value.none) J rfl q
 |brk=>let#[_,_,_,q]:=L;show False.elim q
 |cont=>let#[_,_,_,q]:=L;show False.elim q
section
variable{X:Cx}{x:Str}{p pos:Pos}{e:Expr}{es:List Expr}{t:TA}{id T:String}{r:List V->Hp->VK->Prop}
def ij(r:List V->Hp->VK->Prop)(t:TA):TE:=λσ H Q=>t σ H λvs H1=>r vs H1 Q
def Qy(Z:aW X (.builtin id) r)(U:Gl X x)(O:X.mg x=none)(M:bootBuiltins x=⇑(.builtin id))(ha:PA X (e::es) t)(hn:autoParam (x≠"__name__") dZ9)(B:autoParam ((x==("__debug__":Str))=false) dZ9)
  (Y:autoParam (starEach (e::es) X.env=(false,eval e X.env)::starEach es X.env) rZ9)(i:autoParam ((backTo pos (starEach es X.env)).any (·.1)=false) rZ9):PE X (.Call (.Name x p) (e::es) [] pos) (ij r t):=by
 intro zS s σ H Q I h;show wpAny_Call_Name_kw (Bg I U O M ?_ hn B);show PyProof.Rows.callWith_builtin1 (Ah (ha pos zS s σ H _ I h) λF G⟨vs,H1,I1,J,L⟩=>Z zS G σ H1 vs F Q I1 J L) Y i
def KQ(Z:aW X (.type T) r)(U:Gl X x)(O:X.mg x=none)(M:bootBuiltins x=⇑(.type T))(ha:PA X (e::es) t)(hn:autoParam (x≠"__name__") dZ9)(B:autoParam ((x==("__debug__":Str))=false) dZ9)
  (Y:autoParam (starEach (e::es) X.env=(false,eval e X.env)::starEach es X.env) rZ9)(i:autoParam ((backTo pos (starEach es X.env)).any (·.1)=false) rZ9):PE X (.Call (.Name x p) (e::es) [] pos) (ij r t):=by
 intro zS s σ H Q I h;show wpAny_Call_Name_kw (Bg I U O M ?_ hn B);show PyProof.Rows.callWith_type1 (Ah (ha pos zS s σ H _ I h) λF G⟨vs,H1,I1,J,L⟩=>Z zS G σ H1 vs F Q I1 J L) Y i
end
section
variable{κ:Type}[DecidableEq κ]
def dH(zT:List (κ×V))(k:κ):Option V:=(zT.find? λi=>↥(i.1=k)).map (·.2)
def cJ(zT:List (κ×V))(k:κ)(v:V):List (κ×V):=
 if(zT.any λi=>↥(i.1=k))=true then zT.map (λi=>if i.1=k then(i.1,v)else i)else zT++[(k,v)]
def DY{p:κ×V}{r:List (κ×V)}{k:κ}(e:p.1=k):dH (p::r) k=⇑p.2:=by simp[dH,List.find?_cons,e]
def DH{p:κ×V}{r:List (κ×V)}{k:κ}(e:¬p.1=k):dH (p::r) k=dH r k:=by simp[dH,List.find?_cons,e]
def Kv(k:κ):∀zT:List (κ×V),(zT.any λi=>↥(i.1=k))=(dH zT k).isSome
 |[]=>rfl
 |p::r=>by
  rw[any_cons];by_cases e:p.1=k
  .simp[DY e,qQ e,Bool.true_or,isSome_some]
  .rw[DH e,qR e];show Kv k r
def DZ(zT:List (κ×V))(k:κ)(v:V):(cJ zT k v).length<=zT.length+1:=by unfold cJ;grind
def fL.isSome_eq(r:fL o u):o.isSome=u.isSome:=by
 cases o with
 |none=>cases u with
  |none=>rfl
  |some _=>show(show False from r).elim
 |some _=>cases u with
  |none=>show(show False from r).elim
  |some _=>rfl
def KV.val{zT:List (κ×V)}{vs:List (κ×Value)}(r:KV zT vs)(k:κ):fL (dH zT k) (valueAt vs k):=by
 induction r with
 |nil=>show True.intro
 |@cons p q ps i h t F=>
  let#[h1,h2]:=h;by_cases e:p.1=k
  .let B:q.1=k:=h1.symm.trans e;let b:valueAt (q::i) k=⇑q.2:=by simp[valueAt,B]
   rw[DY e,b];show h2
  .let B:¬q.1=k:=λz=>e (h1.trans z);let b:valueAt (q::i) k=valueAt i k:=by simp[valueAt,B]
   rw[DH e,b];show F
def KV.any(r:KV zT vs)(k:κ):(zT.any λi=>↥(i.1=k))=vs.any λi=>↥(i.1=k):=by
 induction r with
 |nil=>rfl
 |cons h t B=>rw[any_cons,any_cons,B,h.1]
def KV.repl(r:KV zT vs)(k:κ)(F:zH y u):
  KV (zT.map λi=>if i.1=k then(i.1,y)else i) (vs.map λi=>if i.1=k then(i.1,u)else i):=by
 induction r with
 |nil=>show .nil
 |@cons p q ps G h t B=>show .cons ?_ B;grind
def KV.put(r:KV zT vs)(k:κ)(i:zH y u):KV (cJ zT k y) (stored vs k u):=by
 unfold cJ stored;rw[r.any k];by_cases e:(vs.any λB=>↥(B.1=k))=true
 .rw[qZ e,qZ e];show r.repl k i
 .rw[q5 e,q5 e];show Paired.snoc r #[rfl,i]
def KV.length(r:KV zT vs):zT.length=vs.length:=Paired.length r
end
def Cy(r:zH (kV k) u):(aS P w).is k u=true:=by
 cases k with
 |inl i=>let#[t,e]:=(show∃t,u=Value.int i t from r);subst e;show UA P w i t
 |inr x=>let#[t,e]:=(show∃t,u=Value.str x t from r);subst e;show Va P w x t
def Lc:∀{ks:List bX}{us:List Value},zP (ks.map kV) us->ItemsAre (aS P w) ks us
 |[],_,r=>by rw[map_nil]at r;cases r;show .nil
 |k::ks,_,r=>by
  cases r with
  |cons h t=>show .cons (Cy h) (Lc t)
abbrev KT(H:Hp):List (List bX×V)->List (List bX×Addr×Value)->Prop:=Paired λp q=>p.1=q.1/\H q.2.1=⇑(.tup (p.1.map kV))/\zH p.2 q.2.2
def KT.val{H:Hp}{zT:List (List bX×V)}{xs:List (List bX×Addr×Value)}(r:KT H zT xs)(k:List bX):fL (dH zT k) ((atKey xs k).map (·.2)):=by
 induction r with
 |nil=>show True.intro
 |@cons p q ps i h t F=>
  let#[h1,_,h2]:=h;by_cases e:p.1=k
  .let B:q.1=k:=h1.symm.trans e;let b:atKey (q::i) k=⇑q.2:=by simp[atKey,B]
   rw[DY e,b];show h2
  .let B:¬q.1=k:=λz=>e (h1.trans z);let b:atKey (q::i) k=atKey i k:=by simp[atKey,B]
   rw[DH e,b];show F
def KT.repl(r:KT H zT xs)(k:List bX)(B:zH y u):
  KT H (zT.map λi=>if i.1=k then(i.1,y)else i) (xs.map (putAt k u)):=by
 induction r with
 |nil=>show .nil
 |@cons p q ps I h t F=>
  rw[qy];show .cons ?_ F;let#[h1,h2,G]:=h;unfold putAt;by_cases e:p.1=k
  .rw[qZ e,qZ (h1.symm.trans e)];show#[h1,h2,B]
  .rw[q5 e,q5 (λz=>e (h1.trans z))];show#[h1,h2,G]
def KT.put(r:KT H zT xs)(k:List bX)(F:H b=⇑(.tup (k.map kV)))(i:zH y u):
  KT H (cJ zT k y) (storedH xs k b u):=by
 let e:(zT.any λB=>↥(B.1=k))=(atKey xs k).isSome:=by rw[Kv,(r.val k).isSome_eq,isSome_map]
 unfold cJ storedH;rw[e];by_cases q:(atKey xs k).isSome=true
 .rw[qZ q,qZ q];show r.repl k i
 .rw[q5 q,q5 q];show Paired.snoc r #[rfl,F,i]
def KT.keeps(r:KT H zT xs)(i:∀b ys,H b=⇑(.tup ys)->H' b=⇑(.tup ys)):KT H' zT xs:=
 Paired.mapP r λ_ _ z=>#[z.1,i _ _ z.2.1,z.2.2]
def HU(ok:eA P w H h)(e:Rd H a u):zR P w H h a u:=e.ok ok
def Dq(ok:eA P w H h)(e:Rd H a (.dK zT)):zT.length<=sizeLine/\(a==sysModules)=false/\∃vs,KV zT vs/\h.DictOf (aS P w) a vs:=
 show zR P w H h a (.dK zT) from HU ok e
def FB(ok:eA P w H h)(e:H a=⇑(.dK zT)):zT.length<=sizeLine/\(a==sysModules)=false/\∃vs,KV zT vs/\h.DictOf (aS P w) a vs:=Dq ok (.inl e)
def CW(ok:eA P w H h)(e:H a=⇑(.tup (ks.map kV))):(tupleKind (aS P w)).is h ks a:=by
 let#[_,i,r,o,h1,h2,n,B]:=(show zR P w H h a (.tup (ks.map kV)) from ok a _ e)
 show#[o,i.toArray,n,h1,h2,B,Lc r]
def Dr(ok:eA P w H h)(e:Rd H a (.dT zT)):zT.length<=sizeLine/\(a==sysModules)=false/\
  ∃xs,KT H zT xs/\h.DictOfH (tupleKind (aS P w)) a xs:=by
 let#[z,y,xs,r,o,es,L,h1,h2,J,I,G]:=(show zR P w H h a (.dT zT) from HU ok e)
 refine#[z,y,xs,r,o,es,L,h1,h2,J,I,λx i=>?_,G];let all:∀{l:List (List bX×V)}{m:List (List bX×Addr×Value)},KT H l m->∀x∈m,(tupleKind (aS P w)).is h x.1 x.2.1:=by
  intro l m q;induction q with
  |nil=>intro x i;show nomatch i
  |@cons p q ps M B t F=>
   intro x i;rcases qA.mp i with e|i
   .subst e;show CW ok (by rw[<-B.1];show B.2.1)
   .show F x i
 show all r x i
def HX(ok:eA P w H h)(e:H a=⇑(.dT zT)):zT.length<=sizeLine/\(a==sysModules)=false/\
  ∃xs,KT H zT xs/\h.DictOfH (tupleKind (aS P w)) a xs:=Dr ok (.inl e)
def jN(H:Hp)(a:Addr)(y:V)(r:Option V):Prop:=
 (∃zT k,Rd H a (.dK zT)/\y=kV k/\r=dH zT k)\/∃zT k b,Rd H a (.dT zT)/\y=.ref b/\H b=⇑(.tup (k.map kV))/\r=dH zT k
def oU(H:Hp)(a:Addr)(y v:V)(H':Hp):Prop:=
 (∃zT k,H a=⇑(.dK zT)/\y=kV k/\zT.length<sizeLine/\H'=upd H a (.dK (cJ zT k v)))\/
 ∃zT k b,H a=⇑(.dT zT)/\y=.ref b/\H b=⇑(.tup (k.map kV))/\zT.length<sizeLine/\H'=upd H a (.dT (cJ zT k v))
def Inv.big(I:Inv X zS σ H s):sysModules<s.heap.objs.size:=by let h:mainGlobals<s.heap.objs.size:=(I.mod.glob.keeps I.bk).lt;show lt_trans ⋯ h
def RX(Y:A.units+1<cLine)(I:Inv X zS σ H s)(g:jN H a y ⇑v)(U:zH y u)(h:∀F s',Inv X zS σ H s'->zH v F->Q F s'):
  wpAny (model X.prog X.w) A (getItem (.ref a) u) Q E s:=by
 rcases g with⟨G,k,e,M,l⟩|⟨G,k,b,e,M,eb,l⟩
 .subst M;let#[z,hd,vs,B,O]:=Dq I.hok e;let#[F,J,i]:=fL.some_of (v:=v) (o:=valueAt vs k) (by rw[l];show B.val k);show wpAny_getItem_of (Cy U) O.mapOf J (h F _ (I.tok _) i)
 .subst M;cases(show u=Value.ref b from U);let#[z,hd,xs,B,O]:=Dr I.hok e;let#[F,J,i]:=fL.some_of (v:=v) (o:=(atKey xs k).map (·.2)) (by rw[l];show B.val k);let#[p,Z,L]:=qX.mp J;show wpAny_getItem_heap (tupleKind_room_in1 Y) (CW I.hok eb) O Z ?_;rw[L];show h F _ (I.tok _) i
def HK(M:A.units+1<cLine)(I:Inv X zS σ H s)(g:jN H a y o)(L:zH y u)(h:∀s',Inv X zS σ H s'->Q (.bool o.isSome) s'):
  wpAny (model X.prog X.w) A (compareOp .In u (.ref a)) Q E s:=by
 rcases g with⟨B,k,e,G,l⟩|⟨B,k,b,e,G,O,l⟩
 .subst G;let#[z,F,vs,i,J]:=Dq I.hok e;show wpAny_in_of (Cy L) F J.mapOf ?_;rw[<-(i.val k).isSome_eq,<-l];show h _ (I.tok _)
 .subst G;cases(show u=Value.ref b from L);let#[z,F,xs,i,J]:=Dr I.hok e;show wpAny_in_heap (tupleKind_room_in1 M) (CW I.hok O) F J ?_;let q:=(i.val k).isSome_eq;rw[isSome_map]at q;rw[<-q,<-l];show h _ (I.tok _)
def NR(M:A.units+1<cLine)(I:Inv X zS σ H s)(g:jN H a y o)(L:zH y u)(h:∀s',Inv X zS σ H s'->Q (.bool (!o.isSome)) s'):
  wpAny (model X.prog X.w) A (compareOp .NotIn u (.ref a)) Q E s:=by
 rcases g with⟨B,k,e,G,l⟩|⟨B,k,b,e,G,O,l⟩
 .subst G;let#[z,F,vs,i,J]:=Dq I.hok e;show wpAny_notIn_of (Cy L) F J.mapOf ?_;rw[<-(i.val k).isSome_eq,<-l];show h _ (I.tok _)
 .subst G;cases(show u=Value.ref b from L);let#[z,F,xs,i,J]:=Dr I.hok e;show wpAny_notIn_heap (tupleKind_room_in1 M) (CW I.hok O) F J ?_;let q:=(i.val k).isSome_eq;rw[isSome_map]at q;rw[<-q,<-l];show h _ (I.tok _)
def DA(I:Inv X zS σ H s)(B:cx (H a))(F:Heap.SameBut a s.heap h')(G:∃q,h'.get? a=⇑q)(new:zR X.prog X.w (upd H a i) h' a i):
  Inv X zS σ (upd H a i) {s with heap:=h',toks:=t'}:=
 I.write (x:=a) (e:=a) B (.inl rfl) (λb q J z=>(F.2 b J).trans z) G new
def FD(z:zT.length<=sizeLine)(B:(a==sysModules)=false)(i:KV zT vs)(dd:h'.DictOf (aS P w) a vs):
  zR P w H' h' a (.dK zT):=#[z,B,vs,i,dd]
def QX(hu:A.units+1<cLine)(I:Inv X zS σ H s)(g:oU H a y v H')(ry:zH y u)(rv:zH v r)(h:∀s',Inv X zS σ H' s'->Q () s'):
  wpAny (model X.prog X.w) A (setItem (.ref a) u r) Q E s:=by
 rcases g with⟨B,k,e,U,l,Y⟩|⟨B,k,b,e,U,eb,l,Y⟩
 .subst U Y;let#[z,O,vs,i,Z]:=FB I.hok e;let J:vs.length<=sizeLine:=by rw[<-i.length];exact z
  let M:(cJ B k v).length<=sizeLine:=by let:=DZ B k v;lia
  show wpAny_setItem_pairs (hsz:=J) (Cy ry) Z λh' F L=>h _ ?_;let he:∃q,h'.get? a=⇑q:=let⟨q,_,_,G,_⟩:=F;#[q,G]
  show DA I (by rw[e];show True.intro) L he (FD M O (i.put k rv) F)
 .subst U Y;cases(show u=Value.ref b from ry);let#[z,O,xs,i,Z]:=HX I.hok e;let J:xs.length<=sizeLine:=by rw[<-Paired.length i];exact z
  let M:(cJ B k v).length<=sizeLine:=by let:=DZ B k v;lia
  show wpAny_setItem_heap (hsz:=J) (tupleKind_room_in1 hu) (CW I.hok eb) Z λh' F L=>h _ ?_;let#[q,es,ep,G,h2,h3,h4,_,h5]:=F;show DA I (by rw[e];show True.intro) L ⟨q,G⟩ ⟨M,O,_,(i.put k eb rv).keeps λc ys ec=>?_,q,es,ep,G,h2,h3,h4,h5⟩;rw[Aj (Ib ec e (λz=>nomatch z))];show ec
def UL(I:Inv X zS σ H s)(g:jN H a y o):s.TypeIs (.ref a) "dict":=by
 rcases g with⟨i,k,e,_,_⟩|⟨i,k,b,e,_,_,_⟩
 .obtain⟨_,_,vs,_,B⟩:=Dq I.hok e;show B.typeIs
 .obtain⟨_,_,xs,_,B⟩:=Dr I.hok e;show B.typeIs
def yV(G B F:TE):TS:=λD σ H=>F σ H λv H1=>G σ H1 λx H2=>B σ H2 λy I=>∃a i,x=.ref a/\oU I a y v i/\D.nx σ i
def OC(hu:X.A.units+1<cLine)(ho:PE X o J)(hi:PE X i F)(hv:PE X value G)(hs:swapsWith value ⇑(.Subscript o i pos') pos.line X.env=pure false):
  PS X (.Assign [.Subscript o i pos'] value pos) (yV J F G):=by
 intro zS s σ H D I h;show wpAny_Assign_Subscript (Ah (hv zS s σ H _ I h) λr M⟨v,H1,I1,Y,q1⟩=>Ah (ho zS M σ H1 _ I1 q1) λu L⟨x,H2,I2,U,q2⟩=>Ah (hi zS L σ H2 _ I2 q2) λiv s3 B=>?_) hs;let#[y,H3,I3,O,a,H4,ex,g,Z]:=B;subst ex;obtain rfl:u=Value.ref a:=U;show QX hu I3 g O Y λs4 I4=>#[σ,H4,I4,Z]
def JJ(h:Heap)(i:sysModules<h.objs.size):zR P w H (h.push {cls:=.type "dict",data:=.dict #[]}) h.objs.size (.dK []):=
 #[zero_le _,beq_eq_false_iff_ne.mpr (Ne.symm (ne_of_lt i)),[],.nil,Heap.DictOf.new h]
def QB(h:Heap)(i:sysModules<h.objs.size):zR P w H (h.push {cls:=.type "dict",data:=.dict #[]}) h.objs.size (.dT []):=
 #[zero_le _,beq_eq_false_iff_ne.mpr (Ne.symm (ne_of_lt i)),[],.nil,_,#[],0,qd _ rfl,#[rfl,rfl,rfl],rfl,rfl,List.nodup_nil]
def jZ:List (TE×TE)->St->Hp->(List (V×V)->Hp->Prop)->Prop
 |[],_,H,Q=>Q [] H
 |(tk,tv)::r,σ,H,Q=>tk σ H λx H1=>tv σ H1 λy H2=>jZ r σ H2 λps i=>Q ((x,y)::ps) i
abbrev VV:List (V×V)->List (Value×Value)->Prop:=Paired λp q=>zH p.1 q.1/\zH p.2 q.2
def fo(X:Cx)(pos:Pos)(B:List (Option Expr))(i:List Expr)(F:List (TE×TE)):Prop:=
 ∀(zS:List (Addr×Obj))(s:Shared)(σ:St)(H:Hp)(Q:List (V×V)->Hp->Prop),Inv X zS σ H s->jZ F σ H Q->
  wpAny (model X.prog X.w) X.A (evalPairs (pairTrees B i X.env pos)) (λvs s'=>∃ps H',Inv X zS σ H' s'/\VV ps vs/\Q ps H') X.xe s
def OZ:fo X pos [] [] []:=λzS s σ H Q I h=>pairTrees_nil_walk #[[],H,I,.nil,h]
def RK(hk:PE X k tk)(Z:PE X v F)(hr:fo X pos ks vs i):
  fo X pos (⇑k::ks) (v::vs) ((tk,F)::i):=λzS s σ H Q I h=>
 pairTrees_cons_walk (Ah (hk zS s σ H _ I h) λu J⟨x,H1,I1,M,Y⟩=>Ah (Z zS J σ H1 _ I1 Y) λw2 G⟨y,H2,I2,L,U⟩=>Ah (hr zS G σ H2 _ I2 U) λws s3⟨ps,H3,I3,B,O⟩=>#[(x,y)::ps,H3,I3,.cons #[M,L] B,O])
def gN(zT i:List (bX×V)):List (bX×V):=i.foldl (λB F=>cJ B F.1 F.2) zT
def KV.merge:∀{i:List (bX×V)}{rs:List (bX×Value)}{zT:List (bX×V)}{vs:List (bX×Value)},KV i rs->KV zT vs->KV (gN zT i) (merged vs rs):=by
 intro i rs zT vs r;induction r generalizing zT vs with
 |nil=>intro q;show q
 |@cons p q ps G h t F=>
  intro B;let e:KV (cJ zT p.1 p.2) (stored vs q.1 q.2):=by let:=B.put p.1 h.2;rw[<-h.1];show this
  show F e
def LU:∀(i zT:List (bX×V)),(gN zT i).length<=zT.length+i.length
 |[],zT=>by show zT.length<=zT.length+0;lia
 |p::r,zT=>by let h1:=LU r (cJ zT p.1 p.2);let h2:=DZ zT p.1 p.2;show(gN (cJ zT p.1 p.2) r).length<=_;rw[qr];lia
def LA:∀{zT:List (bX×V)}{i:List (Value×Value)},VV (zT.map λB=>(kV B.1,B.2)) i->∃rs,Carries (aS P w) i rs/\KV zT rs
 |[],_,r=>by rw[map_nil]at r;cases r;show#[[],True.intro,.nil]
 |p::zT,_,r=>by
  cases r with
  |@cons a b I bs h t=>let#[rs,c,q]:=LA (P:=P) (w:=w) t;let#[G,F]:=b;show#[(p.1,F)::rs,#[Cy h.1,rfl,c],.cons #[rfl,h.2] q]
def yQ(i:List (TE×TE)):TE:=λσ H Q=>∀p,H p=none->jZ i σ (upd H p (.dK [])) λps H2=>H2 p=⇑(.dK [])/\∃zT:List (bX×V),ps=zT.map (λB=>(kV B.1,B.2))/\zT.length<=15/\Q (.ref p) (upd H2 p (.dK (gN [] zT)))
def Pu(h:fo X pos keys values G)(B:keys.all (·.isSome)=true)(hl:keys.length=values.length)(h0:keys≠[])
  (L:keys.length<=15):PE X (.Dict keys values pos) (yQ G):=by
 intro zS s σ H Q I q;let hn:=I.hok.fresh (q8 s.heap.objs.size);let I1:=I.laid (a:=s.heap.objs.size) (o:=.dK []) (h':=s.heap.push {cls:=.type "dict",data:=.dict #[]}) (t':=s.toks) (λ_ _ q=>qc _ q) (q8 _) (JJ s.heap I.big);show wpAny_Dict_walk (knd:=aS X.prog X.w) B hl h0 L (Ah (h zS _ σ _ _ I1 (q _ hn)) λws s2 O=>?_);let#[ps,H2,M,J,e,i,ep,lk,q2]:=O;subst ep;let#[Y,c,Z]:=LA (P:=X.prog) (w:=X.w) J;let#[z,hd,U,r0,dd]:=FB M.hok e;cases r0;show#[Y,c,dd,λh' F hs=>#[.ref s.heap.objs.size,_,?_,rfl,q2]];let hz:(gN [] i).length<=sizeLine:=by let h1:=LU i [];rw[qv]at h1;rw[zk];lia
 let he:∃q,h'.get? s.heap.objs.size=⇑q:=let⟨q,_,_,hq,_⟩:=F;#[q,hq]
 show DA M (by rw[e];show True.intro) hs he (FD hz hd (Z.merge .nil) F)
end L2
namespace HT
open PySem PyProof.Rows
def lexLt:List Int->List Int->Bool
 |[],[]=>false
 |[],_::_=>true
 |_::_,[]=>false
 |x::xs,y::ys=>if x=y then lexLt xs ys else ↥(x<y)
def tK(x y:Int)(xs ys:List Int):lexLt (x::xs) (y::ys)=if x=y then lexLt xs ys else ↥(x<y):=rfl
theorem cat_tup(ht:IsTup s.heap t vs.toArray)(hb:IsTup s.heap b i.toArray)(Y:vs≠[])
  (h1:i=[]->Q (.ref t) s)(h2:i≠[]->Q (.ref s.heap.objs.size) {s with heap:=s.heap.push {cls:=.type "tuple",data:=.seq (vs++i).toArray}})
  (hsz:vs.length+i.length<=sizeLine):wpAny (model prog w) A (binaryOp .Add (.ref t) (.ref b)) Q E s:=by
 let#[#[cls,Z,data,O],J,hc,n,hd]:=id ht;let#[#[h3,G,data2,F],B,M,U,L]:=id hb;subst hc hd M L;let e:vs.toArray++i.toArray=(vs++i).toArray:=by simp
 by_cases I:i=[]
 .exact concat_meets #[_,J,rfl] #[_,B,rfl] noFill_tuple_add seq_tuple_add PySem.F.slot_tuple_add PySem.F.entry_tuple_add (PySem.F.args_tuple_add_2 _ _)
   (tuple_addW1 t b vs.toArray i.toArray n U Z G O F ↑Y (by simp[I])) #[J,B,h1 I]
 .refine concat_meets #[_,J,rfl] #[_,B,rfl] noFill_tuple_add seq_tuple_add PySem.F.slot_tuple_add PySem.F.entry_tuple_add (PySem.F.args_tuple_add_2 _ _)
   (tuple_addW2 t b vs.toArray i.toArray n U Z G O F ↑Y ↑I (by rw[qq];show hsz)) #[J,B,?_]
  rw[e];show h2 I
def sIx(n d:Nat):Option Int->Nat
 |none=>d
 |some v=>if v<0 then(v+(n:Int)).toNat else min v.toNat n
theorem sIx_le(n d:Nat)(B:d<=n)(o:Option Int):sIx n d o<=n:=by
 cases o with
 |none=>show B
 |some v=>
  show(if v<0 then(v+(n:Int)).toNat else min v.toNat n)<=n;by_cases i:v<0
  .rw[qZ i];lia
  .rw[q5 i];show min_le_right _ _
def IJ(v:Int)(n d:Nat):(if v<0 then max (v+(n:Int)) 0 else min v (n:Int))=((sIx n d ⇑v:Nat):Int):=by show(if v<0 then max (v+(n:Int)) 0 else min v (n:Int))=(((if v<0 then(v+(n:Int)).toNat else min v.toNat n):Nat):Int);grind
def Ua(lo hi:Option Int)(n:Nat):Builtin.Slice.sliceAdjust lo hi 1 (n:Int)=(((sIx n 0 lo:Nat):Int),((sIx n n hi:Nat):Int)):=by
 let h1:¬((1:Int)<0):=∅
 unfold Builtin.Slice.sliceAdjust;show Prod.ext ?_ ?_
 .cases lo with
  |none=>rfl
  |some v=>show IJ v n 0
 .cases hi with
  |none=>rfl
  |some v=>show IJ v n n
def Tp(i j:Nat):Builtin.Slice.slicePlaces (i:Int) (j:Int) 1=j-i:=by
 unfold Builtin.Slice.slicePlaces;let h1:(1:Int)>0:=∅
 split<;>lia
def LJ(p:IsPart v o)(h:Q o s):wpAny (model prog w) A (Builtin.Slice.slicePartIndex v) Q E s:=by
 cases p with
 |none=>show slicePart_none h
 |int i t=>show slicePart_int h
theorem sliceApplied_gen{lo hi:Option Int}{n:Nat}(M:s.heap.IsSliceOf I G F .none)(L:IsPart G lo)(J:IsPart F hi)
  (h:Q (((sIx n 0 lo:Nat):Int),1,sIx n n hi-sIx n 0 lo) s):wpAny (model prog w) A (Builtin.Slice.sliceApplied (.ref I) (pure (n:Int))) Q E s:=by
 let#[os,i,O,B]:=id M;show qa (qa (zc i B (x:=G) rfl (qa (zc i B (x:=F) rfl (qa (zc i B (x:=.none) rfl (qb ?_)))))));show qa (slicePart_none ?_);show qa (LJ L (qa (LJ J (qa (qb ?_)))));show wpAny _ _ (match Builtin.Slice.sliceAdjust lo hi 1 (n:Int)with|(lo,hi)=>pure (lo,(1:Int),Builtin.Slice.slicePlaces lo hi 1)) _ _ s;rw[Ua lo hi n];show wpAny _ _ (pure (((sIx n 0 lo:Nat):Int),(1:Int),Builtin.Slice.slicePlaces ((sIx n 0 lo:Nat):Int) ((sIx n n hi:Nat):Int) 1)) _ _ s;rw[Tp];show qb h
def Qt(xs:Array Value)(i k:Nat):((List.range k).filterMap λ(m:Nat)=>xs[((i:Int)+(m:Int)*1).toNat]?).toArray=((xs.toList.drop i).take k).toArray:=by
 have e:(λ(m:Nat)=>xs[((i:Int)+(m:Int)*1).toNat]?)=λm=>xs[i+m]?:=by
  funext m
  let:((i:Int)+(m:Int)*1).toNat=i+m:=∅
  rw[this]
 rw[e];let:=pick_run xs i k;rw[List.filterMap_map]at this;let B:((λx=>xs[x]?)∘λx=>i+x)=λm=>xs[i+m]?:=rfl;rw[B]at this;rw[this]
theorem getItem_tuple_cut{lo hi:Option Int}(B:IsTup s.heap t items)(M:s.heap.IsSliceOf L U O .none)(Z:IsPart U lo)(Y:IsPart O hi)
  (hw:¬(sIx items.size 0 lo=0/\sIx items.size items.size hi=items.size))
  (h:Q (.ref s.heap.objs.size) {s with heap:=s.heap.push {cls:=.type "tuple",data:=.seq ((items.toList.drop (sIx items.size 0 lo)).take (sIx items.size items.size hi-sIx items.size 0 lo)).toArray}})
  (hsz:items.size<=sizeLine):wpAny (model prog w) A (getItem (.ref t) (.ref L)) Q E s:=by
 let i:sizeOk (.seq ((items.toList.drop (sIx items.size 0 lo)).take (sIx items.size items.size hi-sIx items.size 0 lo)).toArray):=by show((items.toList.drop (sIx items.size 0 lo)).take (sIx items.size items.size hi-sIx items.size 0 lo)).toArray.size<=sizeLine;rw[qq,qG,qF];show le_trans (min_le_right ..) (le_trans (sub_le ..) hsz)
 let#[os,F,I,h1]:=id M;let J:s.TypeIs (.ref L) "slice":=#[os,F,I]
 unfold getItem;try with_reducible show zn ?_
 first|show qa (qb ?_)|skip
 refine qa (wpAny_sequenceKey B.typeIs ⋯ ?_);refine qa (wpAny_callSpecial?_slot (name:=Str.ofString "__getitem__") B.typeIs PyProof.Rows.slot_tuple_getitem
  (zj PyProof.Rows.slot_tuple_getitem B.typeIs entry_tuple_getitem ?_ (args_tuple_getitem _ _)))
 show wpAny _ _ (Builtin.Tuple.tupleItemsOf (.ref t)>>=_) _ _ s;show qa (tupleItemsOf_ B ?_);show qa (wpAny_typeOf J ?_);show qa (sliceApplied_gen M Z Y ?_);let G:¬((((sIx items.size 0 lo:Nat):Int)==0&&(1:Int)==1&&(sIx items.size items.size hi-sIx items.size 0 lo)==items.size)=true):=by grind
 show wpAny _ _ (if(((sIx items.size 0 lo:Nat):Int)==0&&(1:Int)==1&&(sIx items.size items.size hi-sIx items.size 0 lo)==items.size)=true then _ else _) _ _ s;rw[q5 G,Qt];first
  |show qa (m:=Builtin.Tuple.tupleExact _) (zi (qb ⟨_,rfl,qb h⟩) i)
  |show qa (m:=Builtin.Tuple.tupleExact _) (zi (qa (qb (qb ⟨_,rfl,qb h⟩))) i)
  |show qa (qa (m:=Builtin.Tuple.tupleExact _) (zi (qb (qb ⟨_,rfl,qb h⟩)) i))
  |show qa (qa (m:=Builtin.Tuple.tupleExact _) (zi (qb ⟨_,rfl,qb h⟩) i))
end HT
namespace L2
open PySem PySem.Spec PyProof.Rows
abbrev TO:=St->Hp->(Option Int->Hp->Prop)->Prop
@[inline]def PO(X:Cx)(e:Option Expr)(t:TO):Prop:=
 ∀(zS:List (Addr×Obj))(s:Shared)(σ:St)(H:Hp)(Q:Option Int->Hp->Prop),Inv X zS σ H s->t σ H Q->
  wpAny (model X.prog X.w) X.A (evalPart e X.env) (λu s'=>∃o H',Inv X zS σ H' s'/\IsPart u o/\Q o H') X.xe s
def pV:TO:=λ_ H Q=>Q none H
def yN(t:TE):TO:=λσ H Q=>t σ H λx H1=>∃i,x=.int i/\Q ⇑i H1
def DQ:∀{us:List Value},zP (ns.map V.int) us->IntsAre us ns:=by
 induction ns with
 |nil=>intro us r;rw[map_nil]at r;cases r;show .nil
 |cons n ns F=>
  intro us r;cases r with
  |cons B i=>let#[t,e]:=B;subst e;show .cons n t (F i)
section
variable{lo hi:Option Expr}
def JF:PO X none pV:=by intro zS s σ H Q I h;show qb #[none,H,I,.none,h]
def EN(h:PE X e te):PO X ⇑e (yN te):=by intro zS s σ H Q I J;show Ah (h zS s σ H _ I J) λu M B=>?_;let#[x,H1,L,F,G]:=B;let#[i,rfl,q]:=G;let#[t,rfl]:=F;show#[⇑i,H1,L,.int i t,q]
def mJ(X:Cx)(r:V->Option Int->Option Int->Hp->VK->Prop):Prop:=
 ∀(zS:List (Addr×Obj))(s:Shared)(σ:St)(H:Hp)(x:V)(v B i:Value)(lo hi:Option Int)(F:Addr)(Q:VK),Inv X zS σ H s->zH x v->s.heap.IsSliceOf F B i .none->IsPart B lo->IsPart i hi->r x lo hi H Q->
  ∃T id,typeLookup (.type T) "__getitem__"=pure ⇑(.builtin id)/\s.TypeIs v T/\wpAny (model X.prog X.w) X.A (getItem v (.ref F)) (EP X zS σ Q) X.xe s
def mJ.or(h:mJ X r)(h':mJ X O):mJ X (λx lo hi H Q=>r x lo hi H Q\/O x lo hi H Q):=by
 intro zS s σ H x v B i lo hi F Q I G M L J q;rcases q with q|q
 .show h zS s σ H x v B i lo hi F Q I G M L J q
 .show h' zS s σ H x v B i lo hi F Q I G M L J q
def ou(r:V->Option Int->Option Int->Hp->VK->Prop)(te:TE)(i B:TO):TE:=λσ H Q=>te σ H λx H1=>i σ H1 λl H2=>B σ H2 λu F=>r x l u F Q
def GP(hr:mJ X r)(he:PE X e te)(hl:PO X lo L)(hu:PO X hi M):PE X (.Subscript e (.Slice lo hi none p2) pos) (ou r te L M):=by intro zS s σ H Q I h;show Subscript_ (Ah (he zS s σ H _ I h) λv U B=>?_);let#[x,H1,I1,Y,q1]:=B;show wpAny_Slice (Ah (hl zS U σ H1 _ I1 q1) λG O⟨l,H2,I2,pl,q2⟩=>Ah (hu zS O σ H2 _ I2 q2) λF i B=>?_);let#[u,J,I3,pu,Z]:=B;show qb ?_;let I4:Inv X zS σ J {i with heap:=i.heap.push {cls:=.type "slice",data:=.fields [G,F,.none].toArray}}:=I3.kept (t':=i.toks) λb ob q=>qc _ q;let#[T,id,hT,ht,hg]:=hr zS {i with heap:=i.heap.push {cls:=.type "slice",data:=.fields [G,F,.none].toArray}} σ J x v G F l u i.heap.objs.size Q I4 Y (Heap.IsSliceOf.new ..) pl pu Z;show tail_any (ops:=[.ref i.heap.objs.size,v]) ht hT hg (by with_unfolding_all rfl)
def jI(xs:List V)(lo hi:Option Int):List V:=(xs.drop (HT.sIx xs.length 0 lo)).take (HT.sIx xs.length xs.length hi-HT.sIx xs.length 0 lo)
def Ls(xs:List V)(lo hi:Option Int):(jI xs lo hi).length<=xs.length:=by unfold jI;rw[qG,qF];show le_trans (min_le_right ..) (sub_le ..)
def yX(K:W.Frag):V->Option Int->Option Int->Hp->VK->Prop:=λx lo hi H Q=>∃a xs,x=.ref a/\bD K H a xs/\
 ¬(HT.sIx xs.length 0 lo=0/\HT.sIx xs.length xs.length hi=xs.length)/\∀p,H p=none->Q (.ref p) (upd H p (.tup (jI xs lo hi)))
def Mt:mJ X (yX X.K):=by
 intro zS s σ H x v vl Z lo hi sl Q I J Y M L h;let#[a,xs,rfl,O,U,q]:=h;cases J;let#[B,r,G,F]:=I.tuple O;let i:B.toArray.size=xs.length:=by rw[qq];show r.length.symm
 show#["tuple",_,PyProof.Rows.slot_tuple_getitem.lookup,G.typeIs,?_];show HT.getItem_tuple_cut G Y M L (by rw[i];show U) ?_ (by rw[i];show F);rw[i];show#[.ref s.heap.objs.size,_,I.laid (t':=s.toks) (o:=.tup (jI xs lo hi)) (λb ob q=>qc _ q) (q8 _) ?_,rfl,q _ (I.hok.fresh (q8 _))];show#[#[le_trans (Ls xs lo hi) F,iS.new rfl (qd _ rfl)],_,(r.drop (HT.sIx xs.length 0 lo)).take (HT.sIx xs.length xs.length hi-HT.sIx xs.length 0 lo),IsTup.new _ _]
def ao(K:W.Frag):R2:=λx y H Q=>∃a b xs ys,x=.ref a/\y=.ref b/\bD K H a xs/\bD K H b ys/\xs≠[]/\xs.length+ys.length<=sizeLine/\
 (ys=[]->Q (.ref a) H)/\(ys≠[]->∀p,H p=none->Q (.ref p) (upd H p (.tup (xs++ys))))
def zP.nil_iff(r:zP xs us):us=[]↔xs=[]:=by
 cases r with
 |nil=>simp
 |cons _ _=>simp
def OH:OpR X (binaryOp .Add) (ao X.K):=by intro zS s σ H x y v u Q I L J h;let#[a,b,xs,ys,rfl,rfl,ha,hb,hx,G,O,M]:=h;cases L;cases J;let#[Z,B,Y,_]:=I.tuple ha;let#[F,i,U,_]:=I.tuple hb;show HT.cat_tup Y U (λz=>hx (B.nil_iff.mp z)) (λz=>#[.ref a,H,I,rfl,O (i.nil_iff.mp z)]) (λz=>?_) (by rw[<-B.length,<-i.length];show G);show#[.ref s.heap.objs.size,_,I.laid (t':=s.toks) (o:=.tup (xs++ys)) (λb ob q=>qc _ q) (q8 _) ?_,rfl,M (λw=>z (i.nil_iff.mpr w)) _ (I.hok.fresh (q8 _))];show#[#[by rw[qp];show G,iS.new rfl (qd _ rfl)],_,B.append i,IsTup.new _ _]
end
def ixN(n:Nat)(i:Int):Option Nat:=if 0<=i then(if i<n then ⇑i.toNat else none)else if -(n:Int)<=i then ⇑(i+n).toNat else none
def atI{α:Type}(xs:List α)(i:Int):Option α:=(ixN xs.length i).bind λj=>xs[j]?
def Gm(h:ixN n i=⇑j):seqIndex? i n=⇑j/\j<n/\-(n:Int)<=i/\i<n:=by
 unfold ixN at h;by_cases B:0<=i
 .rw[qZ B]at h;by_cases h1:i<n
  .rw[qZ h1]at h;let e:i.toNat=j:=qf h;show#[by rw[seqIndex_of B h1,e],∅,∅,h1]
  .rw[q5 h1]at h;cases h
 .rw[q5 B]at h;by_cases h1:-(n:Int)<=i
  .rw[qZ h1]at h;let e:(i+n).toNat=j:=qf h;show#[by rw[seqIndex_neg ∅ h1,e],∅,h1,∅]
  .rw[q5 h1]at h;cases h
def Gi(h:atI xs i=⇑v):∃j,seqIndex? i xs.length=⇑j/\xs[j]?=⇑v/\j<xs.length/\-(xs.length:Int)<=i/\i<xs.length:=by
 unfold atI at h;cases e:ixN xs.length i with
 |none=>rw[e]at h;cases h
 |some j=>rw[e]at h;let#[h1,h2,F,B]:=Gm e;show#[j,h1,h,h2,F,B]
def JP(xs:List α)(v:α):atI (xs++[v]) (-1)=⇑v:=by
 let i:(xs++[v]).length=xs.length+1:=by simp
 let e:ixN (xs++[v]).length (-1)=⇑xs.length:=by unfold ixN;rw[i,q5 ⋯,qZ ∅];congr 1;lia
 unfold atI;rw[e];simp
def eY(b:Expr):Prop:=∀o i,subscripted b false o i=operate [o,i] (getItem o i)
def oP(X:Cx)(r:R2):Prop:=
 ∀(B i:Expr)(zS:List (Addr×Obj))(s:Shared)(σ:St)(H:Hp)(x y:V)(v u:Value)(Q:VK),Inv X zS σ H s->zH x v->zH y u->r x y H Q->
  subscripted i false v u=operate [v,u] (getItem v u)->wpAny (model X.prog X.w) X.A (subscriptTail B i v u) (EP X zS σ Q) X.xe s
def ny(X:Cx)(id:String)(r:V->List V->Hp->VK->Prop):Prop:=
 ∀(zS:List (Addr×Obj))(s:Shared)(σ:St)(H:Hp)(x:V)(xs:List V)(v:Value)(us:List Value)(Q:VK),Inv X zS σ H s->zH x v->zP xs us->r x xs H Q->
  wpAny (model X.prog X.w) X.A (call (.builtin id) (v::us)) (EP X zS σ Q) X.xe s
section
def oP.or(h:oP X r)(h':oP X L):oP X (λx y H Q=>r x y H Q\/L x y H Q):=by
 intro i B zS s σ H x y v u Q I G F q J;rcases q with q|q
 .show h i B zS s σ H x y v u Q I G F q J
 .show h' i B zS s σ H x y v u Q I G F q J
def Ey(J:oP X r)(M:PE X a ta)(L:PE X b tb)(G:eY b):PE X (.Subscript a b pos) (dz r ta tb):=by intro zS s σ H Q I h;show Subscript_ (CU M L I h λv u i x y H2 O F B q=>J a b zS i σ H2 x y v u Q O F B q (G _ _))
def ah(K:W.Frag):R2:=λx y H Q=>∃p xs i v,x=.ref p/\y=.int i/\bJ K H p xs/\atI xs i=⇑v/\Q v H
def ae(K:W.Frag):R2:=λx y H Q=>∃p xs i v,x=.ref p/\y=.int i/\bD K H p xs/\atI xs i=⇑v/\Q v H
def ag:R2:=λx y H Q=>∃z i c,x=.str z/\y=.int i/\z.length<=sizeLine/\atI z.cps.toList i=⇑c/\Q (.str #[[c].toArray]) H
theorem znA:oP X (ah X.K):=by
 intro F G zS s σ H x y v u Q I rx ry h U;let#[p,xs,i,z,rfl,rfl,hq,he,q]:=h;cases rx;let#[t,rfl]:=ry;let#[M,r,L,hz]:=I.list hq;let#[j,h1,h2,h3,h4,h5]:=Gi he;let#[w,Z,J]:=r.get h2;let hl:=r.length;let hn:=AD;let B:EP X zS σ Q w s:=#[z,H,I,J,q]
 by_cases Y:0<=i
 .let O:i.toNat=j:=by rw[seqIndex_of Y h5]at h1;exact qf h1
  show item_listR L.isList Y ∅ (by rw[O];simpa using Z) B U
 .have O:(i+(M.toArray.size:Int)).toNat=j:=by rw[seqIndex_neg ∅ h4]at h1;rw[qq,<-hl];exact qf h1
  exact subscriptTail_builtinR (x:=w) L.isList.typeIs slot_list_getitem.lookup
   (wpAny_getItem_list_neg (Q:=λr s'=>r=w/\EP X zS σ Q r s') L.isList ∅ (by rw[qq]<;>lia) ∅ (by rw[O];simpa using Z) #[rfl,B]) U
theorem zo6:oP X (ae X.K):=by
 intro B F zS s σ H x y v u Q I O M h Y;let#[p,xs,i,z,rfl,rfl,Z,he,q]:=h;cases O;let#[t,rfl]:=M;let#[U,r,L,hz]:=I.tuple Z;let#[j,h1,h2,h3,h4,h5]:=Gi he;let#[w,ew,G]:=r.get h2;let hl:=r.length;let hn:=AD;let J:EP X zS σ Q w s:=#[z,H,I,G,q]
 exact subscriptTail_builtinR (x:=w) L.typeIs slot_tuple_getitem.lookup
  (getItem_tuple (j:=j) (Q:=λr s'=>r=w/\EP X zS σ Q r s') L ∅ ∅ (by rw[qq,<-hl];show h1) ↑ew #[rfl,J]) Y
def Ny:oP X ag:=by
 intro B F zS s σ H x y v u Q I J G h L;let#[z,i,c,rfl,rfl,hz,O,q]:=h;let#[t,rfl]:=J;let#[t',rfl]:=G;let#[j,h1,h2,h3,Y,U]:=Gi O;let M:z.cps.toList.length=z.length:=by simp[Str.length]
 rw[M]at h1 Y U;let hn:=AD;show tail_any (typeIs_str s z t) slot_str_getitem.lookup (getItem_str (c:=c) (by let e1:↥(i< -(2^63:Int))=false:=qR ∅;let Z:↥(i≥2^63)=false:=qR ∅;rw[e1,Z,Bool.or_false]) (by rw[h1];simpa using h2) #[.str #[[c].toArray],H,I.tok _,#[_,rfl],q]) L
def eh(K:W.Frag):R2:=λx y H Q=>ah K x y H Q\/ae K x y H Q\/ag x y H Q
def Ie:oP X (eh X.K):=znA.or (zo6.or Ny)
def Ub(i:List Value)(n j:Nat)(u:Value):Obj.mapSeq (·.setIfInBounds j u) {cls:=.type "list",data:=.seq i.toArray n}={cls:=.type "list",data:=.seq (i.set j u).toArray n}:=by simp[Obj.mapSeq]
def Inv.lst(I:Inv X zS σ H s)(h:H p=⇑(.lst xs)):
  ∃(i:List Value)(n:Nat),zP xs i/\s.heap.get? p=some {cls:=.type "list",data:=.seq i.toArray n}/\xs.length<=sizeLine:=by
 let#[z,i,n,r,e]:=I.hok p _ h;show#[i,n,r,e,z]
def Inv.lstUpd{i its':List Value}(I:Inv X zS σ H s)(h:H p=⇑(.lst xs))
  (G:s.heap.get? p=some {cls:=.type "list",data:=.seq i.toArray n})(F:f {cls:=.type "list",data:=.seq i.toArray n}={cls:=.type "list",data:=.seq its'.toArray B})(r:zP ys its')(hz:ys.length<=sizeLine)(t:Nat):
  Inv X zS σ (upd H p (.lst ys)) {s with heap:=s.heap.update p f,toks:=t}:=by
 let e:(s.heap.update p f).get? p=some {cls:=.type "list",data:=.seq its'.toArray B}:=by rw[zb f G (by rw[F]<;>rfl),F]
 show I.write (x:=p) (e:=p) (by rw[h];trivial) (.inl rfl) (λb u J q=>(q9 _ _ (Ne.symm J)).trans q) #[_,e] ?_;show#[hz,its',B,r,e]
def zY:V->V->V->Hp->(Hp->Prop)->Prop:=λo i v H Q=>∃p xs k j,o=.ref p/\i=.int k/\H p=⇑(.lst xs)/\ixN xs.length k=⇑j/\Q (upd H p (.lst (xs.set j v)))
def QS:cq X zY:=by
 intro zS s σ H o i v ov iv u Q I ro ri Z h;let#[p,xs,k,j,rfl,rfl,L,hj,q]:=h;cases ro;let#[t,rfl]:=ri;let#[B,n,r,F,hz]:=I.lst L;let#[h1,h2,O,M]:=Gm hj;let G:=r.length;let hn:=AD;let Y:Inv X zS σ (upd H p (.lst (xs.set j v))) {s with heap:=s.heap.update p (Obj.mapSeq (·.setIfInBounds j u))}:=
  I.lstUpd L F (Ub B n j u) (r.set Z j) (by rw[List.length_set];show hz) s.toks
 by_cases U:0<=k
 .let J:k.toNat=j:=by rw[seqIndex_of U M]at h1;exact qf h1
  show W.ki_setAt F U ∅ (by rw[qq,<-G];show M) (by rw[J];show#[_,Y,q])
 .let J:(k+(B.toArray.size:Int)).toNat=j:=by rw[seqIndex_neg ∅ O]at h1;rw[qq,<-G];exact qf h1
  show W.ki_setBack F ∅ (by rw[qq,<-G];show O) ∅ (by rw[J];show#[_,Y,q])
def Vm(lo hi:Option Int)(n:Nat):(sliceBounds lo hi none n).1=((HT.sIx n 0 lo:Nat):Int)/\(sliceBounds lo hi none n).2.1=((HT.sIx n n hi:Nat):Int)/\(sliceBounds lo hi none n).2.2=1:=by
 let B:∀(i:Int)(n d:Nat),max 0 (min (if i<0 then i+(n:Int)else i) (n:Int))=((HT.sIx n d ⇑i:Nat):Int):=λi n _=>Cw i n;show#[?_,?_,rfl]
 .cases lo with
  |none=>rfl
  |some i=>show B i n 0
 .cases hi with
  |none=>rfl
  |some i=>show B i n n
def Vg(i:List Value)(lo hi:Option Int):slicePick i.toArray lo hi none=((i.drop (HT.sIx i.length 0 lo)).take (HT.sIx i.length i.length hi-HT.sIx i.length 0 lo)).toArray:=by let#[h1,h2,B]:=Vm lo hi i.toArray.size;unfold slicePick;rw[h1,h2,B];simp only[sliceRange_one,pick_run]<;>rfl
def yZ(K:W.Frag):V->Option Int->Option Int->Hp->VK->Prop:=λx lo hi H Q=>∃a xs,x=.ref a/\bJ K H a xs/\∀p,H p=none->Q (.ref p) (upd H p (.lst (jI xs lo hi)))
def PM:mJ X (yZ X.K):=by intro zS s σ H x v Z Y lo hi sl Q I F U J G h;let#[a,xs,rfl,O,q]:=h;cases F;let#[L,r,B,M]:=I.list O;let i:=r.length;show#["list",_,slot_list_getitem.lookup,B.isList.typeIs,?_];show wpAny_getItem_list_slice B.isList U J G .none (by simp) ?_ (by rw[qq]<;>lia);rw[Vg,<-i];show#[.ref s.heap.objs.size,_,I.laid (t':=s.toks) (o:=.lst (jI xs lo hi)) (λb ob q=>qc _ q) (q8 _) ?_,rfl,q _ (I.hok.fresh (q8 _))];show#[le_trans (Ls xs lo hi) M,_,0,(r.drop (HT.sIx xs.length 0 lo)).take (HT.sIx xs.length xs.length hi-HT.sIx xs.length 0 lo),qd _ rfl]
def Vq:aW X (.builtin "len") (λxs H Q=>∃p ys,xs=[.ref p]/\(bJ X.K H p ys\/bD X.K H p ys)/\Q (.int ys.length) H):=by
 intro zS s σ H xs O Q I r h;let#[p,ys,rfl,B,q]:=h;let#[u,rfl,L]:=vals1 r;cases L;let U:=AD;rcases B with B|B
 .obtain⟨J,F,G,M⟩:=I.list B;let i:=F.length;show Calls.call_len_list G.isList (by simp<;>lia) #[.int ys.length,H,I.tok _,#[s.toks+1,by rw[qq,i]],q]
 .obtain⟨J,F,G,M⟩:=I.tuple B;let i:=F.length;show len_tuple G (by simp<;>lia) #[.int ys.length,H,I.tok _,#[s.toks+1,by rw[qq,i]],q]
def Vn:aW X (.builtin "len") (λxs H Q=>∃z,xs=[.str z]/\z.length<=sizeLine/\Q (.int z.length) H):=by intro zS s σ H xs i Q I r h;let#[z,rfl,B,q]:=h;let#[u,rfl,t,rfl]:=vals1 r;let F:=AD;show len_str ∅ #[.int z.length,H,I.tok _,#[_,rfl],q]
def Vo:aW X (.type "list") (λxs H Q=>∃p ys,xs=[.ref p]/\(bJ X.K H p ys\/bD X.K H p ys)/\∀l,H l=none->Q (.ref l) (upd H l (.lst ys))):=by
 intro zS s σ H xs us Q I r h;let#[p,ys,rfl,L,q]:=h;let#[u,rfl,rx]:=vals1 r;cases rx;let O:∀(i:List Value),zP ys i->ys.length<=sizeLine->∀(h':Heap)(F:Nat),(∀b o',s.heap.get? b=⇑o'->h'.get? b=⇑o')->
   h'.get? s.heap.objs.size=some {cls:=.type "list",dict:=none,data:=.seq i.toArray F,slots:=#[]}->EP X zS σ Q (.ref s.heap.objs.size) {s with heap:=h'}:=λi B J h' F G e=>
  #[.ref s.heap.objs.size,_,I.laid (t':=s.toks) G (q8 _) (show zR X.prog X.w _ h' _ (.lst ys) from#[J,i,F,B,e]),rfl,q _ (I.hok.fresh (q8 _))]
 rcases L with L|L
 .obtain⟨i,B,U,J⟩:=I.list L;let M:=B.length;let#[o,Y,hc,n,Z]:=U.isList;show call_list_seq p (.inl rfl) Y hc Z (λh' F G e=>O i B J h' F G e) (by simp<;>lia)
 .obtain⟨i,B,U,J⟩:=I.tuple L;let M:=B.length;let#[o,Y,hc,n,Z]:=U;show call_list_seq p (.inr rfl) Y hc Z (λh' F G e=>O i B J h' F G e) (by simp<;>lia)
def Vk:aW X (.type "tuple") (λxs H Q=>∃p ys,xs=[.ref p]/\((bJ X.K H p ys/\∀l,H l=none->Q (.ref l) (upd H l (.tup ys)))\/(bD X.K H p ys/\Q (.ref p) H))):=by
 intro zS s σ H xs Z Q I r h;let#[p,ys,rfl,h]:=h;let#[u,rfl,O]:=vals1 r;cases O;rcases h with⟨G,q⟩|⟨G,q⟩
 .obtain⟨i,B,F,J⟩:=I.list G;let L:=B.length;show call_tuple_list F.isList (λh' U=>?_) (by simp<;>lia);let M:Inv X zS σ H {s with heap:=h'}:=I.kept (t':=s.toks) U;let Y:Inv X zS σ (upd H h'.objs.size (.tup ys)) {s with heap:=h'.push {cls:=.type "tuple",data:=.seq i.toArray}}:=
   M.laid (t':=s.toks) (λb o e=>qc _ e) (q8 _) (show zR X.prog X.w _ _ _ (.tup ys) from#[#[J,iS.new rfl (qd _ rfl)],i,B,IsTup.new _ _])
  show#[.ref h'.objs.size,_,Y,rfl,q _ (M.hok.fresh (q8 _))]
 .obtain⟨i,B,F,J⟩:=I.tuple G;show call_tuple_same F #[.ref p,H,I,rfl,q]
def ma(K:W.Frag)(T:String)(x:V)(H:Hp):Prop:=match x with
 |.str _=>T="str"
 |.int _=>T="int"
 |.ref p=>(T="list"/\∃xs,bJ K H p xs)\/(T="tuple"/\∃o,K.lookup p=⇑o/\o.cls=.type "tuple"/\o.dict=none)\/
  (T="dict"/\((∃zT,H p=⇑(.dK zT))\/∃zT,H p=⇑(.dT zT)))
 |_=>False
def NG(I:Inv X zS σ H s)(r:zH x v)(F:ma X.K T x H):
  s.TypeIs v T/\∀a,v=.ref a->∃M,s.heap.get? a=⇑M/\M.dict=none:=by
 cases x with
 |str z=>let#[t,rfl]:=r;cases(show T="str" from F);show#[typeIs_str s z t,λ_ e=>nomatch e]
 |int i=>let#[t,rfl]:=r;cases(show T="int" from F);show#[typeIs_int s i t,λ_ e=>nomatch e]
 |ref p=>
  cases r;rcases F with⟨rfl,xs,U⟩|⟨rfl,o,B,Y,J⟩|⟨rfl,B⟩
  .obtain⟨O,_,L,_⟩:=I.list U;show#[L.isList.typeIs,λa e=>?_];cases e;let#[o,n,e,c,J,_]:=L;show#[o,e,J]
  .show#[#[o,I.kIn p o B,Y],λa e=>?_];cases e;show#[o,I.kIn _ o B,J]
  .have z:∃o,s.heap.get? p=⇑o/\o.ExactDict:=by
    rcases B with⟨G,B⟩|⟨G,B⟩
    .obtain⟨_,_,_,_,o,_,_,e,ex,_⟩:=I.hok p _ B;show#[o,e,ex]
    .obtain⟨_,_,_,_,o,_,_,e,ex,_⟩:=I.hok p _ B;show#[o,e,ex]
   let#[o,e,ex]:=z;show#[#[o,e,ex.1],λa Z=>?_];cases Z;show#[o,e,ex.2.1]
 |_=>show False.elim F
def oy(K:W.Frag)(T:String)(r:V->List V->Hp->VK->Prop)(i:TE)(t:TA):TE:=λσ H Q=>i σ H λx H1=>ma K T x H1/\t σ H1 λxs H2=>r x xs H2 Q
variable{T id:String}
def Dt(pa:PlainAttrs T)(slot:Slot T name id)(J:typeOf (.builtin id)=pure (.type "method_descriptor"))(hm:ny X id r)(ho:PE X o to)(ha:PA X (e::es) t)
  (F:autoParam (attributeBase o name X.env (eval o X.env)=eval o X.env) rZ9)
  (G:autoParam (((backTo cpos (starEach (e::es) X.env)).all (λx=>!x.1)&&(backToKw cpos (keywordEach [] X.env)).all (λx=>x.1.isSome)
   &&↥((e::es).length+([]:List Keyword).length+(if([]:List Keyword).isEmpty then 0 else 1)<30))=true) rZ9)
  (B:autoParam ((apos.endLine==cpos.line)=true) rZ9)(hs:autoParam (starEach (e::es) X.env=(false,eval e X.env)::starEach es X.env) rZ9)(i:autoParam ((backTo cpos (starEach es X.env)).any (·.1)=false) rZ9):
  PE X (.Call (.Attribute o name apos) (e::es) [] cpos) (oy X.K T r to t):=by
 intro zS s σ H Q I h;show wpAny_Call_method_late F G B rfl (Ah (ho zS s σ H _ I h) λv s1 U=>?_);let#[x,H1,O,L,Z,q1]:=U;let#[h1,h2]:=NG O L Z;show#[T,id,pa,slot,J,h1,h2,?_];let M:=ha cpos zS s1 σ H1 _ O q1;rw[hs]at M⊢;show Calls.callWith_builtin (by show(false||(backTo cpos (starEach es X.env)).any (·.1))=false;rw[i]<;>rfl) (Calls.evalArgs_plain ?_);show Ah M λY s2⟨vs,H2,I2,r2,q2⟩=>hm zS s2 σ H2 x vs v Y Q I2 L r2 q2
end
def xY(X:Cx)(id:String)(r:V->List V->Hp->VK->Prop):Prop:=
 ∀(zS:List (Addr×Obj))(s:Shared)(σ:St)(H:Hp)(x:V)(xs:List V)(v:Value)(us:List Value)(Q:VK),Inv X zS σ H s->zH x v->zP xs us->r x xs H Q->
  wpAny (model X.prog X.w) X.A (call (.builtin id) (v::us)) (EP X zS σ Q) X.xe s
def zP.one:∀{x:V}{us:List Value},zP [x] us->∃u,us=[u]/\zH x u:=by
 intro x us h;cases h with
 |cons r t=>cases t;show#[_,rfl,r]
def zP.eraseIdx:∀{xs:List V}{us:List Value}(i:Nat),zP xs us->zP (xs.eraseIdx i) (us.eraseIdx i)
 |_,_,_,.nil=>.nil
 |_,_,0,.cons _ t=>t
 |_,_,i+1,.cons r t=>.cons r (zP.eraseIdx i t)
def zP.rep(h:zP xs us):∀k:Nat,zP (List.replicate k xs).flatten (List.replicate k us).flatten
 |0=>.nil
 |k+1=>by show zP.append h (zP.rep h k)
def Lb{α:Type}:∀(l:List α)(i:Nat),(l.eraseIdx i).length<=l.length
 |[],_=>q8 _
 |_::_,0=>le_succ _
 |_::r,i+1=>Nat.succ_le_succ (Lb r i)
def GG(i:List Value):∀(k:Nat)(B:List Value),
  List.foldl (λG F=>G++F) B.toArray (List.replicate k i.toArray)=(B++(List.replicate k i).flatten).toArray
 |0,B=>by simp
 |k+1,B=>by
  let e:B.toArray++i.toArray=(B++i).toArray:=by simp
  let I:(B++i)++(List.replicate k i).flatten=B++(List.replicate (k+1) i).flatten:=by rw[replicate_succ,flatten_cons,qo]
  rw[<-I,<-GG i k (B++i),<-e,replicate_succ,List.foldl_cons]
def Inv.lset{i its':List Value}(I:Inv X zS σ H s)(L:H l=⇑(.lst xs))
  (e:s.heap.get? l=some {cls:=.type "list",data:=.seq i.toArray n})(G:f i.toArray=its'.toArray)(B:zP ys its')(hz:ys.length<=sizeLine):
  Inv X zS σ (upd H l (.lst ys)) {s with heap:=s.heap.update l (Obj.mapSeq f),toks:=t'}:=by
 let q:=PySem.IsL.update e f;rw[G]at q;show I.write (x:=l) (e:=l) (by rw[L];show trivial) (.inl rfl) (λM u J F=>(q9 s.heap (Obj.mapSeq f) (Ne.symm J)).trans F) #[_,q] ?_;show#[hz,its',_,B,q]
def Inv.lnew(I:Inv X zS σ H s)(B:zP ys i)(hz:ys.length<=sizeLine):
  Inv X zS σ (upd H s.heap.objs.size (.lst ys)) {s with heap:=s.heap.push {cls:=.type "list",data:=.seq i.toArray},toks:=t'}:=
 I.laid (λ_ _ q=>qc _ q) (q8 _) #[hz,i,0,B,qd _ rfl]
def Inv.fresh(I:Inv X zS σ H s):H s.heap.objs.size=none:=I.hok.fresh (q8 _)
def Inv.lstM(I:Inv X zS σ H s)(B:H l=⇑(.lst xs)):xs.length<=sizeLine/\∃(i:List Value)(n:Nat),zP xs i/\xs.length=i.length/\s.heap.get? l=some {cls:=.type "list",data:=.seq i.toArray n}:=by let#[z,i,n,r,e]:=I.hok l _ B;show#[z,i,n,r,r.length,e]
def BG(h:n<=sizeLine):Builtin.List.listTooLong n=false:=by grind[Builtin.List.listTooLong]
def rB:V->List V->Hp->VK->Prop:=λx vs H Q=>∃l xs y,x=.ref l/\vs=[y]/\H l=⇑(.lst xs)/\xs.length<sizeLine/\Q .non (upd H l (.lst (xs++[y])))
def GJ:xY X "list.append" rB:=by intro zS s σ H x vs v M Q I G J h;let#[l,xs,y,rfl,rfl,B,O,q]:=h;cases G;let#[u,rfl,L]:=J.one;let#[z,i,n,r,U,e]:=I.lstM B;show call_meets F.slot_list_append #[_,e,rfl] F.entry_list_append (F.args_list_append_2 _ _) (PySem.list_append l i.toArray n u (by rw[qq];lia)) #[e,?_];show#[.non,_,I.lset (its':=i++[u]) B e (by simp) (r.append (.cons L .nil)) ?_,rfl,q];rw[qp,qB];lia
def uZ:V->List V->Hp->VK->Prop:=λx vs H Q=>∃l xs i k y,x=.ref l/\vs=[.int i]/\H l=⇑(.lst xs)/\-(2^63)<=i/\i<2^63/\seqIndex? i xs.length=⇑k/\xs[k]?=⇑y/\Q y (upd H l (.lst (xs.eraseIdx k)))
def PU:xY X "list.pop" uZ:=by
 intro zS s σ H x vs v us Q I L M h;let#[l,xs,i,k,y,rfl,rfl,J,h1,h2,hk,U,q]:=h;cases L;let#[u,rfl,O]:=M.one;let#[t,rfl]:=O;let#[z,B,n,r,Z,e]:=I.lstM J;let#[w,Y,G]:=r.get U;refine call_meets F.slot_list_pop #[_,e,rfl] F.entry_list_pop (F.args_list_pop_2 _ _)
  (MeetsSeq.list_pop_at l B.toArray n i t k w (fitsIndex_both h1 h2) (by rw[qq,<-Z];show hk) (by rw[<-qY];show Y) (by rw[qq];lia)) #[e,?_]
 show#[y,_,I.lset (its':=B.eraseIdx k) J e ?_ (r.eraseIdx k) ?_,G,q]
 .show B.toArray.eraseIdxIfInBounds k=(B.eraseIdx k).toArray;rw[List.eraseIdxIfInBounds_toArray]
 .let:=Lb xs k;lia
def Js{α:Type}(xs:List α)(k:Nat):(List.replicate k xs).flatten.length=k*xs.length:=by
 induction k with
 |zero=>simp
 |succ k i=>rw[replicate_succ,flatten_cons,qp,i,succ_mul,add_comm]
end L2
namespace Att
open PySem PySem.W PySem.Calls PyProof.Rows
def Vz:∀(ns:List Int)(vs:List Value),WellAll P h vs (ns.map WData.int)->IntsAre vs ns:=by
 intro ns;induction ns with
 |nil=>intro vs w;cases w;show .nil
 |cons n ns i=>
  intro vs w;cases w with
  |cons a b=>cases a;show .cons _ _ (i _ b)
def Si{l:OpenLaw}(hn:l.most=⇑n)
  (i:l.row.toRowW.claim.pre args=true)(I:WellAll P h vals args):
  ∃a vs ns,vals=[Value.ref a]/\args=[WData.list (ns.map WData.int)]/\h.get? a=some {cls:=.type "list",data:=.seq vs.toArray}/\IntsAre vs ns/\ns.length<=n:=by
 have J:WShape.hasAll [] args [.list .int]=true:=(pre_splitW i).1;let U:l.pre.holds [] {args:=args}=true:=(pre_splitW i).2;let#[d,r,rfl,h1,h2]:=hasAllW_cons J;obtain rfl:=hasAllW_nil h2;let#[xs,rfl,Y]:=hasW_list h1;let#[ns,rfl]:=items_int Y;let B:ns.length<=n:=by
  let G:(WTm.not (.lt (.lit (.int (n:Int))) (.len (.arg 0)))).holds [] {args:=[.list (ns.map .int)]}=true:=by let G:=(holds_andW U).1;rw[hn]at G;show G
  let Z:=condW_of G (w_not (w_lt w_lit (w_len_list (w_arg rfl))));grind
 cases I with
 |cons M L=>
  cases L;cases M with
  |list O F=>show#[_,_,ns,rfl,rfl,O,Vz ns _ F,B]
def SU(l:OpenLaw)(args:List WData):l.row.toRowW.claim.post args (.bool true) args=true:=
 postW_of (r:=l.row.toRowW) (X:=(true==true))
  (show WShape.has [] (.bool true) .bool=true by first|rfl|decide|simp)
  (show(WTm.eq .res (.lit (.bool true))).value [] {args:=args,res:=⇑(.bool true),after:=args}=⇑(.bool (true==true)) from w_eq_bool (w_res rfl) w_lit) rfl
theorem attach_call{l:OpenLaw}
  (hn:l.most=⇑n)(h6:d.params.defaults=[])
  (call:∀(w:World)(B i:Shared)(mg mb:Str->Option Value)(O:Addr)(o:Obj)(Z U I:Value)(a:Addr)(vs:List Value)(ns:List Int),
   Ground q loose [] XP w B mg mb i.heap->YP w i.heap->
   i.heap.get? O=⇑o->o.data=.func (docDef d.name d.params d.body d.scope Z U I)->i.heap.CodeRec U d.name->mg d.name=⇑(.ref O)->
   i.heap.get? a=some {cls:=.type "list",data:=.seq vs.toArray}->IntsAre vs ns->ns.length<=n->i.gens=#[]->
   codeAny (model l.prog w) callerA (.call (.ref O) #[[.ref a],[]]) (λr s'=>r=.ok (.ret (.bool true))/\OldK i.heap s'.heap/\s'.os=i.os/\AllBare s'.gens) i):
  WalkO q loose XP YP l.row.toRowW d [] (λf vs=>PySem.call f vs):=by
 intro w B i mg mb G Y O o Z U I dV kV ho hd h7 hD h5 hg args h8 as J h9 e1 h1 e2;obtain rfl:dV=.none:=Dflts.none hD h6;obtain rfl:kV=.none:=Dflts.noKw hD;let#[a,vs,ns,rfl,rfl,L,F,M]:=Si hn J h1;show enter_call (codeAny_mono (call w B i mg mb O o Z U I a vs ns G Y ho (fd_plain hd) h7 h5 L F M hg) λr s' hq=>?_);let#[rfl,h2,h3,h4]:=hq;show#[.inl #[.bool true,.bool true,[],rfl,λ_=>rfl,.bool true,SU l _,λ_=>#[List.Pairwise.nil,λ_ hm=>(nomatch hm)]],h2,h3,h4]
end Att
namespace L2
open PySem PySem.Spec PyProof.Rows
def Di:∀{vs:List Value}{ns:List Int},IntsAre vs ns->zP (ns.map V.int) vs
 |_,_,.nil=>.nil
 |_,_,.cons n t h=>.cons #[t,rfl] (Di h)
def xV(H:Hp):Prop:=∀b,H b=none\/∃o xs,H b=⇑(.frz o (.lst xs))
def Rf{K:W.Frag}
  (KX:K.In i.heap)(Y:i.heap.Ns mainGlobals mg)(L:i.heap.Ns builtinsNs mb)(h7:∀x:Str,x≠"__name__"->mb x=bootBuiltins x)(Z:i.heap.NoLimit)(hg:i.gens=#[])
  (ha:i.heap.get? a=some {cls:=.type "list",data:=.seq vs.toArray})(hi:IntsAre vs ns)(hl:ns.length<=sizeLine)(hr:bM k callerA)
  (F:∀base:Heap,K.In base->base.Ns mainGlobals mg->dA P w K mg base CX k fa fd [x] sp)(J:∀(s:Shared)(u:Value),BindsTo s fd #[[u],[]] [(x,u)])
  (h6:∀H:Hp,xV H->bJ K H a (ns.map V.int)->sp [.ref a] H (λv _=>v=.bl true) λ_ _ _=>False)
  (h8:∀H e s',CX [] H i (λ_ _ _=>False) e s'->False):
  codeAny (model P w) callerA (.call (.ref fa) #[[.ref a],[]]) (λr s'=>r=.ok (.ret (.bool true))/\OldK i.heap s'.heap/\s'.os=i.os/\AllBare s'.gens) i:=by
 let rv:=Di hi;let M:=hi.length
 --from an abstract heap in which nothing but the script may be tracked
 have I:∀H:Hp,xV H->bJ K H a (ns.map V.int)->eA P w H i.heap->(∀b,H b≠none->b=a)->(H a≠none->K.lookup a=none)->
   codeAny (model P w) callerA (.call (.ref fa) #[[.ref a],[]]) (λr s'=>r=.ok (.ret (.bool true))/\OldK i.heap s'.heap/\s'.os=i.os/\AllBare s'.gens) i:=by
  intro H hO hS U hA hK;let B:∀{b:Addr}{o:Obj},i.heap.get? b=⇑o->H b=none->(iN i.heap H).get? b=⇑o:=λe n=>Qs e n;let h5:∀{b:Addr}{o:Obj}{es:Array DictEntry}{ep:Nat},i.heap.get? b=⇑o->o.data=.dict es ep->H b=none:=λ{b o es ep} e d=>by
   cases q:H b with
   |none=>rfl
   |some u=>grind
  let G:∀{b:Addr}{m:Str->Option Value},i.heap.Ns b m->(iN i.heap H).Ns b m:=λ{b m}⟨o,es,ep,e,d,r⟩=>#[o,es,ep,B e (h5 e d),d,r]
  have h3:K.In (iN i.heap H):=λb o e=>B (KX b o e) (by
   cases q:H b with
   |none=>rfl
   |some u=>have e':b=a:=hA b (by rw[q];simp);subst e';rw[hK (by rw[q];simp)]at e;cases e)
  let hM:Mod K mg (iN i.heap H):=#[h3,G Y,#[mb,G L,h7],let#[mc,h1,h2]:=Z;#[mc,G h1,h2]]
  let e0:kR P w K mg (iN i.heap H) callerA [] i H:=#[rfl,hM,λb o e=>PJ e,Nat.le_of_eq (SC _ _),trivial,λb L=>absurd (show b∈([]:List Addr) from L) (by simp),U,.of_eq hg]
  show codeAny_mono ((F _ h3 (G Y)).run callerA [] i H #[[.ref a],[]] [.ref a] [.ref a] _ _ hr e0 (J i (.ref a)) (.cons rfl .nil) (h6 H hO hS)) λr s' h=>?_;cases r with
  |error e=>show(h8 H e s' h).elim
  |ok fl=>
   cases fl with
   |next=>show False.elim h
   |brk=>show False.elim h
   |cont=>show False.elim h
   |ret u=>
    let#[v,H',os,h4,un,O,r',q]:=h;let q':v=.bl true:=q;subst q';obtain rfl:u=Value.bool true:=r';show#[rfl,OldK.of_keep λb o e=>?_,os,h4];cases q:H b with
    |none=>show un.keep b o e q (by intro z;show absurd (show b∈([]:List Addr) from z) (by simp)) (by simp)
    |some u=>
     rcases hO b with z|⟨ob,xs,z⟩
     .rw[q]at z;cases z
     .let z2:=un.frzs b ob _ z;let#[e1,_]:=U b _ z;let#[e2,_]:=O b _ z2;rw[e]at e1;cases e1;show e2
 cases hk:K.lookup a with
 |some o=>
  --the script is one of the module's own objects
  let e:=KX a o hk;rw[ha]at e;cases e;show I (λ_=>none) (λ_=>.inl rfl) (.inr #[_,vs.toArray,_,hk,rfl,rfl,rfl,by rw[qq,M];show hl,rv]) (λb u z=>by let z':(none:Option HO)=⇑u:=z;cases z') (λb z=>absurd rfl z) λz=>absurd rfl z
 |none=>
  show I (λb=>if b=a then ⇑(.frz {cls:=.type "list",data:=.seq vs.toArray} (.lst (ns.map V.int)))else none) (λb=>?_) (.inl (.inr #[{cls:=.type "list",data:=.seq vs.toArray},qZ rfl])) (λb u z=>?_) (λb z=>?_) λ_=>hk
  .grind
  .by_cases L:b=a
   .let z':=(qZ L).symm.trans z;cases z';subst L;show#[ha,by rw[qh];show hl,vs,_,rv,ha]
   grind
  grind
theorem walk_of{l:W.OpenLaw}{K:Params->W.Frag}{CX:World->dk}{sp:World->Sp}
  (hn:l.most=⇑n)(O:n<=sizeLine)(Z:d.params.defaults=[])(hr:bM k callerA)
  (hY:∀(w:World)(h:Heap),YP w h->(K w.params).In h)
  (F:∀(w:World)(mg:Str->Option Value)(L:Addr)(h:Heap),(K w.params).In h->h.Ns mainGlobals mg->mg d.name=⇑(.ref L)->
   ∃fd:FuncData,(∀(s:Shared)(u:Value),BindsTo s fd #[[u],[]] [(x,u)])/\
    ∀base:Heap,(K w.params).In base->base.Ns mainGlobals mg->dA l.prog w (K w.params) mg base (CX w) k L fd [x] (sp w))
  (M:∀(w:World)(H:Hp)(a:Addr)(ns:List Int),ns.length<=n->xV H->bJ (K w.params) H a (ns.map V.int)->sp w [.ref a] H (λv _=>v=.bl true) λ_ _ _=>False)
  (h1:∀(w:World)(H:Hp)(s:Shared)(e:Value)(s':Shared),CX w [] H s (λ_ _ _=>False) e s'->False):
  W.WalkO q loose XP YP l.row.toRowW d [] (λf vs=>PySem.call f vs):=by
 show Att.attach_call hn Z λw h2 I mg mb L o pm cd h4 a vs ns G Y ho hd h3 U J B i hg=>?_;let KX:=hY w _ Y;let#[fd,hb,hF]:=F w mg L _ KX G.T.g U;show Rf KX G.T.g G.T.b G.T.builtins G.T.nolimit hg J B (le_trans i O) hr hF hb (λH hO hS=>M w H a ns i hO hS) λH e s'=>h1 w H I e s'
def cO(s:Stmt):Arguments:=match s with
 |.FunctionDef _ a _ _ _ _ _ _ _ _=>a
 |_=>{posonlyargs:=[],args:=[],vararg:=none,kwonlyargs:=[],kw_defaults:=[],kwarg:=none,defaults:=[]}
def bI(s:Stmt):List Stmt:=match s with
 |.FunctionDef _ _ b _ _ _ _ _ _ _=>b
 |_=>[]
def aB(s:Stmt):Scope:=match s with
 |.FunctionDef _ _ _ _ _ _ sc _ _ _=>sc
 |_=>{kind:=.function,names:=[],isGenerator:=false,isCoroutine:=false}
structure sM(K:W.Frag)(x qual:Str)(st:Stmt)(f:Addr)(fd:FuncData):Prop where
 ex:∃(oc:Value)(od:Option Addr)(kV doc pm:Value)(an:Option Addr)(cdv ct:Value)(osl:Array (Option Value)),
  fd=W.fnOf x qual (cO st) (bI st) (aB st) .none kV doc pm an cdv ct/\K.lookup f=⇑#[oc,od,.func fd,osl]/\W.codeIn K cdv qual=true
 kp:W.keepIn K (.ref f)=true
section
variable{K:W.Frag}
def sM.binds{st:Stmt}(F:sM K x qual st f fd)
  (h:∀(kV i G:Value)(I:Option Addr)(B ct:Value)(us:List Value),us.length=ps.length->bindArgs (W.fnOf x qual (cO st) (bI st) (aB st) .none kV i G I B ct) #[us,[]]=pure (ps.zip us)):Binds K fd ps []:=by
 let#[O,M,kV,i,G,I,B,ct,J,rfl,lk,L]:=F.ex;show .all (h kV i G I B ct)
def IA{st:Stmt}{kV B F i ct:Value}(l:K.lookup f=⇑#[L,J,.func (W.fnOf x qual (cO st) (bI st) (aB st) .none kV B F I i ct),G])
  (c:W.codeIn K i qual=true)(k:W.keepIn K (.ref f)=true):sM K x qual st f (W.fnOf x qual (cO st) (bI st) (aB st) .none kV B F I i ct):=#[#[L,J,kV,B,F,I,i,ct,G,rfl,l,c],k]
end
def CV(i:bM k A):A.units+1<cLine:=Nat.lt_of_le_of_lt (Nat.add_le_add_left (by decide:1<=64) _) i.units
def zy(H H':Hp):Prop:=∀b o,H b=⇑o->H' b=⇑o
def zy.refl(H:Hp):zy H H:=λ_ _ h=>h
def zy.trans(a:zy H H1)(b:zy H1 H2):zy H H2:=λc o h=>b c o (a c o h)
structure lq(fs:List Addr)(e:Addr)(cls:Value)(dx:Option Addr)(a0:Option Value)(T:Addr)(h h':Heap):Prop where
 new:h.objs.size<=T
 keep:∀b o,b∉fs->b≠e->h.get? b=⇑o->h'.get? b=⇑o
 slot:∀b o,b∈fs->b≠e->h.get? b=⇑o->∃sl,h'.get? b=some {o with slots:=sl}
 rcd:∃oe vs,h'.get? e=⇑oe/\oe.cls=cls/\oe.dict=dx/\oe.data=.fields vs/\vs[0]?=a0/\vs[1]?=⇑(.ref T)
 trc:∃oT ts,h'.get? T=⇑oT/\oT.data=.fields ts/\ts[3]?=⇑.none
def Obj.dict_mapFields(o:Obj)(f:Array Value->Array Value):(o.mapFields f).dict=o.dict:=by unfold Obj.mapFields;split<;>rfl
def KO{base:Heap}{env:Env}{outer:List Env}{L e:Addr}{oe:Obj}{vs:Array Value}{head:Value}{hadNext:Bool}{Q:Unit->Shared->Prop}
  (hfr:A.frames=⇑(env::outer))(hl:s.heap.FunFrames base (env::outer))(hf:env.frame=⇑L)(he:s.heap.get? e=⇑oe)(hd:oe.data=.fields vs)(hsz:1<vs.size)
  (h:∀h' T,lq (iW (env::outer)) e oe.cls oe.dict vs[0]? T s.heap h'->Q () {s with heap:=h'}):
  wpAny M A (do let a<-frameOf env;let pl<-entryPlaceOf L hadNext;let b<-EntryCells.newEntry head a .none (rawInt L) .none pl;setField (.ref e) 1 b) (λ_ s'=>wpAny M A (setFlight (.ref e) none) Q E s') E s:=by
 let hene:e∉iW (env::outer):=λhm=>by let#[_,o,ho,hnf]:=hl.mem hm;rw[he]at ho;injection ho with ho;subst ho;show hnf vs hd
 refine qa (wpAny_frameOf_fun hfr hl hf λh₁ hs₁=>?_);show qa (wpAny_entryPlaceOf λpl hpl=>?_);show qa (zi ?_ (hpl.sizeOk5 _ _ _ _ _));let he₁:h₁.get? e=⇑oe:=(hs₁.2.1 e hene).trans he;let he₂:=qc (h:=h₁) {cls:=.type "traceback",dict:=none,data:=.fields ([head,.ref L,.none,rawInt L,.none]++(if pl.isEmpty then List.replicate 6 Value.none else pl)).toArray} he₁;show wpAny_setField he₂ hd hsz ?_;let hTe:h₁.objs.size≠e:=ne_of_gt (qe he₁);let hd₃:=Obj.data_mapFields hd (·.setIfInBounds 1 (Value.ref h₁.objs.size));let he₃:=zb (Obj.mapFields (·.setIfInBounds 1 (Value.ref h₁.objs.size))) he₂ (Obj.isFreed_of_fields hd₃);let hT₃:=(q9 (h₁.push {cls:=.type "traceback",dict:=none,data:=.fields ([head,.ref L,.none,rawInt L,.none]++(if pl.isEmpty then List.replicate 6 Value.none else pl)).toArray})
  (Obj.mapFields (·.setIfInBounds 1 (Value.ref h₁.objs.size))) (Ne.symm hTe)).trans (qd h₁ rfl)
 refine qa (zc he₃ hd₃ (x:=.ref h₁.objs.size) (by simp[hsz]) ?_);show wpAny_setField hT₃ rfl (by simp<;>omega) (h _ h₁.objs.size ?_);let keep:∀b o,b≠e->h₁.get? b=⇑o->
   (((h₁.push {cls:=.type "traceback",dict:=none,data:=.fields ([head,.ref L,.none,rawInt L,.none]++(if pl.isEmpty then List.replicate 6 Value.none else pl)).toArray}).update e (Obj.mapFields (·.setIfInBounds 1 (Value.ref h₁.objs.size)))).update h₁.objs.size
     (Obj.mapFields (·.setIfInBounds 3 ((none:Option Addr).elim Value.none λf=>rawInt f)))).get? b=⇑o:=λb o hbe hb=>by
  let hbT:h₁.objs.size≠b:=ne_of_gt (qe hb);rw[q9 _ _ hbT,q9 _ _ (Ne.symm hbe)];show qc _ hb
 show#[by rw[hs₁.1];show q8 _,λb o hb hbe q=>keep b o hbe ((hs₁.2.1 b hb).trans q),λb o _ hbe q=>?_,?_,?_]
 .obtain⟨sl,hs⟩:=hs₁.2.2 b o q;show#[sl,keep b _ hbe hs]
 .show#[_,_,?_,Obj.cls_mapFields _ _,Obj.dict_mapFields _ _,hd₃,by rw[Array.getElem?_setIfInBounds_ne ⋯],by simp[hsz]];rw[q9 _ _ hTe];show he₃
 .show#[_,_,zb _ hT₃ (Obj.isFreed_of_fields (Obj.data_mapFields rfl _)),Obj.data_mapFields rfl _,by first|(simp;done)|(rcases hpl with rfl|⟨_,_,_,_,_,_,_,rfl⟩<;>simp)]
def zR.there(x:zR P w H h a o):∃u,h.get? a=⇑u:=by
 cases o with
 |lst xs=>let#[_,_,_,_,e]:=x;show#[_,e]
 |tup xs=>let#[_,_,_,u,e,_]:=x;show#[_,e]
 |dK i=>let#[_,_,_,_,o,_,_,e,_]:=x;show#[_,e]
 |dT i=>let#[_,_,_,_,o,_,_,e,_]:=x;show#[_,e]
 |set vs=>
  rcases x with⟨_,⟨_,e⟩|⟨_,_,_,_,_,_,_,e,_⟩|⟨_,_,_,_,_,_,_,_,e,_⟩⟩
  .show#[_,e]
  .show#[_,e]
  .show#[_,e]
 |ins C dx fs=>let#[_,_,_,e,_]:=x;show#[_,e]
 |own y=>show x
 |xd fs=>let#[_,#[_,_,_,e,_],_]:=x;show#[_,e]
 |rng lo hi=>let#[_,_,_,e]:=x;show#[_,e]
 |frz B u=>show#[_,x.1]
 |tbl ps=>show#[_,(show h.get? a=⇑_ from x)]
 |met f y=>show#[_,(show h.get? a=⇑_ from x)]
 |ext φ=>show x.2.1
def iT(X:Cx)(zS:List (Addr×Obj))(H:Hp)(h:Heap)(e:Addr)(cls:Value)(dx:Option Addr):Prop:=bN X zS H e/\∃i vs,h.get? e=⇑i/\i.cls=cls/\i.dict=dx/\i.data=.fields vs/\
 (vs[1]?=⇑.none\/∃T F B,vs[1]?=⇑(.ref T)/\T≠e/\bN X zS H T/\h.get? T=⇑F/\F.data=.fields B/\B[3]?=⇑.none)
def GO{ch:List Addr}{h':Heap}(I:Inv X zS σ H s)(F:∀b∈ch,bN X zS H b)(i:∀b o,b∉iW X.stack->b∉ch->s.heap.get? b=⇑o->h'.get? b=⇑o)(slot:∀b o,b∈iW X.stack->b∉ch->s.heap.get? b=⇑o->∃M,h'.get? b=some {o with slots:=M}):
  Inv X zS σ H {s with heap:=h'}:=by
 let G:∀b u,H b=⇑u->b∉iW X.stack/\b∉ch:=λb u z=>#[λq=>(by rw[I.stkFree b q]at z;cases z),λq=>(by rw[(F b q).1]at z;cases z)]
 show I.call (ch:=ch) (t':=s.toks) (d':=s.drawn) (g':=s.gens) #[λb o q _ L J=>i b o L J q,λb o q _ L J=>slot b o L J q,λ_ _ _ z _=>z,λb o q n=>?_,λ_ _ z=>z,λ_ _ _ z=>z,λb ps z=>#[#[],by rw[z];simp]] (λa o q=>?_) I.bare λb B=>?_
 .by_cases B:b∈iW X.stack
  .obtain⟨M,z⟩:=slot b o B n q;show#[_,z]
  .show#[o,i b o B n q]
 .show(I.hok a o q).stay (λb u B z=>?_) (λ_ z=>z) λ_ _ z=>z;rcases B with rfl|B
  .show i _ _ (G _ _ q).1 (G _ _ q).2 z
  .show i _ _ (G _ _ B).1 (G _ _ B).2 z
 .obtain⟨_,Z,_,Y,U,O⟩:=F b B;show#[Y,Z,U,O]
def Kx{Q:Unit->Shared->Prop}(M:X.stack=X.env::X.outer)(hf:X.env.frame=⇑X.env.locals)(I:Inv X zS σ H s)(F:iT X zS H s.heap e cls dx)
  (k:∀h',Inv X zS σ H {s with heap:=h'}->iT X zS H h' e cls dx->Q () {s with heap:=h'}):wpAny (model X.prog X.w) X.A (noteFrame (.ref e) X.env) (λ_ s'=>wpAny (model X.prog X.w) X.A (setFlight (.ref e) none) Q E s') E s:=by
 let#[fe,oe,vs,he,rfl,rfl,hd,ht]:=F;let h4:X.A.frames=⇑(X.env::X.outer):=M▸I.ok.frames;let hl:s.heap.FunFrames X.base (X.env::X.outer):=M▸I.stack;unfold noteFrame;simp only[hf];rcases ht with h1|⟨T,oT,ts,h1,h6,fT,hT,h2,h3⟩
 .show qa (zc he hd h1 ?_);show KO h4 hl hf he hd (Array.getElem?_eq_some_iff.mp h1).1 λh' T' L=>?_;rw[<-M]at L;let I':Inv X zS σ H {s with heap:=h'}:=GO (ch:=[e]) I (λb B=>by rw[qt.mp B];show fe) (λb o Y J q=>L.keep b o Y (λz=>J (by simp[z])) q) λb o Y J q=>L.slot b o Y (λz=>J (by simp[z])) q;let#[U,O,r1,r2,rd,r3,_,r5]:=L.rcd;let#[oT,ts,t1,t2,t3]:=L.trc;show k h' I' #[fe,U,O,r1,r2,rd,r3,.inr #[T',oT,ts,r5,λz=>absurd (qe he) (by let:=L.new;rw[z]at this;lia),I.fpOk L.new (I.hok.fresh L.new),t1,t2,t3]]
 .refine qa (zc he hd h1 ?_);show qa (zc hT h2 h3 ?_);show qa (wpAny_setField hT h2 (Array.getElem?_eq_some_iff.mp h3).1 ?_);let i:∀b,b≠T->(s.heap.update T (Obj.mapFields (·.setIfInBounds 3 Value.none))).get? b=s.heap.get? b:=λb B=>q9 _ _ (Ne.symm B);let G:∀b o,s.heap.get? b=⇑o->(∀vs,o.data≠.fields vs)->b≠T:=λb o B Z q=>by rw[q,hT]at B;injection B with B;subst B;exact Z ts h2
  refine KO h4 (hl.of_keeps λb o B Z=>#[o,(i b (G b o B Z)).trans B,rfl]) hf ((i e (Ne.symm h6)).trans he) hd (Array.getElem?_eq_some_iff.mp h1).1 λh' T' L=>?_;rw[<-M]at L;let h5:(s.heap.update T (Obj.mapFields (·.setIfInBounds 3 Value.none))).objs.size=s.heap.objs.size:=Heap.size_update ..;let I':Inv X zS σ H {s with heap:=h'}:=GO (ch:=[e,T]) I (λb B=>by
   rcases qA.mp B with rfl|B
   .show fe
   .rw[qt.mp B];show fT) (λb o Y J q=>L.keep b o Y (λz=>J (by simp[z])) ((i b λz=>J (by simp[z])).trans q)) λb o Y J q=>L.slot b o Y (λz=>J (by simp[z])) ((i b λz=>J (by simp[z])).trans q)
  let#[U,O,r1,r2,rd,r3,_,r5]:=L.rcd;let#[oT,ts,t1,t2,t3]:=L.trc;let hn:s.heap.objs.size<=T':=h5▸L.new;show k h' I' #[fe,U,O,r1,r2,rd,r3,.inr #[T',oT,ts,r5,λz=>absurd (qe he) (by rw[z]at hn;lia),I.fpOk hn (I.hok.fresh hn),t1,t2,t3]]
def QP{Q:Unit->Shared->Prop}(i:X.stack=X.env::X.outer)(B:X.env.frame=⇑X.env.locals)(I:Inv X zS σ H s)(F:iT X zS H s.heap e cls dx)
  (k:∀h',Inv X zS σ H {s with heap:=h'}->iT X zS H h' e cls dx->Q () {s with heap:=h'}):wpAny (model X.prog X.w) X.A (leaving X.env (.ref e)) Q E s:=by
 show qa (Kx i B I F k)
def Ur{Q:Unit->Shared->Prop}(I:Inv X zS σ H s)(F:iT X zS H s.heap e cls dx)
  (k:∀h',Inv X zS σ H {s with heap:=h'}->iT X zS H h' e cls dx->Q () {s with heap:=h'}):wpAny (model X.prog X.w) A (setFlight (.ref e) none) Q E s:=by
 let#[fe,Y,vs,L,rfl,rfl,M,ht]:=F;rcases ht with h1|⟨T,oT,ts,h1,J,fT,Z,B,h3⟩
 .show qa (zc L M h1 ?_);show qb (k s.heap I #[fe,Y,vs,L,rfl,rfl,M,.inl h1])
 .refine qa (zc L M h1 ?_);let G:=(Array.getElem?_eq_some_iff.mp h3).1;show wpAny_setField Z B G ?_;let i:∀b,b≠T->(s.heap.update T (Obj.mapFields (·.setIfInBounds 3 ((none:Option Addr).elim Value.none λf=>rawInt f)))).get? b=s.heap.get? b:=λb U=>q9 _ _ (Ne.symm U);refine k _ (GO (ch:=[T]) I (λb U=>by rw[qt.mp U];show fT) (λb o n1 O q=>(i b λz=>O (by simp[z])).trans q) λb o n1 O q=>#[o.slots,(i b λz=>O (by simp[z])).trans q])
   #[fe,Y,vs,(i e (Ne.symm J)).trans L,rfl,rfl,M,.inr #[T,_,_,h1,J,fT,zb _ Z (Obj.isFreed_of_fields (Obj.data_mapFields B _)),Obj.data_mapFields B _,by simp[G]]]
def Inv.fpNew(I:Inv X zS σ H s)(G:s.heap.get? b=none)(hn:H' b=none):bN X zS H' b:=by
 let no:∀o,s.heap.get? b=⇑o->False:=λo z=>by rw[G]at z;cases z
 show#[hn,λz=>?_,λz=>?_,?_,λx c q z=>?_,λp F z=>?_]
 .obtain⟨m,⟨o,_,_,i,_⟩,_⟩:=I.loc;rw[<-z]at i;show no o i
 .obtain⟨_,o,i,_⟩:=I.funs.mem z;show no o i
 .by_cases B:b∈X.ex
  .show .inl B
  .show .inr ?_;cases q:X.s₀.heap.get? b with
   |none=>rfl
   |some o=>let#[o',z]:=I.base.there b o q B;show(no o' z).elim
 .obtain⟨v,o,i,_⟩:=I.cell x c q;rw[z]at i;show no o i
 .let:=(I.pin p F).1;rw[z]at this;show no _ this
def bN.few(f:bN X zS H b):bN X [] H b:=#[f.1,f.2.1,f.2.2.1,f.2.2.2.1,f.2.2.2.2.1,λp i=>f.2.2.2.2.2 p (qj _ ↑i)]
def iT.few(F:iT X zS H h e cls dx):iT X [] H h e cls dx:=by let#[f,B,vs,h1,h2,I,L,J]:=F;show#[f.few,B,vs,h1,h2,I,L,J.imp id ?_];rintro⟨T,G,i,a1,a2,O,M⟩;show#[T,G,i,a1,a2,O.few,M]
def Inv.few(I:Inv X zS σ H s):Inv X [] σ H s:=I.pins_of λp i=>I.pin p (qj _ ↑i)
def fE(P:Program)(w:World):dk:=λi H s E e s'=>∃a cls dx H',e=.ref a/\s'.os=s.os/\AllBare s'.gens/\Un (iW i) [] H H' s.heap s'.heap/\eA P w H' s'.heap/\E cls dx H'/\s.heap.get? a=none/\H' a=none/\
 ∃B vs,s'.heap.get? a=⇑B/\B.cls=cls/\B.dict=dx/\B.data=.fields vs/\(vs[1]?=⇑.none\/∃T G F,vs[1]?=⇑(.ref T)/\T≠a/\s.heap.get? T=none/\H' T=none/\s'.heap.get? T=⇑G/\G.data=.fields F/\F[3]?=⇑.none)
section
variable{K:W.Frag}
def Qh(I:Inv (eV (fE P w) P w K mg base N qual scope f i A outer s H E) [] σ H' s')(F:iT (eV (fE P w) P w K mg base N qual scope f i A outer s H E) [] H' s'.heap e cls dx)(q:E cls dx H'):
  (eV (fE P w) P w K mg base N qual scope f i A outer s H E).xe (.ref e) s':=by
 show QP (X:=eV (fE P w) P w K mg base N qual scope f i A outer s H E) rfl rfl I F λh' B F'=>?_;let#[J,O,vs,h1,h2,Y,h3,Z]:=F';let G:∀{b},bN (eV (fE P w) P w K mg base N qual scope f i A outer s H E) [] H' b->s.heap.get? b=none:=λ{b} z=>z.2.2.2.1.resolve_left λz=>by cases z
 show#[e,cls,dx,H',rfl,B.os,B.bare,B.base,B.hok,q,G J,J.1,O,vs,h1,h2,Y,h3,Z.imp id ?_];rintro⟨T,U,M,a1,a2,L,a4⟩;show#[T,U,M,a1,a2,G L,L.1,a4]
end
def Pl(I:Inv X zS σ H s)(h:fE X.prog X.w X.stack H s E u s'):∃a cls dx H',u=.ref a/\Inv X zS σ H' s'/\iT X zS H' s'.heap a cls dx/\E cls dx H':=by let#[a,cls,dx,H',rfl,M,O,un,i,q,L,J,F,vs,h1,h2,U,Z,Y]:=h;show#[a,cls,dx,H',rfl,I.call' M un i O (λb z=>absurd z (by simp)),#[I.fpNew L J,F,vs,h1,h2,U,Z,Y.imp id ?_],q];rintro⟨T,G,B,a1,a2,a3,a4,a5⟩;show#[T,G,B,a1,a2,I.fpNew a3 a4,a5]
@[inline]def XW(X:Cx)(σ:St):XK:=λcls dx H'=>∀(a:Addr)(s':Shared),Inv X [] σ H' s'->iT X [] H' s'.heap a cls dx->X.xe (.ref a) s'
def uI(X:Cx)(sp:Sp)(t:TA):TE:=λσ H Q=>t σ H λvs H1=>sp vs H1 Q (XW X σ)
def Qo(F:dA X.prog X.w X.K X.mg X.base (fE X.prog X.w) k f fd ps sp)(Y:bM k X.A)(hg:Gl X x)(Z:X.mg x=⇑(.ref f))(hk:W.keepIn X.K (.ref f)=true)(hb:Binds X.K fd ps [])
  (ha:PA X (e::es) t)(L:autoParam ((x==("__debug__":Str))=false) dZ9)(he:autoParam (starEach (e::es) X.env=(false,eval e X.env)::starEach es X.env) rZ9)(J:autoParam ((backTo pos (starEach es X.env)).any (·.1)=false) rZ9):
  PE X (.Call (.Name x p) (e::es) [] pos) (uI X sp t):=by
 intro zS s σ H Q I h;show wpAny_Call_Name_kw (Dc I hg Z ?_ L);show W.callWith_K (h₀:=X.base) I.ok.mod.kin hk (Ah (ha pos zS s σ H _ I h) λG M O=>?_) he J;let#[vs,H1,B,r,q]:=O;show#[B.kIn,?_];let hl:(G++[]).length=ps.length:=by rw[qz,<-r.length];show F.len _ _ _ _ q
 show wpAny_call (codeAny_mono (F.run X.A X.stack M H1 #[G,[]] G vs Q (XW X σ) Y B.env0 (by let:=hb M G B.kIn hl;rwa[qz]at this) r q) λr s' i=>?_);cases r with
 |error e=>let#[a,cls,dx,H',rfl,I',F',U]:=Pl B i;show U a s' I'.few F'.few
 |ok fl=>
  cases fl with
  |ret u=>show B.after i
  |next=>show False.elim i
  |brk=>show False.elim i
  |cont=>show False.elim i
section
variable{K:W.Frag}
def sM.okX{st:Stmt}(F:sM K x qual st f fd)(S:aD N ps (aB st))(len:∀vs H Q E,sp vs H Q E->vs.length=ps.length)
  (G:∀(B:Value)(A:Around)(i:List Env)(s:Shared)(H:Hp)(vs:List V)(Q:VK)(E:XK),bM k (A.deeper (envOfC qual (aB st) s.heap.objs.size f B))->sp vs H Q E->
   ∃t,jR (eV (fE P w) P w K mg base N qual (aB st) f B A i s H E) (bI st) t/\t {nx:=λ_ H'=>Q .non H',rt:=Q} (start N vs) H):dA P w K mg base (fE P w) (k+1) f fd ps sp:=by
 let#[Z,Y,kV,O,U,an,B,ct,L,rfl,lk,J]:=F.ex;show Md lk J S len λA i s H vs Q E M I=>G B A i s H vs Q E M I
end
end L2
namespace FL
open PySem
inductive D where
 |non
 |bl(b:Bool)
 |int(i:Int)
 |str(l:List Nat)
 |tup(l:List D)
 |lst(l:List D)
 |dct(t:Bool)(ks vs:List D)
 |set(l:List D)
 |exc(c:List Nat)(fs:List (List Nat))(vs:List D)
 deriving Inhabited
inductive S where
 |sh(d:D)
 |lst(l:List S)
 |dct(t:Bool)(ks:List D)(vs:List S)
 |set(l:List D)
 deriving Inhabited
mutual
@[inline]def S.toD:S->D
 |.sh d=>d
 |.lst l=>.lst (S.toDs l)
 |.dct t ks vs=>.dct t ks (S.toDs vs)
 |.set l=>.set l
@[inline]def S.toDs:List S->List D
 |[]=>[]
 |s::r=>S.toD s::S.toDs r
end
@[simp] theorem S.toDs_map:∀l:List S,S.toDs l=l.map S.toD
  |[]=>rfl
  |s::r=>by rw[S.toDs,S.toDs_map r,qy]
@[simp] theorem S.toD_sh(d:D):(S.sh d).toD=d:=rfl
@[simp] theorem S.toD_lst(l:List S):(S.lst l).toD=.lst (l.map S.toD):=by rw[<-S.toDs_map];rfl
@[simp] theorem S.toD_dct(t:Bool)(ks:List D)(l:List S):(S.dct t ks l).toD=.dct t ks (l.map S.toD):=by rw[<-S.toDs_map];rfl
@[simp] theorem S.toD_set(l:List D):(S.set l).toD=.set l:=rfl
@[inline]def S.isSh:S->Bool
 |.sh _=>true
 |_=>false
@[inline]def S.flat:S->Bool
 |.sh _=>true
 |.lst l=>l.all S.isSh
 |.dct _ _ vs=>vs.all S.isSh
 |.set _=>false
inductive R where
 |v(s:S)
 |loc(i:Nat)
abbrev Env:=List (Option S)
abbrev WQ:=R->Env->Prop
abbrev WX:=D->Env->Prop
@[inline]def NX:WX:=λ_ _=>False
abbrev WE:=Env->WQ->WX->Prop
abbrev WT:=Env->(Bool->Env->Prop)->WX->Prop
abbrev WA:=Env->(List R->Env->Prop)->WX->Prop
structure Ends where
 nx:Env->Prop
 rt:WQ
 bk:Env->Prop
 ct:Env->Prop
 ex:WX
abbrev WS:=Ends->Env->Prop
def slot(ρ:Env)(i:Nat):Option S:=match ρ,i with
 |[],_=>none
 |s::_,0=>s
 |_::r,i+1=>slot r i
@[simp] theorem VP(s:Option S)(r:Env):slot (s::r) 0=s:=rfl
@[simp] theorem VQ(s:Option S)(r:Env)(i:Nat):slot (s::r) (i+1)=slot r i:=rfl
def view(r:R)(ρ:Env):Option D:=match r with
 |.v s=>⇑s.toD
 |.loc i=>(slot ρ i).map S.toD
def zO(r:R)(ρ:Env):Option D:=match r with
 |.v s=>⇑s.toD
 |.loc i=>match slot ρ i with
  |some s=>if s.flat then ⇑s.toD else none
  |none=>none
def give(r:R)(ρ:Env):Option (S×Env):=match r with
 |.v s=>⇑(s,ρ)
 |.loc i=>match slot ρ i with
  |some s=>⇑(.sh s.toD,ρ.set i ⇑(.sh s.toD))
  |none=>none
def aJ:List R->Env->Option (List S×Env)
 |[],ρ=>⇑([],ρ)
 |r::rs,ρ=>match give r ρ with
  |some (s,ρ1)=>match aJ rs ρ1 with
   |some (ss,ρ2)=>⇑(s::ss,ρ2)
   |none=>none
  |none=>none
def ixN(n:Nat)(i:Int):Option Nat:=if 0<=i then(if i<n then ⇑i.toNat else none)else if -(n:Int)<=i then ⇑(i+n).toNat else none
def atI{α:Type}(xs:List α)(i:Int):Option α:=(ixN xs.length i).bind λj=>xs[j]?
def sIx(n d:Nat):Option Int->Nat
 |none=>d
 |some i=>if i<0 then(i+n).toNat else min i.toNat n
def aO{α:Type}(xs:List α)(lo hi:Option Int):List α:=(xs.drop (sIx xs.length 0 lo)).take (sIx xs.length xs.length hi-sIx xs.length 0 lo)
def big:Nat:=1000000
def zx{α:Type}(o:Option α)(k:α->Prop):Prop:=match o with
 |some a=>k a
 |none=>False
@[simp] theorem Fi{α:Type}(a:α)(k:α->Prop):zx (some a) k=k a:=rfl
@[simp] theorem VR{α:Type}(k:α->Prop):zx (none:Option α) k=False:=rfl
@[simp] theorem VO{α:Type}{c:Prop}[Decidable c](a:α)(k:α->Prop):zx (if c then some a else none) k=(c/\k a):=by by_cases h:c<;>simp[h]
def zt(i:Nat):WE:=λρ Q _=>match slot ρ i with
 |some (.sh d)=>Q (.v (.sh d)) ρ
 |some _=>Q (.loc i) ρ
 |none=>False
def wC(d:D):WE:=λρ Q _=>Q (.v (.sh d)) ρ
def zJ(F:D->D->Option S)(a b:WE):WE:=λρ Q E=>a ρ (λx B=>b B (λy i=>zx (zO x i) λp=>zx (zO y i) λq=>zx (F p q) λs=>Q (.v s) i) E) E
def iE(B:D->Option S)(a:WE):WE:=λρ Q E=>a ρ (λx i=>zx (zO x i) λp=>zx (B p) λs=>Q (.v s) i) E
def aI:D->D->Option S
 |.int i,.int j=>⇑(.sh (.int (i+j)))
 |.str x,.str y=>if x.length+y.length<=big then ⇑(.sh (.str (x++y)))else none
 |.lst x,.lst y=>if x.length+y.length<=big then ⇑(.lst ((x++y).map .sh))else none
 |.tup x,.tup y=>if x.length+y.length<=big then ⇑(.sh (.tup (x++y)))else none
 |_,_=>none
def dR:D->D->Option S
 |.int i,.int j=>⇑(.sh (.int (i-j)))
 |_,_=>none
def lM(i j:Int):Bool:=(↥(-(2^64)<i)&&↥(i<2^64))||(↥(-(2^64)<j)&&↥(j<2^64))
def nR:D->D->Option S
 |.int i,.int j=>if lM i j then ⇑(.sh (.int (i*j)))else none
 |_,_=>none
def gM:D->D->Option S
 |.int i,.int j=>if 0<j/\j<18446744073709551616 then ⇑(.sh (.int (i/j)))else none
 |_,_=>none
def eR:D->D->Option S
 |.int i,.int j=>if 0<j then ⇑(.sh (.int (i %j)))else none
 |_,_=>none
def nQ:D->D->Option S
 |.int i,.int j=>if 0<=j/\j<=1000/\i.natAbs<2^64 then ⇑(.sh (.int (i^j.toNat)))else none
 |_,_=>none
def cX:D->Option S
 |.int i=>⇑(.sh (.int (-i)))
 |_=>none
mutual
def aT:D->D->Bool
 |.tup l,.tup m=>bE l m
 |.lst l,.lst m=>bE l m
 |.int _,.int _=>false
 |.int _,.str _=>false
 |.int _,.non=>false
 |.str _,.int _=>false
 |.str _,.str _=>false
 |.str _,.non=>false
 |.str _,.bl _=>false
 |.bl _,.bl _=>false
 |.bl _,.str _=>false
 |.bl _,.non=>false
 |.non,.int _=>false
 |.non,.str _=>false
 |.non,.bl _=>false
 |.non,.non=>false
 |_,_=>true
def bE:List D->List D->Bool
 |a::l,b::m=>aT a b||bE l m
 |_,_=>false
end
mutual
def fC:D->Nat
 |.tup l=>aZ l+1
 |.lst l=>aZ l+1
 |_=>0
def aZ:List D->Nat
 |[]=>0
 |a::l=>max (fC a) (aZ l)
end
open Classical in
def cS(a b:D):Option Bool:=if aT a b||↥(30<fC a)then none else ⇑↥(a=b)
def eG(a b:D):Option Bool:=(cS a b).map (!·)
def ff:D->D->Option Bool
 |.int i,.int j=>⇑↥(i<j)
 |.str x,.str y=>⇑↥(x<y)
 |_,_=>none
def yB(a b:D):Option Bool:=ff a b
def oJ(a b:D):Option Bool:=ff b a
def fj:D->D->Option Bool
 |.int i,.int j=>⇑↥(i<=j)
 |.str x,.str y=>⇑(!decide (y<x))
 |_,_=>none
def yC:D->D->Option Bool
 |.int i,.int j=>⇑↥(j<=i)
 |.str x,.str y=>⇑(!decide (x<y))
 |_,_=>none
def cR:D->Bool
 |.int _=>true
 |.str _=>true
 |_=>false
def bP:Bool->D->Bool
 |true,.tup l=>l.all cR
 |false,d=>cR d
 |_,_=>false
open Classical in
def lX(a:D):D->Option Bool
 |.lst l=>if l.any (λx=>aT x a||↥(30<fC x))then none else ⇑↥(a∈l)
 |.tup l=>if l.any (λx=>aT x a||↥(30<fC x))then none else ⇑↥(a∈l)
 |.dct t ks _=>if bP t a then ⇑↥(a∈ks)else none
 |_=>none
open Classical in
def cc(a:D):D->Option Bool
 |.non=>⇑↥(a=.non)
 |.bl b=>⇑↥(a=.bl b)
 |_=>none
def fO:D->Option Bool
 |.non=>⇑false
 |.bl b=>⇑b
 |.int i=>⇑↥(i≠0)
 |.str l=>⇑(!l.isEmpty)
 |.tup l=>⇑(!l.isEmpty)
 |.lst l=>⇑(!l.isEmpty)
 |_=>none
def aG(F:D->D->Option Bool)(a b:WE):WT:=λρ Q E=>a ρ (λx B=>b B (λy i=>zx (view x i) λp=>zx (view y i) λq=>zx (F p q) λc=>Q c i) E) E
def cK(a:WE):WT:=λρ Q E=>a ρ (λx i=>zx (view x i) λp=>zx (fO p) λc=>Q c i) E
def fM(a b:WT):WT:=λρ Q E=>a ρ (λc i=>if c then b i Q E else Q false i) E
def gT(a b:WT):WT:=λρ Q E=>a ρ (λc i=>if c then Q true i else b i Q E) E
def eC(a:WT):WT:=λρ Q E=>a ρ (λc i=>Q (!c) i) E
def eI(t:WT):WE:=λρ Q E=>t ρ (λc i=>Q (.v (.sh (.bl c))) i) E
def gI(a b:WE):WE:=λρ Q E=>a ρ (λx i=>match view x i with
 |some (.bl c)=>if c then b i Q E else Q (.v (.sh (.bl false))) i
 |_=>False) E
def mZ(a:WE):WE:=λρ Q E=>a ρ (λx i=>zx (view x i) λp=>zx (fO p) λc=>Q (.v (.sh (.bl (!c)))) i) E
def zv:WA:=λρ Q _=>Q [] ρ
def zu(a:WE)(b:WA):WA:=λρ Q E=>a ρ (λr B=>b B (λF i=>Q (r::F) i) E) E
def bO(a:WA):WE:=λρ Q E=>a ρ (λB i=>zx (if B.length<=big then aJ B i else none) λp=>Q (.v (.sh (.tup (p.1.map S.toD)))) p.2) E
def bR(a:WA):WE:=λρ Q E=>a ρ (λB i=>zx (if B.length<=big then aJ B i else none) λp=>Q (.v (.lst p.1)) p.2) E
open Classical in
def lk{α:Type}:List D->List α->D->Option α
 |k'::ks,v::vs,k=>if k'=k then ⇑v else lk ks vs k
 |_,_,_=>none
def kO:S->D->Option S
 |.sh (.tup l),.int i=>(atI l i).map .sh
 |.sh (.lst l),.int i=>(atI l i).map .sh
 |.sh (.str l),.int i=>(atI l i).map λc=>.sh (.str [c])
 |.lst l,.int i=>atI l i
 |_,_=>none
def bK(a b:WE):WE:=λρ Q E=>a ρ (λx F=>b F (λy B=>zx (view y B) λq=>match x with
 |.v s=>zx (kO s q) λt=>Q (.v t) B
 |.loc i=>match slot B i with
  |some s=>match kO s q with
   |some (.sh d)=>Q (.v (.sh d)) B
   |_=>False
  |none=>False) E) E
def fN(a:Option WE):Env->(Option Int->Env->Prop)->WX->Prop:=match a with
 |none=>λρ Q _=>Q none ρ
 |some a=>λρ Q E=>a ρ (λx B=>match view x B with
  |some (.int i)=>Q ⇑i B
  |_=>False) E
def jP(d:D)(lo hi:Option Int):Option S:=match d with
 |.str l=>⇑(.sh (.str (aO l lo hi)))
 |.tup l=>⇑(.sh (.tup (aO l lo hi)))
 |.lst l=>⇑(.lst ((aO l lo hi).map .sh))
 |_=>none
def dX(a:WE)(lo hi:Option WE):WE:=λρ Q E=>a ρ (λx F=>fN lo F (λl B=>fN hi B (λh i=>zx (zO x i) λd=>zx (jP d l h) λs=>Q (.v s) i) E) E) E
abbrev WF:=List S->(S->List S->Prop)->(D->List S->Prop)->Prop
def cF:List Bool->List R->Env->Option (List S×Env)
 |_,[],ρ=>⇑([],ρ)
 |ms,.v s::rs,ρ=>match cF ms.tail rs ρ with
  |some (ss,ρ1)=>⇑(s::ss,ρ1)
  |none=>none
 |ms,.loc i::rs,ρ=>match slot ρ i with
  |some s=>if ms.headD false then(match cF ms.tail rs (ρ.set i none)with
   |some (ss,ρ1)=>⇑(s::ss,ρ1)
   |none=>none)
   else(match cF ms.tail rs (ρ.set i ⇑(.sh s.toD))with
    |some (ss,ρ1)=>⇑(.sh s.toD::ss,ρ1)
    |none=>none)
  |none=>none
def back:List Bool->List R->List S->Env->Env
 |ms,.v _::rs,_::ss,ρ=>back ms.tail rs ss ρ
 |ms,.loc i::rs,s::ss,ρ=>if ms.headD false then back ms.tail rs ss (ρ.set i ⇑s)else back ms.tail rs ss ρ
 |_,_,_,ρ=>ρ
def zL(f:WF)(ms:List Bool)(a:WA):WE:=λρ Q E=>a ρ (λF i=>zx (cF ms F i) λp=>f p.1 (λs B=>Q (.v s) (back ms F B p.2)) (λx B=>E x (back ms F B p.2))) E
def wB(f:List D->Option S)(a:WA):WE:=λρ Q E=>a ρ (λB i=>zx (B.mapM λr=>zO r i) λF=>zx (f F) λs=>Q (.v s) i) E
def bC(j:Nat)(e:WE):WE:=λρ Q E=>match slot ρ j with
 |some (.lst _)=>e ρ (λr i=>zx (give r i) λp=>match slot p.2 j with
  |some (.lst l)=>l.length<big/\Q (.v (.sh .non)) (p.2.set j ⇑(.lst (l++[p.1])))
  |_=>False) E
 |_=>False
def aQ:List D->Option S
 |[.str l]=>⇑(.sh (.int l.length))
 |[.tup l]=>⇑(.sh (.int l.length))
 |[.lst l]=>⇑(.sh (.int l.length))
 |_=>none
def gA:List D->Option S
 |[.int i]=>⇑(.sh (.int i))
 |[.bl b]=>⇑(.sh (.int (if b then 1 else 0)))
 |_=>none
def cH:List D->Option S
 |[.tup l]=>⇑(.sh (.tup l))
 |[.lst l]=>⇑(.sh (.tup l))
 |_=>none
def cf:List D->Option S
 |[.tup l]=>⇑(.lst (l.map .sh))
 |[.lst l]=>⇑(.lst (l.map .sh))
 |_=>none
def aE:WS:=λD ρ=>D.nx ρ
def zK(a b:WS):WS:=λD ρ=>a {D with nx:=b D} ρ
def cU(c:WT)(a b:WS):WS:=λD ρ=>c ρ (λk i=>if k then a D i else b D i) D.ex
def aV(a:WE):WS:=λD ρ=>a ρ D.rt D.ex
def wExpr(a:WE):WS:=λD ρ=>a ρ (λ_ i=>D.nx i) D.ex
abbrev WG:=S->Env->(Env->Prop)->Prop
def zw(i:Nat):WG:=λs ρ Q=>Q (ρ.set i ⇑s)
def eF:List WG->List D->Env->(Env->Prop)->Prop
 |[],[],ρ,Q=>Q ρ
 |g::gs,d::ds,ρ,Q=>g (.sh d) ρ λi=>eF gs ds i Q
 |_,_,_,_=>False
def eM(i:List WG):WG:=λs ρ Q=>match s.toD with
 |.tup ds=>ds.length=i.length/\eF i ds ρ Q
 |_=>False
def gF(j:Nat)(i e:WE):WS:=λD ρ=>e ρ (λr G=>zt j G (λx F=>i F (λy B=>zx (view y B) λq=>zx (give r B) λp=>match x,q,slot p.2 j with
 |.loc k,.int n,some (.lst l)=>k=j/\zx (ixN l.length n) λm=>D.nx (p.2.set j ⇑(.lst (l.set m p.1)))
 |_,_,_=>False) D.ex) D.ex) D.ex
def zM(g:WG)(a:WE):WS:=λD ρ=>a ρ (λr i=>zx (give r i) λp=>g p.1 p.2 D.nx) D.ex
abbrev WI:=Env->(List D->Env->Prop)->WX->Prop
def items:D->Option (List D)
 |.lst l=>⇑l
 |.tup l=>⇑l
 |.str l=>⇑(l.map λc=>.str [c])
 |_=>none
def bY(a:WE):WI:=λρ Q E=>a ρ (λr i=>zx (give r i) λp=>zx (items p.1.toD) λl=>Q l p.2) E
def fromTo(lo:Int)(n:Nat):List D:=(List.range n).map λ(k:Nat)=>.int (lo+(k:Int))
def aX(a:WE):WI:=λρ Q E=>a ρ (λr i=>match view r i with
 |some (.int j)=>(-big<=j/\j<=big)/\Q (fromTo 0 j.toNat) i
 |_=>False) E
def eO(a b:WE):WI:=λρ Q E=>a ρ (λr F=>b F (λt B=>match view r B,view t B with
 |some (.int i),some (.int j)=>(-big<=i/\i<=big/\-big<=j/\j<=big)/\Q (fromTo i (j-i).toNat) B
 |_,_=>False) E) E
def bU(g:WG)(i:WS):List D->WS
 |[],D,ρ=>D.nx ρ
 |x::xs,D,ρ=>g (.sh x) ρ λB=>i {D with nx:=bU g i xs D,ct:=bU g i xs D,bk:=D.nx} B
def fH(F:WI)(g:WG)(i:WS):WS:=λD ρ=>F ρ (λl B=>bU g i l D B) D.ex
def fG(c:WT)(F:WS):WS:=λD ρ=>∃J:Nat->Env->Prop,(∃m,J m ρ)/\∀m ρ,J m ρ->c ρ (λk B=>if k then
 F {D with nx:=λi=>∃m',m'<m/\J m' i,ct:=λi=>∃m',m'<m/\J m' i,bk:=D.nx} B else D.nx B) D.ex
abbrev WB:=Env->(Env->Prop)->WX->Prop
def dP:WT:=λρ Q _=>Q true ρ
def aU(g:WG)(c:WT)(b:WB):List D->WB
 |[],ρ,Q,_=>Q ρ
 |x::xs,ρ,Q,E=>g (.sh x) ρ λF=>c F (λk i=>if k then b i (λB=>aU g c b xs B Q E) E else aU g c b xs i Q E) E
def bQ(n:Nat)(a:WE):WB:=λρ Q E=>a ρ (λr i=>zx (give r i) λp=>match slot p.2 n with
 |some (.lst l)=>l.length<big/\Q (p.2.set n ⇑(.lst (l++[p.1])))
 |_=>False) E
def iV(n k:Nat)(F:WI)(g:WG)(c:WT)(b:WB):WE:=λρ Q E=>F ρ (λl B=>aU g c b l (B++⇑(.lst [])::List.replicate k none) (λi=>zx (slot i n) λs=>Q (.v s) (i.take n)) NX) E
def aC:List S->Env->Option (List S)
 |[],_=>⇑[]
 |.sh d::ss,_::ρ=>(aC ss ρ).map (.sh d::·)
 |_::ss,some s::ρ=>(aC ss ρ).map (s::·)
 |_,_=>none
def fW(n m:Nat)(ks:List Nat)(F:WS):WF:=λB P PX=>B.length=n/\(∀i s,B[i]?=⇑s->i∈ks\/s.isSh=true)/\
 F {nx:=λρ=>zx (aC B ρ) λfs=>P (.sh .non) fs
    rt:=λr ρ=>match r with
     |.v s=>zx (aC B ρ) λfs=>P s fs
     |.loc i=>zx (slot ρ i) λs=>if i<n then zx (aC B (ρ.set i ⇑(.sh s.toD))) λfs=>P (.sh s.toD) fs else zx (aC B ρ) λfs=>P s fs
    bk:=λ_=>False
    ct:=λ_=>False
    ex:=λx ρ=>zx (aC B ρ) λfs=>PX x fs} (B.map some++List.replicate (m-n) none)
def fg(c f:List Nat)(B:Ends)(ρ:Env):Option D->Prop
 |some (.int i)=>B.ex (.exc c [f] [.int i]) ρ
 |_=>False
def iG(c f:List Nat)(a:WE):WS:=λD ρ=>a ρ (λr i=>fg c f D i (view r i)) D.ex
def tM(kn:List (List Nat))(f:List Nat):D->Option D
 |.exc c [g] [v]=>if kn.contains c&&g==f then ⇑v else none
 |_=>none
def iZ(kn:List (List Nat))(f:List Nat)(a:WE):WE:=λρ Q E=>a ρ (λx i=>zx (view x i) λd=>zx (tM kn f d) λv=>Q (.v (.sh v)) i) E
def fu(cs:List (List Nat))(d:D):Prop:=∃c∈cs,∃fs vs,d=.exc c fs vs
def iF(cs:List (List Nat))(j:Nat)(wb F:WS):WS:=λD ρ=>wb {D with ex:=λd B=>fu cs d/\F {nx:=λi=>D.nx (i.set j none),rt:=λ_ _=>False,bk:=λ_=>False,ct:=λ_=>False,ex:=NX} (B.set j ⇑(.sh d))} ρ
def tX(kn yes:List (List Nat)):D->Option Bool
 |.non=>⇑false
 |.exc c _ _=>if kn.contains c then ⇑(yes.contains c)else none
 |_=>none
def jA(kn yes:List (List Nat))(a:WE):WE:=λρ Q E=>a ρ (λx i=>zx (view x i) λd=>zx (tX kn yes d) λb=>Q (.v (.sh (.bl b))) i) E
end FL
namespace FL
open PySem L2
def aY:bX->D
 |.inl i=>.int i
 |.inr x=>.str x.cps.toList
def jH(a C:Addr)(dx:Option Addr)(h:Heap):Prop:=∃o vs,h.get? a=⇑o/\o.cls=.ref C/\o.dict=dx/\o.data=.fields vs
def eS:HO->Bool
 |.tup _=>false
 |_=>true
def mI(F:Hp)(dx:Option Addr)(fs:List (List Nat))(vs:List D):Prop:=(dx=none/\fs=[]/\vs=[])\/∃p f i,dx=⇑p/\fs=[f]/\vs=[.int i]/\F p=⇑(.xd [((#[f.toArray]:Str),.int i)])
mutual
inductive aP(K:W.Frag)(F:Hp):V->D->Prop
 |non:aP K F .non .non
 |bl (b:Bool):aP K F (.bl b) (.bl b)
 |int (i:Int):aP K F (.int i) (.int i)
 |str {x:Str} {l:List Nat}:x.cps.toList=l->l.length<=16777216->aP K F (.str x) (.str l)
 |tup {a:Addr} {xs:List V} {ds:List D}:F a=some (.tup xs)->zQ K F xs ds->aP K F (.ref a) (.tup ds)
 |lst {a:Addr} {xs:List V} {ds:List D}:bJ K F a xs->zQ K F xs ds->aP K F (.ref a) (.lst ds)
 |dK {a:Addr} {zT:List (bX×V)} {ks vs:List D}:Rd F a (.dK zT)->ks=zT.map (λp=>aY p.1)->zQ K F (zT.map (·.2)) vs->aP K F (.ref a) (.dct false ks vs)
 |dT {a:Addr} {zT:List (List bX×V)} {ks vs:List D}:Rd F a (.dT zT)->ks=zT.map (λp=>D.tup (p.1.map aY))->zQ K F (zT.map (·.2)) vs->aP K F (.ref a) (.dct true ks vs)
 |st {a:Addr} {xs:List V} {ds:List D}:F a=some (.set xs)->zQ K F xs ds->aP K F (.ref a) (.set ds)
 |exc {a C:Addr} {dx:Option Addr} {c:List Nat} {fs:List (List Nat)} {vs:List D}:F a=some (.ext (jH a C dx))->W.nsIn K mainGlobals (⟨c.toArray⟩:Str)=some (some (.ref C))->mI F dx fs vs->aP K F (.ref a) (.exc c fs vs)
inductive zQ(K:W.Frag)(F:Hp):List V->List D->Prop
 |nil:zQ K F [] []
 |cons {x:V} {d:D} {xs:List V} {ds:List D}:aP K F x d->zQ K F xs ds->zQ K F (x::xs) (d::ds)
end
mutual
inductive aN(K:W.Frag)(F H:Hp):V->S->List Addr->Prop
 |sh {v:V} {d:D}:aP K F v d->aN K F H v (.sh d) []
 |lst {a:Addr} {xs:List V} {l:List S} {fp:List Addr}:H a=some (.lst xs)->zG K F H xs l fp->aN K F H (.ref a) (.lst l) (a::fp)
 |dK {a:Addr} {zT:List (bX×V)} {ks:List D} {l:List S} {fp:List Addr}:H a=some (.dK zT)->ks=zT.map (λp=>aY p.1)->zG K F H (zT.map (·.2)) l fp->aN K F H (.ref a) (.dct false ks l) (a::fp)
 |dT {a:Addr} {zT:List (List bX×V)} {ks:List D} {l:List S} {fp:List Addr}:H a=some (.dT zT)->ks=zT.map (λp=>D.tup (p.1.map aY))->zG K F H (zT.map (·.2)) l fp->aN K F H (.ref a) (.dct true ks l) (a::fp)
 |st {a:Addr} {xs:List V} {ds:List D}:H a=some (.set xs)->zQ K F xs ds->aN K F H (.ref a) (.set ds) [a]
inductive zG(K:W.Frag)(F H:Hp):List V->List S->List Addr->Prop
 |nil:zG K F H [] [] []
 |cons {x:V} {s:S} {xs:List V} {l:List S} {fp fq:List Addr}:aN K F H x s fp->zG K F H xs l fq->zG K F H (x::xs) (s::l) (fp++fq)
end
def Rd.mono(h:zy F F')(r:Rd F a u):Rd F' a u:=by
 rcases r with r|⟨o,r⟩
 .show .inl (h _ _ r)
 .show .inr #[o,h _ _ r]
def bJ.mono(h:zy F F')(r:bJ K F a xs):bJ K F' a xs:=r.elim (λr=>.inl (Rd.mono h r)) .inr
def bD.mono(h:zy F F')(r:bD K F a xs):bD K F' a xs:=r.elim (λr=>.inl (Rd.mono h r)) .inr
def zQ.ind{P:List V->List D->Prop}(hn:P [] [])(B:∀{x:V}{d:D}{xs:List V}{ds:List D},aP K F x d->zQ K F xs ds->P xs ds->P (x::xs) (d::ds))(r:zQ K F xs ds):P xs ds:=
 zQ.rec (motive_1:=λ_ _ _=>True) (motive_2:=λxs ds _=>P xs ds) trivial (λ_=>trivial) (λ_=>trivial) (λ_ _=>trivial) (λ_ _ _=>trivial) (λ_ _ _=>trivial) (λ_ _ _ _=>trivial) (λ_ _ _ _=>trivial) (λ_ _ _=>trivial) (λ_ _ _=>trivial) hn (λa b _ i=>B a b i) r
def zG.ind{P:List V->List S->List Addr->Prop}(hn:P [] [] [])(B:∀{x:V}{s:S}{xs:List V}{l:List S}{fp fq:List Addr},aN K F H x s fp->zG K F H xs l fq->P xs l fq->P (x::xs) (s::l) (fp++fq))(r:zG K F H xs l fp):P xs l fp:=
 zG.rec (motive_1:=λ_ _ _ _=>True) (motive_2:=λxs l fp _=>P xs l fp) (λ_=>trivial) (λ_ _ _=>trivial) (λ_ _ _ _=>trivial) (λ_ _ _ _=>trivial) (λ_ _=>trivial) hn (λa b _ i=>B a b i) r
def mI.mono(h:zy F F')(x:mI F dx fs vs):mI F' dx fs vs:=x.imp id λ⟨p,f,i,J,I,G,B⟩=>#[p,f,i,J,I,G,h _ _ B]
def aP.mono(h:zy F F')(r:aP K F v d):aP K F' v d:=
 aP.rec (motive_1:=λv d _=>aP K F' v d) (motive_2:=λv d _=>zQ K F' v d) .non .bl .int (λe z=>.str e z) (λe _ i=>.tup (h _ _ e) i) (λe _ i=>.lst (bJ.mono h e) i) (λe k _ i=>.dK (Rd.mono h e) k i) (λe k _ i=>.dT (Rd.mono h e) k i) (λe _ i=>.st (h _ _ e) i) (λe k x=>.exc (h _ _ e) k (x.mono h)) .nil (λ_ _ a b=>.cons a b) r
def zQ.mono(h:zy F F')(r:zQ K F v d):zQ K F' v d:=zQ.ind .nil (λa _ i=>.cons (aP.mono h a) i) r
def aN.mono(h:zy F F')(r:aN K F H v s fp):(∀a∈fp,H' a=H a)->aN K F' H' v s fp:=
 aN.rec (motive_1:=λv s fp _=>(∀a∈fp,H' a=H a)->aN K F' H' v s fp) (motive_2:=λv s fp _=>(∀a∈fp,H' a=H a)->zG K F' H' v s fp)
  (λr _=>.sh (aP.mono h r)) (λe _ i k=>.lst ((k _ qm).trans e) (i λa B=>k a (qk _ B)))
  (λe q _ i k=>.dK ((k _ qm).trans e) q (i λa B=>k a (qk _ B))) (λe q _ i k=>.dT ((k _ qm).trans e) q (i λa B=>k a (qk _ B)))
  (λe r k=>.st ((k _ qm).trans e) (zQ.mono h r)) (λ_=>.nil) (λ_ _ a b k=>.cons (a λc G=>k c (qj _ G)) (b λc G=>k c (qi _ G))) r
def zG.mono(h:zy F F')(r:zG K F H v s fp):(∀a∈fp,H' a=H a)->zG K F' H' v s fp:=
 zG.ind (P:=λv s fp=>(∀a∈fp,H' a=H a)->zG K F' H' v s fp) (λ_=>.nil) (λa _ b k=>.cons (aN.mono h a λc i=>k c (qj _ i)) (b λc i=>k c (qi _ i))) r
def aN.frz(h:zy F F')(r:aN K F H v s fp):(∀a∈fp,F' a=H a)->aP K F' v s.toD:=
 aN.rec (motive_1:=λv s fp _=>(∀a∈fp,F' a=H a)->aP K F' v s.toD) (motive_2:=λv s fp _=>(∀a∈fp,F' a=H a)->zQ K F' v (S.toDs s))
  (λr _=>aP.mono h r) (λe _ i k=>.lst (bJ.of ((k _ qm).trans e)) (i λa B=>k a (qk _ B)))
  (λe q _ i k=>.dK (.of ((k _ qm).trans e)) q (i λa B=>k a (qk _ B))) (λe q _ i k=>.dT (.of ((k _ qm).trans e)) q (i λa B=>k a (qk _ B)))
  (λe r k=>.st ((k _ qm).trans e) (zQ.mono h r)) (λ_=>.nil) (λ_ _ a b k=>.cons (a λc G=>k c (qj _ G)) (b λc G=>k c (qi _ G))) r
def zG.frz(h:zy F F')(r:zG K F H v s fp):(∀a∈fp,F' a=H a)->zQ K F' v (S.toDs s):=
 zG.ind (P:=λv s fp=>(∀a∈fp,F' a=H a)->zQ K F' v (S.toDs s)) (λ_=>.nil) (λa _ b k=>.cons (aN.frz h a λc i=>k c (qj _ i)) (b λc i=>k c (qi _ i))) r
def aN.view(h:zy F H)(r:aN K F H v s fp):aP K H v s.toD:=aN.frz h r λ_ _=>rfl
def aN.in_:∀{v:V}{s:S}{fp:List Addr},aN K F H v s fp->∀a∈fp,∃o,H a=⇑o/\eS o=true:=by
 intro v s fp r;show aN.rec (motive_1:=λv s fp _=>∀a∈fp,∃o,H a=⇑o/\eS o=true) (motive_2:=λv s fp _=>∀a∈fp,∃o,H a=⇑o/\eS o=true) ?_ ?_ ?_ ?_ ?_ ?_ ?_ r
 .intro v d r a i;cases i
 .grind[eS]
 .grind[eS]
 .grind[eS]
 .grind[eS]
 .intro a i;cases i
 grind
inductive zF(K:W.Frag)(F H:Hp):Env->St->List Addr->Prop
 |nil:zF K F H [] [] []
 |no {ρ:Env} {σ:St} {o:Option V} {fp:List Addr}:zF K F H ρ σ fp->zF K F H (none::ρ) (o::σ) fp
 |so {ρ:Env} {σ:St} {v:V} {s:S} {fp fq:List Addr}:aN K F H v s fp->zF K F H ρ σ fq->zF K F H (some s::ρ) (some v::σ) (fp++fq)
def zF.len(r:zF K F H ρ σ fp):ρ.length=σ.length:=by
 induction r with
 |nil=>rfl
 |no _ i=>show congrArg (·+1) i
 |so _ _ i=>show congrArg (·+1) i
def zF.mono(h:zy F F')(r:zF K F H ρ σ fp)(k:∀a∈fp,H' a=H a):zF K F' H' ρ σ fp:=by
 induction r with
 |nil=>show .nil
 |no _ i=>show .no (i k)
 |so a _ i=>show .so (aN.mono h a λc B=>k c (qj _ B)) (i λc B=>k c (qi _ B))
def zF.in_(r:zF K F H ρ σ fp):∀a∈fp,∃o,H a=⇑o/\eS o=true:=by
 induction r with
 |nil=>show λa B=>nomatch B
 |no _ i=>show i
 |so q _ i=>show λa B=>(qx.mp B).elim (λz=>aN.in_ q a z) λz=>i a z
def zF.app(r:zF K F H ρ σ fp)(B:zF K F H ρ' σ' fq):zF K F H (ρ++ρ') (σ++σ') (fp++fq):=by
 induction r with
 |nil=>show B
 |no _ i=>show .no i
 |so a _ i=>rw[qo];show .so a i
inductive dh(K:W.Frag)(F H:Hp)(ρ:Env)(σ:St)(ρ':Env)(σ':St)(fp:List Addr):Prop
 |mk (f1 f2:List Addr):fp=f1++f2->zF K F H ρ σ f1->zF K F H ρ' σ' f2->dh K F H ρ σ ρ' σ' fp
def zF.cut(e:ρ.length=σ.length)(r:zF K F H (ρ++ρ') (σ++σ') fp):dh K F H ρ σ ρ' σ' fp:=by
 induction ρ generalizing σ fp with
 |nil=>cases σ with
  |nil=>show#[[],fp,rfl,.nil,r]
  |cons _ _=>show absurd e.symm (Nat.succ_ne_zero _)
 |cons x ρ B=>cases σ with
  |nil=>show absurd e (Nat.succ_ne_zero _)
  |cons y σ=>cases r with
   |no r=>let#[G,i,rfl,a,b]:=B (Nat.succ.inj e) r;show#[G,i,rfl,.no a,b]
   |so q r=>let#[G,i,rfl,a,b]:=B (Nat.succ.inj e) r;show#[_,i,(qo ..).symm,.so q a,b]
def og(K:W.Frag)(F H:Hp)(ρ:Env)(σ:St)(i:Nat)(G B:List Addr):Prop:=∀{F' H':Hp}{o:Option S}{u:Option V}{fi':List Addr},zy F F'->(∀a∈G++B,H' a=H a)->(zF K F' H' [o] [u] fi')->zF K F' H' (ρ.set i o) (σ.set i u) (G++(fi'++B))
inductive oh(K:W.Frag)(F H:Hp)(ρ:Env)(σ:St)(fp:List Addr)(i:Nat)(s:S):Prop
 |mk (v:V) (fa fi fb:List Addr):σ[i]?=some (some v)->fp=fa++(fi++fb)->aN K F H v s fi->og K F H ρ σ i fa fb->oh K F H ρ σ fp i s
inductive dg(K:W.Frag)(F H:Hp)(ρ:Env)(σ:St)(fp:List Addr)(i:Nat):Prop
 |mk (fa fi fb:List Addr):fp=fa++(fi++fb)->og K F H ρ σ i fa fb->dg K F H ρ σ fp i
def zF.at:∀{ρ:Env}{σ:St}{fp:List Addr}{i:Nat}{s:S},zF K F H ρ σ fp->slot ρ i=⇑s->oh K F H ρ σ fp i s
 |_,_,_,_,_,.nil,e=>by simp[slot]at e
 |_,_,_,0,_,.no r,e=>by simp at e
 |_,_,_,0,s,.so (fp:=fp) (fq:=fq) q r,e=>by simp at e;subst e;show#[_,[],fp,fq,rfl,rfl,q,λ{Y H' o u I} h k x=>?_];let U:=zF.mono (H':=H') h r λa B=>k a B;show x.app U
 |_,_,_,i+1,s,.no r,e=>by let#[v,M,J,L,O,rfl,q,G]:=zF.at r e;show#[v,M,J,L,O,rfl,q,λh k x=>.no (G h k x)]
 |_,_,_,i+1,s,.so (fp:=fp) (fq:=fq) p r,e=>by let#[v,M,J,L,O,rfl,q,G]:=zF.at r e;show#[v,fp++M,J,L,O,(qo ..).symm,q,λ{Y H' o u I} h k x=>?_];rw[qo];show .so (aN.mono h p λa B=>k a (qj _ (qj _ B))) (G h (λa B=>k a ((qx.mp B).elim (λz=>qj _ (qi _ z)) λz=>qi _ z)) x)
def zF.put:∀{ρ:Env}{σ:St}{fp:List Addr}{i:Nat},zF K F H ρ σ fp->i<ρ.length->dg K F H ρ σ fp i
 |_,_,_,_,.nil,e=>by simp at e
 |_,_,fp,0,.no r,e=>#[[],[],fp,rfl,λ{O H' o u G} h k x=>x.app (zF.mono (H':=H') h r λa B=>k a B)]
 |_,_,_,0,.so (fp:=fp) (fq:=fq) q r,e=>#[[],fp,fq,rfl,λ{O H' o u G} h k x=>x.app (zF.mono (H':=H') h r λa B=>k a B)]
 |_,_,_,i+1,.no r,e=>by let#[M,J,L,rfl,I]:=zF.put (i:=i) r ↑e;show#[M,J,L,rfl,λh k x=>.no (I h k x)]
 |_,_,_,i+1,.so (fp:=fp) (fq:=fq) p r,e=>by let#[M,J,L,rfl,I]:=zF.put (i:=i) r ↑e;show#[fp++M,J,L,(qo ..).symm,λ{O H' o u G} h k x=>?_];rw[qo];show .so (aN.mono h p λa B=>k a (qj _ (qj _ B))) (I h (λa B=>k a ((qx.mp B).elim (λz=>qj _ (qi _ z)) λz=>qi _ z)) x)
inductive nv(K:W.Frag)(ρ:Env)(σ:St)(F G H:Hp):Prop
 |mk (fp:List Addr):zF K F H ρ σ fp->fp.Nodup->(∀a∈fp,F a=none/\G a=none)->nv K ρ σ F G H
structure Rel(K:W.Frag)(ρ:Env)(σ:St)(F G H:Hp):Prop where
 fr:zy F H
 gr:∀a o,G a=⇑o->(H a=⇑o/\eS o=true)/\F a=none
 en:nv K ρ σ F G H
def Rel.len(r:Rel K ρ σ F G H):ρ.length=σ.length:=let⟨_,e,_,_⟩:=r.en;e.len
def Rel.free(r:Rel K ρ σ F G H)(h:H p=none):F p=none/\G p=none/\∀fp,zF K F H ρ σ fp->p∉fp:=by
 show#[?_,?_,λfp e i=>?_]
 .cases q:F p with
  |none=>rfl
  |some o=>rw[r.fr p o q]at h;cases h
 .cases q:G p with
  |none=>rfl
  |some o=>rw[(r.gr p o q).1.1]at h;cases h
 .obtain⟨o,q,_⟩:=e.in_ p i;rw[h]at q;cases q
def zy.upd(h:F p=none):zy F (upd F p o):=λb u e=>by rw[Aj (λz=>by rw[z,h]at e;cases e)];show e
def zy.upd2(h:zy F H):zy (L2.upd F p o) (L2.upd H p o):=λb u e=>by
 by_cases q:b=p
 .subst q;rw[AB]at e⊢;show e
 .rw[Aj q]at e⊢;show h b u e
def zy.updR(h:zy F H)(n:F p=none):zy F (L2.upd H p o):=λb u e=>by rw[Aj (λz=>by rw[z,n]at e;cases e)];show h b u e
def Rel.newF(r:Rel K ρ σ F G H)(h:H p=none):Rel K ρ σ (upd F p o) G (upd H p o):=by
 let#[O,M,L]:=r.free h;let#[fp,e,J,U]:=r.en;let B:∀a∈fp,a≠p:=λa i z=>L fp e (z▸i);show#[zy.upd2 r.fr,λa u q=>?_,fp,e.mono (zy.upd O) λa i=>Aj (B a i),J,λa i=>?_]
 .let I:a≠p:=λz=>by rw[z,M]at q;cases q
  rw[Aj I,Aj I];show r.gr a u q
 .rw[Aj (B a i)];show U a i
def Rel.newO(r:Rel K ρ σ F G H)(h:H p=none)(q:aN K F (upd H p o) (.ref p) s [p]):Rel K (ρ++[⇑s]) (σ++[⇑(.ref p)]) F G (upd H p o):=by
 let#[M,L,I]:=r.free h;let#[fp,e,O,U]:=r.en;let B:∀a∈fp,a≠p:=λa i z=>I fp e (z▸i);show#[zy.updR r.fr M,λa u q=>?_,fp++([p]++[]),(e.mono (zy.refl F) λa i=>Aj (B a i)).app (.so q .nil),?_,λa i=>?_]
 .let J:a≠p:=λz=>by rw[z,L]at q;cases q
  rw[Aj J];show r.gr a u q
 .grind
 grind
def Rel.drop(r:Rel K (ρ++ρ') (σ++σ') F G H)(h:ρ.length=σ.length):Rel K ρ σ F G H:=by let#[L,e,i,J]:=r.en;let#[I,M,rfl,a,b]:=e.cut h;show#[r.fr,r.gr,I,a,(qw.mp i).1,λc B=>J c (qj _ B)]
def Rel.hide(r:Rel K (ρ++ρ') (σ++σ') F G H)(h:ρ.length=σ.length):∃M,Rel K ρ σ F M H/\zy G M/\
  ∀{ρ2:Env}{σ2:St}{J H2:Hp},zy F J->Rel K ρ2 σ2 J M H2->Rel K (ρ2++ρ') (σ2++σ') J G H2:=by
 classical
 let#[fp,e,Y,ap]:=r.en;let#[f1,I,rfl,a,b]:=e.cut h;let#[n1,n2,Z]:=qw.mp Y;show#[λx=>if x∈I then H x else G x,#[r.fr,λx o q=>?_,f1,a,n1,λx i=>?_],λx o q=>?_,λ{ρ2 σ2 J H2} O L=>?_]
 .by_cases z:x∈I
  .let:=b.in_ x z;grind
  .simp only[z]at q;show r.gr x o q
 .grind
 .grind
 .obtain⟨B,e2,U,h1⟩:=L.en;let hk:∀x∈I,H2 x=H x/\J x=none/\x∉B:=λx i=>by let#[o,q,_]:=b.in_ x i;let w:=L.gr x o (by simp only[i];show q);grind
  show#[L.fr,λx o q=>?_,B++I,e2.app (b.mono O λx i=>(hk x i).1),?_,λx i=>?_]
  .let z:x∉I:=λz=>by grind
   show L.gr x o (by simp only[z];show q)
  .grind
  grind
def Rel.weakG(r:Rel K ρ σ F G' H)(h:zy G G'):Rel K ρ σ F G H:=by
 let#[J,e,I,B]:=r.en;show#[r.fr,λa o q=>r.gr a o (h a o q),J,e,I,λa i=>#[(B a i).1,?_]];cases q:G a with
 |none=>rfl
 |some o=>have:=(B a i).2;rw[h a o q]at this;cases this
def Rel.swap(h:ρ.length=σ.length)(h1:ρ1.length=σ1.length)(r:Rel K (ρ++(ρ1++ρ2)) (σ++(σ1++σ2)) F G H):Rel K (ρ++(ρ2++ρ1)) (σ++(σ2++σ1)) F G H:=by let#[Y,e,J,U]:=r.en;let#[I,M,rfl,a,b]:=e.cut h;let#[B,i,rfl,O,c]:=b.cut h1;let p:(I++(i++B)).Perm (I++(B++i)):=List.Perm.append_left _ qM;show#[r.fr,r.gr,_,a.app (c.app O),p.nodup_iff.mpr J,λx L=>U x (p.mem_iff.mp L)]
def Rel.push(r:Rel K ρ σ F G H)(h:aP K F v d):Rel K (ρ++[⇑(.sh d)]) (σ++[⇑v]) F G H:=by
 let#[I,e,i,J]:=r.en;show#[r.fr,r.gr,I++([]++[]),e.app (.so (.sh h) .nil),?_,λx B=>J x ?_]
 .simpa using i
 .simpa using B
def Rel.pushN(r:Rel K ρ σ F G H):Rel K (ρ++[none]) (σ++[u]) F G H:=by
 let#[I,e,i,J]:=r.en;show#[r.fr,r.gr,I++[],e.app (.no .nil),?_,λx B=>J x ?_]
 .simpa using i
 .simpa using B
def LY(h:slot ρ i=⇑s):ρ[i]?=⇑⇑s:=by
 induction ρ generalizing i with
 |nil=>simp[slot]at h
 |cons a r B=>cases i with
  |zero=>simp at h;simp[h]
  |succ i=>simp at h;simpa using B h
def De(h:slot ρ i=⇑s):i<ρ.length:=(qg.mp (LY h)).1
def DU(h:i<ρ.length):slot (ρ++ρ') i=slot ρ i:=by
 induction ρ generalizing i with
 |nil=>simp at h
 |cons a r B=>cases i with
  |zero=>rfl
  |succ i=>simpa using B ↑h
def CL:slot (ρ++o::ρ') ρ.length=o:=by
 induction ρ with
 |nil=>rfl
 |cons a r i=>simpa using i
inductive nu(K:W.Frag)(F H:Hp)(σ:St)(i:Nat)(s:S):Prop
 |mk (v:V) (fp:List Addr):σ[i]?=some (some v)->aN K F H v s fp->nu K F H σ i s
def Rel.at(r:Rel K ρ σ F G H)(h:slot ρ i=⇑s):nu K F H σ i s:=by let#[L,e,J,U]:=r.en;let#[v,O,B,M,I,_,q,_]:=e.at h;show#[v,B,I,q]
def Rel.give(r:Rel K ρ σ F G H)(h:slot ρ i=⇑s):∃v F',σ[i]?=⇑⇑v/\zy F F'/\aP K F' v s.toD/\Rel K (ρ.set i ⇑(.sh s.toD)) σ F' G H:=by
 classical
 let#[fp,e,U,ap]:=r.en;let#[v,fa,B,Z,e1,rfl,q,M]:=e.at h;let#[na,O,Y]:=qw.mp U;let I:zy F (λx=>if x∈B then H x else F x):=λx o w=>by grind
 let J:aP K (λx=>if x∈B then H x else F x) v s.toD:=q.frz I λx L=>by simp[L,if_true]
 let e2:σ.set i ⇑v=σ:=by apply ext_getElem?;grind
 show#[v,_,e1,I,J,λx o w=>?_,λx o w=>?_,fa++([]++Z),?_,?_,λx L=>?_]
 .by_cases z:x∈B
  .simp only[z]at w;show w
  .simp only[z]at w;show r.fr x o w
 .let w2:=r.gr x o w;grind
 .let:=M (F':=λx=>if x∈B then H x else F x) (H':=H) (o:=⇑(.sh s.toD)) (u:=⇑v) (fi':=[]) I (λ_ _=>rfl) (.so (.sh J) .nil);rw[e2]at this;show this
 .grind
 grind
def Rel.store(r:Rel K (ρ++[o]) (σ++[u]) F G H)(h:ρ.length=σ.length)(hi:i<ρ.length):Rel K (ρ.set i o) (σ.set i u) F G H:=by
 let#[fp,e,J,ap]:=r.en;let#[f1,Z,rfl,a,b]:=e.cut h;let#[Y,fi,U,rfl,B]:=a.put hi;let#[O,n2,M]:=qw.mp J;let#[na,I,L]:=qw.mp O;show#[r.fr,r.gr,Y++(Z++U),B (zy.refl F) (λ_ _=>rfl) b,?_,λx hx=>?_]
 .grind
 grind
end FL
namespace FL
open PySem PySem.Spec PyProof.Rows L2
abbrev St:=L2.St
abbrev wp(X:Cx)(pn:List (Addr×Obj))(xe:zr):Cx:={X with pn:=pn,xe:=xe}
def zz:R->Option S
 |.v s=>⇑s
 |.loc _=>none
@[inline]def RV(σ:St)(v:V):R->Prop
 |.v _=>True
 |.loc i=>σ[i]?=⇑⇑v
def oX(σ:St):List V->List R->Prop
 |[],[]=>True
 |v::vs,r::rs=>RV σ v r/\oX σ vs rs
 |_,_=>False
def bz(K:W.Frag)(F:Hp)(d:D)(C:Addr)(dx:Option Addr):Prop:=∃c fs vs,d=.exc c fs vs/\W.nsIn K mainGlobals (#[c.toArray]:Str)=⇑⇑(.ref C)/\mI F dx fs vs
def lh(X:Cx)(F H:Hp)(h:Heap)(u:Value)(d:D):Prop:=∃e C dx,u=.ref e/\bz X.K F d C dx/\iT X [] H h e (.ref C) dx
@[inline]def KP(ks:List Nat)(σ σ':St):Prop:=∀i∈ks,σ'[i]?=σ[i]?
@[inline]def XC(X:Cx)(T:St->Prop)(F G:Hp)(PX:WX):Prop:=∀(d:D)(ρ':Env)(σ':St)(F' H':Hp)(u:Value)(s':Shared),PX d ρ'->T σ'->zy F F'->Rel X.K ρ' σ' F' G H'->Inv X [] σ' H' s'->lh X F' H' s'.heap u d->X.xe u s'
def XC.mono(h:XC X T F G PX)(t:∀σ,T' σ->T σ)(f:zy F F')(g:zy G G'):XC X T' F' G' PX:=
 λd B i L H2 u s' p q J r I x=>h d B i L H2 u s' p (t _ q) (f.trans J) (r.weakG g) I x
def XC.grow(h:XC X T F G PX)(f:zy F F'):XC X T F' G PX:=h.mono (λ_ z=>z) f (zy.refl G)
inductive tW(X:Cx)(w:WE)(σ:St)(H:Hp)(Q:VK):Prop
 |mk (F G:Hp) (ρ:Env) (P:WQ) (PX:WX) (zU:Rel X.K ρ σ F G H) (hw:w ρ P PX) (hok:∀r ρ' v F' H',P r ρ'->zy F F'->Rel X.K (ρ'++[zz r]) (σ++[some v]) F' G H'->RV σ v r->Q v H') (hx:XC X (·=σ) F G PX):tW X w σ H Q
@[inline]def FE(X:Cx)(e:Expr)(w:WE):Prop:=∀(pn:List (Addr×Obj))(xe:zr),PassesOwn (model X.prog X.w) X.A X.env xe->PE (wp X pn xe) e (tW (wp X pn xe) w)
inductive mE(X:Cx)(w:WT)(σ:St)(H:Hp)(Q:Bool->Hp->Prop):Prop
 |mk (F G:Hp) (ρ:Env) (P:Bool->Env->Prop) (PX:WX) (zU:Rel X.K ρ σ F G H) (hw:w ρ P PX) (hok:∀b ρ' F' H',P b ρ'->zy F F'->Rel X.K ρ' σ F' G H'->Q b H') (hx:XC X (·=σ) F G PX):mE X w σ H Q
@[inline]def FT(X:Cx)(e:Expr)(w:WT):Prop:=∀(pn:List (Addr×Obj))(xe:zr),PassesOwn (model X.prog X.w) X.A X.env xe->PT (wp X pn xe) e (mE (wp X pn xe) w)
@[inline]def FW(X:Cx)(e:Expr)(w:WT):Prop:=∀(pn:List (Addr×Obj))(xe:zr),PassesOwn (model X.prog X.w) X.A X.env xe->PW (wp X pn xe) e (mE (wp X pn xe) w)
inductive uH(X:Cx)(w:WA)(σ:St)(H:Hp)(Q:List V->Hp->Prop):Prop
 |mk (F G:Hp) (ρ:Env) (P:List R->Env->Prop) (PX:WX) (zU:Rel X.K ρ σ F G H) (hw:w ρ P PX) (hok:∀rs ρ' vs F' H',P rs ρ'->zy F F'->Rel X.K (ρ'++rs.map zz) (σ++vs.map some) F' G H'->ρ'.length=σ.length->oX σ vs rs->Q vs H') (hx:XC X (·=σ) F G PX):uH X w σ H Q
@[inline]def FA(X:Cx)(es:List Expr)(w:WA):Prop:=∀(pn:List (Addr×Obj))(xe:zr),PassesOwn (model X.prog X.w) X.A X.env xe->PA (wp X pn xe) es (uH (wp X pn xe) w)
def PE.imp(h:PE X e t)(k:∀σ H Q,t' σ H Q->t σ H Q):PE X e t':=λzS s σ H Q I q=>h zS s σ H Q I (k σ H Q q)
def PT.imp(h:PT X e t)(k:∀σ H Q,t' σ H Q->t σ H Q):PT X e t':=λzS s σ H Q I q=>h zS s σ H Q I (k σ H Q q)
def PW.imp(h:PW X e t)(k:∀σ H Q,t' σ H Q->t σ H Q):PW X e t':=λi zS s σ H Q I q=>h i zS s σ H Q I (k σ H Q q)
def PA.imp(h:PA X e t)(k:∀σ H Q,t' σ H Q->t σ H Q):PA X e t':=λp zS s σ H Q I q=>h p zS s σ H Q I (k σ H Q q)
section
variable{K:W.Frag}
def Rel.mid(r:Rel K (ρ++o::ρ') (σ++w::σ') F G H)(h:ρ.length=σ.length):Rel K (ρ++ρ') (σ++σ') F G H:=by let#[fp,e,B,ap]:=r.en;let#[Z,Y,rfl,a,b]:=e.cut h;let#[Y,U,rfl,b,c]:=zF.cut (ρ:=[o]) (σ:=[w]) rfl b;let#[M,L,J]:=qw.mp B;let#[n4,I,n6]:=qw.mp L;show#[r.fr,r.gr,Z++U,a.app c,qw.mpr #[M,I,λx i y O=>J x i y (qi _ O)],λx i=>ap x ?_];grind
def Af(r:Rel K (ρ++[o]) (σ++[w]) F G H):ρ.length=σ.length:=by let:=r.len;simpa using this
def GX:(ρ++o::ρ').set ρ.length o'=ρ++o'::ρ':=by
 induction ρ with
 |nil=>rfl
 |cons a r i=>simpa using i
inductive Nd{α:Type}(o:Option α)(k:α->Prop):Prop
 |mk (a:α):o=some a->k a->Nd o k
def Ag(h:zx o k):Nd o k:=by
 cases o with
 |none=>show h.elim
 |some a=>show#[a,rfl,h]
def bH(K:W.Frag)(F H:Hp)(v:V)(d:D):Prop:=aP K F v d\/
 (∃a xs ds,v=.ref a/\d=.lst ds/\H a=⇑(.lst xs)/\zQ K F xs ds)\/
 (∃a zT ks vs,v=.ref a/\d=.dct false ks vs/\H a=⇑(.dK zT)/\ks=zT.map (λp=>aY p.1)/\zQ K F (zT.map (·.2)) vs)\/
 (∃a zT ks vs,v=.ref a/\d=.dct true ks vs/\H a=⇑(.dT zT)/\ks=zT.map (λp=>D.tup (p.1.map aY))/\zQ K F (zT.map (·.2)) vs)
def bH.mono(h:zy F F')(r:bH K F H v d):bH K F' H v d:=by
 rcases r with r|⟨a,xs,L,I,G,B,r⟩|⟨a,i,ks,vs,I,G,B,J,r⟩|⟨a,i,ks,vs,I,G,B,J,r⟩
 .show .inl (r.mono h)
 .show .inr (.inl #[a,xs,L,I,G,B,r.mono h])
 .show .inr (.inr (.inl #[a,i,ks,vs,I,G,B,J,r.mono h]))
 .show .inr (.inr (.inr #[a,i,ks,vs,I,G,B,J,r.mono h]))
def zG.sh(r:zG K F H xs l fp):l.all S.isSh=true->zQ K F xs (l.map S.toD)/\fp=[]:=
 zG.ind (P:=λxs l fp=>l.all S.isSh=true->zQ K F xs (l.map S.toD)/\fp=[]) (λ_=>#[.nil,rfl]) (λa _ i h=>by
  rw[List.all_cons,and_eq_true]at h;let#[q,e]:=i h.2;cases a with
  |sh r=>show#[.cons r q,e]
  |_=>show absurd h.1 (by simp[S.isSh])) r
theorem look(r:Rel K (ρ++(zz x::ρ')) (σ++(⇑v::σ')) F G H)(h:ρ.length=σ.length)(O:RV σ v x)(e:view x ρ=⇑d):aP K H v d:=by
 cases x with
 |v s=>
  let#[u,U,B,q]:=r.at (i:=ρ.length) (s:=s) CL;rw[h,getElem?_append_right (q8 _)]at B;let M:v=u:=↑B
  subst M;let L:s.toD=d:=qf e;rw[<-L];show q.view r.fr
 |loc i=>
  let I:(slot ρ i).map S.toD=⇑d:=e;cases q:slot ρ i with
  |none=>rw[q]at I;cases I
  |some s=>
   rw[q]at I;let L:s.toD=d:=qf I;let hi:=De q;let#[u,U,B,w]:=r.at (i:=i) (s:=s) (by rw[DU hi];show q);rw[getElem?_append_left (h▸hi)]at B;let J:σ[i]?=⇑⇑v:=O;rw[J]at B;let M:v=u:=↑B
   subst M;rw[<-L];show w.view r.fr
inductive nr(K:W.Frag)(ρ:Env)(σ:St)(F G H:Hp)(v:V)(d:D):Prop
 |mk (F':Hp):zy F F'->bH K F' H v d->Rel K ρ σ F' G H->nr K ρ σ F G H v d
def AG(r:Rel K (ρ++(zz x::ρ')) (σ++(⇑v::σ')) F G H)(h:ρ.length=σ.length)(rv:RV σ v x)(e:zO x ρ=⇑d):
  nr K (ρ++ρ') (σ++σ') F G H v d:=by
 cases x with
 |v s=>
  let#[u,F',B,sm,rp,r']:=r.give (i:=ρ.length) (s:=s) CL;rw[h,getElem?_append_right (q8 _)]at B;let Z:v=u:=↑B
  subst Z;let Y:s.toD=d:=qf e;rw[show(ρ++zz (.v s)::ρ').set ρ.length ⇑(S.sh s.toD)=ρ++⇑(S.sh s.toD)::ρ' from GX]at r';show#[F',sm,.inl (Y▸rp),r'.mid h]
 |loc i=>
  let e':(match slot ρ i with|some s=>if s.flat then ⇑s.toD else none|none=>none)=⇑d:=e;cases q:slot ρ i with
  |none=>rw[q]at e';cases e'
  |some s=>
   let hi:=De q;let#[u,fp,B,w]:=r.at (i:=i) (s:=s) (by rw[DU hi];show q);rw[getElem?_append_left (h▸hi)]at B;let O:σ[i]?=⇑⇑v:=rv;rw[O]at B;let Z:v=u:=↑B
   subst Z;show#[F,zy.refl F,?_,r.mid h];by_cases M:s.flat=true
   .let Y:s.toD=d:=by grind
    subst Y;cases w with
    |sh r=>show .inl r
    |lst L J=>let#[I,_]:=J.sh M;show .inr (.inl #[_,_,_,rfl,by simp,L,I])
    |dK L U J=>let#[I,_]:=J.sh M;show .inr (.inr (.inl #[_,_,_,_,rfl,by simp,L,U,I]))
    |dT L U J=>let#[I,_]:=J.sh M;show .inr (.inr (.inr #[_,_,_,_,rfl,by simp,L,U,I]))
    |st _ _=>show absurd M (by simp[S.flat])
   grind
inductive nz(K:W.Frag)(L:Prop)(ρ:Env)(σ:St)(F G H:Hp):Prop
 |mk (F':Hp):zy F F'->L->Rel K ρ σ F' G H->nz K L ρ σ F G H
def As(r:Rel K (ρ++(zz x::ρ')) (σ++(⇑v::σ')) F G H)(h:ρ.length=σ.length)(Y:RV σ v x)(e:give x ρ=⇑(s,ρ1)):
  nz K (ρ1.length=ρ.length) (ρ1++(⇑s::ρ')) (σ++(⇑v::σ')) F G H:=by
 cases x with
 |v t=>have B:⇑(t,ρ)=⇑(s,ρ1):=e;cases B;show#[F,zy.refl F,rfl,r]
 |loc i=>
  let B:(match slot ρ i with|some s=>⇑(S.sh s.toD,ρ.set i ⇑(.sh s.toD))|none=>none)=⇑(s,ρ1):=e;cases q:slot ρ i with
  |none=>rw[q]at B;cases B
  |some t=>
   rw[q]at B;cases B;let hi:=De q;let#[u,O,L,U,Z,I]:=r.give (i:=i) (s:=t) (by rw[DU hi];show q);rw[getElem?_append_left (h▸hi)]at L;let J:σ[i]?=⇑⇑v:=Y;rw[J]at L;let e2:v=u:=↑L
   subst e2;rw[List.set_append_left _ _ hi]at I;show#[O,U,by simp,?_];let#[fp,en,nd,ap]:=I.en;let hl:(ρ.set i ⇑(S.sh t.toD)).length=σ.length:=↑h
   let#[f1,M,rfl,a,b]:=en.cut hl;let b':zF K O H (none::ρ') (⇑v::σ') M:=b;cases b' with
   |no b=>show#[I.fr,I.gr,f1++([]++M),a.app (.so (.sh Z) b),↑nd,λx hx=>ap x hx]
end
def tW.mono(h:tW X w σ H Q)(k:∀v H',Q v H'->Q' v H'):tW X w σ H Q':=by let#[F,G,ρ,P,PX,B,L,I,J]:=h;show#[F,G,ρ,P,PX,B,L,λr i v M H' a b c d=>k _ _ (I r i v M H' a b c d),J]
inductive ll(X:Cx)(σ:St)(k:R->R->Env->WQ->WX->Prop)(Q:VK)(v u:V)(H:Hp):Prop
 |mk (F G:Hp) (ρ:Env) (x y:R) (P:WQ) (PX:WX) (zU:Rel X.K (ρ++[zz x,zz y]) (σ++[some v,some u]) F G H) (hl:ρ.length=σ.length) (rx:RV σ v x) (ry:RV σ u y) (hk:k x y ρ P PX) (hok:∀r ρ' v F' H',P r ρ'->zy F F'->Rel X.K (ρ'++[zz r]) (σ++[some v]) F' G H'->RV σ v r->Q v H') (hx:XC X (·=σ) F G PX):ll X σ k Q v u H
def Cp(h:tW X (λρ Q E=>wa ρ (λx ρ1=>wb ρ1 (λy ρ2=>k x y ρ2 Q E) E) E) σ H Q):
  tW X wa σ H λv H1=>tW X wb σ H1 λu H2=>ll X σ k Q v u H2:=by
 let#[F,G,ρ,P,PX,O,hw,h3,U]:=h;show#[F,G,ρ,_,PX,O,hw,λx ρ1 v F1 H1 Z J r1 M=>?_,U];let h1:=Af r1;let#[G1,i,gg,back]:=r1.hide h1;show#[F1,G1,ρ1,_,PX,i,Z,λy ρ2 u F2 H2 Y I r2 L=>?_,U.mono (λ_ z=>z) J gg];let h2:=Af r2;let r3:=back I r2;rw[qo,qo]at r3;show#[F2,G,ρ2,x,y,P,PX,Rel.swap (ρ1:=[zz y]) (σ1:=[⇑u]) (ρ2:=[zz x]) (σ2:=[⇑v]) h2 rfl r3,h2,M,L,Y,λr B v F' H' a b c d=>h3 r B v F' H' a (J.trans (I.trans b)) c d,U.grow (J.trans I)]
inductive One(X:Cx)(σ:St)(k:R->Env->WQ->WX->Prop)(Q:VK)(v:V)(H:Hp):Prop
 |mk (F G:Hp) (ρ:Env) (x:R) (P:WQ) (PX:WX) (zU:Rel X.K (ρ++[zz x]) (σ++[some v]) F G H) (hl:ρ.length=σ.length) (rx:RV σ v x) (hk:k x ρ P PX) (hok:∀r ρ' v F' H',P r ρ'->zy F F'->Rel X.K (ρ'++[zz r]) (σ++[some v]) F' G H'->RV σ v r->Q v H') (hx:XC X (·=σ) F G PX):One X σ k Q v H
theorem one(h:tW X (λρ Q E=>wa ρ (λx ρ1=>k x ρ1 Q E) E) σ H Q):tW X wa σ H λv H1=>One X σ k Q v H1:=by let#[F,G,ρ,P,PX,I,Y,L,U]:=h;show#[F,G,ρ,_,PX,I,Y,λx ρ1 v Z H1 J M O B=>#[Z,G,ρ1,x,P,PX,O,Af O,B,J,λr i v F' H' a b c d=>L r i v F' H' a (M.trans b) c d,U.grow M],U]
def OI(Z:X.N[i]?=⇑x)(U:xT X.env.scope x)(Y:autoParam ((x==("__debug__":Str))=false) dZ9)(M:autoParam ((x==("__classdict__":Str))=false) dZ9):FE X (.Name x pos) (zt i):=by
 intro pn xe hp;show PE.imp (FR (X:=wp X pn xe) Z U Y M) λσ H Q h=>?_;let#[F,G,ρ,P,PX,B,J,I,hx]:=h;unfold zt at J;cases q:slot ρ i with
 |none=>rw[q]at J;show J.elim
 |some s=>
  let#[v,fp,L,O]:=B.at q;rw[q]at J;cases s with
  |sh d=>
   cases O with
   |sh r=>show#[v,L,I _ _ v F H J (zy.refl F) (B.push r) trivial]
  |lst l=>show#[v,L,I _ _ v F H J (zy.refl F) B.pushN L]
  |dct t a b=>show#[v,L,I _ _ v F H J (zy.refl F) B.pushN L]
  |set l=>show#[v,L,I _ _ v F H J (zy.refl F) B.pushN L]
def Cc(h:∀X:Cx,PE X e (tC v))(r:∀K F,aP K F v d):FE X e (wC d):=by intro pn xe L;show PE.imp (h _) λσ H Q h=>?_;let#[F,G,ρ,P,PX,i,I,B,J]:=h;show B _ _ v F H I (zy.refl F) (i.push (r _ _)) trivial
def Ad:FE X (.Constant (.int i) j pos) (wC (.int i)):=Cc (λ_=>Ni) λ_ _=>.int i
def Dp:FE X (.Constant (.bool b) j pos) (wC (.bl b)):=Cc (λ_=>Mn) λ_ _=>.bl b
def FV:FE X (.Constant .none j pos) (wC .non):=Cc (λ_=>MM) λ_ _=>.non
def Au(e:x.cps.toList=l)(z:l.length<=16777216):FE X (.Constant (.str x) j pos) (wC (.str l)):=Cc (λ_=>NH) λ_ _=>.str e z
def OpR.or(h:OpR X f r)(h':OpR X f F):OpR X f (λx y H Q=>r x y H Q\/F x y H Q):=λzS s σ H x y v u Q I B i q=>q.elim (λz=>h zS s σ H x y v u Q I B i z) λz=>h' zS s σ H x y v u Q I B i z
def gW(K:W.Frag)(r:R2)(i:D->D->Option S):Prop:=∀(σ:St)(ρ:Env)(F G H:Hp)(x y:V)(p q:D)(s:S)(Q:VK),Rel K ρ σ F G H->bH K F H x p->bH K F H y q->i p q=⇑s->
 (∀v F' H',zy F F'->Rel K (ρ++[⇑s]) (σ++[⇑v]) F' G H'->Q v H')->r x y H Q
def CC(ho:∀pn xe,OpR (wp X pn xe) (binaryOp op) r)(hd:gW X.K r o)(ha:FE X a wa)(hb:FE X b wb):FE X (.BinOp a op b pos) (zJ o wa wb):=by intro pn xe Z;show PE.imp (MF (ho pn xe) (ha pn xe Z) (hb pn xe Z)) λσ H Q h=>?_;show(Cp (k:=λx y B Q E=>zx (zO x B) λp=>zx (zO y B) λq=>zx (o p q) λs=>Q (.v s) B) h).mono λv H1 h1=>h1.mono λu H2 h2=>?_;let#[F,G,ρ,x,y,P,PX,L,hl,rx,ry,I,U,hx]:=h2;let#[p,ep,I]:=Ag I;let#[q,eq,I]:=Ag I;let#[t,et,I]:=Ag I;let#[F1,s1,O,J]:=AG L hl rx ep;let#[F2,Y,M,i]:=AG (ρ':=[]) (σ':=[]) J hl ry eq;rw[qz,qz]at i;show hd σ ρ F2 G H2 v u p q t Q i (O.mono Y) M et λv' F' H' sm r'=>U (.v t) ρ v' F' H' I (s1.trans (Y.trans sm)) r' trivial
def uH.mono(h:uH X w σ H Q)(k:∀v H',Q v H'->Q' v H'):uH X w σ H Q':=by let#[F,G,ρ,P,PX,B,L,I,J]:=h;show#[F,G,ρ,P,PX,B,L,λr i v M H' a b c d e=>k _ _ (I r i v M H' a b c d e),J]
inductive cj(X:Cx)(σ:St)(k:R->R->Env->(Bool->Env->Prop)->WX->Prop)(Q:Bool->Hp->Prop)(v u:V)(H:Hp):Prop
 |mk (F G:Hp) (ρ:Env) (x y:R) (P:Bool->Env->Prop) (PX:WX) (zU:Rel X.K (ρ++[zz x,zz y]) (σ++[some v,some u]) F G H) (hl:ρ.length=σ.length) (rx:RV σ v x) (ry:RV σ u y) (hk:k x y ρ P PX) (hok:∀r ρ' F' H',P r ρ'->zy F F'->Rel X.K ρ' σ F' G H'->Q r H') (hx:XC X (·=σ) F G PX):cj X σ k Q v u H
def Hx(h:mE X (λρ Q E=>wa ρ (λx ρ1=>wb ρ1 (λy ρ2=>k x y ρ2 Q E) E) E) σ H Q):
  tW X wa σ H λv H1=>tW X wb σ H1 λu H2=>cj X σ k Q v u H2:=by
 let#[F,G,ρ,P,PX,O,hw,h3,U]:=h;show#[F,G,ρ,_,PX,O,hw,λx ρ1 v F1 H1 Z J r1 M=>?_,U];let h1:=Af r1;let#[G1,i,gg,back]:=r1.hide h1;show#[F1,G1,ρ1,_,PX,i,Z,λy ρ2 u F2 H2 Y I r2 L=>?_,U.mono (λ_ z=>z) J gg];let h2:=Af r2;let r3:=back I r2;rw[qo,qo]at r3;show#[F2,G,ρ2,x,y,P,PX,Rel.swap (ρ1:=[zz y]) (σ1:=[⇑u]) (ρ2:=[zz x]) (σ2:=[⇑v]) h2 rfl r3,h2,M,L,Y,λr B F' H' a b c=>h3 r B F' H' a (J.trans (I.trans b)) c,U.grow (J.trans I)]
def dG(K:W.Frag)(r:R2)(i:D->D->Option Bool):Prop:=∀(H:Hp)(x y:V)(p q:D)(k:Bool)(Q:VK),aP K H x p->aP K H y q->i p q=⇑k->Q (.bl k) H->r x y H Q
def BI{K:W.Frag}(B:Rel K (ρ++[zz x,zz y]) (σ++[⇑v,⇑u]) F G H)(I:ρ.length=σ.length)(L:RV σ v x)(J:RV σ u y)(O:view x ρ=⇑p)(M:view y ρ=⇑q):
  aP K H v p/\aP K H u q/\Rel K ρ σ F G H:=by
 let i:Rel K (ρ++[zz y]) (σ++[⇑u]) F G H:=B.mid I;show#[look B I L O,look (ρ':=[]) (σ':=[]) i I J M,i.drop I]
def Aw(ho:∀pn xe,OpR (wp X pn xe) (compareOp M) r)(hd:dG X.K r o)(ha:FE X a wa)(hb:FE X b wb)(hm:behindInMarks M b=false):FT X (.Compare a [M] [b] pos) (aG o wa wb):=by intro pn xe O;show PT.imp (Jf (ho pn xe) (ha pn xe O) (hb pn xe O) hm) λσ H Q h=>?_;show(Hx (k:=λx y i Q E=>zx (view x i) λp=>zx (view y i) λq=>zx (o p q) λc=>Q c i) h).mono λv H1 h1=>h1.mono λu H2 h2=>?_;let#[F,G,ρ,x,y,P,PX,J,hl,Y,U,B,L,hx]:=h2;let#[p,ep,B]:=Ag B;let#[q,eq,B]:=Ag B;let#[t,et,B]:=Ag B;let#[r1,Z,I]:=BI J hl Y U ep eq;show hd H2 v u p q t _ r1 Z et #[t,rfl,L t ρ F H2 B (zy.refl F) I]
def Bn(ho:∀pn xe,OpR (wp X pn xe) (compareOp M) r)(hd:dG X.K r o)(ha:FE X a wa)(hb:FE X b wb)(hm:behindInMarks M b=false):FE X (.Compare a [M] [b] pos) (eI (aG o wa wb)):=by intro pn xe O;show PE.imp (Oo (ho pn xe) (ha pn xe O) (hb pn xe O) hm) λσ H Q h=>?_;show(Cp (k:=λx y i Q E=>zx (view x i) λp=>zx (view y i) λq=>zx (o p q) λc=>Q (.v (.sh (.bl c))) i) h).mono λv H1 h1=>h1.mono λu H2 h2=>?_;let#[F,G,ρ,x,y,P,PX,J,hl,Y,U,B,L,hx]:=h2;let#[p,ep,B]:=Ag B;let#[q,eq,B]:=Ag B;let#[t,et,B]:=Ag B;let#[r1,Z,I]:=BI J hl Y U ep eq;show hd H2 v u p q t _ r1 Z et (L _ ρ (.bl t) F H2 B (zy.refl F) (I.push (.bl t)) trivial)
def IY{K:W.Frag}(r:aP K H v d)(e:fO d=⇑k):xU K v H k:=by
 cases r with
 |non=>show(qf e).symm
 |bl b=>show(qf e).symm
 |int i=>have B:=(qf e).symm;rw[B];show ↥(i≠0)=(i !=0);by_cases h:i=0<;>simp[h]
 |str G z=>
  rename_i x l;let B:=(qf e).symm;let F:x.length=l.length:=by rw[<-G];rfl
  show#[by rw[F];show z,?_];rw[B,F];cases l with
  |nil=>rfl
  |cons a r=>simp;lia
 |tup h r=>show .inr (.inl #[_,bD.of h,?_]);let B:=(qf e).symm;rw[B];cases r<;>rfl
 |lst h r=>show .inl #[_,h,?_];let B:=(qf e).symm;rw[B];cases r<;>rfl
 |dK h k r=>cases e
 |dT h k r=>cases e
 |st h r=>cases e
 |exc h k=>cases e
def Br(ha:FE X a wa)(he:∀whole,isTrue a X.env whole=(do let v<-whole;standAt a.pos;holding [v] (truthy v)):=by intro _;rfl):FT X a (cK wa):=by intro pn xe hp;show PT.imp (PR (ha pn xe hp) he) λσ H Q h=>?_;let#[F,G,ρ,P,PX,zU,hw,hok,hx]:=h;show#[F,G,ρ,_,PX,zU,hw,λx ρ1 v F1 H1 hk s1 r1 rv1=>?_,hx];let#[p,ep,hk]:=Ag hk;let#[t,et,hk]:=Ag hk;let hl:=Af r1;show#[t,IY (look (ρ':=[]) (σ':=[]) r1 hl rv1 ep) et,hok t ρ1 F1 H1 hk s1 (r1.drop hl)]
def By{k:Bool->Env->(Bool->Env->Prop)->WX->Prop}(h:mE X (λρ Q E=>ta ρ (λc ρ1=>k c ρ1 Q E) E) σ H Q)
  (U:∀(c:Bool)(F G:Hp)(ρ:Env)(P:Bool->Env->Prop)(PX:WX)(H1:Hp),Rel X.K ρ σ F G H1->k c ρ P PX->(∀r ρ' F' H',P r ρ'->zy F F'->Rel X.K ρ' σ F' G H'->Q r H')->XC X (·=σ) F G PX->Q' c H1):mE X ta σ H Q':=by
 let#[F,G,ρ,P,PX,i,M,B,J]:=h;show#[F,G,ρ,_,PX,i,M,λc ρ1 Y H1 O I L=>U c Y G ρ1 P PX H1 L O (λr ρ' F' H' a b c=>B r ρ' F' H' a (I.trans b) c) (J.grow I),J]
def Bo(h:FW X a ta):FT X a ta:=λpn xe i=>(h pn xe i).pt
def DM(h:FT X a ta):FW X (.BoolOp .And [a] pos) ta:=λpn xe i=>NW (h pn xe i)
def CA(h:FT X a ta):FW X (.BoolOp .Or [a] pos) ta:=λpn xe i=>MD (h pn xe i)
def Dz{rest:List Expr}(h:FT X a ta)(h':FW X (.BoolOp .And (b::rest) pos) tb):FW X (.BoolOp .And (a::b::rest) pos) (fM ta tb):=λpn xe J=>by
 show PW.imp (Ms (h pn xe J) (h' pn xe J)) λσ H Q q=>?_;show By (k:=λc i Q E=>if c then tb i Q E else Q false i) q λc F G ρ P PX H1 B L I M=>?_;cases c with
 |true=>show#[F,G,ρ,P,PX,B,L,I,M]
 |false=>show I false ρ F H1 L (zy.refl F) B
def Ce{rest:List Expr}(h:FT X a ta)(h':FW X (.BoolOp .Or (b::rest) pos) tb):FW X (.BoolOp .Or (a::b::rest) pos) (gT ta tb):=λpn xe J=>by
 show PW.imp (Mi (h pn xe J) (h' pn xe J)) λσ H Q q=>?_;show By (k:=λc i Q E=>if c then Q true i else tb i Q E) q λc F G ρ P PX H1 B L I M=>?_;cases c with
 |false=>show#[F,G,ρ,P,PX,B,L,I,M]
 |true=>show I true ρ F H1 L (zy.refl F) B
def Cg(h:FT X a ta):FT X (.UnaryOp .Not a pos) (eC ta):=λpn xe J=>by show PT.imp (Nz (h pn xe J)) λσ H Q q=>?_;show By (k:=λc i Q E=>Q (!c) i) q λc F G ρ P PX H1 B L I M=>I _ ρ F H1 L (zy.refl F) B
def Mh{K:W.Frag}{c:Bool}(r:aP K H v (.bl c)):v=.bl c:=by cases r;rfl
def FO(h:FE X a wa):FE X (.BoolOp B [a] pos) wa:=λpn xe i=>OJ (h pn xe i)
def Du{rest:List Expr}(Z:FE X a wa)(Y:FE X (.BoolOp .And (b::rest) pos) wb):FE X (.BoolOp .And (a::b::rest) pos) (gI wa wb):=λpn xe M=>by
 show PE.imp (Nh (Z pn xe M) (Y pn xe M)) λσ H Q q=>?_;show(one (k:=λx i Q E=>match view x i with|some (.bl c)=>if c then wb i Q E else Q (.v (.sh (.bl false))) i|_=>False) q).mono λv H1 h1=>?_;let#[F,G,ρ,x,P,PX,B,L,O,J,I,U]:=h1;split at J
 .rename_i c e;show#[c,Mh (look (ρ':=[]) (σ':=[]) B L O e),?_];cases c with
  |true=>show#[F,G,ρ,P,PX,B.drop L,J,I,U]
  |false=>show I _ ρ (.bl false) F H1 J (zy.refl F) ((B.drop L).push (.bl false)) trivial
 .show J.elim
def Nk(ha:FE X a wa):FE X (.UnaryOp .Not a pos) (mZ wa):=λpn xe hp zS s σ H Q I q=>by let q':=one (k:=λx i Q E=>zx (view x i) λp=>zx (fO p) λc=>Q (.v (.sh (.bl (!c)))) i) q;show UnaryOp_ (Ah (ha pn xe hp zS s σ H _ I q') λv U L=>?_);let#[x,H1,I1,Z,q1]:=L;let#[F,G,ρ,y,P,PX,B,O,Y,J,M,hx]:=q1;let#[p,ep,J]:=Ag J;let#[t,et,J]:=Ag J;show not_of (Ah (IF (X:=wp X pn xe) zS U σ H1 x v (λb H'=>b=t/\H'=H1) I1 Z #[t,IY (look (ρ':=[]) (σ':=[]) B O Y ep) et,rfl,rfl]) λb s2 L=>?_);let#[H2,I2,e1,e2]:=L;subst e1 e2;show#[.bl (!b),H2,I2,rfl,M _ ρ (.bl (!b)) F H2 J (zy.refl F) ((B.drop O).push (.bl _)) trivial]
def Ab:FA X [] zv:=λpn xe L=>PA.imp IC λσ H Q q=>by let#[F,G,ρ,P,PX,i,I,B,J]:=q;show B [] ρ [] F H I (zy.refl F) ↑i i.len trivial
def Aa(ha:FE X e wa)(hb:FA X es wb)(hs:autoParam (starEach (e::es) X.env=(false,eval e X.env)::starEach es X.env) rZ9):FA X (e::es) (zu wa wb):=λpn xe hp=>by
 show PA.imp (II (ha pn xe hp) (hb pn xe hp) hs) λσ H Q q=>?_;let#[F,G,ρ,P,PX,L,hw,U,hx]:=q;show#[F,G,ρ,_,PX,L,hw,λx ρ1 v F1 H1 O Z r1 I=>?_,hx];let h1:=Af r1;let#[G1,i,gg,back]:=r1.hide h1;show#[F1,G1,ρ1,_,PX,i,O,λJ ρ2 vs F2 H2 M Y r2 h2 B=>?_,hx.mono (λ_ z=>z) Z gg];let r3:=back Y r2;rw[qo,qo]at r3;let hl:(J.map zz).length=(vs.map some).length:=by let:=r2.len;grind
 show U (x::J) ρ2 (v::vs) F2 H2 M (Z.trans Y) (Rel.swap (ρ1:=J.map zz) (σ1:=vs.map some) (ρ2:=[zz x]) (σ2:=[⇑v]) h2 hl r3) h2 #[I,B]
section
variable{K:W.Frag}
def oX.len:∀{vs:List V}{rs:List R},oX σ vs rs->vs.length=rs.length
 |[],[],_=>rfl
 |[],_::_,h=>h.elim
 |_::_,[],h=>h.elim
 |_::vs,_::rs,h=>by simp[oX.len h.2]
def DP:∀{rs:List R}{vs:List V}{ρ ρ' ρ1:Env}{ss:List S}{F:Hp}{σ':St},Rel K (ρ++(rs.map zz++ρ')) (σ++(vs.map some++σ')) F G H->ρ.length=σ.length->oX σ vs rs->aJ rs ρ=⇑(ss,ρ1)->
  ∃F',zy F F'/\ρ1.length=ρ.length/\ss.length=rs.length/\Rel K (ρ1++(ss.map some++ρ')) (σ++(vs.map some++σ')) F' G H
 |[],[],ρ,ρ',ρ1,ss,F,σ',r,h,_,e=>by let i:⇑(([]:List S),ρ)=⇑(ss,ρ1):=e;cases i;show#[F,zy.refl F,rfl,rfl,r]
 |[],_::_,_,_,_,_,_,_,_,_,h,_=>h.elim
 |_::_,[],_,_,_,_,_,_,_,_,h,_=>h.elim
 |x::rs,v::vs,ρ,ρ',ρ1,ss,F,σ',r,h,rv,e=>by
  let i:(match give x ρ with|some (s,ρ1)=>(match aJ rs ρ1 with|some (ss,ρ2)=>⇑(s::ss,ρ2)|none=>none)|none=>none)=⇑(ss,ρ1):=e;cases q:give x ρ with
  |none=>rw[q]at i;cases i
  |some p=>
   let#[s,ρ2]:=p;rw[q]at i;cases B:aJ rs ρ2 with
   |none=>simp only[B]at i;cases i
   |some p2=>
    let#[J,h1]:=p2;simp only[B]at i;cases i;let#[F1,s1,Z,O]:=As (ρ':=rs.map zz++ρ') (σ':=vs.map some++σ') r h rv.1 q;let h2:ρ2.length=σ.length:=Z.trans h;let hl:(rs.map zz++ρ').length=(vs.map some++σ').length:=by let:=O.len;rw[qp,qp,qr,qr]at this;lia
    let I:ρ'.length=σ'.length:=by let:=rv.2.len;simp at hl;lia
    let M:=Rel.swap (ρ1:=[⇑s]) (σ1:=[⇑v]) (ρ2:=rs.map zz++ρ') (σ2:=vs.map some++σ') h2 rfl O;rw[qo,qo]at M;let#[F2,s2,Y,U,L]:=DP (rs:=rs) (vs:=vs) M h2 rv.2 B;let h3:ρ1.length=σ.length:=Y.trans h2;rw[<-qo (J.map some),<-qo (vs.map some)]at L;let r4:=Rel.swap (ρ1:=J.map some++ρ') (σ1:=vs.map some++σ') (ρ2:=[⇑s]) (σ2:=[⇑v]) h3 (by simp[U,rv.2.len,I]) L;show#[F2,s1.trans s2,Y.trans Z,by simp[U],r4]
def AY:∀{vs:List V}{ss:List S}{fp:List Addr},zF K F H (ss.map some) (vs.map some) fp->zG K F H vs ss fp
 |[],[],_,.nil=>.nil
 |[],_::_,_,h=>nomatch h
 |_::_,[],_,h=>nomatch h
 |v::vs,s::ss,_,.so a b=>.cons a (AY b)
def Rel.newL(r:Rel K (ρ++ss.map some) (σ++vs.map some) F G H)(h:ρ.length=σ.length)(B:H p=none):
  Rel K (ρ++[⇑(.lst ss)]) (σ++[⇑(.ref p)]) F G (upd H p (.lst vs)):=by
 let#[Z,O,M]:=r.free B;let#[fp,e,nd,ap]:=r.en;let I:∀a∈fp,a≠p:=λa i z=>M fp e (z▸i);let#[Y,U,rfl,L,J]:=(e.mono (H':=upd H p (.lst vs)) (zy.refl F) λa i=>Aj (I a i)).cut h;show#[zy.updR r.fr Z,λa u q=>?_,Y++((p::U)++[]),L.app (.so (.lst AB (AY J)) .nil),?_,λa i=>?_]
 .let B:a≠p:=λz=>by rw[z,O]at q;cases q
  rw[Aj B];show r.gr a u q
 .grind
 grind
def Rel.giveD{ss:List S}(r:Rel K (ρ++ss.map some) (σ++vs.map some) F G H)(h:ρ.length=σ.length):∃F',zy F F'/\zQ K F' vs (ss.map S.toD)/\Rel K ρ σ F' G H:=by
 classical
 let#[fp,e,L,ap]:=r.en;let#[O,J,rfl,a,b]:=e.cut h;let#[M,Z,Y]:=qw.mp L;let i:zy F (λx=>if x∈J then H x else F x):=λx o w=>by grind
 let B:=(AY b).frz i λx I=>by simp[I,if_true]
 rw[S.toDs_map]at B;show#[_,i,B,λx o w=>?_,λx o w=>?_,O,a.mono i λ_ _=>rfl,M,λx I=>?_]
 .by_cases z:x∈J
  .simp only[z]at w;show w
  .simp only[z]at w;show r.fr x o w
 .let U:=r.gr x o w;grind
 grind
end
inductive cy(X:Cx)(σ:St)(k:List R->Env->WQ->WX->Prop)(Q:VK)(vs:List V)(H:Hp):Prop
 |mk (F G:Hp) (ρ:Env) (rs:List R) (P:WQ) (PX:WX) (zU:Rel X.K (ρ++rs.map zz) (σ++vs.map some) F G H) (hl:ρ.length=σ.length) (rv:oX σ vs rs) (hk:k rs ρ P PX) (hok:∀r ρ' v F' H',P r ρ'->zy F F'->Rel X.K (ρ'++[zz r]) (σ++[some v]) F' G H'->RV σ v r->Q v H') (hx:XC X (·=σ) F G PX):cy X σ k Q vs H
theorem many(h:tW X (λρ Q E=>wa ρ (λrs ρ1=>k rs ρ1 Q E) E) σ H Q):uH X wa σ H λvs H1=>cy X σ k Q vs H1:=by let#[F,G,ρ,P,PX,I,Y,L,O]:=h;show#[F,G,ρ,_,PX,I,Y,λrs ρ1 vs Z H1 J M U h1 B=>#[Z,G,ρ1,rs,P,PX,U,h1,B,J,λr i v F' H' a b c d=>L r i v F' H' a (M.trans b) c d,O.grow M],O]
def AO(h:FA X es wa):FE X (.List es pos) (bR wa):=λpn xe M=>by
 show PE.imp (MP (h pn xe M)) λσ H Q q=>?_;show(many (k:=λB i Q E=>zx (if B.length<=big then aJ B i else none) λp=>Q (.v (.lst p.1)) p.2) q).mono λvs H1 h1=>?_;let#[F,G,ρ,B,P,PX,J,Z,Y,U,O,hx]:=h1;let#[#[ss,i],I,U]:=Ag U;by_cases L:B.length<=big
 .rw[qZ L]at I;let#[F1,s1,l1,l2,r1]:=DP (ρ':=[]) (σ':=[]) ↑J Z Y I;show#[by rw[Y.len];show le_trans L ⋯,λp M=>O _ i (.ref p) F1 _ U s1 (Rel.newL ↑r1 (l1.trans Z) M) trivial]
 .rw[q5 L]at I;cases I
def AM(h:FA X es wa):FE X (.Tuple es k pos) (bO wa):=λpn xe I=>by
 show PE.imp (Nq (h pn xe I)) λσ H Q q=>?_;show(many (k:=λB i Q E=>zx (if B.length<=big then aJ B i else none) λp=>Q (.v (.sh (.tup (p.1.map S.toD)))) p.2) q).mono λvs H1 h1=>?_;let#[F,G,ρ,B,P,PX,L,hl,Y,U,O,hx]:=h1;let#[#[ss,i],J,U]:=Ag U;by_cases M:B.length<=big
 .rw[qZ M]at J;let#[F1,s1,l1,l2,r1]:=DP (ρ':=[]) (σ':=[]) ↑L hl Y J;let#[F2,s2,rp,Z]:=Rel.giveD (ρ:=i) ↑r1 (l1.trans hl);show#[by rw[Y.len];show le_trans M ⋯,λp I=>?_];let n2:=(Z.free I).1;show O _ i (.ref p) _ _ U (s1.trans (s2.trans (zy.upd n2))) ((Z.newF I).push (.tup AB (rp.mono (zy.upd n2)))) trivial
 .rw[q5 M]at J;cases J
def KP.refl:KP ks σ σ:=λ_ _=>rfl
def KP.trans(a:KP ks σ σ1)(b:KP ks σ1 σ2):KP ks σ σ2:=λi h=>(b i h).trans (a i h)
inductive dw(X:Cx)(ks:List Nat)(w:WS)(D:L2.Ends)(σ:St)(H:Hp):Prop
 |mk (F G:Hp) (ρ:Env) (E:Ends) (zU:Rel X.K ρ σ F G H) (hw:w E ρ) (n:∀ρ' σ' F' H',E.nx ρ'->KP ks σ σ'->zy F F'->Rel X.K ρ' σ' F' G H'->D.nx σ' H') (b:∀ρ' σ' F' H',E.bk ρ'->KP ks σ σ'->zy F F'->Rel X.K ρ' σ' F' G H'->D.bk σ' H') (c:∀ρ' σ' F' H',E.ct ρ'->KP ks σ σ'->zy F F'->Rel X.K ρ' σ' F' G H'->D.ct σ' H') (r:∀r ρ' σ' v F' H',E.rt r ρ'->KP ks σ σ'->zy F F'->Rel X.K (ρ'++[zz r]) (σ'++[some v]) F' G H'->RV σ' v r->D.rt v H') (hx:XC X (KP ks σ) F G E.ex):dw X ks w D σ H
@[inline]def FS(X:Cx)(ks:List Nat)(st:Stmt)(w:WS):Prop:=∀(pn:List (Addr×Obj))(xe:zr),PassesOwn (model X.prog X.w) X.A X.env xe->PS (wp X pn xe) st (dw (wp X pn xe) ks w)
def mC(X:Cx)(ks:List Nat)(st:List Stmt)(w:WS):Prop:=∀(pn:List (Addr×Obj))(xe:zr),PassesOwn (model X.prog X.w) X.A X.env xe->jR (wp X pn xe) st (dw (wp X pn xe) ks w)
def PS.imp(h:PS X e t)(k:∀D σ H,t' D σ H->t D σ H):PS X e t':=λzS s σ H D I q=>h zS s σ H D I (k D σ H q)
def jR.imp(h:jR X e t)(k:∀D σ H,t' D σ H->t D σ H):jR X e t':=λzS s σ H D I q=>h zS s σ H D I (k D σ H q)
inductive dy(X:Cx)(ks:List Nat)(g:WG)(v:V)(σ:St)(H:Hp)(Q:St->Hp->Prop):Prop
 |mk (F G:Hp) (ρ:Env) (s:S) (P:Env->Prop) (zU:Rel X.K (ρ++[some s]) (σ++[some v]) F G H) (hw:g s ρ P) (n:∀ρ' σ' F' H',P ρ'->KP ks σ σ'->zy F F'->Rel X.K ρ' σ' F' G H'->Q σ' H'):dy X ks g v σ H Q
@[inline]def FG(X:Cx)(ks:List Nat)(tg:Expr)(g:WG):Prop:=∀(pn:List (Addr×Obj))(xe:zr),PassesOwn (model X.prog X.w) X.A X.env xe->PG (wp X pn xe) tg (dy (wp X pn xe) ks g)
def PG.imp(h:PG X e t)(k:∀v σ H Q,t' v σ H Q->t v σ H Q):PG X e t':=λzS s σ H v u Q I r q=>h zS s σ H v u Q I r (k v σ H Q q)
section
variable{st:Stmt}{rest:List Stmt}
def Az:mC X ks [] aE:=λpn xe I=>jR.imp Jy λD σ H q=>by let#[F,G,ρ,E,i,B,n,b,c,r,x]:=q;show n ρ σ F H B KP.refl (zy.refl F) i
def Ae(h1:FS X ks st w1)(h2:mC X ks rest Y):mC X ks (st::rest) (zK w1 Y):=λpn xe M=>jR.imp (Qe (h1 pn xe M) (h2 pn xe M)) λD σ H q=>by
 obtain⟨F,G,ρ,E,U,hw,n,b,c,r,x⟩:=q;show#[F,G,ρ,{E with nx:=Y E},U,hw,λO h3 F1 H1 M k L r1=>?_,b,c,r,x];exact⟨F1,G,O,E,r1,M,λB i J H' h I s r=>n B i J H' h (k.trans I) (L.trans s) r,λB i J H' h I s r=>b B i J H' h (k.trans I) (L.trans s) r,
  λB i J H' h I s r=>c B i J H' h (k.trans I) (L.trans s) r,λa B i v J H' h I s q rv=>r a B i v J H' h (k.trans I) (L.trans s) q rv,x.mono (λZ I=>k.trans I) L (zy.refl G)⟩
def Ak(h1:FS X ks st i):mC X ks [st] i:=λpn xe B=>Jt (h1 pn xe B)
def BU(h:FE X e M)(Y:autoParam (swapsWith e none pos.line X.env=pure false) rZ9):FS X ks (.Expr e pos) (wExpr M):=λpn xe I=>PS.imp (Pn (h pn xe I) Y) λD σ H q=>by let#[F,G,ρ,E,B,U,n,b,c,r,x]:=q;show#[F,G,ρ,_,_,B,U,λa i v Z H1 I O J rv=>n i σ Z H1 I KP.refl O (J.drop (Af J)),x.mono (λL z=>by rw[z];show KP.refl) (zy.refl F) (zy.refl G)]
def Av(h:FE X e L):FS X ks (.Return ⇑e pos) (aV L):=λpn xe I=>PS.imp (NL (h pn xe I)) λD σ H q=>by let#[F,G,ρ,E,B,Y,n,b,c,r,x]:=q;show#[F,G,ρ,_,_,B,Y,λa i v Z H1 I M U O=>r a i σ v Z H1 I KP.refl M U O,x.mono (λJ z=>by rw[z];show KP.refl) (zy.refl F) (zy.refl G)]
def Ay(hc:FT X c tc)(ha:mC X ks a w1)(hb:mC X ks b w2):FS X ks (.If c a b pos) (cU tc w1 w2):=λpn xe L=>PS.imp (Mg (hc pn xe L) (ha pn xe L) (hb pn xe L)) λD σ H q=>by
 obtain⟨F,G,ρ,E,U,Y,n,b,c,r,x⟩:=q;show#[F,G,ρ,_,_,U,Y,λk M F1 H1 L O r1=>?_,x.mono (λh1 z=>by rw[z];show KP.refl) (zy.refl F) (zy.refl G)];let Z:∀w:WS,w E M->dw (wp X pn xe) ks w D σ H1:=λw Y=>⟨F1,G,M,E,r1,Y,λB i J H' h I s r=>n B i J H' h I (O.trans s) r,λB i J H' h I s r=>b B i J H' h I (O.trans s) r,
  λB i J H' h I s r=>c B i J H' h I (O.trans s) r,λa B i v J H' h I s q rv=>r a B i v J H' h I (O.trans s) q rv,x.grow O⟩
 cases k with
 |true=>show Z _ L
 |false=>show Z _ L
def An(he:FE X e U)(hg:FG X ks tg g)(hs:autoParam (swapsWithSole [tg] e pos.line X.env=pure false) rZ9)(J:autoParam (swappedStores [tg] e X.env=pure none) rZ9)
  (h1:autoParam ((assignEach [tg] X.env).map (·.2)=[assign tg X.env]) rZ9):FS X ks (.Assign [tg] e pos) (zM g U):=λpn xe i=>PS.imp (IB (he pn xe i) (hg pn xe i) hs J h1) λD σ H q=>by
 let#[F,G,ρ,E,I,J,n,b,c,r,x]:=q;show#[F,G,ρ,_,_,I,J,λa O v F1 H1 i Z L rv=>?_,x.mono (λM z=>by rw[z];show KP.refl) (zy.refl F) (zy.refl G)];let#[#[s,B],eg,hk]:=Ag i;let#[F2,Y,l2,r2]:=As (ρ':=[]) (σ':=[]) L (Af L) rv eg;show#[F2,G,B,s,_,r2,hk,λρ' σ' F' H' h k' s r=>n ρ' σ' F' H' h k' (Z.trans (Y.trans s)) r]
end
def Hk(I:Inv X zS σ H s)(hN:∀j,X.N[j]?=⇑x->j=i)(hi:X.N[i]?=⇑x)(L:Loc X.env.scope x)(r:zH v u)
  (h:∀s',Inv X zS (σ.set i ⇑v) H s'->(∃a,Heap.SameBut a s.heap s'.heap/\(a=X.env.locals\/X.env.cells.lookup x=⇑a))->Q () s')(hf:X.fn x=true\/X.env.scope.names.lookup x=⇑.local):wpAny M A (storeName X.env x u) Q E s:=by
 let#[m,hn,hl]:=id I.loc;let h4:(X.env.scope.kind==.class||(X.env.scope.kind==.module&&X.env.locals !=X.env.globals))=false:=by rw[I.ok.kind];rfl
 let Z:i<σ.length:=by rw[I.len];show(qg.mp hi).1
 have cne:=I.cne;let F:∀{a:Addr}{h':Heap},(∃o,s.heap.get? a=⇑o/\H a=none)->Heap.SameBut a s.heap h'->eA X.prog X.w H h':=λ{a h'} ha B b ob e=>by
  let#[_,_,O]:=ha;show(I.hok b ob e).stay (λc w' J q=>(B.2 c ?_).trans q) (λ_ q=>q) λ_ _ q=>q;rintro rfl;rcases J with rfl|J
  .rw[O]at e;cases e
  .rw[O]at J;cases J
 rcases L with Y|Y
 .refine wpAny_storeName_local Y hn (λh' h8 B=>?_) h4;let#[oL,_,_,h7,_]:=id hn;refine h _ #[I.ok,I.os,I.bare,#[λb o e n hb L=>?_,λb o e n hb L=>?_,I.base.free,λb o e L=>?_,I.base.tups,I.base.frzs,I.base.tbls],#[_,h8,λj y v' G U e3=>?_],λy c e=>?_,I.free,I.freeC,λp hp=>?_,F #[oL,h7,I.free] B,↑I.len] #[_,B,.inl rfl]
  .show(B.2 b (ne_of_lt (lt_of_lt_of_le (qe e) I.ok.above))).trans (I.base.keep b o e n hb L)
  .obtain⟨sl,G⟩:=I.base.slot b o e n hb L;show#[sl,(B.2 b (ne_of_lt (lt_of_lt_of_le (qe e) I.ok.above))).trans G]
  .obtain⟨o',G⟩:=I.base.there b o e L;show#[o',(B.2 b (ne_of_lt (lt_of_lt_of_le (qe e) I.ok.above))).trans G]
  .by_cases hj:j=i
   .subst hj;rw[hi]at G;cases G;rw[getElem?_set_self Z]at U;cases U;show#[u,r,.inl #[Y,by simp]]
   .rw[getElem?_set_ne (Ne.symm hj)]at U;let#[u',r',q]:=hl j y v' G U e3;show#[u',r',?_];rcases q with⟨k,e⟩|⟨k,c,e,z⟩
    .show .inl #[k,?_];let:y≠x:=λe=>hj (hN j (e▸G));simp[this,e]
    .show .inr #[k,c,e,z.sameBut B (cne y c e)]
  .obtain⟨w',z⟩:=I.cell y c e;show#[w',z.sameBut B (cne y c e)]
  .obtain⟨e,n,ne,nf,d⟩:=I.pin p hp;show#[(B.2 p.1 ne).trans e,n,ne,nf,d]
 .have h1:X.fn x=true:=by
   rcases hf with z|z
   .show z
   .rw[z]at Y;cases Y
  let#[c,J]:=I.ok.has x (.inl Y);let#[w',z]:=I.cell x c J;show wpAny_storeName_cell I.ok.kind Y J z (λh' h6 B=>?_);let#[oc,h3,h2]:=id z;show h {s with heap:=h'} ⟨I.ok,I.os,I.bare,⟨λb o e n hb L=>?_,λb o e n hb L=>?_,I.base.free,λb o e L=>?_,I.base.tups,I.base.frzs,I.base.tbls⟩,⟨m,hn.sameBut B (Ne.symm (cne x c J)),λj y v' G U e3=>?_⟩,λy c' e=>?_,I.free,I.freeC,λp hp=>?_,F ⟨oc,h3,I.freeC x c J⟩ B,↑I.len⟩ #[c,B,.inr J]
  .show(B.2 b (ne_of_lt (lt_of_lt_of_le (qe e) (I.ok.cab x c h1 J)))).trans (I.base.keep b o e n hb L)
  .obtain⟨sl,G⟩:=I.base.slot b o e n hb L;show#[sl,(B.2 b (ne_of_lt (lt_of_lt_of_le (qe e) (I.ok.cab x c h1 J)))).trans G]
  .obtain⟨o',G⟩:=I.base.there b o e L;show#[o',(B.2 b (ne_of_lt (lt_of_lt_of_le (qe e) (I.ok.cab x c h1 J)))).trans G]
  .by_cases hj:j=i
   .subst hj;rw[hi]at G;cases G;rw[getElem?_set_self Z]at U;cases U;show#[u,r,.inr #[.inl Y,c,J,h6]]
   .rw[getElem?_set_ne (Ne.symm hj)]at U;let#[u',r',q]:=hl j y v' G U e3;show#[u',r',?_];rcases q with q|⟨k,c',e,z'⟩
    .show .inl q
    .show .inr #[k,c',e,z'.sameBut B ?_];rintro rfl;show hj (hN j (I.ok.inj _ _ _ e J▸G))
  .by_cases h5:c'=c
   .subst h5;show#[_,h6]
   .obtain⟨w2,z2⟩:=I.cell y c' e;show#[w2,z2.sameBut B h5]
  .obtain⟨e,n,ne,nf,d⟩:=I.pin p hp;show#[(B.2 p.1 ?_).trans e,n,ne,nf,d];intro q;rw[q,h3]at e;let q':oc=p.2:=qf e;show d w' (by rw[<-q'];show h2)
def KP.set(h:i∉ks):KP ks σ (σ.set i u):=λj B=>getElem?_set_ne (λ(z:i=j)=>h (z▸B))
def Jd(Y:i∉ks)(hN:∀j,X.N[j]?=⇑x->j=i)(hi:X.N[i]?=⇑x)(O:Loc X.env.scope x)(Z:X.fn x=true\/X.env.scope.names.lookup x=⇑.local):FG X ks (.Name x pos) (zw i):=by
 intro pn xe hp zS s σ H v u Q I M q;let#[F,G,ρ,t,P,B,U,n]:=q;let L:=Af B;let J:i<ρ.length:=by rw[L,I.len];show(qg.mp hi).1
 show wpAny_assign_Name (Hk (X:=wp X pn xe) I hN hi O M (λs' I' _=>#[_,H,I',n _ _ F H U (KP.set Y) (zy.refl F) (B.store L J)]) Z)
inductive yJ(X:Cx)(ks:List Nat)(gs:List WG)(vs:List V)(σ:St)(H:Hp)(Q:St->Hp->Prop):Prop
 |mk (F G:Hp) (ρ:Env) (ds:List D) (P:Env->Prop) (zU:Rel X.K ρ σ F G H) (rp:zQ X.K F vs ds) (hw:eF gs ds ρ P) (n:∀ρ' σ' F' H',P ρ'->KP ks σ σ'->zy F F'->Rel X.K ρ' σ' F' G H'->Q σ' H'):yJ X ks gs vs σ H Q
def fv(X:Cx)(ks:List Nat)(tg:List Expr)(g:List WG):Prop:=∀(pn:List (Addr×Obj))(xe:zr),PassesOwn (model X.prog X.w) X.A X.env xe->cw (wp X pn xe) tg (yJ (wp X pn xe) ks g)
def CJ:fv X ks [] []:=λpn xe M zS s σ H vs J Q I r q=>by
 let#[F,G,ρ,O,P,i,L,B,n]:=q;show Pg zS s σ H vs J Q I r ?_;cases L with
 |nil=>show#[rfl,n ρ σ F H B KP.refl (zy.refl F) i]
 |cons a b=>show B.elim
def Bd(h1:FG X ks e g)(h2:fv X ks es gs)
  (hs:autoParam ((assignEach (e::es) X.env).map (·.2)=assign e X.env::(assignEach es X.env).map (·.2)) rZ9):fv X ks (e::es) (g::gs):=λpn xe i zS s σ H vs Z Q I r q=>by
 let#[F,G,ρ,ds,P,M,rp,U,n]:=q;show Ra (X:=wp X pn xe) (h1 pn xe i) (h2 pn xe i) hs zS s σ H vs Z Q I r ?_;cases rp with
 |nil=>show U.elim
 |cons a b=>show#[_,_,rfl,F,G,ρ,_,_,M.push a,U,λJ Y F1 H1 i k O r1=>#[F1,G,J,_,P,r1,b.mono O,i,λL B F' H' h k' s r=>n L B F' H' h (k.trans k') (O.trans s) r]]
def zQ.len{K:W.Frag}(r:zQ K F xs ds):xs.length=ds.length:=zQ.ind (P:=λxs ds=>xs.length=ds.length) rfl (λ_ _ i=>congrArg (·+1) i) r
def CB(hc:X.calm=true)(h:fv X ks es I)(hn:autoParam ((assignEach es X.env).length=I.length) rZ9)(M:autoParam ((assignEach es X.env).findIdx? (·.1)=none) rZ9):FG X ks (.Tuple es k pos) (eM I):=λpn xe hp=>by
 show PG.imp (ML (X:=wp X pn xe) hc (h pn xe hp) hn M) λv σ H Q q=>?_;let#[F,G,ρ,s,P,B,hw,n]:=q;let#[F1,U,Y,O]:=Rel.giveD (ρ:=ρ) (vs:=[v]) (ss:=[s]) B (Af B);cases Y with
 |cons a b=>
  let i:(match s.toD with|.tup ds=>ds.length=I.length/\eF I ds ρ P|_=>False):=hw;generalize s.toD=d at a i;cases a with
  |tup e r=>show#[_,_,rfl,bD.of (O.fr _ _ e),by rw[r.len];show i.1,F1,G,ρ,_,P,O,r,i.2,λL J F' H' h Z s r=>n L J F' H' h Z (U.trans s) r]
  |_=>show i.elim
def fB(K:W.Frag)(J:It)(l:List D)(B:Hp):Prop:=∀(i:Nat)(ρ:Env)(σ:St)(F G H:Hp),zy B F->Rel K ρ σ F G H->
 (∀d,l[i]?=⇑d->J.go i H/\∀x H',J.yld i H x H'->∃F',zy F F'/\Rel K ρ σ F' G H'/\aP K F' x d)/\(l.length<=i->J.stop i H)
inductive me(X:Cx)(wi:WI)(σ:St)(H:Hp)(R:It->Hp->Prop):Prop
 |mk (F G:Hp) (ρ:Env) (P:List D->Env->Prop) (PX:WX) (zU:Rel X.K ρ σ F G H) (hw:wi ρ P PX) (hok:∀l ρ' F' H' J,P l ρ'->zy F F'->Rel X.K ρ' σ F' G H'->fB X.K J l F'->R J H') (hx:XC X (·=σ) F G PX):me X wi σ H R
@[inline]def FI(X:Cx)(tg iter:Expr)(i:WI):Prop:=∀(pn:List (Addr×Obj))(xe:zr),PassesOwn (model X.prog X.w) X.A X.env xe->PI (wp X pn xe) tg iter (me (wp X pn xe) i)
def PI.imp(h:PI X tg e t)(k:∀σ H R,t' σ H R->t σ H R):PI X tg e t':=λzS s σ H R I q=>h zS s σ H R I (k σ H R q)
def zQ.get{K:W.Frag}{i:Nat}(r:zQ K F xs ds)(h:ds[i]?=⇑d):∃x,xs[i]?=⇑x/\aP K F x d:=
 zQ.ind (P:=λxs ds=>∀i d,ds[i]?=⇑d->∃x,xs[i]?=⇑x/\aP K F x d) (λ_ _ e=>by cases e) (λa _ B i d e=>by
  cases i with
  |zero=>cases e;show#[_,rfl,a]
  |succ i=>show B i d e) r i d h
section
variable{K:W.Frag}
def GL(e:bJ K F0 a xs)(r:zQ K F0 xs l):fB K (yE K a) l F0:=λi ρ σ F G H L B=>by let J:bJ K H a xs:=bJ.mono (L.trans B.fr) e;show#[λd U=>?_,λh=>#[xs,J,by rw[r.len];show h]];let#[x,M,O]:=r.get U;show#[#[xs,x,J,M],λy H' I=>?_];let#[rfl,I]:=I;let:x=y:=qf (M.symm.trans (I xs J));subst this;show#[F,zy.refl F,B,O.mono L]
def Rn(e:bD K F0 a xs)(r:zQ K F0 xs l):fB K (lu K a) l F0:=λi ρ σ F G H L B=>by let J:bD K H a xs:=bD.mono (L.trans B.fr) e;show#[λd U=>?_,λh=>#[xs,J,by rw[r.len];show h]];let#[x,M,O]:=r.get U;show#[#[xs,x,J,M],λy H' I=>?_];let#[rfl,I]:=I;let:x=y:=qf (M.symm.trans (I xs J));subst this;show#[F,zy.refl F,B,O.mono L]
def Um{lo:Int}(h:(fromTo lo n)[i]?=⇑d):i<n/\d=.int (lo+i):=by
 unfold fromTo at h;rw[qE]at h;by_cases hi:i<n
 .rw[getElem?_range hi]at h;show#[hi,(qf h).symm]
 .rw[qP ↑hi]at h;cases h
def LF{lo:Int}:fB K (df lo n) (fromTo lo n) F0:=λi ρ σ F G H L B=>by
 show#[λd J=>?_,λh=>?_]
 .obtain⟨hi,rfl⟩:=Um J;show#[hi,λx H' I=>?_];let#[rfl,rfl]:=I;show#[F,zy.refl F,B,.int _]
 .let:n<=i:=by simpa[fromTo] using h
  show this
end
def xZ(x:Str):It:=#[λi _=>i<x.cps.size,λi H v H'=>H'=H/\∃c,x.cps[i]?=⇑c/\v=.str #[[c].toArray],λi _=>x.cps.size<=i]
def QH{P:Program}{w:World}{K:W.Frag}{tg:Expr}(it:Addr)(x:Str)(t:Tok)(ty:String)(hty:ty="str_ascii_iterator"\/ty="str_iterator"):iQ P w K tg (xZ x) [it] it (λi h=>h.IsStrIter it ty x t i) where
 mem:=m1
 obj:=λi h st b hb=>by
  let e:b=it:=↑hb
  subst e;let#[o,e,c,d]:=st;show#[o,e,λv z=>by rw[d]at z;cases z]
 keep:=λi h h' st k=>by let#[o,e,r]:=st;show#[o,k it (m1) o e,r]
 item:=by
  intro X hP hw hK hc i zS s σ H E I hf st hg;subst hP hw hK;let#[f0,f1,f2,f3,f4,f5]:=hf it (m1);let W:Walks X.prog X.w X.A it [it] [it] x.cps.size (SignAt x) (λi h=>h.IsStrIter it ty x t i):=by
   rcases hty with rfl|rfl
   .show Walks.strAscii (I.ok.hd hc) it x t
   .show Walks.strWide (I.ok.hd hc) it x t
  show W.item i s _ _ hg st λv h' tk hv st' kk=>?_;let#[c,u,e1,rfl]:=hv;let I1:Inv X zS σ H {s with heap:=h',toks:=tk}:=I.turned (λb o hb e=>kk b o ↑hb e) f0 f1 f3 f4 f5;let#[o,e,cl,d]:=id st';show#[_,rfl,Ez (s:={s with heap:=h',toks:=tk}) e cl d (by rcases hty with rfl|rfl<;>decide) ⟨.str ⟨[c].toArray⟩,H,I1,⟨u,rfl⟩,⟨rfl,c,e1,rfl⟩,st',λb hb=>(hf b hb).1⟩]
 done:=by
  intro X hP hw hK hc i zS s σ H E I hf st hg;let#[f0,f1,f2,f3,f4,f5]:=hf it (m1);let hn:x.cps[i]?=none:=by let:x.cps.size<=i:=hg;simp[this]
  rcases hty with rfl|rfl
  .show wpAny_pyNext_ascii_end (I.ok.hd hc) st hn λh' eb=>#[rfl,I.turned (t':=s.toks) (λb o hb e=>eb b o hb e) f0 f1 f3 f4 f5]
  .show wpAny_pyNext_wide_end (I.ok.hd hc) st hn λh' eb=>#[rfl,I.turned (t':=s.toks) (λb o hb e=>eb b o hb e) f0 f1 f3 f4 f5]
 self:=λA i s Q E st h=>by
  rcases hty with rfl|rfl
  .show wpAny_pyIter_striter_ascii st h
  .show wpAny_pyIter_striter_wide st h
def kv(K:W.Frag)(i:TE):TI:=λσ H R=>i σ H λv H1=>(∃a,v=.ref a/\(∃xs,bJ K H1 a xs)/\R (yE K a) H1)\/(∃a,v=.ref a/\(∃xs,bD K H1 a xs)/\R (lu K a) H1)\/∃x,v=.str x/\R (xZ x) H1
def Nt(hl:PE X l tl):PI X tg l (kv X.K tl):=by
 intro zS s σ H R I h;show Ah (hl zS s σ H _ I h) λv i Z=>?_;let#[y,H1,B,M,q1]:=Z;rcases q1 with⟨a,e,⟨xs,U⟩,q⟩|⟨a,e,⟨xs,U⟩,q⟩|⟨x,e,q⟩
 .subst e;cases M;let#[G,rv,p,hz]:=B.list U;show wpAny_pyIter_list p.isList ?_;show#[i.heap.objs.size,[i.heap.objs.size],_,_,H1,rfl,B.kept (t':=i.toks) λb o e=>qc _ e,SK a _,#[_,qd _ rfl,rfl,rfl],λb J=>?_,q];let e:b=i.heap.objs.size:=by simpa using J
  subst e;show B.fpOk (q8 _) (B.hok.fresh (q8 _))
 .subst e;cases M;let#[G,rv,p,hz]:=B.tuple U;show wpAny_pyIter_tuple (show i.heap.IsTuple a G.toArray from p) ?_;show#[i.heap.objs.size,[i.heap.objs.size],_,_,H1,rfl,B.kept (t':=i.toks) λb o e=>qc _ e,TH a _,#[_,qd _ rfl,rfl,rfl],λb J=>?_,q];let e:b=i.heap.objs.size:=by simpa using J
  subst e;show B.fpOk (q8 _) (B.hok.fresh (q8 _))
 .subst e;let#[t,rfl]:=M;let L:∀(F:String)(o:Obj),(F="str_ascii_iterator"\/F="str_iterator")->o.cls=.type F->o.data=.fields [.str x t,.int 0 0].toArray->o.isFreed=false->cu X zS σ tg R (.ref i.heap.objs.size) {i with heap:=i.heap.push o}:=λF o O hc hd hf=>by
   show#[i.heap.objs.size,[i.heap.objs.size],_,_,H1,rfl,B.kept (t':=i.toks) λb o e=>qc _ e,QH _ x t F O,#[_,qd _ hf,hc,hd],λb J=>?_,q];let e:b=i.heap.objs.size:=↑J
   subst e;show B.fpOk (q8 _) (B.hok.fresh (q8 _))
  cases Y:x.cps.all (·<128)
  .show wpAny_pyIter_wide Y (L "str_iterator" _ (.inr rfl) rfl rfl rfl)
  .show wpAny_pyIter_ascii Y (L "str_ascii_iterator" _ (.inl rfl) rfl rfl rfl)
section
variable{K:W.Frag}
def Gw(e:x.cps.toList=l):fB K (xZ x) (l.map λc=>.str [c]) F0:=λi ρ σ F G H Z I=>by
 let L:x.cps.size=l.length:=by rw[<-e];simp
 show#[λd B=>?_,λh=>by show x.cps.size<=i;rw[L];simpa using h];rw[qE]at B;cases q:l[i]? with
 |none=>rw[q]at B;cases B
 |some c=>
  rw[q]at B;let J:D.str [c]=d:=qf B;let hi:i<l.length:=(qg.mp q).1;let U:x.cps[i]?=⇑c:=by rw[<-qY,e];show q
  show#[by show i<x.cps.size;rw[L];show hi,λy H' O=>?_];let#[rfl,Y,M,rfl]:=O;rw[U]at M;let:c=Y:=qf M;subst this;rw[<-J];show#[F,zy.refl F,I,.str rfl (by show 1<=_;decide)]
def Bt(h:FE X e we):FI X tg e (bY we):=λpn xe hp=>by
 show PI.imp (Nt (h pn xe hp)) λσ H R q=>?_;let#[F,G,ρ,P,PX,O,hw,I,hx]:=q;show#[F,G,ρ,_,PX,O,hw,λr h1 v F1 H1 J s1 Z rv=>?_,hx];let#[#[s,B],eg,J]:=Ag J;let#[l,el,J]:=Ag J;let#[F2,s2,l2,Y]:=As (ρ':=[]) (σ':=[]) Z (Af Z) rv eg;let#[U,s3,rp,L]:=Rel.giveD (ρ:=B) (vs:=[v]) (ss:=[s]) Y (Af Y);let M:=s1.trans (s2.trans s3);cases rp with
 |cons a b=>
  let i:items s.toD=⇑l:=el;generalize s.toD=d at a i;cases a with
  |lst e r=>have:l=_:=(qf i).symm;subst this;show .inl #[_,rfl,#[_,bJ.mono L.fr e],I _ B U H1 _ J M L (GL e r)]
  |tup e r=>have:l=_:=(qf i).symm;subst this;show .inr (.inl #[_,rfl,#[_,bD.of (L.fr _ _ e)],I _ B U H1 _ J M L (Rn (bD.of e) r)])
  |str e z=>have:l=_:=(qf i).symm;subst this;show .inr (.inr #[_,rfl,I _ B U H1 _ J M L (Gw e)])
  |_=>cases i
def Cm(hg:Gl X "range")(hm:X.mg "range"=none)(ha:FE X a we)(U:autoParam (starEach [a] X.env=[(false,eval a X.env)]) rZ9):FI X tg (.Call (.Name "range" p) [a] [] pos) (aX we):=λpn xe hp=>by
 show PI.imp (Tg (X:=wp X pn xe) hg hm (Aa ha Ab U pn xe hp) U) λσ H R q=>?_;let#[F,G,ρ,P,PX,M,hw,O,hx]:=q;show#[F,G,ρ,λL B=>match L with|[r]=>(match view r B with|some (.int j)=>(-big<=j/\j<=big)/\P (fromTo 0 j.toNat) B|_=>False)|_=>False,PX,M,hw,λL B vs Z H1 i s1 J Y I=>?_,hx];match L,vs,I,J,i with
 |[r],[v],I,J,i=>
  dsimp only at i;split at i
  .rename_i j ej;let rp:=look (ρ':=[]) (σ':=[]) J Y I.1 ej;cases rp;let#[#[h1,h2],i]:=i;let eb:(big:Int)=1000000:=rfl;show#[j,rfl,∅,∅,O _ B Z H1 _ i s1 ((show Rel X.K (B++[zz r]) (σ++[⇑(.int j)]) Z G H1 from J).drop Y) LF]
  .show i.elim
 |[],_,_,_,i=>show i.elim
 |[_],[],I,_,_=>show I.elim
 |[_],_::_::_,I,_,_=>show I.2.elim
 |_::_::_,_,_,_,i=>show i.elim
def GM(hg:Gl X "range")(hm:X.mg "range"=none)(ha:FE X a we)(hb:FE X b wb)(Z:autoParam (starEach [a,b] X.env=[(false,eval a X.env),(false,eval b X.env)]) rZ9)(L:autoParam (starEach [b] X.env=[(false,eval b X.env)]) rZ9):
  FI X tg (.Call (.Name "range" p) [a,b] [] pos) (eO we wb):=λpn xe hp=>by
 show PI.imp (RQ (X:=wp X pn xe) hg hm (Aa ha (Aa hb Ab L) (by rw[Z,L]) pn xe hp) Z L) λσ H R q=>?_;let#[F,G,ρ,P,PX,O,hw,Y,hx]:=q;show#[F,G,ρ,λM I=>match M with|[r,t]=>(match view r I,view t I with|some (.int i),some (.int j)=>(-big<=i/\i<=big/\-big<=j/\j<=big)/\P (fromTo i (j-i).toNat) I|_,_=>False)|_=>False,PX,O,hw,λM I vs F1 H1 B s1 U hl J=>?_,hx];match M,vs,J,U,B with
 |[r,t],[v,u],J,U,B=>
  dsimp only at B;split at B
  .rename_i i j ei ej;let#[rp,rq,r2]:=BI U hl J.1 J.2.1 ei ej;cases rp;cases rq;let#[#[h1,h2,h3,h4],B]:=B;let eb:(big:Int)=1000000:=rfl;show#[i,j,rfl,#[∅,∅,∅,∅],Y _ I F1 H1 _ B s1 r2 LF]
  .show B.elim
 |[],_,_,_,B=>show B.elim
 |[_],_,_,_,B=>show B.elim
 |[_,_],[],J,_,_=>show J.elim
 |[_,_],[_],J,_,_=>show J.2.elim
 |[_,_],_::_::_::_,J,_,_=>show J.2.2.elim
 |_::_::_::_,_,_,_,B=>show B.elim
end
def Bu(hc:X.calm=true)(hi:FI X tg iter wi)(hg:FG X ks tg g)(hb:mC X ks body wb)(hs:∀x,foldedSetIterable iter X.env x=pure x:=by intro _;rfl):FS X ks (.For tg iter body [] pos) (fH wi g wb):=λpn xe hp=>by
 show PS.imp (Nl (X:=wp X pn xe) hp hc (hi pn xe hp) (hg pn xe hp) (hb pn xe hp) hs) λD σ H q=>?_;let#[F,G,ρ,E,h6,hw,n,b,c,r,x]:=q;show#[F,G,ρ,_,_,h6,hw,λl h4 F1 H1 J hk s1 r1 it=>?_,x.mono (λI z=>by rw[z];show KP.refl) (zy.refl F) (zy.refl G)];show#[λi m I H2=>m=l.length-i/\i<=l.length/\∃F2 ρ2,KP ks σ I/\zy F1 F2/\Rel X.K ρ2 I F2 G H2/\bU g wb (l.drop i) E ρ2,#[l.length,rfl,zero_le _,F1,h4,KP.refl,zy.refl F1,r1,hk],?_];rintro i m I H2 ⟨rfl,hi,F2,ρ2,kp,s2,r2,U⟩;let#[h8,h7]:=it i ρ2 I F2 G H2 s2 r2;by_cases Y:i<l.length
 .obtain⟨go,h5⟩:=h8 l[i] (by simp);show .inr #[go,λZ H3=>i+1<=l.length/\∃F3 h2,KP ks σ Z/\zy F1 F3/\Rel X.K h2 Z F3 G H3/\bU g wb (l.drop (i+1)) E h2,λZ H3 h=>#[l.length-(i+1),∅,rfl,h],λy H3 hy=>?_];let#[F3,s3,r3,rp]:=h5 y H3 hy;rw[drop_eq_getElem_cons Y]at U;show#[F3,G,ρ2,_,_,r3.push rp,U,λh3 e2 F4 H4 h9 k4 s4 r4=>?_];let M:=kp.trans k4;let h1:=s1.trans (s2.trans (s3.trans s4));exact⟨F4,G,h3,_,r4,h9,λB L F' H' h O s r=>#[Y,F',B,M.trans O,s2.trans (s3.trans (s4.trans s)),r,h],λB L F' H' h O s r=>n B L F' H' h (M.trans O) (h1.trans s) r,
   λB L F' H' h O s r=>#[Y,F',B,M.trans O,s2.trans (s3.trans (s4.trans s)),r,h],λa B L v F' H' h O s q rv=>r a B L v F' H' h (M.trans O) (h1.trans s) q rv,x.mono (λe1 O=>M.trans O) h1 (zy.refl G)⟩
 .let e:i=l.length:=Nat.le_antisymm hi (not_lt.mp Y);subst e;rw[List.drop_length]at U;show .inl #[h7 (q8 _),n ρ2 I F2 H2 U kp (s1.trans s2) r2]
def JR(hc:FT X c wc)(hb:mC X ks body wb):FS X ks (.While c body [] pos) (fG wc wb):=λpn xe hp=>by
 show PS.imp (QR (X:=wp X pn xe) hp (hc pn xe hp) (hb pn xe hp)) λD σ H q=>?_;let#[F,G,ρ,E,h3,#[J,#[m0,j0],step],n,b,c,r,x]:=q;show#[λm L H2=>∃Y ρ2,KP ks σ L/\zy F Y/\Rel X.K ρ2 L Y G H2/\J m ρ2,#[m0,F,ρ,KP.refl,zy.refl F,h3,j0],?_];rintro m L H2 ⟨Y,ρ2,U,s2,r2,j2⟩;show#[Y,G,ρ2,_,_,r2,step m ρ2 j2,λk h1 F3 H3 hk s3 r3=>?_,x.mono (λh2 z=>by rw[z];show U) s2 (zy.refl G)];let B:=s2.trans s3;cases k with
 |true=>
  refine#[λO H4=>∃m',m'<m/\∃Y ρ2,KP ks σ O/\zy F Y/\Rel X.K ρ2 O Y G H4/\J m' ρ2,λO H4 h=>h,?_];exact⟨F3,G,h1,_,r3,hk,λi I Z H'⟨m',hm,h⟩ M s r=>#[m',hm,Z,i,U.trans M,B.trans s,r,h],λi I Z H' h M s r=>n i I Z H' h (U.trans M) (B.trans s) r,
   λi I Z H'⟨m',hm,h⟩ M s r=>#[m',hm,Z,i,U.trans M,B.trans s,r,h],λa i I v Z H' h M s q rv=>r a i I v Z H' h (U.trans M) (B.trans s) q rv,x.mono (λh2 M=>U.trans M) B (zy.refl G)⟩
 |false=>show n h1 L F3 H3 hk U B r3
inductive dQ(K:W.Frag)(f:WF)(n:Nat)(vs:List V)(H:Hp)(Q:VK)(Z:XK):Prop
 |mk (F G:Hp) (ss:List S) (P:S->List S->Prop) (PX:D->List S->Prop) (hn:vs.length=n) (zU:Rel K (ss.map some) (vs.map some) F G H) (hw:f ss P PX) (hok:∀s ss' v F' H',P s ss'->zy F F'->ss'.length=ss.length->Rel K (ss'.map some++[some s]) (vs.map some++[some v]) F' G H'->Q v H') (hex:∀d ss' F' H' C dx,PX d ss'->zy F F'->ss'.length=ss.length->Rel K (ss'.map some) (vs.map some) F' G H'->bz K F' d C dx->Z (.ref C) dx H'):dQ K f n vs H Q Z
section
variable{K:W.Frag}
def Rel.comm(h:ρ.length=σ.length)(r:Rel K (ρ++ρ') (σ++σ') F G H):Rel K (ρ'++ρ) (σ'++σ) F G H:=by let:=Rel.swap (ρ:=[]) (σ:=[]) (ρ1:=ρ) (σ1:=σ) (ρ2:=ρ') (σ2:=σ') rfl h r;simpa using this
def Rel.lend(r:Rel K (ρ++(none::ρ')) (σ++(⇑v::σ')) F G H)(h:ρ.length=σ.length)(hs:slot ρ i=⇑s)(B:σ[i]?=⇑⇑v):
  Rel K (ρ.set i none++(⇑s::ρ')) (σ++(⇑v::σ')) F G H:=by
 let#[fp,e,nd,ap]:=r.en;let#[f1,O,rfl,a,b]:=e.cut h;let#[Y,M,I,L,U,rfl,q,Z]:=a.at hs;rw[B]at U;let e2:v=Y:=↑U
 subst e2;let a2:=Z (F':=F) (H':=H) (o:=none) (u:=⇑v) (fi':=[]) (zy.refl F) (λ_ _=>rfl) (.no .nil);let es:σ.set i ⇑v=σ:=by
  apply ext_getElem?;intro j;by_cases J:i=j
  .subst J;rw[getElem?_set_self (qg.mp B).1,B]
  .rw[getElem?_set_ne J]
 rw[es]at a2;cases b with
 |no b=>
  let p:((M++([]++L))++(I++O)).Perm ((M++(I++L))++O):=by simp;show List.Perm.append_left _ ?_;rw[<-qo,<-qo I];show List.Perm.append_right _ qM
  show#[r.fr,r.gr,_,a2.app (.so q b),p.nodup_iff.mpr nd,λx hx=>ap x (p.mem_iff.mp hx)]
def Rel.back1(r:Rel K (ρ++(⇑s::ρ')) (σ++(⇑v::σ')) F G H)(h:ρ.length=σ.length)(I:σ[i]?=⇑⇑v):Rel K (ρ.set i ⇑s++ρ') (σ++σ') F G H:=by
 let hi:i<σ.length:=(qg.mp I).1;let es:σ.set i ⇑v=σ:=by apply ext_getElem?;grind
 let J:ρ'.length=σ'.length:=by let:=r.len;grind
 let B:=Rel.swap (ρ1:=[⇑s]) (σ1:=[⇑v]) (ρ2:=ρ') (σ2:=σ') h rfl r;rw[<-qo,<-qo]at B;let L:=Rel.store (i:=i) B (by simp[h,J]) (by simp;lia -verbose);grind
theorem IV:∀{rs:List R}{vs:List V}{ms:List Bool}{ρ ρ' ρ1:Env}{ss:List S}{F:Hp}{σ':St},Rel K (ρ++(rs.map zz++ρ')) (σ++(vs.map some++σ')) F G H->ρ.length=σ.length->oX σ vs rs->cF ms rs ρ=⇑(ss,ρ1)->
  ∃F',zy F F'/\ρ1.length=ρ.length/\ss.length=rs.length/\Rel K (ρ1++(ss.map some++ρ')) (σ++(vs.map some++σ')) F' G H
 |[],[],ms,ρ,ρ',ρ1,ss,F,σ',r,h,_,e=>by
  let B:⇑(([]:List S),ρ)=⇑(ss,ρ1):=by cases ms<;>show e
  cases B;show#[F,zy.refl F,rfl,rfl,r]
 |[],_::_,_,_,_,_,_,_,_,_,_,h,_=>h.elim
 |_::_,[],_,_,_,_,_,_,_,_,_,h,_=>h.elim
 |x::rs,v::vs,ms,ρ,ρ',ρ1,ss,F,σ',r,h,rv,e=>by
  --the first one,as it is handed on
  have first:∃s ρ2 I M,cF ms.tail rs ρ2=⇑(I,ρ1)/\ss=s::I/\zy F M/\ρ2.length=ρ.length/\Rel K (ρ2++(⇑s::(rs.map zz++ρ'))) (σ++(⇑v::(vs.map some++σ'))) M G H:=by
   cases x with
   |v s=>
    let B:(match cF ms.tail rs ρ with|some (ss,ρ1)=>⇑(s::ss,ρ1)|none=>none)=⇑(ss,ρ1):=by cases ms<;>show e
    cases q:cF ms.tail rs ρ with
    |none=>rw[q]at B;cases B
    |some p=>let#[I,L]:=p;rw[q]at B;cases B;show#[s,ρ,I,F,q,rfl,zy.refl F,rfl,r]
   |loc i=>
    have B:(match slot ρ i with
     |some s=>if ms.headD false then(match cF ms.tail rs (ρ.set i none)with
      |some (ss,ρ1)=>⇑(s::ss,ρ1)
      |none=>none)
      else(match cF ms.tail rs (ρ.set i ⇑(.sh s.toD))with
       |some (ss,ρ1)=>⇑(.sh s.toD::ss,ρ1)
       |none=>none)
     |none=>none)=⇑(ss,ρ1):=by cases ms<;>show e
    cases q:slot ρ i with
    |none=>rw[q]at B;cases B
    |some s=>
     rw[q]at B;dsimp only at B;by_cases hm:ms.headD false=true
     .rw[qZ hm]at B;cases J:cF ms.tail rs (ρ.set i none)with
      |none=>rw[J]at B;cases B
      |some p=>let#[I,L]:=p;rw[J]at B;cases B;show#[s,ρ.set i none,I,F,J,rfl,zy.refl F,by simp,Rel.lend r h q rv.1]
     .rw[q5 hm]at B;cases J:cF ms.tail rs (ρ.set i ⇑(.sh s.toD))with
      |none=>rw[J]at B;cases B
      |some p=>let#[I,L]:=p;rw[J]at B;cases B;let#[M,U,Y,O]:=As (x:=.loc i) (s:=.sh s.toD) (ρ1:=ρ.set i ⇑(.sh s.toD)) r h rv.1 (by show(match slot ρ i with|some s=>⇑(S.sh s.toD,ρ.set i ⇑(.sh s.toD))|none=>none)=_;rw[q]);show#[_,_,I,M,J,rfl,U,by simp,O]
  let#[s,ρ2,I,M,J,rfl,U,Y,O]:=first
  let h2:ρ2.length=σ.length:=Y.trans h;let hl:(rs.map zz++ρ').length=(vs.map some++σ').length:=by let:=O.len;rw[qp,qp,qr,qr]at this;lia
  let Z:ρ'.length=σ'.length:=by let:=rv.2.len;simp at hl;lia
  let r2:=Rel.swap (ρ1:=[⇑s]) (σ1:=[⇑v]) (ρ2:=rs.map zz++ρ') (σ2:=vs.map some++σ') h2 rfl O;rw[qo,qo]at r2;let#[F2,s2,l2,l3,r3]:=IV (rs:=rs) (vs:=vs) r2 h2 rv.2 J;let h3:ρ1.length=σ.length:=l2.trans h2;rw[<-qo (I.map some),<-qo (vs.map some)]at r3;let r4:=Rel.swap (ρ1:=I.map some++ρ') (σ1:=vs.map some++σ') (ρ2:=[⇑s]) (σ2:=[⇑v]) h3 (by simp[l3,rv.2.len,Z]) r3;show#[F2,U.trans s2,l2.trans Y,by simp[l3],r4]
def DE:∀{rs:List R}{vs:List V}{ms:List Bool}{ρ ρ':Env}{ss:List S}{σ':St},Rel K (ρ++(ss.map some++ρ')) (σ++(vs.map some++σ')) F G H->ρ.length=σ.length->ss.length=rs.length->oX σ vs rs->
  (back ms rs ss ρ).length=ρ.length/\Rel K (back ms rs ss ρ++ρ') (σ++σ') F G H
 |[],[],ms,ρ,ρ',[],σ',r,h,_,_=>by
  let e:back ms [] [] ρ=ρ:=by cases ms<;>rfl
  show#[rfl,r]
 |[],_,_,_,_,_::_,_,_,_,hl,_=>by simp at hl
 |_::_,_,_,_,_,[],_,_,_,hl,_=>by simp at hl
 |[],_::_,_,_,_,_,_,_,_,_,h=>h.elim
 |_::_,[],_,_,_,_,_,_,_,_,h=>h.elim
 |x::rs,v::vs,ms,ρ,ρ',s::ss,σ',r,h,hl,rv=>by
  cases x with
  |v t=>
   let e:back ms (.v t::rs) (s::ss) ρ=back ms.tail rs ss ρ:=by cases ms<;>rfl
   show DE (rs:=rs) (vs:=vs) (r.mid h) h ↑hl rv.2
  |loc i=>
   let e:back ms (.loc i::rs) (s::ss) ρ=if ms.headD false then back ms.tail rs ss (ρ.set i ⇑s)else back ms.tail rs ss ρ:=by cases ms<;>rfl
   rw[e];by_cases B:ms.headD false=true
   .rw[qZ B];let q:=DE (rs:=rs) (vs:=vs) (ms:=ms.tail) (ρ:=ρ.set i ⇑s) (Rel.back1 r h rv.1) ↑h ↑hl rv.2;show#[q.1.trans (by simp),q.2]
   .rw[q5 B];show DE (rs:=rs) (vs:=vs) (r.mid h) h ↑hl rv.2
end
def Pi(Fk:dA X.prog X.w X.K X.mg X.base (fE X.prog X.w) k f fd ps (dQ X.K wf n))(hr:bM k X.A)(hg:Gl X x)(hm:X.mg x=⇑(.ref f))(O:W.keepIn X.K (.ref f)=true)(hb:Binds X.K fd ps [])
  (ha:FA X (e::es) wa)(zV:∀ss P PX,wf ss P PX->ss.length=n)(h6:autoParam ((x==("__debug__":Str))=false) dZ9)(he:autoParam (starEach (e::es) X.env=(false,eval e X.env)::starEach es X.env) rZ9)(h4:autoParam ((backTo pos (starEach es X.env)).any (·.1)=false) rZ9):
  FE X (.Call (.Name x p) (e::es) [] pos) (zL wf ms wa):=λpn xe Z=>by
 show PE.imp (Qo (X:=wp X pn xe) Fk hr hg hm O hb (ha pn xe Z) h6 he h4) λσ H Q q=>?_;show(many (k:=λrs B Q E=>zx (cF ms rs B) λp=>wf p.1 (λs ss=>Q (.v s) (back ms rs ss p.2)) (λx ss=>E x (back ms rs ss p.2))) q).mono λvs H1 h1=>?_;let#[F,G,ρ,rs,P,PX,h2,hl,L,O,h5,hx]:=h1;let#[#[ss,B],ep,O]:=Ag O;let#[F1,s1,l1,M,r1]:=IV (ρ':=[]) (σ':=[]) ↑h2 hl L ep;let h1:B.length=σ.length:=l1.trans hl;let r2:=Rel.comm (ρ':=ss.map some) (σ':=vs.map some) h1 ↑r1;let h3:(ss.map some).length=(vs.map some).length:=by simp[M,L.len]
 let#[G',r3,gg,bk]:=r2.hide h3;let hn:=zV _ _ _ O;show#[F1,G',ss,_,_,by rw[L.len,<-M];show hn,r3,O,λs J v F2 H2 Z U Y r4=>?_,λd J F2 H2 C dx Z U Y r4 cd a s' I Fl=>?_]
 .let r5:=bk U r4;let i:(J.map some++[⇑s]).length=(vs.map some++[⇑v]).length:=by simp[Y,M,L.len]
  let r6:=Rel.comm i r5;let#[l7,r7]:=DE (ms:=ms) (rs:=rs) (vs:=vs) (ρ':=[⇑s]) (σ':=[⇑v]) r6 h1 (Y.trans M) L;show h5 _ _ v F2 H2 Z (s1.trans U) r7 trivial
 .let r5:=bk U r4;let i:(J.map some).length=(vs.map some).length:=by simp[Y,M,L.len]
  let r6:=Rel.comm i r5;let#[l7,r7]:=DE (ms:=ms) (rs:=rs) (vs:=vs) (ρ':=[]) (σ':=[]) ↑r6 h1 (Y.trans M) L;show hx d _ σ F2 H2 (.ref a) s' Z rfl (s1.trans U) ↑r7 I #[a,C,dx,rfl,cd,Fl]
section
variable{K:W.Frag}
def Rel.pushNs(r:Rel K ρ σ F G H):∀m:Nat,Rel K (ρ++List.replicate m none) (σ++List.replicate m none) F G H
 |0=>↑r
 |m+1=>by let:=(Rel.pushNs r m).pushN (u:=none);rw[qo,qo,<-List.replicate_succ',<-List.replicate_succ']at this;show this
@[inline]def Args(K:W.Frag)(F:Hp):List S->List V->St->Prop
 |[],[],_=>True
 |s::ss,v::vs,u::σ=>((∃d,s=.sh d/\aP K F v d)\/(s.isSh=false/\u=⇑v))/\Args K F ss vs σ
 |_,_,_=>False
def Fm:∀{ss:List S}{vs:List V}{fs:List S}{ρ ρ' ρa:Env}{σ σ' σa:St},aC ss ρ=⇑fs->Rel K (ρa++(ρ++ρ')) (σa++(σ++σ')) F G H->ρa.length=σa.length->ρ.length=σ.length->Args K F ss vs σ->
  fs.length=ss.length/\vs.length=ss.length/\Rel K (ρa++(fs.map some++ρ')) (σa++(vs.map some++σ')) F G H
 |[],[],fs,ρ,ρ',ρa,σ,σ',σa,e,r,h,h2,_=>by
  let i:⇑([]:List S)=⇑fs:=by cases ρ<;>show e
  cases i;show#[rfl,rfl,?_];let I:=Rel.swap (ρ1:=ρ) (σ1:=σ) (ρ2:=ρ') (σ2:=σ') h h2 r;rw[<-qo,<-qo]at I;let Y:(ρa++ρ').length=(σa++σ').length:=by let:=r.len;simp at this;simp;lia
  simpa using I.drop Y
 |[],_::_,_,_,_,_,_,_,_,_,_,_,_,h=>by cases h
 |_::_,[],_,_,_,_,_,_,_,_,_,_,_,h=>by cases h
 |_::_,_::_,_,_,_,_,[],_,_,_,_,_,_,h=>by cases h
 |_::_,_::_,_,[],_,_,_::_,_,_,_,_,_,h2,_=>by simp at h2
 |s::ss,v::vs,fs,o::ρ,ρ',ρa,u::σ,σ',σa,e,r,h,h2,ha=>by
  let L:ρ.length=σ.length:=↑h2
  let#[Z,J]:=ha;rcases Z with⟨d,rfl,rp⟩|⟨hs,hu⟩
  .have i:(aC ss ρ).map (S.sh d::·)=⇑fs:=e;cases q:aC ss ρ with
   |none=>rw[q]at i;cases i
   |some B=>
    rw[q]at i;let h1:S.sh d::B=fs:=qf i;subst h1;let I:Rel K (ρa++(ρ++ρ')) (σa++(σ++σ')) F G H:=Rel.mid (ρ:=ρa) (σ:=σa) r h;let#[U,O,M]:=Fm q I h L J;let Y:(B.map some++ρ').length=(vs.map some++σ').length:=by let:=M.len;simp at this;simp;lia
    let r3:=M.push rp;rw[qo ρa,qo σa]at r3;let r4:=Rel.swap (ρ1:=B.map some++ρ') (σ1:=vs.map some++σ') (ρ2:=[⇑(.sh d)]) (σ2:=[⇑v]) h Y r3;show#[by simp[U],by simp[O],r4]
  .subst hu;let i:∃t B,o=⇑t/\aC ss ρ=⇑B/\fs=t::B:=by
    cases s with
    |sh d=>cases hs
    |_=>
     cases o with
     |none=>cases e
     |some t=>
      let i:(aC ss ρ).map (t::·)=⇑fs:=e;cases q:aC ss ρ with
      |none=>rw[q]at i;cases i
      |some B=>rw[q]at i;show#[t,B,rfl,rfl,(qf i).symm]
   let#[t,B,rfl,q,rfl]:=i;let I:Rel K ((ρa++[⇑t])++(ρ++ρ')) ((σa++[⇑v])++(σ++σ')) F G H:=↑r
   let#[U,O,M]:=Fm q I (by simp[h]) L J;show#[by simp[U],by simp[O],↑M]
def IT{ks:List Nat}:∀{ss:List S}{vs:List V}{σ:St}{j:Nat}{fp:List Addr},zF K F0 H (ss.map some) (vs.map some) fp->zy F0 F->(∀i s,ss[i]?=⇑s->(j+i)∈ks\/s.isSh=true)->
  (∀i v,vs[i]?=⇑v->(j+i)∈ks->σ[i]?=⇑⇑v)->vs.length<=σ.length->Args K F ss vs σ
 |[],[],_,_,_,_,_,_,_,_=>trivial
 |[],_::_,_,_,_,r,_,_,_,_=>by cases r
 |_::_,[],_,_,_,r,_,_,_,_=>by cases r
 |_::_,_::_,[],_,_,_,_,_,_,h=>by simp at h
 |s::ss,v::vs,u::σ,j,_,.so a b,sm,hk,hv,hl=>by
  show#[?_,IT (j:=j+1) b sm (λi t e=>by let:=hk (i+1) t e;rwa[show j+(i+1)=j+1+i by lia]at this) (λi t e z=>by simpa using hv (i+1) t ↑e (by rwa[show j+(i+1)=j+1+i by lia])) ↑hl];cases B:s.isSh with
  |true=>
   cases s with
   |sh d=>cases a with
    |sh r=>show .inl #[d,rfl,r.mono sm]
   |_=>cases B
  |false=>show .inr #[rfl,?_];let:=hk 0 s rfl;rw[B]at this;let z:(j+0)∈ks:=this.resolve_right (by simp);simpa using hv 0 v rfl z
theorem Eu{st:Stmt}(Fn:sM K x qual st f fd)(Sc:aD N ps (aB st))(hn:ps.length=n)(hm:N.length=m)
  (hb:∀(O:Value)(A:Around)(B:List PySem.Env)(s:Shared)(H:Hp)(E:XK),bM k (A.deeper (envOfC qual (aB st) s.heap.objs.size f O))->mC (eV (fE P w) P w K mg base N qual (aB st) f O A B s H E) ks (bI st) wb):
  dA P w K mg base (fE P w) (k+1) f fd ps (dQ K (fW n m ks wb) n):=by
 show Fn.okX Sc (λvs H Q E h=>?_) (λO A B s H vs Q E hr h=>?_)
 .obtain⟨F,G,ss,P',PX,hl,_⟩:=h;rw[hl,hn]
 .obtain⟨F,G,ss,P',PX,h3,Z,⟨h9,h8,Y⟩,h6,hex⟩:=h;show#[_,hb O A B s H E hr [] (eV (fE P w) P w K mg base N qual (aB st) f O A B s H E).xe PassesOwn.leaving,?_];let h7:N.length-vs.length=m-n:=by rw[h3,hm]
  let h5:Rel K (ss.map some++List.replicate (m-n) none) (L2.start N vs) F G H:=by unfold L2.start;rw[h7];show Z.pushNs (m-n)
  let h4:∀i v,vs[i]?=⇑v->(L2.start N vs)[i]?=⇑⇑v:=λi v e=>by unfold L2.start;let hi:i<vs.length:=(qg.mp e).1;rw[getElem?_append_left ↑hi,qE,e];rfl
  --how the arguments are at an end
  have h1:∀{ρ':Env}{σ':St}{F':Hp}{fs:List S},KP ks (L2.start N vs) σ'->zy F F'->ρ'.length=σ'.length->aC ss ρ'=⇑fs->Args K F' ss vs σ':=by
   intro ρ' σ' F' fs L J M e;let#[fp,en,_]:=Z.en;let h2:vs.length<=σ'.length:=by
    --aC reads as many slots as there are arguments
    have:∀(ss:List S)(ρ:Env)(fs:List S),aC ss ρ=⇑fs->ss.length<=ρ.length:=by
     intro ss;induction ss with
     |nil=>intro ρ fs _;simp
     |cons s ss ih=>
      intro ρ fs e;cases ρ with
      |nil=>cases s<;>cases e
      |cons o ρ=>
       have:∃gs,aC ss ρ=⇑gs:=by
        cases q:aC ss ρ with
        |some gs=>show#[gs,rfl]
        |none=>
         cases s with
         |sh d=>have e':(aC ss ρ).map (S.sh d::·)=⇑fs:=e;rw[q]at e';cases e'
         |_=>
          cases o with
          |none=>cases e
          |some t=>have e':(aC ss ρ).map (t::·)=⇑fs:=e;rw[q]at e';cases e'
       let#[gs,q]:=this;let:=ih ρ gs q;simp;show this
    let:=this ss ρ' fs e;lia
   show IT (ks:=ks) (F:=F') (σ:=σ') (j:=0) en J (λi s e=>by simpa using h8 i s e) (λi v e z=>by rw[L i ↑z];show h4 i v e) h2
  let U:∀{ρ':Env}{σ':St}{F' H':Hp}{t:S}{v:V}{fs:List S},KP ks (L2.start N vs) σ'->zy F F'->Rel K (ρ'++[⇑t]) (σ'++[⇑v]) F' G H'->aC ss ρ'=⇑fs->P' t fs->Q v H':=by intro ρ' σ' F' H' t v fs L J r e hp;let M:ρ'.length=σ'.length:=Af r;let#[l1,l2,r1]:=Fm (ρa:=[]) (σa:=[]) (ρ':=[⇑t]) (σ':=[⇑v]) e r rfl M (h1 L J M e);show h6 t fs v F' H' hp J l1 r1
  show#[F,G,_,_,h5,Y,λρ' σ' F' H' h L J r=>?_,λρ' σ' F' H' h=>h.elim,λρ' σ' F' H' h=>h.elim,λa ρ' σ' v F' H' h L J r rv=>?_,λd ρ' σ' F' H' u s' h L J r I xr=>?_]
  .obtain⟨fs,e,h⟩:=Ag h;show U L J (r.push .non) e h
  .cases a with
   |v t=>let#[fs,e,h]:=Ag h;show U L J r e h
   |loc i=>
    let#[t,et,h]:=Ag h;let hl:=Af r;by_cases hi:i<n
    .rw[qZ hi]at h;let#[fs,e,h]:=Ag h;let#[F2,s2,_,r2]:=As (x:=.loc i) (s:=.sh t.toD) (ρ1:=ρ'.set i ⇑(.sh t.toD)) (ρ':=[]) (σ':=[]) r hl rv (by show(match slot ρ' i with|some s=>⇑(S.sh s.toD,ρ'.set i ⇑(.sh s.toD))|none=>none)=_;rw[et]);show U L (J.trans s2) r2 e h
    .rw[q5 hi]at h;let#[fs,e,h]:=Ag h;let r2:=Rel.lend (ρ':=[]) (σ':=[]) r hl et rv;refine U L J r2 ?_ h
     --the slot lies behind the parameters
     have:∀(ss:List S)(ρ:Env)(i:Nat),ss.length<=i->aC ss (ρ.set i none)=aC ss ρ:=by
      intro ss;induction ss with
      |nil=>intro ρ i _;cases ρ<;>cases i<;>rfl
      |cons s ss ih=>
       intro ρ i hi;cases ρ with
       |nil=>rfl
       |cons o ρ=>
        cases i with
        |zero=>simp at hi
        |succ i=>
         let e:=ih ρ i ↑hi;cases s with
         |sh d=>show(aC ss (ρ.set i none)).map _=(aC ss ρ).map _;rw[e]
         |_=>
          cases o with
          |none=>rfl
          |some t=>show(aC ss (ρ.set i none)).map _=(aC ss ρ).map _;rw[e]
     rw[this ss ρ' i ∅];show e
  .obtain⟨fs,e,h⟩:=Ag h;let#[a,C,dx,rfl,cd,Fl]:=xr;let#[l1,l2,r1]:=Fm (K:=K) (ρa:=[]) (σa:=[]) (ρ':=[]) (σ':=[]) e (by simpa using(show Rel K ρ' σ' F' G H' from r)) rfl r.len (h1 L J r.len e);show Qh I Fl (hex d fs F' H' C dx h J l1 ↑r1 cd)
end
@[inline]def ClsAt(h:Heap)(C:Addr)(bm:List Value):Prop:=∃nm q N bs hdct sn sub ab col dd k0 k1 k2 k3 k5 newId,h.get? C=some (excClassObj nm q C N bs bm hdct sn sub ab col dd k0 k1 k2 k3 k5 newId)/\bm.contains (.type "BaseException")=true
def ClsAt.keeps(k:∀b o,h.get? b=⇑o->h'.get? b=⇑o)(c:ClsAt h C bm):ClsAt h' C bm:=by let#[nm,q,N,bs,B,G,sub,ab,F,Z,O,M,L,J,I,i,Y,U]:=c;show#[nm,q,N,bs,B,G,sub,ab,F,Z,O,M,L,J,I,i,k _ _ Y,U]
def UN{M:Model}{A:Around}{E:zr}{s:Shared}{e C B:Addr}{oe:Obj}{bm F:List Value}{Q:Bool->Shared->Prop}(Y:ClsAt s.heap C bm)(I:ClsAt s.heap B F)(he:s.heap.get? e=⇑oe)(i:oe.cls=.ref C)
  (hm:(Value.ref C::bm).contains (.ref B)=true)(hq:Q true s):wpAny M A (excMatches (.ref e) (.ref B)) Q E s:=by
 let#[nm,q,N,bs,h1,sn,sub,ab,e2,dd,k0,k1,k2,k3,k5,J,Y,hb]:=Y;let#[h4,q',N',e3,L,h3,Z,e4,h2,e1,h9,h8,h7,h6,h5,G,I,U]:=I;let O:(Value.ref B::F).contains (.type "BaseException")=true:=by rw[List.contains_cons,U,Bool.or_true]
 let f:=tc_notTuple
 repeat (first|(with_reducible show wpAny_loadPart_at he ?_;rw[i])|with_reducible show wpAny_loadPart_at I ?_|(with_reducible show wpAny_isSubtype_exc Y ?_;rw[hm])|(with_reducible show wpAny_isSubtype_exc I ?_;rw[O])|wp_step)
 show hq
abbrev hX(X:Cx)(e:Addr):Cx:={X with A:=X.A.mark ⇑(.ref e),calm:=false}
def Inv.wp'(I:Inv (wp X pn xe) zS σ H s)(h:∀p∈i++pins',p∈pn++zS):Inv (wp X i B) pins' σ H s:=
 ⟨⟨I.ok.mod,I.ok.kind,I.ok.glob,I.ok.blt,I.ok.above,I.ok.inj,I.ok.has,I.ok.cab,I.ok.hd,I.ok.frames,I.ok.stk,I.ok.exf,I.ok.bs,I.ok.bsz,I.ok.noex,I.ok.exfs,I.ok.funs,I.ok.frf⟩,
   I.os,I.bare,I.base,I.loc,I.cell,I.free,I.freeC,λp F=>I.pin p (h p F),I.hok,I.len⟩
def Inv.held(I:Inv (wp X pn xe) zS σ H s)(h:∀p∈i++pins',p∈pn++zS):Inv (wp (hX X e) i B) pins' σ H s:=
 ⟨⟨I.ok.mod,I.ok.kind,I.ok.glob,I.ok.blt,I.ok.above,I.ok.inj,I.ok.has,I.ok.cab,λz=>(by cases z),I.ok.frames,I.ok.stk,I.ok.exf,I.ok.bs,I.ok.bsz,I.ok.noex,I.ok.exfs,I.ok.funs,I.ok.frf⟩,
   I.os,I.bare,I.base,I.loc,I.cell,I.free,I.freeC,λp F=>I.pin p (h p F),I.hok,I.len⟩
def Inv.let(I:Inv (wp (hX X e) i B) pins' σ H s)(G:X.calm=true->X.A.handled=none)(h:∀p∈pn++zS,p∈i++pins'):Inv (wp X pn xe) zS σ H s:=
 ⟨⟨I.ok.mod,I.ok.kind,I.ok.glob,I.ok.blt,I.ok.above,I.ok.inj,I.ok.has,I.ok.cab,G,I.ok.frames,I.ok.stk,I.ok.exf,I.ok.bs,I.ok.bsz,I.ok.noex,I.ok.exfs,I.ok.funs,I.ok.frf⟩,
   I.os,I.bare,I.base,I.loc,I.cell,I.free,I.freeC,λp F=>I.pin p (h p F),I.hok,I.len⟩
def iT.wp'{H:Hp}(F:iT (wp X pn xe) zS H h e cls dx)(L:∀p∈i++pins',p∈pn++zS):iT (wp X i B) pins' H h e cls dx:=by
 let g:∀{b},bN (wp X pn xe) zS H b->bN (wp X i B) pins' H b:=λf=>#[f.1,f.2.1,f.2.2.1,f.2.2.2.1,f.2.2.2.2.1,λp M=>f.2.2.2.2.2 p (L p M)]
 let#[f,I,vs,h1,h2,O,Y,U]:=F;show#[g f,I,vs,h1,h2,O,Y,U.imp id ?_];rintro⟨T,J,G,a1,a2,a3,Z⟩;show#[T,J,G,a1,a2,g a3,Z]
def SP.wp'{D:L2.Ends}(h:∀p∈pn++zS,p∈B++pins')(z:SP (wp X B F) pins' D f s):SP (wp X pn xe) zS D f s:=by
 cases f with
 |next=>let#[i,H',I,q]:=z;show#[i,H',Inv.wp' I h,q]
 |brk=>let#[i,H',I,q]:=z;show#[i,H',Inv.wp' I h,q]
 |cont=>let#[i,H',I,q]:=z;show#[i,H',Inv.wp' I h,q]
 |ret u=>let#[v,i,H',I,r,q]:=z;show#[v,i,H',Inv.wp' I h,r,q]
def oV(X:Cx)(cs:List (List Nat))(B:Addr):Prop:=∀c∈cs,∃C bm,W.nsIn X.K mainGlobals (#[c.toArray]:Str)=⇑⇑(.ref C)/\ClsAt X.base C bm/\(Value.ref C::bm).contains (.ref B)=true
def Inv.adopt{zS:List (Addr×Obj)}{σ:St}{H:Hp}{s:Shared}{e:Addr}(I:Inv X zS σ H s)(F:iT X zS H s.heap e (.ref C) dx):Inv X zS σ (upd H e (.ext (jH e C dx))) s:=by
 let#[#[f0,f1,f2,f3,Z,Y],G,vs,J,U,M,O,_]:=F;let i:∀b o,H b=⇑o->b≠e:=λb o q z=>by rw[z,f0]at q;cases q
 show I.call' (ch:=[e]) rfl #[λb o q _ _ _=>q,λb o q _ _ _=>#[o.slots,q],λb o _ n x=>(Aj λz=>x (by simp[z])).trans n,λb o q _=>#[o,q],λb xs q=>(Aj (i _ _ q)).trans q,λb o u q=>(Aj (i _ _ q)).trans q,λb ps q=>#[#[],by rw[Aj (i _ _ q),q];simp]] (λb o q=>?_) I.bare λb B=>?_
 .by_cases B:b=e
  .subst B;rw[AB]at q;cases q;show#[#[G,vs,J,U,M,O],#[G,J],λh1 h2 z k=>?_];let#[o,L,a1,a2,a3]:=z;show#[o,L,k _ a1,a2,a3]
  .rw[Aj B]at q;show(I.hok b o q).stay (λ_ _ _ z=>z) (λc z=>(Aj (i _ _ z)).trans z) λc xs z=>(Aj (i _ _ z)).trans z
 .rw[qt.mp B];show#[f3,f1,Z,Y]
theorem gone{zS:List (Addr×Obj)}{σ:St}{H:Hp}{s:Shared}{i:Nat}{y:Str}{M:Model}{A:Around}{E:zr}{Q:Unit->Shared->Prop}(I:Inv X zS σ H s)(hN:∀j,X.N[j]?=⇑y->j=i)(hk:X.env.scope.names.lookup y=⇑.local)(h:∀s',Inv X zS (σ.set i none) H s'->Q () s'):
  wpAny M A (do bindName X.env y .none;unbindBehindTheSuite X.env y pos) Q E s:=by
 let#[m,hn,hl]:=id I.loc;let hcls:(X.env.scope.kind==.class||(X.env.scope.kind==.module&&X.env.locals !=X.env.globals))=false:=by rw[I.ok.kind];rfl
 let cne:=I.cne;show wpAny_nameGoes_keeps hk hn hcls λh' v hn' hs=>h _ #[I.ok,I.os,I.bare,#[λb o e n hb hx=>?_,λb o e n hb hx=>?_,I.base.free,λb o e hx=>?_,I.base.tups,I.base.frzs,I.base.tbls],#[_,hn',λj z v' e1 e2 e3=>?_],λy c e=>?_,I.free,I.freeC,λp hp=>?_,λb ob e=>?_,↑I.len]
 .show(hs.2 b (ne_of_lt (lt_of_lt_of_le (qe e) I.ok.above))).trans (I.base.keep b o e n hb hx)
 .obtain⟨sl,e1⟩:=I.base.slot b o e n hb hx;show#[sl,(hs.2 b (ne_of_lt (lt_of_lt_of_le (qe e) I.ok.above))).trans e1]
 .obtain⟨o',e1⟩:=I.base.there b o e hx;show#[o',(hs.2 b (ne_of_lt (lt_of_lt_of_le (qe e) I.ok.above))).trans e1]
 .let hj:i≠j:=λq=>by grind
  rw[getElem?_set_ne hj]at e2;let#[u',r',q]:=hl j z v' e1 e2 e3;show#[u',r',?_];rcases q with⟨k,e⟩|⟨k,c,e,w⟩
  .show .inl #[k,?_];let:z≠y:=λe=>hj (hN j (e▸e1)).symm;simp[this,e]
  .show .inr #[k,c,e,w.sameBut hs (cne z c e)]
 .obtain⟨w',z⟩:=I.cell y c e;show#[w',z.sameBut hs (cne y c e)]
 .obtain⟨e,n,ne,nf,d⟩:=I.pin p hp;show#[(hs.2 p.1 ne).trans e,n,ne,nf,d]
 .show(I.hok b ob e).stay (λc w' hc q=>(hs.2 c ?_).trans q) (λ_ q=>q) λ_ _ q=>q;rintro rfl;let:=I.free;rcases hc with hc|hc
  .rw[<-hc,this]at e;cases e
  .rw[this]at hc;cases hc
def QQ{j:Nat}{y:Str}(hk:j∉ks)(hN:∀i,X.N[i]?=⇑y->i=j)(hj:X.N[j]?=⇑y)(hy:X.env.scope.names.lookup y=⇑.local)(hr:X.stack=X.env::X.outer)(hf:X.env.frame=⇑X.env.locals)(hg:Gl X x)(hB:X.mg x=⇑(.ref B))(cB:ClsAt X.base B bmB)(r3:oV X cs B)(hb:mC X ks body wb)(hs:∀e,mC (hX X e) ks (b0::suite) ws)
  (r2:autoParam ((x==("__debug__":Str))=false) dZ9):FS X ks (.Try body [.ExceptHandler ⇑(.Name x np) ⇑y (b0::suite) hpos] [] [] pos) (iF cs j wb ws):=by
 intro pn xe M zS s σ H D I q;let#[F,G,ρ,E,e3,hw,n,b,c,r,hx]:=q;let hd:X.calm=true->X.A.handled=none:=I.ok.hd;show wpAny_Try_except (Ah (hb (pn++zS) (λe h6=>wpAny (model X.prog X.w) X.A (noteFrame e X.env) (λ_ h5=>wpAny (model X.prog X.w) X.A (setFlight e none) (λ_ h4=>wpAny (model X.prog X.w) X.A (handleBy e X.env [.ExceptHandler ⇑(.Name x np) ⇑y (b0::suite) hpos]) (SP (wp X pn xe) zS D) xe h4) xe h5) xe h6) PassesOwn.looking [] s σ H D (Inv.wp' I λp M=>by simpa using M) ?_) λf s1 z=>?_)
 .refine#[F,G,ρ,_,e3,hw,n,b,c,r,λd e1 O F' H' u s' M ha sm L I' xr=>?_];let#[#[c0,k2,k3,e2,rfl],hc]:=M;let#[e,C,dx,rfl,#[c',fs',vs',ec,h8,e4],Fl]:=xr;cases ec;let#[C',bm,Y,hC,hm]:=r3 c0 k2;rw[Y]at h8;cases h8;let J:Inv (wp X pn xe) zS O H' s':=Inv.wp' I' λp M=>by simpa using M
  show Kx (X:=wp X pn xe) (zS:=zS) hr hf J (iT.wp' Fl λp M=>by simpa using M) λh1 J1 F1=>?_;show wpAny_handleBy_cons (codeAny_handlers_test ?_) (by intro q;cases q);let J2:Inv (wp (hX X e) pn (λ_ _=>False)) zS O H' {s' with heap:=h1}:=Inv.held J1 λ_ z=>z;show Dc (X:=wp (hX X e) pn (λ_ _=>False)) J2 hg hB ?_ r2;let#[_,oe,vs,he,k1,_]:=id F1;show UN (hC.keeps J2.bk) (cB.keeps J2.bk) he k1 hm ?_;show codeAny_handlers_suite_as (Ur (X:=wp X pn xe) J1 F1 λh2 J3 F3=>?_);let J4:Inv (wp (hX X e) (pn++zS) (λ_ _=>False)) [] O (upd H' e (.ext (jH e C dx))) {s' with heap:=h2}:=Inv.held (Inv.adopt (X:=wp X pn xe) J3 F3) λp M=>↑M
  have hl:=L.len;let Z:=F3.1.1;let h7:Rel X.K (e1.set j ⇑(.sh (.exc c0 k3 e2))) (O.set j ⇑(.ref e)) (upd F' e (.ext (jH e C dx))) G (upd H' e (.ext (jH e C dx))):=
   Rel.store ((L.newF Z).push (.exc AB Y (e4.mono (zy.upd (L.free Z).1)))) hl (by rw[hl,J.len];show(qg.mp hj).1)
  show Hk (X:=wp (hX X e) (pn++zS) (λ_ _=>False)) (v:=.ref e) J4 hN hj (.inl hy) rfl (λs4 J5 _=>?_) (.inr hy);show zp (hs e (pn++zS) (λ_ _=>False) PassesOwn.never [] _ _ _ {nx:=λU H2=>D.nx (U.set j none) H2,rt:=λ_ _=>False} J5 ?_) (λf s2 z=>?_) λ_ _ z=>z.elim
  .refine#[_,G,_,_,h7,hc,λh3 U F2 H2 h k s r=>?_,λ_ _ _ _ h=>h.elim,λ_ _ _ _ h=>h.elim,λ_ _ _ _ _ _ h=>h.elim,λd h3 U F2 H2 u s2 p=>p.elim];let hq:=r.len;refine n _ _ F2 H2 h (λi hi=>?_) (sm.trans ((zy.upd (L.free Z).1).trans s)) ?_
   .let h9:j≠i:=λz=>hk (z▸hi);rw[getElem?_set_ne h9,k i hi,getElem?_set_ne h9];show ha i hi
   .by_cases r1:j<h3.length
    .show Rel.store (r.pushN (u:=none)) hq r1
    .rw[List.set_eq_of_length_le ∅,List.set_eq_of_length_le ∅];show r
  .cases f with
   |next=>let#[U,H2,J6,q]:=z;show gone (X:=wp X pn xe) (zS:=zS) (Inv.let J6 hd λp M=>by simpa using M) hN hy λs5 J7=>#[_,H2,J7,q]
   |brk=>let#[_,_,_,q]:=z;show q.elim
   |cont=>let#[_,_,_,q]:=z;show q.elim
   |ret u=>let#[_,_,_,_,_,q]:=z;show q.elim
 .let z':SP (wp X pn xe) zS D f s1:=SP.wp' (λp M=>by simpa using M) z;cases f with
  |next=>let#[O,H',I',q]:=z';show Jy (X:=wp X pn xe) zS s1 O H' D I' q
  |brk=>show z'
  |cont=>show z'
  |ret u=>show z'
end FL
namespace FL
open PySem PySem.Spec PySem.Calls PyProof.Rows PySem.W L2
structure oR(K:Frag)(C:Addr):Prop where
 ga:findIn K (.ref C) "__getattribute__"=⇑⇑(.builtin "BaseException.__getattribute__")
 gt:findIn K (.ref C) "__getattr__"=⇑none
 cl:findIn K (.ref C) "__class__"=⇑⇑(.builtin "object.__class__")
 hn:specialIn K (.builtin "object.__class__") "__get__"=⇑⇑(.builtin "getset_descriptor.__get__")
 tk:takesIn K (.builtin "object.__class__")=⇑true
 ob:mroIn K C (.type "object")=⇑true
 be:mroIn K C (.type "BaseException")=⇑true
section
variable{K:Frag}{x C D:Addr}
def Pf(i:Value):bindSpecial (.builtin "BaseException.__getattribute__") i=pure (.builtin "BaseException.__getattribute__",[i]):=F.attr_ValueError.ga.bind i
def Kg{fill i:Bool}{tk:Tok}{Q:zr}(X:K.In s.heap)(I:InstAt s.heap x ox D Z)(k:oR K D)
  (h:∀(A:Around)(Q':Fin->Shared->Prop)(E':zr),(∀v s',handedOut v=pure v/\Q v s'->Q' (.done (.ret v)) s')->wpAny (model prog w) A (Builtin.«object.__getattribute__» #[[.ref x,.str name tk],[]]) Q' E' s):
  wpAny (model prog w) A (getAttrBy (.ref x) (.str name tk) fill i) Q E s:=by
 let#[hh,gg,d,t,os]:=s;let O:=I.type (M:=model prog w);let L1:=looks_findIn (M:=model prog w) X k.ga;let L2:=looks_findIn (M:=model prog w) X k.gt;let L3:=looks_mroIn (M:=model prog w) X k.be;let L:(i&&onTheHeap (Value.builtin "BaseException.__getattribute__"))=false:=by cases i<;>rfl
 let G:(Value.builtin "BaseException.__getattribute__"==Value.builtin "object.__getattribute__")=false:=by decide+kernel
 let J:(onTheHeap (Value.ref D)&&Value.builtin "BaseException.__getattribute__"==Value.builtin "object.__getattribute__")=false:=by rw[G];rfl
 unfold getAttrBy;show zn (qa (O.at (qa (L1.at ?_))));dsimp only;rw[q5 (by rw[J];decide)];unfold getAttrByItsOwn hookBefore;rw[qZ (show onTheHeap (Value.ref D)=true from rfl)];show qa (L2.at (qa (wpAny_attempt (zn ?_))));unfold callGetattribute;rw[q5 (by rw[L];decide)];unfold boundAndCalled;rw[Pf];show qa (qb ?_);show wpAny_call (codeAny_call_builtin (by decide+kernel) F.entry_bexc_ga ?_);let hk:builtinKind "BaseException.__getattribute__"=⇑.slot:=by decide+kernel
 let B:splitId "BaseException.__getattribute__"=⇑("BaseException","__getattribute__"):=by decide+kernel
 let ha:=F.args_bexc_ga (.ref x) (.str name tk);simp only[checkBuiltinCall,hk,B];show qa ?_;unfold isInstance;show qa (O.at (L3.at ?_))
 repeat (first|(show h _ _ _ λv s' z=>?_)|wp_step)
 let#[Y,U]:=z;show wpAny _ _ (handedOut v) _ _ _;rw[Y];show qb U
def Og{fill i:Bool}{tk:Tok}{Q:zr}(X:K.In s.heap)(I:InstAt s.heap x O D B)(k:oR K D)(G:findObj K D B name=⇑(.bind g a))
  (h:∀A,wpAny (model prog w) A (call g [a,.ref x,.ref D]) (λv s'=>handedOut v=pure v/\Q v s') (λ_ _=>False) s):
  wpAny (model prog w) A (getAttrBy (.ref x) (.str name tk) fill i) Q E s:=Kg X I k λA U Y F=>by
 let L:=I.type (M:=model prog w);let J:=looks_find (M:=model prog w) X I G;show qa (qb (qa (qb (qa (L.at (qa (J.at ?_)))))));show qa (zn (zp (h _) (λv s' z=>qb (F v s' z)) λ_ _ z=>z.elim))
def Oc{Q:Option Value->Shared->Prop}(X:K.In s.heap)(I:InstAt s.heap x G D i)(k:oR K D)(h:Q ⇑(.ref D) {s with toks:=s.toks+1}):wpAny (model prog w) A (getAttr? (.ref x) "__class__") Q E s:=by
 have B:(clsIn K D).isSome=true:=by
  let:=k.ob;unfold mroIn at this;cases q:clsIn K D with
  |none=>rw[q]at this;cases this
  |some _=>rfl
 let F:findObj K D i "__class__"=⇑(.bind (.builtin "getset_descriptor.__get__") (.builtin "object.__class__")):=by let#[J,B]:=isSome_iff_exists.mp B;unfold findObj;rw[B,k.cl,bind_some];simp[k.hn,k.tk]
 show qa (wpAny_mkText (qa (wpAny_attempt ?_)));show Og (s:={s with toks:=s.toks+1}) X I k F λA=>wpAny_call (class_get (s:={s with toks:=s.toks+1}) X I k.ob #[rfl,qb h])
def Kk{x C:Addr}{odo:Option Obj}(k:oR K C):KitX K (.ref x) (.ref C) (λh=>∃ox,InstAt h x ox C odo) where
 ty:=λ_ _ _⟨_,I⟩=>I.type
 it:=λ_ _ X _=>by
  let hc:=k.ob;unfold mroIn clsIn at hc;split at hc
  .rename_i c' d' cd' sl' ho;intro A' Q' E' s' k q;show qa (wpAny_loadPart (k _ _ (X _ _ ho)) (qb q))
  .cases hc
 ne:=λh tp dd zW n sl X htp=>by
  let hc:=k.ob;show Bool.eq_false_iff.mpr λq=>?_;let e:C=tp:=Value.ref.inj (beq_iff_eq.mp q);subst e;unfold mroIn clsIn at hc;split at hc
  .rename_i c' d' cd' sl' ho;let z:=(X _ _ ho).symm.trans htp;cases z
  .cases hc
 ca:=λX⟨_,I⟩ q=>Oc X I k q
end
end FL
namespace FL
open PySem PySem.Spec PyProof.Rows L2
open PySem.W (kitOne kitAny nsIn kia_one kia_tup kitx_none)
def eN(K:W.Frag)(kn yes:List (List Nat))(i:Value):Prop:=kitOne K (.type "NoneType") i=⇑false/\∀c∈kn,∃C,nsIn K mainGlobals (#[c.toArray]:Str)=⇑⇑(.ref C)/\oR K C/\kitOne K (.ref C) i=⇑(yes.contains c)
def gR(K:W.Frag)(kn yes:List (List Nat))(i:List Value):Prop:=kitAny K (.type "NoneType") i=⇑false/\∀c∈kn,∃C,nsIn K mainGlobals (#[c.toArray]:Str)=⇑⇑(.ref C)/\oR K C/\kitAny K (.ref C) i=⇑(yes.contains c)
section
variable{X:Cx}{s:Shared}
def IE{c:List Nat}{fs:List (List Nat)}{vs:List D}(e:tX kn yes (.exc c fs vs)=⇑b):c∈kn/\yes.contains c=b:=by
 let i:(if kn.contains c then ⇑(yes.contains c)else none)=⇑b:=e;split at i
 .rename_i h;show#[↑h,qf i]
 .cases i
def JH{a C:Addr}{dx:Option Addr}{fs:List (List Nat)}{vs:List D}(B:eA X.prog X.w H s.heap)(U:H a=⇑(.ext (jH a C dx)))(L:mI H dx fs vs):∃F J,W.InstAt s.heap a J C F:=by
 let#[#[o,Y,h1,h2,I,O],_,_]:=(show zR X.prog X.w H s.heap a (.ext (jH a C dx)) from B a _ U)
 let G:W.notCls o=true:=by unfold W.notCls;rw[O]
 rcases L with⟨rfl,_⟩|⟨p,f,i,rfl,_,_,e⟩
 .show#[none,o,h1,h2,G,by rw[I];trivial]
 .obtain⟨u,M⟩:=zR.there (B p _ e);show#[⇑u,o,h1,h2,G,by rw[I];show M]
def QC(I:Inv X zS σ H s)(B:zH x u)(F:aP X.K H x d)(e:tX kn yes d=⇑b)(hi:eN X.K kn yes Z)(h:∀tk,Q (.bool b) {s with toks:=tk}):
  wpAny (model X.prog X.w) A (call (.builtin "isinstance") [u,Z]) Q E s:=by
 cases F with
 |non=>cases(show u=Value.none from B);cases e;show kia_one kitx_none I.kIn True.intro hi.1 (λz=>nomatch z) h
 |@exc a C dx c fs vs Y O M=>cases(show u=Value.ref a from B);let#[U,rfl]:=IE e;let#[C',i,k,q]:=hi.2 _ U;rw[O]at i;cases i;let#[L,G,J]:=JH I.hok Y M;show kia_one (Kk k) I.kIn #[G,J] q (λz=>nomatch z) h
 |_=>cases e
def QY{G:Addr}{dd:Option Addr}{i:List Value}{n:Nat}{M:Array (Option Value)}(I:Inv X zS σ H s)(L:zH x u)(O:aP X.K H x d)(e:tX kn yes d=⇑b)(hi:gR X.K kn yes i)(B:s.heap.get? G=⇑#[.type "tuple",dd,.seq i.toArray n,M])(h:∀tk,Q (.bool b) {s with toks:=tk}):
  wpAny (model X.prog X.w) A (call (.builtin "isinstance") [u,.ref G]) Q E s:=by
 cases O with
 |non=>cases(show u=Value.none from L);cases e;show kia_tup kitx_none I.kIn True.intro B hi.1 (λz=>nomatch z) h
 |@exc a C dx c fs vs ea hn Z=>cases(show u=Value.ref a from L);let#[hc,rfl]:=IE e;let#[C',F,k,q]:=hi.2 _ hc;rw[hn]at F;cases F;let#[Y,U,J]:=JH I.hok ea Z;show kia_tup (Kk k) I.kIn #[U,J] B q (λz=>nomatch z) h
 |_=>cases e
end
def Il(hg:Gl X "isinstance")(hm:X.mg "isinstance"=none)(hv:bootBuiltins "isinstance"=⇑(.builtin "isinstance"))
  (hT:∀(pn:List (Addr×Obj))(xe:zr)(zS:List (Addr×Obj))(σ:St)(H:Hp)(s:Shared)(Q:zr)(E:zr),Inv (wp X pn xe) zS σ H s->Q cv s->wpAny (model X.prog X.w) X.A (eval (.Name T pt) X.env) Q E s)
  (hi:eN X.K kn yes cv)(ha:FE X a wa)
  (Y:autoParam (starEach [a,.Name T pt] X.env=(false,eval a X.env)::starEach [.Name T pt] X.env) rZ9)(h1:autoParam (starEach [.Name T pt] X.env=[(false,eval (.Name T pt) X.env)]) rZ9)(L:autoParam ((backTo pos (starEach [.Name T pt] X.env)).any (·.1)=false) rZ9):
  FE X (.Call (.Name "isinstance" p) [a,.Name T pt] [] pos) (jA kn yes wa):=λpn xe hp=>by
 intro zS s σ H Q I h;show wpAny_Call_Name_kw (Bg (X:=wp X pn xe) I hg hm hv ?_ ⋯ ⋯);show PyProof.Rows.callWith_builtin1 ?_ Y L;rw[Y];show Calls.spliced_cons (Ah (ha pn xe hp zS s σ H _ I (one (k:=λx i Q E=>zx (view x i) λd=>zx (tX kn yes d) λb=>Q (.v (.sh (.bl b))) i) h)) λu s1 Z=>?_);let#[x,H1,O,r1,q1]:=Z;show Calls.spliced_cons (hT pn xe zS σ H1 s1 _ _ O (Calls.spliced_nil ?_));let#[F,G,ρ,y,P,PX,B,U,ry,J,M,hx]:=q1;let#[d,ed,J]:=Ag J;let#[b,eb,J]:=Ag J;let rp:=look (ρ':=[]) (σ':=[]) B U ry ed;show QC O r1 rp eb hi λtk=>#[.bl _,H1,O.kept λ_ _ z=>z,rfl,?_]
 show M _ ρ _ F H1 J (zy.refl F) ((B.drop U).push (.bl _)) trivial
def Pc{B:Addr}(M:Gl X "isinstance")(L:X.mg "isinstance"=none)(J:bootBuiltins "isinstance"=⇑(.builtin "isinstance"))(F:Gl X T)(i:X.mg T=⇑(.ref B))(hi:eN X.K kn yes (.ref B))(U:FE X a wa)(G:autoParam ((T==("__debug__":Str))=false) dZ9)
  (O:autoParam (starEach [a,.Name T pt] X.env=(false,eval a X.env)::starEach [.Name T pt] X.env) rZ9):FE X (.Call (.Name "isinstance" p) [a,.Name T pt] [] pos) (jA kn yes wa):=
 Il M L J (λpn xe zS σ H s Q E I q=>Dc (X:=wp X pn xe) I F i q G) hi U O
def Ol{TS:String}(O:Gl X "isinstance")(M:X.mg "isinstance"=none)(L:bootBuiltins "isinstance"=⇑(.builtin "isinstance"))(G:Gl X T)(F:X.mg T=none)(i:bootBuiltins T=⇑(.type TS))(hi:eN X.K kn yes (.type TS))(Y:FE X a wa)(B:autoParam (T≠"__name__") dZ9)(J:autoParam ((T==("__debug__":Str))=false) dZ9)
  (U:autoParam (starEach [a,.Name T pt] X.env=(false,eval a X.env)::starEach [.Name T pt] X.env) rZ9):FE X (.Call (.Name "isinstance" p) [a,.Name T pt] [] pos) (jA kn yes wa):=
 Il O M L (λpn xe zS σ H s Q E I q=>Bg (X:=wp X pn xe) I G F i q B J) hi Y U
inductive yD(X:Cx):List Expr->List Value->Prop
 |nil:yD X [] []
 |cons {x:Str} {p:Pos} {B:Addr} {es:List Expr} {vs:List Value}:Gl X x->X.mg x=some (.ref B)->(x==("__debug__":Str))=false->yD X es vs->yD X (.Name x p::es) (.ref B::vs)
def yD.run{es:List Expr}{vs:List Value}(n:yD X es vs):∀{pn:List (Addr×Obj)}{xe:zr}{zS:List (Addr×Obj)}{σ:St}{H:Hp}{s:Shared}{Q:List Value->Shared->Prop}{E:zr},Inv (wp X pn xe) zS σ H s->Q vs s->wpAny (model X.prog X.w) X.A (spliced (backTo pos (starEach es X.env))) Q E s:=by
 induction n with
 |nil=>show λI q=>Calls.spliced_nil q
 |@cons x p B es vs G F J _ i=>intro pn xe zS σ H s Q E I q;show Calls.spliced_cons (Dc (X:=wp X pn xe) I G F (i I q) J)
def OD{es:List Expr}{vs:List Value}(hg:Gl X "isinstance")(hm:X.mg "isinstance"=none)(hv:bootBuiltins "isinstance"=⇑(.builtin "isinstance"))(hT:yD X es vs)(hz:vs.length<=sizeLine)(hi:gR X.K kn yes vs)(ha:FE X a wa)
  (U:autoParam (starEach [a,.Tuple es z pt] X.env=(false,eval a X.env)::starEach [.Tuple es z pt] X.env) rZ9)(h1:autoParam (starEach [.Tuple es z pt] X.env=[(false,eval (.Tuple es z pt) X.env)]) rZ9)(L:autoParam ((backTo pos (starEach [.Tuple es z pt] X.env)).any (·.1)=false) rZ9):
  FE X (.Call (.Name "isinstance" p) [a,.Tuple es z pt] [] pos) (jA kn yes wa):=λpn xe hp=>by
 intro zS s σ H Q I h;show wpAny_Call_Name_kw (Bg (X:=wp X pn xe) I hg hm hv ?_ ⋯ ⋯);show PyProof.Rows.callWith_builtin1 ?_ U L;rw[U];show wpAny _ _ (spliced ((false,eval a X.env)::[(false,eval (.Tuple es z pt) X.env)])) _ _ s;show Calls.spliced_cons (Ah (ha pn xe hp zS s σ H _ I (one (k:=λx i Q E=>zx (view x i) λd=>zx (tX kn yes d) λb=>Q (.v (.sh (.bl b))) i) h)) λu s1 zq=>?_);let#[x,H1,Z,r1,q1]:=zq;show Calls.spliced_cons (wpAny_Tuple_spliced (hT.run Z #[hz,Calls.spliced_nil ?_]));let#[F,G,ρ,y,P,PX,B,O,ry,J,M,hx]:=q1;let#[d,ed,J]:=Ag J;let#[b,eb,J]:=Ag J;let rp:=look (ρ':=[]) (σ':=[]) B O ry ed;let Y:=Z.kept (t':=s1.toks) λb u e=>qc {cls:=.type "tuple",data:=.seq vs.toArray} e;show QY Y r1 rp eb hi (qd _ rfl) λtk=>#[.bl _,H1,Y.kept λ_ _ z=>z,rfl,?_]
 show M _ ρ _ F H1 J (zy.refl F) ((B.drop O).push (.bl _)) trivial
end FL
namespace FL
open PySem PySem.Spec PyProof.Rows L2
open PySem.W (nsIn excIn mroIn clsIn isNs_of_in nsMap_none_of_in tail_of_in)
abbrev eX:List Value:=[.type "ValueError",.type "Exception",.type "BaseException",.type "object"]
abbrev fX:String:="ValueError.__new__"
section
variable{K:W.Frag}
def Mx(X:K.In h)(q:excIn K C eX fX=true):∃bm,ClsAt h C bm/\∀B,mroIn K C (.ref B)=⇑true->(Value.ref C::bm).contains (.ref B)=true:=by
 unfold excIn at q;split at q
 .rename_i dd cd I Z;split at q
  .rename_i C' bm U O M L n J hm Y;simp at q;let#[#[#[#[#[rfl,rfl],i],ht],h2],h3]:=q;let#[nm,bs,h1,ns,qn,hd,sn,sub,ab,G,h4]:=cd;subst hm i;let F:I=[U,O,M,L,⇑(.builtin fX),J].toArray:=by let#[l]:=I;simp only at Y;rw[Y]
   subst F;show#[bm,#[nm,qn,ns,bs,hd,sn,sub,ab,G,dd,U,O,M,L,J,fX,X _ _ Z,(tail_of_in X ht).hasType (by decide+kernel)],λB e=>?_];unfold mroIn clsIn at e;rw[Z]at e;simpa using e
  .cases q
 .cases q
end
def dj(K:W.Frag)(C:Addr):Prop:=∀h,K.In h->∃bm,ClsAt h C bm/\∀B,mroIn K C (.ref B)=⇑true->(Value.ref C::bm).contains (.ref B)=true
theorem ck{K:W.Frag}{C:Addr}(q:excIn K C eX fX=true):dj K C:=λ_ X=>Mx X q
def dY(K:W.Frag)(cs:List (List Nat))(B:Addr):Prop:=∀c∈cs,∃C,nsIn K mainGlobals (#[c.toArray]:Str)=⇑⇑(.ref C)/\dj K C/\mroIn K C (.ref B)=⇑true
def dY.at{h:Heap}(I:X.K.In X.base)(k:dY X.K cs B):oV X cs B:=λc i=>by let#[C,h1,h2,F]:=k c i;let#[G,a,b]:=h2 _ I;show#[C,G,h1,a,b B F]
def Sf(Y:j∉ks)(hN:∀i,X.N[i]?=⇑y->i=j)(hj:X.N[j]?=⇑y)(M:X.env.scope.names.lookup y=⇑.local)(hB:X.mg x=⇑(.ref B))(eB:dj X.K B)(J:dY X.K cs B)(hb:mC X ks body wb)(O:∀e,mC (hX X e) ks (b0::suite) L)
  (F:autoParam (X.stack=X.env::X.outer) rZ9)(hf:autoParam (X.env.frame=⇑X.env.locals) rZ9)(Z:autoParam (Gl X x) rZ9)(G:autoParam ((x==("__debug__":Str))=false) dZ9):FS X ks (.Try body [.ExceptHandler ⇑(.Name x np) ⇑y (b0::suite) hpos] [] [] pos) (iF cs j wb L):=λpn xe U zS s σ H D I q=>by
 let#[bm,cB,_]:=eB _ I.ok.mod.kin;show QQ Y hN hj M F hf Z hB cB (J.at (h:=X.base) I.ok.mod.kin) hb O G pn xe U zS s σ H D I q
def Ve:bootBuiltins "ValueError"=⇑(.type "ValueError"):=by decide+kernel
section
variable{K:W.Frag}
def Cd(h:x.cps.toList=c)(e:nsIn K mainGlobals x=r):nsIn K mainGlobals (#[c.toArray]:Str)=r:=by subst h;simpa using e
def Tq:dY K [] B:=λ_ h=>nomatch h
def UO(h1:nsIn K mainGlobals (#[c.toArray]:Str)=⇑⇑(.ref C))(h2:dj K C)(F:mroIn K C (.ref B)=⇑true)(r:dY K cs B):dY K (c::cs) B:=λd i=>by
 rcases qA.mp i with rfl|i
 .show#[C,h1,h2,F]
 .show r d i
def Ja(h:W.kitOne K (.type "NoneType") i=⇑false):eN K [] yes i:=#[h,λ_ h=>nomatch h]
def Kr(h1:nsIn K mainGlobals (#[c.toArray]:Str)=⇑⇑(.ref C))(h2:oR K C)(G:W.kitOne K (.ref C) B=⇑b)(F:yes.contains c=b)(r:eN K kn yes B):eN K (c::kn) yes B:=⟨r.1,λd i=>by
 rcases qA.mp i with rfl|i
 .show#[C,h1,h2,by rw[F];show G]
 .show r.2 d i⟩
def Om(h:W.kitAny K (.type "NoneType") i=⇑false):gR K [] yes i:=#[h,λ_ h=>nomatch h]
def Ro(h1:nsIn K mainGlobals (#[c.toArray]:Str)=⇑⇑(.ref C))(h2:oR K C)(G:W.kitAny K (.ref C) i=⇑b)(F:yes.contains c=b)(r:gR K kn yes i):gR K (c::kn) yes i:=⟨r.1,λd B=>by
 rcases qA.mp B with rfl|B
 .show#[C,h1,h2,by rw[F];show G]
 .show r.2 d B⟩
end
end FL
namespace FL
open PySem PySem.Spec PySem.Calls PyProof.Rows PySem.W L2
section
variable{os:OsState}
variable{sub:List Value}{K:Frag}{rest:List Value}
def Ud{Q:Fin->Shared->Prop}(F:ExcBaseFacts B newId initId O)(T:OwnTail h O bm)(J:h.get? C=⇑(excClassObj nm q C N bs bm hdct sn sub ab col dd k0 k1 k2 k3 k5 newId))(X:K.In h)
  (hi:findIn K (.ref C) "__init__"=⇑⇑(.ref U))(hf:typeIn K (.ref U)=⇑(.type "function"))
  (Z:∀h' e,Heap.MadeExcOf h h' e (.ref C) rest->wpAny (model prog w) A (call (.ref U) (.ref e::rest)) (λr s'=>r=.none/\Q (.done (.ret (.ref e))) s') E #[h',g,d,t,os])(G:rest.length<=sizeLine):
  wpAny (model prog w) A (Builtin.«type.__call__» #[.ref C::rest,[]]) Q E #[h,g,d,t,os]:=by
 repeat (first|with_reducible show wpAny_loadPart_at J ?_|with_reducible show wpAny_madeBy_exc J ?_|wp_step)
 refine codeAny_call_builtin_code (Code.quiet_builtin _ F.quiet) (wpAny_check_new_subT F T J ?_);show codeAny_exc_new_subT F T J ?_ G;let L:∀b o,h.get? b=⇑o->((h.push {cls:=.type "tuple",data:=.seq rest.toArray}).push {cls:=.ref C,data:=.fields [.ref h.objs.size,.none,.none,.none,.bool false,.none].toArray}).get? b=⇑o:=λb o e=>qc _ (qc _ e);let I:=L _ _ J;let i:((h.push {cls:=.type "tuple",data:=.seq rest.toArray}).push {cls:=.ref C,data:=.fields [.ref h.objs.size,.none,.none,.none,.bool false,.none].toArray}).get? (h.objs.size+1)=some
   {cls:=.ref C,data:=.fields [.ref h.objs.size,.none,.none,.none,.bool false,.none].toArray}:=by heap_get
 let M:(Value.ref C::bm).contains (.ref C)=true:=by simp
 repeat (first|with_reducible show wpAny_loadPart_at i ?_|(with_reducible show wpAny_isSubtype_exc I ?_;rw[M])|wp_step)
 show(looks_findIn (X.keeps L) hi).at ?_;show zn (qa ((bind_fn (X.keeps L) _ hf).at ?_));show qa (zp (Z _ (h.objs.size+1) #[L,Heap.get?_none_of_le (le_succ _),h.objs.size,i,Heap.get?_none_of_le (q8 _),qc _ (Heap.get?_push_at rfl rfl)]) (λr s' Y=>?_) λ_ _ x=>x);let#[rfl,hQ]:=Y
 wp_walk
 show hQ
def Ss{Q:zr}(F:ExcBaseFacts B newId initId I)(T:OwnTail h I bm)(G:h.get? C=⇑(excClassObj nm q C N bs bm hdct sn sub ab col dd k0 k1 k2 k3 k5 newId))(X:K.In h)
  (hi:findIn K (.ref C) "__init__"=⇑⇑(.ref J))(O:typeIn K (.ref J)=⇑(.type "function"))
  (L:∀h' e,Heap.MadeExcOf h h' e (.ref C) rest->wpAny (model prog w) (A.under (.builtin "type.__call__" #[.ref C::rest,[]])) (call (.ref J) (.ref e::rest)) (λr s'=>r=.none/\Q (.ref e) s') E #[h',g,d,t,os])(i:rest.length<=sizeLine):
  wpAny (model prog w) A (call (.ref C) rest) Q E #[h,g,d,t,os]:=by
 let Y:=tc_lookup;let U:=tc_bind (.ref C);show wpAny_call (codeAny_of_tree ?_)
 repeat (any_goals (first|assumption|with_reducible show wpAny_loadPart_at G ?_|wp_step))
 show#[rfl,?_];show codeAny_call_builtin_at (Code.quiet_builtin _ (by decide+kernel)) entry_typeCall (wpAny_check_type_call_sub G (Ud F T G X hi O (λh' e M=>L h' e M) i))
end
def fY(e C:Addr)(dx:Option Addr)(h:Heap):Prop:=∃t i,h.get? e=⇑#[.ref C,dx,.fields [.ref t,.none,.none,.none,.bool false,.none].toArray,i]
section
variable{sub:List Value}{K:Frag}
def Uw{x:Sem Value}{Q:Flow->Shared->Prop}(B:bm.contains (.type "BaseException")=true)(L:A.handled=none)
  (h:wpAny M A x (λv i=>∃e I,v=.ref e/\i.heap.get? C=⇑(excClassObj nm q C N bs bm hdct sn sub ab col dd k0 k1 k2 k3 k5 newId)/\
   fY e C I i.heap/\E (.ref e) i) E s):
  wpAny M A (raiseStmt env ⇑x none) Q E s:=by
 let G:(Value.ref C::bm).contains (.type "BaseException")=true:=by rw[List.contains_cons,B,Bool.or_true]
 show qa (zp h (λv i F=>?_) λ_ _ x=>x);let#[e,I,rfl,J,#[t,Y,O],U]:=F
 repeat (first|with_reducible show wpAny_loadPart_at O ?_|with_reducible show wpAny_loadPart_at J ?_|(with_reducible show wpAny_isSubtype_exc J ?_;rw[G])|wp_step)
 show wpAny_raiseNew_none L U
def Tv(F:ExcBaseFacts B newId initId h2){x:Str}{np J pos:Pos}{args:List Expr}{Q:Flow->Shared->Prop}
  (hi:findIn K (.ref C) "__init__"=⇑⇑(.ref fI))(hf:typeIn K (.ref fI)=⇑(.type "function"))(O:bm.contains (.type "BaseException")=true)(hh:A.handled=none)(L:(backTo J (starEach args env)).any (·.1)=false)
  (h:wpAny (model prog w) A (eval (.Name x np) env) (λf M=>f=.ref C/\wpAny (model prog w) A (evalArgs (.ref C) true (backTo J (starEach args env)) [])
   (λa i=>a.kw=[]/\a.pos.length<=sizeLine/\i.heap.get? C=⇑(excClassObj nm q C N bs bm hdct sn sub ab col dd k0 k1 k2 k3 k5 newId)/\K.In i.heap/\OwnTail i.heap h2 bm/\
    ∀h' e,Heap.MadeExcOf i.heap h' e (.ref C) a.pos->wpAny (model prog w) (A.under (.builtin "type.__call__" #[.ref C::a.pos,[]])) (call (.ref fI) (.ref e::a.pos)) (λr s'=>r=.none/\s'.heap.get? C=⇑(excClassObj nm q C N bs bm hdct sn sub ab col dd k0 k1 k2 k3 k5 newId)/\∃Z,fY e C Z s'.heap/\E (.ref e) s') E {i with heap:=h'}) E M) E s):
  wpAny (model prog w) A (exec (.Raise ⇑(.Call (.Name x np) args [] J) none pos) env) Q E s:=by
 rw[arm_exec_Raise];show qa (wpAny_standAt (Uw (C:=C) (nm:=nm) (q:=q) (N:=N) (bs:=bs) (bm:=bm) (hdct:=hdct) (sn:=sn) (sub:=sub) (ab:=ab) (col:=col) (dd:=dd) (k0:=k0) (k1:=k1) (k2:=k2) (k3:=k3) (k5:=k5) (newId:=newId) O hh (qa (zp (wpAny_Call_ofName (zp h (λf M I=>?_) λ_ _ x=>x)) (λv h4 U=>qa (wpAny_standAt (qb U))) λ_ _ x=>x))));let#[rfl,I]:=I;show qa (zn (zp I (λa i G=>qa (wpAny_standAt ?_)) λ_ _ x=>x));let#[apos,h3]:=a;let#[h1,Y,hC,X,T,G]:=G;obtain rfl:h3=[]:=h1;simp only[L];show qa (wpAny_keeperOf_exc hC ?_);show qa (Ss F T hC X hi hf (λh' e hm=>zp (G h' e hm) (λr s' z=>?_) λ_ _ z=>z) Y);let#[z1,z2,Z,z3,z4]:=z;show#[z1,qa (zn (wpAny_point (qb #[e,Z,rfl,z2,z3,z4])))]
end
end FL
namespace FL
open PySem PySem.Spec PySem.Calls PyProof.Rows PySem.W L2
open Builtin Builtin.ObjectAttr
structure oS(K:Frag)(C Wb fI:Addr)(n:Str):Prop where
 lk:∃dd nm bs ns qn sn sub ab col k0 k1 k2 k3 k5,K.lookup C=⇑(excClassObj nm qn C ns bs (.ref Wb::eX) true sn sub ab col dd k0 k1 k2 k3 k5 fX)
 eW:excIn K Wb eX fX=true
 hi:findIn K (.ref C) "__init__"=⇑⇑(.ref fI)
 hf:typeIn K (.ref fI)=⇑(.type "function")
 hs:findIn K (.ref C) "__setattr__"=⇑⇑(.builtin "object.__setattr__")
 hn:findIn K (.ref C) n=⇑none
section
variable{K:Frag}
def oS.tail(k:oS K C Wb L name)(X:K.In h):OwnTail h eX (.ref Wb::eX):=by
 let q:=k.eW;unfold excIn at q;split at q
 .rename_i M O I G;split at q
  .simp at q;let#[#[#[#[#[rfl,rfl],F],J],i],B]:=q;show .own (X _ _ G) (.of_isNs (isNs_of_in X i)) (nsMap_none_of_in X i B) .base
  .cases q
 .cases q
def ON(X:K.In s.heap)(k:oS K C Wb fI name)(he:fY x C none s.heap)
  (h:∀h' dx tk,s.heap.get? dx=none->fY x C ⇑dx h'->h'.Ns1 dx (λy=>if y=name then ⇑v else none)->(∀b o,b≠x->s.heap.get? b=⇑o->h'.get? b=⇑o)->Q () {s with heap:=h',toks:=tk}):
  wpAny (model prog w) A (setAttr (.ref x) name v) Q E s:=by
 let#[tt,sl,M]:=he;let#[dd,nm,bs,ns,qn,sn,sub,ab,J,k0,k1,k2,k3,k5,lk]:=k.lk;let I:InstAt s.heap x #[.ref C,none,.fields [.ref tt,.none,.none,.none,.bool false,.none].toArray,sl] C none:=#[M,rfl,rfl,True.intro]
 show set_plain X I k.hs ?_;let L:=PySem.F.store_object;let hc:clsIn K C=⇑#[nm,bs,.ref C::.ref Wb::eX,ns,qn,true,sn,sub,ab,J,false]:=by unfold clsIn;rw[lk]
 have sb:Looks (model prog w) s.heap (isInstance (.ref x) (.type "object")) true:=I.type.andThen (looks_mroIn X (by unfold mroIn;rw[hc,bind_some];simp));show codeAny_call_builtin L.slot.plain L.entry (@check_slot (model prog w) _ _ _ "object.__setattr__" "object" "__setattr__" (.ref x) [.str name s.toks,v] [] _ L.kind L.split sb (L.args (.ref x) (.str name s.toks) v) ?_);let hm:Looks (model prog w) s.heap (mroOf (.ref C)) (.ref C::.ref Wb::eX):=(looks_clsIn X hc).andThen .now;rw[osa_eq,refuse_eq];show qa (qa (I.type.at (qa (hm.at ?_))));show qb (qa (I.type.at (qa ((looks_findIn X k.hn).at (qa (qb ?_))))));show qa (qb (qa ?_));let#[i,O,U,tk,os]:=s;let F:x≠i.objs.size:=ne_of_lt (qe M);let B:=qc {cls:=.type "dict",data:=.dict #[]} M;let hC:i.get? C=⇑(excClassObj nm qn C ns bs (.ref Wb::eX) true sn sub ab J dd k0 k1 k2 k3 k5 fX):=X _ _ lk;let h1:∀{A:Around}{Q':Option Addr->Shared->Prop}{E':zr}{O U tk os},Q' ⇑i.objs.size #[(i.push {cls:=.type "dict",data:=.dict #[]}).update x λo=>{o with dict:=⇑i.objs.size},O,U,tk,os]->wpAny (model prog w) A (instanceDict x true) Q' E' #[i,O,U,tk,os]:=λ{A Q' E' O U tk os} q=>by
  repeat (first|with_reducible show wpAny_loadPart_at M ?_|with_reducible show wpAny_loadPart_at hC ?_|wp_step)
  show q
 refine h1 ?_;let h2:((i.push {cls:=.type "dict",data:=.dict #[]}).update x λo=>{o with dict:=⇑i.objs.size}).get? i.objs.size=some {cls:=.type "dict",data:=.dict #[]}:=
  (Heap.get?_update_ne _ _ _ _ F.symm).trans (Heap.get?_push_at rfl rfl)
 have Z:((i.push {cls:=.type "dict",data:=.dict #[]}).update x λo=>{o with dict:=⇑i.objs.size}).Ns i.objs.size (λ_=>none):=
  #[_,#[],_,h2,rfl,λe he=>absurd he (by simp),λ_=>rfl]
 show qa (qb (qa (wpAny_nsSet1 (Heap.Ns1.of_empty Z) λh' G hs=>?_)));let#[oD,h6,h7,Y,h3,h4]:=G.count (Within.cons name v Within.nil);show qa (wpAny_lookBehind Y (by rw[h3];show pastItsLine_dict (le_trans h4 (by rw[qr,qv];omega))) ?_);show qb ?_;show h h' i.objs.size _ (Heap.get?_none_of_le (q8 _)) #[tt,sl,?_] ?_ λb ob h5 hb=>?_
 .show(hs.2 x F).trans (zb _ B rfl)
 .obtain⟨o',es,ep,e1,e2,e3,eu,e4⟩:=G;show#[o',es,ep,e1,e2,e3,eu,λy=>by rw[e4 y]]
 .show(hs.2 b (ne_of_lt (qe hb))).trans ((Heap.get?_update_ne _ _ _ _ h5).trans (qc _ hb))
end
end FL
namespace FL
open PySem PySem.Spec PyProof.Rows L2
open PySem.W (Frag nsIn findIn findObj)
def kE(K:Frag)(n:Str):Sp:=λvs H Q _=>∃e C F B i,vs=[.ref e,.int i]/\oS K C F B n/\H e=⇑(.ext (fY e C none))/\∀d,H d=none->d≠e->Q .non (upd (upd H e (.ext (fY e C ⇑d))) d (.xd [(n,.int i)]))
def oz(K:Frag)(ta i:TE)(n:Str):TS:=λD σ H=>i σ H λy H1=>ta σ H1 λx H2=>∃e C F B,x=.ref e/\oS K C F B n/\H2 e=⇑(.ext (fY e C none))/\∀d,H2 d=none->d≠e->D.nx σ (upd (upd H2 e (.ext (fY e C ⇑d))) d (.xd [(n,y)]))
def HZ(z:fY e C dx h):zR P w H h e (.ext (fY e C dx)):=#[z,let#[_,_,q]:=z;#[_,q],λ_ _⟨t,i,q⟩ k=>#[t,i,k _ q]]
def Inv.noH(I:Inv X zS σ H s)(h:s.heap.get? d=none):H d=none:=by
 cases z:H d with
 |none=>rfl
 |some o=>let#[v,z]:=zR.there (I.hok d o z);rw[h]at z;cases z
def US(I:Inv X zS σ H s)(F:H e=⇑(.ext (fY e C none)))(k:oS X.K C Wb fI n)(ry:zH y u)
  (h:∀s' d,H d=none->d≠e->Inv X zS σ (upd (upd H e (.ext (fY e C ⇑d))) d (.xd [(n,y)])) s'->Q () s'):wpAny (model X.prog X.w) A (setAttr (.ref e) n u) Q E s:=by
 let#[hm,#[oe,he],_]:=(show zR X.prog X.w H s.heap e (.ext (fY e C none)) from I.hok e _ F)
 show ON I.kIn k hm λh' dx tk M L Y B=>?_;let hd:H dx=none:=Inv.noH I M;let Z:dx≠e:=λz=>by rw[z,he]at M;cases M
 let G:∀b,H b=none->b≠e:=λb q z=>by rw[z,F]at q;cases q
 let J:∀b o u,s.heap.get? b=⇑u->b≠e->H b=o->(upd (upd H e (.ext (fY e C ⇑dx))) dx (.xd [(n,y)])) b=o:=λb o u q z r=>by rw[Aj (λz=>by rw[z,M]at q;cases q),Aj z];show r
 let i:∀b o,b≠e->H b=⇑o->(upd (upd H e (.ext (fY e C ⇑dx))) dx (.xd [(n,y)])) b=⇑o:=λb o z r=>by let#[u,q]:=zR.there (I.hok b o r);show J b _ u q z r
 refine h _ dx hd Z (I.call (ch:=[]) (g':=s.gens) (d':=s.drawn) (t':=tk) ⟨λb o q r _ _=>B b o (G b r) q,λb o q r _ _=>#[o.slots,B b o (G b r) q],λb o q r _=>J b _ o q (G b r) r,λb o q _=>?_,
  λb xs q=>i b _ (λz=>by rw[z,F]at q;cases q) q,λb o u q=>i b _ (λz=>by rw[z,F]at q;cases q) q,λb ps q=>#[#[],by rw[i b _ (λz=>by rw[z,F]at q;cases q) q];simp]⟩ (λb o q=>?_) I.bare λb hb=>absurd hb (by simp))
 .by_cases z:b=e
  .subst z;let#[_,_,z]:=L;show#[_,z]
  .show#[o,B b o z q]
 .by_cases z:b=dx
  .subst z;rw[AB]at q;cases q;show#[_,Y,λf=>?_];by_cases hf:f=n
   .subst hf;simp[fL,ry]
   .let:(f==n)=false:=beq_eq_false_iff_ne.mpr hf;simp[fL,List.lookup,hf,this]
  .rw[Aj z]at q;by_cases U:b=e
   .subst U;rw[AB]at q;cases q;show HZ L
   .rw[Aj U]at q;show(I.hok b o q).stay (λc u O r=>B c u ?_ r) (λc r=>i c _ (λz=>by rw[z,F]at r;cases r) r) λc xs r=>i c _ (λz=>by rw[z,F]at r;cases r) r;rcases O with rfl|O
    .show U
    .show λz=>by rw[z,F]at O;cases O
def Mk(Y:PE X o ta)(O:PE X value B)(U:swapsWith value ⇑(.Attribute o n pos') pos.line X.env=pure false):PS X (.Assign [.Attribute o n pos'] value pos) (oz X.K ta B n):=by intro zS s σ H D I h;show plainObj_wpAny_Assign_Attribute (Ah (O zS s σ H _ I h) λu F i=>?_) U;let#[y,H1,I1,G,q]:=i;show Ah (Y zS F σ H1 _ I1 q) λM s2 i=>?_;let#[x,H2,I2,J,e,C,Wb,fI,ex,k,Z,L]:=i;subst ex;obtain rfl:M=Value.ref e:=J;show US I2 Z k G λs3 d h1 h2 I3=>#[σ,_,I3,L d h1 h2]
@[inline]def kP:Stmt->Stmt
 |.ClassDef _ _ _ b _ _ _ _ _ _ _=>(b.find? λ|.FunctionDef ..=>true|_=>false).getD (.Pass #[0,0,0,0])
 |s=>s
section
variable{K:Frag}{st:Stmt}
def Py(Z:sM K x qual st f fd)(Sc:aD [a,b] [a,b] (aB st))(L:bI st=[.Assign [.Attribute (.Name a p1) n p2] (.Name b p3) p4])(J:xT (aB st) a:=by first|show Or.inl rfl|show Or.inr (Or.inl rfl)|show Or.inr (Or.inr rfl))(I:xT (aB st) b:=by first|show Or.inl rfl|show Or.inr (Or.inl rfl)|show Or.inr (Or.inr rfl))
  (da:autoParam ((a==("__debug__":Str))=false) dZ9)(db:autoParam ((b==("__debug__":Str))=false) dZ9)(Y:autoParam ((a==("__classdict__":Str))=false) dZ9)(U:autoParam ((b==("__classdict__":Str))=false) dZ9):
  dA P w K mg base (fE P w) 1 f fd [a,b] (kE K n):=by
 show Z.okX Sc (λvs H Q E h=>?_) λO A B s H vs Q E hr h=>?_
 .obtain⟨e,C,G,F,i,rfl,_⟩:=h;rfl
 .obtain⟨e,C,G,F,i,rfl,k,M,q⟩:=h;show#[_,by rw[L];show Jt (Mk (FR (i:=0) rfl J da Y) (FR (i:=1) rfl I db U) rfl),?_];show#[_,rfl,_,rfl,e,C,G,F,rfl,k,M,λd h1 h2=>q d h1 h2]
end
def Inv.adoptM(I:Inv X zS σ H s)(F:bN X zS H e)(z:fY e C none s.heap):Inv X zS σ (upd H e (.ext (fY e C none))) s:=by
 let#[O,M,U,L,J,G]:=F;let i:∀b o,H b=⇑o->b≠e:=λb o q z=>by rw[z,O]at q;cases q
 show I.call' (ch:=[e]) rfl #[λb o q _ _ _=>q,λb o q _ _ _=>#[o.slots,q],λb o _ n x=>(Aj λz=>x (by simp[z])).trans n,λb o q _=>#[o,q],λb xs q=>(Aj (i _ _ q)).trans q,λb o u q=>(Aj (i _ _ q)).trans q,λb ps q=>#[#[],by rw[Aj (i _ _ q),q];simp]] (λb o q=>?_) I.bare λb B=>?_
 .by_cases B:b=e
  .subst B;rw[AB]at q;cases q;show HZ z
  .rw[Aj B]at q;show(I.hok b o q).stay (λ_ _ _ z=>z) (λc z=>(Aj (i _ _ z)).trans z) λc xs z=>(Aj (i _ _ z)).trans z
 .rw[qt.mp B];show#[L,M,J,G]
def Inv.unadopt{H':Hp}(I:Inv X zS σ H' s)(hn:H e=none)(F:bN X zS H e)(i:∀b,b≠e->H' b=H b)(J:∀o,H' e=⇑o->∃φ,o=.ext φ):Inv X zS σ H s:=by
 obtain⟨Z,U,Y,O,M,L⟩:=F;let G:∀b o,H' b=⇑o->(∀φ,o≠.ext φ)->H b=⇑o:=λb o q z=>by
  by_cases B:b=e
  .subst B;let#[φ,r]:=J o q;show absurd r (z φ)
  .rw[<-i b B];show q
 show I.call' (ch:=[e]) rfl #[λb o q _ _ _=>q,λb o q _ _ _=>#[o.slots,q],λb o _ n x=>by rw[<-i b λz=>x (by simp[z])];show n,λb o q _=>#[o,q],λb xs q=>G _ _ q (λφ z=>by cases z),λb o u q=>G _ _ q (λφ z=>by cases z),λb ps q=>#[#[],by rw[G _ _ q (λφ z=>by cases z)];simp]] (λb o q=>?_) I.bare λb B=>?_
 .let B:b≠e:=λz=>by rw[z,hn]at q;cases q
  rw[<-i b B]at q;show(I.hok b o q).stay (λ_ _ _ z=>z) (λc z=>G _ _ z (λφ z=>by cases z)) λc xs z=>G _ _ z (λφ z=>by cases z)
 .rw[qt.mp B];show#[O,U,M,L]
def Uy(k:oS X.K C Wb Z n)(Fk:dA X.prog X.w X.K X.mg X.base (fE X.prog X.w) kk Z fd ps (kE X.K n))(Y:Binds X.K fd ps [])(hr:bM (kk+1) X.A)(L:X.mg x=⇑(.ref C))(hc:X.calm=true)(hg:Gl X x)(ha:PE X a ta)
  (hd:(x==("__debug__":Str))=false)(he:starEach [a] X.env=[(false,eval a X.env)]):
  PS X (.Raise ⇑(.Call (.Name x np) [a] [] cpos) none pos) (λ_ σ H=>ta σ H λv H1=>∃i,v=.int i/\∀d,H1 d=none->XW X σ (.ref C) ⇑d (upd H1 d (.xd [(n,.int i)]))):=by
 intro zS s σ H D I h;let#[dd,nm,bs,ns,qn,sn,sub,ab,col,k0,k1,k2,k3,k5,lk]:=k.lk;show Tv (C:=C) (nm:=nm) (q:=qn) (N:=ns) (bs:=bs) (bm:=.ref Wb::eX) (hdct:=true) (sn:=sn) (sub:=sub) (ab:=ab) (col:=col) (dd:=dd) (k0:=k0) (k1:=k1) (k2:=k2) (k3:=k3) (k5:=k5) F.excBase_ValueError k.hi k.hf (by simp) (I.ok.hd hc) (by rw[he];rfl) (Dc I hg L #[rfl,?_] hd);rw[he];show Calls.evalArgs_plain ?_;show Calls.spliced_cons (Ah (ha zS s σ H _ I h) λu s1 zq=>Calls.spliced_nil ?_);let#[v,H1,G,M,i,rfl,q]:=zq;let#[t,rfl]:=(show∃t,u=Value.int i t from M)
 show#[rfl,by rw[zk];show 1<=_;omega,G.kIn _ _ lk,G.kIn,k.tail G.kIn,λh' e m=>?_];let hn:=Inv.noH G m.new;let#[tt,U,_,_]:=m.there;let I2:Inv X zS σ (upd H1 e (.ext (fY e C none))) {s1 with heap:=h'}:=Inv.adoptM (G.kept (t':=s1.toks) m.keeps) (G.fpNew m.new hn) ⟨tt,_,U⟩;let r2:zP [V.ref e,V.int i] [Value.ref e,Value.int i t]:=.cons rfl (.cons #[t,rfl] .nil);let hl:([Value.ref e,Value.int i t]++[]).length=ps.length:=(Fk.len [.ref e,.int i] (upd H1 e (.ext (fY e C none))) (λ_ _=>True) (λ_ _ _=>False) #[e,C,Wb,Z,i,rfl,k,AB,λ_ _ _=>trivial])
 show wpAny_call (codeAny_mono (Fk.run _ X.stack _ _ #[[Value.ref e,Value.int i t],[]] [Value.ref e,Value.int i t] [.ref e,.int i] (λv H'=>v=.non/\∃d,H1 d=none/\d≠e/\H'=upd (upd (upd H1 e (.ext (fY e C none))) e (.ext (fY e C ⇑d))) d (.xd [(n,.int i)])) (λ_ _ _=>False) (hr.make C _ []) (I2.env0.make C _ []) (Y _ [Value.ref e,Value.int i t] I2.kIn hl) r2 #[e,C,Wb,Z,i,rfl,k,AB,λd h1 h2=>#[rfl,d,by rw[Aj h2]at h1;show h1,h2,rfl]]) λr s' B=>?_);cases r with
 |error u=>let#[_,_,_,_,_,_,_,_,_,z,_]:=B;show z.elim
 |ok fl=>
  cases fl with
  |ret u=>
   let#[v,H',I3,M,rfl,d,h1,h2,rfl]:=I2.after B;let eH:(upd (upd (upd H1 e (.ext (fY e C none))) e (.ext (fY e C ⇑d))) d (.xd [(n,.int i)])) e=⇑(.ext (fY e C ⇑d)):=by rw[Aj (Ne.symm h2),AB]
   let#[L,_,_]:=(show zR X.prog X.w _ s'.heap e (.ext (fY e C ⇑d)) from I3.hok e _ eH)
   let J:(upd H1 d (.xd [(n,.int i)])) e=none:=by rw[Aj (Ne.symm h2)];show hn
   have fp:bN X zS (upd H1 d (.xd [(n,.int i)])) e:=G.fpNew m.new J;let I4:Inv X zS σ (upd H1 d (.xd [(n,.int i)])) s':=Inv.unadopt I3 J fp (λb Y=>by
    unfold upd;by_cases z:b=d
    .simp[z]
    .simp[z,Y]) λo z=>by rw[eH]at z;cases z;show#[_,rfl]
   let#[t1,h3,O]:=id L;show#[M,I3.kIn _ _ lk,⇑d,L,q d h1 e s' I4.few (iT.few #[fp,_,_,O,rfl,rfl,rfl,.inl rfl])]
  |next=>show False.elim B
  |brk=>show False.elim B
  |cont=>show False.elim B
def oS.ck{K:Frag}(k:oS K C Wb fI n):dj K C:=λh X=>by let#[Y,nm,bs,I,G,F,sub,Z,i,U,O,M,L,J,lk]:=k.lk;show#[_,#[nm,G,I,bs,true,F,sub,Z,i,Y,U,O,M,L,J,fX,X _ _ lk,by simp],λB e=>?_];unfold W.mroIn W.clsIn at e;rw[lk]at e;simpa using e
def QW(hf:(#[f.toArray]:Str)=n)(k:oS X.K C Wb fI n)(Fk:dA X.prog X.w X.K X.mg X.base (fE X.prog X.w) kk fI fd ps (kE X.K n))(hb:Binds X.K fd ps [])(hm:X.mg x=⇑(.ref C))(Y:nsIn X.K mainGlobals (#[c.toArray]:Str)=⇑⇑(.ref C))(hr:bM j X.A)(ha:FE X a wa)
  (hj:autoParam (kk+1<=j) dZ9)(hc:autoParam (X.calm=true) rZ9)(hg:autoParam (Gl X x) rZ9)(M:autoParam ((x==("__debug__":Str))=false) dZ9)(he:autoParam (starEach [a] X.env=[(false,eval a X.env)]) rZ9):
  FS X ks (.Raise ⇑(.Call (.Name x np) [a] [] cpos) none pos) (iG c f wa):=λpn xe B=>PS.imp (Uy (X:=wp X pn xe) k Fk hb (hr.mono hj) hm hc hg (ha pn xe B) M he) λD σ H q=>by
 subst hf;let#[F,G,ρ,E,O,hw,n,b,c,r,Z]:=q;show#[F,G,ρ,_,_,O,hw,λr J v F1 H1 B s1 L rv=>?_,Z.mono (λh1 z=>by rw[z];show KP.refl) (zy.refl F) (zy.refl G)];let hl:=Af L;cases U:view r J with
 |none=>rw[U]at B;show B.elim
 |some d=>
  rw[U]at B;let rp:=look (ρ':=[]) (σ':=[]) L hl rv U;cases rp with
  |int i=>show#[i,rfl,λd M a s' I Fl=>?_];show Z _ J σ (upd F1 d (.xd [((#[f.toArray]:Str),.int i)])) (upd H1 d (.xd [((#[f.toArray]:Str),.int i)])) (.ref a) s' B KP.refl (s1.trans (zy.upd (L.free M).1)) ((L.drop hl).newF M) I #[a,C,⇑d,rfl,#[_,_,_,rfl,Y,.inr #[d,f,i,rfl,rfl,rfl,AB]],Fl]
  |_=>show B.elim
def RB{prog:Program}{w:World}{A:Around}{E:zr}{s:Shared}{K:Frag}{x D:Addr}{F:Obj}{i:Option Obj}{name:Str}{B:Bool}{v:Value}{Q:zr}(X:K.In s.heap)(I:W.InstAt s.heap x F D i)(k:oR K D)
  (L:findObj K D i name=⇑(.value v))(J:W.handedIn v=true)(h:Q v {s with toks:=s.toks+1}):wpAny (model prog w) A (getAttr (.ref x) name B) Q E s:=by
 show qa (wpAny_mkText ?_);show Kg (s:={s with toks:=s.toks+1}) X I k λA Y Z G=>?_;let U:=I.type (M:=model prog w);let O:=W.looks_find (M:=model prog w) X I L;show qa (qb (qa (qb (qa (U.at (qa (O.at ?_)))))));show qb (G _ _ #[W.handedOut_of J,h])
def fk(K:Frag)(kn:List (List Nat))(n:Str):Prop:=∀c∈kn,∃C,nsIn K mainGlobals (#[c.toArray]:Str)=⇑⇑(.ref C)/\oR K C/\findIn K (.ref C) n=⇑none/\W.hasDictIn K C=true
def FZ{K:Frag}:fk K [] n:=λ_ h=>nomatch h
def GC{K:Frag}(h1:nsIn K mainGlobals (#[c.toArray]:Str)=⇑⇑(.ref C))(h2:oR K C)(F:findIn K (.ref C) n=⇑none)(B:W.hasDictIn K C=true)(r:fk K kn n):fk K (c::kn) n:=λd i=>by
 rcases qA.mp i with rfl|i
 .show#[C,h1,h2,F,B]
 .show r d i
def Gh(hk:fk X.K kn n)(hf:(#[f.toArray]:Str)=n)(ha:FE X a wa)(hb:autoParam (attributeBase a n X.env (eval a X.env)=eval a X.env) rZ9):FE X (.Attribute a n pos) (iZ kn f wa):=λpn xe hp=>by
 subst hf;intro zS s σ H Q I h;show OQ hb (Ah (ha pn xe hp zS s σ H _ I (one (k:=λx M Q E=>zx (view x M) λd=>zx (tM kn f d) λv=>Q (.v (.sh v)) M) h)) λu s1 zq=>?_);let#[x,H1,I1,r1,F,G,ρ,y,P,PX,O,hl,ry,B,h5,hx]:=zq;let#[d,ed,B]:=Ag B;let#[v,ev,B]:=Ag B;let rp:=look (ρ':=[]) (σ':=[]) O hl ry ed;cases rp with
 |@exc a C dx c fs vs ea hn h1=>
  rcases h1 with⟨rfl,rfl,rfl⟩|⟨p,g,i,rfl,rfl,rfl,h2⟩
  .cases ev
  .have L:(if(kn.contains c&&g==f)=true then ⇑(D.int i)else none)=⇑v:=ev;split at L
   .rename_i hc;rw[and_eq_true,beq_iff_eq]at hc;let#[hc,rfl]:=hc;cases L;let#[C',Z,k,h3,h4]:=hk _ ↑hc;rw[hn]at Z;cases Z;cases(show u=Value.ref a from r1);let#[#[o,ws,q1,q2,q3,q4],_,_]:=(show zR X.prog X.w H1 s1.heap a (.ext (jH a C ⇑p)) from I1.hok a _ ea)
    let#[mA,h6,Y]:=(show zR X.prog X.w H1 s1.heap p (.xd _) from I1.hok p _ h2)
    let#[od,ho,h7]:=Ln h6;let J:W.InstAt s1.heap a o C ⇑od:=#[q1,q2,by unfold W.notCls;rw[q4],by rw[q3];show ho]
    let U:=Y (#[g.toArray]:Str);rw[show List.lookup (#[g.toArray]:Str) [((#[g.toArray]:Str),V.int i)]=⇑(.int i) by simp]at U;cases hm:mA (#[g.toArray]:Str)with
    |none=>rw[hm]at U;show U.elim
    |some v=>
     rw[hm]at U;let#[t,rfl]:=(show∃t,v=Value.int i t from U)
     show RB I1.kIn J k (W.findObj_own h4 h3 rfl (by rw[h7,hm])) rfl #[.int i,H1,I1.tok _,#[t,rfl],?_];show h5 _ ρ _ F H1 B (zy.refl F) ((O.drop hl).push (.int i)) trivial
   .cases L
 |_=>cases ev
end FL
namespace L2
open PySem PySem.Spec PyProof.Rows
def cG(cells:List (Str×Addr)):List (Str×NameKind)->List (Str×Addr)->List (Str×Addr)
 |[],zX=>zX
 |(n,k)::r,zX=>if k==.free then(match cells.lookup n with|some c=>cG cells r ((n,c)::zX)|none=>cG cells r zX)else cG cells r zX
def Hb(f:Str×NameKind->List (Str×Addr)->Sem (ForInStep (List (Str×Addr))))
  (hf:∀n k cs,f (n,k) cs=if k==.free then(do let a<-cellOf env n;pure (.yield ((n,a)::cs)))else pure (.yield cs)):
  ∀(names:List (Str×NameKind))(zX:List (Str×Addr)),(∀x∈names,x.2=.free->∃c,env.cells.lookup x.1=⇑c)->(forIn names zX f:Sem _)=pure (cG env.cells names zX)
 |[],zX,_=>by rw[List.forIn_nil];rfl
 |(n,k)::r,zX,h=>by
  rw[forIn_cons,hf];let hr:∀x∈r,x.2=.free->∃c,env.cells.lookup x.1=⇑c:=λx hx=>h x (qk _ hx);by_cases hk:(k==.free)=true
  .obtain⟨c,hc⟩:=h (n,k) qm ↑hk;let hc':env.cells.lookup n=⇑c:=hc;let e:cellOf env n=pure c:=by unfold cellOf;rw[hc']
   rw[qZ hk,e];let ih:=Hb f hf r ((n,c)::zX) hr;unfold cG;rw[qZ hk,hc'];rw[<-ih];simp
  .rw[q5 hk];let ih:=Hb f hf r zX hr;unfold cG;rw[q5 hk,<-ih];simp
def Vj(h:∀x∈scope.names,x.2=.free->∃c,env.cells.lookup x.1=⇑c):closureFor scope env=pure (cG env.cells scope.names []):=by show(forIn scope.names ([]:List (Str×Addr)) _>>=λcs=>pure cs)=_;rw[Hb (env:=env) _ (λn k cs=>rfl) scope.names [] h];rfl
def Fj:∀{names:List (Str×NameKind)}{i:List (Str×Addr)},(n,c)∈cG cells names i->(n,c)∈i\/((n,NameKind.free)∈names/\cells.lookup n=⇑c)
 |[],_,h=>.inl h
 |(m,k)::r,i,h=>by
  unfold cG at h;by_cases F:(k==.free)=true
  .rw[qZ F]at h;let B:k=.free:=by simpa using F
   cases q:cells.lookup m with
   |none=>
    rw[q]at h;rcases Fj h with z|⟨z,w⟩
    .show .inl z
    .show .inr #[qk _ z,w]
   |some d=>
    rw[q]at h;rcases Fj h with z|⟨z,w⟩
    .rcases qA.mp z with e|z
     .cases e;show .inr #[by rw[<-B];show qm,q]
     .show .inl z
    .show .inr #[qk _ z,w]
  .rw[q5 F]at h;rcases Fj h with z|⟨z,w⟩
   .show .inl z
   .show .inr #[qk _ z,w]
def DT(B:cells.lookup n=⇑c):∀{names:List (Str×NameKind)}{i:List (Str×Addr)},((n,c)∈i\/(n,NameKind.free)∈names)->(n,c)∈cG cells names i
 |[],_,h=>h.elim id λz=>by simp at z
 |(m,k)::r,i,h=>by
  unfold cG;by_cases F:(k==.free)=true
  .rw[qZ F];cases q:cells.lookup m with
   |none=>
    show DT B ?_;rcases h with z|z
    .show .inl z
    .rcases qA.mp z with e|z
     .cases e;rw[B]at q;cases q
     .show .inr z
   |some d=>
    show DT B ?_;rcases h with z|z
    .show .inl (qk _ z)
    .rcases qA.mp z with e|z
     .cases e;rw[B]at q;cases q;show .inl qm
     .show .inr z
  .rw[q5 F];show DT B ?_;rcases h with z|z
   .show .inl z
   .rcases qA.mp z with e|z
    .cases e;show(F ⋯).elim
    .show .inr z
def Ma{α:Type}:∀{l:List (Str×α)}{n:Str}{c:α},(n,c)∈l->(∀i,(n,i)∈l->i=c)->l.lookup n=⇑c
 |[],_,_,h,_=>by simp at h
 |(m,d)::r,n,c,h,u=>by
  rw[lookup_cons];cases B:n==m with
  |true=>
   let e:n=m:=↑B
   subst e;show congrArg some (u d qm)
  |false=>
   show Ma (l:=r) ?_ λi F=>u i (qk _ F);rcases qA.mp h with e|h
   .cases e;simp at B
   .show h
def Hs:∀{names:List (Str×NameKind)}{n:Nat}{i:List (Str×Addr)}{x:Str}{c:Addr},(x,c)∈cellsFrom n names i->(x,c)∈i\/((x,NameKind.cell)∈names/\n<=c)
 |[],_,_,_,_,h=>.inl h
 |(m,k)::r,n,i,x,c,h=>by
  unfold cellsFrom at h;by_cases F:(k==.cell)=true
  .rw[qZ F]at h;let B:k=.cell:=by simpa using F
   rcases Hs h with z|⟨z,w⟩
   .rcases qA.mp z with e|z
    .cases e;show .inr #[by rw[<-B];show qm,q8 _]
    .show .inl z
   .show .inr #[qk _ z,∅]
  .rw[q5 F]at h;rcases Hs h with z|⟨z,w⟩
   .show .inl z
   .show .inr #[qk _ z,w]
def Eb:∀{names:List (Str×NameKind)}{n:Nat}{i:List (Str×Addr)}{x:Str},((x,NameKind.cell)∈names\/∃c,(x,c)∈i)->∃c,(x,c)∈cellsFrom n names i
 |[],_,_,_,h=>h.elim (λz=>by simp at z) id
 |(m,k)::r,n,i,x,h=>by
  unfold cellsFrom;by_cases B:(k==.cell)=true
  .rw[qZ B];show Eb ?_;rcases h with z|⟨c,z⟩
   .rcases qA.mp z with e|z
    .cases e;show .inr #[n,qm]
    .show .inl z
   .show .inr #[c,qk _ z]
  .rw[q5 B];show Eb ?_;rcases h with z|z
   .rcases qA.mp z with e|z
    .cases e;show(B ⋯).elim
    .show .inl z
   .show .inr z
def Fw{α:Type}:∀{l:List (Str×α)}{x:Str},(∃c,(x,c)∈l)->∃c,l.lookup x=⇑c
 |[],_,⟨_,h⟩=>by simp at h
 |(m,d)::r,x,⟨c,h⟩=>by
  rw[lookup_cons];cases i:x==m with
  |true=>show#[d,rfl]
  |false=>
   show Fw (l:=r) #[c,?_];rcases qA.mp h with e|h
   .cases e;simp at i
   .show h
def Hu:∀{names:List (Str×NameKind)}{n:Nat}{i:List (Str×Addr)},(∀p∈i,p.2<n)->(∀p∈i,∀q∈i,p.2=q.2->p.1=q.1)->
  ∀p∈cellsFrom n names i,∀q∈cellsFrom n names i,p.2=q.2->p.1=q.1
 |[],_,_,_,h=>h
 |(m,k)::r,n,i,hb,h=>by
  unfold cellsFrom;by_cases I:(k==.cell)=true
  .rw[qZ I];refine Hu (λp B=>?_) λp B q F e=>?_
   .rcases qA.mp B with rfl|B
    .show Nat.lt_succ_self _
    .show lt_succ_of_lt (hb p B)
   .rcases qA.mp B with rfl|B<;>rcases qA.mp F with rfl|F
    .rfl
    .let h1:=hb q F;let G:n=q.2:=e;show absurd h1 (by rw[<-G];show lt_irrefl _)
    .let h1:=hb p B;let G:p.2=n:=e;show absurd h1 (by rw[G];show lt_irrefl _)
    .show h p B q F e
  .rw[q5 I];show Hu hb h
def UT
  (U:∀h':Heap,(∀b o,s.heap.get? b=⇑o->h'.get? b=⇑o)->h'.Ns s.heap.objs.size (λ_=>none)->(∀x c,(x,c)∈cellsFrom (s.heap.objs.size+1) scope.names F->(x,c)∈F\/h'.IsCell c none)->
   Q {scope:=scope,locals:=s.heap.objs.size,globals:=globals,cells:=cellsFrom (s.heap.objs.size+1) scope.names F,qual:=qual,func:=none,code:=env.code,frame:=env.frame,builtins:=env.builtins} {s with heap:=h'}):
  wpAny M A (newFunctionEnv scope globals F [] qual none .none ⇑env) Q E s:=by
 simp only[newFunctionEnv,isSome_some,if_true];show qa (wpAny_alloc ?_);show qa (wpAny_layCells _ (λI kind cells=>by cases O:kind==NameKind.cell<;>simp) _ _ _ _ ?_);rw[show({s with heap:=s.heap.push {cls:=.type "dict",data:=.dict #[]}}:Shared).heap.objs.size=s.heap.objs.size+1 from Heap.size_push ..];show qb (U _ (λb o e=>pushCells_keeps _ _ b o (qc _ e)) ((Heap.Ns.new s.heap (.type "dict")).keeps (pushCells_keeps _ _)) λx c h=>?_)
 --the new cells are empty
 have all:∀(names:List (Str×NameKind))(h:Heap)(B:List (Str×Addr)),(∀p∈B,p∈F\/h.IsCell p.2 none)->∀p∈cellsFrom h.objs.size names B,p∈F\/(pushCells h names).IsCell p.2 none:=by
  intro names;induction names with
  |nil=>intro h B G p i;show G p i
  |cons q r J=>
   intro h B G p i;let#[m,k]:=q;unfold cellsFrom at i;unfold pushCells;by_cases L:(k==.cell)=true
   .rw[qZ L]at i⊢;let e:(h.push {cls:=.type "cell",data:=.cell none}).objs.size=h.objs.size+1:=Heap.size_push ..;rw[<-e]at i;show J _ _ (λp i=>?_) p i;rcases qA.mp i with rfl|i
    .show .inr #[_,qd _ rfl,rfl]
    .rcases G p i with z|z
     .show .inl z
     .show .inr (z.keeps λb o e=>qc _ e)
   .rw[q5 L]at i⊢;show J h B G p i
 let:=all scope.names (s.heap.push {cls:=.type "dict",data:=.dict #[]}) F (λp i=>.inl i) (x,c) (by rw[Heap.size_push];show h);show this
def gP(N vars:List Str):List Str:=N.map (λx=>if x∈vars then Str.empty else x)++Str.empty::vars
def aL(X:Cx)(scope:Scope)(vars:List Str)(s:Shared)(H:Hp)(ex:List Addr):Cx where
 prog:=X.prog
 w:=X.w
 K:=X.K
 mg:=X.mg
 base:=X.base
 A:=X.A
 N:=gP X.N vars
 s₀:=s
 H₀:=H
 env:=compEnvC scope (cellsFrom (s.heap.objs.size+1) scope.names (cG X.env.cells scope.names [])) s.heap.objs.size X.env
 outer:=X.stack
 stack:=X.stack
 ex:=ex
 fn:=λx=>↥((x,NameKind.cell)∈scope.names)
 calm:=X.calm
 pn:=[]
 xe:=λ_ _=>False
structure cC(outer scope:Scope)(N vars:List Str):Prop where
 kind:scope.kind=.function
 fr:∀x∈scope.names,x.2=.free->outer.names.lookup x.1=⇑.cell\/outer.names.lookup x.1=⇑.free
 nd:(scope.names.map (·.1)).Nodup
 own:∀x∈N,x∉vars->(x,NameKind.local)∉scope.names/\(x,NameKind.cell)∉scope.names
 emp:scope.names.lookup Str.empty=none
def Fv{α:Type}{l:List (Str×α)}{c:α}(i:(l.map (·.1)).Nodup):l.lookup n=⇑c↔(n,c)∈l:=by
 show#[mem_of_lookup,λh=>Ma h λF h'=>?_];induction l with
 |nil=>simp at h
 |cons p r B=>grind
theorem LW{α β:Type}(g:Str->α->β):∀(l:List (Str×α))(n:Str),(l.map λp=>(p.1,g p.1 p.2)).lookup n=(l.lookup n).map (g n)
 |[],_=>rfl
 |(m,d)::r,n=>by
  rw[qy,lookup_cons,lookup_cons];cases i:n==m with
  |true=>have e:n=m:=by simpa using i
         subst e;rfl
  |false=>show LW g r n
def rl(env:PySem.Env)(n:Str)(k:NameKind):NameKind:=if(k==NameKind.free&&env.scope.kind==.function&&env.kindOf n==⇑.cell)then NameKind.cell else k
def VE(scope:Scope)(env:PySem.Env):(relabel scope env).names=scope.names.map λp=>(p.1,rl env p.1 p.2):=by
 show map_congr_left λp _=>?_;let#[n,k]:=p;show(if(k==NameKind.free&&env.scope.kind==.function&&env.kindOf n==⇑.cell)=true then(n,NameKind.cell)else(n,k))=(n,rl env n k);unfold rl;by_cases h:(k==NameKind.free&&env.scope.kind==.function&&env.kindOf n==⇑.cell)=true
 .rw[qZ h,qZ h]
 .rw[q5 h,q5 h]
def Fu(scope:Scope)(env:PySem.Env)(x:Str):(relabel scope env).names.lookup x=(scope.names.lookup x).map (rl env x):=by rw[VE,LW]
def Dw(h:k≠.free):rl env x k=k:=by unfold rl;rw[q5];intro z;simp at z;show h z.1.1
def Pj:rl env x .free=.cell\/rl env x .free=.free:=by
 unfold rl;split
 .show .inl rfl
 .show .inr rfl
def QZ(h:(gP N vars)[i]?=⇑x)(hi:i<N.length):(N[i]?=⇑x/\x∉vars)\/x=Str.empty:=by
 unfold gP at h;rw[getElem?_append_left ↑hi,qE]at h;cases q:N[i]? with
 |none=>rw[q]at h;cases h
 |some y=>grind
def Inv.comp(I:Inv X zS σ H s)(S:cC X.env.scope scope X.N vars)(hex:∀b∈ex,bN X zS H b/\b<s.heap.objs.size)(kept:∀b o,s.heap.get? b=⇑o->h'.get? b=⇑o)(h7:h'.Ns s.heap.objs.size (λ_=>none))
  (h9:∀x c,(x,c)∈cellsFrom (s.heap.objs.size+1) scope.names (cG X.env.cells scope.names [])->(x,c)∈cG X.env.cells scope.names []\/h'.IsCell c none)(hk:vars.length=k)(w0:Option V):
  Inv (aL X scope vars s H ex) [] (σ++w0::List.replicate k none) H {s with heap:=h'}:=by
 have Z:∀{x:Str}{c:Addr},(x,c)∈cG X.env.cells scope.names []->(x,NameKind.free)∈scope.names/\X.env.cells.lookup x=⇑c:=λ{x c} h=>by
  rcases Fj h with z|z
  .simp at z
  .show z
 let lt:∀{x:Str}{c:Addr},X.env.cells.lookup x=⇑c->c<s.heap.objs.size:=λ{x c} h=>by let#[v,z]:=I.cell x c h;show z.lt
 have look:∀{x:Str}{c:Addr},(aL X scope vars s H ex).env.cells.lookup x=⇑c->(X.env.cells.lookup x=⇑c/\(x,NameKind.free)∈scope.names)\/((x,NameKind.cell)∈scope.names/\s.heap.objs.size+1<=c):=λ{x c} h=>by
  rcases Hs (mem_of_lookup h)with z|z
  .show .inl #[(Z z).2,(Z z).1]
  .show .inr z
 let uniq:∀{x:Str}{a b:NameKind},(x,a)∈scope.names->(x,b)∈scope.names->a=b:=λ{x a b} h1 h2=>by let e1:=(Fv S.nd).mpr h1;let e2:=(Fv S.nd).mpr h2;rw[e1]at e2;show qf e2
 --what a visible name is,seen from around
 have h4:∀{x:Str},((relabel scope X.env).names.lookup x=⇑.cell\/(relabel scope X.env).names.lookup x=⇑.free)->(x,NameKind.cell)∈scope.names\/(x,NameKind.free)∈scope.names:=λ{x} h=>by
  rw[Fu]at h;cases q:scope.names.lookup x with
  |none=>rw[q]at h;rcases h with h|h<;>cases h
  |some k=>
   let L:=mem_of_lookup q;rw[q]at h;let Y:⇑(rl X.env x k)=⇑.cell\/⇑(rl X.env x k)=⇑.free:=h;cases k with
   |cell=>show .inl L
   |free=>show .inr L
   |«local»=>rw[Dw ⋯]at Y;rcases Y with h|h<;>cases h
   |globalImplicit=>rw[Dw ⋯]at Y;rcases Y with h|h<;>cases h
   |globalExplicit=>rw[Dw ⋯]at Y;rcases Y with h|h<;>cases h
 have ok:(aL X scope vars s H ex).Ok:=by
  show#[I.ok.mod,S.kind,I.ok.glob,I.ok.blt,q8 _,λx y c h1 h2=>?_,λx h=>?_,λx c hf h=>?_,I.ok.hd,I.ok.frames,.inl rfl,λb M=>#[?_,λx c h z=>?_],I.bs,le_trans I.ok.bsz I.sz,λb o e M=>?_,λb M z=>?_,I.stack,I.stkFree]
  .refine Hu (λp hp=>?_) (λp hp q hq e=>?_) (x,c) (mem_of_lookup h1) (y,c) (mem_of_lookup h2) rfl
   .show lt_succ_of_lt (lt (Z (x:=p.1) (c:=p.2) hp).2)
   .show I.ok.inj _ _ _ (Z (x:=p.1) (c:=p.2) hp).2 (e▸(Z (x:=q.1) (c:=q.2) hq).2)
  .rcases h4 h with z|z
   .show Fw (Eb (.inl z))
   .obtain⟨c,hc⟩:=I.ok.has x (S.fr (x,.free) z rfl);show Fw (Eb (.inr #[c,DT hc (.inr z)]))
  .let h8:(x,NameKind.cell)∈scope.names:=qT hf;rcases look h with⟨_,z⟩|⟨_,z⟩
   .cases uniq h8 z
   .show Nat.le_of_succ_le z
  .show ne_of_lt (hex b M).2
  .rcases look h with⟨w,_⟩|⟨_,w⟩
   .show(hex b M).1.2.2.2.2.1 x c w z
   .let h1:=(hex b M).2;rw[<-z]at h1;show absurd (lt_of_lt_of_le h1 (Nat.le_of_succ_le w)) (lt_irrefl _)
  .obtain⟨_,_,_,h1,_⟩:=(hex b M).1;rcases h1 with z|z
   .show I.ok.noex b o e z
   .rw[(I.ok.bs b o e).1]at z;cases z
  .obtain⟨_,h2,O,_⟩:=(hex b M).1;rcases qA.mp (I.stkSub b z)with w|w
   .show h2 w
   .show O w
 let F:∀{c:Addr}{v:Option Value},s.heap.IsCell c v->h'.IsCell c v:=λz=>z.keeps kept;show#[ok,rfl,I.bare,Un.kept kept,#[_,h7,λi x v h1 h2 O=>?_],λx c h=>?_,I.hok.fresh (q8 _),λx c h=>?_,λp hp=>absurd (show p∈([]:List (Addr×Obj)) from hp) (by simp),I.hok.kept kept,?_]
 ·--a slot of the context
  let h5:¬xT (aL X scope vars s H ex).env.scope Str.empty:=λO=>by let G:(relabel scope X.env).names.lookup Str.empty=⇑.local\/(relabel scope X.env).names.lookup Str.empty=⇑.cell\/(relabel scope X.env).names.lookup Str.empty=⇑.free:=O;rw[Fu,S.emp]at G;rcases G with z|z|z<;>cases z
  have hi:i<σ.length:=by
   by_cases hi:i<σ.length
   .show hi
   .exfalso;rw[getElem?_append_right (not_lt.mp hi)]at h2;cases q:i-σ.length with
    |zero=>
     let e:i=X.N.length:=by let:=I.len;lia
     rw[e]at h1;let U:(gP X.N vars)[X.N.length]?=⇑x:=h1;unfold gP at U;simp at U;subst U;show h5 O
    |succ j=>rw[q,List.getElem?_cons_succ,List.getElem?_replicate]at h2;split at h2<;>cases h2
  rw[getElem?_append_left hi]at h2;rcases QZ h1 (by rw[<-I.len];show hi)with⟨h1,hx⟩|rfl
  .have own:=S.own x (qL h1) hx;let B:(x,NameKind.free)∈scope.names:=by
    let G:(relabel scope X.env).names.lookup x=⇑.local\/(relabel scope X.env).names.lookup x=⇑.cell\/(relabel scope X.env).names.lookup x=⇑.free:=O;rcases G with z|z
    .rw[Fu]at z;cases q:scope.names.lookup x with
     |none=>rw[q]at z;cases z
     |some kk=>
      rw[q]at z;let z0:⇑(rl X.env x kk)=⇑.local:=z;let L:=mem_of_lookup q;cases kk with
      |«local»=>show absurd L own.1
      |cell=>show absurd L own.2
      |free=>show L
      |globalImplicit=>rw[Dw ⋯]at z0;cases z0
      |globalExplicit=>rw[Dw ⋯]at z0;cases z0
    .rcases h4 z with w|w
     .show absurd w own.2
     .show w
   let J:=S.fr (x,.free) B rfl;let#[m,L,hl]:=I.loc;let#[u,r,l]:=hl i x v h1 h2 (J.elim (λz=>.inr (.inl z)) λz=>.inr (.inr z));show#[u,r,.inr #[?_,?_]]
   .show(relabel scope X.env).names.lookup x=⇑.cell\/(relabel scope X.env).names.lookup x=⇑.free;rw[Fu,(Fv S.nd).mpr B];show ⇑(rl X.env x .free)=_\/⇑(rl X.env x .free)=_;rcases Pj (env:=X.env) (x:=x)with e|e<;>rw[e]
    .show .inl rfl
    .show .inr rfl
   .rcases l with⟨z,_⟩|⟨_,c,hc,z⟩
    .let z':X.env.scope.names.lookup x=⇑.local:=z;rcases J with w|w<;>(have w':X.env.scope.names.lookup x=_:=w;rw[w']at z';cases z')
    .show#[c,?_,F z];let#[c',h6]:=Fw (Eb (n:=s.heap.objs.size+1) (names:=scope.names) (.inr #[c,DT hc (.inr B)]));rcases look h6 with⟨w,_⟩|⟨w,_⟩
     .rw[hc]at w;cases w;show h6
     .cases uniq B w
  .show absurd O h5
 .rcases h9 x c (mem_of_lookup h)with z|z
  .obtain⟨v,w⟩:=I.cell x c (Z z).2;show#[v,F w]
  .show#[none,z]
 .rcases look h with⟨w,_⟩|⟨_,w⟩
  .show I.freeC x c w
  .show I.hok.fresh (Nat.le_of_succ_le w)
 .show _=(gP X.N vars).length;unfold gP;simp[I.len,hk]
abbrev TB:=St->Hp->(St->Hp->Prop)->Prop
def mB(X:Cx)(m:Sem Unit)(t:TB):Prop:=∀(zS:List (Addr×Obj))(s:Shared)(σ:St)(H:Hp)(Q:St->Hp->Prop),Inv X zS σ H s->t σ H Q->
 wpAny (model X.prog X.w) X.A m (λ_ s'=>∃σ' H',Inv X zS σ' H' s'/\Q σ' H') (λ_ _=>False) s
def jM(X:Cx)(ifs:List Expr)(t:TT):Prop:=∀(zS:List (Addr×Obj))(s:Shared)(σ:St)(H:Hp)(Q:Bool->Hp->Prop),Inv X zS σ H s->t σ H Q->
 wpAny (model X.prog X.w) X.A (forIn ifs true λc r=>if r=true then do let ok<-isTrue c X.env (eval c X.env);pure (ForInStep.yield ok)else pure (ForInStep.yield r)) (TP X zS σ Q) X.xe s
def Rv:jM X [] (λ_ H Q=>Q true H):=λzS s σ H Q I q=>wpAny_tests_nil #[H,I,q]
def Qc(h:PT X c t):jM X [c] t:=λzS s σ H Q I q=>wpAny_tests_one (h zS s σ H Q I q)
def kD(g:TG)(tc:TT)(tb:TB)(J:It):TB:=λσ H Q=>∃W:Nat->Nat->St->Hp->Prop,(∃m,W 0 m σ H)/\∀i m σ H,W i m σ H->
 (J.stop i H/\Q σ H)\/(J.go i H/\∃N:St->Hp->Prop,(∀σ' H',N σ' H'->∃m',m'<m/\W (i+1) m' σ' H')/\∀x H',J.yld i H x H'->g x σ H' λB H2=>tc B H2 λb F=>if b=true then tb B F N else N B F)
def oN(X:Cx)(e:Expr)(d:Nat)(i:Value)(tg:Expr)(G:It->TB):Prop:=∀(zS:List (Addr×Obj))(s:Shared)(σ:St)(H:Hp)(J:It)(fp:List Addr)(F:Addr)(B:Nat->Heap->Prop)(Q:St->Hp->Prop),Inv X zS σ H s->
 iQ X.prog X.w X.K tg J fp F B->B 0 s.heap->(∀b∈fp,bN X zS H b)->G J σ H Q->
 codeAny (model X.prog X.w) X.A (.compLoop e d (.ref F) i X.env) (λr s'=>∃σ' H',r=.ok .next/\Inv X zS σ' H' s'/\Q σ' H') s
def oM(X:Cx)(m:Sem Fin)(c:Code)(t:TB):Prop:=∀(zS:List (Addr×Obj))(s:Shared)(σ:St)(H:Hp)(Q:St->Hp->Prop),Inv X zS σ H s->t σ H Q->
 wpAny (model X.prog X.w) X.A m (λf s'=>f=.again c/\∃σ' H',Inv X zS σ' H' s'/\Q σ' H') (λ_ _=>False) s
def mB.f(h:mB X m t):oM X (m>>=λ_=>again c) c t:=λzS s σ H Q I q=>qa (zp (h zS s σ H Q I q) (λ_ s' z=>qb #[rfl,z]) λ_ _ z=>z)
def Hn{inner:Addr->Sem Fin}(hc:X.calm=true)(hxe:X.xe=λ_ _=>False)(hg:PG X tg g)(ht:jM X ifs tc)(hr:∀it,oM X (inner it) (.compLoop e d (.ref it) zX X.env) tb)
  (hq:∀it,(Code.compLoop e d (.ref it) zX X.env).quiet=true)(hun:∀it,X.A.under (.compLoop e d (.ref it) zX X.env)=X.A)
  (hden:∀it,(model X.prog X.w).den (.compLoop e d (.ref it) zX X.env)=(compTurn e d (.ref it) zX X.env).onRaise (λx=>do noteFrame x X.env;theTreesLotGoes x))
  (heq:∀it,compTurn e d (.ref it) zX X.env=(standAt ipos>>=λ_=>pyNext (.ref it)>>=λr=>match r with
   |none=>pure (.done .next)
   |some v=>letOwnedTupleGo tg (.ref it) v>>=λ_=>assign tg X.env v>>=λ_=>(forIn ifs true λc r=>if r=true then do let ok<-isTrue c X.env (eval c X.env);pure (ForInStep.yield ok)else pure (ForInStep.yield r))>>=λok=>if ok=true then inner it else again (.compLoop e d (.ref it) zX X.env))):
  oN X e d zX tg (kD g tc tb):=by
 intro zS s σ H J fp it tn Q I T st f ⟨W,⟨m0,w0⟩,turn⟩;let stat:∀{H':Hp},(∀b∈fp,H' b=none)->∀b∈fp,bN X zS H' b:=λhn b hb=>#[hn b hb,(f b hb).2]
 let nox:∀{α:Type}{m:Sem α}{Q:α->Shared->Prop}{E:zr}{s:Shared},wpAny (model X.prog X.w) X.A m Q X.xe s->wpAny (model X.prog X.w) X.A m Q E s:=λh=>zp h (λ_ _ q=>q) λ_ _ x=>by rw[hxe]at x;show x.elim
 show codeAny_loop (hq it) (λn s'=>∃i σ' H',Inv X zS σ' H' s'/\tn i s'.heap/\(∀b∈fp,H' b=none)/\W i n σ' H') ?_ m0 #[0,σ,H,I,st,λb hb=>(f b hb).1,w0];rintro n s3 ⟨i,σ3,H3,I3,st3,fr3,w3⟩;rw[hun,hden];show wpAny_noted ?_;rw[heq];show qa (wpAny_standAt (qa ?_));rcases turn i n σ3 H3 w3 with⟨stop,qn⟩|⟨go,N,hN,step⟩
 .show Ah (T.done X rfl rfl rfl hc i zS s3 σ3 H3 _ I3 (stat fr3) st3 stop) λr s4⟨hr,I4⟩=>?_;subst hr;show qb #[σ3,H3,rfl,I4,qn]
 .show Ah (T.item X rfl rfl rfl hc i zS s3 σ3 H3 _ I3 (stat fr3) st3 go) λr s4 zq=>?_;let#[u,hr',h4]:=zq;subst hr';show qa (Ah h4 λ_ s5 zq=>?_);show cps λ_ kk=>?_;let#[x,H5,I5,r5,y5,st5,fr5]:=zq;show kk ?_;let I5':=I5.pinned (stat fr5) (T.obj _ _ st5);show qa (nox (Ah (hg _ s5 σ3 H5 x u _ I5' r5 (step x H5 y5)) λ_ s6 zq=>?_));let#[σ6,H6,I6,q6]:=zq;let again:∀{σ7:St}{H7:Hp}{s7:Shared},Inv X (zS++gK fp s5.heap) σ7 H7 s7->N σ7 H7->∃m,m<n/\∃i σ' H',Inv X zS σ' H' s7/\tn i s7.heap/\(∀b∈fp,H' b=none)/\W i m σ' H':=λ{σ7 H7 s7} I7 n7=>by let#[m',hm,w7]:=hN σ7 H7 n7;show#[m',hm,i+1,σ7,H7,I7.unpinned,T.keep _ _ _ st5 λb hb o e=>(I7.pin (b,o) (qi _ (qi _ (Fp hb e)))).1,λb hb=>?_,w7];let#[o,e,d]:=T.obj _ _ st5 b hb;exact(I7.pin (b,o) (qi _ (qi _ (Fp hb e)))).2.1
  show qa (nox (Ah (ht _ s6 σ6 H6 _ I6 q6) λb s7 zq=>?_));let#[H7,I7,q7]:=zq;cases b with
  |true=>show zp (hr it _ s7 σ6 H7 _ I7 q7) (λf s8 zq=>?_) λ_ _ z=>z.elim;let#[ef,σ8,H8,I8,n8]:=zq;subst ef;show#[rfl,again I8 n8]
  |false=>show qb #[rfl,again I7 q7]
def Uj(hl:oN X e d zX tg tl)
  (hq:∀it,(Code.compLoop e d (.ref it) zX X.env).quiet=true)(hun:∀it,X.A.under (.compStart e d (.ref it) zX X.env)=X.A)
  (hden:∀it,(model X.prog X.w).den (.compStart e d (.ref it) zX X.env)=(compStart e d (.ref it) zX X.env).onRaise (λx=>do noteFrame x X.env;standAt theWindowsPlace))
  (heq:∀it,∃p,compStart e d (.ref it) zX X.env=(ask>>=λc=>if c.params.followText "comprehension-iter-twice"=true then again (.compLoop e d (.ref it) zX X.env)else
   rule "comprehension.iter-twice">>=λ_=>standAt p>>=λ_=>pyIter (.ref it)>>=λit'=>again (.compLoop e d it' zX X.env)))(I:Inv X zS σ H s)
  (T:iQ X.prog X.w X.K tg J fp it tn)(st:tn 0 s.heap)(f:∀b∈fp,bN X zS H b)(q:tl J σ H Q):
  codeAny (model X.prog X.w) X.A (.compStart e d (.ref it) zX X.env) (λr s'=>∃σ' H',r=.ok .next/\Inv X zS σ' H' s'/\Q σ' H') s:=by
 let h0:=hl zS s σ H J fp it tn Q I T st f q;show codeAny_of_tree ?_;rw[hun,hden];show wpAny_notedAt ?_;let#[p,e]:=heq it;rw[e];show qa (wpAny_askSetting (wpAny_ite ?_));split
 .show qb #[hq it,h0]
 .show qa (wpAny_rule (qa (wpAny_standAt (qa (T.self X.A 0 s _ _ st (qb #[hq it,h0]))))))
end L2
namespace FL
open PySem PySem.Spec PyProof.Rows L2
inductive yK(X:Cx)(n:Nat)(D:Addr)(b:WB)(σ:St)(H:Hp)(Q:St->Hp->Prop):Prop
 |mk (F G:Hp) (ρ:Env) (P:Env->Prop) (zU:Rel X.K ρ σ F G H) (hs:σ[n]?=some (some (.ref D))) (hw:b ρ P NX) (hn:∀ρ' σ' F' H',P ρ'->KP (List.range (n+1)) σ σ'->zy F F'->Rel X.K ρ' σ' F' G H'->Q σ' H'):yK X n D b σ H Q
def Hv:XC X T F G NX:=λ_ _ _ _ _ _ _ z=>z.elim
section
variable{K:W.Frag}
def zG.snoc(b:zG K F H xs l fp)(r:aN K F H v s fq):zG K F H (xs++[v]) (l++[s]) (fp++fq):=
 zG.ind (P:=λxs l fp=>zG K F H (xs++[v]) (l++[s]) (fp++fq)) (by let:=zG.cons r .nil;rwa[qz]at this) (λa _ i=>by rw[qo];show .cons a i) b
def zG.len(r:zG K F H xs l fp):xs.length=l.length:=zG.ind (P:=λxs l _=>xs.length=l.length) rfl (λ_ _ i=>congrArg (·+1) i) r
def Rel.append{D:Addr}(r:Rel K (ρ++[⇑s]) (σ++[⇑v]) F G H)(hs:slot ρ n=⇑(.lst l))(B:σ[n]?=⇑⇑(.ref D)):
  ∃xs,H D=⇑(.lst xs)/\xs.length=l.length/\Rel K (ρ.set n ⇑(.lst (l++[s]))) σ F G (upd H D (.lst (xs++[v]))):=by
 let hl:=Af r;let#[fp,e,nd,ap]:=r.en;let#[f1,f2,rfl,a,b]:=e.cut hl;let#[v',fa,fi,fb,e1,rfl,q,up]:=a.at hs;rw[B]at e1;let e2:V.ref D=v':=↑e1
 subst e2;cases q with
 |lst hD rl=>
  rename_i xs Z;cases b with
  |so sr nl=>
   cases nl;rename_i fs;show#[xs,hD,rl.len,?_];let es:σ.set n ⇑(.ref D)=σ:=by
    apply ext_getElem?;intro j;by_cases hj:n=j
    .subst hj;rw[getElem?_set_self (qg.mp B).1,B]
    .rw[getElem?_set_ne hj]
   --D is nobody else's
   let#[n1,n2,M]:=qw.mp nd;let#[na,i,L]:=qw.mp n1;let#[ni,nb,i]:=qw.mp i;let#[nD,h1]:=qK.mp ni;let Y:D∉fa:=λz=>L D z D (qj _ qm) rfl;let U:D∉fb:=λz=>i D qm D z rfl;let O:D∉fs:=λz=>M D (qi _ (qj _ qm)) D ↑z rfl;let J:=ap D (qj _ (qi _ (qj _ qm)));let ne:∀{l:List Addr},D∉l->∀x∈l,upd H D (.lst (xs++[v])) x=H x:=λh x I=>Aj λz=>h (z▸I);let new:aN K F (upd H D (.lst (xs++[v]))) (.ref D) (.lst (l++[s])) (D::(Z++fs)):=.lst AB (zG.snoc (rl.mono (zy.refl F) (ne nD)) (sr.mono (zy.refl F) (ne O)));let a2:=up (F':=F) (H':=upd H D (.lst (xs++[v]))) (o:=⇑(.lst (l++[s]))) (u:=⇑(.ref D)) (zy.refl F) (λx I=>Aj λz=>(qx.mp I).elim (λw=>Y (z▸w)) λw=>U (z▸w)) (.so new .nil);rw[es]at a2;let p:(fa++((D::(Z++fs))++[]++fb)).Perm (fa++((D::Z)++fb)++(fs++[])):=by simp;show List.Perm.append_left _ (List.Perm.cons _ (List.Perm.append_left _ qM))
   show#[zy.updR r.fr J.1,λx o w=>?_,_,a2,p.nodup_iff.mpr nd,λx I=>ap x (by simpa using p.mem_iff.mp I)];let I:x≠D:=λz=>by rw[z,J.2]at w;cases w
   rw[Aj I];show r.gr x o w
end
section
variable{D:Addr}
def KI(J:X.xe=λ_ _=>False)(h:FE X h4 we):mB X (eval h4 X.env>>=λx=>call (.builtin "list.append") [.ref D,x]>>=λ_=>pure ()) (yK X n D (bQ n we)):=by
 intro zS s σ H Q I q;let#[F,G,ρ,P,h1,h2,hw,h3]:=q;let hp:PassesOwn (model X.prog X.w) X.A X.env X.xe:=by rw[J];show PassesOwn.never
 have he:=h X.pn X.xe hp zS s σ H (λv H1=>∃M ρ1 t l,zy F M/\Rel X.K (ρ1++[⇑t]) (σ++[⇑v]) M G H1/\slot ρ1 n=⇑(.lst l)/\l.length<big/\P (ρ1.set n ⇑(.lst (l++[t])))) I
  #[F,G,ρ,_,NX,h1,hw,λr ρ1 v M H1 i Z O rv=>?_,Hv]
 .let B:∀e s',X.xe e s'->False:=λe s' z=>by rw[J]at z;exact z
  show qa (zp he (λu Z Y=>?_) λe s' z=>B e s' z);show cps λ_ kk=>?_;let#[v,H1,I1,rv,M,ρ1,t,l,sm,O,hs,hz,hP]:=Y;let#[xs,hD,L,r2]:=Rel.append O hs h2;show kk ?_;show qa (zp (GJ zS Z σ H1 (.ref D) [v] (.ref D) [u] (λw H'=>w=.non/\H'=upd H1 D (.lst (xs++[v]))) I1 rfl (.cons rv .nil) #[D,xs,v,rfl,rfl,hD,by rw[L];show lt_trans hz ⋯,rfl,rfl]) (λw s2 Y=>?_) λe s' z=>B e s' z);let#[w',H2,I2,_,_,e2]:=Y;subst e2;show qb #[σ,_,I2,h3 _ σ M _ hP KP.refl sm r2]
 .obtain⟨⟨t,U⟩,eg,i⟩:=Ag i;let#[F2,s2,l2,r2]:=As (ρ':=[]) (σ':=[]) O (Af O) rv eg;split at i
  .rename_i l e;show#[F2,U,t,l,Z.trans s2,r2,e,i.1,i.2]
  .show i.elim
def Bv:jM X [] (mE X dP):=λzS s σ H Q I q=>Rv zS s σ H Q I (by let#[F,G,ρ,P,PX,i,J,B,L]:=q;show B true ρ F H J (zy.refl F) i)
def JC(i:X.xe=λ_ _=>False)(h:FT X c wc):jM X [c] (mE X wc):=Qc (h X.pn X.xe (by rw[i];show PassesOwn.never))
def Qm(it:fB X.K J l F)(h5:Rel X.K ρ σ F G H)(h8:σ[n]?=⇑⇑(.ref D))
  (hw:aU g wc b l ρ P NX)(e1:∀ρ' σ' F' H',P ρ'->KP (List.range (n+1)) σ σ'->zy F F'->Rel X.K ρ' σ' F' G H'->Q σ' H'):
  kD (dy X (List.range (n+1)) g) (mE X wc) (yK X n D b) J σ H Q:=by
 let h1:∀{σ':St},KP (List.range (n+1)) σ σ'->σ'[n]?=⇑⇑(.ref D):=λk=>by rw[k n (by simp)];show h8
 show#[λi m B H2=>m=l.length-i/\i<=l.length/\∃F2 ρ2,KP (List.range (n+1)) σ B/\zy F F2/\Rel X.K ρ2 B F2 G H2/\aU g wc b (l.drop i) ρ2 P NX,#[l.length,by simp,zero_le _,F,ρ,KP.refl,zy.refl F,h5,hw],?_];rintro i m B H2 ⟨rfl,hi,F2,ρ2,kp,s2,r2,I⟩;let#[h7,h6]:=it i ρ2 B F2 G H2 s2 r2;by_cases L:i<l.length
 .obtain⟨go,h4⟩:=h7 l[i] (by simp);show .inr #[go,λM H3=>i+1<=l.length/\∃F3 Y,KP (List.range (n+1)) σ M/\zy F F3/\Rel X.K Y M F3 G H3/\aU g wc b (l.drop (i+1)) Y P NX,λM H3 h=>#[l.length-(i+1),∅,rfl,h],λy H3 hy=>?_];let#[F3,s3,r3,rp]:=h4 y H3 hy;rw[drop_eq_getElem_cons L]at I;show#[F3,G,ρ2,_,_,r3.push rp,I,λh3 e2 F4 H4 h9 k4 s4 r4=>?_];let O:=kp.trans k4;let Z:=s2.trans (s3.trans s4);show#[F4,G,h3,_,_,r4,h9,λk U F5 H5 h2 s5 r5=>?_,Hv];cases k with
  |true=>show#[F5,G,U,_,r5,h1 O,h2,λρ' σ' F' H' h k' s r=>#[L,F',ρ',O.trans k',Z.trans (s5.trans s),r,h]]
  |false=>show#[L,F5,U,O,Z.trans s5,r5,h2]
 .let e:i=l.length:=Nat.le_antisymm hi (not_lt.mp L);subst e;rw[List.drop_length]at I;show .inl #[h6 (q8 _),e1 ρ2 B F2 H2 I kp s2 r2]
end
def Lu{α:Type}{l:List α}{a:α}(h:l[n]?=⇑a):l=l.take n++a::l.drop (n+1):=by let#[i,e]:=qg.mp h;rw[<-e,<-drop_eq_getElem_cons i,take_append_drop]
section
variable{X:Cx}
def Gr(hmk:∀(A:Around)(E:zr)(s:Shared)(Q:zr),Q (.ref s.heap.objs.size) {s with heap:=s.heap.push {cls:=.type ty,dict:=none,data:=dat}}->wpAny (model X.prog X.w) A mk Q E s)(ho:∀(H:Hp)(h:Heap),sysModules<h.objs.size->zR X.prog X.w H (h.push {cls:=.type ty,dict:=none,data:=dat}) h.objs.size o0)(hs0:∀(F H:Hp)(p:Addr),H p=⇑o0->aN X.K F H (.ref p) s0 [p])(hcl:clausesOf e=⟨tg,iter,ifs,0⟩::gs)(hs:∀x,foldedSetIterable iter X.env x=pure x)
  (Sc:cC X.env.scope scope X.N vars)(hk:vars.length=k)(hi:FI X tg iter wi)
  (hb:∀(s:Shared)(H:Hp)(ex:List Addr)(D:Addr),oN (aL X scope vars s H ex) e 0 (.ref D) tg (kD (dy (aL X scope vars s H ex) (List.range (X.N.length+1)) g) (mE (aL X scope vars s H ex) wc) (yK (aL X scope vars s H ex) X.N.length D b)))
  (hq:∀it zX env,(Code.compLoop e 0 (.ref it) zX env).quiet=true)(hun:∀it zX env,X.A.under (.compStart e 0 (.ref it) zX env)=X.A)
  (hden:∀it zX env,(model X.prog X.w).den (.compStart e 0 (.ref it) zX env)=(compStart e 0 (.ref it) zX env).onRaise (λx=>do noteFrame x env;standAt theWindowsPlace))
  (heq:∀it zX env,∃p,compStart e 0 (.ref it) zX env=(ask>>=λc=>if c.params.followText "comprehension-iter-twice"=true then again (.compLoop e 0 (.ref it) zX env)else
   rule "comprehension.iter-twice">>=λ_=>standAt p>>=λ_=>pyIter (.ref it)>>=λit'=>again (.compLoop e 0 it' zX env)))(hp:PassesOwn (model X.prog X.w) X.A X.env xe){P:WQ}(I:Inv (wp X pn xe) zS σ H s)
  (zU:Rel X.K ρ σ F G H)(hw:wi ρ (λl ρ1=>aU g wc b l (ρ1++⇑s0::List.replicate k none) (λρ2=>zx (slot ρ2 X.N.length) λs=>P (.v s) (ρ2.take X.N.length)) NX) PX)(hx:XC (wp X pn xe) (·=σ) F G PX)
  (fin:∀(D C:Addr)(s4:Shared)(H4 F4:Hp)(m:Str->Option Value)(t:S)(ρ4:Env),s4.heap.Ns C m->Inv (wp X pn xe) zS σ H4 s4->H4 C=none->C≠X.env.locals->X.s₀.heap.objs.size<=C->(∀x c,X.env.cells.lookup x=⇑c->c≠C)->(∀p∈pn++zS,p.1≠C)->
   P (.v t) ρ4->zy F F4->Rel X.K (ρ4++[⇑t]) (σ++[⇑(.ref D)]) F4 G H4->compPost (model X.prog X.w) X.A xe use Q' (.ref D) C (.ok .next) s4):
  wpAny (model X.prog X.w) X.A (comprehension e scope X.env cpos mk false (eval iter X.env) use) Q' xe s:=by
 have hi':=hi pn xe hp zS s σ H (λJ H1=>∃F1 ρ1 l,zy F F1/\Rel X.K ρ1 σ F1 G H1/\fB X.K J l F1/\
   aU g wc b l (ρ1++⇑s0::List.replicate k none) (λρ2=>zx (slot ρ2 X.N.length) λs=>P (.v s) (ρ2.take X.N.length)) NX) I
  #[F,G,ρ,_,PX,zU,hw,λl ρ1 F1 H1 J hk s1 r1 it=>#[F1,ρ1,l,s1,r1,it,hk],hx]
 let hfree:∀x∈scope.names,x.2=.free->∃c,X.env.cells.lookup x.1=⇑c:=λx hx hf=>I.ok.has x.1 (Sc.fr x hx hf);show wpAny_comprehension_free (use:=use) hcl hs (Vj hfree) Sc.kind (λx hx hl=>(Fv Sc.nd).mpr (by let#[a,b]:=x;let hl':b=.local:=hl;subst hl';show hx)) (zp hi' (λv s1 h1=>zp h1 (λitv s2 h2=>?_) λ_ _ z=>z) λ_ _ z=>z);show cps λ_ kk=>?_;let#[it,fp,tn,J,H2,e1,I2,T,st,f,F1,ρ1,l,s1',r1,ito,hk2]:=h2;show kk ?_;subst e1
 --the zX
 show hmk _ _ _ _ ?_;generalize hs3:({s2 with heap:=s2.heap.push {cls:=.type ty,dict:=none,data:=dat}}:Shared)=s3;let k23:∀b o,s2.heap.get? b=⇑o->s3.heap.get? b=⇑o:=λb o e=>by rw[<-hs3];show qc _ e
 let sz3:s3.heap.objs.size=s2.heap.objs.size+1:=by rw[<-hs3];show Heap.size_push ..
 let hD:H2 s2.heap.objs.size=none:=I2.hok.fresh (q8 _);let I3:Inv (wp X pn xe) zS σ (upd H2 s2.heap.objs.size o0) s3:=by rw[<-hs3];show I2.laid (t':=s2.toks) (λb o e=>qc _ e) (q8 _) (ho _ _ I2.big)
 let r3:Rel X.K (ρ1++[⇑s0]) (σ++[⇑(.ref s2.heap.objs.size)]) F1 G (upd H2 s2.heap.objs.size o0):=r1.newO hD (hs0 _ _ _ AB);let fplt:∀b∈fp,b<s2.heap.objs.size:=λb hb=>by let#[o,e,_]:=T.obj _ _ st b hb;show qe e
 let fne:∀b∈fp,b≠s2.heap.objs.size:=λb hb=>ne_of_lt (fplt b hb);let f3:∀b∈fp,bN (wp X pn xe) zS (upd H2 s2.heap.objs.size o0) b:=λb hb=>by let#[h1,h2]:=f b hb;show#[by rw[Aj (fne b hb)];show h1,h2]
 show UT λh' kept hns hcl'=>?_;let I4:=Inv.comp (X:=wp X pn xe) (ex:=fp) I3 Sc (λb hb=>#[f3 b hb,by rw[sz3];show lt_succ_of_lt (fplt b hb)]) kept hns hcl' hk ⇑(.ref s2.heap.objs.size);let hσn:(σ++⇑(.ref s2.heap.objs.size)::List.replicate k none)[X.N.length]?=⇑⇑(.ref s2.heap.objs.size):=by let hl:X.N.length=σ.length:=I2.len.symm;rw[hl,getElem?_append_right (q8 _),Nat.sub_self];rfl
 let r4:Rel X.K (ρ1++⇑s0::List.replicate k none) (σ++⇑(.ref s2.heap.objs.size)::List.replicate k none) F1 G (upd H2 s2.heap.objs.size o0):=by let:=r3.pushNs k;simpa using this
 let st4:tn 0 h':=T.keep _ _ _ st λb hb o e=>kept b o (k23 b o e);let f4:∀b∈fp,bN (aL X scope vars s3 (upd H2 s2.heap.objs.size o0) fp) [] (upd H2 s2.heap.objs.size o0) b:=λb hb=>by let#[h1,h2,h3,h4,h5,h6]:=f3 b hb;let e:=I4.ok.exf b hb;show#[h1,e.1,I4.ok.exfs b hb,.inl hb,e.2,λp hp=>absurd (show p∈([]:List (Addr×Obj)) from hp) (by simp)]
 have go:=Uj (hb s3 (upd H2 s2.heap.objs.size o0) fp s2.heap.objs.size) (λit=>hq it _ _) (λit=>hun it _ _) (λit=>hden it _ _) (λit=>heq it _ _) I4 T st4 f4
  (Q:=λσ' H'=>∃F' ρ',zx (slot ρ' X.N.length) (λs=>P (.v s) (ρ'.take X.N.length))/\KP (List.range (X.N.length+1)) (σ++⇑(.ref s2.heap.objs.size)::List.replicate k none) σ'/\zy F1 F'/\Rel X.K ρ' σ' F' G H')
  (Qm ito r4 hσn hk2 λρ' σ' F' H' a kp sm r=>#[F',ρ',a,kp,sm,r])
 show codeAny_mono go λr s4 zq=>?_;show cps λ_ kk=>?_;let#[σ4,H4,er,I5,F4,ρ4,hn4,kp4,sm4,r5]:=zq;subst er;let#[m,hm,_]:=id I5.loc;show kk ?_;let I6:Inv (wp X pn xe) zS σ H4 s4:=Inv.call' (ch:=fp) I3 I5.os I5.base I5.hok I5.bare λb hb=>by let#[h1,h2,h3,h4,h5,h6]:=f3 b hb;show#[h4,h2,h5,h6]
 --the block's names go
 let#[t,et,hP]:=Ag hn4;let hl:X.N.length=σ.length:=I2.len.symm;let hσ4:σ4[X.N.length]?=⇑⇑(.ref s2.heap.objs.size):=by rw[kp4 X.N.length (by simp)];show hσn
 have eσ:σ4.take X.N.length=σ:=by
  apply ext_getElem?;intro j;by_cases hj:j<X.N.length
  .rw[List.getElem?_take_of_lt hj,kp4 j (by simp;lia -verbose),getElem?_append_left ∅]
  .rw[List.getElem?_take_eq_none (not_lt.mp hj),qP ∅]
 let e1:=Lu (LY et);let e2:=Lu hσ4;rw[e1,e2,eσ]at r5;let r6:Rel X.K ((ρ4.take X.N.length++[⇑t])++ρ4.drop (X.N.length+1)) ((σ++[⇑(.ref s2.heap.objs.size)])++σ4.drop (X.N.length+1)) F4 G H4:=↑r5
 let hlt:X.N.length<ρ4.length:=De et;let ltC:∀{b:Addr}{o:Obj},s3.heap.get? b=⇑o->b≠s3.heap.objs.size:=λe=>ne_of_lt (qe e);show fin s2.heap.objs.size s3.heap.objs.size s4 H4 F4 m t (ρ4.take X.N.length) hm I6 I5.free (Ne.symm (ne_of_lt I3.lt)) I3.sz (λx c e z=>?_) (λp hp z=>?_) hP (s1'.trans sm4) (r6.drop (by simp;lia -verbose))
 .obtain⟨v,o,ho,_⟩:=I3.cell x c e;show ltC ho z
 .show ltC (I3.pin p hp).1 z
def Os{P:WQ}(M:∀r ρ' v F' H',P r ρ'->zy F F'->Rel X.K (ρ'++[zz r]) (σ++[⇑v]) F' G H'->RV σ v r->Q v H'):
  ∀(D C:Addr)(J:Shared)(B L:Hp)(m:Str->Option Value)(t:S)(i:Env),J.heap.Ns C m->Inv (wp X pn xe) zS σ B J->B C=none->C≠X.env.locals->X.s₀.heap.objs.size<=C->(∀x c,X.env.cells.lookup x=⇑c->c≠C)->(∀p∈pn++zS,p.1≠C)->
   P (.v t) i->zy F L->Rel X.K (i++[⇑t]) (σ++[⇑(.ref D)]) L G B->compPost (model X.prog X.w) X.A xe none (EP (wp X pn xe) zS σ Q) (.ref D) C (.ok .next) J:=
 λD C J B L m t i hm I n1 n2 n3 Z Y hP O r=>#[m,hm,λh1 U=>#[.ref D,B,I.turned (t':=J.toks) (λb o hb e=>(U.2 b hb).trans e) n1 n2 (.inr (Heap.get?_none_of_le n3)) Z Y,rfl,M (.v t) i _ L B hP O r trivial]]
def IU{P:WQ}{Nx:Env->Prop}(hk:i∉ks)(hN:∀j,X.N[j]?=⇑y->j=i)(hi:X.N[i]?=⇑y)(hy:X.env.scope.names.lookup y=⇑.local)
  (hP:∀s ρ,P (.v s) ρ->Nx (ρ.set i ⇑s))(Y:∀ρ' σ' F' H',Nx ρ'->KP ks σ σ'->zy F F'->Rel X.K ρ' σ' F' G H'->DD.nx σ' H'):
  ∀(D C:Addr)(M:Shared)(J O:Hp)(m:Str->Option Value)(t:S)(B:Env),M.heap.Ns C m->Inv (wp X pn xe) zS σ J M->J C=none->C≠X.env.locals->X.s₀.heap.objs.size<=C->(∀x c,X.env.cells.lookup x=⇑c->c≠C)->(∀p∈pn++zS,p.1≠C)->
   P (.v t) B->zy F O->Rel X.K (B++[⇑t]) (σ++[⇑(.ref D)]) O G J->compPost (model X.prog X.w) X.A xe ⇑(assign (.Name y py) X.env) (λ_ s'=>SP (wp X pn xe) zS DD .next s') (.ref D) C (.ok .next) M:=
 λD C M J O m t B hm I n1 n2 n3 n4 n5 hp sm r=>by
  let hl:=Af r;let L:i<B.length:=by rw[hl,I.len];show(qg.mp hi).1
  refine wpAny_assign_Name (Hk (X:=wp X pn xe) (v:=.ref D) I hN hi (.inl hy) rfl (λs5 I5 zq=>?_) (.inr hy));let#[a,sb,ha]:=zq;let Z:C≠a:=by
   rcases ha with e|e
   .rw[e];show n2
   .show Ne.symm (n4 y a e)
  show#[m,hm.sameBut sb Z,λh1 U=>#[_,J,I5.turned (t':=s5.toks) (λb o hb e=>(U.2 b hb).trans e) n1 n2 (.inr (Heap.get?_none_of_le n3)) n4 n5,?_]];show Y _ _ O J (hP t B hp) (KP.set hk) sm (r.store hl L)
def Gq(A:Around)(E:zr)(s:Shared)(Q:zr)(h:Q (.ref s.heap.objs.size) {s with heap:=s.heap.push {cls:=.type B,dict:=none,data:=i}})(hz:sizeOk i:=by size_fits):wpAny (model X.prog X.w) A (newObj (.type B) i) Q E s:=zi h hz
def IK(H:Hp)(h:Heap)(_:sysModules<h.objs.size):zR X.prog X.w H (h.push {cls:=.type "list",dict:=none,data:=.seq ([]:List Value).toArray}) h.objs.size (.lst []):=#[zero_le _,[],0,.nil,qd _ rfl]
def Io(F H:Hp)(p:Addr)(e:H p=⇑(.lst [])):aN X.K F H (.ref p) (.lst []) [p]:=.lst e .nil
def BM(hn:X.N.length=n)(hc:X.calm=true)(Sc:cC X.env.scope scope X.N vars)(hk:vars.length=k)(hi:FI X tg iter M)
  (hg:∀s H ex,FG (aL X scope vars s H ex) (List.range (n+1)) tg g)(Z:∀s H ex,jM (aL X scope vars s H ex) B (mE (aL X scope vars s H ex) wc))(he:∀s H ex,FE (aL X scope vars s H ex) L O)
  (hs:∀x,foldedSetIterable iter X.env x=pure x:=by intro _;rfl):FE X (.ListComp L [#[tg,iter,B,0]] scope pos) (iV n k M g wc (bQ n O)):=by
 subst hn;intro pn xe hp zS s σ H Q I q;let#[F,G,ρ,P,PX,i,Y,J,U]:=q;show Gr (λA E s Q h=>Gq A E s Q h) (s0:=.lst []) IK Io rfl hs Sc hk hi (λs H ex D=>?_) (λ_ _ _=>rfl) (λ_ _ _=>rfl) (λ_ _ _=>rfl) (λ_ _ _=>#[_,rfl]) hp I i Y U (Os J);show Hn (X:=aL X scope vars s H ex) hc rfl (hg s H ex [] (λ_ _=>False) PassesOwn.never) (Z s H ex) (λ_=>(KI (X:=aL X scope vars s H ex) rfl (he s H ex)).f) (λ_=>rfl) (λ_=>rfl) (λ_=>rfl) (λ_=>rfl)
def KR(U:i∉ks)(hN:∀j,X.N[j]?=⇑y->j=i)(Y:X.N[i]?=⇑y)(hy:X.env.scope.names.lookup y=⇑.local)
  (O:swapsWith (.ListComp L [#[tg,iter,J,0]] scope pos) ⇑(.Name y py) spos.line X.env=pure true)
  (hn:X.N.length=n)(hc:X.calm=true)(Sc:cC X.env.scope scope X.N vars)(hk:vars.length=k)(hi:FI X tg iter wi)
  (hg:∀s H ex,FG (aL X scope vars s H ex) (List.range (n+1)) tg g)(ht:∀s H ex,jM (aL X scope vars s H ex) J (mE (aL X scope vars s H ex) wc))(he:∀s H ex,FE (aL X scope vars s H ex) L Z)
  (hs:∀x,foldedSetIterable iter X.env x=pure x:=by intro _;rfl):FS X ks (.Assign [.Name y py] (.ListComp L [#[tg,iter,J,0]] scope pos) spos) (zM (zw i) (iV n k wi g wc (bQ n Z))):=by
 subst hn;intro pn xe hp zS s σ H D I q;rw[exec_Assign_Name_used _ _ _ _ O];show qa (wpAny_standAt (qa ?_));let#[F,G,ρ,E,M,hw,n,b,c,r,x]:=q;refine qa (zp (Gr (λA E s Q h=>Gq A E s Q h) (s0:=.lst []) (P:=λr B=>zx (give r B) λp=>zw i p.1 p.2 E.nx) (PX:=E.ex) (g:=g) (wc:=wc) (b:=bQ X.N.length Z) (Q':=λ_ s'=>SP (wp X pn xe) zS D .next s') IK Io rfl hs Sc hk hi (λs H ex D=>?_) (λ_ _ _=>rfl) (λ_ _ _=>rfl) (λ_ _ _=>rfl) (λ_ _ _=>#[_,rfl]) hp I M hw (x.mono (λh1 z=>by rw[z];show KP.refl) (zy.refl F) (zy.refl G))
  (IU (P:=λr B=>zx (give r B) λp=>zw i p.1 p.2 E.nx) (Nx:=E.nx) U hN Y hy (λs ρ h=>h) n)) (λ_ s' hq=>qb (qb hq)) λ_ _ e=>e)
 show Hn (X:=aL X scope vars s H ex) hc rfl (hg s H ex [] (λ_ _=>False) PassesOwn.never) (ht s H ex) (λ_=>(KI (X:=aL X scope vars s H ex) rfl (he s H ex)).f) (λ_=>rfl) (λ_=>rfl) (λ_=>rfl) (λ_=>rfl)
end
section
variable{K:W.Frag}
def Cj{x:Str}(e:x.cps.toList=l):x.length=l.length:=by rw[<-e];rfl
def Pa{x y:Str}(e:x.cps.toList=l)(i:y.cps.toList=m):(x++y).cps.toList=l++m:=by show(x.cps++y.cps).toList=_;rw[toList_append,e,i]
def bH.int(h:bH K F H v (.int i)):v=.int i:=by
 rcases h with h|⟨_,_,_,_,h,_⟩|⟨_,_,_,_,_,h,_⟩|⟨_,_,_,_,_,h,_⟩
 .cases h;rfl
 .cases h
 .cases h
 .cases h
def bH.str(h:bH K F H v (.str l)):∃x,v=.str x/\x.cps.toList=l/\l.length<=16777216:=by
 rcases h with h|⟨_,_,_,_,h,_⟩|⟨_,_,_,_,_,h,_⟩|⟨_,_,_,_,_,h,_⟩
 .cases h with
  |str e z=>show#[_,rfl,e,z]
 .cases h
 .cases h
 .cases h
def bH.tup(h:bH K F H v (.tup l)):∃a xs,v=.ref a/\F a=⇑(.tup xs)/\zQ K F xs l:=by
 rcases h with h|⟨_,_,_,_,h,_⟩|⟨_,_,_,_,_,h,_⟩|⟨_,_,_,_,_,h,_⟩
 .cases h with
  |tup e r=>show#[_,_,rfl,e,r]
 .cases h
 .cases h
 .cases h
def bH.lst(i:zy F H)(h:bH K F H v (.lst l)):∃a xs,v=.ref a/\bJ K H a xs/\zQ K F xs l:=by
 rcases h with h|⟨a,xs,I,G,h,B,r⟩|⟨_,_,_,_,_,h,_⟩|⟨_,_,_,_,_,h,_⟩
 .cases h with
  |lst e r=>show#[_,_,rfl,bJ.mono i e,r]
 .cases h;show#[a,xs,G,bJ.of B,r]
 .cases h
 .cases h
def zQ.append(a:zQ K F xs l)(r:zQ K F ys m):zQ K F (xs++ys) (l++m):=zQ.ind (P:=λxs l=>zQ K F (xs++ys) (l++m)) r (λa _ i=>.cons a i) a
def Rel.newLD(r:Rel K ρ σ F G H)(J:H p=none)(B:zQ K F xs l):Rel K (ρ++[⇑(.lst (l.map .sh))]) (σ++[⇑(.ref p)]) F G (upd H p (.lst xs)):=by
 have i:∀{xs:List V}{l:List D},zQ K F xs l->zG K F (upd H p (.lst xs)) xs (l.map .sh) []:=by
  intro xs l h;generalize upd H p (.lst xs)=H';induction xs generalizing l with
  |nil=>cases h;show .nil
  |cons x xs I=>cases h with
   |cons a b=>have:=zG.cons (aN.sh (H:=H') a) (I b);show this
 show r.newO J (.lst AB ?_);let:=i B;show this
def sV(K:W.Frag):R2:=λx y H Q=>∃l b xs i,x=.ref l/\y=.ref b/\bJ K H l xs/\bJ K H b i/\xs.length+i.length<=sizeLine/\∀p,H p=none->Q (.ref p) (upd H p (.lst (xs++i)))
def Pz:OpR X (binaryOp .Add) (sV X.K):=by
 intro zS s σ H x y v u Q I rx ry h;let#[l,b,xs,zs,rfl,rfl,hl,hb,Z,q]:=h;cases rx;cases ry;let#[B,Y,#[#[cls,dd,data,sl],n,ho,hc,M,hd],_]:=I.list hl;let#[i,U,#[#[h1,h2,data2,J],n2,F,O,G,L],_]:=I.list hb;subst hc M hd O G L;show concat_meets #[_,ho,rfl] #[_,F,rfl] noFill_list_add seq_list_add PySem.F.slot_list_add PySem.F.entry_list_add (PySem.F.args_list_add_2 _ _) (list_addW l b B.toArray i.toArray n n2 none none sl J (by rw[qq,qq,<-Y.length,<-U.length];show Z)) #[ho,F,?_];let ea:B.toArray++i.toArray=(B++i).toArray:=by simp
 rw[ea];show#[.ref _,_,I.lnew (t':=s.toks) (Y.append U) (by rw[qp];show Z),rfl,q _ I.fresh]
def nP(K:W.Frag):R2:=λx y H Q=>∃a b xs ys,x=.ref a/\y=.ref b/\bD K H a xs/\bD K H b ys/\xs.length+ys.length<=sizeLine/\
 (xs=[]->Q (.ref b) H)/\(xs≠[]->ys=[]->Q (.ref a) H)/\(xs≠[]->ys≠[]->∀p,H p=none->Q (.ref p) (upd H p (.tup (xs++ys))))
def Qz:OpR X (binaryOp .Add) (nP X.K):=by
 intro zS s σ H x y v u Q I Y U h;let#[a,b,xs,ys,rfl,rfl,ha,hb,hz,q0,q1,q2]:=h;by_cases F:xs=[]
 .cases Y;cases U;let#[B,r1,p1,_]:=I.tuple ha;let#[i,r2,p2,_]:=I.tuple hb;let#[#[cls,dd,data,sl],Z,hc,n,hd]:=id p1;let#[#[h1,O,data2,J],G,M,n2,L]:=id p2;subst hc hd M L;let hi:B=[]:=r1.nil_iff.mpr F;exact concat_meets #[_,Z,rfl] #[_,G,rfl] noFill_tuple_add seq_tuple_add PySem.F.slot_tuple_add PySem.F.entry_tuple_add (PySem.F.args_tuple_add_2 _ _)
   (tuple_addW0 a b B.toArray i.toArray n n2 dd O sl J (by simp[hi])) #[Z,G,.ref b,H,I,rfl,q0 F]
 .show OH zS s σ H _ _ v u Q I Y U #[a,b,xs,ys,rfl,rfl,ha,hb,F,hz,q1 F,q2 F]
def pY:R2:=λx y H Q=>∃i j,x=.str i/\y=.str j/\i.length+j.length<=sizeLine/\Q (.str (i++j)) H
def lL(K:W.Frag):R2:=λx y H Q=>sU (λi j=>.int (i+j)) x y H Q\/(pY x y H Q\/(sV K x y H Q\/nP K x y H Q))
def Tc:OpR X (binaryOp .Add) (lL X.K):=OpR.or MU (OpR.or TX (OpR.or Pz Qz))
def Fe(h:n<=big):n<=sizeLine:=by rw[zk];show le_trans h ⋯
def Ry:gW K (lL K) aI:=by
 intro σ ρ F G H x y p q s Q i ex O e J;unfold aI at e;split at e
 .cases e;let h1:=ex.int;let h2:=O.int;subst h1 h2;show .inl #[_,_,rfl,rfl,J _ F H (zy.refl F) (i.push (.int _))]
 .rename_i a b;split at e
  .rename_i L;cases e;let#[x,rfl,Z,z1]:=ex.str;let#[y,rfl,Y,z2]:=O.str;show .inr (.inl #[_,_,rfl,rfl,by rw[Cj Z,Cj Y];show Fe L,J _ F H (zy.refl F) (i.push (.str (Pa Z Y) (by rw[qp];show le_trans L ⋯)))])
  .cases e
 .rename_i a b;split at e
  .rename_i L;cases e;let#[l,xs,rfl,h1,I]:=ex.lst i.fr;let#[m,ys,rfl,h2,B]:=O.lst i.fr;show .inr (.inr (.inl #[l,m,xs,ys,rfl,rfl,h1,h2,by rw[I.len,B.len];show Fe L,λp M=>?_]));show J _ F _ (zy.refl F) (i.newLD M (I.append B))
  .cases e
 .rename_i a b;split at e
  .rename_i L;cases e;let#[l,xs,rfl,h1,I]:=ex.tup;let#[m,ys,rfl,h2,B]:=O.tup;refine .inr (.inr (.inr #[l,m,xs,ys,rfl,rfl,bD.of (i.fr _ _ h1),bD.of (i.fr _ _ h2),by rw[I.len,B.len];show Fe L,λhx=>?_,λ_ hy=>?_,λ_ _ p M=>?_]))
   .subst hx;cases I;show J _ F H (zy.refl F) (i.push (.tup h2 B))
   .subst hy;cases B;rw[qz]at J;show J _ F H (zy.refl F) (i.push (.tup h1 I))
   .let U:=(i.free M).1;show J _ _ _ (zy.upd U) ((i.newF M).push (.tup AB ((I.append B).mono (zy.upd U))))
  .cases e
 .cases e
def DG{g:Int->Int->Int}(J:∀p q s,o p q=⇑s->∃i j,p=.int i/\q=.int j/\C i j/\s=.sh (.int (g i j))):gW K (rI C λi j=>.int (g i j)) o:=by intro σ ρ F G H x y p q s Q B ex M e I;let#[i,j,rfl,rfl,L,rfl]:=J p q s e;let h1:=ex.int;let h2:=M.int;subst h1 h2;show#[i,j,rfl,rfl,L,I _ F H (zy.refl F) (B.push (.int _))]
def Rh:gW K (rI (λ_ _=>True) λi j=>.int (i-j)) dR:=DG λp q s e=>by
 unfold dR at e;split at e
 .cases e;show#[_,_,rfl,rfl,trivial,rfl]
 .cases e
def Ow:OpR X (binaryOp .Sub) (rI (λ_ _=>True) λi j=>.int (i-j)):=Eh λ_ _ _ _ _ _ _ _ q=>sub_int q
def Qp:gW K (rI oW λi j=>.int (i*j)) nR:=DG λp q s e=>by
 unfold nR at e;split at e
 .rename_i i j;split at e
  .rename_i h;cases e;show#[_,_,rfl,rfl,?_,rfl];simp[lM,or_eq_true,and_eq_true,qS]at h;show h
  .cases e
 .cases e
def PZ:gW K (rI (λ_ j=>0<j) λi j=>.int (i %j)) eR:=DG λp q s e=>by
 unfold eR at e;split at e
 .split at e
  .rename_i h;cases e;show#[_,_,rfl,rfl,h,rfl]
  .cases e
 .cases e
def RF:gW K (rI dm λi j=>.int (i^j.toNat)) nQ:=DG λp q s e=>by
 unfold nQ at e;split at e
 .split at e
  .rename_i h;cases e;show#[_,_,rfl,rfl,#[h.1,∅,h.2.2],rfl]
  .cases e
 .cases e
def tH(i j:Int):Prop:=0<j/\j<18446744073709551616
def Re:OpR X (binaryOp .FloorDiv) (rI tH λi j=>.int (i/j)):=Eh λi j _ _ _ _ _ B q=>by
 let h1:(0:Int)<j:=B.1;let h2:j<18446744073709551616:=B.2;show floordiv_int ∅ ?_ (.inl (PyProof.noPylong_of_log2 ?_))
 .rw[Int.fdiv_eq_ediv_of_nonneg _ ∅];show q
 .let F:j.natAbs≠0:=by lia
  let:j.natAbs.log2<64:=(Nat.log2_lt F).mpr ∅;lia
def Th:gW K (rI tH λi j=>.int (i/j)) gM:=DG λp q s e=>by
 unfold gM at e;split at e
 .split at e
  .rename_i h;cases e;show#[_,_,rfl,rfl,h,rfl]
  .cases e
 .cases e
end
def Ap(B:FE X a wa)(i:FE X b wb):FE X (.BinOp a .Add b pos) (zJ aI wa wb):=CC (λ_ _=>Tc) Ry B i
def BP(B:FE X a wa)(i:FE X b wb):FE X (.BinOp a .Sub b pos) (zJ dR wa wb):=CC (λ_ _=>Ow) Rh B i
def Cf(B:FE X a wa)(i:FE X b wb):FE X (.BinOp a .Mod b pos) (zJ eR wa wb):=CC (λ_ _=>Ng) PZ B i
def FY(B:FE X a wa)(i:FE X b wb):FE X (.BinOp a .FloorDiv b pos) (zJ gM wa wb):=CC (λ_ _=>Re) Th B i
def Nc(B:FE X a wa)(i:FE X b wb):FE X (.BinOp a .Pow b pos) (zJ nQ wa wb):=CC (λ_ _=>NA) RF B i
section
open PySem.SeqAt
def SZ(h:aT (.tup l) (.tup m)=false):bE l m=false:=h
def Ft:∀{l m:List D}{j:Nat}{a b:D},bE l m=false->l[j]?=⇑a->m[j]?=⇑b->aT a b=false
 |[],_,_,_,_,_,h,_=>by simp at h
 |_::_,[],_,_,_,_,_,h=>by simp at h
 |x::l,y::m,0,a,b,h,h1,h2=>by simp at h1 h2;subst h1 h2;let h':(aT x y||bE l m)=false:=h;rw[Bool.or_eq_false_iff]at h';show h'.1
 |x::l,y::m,j+1,a,b,h,h1,h2=>by let h':(aT x y||bE l m)=false:=h;rw[Bool.or_eq_false_iff]at h';show Ft h'.2 h1 ↑h2
def EF:∀{l:List D}{j:Nat}{a:D},l[j]?=⇑a->fC a<=aZ l
 |[],_,_,h=>by simp at h
 |x::l,0,a,h=>by simp at h;subst h;show fC x<=max (fC x) (aZ l);lia
 |x::l,j+1,a,h=>by let:=EF (l:=l) (j:=j) (a:=a) h;show fC a<=max (fC x) (aZ l);lia
open Classical in
def EA{l m:List D}(n:Nat)(hn:n=min l.length m.length):((List.range n).all (λj=>↥(l[j]?=m[j]?))&&(l.length==m.length))=↥(l=m):=by
 by_cases h:l=m
 .subst h;simp
 .rw[qR h];by_cases i:l.length=m.length
  .have:(List.range n).all (λj=>↥(l[j]?=m[j]?))=false:=by
    cases q:(List.range n).all (λj=>↥(l[j]?=m[j]?))with
    |false=>rfl
    |true=>
     exfalso;apply h;apply ext_getElem?;intro j;by_cases B:j<n
     .show qT (qH.mp q j ↑B)
     .rw[qP ∅,qP ∅]
   rw[this];rfl
  .let:(l.length==m.length)=false:=by simpa using i
   rw[this,Bool.and_false]
inductive Sc:V->D->Prop
 |non:Sc .non .non
 |bl (b:Bool):Sc (.bl b) (.bl b)
 |int (i:Int):Sc (.int i) (.int i)
 |str {x:Str} {l:List Nat}:x.cps.toList=l->Sc (.str x) (.str l)
def HQ{K:W.Frag}(r:aP K H v d)(i:aT d e=false)(h1:∀l,d≠.tup l)(h2:∀l,d≠.lst l):Sc v d:=by
 cases r with
 |tup=>show absurd rfl (h1 _)
 |lst=>show absurd rfl (h2 _)
 |dK=>cases e<;>cases i
 |dT=>cases e<;>cases i
 |st=>cases e<;>cases i
 |exc=>cases e<;>cases i
 |non=>show .non
 |bl=>show .bl _
 |int=>show .int _
 |str e _=>show .str e
def Iq{K:W.Frag}(r:aP K H u e)(s:Sc v d)(i:aT d e=false):Sc u e:=by
 cases r with
 |non=>show .non
 |bl=>show .bl _
 |int=>show .int _
 |str e _=>show .str e
 |_=>cases s<;>cases i
open Classical in
def ER{K:W.Frag}(Y:aP K H v d)(U:aP K H u e)(G:zH v L)(B:zH u M)(I:aT d e=false)(h1:∀l,d≠.tup l)(h2:∀l,d≠.lst l):
  EqAt A s L M ↥(d=e)/\RcAt A s L M ↥(d=e):=by
 let O:=HQ Y I h1 h2;let F:=Iq U O I
 clear Y U h1 h2
 cases O with
 |non=>
  cases G;cases F with
  |non=>cases B;simp;show#[EqAt.same _,RcAt.none_none]
  |bl b=>cases B;simp;show#[EqAt.none_bool _,RcAt.none_bool _]
  |int i=>let#[t,rfl]:=B;simp;show#[EqAt.none_int _ _,RcAt.none_int _ _]
  |str e=>let#[t,rfl]:=B;simp;show#[EqAt.none_str _ _,RcAt.none_str _ _]
 |bl a=>
  cases G;cases F with
  |non=>cases B;simp;show#[EqAt.bool_none _,RcAt.bool_none _]
  |bl b=>
   cases B;let e:↥(D.bl a=D.bl b)=(a==b):=by cases a<;>cases b<;>simp
   rw[e];show#[EqAt.bool_bool _ _,RcAt.bool_bool _ _]
  |str e=>let#[t,rfl]:=B;simp;show#[EqAt.bool_str _ _ _,RcAt.bool_str _ _ _]
  |int=>cases I
 |int i=>
  let#[t,rfl]:=G;cases F with
  |non=>cases B;simp;show#[EqAt.int_none _ _,RcAt.int_none _ _]
  |int j=>
   let#[J,rfl]:=B;let e:↥(D.int i=D.int j)=(i==j):=by by_cases h:i=j<;>simp[h]
   rw[e];show#[EqAt.int_int _ _ _ _,RcAt.int_int _ _ _ _]
  |str e=>let#[J,rfl]:=B;simp;show#[EqAt.int_str _ _ _ _,RcAt.int_str _ _ _ _]
  |bl=>cases I
 |str e1=>
  let#[t,rfl]:=G;cases F with
  |non=>cases B;simp;show#[EqAt.str_none _ _,RcAt.str_none _ _]
  |bl b=>cases B;simp;show#[EqAt.str_bool _ _ _,RcAt.str_bool _ _ _]
  |int j=>let#[J,rfl]:=B;simp;show#[EqAt.str_int _ _ _ _,RcAt.str_int _ _ _ _]
  |str Z=>
   obtain⟨J,rfl⟩:=B;rename_i x l y m;let e:↥(D.str l=D.str m)=(x==y):=by
    by_cases h:x=y
    .subst h;rw[<-e1,<-Z];simp
    .let hb:(x==y)=false:=by simpa using h
     rw[hb];show qR λq=>h ?_;let#[#[a]]:=x;let#[#[b]]:=y;let a1:a=l:=e1;let b1:b=m:=Z;rw[a1,b1,D.str.inj q]
   rw[e];show#[EqAt.str_str _ _ _ _,RcAt.str_str _ _ _ _]
def CN(r:zP xs us)(h:j<us.toArray.size):∃x,xs[j]?=⇑x/\zH x us.toArray[j]:=by
 let I:=r.length;let J:j<us.length:=h;let G:j<xs.length:=∅
 let#[u,F,B]:=r.get (i:=j) (x:=xs[j]) (by simp);show#[xs[j],by simp,?_];let:us.toArray[j]=u:=by let:=qg.mp F;simpa using this.2
 rw[this];show B
mutual
theorem aP.uniq(I:Inv X zS σ H s)(r:aP X.K H v d)(q:aP X.K H v e)(i:aT d e=false):d=e:=by
 cases r with
 |non=>cases q;rfl
 |bl _=>cases q;rfl
 |int _=>cases q;rfl
 |str F _=>cases q with|str B _=>rw[<-F,<-B]
 |tup F J=>cases q with
  |tup B G=>cases I.tuple_inj (bD.of F) (bD.of B);rw[zQ.uniq I J G i]
  |_=>cases i
 |lst F J=>cases q with
  |lst B G=>cases I.list_inj F B;rw[zQ.uniq I J G i]
  |_=>cases i
 |dK=>cases e<;>cases i
 |dT=>cases e<;>cases i
 |st=>cases e<;>cases i
 |exc=>cases e<;>cases i
theorem zQ.uniq(I:Inv X zS σ H s)(r:zQ X.K H v d)(q:zQ X.K H v e)(i:bE d e=false):d=e:=by
 cases r with
 |nil=>cases q;rfl
 |@cons _ a _ l a1 F=>cases q with
  |@cons _ b _ m a2 B=>have h':(aT a b||bE l m)=false:=i;rw[Bool.or_eq_false_iff]at h';rw[aP.uniq I a1 a2 h'.1,zQ.uniq I F B h'.2]
end
open Classical in
def Fy:∀(n:Nat){A:Around}{v u:V}{vv uu:Value}{d e:D},fC d<=n->Inv X zS σ H s->aP X.K H v d->aP X.K H u e->zH v vv->zH u uu->aT d e=false->A.units+n<cLine->
  EqAt A s vv uu ↥(d=e)/\RcAt A s vv uu ↥(d=e):=by
 intro n;induction n with
 |zero=>intro A v u vv uu d e hd I r1 r2 rv ru hc hu;show ER r1 r2 rv ru hc (λl z=>by subst z;show absurd hd (by show¬aZ l+1<=0;lia)) (λl z=>by subst z;show absurd hd (by show¬aZ l+1<=0;lia))
 |succ n ih=>
  intro A v u vv uu d e hd I r1 r2 rv ru hc hu;let h9:A.in1.units+n<cLine:=by show A.units+1+n<cLine;lia
  cases r1 with
  |tup e1 q1=>
   cases r2 with
   |tup Z q2=>
    rename_i a xs l b ys m;cases rv;cases ru;let#[G,w1,p1,_]:=I.tuple (bD.of e1);let#[B,w2,p2,_]:=I.tuple (bD.of Z);let h7:aZ l<=n:=by let:aZ l+1<=n+1:=hd;lia
    let h3:G.toArray.size=l.length:=by rw[qq,<-w1.length,q1.len]
    let h8:B.toArray.size=m.length:=by rw[qq,<-w2.length,q2.len]
    have items:∀j(h1:j<G.toArray.size)(h2:j<B.toArray.size),EqAt A.in1 s G.toArray[j] B.toArray[j] ↥(l[j]?=m[j]?):=λj h1 h2=>by
     let#[x,hx,rx]:=CN w1 h1;let#[y,hy,ry]:=CN w2 h2;let F:j<l.length:=∅
     let J:j<m.length:=∅
     let#[x',M,h5]:=q1.get (i:=j) (d:=l[j]) (by simp[F]);let#[y',L,h4]:=q2.get (i:=j) (d:=m[j]) (by simp[J]);rw[hx]at M;cases M;rw[hy]at L;cases L;let:=(ih (A:=A.in1) (le_trans (EF (l:=l) (j:=j) (by simp[F])) h7) I h5 h4 rx ry (Ft (j:=j) (a:=l[j]) (b:=m[j]) (SZ hc) (by simp[F]) (by simp[J])) h9).1;let e:↥(l[j]?=m[j]?)=↥(l[j]=m[j]):=by simp[F,J]
     rw[e];show this
    have O:RcAt A s (.ref a) (.ref b) ↥(D.tup l=D.tup m):=by
     let:=RcAt.tuples (s:=s) (show s.heap.IsTuple a G.toArray from p1) (show s.heap.IsTuple b B.toArray from p2) ∅ items;rw[h3,h8,EA (l:=l) (m:=m) _ rfl]at this;let e:↥(D.tup l=D.tup m)=↥(l=m):=by by_cases h:l=m<;>simp[h]
     rw[e];show this
    show#[?_,O];by_cases Y:a=b
    .subst Y;let h6:l=m:=by let z:=aP.uniq I (.tup e1 q1) (.tup Z q2) hc;cases z;rfl
     subst h6;simp;show EqAt.same _
    .show EqAt.of_refs Y O
   |_=>cases hc
  |lst e1 q1=>
   cases r2 with
   |lst Z q2=>
    rename_i a xs l b ys m;cases rv;cases ru;let#[G,w1,p1,_]:=I.list e1;let#[B,w2,p2,_]:=I.list Z;let h7:aZ l<=n:=by let:aZ l+1<=n+1:=hd;lia
    let h3:G.toArray.size=l.length:=by rw[qq,<-w1.length,q1.len]
    let h8:B.toArray.size=m.length:=by rw[qq,<-w2.length,q2.len]
    have items:∀j(h1:j<G.toArray.size)(h2:j<B.toArray.size),EqAt A.in1 s G.toArray[j] B.toArray[j] ↥(l[j]?=m[j]?):=λj h1 h2=>by
     let#[x,hx,rx]:=CN w1 h1;let#[y,hy,ry]:=CN w2 h2;let F:j<l.length:=∅
     let J:j<m.length:=∅
     let#[x',M,h5]:=q1.get (i:=j) (d:=l[j]) (by simp[F]);let#[y',L,h4]:=q2.get (i:=j) (d:=m[j]) (by simp[J]);rw[hx]at M;cases M;rw[hy]at L;cases L;let e4:bE l m=false:=hc;let:=(ih (A:=A.in1) (le_trans (EF (l:=l) (j:=j) (by simp[F])) h7) I h5 h4 rx ry (Ft (j:=j) (a:=l[j]) (b:=m[j]) e4 (by simp[F]) (by simp[J])) h9).1;let e:↥(l[j]?=m[j]?)=↥(l[j]=m[j]):=by simp[F,J]
     rw[e];show this
    have O:RcAt A s (.ref a) (.ref b) ↥(D.lst l=D.lst m):=by
     let e:↥(D.lst l=D.lst m)=↥(l=m):=by by_cases h:l=m<;>simp[h]
     rw[e];by_cases U:l.length=m.length
     .let:=RcAt.lists (s:=s) p1.isList p2.isList ∅ ∅ items;rw[h3]at this;let Z:=EA (l:=l) (m:=m) l.length ∅;let e3:(l.length==m.length)=true:=by simpa using U
      rw[e3,Bool.and_true]at Z;rw[<-Z];show this
     .let:=RcAt.lists_lengths (A:=A) (s:=s) p1.isList p2.isList (by simp only[h3,h8];simpa using U) ∅;let Z:↥(l=m)=false:=qR λz=>U (by rw[z]);rw[Z];show this
    show#[?_,O];by_cases Y:a=b
    .subst Y;let h6:l=m:=by let z:=aP.uniq I (.lst e1 q1) (.lst Z q2) hc;cases z;rfl
     subst h6;simp;show EqAt.same _
    .show EqAt.of_refs Y O
   |_=>cases hc
  |_=>show ER (by first|show .non|show .bl _|show .int _|(rename_i e z;show .str e z)|(rename_i e k r;show .dK e k r)|(rename_i e k r;show .dT e k r)|(rename_i e r;show .st e r)|(rename_i e k z;show .exc e k z)) r2 rv ru hc (λl z=>by cases z) (λl z=>by cases z)
end
section
variable{K:W.Frag}
open PySem.SeqAt
open Classical in
def aj(K:W.Frag):R2:=λx y H Q=>∃p q,aP K H x p/\aP K H y q/\aT p q=false/\fC p<=30/\Q (.bl ↥(p=q)) H
def AS(O:X.A.units+31<cLine):OpR X (compareOp .Eq) (aj X.K):=by intro zS s σ H x y v u Q I B i h;let#[p,q,G,F,M,L,J]:=h;show(Fy 30 L I G F B i M ∅).2 X.prog X.w X.xe _ #[.bl _,H,I,rfl,J]
def Ih(h:cS p q=⇑k):aT p q=false/\fC p<=30:=by grind[cS]
open Classical in
def Jm(h:cS p q=⇑k):k=↥(p=q):=by
 unfold cS at h;split at h
 .cases h
 .show(qf h).symm
def AR:dG K (aj K) cS:=by intro H x y p q k Q B i e F;let#[h1,h2]:=Ih e;let:=Jm e;subst this;show#[p,q,B,i,h1,h2,F]
open Classical in
def zZ(K:W.Frag):R2:=λx y H Q=>∃p q,aP K H x p/\aP K H y q/\aT p q=false/\fC p<=30/\Q (.bl (!decide (p=q))) H
def JL(I:Inv X zS σ H s)(q1:zQ X.K H xs l)(Z:zQ X.K H ys m)(Y:zP xs us)(U:zP ys L)(hc:bE l m=false)(hd:aZ l<=30)(hu:A.units+30<cLine):
  ∀j(h1:j<us.toArray.size)(h2:j<L.toArray.size),EqAt A s us.toArray[j] L.toArray[j] (open Classical in ↥(l[j]?=m[j]?)):=λj h1 h2=>by
 let#[x,hx,rx]:=CN Y h1;let#[y,hy,ry]:=CN U h2;let h4:us.toArray.size=l.length:=by rw[qq,<-Y.length,q1.len]
 let h3:L.toArray.size=m.length:=by rw[qq,<-U.length,Z.len]
 let J:j<l.length:=∅
 let G:j<m.length:=∅
 let#[x',F,O]:=q1.get (i:=j) (d:=l[j]) (by simp);let#[y',B,M]:=Z.get (i:=j) (d:=m[j]) (by simp);rw[hx]at F;cases F;rw[hy]at B;cases B;let:=(Fy 30 (A:=A) (le_trans (EF (l:=l) (j:=j) (by simp)) hd) I O M rx ry (Ft (j:=j) (a:=l[j]) (b:=m[j]) hc (by simp[J]) (by simp[G])) hu).1;let e:(open Classical in ↥(l[j]?=m[j]?))=(open Classical in ↥(l[j]=m[j])):=by simp[J,G]
 rw[e];show this
def Es(p:D):(∃l,p=.tup l)\/(∃l,p=.lst l)\/((∀l,p≠.tup l)/\∀l,p≠.lst l):=by
 cases p with
 |tup l=>show .inl #[l,rfl]
 |lst l=>show .inr (.inl #[l,rfl])
 |_=>show .inr (.inr #[λl z=>D.noConfusion z,λl z=>D.noConfusion z])
def Oz(h:aT (.tup l) q=false):∃m,q=.tup m:=by
 cases q with
 |tup m=>show#[m,rfl]
 |_=>cases h
def Po(h:aT (.lst l) q=false):∃m,q=.lst m:=by
 cases q with
 |lst m=>show#[m,rfl]
 |_=>cases h
def Ou(I:aP K H x p)(G:aP K H y q)(i:aT p q=false)(h1:∀l,p≠.tup l)(h2:∀l,p≠.lst l):yU x y=true/\(p=q↔x=y):=by
 let F:=HQ I i h1 h2;let B:=Iq G F i;cases F with
 |str L=>
  cases B with
  |str J=>
   rename_i x l y m;show#[rfl,λz=>?_,λz=>?_]
   .obtain⟨⟨a⟩⟩:=x;let#[#[b]]:=y;grind
   .cases z;rw[<-L,<-J]
  |_=>show#[rfl,λz=>D.noConfusion z,λz=>V.noConfusion z]
 |_=>cases B<;>first|show⟨rfl,λz=>D.noConfusion z,λz=>V.noConfusion z⟩|show⟨rfl,λz=>by cases z;rfl,λz=>by cases z;rfl⟩|cases i
def Bp(hu:X.A.units+32<cLine):OpR X (compareOp .NotEq) (zZ X.K):=by
 classical
 intro zS s σ H x y v u Q I rx ry h;let#[p,q,r1,r2,hc,hd,hq]:=h;let i:EP X zS σ Q (.bool (!decide (p=q))) s:=#[.bl _,H,I,rfl,hq]
 let h3:X.A.in1.units+30<cLine:=by show X.A.units+1+30<cLine;lia
 rcases Es p with⟨l,rfl⟩|⟨l,rfl⟩|⟨n1,n2⟩
 .obtain⟨m,rfl⟩:=Oz hc;cases r1 with
  |tup e1 q1=>
  cases r2 with
  |tup L Z=>
   rename_i a xs b ys;cases rx;cases ry;let#[G,Y,p1,_]:=I.tuple (bD.of e1);let#[B,U,p2,_]:=I.tuple (bD.of L);let M:aZ l<=30:=by let:aZ l+1<=30:=hd;lia
   let J:G.toArray.size=l.length:=by rw[qq,<-Y.length,q1.len]
   let O:B.toArray.size=m.length:=by rw[qq,<-U.length,Z.len]
   let:=RcNeAt.tuples (A:=X.A) (s:=s) (show s.heap.IsTuple a G.toArray from p1) (show s.heap.IsTuple b B.toArray from p2) ∅ (JL I q1 Z Y U hc M h3);rw[J,O,EA (l:=l) (m:=m) _ rfl]at this;let e:↥(D.tup l=D.tup m)=↥(l=m):=by by_cases h:l=m<;>simp
   rw[e]at i;show this X.prog X.w X.xe _ i
 .obtain⟨m,rfl⟩:=Po hc;cases r1 with
  |lst e1 q1=>
  cases r2 with
  |lst L Z=>
   cases rx;cases ry;let#[G,Y,p1,_]:=I.list e1;let#[B,U,p2,_]:=I.list L;let M:aZ l<=30:=by let:aZ l+1<=30:=hd;lia
   let J:G.toArray.size=l.length:=by rw[qq,<-Y.length,q1.len]
   let O:B.toArray.size=m.length:=by rw[qq,<-U.length,Z.len]
   let e:↥(D.lst l=D.lst m)=↥(l=m):=by by_cases h:l=m<;>simp
   rw[e]at i;by_cases F:l.length=m.length
   .let:=RcNeAt.lists (A:=X.A) (s:=s) p1.isList p2.isList ∅ ∅ (JL I q1 Z Y U hc M h3);rw[J]at this;let L:=EA (l:=l) (m:=m) l.length ∅;let e3:(l.length==m.length)=true:=by simpa using F
    rw[e3,Bool.and_true]at L;rw[<-L]at i;show this X.prog X.w X.xe _ i
   .let:=RcNeAt.lists_lengths (A:=X.A) (s:=s) p1.isList p2.isList (by simp[J,O];simpa using F) ∅;let L:↥(l=m)=false:=qR λz=>F (by rw[z]);rw[L]at i;show this X.prog X.w X.xe _ i
 .obtain⟨h1,h2⟩:=Ou r1 r2 hc n1 n2;rw[decide_eq_decide.mpr h2]at hq;show Mo zS s σ H x y v u Q I rx ry #[h1,hq]
def Bs:dG K (zZ K) eG:=by
 intro H x y p q k Q F B e G;unfold eG at e;cases i:cS p q with
 |none=>rw[i]at e;cases e
 |some b=>rw[i]at e;let I:(!b)=k:=qf e;let#[h1,h2]:=Ih i;let:=Jm i;subst this;subst I;show#[p,q,F,B,h1,h2,G]
def iK(f:Int->Int->Bool)(g:List Nat->List Nat->Bool):R2:=λx y H Q=>(∃i j,x=.int i/\y=.int j/\Q (.bl (f i j)) H)\/∃i j,x=.str i/\y=.str j/\Q (.bl (g i.cps.toList j.cps.toList)) H
def EH{g:List Nat->List Nat->Bool}(rule:∀(i j:Str)(t u:Tok)(s:Shared)(Q:zr)(E:zr),Q (.bool (g i.cps.toList j.cps.toList)) s->wpAny (model X.prog X.w) X.A (compareOp J (.str i t) (.str j u)) Q E s):
  OpR X (compareOp J) (λx y H Q=>∃i j,x=.str i/\y=.str j/\Q (.bl (g i.cps.toList j.cps.toList)) H):=by
 intro zS s σ H x y v u Q I G F h;let#[i,j,rfl,rfl,q]:=h;let#[t,rfl]:=G;let#[B,rfl]:=F;show rule i j t B s _ _ #[.bl _,H,I,rfl,q]
def FQ:OpR X (compareOp .Lt) (iK (λi j=>↥(i<j)) λl m=>↥(l<m)):=FL.OpR.or MI (EH (g:=λl m=>↥(l<m)) λ_ _ _ _ _ _ _ q=>PyProof.Rows.lt_str q)
def Nn:OpR X (compareOp .LtE) (iK (λi j=>↥(i<=j)) λl m=>!decide (m<l)):=FL.OpR.or Mp (EH (g:=λl m=>!decide (m<l)) λ_ _ _ _ _ _ _ q=>PySem.P.le_str q)
def CZ:OpR X (compareOp .Gt) (iK (λi j=>↥(j<i)) λl m=>↥(m<l)):=FL.OpR.or Mc (EH (g:=λl m=>↥(m<l)) λ_ _ _ _ _ _ _ q=>PySem.P.gt_str q)
def Ig:OpR X (compareOp .GtE) (iK (λi j=>↥(j<=i)) λl m=>!decide (l<m)):=FL.OpR.or Mj (EH (g:=λl m=>!decide (l<m)) λ_ _ _ _ _ _ _ q=>PySem.P.ge_str q)
def Fg(h:∀p q k,o p q=⇑k->(∃i j,p=.int i/\q=.int j/\k=f i j)\/∃l m,p=.str l/\q=.str m/\k=g l m):dG K (iK f g) o:=by
 intro H x y p q k Q F B e G;rcases h p q k e with⟨i,j,rfl,rfl,rfl⟩|⟨l,m,rfl,rfl,rfl⟩
 .cases F;cases B;show .inl #[i,j,rfl,rfl,G]
 .cases F with
  |str J M=>cases B with
   |str I L=>subst J I;show .inr #[_,_,rfl,rfl,G]
def Gj:dG K (iK (λi j=>↥(i<j)) λl m=>↥(l<m)) yB:=Fg λp q k e=>by
 unfold yB ff at e;split at e
 .show .inl #[_,_,rfl,rfl,(qf e).symm]
 .show .inr #[_,_,rfl,rfl,(qf e).symm]
 .cases e
def Da:dG K (iK (λi j=>↥(j<i)) λl m=>↥(m<l)) oJ:=Fg λp q k e=>by
 unfold oJ ff at e;split at e
 .show .inl #[_,_,rfl,rfl,(qf e).symm]
 .show .inr #[_,_,rfl,rfl,(qf e).symm]
 .cases e
def PK:dG K (iK (λi j=>↥(i<=j)) λl m=>!decide (m<l)) fj:=Fg λp q k e=>by
 unfold fj at e;split at e
 .show .inl #[_,_,rfl,rfl,(qf e).symm]
 .show .inr #[_,_,rfl,rfl,(qf e).symm]
 .cases e
def IR:dG K (iK (λi j=>↥(j<=i)) λl m=>!decide (l<m)) yC:=Fg λp q k e=>by
 unfold yC at e;split at e
 .show .inl #[_,_,rfl,rfl,(qf e).symm]
 .show .inr #[_,_,rfl,rfl,(qf e).symm]
 .cases e
end
section
open PySem.SeqAt
open Classical in
def vE(K:W.Frag)(neg:Bool):R2:=λx y H Q=>∃p l,aP K H x p/\(aP K H y (.lst l)\/aP K H y (.tup l))/\(∀d∈l,aT d p=false/\fC d<=30)/\Q (.bl (if neg then !decide (p∈l)else ↥(p∈l))) H
def EX(I:Inv X zS σ H s)(rx:zH x v)(r1:aP X.K H x p)(q1:zQ X.K H xs l)(Z:zP xs us)(hc:∀d∈l,aT d p=false/\fC d<=30)(hu:A.units+30<cLine):
  ∃e:Value->Bool,(∀y,y∈us.toArray->EqAt A s y v (e y))/\us.toArray.any e=(open Classical in ↥(p∈l)):=by
 classical
 have item:∀{y:Value},y∈us->∃z d,zH z y/\aP X.K H z d/\d∈l:=λ{y} O=>by
  let#[j,hj,e]:=List.getElem_of_mem O;let#[z,hz,G]:=CN (j:=j) Z hj;let hl:j<l.length:=by rw[<-q1.len,Z.length];show hj
  let#[U,M,B]:=q1.get (i:=j) (d:=l[j]) (by simp);rw[hz]at M;cases M;show#[z,l[j],?_,B,by simp];let:us.toArray[j]=y:=e;rw[<-this];show G
 show#[λy=>↥(∃z,zH z y/\aP X.K H z p),λy O=>?_,?_]
 .have h1:y∈us:=by simpa using O
  obtain⟨z,d,G,B,Y⟩:=item h1;let L:=hc d Y;let:=(Fy 30 (A:=A) L.2 I B r1 G rx L.1 hu).1;let e:↥(d=p)=↥(∃z,zH z y/\aP X.K H z p):=by
   by_cases h:d=p
   .subst h;rw[qQ rfl,qQ #[z,G,B]]
   .rw[qR h];show(qR ?_).symm;rintro⟨U,F,J⟩;let:z=U:=G.inj F;subst this;show h (aP.uniq I B J L.1)
  show EqAt A s y v ↥(∃z,zH z y/\aP X.K H z p);rw[<-e];show this
 .by_cases h:p∈l
  .rw[qQ h];let#[j,hj,e]:=List.getElem_of_mem h;let#[z,hz,B]:=q1.get (i:=j) (d:=l[j]) (by simp);let#[u,h2,ru]:=Z.get hz;rw[Array.any_eq_true'];show#[u,by simpa using qL h2,qQ #[z,ru,e▸B]]
  .rw[qR h];rw[Array.any_eq_false'];intro y O z;let#[U,F,J]:=qT z;let#[z2,d,G,B,Y]:=item (y:=y) ↑O;let:z2=U:=G.inj F;subst this;show h (aP.uniq I B J (hc d Y).1▸Y)
def Nj(hu:X.A.units+32<cLine):OpR X (compareOp .In) (vE X.K false):=by
 intro zS s σ H x y v u Q I U O h;let#[p,l,Y,i,hc,Z]:=h;let F:X.A.in1.units+30<cLine:=by show X.A.units+1+30<cLine;lia
 rcases i with i|i
 .cases i with
  |lst e q=>cases O;let#[B,G,J,_]:=I.list e;let#[f,L,M]:=EX (A:=X.A.in1) I U Y q G hc F;show in_listAt f J.isList L #[.bl _,H,I,rfl,by rw[M];show Z]
 .cases i with
  |tup e q=>cases O;let#[B,G,J,_]:=I.tuple (bD.of e);let#[f,L,M]:=EX (A:=X.A.in1) I U Y q G hc F;show in_tupleAt f (show s.heap.IsTuple _ B.toArray from J) L #[.bl _,H,I,rfl,by rw[M];show Z]
def RT(hu:X.A.units+32<cLine):OpR X (compareOp .NotIn) (vE X.K true):=by
 intro zS s σ H x y v u Q I U O h;let#[p,l,Y,i,hc,Z]:=h;let F:X.A.in1.units+30<cLine:=by show X.A.units+1+30<cLine;lia
 rcases i with i|i
 .cases i with
  |lst e q=>cases O;let#[B,G,J,_]:=I.list e;let#[f,L,M]:=EX (A:=X.A.in1) I U Y q G hc F;show notIn_listAt f J.isList L #[.bl _,H,I,rfl,by rw[M];show Z]
 .cases i with
  |tup e q=>cases O;let#[B,G,J,_]:=I.tuple (bD.of e);let#[f,L,M]:=EX (A:=X.A.in1) I U Y q G hc F;show notIn_tupleAt f (show s.heap.IsTuple _ B.toArray from J) L #[.bl _,H,I,rfl,by rw[M];show Z]
end
section
variable{K:W.Frag}
def FJ(F:xs.length=l.length)(h:atI l i=⇑d):∃j,ixN l.length i=⇑j/\l[j]?=⇑d/\∀x,xs[j]?=⇑x->L2.atI xs i=⇑x:=by
 unfold atI at h;cases q:ixN l.length i with
 |none=>rw[q]at h;cases h
 |some j=>
  rw[q]at h;show#[j,rfl,h,λx B=>?_];let e:L2.ixN xs.length i=⇑j:=by rw[F];show q
  unfold L2.atI;rw[e];show B
def zQ.atI(r:zQ K F xs l)(h:FL.atI l i=⇑d):∃x,L2.atI xs i=⇑x/\aP K F x d:=by let#[j,_,h1,h2]:=FJ (xs:=xs) r.len h;let#[x,G,B]:=r.get h1;show#[x,h2 x G,B]
def zG.get{j:Nat}(r:zG K F H xs l fp)(h:l[j]?=⇑t):∃x G i B,xs[j]?=⇑x/\aN K F H x t i/\fp=G++(i++B):=
 zG.ind (P:=λxs l fp=>∀j t,l[j]?=⇑t->∃x G i B,xs[j]?=⇑x/\aN K F H x t i/\fp=G++(i++B)) (λ_ _ e=>by cases e) (λa _ I j t e=>by
  cases j with
  |zero=>cases e;show#[_,[],_,_,rfl,a,rfl]
  |succ j=>let#[x,G,i,B,h1,h2,rfl]:=I j t e;show#[x,_++G,i,B,h1,h2,(qo ..).symm]) r j t h
def Rel.item{j:Nat}(r:Rel K (ρ++[⇑(.lst l)]) (σ++[⇑(.ref a)]) F G H)(h:l[j]?=⇑t):∃xs x,H a=⇑(.lst xs)/\xs.length=l.length/\xs[j]?=⇑x/\Rel K (ρ++[⇑t]) (σ++[⇑x]) F G H:=by
 let#[fp,e,O,ap]:=r.en;let#[B,f2,rfl,Z,b]:=e.cut (Af r);cases b with
 |so L M=>
  cases M;cases L with
  |lst Y rl=>
   rename_i xs fl;let#[x,J,i,I,h1,h2,rfl]:=rl.get h;show#[xs,x,Y,rl.len,h1,r.fr,r.gr,B++(i++[]),Z.app (.so h2 .nil),?_,λy U=>ap y ?_]
   .let sub:List.Sublist (B++(i++[])) (B++(a::(J++(i++I))++[])):=by show List.Sublist.append (List.Sublist.refl _) ?_;simp;exact(List.Sublist.cons _ ((List.sublist_append_left i I).trans (List.sublist_append_right J _)))
    show sub.nodup O
   .rcases qx.mp U with z|z
    .show qj _ z
    .show qi _ ?_;simp only[qz]at z⊢;show qk _ (qi _ (qj _ z))
end
def OR{K:W.Frag}(e:bD K H c xs)(r:zQ K F xs l)(h:atI l i=⇑d)(I:∀x,aP K F x d->Q x H):eh K (.ref c) (.int i) H Q:=by let#[x,G,B]:=r.atI h;show .inr (.inl #[c,xs,i,x,rfl,rfl,e,G,I x B])
def PC{K:W.Frag}(e:bJ K H c xs)(r:zQ K F xs l)(h:atI l i=⇑d)(I:∀x,aP K F x d->Q x H):eh K (.ref c) (.int i) H Q:=by let#[x,G,B]:=r.atI h;show .inl #[c,xs,i,x,rfl,rfl,e,G,I x B]
def Pw(h:kO s q=⇑t):(∃l i d,s=.sh (.tup l)/\q=.int i/\atI l i=⇑d/\t=.sh d)\/(∃l i d,s=.sh (.lst l)/\q=.int i/\atI l i=⇑d/\t=.sh d)\/
  (∃l i c,s=.sh (.str l)/\q=.int i/\atI l i=⇑c/\t=.sh (.str [c]))\/∃l i,s=.lst l/\q=.int i/\atI l i=⇑t:=by
 show cps λ_ kk=>?_;rcases s with d|l|_|_
 .rcases d with _|_|_|l|l|l|_|_|_;case str|tup|lst=>
   rcases q with _|_|i|_|_|_|_|_|_;case int=>let#[d,e,e']:=qX.mp h;first|show kk (.inl ⟨_,_,d,rfl,rfl,e,e'.symm⟩)|show kk (.inr (.inl ⟨_,_,d,rfl,rfl,e,e'.symm⟩))|show kk (.inr (.inr (.inl ⟨_,_,d,rfl,rfl,e,e'.symm⟩)))
   all_goals cases h
  all_goals cases h
 .rcases q with _|_|i|_|_|_|_|_|_;case int=>exact kk (.inr (.inr (.inr #[_,_,rfl,rfl,h])))
  all_goals cases h
 all_goals cases h
def Gp{K:W.Frag}(h:aN K F H v (.sh d) fp):aP K F v d:=by cases h;assumption
def Ki{K:W.Frag}(h:aN K F H v (.lst l) fp):∃a xs fq,v=.ref a/\H a=⇑(.lst xs)/\zG K F H xs l fq:=by
 cases h with
 |lst h1 h2=>show#[_,_,_,rfl,h1,h2]
def IG{K:W.Frag}(fr:zy F H)(r:aP K F v d)(I:aP K F2 u q)(M:kO (.sh d) q=⇑t)(done:∀e x,t=.sh e->aP K F x e->Q x H):eh K v u H Q:=by
 rcases Pw M with⟨l,i,e,B,rfl,L,rfl⟩|⟨l,i,e,B,rfl,L,rfl⟩|⟨l,i,c,B,rfl,O,rfl⟩|⟨l,i,B,_⟩
 .injection B with B
  subst B;obtain rfl:=bH.int (H:=H) (.inl I);let#[a,xs,rfl,h1,J]:=bH.tup (H:=H) (.inl r);show OR (bD.of (fr _ _ h1)) J L λx G=>done _ x rfl G
 .injection B with B
  subst B;obtain rfl:=bH.int (H:=H) (.inl I);let#[a,xs,rfl,h1,J]:=bH.lst (H:=H) fr (.inl r);show PC h1 J L λx G=>done _ x rfl G
 .injection B with B
  subst B;obtain rfl:=bH.int (H:=H) (.inl I);let#[x,rfl,h1,z]:=bH.str (H:=H) (.inl r);show .inr (.inr #[_,i,c,rfl,rfl,by rw[Cj h1];show z,by rw[h1];show O,done _ _ rfl (.str rfl (by show 1<=_;decide))])
 .cases B
def Jo(h:kO (.lst l) q=⇑t):∃i,q=.int i/\atI l i=⇑t:=by
 cases q with
 |int i=>show#[i,rfl,h]
 |_=>cases h
def Aq(ha:FE X a wa)(hb:FE X b wb)(hs:eY b:=by intro _ _;rfl):FE X (.Subscript a b pos) (bK wa wb):=λpn xe hp=>by
 refine PE.imp (Ey (Ie (X:=wp X pn xe)) (ha pn xe hp) (hb pn xe hp) hs) λσ H Q q=>?_;refine(Cp (k:=λx y ρ2 Q E=>zx (view y ρ2) λq=>match x with
  |.v s=>zx (kO s q) λt=>Q (.v t) ρ2
  |.loc i=>match slot ρ2 i with
   |some s=>match kO s q with
    |some (.sh d)=>Q (.v (.sh d)) ρ2
    |_=>False
   |none=>False) q).mono λv H1 h1=>h1.mono λu H2 h2=>?_
 let#[F,G,ρ,x,y,P,PX,h3,M,Y,ry,I,h4,hx]:=h2;let#[q,eq,I]:=Ag I;let B:Rel X.K (ρ++[zz x]) (σ++[⇑v]) F G H2:=by let:=Rel.swap (ρ1:=[zz x]) (σ1:=[⇑v]) (ρ2:=[zz y]) (σ2:=[⇑u]) M rfl h3;show Rel.mid (ρ:=ρ) (σ:=σ) this M
 let Z:Rel X.K (ρ++[zz y]) (σ++[⇑u]) F G H2:=h3.mid M;let ru:=look (ρ':=[]) (σ':=[]) Z M ry eq;let done:∀{d:D}{x:V},P (.v (.sh d)) ρ->aP X.K F x d->Q x H2:=λhP r=>h4 _ ρ _ F H2 hP (zy.refl F) ((B.drop M).push r) trivial;cases x with
 |v s=>
  let#[t,J,hP]:=Ag I;let#[w,fp,e1,U]:=B.at (i:=ρ.length) (s:=s) CL;rw[M,getElem?_append_right (q8 _)]at e1;let e2:v=w:=↑e1
  subst e2;cases s with
  |sh d=>show IG B.fr (Gp U) ru J λe x z Y=>done (by rw[<-z];show hP) Y
  |lst l=>let#[i,rfl,J]:=Jo J;obtain rfl:=bH.int (H:=H2) (.inl ru);let#[a,ys,fq,rfl,hD,rl]:=Ki U;let#[j,_,hj,O]:=FJ rl.len J;let#[xs,x,h5,h7,L,r2]:=Rel.item B hj;rw[hD]at h5;cases h5;show .inl #[_,_,i,x,rfl,rfl,bJ.of hD,O x L,h4 _ ρ _ F H2 hP (zy.refl F) r2 trivial]
  |_=>cases q<;>cases J
 |loc k=>
  dsimp only at I;cases qs:slot ρ k with
  |none=>rw[qs]at I;show I.elim
  |some s=>
   rw[qs]at I;dsimp only at I;split at I
   .rename_i d J;let#[w,fp,e1,U]:=(B.drop M).at qs;let h6:σ[k]?=⇑⇑v:=Y;rw[h6]at e1;let e2:v=w:=by simpa using e1
    subst e2;cases s with
    |sh d'=>show IG B.fr (Gp U) ru J λe x z Y=>done (by injection z with z;rw[<-z];show I) Y
    |lst l=>let#[i,rfl,J]:=Jo J;obtain rfl:=bH.int (H:=H2) (.inl ru);let#[a,ys,fq,rfl,hD,rl]:=Ki U;let#[j,_,hj,O]:=FJ rl.len J;let#[x,fa,fi,fb,L,sx,_]:=rl.get hj;show .inl #[_,_,i,x,rfl,rfl,bJ.of hD,O x L,done I (Gp sx)]
    |_=>cases q<;>cases J
   .show I.elim
section
variable{K:W.Frag}{σ:St}
def zG.set:∀{xs:List V}{l:List S}{fp:List Addr}{m:Nat},zG K F H xs l fp->m<l.length->∃G J B,fp=G++(J++B)/\
  ∀{H':Hp}{v:V}{s:S}{fq:List Addr},(∀a∈G++B,H' a=H a)->aN K F H' v s fq->zG K F H' (xs.set m v) (l.set m s) (G++(fq++B))
 |_,_,_,_,.nil,h=>by simp at h
 |_,_,_,0,.cons (fp:=fp) (fq:=fq) a b,h=>#[[],fp,fq,rfl,λI r=>by rw[nil_append];show .cons r (b.mono (zy.refl F) λc i=>I c i)]
 |_,_,_,m+1,.cons (fp:=fp) (fq:=fq) a b,h=>by let#[G,J,B,rfl,L]:=zG.set (m:=m) b ↑h;show#[fp++G,J,B,(qo ..).symm,λI r=>?_];rw[qo];show .cons (a.mono (zy.refl F) λc i=>I c (qj _ (qj _ i))) (L (λc i=>I c ((qx.mp i).elim (λz=>qj _ (qi _ z)) λz=>qi _ z)) r)
def GR(h:σ[n]?=⇑⇑v):σ.set n ⇑v=σ:=by
 apply ext_getElem?;intro j;by_cases i:n=j
 .subst i;rw[getElem?_set_self (qg.mp h).1,h]
 .rw[getElem?_set_ne i]
def Rel.setItem{D:Addr}(r:Rel K (ρ++[⇑s]) (σ++[⇑v]) F G H)(hs:slot ρ n=⇑(.lst l))(I:σ[n]?=⇑⇑(.ref D))(hm:m<l.length):
  ∃xs,H D=⇑(.lst xs)/\xs.length=l.length/\Rel K (ρ.set n ⇑(.lst (l.set m s))) σ F G (upd H D (.lst (xs.set m v))):=by
 let hl:=Af r;let#[fp,e,nd,ap]:=r.en;let#[f1,f2,rfl,a,b]:=e.cut hl;let#[v',U,fi,O,e1,rfl,q,up]:=a.at hs;rw[I]at e1;let e2:V.ref D=v':=↑e1
 subst e2;cases q with
 |lst hD rl=>
  rename_i xs fl;cases b with
  |so sr nl=>
   cases nl;rename_i fs;let#[L,gi,J,rfl,Y]:=rl.set hm;show#[xs,hD,rl.len,?_];let#[n1,n2,h1]:=qw.mp nd;let#[na,i,Z]:=qw.mp n1;let#[ni,nb,i]:=qw.mp i;let#[nD,h6]:=qK.mp ni;let h5:D∉U:=λz=>Z D z D (qj _ qm) rfl;let h4:D∉O:=λz=>i D qm D z rfl;let h2:D∉fs:=λz=>h1 D (qi _ (qj _ qm)) D ↑z rfl;let M:=ap D (qj _ (qi _ (qj _ qm)));let ne:∀{l:List Addr},D∉l->∀x∈l,upd H D (.lst (xs.set m v)) x=H x:=λh x B=>Aj λz=>h (z▸B);let h3:D∉L++J:=λz=>nD ((qx.mp z).elim (λw=>qj _ w) λw=>qi _ (qi _ w));let new:aN K F (upd H D (.lst (xs.set m v))) (.ref D) (.lst (l.set m s)) (D::(L++(fs++J))):=.lst AB (Y (ne h3) (sr.mono (zy.refl F) (ne h2)));let a2:=up (F':=F) (H':=upd H D (.lst (xs.set m v))) (o:=⇑(.lst (l.set m s))) (u:=⇑(.ref D)) (zy.refl F) (λx B=>Aj λz=>(qx.mp B).elim (λw=>h5 (z▸w)) λw=>h4 (z▸w)) (.so new .nil);rw[GR I]at a2;let sub:∃l2,l2.Perm (U++((D::(L++(gi++J)))++O)++(fs++[]))/\List.Sublist (U++((D::(L++(fs++J)))++[]++O)) l2:=by
    show#[U++((D::(L++(fs++(gi++J))))++[]++O),?_,?_]
    .simp;show List.Perm.append_left _ (List.Perm.cons _ (List.Perm.append_left _ ?_));show qM.trans (by simp)
    simp_all
   let#[l2,p,sb]:=sub;show#[zy.updR r.fr M.1,λx o w=>?_,_,a2,sb.nodup (p.nodup_iff.mpr nd),λx B=>ap x (p.mem_iff.mp (sb.subset B))];let B:x≠D:=λz=>by rw[z,M.2]at w;cases w
   rw[Aj B];show r.gr x o w
end
theorem JT(ho:FE X o (zt j))(hi:FE X i wi)(he:FE X e we)(hs:autoParam (swapsWithSole [.Subscript o i tpos] e pos.line X.env=pure false) rZ9)(hw:autoParam (swappedStores [.Subscript o i tpos] e X.env=pure none) rZ9)
  (h1:autoParam ((assignEach [.Subscript o i tpos] X.env).map (·.2)=[assign (.Subscript o i tpos) X.env]) rZ9)
  (ha:∀v,assign (.Subscript o i tpos) X.env v=(do
   let ov<-holding [v] (eval o X.env)
   let iv<-holding [v,ov] (eval i X.env)
   standAt tpos
   holding [v,ov,iv] (setItem ov iv v)
   release [v,ov,iv] []):=by intro _;rfl):FS X ks (.Assign [.Subscript o i tpos] e pos) (gF j wi we):=λpn xe hp=>by
 show PS.imp (IB (X:=wp X pn xe) (he pn xe hp) (MA (X:=wp X pn xe) (ho pn xe hp) (hi pn xe hp) QS ha) hs hw h1) λD σ H q=>?_;let#[F,G,ρ,E,zU,hw,n,b,c,r,x]:=q;let x0:XC (wp X pn xe) (·=σ) F G E.ex:=x.mono (λσ2 z=>by rw[z];show KP.refl) (zy.refl F) (zy.refl G);show#[F,G,ρ,_,_,zU,hw,λr ρ1 v F1 H1 hk s1 r1 rv=>?_,x0];let l1:=Af r1;let#[G1,rel1,gg,back]:=r1.hide l1;show#[F1,G1,ρ1,_,_,rel1,hk,λy ρ2 o' F2 H2 hk2 s2 r2 rv2=>?_,x0.mono (λ_ z=>z) s1 gg];let l2:=Af r2;let#[G2,rel2,gg2,back2]:=r2.hide l2;show#[F2,G2,ρ2,_,_,rel2,hk2,λz ρ3 i' F3 H3 hk3 s3 r3 rv3=>?_,x0.mono (λ_ z=>z) (s1.trans s2) (gg.trans gg2)];let l3:=Af r3;let#[q,eq,hk3]:=Ag hk3;let#[#[t,ρ4],eg,hk4]:=Ag hk3
 --all three stand at the end
 let r4:=back (s2.trans s3) (back2 s3 r3);simp only[qo,qN,nil_append]at r4;let ri:=look (ρ':=[zz y,zz r]) (σ':=[⇑o',⇑v]) r4 l3 rv3 eq;let r5:Rel X.K (ρ3++[zz r]) (σ++[⇑v]) F3 G H3:=Rel.mid (ρ:=ρ3) (σ:=σ) (Rel.mid (ρ:=ρ3) (σ:=σ) r4 l3) l3;let#[F4,s4,l4,r6]:=As (ρ':=[]) (σ':=[]) r5 l3 rv eg;cases y with
 |v y0=>show hk4.elim
 |loc k=>
  cases q with
  |int m=>
   cases qs:slot ρ4 j with
   |none=>simp only[qs]at hk4
   |some sj=>
    cases sj with
    |lst l=>
     simp only[qs]at hk4;let#[rfl,hk4]:=hk4;let#[w,ew,hnx]:=Ag hk4;let hσ:σ[k]?=⇑⇑o':=rv2;let#[v',fp,e1,sr]:=r6.at (i:=k) (s:=.lst l) (by rw[DU (De qs)];show qs);let hkl:k<σ.length:=(qg.mp hσ).1;rw[getElem?_append_left hkl,hσ]at e1;let e2:o'=v':=↑e1
     subst e2;let hw:w<l.length:=by
      unfold ixN at ew;split at ew
      .split at ew
       .let e:=qf ew;lia
       .cases ew
      .split at ew
       .let e:=qf ew;lia
       .cases ew
     cases sr with
     |lst hD rl=>rename_i a xs fl;let#[xs',hD',zV,r7]:=Rel.setItem r6 qs hσ hw;rw[hD]at hD';cases hD';cases ri;show#[a,xs,m,w,rfl,rfl,hD,by rw[zV];show ew,n _ σ F4 _ hnx KP.refl (s1.trans (s2.trans (s3.trans s4))) r7]
    |_=>simp[qs]at hk4
  |_=>show hk4.elim
def Ck(ho:FE X o (zt j))(he:FE X e we)
  (O:autoParam (attributeBase o "append" X.env (eval o X.env)=eval o X.env) rZ9)
  (h1:autoParam (((backTo cpos (starEach [e] X.env)).all (λx=>!x.1)&&(backToKw cpos (keywordEach [] X.env)).all (λx=>x.1.isSome)
   &&↥([e].length+([]:List Keyword).length+(if([]:List Keyword).isEmpty then 0 else 1)<30))=true) rZ9)
  (M:autoParam ((apos.endLine==cpos.line)=true) rZ9)(hs:autoParam (starEach [e] X.env=[(false,eval e X.env)]) rZ9):FE X (.Call (.Attribute o "append" apos) [e] [] cpos) (bC j we):=λpn xe hp=>by
 refine PE.imp (Dt (X:=wp X pn xe) PySem.F.plainAttrs_list PySem.F.slot_list_append PySem.F.type_list_append GJ (ho pn xe hp) (Aa he Ab hs pn xe hp) O h1 M hs rfl) λσ H Q q=>?_;let#[F,G,ρ,P,PX,h2,hw,h3,hx]:=q;let I:(match slot ρ j with
  |some (.lst _)=>we ρ (λr J=>zx (give r J) λp=>(match slot p.2 j with
   |some (.lst l)=>l.length<big/\P (.v (.sh .non)) (p.2.set j ⇑(.lst (l++[p.1])))
   |_=>False)) PX
  |_=>False):=hw
 cases U:slot ρ j with
 |none=>rw[U]at I;show I.elim
 |some s0=>
  cases s0 with
  |lst l0=>
   rw[U]at I;show#[F,G,ρ,λy L=>y=.loc j/\L=ρ,PX,h2,by unfold zt;rw[U];show#[rfl,rfl],λy L o' F1 H1 B s1 r1 rv=>?_,hx];let#[rfl,rfl]:=B;let l1:=Af r1;let Y:σ[j]?=⇑⇑o':=rv;let r2:=r1.drop l1;let#[v',fp,e1,sr]:=r2.at U;rw[Y]at e1;let e2:o'=v':=↑e1
   subst e2;cases sr with
   |lst hD rl=>
    rename_i a xs fl;show#[.inl #[rfl,_,bJ.of hD],F1,G,L,λrs J=>match rs with|[r]=>(zx (give r J) λp=>match slot p.2 j with|some (.lst l)=>l.length<big/\P (.v (.sh .non)) (p.2.set j ⇑(.lst (l++[p.1])))|_=>False)|_=>False,PX,r2,I,λrs J vs F2 H2 B s2 r3 hl i=>?_,hx.grow s1];match rs,vs,i,r3,B with
    |[r],[v],i,r3,B=>
     let#[#[t,h5],eg,B]:=Ag B;let#[F3,s3,l3,r4]:=As (ρ':=[]) (σ':=[]) r3 hl i.1 eg;split at B
     .rename_i l ql;let#[ys,h4,Z,r5]:=Rel.append r4 ql Y;show#[a,ys,v,rfl,rfl,h4,by rw[Z];show lt_trans B.1 ⋯,h3 _ _ .non F3 _ B.2 (s1.trans (s2.trans s3)) (r5.push .non) trivial]
     .show B.elim
    |[],_,_,_,B=>show B.elim
    |[_],[],i,_,_=>show i.elim
    |[_],_::_::_,i,_,_=>show i.2.elim
    |_::_::_,_,_,_,B=>show B.elim
  |_=>rw[U]at I;show I.elim
section
variable{K:W.Frag}
def jL(K:W.Frag)(F H:Hp):List V->List D->Prop
 |[],[]=>True
 |v::vs,d::ds=>bH K F H v d/\jL K F H vs ds
 |_,_=>False
def AE{b:List D->Option S}(h2:∀x y r,b (x::y::r)=none)(B:b []=none)(i:jL K F H vs ds)(e:b ds=⇑s):∃d v,ds=[d]/\vs=[v]:=by
 cases ds with
 |nil=>rw[B]at e;cases e
 |cons x ds=>
  cases ds with
  |cons y r=>rw[h2]at e;cases e
  |nil=>
   cases vs with
   |nil=>show i.elim
   |cons v vs=>
    cases vs with
    |nil=>show#[x,v,rfl,rfl]
    |cons u vs=>show i.2.elim
def AF:∀{rs:List R}{vs:List V}{ds:List D}{ρ ρ':Env}{F:Hp}{σ':St},Rel K (ρ++(rs.map zz++ρ')) (σ++(vs.map some++σ')) F G H->ρ.length=σ.length->oX σ vs rs->(rs.mapM λr=>zO r ρ)=⇑ds->
  ∃F',zy F F'/\jL K F' H vs ds/\Rel K (ρ++ρ') (σ++σ') F' G H
 |[],[],ds,ρ,ρ',F,σ',r,h,_,e=>by
  let B:ds=[]:=↑e.symm
  subst B;show#[F,zy.refl F,trivial,r]
 |[],_::_,_,_,_,_,_,_,_,h,_=>h.elim
 |_::_,[],_,_,_,_,_,_,_,h,_=>h.elim
 |x::rs,v::vs,ds,ρ,ρ',F,σ',r,h,rv,e=>by
  rw[List.mapM_cons]at e;cases q:zO x ρ with
  |none=>rw[q]at e;cases e
  |some d=>
   rw[q]at e;cases i:(rs.mapM λr=>zO r ρ)with
   |none=>rw[i]at e;cases e
   |some es=>rw[i]at e;let B:d::es=ds:=qf e;subst B;let#[Y,J,L,O]:=AG (ρ':=rs.map zz++ρ') (σ':=vs.map some++σ') r h rv.1 q;let#[U,I,res,M]:=AF (rs:=rs) (vs:=vs) O h rv.2 i;show#[U,J.trans I,#[L.mono I,res],M]
def cP(K:W.Frag)(r:List V->Hp->VK->Prop)(f:List D->Option S):Prop:=∀(σ:St)(ρ:Env)(F G H:Hp)(vs:List V)(ds:List D)(s:S)(Q:VK),Rel K ρ σ F G H->jL K F H vs ds->f ds=⇑s->
 (∀v F' H',zy F F'->Rel K (ρ++[⇑s]) (σ++[⇑v]) F' G H'->Q v H')->r vs H Q
end
section
variable{id T:String}
def JX(hd:cP X.K r f)(σ:St)(H:Hp)(Q:VK)(q:tW (wp X pn xe) (wB f wa) σ H Q):ij r (uH (wp X pn xe) wa) σ H Q:=by show(many (k:=λM i Q E=>zx (M.mapM λr=>zO r i) λL=>zx (f L) λs=>Q (.v s) i) q).mono λvs H1 h1=>?_;let#[F,G,ρ,M,P,PX,I,hl,Y,B,J,hx]:=h1;let#[L,ed,B]:=Ag B;let#[s,es,B]:=Ag B;let#[F1,U,Z,r1]:=AF (ρ':=[]) (σ':=[]) ↑I hl Y ed;show hd σ ρ F1 G H1 vs L s Q ↑r1 Z es λv F' H' O r'=>J _ ρ v F' H' B (U.trans O) r' trivial
def DV(O:∀pn xe,aW (wp X pn xe) (.builtin id) r)(M:cP X.K r f)(J:Gl X x)(I:X.mg x=none)(F:bootBuiltins x=⇑(.builtin id))(U:FA X (e::es) wa)(hn:autoParam (x≠"__name__") dZ9)(B:autoParam ((x==("__debug__":Str))=false) dZ9)
  (L:autoParam (starEach (e::es) X.env=(false,eval e X.env)::starEach es X.env) rZ9)(i:autoParam ((backTo pos (starEach es X.env)).any (·.1)=false) rZ9):FE X (.Call (.Name x p) (e::es) [] pos) (wB f wa):=λpn xe G=>
 PE.imp (Qy (X:=wp X pn xe) (O pn xe) J I F (U pn xe G) hn B L i) (JX M)
def GN(O:∀pn xe,aW (wp X pn xe) (.type T) r)(M:cP X.K r f)(J:Gl X x)(I:X.mg x=none)(F:bootBuiltins x=⇑(.type T))(U:FA X (e::es) wa)(hn:autoParam (x≠"__name__") dZ9)(B:autoParam ((x==("__debug__":Str))=false) dZ9)
  (L:autoParam (starEach (e::es) X.env=(false,eval e X.env)::starEach es X.env) rZ9)(i:autoParam ((backTo pos (starEach es X.env)).any (·.1)=false) rZ9):FE X (.Call (.Name x p) (e::es) [] pos) (wB f wa):=λpn xe G=>
 PE.imp (KQ (X:=wp X pn xe) (O pn xe) J I F (U pn xe G) hn B L i) (JX M)
def aa(K:W.Frag):List V->Hp->VK->Prop:=λxs H Q=>(∃p ys,xs=[.ref p]/\(bJ K H p ys\/bD K H p ys)/\Q (.int ys.length) H)\/∃z,xs=[.str z]/\z.length<=sizeLine/\Q (.int z.length) H
def aW.or'{f:Value}(h:aW X f r)(h':aW X f F):aW X f (λx H Q=>r x H Q\/F x H Q):=λzS s σ H xs i Q I B q=>q.elim (h zS s σ H xs i Q I B) (h' zS s σ H xs i Q I B)
def RN:aW X (.builtin "len") (aa X.K):=aW.or' Vq Vn
def QG{K:W.Frag}:cP K (aa K) aQ:=by
 intro σ ρ F G H vs M s Q i B e J;let#[d,v,rfl,rfl]:=AE (λx y r=>by cases x<;>rfl) rfl B e;cases d with
 |str l=>cases e;let#[x,rfl,L,z]:=B.1.str;show .inr #[x,rfl,by rw[Cj L];show z,by rw[Cj L];show J _ F H (zy.refl F) (i.push (.int _))]
 |tup l=>cases e;let#[a,xs,rfl,h1,I]:=B.1.tup;show .inl #[a,xs,rfl,.inr (bD.of (i.fr _ _ h1)),by rw[I.len];show J _ F H (zy.refl F) (i.push (.int _))]
 |lst l=>cases e;let#[a,xs,rfl,h1,I]:=B.1.lst i.fr;show .inl #[a,xs,rfl,.inl h1,by rw[I.len];show J _ F H (zy.refl F) (i.push (.int _))]
 |_=>cases e
def Ax(F:Gl X "len")(B:X.mg "len"=none)(I:FA X (e::es) wa)(G:autoParam (starEach (e::es) X.env=(false,eval e X.env)::starEach es X.env) rZ9)(i:autoParam ((backTo pos (starEach es X.env)).any (·.1)=false) rZ9):FE X (.Call (.Name "len" p) (e::es) [] pos) (wB aQ wa):=
 DV (λ_ _=>RN) QG F B PySem.boot_len I ⋯ ⋯ G i
end
section
variable{K:W.Frag}
def jg:List V->Hp->VK->Prop:=λxs H Q=>(∃i,xs=[.int i]/\Q (.int i) H)\/∃k,xs=[.bl k]/\Q (.int (if k then 1 else 0)) H
def bH.bl(h:bH K F H v (.bl b)):v=.bl b:=by
 rcases h with h|⟨_,_,_,_,h,_⟩|⟨_,_,_,_,_,h,_⟩|⟨_,_,_,_,_,h,_⟩
 .cases h;rfl
 .cases h
 .cases h
 .cases h
def SI:cP K jg gA:=by
 intro σ ρ F G H vs L s Q B I e J;let#[d,v,rfl,rfl]:=AE (λx y r=>by cases x<;>rfl) rfl I e;cases d with
 |int i=>cases e;let:=I.1.int;subst this;show .inl #[i,rfl,J _ F H (zy.refl F) (B.push (.int _))]
 |bl b=>cases e;let:=I.1.bl;subst this;show .inr #[b,rfl,J _ F H (zy.refl F) (B.push (.int _))]
 |_=>cases e
def BW(G:Gl X "int")(F:X.mg "int"=none)(B:bootBuiltins "int"=⇑(.type "int"))(J:FA X (e::es) wa)(I:autoParam (starEach (e::es) X.env=(false,eval e X.env)::starEach es X.env) rZ9)(i:autoParam ((backTo pos (starEach es X.env)).any (·.1)=false) rZ9):FE X (.Call (.Name "int" p) (e::es) [] pos) (wB gA wa):=
 GN (λ_ _=>SW) SI G F B J ⋯ ⋯ I i
def uY(K:W.Frag):List V->Hp->VK->Prop:=λxs H Q=>∃p ys,xs=[.ref p]/\((bJ K H p ys/\∀l,H l=none->Q (.ref l) (upd H l (.tup ys)))\/(bD K H p ys/\Q (.ref p) H))
def TV:cP K (uY K) cH:=by
 intro σ ρ F G H vs O s Q i B e L;let#[d,v,rfl,rfl]:=AE (λx y r=>by cases x<;>rfl) rfl B e;cases d with
 |tup l=>cases e;let#[a,xs,rfl,h1,I]:=B.1.tup;show#[a,xs,rfl,.inr #[bD.of (i.fr _ _ h1),L _ F H (zy.refl F) (i.push (.tup h1 I))]]
 |lst l=>cases e;let#[a,xs,rfl,h1,I]:=B.1.lst i.fr;show#[a,xs,rfl,.inl #[h1,λp M=>?_]];let J:=(i.free M).1;show L _ _ _ (zy.upd J) ((i.newF M).push (.tup AB (I.mono (zy.upd J))))
 |_=>cases e
def Df(G:Gl X "tuple")(F:X.mg "tuple"=none)(B:bootBuiltins "tuple"=⇑(.type "tuple"))(J:FA X (e::es) wa)(I:autoParam (starEach (e::es) X.env=(false,eval e X.env)::starEach es X.env) rZ9)(i:autoParam ((backTo pos (starEach es X.env)).any (·.1)=false) rZ9):FE X (.Call (.Name "tuple" p) (e::es) [] pos) (wB cH wa):=
 GN (λ_ _=>Vk) TV G F B J ⋯ ⋯ I i
def sT(K:W.Frag):List V->Hp->VK->Prop:=λxs H Q=>∃p ys,xs=[.ref p]/\(bJ K H p ys\/bD K H p ys)/\∀l,H l=none->Q (.ref l) (upd H l (.lst ys))
def KG:cP K (sT K) cf:=by
 intro σ ρ F G H vs M s Q i B e L;let#[d,v,rfl,rfl]:=AE (λx y r=>by cases x<;>rfl) rfl B e;cases d with
 |tup l=>cases e;let#[a,xs,rfl,h1,I]:=B.1.tup;show#[a,xs,rfl,.inr (bD.of (i.fr _ _ h1)),λp J=>L _ F _ (zy.refl F) (i.newLD J I)]
 |lst l=>cases e;let#[a,xs,rfl,h1,I]:=B.1.lst i.fr;show#[a,xs,rfl,.inl h1,λp J=>L _ F _ (zy.refl F) (i.newLD J I)]
 |_=>cases e
end
def DS(h:aY a=aY b):a=b:=by
 cases a with
 |inl i=>cases b with
  |inl j=>have h':D.int i=D.int j:=h;cases h';rfl
  |inr y=>have h':D.int i=D.str y.cps.toList:=h;cases h'
 |inr x=>cases b with
  |inl j=>have h':D.str x.cps.toList=D.int j:=h;cases h'
  |inr y=>have h':D.str x.cps.toList=D.str y.cps.toList:=h;let#[#[a]]:=x;first|rfl|assumption|(simp_all;done)
def ES:∀{a b:List bX},a.map aY=b.map aY->a=b
 |[],[],_=>rfl
 |[],_::_,h=>by simp at h
 |_::_,[],h=>by simp at h
 |x::a,y::b,h=>by
  injection h with h1 h2
  rw[DS h1,ES h2]
section
variable{K:W.Frag}
def DB(r:aP K H x d)(h:cR d=true):∃k:bX,x=kV k/\d=aY k:=by
 cases r with
 |int i=>show#[.inl i,rfl,rfl]
 |str e z=>show#[.inr _,rfl,by rw[<-e];rfl]
 |_=>cases h
def Gu(r:zQ K H xs l):l.all cR=true->∃ks:List bX,xs=ks.map kV/\l=ks.map aY:=
 zQ.ind (P:=λxs l=>l.all cR=true->∃ks:List bX,xs=ks.map kV/\l=ks.map aY) (λ_=>#[[],rfl,rfl]) (λa _ i h=>by rw[List.all_cons,and_eq_true]at h;let#[k,rfl,rfl]:=DB a h.1;let#[ks,rfl,rfl]:=i h.2;show#[k::ks,rfl,rfl]) r
open Classical in
def He{κ:Type}[DecidableEq κ](g:κ->D)(i:∀a b,g a=g b->a=b):∀(zT:List (κ×V))(k:κ),(dH zT k).isSome=↥(g k∈zT.map λp=>g p.1)
 |[],k=>by simp[dH]
 |p::r,k=>by
  by_cases e:p.1=k
  .rw[DY e];let:g k∈(p::r).map λp=>g p.1:=by rw[qy,e];exact qm
   show(qQ this).symm
  .rw[DH e,He g i r k];let:(g k∈(p::r).map λp=>g p.1)↔(g k∈r.map λp=>g p.1):=by rw[qy,qA];exact#[λz=>z.elim (λw=>absurd (i _ _ w).symm e) id,.inr]
   show(decide_eq_decide.2 this).symm
open Classical in
def DC{κ:Type}[DecidableEq κ](g:κ->D)(F:∀a b,g a=g b->a=b){α:Type}:∀(zT:List (κ×V))(vs:List α)(k:κ)(P:V->α->Prop),zT.length=vs.length->(∀(i:Nat) x y,(zT.map (·.2))[i]?=⇑x->vs[i]?=⇑y->P x y)->
  (lk (zT.map λp=>g p.1) vs (g k)=none/\dH zT k=none)\/∃x y,dH zT k=⇑x/\lk (zT.map λp=>g p.1) vs (g k)=⇑y/\P x y
 |[],[],k,P,_,_=>.inl #[rfl,rfl]
 |[],_::_,_,_,h,_=>by simp at h
 |_::_,[],_,_,h,_=>by simp at h
 |p::r,v::vs,k,P,hl,h=>by
  by_cases e:p.1=k
  .show .inr #[p.2,v,DY e,?_,h 0 p.2 v rfl rfl];show(if g p.1=g k then ⇑v else lk (r.map λp=>g p.1) vs (g k))=⇑v;rw[qZ (by rw[e])]
  .let B:¬g p.1=g k:=λz=>e (F _ _ z);rw[DH e];let G:lk ((p::r).map λp=>g p.1) (v::vs) (g k)=lk (r.map λp=>g p.1) vs (g k):=by show(if g p.1=g k then ⇑v else lk (r.map λp=>g p.1) vs (g k))=_;rw[q5 B]
   rw[G];show DC g F r vs k P ↑hl λi x y h1 h2=>h (i+1) x y ↑h1 ↑h2
def NS(M:aP K H x d)(U:aP K H (.ref a) (.dct t ks vs))(L:bP t d=true):∃o,jN H a x o/\o.isSome=(open Classical in ↥(d∈ks))/\
  ((lk ks vs d=none/\o=none)\/∃v e,o=⇑v/\lk ks vs d=⇑e/\aP K H v e):=by
 cases U with
 |dK e k r=>
  rename_i B;let#[I,rfl,rfl]:=DB M L;show#[_,.inl #[B,I,e,rfl,rfl],?_,?_]
  .rw[k];show He aY (λ_ _=>DS) B I
  .rw[k];rcases DC aY (λ_ _=>DS) B vs I (λv e=>aP K H v e) (by let:=r.len;simpa using this) (λi x y h1 h2=>by let#[O,G,J]:=r.get h2;rw[h1]at G;cases G;show J)with⟨h1,h2⟩|⟨v,e,h1,h2,h3⟩
   .show .inl #[h1,h2]
   .show .inr #[v,e,h1,h2,h3]
 |dT e k r=>
  rename_i B;cases M with
  |tup Y q=>
   let#[F,rfl,rfl]:=Gu q L;let inj:∀a b:List bX,D.tup (a.map aY)=D.tup (b.map aY)->a=b:=λa b z=>ES (D.tup.inj z);show#[_,.inr #[B,F,_,e,rfl,Y,rfl],?_,?_]
   .rw[k];show He (λl=>D.tup (l.map aY)) inj B F
   .rw[k];rcases DC (λl=>D.tup (l.map aY)) inj B vs F (λv e=>aP K H v e) (by let:=r.len;simpa using this) (λi x y h1 h2=>by let#[O,G,J]:=r.get h2;rw[h1]at G;cases G;show J)with⟨h1,h2⟩|⟨v,e,h1,h2,h3⟩
    .show .inl #[h1,h2]
    .show .inr #[v,e,h1,h2,h3]
  |_=>cases L
def iL(neg:Bool):R2:=λx y H Q=>∃a o,y=.ref a/\jN H a x o/\Q (.bl (if neg then !o.isSome else o.isSome)) H
def SR(F:X.A.units+1<cLine):OpR X (compareOp .In) (iL false):=by intro zS s σ H x y v u Q I B i h;let#[a,o,rfl,g,q]:=h;cases i;show HK F I g B λs' G=>#[.bl _,H,G,rfl,q]
def UH(F:X.A.units+1<cLine):OpR X (compareOp .NotIn) (iL true):=by intro zS s σ H x y v u Q I B i h;let#[a,o,rfl,g,q]:=h;cases i;show NR F I g B λs' G=>#[.bl _,H,G,rfl,q]
def iM(K:W.Frag)(neg:Bool):R2:=λx y H Q=>vE K neg x y H Q\/iL neg x y H Q
def RH(i:X.A.units+32<cLine):OpR X (compareOp .In) (iM X.K false):=FL.OpR.or (Nj i) (SR ∅)
def UD(i:X.A.units+32<cLine):OpR X (compareOp .NotIn) (iM X.K true):=FL.OpR.or (RT i) (UH ∅)
open Classical in
def Oa(F:aP K H x p)(B:aP K H y q)(e:lX p q=⇑k)(G:Q (.bl (if neg then !k else k)) H):iM K neg x y H Q:=by
 unfold lX at e;split at e
 .rename_i l;split at e
  .cases e
  .rename_i h;let i:=qf e;subst i;show .inl #[p,l,F,.inl B,λd J=>?_,G];grind
 .rename_i l;split at e
  .cases e
  .rename_i h;let i:=qf e;subst i;show .inl #[p,l,F,.inr B,λd J=>?_,G];grind
 .rename_i t ks vs;split at e
  .rename_i h;let i:=qf e;cases y with
   |ref a=>let#[o,g,I,_]:=NS F B h;show .inr #[a,o,rfl,g,?_];rw[I,i];show G
   |_=>cases B
  .cases e
 .cases e
end
open PySem.Builtin.Str (strSliceIndices)
def EW(n d:Nat)(o:Option Int):HT.sIx n d o=FL.sIx n d o:=by cases o<;>rfl
def IL(n d:Nat)(i:d<=n)(o:Option Int):FL.sIx n d o<=n:=by rw[<-EW];show HT.sIx_le n d i o
def xQ(z:Str)(lo hi:Option Int):Str:=#[(aO z.cps.toList lo hi).toArray]
def Ul(lo hi:Option Int)(n:Nat):strSliceIndices lo hi 1 n=(List.range (FL.sIx n n hi-FL.sIx n 0 lo)).map (FL.sIx n 0 lo+·):=by rw[<-sliceRange_one];unfold strSliceIndices;cases lo<;>cases hi<;>simp only[if_true,FL.sIx,Cw]<;>rfl
def RW(x:Str)(lo hi:Option Int):Txt.slice x lo hi=xQ x lo hi:=by
 let i:x.length=x.cps.toList.length:=by show x.cps.size=_;rw[qU]
 unfold Txt.slice xQ aO;rw[Ul,pick_run,<-i];split
 .rename_i h;simp at h;let h1:=IL x.length x.length (q8 _) hi;let h2:FL.sIx x.length 0 lo=0\/x.length=0:=by lia
  let B:FL.sIx x.length 0 lo=0:=h2.elim id λz=>by let:=IL x.length 0 (zero_le _) lo;lia
  rw[h,B,drop_zero,take_of_length_le (by rw[i];show q8 _)]
 .rfl
def yY:V->Option Int->Option Int->Hp->VK->Prop:=λx lo hi H Q=>∃z,x=.str z/\z.length<=sizeLine/\Q (.str (xQ z lo hi)) H
def Jq(p:IsPart v o):∃l:Option (Int×Tok),v=partValue l/\o=l.map (·.1):=by
 cases p with
 |none=>show#[none,rfl,rfl]
 |int i t=>show#[⇑(i,t),rfl,rfl]
def NB:mJ X yY:=by
 intro zS s σ H x v O M lo hi Y Q I i L G B h;let#[z,rfl,J,q]:=h;let#[t,rfl]:=i;let#[l,rfl,rfl]:=Jq G;let#[u,rfl,rfl]:=Jq B;rw[<-RW]at q;exact⟨"str",_,F.slot_str_getitem.lookup,typeIs_str _ _ _,wpAny_getItem_str_slice (l:=l) (u:=u) (st:=none) L rfl
  (post_val_or_str #[le_trans (Txt.slice_le z _ _) J,λU k=>#[.str (Txt.slice z (l.map (·.1)) (u.map (·.1))),H,I.tok _,#[_,rfl],q]])⟩
def yW(K:W.Frag):V->Option Int->Option Int->Hp->VK->Prop:=λx lo hi H Q=>∃a xs,x=.ref a/\bD K H a xs/\
 (HT.sIx xs.length 0 lo=0/\HT.sIx xs.length xs.length hi=xs.length)/\Q (.ref a) H
def VI{items:Array Value}{lo hi:Option Int}(B:IsTup s.heap t items)(M:s.heap.IsSliceOf J U O .none)(Z:IsPart U lo)(Y:IsPart O hi)
  (L:HT.sIx items.size 0 lo=0/\HT.sIx items.size items.size hi=items.size)(h:Q (.ref t) s):wpAny (model prog w) A (getItem (.ref t) (.ref J)) Q E s:=by
 let#[os,F,G,h1]:=id M;let I:s.TypeIs (.ref J) "slice":=#[os,F,G]
 unfold getItem;try with_reducible show zn ?_
 first|show qa (qb ?_)|skip
 refine qa (wpAny_sequenceKey B.typeIs ⋯ ?_);refine qa (wpAny_callSpecial?_slot (name:=Str.ofString "__getitem__") B.typeIs PyProof.Rows.slot_tuple_getitem
  (zj PyProof.Rows.slot_tuple_getitem B.typeIs entry_tuple_getitem ?_ (args_tuple_getitem _ _)))
 show wpAny _ _ (Builtin.Tuple.tupleItemsOf (.ref t)>>=_) _ _ s;show qa (tupleItemsOf_ B ?_);show qa (wpAny_typeOf I ?_);show qa (HT.sliceApplied_gen M Z Y ?_);let i:(((HT.sIx items.size 0 lo:Nat):Int)==0&&(1:Int)==1&&(HT.sIx items.size items.size hi-HT.sIx items.size 0 lo)==items.size)=true:=by rw[L.1,L.2];simp
 show wpAny _ _ (if(((HT.sIx items.size 0 lo:Nat):Int)==0&&(1:Int)==1&&(HT.sIx items.size items.size hi-HT.sIx items.size 0 lo)==items.size)=true then _ else _) _ _ s;rw[qZ i];show qa (qa (wpAny_typeOf B.typeIs (qb ?_)));first
  |show qa (wpAny_rule (qb ⟨_,rfl,qb h⟩))
  |show qa (qb (qb ⟨_,rfl,qb h⟩))
  |show qb ⟨_,rfl,qb h⟩
def QU:mJ X (yW X.K):=by
 intro zS s σ H x v Z Y lo hi sl Q I G U L J h;let#[a,xs,rfl,M,O,q]:=h;cases G;let#[B,r,F,hz]:=I.tuple M;let i:B.toArray.size=xs.length:=by rw[qq];show r.length.symm
 show#["tuple",_,PyProof.Rows.slot_tuple_getitem.lookup,F.typeIs,?_];show VI F U L J (by rw[i];show O) #[.ref a,H,I,rfl,q]
section
variable{K:W.Frag}
def zQ.drop:∀{xs:List V}{l:List D}(n:Nat),zQ K F xs l->zQ K F (xs.drop n) (l.drop n)
 |_,_,0,r=>by rw[drop_zero];show r
 |_,_,n+1,.nil=>by rw[List.drop_nil];show .nil
 |_,_,n+1,.cons a b=>by rw[List.drop_succ_cons];show zQ.drop n b
def zQ.take:∀{xs:List V}{l:List D}(n:Nat),zQ K F xs l->zQ K F (xs.take n) (l.take n)
 |_,_,0,r=>by rw[List.take_zero];show .nil
 |_,_,n+1,.nil=>by rw[take_nil];show .nil
 |_,_,n+1,.cons a b=>by rw[List.take_succ_cons];show .cons a (zQ.take n b)
def zQ.cut{lo hi:Option Int}(r:zQ K F xs l):zQ K F (jI xs lo hi) (aO l lo hi):=by unfold jI aO;rw[EW,r.len];show(r.drop _).take _
def jd(K:W.Frag):V->Option Int->Option Int->Hp->VK->Prop:=λx lo hi H Q=>yZ K x lo hi H Q\/yX K x lo hi H Q\/yW K x lo hi H Q\/yY x lo hi H Q
def FF:mJ X (jd X.K):=mJ.or PM (mJ.or Mt (mJ.or QU NB))
def Px{lo hi:Option Int}(i:Rel K ρ σ F G H)(M:bH K F H v d)(e:jP d lo hi=⇑s)
  (J:∀v F' H',zy F F'->Rel K (ρ++[⇑s]) (σ++[⇑v]) F' G H'->Q v H'):jd K v lo hi H Q:=by
 cases d with
 |str l=>
  cases e;let#[x,rfl,h1,h2]:=M.str;subst h1;show .inr (.inr (.inr #[x,rfl,?_,J _ F H (zy.refl F) (i.push (.str rfl ?_))]))
  .let:x.length=x.cps.toList.length:=by show x.cps.size=_;rw[qU]
   rw[this];show h2
  .show le_trans ?_ h2;unfold aO;rw[qG,qF];lia
 |tup l=>
  cases e;let#[a,xs,rfl,h1,B]:=M.tup;by_cases I:HT.sIx xs.length 0 lo=0/\HT.sIx xs.length xs.length hi=xs.length
  .show .inr (.inr (.inl #[a,xs,rfl,bD.of (i.fr _ _ h1),I,J _ F H (zy.refl F) (i.push ?_)]));let:aO l lo hi=l:=by unfold aO;rw[<-B.len,<-EW,<-EW,I.1,I.2,drop_zero,take_of_length_le (by rw[<-B.len];lia)]
   rw[this];show .tup h1 B
  .show .inr (.inl #[a,xs,rfl,bD.of (i.fr _ _ h1),I,λp L=>?_]);let O:=(i.free L).1;show J _ _ _ (zy.upd O) ((i.newF L).push (.tup AB (B.cut.mono (zy.upd O))))
 |lst l=>cases e;let#[a,xs,rfl,h1,B]:=M.lst i.fr;show .inl #[a,xs,rfl,h1,λp L=>J _ F _ (zy.refl F) (i.newLD L B.cut)]
 |_=>cases e
end
theorem nextOf(Z:Rel X.K (ρ1++[zz x]) (σ++[⇑v]) F G H1)(J:RV σ v x)(M:wb ρ1 (λy ρ2=>k x y ρ2 P PX) PX)
  (O:∀r ρ' v F' H',P r ρ'->zy F F'->Rel X.K (ρ'++[zz r]) (σ++[⇑v]) F' G H'->RV σ v r->Q v H')(hx:XC X (·=σ) F G PX):tW X wb σ H1 λu H2=>ll X σ k Q v u H2:=by
 let h1:=Af Z;let#[G1,i,gg,back]:=Z.hide h1;show#[F,G1,ρ1,_,PX,i,M,λy ρ2 u F2 H2 L B Y I=>?_,hx.mono (λ_ z=>z) (zy.refl F) gg];let h2:=Af Y;let U:=back B Y;rw[qo,qo]at U;show#[F2,G,ρ2,x,y,P,PX,Rel.swap (ρ1:=[zz y]) (σ1:=[⇑u]) (ρ2:=[zz x]) (σ2:=[⇑v]) h2 rfl U,h2,J,I,L,λr ρ' v F' H' a b c d=>O r ρ' v F' H' a (B.trans b) c d,hx.grow B]
def AA{ρ:Env}{o:Option D}{k:Int->Prop}(h:(match o with|some (.int i)=>k i|_=>False)):∃i,o=⇑(.int i)/\k i:=by
 split at h
 .show#[_,rfl,h]
 .show h.elim
def FM{K:W.Frag}{ρ:Env}{σ:St}{F G H:Hp}{x y:R}{v u:V}{lo hi:Option Int}{P:WQ}{Q:VK}{q:D}(I:Rel K (ρ++[zz x,zz y]) (σ++[⇑v,⇑u]) F G H)(L:ρ.length=σ.length)(U:RV σ v x)
  (B:zx (zO x ρ) λd=>zx (jP d lo hi) λs=>P (.v s) ρ)
  (J:∀r ρ' v F' H',P r ρ'->zy F F'->Rel K (ρ'++[zz r]) (σ++[⇑v]) F' G H'->RV σ v r->Q v H'):jd K v lo hi H Q:=by
 let#[d,ed,B]:=Ag B;let#[s,es,B]:=Ag B;let i:Rel K (ρ++[zz x]) (σ++[⇑v]) F G H:=by let:=Rel.swap (ρ1:=[zz x]) (σ1:=[⇑v]) (ρ2:=[zz y]) (σ2:=[⇑u]) L rfl I;show Rel.mid (ρ:=ρ) (σ:=σ) this L
 let#[F1,O,Y,Z]:=AG (ρ':=[]) (σ':=[]) i L U ed;show Px (ρ:=ρ) (σ:=σ) ↑Z Y es λv F' H' M r'=>J _ ρ v F' H' B (O.trans M) r' trivial
def BO(ha:FE X a wa)(hb:FE X b wb):FE X (.Subscript a (.Slice ⇑b none none p2) pos) (dX wa ⇑wb none):=λpn xe O=>by
 refine PE.imp (GP (FF (X:=wp X pn xe)) (ha pn xe O) (EN (hb pn xe O)) JF) λσ H Q q=>?_;refine(Cp (k:=λx y B Q E=>match view y B with
  |some (.int i)=>zx (zO x B) λd=>zx (jP d ⇑i none) λs=>Q (.v s) B
  |_=>False) q).mono λv H1 h1=>h1.mono λu H2 h2=>?_
 let#[F,G,ρ,x,y,P,PX,I,L,Y,U,M,J,hx]:=h2;let#[i,ei,M]:=AA (ρ:=ρ) (k:=λi=>zx (zO x ρ) λd=>zx (jP d ⇑i none) λs=>P (.v s) ρ) M;let Z:=look (ρ':=[]) (σ':=[]) (I.mid L) L U ei;cases Z;show#[i,rfl,FM (q:=.non) I L Y M J]
def Bq(ha:FE X a wa)(hb:FE X b wb):FE X (.Subscript a (.Slice none ⇑b none p2) pos) (dX wa none ⇑wb):=λpn xe O=>by
 refine PE.imp (GP (FF (X:=wp X pn xe)) (ha pn xe O) JF (EN (hb pn xe O))) λσ H Q q=>?_;refine(Cp (k:=λx y B Q E=>match view y B with
  |some (.int i)=>zx (zO x B) λd=>zx (jP d none ⇑i) λs=>Q (.v s) B
  |_=>False) q).mono λv H1 h1=>h1.mono λu H2 h2=>?_
 let#[F,G,ρ,x,y,P,PX,I,L,Y,U,M,J,hx]:=h2;let#[i,ei,M]:=AA (ρ:=ρ) (k:=λi=>zx (zO x ρ) λd=>zx (jP d none ⇑i) λs=>P (.v s) ρ) M;let Z:=look (ρ':=[]) (σ':=[]) (I.mid L) L U ei;cases Z;show#[i,rfl,FM (q:=.non) I L Y M J]
def CD(ha:FE X a wa)(hb:FE X b wb)(hc:FE X c wc):FE X (.Subscript a (.Slice ⇑b ⇑c none p2) pos) (dX wa ⇑wb ⇑wc):=λpn xe hp=>by
 refine PE.imp (GP (FF (X:=wp X pn xe)) (ha pn xe hp) (EN (hb pn xe hp)) (EN (hc pn xe hp))) λσ H Q q=>?_;refine(Cp (k:=λx y ρ2 Q E=>match view y ρ2 with
  |some (.int i)=>wc ρ2 (λz B=>match view z B with
   |some (.int j)=>zx (zO x B) λd=>zx (jP d ⇑i ⇑j) λs=>Q (.v s) B
   |_=>False) E
  |_=>False) q).mono λv H1 h1=>h1.mono λu H2 h2=>?_
 obtain⟨F,G,ρ,x,y,P,PX,I,J,Y,U,M,L,hx⟩:=h2;let#[i,ei,M]:=AA (ρ:=ρ) (k:=λi=>wc ρ (λz B=>match view z B with
   |some (.int j)=>zx (zO x B) λd=>zx (jP d ⇑i ⇑j) λs=>P (.v s) B
   |_=>False) PX) M
 let Z:=look (ρ':=[]) (σ':=[]) (I.mid J) J U ei;cases Z;let O:Rel X.K (ρ++[zz x]) (σ++[⇑v]) F G H2:=by let:=Rel.swap (ρ1:=[zz x]) (σ1:=[⇑v]) (ρ2:=[zz y]) (σ2:=[⇑(.int i)]) J rfl I;show Rel.mid (ρ:=ρ) (σ:=σ) this J
 refine⟨i,rfl,(nextOf (X:=wp X pn xe) (k:=λx z B P PX=>match view z B with
   |some (.int j)=>zx (zO x B) λd=>zx (jP d ⇑i ⇑j) λs=>P (.v s) B
   |_=>False) O Y M L hx).mono λt H3 h3=>?_⟩
 let#[F,G,ρ,x,y,P,PX,I,J,Y,U,M,L,hx]:=h3;let#[j,ej,M]:=AA (ρ:=ρ) (k:=λj=>zx (zO x ρ) λd=>zx (jP d ⇑i ⇑j) λs=>P (.v s) ρ) M;let Z:=look (ρ':=[]) (σ':=[]) (I.mid J) J U ej;cases Z;show#[j,rfl,FM (q:=.non) I J Y M L]
end FL
namespace FL
open PySem
def iU(f:List Nat->List D->Option S)(o:WE)(a:WA):WE:=λρ Q E=>o ρ (λx B=>match x with
 |.v (.sh (.str l))=>a B (λF i=>zx (F.mapM λr=>zO r i) λG=>zx (f l G) λs=>Q (.v s) i) E
 |_=>False) E
def cL:List D->Option (List (List Nat))
 |[]=>⇑[]
 |.str x::r=>(cL r).map (x::·)
 |_::_=>none
@[simp] theorem La(l:List (List Nat)):cL (l.map .str)=some l:=by
  induction l with
  |nil=>rfl
  |cons a r i=>rw[qy,cL,i];rfl
def aM(i:List Nat):List (List Nat)->List Nat
 |[]=>[]
 |[x]=>x
 |x::r=>x++i++aM i r
def Ea(i:List Nat):∀ys:List (List Nat),(aM i ys).length<=(ys.map List.length).sum+ys.length*i.length
 |[]=>zero_le _
 |[x]=>by simp[aM]
 |x::y::r=>by
  let:=Ea i (y::r);rw[aM,qp,qp,qy,sum_cons,qr (a:=x),succ_mul]
  .lia
  .intro h;cases h
def Lp(ys:List (List Nat)):aM [] ys=ys.flatten:=by
 induction ys with
 |nil=>rfl
 |cons x r i=>
  cases r with
  |nil=>simp[aM]
  |cons y r=>rw[aM,i];simp;intro h;cases h
def fU(i:List Nat)(l:List D):Option S:=(cL l).bind λys=>if(ys.map List.length).sum+ys.length*i.length<=big then ⇑(.sh (.str (aM i ys)))else none
def bF(i:List Nat):List D->Option S
 |[.lst l]=>fU i l
 |[.tup l]=>fU i l
 |_=>none
def gG(j:Nat)(e:WE):WE:=λρ Q E=>match slot ρ j with
 |some (.lst _)=>e ρ (λr B=>match view r B,slot B j with
  |some (.int i),some (.lst l)=>zx (if l.length<=big then ixN l.length i else none) λk=>zx l[k]? λs=>Q (.v s) (B.set j ⇑(.lst (l.eraseIdx k)))
  |_,_=>False) E
 |_=>False
def hW:List D->Option (List Bool)
 |[]=>⇑[]
 |.bl x::r=>(hW r).map (x::·)
 |_::_=>none
@[simp] theorem Tb(l:List Bool):hW (l.map .bl)=some l:=by
  induction l with
  |nil=>rfl
  |cons a r i=>rw[qy,hW,i];rfl
def sJ:List D->Option S
 |[.lst l]=>(hW l).map λbs=>.sh (.bl (bs.all id))
 |_=>none
end FL
namespace FL
open PySem PySem.Spec PyProof.Rows L2
section
variable{id:String}
def kS(K:W.Frag)(r:V->List V->Hp->VK->Prop)(f:List Nat->List D->Option S):Prop:=∀(σ:St)(ρ:Env)(F G H:Hp)(x:Str)(vs:List V)(ds:List D)(s:S)(Q:VK),Rel K ρ σ F G H->x.cps.toList.length<=16777216->jL K F H vs ds->f x.cps.toList ds=⇑s->
 (∀v F' H',zy F F'->Rel K (ρ++[⇑s]) (σ++[⇑v]) F' G H'->Q v H')->r (.str x) vs H Q
def HR(hm:∀pn xe,xY (wp X pn xe) id r)(hd:kS X.K r f)(slot:Slot "str" name id)(Z:typeOf (.builtin id)=pure (.type "method_descriptor"))(ho:FE X o wo)(ha:FA X (e::es) wa)
  (L:autoParam (attributeBase o name X.env (eval o X.env)=eval o X.env) rZ9)
  (O:autoParam (((backTo cpos (starEach (e::es) X.env)).all (λx=>!x.1)&&(backToKw cpos (keywordEach [] X.env)).all (λx=>x.1.isSome)
   &&↥((e::es).length+([]:List Keyword).length+(if([]:List Keyword).isEmpty then 0 else 1)<30))=true) rZ9)
  (J:autoParam ((apos.endLine==cpos.line)=true) rZ9)(hs:autoParam (starEach (e::es) X.env=(false,eval e X.env)::starEach es X.env) rZ9)(I:autoParam ((backTo cpos (starEach es X.env)).any (·.1)=false) rZ9):
  FE X (.Call (.Attribute o name apos) (e::es) [] cpos) (iU f wo wa):=λpn xe hp=>by
 refine PE.imp (Dt (X:=wp X pn xe) PySem.F.plainAttrs_str slot Z (hm pn xe) (ho pn xe hp) (ha pn xe hp) L O J hs I) λσ H Q q=>?_;refine(one (k:=λx U Q E=>match x with
  |.v (.sh (.str l))=>wa U (λrs i=>zx (rs.mapM λr=>zO r i) λds=>zx (f l ds) λs=>Q (.v s) i) E
  |_=>False) q).mono λv H1 h1=>?_
 let#[F,G,ρ,x,P,PX,M,hl,rx,hk,h2,hx]:=h1;split at hk
 .rename_i l;let rp:=look (ρ':=[]) (σ':=[]) (x:=.v (.sh (.str l))) M hl rx rfl;cases rp with
  |str e1 z=>rename_i y;subst e1;show#[rfl,F,G,ρ,_,PX,M.drop hl,hk,λrs i vs F2 H2 B s2 r2 h3 Y=>?_,hx];let#[ds,ed,B]:=Ag B;let#[s,es,B]:=Ag B;let#[F3,s3,re,r3]:=AF (ρ':=[]) (σ':=[]) ↑r2 h3 Y ed;show hd σ i F3 G H2 y vs ds s Q ↑r3 z re es λv F' H' sm r'=>h2 _ i v F' H' B (s2.trans (s3.trans sm)) r' trivial
 .show hk.elim
end
section
variable{K:W.Frag}
def Jr(r:zQ K F xs l)(h:cL l=⇑ys):∃i:List Str,xs=i.map V.str/\ys=i.map λz=>z.cps.toList:=
 zQ.ind (P:=λxs l=>∀ys,cL l=⇑ys->∃i:List Str,xs=i.map V.str/\ys=i.map λz=>z.cps.toList) (λys h=>by cases h;show#[[],rfl,rfl]) (λa _ G ys h=>by
  cases a with
  |@str x _ e z=>let#[B,h1,rfl]:=qX.mp h;let#[i,rfl,rfl]:=G _ h1;show#[x::i,rfl,by rw[qy,e]]
  |_=>cases h) r ys h
def Kb(i:Str):∀B:List Str,(Str.join i B).cps.toList=aM i.cps.toList (B.map λz=>z.cps.toList)
 |[]=>rfl
 |[x]=>rfl
 |x::y::r=>by show((x++i++Str.join i (y::r):Str)).cps.toList=x.cps.toList++i.cps.toList++aM i.cps.toList ((y::r).map λz=>z.cps.toList);rw[<-Kb i (y::r)];show(x.cps++i.cps++(Str.join i (y::r)).cps).toList=_;rw[toList_append,toList_append]
def Ha:∀{us:List Value},zP (ys.map V.str) us->StrsAre us ys:=by
 induction ys with
 |nil=>intro us r;rw[map_nil]at r;cases r;show .nil
 |cons n G F=>
  intro us r;cases r with
  |cons B i=>let#[t,e]:=B;subst e;show .cons n t (F i)
def nN(K:W.Frag):V->List V->Hp->VK->Prop:=λx vs H Q=>∃z a ys,x=.str z/\vs=[.ref a]/\(bJ K H a (ys.map V.str)\/bD K H a (ys.map V.str))/\(ys.map (·.length)).sum+ys.length*z.length<=16777216/\Q (.str (Str.join z ys)) H
def Pt:xY X "str.join" (nN X.K):=by
 intro zS s σ H x vs v Y Q I L M h;let#[z,a,ys,rfl,rfl,i,G,q]:=h;let#[t,rfl]:=L;cases M with
 |cons U O=>
  cases O;cases U;let e:Txt.join z ys=Str.join z ys:=StrLaws.glued_eq_join z ys;rcases i with i|i
  .obtain⟨F,r,B,_⟩:=I.list i;show join_list B.isList (Ha r) G λJ k=>#[.str (Str.join z ys),H,I.tok _,#[_,by rw[e]],q]
  .obtain⟨F,r,B,_⟩:=I.tuple i;show join_tuple B (Ha r) G λJ k=>#[.str (Str.join z ys),H,I.tok _,#[_,by rw[e]],q]
def KH(B:Rel K ρ σ F G H)(M:bJ K H a xs\/bD K H a xs)(r:zQ K F xs l)(e:fU x.cps.toList l=⇑s)
  (k:∀v F' H',zy F F'->Rel K (ρ++[⇑s]) (σ++[⇑v]) F' G H'->Q v H'):nN K (.str x) [.ref a] H Q:=by
 let#[ys,Y,L]:=Option.bind_eq_some_iff.mp e;let#[i,rfl,rfl]:=Jr r Y;split at L
 .rename_i J;cases L;let O:∀z:Str,z.cps.toList.length=z.length:=λz=>by rw[qU];rfl
  let U:((i.map λz=>z.cps.toList).map List.length)=i.map (·.length):=by rw[qD];show map_congr_left λz _=>O z
  let I:=J;rw[U,qh]at J;show#[x,a,i,rfl,rfl,M,le_trans J ⋯,k _ F H (zy.refl F) (B.push (.str (Kb x i) ?_))];show le_trans (Ea _ _) (le_trans I ⋯)
 .cases L
def RZ:kS K (nN K) bF:=by
 intro σ ρ F G H x vs M s Q i L B e J;let#[d,v,rfl,rfl]:=AE (λx y r=>by cases x<;>rfl) rfl B e;cases d with
 |tup l=>let#[a,xs,rfl,h1,I]:=B.1.tup;show KH i (.inr (bD.of (i.fr _ _ h1))) I e J
 |lst l=>let#[a,xs,rfl,h1,I]:=B.1.lst i.fr;show KH i (.inl h1) I e J
 |_=>cases e
end
def BV(L:FE X o I)(M:FA X [e] wa)
  (F:autoParam (attributeBase o "join" X.env (eval o X.env)=eval o X.env) rZ9)
  (G:autoParam (((backTo cpos (starEach [e] X.env)).all (λx=>!x.1)&&(backToKw cpos (keywordEach [] X.env)).all (λx=>x.1.isSome)
   &&↥([e].length+([]:List Keyword).length+(if([]:List Keyword).isEmpty then 0 else 1)<30))=true) rZ9)
  (B:autoParam ((apos.endLine==cpos.line)=true) rZ9)(J:autoParam (starEach [e] X.env=(false,eval e X.env)::starEach [] X.env) rZ9)(i:autoParam ((backTo cpos (starEach [] X.env)).any (·.1)=false) rZ9):
  FE X (.Call (.Attribute o "join" apos) [e] [] cpos) (iU bF I wa):=HR (λ_ _=>Pt) RZ PySem.F.slot_str_join PySem.F.type_str_join L M F G B J i
section
variable{K:W.Frag}
def zG.erase:∀{xs:List V}{l:List S}{fp:List Addr}{m:Nat}{s:S},zG K F H xs l fp->l[m]?=⇑s->∃y G i B,fp=G++(i++B)/\xs[m]?=⇑y/\aN K F H y s i/\zG K F H (xs.eraseIdx m) (l.eraseIdx m) (G++B)
 |_,_,_,_,_,.nil,h=>by simp at h
 |_,_,_,0,s,.cons (x:=x) (fp:=fp) (fq:=fq) a b,h=>by let e:=qf h;subst e;show#[x,[],fp,fq,rfl,rfl,a,b]
 |_,_,_,m+1,s,.cons (fp:=fp) (fq:=fq) a b,h=>by let#[y,G,i,B,rfl,h1,h2,I]:=zG.erase (m:=m) b h;show#[y,fp++G,i,B,(qo ..).symm,h1,h2,?_];rw[qo];show .cons a I
def Rel.popItem{D:Addr}(r:Rel K ρ σ F G H)(hs:slot ρ n=⇑(.lst l))(M:σ[n]?=⇑⇑(.ref D))(hm:l[m]?=⇑s):
  ∃xs y,H D=⇑(.lst xs)/\xs.length=l.length/\xs[m]?=⇑y/\Rel K (ρ.set n ⇑(.lst (l.eraseIdx m))++[⇑s]) (σ++[⇑y]) F G (upd H D (.lst (xs.eraseIdx m))):=by
 let#[fp,e,nd,ap]:=r.en;let#[v',fa,fi,L,e1,rfl,q,up]:=e.at hs;rw[M]at e1;let e2:V.ref D=v':=↑e1
 subst e2;cases q with
 |lst hD rl=>
  rename_i xs fl;let#[y,U,J,I,rfl,hy,sr,Y]:=rl.erase hm;show#[xs,y,hD,rl.len,hy,?_];let#[na,i,Z]:=qw.mp nd;let#[ni,nb,i]:=qw.mp i;let#[nD,h5]:=qK.mp ni;let h4:D∉fa:=λz=>Z D z D (qj _ qm) rfl;let h3:D∉L:=λz=>i D qm D z rfl;let O:=ap D (qi _ (qj _ qm));let ne:∀{l:List Addr},D∉l->∀x∈l,upd H D (.lst (xs.eraseIdx m)) x=H x:=λh x B=>Aj λz=>h (z▸B);let h2:D∉U++I:=λz=>nD ((qx.mp z).elim (λw=>qj _ w) λw=>qi _ (qi _ w));let h1:D∉J:=λz=>nD (qi _ (qj _ z));let new:aN K F (upd H D (.lst (xs.eraseIdx m))) (.ref D) (.lst (l.eraseIdx m)) (D::(U++I)):=.lst AB (Y.mono (zy.refl F) (ne h2));let a2:=up (F':=F) (H':=upd H D (.lst (xs.eraseIdx m))) (o:=⇑(.lst (l.eraseIdx m))) (u:=⇑(.ref D)) (zy.refl F) (λx B=>Aj λz=>(qx.mp B).elim (λw=>h4 (z▸w)) λw=>h3 (z▸w)) (.so new .nil);rw[GR M]at a2;let a3:=a2.app (.so (sr.mono (zy.refl F) (ne h1)) .nil);let pm:(fa++((D::(U++I))++[]++L)++(J++[])).Perm (fa++((D::(U++(J++I)))++L)):=by simp;show List.Perm.append_left _ (List.Perm.cons _ (List.Perm.append_left _ ?_));rw[<-qo J I L,<-qo I L J];show(qM (l₁:=I++L) (l₂:=J)).trans ?_;rw[qo]
  show#[zy.updR r.fr O.1,λx o w=>?_,_,a3,pm.nodup_iff.mpr nd,λx B=>ap x (pm.mem_iff.mp B)];let B:x≠D:=λz=>by rw[z,O.2]at w;cases w
  rw[Aj B];show r.gr x o w
end
def Kj(ho:FE X o (zt j))(he:FE X e we)
  (U:autoParam (attributeBase o "pop" X.env (eval o X.env)=eval o X.env) rZ9)
  (h2:autoParam (((backTo cpos (starEach [e] X.env)).all (λx=>!x.1)&&(backToKw cpos (keywordEach [] X.env)).all (λx=>x.1.isSome)
   &&↥([e].length+([]:List Keyword).length+(if([]:List Keyword).isEmpty then 0 else 1)<30))=true) rZ9)
  (O:autoParam ((apos.endLine==cpos.line)=true) rZ9)(hs:autoParam (starEach [e] X.env=[(false,eval e X.env)]) rZ9):FE X (.Call (.Attribute o "pop" apos) [e] [] cpos) (gG j we):=λpn xe hp=>by
 refine PE.imp (Dt (X:=wp X pn xe) PySem.F.plainAttrs_list PySem.F.slot_list_pop PySem.F.type_list_pop PU (ho pn xe hp) (Aa he Ab hs pn xe hp) U h2 O hs rfl) λσ H Q q=>?_;let#[F,G,ρ,P,PX,h3,hw,h4,hx]:=q;let L:(match slot ρ j with
  |some (.lst _)=>we ρ (λr B=>match view r B,slot B j with
   |some (.int i),some (.lst l)=>zx (if l.length<=big then ixN l.length i else none) λk=>zx l[k]? λs=>P (.v s) (B.set j ⇑(.lst (l.eraseIdx k)))
   |_,_=>False) PX
  |_=>False):=hw
 cases Y:slot ρ j with
 |none=>rw[Y]at L;show L.elim
 |some s0=>
  cases s0 with
  |lst l0=>
   rw[Y]at L;show#[F,G,ρ,λy M=>y=.loc j/\M=ρ,PX,h3,by unfold zt;rw[Y];show#[rfl,rfl],λy M o' F1 H1 I s1 r1 rv=>?_,hx];let#[rfl,rfl]:=I;let l1:=Af r1;let Z:σ[j]?=⇑⇑o':=rv;let r2:=r1.drop l1;let#[v',fp,e1,sr]:=r2.at Y;rw[Z]at e1;let e2:o'=v':=↑e1
   subst e2;cases sr with
   |lst hD rl=>
    rename_i a xs fl;show#[.inl #[rfl,_,bJ.of hD],F1,G,M,λrs B=>match rs with|[r]=>(match view r B,slot B j with|some (.int i),some (.lst l)=>zx (if l.length<=big then ixN l.length i else none) λk=>zx l[k]? λs=>P (.v s) (B.set j ⇑(.lst (l.eraseIdx k)))|_,_=>False)|_=>False,PX,r2,L,λrs B vs F2 H2 I s2 r3 hl J=>?_,hx.grow s1];match rs,vs,J,r3,I with
    |[r],[v],J,r3,I=>
     dsimp only at I;split at I
     .rename_i i l ei ql;let#[m,em,I]:=Ag I;let#[s,es,I]:=Ag I;let rp:=look (ρ':=[]) (σ':=[]) r3 hl J.1 ei;cases rp;split at em
      .rename_i hz;let r4:=r3.drop hl;let#[ys,y,h5,h1,hy,r5]:=Rel.popItem r4 ql Z es;rw[<-h1]at em hz;let#[b1,b2,b3,b4]:=Gm em;let hb:ys.length<=1000000:=hz;show#[a,ys,i,m,y,rfl,rfl,h5,∅,∅,b1,hy,h4 _ _ y F2 _ I (s1.trans s2) r5 trivial]
      .cases em
     .show I.elim
    |[],_,_,_,I=>show I.elim
    |[_],[],J,_,_=>show J.elim
    |[_],_::_::_,J,_,_=>show J.2.elim
    |_::_::_,_,_,_,I=>show I.elim
  |_=>rw[Y]at L;show L.elim
section
variable{K:W.Frag}
def JZ:∀{xs:List V}{l:List D}{ys:List Bool},zQ K F xs l->hW l=⇑ys->xs=ys.map V.bl
 |_,_,ys,.nil,h=>by cases h;rfl
 |_,d::l,ys,.cons a b,h=>by
  cases a with
  |bl c=>let#[i,h1,rfl]:=qX.mp h;rw[JZ b h1];rfl
  |_=>cases h
def UC:∀{us:List Value},zP (ys.map V.bl) us->LSm.BoolsAre us ys:=by
 induction ys with
 |nil=>intro us r;rw[map_nil]at r;cases r;show .nil
 |cons n G F=>
  intro us r;cases r with
  |cons B i=>cases B;show .cons n (F i)
end
def TY(L:A.handled=none)(F:s.heap.IsList l vs.toArray)(G:LSm.BoolsAre vs bs)(h:∀h' tk,(∀b x,s.heap.get? b=⇑x->h'.get? b=⇑x)->Q (.bool (bs.all id)) {s with heap:=h',toks:=tk}):
  wpAny (model prog w) A (call (.builtin "all") [.ref l]) Q E s:=by
 let B:l<s.heap.objs.size:=by let#[_,e,_]:=F;show qe e
 refine call_all_walk (wpAny_pyIter_list F ?_);refine⟨s.heap.objs.size,[s.heap.objs.size,l],[s.heap.objs.size],vs.toArray.size,_,_,λi=>(bs[i]?).getD true,rfl,Walks.list (A:=A.in1) L _ l (ne_of_lt B) vs.toArray,
  #[#[_,qd _ rfl,rfl,rfl],F.push _],λi v s' O U M I=>?_,λh' tk J=>?_⟩
 .obtain⟨b,e,rfl⟩:=G.get i v ↑M;simp only[e]at I;show wpAny_truthy_bool I
 .let e:((List.range vs.toArray.size).all λi=>(bs[i]?).getD true)=bs.all id:=by rw[qq,G.length];exact LSm.range_all bs
  rw[e];show h h' tk (LSm.kept_iter J)
section
variable{K:W.Frag}
def aq(K:W.Frag):List V->Hp->VK->Prop:=λxs H Q=>∃(a:Addr)(bs:List Bool),xs=[.ref a]/\bJ K H a (bs.map V.bl)/\Q (.bl (bs.all id)) H
def SF(L:X.calm=true):aW X (.builtin "all") (aq X.K):=by
 intro zS s σ H xs M Q I r h;let#[a,bs,rfl,J,q]:=h;cases r with
 |cons B i=>cases i;cases B;let#[G,r,F,_]:=I.list J;show TY (I.ok.hd L) F.isList (UC r) λh' tk k=>#[.bl _,H,I.kept k,rfl,q]
def QO:cP K (aq K) sJ:=by
 intro σ ρ F G H vs M s Q i B e J;let#[d,v,rfl,rfl]:=AE (λx y r=>by cases x<;>rfl) rfl B e;cases d with
 |lst l=>let#[bs,L,rfl]:=qX.mp e;let#[a,xs,rfl,h1,I]:=B.1.lst i.fr;let:=JZ I L;subst this;show#[a,bs,rfl,h1,J _ F H (zy.refl F) (i.push (.bl _))]
 |_=>cases e
def NN(J:X.calm=true)(G:Gl X "all")(F:X.mg "all"=none)(B:bootBuiltins "all"=⇑(.builtin "all"))(L:FA X (e::es) wa)(I:autoParam (starEach (e::es) X.env=(false,eval e X.env)::starEach es X.env) rZ9)(i:autoParam ((backTo pos (starEach es X.env)).any (·.1)=false) rZ9):FE X (.Call (.Name "all" p) (e::es) [] pos) (wB sJ wa):=
 DV (λpn xe=>SF (X:=wp X pn xe) J) QO G F B L ⋯ ⋯ I i
end
end FL
namespace FL
open PySem
mutual
def jJ:D->D->Ordering
 |.int i,.int j=>if i<j then .lt else if j<i then .gt else .eq
 |.str x,.str y=>if x<y then .lt else if y<x then .gt else .eq
 |.tup l,.tup m=>dS l m
 |_,_=>.eq
def dS:List D->List D->Ordering
 |[],[]=>.eq
 |[],_::_=>.lt
 |_::_,[]=>.gt
 |a::l,b::m=>match jJ a b with
  |.eq=>dS l m
  |o=>o
end
def gU(a b:D):Bool:=match jJ a b with
 |.gt=>false
 |_=>true
@[simp] theorem FX(i j:Int):gU (.int i) (.int j)=decide (i<=j):=by
  show(match(if i<j then Ordering.lt else if j<i then .gt else .eq)with|.gt=>false|_=>true)=_;by_cases h:i<j
  .rw[qZ h,qQ ∅]
  .rw[q5 h];by_cases h2:j<i
   .rw[qZ h2,qR ∅]
   .rw[q5 h2,qQ ∅]
@[simp] theorem JE(x y:List Nat):gU (.str x) (.str y)=!decide (y<x):=by
  show(match(if x<y then Ordering.lt else if y<x then .gt else .eq)with|.gt=>false|_=>true)=_;by_cases h:x<y
  .rw[qZ h,qR (λh'=>List.lt_asymm h h')];rfl
  .rw[q5 h];by_cases h2:y<x
   .rw[qZ h2,qQ h2];rfl
   .rw[q5 h2,qR h2];rfl
def mG(x:D):List D->List D
 |[]=>[x]
 |y::r=>if gU x y then x::y::r else y::mG x r
def cE:List D->List D
 |[]=>[]
 |x::r=>mG x (cE r)
def Hl(x:D):∀l:List D,(mG x l).Perm (x::l)
 |[]=>.refl _
 |y::r=>by
  unfold mG;split
  .show .refl _
  .show(List.Perm.cons y (Hl x r)).trans (.swap x y r)
def DR:∀l:List D,(cE l).Perm l
 |[]=>.refl _
 |x::r=>(Hl x _).trans (.cons x (DR r))
structure gQ(P:D->Prop):Prop where
 tot:∀a b,P a->P b->gU a b=true\/gU b a=true
 tr:∀a b c,P a->P b->P c->gU a b=true->gU b c=true->gU a c=true
 anti:∀a b,P a->P b->gU a b=true->gU b a=true->a=b
def LR(o:gQ P)(x:D)(B:P x):∀l:List D,(∀d∈l,P d)->l.Pairwise (gU · ·=true)->(mG x l).Pairwise (gU · ·=true)
 |[],_,_=>List.pairwise_singleton _ _
 |y::r,hp,h=>by
  let#[h1,h2]:=pairwise_cons.mp h;let F:=hp y qm;let G:∀d∈r,P d:=λd i=>hp d (qk _ i);unfold mG;split
  .rename_i c;show pairwise_cons.mpr #[λd i=>?_,h];rcases qA.mp i with rfl|i
   .show c
   .show o.tr x y d B F (G d i) c (h1 d i)
  .rename_i c;show pairwise_cons.mpr #[λd i=>?_,LR o x B r G h2];rcases qA.mp ((Hl x r).mem_iff.mp i)with rfl|i
   .show(o.tot d y B F).resolve_left c
   .show h1 d i
def Hr(o:gQ P):∀l:List D,(∀d∈l,P d)->(cE l).Pairwise (gU · ·=true)
 |[],_=>.nil
 |x::r,hp=>LR o x (hp x qm) _ (λd i=>hp d (qk _ ((DR r).mem_iff.mp i))) (Hr o r λd i=>hp d (qk _ i))
def LZ(o:gQ P):∀l m:List D,(∀d∈l,P d)->l.Perm m->l.Pairwise (gU · ·=true)->m.Pairwise (gU · ·=true)->l=m
 |[],m,_,p,_,_=>(List.nil_perm.mp p).symm
 |x::r,[],_,p,_,_=>absurd p.length_eq (by simp)
 |x::r,y::t,hp,p,h1,h2=>by
  obtain⟨a1,a2⟩:=pairwise_cons.mp h1;let#[I,G]:=pairwise_cons.mp h2;let B:=hp x qm;let i:P y:=hp y (p.mem_iff.mpr qm);let e:x=y:=by
   let m1:x∈y::t:=p.mem_iff.mp qm;let m2:y∈x::r:=p.mem_iff.mpr qm;rcases qA.mp m1 with e|m1
   .show e
   .rcases qA.mp m2 with e|m2
    .show e.symm
    .show o.anti x y B i (a1 y m2) (I x m1)
  subst e;rw[LZ o r t (λd F=>hp d (qk _ F)) (List.Perm.cons_inv p) a2 G]
def Dk(o:gQ P)(i:∀d∈l,P d)(p:m.Perm l)(h:m.Pairwise (gU · ·=true)):cE l=m:=
 LZ o _ _ (λd B=>i d ((DR l).mem_iff.mp B)) ((DR l).trans p.symm) (Hr o l i) h
def tG:D->Prop
 |.int _=>True
 |_=>False
def oQ:D->Prop
 |.str _=>True
 |_=>False
def EK:gQ tG where
 tot
  |.int a,.int b,_,_=>by simp;lia
 tr
  |.int a,.int b,.int c,_,_,_=>by simp;lia
 anti
  |.int a,.int b,_,_=>by simp;intro h1 h2;rw[Int.le_antisymm h1 h2]
def Gs:gQ oQ where
 tot
  |.str a,.str b,_,_=>by
   simp;by_cases h:b<a
   .show .inr λh'=>List.lt_asymm h h'
   .show .inl h
 tr
  |.str a,.str b,.str c,_,_,_=>by simp;intro h1 h2;show λh=>(List.le_trans (l₁:=a) (l₂:=b) (l₃:=c) h1 h2) h
 anti
  |.str a,.str b,_,_=>by simp;intro h1 h2;let:a=b:=List.le_antisymm (as:=a) (bs:=b) h1 h2;rw[this]
def bZ:List D->Option (List Int)
 |[]=>⇑[]
 |.int x::r=>(bZ r).map (x::·)
 |_::_=>none
@[simp] theorem Hh(l:List Int):bZ (l.map .int)=some l:=by
  induction l with
  |nil=>rfl
  |cons a r i=>rw[qy,bZ,i];rfl
def jC(l:List D):Option S:=if l.length<64/\((bZ l).isSome\/(cL l).isSome)then ⇑(.lst ((cE l).map .sh))else none
def sI:List D->Option S
 |[.lst l]=>jC l
 |_=>none
end FL
namespace FL
open PySem PySem.Spec PyProof.Rows L2
section
variable{K:W.Frag}
def EM(r:zQ K F xs l)(h:bZ l=⇑ys):xs=ys.map V.int/\l=ys.map D.int:=
 zQ.ind (P:=λxs l=>∀ys,bZ l=⇑ys->xs=ys.map V.int/\l=ys.map D.int) (λys h=>by cases h;show#[rfl,rfl]) (λa _ B ys h=>by
  cases a with
  |int c=>let#[i,h1,rfl]:=qX.mp h;let#[I,G]:=B _ h1;rw[I,G];show#[rfl,rfl]
  |_=>cases h) r ys h
def Di:∀{us:List Value}{ns:List Int},IntsAre us ns->zP (ns.map V.int) us
 |_,_,.nil=>.nil
 |_,_,.cons i t r=>.cons #[t,rfl] (Di r)
def KC:∀{us:List Value}{ns:List Str},StrsAre us ns->zP (ns.map V.str) us
 |_,_,.nil=>.nil
 |_,_,.cons i t r=>.cons #[t,rfl] (KC r)
def iJ(K:W.Frag):List V->Hp->VK->Prop:=λxs H Q=>∃a,xs=[.ref a]/\
 ((∃ns:List Int,ns.length<64/\bJ K H a (ns.map V.int)/\∀B:List Int,B.Perm ns->B.Pairwise (·<=·)->∀q,H q=none->Q (.ref q) (upd H q (.lst (B.map V.int))))\/
  (∃F:List Str,F.length<64/\bJ K H a (F.map V.str)/\∀i:List Str,i.Perm F->sortedS i=true->∀q,H q=none->Q (.ref q) (upd H q (.lst (i.map V.str)))))
def UI:aW X (.builtin "sorted") (iJ X.K):=by
 intro zS s σ H xs us Q I r h;let#[a,rfl,h]:=h;cases r with
 |cons r1 r2=>
  cases r2;cases r1;rcases h with⟨ns,J,O,q⟩|⟨Z,J,O,q⟩
  .obtain⟨F,r,L,_⟩:=I.list O;let G:F.length=ns.length:=by let:=r.length;rw[qh]at this;exact this.symm
   show sorted_ints L.isList (DQ r) (by rw[G];show J) λB i a1 a2 Y=>?_;let#[e,U]:=sortedAll_at s.heap F B;let M:i.length<=sizeLine:=by rw[a2.length_eq,zk];lia
   show#[.ref (s.heap.objs.size+1),_,I.laid (t':=s.toks) (o:=.lst (i.map V.int)) (λb ob w=>sortedAll_old w) (le_succ _) ?_,rfl,q i a2 Y _ (I.hok.fresh (le_succ _))];show#[by rw[qh];show M,B.toList,e,Di a1,by rw[toArray_toList];show U]
  .obtain⟨F,r,L,_⟩:=I.list O;let G:F.length=Z.length:=by let:=r.length;rw[qh]at this;exact this.symm
   show sorted_strs L.isList (Ha r) (by rw[G];show J) λB i a1 a2 Y=>?_;let#[e,U]:=sortedAll_at s.heap F B;let M:i.length<=sizeLine:=by rw[a2.length_eq,zk];lia
   show#[.ref (s.heap.objs.size+1),_,I.laid (t':=s.toks) (o:=.lst (i.map V.str)) (λb ob w=>sortedAll_old w) (le_succ _) ?_,rfl,q i a2 Y _ (I.hok.fresh (le_succ _))];show#[by rw[qh];show M,B.toList,e,KC a1,by rw[toArray_toList];show U]
def DO:∀ns:List Int,zQ K F (ns.map V.int) (ns.map D.int)
 |[]=>.nil
 |n::ns=>.cons (.int n) (DO ns)
def Lo:∀i:List Str,(∀z∈i,z.cps.toList.length<=16777216)->zQ K F (i.map V.str) (i.map λz=>D.str z.cps.toList)
 |[],_=>.nil
 |z::i,h=>.cons (.str rfl (h z qm)) (Lo i λy B=>h y (qk _ B))
def LG:∀{xs:List V}{l:List D}{i:List Str},zQ K F xs l->xs=i.map V.str->l=(i.map λz=>D.str z.cps.toList)/\∀z∈i,z.cps.toList.length<=16777216
 |_,_,[],.nil,_=>#[rfl,λ_ h=>by cases h]
 |_,_,_::_,.nil,h=>by simp at h
 |_,_,[],.cons _ _,h=>by simp at h
 |_,_,z::i,.cons a b,h=>by
  injection h with h1 h2
  subst h1;let#[e,k]:=LG b h2;cases a with
  |str I G=>
   subst I;show#[by rw[e];rfl,λy B=>?_];rcases qA.mp B with rfl|B
   .show G
   .show k y B
def KA:∀(r:List Str)(p:Str),risingS p r=true->((p::r).map λz=>D.str z.cps.toList).Pairwise (gU · ·=true)
 |[],p,_=>List.pairwise_singleton _ _
 |x::r,p,h=>by
  let h':(!ltCps x.cps.toList p.cps.toList&&risingS x r)=true:=h;rw[and_eq_true,ltCps_eq]at h';let F:=KA r x h'.2;let B:gU (.str p.cps.toList) (.str x.cps.toList)=true:=by rw[JE];show h'.1
  show pairwise_cons.mpr #[λd i=>?_,F];rcases qA.mp i with rfl|i
  .show B
  .obtain⟨z,_,rfl⟩:=qJ.mp i;show Gs.tr _ (.str x.cps.toList) _ trivial trivial trivial B ((pairwise_cons.mp F).1 _ i)
def Ti:∀r:List Str,sortedS r=true->(r.map λz=>D.str z.cps.toList).Pairwise (gU · ·=true)
 |[],_=>.nil
 |x::r,h=>KA r x h
def UQ:cP K (iJ K) sI:=by
 intro σ ρ F G H vs ds s Q B re e L;let#[d,v,rfl,rfl]:=AE (λx y r=>by cases x<;>rfl) rfl re e;cases d with
 |lst l=>
  let e:jC l=⇑s:=e;unfold jC at e;split at e
  .rename_i M;cases e;let#[a,xs,rfl,h1,O]:=re.1.lst B.fr;show#[a,rfl,?_];cases q1:bZ l with
   |some ns=>let#[Z,e2]:=EM O q1;subst Z;subst e2;show .inl #[ns,by let:=M.1;rwa[qh]at this,h1,λJ p U q I=>?_];let es:cE (ns.map D.int)=J.map D.int:=Dk EK (λd Y=>by let#[z,_,rfl]:=qJ.mp Y;trivial) (p.map _) (pairwise_map.mpr (U.imp λ{a b} h=>by rw[FX];show qQ h));rw[es]at L;show L _ F _ (zy.refl F) (B.newLD I (DO J))
   |none=>
    cases q2:cL l with
    |none=>rw[q1,q2]at M;simp at M
    |some ys=>let#[zs,Z,e2]:=Jr O q2;subst Z;let#[e3,sm]:=LG O rfl;subst e3;show .inr #[zs,by let:=M.1;rwa[qh]at this,h1,λi p U q I=>?_];let es:cE (zs.map λz=>D.str z.cps.toList)=i.map λz=>D.str z.cps.toList:=Dk Gs (λd Y=>by let#[z,_,rfl]:=qJ.mp Y;trivial) (p.map _) (Ti i U);rw[es]at L;show L _ F _ (zy.refl F) (B.newLD I (Lo i λz hz=>sm z (p.mem_iff.mp hz)))
  .cases e
 |_=>cases e
end
def UX(i:∀id,v≠.builtin id)(h:Q (.bool (v==.bool d)) s):wpAny M A (compareOp .Is v (.bool d)) Q E s:=by cases v<;>first|show qb h|show absurd rfl (i _)
section
variable{K:W.Frag}
def zH.bool_iff(r:zH x v)(d:Bool):(v==Value.bool d)=↥(x=.bl d):=by
 cases x with
 |bl b=>cases r;cases b<;>cases d<;>rfl
 |_=>first
  |(cases r;rfl)
  |(let#[t,rfl]:=r;rfl)
def zH.noBuiltin(r:zH x v):∀id,v≠.builtin id:=by
 intro id e;subst e;cases x<;>first
  |(cases r;done)
  |(let#[t,h]:=r;cases h)
def jf(neg:Bool):R2:=λx y H Q=>(y=.non/\Q (.bl (if neg then !decide (x=.non)else ↥(x=.non))) H)\/∃b,y=.bl b/\Q (.bl (if neg then !decide (x=.bl b)else ↥(x=.bl b))) H
def NI:OpR X (compareOp .Is) (jf false):=by
 intro zS s σ H x y v u Q I i B h;rcases h with⟨rfl,q⟩|⟨b,rfl,q⟩
 .show NK zS s σ H x .non v u Q I i B #[rfl,q]
 .cases B;show UX (zH.noBuiltin i) #[.bl _,H,I,by rw[zH.bool_iff i];rfl,q]
open Classical in
def Of(F:aP K H x p)(B:aP K H y q)(e:cc p q=⇑k)(G:Q (.bl (if neg then !k else k)) H):jf neg x y H Q:=by
 cases q with
 |non=>
  cases B;let i:↥(p=.non)=k:=qf e;let:↥(x=V.non)=k:=by rw[<-i];cases F<;>simp
  show .inl #[rfl,by rw[this];show G]
 |bl b=>
  cases B;let i:↥(p=.bl b)=k:=qf e;let:↥(x=V.bl b)=k:=by rw[<-i];cases F<;>simp
  show .inr #[b,rfl,by rw[this];show G]
 |_=>cases e
def Ox:dG K (jf false) cc:=λH x y p q k Q B i e F=>Of B i e F
end
mutual
def eP:D->PyData
 |.non=>.none
 |.bl b=>.bool b
 |.int i=>.int i
 |.str l=>.str #[l.toArray]
 |.tup l=>.tuple (cW l)
 |.lst l=>.list (cW l)
 |_=>.none
def cW:List D->List PyData
 |[]=>[]
 |d::r=>eP d::cW r
end
mutual
def nF:D->Bool
 |.non=>true
 |.bl _=>true
 |.int i=>↥(i.natAbs.log2<1920)
 |.str _=>true
 |.tup l=>eK l
 |.lst l=>eK l
 |_=>false
def eK:List D->Bool
 |[]=>true
 |d::r=>nF d&&eK r
end
mutual
theorem Vd:∀d:D,nF d=true->(eP d).showable=true
 |.non,_=>rfl
 |.bl _,_=>rfl
 |.int i,h=>h
 |.str _,_=>rfl
 |.tup l,h=>Ho l h
 |.lst l,h=>Ho l h
 |.dct _ _ _,h=>by cases h
 |.set _,h=>by cases h
 |.exc _ _ _,h=>by cases h
theorem Ho:∀l:List D,eK l=true->PyData.showableAll (cW l)=true
 |[],_=>rfl
 |d::r,h=>by rw[eK,and_eq_true]at h;rw[cW,PyData.showableAll,Vd d h.1,Ho r h.2];rfl
end
mutual
theorem RY:∀d:D,(eP d).hasDict=false
 |.non=>rfl
 |.bl _=>rfl
 |.int i=>rfl
 |.str _=>rfl
 |.tup l=>GU l
 |.lst l=>GU l
 |.dct _ _ _=>rfl
 |.set _=>rfl
 |.exc _ _ _=>rfl
theorem GU:∀l:List D,PyData.hasDictAll (cW l)=false
 |[]=>rfl
 |d::r=>by rw[cW,PyData.hasDictAll,RY d,GU r];rfl
end
mutual
theorem RD:∀d:D,(eP d).depth<=fC d
 |.non=>q8 _
 |.bl _=>q8 _
 |.int i=>q8 _
 |.str _=>q8 _
 |.tup l=>Nat.succ_le_succ (Hm l)
 |.lst l=>Nat.succ_le_succ (Hm l)
 |.dct _ _ _=>q8 _
 |.set _=>q8 _
 |.exc _ _ _=>q8 _
theorem Hm:∀l:List D,PyData.depthAll (cW l)<=aZ l
 |[]=>q8 _
 |d::r=>by let h1:=RD d;let h2:=Hm r;simp only[cW,PyData.depthAll,aZ];lia
end
end FL
namespace FL
open PySem
def cg(l m:List Nat)(i:Nat):Bool:=↥(i+m.length<=l.length)&&↥((l.drop i).take m.length=m)
def gO(l m:List Nat):Option Nat:=(List.range (l.length+1)).find? (cg l m)
def iP:List D->Option S
 |[.tup l]=>⇑(.lst (l.map .sh))
 |[.lst l]=>⇑(.lst (l.map .sh))
 |[.str l]=>if l.length<=big then ⇑(.lst (l.map λc=>.sh (.str [c])))else none
 |_=>none
def dv:D->String
 |.non=>"NoneType"
 |.bl _=>"bool"
 |.int _=>"int"
 |.str _=>"str"
 |.tup _=>"tuple"
 |.lst _=>"list"
 |.dct _ _ _=>"dict"
 |.set _=>"set"
 |.exc _ _ _=>"?"
def eL(T:String)(d:D):Bool:=dv d==T||(dv d=="bool"&&T=="int")
def fR:D->Bool
 |.exc _ _ _=>false
 |_=>true
def iH(T:String)(a:WE):WE:=λρ Q E=>a ρ (λx i=>zx (view x i) λd=>fR d=true/\Q (.v (.sh (.bl (eL T d)))) i) E
theorem find?_first(h:i<n)(B:p i=true)(hn:∀k,k<i->p k=false):(List.range n).find? p=⇑i:=by first|rfl|assumption|(simp_all;done)
theorem find?_not(hn:∀k,p k=false):(List.range n).find? p=none:=by grind
end FL
namespace FL
open PySem PySem.Spec PyProof.Rows L2
section
variable{K:W.Frag}
theorem zl4:StrLaws.At x y x.length i↔cg x.cps.toList y.cps.toList i=true:=by
 let h1:x.length=x.cps.toList.length:=by show x.cps.size=_;rw[qU]
 let h2:y.length=y.cps.toList.length:=by show y.cps.size=_;rw[qU]
 unfold StrLaws.At cg Builtin.Str.subAt;rw[and_eq_true,qS,qS,h2,beq_iff_eq];show and_congr_right λ_=>?_;rw[<-Array.toList_inj,Array.toList_extract,List.extract_eq_take_drop];let:i+y.cps.toList.length-i=y.cps.toList.length:=∅
 rw[this]
def Pq(x y:Str):Txt.find x y=(match gO x.cps.toList y.cps.toList with|some i=>(i:Int)|none=>-1):=by
 have B:∀{i},¬StrLaws.At x y x.length i->cg x.cps.toList y.cps.toList i=false:=λ{i} h=>by
  cases q:cg x.cps.toList y.cps.toList i with
  |false=>rfl
  |true=>show absurd (zl4.mpr q) h
 rcases find_whole x y with⟨e,h⟩|⟨i,e,hi,h⟩
 .rw[e];unfold gO;rw[find?_not λk=>B (h k)]
 .rw[e];unfold gO;let G:=hi.1;let h1:x.length=x.cps.toList.length:=by show x.cps.size=_;rw[qU]
  rw[find?_first (i:=i) (by rw[<-h1];lia) (zl4.mp hi) λk F=>B (h k F)]
def nM:List V->Hp->VK->Prop:=λxs H Q=>∃x:Str,xs=[.str x]/\x.length<=sizeLine/\∀l,H l=none->Q (.ref l) (upd H l (.lst (x.cps.toList.map λc=>.str #[[c].toArray])))
def Fh:∀{xs:List V}{us:List Value},xs.length=us.length->(∀(j:Nat) x u,xs[j]?=⇑x->us[j]?=⇑u->zH x u)->zP xs us
 |[],[],_,_=>.nil
 |[],_::_,h,_=>by simp at h
 |_::_,[],h,_=>by simp at h
 |x::xs,u::us,h,k=>.cons (k 0 x u rfl rfl) (Fh ↑h λj i B h1 h2=>k (j+1) i B h1 ↑h2)
def VD(F:X.calm=true):aW X (.type "list") nM:=by
 intro zS s σ H xs Y Q I r h;let#[x,rfl,J,q]:=h;let#[u,rfl,L]:=vals1 r;let#[t,rfl]:=L;show call_list_str (I.ok.hd F) x t (hn:=J) λh' tk B U O G i=>?_;let M:zP (x.cps.toList.map λc=>V.str #[[c].toArray]) B.toList:=Fh (by rw[qh,qU,qU,i.1]) λj y v h1 h2=>by let#[c,u,F,rfl]:=i.2 j v (by rw[<-qY];show h2);rw[qE,qY,F]at h1;cases h1;show#[u,rfl]
 show#[.ref s.heap.objs.size,_,I.laid (t':=tk) O (q8 _) (show zR X.prog X.w _ h' _ (.lst (x.cps.toList.map λc=>V.str #[[c].toArray])) from#[?_,B.toList,U,M,G]),rfl,q _ (I.hok.fresh (q8 _))];rw[qh];show J
def vB(K:W.Frag):List V->Hp->VK->Prop:=λxs H Q=>sT K xs H Q\/nM xs H Q
def LK:∀l:List Nat,zQ K F (l.map λc=>V.str #[[c].toArray]) (l.map λc=>D.str [c])
 |[]=>.nil
 |c::l=>.cons (.str rfl (by show 1<=16777216;decide)) (LK l)
def Tu:cP K (vB K) iP:=by
 intro σ ρ F G H vs O s Q i B e I;let#[d,v,rfl,rfl]:=AE (λx y r=>by cases x<;>rfl) rfl B e;cases d with
 |tup l=>show .inl (KG σ ρ F G H [v] [.tup l] s Q i B e I)
 |lst l=>show .inl (KG σ ρ F G H [v] [.lst l] s Q i B e I)
 |str l=>
  let#[x,rfl,J,z]:=B.1.str;let e:(if l.length<=big then ⇑(S.lst (l.map λc=>S.sh (.str [c])))else none)=⇑s:=e;split at e
  .rename_i M;cases e;show .inr #[x,rfl,by rw[Cj J];show Fe M,λp L=>?_];rw[J];let h:=i.newLD L (LK l);rw[qD]at h;show I (.ref p) F (upd H p (.lst (l.map λc=>V.str #[[c].toArray]))) (zy.refl F) h
  .cases e
 |_=>cases e
def Ru(J:X.calm=true)(G:Gl X "list")(F:X.mg "list"=none)(B:bootBuiltins "list"=⇑(.type "list"))(L:FA X (e::es) wa)(I:autoParam (starEach (e::es) X.env=(false,eval e X.env)::starEach es X.env) rZ9)(i:autoParam ((backTo pos (starEach es X.env)).any (·.1)=false) rZ9):FE X (.Call (.Name "list" p) (e::es) [] pos) (wB iP wa):=
 GN (λpn xe=>aW.or' Vo (VD (X:=wp X pn xe) J)) Tu G F B L ⋯ ⋯ I i
end
def uF(T:String):Bool:=T=="bool"||T=="int"||T=="str"||T=="tuple"||T=="list"
def Mr(K:W.Frag):∀(T:String),uF T=true->∀d:D,fR d=true->W.kitOne K (.type (dv d)) (.type T)=⇑(eL T d):=by intro T i d h2;simp[uF,or_eq_true,beq_iff_eq]at i;rcases i with(((rfl|rfl)|rfl)|rfl)|rfl<;>cases d<;>first|show absurd h2 qW|kernel_rfl
def RA(I:Inv X zS σ H s)(F:zH x u)(L:aP X.K H x d)(Y:fR d=true)(e:W.kitOne X.K (.type (dv d)) c=⇑b)(h:∀tk,Q (.bool b) {s with toks:=tk}):
  wpAny (model X.prog X.w) A (call (.builtin "isinstance") [u,c]) Q E s:=by
 cases L with
 |non=>show CO I F .non e h
 |bl y=>show CO I F (.bl y) e h
 |int i=>show CO I F (.int i) e h
 |str e1 z=>show CO I F (.str _) e h
 |tup B r=>show CO I F (.tup B) e h
 |lst B r=>cases F;let#[O,r,M,_]:=I.list B;let#[o,U,Z,_]:=M.isList;show W.kia_one W.kitx_list I.kIn #[o,U,Z] e (λz=>nomatch z) h
 |@dK a G ks vs B k r=>
  cases F;rcases B with B|⟨J,B⟩
  .show CO (x:=.ref a) I rfl (.dK B) e h
  .obtain⟨_,_,_,_,p⟩:=(show zR X.prog X.w H s.heap a (.frz J (.dK G)) from I.hok a _ B)
   let#[_,o,es,ep,h1,h2,_]:=p;show W.kia_one W.kitx_dict I.kIn #[o,h1,h2.1] e (λz=>nomatch z) h
 |@dT a G ks vs B k r=>
  cases F;rcases B with B|⟨J,B⟩
  .show CO (x:=.ref a) I rfl (.dT B) e h
  .obtain⟨_,_,_,_,p⟩:=(show zR X.prog X.w H s.heap a (.frz J (.dT G)) from I.hok a _ B)
   let#[_,o,es,ep,h1,h2,_]:=p;show W.kia_one W.kitx_dict I.kIn #[o,h1,h2.1] e (λz=>nomatch z) h
 |@st a xs ds B r=>
  cases F;let t:∃o,s.heap.get? a=⇑o/\o.cls=.type "set":=by
   rcases I.hok a _ B with⟨_,⟨_,h1⟩|⟨_,_,_,o,_,_,_,h1,h2,_⟩|⟨_,_,_,_,o,_,_,_,h1,h2,_⟩⟩
   .show#[_,h1,rfl]
   .show#[o,h1,h2.1]
   .show#[o,h1,h2.1]
  show W.kia_one W.kitx_set I.kIn t e (λz=>nomatch z) h
 |exc _ _=>cases Y
section
variable{TS:String}
def Cz(hg:Gl X "isinstance")(hm:X.mg "isinstance"=none)(hv:bootBuiltins "isinstance"=⇑(.builtin "isinstance"))(Z:Gl X T)(U:X.mg T=none)(J:bootBuiltins T=⇑(.type TS))(hT:uF TS=true)(ha:FE X a wa)
  (O:autoParam (T≠"__name__") dZ9)(h1:autoParam ((T==("__debug__":Str))=false) dZ9)
  (he:autoParam (starEach [a,.Name T pt] X.env=(false,eval a X.env)::starEach [.Name T pt] X.env) rZ9)(h2:autoParam (starEach [.Name T pt] X.env=[(false,eval (.Name T pt) X.env)]) rZ9)(L:autoParam ((backTo pos (starEach [.Name T pt] X.env)).any (·.1)=false) rZ9):
  FE X (.Call (.Name "isinstance" p) [a,.Name T pt] [] pos) (iH TS wa):=λpn xe hp=>by
 intro zS s σ H Q I h;show wpAny_Call_Name_kw (Bg (X:=wp X pn xe) I hg hm hv ?_ ⋯ ⋯);show PyProof.Rows.callWith_builtin1 ?_ he L;rw[he];show Calls.spliced_cons (Ah (ha pn xe hp zS s σ H _ I (one (k:=λx i Q E=>zx (view x i) λd=>fR d=true/\Q (.v (.sh (.bl (eL TS d)))) i) h)) λu s1 zq=>?_);let#[x,H1,I1,r1,q1]:=zq;show Calls.spliced_cons (Bg (X:=wp X pn xe) I1 Z U J (Calls.spliced_nil ?_) O h1);let#[F,G,ρ,y,P,PX,B,hl,ry,Y,M,hx]:=q1;let#[d,ed,hd,Y]:=Ag Y;let rp:=look (ρ':=[]) (σ':=[]) B hl ry ed;show RA I1 r1 rp hd (Mr _ TS hT d hd) λtk=>#[.bl _,H1,I1.kept λ_ _ z=>z,rfl,?_]
 show M _ ρ _ F H1 Y (zy.refl F) ((B.drop hl).push (.bl _)) trivial
end
def BN:bootBuiltins "int"=⇑(.type "int"):=by decide+kernel
def BZ:bootBuiltins "tuple"=⇑(.type "tuple"):=by decide+kernel
def Jw:bootBuiltins "list"=⇑(.type "list"):=by decide+kernel
def Jl:bootBuiltins "bool"=⇑(.type "bool"):=by decide+kernel
def IH:bootBuiltins "str"=⇑(.type "str"):=by decide+kernel
def Nr:bootBuiltins "min"=⇑(.builtin "min"):=by decide+kernel
def MJ:bootBuiltins "all"=⇑(.builtin "all"):=by decide+kernel
def Hc:bootBuiltins "sorted"=⇑(.builtin "sorted"):=by decide+kernel
def BS:bootBuiltins "isinstance"=⇑(.builtin "isinstance"):=by decide+kernel
def AX(i:bM k A):A.units+32<cLine:=by let:=i.units;lia
def AU(i:bM k A):A.units+31<cLine:=by let:=i.units;lia
theorem uq{N:List Str}(h:(N.zipIdx.all λp=>!(p.1==x)||p.2==i)=true):∀j,N[j]?=⇑x->j=i:=by intro j B;let:=qH.mp h (x,j) (by rw[List.mem_zipIdx_iff_getElem?];simpa using B);simpa using this
instance(outer scope:Scope)(N vars:List Str):Decidable (scope.kind=.function/\(∀x∈scope.names,x.2=.free->outer.names.lookup x.1=⇑.cell\/outer.names.lookup x.1=⇑.free)/\(scope.names.map (·.1)).Nodup/\
  (∀x∈N,x∉vars->(x,NameKind.local)∉scope.names/\(x,NameKind.cell)∉scope.names)/\scope.names.lookup Str.empty=none):=inferInstance
def xR(i scope:Scope)(N vars:List Str):Bool:=decide (scope.kind=.function/\(∀x∈scope.names,x.2=.free->i.names.lookup x.1=⇑.cell\/i.names.lookup x.1=⇑.free)/\(scope.names.map (·.1)).Nodup/\
    (∀x∈N,x∉vars->(x,NameKind.local)∉scope.names/\(x,NameKind.cell)∉scope.names)/\scope.names.lookup Str.empty=none)
def Ao(h:xR outer scope N vars=true):cC outer scope N vars:=
 let⟨a,b,c,d,e⟩:=qT h
 #[a,b,c,d,e]
def Qu{K:W.Frag}(r:aN K F H v (.sh (.bl true)) fp):v=.bl true:=by
 cases r with
 |sh r=>cases r;rfl
def MV{K:W.Frag}(h:∀ns:List Int,ns.length<=63->J [.sh (.lst (ns.map .int))] (λs _=>s=.sh (.bl true)) λ_ _=>False)(H:Hp)(a:Addr)(ns:List Int)(M:ns.length<=63)(O:bJ K H a (ns.map V.int)):
  dQ K J 1 [.ref a] H (λv _=>v=.bl true) λ_ _ _=>False:=by
 show#[H,λ_=>none,[.sh (.lst (ns.map .int))],_,_,rfl,#[zy.refl H,λ_ _ z=>(nomatch z),[]++[],.so (.sh (.lst O (DO ns))) .nil,List.nodup_nil,λ_ z=>(nomatch z)],h ns M,λs B v Z H' L U F r=>?_,λ_ _ _ _ _ _ z=>z.elim];subst L;let#[u,Y,I,q]:=r.at (i:=B.length) (s:=.sh (.bl true)) (by let:=CL (ρ:=B.map some) (o:=⇑(.sh (.bl true))) (ρ':=[]);simpa using this)
 let G:B.length=1:=F;rw[G]at I;let:u=v:=↑I.symm
 rw[<-this];show Qu q
end FL
namespace FL
open PySem PySem.Spec PyProof.Rows L2
def Bm(ha:FE X a wa):FE X (.UnaryOp .USub a pos) (iE cX wa):=λpn xe hp=>by
 show PE.imp (Ml Mu (ha pn xe hp)) λσ H Q q=>?_;show(one (k:=λx B Q E=>zx (zO x B) λp=>zx (cX p) λs=>Q (.v s) B) q).mono λv H1 h1=>?_;let#[F,G,ρ,x,P,PX,J,hl,U,I,L,hx]:=h1;let#[p,ep,I]:=Ag I;let#[s,es,I]:=Ag I;let#[M,O,Y,Z]:=AG (ρ':=[]) (σ':=[]) J hl U ep;cases p with
 |int i=>have e:=Y.int;subst e;show#[i,rfl,L _ ρ _ M H1 I O ((show Rel _ ρ σ M G H1 by simpa using Z).push (.int _)) trivial]
 |_=>cases es
open AutoSeq1 (wpAny_loadPart')
def MK(G:s.heap.IsTupleIter u z n)(hz:s.heap.IsTuple z xs)(I:xs[n]?=⇑v)(k:∀h',h'.IsTupleIter u z (n+1)->Heap.SameBut u s.heap h'->Q v {s with heap:=h'}):
  wpAny (model prog w) A (Builtin.SmallTypes.nextOf (.ref u)) Q E s:=by
 let#[Y,B,M,i]:=id G;let#[U,L,_,O,J]:=hz;apply qa;show wpAny_callSpecial?_slot (name:=Str.ofString "__next__") G.typeIs F.slot_tuple_iterator_next (zj F.slot_tuple_iterator_next G.typeIs F.entry_tuple_iterator_next ?_ (F.args_tuple_iterator_next_1 _));show wpAny _ _ (field (.ref u) 0>>=_) _ _ _;apply qa;show zc B i (x:=.ref z) rfl ?_;apply qa;show zc B i (x:=.int n 0) rfl ?_;apply qa;show wpAny_seqItems L J ?_;simp[qV,I];apply qa;show wpAny_setField B i (by simp) (qb #[v,rfl,qb (k _ #[_,zb _ B (Obj.isFreed_of_fields (Obj.data_mapFields i _)),(Obj.cls_mapFields ..).trans M,?_] (Heap.SameBut.update ..))]);rw[Obj.data_mapFields i];simp[rawInt]
def LH(I:A.handled=none)(i:s.heap.IsTupleIter u z n)(hz:s.heap.IsTuple z xs)(J:xs[n]?=none)
  (k:∀h' e,Heap.ExtBut u s.heap h'->(∃o,h'.get? e=⇑o/\o.cls=.type "StopIteration")->E (.ref e) {s with heap:=h'}):wpAny (model prog w) A (Builtin.SmallTypes.nextOf (.ref u)) Q E s:=by
 let#[Y,G,Z,B]:=id i;let#[U,M,_,O,L]:=hz;apply qa;show wpAny_callSpecial?_slot (name:=Str.ofString "__next__") i.typeIs F.slot_tuple_iterator_next (zj F.slot_tuple_iterator_next i.typeIs F.entry_tuple_iterator_next ?_ (F.args_tuple_iterator_next_1 _));show wpAny _ _ (field (.ref u) 0>>=_) _ _ _;apply qa;show zc G B (x:=.ref z) rfl ?_;apply qa;show zc G B (x:=.int n 0) rfl ?_;apply qa;show wpAny_seqItems M L ?_;simp[qV,J];apply qa;apply wpAny_rule;apply qa;show wpAny_setField G B (by simp) ?_;apply qa;apply qa;show zi ?_ (by size_fits);show qa (m:=firstArgMember _ _) (zo (a:=Value.none) (by first|rfl|(simp;rfl)) (zi ?_ (by size_fits)));apply qa;show wpAny_handled ?_;first|rw[show A.in1.handled=none from I]|rw[I]
 show qa (qb (wpAny_throw (k _ _ (((Heap.SameBut.update ..).extBut.push _).push _) #[_,qd _ rfl,rfl])))
def SE{prog:Program}{w:World}{A:Around}(hh:A.handled=none)(u z:Addr)(hne:z≠u)(xs:Array Value):
  Draws prog w A u [u,z] xs.size (λi v=>xs[i]?=⇑v) (λi h=>h.IsTupleIter u z i/\h.IsTuple z xs) where
 live:=λ_ _ st=>let#[o,e,_]:=st.1;#[o,e]
 frame:=λ_ _ _ st k=>#[st.1.at λo e=>k u (by simp) o e,by let#[o,e,r]:=st.2;show#[o,k z (by simp) o e,r]]
 item:=λi s Q E hi st k=>MK st.1 st.2 (v:=xs[i]) (by simp) λh' a b=>k _ h' s.toks (by simp[hi]) #[a,by let#[o,e,r]:=st.2;show#[o,b.extBut _ _ hne e,r]] b
 done:=λs Q E st k=>LH hh st.1 st.2 (by simp) k
inductive SrcI(P:Program)(w:World)(A:Around)(it:Addr)(J:It)(tn:Nat->Heap->Prop)(i:Nat)(s:Shared)(H:Hp):Prop
 |mk (fp:List Addr) (n:Nat) (Pr:Nat->Value->Prop) (Sx:Nat->Heap->Prop):Draws P w A it fp n Pr Sx->Sx i s.heap->i<n->it∈fp->(∀b∈fp,b=it\/(H b≠none/\∃o,s.heap.get? b=some o/\o.cls=.type "tuple")\/∃o,s.heap.get? b=some o/\o.cls=.type "list")->(∀v,Pr i v->∃x,zH x v/\J.yld i H x H)->(∀h',Sx (i+1) h'->tn (i+1) h')->SrcI P w A it J tn i s H
structure tF(P:Program)(w:World)(K:W.Frag)(J:It)(it:Addr)(tn:Nat->Heap->Prop):Prop where
 live:∀i h,tn i h->∃o,h.get? it=⇑o/\(∀v,o.data≠.cell v)/\o.cls≠.type "enumerate"/\o.cls≠.type "zip"/\o.cls≠.type "tuple"/\o.cls≠.type "list"
 keep:∀i h h',tn i h->(∀o,h.get? it=⇑o->h'.get? it=⇑o)->tn i h'
 yl:∀i H x H',J.yld i H x H'->H'=H
 item:∀(X:Cx),X.prog=P->X.w=w->X.K=K->∀(i:Nat)(zS:List (Addr×Obj))(s:Shared)(σ:St)(H:Hp)(A:Around),A.handled=none->Inv X zS σ H s->tn i s.heap->H it=none->J.go i H->
  SrcI P w A it J tn i s H
 done:∀(X:Cx),X.prog=P->X.w=w->X.K=K->∀(i:Nat)(zS:List (Addr×Obj))(s:Shared)(σ:St)(H:Hp)(A:Around),A.handled=none->Inv X zS σ H s->tn i s.heap->J.stop i H->∀(Q:zr)(E:zr),
  (∀h' e,Heap.ExtBut it s.heap h'->(∃o,h'.get? e=⇑o/\o.cls=.type "StopIteration")->E (.ref e) {s with heap:=h'})->wpAny (model P w) A (Builtin.SmallTypes.nextOf (.ref it)) Q E s
def JQ{P:Program}{w:World}{K:W.Frag}(a it:Addr):tF P w K (yE K a) it (λi h=>h.IsListIter it a i) where
 live:=λi h st=>by let#[o,e,c,d]:=st;show#[o,e,λv z=>by(rw[d]at z;cases z),by rw[c];decide,by rw[c];decide,by rw[c];decide,by rw[c];decide]
 keep:=λi h h' st k=>st.at k
 yl:=λi H x H' h=>h.1
 item:=by
  intro X hP hw hK i zS s σ H A hh I st hn hg;subst hP hw hK;let#[xs,x,hq,hx]:=hg;let#[zW,rv,p,hz]:=I.list hq;let#[lo,l1,l2,l3]:=id p.isList;let hne:a≠it:=λz=>by let#[o,e,c,d]:=id st;rw[<-z,l1]at e;cases e;rw[l2]at c;show absurd c ⋯
  let hl:=rv.length;let hi:i<zW.toArray.size:=by let:=(qg.mp hx).1;rw[qq];lia
  show#[_,_,_,_,Draws.list hh it a hne zW.toArray,#[st,p.isList],hi,m1,λb hb=>?_,λv hv=>?_,λh' z=>z.1]
  .simp at hb;rcases hb with rfl|rfl
   .show .inl rfl
   .show .inr (.inr #[lo,l1,l2])
  .obtain⟨u,hu,ru⟩:=rv.get hx;let:u=v:=by
    let hv':zW[i]?=⇑v:=↑hv
    rw[hu]at hv';show qf hv'
   subst this;show#[x,ru,rfl,λys hy=>by rw[I.list_inj hy hq];show hx]
 done:=by intro X hP hw hK i zS s σ H A hh I st hg Q E k;subst hP hw hK;let#[xs,hq,hx]:=hg;let#[zW,rv,p,hz]:=I.list hq;let hl:=rv.length;show wpAny_nextOf_list_end hh st p.isList (by simp;lia -verbose) k
def ft(a:Addr):It:=#[λi H=>∃xs x,H a=⇑(.tup xs)/\xs[i]?=⇑x,λi H x H'=>H'=H/\∀xs,H a=⇑(.tup xs)->xs[i]?=⇑x,λi H=>∃xs,H a=⇑(.tup xs)/\xs.length<=i]
def IZ{P:Program}{w:World}{K:W.Frag}(a it:Addr):tF P w K (ft a) it (λi h=>h.IsTupleIter it a i) where
 live:=λi h st=>by let#[o,e,c,d]:=st;show#[o,e,λv z=>by(rw[d]at z;cases z),by rw[c];decide,by rw[c];decide,by rw[c];decide,by rw[c];decide]
 keep:=λi h h' st k=>st.at k
 yl:=λi H x H' h=>h.1
 item:=by
  intro X hP hw hK i zS s σ H A hh I st hn hg;let#[xs,x,hq,hx]:=hg;let#[zW,rv,p,hz]:=I.tuple (bD.of hq);let#[lo,l1,l2,l3]:=id p;let hne:a≠it:=λz=>by rw[z,hn]at hq;cases hq
  let hl:=rv.length;let hi:i<zW.toArray.size:=by grind
  show#[_,_,_,_,SE hh it a hne zW.toArray,#[st,p],hi,m1,λb hb=>?_,λv hv=>?_,λh' z=>z.1]
  .grind
  .obtain⟨u,hu,ru⟩:=rv.get hx;let:u=v:=by grind
   subst this;show#[x,ru,rfl,λys hy=>by rw[hq]at hy;cases hy;show hx]
 done:=by intro X hP hw hK i zS s σ H A hh I st hg Q E k;let#[xs,hq,hx]:=hg;let#[zW,rv,p,hz]:=I.tuple (bD.of hq);let hl:=rv.length;show LH hh st p (by simp;lia -verbose) k
def IQ{P:Program}{w:World}{K:W.Frag}(it:Addr)(x:Str)(t:Tok):tF P w K (xZ x) it (λi h=>h.IsStrIter it (strIterType x) x t i) where
 live:=λi h st=>by
  obtain⟨o,e,c,d⟩:=st;let hc:o.cls=.type "str_ascii_iterator"\/o.cls=.type "str_iterator":=by
   rw[c];unfold strIterType;split
   .show .inl rfl
   .show .inr rfl
  grind
 keep:=λi h h' st k=>by let#[o,e,r]:=st;show#[o,k o e,r]
 yl:=λi H x H' h=>h.1
 item:=by
  intro X hP hw hK i zS s σ H A hh I st hn hg;let fin:∀v:Value,(∃c u,x.cps[i]?=⇑c/\v=.str #[[c].toArray] u)->∃y,zH y v/\(xZ x).yld i H y H:=λv⟨c,u,e,ev⟩=>#[.str #[[c].toArray],by rw[ev];show#[u,rfl],rfl,c,e,rfl]
  cases ha:x.cps.all (·<128)
  .let e:strIterType x="str_iterator":=by unfold strIterType;rw[ha];rfl
   rw[e]at st⊢;show#[_,_,_,_,Draws.strWide hh it x t,st,hg,m1,λb hb=>.inl ↑hb,fin,λ_ z=>z]
  .let e:strIterType x="str_ascii_iterator":=by unfold strIterType;rw[ha];rfl
   rw[e]at st⊢;show#[_,_,_,_,Draws.strAscii hh it x t,st,hg,m1,λb hb=>.inl ↑hb,fin,λ_ z=>z]
 done:=by
  intro X hP hw hK i zS s σ H A hh I st hg Q E k;let hn:x.cps[i]?=none:=by let:x.cps.size<=i:=hg;simp[this]
  cases ha:x.cps.all (·<128)
  .let e:strIterType x="str_iterator":=by unfold strIterType;rw[ha];rfl
   rw[e]at st;show wpAny_nextOf_wide_end hh st hn k
  .let e:strIterType x="str_ascii_iterator":=by unfold strIterType;rw[ha];rfl
   rw[e]at st;show wpAny_nextOf_ascii_end hh st hn k
end FL
namespace FL
def cA(k:Nat):List D->List D
 |[]=>[]
 |d::l=>.tup [.int k,d]::cA (k+1) l
def nA(a:WE):WI:=λρ Q E=>a ρ (λr i=>zx (give r i) λp=>zx (items p.1.toD) λl=>Q (cA 0 l) p.2) E
def dN:List D->List D->List D
 |d::l,e::m=>.tup [d,e]::dN l m
 |_,_=>[]
def tU(a b:WE):WI:=λρ Q E=>a ρ (λr B=>b B (λt i=>zx (give r i) λp=>zx (give t p.2) λq=>zx (items p.1.toD) λl=>zx (items q.1.toD) λm=>Q (dN l m) q.2) E) E
def KW:∀(l:List D)(k i:Nat)(d:D),(cA k l)[i]?=⇑d->∃e,l[i]?=⇑e/\d=.tup [.int ((k+i:Nat):Int),e]
 |[],_,_,_,h=>by simp[cA]at h
 |e::l,k,0,d,h=>by simp[cA]at h;show#[e,rfl,↑h.symm]
 |e::l,k,i+1,d,h=>by let#[B,h1,h2]:=KW l (k+1) i d (by simpa[cA] using h);show#[B,↑h1,by rw[h2];congr 4;lia]
def KE:∀(l:List D)(k:Nat),(cA k l).length=l.length
 |[],_=>rfl
 |_::l,k=>by simp[cA,KE l]
def Ka:∀(l m:List D)(i:Nat)(d:D),(dN l m)[i]?=⇑d->∃e f,l[i]?=⇑e/\m[i]?=⇑f/\d=.tup [e,f]
 |[],_,_,_,h=>by simp[dN]at h
 |_::_,[],_,_,h=>by simp[dN]at h
 |e::l,f::m,0,d,h=>by simp[dN]at h;show#[e,f,rfl,rfl,h.symm]
 |e::l,f::m,i+1,d,h=>by let#[G,F,h1,h2,B]:=Ka l m i d (by simpa[dN] using h);show#[G,F,↑h1,↑h2,B]
def JU:∀(l m:List D),(dN l m).length=min l.length m.length
 |[],_=>by simp[dN]
 |_::_,[]=>by simp[dN]
 |_::l,_::m=>by simp[dN,JU l m]
end FL
namespace FL
open PySem PySem.Spec PyProof.Rows L2
open AutoSeq1 (wpAny_loadPart')
def DN{ch:List Addr}(I:Inv X zS σ H s)(B:∀b∈ch,bN X zS H b)(k:∀b o,b∉ch->s.heap.get? b=⇑o->h'.get? b=⇑o):Inv X zS σ H {s with heap:=h',toks:=t'}:=by
 let F:∀b u,H b=⇑u->b∉ch:=λb u e z=>by rw[(B b z).1]at e;cases e
 refine I.step (g':=s.gens) (d':=s.drawn) (ch:=ch) (λb L=>?_) (λb o _ _ i e _=>k b o i e) (λb o _ _ i e _=>#[o.slots,k b o i e]) (λ_ _ _ _ n=>n)
  (λb o i e=>#[o,k b o i e]) (λ_ _ e=>e) (λ_ _ _ e=>e) (λb ps e=>#[#[],by rw[e];simp]) (λm J=>?_) (λb u e=>?_) I.bare
 .obtain⟨f0,Y,f2,U,O,M⟩:=B b L;show#[U,Y,O,M]
 .obtain⟨o,es,Z,G,r⟩:=J;show#[o,es,Z,k _ o (λz=>(B _ z).2.1 rfl) G,r]
 .show(I.hok b u e).stay (λc v i q=>k c v ?_ q) (λ_ q=>q) λ_ _ q=>q;grind
def Rq(f:bN X zS H b)(h:b≠T):bN X zS (L2.upd H T o) b:=#[by rw[Aj h];show f.1,f.2]
def LS{ch:List Addr}(I:Inv X zS σ H s)(O:∀b∈ch,bN X zS H b)(M:∀b∈ch,b<s.heap.objs.size)(hz:xs.length<=sizeLine)(G:zP xs us)
  (U:∃o,h'.get? s.heap.objs.size=⇑o/\o.cls=.type "tuple"/\o.dict=none/\∃n,o.data=.seq us.toArray n)(k:∀b o,b∉ch->s.heap.get? b=⇑o->h'.get? b=⇑o):
  Inv X zS σ (L2.upd H s.heap.objs.size (.tup xs)) {s with heap:=h',toks:=t'}:=by
 let#[o,e,c,L,n,d]:=U;let i:o.isFreed=false:=by let#[oc,od,F,J]:=o;let Y:F=.seq us.toArray n:=d;subst Y;rfl
 have I1:Inv X zS σ (L2.upd H s.heap.objs.size (.tup xs)) {s with heap:=s.heap.push o}:=I.laid (t':=s.toks) (λb u q=>qc _ q) (q8 _) #[#[hz,λo' q=>by rw[qd _ i]at q;cases q;show L],us,G,#[o,qd _ i,c,n,d]];let Z:=DN I1 (h':=h') (t':=t') (ch:=ch) (λb B=>Rq (O b B) (ne_of_lt (M b B))) λb u B q=>by
  rcases Heap.get?_push_cases q with⟨rfl,rfl⟩|q
  .show e
  .show k b u B q
 show Z
def yF(J:It):It:=#[J.go,λi H x H'=>∃p y,H p=none/\J.yld i H y H/\x=.ref p/\H'=upd H p (.tup [.int i,y]),J.stop]
def Ql(L:IsEnum s.heap e B i M)(U:∀(Q:zr)(E:zr),(∀h' x,Heap.ExtBut B s.heap h'->(∃o,h'.get? x=⇑o/\o.cls=.type "StopIteration")->E (.ref x) {s with heap:=h'})->wpAny (model prog w) A.in1 (Builtin.SmallTypes.nextOf (.ref B)) Q E s)
  (Z:∀h',Heap.ExtBut B s.heap h'->Q none {s with heap:=h'}):wpAny (model prog w) A (pyNext (.ref e)) Q E s:=by
 let J:s.TypeIs (.ref e) "enumerate":=#[_,L,rfl]
 apply qa;apply wpAny_attempt;show wpAny_callSpecial?_slot (name:=Str.ofString "__next__") J F.slot_enumerate_next (zj F.slot_enumerate_next J F.entry_enumerate_next ?_ (F.args_enumerate_next_1 _));show wpAny _ _ (field (.ref e) 2>>=_) _ _ _;apply qa;show zc L rfl (x:=.ref B) rfl (qa (U _ _ λh' x I G=>?_));let#[o,O,Y]:=G;show qa (wpAny_isInstance (T:="StopIteration") (b:=true) #[o,O,Y] isSubtype_stop (qb (Z _ I)))
def Sd{P:Program}{w:World}{K:W.Frag}{J:It}{it e:Addr}{tn:Nat->Heap->Prop}{elts:List Expr}{k:Nat}{pos:Pos}(S:tF P w K J it tn)(hei:e≠it):
  iQ P w K (.Tuple elts k pos) (yF J) [e,it] e (λi h=>(∃old,IsEnum h e it i old)/\tn i h) where
 mem:=m1
 obj:=λi h st b hb=>by
  simp at hb;rcases hb with rfl|rfl
  .obtain⟨old,q⟩:=st.1;show#[_,q,λv z=>by cases z]
  .obtain⟨o,h1,h2,_⟩:=S.live i h st.2;show#[o,h1,h2]
 keep:=λi h h' st kk=>by let#[#[old,q],t]:=st;show#[#[old,kk e (m1) _ q],S.keep i h h' t λo q=>kk it (m2) o q]
 item:=by
  intro X hP hw hK hc i zS s σ H E I hf st hg;let#[#[old,he],ht]:=st;let hh:X.A.in1.handled=none:=I.ok.hd hc;let#[fp,n,Pr,Sx,D,hS,hin,hif,hfp,hv,hs]:=S.item X hP hw hK i zS s σ H X.A.in1 hh I ht (hf it (m2)).1 hg;let hef:e∉fp:=λz=>by grind
  have hel:e<s.heap.objs.size:=qe he;let#[oi,hoi,_]:=S.live i _ ht;let hil:it<s.heap.objs.size:=qe hoi;show wpAny_pyNext_enum_itemD (A:=X.A) D he hS hin hei hef λx h1 tk hPx ho hS1 hT hsz hk=>?_;let#[y,ry,hy]:=hv x hPx;show#[_,rfl,wpAny_letOwnedTupleGo_enum ho λh2 he2 sb=>?_];let ne:s.heap.objs.size≠e:=ne_of_gt hel;let I2:Inv X zS σ (upd H s.heap.objs.size (.tup [.int i,y])) {s with heap:=h2,toks:=tk+1}:=LS I (ch:=[e,it]) (us:=[.int i tk,x]) hf (λb hb=>by
    simp at hb;rcases hb with rfl|rfl
    .show hel
    .show hil) (by show 2<=_;decide) (.cons #[_,rfl] (.cons ry .nil)) #[_,sb.extBut _ _ ne hT,rfl,rfl,_,rfl] λb o hb q=>by
   simp at hb;show sb.extBut _ _ hb.1 (hk b o hb.1 hb.2 q)
  show#[.ref s.heap.objs.size,_,I2,rfl,#[s.heap.objs.size,y,I.hok.fresh (q8 _),hy,rfl,rfl],#[#[x,he2],S.keep _ _ _ (hs _ hS1) λo q=>sb.extBut _ _ (Ne.symm hei) q],λb hb=>?_];simp at hb;rcases hb with rfl|rfl
  .rw[Aj (ne_of_lt hel)];show(hf _ (m1)).1
  .rw[Aj (ne_of_lt hil)];show(hf _ (m2)).1
 done:=by intro X hP hw hK hc i zS s σ H E I hf st hg;let#[#[old,he],ht]:=st;let hh:X.A.in1.handled=none:=I.ok.hd hc;show Ql he (S.done X hP hw hK i zS s σ H X.A.in1 hh I ht hg) λh' hx=>#[rfl,DN I (t':=s.toks) (ch:=[it]) (λb hb=>hf b (by simp at hb;simp[hb])) λb o hb q=>hx b o ↑hb q]
 self:=λA i s Q E st h=>by let#[#[old,he],_]:=st;show wpAny_pyIter_enum he h
abbrev oI(h:Heap)(z:Addr):Heap:=(h.push {cls:=.type "tuple_iterator",data:=.fields [.ref z,.int 0 0].toArray}).push {cls:=.type "enumerate",data:=.fields [.none,.bool false,.ref h.objs.size,rawInt 0,.none,.none].toArray}
set_option maxHeartbeats 1000000 in
def SL(z:Addr)(xs:Array Value)(n:Nat)(dd:Option Addr)(J:Array (Option Value)):Meets (Builtin.«enumerate.__new__» #[[.type "enumerate",.ref z],[]]) (λ_ R s=>s.heap.get? z=some {cls:=.type "tuple",dict:=dd,data:=.seq xs n,slots:=J}/\
  R (.ok (.ret (.ref (s.heap.objs.size+1)))) {s with heap:=oI s.heap z}):=
 .of_wp λprog w A R s G=>by
  let#[B,g,d,tk,os]:=s;let#[F,M]:=G;let O:=sub_enumerate;let L:(B.push {cls:=.type "tuple_iterator",data:=.fields [.ref z,.int 0 0].toArray}).objs.size=B.objs.size+1:=Heap.size_push ..;let i:R (.ok (.ret (.ref (B.push {cls:=.type "tuple_iterator",data:=.fields [.ref z,.int 0 0].toArray}).objs.size))) {heap:=oI B z,gens:=g,drawn:=d,toks:=tk,os:=os}:=by rw[L];show M
  let I:Heap.IsTuple (Shared.heap #[B,g,d,tk,os]) z xs:=#[_,F,rfl,n,rfl]
  wp_walk using wpAny_loadPart' F
  show wpAny_stack_any λst=>qb ?_;split
  .rename_i c _ _ _ _ _;cases(c==Value.type "enumerate")<;>(wp_walk using wpAny_loadPart' F,wpAny_pyIter_tuple I;show#[_,rfl,i])
  .wp_walk using wpAny_loadPart' F,wpAny_pyIter_tuple I
   show#[_,rfl,i]
def QM(O:s.heap.IsTuple z xs)
  (k:∀h',IsEnum h' (s.heap.objs.size+1) s.heap.objs.size 0 .none->h'.IsTupleIter s.heap.objs.size z 0->(∀b o,s.heap.get? b=⇑o->h'.get? b=⇑o)->Q (.ref (s.heap.objs.size+1)) {s with heap:=h'}):
  wpAny (model prog w) A (call (.type "enumerate") [.ref z]) Q E s:=by
 let#[#[c,dd,Z,G],J,M,n,L]:=O;let Y:c=.type "tuple":=M;let U:Z=.seq xs n:=L;subst Y U;show callType_new F.called_enumerate ⋯ (F.typeCall_enumerate_1 _) (F.newCall_enumerate_1 _) (λi=>F.args_object_init_2 i _) F.entry_enumerate_new (SL z xs n dd G) #[J,?_];let I:(s.heap.push {cls:=.type "tuple_iterator",data:=.fields [.ref z,.int 0 0].toArray}).objs.size=s.heap.objs.size+1:=Heap.size_push ..;let B:IsEnum (oI s.heap z) (s.heap.objs.size+1) s.heap.objs.size 0 .none:=by let:=qd (s.heap.push {cls:=.type "tuple_iterator",data:=.fields [.ref z,.int 0 0].toArray}) (o:={cls:=.type "enumerate",data:=.fields [.none,.bool false,.ref s.heap.objs.size,rawInt 0,.none,.none].toArray}) rfl;rw[I]at this;show this
 show#[#[_,B,rfl],k _ B #[_,qc _ (qd _ rfl),rfl,rfl] λb o x=>qc _ (qc _ x)]
def bq(K:W.Frag)(i:TA):TI:=λσ H R=>i σ H λvs H1=>(∃a,vs=[.ref a]/\(∃xs,bJ K H1 a xs)/\R (yF (yE K a)) H1)\/(∃a,vs=[.ref a]/\(∃xs,H1 a=⇑(.tup xs))/\R (yF (ft a)) H1)\/∃x,vs=[.str x]/\R (yF (xZ x)) H1
def NU(hc:X.calm=true)(hg:Gl X "enumerate")(hm:X.mg "enumerate"=none)(hv:bootBuiltins "enumerate"=⇑(.type "enumerate"))(hl:PA X [a] tl)
  (hs:autoParam (starEach [a] X.env=[(false,eval a X.env)]) rZ9):PI X (.Tuple elts kk tpos) (.Call (.Name "enumerate" p) [a] [] pos) (bq X.K tl):=by
 intro zS s σ H R I h;show wpAny_Call_Name_kw (Bg I hg hm hv ?_ ⋯ ⋯);show PyProof.Rows.callWith_type1 (Ah (hl pos zS s σ H _ I h) λus i zq=>?_) hs rfl;let#[vs,H1,L,U,q1]:=zq;let G:∀{J:It}{O:Nat->Heap->Prop}{h':Heap},tF X.prog X.w X.K J i.heap.objs.size O->R (yF J) H1->IsEnum h' (i.heap.objs.size+1) i.heap.objs.size 0 .none->O 0 h'->(∀b o,i.heap.get? b=⇑o->h'.get? b=⇑o)->
   wpAny (model X.prog X.w) X.A (pyIter (.ref (i.heap.objs.size+1))) (cu X zS σ (.Tuple elts kk tpos) R) X.xe {i with heap:=h'}:=λ{J O h'} S hR B ht F=>by
  show wpAny_pyIter_enum (s:={i with heap:=h'}) B ?_;show#[i.heap.objs.size+1,[i.heap.objs.size+1,i.heap.objs.size],_,_,H1,rfl,L.kept (t':=i.toks) F,Sd S (Nat.succ_ne_self _),#[#[_,B],ht],λb hb=>?_,hR];simp at hb;rcases hb with rfl|rfl
  .show L.fpOk (le_succ _) (L.hok.fresh (le_succ _))
  .show L.fpOk (q8 _) (L.hok.fresh (q8 _))
 rcases q1 with⟨b,e,⟨xs,hq⟩,q⟩|⟨b,e,⟨xs,hq⟩,q⟩|⟨x,e,q⟩
 .subst e;let#[u,rfl,M]:=vals1 U;cases M;let#[Z,rv,Y,hz]:=L.list hq;show call_enumerate_list Y.isList λh' B hi _ F=>G (JQ b _) q B hi F
 .subst e;let#[u,rfl,M]:=vals1 U;cases M;let#[Z,rv,Y,hz]:=L.tuple (bD.of hq);show QM Y λh' B hi F=>G (IZ b _) q B hi F
 .subst e;let#[u,rfl,M]:=vals1 U;let#[t,rfl]:=M;show call_enumerate_str λh' B hi _ F=>G (IQ _ x t) q B hi F
def GH{K:W.Frag}(hy:∀i H x H',J.yld i H x H'->H'=H)(h:fB K J l F0):fB K (yF J) (cA 0 l) F0:=λi ρ σ F G H sm B=>by let#[h1,h2]:=h i ρ σ F G H sm B;show#[λd hd=>?_,λO=>h2 (by rw[KE]at O;show O)];let#[e,he,rfl]:=KW l 0 i d hd;let#[g1,g2]:=h1 e he;show#[g1,λx H' Z=>?_];let#[p,y,M,I,ex,eH]:=Z;subst ex eH;let#[Y,s1,L,rp]:=g2 y H I;let#[U,_,_]:=L.free M;show#[upd Y p (.tup [.int i,y]),s1.trans (zy.upd U),L.newF M,?_];let:=aP.tup (K:=K) (F:=upd Y p (.tup [.int i,y])) (a:=p) (xs:=[.int i,y]) (ds:=[.int i,e]) AB (.cons (.int i) (.cons (rp.mono (zy.upd U)) .nil));simpa using this
def Kf{K:W.Frag}{a:Addr}(e:F0 a=⇑(.tup xs))(r:zQ K F0 xs l):fB K (ft a) l F0:=λi ρ σ F G H L B=>by let J:H a=⇑(.tup xs):=(L.trans B.fr) _ _ e;show#[λd U=>?_,λh=>#[xs,J,by rw[r.len];show h]];let#[x,M,O]:=r.get U;show#[#[xs,x,J,M],λy H' I=>?_];let#[rfl,I]:=I;let:x=y:=qf (M.symm.trans (I xs J));subst this;show#[F,zy.refl F,B,O.mono L]
def Vr:bootBuiltins "enumerate"=⇑(.type "enumerate"):=by decide+kernel
def Oy(hc:X.calm=true)(hg:Gl X "enumerate")(hm:X.mg "enumerate"=none)(hv:bootBuiltins "enumerate"=⇑(.type "enumerate"))(ha:FE X a we)(hs:autoParam (starEach [a] X.env=[(false,eval a X.env)]) rZ9):
  FI X (.Tuple elts kk tpos) (.Call (.Name "enumerate" p) [a] [] pos) (nA we):=λpn xe hp=>by
 show PI.imp (NU (X:=wp X pn xe) hc hg hm hv (Aa ha Ab hs pn xe hp) hs) λσ H R q=>?_;let#[F,G,ρ,P,PX,h1,hw,L,hx]:=q;show#[F,G,ρ,λZ O=>match Z with|[r]=>(zx (give r O) λp=>zx (items p.1.toD) λl=>P (cA 0 l) p.2)|_=>False,PX,h1,hw,λZ O vs F1 H1 i s1 r1 hl J=>?_,hx];match Z,vs,J,r1,i with
 |[r],[v],J,r1,i=>
  let#[#[s,I],eg,i]:=Ag i;let#[l,el,i]:=Ag i;let#[F2,s2,l2,r2]:=As (ρ':=[]) (σ':=[]) r1 hl J.1 eg;let#[F3,s3,rp,U]:=Rel.giveD (ρ:=I) (vs:=[v]) (ss:=[s]) r2 (l2.trans hl);let Y:=s1.trans (s2.trans s3);cases rp with
  |cons a0 b0=>
   let B:items s.toD=⇑l:=el;generalize s.toD=d at a0 B;cases a0 with
   |lst M r0=>cases B;show .inl #[_,rfl,#[_,bJ.mono U.fr M],L _ I F3 H1 _ i Y U (GH (λ_ _ _ _ z=>z.1) (GL M r0))]
   |tup M r0=>cases B;show .inr (.inl #[_,rfl,#[_,U.fr _ _ M],L _ I F3 H1 _ i Y U (GH (λ_ _ _ _ z=>z.1) (Kf M r0))])
   |str M z0=>cases B;show .inr (.inr #[_,rfl,L _ I F3 H1 _ i Y U (GH (λ_ _ _ _ z=>z.1) (Gw M))])
   |_=>cases B
 |[],_,_,_,i=>show i.elim
 |[_],[],J,_,_=>show J.elim
 |[_],_::_::_,J,_,_=>show J.2.elim
 |_::_::_,_,_,_,i=>show i.elim
end FL
namespace FL
open PySem PySem.Spec PyProof.Rows L2
structure nq(z TI TO i1 i2:Addr)(f1 f2:List Addr):Prop where
 a1:TI≠z
 a2:TO≠z
 a3:TI≠TO
 a4:TI≠i1
 a5:TI≠i2
 m1:i1∈f1
 m2:i2∈f2
 z1:z∉f1
 z2:z∉f2
 o1:TO∉f1
 o2:TO∉f2
 c1:i1∉f2
 c2:i2∉f1
section
variable{z TI TO i1 i2:Addr}
def AZ{f:List Addr}(B:a∈f)(i:b∉f):a≠b:=λq=>i (q▸B)
def OK{Q:zr}(Z:nq z TI TO i1 i2 f1 f2)(D1:Draws prog w A i1 f1 n1 P1 S1)(D2:Draws prog w A i2 f2 n2 P2 S2)
  (hz:IsZip s.heap z TI TO .none)(hI:IsPair s.heap TI (.ref i1) (.ref i2))(hO:IsPair s.heap TO a b)(t1:S1 k1 s.heap)(t2:S2 k2 s.heap)(l1:k1<n1)(l2:k2<n2)
  (k:∀x y h' tk,P1 k1 x->P2 k2 y->IsZip h' z TI TO (rawInt s.heap.objs.size)->(∃c d,IsPair h' TO c d)->S1 (k1+1) h'->S2 (k2+1) h'->IsPair h' s.heap.objs.size x y->
   (∀c o,c≠z->c≠TO->c≠i1->c≠i2->s.heap.get? c=⇑o->h'.get? c=⇑o)->Q (.ref s.heap.objs.size) {s with heap:=h',toks:=tk}):
  wpAny (model prog w) A (Builtin.«zip.__next__» #[[.ref z],[]]) (λhr s'=>∃v,hr=.done (.ret v)/\Q v s') E s:=by
 let hi:=AZ Z.m1 Z.z1;let hx:=AZ Z.m2 Z.z2;let hs:=AZ Z.m1 Z.o1;let hp:=AZ Z.m2 Z.o2;show wpAny _ _ (field (.ref z) 2>>=_) _ _ _;apply qa;show zc hz rfl (x:=.bool false) rfl ?_;apply qa;show zc hz rfl (x:=.ref TI) rfl ?_;apply qa;show wpAny_seqItems hI rfl ?_;apply qa;apply qa;show zc hz rfl (x:=.none) rfl (qb ?_);apply qa;apply wpAny_rule;apply qa;show zc hz rfl (x:=.ref TO) rfl ?_;apply qa;show zm hz (by simp) λha za sa=>?_;let h6:IsZip ha z TI TO .ellipsis:=za;apply qa;apply qa;apply qa;apply wpAny_onRaise;apply qa;let e4:S1 k1 ha:=D1.frame _ _ _ t1 λc I o q=>sa.extBut _ _ (AZ I Z.z1) q;let e1:S2 k2 ha:=D2.frame _ _ _ t2 λc I o q=>sa.extBut _ _ (AZ I Z.z2) q;show D1.item k1 _ _ _ l1 e4 λx hb tb px e3 Y=>qb ?_;let h4:IsPair hb TO a b:=Y.extBut _ _ (Ne.symm hs) (sa.extBut _ _ Z.a2 hO);apply qa;show wpAny_seqItems h4 rfl ?_;apply qa;show wpAny_updateSeq_pair h4 λI hm U=>?_;let h3:IsPair I TO x b:=hm;show qa (wpAny_letGo (qb ?_));apply qa;apply qa;apply wpAny_onRaise;apply qa;let h9:S2 k2 I:=D2.frame _ _ _ e1 λc i o q=>U.extBut _ _ (AZ i Z.o2) (Y.extBut _ _ (AZ i Z.c1) q);show D2.item k2 _ _ _ l2 h9 λy hd td py h8 O=>qb ?_;let h2:IsPair hd TO x b:=O.extBut _ _ (Ne.symm hp) h3;apply qa;show wpAny_seqItems h2 rfl ?_;apply qa;show wpAny_updateSeq_pair h2 λB hl M=>?_;let F:IsPair B TO x y:=hl;show qa (wpAny_letGo (qb (qb ?_)));apply qa;show wpAny_seqItems F rfl ?_;apply qa;show wpAny_newTuple ?_;let h1:B.objs.size=s.heap.objs.size:=by rw[M.1,O.1,U.1,Y.1,sa.1]
 let ze:IsZip B z TI TO .ellipsis:=M.extBut _ _ (Ne.symm Z.a2) (O.extBut _ _ (Ne.symm hx) (U.extBut _ _ (Ne.symm Z.a2) (Y.extBut _ _ (Ne.symm hi) h6)));let e2:S1 (k1+1) B:=D1.frame _ _ _ e3 λc i o q=>M.extBut _ _ (AZ i Z.o1) (O.extBut _ _ (AZ i Z.c2) (U.extBut _ _ (AZ i Z.o1) q));let h7:S2 (k2+1) B:=D2.frame _ _ _ h8 λc i o q=>M.extBut _ _ (AZ i Z.o2) q;let hk:∀c o,c≠z->c≠TO->c≠i1->c≠i2->s.heap.get? c=⇑o->B.get? c=⇑o:=λc o G q2 q3 q4 q=>M.extBut _ _ q2 (O.extBut _ _ q4 (U.extBut _ _ q2 (Y.extBut _ _ q3 (sa.extBut _ _ G q))));let J:z<B.objs.size:=qe ze;apply qa;let zf:IsZip (B.push {cls:=.type "tuple",data:=.seq [x,y].toArray}) z TI TO .ellipsis:=qc _ ze;apply qa;show zm zf (by simp) λhg zg sg=>?_;let h5:IsZip hg z TI TO (rawInt B.objs.size):=zg;show zm h5 (by simp) λhh zh sh=>?_;let L:IsZip hh z TI TO (rawInt B.objs.size):=zh;let up:∀c o,c≠z->B.get? c=⇑o->hh.get? c=⇑o:=λc o G q=>sh.extBut _ _ G (sg.extBut _ _ G (qc _ q));let pT:IsPair hh B.objs.size x y:=sh.extBut _ _ (ne_of_gt J) (sg.extBut _ _ (ne_of_gt J) (qd _ rfl));rw[h1]at L pT;show qb #[_,rfl,?_];rw[h1];show k x y hh _ px py L #[_,_,up _ _ Z.a2 F] (D1.frame _ _ _ e2 λc i o q=>up c o (AZ i Z.z1) q) (D2.frame _ _ _ h7 λc i o q=>up c o (AZ i Z.z2) q) pT λc o G q2 q3 q4 q=>up c o G (hk c o G q2 q3 q4 q)
def Rw(G:i1≠z)(hz:IsZip s.heap z TI TO .none)(hI:IsPair s.heap TI (.ref i1) (.ref i2))
  (d:∀i,Heap.SameBut z s.heap i->∀(Q:zr)(E:zr),(∀h' e,Heap.ExtBut i1 i h'->(∃o,h'.get? e=⇑o/\o.cls=.type "StopIteration")->E (.ref e) {s with heap:=h'})->wpAny (model prog w) A (Builtin.SmallTypes.nextOf (.ref i1)) Q E {s with heap:=i})
  (k:∀h' e,(∀c o,c≠z->c≠i1->s.heap.get? c=⇑o->h'.get? c=⇑o)->(∃o,h'.get? e=⇑o/\o.cls=.type "StopIteration")->E (.ref e) {s with heap:=h'}):
  wpAny (model prog w) A (Builtin.«zip.__next__» #[[.ref z],[]]) Q E s:=by
 show wpAny _ _ (field (.ref z) 2>>=_) _ _ _;apply qa;show zc hz rfl (x:=.bool false) rfl ?_;apply qa;show zc hz rfl (x:=.ref TI) rfl ?_;apply qa;show wpAny_seqItems hI rfl ?_;apply qa;apply qa;show zc hz rfl (x:=.none) rfl (qb ?_);apply qa;apply wpAny_rule;apply qa;show zc hz rfl (x:=.ref TO) rfl ?_;apply qa;show zm hz (by simp) λi Y M=>?_;let B:IsZip i z TI TO .ellipsis:=Y;apply qa;apply qa;apply qa;apply wpAny_onRaise;apply qa;show d i M _ _ λhb e J st=>?_;let#[Z,F,O]:=st;let I:IsZip hb z TI TO .ellipsis:=J _ _ (Ne.symm G) B;let ez:e≠z:=λq=>by subst q;rw[I]at F;cases F;simp at O
 show zm I (by simp) λhc _ L=>k hc e (λc o U c2 q=>L.extBut _ _ U (J _ _ c2 (M.extBut _ _ U q))) #[Z,L.extBut _ _ ez F,O]
def QK(D1:Draws prog w A i1 f1 n1 P1 S1)(m1:i1∈f1)(z1:z∉f1)(o1:TO∉f1)(F:TO≠z)(Y:i2≠z)
  (hz:IsZip s.heap z TI TO .none)(hI:IsPair s.heap TI (.ref i1) (.ref i2))(hO:IsPair s.heap TO a b)(t1:S1 k1 s.heap)(l1:k1<n1)
  (d:∀i tk,(∀c o,c≠z->c≠TO->c≠i1->s.heap.get? c=⇑o->i.get? c=⇑o)->∀(Q:zr)(E:zr),(∀h' e,Heap.ExtBut i2 i h'->(∃o,h'.get? e=⇑o/\o.cls=.type "StopIteration")->E (.ref e) {s with heap:=h',toks:=tk})->wpAny (model prog w) A (Builtin.SmallTypes.nextOf (.ref i2)) Q E {s with heap:=i,toks:=tk})
  (k:∀h' e tk,(∀c o,c≠z->c≠TO->c≠i1->c≠i2->s.heap.get? c=⇑o->h'.get? c=⇑o)->(∃o,h'.get? e=⇑o/\o.cls=.type "StopIteration")->E (.ref e) {s with heap:=h',toks:=tk}):
  wpAny (model prog w) A (Builtin.«zip.__next__» #[[.ref z],[]]) Q E s:=by
 let Z:=AZ m1 z1;let h1:=AZ m1 o1;show wpAny _ _ (field (.ref z) 2>>=_) _ _ _;apply qa;show zc hz rfl (x:=.bool false) rfl ?_;apply qa;show zc hz rfl (x:=.ref TI) rfl ?_;apply qa;show wpAny_seqItems hI rfl ?_;apply qa;apply qa;show zc hz rfl (x:=.none) rfl (qb ?_);apply qa;apply wpAny_rule;apply qa;show zc hz rfl (x:=.ref TO) rfl ?_;apply qa;show zm hz (by simp) λha za I=>?_;let L:IsZip ha z TI TO .ellipsis:=za;apply qa;apply qa;apply qa;apply wpAny_onRaise;apply qa;let M:S1 k1 ha:=D1.frame _ _ _ t1 λc i o q=>I.extBut _ _ (AZ i z1) q;show D1.item k1 _ _ _ l1 M λx hb tb px h2 G=>qb ?_;let B:IsPair hb TO a b:=G.extBut _ _ (Ne.symm h1) (I.extBut _ _ F hO);apply qa;show wpAny_seqItems B rfl ?_;apply qa;show wpAny_updateSeq_pair B λi h3 O=>?_;show qa (wpAny_letGo (qb ?_));apply qa;apply qa;apply wpAny_onRaise;apply qa;show d i tb (λc o J c2 c3 q=>O.extBut _ _ c2 (G.extBut _ _ c3 (I.extBut _ _ J q))) _ _ λhd e xd st=>?_;let#[oe,U,q2]:=st;let zd:IsZip hd z TI TO .ellipsis:=xd _ _ (Ne.symm Y) (O.extBut _ _ (Ne.symm F) (G.extBut _ _ (Ne.symm Z) L));let ez:e≠z:=λq=>by subst q;rw[zd]at U;cases U;simp at q2
 show zm zd (by simp) λhe _ se=>k he e tb (λc o J c2 c3 c4 q=>se.extBut _ _ J (xd _ _ c4 (O.extBut _ _ c2 (G.extBut _ _ c3 (I.extBut _ _ J q))))) #[oe,se.extBut _ _ ez U,q2]
end
def lr(B F:It):It:=#[λi H=>B.go i H/\F.go i H,λi H x H'=>∃p I G,H p=none/\B.yld i H I H/\F.yld i H G H/\x=.ref p/\H'=upd H p (.tup [I,G]),λi H=>B.stop i H\/(B.go i H/\F.stop i H)]
def Ri{P:Program}{w:World}{K:W.Frag}{J1 J2:It}{z TI TO i1 i2:Addr}{t1 t2:Nat->Heap->Prop}{elts:List Expr}{k:Nat}{pos:Pos}(S1:tF P w K J1 i1 t1)(S2:tF P w K J2 i2 t2)(nd:[z,TI,TO,i1,i2].Nodup):
  iQ P w K (.Tuple elts k pos) (lr J1 J2) [z,TI,TO,i1,i2] z (λi h=>IsZip h z TI TO .none/\IsPair h TI (.ref i1) (.ref i2)/\(∃a b,IsPair h TO a b)/\t1 i h/\t2 i h) where
 mem:=m1
 obj:=λi h st b hb=>by
  let#[hz,hI,#[a,c,hO],q1,q2]:=st;simp at hb;rcases hb with rfl|rfl|rfl|rfl|rfl
  .show#[_,hz,λv z=>by cases z]
  .show#[_,hI,λv z=>by cases z]
  .show#[_,hO,λv z=>by cases z]
  .obtain⟨o,e1,e2,_⟩:=S1.live i h q1;show#[o,e1,e2]
  .obtain⟨o,e1,e2,_⟩:=S2.live i h q2;show#[o,e1,e2]
 keep:=λi h h' st kk=>by let#[hz,hI,#[a,c,hO],q1,q2]:=st;show#[kk _ (m1) _ hz,kk _ (m2) _ hI,#[a,c,kk _ (m3) _ hO],S1.keep i h h' q1 λo e=>kk _ (m4) o e,S2.keep i h h' q2 λo e=>kk _ (m5) o e]
 item:=by
  intro X hP hw hK hc i zS s σ H E I hf st hg;show cps λG kk=>?_;let#[hz,hI,#[a,c,hO],q1,q2]:=st;let hh:X.A.in1.handled=none:=I.ok.hd hc;let#[f1,n1,P1,T1,D1,u1,l1,m1,e1,v1,w1]:=S1.item X hP hw hK i zS s σ H X.A.in1 hh I q1 (hf i1 (m4)).1 hg.1;let#[f2,n2,P2,T2,D2,u2,l2,m2,e2,v2,w2]:=S2.item X hP hw hK i zS s σ H X.A.in1 hh I q2 (hf i2 (m5)).1 hg.2;let#[o1,g1,_,_,_,_,cl1]:=S1.live i _ q1;let#[o2,g2,_,_,_,_,cl2]:=S2.live i _ q2;simp only[qK,qA,not_mem_nil,or_false,not_or]at nd;let#[#[d1,d2,d3,d4],#[d5,d6,d7],#[d8,d9],d10,_]:=nd;let hn:∀b∈[z,TI,TO,i1,i2],H b=none:=λb hb=>(hf b hb).1;let out:∀{f:List Addr}{it b:Addr}{ob:Obj},(∀x∈f,x=it\/(H x≠none/\∃o,s.heap.get? x=⇑o/\o.cls=.type "tuple")\/∃o,s.heap.get? x=⇑o/\o.cls=.type "list")->b≠it->H b=none->s.heap.get? b=⇑ob->ob.cls≠.type "list"->b∉f:=λ{f it b ob} hf0 n1 n2 g n3 m=>by grind
  let zl:Value.type "zip"≠Value.type "list":=⋯
  let tl:Value.type "tuple"≠Value.type "list":=⋯
  let Z:nq z TI TO i1 i2 f1 f2:=#[Ne.symm d1,Ne.symm d2,d5,d6,d7,m1,m2,out e1 d3 (hn z (by simp)) hz zl,out e2 d4 (hn z (by simp)) hz zl,out e1 d8 (hn TO (by simp)) hO tl,out e2 d9 (hn TO (by simp)) hO tl,out e2 d10 (hn i1 (by simp)) g1 cl1,out e1 (Ne.symm d10) (hn i2 (by simp)) g2 cl2]
  have lt:∀b∈[z,TI,TO,i1,i2],b<s.heap.objs.size:=λb hb=>by
   simp at hb;rcases hb with rfl|rfl|rfl|rfl|rfl
   .show qe hz
   .show qe hI
   .show qe hO
   .show qe g1
   .show qe g2
  let ty:s.TypeIs (.ref z) "zip":=#[_,hz,rfl]
  show kk ?_;apply qa;apply wpAny_attempt;show wpAny_callSpecial?_slot (name:=Str.ofString "__next__") ty F.slot_zip_next (zj F.slot_zip_next ty F.entry_zip_next (OK Z D1 D2 hz hI hO u1 u2 l1 l2 λx y h1 tk px py hz1 hO1 t1' t2' hT hk=>?_) (F.args_zip_next_1 _));show qb #[_,rfl,?_];show cps λ_ kk=>?_;let#[y1,ry1,hy1]:=v1 x px;let#[y2,ry2,hy2]:=v2 y py;show kk ?_;show wpAny_letOwnedTupleGo_zip hz1 λh2 hz2 sb=>?_;let nT:s.heap.objs.size≠z:=ne_of_gt (qe hz);let I2:Inv X zS σ (upd H s.heap.objs.size (.tup [y1,y2])) {s with heap:=h2,toks:=tk}:=LS I (ch:=[z,TI,TO,i1,i2]) (us:=[x,y]) hf lt (by show 2<=_;decide) (.cons ry1 (.cons ry2 .nil)) #[_,sb.extBut _ _ nT hT,rfl,rfl,_,rfl] λb o hb q=>by simp at hb;show sb.extBut _ _ hb.1 (hk b o hb.1 hb.2.2.1 hb.2.2.2.1 hb.2.2.2.2 q)
  let#[ca,cb,hO1]:=hO1;show#[.ref s.heap.objs.size,_,I2,rfl,#[s.heap.objs.size,y1,y2,I.hok.fresh (q8 _),hy1,hy2,rfl,rfl],#[hz2,sb.extBut _ _ (Ne.symm d1) (hk _ _ (Ne.symm d1) d5 d6 d7 hI),#[_,_,sb.extBut _ _ (Ne.symm d2) hO1],S1.keep _ _ _ (w1 _ t1') λo q=>sb.extBut _ _ (Ne.symm d3) q,S2.keep _ _ _ (w2 _ t2') λo q=>sb.extBut _ _ (Ne.symm d4) q],λb hb=>?_];grind[Aj,ne_of_lt]
 done:=by
  intro X hP hw hK hc i zS s σ H E I hf st hg;show cps λG kk=>?_;let#[hz,hI,#[a,c,hO],q1,q2]:=st;let hh:X.A.in1.handled=none:=I.ok.hd hc;simp only[qK,qA,not_mem_nil,or_false,not_or]at nd;let#[#[d1,d2,d3,d4],#[d5,d6,d7],#[d8,d9],d10,_]:=nd;let ty:s.TypeIs (.ref z) "zip":=#[_,hz,rfl]
  let stop:∀(h':Heap)(e:Addr)(tk:Nat),(∀b o,b≠z->b≠TO->b≠i1->b≠i2->s.heap.get? b=⇑o->h'.get? b=⇑o)->Inv X zS σ H {s with heap:=h',toks:=tk}:=λh' e tk hk=>DN I (ch:=[z,TI,TO,i1,i2]) hf λb o hb q=>by grind
  show kk ?_;apply qa;apply wpAny_attempt;rcases hg with hg|⟨hg1,hg2⟩
  .refine wpAny_callSpecial?_slot (name:=Str.ofString "__next__") ty F.slot_zip_next (zj F.slot_zip_next ty F.entry_zip_next (Rw (Ne.symm d3) hz hI (λha sa=>?_) λh' e hk st=>?_) (F.args_zip_next_1 _))
   .let Ia:Inv X zS σ H {s with heap:=ha}:=DN I (t':=s.toks) (ch:=[z]) (λb hb=>hf b (by simp at hb;simp[hb])) λb o hb q=>sa.extBut _ _ ↑hb q;show S1.done X hP hw hK i zS {s with heap:=ha} σ H X.A.in1 hh Ia (S1.keep _ _ _ q1 λo q=>sa.extBut _ _ (Ne.symm d3) q) hg
   .obtain⟨o,r1,r2⟩:=st;show qa (wpAny_isInstance (T:="StopIteration") (b:=true) #[o,r1,r2] isSubtype_stop (qb #[rfl,stop h' e s.toks λb o c1 c2 c3 c4 q=>hk b o c1 c3 q]))
  .obtain⟨f1,n1,P1,T1,D1,u1,l1,m1,e1,v1,w1⟩:=S1.item X hP hw hK i zS s σ H X.A.in1 hh I q1 (hf i1 (m4)).1 hg1;let hn:∀b∈[z,TI,TO,i1,i2],H b=none:=λb hb=>(hf b hb).1;let out:∀{f:List Addr}{it b:Addr}{ob:Obj},(∀x∈f,x=it\/(H x≠none/\∃o,s.heap.get? x=⇑o/\o.cls=.type "tuple")\/∃o,s.heap.get? x=⇑o/\o.cls=.type "list")->b≠it->H b=none->s.heap.get? b=⇑ob->ob.cls≠.type "list"->b∉f:=λ{f it b ob} hf0 n1 n2 g n3 m=>by grind
   let zl:Value.type "zip"≠Value.type "list":=⋯
   let tl:Value.type "tuple"≠Value.type "list":=⋯
   subst hP hw;show wpAny_callSpecial?_slot (name:=Str.ofString "__next__") ty F.slot_zip_next (zj F.slot_zip_next ty F.entry_zip_next (QK D1 m1 (out e1 d3 (hn z (by simp)) hz zl) (out e1 d8 (hn TO (by simp)) hO tl) (Ne.symm d2) (Ne.symm d4) hz hI hO u1 l1 (λhc2 tk sa=>?_) λh' e tk hk st=>?_) (F.args_zip_next_1 _))
   .let Ia:Inv X zS σ H {s with heap:=hc2,toks:=tk}:=DN I (ch:=[z,TO,i1]) (λb hb=>hf b (by simp at hb;rcases hb with q|q|q<;>simp[q])) λb o hb q=>by grind
    show S2.done X rfl rfl hK i zS {s with heap:=hc2,toks:=tk} σ H X.A.in1 hh Ia (S2.keep _ _ _ q2 λo q=>sa _ _ (Ne.symm d4) (Ne.symm d9) (Ne.symm d10) q) hg2
   .obtain⟨o,r1,r2⟩:=st;show qa (wpAny_isInstance (T:="StopIteration") (b:=true) #[o,r1,r2] isSubtype_stop (qb #[rfl,stop h' e tk hk]))
 self:=λA i s Q E st h=>wpAny_pyIter_zip st.1 h
def oO(v:Value)(o:Obj)(s:Shared):Prop:=∀(prog:Program)(w:World)(A:Around)(Q:zr)(E:zr),Q (.ref s.heap.objs.size) {s with heap:=s.heap.push o}->wpAny (model prog w) A (pyIter v) Q E s
abbrev zA(h:Heap)(i:Obj):Heap:=h.push i
abbrev zB(h:Heap)(B i:Obj):Heap:=(zA h B).push i
abbrev zC(h:Heap)(i B:Obj):Heap:=(zB h i B).push {cls:=.type "tuple",data:=.seq [.ref h.objs.size,.ref (zA h i).objs.size].toArray}
abbrev zD(h:Heap)(B i:Obj):Heap:=(zC h B i).push {cls:=.type "tuple",data:=.seq [.none,.none].toArray}
abbrev zE(h:Heap)(B i:Obj):Heap:=(zD h B i).push {cls:=.type "zip",data:=.fields [.none,.bool false,.bool false,.ref (zB h B i).objs.size,.ref (zC h B i).objs.size].toArray}
def Pm(L J:Value)(i B:Obj):Meets (Builtin.«zip.__new__» #[[.type "zip",L,J],[]]) (λ_ R s=>oO L i s/\oO J B {s with heap:=zA s.heap i}/\R (.ok (.ret (.ref (zD s.heap i B).objs.size))) {s with heap:=zE s.heap i B}):=
 .of_wp λprog w A R s I=>by
  let#[Z,g,d,tk,os]:=s;let#[O,M,U]:=I;let Y:=sub_zip;let G:=λ(A:Around)(Q:zr)(E:zr)=>O prog w A Q E;let F:=λ(A:Around)(Q:zr)(E:zr)=>M prog w A Q E
  wp_walk using G,F
  show#[_,rfl,U]
def Nu(m1:oO U i s)(m2:oO O B {s with heap:=zA s.heap i})(f1:i.isFreed=false)(f2:B.isFreed=false)
  (k:∀h',IsZip h' (s.heap.objs.size+4) (s.heap.objs.size+2) (s.heap.objs.size+3) .none->IsPair h' (s.heap.objs.size+2) (.ref s.heap.objs.size) (.ref (s.heap.objs.size+1))->IsPair h' (s.heap.objs.size+3) .none .none->
   h'.get? s.heap.objs.size=⇑i->h'.get? (s.heap.objs.size+1)=⇑B->(∀c o,s.heap.get? c=⇑o->h'.get? c=⇑o)->Q (.ref (s.heap.objs.size+4)) {s with heap:=h'}):
  wpAny (model prog w) A (call (.type "zip") [U,O]) Q E s:=by
 show callType_new F.called_zip ⋯ (F.typeCall_zip_2 _ _) (F.newCall_zip_2 _ _) (λL=>F.args_object_init_3 L _ _) F.entry_zip_new (Pm U O i B) #[m1,m2,?_];let J:(zA s.heap i).objs.size=s.heap.objs.size+1:=Heap.size_push ..;let I:(zB s.heap i B).objs.size=s.heap.objs.size+2:=by rw[Heap.size_push,J]
 let G:(zC s.heap i B).objs.size=s.heap.objs.size+3:=by rw[Heap.size_push,I]
 let Y:(zD s.heap i B).objs.size=s.heap.objs.size+4:=by rw[Heap.size_push,G]
 let M:(zE s.heap i B).get? (zD s.heap i B).objs.size=⇑_:=qd _ rfl;let Z:(zE s.heap i B).get? (zC s.heap i B).objs.size=⇑_:=qc _ (qd _ rfl);let g3:(zE s.heap i B).get? (zB s.heap i B).objs.size=⇑_:=qc _ (qc _ (qd _ rfl));let g2:(zE s.heap i B).get? (zA s.heap i).objs.size=⇑B:=qc _ (qc _ (qc _ (qd _ f2)));let g1:(zE s.heap i B).get? s.heap.objs.size=⇑i:=qc _ (qc _ (qc _ (qc _ (qd _ f1))));rw[I,G,Y]at M;rw[J,I]at g3;rw[G]at Z;rw[J]at g2;rw[Y];show#[#[_,M,rfl],k _ M g3 Z g1 g2 λc o x=>qc _ (qc _ (qc _ (qc _ (qc _ x))))]
def sL(X:Cx)(H:Hp)(v:V)(J:It):Prop:=(∃a xs,v=.ref a/\bJ X.K H a xs/\J=yE X.K a)\/(∃a xs,v=.ref a/\H a=⇑(.tup xs)/\J=ft a)\/∃x,v=.str x/\J=xZ x
def Jz(I:Inv X zS σ H s)(r:zH v u)(h:sL X H v J):
  ∃o:Obj,oO u o s/\o.isFreed=false/\∀i,∃L,tF X.prog X.w X.K J i L/\∀h':Heap,h'.get? i=⇑o->L 0 h':=by
 rcases h with⟨a,xs,rfl,G,rfl⟩|⟨a,xs,rfl,G,rfl⟩|⟨x,rfl,rfl⟩
 .cases r;let#[F,M,B,O]:=I.list G;show#[{cls:=.type "list_iterator",data:=.fields [.ref a,.int 0 0].toArray},λprog w A Q E k=>wpAny_pyIter_list B.isList k,rfl,λi=>#[_,JQ a i,λh' e=>#[_,e,rfl,rfl]]]
 .cases r;let#[F,M,B,O]:=I.tuple (bD.of G);show#[{cls:=.type "tuple_iterator",data:=.fields [.ref a,.int 0 0].toArray},λprog w A Q E k=>wpAny_pyIter_tuple B k,rfl,λi=>#[_,IZ a i,λh' e=>#[_,e,rfl,rfl]]]
 .obtain⟨t,rfl⟩:=r;show#[{cls:=.type (strIterType x),data:=.fields [.str x t,.int 0 0].toArray},λprog w A Q E k=>wpAny_pyIter_strU k,rfl,λi=>#[_,IQ i x t,λh' e=>#[_,e,rfl,rfl]]]
def ku(X:Cx)(I:TA):TI:=λσ H R=>I σ H λvs H1=>∃B i G F,vs=[B,i]/\sL X H1 B G/\sL X H1 i F/\R (lr G F) H1
def Na(hc:X.calm=true)(hg:Gl X "zip")(hm:X.mg "zip"=none)(hv:bootBuiltins "zip"=⇑(.type "zip"))(hl:PA X [a,b] O)
  (hs:autoParam (starEach [a,b] X.env=[(false,eval a X.env),(false,eval b X.env)]) rZ9)(F:autoParam (starEach [b] X.env=[(false,eval b X.env)]) rZ9):PI X (.Tuple elts kk tpos) (.Call (.Name "zip" p) [a,b] [] pos) (ku X O):=by
 intro zS s σ H R I h;show wpAny_Call_Name_kw (Bg I hg hm hv ?_ ⋯ ⋯);show PyProof.Rows.callWith_type1 (Ah (hl pos zS s σ H _ I h) λus i M=>?_) (by rw[hs,F]) (by rw[F];rfl);let#[vs,H1,B,Z,q1]:=M;let#[v1,v2,J1,J2,rfl,k1,k2,q]:=q1;cases Z with
 |cons Y J=>
  cases J with
  |cons J U=>
   cases U;let#[o1,m1,f1,g1]:=Jz B Y k1;let I2:Inv X zS σ H1 {i with heap:=zA i.heap o1}:=B.kept (t':=i.toks) λ_ _ e=>qc _ e;let#[o2,m2,f2,g2]:=Jz I2 J k2;show Nu m1 m2 f1 f2 λh' L hI hO e1 e2 kp=>?_;let#[t1,S1,b1]:=g1 i.heap.objs.size;let#[t2,S2,b2]:=g2 (i.heap.objs.size+1);show wpAny_pyIter_zip (s:={i with heap:=h'}) L ?_;let lt:∀k:Nat,i.heap.objs.size<=i.heap.objs.size+k:=λk=>Nat.le_add_right _ _;show#[i.heap.objs.size+4,[i.heap.objs.size+4,i.heap.objs.size+2,i.heap.objs.size+3,i.heap.objs.size,i.heap.objs.size+1],_,_,H1,rfl,B.kept (t':=i.toks) kp,Ri S1 S2 ?_,#[L,hI,#[_,_,hO],b1 h' e1,b2 h' e2],λc G=>?_,q]
   .simp
   .simp at G;rcases G with rfl|rfl|rfl|rfl|rfl
    .show B.fpOk (lt 4) (B.hok.fresh (lt 4))
    .show B.fpOk (lt 2) (B.hok.fresh (lt 2))
    .show B.fpOk (lt 3) (B.hok.fresh (lt 3))
    .show B.fpOk (lt 0) (B.hok.fresh (lt 0))
    .show B.fpOk (lt 1) (B.hok.fresh (lt 1))
def PY{K:W.Frag}(h1:fB K J1 l F0)(h2:fB K J2 m F0):fB K (lr J1 J2) (dN l m) F0:=λi ρ σ F G H L B=>by
 let#[p1,p2]:=h1 i ρ σ F G H L B;let#[q1,q2]:=h2 i ρ σ F G H L B;show#[λd hd=>?_,λhl=>?_]
 .obtain⟨e,f,he,hf,rfl⟩:=Ka l m i d hd;let#[g1,g2]:=p1 e he;let#[g3,g4]:=q1 f hf;show#[#[g1,g3],λx H' zq=>?_];show cps λ_ kk=>?_;let#[p,J,I,hp,Y,U,ex,eH]:=zq;subst ex eH;let#[F1,s1,r1,O]:=g2 J H Y;let#[F2,s2,r2,M]:=(h2 i ρ σ F1 G H (L.trans s1) r1).1 f hf|>.2 I H U;let#[f0,_,_]:=r2.free hp;show kk ?_;show⟨upd F2 p (.tup [J,I]),(s1.trans s2).trans (zy.upd f0),r2.newF hp,.tup (xs:=[J,I]) AB (.cons ((O.mono s2).mono (zy.upd f0)) (.cons (M.mono (zy.upd f0)) .nil))⟩
 .rw[JU]at hl;by_cases h:l.length<=i
  .show .inl (p2 h)
  .let Z:i<l.length:=by lia
   show .inr #[(p1 l[i] (getElem?_eq_getElem Z)).1,q2 ∅]
def MW:bootBuiltins "zip"=⇑(.type "zip"):=by decide+kernel
def Jv(G:zy F H)(r:aP X.K F v d)(e:items d=⇑l):∃J,sL (wp X pn xe) H v J/\fB X.K J l F:=by
 cases r with
 |lst i B=>cases e;show#[_,.inl #[_,_,rfl,bJ.mono G i,rfl],GL i B]
 |tup i B=>cases e;show#[_,.inr (.inl #[_,_,rfl,G _ _ i,rfl]),Kf i B]
 |str i I=>cases e;show#[_,.inr (.inr #[_,rfl,rfl]),Gw i]
 |_=>cases e
def MQ(hc:X.calm=true)(hg:Gl X "zip")(hm:X.mg "zip"=none)(hv:bootBuiltins "zip"=⇑(.type "zip"))(ha:FE X a wa)(hb:FE X b wb)(hs:autoParam (starEach [a,b] X.env=[(false,eval a X.env),(false,eval b X.env)]) rZ9)(M:autoParam (starEach [b] X.env=[(false,eval b X.env)]) rZ9):
  FI X (.Tuple elts kk tpos) (.Call (.Name "zip" p) [a,b] [] pos) (tU wa wb):=λpn xe hp=>by
 show PI.imp (Na (X:=wp X pn xe) hc hg hm hv (Aa ha (Aa hb Ab M) (by rw[hs,M]) pn xe hp) hs M) λσ H R q=>?_;let#[F,G,ρ,P,PX,Y,hw,h1,hx]:=q;show#[F,G,ρ,λrs i=>match rs with|[r,t]=>(zx (give r i) λp=>zx (give t p.2) λq=>zx (items p.1.toD) λl=>zx (items q.1.toD) λm=>P (dN l m) q.2)|_=>False,PX,Y,hw,λrs i vs F1 H1 B s1 r1 hl L=>?_,hx];match rs,vs,L,r1,B with
 |[r,t],[v,u],L,r1,B=>
  dsimp only at B;show cps λ_ kk=>?_;let#[#[s,J],eg,B]:=Ag B;let#[#[s',I],h2,B]:=Ag B;let#[l,el,B]:=Ag B;let#[m,em,B]:=Ag B;obtain⟨O,U,ss,e3,l3,r3⟩:∃O,zy F1 O/\∃ss,ss=[s,s']/\I.length=i.length/\Rel X.K (I++ss.map some) (σ++[v,u].map some) O G H1:=by
   let e:aJ [r,t] i=⇑([s,s'],I):=by show(match give r i with|some (s,i)=>(match aJ [t] i with|some (ss,J)=>⇑(s::ss,J)|none=>none)|none=>none)=_;rw[eg];show(match(match give t J with|some (s,i)=>⇑([s],i)|none=>none)with|some (ss,J)=>⇑(s::ss,J)|none=>none)=_;rw[h2]
   let#[O,U,l2,z,r2]:=DP (rs:=[r,t]) (vs:=[v,u]) (ρ':=[]) (σ':=[]) r1 hl L e;show#[O,U,_,rfl,l2,↑r2]
  subst e3;let#[F3,s3,rp,Z]:=Rel.giveD (ρ:=I) (vs:=[v,u]) (ss:=[s,s']) r3 (l3.trans hl);show kk ?_;let sm:=s1.trans (U.trans s3);cases rp with
  |cons a0 b0=>
   cases b0 with
   |cons b0 n0=>let#[J1,k1,i1]:=Jv (pn:=pn) (xe:=xe) Z.fr a0 el;let#[J2,k2,i2]:=Jv (pn:=pn) (xe:=xe) Z.fr b0 em;show#[v,u,J1,J2,rfl,k1,k2,h1 _ I F3 H1 _ B sm Z (PY i1 i2)]
 |[],_,_,_,B=>show B.elim
 |[_],_,_,_,B=>show B.elim
 |[_,_],[],L,_,_=>show L.elim
 |[_,_],[_],L,_,_=>show L.2.elim
 |[_,_],_::_::_::_,L,_,_=>show L.2.2.elim
 |_::_::_::_,_,_,_,B=>show B.elim
end FL
namespace FL
open Classical in
def lW(ks:List D)(k:D):Option Nat:=ks.findIdx? λx=>↥(x=k)
def bW(t:Bool)(ks:List D)(l:List S)(k:D)(s:S):S:=match lW ks k with
 |some i=>.dct t ks (l.set i s)
 |none=>.dct t (ks++[k]) (l++[s])
def nB(j:Nat)(i e:WE):WS:=λD ρ=>e ρ (λr G=>zt j G (λx F=>i F (λy B=>zx (view y B) λq=>zx (give r B) λp=>match x,slot p.2 j with
 |.loc k,some (.dct t ks l)=>k=j/\bP t q=true/\ks.Nodup/\ks.length<big/\D.nx (p.2.set j ⇑(bW t ks l q p.1))
 |_,_=>False) D.ex) D.ex) D.ex
end FL
namespace FL
open PySem PySem.Spec PyProof.Rows L2
def Ku(h:lW ks k=⇑i):ks[i]?=⇑k:=by unfold lW at h;rw[List.findIdx?_eq_some_iff_getElem]at h;let#[hi,h1,_]:=h;rw[getElem?_eq_getElem hi];congr 1;simpa using h1
def Rl(h:lW ks k=none):k∉ks:=by unfold lW at h;grind
section
variable{κ:Type}[DecidableEq κ]{kd:κ->D}(inj:∀a b,kd a=kd b->a=b)
include inj
def Rk{zT:List (κ×V)}{k:κ}{v:V}{i:Nat}(hn:(zT.map λp=>kd p.1).Nodup)(h:(zT.map λp=>kd p.1)[i]?=⇑(kd k)):cJ zT k v=zT.set i (k,v):=by
 let hi:i<zT.length:=by let:=(qg.mp h).1;simpa using this
 let I:zT[i].1=k:=by rw[qE,getElem?_eq_getElem hi]at h;show inj _ _ (qf h)
 let B:(zT.any λJ=>↥(J.1=k))=true:=any_eq_true.mpr #[zT[i],getElem_mem hi,by simp[I]];unfold cJ;rw[qZ B];apply ext_getElem?;intro j;rw[qE,getElem?_set];by_cases G:i=j
 .subst G;rw[getElem?_eq_getElem hi];simp[I];show hi
 .rw[q5 G];cases q:zT[j]? with
  |none=>rfl
  |some p=>
   have F:¬p.1=k:=λz=>by
    apply G;let h2:(zT.map λp=>kd p.1)[j]?=⇑(kd k):=by rw[qE,q,<-z];rfl
    show(List.getElem?_inj ↑hi hn).mp (h.trans h2.symm)
   simp[F]
omit inj in
def RE{zT:List (κ×V)}{k:κ}{v:V}(h:kd k∉zT.map λp=>kd p.1):cJ zT k v=zT++[(k,v)]:=by unfold cJ;grind
def IX{zT:List (κ×V)}{k:κ}{v:V}{ks:List D}(B:ks=zT.map λp=>kd p.1)(hn:ks.Nodup):
  (∀m,lW ks (kd k)=⇑m->ks=(cJ zT k v).map (λp=>kd p.1)/\(zT.map (·.2)).set m v=(cJ zT k v).map (·.2))/\(lW ks (kd k)=none->ks++[kd k]=(cJ zT k v).map (λp=>kd p.1)/\zT.map (·.2)++[v]=(cJ zT k v).map (·.2)):=by
 subst B;show#[λm i=>?_,λi=>?_]
 .let h:=Ku i;rw[Rk inj hn h,map_set,map_set];show#[?_,rfl];apply ext_getElem?;intro j;rw[getElem?_set];by_cases F:m=j
  .subst F;rw[qZ rfl,qZ (qg.mp h).1,h]
  .rw[q5 F]
 .rw[RE (Rl i),map_append,map_append];show#[rfl,rfl]
end
inductive mK(ks:List D)(xs:List V):Bool->HO->Prop
 |k {zT:List (bX×V)}:ks=zT.map (λp=>aY p.1)->xs=zT.map (·.2)->mK ks xs false (.dK zT)
 |t {zT:List (List bX×V)}:ks=zT.map (λp=>D.tup (p.1.map aY))->xs=zT.map (·.2)->mK ks xs true (.dT zT)
section
variable{K:W.Frag}
def GE(r:aN K F H v (.dct t ks l) fp):∃a o xs i,v=.ref a/\fp=a::i/\H a=⇑o/\mK ks xs t o/\zG K F H xs l i:=by
 cases r with
 |dK e q r=>show#[_,_,_,_,rfl,rfl,e,.k q rfl,r]
 |dT e q r=>show#[_,_,_,_,rfl,rfl,e,.t q rfl,r]
def mK.mk{a:Addr}{o:HO}{t:Bool}{ks:List D}{xs:List V}{l:List S}{i:List Addr}(d:mK ks xs t o)(e:H a=⇑o)(r:zG K F H xs l i):aN K F H (.ref a) (.dct t ks l) (a::i):=by
 cases d with
 |k q z=>subst z;show .dK e q r
 |t q z=>subst z;show .dT e q r
def mK.len{o:HO}{t:Bool}{ks:List D}{xs:List V}(d:mK ks xs t o):ks.length=xs.length:=by
 cases d with
 |k q z=>subst z;subst q;simp
 |t q z=>subst z;subst q;simp
def mK.put{a:Addr}{o:HO}{t:Bool}{ks:List D}{xs:List V}{y v:V}{q:D}(d:mK ks xs t o)(e:H a=⇑o)(r:aP K H y q)(M:bP t q=true)(hn:ks.Nodup)(L:ks.length<sizeLine):
  ∃o',oU H a y v (upd H a o')/\(∀m,lW ks q=⇑m->mK ks (xs.set m v) t o')/\(lW ks q=none->mK (ks++[q]) (xs++[v]) t o'):=by
 cases d with
 |@k F h1 h2=>subst h2;let#[J,rfl,rfl]:=DB r M;let#[I,G]:=IX (λ_ _=>DS) (k:=J) (v:=v) h1 hn;show#[_,.inl #[F,J,e,rfl,by rw[h1,qh]at L;show L,rfl],λm i=>.k (I m i).1 (I m i).2,λi=>.k (G i).1 (G i).2]
 |@t F h1 h2=>
  subst h2;cases r with
  |tup O q=>let#[B,rfl,rfl]:=Gu q M;let#[I,G]:=IX (kd:=λl:List bX=>D.tup (l.map aY)) (λa b z=>ES (D.tup.inj z)) (k:=B) (v:=v) h1 hn;show#[_,.inr #[F,B,_,e,rfl,O,by rw[h1,qh]at L;show L,rfl],λm i=>.t (I m i).1 (I m i).2,λi=>.t (G i).1 (G i).2]
  |_=>cases M
def Rel.dct{D:Addr}(r:Rel K (ρ++[⇑s]) (σ++[⇑v]) F G H)(hs:slot ρ n=⇑(.dct t ks l))(J:σ[n]?=⇑⇑(.ref D))(hD:H D=⇑o)(ho:mK ks xs t o)(h6:mK ks' h2 t o')
  (h7:∀(H':Hp)(O fs:List Addr),zG K F H' xs l O->aN K F H' v s fs->∃i rest,zG K F H' h2 l' i/\(i++rest).Perm (O++fs)):
  Rel K (ρ.set n ⇑(.dct t ks' l')) σ F G (upd H D o'):=by
 let hl:=Af r;let#[fp,e,nd,ap]:=r.en;let#[f1,f2,rfl,a,b]:=e.cut hl;let#[v',Y,fi,U,e1,rfl,q,up]:=a.at hs;rw[J]at e1;let e2:V.ref D=v':=↑e1
 subst e2;let#[a',o2,h1,O,z1,rfl,M,L,rl]:=GE q;cases z1;rw[hD]at M;cases M;let ex:h1=xs:=by
  cases ho with
  |k _ z=>cases L with|k _ z'=>rw[z,z']
  |t _ z=>cases L with|t _ z'=>rw[z,z']
 subst ex;cases b with
 |so sr nl=>
  cases nl;rename_i fs;let#[n1,n2,h5]:=qw.mp nd;let#[na,B,h4]:=qw.mp n1;let#[ni,nb,B]:=qw.mp B;let#[nD,e4]:=qK.mp ni;let e3:D∉Y:=λz=>h4 D z D (qj _ qm) rfl;let h9:D∉U:=λz=>B D qm D z rfl;let h8:D∉fs:=λz=>h5 D (qi _ (qj _ qm)) D ↑z rfl;let Z:=ap D (qj _ (qi _ (qj _ qm)));let ne:∀{l:List Addr},D∉l->∀x∈l,upd H D o' x=H x:=λh x I=>Aj λz=>h (z▸I);let#[i,rest,h3,pm]:=h7 (upd H D o') O fs (rl.mono (zy.refl F) (ne nD)) (sr.mono (zy.refl F) (ne h8));let a2:=up (F':=F) (H':=upd H D o') (o:=⇑(.dct t ks' l')) (u:=⇑(.ref D)) (zy.refl F) (λx I=>Aj λz=>(qx.mp I).elim (λw=>e3 (z▸w)) λw=>h9 (z▸w)) (.so (h6.mk AB h3) .nil);rw[GR J]at a2;let p:(Y++((D::(i++rest))++[]++U)).Perm (Y++((D::O)++U)++(fs++[])):=by show(List.Perm.append_left _ (List.Perm.append_right _ (List.Perm.append_right _ (List.Perm.cons _ pm)))).trans ?_;simp;show List.Perm.append_left _ (List.Perm.cons _ (List.Perm.append_left _ qM))
  let sb:List.Sublist (Y++((D::i)++[]++U)) (Y++((D::(i++rest))++[]++U)):=by simp only[qo,qN];show List.Sublist.append (List.Sublist.refl _) (List.Sublist.cons_cons _ (List.Sublist.append (List.Sublist.refl _) (List.sublist_append_right _ _)))
  show#[zy.updR r.fr Z.1,λx o w=>?_,_,a2,sb.nodup (p.nodup_iff.mpr nd),λx I=>ap x (p.mem_iff.mp (sb.subset I))];let I:x≠D:=λz=>by rw[z,Z.2]at w;cases w
  rw[Aj I];show r.gr x o w
def Rel.dput{D:Addr}(r:Rel K (ρ++[⇑s]) (σ++[⇑v]) F G H)(M:slot ρ n=⇑(.dct t ks l))(i:σ[n]?=⇑⇑(.ref D))(ry:aP K H y q)(hk:bP t q=true)(hn:ks.Nodup)(hb:ks.length<big):
  ∃H',oU H D y v H'/\Rel K (ρ.set n ⇑(bW t ks l q s)) σ F G H':=by
 show cps λ_ kk=>?_;let#[v',fp,e1,B]:=(r.drop (Af r)).at M;rw[i]at e1;let e2:V.ref D=v':=↑e1
 subst e2;let#[a',o,xs,Y,z1,_,U,J,rl]:=GE B;cases z1;let h3:=J.len;let h4:=rl.len;let#[o',dp,h1,h2]:=J.put (v:=v) U ry hk hn (by rw[zk];show lt_trans hb ⋯);show kk ?_;show#[_,dp,?_];cases I:lW ks q with
 |some m=>
  let Z:bW t ks l q s=.dct t ks (l.set m s):=by unfold bW;rw[I]
  rw[Z];let O:m<l.length:=by let:=(qg.mp (Ku I)).1;lia
  show r.dct M i U J (h1 m I) λH' Y fs rl B=>?_;let#[ga,gi,gb,rfl,L]:=rl.set O;show#[_,gi,L (λ_ _=>rfl) B,?_];simp;show List.Perm.append_left _ ((List.Perm.append_left _ qM).trans (qM.trans (by simp)))
 |none=>
  let Z:bW t ks l q s=.dct t (ks++[q]) (l++[s]):=by unfold bW;rw[I]
  rw[Z];show r.dct M i U J (h2 I) λH' Y fs rl B=>#[Y++fs,[],zG.snoc rl B,by simp]
end
def Oi(hu:X.A.units+1<cLine)(ho:FE X o (zt j))(hi:FE X i wi)(he:FE X e we)(hs:autoParam (swapsWith e ⇑(.Subscript o i tpos) pos.line X.env=pure false) rZ9):FS X ks (.Assign [.Subscript o i tpos] e pos) (nB j wi we):=λpn xe hp=>by
 show PS.imp (OC (X:=wp X pn xe) hu (ho pn xe hp) (hi pn xe hp) (he pn xe hp) hs) λD σ H q=>?_;let#[F,G,ρ,E,h6,hw,n,b,c,r,x]:=q;let x0:XC (wp X pn xe) (·=σ) F G E.ex:=x.mono (λe3 z=>by rw[z];show KP.refl) (zy.refl F) (zy.refl G);show#[F,G,ρ,_,_,h6,hw,λr h3 v F1 H1 hk s1 r1 rv=>?_,x0];let l1:=Af r1;let#[G1,Y,gg,back]:=r1.hide l1;show#[F1,G1,h3,_,_,Y,hk,λy h2 o' F2 H2 h8 s2 r2 h5=>?_,x0.mono (λ_ z=>z) s1 gg];let l2:=Af r2;let#[G2,U,h9,O]:=r2.hide l2;show#[F2,G2,h2,_,_,U,h8,λz I i' F3 H3 M s3 r3 h4=>?_,x0.mono (λ_ z=>z) (s1.trans s2) (gg.trans h9)];let Z:=Af r3;let#[q,eq,M]:=Ag M;let#[#[t,h1],eg,B]:=Ag M;let r4:=back (s2.trans s3) (O s3 r3);simp at r4;let ri:=look (ρ':=[zz y,zz r]) (σ':=[⇑o',⇑v]) r4 Z h4 eq;let r5:Rel X.K (I++[zz r]) (σ++[⇑v]) F3 G H3:=Rel.mid (ρ:=I) (σ:=σ) (Rel.mid (ρ:=I) (σ:=σ) r4 Z) Z;let#[F4,s4,l4,r6]:=As (ρ':=[]) (σ':=[]) r5 Z rv eg;cases y with
 |v y0=>show B.elim
 |loc k=>
  cases J:slot h1 j with
  |none=>simp[J]at B
  |some sj=>
   rw[J]at B;match sj,J,B with
   |.dct t kk l,J,⟨ekj,hkey,hnd,hbig,hnx⟩=>
    subst ekj;let L:σ[k]?=⇑⇑o':=h5;let#[v',fp,e1,sr]:=r6.at (i:=k) (s:=.dct t kk l) (by rw[DU (De J)];show J);let h7:k<σ.length:=(qg.mp L).1;rw[getElem?_append_left h7,L]at e1;let e2:o'=v':=↑e1
    subst e2;let#[a,o2,xs,fl,rfl,_,_,_,_]:=GE sr;let#[H',dp,r7]:=Rel.dput r6 J L ri hkey hnd hbig;show#[a,_,rfl,dp,n _ σ F4 _ hnx KP.refl (s1.trans (s2.trans (s3.trans s4))) r7]
end FL
namespace FL
def jX(k v:WE):WE:=λρ Q E=>k ρ (λx B=>v B (λy i=>zx (view x i) λq=>zx (give y i) λp=>cR q=true/\Q (.v (.dct false [q] [p.1])) p.2) E) E
end FL
namespace FL
open PySem PySem.Spec PyProof.Rows L2
def QD(hk:FE X k wk)(hv:FE X v wv):FE X (.Dict [⇑k] [v] pos) (jX wk wv):=λpn xe hp=>by
 show PE.imp (Pu (X:=wp X pn xe) (RK (hk pn xe hp) (hv pn xe hp) OZ) rfl rfl (by simp) (by show 1<=15;decide)) λσ H Q q=>?_;let#[F,G,ρ,P,PX,h4,hw,h6,hx]:=q;intro p hp;let r0:=Rel.newO (s:=.dct false [] []) h4 hp (.dK (zT:=[]) AB rfl .nil);let#[G0,U,g0,L]:=r0.hide (Af r0);show#[F,G0,ρ,_,PX,U,hw,λrx ρ1 vx F1 H1 e3 s1 r1 h3=>?_,hx.mono (λ_ z=>z) (zy.refl F) g0];let l1:=Af r1;let#[G1,O,g1,back1]:=r1.hide l1;show#[F1,G1,ρ1,_,PX,O,e3,λry ρ2 M F2 H2 h9 s2 r2 h2=>?_,hx.mono (λ_ z=>z) s1 (g0.trans g1)];let l2:=Af r2;let#[q,eq,h8]:=Ag h9;let#[#[t,i],eg,h1,h7]:=Ag h8;let r3:=L (s1.trans s2) (back1 s2 r2);simp only[qo,qN,nil_append]at r3
 --y,x,the dict
 let#[F3,s3,l3,r4]:=As (ρ':=[zz rx,⇑(.dct false [] [])]) (σ':=[⇑vx,⇑(.ref p)]) r3 l2 h2 eg;let h5:Rel X.K (ρ2++zz rx::[⇑(.dct false [] [])]) (σ++⇑vx::[⇑(.ref p)]) F2 G H2:=r3.mid l2;let rq:=look (ρ':=[⇑(.dct false [] [])]) (σ':=[⇑(.ref p)]) h5 l2 h3 eq;let#[B,rfl,rfl]:=DB rq h1;let J:i.length=σ.length:=l3.trans l2;let r5:Rel X.K (i++[⇑t,⇑(.dct false [] [])]) (σ++[⇑M,⇑(.ref p)]) F3 G H2:=by let:=Rel.mid (ρ:=i++[⇑t]) (σ:=σ++[⇑M]) (ρ':=[⇑(.dct false [] [])]) (σ':=[⇑(.ref p)]) (o:=zz rx) (w:=⇑(kV B)) ↑r4 (by simp[J]);simpa using this
 let r6:=Rel.swap (ρ1:=[⇑t]) (σ1:=[⇑M]) (ρ2:=[⇑(.dct false [] [])]) (σ2:=[⇑(.ref p)]) J rfl r5;let r7:Rel X.K ((i++[⇑(.dct false [] [])])++[⇑t]) ((σ++[⇑(.ref p)])++[⇑M]) F3 G H2:=↑r6
 let Y:slot (i++[⇑(.dct false [] [])]) i.length=⇑(.dct false [] []):=CL (ρ':=[]);let I:(σ++[⇑(V.ref p)])[i.length]?=⇑⇑(.ref p):=by rw[J];simp
 have Z:H2 p=⇑(.dK []):=by
  let#[v',fp,e1,sr]:=(r7.drop (Af r7)).at Y;rw[I]at e1;let e2:V.ref p=v':=↑e1
  cases sr with
  |@dK _ zT _ _ fl hH e4 rl=>simp_all
 let r8:=r7.dct (ks':=[aY B]) (l':=[t]) (o':=.dK [(B,M)]) Y I Z (.k rfl rfl) (.k rfl rfl) λH' fl fs rl sr=>#[fs++[],[],.cons sr .nil,by cases rl;simp]
 show#[Z,[(B,M)],rfl,by show 1<=15;decide,?_];let e9:(i++[⇑(S.dct false [] [])]).set i.length ⇑(.dct false [aY B] [t])=i++[⇑(.dct false [aY B] [t])]:=GX (ρ':=[]);rw[e9]at r8;show h6 _ i _ F3 _ h7 (s1.trans (s2.trans s3)) r8 trivial
section
variable{K:W.Frag}
def DQ:∀{us:List Value},zP (ns.map V.int) us->IntsAre us ns:=by
 induction ns with
 |nil=>intro us r;cases r;show .nil
 |cons n ns F=>
  intro us r;cases r with
  |cons B i=>let#[t,rfl]:=B;show .cons _ t (F i)
end
end FL
namespace FL
def mY(i j:Nat)(a:WA):WS:=λD ρ=>a ρ (λF B=>match F with
 |[r,t]=>zx (give r B) λp=>zx (give t p.2) λq=>D.nx ((q.2.set i ⇑p.1).set j ⇑q.1)
 |_=>False) D.ex
end FL
namespace FL
open PySem PySem.Spec PyProof.Rows L2
def JI{α:Type}{l:List α}{r:List α}{v:α}(h:n<l.length):(l++r).set n v=l.set n v++r:=by rw[List.set_append_left _ _ h]
def Im(hc:X.calm=true)(hN:X.N.Nodup)(hi:X.N[i]?=⇑x)(hj:X.N[j]?=⇑y)(Y:i≠j)(h4:i∉ks)(h3:j∉ks)
  (hx:X.env.scope.names.lookup x=⇑.local)(hy:X.env.scope.names.lookup y=⇑.local)(ha:FA X [a,b] wa)
  (hw:autoParam (swappedStores [.Tuple [.Name x px,.Name y py] kt pt] (.Tuple [a,b] k2 Z) X.env=pure ⇑[x,y]) rZ9)
  (hs:autoParam (swapsWithSole [.Tuple [.Name x px,.Name y py] kt pt] (.Tuple [a,b] k2 Z) pos.line X.env=pure false) rZ9):
  FS X ks (.Assign [.Tuple [.Name x px,.Name y py] kt pt] (.Tuple [a,b] k2 Z) pos) (mY i j wa):=λpn xe hp zS s σ H D I q=>by
 let M:σ.length=X.N.length:=I.len;let h7:i<σ.length:=by rw[M];show(qg.mp hi).1
 let h6:j<σ.length:=by rw[M];show(qg.mp hj).1
 show Nb (X:=wp X pn xe) hc hN hi hj Y hx hy (ha pn xe hp) hw hs zS s σ H D I ?_;let#[F,G,ρ,E,h1,h2,n,b2,c,r,x2]:=q;let x0:XC (wp X pn xe) (·=σ) F G E.ex:=x2.mono (λh8 z=>by rw[z];show KP.refl) (zy.refl F) (zy.refl G);show#[F,G,ρ,_,_,h1,h2,λrs J vs F1 H1 B s1 r1 hl O=>?_,x0];match rs,vs,O,r1,B with
 |[r,t],[v,u],O,r1,B=>
  dsimp only at B;let#[#[s',L],eg,B]:=Ag B;let#[#[t',U],h5,B]:=Ag B;let e:aJ [r,t] J=⇑([s',t'],U):=by show(match give r J with|some (s,J)=>(match aJ [t] J with|some (ss,L)=>⇑(s::ss,L)|none=>none)|none=>none)=_;rw[eg];show(match(match give t L with|some (s,J)=>⇑([s],J)|none=>none)with|some (ss,L)=>⇑(s'::ss,L)|none=>none)=_;rw[h5]
  let#[F2,s2,l2,z2,r2]:=DP (rs:=[r,t]) (vs:=[v,u]) (ρ':=[]) (σ':=[]) r1 hl O e;let l3:U.length=σ.length:=l2.trans hl;let r3:Rel X.K ((U++[⇑s'])++[⇑t']) ((σ++[⇑v])++[⇑u]) F2 G H1:=↑r2
  let r4:=r3.store (i:=j) (by simp[l3]) (by simp;lia -verbose);rw[JI ∅,JI ∅]at r4;let r5:=r4.store (i:=i) (by simp[l3]) (by simp;lia -verbose);rw[set_comm _ _ (Ne.symm Y),set_comm (α:=Option V) _ _ (Ne.symm Y)]at r5;show#[v,u,rfl,n _ _ F2 H1 B (KP.trans (KP.set h4) (KP.set h3)) (s1.trans s2) r5]
 |[],_,_,_,B=>show B.elim
 |[_],_,_,_,B=>show B.elim
 |[_,_],[],O,_,_=>show O.elim
 |[_,_],[_],O,_,_=>show O.2.elim
 |[_,_],_::_::_::_,O,_,_=>show O.2.2.elim
 |_::_::_::_,_,_,_,B=>show B.elim
end FL
namespace FL
open PySem PySem.W PyProof.Rows
def cQ(n:Nat)(rk:Nat->Int){α:Type}:KasT α->(α->Prop)->Prop
 |.ret a,P=>P a
 |.ask i j k,P=>i<n/\j<n/\cQ n rk (k ↥(rk i<rk j)) P
def Dl:∀{t:KasT α},cQ n rk t (λa=>cQ n rk (f a) P)->cQ n rk (t.bind f) P
 |.ret _,h=>h
 |.ask _ _ _,h=>#[h.1,h.2.1,Dl h.2.2]
def kA(rk:Nat->Int)(p:Array Nat)(k:Nat):Int:=rk ((p[k]?).getD 0)
def BL(p:Array Nat)(k:Nat):rk (p.getD k 0)=kA rk p k:=by unfold kA;rw[Array.getD_eq_getD_getElem?]
def kQ(n:Nat)(p:Array Nat):Prop:=p.size=n/\∀k,p.getD k 0<n
def mN(rk:Nat->Int)(p:Array Nat)(m:Nat):Prop:=∀a b,a<=b->b<m->kA rk p a<=kA rk p b
def di(rk:Nat->Int)(p:Array Nat)(m:Nat):Prop:=∀a b,a<=b->b<m->kA rk p b<=kA rk p a
def DF(h:kQ n q)(i:p.Perm q)(hn:0<n):kQ n p:=by
 show#[i.size_eq.trans h.1,λk=>?_];rw[Array.getD_eq_getD_getElem?];cases e:p[k]? with
 |none=>show hn
 |some x=>have B:x∈q:=i.mem_iff.mp (Array.mem_of_getElem? e);let#[j,F,G]:=Array.getElem_of_mem B;let:=h.2 j;simp_all
def Gd(i:kQ n p):∀(f m:Nat),1<=m->mN rk p m->(∀m',m<=m'->m'<=m+f->mN rk p m'->(m'<m+f->kA rk p m'<kA rk p (m'-1))->P m')->cQ n rk (kas_asc p f m) P
 |0,m,_,hs,h=>h m (q8 _) (q8 _) hs λz=>absurd z ∅
 |f+1,m,h1,hs,h=>by
  show#[i.2 m,i.2 (m-1),?_];rw[BL (rk:=rk),BL (rk:=rk)];by_cases B:kA rk p m<kA rk p (m-1)
  .rw[qQ B];show h m (q8 _) ∅ hs λ_=>B
  .rw[qR B];show Gd i f (m+1) ∅ (λa b G M=>?_) λm' h2 O L J=>h m' ∅ ∅ L λz=>J ∅;by_cases F:b<m
   .show hs a b G F
   .let:b=m:=by lia
    by_cases I:a=b
    .rw[I];show Int.le_refl _
    .let:=hs a (b-1) ∅ ∅;lia
def GK(B:kQ n p)(i:mN rk p k):∀(f l r:Nat),l<=r->r<=k->r-l<=f->(∀a,a<l->kA rk p a<=kA rk p k)->(∀a,r<=a->a<k->kA rk p k<kA rk p a)->
  (∀l',l'<=k->(∀a,a<l'->kA rk p a<=kA rk p k)->(∀a,l'<=a->a<k->kA rk p k<kA rk p a)->P l')->cQ n rk (kas_place p k f l r) P
 |0,l,r,h1,h2,h3,h4,h5,h=>by
  let:l=r:=∅
  subst this;show h l h2 h4 h5
 |f+1,l,r,h1,h2,h3,h4,h5,h=>by
  unfold kas_place;by_cases F:l≥r
  .rw[qZ F];let:l=r:=by lia
   subst this;show h l h2 h4 h5
  .rw[q5 F];show#[B.2 k,B.2 _,?_];rw[BL (rk:=rk),BL (rk:=rk)];by_cases G:kA rk p k<kA rk p ((l+r)/2)
   .rw[qQ G];show GK B i f l ((l+r)/2) ∅ ∅ ∅ h4 (λa I J=>?_) h;let:=i _ a I J;lia
   .rw[qR G];show GK B i f ((l+r)/2+1) r ∅ h2 ∅ (λa I=>?_) h5 h;let:=i a ((l+r)/2) ∅ ∅;lia
def Ld(i:k<p.size)(B:d<=k)(j:Nat):kA rk (bubble p k d) j=if j=k-d then kA rk p k else if k-d<j/\j<=k then kA rk p (j-1)else kA rk p j:=by unfold kA;rw[getElem?_bubble i d B j];grind
def IP(hn:0<n):∀(f:Nat)(p:Array Nat)(k:Nat),kQ n p->mN rk p k->k+f<=n->(∀B,B.Perm p->kQ n B->mN rk B (k+f)->P B)->cQ n rk (kas_bin f p k) P
 |0,p,k,hr,hs,_,h=>h p (Array.Perm.refl _) hr hs
 |f+1,p,k,hr,hs,hk,h=>by
  show Dl (GK hr hs k 0 k (zero_le _) (q8 _) ∅ (λa z=>absurd z ∅) (λa Y z2=>absurd Y ∅) λl hl h1 h2=>?_);let F:k<p.size:=by rw[hr.1];lia
  let O:=bubble_perm p k (k-l);show IP hn f _ (k+1) (DF hr O hn) (λa b L hb=>?_) ∅ λB q1 q2 Z=>h B (q1.trans O) q2 (by rw[show k+(f+1)=k+1+f by lia];show Z);rw[Ld F ∅,Ld F ∅];let M:k-(k-l)=l:=∅
  rw[M];by_cases U:a=l
  .rw[qZ U];by_cases i:b=l
   .rw[qZ i];show Int.le_refl _
   .rw[q5 i];let:=h2 (b-1) ∅ ∅;lia
  .rw[q5 U];by_cases I:l<a/\a<=k
   .rw[qZ I,q5 ∅,qZ #[∅,∅]];show hs (a-1) (b-1) ∅ ∅
   .rw[q5 I];let J:a<l:=by lia
    by_cases i:b=l
    .rw[qZ i];show h1 a J
    .rw[q5 i];by_cases G:l<b/\b<=k
     .rw[qZ G];show hs a (b-1) ∅ ∅
     .rw[q5 G];show hs a b L ∅
def Dv(hj:j<=p.size)(k:Nat):kA rk (kas_rev p i j) k=if i<=k/\k<j then kA rk p (i+j-1-k)else kA rk p k:=by
 unfold kA kas_rev;rw[getElem?_mirror_all hj];by_cases h:i<=k/\k<j
 .rw[qZ h,qZ h]
 .rw[q5 h,q5 h]
def CH(p:Array Nat)(i j:Nat):(kas_rev p i j).Perm p:=mirror_perm ..
def GT(hn:0<n):∀(f:Nat)(p:Array Nat)(m q:Nat),kQ n p->di rk p m->m+f<=n->q+1<=m->(∀a,m-(q+1)<=a->a<m->kA rk p a=kA rk p (m-1))->
  (∀i m' B,i.Perm p->kQ n i->di rk i m'->m'<=m+f->m<=m'->B+1<=m'->(∀a,m'-(B+1)<=a->a<m'->kA rk i a=kA rk i (m'-1))->P (i,m',B))->cQ n rk (kas_desc f p m q) P
 |0,p,m,q,hr,hd,_,hq,he,h=>h p m q (Array.Perm.refl _) hr hd (q8 _) (q8 _) hq he
 |f+1,p,m,q,hr,hd,hm,hq,he,h=>by
  unfold kas_desc;show#[hr.2 m,hr.2 (m-1),?_];rw[BL (rk:=rk),BL (rk:=rk)];by_cases hc:kA rk p m<kA rk p (m-1)
  ·(rw[qQ hc];dsimp only;rw[qZ rfl])
   have go:∀J:Array Nat,J.Perm p->(∀k,kA rk J k=kA rk p k)->cQ n rk (kas_desc f J (m+1) 0) P:=by
    intro J hp F;show GT hn f J (m+1) 0 (DF hr hp hn) (λa b I hb=>?_) ∅ ∅ (λa h1 h2=>?_) λi m' B g1 g2 g3 g4 g5 Z Y=>h i m' B (g1.trans hp) g2 g3 ∅ ∅ Z Y
    .rw[F,F];by_cases G:b<m
     .show hd a b I G
     .let:b=m:=by lia
      by_cases O:a=b
      .rw[O];show Int.le_refl _
      .let:=hd a (b-1) ∅ ∅;lia
    .let:a=m+1-1:=by lia
     rw[this]
   by_cases L:q>0
   .rw[qZ L];show go _ (CH ..) λk=>?_;rw[Dv (by rw[hr.1];lia)];by_cases F:m-(q+1)<=k/\k<m
    .rw[qZ F,he k F.1 F.2,he _ ∅ ∅]
    .rw[q5 F]
   .rw[q5 L];show go p (Array.Perm.refl _) λ_=>rfl
  ·(rw[qR hc];dsimp only;rw[q5 qW])
   show#[hr.2 (m-1),hr.2 m,?_];rw[BL (rk:=rk),BL (rk:=rk)];by_cases M:kA rk p (m-1)<kA rk p m
   ·(rw[qQ M];dsimp only;rw[qZ rfl])
    show h p m q (Array.Perm.refl _) hr hd ∅ (q8 _) hq he
   ·(rw[qR M];dsimp only;rw[q5 qW])
    let U:kA rk p m=kA rk p (m-1):=∅
    show GT hn f p (m+1) (q+1) hr (λa b I hb=>?_) ∅ ∅ (λa h1 h2=>?_) λi m' B g1 g2 g3 g4 g5 Z Y=>h i m' B g1 g2 g3 ∅ ∅ Z Y
    .by_cases G:b<m
     .show hd a b I G
     .let:b=m:=by lia
      by_cases O:a=b
      .rw[O];show Int.le_refl _
      .let:=hd a (b-1) ∅ ∅;lia
    .show kA rk p a=kA rk p m;by_cases O:a=m
     .rw[O]
     .rw[U];show he a ∅ ∅
def OM(i:m<=p.size)(B:di rk p m):mN rk (kas_rev p 0 m) m:=λa b G F=>by rw[Dv i,Dv i,qZ #[zero_le _,∅],qZ #[zero_le _,F]];show B _ _ ∅ ∅
def Km(hn:0<n)(F:kQ n p)(J:di rk p m)(h1:1<=m)(I:m<=n)
  (h:∀m' B,B.Perm p->kQ n B->m<=m'->m'<=n->mN rk B m'->P (m',B)):cQ n rk (kas_tail3 m n p) P:=by
 let G:=OM (by rw[F.1];show I) J;let i:=DF F (CH p 0 m) hn;show Dl (Gd i (n-m) m h1 G λm' M O L _=>h m' _ (CH ..) i M ∅ L)
def KY(hn:0<n)(hr:kQ n p)(hd:di rk p (m+1))(h1:1<=m)(hm:m+1<=n)
  (h:∀m' i,i.Perm p->kQ n i->1<=m'->m'<=n->mN rk i m'->P (m',i)):cQ n rk (kas_descPart m n p) P:=by
 show Dl (GT hn (n-(m+1)) p (m+1) 0 hr hd ∅ ∅ (λa L F=>by rw[show a=m+1-1 by lia]) λi m' G L F g3 g4 g5 g6 g7=>?_);by_cases Z:G>0
 .rw[qZ Z];let B:∀k,kA rk (kas_rev i (m'-(G+1)) m') k=kA rk i k:=λk=>by
   rw[Dv (by rw[F.1];lia)];by_cases B:m'-(G+1)<=k/\k<m'
   .rw[qZ B,g7 k B.1 B.2,g7 _ ∅ ∅]
   .rw[q5 B]
  show Km hn (DF F (CH ..) hn) (λa b J hb=>by rw[B,B];show g3 a b J hb) ∅ ∅ λm2 I Y U e3 O M=>h m2 I (Y.trans ((CH ..).trans L)) U ∅ O M
 .rw[q5 Z];show Km hn F g3 ∅ ∅ λm2 I Y U e3 O M=>h m2 I (Y.trans L) U ∅ O M
def SH(hn:2<=n)(i:kQ n p)(h:∀m' G,G.Perm p->kQ n G->1<=m'->m'<=n->mN rk G m'->P (m',G)):cQ n rk (kas_count n p) P:=by
 show Dl (Gd i (n-1) 1 (q8 _) (λa b F O=>by rw[show a=b by lia];show Int.le_refl _) λm J g2 I g4=>?_);by_cases L:(m==n)=true
 .rw[qZ L];show h m p (Array.Perm.refl _) i J ∅ I
 .rw[q5 L];by_cases B:m>1
  .rw[qZ B];show#[i.2 0,i.2 (m-1),?_];rw[BL (rk:=rk),BL (rk:=rk)];by_cases M:kA rk p 0<kA rk p (m-1)
   ·(rw[qQ M];dsimp only;rw[qZ rfl])
    show h m p (Array.Perm.refl _) i J ∅ I
   ·(rw[qR M];dsimp only;rw[q5 qW])
    let h1:∀a,a<m->kA rk p a=kA rk p (m-1):=λa ha=>by let Y:=I 0 a (zero_le _) ha;let U:=I a (m-1) ∅ ∅;lia
    let hk:∀k,kA rk (kas_rev p 0 m) k=kA rk p k:=λk=>by rw[Dv (by rw[i.1];lia)];grind
    show KY ∅ (DF i (CH ..) ∅) (λa b F O=>?_) J ∅ λm2 Z Y U e3 e4 e5=>h m2 Z (Y.trans (CH ..)) U e3 e4 e5;grind
  .rw[q5 B];let:m=1:=by lia
   subst this;show KY ∅ i (λa b F O=>?_) (q8 _) ∅ h;grind
def Se(hn:0<n):kQ n (List.range n).toArray:=by
 show#[by simp,λk=>?_];by_cases i:k<n
 .simp[i]
 .simp[i];show hn
def Qb(hn:2<=n)(h:∀p,p.Perm (List.range n).toArray->mN rk p n->P p):cQ n rk (kas_sort n) P:=by
 show Dl (SH hn (Se ∅) λm p G L U O F=>?_);let i:max m 1=m:=∅
 rw[i];by_cases B:m<n
 .rw[qZ B];show IP ∅ (n-m) p m L F ∅ λJ M Y I=>h J (M.trans G) (by rw[show m+(n-m)=n by lia]at I;show I)
 .rw[q5 B];let:m=n:=by lia
  subst this;show h p G F
end FL
namespace FL
open PySem PySem.Spec PyProof.Rows L2
def NO{h:Heap}(x:h.Ns a m)(y:h.Ns a m'):m=m':=by let#[o,es,G,e,d,_,f]:=x;let#[o',i,B,I,J,_,F]:=y;grind
def Inv.laidF(I:Inv X zS σ H s)(hn:∀m,s.heap.Ns X.env.locals m->h'.Ns X.env.locals m)(k:∀b u,b≠X.env.locals->s.heap.get? b=⇑u->h'.get? b=⇑u)
  (J:s.heap.get? a=none)(new:zR X.prog X.w (upd H a o) h' a o):Inv X zS σ (upd H a o) {s with heap:=h',toks:=t'}:=by
 have F:H a=none:=by
  cases e:H a with
  |none=>rfl
  |some u=>let#[v,z]:=zR.there (I.hok a u e);rw[J]at z;cases z
 refine I.step (g':=s.gens) (d':=s.drawn) (ch:=[]) (λ_ z=>nomatch z) (λb i G _ _ e _=>k b i G e) (λb i G _ _ e _=>#[i.slots,k b i G e]) (λb i _ e n=>by rw[Aj (λz=>by rw[z,J]at e;cases e)];show n)
  (λb i _ e=>?_) (λb xs q=>by rw[Aj (BR q F)];show q) (λb u xs q=>by rw[Aj (BR q F)];show q) (λb ps q=>#[#[],by rw[Aj (BR q F),q];simp]) hn (λb i e=>?_) I.bare
 .by_cases B:b=X.env.locals
  .obtain⟨m,x,_⟩:=I.loc;let#[o',_,_,M,_]:=hn m x;show#[o',by rw[B];show M]
  .show#[i,k b i B e]
 .by_cases B:b=a
  .subst B;rw[AB]at e;cases e;show new
  .rw[Aj B]at e;show(I.hok b i e).stay (λc v L q=>k c v (λz=>?_) q) (λc q=>by rw[Aj (BR q F)];show q) λc xs q=>by rw[Aj (BR q F)];exact q
   rw[z]at L;rcases L with r|r
   .rw[<-r,I.free]at e;cases e
   .rw[I.free]at r;cases r
section
open HT
def Jb:∀l:List Int,lexLt l l=false
 |[]=>rfl
 |x::l=>by rw[tK,qZ rfl,Jb l]
def EL:∀k j i:List Int,lexLt k j=true->lexLt i j=false->lexLt k i=true
 |[],[],_,h,_=>by cases h
 |[],_::_,[],_,g=>by cases g
 |[],_::_,_::_,_,_=>rfl
 |_::_,[],_,h,_=>by cases h
 |_::_,_::_,[],_,g=>by cases g
 |x::k,y::j,z::i,h,g=>by
  rw[tK]at h g⊢;by_cases F:x=y
  .by_cases B:z=y
   .rw[qZ F]at h;rw[qZ B]at g;rw[qZ (F.trans B.symm)];show EL k j i h g
   .rw[q5 B]at g;rw[q5 ∅];show qQ ∅
  .rw[q5 F]at h;by_cases B:z=y
   .rw[q5 ∅];show qQ ∅
   .rw[q5 B]at g;rw[q5 ∅];show qQ ∅
def Fc:∀i j:List Int,lexLt i j=true->lexLt j i=false
 |[],[],h=>by cases h
 |[],_::_,_=>rfl
 |_::_,[],h=>by cases h
 |x::i,y::j,h=>by
  rw[tK]at h⊢;by_cases B:x=y
  .rw[qZ B]at h;rw[qZ B.symm];show Fc i j h
  .rw[q5 B]at h;rw[q5 ∅];show qR ∅
def FU(h:∀x,p x=true->q x=true):∀l:List Nat,l.countP p<=l.countP q
 |[]=>q8 _
 |a::l=>by
  rw[countP_cons,countP_cons];let:=FU h l;cases e:p a with
  |true=>rw[h a e];lia
  |false=>simp;lia
def Iz(h:∀x,p x=true->q x=true):∀l:List Nat,(∃x,x∈l/\q x=true/\p x=false)->l.countP p<l.countP q
 |[],z=>by let#[_,z,_]:=z;cases z
 |a::l,z=>by
  rw[countP_cons,countP_cons];let#[x,F,i,B]:=z;by_cases e:x=a
  .subst e;let:=FU h l;rw[i];lia
  .let:=Iz h l #[x,(qA.mp F).resolve_left e,i,B];cases e:p a with
   |true=>rw[h a e];lia
   |false=>simp;lia
def sO(ls:List (List Int))(i:Nat):Int:=((List.range ls.length).countP λj=>lexLt (ls.getD j []) (ls.getD i []):Nat)
def HW(hi:i<ls.length):↥(sO ls i<sO ls j)=lexLt (ls.getD i []) (ls.getD j []):=by
 unfold sO;cases e:lexLt (ls.getD i []) (ls.getD j [])with
 |true=>show qQ (Int.ofNat_lt.mpr (Iz (λk B=>?_) _ #[i,qI.mpr hi,e,Jb _]));show EL _ _ _ B (Fc _ _ e)
 |false=>show qR λh=>?_;let:=FU (p:=λk=>lexLt (ls.getD k []) (ls.getD j [])) (q:=λk=>lexLt (ls.getD k []) (ls.getD i [])) (λk B=>EL _ _ _ B e) (List.range ls.length);lia
end
section
open PySem.W HT
def UV(i:Nat)(r:IntsAre us ns)(B:IntsAre vs ms)(h:Q (lexLt ns ms) s):KatLex prog w A b ↥(ns.length<ms.length) Q (us.zip vs) i s:=by
 induction r generalizing vs ms i with
 |nil=>cases B<;>show kat_nil h
 |@cons n _ _ ns r F=>cases B with
  |nil=>show kat_nil h
  |@cons m _ _ ms B=>
   let e:↥((n::ns).length<(m::ms).length)=↥(ns.length<ms.length):=decide_eq_decide.2 Nat.succ_lt_succ_iff;rw[e];show kat_cons (wpAny_eqBool_int ?_);rw[tK]at h;by_cases nm:n=m
   .rw[qZ nm]at h;rw[show(n==m)=true by simp[nm]];show kat_yes (F (i+1) B h)
   .rw[q5 nm]at h;rw[show(n==m)=false by simp[nm]];show kat_no ?_;cases(b&&i==0)with
    |true=>show oneLt_int h
    |false=>show kat_one _ _ (PyProof.Rows.lt_int h)
def LB{P:α->Prop}{R:α->Shared->Prop}(B:∀i j(C:Bool->Shared->Prop),i<n->j<n->C ↥(rk i<rk j) s->kas_ask prog w A κ vs i j C s):
  ∀(t:KasT α),cQ n rk t P->(∀a,P a->R a s)->t.kasWp (kas_ask prog w A κ vs) R s
 |.ret a,h,q=>q a h
 |.ask i j k,h,q=>B i j _ h.1 h.2.1 (LB B (k _) h.2.2 q)
def rest(h₀:Heap)(L:Addr)(h:Heap):List (Addr×Obj):=(List.range h.objs.size).filterMap λb=>if b=L then none else if(h₀.get? b).isSome then none else(h.get? b).map λo=>(b,o)
theorem zcN:p∈rest h₀ L h↔h.get? p.1=⇑p.2/\p.1≠L/\h₀.get? p.1=none:=by
 unfold rest;rw[mem_filterMap];constructor
 .rintro⟨b,_,e⟩;by_cases h1:b=L
  .rw[qZ h1]at e;cases e
  .rw[q5 h1]at e;cases h2:h₀.get? b with
   |some o=>rw[h2]at e;cases e
   |none=>rw[h2]at e;let#[o,i,B]:=qX.mp e;cases B;show#[i,h1,h2]
 .rintro⟨i,B,F⟩;show#[p.1,qI.mpr (qe i),?_];rw[q5 B,F,i];rfl
def Jx:∀{bs:List Addr}{i:List Value},zP (bs.map V.ref) i->i=bs.map Value.ref
 |[],_,.nil=>rfl
 |b::bs,_,.cons r t=>by let e:_=Value.ref b:=r;rw[e,Jx t];rfl
def KN:∀bs:List Addr,zP (bs.map V.ref) (bs.map Value.ref)
 |[]=>.nil
 |_::bs=>.cons rfl (KN bs)
def cm(h:Heap)(b:Addr)(l:List Int):Prop:=∃us,IntsAre us l/\IsTup h b us.toArray
def Bl:∀{bs:List Addr}{ls:List (List Int)},Paired (λb l=>l≠[]/\cm h b l) bs ls->∃fs:List Value,KatTups h (bs.map Value.ref) fs/\fs.length=bs.length/\∀v∈fs,∃z t,v=Value.int z t
 |_,_,.nil=>#[[],.nil,rfl,λ_ z=>nomatch z]
 |_,_,.cons ⟨hne,us,r,o,e,c,n,d⟩ t=>by
  let#[fs,G,F,B]:=Bl t;cases r with
  |nil=>show absurd rfl hne
  |cons i tk J=>
   show#[_::fs,.cons e c d rfl G,by simp[F],λv I=>?_];rcases qA.mp I with z|z
   .show#[_,_,z]
   .show B v z
def Fs{R:α->β->Prop}:∀{l:List α}{m:List β}(i:Nat)(da:α)(db:β),Paired R l m->i<l.length->R (l.getD i da) (m.getD i db)
 |_,_,0,_,_,.cons r _,_=>r
 |_,_,i+1,da,db,.cons _ t,h=>Fs i da db t ↑h
def kF(K:W.Frag):List V->Hp->VK->Prop:=λxs H Q=>∃(a:Addr)(bs:List Addr)(ls:List (List Int)),xs=[.ref a]/\bJ K H a (bs.map V.ref)/\2<=bs.length/\bs.length<64/\
 Paired (λb l=>l≠[]/\bD K H b (l.map V.int)) bs ls/\
 ∀p:Array Nat,p.Perm (List.range bs.length).toArray->mN (sO ls) p bs.length->∀q,H q=none->Q (.ref q) (upd H q (.lst ((p.toList.map λi=>bs.getD i 0).map V.ref)))
def UF:aW X (.builtin "sorted") (kF X.K):=by
 intro zS s σ H xs U Q I r h;let#[a,bs,L,rfl,hq,h2,h6,ht,q]:=h;cases r with
 |cons r1 r2=>
  cases r2;cases r1;let#[h7,rv,pl,_]:=I.list hq;let hv:=Jx rv;subst hv;let#[m,F]:=I.fr;let N:News X.base X.env.locals s.heap (rest X.base X.env.locals s.heap):=λp G=>zcN.mp G;show kat_sorted F N pl.isList (by rw[qh];show h2) (by rw[qh];show h6) λD e1 h' Z O hD=>?_;let kp:∀{h':Heap},Fr X.base X.env.locals h' m->News X.base X.env.locals h' (rest X.base X.env.locals s.heap)->∀b u,b≠X.env.locals->s.heap.get? b=⇑u->h'.get? b=⇑u:=λ{h'} Z O b u hb e=>by
   cases J:X.base.get? b with
   |some o=>rw[F.keep b o J]at e;rw[<-e];show Z.keep b o J
   |none=>show(O (b,u) (zcN.mpr #[e,hb,J])).1
  have tl:∀{d o B},News X.base X.env.locals h' ((d,o)::B)->News X.base X.env.locals h' B:=λN p G=>N p (qk _ G);let M:s.heap.get? D=none:=by
   cases e:s.heap.get? D with
   |none=>rfl
   |some u=>let#[_,n1,n2]:=O (D,seqObj "list" #[] e1) qm;show absurd (hD (D,u) (zcN.mpr #[e,n1,n2])) (lt_irrefl _)
  let Y:Paired (λb l=>l≠[]/\cm h' b l) bs L:=Paired.mapP ht λb l⟨h4,hs⟩=>by let#[U,r,#[o,e,c,n,d],_]:=I.tuple hs;show#[h4,U,DQ r,o,kp Z (tl O) b o (λz=>?_) e,c,n,d];let#[m,#[o',es,ep,e',d',_],_]:=I.loc;rw[z,e']at e;cases e;rw[d']at d;cases d
  let#[fs,t1,t2,t3]:=Bl Y;let h9:L.length=bs.length:=(Paired.length Y).symm;show kat_kind (T:=.type "int") t1 ∅ (λv hv=>?_) (by rfl) ?_
  .obtain⟨z,t,rfl⟩:=t3 v hv;show Looks.of_pure rfl
  .refine LB (n:=bs.length) (rk:=sO L) (P:=λp=>p.Perm (List.range bs.length).toArray/\mN (sO L) p bs.length) (λi j C hi hj hc=>?_) _ (by rw[qh];show Qb h2 λp a b=>#[a,b]) λp⟨p1,p2⟩=>?_
   .rw[HW ∅]at hc;show cps λ_ kk=>?_;let#[_,U,r,o,e,c,n,d]:=Fs i 0 [] Y hi;let#[_,h1,r',o',e',c',n',d']:=Fs j 0 [] Y hj;show kk ?_;let g:∀i,i<bs.length->(bs.map Value.ref).getD i Value.none=.ref (bs.getD i 0):=λi hi=>by simp[hi]
    unfold kas_ask;rw[g i hi,g j hj];show kat_lt e d e' d' ?_;let l1:U.toArray.size=(L.getD i []).length:=by rw[qq];show r.length
    let l2:h1.toArray.size=(L.getD j []).length:=by rw[qq];show r'.length
    rw[l1,l2];show UV 0 r r' hc
   .refine KasFin.intro Z O (.head λp G=>ne_of_lt (hD p G)) λh3 c F3 N3=>?_;let eo:(p.toList.map λi=>(bs.map Value.ref).getD i Value.none)=(p.toList.map λi=>bs.getD i 0).map Value.ref:=by
     rw[qD];show map_congr_left λi hi=>?_;let h5:i<bs.length:=by let:=p1.mem_iff.mp (mem_toList_iff.mp hi);simpa using this
     simp[h5]
    rw[eo]at N3;let h8:p.toList.length=bs.length:=by let:=p1.size_eq;simpa using this
    show#[.ref D,_,Inv.laidF (s:=s) (t':=s.toks) (o:=.lst ((p.toList.map λi=>bs.getD i 0).map V.ref)) I (λm' x=>by rw[NO x F.ns];show F3.ns) (λb u hb e=>kp F3 (λp G=>N3 p (qk _ G)) b u hb e) M ?_,rfl,q p p1 p2 D ?_]
    .show#[by simp only[qh];rw[zk];lia,_,c,KN _,(N3 (D,_) qm).1]
    .cases e:H D with
     |none=>rfl
     |some u=>let#[v,z]:=zR.there (I.hok D u e);rw[M]at z;cases z
end
end FL
namespace FL
def tI(ns:List Int):D:=.tup (ns.map .int)
def gX:List D->Option (List (List Int))
 |[]=>⇑[]
 |.tup ds::r=>match bZ ds with
  |some (x::xs)=>(gX r).map ((x::xs)::·)
  |_=>none
 |_::_=>none
def fP(l:List D):Option S:=if 2<=l.length/\l.length<64/\(gX l).isSome=true then ⇑(.lst ((cE l).map .sh))else none
def xS:List D->Option S
 |[.lst l]=>fP l
 |_=>none
def JW:∀{l:List D}{ns:List Int},bZ l=⇑ns->l=ns.map .int
 |[],_,h=>by cases h;rfl
 |.int x::r,ns,h=>by rw[bZ]at h;let#[ys,h1,rfl]:=qX.mp h;rw[JW h1];rfl
def Kq:∀{l:List D}{ls:List (List Int)},gX l=⇑ls->l=ls.map tI/\∀x∈ls,x≠[]
 |[],_,h=>by cases h;show#[rfl,λ_ z=>nomatch z]
 |.tup ds::r,ls,h=>by
  rw[gX]at h;split at h
  .rename_i x xs e;let#[ys,h1,rfl]:=qX.mp h;let#[F,B]:=Kq h1;show#[by rw[F,JW e];rfl,λz i=>?_];rcases qA.mp i with rfl|i
   .show λq=>nomatch q
   .show B z i
  .cases h
def jD(l:List D):Option S:=if l.length<2 then ⇑(.lst (l.map .sh))else match fP l with
 |some s=>⇑s
 |none=>jC l
def cT:List D->Option S
 |[.lst l]=>jD l
 |_=>none
end FL
namespace FL
open PySem PySem.Spec PyProof.Rows L2
open HT
def Lz:∀ns ms:List Int,dS (ns.map .int) (ms.map .int)=if lexLt ns ms=true then .lt else if lexLt ms ns=true then .gt else .eq
 |[],[]=>rfl
 |[],_::_=>rfl
 |_::_,[]=>rfl
 |x::ns,y::ms=>by
  rw[qy,qy,tK,tK,dS,jJ];by_cases h:x<y
  .rw[qZ h,q5 (show¬x=y by lia),qZ (qQ h)]
  .rw[q5 h];by_cases h2:y<x
   .rw[qZ h2,q5 (show¬y=x by lia),q5 (by simp;lia -verbose),qZ (qQ h2)]
   .let e:x=y:=by lia
    subst e;rw[q5 h2,qZ rfl,qZ rfl];show Lz ns ms
def CI(ns ms:List Int):gU (tI ns) (tI ms)=!lexLt ms ns:=by
 unfold gU tI;rw[jJ,Lz];cases e:lexLt ns ms with
 |true=>rw[Fc _ _ e];rfl
 |false=>
  cases i:lexLt ms ns with
  |true=>rfl
  |false=>rfl
def Kd:∀a b:List Int,lexLt a b=false->lexLt b a=false->a=b
 |[],[],_,_=>rfl
 |[],_::_,h,_=>by cases h
 |_::_,[],_,h=>by cases h
 |x::a,y::b,h,g=>by
  rw[tK]at h g;by_cases e:x=y
  .subst e;rw[qZ rfl]at h g;rw[Kd a b h g]
  .rw[q5 e]at h;rw[q5 (Ne.symm e)]at g;lia
def lx(d:D):Prop:=∃ns,d=tI ns
def PH:gQ lx where
 tot:=by
  rintro _ _ ⟨a,rfl⟩ ⟨b,rfl⟩;rw[CI,CI];cases e:lexLt b a with
  |false=>show .inl rfl
  |true=>show .inr (by rw[Fc _ _ e];rfl)
 tr:=by
  rintro _ _ _ ⟨a,rfl⟩ ⟨b,rfl⟩ ⟨c,rfl⟩;rw[CI,CI,CI];intro h1 h2;cases e:lexLt c a with
  |false=>rfl
  |true=>grind[EL]
 anti:=by rintro _ _ ⟨a,rfl⟩ ⟨b,rfl⟩;grind[CI,Kd]
section
variable{K:W.Frag}
def Ji:∀{xs:List V}{ls:List (List Int)},zQ K F xs (ls.map tI)->∃bs:List Addr,xs=bs.map V.ref/\Paired (λb l=>F b=⇑(.tup (l.map V.int))) bs ls
 |_,[],.nil=>#[[],rfl,.nil]
 |_,l::ls,.cons a b=>by
  let#[bs,e,t]:=Ji b;cases a with
  |tup h r=>let#[i,_]:=EM r (Hh l);subst i;show#[_::bs,by rw[e];rfl,.cons h t]
def Ll:∀{bs:List Addr}{ls:List (List Int)},Paired (λb l=>F b=⇑(.tup (l.map V.int))) bs ls->zQ K F (bs.map V.ref) (ls.map tI)
 |_,_,.nil=>.nil
 |_,_,.cons h t=>.cons (.tup h (DO _)) (Ll t)
def Lw{R:α->β->Prop}{l:List α}{m:List β}{da:α}{db:β}(h:Paired R l m):∀{q:List Nat},(∀i∈q,i<l.length)->Paired R (q.map λi=>l.getD i da) (q.map λi=>m.getD i db)
 |[],_=>.nil
 |i::q,z=>.cons (Fs i da db h (z i qm)) (Lw h λj B=>z j (qk _ B))
def Sk{R i:α->β->Prop}{l:List α}{m:List β}(h:Paired R l m)(f:∀a b,b∈m->R a b->i a b):Paired i l m:=by
 induction h with
 |nil=>show .nil
 |cons r _ B=>show .cons (f _ _ qm r) (B λa b F=>f a b (qk _ F))
def Uv{α:Type}(d:α):∀l:List α,(List.range l.length).map (λi=>l.getD i d)=l:=λl=>by show List.ext_getElem (by simp) λi h1 h2=>?_;simp[h2]
def Uh:cP K (kF K) xS:=by
 intro σ ρ F G H vs ds s Q B re e hq;let#[d,v,rfl,rfl]:=AE (λx y r=>by cases x<;>rfl) rfl re e;cases d with
 |lst l=>
  let e:fP l=⇑s:=e;unfold fP at e;split at e
  .rename_i hc;cases e;let#[h2,h4,h3]:=hc;let#[ls,q1]:=isSome_iff_exists.mp h3;let#[el,U]:=Kq q1;subst el;rw[qh]at h2 h4;let#[a,xs,rfl,h1,r1]:=re.1.lst B.fr;let#[bs,rfl,t]:=Ji r1;let hl:bs.length=ls.length:=Paired.length t;show#[a,bs,ls,rfl,h1,∅,∅,Sk t λb l hb h=>#[U l hb,bD.of (B.fr _ _ h)],λp L p2 q O=>?_];let J:∀i∈p.toList,i<bs.length:=λi hi=>by let:=L.mem_iff.mp (mem_toList_iff.mp hi);simpa using this
   let t2:=Lw (da:=0) (db:=[]) t (q:=p.toList) J;let pp:p.toList.Perm (List.range ls.length):=by let:=Array.perm_iff_toList_perm.mp L;rw[<-hl];simpa using this
   let I:(p.toList.map λi=>ls.getD i []).Perm ls:=(pp.map _).trans (by rw[Uv]);let M:p.size=bs.length:=by let:=L.size_eq;simpa using this
   have es:cE (ls.map tI)=(p.toList.map λi=>ls.getD i []).map tI:=by
    show Dk PH (λd hd=>by let#[z,_,rfl]:=qJ.mp hd;show#[z,rfl]) (I.map _) ?_;rw[qD,pairwise_map];show List.pairwise_iff_getElem.mpr λi j hi Z h5=>?_;simp only[Function.comp];rw[CI];let Y:j<bs.length:=by rw[<-M];simpa using Z
    let k:=p2 i j ∅ Y;let gi:∀i(h:i<p.toList.length),kA (sO ls) p i=sO ls p.toList[i]:=λi h=>by unfold kA;rw[Array.getElem?_eq_getElem h];simp
    rw[gi i hi,gi j Z]at k;let hb:=J _ (getElem_mem Z);let:=HW (ls:=ls) (i:=p.toList[j]) (j:=p.toList[i]) ∅;rw[<-this,qR ∅];rfl
   rw[es]at hq;show hq _ F _ (zy.refl F) (B.newLD O (Ll t2))
  .cases e
 |_=>cases e
end
end FL
namespace FL
open PySem PySem.Spec PyProof.Rows L2
def OU{vs:List Value}(few:vs.length<2):(vs.toArray.zip vs.toArray).map (·.2)=vs.toArray:=by rw[List.zip_toArray,List.map_toArray,List.map_snd_zip (q8 _)]
def Qr(F:s.heap.get? a=⇑(seqObj "list" vs.toArray n))(few:vs.length<2)
  (k:P (.done (.ret .none)) {s with heap:=sortedHeap s.heap a vs vs.toArray}):wpAny (model prog w) A (Builtin.«list.sort» ⟨[.ref a],[]⟩) P E s:=by
 rw[list_sort_plain];let i:vs.toArray.size<2:=few;let G:∃e,(s.heap.update a (Obj.mapSeq λ_=>#[])).get? a=⇑(seqObj "list" #[] e):=#[_,get?_update_seq F _]
 obtain⟨e,mid⟩:=G;let B:(((s.heap.update a (Obj.mapSeq λ_=>#[])).push (seqObj "tuple" vs.toArray 0)).push (seqObj "list" #[] 0)).get? a=⇑(seqObj "list" #[] e):=
  qc _ (qc _ mid)
 show qa (listItems_at F rfl (qa (listUpdate_at F rfl (qa (seqEpoch_at mid rfl (qa (wpAny_newTuple (qa (wpAny_newList (zn ?_))))))))));dsimp only;rw[qZ i,qZ i];show qa (qb (?_:wpAny _ _ _ _ _ _));let I:(arrOf (SortSt.mk' general' (vs.toArray.zip vs.toArray) #[] 7 none)).map (·.2)=vs.toArray:=by show OU few
 show qa (qb (?_:wpAny _ _ _ _ _ _));rw[I];show qa (seqEpoch_at B rfl (qa (listUpdate_at B rfl ?_ (hsz2:=by rw[zk];lia))));simp;show qb k
def TF(B:s.heap.IsList l vs.toArray)(few:vs.length<2)
  (k:Q (.ref (s.heap.objs.size+1)) {s with heap:=sortedAll s.heap vs vs.toArray}):wpAny (model prog w) A (call (.builtin "sorted") [.ref l]) Q E s:=by
 show Calls.call_function_entry kind_sorted plain_sorted entry_sorted (args_sorted1 _) (?_:wpAny _ _ _ _ _ _);show qa (m:=checkCount "sorted" 1 1 _) (qb (qa (collect_list B (qa (wpAny_newList ?_)))));generalize i:((s.heap.push (seqObj "list" #[] 0)).update s.heap.objs.size (Obj.mapSeq (·++vs.toArray)))=h1;let z:h1.objs.size=s.heap.objs.size+1:=by rw[<-i,Heap.size_update,size_push']
 let new:(h1.push (seqObj "list" vs.toArray 0)).get? (s.heap.objs.size+1)=⇑(seqObj "list" vs.toArray 0):=z▸qd _ rfl;rw[z];show qa (zn (zj slot_list_sort #[_,new,rfl] entry_list_sort (Qr new few #[_,rfl,?_]) (args_list_sort _)));subst i;show qb #[_,rfl,k]
section
variable{K:W.Frag}
def nK(K:W.Frag):List V->Hp->VK->Prop:=λxs H Q=>∃a ys,xs=[.ref a]/\bJ K H a ys/\ys.length<2/\∀q,H q=none->Q (.ref q) (upd H q (.lst ys))
def UG:aW X (.builtin "sorted") (nK X.K):=by
 intro zS s σ H xs M Q I r h;let#[a,ys,rfl,J,h2,q]:=h;cases r with
 |cons F B=>cases B;cases F;let#[i,r,G,_]:=I.list J;show TF G.isList (by rw[<-r.length];show h2) ?_;let#[e,L]:=sortedAll_at s.heap i i.toArray;show#[.ref (s.heap.objs.size+1),_,I.laid (t':=s.toks) (o:=.lst ys) (λb O w=>sortedAll_old w) (le_succ _) ?_,rfl,q _ (I.hok.fresh (le_succ _))];show#[by rw[zk];lia,i,e,r,L]
def Kz:∀{xs:List V}{l:List D},zQ K F xs l->xs.length=l.length
 |_,_,.nil=>rfl
 |_,_,.cons _ t=>by rw[qr,qr,Kz t]
def nJ(K:W.Frag):List V->Hp->VK->Prop:=λxs H Q=>nK K xs H Q\/kF K xs H Q\/iJ K xs H Q
def To:aW X (.builtin "sorted") (nJ X.K):=λzS s σ H xs i Q I r h=>by
 rcases h with h|h|h
 .show UG zS s σ H xs i Q I r h
 .show UF zS s σ H xs i Q I r h
 .show UI zS s σ H xs i Q I r h
def Uo:cP K (nJ K) cT:=by
 intro σ ρ F G H vs O s Q i B e J;let#[d,v,rfl,rfl]:=AE (λx y r=>by cases x<;>rfl) rfl B e;cases d with
 |lst l=>
  let e:jD l=⇑s:=e;unfold jD at e;by_cases h2:l.length<2
  .rw[qZ h2]at e;cases e;let#[a,xs,rfl,h1,M]:=B.1.lst i.fr;show .inl #[a,xs,rfl,h1,by rw[Kz M];show h2,λq I=>J _ F _ (zy.refl F) (i.newLD I M)]
  .rw[q5 h2]at e;cases L:fP l with
   |some t=>rw[L]at e;show .inr (.inl (Uh σ ρ F G H [v] [.lst l] s Q i B (L.trans e) J))
   |none=>rw[L]at e;show .inr (.inr (UQ σ ρ F G H [v] [.lst l] s Q i B e J))
 |_=>cases e
def Kp(G:Gl X "sorted")(F:X.mg "sorted"=none)(B:bootBuiltins "sorted"=⇑(.builtin "sorted"))(J:FA X (e::es) wa)(I:autoParam (starEach (e::es) X.env=(false,eval e X.env)::starEach es X.env) rZ9)(i:autoParam ((backTo pos (starEach es X.env)).any (·.1)=false) rZ9):FE X (.Call (.Name "sorted" p) (e::es) [] pos) (wB cT wa):=
 DV (λpn xe=>To (X:=wp X pn xe)) Uo G F B J ⋯ ⋯ I i
end
end FL
namespace FL
def fZ(a b:D):Option Bool:=match b with
 |.str l=>match a with
  |.str x=>⇑(gO l x).isSome
  |_=>none
 |d=>lX a d
def bT(a b:D):Option Bool:=(fZ a b).map (!·)
def cV(j:Nat)(i e:WE):WE:=λρ Q E=>match slot ρ j with
 |some (.lst _)=>i ρ (λy B=>match view y B,slot B j with
  |some (.int n),some (.lst l)=>zx (ixN l.length n) λm=>match l[m]? with
   |some (.lst l')=>e (B.set j none) (λr F=>zx (give r F) λp=>l'.length<big/\Q (.v (.sh .non)) (p.2.set j ⇑(.lst (l.set m (.lst (l'++[p.1])))))) E
   |_=>False
  |_,_=>False) E
 |_=>False
def bV(a:WE):WE:=λρ Q E=>a ρ (λr i=>zx (give r i) λp=>Q (.v (.sh p.1.toD)) p.2) E
def yI(i:Nat)(w:WS):WS:=λD ρ=>w {D with nx:=λB=>zx (slot B i) λs=>D.nx (B.set i ⇑(.sh s.toD))} ρ
def sW(d q:D):Option (Option D):=match d with
 |.dct t ks vs=>if bP t q then ⇑(lk ks vs q)else none
 |_=>none
def mD(a b:WE):WE:=λρ Q E=>a ρ (λx B=>b B (λy i=>zx (zO x i) λF=>zx (view y i) λq=>zx (sW F q) λo=>zx o λe=>Q (.v (.sh e)) i) E) E
def lY:List D->Option S
 |[.lst l]=>(bZ l).bind λi=>(i.min?).map λm=>S.sh (.int m)
 |_=>none
def gH(B:WI):WE:=λρ Q E=>B ρ (λl i=>l.length<=big/\Q (.v (.lst (l.map .sh))) i) E
def gD(a:WE):WE:=λρ Q E=>a ρ (λr i=>zx (zO r i) λd=>match d with
 |.tup l=>l.length<=big/\Q (.v (.sh (.tup l.reverse))) i
 |_=>False) E
mutual
def rC:D->Bool
 |.non=>true
 |.bl _=>true
 |.int i=>↥(-1000000000000<i)&&↥(i<1000000000000)
 |.str l=>l.all λc=>↥(c<1114112)
 |.tup l=>eQ l
 |.lst l=>eQ l
 |_=>false
def eQ:List D->Bool
 |[]=>true
 |d::r=>rC d&&eQ r
end
mutual
def yA:D->Nat
 |.int _=>41
 |.str l=>l.length
 |.tup l=>mP l
 |.lst l=>mP l
 |_=>0
def mP:List D->Nat
 |[]=>0
 |d::r=>yA d+1+mP r
end
def cN(p q:D):Option S:=match p,q with
 |.str x,.int n=>if 0<=n/\n<=1000/\x.length<=500 then ⇑(.sh (.str (List.replicate n.toNat x).flatten))else none
 |p,q=>nR p q
end FL
namespace FL
open PySem PySem.Spec PyProof.Rows L2
section
variable{K:W.Frag}
def UR(x y:Str):Txt.contains x y=(gO x.cps.toList y.cps.toList).isSome:=by
 let h:=Pq x y;unfold Txt.find at h;unfold Txt.contains;cases q:Builtin.Str.occurrences x y 0 x.length 1 with
 |nil=>
  rw[q]at h;cases e:gO x.cps.toList y.cps.toList with
  |none=>rfl
  |some i=>rw[e]at h;let h':(-1:Int)=(i:Int):=h;lia
 |cons i r=>
  rw[q]at h;cases e:gO x.cps.toList y.cps.toList with
  |none=>rw[e]at h;let h':((i:Nat):Int)=-1:=h;lia
  |some i=>rfl
def vD(neg:Bool):R2:=λx y H Q=>∃z u,x=.str z/\y=.str u/\Q (.bl (if neg then !(Txt.contains u z)else Txt.contains u z)) H
def MS:OpR X (compareOp .In) (vD false):=by intro zS s σ H x y v u Q I B i h;let#[z,t,rfl,rfl,q]:=h;let#[G,rfl]:=B;let#[F,rfl]:=i;show SB.contains #[.bl _,H,I,rfl,q]
def Sv:OpR X (compareOp .NotIn) (vD true):=by intro zS s σ H x y v u Q I B i h;let#[z,t,rfl,rfl,q]:=h;let#[G,rfl]:=B;let#[F,rfl]:=i;show SB.notContains #[.bl _,H,I,rfl,q]
def nO(K:W.Frag)(neg:Bool):R2:=λx y H Q=>iM K neg x y H Q\/vD neg x y H Q
def Nw(i:X.A.units+32<cLine):OpR X (compareOp .In) (nO X.K false):=FL.OpR.or (RH i) MS
def Dh(i:X.A.units+32<cLine):OpR X (compareOp .NotIn) (nO X.K true):=FL.OpR.or (UD i) Sv
def Kw(B:aP K H x p)(i:aP K H y q)(e:fZ p q=⇑k)(F:Q (.bl (if neg then !k else k)) H):nO K neg x y H Q:=by
 unfold fZ at e;split at e
 .split at e
  .cases B with
   |str I L=>cases i with
    |str G J=>show .inr #[_,_,rfl,rfl,?_];rw[UR,I,G,qf e];show F
  .cases e
 .show .inl (Oa B i e F)
def Qg:dG K (nO K false) fZ:=λH x y p q k Q B i e F=>Kw B i e F
def Dm:dG K (nO K true) bT:=λH x y p q k Q F B e G=>by
 unfold bT at e;cases i:fZ p q with
 |none=>rw[i]at e;cases e
 |some b=>rw[i]at e;let I:(!b)=k:=qf e;subst I;show Kw F B i G
inductive nt(K:W.Frag)(F H:Hp)(xs:List V)(l:List S)(fp:List Addr)(m:Nat)(s:S):Prop
 |mk (x:V) (fa fi fb:List Addr):xs[m]?=some x->aN K F H x s fi->fp=fa++(fi++fb)->(∀{H':Hp}{v':V}{s':S}{fq:List Addr},(∀a∈fa++fb,H' a=H a)->aN K F H' v' s' fq->zG K F H' (xs.set m v') (l.set m s') (fa++(fq++fb)))->nt K F H xs l fp m s
def zG.at:∀{xs:List V}{l:List S}{fp:List Addr}{m:Nat}{s:S},zG K F H xs l fp->l[m]?=⇑s->nt K F H xs l fp m s
 |_,_,_,_,_,.nil,h=>by simp at h
 |_,_,_,0,_,.cons (fp:=fp) (fq:=fq) a b,h=>by simp at h;subst h;show#[_,[],fp,fq,rfl,a,rfl,λB r=>by rw[nil_append];show .cons r (b.mono (zy.refl F) λc i=>B c i)]
 |_,_,_,m+1,_,.cons (fp:=fp) (fq:=fq) a b,h=>by let#[x,L,I,J,h1,h2,rfl,G]:=zG.at (m:=m) b h;show#[x,fp++L,I,J,h1,h2,(qo ..).symm,λB r=>?_];rw[qo];show .cons (a.mono (zy.refl F) λc i=>B c (qj _ (qj _ i))) (G (λc i=>B c ((qx.mp i).elim (λz=>qj _ (qi _ z)) λz=>qi _ z)) r)
def Rel.hide2(r:Rel K (ρ++[⇑s]) (σ++[⇑v]) F G H)(h:ρ.length=σ.length):∃L fp,Rel K ρ σ F L H/\zy G L/\aN K F H v s fp/\(∀a∈fp,∃o,L a=⇑o/\H a=⇑o)/\
  ∀{ρ2:Env}{σ2:St}{I H2:Hp},zy F I->Rel K ρ2 σ2 I L H2->Rel K (ρ2++[⇑s]) (σ2++[⇑v]) I G H2:=by
 classical
 show cps λ_ kk=>?_;let#[fp,e,Z,ap]:=r.en;let#[f1,f2,rfl,a,b]:=e.cut h;let#[n1,n2,h1]:=qw.mp Z;show kk ?_;let b':=b;cases b' with
 |@so _ _ _ _ fs fn M U=>
 cases U;show#[λx=>if x∈fs++[]then H x else G x,fs,#[r.fr,λx o q=>?_,f1,a,n1,λx i=>?_],λx o q=>?_,M,λx i=>?_,λ{ρ2 σ2 I H2} O J=>?_]
 .by_cases z:x∈fs++[]
  .let:=b.in_ x z;grind
  .simp only[z]at q;show r.gr x o q
 .grind
 .grind
 .obtain⟨o,q,_⟩:=b.in_ x (qj _ i);grind
 .obtain⟨B,e2,Y,h2⟩:=J.en;let hk:∀x∈fs++[],H2 x=H x/\I x=none/\x∉B:=λx i=>by let#[o,q,_]:=b.in_ x i;let w:=J.gr x o (by simp only[i];show q);grind
  show#[J.fr,λx o q=>?_,B++(fs++[]),e2.app (b.mono O λx i=>(hk x i).1),?_,λx i=>?_]
  .let z:x∉fs++[]:=λz=>by grind
   show J.gr x o (by simp only[z];show q)
  .grind
  grind
def Rel.appendAt{D b:Addr}(r:Rel K (ρ++[⇑t,⇑(.lst l)]) (σ++[⇑v,⇑(.ref D)]) F G H)(h:ρ.length=σ.length)(hm:l[m]?=⇑(.lst l'))
  (hD:H D=⇑(.lst xs))(hb:xs[m]?=⇑(.ref b))(hy:H b=⇑(.lst ys)):
  ys.length=l'.length/\Rel K (ρ++[⇑(.lst (l.set m (.lst (l'++[t]))))]) (σ++[⇑(.ref D)]) F G (upd H b (.lst (ys++[v]))):=by
 let#[fp,e,nd,ap]:=r.en;let#[M,f2,rfl,a,c]:=e.cut h;cases c with
 |@so _ _ _ _ J f3 st c=>
 cases c with
 |@so _ _ _ _ fD fn sd nl=>
 cases nl;cases sd with
 |@lst _ h7 _ fl U rl=>
 rw[hD]at U;cases U;let#[x,L,fi,I,B,sx,rfl,up]:=rl.at hm;rw[hb]at B;cases B;cases sx with
 |@lst _ h6 _ i O ry=>
 rw[hy]at O;cases O;show#[ry.len,?_];let hp:(M++(J++(D::(L++(b::i++I))++[]))).Perm (b::(M++(J++(D::(L++(i++I)))))):=by let h1:(L++b::(i++I)).Perm (b::(L++(i++I))):=perm_middle;show((h1.cons D).append_left (M++J)|>.trans ?_|>λz=>↑z);let h2:(D::b::(L++(i++I))).Perm (b::D::(L++(i++I))):=List.Perm.swap ..;show(h2.append_left (M++J)).trans ?_;show perm_middle.trans (by rw[qo])
 let h4:=hp.nodup_iff.mp nd;let#[nb,_]:=qK.mp h4;let Z:∀{w:List Addr},(∀x∈w,x∈M++(J++(D::(L++(i++I)))))->∀x∈w,upd H b (.lst (ys++[v])) x=H x:=λhw x B=>Aj λz=>nb (z▸hw x B);let Y:=ap b (hp.mem_iff.mpr qm);let new:aN K F (upd H b (.lst (ys++[v]))) (.ref b) (.lst (l'++[t])) (b::(i++J)):=.lst AB (zG.snoc (ry.mono (zy.refl F) (Z λx B=>by simp[B])) (st.mono (zy.refl F) (Z λx B=>by simp[B])));let r2:=up (H':=upd H b (.lst (ys++[v]))) (Z λx B=>by rcases qx.mp B with z|z<;>simp[z]) new
 have e2:xs.set m (.ref b)=xs:=by
  apply ext_getElem?;intro j;by_cases hj:m=j
  .subst hj;rw[getElem?_set_self (qg.mp hb).1,hb]
  .rw[getElem?_set_ne hj]
 rw[e2]at r2;let h5:D≠b:=λz=>nb (by simp[z]);let top:aN K F (upd H b (.lst (ys++[v]))) (.ref D) (.lst (l.set m (.lst (l'++[t])))) (D::(L++((b::(i++J))++I))):=.lst ((Aj h5).trans hD) r2;let p:(M++((D::(L++((b::(i++J))++I)))++[])).Perm (M++(J++(D::(L++(b::i++I))++[]))):=by
  show List.Perm.append_left _ ?_;simp;let h1:(i++(J++I)).Perm (J++(i++I)):=by rw[<-qo,<-qo];show List.Perm.append_right _ qM
  let h2:(L++b::(i++(J++I))).Perm (J++(L++b::(i++I))):=by show((h1.cons b).append_left L).trans ?_;let h3:(b::(J++(i++I))).Perm (J++(b::(i++I))):=perm_middle.symm;show(h3.append_left L).trans ?_;rw[<-qo,<-qo];show List.Perm.append_right _ qM
  show(h2.cons D).trans ?_;show perm_middle.symm
 show#[zy.updR r.fr Y.1,λx o w=>?_,_,(a.mono (zy.refl F) (Z λx B=>by simp[B])).app (.so top .nil),p.nodup_iff.mpr nd,λx B=>ap x (p.mem_iff.mp B)];let B:x≠b:=λz=>by rw[z,Y.2]at w;cases w
 rw[Aj B];show r.gr x o w
end
def Lr(ho:FE X o (zt j))(hi:FE X i wi)(he:FE X e we)(hd:eY i:=by intro _ _;rfl)
  (Z:autoParam (attributeBase (.Subscript o i spos) "append" X.env (eval (.Subscript o i spos) X.env)=eval (.Subscript o i spos) X.env) rZ9)
  (h7:autoParam (((backTo cpos (starEach [e] X.env)).all (λx=>!x.1)&&(backToKw cpos (keywordEach [] X.env)).all (λx=>x.1.isSome)
   &&↥([e].length+([]:List Keyword).length+(if([]:List Keyword).isEmpty then 0 else 1)<30))=true) rZ9)
  (Y:autoParam ((apos.endLine==cpos.line)=true) rZ9)(hs:autoParam (starEach [e] X.env=[(false,eval e X.env)]) rZ9):FE X (.Call (.Attribute (.Subscript o i spos) "append" apos) [e] [] cpos) (cV j wi we):=λpn xe hp=>by
 show PE.imp (Dt (X:=wp X pn xe) PySem.F.plainAttrs_list PySem.F.slot_list_append PySem.F.type_list_append GJ (Ey (Ie (X:=wp X pn xe)) (ho pn xe hp) (hi pn xe hp) hd) (Aa he Ab hs pn xe hp) Z h7 Y hs rfl) λσ H Q q=>?_;let#[F,G,ρ,P,PX,h9,L,e4,hx]:=q;unfold cV at L;cases qs:slot ρ j with
 |none=>rw[qs]at L;show L.elim
 |some s0=>
  cases s0 with
  |lst l0=>
   rw[qs]at L;dsimp only at L;show#[F,G,ρ,λy O=>y=.loc j/\O=ρ,PX,h9,by unfold zt;rw[qs];show#[rfl,rfl],λy O o' F1 H1 J s1 r1 rv=>?_,hx];let#[rfl,rfl]:=J;let l1:=Af r1;let U:σ[j]?=⇑⇑o':=rv;let r2:=r1.drop l1;show#[F1,G,O,_,PX,r2,L,λz h3 i' F2 H2 I s2 r3 h8=>?_,hx.grow s1];let l2:=Af r3;split at I
   .rename_i n l ei ql;let#[m,em,I]:=Ag I;split at I
    .rename_i l' el;let ri:=look (ρ':=[]) (σ':=[]) r3 l2 h8 ei;let r4:=r3.drop l2;let#[v',fp,e1,sr]:=r4.at ql;rw[U]at e1;let e2:o'=v':=by simpa using e1
     subst e2;let r5:=Rel.lend (ρ':=[]) (σ':=[]) (r4.pushN (u:=⇑o')) l2 ql U;let l5:(h3.set j none).length=σ.length:=↑l2
     let#[G2,fq,r6,gg,sq,hG,back]:=r5.hide2 l5;cases sq with
     |@lst a xs _ fl hD rl=>
     let#[x,fa,fi,fb,h5,sx,hr,_]:=rl.at el;cases sx with
     |@lst b ys _ fy hy ry=>
     cases ri;let hm:L2.atI xs n=⇑(.ref b):=by
      let e':L2.ixN xs.length n=⇑m:=by rw[rl.len];show em
      unfold L2.atI;rw[e'];show h5
     show .inl #[a,xs,n,_,rfl,rfl,bJ.of hD,hm,.inl #[rfl,_,bJ.of hy],F2,G2,h3.set j none,λrs M=>match rs with|[r]=>(zx (give r M) λp=>l'.length<big/\P (.v (.sh .non)) (p.2.set j ⇑(.lst (l.set m (.lst (l'++[p.1]))))))|_=>False,PX,r6,I,λrs M vs F3 H3 J s3 r7 hl B=>?_,hx.mono (λ_ z=>z) (s1.trans s2) gg];match rs,vs,B,r7,J with
     |[r],[v],B,r7,J=>
      let#[#[t,hq],eg,J]:=Ag J;let r8:=back s3 r7;simp at r8;let l3:M.length=σ.length:=hl;let#[F4,s4,l4,r9]:=As (ρ':=[⇑(.lst l)]) (σ':=[⇑(.ref a)]) r8 l3 B.1 eg;let kept:∀c∈a::fl,H3 c=H2 c:=λc hc=>by let#[o,h1,h2]:=hG c hc;rw[(r7.gr c o h1).1.1,h2]
      let hb:b∈a::fl:=qk _ (by rw[hr];simp);let#[h6,e3]:=Rel.appendAt r9 (l4.trans l3) el ((kept a qm).trans hD) h5 ((kept b hb).trans hy);let h4:=Rel.back1 (ρ':=[]) (σ':=[]) (i:=j) e3 (l4.trans l3) U;rw[qz,qz]at h4;show#[b,ys,v,rfl,rfl,(kept b hb).trans hy,by rw[h6];show lt_trans J.1 ⋯,e4 _ _ .non F4 _ J.2 (s1.trans (s2.trans (s3.trans s4))) (h4.push .non) trivial]
     |[],_,_,_,J=>show J.elim
     |[_],[],B,_,_=>show B.elim
     |[_],_::_::_,B,_,_=>show B.2.elim
     |_::_::_,_,_,_,J=>show J.elim
    .show I.elim
   .show I.elim
  |_=>rw[qs]at L;show L.elim
section
variable{K:W.Frag}
def Rel.frzEnd(r:Rel K (ρ++[⇑s]) (σ++[⇑v]) F G H)(h:ρ.length=σ.length):∃F',zy F F'/\Rel K (ρ++[⇑(.sh s.toD)]) (σ++[⇑v]) F' G H:=by let#[u,F',L,I,J,B]:=r.give (i:=ρ.length) (s:=s) CL;rw[show(ρ++[⇑s]).set ρ.length ⇑(S.sh s.toD)=ρ++[⇑(S.sh s.toD)] from GX]at B;show#[F',I,B]
end
section
variable{st:Stmt}
def AN(he:FE X e U):FE X e (bV U):=λpn xe hp=>by show PE.imp (he pn xe hp) λσ H Q q=>?_;let#[F,G,ρ,P,PX,B,hw,I,hx]:=q;show#[F,G,ρ,_,PX,B,hw,λr O v F1 H1 J s1 M rv=>?_,hx];let#[#[s,i],eg,J]:=Ag J;let#[F2,Z,l2,L]:=As (ρ':=[]) (σ':=[]) M (Af M) rv eg;let#[F3,Y,r3]:=Rel.frzEnd L (Af L);show I _ i v F3 H1 J (s1.trans (Z.trans Y)) r3 trivial
def HV(h:FS X ks st w):FS X ks st (yI i w):=λpn xe hp=>by show PS.imp (h pn xe hp) λD σ H q=>?_;let#[F,G,ρ,E,J,hw,n,b,c,r,x]:=q;show#[F,G,ρ,_,J,hw,λM I F' H' L Z O B=>?_,b,c,r,x];let#[s,es,L]:=Ag L;let#[v,F2,_,U,_,Y]:=B.give es;show n _ I F2 H' L Z (O.trans U) Y
end
section
variable{K:W.Frag}
def OF(h:sW d q=⇑o):∃t ks vs,d=.dct t ks vs/\bP t q=true/\lk ks vs q=o:=by unfold sW at h;grind
def je:R2:=λx y H Q=>∃a v,x=.ref a/\jN H a y ⇑v/\Q v H
def NV(U:X.A.units+1<cLine):oP X je:=by
 intro B F zS s σ H x y v u Q I O M h Y;let#[a,r,rfl,g,q]:=h;cases O;let Z:=UL I g;let h2:=RX (E:=X.xe) U I g M (Q:=EP X zS σ Q) λw' s3 I3 L=>#[r,H,I3,L,q]
 show qa ?_;show qa (wpAny_specialOf Z PySem.F.slot_dict_getitem.lookup ?_);let G:wpAny (model X.prog X.w) X.A (subscripted F false (.ref a) u) (λr i=>wpAny (model X.prog X.w) X.A (letTemporaryGo B (.ref a) r>>=λ_=>pure r) (EP X zS σ Q) X.xe i) X.xe s:=by rw[Y];show wpAny_operating (zp h2 (λr i J=>qa (wpAny_letTemporaryGo (qb J))) λ_ _ x=>x)
 first
  |show qb (qa G)
  |show qa (qb (qa G))
  |show qa G
def HJ{vs:List α}{P:V->α->Prop}(B:zT.length=vs.length)(h:∀(i:Nat) x y,(zT.map (·.2))[i]?=⇑x->vs[i]?=⇑y->P x y):
  (lk (zT.map λp=>aY p.1) vs (aY key)=none/\dH zT key=none)\/∃x y,dH zT key=⇑x/\lk (zT.map λp=>aY p.1) vs (aY key)=⇑y/\P x y:=
 DC aY (λ_ _=>DS) zT vs key P B h
def HI{vs:List α}{key:List bX}{P:V->α->Prop}(B:zT.length=vs.length)(h:∀(i:Nat) x y,(zT.map (·.2))[i]?=⇑x->vs[i]?=⇑y->P x y):
  (lk (zT.map λp=>D.tup (p.1.map aY)) vs (D.tup (key.map aY))=none/\dH zT key=none)\/∃x y,dH zT key=⇑x/\lk (zT.map λp=>D.tup (p.1.map aY)) vs (D.tup (key.map aY))=⇑y/\P x y:=
 DC (λl=>D.tup (l.map aY)) (λa b z=>ES (D.tup.inj z)) zT vs key P B h
def Pb(L:aP K H x d)(J:bP t d=true)
  (O:(∃zT,t=false/\Rd H a (.dK zT)/\ks=zT.map (λp=>aY p.1)/\zQ K F (zT.map (·.2)) vs)\/∃zT,t=true/\Rd H a (.dT zT)/\ks=zT.map (λp=>D.tup (p.1.map aY))/\zQ K F (zT.map (·.2)) vs):
  ∃o,jN H a x o/\((lk ks vs d=none/\o=none)\/∃v e,o=⇑v/\lk ks vs d=⇑e/\aP K F v e):=by
 rcases O with⟨zT,rfl,e,k,r⟩|⟨zT,rfl,e,k,r⟩
 .obtain⟨key,rfl,rfl⟩:=DB L J;show#[_,.inl #[zT,key,e,rfl,rfl],?_];rw[k];rcases HJ (zT:=zT) (vs:=vs) (key:=key) (P:=λv e=>aP K F v e) (by let:=r.len;simpa using this) (λi x y h1 h2=>by let#[M,B,I]:=r.get h2;rw[h1]at B;cases B;show I)with⟨h1,h2⟩|⟨v,e,h1,h2,h3⟩
  .show .inl #[h1,h2]
  .show .inr #[v,e,h1,h2,h3]
 .cases L with
  |tup U q=>
   let#[G,rfl,rfl]:=Gu q J;show#[_,.inr #[zT,G,_,e,rfl,U,rfl],?_];rw[k];rcases HI (zT:=zT) (vs:=vs) (key:=G) (P:=λv e=>aP K F v e) (by let:=r.len;simpa using this) (λi x y h1 h2=>by let#[M,B,I]:=r.get h2;rw[h1]at B;cases B;show I)with⟨h1,h2⟩|⟨v,e,h1,h2,h3⟩
   .show .inl #[h1,h2]
   .show .inr #[v,e,h1,h2,h3]
  |_=>cases J
def bH.dct(r:bH K F H v (.dct t ks vs))(M:zy F H):∃a,v=.ref a/\((∃zT,t=false/\Rd H a (.dK zT)/\ks=zT.map (λp=>aY p.1)/\zQ K F (zT.map (·.2)) vs)\/
  ∃zT,t=true/\Rd H a (.dT zT)/\ks=zT.map (λp=>D.tup (p.1.map aY))/\zQ K F (zT.map (·.2)) vs):=by
 rcases r with r|⟨a,xs,O,G,i,B,r⟩|⟨a,zT,J,I,G,i,B,L,r⟩|⟨a,zT,J,I,G,i,B,L,r⟩
 .cases r with
  |dK e k r=>show#[_,rfl,.inl #[_,rfl,Rd.mono M e,k,r]]
  |dT e k r=>show#[_,rfl,.inr #[_,rfl,Rd.mono M e,k,r]]
 .cases i
 .cases i;show#[a,G,.inl #[zT,rfl,.inl B,L,r]]
 .cases i;show#[a,G,.inr #[zT,rfl,.inl B,L,r]]
end
def EC(hu:X.A.units+1<cLine)(ha:FE X a wa)(hb:FE X b wb)(hs:eY b:=by intro _ _;rfl):FE X (.Subscript a b pos) (mD wa wb):=λpn xe hp=>by
 show PE.imp (Ey (NV (X:=wp X pn xe) hu) (ha pn xe hp) (hb pn xe hp) hs) λσ H Q q=>?_;show(Cp (k:=λx y ρ2 Q E=>zx (zO x ρ2) λdd=>zx (view y ρ2) λq=>zx (sW dd q) λo=>zx o λe=>Q (.v (.sh e)) ρ2) q).mono λv H1 h1=>h1.mono λu H2 h2=>?_;let#[F,G,ρ,x,y,P,PX,B,J,rx,ry,hk,O,hx]:=h2;let#[dd,ed,h3]:=Ag hk;let#[q,eq,Z]:=Ag h3;let#[o,eo,Y]:=Ag Z;let#[e,ee,U]:=Ag Y;let i:Rel X.K (ρ++[zz x]) (σ++[⇑v]) F G H2:=Rel.mid (ρ:=ρ) (σ:=σ) (Rel.swap (ρ1:=[zz x]) (σ1:=[⇑v]) (ρ2:=[zz y]) (σ2:=[⇑u]) J rfl B) J;let ru:=look (ρ':=[]) (σ':=[]) (B.mid J) J ry eq;let#[F4,s4,re,M]:=AG (ρ':=[]) (σ':=[]) i J rx ed;rw[qz,qz]at M;let#[t,ks,vs,rfl,L,I]:=OF eo;let#[c,rfl,hh]:=re.dct M.fr;let#[o2,g,h]:=Pb ru L hh;rcases h with⟨h1,rfl⟩|⟨w,e',rfl,h1,h2⟩
 .rw[I,ee]at h1;cases h1
 .rw[I,ee]at h1;cases h1;show#[c,w,rfl,g,O _ ρ _ F4 H2 U s4 (M.push h2) trivial]
def RM(U:A.handled=none)(F:s.heap.IsList l vs.toArray)(hi:IntsAre vs ns)(J:0<ns.length)
  (h:∀h' M(t:Tok) tk,(∀b x,s.heap.get? b=⇑x->h'.get? b=⇑x)->M∈ns->(∀a,a∈ns->M<=a)->Q (.int M t) {s with heap:=h',toks:=tk}):wpAny (model prog w) A (call (.builtin "min") [.ref l]) Q E s:=by
 let#[xs,e]:=hi.allInts.items;let i:ns=xs.toList.map (·.1):=by rw[<-hi.numsOf,<-nums_intItems,<-e]
 let B:0<xs.size:=by grind
 rw[e]at F;show min_intList U F B λv h' tk I L=>?_;let#[t,rfl]:=intItems_at I;let#[h1,h2]:=argBest_lt (numAt xs) (xs.size-1);show h _ _ t tk L ?_ λa G=>?_
 .rw[i,numAt_eq];show getD_mem (by rw[qh,qU];lia)
 .rw[i]at G;let#[j,O,rfl]:=mem_getD G;rw[qh,qU]at O;rw[<-numAt_eq];show h2 j ∅
section
variable{K:W.Frag}
def sS(K:W.Frag):List V->Hp->VK->Prop:=λxs H Q=>∃(a:Addr)(ns:List Int),xs=[.ref a]/\bJ K H a (ns.map V.int)/\0<ns.length/\∀M,M∈ns->(∀a,a∈ns->M<=a)->Q (.int M) H
def Sy(U:X.calm=true):aW X (.builtin "min") (sS X.K):=by intro zS s σ H xs Y Q I r h;let#[a,Z,rfl,O,i,q]:=h;let#[u,rfl,B]:=vals1 r;cases B;let#[L,F,G,hz]:=I.list O;show RM (I.ok.hd U) G.isList (DQ F) i λh' M t tk J h1 h2=>#[.int _,H,I.kept J,#[_,rfl],q M h1 h2]
def RS:cP K (sS K) lY:=by
 intro σ ρ F G H vs ds s Q i B e L;let#[d,v,rfl,rfl]:=AE (λx y r=>by cases x<;>rfl) rfl B e;cases d with
 |lst l=>let#[a,xs,rfl,h1,J]:=B.1.lst i.fr;let#[I,Z,e]:=Option.bind_eq_some_iff.mp e;let#[m,em,rfl]:=qX.mp e;let#[rfl,_]:=EM J Z;show#[a,I,rfl,h1,by cases I with|nil=>cases em|cons _ _=>simp,λM h2 Y=>?_];let#[U,O]:=List.min?_eq_some_iff.mp em;let:M=m:=Int.le_antisymm (Y m U) (O M h2);subst this;show L _ F H (zy.refl F) (i.push (.int _))
 |_=>cases e
def NT(J:X.calm=true)(G:Gl X "min")(F:X.mg "min"=none)(B:bootBuiltins "min"=⇑(.builtin "min"))(L:FA X (e::es) wa)(I:autoParam (starEach (e::es) X.env=(false,eval e X.env)::starEach es X.env) rZ9)(i:autoParam ((backTo pos (starEach es X.env)).any (·.1)=false) rZ9):FE X (.Call (.Name "min" p) (e::es) [] pos) (wB lY wa):=
 DV (λpn xe=>Sy (X:=wp X pn xe) J) RS G F B L ⋯ ⋯ I i
def yM(ta:TA):TE:=λσ H Q=>ta σ H λvs H1=>∃j:Int,vs=[.int j]/\∀p,H1 p=none->Q (.ref p) (upd H1 p (.rng 0 j))
def Sz(U:Gl X "range")(O:X.mg "range"=none)(Y:PA X [a] ta)(M:starEach [a] X.env=[(false,eval a X.env)]):PE X (.Call (.Name "range" p) [a] [] pos) (yM ta):=by
 intro zS s σ H Q I h;show Call_ (Bg I U O boot_range (PyProof.Rows.callWith_type1 (Ah (Y pos zS s σ H _ I h) λZ i F=>?_) M rfl));let#[vs,H1,B,J,L]:=F;let#[j,e,q]:=L;subst e;cases J with
 |cons r G=>cases G;let#[t,rfl]:=r;show call_range_1 #[.ref i.heap.objs.size,_,B.laid (a:=i.heap.objs.size) (o:=.rng 0 j) (t':=i.toks+1+1) (λ_ _ q=>qc _ q) (q8 _) ?_,rfl,q _ (B.hok.fresh (q8 _))];show#[_,_,_,qd _ rfl]
def fQ(i:Int)(n:Nat):List V:=(List.range n).map λ(k:Nat)=>V.int (i+(k:Int))
def nL(f:List V->HO):List V->Hp->VK->Prop:=λxs H Q=>∃(a:Addr)(i j:Int),xs=[.ref a]/\H a=⇑(.rng i j)/\(-(2^62)<=i/\i<2^62/\-(2^62)<=j/\j<2^62)/\j-i<=2^24/\∀p,H p=none->Q (.ref p) (upd H p (f (fQ i (j-i).toNat)))
def RC(h:ItemsOf (λk v=>∃t,v=.int (i+k*1) t) B n):zP (fQ i n) B.toList:=by
 unfold fQ;show Fh (by rw[qh,qC,qU,h.1]) λj y v h1 h2=>?_;let#[t,rfl]:=h.2 j v (by rw[<-qY];show h2);rw[qE]at h1;let F:j<n:=by let:=(qg.mp h2).1;rw[qU,h.1]at this;show this
 rw[getElem?_range F]at h1;cases h1;show#[t,by simp]
def Vh(U:X.calm=true):aW X (.type "list") (nL .lst):=by
 intro zS s σ H xs us Q I r h;let#[a,i,j,rfl,Y,#[b1,b2,b3,b4],hz,q]:=h;let#[u,rfl,J]:=vals1 r;cases J;let#[t,u,v,L]:=I.hok a _ Y;let M:Builtin.Range.rangeSize i j 1=((j-i).toNat:Nat):=by rw[rangeSize_one];split<;>lia
 show call_list_range (I.ok.hd U) (show IsRange s.heap a i j 1 t u v from L) (small_one b1 b2 b3 b4) M ∅ λh' tk F Z O G B=>?_;show#[.ref s.heap.objs.size,_,I.laid (t':=tk) O (q8 _) (show zR X.prog X.w _ h' _ (.lst (fQ i (j-i).toNat)) from#[?_,F.toList,Z,RC B,G]),rfl,q _ (I.hok.fresh (q8 _))];unfold fQ;rw[qh,qC,zk];lia
def PV:zQ K F (fQ i n) (fromTo i n):=by
 unfold fQ fromTo;generalize List.range n=l;induction l with
 |nil=>show .nil
 |cons k l B=>show .cons (.int _) B
def Pe{k:List D->Env->WQ->Prop}(I:∀pn xe,aW (wp X pn xe) (.type T) (nL f))(hg:Gl X x)(hm:X.mg x=none)(hv:bootBuiltins x=⇑(.type T))(h4:Gl X "range")(h3:X.mg "range"=none)(ha:FE X a wa)
  (J:∀{ρ:Env}{σ:St}{F G H:Hp}{l:List D}{xs:List V}{P:WQ}{q:Addr},Rel X.K ρ σ F G H->zQ X.K F xs l->k l ρ P->H q=none->∃r F',zy F F'/\P r ρ/\RV σ (.ref q) r/\Rel X.K (ρ++[zz r]) (σ++[⇑(.ref q)]) F' G (upd H q (f xs)))
  (hs:starEach [a] X.env=[(false,eval a X.env)])(he:starEach [.Call (.Name "range" p1) [a] [] pos1] X.env=[(false,eval (.Call (.Name "range" p1) [a] [] pos1) X.env)])(hn:x≠"__name__")(h5:(x==("__debug__":Str))=false):
  FE X (.Call (.Name x p) [.Call (.Name "range" p1) [a] [] pos1] [] pos) (λρ Q E=>aX wa ρ (λl ρ1=>l.length<=big/\k l ρ1 Q) E):=λpn xe M=>by
 show PE.imp (KQ (X:=wp X pn xe) (I pn xe) hg hm hv (II (Sz (X:=wp X pn xe) h4 h3 (Aa ha Ab hs pn xe M) hs) IC (by rw[he];rfl)) hn h5 (by rw[he];rfl) (by rfl)) λσ H Q q=>?_;let#[F,G,ρ,P,PX,Y,hw,Z,hx]:=q;show#[F,G,ρ,λU ρ1=>match U with|[r]=>(match view r ρ1 with|some (.int j)=>(-big<=j/\j<=big)/\(fromTo 0 j.toNat).length<=big/\k (fromTo 0 j.toNat) ρ1 P|_=>False)|_=>False,PX,Y,hw,λU ρ1 vs F1 H1 i s1 L hl B=>?_,hx];match U,vs,B,L,i with
 |[r],[v],B,L,i=>
  dsimp only at i;split at i
  .rename_i j ej;let rp:=look (ρ':=[]) (σ':=[]) L hl B.1 ej;cases rp;let#[#[h1,h2],_,i]:=i;let eb:(big:Int)=1000000:=rfl;let r2:Rel X.K ρ1 σ F1 G H1:=(show Rel X.K (ρ1++[zz r]) (σ++[⇑(.int j)]) F1 G H1 from L).drop hl;show#[j,rfl,λp M=>?_];let r3:=r2.newF (o:=.rng 0 j) M;let#[f0,_,_]:=r2.free M;show#[p,0,j,rfl,AB,#[∅,∅,∅,∅],∅,λq hq=>?_];rw[Int.sub_zero];let#[r,F',s',hP,O,r4]:=J (xs:=fQ 0 j.toNat) r3 PV i hq;show Z r ρ1 _ F' _ hP (s1.trans ((zy.upd f0).trans s')) r4 O
  .show i.elim
 |[],_,_,_,J=>show J.elim
 |[_],[],B,_,_=>show B.elim
 |[_],_::_::_,B,_,_=>show B.2.elim
 |_::_::_,_,_,_,J=>show J.elim
def Su(hc:X.calm=true)(Y:Gl X "list")(U:X.mg "list"=none)(L:bootBuiltins "list"=⇑(.type "list"))(G:Gl X "range")(F:X.mg "range"=none)(ha:FE X a wa)
  (M:autoParam (starEach [a] X.env=[(false,eval a X.env)]) rZ9)(Z:autoParam (starEach [.Call (.Name "range" I) [a] [] pos1] X.env=[(false,eval (.Call (.Name "range" I) [a] [] pos1) X.env)]) rZ9):
  FE X (.Call (.Name "list" p) [.Call (.Name "range" I) [a] [] pos1] [] pos) (gH (aX wa)):=
 Pe (f:=.lst) (k:=λl i Q=>Q (.v (.lst (l.map .sh))) i) (λpn xe=>Vh (X:=wp X pn xe) hc) Y U L G F ha (λB J hP O=>#[_,_,zy.refl _,hP,trivial,Rel.newLD B O J]) M Z ⋯ ⋯
end
end FL
namespace FL
open PySem PySem.Spec PyProof.Rows
def Sl:typeLookup (.type "tuple") "__reversed__"=pure none:=by first|rfl|assumption|(simp_all;done)
def JA:typeLookup (.type "tuple") "__getitem__"=pure ⇑(.builtin "tuple.__getitem__"):=by first|rfl|assumption|(simp_all;done)
def Tj:isSubtype (.type "tuple") (.type "dict")=pure false:=by rw[isSubtype_type];kernel_rfl
def pX(t:Addr)(i:Int):Obj:={cls:=.type "reversed",data:=.fields [.ref t,rawInt i].toArray}
def RI{items:Array Value}{R:Fin->Shared->Prop}(B:IsTup s.heap t items)(i:(items.size:Int)<2^63)
  (h:R (.done (.ret (.ref s.heap.objs.size))) {s with heap:=s.heap.push (pX t ((items.size:Int)-1)),toks:=s.toks+1+1}):
  wpAny (model prog w) A (Builtin.«reversed.__new__» #[[.type "reversed",.ref t],[]]) R E s:=by
 show qa (zo (newClass_reversed _) ?_);show qa (zo (a:=()) (by first|rfl|kernel_rfl) (qa (zo (a:=()) (by first|rfl|kernel_rfl) ?_)));show qa (wpAny_specialOf B.typeIs Sl ?_);show qa ?_
 wp_delta
 show qa (wpAny_isInstance (b:=false) B.typeIs Tj ?_);show qa (wpAny_specialOf B.typeIs JA ?_);dsimp only;show qb ?_;show qa (PyProof.Rows.len_tuple B i ?_);show qa (zo (a:=⇑(items.size:Int)) rfl ?_);unfold Builtin.SmallTypes.newRecord;show qa (zi (qb ?_));show h
def Sw(t:Addr)(items:Array Value)(i:(items.size:Int)<2^63):Meets (Builtin.«reversed.__new__» #[[.type "reversed",.ref t],[]]) (λ_ R s=>IsTup s.heap t items/\
   R (.ok (.ret (.ref s.heap.objs.size))) {s with heap:=s.heap.push (pX t ((items.size:Int)-1)),toks:=s.toks+1+1}):=
 .of_wp λprog w A R s h=>RI h.1 i #[_,rfl,h.2]
def VG:Slot "reversed" "__init__" "object.__init__":=
 .of (owner:="object") (n:="__init__") (by rw[typeLookup_type];kernel_rfl) (by decide+kernel) (by decide+kernel) (by decide+kernel) (by first|show .inl (by decide+kernel)|show .inr (by decide+kernel)) (by rw[isSubtype_type];kernel_rfl)
def Uq:TypeCalled "reversed" "reversed.__new__" "object.__init__":=#[by decide+kernel,by decide+kernel,#[_,_,F.mro_reversed],F.made_reversed,by decide+kernel,F.sub_reversed_self,VG]
def SD{items:Array Value}(G:IsTup s.heap t items)(i:(items.size:Int)<2^63)
  (h:Q (.ref s.heap.objs.size) {s with heap:=s.heap.push (pX t ((items.size:Int)-1)),toks:=s.toks+1+1}):wpAny (model prog w) A (call (.type "reversed") [.ref t]) Q E s:=by
 show callType_new Uq ⋯ (F.typeCall_reversed_1 _) (F.newCall_reversed_1 _) (λB=>F.args_object_init_2 B _) F.entry_reversed_new (Sw t items i) #[G,?_];show#[#[_,qd _ rfl,rfl],h]
section
variable{s:Shared}
theorem zaM:Slot "reversed" "__next__" "reversed.__next__":=
 .of (owner:="reversed") (n:="__next__") (by rw[typeLookup_type];kernel_rfl) (by decide+kernel) (by decide+kernel) (by decide+kernel) (by first|show .inl (by decide+kernel)|show .inr (by decide+kernel)) (by rw[isSubtype_type];kernel_rfl)
def LV:entryFor table "reversed.__next__"=⇑Builtin.«reversed.__next__»:=entryFor_of_tree (by kernel_rfl)
def LN(a:Value):argsOk "reversed.__next__" #[[a],[]]:=by first|rfl|assumption|(simp_all;done)
def bB(h:Heap)(a t:Addr)(i:Int):Prop:=∃o,h.get? a=⇑o/\o.cls=.type "reversed"/\o.data=.fields [.ref t,rawInt i].toArray
def bB.typeIs(x:bB s.heap a t i):s.TypeIs (.ref a) "reversed":=let⟨o,ho,hc,_⟩:=x;#[o,ho,hc]
def Te{i:Nat}{items:Array Value}(F:bB s.heap J t (i:Int))(L:IsTup s.heap t items)(O:items[i]?=⇑x)(B:(items.size:Int)<2^63)
  (Z:∀h' tk,bB h' J t ((i:Int)-1)->Heap.SameBut J s.heap h'->Q ⇑x {s with heap:=h',toks:=tk}):wpAny (model prog w) A (pyNext (.ref J)) Q E s:=by
 let#[o,I,Y,G]:=id F;let hi:i<items.size:=by grind
 refine qa (wpAny_attempt (wpAny_callSpecial?_slot (name:=Str.ofString "__next__") F.typeIs zaM (zj zaM F.typeIs LV ?_ (LN _))));show qa (zo (a:=(Value.ref J,[])) rfl ?_);show qa (zc I G (x:=.ref t) rfl (qa (zc I G (x:=rawInt (i:Int)) rfl ?_)));show wpAny _ _ (if(i:Int)<0 then _ else _) _ _ s;show qa (wpAny_specialOf L.typeIs JA ?_);show qa (wpAny_mkInt ?_);let U:seqIndex? (i:Int) items.size=⇑i:=by
  unfold seqIndex?;let M:¬(i:Int)<0:=∅
  simp[hi,M]
 show qa (wpAny_attempt (PyProof.Rows.getItem_tuple (s:={s with toks:=s.toks+1}) (j:=i) (x:=x) (show IsTup s.heap t items from L) (Int.le_trans (Int.neg_nonpos_of_nonneg (Int.le_of_lt (Int.lt_of_le_of_lt (natCast_nonneg _) B))) (natCast_nonneg i)) (Int.lt_trans (Int.ofNat_lt.mpr hi) B) U O ?_));show qa (zc (s:={s with toks:=s.toks+1}) I G (x:=rawInt (i:Int)) rfl ?_);show qa (wpAny_setField (s:={s with toks:=s.toks+1}) I G (by simp) ?_);show qb #[x,rfl,qb (Z _ (s.toks+1) ?_ (Heap.SameBut.update ..))];show#[_,zb _ I (Obj.isFreed_of_fields (Obj.data_mapFields G _)),(Obj.cls_mapFields ..).trans Y,by rw[Obj.data_mapFields G];simp]
def Rb(hh:A.handled=none)(hit:bB s.heap it t (-1))(hQ:∀h',Heap.ExtBut it s.heap h'->Q none {s with heap:=h'}):wpAny (model prog w) A (pyNext (.ref it)) Q E s:=by
 let#[o,ho,hc,hd]:=id hit;show qa (wpAny_attempt (wpAny_callSpecial?_slot (name:=Str.ofString "__next__") hit.typeIs zaM (zj zaM hit.typeIs LV ?_ (LN _))));show qa (zo (a:=(Value.ref it,[])) rfl ?_);show qa (zc ho hd (x:=.ref t) rfl (qa (zc ho hd (x:=rawInt (-1)) rfl ?_)));show wpAny _ _ (if(-1:Int)<0 then _ else _) _ _ s;show qa (wpAny_rule ?_);show qa ?_
 wp_delta
 show qa (wpAny_setField ho hd (by simp) ?_);let ho2:=zb (h:=s.heap) (a:=it) (Obj.mapFields (·.setIfInBounds 1 (rawInt (-1)))) ho (Obj.isFreed_of_fields (Obj.data_mapFields hd _));show wpAny_setField (s:={s with heap:=s.heap.update it (Obj.mapFields (·.setIfInBounds 1 (rawInt (-1))))}) ho2 (Obj.data_mapFields hd _) (by simp) ?_;show qa ?_;show qa ?_;show qa (zi ?_ (by size_fits));show qa (m:=firstArgMember _ _) (zo (a:=Value.none) (by first|rfl|(simp;rfl)) (zi ?_ (by size_fits)));show qa (wpAny_handled ?_);first|rw[show A.in1.handled=none from hh]|rw[hh]
 show qa (qb (wpAny_throw ?_));show qa (wpAny_isInstance (T:="StopIteration") (b:=true) ?ty isSubtype_stop ?_);case ty=>show#[_,qd _ rfl,rfl]
 show qb (hQ _ ?_);let x1:Heap.ExtBut it s.heap (s.heap.update it (Obj.mapFields (·.setIfInBounds 1 (rawInt (-1))))):=(Heap.SameBut.update s.heap it _).extBut;let x2:Heap.ExtBut it s.heap ((s.heap.update it (Obj.mapFields (·.setIfInBounds 1 (rawInt (-1))))).update it (Obj.mapFields (·.setIfInBounds 0 Value.none))):=λb o hb e=>(Heap.SameBut.update _ it _).extBut b o hb (x1 b o hb e);show(x2.push _).push _
def LM:Slot "reversed" "__iter__" "reversed.__iter__":=
 .of (owner:="reversed") (n:="__iter__") (by rw[typeLookup_type];kernel_rfl) (by decide+kernel) (by decide+kernel) (by decide+kernel) (by first|show .inl (by decide+kernel)|show .inr (by decide+kernel)) (by rw[isSubtype_type];kernel_rfl)
def VA(a:Value):argsOk "reversed.__iter__" #[[a],[]]:=by first|rfl|assumption|(simp_all;done)
def Vw:entryFor table "reversed.__iter__"=⇑Builtin.«dict_keyiterator.__iter__»:=
 entryFor_alias (id':="dict_keyiterator.__iter__") (by kernel_rfl) (by first|rfl|decide+kernel|(unfold String.splitOn;simp+decide [String.splitOnAux])) (by decide+kernel) (by kernel_rfl)
def KS(B:bB s.heap F t i)(h:Q (.ref F) s):wpAny (model prog w) A (pyIter (.ref F)) Q E s:=by show wpAny_pyIter_slot B.typeIs LM (zj LM B.typeIs Vw (?_:wpAny _ _ (ret (.ref F)) _ _ s) (VA _));show qb #[_,rfl,"reversed",_,B.typeIs,zaM.lookup,h]
end
def bB.at(x:bB h a t i)(e:∀o,h.get? a=⇑o->h'.get? a=⇑o):bB h' a t i:=let⟨o,ho,r⟩:=x;#[o,e _ ho,r]
def DI{items:Array Value}(x:IsTup h t items)(e:∀o,h.get? t=⇑o->h'.get? t=⇑o):IsTup h' t items:=let⟨o,ho,r⟩:=x;#[o,e _ ho,r]
def TL{prog:Program}{w:World}{A:Around}(hh:A.handled=none)(I t:Addr)(hne:t≠I)(items:Array Value)(hfit:(items.size:Int)<2^63):
  Walks prog w A I [I,t] [I] items.size (λi v=>items[items.size-1-i]?=⇑v) (λi h=>i<=items.size/\bB h I t ((items.size:Int)-1-(i:Int))/\IsTup h t items) where
 sub:=λb hb=>by simp at hb;simp[hb]
 frame:=λ_ _ _ x hk=>#[x.1,x.2.1.at λo e=>hk I (by simp) o e,DI x.2.2 λo e=>hk t (by simp) o e]
 item:=λi s Q E hi x hQ=>by let hit:=x.2.1;rw[show(items.size:Int)-1-(i:Int)=((items.size-1-i:Nat):Int) by lia]at hit;let hx:items[items.size-1-i]?=⇑(items[items.size-1-i]'∅):=Array.getElem?_eq_getElem _;show Te hit x.2.2 hx hfit λh' tk hit' hs'=>?_;show hQ _ h' tk hx #[∅,?_,DI x.2.2 λo e=>hs'.extBut t o hne e] λb o hb e=>hs'.extBut b o (λh=>hb (by simp[h])) e;rw[show((items.size-1-i:Nat):Int)-1=(items.size:Int)-1-((i+1:Nat):Int) by lia]at hit';show hit'
 done:=λs Q E x hQ=>Rb hh (by let:=x.2.1;rw[show(items.size:Int)-1-((items.size:Nat):Int)=-1 by lia]at this;show this) λh' he'=>hQ h' s.toks λb o hb e=>he' b o (λh=>hb (by simp[h])) e
 self:=λ_ _ _ _ x hQ=>KS x.2.1 hQ
end FL
namespace FL
open PySem PySem.Spec PyProof.Rows L2
def SX:typeLookup (.type "reversed") "__len__"=pure none:=by first|rfl|assumption|(simp_all;done)
theorem zcd:Slot "reversed" "__length_hint__" "reversed.__length_hint__":=
 .of (owner:="reversed") (n:="__length_hint__") (by rw[typeLookup_type];kernel_rfl) (by decide+kernel) (by decide+kernel) (by decide+kernel) (by first|show .inl (by decide+kernel)|show .inr (by decide+kernel)) (by rw[isSubtype_type];kernel_rfl)
def Vx:entryFor table "reversed.__length_hint__"=⇑Builtin.«reversed.__length_hint__»:=entryFor_of_tree (by kernel_rfl)
def Vi(a:Value):argsOk "reversed.__length_hint__" #[[a],[]]:=by first|rfl|assumption|(simp_all;done)
def Vf{items:Array Value}(i:bB s.heap F t ((items.size:Int)-1))(J:IsTup s.heap t items)(B:(items.size:Int)<2^63)
  (h:∀u tk,Q (.int (items.size:Int) u) {s with toks:=tk}):wpAny (model prog w) A (call (.builtin "reversed.__length_hint__") [.ref F]) Q E s:=by
 let#[o,G,L,I]:=id i;show zj zcd i.typeIs Vx ?_ (Vi _);show qa (zo (a:=Value.ref F) rfl ?_);show qa (zc G I (x:=.ref t) rfl ?_);show qa (PyProof.Rows.len_tuple J B ?_);show qa (zo (a:=⇑(items.size:Int)) rfl ?_);show qa (zc G I (x:=rawInt ((items.size:Int)-1)) rfl ?_);show wpAny _ _ (if(items.size:Int)<(items.size:Int)-1+1 then _ else retInt ((items.size:Int)-1+1)) _ _ _;rw[q5 ∅,show(items.size:Int)-1+1=items.size by lia];show qa (wpAny_mkInt ?_);show qb #[_,rfl,h _ _]
def VF:typeOf (.builtin "reversed.__length_hint__")=pure (.type "method_descriptor"):=by first|rfl|assumption|(simp_all;done)
def RG{items:Array Value}(i:bB s.heap L t ((items.size:Int)-1))(M:IsTup s.heap t items)(zV:items.size<=2^24)
  (h:∀tk,Q ((items.size:Int) !=0) {s with toks:=tk}):wpAny (model prog w) A (Builtin.List.listLengthHint (.ref L)) Q E s:=by
 show qa (wpAny_specialOf i.typeIs SX ?_);show qa (wpAny_specialOf i.typeIs zcd.lookup ?_)
 (generalize F:("reversed.__length_hint__":String)=G;wp_delta;rw[show splitId G=⇑("reversed","__length_hint__") from by subst F;decide+kernel];subst F)
 show qa (wpAny_isInstance (b:=true) i.typeIs (by rw[isSubtype_type];kernel_rfl) ?_);show wpAny_ite_split (λB=>absurd B ⋯) (λ_=>?_);show wpAny_ite_split (λB=>absurd B (by decide+kernel)) (λ_=>?_);show qa (wpAny_rule ?_);show qa (qa (zo VF ?_));show qb ?_;show qa (wpAny_attempt (Vf i M ∅ λu tk=>?_));show qa ?_;let I:Builtin.List.listTooLong ((items.size:Int).toNat)=false:=by simp[Builtin.List.listTooLong,sizeLine];lia
 let J:Builtin.List.listFitsIndex (items.size:Int)=true:=by simp[Builtin.List.listFitsIndex];lia
 let O:¬(items.size:Int)<0:=Int.not_lt.mpr (natCast_nonneg _);let h':=h tk;show qb ?_;simp only[J,I,O,Bool.not_true,if_false];show qb h'
def Tw{R:Result->Shared->Prop}{items:Array Value}(hh:A.handled=none)(B:bB s.heap I t ((items.size:Int)-1))(ht:IsTup s.heap t items)(e1:t≠I)(zV:items.size<=2^24)
  (S:Addr)(res:Value)(U:Nat)(hS:s.heap.get? S=some {cls:=.type "list",data:=.seq #[] U})
  (hR:∀h' tk G c',(∀b o,b≠S->b≠I->s.heap.get? b=⇑o->Heap.get? h' b=⇑o)->Heap.get? h' S=some {cls:=.type "list",dict:=none,data:=.seq G c',slots:=#[]}->
   ItemsOf (λi v=>items[items.size-1-i]?=⇑v) G items.size->R (.ok (.ret res)) {s with heap:=h',toks:=tk}):
  wpAny (model prog w) A.in1 (Builtin.List.listExtendWith (.ref S) (.ref I) res)
   (λe4 s'=>match e4 with|.done f=>R (.ok f) s'|.again c'=>c'.quiet=true/\codeAny (model prog w) A c' R s') (λe s'=>R (.error e) s') s:=by
 let h5:S≠I:=λe=>by let#[o,ho,hc,_]:=B;rw[e,ho]at hS;cases hS;simp at hc
 let h9:S≠t:=λe=>by let#[o,ho,hc,_]:=ht;rw[e,ho]at hS;cases hS;simp at hc
 have e2:S∉[I,t]:=λhm=>by
  rcases qA.mp hm with e|hm
  .show h5 e
  .show h9 (qt.mp hm)
 have W:=(TL (prog:=prog) (w:=w) (A:=A.in1) hh I t e1 items ∅).toS;let h6:∀(h:Heap)(M tk:Nat),(0<=items.size/\bB h I t ((items.size:Int)-1-((0:Nat):Int))/\IsTup h t items)->(∀b o,b≠S->b≠I->s.heap.get? b=⇑o->h.get? b=⇑o)->
   h.get? S=some {cls:=.type "list",data:=.seq #[] M}->codeAny (model prog w) A (.builtin "list.extend.loop" #[[.ref S,.ref I,res],[]]) R {s with heap:=h,toks:=tk}:=by
  intro h M tk B hk h4;show codeAny_extend_loopS W (by rw[zk];lia) S e2 res items.size 0 _ #[] M rfl (zero_le _) B h4 (ItemsOf.nil _) λs' G c' hm e3 h8=>?_;rw[Moved.eq_with hm];show hR s'.heap s'.toks G c' (λb o Y h7 e=>hm.heap b o (λJ=>?_) (hk b o Y h7 e)) e3 h8;rcases qA.mp J with e'|J
  .show Y e'
  .show h7 (qt.mp J)
 show qa (wpAny_typeOf (T:="reversed") B.typeIs ?_);let h1:Builtin.List.listSameRef (.ref S) (.ref I)=false:=by simp[Builtin.List.listSameRef,h5]
 let h2:(Value.type "reversed"==Value.type "list")=false:=⋯
 let h3:(Value.type "reversed"==Value.type "tuple")=false:=⋯
 simp only[h1,h2,h3,Bool.or_false,if_false];show qa (KS B ?_);show qa (zn (RG B ht zV λtk=>?_));let O:bB s.heap I t ((items.size:Int)-1-((0:Nat):Int)):=↑B
 show wpAny_ite_split (λ_=>?_) (λ_=>qb #[plainId_quiet F.plain_extend_loop _,h6 _ U _ #[zero_le _,O,ht] (λb o _ _ e=>e) hS]);show qa (wpAny_rule ?_);show qa ?_;show qa (wpAny_updateSeq (s:={s with toks:=tk}) hS rfl ?_);let L:=zb (Obj.mapSeq (·.push Value.none)) hS rfl;show wpAny_updateSeq (hz:=by seq_fits) L rfl ?_;let Z:=zb (Obj.mapSeq (·.pop)) L rfl;let kk:∀b o,b≠S->s.heap.get? b=⇑o->((s.heap.update S (Obj.mapSeq (·.push Value.none))).update S (Obj.mapSeq (·.pop))).get? b=⇑o:=λb o Y e=>(q9 _ _ (Ne.symm Y)).trans ((q9 _ _ (Ne.symm Y)).trans e)
 show qb #[plainId_quiet F.plain_extend_loop _,h6 _ _ _ #[zero_le _,O.at λo e=>kk I o (Ne.symm h5) e,DI ht λo e=>kk t o (Ne.symm h9) e] (λb o Y _ e=>kk b o Y e) Z]
def UW{items:Array Value}(hh:A.handled=none)(hit:bB s.heap it t ((items.size:Int)-1))(ht:IsTup s.heap t items)(hne:t≠it)(zV:items.size<=2^24)
  (hQ:∀(h':Heap) tk zX,(∀b o,b≠it->s.heap.get? b=⇑o->h'.get? b=⇑o)->s.heap.objs.size<=h'.objs.size->ItemsOf (λi v=>items[items.size-1-i]?=⇑v) zX items.size->Q zX.toList {s with heap:=h',toks:=tk}):wpAny (model prog w) A (collect (.ref it)) Q E s:=by
 refine qa (wpAny_runValue (codeAny_builtin F.entry_proto_collect ?_));show qa (zi ?_);show qb #[plainId_quiet F.plain_list_iadd _,codeAny_builtin F.entry_list_iadd ?_];let hS₁:(s.heap.push {cls:=.type "list",data:=.seq ([]:List Value).toArray}).get? s.heap.objs.size=some {cls:=.type "list",data:=.seq #[]}:=qd _ rfl;refine Tw (R:=λr s'=>match r with
  |.ok (.ret v)=>wpAny (model prog w) A (match v with
   |.ref a=>do
    let __do_lift<-load a
    match __do_lift.data with
     |.seq xs epoch=>pure xs.toList
     |x=>unsupported "internal:collect"
   |x=>unsupported "internal:collect") Q E s'
  |.ok a=>False
  |.error e=>E e s') (s:={s with heap:=s.heap.push {cls:=.type "list",data:=.seq ([]:List Value).toArray}}) hh (hit.at λo e=>qc _ e) (DI ht λo e=>qc _ e) hne zV _ _ 0 hS₁ λh' tk acc' c' hk hS' hacc=>?_
 show qa (wpAny_load hS' ?_);show qb (hQ h' tk acc' (λb o hb e=>hk b o (ne_of_lt (qe e)) hb (qc _ e)) (le_of_lt (qe hS')) hacc)
def Vy{items:Array Value}(hh:A.handled=none)(hit:bB s.heap it t ((items.size:Int)-1))(ht:IsTup s.heap t items)(hne:t≠it)(zV:items.size<=2^24)
  (h:∀(h':Heap) tk zX,(∀b o,b≠it->s.heap.get? b=⇑o->h'.get? b=⇑o)->s.heap.objs.size<=h'.objs.size->ItemsOf (λi v=>items[items.size-1-i]?=⇑v) zX items.size->Q₁ (.ref h'.objs.size) {s with heap:=h'.push {cls:=.type "tuple",data:=.seq zX},toks:=tk}):
  codeAny (model prog w) A (.call (.builtin "tuple.__new__") #[[.type "tuple",.ref it],[]]) (wants Q₁ E) s:=by
 show codeAny_of_tree ?_;show wpAny _ A.in1 (do checkBuiltinCall "tuple.__new__" #[[.type "tuple",.ref it],[]];again (.builtin "tuple.__new__" #[[.type "tuple",.ref it],[]])) _ _ s;show qa (zo (F.newCall_tuple_1 _) (qb #[plainId_quiet F.plain_tuple_new _,codeAny_builtin F.entry_tuple_new ?_]));rw[Around.under_plainId F.plain_tuple_new _];let hsub:=sub_tuple_self;let hinit:=init_tuple_lookup;let hmh:=madeHere_tuple;let hTI:s.TypeIs (.ref it) "reversed":=hit.typeIs
 wp_walk using wpAny_typeOf hTI,UW (A:=A.in1) hh hit ht hne zV
 intro h' tk zX hm hle hacc;show wpAny _ _ (Builtin.Tuple.tupleExact zX.toList.toArray>>=λv=>ret v) _ _ _;unfold Builtin.Tuple.tupleExact;show qa (zi ?_ (by show zX.toList.toArray.size<=sizeLine;simp only[toArray_toList];rw[hacc.1,zk];show zV));show qb ?_;let e:zX.toList.toArray=zX:=by simp
 rw[e];show h h' tk zX hm hle hacc
def Vv{items:Array Value}(hh:A.handled=none)(Y:bB s.heap M t ((items.size:Int)-1))(Z:IsTup s.heap t items)(O:t≠M)(zV:items.size<=2^24)
  (hQ:∀(h':Heap) tk J,(∀b o,b≠M->s.heap.get? b=⇑o->h'.get? b=⇑o)->s.heap.objs.size<=h'.objs.size->ItemsOf (λi v=>items[items.size-1-i]?=⇑v) J items.size->Q (.ref h'.objs.size) {s with heap:=h'.push {cls:=.type "tuple",data:=.seq J},toks:=tk}):
  wpAny (model prog w) A (call (.type "tuple") [.ref M]) Q E s:=by
 refine callType_codes (Q₁:=λI B=>B.TypeIs I "tuple"/\Q I B) F.called_tuple (F.typeCall_tuple_1 _) F.entry_object_init
  (Vy (A:=A.in1) hh Y Z O zV λs' tk J hm U L=>#[#[_,qd _ rfl,rfl],hQ s' tk J hm U L]) λI B G=>?_
 show#[G.1,F.args_object_init_2 I _,object_init_meets F.called_tuple.init.lookup F.called_tuple.made ⋯ prog w A.in1 _ B #[G.1,rfl,G.2]]
section
variable{K:W.Frag}
def Vb:bootBuiltins "reversed"=⇑(.type "reversed"):=by decide+kernel
def pU(K:W.Frag)(ta:TA):TE:=λσ H Q=>ta σ H λvs H1=>∃t xs,vs=[.ref t]/\bD K H1 t xs/\xs.length<=2^24/\∀q,H1 q=none->Q (.ref q) (upd H1 q (.tup xs.reverse))
def Sa(hc:X.calm=true)(hg:Gl X "tuple")(hm:X.mg "tuple"=none)(hv:bootBuiltins "tuple"=⇑(.type "tuple"))(Z:Gl X "reversed")(M:X.mg "reversed"=none)(ha:PA X [a] ta)
  (hs:starEach [a] X.env=[(false,eval a X.env)])(he:starEach [.Call (.Name "reversed" p1) [a] [] pos1] X.env=[(false,eval (.Call (.Name "reversed" p1) [a] [] pos1) X.env)]):
  PE X (.Call (.Name "tuple" p) [.Call (.Name "reversed" p1) [a] [] pos1] [] pos) (pU X.K ta):=by
 intro zS s σ H Q I h;show Call_ (Bg I hg hm hv (PyProof.Rows.callWith_type1 (rest:=[]) ?_ he (by rfl)));show Calls.spliced_cons (Call_ (Bg I Z M Vb (PyProof.Rows.callWith_type1 (Ah (ha pos1 zS s σ H _ I h) λus L zq=>?_) hs rfl)));let#[vs,H1,I1,r1,q1]:=zq;let#[t,xs,rfl,hq,hz,q]:=q1;let#[u,rfl,rx]:=vals1 r1;cases rx;let#[G,rv,pt,_]:=I1.tuple hq;let i:G.toArray.size=xs.length:=by rw[qq,rv.length]
 let O:t<L.heap.objs.size:=by let#[_,e,_]:=pt;show qe e
 show SD pt (by rw[i];lia) (Calls.spliced_nil ?_);show Vv (s:={L with heap:=L.heap.push (pX t ((G.toArray.size:Int)-1)),toks:=L.toks+1+1}) (items:=G.toArray) (I.ok.hd hc) ⟨_,qd _ rfl,rfl,rfl⟩ (DI pt λo e=>qc _ e) (ne_of_lt O) (by rw[i];lia) λh' tk J hk U F=>?_;let Y:∀b o,L.heap.get? b=⇑o->(h'.push {cls:=.type "tuple",data:=.seq J}).get? b=⇑o:=λb o e=>qc _ (hk b o (ne_of_lt (qe e)) (qc _ e))
 let B:L.heap.objs.size<=h'.objs.size:=by show le_trans ?_ U;rw[Heap.size_push];show le_succ _
 show#[.ref h'.objs.size,_,I1.laid (t':=tk) Y B (show zR X.prog X.w _ (h'.push _) _ (.tup xs.reverse) from#[#[?_,iS.new rfl (qd _ rfl)],J.toList,?_,?_]),rfl,q _ (I1.hok.fresh B)]
 .rw[List.length_reverse];show hz
 .show Fh (by rw[List.length_reverse];let:=F.1;rw[i]at this;simp[this]) λj y v h1 h2=>?_;let h3:=F.2 j v (by rw[<-qY];show h2);let hj:j<xs.length:=by let:=(qg.mp h1).1;simpa using this
  rw[List.getElem?_reverse hj]at h1;rw[List.getElem?_toArray,i]at h3;let#[u,h4,h5]:=rv.get h1;rw[h3]at h4;cases h4;show h5
 .simpa using IsTup.new h' J
def zQ.rev:∀{xs:List V}{l:List D},zQ K F xs l->zQ K F xs.reverse l.reverse
 |_,_,.nil=>.nil
 |_,_,.cons a b=>by rw[List.reverse_cons,List.reverse_cons];show(zQ.rev b).append (.cons a .nil)
def SY(hc:X.calm=true)(hg:Gl X "tuple")(hm:X.mg "tuple"=none)(hv:bootBuiltins "tuple"=⇑(.type "tuple"))(Y:Gl X "reversed")(U:X.mg "reversed"=none)(ha:FE X a wa)
  (hs:autoParam (starEach [a] X.env=[(false,eval a X.env)]) rZ9)(he:autoParam (starEach [.Call (.Name "reversed" p1) [a] [] pos1] X.env=[(false,eval (.Call (.Name "reversed" p1) [a] [] pos1) X.env)]) rZ9):
  FE X (.Call (.Name "tuple" p) [.Call (.Name "reversed" p1) [a] [] pos1] [] pos) (gD wa):=λpn xe hp=>by
 show PE.imp (Sa (X:=wp X pn xe) hc hg hm hv Y U (Aa ha Ab hs pn xe hp) hs he) λσ H Q q=>?_;let#[F,G,ρ,P,PX,M,hw,O,hx]:=q;show#[F,G,ρ,λI B=>match I with|[r]=>(zx (zO r B) λd=>match d with|.tup l=>l.length<=big/\P (.v (.sh (.tup l.reverse))) B|_=>False)|_=>False,PX,M,hw,λI B vs F1 H1 i s1 r1 hl L=>?_,hx];cases I with
 |nil=>show i.elim
 |cons r I=>
  cases I with
  |cons x I=>show i.elim
  |nil=>
   cases vs with
   |nil=>show L.elim
   |cons v vs=>
    cases vs with
    |cons x vs=>show L.2.elim
    |nil=>
     let#[d,ed,i]:=Ag i;let#[F2,s2,re,J]:=AG (ρ':=[]) (σ':=[]) r1 hl L.1 ed;rw[qz,qz]at J;cases d with
     |tup l=>let#[hz,i]:=i;let#[t,xs,rfl,e,Z]:=bH.tup re;let h1:=Z.len;let hb:l.length<=1000000:=hz;show#[t,xs,rfl,bD.of (J.fr _ _ e),∅,λq hq=>?_];let#[f0,_,_]:=J.free hq;show O _ B _ _ _ i (s1.trans (s2.trans (zy.upd f0))) ((J.newF (o:=.tup xs.reverse) hq).push (.tup AB (Z.rev.mono (zy.upd f0)))) trivial
     |_=>show i.elim
end
def IM(h1:-1000000000000<i)(h2:i<1000000000000):i.natAbs.log2<40:=by
 let:i.natAbs<2^40:=∅
 by_cases B:i.natAbs=0
 .rw[B];decide
 .show(Nat.log2_lt B).mpr this
mutual
theorem Sj:∀d:D,rC d=true->nF d=true
 |.non,_=>rfl
 |.bl _,_=>rfl
 |.int i,h=>by let h':(↥(-1000000000000<i)&&↥(i<1000000000000))=true:=h;rw[and_eq_true,qS,qS]at h';let:=IM h'.1 h'.2;show ↥(i.natAbs.log2<1920)=true;rw[qS];lia
 |.str _,_=>rfl
 |.tup l,h=>GV l h
 |.lst l,h=>GV l h
 |.dct _ _ _,h=>by cases h
 |.set _,h=>by cases h
 |.exc _ _ _,h=>by cases h
theorem GV:∀l:List D,eQ l=true->eK l=true
 |[],_=>rfl
 |d::r,h=>by rw[eQ,and_eq_true]at h;rw[eK,Sj d h.1,GV r h.2];rfl
end
mutual
theorem UJ:∀d:D,rC d=true->(eP d).leavesShort 13=true
 |.non,_=>rfl
 |.bl _,_=>rfl
 |.int i,h=>by let h':(↥(-1000000000000<i)&&↥(i<1000000000000))=true:=h;rw[and_eq_true,qS,qS]at h';let:=int_text_length_le10 (a:=i) (k:=12) ⋯ ∅;simp only[eP,PyData.leavesShort,qS];show(Str.ofString (toString i)).length<=13;rw[PySem.ofString_length];show this
 |.str l,h=>by let h':(l.all λc=>↥(c<1114112))=true:=h;simp only[eP,PyData.leavesShort,qH,qS]at h'⊢;intro c B;let:=h' c ↑B;lia
 |.tup l,h=>by simp only[eP,PyData.leavesShort];show Ht l h
 |.lst l,h=>by simp only[eP,PyData.leavesShort];show Ht l h
 |.dct _ _ _,h=>by cases h
 |.set _,h=>by cases h
 |.exc _ _ _,h=>by cases h
theorem Ht:∀l:List D,eQ l=true->PyData.leavesShortAll 13 (cW l)=true
 |[],_=>rfl
 |d::r,h=>by rw[eQ,and_eq_true]at h;simp only[cW,PyData.leavesShortAll,and_eq_true];show#[UJ d h.1,Ht r h.2]
end
mutual
theorem Vc:∀d:D,rC d=true->(eP d).weight<=yA d
 |.non,_=>q8 _
 |.bl _,_=>q8 _
 |.int i,h=>by let h':(↥(-1000000000000<i)&&↥(i<1000000000000))=true:=h;rw[and_eq_true,qS,qS]at h';let:=IM h'.1 h'.2;simp only[eP,PyData.weight,yA];split<;>lia
 |.str l,h=>by simp[eP,PyData.weight,yA]
 |.tup l,h=>by simp only[eP,PyData.weight,yA];show Hq l h
 |.lst l,h=>by simp only[eP,PyData.weight,yA];show Hq l h
 |.dct _ _ _,h=>by cases h
 |.set _,h=>by cases h
 |.exc _ _ _,h=>by cases h
theorem Hq:∀l:List D,eQ l=true->PyData.weightAll (cW l)<=mP l
 |[],_=>q8 _
 |d::r,h=>by rw[eQ,and_eq_true]at h;let h1:=Vc d h.1;let h2:=Hq r h.2;simp only[cW,PyData.weightAll,mP];lia
end
def bH.view{K:W.Frag}(h:bH K F H v d)(i:zy F H):aP K H v d:=by
 rcases h with h|⟨a,xs,G,rfl,rfl,e,r⟩|⟨a,B,ks,vs,rfl,rfl,e,k,r⟩|⟨a,B,ks,vs,rfl,rfl,e,k,r⟩
 .show h.mono i
 .show .lst (bJ.of e) (r.mono i)
 .show .dK (.of e) k (r.mono i)
 .show .dT (.of e) k (r.mono i)
section
variable{K:W.Frag}
def KU(a:Array Nat):∀(n:Nat)(b:Array Nat),((List.replicate n a).foldl (·++·) b).toList=b.toList++(List.replicate n a.toList).flatten
 |0,b=>by simp
 |n+1,b=>by rw[replicate_succ,List.foldl_cons,KU a n,replicate_succ,flatten_cons,toList_append,qo]
def MZ(i:0<=n):(Txt.mul x n).cps.toList=(List.replicate n.toNat x.cps.toList).flatten:=by
 unfold Txt.mul;by_cases h1:n<1
 .rw[show n=0 by lia];rfl
 .rw[q5 h1];by_cases h2:(n==1||x.length==0)=true
  .rw[qZ h2];rw[or_eq_true,beq_iff_eq,beq_iff_eq]at h2;rcases h2 with h2|h2
   .subst h2;simp
   .let:x.cps.toList=[]:=by let e:x.cps.size=0:=h2;rw[<-List.length_eq_zero_iff];exact e
    rw[this];simp
  .rw[q5 h2];rw[KU];simp
def sR:R2:=λx y H Q=>∃z n,x=.str z/\y=.int n/\0<=n/\n<=1000/\z.length<=500/\Q (.str (Txt.mul z n)) H
def NZ:OpR X (binaryOp .Mult) sR:=by
 intro zS s σ H x y v u Q I B i h;let#[z,n,rfl,rfl,O,h1,F,q]:=h;let#[t,rfl]:=B;let#[J,rfl]:=i;show SB.mul #[?_,λh _=>?_,λh _=>?_] λG k=>#[.str _,H,I.kept λ_ _ z=>z,#[_,rfl],q]
 .grind
 .let M:(9223372036854775807:Int)/1000<=(2^63-1)/n:=by rw[Int.le_ediv_iff_mul_le ∅];grind
  grind
 .let L:z.length*n.toNat<=500*1000:=Nat.mul_le_mul F ∅;simp only[Builtin.Str.tooLong,zk];lia
def SQ:gW K (λx y H Q=>(rI oW λi j=>.int (i*j)) x y H Q\/sR x y H Q) cN:=by
 intro σ ρ F G H x y p q s Q B J I e L;unfold cN at e;split at e
 .rename_i l n;split at e
  .rename_i Z;cases e;let#[M,h1,Y]:=Z;let#[z,rfl,O,_]:=J.str;let ey:y=.int n:=by
    rcases I with I|⟨_,_,_,_,e,_⟩|⟨_,_,_,_,_,e,_⟩|⟨_,_,_,_,_,e,_⟩
    .cases I;rfl
    .cases e
    .cases e
    .cases e
   subst ey;let U:z.length=l.length:=by rw[<-O];rfl
   show .inr #[z,n,rfl,rfl,M,h1,∅,?_];show L _ F H (zy.refl F) (B.push (.str ?_ ?_))
   .rw[MZ M,O]
   .let h4:n.toNat*l.length<=1000*500:=Nat.mul_le_mul ∅ Y;let e5:∀m,((List.replicate m l).flatten).length=m*l.length:=λm=>by simp
    rw[e5];lia
  .cases e
 .show .inl (Qp σ ρ F G H x y _ _ s Q B J I e L)
def BX(B:FE X a wa)(i:FE X b wb):FE X (.BinOp a .Mult b pos) (zJ cN wa wb):=CC (λ_ _=>OpR.or My NZ) SQ B i
end
end FL
namespace FL
def gp(s0:S)(n k:Nat)(F:WI)(g:WG)(c:WT)(b:WB):WE:=λρ Q E=>F ρ (λl B=>aU g c b l (B++⇑s0::List.replicate k none) (λi=>zx (slot i n) λs=>Q (.v s) (i.take n)) NX) E
def mH(n:Nat)(a e:WE):WB:=λρ Q E=>a ρ (λx B=>e B (λy i=>zx (view x i) λq=>zx (give y i) λp=>match slot p.2 n with
 |some (.dct t ks l)=>bP t q=true/\ks.Nodup/\ks.length<big/\Q (p.2.set n ⇑(bW t ks l q p.1))
 |_=>False) E) E
end FL
namespace FL
open PySem PySem.Spec PyProof.Rows L2
def SS(hu:A.units<cLine)(I:Inv X zS σ H s)(g:oU H a y v H')(Y:zH y u)(Z:zH v r)(h:∀s',Inv X zS σ H' s'->Q () s'):
  wpAny (model X.prog X.w) A (dictSet a u r) Q E s:=by
 rcases g with⟨F,k,e,M,l,O⟩|⟨F,k,b,e,M,eb,l,O⟩
 .subst M O;let#[z,L,vs,i,U]:=FB I.hok e;show wpAny_dictSet_pairs (hsz:=by rw[<-i.length];show z) (Cy Y) U λh' B J=>h _ ?_;show DA I (by rw[e];show True.intro) J (let⟨q,_,_,G,_⟩:=B;#[q,G]) (FD (by let:=DZ F k v;lia) L (i.put k Z) B)
 .subst M O;cases(show u=Value.ref b from Y);let#[z,L,xs,i,U]:=HX I.hok e;show wpAny_dictSet_heap (hsz:=by rw[<-Paired.length i];show z) hu (CW I.hok eb) U λh' B J=>h _ ?_;let#[q,es,ep,G,h2,h3,h4,_,h5]:=B;show DA I (by rw[e];show True.intro) J ⟨q,G⟩ ⟨by let:=DZ F k v;lia,L,_,(i.put k eb Z).keeps λc ys ec=>?_,q,es,ep,G,h2,h3,h4,h5⟩;rw[Aj (Ib ec e (λz=>nomatch z))];show ec
section
variable{X:Cx}{D:Addr}
def Qx(U:X.xe=λ_ _=>False)(hu:X.A.units<cLine)(hk:FE X ek wk)(he:FE X ev we):
  mB X (eval ek X.env>>=λZ=>holding [Z] (eval ev X.env)>>=λvv=>standAt p>>=λ_=>holding [Z,vv] (dictSet D Z vv)) (yK X n D (mH n wk we)):=by
 intro zS s σ H Q I q;let#[F,G,ρ,P,h5,h6,hw,h7]:=q;let hp:PassesOwn (model X.prog X.w) X.A X.env X.xe:=by rw[U];show PassesOwn.never
 let M:∀e s',X.xe e s'->False:=λe s' z=>by rw[U]at z;show z
 have h2:=Cp (X:=X) (wa:=wk) (wb:=we) (σ:=σ) (H:=H) (Q:=λ_ H'=>Q σ H') (k:=λx y L Q' _=>zx (view x L) λq=>zx (give y L) λp=>match slot p.2 n with
  |some (.dct t ks l)=>bP t q=true/\ks.Nodup/\ks.length<big/\Q' (.v (.sh .non)) (p.2.set n ⇑(bW t ks l q p.1))
  |_=>False) #[F,G,ρ,λ_ ρ'=>P ρ',NX,h5,hw,λr ρ' v F' H' h1 sm r' _=>h7 ρ' σ F' H' h1 KP.refl sm (r'.drop (Af r')),Hv]
 show qa (zp (hk X.pn X.xe hp zS s σ H _ I h2) (λZ s1 zq=>?_) λe s' z=>M e s' z);let#[v,H1,I1,rv,q1]:=zq;show qa (zn (zp (he X.pn X.xe hp zS s1 σ H1 _ I1 q1) (λvv s2 zq=>?_) λe s' z=>M e s' z));let#[u,H2,I2,ru,q2]:=zq;show qa (wpAny_standAt (zn ?_));let#[F3,G3,h4,rx,ry,P3,h8,B,J,vx,vy,i,Y,_]:=q2;let#[q,eq,i]:=Ag i;let rq:=look B J vx eq;let r5:Rel X.K (h4++[zz ry]) (σ++[⇑u]) F3 G3 H2:=B.mid J;let#[#[t,h3],eg,i]:=Ag i;let#[F4,s4,l4,r6]:=As (ρ':=[]) (σ':=[]) r5 J vy eg;cases O:slot h3 n with
 |none=>simp[O]at i
 |some sj=>
  rw[O]at i;match sj,O,i with
  |.dct tt kk l,O,⟨hkey,hnd,hbig,hnx⟩=>
   let#[H',dp,r7]:=Rel.dput r6 O h6 rq hkey hnd hbig;show SS hu I2 dp rv ru λs' I'=>#[σ,H',I',?_]
   show Y (.v (.sh .non)) _ .non F4 H' hnx s4 (r7.push .non) trivial
def Ph{t:Bool}(H:Hp)(h:Heap)(i:sysModules<h.objs.size):zR X.prog X.w H (h.push {cls:=.type "dict",dict:=none,data:=.dict #[]}) h.objs.size (if t then .dT []else .dK []):=by
 cases t
 .show JJ h i
 .show QB h i
def OL(F H:Hp)(p:Addr)(e:H p=⇑(if t then .dT []else .dK [])):aN X.K F H (.ref p) (.dct t [] []) [p]:=by
 cases t
 .show .dK e rfl .nil
 .show .dT e rfl .nil
end
def Sm(t:Bool)(U:i∉ks)(hN:∀j,X.N[j]?=⇑y->j=i)(Y:X.N[i]?=⇑y)(hy:X.env.scope.names.lookup y=⇑.local)
  (M:swapsWith (.DictComp ek ev [#[tg,iter,J,0]] scope pos) ⇑(.Name y py) spos.line X.env=pure true)
  (hn:X.N.length=n)(hu:X.A.units<cLine)(hc:X.calm=true)(Sc:cC X.env.scope scope X.N vars)(hk:vars.length=k)(hi:FI X tg iter wi)
  (hg:∀s H ex,FG (aL X scope vars s H ex) (List.range (n+1)) tg g)(ht:∀s H ex,jM (aL X scope vars s H ex) J (mE (aL X scope vars s H ex) wc))(O:∀s H ex,FE (aL X scope vars s H ex) ek Z)(he:∀s H ex,FE (aL X scope vars s H ex) ev we)
  (hs:∀x,foldedSetIterable iter X.env x=pure x:=by intro _;rfl):FS X ks (.Assign [.Name y py] (.DictComp ek ev [#[tg,iter,J,0]] scope pos) spos) (zM (zw i) (gp (.dct t [] []) n k wi g wc (mH n Z we))):=by
 subst hn;intro pn xe hp zS s σ H D I q;rw[exec_Assign_Name_used _ _ _ _ M];show qa (wpAny_standAt (qa ?_));let#[F,G,ρ,E,L,hw,n,b,c,r,x]:=q;refine qa (zp (Gr (λA E s Q h=>Gq A E s Q h) (s0:=.dct t [] []) (P:=λr B=>zx (give r B) λp=>zw i p.1 p.2 E.nx) (PX:=E.ex) (g:=g) (wc:=wc) (b:=mH X.N.length Z we) (Q':=λ_ s'=>SP (wp X pn xe) zS D .next s') (Ph (t:=t)) OL rfl hs Sc hk hi (λs H ex D=>?_) (λ_ _ _=>rfl) (λ_ _ _=>rfl) (λ_ _ _=>rfl) (λ_ _ _=>#[_,rfl]) hp I L hw (x.mono (λh1 z=>by rw[z];show KP.refl) (zy.refl F) (zy.refl G))
  (IU (P:=λr B=>zx (give r B) λp=>zw i p.1 p.2 E.nx) (Nx:=E.nx) U hN Y hy (λs ρ h=>h) n)) (λ_ s' hq=>qb (qb hq)) λ_ _ e=>e)
 show Hn (X:=aL X scope vars s H ex) hc rfl (hg s H ex [] (λ_ _=>False) PassesOwn.never) (ht s H ex) (λ_=>(Qx (X:=aL X scope vars s H ex) rfl hu (O s H ex) (he s H ex)).f) (λ_=>rfl) (λ_=>rfl) (λ_=>rfl) (λ_=>rfl)
def Np(i:bM k A):A.units<cLine:=Nat.lt_of_succ_lt (CV i)
end FL
namespace FL
def gL(p q:D):Option S:=match p,q with
 |.tup x,.int n=>if 1<n/\n<=1000/\0<x.length/\x.length<=500 then ⇑(.sh (.tup (List.replicate n.toNat x).flatten))else none
 |.lst x,.int n=>if 0<=n/\n<=1000/\x.length<=500 then ⇑(.lst ((List.replicate n.toNat x).flatten.map .sh))else none
 |_,_=>none
end FL
namespace FL
open PySem PySem.Spec PyProof.Rows L2
def UE(a:Int)(t:Tok)(l:Addr)(items:Array Value)(n:Nat):
  Meets (Builtin.«int.__rmul__» #[[.int a t,.ref l],[]]) (λ_ R s=>s.heap.get? l=some {cls:=.type "tuple",dict:=dd,data:=.seq items n,slots:=i}/\R (.ok (.ret Value.notImplemented)) s):=
 .of_wp λprog w A R s h=>by let#[B,g,d,tk,os]:=s;let#[F,h]:=h;wp_walk;show#[_,rfl,h]
def UZ(l:Addr)(items:Array Value)(n:Nat)(x:Int)(u:Tok)(J:¬(↥(x< -(2^63))||↥(x≥2^63))=true)(h1:¬(items.isEmpty||x==1)=true)(h2:¬(↥(x<=0)||items.isEmpty)=true)(I:¬(items.size*x>(2^63-1)/8))(G:¬Builtin.Tuple.tupleTooMany (items.size*x)=true):
  Meets (Builtin.«tuple.__mul__» #[[.ref l,.int x u],[]]) (λ_ R s=>s.heap.get? l=some {cls:=.type "tuple",dict:=dd,data:=.seq items n,slots:=L}/\R (.ok (.ret (Value.ref s.heap.objs.size))) {s with heap:=s.heap.push {cls:=Value.type "tuple",data:=Data.seq (List.foldl (λB i=>B++i) #[] (List.replicate x.toNat items))},toks:=s.toks}):=
 .of_wp λprog w A R s h=>by
  obtain⟨M,g,d,tk,os⟩:=s;let#[O,h]:=h;let F:(List.foldl (λB i=>B++i) #[] (List.replicate x.toNat items)).size<=sizeLine:=by
   rw[AutoListH.size_joined];let U:¬((items.size:Int)*x>(sizeLine:Int)):=by simpa[Builtin.Tuple.tupleTooMany] using G
   simp;lia
  wp_walk;rw[q5 J];wp_walk;rw[q5 I];wp_walk;show#[_,rfl,h]
def Vs(a:Int)(t:Tok)(l:Addr)(items:Array Value)(n:Nat):
  Meets (Builtin.«int.__rmul__» #[[.int a t,.ref l],[]]) (λ_ R s=>s.heap.get? l=some {cls:=.type "list",dict:=dd,data:=.seq items n,slots:=i}/\R (.ok (.ret Value.notImplemented)) s):=
 .of_wp λprog w A R s h=>by let#[B,g,d,tk,os]:=s;let#[F,h]:=h;wp_walk;show#[_,rfl,h]
def UU(l:Addr)(items:Array Value)(n:Nat)(x:Int)(u:Tok)(J:¬(!Builtin.List.listFitsIndex x)=true)(I:¬items.size*x.toNat>(2^63-1)/8)(B:¬Builtin.List.listTooLong (items.size*x.toNat)=true):
  Meets (Builtin.«list.__mul__» #[[.ref l,.int x u],[]]) (λ_ R s=>s.heap.get? l=some {cls:=.type "list",dict:=dd,data:=.seq items n,slots:=L}/\R (.ok (.ret (Value.ref s.heap.objs.size))) {s with heap:=s.heap.push {cls:=Value.type "list",data:=Data.seq (List.foldl (λG F=>G++F) #[] (List.replicate (if items.isEmpty=true then 0 else x.toNat) items))},toks:=s.toks}):=
 .of_wp λprog w A R s h=>by
  let#[M,g,d,tk,os]:=s;let#[O,h]:=h;let i:=AutoListH.joined_fits B
  wp_walk;show wpAny_ite_false (qR (not_lt.mpr i)) ?_;wp_walk;show#[_,rfl,h]
def VH:fillsNumberSlot (.type "tuple") "mul"=pure false:=
 PySem.fillsNumberSlot_seq (id:="tuple.__mul__") (r:=⇑(.builtin "tuple.__rmul__")) PySem.F.slot_tuple_mul.lookup (by decide+kernel) PySem.F.slot_tuple_rmul.lookup (by decide+kernel)
def Vu:seqRepeat? (.type "tuple")=pure ⇑(.builtin "tuple.__mul__"):=by first|rfl|assumption|(simp_all;done)
section
variable{K:W.Frag}
def sP(K:W.Frag):R2:=λx y H Q=>∃l k xs,x=.ref l/\y=.int k/\bD K H l xs/\1<k/\k<=1000/\0<xs.length/\xs.length<=500/\∀p,H p=none->Q (.ref p) (upd H p (.tup (List.replicate k.toNat xs).flatten))
def Ob:OpR X (binaryOp .Mult) (sP X.K):=by
 intro zS s σ H x y v u Q I M L h;let#[l,k,xs,rfl,rfl,hH,h1,h2,h3,h4,q]:=h;cases M;let#[t,rfl]:=L;let#[i,r,O,_]:=I.tuple hH;let#[#[cls,dd,data,sl],e,hc,n,hd]:=id O;subst hc hd;let B:i.length=xs.length:=(Paired.length r).symm;let hm:(xs.length:Int)*k<=500*1000:=Int.mul_le_mul ∅ h2 ∅ ∅;let F:i.toArray.isEmpty=false:=by
  cases i with
  |nil=>simp at B;lia
  |cons _ _=>rfl
 let Z:List.foldl (λJ G=>J++G) #[] (List.replicate k.toNat i.toArray)=(List.replicate k.toNat i).flatten.toArray:=by let:=GG i k.toNat [];show this
 refine wpAny_binaryOp_repeat_ref (T:="tuple") (U:="int") ⋯ #[_,e,rfl] (λs'=>typeIs_int s' k t) VH PySem.F.fills_int_mul PySem.F.slot_int_rmul Vu PySem.F.slot_int_index.lookup
  (call_meets PySem.F.slot_int_rmul (typeIs_int s k t) PySem.F.entry_int_rmul (PySem.F.args_int_rmul_2 _ _) (UE k t l i.toArray n)
   #[e,rfl,#[_,e,rfl],call_meets PySem.F.slot_tuple_mul #[_,e,rfl] PySem.F.entry_tuple_mul (PySem.F.args_tuple_mul_2 _ _) (UZ l i.toArray n k t ?_ ?_ ?_ ?_ ?_) #[e,?_]])
 .rw[or_eq_true,qS];lia
 .rw[F,Bool.false_or];lia
 .rw[F,Bool.or_false];lia
 .rw[qq];lia
 .simp only[Builtin.Tuple.tupleTooMany,qq,B,zk];lia
 .rw[Z];show#[.ref _,_,I.laid (t':=s.toks) (a:=s.heap.objs.size) (o:=.tup (List.replicate k.toNat xs).flatten) (λ_ _ q=>qc _ q) (q8 _) ?_,rfl,q _ I.fresh];let Y:(List.replicate k.toNat xs).flatten.length<=sizeLine:=by rw[Js,zk];lia
  show#[#[Y,iS.new rfl (qd _ rfl)],_,r.rep k.toNat,_,qd _ rfl,rfl,0,rfl]
def sQ(K:W.Frag):R2:=λx y H Q=>∃l k xs,x=.ref l/\y=.int k/\bJ K H l xs/\0<=k/\k<=1000/\xs.length<=500/\∀p,H p=none->Q (.ref p) (upd H p (.lst (List.replicate k.toNat xs).flatten))
def On:OpR X (binaryOp .Mult) (sQ X.K):=by
 intro zS s σ H x y v u Q I O M h;let#[l,k,xs,rfl,rfl,hH,h1,h2,h4,q]:=h;cases O;let#[t,rfl]:=M;let#[i,r,#[#[cls,dd,data,sl],n,e,hc,L,Z],_]:=I.list hH;subst hc L Z;let Y:i.length=xs.length:=(Paired.length r).symm;let hm:i.length*k.toNat<=500*1000:=Nat.mul_le_mul ∅ ∅;let F:i.toArray.size*k.toNat<=sizeLine:=by rw[qq,zk];lia
 have B:List.foldl (λJ G=>J++G) #[] (List.replicate (if i.toArray.isEmpty=true then 0 else k.toNat) i.toArray)=(List.replicate k.toNat i).flatten.toArray:=by
  let f0:∀m:Nat,List.foldl (λJ G=>J++G) #[] (List.replicate m i.toArray)=(List.replicate m i).flatten.toArray:=λm=>by let:=GG i m [];show this
  rw[f0];cases i with
  |nil=>simp
  |cons a r'=>rw[q5 (by simp)]
 refine wpAny_binaryOp_repeat_ref (T:="list") (U:="int") ⋯ #[_,e,rfl] (λs'=>typeIs_int s' k t) noFill_list_mul PySem.F.fills_int_mul PySem.F.slot_int_rmul repeat_list PySem.F.slot_int_index.lookup
  (call_meets PySem.F.slot_int_rmul (typeIs_int s k t) PySem.F.entry_int_rmul (PySem.F.args_int_rmul_2 _ _) (Vs k t l i.toArray n)
   #[e,rfl,#[_,e,rfl],call_meets PySem.F.slot_list_mul #[_,e,rfl] PySem.F.entry_list_mul (PySem.F.args_list_mul_2 _ _) (UU l i.toArray n k t ?_ ?_ ?_) #[e,?_]])
 .rw[fitsIndex_both ∅ ∅];show qW
 .grind
 .rw[BG F];show qW
 .rw[B];show#[.ref _,_,I.lnew (t':=s.toks) (r.rep k.toNat) (by rw[Js,zk,<-Y];lia),rfl,q _ I.fresh]
def zQ.rep(r:zQ K F xs ds):∀n:Nat,zQ K F (List.replicate n xs).flatten (List.replicate n ds).flatten
 |0=>.nil
 |n+1=>by show r.append (zQ.rep r n)
def SO:gW K (λx y H Q=>sP K x y H Q\/sQ K x y H Q) gL:=by
 intro σ ρ F G H x y p q s Q i U J e Z;let B:∀{n:Int},bH K F H y (.int n)->y=.int n:=λr=>by
  rcases r with J|⟨_,_,_,_,e,_⟩|⟨_,_,_,_,_,e,_⟩|⟨_,_,_,_,_,e,_⟩
  .cases J;rfl
  .cases e
  .cases e
  .cases e
 unfold gL at e;split at e
 .rename_i l n;split at e
  .rename_i M;cases e;let#[O,h1,h2,h3]:=M;obtain rfl:=B J;let#[a,xs,rfl,hF,I]:=U.tup;show .inl #[a,n,xs,rfl,rfl,bD.of (i.fr _ _ hF),O,h1,by rw[I.len];show h2,by rw[I.len];show h3,λp L=>?_];let Y:=(i.free L).1;show Z _ _ _ (zy.upd Y) ((i.newF L).push (.tup AB ((I.rep n.toNat).mono (zy.upd Y))))
  .cases e
 .rename_i l n;split at e
  .rename_i M;cases e;let#[O,h1,h2]:=M;obtain rfl:=B J;let#[a,xs,rfl,hL,I]:=U.lst i.fr;show .inr #[a,n,xs,rfl,rfl,hL,O,h1,by rw[I.len];show h2,λp L=>?_];show Z _ F _ (zy.refl F) (i.newLD L (I.rep n.toNat))
  .cases e
 .cases e
def Ga(B:FE X a wa)(i:FE X b wb):FE X (.BinOp a .Mult b pos) (zJ gL wa wb):=CC (λ_ _=>OpR.or Ob On) SO B i
end
def dO(K:W.Frag)(f:Addr):FuncData:=match K.lookup f with
 |some ⟨_,_,.func d,_⟩=>d
 |_=>default
def FC{K:W.Frag}(l:K.lookup f=⇑#[F,B,.func d,i]):dO K f=d:=by unfold dO;rw[l]
inductive Lk(K:W.Frag)(n:Str)(st:Stmt)(f:Addr):Prop
 |mk {oc kV dc pm cd ct:Value} {od an:Option Addr} {sl:Array (Option Value)} (a:W.nsIn K mainGlobals n=some (some (.ref f))) (l:K.lookup f=some ⟨oc,od,.func (W.fnOf n n (cO st) (bI st) (aB st) .none kV dc pm an cd ct),sl⟩)
  (c:W.codeIn K cd n=true) (k:W.keepIn K (.ref f)=true):Lk K n st f
structure Tx(K:W.Frag)(mg:Str->Option Value)(f:Addr)(n:Str)(st:Stmt)(ps:List Str):Prop where
 F:sM K n n st f (dO K f)
 m:mg n=⇑(.ref f)
 k:W.keepIn K (.ref f)=true
 b:Binds K (dO K f) ps []
def oj(n:Str)(st:Stmt)(ps:List Str):Prop:=∀(kV i F:Value)(G:Option Addr)(B ct:Value)(us:List Value),us.length=ps.length->bindArgs (W.fnOf n n (cO st) (bI st) (aB st) .none kV i F G B ct) #[us,[]]=pure (ps.zip us)
section
variable{K:W.Frag}{st:Stmt}
def Lk.mm(t:Lk K n st f)(X:K.In h)(G:h.Ns mainGlobals mg):mg n=⇑(.ref f):=by let#[a,l,c,k]:=t;show W.mg_of X G a
def Lk.tx(t:Lk K n st f)(X:K.In h)(G:h.Ns mainGlobals mg)(b:oj n st ps:=by intro _ _ _ _ _ _ us i;first|(let#[_,rfl]:=Bx (l:=us) i;rfl)|(let#[_,_,rfl]:=Bw (l:=us) i;rfl)|(let#[_,_,_,rfl]:=Co (l:=us) i;rfl)|(let#[_,_,_,_,rfl]:=Ec (l:=us) i;rfl)|(let#[_,_,_,_,_,rfl]:=vlen5 (l:=us) i;rfl)|(let#[_,_,_,_,_,_,rfl]:=vlen6 (l:=us) i;rfl)):Tx K mg f n st ps:=by
 let#[a,l,c,k]:=t;let e:=FC l;let F:=IA l c k;show#[?_,W.mg_of X G a,k,?_]
 .rw[e];show F
 .rw[e];show F.binds b
def Lk.bt(t:Lk K n st f)(s:Shared)(v:Value)(b:oj n st [x]:=by intro _ _ _ _ _ _ us i;let#[_,rfl]:=Bx (l:=us) i;rfl):BindsTo s (dO K f) #[[v],[]] [(x,v)]:=by let#[a,l,c,k]:=t;let e:=FC l;rw[e];show .of_eq (b _ _ _ _ _ _ [v] rfl)
end
def AL{N P:List Str}{i:Scope}(a:autoParam (i.kind=.function) rZ9)(b:autoParam (i.isCoroutine=false) rZ9)(c:autoParam (i.isGenerator=false) rZ9)(d:N.Nodup:=by decide+kernel)(e:autoParam (N.take P.length=P) rZ9)(f:∀x∈P,i.names.lookup x=⇑.local\/i.names.lookup x=⇑.cell:=by decide+kernel)(g:∀y∈i.names,y.2≠.free:=by decide+kernel):aD N P i:=#[a,b,c,d,e,f,g]
abbrev gV(P:Program)(w:World)(K:W.Frag)(mg:Str->Option Value)(base:Heap)(af:Nat->Addr)(k i:Nat)(ps:List Str)(sp:Sp):Prop:=dA P w K mg base (fE P w) k (af i) (dO K (af i)) ps sp
def AQ{K:W.Frag}{st:Stmt}(t:Tx K mg f x st ps)(Sc:aD N ps (aB st))
  (G:∀(B:Value)(A:Around)(i:List PySem.Env)(s:Shared)(H:Hp)(E:XK),bM k (A.deeper (envOfC x (aB st) s.heap.objs.size f B))->mC (eV (fE P w) P w K mg base N x (aB st) f B A i s H E) ks (bI st) wb)(hn:autoParam (ps.length=n) rZ9)(F:autoParam (N.length=m) rZ9):
  dA P w K mg base (fE P w) (k+1) f (dO K f) ps (dQ K (fW n m ks wb) n):=Eu t.F Sc hn F G
section
theorem fw(i:Nat)(I:autoParam (X.N[i]?=⇑x) rZ9)(F:xT X.env.scope x:=by first|show Or.inl rfl|show Or.inr (Or.inl rfl)|show Or.inr (Or.inr rfl))(G:autoParam ((x==("__debug__":Str))=false) dZ9)
  (B:autoParam ((x==("__classdict__":Str))=false) dZ9):FE X (.Name x pos) (zt i):=OI I F G B
def Ai(i:Nat)(B:X.N.Nodup)(G:autoParam (i∉ks) dZ9)(hi:autoParam (X.N[i]?=⇑x) rZ9)(F:Loc X.env.scope x:=by first|show Or.inl rfl|show Or.inr rfl)(J:X.fn x=true\/X.env.scope.names.lookup x=some .local:=by show Or.inl rfl):FG X ks (.Name x pos) (FL.zw i):=Jd G (λj I=>CG B I hi) hi F J
def Bc(i:Nat)(G:autoParam (i∉ks) dZ9)(F:(X.N.zipIdx.all λp=>!(p.1==x)||p.2==i)=true:=by kernel_rfl)(hi:autoParam (X.N[i]?=⇑x) rZ9)(B:Loc X.env.scope x:=by first|show Or.inl rfl|show Or.inr rfl)(I:X.fn x=true\/X.env.scope.names.lookup x=some .local:=by first|show Or.inr rfl|show Or.inl rfl):FG X ks (.Name x pos) (FL.zw i):=Jd G (uq F) hi B I
variable{st:Stmt}
def Am(ms:List Bool)(t:Tx X.K X.mg f x st ps)(M:dA X.prog X.w X.K X.mg X.base (fE X.prog X.w) k f (dO X.K f) ps (dQ X.K F n))(G:bM j X.A)(L:FA X (e::es) wa)(hj:autoParam (k<=j) dZ9)(I:autoParam (Gl X x) rZ9)(zV:∀ss P PX,F ss P PX->ss.length=n:=by show λ_ _ _ h=>h.1)
  (B:autoParam ((x==("__debug__":Str))=false) dZ9)(J:autoParam (starEach (e::es) X.env=(false,eval e X.env)::starEach es X.env) rZ9)(i:autoParam ((backTo pos (starEach es X.env)).any (·.1)=false) rZ9):
  FE X (.Call (.Name x p) (e::es) [] pos) (zL F ms wa):=Pi M (G.mono hj) I t.m t.k t.b L zV B J i
end
inductive Ci(K:W.Frag)(C Wb f:Addr)(q n:Str)(st:Stmt):Prop
 |mk {dd od an:Option Addr} {nm qn:Str} {bs sub:List Value} {ns:Addr} {sn:List Str} {ab:Bool} {col:Option Bool} {k0 k1 k2 k3 k5:Option Value} {oc kV dc pm cd ct:Value} {sl:Array (Option Value)}
  (a:K.lookup C=⇑(excClassObj nm qn C ns bs (.ref Wb::eX) true sn sub ab col dd k0 k1 k2 k3 k5 fX))
  (i:W.findIn K (.ref C) "__init__"=⇑⇑(.ref f))
  (l:K.lookup f=⇑#[oc,od,.func (W.fnOf "__init__" q (cO st) (bI st) (aB st) .none kV dc pm an cd ct),sl])
  (c:W.codeIn K cd q=true) (k:W.keepIn K (.ref f)=true) (t:W.typeIn K (.ref f)=⇑(.type "function"))
  (s:W.findIn K (.ref C) "__setattr__"=⇑⇑(.builtin "object.__setattr__")) (z:W.findIn K (.ref C) n=⇑none):Ci K C Wb f q n st
structure Ix(K:W.Frag)(C Wb f:Addr)(q n:Str)(st:Stmt)(ps:List Str):Prop where
 e:oS K C Wb f n
 F:sM K "__init__" q st f (dO K f)
 b:Binds K (dO K f) ps []
def Ci.ix{K:W.Frag}{C I f:Addr}{q n:Str}{st:Stmt}{ps:List Str}(t:Ci K C I f q n st)(w:W.excIn K I eX fX=true)
  (b:∀(kV B J:Value)(M:Option Addr)(G ct:Value)(us:List Value),us.length=ps.length->bindArgs (W.fnOf "__init__" q (cO st) (bI st) (aB st) .none kV B J M G ct) #[us,[]]=pure (ps.zip us):=by intro _ _ _ _ _ _ us L;(let#[_,_,rfl]:=Bw (l:=us) L;rfl)):Ix K C I f q n st ps:=by
 let#[a,i,l,c,k,t,s,z]:=t;let e:=FC l;let F:=IA l c k;show#[#[#[_,_,_,_,_,_,_,_,_,_,_,_,_,_,a],w,i,t,s,z],?_,?_]
 .rw[e];show F
 .rw[e];show F.binds b
end FL
namespace FL
def dt(f:List D->List D->Option S)(o:WE)(a:WA):WE:=λρ Q E=>o ρ (λx B=>match x with
 |.v (.sh (.lst l))=>a B (λF i=>zx (F.mapM λr=>zO r i) λG=>zx (f l G) λs=>Q (.v s) i) E
 |_=>False) E
def oH:D->Bool
 |.non=>true
 |.bl _=>true
 |.int _=>true
 |.str _=>true
 |_=>false
open Classical in
def oG(l:List D)(x:D):Option Nat:=if l.all (λd=>oH d&& !aT d x)then l.findIdx? (λd=>↥(d=x))else none
def dB(l:List D):List D->Option S
 |[x]=>(oG l x).map λ(i:Nat)=>.sh (.int (i:Int))
 |_=>none
def iO:List D->Option S
 |[.tup l]=>if l.length<64/\(bZ l).isSome then ⇑(.lst ((cE l).map .sh))else none
 |_=>none
def pC(step:WF->WF):Nat->WF
 |0=>λ_ _ _=>False
 |n+1=>step (pC step n)
end FL
namespace FL
open PySem PySem.Spec PyProof.Rows L2
def UP(G:s.heap.IsTuple l vs.toArray)
  (h:Q vs {s with heap:=(s.heap.push (seqObj "list" #[] 0)).update s.heap.objs.size (Obj.mapSeq (·++vs.toArray))})(hsz:vs.length<=sizeLine):
  wpAny (model prog w) A (collect (.ref l)) Q E s:=by
 let#[o,F,J,n,I]:=id G;show qa (wpAny_runValue (codeAny_builtin entry_proto_collect' ?_));show qa (wpAny_newList (qb #[Code.quiet_builtin _ (by decide+kernel),codeAny_builtin entry_list_iadd' ?_]));show wpAny _ _ (Builtin.List.listExtendWith (.ref s.heap.objs.size) (.ref l) (.ref s.heap.objs.size)) _ _ {s with heap:=s.heap.push (seqObj "list" #[] 0)};let i:(s.heap.push (seqObj "list" #[] 0)).get? l=⇑o:=qc _ F;show qa (wpAny_typeOf (T:="tuple") #[o,i,J] ?_);let B:(Value.type "tuple"==Value.type "tuple")=true:=by rfl
 rw[qZ (by rw[B];simp)];show qa (listItems_at i I ?_);show qa (listItems_at (xs:=#[]) (n:=0) (qd _ rfl) rfl ?_);show qa (listUpdate_at (xs:=#[]) (n:=0) (qd _ rfl) rfl ?_ (zero_le _) (by show(#[]++vs.toArray).size<=sizeLine+1;simp;lia));show qb ?_;show qa (wpAny_load (get?_update_seq (qd _ rfl) _) ?_);show wpAny _ _ (pure ((#[]:Array Value)++vs.toArray).toList) Q E _;rw[show((#[]:Array Value)++vs.toArray).toList=vs by simp];show qb h
def Uk(L:s.heap.IsTuple l vs.toArray)(M:IntsAre vs ns)(J:vs.length<64)
  (h:∀(B:Array Value)(i:List Int),IntsAre B.toList i->i.Perm ns->i.Pairwise (·<=·)->Q (.ref (s.heap.objs.size+1)) {s with heap:=sortedAll s.heap vs B}):
  wpAny (model prog w) A (call (.builtin "sorted") [.ref l]) Q E s:=by
 let I:vs.length<=sizeLine:=by rw[zk];lia
 show Calls.call_function_entry kind_sorted plain_sorted entry_sorted (args_sorted1 _) (?_:wpAny _ _ _ _ _ _);show qa (m:=checkCount "sorted" 1 1 _) (qb (qa (UP L ?_ I)));show qa (wpAny_newList ?_);let F:((s.heap.push (seqObj "list" #[] 0)).update s.heap.objs.size (Obj.mapSeq (·++vs.toArray))).objs.size=s.heap.objs.size+1:=by rw[Heap.size_update,size_push']
 let G:(((s.heap.push (seqObj "list" #[] 0)).update s.heap.objs.size (Obj.mapSeq (·++vs.toArray))).push (seqObj "list" vs.toArray 0)).get? (s.heap.objs.size+1)=⇑(seqObj "list" vs.toArray 0):=by rw[<-F];show qd _ rfl
 rw[F];show qa (zn (zj slot_list_sort #[_,G,rfl] entry_list_sort (list_sort_tree G M J λB i a1 a2 O=>#[_,rfl,?_]) (args_list_sort _)));show qb #[_,rfl,h B i a1 a2 O]
section
variable{K:W.Frag}
def nI(K:W.Frag):List V->Hp->VK->Prop:=λxs H Q=>∃a,∃ns:List Int,xs=[.ref a]/\ns.length<64/\bD K H a (ns.map V.int)/\∀i:List Int,i.Perm ns->i.Pairwise (·<=·)->∀q,H q=none->Q (.ref q) (upd H q (.lst (i.map V.int)))
def TM:aW X (.builtin "sorted") (nI X.K):=by
 intro zS s σ H xs us Q I r h;let#[a,U,rfl,J,Z,q]:=h;cases r with
 |cons M L=>
  cases L;cases M;let#[B,r,O,_]:=I.tuple Z;let G:B.length=U.length:=by let:=r.length;rw[qh]at this;show this.symm
  show Uk (show s.heap.IsTuple a B.toArray from O) (DQ r) (by rw[G];show J) λF i a1 a2 a3=>?_;let#[e,he]:=sortedAll_at s.heap B F;let Y:i.length<=sizeLine:=by rw[a2.length_eq,zk];lia
  show#[.ref (s.heap.objs.size+1),_,I.laid (t':=s.toks) (o:=.lst (i.map V.int)) (λb ob w=>sortedAll_old w) (le_succ _) ?_,rfl,q i a2 a3 _ (I.hok.fresh (le_succ _))];show#[by rw[qh];show Y,F.toList,e,Di a1,by rw[toArray_toList];show he]
def TQ:cP K (nI K) iO:=by
 intro σ ρ F G H vs ds s Q i J e L;let#[d,v,rfl,rfl]:=AE (λx y r=>by cases x<;>rfl) rfl J e;cases d with
 |tup l=>
  let e:(if l.length<64/\(bZ l).isSome then ⇑(S.lst ((cE l).map .sh))else none)=⇑s:=e;split at e
  .rename_i hc;cases e;let#[a,xs,rfl,h1,M]:=J.1.tup;let#[I,hi]:=hc;let#[Y,O]:=isSome_iff_exists.mp hi;let#[e1,e2]:=EM M O;subst e1 e2;show#[a,Y,rfl,by rwa[qh]at I,.of (i.fr _ _ h1),λB p U q Z=>?_];rw[Dk EK (m:=B.map D.int) (λd hd=>by let#[z,_,rfl]:=qJ.mp hd;trivial) (p.map _) (pairwise_map.mpr (U.imp λ{a b} h=>by rw[FX];show qQ h))]at L;show L _ F _ (zy.refl F) (i.newLD Z (DO B))
  .cases e
 |_=>cases e
def Qn(G:Gl X "sorted")(F:X.mg "sorted"=none)(B:bootBuiltins "sorted"=⇑(.builtin "sorted"))(J:FA X (e::es) wa)(I:autoParam (starEach (e::es) X.env=(false,eval e X.env)::starEach es X.env) rZ9)(i:autoParam ((backTo pos (starEach es X.env)).any (·.1)=false) rZ9):FE X (.Call (.Name "sorted" p) (e::es) [] pos) (wB iO wa):=
 DV (λpn xe=>TM (X:=wp X pn xe)) TQ G F B J ⋯ ⋯ I i
def rA(K:W.Frag):V->List V->Hp->VK->Prop:=λx vs H Q=>∃a xs ds y d j,x=.ref a/\vs=[y]/\bJ K H a xs/\zQ K H xs ds/\aP K H y d/\oG ds d=⇑j/\Q (.int j) H
def Gg:∀{xs:List V}{l:List D},zQ K F xs l->∀{j:Nat}{v:V},xs[j]?=⇑v->∃d,l[j]?=⇑d/\aP K F v d
 |_,_,.nil,j,v,h=>by simp at h
 |_,_,.cons a b,0,v,h=>by cases h;show#[_,rfl,a]
 |_,_,.cons a b,j+1,v,h=>Gg b (j:=j) h
def Gn:∀{xs:List V}{us:List Value},zP xs us->∀{j:Nat}{u:Value},us[j]?=⇑u->∃v,xs[j]?=⇑v/\zH v u
 |_,_,.nil,j,u,h=>by simp at h
 |_,_,.cons a b,0,u,h=>by cases h;show#[_,rfl,a]
 |_,_,.cons a b,j+1,u,h=>Gn b (j:=j) h
def xP:Value->Option D
 |.none=>⇑.non
 |.bool b=>⇑(.bl b)
 |.int i _=>⇑(.int i)
 |.str x _=>⇑(.str x.cps.toList)
 |_=>none
def Jg(r:aP K H v d)(B:zH v u)(h:oH d=true):xP u=⇑d:=by
 cases r with
 |non=>cases B;rfl
 |bl b=>cases B;rfl
 |int i=>let#[t,rfl]:=B;rfl
 |str e _=>let#[t,rfl]:=B;rw[<-e];rfl
 |_=>cases h
open Classical in
def RO:xY X "list.index" (rA X.K):=by
 intro zS s σ H x vs v us Q I rx rv h;let#[a,xs,ds,y,d,j,rfl,rfl,hq,rd,ry,Y,q]:=h;cases rx;let#[u,rfl,ru]:=rv.one;let#[i,r,pl,hz]:=I.list hq;unfold oG at Y;split at Y
 .rename_i G;rw[qH]at G;let#[#[cls,dd,data,sl],ho,hc,n,hd]:=id pl.isList;simp only at hc hd;subst hc hd;let e1:=r.length;let h9:=rd.len
  --each thing of the list against u
  let M:∀(k:Nat)(F:Value),i[k]?=⇑F->∃B,ds[k]?=⇑B/\xP F=⇑B/\∀{A:Around},PySem.SeqAt.EqAt A s F u ↥(B=d):=λk F hk=>by let#[vk,h1,h2]:=Gn r hk;let#[B,Z,h4]:=Gg rd h1;let:=G B (qL Z);rw[and_eq_true,Bool.not_eq_true']at this;show#[B,Z,Jg h4 h2 this.1,(ER h4 ry h2 ru this.2 (λl e=>by rw[e]at this;cases this.1) (λl e=>by rw[e]at this;cases this.1)).1]
  let#[h8,h7,h6]:=List.findIdx?_eq_some_iff_getElem.mp Y;let O:∀m(U:m<i.toArray.size)(J:m<ds.length),↥(xP i.toArray[m]=⇑d)=↥(ds[m]=d):=λm U J=>by let#[B,h1,h2,_]:=M m i.toArray[m] (by rw[getElem?_eq_getElem ↑U];simp);rw[getElem?_eq_getElem J]at h1;rw[h2,<-qf h1];simp
  let L:j<i.toArray.size:=by rw[qq];lia
  rw[zk]at hz;refine call_meets PySem.F.slot_list_index #[_,ho,rfl] PySem.F.entry_list_index (PySem.F.args_list_index_2 _ _)
   (PySem.SeqAt.list_indexAt a i.toArray n dd sl u (λF=>↥(xP F=⇑d)) j L ∅ ?_ ?_) #[ho,λF hw=>?_,?_]
  .show(O j L h8).trans h7
  .intro m U h5;show(O m U ∅).trans ?_;let:=h6 m h5;simpa using this
  .obtain⟨k,hk,e⟩:=Array.mem_iff_getElem.mp hw;let#[B,h1,h2,Z]:=M k F (by rw[getElem?_eq_getElem ↑hk,<-e];simp);rw[h2];let:↥(⇑B=⇑d)=↥(B=d):=by simp
   rw[this];show Z
  .show#[.int _,H,I.kept λ_ _ z=>z,#[_,rfl],q]
 .cases Y
end
def RU(ho:FE X o wo)(ha:FA X [e] wa)
  (O:autoParam (attributeBase o "index" X.env (eval o X.env)=eval o X.env) rZ9)
  (Y:autoParam (((backTo cpos (starEach [e] X.env)).all (λx=>!x.1)&&(backToKw cpos (keywordEach [] X.env)).all (λx=>x.1.isSome)
   &&↥([e].length+([]:List Keyword).length+(if([]:List Keyword).isEmpty then 0 else 1)<30))=true) rZ9)
  (M:autoParam ((apos.endLine==cpos.line)=true) rZ9)(hs:autoParam (starEach [e] X.env=(false,eval e X.env)::starEach [] X.env) rZ9)(J:autoParam ((backTo cpos (starEach [] X.env)).any (·.1)=false) rZ9):
  FE X (.Call (.Attribute o "index" apos) [e] [] cpos) (dt dB wo wa):=λpn xe hp=>by
 refine PE.imp (Dt (X:=wp X pn xe) PySem.F.plainAttrs_list PySem.F.slot_list_index PySem.F.type_list_index RO (ho pn xe hp) (ha pn xe hp) O Y M hs J) λσ H Q q=>?_;refine(one (k:=λx Z Q E=>match x with
  |.v (.sh (.lst l))=>wa Z (λrs B=>zx (rs.mapM λr=>zO r B) λds=>zx (dB l ds) λs=>Q (.v s) B) E
  |_=>False) q).mono λv H1 h1=>?_
 let#[F,G,ρ,x,P,PX,L,hl,rx,hk,h3,hx]:=h1;split at hk
 .rename_i l;let rp:aP X.K F v (.lst l):=by
   let#[u,fp,e1,q]:=L.at (i:=ρ.length) (s:=.sh (.lst l)) CL;rw[hl,getElem?_append_right (q8 _)]at e1;let e2:v=u:=↑e1
   subst e2;cases q with
   |sh r=>show r
  cases rp with
  |lst hq rd=>
   rename_i a xs;show#[.inl #[rfl,xs,bJ.mono L.fr hq],F,G,ρ,_,PX,L.drop hl,hk,λrs B vs F2 H2 I s2 r2 h4 h2=>?_,hx];let#[ds,ed,I]:=Ag I;let#[s,es,I]:=Ag I;let#[F3,s3,re,U]:=AF (ρ':=[]) (σ':=[]) ↑r2 h4 h2 ed;let#[d,v,rfl,rfl]:=AE (λx y r=>by cases x<;>rfl) rfl re es;let#[i,ei,rfl]:=qX.mp es;let U:Rel X.K B σ F3 G H2:=↑U
   let sm:zy F H2:=(s2.trans s3).trans U.fr;show#[a,xs,l,v,d,i,rfl,rfl,bJ.mono sm hq,rd.mono sm,re.1.view U.fr,ei,h3 _ B _ F3 H2 I (s2.trans s3) (U.push (.int _)) trivial]
 .show hk.elim
section
variable{K:W.Frag}
def Mm(hn:ps.length=n):dA P w K mg base (fE P w) k f fd ps (dQ K (λ_ _ _=>False) n):=
 #[λvs H Q E h=>by let#[F,G,I,J,PX,B,_]:=h;rw[B,hn],λA i s H args L vs Q E _ _ _ _ h=>by let#[F,G,I,J,PX,B,_,h,_]:=h;show h.elim]
def Iv{step:WF->WF}(hn:ps.length=n)
  (h:∀(r:WF)(j:Nat),(∀ss P PX,r ss P PX->ss.length=n)->dA P w K mg base (fE P w) (k+j) f fd ps (dQ K r n)->dA P w K mg base (fE P w) (k+j+1) f fd ps (dQ K (step r) n))
  (i:∀r ss P PX,step r ss P PX->ss.length=n):∀j,dA P w K mg base (fE P w) (k+j) f fd ps (dQ K (pC step j) n)
 |0=>Mm hn
 |j+1=>h _ j (by cases j with|zero=>show λ_ _ _ z=>z.elim|succ j=>show i _) (Iv hn h i j)
end
end FL
namespace TS
open PySem PyProof.Rows
def EY:∀vs:List Value,vs.zip vs=vs.map λv=>(v,v)
 |[]=>rfl
 |v::r=>by show(v,v)::r.zip r=_;rw[EY r];rfl
end TS
namespace FL
mutual
def rE:D->D->Bool
 |.int _,.int _=>true
 |.tup l,.tup m=>fS l m
 |_,_=>false
def fS:List D->List D->Bool
 |a::l,b::m=>rE a b&&fS l m
 |_,_=>true
end
end FL
namespace FL
open PySem PySem.Spec PyProof.Rows L2
open PySem.SeqAt AutoSeq1
def bx:jJ (.int i) (.int j)=if i<j then .lt else if j<i then .gt else .eq:=rfl
mutual
theorem QF:∀(d:D),rE d d=true->jJ d d=.eq
 |.int i,_=>by rw[bx,q5 (Int.lt_irrefl i),q5 (Int.lt_irrefl i)]
 |.tup l,h=>KD l h
 |.non,h|.bl _,h|.str _,h|.lst _,h|.dct ..,h|.set _,h|.exc ..,h=>by cases h
theorem KD:∀(l:List D),fS l l=true->dS l l=.eq
 |[],_=>by rw[dS]
 |d::l,h=>by rw[fS,and_eq_true]at h;rw[dS,QF d h.1];show KD l h.2
end
mutual
theorem MT:∀(d e:D),rE d e=true->jJ d e=.eq->d=e
 |.int i,e,h,c=>by
  cases e with
  |int j=>
   rw[bx]at c;split at c
   .cases c
   .split at c
    .cases c
    .rw[show i=j by lia]
  |_=>cases h
 |.tup l,e,h,c=>by
  cases e with
  |tup m=>rw[IW l m h c]
  |_=>cases h
 |.non,_,h,_|.bl _,_,h,_|.str _,_,h,_|.lst _,_,h,_|.dct ..,_,h,_|.set _,_,h,_|.exc ..,_,h,_=>by cases h
theorem IW:∀(l m:List D),fS l m=true->dS l m=.eq->l=m
 |[],[],_,_=>rfl
 |[],_::_,_,c=>by rw[dS]at c;cases c
 |_::_,[],_,c=>by rw[dS]at c;cases c
 |d::l,e::m,h,c=>by
  rw[fS,and_eq_true]at h;rw[dS]at c;cases q:jJ d e with
  |eq=>rw[q]at c;rw[MT d e h.1 q,IW l m h.2 c]
  |lt=>rw[q]at c;cases c
  |gt=>rw[q]at c;cases c
end
mutual
theorem Ue:∀(d e:D),rE d e=true->aT d e=false
 |.int i,e,h=>by cases e<;>first|rfl|cases h
 |.tup l,e,h=>by
  cases e with
  |tup m=>show LP l m h
  |_=>cases h
 |.non,_,h|.bl _,_,h|.str _,_,h|.lst _,_,h|.dct ..,_,h|.set _,_,h|.exc ..,_,h=>by cases h
theorem LP:∀(l m:List D),fS l m=true->bE l m=false
 |[],[],_=>rfl
 |[],_::_,_=>rfl
 |_::_,[],_=>rfl
 |d::l,e::m,h=>by rw[fS,and_eq_true]at h;show(aT d e||bE l m)=false;rw[Ue d e h.1,LP l m h.2];rfl
end
end FL
namespace FL
open PySem
def aA(c:Nat):List Nat->List (List Nat)
 |[]=>[[]]
 |a::r=>if a=c then[]::aA c r else match aA c r with
  |[]=>[[a]]
  |p::ps=>(a::p)::ps
def fK(l:List Nat):List D->Option S
 |[.str [c]]=>if l.length<=big then ⇑(.lst ((aA c l).map λp=>S.sh (.str p)))else none
 |_=>none
def Gv{c:Nat}:∀{p:List Nat},c∉p->aA c p=[p]
 |[],_=>rfl
 |a::p,h=>by unfold aA;rw[q5 (by simp at h;show λe=>h.1 e.symm),Gv λz=>h (qk _ z)]
def GI{c:Nat}{r:List Nat}:∀{p:List Nat},c∉p->aA c (p++c::r)=p::aA c r
 |[],_=>by show aA c (c::r)=_;rw[aA,qZ rfl]
 |a::p,h=>by rw[qN,aA,q5 (by simp at h;show λe=>h.1 e.symm),GI λz=>h (qk _ z)]
def xO(l:List (List Nat×List Nat)):D->Option D
 |.str q=>if(l.lookup q).all (λv=>↥(v.length<=16777216))then(l.lookup q).map .str else none
 |_=>none
def rb(l:List (List Nat×List Nat))(b:Bool):D->Option Bool
 |.str q=>⇑(b==(l.lookup q).isSome)
 |_=>none
def pE(l:List (List Nat×List Nat))(e:WE):WE:=λρ Q E=>e ρ (λy i=>zx (view y i) λq=>zx (xO l q) λv=>Q (.v (.sh v)) i) E
def iX(l:List (List Nat×List Nat))(b:Bool)(e:WE):WT:=λρ Q E=>e ρ (λy i=>zx (view y i) λq=>zx (rb l b q) λv=>Q v i) E
def dr(m:List D->List D->Option S)(F:WE)(wa:WA):WE:=λρ Q E=>F ρ (λx B=>match zO x B with
 |some (.tup l)=>wa B (λG i=>zx (G.mapM λr=>zO r i) λI=>zx (m l I) λs=>Q (.v s) i) E
 |_=>False) E
end FL
namespace FL
open PySem PySem.Spec PyProof.Rows L2
open Builtin Builtin.Str in
def Sb{prog:Program}{w:World}{A:Around}{E:zr}{s:Shared}{x y:Str}{t u:Tok}{Q:zr}(G:(y.length==0)=false)(hz:x.length+2<=sizeLine)
  (B:∀(l:List (Str×Tok)) tk,l.map (·.1)=Txt.split x y->Q (.ref s.heap.objs.size) {s with heap:=s.heap.push {cls:=.type "list",data:=.seq (strValues l).toArray},toks:=tk}):
  wpAny (model prog w) A (call (.builtin "str.split") [.str x t,.str y u]) Q E s:=by
 cases h1:(↥(x.length<y.length)||↥(strKind x<strKind y))
 .cases i:(occurrences x y 0 x.length (x.length+1)).isEmpty
  .let I:(partsBetween x (occurrences x y 0 x.length (x.length+1)) y.length).length<=sizeLine:=by let:=split_le x y;unfold Txt.split at this;rw[h1,i]at this;simp at this;omega
   show call_meets F.slot_str_split (typeIs_str _ _ _) F.entry_str_split (F.args_str_split_2 _ _) (meets_str_split_sep x y t u h1 G i (by omega) I) ?_;show wants Q E _ {s with toks:=_,heap:=s.heap.push {cls:=.type "list",data:=.seq (strsFrom s.toks (partsBetween x (occurrences x y 0 x.length (x.length+1)) y.length)).toArray}};rw[strsFrom_eq];show B (numbered s.toks _) _ ((numbered_texts _ _).trans ((q5 (ne_true_of_eq_false h1)).trans (q5 (ne_true_of_eq_false i))).symm)
  .exact call_meets F.slot_str_split (typeIs_str _ _ _) F.entry_str_split (F.args_str_split_2 _ _) (meets_str_split_not_found x y t u h1 G i)
    (B [(x,t)] _ ((q5 (ne_true_of_eq_false h1)).trans (qZ i)).symm)
 .exact call_meets F.slot_str_split (typeIs_str _ _ _) F.entry_str_split (F.args_str_split_2 _ _) (meets_str_split_cannot_occur x y t u h1)
   (B [(x,t)] _ (qZ h1).symm)
def LO{c:Nat}:∀{ps:List Str},ps≠[]->(∀p∈ps,c∉p.cps.toList)->aA c (Str.join #[[c].toArray] ps).cps.toList=ps.map λp=>p.cps.toList
 |[],h,_=>absurd rfl h
 |[p],_,h=>Gv (h p (by simp))
 |p::q::r,_,h=>by
  let i:=LO (ps:=q::r) (by simp) λx B=>h x (qk _ B);show aA c (p++#[[c].toArray]++Str.join #[[c].toArray] (q::r)).cps.toList=_;let e:(p++#[[c].toArray]++Str.join #[[c].toArray] (q::r)).cps.toList=p.cps.toList++c::(Str.join #[[c].toArray] (q::r)).cps.toList:=by show(p.cps++ [c].toArray++(Str.join #[[c].toArray] (q::r)).cps).toList=_;simp
  rw[e,GI (h p (by simp)),i];rfl
def Rz(x:Str)(c:Nat):(Txt.split x #[[c].toArray]).map (λp=>p.cps.toList)=aA c x.cps.toList:=by
 let i:Txt.split x #[[c].toArray]≠[]:=λz=>by let:=split_pos x #[[c].toArray];rw[z]at this;show absurd this ⋯
 rw[<-LO i (StrLaws.split_free x c),StrLaws.join_split]
section
variable{K:W.Frag}
def nH:V->List V->Hp->VK->Prop:=λx vs H Q=>∃(z:Str)(c:Nat),x=.str z/\vs=[.str #[[c].toArray]]/\z.length+2<=sizeLine/\∀l,H l=none->Q (.ref l) (upd H l (.lst ((Txt.split z #[[c].toArray]).map V.str)))
def Lq:∀{l:List (Str×Tok)}{ps:List Str},l.map (·.1)=ps->zP (ps.map V.str) (strValues l)
 |[],_,h=>by subst h;show .nil
 |(x,t)::l,_,h=>by subst h;show .cons #[t,rfl] (Lq (l:=l) rfl)
def Rm:xY X "str.split" nH:=by intro zS s σ H x vs v M Q I B F h;let#[z,c,rfl,rfl,J,q]:=h;let#[u,rfl,G]:=F.one;let#[t,rfl]:=B;let#[t',rfl]:=G;show Sb (by rfl) J λl tk L=>?_;let i:=split_le z #[[c].toArray];show#[.ref s.heap.objs.size,_,I.laid (t':=tk) (λb o e=>qc _ e) (q8 _) (show zR X.prog X.w _ (s.heap.push _) _ (.lst ((Txt.split z #[[c].toArray]).map V.str)) from#[by rw[qh];omega,_,0,Lq L,qd _ rfl]),rfl,q _ (I.hok.fresh (q8 _))]
def Li:∀{ps:List Str}{ls:List (List Nat)},ps.map (λp=>p.cps.toList)=ls->(∀p∈ps,p.length<=16777216)->zQ K F (ps.map V.str) (ls.map D.str)
 |[],_,h,_=>by subst h;show .nil
 |p::ps,_,h,hz=>by subst h;show .cons (.str rfl (hz p (by simp))) (Li rfl λx i=>hz x (qk _ i))
def TU:kS K nH fK:=by
 intro σ ρ F G H x vs Y s Q i U J e L;let#[d,v,rfl,rfl]:=AE (λx y r=>by cases x with
  |str l=>cases l with
   |nil=>rfl
   |cons a l=>cases l<;>rfl
  |_=>rfl) rfl J e
 cases d with
 |str m=>
  let#[y,rfl,I,z]:=J.1.str;match m,I,e with
  |[c],I,e=>
   let e:(if x.cps.toList.length<=big then ⇑(S.lst ((aA c x.cps.toList).map λp=>S.sh (.str p)))else none)=⇑s:=e;split at e
   .rename_i O;cases e;let#[#[y]]:=y;obtain rfl:y=[c]:=I;let M:x.cps.toList.length<=1000000:=O;show#[x,c,rfl,rfl,by rw[Cj rfl,zk];omega,λp B=>?_];let h:=i.newLD B (Li (K:=K) (F:=F) (Rz x c) λp B=>by let:=part_short B;rw[Cj (x:=x) rfl]at this;omega)
    rw[qD]at h;show L (.ref p) F _ (zy.refl F) h
   .cases e
  |[],_,e=>cases e
  |_::_::_,_,e=>cases e
 |_=>cases e
end
def GD(L:FE X o I)(M:FA X [e] wa)
  (F:autoParam (attributeBase o "split" X.env (eval o X.env)=eval o X.env) rZ9)
  (G:autoParam (((backTo cpos (starEach [e] X.env)).all (λx=>!x.1)&&(backToKw cpos (keywordEach [] X.env)).all (λx=>x.1.isSome)
   &&↥([e].length+([]:List Keyword).length+(if([]:List Keyword).isEmpty then 0 else 1)<30))=true) rZ9)
  (B:autoParam ((apos.endLine==cpos.line)=true) rZ9)(J:autoParam (starEach [e] X.env=(false,eval e X.env)::starEach [] X.env) rZ9)(i:autoParam ((backTo cpos (starEach [] X.env)).any (·.1)=false) rZ9):
  FE X (.Call (.Attribute o "split" apos) [e] [] cpos) (iU fK I wa):=HR (λ_ _=>Rm) TU PySem.F.slot_str_split PySem.F.type_str_split L M F G B J i
def JM{x z:Str}(L:Gl X x)(I:∃t,X.mg x=⇑(.str z t))(hz:autoParam ((↥(z.cps.toList=l)&&↥(l.length<=16777216))=true) rZ9)(M:autoParam ((x==("__debug__":Str))=false) dZ9):FE X (.Name x pos) (wC (.str l)):=λpn xe U=>by let#[t,I]:=I;show PE.imp (Ge (X:=wp X pn xe) L I (v:=.str z) #[t,rfl] M) λσ H Q h=>?_;let#[F,G,ρ,P,PX,i,J,B,O]:=h;rw[and_eq_true,qS,qS]at hz;show B _ ρ _ F H J (zy.refl F) (i.push (.str hz.1 hz.2)) trivial
def ar(l:List (List Nat×List Nat)):List (Str×KTD.Dat):=l.map λp=>((#[p.1.toArray]:Str),.flat (.str #[p.2.toArray]))
def vT(a:Addr)(o:Obj)(l:List (List Nat×List Nat)):Bool:=!(a==sysModules)&&(o.cls==.type "dict"&&o.dict.isNone&&o.slots.isEmpty&&(match o.data with|.dict es _=>KTD.rowsLook (KTD.datLooks λ_=>none) es.toList (ar l)|_=>false))
def fV(K:W.Frag)(a:Addr)(l:List (List Nat×List Nat)):Prop:=∃o,K.lookup a=⇑o/\vT a o l=true
def EB{z:Str}:∀{l:List (List Nat×List Nat)},KTD.datumAt z (ar l)=(l.lookup z.cps.toList).map λv=>.flat (.str #[v.toArray])
 |[]=>rfl
 |(x,v)::l=>by
  let i:=EB (z:=z) (l:=l);show(if ↥(z=(#[x.toArray]:Str))=true then ⇑_ else KTD.datumAt z (ar l))=_;rw[lookup_cons];by_cases h:z.cps.toList=x
  .subst h;rw[qZ (by simp),beq_self_eq_true];rfl
  .rw[q5 (λe=>h (by rw[qT e])),i,show(z.cps.toList==x)=false from beq_eq_false_iff_ne.mpr h]
def Mz{z:Str}{l:List (List Nat×List Nat)}:KTD.inKeys z (ar l)=(l.lookup z.cps.toList).isSome:=by rw[<-KTD.isSome_datumAt,EB,isSome_map]
def PL{q:List Nat}(h:xO l (.str q)=⇑v):∃t,l.lookup q=⇑t/\t.length<=16777216/\v=.str t:=by
 let h':(if(l.lookup q).all (λv=>↥(v.length<=16777216))then(l.lookup q).map D.str else none)=⇑v:=h;split at h'
 .rename_i i;rw[qX]at h';let#[t,e,rfl]:=h';rw[e]at i;show#[t,e,qT i,rfl]
 .cases h'
def pd(a:Addr)(l:List (List Nat×List Nat)):R2:=λx y H Q=>∃z v,x=.ref a/\y=.str z/\l.lookup z.cps.toList=⇑v/\Q (.str #[v.toArray]) H
section
variable{X:Cx}{l:List (List Nat×List Nat)}{a:Addr}
def Gf(I:Inv X zS σ H s)(m:fV X.K a l):KTD.Here X.base s.heap a (ar l):=by let#[o,i,m]:=m;show#[KTD.tab_of_look (L:=KTD.datLooks λ_=>none) (R:=KTD.Dat.At X.base) (KTD.dat_of_looks λ_ _ e=>nomatch e) (get:=λb=>X.K.lookup b) (λb o q=>I.mod.kin b o q) ?_,I.bk];unfold KTD.tabLook;dsimp only;rw[i];show m
def Up(I:Inv X zS σ H s)(m:fV X.K a l)(B:l.lookup z.cps.toList=⇑v){Q:zr}{E:zr}(k:∀t',Q (.str #[v.toArray] t') {s with toks:=s.toks+1}):
  wpAny (model X.prog X.w) X.A (getItem (.ref a) (.str z t)) Q E s:=by
 let T:=Gf I m;unfold getItem;try with_reducible show zn ?_
 refine qa (wpAny_sequenceKey T.typeIs ⋯ ?_);refine qa (wpAny_callSpecial?_slot (name:=Str.ofString "__getitem__") T.typeIs PySem.F.slot_dict_getitem
  (zj PySem.F.slot_dict_getitem T.typeIs PySem.F.entry_dict_getitem ?_ (PySem.args_dict_getitem _ _)))
 show wpAny _ _ (dictGet a (.str z t)>>=_) _ _ s;show qa (KTD.dictGet_text T (λd G F J=>qb #[G,rfl,qb ?_]) λi=>?_)
 .rw[EB,B]at F;cases F;let#[t',rfl]:=PyProof.V.Flat.str_inv J;show k t'
 .rw[EB,B]at i;cases i
def OV(m:fV X.K a l):oP X (pd a l):=by
 intro B F zS s σ H x y v u Q I O M h U;let#[z,w',rfl,rfl,Y,q]:=h;cases O;let#[t,rfl]:=M;let Z:=(Gf I m).typeIs;let h2:=Up (E:=X.xe) (t:=t) I m Y (Q:=EP X zS σ Q) λL=>#[.str _,H,I.kept λ_ _ z=>z,#[L,rfl],q]
 show qa ?_;show qa (wpAny_specialOf Z PySem.F.slot_dict_getitem.lookup ?_);let G:wpAny (model X.prog X.w) X.A (subscripted F false (.ref a) (.str z t)) (λr i=>wpAny (model X.prog X.w) X.A (letTemporaryGo B (.ref a) r>>=λ_=>pure r) (EP X zS σ Q) X.xe i) X.xe s:=by rw[U];show wpAny_operating (zp h2 (λr i J=>qa (wpAny_letTemporaryGo (qb J))) λ_ _ x=>x)
 first
  |show qb (qa G)
  |show qa (qb (qa G))
  |show qa G
def ai(a:Addr)(l:List (List Nat×List Nat))(b:Bool):R2:=λx y H Q=>∃z,x=.str z/\y=.ref a/\Q (.bl (b==(l.lookup z.cps.toList).isSome)) H
def Vp(m:fV X.K a l):OpR X (compareOp .NotIn) (ai a l false):=by intro zS s σ H x y v u Q I B i h;let#[z,rfl,rfl,q]:=h;cases i;let#[t,rfl]:=B;show KTD.notin_text (Gf I m) #[.bl _,H,I.kept λ_ _ z=>z,by rw[Mz];cases(l.lookup z.cps.toList).isSome<;>rfl,q]
def Lg{x:Str}(hg:Gl X x)(L:∃a,X.mg x=⇑(.ref a)/\fV X.K a l)(hb:FE X b wb)(hd:autoParam ((x==("__debug__":Str))=false) dZ9)(hs:eY b:=by intro _ _;rfl):FE X (.Subscript (.Name x p) b pos) (pE l wb):=λpn xe hp=>by
 let#[a,L,m]:=L;show PE.imp (Ey (OV (X:=wp X pn xe) m) (Ge (X:=wp X pn xe) hg L (v:=.ref a) rfl hd) (hb pn xe hp) hs) λσ H Q q=>?_;show(one (k:=λy i Q E=>zx (view y i) λq=>zx (xO l q) λv=>Q (.v (.sh v)) i) q).mono λu H2 h2=>?_;let#[F,G,ρ,y,P,PX,B,M,U,I,J,hx]:=h2;let#[q,eq,I]:=Ag I;let#[v,O,I]:=Ag I;let Y:=look (ρ':=[]) (σ':=[]) B M U eq;cases Y with
 |str e0 z0=>subst e0;let#[t,et,Z,rfl]:=PL O;show#[_,t,rfl,rfl,et,J _ ρ _ F H2 I (zy.refl F) ((B.drop M).push (.str (by simp) Z)) trivial]
 |_=>cases O
def VB{x:Str}{M:CmpOp}{b:Bool}{a:Addr}(ho:∀pn xe,OpR (wp X pn xe) (compareOp M) (ai a l b))(hg:Gl X x)(hm:X.mg x=⇑(.ref a))(he:FE X e we)(hd:(x==("__debug__":Str))=false)(U:behindInMarks M (.Name x p)=false):
  FT X (.Compare e [M] [.Name x p] pos) (iX l b we):=λpn xe hp=>by
 show PT.imp (Jf (ho pn xe) (he pn xe hp) (Ge (X:=wp X pn xe) hg hm (v:=.ref a) rfl hd) U) λσ H Q h=>?_;let#[F,G,ρ,P,PX,J,hw,O,hx]:=h;show#[F,G,ρ,_,PX,J,hw,λy B v F1 H1 i s1 L I=>?_,hx];let#[q,eq,i]:=Ag i;let#[v',Z,i]:=Ag i;let Y:=Af L;let rp:=look (ρ':=[]) (σ':=[]) L Y I eq;cases rp with
 |str e0 z0=>subst e0;cases Z;show#[_,rfl,rfl,_,rfl,O _ B F1 H1 i s1 (L.drop Y)]
 |_=>cases Z
def Vl{x:Str}(G:Gl X x)(B:∃a,X.mg x=⇑(.ref a)/\fV X.K a l)(I:FE X e F)(i:behindInMarks .NotIn (.Name x p)=false:=by with_unfolding_all rfl)(J:autoParam ((x==("__debug__":Str))=false) dZ9):FT X (.Compare e [.NotIn] [.Name x p] pos) (iX l false F):=by let#[a,B,m]:=B;show VB (λpn xe=>Vp (X:=wp X pn xe) m) G B I J i
end
def pZ(K:W.Frag):V->List V->Hp->VK->Prop:=λx vs H Q=>∃a xs ds y d j,x=.ref a/\vs=[y]/\bD K H a xs/\zQ K H xs ds/\aP K H y d/\oG ds d=⇑j/\Q (.int j) H
def RP{prog:Program}{w:World}{A:Around}{E:zr}{s:Shared}{items:Array Value}{x:Value}{e:Value->Bool}{j:Nat}(hj:j<items.size)(hit:e items[j]=true)(hno:∀m(hm:m<items.size),m<j->e items[m]=false)
  (he:∀y,y∈items->PySem.SeqAt.EqAt A s y x (e y)){Q:Option PySem.Fin×Unit->Shared->Prop}(h:Q (⇑(.done (.ret (.int j s.toks))),()) {s with toks:=s.toks+1}):
  ∀(k i m:Nat),j-i=k->i<=j->j<i+m->wpAny (model prog w) A (forIn (List.range' i m) ((none:Option PySem.Fin),()) λ(i:Nat)(_:Option PySem.Fin×Unit)=>(match items[i]? with
   |some y=>do
    let __do_lift<-eqBool y x
    if __do_lift=true then do
      let __do_lift<-retInt (i:Int)
      pure (ForInStep.done (⇑__do_lift,()))
     else pure (ForInStep.yield (none,()))
   |_=>pure (ForInStep.yield (none,())):Sem (ForInStep (Option PySem.Fin×Unit)))) Q E s:=by
 intro k;induction k with
 |zero=>
  intro i m hk hi hm;let:i=j:=by omega
  subst this;obtain⟨m,rfl⟩:∃m',m=m'+1:=#[m-1,by omega]
  rw[List.range'_succ,forIn_cons];show qa ?_;rw[Array.getElem?_eq_getElem hj];show qa (he _ (Array.getElem_mem hj) prog w _ _ ?_);rw[hit]
  wp_walk
  show h
 |succ k ih=>
  intro i m hk hi hm;let hlt:i<items.size:=by omega
  obtain⟨m,rfl⟩:∃m',m=m'+1:=#[m-1,by omega]
  rw[List.range'_succ,forIn_cons];show qa ?_;rw[Array.getElem?_eq_getElem hlt];show qa (he _ (Array.getElem_mem hlt) prog w _ _ ?_);rw[hno i hlt (by omega)];show qb (ih (i+1) m (by omega) (by omega) (by omega))
def VC(l:Addr)(items:Array Value)(x:Value)(e:Value->Bool)(j:Nat)(hj:j<items.size)
  (F:e items[j]=true)(B:∀m(M:m<items.size),m<j->e items[m]=false):
  Meets (Builtin.«tuple.index» #[[.ref l,x],[]])
   (λA R s=>IsTup s.heap l items/\(∀y,y∈items->PySem.SeqAt.EqAt A.in1 s y x (e y))/\R (.ok (.ret (.int j s.toks))) {s with toks:=s.toks+1}):=by
 intro prog w A R s h;let#[J,L,h]:=h;unfold Builtin.«tuple.index»
 wp_walk
 obtain⟨o,i,n,G⟩:∃o,s.heap.get? l=some o/\∃n,o.data=.seq items n:=by let#[o,i,_,n,G]:=J;show#[o,i,n,G]
 show wpAny_load i ?_;rw[G];show qb (qb ?_);show qa (qb ?_);show qa (qb ?_);show qa ?_;rw[Nat.min_self];simp only[Std.Legacy.Range.forIn_eq_forIn_range'];let I:[:items.size].size=items.size:=by simp[Std.Legacy.Range.size]
 rw[I];show RP (prog:=prog) (w:=w) (A:=A.in1) (j:=j) hj F B L ?_ j 0 items.size (sub_zero _) (zero_le _) (by omega);show qb h
open Classical in
def Tf{X:Cx}:xY X "tuple.index" (pZ X.K):=by
 intro zS s σ H x vs v us Q I rx rv h;let#[a,xs,ds,y,d,j,rfl,rfl,hq,rd,ry,Y,q]:=h;cases rx;let#[u,rfl,ru]:=rv.one;let#[i,r,pl,hz]:=I.tuple hq;unfold oG at Y;split at Y
 .rename_i G;rw[qH]at G;let e1:=r.length;let h9:=rd.len;let M:∀(k:Nat)(F:Value),i[k]?=⇑F->∃B,ds[k]?=⇑B/\xP F=⇑B/\∀{A:Around},PySem.SeqAt.EqAt A s F u ↥(B=d):=λk F hk=>by let#[vk,h1,h2]:=Gn r hk;let#[B,Z,h4]:=Gg rd h1;let:=G B (qL Z);rw[and_eq_true,Bool.not_eq_true']at this;exact#[B,Z,Jg h4 h2 this.1,(ER h4 ry h2 ru this.2 (λl e=>by rw[e]at this;cases this.1) (λl e=>by rw[e]at this;cases this.1)).1]
  let#[h8,h7,h6]:=List.findIdx?_eq_some_iff_getElem.mp Y;let O:∀m(U:m<i.toArray.size)(J:m<ds.length),↥(xP i.toArray[m]=⇑d)=↥(ds[m]=d):=λm U J=>by let#[B,h1,h2,_]:=M m i.toArray[m] (by rw[getElem?_eq_getElem ↑U];simp);rw[getElem?_eq_getElem J]at h1;rw[h2,<-qf h1];simp
  let L:j<i.toArray.size:=by rw[qq];lia
  refine call_meets PySem.F.slot_tuple_index pl.typeIs PySem.F.entry_tuple_index (PySem.F.args_tuple_index_2 _ _)
   (VC a i.toArray u (λF=>↥(xP F=⇑d)) j L ?_ ?_) #[pl,λF hw=>?_,?_]
  .show(O j L h8).trans h7
  .intro m U h5;show(O m U ∅).trans ?_;let:=h6 m h5;simpa using this
  .obtain⟨k,hk,e⟩:=Array.mem_iff_getElem.mp hw;let#[B,h1,h2,Z]:=M k F (by rw[getElem?_eq_getElem ↑hk,<-e];simp);rw[h2];let:↥(⇑B=⇑d)=↥(B=d):=by simp
   rw[this];show Z
  .show#[.int _,H,I.kept λ_ _ z=>z,#[_,rfl],q]
 .cases Y
def ot(r:V->List V->Hp->VK->Prop)(i:TE)(t:TA):TE:=λσ H Q=>i σ H λx H1=>(∃a xs,x=.ref a/\H1 a=⇑(.tup xs))/\t σ H1 λxs H2=>r x xs H2 Q
def Mf{X:Cx}{name:Str}{id:String}(pa:PlainAttrs "tuple")(slot:Slot "tuple" name id)(L:typeOf (.builtin id)=pure (.type "method_descriptor"))(hm:ny X id r)(ho:PE X o Z)(ha:PA X (e::es) t)
  (G:attributeBase o name X.env (eval o X.env)=eval o X.env)
  (J:((backTo cpos (starEach (e::es) X.env)).all (λx=>!x.1)&&(backToKw cpos (keywordEach [] X.env)).all (λx=>x.1.isSome)
   &&↥((e::es).length+([]:List Keyword).length+(if([]:List Keyword).isEmpty then 0 else 1)<30))=true)
  (F:(apos.endLine==cpos.line)=true)(hs:starEach (e::es) X.env=(false,eval e X.env)::starEach es X.env)(i:(backTo cpos (starEach es X.env)).any (·.1)=false):
  PE X (.Call (.Attribute o name apos) (e::es) [] cpos) (ot r Z t):=by
 intro zS s σ H Q I h;show wpAny_Call_method_late G J F rfl (Ah (ho zS s σ H _ I h) λv s1 U=>?_);let#[x,H1,O,r1,#[a,xs,rfl,ea],q1]:=U;cases r1;let#[#[_,nd],h1,rv,o,B,hc,hd]:=O.hok a _ ea;show#["tuple",id,pa,slot,L,#[o,B,hc],λb hb=>?_,?_]
 .cases hb;show#[o,B,nd o B]
 let M:=ha cpos zS s1 σ H1 _ O q1;rw[hs]at M⊢;show Calls.callWith_builtin (by show(false||(backTo cpos (starEach es X.env)).any (·.1))=false;rw[i]<;>rfl) (Calls.evalArgs_plain ?_);show Ah M λY s2⟨vs,H2,I2,r2,q2⟩=>hm zS s2 σ H2 (.ref a) vs (.ref a) Y Q I2 rfl r2 q2
def Sq{X:Cx}(ho:FE X o wo)(ha:FA X [e] wa)
  (M:autoParam (attributeBase o "index" X.env (eval o X.env)=eval o X.env) rZ9)
  (Y:autoParam (((backTo cpos (starEach [e] X.env)).all (λx=>!x.1)&&(backToKw cpos (keywordEach [] X.env)).all (λx=>x.1.isSome)
   &&↥([e].length+([]:List Keyword).length+(if([]:List Keyword).isEmpty then 0 else 1)<30))=true) rZ9)
  (L:autoParam ((apos.endLine==cpos.line)=true) rZ9)(hs:autoParam (starEach [e] X.env=(false,eval e X.env)::starEach [] X.env) rZ9)(J:autoParam ((backTo cpos (starEach [] X.env)).any (·.1)=false) rZ9):
  FE X (.Call (.Attribute o "index" apos) [e] [] cpos) (dr dB wo wa):=λpn xe hp=>by
 refine PE.imp (Mf (X:=wp X pn xe) PySem.F.plainAttrs_tuple PySem.F.slot_tuple_index PySem.F.type_tuple_index Tf (ho pn xe hp) (ha pn xe hp) M Y L hs J) λσ H Q q=>?_;refine(one (k:=λx O Q E=>match zO x O with
  |some (.tup l)=>wa O (λrs B=>zx (rs.mapM λr=>zO r B) λds=>zx (dB l ds) λs=>Q (.v s) B) E
  |_=>False) q).mono λv H1 h1=>?_
 let#[F,G,ρ,x,P,PX,h2,hl,rx,hk,h3,hx]:=h1;split at hk
 .rename_i l ev;let#[F4,s4,rp,r8]:=AG (ρ':=[]) (σ':=[]) h2 hl rx ev;rw[qz,qz]at r8;let#[a,xs,rfl,hq,rd]:=rp.tup;show#[#[a,xs,rfl,r8.fr _ _ hq],F4,G,ρ,_,PX,r8,hk,λrs B vs F2 H2 I s2 r2 h4 Z=>?_,hx.grow s4];let#[ds,ed,I]:=Ag I;let#[s,es,I]:=Ag I;let#[F3,s3,re,U]:=AF (ρ':=[]) (σ':=[]) ↑r2 h4 Z ed;let#[d,v,rfl,rfl]:=AE (λx y r=>by cases x<;>rfl) rfl re es;let#[i,ei,rfl]:=qX.mp es;let U:Rel X.K B σ F3 G H2:=by simpa using U
  let sm:zy F4 H2:=(s2.trans s3).trans U.fr;show#[a,xs,l,v,d,i,rfl,rfl,bD.of (sm _ _ hq),rd.mono sm,re.1.view U.fr,ei,h3 _ B _ F3 H2 I (s4.trans (s2.trans s3)) (U.push (.int _)) trivial]
 .show hk.elim
end FL
namespace FL
def e_C:wC d ρ Q E=Q (.v (.sh d)) ρ:=rfl
def kV(o:Option S)(Q:WQ)(ρ:Env):Prop:=zx o λs=>Q (.v s) ρ
def e_V:kV ⇑s Q ρ=Q (.v s) ρ:=rfl
def lU(o:D->D->Option S)(x y:Option D)(Q:WQ)(ρ:Env):Prop:=zx x λp=>zx y λq=>kV (o p q) Q ρ
def jG(o:D->D->Option S)(x:R)(Q:WQ):WQ:=λy i=>lU o (zO x i) (zO y i) Q i
def tD(o:D->D->Option S)(b:WE)(Q:WQ)(E:WX):WQ:=λx i=>b i (jG o x Q) E
def zsZ:zJ o a b ρ Q E=a ρ (tD o b Q E) E:=rfl
def zoE:tD o b Q E x ρ=b ρ (jG o x Q) E:=rfl
def zoN:lU o ⇑p ⇑q Q ρ=kV (o p q) Q ρ:=rfl
def wG(o:D->Option S)(x:Option D)(Q:WQ)(ρ:Env):Prop:=zx x λp=>kV (o p) Q ρ
def ml(o:D->Option S)(Q:WQ):WQ:=λx ρ=>wG o (zO x ρ) Q ρ
def e_Un{o:D->Option S}:iE o a ρ Q E=a ρ (ml o Q) E:=rfl
def zrz{o:D->Option S}:ml o Q x ρ=wG o (zO x ρ) Q ρ:=rfl
def zrU{o:D->Option S}:wG o ⇑p Q ρ=kV (o p) Q ρ:=rfl
def kC(o:Option Bool)(Q:Bool->Env->Prop)(ρ:Env):Prop:=zx o λc=>Q c ρ
def e_Ck{c:Bool}:kC ⇑c QT ρ=QT c ρ:=rfl
def jF(o:D->D->Option Bool)(x y:Option D)(Q:Bool->Env->Prop)(ρ:Env):Prop:=zx x λp=>zx y λq=>kC (o p q) Q ρ
def hU(o:D->D->Option Bool)(x:R)(Q:Bool->Env->Prop):WQ:=λy i=>jF o (view x i) (view y i) Q i
def sZ(o:D->D->Option Bool)(b:WE)(Q:Bool->Env->Prop)(E:WX):WQ:=λx i=>b i (hU o x Q) E
def zsK:aG i a b ρ QT E=a ρ (sZ i b QT E) E:=rfl
def zqq:sZ i b QT E x ρ=b ρ (hU i x QT) E:=rfl
def zom:jF i ⇑p ⇑q QT ρ=kC (i p q) QT ρ:=rfl
def kI(x:Option D)(Q:Bool->Env->Prop)(ρ:Env):Prop:=zx x λp=>kC (fO p) Q ρ
def sX(Q:Bool->Env->Prop):WQ:=λx ρ=>kI (view x ρ) Q ρ
def zo3:cK a ρ QT E=a ρ (sX QT) E:=rfl
def zmy:sX QT x ρ=kI (view x ρ) QT ρ:=rfl
def zmj:kI ⇑p QT ρ=kC (fO p) QT ρ:=rfl
def sG(b:WT)(Q:Bool->Env->Prop)(E:WX):Bool->Env->Prop:=λc i=>if c then b i Q E else Q false i
def ztt:fM t u ρ QT E=t ρ (sG u QT E) E:=rfl
def zpc:sG u QT E true ρ=u ρ QT E:=rfl
def zoY:sG u QT E false ρ=QT false ρ:=rfl
def kj(b:WT)(Q:Bool->Env->Prop)(E:WX):Bool->Env->Prop:=λc i=>if c then Q true i else b i Q E
def e_Or:gT t u ρ QT E=t ρ (kj u QT E) E:=rfl
def zsT:kj u QT E true ρ=QT true ρ:=rfl
def zsj:kj u QT E false ρ=u ρ QT E:=rfl
def ay(Q:Bool->Env->Prop):Bool->Env->Prop:=λc i=>Q (!c) i
def zrp:eC t ρ QT E=t ρ (ay QT) E:=rfl
def zpX{c:Bool}:ay QT c ρ=QT (!c) ρ:=rfl
def ax(Q:WQ):Bool->Env->Prop:=λc i=>Q (.v (.sh (.bl c))) i
def zso:eI t ρ Q E=t ρ (ax Q) E:=rfl
def zpq{c:Bool}:ax Q c ρ=Q (.v (.sh (.bl c))) ρ:=rfl
def kJ(x:Option D)(Q:WQ)(ρ:Env):Prop:=zx x λp=>zx (fO p) λc=>Q (.v (.sh (.bl (!c)))) ρ
def sY(Q:WQ):WQ:=λx ρ=>kJ (view x ρ) Q ρ
def zpn:mZ a ρ Q E=a ρ (sY Q) E:=rfl
def zml:sY Q x ρ=kJ (view x ρ) Q ρ:=rfl
def zmA{c:Bool}:kJ ⇑(.bl c) Q ρ=Q (.v (.sh (.bl (!c)))) ρ:=rfl
def kN(x:Option D)(b:WE)(Q:WQ)(E:WX)(ρ:Env):Prop:=match x with|some (.bl c)=>if c then b ρ Q E else Q (.v (.sh (.bl false))) ρ|_=>False
def tE(b:WE)(Q:WQ)(E:WX):WQ:=λx ρ=>kN (view x ρ) b Q E ρ
def zoH:gI a b ρ Q E=a ρ (tE b Q E) E:=rfl
def zmC:tE b Q E x ρ=kN (view x ρ) b Q E ρ:=rfl
def zmX:kN ⇑(.bl true) b Q E ρ=b ρ Q E:=rfl
def zru:zv ρ QA E=QA [] ρ:=rfl
def kL(r:R)(Q:List R->Env->Prop):List R->Env->Prop:=λi ρ=>Q (r::i) ρ
def oC(b:WA)(Q:List R->Env->Prop)(E:WX):WQ:=λr i=>b i (kL r Q) E
def zp8:zu a wa ρ QA E=a ρ (oC wa QA E) E:=rfl
def zm2:oC wa QA E r ρ=wa ρ (kL r QA) E:=rfl
def zm9:kL r QA rs ρ=QA (r::rs) ρ:=rfl
def bu(s:S):Option (List S×Env)->Option (List S×Env)
 |some (ss,ρ)=>⇑(s::ss,ρ)
 |none=>none
def kz(rs:List R):Option (S×Env)->Option (List S×Env)
 |some (s,ρ)=>bu s (aJ rs ρ)
 |none=>none
def ztj:aJ [] ρ=⇑([],ρ):=rfl
theorem e_gA:aJ (r::rs) ρ=kz rs (give r ρ):=by
 rw[aJ];unfold kz;cases give r ρ with
 |none=>rfl
 |some z=>let#[s,i]:=z;show(match aJ rs i with|some (ss,ρ2)=>⇑(s::ss,ρ2)|none=>none)=bu s (aJ rs i);unfold bu;rfl
def ztP:kz rs ⇑(s,ρ)=bu s (aJ rs ρ):=rfl
def zrn:bu s ⇑(ss,ρ)=⇑(s::ss,ρ):=rfl
def gv(i:Nat)(ρ:Env):Option S->Option (S×Env)
 |some s=>⇑(.sh s.toD,ρ.set i ⇑(.sh s.toD))
 |none=>none
def e_gv:give (.v s) ρ=⇑(s,ρ):=rfl
theorem e_gl:give (.loc i) ρ=gv i ρ (slot ρ i):=by unfold give gv;rfl
def ztR:gv i ρ ⇑s=⇑(.sh s.toD,ρ.set i ⇑(.sh s.toD)):=rfl
def lN(l:Bool)(x:Option (List S×Env))(Q:WQ):Prop:=zx (if l then x else none) λp=>Q (.v (.sh (.tup (p.1.map S.toD)))) p.2
def lT(l:Bool)(x:Option (List S×Env))(Q:WQ):Prop:=zx (if l then x else none) λp=>Q (.v (.lst p.1)) p.2
def dE(rs:List R):Bool:=↥(rs.length<=big)
def wH(Q:WQ):List R->Env->Prop:=λi ρ=>lN (dE i) (aJ i ρ) Q
def wU(Q:WQ):List R->Env->Prop:=λi ρ=>lT (dE i) (aJ i ρ) Q
theorem zs1:bO wa ρ Q E=wa ρ (wH Q) E:=by unfold bO wH lN dE;simp
def zoI:wH Q rs ρ=lN (dE rs) (aJ rs ρ) Q:=rfl
def zpd:lN true ⇑(ss,ρ) Q=Q (.v (.sh (.tup (ss.map S.toD)))) ρ:=rfl
theorem zrh:bR wa ρ Q E=wa ρ (wU Q) E:=by unfold bR wU lT dE;simp
def zpF:wU Q rs ρ=lT (dE rs) (aJ rs ρ) Q:=rfl
def zp9:lT true ⇑(ss,ρ) Q=Q (.v (.lst ss)) ρ:=rfl
def e_l0:dE []=true:=rfl
def e_l1:dE [i]=true:=rfl
def e_l2:dE [B,i]=true:=rfl
def e_l3:dE [F,B,i]=true:=rfl
def e_l4:dE [G,F,B,i]=true:=rfl
def e_l5:dE [I,G,F,B,i]=true:=rfl
def e_vv:view (.v s) ρ=⇑s.toD:=rfl
def e_vl:view (.loc i) ρ=(slot ρ i).map S.toD:=rfl
def e_cv:zO (.v s) ρ=⇑s.toD:=rfl
def vC:Option S->Option D
 |some s=>if s.flat then ⇑s.toD else none
 |none=>none
theorem e_cl:zO (.loc i) ρ=vC (slot ρ i):=by unfold zO vC;rfl
theorem zp0(h:l.all S.isSh=true):vC ⇑(.lst l)=⇑(.lst (l.map S.toD)):=by show(if l.all S.isSh=true then ⇑(S.toD (.lst l))else none)=_;rw[qZ h,S.toD_lst]
theorem e_sh{l:List D}:(l.map S.sh).all S.isSh=true:=by simp[S.isSh]
theorem zax{l:List D}:(l.map S.sh).map S.toD=l:=by rw[qD];show map_id l
theorem zpS:vC ⇑(.lst (l.map S.sh))=⇑(.lst l):=by rw[zp0 e_sh,zax]
def rQ(o:Option S)(Q:WQ)(ρ:Env):Prop:=match o with|some (.sh d)=>Q (.v (.sh d)) ρ|_=>False
def rR(o:Option S)(q:D)(Q:WQ)(ρ:Env):Prop:=match o with|some s=>rQ (kO s q) Q ρ|none=>False
def nY(x:R)(o:Option D)(Q:WQ)(ρ:Env):Prop:=zx o λq=>match x with|.v s=>kV (kO s q) Q ρ|.loc i=>rR (slot ρ i) q Q ρ
def rS(x:R)(Q:WQ):WQ:=λy i=>nY x (view y i) Q i
def wV(b:WE)(Q:WQ)(E:WX):WQ:=λx i=>b i (rS x Q) E
theorem e_Ix:bK a b ρ Q E=a ρ (wV b Q E) E:=by unfold bK wV rS nY rR rQ kV;rfl
def zs8:wV b Q E x ρ=b ρ (rS x Q) E:=rfl
def zsB:rS x Q y ρ=nY x (view y ρ) Q ρ:=rfl
def zqs:nY (.v s) ⇑q Q ρ=kV (kO s q) Q ρ:=rfl
def zn4:nY (.loc i) ⇑q Q ρ=rR (slot ρ i) q Q ρ:=rfl
def zrk:rR ⇑s q Q ρ=rQ (kO s q) Q ρ:=rfl
def zrx:rQ ⇑(.sh d) Q ρ=Q (.v (.sh d)) ρ:=rfl
def zrq:kO (.sh (.tup l)) (.int z)=(atI l z).map S.sh:=rfl
def zqY:kO (.sh (.lst l)) (.int z)=(atI l z).map S.sh:=rfl
def ztm:kO (.sh (.str l)) (.int z)=(atI l z).map λc=>S.sh (.str [c]):=rfl
def ztB:kO (.lst l) (.int z)=atI l z:=rfl
def Bf(i:0<=z)(h:l[z.toNat]?=⇑v):atI l z=⇑v:=by let:z.toNat<l.length:=(qg.mp h).1;unfold atI ixN;rw[qZ i,qZ ∅];show h
theorem ztg:atI (v::l) 0=⇑v:=Bf ⋯ rfl
theorem zrV:atI (i::v::l) 1=⇑v:=Bf ⋯ rfl
theorem zrH:atI (B::i::v::l) 2=⇑v:=Bf ⋯ rfl
theorem ztJ:atI (F::B::i::v::l) 3=⇑v:=Bf ⋯ rfl
theorem zrC:atI (G::F::B::i::v::l) 4=⇑v:=Bf ⋯ rfl
def pA(s:S):Option (List S×Env)->Option (List S×Env)
 |some (ss,ρ)=>⇑(s::ss,ρ)
 |none=>none
theorem e_p0:cF ms [] ρ=⇑([],ρ):=by cases ms<;>rfl
theorem e_pv:cF (h::ms) (.v s::rs) ρ=pA s (cF ms rs ρ):=by rw[cF];unfold pA;rfl
def pL(i:Nat)(o:Option S)(ms:List Bool)(rs:List R)(ρ:Env):Option (List S×Env):=match o with
 |some s=>pA s (cF ms rs (ρ.set i none))
 |none=>none
theorem e_pl:cF (true::ms) (.loc i::rs) ρ=pL i (slot ρ i) ms rs ρ:=by rw[cF];unfold pL pA;cases slot ρ i<;>rfl
def ztw:pL i ⇑s ms rs ρ=pA s (cF ms rs (ρ.set i none)):=rfl
def e_pA:pA s ⇑(ss,ρ)=⇑(s::ss,ρ):=rfl
def e_b0:back ms [] ss ρ=ρ:=rfl
def e_bv{s t:S}:back (h::ms) (.v s::rs) (t::ss) ρ=back ms rs ss ρ:=rfl
def e_bl{t:S}:back (true::ms) (.loc i::rs) (t::ss) ρ=back ms rs ss (ρ.set i ⇑t):=rfl
def oB(ms:List Bool)(rs:List R)(ρ:Env)(Q:WQ):S->List S->Prop:=λs i=>Q (.v s) (back ms rs i ρ)
def xI(ms:List Bool)(rs:List R)(ρ:Env)(E:WX):D->List S->Prop:=λx i=>E x (back ms rs i ρ)
def kM(f:WF)(ms:List Bool)(rs:List R)(o:Option (List S×Env))(Q:WQ)(E:WX):Prop:=zx o λp=>f p.1 (oB ms rs p.2 Q) (xI ms rs p.2 E)
def tB(f:WF)(ms:List Bool)(Q:WQ)(E:WX):List R->Env->Prop:=λi ρ=>kM f ms i (cF ms i ρ) Q E
def zqr:zL f ms wa ρ Q E=wa ρ (tB f ms Q E) E:=rfl
def znC:tB f ms Q E rs ρ=kM f ms rs (cF ms rs ρ) Q E:=rfl
def zmD:kM f ms rs ⇑(ss,ρ) Q E=f ss (oB ms rs ρ Q) (xI ms rs ρ E):=rfl
def zoM:oB ms rs ρ Q s ss=Q (.v s) (back ms rs ss ρ):=rfl
def vA:Option D->Option (List D)->Option (List D)
 |some d,some ds=>⇑(d::ds)
 |_,_=>none
def fJ(rs:List R)(ρ:Env):Option (List D):=match rs with
 |[]=>⇑[]
 |r::rs=>vA (zO r ρ) (fJ rs ρ)
def DK:∀rs:List R,(rs.mapM λr=>zO r ρ)=fJ rs ρ
 |[]=>rfl
 |r::rs=>by
  rw[List.mapM_cons,DK rs,fJ];cases zO r ρ with
  |none=>rfl
  |some d=>cases fJ rs ρ<;>rfl
def zqL:fJ [] ρ=⇑[]:=rfl
def e_vA:fJ (r::rs) ρ=vA (zO r ρ) (fJ rs ρ):=rfl
def zsq:vA ⇑d ⇑ds=⇑(d::ds):=rfl
def oE(f:List D->Option S)(o:Option (List D))(Q:WQ)(ρ:Env):Prop:=zx o λi=>kV (f i) Q ρ
def kB(f:List D->Option S)(Q:WQ):List R->Env->Prop:=λi ρ=>oE f (fJ i ρ) Q ρ
theorem e_B:wB f wa ρ Q E=wa ρ (kB f Q) E:=by unfold wB kB oE kV;simp only[DK]
def e_B1:kB f Q rs ρ=oE f (fJ rs ρ) Q ρ:=rfl
def e_B2:oE f ⇑ds Q ρ=kV (f ds) Q ρ:=rfl
def rO(f:List Nat->List D->Option S)(l:List Nat)(Q:WQ):List R->Env->Prop:=λi ρ=>oE (f l) (fJ i ρ) Q ρ
def km(f:List Nat->List D->Option S)(wa:WA)(Q:WQ)(E:WX):WQ:=λx ρ=>match x with
 |.v (.sh (.str l))=>wa ρ (rO f l Q) E
 |_=>False
theorem e_MS:iU f a wa ρ Q E=a ρ (km f wa Q E) E:=by unfold iU km rO oE kV;simp only[DK];all_goals rfl
def zsu:km f wa Q E (.v (.sh (.str l))) ρ=wa ρ (rO f l Q) E:=rfl
def zto:rO f l Q rs ρ=oE (f l) (fJ rs ρ) Q ρ:=rfl
def sD(j:Nat)(s:S)(o:Option S)(ρ:Env)(Q:WQ):Prop:=match o with
 |some (.lst l)=>l.length<big/\Q (.v (.sh .non)) (ρ.set j ⇑(.lst (l++[s])))
 |_=>False
def sE(j:Nat)(o:Option (S×Env))(Q:WQ):Prop:=zx o λp=>sD j p.1 (slot p.2 j) p.2 Q
def sF(j:Nat)(Q:WQ):WQ:=λr ρ=>sE j (give r ρ) Q
def kr(j:Nat)(o:Option S)(a:WE)(ρ:Env)(Q:WQ)(E:WX):Prop:=match o with
 |some (.lst _)=>a ρ (sF j Q) E
 |_=>False
theorem e_Ap:bC j a ρ Q E=kr j (slot ρ j) a ρ Q E:=by unfold bC kr sF sE sD;rfl
def zrP:kr j ⇑(.lst l) a ρ Q E=a ρ (sF j Q) E:=rfl
def zsD:sF j Q r ρ=sE j (give r ρ) Q:=rfl
def zsG:sE j ⇑(s,ρ) Q=sD j s (slot ρ j) ρ Q:=rfl
def zts:sD j s ⇑(.lst l) ρ Q=(l.length<big/\Q (.v (.sh .non)) (ρ.set j ⇑(.lst (l++[s])))):=rfl
def lR(j:Nat)(o:Option D)(p:Option S)(ρ:Env)(Q:WQ):Prop:=match o,p with
 |some (.int i),some (.lst l)=>zx (if l.length<=big then ixN l.length i else none) λk=>zx l[k]? λs=>Q (.v s) (ρ.set j ⇑(.lst (l.eraseIdx k)))
 |_,_=>False
def lS(j:Nat)(Q:WQ):WQ:=λr ρ=>lR j (view r ρ) (slot ρ j) ρ Q
def wR(j:Nat)(o:Option S)(a:WE)(ρ:Env)(Q:WQ)(E:WX):Prop:=match o with
 |some (.lst _)=>a ρ (lS j Q) E
 |_=>False
theorem zrt:gG j a ρ Q E=wR j (slot ρ j) a ρ Q E:=by unfold gG wR lS lR;rfl
def zp5:wR j ⇑(.lst l) a ρ Q E=a ρ (lS j Q) E:=rfl
def zpg:lS j Q r ρ=lR j (view r ρ) (slot ρ j) ρ Q:=rfl
def Iu(F:0<=z)(B:l.length<=big)(h:l[z.toNat]?=⇑s)(i:Q (.v s) (ρ.set j ⇑(.lst (l.eraseIdx z.toNat)))):lR j ⇑(.int z) ⇑(.lst l) ρ Q:=by
 let:z.toNat<l.length:=(qg.mp h).1;let e:(if l.length<=big then ixN l.length z else none)=⇑z.toNat:=by unfold ixN;rw[qZ B,qZ F,qZ ∅]
 show zx (if l.length<=big then ixN l.length z else none) _;rw[e,Fi,h];show i
def jE(T:String)(o:Option D)(Q:WQ)(ρ:Env):Prop:=zx o λd=>fR d=true/\Q (.v (.sh (.bl (eL T d)))) ρ
def ba(T:String)(Q:WQ):WQ:=λx ρ=>jE T (view x ρ) Q ρ
def ztO:iH T a ρ Q E=a ρ (ba T Q) E:=rfl
def zn5:ba T Q x ρ=jE T (view x ρ) Q ρ:=rfl
theorem zna{l:List D}:jE T ⇑(.tup l) Q ρ=Q (.v (.sh (.bl (eL T (.tup l))))) ρ:=by show(_/\_)=_;simp[fR]
theorem zne{z:Int}:jE T ⇑(.int z) Q ρ=Q (.v (.sh (.bl (eL T (.int z))))) ρ:=by show(_/\_)=_;simp[fR]
theorem znK{z:List Nat}:jE T ⇑(.str z) Q ρ=Q (.v (.sh (.bl (eL T (.str z))))) ρ:=by show(_/\_)=_;simp[fR]
def xG(o:Option D)(p:Option (S×Env))(Q:WQ):Prop:=zx o λq=>zx p λp=>cR q=true/\Q (.v (.dct false [q] [p.1])) p.2
def xH(x:R)(Q:WQ):WQ:=λy ρ=>xG (view x ρ) (give y ρ) Q
def bg(v:WE)(Q:WQ)(E:WX):WQ:=λx ρ=>v ρ (xH x Q) E
def e_Di:jX a b ρ Q E=a ρ (bg b Q E) E:=rfl
def zqO:bg b Q E x ρ=b ρ (xH x Q) E:=rfl
def zqR:xH x Q y ρ=xG (view x ρ) (give y ρ) Q:=rfl
def zre:xG ⇑q ⇑(s,ρ) Q=(cR q=true/\Q (.v (.dct false [q] [s])) ρ):=rfl
def zpu:cR (.int z)=true:=rfl
def wQ(o:Option D)(Q:Option Int->Env->Prop)(ρ:Env):Prop:=match o with|some (.int i)=>Q ⇑i ρ|_=>False
def mu(Q:Option Int->Env->Prop):WQ:=λx ρ=>wQ (view x ρ) Q ρ
def zrb{Q:Option Int->Env->Prop}:fN none ρ Q E=Q none ρ:=rfl
def e_Pt{Q:Option Int->Env->Prop}:fN ⇑a ρ Q E=a ρ (mu Q) E:=rfl
def ztQ{Q:Option Int->Env->Prop}:mu Q x ρ=wQ (view x ρ) Q ρ:=rfl
def zsC{Q:Option Int->Env->Prop}:wQ ⇑(.int z) Q ρ=Q ⇑z ρ:=rfl
def wI(o:Option D)(l h:Option Int)(Q:WQ)(ρ:Env):Prop:=zx o λd=>kV (jP d l h) Q ρ
def wJ(x:R)(l:Option Int)(Q:WQ):Option Int->Env->Prop:=λh ρ=>wI (zO x ρ) l h Q ρ
def wK(x:R)(hi:Option WE)(Q:WQ)(E:WX):Option Int->Env->Prop:=λl ρ=>fN hi ρ (wJ x l Q) E
def mn(lo hi:Option WE)(Q:WQ)(E:WX):WQ:=λx ρ=>fN lo ρ (wK x hi Q E) E
def e_Sl:dX a lo hi ρ Q E=a ρ (mn lo hi Q E) E:=rfl
def ztH:mn lo hi Q E x ρ=fN lo ρ (wK x hi Q E) E:=rfl
def ztk:wK x hi Q E l ρ=fN hi ρ (wJ x l Q) E:=rfl
def zrE:wJ x l Q h ρ=wI (zO x ρ) l h Q ρ:=rfl
def ztp:wI ⇑d l h Q ρ=kV (jP d l h) Q ρ:=rfl
def pD(D:Ends)(k:Env->Prop):Ends:={D with nx:=k}
def e_nx:(pD D' K).nx=K:=rfl
def e_rt:(pD D' K).rt=D'.rt:=rfl
def e_ex:(pD D' K).ex=D'.ex:=rfl
def zpz:aE D' ρ=D'.nx ρ:=rfl
def zrg:zK v w D' ρ=v (pD D' (w D')) ρ:=rfl
def wY(a b:WS)(D:Ends):Bool->Env->Prop:=λk ρ=>if k then a D ρ else b D ρ
def e_If:cU t v w D' ρ=t ρ (wY v w D') D'.ex:=rfl
def zsE:wY v w D' true ρ=v D' ρ:=rfl
def zs5:wY v w D' false ρ=w D' ρ:=rfl
def zq2:aV a D' ρ=a ρ D'.rt D'.ex:=rfl
def nc(D:Ends):WQ:=λ_ ρ=>D.nx ρ
def zpa:wExpr a D' ρ=a ρ (nc D') D'.ex:=rfl
def zmR:nc D' r ρ=D'.nx ρ:=rfl
def oF(g:WG)(D:Ends)(o:Option (S×Env)):Prop:=zx o λp=>g p.1 p.2 D.nx
def bh(g:WG)(D:Ends):WQ:=λr ρ=>oF g D (give r ρ)
def zsm:zM g a D' ρ=a ρ (bh g D') D'.ex:=rfl
def zoO:bh g D' r ρ=oF g D' (give r ρ):=rfl
def zpf:oF g D' ⇑(s,ρ)=g s ρ D'.nx:=rfl
def nU(i j:Nat)(D:Ends)(s:S)(o:Option (S×Env)):Prop:=zx o λq=>D.nx ((q.2.set i ⇑s).set j ⇑q.1)
def nV(i j:Nat)(D:Ends)(t:R)(o:Option (S×Env)):Prop:=zx o λp=>nU i j D p.1 (give t p.2)
def aw(i j:Nat)(D:Ends):List R->Env->Prop:=λB ρ=>match B with
 |[r,t]=>nV i j D t (give r ρ)
 |_=>False
theorem zsi:mY i j wa D' ρ=wa ρ (aw i j D') D'.ex:=by unfold mY;congr 1
def zpy:aw i j D' [r,x] ρ=nV i j D' x (give r ρ):=rfl
def zpm:nV i j D' x ⇑(s,ρ)=nU i j D' s (give x ρ):=rfl
def zoy:nU i j D' s ⇑(s',ρ)=D'.nx ((ρ.set i ⇑s).set j ⇑s'):=rfl
def e_gN:zw i s ρ K=K (ρ.set i ⇑s):=rfl
def my(i:List WG)(d:D)(ρ:Env)(Q:Env->Prop):Prop:=match d with|.tup ds=>ds.length=i.length/\eF i ds ρ Q|_=>False
def e_gT:eM i s ρ K=my i s.toD ρ K:=rfl
def zqU:my i (.tup ds) ρ K=(ds.length=i.length/\eF i ds ρ K):=rfl
def bb(i:List WG)(ds:List D)(Q:Env->Prop):Env->Prop:=λρ=>eF i ds ρ Q
def zsf:eF [] [] ρ K=K ρ:=rfl
def zry:eF (g::i) (d::ds) ρ K=g (.sh d) ρ (bb i ds K):=rfl
def zri:bb i ds K ρ=eF i ds ρ K:=rfl
def hE(j:Nat)(D:Ends)(x:R)(q:FL.D)(s:S)(o:Option S)(ρ:Env):Prop:=match x,q,o with
 |.loc k,.int n,some (.lst l)=>k=j/\zx (ixN l.length n) λm=>D.nx (ρ.set j ⇑(.lst (l.set m s)))
 |_,_,_=>False
def lO(j:Nat)(D:Ends)(x:R)(o:Option FL.D)(p:Option (S×Env)):Prop:=zx o λq=>zx p λp=>hE j D x q p.1 (slot p.2 j) p.2
def lP(j:Nat)(D:Ends)(r x:R):WQ:=λy ρ=>lO j D x (view y ρ) (give r ρ)
def lQ(j:Nat)(i:WE)(D:Ends)(r:R):WQ:=λx ρ=>i ρ (lP j D r x) D.ex
def nS(j:Nat)(i:WE)(D:Ends):WQ:=λr ρ=>zt j ρ (lQ j i D r) D.ex
theorem ztx:gF j a b D' ρ=b ρ (nS j a D') D'.ex:=by unfold gF nS lQ lP lO hE;rfl
def zqc:nS j a D' r ρ=zt j ρ (lQ j a D' r) D'.ex:=rfl
def zn9:lQ j a D' r x ρ=a ρ (lP j D' r x) D'.ex:=rfl
def zpx:lP j D' r x y ρ=lO j D' x (view y ρ) (give r ρ):=rfl
def zo0:lO j D' x ⇑q ⇑(s,ρ)=hE j D' x q s (slot ρ j) ρ:=rfl
def Iw(i:0<=z)(h1:z<l.length):hE j D' (.loc j) (.int z) s ⇑(.lst l) ρ=D'.nx (ρ.set j ⇑(.lst (l.set z.toNat s))):=by show(j=j/\zx (ixN l.length z) _)=_;unfold ixN;rw[qZ i,qZ h1,Fi];simp
theorem znZ:hE j D' (.loc j) (.int 0) s ⇑(.lst [s0,i]) ρ=D'.nx (ρ.set j ⇑(.lst [s,i])):=Iw ⋯ (by show(0:Int)<2;decide)
theorem znG:hE j D' (.loc j) (.int 1) s ⇑(.lst [s0,i]) ρ=D'.nx (ρ.set j ⇑(.lst [s0,s])):=Iw ⋯ (by show(1:Int)<2;decide)
def rX(j:Nat)(D:Ends)(q:FL.D)(s:S)(o:Option S)(ρ:Env):Prop:=match o with
 |some (.dct t ks l)=>bP t q=true/\ks.Nodup/\ks.length<big/\D.nx (ρ.set j ⇑(bW t ks l q s))
 |_=>False
def rY(j:Nat)(D:Ends)(x:R)(o:Option FL.D)(p:Option (S×Env)):Prop:=zx o λq=>zx p λp=>match x with
 |.loc k=>k=j/\rX j D q p.1 (slot p.2 j) p.2
 |_=>False
def rZ(j:Nat)(D:Ends)(r x:R):WQ:=λy ρ=>rY j D x (view y ρ) (give r ρ)
def sA(j:Nat)(i:WE)(D:Ends)(r:R):WQ:=λx ρ=>i ρ (rZ j D r x) D.ex
def sC(j:Nat)(i:WE)(D:Ends):WQ:=λr ρ=>zt j ρ (sA j i D r) D.ex
theorem e_Dp:nB j a b D' ρ=b ρ (sC j a D') D'.ex:=by
 have e:(λ(r:R)(F:Env)=>zt j F (λx B=>a B (λy i=>zx (view y i) λq=>zx (give r i) λp=>match x,slot p.2 j with
  |.loc k,some (.dct t ks l)=>k=j/\bP t q=true/\ks.Nodup/\ks.length<big/\D'.nx (p.2.set j ⇑(bW t ks l q p.1))
  |_,_=>False) D'.ex) D'.ex)=sC j a D':=by
  funext r F
  unfold sC sA rZ rY rX;congr 1
  funext x B
  congr 1
  funext y i
  cases view y i with
  |none=>rfl
  |some q=>
   cases give r i with
   |none=>rfl
   |some p=>
    simp only[Fi];cases x with
    |v s=>cases slot p.2 j<;>rfl
    |loc k=>
     cases slot p.2 j with
     |none=>simp
     |some s=>
      cases s with
      |dct t ks l=>simp
      |_=>simp
 show congrArg (λz=>b ρ z D'.ex) e
def zsg:sC j a D' r ρ=zt j ρ (sA j a D' r) D'.ex:=rfl
def zqB:sA j a D' r x ρ=a ρ (rZ j D' r x) D'.ex:=rfl
def zsL:rZ j D' r x y ρ=rY j D' x (view y ρ) (give r ρ):=rfl
theorem zth:rY j D' (.loc j) ⇑q ⇑(s,ρ)=rX j D' q s (slot ρ j) ρ:=by show(j=j/\_)=_;simp
def zsO:rX j D' q s ⇑(.dct false ks l) ρ=(cR q=true/\ks.Nodup/\ks.length<big/\D'.nx (ρ.set j ⇑(bW false ks l q s))):=rfl
def wW(o:Option (List D))(ρ:Env)(Q:List D->Env->Prop):Prop:=zx o λl=>Q l ρ
def wX(o:Option (S×Env))(Q:List D->Env->Prop):Prop:=zx o λp=>wW (items p.1.toD) p.2 Q
def mx(Q:List D->Env->Prop):WQ:=λr ρ=>wX (give r ρ) Q
def e_It:bY a ρ QI E=a ρ (mx QI) E:=rfl
def ztL:mx QI r ρ=wX (give r ρ) QI:=rfl
def zr5:wX ⇑(s,ρ) QI=wW (items s.toD) ρ QI:=rfl
def zqV:wW ⇑l ρ QI=QI l ρ:=rfl
def zqK:items (.lst l)=⇑l:=rfl
def zsP:items (.tup l)=⇑l:=rfl
def xE(o:Option (List D))(ρ:Env)(Q:List D->Env->Prop):Prop:=zx o λl=>Q (cA 0 l) ρ
def xF(o:Option (S×Env))(Q:List D->Env->Prop):Prop:=zx o λp=>xE (items p.1.toD) p.2 Q
def ng(Q:List D->Env->Prop):WQ:=λr ρ=>xF (give r ρ) Q
def e_En:nA a ρ QI E=a ρ (ng QI) E:=rfl
def zs6:ng QI r ρ=xF (give r ρ) QI:=rfl
def zqQ:xF ⇑(s,ρ) QI=xE (items s.toD) ρ QI:=rfl
def zq5:xE ⇑l ρ QI=QI (cA 0 l) ρ:=rfl
def vV(o p:Option (List D))(ρ:Env)(Q:List D->Env->Prop):Prop:=zx o λl=>zx p λm=>Q (dN l m) ρ
def vW(s:S)(o:Option (S×Env))(Q:List D->Env->Prop):Prop:=zx o λq=>vV (items s.toD) (items q.1.toD) q.2 Q
def vX(t:R)(o:Option (S×Env))(Q:List D->Env->Prop):Prop:=zx o λp=>vW p.1 (give t p.2) Q
def vY(r:R)(Q:List D->Env->Prop):WQ:=λt ρ=>vX t (give r ρ) Q
def mi(b:WE)(Q:List D->Env->Prop)(E:WX):WQ:=λr ρ=>b ρ (vY r Q) E
def e_Zi:tU a b ρ QI E=a ρ (mi b QI E) E:=rfl
def zq4:mi b QI E r ρ=b ρ (vY r QI) E:=rfl
def zqZ:vY r QI x ρ=vX x (give r ρ) QI:=rfl
def zrI:vX x ⇑(s,ρ) QI=vW s (give x ρ) QI:=rfl
def ztl:vW s' ⇑(s,ρ) QI=vV (items s'.toD) (items s.toD) ρ QI:=rfl
def ztK{l m:List D}:vV ⇑l ⇑m ρ QI=QI (dN l m) ρ:=rfl
def wO(o:Option D)(Q:List D->Env->Prop)(ρ:Env):Prop:=match o with|some (.int j)=>(-big<=j/\j<=big)/\Q (fromTo 0 j.toNat) ρ|_=>False
def mr(Q:List D->Env->Prop):WQ:=λr ρ=>wO (view r ρ) Q ρ
def e_R1:aX a ρ QI E=a ρ (mr QI) E:=rfl
def zsY:mr QI r ρ=wO (view r ρ) QI ρ:=rfl
def zsp:wO ⇑(.int z) QI ρ=((-big<=z/\z<=big)/\QI (fromTo 0 z.toNat) ρ):=rfl
def wM(o p:Option D)(Q:List D->Env->Prop)(ρ:Env):Prop:=match o,p with|some (.int i),some (.int j)=>(-big<=i/\i<=big/\-big<=j/\j<=big)/\Q (fromTo i (j-i).toNat) ρ|_,_=>False
def wN(r:R)(Q:List D->Env->Prop):WQ:=λt ρ=>wM (view r ρ) (view t ρ) Q ρ
def mq(b:WE)(Q:List D->Env->Prop)(E:WX):WQ:=λr ρ=>b ρ (wN r Q) E
def e_R2:eO a b ρ QI E=a ρ (mq b QI E) E:=rfl
def zsF:mq b QI E r ρ=b ρ (wN r QI) E:=rfl
def zr6:wN r QI x ρ=wM (view r ρ) (view x ρ) QI ρ:=rfl
def zsN:wM ⇑(.int z) ⇑(.int i) QI ρ=((-big<=z/\z<=big/\-big<=i/\i<=big)/\QI (fromTo z (i-z).toNat) ρ):=rfl
def kFor(g:WG)(b:WS)(D:Ends):List FL.D->Env->Prop:=λl ρ=>bU g b l D ρ
def ztn:fH i g v D' ρ=i ρ (kFor g v D') D'.ex:=rfl
def zoh:kFor g v D' l ρ=bU g v l D' ρ:=rfl
def mf(g:WG)(b:WS)(xs:List FL.D)(D:Ends):Ends:={D with nx:=bU g b xs D,ct:=bU g b xs D,bk:=D.nx}
def zsl:bU g v [] D' ρ=D'.nx ρ:=rfl
def nW(n:Nat)(o:Option S)(ρ:Env)(Q:WQ):Prop:=zx o λs=>Q (.v s) (ρ.take n)
def nX(n:Nat)(Q:WQ):Env->Prop:=λρ=>nW n (slot ρ n) ρ Q
def rP(n:Nat)(E:WX):WX:=NX
def mw(n k:Nat)(g:WG)(c:WT)(b:WB)(Q:WQ)(E:WX):List D->Env->Prop:=λl ρ=>aU g c b l (ρ++⇑(.lst [])::List.replicate k none) (nX n Q) (rP n E)
def e_LC:iV n m i g c B ρ Q E=i ρ (mw n m g c B Q E) E:=rfl
def zsH:mw n m g c i Q E l ρ=aU g c i l (ρ++⇑(.lst [])::List.replicate m none) (nX n Q) (rP n E):=rfl
def zr4:nX n Q ρ=nW n (slot ρ n) ρ Q:=rfl
def zox:nW n ⇑s ρ Q=Q (.v s) (ρ.take n):=rfl
def rH(g:WG)(c:WT)(b:WB)(xs:List D)(Q:Env->Prop)(E:WX):Env->Prop:=λρ=>aU g c b xs ρ Q E
def vU(g:WG)(c:WT)(b:WB)(xs:List D)(Q:Env->Prop)(E:WX):Bool->Env->Prop:=λk ρ=>if k then b ρ (rH g c b xs Q E) E else aU g c b xs ρ Q E
def mh(g:WG)(c:WT)(b:WB)(xs:List D)(Q:Env->Prop)(E:WX):Env->Prop:=λρ=>c ρ (vU g c b xs Q E) E
def bw:aU g c i (d::xs) ρ QE E=g (.sh d) ρ (mh g c i xs QE E):=rfl
def zrw:mh g c i xs QE E ρ=c ρ (vU g c i xs QE E) E:=rfl
def zn8:vU g c i xs QE E true ρ=i ρ (rH g c i xs QE E) E:=rfl
def zsb:rH g c i xs QE E ρ=aU g c i xs ρ QE E:=rfl
def rV(n:Nat)(s:S)(o:Option S)(ρ:Env)(Q:Env->Prop):Prop:=match o with
 |some (.lst l)=>l.length<big/\Q (ρ.set n ⇑(.lst (l++[s])))
 |_=>False
def rW(n:Nat)(o:Option (S×Env))(Q:Env->Prop):Prop:=zx o λp=>rV n p.1 (slot p.2 n) p.2 Q
def kq(n:Nat)(Q:Env->Prop):WQ:=λr ρ=>rW n (give r ρ) Q
theorem e_Em:bQ n a ρ QE E=a ρ (kq n QE) E:=by unfold bQ kq rW rV;rfl
def zra:kq n QE r ρ=rW n (give r ρ) QE:=rfl
def zsh:rW n ⇑(s,ρ) QE=rV n s (slot ρ n) ρ QE:=rfl
def zsW:rV n s ⇑(.lst l) ρ QE=(l.length<big/\QE (ρ.set n ⇑(.lst (l++[s])))):=rfl
def zqG:dP ρ QT E=QT true ρ:=rfl
def xD(o:Option (List S))(P:S->List S->Prop)(s:S):Prop:=zx o λfs=>P s fs
def wL(n:Nat)(ss:List S)(P:S->List S->Prop)(i:Nat)(o:Option S)(ρ:Env):Prop:=zx o λs=>if i<n then xD (aC ss (ρ.set i ⇑(.sh s.toD))) P (.sh s.toD)else xD (aC ss ρ) P s
def fh(n:Nat)(ss:List S)(P:S->List S->Prop):WQ:=λr ρ=>match r with
 |.v s=>xD (aC ss ρ) P s
 |.loc i=>wL n ss P i (slot ρ i) ρ
def nk(n:Nat)(ss:List S)(P:S->List S->Prop)(PX:D->List S->Prop):Ends where
 nx:=λρ=>xD (aC ss ρ) P (.sh .non)
 rt:=fh n ss P
 bk:=λ_=>False
 ct:=λ_=>False
 ex:=λx ρ=>zx (aC ss ρ) λfs=>PX x fs
def AJ(B:ss.length=n)(F:((List.range ss.length).all λi=>↥(i∈ks))=true)(h:v (nk n ss P PX) (ss.map some++List.replicate (m-n) none)):fW n m ks v ss P PX:=by show#[B,λi s hi=>?_,h];let:=(qg.mp hi).1;show .inl (by simpa using qH.mp F i ↑this)
def zsy:(nk n ss P PX).rt=fh n ss P:=rfl
def e_Rt:fh n ss P (.v s) ρ=xD (aC ss ρ) P s:=rfl
def zq9:fh n ss P (.loc i) ρ=wL n ss P i (slot ρ i) ρ:=rfl
theorem zrF(h:¬i<n):wL n ss P i ⇑s ρ=xD (aC ss ρ) P s:=by show(if i<n then _ else _)=_;rw[q5 h]
def e_Fn:xD ⇑fs P s=P s fs:=rfl
def fA(s:S):Option (List S)->Option (List S)
 |some fs=>⇑(s::fs)
 |none=>none
theorem e_f0:aC [] ρ=⇑[]:=by cases ρ<;>rfl
theorem e_fs:aC (.sh d::ss) (o::ρ)=fA (.sh d) (aC ss ρ):=by show(aC ss ρ).map _=_;cases aC ss ρ<;>rfl
theorem e_fl:aC (.lst l::ss) (⇑s::ρ)=fA s (aC ss ρ):=by show(aC ss ρ).map _=_;cases aC ss ρ<;>rfl
def e_fA:fA s ⇑fs=⇑(s::fs):=rfl
def zrR:aI (.int i) (.int j)=⇑(.sh (.int (i+j))):=rfl
theorem zpr(h:x.length+y.length<=big):aI (.str x) (.str y)=⇑(.sh (.str (x++y))):=qZ h
theorem zpZ(h:l.length+m.length<=big):aI (.lst l) (.lst m)=⇑(.lst ((l++m).map .sh)):=qZ h
theorem zpH(h:l.length+m.length<=big):aI (.tup l) (.tup m)=⇑(.sh (.tup (l++m))):=qZ h
def zr3:dR (.int i) (.int j)=⇑(.sh (.int (i-j))):=rfl
theorem zoz(h:-(2^64)<i/\i<2^64):nR (.int i) (.int j)=⇑(.sh (.int (i*j))):=by show(if lM i j=true then _ else none)=_;rw[qZ (by simp only[lM,h.1,h.2,decide_true,Bool.and_self,Bool.true_or])]
theorem zqX(h:0<j):eR (.int i) (.int j)=⇑(.sh (.int (i %j))):=qZ h
theorem zoK(h:0<j)(h2:j<18446744073709551616):gM (.int i) (.int j)=⇑(.sh (.int (i/j))):=qZ #[h,h2]
theorem zrL(h:0<=j/\j<=1000/\i.natAbs<2^64):nQ (.int i) (.int j)=⇑(.sh (.int (i^j.toNat))):=qZ h
def zqF:cX (.int i)=⇑(.sh (.int (-i))):=rfl
def e_lt:yB (.int i) (.int j)=⇑↥(i<j):=rfl
def e_gt:oJ (.int i) (.int j)=⇑↥(j<i):=rfl
def e_le:fj (.int i) (.int j)=⇑↥(i<=j):=rfl
def e_ge:yC (.int i) (.int j)=⇑↥(j<=i):=rfl
theorem zqo:cS (.int i) (.int j)=⇑↥(i=j):=by unfold cS;rw[q5 (by show λz=>Bool.noConfusion (show false=true from z))];simp
theorem zqE:eG (.int i) (.int j)=⇑(!decide (i=j)):=by unfold eG;rw[zqo];rfl
theorem zpA:cS (.str x) (.str y)=⇑↥(x=y):=by unfold cS;rw[q5 (by show λz=>Bool.noConfusion (show false=true from z))];simp
theorem ztI:eG (.str x) (.str y)=⇑(!decide (x=y)):=by unfold eG;rw[zpA];rfl
def ztN:fO (.bl b)=⇑b:=rfl
def zn7:aQ [.str x]=⇑(.sh (.int x.length)):=rfl
def zpJ:aQ [.tup l]=⇑(.sh (.int l.length)):=rfl
def zoo:aQ [.lst l]=⇑(.sh (.int l.length)):=rfl
def zn1:gA [.bl b]=⇑(.sh (.int (if b then 1 else 0))):=rfl
def zou:cH [.lst l]=⇑(.sh (.tup l)):=rfl
theorem zqn(h:x.length<=big):iP [.str x]=⇑(.lst (x.map λc=>.sh (.str [c]))):=qZ h
def zss:jP (.str x) a b=⇑(.sh (.str (aO x a b))):=rfl
def zrJ:jP (.tup l) a b=⇑(.sh (.tup (aO l a b))):=rfl
def zty:jP (.lst l) a b=⇑(.lst ((aO l a b).map .sh)):=rfl
def zrT:zt 0 (⇑(.sh d)::ρ) Q E=Q (.v (.sh d)) (⇑(.sh d)::ρ):=rfl
def zsA:zt 0 (⇑(.lst l)::ρ) Q E=Q (.loc 0) (⇑(.lst l)::ρ):=rfl
def zsk:slot (v::ρ) 0=v:=rfl
def zrd:List.set (u::ρ) 0 v=v::ρ:=rfl
def zs9:zt 1 (s0::⇑(.sh d)::ρ) Q E=Q (.v (.sh d)) (s0::⇑(.sh d)::ρ):=rfl
def zqI:zt 1 (s0::⇑(.lst l)::ρ) Q E=Q (.loc 1) (s0::⇑(.lst l)::ρ):=rfl
def zs2:slot (s0::v::ρ) 1=v:=rfl
def zrM:List.set (s0::u::ρ) 1 v=s0::v::ρ:=rfl
def zsR:zt 2 (s0::i::⇑(.sh d)::ρ) Q E=Q (.v (.sh d)) (s0::i::⇑(.sh d)::ρ):=rfl
def zrr:zt 2 (s0::i::⇑(.lst l)::ρ) Q E=Q (.loc 2) (s0::i::⇑(.lst l)::ρ):=rfl
def zsS:zt 2 (s0::i::⇑(.dct t ks l)::ρ) Q E=Q (.loc 2) (s0::i::⇑(.dct t ks l)::ρ):=rfl
def zrZ:slot (s0::i::v::ρ) 2=v:=rfl
def ztb:List.set (s0::i::u::ρ) 2 v=s0::i::v::ρ:=rfl
def zrj:zt 3 (s0::B::i::⇑(.sh d)::ρ) Q E=Q (.v (.sh d)) (s0::B::i::⇑(.sh d)::ρ):=rfl
def ztv:zt 3 (s0::B::i::⇑(.lst l)::ρ) Q E=Q (.loc 3) (s0::B::i::⇑(.lst l)::ρ):=rfl
def ztG:slot (s0::B::i::v::ρ) 3=v:=rfl
def zta:List.set (s0::B::i::u::ρ) 3 v=s0::B::i::v::ρ:=rfl
def zrm:zt 4 (s0::F::B::i::⇑(.sh d)::ρ) Q E=Q (.v (.sh d)) (s0::F::B::i::⇑(.sh d)::ρ):=rfl
def zrc:zt 4 (s0::F::B::i::⇑(.lst l)::ρ) Q E=Q (.loc 4) (s0::F::B::i::⇑(.lst l)::ρ):=rfl
def zte:slot (s0::F::B::i::v::ρ) 4=v:=rfl
def zr7:List.set (s0::F::B::i::u::ρ) 4 v=s0::F::B::i::v::ρ:=rfl
def zrO:zt 5 (s0::G::F::B::i::⇑(.sh d)::ρ) Q E=Q (.v (.sh d)) (s0::G::F::B::i::⇑(.sh d)::ρ):=rfl
def zst:slot (s0::G::F::B::i::v::ρ) 5=v:=rfl
def ztA:List.set (s0::G::F::B::i::u::ρ) 5 v=s0::G::F::B::i::v::ρ:=rfl
def zs7:zt 6 (s0::I::G::F::B::i::⇑(.sh d)::ρ) Q E=Q (.v (.sh d)) (s0::I::G::F::B::i::⇑(.sh d)::ρ):=rfl
def ztz:zt 6 (s0::I::G::F::B::i::⇑(.lst l)::ρ) Q E=Q (.loc 6) (s0::I::G::F::B::i::⇑(.lst l)::ρ):=rfl
def zqJ:slot (s0::I::G::F::B::i::v::ρ) 6=v:=rfl
def zsz:List.set (s0::I::G::F::B::i::u::ρ) 6 v=s0::I::G::F::B::i::v::ρ:=rfl
def zqD:zt 7 (s0::J::I::G::F::B::i::⇑(.sh d)::ρ) Q E=Q (.v (.sh d)) (s0::J::I::G::F::B::i::⇑(.sh d)::ρ):=rfl
def zse:zt 7 (s0::J::I::G::F::B::i::⇑(.lst l)::ρ) Q E=Q (.loc 7) (s0::J::I::G::F::B::i::⇑(.lst l)::ρ):=rfl
def zqH:slot (s0::J::I::G::F::B::i::v::ρ) 7=v:=rfl
def ztu:List.set (s0::J::I::G::F::B::i::u::ρ) 7 v=s0::J::I::G::F::B::i::v::ρ:=rfl
def ztr:zt 8 (s0::L::J::I::G::F::B::i::⇑(.sh d)::ρ) Q E=Q (.v (.sh d)) (s0::L::J::I::G::F::B::i::⇑(.sh d)::ρ):=rfl
def zsx:List.set (s0::L::J::I::G::F::B::i::u::ρ) 8 v=s0::L::J::I::G::F::B::i::v::ρ:=rfl
def ztE:zt 9 (s0::M::L::J::I::G::F::B::i::⇑(.sh d)::ρ) Q E=Q (.v (.sh d)) (s0::M::L::J::I::G::F::B::i::⇑(.sh d)::ρ):=rfl
def zro:List.set (s0::M::L::J::I::G::F::B::i::u::ρ) 9 v=s0::M::L::J::I::G::F::B::i::v::ρ:=rfl
def zoj:zt 10 (s0::O::M::L::J::I::G::F::B::i::⇑(.sh d)::ρ) Q E=Q (.v (.sh d)) (s0::O::M::L::J::I::G::F::B::i::⇑(.sh d)::ρ):=rfl
def zoC:List.set (s0::O::M::L::J::I::G::F::B::i::u::ρ) 10 v=s0::O::M::L::J::I::G::F::B::i::v::ρ:=rfl
def zoi:slot (s0::U::O::M::L::J::I::G::F::B::i::v::ρ) 11=v:=rfl
def zqi:List.set (s0::U::O::M::L::J::I::G::F::B::i::u::ρ) 11 v=s0::U::O::M::L::J::I::G::F::B::i::v::ρ:=rfl
def zoT:zt 12 (s0::Y::U::O::M::L::J::I::G::F::B::i::⇑(.sh d)::ρ) Q E=Q (.v (.sh d)) (s0::Y::U::O::M::L::J::I::G::F::B::i::⇑(.sh d)::ρ):=rfl
def zoU:List.set (s0::Y::U::O::M::L::J::I::G::F::B::i::u::ρ) 12 v=s0::Y::U::O::M::L::J::I::G::F::B::i::v::ρ:=rfl
def zoL:jG o (.v (.sh p)) Q (.v (.sh q)) ρ=kV (o p q) Q ρ:=rfl
def zqm:hU i (.v (.sh p)) QT (.v (.sh q)) ρ=kC (i p q) QT ρ:=rfl
def zol:hU i (.v (.sh p)) QT (.v (.lst m)) ρ=jF i ⇑p ⇑(S.lst m).toD QT ρ:=rfl
def zpG:hU i (.v (.sh p)) QT (.loc k) ρ=jF i ⇑p (view (.loc k) ρ) QT ρ:=rfl
def zob:jG o (.v (.lst l)) Q (.v (.sh q)) ρ=lU o ⇑(S.lst l).toD ⇑q Q ρ:=rfl
def zpb:jG o (.v (.lst l)) Q (.v (.lst m)) ρ=lU o ⇑(S.lst l).toD ⇑(S.lst m).toD Q ρ:=rfl
def zp7:hU i (.loc j) QT (.v (.lst m)) ρ=jF i (view (.loc j) ρ) ⇑(S.lst m).toD QT ρ:=rfl
def zsn:fZ d (.lst l)=lX d (.lst l):=rfl
def zsQ:fZ d (.tup l)=lX d (.tup l):=rfl
def zqP:fZ d (.dct t ks vs)=lX d (.dct t ks vs):=rfl
def zp2:bT p q=(fZ p q).map (!·):=rfl
def xJ(j m:Nat)(l l':List S)(Q:WQ)(o:Option (S×Env)):Prop:=zx o λp=>l'.length<big/\Q (.v (.sh .non)) (p.2.set j ⇑(.lst (l.set m (.lst (l'++[p.1])))))
def xK(j m:Nat)(l l':List S)(Q:WQ):WQ:=λr ρ=>xJ j m l l' Q (give r ρ)
def bj(j m:Nat)(l:List S)(e:WE)(o:Option S)(ρ:Env)(Q:WQ)(E:WX):Prop:=match o with
 |some (.lst l')=>e (ρ.set j none) (xK j m l l' Q) E
 |_=>False
def sH(j:Nat)(e:WE)(n:Int)(l:List S)(ρ:Env)(Q:WQ)(E:WX):Prop:=zx (ixN l.length n) λm=>bj j m l e l[m]? ρ Q E
def xM(j:Nat)(e:WE)(o:Option D)(p:Option S)(ρ:Env)(Q:WQ)(E:WX):Prop:=match o,p with
 |some (.int n),some (.lst l)=>sH j e n l ρ Q E
 |_,_=>False
def xN(j:Nat)(e:WE)(Q:WQ)(E:WX):WQ:=λy ρ=>xM j e (view y ρ) (slot ρ j) ρ Q E
def nj(j:Nat)(o:Option S)(i e:WE)(ρ:Env)(Q:WQ)(E:WX):Prop:=match o with
 |some (.lst _)=>i ρ (xN j e Q E) E
 |_=>False
theorem e_AA:cV j a b ρ Q E=nj j (slot ρ j) a b ρ Q E:=by first|rfl|assumption|(simp_all;done)
def zr2{l:List S}:nj j ⇑(.lst l) a b ρ Q E=a ρ (xN j b Q E) E:=rfl
def zr8:xN j b Q E y ρ=xM j b (view y ρ) (slot ρ j) ρ Q E:=rfl
def zq8{n:Int}{l:List S}:xM j b ⇑(.int n) ⇑(.lst l) ρ Q E=sH j b n l ρ Q E:=rfl
def ztf{l l':List S}:xK j m l l' Q r ρ=xJ j m l l' Q (give r ρ):=rfl
def zr9{l l':List S}:xJ j m l l' Q ⇑(s,ρ)=(l'.length<big/\Q (.v (.sh .non)) (ρ.set j ⇑(.lst (l.set m (.lst (l'++[s])))))):=rfl
def Ks{z:Int}{l l':List S}(i:0<=z)(h1:l[z.toNat]?=⇑(.lst l')):sH j b z l ρ Q E=b (ρ.set j none) (xK j z.toNat l l' Q) E:=by let:z.toNat<l.length:=(qg.mp h1).1;unfold sH ixN;rw[qZ i,qZ ∅,Fi,h1];rfl
def xC(Q:WQ)(o:Option (S×Env)):Prop:=zx o λp=>Q (.v (.sh p.1.toD)) p.2
def mz(Q:WQ):WQ:=λr ρ=>xC Q (give r ρ)
def zsc:bV a ρ Q E=a ρ (mz Q) E:=rfl
def zqf:mz Q r ρ=xC Q (give r ρ):=rfl
def zoR:xC Q ⇑(s,ρ)=Q (.v (.sh s.toD)) ρ:=rfl
def oA(i:Nat)(D:Ends)(o:Option S)(ρ:Env):Prop:=zx o λs=>D.nx (ρ.set i ⇑(.sh s.toD))
def bf(i:Nat)(D:Ends):Env->Prop:=λρ=>oA i D (slot ρ i) ρ
def ztF:yI i v D' ρ=v (pD D' (bf i D')) ρ:=rfl
def zpB:bf i D' ρ=oA i D' (slot ρ i) ρ:=rfl
def zpt:oA i D' ⇑s ρ=D'.nx (ρ.set i ⇑(.sh s.toD)):=rfl
def zqM{z:Int}:sW (.dct false ks vs) (.int z)=⇑(lk ks vs (.int z)):=rfl
def zs3:sW (.dct false ks vs) (.str u)=⇑(lk ks vs (.str u)):=rfl
def wA(o:Option (Option D))(Q:WQ)(ρ:Env):Prop:=zx o λo=>zx o λe=>Q (.v (.sh e)) ρ
def wD(o p:Option D)(Q:WQ)(ρ:Env):Prop:=zx o λd=>zx p λq=>wA (sW d q) Q ρ
def wF(x:R)(Q:WQ):WQ:=λy ρ=>wD (zO x ρ) (view y ρ) Q ρ
def au(b:WE)(Q:WQ)(E:WX):WQ:=λx ρ=>b ρ (wF x Q) E
def e_XA:mD a b ρ Q E=a ρ (au b Q E) E:=rfl
def ztd:au b Q E x ρ=b ρ (wF x Q) E:=rfl
def zrN:wF x Q y ρ=wD (zO x ρ) (view y ρ) Q ρ:=rfl
def zqS:wD ⇑d ⇑q Q ρ=wA (sW d q) Q ρ:=rfl
def zr1:wA ⇑⇑d Q ρ=Q (.v (.sh d)) ρ:=rfl
theorem zhO:vC ⇑(.dct t ks (vs.map S.sh))=⇑(.dct t ks vs):=by show(if(vs.map S.sh).all S.isSh=true then ⇑(S.toD (.dct t ks (vs.map S.sh)))else none)=_;rw[qZ e_sh,S.toD_dct,zax]
def mv(Q:WQ):List D->Env->Prop:=λl ρ=>l.length<=big/\Q (.v (.lst (l.map .sh))) ρ
def e_LI:gH i ρ Q E=i ρ (mv Q) E:=rfl
def zsM:mv Q l ρ=(l.length<=big/\Q (.v (.lst (l.map .sh))) ρ):=rfl
def rJ(o:Option D)(Q:WQ)(ρ:Env):Prop:=zx o λd=>match d with
 |.tup l=>l.length<=big/\Q (.v (.sh (.tup l.reverse))) ρ
 |_=>False
def kh(Q:WQ):WQ:=λr ρ=>rJ (zO r ρ) Q ρ
theorem e_TR:gD a ρ Q E=a ρ (kh Q) E:=by unfold gD kh rJ;rfl
def zrv:kh Q r ρ=rJ (zO r ρ) Q ρ:=rfl
def zsa:rJ ⇑(.tup l) Q ρ=(l.length<=big/\Q (.v (.sh (.tup l.reverse))) ρ):=rfl
def zqp{z i:Int}:cN (.int z) (.int i)=nR (.int z) (.int i):=rfl
theorem uB{w v:WB}(h:w=v)(ρ:Env)(Q:Env->Prop)(E:WX):w ρ Q E=v ρ Q E:=by rw[h]
theorem uS{w v:WS}(h:w=v)(D':Ends)(ρ:Env):w D' ρ=v D' ρ:=by rw[h]
def nh(s0:S)(n k:Nat)(g:WG)(c:WT)(b:WB)(Q:WQ)(E:WX):List D->Env->Prop:=λl ρ=>aU g c b l (ρ++⇑s0::List.replicate k none) (nX n Q) (rP n E)
def e_CM:gp s0 n m i g c B ρ Q E=i ρ (nh s0 n m g c B Q E) E:=rfl
def zrs:nh s0 n m g c i Q E l ρ=aU g c i l (ρ++⇑s0::List.replicate m none) (nX n Q) (rP n E):=rfl
def rK(n:Nat)(q:D)(s:S)(o:Option S)(ρ:Env)(Q:Env->Prop):Prop:=match o with
 |some (.dct t ks l)=>bP t q=true/\ks.Nodup/\ks.length<big/\Q (ρ.set n ⇑(bW t ks l q s))
 |_=>False
def rL(n:Nat)(o:Option D)(p:Option (S×Env))(Q:Env->Prop):Prop:=zx o λq=>zx p λp=>rK n q p.1 (slot p.2 n) p.2 Q
def rM(n:Nat)(x:R)(Q:Env->Prop):WQ:=λy ρ=>rL n (view x ρ) (give y ρ) Q
def ki(n:Nat)(e:WE)(Q:Env->Prop)(E:WX):WQ:=λx ρ=>e ρ (rM n x Q) E
theorem e_Pu:mH n a b ρ QE E=a ρ (ki n b QE E) E:=by unfold mH ki rM rL rK;rfl
def zrK:ki n b QE E x ρ=b ρ (rM n x QE) E:=rfl
def zqN:rM n x QE y ρ=rL n (view x ρ) (give y ρ) QE:=rfl
def zq1:rL n ⇑q ⇑(s,ρ) QE=rK n q s (slot ρ n) ρ QE:=rfl
def zr0:rK n q s ⇑(.dct t ks l) ρ QE=(bP t q=true/\ks.Nodup/\ks.length<big/\QE (ρ.set n ⇑(bW t ks l q s))):=rfl
theorem znB{x:List D}(h:0<=z/\z<=1000/\x.length<=500):gL (.lst x) (.int z)=⇑(.lst ((List.replicate z.toNat x).flatten.map .sh)):=qZ h
section
variable{ρ:Env}{Q:WQ}{QE:Env->Prop}{E:WX}{a b:WE}{x y r:R}{s:S}{q d:D}{n m j:Nat}{l:List D}
def kK(f:List D->List D->Option S)(l:List D)(Q:WQ):List R->Env->Prop:=λi ρ=>oE (f l) (fJ i ρ) Q ρ
def ko(f:List D->List D->Option S)(wa:WA)(Q:WQ)(E:WX):WQ:=λx ρ=>match x with
 |.v (.sh (.lst l))=>wa ρ (kK f l Q) E
 |_=>False
theorem e_ML{f:List D->List D->Option S}{wa:WA}:dt f a wa ρ Q E=a ρ (ko f wa Q E) E:=by unfold dt ko kK oE kV;simp only[DK];all_goals rfl
def zq0{f:List D->List D->Option S}{wa:WA}:ko f wa Q E (.v (.sh (.lst l))) ρ=wa ρ (kK f l Q) E:=rfl
def zsX{f:List D->List D->Option S}{rs:List R}:kK f l Q rs ρ=oE (f l) (fJ rs ρ) Q ρ:=rfl
theorem zd9{k:Nat}(h:oG l q=⇑k):dB l [q]=⇑(.sh (.int k)):=by show(oG l q).map _=_;rw[h];rfl
variable{fr:D->Option S}
variable{c:WE}{QI:List D->Env->Prop}
end
section
variable{ρ:Env}{Q:WQ}{E:WX}{D':Ends}{a:WE}{v w:WS}{x:R}{j:Nat}{c:List Nat}{cs kn yes fs:List (List Nat)}{vs:List D}{d:D}
def ztq{ms:List Bool}{rs:List R}{ss:List S}:xI ms rs ρ E d ss=E d (back ms rs ss ρ):=rfl
def av(c f:List Nat)(D:Ends):WQ:=λr ρ=>fg c f D ρ (view r ρ)
def e_Rz{f:List Nat}:iG c f a D' ρ=a ρ (av c f D') D'.ex:=rfl
def zrA{f:List Nat}:av c f D' x ρ=fg c f D' ρ (view x ρ):=rfl
def ztM{f:List Nat}{i:Int}:fg c f D' ρ ⇑(.int i)=D'.ex (.exc c [f] [.int i]) ρ:=rfl
def vZ(kn:List (List Nat))(f:List Nat)(o:Option D)(Q:WQ)(ρ:Env):Prop:=zx o λd=>zx (tM kn f d) λv=>Q (.v (.sh v)) ρ
def mj(kn:List (List Nat))(f:List Nat)(Q:WQ):WQ:=λx ρ=>vZ kn f (view x ρ) Q ρ
def e_XF{f:List Nat}:iZ kn f a ρ Q E=a ρ (mj kn f Q) E:=rfl
def zq3{f:List Nat}:mj kn f Q x ρ=vZ kn f (view x ρ) Q ρ:=rfl
theorem zsv{f g:List Nat}(h:(kn.contains c&&g==f)=true):vZ kn f ⇑(.exc c [g] [d]) Q ρ=Q (.v (.sh d)) ρ:=by show zx (if(kn.contains c&&g==f)=true then ⇑d else none) _=_;rw[qZ h];rfl
def tL(j:Nat)(D:Ends):Ends:={nx:=λi=>D.nx (i.set j none),rt:=λ_ _=>False,bk:=λ_=>False,ct:=λ_=>False,ex:=NX}
def mO(cs:List (List Nat))(j:Nat)(w:WS)(D:Ends):Ends:={D with ex:=λd ρ=>fu cs d/\w (tL j D) (ρ.set j ⇑(.sh d))}
def zpU:iF cs j v w D' ρ=v (mO cs j w D') ρ:=rfl
def znf:(mO cs j w D').rt=D'.rt:=rfl
theorem zmV(h:cs.contains c=true):(mO cs j w D').ex (.exc c fs vs) ρ=w (tL j D') (ρ.set j ⇑(.sh (.exc c fs vs))):=by
 show(fu cs _/\w _ _)=_;let:fu cs (.exc c fs vs):=#[c,↑h,fs,vs,rfl]
 simp only[this,true_and]
def znu:(tL j D').nx ρ=D'.nx (ρ.set j none):=rfl
def nZ(kn yes:List (List Nat))(o:Option D)(Q:WQ)(ρ:Env):Prop:=zx o λd=>zx (tX kn yes d) λb=>Q (.v (.sh (.bl b))) ρ
def az(kn yes:List (List Nat))(Q:WQ):WQ:=λx ρ=>nZ kn yes (view x ρ) Q ρ
def zrX:jA kn yes a ρ Q E=a ρ (az kn yes Q) E:=rfl
def zpL:az kn yes Q x ρ=nZ kn yes (view x ρ) Q ρ:=rfl
theorem zqj(h:kn.contains c=true):nZ kn yes ⇑(.exc c fs vs) Q ρ=Q (.v (.sh (.bl (yes.contains c)))) ρ:=by show zx (if kn.contains c then ⇑(yes.contains c)else none) _=_;rw[qZ h];rfl
end
section
variable{ρ:Env}{Q:WQ}{E:WX}{a:WE}{r:R}{j:Nat}{d:D}{l:List D}{x:List Nat}{s:S}{o:Option S}
def xA(o:Option FL.D)(ρ:Env)(Q:WQ):Prop:=zx o λv=>Q (.v (.sh v)) ρ
def xB(l:List (List Nat×List Nat))(o:Option FL.D)(ρ:Env)(Q:WQ):Prop:=zx o λq=>xA (xO l q) ρ Q
def bc(l:List (List Nat×List Nat))(Q:WQ):WQ:=λy ρ=>xB l (view y ρ) ρ Q
def e_GI{l:List (List Nat×List Nat)}{a:WE}{ρ:Env}{Q:WQ}{E:WX}:pE l a ρ Q E=a ρ (bc l Q) E:=rfl
def zsd{l:List (List Nat×List Nat)}{y:R}{ρ:Env}{Q:WQ}:bc l Q y ρ=xB l (view y ρ) ρ Q:=rfl
def zq7{l:List (List Nat×List Nat)}{q:FL.D}{ρ:Env}{Q:WQ}:xB l ⇑q ρ Q=xA (xO l q) ρ Q:=rfl
def zsU{v:FL.D}{ρ:Env}{Q:WQ}:xA ⇑v ρ Q=Q (.v (.sh v)) ρ:=rfl
def rT(l:List (List Nat×List Nat))(b:Bool)(o:Option FL.D)(ρ:Env)(Q:Bool->Env->Prop):Prop:=match o with
 |some (.str q)=>Q (b==(l.lookup q).isSome) ρ
 |_=>False
def wZ(l:List (List Nat×List Nat))(b:Bool)(Q:Bool->Env->Prop):WQ:=λy ρ=>rT l b (view y ρ) ρ Q
theorem e_GT{l:List (List Nat×List Nat)}{b:Bool}{a:WE}{ρ:Env}{Q:Bool->Env->Prop}{E:WX}:iX l b a ρ Q E=a ρ (wZ l b Q) E:=by
 unfold iX wZ;congr 1
 funext y ρ1
 unfold rT;cases view y ρ1 with
 |none=>rfl
 |some q=>cases q<;>rfl
def ztC{l:List (List Nat×List Nat)}{b:Bool}{y:R}{ρ:Env}{Q:Bool->Env->Prop}:wZ l b Q y ρ=rT l b (view y ρ) ρ Q:=rfl
def ztc{l:List (List Nat×List Nat)}{b:Bool}{q:List Nat}{ρ:Env}{Q:Bool->Env->Prop}:rT l b ⇑(.str q) ρ Q=Q (b==(l.lookup q).isSome) ρ:=rfl
def rN(f:List FL.D->List FL.D->Option S)(wa:WA)(o:Option FL.D)(Q:WQ)(E:WX)(ρ:Env):Prop:=match o with
 |some (.tup l)=>wa ρ (kK f l Q) E
 |_=>False
def kl(f:List FL.D->List FL.D->Option S)(wa:WA)(Q:WQ)(E:WX):WQ:=λx ρ=>rN f wa (zO x ρ) Q E ρ
theorem e_MT{f:List FL.D->List FL.D->Option S}{a:WE}{wa:WA}{ρ:Env}{Q:WQ}{E:WX}:dr f a wa ρ Q E=a ρ (kl f wa Q E) E:=by unfold dr kl rN kK oE kV;simp only[DK];all_goals rfl
def zrl{f:List FL.D->List FL.D->Option S}{wa:WA}{x:R}{ρ:Env}{Q:WQ}{E:WX}:kl f wa Q E x ρ=rN f wa (zO x ρ) Q E ρ:=rfl
def zrQ{f:List FL.D->List FL.D->Option S}{wa:WA}{l:List FL.D}{ρ:Env}{Q:WQ}{E:WX}:rN f wa ⇑(.tup l) Q E ρ=wa ρ (kK f l Q) E:=rfl
end
theorem znV{x:List Nat}{c:Nat}(h:x.length<=big):fK x [.str [c]]=⇑(.lst ((aA c x).map λp=>S.sh (.str p))):=qZ h
def sg(c:Nat):D:=.str [c]
def Oq(l:List Nat):cL (l.map sg)=⇑(l.map λc=>[c]):=by let:=La (l.map λc=>[c]);rw[qD]at this;show this
def Kt:∀l:List Nat,((l.map λc=>[c]).map List.length).sum=l.length
 |[]=>rfl
 |c::l=>by let:=Kt l;simp at this⊢;lia
def KL:∀l:List Nat,(l.map λc=>[c]).flatten=l
 |[]=>rfl
 |c::l=>by let:=KL l;simp;rw[this]
def Jc(h:l.length<=big):bF [] [.lst (l.map sg)]=⇑(.sh (.str l)):=by show(cL (l.map sg)).bind _=_;grind[Oq,List.length,big,aM,Kt,Lp,KL]
def pF:D->Nat
 |.str [c]=>c
 |_=>0
def NP(h:l.Perm (A.map sg)):∃i:List Nat,i.Perm A/\l=i.map sg:=by
 show#[l.map pF,?_,?_]
 .let:=h.map pF;rw[qD]at this;let e:(pF∘sg)=id:=funext λc=>rfl;rw[e,map_id]at this;show this
 .rw[qD];let:∀d∈l,(sg∘pF) d=id d:=λd B=>by let#[c,_,rfl]:=qJ.mp (h.mem_iff.mp B);rfl
  rw[map_congr_left this,map_id]
def bS:big=1000000:=rfl
def Ca:(fromTo lo n).length=n:=by simp[fromTo]
def TN{l:List D}{k:Nat}(h:l[k]?=⇑d):(l.map S.sh)[k]?=⇑(.sh d):=by rw[qE,h];rfl
def Dd{α β:Type}{f:α->β}{l:List α}{z:Int}(B:0<=z)(h1:z<l.length):∃v,v∈l/\l[z.toNat]?=⇑v/\atI (l.map f) z=⇑(f v):=by
 let i:z.toNat<l.length:=∅
 show#[l[z.toNat],getElem_mem i,getElem?_eq_getElem i,Bf B (by rw[qE,getElem?_eq_getElem i];rfl)]
def Dx(B:0<=z)(h1:z<l.length):∃v,v∈l/\l[z.toNat]?=⇑v/\atI l z=⇑v:=by
 let i:z.toNat<l.length:=∅
 show#[l[z.toNat],getElem_mem i,getElem?_eq_getElem i,Bf B (getElem?_eq_getElem i)]
def Hj{α β:Type}{f:α->β}:∀(l:List α)(k:Nat),(l.map f).eraseIdx k=(l.eraseIdx k).map f
 |[],_=>rfl
 |_::_,0=>rfl
 |x::l,k+1=>by show f x::(l.map f).eraseIdx k=f x::(l.eraseIdx k).map f;rw[Hj l k]
def EV(f:α->β)(l:List α)(a b:Option Int):aO (l.map f) a b=(aO l a b).map f:=by unfold aO;simp_all
def EZ(l:List α)(a b:Option Int):(aO l a b).length<=l.length:=by unfold aO;rw[qG,qF];show le_trans (min_le_right ..) (sub_le ..)
def DW(h:x∈aO l a b):x∈l:=by show List.mem_of_mem_drop (mem_of_mem_take h)
def EJ(l:List α){k:Int}(i:0<=k)(h1:k<=l.length):aO l none ⇑k=l.take k.toNat:=by unfold aO sIx;grind
def Dg(l:List α)(i:0<=k):aO l ⇑k none=l.drop k.toNat:=by
 unfold aO sIx;let:¬k<0:=∅
 simp[q5 this];by_cases h:k.toNat<=l.length
 .rw[min_eq_left h,take_of_length_le];rw[qF];lia
 .let h2:l.length<=k.toNat:=by lia
  rw[min_eq_right h2,drop_of_length_le (q8 _),drop_of_length_le h2,take_nil]
def Hf:∀l:List Int,aZ (l.map D.int)=0
 |[]=>rfl
 |z::l=>by show max (fC (.int z)) (aZ (l.map D.int))=0;rw[Hf l];rfl
def MR(l:List Bool):sJ [.lst (l.map D.bl)]=⇑(.sh (.bl (l.all id))):=by show(hW (l.map D.bl)).map _=_;rw[Tb];rfl
def LL{α:Type}:∀(l:List α)(i:Nat)(h:i<l.length),(l[i]::l.eraseIdx i).Perm l
 |x::l,0,_=>List.Perm.refl _
 |x::l,i+1,h=>by
  let hi:i<l.length:=↑h
  show(List.Perm.swap x l[i] _).trans (List.Perm.cons x (LL l i hi))
def rF(b:WB)(K:Env->Prop)(E:WX):Bool->Env->Prop:=λk ρ=>if k then b ρ K E else K ρ
def rG(c:WT)(b:WB)(K:Env->Prop)(E:WX):Env->Prop:=λρ=>c ρ (rF b K E) E
def fF:rG c b K E ρ=c ρ (rF b K E) E:=rfl
def mL:rF b K E true ρ=b ρ K E:=rfl
def lz:rF b K E false ρ=K ρ:=rfl
def ID{α:Type}{toD:α->D}(I:List α->Env->Prop)(xs:List α)
  (step:∀(B:List α)(x:α)(i:List α)(K:Env->Prop)(ρ:Env),B++x::i=xs->I B ρ->(∀ρ',I (B++[x]) ρ'->K ρ')->g (.sh (toD x)) ρ (rG c b K E))
  (G:∀ρ,I xs ρ->Q ρ)(L:I [] ρ):aU g c b (xs.map toD) ρ Q E:=by
 have F:∀(i B:List α)(ρ:Env),B++i=xs->I B ρ->aU g c b (i.map toD) ρ Q E:=by
  intro i;induction i with
  |nil=>intro B ρ e h;rw[qz]at e;subst e;show G ρ h
  |cons x i J=>intro B ρ e h;show step B x i (rH g c b (i.map toD) Q E) ρ e h λρ' h'=>J (B++[x]) ρ' (by rw[<-e];simp) h'
 show F xs [] ρ rfl L
def BQ{α:Type}{toD:α->D}(I:List α->Env->Prop)(xs:List α)
  (step:∀(B:List α)(x:α)(i:List α)(F:Ends)(ρ:Env),B++x::i=xs->I B ρ->(∀ρ',I (B++[x]) ρ'->F.nx ρ')->(∀ρ',I (B++[x]) ρ'->F.ct ρ')->F.rt=D'.rt->F.bk=D'.nx->g (.sh (toD x)) ρ (λρ=>b F ρ))
  (J:∀ρ,I xs ρ->D'.nx ρ)(M:I [] ρ):bU g b (xs.map toD) D' ρ:=by
 have G:∀(i B:List α)(ρ:Env),B++i=xs->I B ρ->bU g b (i.map toD) D' ρ:=by
  intro i;induction i with
  |nil=>intro B ρ e h;rw[qz]at e;subst e;show J ρ h
  |cons x i L=>intro B ρ e h;let k:=λρ' h'=>L (B++[x]) ρ' (by rw[<-e];simp) h';show step B x i (mf g b (i.map toD) D') ρ e h k k rfl rfl
 show G xs [] ρ rfl M
def Ir{α:Type}{toD:α->D}(I:List α->List S->Env->Prop)(xs:List α)
  (step:∀(B:List α)(x:α)(F:List α)(l:List S)(ρ:Env)(vs:List (Option S))(K:Env->Prop),B++x::F=xs->vs.length=k->I B l ρ->(∀l' ρ1 i,i.length=k->I (B++[x]) l' ρ1->K (ρ1++⇑(.lst l')::i))->g (.sh (toD x)) (ρ++⇑(.lst l)::vs) (rG c b K E))
  (O:∀l ρ vs,vs.length=k->I xs l ρ->Q (ρ++⇑(.lst l)::vs))(U:vs.length=k)(h0:I [] [] ρ):aU g c b (xs.map toD) (ρ++⇑(.lst [])::vs) Q E:=by
 show ID (λB G=>∃l ρ1 i,i.length=k/\I B l ρ1/\G=ρ1++⇑(.lst l)::i) xs (λB x F K G e M Y=>?_) (λG M=>?_) #[[],ρ,vs,U,h0,rfl]
 .obtain⟨l,ρ1,i,h1,h2,rfl⟩:=M;show step B x F l ρ1 i K e h1 h2 λl' J L h3 Z=>Y _ #[l',J,L,h3,Z,rfl]
 .obtain⟨l,ρ1,i,h1,h2,rfl⟩:=M;show O l ρ1 i h1 h2
def Iy{α:Type}{toD:α->D}(xs:List α)(h:α->Option S)
  (step:∀x∈xs,∀(l:List S)(vs:List (Option S))(K:Env->Prop),vs.length=k->l.length<xs.length->(∀i,i.length=k->K (ρ++⇑(.lst (l++(h x).toList))::i))->g (.sh (toD x)) (ρ++⇑(.lst l)::vs) (rG c b K E))
  (G:∀vs,vs.length=k->Q (ρ++⇑(.lst (xs.filterMap h))::vs))(J:vs.length=k):aU g c b (xs.map toD) (ρ++⇑(.lst [])::vs) Q E:=by
 show Ir (λB l F=>F=ρ/\l=B.filterMap h) xs (λB x I l F vs K e h1 h2 M=>?_) (λl F vs h1 h2=>?_) J #[rfl,rfl]
 .obtain⟨rfl,rfl⟩:=h2;let L:(B.filterMap h).length<xs.length:=by let:=List.length_filterMap_le h B;rw[<-e];simp;lia
  show step x (by rw[<-e];simp) _ vs K h1 L λi O=>M _ _ i O #[rfl,?_];cases q:h x<;>simp[q]
 .obtain⟨rfl,rfl⟩:=h2;show G vs h1
def Bk{vs:List (Option S)}(h:vs.length=1):∃a,vs=[a]:=by
 match vs,h with
 |[a],_=>show#[a,rfl]
def Cu{vs:List (Option S)}(h:vs.length=2):∃a b,vs=[a,b]:=by
 match vs,h with
 |[a,b],_=>show#[a,b,rfl]
section
variable{α:Type}
def HN(xs:List α)(h:α->Option S)
  (step:∀x∈xs,∀(l:List S)(o:Option S)(K:Env->Prop),l.length<xs.length->(∀o,K (ρ.take n++[⇑(.lst (l++(h x).toList)),o]))->zw (n+1) (.sh (toD x)) (ρ.take n++[⇑(.lst l),o]) (rG c b K E))
  (B:∀o,Q (ρ.take n++[⇑(.lst (xs.filterMap h)),o]))(e:autoParam (ρ=ρ.take n++[⇑(.lst []),J]) rZ9):aU (zw (n+1)) c b (xs.map toD) ρ Q E:=by
 rw[e];show Iy (k:=1) xs h (λx F l vs K i G I=>?_) (λvs i=>?_) rfl
 .obtain⟨a,rfl⟩:=Bk i;show step x F l a K G λo=>I [o] rfl
 .obtain⟨a,rfl⟩:=Bk i;show B a
def VN(xs:List α)(h:α->Option S)
  (step:∀x∈xs,∀(l:List S)(o o':Option S)(K:Env->Prop),l.length<xs.length->(∀o o',K (ρ.take n++[⇑(.lst (l++(h x).toList)),o,o']))->eM [zw (n+1),zw (n+2)] (.sh (toD x)) (ρ.take n++[⇑(.lst l),o,o']) (rG c b K E))
  (B:∀o o',Q (ρ.take n++[⇑(.lst (xs.filterMap h)),o,o']))(e:autoParam (ρ=ρ.take n++[⇑(.lst []),M,L]) rZ9):aU (eM [zw (n+1),zw (n+2)]) c b (xs.map toD) ρ Q E:=by
 rw[e];show Iy (k:=2) xs h (λx G l vs K i I J=>?_) (λvs i=>?_) rfl
 .obtain⟨a,F,rfl⟩:=Cu i;show step x G l a F K I λo o'=>J [o,o'] rfl
 .obtain⟨a,F,rfl⟩:=Cu i;show B a F
def HM(xs:List α)(h:α->S)
  (step:∀x∈xs,∀(l:List S)(o:Option S)(K:Env->Prop),l.length<xs.length->(∀o,K (ρ.take n++[⇑(.lst (l++[h x])),o]))->zw (n+1) (.sh (toD x)) (ρ.take n++[⇑(.lst l),o]) (rG c b K E))
  (i:∀o,Q (ρ.take n++[⇑(.lst (xs.map h)),o]))(e:autoParam (ρ=ρ.take n++[⇑(.lst []),B]) rZ9):aU (zw (n+1)) c b (xs.map toD) ρ Q E:=
 HN xs (λx=>⇑(h x)) step (λo=>by rw[show(xs.filterMap λx=>⇑(h x))=xs.map h from List.filterMap_eq_map▸rfl];show i o) e
def HL(xs:List α)(h:α->S)
  (step:∀x∈xs,∀(l:List S)(o o':Option S)(K:Env->Prop),l.length<xs.length->(∀o o',K (ρ.take n++[⇑(.lst (l++[h x])),o,o']))->eM [zw (n+1),zw (n+2)] (.sh (toD x)) (ρ.take n++[⇑(.lst l),o,o']) (rG c b K E))
  (i:∀o o',Q (ρ.take n++[⇑(.lst (xs.map h)),o,o']))(e:autoParam (ρ=ρ.take n++[⇑(.lst []),F,B]) rZ9):aU (eM [zw (n+1),zw (n+2)]) c b (xs.map toD) ρ Q E:=
 VN xs (λx=>⇑(h x)) step (λo o'=>by rw[show(xs.filterMap λx=>⇑(h x))=xs.map h from List.filterMap_eq_map▸rfl];show i o o') e
end
def Mb{β:Type}(i:β->S)(xs:List D)(I:Env->Prop)(P:β->Prop)
  (step:∀x∈xs,∀(ρ:Env)(A:List β)(o:Option S)(K:Env->Prop),I ρ->A.length<xs.length->(∀ρ1 y G,I ρ1->P y->K (ρ1++[⇑(.lst (A.map i++[i y])),G]))->zw (n+1) (.sh x) (ρ++[⇑(.lst (A.map i)),o]) (rG c b K E))
  (h5:∀ρ(A:List β) o,I ρ->A.length=xs.length->(∀y∈A,P y)->Q (ρ++[⇑(.lst (A.map i)),o]))(h0:I (ρ.take n))(e:autoParam (ρ=ρ.take n++[⇑(.lst []),M]) rZ9):aU (zw (n+1)) c b xs ρ Q E:=by
 rw[e];let:=Ir (toD:=λx:D=>x) (k:=1) (g:=zw (n+1)) (c:=c) (b:=b) (E:=E) (Q:=Q) (λF l B=>I B/\∃A:List β,l=A.map i/\A.length=F.length/\∀y∈A,P y) xs (λF x J l B vs K e h1 h2 U=>?_) (λl B vs h1 h2=>?_) (ρ:=ρ.take n) (vs:=[M]) rfl #[h0,[],rfl,rfl,λy O=>nomatch O]
 .rwa[List.map_id']at this
 .obtain⟨Y,A,rfl,L,hP⟩:=h2;let#[a,rfl]:=Bk h1;show step x (by rw[<-e];simp) B A a K Y (by rw[L,<-e];simp only[qp,qr];lia) λρ1 y G Z h4=>U _ ρ1 [G] rfl #[Z,A++[y],by simp,by simp[L],λz hz=>?_];grind
 grind[Bk]
def VM(I:Env->Prop)(xs:List D)
  (step:∀x∈xs,∀(i:Ends)(ρ:Env),I ρ->(∀ρ',I ρ'->i.nx ρ')->(∀ρ',I ρ'->i.ct ρ')->i.rt=D'.rt->i.bk=D'.nx->g (.sh x) ρ (λρ=>b i ρ))
  (L:∀ρ,I ρ->D'.nx ρ)(Y:I ρ):bU g b xs D' ρ:=by
 let:=BQ (toD:=λx:D=>x) (g:=g) (b:=b) (D':=D') (λ_ ρ=>I ρ) xs (λO x M i ρ e U F G B J=>step x (by rw[<-e];simp) i ρ U F G B J) L Y;rwa[List.map_id']at this
def VL(I:Nat->Env->Prop)(xs:List D)
  (step:∀(k:Nat)(x:D),xs[k]?=⇑x->∀(B:Ends)(ρ:Env),I k ρ->(∀ρ',I (k+1) ρ'->B.nx ρ')->(∀ρ',I (k+1) ρ'->B.ct ρ')->B.rt=D'.rt->B.bk=D'.nx->g (.sh x) ρ (λρ=>b B ρ))
  (M:∀ρ,I xs.length ρ->D'.nx ρ)(Y:I 0 ρ):bU g b xs D' ρ:=by
 let:=BQ (toD:=λx:D=>x) (g:=g) (b:=b) (D':=D') (λi ρ=>I i.length ρ) xs (λi x O B ρ e U G J F L=>step i.length x (by rw[<-e];simp) B ρ U (λρ' h=>G ρ' ↑h) (λρ' h=>J ρ' ↑h) F L) M Y;rwa[List.map_id']at this
def om:gX ((x::l).map D.int)=none:=rfl
def oo:gX ((x::l).map D.str)=none:=rfl
def Qa:∀l:List Int,∀d∈l.map D.int,tG d:=λl d i=>by let#[x,_,rfl]:=qJ.mp i;trivial
def Ke:∀l:List (List Nat),∀d∈l.map D.str,oQ d:=λl d i=>by let#[x,_,rfl]:=qJ.mp i;trivial
def Kc(i:l.length<64)(B:fP l=none)(F:(bZ l).isSome\/(cL l).isSome):cT [.lst l]=⇑(.lst ((cE l).map .sh)):=by
 show jD _=_;unfold jD;by_cases h2:l.length<2
 .rw[qZ h2];match l,h2 with
  |[],_=>rfl
  |[_],_=>rfl
  |_::_::_,h2=>simp at h2;lia
 .rw[q5 h2,B];unfold jC;rw[qZ #[i,F]]
def Uc{l:List Int}(i:l.length<64):cT [.lst (l.map .int)]=⇑(.lst ((cE (l.map .int)).map .sh)):=by
 show Kc ↑i ?_ (.inl (by rw[Hh];rfl));unfold fP;cases l with
 |nil=>rfl
 |cons x l=>rw[q5];rw[om];simp
def Uu{l:List (List Nat)}(i:l.length<64):cT [.lst (l.map .str)]=⇑(.lst ((cE (l.map .str)).map .sh)):=by
 show Kc ↑i ?_ (.inr (by rw[La];rfl));unfold fP;cases l with
 |nil=>rfl
 |cons x l=>rw[q5];rw[oo];simp
def Sh{l m:List Int}(i:l.length<64)(p:m.Perm l)(B:m.Pairwise (·<=·)):cT [.lst (l.map .int)]=⇑(.lst ((m.map .int).map .sh)):=by rw[Uc i,Dk EK (Qa l) (p.map _)];rw[pairwise_map];show B.imp λh=>↑h
def ME:([a]:List Nat)<[b]↔a<b:=by simp[List.cons_lt_cons_iff]
def NQ(h:A.length<64):∃i:List Nat,i.Perm A/\i.Pairwise (·<=·)/\cT [.lst (A.map sg)]=⇑(.lst ((i.map sg).map .sh)):=by
 let e:A.map sg=(A.map λc=>[c]).map D.str:=by rw[qD];rfl
 let#[i,G,F]:=NP (DR (A.map sg));show#[i,G,?_,?_]
 .let B:=Hr Gs (A.map sg) (by rw[e];show Ke _);rw[F,pairwise_map]at B;show B.imp λ{a b} h=>?_;let h':(!decide (([b]:List Nat)<[a]))=true:=by rw[<-JE];exact h
  grind[ME]
 .rw[e,Uu ↑h,<-e,F]
def SG{l:List Nat}(h:l.Pairwise (·<=·))(hn:l.Nodup):l.Pairwise (·<·):=by let:=h.and hn;show this.imp λ⟨h1,h2⟩=>∅
def MB(h:oQ x):(aT x (.str z)||↥(30<fC x))=false:=by
 cases x with
 |str i=>rfl
 |_=>show h.elim
def Lv{ns:List (List Nat)}:(if(ns.map D.str).any (λx=>aT x (.str z)||↥(30<fC x))then none else ⇑(open Classical in ↥(D.str z∈ns.map D.str)))=⇑↥(z∈ns):=by grind[mem_map,any_eq_true.mp,MB,Ke]
def DJ{ns:List (List Nat)}:lX (.str z) (.tup (ns.map D.str))=⇑↥(z∈ns):=Lv
def Qq{ns:List (List Nat)}:lX (.str z) (.lst (ns.map D.str))=⇑↥(z∈ns):=Lv
def Fz{α β:Type}(p:α->Bool)(f:α->β):∀l:List α,(l.filterMap λx=>if p x=true then ⇑(f x)else none)=(l.filter p).map f
 |[]=>rfl
 |x::l=>by let i:=Fz p f l;cases q:p x<;>simp[q,i]
def DX{α:Type}[DecidableEq α]:∀(l m:List α),l.Nodup->(∀x∈l,x∈m)->l.length<=m.length
 |[],m,_,_=>by simp
 |x::l,m,hn,hs=>by
  let#[h1,h2]:=qK.mp hn;let B:x∈m:=hs x (by simp);let:=DX l (m.erase x) h2 λy i=>by show(List.mem_erase_of_ne ?_).mpr (hs y (by simp[i]));intro z;subst z;show h1 i
  rw[List.length_erase_of_mem B]at this;let F:=List.length_pos_of_mem B;rw[qr];lia
def Hi:∀l:List (List Nat),aZ (l.map D.str)=0
 |[]=>rfl
 |z::l=>by show max (fC (.str z)) (aZ (l.map D.str))=0;rw[Hi l];rfl
def Rp:eG (.lst (l.map D.str)) (.lst [])=⇑(!decide (l=[])):=by
 unfold eG cS;rw[q5 (by
  let:fC (.lst (l.map D.str))=1:=by show aZ (l.map D.str)+1=1;rw[Hi]
  rw[this];cases l<;>show λz=>Bool.noConfusion (show false=true from z))]
 simp
def EO:∀l:List D,(∀d∈l,fC d<=n)->aZ l<=n
 |[],_=>zero_le _
 |d::l,h=>by show max (fC d) (aZ l)<=n;let h1:=h d (by simp);let h2:=EO l λx i=>h x (by simp[i]);lia
def Gc(h:aZ l<=29):eG (.lst l) (.lst [])=⇑(!l.isEmpty):=by
 unfold eG cS;rw[q5 (by
  let:fC (.lst l)=aZ l+1:=rfl;cases l with
  |nil=>show λz=>Bool.noConfusion (show false=true from z)
  |cons x l=>show λz=>absurd (qT (show ↥(30<aZ (x::l)+1)=true from z)) ∅)]
 cases l<;>simp
def Bh{α:Type}{l:List α}(h:l.length=n+1):∃a r,l=a::r/\r.length=n:=by
 cases l with
 |nil=>cases h
 |cons a r=>show#[a,r,rfl,Nat.succ.inj h]
def Hw{α:Type}{l:List α}(h:l.length=0):l=[]:=List.length_eq_zero_iff.mp h
def Bx{α:Type}{l:List α}(h:l.length=1):∃a,l=[a]:=by let#[a,r,rfl,k]:=Bh h;obtain rfl:=Hw k;show#[a,rfl]
def Bw{α:Type}{l:List α}(h:l.length=2):∃i a1,l=[i,a1]:=by let#[i,r,rfl,k]:=Bh h;let#[a1,rfl]:=Bx k;show#[i,a1,rfl]
def Co{α:Type}{l:List α}(h:l.length=3):∃i a1 a2,l=[i,a1,a2]:=by let#[i,r,rfl,k]:=Bh h;let#[a1,a2,rfl]:=Bw k;show#[i,a1,a2,rfl]
def Ec{α:Type}{l:List α}(h:l.length=4):∃B a1 a2 i,l=[B,a1,a2,i]:=by let#[B,r,rfl,k]:=Bh h;let#[a1,a2,i,rfl]:=Co k;show#[B,a1,a2,i,rfl]
abbrev Wd:=List Nat
def jQ(w:Wd)(i j:Nat):Wd:=(w.drop i).take (j-i)
def Gx(l:List α)(i j:Nat):aO l ⇑(i:Int) ⇑(j:Int)=(l.drop i).take (j-i):=by
 unfold aO sIx;let h1:¬(i:Int)<0:=∅
 let h2:¬(j:Int)<0:=∅
 simp[q5 h1,q5 h2,qV];by_cases hi:i<=l.length
 .rw[min_eq_left hi];by_cases B:j<=l.length
  .rw[min_eq_left B]
  .rw[take_of_length_le (by rw[qF];lia),take_of_length_le (by rw[qF];lia)]
 .rw[min_eq_right (a:=i) ∅,drop_of_length_le (i:=l.length) (q8 _),drop_of_length_le (i:=i) ∅,take_nil,take_nil]
def Jk(w:Wd)(i j:Nat):aO w ⇑(i:Int) ⇑(j:Int)=jQ w i j:=Gx w i j
def eJ(B:List Wd)(w:Wd)(i j:Nat):Bool:=↥(i<j)&&(↥(j<=w.length)&&↥(jQ w i j∈B))
theorem zaG:eJ B w i j=true↔i<j/\j<=w.length/\jQ w i j∈B:=by unfold eJ;simp
def jO(B:List Wd)(w:Wd)(p q:Nat):Bool:=eJ B w p q||eJ B w q p
def Gz:jO B w p q=jO B w q p:=by unfold jO;rw[Bool.or_comm]
def nb(B:List Wd)(w:Wd)(p:Nat):List Nat:=(List.range (w.length+1)).filter λq=>jO B w p q
theorem za2:q∈nb B w p↔jO B w p q=true:=by grind[nb,mem_filter,mem_range,jO,zaG]
theorem zdn:(nb B w p).Pairwise (·<·):=List.Pairwise.filter _ List.pairwise_lt_range
def Ds(h:q∈nb B w p):q<=w.length/\p<=w.length/\p≠q:=by grind[za2,jO,zaG]
abbrev Tr:=Nat×Nat×Nat
def uK(B:List Wd)(w:Wd)(i:Nat):List Tr:=(List.range (w.length+1)).filterMap λj=>if eJ B w i j=true then ⇑(i,j,B.idxOf (jQ w i j))else none
def uJ(B:List Wd)(w:Wd):List Tr:=(List.range w.length).flatMap (uK B w)
theorem zgG:t∈uK B w i↔t.1=i/\eJ B w i t.2.1=true/\t.2.2=B.idxOf (jQ w i t.2.1):=by
 unfold uK;rw[mem_filterMap];constructor
 .rintro⟨j,_,h⟩;split at h
  .rename_i F;cases h;show#[rfl,F,rfl]
  .cases h
 .rintro⟨h1,h2,G⟩;refine#[t.2.1,?_,?_]
  .rw[qI];let:=zaG.mp h2;lia
  .subst h1;rw[qZ h2,<-G]
theorem zgQ:t∈uJ B w↔eJ B w t.1 t.2.1=true/\t.2.2=B.idxOf (jQ w t.1 t.2.1):=by
 unfold uJ;rw[List.mem_flatMap];constructor
 .grind[zgG]
 .rintro⟨h1,h2⟩;show#[t.1,?_,zgG.mpr #[rfl,h1,h2]];rw[qI];let:=zaG.mp h1;lia
def Kh{α:Type}(f:α->D):∀(B:List α)(k:Nat),cA k (B.map f)=(List.range B.length).map λi=>D.tup [.int ((k+i:Nat):Int),(B[i]?).elim .non f]
 |[],k=>rfl
 |b::B,k=>by rw[qy,cA,Kh f B (k+1),qr,List.range_succ_eq_map,qy,qD];congr 1;show map_congr_left λi _=>?_;rw[show k+1+i=k+(i+1) by lia];rfl
def So(B:List Wd):cA 0 (B.map D.str)=(List.range B.length).map λ(k:Nat)=>D.tup [.int (k:Int),.str ((B[k]?).getD [])]:=by rw[Kh];simp_all
def BJ{z:Int}{n:Nat}(h:z=n):fromTo 0 z.toNat=(List.range n).map λ(k:Nat)=>D.int (k:Int):=by subst h;show map_congr_left λk _=>?_;rw[Int.zero_add]
def Cv{i z:Int}{a n:Nat}(hi:i=a)(h:z=n):fromTo i (z-i).toNat=(List.range' a (n-a)).map λ(k:Nat)=>D.int (k:Int):=by subst hi;subst h;unfold fromTo;rw[List.range'_eq_map_range,qD];first|rfl|assumption|(simp_all;done)
def zN(q:Nat):D:=.int (q:Int)
def mM(n:Nat)(f:Nat->List Nat):List S:=(List.range (n+1)).map λp=>S.lst ((f p).map λq=>S.sh (zN q))
def Jn(h:i<=n):(mM n f)[i]?=⇑(.lst ((f i).map λq=>S.sh (zN q))):=by unfold mM;rw[qE,getElem?_range ∅];rfl
def dU(f:Nat->List Nat)(i j:Nat):Nat->List Nat:=λp=>if p=i then f p++[j]else f p
def IS(h:i<=n):(mM n f).set i (.lst (((f i).map λq=>S.sh (zN q))++[.sh (zN j)]))=mM n (dU f i j):=by
 apply ext_getElem?;intro k;rw[getElem?_set];unfold mM;by_cases B:i=k
 .subst B;rw[qZ rfl,qZ (by simp;lia -verbose),qE,getElem?_range ∅];simp[dU]
 .rw[q5 B,qE,qE];by_cases h2:k<n+1
  .rw[getElem?_range h2];simp[map_some,dU,q5 (Ne.symm B)]
  .rw[qP (by simp;lia -verbose)];rfl
@[inline]def Dn(i j p q:Nat):Prop:=p<i\/q<i\/p=i/\q<j\/q=i/\p<j
def dW(B:List Wd)(w:Wd)(i j:Nat)(f:Nat->List Nat):Prop:=∀p,(f p).Nodup/\∀q,q∈f p↔(jO B w p q=true/\Dn i j p q)
def Fx:Dn i (j+1) p q↔Dn i j p q\/p=i/\q=j\/q=i/\p=j:=by
 unfold Dn;rw[Nat.lt_succ_iff_lt_or_eq,Nat.lt_succ_iff_lt_or_eq];constructor
 .rintro(h|h|⟨h,k|k⟩|⟨h,k|k⟩)
  .show .inl (.inl h)
  .show .inl (.inr (.inl h))
  .show .inl (.inr (.inr (.inl #[h,k])))
  .show .inr (.inl #[h,k])
  .show .inl (.inr (.inr (.inr #[h,k])))
  .show .inr (.inr #[h,k])
 .rintro((h|h|h|h)|h|h)
  .show .inl h
  .show .inr (.inl h)
  .show .inr (.inr (.inl #[h.1,.inl h.2]))
  .show .inr (.inr (.inr #[h.1,.inl h.2]))
  .show .inr (.inr (.inl #[h.1,.inr h.2]))
  .show .inr (.inr (.inr #[h.1,.inr h.2]))
def HP(B:i<j):¬Dn i j i j/\¬Dn i j j i:=by unfold Dn;lia
def FH(F:i<j):jO B w i j=eJ B w i j:=by
 cases e:eJ B w j i with
 |false=>unfold jO;rw[e,Bool.or_false]
 |true=>show absurd (zaG.mp e).1 (Nat.lt_asymm F)
def OG(F:i<j)(h:dW B w i j f)(G:eJ B w i j=false):dW B w i (j+1) f:=λp=>⟨(h p).1,λq=>by
 rw[(h p).2 q,Fx];show and_congr_right λz=>#[.inl,λk=>k.elim id λk=>?_]
 rcases k with⟨rfl,rfl⟩|⟨rfl,rfl⟩
 .rw[FH F,G]at z;cases z
 .rw[Gz,FH F,G]at z;cases z⟩
def BK{P Q:Nat->Prop}(h1:l.Nodup)(h2:∀q,q∈l↔P q)(hn:¬P a)(h:∀q,P q\/q=a↔Q q):(l++[a]).Nodup/\∀q,q∈l++[a]↔Q q:=
 #[qw.mpr #[h1,by simp,λx B b i e=>hn ((h2 a).mp (by rw[qt.mp i]at e;rwa[<-e]))],λq=>by rw[qx,qt,h2 q,h q]]
def PN(F:i<j)(h:dW B w i j f)(G:eJ B w i j=true):dW B w i (j+1) (dU (dU f i j) j i):=λp=>by
 let#[h1,h2]:=h p;rw[<-FH F]at G;unfold dU;by_cases I:p=j
 .subst I;rw[qZ rfl,q5 (ne_of_gt F)];rw[Gz]at G;show BK h1 h2 (λk=>(HP F).2 k.2) λq=>?_;rw[Fx];constructor
  .rintro(⟨a,b⟩|rfl)
   .show#[a,.inl b]
   .show#[G,.inr (.inr #[rfl,rfl])]
  .rintro⟨a,b|⟨b,_⟩|⟨b,_⟩⟩
   .show .inl #[a,b]
   .show absurd b (ne_of_gt F)
   .show .inr b
 .rw[q5 I];by_cases hi:p=i
  .subst hi;rw[qZ rfl];show BK h1 h2 (λk=>(HP F).1 k.2) λq=>?_;rw[Fx];constructor
   .rintro(⟨a,b⟩|rfl)
    .show#[a,.inl b]
    .show#[G,.inr (.inl #[rfl,rfl])]
   .rintro⟨a,b|⟨_,b⟩|⟨_,b⟩⟩
    .show .inl #[a,b]
    .show .inr b
    .show absurd b I
  .rw[q5 hi];show#[h1,λq=>?_];rw[h2 q,Fx];refine and_congr_right λ_=>#[.inl,λk=>k.elim id λk=>?_]
   rcases k with⟨k,_⟩|⟨_,k⟩
   .show absurd k hi
   .show absurd k I
def Rt(G:w.length<=n)(h:dW B w i (n+1) f):dW B w (i+1) (i+2) f:=λp=>by
 let#[h1,h2]:=h p;show#[h1,λq=>?_];rw[h2 q];show and_congr_right λF=>?_;let#[M,L,I]:=Ds (za2.mpr F);let U:p<n+1:=Nat.lt_succ_of_le (le_trans L G);let O:q<n+1:=Nat.lt_succ_of_le (le_trans M G);show#[λh=>?_,λh=>?_]
 .rcases h with h|h|⟨h,_⟩|⟨h,_⟩
  .show .inl (lt_succ_of_lt h)
  .show .inr (.inl (lt_succ_of_lt h))
  .show .inl (h▸Nat.lt_succ_self _)
  .show .inr (.inl (h▸Nat.lt_succ_self _))
 .have J:p<i+1\/q<i+1:=by
   rcases h with h|h|⟨h,h'⟩|⟨h,h'⟩
   .show .inl h
   .show .inr h
   .show .inr (Nat.lt_of_le_of_ne (le_of_lt_succ h') λz=>I (h.trans z.symm))
   .show .inl (Nat.lt_of_le_of_ne (le_of_lt_succ h') λz=>I (z.trans h.symm))
  rcases J with h|h
  .show(Nat.lt_or_eq_of_le (le_of_lt_succ h)).elim .inl λz=>.inr (.inr (.inl #[z,O]))
  .show(Nat.lt_or_eq_of_le (le_of_lt_succ h)).elim (λz=>.inr (.inl z)) λz=>.inr (.inr (.inr #[z,U]))
def Ut:dW B w 0 1 λ_=>[]:=λp=>#[by simp,λq=>by simp only[not_mem_nil,false_iff];rintro⟨h,h2⟩;let:=Ds (za2.mpr h);unfold Dn at h2;lia]
def Sr(hi:w.length<=i)(h:dW B w i j f):(nb B w p).Perm (f p):=by let#[h1,h2]:=h p;show(List.perm_ext_iff_of_nodup (zdn.imp λh=>by lia) h1).mpr λq=>?_;rw[za2,h2 q];show#[λF=>#[F,?_],λF=>F.1];let:=Ds (za2.mpr F);unfold Dn;lia
def Dy:(nb B w p).length<=w.length+1:=by show le_trans (List.length_filter_le _ _) (by simp)
def bA(B:List Wd)(w:Wd):List D:=(List.range (w.length+1)).map λp=>D.lst ((nb B w p).map zN)
def Od(i:(nb B w p).Perm l)(F:w.length<=60):cT [.lst (l.map zN)]=⇑(.lst (((nb B w p).map zN).map .sh)):=by
 let e:∀l:List Nat,l.map zN=(l.map λ(q:Nat)=>(q:Int)).map D.int:=λl=>by rw[qD];rfl
 rw[e,e];show Sh (by rw[qh,<-i.length_eq];let:=Dy (B:=B) (w:=w) (p:=p);lia) (i.map _) ?_;rw[pairwise_map];show zdn.imp λh=>∅
def EU(h:B++i::post=List.range n):B.length=i/\i<n:=by
 let h1:(List.range n)[B.length]?=⇑i:=by rw[<-h];simp
 let#[h2,F]:=qg.mp h1;rw[List.getElem_range]at F;rw[qC]at h2;lia
def Lx(h:B++i::post=List.range' a n):i=a+B.length/\B.length<n:=by
 let h1:(List.range' a n)[B.length]?=⇑i:=by rw[<-h];simp
 let#[h2,F]:=qg.mp h1;rw[List.getElem_range']at F;rw[List.length_range']at h2;lia
def JO(h:dW B w i j f)(p:Nat):(f p).length<=w.length+1:=by let#[h1,h2]:=h p;let:=DX (f p) (nb B w p) h1 λq F=>za2.mpr ((h2 q).mp F).1;let:=Dy (B:=B) (w:=w) (p:=p);lia
inductive dJ(R:Nat->Nat->Prop):Nat->Nat->Prop
 |refl (p:Nat):dJ R p p
 |step {p q r:Nat}:dJ R p q->R q r->dJ R p r
def dJ.trans{R:Nat->Nat->Prop}(h1:dJ R p q)(h2:dJ R q r):dJ R p r:=by
 induction h2 with
 |refl=>show h1
 |step _ e i=>show .step i e
def aK(B:List Wd)(w:Wd)(p q:Nat):Prop:=jO B w p q=true
def SV(p q:Nat)(h:aK B w p q):aK B w q p:=by unfold aK at*;rw[Gz];show h
def LQ:∀l m:List Int,bE (l.map D.int) (m.map D.int)=false
 |[],_=>by cases‹List Int›<;>rfl
 |_::_,[]=>rfl
 |a::l,b::m=>by show(aT (.int a) (.int b)||bE (l.map D.int) (m.map D.int))=false;rw[LQ l m];rfl
def JD:∀{l m:List Int},l.map D.int=m.map D.int->l=m
 |[],[],_=>rfl
 |[],_::_,h=>nomatch h
 |_::_,[],h=>nomatch h
 |a::l,b::m,h=>by
  simp only[qy,List.cons.injEq]at h;rw[JD h.2];injection h.1 with e
  rw[e]
def Rg{l m:List Int}:cS (.lst (l.map D.int)) (.lst (m.map D.int))=⇑↥(l=m):=by
 unfold cS;rw[q5 (by
  let:fC (.lst (l.map D.int))=1:=by show aZ (l.map D.int)+1=1;rw[Hf]
  rw[this,show aT (.lst (l.map D.int)) (.lst (m.map D.int))=bE (l.map D.int) (m.map D.int) from rfl,LQ];decide)]
 by_cases h:l=m
 .subst h;simp
 .let i:¬(D.lst (l.map D.int)=D.lst (m.map D.int)):=λz=>h (JD (by injection z));simp[h,i]
def QJ{l m:List Int}:eG (.lst (l.map D.int)) (.lst (m.map D.int))=⇑(!decide (l=m)):=by unfold eG;rw[Rg];rfl
def Mw{x:Int}{l:List Int}:∃m,(x::l).min?=⇑m/\m∈x::l/\∀y∈x::l,m<=y:=by
 cases e:(x::l).min? with
 |none=>cases List.min?_eq_none_iff.mp e
 |some m=>show#[m,rfl,List.min?_mem e,λy i=>(List.le_min?_iff e).mp (Int.le_refl m) y i]
def PB(p q:Nat)(h:aK B w p q):p<=w.length/\q<=w.length:=by let:=Ds (za2.mpr h);show#[this.2.1,this.1]
def FK(l:List (List Nat)):cL (l.map D.str)=⇑l:=by
 induction l with
 |nil=>rfl
 |cons a l i=>show(cL (l.map D.str)).map (a::·)=_;rw[i];rfl
def KZ{l:List (List Nat)}(h:(l.map List.length).sum<=big):bF [] [.lst (l.map D.str)]=⇑(.sh (.str l.flatten)):=by show(cL (l.map D.str)).bind _=_;rw[FK];show(if(l.map List.length).sum+l.length*[].length<=big then ⇑(S.sh (.str (aM [] l)))else none)=_;rw[qZ (by show h),Lp]
def fz(D':Ends)(m:Nat)(J:Nat->Env->Prop):Ends:={D' with nx:=λi=>∃m',m'<m/\J m' i,ct:=λi=>∃m',m'<m/\J m' i,bk:=D'.nx}
def kg(b:WS)(D':Ends)(m:Nat)(J:Nat->Env->Prop)(k:Bool)(ρ:Env):Prop:=if k then b (fz D' m J) ρ else D'.nx ρ
def yG:kg b D' m J true ρ=b (fz D' m J) ρ:=rfl
def yH:kg b D' m J false ρ=D'.nx ρ:=rfl
def HY(i:m'<m)(h:J m' ρ):(fz D' m J).nx ρ:=#[m',i,h]
def Ic(J:Nat->Env->Prop)(m:Nat)(B:J m ρ)(h:∀m ρ,J m ρ->c ρ (kg b D' m J) D'.ex):fG c b D' ρ:=#[J,#[m,B],λm ρ i=>h m ρ i]
def JP{l:List α}(h:0<l.length):∃v,v∈l/\l.getLast?=⇑v/\atI l (-1)=⇑v:=by show#[l.getLast (qO.mp h),List.getLast_mem _,List.getLast?_eq_some_getLast (qO.mp h),?_];unfold atI ixN;rw[q5 ⋯,qZ ∅];show l[((-1:Int)+(l.length:Int)).toNat]?=_;rw[show((-1:Int)+(l.length:Int)).toNat=l.length-1 by lia,getElem?_eq_getElem ∅,List.getLast_eq_getElem]
inductive Walk(R:Nat->Nat->Prop)(g:Nat):Nat->Nat->Prop
 |zero:Walk R g 0 g
 |step {d p q:Nat}:Walk R g d p->R p q->Walk R g (d+1) q
def aF(R:Nat->Nat->Prop)(g q d:Nat):Prop:=Walk R g d q/\∀d',d'<d->¬Walk R g d' q
section
variable{R:Nat->Nat->Prop}
def Walk.inv(h:Walk R g d q):(d=0/\q=g)\/∃e p,d=e+1/\Walk R g e p/\R p q:=by
 cases h with
 |zero=>show .inl #[rfl,rfl]
 |step h e=>show .inr #[_,_,rfl,h,e]
def Fb(h:aF R g q d)(k:aF R g q e):d=e:=by
 rcases Nat.lt_trichotomy d e with z|z|z
 .show(k.2 d z h.1).elim
 .show z
 .show(h.2 e z k.1).elim
def Jh:∀{d:Nat},Walk R g d q->∃e,e<=d/\aF R g q e:=by
 intro d;induction d using Nat.strongRecOn with
 |_ d F=>
  intro h;by_cases z:∃d',d'<d/\Walk R g d' q
  .obtain⟨d',B,i⟩:=z;let#[e,G,hi]:=F d' B i;show#[e,∅,hi]
  .show#[d,q8 _,h,λd' B i=>z #[d',B,i]]
def KF:aF R g g 0:=#[.zero,λi h=>∅]
def ED(h:aF R g q 0):q=g:=by
 rcases h.1.inv with⟨_,e⟩|⟨_,_,e,_⟩
 .show e
 .lia
def MY(h:aF R g g d):d=0:=Fb h KF
def Fq(h:aF R g q (d+1)):∃p,aF R g p d/\R p q:=by
 rcases h.1.inv with⟨e,_⟩|⟨e,p,z,F,B⟩
 .lia
 .obtain rfl:d=e:=by lia
  show#[p,#[F,λG I i=>h.2 (G+1) ∅ (.step i B)],B]
def CM(h:Walk R g d q):dJ R g q:=by
 induction h with
 |zero=>show .refl _
 |step _ e i=>show .step i e
def RL(h:dJ R g q):∃d,Walk R g d q:=by
 induction h with
 |refl=>show#[0,.zero]
 |step _ e i=>let#[d,h]:=i;show#[d+1,.step h e]
theorem zbU:dJ R g q↔∃d,aF R g q d:=by
 constructor
 .grind[RL,Jh]
 .rintro⟨d,h⟩;show CM h.1
open Classical in
def hV(R:Nat->Nat->Prop)(g q:Nat):Nat:=if h:∃d,aF R g q d then Classical.choose h else 0
def CY(h:aF R g q d):hV R g q=d:=by unfold hV;rw[dif_pos #[d,h]];show Fb (Classical.choose_spec (#[d,h]:∃d,aF R g q d)) h
structure jK(R:Nat->Nat->Prop)(g:Nat)(L:List (Nat×Nat)):Prop where
 ok:∀t∈L,aF R g t.1 t.2
 nd:(L.map (·.1)).Nodup
def jK.at(h:jK R g L)(h1:(q,d)∈L)(h2:aF R g q e):d=e:=Fb (h.ok _ h1) h2
structure cZ(R:Nat->Nat->Prop)(g:Nat)(L:List (Nat×Nat))(qu:List (Nat×Nat)):Prop where
 right:jK R g L
 sub:∀t∈qu,t∈L
 out:∀t∈L,t∉qu->∀q,R t.1 q->∃e,(q,e)∈L
 up:qu.Pairwise λt u=>t.2<=u.2
 near:∀t r,qu=t::r->∀u∈r,u.2<=t.2+1
 all:∀t r,qu=t::r->∀q e,aF R g q e->e<=t.2->(q,e)∈L
 gin:(g,0)∈L
def cZ.done(h:cZ R g L [])(k:aF R g q d):(q,d)∈L:=by
 induction d generalizing q with
 |zero=>rw[ED k];show h.gin
 |succ d B=>let#[p,G,F]:=Fq k;let#[e,i]:=h.out _ (B G) (by simp) q F;let:=h.right.at i k;rw[<-this];show i
structure oY(R:Nat->Nat->Prop)(g:Nat)(L qu:List (Nat×Nat))(t:Nat×Nat)(pre:List Nat):Prop where
 right:jK R g L
 tin:t∈L
 sub:∀u∈qu,u∈L
 out:∀u∈L,u∉qu->u≠t->∀q,R u.1 q->∃e,(q,e)∈L
 gone:∀q∈pre,∃e,(q,e)∈L
 up:qu.Pairwise λt u=>t.2<=u.2
 lo:∀u∈qu,t.2<=u.2/\u.2<=t.2+1
 all:∀q e,aF R g q e->e<=t.2->(q,e)∈L
 gin:(g,0)∈L
def cZ.take{L qu:List (Nat×Nat)}{t:Nat×Nat}(h:cZ R g L (t::qu)):oY R g L qu t [] where
 right:=h.right
 tin:=h.sub t (by simp)
 sub u hu:=h.sub u (by simp[hu])
 out u hu hn ht:=h.out u hu (by simp[hn,ht])
 gone:=by simp
 up:=(pairwise_cons.mp h.up).2
 lo u hu:=#[(pairwise_cons.mp h.up).1 u hu,h.near t qu rfl u hu]
 all q e hq he:=h.all t qu rfl q e hq he
 gin:=h.gin
def oY.skip(h:oY R g L B t i)(G:(q,e)∈L):oY R g L B t (i++[q]):=
 #[h.right,h.tin,h.sub,h.out,λx F=>(qx.mp F).elim (h.gone x) λz=>#[e,by rw[qt.mp z];show G],h.up,h.lo,h.all,h.gin]
def oY.put(h:oY R g L O t I)(Y:R t.1 q)(hn:∀e,(q,e)∉L):oY R g (L++[(q,t.2+1)]) (O++[(q,t.2+1)]) t (I++[q]):=by
 let hd:aF R g q (t.2+1):=by show#[.step (h.right.ok t h.tin).1 Y,λd' Z U=>?_];let#[e,F,hi]:=Jh U;show hn e (h.all q e hi ∅)
 show#[#[λu B=>?_,?_],qj _ h.tin,λu B=>?_,λu B G J=>?_,λx i=>?_,?_,λu B=>?_,λx e i F=>qj _ (h.all x e i F),qj _ h.gin]
 .rcases qx.mp B with z|z
  .show h.right.ok u z
  .rw[qt.mp z];show hd
 .rw[map_append];show qw.mpr #[h.right.nd,by simp,λx i y M e=>?_];grind
 .rcases qx.mp B with z|z
  .show qj _ (h.sub u z)
  .show qi _ z
 .rcases qx.mp B with z|z
  .intro x i;let#[e,F]:=h.out u z (λk=>G (qj _ k)) J x i;show#[e,qj _ F]
  .show(G (qi _ z)).elim
 .rcases qx.mp i with z|z
  .obtain⟨e,F⟩:=h.gone x z;show#[e,qj _ F]
  grind
 .show List.pairwise_append.mpr #[h.up,by simp,λx i y M=>?_];rw[qt.mp M];show(h.lo x i).2
 .rcases qx.mp B with z|z
  .show h.lo u z
  grind
def oY.queue(h:oY R g L O t l)(hl:∀q,R t.1 q->q∈l):cZ R g L O:=by
 have i:∀u∈L,u∉O->∀q,R u.1 q->∃e,(q,e)∈L:=λu I hn q B=>by
  by_cases e:u=t
  .subst e;show h.gone q (hl q B)
  .show h.out u I hn e q B
 show#[h.right,h.sub,i,h.up,λF r e u I=>?_,λF r e q d B hd=>?_,h.gin]
 .subst e;let h1:=h.lo u (by simp[I]);let h2:=h.lo F (by simp);lia
 .subst e;let h2:=h.lo F (by simp);rcases Nat.lt_or_ge t.2 d with z|z
  .obtain⟨k,rfl⟩:∃k,d=k+1:=#[d-1,∅]
   let#[p,Z,Y]:=Fq B;let J:=h.all p k Z ∅
   --p was taken out,or it is in the queue with less than the first has
   by_cases M:(p,k)∈F::r
   .have h3:=h.lo _ M;let h4:F.2<=k:=by
     rcases qA.mp M with G|G
     .rw[<-G];show q8 _
     .show(pairwise_cons.mp h.up).1 _ G
    lia
   .obtain⟨e,U⟩:=i _ J M q Y;let:=h.right.at U B;rw[<-this];show U
  .show h.all q d B z
def cZ.start:cZ R g [(g,0)] [(g,0)] where
 right:=#[λt ht=>by rw[qt.mp ht];show KF,by simp]
 sub t ht:=ht
 out t ht hn:=(hn ht).elim
 up:=by simp
 near t r e u hu:=by
  injection e with _ e
  rw[<-e]at hu;cases hu
 all t r e q d hq hd:=by grind[ED]
 gin:=by simp
end
def bG(L:List (Nat×Nat)):List D:=L.map λt=>zN t.1
def jB(L:List (Nat×Nat)):List D:=L.map λt=>zN t.2
def GS(h:zN a=zN b):a=b:=by
 injection h with h
 lia
theorem zg5{q:Nat}:D.int (q:Int)∈bG L↔∃d,(q,d)∈L:=by
 unfold bG;rw[qJ];constructor
 .rintro⟨t,i,e⟩;show#[t.2,by rw[<-GS (a:=t.1) (b:=q) e];show i]
 .rintro⟨d,B⟩;show#[(q,d),B,rfl]
def PF(h:(L.map (·.1)).Nodup):(bG L).Nodup:=by
 unfold bG;let:(L.map λt=>zN t.1)=(L.map (·.1)).map zN:=by rw[qD];rfl
 rw[this,List.Nodup,pairwise_map];show h.imp λi e=>i (GS e)
open Classical in
def Je{q:Nat}:fZ (.int (q:Int)) (.dct false (bG L) vs)=⇑↥(∃d,(q,d)∈L):=by show lX (.int (q:Int)) (.dct false (bG L) vs)=_;show(if bP false (.int (q:Int))then ⇑↥(D.int (q:Int)∈bG L)else none)=_;rw[qZ (show bP false (.int (q:Int))=true from rfl)];congr 1;show decide_eq_decide.mpr zg5
open Classical in
def Ju{L:List (Nat×Nat)}{vs:List D}{q:Nat}(h:∃d,(q,d)∈L):lX (.int (q:Int)) (.dct false (bG L) vs)=⇑true:=by let:=Je (L:=L) (vs:=vs) (q:=q);rw[qQ h]at this;show this
open Classical in
def Ij{L:List (Nat×Nat)}{vs:List D}{q:Nat}(h:¬∃d,(q,d)∈L):lX (.int (q:Int)) (.dct false (bG L) vs)=⇑false:=by let:=Je (L:=L) (vs:=vs) (q:=q);rw[qR h]at this;show this
open Classical in
def Gk{f:Nat->α}:∀{L:List (Nat×Nat)}{q d:Nat},(L.map (·.1)).Nodup->(q,d)∈L->lk (bG L) (L.map λt=>f t.2) (.int (q:Int))=⇑(f d)
 |[],_,_,_,h=>nomatch h
 |t::L,q,d,hn,h=>by
  show(if zN t.1=.int (q:Int)then ⇑(f t.2)else lk (bG L) (L.map λt=>f t.2) (.int (q:Int)))=_;rw[qy,qK]at hn;rcases qA.mp h with e|h
  .rw[<-e,qZ (show zN (q,d).1=.int (q:Int) from rfl)]
  .let i:¬zN t.1=.int (q:Int):=λe=>hn.1 (by rw[GS (a:=t.1) (b:=q) e];show qJ.mpr #[_,h,rfl]);rw[q5 i];show Gk hn.2 h
def Rc{L:List (Nat×Nat)}{l:List S}{q:Nat}{s:S}(h:∀d,(q,d)∉L):bW false (bG L) l (.int (q:Int)) s=.dct false (bG L++[.int (q:Int)]) (l++[s]):=by
 unfold bW;let:lW (bG L) (.int (q:Int))=none:=by unfold lW;rw[List.findIdx?_eq_none_iff];intro x i;rw[decide_eq_false_iff_not];intro e;subst e;let#[d,B]:=zg5.mp i;show h d B
 rw[this]
def aR(B:List Wd)(w:Wd)(p:Nat):Nat:=(((nb B w p).filter λq=>↥(hV (aK B w) w.length q+1=hV (aK B w) w.length p)).head?).getD p
def cI(B:List Wd)(w:Wd):Nat->Nat->List Nat
 |0,p=>[p]
 |d+1,p=>p::cI B w d (aR B w p)
def DL:atI (l++[x]) (-1)=⇑x:=by let#[v,_,h1,h2]:=JP (l:=l++[x]) (by simp);grind
def Rx(h:(x::l).Pairwise (·<·)):((x::l).map λq=>((q:Nat):Int)).min?=⇑((x:Nat):Int):=by let#[m,em,B,i]:=Mw (x:=((x:Nat):Int)) (l:=l.map λq=>((q:Nat):Int));grind[mem_cons_self,mem_cons,mem_map,pairwise_cons.mp]
def Hg(h:aF (aK B w) w.length p (d+1)):∃r,((nb B w p).filter λq=>↥(hV (aK B w) w.length q+1=hV (aK B w) w.length p))=aR B w p::r/\aF (aK B w) w.length (aR B w p) d:=by
 let#[q,L,J]:=Fq h;let F:q∈(nb B w p).filter λq=>↥(hV (aK B w) w.length q+1=hV (aK B w) w.length p):=by rw[mem_filter];show#[za2.mpr (SV _ _ J),qQ (by rw[CY L,CY h])]
 cases e:(nb B w p).filter λq=>↥(hV (aK B w) w.length q+1=hV (aK B w) w.length p)with
 |nil=>rw[e]at F;cases F
 |cons x r=>
  let I:aR B w p=x:=by unfold aR;rw[e];rfl
  rw[I];show#[r,rfl,?_];let i:x∈(nb B w p).filter λq=>↥(hV (aK B w) w.length q+1=hV (aK B w) w.length p):=by rw[e];simp
  let#[h1,h2]:=mem_filter.mp i;let#[k,G]:=zbU.mp ((CM h.1).step (za2.mp h1));rw[CY G,CY h]at h2;obtain rfl:k=d:=∅
  show G
def GF{R:Nat->Nat->Prop}:∀{d p:Nat},aF R g p d->∀k,k<=d->∃q,aF R g q k
 |0,p,h,k,hk=>by
  obtain rfl:k=0:=∅
  show#[p,h]
 |d+1,p,h,k,hk=>by
  rcases Nat.lt_or_ge d k with z|z
  .obtain rfl:k=d+1:=by lia
   show#[p,h]
  .obtain⟨q,i,_⟩:=Fq h;show GF i k z
def Qk{R:Nat->Nat->Prop}(i:cZ R g L [])(F:aF R g p d):d+1<=L.length:=by
 let:=DX (List.range (d+1)) (L.map (·.2)) List.nodup_range λk B=>by let#[q,h]:=GF F k (by let:=qI.mp B;lia);show qJ.mpr #[(q,k),i.done h,rfl]
 rw[qC,qh]at this;show this
end FL
namespace Law
open FL
abbrev kT:List Nat:=[66,97,100,84,101,120,116]
def mX:WB:=bQ 2 (zJ aI (bK (zt 0) (zt 4)) (pE [([111,110],[43]),([98,97,99,107],[45])] (zt 3)))
def uE:=uB mX.eq_1
def dq:WF:=fW 2 2 [0,1]
 (zK (cU (aG cS (wB aQ (zu (zt 1) zv)) (wC (.int 0))) (aV (wC (.str [46]))) aE)
  (aV (iU bF (wC (.str [32])) (zu (iV 2 2 (bY (zt 1)) (eM [zw 3,zw 4]) dP mX) zv))))
def dn:WF:=fW 2 4 [0,1]
 (zK (zM (zw 2) (zJ aI (zJ cN (wC (.int 7919)) (zt 1)) (wC (.int 11))))
  (zK (cU (aG yB (zt 1) (wB aQ (zu (zt 0) zv))) (zM (zw 2) (bK (zt 0) (zt 1))) (cU (aG oJ (wB aQ (zu (zt 0) zv)) (wC (.int 0))) (zM (zw 2) (zJ aI (zt 2) (zJ cN (zJ eR (bK (zt 0) (zJ eR (zt 1) (wB aQ (zu (zt 0) zv)))) (wC (.int 2147483629))) (wC (.int 69623))))) aE))
  (zK (zM (zw 3) (zJ aI (zJ eR (zJ aI (zJ cN (zJ eR (zt 2) (wC (.int 2147483629))) (wC (.int 48271))) (zJ cN (wC (.int 40692)) (zt 1))) (wC (.int 2147483629))) (wC (.int 1))))
  (aV (bR (zu (bK (bR (zu (wC (.int 0)) (zu (zt 2) zv))) (wB gA (zu (eI (aG yC (zt 2) (zJ nQ (wC (.int 10)) (wC (.int 18))))) zv))) (zu (zt 3) zv)))))))
def dM:WF:=fW 2 4 [0,1]
 (zK (cU (aG oJ (bK (zt 0) (wC (.int 0))) (wC (.int 0))) (zK (zM (zw 2) (zJ eR (bK (zt 0) (wC (.int 0))) (zt 1)))
  (zK (gF 0 (wC (.int 0)) (zJ gM (bK (zt 0) (wC (.int 0))) (zt 1)))
  (aV (zt 2)))) aE)
  (zK (zM (zw 3) (zJ eR (zJ cN (bK (zt 0) (wC (.int 1))) (wC (.int 69623))) (wC (.int 2147483647))))
  (zK (gF 0 (wC (.int 1)) (zJ aI (zJ eR (zJ aI (zJ cN (zt 3) (wC (.int 48271))) (wC (.int 30103))) (wC (.int 2147483629))) (wC (.int 1))))
  (aV (zJ eR (zJ gM (zJ aI (zJ cN (zt 3) (wC (.int 2147483647))) (bK (zt 0) (wC (.int 1)))) (wC (.int 8191))) (zt 1))))))
def mR:WS:=zK (cU (fM (aG cS (dX (zt 1) ⇑(zt 2) ⇑(zJ aI (zt 2) (wB aQ (zu (zt 5) zv)))) (dX (zt 5) none ⇑(zJ dR (wB aQ (zu (zt 1) zv)) (zt 2)))) (aG fj (zJ aI (zt 2) (wB aQ (zu (zt 5) zv))) (zt 3))) (wExpr (bC 4 (bO (zu (zt 5) (zu (zJ aI (zt 2) (wB aQ (zu (zt 5) zv))) zv))))) aE)
  (cU (fM (aG yC (zt 2) (wB aQ (zu (zt 5) zv))) (aG cS (dX (zt 1) ⇑(zJ dR (zt 2) (wB aQ (zu (zt 5) zv))) ⇑(zt 2)) (zt 5))) (wExpr (bC 4 (bO (zu (zt 5) (zu (zJ dR (zt 2) (wB aQ (zu (zt 5) zv))) zv))))) aE)
def tY:=uS mR.eq_1
def gf:WF:=fW 4 6 [0,1,2,3]
 (zK (zM (zw 4) (bR zv))
  (zK (fH (bY (zt 0)) (zw 5) mR)
  (aV (zt 4))))
def lF:WB:=bQ 5 (bR zv)
def pQ:=uB lF.eq_1
def lH:WS:=cU (aG fZ (dX (zt 1) ⇑(zt 3) ⇑(zt 4)) (zt 0)) (zK (wExpr (cV 2 (zt 3) (zt 4)))
  (wExpr (cV 2 (zt 4) (zt 3)))) aE
def pS:=uS lH.eq_1
def lG:WS:=fH (eO (zJ aI (zt 3) (wC (.int 1))) (zJ aI (wB aQ (zu (zt 1) zv)) (wC (.int 1)))) (zw 4) lH
def pR:=uS lG.eq_1
def lE:WB:=bQ 5 (bV (wB cT (zu (zt 6) zv)))
def pP:=uB lE.eq_1
def mW:WF:=fW 2 5 [0,1]
 (zK (zM (zw 2) (iV 5 1 (aX (zJ aI (wB aQ (zu (zt 1) zv)) (wC (.int 1)))) (zw 6) dP lF))
  (zK (fH (aX (wB aQ (zu (zt 1) zv))) (zw 3) lG)
  (aV (iV 5 1 (bY (zt 2)) (zw 6) dP lE))))
def lD:WS:=cU (aG bT (zt 5) (zt 2)) (zK (nB 2 (zt 5) (zJ aI (mD (zt 2) (zt 4)) (wC (.int 1))))
  (wExpr (bC 3 (zt 5)))) aE
def lK:=uS lD.eq_1
def iD:WS:=zK (zM (zw 4) (bV (gG 3 (wC (.int 0)))))
  (fH (bY (bK (zt 0) (zt 4))) (zw 5) lD)
def pO:=uS iD.eq_1
def lC:WB:=bQ 7 (zt 8)
def lJ:=uB lC.eq_1
def iC:WS:=wExpr (bC 6 (bV (wB lY (zu (iV 7 1 (bY (bK (zt 0) (bK (zt 6) (iE cX (wC (.int 1)))))) (zw 8) (aG cS (mD (zt 2) (zt 8)) (zJ dR (mD (zt 2) (bK (zt 6) (iE cX (wC (.int 1))))) (wC (.int 1)))) lC) zv))))
def pN:=uS iC.eq_1
def tT:WF:=fW 2 7 [0,1]
 (zK (zM (zw 2) (jX (zJ dR (wB aQ (zu (zt 0) zv)) (wC (.int 1))) (wC (.int 0))))
  (zK (zM (zw 3) (bR (zu (zJ dR (wB aQ (zu (zt 0) zv)) (wC (.int 1))) zv)))
  (zK (fG (aG eG (zt 3) (bR zv)) iD)
  (zK (cU (aG bT (zt 1) (zt 2)) (aV (bO zv)) aE)
  (zK (zM (zw 6) (bR (zu (zt 1) zv)))
  (zK (fG (aG eG (bK (zt 6) (iE cX (wC (.int 1)))) (zJ dR (wB aQ (zu (zt 0) zv)) (wC (.int 1)))) iC)
  (aV (wB cH (zu (zt 6) zv)))))))))
def kZ:WB:=bQ 7 (eI (aG cS (zt 8) (dX (zt 1) ⇑(bK (zt 5) (wC (.int 0))) ⇑(bK (zt 5) (wC (.int 1))))))
def pJ:=uB kZ.eq_1
def lA:WS:=zK (zM (zw 5) (bV (wB iO (zu (dX (zt 2) ⇑(zJ dR (zt 4) (wC (.int 1))) ⇑(zJ aI (zt 4) (wC (.int 1)))) zv))))
  (zK (zM (zw 6) (dt dB (bV (iV 7 1 (bY (zt 0)) (zw 8) dP kZ)) (zu (wC (.bl true)) zv)))
  (wExpr (bC 3 (bO (zu (bK (bR (zu (wC (.str [98,97,99,107])) (zu (wC (.str [111,110])) zv))) (wB gA (zu (eI (aG yB (bK (zt 2) (zJ dR (zt 4) (wC (.int 1)))) (bK (zt 2) (zt 4)))) zv))) (zu (zt 6) zv))))))
def pK:=uS lA.eq_1
def tR:WF:=fW 3 7 [0,1,2]
 (zK (zM (zw 3) (bR zv))
  (zK (fH (eO (wC (.int 1)) (wB aQ (zu (zt 2) zv))) (zw 4) lA)
  (aV (wB cH (zu (zt 3) zv)))))
def kX:WB:=bQ 2 (zJ aI (bK (zt 0) (zt 4)) (bK (wC (.str [45,43])) (wB gA (zu (eI (aG cS (zt 3) (wC (.str [111,110])))) zv))))
def lI:=uB kX.eq_1
def tP:WF:=fW 2 2 [0,1]
 (aV (iU bF (wC (.str [32])) (zu (zJ aI (iV 2 2 (bY (zt 1)) (eM [zw 3,zw 4]) dP kX) (zJ gL (bR (zu (wC (.str [46])) zv)) (wB gA (zu (eI (aG cS (zt 1) (bO zv))) zv)))) zv)))
def kW:WS:=zK (cU (gT (aG bT (dX (zt 3) ⇑(iE cX (wC (.int 1))) none) (bO (zu (wC (.str [43])) (zu (wC (.str [45])) zv)))) (aG bT (dX (zt 3) none ⇑(iE cX (wC (.int 1)))) (zt 0))) (aV (wC .non)) aE)
  (wExpr (bC 2 (bO (zu (bK (bR (zu (wC (.str [98,97,99,107])) (zu (wC (.str [111,110])) zv))) (wB gA (zu (eI (aG cS (bK (zt 3) (iE cX (wC (.int 1)))) (wC (.str [43])))) zv))) (zu (dr dB (zt 0) (zu (dX (zt 3) none ⇑(iE cX (wC (.int 1)))) zv)) zv)))))
def iI:=uS kW.eq_1
def tO:WF:=fW 2 4 [0,1]
 (zK (zM (zw 2) (bR zv))
  (zK (fH (bY (zJ gL (iU fK (zt 1) (zu (wC (.str [32])) zv)) (wB gA (zu (eI (aG eG (zt 1) (wC (.str [46])))) zv)))) (zw 3) kW)
  (aV (wB cH (zu (zt 2) zv)))))
def jW:WB:=bQ 3 (bV (gG 2 (zL dM [true,true] (zu (zt 0) (zu (wB aQ (zu (zt 2) zv)) zv)))))
def uC:=uB jW.eq_1
def gm:WF:=fW 2 3 [0,1]
 (zK (zM (zw 2) (wB iP (zu (wC (.str [97,98,99,100,101,102,103,104,105,106,107,108,109,110,111,112,113,114,115,116,117,118,119,120,121,122])) zv)))
  (aV (iU bF (wC (.str [])) (zu (wB cT (zu (iV 3 1 (aX (zt 1)) (zw 4) dP jW) zv)) zv))))
def jV:WB:=bQ 4 (bK (zt 1) (zL dM [true,true] (zu (zt 0) (zu (wB aQ (zu (zt 1) zv)) zv))))
def uA:=uB jV.eq_1
def gk:WF:=fW 3 4 [0,1,2]
 (zK (zM (zw 3) (zJ cN (zL dM [true,true] (zu (zt 0) (zu (zJ aI (zt 2) (wC (.int 1))) zv))) (wB gA (zu (eI (aG eG (zt 1) (wC (.str [])))) zv))))
  (aV (iU bF (wC (.str [])) (zu (iV 4 1 (aX (zt 3)) (zw 5) dP jV) zv))))
def gj:WF:=fW 3 7 [0,1,2]
 (zK (zM (zw 3) (bK (zt 2) (zL dM [true,true] (zu (zt 0) (zu (wB aQ (zu (zt 2) zv)) zv)))))
  (zK (zM (zw 4) (zL dM [true,true] (zu (zt 0) (zu (wC (.int 5)) zv))))
  (zK (zM (zw 5) (bK (zt 1) (zL dM [true,true] (zu (zt 0) (zu (wB aQ (zu (zt 1) zv)) zv)))))
  (zK (zM (zw 6) (zL dM [true,true] (zu (zt 0) (zu (wB aQ (zu (zt 3) zv)) zv))))
  (aV (bK (bR (zu (dX (zt 3) none ⇑(zJ aI (zt 6) (wC (.int 1)))) (zu (dX (zt 3) ⇑(zt 6) none) (zu (zJ aI (zt 5) (zt 3)) (zu (zJ aI (zt 3) (zt 5)) (zu (zJ aI (zt 3) (zt 3)) zv)))))) (zt 4)))))))
def jU:WB:=bQ 11 (zt 12)
def nC:=uB jU.eq_1
def mQ:WS:=zK (zM (zw 7) (bV (zL gf [true,true,true,true] (zu (zt 1) (zu (zt 4) (zu (zt 5) (zu (zt 3) zv)))))))
  (zK (cU (aG oJ (zt 6) (wC (.int 4))) (yI 7 (zM (zw 7) (iV 11 1 (bY (zt 7)) (zw 12) (aG oJ (bK (zt 12) (wC (.int 1))) (zt 5)) jU))) aE)
  (cU (aG eG (zt 7) (bR zv)) (zK (zM (eM [zw 8,zw 9]) (bK (zt 7) (zL dM [true,true] (zu (zt 0) (zu (wB aQ (zu (zt 7) zv)) zv)))))
  (zK (cU (aG oJ (zt 9) (zt 5)) (zM (zw 4) (zJ aI (zJ aI (dX (zt 4) none ⇑(zt 5)) (zt 8)) (dX (zt 4) ⇑(zt 9) none))) aE)
  (zM (zw 5) (zt 9)))) aE))
def tV:=uS mQ.eq_1
def gc:WF:=fW 4 11 [0,1,2,3]
 (zK (zM (eM [zw 4,zw 5]) (bO (zu (wC (.str [])) (zu (wC (.int 0)) zv))))
  (zK (fH (aX (zJ aI (wC (.int 1)) (zL dM [true,true] (zu (zt 0) (zu (wC (.int 9)) zv))))) (zw 6) mQ)
  (zK (cU (fM (aG eG (zt 4) (wC (.str []))) (aG cS (zL dM [true,true] (zu (zt 0) (zu (wC (.int 5)) zv))) (wC (.int 0)))) (zK (zM (zw 10) (zL dM [true,true] (zu (zt 0) (zu (wB aQ (zu (zt 4) zv)) zv))))
  (zM (zw 4) (zJ aI (zJ aI (dX (zt 4) none ⇑(zt 10)) (bK (zt 2) (zL dM [true,true] (zu (zt 0) (zu (wB aQ (zu (zt 2) zv)) zv))))) (dX (zt 4) ⇑(zJ aI (zt 10) (wC (.int 1))) none)))) aE)
  (aV (zt 4)))))
def iB:WS:=cU (aG eG (bK (zt 1) (bK (zt 2) (iE cX (wC (.int 1))))) (bR zv)) (zM (zw 2) (zJ aI (zt 2) (bO (zu (bK (bK (zt 1) (bK (zt 2) (iE cX (wC (.int 1))))) (zL dM [true,true] (zu (zt 0) (zu (wB aQ (zu (bK (zt 1) (bK (zt 2) (iE cX (wC (.int 1))))) zv)) zv)))) zv)))) aE
def du:=uS iB.eq_1
def pB:WF:=fW 2 5 [0,1]
 (zK (zM (zw 2) (bO (zu (wC (.int 0)) zv)))
  (zK (fH (aX (zL dM [true,true] (zu (zt 0) (zu (wC (.int 9)) zv)))) (zw 3) iB)
  (zK (zM (zw 4) (bV (zL tT [true,true] (zu (zt 1) (zu (bK (zt 2) (iE cX (wC (.int 1)))) zv)))))
  (zK (cU (aG cS (zt 4) (bO zv)) (aV (bO zv)) aE)
  (aV (zJ aI (zt 2) (dX (zt 4) ⇑(wC (.int 1)) none)))))))
def oZ:WF:=fW 3 10 [0,1,2]
 (zK (zM (zw 3) (wC (.str [32,33,34,35,36,38,39,40,41,42,43,44,45,46,47,48,49,50,51,52,53,54,55,56,57,58,59,60,61,62,63,64,65,66,67,68,69,70,71,72,73,74,75,76,77,78,79,80,81,82,83,84,85,86,87,88,89,90,91,92,93,94,95,96,97,98,99,100,101,102,103,104,105,106,107,108,109,110,111,112,113,114,115,116,117,118,119,120,121,122,123,124,125,126,10])))
  (zK (zM (zw 4) (bK (bR (zu (zt 3) (zu (wC (.str [43,45,32,46])) (zu (zJ aI (iU bF (wC (.str [])) (zu (zt 1) zv)) (wC (.str [43]))) zv)))) (zL dM [true,true] (zu (zt 0) (zu (wC (.int 3)) zv)))))
  (zK (zM (zw 4) (bK (zt 4) (zL dM [true,true] (zu (zt 0) (zu (wB aQ (zu (zt 4) zv)) zv)))))
  (zK (zM (zw 5) (zL dM [true,true] (zu (zt 0) (zu (zJ aI (wB aQ (zu (zt 2) zv)) (wC (.int 1))) zv))))
  (zK (zM (zw 6) (zL dM [true,true] (zu (zt 0) (zu (wC (.int 6)) zv))))
  (zK (cU (aG yB (zt 6) (wC (.int 3))) (aV (zJ aI (zJ aI (dX (zt 2) none ⇑(zt 5)) (bK (bR (zu (zt 4) (zu (wC (.str [])) (zu (zt 4) zv)))) (zt 6))) (dX (zt 2) ⇑(zJ aI (zt 5) (wB gA (zu (eI (aG oJ (zt 6) (wC (.int 0)))) zv))) none))) aE)
  (zK (zM (zw 7) (iU fK (zt 2) (zu (wC (.str [32])) zv)))
  (zK (mY 8 9 (zu (zL dM [true,true] (zu (zt 0) (zu (wB aQ (zu (zt 7) zv)) zv))) (zu (zL dM [true,true] (zu (zt 0) (zu (wB aQ (zu (zt 7) zv)) zv))) zv)))
  (zK (cU (aG cS (zt 6) (wC (.int 3))) (aV (iU bF (wC (.str [32])) (zu (zJ aI (dX (zt 7) none ⇑(zt 8)) (dX (zt 7) ⇑(zJ aI (zt 8) (wC (.int 1))) none)) zv))) aE)
  (zK (cU (aG cS (zt 6) (wC (.int 4))) (aV (iU bF (wC (.str [32])) (zu (zJ aI (zJ aI (dX (zt 7) none ⇑(zt 8)) (dX (zt 7) ⇑(zt 9) ⇑(zJ aI (zt 9) (wC (.int 1))))) (dX (zt 7) ⇑(zt 8) none)) zv))) aE)
  (aV (iU bF (wC (.str [32])) (zu (zJ aI (zJ aI (dX (zt 7) none ⇑(zt 8)) (dX (zt 7) ⇑(zt 9) ⇑(zJ aI (zt 9) (wC (.int 1))))) (dX (zt 7) ⇑(zJ aI (zt 8) (wC (.int 1))) none)) zv)))))))))))))
def mU:WB:=mH 7 (zt 9) (zt 8)
def uD:=uB mU.eq_1
def mV:WS:=zK (mY 5 6 (zu (dX (zt 4) none ⇑(iE cX (wC (.int 1)))) (zu (dX (zt 4) ⇑(iE cX (wC (.int 1))) none) zv)))
  (zK (cU (gT (aG bT (zt 5) (zt 2)) (iX [([43],[111,110]),([45],[98,97,99,107])] false (zt 6))) (iG kT [114,111,119] (wC (.int 0))) aE)
  (wExpr (bC 3 (bO (zu (pE [([43],[111,110]),([45],[98,97,99,107])] (zt 6)) (zu (mD (zt 2) (zt 5)) zv))))))
def jY:=uS mV.eq_1
def gn:WF:=fW 2 7 [0,1]
 (zK (cU (aG cS (zt 1) (wC (.str [46]))) (aV (bO zv)) aE)
  (zK (yI 2 (zM (zw 2) (gp (.dct false [] []) 7 2 (nA (zt 0)) (eM [zw 8,zw 9]) dP mU)))
  (zK (zM (zw 3) (bR zv))
  (zK (fH (bY (iU fK (zt 1) (zu (wC (.str [32])) zv))) (zw 4) mV)
  (aV (wB cH (zu (zt 3) zv)))))))
def mS:WS:=zK (zM (zw 6) (zJ aI (bK (zt 1) (zL dM [true,true] (zu (zt 0) (zu (wB aQ (zu (zt 1) zv)) zv)))) (zL gk [true,true,true] (zu (zt 0) (zu (zt 1) (zu (zJ dR (zt 3) (wC (.int 1))) zv))))))
  (zK (cU (fM (aG eG (zt 4) (bR zv)) (aG cS (zL dM [true,true] (zu (zt 0) (zu (wC (.int 2)) zv))) (wC (.int 0)))) (zM (zw 6) (dX (zL gj [true,true,true] (zu (zt 0) (zu (zt 1) (zu (zt 4) zv)))) none ⇑(zt 3))) aE)
  (cU (aG bT (zt 6) (zt 4)) (wExpr (bC 4 (zt 6))) aE))
def tZ:=uS mS.eq_1
def gh:WF:=fW 4 7 [0,1,2,3]
 (zK (zM (zw 4) (bR zv))
  (zK (fH (aX (zJ cN (zL dM [true,true] (zu (zt 0) (zu (zJ aI (zt 2) (wC (.int 1))) zv))) (wB gA (zu (eI (aG eG (zt 1) (wC (.str [])))) zv)))) (zw 5) mS)
  (aV (wB cH (zu (zt 4) zv)))))
def lB:WB:=bQ 5 (bK (zt 2) (zL dM [true,true] (zu (zt 0) (zu (wB aQ (zu (zt 2) zv)) zv))))
def pM:=uB lB.eq_1
def tS:WF:=fW 1 5 [0]
 (zK (zM (zw 1) (zL gm [true,true] (zu (zt 0) (zu (zJ aI (wC (.int 1)) (zL dM [true,true] (zu (zt 0) (zu (wC (.int 3)) zv)))) zv))))
  (zK (zM (zw 2) (bV (zL gh [true,true,true,true] (zu (zt 0) (zu (zt 1) (zu (wC (.int 6)) (zu (wC (.int 6)) zv)))))))
  (zK (zM (zw 3) (bV (zL gc [true,true,true,true] (zu (zt 0) (zu (zt 2) (zu (zt 1) (zu (wC (.int 12)) zv)))))))
  (zK (zM (zw 4) (bV (zL pB [true,true] (zu (zt 0) (zu (bV (zL mW [true,true] (zu (zt 2) (zu (zt 3) zv)))) zv)))))
  (zK (cU (aG cS (zt 4) (bO zv)) (zK (zM (zw 3) (iU bF (wC (.str [])) (zu (iV 5 1 (aX (zJ aI (wC (.int 1)) (zL dM [true,true] (zu (zt 0) (zu (wC (.int 2)) zv))))) (zw 6) dP lB) zv)))
  (zM (zw 4) (bV (zL pB [true,true] (zu (zt 0) (zu (bV (zL mW [true,true] (zu (zt 2) (zu (zt 3) zv)))) zv)))))) aE)
  (aV (bO (zu (zt 1) (zu (zt 2) (zu (zt 3) (zu (zt 4) zv)))))))))))
def kY(r:WF):WB:=bQ 2 (bV (zL r [true,true] (zu (zt 3) (zu (zt 4) zv))))
def pI(r:WF):=uB (kY.eq_1 r)
def fx(r:WF):WF:=fW 2 2 [0,1]
 (zK (cU (cK (iH "tuple" (zt 1))) (zK (cU (gT (eC (cK (iH "tuple" (zt 0)))) (aG eG (wB aQ (zu (zt 0) zv)) (wB aQ (zu (zt 1) zv)))) (aV (wC (.bl false))) aE)
  (aV (wB sJ (zu (iV 2 2 (tU (zt 0) (zt 1)) (eM [zw 3,zw 4]) dP (kY r)) zv)))) aE)
  (zK (cU (cK (iH "str" (zt 1))) (aV (gI (iH "str" (zt 0)) (eI (aG cS (zt 0) (zt 1))))) aE)
  (aV (gI (iH "int" (zt 0)) (gI (mZ (iH "bool" (zt 0))) (eI (aG cS (zt 0) (zt 1))))))))
def tQ:WF:=pC fx 4
def tN:WF:=fW 2 4 [0,1]
 (zK (zM (zw 2) (wC .non))
  (zK (iF [kT] 3 (aV (bO (zu (wC (.str [116,111,108,100])) (zu (zL gn [true,true] (zu (zt 0) (zu (zt 1) zv))) zv)))) (zM (zw 2) (zt 3)))
  (zK (cU (gT (cK (jA [kT] [] (zt 2))) (eC (cK (jA [kT] [kT] (zt 2))))) (aV (wC (.str [111,116,104,101,114]))) aE)
  (zK (cU (gT (eC (cK (jA [kT] [kT] (zt 2)))) (gT (cK (iH "bool" (iZ [kT] [114,111,119] (zt 2)))) (aG eG (iZ [kT] [114,111,119] (zt 2)) (wC (.int 0))))) (aV (wC (.str [111,116,104,101,114]))) aE)
  (aV (bO (zu (wC (.str [114,101,102,117,115,101,100])) (zu (iZ [kT] [114,111,119] (zt 2)) zv))))))))
def iY:WF:=fW 2 3 [0,1]
 (zK (zM (zw 2) (bO (zu (wC (.str [116,111,108,100])) (zu (zL tO [true,true] (zu (zt 0) (zu (zt 1) zv))) zv))))
  (zK (cU (aG cc (bK (zt 2) (wC (.int 1))) (wC .non)) (zM (zw 2) (bO (zu (wC (.str [114,101,102,117,115,101,100])) (zu (wC (.int 0)) zv)))) aE)
  (aV (zL tQ [true,true] (zu (bV (zL tN [true,true] (zu (zt 0) (zu (zt 1) zv)))) (zu (zt 2) zv))))))
def gC:WB:=bQ 11 (bO (zu (bK (bR (zu (wC (.str [111,110])) (zu (wC (.str [98,97,99,107])) zv))) (zL dM [true,true] (zu (zt 1) (zu (wC (.int 2)) zv)))) (zu (zL dM [true,true] (zu (zt 1) (zu (wB aQ (zu (zt 3) zv)) zv))) zv)))
def pG:=uB gC.eq_1
def kU:WS:=zK (zM (zw 1) (zL dn [true,true] (zu (zt 0) (zu (zt 9) zv))))
  (zK (zM (zw 10) (bV (zL oZ [true,true,true] (zu (zt 1) (zu (zt 3) (zu (zt 8) zv))))))
  (zK (cU (aG cS (zL dM [true,true] (zu (zt 1) (zu (wC (.int 2)) zv))) (wC (.int 0))) (zM (zw 10) (bV (zL oZ [true,true,true] (zu (zt 1) (zu (zt 3) (zu (zt 10) zv)))))) aE)
  (cU (gT (eC (cK (zL iY [true,true] (zu (zt 3) (zu (zt 10) zv))))) (eC (cK (zL iY [true,true] (zu (gD (zt 3)) (zu (zt 10) zv)))))) (aV (wC (.bl false))) aE)))
def pH:=uS kU.eq_1
def mT:WF:=fW 1 11 [0]
 (zK (zM (zw 1) (zL dn [true,true] (zu (zt 0) (zu (wC (.int 0)) zv))))
  (zK (zM (eM [zw 2,zw 3,zw 4,zw 5]) (zL tS [true] (zu (zt 1) zv)))
  (zK (zM (zw 6) (bV (zL tR [true,true,true] (zu (zt 3) (zu (zt 4) (zu (zt 5) zv))))))
  (zK (cU (fM (aG cS (zL dM [true,true] (zu (zt 1) (zu (wC (.int 3)) zv))) (wC (.int 0))) (aG eG (zt 3) (bO zv))) (zK (zM (zw 7) (bV (gH (aX (zL dM [true,true] (zu (zt 1) (zu (wC (.int 25)) zv)))))))
  (zM (zw 6) (wB cH (zu (iV 11 1 (bY (zt 7)) (zw 12) dP gC) zv)))) aE)
  (zK (zM (zw 8) (bV (zL tP [true,true] (zu (zt 3) (zu (zt 6) zv)))))
  (zK (cU (gT (eC (cK (zL tQ [true,true] (zu (bV (zL dq [true,true] (zu (zt 3) (zu (zt 6) zv)))) (zu (zt 8) zv))))) (eC (cK (zL iY [true,true] (zu (zt 3) (zu (zt 8) zv)))))) (aV (wC (.bl false))) aE)
  (zK (fH (eO (wC (.int 1)) (wC (.int 9))) (zw 9) kU)
  (zK (cU (eC (cK (zL iY [true,true] (zu (zt 3) (zu (iU bF (wC (.str [32])) (zu (zJ gL (bR (zu (zt 8) zv)) (zJ gM (wC (.int 601)) (zJ aI (wB aQ (zu (zt 8) zv)) (wC (.int 1))))) zv)) zv))))) (aV (wC (.bl false))) aE)
  (aV (gI (zL iY [true,true] (zu (zt 3) (zu (wC (.str [])) zv))) (gI (zL iY [true,true] (zu (zt 3) (zu (zt 8) zv))) (eI (aG cS (zL dq [true,true] (zu (zt 3) (zu (zt 6) zv))) (zt 8))))))))))))))
end Law
end
namespace Law
open FL
variable{P:S->List S->Prop}{PX:D->List S->Prop}
set_option hygiene false in
local macro_rules
 |`(tactic|simp! [$xs,*] $[$l:location]?)=>do
  let ls<-("e_C e_V zsZ zoE zoN e_Un zrz zrU e_Ck zsK zqq zom zo3 zmy zmj ztt zpc zoY e_Or zsT zsj zrp zpX zso zpq zpn zml zmA zoH zmC zmX zru zp8 zm2 zm9 ztj e_gA ztP zrn e_gv e_gl ztR zs1 zoI zpd zrh zpF zp9 e_l0 e_l1 e_l2 e_l3 e_l4 e_l5 e_vv e_vl e_cv e_cl zp0 e_sh zax zpS e_Ix zs8 zsB zqs zn4 zrk zrx zrq zqY ztm ztB ztg zrV zrH ztJ zrC e_p0 e_pv e_pl ztw e_pA e_b0 e_bv e_bl zqr znC zmD zoM zqL e_vA zsq e_B e_B1 e_B2 e_MS zsu zto e_Ap zrP zsD zsG zts zrt zp5 zpg ztO zn5 zna zne znK e_Di zqO zqR zre zpu zrb e_Pt ztQ zsC e_Sl ztH ztk zrE ztp e_nx e_rt e_ex zpz zrg e_If zsE zs5 zq2 zpa zmR zsm zoO zpf zsi zpy zpm zoy e_gN e_gT zqU zsf zry zri ztx zqc zn9 zpx zo0 znZ znG e_Dp zsg zqB zsL zth zsO e_It ztL zr5 zqV zqK zsP e_En zs6 zqQ zq5 e_Zi zq4 zqZ zrI ztl ztK e_R1 zsY zsp e_R2 zsF zr6 zsN ztn zoh zsl e_LC zsH zr4 zox zrw zn8 zsb e_Em zra zsh zsW zqG zsy e_Rt zq9 zrF e_Fn e_f0 e_fs e_fl e_fA zrR zpr zpZ zpH zr3 zoz zqX zoK zrL zqF e_lt e_gt e_le e_ge zqo zqE zpA ztI ztN zn7 zpJ zoo zn1 zou zqn zss zrJ zty zrT zsA zsk zrd zs9 zqI zs2 zrM zsR zrr zsS zrZ ztb zrj ztv ztG zta zrm zrc zte zr7 zrO zst ztA zs7 ztz zqJ zsz zqD zse zqH ztu ztr zsx ztE zro zoj zoC zoi zqi zoT zoU zoL zqm zol zpG zob zpb zp7 zsn zsQ zqP zp2 e_AA zr2 zr8 zq8 ztf zr9 zsc zqf zoR ztF zpB zpt zqM zs3 e_XA ztd zrN zqS zr1 zhO e_LI zsM e_TR zrv zsa zqp e_CM zrs e_Pu zrK zqN zq1 zr0 znB e_ML zq0 zsX zd9 ztq e_Rz zrA ztM e_XF zq3 zsv zpU znf zmV znu zrX zpL zqj e_GI zsd zq7 zsU e_GT ztC ztc e_MT zrl zrQ znV map_some S.toD_sh S.toD_lst qy map_nil qN nil_append replicate_succ List.replicate_zero Nat.reduceSub Nat.reduceAdd qz List.take_succ_cons List.take_zero true_and S.toDs_map S.toD_dct Int.reduceEq Int.reduceLT Int.reduceLE decide_true decide_false Bool.not_true Bool.not_false".splitOn " ").toArray.mapM λn=>`(Lean.Parser.Tactic.simpLemma|$(Lean.mkIdent n.toName):ident)
  let ls:=ls++xs.getElems
  `(tactic|simp -implicitDefEqProofs (disch:=first|omega|decide|rfl|(simp only[qh,qp,qr,qv,qC,bS];omega)|(simp only[qh,qp,qr,qv,qC,bS];done)) only[$ls,*] $[$l:location]?)
local macro_rules|`(tactic|lia)=>`(tactic|lia -verbose)
noncomputable section pu
def aH(a s:Int):S:=.lst [.sh (.int a),.sh (.int s)]
def AC{a s m:Int}(F:0<=a)(I:1<=s)(i:s<=2147483629)(B:0<m)(J:m<18446744073709551616)
  (h:∀r G s',0<=r->r<m->0<=G->1<=s'->s'<=2147483629->P (.sh (.int r)) [aH G s',.sh (.int m)]):dM [aH a s,.sh (.int m)] P PX:=by
 show AJ rfl rfl ?_;simp! [aH];cases L:↥(0<a)
 .simp! [e_C];show h _ _ _ (Int.emod_nonneg _ ∅) (Int.emod_lt_of_pos _ B) F ∅ ∅
 .simp! [e_C];show h _ _ _ (Int.emod_nonneg _ ∅) (Int.emod_lt_of_pos _ B) (Int.ediv_nonneg F ∅) I i
def Qd{T:Env->Prop}{E:Ends}{ns:List Int}{k:Int}(B:0<=k)(h:∀c,T [⇑(.sh (.lst (ns.map .int))),⇑(.sh (.int k)),⇑(.sh (.int c)),none]):wY (zM (zw 2) (bK (zt 0) (zt 1))) (cU (aG oJ (wB aQ (zu (zt 0) zv)) (wC (.int 0))) (zM (zw 2) (zJ aI (zt 2) (zJ cN (zJ eR (bK (zt 0) (zJ eR (zt 1) (wB aQ (zu (zt 0) zv)))) (wC (.int 2147483629))) (wC (.int 69623))))) aE) (pD E T) ↥(k<ns.length) [⇑(.sh (.lst (ns.map .int))),⇑(.sh (.int k)),⇑(.sh (.int (7919*k+11))),none]:=by
 by_cases h1:k<ns.length
 .obtain⟨v,_,_,e⟩:=Dd (f:=D.int) B h1;simp! [h1,decide_true,e];show h _
 .by_cases h2:0<ns.length
  .let i:(0:Int)<ns.length:=by lia
   let#[v,_,_,e]:=Dd (f:=D.int) (l:=ns) (z:=k %ns.length) (Int.emod_nonneg _ ∅) (Int.emod_lt_of_pos _ i);simp! [length_map,h1,i,decide_true,decide_false,e];show h _
  .let i:¬(0:Int)<ns.length:=by lia
   simp! [length_map,h1,i,decide_false];show h _
def JG{ns:List Int}{k:Int}(B:0<=k)
  (h:∀a s,0<=a->1<=s->s<=2147483629->P (aH a s) [.sh (.lst (ns.map .int)),.sh (.int k)]):dn [.sh (.lst (ns.map .int)),.sh (.int k)] P PX:=by
 show AJ rfl rfl ?_;simp! [length_map];show Qd B λi=>?_;simp! [e_C];cases F:↥((10:Int)^(18:Int).toNat<=i)
 .simp! [if_true,false_eq_true,if_false];show h _ _ ⋯ ∅ ∅
 .simp! [if_true];let:(0:Int)<=i:=by
   let:=qT F;let e:(10:Int)^(18:Int).toNat=1000000000000000000:=⋯
   lia
  show h _ _ this ∅ ∅
def letters:List Nat:=[97,98,99,100,101,102,103,104,105,106,107,108,109,110,111,112,113,114,115,116,117,118,119,120,121,122]
def RJ{Q:Env->Prop}{E:WX}{m:Int}:∀(xs:List D)(a s:Int)(L A:List Nat)(o:Option S),xs.length<=L.length->0<=a->1<=s->s<=2147483629->(A++L).Perm letters->
  (∀O s'(U M:List Nat) o',0<=O->1<=s'->s'<=2147483629->M.length=A.length+xs.length->(M++U).Perm letters->Q [⇑(aH O s'),⇑(.sh (.int m)),⇑(.lst ((U.map sg).map .sh)),⇑(.lst ((M.map sg).map .sh)),o'])->
  aU (zw 4) dP jW xs [⇑(aH a s),⇑(.sh (.int m)),⇑(.lst ((L.map sg).map .sh)),⇑(.lst ((A.map sg).map .sh)),o] Q E:=by
 intro xs;induction xs with
 |nil=>intro a s L A o h1 ha Z B i h;show h a s L A o ha Z B (by simp) i
 |cons x xs ih=>
  intro a s L A o h1 ha Z B i h;let J:=i.length_eq;let h5:letters.length=26:=rfl;simp only[qr,qp]at h1 h J;rw[bw];simp! [uC,e_sh,zax,aH,length_map];show AC ha Z B ?_ ?_ λr O s' hr h2 h4 Y I=>?_
  .lia
  .lia
  simp! [e_sh,zax,aH,length_map];let#[c,hc,hg,_]:=Dx (l:=L) hr h2;show Iu hr (by simp only[qh,bS];lia) (TN (d:=sg c) (by rw[qE,hg];rfl)) ?_;simp! [e_sh,zax,aH,length_map];show#[by simp only[bS];lia,?_];let e1:((L.map sg).map S.sh).eraseIdx r.toNat=((L.eraseIdx r.toNat).map sg).map S.sh:=by rw[Hj,Hj]
  let e2:((A.map sg).map S.sh)++[S.sh (sg c)]=(((A++[c]).map sg).map S.sh):=by simp
  rw[e1,e2];let G:r.toNat<L.length:=∅
  let hl:(L.eraseIdx r.toNat).length=L.length-1:=List.length_eraseIdx_of_lt G;let h3:L[r.toNat]=c:=by rw[getElem?_eq_getElem G]at hg;show qf hg
  let F:(A++[c]++L.eraseIdx r.toNat).Perm (A++L):=by rw[qo];show List.Perm.append_left A ?_;let:=LL L r.toNat G;rw[h3]at this;show this
  show ih O s' _ _ _ ∅ h4 Y I (F.trans i) λa2 s2 U M o' x1 x2 x3 x4 x5=>h a2 s2 U M o' x1 x2 x3 (by rw[x4];simp only[qp,qB];lia) x5
def Vt{a s m:Int}(ha:0<=a)(hs:1<=s)(J:s<=2147483629)(hm:0<=m)(h2:m<=26)
  (h:∀(l:List Nat) G s',l.length=m.toNat->l.Pairwise (·<·)->(∀c∈l,97<=c/\c<=122)->0<=G->1<=s'->s'<=2147483629->P (.sh (.str l)) [aH G s',.sh (.int m)]):gm [aH a s,.sh (.int m)] P PX:=by
 refine AJ rfl rfl ?_;simp! [aH,e_sh,zax];show#[by simp only[bS];lia,?_];let hf:(fromTo 0 m.toNat).length=m.toNat:=Ca;let h1:letters.length=26:=rfl;refine RJ (fromTo 0 m.toNat) a s letters [] none (by rw[hf,h1];lia) ha hs J (List.Perm.refl _)
  λG s' L' A' o' Z L i hA B=>?_
 rw[hf,qv,zero_add]at hA;let O:A'.Nodup:=(qw.mp (B.nodup_iff.mpr ⋯)).1;let U:∀c∈A',97<=c/\c<=122:=λc Y=>by
  let:c∈letters:=B.mem_iff.mp (qj _ Y);let F:∀c∈letters,97<=c/\c<=122:=⋯
  show F c this
 let#[A2,M,I,e]:=NQ (A:=A') ∅;let hl:A2.length=m.toNat:=M.length_eq.trans hA;simp! [aH,e_sh,zax,e,Jc (show A2.length<=big by simp only[bS];lia)];show h A2 G s' hl (SG I (M.nodup_iff.mpr O)) (λc Y=>U c (M.mem_iff.mp Y)) Z L i
def RR{Q:Env->Prop}{E:WX}{m many:Int}{col:List Nat}(hc:0<col.length)(h1:col.length<=26):∀(xs:List D)(a s:Int)(A:List Nat)(o:Option S),0<=a->1<=s->s<=2147483629->A.length+xs.length<=1000->
  (∀G s'(F:List Nat) o',0<=G->1<=s'->s'<=2147483629->F.length=A.length+xs.length->(∀z∈F,z∈A\/z∈col)->Q [⇑(aH G s'),⇑(.sh (.str col)),⇑(.sh (.int m)),⇑(.sh (.int many)),⇑(.lst ((F.map sg).map .sh)),o'])->
  aU (zw 5) dP jV xs [⇑(aH a s),⇑(.sh (.str col)),⇑(.sh (.int m)),⇑(.sh (.int many)),⇑(.lst ((A.map sg).map .sh)),o] Q E:=by
 intro xs;induction xs with
 |nil=>intro a s A o Y L i Z h;show h a s A o Y L i (by simp) λz I=>.inl I
 |cons x xs ih=>
  intro a s A o Y L i Z h;simp only[qr]at Z h;rw[bw];simp! [uA,e_sh,zax,aH,length_map];show AC Y L i ∅ ∅ λr G s' hr M U J B=>?_;let#[c,O,_,e]:=Dx (l:=col) hr M;simp! [e,e_sh,zax,aH,length_map];show#[by simp only[bS];lia,?_];let e2:((A.map sg).map S.sh)++[S.sh (.str [c])]=(((A++[c]).map sg).map S.sh):=by simp[sg]
  rw[e2];show ih G s' _ _ U J B (by simp only[qp,qB];lia) λa2 s2 F o' x1 x2 x3 x4 x5=>h a2 s2 F o' x1 x2 x3 (by rw[x4];simp only[qp,qB];lia) λz I=>?_;rcases x5 z I with q|q
  .rcases qx.mp q with q|q
   .show .inl q
   .rw[qt.mp q];show .inr O
  .show .inr q
def Ta{a s m:Int}{col:List Nat}(ha:0<=a)(hs:1<=s)(G:s<=2147483629)(hm:0<=m)(h2:m<=900)(O:0<col.length)(M:col.length<=26)
  (h:∀(l:List Nat) F s',l.length<=m.toNat->(∀z∈l,z∈col)->0<=F->1<=s'->s'<=2147483629->P (.sh (.str l)) [aH F s',.sh (.str col),.sh (.int m)]):gk [aH a s,.sh (.str col),.sh (.int m)] P PX:=by
 show AJ rfl rfl ?_;simp! [aH,e_sh,zax];show AC ha hs G ∅ ∅ λr a1 s1 hr h1 U I i=>?_;let L:↥(col=[])=false:=by simp;intro z;rw[z]at O;simp at O
 simp! [aH,e_sh,zax,L,Bool.not_false,if_true,mul_one];show#[by simp only[bS];lia,?_];let Z:(fromTo 0 r.toNat).length=r.toNat:=Ca;show RR (A:=[]) O M _ a1 s1 none U I i (by rw[Z];simp only[qv];lia) λF s' A' o' Y J B hA hg=>?_;rw[Z,qv,zero_add]at hA;simp! [aH,e_sh,zax];rw[Jc (by simp only[bS];lia)];simp! [aH,e_sh,zax];show h A' F s' ∅ (λz hz=>(hg z hz).resolve_left (by simp)) Y J B
def QV{a s:Int}{col:List Nat}{B:List Wd}(ha:0<=a)(hs:1<=s)(L:s<=2147483629)(hc:0<col.length)(hb:col.length<=26)(hB:0<B.length)(hl:B.length<=1000)(hw:∀w∈B,w≠[]/\w.length<=1000/\∀c∈w,c∈col)
  (h:∀(w:Wd) a' s',w≠[]->w.length<=2000->(∀c∈w,c∈col)->0<=a'->1<=s'->s'<=2147483629->P (.sh (.str w)) [aH a' s',.sh (.str col),.lst ((B.map D.str).map .sh)]):gj [aH a s,.sh (.str col),.lst ((B.map D.str).map .sh)] P PX:=by
 show AJ rfl rfl ?_;simp! [aH,e_sh,zax,length_map];show AC ha hs L ∅ ∅ λr a1 s1 hr h6 e2 h4 Y=>?_;let#[w,h2,_,e]:=Dd (f:=λz=>S.sh (D.str z)) (l:=B) hr h6;let e':atI ((B.map D.str).map S.sh) r=⇑(S.sh (.str w)):=by rw[qD];show e
 let#[M,e4,G]:=hw w h2;let e3:0<w.length:=qO.mpr M;simp! [aH,e'];show AC e2 h4 Y ⋯ ⋯ λkd a2 s2 hi hp e1 L U=>?_;simp! [aH];show AC e1 L U ∅ ∅ λr3 a3 s3 h5 Z h9 h3 O=>?_;let#[c,h1,_,ec]:=Dx (l:=col) h5 Z;simp! [aH,ec];show AC h9 h3 O ∅ ∅ λp a4 s4 h7 hk J I i=>?_;simp! [aH];rw[EJ w ∅ ∅,Dg w h7];let h8:kd=0\/kd=1\/kd=2\/kd=3\/kd=4:=∅
 rcases h8 with rfl|rfl|rfl|rfl|rfl
 .simp! [aH];refine h _ _ _ ?_ ?_ (λc hc=>G c (mem_of_mem_take hc)) J I i
  .intro z;let:=congrArg List.length z;rw[qG,qv]at this;lia
  .rw[qG];lia
 .simp! [aH];refine h _ _ _ ?_ ?_ (λc hc=>G c (List.mem_of_mem_drop hc)) J I i
  .intro z;let:=congrArg List.length z;rw[qF,qv]at this;lia
  .rw[qF];lia
 .simp! [aH];show h _ _ _ (by simp) (by simp;lia -verbose) (λx F=>?_) J I i;rcases qA.mp F with rfl|F
  .show h1
  .show G x F
 .simp! [aH];show h _ _ _ (by simp) (by simp;lia -verbose) (λx F=>?_) J I i;rcases qx.mp F with F|F
  .show G x F
  .rw[qt.mp F];show h1
 .simp! [aH];show h _ _ _ (by simp[M]) (by simp;lia -verbose) (λx F=>?_) J I i;rcases qx.mp F with F|F<;>show G x F
def lV(col:List Nat)(many i:Nat)(B:List Wd):Prop:=B.length<=many/\B.Nodup/\∀w∈B,w≠[]/\w.length<=i/\∀c∈w,c∈col
def zI(B:List Wd):D:=.tup (B.map D.str)
def TJ{a s many i:Int}{col:List Nat}(O:0<=a)(M:1<=s)(G:s<=2147483629)(U:0<col.length)(e1:col.length<=26)(hm:0<=many)(hm2:many<=500)(ho:1<=i)(ho2:i<=500)
  (h:∀(B:List Wd) a' s',lV col many.toNat i.toNat B->0<=a'->1<=s'->s'<=2147483629->P (.sh (zI B)) [aH a' s',.sh (.str col),.sh (.int many),.sh (.int i)]):gh [aH a s,.sh (.str col),.sh (.int many),.sh (.int i)] P PX:=by
 show AJ rfl rfl ?_;simp! [aH];show AC O M G ∅ ∅ λr a1 s1 hr hr2 ha1 hb h7=>?_;let hq:↥(col=[])=false:=by simp;intro z;rw[z]at U;simp at U
 simp! [aH,hq,if_true,mul_one];show#[by simp only[bS];lia,?_];show VL (λk ρ=>∃(a s:Int)(B:List Wd)(o5 o6:Option S),0<=a/\1<=s/\s<=2147483629/\lV col k i.toNat B/\ρ=[⇑(aH a s),⇑(.sh (.str col)),⇑(.sh (.int many)),⇑(.sh (.int i)),⇑(.lst ((B.map D.str).map .sh)),o5,o6]) _ (λk x hk D2 ρ hI h9 hct hrt hbk=>?_) (λρ hI=>?_) #[a1,s1,[],none,none,ha1,hb,h7,#[by simp,by simp,by simp],rfl]
 .obtain⟨a,s,B,o5,o6,O,M,G,hB,rfl⟩:=hI;let r2:=(qg.mp hk).1;rw[Ca]at r2;let#[hB1,e4,I]:=hB;simp! [aH,tZ];show AC O M G ∅ ∅ λr3 a2 s2 hd h8 k3 G h6=>?_;let#[c,k1,_,ec]:=Dx (l:=col) hd h8;simp! [aH,ec];refine Ta k3 G h6 ∅ ∅ U e1 λw a3 s3 hw1 hp e3 h4 L=>?_
  --what is done with a word
  have put:∀(w:Wd)(a s:Int),0<=a->1<=s->s<=2147483629->w≠[]->w.length<=i.toNat->(∀c∈w,c∈col)->
    (cU (aG bT (zt 6) (zt 4)) (wExpr (bC 4 (zt 6))) aE) D2 [⇑(aH a s),⇑(.sh (.str col)),⇑(.sh (.int many)),⇑(.sh (.int i)),⇑(.lst ((B.map D.str).map .sh)),⇑(.sh x),⇑(.sh (.str w))]:=λw a s O M G h1 h2 h3=>by
   simp! [aH,zax,Qq];cases q:↥(w∈B)
   .simp! [length_map];rw[show((B.map D.str).map S.sh)++[S.sh (.str w)]=((B++[w]).map D.str).map S.sh by simp];refine#[by simp only[bS];lia,h9 _ #[a,s,_,_,_,O,M,G,#[by simp only[qp,qB];lia,?_,λx Y=>?_],rfl]]
    .show qw.mpr #[e4,by simp,λx Y y hy e=>?_];rw[qt.mp hy]at e;subst e;let:=of_decide_eq_false q;show this Y
    .rcases qx.mp Y with z|z
     .show I x z
     .rw[qt.mp z];show#[h1,h2,h3]
   .simp! [e_C];show h9 _ #[a,s,B,_,_,O,M,G,#[∅,e4,I],rfl]
  have F:([c]++w)≠[]/\([c]++w).length<=i.toNat/\∀x∈[c]++w,x∈col:=by
   show#[by simp,by simp;lia,λx Y=>?_];rcases qx.mp Y with z|z
   .rw[qt.mp z];show k1
   .show hp x z
  simp! [aH,zax,Rp,length_cons,length_nil];cases q:↥(B=[])
  .simp! [aH];show AC e3 h4 L ⋯ ⋯ λr4 a4 s4 hr4 hr42 e2 Z J=>?_;simp! [aH];cases q2:↥(r4=0)
   .simp! [e_C];let:=put _ a4 s4 e2 Z J F.1 F.2.1 F.2.2;simp! [aH]at this;show this
   .simp! [aH];show QV e2 Z J U e1 (qO.mpr (of_decide_eq_false q)) ∅ (λw hw=>#[(I w hw).1,by let:=(I w hw).2.1;lia,(I w hw).2.2]) λw2 a5 s5 hn hl r1 k2 hi h5=>?_;simp! [aH];let hw2l:0<w2.length:=qO.mpr hn;let:=put (aO w2 none ⇑i) a5 s5 k2 hi h5 (λz=>?_) ?_ λc U=>r1 c (DW U)
    .simp! [aH]at this;show this
    .let z2:=congrArg List.length z;unfold aO sIx at z2;let:¬i<0:=by lia
     simp only[q5 this,drop_zero,sub_zero,qG,qv]at z2;lia
    .unfold aO sIx;let:¬i<0:=by lia
     simp only[q5 this,drop_zero,sub_zero,qG];lia
  .simp! [e_C];let:=put _ a3 s3 e3 h4 L F.1 F.2.1 F.2.2;simp! [aH]at this;show this
 .obtain⟨a,s,B,o5,o6,O,M,G,hB,rfl⟩:=hI;rw[Ca]at hB;simp! [aH,zax];show h B a s #[by let:=hB.1;lia,hB.2] O M G
abbrev Mv:=Wd×Int
def gE(m:Mv):D:=.tup [.str m.1,.int m.2]
def Oj(l:List Mv):aZ (l.map gE)<=29:=EO _ λd i=>by let#[m,_,rfl]:=qJ.mp i;show 1<=29;decide
def MG{l:List Mv}:eG (.lst (l.map gE)) (.lst [])=⇑(!l.isEmpty):=by rw[Gc (Oj l),List.isEmpty_map]
def Tn{B:List Wd}{t:Wd}{p i:Int}(hB:B.length<=1000)(ht:t.length<=1000)(hp:0<=p)(h5:p<=i)
  (h:∀ms:List Mv,ms.length<=2000->(∀m∈ms,m.1∈B/\0<=m.2/\m.2<=i/\(m.2=p+m.1.length\/m.2<=p))->P (.lst ((ms.map gE).map .sh)) [.sh (zI B),.sh (.str t),.sh (.int p),.sh (.int i)]):gf [.sh (zI B),.sh (.str t),.sh (.int p),.sh (.int i)] P PX:=by
 show AJ rfl rfl ?_;simp! [zI];show BQ (λG ρ=>∃(ms:List Mv)(o:Option S),ms.length<=2*G.length/\(∀m∈ms,m.1∈B/\0<=m.2/\m.2<=i/\(m.2=p+m.1.length\/m.2<=p))/\ρ=[⇑(.sh (zI B)),⇑(.sh (.str t)),⇑(.sh (.int p)),⇑(.sh (.int i)),⇑(.lst ((ms.map gE).map .sh)),o]) B (λG w h1 D2 ρ e Z U h6 h4 h7=>?_) (λρ Z=>?_) #[[],none,by simp,by simp,rfl]
 .obtain⟨ms,o,hl,M,rfl⟩:=Z;let h2:G.length+1<=B.length:=by rw[<-e];simp only[qp,qr];lia
  let O:w∈B:=by rw[<-e];simp
  have snd:∀ms:List Mv,ms.length<=2*G.length+1->(∀m∈ms,m.1∈B/\0<=m.2/\m.2<=i/\(m.2=p+m.1.length\/m.2<=p))->
    (cU (fM (aG yC (zt 2) (wB aQ (zu (zt 5) zv))) (aG cS (dX (zt 1) ⇑(zJ dR (zt 2) (wB aQ (zu (zt 5) zv))) ⇑(zt 2)) (zt 5))) (wExpr (bC 4 (bO (zu (zt 5) (zu (zJ dR (zt 2) (wB aQ (zu (zt 5) zv))) zv))))) aE) D2 [⇑(.sh (zI B)),⇑(.sh (.str t)),⇑(.sh (.int p)),⇑(.sh (.int i)),⇑(.lst ((ms.map gE).map .sh)),⇑(.sh (.str w))]:=λms hl M=>by
   let I:D2.nx [⇑(.sh (zI B)),⇑(.sh (.str t)),⇑(.sh (.int p)),⇑(.sh (.int i)),⇑(.lst ((ms.map gE).map .sh)),⇑(.sh (.str w))]:=U _ #[ms,_,by simp only[qp,qB];lia,M,rfl];simp! [zI];cases q1:↥((w.length:Int)<=p)
   .simp! [e_C];show I
   let h3:=qT q1;simp! [zI];cases q2:↥(aO t ⇑(p-(w.length:Int)) ⇑p=w)
   .simp! [e_C];show I
   simp! [length_map];rw[show((ms.map gE).map S.sh)++[S.sh (.tup [.str w,.int (p-w.length)])]=((ms++[(w,p-w.length)]).map gE).map S.sh by simp[gE]];show#[by simp only[bS];lia,U _ #[_,_,by simp only[qp,qB];lia,λm L=>?_,rfl]];rcases qx.mp L with z|z
   .show M m z
   .rw[qt.mp z];show#[O,by show 0<=p-w.length;lia,by show p-(w.length:Int)<=i;lia,.inr (by show p-(w.length:Int)<=p;lia)]
  simp! [tY,zI];let F:=snd ms ∅ M;simp! [zI]at F;cases q1:↥(aO t ⇑p ⇑(p+(w.length:Int))=aO w none ⇑((t.length:Int)-p))
  .simp! [e_C];show F
  simp! [e_C];cases q2:↥(p+(w.length:Int)<=i)
  .simp! [e_C];show F
  have Y:=qT q2;simp! [length_map];rw[show((ms.map gE).map S.sh)++[S.sh (.tup [.str w,.int (p+w.length)])]=((ms++[(w,p+w.length)]).map gE).map S.sh by simp[gE]];show#[by simp only[bS];lia,?_];let J:=snd (ms++[(w,p+w.length)]) (by simp only[qp,qB];lia) λm L=>by
   rcases qx.mp L with z|z
   .show M m z
   .rw[qt.mp z];show#[O,by show 0<=p+(w.length:Int);lia,Y,.inl rfl]
  simp! [zI]at J;show J
 .obtain⟨ms,o,hl,M,rfl⟩:=Z;simp! [zI];show h ms ∅ M
def Ex{t w:Wd}{p g:Int}(B:0<=p)(i:p<=t.length)(F:g=p+w.length):((aO t none ⇑p++w)++aO t ⇑g none).length=max g.toNat t.length:=by let#[k,rfl]:=Int.eq_ofNat_of_zero_le B;let G:k<=t.length:=ofNat_le.mp i;rw[<-Int.natCast_add]at F;subst F;rw[EJ t B i,Dg t (natCast_nonneg _)];simp only[qp,qG,qF,qV];rw[min_eq_left G,add_comm,Nat.sub_add_eq_max,Nat.max_comm]
def Rr{T:Env->Prop}{E:Ends}{ms:List Mv}{p:Int}{b:Bool}{s0 Y U O M L o8 Z B:Option S}(G:ms.length<=2000)(hT:∀i:List Mv,i.length<=2000->(∀m∈i,m∈ms)->T [s0,Y,U,O,M,⇑(.sh (.int p)),L,⇑(.sh (.lst (i.map gE))),o8,Z,B]):wY (yI 7 (zM (zw 7) (iV 11 1 (bY (zt 7)) (zw 12) (aG oJ (bK (zt 12) (wC (.int 1))) (zt 5)) jU))) aE (pD E T) b [s0,Y,U,O,M,⇑(.sh (.int p)),L,⇑(.sh (.lst (ms.map gE))),o8,Z,B]:=by
 cases b
 .simp! [e_C];show hT ms G λ_ h=>h
 .simp! [e_C];refine HN (n:=11) (toD:=gE) ms (λm=>if ↥(p<m.2)=true then ⇑(.sh (gE m))else none) (λm F l o K hl J=>?_) λo=>?_
  .cases I:↥(p<m.2)
   .simp! [fF,lz,nC,gE,I];rw[I]at J;let:=J ⇑(.sh (gE m));rw[q5 ⋯,toList_none,qz]at this;show this
   .simp! [fF,mL,nC,gE,I];rw[I]at J;show#[by simp only[bS];lia,J _]
  .rw[Fz (λm:Mv=>↥(p<m.2)) (λm=>S.sh (gE m)),show((ms.filter λm:Mv=>↥(p<m.2)).map λm=>S.sh (gE m))=((ms.filter λm:Mv=>↥(p<m.2)).map gE).map S.sh by rw[qD];rfl];simp! [zax];show hT _ (le_trans (List.length_filter_le _ _) G) λm F=>(mem_filter.mp F).1
def QL{a s i:Int}{col:List Nat}{B:List Wd}(ha:0<=a)(Y:1<=s)(I:s<=2147483629)(hc:0<col.length)(hc2:col.length<=26)(hm:0<=i)(hm2:i<=500)(hB:B.length<=1000)(hw:∀w∈B,w.length<=1000/\∀c∈w,c∈col)
  (h:∀(t:Wd) a' s',t.length<=i.toNat->(∀c∈t,c∈col)->(B=[]->t=[])->0<=a'->1<=s'->s'<=2147483629->P (.sh (.str t)) [aH a' s',.sh (zI B),.sh (.str col),.sh (.int i)]):gc [aH a s,.sh (zI B),.sh (.str col),.sh (.int i)] P PX:=by
 show AJ rfl rfl ?_;simp! [aH,length_cons,length_nil];show AC ha Y I ⋯ ⋯ λr a1 s1 hr Z L J F=>?_;simp! [aH];show#[by simp only[bS];lia,?_];show BQ (toD:=λk:Nat=>D.int (0+(k:Int))) (λe4 ρ=>∃(a s:Int)(t:Wd)(p:Int)(o6 o7 o8 o9 U:Option S),0<=a/\1<=s/\s<=2147483629/\t.length<=i.toNat/\(∀c∈t,c∈col)/\(B=[]->t=[])/\0<=p/\p<=t.length/\ρ=[⇑(aH a s),⇑(.sh (zI B)),⇑(.sh (.str col)),⇑(.sh (.int i)),⇑(.sh (.str t)),⇑(.sh (.int p)),o6,o7,o8,o9,U]) (List.range _) (λe4 k r2 D2 ρ e hI h2 hct hrt hbk=>?_) (λρ hI=>?_) #[a1,s1,[],0,none,none,none,none,none,L,J,F,by simp,by simp,λ_=>rfl,⋯,by simp,rfl]
 .obtain⟨a,s,t,p,o6,o7,o8,o9,U,ha,Y,I,ht,G,M,hp,h1,rfl⟩:=hI;simp! [aH,tV];show Tn hB ∅ hp ∅ λms e1 hm=>?_;simp! [aH,zax];show Rr e1 λms h9 h5=>?_;let hm:=λm h3=>hm m (h5 m h3);let e1:=h9;simp! [aH,MG];cases q:ms.isEmpty
  .simp! [aH,length_map];let O:0<ms.length:=by
    cases ms with
    |nil=>cases q
    |cons _ _=>simp
   show AC ha Y I ∅ ∅ λr a1 s1 hr Z L J F=>?_;let#[m,h3,_,em]:=Dd (f:=gE) hr Z;let#[h4,e3,hg1,hg2]:=hm m h3;let#[k3,hx]:=hw m.1 h4;simp! [aH,em,gE,length_cons,length_nil];cases q2:↥(p<m.2)
   .simp! [e_C];let:=of_decide_eq_false q2;show h2 _ #[a1,s1,t,m.2,_,_,_,_,_,L,J,F,ht,G,M,e3,∅,rfl]
   .have k1:=qT q2;let hl:m.2=p+m.1.length:=by lia
    let e2:=Ex hp h1 hl;let l1:(aO t none ⇑p).length<=1000:=le_trans (EZ _ _ _) ∅;let l2:(aO t ⇑m.2 none).length<=1000:=le_trans (EZ _ _ _) ∅;simp! [length_append];show h2 _ #[a1,s1,(aO t none ⇑p++m.1)++aO t ⇑m.2 none,m.2,_,_,_,_,_,L,J,F,by rw[e2];lia,λc hc=>?_,(λz=>by rw[z]at h4;cases h4),e3,by rw[e2];lia,rfl];rcases qx.mp hc with z|z
    .rcases qx.mp z with z|z
     .show G c (DW z)
     .show hx c z
    .show G c (DW z)
  .simp! [e_C];show h2 _ #[a,s,t,p,_,_,_,_,_,ha,Y,I,ht,G,M,hp,h1,rfl]
 .obtain⟨a,s,t,p,o6,o7,o8,o9,U,ha,Y,I,ht,G,M,hp,h1,rfl⟩:=hI;simp! [aH];cases q:↥(t=[])
  .have O:0<t.length:=qO.mpr (of_decide_eq_false q);simp! [aH];show AC ha Y I ⋯ ⋯ λr a1 s1 hr Z L J F=>?_;simp! [aH];cases q2:↥(r=0)
   .simp! [e_C];show h t a1 s1 ht G M L J F
   .simp! [aH];show AC L J F ∅ ∅ λx a2 s2 hk k2 r1 I h7=>?_;simp! [aH];show AC r1 I h7 ∅ ∅ λr3 a3 s3 hb h8 hq hi h6=>?_;let#[c,hd,_,ec]:=Dx (l:=col) hb h8;let l1:(aO t none ⇑x).length<=1000:=le_trans (EZ _ _ _) ∅;let l2:(aO t ⇑(x+1) none).length<=1000:=le_trans (EZ _ _ _) ∅;let l3:=Ex (t:=t) (w:=[c]) (p:=x) (g:=x+1) hk ∅ (by simp);simp! [aH,ec,length_append,length_cons,length_nil];show h _ a3 s3 (by rw[l3];lia) (λy hy=>?_) (λz=>by rw[M z]at O;cases O) hq hi h6;rcases qx.mp hy with z|z
    .rcases qx.mp z with z|z
     .show G y (DW z)
     .rw[qt.mp z];show hd
    .show G y (DW z)
  .simp! [e_C];show h t a s ht G M ha Y I
structure oa(B:List Wd)(w:Wd):Prop where
 nd:B.Nodup
 ne:∀x∈B,x≠[]
 le:∀x∈B,x.length<=1000
 six:B.length<=6
 tw:w.length<=12
def Ts{B:List Wd}{b:D}{w:Wd}(hb:∀z,fZ (.str z) b=⇑↥(z∈B))(h4:w.length<=60)
  (h:P (.lst ((bA B w).map .sh)) [.sh b,.sh (.str w)]):mW [.sh b,.sh (.str w)] P PX:=by
 show AJ rfl rfl ?_;simp! [e_C];show#[by simp only[bS];lia,?_];rw[BJ (n:=w.length+1) ∅];show HM (n:=5) (List.range (w.length+1)) (λ_=>S.lst []) (λp hp l o K hl hK=>?_) λo=>?_
 .rw[qC]at hl;simp! [fF,mL,pQ];show#[by simp only[bS];lia,hK _]
 rw[show((List.range (w.length+1)).map λ_=>S.lst [])=mM w.length λ_=>[] from rfl];simp! [e_C];show#[by simp only[bS];lia,?_];rw[BJ (n:=w.length) rfl];show BQ (λF ρ=>∃(f:Nat->List Nat)(U J:Option S),dW B w F.length (F.length+1) f/\ρ=[⇑(.sh b),⇑(.sh (.str w)),⇑(.lst (mM w.length f)),U,J]) (List.range w.length) (λF i h5 D2 ρ e M Y e1 h9 e4=>?_) (λρ M=>?_) #[λ_=>[],none,none,Ut,rfl]
 .obtain⟨f,U,J,I,rfl⟩:=M;let hi:F.length=i/\i<w.length:=EU e;let#[rfl,hi]:=hi;simp! [pR];show#[by simp only[bS];lia,?_];rw[Cv (a:=F.length+1) (n:=w.length+1) ∅ ∅];refine BQ (λG ρ=>∃(f:Nat->List Nat)(J:Option S),dW B w F.length (F.length+1+G.length) f/\ρ=[⇑(.sh b),⇑(.sh (.str w)),⇑(.lst (mM w.length f)),⇑(.sh (zN F.length)),J]) (List.range' (F.length+1) (w.length+1-(F.length+1))) (λG j O D3 ρ e2 M L h7 h6 h8=>?_) (λρ M=>?_) #[f,J,↑I,rfl]
  .obtain⟨f,J,I,rfl⟩:=M;let hj:j=F.length+1+G.length/\j<=w.length:=by let:=Lx e2;lia
   let#[h3,h2]:=hj;rw[<-h3]at I;let ht:↥(jQ w F.length j∈B)=eJ B w F.length j:=by unfold eJ;rw[qQ (show F.length<j by lia),qQ h2];rfl
   simp! [pS,zN,Jk,hb];rw[ht];cases q:eJ B w F.length j
   .simp! [e_C];show L _ #[f,_,?_,rfl];rw[qp,qB,show F.length+1+(G.length+1)=j+1 by lia];show OG ∅ I q
   .simp! [e_C];rw[Ks ∅ (show(mM w.length f)[((F.length:Nat):Int).toNat]?=_ by rw[qV];show Jn ∅)];simp! [length_map];let h1:=JO I F.length;show#[by simp only[bS];lia,?_];rw[qV,show(((f F.length).map λq=>S.sh (zN q))++[S.sh (D.int (j:Int))])=(((f F.length).map λq=>S.sh (zN q))++[S.sh (zN j)]) from rfl,IS ∅];rw[Ks ∅ (show(mM w.length (dU f F.length j))[((j:Nat):Int).toNat]?=_ by rw[qV];show Jn ∅)];simp! [length_map];let Z:=JO I j;let e3:dU f F.length j j=f j:=by unfold dU;rw[q5 ∅]
    show#[by rw[e3];simp only[bS];lia,?_];rw[qV,show(((dU f F.length j j).map λq=>S.sh (zN q))++[S.sh (D.int (F.length:Int))])=(((dU f F.length j j).map λq=>S.sh (zN q))++[S.sh (zN F.length)]) from rfl,IS ∅];show L _ #[_,_,?_,rfl];rw[qp,qB,show F.length+1+(G.length+1)=j+1 by lia];show PN ∅ I q
  .obtain⟨f,J,I,rfl⟩:=M;rw[List.length_range',show F.length+1+(w.length+1-(F.length+1))=w.length+1 by lia]at I;show Y _ #[f,_,_,?_,rfl];rw[qp,qB];show Rt (q8 _) I
 .obtain⟨f,U,J,I,rfl⟩:=M;rw[qC]at I;simp! [e_C];rw[show(mM w.length f).map S.toD=(List.range (w.length+1)).map λp=>D.lst ((f p).map zN) by unfold mM;rw[qD];show map_congr_left λp _=>?_;simp[Function.comp_def]]
  show HM (n:=5) (List.range (w.length+1)) (λp=>.sh (.lst ((nb B w p).map zN))) (λp hp l o K hl hK=>?_) λo=>?_
  .rw[qC]at hl;simp! [fF,mL,pP,Od (Sr (le_refl _) I) h4,zax];show#[by simp only[bS];lia,hK _]
  .rw[show((List.range (w.length+1)).map λp=>S.sh (.lst ((nb B w p).map zN)))=(bA B w).map S.sh by unfold bA;rw[qD];rfl];simp! [e_C];show h
def Lf{B:List Wd}{w:Wd}(i:w.length<=60)
  (h:P (.lst ((bA B w).map .sh)) [.sh (zI B),.sh (.str w)]):mW [.sh (zI B),.sh (.str w)] P PX:=Ts (λ_=>DJ) i h
def Do{B:List Wd}{w:Wd}{p:Nat}(i:p<=w.length):atI (bA B w) (p:Int)=⇑(.lst ((nb B w p).map zN)):=by show Bf ∅ ?_;rw[qV];unfold bA;rw[qE,getElem?_range ∅];rfl
abbrev TS:=List (Nat×Nat)
def eU(L:TS):S:=.dct false (bG L) ((jB L).map .sh)
def EE{B:List Wd}{w:Wd}{q:Nat}(h:dJ (aK B w) w.length q):q<=w.length:=by
 cases h with
 |refl=>show q8 _
 |step _ e=>show(PB _ _ e).2
def ET{B:List Wd}{w:Wd}{L:TS}(h:jK (aK B w) w.length L):L.length<=w.length+1:=by
 let:=DX (L.map (·.1)) (List.range (w.length+1)) h.nd λx i=>by let#[t,F,rfl]:=qJ.mp i;let:=EE (CM (h.ok t F).1);show qI.mpr ∅
 rw[qh,qC]at this;show this
def UK{B:List Wd}{w:Wd}{D':Ends}{s1 o6:Option S}(hb:w.length<=60)
  (e1:∀(L:TS)(o4 M:Option S),cZ (aK B w) w.length L []->D'.nx [⇑(.sh (.lst (bA B w))),s1,⇑(eU L),⇑(.lst []),o4,M,o6]):
  fG (aG eG (zt 3) (bR zv)) iD D' [⇑(.sh (.lst (bA B w))),s1,⇑(eU [(w.length,0)]),⇑(.lst [.sh (zN w.length)]),none,none,o6]:=by
 show Ic (λm ρ=>∃(L I:TS)(o4 M:Option S),cZ (aK B w) w.length L I/\m+2*L.length=2*(w.length+1)+I.length/\m<=2*(w.length+1)/\ρ=[⇑(.sh (.lst (bA B w))),s1,⇑(eU L),⇑(.lst ((bG I).map .sh)),o4,M,o6]) (2*(w.length+1)-1) #[[(w.length,0)],[(w.length,0)],none,none,cZ.start,by simp;lia,∅,rfl] λm ρ hJ=>?_;let#[L,I,o4,M,U,hm,hk,rfl]:=hJ;let hi:=ET U.right;cases I with
 |nil=>simp! [yH,bG,map_nil,Gc (show aZ []<=29 by decide),List.isEmpty_nil];show e1 L o4 M U
 |cons t I=>
  let O:=U.take;let h2:t.1<=w.length:=EE (CM (U.right.ok t O.tin).1);let h8:aZ (bG (t::I))<=29:=EO _ λd Y=>by unfold bG at Y;let#[u,_,rfl]:=qJ.mp Y;show 0<=29;decide
  rw[qr]at hm;let e4:I.length<=2*(w.length+1):=∅
  let h5:(bG (t::I)).length=I.length+1:=by simp[bG]
  simp! [yG,zax,Gc h8,show(bG (t::I)).isEmpty=false from rfl,pO,length_map,h5,Do h2];show Iu (s:=.sh (zN t.1)) ⋯ (by rw[qh,h5];simp only[bS];lia) rfl ?_;rw[show(List.map S.sh (bG (t::I))).eraseIdx (Int.toNat 0)=(bG I).map S.sh from rfl];simp! [zN,Do h2];show BQ (toD:=zN) (λZ ρ=>∃(G i:TS)(M:Option S),oY (aK B w) w.length G i t Z/\G.length+I.length=L.length+i.length/\L.length<=G.length/\ρ=[⇑(.sh (.lst (bA B w))),s1,⇑(eU G),⇑(.lst ((bG i).map .sh)),⇑(.sh (.int (t.1:Int))),M,o6]) (nb B w t.1) (λZ q e2 D2 ρ e hI h1 hx e3 hp=>?_) (λρ hI=>?_) #[L,I,M,O,rfl,q8 _,rfl]
  .obtain⟨G,i,M,F,h4,h3,rfl⟩:=hI;let h6:q∈nb B w t.1:=by rw[<-e];simp
   let hr:aK B w t.1 q:=za2.mp h6;let h9:=ET F.right;by_cases J:∃d,(q,d)∈G
   .let hn:=Ju (vs:=jB G) J;simp! [lK,zN,eU,zhO,hn];let#[d,Y]:=J;show h1 _ #[G,i,_,F.skip Y,h4,h3,rfl]
   .let hn:=Ij (vs:=jB G) J;let h7:lk (bG G) (jB G) (.int (t.1:Int))=⇑(.int (t.2:Int)):=Gk (f:=zN) F.right.nd (show(t.1,t.2)∈G from F.tin);simp! [lK,zN,eU,zhO,hn,h7];let k1:(bG G).length=G.length:=by simp[bG]
    let k2:((bG i).map S.sh).length=i.length:=by simp[bG]
    show#[PF F.right.nd,by rw[k1];simp only[bS];lia,by rw[k2];simp only[bS];lia,?_];rw[Rc λd Y=>J #[d,Y]];show h1 _ #[G++[(q,t.2+1)],i++[(q,t.2+1)],⇑(.sh (.int (q:Int))),F.put hr (λe he=>J #[e,he]),by simp only[qp,qB];lia,by simp only[qp,qB];lia,?_];simp[eU,bG,jB,zN]
  .obtain⟨G,i,M,F,h4,h3,rfl⟩:=hI;let h9:=ET F.right;show HY (m':=2*(w.length+1)+i.length-2*G.length) ∅ #[G,i,_,_,F.queue λq U=>za2.mpr U,∅,∅,rfl]
def Ik{B:List Wd}{w:Wd}{L:TS}(i:cZ (aK B w) w.length L []){q d:Nat}(h:aF (aK B w) w.length q d):lk (bG L) (jB L) (.int (q:Int))=⇑(.int (d:Int)):=Gk (f:=zN) i.right.nd (i.done h)
def TZ{B:List Wd}{w:Wd}{D':Ends}{M Y U O:Option S}{L:TS}{p:Nat}(h9:w.length<=60)(J:cZ (aK B w) w.length L []){d:Nat}(hd:aF (aK B w) w.length p d)
  (h6:D'.nx [⇑(.sh (.lst (bA B w))),M,⇑(eU L),Y,U,O,⇑(.lst (((cI B w d p).map zN).map .sh))]):
  fG (aG eG (bK (zt 6) (iE cX (wC (.int 1)))) (zJ dR (wB aQ (zu (zt 0) zv)) (wC (.int 1)))) iC D' [⇑(.sh (.lst (bA B w))),M,⇑(eU L),Y,U,O,⇑(.lst [.sh (zN p)])]:=by
 let Z:(bA B w).length=w.length+1:=by simp[bA]
 show Ic (λm ρ=>∃(F:List Nat)(i:Nat),aF (aK B w) w.length i m/\F++cI B w m i=cI B w d p/\F.length+m<=d/\ρ=[⇑(.sh (.lst (bA B w))),M,⇑(eU L),Y,U,O,⇑(.lst (((F.map zN).map .sh)++[.sh (.int (i:Int))]))]) d #[[],p,hd,rfl,by simp,rfl] λm ρ hJ=>?_;let#[F,i,G,hw,h7,rfl]:=hJ;let h5:i<=w.length:=EE (CM G.1);let e1:(((w.length+1:Nat):Int)-1)=(w.length:Int):=∅
 simp! [DL,Z,e1];cases m with
 |zero=>
  let:=ED G;subst this;simp! [yH,decide_true,Bool.not_true];let e2:((F.map zN).map S.sh)++[S.sh (.int (w.length:Int))]=((cI B w d p).map zN).map S.sh:=by rw[<-hw];simp[cI,zN]
  rw[e2];show h6
 |succ m=>
  have h3:¬(i:Int)=(w.length:Int):=λz=>by
   let:i=w.length:=∅
   subst this;let:=MY G;lia
  let h8:d<=w.length+1:=by let:=Qk J hd;let:=ET J.right;lia
  rw[qR h3];simp! [yG,pN,DL,Do h5];let#[r,hr,hn]:=Hg G;show HN (n:=7) (toD:=zN) (nb B w i) (λq=>if ↥(hV (aK B w) w.length q+1=hV (aK B w) w.length i)=true then ⇑(.sh (zN q))else none) (λq h2 l o K hl I=>?_) λo=>?_
  .obtain⟨k,hk⟩:=zbU.mp ((CM G.1).step (za2.mp h2));simp! [fF,zN,eU,zhO,Ik J hk,Ik J G,DL,lJ];let h4:=Dy (B:=B) (w:=w) (p:=i);let eq:↥(hV (aK B w) w.length q+1=hV (aK B w) w.length i)=↥((k:Int)=((m+1:Nat):Int)-1):=by rw[CY hk,CY G];exact decide_eq_decide.mpr ∅
   rw[eq]at I;cases q2:↥((k:Int)=((m+1:Nat):Int)-1)
   .rw[q2]at I;simp! [lz];let:=I ⇑(.sh (.int (q:Int)));rw[q5 ⋯,toList_none,qz]at this;show this
   .rw[q2]at I;simp! [mL,lJ];show#[by simp only[bS];lia,I _]
  .let h4:=Dy (B:=B) (w:=w) (p:=i);rw[Fz (λq=>↥(hV (aK B w) w.length q+1=hV (aK B w) w.length i)) (λq=>S.sh (zN q)),hr];let h1:(aR B w i::r).Pairwise (·<·):=by rw[<-hr];exact zdn.filter _
   let eb:lY [.lst (zN (aR B w i)::r.map zN)]=⇑(.sh (.int ((aR B w i:Nat):Int))):=by show(bZ _).bind _=_;rw[show(zN (aR B w i)::r.map zN)=((aR B w i::r).map λq=>((q:Nat):Int)).map D.int by rw[qD];rfl,Hh,bind_some,Rx h1];rfl
   rw[show((aR B w i::r).map λq=>S.sh (zN q))=((aR B w i::r).map zN).map S.sh by rw[qD];rfl];simp! [zax,eb,length_append,length_map,length_singleton,length_cons,length_nil];show#[by simp only[bS];lia,HY (m':=m) ∅ #[F++[i],aR B w i,hn,?_,by rw[qp,qB];lia,?_]]
   .rw[<-hw];show F++[i]++cI B w m (aR B w i)=F++(i::cI B w m (aR B w i));simp
   .simp[zN,eU]
def Qv{B:List Wd}{w:Wd}{p:Nat}(F:w.length<=60)(Z:p<=w.length)
  (h1:∀d,aF (aK B w) w.length p d->P (.sh (.tup ((cI B w d p).map zN))) [.sh (.lst (bA B w)),.sh (.int (p:Int))])
  (h2:¬dJ (aK B w) w.length p->P (.sh (.tup [])) [.sh (.lst (bA B w)),.sh (.int (p:Int))]):tT [.sh (.lst (bA B w)),.sh (.int (p:Int))] P PX:=by
 let G:(bA B w).length=w.length+1:=by simp[bA]
 let O:(((w.length+1:Nat):Int)-1)=(w.length:Int):=∅
 show AJ rfl rfl ?_;simp! [G,O];show UK F λL Y U I=>?_;by_cases M:dJ (aK B w) w.length p
 .obtain⟨d,i⟩:=zbU.mp M;let J:=Ju (vs:=jB L) #[d,I.done i];simp! [eU,zhO,J];show TZ F I i ?_;simp! [zax];show h1 d i
 .let J:=Ij (vs:=jB L) (L:=L) (q:=p) λ⟨d,i⟩=>M (zbU.mpr #[d,I.right.ok _ i]);simp! [eU,zhO,J];show h2 M
def Fd(B:List Wd)(w:Wd):∀d p,(cI B w d p).length=d+1
 |0,_=>rfl
 |d+1,p=>by rw[show cI B w (d+1) p=p::cI B w d (aR B w p) from rfl,qr,Fd B w d]
def OX{B:List Wd}{w:Wd}{p d:Nat}(U:aF (aK B w) w.length p d):d<=w.length:=by
 have G:∀k,k<=d->∃q,aF (aK B w) w.length q k:=λk M=>GF U k M;let J:∀m,m<=d+1->∃l:List Nat,l.length=m/\l.Nodup/\∀q∈l,q<=w.length/\∃k,k<m/\aF (aK B w) w.length q k:=by
  intro m;induction m with
  |zero=>show λ_=>#[[],rfl,by simp,by simp]
  |succ m O=>
   intro hm;let#[l,h1,h2,I]:=O ∅;let#[q,L]:=G m ∅;show#[q::l,by simp[h1],qK.mpr #[λY=>?_,h2],λx F=>?_]
   .obtain⟨_,k,M,i⟩:=I q Y;let:=Fb L i;lia
   .rcases qA.mp F with rfl|F
    .show#[EE (CM L.1),m,∅,L]
    .obtain⟨Z,k,M,i⟩:=I x F;show#[Z,k,∅,i]
 let#[l,h1,h2,I]:=J (d+1) ∅;let:=DX l (List.range (w.length+1)) h2 λx F=>qI.mpr (by let:=(I x F).1;lia);rw[h1,qC]at this;lia
def Jp{l:List Nat}(h:0<l.length):cS (.tup (l.map zN)) (.tup [])=⇑false:=by
 unfold cS;rw[q5 (by
  let:fC (.tup (l.map zN))=1:=by show aZ (l.map zN)+1=1;rw[show l.map zN=(l.map λq=>((q:Nat):Int)).map D.int by rw[qD];rfl,Hf]
  rw[this];show λz=>by cases l<;>show Bool.noConfusion (show false=true from z))]
 cases l with
 |nil=>cases h
 |cons a l=>show congrArg some ?_;rw[decide_eq_false_iff_not];show λz=>by cases z
def Ff:cS (.tup []) (.tup [])=⇑true:=by unfold cS;rw[q5 ⋯];simp
def PD{t:Bool}{ks:List D}{l:List S}{k:D}{s:S}(h:k∉ks):bW t ks l k s=.dct t (ks++[k]) (l++[s]):=by
 unfold bW;let:lW ks k=none:=by unfold lW;rw[List.findIdx?_eq_none_iff];intro x i;simp only[decide_eq_false_iff_not];show λz=>h (z▸i)
 rw[this]
def cY(B:List Wd)(w:Wd)(p q:Int):Bool:=(uJ B w).any λt=>↥((t.1:Int)=min p q)&&↥((t.2.1:Int)=max p q)
def pairsOf(ns:List Int):List (Int×Int):=ns.zip (ns.drop 1)
def tJ(B:List Wd)(w:Wd)(ns:List Int):Bool:=↥(ns.head?=some 0)&&(↥(ns.getLast?=⇑(w.length:Int))&&(pairsOf ns).all λp=>cY B w p.1 p.2)
def Ko{B:List Wd}{w:Wd}{p q:Nat}(h:aK B w p q):cY B w (p:Int) (q:Int)=true:=by
 let F:∀i j,eJ B w i j=true->((i:Int)=min (p:Int) q/\(j:Int)=max (p:Int) q)->cY B w (p:Int) (q:Int)=true:=λi j G e=>by unfold cY;rw[any_eq_true];show#[(i,j,B.idxOf (jQ w i j)),zgQ.mpr #[G,rfl],by rw[qQ e.1,qQ e.2];rfl]
 unfold aK jO at h;rw[or_eq_true]at h;rcases h with h|h
 .let:=(zaG.mp h).1;show F p q h ∅
 .let:=(zaG.mp h).1;show F q p h ∅
def Rj{B:List Wd}{w:Wd}{p q:Int}(h:cY B w p q=true):∃a b:Nat,p=a/\q=b/\aK B w a b:=by
 unfold cY at h;let#[t,F,e]:=any_eq_true.mp h;rw[and_eq_true,decide_eq_true_iff,decide_eq_true_iff]at e;let i:=(zgQ.mp F).1;let I:=(zaG.mp i).1;by_cases G:p<=q
 .show#[t.1,t.2.1,∅,∅,?_];unfold aK jO;rw[i];rfl
 .show#[t.2.1,t.1,∅,∅,?_];unfold aK jO;rw[i,Bool.or_true]
def bL(R:Int->Int->Bool):List Int->Bool
 |a::b::r=>R a b&&bL R (b::r)
 |_=>true
def Ly(R:Int->Int->Bool):∀ns:List Int,((pairsOf ns).all λp=>R p.1 p.2)=bL R ns
 |[]=>rfl
 |[_]=>rfl
 |a::b::r=>by let:=Ly R (b::r);show(R a b&&((b::r).zip r).all λp=>R p.1 p.2)=(R a b&&bL R (b::r));rw[<-this];rfl
def GY{R:Int->Int->Bool}{x:Int}{r:List Int}(h2:bL R (x::r)=true):∀l:List Int,bL R (l++[x])=true->bL R (l++x::r)=true
 |[],_=>h2
 |[a],h1=>by let i:(R a x&&true)=true:=h1;show(R a x&&bL R (x::r))=true;rw[h2];show i
 |a::b::l,h1=>by let i:(R a b&&bL R ((b::l)++[x]))=true:=h1;rw[and_eq_true]at i;show(R a b&&bL R ((b::l)++x::r))=true;rw[i.1,GY h2 (b::l) i.2];rfl
def jT(B:List Wd)(w:Wd)(d p:Nat):List Int:=(cI B w d p).map λ(q:Nat)=>(q:Int)
def NJ(B:List Wd)(w:Wd)(d p:Nat):(cI B w d p).map zN=(jT B w d p).map D.int:=by unfold jT;rw[qD];rfl
def Kn(B:List Wd)(w:Wd)(d p:Nat):∃r,jT B w d p=(p:Int)::r/\r.length=d:=by
 cases d with
 |zero=>show#[[],rfl,rfl]
 |succ d=>show#[(cI B w d (aR B w p)).map λ(q:Nat)=>(q:Int),rfl,by rw[qh,Fd]]
def Qf{B:List Wd}{w:Wd}{p d:Nat}(h:aF (aK B w) w.length p (d+1)):aK B w p (aR B w p):=by
 let#[r,i,_]:=Hg h;let:aR B w p∈(nb B w p).filter λq=>↥(hV (aK B w) w.length q+1=hV (aK B w) w.length p):=by rw[i];simp
 show za2.mp (mem_filter.mp this).1
def Ky{B:List Wd}{w:Wd}:∀{d p:Nat},aF (aK B w) w.length p d->bL (cY B w) (jT B w d p)=true/\∃l,jT B w d p=l++[(w.length:Int)]
 |0,p,h=>by let:=ED h;subst this;show#[rfl,[],rfl]
 |d+1,p,h=>by let#[_,_,F]:=Hg h;let#[h1,l,h2]:=Ky F;let#[r,i,_]:=Kn B w d (aR B w p);let e:jT B w (d+1) p=(p:Int)::jT B w d (aR B w p):=rfl;show#[?_,(p:Int)::l,by rw[e,h2];rfl];rw[e,i];rw[i]at h1;show(cY B w p (aR B w p)&&bL (cY B w) ((aR B w p:Int)::r))=true;rw[h1,Ko (Qf h)];rfl
def Mq{B:List Wd}{w:Wd}{r l ns:List Int}(h1:ns=0::r)(h2:ns=l++[(w.length:Int)])(i:bL (cY B w) ns=true):tJ B w ns=true:=by unfold tJ;rw[Ly,i,show ns.getLast?=⇑(w.length:Int) by rw[h2];simp,show ns.head?=some 0 by rw[h1];rfl];simp
def MC{l:List Nat}:eG (.lst (l.map zN)) (.lst [])=⇑(!decide (l=[])):=by rw[show l.map zN=(l.map λ(q:Nat)=>(q:Int)).map D.int by rw[qD];rfl,show(D.lst [])=.lst (([]:List Int).map D.int) from rfl,QJ];congr 2;show decide_eq_decide.mpr (by simp)
def hZ(B:List Wd)(w:Wd)(l:List Nat):Prop:=bL (cY B w) (l.map λ(q:Nat)=>(q:Int))=true/\∀p∈l,p<=w.length
def dZ(l:List Nat):D:=.tup (l.map zN)
def GA{l:List Nat}{p:Nat}:atI ((l++[p]).map zN) (-1)=⇑(.int (p:Int)):=by rw[map_append];show DL
def MX{B:List Wd}{w:Wd}{p:Nat}{r:Int}(F:0<=r)(h1:r<(nb B w p).length):∃q,q∈nb B w p/\atI ((nb B w p).map zN) r=⇑(.int (q:Int)):=by let#[v,i,_,e]:=Dd (f:=zN) F h1;show#[v,i,e]
def hZ.snoc{B:List Wd}{w:Wd}{l:List Nat}{p q:Nat}(h:hZ B w (l++[p]))(F:q∈nb B w p):hZ B w (l++[p]++[q]):=by
 show#[?_,λx i=>?_]
 .let:=h.1;rw[map_append]at this⊢;rw[map_append,qo];show GY (x:=(p:Int)) (r:=[(q:Int)]) (by show(cY B w p q&&true)=true;rw[Ko (za2.mp F)];rfl) _ this
 .rcases qx.mp i with i|i
  .show h.2 x i
  .rw[qt.mp i];show(Ds F).1
def Ov{B:List Wd}{w:Wd}{D':Ends}{b:WS}{n:Nat}{Z:List (Option S)}{a s:Int}{l:List Nat}{p:Nat}{F:Option S}(e4:w.length<=60)(hn:n<=10)(h2:l.length<=1)(J:0<=a)(I:1<=s)(i:s<=2147483629)(G:hZ B w (l++[p]))(hb:b=cU (aG eG (bK (zt 1) (bK (zt 2) (iE cX (wC (.int 1))))) (bR zv)) (zM (zw 2) (zJ aI (zt 2) (bO (zu (bK (bK (zt 1) (bK (zt 2) (iE cX (wC (.int 1))))) (zL dM [true,true] (zu (zt 0) (zu (wB aQ (zu (bK (zt 1) (bK (zt 2) (iE cX (wC (.int 1))))) zv)) zv)))) zv)))) aE)
  (h4:∀(a s:Int)(m:List Nat)(q:Nat) F,0<=a->1<=s->s<=2147483629->hZ B w (m++[q])->m.length<=l.length+n->(∃t,m++[q]=l++[p]++t)->dJ (aK B w) p q->D'.nx (⇑(aH a s)::⇑(.sh (.lst (bA B w)))::⇑(.sh (dZ (m++[q])))::F::Z)):
  bU (zw 3) b ((List.range n).map λ(k:Nat)=>D.int (k:Int)) D' (⇑(aH a s)::⇑(.sh (.lst (bA B w)))::⇑(.sh (dZ (l++[p])))::F::Z):=by
 subst hb;show BQ (λL ρ=>∃(a s:Int)(m:List Nat)(q:Nat)(F:Option S),0<=a/\1<=s/\s<=2147483629/\hZ B w (m++[q])/\m.length<=l.length+L.length/\(∃t,m++[q]=l++[p]++t)/\dJ (aK B w) p q/\ρ=⇑(aH a s)::⇑(.sh (.lst (bA B w)))::⇑(.sh (dZ (m++[q])))::F::Z) (List.range n) (λL k h5 D2 ρ e hI O e2 h7 e3=>?_) (λρ hI=>?_) #[a,s,l,p,F,J,I,i,G,by simp,#[[],by simp],.refl _,rfl]
 .obtain⟨a,s,m,q,F,J,I,i,G,hm,⟨t,U⟩,Y,rfl⟩:=hI;let hk:=EU e;let hq:q<=w.length:=G.2 q (by simp);let h8:=Dy (B:=B) (w:=w) (p:=q);simp! [dZ,aH,GA,Do hq,MC];cases qn:↥(nb B w q=[])
  .let h6:0<(nb B w q).length:=qO.mpr (of_decide_eq_false qn);simp! [GA,Do hq,length_map];show AC J I i ∅ ∅ λr a2 s2 hr h1 h3 i M=>?_;let#[v,hv,ev]:=MX hr h1;let h9:(m++[q]).length<=l.length+11:=by rw[qp,qB];lia
   let e1:l.length<=1:=h2;simp! [aH,ev,length_map,length_cons,length_nil];rw[show(m++[q]).map zN++[D.int (v:Int)]=(m++[q]++[v]).map zN by rw[map_append (l₁:=m++[q])];rfl];show O _ #[a2,s2,m++[q],v,_,h3,i,M,G.snoc hv,by rw[qp,qp,qB,qB];lia,#[t++[v],by rw[U];simp],Y.step (za2.mp hv),rfl]
  .simp! [e_C];show O _ #[a,s,m,q,_,J,I,i,G,by rw[qp];lia,#[t,U],Y,rfl]
 .obtain⟨a,s,m,q,F,J,I,i,G,hm,U,Y,rfl⟩:=hI;rw[qC]at hm;show h4 a s m q F J I i G hm U Y
def dC(l:List Nat):List Int:=l.map λ(q:Nat)=>(q:Int)
def Lh{a s:Int}{B:List Wd}{w:Wd}(ha:0<=a)(hs:1<=s)(F:s<=2147483629)(h1:w.length<=60)
  (h:∀(l:List Nat) a' s',l.length<=w.length+12->((l=[]/\¬dJ (aK B w) w.length 0)\/tJ B w (dC l)=true)->0<=a'->1<=s'->s'<=2147483629->P (.sh (dZ l)) [aH a' s',.sh (.lst (bA B w))]):pB [aH a s,.sh (.lst (bA B w))] P PX:=by
 show AJ rfl rfl ?_;simp! [aH,length_cons,length_nil];show AC ha hs F ⋯ ⋯ λr a1 s1 hr h3 Z U J=>?_;simp! [aH];show#[by simp only[bS];lia,?_];rw[BJ (n:=r.toNat) ∅];show Ov (l:=[]) (p:=0) h1 ∅ (by simp) Z U J #[rfl,by simp] iB.eq_1 λa2 s2 m q o3 L F G hS hm O hC=>?_;let hq:q<=w.length:=hS.2 q (by simp);let#[t,O]:=O;rw[qv,zero_add]at hm;simp! [dZ,GA];show Qv ∅ hq (λd hd=>?_) λhn=>?_
 .have h5:d<=w.length:=OX hd;let#[i,I,h2]:=Kn B w d q;let hw:(cI B w d q).map zN=zN q::i.map D.int:=by rw[NJ,I];rfl
  let M:aO ((cI B w d q).map zN) (some 1) none=i.map D.int:=by rw[Dg _ ⋯,hw];rfl
  let h4:(m++[q]).length<=10:=by rw[qp,qB];lia
  simp! [aH,Jp (show 0<(cI B w d q).length by rw[Fd];lia),M,qh];let#[k1,l',k2]:=Ky hd;let e1:dC (m++cI B w d q)=dC m++(q:Int)::i:=by unfold dC;rw[map_append];congr 1
  have hz:tJ B w (dC (m++cI B w d q))=true:=by
   let Y:bL (cY B w) (dC m++(q:Int)::i)=true:=GY (by rw[<-I];show k1) _ (by let:=hS.1;rw[map_append]at this;show this)
   let e2:dC m++(q:Int)::i=(dC m++l')++[(w.length:Int)]:=by rw[<-I,k2,qo]
   have e3:∃r,dC m++(q:Int)::i=0::r:=by
    let:dC (m++[q])=0::dC t:=by rw[O];rfl
    unfold dC at this;rw[map_append]at this;cases m with
    |nil=>simp only[map_nil,nil_append,qy,List.cons.injEq]at this;show#[i,by unfold dC;rw[map_nil,nil_append,this.1]]
    |cons x m=>simp only[qy,qN,List.cons.injEq]at this;show#[dC m++(q:Int)::i,by unfold dC;rw[qy,qN,this.1]]
   let#[r3,e3]:=e3;rw[e1];show Mq e3 e2 Y
  let:=h (m++cI B w d q) a2 s2 (by rw[qp,Fd];lia) (.inr hz) L F G;rw[show(m++[q]).map zN++i.map D.int=(m++cI B w d q).map zN by rw[map_append,map_append,qo,hw];rfl]
  show this
 .simp! [aH,Ff];show h [] a2 s2 (by simp) (.inl #[rfl,λc=>hn (c.trans hC)]) L F G
def ak:Nat->D->Bool
 |0,_=>false
 |n+1,.tup l=>↥(l.length<=1000)&&l.all (ak n)
 |_+1,.str _=>true
 |_+1,.int _=>true
 |_+1,_=>false
def EY:∀l:List D,dN l l=l.map λx=>D.tup [x,x]
 |[]=>rfl
 |x::l=>by show D.tup [x,x]::dN l l=_;rw[EY l];rfl
def GW{n:Nat}{d:D}(h:ak n d=true)(k:P (.sh (.bl true)) [.sh d,.sh d]):pC fx n [.sh d,.sh d] P PX:=by
 induction n generalizing d P PX with
 |zero=>cases h
 |succ n i=>
  cases d with
  |tup l=>
   let h':(↥(l.length<=1000)&&l.all (ak n))=true:=h;rw[and_eq_true,decide_eq_true_iff,qH]at h';show AJ rfl rfl ?_;simp! [show eL "tuple" (D.tup l)=true from rfl,decide_true];rw[EY];show HL (n:=2) l (λ_=>.sh (.bl true)) (λx B m o o' K G F=>?_) λo o'=>?_
   .simp! [fF,mL,pI,length_cons,length_nil];show i (h'.2 x B) ?_;simp! [e_C];show#[by simp only[bS];lia,F _ _]
   .rw[show(l.map λ_=>S.sh (.bl true))=((l.map λ_=>true).map D.bl).map S.sh by simp[Function.comp_def]];simp! [zax,MR];rw[List.all_map,show(l.all (id∘λ_=>true))=true by simp];show k
  |str x=>show AJ rfl rfl ?_;simp! [show eL "tuple" (D.str x)=false from rfl,show eL "str" (D.str x)=true from rfl,decide_true];show k
  |int x=>show AJ rfl rfl ?_;simp! [show eL "tuple" (D.int x)=false from rfl,show eL "str" (D.int x)=false from rfl,show eL "int" (D.int x)=true from rfl,show eL "bool" (D.int x)=false from rfl,decide_true];show k
  |_=>cases h
def fc(p q:Nat):Wd:=if p<q then[111,110]else[98,97,99,107]
def mF(B:List Wd)(w:Wd)(p q:Nat):Nat:=B.idxOf (jQ w (min p q) (max p q))
def eD(B:List Wd)(w:Wd)(t:Nat×Nat):D:=.tup [.str (fc t.1 t.2),.int (mF B w t.1 t.2:Int)]
def kG(l:List Nat):List (Nat×Nat):=l.zip (l.drop 1)
def Jj(l:List Nat):(kG l).length=l.length-1:=by unfold kG;rw[List.length_zip,qF];lia
def Nf{l:List Nat}{k:Nat}(h:k+1<l.length):∃p q,l[k]?=⇑p/\l[k+1]?=⇑q/\(kG l)[k]?=⇑(p,q):=by show#[l[k],l[k+1],getElem?_eq_getElem ∅,getElem?_eq_getElem h,?_];unfold kG;rw[List.getElem?_zip_eq_some];show#[getElem?_eq_getElem ∅,by rw[List.getElem?_drop,add_comm 1 k];show getElem?_eq_getElem h]
open Classical in
def CP{p q:Nat}:iO [.tup [.int (p:Int),.int (q:Int)]]=⇑(.lst [.sh (.int (min p q:Nat)),.sh (.int (max p q:Nat))]):=by
 show(if[D.int (p:Int),D.int (q:Int)].length<64/\(bZ [D.int (p:Int),D.int (q:Int)]).isSome then ⇑(S.lst ((cE [D.int (p:Int),D.int (q:Int)]).map .sh))else none)=_;rw[qZ #[by simp,rfl],Dk EK (m:=[D.int (min p q:Nat),D.int (max p q:Nat)])]
 .rfl
 .intro d i;simp only[qA,not_mem_nil,or_false]at i;rcases i with rfl|rfl<;>trivial
 .by_cases h:p<=q
  .rw[min_eq_left h,Nat.max_eq_right h]
  .rw[min_eq_right ∅,Nat.max_eq_left ∅];show .swap _ _ _
 .show List.pairwise_pair.mpr ?_;rw[FX];show qQ ∅
def ND{B:List Wd}{z:Wd}(h:z∈B):oG ((B.map λb=>↥(b=z)).map D.bl) (.bl true)=⇑(B.idxOf z):=by
 unfold oG;rw[qZ (by rw[qH];intro d F;let#[b,_,rfl]:=qJ.mp F;rfl)]
 rw[List.findIdx?_eq_some_iff_getElem];let hi:B.idxOf z<B.length:=List.idxOf_lt_length_iff.mpr h;show#[↑hi,?_,λj i=>?_]
 .simp[List.getElem_idxOf hi]
 .let:¬B[j]'∅=z:=by let:=List.not_of_lt_findIdx i;simpa using this
  simp[this]
def OA{l:List Nat}{k p q:Nat}(h1:l[k]?=⇑p)(h2:l[k+1]?=⇑q):aO (l.map zN) ⇑(k:Int) ⇑((k+2:Nat):Int)=[zN p,zN q]:=by rw[Gx];let#[a1,a2]:=qg.mp h1;let#[B,i]:=qg.mp h2;rw[<-List.map_drop,<-List.map_take,show k+2-k=2 by lia,drop_eq_getElem_cons a1,drop_eq_getElem_cons B,a2,i];rfl
def UM{B:List Wd}{w:Wd}{l:List Nat}(hB:B.length<=1000)(hl:l.length<=100)(ht:∀t∈kG l,aK B w t.1 t.2)
  (h:P (.sh (.tup ((kG l).map (eD B w)))) [.sh (zI B),.sh (.str w),.sh (dZ l)]):tR [.sh (zI B),.sh (.str w),.sh (dZ l)] P PX:=by
 show AJ rfl rfl ?_;simp! [dZ,length_map];show#[by simp only[bS];lia,?_];rw[show fromTo 1 ((l.length:Int)-1).toNat=(List.range' 1 (l.length-1)).map λ(k:Nat)=>D.int (k:Int) from Cv (a:=1) (n:=l.length) rfl rfl];show BQ (λG ρ=>∃U O M:Option S,ρ=[⇑(.sh (zI B)),⇑(.sh (.str w)),⇑(.sh (dZ l)),⇑(.lst ((((kG l).take G.length).map (eD B w)).map .sh)),U,O,M]) (List.range' 1 (l.length-1)) (λG i h1 D2 ρ e hI Z h3 h2 h4=>?_) (λρ hI=>?_) #[none,none,none,rfl]
 .obtain⟨U,O,M,rfl⟩:=hI;let hi:=Lx e;obtain⟨k,rfl⟩:∃k,i=k+1:=#[i-1,∅]
  let hk:G.length=k:=∅
  obtain⟨p,q,e1,e2,e3⟩:=Nf (l:=l) (k:=k) ∅;let I:=ht (p,q) (qL e3);let L:jQ w (min p q) (max p q)∈B:=by
   unfold aK jO at I;rw[or_eq_true]at I;rcases I with hh|hh
   .obtain⟨a,_,b⟩:=zaG.mp hh;rw[show min p q=p by lia,show max p q=q by lia];show b
   .obtain⟨a,_,b⟩:=zaG.mp hh;rw[show min p q=q by lia,show max p q=p by lia];show b
  let c1:aO (l.map zN) ⇑((((k+1:Nat):Int))-1) ⇑((((k+1:Nat):Int))+1)=[.int (p:Int),.int (q:Int)]:=by rw[show((k+1:Nat):Int)-1=(k:Int) by lia,show((k+1:Nat):Int)+1=((k+2:Nat):Int) by lia];show OA e1 e2
  let a1:atI (l.map zN) (((k+1:Nat):Int)-1)=⇑(.int (p:Int)):=Bf ∅ (by rw[show(((k+1:Nat):Int)-1).toNat=k by lia,qE,e1];rfl);let a2:atI (l.map zN) ((k+1:Nat):Int)=⇑(.int (q:Int)):=Bf ∅ (by rw[qV,qE,e2];rfl);simp! [pK,dZ,c1,CP];simp! [zax,zI];show HM (n:=7) B (λb=>.sh (.bl ↥(b=jQ w (min p q) (max p q)))) (λb hb m o K hm hK=>?_) λo=>?_
  .simp! [fF,mL,pJ,show∀x y:D,atI [x,y] 0=⇑x from λ_ _=>rfl,show∀x y:D,atI [x,y] 1=⇑y from λ_ _=>rfl,Jk];show#[by simp only[bS];lia,hK _]
  .rw[show(B.map λb=>S.sh (.bl ↥(b=jQ w (min p q) (max p q))))=((B.map λb=>↥(b=jQ w (min p q) (max p q))).map D.bl).map S.sh by simp[Function.comp_def]];simp! [zax,zd9 (ND L),a1,a2,length_map,length_take];let Y:(kG l).take (k+1)=(kG l).take k++[(p,q)]:=by let#[b1,b2]:=qg.mp e3;rw[List.take_succ_eq_append_getElem b1,b2]
   let F:=Z [⇑(.sh (zI B)),⇑(.sh (.str w)),⇑(.sh (dZ l)),⇑(.lst ((((kG l).take (G++[k+1]).length).map (eD B w)).map .sh)),⇑(.sh (.int ((k+1:Nat):Int))),⇑(.sh (.lst [.int (min p q:Nat),.int (max p q:Nat)])),⇑(.sh (.int (B.idxOf (jQ w (min p q) (max p q)):Nat)))] #[_,_,_,rfl];rw[qp,qB,hk,Y,map_append,map_append]at F;by_cases J:p<q
   .simp! [decide_eq_true (show(p:Int)<(q:Int) by lia),if_true,show∀x y:S,atI [x,y] 1=⇑y from λ_ _=>rfl,qh,qG,hk];show#[by simp only[bS];lia,?_];let e5:eD B w (p,q)=.tup [.str [111,110],.int (B.idxOf (jQ w (min p q) (max p q)):Nat)]:=by unfold eD fc mF;rw[qZ J]
    simp only[qy,map_nil,e5]at F;show F
   .simp! [decide_eq_false (show¬(p:Int)<(q:Int) by lia),false_eq_true,if_false,show∀x y:S,atI [x,y] 0=⇑x from λ_ _=>rfl,qh,qG,hk];show#[by simp only[bS];lia,?_];let e5:eD B w (p,q)=.tup [.str [98,97,99,107],.int (B.idxOf (jQ w (min p q) (max p q)):Nat)]:=by unfold eD fc mF;rw[q5 J]
    simp only[qy,map_nil,e5]at F;show F
 .obtain⟨U,O,M,rfl⟩:=hI;rw[List.length_range',take_of_length_le (by rw[Jj];lia)];simp! [zax];show h
def GQ{n:Nat}:∀l:List Wd,(∀x∈l,x.length<=n)->(l.map List.length).sum<=l.length*n
 |[],_=>by simp
 |a::l,h=>by let h1:=h a (by simp);let h2:=GQ l λx i=>h x (by simp[i]);simp only[qy,sum_cons,qr,Nat.add_mul];lia
structure fm where
 col:List Nat
 B:List Wd
 w:Wd
 l:List Nat
structure fm.ok(c:fm):Prop where
 f:oa c.B c.w
 n:c.l.length<=24
 z:c.l=[]\/tJ c.B c.w (dC c.l)=true
 gb:lV c.col 6 6 c.B
 cl:∀x∈c.col,97<=x/\x<=122
def yT(c:fm):D:=.tup [.str c.col,zI c.B,.str c.w,dZ c.l]
def Ui{a s:Int}(ha:0<=a)(hs:1<=s)(F:s<=2147483629)
  (h:∀(c:fm) a' s',c.ok->0<=a'->1<=s'->s'<=2147483629->P (.sh (yT c)) [aH a' s']):tS [aH a s] P PX:=by
 show AJ rfl rfl ?_;simp! [aH];show AC ha hs F ⋯ ⋯ λr a1 s1 hr hr2 r1 hk h5=>?_;simp! [aH];show Vt r1 hk h5 ∅ ∅ λI a2 s2 r3 k3 h7 hq F h4=>?_;simp! [aH];show TJ hq F h4 ∅ ∅ ⋯ ⋯ ⋯ ⋯ λB a3 s3 hB hm e4 h3=>?_;let i:lV I 6 6 B:=hB;let hf:∀w:Wd,w.length<=12->oa B w:=λw hw=>#[i.2.1,λx U=>(i.2.2 x U).1,λx U=>by let:=(i.2.2 x U).2.1;lia,i.1,hw]
 simp! [aH];show QL hm e4 h3 ∅ ∅ ⋯ ⋯ (by let:=i.1;lia) (λw hw=>#[by let:=(i.2.2 w hw).2.1;lia,(i.2.2 w hw).2.2]) λt a4 s4 ht k2 hi hd e3 h2=>?_;let e1:t.length<=12:=ht;simp! [aH,zax];show Lf ∅ ?_;simp! [zax];show Lh hd e3 h2 ∅ λl a5 s5 hl O h9 Z J=>?_;by_cases h8:l=[]
 .subst h8;let hb:¬dJ (aK B t) t.length 0:=by
   rcases O with⟨_,z⟩|z
   .show z
   .cases z
  have k1:0<B.length:=by
   cases B with
   |cons _ _=>simp
   |nil=>show absurd (by rw[hi rfl];show dJ.refl _) hb
  simp! [dZ,map_nil,Ff,aH];show AC h9 Z J ⋯ ⋯ λr6 a6 s6 hr6 r2 hc e2 h1=>?_;simp! [aH];show#[by simp only[bS];lia,?_];show Mb (n:=5) (λz:Wd=>S.sh (.str z)) _ (λρ=>∃a s,0<=a/\1<=s/\s<=2147483629/\ρ=[⇑(aH a s),⇑(.sh (.str I)),⇑(.sh (zI B)),⇑(.sh (.str t)),⇑(.sh (.tup []))]) (λz=>z∈B) (λx U ρ A o K hI hA hK=>?_) (λρ A o hI hA hP=>?_) #[a6,s6,hc,e2,h1,rfl]
  .obtain⟨a,s,ha,hs,F,rfl⟩:=hI;let:=i.1;rw[Ca]at hA;simp! [fF,mL,pM,aH,zI,length_map];show AC ha hs F ∅ ∅ λr7 a7 s7 hp h6 M L G=>?_;let#[z,O,_,ez]:=Dd (f:=D.str) (l:=B) hp h6;simp! [ez,length_map];show#[by simp only[bS];lia,hK _ _ _ #[a7,s7,M,L,G,rfl] O]
  .obtain⟨a,s,ha,hs,F,rfl⟩:=hI;rw[Ca]at hA;let hfl:=GQ (n:=6) A λx U=>(i.2.2 x (hP x U)).2.1;let hA2:A.length<=2:=by lia
   let Y:A.flatten.length<=12:=by rw[List.length_flatten];lia
   rw[show(A.map λz:Wd=>S.sh (.str z))=(A.map D.str).map S.sh by rw[qD];rfl];simp! [aH,zax,KZ (show(A.map List.length).sum<=big by simp only[bS];lia)];show Lf ∅ ?_;simp! [zax];show Lh ha hs F ∅ λl a7 s7 hl O M L G=>?_;simp! [aH];show h #[I,B,A.flatten,l] a7 s7 #[hf _ Y,by show l.length<=24;lia,O.imp (·.1) id,i,h7] M L G
 .simp! [dZ,aH,Jp (length_pos_iff.mpr h8)];show h #[I,B,t,l] a5 s5 #[hf _ e1,by show l.length<=24;lia,O.imp (·.1) id,i,h7] h9 Z J
def OP{B:List Wd}{w:Wd}{l:List Nat}(h:l=[]\/tJ B w (dC l)=true):∀t∈kG l,aK B w t.1 t.2:=by
 rcases h with rfl|h
 .intro t i;cases i
 .unfold tJ at h;rw[and_eq_true,and_eq_true,qH]at h;intro t i;let F:((t.1:Int),(t.2:Int))∈pairsOf (dC l):=by unfold pairsOf dC;rw[<-List.map_drop,List.zip_map];exact qJ.mpr #[t,i,rfl]
  let#[a,b,M,J,G]:=Rj (h.2.2 _ F);let L:(t.1:Int)=a:=M;let I:(t.2:Int)=b:=J;rw[show t.1=a by lia,show t.2=b by lia];show G
def Pd{c:Nat}{ls:List Wd}{n m:Nat}(hn:ls.length<=n)(i:∀l∈ls,l.length<=m)(I:n*m+n<=1000000):fU [c] (ls.map D.str)=⇑(.sh (.str (aM [c] ls)))/\(aM [c] ls).length<=n*m+n:=by
 have J:(ls.map List.length).sum<=ls.length*m:=by
  clear hn I
  induction ls with
  |nil=>simp
  |cons l ls B=>have h1:=i l (by simp);let h2:=B λx F=>i x (qk _ F);rw[qy,sum_cons,qr,succ_mul];lia
 let L:ls.length*m<=n*m:=Nat.mul_le_mul_right _ hn;let G:=Ea [c] ls;rw[qB,Nat.mul_one]at G;show#[?_,∅];unfold fU;rw[FK,bind_some,qZ];rw[qB,Nat.mul_one,bS];lia
def iA(b:Bool):Wd:=if b then[111,110]else[98,97,99,107]
def pW(b:Bool):Wd:=if b then[43]else[45]
def dI(t:Bool×Nat):D:=.tup [.str (iA t.1),.int (t.2:Int)]
def gS(B:List Wd)(t:Bool×Nat):Wd:=B.getD t.2 []++pW t.1
def cD(B:List Wd)(Z:List (Bool×Nat)):Wd:=if Z=[]then[46]else aM [32] (Z.map (gS B))
structure jS(B:List Wd):Prop where
 len:B.length<=6
 le:∀w∈B,w.length<=6
 nd:B.Nodup
structure xW(B:List Wd)(Z:List (Bool×Nat)):Prop where
 len:Z.length<=25
 lt:∀t∈Z,t.2<B.length
def FP{B:List Wd}(i:jS B)(n:Nat):(B.getD n []).length<=6:=by
 rw[getD_eq_getElem?_getD];cases h:B[n]? with
 |none=>simp
 |some w=>show i.le w (qL h)
def Gb(b:Bool):(pW b).length=1:=by cases b<;>rfl
def Pv{B:List Wd}(i:jS B)(t:Bool×Nat):(gS B t).length<=7:=by unfold gS;let:=FP i t.2;rw[qp,Gb];lia
def Et{B:List Wd}{n:Nat}(h:n<B.length):atI (B.map D.str) (n:Int)=⇑(.str (B.getD n [])):=Bf ∅ (by rw[qV,qE,getElem?_eq_getElem h,getD_eq_getElem?_getD,getElem?_eq_getElem h];rfl)
def MH(b:Bool):xO [([111,110],[43]),([98,97,99,107],[45])] (.str (iA b))=⇑(.str (pW b)):=by cases b<;>rfl
def Gy{B:List Wd}{Z:List (Bool×Nat)}(G:jS B)(F:Z.length<=25):fU [32] ((Z.map (gS B)).map D.str)=⇑(.sh (.str (aM [32] (Z.map (gS B)))))/\(aM [32] (Z.map (gS B))).length<=200:=
 Pd (n:=25) (m:=7) (by rw[qh];show F) (λl i=>by let#[t,_,rfl]:=qJ.mp i;show Pv G t) ⋯
def Oe{B:List Wd}{Z:List (Bool×Nat)}(F:jS B)(i:Z.length<=25):(cD B Z).length<=200:=by
 unfold cD;split
 .simp
 .show(Gy F i).2
def KB{B:List Wd}{Z:List (Bool×Nat)}(I:jS B)(G:xW B Z)(h:P (.sh (.str (cD B Z))) [.sh (zI B),.sh (.tup (Z.map dI))]):dq [.sh (zI B),.sh (.tup (Z.map dI))] P PX:=by
 show AJ rfl rfl ?_;let i:=G.len;by_cases F:Z=[]
 .subst F;simp! [zI,length_nil,decide_true];show h
 .have M:↥(((Z.length:Nat):Int)=0)=false:=qR (by let:=qO.mpr F;lia)
  simp! [zI,length_map,M];show HL (n:=2) Z (λt=>.sh (.str (gS B t))) (λt J m o o' K Y U=>?_) λo o'=>?_
  .let L:=G.lt t J;let h6:=FP I t.2;let O:(B.getD t.2 []).length+(pW t.1).length<=1000000:=by rw[Gb];lia
   simp! [fF,mL,uE,dI,Et L,MH,O];show#[rfl,by simp only[bS];lia,U _ _]
  .rw[show(Z.map λt=>S.sh (.str (gS B t)))=((Z.map (gS B)).map D.str).map S.sh by simp[Function.comp_def]];let e:bF [32] [.lst ((Z.map (gS B)).map D.str)]=⇑(.sh (.str (aM [32] (Z.map (gS B))))):=(Gy I i).1;simp! [zax,e];let h':cD B Z=aM [32] (Z.map (gS B)):=q5 F;rw[h']at h;show h
def JB{l:List D}(i:aZ l<=29)(h:l≠[]):cS (.tup l) (.tup [])=⇑false:=by
 classical
 cases l with
 |nil=>show absurd rfl h
 |cons a l=>unfold cS;let e:↥(30<fC (.tup (a::l)))=false:=qR (by show¬30<aZ (a::l)+1;lia);rw[e,q5 (show¬((aT (.tup (a::l)) (.tup [])||false)=true) from λz=>Bool.noConfusion (show false=true from z))];show congrArg some ?_;rw[decide_eq_false_iff_not];show λz=>by cases z
def OY(Z:List (Bool×Nat)):aZ (Z.map dI)<=29:=EO _ λd i=>by let#[t,_,rfl]:=qJ.mp i;show aZ [D.str (iA t.1),D.int (t.2:Int)]+1<=29;simp[aZ,fC]
def Tt{B:List Wd}{Z:List (Bool×Nat)}(M:jS B)(J:xW B Z)(h:P (.sh (.str (cD B Z))) [.sh (zI B),.sh (.tup (Z.map dI))]):tP [.sh (zI B),.sh (.tup (Z.map dI))] P PX:=by
 show AJ rfl rfl ?_;let i:=J.len;simp! [zI,length_map];show HL (n:=2) Z (λt=>.sh (.str (gS B t))) (λt Y m o o' K hm L=>?_) λo o'=>?_
 .have hn:=J.lt t Y;let h6:=FP M t.2;let#[b,n]:=t;let F:(B.getD n []).length+1<=1000000:=by let h1:(B.getD n []).length<=6:=h6;lia
  let O:atI (B.map D.str) (n:Int)=⇑(.str (B.getD n [])):=Et hn;let U:↥(([98,97,99,107]:List Nat)=[111,110])=false:=⋯
  cases b
  .let I:(atI [45,43] (0:Int)).map (λc=>S.sh (D.str [c]))=⇑(.sh (.str [45])):=by rw[Bf ⋯ (show[45,43][(0:Int).toNat]?=some 45 from rfl)];rfl
   simp! [fF,mL,lI,dI,iA,O,U,I,F,length_cons,length_nil,if_true,false_eq_true,if_false];show#[by simp only[bS];lia,L _ _]
  .let I:(atI [45,43] (1:Int)).map (λc=>S.sh (D.str [c]))=⇑(.sh (.str [43])):=by rw[Bf ⋯ (show[45,43][(1:Int).toNat]?=some 43 from rfl)];rfl
   simp! [fF,mL,lI,dI,iA,O,U,I,F,length_cons,length_nil,if_true,false_eq_true,if_false];show#[by simp only[bS];lia,L _ _]
 .rw[show(Z.map λt=>S.sh (.str (gS B t)))=((Z.map (gS B)).map D.str).map S.sh by simp[Function.comp_def]];let e:bF [32] [.lst ((Z.map (gS B)).map D.str)]=⇑(.sh (.str (aM [32] (Z.map (gS B))))):=(Gy M i).1;by_cases G:Z=[]
  .subst G;let e3:bF [32] [.lst [D.str [46]]]=⇑(.sh (.str [46])):=rfl;simp! [zax,Ff,e3,if_true,Int.toNat_one,List.replicate_one,flatten_cons,flatten_nil,append_nil];show h
  .let h':cD B Z=aM [32] (Z.map (gS B)):=q5 G;let F:Z.length+0<=1000000:=by lia
   simp! [zax,JB (OY Z) ↑G,e,false_eq_true,if_false,Int.toNat_zero,List.replicate_zero,flatten_nil,append_nil,length_map,length_nil,F];rw[h']at h;show h
def eT(p:Wd):Wd:=p.take (p.length-1)
def eE(p:Wd):Wd:=p.drop (p.length-1)
def dF(B:List Wd)(p:Wd):Bool:=↥(eE p∈[[43],[45]])&&↥(eT p∈B)
def gJ(B:List Wd)(p:Wd):Bool×Nat:=(↥(eE p=[43]),B.idxOf (eT p))
def cM(B:List Wd)(t:Wd):Option (List (Bool×Nat)):=if t=[46]then ⇑[]else if(aA 32 t).all (dF B)then ⇑((aA 32 t).map (gJ B))else none
def CF(p:Wd):aO p none ⇑(-1)=eT p:=by show(p.drop 0).take (((-1:Int)+(p.length:Int)).toNat-0)=p.take (p.length-1);rw[drop_zero];congr 1;omega
def Dj(p:Wd):aO p ⇑(-1) none=eE p:=by show(p.drop ((-1:Int)+(p.length:Int)).toNat).take (p.length-((-1:Int)+(p.length:Int)).toNat)=p.drop (p.length-1);rw[take_of_length_le (by rw[qF];show q8 _)];congr 1;omega
def SA(p:Wd):eT p++eE p=p:=take_append_drop _ p
def FN(q:Wd):lX (.str q) (.tup [.str [43],.str [45]])=⇑↥(q∈[[43],[45]]):=DJ (ns:=[[43],[45]])
def Ip(q:Wd):(List.lookup q [([43],[111,110]),(([45]:Wd),([98,97,99,107]:Wd))]).isSome=↥(q∈[[43],[45]]):=by
 rw[lookup_cons,lookup_cons];by_cases h:q=[43]
 .subst h;rfl
 .by_cases h2:q=[45]
  .subst h2;rfl
  .rw[show(q==[43])=false from beq_eq_false_iff_ne.mpr h,show(q==[45])=false from beq_eq_false_iff_ne.mpr h2];simp[h,h2]
def Me{q:Wd}(h:q∈([[43],[45]]:List Wd)):xO [([43],[111,110]),([45],[98,97,99,107])] (.str q)=⇑(.str (iA ↥(q=[43]))):=by simp only[qA,not_mem_nil,or_false]at h;rcases h with rfl|rfl<;>rfl
def Nv{p:Wd}{c:Nat}(h:eE p=[c]):atI p (-1)=⇑c:=by let e:=SA p;rw[h]at e;rw[<-e];show DL
def Ot{B:List Wd}{z:Wd}(h:z∈B):oG (B.map D.str) (.str z)=⇑(B.idxOf z):=by
 unfold oG;rw[qZ (by rw[qH];intro d F;let#[b,_,rfl]:=qJ.mp F;rfl)]
 rw[List.findIdx?_eq_some_iff_getElem];let hi:B.idxOf z<B.length:=List.idxOf_lt_length_iff.mpr h;show#[↑hi,?_,λj i=>?_]
 .simp[List.getElem_idxOf hi]
 .let:¬B[j]'∅=z:=by let:=List.not_of_lt_findIdx i;simpa using this
  simp[this]
def EI{B:List Wd}{t p:Wd}(i:t≠[46])(G:p∈aA 32 t)(F:dF B p=false):cM B t=none:=by unfold cM;rw[q5 i,q5 λz=>by rw[qH.mp z p G]at F;cases F]
def TC{B:List Wd}{t:Wd}(hB:jS B)(ht:t.length<=1000)(hp:(aA 32 t).length<=500)(h:P (.sh (match cM B t with|some Z=>.tup (Z.map dI)|none=>.non)) [.sh (zI B),.sh (.str t)]):tO [.sh (zI B),.sh (.str t)] P PX:=by
 let hb:t.length<=big:=by simp only[bS];lia
 show AJ rfl rfl ?_;by_cases G:t=[46]
 .subst G;let e:(aA 32 [46]).length<=500:=by decide
  simp! [zI,false_eq_true,if_false,Int.toNat_zero,List.replicate_zero,flatten_nil];show h
 .have h7:(0:Int)<=1/\(1:Int)<=1000/\((aA 32 t).map λp=>S.sh (D.str p)).length<=500:=#[⋯,⋯,↑hp]
  simp! [zI,G,if_true,Int.toNat_one,List.replicate_one,flatten_cons,flatten_nil,append_nil,map_map,length_map,hp];rw[show(aA 32 t).map (S.toD∘S.sh∘S.toD∘λp=>S.sh (D.str p))=(aA 32 t).map D.str from rfl];let h6:=hB.len;show BQ (toD:=D.str) (λi ρ=>(i.all (dF B)=true)/\∃U:Option S,ρ=[⇑(.sh (zI B)),⇑(.sh (.str t)),⇑(.lst ((i.map λp=>dI (gJ B p)).map .sh)),U]) (aA 32 t) (λi p h2 D2 ρ e hI Y h4 J h5=>?_) (λρ hI=>?_) #[rfl,none,rfl]
  .obtain⟨F,U,rfl⟩:=hI;let h3:i.length<=500:=by let:=congrArg List.length e;rw[qp]at this;lia
   let L:p∈aA 32 t:=by rw[<-e];simp
   by_cases I:eE p∈([[43],[45]]:List Wd)
   .by_cases M:eT p∈B
    .have hg:dF B p=true:=by unfold dF;rw[qQ I,qQ M];rfl
     have O:=Y [⇑(.sh (zI B)),⇑(.sh (.str t)),⇑(.lst (((i++[p]).map λp=>dI (gJ B p)).map .sh)),⇑(.sh (.str p))] #[by rw[List.all_append,F];simp[hg],_,rfl];let hw:∃c,eE p=[c]/\(c=43\/c=45):=by
      simp only[qA,not_mem_nil,or_false]at I;rcases I with g|g
      .show#[_,g,.inl rfl]
      .show#[_,g,.inr rfl]
     let#[c,hc,h1]:=hw;let ea:=Nv hc;let e2:(atI p (-1)).map (λc=>S.sh (D.str [c]))=⇑(.sh (.str [c])):=by rw[ea];rfl
     let e3:atI [S.sh (D.str [98,97,99,107]),S.sh (D.str [111,110])] (if ↥([c]=[43])=true then 1 else 0)=⇑(.sh (.str (iA ↥(eE p=[43])))):=by rw[hc];rcases h1 with rfl|rfl<;>rfl
     simp! [iI,zI,CF,Dj,FN,DJ,decide_eq_true I,decide_eq_true M,ea,e2,Bool.not_true];simp! [e3,zI,CF,zd9 (Ot M),length_map];show#[by simp only[bS];lia,?_];simp only[map_append,qy,map_nil]at O;show O
    .rw[EI G L (by unfold dF;rw[qR M,Bool.and_false])]at h;simp! [iI,zI,CF,Dj,FN,DJ,decide_eq_true I,decide_eq_false M,Bool.not_true,Bool.not_false];rw[J];simp! [e_C];show h
   .rw[EI G L (by unfold dF;rw[qR I,Bool.false_and])]at h;simp! [iI,zI,CF,Dj,FN,DJ,decide_eq_false I,Bool.not_true,Bool.not_false];rw[J];simp! [e_C];show h
  .obtain⟨F,U,rfl⟩:=hI;let hs:cM B t=⇑((aA 32 t).map (gJ B)):=by unfold cM;rw[q5 G,qZ F]
   rw[hs]at h;simp! [zax];rw[show(aA 32 t).map (λp=>dI (gJ B p))=((aA 32 t).map (gJ B)).map dI by rw[qD];rfl];show h
def Ew(B:List Wd):cA 0 (B.map D.str)=(List.range B.length).map λk:Nat=>D.tup [.int (k:Int),.str (B.getD k [])]:=by rw[So];show map_congr_left λk i=>?_;rw[getD_eq_getElem?_getD]
def KJ(B:List Wd):(List.range B.length).map (λk=>D.str (B.getD k []))=B.map D.str:=by
 apply List.ext_getElem
 .simp
 .intro i h1 h2;simp at h2;simp[getD_eq_getElem?_getD,h2]
def EU{n k:Nat}{i B:List Nat}(e:i++k::B=List.range n):i=List.range k/\k<n:=by
 let h1:i.length<n:=by let:=congrArg List.length e;rw[qp,qr,qC]at this;lia
 let h2:=congrArg (λl=>l[i.length]?) e;simp[h1]at h2;subst h2;show#[?_,h1];let F:=congrArg (List.take i.length) e;rw[List.take_left]at F;rw[List.take_range,min_eq_left (le_of_lt h1)]at F;show F
open Classical in
def Kl{z:Wd}:∀(B:List Wd)(k:Nat),z∈B->lk (B.map D.str) ((List.range' k B.length).map λ(i:Nat)=>D.int (i:Int)) (.str z)=⇑(.int ((k+B.idxOf z:Nat):Int))
 |b::B,k,h=>by
  rw[qr,List.range'_succ,qy,qy];show(if D.str b=D.str z then ⇑(D.int (k:Int))else lk (B.map D.str) ((List.range' (k+1) B.length).map λ(i:Nat)=>D.int (i:Int)) (.str z))=_;by_cases F:b=z
  .subst F;rw[qZ rfl,List.idxOf_cons_self];rfl
  .rw[q5 λe=>F (D.str.inj e),Kl B (k+1) ((qA.mp h).resolve_left λe=>F e.symm),List.idxOf_cons,show(b==z)=false from beq_eq_false_iff_ne.mpr F,cond_false];rw[show k+1+B.idxOf z=k+(B.idxOf z+1) by lia]
def OW{B:List Wd}{z:Wd}(h:z∈B):lk (B.map D.str) ((List.range B.length).map λ(k:Nat)=>D.int (k:Int)) (.str z)=⇑(.int (B.idxOf z:Nat)):=by let:=Kl B 0 h;rw[zero_add]at this;rw[List.range_eq_range'];show this
def Pk{B:List Wd}{z:Wd}{vs:List D}:lX (.str z) (.dct false (B.map D.str) vs)=⇑↥(z∈B):=by
 classical
 show(if bP false (D.str z)=true then ⇑↥(D.str z∈B.map D.str)else none)=_;rw[qZ (show bP false (D.str z)=true from rfl)];show congrArg some (decide_eq_decide.mpr ?_);rw[qJ];show#[λ⟨y,h1,h2⟩=>D.str.inj h2▸h1,λh=>#[z,h,rfl]]
def OB{α:Type}{toD:α->D}{g:WG}{b:WS}{D':Ends}(I:List α->Env->Prop)(xs:List α)
  (step:∀(B:List α)(x:α)(i:List α)(F:Ends)(ρ:Env),B++x::i=xs->I B ρ->(∀ρ',I (B++[x]) ρ'->F.nx ρ')->F.rt=D'.rt->F.ex=D'.ex->g (.sh (toD x)) ρ (λρ=>b F ρ))
  (J:∀ρ,I xs ρ->D'.nx ρ)(M:I [] ρ):bU g b (xs.map toD) D' ρ:=by
 have G:∀(i B:List α)(ρ:Env),B++i=xs->I B ρ->bU g b (i.map toD) D' ρ:=by
  intro i;induction i with
  |nil=>intro B ρ e h;rw[qz]at e;subst e;show J ρ h
  |cons x i L=>intro B ρ e h;show step B x i (mf g b (i.map toD) D') ρ e h (λρ' h'=>L (B++[x]) ρ' (by rw[<-e];simp) h') rfl rfl
 show G xs [] ρ rfl M
def Hd(c:Nat):∀l:List Nat,(aA c l).length<=l.length+1
 |[]=>by simp[aA]
 |a::r=>by
  let i:=Hd c r;unfold aA;split
  .rw[qr,qr];lia
  .split
   .rw[qB,qr];lia
   .rename_i p ps e;rw[e,qr]at i;rw[qr,qr];lia
def Td{B:List Wd}{t:Wd}(hB:jS B)(ht:t.length<=1000)(ho:∀Z,cM B t=⇑Z->P (.sh (.tup (Z.map dI))) [.sh (zI B),.sh (.str t)])
  (hx:cM B t=none->PX (.exc kT [[114,111,119]] [.int 0]) [.sh (zI B),.sh (.str t)]):gn [.sh (zI B),.sh (.str t)] P PX:=by
 let hb:t.length<=big:=by simp only[bS];lia
 let h6:=hB.len;show AJ rfl rfl ?_;by_cases G:t=[46]
 .subst G;simp! [zI];show ho [] (by unfold cM;rw[qZ rfl])
 .simp! [zI,G];rw[Ew];refine ID (toD:=λk:Nat=>D.tup [.int (k:Int),.str (B.getD k [])]) (λF ρ=>∃o8 o9:Option S,ρ=[⇑(.sh (zI B)),⇑(.sh (.str t)),none,none,none,none,none,⇑(.dct false (F.map λk=>D.str (B.getD k [])) (F.map λ(k:Nat)=>S.sh (.int (k:Int)))),o8,o9]) (List.range B.length) (λF k O K ρ e J hK=>?_) (λρ J=>?_) #[none,none,rfl]
  .obtain⟨o8,o9,rfl⟩:=J;let#[rfl,hk]:=EU e;let i:((List.range (k+1)).map λk=>D.str (B.getD k [])).Nodup:=by
    let h1:(B.map D.str).Nodup:=by rw[List.nodup_iff_pairwise_ne,pairwise_map];show hB.nd.imp λh z=>h (D.str.inj z)
    rw[<-KJ]at h1;show((List.range_sublist.mpr hk).map _).nodup h1
   rw[List.range_succ,map_append,List.map_singleton]at i;let#[n1,_,n3]:=qw.mp i;let h3:D.str (B.getD k [])∉(List.range k).map λk=>D.str (B.getD k []):=λz=>n3 _ z _ (qt.mpr rfl) rfl;simp! [fF,mL,uD,length_cons,length_nil,length_map,length_range];show#[rfl,n1,by simp only[bS];lia,?_];rw[PD h3];let:=hK _ #[⇑(.sh (.int (k:Int))),⇑(.sh (.str (B.getD k []))),rfl];simp only[map_append,qy,map_nil]at this;show this
  .obtain⟨o8,o9,rfl⟩:=J;rw[KJ];simp! [zax];let h5:((List.range B.length).map λ(k:Nat)=>S.sh (D.int (k:Int))).map S.toD=(List.range B.length).map λ(k:Nat)=>D.int (k:Int):=by rw[qD];rfl
   rw[h5,show((aA 32 t).map λp=>S.sh (D.str p)).map S.toD=(aA 32 t).map D.str by rw[qD];rfl];let h8:(aA 32 t).length<=1001:=by let:=Hd 32 t;lia
   show OB (toD:=D.str) (λF ρ=>(F.all (dF B)=true)/\∃o4 Y U:Option S,ρ=[⇑(.sh (zI B)),⇑(.sh (.str t)),⇑(.sh (.dct false (B.map D.str) ((List.range B.length).map λ(k:Nat)=>D.int (k:Int)))),⇑(.lst ((F.map λp=>dI (gJ B p)).map .sh)),o4,Y,U]) (aA 32 t) (λF p O D2 ρ e J h4 h7 hex=>?_) (λρ J=>?_) #[rfl,none,none,none,rfl]
   .obtain⟨i,o4,Y,U,rfl⟩:=J;let h9:F.length<=1001:=by let:=congrArg List.length e;rw[qp]at this;lia
    let h2:p∈aA 32 t:=by rw[<-e];simp
    let L:lX (.str (eT p)) (.dct false (B.map D.str) ((List.range B.length).map λ(k:Nat)=>D.int (k:Int)))=⇑↥(eT p∈B):=Pk;by_cases M:eT p∈B
    .by_cases g1:eE p∈([[43],[45]]:List Wd)
     .let hg:dF B p=true:=by unfold dF;rw[qQ g1,qQ M];rfl
      let I:=λo4 Y U=>h4 [⇑(.sh (zI B)),⇑(.sh (.str t)),⇑(.sh (.dct false (B.map D.str) ((List.range B.length).map λ(k:Nat)=>D.int (k:Int)))),⇑(.lst (((F++[p]).map λp=>dI (gJ B p)).map .sh)),o4,Y,U] #[by rw[List.all_append,i];simp[hg],_,_,_,rfl];simp! [jY,CF,Dj,L,Ip,decide_eq_true g1,decide_eq_true M,Me g1,OW M,length_map,show(false==true)=false from rfl];show#[by simp only[bS];lia,?_];let I:=I ⇑(.sh (.str p)) ⇑(.sh (.str (eT p))) ⇑(.sh (.str (eE p)));simp only[map_append,qy,map_nil]at I;show I
     .let hn:=EI G h2 (B:=B) (by unfold dF;rw[qR g1,Bool.false_and]);simp! [jY,CF,Dj,L,Ip,decide_eq_false g1,decide_eq_true M,show(false==false)=true from rfl];rw[hex];show hx hn
    .let hn:=EI G h2 (B:=B) (by unfold dF;rw[qR M,Bool.and_false]);simp! [jY,CF,Dj,L,decide_eq_false M];rw[hex];show hx hn
   .obtain⟨i,o4,Y,U,rfl⟩:=J;let hs:cM B t=⇑((aA 32 t).map (gJ B)):=by unfold cM;rw[q5 G,qZ i]
    let h:=ho _ hs;simp! [zax];rw[show(aA 32 t).map (λp=>dI (gJ B p))=((aA 32 t).map (gJ B)).map dI by rw[qD];rfl];show h
def gY(Z:List (Bool×Nat)):D:=.tup [.str [116,111,108,100],.tup (Z.map dI)]
def nG:D:=.tup [.str [114,101,102,117,115,101,100],.int 0]
def dD(B:List Wd)(t:Wd):D:=match cM B t with
 |some Z=>gY Z
 |none=>nG
def Qi{B:List Wd}{t:Wd}{Z:List (Bool×Nat)}(h:cM B t=⇑Z)(i:(aA 32 t).length<=500):Z.length<=500:=by
 unfold cM at h;split at h
 .cases h;simp
 .split at h
  .cases h;rw[qh];show i
  .cases h
def OT{Z:List (Bool×Nat)}(h:Z.length<=500):ak 4 (gY Z)=true:=by
 let B:ak 3 (.tup (Z.map dI))=true:=by show(↥((Z.map dI).length<=1000)&&(Z.map dI).all (ak 2))=true;rw[and_eq_true,decide_eq_true_iff,qh,qH];show#[∅,λd i=>?_];let#[t,_,rfl]:=qJ.mp i;rfl
 show(↥(([D.str [116,111,108,100],.tup (Z.map dI)]).length<=1000)&&(true&&(ak 3 (.tup (Z.map dI))&&true)))=true;rw[B];rfl
def LI{B:List Wd}{t:Wd}(I:jS B)(i:t.length<=1000)(h:P (.sh (dD B t)) [.sh (zI B),.sh (.str t)]):tN [.sh (zI B),.sh (.str t)] P PX:=by
 show AJ rfl rfl ?_;simp! [e_C];show Td I i (λZ G=>?_) (λF=>?_)
 .let e:dD B t=gY Z:=by unfold dD;rw[G]
  rw[e]at h;simp! [e_C];show h
 .let e:dD B t=nG:=by unfold dD;rw[F]
  rw[e]at h;let M:([]:List (List Nat)).contains kT=false:=rfl;let L:[kT].contains kT=true:=⋯
  let J:eL "bool" (.int 0)=false:=rfl;simp! [M,L,J,length_cons,length_nil];show h
def Cn{B:List Wd}{t:Wd}(L:jS B)(I:t.length<=1000)(M:(aA 32 t).length<=500)(h:P (.sh (.bl true)) [.sh (zI B),.sh (.str t)]):iY [.sh (zI B),.sh (.str t)] P PX:=by
 show AJ rfl rfl ?_;simp! [e_C];show TC L I M ?_;let F:∀x y:D,atI [x,y] 1=⇑y:=λ_ _=>rfl;let G:∀l:List D,cc (.tup l) .non=⇑false:=λl=>by show ⇑(open Classical in ↥(D.tup l=D.non))=_;simp
 let i:cc .non .non=⇑true:=by show ⇑(open Classical in ↥(D.non=D.non))=_;simp
 cases e:cM B t with
 |some Z=>
  let J:dD B t=gY Z:=by unfold dD;rw[e]
  simp! [F,G];show LI L I ?_;rw[J];simp! [gY];show GW (d:=gY Z) (OT (Qi e M)) ?_;simp! [e_C];show h
 |none=>
  let J:dD B t=nG:=by unfold dD;rw[e]
  simp! [F,i];show LI L I ?_;rw[J];simp! [nG];show GW (d:=nG) rfl ?_;simp! [e_C];show h
theorem split_free{c:Nat}:∀{l:List Nat}{p:List Nat},p∈aA c l->c∉p
 |[],p,h=>by unfold aA at h;rw[qt.mp h];simp
 |a::r,p,h=>by
  let i:=@split_free c r;unfold aA at h;split at h
  .rcases qA.mp h with rfl|h
   .simp
   .show i h
  .rename_i B;split at h
   .rw[qt.mp h];simpa using λz=>B z.symm
   .rename_i q ps e;rcases qA.mp h with rfl|h
    .let:=i (p:=q) (by rw[e];simp);simp only[qA,not_or];show#[λz=>B z.symm,this]
    .show i (by rw[e];show qk _ h)
def CK{c:Nat}:∀l:List Nat,(aA c l).length=l.count c+1
 |[]=>by simp[aA]
 |a::r=>by
  let i:=CK (c:=c) r;unfold aA;split
  .rename_i B;rw[qr,i,B,List.count_cons_self]
  .rename_i B;rw[List.count_cons_of_ne B,<-i];split
   .rename_i e;rw[e]at i;simp at i
   .rename_i e;rw[e];rfl
def Fo{c:Nat}:∀l:List Nat,((aA c l).map List.length).sum+(aA c l).length=l.length+1
 |[]=>by simp[aA]
 |a::r=>by
  let i:=Fo (c:=c) r;unfold aA;split
  .simp only[qy,sum_cons,qr,qv];lia
  .split
   .rename_i e;rw[e]at i;simp at i
   .rename_i q ps e;rw[e]at i;simp only[qy,sum_cons,qr]at i⊢;lia
def GZ{c:Nat}:∀{ps:List Wd},ps≠[]->(∀p∈ps,c∉p)->aA c (aM [c] ps)=ps
 |[],h,_=>absurd rfl h
 |[p],_,h=>Gv (h p (by simp))
 |p::q::r,_,h=>by let i:=GZ (ps:=q::r) (by simp) λx B=>h x (qk _ B);rw[show aM [c] (p::q::r)=p++c::aM [c] (q::r) by show p++[c]++aM [c] (q::r)=_;simp,GI (h p (by simp)),i]
def iR(t t':Wd):Prop:=t'.length<=2*t.length+2/\(aA 32 t').length<=(aA 32 t).length+1
def GB{t mid:Wd}{i j:Nat}(B:mid.length<=1)(F:i<=j):iR t (t.take i++mid++t.drop j):=by
 let h1:(t.take i).length<=t.length:=List.length_take_le' ..;let I:(t.drop j).length=t.length-j:=qF;let G:(t.take i).length=min i t.length:=qG;show#[by rw[qp,qp];lia,?_];rw[CK,CK,count_append,count_append];let h2:t.count 32=(t.take i).count 32+(t.drop i).count 32:=by rw[<-count_append,take_append_drop]
 let L:(t.drop j).count 32<=(t.drop i).count 32:=(show(t.drop j).Sublist (t.drop i) by rw[show t.drop j=(t.drop i).drop (j-i) by rw[List.drop_drop];congr 1;lia];show List.drop_sublist _ _).count_le _
 let J:mid.count 32<=1:=le_trans List.count_le_length B;lia
def Uz{t:Wd}{Q:List Wd}(G:∀q∈Q,q∈aA 32 t)(I:Q.length<=(aA 32 t).length+1)(J:(Q.map List.length).sum<=2*((aA 32 t).map List.length).sum):iR t (aM [32] Q):=by
 let h1:=Fo (c:=32) t;let h2:=CK (c:=32) t;let i:=Ea [32] Q;rw[qB,Nat.mul_one]at i;show#[∅,?_];by_cases F:Q=[]
 .subst F;show(aA 32 []).length<=_;simp[aA]
 .rw[GZ F λq B=>split_free (G q B)];show I
def TR{l:List (List Nat)}(h:(l.map List.length).sum<=big):bF [] [.tup (l.map D.str)]=⇑(.sh (.str l.flatten)):=KZ h
def EG(L:List Wd)(i:Nat):((L.take i).map List.length).sum+((L.drop i).map List.length).sum=(L.map List.length).sum:=by rw[<-sum_append,<-map_append,take_append_drop]
def rD(l:Wd):Prop:=0<l.length/\l.length<=100
def PQ{x y z:Wd}{r:Int}(B:rD x)(i:rD y)(hz:rD z)(F:0<=r)(h:r<3):∃l:Wd,rD l/\atI [S.sh (.str x),S.sh (.str y),S.sh (.str z)] r=⇑(S.sh (.str l)):=by
 rcases(show r=0\/r=1\/r=2 by lia)with rfl|rfl|rfl
 .show#[x,B,rfl]
 .show#[y,i,rfl]
 .show#[z,hz,rfl]
def sN:Wd:=[32,33,34,35,36,38,39,40,41,42,43,44,45,46,47,48,49,50,51,52,53,54,55,56,57,58,59,60,61,62,63,64,65,66,67,68,69,70,71,72,73,74,75,76,77,78,79,80,81,82,83,84,85,86,87,88,89,90,91,92,93,94,95,96,97,98,99,100,101,102,103,104,105,106,107,108,109,110,111,112,113,114,115,116,117,118,119,120,121,122,123,124,125,126,10]
def OS{l:Wd}{r:Int}(i:0<=r)(h:r<l.length):∃c,atI l r=⇑c:=#[_,Bf i (getElem?_eq_getElem ∅)]
def JS{Q:List Wd}(h:(Q.map List.length).sum+Q.length<=1000000):bF [32] [.lst (Q.map D.str)]=⇑(.sh (.str (aM [32] Q))):=by show fU [32] (Q.map D.str)=_;unfold fU;rw[FK,bind_some,qZ];rw[qB,Nat.mul_one,bS];show h
def LX{a s:Int}{B:List Wd}{t:Wd}(ha:0<=a)(hs:1<=s)(Z:s<=2147483629)(hB:jS B)(ht:t.length<=1000)
  (h:∀t' a' s',iR t t'->0<=a'->1<=s'->s'<=2147483629->P (.sh (.str t')) [aH a' s',.sh (zI B),.sh (.str t)]):oZ [aH a s,.sh (zI B),.sh (.str t)] P PX:=by
 let h6:=hB.len;let hd:(B.map List.length).sum<=36:=le_trans (GQ B hB.le) ∅;let hfl:B.flatten.length<=36:=by rw[List.length_flatten];show hd
 show AJ rfl rfl ?_;let hbj:(B.map List.length).sum<=big:=by simp only[bS];lia
 let hbf:B.flatten.length+1<=1000000:=∅
 let hb:rD sN:=by unfold rD;decide
 let l4:rD [43,45,32,46]:=by unfold rD;decide
 let l3:rD (B.flatten++[43]):=#[by simp,by rw[qp,qB];lia]
 simp! [aH,zI,TR hbj,hbf,length_cons,length_nil];show AC ha hs Z ⋯ ⋯ λr a1 s1 hr hr2 ha1 k3 e4=>?_;let#[l,hl,el]:=PQ hb l4 l3 hr hr2;unfold sN at el;simp! [aH,el];show AC ha1 k3 e4 (by let:=hl.1;lia) (by let:=hl.2;lia) λr2 a2 s2 hr3 hr4 ha2 Z e3=>?_;let#[c,hc]:=OS hr3 hr4;let hc2:(atI l r2).map (λc=>S.sh (D.str [c]))=⇑(.sh (.str [c])):=by rw[hc];rfl
 simp! [aH,hc,hc2];show AC ha2 Z e3 ∅ ∅ λi a3 s3 hi hi2 ha3 r3 h9=>?_;simp! [aH];show AC ha3 r3 h9 ⋯ ⋯ λf a4 s4 hf hf2 O L I=>?_;obtain⟨k,rfl⟩:∃k:Nat,i=(k:Int):=#[i.toNat,∅]
 let hk:k<=t.length:=∅
 let ct:aO t none ⇑(k:Int)=t.take k:=by rw[EJ _ ∅ ∅,qV]
 let cd:∀j:Nat,aO t ⇑(j:Int) none=t.drop j:=λj=>by rw[Dg _ ∅,qV]
 simp! [aH];let hp:aO t ⇑((k:Int)+1) none=t.drop (k+1):=cd (k+1);let b1:(t.take k).length<=1000:=le_trans (List.length_take_le' ..) ht;let b2:(t.drop k).length<=1000:=by rw[qF];lia
 let b3:(t.drop (k+1)).length<=1000:=by rw[qF];lia
 by_cases hx:f<3
 .simp! [decide_eq_true hx];let m1:=h _ a4 s4 (GB (t:=t) (mid:=[c]) (i:=k) (j:=k) (by simp) (q8 _)) O L I;let m2:=h _ a4 s4 (GB (t:=t) (mid:=[]) (i:=k) (j:=k+1) (by simp) ∅) O L I;let m3:=h _ a4 s4 (GB (t:=t) (mid:=[c]) (i:=k) (j:=k+1) (by simp) ∅) O L I;let a0:∀x y z:S,atI [x,y,z] 0=⇑x:=λ_ _ _=>rfl;let a1':∀x y z:S,atI [x,y,z] 1=⇑y:=λ_ _ _=>rfl;let a2':∀x y z:S,atI [x,y,z] 2=⇑z:=λ_ _ _=>rfl;let e0:↥((0:Int)>0)=false:=rfl;let e1:↥((1:Int)>0)=true:=rfl;let e2:↥((2:Int)>0)=true:=rfl;rcases(show f=0\/f=1\/f=2 by lia)with rfl|rfl|rfl
  .simp! [a0,e0,ct,cd,Int.add_zero,length_append,length_cons,length_nil,if_true,if_false,false_eq_true];show m1
  .simp! [a1',e1,ct,hp,length_append,length_cons,length_nil,if_true];rw[qz]at m2;show m2
  .simp! [a2',e2,ct,hp,length_append,length_cons,length_nil,if_true];show m3
 .have hne:0<(aA 32 t).length:=by rw[CK];lia
  let hle:(aA 32 t).length<=1001:=by let:=Hd 32 t;lia
  let hbt:t.length<=big:=by simp only[bS];lia
  simp! [decide_eq_false hx,hbt,length_map];rw[show(aA 32 t).map (λp=>S.sh (D.str p))=((aA 32 t).map D.str).map S.sh by rw[qD];rfl];let ev:vC ⇑(S.lst (((aA 32 t).map D.str).map S.sh))=⇑(.lst ((aA 32 t).map D.str)):=zpS;simp! [ev,length_map];show AC O L I ∅ ∅ λi1 a5 s5 hi1 hi12 ha5 r1 h8=>?_;simp! [aH,ev,length_map];show AC ha5 r1 h8 ∅ ∅ λi2 a6 s6 hi2' hi22 ha6 hm h7=>?_;obtain⟨G,rfl⟩:∃k:Nat,i1=(k:Int):=#[i1.toNat,∅]
  obtain⟨J,rfl⟩:∃k:Nat,i2=(k:Int):=#[i2.toNat,∅]
  generalize U:aA 32 t=F at*;let q1:aO (F.map D.str) none ⇑(G:Int)=(F.take G).map D.str:=by rw[EV,EJ _ ∅ ∅,qV]
  let q2:aO (F.map D.str) ⇑(G:Int) none=(F.drop G).map D.str:=by rw[EV,Dg _ ∅,qV]
  let q3:aO (F.map D.str) ⇑((G:Int)+1) none=(F.drop (G+1)).map D.str:=by rw[EV,show(G:Int)+1=((G+1:Nat):Int) by lia,Dg _ ∅,qV]
  let q4:aO (F.map D.str) ⇑(J:Int) ⇑((J:Int)+1)=((F.drop J).take 1).map D.str:=by rw[EV,show(J:Int)+1=((J+1:Nat):Int) by lia,Gx];congr 2;lia
  let c1:(F.take G).length<=1001:=le_trans (List.length_take_le' ..) hle;let c2:(F.drop G).length<=1001:=by rw[qF];lia
  let c3:(F.drop (G+1)).length<=1001:=by rw[qF];lia
  let c4:((F.drop J).take 1).length<=1:=List.length_take_le ..;simp! [aH,ev];let h5:=Fo (c:=32) t;rw[U]at h5;let h4:∀Q:List Wd,(∀q∈Q,q∈F)->Q.length<=F.length+1->(Q.map List.length).sum<=2*(F.map List.length).sum->bF [32] [.lst (Q.map D.str)]=⇑(.sh (.str (aM [32] Q)))/\P (.sh (.str (aM [32] Q))) [aH a6 s6,.sh (zI B),.sh (.str t)]:=λQ h1 h2 h3=>#[JS ∅,h _ a6 s6 (Uz (by rw[U];show h1) (by rw[U];show h2) (by rw[U];show h3)) ha6 hm h7]
  let u1:=EG F G;let u2:=EG F J;let u3:=EG (F.drop J) 1;let u4:=EG (F.drop G) 1;rw[List.drop_drop]at u4;let v1:(F.take G).length+(F.drop G).length=F.length:=by rw[<-qp,take_append_drop]
  let v3:(F.drop (G+1)).length<=(F.drop G).length:=by rw[qF,qF];lia
  let mt:∀{q:Wd}{n:Nat},q∈F.take n->q∈F:=λh=>mem_of_mem_take h;let md:∀{q:Wd}{n:Nat},q∈F.drop n->q∈F:=λh=>List.mem_of_mem_drop h;by_cases f3:f=3
  .subst f3;let#[Y,g2]:=h4 (F.take G++F.drop (G+1)) (λq M=>(qx.mp M).elim mt md) (by rw[qp];lia) (by rw[map_append,sum_append];lia);rw[map_append]at Y;simp! [ev,q1,q3,length_map,Y];show g2
  .by_cases f4:f=4
   .subst f4;let#[Y,g2]:=h4 (F.take G++(F.drop J).take 1++F.drop G) (λq M=>(qx.mp M).elim (λM=>(qx.mp M).elim mt λz=>md (mem_of_mem_take z)) md) (by rw[qp,qp];lia) (by rw[map_append,sum_append,map_append,sum_append];lia);rw[map_append,map_append]at Y;simp! [ev,q1,q2,q4,length_map,Y];show g2
   .obtain⟨Y,g2⟩:=h4 (F.take G++(F.drop J).take 1++F.drop (G+1)) (λq M=>(qx.mp M).elim (λM=>(qx.mp M).elim mt λz=>md (mem_of_mem_take z)) md) (by rw[qp,qp];lia) (by rw[map_append,sum_append,map_append,sum_append];lia);rw[map_append,map_append]at Y;simp! [decide_eq_false f3,decide_eq_false f4,ev,q1,q3,q4,length_map,Y];show g2
def QN{B:List Wd}(i:∀w∈B,32∉w)(t:Bool×Nat):32∉gS B t:=by
 unfold gS;rw[qx,not_or];show#[?_,by cases t.1<;>decide];rw[getD_eq_getElem?_getD];cases h:B[t.2]? with
 |none=>simp
 |some w=>show i w (qL h)
def JN{B:List Wd}{Z:List (Bool×Nat)}(i:∀w∈B,32∉w):aA 32 (cD B Z)=if Z=[]then[[46]]else Z.map (gS B):=by
 unfold cD;by_cases h:Z=[]
 .rw[qZ h,qZ h];decide
 .rw[q5 h,q5 h];show GZ ↑h λp F=>by let#[t,_,rfl]:=qJ.mp F;show QN i t
def Ii{n:Nat}:∀{L:List Wd},(∀l∈L,n<=l.length)->L.length*n<=(L.map List.length).sum
 |[],_=>by simp
 |l::L,h=>by let h1:=h l (by simp);let h2:=Ii (L:=L) λx i=>h x (qk _ i);rw[qy,sum_cons,qr,succ_mul];lia
def Qw{B:List Wd}{Z:List (Bool×Nat)}(F:∀w∈B,32∉w):2*(aA 32 (cD B Z)).length<=(cD B Z).length+1:=by
 have h1:=Fo (c:=32) (cD B Z);let h2:(aA 32 (cD B Z)).length*1<=((aA 32 (cD B Z)).map List.length).sum:=Ii λl i=>by
  rw[JN F]at i;split at i
  .rw[qt.mp i];decide
  .obtain⟨t,_,rfl⟩:=qJ.mp i;unfold gS;rw[qp,Gb];lia
 lia
def Qj{B:List Wd}{Z:List (Bool×Nat)}(i:∀w∈B,32∉w)(F:Z.length<=25):(aA 32 (cD B Z)).length<=25:=by
 rw[JN i];split
 .simp
 .rw[qh];show F
def LD:∀{Q:List Wd},Q≠[]->(aM [32] Q).count 32+1=(Q.map λq=>q.count 32+1).sum
 |[],h=>absurd rfl h
 |[p],_=>by simp[aM]
 |p::q::r,_=>by let i:=LD (Q:=q::r) (by simp);rw[show aM [32] (p::q::r)=p++32::aM [32] (q::r) by show p++[32]++aM [32] (q::r)=_;simp,count_append,List.count_cons_self,qy,sum_cons,<-i];lia
def CT{T:Wd}{k:Nat}(h2:2*(aA 32 T).length<=T.length+1)(G:k*(T.length+1)<=601):(aM [32] (List.replicate k T)).length<=601/\(aA 32 (aM [32] (List.replicate k T))).length<=500:=by
 let F:=Ea [32] (List.replicate k T);rw[List.map_replicate,List.sum_replicate_nat,List.length_replicate,qB]at F;let J:k*(T.length+1)=k*T.length+k:=Nat.mul_succ ..;show#[∅,?_];by_cases B:k=0
 .subst B;show(aA 32 []).length<=_;simp[aA]
 .let i:=LD (Q:=List.replicate k T) ↑B;rw[List.map_replicate,List.sum_replicate_nat]at i;rw[CK,i];rw[CK]at h2;let:k*(2*(T.count 32+1))<=k*(T.length+1):=Nat.mul_le_mul_left _ h2;let I:k*(2*(T.count 32+1))=2*(k*(T.count 32+1)):=by rw[Nat.mul_left_comm]
  lia
def HS{B:List Wd}(h:jS B):jS B.reverse:=#[by rw[List.length_reverse];show h.len,λw i=>h.le w (List.mem_reverse.mp i),(List.reverse_perm B).nodup_iff.mpr h.nd]
def nE(B:List Wd)(w:Wd)(t:Nat×Nat):Bool×Nat:=(↥(t.1<t.2),mF B w t.1 t.2)
def OO(B:List Wd)(w:Wd)(t:Nat×Nat):eD B w t=dI (nE B w t):=by
 unfold eD dI nE fc iA;by_cases h:t.1<t.2
 .simp[h]
 .simp[h]
def NF{B:List Wd}{w:Wd}{p q:Nat}(h:aK B w p q):mF B w p q<B.length:=by
 unfold mF;show List.idxOf_lt_length_iff.mpr ?_;unfold aK jO at h;rw[or_eq_true]at h;rcases h with i|i
 .obtain⟨a,_,b⟩:=zaG.mp i;rw[show min p q=p by lia,show max p q=q by lia];show b
 .obtain⟨a,_,b⟩:=zaG.mp i;rw[show min p q=q by lia,show max p q=p by lia];show b
def HH(B:List Wd):eG (.tup (B.map D.str)) (.tup [])=⇑(!decide (B=[])):=by
 unfold eG;by_cases h:B=[]
 .subst h;rw[show cS (.tup (([]:List Wd).map D.str)) (.tup [])=⇑true from Ff];rfl
 .rw[JB (by rw[Hi];decide) ↑h,qR h];rfl
def Ug{T:Env->Prop}{E:Ends}{b:Bool}{B:List Wd}{L:List (Bool×Nat)}{a s:Int}{s0 I O M:Option S}(hB:jS B)(hb:b=true->B≠[])(e1:xW B L)(G:0<=a)(F:1<=s)(i:s<=2147483629)
  (hT:∀(Z:List (Bool×Nat))(a s:Int)(o7:Option S),xW B Z->0<=a->1<=s->s<=2147483629->T [s0,⇑(aH a s),I,⇑(.sh (zI B)),O,M,⇑(.sh (.tup (Z.map dI))),o7,none,none,none]):
  wY (zK (zM (zw 7) (bV (gH (aX (zL dM [true,true] (zu (zt 1) (zu (wC (D.int 25)) zv))))))) (zM (zw 6) (wB cH (zu (iV 11 1 (bY (zt 7)) (zw 12) dP gC) zv)))) aE (pD E T) b
   [s0,⇑(aH a s),I,⇑(.sh (zI B)),O,M,⇑(.sh (.tup (L.map dI))),none,none,none,none]:=by
 let h6:=hB.len;cases b
 .simp! [e_C];show hT L a s none e1 G F i
 .have h5:=hb rfl;let h0:0<B.length:=qO.mpr h5;simp! [aH];show AC G F i ⋯ ⋯ λr a1 s1 hr hp h9 h4 J=>?_;simp! [aH,Ca];show#[by simp only[bS];lia,by simp only[bS];lia,?_];refine Mb (n:=11) (ρ:=[s0,⇑(aH a1 s1),I,⇑(.sh (zI B)),O,M,⇑(.sh (.tup (L.map dI))),⇑(.sh (.lst (fromTo 0 r.toNat))),none,none,none,⇑(.lst []),none]) (λz:Bool×Nat=>S.sh (dI z)) _ (λρ=>∃a s,0<=a/\1<=s/\s<=2147483629/\ρ=[s0,⇑(aH a s),I,⇑(.sh (zI B)),O,M,⇑(.sh (.tup (L.map dI))),⇑(.sh (.lst (fromTo 0 r.toNat))),none,none,none]) (λz=>z.2<B.length) (λx hx ρ A o K hI hA hK=>?_) (λρ A o hI hA hP=>?_) #[a1,s1,h9,h4,J,rfl]
  .obtain⟨a,s,G,F,i,rfl⟩:=hI;rw[Ca]at hA;simp! [fF,mL,pG,aH];show AC G F i ⋯ ⋯ λU a2 I hk e4 h8 h3 h2=>?_;obtain⟨b,eb⟩:∃b:Bool,atI [S.sh (D.str [111,110]),S.sh (D.str [98,97,99,107])] U=some (.sh (.str (iA b))):=by
    rcases(show U=0\/U=1 by lia)with rfl|rfl
    .show#[true,rfl]
    .show#[false,rfl]
   simp! [aH,eb,zI,length_map];show AC h8 h3 h2 ∅ ∅ λr3 a3 s3 e3 e2 h7 h1 Y=>?_;simp! [aH,length_map];obtain⟨n,rfl⟩:∃n:Nat,r3=(n:Int):=#[r3.toNat,∅]
   show#[by simp only[bS];lia,hK _ (b,n) _ #[a3,s3,h7,h1,Y,rfl] (by show n<B.length;lia)]
  .obtain⟨a,s,G,F,i,rfl⟩:=hI;rw[Ca]at hA;rw[show(A.map λz:Bool×Nat=>S.sh (dI z))=(A.map dI).map S.sh by rw[qD];rfl];simp! [aH,zax];show hT A a s _ #[∅,hP] G F i
def PP{T:Env->Prop}{E:Ends}{b:Bool}{B:List Wd}{G:List (Bool×Nat)}{a s:Int}{s0 L J I:Option S}(hB:jS B)(F:xW B G)(O:0<=a)(M:1<=s)(i:s<=2147483629)
  (U:∀(Z:List (Bool×Nat))(a s:Int)(Y:Option S),xW B Z->0<=a->1<=s->s<=2147483629->T [s0,⇑(aH a s),L,⇑(.sh (zI B)),J,I,⇑(.sh (.tup (Z.map dI))),Y,none,none,none]):
  sG (aG eG (zt 3) (bO zv)) (wY (zK (zM (zw 7) (bV (gH (aX (zL dM [true,true] (zu (zt 1) (zu (wC (D.int 25)) zv))))))) (zM (zw 6) (wB cH (zu (iV 11 1 (bY (zt 7)) (zw 12) dP gC) zv)))) aE (pD E T)) E.ex b
   [s0,⇑(aH a s),L,⇑(.sh (zI B)),J,I,⇑(.sh (.tup (G.map dI))),none,none,none,none]:=by
 cases b
 .simp! [e_C];show U G a s none F O M i
 .simp! [zI,HH];show Ug hB (λh=>by simpa using h) F O M i U
def BF:∀ns:List Int,ns.length<=63->mT [.sh (.lst (ns.map .int))] (λs _=>s=.sh (.bl true)) λ_ _=>False:=by
 intro ns hl;show AJ rfl rfl ?_;simp! [length_map];show JG (k:=0) ∅ λa s ha hs i=>?_;simp! [aH];show Ui ha hs i λc a2 s2 Y I i G=>?_;let hn:=Y.n;let F:jS c.B:=#[Y.gb.1,λw hw=>(Y.gb.2.2 w hw).2.1,Y.gb.2.1]
 let h6:=F.len;let h8:∀w∈c.B,32∉w:=λw hw z=>by let:=Y.cl 32 ((Y.gb.2.2 w hw).2.2 32 z);lia
 let J:=OP Y.z;simp! [aH,yT,length_cons,length_nil];show UM ∅ ∅ J ?_;let eZ:(kG c.l).map (eD c.B c.w)=((kG c.l).map (nE c.B c.w)).map dI:=by rw[qD];show map_congr_left λt _=>OO ..
 rw[eZ];let L:xW c.B ((kG c.l).map (nE c.B c.w)):=#[by rw[qh,Jj];lia,λt ht=>by let#[u,hu,rfl]:=qJ.mp ht;show NF (J u hu)]
 generalize (kG c.l).map (nE c.B c.w)=Z0 at L;simp! [aH,zax];show AC I i G ⋯ ⋯ λr a3 s3 hr hr2 h1 O h4=>?_;simp! [aH];show PP F L h1 O h4 λZ a4 s4 o7 L hd e1 h3=>?_;let hT:=Oe (Z:=Z) F L.len;let e3:=Qw (Z:=Z) h8;let hp:=Qj (Z:=Z) h8 L.len;simp! [e_C];show Tt F L ?_;simp! [e_C];show KB F L ?_;simp! [e_C];generalize hq:cD c.B Z=T at*;show GW (d:=.str T) rfl ?_;simp! [e_C];show Cn F ∅ ∅ ?_;simp! [e_C];show#[by simp only[bS];decide,?_];show VM (λρ=>∃(a s:Int)(o9 M:Option S),0<=a/\1<=s/\s<=2147483629/\ρ=[⇑(.sh (.lst (ns.map .int))),⇑(aH a s),⇑(.sh (.str c.col)),⇑(.sh (zI c.B)),⇑(.sh (.str c.w)),⇑(.sh (dZ c.l)),⇑(.sh (.tup (Z.map dI))),o7,⇑(.sh (.str T)),o9,M]) _ (λx hx D2 ρ hI h7 hct k3 hbk=>?_) (λρ hI=>?_) #[a4,s4,none,none,hd,e1,h3,rfl]
 .obtain⟨a,s,o9,M,ha,hs,i,rfl⟩:=hI;let h9:∃k:Nat,k<=8/\x=.int (k:Int):=by rw[show fromTo 1 (9-1:Int).toNat=(List.range' 1 8).map λ(k:Nat)=>D.int (k:Int) from rfl]at hx;let#[k,hk,rfl]:=qJ.mp hx;rw[List.mem_range'_1]at hk;exact#[k,∅,rfl]
  let#[k,hk,rfl]:=h9;simp! [pH];show JG ∅ λa s ha hs i=>?_;simp! [aH];show LX ha hs i F ∅ λt1 a1 s1 hi hm e2 h5=>?_;let#[m1,m2]:=hi;simp! [aH];show AC hm e2 h5 ⋯ ⋯ λr1 a2 s2 hr1 r3 I i G=>?_;simp! [aH];let fin:∀(t':Wd)(a s:Int),t'.length<=1000->(aA 32 t').length<=500->0<=a->1<=s->s<=2147483629->True:=λ_ _ _ _ _ _ _ _=>trivial;by_cases hr:r1=0
  .subst hr;simp! [aH];show LX I i G F ∅ λt2 a3 s3 e4 h1 O h2=>?_;let#[m3,m4]:=e4;simp! [aH];show Cn F ∅ ∅ ?_;simp! [zI];show#[by rw[qh];simp only[bS];lia,?_];rw[<-List.map_reverse];show Cn (B:=c.B.reverse) (HS F) ∅ ∅ ?_;simp! [e_C];show h7 _ #[_,_,_,_,h1,O,h2,rfl]
  .simp! [decide_eq_false hr];show Cn F ∅ ∅ ?_;simp! [zI];show#[by rw[qh];simp only[bS];lia,?_];rw[<-List.map_reverse];show Cn (B:=c.B.reverse) (HS F) ∅ ∅ ?_;simp! [e_C];show h7 _ #[_,_,_,_,I,i,G,rfl]
 .obtain⟨a,s,o9,M,ha,hs,i,rfl⟩:=hI;let ek:(601:Int)/((T.length:Int)+1)=((601/(T.length+1):Nat):Int):=by first|rfl|norm_cast
  let hk:601/(T.length+1)*(T.length+1)<=601:=Nat.div_mul_le_self ..;let hb:601/(T.length+1)<=601:=Nat.div_le_self ..;generalize 601/(T.length+1)=k at ek hk hb;let U:(0:Int)<=(k:Int)/\(k:Int)<=1000/\0+1<=500:=#[∅,∅,⋯]
  let r2:(List.replicate k [D.str T]).flatten=(List.replicate k T).map D.str:=by simp
  let#[k1,k2]:=CT e3 hk;let ej:bF [32] [.lst ((List.replicate k T).map D.str)]=⇑(.sh (.str (aM [32] (List.replicate k T)))):=JS (by rw[List.map_replicate,List.sum_replicate_nat,List.length_replicate];let:k*(T.length+1)=k*T.length+k:=Nat.mul_succ ..;lia)
  simp! [ek,U,length_cons,length_nil,toNat_natCast,r2,ej];show Cn F ∅ k2 ?_;simp! [e_C];show Cn F (by simp) ⋯ ?_;simp! [e_C];show Cn F ∅ ∅ ?_;simp! [e_C];show KB F L ?_;rw[hq];simp! [decide_true]
end pu
end Law
section
set_option maxHeartbeats 4000000
namespace Law
open PySem PySem.Spec PyProof.Rows L2 FL
local macro_rules
 |`(tactic|trivial)=>`(tactic|first|exact Or.inl rfl|exact Or.inr rfl)
@[inline]def top(i:Nat):Stmt:=PySem.Challenge.pw_walktold_k36_steps_as_texts.main.body.getD i (.Pass #[0,0,0,0])
@[reducible]def jc:Stmt:=top 12
def ra:List Str:=["board","steps"]
abbrev jr:List Str:=["board","steps"]
def Hy:aD ra jr (aB jc):=AL
@[reducible]def jb:Stmt:=top 13
def pz:List Str:=["board","text","numbers","steps","part","word","sign"]
abbrev jq:List Str:=["board","text"]
def BE:aD pz jq (aB jb):=AL
@[reducible]def ja:Stmt:=top 15
def pw:List Str:=["_law_script","_law_k","_law_cell","_law_seed"]
abbrev jo:List Str:=["_law_script","_law_k"]
def BC:aD pw jo (aB ja):=AL
@[reducible]def iz:Stmt:=top 16
def pv:List Str:=["_law_box_here","_law_many","_law_digit","_law_one"]
abbrev jn:List Str:=["_law_box_here","_law_many"]
def CS:aD pv jn (aB iz):=AL
@[reducible]def iy:Stmt:=top 17
def pq:List Str:=["_law_box_here","_law_many","_law_left"]
abbrev jm:List Str:=["_law_box_here","_law_many"]
def Ee:aD pq jm (aB iy):=AL
@[reducible]def iw:Stmt:=top 18
def pk:List Str:=["_law_box_here","_law_colours_here","_law_most","_law_many"]
abbrev jl:List Str:=["_law_box_here","_law_colours_here","_law_most"]
def Ed:aD pk jl (aB iw):=AL
@[reducible]def iu:Stmt:=top 19
def pj:List Str:=["_law_box_here","_law_colours_here","_law_board_here","_law_one","_law_kind","_law_colour","_law_at"]
abbrev jk:List Str:=["_law_box_here","_law_colours_here","_law_board_here"]
def BA:aD pj jk (aB iu):=AL
@[reducible]def ir:Stmt:=top 20
def ph:List Str:=["_law_box_here","_law_colours_here","_law_many","_law_most","_law_found","_law_k","_law_word_here"]
abbrev jj:List Str:=["_law_box_here","_law_colours_here","_law_many","_law_most"]
def Bz:aD ph jj (aB ir):=AL
@[reducible]def iq:Stmt:=top 21
def pf:List Str:=["_law_board_here","_law_text_here","_law_p","_law_most","_law_found","_law_one"]
abbrev ji:List Str:=["_law_board_here","_law_text_here","_law_p","_law_most"]
def CQ:aD pf ji (aB iq):=AL
@[reducible]def ip:Stmt:=top 22
def pe:List Str:=["_law_box_here","_law_board_here","_law_colours_here","_law_most","_law_text_here","_law_p","_law_turn","_law_some","_law_one","_law_goal","_law_at"]
abbrev jh:List Str:=["_law_box_here","_law_board_here","_law_colours_here","_law_most"]
def AI:aD pe jh (aB ip):=AL
@[reducible]def uX:Stmt:=top 23
def ke:List Str:=["_law_board_here","_law_word_here","_law_found","_law_i","_law_j"]
abbrev vR:List Str:=["_law_board_here","_law_word_here"]
def Bj:aD ke vR (aB uX):=AL
@[reducible]def uW:Stmt:=top 24
def kc:List Str:=["_law_ties_here","_law_p","_law_steps_here","_law_here","_law_one","_law_q","_law_found"]
abbrev vQ:List Str:=["_law_ties_here","_law_p"]
def AV:aD kc vQ (aB uW):=AL
@[reducible]def uV:Stmt:=top 25
def kb:List Str:=["_law_box_here","_law_ties_here","_law_found","_law_turn","_law_more"]
abbrev vP:List Str:=["_law_box_here","_law_ties_here"]
def Bb:aD kb vP (aB uV):=AL
@[reducible]def uU:Stmt:=top 26
def ka:List Str:=["_law_box_here","_law_colours_here","_law_board_here","_law_word_here","_law_places"]
abbrev vO:List Str:=["_law_box_here"]
def AK:aD ka vO (aB uU):=AL
@[reducible]def uT:Stmt:=top 27
def jz:List Str:=["_law_board_here","_law_word_here","_law_places","_law_found","_law_k","_law_ends","_law_number"]
abbrev vN:List Str:=["_law_board_here","_law_word_here","_law_places"]
def Ba:aD jz vN (aB uT):=AL
@[reducible]def uR:Stmt:=top 28
def jy:List Str:=["_law_found","_law_due"]
abbrev vM:List Str:=["_law_found","_law_due"]
def Eg:aD jy vM (aB uR):=AL
@[reducible]def uQ:Stmt:=top 29
def jx:List Str:=["_law_board_here","_law_steps_here"]
abbrev vL:List Str:=["_law_board_here","_law_steps_here"]
def Ef:aD jx vL (aB uQ):=AL
@[reducible]def uP:Stmt:=top 30
def jw:List Str:=["_law_board_here","_law_text_here","_law_found","_law_piece"]
abbrev vK:List Str:=["_law_board_here","_law_text_here"]
def BD:aD jw vK (aB uP):=AL
@[reducible]def uO:Stmt:=top 31
def jv:List Str:=["_law_box_here","_law_board_here","_law_text_here","_law_signs","_law_sign","_law_at","_law_form","_law_pieces","_law_one","_law_other"]
abbrev vJ:List Str:=["_law_box_here","_law_board_here","_law_text_here"]
def AH:aD jv vJ (aB uO):=AL
@[reducible]def uN:Stmt:=top 32
def ju:List Str:=["_law_board_here","_law_text_here","_law_caught","e"]
abbrev vI:List Str:=["_law_board_here","_law_text_here"]
def Bi:aD ju vI (aB uN):=AL
@[reducible]def uM:Stmt:=top 33
def jt:List Str:=["_law_board_here","_law_text_here","_law_due"]
abbrev vH:List Str:=["_law_board_here","_law_text_here"]
def BB:aD jt vH (aB uM):=AL
@[reducible]def uL:Stmt:=top 34
def js:List Str:=["_law_script","_law_box_here","_law_colours_here","_law_board_here","_law_word_here","_law_places","_law_steps_here","_law_some","_law_text_here","_law_k","_law_other"]
abbrev vG:List Str:=["_law_script"]
def Ar:aD js vG (aB uL):=AL
def UY:aD ["self","row"] ["self","row"] (aB (kP (top 4))):=AL
structure Txt(K:W.Frag)(mg:Str->Option Value)(af:Nat->Addr):Prop where
 t_0:Tx K mg (af 0) "show_steps" jc jr
 t_1:Tx K mg (af 1) "read_steps" jb jq
 t_2:Tx K mg (af 2) "_law_box" ja jo
 t_3:Tx K mg (af 3) "_law_take" iz jn
 t_4:Tx K mg (af 4) "_law_colours" iy jm
 t_5:Tx K mg (af 5) "_law_word" iw jl
 t_6:Tx K mg (af 6) "_law_near" iu jk
 t_7:Tx K mg (af 7) "_law_board" ir jj
 t_8:Tx K mg (af 8) "_law_moves" iq ji
 t_9:Tx K mg (af 9) "_law_led" ip jh
 t_10:Tx K mg (af 10) "_law_ties" uX vR
 t_11:Tx K mg (af 11) "_law_way" uW vQ
 t_12:Tx K mg (af 12) "_law_zigzag" uV vP
 t_13:Tx K mg (af 13) "_law_scene" uU vO
 t_14:Tx K mg (af 14) "_law_steps" uT vN
 t_15:Tx K mg (af 15) "_law_alike" uR vM
 t_16:Tx K mg (af 16) "_law_text" uQ vL
 t_17:Tx K mg (af 17) "_law_read" uP vK
 t_18:Tx K mg (af 18) "_law_otherwise" uO vJ
 t_19:Tx K mg (af 19) "_law_heard" uN vI
 t_20:Tx K mg (af 20) "_law_right" uM vH
 t_21:Tx K mg (af 21) "law" uL vG
 n_ValueError:mg "ValueError"=none
 n_all:mg "all"=none
 n_bool:mg "bool"=none
 n_enumerate:mg "enumerate"=none
 n_int:mg "int"=none
 n_isinstance:mg "isinstance"=none
 n_len:mg "len"=none
 n_list:mg "list"=none
 n_min:mg "min"=none
 n_range:mg "range"=none
 n_reversed:mg "reversed"=none
 n_sorted:mg "sorted"=none
 n_str:mg "str"=none
 n_tuple:mg "tuple"=none
 n_zip:mg "zip"=none
 v_NO_STEPS:∃t,mg "NO_STEPS"=⇑(.str #[[46].toArray] t)
 v_SIGNS:∃a,mg "SIGNS"=⇑(.ref a)/\fV K a [([111,110],[43]),([98,97,99,107],[45])]
 v_WAYS:∃a,mg "WAYS"=⇑(.ref a)/\fV K a [([43],[111,110]),([45],[98,97,99,107])]
 j_BadText:Ix K (af 22) (af 23) (af 29) "BadText.__init__" "row" (kP (top 4)) ["self","row"]
 g_BadText:mg "BadText"=⇑(.ref (af 22))
 g_WalkError:mg "WalkError"=⇑(.ref (af 23))
 g_TooMany:mg "TooMany"=⇑(.ref (af 24))
 g_NoRow:mg "NoRow"=⇑(.ref (af 25))
 g_NoMap:mg "NoMap"=⇑(.ref (af 26))
 g_NoBoard:mg "NoBoard"=⇑(.ref (af 27))
 g_IsFixed:mg "IsFixed"=⇑(.ref (af 28))
 k_BadText:W.nsIn K mainGlobals "BadText"=⇑⇑(.ref (af 22))
 k_WalkError:W.nsIn K mainGlobals "WalkError"=⇑⇑(.ref (af 23))
 e_WalkError:W.excIn K (af 23) eX fX=true
 m_BadText_WalkError:W.mroIn K (af 22) (.ref (af 23))=⇑true
 i_IsFixed_NoBoard_NoMap_NoRow_TooMany_0:W.kitAny K (.type "NoneType") [.ref (af 28),.ref (af 27),.ref (af 26),.ref (af 25),.ref (af 24)]=⇑false
 x0_BadText:W.findIn K (.ref (af 22)) "__getattribute__"=⇑⇑(.builtin "BaseException.__getattribute__")
 x1_BadText:W.findIn K (.ref (af 22)) "__getattr__"=⇑none
 x2_BadText:W.findIn K (.ref (af 22)) "__class__"=⇑⇑(.builtin "object.__class__")
 x3_BadText:W.specialIn K (.builtin "object.__class__") "__get__"=⇑⇑(.builtin "getset_descriptor.__get__")
 x4_BadText:W.takesIn K (.builtin "object.__class__")=⇑true
 x5_BadText:W.mroIn K (af 22) (.type "object")=⇑true
 x6_BadText:W.mroIn K (af 22) (.type "BaseException")=⇑true
 i_IsFixed_NoBoard_NoMap_NoRow_TooMany_BadText:W.kitAny K (.ref (af 22)) [.ref (af 28),.ref (af 27),.ref (af 26),.ref (af 25),.ref (af 24)]=⇑false
 k_TooMany:W.nsIn K mainGlobals "TooMany"=⇑⇑(.ref (af 24))
 k_NoRow:W.nsIn K mainGlobals "NoRow"=⇑⇑(.ref (af 25))
 k_NoMap:W.nsIn K mainGlobals "NoMap"=⇑⇑(.ref (af 26))
 k_NoBoard:W.nsIn K mainGlobals "NoBoard"=⇑⇑(.ref (af 27))
 k_IsFixed:W.nsIn K mainGlobals "IsFixed"=⇑⇑(.ref (af 28))
 i_ValueError_0:W.kitOne K (.type "NoneType") (.type "ValueError")=⇑false
 i_ValueError_BadText:W.kitOne K (.ref (af 22)) (.type "ValueError")=⇑true
 i_BadText_0:W.kitOne K (.type "NoneType") (.ref (af 22))=⇑false
 i_BadText_BadText:W.kitOne K (.ref (af 22)) (.ref (af 22))=⇑true
 y_BadText_row:W.findIn K (.ref (af 22)) "row"=⇑none
 d_BadText:W.hasDictIn K (af 22)=true
section
variable{P:Program}{w:World}{K:W.Frag}{mg:Str->Option Value}{base:Heap}{af:Nat->Addr}
def Er(T:Txt K mg af):gV P w K mg base af 1 0 jr (dQ K dq 2):=AQ T.t_0 Hy λ_ _ _ _ _ _ i=>Ae (Ay (Aw (λ_ _=>AS (AU i)) AR (Ax (by rfl) T.n_len (Aa (fw 1) Ab)) Ad (Ac _)) (Ak (Av (JM (by rfl) T.v_NO_STEPS))) Az)
  (Ak (Av (BV (Au (by rfl) ⋯) (Aa (BM (vars:=["way","number"]) rfl (by rfl) (Ao (by kernel_rfl)) rfl (Bt (fw 1)) (λ_ _ _=>CB (by rfl) (Bd (Bc 3) (Bd (Bc 4) CJ))) (λ_ _ _=>Bv) (λ_ _ _=>Ap (Aq (fw 0) (fw 4)) (Lg (by rfl) T.v_SIGNS (fw 3)))) Ab))))
def Ej(T:Txt K mg af):gV P w K mg base af 1 2 jo (dQ K dn 2):=AQ T.t_2 BC λ_ _ _ _ _ _ i=>Ae (An (Ap (BX Ad (fw 1)) Ad) (Ai 2 BC.nd))
  (Ae (Ay (Aw (λ_ _=>FQ) Gj (fw 1) (Ax (by rfl) T.n_len (Aa (fw 0) Ab)) (Ac _)) (Ak (An (Aq (fw 0) (fw 1)) (Ai 2 BC.nd))) (Ak (Ay (Aw (λ_ _=>CZ) Da (Ax (by rfl) T.n_len (Aa (fw 0) Ab)) Ad (Ac _)) (Ak (An (Ap (fw 2) (BX (Cf (Aq (fw 0) (Cf (fw 1) (Ax (by rfl) T.n_len (Aa (fw 0) Ab)))) Ad) Ad)) (Ai 2 BC.nd))) Az)))
  (Ae (An (Ap (Cf (Ap (BX (Cf (fw 2) Ad) Ad) (BX Ad (fw 1))) Ad) Ad) (Ai 3 BC.nd))
  (Ak (Av (AO (Aa (Aq (AO (Aa Ad (Aa (fw 2) Ab))) (BW (by rfl) T.n_int BN (Aa (Bn (λ_ _=>Ig) IR (fw 2) (Nc Ad Ad) (Ac _)) Ab))) (Aa (fw 3) Ab)))))))
def Al(T:Txt K mg af):gV P w K mg base af 1 3 jn (dQ K dM 2):=AQ T.t_3 CS λ_ _ _ _ _ _ i=>Ae (Ay (Aw (λ_ _=>CZ) Da (Aq (fw 0) Ad) Ad (Ac _)) (Ae (An (Cf (Aq (fw 0) Ad) (fw 1)) (Ai 2 CS.nd))
  (Ae (JT (j:=0) (fw 0) Ad (FY (Aq (fw 0) Ad) (fw 1)))
  (Ak (Av (fw 2))))) Az)
  (Ae (An (Cf (BX (Aq (fw 0) Ad) Ad) Ad) (Ai 3 CS.nd))
  (Ae (JT (j:=0) (fw 0) Ad (Ap (Cf (Ap (BX (fw 3) Ad) Ad) Ad) Ad))
  (Ak (Av (Cf (FY (Ap (BX (fw 3) Ad) (Aq (fw 0) Ad)) Ad) (fw 1))))))
def HB(T:Txt K mg af):gV P w K mg base af 1 8 ji (dQ K gf 4):=AQ T.t_8 CQ λ_ _ _ _ _ _ i=>Ae (An (AO Ab) (Ai 4 CQ.nd))
  (Ae (Bu (by rfl) (Bt (fw 0)) (Ai 5 CQ.nd) (Ae (Ay (Bo (Dz (Aw (λ_ _=>AS (AU i)) AR (CD (fw 1) (fw 2) (Ap (fw 2) (Ax (by rfl) T.n_len (Aa (fw 5) Ab)))) (Bq (fw 5) (BP (Ax (by rfl) T.n_len (Aa (fw 1) Ab)) (fw 2))) (Ac _)) (DM (Aw (λ_ _=>Nn) PK (Ap (fw 2) (Ax (by rfl) T.n_len (Aa (fw 5) Ab))) (fw 3) (Ac _))))) (Ak (BU (Ck (j:=4) (fw 4) (AM (Aa (fw 5) (Aa (Ap (fw 2) (Ax (by rfl) T.n_len (Aa (fw 5) Ab))) Ab)))))) Az)
  (Ak (Ay (Bo (Dz (Aw (λ_ _=>Ig) IR (fw 2) (Ax (by rfl) T.n_len (Aa (fw 5) Ab)) (Ac _)) (DM (Aw (λ_ _=>AS (AU i)) AR (CD (fw 1) (BP (fw 2) (Ax (by rfl) T.n_len (Aa (fw 5) Ab))) (fw 2)) (fw 5) (Ac _))))) (Ak (BU (Ck (j:=4) (fw 4) (AM (Aa (fw 5) (Aa (BP (fw 2) (Ax (by rfl) T.n_len (Aa (fw 5) Ab))) Ab)))))) Az))))
  (Ak (Av (fw 4))))
def Ct(T:Txt K mg af):gV P w K mg base af 1 10 vR (dQ K mW 2):=AQ T.t_10 Bj λ_ _ _ _ _ _ B=>Ae (KR (i:=2) ⋯ (λj F=>CG Bj.nd F rfl) rfl (by rfl) (by rfl) (vars:=["_law_p"]) rfl (by rfl) (Ao (by kernel_rfl)) rfl (Cm (by rfl) T.n_range (Ap (Ax (by rfl) T.n_len (Aa (fw 1) Ab)) Ad)) (λ_ _ _=>Bc 6) (λ_ _ _=>Bv) (λ_ _ _=>AO Ab))
  (Ae (Bu (by rfl) (Cm (by rfl) T.n_range (Ax (by rfl) T.n_len (Aa (fw 1) Ab))) (Ai 3 Bj.nd) (Ak (Bu (by rfl) (GM (by rfl) T.n_range (Ap (fw 3) Ad) (Ap (Ax (by rfl) T.n_len (Aa (fw 1) Ab)) Ad)) (Ai 4 Bj.nd) (Ak (Ay (Aw (λ_ _=>Nw (AX B)) Qg (CD (fw 1) (fw 3) (fw 4)) (fw 0) (by with_unfolding_all rfl)) (Ae (BU (Lr (j:=2) (fw 2) (fw 3) (fw 4)))
  (Ak (BU (Lr (j:=2) (fw 2) (fw 4) (fw 3))))) Az)))))
  (Ak (Av (BM (vars:=["_law_some"]) rfl (by rfl) (Ao (by kernel_rfl)) rfl (Bt (fw 2)) (λ_ _ _=>Bc 6) (λ_ _ _=>Bv) (λ_ _ _=>AN (Kp (by rfl) T.n_sorted Hc (Aa (fw 6) Ab)))))))
def Ep(T:Txt K mg af):gV P w K mg base af 1 11 vQ (dQ K tT 2):=AQ T.t_11 AV λ_ _ _ _ _ _ i=>Ae (An (QD (BP (Ax (by rfl) T.n_len (Aa (fw 0) Ab)) Ad) Ad) (Ai 2 AV.nd))
  (Ae (An (AO (Aa (BP (Ax (by rfl) T.n_len (Aa (fw 0) Ab)) Ad) Ab)) (Ai 3 AV.nd))
  (Ae (JR (Aw (λ_ _=>Bp (AX i)) Bs (fw 3) (AO Ab) (Ac _)) (Ae (An (AN (Kj (j:=3) (fw 3) Ad)) (Ai 4 AV.nd))
  (Ak (Bu (by rfl) (Bt (Aq (fw 0) (fw 4))) (Ai 5 AV.nd) (Ak (Ay (Aw (λ_ _=>Dh (AX i)) Dm (fw 5) (fw 2) (by with_unfolding_all rfl)) (Ae (Oi (j:=2) (CV i) (fw 2) (fw 5) (Ap (EC (CV i) (fw 2) (fw 4)) Ad))
  (Ak (BU (Ck (j:=3) (fw 3) (fw 5))))) Az))))))
  (Ae (Ay (Aw (λ_ _=>Dh (AX i)) Dm (fw 1) (fw 2) (by with_unfolding_all rfl)) (Ak (Av (AM Ab))) Az)
  (Ae (An (AO (Aa (fw 1) Ab)) (Ai 6 AV.nd))
  (Ae (JR (Aw (λ_ _=>Bp (AX i)) Bs (Aq (fw 6) (Bm Ad)) (BP (Ax (by rfl) T.n_len (Aa (fw 0) Ab)) Ad) (Ac _)) (Ak (BU (Ck (j:=6) (fw 6) (AN (NT (by rfl) (by rfl) T.n_min Nr (Aa (BM (vars:=["_law_q"]) rfl (by rfl) (Ao (by kernel_rfl)) rfl (Bt (Aq (fw 0) (Aq (fw 6) (Bm Ad)))) (λ_ _ _=>Bc 8) (λ_ _ _=>JC rfl (Aw (λ_ _=>AS (AU i)) AR (EC (CV i) (fw 2) (fw 8)) (BP (EC (CV i) (fw 2) (Aq (fw 6) (Bm Ad))) Ad) (Ac _))) (λ_ _ _=>fw 8)) Ab)))))))
  (Ak (Av (Df (by rfl) T.n_tuple BZ (Aa (fw 6) Ab)))))))))
def En(T:Txt K mg af):gV P w K mg base af 1 14 vN (dQ K tR 3):=AQ T.t_14 Ba λ_ _ _ _ _ _ i=>Ae (An (AO Ab) (Ai 3 Ba.nd))
  (Ae (Bu (by rfl) (GM (by rfl) T.n_range Ad (Ax (by rfl) T.n_len (Aa (fw 2) Ab))) (Ai 4 Ba.nd) (Ae (An (AN (Qn (by rfl) T.n_sorted Hc (Aa (CD (fw 2) (BP (fw 4) Ad) (Ap (fw 4) Ad)) Ab))) (Ai 5 Ba.nd))
  (Ae (An (RU (AN (BM (vars:=["_law_one"]) rfl (by rfl) (Ao (by kernel_rfl)) rfl (Bt (fw 0)) (λ_ _ _=>Bc 8) (λ_ _ _=>Bv) (λ_ _ _=>Bn (λ_ _=>AS (AU i)) AR (fw 8) (CD (fw 1) (Aq (fw 5) Ad) (Aq (fw 5) Ad)) (Ac _)))) (Aa Dp Ab)) (Ai 6 Ba.nd))
  (Ak (BU (Ck (j:=3) (fw 3) (AM (Aa (Aq (AO (Aa (Au (by rfl) ⋯) (Aa (Au (by rfl) ⋯) Ab))) (BW (by rfl) T.n_int BN (Aa (Bn (λ_ _=>FQ) Gj (Aq (fw 2) (BP (fw 4) Ad)) (Aq (fw 2) (fw 4)) (Ac _)) Ab))) (Aa (fw 6) Ab)))))))))
  (Ak (Av (Df (by rfl) T.n_tuple BZ (Aa (fw 3) Ab)))))
def Em(T:Txt K mg af):gV P w K mg base af 1 16 vL (dQ K tP 2):=AQ T.t_16 Ef λ_ _ _ _ _ _ i=>Ak (Av (BV (Au (by rfl) ⋯) (Aa (Ap (BM (vars:=["_law_way_here","_law_k"]) rfl (by rfl) (Ao (by kernel_rfl)) rfl (Bt (fw 1)) (λ_ _ _=>CB (by rfl) (Bd (Bc 3) (Bd (Bc 4) CJ))) (λ_ _ _=>Bv) (λ_ _ _=>Ap (Aq (fw 0) (fw 4)) (Aq (Au (by rfl) ⋯) (BW (by rfl) T.n_int BN (Aa (Bn (λ_ _=>AS (AU i)) AR (fw 3) (Au (by rfl) ⋯) (Ac _)) Ab))))) (Ga (AO (Aa (Au (by rfl) ⋯) Ab)) (BW (by rfl) T.n_int BN (Aa (Bn (λ_ _=>AS (AU i)) AR (fw 1) (AM Ab) (Ac _)) Ab)))) Ab)))
def El(T:Txt K mg af):gV P w K mg base af 1 17 vK (dQ K tO 2):=AQ T.t_17 BD λ_ _ _ _ _ _ i=>Ae (An (AO Ab) (Ai 2 BD.nd))
  (Ae (Bu (by rfl) (Bt (Ga (GD (fw 1) (Aa (Au (by rfl) ⋯) Ab)) (BW (by rfl) T.n_int BN (Aa (Bn (λ_ _=>Bp (AX i)) Bs (fw 1) (Au (by rfl) ⋯) (Ac _)) Ab)))) (Ai 3 BD.nd) (Ae (Ay (Bo (Ce (Aw (λ_ _=>Dh (AX i)) Dm (BO (fw 3) (Bm Ad)) (AM (Aa (Au (by rfl) ⋯) (Aa (Au (by rfl) ⋯) Ab))) (by with_unfolding_all rfl)) (CA (Aw (λ_ _=>Dh (AX i)) Dm (Bq (fw 3) (Bm Ad)) (fw 0) (by with_unfolding_all rfl))))) (Ak (Av FV)) Az)
  (Ak (BU (Ck (j:=2) (fw 2) (AM (Aa (Aq (AO (Aa (Au (by rfl) ⋯) (Aa (Au (by rfl) ⋯) Ab))) (BW (by rfl) T.n_int BN (Aa (Bn (λ_ _=>AS (AU i)) AR (Aq (fw 3) (Bm Ad)) (Au (by rfl) ⋯) (Ac _)) Ab))) (Aa (Sq (fw 0) (Aa (Bq (fw 3) (Bm Ad)) Ab)) Ab))))))))
  (Ak (Av (Df (by rfl) T.n_tuple BZ (Aa (fw 2) Ab)))))
def HF(T:Txt K mg af):gV P w K mg base af 2 4 jm (dQ K gm 2):=AQ T.t_4 Ee λ_ _ _ _ _ _ i=>Ae (An (Ru (by rfl) (by rfl) T.n_list Jw (Aa (Au (by rfl) ⋯) Ab)) (Ai 2 Ee.nd))
  (Ak (Av (BV (Au (by rfl) ⋯) (Aa (Kp (by rfl) T.n_sorted Hc (Aa (BM (vars:=["_law_k"]) rfl (by rfl) (Ao (by kernel_rfl)) rfl (Cm (by rfl) T.n_range (fw 1)) (λ_ _ _=>Bc 4) (λ_ _ _=>Bv) (λ_ _ _=>AN (Kj (j:=2) (fw 2) (Am [true,true] T.t_3 (Al T) i (Aa (fw 0) (Aa (Ax (by rfl) T.n_len (Aa (fw 2) Ab)) Ab)))))) Ab)) Ab))))
def HE(T:Txt K mg af):gV P w K mg base af 2 5 jl (dQ K gk 3):=AQ T.t_5 Ed λ_ _ _ _ _ _ i=>Ae (An (BX (Am [true,true] T.t_3 (Al T) i (Aa (fw 0) (Aa (Ap (fw 2) Ad) Ab))) (BW (by rfl) T.n_int BN (Aa (Bn (λ_ _=>Bp (AX i)) Bs (fw 1) (Au (by rfl) ⋯) (Ac _)) Ab))) (Ai 3 Ed.nd))
  (Ak (Av (BV (Au (by rfl) ⋯) (Aa (BM (vars:=["_law_k"]) rfl (by rfl) (Ao (by kernel_rfl)) rfl (Cm (by rfl) T.n_range (fw 3)) (λ_ _ _=>Bc 5) (λ_ _ _=>Bv) (λ_ _ _=>Aq (fw 1) (Am [true,true] T.t_3 (Al T) i (Aa (fw 0) (Aa (Ax (by rfl) T.n_len (Aa (fw 1) Ab)) Ab))))) Ab))))
def HD(T:Txt K mg af):gV P w K mg base af 2 6 jk (dQ K gj 3):=AQ T.t_6 BA λ_ _ _ _ _ _ i=>Ae (An (Aq (fw 2) (Am [true,true] T.t_3 (Al T) i (Aa (fw 0) (Aa (Ax (by rfl) T.n_len (Aa (fw 2) Ab)) Ab)))) (Ai 3 BA.nd))
  (Ae (An (Am [true,true] T.t_3 (Al T) i (Aa (fw 0) (Aa Ad Ab))) (Ai 4 BA.nd))
  (Ae (An (Aq (fw 1) (Am [true,true] T.t_3 (Al T) i (Aa (fw 0) (Aa (Ax (by rfl) T.n_len (Aa (fw 1) Ab)) Ab)))) (Ai 5 BA.nd))
  (Ae (An (Am [true,true] T.t_3 (Al T) i (Aa (fw 0) (Aa (Ax (by rfl) T.n_len (Aa (fw 3) Ab)) Ab))) (Ai 6 BA.nd))
  (Ak (Av (Aq (AO (Aa (Bq (fw 3) (Ap (fw 6) Ad)) (Aa (BO (fw 3) (fw 6)) (Aa (Ap (fw 5) (fw 3)) (Aa (Ap (fw 3) (fw 5)) (Aa (Ap (fw 3) (fw 3)) Ab)))))) (fw 4)))))))
def HA(T:Txt K mg af):gV P w K mg base af 2 9 jh (dQ K gc 4):=AQ T.t_9 AI λ_ _ _ _ _ _ B=>Ae (An (AM (Aa (Au (by rfl) ⋯) (Aa Ad Ab))) (CB (by rfl) (Bd (Ai 4 AI.nd) (Bd (Ai 5 AI.nd) CJ))))
  (Ae (Bu (by rfl) (Cm (by rfl) T.n_range (Ap Ad (Am [true,true] T.t_3 (Al T) B (Aa (fw 0) (Aa Ad Ab))))) (Ai 6 AI.nd) (Ae (An (AN (Am [true,true,true,true] T.t_8 (HB T) B (Aa (fw 1) (Aa (fw 4) (Aa (fw 5) (Aa (fw 3) Ab)))))) (Ai 7 AI.nd))
  (Ae (Ay (Aw (λ_ _=>CZ) Da (fw 6) Ad (Ac _)) (Ak (HV (KR (i:=7) ⋯ (λj F=>CG AI.nd F rfl) rfl (by rfl) (by rfl) (vars:=["_law_move"]) rfl (by rfl) (Ao (by kernel_rfl)) rfl (Bt (fw 7)) (λ_ _ _=>Bc 12) (λ_ _ _=>JC rfl (Aw (λ_ _=>CZ) Da (Aq (fw 12) Ad) (fw 5) (Ac _))) (λ_ _ _=>fw 12)))) Az)
  (Ak (Ay (Aw (λ_ _=>Bp (AX B)) Bs (fw 7) (AO Ab) (Ac _)) (Ae (An (Aq (fw 7) (Am [true,true] T.t_3 (Al T) B (Aa (fw 0) (Aa (Ax (by rfl) T.n_len (Aa (fw 7) Ab)) Ab)))) (CB (by rfl) (Bd (Ai 8 AI.nd) (Bd (Ai 9 AI.nd) CJ))))
  (Ae (Ay (Aw (λ_ _=>CZ) Da (fw 9) (fw 5) (Ac _)) (Ak (An (Ap (Ap (Bq (fw 4) (fw 5)) (fw 8)) (BO (fw 4) (fw 9))) (Ai 4 AI.nd))) Az)
  (Ak (An (fw 9) (Ai 5 AI.nd))))) Az)))))
  (Ae (Ay (Bo (Dz (Aw (λ_ _=>Bp (AX B)) Bs (fw 4) (Au (by rfl) ⋯) (Ac _)) (DM (Aw (λ_ _=>AS (AU B)) AR (Am [true,true] T.t_3 (Al T) B (Aa (fw 0) (Aa Ad Ab))) Ad (Ac _))))) (Ae (An (Am [true,true] T.t_3 (Al T) B (Aa (fw 0) (Aa (Ax (by rfl) T.n_len (Aa (fw 4) Ab)) Ab))) (Ai 10 AI.nd))
  (Ak (An (Ap (Ap (Bq (fw 4) (fw 10)) (Aq (fw 2) (Am [true,true] T.t_3 (Al T) B (Aa (fw 0) (Aa (Ax (by rfl) T.n_len (Aa (fw 2) Ab)) Ab))))) (BO (fw 4) (Ap (fw 10) Ad))) (Ai 4 AI.nd)))) Az)
  (Ak (Av (fw 4)))))
def Cs(T:Txt K mg af):gV P w K mg base af 2 12 vP (dQ K pB 2):=AQ T.t_12 Bb λ_ _ _ _ _ _ i=>Ae (An (AM (Aa Ad Ab)) (Ai 2 Bb.nd))
  (Ae (Bu (by rfl) (Cm (by rfl) T.n_range (Am [true,true] T.t_3 (Al T) i (Aa (fw 0) (Aa Ad Ab)))) (Ai 3 Bb.nd) (Ak (Ay (Aw (λ_ _=>Bp (AX i)) Bs (Aq (fw 1) (Aq (fw 2) (Bm Ad))) (AO Ab) (Ac _)) (Ak (An (Ap (fw 2) (AM (Aa (Aq (Aq (fw 1) (Aq (fw 2) (Bm Ad))) (Am [true,true] T.t_3 (Al T) i (Aa (fw 0) (Aa (Ax (by rfl) T.n_len (Aa (Aq (fw 1) (Aq (fw 2) (Bm Ad))) Ab)) Ab)))) Ab))) (Ai 2 Bb.nd))) Az)))
  (Ae (An (AN (Am [true,true] T.t_11 (Ep T) i (Aa (fw 1) (Aa (Aq (fw 2) (Bm Ad)) Ab)))) (Ai 4 Bb.nd))
  (Ae (Ay (Aw (λ_ _=>AS (AU i)) AR (fw 4) (AM Ab) (Ac _)) (Ak (Av (AM Ab))) Az)
  (Ak (Av (Ap (fw 2) (BO (fw 4) Ad)))))))
def Cq(T:Txt K mg af):gV P w K mg base af 2 18 vJ (dQ K oZ 3):=AQ T.t_18 AH λ_ _ _ _ _ _ B=>Ae (An (Au (by rfl) ⋯) (Ai 3 AH.nd))
  (Ae (An (Aq (AO (Aa (fw 3) (Aa (Au (by rfl) ⋯) (Aa (Ap (BV (Au (by rfl) ⋯) (Aa (fw 1) Ab)) (Au (by rfl) ⋯)) Ab)))) (Am [true,true] T.t_3 (Al T) B (Aa (fw 0) (Aa Ad Ab)))) (Ai 4 AH.nd))
  (Ae (An (Aq (fw 4) (Am [true,true] T.t_3 (Al T) B (Aa (fw 0) (Aa (Ax (by rfl) T.n_len (Aa (fw 4) Ab)) Ab)))) (Ai 4 AH.nd))
  (Ae (An (Am [true,true] T.t_3 (Al T) B (Aa (fw 0) (Aa (Ap (Ax (by rfl) T.n_len (Aa (fw 2) Ab)) Ad) Ab))) (Ai 5 AH.nd))
  (Ae (An (Am [true,true] T.t_3 (Al T) B (Aa (fw 0) (Aa Ad Ab))) (Ai 6 AH.nd))
  (Ae (Ay (Aw (λ_ _=>FQ) Gj (fw 6) Ad (Ac _)) (Ak (Av (Ap (Ap (Bq (fw 2) (fw 5)) (Aq (AO (Aa (fw 4) (Aa (Au (by rfl) ⋯) (Aa (fw 4) Ab)))) (fw 6))) (BO (fw 2) (Ap (fw 5) (BW (by rfl) T.n_int BN (Aa (Bn (λ_ _=>CZ) Da (fw 6) Ad (Ac _)) Ab))))))) Az)
  (Ae (An (GD (fw 2) (Aa (Au (by rfl) ⋯) Ab)) (Ai 7 AH.nd))
  (Ae (Im (i:=8) (j:=9) (by rfl) AH.nd (by rfl) (by rfl) ⋯ ⋯ ⋯ (by rfl) (by rfl) (Aa (Am [true,true] T.t_3 (Al T) B (Aa (fw 0) (Aa (Ax (by rfl) T.n_len (Aa (fw 7) Ab)) Ab))) (Aa (Am [true,true] T.t_3 (Al T) B (Aa (fw 0) (Aa (Ax (by rfl) T.n_len (Aa (fw 7) Ab)) Ab))) Ab)))
  (Ae (Ay (Aw (λ_ _=>AS (AU B)) AR (fw 6) Ad (Ac _)) (Ak (Av (BV (Au (by rfl) ⋯) (Aa (Ap (Bq (fw 7) (fw 8)) (BO (fw 7) (Ap (fw 8) Ad))) Ab)))) Az)
  (Ae (Ay (Aw (λ_ _=>AS (AU B)) AR (fw 6) Ad (Ac _)) (Ak (Av (BV (Au (by rfl) ⋯) (Aa (Ap (Ap (Bq (fw 7) (fw 8)) (CD (fw 7) (fw 9) (Ap (fw 9) Ad))) (BO (fw 7) (fw 8))) Ab)))) Az)
  (Ak (Av (BV (Au (by rfl) ⋯) (Aa (Ap (Ap (Bq (fw 7) (fw 8)) (CD (fw 7) (fw 9) (Ap (fw 9) Ad))) (BO (fw 7) (Ap (fw 8) Ad))) Ab)))))))))))))
def HG(T:Txt K mg af):gV P w K mg base af 3 1 jq (dQ K gn 2):=AQ T.t_1 BE λ_ _ _ _ _ _ B=>Ae (Ay (Aw (λ_ _=>AS (AU B)) AR (fw 1) (JM (by rfl) T.v_NO_STEPS) (Ac _)) (Ak (Av (AM Ab))) Az)
  (Ae (HV (Sm false (i:=2) ⋯ (λj F=>CG BE.nd F rfl) rfl (by rfl) (by rfl) (vars:=["number","word"]) rfl (Np B) (by rfl) (Ao (by kernel_rfl)) rfl (Oy (by rfl) (by rfl) T.n_enumerate Vr (fw 0)) (λ_ _ _=>CB (by rfl) (Bd (Bc 8) (Bd (Bc 9) CJ))) (λ_ _ _=>Bv) (λ_ _ _=>fw 9) (λ_ _ _=>fw 8)))
  (Ae (An (AO Ab) (Ai 3 BE.nd))
  (Ae (Bu (by rfl) (Bt (GD (fw 1) (Aa (Au (by rfl) ⋯) Ab))) (Ai 4 BE.nd) (Ae (Im (i:=5) (j:=6) (by rfl) BE.nd (by rfl) (by rfl) ⋯ ⋯ ⋯ (by rfl) (by rfl) (Aa (Bq (fw 4) (Bm Ad)) (Aa (BO (fw 4) (Bm Ad)) Ab)))
  (Ae (Ay (Bo (Ce (Aw (λ_ _=>Dh (AX B)) Dm (fw 5) (fw 2) (by with_unfolding_all rfl)) (CA (Vl (by rfl) T.v_WAYS (fw 6))))) (Ak (QW (by decide+kernel) T.j_BadText.e (Py T.j_BadText.F UY rfl) T.j_BadText.b T.g_BadText (Cd (by decide+kernel) T.k_BadText) B Ad)) Az)
  (Ak (BU (Ck (j:=3) (fw 3) (AM (Aa (Lg (by rfl) T.v_WAYS (fw 6)) (Aa (EC (CV B) (fw 2) (fw 5)) Ab)))))))))
  (Ak (Av (Df (by rfl) T.n_tuple BZ (Aa (fw 3) Ab)))))))
def HC(T:Txt K mg af):gV P w K mg base af 3 7 jj (dQ K gh 4):=AQ T.t_7 Bz λ_ _ _ _ _ _ i=>Ae (An (AO Ab) (Ai 4 Bz.nd))
  (Ae (Bu (by rfl) (Cm (by rfl) T.n_range (BX (Am [true,true] T.t_3 (Al T) i (Aa (fw 0) (Aa (Ap (fw 2) Ad) Ab))) (BW (by rfl) T.n_int BN (Aa (Bn (λ_ _=>Bp (AX i)) Bs (fw 1) (Au (by rfl) ⋯) (Ac _)) Ab)))) (Ai 5 Bz.nd) (Ae (An (Ap (Aq (fw 1) (Am [true,true] T.t_3 (Al T) i (Aa (fw 0) (Aa (Ax (by rfl) T.n_len (Aa (fw 1) Ab)) Ab)))) (Am [true,true,true] T.t_5 (HE T) i (Aa (fw 0) (Aa (fw 1) (Aa (BP (fw 3) Ad) Ab))))) (Ai 6 Bz.nd))
  (Ae (Ay (Bo (Dz (Aw (λ_ _=>Bp (AX i)) Bs (fw 4) (AO Ab) (Ac _)) (DM (Aw (λ_ _=>AS (AU i)) AR (Am [true,true] T.t_3 (Al T) i (Aa (fw 0) (Aa Ad Ab))) Ad (Ac _))))) (Ak (An (Bq (Am [true,true,true] T.t_6 (HD T) i (Aa (fw 0) (Aa (fw 1) (Aa (fw 4) Ab)))) (fw 3)) (Ai 6 Bz.nd))) Az)
  (Ak (Ay (Aw (λ_ _=>Dh (AX i)) Dm (fw 6) (fw 4) (by with_unfolding_all rfl)) (Ak (BU (Ck (j:=4) (fw 4) (fw 6)))) Az)))))
  (Ak (Av (Df (by rfl) T.n_tuple BZ (Aa (fw 4) Ab)))))
def Eo(T:Txt K mg af):gV P w K mg base af 4 13 vO (dQ K tS 1):=AQ T.t_13 AK λ_ _ _ _ _ _ i=>Ae (An (Am [true,true] T.t_4 (HF T) i (Aa (fw 0) (Aa (Ap Ad (Am [true,true] T.t_3 (Al T) i (Aa (fw 0) (Aa Ad Ab)))) Ab))) (Ai 1 AK.nd))
  (Ae (An (AN (Am [true,true,true,true] T.t_7 (HC T) i (Aa (fw 0) (Aa (fw 1) (Aa Ad (Aa Ad Ab)))))) (Ai 2 AK.nd))
  (Ae (An (AN (Am [true,true,true,true] T.t_9 (HA T) i (Aa (fw 0) (Aa (fw 2) (Aa (fw 1) (Aa Ad Ab)))))) (Ai 3 AK.nd))
  (Ae (An (AN (Am [true,true] T.t_12 (Cs T) i (Aa (fw 0) (Aa (AN (Am [true,true] T.t_10 (Ct T) i (Aa (fw 2) (Aa (fw 3) Ab)))) Ab)))) (Ai 4 AK.nd))
  (Ae (Ay (Aw (λ_ _=>AS (AU i)) AR (fw 4) (AM Ab) (Ac _)) (Ae (An (BV (Au (by rfl) ⋯) (Aa (BM (vars:=["_law_k"]) rfl (by rfl) (Ao (by kernel_rfl)) rfl (Cm (by rfl) T.n_range (Ap Ad (Am [true,true] T.t_3 (Al T) i (Aa (fw 0) (Aa Ad Ab))))) (λ_ _ _=>Bc 6) (λ_ _ _=>Bv) (λ_ _ _=>Aq (fw 2) (Am [true,true] T.t_3 (Al T) i (Aa (fw 0) (Aa (Ax (by rfl) T.n_len (Aa (fw 2) Ab)) Ab))))) Ab)) (Ai 3 AK.nd))
  (Ak (An (AN (Am [true,true] T.t_12 (Cs T) i (Aa (fw 0) (Aa (AN (Am [true,true] T.t_10 (Ct T) i (Aa (fw 2) (Aa (fw 3) Ab)))) Ab)))) (Ai 4 AK.nd)))) Az)
  (Ak (Av (AM (Aa (fw 1) (Aa (fw 2) (Aa (fw 3) (Aa (fw 4) Ab)))))))))))
def Cr(T:Txt K mg af):dA P w K mg base (fE P w) 4 (af 15) (dO K (af 15)) vM (dQ K tQ 2):=by
 refine Iv (k:=0) (n:=2) (step:=fx) rfl (λr j F G=>?_) (λ_ _ _ _ h=>h.1) 4;show Eu (k:=0+j) T.t_15.F Eg rfl rfl λI A B s H E i=>?_;exact Ae (Ay (Br (Cz (by rfl) T.n_isinstance BS (by rfl) T.n_tuple BZ ⋯ (fw 1))) (Ae (Ay (Bo (Ce (Cg (Br (Cz (by rfl) T.n_isinstance BS (by rfl) T.n_tuple BZ ⋯ (fw 0)))) (CA (Aw (λ_ _=>Bp (AX i)) Bs (Ax (by rfl) T.n_len (Aa (fw 0) Ab)) (Ax (by rfl) T.n_len (Aa (fw 1) Ab)) (Ac _))))) (Ak (Av Dp)) Az)
  (Ak (Av (NN (by rfl) (by rfl) T.n_all MJ (Aa (BM (vars:=["_law_one","_law_other"]) rfl (by rfl) (Ao (by kernel_rfl)) rfl (MQ (by rfl) (by rfl) T.n_zip MW (fw 0) (fw 1)) (λ_ _ _=>CB (by rfl) (Bd (Bc 3) (Bd (Bc 4) CJ))) (λ_ _ _=>Bv) (λ_ _ _=>AN (Am [true,true] T.t_15 G i (Aa (fw 3) (Aa (fw 4) Ab)) (hj:=q8 _) (zV:=F)))) Ab))))) Az)
  (Ae (Ay (Br (Cz (by rfl) T.n_isinstance BS (by rfl) T.n_str IH ⋯ (fw 1))) (Ak (Av (Du (Cz (by rfl) T.n_isinstance BS (by rfl) T.n_str IH ⋯ (fw 0)) (FO (Bn (λ_ _=>AS (AU i)) AR (fw 0) (fw 1) (Ac _)))))) Az)
  (Ak (Av (Du (Cz (by rfl) T.n_isinstance BS (by rfl) T.n_int BN ⋯ (fw 0)) (Du (Nk (Cz (by rfl) T.n_isinstance BS (by rfl) T.n_bool Jl ⋯ (fw 0))) (FO (Bn (λ_ _=>AS (AU i)) AR (fw 0) (fw 1) (Ac _))))))))
def Ek(T:Txt K mg af):gV P w K mg base af 4 19 vI (dQ K tN 2):=AQ T.t_19 Bi λ_ _ _ _ _ _ i=>Ae (An FV (Ai 2 Bi.nd))
  (Ae (Sf (j:=3) ⋯ (λj B=>CG Bi.nd B rfl) rfl (by rfl) T.g_WalkError (ck T.e_WalkError) (UO (Cd (by decide+kernel) T.k_BadText) T.j_BadText.e.ck T.m_BadText_WalkError Tq) (Ak (Av (AM (Aa (Au (by rfl) ⋯) (Aa (Am [true,true] T.t_1 (HG T) i (Aa (fw 0) (Aa (fw 1) Ab))) Ab))))) (λ_=>Ak (An (fw 3) (Ai 2 Bi.nd))))
  (Ae (Ay (Bo (Ce (Br (OD (by rfl) T.n_isinstance BS (.cons (by rfl) T.g_IsFixed ⋯ (.cons (by rfl) T.g_NoBoard ⋯ (.cons (by rfl) T.g_NoMap ⋯ (.cons (by rfl) T.g_NoRow ⋯ (.cons (by rfl) T.g_TooMany ⋯ .nil))))) (by rw[zk];show Nat.le_of_ble_eq_true rfl) (Ro (Cd (by decide+kernel) T.k_BadText) #[T.x0_BadText,T.x1_BadText,T.x2_BadText,T.x3_BadText,T.x4_BadText,T.x5_BadText,T.x6_BadText] T.i_IsFixed_NoBoard_NoMap_NoRow_TooMany_BadText (by rfl) (Om T.i_IsFixed_NoBoard_NoMap_NoRow_TooMany_0)) (fw 2))) (CA (Cg (Br (Ol (by rfl) T.n_isinstance BS (by rfl) T.n_ValueError Ve (Kr (Cd (by decide+kernel) T.k_BadText) #[T.x0_BadText,T.x1_BadText,T.x2_BadText,T.x3_BadText,T.x4_BadText,T.x5_BadText,T.x6_BadText] T.i_ValueError_BadText (by rfl) (Ja T.i_ValueError_0)) (fw 2))))))) (Ak (Av (Au (by rfl) ⋯))) Az)
  (Ae (Ay (Bo (Ce (Cg (Br (Pc (by rfl) T.n_isinstance BS (by rfl) T.g_BadText (Kr (Cd (by decide+kernel) T.k_BadText) #[T.x0_BadText,T.x1_BadText,T.x2_BadText,T.x3_BadText,T.x4_BadText,T.x5_BadText,T.x6_BadText] T.i_BadText_BadText (by rfl) (Ja T.i_BadText_0)) (fw 2)))) (Ce (Br (Cz (by rfl) T.n_isinstance BS (by rfl) T.n_bool Jl ⋯ (Gh (GC (Cd (by decide+kernel) T.k_BadText) #[T.x0_BadText,T.x1_BadText,T.x2_BadText,T.x3_BadText,T.x4_BadText,T.x5_BadText,T.x6_BadText] T.y_BadText_row T.d_BadText FZ) (by decide+kernel) (fw 2)))) (CA (Aw (λ_ _=>Bp (AX i)) Bs (Gh (GC (Cd (by decide+kernel) T.k_BadText) #[T.x0_BadText,T.x1_BadText,T.x2_BadText,T.x3_BadText,T.x4_BadText,T.x5_BadText,T.x6_BadText] T.y_BadText_row T.d_BadText FZ) (by decide+kernel) (fw 2)) Ad (Ac _)))))) (Ak (Av (Au (by rfl) ⋯))) Az)
  (Ak (Av (AM (Aa (Au (by rfl) ⋯) (Aa (Gh (GC (Cd (by decide+kernel) T.k_BadText) #[T.x0_BadText,T.x1_BadText,T.x2_BadText,T.x3_BadText,T.x4_BadText,T.x5_BadText,T.x6_BadText] T.y_BadText_row T.d_BadText FZ) (by decide+kernel) (fw 2)) Ab))))))))
def AW(T:Txt K mg af):gV P w K mg base af 5 20 vH (dQ K iY 2):=AQ T.t_20 BB λ_ _ _ _ _ _ i=>Ae (An (AM (Aa (Au (by rfl) ⋯) (Aa (Am [true,true] T.t_17 (El T) i (Aa (fw 0) (Aa (fw 1) Ab))) Ab))) (Ai 2 BB.nd))
  (Ae (Ay (Aw (λ_ _=>NI) Ox (Aq (fw 2) Ad) FV (Ac _)) (Ak (An (AM (Aa (Au (by rfl) ⋯) (Aa Ad Ab))) (Ai 2 BB.nd))) Az)
  (Ak (Av (Am [true,true] T.t_15 (Cr T) i (Aa (AN (Am [true,true] T.t_19 (Ek T) i (Aa (fw 0) (Aa (fw 1) Ab)))) (Aa (fw 2) Ab))))))
def Ei(T:Txt K mg af):gV P w K mg base af 6 21 vG (dQ K mT 1):=AQ T.t_21 Ar λ_ _ _ _ _ _ i=>Ae (An (Am [true,true] T.t_2 (Ej T) i (Aa (fw 0) (Aa Ad Ab))) (Ai 1 Ar.nd))
  (Ae (An (Am [true] T.t_13 (Eo T) i (Aa (fw 1) Ab)) (CB (by rfl) (Bd (Ai 2 Ar.nd) (Bd (Ai 3 Ar.nd) (Bd (Ai 4 Ar.nd) (Bd (Ai 5 Ar.nd) CJ))))))
  (Ae (An (AN (Am [true,true,true] T.t_14 (En T) i (Aa (fw 3) (Aa (fw 4) (Aa (fw 5) Ab))))) (Ai 6 Ar.nd))
  (Ae (Ay (Bo (Dz (Aw (λ_ _=>AS (AU i)) AR (Am [true,true] T.t_3 (Al T) i (Aa (fw 1) (Aa Ad Ab))) Ad (Ac _)) (DM (Aw (λ_ _=>Bp (AX i)) Bs (fw 3) (AM Ab) (Ac _))))) (Ae (An (AN (Su (by rfl) (by rfl) T.n_list Jw (by rfl) T.n_range (Am [true,true] T.t_3 (Al T) i (Aa (fw 1) (Aa Ad Ab))))) (Ai 7 Ar.nd))
  (Ak (An (Df (by rfl) T.n_tuple BZ (Aa (BM (vars:=["_law_k"]) rfl (by rfl) (Ao (by kernel_rfl)) rfl (Bt (fw 7)) (λ_ _ _=>Bc 12) (λ_ _ _=>Bv) (λ_ _ _=>AM (Aa (Aq (AO (Aa (Au (by rfl) ⋯) (Aa (Au (by rfl) ⋯) Ab))) (Am [true,true] T.t_3 (Al T) i (Aa (fw 1) (Aa Ad Ab)))) (Aa (Am [true,true] T.t_3 (Al T) i (Aa (fw 1) (Aa (Ax (by rfl) T.n_len (Aa (fw 3) Ab)) Ab))) Ab)))) Ab)) (Ai 6 Ar.nd)))) Az)
  (Ae (An (AN (Am [true,true] T.t_16 (Em T) i (Aa (fw 3) (Aa (fw 6) Ab)))) (Ai 8 Ar.nd))
  (Ae (Ay (Bo (Ce (Cg (Br (Am [true,true] T.t_15 (Cr T) i (Aa (AN (Am [true,true] T.t_0 (Er T) i (Aa (fw 3) (Aa (fw 6) Ab)))) (Aa (fw 8) Ab))))) (CA (Cg (Br (Am [true,true] T.t_20 (AW T) i (Aa (fw 3) (Aa (fw 8) Ab)))))))) (Ak (Av Dp)) Az)
  (Ae (Bu (by rfl) (GM (by rfl) T.n_range Ad Ad) (Ai 9 Ar.nd) (Ae (An (Am [true,true] T.t_2 (Ej T) i (Aa (fw 0) (Aa (fw 9) Ab))) (Ai 1 Ar.nd))
  (Ae (An (AN (Am [true,true,true] T.t_18 (Cq T) i (Aa (fw 1) (Aa (fw 3) (Aa (fw 8) Ab))))) (Ai 10 Ar.nd))
  (Ae (Ay (Aw (λ_ _=>AS (AU i)) AR (Am [true,true] T.t_3 (Al T) i (Aa (fw 1) (Aa Ad Ab))) Ad (Ac _)) (Ak (An (AN (Am [true,true,true] T.t_18 (Cq T) i (Aa (fw 1) (Aa (fw 3) (Aa (fw 10) Ab))))) (Ai 10 Ar.nd))) Az)
  (Ak (Ay (Bo (Ce (Cg (Br (Am [true,true] T.t_20 (AW T) i (Aa (fw 3) (Aa (fw 10) Ab))))) (CA (Cg (Br (Am [true,true] T.t_20 (AW T) i (Aa (SY (by rfl) (by rfl) T.n_tuple BZ (by rfl) T.n_reversed (fw 3)) (Aa (fw 10) Ab)))))))) (Ak (Av Dp)) Az))))))
  (Ae (Ay (Cg (Br (Am [true,true] T.t_20 (AW T) i (Aa (fw 3) (Aa (BV (Au (by rfl) ⋯) (Aa (Ga (AO (Aa (fw 8) Ab)) (FY Ad (Ap (Ax (by rfl) T.n_len (Aa (fw 8) Ab)) Ad))) Ab)) Ab))))) (Ak (Av Dp)) Az)
  (Ak (Av (Du (Am [true,true] T.t_20 (AW T) i (Aa (fw 3) (Aa (Au (by rfl) ⋯) Ab))) (Du (Am [true,true] T.t_20 (AW T) i (Aa (fw 3) (Aa (fw 8) Ab))) (FO (Bn (λ_ _=>AS (AU i)) AR (Am [true,true] T.t_0 (Er T) i (Aa (fw 3) (Aa (fw 6) Ab))) (fw 8) (Ac _))))))))))))))
end
theorem all_mk{l:W.OpenLaw}{w:World}{K:W.Frag}{h:Heap}{mg:Str->Option Value}{fa:Addr}(X:K.In h)(G:h.Ns mainGlobals mg)(hfa:mg "law"=⇑(.ref fa))
  {f_0 f_1 f_2 f_3 f_4 f_5 f_6 f_7 f_8 f_9 f_10 f_11 f_12 f_13 f_14 f_15 f_16 f_17 f_18 f_19 f_20 f_21:Addr}
  (h_0:Lk K "show_steps" jc f_0)
  (h_1:Lk K "read_steps" jb f_1)
  (h_2:Lk K "_law_box" ja f_2)
  (h_3:Lk K "_law_take" iz f_3)
  (h_4:Lk K "_law_colours" iy f_4)
  (h_5:Lk K "_law_word" iw f_5)
  (h_6:Lk K "_law_near" iu f_6)
  (h_7:Lk K "_law_board" ir f_7)
  (h_8:Lk K "_law_moves" iq f_8)
  (h_9:Lk K "_law_led" ip f_9)
  (h_10:Lk K "_law_ties" uX f_10)
  (h_11:Lk K "_law_way" uW f_11)
  (h_12:Lk K "_law_zigzag" uV f_12)
  (h_13:Lk K "_law_scene" uU f_13)
  (h_14:Lk K "_law_steps" uT f_14)
  (h_15:Lk K "_law_alike" uR f_15)
  (h_16:Lk K "_law_text" uQ f_16)
  (h_17:Lk K "_law_read" uP f_17)
  (h_18:Lk K "_law_otherwise" uO f_18)
  (h_19:Lk K "_law_heard" uN f_19)
  (h_20:Lk K "_law_right" uM f_20)
  (h_21:Lk K "law" uL f_21)
  (z_ValueError:W.nsIn K mainGlobals "ValueError"=⇑none)
  (z_all:W.nsIn K mainGlobals "all"=⇑none)
  (z_bool:W.nsIn K mainGlobals "bool"=⇑none)
  (z_enumerate:W.nsIn K mainGlobals "enumerate"=⇑none)
  (z_int:W.nsIn K mainGlobals "int"=⇑none)
  (z_isinstance:W.nsIn K mainGlobals "isinstance"=⇑none)
  (z_len:W.nsIn K mainGlobals "len"=⇑none)
  (z_list:W.nsIn K mainGlobals "list"=⇑none)
  (z_min:W.nsIn K mainGlobals "min"=⇑none)
  (z_range:W.nsIn K mainGlobals "range"=⇑none)
  (z_reversed:W.nsIn K mainGlobals "reversed"=⇑none)
  (z_sorted:W.nsIn K mainGlobals "sorted"=⇑none)
  (z_str:W.nsIn K mainGlobals "str"=⇑none)
  (z_tuple:W.nsIn K mainGlobals "tuple"=⇑none)
  (z_zip:W.nsIn K mainGlobals "zip"=⇑none)
  {tk_NO_STEPS:Tok}(v_NO_STEPS:W.nsIn K mainGlobals "NO_STEPS"=⇑⇑(.str #[[46].toArray] tk_NO_STEPS))
  {q_SIGNS:Addr}{o_SIGNS:Obj}(v_SIGNS:W.nsIn K mainGlobals "SIGNS"=⇑⇑(.ref q_SIGNS))(y_SIGNS:K.lookup q_SIGNS=⇑o_SIGNS)(d_SIGNS:vT q_SIGNS o_SIGNS [([111,110],[43]),([98,97,99,107],[45])]=true)
  {q_WAYS:Addr}{o_WAYS:Obj}(v_WAYS:W.nsIn K mainGlobals "WAYS"=⇑⇑(.ref q_WAYS))(y_WAYS:K.lookup q_WAYS=⇑o_WAYS)(d_WAYS:vT q_WAYS o_WAYS [([43],[111,110]),([45],[98,97,99,107])]=true)
  {C_BadText C_WalkError C_TooMany C_NoRow C_NoMap C_NoBoard C_IsFixed C_i_BadText:Addr}
  (j_BadText:Ci K C_BadText C_WalkError C_i_BadText "BadText.__init__" "row" (kP (top 4)))
  (k_BadText:W.nsIn K mainGlobals "BadText"=⇑⇑(.ref C_BadText))
  (k_WalkError:W.nsIn K mainGlobals "WalkError"=⇑⇑(.ref C_WalkError))
  (e_WalkError:W.excIn K C_WalkError eX fX=true)
  (m_BadText_WalkError:W.mroIn K C_BadText (.ref C_WalkError)=⇑true)
  (i_IsFixed_NoBoard_NoMap_NoRow_TooMany_0:W.kitAny K (.type "NoneType") [.ref C_IsFixed,.ref C_NoBoard,.ref C_NoMap,.ref C_NoRow,.ref C_TooMany]=⇑false)
  (x0_BadText:W.findIn K (.ref C_BadText) "__getattribute__"=⇑⇑(.builtin "BaseException.__getattribute__"))
  (x1_BadText:W.findIn K (.ref C_BadText) "__getattr__"=⇑none)
  (x2_BadText:W.findIn K (.ref C_BadText) "__class__"=⇑⇑(.builtin "object.__class__"))
  (x3_BadText:W.specialIn K (.builtin "object.__class__") "__get__"=⇑⇑(.builtin "getset_descriptor.__get__"))
  (x4_BadText:W.takesIn K (.builtin "object.__class__")=⇑true)
  (x5_BadText:W.mroIn K C_BadText (.type "object")=⇑true)
  (x6_BadText:W.mroIn K C_BadText (.type "BaseException")=⇑true)
  (i_IsFixed_NoBoard_NoMap_NoRow_TooMany_BadText:W.kitAny K (.ref C_BadText) [.ref C_IsFixed,.ref C_NoBoard,.ref C_NoMap,.ref C_NoRow,.ref C_TooMany]=⇑false)
  (k_TooMany:W.nsIn K mainGlobals "TooMany"=⇑⇑(.ref C_TooMany))
  (k_NoRow:W.nsIn K mainGlobals "NoRow"=⇑⇑(.ref C_NoRow))
  (k_NoMap:W.nsIn K mainGlobals "NoMap"=⇑⇑(.ref C_NoMap))
  (k_NoBoard:W.nsIn K mainGlobals "NoBoard"=⇑⇑(.ref C_NoBoard))
  (k_IsFixed:W.nsIn K mainGlobals "IsFixed"=⇑⇑(.ref C_IsFixed))
  (i_ValueError_0:W.kitOne K (.type "NoneType") (.type "ValueError")=⇑false)
  (i_ValueError_BadText:W.kitOne K (.ref C_BadText) (.type "ValueError")=⇑true)
  (i_BadText_0:W.kitOne K (.type "NoneType") (.ref C_BadText)=⇑false)
  (i_BadText_BadText:W.kitOne K (.ref C_BadText) (.ref C_BadText)=⇑true)
  (y_BadText_row:W.findIn K (.ref C_BadText) "row"=⇑none)
  (d_BadText:W.hasDictIn K C_BadText=true):
  ∃fd:FuncData,(∀(s:Shared)(v:Value),BindsTo s fd #[[v],[]] [("_law_script",v)])/\∀base:Heap,K.In base->base.Ns mainGlobals mg->dA l.prog w K mg base (fE l.prog w) 6 fa fd ["_law_script"] (dQ K mT 1):=by
 let e:=hfa.symm.trans (h_21.mm X G);cases e;let T:Txt K mg (λn=>[f_0,f_1,f_2,f_3,f_4,f_5,f_6,f_7,f_8,f_9,f_10,f_11,f_12,f_13,f_14,f_15,f_16,f_17,f_18,f_19,f_20,fa,C_BadText,C_WalkError,C_TooMany,C_NoRow,C_NoMap,C_NoBoard,C_IsFixed,C_i_BadText].getD n 0):=#[h_0.tx X G,h_1.tx X G,h_2.tx X G,h_3.tx X G,h_4.tx X G,h_5.tx X G,h_6.tx X G,h_7.tx X G,h_8.tx X G,h_9.tx X G,h_10.tx X G,h_11.tx X G,h_12.tx X G,h_13.tx X G,h_14.tx X G,h_15.tx X G,h_16.tx X G,h_17.tx X G,h_18.tx X G,h_19.tx X G,h_20.tx X G,h_21.tx X G,W.mg_none_of X G z_ValueError,W.mg_none_of X G z_all,W.mg_none_of X G z_bool,W.mg_none_of X G z_enumerate,W.mg_none_of X G z_int,W.mg_none_of X G z_isinstance,W.mg_none_of X G z_len,W.mg_none_of X G z_list,W.mg_none_of X G z_min,W.mg_none_of X G z_range,W.mg_none_of X G z_reversed,W.mg_none_of X G z_sorted,W.mg_none_of X G z_str,W.mg_none_of X G z_tuple,W.mg_none_of X G z_zip,#[_,W.mg_of X G v_NO_STEPS],#[_,W.mg_of X G v_SIGNS,_,y_SIGNS,d_SIGNS],#[_,W.mg_of X G v_WAYS,_,y_WAYS,d_WAYS],j_BadText.ix e_WalkError,W.mg_of X G k_BadText,W.mg_of X G k_WalkError,W.mg_of X G k_TooMany,W.mg_of X G k_NoRow,W.mg_of X G k_NoMap,W.mg_of X G k_NoBoard,W.mg_of X G k_IsFixed,k_BadText,k_WalkError,e_WalkError,m_BadText_WalkError,i_IsFixed_NoBoard_NoMap_NoRow_TooMany_0,x0_BadText,x1_BadText,x2_BadText,x3_BadText,x4_BadText,x5_BadText,x6_BadText,i_IsFixed_NoBoard_NoMap_NoRow_TooMany_BadText,k_TooMany,k_NoRow,k_NoMap,k_NoBoard,k_IsFixed,i_ValueError_0,i_ValueError_BadText,i_BadText_0,i_BadText_BadText,y_BadText_row,d_BadText]
 show#[_,λs v=>h_21.bt s v,λbase _ _=>Ei T]
theorem walk{l:W.OpenLaw}{q:Program}{i:List Str}{U:(Str->Option Value)->Heap->Prop}{I:World->Heap->Prop}{d:DefRec}{K:Params->W.Frag}(hn:l.most=some 63)(B:d.params.defaults=[])
  (M:∀(w:World)(h:Heap),I w h->(K w.params).In h)
  (F:∀(w:World)(mg:Str->Option Value)(G:Addr)(h:Heap),(K w.params).In h->h.Ns mainGlobals mg->mg d.name=⇑(.ref G)->
   ∃fd:FuncData,(∀(s:Shared)(u:Value),BindsTo s fd #[[u],[]] [("_law_script",u)])/\∀base:Heap,(K w.params).In base->base.Ns mainGlobals mg->dA l.prog w (K w.params) mg base (fE l.prog w) 6 G fd ["_law_script"] (dQ (K w.params) mT 1)):
  W.WalkO q i U I l.row.toRowW d [] (λf vs=>PySem.call f vs):=
 L2.walk_of (n:=63) (k:=6) (x:="_law_script") (CX:=λw=>fE l.prog w) (sp:=λw=>dQ (K w.params) mT 1) hn ⋯ B #[rfl,⋯,⋯,rfl] M F (λ_ H a J L _ O=>MV BF H a J L O) λ_ _ _ _ _ h=>by let#[_,_,_,_,_,_,_,_,_,q,_]:=h;show q
end Law
end
end
open PySem PySem.W PyProof.Rows
namespace PySem.W.Fast
theorem tw4182566784507336968:True:=⟨⟩
theorem tw1094874682358059054:True:=⟨⟩
theorem tw12235082838613768915:True:=⟨⟩
theorem tw555728501886580071:True:=⟨⟩
theorem tw276160631405069528:True:=⟨⟩
theorem tw11786511378100797853:True:=⟨⟩
theorem tw17012192031941388132:True:=⟨⟩
theorem tw7685473527022098688:True:=⟨⟩
theorem tw16858217220184990723:True:=⟨⟩
theorem tw18388190808618439862:True:=⟨⟩
theorem tw6273523878231916989:True:=⟨⟩
theorem tw17890206207239019365:True:=⟨⟩
theorem tw2160569629727435154:True:=⟨⟩
theorem tw4479107384437874798:True:=⟨⟩
theorem tw2287727820517552226:True:=⟨⟩
theorem tw3333278856513937873:True:=⟨⟩
theorem tw13096255910777226712:True:=⟨⟩
theorem tw5237879872428922789:True:=⟨⟩
theorem tw16300865126490937428:True:=⟨⟩
theorem tw13871440683195397628:True:=⟨⟩
theorem tw14867143971771277764:True:=⟨⟩
theorem tw11456767388147392754:True:=⟨⟩
theorem tw15738484976526414869:True:=⟨⟩
theorem tw14081907176270600306:True:=⟨⟩
theorem tw17992866082901073713:True:=⟨⟩
theorem tw4185583325461560850:True:=⟨⟩
theorem tw15834478652750373393:True:=⟨⟩
theorem tw8430594920104299204:True:=⟨⟩
theorem tw3752095541108183200:True:=⟨⟩
theorem tw8288701144229415341:True:=⟨⟩
theorem tw381565310356704233:True:=⟨⟩
theorem tw8773039129894388527:True:=⟨⟩
theorem tw18382594327684525765:True:=⟨⟩
theorem tw12012591981652955248:True:=⟨⟩
theorem tw13772641978888671695:True:=⟨⟩
theorem tw1885627029668043913:True:=⟨⟩
theorem tw8766820817896029475:True:=⟨⟩
theorem tw9795347465529817182:True:=⟨⟩
theorem tw14681359894904154285:True:=⟨⟩
theorem tw5791608822471110786:True:=⟨⟩
theorem tw14151757873092563464:True:=⟨⟩
theorem tw6080904523876099908:True:=⟨⟩
theorem tw3100597880909167208:True:=⟨⟩
theorem tw7252976214561067783:True:=⟨⟩
theorem tw8404499549950933605:True:=⟨⟩
theorem tw11349267922400957332:True:=⟨⟩
theorem tw6993193668873709105:True:=⟨⟩
theorem tw1781957753896571068:True:=⟨⟩
theorem tw906867611334398529:True:=⟨⟩
theorem tw10499555452091198474:True:=⟨⟩
theorem tw6599558116509002314:True:=⟨⟩
theorem tw11309296344410480756:True:=⟨⟩
theorem tw13691842450232163810:True:=⟨⟩
theorem tw11000343788798049201:True:=⟨⟩
theorem tw1983669745880913342:True:=⟨⟩
theorem tw11946574317714347034:True:=⟨⟩
theorem tw18321091748152070959:True:=⟨⟩
theorem tw7630028075849140008:True:=⟨⟩
theorem tw6266443729986918468:True:=⟨⟩
theorem tw11378902701871004515:True:=⟨⟩
theorem tw14308212790573136705:True:=⟨⟩
theorem tw7372035552247952035:True:=⟨⟩
theorem tw1857689001042300899:True:=⟨⟩
theorem tw14762030896858424079:True:=⟨⟩
theorem tw11160024258093233245:True:=⟨⟩
theorem tw5676136052470478553:True:=⟨⟩
theorem tw5229182349424478773:True:=⟨⟩
theorem tw17295828218688335114:True:=⟨⟩
theorem tw609713817208445326:True:=⟨⟩
theorem tw3855420255805260157:True:=⟨⟩
theorem tw17661910861488037694:True:=⟨⟩
theorem tw5962517995350683763:True:=⟨⟩
theorem tw3885259971456534992:True:=⟨⟩
theorem tw7400409143030895587:True:=⟨⟩
theorem tw1700640823005643291:True:=⟨⟩
theorem tw17196745631111490478:True:=⟨⟩
theorem tw10392272050763793786:True:=⟨⟩
theorem tw11152621354961098178:True:=⟨⟩
theorem tw17437303830529047467:True:=⟨⟩
theorem tw10373993770022136776:True:=⟨⟩
theorem tw15145911926573613099:True:=⟨⟩
theorem tw14013122526790467535:True:=⟨⟩
theorem tw14700334372429279605:True:=⟨⟩
theorem tw17878371866233003478:True:=⟨⟩
theorem tw8397932502900533847:True:=⟨⟩
theorem tw219515131473901922:True:=⟨⟩
theorem tw16536173267505523712:True:=⟨⟩
theorem tw7664591619498624962:True:=⟨⟩
theorem tw14229814062747286507:True:=⟨⟩
theorem tw7658282016785331394:True:=⟨⟩
theorem tw15412414928556295130:True:=⟨⟩
theorem tw9631908973831793340:True:=⟨⟩
theorem tw12950566448576058805:True:=⟨⟩
theorem tw18215049990336815939:True:=⟨⟩
theorem tw10340067924556002292:True:=⟨⟩
theorem tw12054122579325756286:True:=⟨⟩
theorem tw8622916061344551210:True:=⟨⟩
theorem tw16050851543747471008:True:=⟨⟩
theorem tw3781215394329368229:True:=⟨⟩
theorem tw8235804810262786648:True:=⟨⟩
theorem tw12094840991835320445:True:=⟨⟩
theorem tw17863857184970216538:True:=⟨⟩
theorem tw11541657403445901168:True:=⟨⟩
theorem tw2593410883431639483:True:=⟨⟩
theorem tw17158515246805593615:True:=⟨⟩
theorem tw1094254109860587963:True:=⟨⟩
theorem tw9222024948177362065:True:=⟨⟩
theorem tw115093303640444006:True:=⟨⟩
theorem tw17819393766884810718:True:=⟨⟩
theorem tw14771236177978913137:True:=⟨⟩
theorem tw12679890467933574386:True:=⟨⟩
theorem tw3648926157148890499:True:=⟨⟩
theorem tw1958539164232763397:True:=⟨⟩
theorem tw8947694316752687810:True:=⟨⟩
theorem tw17601269779751553609:True:=⟨⟩
theorem tw12003276449476119836:True:=⟨⟩
theorem tw14730236248265212287:True:=⟨⟩
theorem tw4757406083496911896:True:=⟨⟩
theorem tw8239909012273890448:True:=⟨⟩
theorem tw1316659569699693583:True:=⟨⟩
theorem tw17574125593398775343:True:=⟨⟩
theorem tw15913898793317220814:True:=⟨⟩
theorem tw1211189136715952566:True:=⟨⟩
theorem tw846508554260299109:True:=⟨⟩
theorem tw8824519734788557162:True:=⟨⟩
theorem tw18043890698855799069:True:=⟨⟩
theorem tw6549817930641457775:True:=⟨⟩
theorem tw5058661988208652213:True:=⟨⟩
theorem tw3993821829206783253:True:=⟨⟩
theorem tw17406846477856075572:True:=⟨⟩
theorem tw14112914868096661277:True:=⟨⟩
theorem tw13826102735112742537:True:=⟨⟩
theorem tw7286649446249714466:True:=⟨⟩
theorem tw3484030068482943238:True:=⟨⟩
theorem tw4519122928866104592:True:=⟨⟩
theorem tw16444346318853617734:True:=⟨⟩
theorem tw14774551799815051522:True:=⟨⟩
theorem tw6605226901129772764:True:=⟨⟩
theorem tw13104099677524432914:True:=⟨⟩
theorem tw9135671077296223250:True:=⟨⟩
theorem tw10249757257286962617:True:=⟨⟩
theorem tw3093573980490535563:True:=⟨⟩
theorem tw6973357625128575185:True:=⟨⟩
theorem tw4185031396108416034:True:=⟨⟩
theorem tw11269125478674239728:True:=⟨⟩
theorem tw12344857069175393201:True:=⟨⟩
theorem tw16721120371657765827:True:=⟨⟩
theorem tw3823692584376269884:True:=⟨⟩
theorem tw1135615477637917611:True:=⟨⟩
theorem tw4803433216797572501:True:=⟨⟩
theorem tw14061745538328999588:True:=⟨⟩
theorem tw16739884630440749803:True:=⟨⟩
theorem tw10929948543433507553:True:=⟨⟩
theorem tw12565424189079313617:True:=⟨⟩
theorem tw10532936498019085528:True:=⟨⟩
theorem tw3247816804161280120:True:=⟨⟩
theorem tw1303836817271440100:True:=⟨⟩
theorem tw5443076763837237039:True:=⟨⟩
theorem tw2462527035396890261:True:=⟨⟩
theorem tw15049170668003905976:True:=⟨⟩
end PySem.W.Fast
set_option maxRecDepth 100000 in
set_option maxHeartbeats 0 in
theorem PySem.Challenge.cw_walktold_k36_steps_as_texts_holds : PySem.Challenge.rw_walktold_k36_steps_as_texts.Holds := by
 w_on; o_law; k_head; (case hw=>w_witness2)
 k_fill
 refine Law.walk (l:=PySem.Challenge.rw_walktold_k36_steps_as_texts) rfl rfl (fun w h Y=>PySem.W.kIn_of Y) ?F
 case F=>
  intro w mg fa h KX G hmg
  refine' Law.all_mk KX G hmg ..
  all_goals try first | k_is | (refine' ⟨?_,?_,?_,?_⟩ <;> try k_is)
  all_goals try first | k_is | k_exc | kit_is | (refine' ⟨?_,?_,?_,?_,?_,?_,?_,?_⟩ <;> try k_is)
  all_goals try with_unfolding_all rfl
