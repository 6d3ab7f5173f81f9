import PyProof.Rows.All
import Wide.All
import OpenK.AllK
import Wide.FinOn
import Lean
import PyProof.EqAt
import PyProof.EqKinds
import PyProof.TupleCall
import PySem.Challenge.RW_keptreading_k25_rows_behind_a_rule
set_option genSizeOf false
set_option genSizeOfSpec false
set_option genInjectivity false
set_option Elab.async false
set_option linter.all false
set_option maxRecDepth 100000
open PySem.W (Frag)
noncomputable section
local macro_rules|`(tactic|nofun) => `(tactic|(first|lia|omega))
local macro_rules|`(tactic|exists $h:term) => `(tactic|(first|exact List.mem_singleton.mp $h|simpa using $h))
local macro_rules|`(tactic|ext) => `(tactic|(conv => whnf))
set_option compiler.extract_closed false
def abv:=@PySem.Heap.get?_push_of_some
def abw:=@List.length_map
def abx:=@List.mem_append
def aby:=@Array.getElem?_toList
def abz:=@Array.length_toList
def abA:=@List.getElem?_eq_getElem
def abB:=@Bool.false_ne_true
def abC:=@List.map_cons
def abD:=@PySem.Heap.get?_push_size
def abE:=@List.getElem?_eq_some_iff
def abF:=@List.mem_singleton
def abG:=@List.mem_cons
def abH:=@List.size_toArray
def abI:=@List.pairwise_append
def abJ:=@List.getElem?_append_right
def abK:=@List.getElem?_map
def abL:=@List.length_cons
def abM:=@Option.map_eq_some_iff
def abN:=@Array.getElem?_eq_some_iff
def abO:=@Array.getElem?_eq_getElem
def abP:=@List.getElem?_append_left
def abQ:=@List.getElem?_set_ne
def abR:=@Bool.and_eq_true
def abS:=@List.nodup_cons
def abT:=@List.mem_of_getElem?
def abU:=@List.getElem?_set_self
def abV:=@PySem.Heap.get?_update_ne
def abW:=@Bool.and_eq_true_iff
def abX:=@List.nodup_append
def abY:=@Array.getD_eq_getD_getElem?
def abZ:=@Option.isSome_iff_exists
def ab0:=@List.all_eq_true
def ab1:=@List.getElem?_drop
def ab2:=@List.ext_getElem?
def ab3:=@List.mem_map
def ab4:=@List.mem_iff_getElem?
def ab5:=@List.length_range
def ab6:=@List.getD_eq_getElem?_getD
def ab7:=@Array.toList_extract
def ab8:=@List.pairwise_iff_getElem
def ab9:=@Nat.zero_add
def aca:=@List.mem_range
def acb:=@PySem.Heap.get?_update_other
def acd:=@List.not_lt
def ace:=@PySem.Heap.get?_update_self
def acf:=@Nat.ne_of_gt
def acg:=@List.extract_eq_take_drop
def ach:=@List.drop_drop
def aaa:=@PySem.wpAny_bind
def aab:=@PySem.wpAny_pure
def aac:=@List.mem_cons_self
def aad:=@Nat.le_refl
def aae:=@PySem.Heap.lt_size
def aaf:=@List.append_assoc
def aag:=@List.mem_cons_of_mem
def aah:=@Option.some.inj
def aai:=@Array.toList_append
def aaj:=@Nat.lt_of_lt_of_le
def aak:=@List.mem_append_right
def aal:=@Nat.ne_of_lt
def aam:=@List.map_append
def aan:=@List.length_append
def aao:=@List.map_map
def aap:=@List.length_take
def aaq:=@PySem.wpAny_holding
def aar:=@List.drop_eq_getElem_cons
def aas:=@PySem.W.kia_one
def aat:=@Nat.le_trans
def aau:=@List.lookup_cons
def aav:=@List.Perm.append_left
def aaw:=@Nat.lt_succ_of_lt
def aax:=@List.mem_append_left
def aay:=@PySem.W.mg_none_of
def aaz:=@List.take_append_drop
def aaA:=@List.Perm.append_right
def aaB:=@List.append_nil
def aaC:=@PySem.wpAny_call_entry
def aaD:=@Nat.lt_irrefl
def aaE:=@List.map_congr_left
def aaF:=@PySem.wpAny_newObj_type
def aaG:=@List.perm_append_comm
def aaH:=@List.Perm.refl
def aaI:=@Nat.zero_le
def aaJ:=@Int.emod_lt_of_pos
def aaK:=@PySem.Around.under_plainId
def aaL:=@List.take_length
def aaM:=@PySem.mem_of_lookup
def aaN:=@List.take_add_one
def aaO:=@List.drop_zero
def aaP:=@List.all_cons
def aaQ:=@List.length_replicate
def aaR:=@List.pairwise_map
def aaS:=@Int.emod_nonneg
def aaT:=@List.take_of_length_le
def aaU:=@List.nodup_nil
def aaV:=@Array.toList_push
def aaW:=@Nat.add_sub_cancel_left
def aaX:=@List.length_drop
def aaY:=@List.eq_nil_of_length_eq_zero
def aaZ:=@List.drop_length
def aa0:=@PySem.wpAny_mono
def aa1:=@PySem.wpAny_setField_rec
def aa2:=@PySem.wpAny_truthy_bool
def aa3:=@PySem.wpAny_setState_of
def aa4:=@PySem.wpAny_newList
def aa5:=@Array.toList_reverse
def aa6:=@PyProof.Rows.F.plain_set_update_loop
def aa7:=@PySem.Heap.size_push
def aa8:=@PySem.Calls.call_function_entry
def aa9:=@PySem.wpAny_askSetting
def aba:=@PySem.wpAny_setEntries_of
def abb:=@Nat.le_succ
def abd:=@Nat.add_zero
def abe:=@List.set_set
def abf:=@PySem.wpAny_getItem_str_slice
def abg:=@PySem.wpAny_attempt
def abh:=@List.length_set
def abi:=@Option.map_eq_some_iff
def abj:=@PySem.W.kitx_dict
def abk:=@Nat.le_of_lt
def abl:=@Ne.symm
def abm:=@Nat.lt_succ_self
def abn:=@Array.toList_map
def abo:=@Array.toArray_toList
def abp:=@PySem.Paired.length
def abq:=@List.any_cons
def abr:=@PySem.wpAny_passesOwn
def abt:=@List.filterMap_cons
def abu:=@Bool.eq_iff_iff
namespace L2
theorem aF(_:True:=by first|exact .inl rfl|exact .inr rfl|assumption):True:=trivial
theorem aD(_:True:=by decide):True:=trivial
theorem aI(_:True:=by intro _;rfl):True:=trivial
theorem aR(_:True:=by rfl):True:=trivial
end L2
namespace L2
open PySem PySem.Spec PyProof.Rows
variable{a b it dx C:Addr}{u:Value}{P:Program}{w:World}{h h' base:Heap}{α:Type}{x name m qual:Str}{e c tg:Expr}{pins:List (Addr×Obj)}{s s':Shared}{t' i j k:Nat}{ch fp:List Addr}{N ps:List Str}{A:Around}{E Q:Value->Shared->Prop}{pos pos' p apos:Pos}{es:List Expr}{g:Int->Int->Int}{body:List Stmt}{f:Value->Value->Sem Value}{us:List Value}{mA mg:Str->Option Value}{fd:FuncData}{scope:Scope}
abbrev Key:=Sum Int Str
def fM:Key->Value->Bool
 |.inl k,v=>Value.isInt k v
 |.inr x,v=>Value.isStrOf x v
def keyH(w:World):Key->Int
 |.inl k=>hashInt k
 |.inr x=>hashStr w x
theorem aq:∀ {k:Key} {v:Value},fM k v=true->(∃ i t,k=Sum.inl i/\v=Value.int i t)∨(∃ x t,k=Sum.inr x/\v=Value.str x t)
 | .inl i,v,h=>by
  obtain⟨t,e⟩:=Value.isInt_shape (k:=i) (v:=v) h;exact .inl ⟨i,t,rfl,e⟩
 | .inr x,v,h=>by
  obtain⟨t,e⟩:=Value.isStrOf_shape (x:=x) (v:=v) h;exact .inr ⟨x,t,rfl,e⟩
theorem jW(i:Int)(t:Tok):fM (.inl i) (.int i t)=true:=by simp[fM,Value.isInt]
theorem fN(x:Str)(t:Tok):fM (.inr x) (.str x t)=true:=by simp[fM,Value.isStrOf]
theorem tU(a b:Int):decide ((Sum.inl a:Key)=Sum.inl b)=(a==b):=by
 by_cases e:a=b
 ·subst e;simp
 ·have h:¬ (Sum.inl a:Key)=Sum.inl b:=λ q=>e (Sum.inl.inj q);rw[decide_eq_false h];exact(beq_eq_false_iff_ne.mpr e).symm
theorem tV(a b:Str):decide ((Sum.inr a:Key)=Sum.inr b)=decide (a=b):=by
 by_cases e:a=b
 ·subst e;simp
 ·have h:¬ (Sum.inr a:Key)=Sum.inr b:=λ q=>e (Sum.inr.inj q);rw[decide_eq_false h,decide_eq_false e]
theorem tW(a:Int)(b:Str):decide ((Sum.inl a:Key)=Sum.inr b)=false:=decide_eq_false (λ q=>nomatch q)
theorem tX(a:Str)(b:Int):decide ((Sum.inr a:Key)=Sum.inl b)=false:=decide_eq_false (λ q=>nomatch q)
def aB(prog:Program)(w:World):PySem.KeyKind prog w Key where
 is:=fM
 hash:=keyH w
 inj:=λ v a b ha hb=>by
  rcases aq ha with ⟨i,t,rfl,rfl⟩|⟨x,t,rfl,rfl⟩
  ·rcases aq hb with ⟨j,u,rfl,e⟩|⟨y,u,rfl,e⟩
   ·injection e with e1 _;rw[e1]
   ·exact nomatch e
  ·rcases aq hb with ⟨j,u,rfl,e⟩|⟨y,u,rfl,e⟩
   ·exact nomatch e
   ·injection e with e1 _;rw[e1]
 byValue:=λ k v h=>by
  rcases aq h with ⟨i,t,rfl,rfl⟩|⟨x,t,rfl,rfl⟩ <;> rfl
 pyHash:=λ hv h=>by
  rcases aq hv with ⟨i,t,rfl,rfl⟩|⟨x,t,rfl,rfl⟩
  ·exact wpAny_pyHash_int h
  ·exact wpAny_pyHash_str h
 eqBool:=λ hu hv h=>by
  rcases aq hu with ⟨i,t,rfl,rfl⟩|⟨x,t,rfl,rfl⟩
  ·rcases aq hv with ⟨j,u,rfl,rfl⟩|⟨y,u,rfl,rfl⟩
   ·rw[tU] at h;exact wpAny_eqBool_int h
   ·rw[tW] at h;exact SeqAt.EqAt.int_str i t y u _ _ _ _ h
  ·rcases aq hv with ⟨j,u,rfl,rfl⟩|⟨y,u,rfl,rfl⟩
   ·rw[tX] at h;exact SeqAt.EqAt.str_int x t j u _ _ _ _ h
   ·rw[tV] at h;exact wpAny_eqBool_str h
 «strs»:=λ k x t v h=>by
  rcases aq h with ⟨i,u,rfl,e⟩|⟨y,u,rfl,e⟩
  ·exact nomatch e
  ·injection e with e1 _
   subst e1
   cases v <;> rfl
theorem hV(prog:Program)(w:World)(i:Int)(t:Tok):(aB prog w).is (.inl i) (.int i t)=true:=jW i t
theorem hX(prog:Program)(w:World)(x:Str)(t:Tok):(aB prog w).is (.inr x) (.str x t)=true:=fN x t
inductive V where
 |non|bl (b:Bool)|int (i:Int)|str (x:Str)|byt (b:Array UInt8)|flt (b:UInt64)|ref (a:Addr)|ty (n:String)
 deriving DecidableEq
variable{v:V}{xs vs:List V}
def RelV:V->Value->Prop
 |.non,u=>u=Value.none
 |.bl b,u=>u=Value.bool b
 |.int i,u=>∃ t,u=Value.int i t
 |.str x,u=>∃ t,u=Value.str x t
 |.byt b,u=>∃ t,u=Value.bytes b t
 |.flt b,u=>∃ t,u=Value.float b t
 |.ref a,u=>u=Value.ref a
 |.ty n,u=>u=Value.type n
abbrev Vals:List V->List Value->Prop:=Paired RelV
theorem Vals.length{xs:List V}{us:List Value}(r:Vals xs us):xs.length=us.length:=abp r
theorem Vals.get:∀ {xs:List V} {us:List Value} {i:Nat} {x:V},Vals xs us->xs[i]?=some x->∃ u,us[i]?=some u/\RelV x u
 |_,_,_,_,.nil,e=>by simp at e
 |_,_,0,_,.cons r _,e=>by simp at e;subst e;exact⟨_,rfl,r⟩
 | _,_,i+1,x,.cons _ t,e=>by
  obtain⟨u,h1,h2⟩:=Vals.get (i:=i) (x:=x) t (by exists e);exact⟨u,(by exists h1),h2⟩
theorem Vals.set{x:V}{u:Value}(r:RelV x u):∀ {xs:List V} {us:List Value} (i:Nat),Vals xs us->Vals (xs.set i x) (us.set i u)
 |_,_,_,.nil=>.nil
 |_,_,0,.cons _ t=>.cons r t
 |_,_,i+1,.cons q t=>.cons q (Vals.set r i t)
theorem Vals.append:∀ {xs ys:List V} {us ws:List Value},Vals xs us->Vals ys ws->Vals (xs++ys) (us++ws)
 |_,_,_,_,.nil,s=>s
 |_,_,_,_,.cons r t,s=>.cons r (Vals.append t s)
theorem Vals.take:∀ {xs:List V} {us:List Value} (n:Nat),Vals xs us->Vals (xs.take n) (us.take n)
 |_,_,0,_=>.nil
 |_,_,_+1,.nil=>.nil
 |_,_,n+1,.cons r t=>.cons r (Vals.take n t)
theorem Vals.drop:∀ {xs:List V} {us:List Value} (n:Nat),Vals xs us->Vals (xs.drop n) (us.drop n)
 |_,_,0,r=>r
 |_,_,_+1,.nil=>.nil
 |_,_,n+1,.cons _ t=>Vals.drop n t
def RelO:Option V->Option Value->Prop
 |some v,some u=>RelV v u
 |none,none=>True
 |_,_=>False
def KV{κ:Type}:List (κ×V)->List (κ×Value)->Prop:=Paired λ (p:κ×V) (q:κ×Value)=>p.1=q.1/\RelV p.2 q.2
def kV:Key->V
 |.inl i=>.int i
 |.inr x=>.str x
inductive HO where
 |lst (xs:List V)
 |tup (xs:List V)
 |dK (kvs:List (Key×V))|dT (kvs:List (List Key×V))
 |set (S:Int->Bool) (n:Nat)
 |ins (C dx:Addr) (fs:List (Str×V))
 |own (x:Addr)
 |xd (fs:List (Str×V))
 |met (f x:Addr)
 |rng (lo hi:Int)
 |frz (o:Obj) (u:HO)
 |tbl (q:Str)
 |ext (φ:Heap->Prop)
variable{o:HO}
abbrev Hp:=Addr->Option HO
variable{H H':Hp}
def upd(H:Hp)(a:Addr)(o:HO):Hp:=λ b=>if b=a then some o else H b
theorem ag :upd H a o a=some o:=by unfold upd;rw[if_pos rfl]
theorem ah(h:b≠a):upd H a o b=H b:=by unfold upd;rw[if_neg h]
theorem xE{u:HO}(h:H a=some o)(h':H b=some u)(d:o≠u):a≠b:=by
 intro e;subst e;rw[h] at h';exact d (aah h')
theorem ao(h:H a=some o)(h':H b=none):a≠b:=by
 intro e;subst e;rw[h] at h';cases h'
section
variable (P:Program) (w:World)
def ObjOk(H:Hp)(h:Heap)(a:Addr):HO->Prop
 |.lst xs=>xs.length<=sizeLine/\∃ (its:List Value) (n:Nat),Vals xs its/\h.get? a=some { cls:=.type "list", data:=.seq its.toArray n }
 |.tup xs=>xs.length<=sizeLine/\∃ its:List Value,Vals xs its/\IsTup h a its.toArray
 |.dK kvs=>kvs.length<=sizeLine/\(a==sysModules)=false/\∃ vs,KV kvs vs/\h.DictOf (aB P w) a vs
 | .dT kvs=>kvs.length<=sizeLine/\(a==sysModules)=false/\∃ xs:List (List Key×Addr×Value),
   Paired (λ (p:List Key×V) (q:List Key×Addr×Value)=>p.1=q.1/\H q.2.1=some (.tup (p.1.map kV))/\RelV p.2 q.2.2) kvs xs /\
   ∃ o es ep,h.get? a=some o/\o.ExactDict/\o.data=.dict es ep/\es.toList=xs.map (entryOfKey (tupleKind (aB P w)))/\(xs.map (·.1)).Nodup
 |.set S n=>h.SetOf (intKind P w) a S n
 | .ins C dx fs=>H dx=some (.own a)/\fs.length<=1000/\dx≠a/\h.get? a=some (PySem.W.instObj C dx) /\
   ∃ mA,h.Ns1 dx mA/\(∀ f,RelO (fs.lookup f) (mA f))/\PySem.Within mA (fs.map (·.1))
 |.own _=>∃ o,h.get? a=some o
 |.xd fs=>∃ mA,h.Ns1 a mA/\∀ f,RelO (fs.lookup f) (mA f)
 |.rng lo hi=>∃ t u v,h.get? a=some { cls:=.type "range", data:=.fields #[.int lo t,.int hi u,.int 1 v] }
 |.frz o u=>h.get? a=some o/\ObjOk H h a u
 |.tbl q=>∃ ps:Array Value,h.get? a=some (PySem.W.tabObj ps)/\TriplesOk ps.toList/\∀ pos cv,codeAmong pos ps.toList=some cv->∃ (c:Addr) (oc:Obj) (vs:Array Value) (t:Tok),cv=.ref c/\H c=some (.frz oc (.own a))/\oc.data=.fields vs/\vs[1]?=some (.str q t)
 |.met f x=>h.get? a=some (PySem.W.methodObj (.ref f) (.ref x))
 |.ext φ=>φ h/\(∃ o,h.get? a=some o)/\∀ h1 h2:Heap,φ h1->(∀ o,h1.get? a=some o->h2.get? a=some o)->φ h2
def HOk(H:Hp)(h:Heap):Prop:=∀ a o,H a=some o->ObjOk P w H h a o
end
theorem ObjOk.lt(x:ObjOk P w H h a o):a<h.objs.size:=by
 cases o with
 |lst xs=>obtain⟨_,_,_,_,e⟩:=x;exact aae e
 |tup xs=>obtain⟨_,_,_,p⟩:=x;exact p.lt
 |dK kvs=>obtain⟨_,_,_,_,o,_,_,e,_⟩:=x;exact aae e
 |dT kvs=>obtain⟨_,_,_,_,o,_,_,e,_⟩:=x;exact aae e
 |set S n=>obtain⟨o,_,_,_,e,_⟩:=x;exact aae e
 |ins C dx fs=>obtain⟨_,_,_,e,_⟩:=x;exact aae e
 |own y=>obtain⟨_,e⟩:=x;exact aae e
 |xd fs=>obtain⟨_,⟨_,_,_,e,_⟩,_⟩:=x;exact aae e
 |rng lo hi=>obtain⟨_,_,_,e⟩:=x;exact aae e
 |frz ob u=>obtain⟨e,_⟩:=x;exact aae e
 |tbl q=>obtain⟨_,e,_⟩:=x;exact aae e
 |met f y=>exact aae (show h.get? a=some _ from x)
 |ext φ=>obtain⟨_,⟨_,e⟩,_⟩:=x;exact aae e
theorem Paired.mapP{β:Type}{F G:α->β->Prop}{l₁:List α}{l₂:List β}(h:Paired F l₁ l₂)(f:∀ a b,F a b->G a b):Paired G l₁ l₂:=by
 induction h with
 |nil=>exact .nil
 |cons r t ih=>exact .cons (f _ _ r) ih
theorem ObjOk.stay(x:ObjOk P w H h a o)(k:∀ b u,(b=a∨H b=some (.own a))->h.get? b=some u->h'.get? b=some u)
  (ho:∀ b,H b=some (.own a)->H' b=some (.own a)) (ht:∀ b xs,H b=some (.tup xs)->H' b=some (.tup xs)) (hz:∀ b ob x,H b=some (.frz ob (.own x))->H' b=some (.frz ob (.own x))):ObjOk P w H' h' a o:=by
 induction o with
 |lst xs=>obtain⟨z,its,n,r,e⟩:=x;exact⟨z,its,n,r,k _ _ (.inl rfl) e⟩
 |tup xs=>obtain⟨z,its,r,ob,e,c⟩:=x;exact⟨z,its,r,ob,k _ _ (.inl rfl) e,c⟩
 |dK kvs=>obtain⟨z,y,vs,r,ob,es,ep,e,c⟩:=x;exact⟨z,y,vs,r,ob,es,ep,k _ _ (.inl rfl) e,c⟩
 | dT kvs=>
  obtain⟨z,y,xs,r,ob,es,ep,e,c⟩:=x;exact⟨z,y,xs,Paired.mapP r λ p q z=>⟨z.1,ht _ _ z.2.1,z.2.2⟩,ob,es,ep,k _ _ (.inl rfl) e,c⟩
 |set S n=>obtain⟨ob,es,ep,t,e,c⟩:=x;exact⟨ob,es,ep,t,k _ _ (.inl rfl) e,c⟩
 | ins C dx fs=>
  obtain⟨d,z,ne,e,mA,⟨od,es,ep,e2,c⟩,r⟩:=x;exact⟨ho _ d,z,ne,k _ _ (.inl rfl) e,mA,⟨od,es,ep,k _ _ (.inr d) e2,c⟩,r⟩
 |own y=>obtain⟨ob,e⟩:=x;exact⟨ob,k _ _ (.inl rfl) e⟩
 |xd fs=>obtain⟨mA,⟨od,es,ep,e,c⟩,r⟩:=x;exact⟨mA,⟨od,es,ep,k _ _ (.inl rfl) e,c⟩,r⟩
 |rng lo hi=>obtain⟨t,u,v,e⟩:=x;exact⟨t,u,v,k _ _ (.inl rfl) e⟩
 |frz ob u ih=>obtain⟨e,q⟩:=x;exact⟨k _ _ (.inl rfl) e,ih q⟩
 | tbl q=>
  obtain⟨ps,e,t,f⟩:=x;refine⟨ps,k _ _ (.inl rfl) e,t,λ pos cv z=>?_⟩;obtain⟨c,oc,vs,t,e1,e2,e3⟩:=f pos cv z;exact⟨c,oc,vs,t,e1,hz _ _ _ e2,e3⟩
 | met f y=>
  have e:h.get? a=some (PySem.W.methodObj (.ref f) (.ref y)):=x;show h'.get? a=some (PySem.W.methodObj (.ref f) (.ref y));exact k a _ (.inl rfl) e
 |ext φ=>obtain⟨p,⟨o,e⟩,st⟩:=x;exact⟨st _ _ p λ o q=>k _ _ (.inl rfl) q,⟨o,k _ _ (.inl rfl) e⟩,st⟩
theorem HOk.lt(x:HOk P w H h)(e:H a=some o):a<h.objs.size:=(x a o e).lt
theorem HOk.fresh(x:HOk P w H h)(e:h.objs.size<=a):H a=none:=by
 cases q:H a with
 |none=>rfl
 |some u=>exact absurd (aaj (x.lt q) e) (aaD _)
theorem HOk.kept(x:HOk P w H h)(k:∀ b u,h.get? b=some u->h'.get? b=some u):HOk P w H h':=λ a o e=>
 (x a o e).stay (λ b u _ q=>k b u q) (λ _ q=>q) (λ _ _ q=>q) λ _ _ _ q=>q
theorem HOk.laid(x:HOk P w H h)(k:∀ b u,h.get? b=some u->h'.get? b=some u)(hp:h.objs.size<=a)(new:ObjOk P w (upd H a o) h' a o):HOk P w (upd H a o) h':=λ b u e=>by
 have hn:=x.fresh hp;by_cases hb:b=a
 ·subst hb;rw[ag] at e;cases e;exact new
 ·rw[ah hb] at e;exact(x b u e).stay (λ c v _ q=>k c v q) (λ c q=>by rw[ah (ao q hn)];exact q) (λ c xs q=>by rw[ah (ao q hn)];exact q) λ c ob y q=>by rw[ah (ao q hn)];exact q
def Rd(H:Hp)(a:Addr)(u:HO):Prop:=H a=some u∨∃ o,H a=some (.frz o u)
theorem Rd.ok{u:HO}(r:Rd H a u)(x:HOk P w H h):ObjOk P w H h a u:=by
 rcases r with r|⟨o,r⟩
 ·exact x a u r
 ·obtain⟨_,q⟩:=x a _ r;exact q
def Mut:Option HO->Prop
 |some (.lst _)=>True
 |some (.dK _)=>True
 |some (.dT _)=>True
 |some (.set _ _)=>True
 |some (.ins _ _ _)=>True
 |some (.ext _)=>True
 |_=>False
section
variable     {x e:Addr} {o':HO}
theorem HOk.write(ok:HOk P w H h)(mu:Mut (H x))(he:e=x∨H e=some (.own x))(k:∀ b u,b≠e->h.get? b=some u->h'.get? b=some u)(heo:∃ u,h'.get? e=some u)
  (new:ObjOk P w (upd H x o') h' x o'):HOk P w (upd H x o') h':=λ b u q=>by
 have nown:∀ c y,H c=some (.own y)->c≠x:=λ c y r z=>by subst z;rw[r] at mu;exact mu
 have ntup:∀ c xs,H c=some (.tup xs)->c≠x:=λ c xs r z=>by subst z;rw[r] at mu;exact mu
 by_cases hb:b=x
 ·subst hb;rw[ag] at q;cases q;exact new
 ·rw[ah hb] at q;by_cases hbe:b=e
  ·have q':H b=some (.own x):=by
    rcases he with z|z
    ·exact absurd (hbe.trans z) hb
    ·rw[hbe];exact z
   rw[q] at q';cases q';obtain⟨v,hv⟩:=heo;exact⟨v,by rw[hbe];exact hv⟩
  ·refine(ok b u q).stay (λ c v hc r=>k c v ?_ r) (λ c r=>by rw[ah (nown c b r)];exact r) (λ c xs r=>by rw[ah (ntup c xs r)];exact r) λ c ob y r=>by rw[ah (λ z=>by subst z;rw[r] at mu;exact mu)];exact r
   rcases hc with rfl|hc
   ·exact hbe
   ·rintro rfl;rcases he with z|z
    ·exact nown c b hc z
    ·rw[hc] at z;cases z;exact hb rfl
end
structure Un(fs ex:List Addr)(H H':Hp)(h h':Heap):Prop where
 keep:∀ b o,h.get? b=some o->H b=none->b∉fs->b∉ex->h'.get? b=some o
 slot:∀ b o,h.get? b=some o->H b=none->b∈fs->b∉ex->∃ sl,h'.get? b=some { o with slots:=sl }
 free:∀ b o,h.get? b=some o->H b=none->b∉ex->H' b=none
 there:∀ b o,h.get? b=some o->b∉ex->∃ o',h'.get? b=some o'
 tups:∀ b xs,H b=some (.tup xs)->H' b=some (.tup xs)
 frzs:∀ b o u,H b=some (.frz o u)->H' b=some (.frz o u)
 tbls:∀ b ps,H b=some (.tbl ps)->H' b=some (.tbl ps)
section
variable {fs fs' ex ex':List Addr} {H1 H2:Hp} {h1 h2:Heap} {x e:Addr} 
theorem Un.any(u:Un fs ex H H1 h h1){ob:Obj}(q:h.get? b=some ob)(n:H b=none)(hx:b∉ex):∃ sl,h1.get? b=some { ob with slots:=sl }:=by
 by_cases hb:b∈fs
 ·exact u.slot b ob q n hb hx
 ·exact⟨ob.slots,u.keep b ob q n hb hx⟩
theorem Un.kept(k:∀ b u,h.get? b=some u->h'.get? b=some u):Un fs ex H H h h':=
 ⟨λ b ob q _ _ _=>k b ob q,λ b ob q _ _ _=>⟨ob.slots,k b ob q⟩,λ _ _ _ n _=>n,λ b ob q _=>⟨ob,k b ob q⟩,λ _ _ q=>q,λ _ _ _ q=>q,λ _ _ q=>q⟩
theorem Un.refl:Un fs ex H H h h:=Un.kept λ _ _ q=>q
theorem Un.laid(k:∀ b u,h.get? b=some u->h'.get? b=some u)(hp:h.objs.size<=a)(hn:H a=none):Un fs ex H (upd H a o) h h' where
 keep:=λ b u q _ _ _=>k b u q
 slot:=λ b u q _ _ _=>⟨u.slots,k b u q⟩
 free:=λ b u q n _=>by rw[ah (aal (aaj (aae q) hp))];exact n
 there:=λ b u q _=>⟨u,k b u q⟩
 tups:=λ b xs q=>by rw[ah (ao q hn)];exact q
 frzs:=λ b u xs q=>by rw[ah (ao q hn)];exact q
 tbls:=λ b ps q=>by rw[ah (ao q hn)];exact q
theorem Un.write(mu:Mut (H x))(he:e=x∨H e=some (.own x))(k:∀ b u,b≠e->h.get? b=some u->h'.get? b=some u)(heo:∃ u,h'.get? e=some u):Un fs ex H (upd H x o) h h':=by
 have hx:∀ b,H b=none->b≠x:=λ b n z=>by subst z;rw[n] at mu;exact mu
 have hb:∀ b,H b=none->b≠e:=λ b n z=>by
  subst z;rcases he with r|r
  ·exact hx b n r
  ·rw[n] at r;cases r
 have hm:∀ b u,H b=some u->¬ Mut (some u)->b≠x:=λ b u q nm z=>by subst z;rw[q] at mu;exact nm mu
 refine⟨λ b u q n _ _=>k b u (hb b n) q,λ b u q n _ _=>⟨u.slots,k b u (hb b n) q⟩,λ b u q n _=>by rw[ah (hx b n)];exact n,λ b u q _=>?_,
  λ b xs q=>by rw[ah (hm b _ q λ z=>z)];exact q,λ b u xs q=>by rw[ah (hm b _ q λ z=>z)];exact q,λ b ps q=>by rw[ah (hm b _ q λ z=>z)];exact q⟩
 by_cases hbe:b=e
 ·subst hbe;exact heo
 ·exact⟨u,k b u hbe q⟩
end
def trk(h:Heap)(H:Hp):List Addr:=(List.range h.objs.size).filter λ a=>(H a).isSome
def mO(h:Heap)(H:Hp):Heap:=PySem.W.hideAll h (trk h H)
theorem jX(h:Heap)(H:Hp):(mO h H).objs.size=h.objs.size:=PySem.W.hideAll_size _ _
theorem mP{o:Obj}(e:h.get? b=some o)(n:H b=none):(mO h H).get? b=some o:=
 PySem.W.hideAll_get _ e λ hm=>by
  have q:(H b).isSome=true:=(List.mem_filter.mp hm).2;rw[n] at q;simp at q
theorem pW{o:Obj}(e:(mO h H).get? b=some o):h.get? b=some o/\H b=none:=by
 have e':h.get? b=some o:=PySem.W.of_hideAll (trk h H) e;refine⟨e',?_⟩
 cases q:H b with
 |none=>rfl
 | some x=>
  have hm:b∈trk h H:=List.mem_filter.mpr ⟨aca.mpr (aae e'),by simp[q]⟩;have z:(mO h H).get? b=none:=PySem.W.hideAll_none (trk h H) hm;rw[z] at e;cases e
def pX(g h:Heap)(L:Addr):List (Addr×Obj):=(List.range h.objs.size).filterMap λ a=>if a=L∨(g.get? a).isSome=true then none else (h.get? a).map λ o=>(a,o)
def rest(g h:Heap)(L d:Addr):List (Addr×Obj):=(pX g h L).filter λ p=>decide (p.1≠d)
def cP(K:Frag)(T:Addr):Prop:=∃ (f c:Addr) (oc:Value) (od:Option Addr) (fd:FuncData) (osl:Array (Option Value)) (o:Obj) (vs:Array Value),PySem.W.nsIn K mainGlobals "by_number" = some (some (.ref f))/\K.lookup f=some ⟨oc,od,.func fd,osl⟩/\fd.code=.ref c/\K.lookup c=some o/\o.data=.fields vs/\vs[11]?=some (.ref T)
def dW:Str := "by_number.<locals>.<lambda>"
structure Mod(K:Frag)(mg:Str->Option Value)(base:Heap):Prop where
 kin:K.In base
 glob:base.Ns mainGlobals mg
 blt:∃ mb,base.Ns builtinsNs mb/\∀ x:Str,x ≠ "__name__" -> mb x=bootBuiltins x
 nolimit:base.NoLimit
structure Cx where
 prog:Program
 w:World
 K:Frag
 mg:Str->Option Value
 base:Heap
 A:Around
 N:List Str
 s₀:Shared
 H₀:Hp
 env:Env
 outer:List Env
 stack:List Env
 ex:List Addr
 fn:Str->Bool
 calm:Bool
 pn:List (Addr×Obj)
 xe:Value->Shared->Prop
variable{X:Cx}
def frs(l:List Env):List Addr:=l.filterMap (·.frame)
abbrev Cx.fs(X:Cx):List Addr:=frs X.outer
def Vis(sc:Scope)(x:Str):Prop:=sc.names.lookup x=some .local∨sc.names.lookup x=some .cell∨sc.names.lookup x=some .free
def Loc(sc:Scope)(x:Str):Prop:=sc.names.lookup x=some .local∨sc.names.lookup x=some .cell
def Look(env:Env)(h:Heap)(m:Str->Option Value)(x:Str)(u:Value):Prop:=
 (env.kindOf x=some .local/\m x=some u)∨((env.kindOf x=some .cell∨env.kindOf x=some .free)/\∃ c,env.cells.lookup x=some c/\h.IsCell c (some u))
structure Cx.Ok(X:Cx):Prop where
 mod:Mod X.K X.mg X.base
 kind:X.env.scope.kind=.function
 glob:X.env.globals=mainGlobals
 blt:X.env.builtins=builtinsNs
 above:X.s₀.heap.objs.size<=X.env.locals
 inj:∀ x y c,X.env.cells.lookup x=some c->X.env.cells.lookup y=some c->x=y
 has:∀ x,(X.env.kindOf x=some .cell∨X.env.kindOf x=some .free)->∃ c,X.env.cells.lookup x=some c
 cab:∀ x c,X.fn x=true->X.env.cells.lookup x=some c->X.s₀.heap.objs.size<=c
 hd:X.calm=true->X.A.handled=none
 frames:X.A.frames=some X.stack
 stk:X.stack=X.outer∨(X.stack=X.env::X.outer/\X.env.frame=some X.env.locals)
 exf:∀ b∈X.ex,b≠X.env.locals/\∀ x c,X.env.cells.lookup x=some c->c≠b
 bs:∀ b o,X.base.get? b=some o->X.s₀.heap.get? b=some o/\X.H₀ b=none
 bsz:X.base.objs.size<=X.s₀.heap.objs.size
 noex:∀ b o,X.base.get? b=some o->b∉X.ex
 exfs:∀ b∈X.ex,b∉X.fs
 funs:X.s₀.heap.FunFrames X.base X.outer
 frf:∀ b∈X.fs,X.H₀ b=none
 lam:∀ T,cP X.K T->X.H₀ T=some (.tbl dW)
structure Inv(X:Cx)(pins:List (Addr×Obj))(σ:List (Option V))(H:Hp)(s:Shared):Prop where
 ok:X.Ok
 os:s.os=X.s₀.os
 bare:AllBare s.gens
 base:Un X.fs X.ex X.H₀ H X.s₀.heap s.heap
 loc:∃ m,s.heap.Ns X.env.locals m/\∀ (i:Nat) (x:Str) (v:V),X.N[i]?=some x->σ[i]?=some (some v)->Vis X.env.scope x->∃ u,RelV v u/\Look X.env s.heap m x u
 cell:∀ x c,X.env.cells.lookup x=some c->∃ v,s.heap.IsCell c v
 free:H X.env.locals=none
 freeC:∀ x c,X.env.cells.lookup x=some c->H c=none
 pin:∀ p∈X.pn++pins,s.heap.get? p.1=some p.2/\H p.1=none/\p.1≠X.env.locals/\p.1∉X.fs/\∀ v,p.2.data≠.cell v
 hok:HOk X.prog X.w H s.heap
 len:σ.length=X.N.length
section
variable   {σ:List (Option V)}   
theorem Cx.Ok.nofr(ok:X.Ok){o:Obj}(e:X.base.get? b=some o):b∉X.fs:=λ hb=>by
 have:=(ok.funs.mem hb).1;rw[e] at this;cases this
theorem Inv.bs(I:Inv X pins σ H s):∀ b o,X.base.get? b=some o->s.heap.get? b=some o/\H b=none:=λ b o e=>
 ⟨I.base.keep b o (I.ok.bs b o e).1 (I.ok.bs b o e).2 (I.ok.nofr e) (I.ok.noex b o e),I.base.free b o (I.ok.bs b o e).1 (I.ok.bs b o e).2 (I.ok.noex b o e)⟩
theorem Inv.bk(I:Inv X pins σ H s):∀ b o,X.base.get? b=some o->s.heap.get? b=some o:=λ b o e=>(I.bs b o e).1
theorem Inv.mod(I:Inv X pins σ H s):Mod X.K X.mg X.base:=I.ok.mod
theorem Inv.kIn(I:Inv X pins σ H s):X.K.In s.heap:=I.ok.mod.kin.keeps I.bk
theorem Inv.nolimit(I:Inv X pins σ H s):s.heap.NoLimit:=I.ok.mod.nolimit.keeps I.bk
theorem Inv.lt(I:Inv X pins σ H s):X.env.locals<s.heap.objs.size:=let ⟨_,hn,_⟩:=I.loc;hn.lt
theorem Inv.sz(I:Inv X pins σ H s):X.s₀.heap.objs.size<=s.heap.objs.size:=aat I.ok.above (abk I.lt)
theorem Inv.nofs(I:Inv X pins σ H s)(h:s.heap.objs.size<=a):a∉X.fs:=λ hb=>by
 obtain⟨_,o,ho,_⟩:=I.ok.funs.mem hb;exact absurd (aaj (aae ho) (aat I.sz h)) (aaD _)
theorem Inv.cne(I:Inv X pins σ H s):∀ x c,X.env.cells.lookup x=some c->c≠X.env.locals:=λ x c e z=>by
 obtain⟨v,o,ho,hd⟩:=I.cell x c e;obtain⟨m,⟨o',es,ep,ho',hd',_⟩,_⟩:=I.loc;rw[z,ho'] at ho;cases ho;rw[hd'] at hd;cases hd
theorem Inv.funs(I:Inv X pins σ H s):s.heap.FunFrames X.base X.outer:=by
 have all:∀ (l:List Env),(∀ b∈frs l,b∈X.fs)->X.s₀.heap.FunFrames X.base l->s.heap.FunFrames X.base l:=by
  intro l
  induction l with
  |nil=>intro _ _;trivial
  | cons env r ih=>
   intro hs hl;obtain⟨hk,⟨L,o,hf,hn,ho,hd⟩,hr⟩:=hl;have hL:L∈X.fs:=hs L (by unfold frs;rw[abt,hf];exact aac);obtain⟨sl,e⟩:=I.base.slot L o ho (I.ok.frf L hL) hL λ z=>I.ok.exfs L z hL;exact⟨hk,⟨L,_,hf,hn,e,hd⟩,ih (λ b hb=>hs b (by unfold frs;rw[abt,hf];exact aag _ hb)) hr⟩
 exact all X.outer (λ _ hb=>hb) I.ok.funs
theorem Inv.stack(I:Inv X pins σ H s):s.heap.FunFrames X.base X.stack:=by
 rcases I.ok.stk with e|⟨e,hf⟩
 ·rw[e];exact I.funs
 ·rw[e];obtain⟨m,hn,_⟩:=I.loc;refine .cons (by rw[I.ok.kind];decide) hf hn ?_ I.funs;exact Heap.get?_none_of_le (aat I.ok.bsz I.ok.above)
theorem Inv.stkSub(I:Inv X pins σ H s):∀ b∈frs X.stack,b∈X.env.locals::X.fs:=λ b hb=>by
 rcases I.ok.stk with e|⟨e,hf⟩
 ·rw[e] at hb;exact aag _ hb
 ·rw[e] at hb;unfold frs at hb;rw[abt,hf] at hb;exact hb
theorem Inv.stkFree(I:Inv X pins σ H s):∀ b∈frs X.stack,H b=none:=λ b hb=>by
 rcases abG.mp (I.stkSub b hb) with e|hb
 ·rw[e];exact I.free
 ·obtain⟨_,o,ho,_⟩:=I.ok.funs.mem hb;exact I.base.free b o ho (I.ok.frf b hb) λ z=>I.ok.exfs b z hb
theorem Inv.step{g':Array GenState}{d':Drawn}(I:Inv X pins σ H s)
  (hch:∀ b∈ch,(b∈X.ex∨X.s₀.heap.objs.size<=b)/\b≠X.env.locals/\(∀ x c,X.env.cells.lookup x=some c->c≠b)/\∀ p∈X.pn++pins,p.1≠b)
  (keep:∀ b o,b≠X.env.locals->b∉X.fs->b∉ch->s.heap.get? b=some o->H b=none->h'.get? b=some o)
  (slot:∀ b o,b≠X.env.locals->b∈X.fs->b∉ch->s.heap.get? b=some o->H b=none->∃ sl,h'.get? b=some { o with slots:=sl }) (free:∀ b o,b∉ch->s.heap.get? b=some o->H b=none->H' b=none)
  (there:∀ b o,b∉ch->s.heap.get? b=some o->∃ o',h'.get? b=some o')
  (tups:∀ b xs,H b=some (.tup xs)->H' b=some (.tup xs)) (frzs:∀ b o u,H b=some (.frz o u)->H' b=some (.frz o u)) (tbls:∀ b ps,H b=some (.tbl ps)->H' b=some (.tbl ps))
  (ns:∀ m,s.heap.Ns X.env.locals m->h'.Ns X.env.locals m) (hok:HOk X.prog X.w H' h') (hg:AllBare g') :
  Inv X pins σ H' { s with heap:=h',gens:=g',drawn:=d',toks:=t' }:=by
 have neL:∀ b o,X.s₀.heap.get? b=some o->b≠X.env.locals:=λ b o e=>aal (aaj (aae e) I.ok.above)
 have neC:∀ b o,X.s₀.heap.get? b=some o->b∉X.ex->b∉ch:=λ b o e hx hb=>by
  rcases (hch b hb).1 with z|z
  ·exact hx z
  ·exact absurd (aaj (aae e) z) (aaD _)
 have cellK:∀ x c,X.env.cells.lookup x=some c->∀ v,s.heap.IsCell c v->h'.IsCell c v:=λ x c e v ⟨o,ho,hd⟩=>by
  have nch:c∉ch:=λ z=>(hch c z).2.2.1 x c e rfl;by_cases hc:c∈X.fs
  ·obtain⟨sl,q⟩:=slot c o (I.cne x c e) hc nch ho (I.freeC x c e);exact⟨_,q,hd⟩
  ·exact⟨o,keep c o (I.cne x c e) hc nch ho (I.freeC x c e),hd⟩
 refine⟨I.ok,I.os,hg,⟨λ b o e n hb hx=>?_,λ b o e n hb hx=>?_,λ b o e n hx=>?_,λ b o e hx=>?_,λ b xs e=>tups b xs (I.base.tups b xs e),λ b o xs e=>frzs b o xs (I.base.frzs b o xs e),λ b ps e=>?_⟩,?_,λ x c e=>?_,?_,λ x c e=>?_,λ p hp=>?_,hok,I.len⟩
 ·exact keep b o (neL b o e) hb (neC b o e hx) (I.base.keep b o e n hb hx) (I.base.free b o e n hx)
 ·obtain⟨sl,e1⟩:=I.base.slot b o e n hb hx;obtain⟨sl',e2⟩:=slot b _ (neL b o e) hb (neC b o e hx) e1 (I.base.free b o e n hx);exact⟨sl',e2⟩
 ·obtain⟨o',e1⟩:=I.base.there b o e hx;exact free b o' (neC b o e hx) e1 (I.base.free b o e n hx)
 ·obtain⟨o',e1⟩:=I.base.there b o e hx;exact there b o' (neC b o e hx) e1
 ·exact tbls b ps (I.base.tbls b ps e)
 ·obtain⟨m,hn,hl⟩:=I.loc;refine⟨m,ns m hn,λ i x v e1 e2 e3=>?_⟩;obtain⟨u,r,l⟩:=hl i x v e1 e2 e3;refine⟨u,r,?_⟩;rcases l with l|⟨k,c,e,z⟩
  ·exact .inl l
  ·exact .inr ⟨k,c,e,cellK x c e _ z⟩
 ·obtain⟨v,z⟩:=I.cell x c e;exact⟨v,cellK x c e v z⟩
 ·obtain⟨m,⟨o,_,_,ho,_⟩,_⟩:=I.loc;exact free _ o (λ z=>(hch _ z).2.1 rfl) ho I.free
 ·obtain⟨v,o,ho,hd⟩:=I.cell x c e;exact free c o (λ z=>(hch c z).2.2.1 x c e rfl) ho (I.freeC x c e)
 ·obtain⟨e,n,ne,nf,d⟩:=I.pin p hp;have nch:p.1∉ch:=λ z=>(hch p.1 z).2.2.2 p hp rfl;exact⟨keep p.1 p.2 ne nf nch e n,free p.1 p.2 nch e n,ne,nf,d⟩
theorem Inv.un(I:Inv X pins σ H s)(u:Un X.fs [] H H' s.heap h')(hok:HOk X.prog X.w H' h'):Inv X pins σ H' { s with heap:=h',toks:=t' }:=by
 obtain⟨m,⟨o,es,ep,ho,r⟩,_⟩:=id I.loc;obtain⟨sl,hL⟩:=u.any ho I.free (by simp)
 exact I.step (g':=s.gens) (d':=s.drawn) (ch:=[]) (λ _ z=>nomatch z) (λ b o _ hb _ e n=>u.keep b o e n hb (by simp)) (λ b o _ hb _ e n=>u.slot b o e n hb (by simp)) (λ b o _ e n=>u.free b o e n (by simp)) (λ b o _ e=>u.there b o e (by simp)) u.tups u.frzs u.tbls (λ m' hm=>by
  obtain⟨o',es',ep',ho',r'⟩:=hm;rw[ho] at ho';cases ho';exact⟨_,es',ep',hL,r'⟩) hok I.bare
theorem Inv.call{g':Array GenState}{d':Drawn}(I:Inv X pins σ H s)(u:Un (frs X.stack) ch H H' s.heap h')(hok:HOk X.prog X.w H' h')(hg:AllBare g')
  (hch:∀ b∈ch,(b∈X.ex∨X.s₀.heap.objs.size<=b)/\b≠X.env.locals/\(∀ x c,X.env.cells.lookup x=some c->c≠b)/\∀ p∈X.pn++pins,p.1≠b) :
  Inv X pins σ H' { s with heap:=h',gens:=g',drawn:=d',toks:=t' }:=by
 obtain⟨m,⟨o,es,ep,ho,r⟩,_⟩:=id I.loc;obtain⟨sl,hL⟩:=u.any ho I.free λ z=>(hch _ z).2.1 rfl
 exact I.step (ch:=ch) hch (λ b o hL hb hc e n=>u.keep b o e n (λ z=>(abG.mp (I.stkSub b z)).elim hL hb) hc) (λ b o _ _ hc e n=>u.any e n hc) (λ b o hc e n=>u.free b o e n hc) (λ b o hc e=>u.there b o e hc) u.tups u.frzs u.tbls (λ m' hm=>by
  obtain⟨o',es',ep',ho',r'⟩:=hm;rw[ho] at ho';cases ho';exact⟨_,es',ep',hL,r'⟩) hok hg
theorem Inv.turned(I:Inv X pins σ H s)(k:∀ b o,b≠it->s.heap.get? b=some o->h'.get? b=some o)(hn:H it=none)(hL:it≠X.env.locals)
  (h1:it∈X.ex∨X.s₀.heap.objs.size<=it) (h2:∀ x c,X.env.cells.lookup x=some c->c≠it) (h3:∀ p∈X.pn++pins,p.1≠it):Inv X pins σ H { s with heap:=h',toks:=t' }:=by
 have nit:∀ b u,H b=some u->b≠it:=λ b u e z=>by rw[z,hn] at e;cases e
 refine I.step (g':=s.gens) (d':=s.drawn) (ch:=[it]) (λ b hb=>?_) (λ b o _ _ hc e _=>k b o (λ z=>hc (by simp[z])) e) (λ b o _ _ hc e _=>⟨o.slots,k b o (λ z=>hc (by simp[z])) e⟩) (λ _ _ _ _ n=>n)
  (λ b o hc e=>⟨o,k b o (λ z=>hc (by simp[z])) e⟩) (λ _ _ e=>e) (λ _ _ _ e=>e) (λ _ _ e=>e) (λ m hm=>?_) (λ b u e=>?_) I.bare
 ·have e:b=it:=(by exists hb);subst e;exact⟨h1,hL,h2,h3⟩
 ·obtain⟨o,es,ep,ho,r⟩:=hm;exact⟨o,es,ep,k _ o (abl hL) ho,r⟩
 ·refine(I.hok b u e).stay (λ c v hc q=>k c v ?_ q) (λ _ q=>q) (λ _ _ q=>q) λ _ _ _ q=>q;rcases hc with z|z
  ·rw[z];exact nit b u e
  ·exact nit c _ z
theorem Inv.tok(I:Inv X pins σ H s)(t:Nat):Inv X pins σ H { s with toks:=t }:=I.un (h':=s.heap) (t':=t) Un.refl I.hok
theorem Inv.kept(I:Inv X pins σ H s)(k:∀ b u,s.heap.get? b=some u->h'.get? b=some u):Inv X pins σ H { s with heap:=h',toks:=t' }:=I.un (Un.kept k) (I.hok.kept k)
theorem Inv.laid(I:Inv X pins σ H s)(k:∀ b u,s.heap.get? b=some u->h'.get? b=some u)(hp:s.heap.objs.size<=a)(new:ObjOk X.prog X.w (upd H a o) h' a o) :
  Inv X pins σ (upd H a o) { s with heap:=h',toks:=t' }:=I.un (Un.laid k hp (I.hok.fresh hp)) (I.hok.laid k hp new)
theorem Inv.write{x e:Addr}(I:Inv X pins σ H s)(mu:Mut (H x))(he:e=x∨H e=some (.own x))(k:∀ b u,b≠e->s.heap.get? b=some u->h'.get? b=some u)(heo:∃ u,h'.get? e=some u)
  (new:ObjOk X.prog X.w (upd H x o) h' x o):Inv X pins σ (upd H x o) { s with heap:=h',toks:=t' }:=I.un (Un.write mu he k heo) (I.hok.write mu he k heo new)
theorem Inv.pins_of{pins':List (Addr×Obj)}(I:Inv X pins σ H s)(h:∀ p∈pins',s.heap.get? p.1=some p.2/\H p.1=none/\p.1≠X.env.locals/\p.1∉X.fs/\∀ v,p.2.data≠.cell v):Inv X pins' σ H s:=
 ⟨I.ok,I.os,I.bare,I.base,I.loc,I.cell,I.free,I.freeC,λ p hp=>(abx.mp hp).elim (λ z=>I.pin p (aax _ z)) (h p),I.hok,I.len⟩
theorem iD(hN:N.Nodup)(a:N[i]?=some x)(b:N[j]?=some x):i=j:=by
 obtain⟨h1,e1⟩:=abE.mp a;obtain⟨h2,e2⟩:=abE.mp b;exact(List.getElem_inj hN).mp (e1.trans e2.symm)
theorem jY{M:Model}{Q:Unit->Shared->Prop}(I:Inv X pins σ H s)(hN:X.N.Nodup)(hi:X.N[i]?=some x)(hx:Loc X.env.scope x)(r:RelV v u)
  (h:∀ s',Inv X pins (σ.set i (some v)) H s'->(∃ a,Heap.SameBut a s.heap s'.heap/\(a=X.env.locals∨X.env.cells.lookup x=some a))->Q () s') (hf:autoParam (X.fn x=true∨X.env.scope.names.lookup x=some .local) L2.aF._auto_1):wpAny M A (storeName X.env x u) Q E s:=by
 obtain⟨m,hn,hl⟩:=id I.loc;have hcls:(X.env.scope.kind==.class || (X.env.scope.kind==.module&&X.env.locals != X.env.globals))=false:=by rw[I.ok.kind];rfl
 have hiσ:i<σ.length:=by rw[I.len];exact(abE.mp hi).1
 have cne:=I.cne
 have tracked:∀ {a:Addr} {h':Heap},(∃ o,s.heap.get? a=some o/\H a=none)->Heap.SameBut a s.heap h'->HOk X.prog X.w H h':=fun {a h'} ha hs b ob e=>by
  obtain⟨_,_,hfree⟩:=ha;refine(I.hok b ob e).stay (λ c w' hc q=>(hs.2 c ?_).trans q) (λ _ q=>q) (λ _ _ q=>q) λ _ _ _ q=>q;rintro rfl;rcases hc with rfl|hc
  ·rw[hfree] at e;cases e
  ·rw[hfree] at hc;cases hc
 rcases hx with hk|hk
 ·refine wpAny_storeName_local hk hn (λ h' hn' hs=>?_) hcls;obtain⟨oL,_,_,hoL,_⟩:=id hn;refine h _ ⟨I.ok,I.os,I.bare,⟨λ b o e n hb hx=>?_,λ b o e n hb hx=>?_,I.base.free,λ b o e hx=>?_,I.base.tups,I.base.frzs,I.base.tbls⟩,⟨_,hn',λ j y v' e1 e2 e3=>?_⟩,λ y c e=>?_,I.free,I.freeC,λ p hp=>?_,tracked ⟨oL,hoL,I.free⟩ hs,by simpa using I.len⟩ ⟨_,hs,.inl rfl⟩
  ·exact(hs.2 b (aal (aaj (aae e) I.ok.above))).trans (I.base.keep b o e n hb hx)
  ·obtain⟨sl,e1⟩:=I.base.slot b o e n hb hx;exact⟨sl,(hs.2 b (aal (aaj (aae e) I.ok.above))).trans e1⟩
  ·obtain⟨o',e1⟩:=I.base.there b o e hx;exact⟨o',(hs.2 b (aal (aaj (aae e) I.ok.above))).trans e1⟩
  ·by_cases hj:j=i
   ·subst hj;rw[hi] at e1;cases e1;rw[abU hiσ] at e2;cases e2;exact⟨u,r,.inl ⟨hk,by simp⟩⟩
   ·rw[abQ (abl hj)] at e2;obtain⟨u',r',q⟩:=hl j y v' e1 e2 e3;refine⟨u',r',?_⟩;rcases q with ⟨k,e⟩|⟨k,c,e,z⟩
    ·refine .inl ⟨k,?_⟩;have:y≠x:=λ e=>hj (iD hN e1 (e ▸ hi));simp[this,e]
    ·exact .inr ⟨k,c,e,z.sameBut hs (cne y c e)⟩
  ·obtain⟨w',z⟩:=I.cell y c e;exact⟨w',z.sameBut hs (cne y c e)⟩
  ·obtain⟨e,n,ne,nf,d⟩:=I.pin p hp;exact⟨(hs.2 p.1 ne).trans e,n,ne,nf,d⟩
 ·have hfn:X.fn x=true:=by
   rcases hf with z|z
   ·exact z
   ·rw[z] at hk;cases hk
  obtain⟨c,hc⟩:=I.ok.has x (.inl hk);obtain⟨w',z⟩:=I.cell x c hc;refine wpAny_storeName_cell I.ok.kind hk hc z (λ h' hc' hs=>?_);obtain⟨oc,hoc,hocd⟩:=id z;refine h { s with heap:=h' } ⟨I.ok,I.os,I.bare,⟨λ b o e n hb hx=>?_,λ b o e n hb hx=>?_,I.base.free,λ b o e hx=>?_,I.base.tups,I.base.frzs,I.base.tbls⟩,⟨m,hn.sameBut hs (abl (cne x c hc)),λ j y v' e1 e2 e3=>?_⟩,λ y c' e=>?_,I.free,I.freeC,λ p hp=>?_,tracked ⟨oc,hoc,I.freeC x c hc⟩ hs,by simpa using I.len⟩ ⟨c,hs,.inr hc⟩
  ·exact(hs.2 b (aal (aaj (aae e) (I.ok.cab x c hfn hc)))).trans (I.base.keep b o e n hb hx)
  ·obtain⟨sl,e1⟩:=I.base.slot b o e n hb hx;exact⟨sl,(hs.2 b (aal (aaj (aae e) (I.ok.cab x c hfn hc)))).trans e1⟩
  ·obtain⟨o',e1⟩:=I.base.there b o e hx;exact⟨o',(hs.2 b (aal (aaj (aae e) (I.ok.cab x c hfn hc)))).trans e1⟩
  ·by_cases hj:j=i
   ·subst hj;rw[hi] at e1;cases e1;rw[abU hiσ] at e2;cases e2;exact⟨u,r,.inr ⟨.inl hk,c,hc,hc'⟩⟩
   ·rw[abQ (abl hj)] at e2;obtain⟨u',r',q⟩:=hl j y v' e1 e2 e3;refine⟨u',r',?_⟩;rcases q with q|⟨k,c',e,z'⟩
    ·exact .inl q
    ·refine .inr ⟨k,c',e,z'.sameBut hs ?_⟩;rintro rfl;exact hj (iD hN e1 (I.ok.inj _ _ _ e hc ▸ hi))
  ·by_cases hcc:c'=c
   ·subst hcc;exact⟨_,hc'⟩
   ·obtain⟨w2,z2⟩:=I.cell y c' e;exact⟨w2,z2.sameBut hs hcc⟩
  ·obtain⟨e,n,ne,nf,d⟩:=I.pin p hp;refine⟨(hs.2 p.1 ?_).trans e,n,ne,nf,d⟩;intro q;rw[q,hoc] at e;have q':oc=p.2:=aah e;exact d w' (by rw[← q'];exact hocd)
theorem iE{M:Model}{Q:Unit->Shared->Prop}(I:Inv X pins σ H s)(hN:X.N.Nodup)(hi:X.N[i]?=some x)(hx:Loc X.env.scope x)(r:RelV v u)
  (h:∀ s',Inv X pins (σ.set i (some v)) H s'->Q () s') (hf:autoParam (X.fn x=true∨X.env.scope.names.lookup x=some .local) L2.aF._auto_1):wpAny M A (storeName X.env x u) Q E s:=
 jY I hN hi hx r (λ s' I' _=>h s' I') hf
theorem Inv.call'(I:Inv X pins σ H s)(ho:s'.os=s.os)(u:Un (frs X.stack) ch H H' s.heap s'.heap)(hok:HOk X.prog X.w H' s'.heap)(hg:AllBare s'.gens)
  (hch:∀ b∈ch,(b∈X.ex∨X.s₀.heap.objs.size<=b)/\b≠X.env.locals/\(∀ x c,X.env.cells.lookup x=some c->c≠b)/\∀ p∈X.pn++pins,p.1≠b):Inv X pins σ H' s':=by
 obtain⟨h',g',d',t',o'⟩:=s';have e:o'=s.os:=ho;subst e;exact I.call (g':=g') (t':=t') (d':=d') u hok hg hch
end
abbrev XK:=Value->Option Addr->Hp->Prop
abbrev St:=List (Option V)
variable{σ:St}
abbrev VK:=V->Hp->Prop
abbrev TE:=St->Hp->VK->Prop
variable{ta tb te tc:TE}
abbrev TT:=St->Hp->(Bool->Hp->Prop)->Prop
abbrev TA:=St->Hp->(List V->Hp->Prop)->Prop
variable{t:TA}
structure Ends where
 nx:St->Hp->Prop
 rt:VK
 bk:St->Hp->Prop:=λ _ _=>False
 ct:St->Hp->Prop:=λ _ _=>False
abbrev TS:=Ends->St->Hp->Prop
def EP(X:Cx)(pins:List (Addr×Obj))(σ:St)(Q:VK)(u:Value)(s':Shared):Prop:=∃ v H',Inv X pins σ H' s'/\RelV v u/\Q v H'
def TP(X:Cx)(pins:List (Addr×Obj))(σ:St)(Q:Bool->Hp->Prop)(b:Bool)(s':Shared):Prop:=∃ H',Inv X pins σ H' s'/\Q b H'
def AP(X:Cx)(pins:List (Addr×Obj))(σ:St)(Q:List V->Hp->Prop)(us:List Value)(s':Shared):Prop:=∃ vs H',Inv X pins σ H' s'/\Vals vs us/\Q vs H'
def SP(X:Cx)(pins:List (Addr×Obj))(D:Ends)(f:Flow)(s':Shared):Prop:=
 match f with
 |.next=>∃ σ' H',Inv X pins σ' H' s'/\D.nx σ' H'
 |.brk=>∃ σ' H',Inv X pins σ' H' s'/\D.bk σ' H'
 |.cont=>∃ σ' H',Inv X pins σ' H' s'/\D.ct σ' H'
 |.ret u=>∃ v σ' H',Inv X pins σ' H' s'/\RelV v u/\D.rt v H'
def PE(X:Cx)(e:Expr)(t:TE):Prop:=
 ∀ (pins:List (Addr×Obj)) (s:Shared) (σ:St) (H:Hp) (Q:VK),Inv X pins σ H s->t σ H Q->wpAny (model X.prog X.w) X.A (eval e X.env) (EP X pins σ Q) X.xe s
def PT(X:Cx)(e:Expr)(t:TT):Prop:=
 ∀ (pins:List (Addr×Obj)) (s:Shared) (σ:St) (H:Hp) (Q:Bool->Hp->Prop),Inv X pins σ H s->t σ H Q->wpAny (model X.prog X.w) X.A (isTrue e X.env (eval e X.env)) (TP X pins σ Q) X.xe s
def PW(X:Cx)(e:Expr)(t:TT):Prop:=
 ∀ (whole:Sem Value) (pins:List (Addr×Obj)) (s:Shared) (σ:St) (H:Hp) (Q:Bool->Hp->Prop),Inv X pins σ H s->t σ H Q->wpAny (model X.prog X.w) X.A (isTrue e X.env whole) (TP X pins σ Q) X.xe s
theorem PW.pt{t:TT}(h:PW X e t):PT X e t:=h _
def PA(X:Cx)(es:List Expr)(t:TA):Prop:=
 ∀ (pos:Pos) (pins:List (Addr×Obj)) (s:Shared) (σ:St) (H:Hp) (Q:List V->Hp->Prop),Inv X pins σ H s->t σ H Q->wpAny (model X.prog X.w) X.A (spliced (backTo pos (starEach es X.env))) (AP X pins σ Q) X.xe s
def PS(X:Cx)(st:Stmt)(t:TS):Prop:=
 ∀ (pins:List (Addr×Obj)) (s:Shared) (σ:St) (H:Hp) (D:Ends),Inv X pins σ H s->t D σ H->wpAny (model X.prog X.w) X.A (exec st X.env) (SP X pins D) X.xe s
def PSs(X:Cx)(st:List Stmt)(t:TS):Prop:=
 ∀ (pins:List (Addr×Obj)) (s:Shared) (σ:St) (H:Hp) (D:Ends),Inv X pins σ H s->t D σ H->wpAny (model X.prog X.w) X.A (execs st X.env) (SP X pins D) X.xe s
theorem thn{t:Sem α}{Q Q':α->Shared->Prop}{M:Model}(h:wpAny M A t Q E s)(hQ:∀ a s,Q a s->Q' a s):wpAny M A t Q' E s:=aa0 h hQ λ _ _ x=>x
section
def cV(i:Nat):TE:=λ σ H Q=>∃ v,σ[i]?=some (some v)/\Q v H
def tC(v:V):TE:=λ _ H Q=>Q v H
theorem oY(hN:X.N[i]?=some x)(hv:Vis X.env.scope x)(hd:autoParam ((x==("__debug__" : Str))=false) L2.aD._auto_1)(hcd:autoParam ((x==("__classdict__" : Str))=false) L2.aD._auto_1):PE X (.Name x pos) (cV i):=by
 intro pins s σ H Q I h;obtain⟨v,e,h⟩:=h;obtain⟨m,hn,hl⟩:=I.loc;obtain⟨u,r,l⟩:=hl i x v hN e hv;have fin:EP X pins σ Q u s:=⟨v,H,I,r,h⟩;rcases l with ⟨hk,hm⟩|⟨hk,c,hc,hcell⟩
 ·exact wpAny_Name (wpAny_loadName_local I.ok.kind hk hn hm fin) hd
 ·rcases hk with hk|hk
  ·exact wpAny_Name (wpAny_loadName_cell I.ok.kind hk hc hcell fin) hd
  ·exact wpAny_Name (wpAny_loadName_free I.ok.kind hk hc hcell fin hcd) hd
theorem tY{i j pos}:PE X (.Constant (.int i) j pos) (tC (.int i)):=λ _ _ _ H _ I h=>wpAny_Constant_int ⟨.int i,H,I.tok _,⟨_,rfl⟩,h⟩
theorem xF{b j pos}:PE X (.Constant (.bool b) j pos) (tC (.bl b)):=λ _ _ _ H _ I h=>Constant_bool ⟨.bl b,H,I,rfl,h⟩
theorem tZ{j pos}:PE X (.Constant .none j pos) (tC .non):=λ _ _ _ H _ I h=>Constant_none ⟨.non,H,I,rfl,h⟩
theorem t4{x j pos}:PE X (.Constant (.str x) j pos) (tC (.str x)):=λ _ _ _ H _ I h=>Calls.Constant_str ⟨.str x,H,I.tok _,⟨_,rfl⟩,h⟩
def Gl(X:Cx)(x:Str):Prop:=X.env.kindOf x=some .globalImplicit
theorem pY(I:Inv X pins σ H s)(hg:Gl X x)(hm:X.mg x=some u)(h:Q u s)
  (hd:autoParam ((x==("__debug__" : Str))=false) L2.aD._auto_1):wpAny (model X.prog X.w) X.A (eval (.Name x pos) X.env) Q E s:=
 Calls.Name_function_global I.ok.kind hg (Calls.loadGlobal_global (by rw[I.ok.glob];exact I.mod.glob.keeps I.bk) hm h) hd
theorem fO(I:Inv X pins σ H s)(hg:Gl X x)(hm:X.mg x=none)(hv:bootBuiltins x=some u)(h:Q u s)
  (hn:autoParam (x ≠ "__name__") L2.aD._auto_1) (hd:autoParam ((x==("__debug__" : Str))=false) L2.aD._auto_1):wpAny (model X.prog X.w) X.A (eval (.Name x pos) X.env) Q E s:=by
 obtain⟨mb,h1,h2⟩:=I.mod.blt;exact Calls.Name_function_global I.ok.kind hg (Calls.loadGlobal_builtin (by rw[I.ok.glob];exact I.mod.glob.keeps I.bk) hm (by rw[I.ok.blt];exact h1.keeps I.bk) ((h2 x hn).trans hv) h) hd
theorem pZ(hg:Gl X x)(hm:X.mg x=none)(hv:bootBuiltins x=some u)(r:RelV v u)(hn:autoParam (x ≠ "__name__") L2.aD._auto_1)(hd:autoParam ((x==("__debug__" : Str))=false) L2.aD._auto_1):PE X (.Name x pos) (tC v):=
 λ _ _ _ H _ I h=>fO I hg hm hv ⟨v,H,I,r,h⟩ hn hd
variable {a b:Expr}  
def tB(t:TE):TT:=λ σ H Q=>t σ H λ x H1=>∃ c,x=.bl c/\Q c H1
theorem t5{t:TE}(h:PE X e t)(he:autoParam (∀ whole,isTrue e X.env whole=(do let v ← whole;standAt e.pos;holding [v] (truthy v))) L2.aI._auto_1):PT X e (tB t):=by
 intro pins s σ H Q I hw;refine isTrue_plain (thn (h pins s σ H _ I hw) λ v s1 ⟨x,H1,I1,r1,q1⟩=>?_) (he _);obtain⟨d,rfl,q⟩:=q1;cases r1;exact aa2 ⟨H1,I1,q⟩
variable {tA tB':TT} {rest:List Expr}
def xG(t u:TT):TT:=λ σ H Q=>t σ H λ c H1=>if c=true then u σ H1 Q else Q false H1
def tOr(t u:TT):TT:=λ σ H Q=>t σ H λ c H1=>if c=true then Q true H1 else u σ H1 Q
def xH(t:TT):TT:=λ σ H Q=>t σ H λ c H1=>Q (!c) H1
theorem p0(ha:PT X a tA):PW X (.BoolOp .And [a] pos) tA:=by
 intro wh pins s σ H Q I h;refine isTrue_and (thn (ha pins s σ H Q I h) λ c s1 e=>?_)
 cases c with
 |true=>exact isTrue_and_nil e
 |false=>exact e
theorem t6(ha:PT X a tA):PW X (.BoolOp .Or [a] pos) tA:=by
 intro wh pins s σ H Q I h;refine isTrue_or (thn (ha pins s σ H Q I h) λ c s1 e=>?_)
 cases c with
 |false=>exact isTrue_or_nil e
 |true=>exact e
theorem t7(ha:PT X a tA)(hb:PW X (.BoolOp .And (b::rest) pos) tB'):PW X (.BoolOp .And (a::b::rest) pos) (xG tA tB'):=by
 intro wh pins s σ H Q I h;refine isTrue_and (thn (ha pins s σ H _ I h) λ c s1 ⟨H1,I1,q1⟩=>?_)
 cases c with
 |true=>exact hb wh pins s1 σ H1 Q I1 q1
 |false=>exact⟨H1,I1,q1⟩
theorem xI(ha:PT X a tA)(hb:PW X (.BoolOp .Or (b::rest) pos) tB'):PW X (.BoolOp .Or (a::b::rest) pos) (tOr tA tB'):=by
 intro wh pins s σ H Q I h;refine isTrue_or (thn (ha pins s σ H _ I h) λ c s1 ⟨H1,I1,q1⟩=>?_)
 cases c with
 |true=>exact⟨H1,I1,q1⟩
 |false=>exact hb wh pins s1 σ H1 Q I1 q1
theorem t8(ha:PT X a tA):PT X (.UnaryOp .Not a pos) (xH tA):=by
 intro pins s σ H Q I h;exact isTrue_not (ha pins s σ H (λ c H1=>Q (!c) H1) I h)
def p5(ta tb:TE):TE:=λ σ H Q=>ta σ H λ x H1=>∃ c,x=.bl c/\if c=true then tb σ H1 Q else Q (.bl false) H1
def p6(ta:TE):TE:=λ σ H Q=>ta σ H λ x H1=>∃ c,x=.bl c/\Q (.bl (!c)) H1
theorem t9{op}{t:TE}(h:PE X a t):PE X (.BoolOp op [a] pos) t:=λ pins s σ H Q I hw=>BoolOp_one (h pins s σ H Q I hw)
theorem ua(ha:PE X a ta)(hb:PE X (.BoolOp .And (b::rest) pos) tb):PE X (.BoolOp .And (a::b::rest) pos) (p5 ta tb):=by
 intro pins s σ H Q I h;refine BoolOp_and (thn (ha pins s σ H _ I h) λ v s1 ⟨x,H1,I1,r1,q1⟩=>?_);obtain⟨c,rfl,q1⟩:=q1;cases r1;refine aa2 ?_
 cases c with
 |true=>exact hb pins s1 σ H1 Q I1 q1
 |false=>exact⟨.bl false,H1,I1,rfl,q1⟩
theorem ub(ha:PE X a ta):PE X (.UnaryOp .Not a pos) (p6 ta):=by
 intro pins s σ H Q I h;refine UnaryOp_ (thn (ha pins s σ H _ I h) λ v s1 ⟨x,H1,I1,r1,q1⟩=>?_);obtain⟨c,rfl,q1⟩:=q1;cases r1;exact not_of (aa2 ⟨.bl (!c),H1,I1,rfl,q1⟩)
end
def SqL(K:Frag)(H:Hp)(a:Addr)(xs:List V):Prop:=
 Rd H a (.lst xs) ∨
  ∃ (o:Obj) (its:Array Value) (n:Nat),K.lookup a=some o/\o.cls=.type "list" /\ o.dict=none/\o.data=.seq its n/\its.size<=sizeLine/\Vals xs its.toList
def SqT(K:Frag)(H:Hp)(a:Addr)(xs:List V):Prop:=
 Rd H a (.tup xs) ∨
  ∃ (o:Obj) (its:Array Value) (n:Nat),K.lookup a=some o/\o.cls=.type "tuple" /\ o.data=.seq its n/\its.size<=sizeLine/\Vals xs its.toList
def absV:Value->Option V
 |.none=>some .non
 |.bool b=>some (.bl b)
 |.int i _=>some (.int i)
 |.str x _=>some (.str x)
 |.bytes b _=>some (.byt b)
 |.float b _=>some (.flt b)
 |.ref a=>some (.ref a)
 |.type n=>some (.ty n)
 |_=>none
theorem RelV.abs{x:V}(r:RelV x u):absV u=some x:=by
 cases x with
 |non=>cases r;rfl
 |bl _=>cases r;rfl
 |int _=>obtain⟨t,rfl⟩:=r;rfl
 |str _=>obtain⟨t,rfl⟩:=r;rfl
 |byt _=>obtain⟨t,rfl⟩:=r;rfl
 |flt _=>obtain⟨t,rfl⟩:=r;rfl
 |ref _=>cases r;rfl
 |ty _=>cases r;rfl
theorem RelV.inj{x y:V}{u:Value}(r:RelV x u)(q:RelV y u):x=y:=aah (r.abs.symm.trans q.abs)
theorem Vals.inj{xs ys:List V}{us:List Value}(h:Vals xs us)(h':Vals ys us):xs=ys:=by
 induction h generalizing ys with
 |nil=>cases h';rfl
 |cons r t ih=>cases h' with|cons r' t'=>rw[r.inj r',ih t']
section
variable       {ys:List V}
theorem SqL.of{K:Frag}(h:H a=some (.lst xs)):SqL K H a xs:=.inl (.inl h)
theorem SqT.of{K:Frag}(h:H a=some (.tup xs)):SqT K H a xs:=.inl (.inl h)
theorem Inv.list(I:Inv X pins σ H s)(h:SqL X.K H a xs):∃ its:List Value,Vals xs its/\PlainL s.heap a its.toArray/\xs.length<=sizeLine:=by
 rcases h with h|⟨o,its,n,hk,hc,hd,hs,hz,r⟩
 ·obtain⟨z,its,n,r,e⟩:=h.ok I.hok;exact⟨its,r,⟨_,n,e,rfl,rfl,rfl⟩,z⟩
 ·refine⟨its.toList,r,⟨o,n,I.kIn a o hk,hc,hd,(by exists hs)⟩,?_⟩;have e:=r.length;simp only[Array.length_toList] at e;nofun
theorem Inv.tuple(I:Inv X pins σ H s)(h:SqT X.K H a xs):∃ its:List Value,Vals xs its/\IsTup s.heap a its.toArray/\xs.length<=sizeLine:=by
 rcases h with h|⟨o,its,n,hk,hc,hs,hz,r⟩
 ·obtain⟨z,its,r,p⟩:=h.ok I.hok;exact⟨its,r,p,z⟩
 ·refine⟨its.toList,r,⟨o,I.kIn a o hk,hc,n,(by exists hs)⟩,?_⟩;have e:=r.length;simp only[Array.length_toList] at e;nofun
theorem Inv.list_inj(I:Inv X pins σ H s)(h:SqL X.K H a xs)(h':SqL X.K H a ys):xs=ys:=by
 obtain⟨its,r,⟨o,n,e,_,_,d⟩,_⟩:=I.list h;obtain⟨its',r',⟨o',n',e',_,_,d'⟩,_⟩:=I.list h';rw[e] at e';cases e';rw[d] at d';injection d' with d1 _
 have:its=its':=by simpa using congrArg Array.toList d1
 subst this;exact r.inj r'
theorem Inv.tuple_inj(I:Inv X pins σ H s)(h:SqT X.K H a xs)(h':SqT X.K H a ys):xs=ys:=by
 obtain⟨its,r,⟨o,e,_,n,d⟩,_⟩:=I.tuple h;obtain⟨its',r',⟨o',e',_,n',d'⟩,_⟩:=I.tuple h';rw[e] at e';cases e';rw[d] at d';injection d' with d1 _
 have:its=its':=by simpa using congrArg Array.toList d1
 subst this;exact r.inj r'
end
abbrev Cx.wish(X:Cx)(E:Value->Shared->Prop):Cx:={ X with xe:=E }
abbrev Cx.nox(X:Cx):Cx:=X.wish λ _ _=>False
theorem Cx.Ok.wish(ok:X.Ok)(E:Value->Shared->Prop):(X.wish E).Ok:=
 ⟨ok.mod,ok.kind,ok.glob,ok.blt,ok.above,ok.inj,ok.has,ok.cab,ok.hd,ok.frames,ok.stk,ok.exf,ok.bs,ok.bsz,ok.noex,ok.exfs,ok.funs,ok.frf,ok.lam⟩
theorem Cx.Ok.unwish(ok:(X.wish E).Ok):X.Ok:=
 ⟨ok.mod,ok.kind,ok.glob,ok.blt,ok.above,ok.inj,ok.has,ok.cab,ok.hd,ok.frames,ok.stk,ok.exf,ok.bs,ok.bsz,ok.noex,ok.exfs,ok.funs,ok.frf,ok.lam⟩
theorem Inv.wish(I:Inv X pins σ H s)(E:Value->Shared->Prop):Inv (X.wish E) pins σ H s:=⟨I.ok.wish E,I.os,I.bare,I.base,I.loc,I.cell,I.free,I.freeC,I.pin,I.hok,I.len⟩
theorem Inv.unwish(I:Inv (X.wish E) pins σ H s):Inv X pins σ H s:=⟨I.ok.unwish,I.os,I.bare,I.base,I.loc,I.cell,I.free,I.freeC,I.pin,I.hok,I.len⟩
theorem SP.unwish{D:Ends}{f:Flow}(h:SP (X.wish E) pins D f s'):SP X pins D f s':=by
 cases f with
 |next=>obtain⟨σ',H',I,q⟩:=h;exact⟨σ',H',I.unwish,q⟩
 |brk=>obtain⟨σ',H',I,q⟩:=h;exact⟨σ',H',I.unwish,q⟩
 |cont=>obtain⟨σ',H',I,q⟩:=h;exact⟨σ',H',I.unwish,q⟩
 |ret u=>obtain⟨v,σ',H',I,r,q⟩:=h;exact⟨v,σ',H',I.unwish,r,q⟩
theorem PSs.nox{st:List Stmt}{t:TS}(h:PSs X.nox st t):PSs X st t:=λ pins s σ H D I hw=>
 aa0 (h pins s σ H D (I.wish _) hw) (λ _ _ q=>q.unwish) λ _ _ z=>False.elim z
section
variable  {st:Stmt} {rest:List Stmt} {t u:TS}   
def p7:TS:=λ D σ H=>D.nx σ H
def xJ(t u:TS):TS:=λ D σ H=>t { D with nx:=u D } σ H
theorem p8:PSs X [] p7:=λ _ _ σ H _ I h=>wpAny_execs_nil ⟨σ,H,I,h⟩
theorem mQ(h1:PS X st t)(h2:PSs X rest u):PSs X (st::rest) (xJ t u):=by
 intro pins s σ H D I h;refine wpAny_execs_cons (thn (h1 pins s σ H { D with nx:=u D } I h) λ f s1 q=>?_)
 cases f with
 | next=>
  obtain⟨σ',H',I',q⟩:=q;exact h2 pins s1 σ' H' D I' q
 |ret v=>exact q
 |brk=>exact q
 |cont=>exact q
theorem p9(h1:PS X st t):PSs X [st] t:=by
 intro pins s σ H D I h;refine wpAny_execs_cons (thn (h1 pins s σ H D I h) λ f s1 q=>?_)
 cases f with
 |next=>exact wpAny_execs_nil q
 |ret v=>exact q
 |brk=>exact q
 |cont=>exact q
theorem Inv.quiet(I:Inv X pins σ H s):interactive X.env=false:=by simp[interactive,I.ok.kind]
def jZ(te:TE):TS:=λ D σ H=>te σ H λ _ H1=>D.nx σ H1
theorem qa(he:PE X e te)(hs:autoParam (swapsWith e none pos.line X.env=pure false) L2.aR._auto_1):PS X (.Expr e pos) (jZ te):=by
 intro pins s σ H D I h;exact wpAny_Expr_any (thn (he pins s σ H _ I h) λ v s1 ⟨x,H1,I1,r1,q1⟩=>⟨σ,H1,I1,q1⟩) I.quiet hs
def xK(te:TE):TS:=λ D σ H=>te σ H D.rt
theorem uc(he:PE X e te):PS X (.Return (some e) pos) (xK te):=by
 intro pins s σ H D I h;exact wpAny_Return_some (thn (he pins s σ H _ I h) λ v s1 ⟨x,H1,I1,r1,q1⟩=>⟨x,σ,H1,I1,r1,q1⟩)
def xL(c:TT)(t u:TS):TS:=λ D σ H=>c σ H λ b H1=>if b=true then t D σ H1 else u D σ H1
theorem xM{a b:List Stmt}{tc:TT}(hc:PT X c tc)(ha:PSs X a t)(hb:PSs X b u):PS X (.If c a b pos) (xL tc t u):=by
 intro pins s σ H D I h;refine wpAny_If (thn (hc pins s σ H _ I h) λ d s1 ⟨H1,I1,q1⟩=>?_)
 cases d with
 |true=>exact ha pins s1 σ H1 D I1 q1
 |false=>exact hb pins s1 σ H1 D I1 q1
end
abbrev TG:=V->St->Hp->(St->Hp->Prop)->Prop
abbrev TGs:=List V->St->Hp->(St->Hp->Prop)->Prop
def PG(X:Cx)(target:Expr)(t:TG):Prop:=
 ∀ (pins:List (Addr×Obj)) (s:Shared) (σ:St) (H:Hp) (v:V) (u:Value) (Q:St->Hp->Prop),Inv X pins σ H s->RelV v u->t v σ H Q ->
  wpAny (model X.prog X.w) X.A (assign target X.env u) (λ _ s'=>∃ σ' H',Inv X pins σ' H' s'/\Q σ' H') X.xe s
def PGs(X:Cx)(ts:List Expr)(t:TGs):Prop:=
 ∀ (pins:List (Addr×Obj)) (s:Shared) (σ:St) (H:Hp) (vs:List V) (us:List Value) (Q:St->Hp->Prop),Inv X pins σ H s->Vals vs us->t vs σ H Q ->
  wpAny (model X.prog X.w) X.A (assignInOrder ((assignEach ts X.env).map (·.2)) us) (λ _ s'=>∃ σ' H',Inv X pins σ' H' s'/\Q σ' H') X.xe s
abbrev xN:=V->V->V->Hp->(Hp->Prop)->Prop
def y2(X:Cx)(t:xN):Prop:=
 ∀ (pins:List (Addr×Obj)) (s:Shared) (σ:St) (H:Hp) (o i v:V) (ov iv u:Value) (Q:Hp->Prop),Inv X pins σ H s->RelV o ov->RelV i iv->RelV v u->t o i v H Q ->
  wpAny (model X.prog X.w) X.A (setItem ov iv u) (λ _ s'=>∃ H',Inv X pins σ H' s'/\Q H') X.xe s
def dN(i:Nat):TG:=λ v σ H Q=>Q (σ.set i (some v)) H
theorem qb(hN:X.N.Nodup)(hi:X.N[i]?=some x)(hx:Loc X.env.scope x)(hf:autoParam (X.fn x=true∨X.env.scope.names.lookup x=some .local) L2.aF._auto_1):PG X (.Name x pos) (dN i):=by
 intro pins s σ H v u Q I r h;exact wpAny_assign_Name (iE I hN hi hx r (λ s' I'=>⟨_,H,I',h⟩) hf)
def xO:TGs:=λ vs σ H Q=>vs=[]/\Q σ H
def qc(t:TG)(u:TGs):TGs:=λ vs σ H Q=>∃ v r,vs=v::r/\t v σ H λ σ' H'=>u r σ' H' Q
theorem qd:PGs X [] xO:=by
 intro pins s σ H vs us Q I r h;obtain⟨e,h⟩:=h;subst e;cases r;exact assignInOrder_nil ⟨σ,H,I,h⟩
theorem mR{t:TG}{u:TGs}(h1:PG X e t)(h2:PGs X es u)
  (hs:autoParam ((assignEach (e::es) X.env).map (·.2)=assign e X.env::(assignEach es X.env).map (·.2)) L2.aR._auto_1):PGs X (e::es) (qc t u):=by
 intro pins s σ H vs us Q I r h;obtain⟨v,vr,e1,h⟩:=h;subst e1
 cases r with
 | cons r rr=>
  rw[hs];refine assignInOrder_cons (thn (h1 pins s σ H _ _ _ I r h) λ _ s1 ⟨σ1,H1,I1,q1⟩=>?_);exact h2 pins s1 σ1 H1 _ _ Q I1 rr q1
def xP(to ti:TE)(t:xN):TG:=λ v σ H Q=>to σ H λ o H1=>ti σ H1 λ i H2=>t o i v H2 λ H3=>Q σ H3
theorem ud{o i:Expr}{to ti:TE}{t:xN}(ho:PE X o to)(hi:PE X i ti)(hs:y2 X t)
  (ha:autoParam (∀ v,assign (.Subscript o i pos) X.env v=(do
   let ov ← holding [v] (eval o X.env)
   let iv ← holding [v,ov] (eval i X.env)
   standAt pos
   holding [v,ov,iv] (setItem ov iv v)
   release [v,ov,iv] [])) L2.aI._auto_1):PG X (.Subscript o i pos) (xP to ti t):=by
 intro pins s σ H v u Q I r h;rw[ha];refine aaa (aaq (thn (ho pins s σ H _ I h) λ ov s1 ⟨x,H1,I1,r1,q1⟩=>?_));refine aaa (aaq (thn (hi pins s1 σ H1 _ I1 q1) λ iv s2 ⟨y,H2,I2,r2,q2⟩=>?_));refine aaa (wpAny_standAt (aaa (aaq (thn (hs pins s2 σ H2 x y v ov iv u _ I2 r1 r2 r q2) λ _ s3 ⟨H3,I3,q3⟩=>?_))));exact wpAny_release ⟨σ,H3,I3,q3⟩
def qe(te:TE)(g:TG):TS:=λ D σ H=>te σ H λ x H1=>g x σ H1 D.nx
theorem ue{g:TG}(he:PE X e te)(hg:PG X tg g)(hs:autoParam (swapsWithSole [tg] e pos.line X.env=pure false) L2.aR._auto_1)(hw:autoParam (swappedStores [tg] e X.env=pure none) L2.aR._auto_1)
  (h1:autoParam ((assignEach [tg] X.env).map (·.2)=[assign tg X.env]) L2.aR._auto_1):PS X (.Assign [tg] e pos) (qe te g):=by
 intro pins s σ H D I h;refine wpAny_Assign_stores (thn (he pins s σ H _ I h) λ v s1 ⟨x,H1,I1,r1,q1⟩=>?_) hs hw;rw[h1];exact thn (hg pins s1 σ H1 x v _ I1 r1 q1) λ _ s2 q=>q
theorem uf(hN:X.N.Nodup)(hi:X.N[i]?=some x)(hx:Loc X.env.scope x)(he:PE X e te)(hs:autoParam (swapsWith e (some (.Name x pos')) pos.line X.env=pure false) L2.aR._auto_1)(hf:autoParam (X.fn x=true∨X.env.scope.names.lookup x=some .local) L2.aF._auto_1) :
  PS X (.Assign [.Name x pos'] e pos) (qe te (dN i)):=by
 intro pins s σ H D I h;refine wpAny_Assign_Name (thn (he pins s σ H _ I h) λ v s1 ⟨y,H1,I1,r1,q1⟩=>?_) hs;exact iE I1 hN hi hx r1 (λ s2 I2=>⟨_,H1,I2,q1⟩) hf
structure It where
 go:Nat->Hp->Prop
 yld:Nat->Hp->V->Hp->Prop
 stop:Nat->Hp->Prop
def mL(X:Cx)(pins:List (Addr×Obj))(H:Hp)(b:Addr):Prop:=
 H b=none/\b≠X.env.locals/\b∉X.fs/\(b∈X.ex∨X.s₀.heap.objs.size<=b)/\(∀ x c,X.env.cells.lookup x=some c->c≠b)/\∀ p∈X.pn++pins,p.1≠b
theorem Inv.fpOk(I:Inv X pins σ H s)(hb:s.heap.objs.size<=b)(hn:H' b=none):mL X pins H' b:=by
 refine⟨hn,acf (aaj I.lt hb),I.nofs hb,.inr (aat I.sz hb),λ x c e z=>?_,λ p hp z=>?_⟩
 ·obtain⟨v,q⟩:=I.cell x c e;exact absurd (aaj q.lt (by rw[z];exact hb)) (aaD _)
 ·exact absurd (aaj (aae (I.pin p hp).1) (by rw[z];exact hb)) (aaD _)
structure Turn(P:Program)(w:World)(K:Frag)(tg:Expr)(J:It)(fp:List Addr)(it:Addr)(tn:Nat->Heap->Prop):Prop where
 mem:it∈fp
 obj:∀ i h,tn i h->∀ b∈fp,∃ o,h.get? b=some o/\∀ v,o.data≠.cell v
 keep:∀ i h h',tn i h->(∀ b∈fp,∀ o,h.get? b=some o->h'.get? b=some o)->tn i h'
 item:∀ (X:Cx),X.prog=P->X.w=w->X.K=K->X.calm=true->∀ (i:Nat) (pins:List (Addr×Obj)) (s:Shared) (σ:St) (H:Hp) (E:Value->Shared->Prop),Inv X pins σ H s->(∀ b∈fp,mL X pins H b)->tn i s.heap->J.go i H ->
  wpAny (model P w) X.A (pyNext (.ref it)) (λ r s1=>∃ u,r=some u /\
   wpAny (model P w) X.A (letOwnedTupleGo tg (.ref it) u) (λ _ s2=>∃ x H',Inv X pins σ H' s2/\RelV x u/\J.yld i H x H'/\tn (i+1) s2.heap/\∀ b∈fp,H' b=none) E s1) E s
 done:∀ (X:Cx),X.prog=P->X.w=w->X.K=K->X.calm=true->∀ (i:Nat) (pins:List (Addr×Obj)) (s:Shared) (σ:St) (H:Hp) (E:Value->Shared->Prop),Inv X pins σ H s->(∀ b∈fp,mL X pins H b)->tn i s.heap->J.stop i H ->
  wpAny (model P w) X.A (pyNext (.ref it)) (λ r s1=>r=none/\Inv X pins σ H s1) E s
 self:∀ (A:Around) (i:Nat) (s:Shared) (Q:Value->Shared->Prop) (E:Value->Shared->Prop),tn i s.heap->Q (.ref it) s->wpAny (model P w) A (pyIter (.ref it)) Q E s
abbrev TI:=St->Hp->(It->Hp->Prop)->Prop
def PIE(X:Cx)(pins:List (Addr×Obj))(σ:St)(tg:Expr)(R:It->Hp->Prop)(itv:Value)(s2:Shared):Prop:=
 ∃ (it:Addr) (fp:List Addr) (tn:Nat->Heap->Prop) (J:It) (H':Hp),itv=.ref it/\Inv X pins σ H' s2/\Turn X.prog X.w X.K tg J fp it tn/\tn 0 s2.heap/\(∀ b∈fp,mL X pins H' b)/\R J H'
def PI(X:Cx)(tg iter:Expr)(wi:TI):Prop:=
 ∀ (pins:List (Addr×Obj)) (s:Shared) (σ:St) (H:Hp) (R:It->Hp->Prop),Inv X pins σ H s->wi σ H R ->
  wpAny (model X.prog X.w) X.A (eval iter X.env) (λ v s1=>wpAny (model X.prog X.w) X.A (pyIter v) (PIE X pins σ tg R) X.xe s1) X.xe s
theorem ug{M:Model}{o:Obj}{n:String}{vs:Array Value}{Q:Unit->Shared->Prop}(ho:s.heap.get? it=some o)(hc:o.cls=.type n)(hd:o.data=.fields vs)
    (hn:["enumerate", "zip", "dict_itemiterator", "dict_reverseitemiterator", "odict_iterator", "itertools.zip_longest", "itertools.pairwise"].contains n=false) (hQ:Q () s):wpAny M A (letOwnedTupleGo tg (.ref it) u) Q E s:=by
  unfold letOwnedTupleGo
  cases tg <;> first
    |exact aab hQ
    | (cases u <;> first
        |exact aab hQ
        | (refine aaa (wpAny_load ho ?_)
           rw[hc,hd];show wpAny M A (if (["enumerate", "zip", "dict_itemiterator", "dict_reverseitemiterator", "odict_iterator", "itertools.zip_longest", "itertools.pairwise"].contains n&&vs[0]?==some (rawInt _))=true then _ else _) Q E s;rw[if_neg (by intro h;rw[hn,Bool.false_and] at h;cases h)];exact aab hQ))
def Itl(K:Frag)(a:Addr):It:=
 ⟨λ i H=>∃ xs x,SqL K H a xs/\xs[i]?=some x,λ i H x H'=>H'=H/\∀ xs,SqL K H a xs->xs[i]?=some x,λ i H=>∃ xs,SqL K H a xs/\xs.length<=i⟩
def Itr(lo:Int)(n:Nat):It:=⟨λ i _=>i<n,λ i H x H'=>H'=H/\x=.int (lo+i),λ i _=>n<=i⟩
theorem j1{K:Frag}(a it:Addr):Turn P w K tg (Itl K a) [it] it (λ i h=>h.IsListIter it a i) where
 mem:=by simp
 obj:=λ i h st b hb=>by
  have e:b=it:=(by exists hb);subst e;obtain⟨o,e,c,d⟩:=st;exact⟨o,e,λ v z=>by rw[d] at z;cases z⟩
 keep:=λ i h h' st k=>st.at λ o e=>k it (by simp) o e
 item:=by
  intro X hP hw hK hc i pins s σ H E I hf st hg;subst hP hw hK;obtain⟨xs,x,hq,hx⟩:=hg;obtain⟨its,rv,p,hz⟩:=I.list hq;obtain⟨u,hu,ru⟩:=rv.get hx;obtain⟨f0,f1,f2,f3,f4,f5⟩:=hf it (by simp);refine wpAny_pyNext_list_item st p.isList (x:=u) (by exists hu) λ h' st' sb=>?_;have I1:Inv X pins σ H { s with heap:=h' }:=I.turned (t':=s.toks) (λ b o hb e=>(sb.2 b hb).trans e) f0 f1 f3 f4 f5;obtain⟨o,e,c,d⟩:=id st';exact⟨u,rfl,ug (s:={ s with heap:=h' }) e c d (by decide) ⟨x,H,I1,ru,⟨rfl,λ ys hy=>by rw[I.list_inj hy hq];exact hx⟩,st',λ b hb=>(hf b hb).1⟩⟩
 done:=by
  intro X hP hw hK hc i pins s σ H E I hf st hg;subst hP hw hK;obtain⟨xs,hq,hx⟩:=hg;obtain⟨its,rv,p,hz⟩:=I.list hq;obtain⟨f0,f1,f2,f3,f4,f5⟩:=hf it (by simp);have hl:=rv.length;exact wpAny_pyNext_list_end (I.ok.hd hc) st p.isList (by simp;nofun) λ h' eb=>⟨rfl,I.turned (t':=s.toks) (λ b o hb e=>eb b o hb e) f0 f1 f3 f4 f5⟩
 self:=λ _ _ _ _ _ st h=>wpAny_pyIter_listiter st h
theorem jj{K:Frag}(it:Addr)(lo:Int)(n:Nat):Turn P w K tg (Itr lo n) [it] it (λ i h=>IsRangeIter h it (lo+(i:Nat)*1) ((n:Int) - (i:Nat)) 1) where
 mem:=by simp
 obj:=λ i h st b hb=>by
  have e:b=it:=(by exists hb);subst e
  exact⟨_,st,λ v z=>by
   have z':Data.fields _=Data.cell v:=z;cases z'⟩
 keep:=λ i h h' st k=>k it (by simp) _ st
 item:=by
  intro X hP hw hK hc i pins s σ H E I hf st hg;subst hP hw hK;obtain⟨f0,f1,f2,f3,f4,f5⟩:=hf it (by simp);have W:=Walks.range (prog:=X.prog) (w:=X.w) (I.ok.hd hc) it lo 1 n;refine W.item i s _ _ hg st λ v h' tk hv st' kk=>?_;obtain⟨t,rfl⟩:=hv;have I1:Inv X pins σ H { s with heap:=h',toks:=tk }:=I.turned (λ b o hb e=>kk b o (by exists hb) e) f0 f1 f3 f4 f5;refine⟨_,rfl,ug (s:={ s with heap:=h',toks:=tk }) (n := "range_iterator") st' rfl rfl (by decide) ⟨.int (lo+i),H,I1,⟨t,?_⟩,⟨rfl,rfl⟩,st',λ b hb=>(hf b hb).1⟩⟩;rw[Int.mul_one]
 done:=by
  intro X hP hw hK hc i pins s σ H E I hf st hg;subst hP hw hK;obtain⟨f0,f1,f2,f3,f4,f5⟩:=hf it (by simp);exact wpAny_pyNext_range_end (I.ok.hd hc) st (by have:n<=i:=hg;nofun) λ h' eb=>⟨rfl,I.turned (t':=s.toks) (λ b o hb e=>eb b o hb e) f0 f1 f3 f4 f5⟩
 self:=λ _ _ _ _ _ st h=>wpAny_pyIter_rangeiter st h
def jl(K:Frag)(tl:TE):TI:=λ σ H R=>tl σ H λ x H1=>∃ a,x=.ref a/\(∃ xs,SqL K H1 a xs)/\R (Itl K a) H1
theorem qf{l:Expr}{tl:TE}(hl:PE X l tl):PI X tg l (jl X.K tl):=by
 intro pins s σ H R I h;refine thn (hl pins s σ H _ I h) λ v s1 ⟨x,H1,I1,r1,q1⟩=>?_;obtain⟨a,e,⟨xs,hq⟩,q⟩:=q1;subst e;cases r1;obtain⟨its,rv,p,hz⟩:=I1.list hq;refine wpAny_pyIter_list p.isList ?_;refine⟨s1.heap.objs.size,[s1.heap.objs.size],_,_,H1,rfl,I1.kept (t':=s1.toks) λ b o e=>abv _ e,j1 a _,⟨_,abD _ rfl,rfl,rfl⟩,λ b hb=>?_,q⟩;have e:b=s1.heap.objs.size:=(by exists hb);subst e;exact I1.fpOk (aad _) (I1.hok.fresh (aad _))
theorem mS{R:It->Hp->Prop}{lo hi:Int}{t u v:Tok}{tk:Nat}(I:Inv X pins σ H s)(h1:-(2 ^ 62)<=lo)(h2:lo<2 ^ 62)(h3:-(2 ^ 62)<=hi)(h4:hi<2 ^ 62)
  (q:R (Itr lo (hi - lo).toNat) H):wpAny (model X.prog X.w) X.A (pyIter (.ref s.heap.objs.size)) (PIE X pins σ tg R) E { s with heap:=s.heap.push { cls:=.type "range", data:=.fields #[.int lo t,.int hi u,.int 1 v] },toks:=tk }:=by
 refine wpAny_pyIter_range (IsRange.new ..) (small_one h1 h2 h3 h4) ?_;have I1:Inv X pins σ H { s with heap:=s.heap.push { cls:=.type "range", data:=.fields #[.int lo t,.int hi u,.int 1 v] },toks:=tk }:=I.kept λ b o e=>abv _ e
 refine⟨(s.heap.push { cls:=.type "range", data:=.fields #[.int lo t,.int hi u,.int 1 v] }).objs.size,[(s.heap.push { cls:=.type "range", data:=.fields #[.int lo t,.int hi u,.int 1 v] }).objs.size],_,_,H,rfl,
  I1.kept (t':=tk) λ b o e=>abv _ e,jj _ lo (hi - lo).toNat,?_,λ b hb=>?_,q⟩
 ·have e1:lo+((0:Nat):Int)*1=lo:=by simp
  have e2:(((hi - lo).toNat:Nat):Int) - ((0:Nat):Int)=Builtin.Range.rangeSize lo hi 1:=by rw[rangeSize_one];split <;> nofun
  show IsRangeIter _ _ (lo+((0:Nat):Int)*1) ((((hi - lo).toNat:Nat):Int) - ((0:Nat):Int)) 1;rw[e1,e2];exact abD _ rfl
 ·have e:b=(s.heap.push { cls:=.type "range", data:=.fields #[.int lo t,.int hi u,.int 1 v] }).objs.size:=(by exists hb);subst e;exact I1.fpOk (aad _) (I1.hok.fresh (aad _))
def qg(ta:TA):TI:=λ σ H R=>ta σ H λ vs H1=>∃ j:Int,vs=[.int j]/\-(2 ^ 62)<=j/\j<2 ^ 62/\R (Itr 0 j.toNat) H1
theorem j3{a:Expr}{ta:TA}(hg:Gl X "range")(hm:X.mg "range" = none)(ha:PA X [a] ta)(hs:autoParam (starEach [a] X.env=[(false,eval a X.env)]) L2.aR._auto_1):PI X tg (.Call (.Name "range" p) [a] [] pos) (qg ta):=by
 intro pins s σ H R I h;refine Call_ (fO I hg hm boot_range (PyProof.Rows.callWith_type1 (thn (ha pos pins s σ H _ I h) λ us s1 ⟨vs,H1,I1,r1,q1⟩=>?_) hs rfl));obtain⟨j,e,q1,q2,q⟩:=q1;subst e
 cases r1 with
 | cons r rr=>
  cases rr;obtain⟨t,rfl⟩:=r;exact call_range_1 (mS I1 (by nofun) (by nofun) q1 q2 (by exists q))
def uh(wi:TI)(g:TG)(tb:TS):TS:=λ D σ H=>wi σ H λ J H1=>∃ W:Nat->Nat->St->Hp->Prop,(∃ m,W 0 m σ H1)/\∀ i m σ H,W i m σ H ->
 (J.stop i H/\D.nx σ H)∨(J.go i H/\∃ N:St->Hp->Prop,(∀ σ' H',N σ' H'->∃ m',m'<m/\W (i+1) m' σ' H')/\∀ x H',J.yld i H x H'->g x σ H' λ σ2 H2=>tb { D with nx:=N,ct:=N,bk:=D.nx } σ2 H2)
def dX(fp:List Addr)(h:Heap):List (Addr×Obj):=fp.filterMap λ b=>(h.get? b).map λ o=>(b,o)
theorem bU{o:Obj}(hb:b∈fp)(e:h.get? b=some o):(b,o)∈dX fp h:=List.mem_filterMap.mpr ⟨b,hb,by rw[e];rfl⟩
theorem j4{p:Addr×Obj}(hp:p∈dX fp h):p.1∈fp/\h.get? p.1=some p.2:=by
 obtain⟨b,hb,e⟩:=List.mem_filterMap.mp hp
 cases q:h.get? b with
 |none=>rw[q] at e;cases e
 | some o=>
  rw[q] at e;have e':(b,o)=p:=aah e;subst e';exact⟨hb,q⟩
theorem Inv.pinned(I:Inv X pins σ H s)(hf:∀ b∈fp,mL X pins H b)(ho:∀ b∈fp,∃ o,s.heap.get? b=some o/\∀ v,o.data≠.cell v):Inv X (pins++dX fp s.heap) σ H s:=
 I.pins_of λ p hp=>(abx.mp hp).elim (λ z=>I.pin p (aak _ z)) λ z=>by
  obtain⟨hb,e⟩:=j4 z;obtain⟨f0,f1,f2,_⟩:=hf p.1 hb;obtain⟨o,e',d⟩:=ho p.1 hb;rw[e] at e';cases e';exact⟨e,f0,f1,f2,d⟩
theorem Inv.unpinned{pl:List (Addr×Obj)}(I:Inv X (pins++pl) σ H s):Inv X pins σ H s:=I.pins_of λ p hp=>I.pin p (aak _ (aax _ hp))
theorem uk{iter:Expr}{wi:TI}{g:TG}{tb:TS}(hp:PassesOwn (model X.prog X.w) X.A X.env X.xe)(hc:X.calm=true)(hi:PI X tg iter wi)(hg:PG X tg g)(hb:PSs X body tb)
  (hs:autoParam (∀ x,foldedSetIterable iter X.env x=pure x) L2.aI._auto_1):PS X (.For tg iter body [] pos) (uh wi g tb):=by
 intro pins s σ H D I h;refine wpAny_For (thn (hi pins s σ H _ I h) λ v s1 h1=>thn h1 λ itv s2 h2=>?_) hs;obtain⟨it,fp,tn,J,H2,e,I2,T,st2,f2,W,⟨m0,w0⟩,turn⟩:=h2;subst e
 -- what stays true of the iterator's objects through the loop
 have stat:∀ {H':Hp},(∀ b∈fp,H' b=none)->∀ b∈fp,mL X pins H' b:=λ hn b hb=>⟨hn b hb,(f2 b hb).2⟩;refine codeAny_forLoop_any (λ n s'=>∃ i σ' H',Inv X pins σ' H' s'/\tn i s'.heap/\(∀ b∈fp,H' b=none)/\W i n σ' H') ?_ m0 ⟨0,σ,H2,I2,st2,λ b hb=>(f2 b hb).1,w0⟩;rintro n s3 ⟨i,σ3,H3,I3,st3,fr3,w3⟩;rcases turn i n σ3 H3 w3 with ⟨stop,qn⟩|⟨go,N,hN,step⟩
 ·refine abr hp (thn (T.done X rfl rfl rfl hc i pins s3 σ3 H3 X.xe I3 (stat fr3) st3 stop) λ r s4 ⟨hr,I4⟩=>?_);subst hr;exact wpAny_execs_nil ⟨σ3,H3,I4,qn⟩
 ·refine abr hp (thn (T.item X rfl rfl rfl hc i pins s3 σ3 H3 X.xe I3 (stat fr3) st3 go) λ r s4 ⟨u,hr,h4⟩=>?_);subst hr;refine abr hp (thn h4 λ _ s5 ⟨x,H5,I5,r5,y5,st5,fr5⟩=>?_);have I5':=I5.pinned (stat fr5) (T.obj _ _ st5);refine abr hp (thn (hg _ s5 σ3 H5 x u _ I5' r5 (step x H5 y5)) λ _ s6 ⟨σ6,H6,I6,q6⟩=>?_);refine abr hp (thn (hb _ s6 σ6 H6 _ I6 q6) λ f s7 q7=>?_)
  have again:∀ {σ7:St} {H7:Hp},Inv X (pins++dX fp s5.heap) σ7 H7 s7->N σ7 H7->∃ m,m<n/\∃ i σ' H',Inv X pins σ' H' s7/\tn i s7.heap/\(∀ b∈fp,H' b=none)/\W i m σ' H':=fun {σ7 H7} I7 n7=>by
   obtain⟨m',hm,w7⟩:=hN σ7 H7 n7;refine⟨m',hm,i+1,σ7,H7,I7.unpinned,T.keep _ _ _ st5 λ b hb o e=>(I7.pin (b,o) (aak _ (aak _ (bU hb e)))).1,λ b hb=>?_,w7⟩;obtain⟨o,e,d⟩:=T.obj _ _ st5 b hb;exact(I7.pin (b,o) (aak _ (aak _ (bU hb e)))).2.1
  cases f with
  |next=>obtain ⟨σ7,H7,I7,n7⟩:=q7;exact again I7 n7
  |cont=>obtain ⟨σ7,H7,I7,n7⟩:=q7;exact again I7 n7
  |brk=>obtain ⟨σ7,H7,I7,q7⟩:=q7;exact ⟨σ7,H7,I7.unpinned,q7⟩
  |ret v=>obtain ⟨x7,σ7,H7,I7,r7,q7⟩:=q7;exact ⟨x7,σ7,H7,I7.unpinned,r7,q7⟩
abbrev R2:=V->V->Hp->VK->Prop
variable{r:R2}
def OpR(X:Cx)(f:Value->Value->Sem Value)(r:R2):Prop:=
 ∀ (pins:List (Addr×Obj)) (s:Shared) (σ:St) (H:Hp) (x y:V) (v u:Value) (Q:VK),Inv X pins σ H s->RelV x v->RelV y u->r x y H Q ->
  wpAny (model X.prog X.w) X.A (f v u) (EP X pins σ Q) X.xe s
def UnR(X:Cx)(f:Value->Sem Value)(r:V->Hp->VK->Prop):Prop:=
 ∀ (pins:List (Addr×Obj)) (s:Shared) (σ:St) (H:Hp) (x:V) (v:Value) (Q:VK),Inv X pins σ H s->RelV x v->r x H Q ->
  wpAny (model X.prog X.w) X.A (f v) (EP X pins σ Q) X.xe s
def CallR(X:Cx)(f:Value)(r:List V->Hp->VK->Prop):Prop:=
 ∀ (pins:List (Addr×Obj)) (s:Shared) (σ:St) (H:Hp) (xs:List V) (us:List Value) (Q:VK),Inv X pins σ H s->Vals xs us->r xs H Q ->
  wpAny (model X.prog X.w) X.A (call f us) (EP X pins σ Q) X.xe s
def TruR(X:Cx)(r:V->Hp->(Bool->Hp->Prop)->Prop):Prop:=
 ∀ (pins:List (Addr×Obj)) (s:Shared) (σ:St) (H:Hp) (x:V) (v:Value) (Q:Bool->Hp->Prop),Inv X pins σ H s->RelV x v->r x H Q ->
  wpAny (model X.prog X.w) X.A (truthy v) (TP X pins σ Q) X.xe s
def tOp(r:R2)(ta tb:TE):TE:=λ σ H Q=>ta σ H λ x H1=>tb σ H1 λ y H2=>r x y H2 Q
def tUn(r:V->Hp->VK->Prop)(ta:TE):TE:=λ σ H Q=>ta σ H λ x H1=>r x H1 Q
def rI(C:Int->Int->Prop)(g:Int->Int->V):R2:=λ x y H Q=>∃ i j,x=.int i/\y=.int j/\C i j/\Q (g i j) H
def rI0(g:Int->Int->V):R2:=λ x y H Q=>∃ i j,x=.int i/\y=.int j/\Q (g i j) H
def rU(g:Int->V):V->Hp->VK->Prop:=λ x H Q=>∃ i,x=.int i/\Q (g i) H
section
variable  {a b:Expr}  
theorem y3(ha:PE X a ta)(hb:PE X b tb){R:V->V->Hp->Prop}(I:Inv X pins σ H s)
  (h:ta σ H λ x H1=>tb σ H1 λ y H2=>R x y H2)  
  (hf:∀ v u s2 x y H2,Inv X pins σ H2 s2->RelV x v->RelV y u->R x y H2->wpAny (model X.prog X.w) X.A (f v u) Q X.xe s2) :
  wpAny (model X.prog X.w) X.A (eval a X.env) (λ v s₁=>wpAny (model X.prog X.w) X.A (eval b X.env) (λ u s₂=>wpAny (model X.prog X.w) X.A (f v u) Q X.xe s₂) X.xe s₁) X.xe s:=by
 refine thn (ha pins s σ H _ I h) λ v s1 ⟨x,H1,I1,r1,q1⟩=>?_;refine thn (hb pins s1 σ H1 _ I1 q1) λ u s2 ⟨y,H2,I2,r2,q2⟩=>?_;exact hf v u s2 x y H2 I2 r1 r2 q2
theorem xQ{op:Operator}(ho:OpR X (binaryOp op) r)(ha:PE X a ta)(hb:PE X b tb):PE X (.BinOp a op b pos) (tOp r ta tb):=by
 intro pins s σ H Q I h;exact wpAny_BinOp (y3 ha hb I h λ v u s2 x y H2 I2 rx ry q=>ho pins s2 σ H2 x y v u Q I2 rx ry q)
theorem xR{op:UnaryOp}{r:V->Hp->VK->Prop}(ho:UnR X (unaryOp op) r)(ha:PE X a ta):PE X (.UnaryOp op a pos) (tUn r ta):=by
 intro pins s σ H Q I h;exact UnaryOp_ (thn (ha pins s σ H _ I h) λ v s1 ⟨x,H1,I1,r1,q1⟩=>ho pins s1 σ H1 x v Q I1 r1 q1)
theorem opI{C:Int->Int->Prop}
  (rule:∀ (i j:Int) (t u:Tok) (s:Shared) (Q:Value->Shared->Prop) (E:Value->Shared->Prop),C i j->Q (.int (g i j) s.toks) { s with toks:=s.toks+1 }->wpAny (model X.prog X.w) X.A (f (.int i t) (.int j u)) Q E s) :
  OpR X f (rI C λ i j=>.int (g i j)):=by
 intro pins s σ H x y v u Q I rx ry h;obtain⟨i,j,rfl,rfl,hc,q⟩:=h;obtain⟨t,rfl⟩:=rx;obtain⟨t',rfl⟩:=ry;exact rule i j t t' s _ _ hc ⟨.int (g i j),H,I.tok _,⟨_,rfl⟩,q⟩
theorem y4 
  (rule:∀ (i j:Int) (t u:Tok) (s:Shared) (Q:Value->Shared->Prop) (E:Value->Shared->Prop),Q (.int (g i j) s.toks) { s with toks:=s.toks+1 }->wpAny (model X.prog X.w) X.A (f (.int i t) (.int j u)) Q E s) :
  OpR X f (rI0 λ i j=>.int (g i j)):=by
 intro pins s σ H x y v u Q I rx ry h;obtain⟨i,j,rfl,rfl,q⟩:=h;obtain⟨t,rfl⟩:=rx;obtain⟨t',rfl⟩:=ry;exact rule i j t t' s _ _ ⟨.int (g i j),H,I.tok _,⟨_,rfl⟩,q⟩
theorem y6{g:Int->Int->Bool}
  (rule:∀ (i j:Int) (t u:Tok) (s:Shared) (Q:Value->Shared->Prop) (E:Value->Shared->Prop),Q (.bool (g i j)) s->wpAny (model X.prog X.w) X.A (f (.int i t) (.int j u)) Q E s) :
  OpR X f (rI0 λ i j=>.bl (g i j)):=by
 intro pins s σ H x y v u Q I rx ry h;obtain⟨i,j,rfl,rfl,q⟩:=h;obtain⟨t,rfl⟩:=rx;obtain⟨t',rfl⟩:=ry;exact rule i j t t' s _ _ ⟨.bl (g i j),H,I,rfl,q⟩
def qh(i j:Int):Prop:=0<j/\j<1073741824
def mM(i j:Int):Prop:=0<=j/\j<=1000000/\i.natAbs<2 ^ 64
def CMul(i j:Int):Prop:=(-(2 ^ 64)<i/\i<2 ^ 64)∨(-(2 ^ 64)<j/\j<2 ^ 64)
theorem CMul.ok{i j:Int}(h:CMul i j):IntMulOk i j:=by
 rcases h with ⟨h1,h2⟩|⟨h1,h2⟩
 ·exact .of_left (intBits_le_64 h1 h2)
 ·exact .of_right (intBits_le_64 h1 h2)
theorem ul:OpR X (binaryOp .Add) (rI0 λ i j=>.int (i+j)):=y4 λ _ _ _ _ _ _ _ q=>add_int q
theorem um:OpR X (binaryOp .Sub) (rI0 λ i j=>.int (i - j)):=y4 λ _ _ _ _ _ _ _ q=>sub_int q
theorem uo:OpR X (binaryOp .Mult) (rI CMul λ i j=>.int (i*j)):=opI λ _ _ _ _ _ _ _ hc q=>mul_int q hc.ok
theorem qi:OpR X (binaryOp .FloorDiv) (rI qh λ i j=>.int (i / j)):=opI λ i j _ _ _ _ _ hc q=>by
 have h1:(0:Int)<j:=hc.1;have h2:j<1073741824:=hc.2;exact floordiv_int (by nofun) (by rw[Int.fdiv_eq_ediv_of_nonneg i (by nofun)];exact q) (.inl (PyProof.noPylong_small (by nofun)))
theorem ur:OpR X (binaryOp .Mod) (rI (λ _ j=>0<j) λ i j=>.int (i % j)):=opI λ i j _ _ _ _ _ hc q=>by
 have h1:(0:Int)<j:=hc;exact mod_int' (by nofun) (by rw[Int.fmod_eq_emod_of_nonneg i (by nofun)];exact q)
theorem ut:OpR X (binaryOp .Pow) (rI mM λ i j=>.int (i ^ j.toNat)):=opI λ _ _ _ _ _ _ _ hc q=>pow_int_small hc.1 hc.2.1 hc.2.2 q
theorem unI{f:Value->Sem Value}{g:Int->Int}
  (rule:∀ (i:Int) (t:Tok) (s:Shared) (Q:Value->Shared->Prop) (E:Value->Shared->Prop),Q (.int (g i) s.toks) { s with toks:=s.toks+1 }->wpAny (model X.prog X.w) X.A (f (.int i t)) Q E s) :
  UnR X f (rU λ i=>.int (g i)):=by
 intro pins s σ H x v Q I rx h;obtain⟨i,rfl,q⟩:=h;obtain⟨t,rfl⟩:=rx;exact rule i t s _ _ ⟨.int (g i),H,I.tok _,⟨_,rfl⟩,q⟩
theorem ux:UnR X (unaryOp .USub) (rU λ i=>.int (-i)):=unI λ _ _ _ _ _ q=>neg_int q
end
def y9:V->V->Bool
 |.non,.non=>true|.non,.int _=>true|.int _,.non=>true|.non,.bl _=>true|.bl _,.non=>true|.non,.str _=>true|.str _,.non=>true
 |.int _,.int _=>true|.bl _,.bl _=>true|.str _,.str _=>true|.byt _,.byt _=>true
 |.int _,.str _=>true|.str _,.int _=>true|.bl _,.str _=>true|.str _,.bl _=>true
 |_,_=>false
def rEq:R2:=λ x y H Q=>y9 x y=true/\Q (.bl (decide (x=y))) H
def rNe:R2:=λ x y H Q=>y9 x y=true/\Q (.bl (!decide (x=y))) H
theorem j5{i j:Int}:decide (V.int i=V.int j)=(i==j):=by
 rw[abu,decide_eq_true_iff,beq_iff_eq];exact⟨λ h=>by cases h;rfl,λ h=>by rw[h]⟩
theorem oZ{i j:Bool}:decide (V.bl i=V.bl j)=(i==j):=by
 rw[abu,decide_eq_true_iff,beq_iff_eq];exact⟨λ h=>by cases h;rfl,λ h=>by rw[h]⟩
theorem j6{i j:Str}:decide (V.str i=V.str j)=(i==j):=by
 rw[abu,decide_eq_true_iff,beq_iff_eq];exact⟨λ h=>by cases h;rfl,λ h=>by rw[h]⟩
theorem j7{i j:Array UInt8}:decide (V.byt i=V.byt j)=(i.toList==j.toList):=by
 rw[abu,decide_eq_true_iff,beq_iff_eq];exact⟨λ h=>by cases h;rfl,λ h=>by rw[Array.toList_inj.mp h]⟩
section
variable  {a b:Expr}  
theorem au{Q:VK}{k k':Bool}(I:Inv X pins σ H s)(q:Q (.bl k) H)(e:k=k'):EP X pins σ Q (.bool k') s:=by
 subst e;exact⟨.bl k,H,I,rfl,q⟩
theorem xS:OpR X (compareOp .Eq) rEq:=by
 intro pins s σ H x y v u Q I rx ry h;obtain⟨hs,q⟩:=h
 cases x with
 | non=>
  cases rx
  cases y with
  |non=>cases ry;exact PySem.EqNone.eq_none_none (au I q (by simp))
  |bl j=>cases ry;exact PySem.EqNone.eq_none_bool (au I q (by simp))
  |int j=>obtain ⟨t',rfl⟩:=ry;exact PySem.EqNone.eq_none_int (au I q (by simp))
  |str j=>obtain ⟨t',rfl⟩:=ry;exact PySem.EqNone.eq_none_str (au I q (by simp))
  |_=>exact absurd (show false=true from hs) abB
 | bl i=>
  cases rx
  cases y with
  |non=>cases ry;exact PySem.EqNone.eq_bool_none (au I q (by simp))
  |bl j=>cases ry;exact eq_bool (au I q oZ)
  |str j=>obtain ⟨t',rfl⟩:=ry;exact PySem.EqMixed.eq_bool_str (au I q (by simp))
  |_=>exact absurd (show false=true from hs) abB
 | int i=>
  obtain⟨t,rfl⟩:=rx
  cases y with
  |non=>cases ry;exact PySem.EqNone.eq_int_none (au I q (by simp))
  |int j=>obtain ⟨t',rfl⟩:=ry;exact eq_int (au I q j5)
  |str j=>obtain ⟨t',rfl⟩:=ry;exact PySem.EqMixed.eq_int_str (au I q (by simp))
  |_=>exact absurd (show false=true from hs) abB
 | str i=>
  obtain⟨t,rfl⟩:=rx
  cases y with
  |non=>cases ry;exact PySem.EqNone.eq_str_none (au I q (by simp))
  |bl j=>cases ry;exact PySem.EqMixed.eq_str_bool (au I q (by simp))
  |int j=>obtain ⟨t',rfl⟩:=ry;exact PySem.EqMixed.eq_str_int (au I q (by simp))
  |str j=>obtain ⟨t',rfl⟩:=ry;exact eq_str (au I q j6)
  |_=>exact absurd (show false=true from hs) abB
 | byt i=>
  obtain⟨t,rfl⟩:=rx
  cases y with
  |byt j=>obtain ⟨t',rfl⟩:=ry;exact PySem.W.eq_bytes (au I q j7)
  |_=>exact absurd (show false=true from hs) abB
 |_=>cases y <;> exact absurd (show false=true from hs) abB
theorem xT:OpR X (compareOp .NotEq) rNe:=by
 intro pins s σ H x y v u Q I rx ry h;obtain⟨hs,q⟩:=h
 cases x with
 | non=>
  cases rx
  cases y with
  |non=>cases ry;exact PySem.EqNone.ne_none_none (au I q (by simp))
  |bl j=>cases ry;exact PySem.EqNone.ne_none_bool (au I q (by simp))
  |int j=>obtain ⟨t',rfl⟩:=ry;exact PySem.EqNone.ne_none_int (au I q (by simp))
  |str j=>obtain ⟨t',rfl⟩:=ry;exact PySem.EqNone.ne_none_str (au I q (by simp))
  |_=>exact absurd (show false=true from hs) abB
 | bl i=>
  cases rx
  cases y with
  |non=>cases ry;exact PySem.EqNone.ne_bool_none (au I q (by simp))
  |bl j=>cases ry;exact ne_bool (au I q (congrArg not oZ))
  |str j=>obtain ⟨t',rfl⟩:=ry;exact PySem.EqMixed.ne_bool_str (au I q (by simp))
  |_=>exact absurd (show false=true from hs) abB
 | int i=>
  obtain⟨t,rfl⟩:=rx
  cases y with
  |non=>cases ry;exact PySem.EqNone.ne_int_none (au I q (by simp))
  |int j=>obtain ⟨t',rfl⟩:=ry;exact ne_int (au I q (congrArg not j5))
  |str j=>obtain ⟨t',rfl⟩:=ry;exact PySem.EqMixed.ne_int_str (au I q (by simp))
  |_=>exact absurd (show false=true from hs) abB
 | str i=>
  obtain⟨t,rfl⟩:=rx
  cases y with
  |non=>cases ry;exact PySem.EqNone.ne_str_none (au I q (by simp))
  |bl j=>cases ry;exact PySem.EqMixed.ne_str_bool (au I q (by simp))
  |int j=>obtain ⟨t',rfl⟩:=ry;exact PySem.EqMixed.ne_str_int (au I q (by simp))
  |str j=>obtain ⟨t',rfl⟩:=ry;exact ne_str (au I q (congrArg not j6))
  |_=>exact absurd (show false=true from hs) abB
 | byt i=>
  obtain⟨t,rfl⟩:=rx
  cases y with
  |byt j=>obtain ⟨t',rfl⟩:=ry;exact PySem.W.ne_bytes (au I q (congrArg not j7))
  |_=>exact absurd (show false=true from hs) abB
 |_=>cases y <;> exact absurd (show false=true from hs) abB
theorem xU:OpR X (compareOp .Lt) (rI0 λ i j=>.bl (decide (i<j))):=y6 λ _ _ _ _ _ _ _ q=>lt_int q
theorem xV:OpR X (compareOp .Gt) (rI0 λ i j=>.bl (decide (j<i))):=y6 λ _ _ _ _ _ _ _ q=>gt_int q
theorem OpR.or{r':R2}(h:OpR X f r)(h':OpR X f r'):OpR X f (λ x y H Q=>r x y H Q∨r' x y H Q):=by
 intro pins s σ H x y v u Q I rx ry q;rcases q with q|q
 ·exact h pins s σ H x y v u Q I rx ry q
 ·exact h' pins s σ H x y v u Q I rx ry q
def qj(t:TE):TT:=λ σ H Q=>t σ H λ x H'=>∃ k,x=.bl k/\Q k H'
theorem qk{op:CmpOp}(ho:OpR X (compareOp op) r)(ha:PE X a ta)(hb:PE X b tb)(hm:behindInMarks op b=false):PT X (.Compare a [op] [b] pos) (qj (tOp r ta tb)):=by
 intro pins s σ H Q I h
 refine wpAny_isTrue_Compare1 (thn (ha pins s σ H _ I h) λ v s1 ⟨x,H1,I1,r1,q1⟩=>thn (hb pins s1 σ H1 _ I1 q1) λ u s2 ⟨y,H2,I2,r2,q2⟩=>
  thn (ho pins s2 σ H2 x y v u _ I2 r1 r2 q2) λ c s3 ⟨z,H3,I3,r3,k,e,q3⟩=>?_) hm
 subst e;cases r3;exact aa2 ⟨H3,I3,q3⟩
def xW(K:Frag)(x:V)(H:Hp)(k:Bool):Prop:=
 match x with
 |.non=>k=false
 |.bl b=>k=b
 |.int i=>k=(i != 0)
 |.str y=>y.length<=sizeLine/\k=((y.length:Int) != 0)
 |.byt y=>y.size<=sizeLine/\k=((y.size:Int) != 0)
 |.ref p=>(∃ xs,SqL K H p xs/\k=!xs.isEmpty)∨(∃ xs,SqT K H p xs/\k=!xs.isEmpty)∨∃ kvs,H p=some (.dK kvs)/\k=!kvs.isEmpty
 |_=>False
theorem jm{κ:Type}{kvs:List (κ×V)}{vs:List (κ×Value)}(r:KV kvs vs):(!vs.isEmpty)=!kvs.isEmpty:=by
 cases r <;> rfl
theorem dY{its:List Value}(r:Vals xs its):(!its.toArray.isEmpty)=!xs.isEmpty:=by
 cases r <;> simp
theorem cW:(sizeLine:Nat)<2 ^ 63:=by rw[sizeLine_eq];decide
theorem uy:TruR X (λ x H Q=>∃ k,xW X.K x H k/\Q k H):=by
 intro pins s σ H x v Q I rx h;obtain⟨k,e,q⟩:=h;have hl:=cW;have hs:sizeLine=16777216:=sizeLine_eq
 cases x with
 | non=>
  cases rx;have e':k=false:=e;subst e';exact truthy_none ⟨H,I,q⟩
 | bl b=>
  cases rx;have e':k=b:=e;subst e';exact aa2 ⟨H,I,q⟩
 | int i=>
  obtain⟨t,rfl⟩:=rx;have e':k=(i != 0):=e;subst e';exact PySem.P.truthy_int ⟨H,I,q⟩
 | str y=>
  obtain⟨t,rfl⟩:=rx;obtain⟨hy,e'⟩:y.length<=sizeLine/\k=((y.length:Int) != 0):=e;subst e';exact PySem.P.truthy_str (by nofun) ⟨H,I.tok _,q⟩
 | byt y=>
  obtain⟨t,rfl⟩:=rx;obtain⟨hy,e'⟩:y.size<=sizeLine/\k=((y.size:Int) != 0):=e;subst e';exact PySem.W.truthy_bytes (by nofun) ⟨H,I.tok _,q⟩
 | ref p=>
  cases rx;have e':(∃ xs,SqL X.K H p xs/\k=!xs.isEmpty)∨(∃ xs,SqT X.K H p xs/\k=!xs.isEmpty)∨∃ kvs,H p=some (.dK kvs)/\k=!kvs.isEmpty:=e;rcases e' with ⟨xs,hx,e'⟩|⟨xs,hx,e'⟩|⟨kvs,hx,e'⟩
  ·subst e';obtain⟨its,r,pl,hz⟩:=I.list hx;have hlen:=r.length;exact wpAny_truthy_list pl.isList (by simp only[List.size_toArray];nofun) ⟨H,I.tok _,by rw[dY r];exact q⟩
  ·subst e';obtain⟨its,r,pl,hz⟩:=I.tuple hx;have hlen:=r.length;exact truthy_tuple pl (by simp only[List.size_toArray];nofun) ⟨H,I.tok _,by rw[dY r];exact q⟩
  ·subst e';obtain⟨hz,hS,vs,r,m⟩:kvs.length<=sizeLine/\(p==sysModules)=false/\∃ vs,KV kvs vs/\s.heap.DictOf (aB X.prog X.w) p vs:=I.hok p _ hx;have hlen:kvs.length=vs.length:=abp r;exact wpAny_truthy_dict hS m (by nofun) ⟨H,I.tok _,by rw[jm r];exact q⟩
 |_=>exact(show False from e).elim
theorem jn:OpR X (binaryOp .Add) (λ x y H Q=>∃ i j,x=.str i/\y=.str j/\i.length+j.length<=sizeLine/\Q (.str (i++j)) H):=by
 intro pins s σ H x y v u Q I rx ry h;obtain⟨i,j,rfl,rfl,hz,q⟩:=h;obtain⟨t,rfl⟩:=rx;obtain⟨t',rfl⟩:=ry;exact add_str (λ t' tk=>⟨.str (i++j),H,I.tok _,⟨_,rfl⟩,q⟩) hz
theorem cX{x:V}(r:Vals [x] us):∃ u,us=[u]/\RelV x u:=by
 cases r with
 |cons r1 r2=>cases r2;exact⟨_,rfl,r1⟩
theorem ql{x y:V}(r:Vals [x,y] us):∃ u w',us=[u,w']/\RelV x u/\RelV y w':=by
 cases r with
 | cons r1 r2=>
  cases r2 with
  |cons r3 r4=>cases r4;exact ⟨_,_,rfl,r1,r3⟩
theorem j8(hc:X.calm=true):CallR X (.builtin "max") (λ xs H Q=>∃ i j,xs=[.int i,.int j]/\Q (.int (if j > i then j else i)) H):=by
 intro pins s σ H xs us Q I r h;obtain⟨i,j,rfl,q⟩:=h;obtain⟨u,w',rfl,⟨t,rfl⟩,⟨t',rfl⟩⟩:=ql r;refine max_two_ints (I.ok.hd hc) λ h' tk k=>⟨_,H,I.kept k,?_,q⟩;by_cases hj:j > i
 ·rw[if_pos hj,if_pos hj];exact⟨_,rfl⟩
 ·rw[if_neg hj,if_neg hj];exact⟨_,rfl⟩
theorem j9(hc:X.calm=true):CallR X (.builtin "min") (λ xs H Q=>∃ i j,xs=[.int i,.int j]/\Q (.int (if j<i then j else i)) H):=by
 intro pins s σ H xs us Q I r h;obtain⟨i,j,rfl,q⟩:=h;obtain⟨u,w',rfl,⟨t,rfl⟩,⟨t',rfl⟩⟩:=ql r;refine min_two_ints (I.ok.hd hc) λ h' tk k=>⟨_,H,I.kept k,?_,q⟩;by_cases hj:j<i
 ·rw[if_pos hj,if_pos hj];exact⟨_,rfl⟩
 ·rw[if_neg hj,if_neg hj];exact⟨_,rfl⟩
end
structure ObjM(h:Heap)(x dx C:Addr)(mA:Str->Option Value):Prop where
 obj:h.get? x=some (PySem.W.instObj C dx)
 ns:h.Ns1 dx mA
 ne:dx≠x
theorem kb(n:h.Ns1 dx mA):∃ od,h.get? dx=some od/\∀ name,PySem.W.lookIn name od=some (mA name):=by
 obtain⟨o,es,ep,ho,hd,hk,_,hm⟩:=n;refine⟨o,ho,λ name=>?_⟩;have e:=hm name;unfold nsFind findBy at e;rw[← Array.find?_toList] at e;unfold PySem.W.lookIn;rw[hd];dsimp only;split
 ·rename_i y q;rw[q] at e;exact congrArg some e
 ·rename_i q;rw[q] at e
  have a:es.toList.any (·.refKey)=false:=by
   rw[List.any_eq_false];intro y hy;obtain⟨z,t,hkey⟩:=hk y (Array.mem_toList_iff.mp hy);simp[DictEntry.refKey,hkey]
  have a':¬ es.toList.any (·.refKey)=true:=by rw[a];exact abB
  rw[if_neg a'];exact congrArg some e
theorem ObjM.look{x:Addr}(I:ObjM h x dx C mA):∃ od,PySem.W.InstAt h x (PySem.W.instObj C dx) C (some od)/\∀ name,PySem.W.lookIn name od=some (mA name):=
 let ⟨od,ho,hl⟩:=kb I.ns
 ⟨od,⟨I.obj,rfl,rfl,ho⟩,hl⟩
section
variable {prog:Program}     {K:Frag} {x f:Addr}   {v:Value}
end
theorem RelO.some_of{o:Option Value}(r:RelO (some v) o):∃ u,o=some u/\RelV v u:=by
 cases o with
 |none=>exact(show False from r).elim
 |some u=>exact⟨u,rfl,r⟩
section
variable      {fs fs':List (Str×V)}
theorem qm(hok:HOk P w H h)(e:H a=some (.ins C dx fs)):∃ mA,ObjM h a dx C mA/\(∀ f,RelO (fs.lookup f) (mA f))/\PySem.Within mA (fs.map (·.1))/\fs.length<=1000/\H dx=some (.own a):=by
 obtain⟨d,z,ne,ob,mA,n,r,q⟩:=(show ObjOk P w H h a (.ins C dx fs) from hok a _ e);exact⟨mA,⟨ob,n,ne⟩,r,q,z,d⟩
end
structure Cls(K:Frag)(C:Addr):Prop where
 pg:PySem.W.plainGet K C Str.empty=true
 hd:PySem.W.hasDictIn K C=true
 po:PySem.W.plainOver K C=true
 sa:PySem.W.findIn K (.ref C) "__setattr__" = some (some (.builtin "object.__setattr__"))
theorem Cls.get{K:Frag}(c:Cls K C)(f:Str):PySem.W.plainGet K C f=true:=c.pg
def uz(K:Frag)(C:Addr)(f:Str):Prop:=PySem.W.findIn K (.ref C) f=some none
section
variable       {fs:List (Str×V)} {f:Str}   
end
section
variable  {o value:Expr} {f:Str} {tpos:Pos} {tv:TE}
end
section
variable         {c:Value} {b:Bool}
inductive TyOf(K:Frag)(H:Hp):V->Value->Prop where
 |non:TyOf K H .non (.type "NoneType")
 |bl (x:Bool):TyOf K H (.bl x) (.type "bool")
 |int (i:Int):TyOf K H (.int i) (.type "int")
 |str (x:Str):TyOf K H (.str x) (.type "str")
 |flt (x:UInt64):TyOf K H (.flt x) (.type "float")
 |lst {a:Addr} {xs:List V} (e:H a=some (.lst xs)):TyOf K H (.ref a) (.type "list")
 |frz {a:Addr} {o:Obj} {xs:List V} (e:H a=some (.frz o (.lst xs))):TyOf K H (.ref a) (.type "list")
 |tup {a:Addr} {xs:List V} (e:H a=some (.tup xs)):TyOf K H (.ref a) (.type "tuple")
 |dK {a:Addr} {kvs:List (Key×V)} (e:H a=some (.dK kvs)):TyOf K H (.ref a) (.type "dict")
 |dT {a:Addr} {kvs:List (List Key×V)} (e:H a=some (.dT kvs)):TyOf K H (.ref a) (.type "dict")
 | ins {a C dx:Addr} {fs:List (Str×V)} (e:H a=some (.ins C dx fs)) (cl:Cls K C) (ha:PySem.W.findIn K (.ref C) "__class__" = some (some (.builtin "object.__class__")))
   (hn:PySem.W.specialIn K (.builtin "object.__class__") "__get__" = some (some (.builtin "getset_descriptor.__get__"))) (htk:PySem.W.takesIn K (.builtin "object.__class__")=some true)
   (hm:PySem.W.mroIn K C (.type "object")=some true):TyOf K H (.ref a) (.ref C)
theorem cb{x:V}{t:Value}(I:Inv X pins σ H s)(rx:RelV x u)(ty:TyOf X.K H x t)(e:PySem.W.kitOne X.K t c=some b)(h:∀ tk,Q (.bool b) { s with toks:=tk }) :
  wpAny (model X.prog X.w) A (call (.builtin "isinstance") [u,c]) Q E s:=by
 cases ty with
 |non=>cases (show u=Value.none from rx);exact aas PySem.W.kitx_none I.kIn True.intro e (λ z=>nomatch z) h
 |bl y=>cases (show u=Value.bool y from rx);exact aas PySem.W.kitx_bool I.kIn True.intro e (λ z=>nomatch z) h
 |int i=>obtain⟨t,q⟩:=(show ∃ t,u=Value.int i t from rx);cases q;exact aas PySem.W.kitx_int I.kIn True.intro e (λ z=>nomatch z) h
 |str y=>obtain⟨t,q⟩:=(show ∃ t,u=Value.str y t from rx);cases q;exact aas PySem.W.kitx_str I.kIn True.intro e (λ z=>nomatch z) h
 |flt y=>obtain⟨t,q⟩:=(show ∃ t,u=Value.float y t from rx);cases q;exact aas PySem.W.kitx_float I.kIn True.intro e (λ z=>nomatch z) h
 | @lst a xs ea=>
  cases (show u=Value.ref a from rx);obtain⟨_,_,n,_,h1⟩:=(show ObjOk X.prog X.w H s.heap a (.lst xs) from I.hok a _ ea);exact aas PySem.W.kitx_list I.kIn ⟨_,h1,rfl⟩ e (λ z=>nomatch z) h
 | @frz a ob xs ea=>
  cases (show u=Value.ref a from rx);obtain⟨_,_,_,n,_,h1⟩:=(show ObjOk X.prog X.w H s.heap a (.frz ob (.lst xs)) from I.hok a _ ea);exact aas PySem.W.kitx_list I.kIn ⟨_,h1,rfl⟩ e (λ z=>nomatch z) h
 | @tup a xs ea=>
  cases (show u=Value.ref a from rx);obtain⟨_,_,_,p⟩:=(show ObjOk X.prog X.w H s.heap a (.tup xs) from I.hok a _ ea);obtain⟨o,h1,h2,_⟩:=p;exact aas PySem.W.kitx_tuple I.kIn ⟨o,h1,h2⟩ e (λ z=>nomatch z) h
 | @dK a kvs ea=>
  cases (show u=Value.ref a from rx);obtain⟨_,_,vs,_,p⟩:=(show ObjOk X.prog X.w H s.heap a (.dK kvs) from I.hok a _ ea);obtain⟨o,es,ep,h1,h2,_⟩:=p;exact aas abj I.kIn ⟨o,h1,h2.1⟩ e (λ z=>nomatch z) h
 | @dT a kvs ea=>
  cases (show u=Value.ref a from rx);obtain⟨_,_,xs,_,o,es,ep,h1,h2,_⟩:=(show ObjOk X.prog X.w H s.heap a (.dT kvs) from I.hok a _ ea);exact aas abj I.kIn ⟨o,h1,h2.1⟩ e (λ z=>nomatch z) h
 | @ins a C dx fs ea cl ha hn htk hm=>
  cases (show u=Value.ref a from rx);obtain⟨mA,O,_⟩:=qm I.hok ea;obtain⟨od,J,_⟩:=O.look;exact aas (PySem.W.kitx_own (cl.get _) cl.hd ha hn htk hm) I.kIn J e (λ z=>nomatch z) h
end
structure Room(k:Nat)(A:Around):Prop where
 hd:A.handled=none
 dp:A.depth+3*k+5<recursionLimit
 un:A.units+16*k+200<cLine
 gd:A.guards=some []
theorem Room.mono(r:Room k A)(h:j<=k):Room j A:=⟨r.hd,by have:=r.dp;nofun,by have:=r.un;nofun,r.gd⟩
theorem Room.deeper(r:Room (k+1) A)(env:Env):Room k (A.deeper env):=
 ⟨r.hd,by have:=r.dp;show A.depth+1+3*k+5<_;nofun,by have:=r.un;show A.units+3+16*k+200<_;nofun,r.gd⟩
theorem Room.in1(r:Room (k+1) A):Room k A.in1:=
 ⟨r.hd,by have:=r.dp;show A.depth+3*k+5<_;nofun,by have:=r.un;show A.units+1+16*k+200<_;nofun,r.gd⟩
theorem Room.depth(r:Room k A):A.depth<recursionLimit:=by have:=r.dp;nofun
theorem Room.units(r:Room k A):A.units+64<cLine:=by have:=r.un;nofun
def fP:TA:=λ _ H Q=>Q [] H
def bp(ta:TE)(tr:TA):TA:=λ σ H Q=>ta σ H λ x H1=>tr σ H1 λ xs H2=>Q (x::xs) H2
theorem o0:PA X [] fP:=λ _ _ _ _ H Q I h=>Calls.spliced_nil ⟨[],H,I,.nil,h⟩
theorem kc(ha:PE X e te)(hr:PA X es t)(hs:autoParam (starEach (e::es) X.env=(false,eval e X.env)::starEach es X.env) L2.aR._auto_1):PA X (e::es) (bp te t):=by
 intro pos pins s σ H Q I h;rw[hs];show wpAny _ _ (spliced ((false,eval e X.env)::backTo pos (starEach es X.env))) _ _ s;refine Calls.spliced_cons (thn (ha pins s σ H _ I h) λ u s1 ⟨x,H1,I1,r1,q1⟩=>?_);exact thn (hr pos pins s1 σ H1 _ I1 q1) λ us s2 ⟨xs,H2,I2,r2,q2⟩=>⟨x::xs,H2,I2,.cons r1 r2,q2⟩
def xn(t:TA):TE:=λ σ H Q=>t σ H λ xs H1=>xs.length<=sizeLine/\∀ p,H1 p=none->Q (.ref p) (upd H1 p (.tup xs))
def xX(t:TA):TE:=λ σ H Q=>t σ H λ xs H1=>xs.length<=sizeLine/\∀ p,H1 p=none->Q (.ref p) (upd H1 p (.lst xs))
theorem uA{x1}(h:PA X es t):PE X (.Tuple es x1 pos) (xn t):=by
 intro pins s σ H Q I hq;refine wpAny_Tuple_spliced (thn (h pos pins s σ H _ I hq) λ us s1 ⟨xs,H1,I1,r,z,q⟩=>⟨by rw[← r.length];exact z,?_⟩);have hf:H1 s1.heap.objs.size=none:=I1.hok.fresh (aad _);refine⟨.ref s1.heap.objs.size,upd H1 s1.heap.objs.size (.tup xs),I1.laid (t':=s1.toks) (λ b u e=>abv _ e) (aad _) ?_,rfl,q _ hf⟩;exact⟨z,us,r,⟨_,abD _ rfl,rfl,_,rfl⟩⟩
theorem uB(h:PA X es t):PE X (.List es pos) (xX t):=by
 intro pins s σ H Q I hq;refine wpAny_List_spliced (thn (h pos pins s σ H _ I hq) λ us s1 ⟨xs,H1,I1,r,z,q⟩=>⟨by rw[← r.length];exact z,?_⟩);have hf:H1 s1.heap.objs.size=none:=I1.hok.fresh (aad _);refine⟨.ref s1.heap.objs.size,upd H1 s1.heap.objs.size (.lst xs),I1.laid (t':=s1.toks) (λ b u e=>abv _ e) (aad _) ?_,rfl,q _ hf⟩;exact⟨z,us,0,r,abD _ rfl⟩
abbrev Sp:=List V->Hp->VK->XK->Prop
variable{sp:Sp}
abbrev CXT:=List Env->Hp->Shared->XK->Value->Shared->Prop
variable{CX:CXT}
structure Env0(P:Program)(w:World)(K:Frag)(mg:Str->Option Value)(base:Heap)(A:Around)(outer:List Env)(s:Shared)(H:Hp):Prop where
 frames:A.frames=some outer
 mod:Mod K mg base
 bs:∀ b o,base.get? b=some o->s.heap.get? b=some o/\H b=none
 bsz:base.objs.size<=s.heap.objs.size
 funs:s.heap.FunFrames base outer
 frf:∀ b∈frs outer,H b=none
 hok:HOk P w H s.heap
 bare:AllBare s.gens
 lam:∀ T,cP K T->H T=some (.tbl dW)
def CE(outer:List Env)(P:Program)(w:World)(H:Hp)(s:Shared)(Q:VK)(u:Value)(s':Shared):Prop:=
 ∃ v H',s'.os=s.os/\AllBare s'.gens/\Un (frs outer) [] H H' s.heap s'.heap/\HOk P w H' s'.heap/\RelV v u/\Q v H'
def CR(CX:CXT)(outer:List Env)(P:Program)(w:World)(H:Hp)(s:Shared)(Q:VK)(E:XK)(r:Result)(s':Shared):Prop:=
 match r with
 |.ok (.ret u)=>CE outer P w H s Q u s'
 |.ok _=>False
 |.error e=>CX outer H s E e s'
structure FnOk(P:Program)(w:World)(K:Frag)(mg:Str->Option Value)(base:Heap)(CX:CXT)(k:Nat)(f:Addr)(fd:FuncData)(ps:List Str)(sp:Sp):Prop where
 len:∀ vs H Q E,sp vs H Q E->vs.length=ps.length
 run:∀ (A:Around) (outer:List Env) (s:Shared) (H:Hp) (args:Args) (us:List Value) (vs:List V) (Q:VK) (E:XK),Room k A->Env0 P w K mg base A outer s H->BindsTo s fd args (ps.zip us)->Vals vs us->sp vs H Q E ->
  codeAny (model P w) A (.call (.ref f) args) (CR CX outer P w H s Q E) s
theorem FnOk.imp{K:Frag}{f:Addr}{sp':Sp}(F:FnOk P w K mg base CX k f fd ps sp)
  (h:∀ vs H Q E,sp' vs H Q E->sp vs H Q E):FnOk P w K mg base CX k f fd ps sp':=
 ⟨λ vs H Q E q=>F.len vs H Q E (h _ _ _ _ q),λ A outer s H args us vs Q E hr he hb hv hs=>F.run A outer s H args us vs Q E hr he hb hv (h _ _ _ _ hs)⟩
theorem Inv.env0(I:Inv X pins σ H s):Env0 X.prog X.w X.K X.mg X.base X.A X.stack s H:=
 ⟨I.ok.frames,I.ok.mod,I.bs,aat I.ok.bsz I.sz,I.stack,I.stkFree,I.hok,I.bare,λ T h=>I.base.tbls T _ (I.ok.lam T h)⟩
theorem Inv.after{Q:VK}(I:Inv X pins σ H s)(h:CE X.stack X.prog X.w H s Q u s'):EP X pins σ Q u s':=by
 obtain⟨v,H',os,bare,un,hok,r,q⟩:=h;obtain⟨hh,g,d,t,os'⟩:=s';obtain rfl:os'=s.os:=os;exact⟨v,H',I.call (h':=hh) (g':=g) (d':=d) (t':=t) (ch:=[]) un hok bare (λ b z=>absurd z (by simp)),r,q⟩
def jo(sp:Sp)(dvs:List V)(E:XK)(t:TA):TE:=λ σ H Q=>t σ H λ vs H1=>sp (vs++dvs) H1 Q E
def Binds(K:Frag)(fd:FuncData)(ps:List Str)(ds:List Value):Prop:=
 ∀ (s:Shared) (us:List Value),K.In s.heap->(us++ds).length=ps.length->BindsTo s fd ⟨us,[]⟩ (ps.zip (us++ds))
theorem Binds.all{K:Frag}(h:∀ us:List Value,us.length=ps.length->bindArgs fd ⟨us,[]⟩=pure (ps.zip us)):Binds K fd ps []:=λ s us _ hl=>by
 rw[aaB] at hl ⊢;exact .of_eq (h us hl)
def ke(CX:CXT)(X:Cx)(E:XK):Prop:=∀ (pins:List (Addr×Obj)) (σ:St) (H:Hp) (s:Shared) (e:Value) (s':Shared),Inv X pins σ H s->CX X.stack H s E e s'->X.xe e s'
section
variable    {f:Addr}    {dvs:List V} {ds:List Value} {E:XK}   {o:Expr}   
theorem uC{Q:VK}(F:FnOk X.prog X.w X.K X.mg X.base CX k f fd ps sp)(hr:Room k X.A)(hb:Binds X.K fd ps ds)(hd:Vals dvs ds)(hx:ke CX X E)
  (I:Inv X pins σ H s) (r:Vals vs us) (h:sp (vs++dvs) H Q E):wpAny (model X.prog X.w) X.A (call (.ref f) us) (EP X pins σ Q) X.xe s:=by
 have r2:Vals (vs++dvs) (us++ds):=r.append hd;have hl:(us++ds).length=ps.length:=by rw[← r2.length];exact F.len _ _ _ _ h
 refine wpAny_call (codeAny_mono (F.run X.A X.stack s H ⟨us,[]⟩ (us++ds) (vs++dvs) Q E hr I.env0 (hb s us I.kIn hl) r2 h) λ r s' hq=>?_)
 cases r with
 |error e=>exact hx pins σ H s e s' I hq
 | ok fl=>
  cases fl with
  |ret u=>exact I.after hq
  |next=>exact False.elim hq
  |brk=>exact False.elim hq
  |cont=>exact False.elim hq
theorem qo(F:FnOk X.prog X.w X.K X.mg X.base CX k f fd ps sp)(hr:Room k X.A)(hg:Gl X x)(hm:X.mg x=some (.ref f))(hk:PySem.W.keepIn X.K (.ref f)=true)(hb:Binds X.K fd ps ds)(hd:Vals dvs ds)(hx:ke CX X E)
  (ha:PA X (e::es) t) (hdb:autoParam ((x==("__debug__" : Str))=false) L2.aD._auto_1) (he:autoParam (starEach (e::es) X.env=(false,eval e X.env)::starEach es X.env) L2.aR._auto_1) (hpl:autoParam ((backTo pos (starEach es X.env)).any (·.1)=false) L2.aR._auto_1) :
  PE X (.Call (.Name x p) (e::es) [] pos) (jo sp dvs E t):=by
 intro pins s σ H Q I h;refine wpAny_Call_Name_kw (pY I hg hm ?_ hdb);refine PySem.W.callWith_K (h₀:=X.base) I.ok.mod.kin hk (thn (ha pos pins s σ H _ I h) λ us s1 ⟨vs,H1,I1,r,q⟩=>⟨I1.kIn,?_⟩) he hpl;exact uC F hr hb hd hx I1 r q
end
section
variable    {f:Addr}  {ks:List Str}  {E:XK}  {kpos:Pos} {o:Expr}  {kws:List Keyword}  {tk:TA} {nm:Option Str}
variable {g:List Value->List Value->List Value} {gV:List V->List V->List V}
end
structure FnScope(N P:List Str)(sc:Scope):Prop where
 kind:sc.kind=.function
 co:sc.isCoroutine=false
 gen:sc.isGenerator=false
 nd:N.Nodup
 pre:N.take P.length=P
 par:∀ x∈P,sc.names.lookup x=some .local∨sc.names.lookup x=some .cell
 nofree:∀ y∈sc.names,y.2≠.free
theorem fQ{kindOf:Str->Option NameKind}{x:Str}:∀ {binds:List (Str×Value)} {m:Str->Option Value},(∀ v,(x,v)∉binds)->bindL kindOf binds m x=m x
 |[],_,_=>rfl
 | (n,v)::r,m,h=>by
  unfold bindL;rw[fQ λ w hw=>h w (aag _ hw)];split
  ·have:x≠n:=by rintro rfl;exact h v aac
   simp[this]
  ·rfl
theorem fR{kindOf:Str->Option NameKind}{x:Str}:∀ {binds:List (Str×Value)} {m:Str->Option Value},(∀ v,(x,v)∉binds)->bindC kindOf binds m x=m x
 |[],_,_=>rfl
 | (n,v)::r,m,h=>by
  unfold bindC;rw[fR λ w hw=>h w (aag _ hw)];split
  ·rfl
  ·have:x≠n:=by rintro rfl;exact h v aac
   simp[this]
theorem fS{kindOf:Str->Option NameKind}{x:Str}{v:Value}:∀ {P:List Str} {vs:List Value} {i:Nat} {m:Str->Option Value},P.Nodup->P[i]?=some x->vs[i]?=some v->kindOf x=some .local ->
  bindL kindOf (P.zip vs) m x=some v
 |[],_,_,_,_,h,_,_=>by simp at h
 |_::_,[],_,_,_,_,h,_=>by simp at h
 | p::P,w::vs,0,m,nd,h1,h2,hk=>by
  simp at h1 h2;subst h1;subst h2;show bindL kindOf ((p,w)::P.zip vs) m p=_;unfold bindL;rw[fQ λ v hv=>(List.nodup_cons.mp nd).1 (List.of_mem_zip hv).1,if_pos hk];simp
 | p::P,w::vs,i+1,m,nd,h1,h2,hk=>by
  show bindL kindOf ((p,w)::P.zip vs) m x=_;unfold bindL;exact fS (i:=i) (abS.mp nd).2 (by exists h1) (by exists h2) hk
theorem fT{kindOf:Str->Option NameKind}{x:Str}{v:Value}:∀ {P:List Str} {vs:List Value} {i:Nat} {m:Str->Option Value},P.Nodup->P[i]?=some x->vs[i]?=some v->kindOf x≠some .local ->
  bindC kindOf (P.zip vs) m x=some v
 |[],_,_,_,_,h,_,_=>by simp at h
 |_::_,[],_,_,_,_,h,_=>by simp at h
 | p::P,w::vs,0,m,nd,h1,h2,hk=>by
  simp at h1 h2;subst h1;subst h2;show bindC kindOf ((p,w)::P.zip vs) m p=_;unfold bindC;rw[fR λ v hv=>(List.nodup_cons.mp nd).1 (List.of_mem_zip hv).1,if_neg hk];simp
 | p::P,w::vs,i+1,m,nd,h1,h2,hk=>by
  show bindC kindOf ((p,w)::P.zip vs) m x=_;unfold bindC;exact fT (i:=i) (abS.mp nd).2 (by exists h1) (by exists h2) hk
def bg(N:List Str)(vs:List V):St:=vs.map some++List.replicate (N.length - vs.length) none
def fU(CX:CXT)(P:Program)(w:World)(K:Frag)(mg:Str->Option Value)(base:Heap)(N:List Str)(qual:Str)(scope:Scope)(f:Addr)(cd:Value)(A:Around)(outer:List Env)(s:Shared)(H:Hp)(E:XK):Cx where
 prog:=P
 w:=w
 K:=K
 mg:=mg
 base:=base
 A:=A.deeper (envOfC qual scope s.heap.objs.size f cd)
 N:=N
 s₀:=s
 H₀:=H
 env:=envOfC qual scope s.heap.objs.size f cd
 outer:=outer
 stack:=envOfC qual scope s.heap.objs.size f cd::outer
 ex:=[]
 calm:=true
 fn:=λ _=>true
 pn:=[]
 xe:=λ e s'=>wpAny (model P w) (A.deeper (envOfC qual scope s.heap.objs.size f cd)) (leaving (envOfC qual scope s.heap.objs.size f cd) e) (λ _ s''=>CX outer H s E e s'') (λ e' s''=>CX outer H s E e' s'') s'
theorem iF{sc:Scope}{n:Nat}(h:sc.names.lookup x=some .cell):∃ c,(cellsFrom n sc.names []).lookup x=some c:=by
 have q:=PySem.W.cellsFrom_some sc.names n [] (.inl h);exact abZ.mp q
theorem fV{K:Frag}{f:Addr}{cd:Value}{outer:List Env}{s1:Shared}{E:XK}
  (S:FnScope N ps scope) (hd:A.handled=none) (e0:Env0 P w K mg base A outer s H) (hl:vs.length=ps.length) (r:Vals vs us)
  (x:InCallC s s.heap.objs.size (bindL (envOfC qual scope s.heap.objs.size f cd).kindOf (ps.zip us) λ _=>none) (cellsFrom (s.heap.objs.size+1) scope.names []) (bindC (envOfC qual scope s.heap.objs.size f cd).kindOf (ps.zip us) λ _=>none) s1) :
  Inv (fU CX P w K mg base N qual scope f cd A outer s H E) [] (bg N vs) H s1:=by
 have hpl:ps.length<=N.length:=by have:=congrArg List.length S.pre;rw[aap] at this;nofun
 obtain⟨h1,tk,rfl,hk⟩:=x.done;have noA:∀ b:Addr,b∉(fU CX P w K mg base N qual scope f cd A outer s H E).ex:=λ b z=>absurd (show b∈([]:List Addr) from z) (by simp)
 refine⟨⟨e0.mod,S.kind,rfl,rfl,aad _,λ y z c h1 h2=>?_,λ y hy=>?_,λ y c _ h=>?_,λ _=>hd,Around.frames_deeper e0.frames,.inr ⟨rfl,rfl⟩,λ b z=>absurd z (noA b),e0.bs,e0.bsz,λ b _ _=>noA b,λ b z=>absurd z (noA b),e0.funs,e0.frf,e0.lam⟩,
  rfl,e0.bare,Un.kept hk,⟨_,x.toInCall.ns,λ i y v h1 h2 h3=>?_⟩,λ y c h=>⟨_,x.cell y c h⟩,e0.hok.fresh (aad _),λ y c h=>?_,λ p hp=>absurd (show p∈([]:List (Addr×Obj)) from hp) (by simp),e0.hok.kept hk,?_⟩
 ·exact name_of_addr x.apart (aaM h1) (aaM h2)
 ·have hy:scope.names.lookup y=some .cell∨scope.names.lookup y=some .free:=hy;rcases hy with hy|hy
  ·exact iF hy
  ·exact absurd rfl (S.nofree _ (aaM hy))
 ·exact abk (x.above y c (aaM h))
 ·have hi:i<vs.length:=by
   unfold bg at h2;by_cases hi:i<vs.length
   ·exact hi
   ·rw[abJ (by exists hi)] at h2;rw[List.getElem?_replicate] at h2;split at h2 <;> cases h2
  have ha:vs[i]?=some v:=by
   unfold bg at h2;rw[abP (by exists hi),abK] at h2
   cases e:vs[i]? with
   |none=>rw[e] at h2;cases h2
   |some a=>rw[e] at h2;cases h2;rfl
  obtain⟨u,hu,rv⟩:=r.get ha
  have hp:ps[i]?=some y:=by
   rw[← S.pre,List.getElem?_take_of_lt (by nofun)];exact h1
  have ndP:ps.Nodup:=by rw[← S.pre];exact S.nd.sublist (List.take_sublist _ _)
  refine⟨u,rv,?_⟩;rcases S.par y (abT hp) with k|k
  ·exact .inl ⟨k,fS ndP hp hu k⟩
  ·obtain⟨c,e⟩:=iF (n:=s.heap.objs.size+1) k;refine .inr ⟨.inl k,c,e,?_⟩;have q:=x.cell y c e;rw[fT ndP hp hu (by show scope.names.lookup y≠_;rw[k];decide)] at q;exact q
 ·exact e0.hok.fresh (abk (x.above y c (aaM h)))
 ·unfold bg;show _=N.length;rw[aan,abw,aaQ];nofun
theorem uD{K:Frag}{f:Addr}{params:Arguments}{dV kV doc pm cdv ct oc:Value}{an od:Option Addr}
  {osl:Array (Option Value)}   (lk:K.lookup f=some ⟨oc,od,.func (PySem.W.fnOf name qual params body scope dV kV doc pm an cdv ct),osl⟩) (hcd:PySem.W.codeIn K cdv qual=true) (S:FnScope N ps scope)
  (len:∀ vs H Q E,sp vs H Q E->vs.length=ps.length)
  (hbody:∀ (A:Around) (outer:List Env) (s:Shared) (H:Hp) (vs:List V) (Q:VK) (E:XK),Room k (A.deeper (envOfC qual scope s.heap.objs.size f cdv))->sp vs H Q E ->
   ∃ t,PSs (fU CX P w K mg base N qual scope f cdv A outer s H E) body t/\t { nx:=λ _ H'=>Q .non H',rt:=Q } (bg N vs) H) :
  FnOk P w K mg base CX (k+1) f (PySem.W.fnOf name qual params body scope dV kV doc pm an cdv ct) ps sp:=by
 refine⟨len,λ A outer s H args us vs Q E hr e0 hb r hsp=>?_⟩;have hl:=len _ _ _ _ hsp;have KX:K.In s.heap:=e0.mod.kin.keeps λ b o e=>(e0.bs b o e).1;have lim:s.heap.NoLimit:=e0.mod.nolimit.keeps λ b o e=>(e0.bs b o e).1
 have hkind:∀ y∈ps.zip us,scope.names.lookup y.1=some .local∨(scope.names.lookup y.1=some .cell/\((cellsFrom (s.heap.objs.size+1) scope.names []).lookup y.1).isSome=true):=fun⟨n,v⟩ hy=>by
  rcases S.par n (List.of_mem_zip hy).1 with q|q
  ·exact .inl q
  ·exact .inr ⟨q,PySem.W.cellsFrom_some _ _ _ (.inl q)⟩
 refine codeAny_call_function hr.depth (KX _ _ lk) rfl S.co S.gen rfl (PySem.W.codeRec_of KX hcd) (hb _ _ _ _ ?_);refine wpAny_newFunctionEnv_cells S.kind hkind λ env he s1 x=>?_;subst he;refine⟨lim.keeps x.toInCall.keep,codeAny_func ?_⟩;obtain⟨t,ht,hq⟩:=hbody A outer s H vs Q E (hr.deeper _) hsp;have I:Inv (fU CX P w K mg base N qual scope f cdv A outer s H E) [] (bg N vs) H s1:=fV S hr.hd e0 hl r x;refine aa0 (ht [] s1 (bg N vs) H _ I hq) (λ fl s' hs=>?_) λ e s' hs=>hs
 have fin:∀ {σ':St} {H':Hp} {v:V} {u:Value},Inv (fU CX P w K mg base N qual scope f cdv A outer s H E) [] σ' H' s'->RelV v u->Q v H'->CE outer P w H s Q u s':=
  fun {σ' H' v u} J rv q=>⟨v,H',J.os,J.bare,J.base,J.hok,rv,q⟩
 cases fl with
 | ret u=>
  obtain⟨v,σ',H',J,rv,q⟩:=hs;exact fin J rv q
 | next=>
  obtain⟨σ',H',J,q⟩:=hs;exact fin (v:=V.non) (u:=Value.none) J rfl q
 | brk=>
  obtain⟨_,_,_,q⟩:=hs;exact False.elim q
 | cont=>
  obtain⟨_,_,_,q⟩:=hs;exact False.elim q
section
variable       {id T:String} {r:List V->Hp->VK->Prop}
def tCB(r:List V->Hp->VK->Prop)(t:TA):TE:=λ σ H Q=>t σ H λ vs H1=>r vs H1 Q
theorem mT(hc:CallR X (.builtin id) r)(hg:Gl X x)(hm:X.mg x=none)(hv:bootBuiltins x=some (.builtin id))(ha:PA X (e::es) t)(hn:autoParam (x ≠ "__name__") L2.aD._auto_1)(hdb:autoParam ((x==("__debug__" : Str))=false) L2.aD._auto_1)
  (he:autoParam (starEach (e::es) X.env=(false,eval e X.env)::starEach es X.env) L2.aR._auto_1) (hpl:autoParam ((backTo pos (starEach es X.env)).any (·.1)=false) L2.aR._auto_1):PE X (.Call (.Name x p) (e::es) [] pos) (tCB r t):=by
 intro pins s σ H Q I h;refine wpAny_Call_Name_kw (fO I hg hm hv ?_ hn hdb);exact PyProof.Rows.callWith_builtin1 (thn (ha pos pins s σ H _ I h) λ us s1 ⟨vs,H1,I1,r1,q1⟩=>hc pins s1 σ H1 vs us Q I1 r1 q1) he hpl
theorem kg(hc:CallR X (.type T) r)(hg:Gl X x)(hm:X.mg x=none)(hv:bootBuiltins x=some (.type T))(ha:PA X (e::es) t)(hn:autoParam (x ≠ "__name__") L2.aD._auto_1)(hdb:autoParam ((x==("__debug__" : Str))=false) L2.aD._auto_1)
  (he:autoParam (starEach (e::es) X.env=(false,eval e X.env)::starEach es X.env) L2.aR._auto_1) (hpl:autoParam ((backTo pos (starEach es X.env)).any (·.1)=false) L2.aR._auto_1):PE X (.Call (.Name x p) (e::es) [] pos) (tCB r t):=by
 intro pins s σ H Q I h;refine wpAny_Call_Name_kw (fO I hg hm hv ?_ hn hdb);exact PyProof.Rows.callWith_type1 (thn (ha pos pins s σ H _ I h) λ us s1 ⟨vs,H1,I1,r1,q1⟩=>hc pins s1 σ H1 vs us Q I1 r1 q1) he hpl
end
end L2
namespace HT
open PySem PyProof.Rows
variable{t sl:Addr}{Q:Value->Shared->Prop}{vl vu:Value}{lo hi:Option Int}
section
open PySem.SeqAt
open PySem.AutoSeq1 (wpAny_loadPart')
open PySem.MeetsSeq PySem.MeetsSeq2 PySem.MeetsSeq3
end
section
variable {prog:Program} {w:World} {A:Around} {E:Value->Shared->Prop} {s:Shared}
theorem cat_tup{b:Addr}{vs ws:List Value}(ht:IsTup s.heap t vs.toArray)(hb:IsTup s.heap b ws.toArray)(hv:vs≠[])
  (h1:ws=[]->Q (.ref t) s) (h2:ws≠[]->Q (.ref s.heap.objs.size) { s with heap:=s.heap.push { cls:=.type "tuple", data:=.seq (vs++ws).toArray } })
  (hsz:vs.length+ws.length<=sizeLine):wpAny (model prog w) A (binaryOp .Add (.ref t) (.ref b)) Q E s:=by
 obtain⟨⟨cls,dd,data,sl⟩,ho,hc,n,hd⟩:=id ht;obtain⟨⟨cls2,dd2,data2,sl2⟩,ho2,hc2,n2,hd2⟩:=id hb;simp only at hc hd hc2 hd2;subst hc hd hc2 hd2;have e:vs.toArray++ws.toArray=(vs++ws).toArray:=by simp
 by_cases hw:ws=[]
 ·exact concat_meets ⟨_,ho,rfl⟩ ⟨_,ho2,rfl⟩ noFill_tuple_add seq_tuple_add PySem.F.slot_tuple_add PySem.F.entry_tuple_add (PySem.F.args_tuple_add_2 _ _)
   (tuple_addW1 t b vs.toArray ws.toArray n n2 dd dd2 sl sl2 (by exists hv) (by simp[hw])) ⟨ho,ho2,h1 hw⟩
 ·refine concat_meets ⟨_,ho,rfl⟩ ⟨_,ho2,rfl⟩ noFill_tuple_add seq_tuple_add PySem.F.slot_tuple_add PySem.F.entry_tuple_add (PySem.F.args_tuple_add_2 _ _)
   (tuple_addW2 t b vs.toArray ws.toArray n n2 dd dd2 sl sl2 (by exists hv) (by exists hw) (by rw[abH,abH];exact hsz)) ⟨ho,ho2,?_⟩
  rw[e];exact h2 hw
def sIx(n d:Nat):Option Int->Nat
 |none=>d
 |some v=>if v<0 then (v+(n:Int)).toNat else min v.toNat n
theorem sIx_le(n d:Nat)(hd:d<=n)(o:Option Int):sIx n d o<=n:=by
 cases o with
 |none=>exact hd
 | some v=>
  show (if v<0 then (v+(n:Int)).toNat else min v.toNat n)<=n;by_cases hv:v<0
  ·rw[if_pos hv];nofun
  ·rw[if_neg hv];exact Nat.min_le_right _ _
theorem clip_eq(v:Int)(n d:Nat):(if v<0 then max (v+(n:Int)) 0 else min v (n:Int))=((sIx n d (some v):Nat):Int):=by
 show (if v<0 then max (v+(n:Int)) 0 else min v (n:Int))=(((if v<0 then (v+(n:Int)).toNat else min v.toNat n):Nat):Int);by_cases hv:v<0
 ·simp only[if_pos hv];nofun
 ·simp only[if_neg hv];nofun
theorem jp(lo hi:Option Int)(n:Nat):Builtin.Slice.sliceAdjust lo hi 1 (n:Int)=(((sIx n 0 lo:Nat):Int),((sIx n n hi:Nat):Int)):=by
 have h1:¬ ((1:Int)<0):=by nofun
 unfold Builtin.Slice.sliceAdjust;simp only[h1,if_false];refine Prod.ext ?_ ?_
 ·cases lo with
  |none=>rfl
  |some v=>exact clip_eq v n 0
 ·cases hi with
  |none=>rfl
  |some v=>exact clip_eq v n n
theorem jq(i j:Nat):Builtin.Slice.slicePlaces (i:Int) (j:Int) 1=j - i:=by
 unfold Builtin.Slice.slicePlaces;have h1:(1:Int) > 0:=by nofun
 simp only[h1,if_true,Int.ediv_one];split <;> nofun
theorem dZ{v:Value}{o:Option Int}{Q:Option Int->Shared->Prop}(p:IsPart v o)(h:Q o s):wpAny (model prog w) A (Builtin.Slice.slicePartIndex v) Q E s:=by
 cases p with
 |none=>exact slicePart_none h
 |int i t=>exact slicePart_int h
theorem cM{n:Nat}{Q:Int×Int×Nat->Shared->Prop}(hs:s.heap.IsSliceOf sl vl vu .none)(pl:IsPart vl lo)(pu:IsPart vu hi)
  (h:Q (((sIx n 0 lo:Nat):Int),1,sIx n n hi - sIx n 0 lo) s):wpAny (model prog w) A (Builtin.Slice.sliceApplied (.ref sl) (pure (n:Int))) Q E s:=by
 obtain⟨os,hos,hcs,hds⟩:=id hs;unfold Builtin.Slice.sliceApplied Builtin.Slice.sliceFields;refine aaa (aaa (wpAny_field hos hds (x:=vl) rfl (aaa (wpAny_field hos hds (x:=vu) rfl (aaa (wpAny_field hos hds (x:=.none) rfl (aab ?_)))))));refine aaa (slicePart_none ?_);show wpAny _ _ (if ((1:Int)==0)=true then _ else _) _ _ s;rw[if_neg (by decide)];refine aaa (dZ pl (aaa (dZ pu (aaa (aab ?_)))));show wpAny _ _ (match Builtin.Slice.sliceAdjust lo hi 1 (n:Int) with|(lo,hi)=>pure (lo,(1:Int),Builtin.Slice.slicePlaces lo hi 1)) _ _ s;rw[jp lo hi n];show wpAny _ _ (pure (((sIx n 0 lo:Nat):Int),(1:Int),Builtin.Slice.slicePlaces ((sIx n 0 lo:Nat):Int) ((sIx n n hi:Nat):Int) 1)) _ _ s;rw[jq];exact aab h
theorem mU(xs:Array Value)(i k:Nat):((List.range k).filterMap λ (m:Nat)=>xs[((i:Int)+(m:Int)*1).toNat]?).toArray=((xs.toList.drop i).take k).toArray:=by
 have e:(λ (m:Nat)=>xs[((i:Int)+(m:Int)*1).toNat]?)=λ m=>xs[i+m]?:=by
  funext m
  have:((i:Int)+(m:Int)*1).toNat=i+m:=by nofun
  rw[this]
 rw[e];have:=pick_run xs i k;rw[List.filterMap_map] at this;have e2:((λ x=>xs[x]?) ∘ λ x=>i+x)=λ m=>xs[i+m]?:=rfl;rw[e2] at this;rw[this]
theorem getItem_tuple_cut{items:Array Value}(ht:IsTup s.heap t items)(hs:s.heap.IsSliceOf sl vl vu .none)(pl:IsPart vl lo)(pu:IsPart vu hi)
  (hw:¬ (sIx items.size 0 lo=0/\sIx items.size items.size hi=items.size))
  (h:Q (.ref s.heap.objs.size) { s with heap:=s.heap.push { cls:=.type "tuple", data:=.seq ((items.toList.drop (sIx items.size 0 lo)).take (sIx items.size items.size hi - sIx items.size 0 lo)).toArray } })
  (hsz:items.size<=sizeLine):wpAny (model prog w) A (getItem (.ref t) (.ref sl)) Q E s:=by
 have htake:sizeOk (.seq ((items.toList.drop (sIx items.size 0 lo)).take (sIx items.size items.size hi - sIx items.size 0 lo)).toArray):=by
  show ((items.toList.drop (sIx items.size 0 lo)).take (sIx items.size items.size hi - sIx items.size 0 lo)).toArray.size<=sizeLine;rw[abH,aap,aaX,abz];omega
 have hj:sIx items.size items.size hi<=items.size:=sIx_le _ _ (aad _) hi;obtain⟨os,hos,hcs,hds⟩:=id hs;have hTs:s.TypeIs (.ref sl) "slice" := ⟨os,hos,hcs⟩;unfold getItem
 try with_reducible refine aaq ?_
 first|refine aaa (aab ?_)|skip
 refine aaa (wpAny_sequenceKey ht.typeIs (by decide) ?_)
 refine aaa (wpAny_callSpecial?_slot (name:=Str.ofString "__getitem__") ht.typeIs PyProof.Rows.slot_tuple_getitem
  (aaC PyProof.Rows.slot_tuple_getitem ht.typeIs entry_tuple_getitem ?_ (args_tuple_getitem _ _)))
 show wpAny _ _ (Builtin.Tuple.tupleItemsOf (.ref t) >>= _) _ _ s;refine aaa (tupleItemsOf_ ht ?_);refine aaa (wpAny_typeOf hTs ?_);rw[if_pos (by decide)];refine aaa (cM hs pl pu ?_)
 have hno:¬ ((((sIx items.size 0 lo:Nat):Int)==0&&(1:Int)==1&&(sIx items.size items.size hi - sIx items.size 0 lo)==items.size)=true):=by
  intro q;rw[abR,abR] at q;have q1:((sIx items.size 0 lo:Nat):Int)=0:=eq_of_beq q.1.1;have q2:sIx items.size items.size hi - sIx items.size 0 lo=items.size:=eq_of_beq q.2;exact hw ⟨by omega,by omega⟩
 show wpAny _ _ (if (((sIx items.size 0 lo:Nat):Int)==0&&(1:Int)==1&&(sIx items.size items.size hi - sIx items.size 0 lo)==items.size)=true then _ else _) _ _ s;rw[if_neg hno,mU]
 first
  |exact aaa (m:=Builtin.Tuple.tupleExact _) (aaF (aab ⟨_,rfl,aab h⟩) htake)
  |exact aaa (m:=Builtin.Tuple.tupleExact _) (aaF (aaa (aab (aab ⟨_,rfl,aab h⟩))) htake)
  |exact aaa (aaa (m:=Builtin.Tuple.tupleExact _) (aaF (aab (aab ⟨_,rfl,aab h⟩)) htake))
  |exact aaa (aaa (m:=Builtin.Tuple.tupleExact _) (aaF (aab ⟨_,rfl,aab h⟩) htake))
end
end HT
namespace L2
open PySem PySem.Spec PyProof.Rows
variable{X:Cx}{e:Expr}{pos apos cpos:Pos}{r:V->Option Int->Option Int->Hp->VK->Prop}{xs:List (List Key×Addr×Value)}{us its its':List Value}{n j t':Nat}{i:Int}{α:Type}{pins:List (Addr×Obj)}{σ:St}{H H':Hp}{s:Shared}{ys:List V}{A:Around}{y x:V}{u v:Value}{T:String}{o:Option V}{b a:Addr}{w:World}{E Q:Value->Shared->Prop}{P:Program}{k:Key}{kvs:List (List Key×V)}{h':Heap}{td ty tv:TE}{trs:List (TE×TE)}
abbrev TO:=St->Hp->(Option Int->Hp->Prop)->Prop
def PO(X:Cx)(e:Option Expr)(t:TO):Prop:=
 ∀ (pins:List (Addr×Obj)) (s:Shared) (σ:St) (H:Hp) (Q:Option Int->Hp->Prop),Inv X pins σ H s->t σ H Q ->
  wpAny (model X.prog X.w) X.A (evalPart e X.env) (λ u s'=>∃ o H',Inv X pins σ H' s'/\IsPart u o/\Q o H') X.xe s
def h8:TO:=λ _ H Q=>Q none H
def qp(t:TE):TO:=λ σ H Q=>t σ H λ x H1=>∃ i,x=.int i/\Q (some i) H1
section
variable   {te:TE} {lo hi:Option Expr} {tl th:TO} {p2:Pos}
theorem qq:PO X none h8:=by
 intro pins s σ H Q I h;rw[evalPart_none];exact aab ⟨none,H,I,.none,h⟩
theorem qr(h:PE X e te):PO X (some e) (qp te):=by
 intro pins s σ H Q I hw;rw[evalPart_some];refine thn (h pins s σ H _ I hw) λ u s1 ⟨x,H1,I1,r1,q1⟩=>?_;obtain⟨i,rfl,q⟩:=q1;obtain⟨t,rfl⟩:=r1;exact⟨some i,H1,I1,.int i t,q⟩
def SlR(X:Cx)(r:V->Option Int->Option Int->Hp->VK->Prop):Prop:=
 ∀ (pins:List (Addr×Obj)) (s:Shared) (σ:St) (H:Hp) (x:V) (v vl vu:Value) (lo hi:Option Int) (sl:Addr) (Q:VK),Inv X pins σ H s->RelV x v->s.heap.IsSliceOf sl vl vu .none->IsPart vl lo->IsPart vu hi->r x lo hi H Q ->
  ∃ T id,typeLookup (.type T) "__getitem__" = pure (some (.builtin id))/\s.TypeIs v T/\wpAny (model X.prog X.w) X.A (getItem v (.ref sl)) (EP X pins σ Q) X.xe s
theorem SlR.or{r':V->Option Int->Option Int->Hp->VK->Prop}(h:SlR X r)(h':SlR X r'):SlR X (λ x lo hi H Q=>r x lo hi H Q∨r' x lo hi H Q):=by
 intro pins s σ H x v vl vu lo hi sl Q I rx hs pl pu q;rcases q with q|q
 ·exact h pins s σ H x v vl vu lo hi sl Q I rx hs pl pu q
 ·exact h' pins s σ H x v vl vu lo hi sl Q I rx hs pl pu q
def tSl(r:V->Option Int->Option Int->Hp->VK->Prop)(te:TE)(tl th:TO):TE:=λ σ H Q=>te σ H λ x H1=>tl σ H1 λ l H2=>th σ H2 λ u H3=>r x l u H3 Q
theorem mV(hr:SlR X r)(he:PE X e te)(hl:PO X lo tl)(hu:PO X hi th):PE X (.Subscript e (.Slice lo hi none p2) pos) (tSl r te tl th):=by
 intro pins s σ H Q I h;refine Subscript_ (thn (he pins s σ H _ I h) λ v s1 ⟨x,H1,I1,r1,q1⟩=>?_);refine wpAny_Slice (thn (hl pins s1 σ H1 _ I1 q1) λ vl s2 ⟨l,H2,I2,pl,q2⟩=>thn (hu pins s2 σ H2 _ I2 q2) λ vu s3 ⟨u,H3,I3,pu,q3⟩=>?_);rw[evalPart_none];refine aab ?_;have I4:Inv X pins σ H3 { s3 with heap:=s3.heap.push { cls:=.type "slice", data:=.fields #[vl,vu,.none] } }:=I3.kept (t':=s3.toks) λ b ob q=>abv _ q;obtain⟨T,id,hT,ht,hg⟩:=hr pins { s3 with heap:=s3.heap.push { cls:=.type "slice", data:=.fields #[vl,vu,.none] } } σ H3 x v vl vu l u s3.heap.objs.size Q I4 r1 (Heap.IsSliceOf.new ..) pl pu q3;show wpAny (model X.prog X.w) X.A (subscriptTail e (.Slice lo hi none p2) v (.ref s3.heap.objs.size)) (EP X pins σ Q) X.xe { s3 with heap:=s3.heap.push { cls:=.type "slice", data:=.fields #[vl,vu,.none] } };exact tail_any (ops:=[.ref s3.heap.objs.size,v]) ht hT hg (by with_unfolding_all rfl)
def tS(xs:List V)(lo hi:Option Int):List V:=(xs.drop (HT.sIx xs.length 0 lo)).take (HT.sIx xs.length xs.length hi - HT.sIx xs.length 0 lo)
theorem cY(xs:List V)(lo hi:Option Int):(tS xs lo hi).length<=xs.length:=by
 unfold tS;rw[aap,aaX];nofun
def za(K:Frag):V->Option Int->Option Int->Hp->VK->Prop:=λ x lo hi H Q=>∃ a xs,x=.ref a/\SqT K H a xs /\
 ¬ (HT.sIx xs.length 0 lo=0/\HT.sIx xs.length xs.length hi=xs.length)/\∀ p,H p=none->Q (.ref p) (upd H p (.tup (tS xs lo hi)))
theorem uE:SlR X (za X.K):=by
 intro pins s σ H x v vl vu lo hi sl Q I rx hs pl pu h;obtain⟨a,xs,rfl,hx,hw,q⟩:=h;cases rx;obtain⟨its,r,ht,hz⟩:=I.tuple hx;have hlen:its.toArray.size=xs.length:=by rw[abH];exact r.length.symm
 refine⟨"tuple", _,PyProof.Rows.slot_tuple_getitem.lookup,ht.typeIs,?_⟩;refine HT.getItem_tuple_cut ht hs pl pu (by rw[hlen];exact hw) ?_ (by rw[hlen];exact hz);rw[hlen];refine⟨.ref s.heap.objs.size,_,I.laid (t':=s.toks) (o:=.tup (tS xs lo hi)) (λ b ob q=>abv _ q) (aad _) ?_,rfl,q _ (I.hok.fresh (aad _))⟩;exact⟨aat (cY xs lo hi) hz,_,(r.drop (HT.sIx xs.length 0 lo)).take (HT.sIx xs.length xs.length hi - HT.sIx xs.length 0 lo),IsTup.new _ _⟩
def uF(K:Frag):R2:=λ x y H Q=>∃ a b xs ys,x=.ref a/\y=.ref b/\SqT K H a xs/\SqT K H b ys/\xs≠[]/\xs.length+ys.length<=sizeLine /\
 (ys=[]->Q (.ref a) H)/\(ys≠[]->∀ p,H p=none->Q (.ref p) (upd H p (.tup (xs++ys))))
theorem Vals.nil_iff{xs:List V}(r:Vals xs us):us=[]↔xs=[]:=by
 cases r with
 |nil=>simp
 |cons _ _=>simp
theorem qt:OpR X (binaryOp .Add) (uF X.K):=by
 intro pins s σ H x y v u Q I rx ry h;obtain⟨a,b,xs,ys,rfl,rfl,ha,hb,hx,hz,q1,q2⟩:=h;cases rx;cases ry;obtain⟨its,r1,p1,_⟩:=I.tuple ha;obtain⟨its2,r2,p2,_⟩:=I.tuple hb;refine HT.cat_tup p1 p2 (λ z=>hx (r1.nil_iff.mp z)) (λ z=>⟨.ref a,H,I,rfl,q1 (r2.nil_iff.mp z)⟩) (λ z=>?_) (by rw[← r1.length,← r2.length];exact hz);refine⟨.ref s.heap.objs.size,_,I.laid (t':=s.toks) (o:=.tup (xs++ys)) (λ b ob q=>abv _ q) (aad _) ?_,rfl,q2 (λ w=>z (r2.nil_iff.mpr w)) _ (I.hok.fresh (aad _))⟩;exact⟨by rw[aan];exact hz,_,r1.append r2,IsTup.new _ _⟩
end
def ixN(n:Nat)(i:Int):Option Nat:=if 0<=i then (if i<n then some i.toNat else none) else if -(n:Int)<=i then some (i+n).toNat else none
def atI{α:Type}(xs:List α)(i:Int):Option α:=(ixN xs.length i).bind λ j=>xs[j]?
theorem kh(h:ixN n i=some j):seqIndex? i n=some j/\j<n/\-(n:Int)<=i/\i<n:=by
 unfold ixN at h;by_cases h0:0<=i
 ·rw[if_pos h0] at h;by_cases h1:i<n
  ·rw[if_pos h1] at h;have e:i.toNat=j:=aah h;exact⟨by rw[seqIndex_of h0 h1,e],by nofun,by nofun,h1⟩
  ·rw[if_neg h1] at h;cases h
 ·rw[if_neg h0] at h;by_cases h1:-(n:Int)<=i
  ·rw[if_pos h1] at h;have e:(i+n).toNat=j:=aah h;exact⟨by rw[seqIndex_neg (by nofun) h1,e],by nofun,h1,by nofun⟩
  ·rw[if_neg h1] at h;cases h
theorem ie{xs:List α}{v:α}(h:atI xs i=some v):∃ j,seqIndex? i xs.length=some j/\xs[j]?=some v/\j<xs.length/\-(xs.length:Int)<=i/\i<xs.length:=by
 unfold atI at h
 cases e:ixN xs.length i with
 |none=>rw[e] at h;cases h
 | some j=>
  rw[e] at h;obtain⟨h1,h2,h3,h4⟩:=kh e;exact⟨j,h1,h,h2,h3,h4⟩
theorem ki{xs:List α}{v:α}(h:xs[j]?=some v):atI xs (j:Int)=some v:=by
 have hj:j<xs.length:=(abE.mp h).1
 have e:ixN xs.length (j:Int)=some j:=by
  unfold ixN;rw[if_pos (by nofun),if_pos (by nofun)];simp
 unfold atI;rw[e];exact h
def qu(b:Expr):Prop:=∀ o i,subscripted b false o i=operate [o,i] (getItem o i)
def IxR(X:Cx)(r:R2):Prop:=
 ∀ (value slice:Expr) (pins:List (Addr×Obj)) (s:Shared) (σ:St) (H:Hp) (x y:V) (v u:Value) (Q:VK),Inv X pins σ H s->RelV x v->RelV y u->r x y H Q ->
  subscripted slice false v u=operate [v,u] (getItem v u)->wpAny (model X.prog X.w) X.A (subscriptTail value slice v u) (EP X pins σ Q) X.xe s
def MtR(X:Cx)(id:String)(r:V->List V->Hp->VK->Prop):Prop:=
 ∀ (pins:List (Addr×Obj)) (s:Shared) (σ:St) (H:Hp) (x:V) (xs:List V) (v:Value) (us:List Value) (Q:VK),Inv X pins σ H s->RelV x v->Vals xs us->r x xs H Q ->
  wpAny (model X.prog X.w) X.A (call (.builtin id) (v::us)) (EP X pins σ Q) X.xe s
section
variable  {a b:Expr} {ta tb:TE} 
theorem IxR.or{r r':R2}(h:IxR X r)(h':IxR X r'):IxR X (λ x y H Q=>r x y H Q∨r' x y H Q):=by
 intro value slice pins s σ H x y v u Q I rx ry q hs;rcases q with q|q
 ·exact h value slice pins s σ H x y v u Q I rx ry q hs
 ·exact h' value slice pins s σ H x y v u Q I rx ry q hs
theorem uG{r:R2}(hr:IxR X r)(ha:PE X a ta)(hb:PE X b tb)(hs:qu b):PE X (.Subscript a b pos) (tOp r ta tb):=by
 intro pins s σ H Q I h;exact Subscript_ (y3 ha hb I h λ v u s2 x y H2 I2 rx ry q=>hr a b pins s2 σ H2 x y v u Q I2 rx ry q (hs _ _))
def zb(K:Frag):R2:=λ x y H Q=>∃ p xs i v,x=.ref p/\y=.int i/\SqL K H p xs/\atI xs i=some v/\Q v H
def zc(K:Frag):R2:=λ x y H Q=>∃ p xs i v,x=.ref p/\y=.int i/\SqT K H p xs/\atI xs i=some v/\Q v H
def zd:R2:=λ x y H Q=>∃ z i c,x=.str z/\y=.int i/\z.length<=sizeLine/\atI z.cps.toList i=some c/\Q (.str ⟨#[c]⟩) H
theorem qv:IxR X (zb X.K):=by
 intro value slice pins s σ H x y v u Q I rx ry h hs;obtain⟨p,xs,i,z,rfl,rfl,hq,he,q⟩:=h;cases rx;obtain⟨t,rfl⟩:=ry;obtain⟨its,r,pl,hz⟩:=I.list hq;obtain⟨j,h1,h2,h3,h4,h5⟩:=ie he;obtain⟨w,ew,rw'⟩:=r.get h2;have hl:=r.length;have hn:=cW;have fin:EP X pins σ Q w s:=⟨z,H,I,rw',q⟩;by_cases h0:0<=i
 ·have hj:i.toNat=j:=by
   rw[seqIndex_of h0 h5] at h1;exact aah h1
  exact item_listR pl.isList h0 (by nofun) (by rw[hj];simpa using ew) fin hs
 ·have hj:(i+(its.toArray.size:Int)).toNat=j:=by
   rw[seqIndex_neg (by nofun) h4] at h1;rw[abH,← hl];exact aah h1
  exact subscriptTail_builtinR (x:=w) pl.isList.typeIs slot_list_getitem.lookup
   (wpAny_getItem_list_neg (Q:=λ r s'=>r=w/\EP X pins σ Q r s') pl.isList (by nofun) (by rw[abH] <;> nofun) (by nofun) (by rw[hj];simpa using ew) ⟨rfl,fin⟩) hs
theorem uH:IxR X (zc X.K):=by
 intro value slice pins s σ H x y v u Q I rx ry h hs;obtain⟨p,xs,i,z,rfl,rfl,hq,he,q⟩:=h;cases rx;obtain⟨t,rfl⟩:=ry;obtain⟨its,r,pl,hz⟩:=I.tuple hq;obtain⟨j,h1,h2,h3,h4,h5⟩:=ie he;obtain⟨w,ew,rw'⟩:=r.get h2;have hl:=r.length;have hn:=cW;have fin:EP X pins σ Q w s:=⟨z,H,I,rw',q⟩
 exact subscriptTail_builtinR (x:=w) pl.typeIs slot_tuple_getitem.lookup
  (getItem_tuple (j:=j) (Q:=λ r s'=>r=w/\EP X pins σ Q r s') pl (by nofun) (by nofun) (by rw[abH,← hl];exact h1) (by exists ew) ⟨rfl,fin⟩) hs
theorem uI:IxR X zd:=by
 intro value slice pins s σ H x y v u Q I rx ry h hs;obtain⟨z,i,c,rfl,rfl,hz,he,q⟩:=h;obtain⟨t,rfl⟩:=rx;obtain⟨t',rfl⟩:=ry;obtain⟨j,h1,h2,h3,h4,h5⟩:=ie he;have hl:z.cps.toList.length=z.length:=by simp[Str.length]
 rw[hl] at h1 h4 h5;have hn:=cW
 exact tail_any (typeIs_str s z t) slot_str_getitem.lookup (getItem_str (c:=c) (by
  have e1:decide (i < -(2 ^ 63:Int))=false:=decide_eq_false (by nofun);have e2:decide (i ≥ 2 ^ 63)=false:=decide_eq_false (by nofun);rw[e1,e2,Bool.or_false]) (by rw[h1];simpa using h2) ⟨.str ⟨#[c]⟩,H,I.tok _,⟨_,rfl⟩,q⟩) hs
def rIx(K:Frag):R2:=λ x y H Q=>zb K x y H Q∨zc K x y H Q∨zd x y H Q
theorem o8:IxR X (rIx X.K):=qv.or (uH.or uI)
theorem jr(its:List Value)(n j:Nat)(u:Value):Obj.mapSeq (·.setIfInBounds j u) { cls:=.type "list", data:=.seq its.toArray n }={ cls:=.type "list", data:=.seq (its.set j u).toArray n }:=by
 simp[Obj.mapSeq]
theorem Inv.lst{pins:List (Addr×Obj)}{σ:St}{H:Hp}{s:Shared}{p:Addr}{xs:List V}(I:Inv X pins σ H s)(h:H p=some (.lst xs)) :
  ∃ (its:List Value) (n:Nat),Vals xs its/\s.heap.get? p=some { cls:=.type "list", data:=.seq its.toArray n }/\xs.length<=sizeLine:=by
 obtain⟨z,its,n,r,e⟩:=I.hok p _ h;exact⟨its,n,r,e,z⟩
theorem Inv.lstUpd{p:Addr}{xs:List V}{n':Nat}{f:Obj->Obj}(I:Inv X pins σ H s)(h:H p=some (.lst xs))
  (ho:s.heap.get? p=some { cls:=.type "list", data:=.seq its.toArray n }) (hf:f { cls:=.type "list", data:=.seq its.toArray n }={ cls:=.type "list", data:=.seq its'.toArray n' }) (r:Vals ys its') (hz:ys.length<=sizeLine) (t:Nat) :
  Inv X pins σ (upd H p (.lst ys)) { s with heap:=s.heap.update p f,toks:=t }:=by
 have e:(s.heap.update p f).get? p=some { cls:=.type "list", data:=.seq its'.toArray n' }:=by
  rw[ace f ho (by rw[hf] <;> rfl),hf]
 refine I.write (x:=p) (e:=p) (by rw[h];trivial) (.inl rfl) (λ b u hb q=>(acb _ _ (abl hb)).trans q) ⟨_,e⟩ ?_;exact⟨hz,its',n',r,e⟩
def qw:V->V->V->Hp->(Hp->Prop)->Prop:=λ o i v H Q=>∃ p xs k j,o=.ref p/\i=.int k/\H p=some (.lst xs)/\ixN xs.length k=some j/\Q (upd H p (.lst (xs.set j v)))
theorem mW:y2 X qw:=by
 intro pins s σ H o i v ov iv u Q I ro ri rv h;obtain⟨p,xs,k,j,rfl,rfl,hp,hj,q⟩:=h;cases ro;obtain⟨t,rfl⟩:=ri;obtain⟨its,n,r,ho,hz⟩:=I.lst hp;obtain⟨h1,h2,h3,h4⟩:=kh hj;have hl:=r.length;have hn:=cW
 have I':Inv X pins σ (upd H p (.lst (xs.set j v))) { s with heap:=s.heap.update p (Obj.mapSeq (·.setIfInBounds j u)) }:=
  I.lstUpd hp ho (jr its n j u) (r.set rv j) (by rw[abh];exact hz) s.toks
 by_cases h0:0<=k
 ·have hk:k.toNat=j:=by
   rw[seqIndex_of h0 h4] at h1;exact aah h1
  exact PySem.W.ki_setAt ho h0 (by nofun) (by rw[abH,← hl];exact h4) (by rw[hk];exact⟨_,I',q⟩)
 ·have hk:(k+(its.toArray.size:Int)).toNat=j:=by
   rw[seqIndex_neg (by nofun) h3] at h1;rw[abH,← hl];exact aah h1
  exact PySem.W.ki_setBack ho (by nofun) (by rw[abH,← hl];exact h3) (by nofun) (by rw[hk];exact⟨_,I',q⟩)
theorem fW(lo hi:Option Int)(n:Nat):(sliceBounds lo hi none n).1=((HT.sIx n 0 lo:Nat):Int)/\(sliceBounds lo hi none n).2.1=((HT.sIx n n hi:Nat):Int)/\(sliceBounds lo hi none n).2.2=1:=by
 refine⟨?_,?_,rfl⟩
 ·cases lo with
  |none=>simp [sliceBounds,HT.sIx]
  | some i=>
   simp only[sliceBounds,HT.sIx,Option.getD_none,show (1:Int) > 0 by decide,if_true];by_cases h:i<0
   ·simp only[h,if_true] <;> nofun
   ·simp only[h,if_false] <;> nofun
 ·cases hi with
  |none=>simp [sliceBounds,HT.sIx]
  | some i=>
   simp only[sliceBounds,HT.sIx,Option.getD_none,show (1:Int) > 0 by decide,if_true];by_cases h:i<0
   ·simp only[h,if_true] <;> nofun
   ·simp only[h,if_false] <;> nofun
theorem eO(its:List Value)(lo hi:Option Int):slicePick its.toArray lo hi none=((its.drop (HT.sIx its.length 0 lo)).take (HT.sIx its.length its.length hi - HT.sIx its.length 0 lo)).toArray:=by
 obtain⟨h1,h2,h3⟩:=fW lo hi its.toArray.size;unfold slicePick;rw[h1,h2,h3];simp only[sliceRange_one,pick_run,List.size_toArray] <;> rfl
def ze(K:Frag):V->Option Int->Option Int->Hp->VK->Prop:=λ x lo hi H Q=>∃ a xs,x=.ref a/\SqL K H a xs/\∀ p,H p=none->Q (.ref p) (upd H p (.lst (tS xs lo hi)))
theorem qx:SlR X (ze X.K):=by
 intro pins s σ H x v vl vu lo hi sl Q I rx hs pl pu h;obtain⟨a,xs,rfl,hx,q⟩:=h;cases rx;obtain⟨its,r,ht,hz⟩:=I.list hx;have hlen:=r.length;refine⟨"list", _,slot_list_getitem.lookup,ht.isList.typeIs,?_⟩;refine wpAny_getItem_list_slice ht.isList hs pl pu .none (by simp) ?_ (by rw[List.size_toArray] <;> nofun);rw[eO,← hlen];refine⟨.ref s.heap.objs.size,_,I.laid (t':=s.toks) (o:=.lst (tS xs lo hi)) (λ b ob q=>abv _ q) (aad _) ?_,rfl,q _ (I.hok.fresh (aad _))⟩;exact⟨aat (cY xs lo hi) hz,_,0,(r.drop (HT.sIx xs.length 0 lo)).take (HT.sIx xs.length xs.length hi - HT.sIx xs.length 0 lo),abD _ rfl⟩
def cZ:V->Bool
 |.non=>true
 |.bl _=>true
 |.int _=>true
 |.str _=>true
 |_=>false
def eqV:V->V->Bool
 |.non,.non=>true
 |.bl a,.bl b=>a==b
 |.bl a,.int b=>(if a then 1 else 0)==b
 |.int a,.bl b=>a==(if b then 1 else 0)
 |.int a,.int b=>a==b
 |.str a,.str b=>a==b
 |_,_=>false
theorem uJ(ry:RelV y u)(rx:RelV x v)(fy:cZ y=true)(fx:cZ x=true):SeqAt.EqAt A s u v (eqV y x):=by
 cases y with
 | non=>
  cases ry
  cases x with
  |non=>cases rx;exact SeqAt.EqAt.same _
  |bl b=>cases rx;exact SeqAt.EqAt.none_bool b
  |int b=>obtain ⟨t,rfl⟩:=rx;exact SeqAt.EqAt.none_int b t
  |str b=>obtain ⟨t,rfl⟩:=rx;exact SeqAt.EqAt.none_str b t
  |_=>exact absurd (show false=true from fx) abB
 | bl a=>
  cases ry
  cases x with
  |non=>cases rx;exact SeqAt.EqAt.bool_none a
  |bl b=>cases rx;exact SeqAt.EqAt.bool_bool a b
  |int b=>obtain ⟨t,rfl⟩:=rx;exact SeqAt.EqAt.bool_int a b t
  |str b=>obtain ⟨t,rfl⟩:=rx;exact SeqAt.EqAt.bool_str a b t
  |_=>exact absurd (show false=true from fx) abB
 | int a=>
  obtain⟨t',rfl⟩:=ry
  cases x with
  |non=>cases rx;exact SeqAt.EqAt.int_none a t'
  |bl b=>cases rx;exact SeqAt.EqAt.int_bool a t' b
  |int b=>obtain ⟨t,rfl⟩:=rx;exact SeqAt.EqAt.int_int a t' b t
  |str b=>obtain ⟨t,rfl⟩:=rx;exact SeqAt.EqAt.int_str a t' b t
  |_=>exact absurd (show false=true from fx) abB
 | str a=>
  obtain⟨t',rfl⟩:=ry
  cases x with
  |non=>cases rx;exact SeqAt.EqAt.str_none a t'
  |bl b=>cases rx;exact SeqAt.EqAt.str_bool a t' b
  |int b=>obtain ⟨t,rfl⟩:=rx;exact SeqAt.EqAt.str_int a t' b t
  |str b=>obtain ⟨t,rfl⟩:=rx;exact SeqAt.EqAt.str_str a t' b t
  |_=>exact absurd (show false=true from fx) abB
 |_=>exact absurd (show false=true from fy) abB
def eqU(x:V)(u:Value):Bool:=match u with
 |.none=>eqV .non x
 |.bool b=>eqV (.bl b) x
 |.int i _=>eqV (.int i) x
 |.str z _=>eqV (.str z) x
 |_=>false
theorem o9(r:RelV y u)(f:cZ y=true):eqU x u=eqV y x:=by
 cases y with
 |non=>cases r;rfl
 |bl b=>cases r;rfl
 |int i=>obtain⟨t,rfl⟩:=r;rfl
 |str z=>obtain⟨t,rfl⟩:=r;rfl
 |_=>exact absurd (show false=true from f) abB
theorem ig{x:V}:∀ {xs:List V} {us:List Value},Vals xs us->xs.all cZ=true->us.any (eqU x)=xs.any λ y=>eqV y x
 |_,_,.nil,_=>rfl
 | y::xs,u::us,.cons r t,f=>by
  rw[aaP,abR] at f;rw[abq,abq,o9 r f.1,ig t f.2]
theorem eP{A:Around}{s:Shared}{x:V}{v:Value}(rx:RelV x v)(fx:cZ x=true):∀ {xs:List V} {us:List Value},Vals xs us->xs.all cZ=true->∀ u∈us,SeqAt.EqAt A s u v (eqU x u)
 |_,_,.nil,_=>λ u hu=>by cases hu
 | y::xs,u::us,.cons r t,f=>λ u' hu=>by
  rw[aaP,abR] at f;rcases abG.mp hu with rfl|hu
  ·rw[o9 r f.1];exact uJ r rx f.1 fx
  ·exact eP rx fx t f.2 u' hu
def inV(x:V)(xs:List V):Bool:=xs.any λ y=>eqV y x
def rIn(K:Frag)(neg:Bool):R2:=λ x y H Q=>∃ p xs,y=.ref p/\(SqL K H p xs∨SqT K H p xs)/\cZ x=true/\xs.all cZ=true/\Q (.bl (if neg then !inV x xs else inV x xs)) H
theorem fX:OpR X (compareOp .NotIn) (rIn X.K true):=by
 intro pins s σ H x y v u Q I rx ry h;obtain⟨p,xs,rfl,hq,fx,fs,q⟩:=h;cases ry;rcases hq with hq|hq
 ·obtain⟨its,r,pl,hz⟩:=I.list hq;refine SeqAt.notIn_listAt (eqU x) pl.isList (λ w hw=>eP rx fx r fs w (by exists hw)) ⟨.bl _,H,I,rfl,?_⟩;rw[show its.toArray.any (eqU x)=its.any (eqU x) by simp,ig r fs];exact q
 ·obtain⟨its,r,pl,hz⟩:=I.tuple hq;refine SeqAt.notIn_tupleAt (eqU x) pl (λ w hw=>eP rx fx r fs w (by exists hw)) ⟨.bl _,H,I,rfl,?_⟩;rw[show its.toArray.any (eqU x)=its.any (eqU x) by simp,ig r fs];exact q
theorem fZ:OpR X (compareOp .NotIn) (λ x y H Q=>∃ i j,x=.str i/\y=.str j/\Q (.bl (!(!(Builtin.Str.occurrences j i 0 j.length 1).isEmpty))) H):=by
 intro pins s σ H x y v u Q I rx ry h;obtain⟨i,j,rfl,rfl,q⟩:=h;obtain⟨t,rfl⟩:=rx;obtain⟨t',rfl⟩:=ry;exact notIn_str ⟨.bl _,H,I,rfl,q⟩
theorem ge:CallR X (.builtin "len") (λ xs H Q=>∃ p ys,xs=[.ref p]/\(SqL X.K H p ys∨SqT X.K H p ys)/\Q (.int ys.length) H):=by
 intro pins s σ H xs us Q I r h;obtain⟨p,ys,rfl,hq,q⟩:=h;obtain⟨u,rfl,rx⟩:=cX r;cases rx;have hn:=cW;rcases hq with hq|hq
 ·obtain⟨its,r',pl,hz⟩:=I.list hq;have hlen:=r'.length;exact Calls.call_len_list pl.isList (by simp only[List.size_toArray] <;> nofun) ⟨.int ys.length,H,I.tok _,⟨s.toks+1,by rw[abH,hlen]⟩,q⟩
 ·obtain⟨its,r',pl,hz⟩:=I.tuple hq;have hlen:=r'.length;exact len_tuple pl (by simp only[List.size_toArray] <;> nofun) ⟨.int ys.length,H,I.tok _,⟨s.toks+1,by rw[abH,hlen]⟩,q⟩
theorem gf:CallR X (.builtin "len") (λ xs H Q=>∃ z,xs=[.str z]/\z.length<=sizeLine/\Q (.int z.length) H):=by
 intro pins s σ H xs us Q I r h;obtain⟨z,rfl,hz,q⟩:=h;obtain⟨u,rfl,t,rfl⟩:=cX r;have hn:=cW;exact len_str (by nofun) ⟨.int z.length,H,I.tok _,⟨_,rfl⟩,q⟩
theorem CallR.or{f:Value}{r r':List V->Hp->VK->Prop}(h:CallR X f r)(h':CallR X f r'):CallR X f (λ xs H Q=>r xs H Q∨r' xs H Q):=by
 intro pins s σ H xs us Q I rs q;rcases q with q|q
 ·exact h pins s σ H xs us Q I rs q
 ·exact h' pins s σ H xs us Q I rs q
theorem gg:CallR X (.type "list") (λ xs H Q=>∃ p ys,xs=[.ref p]/\(SqL X.K H p ys∨SqT X.K H p ys)/\∀ l,H l=none->Q (.ref l) (upd H l (.lst ys))):=by
 intro pins s σ H xs us Q I r h;obtain⟨p,ys,rfl,hq,q⟩:=h;obtain⟨u,rfl,rx⟩:=cX r;cases rx
 have fin:∀ (its:List Value),Vals ys its->ys.length<=sizeLine->∀ (h':Heap) (c':Nat),(∀ b o',s.heap.get? b=some o'->h'.get? b=some o') ->
   h'.get? s.heap.objs.size=some { cls:=.type "list", dict:=none,data:=.seq its.toArray c',slots:=#[] }->EP X pins σ Q (.ref s.heap.objs.size) { s with heap:=h' }:=λ its r' hz h' c' kp e=>
  ⟨.ref s.heap.objs.size,_,I.laid (t':=s.toks) kp (aad _) (show ObjOk X.prog X.w _ h' _ (.lst ys) from ⟨hz,its,c',r',e⟩),rfl,q _ (I.hok.fresh (aad _))⟩
 rcases hq with hq|hq
 ·obtain⟨its,r',pl,hz⟩:=I.list hq;have hlen:=r'.length;obtain⟨o,ho,hc,n,hd⟩:=pl.isList;exact call_list_seq p (.inl rfl) ho hc hd (λ h' c' kp e=>fin its r' hz h' c' kp e) (by simp only[List.size_toArray] <;> nofun)
 ·obtain⟨its,r',pl,hz⟩:=I.tuple hq;have hlen:=r'.length;obtain⟨o,ho,hc,n,hd⟩:=pl;exact call_list_seq p (.inr rfl) ho hc hd (λ h' c' kp e=>fin its r' hz h' c' kp e) (by simp only[List.size_toArray] <;> nofun)
def tyV(K:Frag)(T:String)(x:V)(H:Hp):Prop:=match x with
 |.str _=>T = "str"
 |.int _=>T = "int"
 | .ref p=>(T = "list" /\ ∃ xs,SqL K H p xs)∨(T = "tuple" /\ ∃ o,K.lookup p=some o/\o.cls=.type "tuple" /\ o.dict=none) ∨
   (T = "dict" /\ ((∃ kvs,H p=some (.dK kvs))∨∃ kvs,H p=some (.dT kvs)))∨(T = "set" /\ ∃ S n,H p=some (.set S n))
 |_=>False
theorem pb(I:Inv X pins σ H s)(r:RelV x v)(ty:tyV X.K T x H) :
  s.TypeIs v T/\∀ a,v=.ref a->∃ ob,s.heap.get? a=some ob/\ob.dict=none:=by
 cases x with
 | str z=>
  obtain⟨t,rfl⟩:=r;cases (show T = "str" from ty);exact⟨typeIs_str s z t,λ _ e=>nomatch e⟩
 | int i=>
  obtain⟨t,rfl⟩:=r;cases (show T = "int" from ty);exact⟨typeIs_int s i t,λ _ e=>nomatch e⟩
 | ref p=>
  cases r;rcases ty with ⟨rfl,xs,hq⟩|⟨rfl,o,hk,hc,hd⟩|⟨rfl,hk⟩|⟨rfl,S,n,hk⟩
  ·obtain⟨its,_,pl,_⟩:=I.list hq;refine⟨pl.isList.typeIs,λ a e=>?_⟩;cases e;obtain⟨o,n,e,c,hd,_⟩:=pl;exact⟨o,e,hd⟩
  ·refine⟨⟨o,I.kIn p o hk,hc⟩,λ a e=>?_⟩;cases e;exact⟨o,I.kIn _ o hk,hd⟩
  ·have z:∃ o,s.heap.get? p=some o/\o.ExactDict:=by
    rcases hk with ⟨kvs,hk⟩|⟨kvs,hk⟩
    ·obtain⟨_,_,_,_,o,_,_,e,ex,_⟩:=I.hok p _ hk;exact⟨o,e,ex⟩
    ·obtain⟨_,_,_,_,o,_,_,e,ex,_⟩:=I.hok p _ hk;exact⟨o,e,ex⟩
   obtain⟨o,e,ex⟩:=z;refine⟨⟨o,e,ex.1⟩,λ a e2=>?_⟩;cases e2;exact⟨o,e,ex.2.1⟩
  ·obtain⟨o,_,_,_,e,ex,_⟩:=I.hok p _ hk;refine⟨⟨o,e,ex.1⟩,λ a e2=>?_⟩;cases e2;exact⟨o,e,ex.2.1⟩
 |_=>exact False.elim ty
def uK(K:Frag)(T:String)(r:V->List V->Hp->VK->Prop)(to:TE):TE:=λ σ H Q=>to σ H λ x H1=>tyV K T x H1/\r x [] H1 Q
def tBM(K:Frag)(T:String)(r:V->List V->Hp->VK->Prop)(to:TE)(t:TA):TE:=λ σ H Q=>to σ H λ x H1=>tyV K T x H1/\t σ H1 λ xs H2=>r x xs H2 Q
variable {o:Expr} {es:List Expr} {to:TE} {t:TA} {name:Str}  {id:String} {r:V->List V->Hp->VK->Prop}
theorem uL(pa:PlainAttrs T)(slot:Slot T name id)(hty:typeOf (.builtin id)=pure (.type "method_descriptor"))(hm:MtR X id r)(ho:PE X o to)
  (hbase:autoParam (attributeBase o name X.env (eval o X.env)=eval o X.env) L2.aR._auto_1) (hline:autoParam ((apos.endLine==cpos.line)=true) L2.aR._auto_1):PE X (.Call (.Attribute o name apos) [] [] cpos) (uK X.K T r to):=by
 intro pins s σ H Q I h;refine wpAny_Call_method0_late hbase hline (thn (ho pins s σ H _ I h) λ v s1 ⟨x,H1,I1,r1,ty,q1⟩=>?_);obtain⟨h1,h2⟩:=pb I1 r1 ty;exact⟨T,id,pa,slot,hty,h1,h2,Calls.callWith_builtin rfl (PySem.evalArgs_none (hm pins s1 σ H1 x [] v [] Q I1 r1 .nil q1))⟩
theorem xY(pa:PlainAttrs T)(slot:Slot T name id)(hty:typeOf (.builtin id)=pure (.type "method_descriptor"))(hm:MtR X id r)(ho:PE X o to)(ha:PA X (e::es) t)
  (hbase:autoParam (attributeBase o name X.env (eval o X.env)=eval o X.env) L2.aR._auto_1)
  (hfew:autoParam (((backTo cpos (starEach (e::es) X.env)).all (λ x=>!x.1)&&(backToKw cpos (keywordEach [] X.env)).all (λ x=>x.1.isSome)
   && decide ((e::es).length+([]:List Keyword).length+(if ([]:List Keyword).isEmpty then 0 else 1)<30))=true) L2.aR._auto_1)
  (hline:autoParam ((apos.endLine==cpos.line)=true) L2.aR._auto_1) (hs:autoParam (starEach (e::es) X.env=(false,eval e X.env)::starEach es X.env) L2.aR._auto_1) (hplain:autoParam ((backTo cpos (starEach es X.env)).any (·.1)=false) L2.aR._auto_1) :
  PE X (.Call (.Attribute o name apos) (e::es) [] cpos) (tBM X.K T r to t):=by
 intro pins s σ H Q I h;refine wpAny_Call_method_late hbase hfew hline rfl (thn (ho pins s σ H _ I h) λ v s1 ⟨x,H1,I1,r1,ty,q1⟩=>?_);obtain⟨h1,h2⟩:=pb I1 r1 ty;refine⟨T,id,pa,slot,hty,h1,h2,?_⟩;have hA:=ha cpos pins s1 σ H1 _ I1 q1;rw[hs] at hA ⊢;refine Calls.callWith_builtin (by show (false || (backTo cpos (starEach es X.env)).any (·.1))=false;rw[hplain] <;> rfl) (Calls.evalArgs_plain ?_);exact thn hA λ us s2 ⟨vs,H2,I2,r2,q2⟩=>hm pins s2 σ H2 x vs v us Q I2 r1 r2 q2
/- xs.append(e),list.index on a module's tuple .. are MtR facts of 06m -/
end
def MtM(X:Cx)(id:String)(r:V->List V->Hp->VK->Prop):Prop:=
 ∀ (pins:List (Addr×Obj)) (s:Shared) (σ:St) (H:Hp) (x:V) (xs:List V) (v:Value) (us:List Value) (Q:VK),Inv X pins σ H s->RelV x v->Vals xs us->r x xs H Q ->
  wpAny (model X.prog X.w) X.A (call (.builtin id) (v::us)) (EP X pins σ Q) X.xe s
theorem Vals.one(h:Vals [x] us):∃ u,us=[u]/\RelV x u:=by
 cases h with|cons r t=>cases t;exact⟨_,rfl,r⟩
theorem Vals.two(h:Vals [x,y] us):∃ u v,us=[u,v]/\RelV x u/\RelV y v:=by
 cases h with|cons r t=>cases t with|cons q t=>cases t;exact⟨_,_,rfl,r,q⟩
theorem Vals.zero:∀ {us:List Value},Vals [] us->us=[]
 |_,.nil=>rfl
section
variable      {l:Addr} {xs zs:List V}
theorem Inv.lset{f:Array Value->Array Value}(I:Inv X pins σ H s)(hH:H l=some (.lst xs))
  (e:s.heap.get? l=some { cls:=.type "list", data:=.seq its.toArray n }) (hf:f its.toArray=its'.toArray) (hv:Vals ys its') (hz:ys.length<=sizeLine) :
  Inv X pins σ (upd H l (.lst ys)) { s with heap:=s.heap.update l (Obj.mapSeq f),toks:=t' }:=by
 have q:=PySem.IsL.update e f;rw[hf] at q;refine I.write (x:=l) (e:=l) (by rw[hH];exact trivial) (.inl rfl) (λ b' u hb hu=>(acb s.heap (Obj.mapSeq f) (abl hb)).trans hu) ⟨_,q⟩ ?_;exact⟨hz,its',_,hv,q⟩
theorem Inv.lnew(I:Inv X pins σ H s)(hv:Vals ys its)(hz:ys.length<=sizeLine) :
  Inv X pins σ (upd H s.heap.objs.size (.lst ys)) { s with heap:=s.heap.push { cls:=.type "list", data:=.seq its.toArray },toks:=t' }:=
 I.laid (λ _ _ q=>abv _ q) (aad _) ⟨hz,its,0,hv,abD _ rfl⟩
theorem Inv.fresh(I:Inv X pins σ H s):H s.heap.objs.size=none:=I.hok.fresh (aad _)
theorem Inv.lstM(I:Inv X pins σ H s)(hH:H l=some (.lst xs)):xs.length<=sizeLine/\∃ (its:List Value) (n:Nat),Vals xs its/\xs.length=its.length/\s.heap.get? l=some { cls:=.type "list", data:=.seq its.toArray n }:=by
 obtain⟨z,its,n,r,e⟩:=I.hok l _ hH;exact⟨z,its,n,r,r.length,e⟩
theorem mX(h:n<=sizeLine):Builtin.List.listTooLong n=false:=by
 unfold Builtin.List.listTooLong;exact decide_eq_false (by nofun)
end
def cu:V->List V->Hp->VK->Prop:=λ x vs H Q=>∃ l xs y,x=.ref l/\vs=[y]/\H l=some (.lst xs)/\xs.length<sizeLine/\Q .non (upd H l (.lst (xs++[y])))
theorem gh:MtM X "list.append" cu:=by
 intro pins s σ H x vs v us Q I rx rv h;obtain⟨l,xs,y,rfl,rfl,hH,hz,q⟩:=h;cases rx;obtain⟨u,rfl,ru⟩:=rv.one;obtain⟨z,its,n,r,hl,e⟩:=I.lstM hH;refine call_meets F.slot_list_append ⟨_,e,rfl⟩ F.entry_list_append (F.args_list_append_2 _ _) (PySem.list_append l its.toArray n u (by rw[abH];nofun)) ⟨e,?_⟩;refine⟨.non,_,I.lset (its':=its++[u]) hH e (by simp) (r.append (.cons ru .nil)) ?_,rfl,q⟩;rw[aan,List.length_singleton];nofun
def eQ:V->List V->Hp->VK->Prop:=λ x vs H Q=>∃ l b xs zs,x=.ref l/\vs=[.ref b]/\H l=some (.lst xs)/\H b=some (.lst zs)/\xs.length+zs.length<=sizeLine/\Q .non (upd H l (.lst (xs++zs)))
theorem kj:MtM X "list.extend" eQ:=by
 intro pins s σ H x vs v us Q I rx rv h;obtain⟨l,b,xs,zs,rfl,rfl,hH,hB,hz,q⟩:=h;cases rx;obtain⟨u,rfl,ru⟩:=rv.one;cases ru;obtain⟨z,its,n,r,hl,e⟩:=I.lstM hH;obtain⟨z2,its2,n2,r2,hl2,e2⟩:=I.lstM hB;have hsz:its.toArray.size+its2.toArray.size<=sizeLine:=by rw[abH,abH];nofun
 have hlong:¬ (!its.toArray.isEmpty&&Builtin.List.listTooLong (its.toArray.size+its2.toArray.size))=true:=by
  rw[mX hsz,Bool.and_false];exact abB
 refine call_meets F.slot_list_extend ⟨_,e,rfl⟩ F.entry_list_extend (F.args_list_extend_2 _ _)
  (AutoSeq1.list_extend_list_list_0 l its.toArray n b its2.toArray n2 hlong (by rw[abH];nofun) (by nofun)) ⟨e,e2,?_⟩
 refine⟨.non,_,I.lset (its':=its++its2) hH e (by simp) (r.append r2) ?_,rfl,q⟩;rw[aan];nofun
def iG:V->List V->Hp->VK->Prop:=λ x vs H Q=>∃ l xs,x=.ref l/\vs=[]/\H l=some (.lst xs)/\Q .non (upd H l (.lst []))
theorem mY:MtM X "list.clear" iG:=by
 intro pins s σ H x vs v us Q I rx rv h;obtain⟨l,xs,rfl,rfl,hH,q⟩:=h;cases rx;have hus:=rv.zero;subst hus;obtain⟨z,its,n,r,hl,e⟩:=I.lstM hH;refine call_meets F.slot_list_clear ⟨_,e,rfl⟩ F.entry_list_clear (F.args_list_clear_1 _) (AutoSeq1.list_clear_list_0 l its.toArray n (by rw[abH];nofun)) ⟨e,?_⟩;exact⟨.non,_,I.lset (its':=[]) (ys:=[]) hH e rfl .nil (aaI _),rfl,q⟩
section
variable {prog:Program}    
end
section
variable {κ:Type} [DecidableEq κ]
def fJ(kvs:List (κ×V))(k:κ):Option V:=(kvs.find? λ kv=>decide (kv.1=k)).map (·.2)
def fK(kvs:List (κ×V))(k:κ)(v:V):List (κ×V):=
 if (kvs.any λ kv=>decide (kv.1=k))=true then kvs.map (λ kv=>if kv.1=k then (kv.1,v) else kv) else kvs++[(k,v)]
theorem cQ{p:κ×V}{r:List (κ×V)}{k:κ}(e:p.1=k):fJ (p::r) k=some p.2:=by simp[fJ,List.find?_cons,e]
theorem cR{p:κ×V}{r:List (κ×V)}{k:κ}(e:¬ p.1=k):fJ (p::r) k=fJ r k:=by simp[fJ,List.find?_cons,e]
theorem cS(k:κ):∀ kvs:List (κ×V),(kvs.any λ kv=>decide (kv.1=k))=(fJ kvs k).isSome
 |[]=>rfl
 | p::r=>by
  rw[abq];by_cases e:p.1=k
  ·simp only[cQ e,decide_eq_true e,Bool.true_or,Option.isSome_some]
  ·rw[cR e,decide_eq_false e,Bool.false_or];exact cS k r
theorem b5(kvs:List (κ×V))(k:κ)(v:V):(fK kvs k v).length<=kvs.length+1:=by
 unfold fK;split
 ·rw[abw];nofun
 ·rw[aan,abL,List.length_nil];nofun
theorem RelO.isSome_eq{u:Option Value}(r:RelO o u):o.isSome=u.isSome:=by
 cases o with
 | none=>cases u with
  |none=>rfl
  |some _=>exact (show False from r).elim
 | some _=>cases u with
  |none=>exact (show False from r).elim
  |some _=>rfl
theorem KV.val{kvs:List (κ×V)}{vs:List (κ×Value)}(r:KV kvs vs)(k:κ):RelO (fJ kvs k) (valueAt vs k):=by
 unfold KV at r
 induction r with
 |nil=>exact True.intro
 | @cons p q ps qs h t ih=>
  obtain⟨h1,h2⟩:=h;by_cases e:p.1=k
  ·have e':q.1=k:=h1.symm.trans e;have b:valueAt (q::qs) k=some q.2:=by simp[valueAt,List.find?_cons,e']
   rw[cQ e,b];exact h2
  ·have e':¬ q.1=k:=λ z=>e (h1.trans z);have b:valueAt (q::qs) k=valueAt qs k:=by simp[valueAt,List.find?_cons,e']
   rw[cR e,b];exact ih
theorem KV.any{kvs:List (κ×V)}{vs:List (κ×Value)}(r:KV kvs vs)(k:κ):(kvs.any λ kv=>decide (kv.1=k))=vs.any λ kv=>decide (kv.1=k):=by
 unfold KV at r
 induction r with
 |nil=>rfl
 |cons h t ih=>rw[abq,abq,ih,h.1]
theorem KV.repl{kvs:List (κ×V)}{vs:List (κ×Value)}(r:KV kvs vs)(k:κ)(ry:RelV y u) :
  KV (kvs.map λ kv=>if kv.1=k then (kv.1,y) else kv) (vs.map λ kv=>if kv.1=k then (kv.1,u) else kv):=by
 unfold KV at r ⊢
 induction r with
 |nil=>exact .nil
 | @cons p q ps qs h t ih=>
  rw[abC,abC];refine .cons ?_ ih;obtain⟨h1,h2⟩:=h;by_cases e:p.1=k
  ·rw[if_pos e,if_pos (h1.symm.trans e)];exact⟨h1,ry⟩
  ·rw[if_neg e,if_neg (λ z=>e (h1.trans z))];exact⟨h1,h2⟩
theorem KV.put{kvs:List (κ×V)}{vs:List (κ×Value)}(r:KV kvs vs)(k:κ)(ry:RelV y u):KV (fK kvs k y) (stored vs k u):=by
 unfold fK stored;rw[r.any k];by_cases e:(vs.any λ kv=>decide (kv.1=k))=true
 ·rw[if_pos e,if_pos e];exact r.repl k ry
 ·rw[if_neg e,if_neg e];exact Paired.snoc r ⟨rfl,ry⟩
theorem KV.length{kvs:List (κ×V)}{vs:List (κ×Value)}(r:KV kvs vs):kvs.length=vs.length:=abp r
end
theorem km(r:RelV (kV k) u):(aB P w).is k u=true:=by
 cases k with
 |inl i=>obtain⟨t,e⟩:=(show ∃ t,u=Value.int i t from r);subst e;exact hV P w i t
 |inr x=>obtain⟨t,e⟩:=(show ∃ t,u=Value.str x t from r);subst e;exact hX P w x t
theorem gi{P:Program}{w:World}:∀ {ks:List Key} {us:List Value},Vals (ks.map kV) us->ItemsAre (aB P w) ks us
 |[],_,r=>by rw[List.map_nil] at r;cases r;exact .nil
 | k::ks,_,r=>by
  rw[abC] at r
  cases r with
  |cons h t=>exact .cons (km h) (gi t)
abbrev KT(H:Hp):List (List Key×V)->List (List Key×Addr×Value)->Prop:=Paired λ p q=>p.1=q.1/\H q.2.1=some (.tup (p.1.map kV))/\RelV p.2 q.2.2
theorem KT.val(r:KT H kvs xs)(k:List Key):RelO (fJ kvs k) ((atKey xs k).map (·.2)):=by
 induction r with
 |nil=>exact True.intro
 | @cons p q ps qs h t ih=>
  obtain⟨h1,_,h2⟩:=h;by_cases e:p.1=k
  ·have e':q.1=k:=h1.symm.trans e;have b:atKey (q::qs) k=some q.2:=by simp[atKey,List.find?_cons,e']
   rw[cQ e,b];exact h2
  ·have e':¬ q.1=k:=λ z=>e (h1.trans z);have b:atKey (q::qs) k=atKey qs k:=by simp[atKey,List.find?_cons,e']
   rw[cR e,b];exact ih
theorem KT.repl(r:KT H kvs xs)(k:List Key)(ry:RelV y u) :
  KT H (kvs.map λ kv=>if kv.1=k then (kv.1,y) else kv) (xs.map (putAt k u)):=by
 induction r with
 |nil=>exact .nil
 | @cons p q ps qs h t ih=>
  rw[abC,abC];refine .cons ?_ ih;obtain⟨h1,h2,h3⟩:=h;unfold putAt;by_cases e:p.1=k
  ·rw[if_pos e,if_pos (h1.symm.trans e)];exact⟨h1,h2,ry⟩
  ·rw[if_neg e,if_neg (λ z=>e (h1.trans z))];exact⟨h1,h2,h3⟩
theorem KT.put(r:KT H kvs xs)(k:List Key)(hb:H b=some (.tup (k.map kV)))(ry:RelV y u) :
  KT H (fK kvs k y) (storedH xs k b u):=by
 have e:(kvs.any λ kv=>decide (kv.1=k))=(atKey xs k).isSome:=by
  rw[cS,(r.val k).isSome_eq,Option.isSome_map]
 unfold fK storedH;rw[e];by_cases q:(atKey xs k).isSome=true
 ·rw[if_pos q,if_pos q];exact r.repl k ry
 ·rw[if_neg q,if_neg q];exact Paired.snoc r ⟨rfl,hb,ry⟩
theorem KT.keeps(r:KT H kvs xs)(ht:∀ b ys,H b=some (.tup ys)->H' b=some (.tup ys)):KT H' kvs xs:=
 Paired.mapP r λ _ _ z=>⟨z.1,ht _ _ z.2.1,z.2.2⟩
section
variable    {h:Heap} 
theorem uM{u:HO}(ok:HOk P w H h)(e:Rd H a u):ObjOk P w H h a u:=e.ok ok
theorem kn{kvs:List (Key×V)}(ok:HOk P w H h)(e:Rd H a (.dK kvs)):kvs.length<=sizeLine/\(a==sysModules)=false/\∃ vs,KV kvs vs/\h.DictOf (aB P w) a vs:=
 show ObjOk P w H h a (.dK kvs) from uM ok e
theorem uN{kvs:List (Key×V)}(ok:HOk P w H h)(e:H a=some (.dK kvs)):kvs.length<=sizeLine/\(a==sysModules)=false/\∃ vs,KV kvs vs/\h.DictOf (aB P w) a vs:=kn ok (.inl e)
theorem iH{ks:List Key}(ok:HOk P w H h)(e:H a=some (.tup (ks.map kV))):(tupleKind (aB P w)).is h ks a:=by
 obtain⟨_,its,r,o,h1,h2,n,h3⟩:=(show ObjOk P w H h a (.tup (ks.map kV)) from ok a _ e);exact⟨o,its.toArray,n,h1,h2,h3,by simpa using gi r⟩
theorem mZ(ok:HOk P w H h)(e:Rd H a (.dT kvs)):kvs.length<=sizeLine/\(a==sysModules)=false /\
  ∃ xs,KT H kvs xs/\h.DictOfH (tupleKind (aB P w)) a xs:=by
 obtain⟨z,y,xs,r,o,es,ep,h1,h2,h3,h4,h5⟩:=(show ObjOk P w H h a (.dT kvs) from uM ok e);refine⟨z,y,xs,r,o,es,ep,h1,h2,h3,h4,λ x hx=>?_,h5⟩
 have all:∀ {l:List (List Key×V)} {m:List (List Key×Addr×Value)},KT H l m->∀ x∈m,(tupleKind (aB P w)).is h x.1 x.2.1:=by
  intro l m q
  induction q with
  |nil=>intro x hx;exact nomatch hx
  | @cons p q ps qs hq t ih=>
   intro x hx;rcases abG.mp hx with e|hx
   ·subst e;exact iH ok (by rw[← hq.1];exact hq.2.1)
   ·exact ih x hx
 exact all r x hx
theorem xZ(ok:HOk P w H h)(e:H a=some (.dT kvs)):kvs.length<=sizeLine/\(a==sysModules)=false /\
  ∃ xs,KT H kvs xs/\h.DictOfH (tupleKind (aB P w)) a xs:=mZ ok (.inl e)
end
def DGet(H:Hp)(a:Addr)(y:V)(r:Option V):Prop:=
 (∃ kvs k,Rd H a (.dK kvs)/\y=kV k/\r=fJ kvs k)∨∃ kvs k b,Rd H a (.dT kvs)/\y=.ref b/\H b=some (.tup (k.map kV))/\r=fJ kvs k
def zg(H:Hp)(a:Addr)(y v:V)(H':Hp):Prop:=
 (∃ kvs k,H a=some (.dK kvs)/\y=kV k/\kvs.length<sizeLine/\H'=upd H a (.dK (fK kvs k v))) ∨
 ∃ kvs k b,H a=some (.dT kvs)/\y=.ref b/\H b=some (.tup (k.map kV))/\kvs.length<sizeLine/\H'=upd H a (.dT (fK kvs k v))
section
variable       {v:V} {r:Value}   
theorem Inv.big(I:Inv X pins σ H s):sysModules<s.heap.objs.size:=by
 have h:mainGlobals<s.heap.objs.size:=(I.mod.glob.keeps I.bk).lt;exact Nat.lt_trans (by decide) h
theorem ko(hu:A.units+1<cLine)(I:Inv X pins σ H s)(g:DGet H a y (some v))(ry:RelV y u)(h:∀ w' s',Inv X pins σ H s'->RelV v w'->Q w' s') :
  wpAny (model X.prog X.w) A (getItem (.ref a) u) Q E s:=by
 rcases g with ⟨kvs,k,e,ey,l⟩|⟨kvs,k,b,e,ey,eb,l⟩
 ·subst ey;obtain⟨z,hd,vs,rel,dd⟩:=kn I.hok e;obtain⟨w',hw,rw'⟩:=RelO.some_of (v:=v) (o:=valueAt vs k) (by rw[l];exact rel.val k);exact wpAny_getItem_of (km ry) dd.mapOf hw (h w' _ (I.tok _) rw')
 ·subst ey;cases (show u=Value.ref b from ry);obtain⟨z,hd,xs,rel,dd⟩:=mZ I.hok e;obtain⟨w',hw,rw'⟩:=RelO.some_of (v:=v) (o:=(atKey xs k).map (·.2)) (by rw[l];exact rel.val k);obtain⟨p,hp,hp2⟩:=abM.mp hw;refine wpAny_getItem_heap (tupleKind_room_in1 hu) (iH I.hok eb) dd hp ?_;rw[hp2];exact h w' _ (I.tok _) rw'
theorem qy(hu:A.units+1<cLine)(I:Inv X pins σ H s)(g:DGet H a y o)(ry:RelV y u)(h:∀ s',Inv X pins σ H s'->Q (.bool (!o.isSome)) s') :
  wpAny (model X.prog X.w) A (compareOp .NotIn u (.ref a)) Q E s:=by
 rcases g with ⟨kvs,k,e,ey,l⟩|⟨kvs,k,b,e,ey,eb,l⟩
 ·subst ey;obtain⟨z,hd,vs,rel,dd⟩:=kn I.hok e;refine wpAny_notIn_of (km ry) hd dd.mapOf ?_;rw[← (rel.val k).isSome_eq,← l];exact h _ (I.tok _)
 ·subst ey;cases (show u=Value.ref b from ry);obtain⟨z,hd,xs,rel,dd⟩:=mZ I.hok e;refine wpAny_notIn_heap (tupleKind_room_in1 hu) (iH I.hok eb) hd dd ?_;have q:=(rel.val k).isSome_eq;rw[Option.isSome_map] at q;rw[← q,← l];exact h _ (I.tok _)
theorem ii{ob:HO}(I:Inv X pins σ H s)(mu:Mut (H a))(hs:Heap.SameBut a s.heap h')(he:∃ q,h'.get? a=some q)(new:ObjOk X.prog X.w (upd H a ob) h' a ob) :
  Inv X pins σ (upd H a ob) { s with heap:=h',toks:=t' }:=
 I.write (x:=a) (e:=a) mu (.inl rfl) (λ b q hb z=>(hs.2 b hb).trans z) he new
theorem pc{kvs:List (Key×V)}{vs:List (Key×Value)}(z:kvs.length<=sizeLine)(hd:(a==sysModules)=false)(rel:KV kvs vs)(dd:h'.DictOf (aB P w) a vs) :
  ObjOk P w H' h' a (.dK kvs):=⟨z,hd,vs,rel,dd⟩
theorem kq{Q:Unit->Shared->Prop}(hu:A.units+1<cLine)(I:Inv X pins σ H s)(g:zg H a y v H')(ry:RelV y u)(rv:RelV v r)(h:∀ s',Inv X pins σ H' s'->Q () s') :
  wpAny (model X.prog X.w) A (setItem (.ref a) u r) Q E s:=by
 rcases g with ⟨kvs,k,e,ey,l,eH⟩|⟨kvs,k,b,e,ey,eb,l,eH⟩
 ·subst ey eH;obtain⟨z,hd,vs,rel,dd⟩:=uN I.hok e;have hz:vs.length<=sizeLine:=by rw[← rel.length];exact z
  have hl:(fK kvs k v).length<=sizeLine:=by have:=b5 kvs k v;nofun
  refine wpAny_setItem_pairs (hsz:=hz) (km ry) dd λ h' dd' hs=>h _ ?_;have he:∃ q,h'.get? a=some q:=let ⟨q,_,_,hq,_⟩:=dd';⟨q,hq⟩;exact ii I (by rw[e];exact True.intro) hs he (pc hl hd (rel.put k rv) dd')
 ·subst ey eH;cases (show u=Value.ref b from ry);obtain⟨z,hd,xs,rel,dd⟩:=xZ I.hok e;have hz:xs.length<=sizeLine:=by rw[← abp rel];exact z
  have hl:(fK kvs k v).length<=sizeLine:=by have:=b5 kvs k v;nofun
  refine wpAny_setItem_heap (hsz:=hz) (tupleKind_room_in1 hu) (iH I.hok eb) dd λ h' dd' hs=>h _ ?_;obtain⟨q,es,ep,hq,h2,h3,h4,_,h5⟩:=dd';refine ii I (by rw[e];exact True.intro) hs ⟨q,hq⟩ ⟨hl,hd,_,(rel.put k eb rv).keeps λ c ys ec=>?_,q,es,ep,hq,h2,h3,h4,h5⟩;rw[ah (xE ec e (λ z=>nomatch z))];exact ec
end
section
variable       {kvs:List (Key×V)}    
theorem ya(I:Inv X pins σ H s)(e:Rd H a (.dK kvs))(h:∀ t s',Inv X pins σ H s'->Q (.int kvs.length t) s'):wpAny (model X.prog X.w) A (call (.builtin "len") [.ref a]) Q E s:=by
 obtain⟨z,hd,vs,rel,dd⟩:=kn I.hok e;refine call_len_dict hd dd (by rw[← rel.length];rw[sizeLine_eq] at z;nofun) ?_;rw[← rel.length];exact h _ _ (I.tok _)
end
theorem ij(I:Inv X pins σ H s)(g:DGet H a y o):s.TypeIs (.ref a) "dict" := by
 rcases g with ⟨kvs,k,e,_,_⟩|⟨kvs,k,b,e,_,_,_⟩
 ·obtain⟨_,_,vs,_,dd⟩:=kn I.hok e;exact dd.typeIs
 ·obtain⟨_,_,xs,_,dd⟩:=mZ I.hok e;exact dd.typeIs
def qz(td ty tv:TE):TS:=λ D σ H=>tv σ H λ v H1=>td σ H1 λ x H2=>ty σ H2 λ y H3=>∃ a H4,x=.ref a/\zg H3 a y v H4/\D.nx σ H4
section
variable  {o i value:Expr} {pos' tpos:Pos} 
theorem qA(hu:X.A.units+1<cLine)(ho:PE X o td)(hi:PE X i ty)(hv:PE X value tv)(hs:swapsWith value (some (.Subscript o i pos')) pos.line X.env=pure false) :
  PS X (.Assign [.Subscript o i pos'] value pos) (qz td ty tv):=by
 intro pins s σ H D I h;refine wpAny_Assign_Subscript (thn (hv pins s σ H _ I h) λ r s1 ⟨v,H1,I1,rv,q1⟩=>thn (ho pins s1 σ H1 _ I1 q1) λ u s2 ⟨x,H2,I2,rx,q2⟩=>thn (hi pins s2 σ H2 _ I2 q2) λ iv s3 ⟨y,H3,I3,ry,a,H4,ex,g,q3⟩=>?_) hs;subst ex;obtain rfl:u=Value.ref a:=rx;exact kq hu I3 g ry rv λ s4 I4=>⟨σ,H4,I4,q3⟩
end
theorem m3(h:Heap)(hb:sysModules<h.objs.size):ObjOk P w H (h.push { cls:=.type "dict", data:=.dict #[] }) h.objs.size (.dK []):=
 ⟨aaI _,beq_eq_false_iff_ne.mpr (abl (aal hb)),[],.nil,Heap.DictOf.new h⟩
def kr:List (TE×TE)->St->Hp->(List (V×V)->Hp->Prop)->Prop
 |[],_,H,Q=>Q [] H
 |(tk,tv)::r,σ,H,Q=>tk σ H λ x H1=>tv σ H1 λ y H2=>kr r σ H2 λ ps H3=>Q ((x,y)::ps) H3
abbrev VV:List (V×V)->List (Value×Value)->Prop:=Paired λ p q=>RelV p.1 q.1/\RelV p.2 q.2
def PPs(X:Cx)(pos:Pos)(keys:List (Option Expr))(values:List Expr)(trs:List (TE×TE)):Prop:=
 ∀ (pins:List (Addr×Obj)) (s:Shared) (σ:St) (H:Hp) (Q:List (V×V)->Hp->Prop),Inv X pins σ H s->kr trs σ H Q ->
  wpAny (model X.prog X.w) X.A (evalPairs (pairTrees keys values X.env pos)) (λ vs s'=>∃ ps H',Inv X pins σ H' s'/\VV ps vs/\Q ps H') X.xe s
theorem qB :PPs X pos [] [] []:=λ pins s σ H Q I h=>pairTrees_nil_walk ⟨[],H,I,.nil,h⟩
theorem m5{k v:Expr}{ks:List (Option Expr)}{vs:List Expr}{tk:TE}(hk:PE X k tk)(hv:PE X v tv)(hr:PPs X pos ks vs trs) :
  PPs X pos (some k::ks) (v::vs) ((tk,tv)::trs):=λ pins s σ H Q I h=>
 pairTrees_cons_walk (thn (hk pins s σ H _ I h) λ u s1 ⟨x,H1,I1,rx,q1⟩=>thn (hv pins s1 σ H1 _ I1 q1) λ w2 s2 ⟨y,H2,I2,ry,q2⟩=>
  thn (hr pins s2 σ H2 _ I2 q2) λ ws s3 ⟨ps,H3,I3,rel,q3⟩=>⟨(x,y)::ps,H3,I3,.cons ⟨rx,ry⟩ rel,q3⟩)
def gj(kvs more:List (Key×V)):List (Key×V):=more.foldl (λ acc kv=>fK acc kv.1 kv.2) kvs
theorem KV.merge:∀ {more:List (Key×V)} {rs:List (Key×Value)} {kvs:List (Key×V)} {vs:List (Key×Value)},KV more rs->KV kvs vs->KV (gj kvs more) (merged vs rs):=by
 intro more rs kvs vs r;unfold KV at r
 induction r generalizing kvs vs with
 |nil=>intro q;exact q
 | @cons p q ps qs h t ih=>
  intro r0
  have e:KV (fK kvs p.1 p.2) (stored vs q.1 q.2):=by
   have:=r0.put p.1 h.2;rw[← h.1];exact this
  exact ih e
theorem ce:∀ (more kvs:List (Key×V)),(gj kvs more).length<=kvs.length+more.length
 |[],kvs=>by show kvs.length<=kvs.length+0;nofun
 | p::r,kvs=>by
  have h1:=ce r (fK kvs p.1 p.2);have h2:=b5 kvs p.1 p.2;show (gj (fK kvs p.1 p.2) r).length<=_;rw[abL];nofun
theorem ef{P:Program}{w:World}:∀ {kvs:List (Key×V)} {ws:List (Value×Value)},VV (kvs.map λ kv=>(kV kv.1,kv.2)) ws->∃ rs,Carries (aB P w) ws rs/\KV kvs rs
 |[],_,r=>by rw[List.map_nil] at r;cases r;exact⟨[],True.intro,.nil⟩
 | p::kvs,_,r=>by
  rw[abC] at r
  cases r with
  | @cons a b as bs h t=>
   obtain⟨rs,c,q⟩:=ef (P:=P) (w:=w) t;obtain⟨b1,b2⟩:=b;exact⟨(p.1,b2)::rs,⟨km h.1,rfl,c⟩,.cons ⟨rfl,h.2⟩ q⟩
def qC(trs:List (TE×TE)):TE:=λ σ H Q=>∀ p,H p=none->kr trs σ (upd H p (.dK [])) λ ps H2=>H2 p=some (.dK [])/\∃ kvs:List (Key×V),ps=kvs.map (λ kv=>(kV kv.1,kv.2))/\kvs.length<=15/\Q (.ref p) (upd H2 p (.dK (gj [] kvs)))
theorem qD{keys:List (Option Expr)}{values:List Expr}(h:PPs X pos keys values trs)(hall:keys.all (·.isSome)=true)(hl:keys.length=values.length)(h0:keys≠[])
  (h15:keys.length<=15):PE X (.Dict keys values pos) (qC trs):=by
 intro pins s σ H Q I q;have hn:=I.hok.fresh (aad s.heap.objs.size);have I1:=I.laid (a:=s.heap.objs.size) (o:=.dK []) (h':=s.heap.push { cls:=.type "dict", data:=.dict #[] }) (t':=s.toks) (λ _ _ q=>abv _ q) (aad _) (m3 s.heap I.big);refine wpAny_Dict_walk (knd:=aB X.prog X.w) hall hl h0 h15 (thn (h pins _ σ _ _ I1 (q _ hn)) λ ws s2 ⟨ps,H2,I2,rel,e,kvs,ep,lk,q2⟩=>?_);subst ep;obtain⟨rs,c,rk⟩:=ef (P:=X.prog) (w:=X.w) rel;obtain⟨z,hd,vs0,r0,dd⟩:=uN I2.hok e;cases r0;refine⟨rs,c,dd,λ h' dd' hs=>⟨.ref s.heap.objs.size,_,?_,rfl,q2⟩⟩
 have hz:(gj [] kvs).length<=sizeLine:=by
  have h1:=ce kvs [];rw[List.length_nil] at h1;rw[sizeLine_eq];nofun
 have he:∃ q,h'.get? s.heap.objs.size=some q:=let ⟨q,_,_,hq,_⟩:=dd';⟨q,hq⟩;exact ii I2 (by rw[e];exact True.intro) hs he (pc hz hd (rk.merge .nil) dd')
structure M1(X:Cx)(o:Expr)(m:Str)(apos:Pos)(e:Expr)(cpos:Pos):Prop where
 base:attributeBase o m X.env (eval o X.env)=eval o X.env
 few:((backTo cpos (starEach [e] X.env)).all (λ x=>!x.1)&&(backToKw cpos (keywordEach [] X.env)).all (λ x=>x.1.isSome)
  && decide (([e]:List Expr).length+([]:List Keyword).length+(if ([]:List Keyword).isEmpty then 0 else 1)<30))=true
 line:(apos.endLine==cpos.line)=true
 trees:backTo cpos (starEach [e] X.env)=[(false,eval e X.env)]
section
variable       {d:V} {r:Value}   
end
section
variable  {o f:Expr}  {tx:TE}
end
section
variable       {kvs:List (Key×V)}  
end
end L2
namespace Att
open PySem PySem.W PySem.Calls PyProof.Rows
variable{P:Params}{h:Heap}{n:Nat}
theorem c6 :∀ (ns:List Int) (vs:List Value),WellAll P h vs (ns.map WData.int)->IntsAre vs ns:=by
 intro ns
 induction ns with
 | nil=>
  intro vs w;rw[List.map_nil] at w;cases w;exact .nil
 | cons n ns ih=>
  intro vs w;rw[abC] at w
  cases w with
  | cons a b=>
   cases a;exact .cons _ _ (ih _ b)
theorem kt{l:OpenLaw}(hn:l.most=some n){args:List WData}{vals:List Value}
  (hpre:l.row.toRowW.claim.pre args=true) (hwl:WellAll P h vals args) :
  ∃ a vs ns,vals=[Value.ref a]/\args=[WData.list (ns.map WData.int)]/\h.get? a=some { cls:=.type "list", data:=.seq vs.toArray }/\IntsAre vs ns/\ns.length<=n:=by
 have hsh:WShape.hasAll [] args [.list .int]=true:=(pre_splitW hpre).1;have hc:l.pre.holds [] { args:=args }=true:=(pre_splitW hpre).2;obtain⟨d,r,rfl,h1,h2⟩:=hasAllW_cons hsh;obtain rfl:=hasAllW_nil h2;obtain⟨xs,rfl,h3⟩:=hasW_list h1;obtain⟨ns,rfl⟩:=items_int h3
 have hlen:ns.length<=n:=by
  unfold OpenLaw.pre at hc
  have h4:(WTm.not (.lt (.lit (.int (n:Int))) (.len (.arg 0)))).holds [] { args:=[.list (ns.map .int)] }=true:=by
   have h4:=(holds_andW hc).1;rw[hn] at h4;exact h4
  have h5:=condW_of h4 (w_not (w_lt w_lit (w_len_list (w_arg rfl))));rw[abw] at h5;refine Nat.le_of_not_lt λ q=>?_;have q':(n:Int)<((ns.length:Nat):Int):=by nofun
  first
   |(rw[decide_eq_true q'] at h5;exact absurd h5 (by decide))
   |(simp at h5;nofun)
 cases hwl with
 | cons w1 w2=>
  cases w2
  cases w1 with
  |list ho hall=>exact ⟨_,_,ns,rfl,rfl,ho,c6 ns _ hall,hlen⟩
theorem ku(l:OpenLaw)(args:List WData):l.row.toRowW.claim.post args (.bool true) args=true:=
 postW_of (r:=l.row.toRowW) (X:=(true==true))
  (show WShape.has [] (.bool true) .bool=true by first|rfl|decide|simp[WShape.has,WShape.arms,WShape.armsAll])
  (show (WTm.eq .res (.lit (.bool true))).value [] { args:=args,res:=some (.bool true),after:=args }=some (.bool (true==true)) from w_eq_bool (w_res rfl) w_lit) rfl
theorem attach_call{l:OpenLaw}{q:Program}{loose:List Str}{XP:(Str->Option Value)->Heap->Prop}{YP:World->Heap->Prop}{d:DefRec}
  (hn:l.most=some n) (hdf:d.params.defaults=[])
  (call:∀ (w:World) (s₀ s₁:Shared) (mg mb:Str->Option Value) (fa:Addr) (o:Obj) (pm cd doc:Value) (a:Addr) (vs:List Value) (ns:List Int),
   Ground q loose [] XP w s₀ mg mb s₁.heap->YP w s₁.heap ->
   s₁.heap.get? fa=some o->o.data=.func (docDef d.name d.params d.body d.scope pm cd doc)->s₁.heap.CodeRec cd d.name->mg d.name=some (.ref fa) ->
   s₁.heap.get? a=some { cls:=.type "list", data:=.seq vs.toArray }->IntsAre vs ns->ns.length<=n->s₁.gens=#[] ->
   codeAny (model l.prog w) callerA (.call (.ref fa) ⟨[.ref a],[]⟩) (λ r s'=>r=.ok (.ret (.bool true))/\OldK s₁.heap s'.heap/\s'.os=s₁.os/\AllBare s'.gens) s₁) :
  WalkO q loose XP YP l.row.toRowW d [] (λ f vs=>PySem.call f vs):=by
 intro w s₀ s₁ mg mb G Y fa o pm cd doc dV kV ho hd hcd hD hmg hg args vals as hpre hlay hrd hwl hlo;obtain rfl:dV=.none:=Dflts.none hD hdf;obtain rfl:kV=.none:=Dflts.noKw hD;obtain⟨a,vs,ns,rfl,rfl,hobj,hints,hlen⟩:=kt hn hpre hwl;refine enter_call (codeAny_mono (call w s₀ s₁ mg mb fa o pm cd doc a vs ns G Y ho (fd_plain hd) hcd hmg hobj hints hlen hg) λ r s' hq=>?_);obtain⟨rfl,h2,h3,h4⟩:=hq;exact⟨.inl ⟨.bool true,.bool true,[],rfl,λ _=>rfl,.bool true,ku l _,λ _=>⟨List.Pairwise.nil,λ _ hm=>(nomatch hm)⟩⟩,h2,h3,h4⟩
section
variable {prog:Program} {w:World} {A:Around} {E:Value->Shared->Prop} {s:Shared} {K:Frag}
end
end Att
namespace L2
open PySem PySem.Spec PyProof.Rows
variable{P:Program}{w:World}{mg:Str->Option Value}{k:Nat}{a f:Addr}{fd:FuncData}{x qual:Str}{sp:Sp}{X:Cx}{st:Stmt}{ps T F:List Str}{A:Around}{H H':Hp}{xs:List V}{s:Shared}{elt iter tg:Expr}{ifs:List Expr}{scope:Scope}{pos:Pos}{env:Env}{pins:List (Addr×Obj)}{σ:St}{ixs:List Nat}{wi:TI}{g:TG}{tc:TT}{te:TE}{Q:VK}
theorem gk:∀ {vs:List Value} {ns:List Int},IntsAre vs ns->Vals (ns.map V.int) vs
 |_,_,.nil=>.nil
 |_,_,.cons n t h=>.cons ⟨t,rfl⟩ (gk h)
def yb(H:Hp):Prop:=∀ b,H b=none∨(∃ o xs,H b=some (.frz o (.lst xs)))∨H b=some (.tbl dW)
theorem m6{K:Frag}{mb:Str->Option Value}{CX:CXT}{fa:Addr}{s₁:Shared}{vs:List Value}{ns:List Int}
  (hT:∀ T,cP K T->s₁.heap.get? T=some (PySem.W.tabObj #[])/\K.lookup T=none/\isCodeTable s₁.heap T) (KX:K.In s₁.heap) (hns:s₁.heap.Ns mainGlobals mg) (hb:s₁.heap.Ns builtinsNs mb) (hbb:∀ x:Str,x ≠ "__name__" -> mb x=bootBuiltins x) (hlim:s₁.heap.NoLimit) (hg:s₁.gens=#[])
  (ha:s₁.heap.get? a=some { cls:=.type "list", data:=.seq vs.toArray }) (hi:IntsAre vs ns) (hl:ns.length<=sizeLine) (hr:Room k callerA)
  (F:∀ base:Heap,K.In base->base.Ns mainGlobals mg->FnOk P w K mg base CX k fa fd [x] sp) (hbind:∀ (s:Shared) (u:Value),BindsTo s fd ⟨[u],[]⟩ [(x,u)])
  (hsp:∀ H:Hp,yb H->SqL K H a (ns.map V.int)->sp [.ref a] H (λ v _=>v=.bl true) λ _ _ _=>False)
  (hCX:∀ H e s',CX [] H s₁ (λ _ _ _=>False) e s'->False) :
  codeAny (model P w) callerA (.call (.ref fa) ⟨[.ref a],[]⟩) (λ r s'=>r=.ok (.ret (.bool true))/\OldK s₁.heap s'.heap/\s'.os=s₁.os/\AllBare s'.gens) s₁:=by
 have rv:=gk hi;have lenV:=hi.length
 -- from an abstract heap in which nothing but the script may be tracked
 have core:∀ H:Hp,yb H->SqL K H a (ns.map V.int)->HOk P w H s₁.heap->(∀ b,H b≠none->b=a∨cP K b)->(∀ T,cP K T->H T=some (.tbl dW))->(H a≠none->K.lookup a=none) ->
   codeAny (model P w) callerA (.call (.ref fa) ⟨[.ref a],[]⟩) (λ r s'=>r=.ok (.ret (.bool true))/\OldK s₁.heap s'.heap/\s'.os=s₁.os/\AllBare s'.gens) s₁:=by
  intro H hO hS hok hA hLm hK;have base_of:∀ {b:Addr} {o:Obj},s₁.heap.get? b=some o->H b=none->(mO s₁.heap H).get? b=some o:=λ e n=>mP e n
  have noA:∀ {b:Addr} {o:Obj} {es:Array DictEntry} {ep:Nat},s₁.heap.get? b=some o->o.data=.dict es ep->H b=none:=fun {b o es ep} e d=>by
   cases q:H b with
   |none=>rfl
   | some u=>
    rcases hA b (by rw[q];simp) with e'|e'
    ·subst e';rw[ha] at e;cases e;have d':Data.seq vs.toArray _=Data.dict es ep:=d;cases d'
    ·rw[(hT b e').1] at e;cases e;have d':Data.fields _=Data.dict es ep:=d;cases d'
  have nsK:∀ {b:Addr} {m:Str->Option Value},s₁.heap.Ns b m->(mO s₁.heap H).Ns b m:=fun {b m} ⟨o,es,ep,e,d,r⟩=>⟨o,es,ep,base_of e (noA e d),d,r⟩
  have hKb:K.In (mO s₁.heap H):=λ b o e=>base_of (KX b o e) (by
   cases q:H b with
   |none=>rfl
   | some u=>
    rcases hA b (by rw[q];simp) with e'|e'
    ·subst e';rw[hK (by rw[q];simp)] at e;cases e
    ·rw[(hT b e').2.1] at e;cases e)
  have hM:Mod K mg (mO s₁.heap H):=⟨hKb,nsK hns,⟨mb,nsK hb,hbb⟩,let ⟨mc,h1,h2⟩:=hlim;⟨mc,nsK h1,h2⟩⟩;have e0:Env0 P w K mg (mO s₁.heap H) callerA [] s₁ H:=⟨rfl,hM,λ b o e=>pW e,Nat.le_of_eq (jX _ _),trivial,λ b hb=>absurd (show b∈([]:List Addr) from hb) (by simp),hok,.of_eq hg,hLm⟩;refine codeAny_mono ((F _ hKb (nsK hns)).run callerA [] s₁ H ⟨[.ref a],[]⟩ [.ref a] [.ref a] _ _ hr e0 (hbind s₁ (.ref a)) (.cons rfl .nil) (hsp H hO hS)) λ r s' h=>?_
  cases r with
  |error e=>exact (hCX H e s' h).elim
  | ok fl=>
   cases fl with
   |next=>exact False.elim h
   |brk=>exact False.elim h
   |cont=>exact False.elim h
   | ret u=>
    obtain⟨v,H',os,bare,un,hok',r',q⟩:=h;have q':v=.bl true:=q;subst q';obtain rfl:u=Value.bool true:=r';refine⟨rfl,⟨λ b o e=>?_,λ b o e=>un.there b o e (by simp)⟩,os,bare⟩
    cases q:H b with
    |none=>exact .inl (un.keep b o e q (by intro z;exact absurd (show b∈([]:List Addr) from z) (by simp)) (by simp))
    | some u=>
     rcases hO b with z|⟨ob,xs,z⟩|z
     ·rw[q] at z;cases z
     ·have z2:=un.frzs b ob _ z;obtain⟨e1,_⟩:=hok b _ z;obtain⟨e2,_⟩:=hok' b _ z2;rw[e] at e1;cases e1;exact .inl e2
     ·have hL:cP K b:=(hA b (by rw[q];simp)).elim (λ y=>by
       subst y;obtain⟨ps,e3,_⟩:=hok b _ z;rw[ha] at e3;cases e3) id
      obtain⟨t1,_,t3⟩:=hT b hL;rw[t1] at e;cases e;obtain⟨ps,e2,_⟩:=hok' b _ (un.tbls b _ z);exact .inr (.inl ⟨t3,rfl,#[],ps,rfl,by rw[e2];simp⟩)
 cases hk:K.lookup a with
 | some o=>
  -- the script is one of the module's own objects
  have e:=KX a o hk;rw[ha] at e;cases e
  classical
  refine core (λ b=>if cP K b then some (.tbl dW) else none) (λ b=>?_) (.inr ⟨_,vs.toArray,_,hk,rfl,rfl,rfl,by rw[abH,lenV];exact hl,(by exists rv)⟩) (λ b u z=>?_) (λ b z=>?_) (λ T h=>if_pos h) λ z=>?_
  ·by_cases hb:cP K b
   ·exact .inr (.inr (if_pos hb))
   ·exact .inl (if_neg hb)
  ·by_cases hb:cP K b
   ·have z':=(if_pos hb).symm.trans z;cases z';exact⟨#[],(hT b hb).1,trivial,λ _ _ z=>nomatch z⟩
   ·have z':=(if_neg hb).symm.trans z;cases z'
  ·by_cases hb:cP K b
   ·exact .inr hb
   ·exact absurd (if_neg hb) z
  ·by_cases hb:cP K a
   ·exact(hT a hb).2.1
   ·exact absurd (if_neg hb) z
 | none=>
  classical
  have nA:¬ cP K a:=λ hb=>by
   have:=(hT a hb).1;rw[ha] at this;cases this
  refine core (λ b=>if cP K b then some (.tbl dW) else if b=a then some (.frz { cls:=.type "list", data:=.seq vs.toArray } (.lst (ns.map V.int))) else none) (λ b=>?_) (.inl (.inr ⟨{ cls:=.type "list", data:=.seq vs.toArray },(if_neg nA).trans (if_pos rfl)⟩)) (λ b u z=>?_) (λ b z=>?_) (λ T h=>if_pos h) λ _=>hk
  ·by_cases hL:cP K b
   ·exact .inr (.inr (if_pos hL))
   by_cases hb:b=a
   ·exact .inr (.inl ⟨_,_,(if_neg hL).trans (if_pos hb)⟩)
   ·exact .inl ((if_neg hL).trans (if_neg hb))
  ·by_cases hL:cP K b
   ·have z':=(if_pos hL).symm.trans z;cases z';exact⟨#[],(hT b hL).1,trivial,λ _ _ z=>nomatch z⟩
   replace z:=(if_neg hL).symm.trans z;by_cases hb:b=a
   ·have z':=(if_pos hb).symm.trans z;cases z';subst hb;exact⟨ha,by rw[abw];exact hl,vs,_,rv,ha⟩
   ·have z':=(if_neg hb).symm.trans z;cases z'
  ·by_cases hL:cP K b
   ·exact .inr hL
   by_cases hb:b=a
   ·exact .inl hb
   ·exact absurd ((if_neg hL).trans (if_neg hb)) z
theorem walk_of{l:PySem.W.OpenLaw}{n:Nat}{q:Program}{loose:List Str}{XP:(Str->Option Value)->Heap->Prop}{YP:World->Heap->Prop}{d:DefRec}{K:Params->Frag}{CX:World->CXT}{sp:World->Sp}
  (hn:l.most=some n) (hn2:n<=sizeLine) (hdf:d.params.defaults=[]) (hr:Room k callerA)
  (hY:∀ (w:World) (h:Heap),YP w h->(K w.params).In h) (hT:∀ (w:World) (h:Heap),YP w h->∀ T,cP (K w.params) T->h.get? T=some (PySem.W.tabObj #[])/\(K w.params).lookup T=none/\isCodeTable h T)
  (F:∀ (w:World) (mg:Str->Option Value) (fa:Addr) (h:Heap),(K w.params).In h->h.Ns mainGlobals mg->mg d.name=some (.ref fa) ->
   ∃ fd:FuncData,(∀ (s:Shared) (u:Value),BindsTo s fd ⟨[u],[]⟩ [(x,u)]) /\
    ∀ base:Heap,(K w.params).In base->base.Ns mainGlobals mg->FnOk l.prog w (K w.params) mg base (CX w) k fa fd [x] (sp w))
  (hsp:∀ (w:World) (H:Hp) (a:Addr) (ns:List Int),ns.length<=n->yb H->SqL (K w.params) H a (ns.map V.int)->sp w [.ref a] H (λ v _=>v=.bl true) λ _ _ _=>False)
  (hCX:∀ (w:World) (H:Hp) (s:Shared) (e:Value) (s':Shared),CX w [] H s (λ _ _ _=>False) e s'->False) :
  PySem.W.WalkO q loose XP YP l.row.toRowW d [] (λ f vs=>PySem.call f vs):=by
 refine Att.attach_call hn hdf λ w s₀ s₁ mg mb fa o pm cd doc a vs ns G Y ho hd hcd hmg hobj hints hlen hg=>?_;have KX:=hY w _ Y;obtain⟨fd,hb,hF⟩:=F w mg fa _ KX G.T.g hmg;exact m6 (hT w _ Y) KX G.T.g G.T.b G.T.builtins G.T.nolimit hg hobj hints (aat hlen hn2) hr hF hb (λ H hO hS=>hsp w H a ns hlen hO hS) λ H e s'=>hCX w H s₁ e s'
def bM(s:Stmt):Arguments:=match s with
 |.FunctionDef _ a _ _ _ _ _ _ _ _=>a
 |_=>{ posonlyargs:=[],args:=[],vararg:=none,kwonlyargs:=[],kw_defaults:=[],kwarg:=none,defaults:=[] }
def aK(s:Stmt):List Stmt:=match s with
 |.FunctionDef _ _ b _ _ _ _ _ _ _=>b
 |_=>[]
def ae(s:Stmt):Scope:=match s with
 |.FunctionDef _ _ _ _ _ _ sc _ _ _=>sc
 |_=>{ kind:=.function,names:=[],isGenerator:=false,isCoroutine:=false }
abbrev CX0:CXT:=λ _ _ _ _ _ _=>False
abbrev E0:XK:=λ _ _ _=>False
theorem yc :ke CX0 X E0:=λ _ _ _ _ _ _ _ h=>h.elim
structure Fun(K:Frag)(x qual:Str)(st:Stmt)(f:Addr)(fd:FuncData):Prop where
 ex:∃ (oc:Value) (od:Option Addr) (kV doc pm:Value) (an:Option Addr) (cdv ct:Value) (osl:Array (Option Value)),
  fd=PySem.W.fnOf x qual (bM st) (aK st) (ae st) .none kV doc pm an cdv ct/\K.lookup f=some ⟨oc,od,.func fd,osl⟩/\PySem.W.codeIn K cdv qual=true
 kp:PySem.W.keepIn K (.ref f)=true
section
variable   {K:Frag}  {base:Heap}
theorem Fun.ok{N:List Str}(F:Fun K x qual st f fd)(S:FnScope N ps (ae st))(len:∀ vs H Q E,sp vs H Q E->vs.length=ps.length)
  (hbody:∀ (cdv:Value) (A:Around) (outer:List Env) (s:Shared) (H:Hp) (vs:List V) (Q:VK) (E:XK),Room k (A.deeper (envOfC qual (ae st) s.heap.objs.size f cdv))->sp vs H Q E ->
   ∃ t,PSs (fU CX0 P w K mg base N qual (ae st) f cdv A outer s H E).nox (aK st) t/\t { nx:=λ _ H'=>Q .non H',rt:=Q } (bg N vs) H):FnOk P w K mg base CX0 (k+1) f fd ps sp:=by
 obtain⟨oc,od,kV,doc,pm,an,cdv,ct,osl,rfl,lk,hcd⟩:=F.ex;refine uD lk hcd S len λ A outer s H vs Q E hr hsp=>?_;obtain⟨t,h,q⟩:=hbody cdv A outer s H vs Q E hr hsp;exact⟨t,h.nox,q⟩
theorem Fun.binds(F:Fun K x qual st f fd)
  (h:∀ (kV doc pm:Value) (an:Option Addr) (cdv ct:Value) (us:List Value),us.length=ps.length->bindArgs (PySem.W.fnOf x qual (bM st) (aK st) (ae st) .none kV doc pm an cdv ct) ⟨us,[]⟩=pure (ps.zip us)):Binds K fd ps []:=by
 obtain⟨oc,od,kV,doc,pm,an,cdv,ct,osl,rfl,lk,hcd⟩:=F.ex;exact .all (h kV doc pm an cdv ct)
theorem uO{oc:Value}{od an:Option Addr}{osl:Array (Option Value)}{kV doc pm cdv ct:Value}(l:K.lookup f=some ⟨oc,od,.func (PySem.W.fnOf x qual (bM st) (aK st) (ae st) .none kV doc pm an cdv ct),osl⟩)
  (c:PySem.W.codeIn K cdv qual=true) (k:PySem.W.keepIn K (.ref f)=true):Fun K x qual st f (PySem.W.fnOf x qual (bM st) (aK st) (ae st) .none kV doc pm an cdv ct):=⟨⟨oc,od,kV,doc,pm,an,cdv,ct,osl,rfl,l,c⟩,k⟩
end
theorem yd(hr:Room k A):A.units+1<cLine:=Nat.lt_of_le_of_lt (Nat.add_le_add_left (by decide:1<=64) _) hr.units
def Same(H H':Hp):Prop:=∀ b o,H b=some o->H' b=some o
theorem Same.refl(H:Hp):Same H H:=λ _ _ h=>h
theorem Same.trans{H1 H2:Hp}(a:Same H H1)(b:Same H1 H2):Same H H2:=λ c o h=>b c o (a c o h)
theorem Same.free(e:Same H H'){l:Addr}(h:H' l=Option.none):H l=Option.none:=by
 cases q:H l with
 |none=>rfl
 | some o=>
  rw[e l o q] at h;cases h
theorem Same.seq{K:Frag}(e:Same H H')(h:SqL K H a xs):SqL K H' a xs:=by
 rcases h with (h|⟨o,h⟩)|h
 ·exact .inl (.inl (e _ _ h))
 ·exact .inl (.inr ⟨o,e _ _ h⟩)
 ·exact .inr h
section
variable {κ:Type} [DecidableEq κ]
end
section
variable {prog:Program}   {E:Value->Shared->Prop} {R:Result->Shared->Prop} 
theorem gl{target:Expr}{it acc:Value}(I:Nat->Shared->Prop)
  (turn:∀ n s,I n s->wpAny (model prog w) A (pyNext it) (λ r s₁=>match r with
   |none=>R (.ok .next) s₁
   | some v=>wpAny (model prog w) A (letOwnedTupleGo target it v) (λ _ s₁'=>wpAny (model prog w) A (assign target env v) (λ _ s₂=>
     wpAny (model prog w) A (forIn ifs true λ c r=>if r=true then do let ok ← isTrue c env (eval c env);pure (ForInStep.yield ok) else pure (ForInStep.yield r)) (λ ok s₃=>
      if ok=true then wpAny (model prog w) A (eval elt env) (λ x s₄=>
       wpAny (model prog w) A (call (.builtin "list.append") [acc,x]) (λ _ s₅=>∃ m,m<n/\I m s₅) (λ _ _=>False) s₄) (λ _ _=>False) s₃
      else ∃ m,m<n/\I m s₃) (λ _ _=>False) s₂) (λ _ _=>False) s₁') (λ _ _=>False) s₁) (λ _ _=>False) s)
  (n:Nat) (h:I n s) :
  codeAny (model prog w) A (.compLoop (.ListComp elt [⟨target,iter,ifs,0⟩] scope pos) 0 it acc env) R s:=by
 refine codeAny_loop rfl I (λ n s hI=>?_) n h;show wpAny _ A ((compTurn (.ListComp elt [⟨target,iter,ifs,0⟩] scope pos) 0 it acc env).onRaise (λ x=>do noteFrame x env;theTreesLotGoes x)) _ _ s;refine wpAny_noted ?_;rw[compTurn_list];refine aaa (wpAny_standAt (aaa (aa0 (turn n s hI) (λ r s₁ h₁=>?_) λ _ _ h'=>h'.elim)))
 cases r with
 |none=>exact aab h₁
 | some v=>
  refine aaa (aa0 h₁ (λ _ s₁' h₁'=>?_) λ _ _ h'=>h'.elim);refine aaa (aa0 h₁' (λ _ s₂ h₂=>aaa (aa0 h₂ (λ ok s₃ h₃=>?_) λ _ _ h'=>h'.elim)) λ _ _ h'=>h'.elim)
  cases ok with
  |false=>exact aab ⟨rfl,h₃⟩
  | true=>
   exact aaa (aaa (aa0 h₃ (λ x s₄ h₄=>aaa (aa0 h₄ (λ _ s₅ h₅=>aab (aab ⟨rfl,h₅⟩)) λ _ _ h'=>h'.elim)) λ _ _ h'=>h'.elim))
end
def uP(X:Cx)(ifs:List Expr)(t:TT):Prop:=
 ∀ (pins:List (Addr×Obj)) (s:Shared) (σ:St) (H:Hp) (Q:Bool->Hp->Prop),Inv X pins σ H s->t σ H Q ->
  wpAny (model X.prog X.w) X.A (forIn ifs true λ c r=>if r=true then do let ok ← isTrue c X.env (eval c X.env);pure (ForInStep.yield ok) else pure (ForInStep.yield r)) (TP X pins σ Q) X.xe s
def ye:TT:=λ _ H Q=>Q true H
theorem qE :uP X [] ye:=λ _ _ _ H _ I h=>wpAny_tests_nil ⟨H,I,h⟩
theorem qF{c:Expr}{t:TT}(h:PT X c t):uP X [c] t:=λ pins s σ H Q I q=>wpAny_tests_one (h pins s σ H Q I q)
def a0(X:Cx)(N:List Str)(scope:Scope)(cl:List (Str×Addr))(C:Addr)(s:Shared)(H:Hp)(fp:List Addr):Cx:=
 { X with N:=N,s₀:=s,H₀:=H,env:=compEnvC scope cl C X.env,outer:=X.stack,ex:=fp,fn:=λ _=>false,pn:=[],xe:=λ _ _=>False }
def gm(σ:St)(ixs:List Nat):St:=ixs.map λ i=>(σ[i]?).getD none
structure CompScope(X:Cx)(T F:List Str)(ixs:List Nat)(scope:Scope):Prop where
 kind:scope.kind=.function
 nocell:∀ y∈scope.names,y.2≠.cell
 names:∀ y∈scope.names,y.2=.local->scope.names.lookup y.1=some .local
 cap:∀ (j:Nat) (i:Nat) (x:Str),ixs[j]?=some i->F[j]?=some x->X.N[i]?=some x/\scope.names.lookup x=some .free
 len:ixs.length=F.length
 out:∀ y∈scope.names,y.2=.free->X.env.scope.names.lookup y.1=some .cell∨X.env.scope.names.lookup y.1=some .free
def av(env:Env):List (Str×NameKind)->List (Str×Addr)->List (Str×Addr)
 |[],cs=>cs
 |(n,k)::r,cs=>if k==.free then av env r ((n,(env.cells.lookup n).getD 0)::cs) else av env r cs
theorem eR(h:∀ y∈scope.names,y.2=.free->∃ c,env.cells.lookup y.1=some c):closureFor scope env=pure (av env scope.names []):=by
 unfold closureFor
 have gen:∀ (l:List (Str×NameKind)) (cs:List (Str×Addr)),(∀ y∈l,y.2=.free->∃ c,env.cells.lookup y.1=some c) ->
   (do
    let mut cs:=cs
    for (name,kind) in l do
     if kind==.free then cs:=(name,← cellOf env name)::cs
    return cs:Sem (List (Str×Addr)))=pure (av env l cs):=by
  intro l
  induction l with
  |nil=>intro cs _;rfl
  | cons p r ih=>
   intro cs hl;obtain⟨n,k⟩:=p;have hr:=λ y hy=>hl y (aag _ hy);by_cases hk:k=.free
   ·obtain⟨c,hc⟩:=hl (n,k) aac hk;have hc:env.cells.lookup n=some c:=hc;have e:=ih ((n,(env.cells.lookup n).getD 0)::cs) hr;subst hk;simp only[av,List.forIn_cons,hc,cellOf] at e ⊢;simpa using e
   ·have e:=ih cs hr;have hk':(k==NameKind.free)=false:=(by exists hk);simp only[av,List.forIn_cons,hk',if_neg Bool.false_ne_true] at e ⊢;simpa using e
 exact gen scope.names [] h
theorem bz{env:Env}:∀ {l:List (Str×NameKind)} {cs:List (Str×Addr)} {x:Str} {c:Addr},(∀ y∈l,y.2=.free->∃ c,env.cells.lookup y.1=some c)->(∀ x c,cs.lookup x=some c->env.cells.lookup x=some c) ->
  (av env l cs).lookup x=some c->env.cells.lookup x=some c
 |[],cs,x,c,_,hc,h=>hc x c h
 | (n,k)::r,cs,x,c,hl,hc,h=>by
  have hr:=λ y hy=>hl y (aag _ hy);unfold av at h;split at h
  ·rename_i hk;have hk':k=.free:=(by exists hk);obtain⟨c0,h0⟩:=hl (n,k) aac hk';have h0:env.cells.lookup n=some c0:=h0;refine bz hr (λ x' c' h'=>?_) h;rw[aau] at h';split at h'
   ·rename_i e;have e:x'=n:=(by exists e);subst e;rw[h0] at h' ⊢;simpa using h'
   ·exact hc x' c' h'
  ·exact bz hr hc h
theorem bV{env:Env}:∀ {l:List (Str×NameKind)} {cs:List (Str×Addr)} {x:Str},((x,NameKind.free)∈l∨∃ c,cs.lookup x=some c)->∃ c,(av env l cs).lookup x=some c
 | [],cs,x,h=>by
  rcases h with h|h
  ·cases h
  ·exact h
 | (n,k)::r,cs,x,h=>by
  unfold av;split
  ·rename_i hk;have hk':k=.free:=(by exists hk);refine bV ?_;rcases h with h|h
   ·rcases abG.mp h with e|h
    ·have e:x=n:=by injection e
     subst e;exact .inr ⟨(env.cells.lookup x).getD 0,by rw[aau];simp⟩
    ·exact .inl h
   ·obtain⟨c,h⟩:=h;refine .inr ?_;rw[aau];split
    ·exact⟨_,rfl⟩
    ·exact⟨c,h⟩
  ·rename_i hk;refine bV ?_;rcases h with h|h
   ·rcases abG.mp h with e|h
    ·have e:NameKind.free=k:=by injection e
     subst e;simp at hk
    ·exact .inl h
   ·exact .inr h
theorem bA{env:Env}:∀ {names:List (Str×NameKind)} {x:Str} {q:NameKind},
  (names.map λ (n,k)=>if (k==NameKind.free&&env.scope.kind==.function&&env.kindOf n==some .cell) then (n,NameKind.cell) else (n,k)).lookup x=some q ->
  names.lookup x=some q∨(q=.cell/\names.lookup x=some .free)
 |[],_,_,h=>by simp at h
 | (n,k)::r,x,q,h=>by
  have ih:=@bA env r x q;rw[abC] at h;dsimp only at h;by_cases hc:(k==NameKind.free&&env.scope.kind==.function&&env.kindOf n==some .cell)=true
  ·rw[if_pos hc,aau] at h;rw[aau]
   cases hx:x==n with
   | true=>
    rw[hx] at h
    have hk:k=.free:=by
     simp only[Bool.and_eq_true] at hc;simpa using hc.1.1
    exact .inr ⟨(aah h).symm,by rw[hk]⟩
   |false=>rw[hx] at h;exact ih h
  ·rw[if_neg hc,aau] at h;rw[aau]
   cases hx:x==n with
   |true=>rw[hx] at h;exact .inl h
   |false=>rw[hx] at h;exact ih h
theorem cG{env:Env}:∀ {names:List (Str×NameKind)} {x:Str},names.lookup x=some .free ->
  (names.map λ (n,k)=>if (k==NameKind.free&&env.scope.kind==.function&&env.kindOf n==some .cell) then (n,NameKind.cell) else (n,k)).lookup x=some .cell ∨
  (names.map λ (n,k)=>if (k==NameKind.free&&env.scope.kind==.function&&env.kindOf n==some .cell) then (n,NameKind.cell) else (n,k)).lookup x=some .free
 |[],_,h=>by simp at h
 | (n,k)::r,x,h=>by
  have ih:=@cG env r x;rw[abC];dsimp only;rw[aau] at h;by_cases hc:(k==NameKind.free&&env.scope.kind==.function&&env.kindOf n==some .cell)=true
  ·rw[if_pos hc,aau]
   cases hx:x==n with
   |true=>exact .inl rfl
   |false=>rw[hx] at h;exact ih h
  ·rw[if_neg hc,aau]
   cases hx:x==n with
   |true=>rw[hx] at h;exact .inr h
   |false=>rw[hx] at h;exact ih h
def ik(no:Nat)(ixs:List Nat)(wi:TI)(g:TG)(tc:TT)(te:TE):TE:=λ σ H Q=>wi σ H λ J H1=>∀ D,H1 D=none->∃ W:Nat->Nat->List V->St->Hp->Prop,
 (∃ m,W 0 m [] (List.replicate no none++gm σ ixs) (upd H1 D (.lst [])))/\∀ i m acc σ' H',W i m acc σ' H' ->
  (J.stop i H'/\Q (.ref D) H') ∨
  (J.go i H'/\∃ N:List V->St->Hp->Prop,(∀ acc' σ2 H2,N acc' σ2 H2->∃ m',m'<m/\W (i+1) m' acc' σ2 H2) /\
   ∀ x H2,J.yld i H' x H2->g x σ' H2 λ σ3 H3=>tc σ3 H3 λ b H4=>if b=true then te σ3 H4 λ y H5=>H5 D=some (.lst acc)/\acc.length<sizeLine/\N (acc++[y]) σ3 (upd H5 D (.lst (acc++[y]))) else N acc σ3 H4)
section
variable         {fp:List Addr}
theorem qG(I:Inv X pins σ H s)(S:CompScope X T F ixs scope)(hfp:∀ b∈fp,mL X pins H b)(hfo:∀ b∈fp,∃ o,s.heap.get? b=some o) :
  (a0 X (T++F) scope (av X.env scope.names []) s.heap.objs.size s H fp).Ok:=by
 have hall:∀ y∈scope.names,y.2=.free->∃ c,X.env.cells.lookup y.1=some c:=λ y hy hf=>by
  rcases S.out y hy hf with e|e
  ·exact I.ok.has _ (.inl e)
  ·exact I.ok.has _ (.inr e)
 have hcl:∀ x c,(av X.env scope.names []).lookup x=some c->X.env.cells.lookup x=some c:=λ x c h=>bz hall (λ _ _ z=>by simp at z) h;refine⟨I.ok.mod,S.kind,I.ok.glob,I.ok.blt,aad _,λ x y c h1 h2=>I.ok.inj x y c (hcl x c h1) (hcl y c h2),λ x hx=>?_,λ _ _ z=>(nomatch z),I.ok.hd,I.ok.frames,.inl rfl,λ b hb=>⟨?_,λ x c e=>?_⟩,I.bs,aat I.ok.bsz I.sz,λ b o e hb=>?_,λ b hb hz=>?_,I.stack,I.stkFree,λ T h=>I.base.tbls T _ (I.ok.lam T h)⟩
 ·have hx:(relabel scope X.env).names.lookup x=some .cell∨(relabel scope X.env).names.lookup x=some .free:=hx
  have hf:scope.names.lookup x=some .free:=by
   rcases hx with hx|hx
   ·rcases bA hx with q|⟨_,q⟩
    ·exact absurd rfl (S.nocell _ (aaM q))
    ·exact q
   ·rcases bA hx with q|⟨z,_⟩
    ·exact q
    ·cases z
  exact bV (.inl (aaM hf))
 ·obtain⟨o,ho⟩:=hfo b hb;exact aal (aae ho)
 ·exact(hfp b hb).2.2.2.2.1 x c (hcl x c e)
 ·rcases (hfp b hb).2.2.2.1 with z|z
  ·exact I.ok.noex b o e z
  ·exact absurd (aaj (aae e) (aat I.ok.bsz z)) (aaD _)
 ·rcases abG.mp (I.stkSub b hz) with e|z
  ·exact(hfp b hb).2.1 e
  ·exact(hfp b hb).2.2.1 z
theorem ky{j:Nat}{v:V}(h:(gm σ ixs)[j]?=some (some v)):∃ i,ixs[j]?=some i/\σ[i]?=some (some v):=by
 unfold gm at h;rw[abK] at h
 cases e:ixs[j]? with
 |none=>rw[e] at h;cases h
 | some i=>
  rw[e] at h;refine⟨i,rfl,?_⟩;have h:(σ[i]?).getD none=some v:=aah h
  cases q:σ[i]? with
  |none=>rw [q] at h;cases h
  |some u=>rw [q] at h;exact congrArg some h
theorem m7(I:Inv X pins σ H s)(S:CompScope X T F ixs scope)(hfp:∀ b∈fp,mL X pins H b)(hfo:∀ b∈fp,∃ o,s.heap.get? b=some o){h':Heap}{t':Nat}{m:Str->Option Value}
  (hk:∀ b o,s.heap.get? b=some o->h'.get? b=some o) (hn:h'.Ns s.heap.objs.size m) :
  Inv (a0 X (T++F) scope (av X.env scope.names []) s.heap.objs.size s H fp) [] (List.replicate T.length none++gm σ ixs) H { s with heap:=h',toks:=t' }:=by
 have ok:=qG I S hfp hfo
 have hall:∀ y∈scope.names,y.2=.free->∃ c,X.env.cells.lookup y.1=some c:=λ y hy hf=>by
  rcases S.out y hy hf with e|e
  ·exact I.ok.has _ (.inl e)
  ·exact I.ok.has _ (.inr e)
 have hcl:∀ x c,(av X.env scope.names []).lookup x=some c->X.env.cells.lookup x=some c:=λ x c h=>bz hall (λ _ _ z=>by simp at z) h;have cellK:∀ c v,s.heap.IsCell c v->h'.IsCell c v:=λ c v ⟨o,ho,hd⟩=>⟨o,hk c o ho,hd⟩;refine⟨ok,rfl,I.bare,Un.kept hk,⟨m,hn,λ j x v e1 e2 e3=>?_⟩,λ x c e=>?_,I.hok.fresh (aad _),λ x c e=>I.freeC x c (hcl x c e),λ p hp=>absurd (show p∈([]:List (Addr×Obj)) from hp) (by simp),I.hok.kept hk,?_⟩
 ·have hj:T.length<=j:=by
   refine Nat.le_of_not_lt λ hj=>?_;rw[abP (by exists hj),List.getElem?_replicate] at e2;split at e2 <;> cases e2
  rw[abJ (by exists hj),aaQ] at e2;have e1:(T++F)[j]?=some x:=e1;rw[abJ hj] at e1;obtain⟨i,hi,hv⟩:=ky e2;obtain⟨hN,hf⟩:=S.cap _ i x hi e1;obtain⟨m0,hn0,hl⟩:=I.loc;have hm:=aaM hf;have hvis:X.env.scope.names.lookup x=some .cell∨X.env.scope.names.lookup x=some .free:=S.out _ hm rfl;obtain⟨u,ru,lk⟩:=hl i x v hN hv (hvis.elim (λ z=>.inr (.inl z)) λ z=>.inr (.inr z));refine⟨u,ru,?_⟩;rcases lk with ⟨kl,_⟩|⟨_,c,hc,hcell⟩
  ·have kl:X.env.scope.names.lookup x=some .local:=kl;rcases hvis with z|z
   ·rw[kl] at z;cases z
   ·rw[kl] at z;cases z
  ·obtain⟨c',hc'⟩:=bV (env:=X.env) (cs:=[]) (.inl hm)
   have e:c'=c:=by
    have:=hcl x c' hc';rw[hc] at this;exact(aah this).symm
   subst e;exact .inr ⟨cG hf,c',hc',cellK c' _ hcell⟩
 ·obtain⟨v,q⟩:=I.cell x c (hcl x c e);exact⟨v,cellK c v q⟩
 ·show _=(T++F).length;rw[aan,aaQ,aan,gm,abw,S.len]
theorem m8{pos':Pos}(hc:X.calm=true)(S:CompScope X T F ixs scope)
  (hi:PI X tg iter wi)
  (hg:∀ C s H fp,PG (a0 X (T++F) scope (av X.env scope.names []) C s H fp) tg g)
  (ht:∀ C s H fp,uP (a0 X (T++F) scope (av X.env scope.names []) C s H fp) ifs tc)
  (he:∀ C s H fp,PE (a0 X (T++F) scope (av X.env scope.names []) C s H fp) elt te)
  (hs:∀ x,foldedSetIterable iter X.env x=pure x) {use:Option (Value->Sem Unit)} {QQ:Value->Shared->Prop}      (I:Inv X pins σ H s) (h:ik T.length ixs wi g tc te σ H Q)
  (fine:∀ (D C:Addr) (H5:Hp) (s6:Shared) (f:Flow),(∃ m,s6.heap.Ns C m)->H5 C=none->C≠X.env.locals->(∀ x c,X.env.cells.lookup x=some c->c≠C)->X.s₀.heap.objs.size<=C->(∀ p∈X.pn++pins,p.1≠C) ->
   (∀ h7,Heap.SameBut C s6.heap h7->Inv X pins σ H5 { s6 with heap:=h7 })->Q (.ref D) H5->compPost (model X.prog X.w) X.A X.xe use QQ (.ref D) C (.ok f) s6) :
  wpAny (model X.prog X.w) X.A (comprehension (.ListComp elt [⟨tg,iter,ifs,0⟩] scope pos) scope X.env pos' (newList []) false (eval iter X.env) use) QQ X.xe s:=by
 have hall:∀ y∈scope.names,y.2=.free->∃ c,X.env.cells.lookup y.1=some c:=λ y hy hf=>by
  rcases S.out y hy hf with e|e
  ·exact I.ok.has _ (.inl e)
  ·exact I.ok.has _ (.inr e)
 refine wpAny_comprehension_free (use:=use) (cl:=av X.env scope.names []) rfl hs (eR hall) S.kind S.names (thn (hi pins s σ H _ I h) λ v s1 h1=>thn h1 λ itv s2 h2=>?_);obtain⟨it,fp,tn,J,H2,e,I2,TT,st2,f2,q2⟩:=h2;subst e;refine aaF ?_
 -- the list is laid
 have I3:Inv X pins σ (upd H2 s2.heap.objs.size (.lst [])) { s2 with heap:=s2.heap.push { cls:=.type "list", dict:=none,data:=.seq ([]:List Value).toArray } }:=
  I2.laid (t':=s2.toks) (λ b u q=>abv _ q) (aad _) ⟨aaI _,[],0,.nil,abD _ rfl⟩
 have hD:H2 s2.heap.objs.size=none:=I2.hok.fresh (aad _);have hfo:∀ b∈fp,∃ o,s2.heap.get? b=some o:=λ b hb=>let ⟨o,e,_⟩:=TT.obj _ _ st2 b hb;⟨o,e⟩;have neD:∀ b∈fp,b≠s2.heap.objs.size:=λ b hb=>by obtain⟨o,e⟩:=hfo b hb;exact aal (aae e)
 have f3:∀ b∈fp,mL X pins (upd H2 s2.heap.objs.size (.lst [])) b:=λ b hb=>by
  obtain⟨a1,a2⟩:=f2 b hb;exact⟨by rw[ah (neD b hb)];exact a1,a2⟩
 obtain⟨W,⟨m0,w0⟩,turn⟩:=q2 s2.heap.objs.size hD;generalize hs3:({ s2 with heap:=s2.heap.push { cls:=.type "list", dict:=none,data:=.seq ([]:List Value).toArray } }:Shared)=s3 at I3 ⊢;generalize hH3:upd H2 s2.heap.objs.size (.lst [])=H3 at I3 f3 w0
 have hfo3:∀ b∈fp,∃ o,s3.heap.get? b=some o:=λ b hb=>by
  obtain⟨o,e⟩:=hfo b hb;rw[← hs3];exact⟨o,abv _ e⟩
 have st3:tn 0 s3.heap:=TT.keep _ _ _ st2 λ b hb o e=>by rw[← hs3];exact abv _ e
 refine wpAny_newFunctionEnv S.nocell (by intro y hy;simp at hy) (λ h4 hns4 hsb4=>?_) S.kind;have old:∀ b o,s3.heap.get? b=some o->h4.get? b=some o:=λ b o e=>hsb4.extBut b o (aal (aae e)) (abv _ e);have J4:=m7 I3 S f3 hfo3 (t':=s3.toks+([]:List (Str×Value)).length) old hns4;generalize hs4:({ s3 with heap:=h4,toks:=s3.toks+([]:List (Str×Value)).length }:Shared)=s4 at J4 ⊢;have st4:tn 0 s4.heap:=by rw[← hs4];exact TT.keep _ _ _ st3 λ b hb o e=>old b o e
 have hg':=hg s3.heap.objs.size s3 H3 fp;have ht':=ht s3.heap.objs.size s3 H3 fp;have he':=he s3.heap.objs.size s3 H3 fp;generalize hY:a0 X (T++F) scope (av X.env scope.names []) s3.heap.objs.size s3 H3 fp=Y at J4 hg' ht' he';have yA:Y.A=X.A:=by rw[← hY];rfl
 have yP:Y.prog=X.prog:=by rw[← hY];rfl
 have yW:Y.w=X.w:=by rw[← hY];rfl
 have yK:Y.K=X.K:=by rw[← hY];rfl
 have yC:Y.calm=true:=by rw[← hY];exact hc
 have yE:Y.env=compEnvC scope (av X.env scope.names []) s3.heap.objs.size X.env:=by rw[← hY];rfl
 have yX:Y.xe=λ _ _=>False:=by rw[← hY];rfl
 have fY:∀ {H':Hp},(∀ b∈fp,H' b=none)->∀ b∈fp,mL Y [] H' b:=λ hn b hb=>by
  have k:=J4.ok;rw[← hY] at k ⊢;exact⟨hn b hb,(k.exf b hb).1,k.exfs b hb,.inl hb,(k.exf b hb).2,λ p hp=>absurd (show p∈([]:List (Addr×Obj)) from hp) (by simp)⟩
 have loop:codeAny (model X.prog X.w) X.A (.compLoop (.ListComp elt [⟨tg,iter,ifs,0⟩] scope pos) 0 (.ref it) (.ref s2.heap.objs.size) (compEnvC scope (av X.env scope.names []) s3.heap.objs.size X.env))
   (compPost (model X.prog X.w) X.A X.xe use QQ (.ref s2.heap.objs.size) s3.heap.objs.size) s4:=by
  refine gl (λ n s'=>∃ i acc σ' H',Inv Y [] σ' H' s'/\tn i s'.heap/\(∀ b∈fp,H' b=none)/\W i n acc σ' H') ?_ m0 ⟨0,[],_,H3,J4,st4,λ b hb=>(f3 b hb).1,w0⟩;rintro n s5 ⟨i,acc,σ5,H5,J5,st5,fr5,w5⟩;rcases turn i n acc σ5 H5 w5 with ⟨stop,qn⟩|⟨go,N,hN,step⟩
  ·have fin:=TT.done Y yP yW yK yC i [] s5 σ5 H5 (λ _ _=>False) J5 (fY fr5) st5 stop;rw[yA] at fin;refine thn fin λ r s6 ⟨hr,J6⟩=>?_;subst hr
   -- the block is left
   obtain⟨m,hm,_⟩:=id J6.loc;have hm:s6.heap.Ns s3.heap.objs.size m:=by rw[yE] at hm;exact hm
   have hb6:=J6.base;have hos:=J6.os;have hfree:=J6.free;have hbare:=J6.bare;have hok6:HOk X.prog X.w H5 s6.heap:=by have:=J6.hok;rw[yP,yW] at this;exact this
   rw[yE] at hfree;have hfree:H5 s3.heap.objs.size=none:=hfree;rw[← hY] at hb6 hos;have hb6:Un (frs X.stack) fp H3 H5 s3.heap s6.heap:=hb6;have hos:s6.os=s3.os:=hos;have ltC:∀ b o,s3.heap.get? b=some o->b≠s3.heap.objs.size:=λ b o e=>aal (aae e);refine fine _ _ H5 s6 _ ⟨m,hm⟩ hfree ?hl ?hcl I3.sz ?hpn (λ h7 hsb7=>?_) qn
   case hl=>exact λ z=>aaD _ (z ▸ I3.lt)
   case hcl=>exact λ x c e z=>by obtain⟨v,o,ho,_⟩:=I3.cell x c e;exact ltC c o ho z
   case hpn=>exact λ p hp z=>ltC p.1 p.2 (I3.pin p hp).1 z
   have same:∀ b,b<s3.heap.objs.size->h7.get? b=s6.heap.get? b:=λ b hb=>hsb7.2 b (aal hb)
   have hok7:HOk X.prog X.w H5 h7:=λ b o e=>by
    refine(hok6 b o e).stay (λ c w' hc q=>(hsb7.2 c ?_).trans q) (λ _ q=>q) (λ _ _ q=>q) λ _ _ _ q=>q;rintro rfl;rcases hc with z|z
    ·rw[← z,hfree] at e;cases e
    ·rw[hfree] at z;cases z
   have un7:Un (frs X.stack) fp H3 H5 s3.heap h7:=
    ⟨λ b o e n hb hx=>(same b (aae e)).trans (hb6.keep b o e n hb hx),λ b o e n hb hx=>by
     obtain⟨sl,q⟩:=hb6.slot b o e n hb hx;exact⟨sl,(same b (aae e)).trans q⟩,hb6.free,λ b o e hx=>by
     obtain⟨o',q⟩:=hb6.there b o e hx;exact⟨o',(same b (aae e)).trans q⟩,hb6.tups,hb6.frzs,hb6.tbls⟩
   exact I3.call' (s':={ s6 with heap:=h7 }) hos un7 hok7 hbare λ b hb=>by
    obtain⟨_,a2,a3,a4,a5,a6⟩:=f3 b hb;exact⟨a4,a2,a5,a6⟩
  ·have nx:=TT.item Y yP yW yK yC i [] s5 σ5 H5 (λ _ _=>False) J5 (fY fr5) st5 go;rw[yA] at nx;refine thn nx λ r s6 ⟨u,hr,h6⟩=>?_;subst hr;refine thn h6 λ _ s7 ⟨x,H7,J7,r7,y7,st7,fr7⟩=>?_;have J7':=J7.pinned (fY fr7) (TT.obj _ _ st7);have asg:=hg' _ s7 σ5 H7 x u _ J7' r7 (step x H7 y7);rw[yA,yP,yW,yE,yX] at asg;refine thn asg λ _ s8 ⟨σ8,H8,J8,q8⟩=>?_;have tst:=ht' _ s8 σ8 H8 _ J8 q8;rw[yA,yP,yW,yE,yX] at tst;refine thn tst λ b s9 ⟨H9,J9,q9⟩=>?_
   have again:∀ {s':Shared} {acc':List V} {σ':St} {H':Hp},Inv Y ([]++dX fp s7.heap) σ' H' s'->N acc' σ' H'->∃ m,m<n/\∃ i acc σ' H',Inv Y [] σ' H' s'/\tn i s'.heap/\(∀ b∈fp,H' b=none)/\W i m acc σ' H':=fun {s' acc' σ' H'} K7 n7=>by
    obtain⟨m',hm,w7⟩:=hN acc' σ' H' n7;refine⟨m',hm,i+1,acc',σ',H',K7.unpinned,TT.keep _ _ _ st7 λ b hb o e=>(K7.pin (b,o) (aak _ (aak _ (bU hb e)))).1,λ b hb=>?_,w7⟩;obtain⟨o,e,d⟩:=TT.obj _ _ st7 b hb;exact(K7.pin (b,o) (aak _ (aak _ (bU hb e)))).2.1
   cases b with
   | false=>
    rw[if_neg abB] at q9 ⊢;exact again J9 q9
   | true=>
    rw[if_pos rfl] at q9 ⊢;have elv:=he' _ s9 σ8 H9 _ J9 q9;rw[yA,yP,yW,yE,yX] at elv;refine thn elv λ u10 s10 ⟨y,H10,J10,r10,q10⟩=>?_;obtain⟨hl,hz,qN⟩:=q10;have app:=gh (X:=Y) ([]++dX fp s7.heap) s10 σ8 H10 (.ref s2.heap.objs.size) [y] (.ref s2.heap.objs.size) [u10] (λ _ H'=>N (acc++[y]) σ8 H') J10 rfl (.cons r10 .nil) ⟨_,acc,y,rfl,rfl,hl,hz,qN⟩;rw[yA,yP,yW,yX] at app;exact thn app λ _ s11 ⟨_,H11,J11,_,q11⟩=>again J11 q11
 exact codeAny_compStart_list loop (TT.self _ 0 _ _ _ st4 loop)
theorem qH(hc:X.calm=true)(S:CompScope X T F ixs scope)
  (hi:PI X tg iter wi)
  (hg:∀ C s H fp,PG (a0 X (T++F) scope (av X.env scope.names []) C s H fp) tg g)
  (ht:∀ C s H fp,uP (a0 X (T++F) scope (av X.env scope.names []) C s H fp) ifs tc)
  (he:∀ C s H fp,PE (a0 X (T++F) scope (av X.env scope.names []) C s H fp) elt te)
  (hs:autoParam (∀ x,foldedSetIterable iter X.env x=pure x) L2.aI._auto_1) :
  PE X (.ListComp elt [⟨tg,iter,ifs,0⟩] scope pos) (ik T.length ixs wi g tc te):=by
 intro pins s σ H Q I h;rw[eval_ListComp];exact m8 hc S hi hg ht he hs I h λ D C H5 s6 f ⟨m,hm⟩ _ _ _ _ _ inv q=>⟨m,hm,λ h7 k=>⟨.ref D,H5,inv h7 k,rfl,q⟩⟩
end
section
variable {no:Nat}        {D:Addr}
end
def isT(t T:String):Bool:=t==T || (t == "bool" && T == "int")
def okT(T:String):Prop:=T = "str" ∨ T = "int" ∨ T = "bool" ∨ T = "list" ∨ T = "tuple" ∨ T = "dict" ∨ T = "NoneType"
theorem uQ{K:Frag}{t T:String}(ht:okT t)(hT:okT T):PySem.W.kitOne K (.type t) (.type T)=some (isT t T):=by
 rcases ht with rfl|rfl|rfl|rfl|rfl|rfl|rfl <;> rcases hT with rfl|rfl|rfl|rfl|rfl|rfl|rfl <;> rfl
def kA(i j:Int):Prop:=0<=j/\j<=3/\i.natAbs<2 ^ 1000
theorem qI:OpR X (binaryOp .Pow) (rI kA λ i j=>.int (i ^ j.toNat)):=opI λ i j _ _ _ _ _ hc q=>by
 refine pow_int hc.1 ?_ q;have hb:Builtin.Int.intBits i<=1000:=intBits_le hc.2.2;have h2:=hc.2.1;have h1:(Builtin.Int.intBits i:Int)*j<=1000*j:=Int.mul_le_mul_of_nonneg_right (by nofun) hc.1;nofun
theorem eS:OpR X (compareOp .NotIn) (λ x y H Q=>∃ (c:Nat) (j:Str),x=.str ⟨#[c]⟩/\y=.str j/\Q (.bl (!decide (c∈j.cps.toList))) H):=by
 intro pins s σ H x y v u Q I rx ry h;obtain⟨c,j,rfl,rfl,q⟩:=h;exact fZ pins s σ H _ _ v u Q I rx ry ⟨_,j,rfl,rfl,by rw[PySem.StrLaws.found_one];exact q⟩
theorem im{y:Str}(h:x.cps.toList=y.cps.toList):x=y:=by
 cases x with|mk a=>cases y with|mk b=>exact congrArg Str.mk (Array.toList_inj.mp h)
theorem bi(x:Str):x.length=x.cps.toList.length:=by simp[Str.length]
theorem qJ(x y:Str):(x++y).cps.toList=x.cps.toList++y.cps.toList:=by
 show (x.cps++y.cps).toList=_;simp
def jT{α:Type}(xs:List α)(lo hi:Option Int):List α:=(xs.drop (HT.sIx xs.length 0 lo)).take (HT.sIx xs.length xs.length hi - HT.sIx xs.length 0 lo)
theorem sliceRange_one(a b:Nat):sliceRange (a:Int) (b:Int) 1=(List.range (b - a)).map λ k=>a+k:=by
 unfold sliceRange;simp only[show (1:Int) > 0 by decide,if_true]
 have e:(if (a:Int)<(b:Int) then ((b:Int) - (a:Int)+1 - 1) / 1 else 0).toNat=b - a:=by
  split <;> (try rw[Int.ediv_one]) <;> nofun
 rw[e];refine aaE λ k _=>?_;nofun
theorem js(lo hi:Option Int)(n:Nat):Builtin.Str.strSliceIndices lo hi 1 n=(List.range (HT.sIx n n hi - HT.sIx n 0 lo)).map λ k=>HT.sIx n 0 lo+k:=by
 unfold Builtin.Str.strSliceIndices;rw[← sliceRange_one];simp only[show (1:Int) > 0 by decide,if_true]
 congr 1
 ·cases lo with
  |none=>rfl
  |some v=>rw [← HT.clip_eq];dsimp only;split <;> nofun
 ·cases hi with
  |none=>rfl
  |some v=>rw [← HT.clip_eq];dsimp only;split <;> nofun
theorem eB{α:Type}(xs:List α)(a:Nat):∀ k:Nat,a+k<=xs.length->((List.range k).map λ j=>a+j).filterMap (λ i=>xs[i]?)=(xs.drop a).take k
 |0,_=>by simp
 | k+1,h=>by
  have hk:a+k<xs.length:=by nofun
  rw[List.range_succ,aam,List.filterMap_append,eB xs a k (by nofun),aaN]
  congr 1
  simp[List.getElem?_drop,hk]
theorem kB(x:Str)(lo hi:Option Int):(Txt.slice x lo hi).cps.toList=jT x.cps.toList lo hi:=by
 have hl:x.cps.toList.length=x.length:=by simp[Str.length]
 have h1:=HT.sIx_le x.length 0 (aaI _) lo;have h2:=HT.sIx_le x.length x.length (aad _) hi;unfold Txt.slice jT;rw[hl,js];split
 ·rename_i hc;simp only[beq_self_eq_true,Bool.true_and,List.length_map,List.length_range,beq_iff_eq] at hc;have e1:HT.sIx x.length 0 lo=0:=by nofun
  have e2:HT.sIx x.length x.length hi=x.length:=by nofun
  rw[e1,e2,aaO,Nat.sub_zero,aaT (by nofun)]
 ·show (List.filterMap (λ i=>x.cps[i]?) _).toArray.toList=_;have e:(λ i:Nat=>x.cps[i]?)=λ i:Nat=>x.cps.toList[i]?:=by funext i;simp
  rw[e];by_cases h:HT.sIx x.length 0 lo<=HT.sIx x.length x.length hi
  ·rw[eB x.cps.toList _ _ (by rw[hl];nofun)]
  ·have e0:HT.sIx x.length x.length hi - HT.sIx x.length 0 lo=0:=by nofun
   rw[e0];simp
def zi:V->Option Int->Option Int->Hp->VK->Prop:=λ x lo hi H Q=>∃ z,x=.str z/\z.length<=sizeLine/\∀ y:Str,y.cps.toList=jT z.cps.toList lo hi->Q (.str y) H
theorem uR:SlR X zi:=by
 intro pins s σ H x v vl vu lo hi sl Q I rx hs pl pu h;obtain⟨z,rfl,hz,q⟩:=h;obtain⟨t,rfl⟩:=rx;refine⟨"str", _,F.slot_str_getitem.lookup,typeIs_str _ _ _,?_⟩
 have fin:(Txt.slice z lo hi).length<=sizeLine/\∀ t' k,EP X pins σ Q (.str (Txt.slice z lo hi) t') { s with toks:=k }:=
  ⟨aat (Txt.slice_le z _ _) hz,λ t' k=>⟨.str _,H,I.tok k,⟨t',rfl⟩,q _ (kB z lo hi)⟩⟩
 obtain⟨o,ho,hc,hd⟩:=hs
 cases pl with
 | none=>
  cases pu with
  |none=>exact abf (l:=none) (u:=none) (st:=none) ⟨o,ho,hc,hd⟩ rfl (post_val_or_str fin)
  |int j uj=>exact abf (l:=none) (u:=some (j,uj)) (st:=none) ⟨o,ho,hc,hd⟩ rfl (post_val_or_str fin)
 | int i ui=>
  cases pu with
  |none=>exact abf (l:=some (i,ui)) (u:=none) (st:=none) ⟨o,ho,hc,hd⟩ rfl (post_val_or_str fin)
  |int j uj=>exact abf (l:=some (i,ui)) (u:=some (j,uj)) (st:=none) ⟨o,ho,hc,hd⟩ rfl (post_val_or_str fin)
theorem kC:∀ {zs:List Str} {us:List Value},Vals (zs.map V.str) us->∃ l:List (Str×Tok),us=strValues l/\l.map (·.1)=zs
 | [],_,r=>by
  rw[List.map_nil] at r;cases r;exact⟨[],rfl,rfl⟩
 | z::zs,_,r=>by
  rw[abC] at r
  cases r with
  | cons r1 r2=>
   obtain⟨t,rfl⟩:=r1;obtain⟨l,rfl,rfl⟩:=kC r2;exact⟨(z,t)::l,rfl,rfl⟩
def m9(K:Frag):V->List V->Hp->VK->Prop:=λ x vs H Q=>∃ (z:Str) (p:Addr) (zs:List Str),x=.str z/\vs=[.ref p]/\SqL K H p (zs.map V.str)/\(zs.map (·.length)).sum+zs.length*z.length<=16777216/\Q (.str (Builtin.Str.glued z zs)) H
theorem qK:MtR X "str.join" (m9 X.K):=by
 intro pins s σ H x vs v us Q I rx rv h;obtain⟨z,p,zs,rfl,rfl,hq,hz,q⟩:=h;obtain⟨t,rfl⟩:=rx;obtain⟨u,rfl,ru⟩:=cX rv;cases ru;obtain⟨its,r,pl,hl⟩:=I.list hq;obtain⟨l,rfl,e⟩:=kC r;exact SC.join pl.isList e (joinOk_of hz) λ t' k=>⟨.str _,H,I.tok k,⟨t',rfl⟩,q⟩
theorem kD(zs:List Str):(Builtin.Str.glued Str.empty zs).cps.toList=(zs.map λ z=>z.cps.toList).flatten:=by
 unfold Builtin.Str.glued
 have gen:∀ (l:List Str) (a:Array Nat),(l.foldl (λ acc p=>acc++Str.empty.cps++p.cps) a).toList=a.toList++(l.map λ z=>z.cps.toList).flatten:=by
  intro l
  induction l with
  |nil=>intro a;simp
  |cons y l ih=>intro a;rw [List.foldl_cons,ih];simp [Str.empty]
 rw[gen]
 cases zs with
 |nil=>simp[Str.empty]
 |cons y l=>simp
inductive DV where
 |non|bl (b:Bool)|int (i:Int)|str (x:Str)|lst (xs:List DV)|tup (xs:List DV)
mutual
inductive Deep(K:Frag)(H:Hp):V->DV->Prop where
 |non:Deep K H .non .non
 |bl (b:Bool):Deep K H (.bl b) (.bl b)
 |int (i:Int):Deep K H (.int i) (.int i)
 |str (x:Str):Deep K H (.str x) (.str x)
 |lst {a:Addr} {xs:List V} {ds:List DV}:SqL K H a xs->Deeps K H xs ds->Deep K H (.ref a) (.lst ds)
 |tup {a:Addr} {xs:List V} {ds:List DV}:SqT K H a xs->Deeps K H xs ds->Deep K H (.ref a) (.tup ds)
inductive Deeps(K:Frag)(H:Hp):List V->List DV->Prop where
 |nil:Deeps K H [] []
 |cons {x:V} {d:DV} {xs:List V} {ds:List DV}:Deep K H x d->Deeps K H xs ds->Deeps K H (x::xs) (d::ds)
end
mutual
def deq:DV->DV->Bool
 |.non,.non=>true
 |.bl a,.bl b=>a==b
 |.bl a,.int b=>(if a then 1 else 0)==b
 |.int a,.bl b=>a==(if b then 1 else 0)
 |.int a,.int b=>a==b
 |.str a,.str b=>a==b
 |.lst a,.lst b=>deqs a b
 |.tup a,.tup b=>deqs a b
 |_,_=>false
def deqs:List DV->List DV->Bool
 |[],[]=>true
 |a::r,b::s=>deq a b&&deqs r s
 |_,_=>false
end
mutual
def dep:DV->Nat
 |.lst a=>deps a+1
 |.tup a=>deps a+1
 |_=>0
def deps:List DV->Nat
 |[]=>0
 |a::r=>max (dep a) (deps r)
end
mutual
theorem iI:∀ d:DV,deq d d=true
 |.non=>rfl
 |.bl b=>beq_self_eq_true b
 |.int i=>beq_self_eq_true i
 |.str x=>beq_self_eq_true x
 |.lst xs=>deqs_refl xs
 |.tup xs=>deqs_refl xs
theorem deqs_refl:∀ ds:List DV,deqs ds ds=true
 |[]=>rfl
 |d::ds=>abW.mpr ⟨iI d,deqs_refl ds⟩
end
theorem Deeps.length{K:Frag}{H:Hp}{xs:List V}{ds:List DV}(h:Deeps K H xs ds):xs.length=ds.length:=
 Deeps.rec (motive_1:=λ _ _ _=>True) (motive_2:=λ xs ds _=>xs.length=ds.length) trivial (λ _=>trivial) (λ _=>trivial) (λ _=>trivial) (λ _ _ _=>trivial) (λ _ _ _=>trivial) rfl (λ _ _ _ t=>congrArg (·+1) t) h
theorem Deeps.get{K:Frag}{H:Hp}:∀ {xs:List V} {ds:List DV} {i:Nat} {x:V},Deeps K H xs ds->xs[i]?=some x->∃ d,ds[i]?=some d/\Deep K H x d/\dep d<=deps ds
 |_,_,_,_,.nil,e=>by simp at e
 | _,_,0,_,.cons h _,e=>by
  simp at e;subst e;exact⟨_,rfl,h,by simp only[deps];nofun⟩
 | _,_,i+1,x,.cons h t,e=>by
  obtain⟨d,h1,h2,h3⟩:=Deeps.get (i:=i) (x:=x) t (by exists e);exact⟨d,(by exists h1),h2,by simp only[deps];nofun⟩
theorem eC:∀ {ds es:List DV},ds.length=es.length->(List.range ds.length).all (λ j=>deq (ds.getD j .non) (es.getD j .non))=deqs ds es:=by
 intro ds
 induction ds with
 | nil=>intro es h;cases es with
  |nil=>rfl
  |cons _ _=>simp at h
 | cons d ds ih=>
  intro es h
  cases es with
  |nil=>simp at h
  | cons e es=>
   have h':ds.length=es.length:=(by exists h);rw[abL,List.range_succ_eq_map,aaP,List.all_map];exact congrArg (deq d e&&·) (ih h')
theorem eU:∀ {ds es:List DV},ds.length≠es.length->deqs ds es=false
 |[],[],h=>absurd rfl h
 |[],_::_,_=>rfl
 |_::_,[],_=>rfl
 | d::ds,e::es,h=>by
  have h':ds.length≠es.length:=(by exists h);show (deq d e&&deqs ds es)=false;rw[eU h',Bool.and_false]
theorem ng{ds es:List DV}:((List.range (min ds.length es.length)).all (λ j=>deq (ds.getD j .non) (es.getD j .non))&&ds.length==es.length)=deqs ds es:=by
 by_cases h:ds.length=es.length
 ·rw[← eC h,← h,Nat.min_self];simp
 ·rw[eU h];simp[h]
theorem Inv.seq_inj(I:Inv X pins σ H s){ys:List V}(h:SqL X.K H a xs)(h':SqT X.K H a ys):False:=by
 obtain⟨its,_,p,_⟩:=I.list h;obtain⟨its',_,p',_⟩:=I.tuple h';obtain⟨o,e,c,_⟩:=p.isList;obtain⟨o',e',c',_⟩:=p';rw[e] at e';cases e';rw[c] at c';injection c' with z
 exact absurd z (by decide)
theorem Deep.inj(I:Inv X pins σ H s){x:V}{d e:DV}(h:Deep X.K H x d):Deep X.K H x e->d=e:=by
 refine Deep.rec (motive_1:=λ x d _=>∀ e,Deep X.K H x e->d=e) (motive_2:=λ xs ds _=>∀ es,Deeps X.K H xs es->ds=es) ?_ ?_ ?_ ?_ (λ h _ t e h'=>?_) (λ h _ t e h'=>?_) ?_ (λ _ _ h t e h'=>?_) h e
 ·intro e h';cases h';rfl
 ·intro _ e h';cases h';rfl
 ·intro _ e h';cases h';rfl
 ·intro _ e h';cases h';rfl
 ·cases h' with
  | lst h2 t'=>
   have e:=I.list_inj h h2;subst e;rw[t _ t']
  |tup h2 _=>exact (I.seq_inj h h2).elim
 ·cases h' with
  | tup h2 t'=>
   have e:=I.tuple_inj h h2;subst e;rw[t _ t']
  |lst h2 _=>exact (I.seq_inj h2 h).elim
 ·intro e h';cases h';rfl
 ·cases h' with|cons h2 t2=>rw[h _ h2,t _ t2]
theorem Deeps.inj(I:Inv X pins σ H s){xs:List V}{ds es:List DV}(h:Deeps X.K H xs ds):Deeps X.K H xs es->ds=es:=
 Deeps.rec (motive_1:=λ _ _ _=>True) (motive_2:=λ xs ds _=>∀ es,Deeps X.K H xs es->ds=es) trivial (λ _=>trivial) (λ _=>trivial) (λ _=>trivial) (λ _ _ _=>trivial) (λ _ _ _=>trivial) (λ es h'=>by cases h';rfl) (λ h _ _ t es h'=>by cases h' with|cons h2 t2=>rw[h.inj I h2,t _ t2]) h es
theorem gn(I:Inv X pins σ H s):∀ (n:Nat) (d e:DV) (x y:V) (u v:Value) (A:Around),dep d<=n->A.units+n<cLine->Deep X.K H x d->Deep X.K H y e->RelV x u->RelV y v ->
  SeqAt.RcAt A s u v (deq d e)/\SeqAt.RcNeAt A s u v (!deq d e)/\SeqAt.EqAt A s u v (deq d e):=by
 intro n
 induction n with
 | zero=>
  intro d e x y u v A hd hu hx hy rx ry;have hu0:A.units<cLine:=by nofun
  cases hx with
  |lst _ _=>simp only [dep] at hd;nofun
  |tup _ _=>simp only [dep] at hd;nofun
  | non=>
   cases rx
   cases hy with
   |non=>cases ry;exact⟨SeqAt.RcAt.none_none,SeqAt.RcNeAt.none_none,SeqAt.EqAt.same _⟩
   |bl b=>cases ry;exact⟨SeqAt.RcAt.none_bool b,SeqAt.RcNeAt.none_bool b,SeqAt.EqAt.none_bool b⟩
   |int b=>obtain⟨t,rfl⟩:=ry;exact⟨SeqAt.RcAt.none_int b t,SeqAt.RcNeAt.none_int b t,SeqAt.EqAt.none_int b t⟩
   |str b=>obtain⟨t,rfl⟩:=ry;exact⟨SeqAt.RcAt.none_str b t,SeqAt.RcNeAt.none_str b t,SeqAt.EqAt.none_str b t⟩
   |lst h _=>cases ry;obtain⟨its,_,p,_⟩:=I.list h;exact⟨SeqAt.RcAt.none_list p.isList hu0,SeqAt.RcNeAt.none_list p.isList hu0,SeqAt.EqAt.none_list p.isList hu0⟩
   |tup h _=>cases ry;obtain⟨its,_,p,_⟩:=I.tuple h;exact⟨SeqAt.RcAt.none_tuple p hu0,SeqAt.RcNeAt.none_tuple p hu0,SeqAt.EqAt.none_tuple p hu0⟩
  | bl a=>
   cases rx
   cases hy with
   |non=>cases ry;exact⟨SeqAt.RcAt.bool_none a,SeqAt.RcNeAt.bool_none a,SeqAt.EqAt.bool_none a⟩
   |bl b=>cases ry;exact⟨SeqAt.RcAt.bool_bool a b,SeqAt.RcNeAt.bool_bool a b,SeqAt.EqAt.bool_bool a b⟩
   |int b=>obtain⟨t,rfl⟩:=ry;exact⟨SeqAt.RcAt.bool_int a b t,SeqAt.RcNeAt.bool_int a b t,SeqAt.EqAt.bool_int a b t⟩
   |str b=>obtain⟨t,rfl⟩:=ry;exact⟨SeqAt.RcAt.bool_str a b t,SeqAt.RcNeAt.bool_str a b t,SeqAt.EqAt.bool_str a b t⟩
   |lst h _=>cases ry;obtain⟨its,_,p,_⟩:=I.list h;exact⟨SeqAt.RcAt.bool_list a p.isList hu0,SeqAt.RcNeAt.bool_list a p.isList hu0,SeqAt.EqAt.bool_list a p.isList hu0⟩
   |tup h _=>cases ry;obtain⟨its,_,p,_⟩:=I.tuple h;exact⟨SeqAt.RcAt.bool_tuple a p hu0,SeqAt.RcNeAt.bool_tuple a p hu0,SeqAt.EqAt.bool_tuple a p hu0⟩
  | int a=>
   obtain⟨t',rfl⟩:=rx
   cases hy with
   |non=>cases ry;exact⟨SeqAt.RcAt.int_none a t',SeqAt.RcNeAt.int_none a t',SeqAt.EqAt.int_none a t'⟩
   |bl b=>cases ry;exact⟨SeqAt.RcAt.int_bool a t' b,SeqAt.RcNeAt.int_bool a t' b,SeqAt.EqAt.int_bool a t' b⟩
   |int b=>obtain⟨t,rfl⟩:=ry;exact⟨SeqAt.RcAt.int_int a t' b t,SeqAt.RcNeAt.int_int a t' b t,SeqAt.EqAt.int_int a t' b t⟩
   |str b=>obtain⟨t,rfl⟩:=ry;exact⟨SeqAt.RcAt.int_str a t' b t,SeqAt.RcNeAt.int_str a t' b t,SeqAt.EqAt.int_str a t' b t⟩
   |lst h _=>cases ry;obtain⟨its,_,p,_⟩:=I.list h;exact⟨SeqAt.RcAt.int_list a t' p.isList hu0,SeqAt.RcNeAt.int_list a t' p.isList hu0,SeqAt.EqAt.int_list a t' p.isList hu0⟩
   |tup h _=>cases ry;obtain⟨its,_,p,_⟩:=I.tuple h;exact⟨SeqAt.RcAt.int_tuple a t' p hu0,SeqAt.RcNeAt.int_tuple a t' p hu0,SeqAt.EqAt.int_tuple a t' p hu0⟩
  | str a=>
   obtain⟨t',rfl⟩:=rx
   cases hy with
   |non=>cases ry;exact⟨SeqAt.RcAt.str_none a t',SeqAt.RcNeAt.str_none a t',SeqAt.EqAt.str_none a t'⟩
   |bl b=>cases ry;exact⟨SeqAt.RcAt.str_bool a t' b,SeqAt.RcNeAt.str_bool a t' b,SeqAt.EqAt.str_bool a t' b⟩
   |int b=>obtain⟨t,rfl⟩:=ry;exact⟨SeqAt.RcAt.str_int a t' b t,SeqAt.RcNeAt.str_int a t' b t,SeqAt.EqAt.str_int a t' b t⟩
   |str b=>obtain⟨t,rfl⟩:=ry;exact⟨SeqAt.RcAt.str_str a t' b t,SeqAt.RcNeAt.str_str a t' b t,SeqAt.EqAt.str_str a t' b t⟩
   |lst h _=>cases ry;obtain⟨its,_,p,_⟩:=I.list h;exact⟨SeqAt.RcAt.str_list a t' p.isList hu0,SeqAt.RcNeAt.str_list a t' p.isList hu0,SeqAt.EqAt.str_list a t' p.isList hu0⟩
   |tup h _=>cases ry;obtain⟨its,_,p,_⟩:=I.tuple h;exact⟨SeqAt.RcAt.str_tuple a t' p hu0,SeqAt.RcNeAt.str_tuple a t' p hu0,SeqAt.EqAt.str_tuple a t' p hu0⟩
 | succ n ih=>
  intro d e x y u v A hd hu hx hy rx ry;have hu0:A.units<cLine:=by nofun
  have items:∀ {xs ys:List V} {ds es:List DV} {us vs:List Value},Deeps X.K H xs ds->Deeps X.K H ys es->deps ds<=n->Vals xs us->Vals ys vs->∀ j (h1:j<us.toArray.size) (h2:j<vs.toArray.size),SeqAt.EqAt A.in1 s us.toArray[j] vs.toArray[j] (deq (ds.getD j .non) (es.getD j .non)):=by
   intro xs ys ds es us vs hds hes hn rv rv' j h1 h2;have h1':j<us.length:=(by exists h1);have h2':j<vs.length:=(by exists h2);have l1:=rv.length;have l2:=rv'.length;have ex:xs[j]?=some (xs[j]'(by nofun)):=abA (by nofun);have ey:ys[j]?=some (ys[j]'(by nofun)):=abA (by nofun);obtain⟨d1,e1,p1,b1⟩:=hds.get ex;obtain⟨d2,e2,p2,b2⟩:=hes.get ey;obtain⟨u1,f1,r1⟩:=rv.get ex;obtain⟨u2,f2,r2⟩:=rv'.get ey
   have g1:us.toArray[j]=u1:=by
    have:us[j]?=some us[j]:=abA h1';rw[f1] at this;simpa using (aah this).symm
   have g2:vs.toArray[j]=u2:=by
    have:vs[j]?=some vs[j]:=abA h2';rw[f2] at this;simpa using (aah this).symm
   rw[g1,g2,ab6,ab6,e1,e2];exact(ih d1 d2 _ _ u1 u2 A.in1 (by nofun) (by show A.units+1+n<cLine;nofun) p1 p2 r1 r2).2.2
  by_cases h0:dep d<=0
  ·exact ih d e x y u v A (by nofun) (by nofun) hx hy rx ry
  cases hx with
  |non=>simp only [dep] at h0;nofun
  |bl _=>simp only [dep] at h0;nofun
  |int _=>simp only [dep] at h0;nofun
  |str _=>simp only [dep] at h0;nofun
  | @lst a xs ds h t=>
   cases rx;simp only[dep] at hd;obtain⟨its,rv,p,hz⟩:=I.list h
   cases hy with
   |non=>cases ry;exact⟨SeqAt.RcAt.list_none p.isList hu0,SeqAt.RcNeAt.list_none p.isList hu0,SeqAt.EqAt.list_none p.isList hu0⟩
   |bl b=>cases ry;exact⟨SeqAt.RcAt.list_bool b p.isList hu0,SeqAt.RcNeAt.list_bool b p.isList hu0,SeqAt.EqAt.list_bool b p.isList hu0⟩
   |int b=>obtain⟨t2,rfl⟩:=ry;exact⟨SeqAt.RcAt.list_int b t2 p.isList hu0,SeqAt.RcNeAt.list_int b t2 p.isList hu0,SeqAt.EqAt.list_int b t2 p.isList hu0⟩
   |str b=>obtain⟨t2,rfl⟩:=ry;exact⟨SeqAt.RcAt.list_str b t2 p.isList hu0,SeqAt.RcNeAt.list_str b t2 p.isList hu0,SeqAt.EqAt.list_str b t2 p.isList hu0⟩
   | tup h' _=>
    cases ry;obtain⟨its',_,p',_⟩:=I.tuple h';exact⟨SeqAt.RcAt.list_tuple p.isList p' hu0,SeqAt.RcNeAt.list_tuple p.isList p' hu0,SeqAt.EqAt.list_tuple p.isList p' hu0⟩
   | @lst b ys es h' t'=>
    cases ry;obtain⟨its',rv',p',hz'⟩:=I.list h';have l1:=rv.length;have l2:=rv'.length;have l3:=t.length;have l4:=t'.length
    have main:SeqAt.RcAt A s (.ref a) (.ref b) (deqs ds es)/\SeqAt.RcNeAt A s (.ref a) (.ref b) (!deqs ds es):=by
     by_cases hl:ds.length=es.length
     ·have e1:(List.range its.toArray.size).all (λ j=>deq (ds.getD j .non) (es.getD j .non))=deqs ds es:=by
       rw[← eC hl,show its.toArray.size=ds.length by simp;nofun]
      rw[← e1];exact⟨SeqAt.RcAt.lists p.isList p'.isList (by simp;nofun) hu0 (items t t' (by nofun) rv rv'),SeqAt.RcNeAt.lists p.isList p'.isList (by simp;nofun) hu0 (items t t' (by nofun) rv rv')⟩
     ·rw[eU hl];exact⟨SeqAt.RcAt.lists_lengths p.isList p'.isList (by simp;nofun) hu0,SeqAt.RcNeAt.lists_lengths p.isList p'.isList (by simp;nofun) hu0⟩
    refine⟨main.1,main.2,?_⟩;show SeqAt.EqAt A s (.ref a) (.ref b) (deqs ds es);by_cases hab:a=b
    ·subst hab;have ee:=I.list_inj h h';subst ee;rw[Deeps.inj I t t',deqs_refl];exact SeqAt.EqAt.same _
    ·exact SeqAt.EqAt.of_refs hab main.1
  | @tup a xs ds h t=>
   cases rx;simp only[dep] at hd;obtain⟨its,rv,p,hz⟩:=I.tuple h
   cases hy with
   |non=>cases ry;exact⟨SeqAt.RcAt.tuple_none p hu0,SeqAt.RcNeAt.tuple_none p hu0,SeqAt.EqAt.tuple_none p hu0⟩
   |bl b=>cases ry;exact⟨SeqAt.RcAt.tuple_bool b p hu0,SeqAt.RcNeAt.tuple_bool b p hu0,SeqAt.EqAt.tuple_bool b p hu0⟩
   |int b=>obtain⟨t2,rfl⟩:=ry;exact⟨SeqAt.RcAt.tuple_int b t2 p hu0,SeqAt.RcNeAt.tuple_int b t2 p hu0,SeqAt.EqAt.tuple_int b t2 p hu0⟩
   |str b=>obtain⟨t2,rfl⟩:=ry;exact⟨SeqAt.RcAt.tuple_str b t2 p hu0,SeqAt.RcNeAt.tuple_str b t2 p hu0,SeqAt.EqAt.tuple_str b t2 p hu0⟩
   | lst h' _=>
    cases ry;obtain⟨its',_,p',_⟩:=I.list h';exact⟨SeqAt.RcAt.tuple_list p p'.isList hu0,SeqAt.RcNeAt.tuple_list p p'.isList hu0,SeqAt.EqAt.tuple_list p p'.isList hu0⟩
   | @tup b ys es h' t'=>
    cases ry;obtain⟨its',rv',p',hz'⟩:=I.tuple h';have l1:=rv.length;have l2:=rv'.length;have l3:=t.length;have l4:=t'.length
    have e1:((List.range (min its.toArray.size its'.toArray.size)).all (λ j=>deq (ds.getD j .non) (es.getD j .non))&&its.toArray.size==its'.toArray.size)=deqs ds es:=by
     rw[← ng,show its.toArray.size=ds.length by simp;nofun,show its'.toArray.size=es.length by simp;nofun]
    have main:SeqAt.RcAt A s (.ref a) (.ref b) (deqs ds es)/\SeqAt.RcNeAt A s (.ref a) (.ref b) (!deqs ds es):=by
     rw[← e1];exact⟨SeqAt.RcAt.tuples p p' hu0 (items t t' (by nofun) rv rv'),SeqAt.RcNeAt.tuples p p' hu0 (items t t' (by nofun) rv rv')⟩
    refine⟨main.1,main.2,?_⟩;show SeqAt.EqAt A s (.ref a) (.ref b) (deqs ds es);by_cases hab:a=b
    ·subst hab;have ee:=I.tuple_inj h h';subst ee;rw[Deeps.inj I t t',deqs_refl];exact SeqAt.EqAt.same _
    ·exact SeqAt.EqAt.of_refs hab main.1
def zj(K:Frag):R2:=λ x y H Q=>∃ d e,Deep K H x d/\Deep K H y e/\dep d<=40/\Q (.bl (deq d e)) H
def zk(K:Frag):R2:=λ x y H Q=>∃ d e,Deep K H x d/\Deep K H y e/\dep d<=40/\Q (.bl (!deq d e)) H
theorem uS(hu:X.A.units+64<cLine):OpR X (compareOp .Eq) (zj X.K):=by
 intro pins s σ H x y v u Q I rx ry h;obtain⟨d,e,hd,he,hn,q⟩:=h;exact(gn I 40 d e x y v u X.A hn (by nofun) hd he rx ry).1 _ _ _ _ ⟨.bl _,H,I,rfl,q⟩
theorem uT(hu:X.A.units+64<cLine):OpR X (compareOp .NotEq) (zk X.K):=by
 intro pins s σ H x y v u Q I rx ry h;obtain⟨d,e,hd,he,hn,q⟩:=h;exact(gn I 40 d e x y v u X.A hn (by nofun) hd he rx ry).2.1 _ _ _ _ ⟨.bl _,H,I,rfl,q⟩
structure Own(P:Program)(w:World)(K:Frag)(mg:Str->Option Value)(base:Heap)(x:Str)(k:Nat)(ps:List Str)(sp:Sp):Prop where
 ex:∃ (f:Addr) (fd:FuncData),FnOk P w K mg base CX0 k f fd ps sp/\mg x=some (.ref f)/\PySem.W.keepIn K (.ref f)=true/\Binds K fd ps []
theorem uU{e:Expr}{es:List Expr}{t:TA}{p:Pos}(O:Own X.prog X.w X.K X.mg X.base x k ps sp)(hr:Room k X.A)(ha:PA X (e::es) t)(hg:autoParam (Gl X x) L2.aR._auto_1)
  (hdb:autoParam ((x==("__debug__" : Str))=false) L2.aD._auto_1) (he:autoParam (starEach (e::es) X.env=(false,eval e X.env)::starEach es X.env) L2.aR._auto_1) (hpl:autoParam ((backTo pos (starEach es X.env)).any (·.1)=false) L2.aR._auto_1) :
  PE X (.Call (.Name x p) (e::es) [] pos) (jo sp [] E0 t):=by
 obtain⟨f,fd,F,hm,hk,hb⟩:=O.ex;exact qo F hr hg hm hk hb .nil yc ha hdb he hpl
theorem yf{T:String}(hm:X.mg x=none)(hv:bootBuiltins x=some (.type T))(hg:autoParam (Gl X x) L2.aR._auto_1)(hn:autoParam (x ≠ "__name__") L2.aD._auto_1)(hd:autoParam ((x==("__debug__" : Str))=false) L2.aD._auto_1):PE X (.Name x pos) (tC (.ty T)):=
 pZ hg hm hv rfl hn hd
def xo(K:Frag):V->Option Int->Option Int->Hp->VK->Prop:=λ x lo hi H Q=>zi x lo hi H Q∨ze K x lo hi H Q∨za K x lo hi H Q
theorem uV:SlR X (xo X.K):=uR.or (qx.or uE)
def xp(K:Frag):List V->Hp->VK->Prop:=λ xs H Q=>(∃ z,xs=[.str z]/\z.length<=sizeLine/\Q (.int z.length) H)∨(∃ p ys,xs=[.ref p]/\(SqL K H p ys∨SqT K H p ys)/\Q (.int ys.length) H)∨(∃ a kvs,xs=[V.ref a]/\Rd H a (.dK kvs)/\Q (.int kvs.length) H)
theorem jt:CallR X (.builtin "len") (λ xs H Q=>∃ a kvs,xs=[V.ref a]/\Rd H a (.dK kvs)/\Q (.int kvs.length) H):=by
 intro pins s σ H xs us Q I r h;obtain⟨a,kvs,rfl,ha,q⟩:=h;obtain⟨u,rfl,ru⟩:=cX r;cases ru;exact ya I ha λ t s' I'=>⟨.int kvs.length,H,I',⟨t,rfl⟩,q⟩
theorem DGet.kR{kvs:List (Key×V)}{k:Key}(e:Rd H a (.dK kvs)):DGet H a (kV k) (fJ kvs k):=.inl ⟨kvs,k,e,rfl,rfl⟩
theorem kE:CallR X (.builtin "len") (xp X.K):=gf.or (ge.or jt)
def yg:List V->Hp->VK->Prop:=λ xs H Q=>∃ i j,xs=[.int i,.int j]/\Q (.int (if j > i then j else i)) H
def yh:List V->Hp->VK->Prop:=λ xs H Q=>∃ i j,xs=[.int i,.int j]/\Q (.int (if j<i then j else i)) H
theorem kF(hc:X.calm=true):CallR X (.builtin "max") yg:=j8 hc
theorem kH(hc:X.calm=true):CallR X (.builtin "min") yh:=j9 hc
def rInS:R2:=λ x y H Q=>∃ (c:Nat) (j:Str),x=.str ⟨#[c]⟩/\y=.str j/\Q (.bl (decide (c∈j.cps.toList))) H
def qL:R2:=λ x y H Q=>∃ (c:Nat) (j:Str),x=.str ⟨#[c]⟩/\y=.str j/\Q (.bl (!decide (c∈j.cps.toList))) H
def rInA(K:Frag):R2:=λ x y H Q=>rInS x y H Q∨rIn K false x y H Q
def kJ(K:Frag):R2:=λ x y H Q=>qL x y H Q∨rIn K true x y H Q
theorem kK:OpR X (compareOp .NotIn) (kJ X.K):=OpR.or eS fX
section
variable    {R:Bool->Hp->Prop} {QA:List V->Hp->Prop} {D:Ends} {K:Frag}
end
theorem aM{p:Addr}{o:HO}(hp:H p=none):Same H (upd H p o):=λ b u h=>by rw[ah (ao h hp)];exact h
theorem SqT.same{K:Frag}(h:SqT K H a xs)(e:Same H H'):SqT K H' a xs:=by
 rcases h with (h|⟨o,h⟩)|h
 ·exact .inl (.inl (e _ _ h))
 ·exact .inl (.inr ⟨o,e _ _ h⟩)
 ·exact .inr h
def qM(N:List Str)(names:List (Str×NameKind)):List Str->List Nat->Bool
 |[],[]=>true
 |x::F,i::ixs=>(N[i]?==some x)&&(names.lookup x==some .free)&&qM N names F ixs
 |_,_=>false
theorem iJ{N:List Str}{names:List (Str×NameKind)}:∀ {F:List Str} {ixs:List Nat},qM N names F ixs=true->ixs.length=F.length /\
  ∀ (j i:Nat) (x:Str),ixs[j]?=some i->F[j]?=some x->N[i]?=some x/\names.lookup x=some .free
 |[],[],_=>⟨rfl,λ j i x h=>by simp at h⟩
 |[],_::_,h=>(abB h).elim
 |_::_,[],h=>(abB h).elim
 | y::F,k::ixs,h=>by
  obtain⟨h,h3⟩:=abW.mp h;obtain⟨h1,h2⟩:=abW.mp h;replace h1:=eq_of_beq h1;replace h2:=eq_of_beq h2;obtain⟨l,r⟩:=iJ h3;refine⟨by rw[abL,abL,l],λ j i x a b=>?_⟩
  cases j with
  | zero=>
   simp at a b;subst a b;exact⟨h1,h2⟩
  |succ j=>exact r j i x (by exists a) (by exists b)
def zm(names out:List (Str×NameKind)):Bool:=names.all λ y=>(y.2 != .cell)&&(y.2 != .local || names.lookup y.1==some .local)&&(y.2 != .free || out.lookup y.1==some .cell || out.lookup y.1==some .free)
theorem CompScope.of(kind:scope.kind=.function)(h1:qM X.N scope.names F ixs=true)(h2:zm scope.names X.env.scope.names=true):CompScope X T F ixs scope:=by
 obtain⟨l,c⟩:=iJ h1;unfold zm at h2;rw[ab0] at h2;refine⟨kind,λ y hy=>?_,λ y hy e=>?_,λ j i x=>c j i x,l,λ y hy e=>?_⟩
 ·have:=h2 y hy;simp only[Bool.and_eq_true] at this;simpa using this.1.1
 ·have:=h2 y hy;simp only[Bool.and_eq_true] at this;have q:=this.1.2;rw[e] at q;simpa using q
 ·have:=h2 y hy;simp only[Bool.and_eq_true] at this;have q:=this.2;rw[e] at q;simpa using q
def xq(K:Frag):R2:=λ x y H Q=>rEq x y H Q∨zj K x y H Q
def xr(K:Frag):R2:=λ x y H Q=>rNe x y H Q∨zk K x y H Q
theorem uW(hu:X.A.units+64<cLine):OpR X (compareOp .Eq) (xq X.K):=xS.or (uS hu)
theorem uX(hu:X.A.units+64<cLine):OpR X (compareOp .NotEq) (xr X.K):=xT.or (uT hu)
end L2
namespace L2
open PySem
theorem pd{α:Type}{xs:List α}{i:Int}(h0:0<=i)(h:i<xs.length):∃ c,atI xs i=some c/\c∈xs:=by
 obtain⟨k,rfl⟩:=Int.eq_ofNat_of_zero_le h0;have hk:k<xs.length:=by nofun
 exact⟨xs[k],ki (abA hk),List.getElem_mem hk⟩
end L2
namespace L2
open PySem PySem.Spec PyProof.Rows
variable{o:Expr}{to:TE}{name:Str}{apos cpos:Pos}{T:String}{r:V->List V->Hp->VK->Prop}
section
variable {X:Cx}
theorem qO(K:Frag)(h:autoParam (X.K=K) L2.aR._auto_1):IxR X (rIx K):=by subst h;exact o8
theorem uY(K:Frag)(hu:X.A.units+64<cLine)(h:autoParam (X.K=K) L2.aR._auto_1):OpR X (compareOp .Eq) (xq K):=by subst h;exact uW hu
theorem uZ(K:Frag)(hu:X.A.units+64<cLine)(h:autoParam (X.K=K) L2.aR._auto_1):OpR X (compareOp .NotEq) (xr K):=by subst h;exact uX hu
theorem qP(K:Frag)(h:autoParam (X.K=K) L2.aR._auto_1):SlR X (xo K):=by subst h;exact uV
theorem kM(K:Frag)(h:autoParam (X.K=K) L2.aR._auto_1):CallR X (.builtin "len") (xp K):=by subst h;exact kE
theorem nh(K:Frag)(h:autoParam (X.K=K) L2.aR._auto_1):MtR X "str.join" (m9 K):=by subst h;exact qK
theorem va{e:Expr}{es:List Expr}{t:TA}{id:String}(K:Frag)(pa:PlainAttrs T)(slot:Slot T name id)(hty:typeOf (.builtin id)=pure (.type "method_descriptor"))(hm:MtR X id r)(ho:PE X o to)(ha:PA X (e::es) t)
  (hK:autoParam (X.K=K) L2.aR._auto_1) (hbase:autoParam (attributeBase o name X.env (eval o X.env)=eval o X.env) L2.aR._auto_1)
  (hfew:autoParam (((backTo cpos (starEach (e::es) X.env)).all (λ x=>!x.1)&&(backToKw cpos (keywordEach [] X.env)).all (λ x=>x.1.isSome)
   && decide ((e::es).length+([]:List Keyword).length+(if ([]:List Keyword).isEmpty then 0 else 1)<30))=true) L2.aR._auto_1)
  (hline:autoParam ((apos.endLine==cpos.line)=true) L2.aR._auto_1) (hs:autoParam (starEach (e::es) X.env=(false,eval e X.env)::starEach es X.env) L2.aR._auto_1) (hplain:autoParam ((backTo cpos (starEach es X.env)).any (·.1)=false) L2.aR._auto_1) :
  PE X (.Call (.Attribute o name apos) (e::es) [] cpos) (tBM K T r to t):=by subst hK;exact xY pa slot hty hm ho ha hbase hfew hline hs hplain
theorem qQ{id:String}(K:Frag)(pa:PlainAttrs T)(slot:Slot T name id)(hty:typeOf (.builtin id)=pure (.type "method_descriptor"))(hm:MtR X id r)(ho:PE X o to)
  (hK:autoParam (X.K=K) L2.aR._auto_1) (hbase:autoParam (attributeBase o name X.env (eval o X.env)=eval o X.env) L2.aR._auto_1) (hline:autoParam ((apos.endLine==cpos.line)=true) L2.aR._auto_1):PE X (.Call (.Attribute o name apos) [] [] cpos) (uK K T r to):=by subst hK;exact uL pa slot hty hm ho hbase hline
theorem ni{tg l:Expr}{tl:TE}(K:Frag)(hl:PE X l tl)(hK:autoParam (X.K=K) L2.aR._auto_1):PI X tg l (jl K tl):=by subst hK;exact qf hl
end
end L2
namespace L2
open PySem
end L2
namespace L2
theorem eV{α:Type}:∀ zs:List α,(zs.map λ _=>1).sum=zs.length
 |[]=>rfl
 |z::zs=>by rw[abC,List.sum_cons,eV zs,abL];nofun
end L2
namespace L2
open PySem PySem.Spec PyProof.Rows
variable{e a b o tg iter c:Expr}{es:List Expr}{env:Env}{pos p apos cpos:Pos}{X:Cx}{te ta tb to:TE}{t:TA}{x name:Str}{k i:Nat}{ps:List Str}{sp:Sp}{r:List V->Hp->VK->Prop}{T:String}{trs:List (TE×TE)}{wi:TI}{g:TG}{tc tA tB':TT}{st:Stmt}{u:TS}
def aP:Expr->Bool
 |.Starred _ _=>false
 |_=>true
theorem aW(h:aP e=true):starEach (e::es) env=(false,eval e env)::starEach es env:=by
 cases e <;> first|rfl|(cases h)
theorem cg(h:es.all aP=true):(backTo pos (starEach es env)).any (·.1)=false:=by
 induction es with
 |nil=>rfl
 | cons e es ih=>
  rw[aaP,abR] at h;rw[aW h.1];have:=ih h.2;simpa [backTo] using this
theorem pa_c(ha:PE X e te)(hr:PA X es t)(hn:autoParam (aP e=true) L2.aR._auto_1):PA X (e::es) (bp te t):=kc ha hr (aW hn)
theorem qR(O:Own X.prog X.w X.K X.mg X.base x k ps sp)(hr:Room k X.A)(ha:PA X (e::es) t)(hg:autoParam (Gl X x) L2.aR._auto_1)(hn:autoParam ((e::es).all aP=true) L2.aR._auto_1)
  (hdb:autoParam ((x==("__debug__" : Str))=false) L2.aD._auto_1):PE X (.Call (.Name x p) (e::es) [] pos) (jo sp [] E0 t):=by
 have h:=hn;rw[aaP,abR] at h;exact uU O hr ha hg hdb (aW h.1) (cg h.2)
theorem kN{id:String}(hc:CallR X (.builtin id) r)(hm:X.mg x=none)(hv:bootBuiltins x=some (.builtin id))(ha:PA X (e::es) t)(hg:autoParam (Gl X x) L2.aR._auto_1)(hns:autoParam ((e::es).all aP=true) L2.aR._auto_1)(hn:autoParam (x ≠ "__name__") L2.aD._auto_1)
  (hdb:autoParam ((x==("__debug__" : Str))=false) L2.aD._auto_1):PE X (.Call (.Name x p) (e::es) [] pos) (tCB r t):=by
 have h:=hns;rw[aaP,abR] at h;exact mT hc hg hm hv ha hn hdb (aW h.1) (cg h.2)
theorem kO(hc:CallR X (.type T) r)(hm:X.mg x=none)(hv:bootBuiltins x=some (.type T))(ha:PA X (e::es) t)(hg:autoParam (Gl X x) L2.aR._auto_1)(hns:autoParam ((e::es).all aP=true) L2.aR._auto_1)(hn:autoParam (x ≠ "__name__") L2.aD._auto_1)
  (hdb:autoParam ((x==("__debug__" : Str))=false) L2.aD._auto_1):PE X (.Call (.Name x p) (e::es) [] pos) (tCB r t):=by
 have h:=hns;rw[aaP,abR] at h;exact kg hc hg hm hv ha hn hdb (aW h.1) (cg h.2)
structure BE(X:Cx)(e:Expr)(t:TE):Prop where h:PE X e t
structure BT(X:Cx)(e:Expr)(t:TT):Prop where h:PT X e t
structure BW(X:Cx)(e:Expr)(t:TT):Prop where h:PW X e t
structure BA(X:Cx)(es:List Expr)(t:TA):Prop where h:PA X es t
structure BS(X:Cx)(s:Stmt)(t:TS):Prop where h:PS X s t
structure BSs(X:Cx)(s:List Stmt)(t:TS):Prop where h:PSs X s t
structure BG(X:Cx)(e:Expr)(t:TG):Prop where h:PG X e t
structure BGs(X:Cx)(es:List Expr)(t:TGs):Prop where h:PGs X es t
structure BI(X:Cx)(tg e:Expr)(t:TI):Prop where h:PI X tg e t
structure BO(X:Cx)(e:Option Expr)(t:TO):Prop where h:PO X e t
structure BIf(X:Cx)(es:List Expr)(t:TT):Prop where h:uP X es t
structure BPs(X:Cx)(pos:Pos)(ks:List (Option Expr))(vs:List Expr)(t:List (TE×TE)):Prop where h:PPs X pos ks vs t
structure BOp(X:Cx)(f:Value->Value->Sem Value)(r:R2):Prop where h:OpR X f r
structure BCall(X:Cx)(f:Value)(r:List V->Hp->VK->Prop):Prop where h:CallR X f r
structure BMt(X:Cx)(id:String)(r:V->List V->Hp->VK->Prop):Prop where h:MtR X id r
theorem kP(i:Nat)(hN:X.N[i]?=some x)(hv:Vis X.env.scope x)(hd:autoParam ((x==("__debug__" : Str))=false) L2.aD._auto_1)(hcd:autoParam ((x==("__classdict__" : Str))=false) L2.aD._auto_1):BE X (.Name x pos) (cV i):=⟨oY hN hv hd hcd⟩
theorem we_vl(i:Nat)(hN:autoParam (X.N[i]?=some x) L2.aR._auto_1)(hv:autoParam (X.env.scope.names.lookup x=some .local) L2.aR._auto_1)(hd:autoParam ((x==("__debug__":Str))=false) L2.aD._auto_1)(hcd:autoParam ((x==("__classdict__":Str))=false) L2.aD._auto_1):BE X (.Name x pos) (cV i):=kP i hN (.inl hv) hd hcd
theorem kQ{i j pos}:BE X (.Constant (.int i) j pos) (tC (.int i)):=⟨tY⟩
theorem yi{b j pos}:BE X (.Constant (.bool b) j pos) (tC (.bl b)):=⟨xF⟩
theorem vb{j pos}:BE X (.Constant .none j pos) (tC .non):=⟨tZ⟩
theorem pf{x j pos}:BE X (.Constant (.str x) j pos) (tC (.str x)):=⟨t4⟩
theorem yj(hm:X.mg x=none)(hv:bootBuiltins x=some (.type T))(hg:X.env.kindOf x=some .globalImplicit)(hn:autoParam (x ≠ "__name__") L2.aD._auto_1)(hd:autoParam ((x==("__debug__" : Str))=false) L2.aD._auto_1):BE X (.Name x pos) (tC (.ty T)):=⟨yf hm hv hg hn hd⟩
theorem yk{op:Operator}{r:R2}(ho:BOp X (binaryOp op) r)(ha:BE X a ta)(hb:BE X b tb):BE X (.BinOp a op b pos) (tOp r ta tb):=⟨xQ ho.h ha.h hb.h⟩
theorem ph(ha:BE X a ta):BE X (.UnaryOp .USub a pos) (tUn (rU λ i=>.int (-i)) ta):=⟨xR ux ha.h⟩
theorem vc(ha:BE X a ta):BE X (.UnaryOp .Not a pos) (p6 ta):=⟨ub ha.h⟩
theorem vd{op}{t:TE}(h:BE X a t):BE X (.BoolOp op [a] pos) t:=⟨t9 h.h⟩
theorem ve{rest:List Expr}(ha:BE X a ta)(hb:BE X (.BoolOp .And (b::rest) pos) tb):BE X (.BoolOp .And (a::b::rest) pos) (p5 ta tb):=⟨ua ha.h hb.h⟩
theorem vf(O:Own X.prog X.w X.K X.mg X.base x k ps sp)(hr:Room k X.A)(ha:BA X (e::es) t)(hg:X.env.kindOf x=some .globalImplicit)(hn:(e::es).all aP=true)
  (hdb:autoParam ((x==("__debug__" : Str))=false) L2.aD._auto_1):BE X (.Call (.Name x p) (e::es) [] pos) (jo sp [] E0 t):=⟨qR O hr ha.h hg hn hdb⟩
theorem nj{id:String}(hc:BCall X (.builtin id) r)(hm:X.mg x=none)(hv:bootBuiltins x=some (.builtin id))(ha:BA X (e::es) t)(hg:X.env.kindOf x=some .globalImplicit)(hns:(e::es).all aP=true)(hn:autoParam (x ≠ "__name__") L2.aD._auto_1)
  (hdb:autoParam ((x==("__debug__" : Str))=false) L2.aD._auto_1):BE X (.Call (.Name x p) (e::es) [] pos) (tCB r t):=⟨kN hc.h hm hv ha.h hg hns hn hdb⟩
theorem nk(hc:BCall X (.type T) r)(hm:X.mg x=none)(hv:bootBuiltins x=some (.type T))(ha:BA X (e::es) t)(hg:X.env.kindOf x=some .globalImplicit)(hns:(e::es).all aP=true)(hn:autoParam (x ≠ "__name__") L2.aD._auto_1)
  (hdb:autoParam ((x==("__debug__" : Str))=false) L2.aD._auto_1):BE X (.Call (.Name x p) (e::es) [] pos) (tCB r t):=⟨kO hc.h hm hv ha.h hg hns hn hdb⟩
theorem nn(h:es.all aP=true)(hl:es.length<29):((backTo pos (starEach es env)).all (λ x=>!x.1)&&(backToKw pos (keywordEach [] env)).all (λ x=>x.1.isSome)
      && decide (es.length+([]:List Keyword).length+(if ([]:List Keyword).isEmpty then 0 else 1)<30))=true:=by
  have h1:(backTo pos (starEach es env)).all (λ x=>!x.1)=true:=by
    clear hl
    induction es with
    |nil=>rfl
    | cons e es ih=>
      rw[aaP,abR] at h;rw[aW h.1];exact ih h.2
  rw[h1];exact decide_eq_true (aaw hl)
theorem qS{id:String}{r:V->List V->Hp->VK->Prop}(K:Frag)(pa:PlainAttrs T)(slot:Slot T name id)(hty:typeOf (.builtin id)=pure (.type "method_descriptor"))(hm:BMt X id r)(ho:BE X o to)(ha:BA X (e::es) t)
  (hK:X.K=K) (hbase:attributeBase o name X.env (eval o X.env)=eval o X.env) (hn:(e::es).all aP=true) (hl:(e::es).length<29) (hline:(apos.endLine==cpos.line)=true):BE X (.Call (.Attribute o name apos) (e::es) [] cpos) (tBM K T r to t):=by
 have h:=hn;rw[aaP,abR] at h;exact⟨va K pa slot hty hm.h ho.h ha.h hK hbase (nn hn hl) hline (aW h.1) (cg h.2)⟩
theorem nq{id:String}{r:V->List V->Hp->VK->Prop}(K:Frag)(pa:PlainAttrs T)(slot:Slot T name id)(hty:typeOf (.builtin id)=pure (.type "method_descriptor"))(hm:BMt X id r)(ho:BE X o to)
  (hK:X.K=K) (hbase:attributeBase o name X.env (eval o X.env)=eval o X.env) (hline:(apos.endLine==cpos.line)=true):BE X (.Call (.Attribute o name apos) [] [] cpos) (uK K T r to):=⟨qQ K pa slot hty hm.h ho.h hK hbase hline⟩
theorem yl(K:Frag)(ha:BE X a ta)(hb:BE X b tb)(hs:∀ o i,subscripted b false o i=operate [o,i] (getItem o i))(hK:X.K=K):BE X (.Subscript a b pos) (tOp (rIx K) ta tb):=⟨uG (qO K hK) ha.h hb.h hs⟩
theorem nr{lo hi:Option Expr}{tl th:TO}{p2:Pos}(K:Frag)(he:BE X e te)(hl:BO X lo tl)(hu:BO X hi th)(hK:X.K=K):BE X (.Subscript e (.Slice lo hi none p2) pos) (tSl (xo K) te tl th):=⟨mV (qP K hK) he.h hl.h hu.h⟩
theorem vg(h:BA X es t):BE X (.List es pos) (xX t):=⟨uB h.h⟩
theorem vh{x1}(h:BA X es t):BE X (.Tuple es x1 pos) (xn t):=⟨uA h.h⟩
theorem kT{k:Option Expr}{keys:List (Option Expr)}{values:List Expr}(h:BPs X pos (k::keys) values trs)(hall:(k::keys).all (·.isSome)=true)(hl:(k::keys).length=values.length)(h15:(k::keys).length<=15):BE X (.Dict (k::keys) values pos) (qC trs):=⟨qD h.h hall hl (λ z=>nomatch z) h15⟩
theorem qT :BPs X pos [] [] []:=⟨qB⟩
theorem nu{k v:Expr}{ks:List (Option Expr)}{vs:List Expr}{tk tv:TE}(hk:BE X k tk)(hv:BE X v tv)(hr:BPs X pos ks vs trs):BPs X pos (some k::ks) (v::vs) ((tk,tv)::trs):=⟨m5 hk.h hv.h hr.h⟩
theorem qU{T F:List Str}{ixs:List Nat}{scope:Scope}{elt:Expr}{ifs:List Expr}(hc:X.calm=true)(S:CompScope X T F ixs scope)(hi:BI X tg iter wi)
  (hg:∀ C s H fp,BG (a0 X (T++F) scope (av X.env scope.names []) C s H fp) tg g) (ht:∀ C s H fp,BIf (a0 X (T++F) scope (av X.env scope.names []) C s H fp) ifs tc) (he:∀ C s H fp,BE (a0 X (T++F) scope (av X.env scope.names []) C s H fp) elt te)
  (hs:∀ x,foldedSetIterable iter X.env x=pure x):BE X (.ListComp elt [⟨tg,iter,ifs,0⟩] scope pos) (ik T.length ixs wi g tc te):=
 ⟨qH hc S hi.h (λ C s H fp=>(hg C s H fp).h) (λ C s H fp=>(ht C s H fp).h) (λ C s H fp=>(he C s H fp).h) hs⟩
theorem vi:BA X [] fP:=⟨o0⟩
theorem wa_c(ha:BE X e te)(hr:BA X es t)(hn:aP e=true):BA X (e::es) (bp te t):=⟨pa_c ha.h hr.h hn⟩
theorem qV:BO X none h8:=⟨qq⟩
theorem qW(h:BE X e te):BO X (some e) (qp te):=⟨qr h.h⟩
theorem qX:BIf X [] ye:=⟨qE⟩
theorem qY{t:TT}(h:BT X c t):BIf X [c] t:=⟨qF h.h⟩
theorem vj{op:CmpOp}{r:R2}(ho:BOp X (compareOp op) r)(ha:BE X a ta)(hb:BE X b tb)(hm:behindInMarks op b=false):BT X (.Compare a [op] [b] pos) (qj (tOp r ta tb)):=⟨qk ho.h ha.h hb.h hm⟩
theorem vm(ha:BT X a tA):BT X (.UnaryOp .Not a pos) (xH tA):=⟨t8 ha.h⟩
theorem wt_w{t:TT}(h:BW X e t):BT X e t:=⟨h.h.pt⟩
theorem qZ(ha:BT X a tA):BW X (.BoolOp .And [a] pos) tA:=⟨p0 ha.h⟩
theorem vn(ha:BT X a tA):BW X (.BoolOp .Or [a] pos) tA:=⟨t6 ha.h⟩
theorem vo{rest:List Expr}(ha:BT X a tA)(hb:BW X (.BoolOp .And (b::rest) pos) tB'):BW X (.BoolOp .And (a::b::rest) pos) (xG tA tB'):=⟨t7 ha.h hb.h⟩
theorem ym{rest:List Expr}(ha:BT X a tA)(hb:BW X (.BoolOp .Or (b::rest) pos) tB'):BW X (.BoolOp .Or (a::b::rest) pos) (tOr tA tB'):=⟨xI ha.h hb.h⟩
theorem q0{f:Expr}{as:List Expr}{ks:List Keyword}{t:TE}(h:BE X (.Call f as ks pos) t):BT X (.Call f as ks pos) (tB t):=⟨t5 h.h (by intro _;cases f <;> rfl)⟩
theorem ra(hN:X.N.Nodup)(hi:X.N[i]?=some x)(hx:Loc X.env.scope x)(hf:X.fn x=true∨X.env.scope.names.lookup x=some .local):BG X (.Name x pos) (dN i):=⟨qb hN hi hx hf⟩
theorem rb:BGs X [] xO:=⟨qd⟩
theorem nv{t:TG}{u:TGs}(h1:BG X e t)(h2:BGs X es u)(hs:(assignEach (e::es) X.env).map (·.2)=assign e X.env::(assignEach es X.env).map (·.2)):BGs X (e::es) (qc t u):=⟨mR h1.h h2.h hs⟩
theorem vq{i:Expr}{ti:TE}(ho:BE X o to)(hi:BE X i ti)
  (ha:∀ v,assign (.Subscript o i pos) X.env v=(do
   let ov ← holding [v] (eval o X.env)
   let iv ← holding [v,ov] (eval i X.env)
   standAt pos
   holding [v,ov,iv] (setItem ov iv v)
   release [v,ov,iv] [])):BG X (.Subscript o i pos) (xP to ti qw):=⟨ud ho.h hi.h mW ha⟩
theorem re{l:Expr}{tl:TE}(K:Frag)(hl:BE X l tl)(hK:X.K=K):BI X tg l (jl K tl):=⟨ni K hl.h hK⟩
theorem kU{ta:TA}(hg:X.env.kindOf "range" = some .globalImplicit)(hm:X.mg "range" = none)(ha:BA X [a] ta)(hn:aP a=true):BI X tg (.Call (.Name "range" p) [a] [] pos) (qg ta):=⟨j3 hg hm ha.h (aW hn)⟩
theorem rg:BSs X [] p7:=⟨p8⟩
theorem kW{t:TS}(h:BS X st t):BSs X [st] t:=⟨p9 h.h⟩
theorem ny{rest:List Stmt}{t:TS}(h1:BS X st t)(h2:BSs X rest u):BSs X (st::rest) (xJ t u):=⟨mQ h1.h h2.h⟩
theorem rh(he:BE X e te)(hs:swapsWith e none pos.line X.env=pure false):BS X (.Expr e pos) (jZ te):=⟨qa he.h hs⟩
theorem pi(he:BE X e te):BS X (.Return (some e) pos) (xK te):=⟨uc he.h⟩
theorem yn{a b:List Stmt}{t:TS}(hc:BT X c tc)(ha:BSs X a t)(hb:BSs X b u):BS X (.If c a b pos) (xL tc t u):=⟨xM hc.h ha.h hb.h⟩
theorem vt{pos':Pos}(hN:X.N.Nodup)(hi:X.N[i]?=some x)(hx:Loc X.env.scope x)(he:BE X e te)(hs:swapsWith e (some (.Name x pos')) pos.line X.env=pure false)(hf:X.fn x=true∨X.env.scope.names.lookup x=some .local) :
  BS X (.Assign [.Name x pos'] e pos) (qe te (dN i)):=⟨uf hN hi hx he.h hs hf⟩
theorem vv(he:BE X e te)(hg:BG X tg g)(hs:swapsWithSole [tg] e pos.line X.env=pure false)(hw:swappedStores [tg] e X.env=pure none)(h1:(assignEach [tg] X.env).map (·.2)=[assign tg X.env]):BS X (.Assign [tg] e pos) (qe te g):=⟨ue he.h hg.h hs hw h1⟩
theorem vx{body:List Stmt}{tb:TS}(hp:PassesOwn (model X.prog X.w) X.A X.env X.xe)(hc:X.calm=true)(hi:BI X tg iter wi)(hg:BG X tg g)(hb:BSs X body tb)(hs:∀ x,foldedSetIterable iter X.env x=pure x):BS X (.For tg iter body [] pos) (uh wi g tb):=⟨uk hp hc hi.h hg.h hb.h hs⟩
theorem rj:BOp X (binaryOp .Sub) (rI0 λ i j=>.int (i - j)):=⟨um⟩
theorem rl:BOp X (binaryOp .Mult) (rI CMul λ i j=>.int (i*j)):=⟨uo⟩
theorem nD:BOp X (binaryOp .FloorDiv) (rI qh λ i j=>.int (i / j)):=⟨qi⟩
theorem rm:BOp X (binaryOp .Mod) (rI (λ _ j=>0<j) λ i j=>.int (i % j)):=⟨ur⟩
theorem rp:BOp X (binaryOp .Pow) (rI mM λ i j=>.int (i ^ j.toNat)):=⟨ut⟩
theorem nE:BOp X (binaryOp .Pow) (rI kA λ i j=>.int (i ^ j.toNat)):=⟨qI⟩
theorem vy(K:Frag)(hu:X.A.units+64<cLine)(h:X.K=K):BOp X (compareOp .Eq) (xq K):=⟨uY K hu h⟩
theorem vz(K:Frag)(hu:X.A.units+64<cLine)(h:X.K=K):BOp X (compareOp .NotEq) (xr K):=⟨uZ K hu h⟩
theorem vA(K:Frag)(h:X.K=K):BCall X (.builtin "len") (xp K):=⟨kM K h⟩
theorem vB(hc:X.calm=true):BCall X (.builtin "max") yg:=⟨kF hc⟩
theorem vC(hc:X.calm=true):BCall X (.builtin "min") yh:=⟨kH hc⟩
theorem rq(K:Frag)(h:X.K=K):BMt X "str.join" (m9 K):=⟨nh K h⟩
theorem kX(K:Frag)(h:X.K=K):BMt X "list.append" cu:=⟨gh⟩
theorem Fun.okB{P:Program}{w:World}{K:Frag}{mg:Str->Option Value}{base:Heap}{qual:Str}{f:Addr}{fd:FuncData}{N:List Str}(F:Fun K x qual st f fd)(S:FnScope N ps (ae st))(len:∀ vs H Q E,sp vs H Q E->vs.length=ps.length)
  (hbody:∀ (cdv:Value) (A:Around) (outer:List Env) (s:Shared) (H:Hp) (vs:List V) (Q:VK) (E:XK),Room k (A.deeper (envOfC qual (ae st) s.heap.objs.size f cdv))->sp vs H Q E ->
   ∃ t,BSs (fU CX0 P w K mg base N qual (ae st) f cdv A outer s H E).nox (aK st) t/\t { nx:=λ _ H'=>Q .non H',rt:=Q } (bg N vs) H):FnOk P w K mg base CX0 (k+1) f fd ps sp:=
 F.ok S len λ cdv A outer s H vs Q E hr h=>by
  obtain⟨t,h1,h2⟩:=hbody cdv A outer s H vs Q E hr h;exact⟨t,h1.h,h2⟩
end L2
namespace L2
open PySem
end L2
set_option maxHeartbeats 4000000
namespace KS
open PySem PySem.Spec PyProof.Rows
variable{xs order:Array Nat}{i j mask finger moves ep n c slot g:Nat}{led plain L:Bool}{hs:Array Int}{prog:Program}{w:World}{K α:Type}{A A':Around}{E Q:Value->Shared->Prop}{s:Shared}{h h':Heap}{a I pl:Addr}{o op:Obj}{es:Array (Int×Value)}{x:Value}{pls:Array Value}{Q':Option (Value×Nat)->Shared->Prop}
def Ris(xs:Array Nat):Prop:=xs.toList.Pairwise (·<·)
theorem Ris.lt(h:Ris xs){d:Nat}(hij:i<j)(hj:j<xs.size):xs.getD i d<xs.getD j d:=by
 have hi:i<xs.size:=Nat.lt_trans hij hj;have q:=ab8.mp h i j (by exists hi) (by exists hj) hij;rw[abY,abY,abO hi,abO hj];simpa using q
theorem eW{xs:Array Nat}{j:Nat}(h:Ris xs):∀ (fuel lo hi:Nat),lo<=hi->hi<=xs.size->hi - lo<=fuel->(∀ k,k<lo->xs.getD k j<j)->(∀ k,hi<=k->k<xs.size->j<=xs.getD k j) ->
  SetTable.below.go xs j fuel lo hi<=xs.size/\(∀ k,k<SetTable.below.go xs j fuel lo hi->xs.getD k j<j)/\∀ k,SetTable.below.go xs j fuel lo hi<=k->k<xs.size->j<=xs.getD k j
 | 0,lo,hi,a,b,c,p,q=>by
  have e:hi=lo:=by nofun
  subst e;exact⟨b,p,q⟩
 | fuel+1,lo,hi,a,b,c,p,q=>by
  have e0:SetTable.below.go xs j (fuel+1) lo hi=if lo<hi then (if xs.getD ((lo+hi) / 2) j<j then SetTable.below.go xs j fuel ((lo+hi) / 2+1) hi else SetTable.below.go xs j fuel lo ((lo+hi) / 2)) else lo:=rfl;rw[e0];by_cases hlt:lo<hi
  ·rw[if_pos hlt];have hm:(lo+hi) / 2<hi:=by nofun
   by_cases hv:xs.getD ((lo+hi) / 2) j<j
   ·rw[if_pos hv];refine eW h fuel _ hi (by nofun) b (by nofun) (λ k hk=>?_) q;by_cases e:k=(lo+hi) / 2
    ·rw[e];exact hv
    ·exact Nat.lt_trans (h.lt (i:=k) (j:=(lo+hi) / 2) (by nofun) (by nofun)) hv
   ·rw[if_neg hv];refine eW h fuel lo _ (by nofun) (by nofun) (by nofun) p λ k hk hs=>?_;by_cases e:k=(lo+hi) / 2
    ·rw[e];nofun
    ·have:=h.lt (i:=(lo+hi) / 2) (j:=k) (d:=j) (by nofun) hs;nofun
  ·rw[if_neg hlt];have e:hi=lo:=by nofun
   subst e;exact⟨b,p,q⟩
theorem cw(h:Ris xs)(j:Nat):SetTable.below xs j<=xs.size/\(∀ k,k<SetTable.below xs j->xs.getD k j<j)/\∀ k,SetTable.below xs j<=k->k<xs.size->j<=xs.getD k j:=
 eW h _ _ _ (aaI _) (aad _) (by nofun) (λ k hk=>absurd hk (Nat.not_lt_zero _)) λ k hk hs=>absurd hs (by nofun)
theorem ju(h:Ris xs):SetTable.below xs 0=0:=by
 obtain⟨_,b,_⟩:=cw h 0;by_cases e:SetTable.below xs 0=0
 ·exact e
 ·exact absurd (b 0 (by nofun)) (Nat.not_lt_zero _)
theorem jv(h:Ris xs){p:Nat}(e:xs[i]?=some p):SetTable.below xs (p+1)=i+1:=by
 obtain⟨hi,ep⟩:=abN.mp e;obtain⟨a,b,c⟩:=cw h (p+1);have g:∀ d,xs.getD i d=p:=λ d=>by rw[abY,e];rfl
 by_cases l:SetTable.below xs (p+1)<=i
 ·have:=c i l hi;rw[g] at this;nofun
 ·by_cases r:SetTable.below xs (p+1)=i+1
  ·exact r
  ·have h1:=b (i+1) (by nofun);have h2:=h.lt (i:=i) (j:=i+1) (d:=p+1) (by nofun) (by nofun);rw[g] at h2;nofun
def NotIn(xs:Array Nat)(j:Nat):Prop:=xs[SetTable.below xs j]?≠some j
theorem jw(h:Ris xs)(n:NotIn xs j):Ris (SetTable.insertAt xs (SetTable.below xs j) j):=by
 obtain⟨a,b,c⟩:=cw h j;unfold NotIn at n;generalize SetTable.below xs j=p at a b c n
 have e:(SetTable.insertAt xs p j).toList=xs.toList.take p++j::xs.toList.drop p:=by
  unfold SetTable.insertAt;simp[Array.toList_extract,List.extract_eq_drop_take,Array.length_toList];exact aaT (by rw[aaX,abz];exact aad _)
 have lo:∀ x∈xs.toList.take p,x<j:=by
  intro x hx;obtain⟨k,hk⟩:=ab4.mp hx;rw[List.getElem?_take] at hk;split at hk
  ·rename_i hkp;have:=b k hkp;rw[abY,← aby,hk] at this;exact this
  ·cases hk
 have hi:∀ x∈xs.toList.drop p,j<x:=by
  intro x hx;obtain⟨k,hk⟩:=ab4.mp hx;rw[ab1] at hk
  have hs:p+k<xs.size:=by
   have:=(abE.mp hk).1;simpa using this
  have q:=c (p+k) (by nofun) hs;rw[abY,← aby,hk] at q;have q:j<=x:=q;rcases Nat.lt_or_ge j x with z|z
  ·exact z
  ·have ex:x=j:=by nofun
   subst ex;exfalso;by_cases k0:k=0
   ·subst k0;exact n (by rw[← aby];exact hk)
   ·have g1:=h.lt (i:=p) (j:=p+k) (d:=x) (by nofun) hs;have g2:=c p (aad _) (by nofun);have g3:xs.getD (p+k) x=x:=by rw[abY,← aby,hk];rfl
    nofun
 unfold Ris;rw[e];refine abI.mpr ⟨List.Pairwise.sublist (List.take_sublist p _) h,List.pairwise_cons.mpr ⟨hi,List.Pairwise.sublist (List.drop_sublist p _) h⟩,λ x hx y hy=>?_⟩;rcases abG.mp hy with rfl|hy
 ·exact lo x hx
 ·exact Nat.lt_trans (lo x hx) (hi y hy)
theorem gp(t:SetTable)(p:SetTable.Probe):(t.advance p).dummy=p.dummy:=by
 unfold SetTable.advance;split
 ·rfl
 ·rfl
theorem cx{t:SetTable}{f:Nat->Int}{h:Int}:∀ (fuel:Nat) (p:SetTable.Probe) (j:Nat) (d:Option Nat),(∀ x,p.dummy=some x->NotIn t.place x)->SetTable.probe.go t f h fuel p=some (.empty j d)->NotIn t.place j/\∀ x,d=some x->NotIn t.place x
 |0,p,j,d,_,e=>by unfold SetTable.probe.go at e;cases e
 | fuel+1,p,j,d,hp,e=>by
  unfold SetTable.probe.go at e
  have ns:∀ {s:SetTable.Slot},t.slot p.j=s->(∀ i,s≠.live i)->NotIn t.place p.j:=by
   intro s es hs hn;unfold SetTable.slot at es;dsimp only at es;rw[if_pos (by rw[hn];simp)] at es;exact hs _ es.symm
  cases hsl:t.slot p.j with
  | empty=>
   rw[hsl] at e;have e:=aah e;injection e with e1 e2
   subst e1 e2;exact⟨ns hsl (λ i z=>nomatch z),hp⟩
  | dummy=>
   rw[hsl] at e;refine cx fuel _ j d (λ x hx=>?_) e;rw[gp] at hx;have hx:some p.j=some x:=hx;injection hx with hx
   rw[← hx];exact ns hsl λ i z=>nomatch z
  | live i=>
   rw[hsl] at e;dsimp only at e;split at e
   ·cases e
   ·exact cx fuel _ j d (λ x hx=>hp x (by rw[gp] at hx;exact hx)) e
theorem jx{t:SetTable}{h:Int}{b:Bool}(e:t.freeSlot h=some (j,b)):NotIn t.place j:=by
 unfold SetTable.freeSlot at e;split at e
 ·rename_i j' d hp;obtain⟨h1,h2⟩:=cx _ _ _ _ (λ x hx=>by cases (show (none:Option Nat)=some x from hx)) hp;have e:=aah e;have e1:d.getD j'=j:=congrArg Prod.fst e;subst e1
  cases d with
  |none=>exact h1
  |some x=>exact h2 x rfl
 ·cases e
theorem rz(t:SetTable)(es:Array (Int×Value))(h:Int)(x:Value)(hr:t.plain=true->Ris t.place):(layNew t es h x).2.1.plain=true->Ris (layNew t es h x).2.1.place:=by
 unfold layNew;split
 ·rename_i slot wd e;dsimp only;unfold SetTable.orStandIn;split
  ·intro hp;have hp:t.plain=true:=hp;exact jw (hr hp) (jx e)
  ·exact λ z=>by cases z
 ·exact λ z=>by cases z
theorem nF{t:SetTable}(h:SetTable.laid mask finger moves led plain hs=some (t,order)):Ris t.place:=by
 unfold SetTable.laid at h
 cases e:SetTable.layClean mask hs with
 |none=>rw[e] at h;cases h
 | some owner=>
  rw[e] at h;have h':=aah h;rw[← congrArg (λ p=>p.1.place) h'];dsimp only;unfold Ris;rw[List.toList_toArray,aaR];refine List.Pairwise.filterMap _ (R:=(·<·)) (λ a a' haa b hb b' hb'=>?_) List.pairwise_lt_range;obtain⟨y,_,rfl⟩:=abM.mp hb;obtain⟨y',_,rfl⟩:=abM.mp hb';exact haa
theorem kY(t:SetTable)(es:Array (Int×Value))(wanted:Nat):(relayAll t es wanted).2.1.plain=true->Ris (relayAll t es wanted).2.1.place:=by
 unfold relayAll;split
 ·rename_i t' order e;dsimp only;split
  ·exact λ _=>nF (show SetTable.laid _ _ _ t.led t.plain _=some (t',order) from e)
  ·exact λ z=>by cases z
 ·exact λ z=>by cases z
theorem rA(t:SetTable)(es:Array (Int×Value))(h:Int)(x:Value):(layNew t es h x).2.1.led=t.led/\((layNew t es h x).2.1.plain=true->t.plain=true):=by
 unfold layNew;split
 ·dsimp only;unfold SetTable.orStandIn;split
  ·exact⟨rfl,λ z=>z⟩
  ·exact⟨rfl,λ z=>by cases z⟩
 ·exact⟨rfl,λ z=>by cases z⟩
theorem nG{t:SetTable}(h:SetTable.laid mask finger moves led plain hs=some (t,order)):t.led=led/\t.plain=plain:=by
 unfold SetTable.laid at h
 cases e:SetTable.layClean mask hs with
 |none=>rw[e] at h;cases h
 | some owner=>
  rw[e] at h;have h':=aah h;exact⟨(congrArg (λ p=>p.1.led) h').symm,(congrArg (λ p=>p.1.plain) h').symm⟩
theorem kZ(t:SetTable)(es:Array (Int×Value))(wanted:Nat):(relayAll t es wanted).2.1.led=t.led/\((relayAll t es wanted).2.1.plain=true->t.plain=true):=by
 unfold relayAll;split
 ·rename_i t' order e;have q:=nG (show SetTable.laid _ _ _ t.led t.plain _=some (t',order) from e);dsimp only;split
  ·exact⟨q.1,λ z=>by rw[q.2] at z;exact z⟩
  ·exact⟨rfl,λ z=>by cases z⟩
 ·exact⟨rfl,λ z=>by cases z⟩
section
variable    [DecidableEq K] (knd:KeyKind prog w K)
def SetZ(h:Heap)(a:Addr)(σ:List K)(L:Bool):Prop:=
 ∃ o es ep t,h.get? a=some o/\o.ExactSet/\o.data=.set es ep t/\ElemsOf knd es.toList/\(∀ k,k∈σ↔∃ e∈es.toList,knd.is k e.2=true)/\es.size<scanBound/\t.fits es.size=true/\es.size=σ.length/\σ.Nodup/\t.led=L/\(t.plain=true->Ris t.place)
def dedup1(σ:List K)(k:K):List K:=if k∈σ then σ else σ++[k]
variable {knd}   
theorem nodup_snoc{σ:List K}{k:K}(h:σ.Nodup)(hk:k∉σ):(σ++[k]).Nodup:=by
 rw[abX];refine⟨h,by simp,λ x hx y hy e=>?_⟩;have hy:y=k:=(by exists hy);rw[e,hy] at hx;exact hk hx
theorem SetZ.at{σ:List K}(hS:SetZ knd h a σ L)(k:∀ o,h.get? a=some o->h'.get? a=some o):SetZ knd h' a σ L:=by
 obtain⟨o,es,ep,t,ho,r⟩:=hS;exact⟨o,es,ep,t,k o ho,r⟩
theorem zn{t:SetTable}(ho:h.get? a=some o)(hd:o.data=.set es ep t)(es':Array (Int×Value))(t':SetTable) :
  (h.update a (Obj.putSet es' t')).get? a=some { o with data:=.set es' (ep+1) t' }:=by
 have q:=ace (Obj.putSet es' t') ho (by rw[putSet_of es' t' hd];rfl);rw[putSet_of es' t' hd] at q;exact q
theorem rB{g:Bool->Sem Unit}(hg:∀ (b:Bool) (s₁:Shared) (Q':Unit->Shared->Prop),Q' () s₁->wpAny (model prog w) A (g b) Q' E s₁)
      {t:SetTable} (ho:s.heap.get? a=some o) (hex:o.ExactSet) (hd:o.data=.set es ep t)
  {es1:Array (Int×Value)} {t2:SetTable} {τ:List K}  (hel:ElemsOf knd es1.toList) (hm:∀ k',k'∈τ↔∃ e∈es1.toList,knd.is k' e.2=true)
  (hb:es1.size<scanBound) (hf:t2.fits es1.size=true) (hn:es1.size=τ.length) (hnd:τ.Nodup) (hled:t2.led=L) (hpl:t2.plain=true->Ris t2.place) {wasDummy:Bool} {R:Option Bool->Shared->Prop}
  (h:∀ h',Heap.SameBut a s.heap h'->SetZ knd h' a τ L->R (some true) { s with heap:=h' }) :
  wpAny (model prog w) A (do
    storeSet a es1 t2
    if (!wasDummy&&t2.tooFull)=true then do
      g (relayAll t2 es1 (SetTable.grown es1.size)).2.2
      storeSet a (relayAll t2 es1 (SetTable.grown es1.size)).1 (relayAll t2 es1 (SetTable.grown es1.size)).2.1
      pure (some true)
     else pure (some true)) R E s:=by
 refine aaa (wpAny_storeSet_of ho hd ?_ (fits_of_scanBound hb));have g1:=zn ho hd es1 t2;have b1:=Heap.SameBut.update s.heap a (Obj.putSet es1 t2);split
 ·have hp:=relayAll_perm t2 es1 (SetTable.grown es1.size);have hfr:=relayAll_fits t2 es1 (SetTable.grown es1.size);have hlr:=kZ t2 es1 (SetTable.grown es1.size);have hrr:=kY t2 es1 (SetTable.grown es1.size);generalize hR:relayAll t2 es1 (SetTable.grown es1.size)=Y at hp hfr hlr hrr ⊢;obtain⟨es2,t3,gave⟩:=Y;dsimp only at hp hfr hlr hrr ⊢;have z2:es2.size=es1.size:=by rw[← Array.length_toList,hp.length_eq,Array.length_toList]
  refine aaa (hg _ _ _ ?_);refine aaa (wpAny_storeSet_of g1 rfl ?_ (fits_of_scanBound (by rw[z2];exact hb)))
  exact aab (h _ (b1.trans (Heap.SameBut.update _ a _)) ⟨_,es2,_,t3,zn g1 rfl es2 t3,hex,rfl,hel.perm hp,λ k'=>(hm k').trans ⟨fun⟨e,he,q⟩=>⟨e,hp.mem_iff.mpr he,q⟩,fun⟨e,he,q⟩=>⟨e,hp.mem_iff.mp he,q⟩⟩,
   by rw[z2];exact hb,hfr,z2.trans hn,hnd,hlr.1.trans hled,hrr⟩)
 ·exact aab (h _ b1 ⟨_,es1,_,t2,g1,hex,rfl,hel,hm,hb,hf,hn,hnd,hled,hpl⟩)
theorem addZ{σ:List K}{k:K}{Q:Bool->Shared->Prop}(hkey:knd.is k x=true)(hsc:x.scannable=true)(hS:SetZ knd s.heap a σ L)(hroom:σ.length+1<scanBound)
  (h:∀ b h',Heap.SameBut a s.heap h'->SetZ knd h' a (dedup1 σ k) L->Q b { s with heap:=h' }):wpAny (model prog w) A (setAddHashed a x (knd.hash k)) Q E s:=by
 obtain⟨o,es,ep,t,ho,hex,hd,hel,hm,hb,hf,hn,hnd,hled,hpl⟩:=id hS;unfold setAddHashed setAddHashedIn;refine aaq (aaa (aa3 ho hd hf ?_));dsimp only;rw[byScan_of hsc hb hel];simp only[↓reduceIte];unfold setAddByScan;refine aaa ?_;refine aaa (wpAny_rule ?_);refine aaa (wpAny_setScan_of hkey ho hd hf hel ?_)
 cases hr:List.findIdx? (λ e=>knd.is k e.2) es.toList with
 | some j=>
  dsimp only;obtain⟨hj,hpj,_⟩:=List.findIdx?_eq_some_iff_getElem.mp hr;have hk:k∈σ:=(hm k).mpr ⟨es.toList[j],List.getElem_mem hj,hpj⟩;refine aab (aab ?_);have q:=h false s.heap (Heap.SameBut.refl a s.heap) (by unfold dedup1;rw[if_pos hk];exact hS);exact q
 | none=>
  dsimp only
  have hk:k∉σ:=λ z=>by
   obtain⟨e,he,hp⟩:=(hm k).mp z;have:=List.findIdx?_eq_none_iff.mp hr e he;rw[hp] at this;cases this
  have way:∀ (b:Bool) {s₁:Shared} {Q':Unit->Shared->Prop},Q' () s₁->wpAny (model prog w) A (match b with|true=>rule "set.scan.the-table-gave-way" | false=>pure ()) Q' E s₁:=λ b s₁ Q' hq=>by
   cases b
   ·exact aab hq
   ·exact wpAny_rule hq
  have hp:=layNew_perm t es (knd.hash k) x;have hfi:=layNew_fits t es (knd.hash k) x;have hll:=rA t es (knd.hash k) x;have hlr:=rz t es (knd.hash k) x hpl;generalize hL:layNew t es (knd.hash k) x=Y at hp hfi hll hlr ⊢;obtain⟨es1,t1,wasDummy,gave⟩:=Y;dsimp only at hp hfi hll hlr ⊢;rw[aaV] at hp;have z1:es1.size=es.size+1:=by rw[← abz,hp.length_eq,aan,abz];rfl
  have hel1:ElemsOf knd es1.toList:=(hel.push hkey hsc).perm hp
  have hm1:∀ k',k'∈σ++[k]↔∃ e∈es1.toList,knd.is k' e.2=true:=λ k'=>by
   rw[abx,hm k',abF];constructor
   ·rintro (⟨e,he,q⟩|rfl)
    ·exact⟨e,hp.mem_iff.mpr (aax _ he),q⟩
    ·exact⟨_,hp.mem_iff.mpr (aak _ (abF.mpr rfl)),hkey⟩
   ·rintro⟨e,he,q⟩;rcases abx.mp (hp.mem_iff.mp he) with he|he
    ·exact .inl ⟨e,he,q⟩
    ·rw[abF] at he;subst he;exact .inr (knd.inj x k' k q hkey)
  refine aaa (way _ ?_);have fin:∀ h',Heap.SameBut a s.heap h'->SetZ knd h' a (σ++[k]) L->Q true { s with heap:=h' }:=λ h' b' z=>h true h' b' (by unfold dedup1;rw[if_neg hk];exact z);have hn1:es1.size=(σ++[k]).length:=by rw[aan,z1,hn];rfl
  split
  ·refine aaa ?_;rw[hashByValue_scannable 8 hsc];refine aab ?_
   cases hpk:plainKind x with
   | false=>
    refine rB ?_ ho hex hd hel1 hm1 (by nofun) (by rw[if_neg (by decide)];exact SetTable.fits_plain_off hfi) hn1 (nodup_snoc hnd hk) (L:=L) (by rw[if_neg (by decide)];exact hll.1.trans hled) (by rw[if_neg (by decide)];exact λ z=>nomatch z) ?_
    ·intro b s₁ Q' hq;exact way b hq
    ·intro h' b' z;dsimp only;exact aab (fin h' b' z)
   | true=>
    refine rB ?_ ho hex hd hel1 hm1 (by nofun) (by rw[if_pos rfl];exact hfi) hn1 (nodup_snoc hnd hk) (L:=L) (by rw[if_pos rfl];exact hll.1.trans hled) (by rw[if_pos rfl];exact hlr) ?_
    ·intro b s₁ Q' hq;exact way b hq
    ·intro h' b' z;dsimp only;exact aab (fin h' b' z)
  ·rename_i hpf;refine aaa (aab ?_);simp only[↓reduceIte];refine rB ?_ ho hex hd hel1 hm1 (by nofun) hfi hn1 (nodup_snoc hnd hk) (L:=L) (hll.1.trans hled) hlr ?_
   ·intro b s₁ Q' hq;exact way b hq
   ·intro h' b' z;dsimp only;exact aab (fin h' b' z)
def metZ(val:Nat->K)(i:Nat):List K:=((List.range i).map val).foldl dedup1 []
theorem c7(val:Nat->K)(i:Nat):metZ val (i+1)=dedup1 (metZ val i) (val i):=by
 unfold metZ;rw[List.range_succ,aam,List.foldl_append];rfl
theorem metZ_len(val:Nat->K):∀ i,(metZ val i).length<=i
 |0=>aad _
 | i+1=>by
  rw[c7];have ih:=metZ_len val i;unfold dedup1;split
  ·nofun
  ·rw[aan,List.length_singleton];nofun
theorem metZ_mem(val:Nat->K):∀ (i:Nat) (k:K),k∈metZ val i↔∃ j,j<i/\val j=k
 | 0,k=>by
  constructor
  ·intro h;cases h
  ·rintro⟨j,hj,_⟩;nofun
 | i+1,k=>by
  have e:k∈metZ val (i+1)↔k∈metZ val i∨val i=k:=by
   rw[c7];unfold dedup1;split
   ·rename_i h;exact⟨.inl,λ z=>z.elim id λ z=>z ▸ h⟩
   ·rw[abx,abF];exact⟨λ z=>z.imp id Eq.symm,λ z=>z.imp id Eq.symm⟩
  rw[e,metZ_mem val i k];constructor
  ·rintro (⟨j,hj,q⟩|q)
   ·exact⟨j,by nofun,q⟩
   ·exact⟨i,by nofun,q⟩
  ·rintro⟨j,hj,q⟩;by_cases z:j=i
   ·exact .inr (z ▸ q)
   ·exact .inl ⟨j,by nofun,q⟩
theorem rC{R:Result->Shared->Prop}{fp wr:List Addr}{G:Array GenState->Array GenState->Prop}{P:Nat->Value->Prop}{St:Nat->Shared->Prop}(W:WalksS prog w A.in1 I fp wr G n P St)(S:Addr)(hSf:S∉fp)
  (val:Nat->K) (hval:∀ i v,P i v->knd.is (val i) v=true/\v.scannable=true) (hb:n+1<scanBound) :
  ∀ (k i:Nat) (s:Shared),n - i=k->i<=n->St i s->SetZ knd s.heap S (metZ val i) L ->
   (∀ s',Moved (S::wr) G s s'->SetZ knd s'.heap S (metZ val n) L->R (.ok (.ret .none)) s') ->
   codeAny (model prog w) A (.builtin "set.update.loop" ⟨[.ref S,.ref I],[]⟩) R s:=by
 have hSw:S∉wr:=λ h=>hSf (W.sub _ h);have hsub:∀ b∈wr,b∈S::wr:=λ b hb=>aag _ hb;intro k
 induction k with
 | zero=>
  intro i s hk hi hst hS hR;obtain rfl:i=n:=by nofun
  refine codeAny_builtin PyProof.Rows.F.entry_set_update_loop ?_;rw[aaK aa6 _];show wpAny _ A.in1 (pyNext (.ref I) >>= _) _ _ s;refine aaa (W.done s _ _ hst λ s' hm=>?_);show wpAny _ A.in1 (ret Value.none) _ _ s';exact aab (hR s' (hm.mono hsub) (hS.at λ o ho=>hm.heap S o hSw ho))
 | succ k ih=>
  intro i s hk hi hst hS hR;have hlt:i<n:=by nofun
  refine codeAny_builtin PyProof.Rows.F.entry_set_update_loop ?_;rw[aaK aa6 _];show wpAny _ A.in1 (pyNext (.ref I) >>= _) _ _ s;refine aaa (W.item i s _ _ hlt hst λ v s' hP hst' hm=>?_);obtain⟨hv1,hv2⟩:=hval i v hP;have hS':SetZ knd s'.heap S (metZ val i) L:=hS.at λ o ho=>hm.heap S o hSw ho;show wpAny _ A.in1 (holding [v] (setAdd S v) >>= _) _ _ s';refine aaa (aaq ?_);unfold setAdd;refine aaq ?_;refine aaa (knd.pyHash (k:=val i) hv1 ?_);refine addZ (s:={ s' with toks:=s'.toks+1 }) hv1 hv2 hS' (by have:=metZ_len val i;nofun) λ b h' hsb hS2=>?_;rw[← c7] at hS2;refine aab ⟨plainId_quiet aa6 _,ih (i+1) _ (by nofun) hlt (W.frame _ s' _ _ hst' (abb _) λ b hb o e=>?_) hS2 λ s'' hm'' hS''=>?_⟩
  ·rw[hsb.2 b (λ h:b=S=>hSf (by rw[← h];exact hb))];exact e
  ·refine hR s'' (Moved.trans W.gtrans ((hm.mono hsub).then_heap (abb _) λ b o hb e=>?_) hm'') hS'';rw[hsb.2 b (λ h:b=S=>hb (by rw[h];exact aac))];exact e
end
abbrev byText(w:World):Bool:=w.params.followText "set-order"
abbrev aQ(w:World):Obj:={ cls:=.type "set", dict:=none,data:=.set #[] 0 (.fresh 0 0 (!byText w)) }
theorem rD(a:Value){Q₁:Value->Shared->Prop}(h:Q₁ (.ref s.heap.objs.size) { s with heap:=s.heap.push (aQ w) }) :
  codeAny (model prog w) A (.call (.builtin "set.__new__") ⟨[.type "set", a],[]⟩) (wants Q₁ E) s:=by
 refine codeAny_of_tree ?_;show wpAny _ A.in1 (do checkBuiltinCall "set.__new__" ⟨[.type "set", a],[]⟩;again (.builtin "set.__new__" ⟨[.type "set", a],[]⟩)) _ _ s;refine aaa (wpAny_of_eq (F.newCall_set_1 a) (aab ⟨plainId_quiet F.plain_set_new _,codeAny_builtin F.entry_set_new ?_⟩));rw[aaK F.plain_set_new _];unfold Builtin.«set.__new__» Builtin.Frozenset.newClass;have hsub:=sub_set_self;obtain⟨hp,g,d,tk,os⟩:=s;dsimp only
 wp_walk
 refine aa9 (aab ?_);dsimp only;simp only[newObj];refine aaa (wpAny_alloc (aab ?_));exact aab h
section
variable    [DecidableEq K] {knd:KeyKind prog w K}   
theorem vD(ho:h.get? a=some (aQ w)):SetZ knd h a [] (!byText w):=
 ⟨_,#[],0,_,ho,⟨rfl,rfl,rfl⟩,rfl,λ e he=>by simp at he,λ k=>by simp,by decide,rfl,rfl,aaU,rfl,λ _=>List.Pairwise.nil⟩
set_option maxRecDepth 100000 in
set_option maxHeartbeats 8000000 in
theorem set_of_list{l:Addr}{items:Array Value}(hh:A.handled=none)(hl:s.heap.IsList l items)(val:Nat->K)
  (hval:∀ i v,items[i]?=some v->knd.is (val i) v=true/\v.scannable=true) (hb:items.size+1<scanBound)
  (h:∀ (h':Heap) (tk:Nat),SetZ knd h' s.heap.objs.size (metZ val items.size) (!byText w)->(∀ b o,b<s.heap.objs.size->s.heap.get? b=some o->h'.get? b=some o)->Q (.ref s.heap.objs.size) { s with heap:=h',toks:=tk }) :
  wpAny (model prog w) A (call (.type "set") [.ref l]) Q E s:=by
 obtain⟨c,tl,hmro⟩:=F.called_set.mro;have hmade:=F.called_set.made;have hsub:=F.called_set.sub;refine wpAny_call (codeAny_of_tree ?_);show wpAny _ _ (callAny (.type "set") _) _ _ _;refine aab ⟨Code.quiet_builtin _ (by decide +kernel),codeAny_builtin F.entry_type_call ?_⟩;rw[Around.under_plain (weight_type_call_type "set" [.ref l] []) rfl];have h1:=F.called_set.notType;have h2:=F.called_set.canCreate;have hct:=F.typeCall_set_1 (.ref l)
 repeat (any_goals (first|assumption|wp_step))
 refine codeAny_mono (rD (.ref l) (E:=E) (Q₁:=λ obj s₁=>obj=.ref s.heap.objs.size/\s₁={ s with heap:=s.heap.push (aQ w) }) ⟨rfl,rfl⟩) λ r s₁ hr=>?_
 cases r with
 |error e=>exact hr
 | ok fl=>
  cases fl with
  | ret obj=>
   obtain⟨rfl,rfl⟩:=hr;have hS:(s.heap.push (aQ w)).get? s.heap.objs.size=some (aQ w):=abD _ rfl;have hT:Shared.TypeIs { s with heap:=s.heap.push (aQ w) } (.ref s.heap.objs.size) "set" := ⟨_,hS,rfl⟩;have hli:=F.called_set.init.lookup;have hbi:=F.called_set.init.bind (.ref s.heap.objs.size)
   repeat (any_goals (first|assumption|wp_step))
   refine codeAny_mono (codeAny_call_builtin (R:=wants (λ r s₂=>r=.none/\∃ h' tk,s₂={ s with heap:=h',toks:=tk } /\
     SetZ knd h' s.heap.objs.size (metZ val items.size) (!byText w)/\(∀ b o,b<s.heap.objs.size->s.heap.get? b=some o->h'.get? b=some o)) E) F.called_set.init.plain F.entry_set_init (check_set_init_1 hT ?_)) λ r₂ s₂ hr₂=>?_
   ·obtain⟨ol,hol,hcl,nl,hdl⟩:=hl;obtain⟨ocls,odict,odata,oslots⟩:=ol;simp only at hcl hdl;subst hcl;subst hdl;have hol':(s.heap.push (aQ w)).get? l=some { cls:=.type "list", dict:=odict,data:=.seq items nl,slots:=oslots }:=abv _ hol;have hsls:=F.sub_list_set;have hslf:=F.sub_list_frozenset;have hne:(Value.type "list" == Value.type "dict")=false:=by decide
    have hl1:(s.heap.push (aQ w)).IsList l items:=⟨_,hol',rfl,nl,rfl⟩;unfold Builtin.«set.__init__» noKeywords Builtin.Frozenset.updateFrom;generalize hPI:pyIter=PI
    wp_walk
    subst hPI;refine wpAny_pyIter_list hl1 ?_;refine aaa (wpAny_runValue ?_);have hlS:l<s.heap.objs.size:=aae hol;have hh3:A.in1.in1.in1.handled=none:=by simp[hh]
    have hneI:l≠(s.heap.push (aQ w)).objs.size:=by
     rw[aa7];exact aal (aaw hlS)
    have hSf:s.heap.objs.size∉[(s.heap.push (aQ w)).objs.size,l]:=by
     rw[aa7];simp only[List.mem_cons,List.mem_singleton,List.not_mem_nil,or_false,not_or];exact⟨aal (abm _),acf hlS⟩
    refine rC (knd:=knd) ((Walks.list hh3 _ l hneI items).toS) s.heap.objs.size hSf val (λ i v hv=>hval i v hv) hb (items.size - 0) 0 _ (by nofun) (aaI _)
     ⟨⟨_,abD _ rfl,rfl,rfl⟩,(hl1.push _)⟩ (vD (abv _ hS)) ?hR
    case hR=>
     intro s' hm hS';obtain⟨h',g',d',tk',os'⟩:=s';have eg:g'=s.gens:=hm.gens;have ed:d'=s.drawn:=hm.drawn;have eo:os'=s.os:=hm.os;subst eg;subst ed;subst eo;show wpAny _ _ _ _ _ _;refine aab ?_;show wpAny _ _ (ret Value.none) _ _ _;refine aab ⟨rfl,h',tk',rfl,hS',λ b o hb e=>?_⟩;have hb1:b≠s.heap.objs.size:=aal hb
     have hb2:b≠(s.heap.push (aQ w)).objs.size:=by
      rw[aa7];exact aal (aaw hb)
     exact hm.heap b o (by simp only[List.mem_cons,List.mem_singleton,List.not_mem_nil,or_false,not_or];exact⟨hb1,hb2⟩) (abv _ (abv _ e))
   ·cases r₂ with
    |error e=>exact hr₂
    | ok fl₂=>
     cases fl₂ with
     | ret r=>
      obtain⟨rfl,h',tk,rfl,hS',hk'⟩:=hr₂
      repeat (any_goals (first|assumption|wp_step))
      exact h _ _ hS' hk'
     |next=>exact hr₂.elim
     |brk=>exact hr₂.elim
     |cont=>exact hr₂.elim
  |next=>exact hr.elim
  |brk=>exact hr.elim
  |cont=>exact hr.elim
end
theorem dO:entryFor table "set.__iter__" = some Builtin.«frozenset.__iter__»:=entryFor_alias (id' := "frozenset.__iter__") (by kernel_rfl) rfl (by decide +kernel) (by kernel_rfl)
theorem eX(a:Value):argsOk "set.__iter__" ⟨[a],[]⟩:=by unfold argsOk;kernel_rfl
theorem bZ:Slot "set_iterator" "__iter__" "set_iterator.__iter__":=
 .of (owner := "set_iterator") (n := "__iter__") (by rw[typeLookup_type,builtinLookup_eq_fast];kernel_rfl) (by decide +kernel) (by decide +kernel) (by decide +kernel)
  (by first|exact .inl (by decide +kernel)|exact .inr (by decide +kernel)) (by rw[isSubtype_type];kernel_rfl)
theorem aj:Slot "set_iterator" "__next__" "set_iterator.__next__":=
 .of (owner := "set_iterator") (n := "__next__") (by rw[typeLookup_type,builtinLookup_eq_fast];kernel_rfl) (by decide +kernel) (by decide +kernel) (by decide +kernel)
  (by first|exact .inl (by decide +kernel)|exact .inr (by decide +kernel)) (by rw[isSubtype_type];kernel_rfl)
theorem c8:entryFor table "set_iterator.__iter__" = some Builtin.«dict_keyiterator.__iter__»:=entryFor_alias (id' := "dict_keyiterator.__iter__") (by kernel_rfl) rfl (by decide +kernel) (by kernel_rfl)
theorem aS:entryFor table "set_iterator.__next__" = some Builtin.«set_iterator.__next__»:=entryFor_of_fast (by kernel_rfl)
theorem dP(a:Value):argsOk "set_iterator.__iter__" ⟨[a],[]⟩:=by unfold argsOk;kernel_rfl
theorem aU(a:Value):argsOk "set_iterator.__next__" ⟨[a],[]⟩:=by unfold argsOk;kernel_rfl
theorem cy{α:Type}:∀ (l:List α) (i:Nat) (h:i<l.length),(l[i]::l.eraseIdx i).Perm l
 |[],_,h=>by simp at h
 |x::l,0,_=>.refl _
 | x::l,i+1,h=>by
  have h':i<l.length:=(by exists h);show (l[i]::x::l.eraseIdx i).Perm (x::l);exact(List.Perm.swap x l[i] _).trans (List.Perm.cons x (cy l i h'))
theorem gq{k:Nat->Sem α}{Q:α->Shared->Prop}{M:Model}(hn:n≠0)(h:∀ i d',i<n->wpAny M A (k i) Q E { s with drawn:=d' }):wpAny M A (choose .order n >>= k) Q E s:=by
 intro Γ p hΓ;refine⟨hn,h _ _ (Nat.mod_lt _ (Nat.pos_of_ne_zero hn)) Γ p hΓ⟩
theorem eD{α:Type}{M:Model}:∀ (n:Nat) (xs:List α) (s:Shared) (Q:List α->Shared->Prop),xs.length=n->(∀ ys d',ys.Perm xs->Q ys { s with drawn:=d' })->wpAny M A (drawOrder n xs) Q E s
 | 0,xs,s,Q,hl,h=>by
  have e:xs=[]:=aaY hl;subst e;exact aab (h [] s.drawn (.refl _))
 |n+1,[],s,Q,hl,h=>by simp at hl
 | n+1,x::xs,s,Q,hl,h=>by
  refine gq (by simp) λ i d1 hi=>?_;have hx:(x::xs)[i]?=some (x::xs)[i]:=abA hi;rw[hx];dsimp only;refine aaa (eD n ((x::xs).eraseIdx i) _ _ (by rw[List.length_eraseIdx_of_lt hi];simpa using hl) λ ys d' hp=>aab (h _ d' ?_));exact(List.Perm.cons _ hp).trans (cy _ i hi)
section
abbrev bj(first:Value)(i:Nat)(x:Value)(n ep:Nat):Obj:={ cls:=.type "set_iterator", dict:=none,data:=.fields #[first,.int (i:Int) 0,x,.int (n:Int) 0,.int (ep:Int) 0],slots:=#[] }
theorem k4{I:Addr}{Q:Option Value->Shared->Prop}(hh:A.handled=none)(hQ:∀ h',(∀ b o,s.heap.get? b=some o->h'.get? b=some o)->Q none { s with heap:=h' }){QQ:PySem.Fin->Shared->Prop} :
  wpAny (model prog w) A.in1 (do let e ← newExc (.type "StopIteration") [];raiseNew e:Sem PySem.Fin) QQ (λ e s'=>wpAny (model prog w) A (do if (← isInstance e (.type "StopIteration"))=true then pure none else throw e) Q E s') s:=by
 refine aaa ?_;simp only[newExc,newTuple];refine aaa (aaF ?_ (by size_fits));refine aaa (m:=firstArgMember _ _) (wpAny_of_eq (a:=Value.none) (by first|rfl|(simp only[firstArgMember];rfl)) ?_);refine aaF ?_ (by size_fits);simp only[raiseNew];refine aaa (wpAny_handled ?_);rw[show A.in1.handled=none from hh];refine aaa (aab (wpAny_throw ?_));refine aaa (wpAny_isInstance (T := "StopIteration") (b:=true) ⟨_,abD _ rfl,rfl⟩ isSubtype_stop ?_);exact aab (hQ _ λ b o e=>abv _ (abv _ e))
variable    {f:Nat} {t:SetTable} {Q:Option Value->Shared->Prop}
theorem iK{nx:Nat}(ho:s.heap.get? I=some (bj (.int (f:Int) 0) i (.ref a) n ep))(ha:s.heap.get? a=some o)(hd:o.data=.set es ep t)(hf:t.fits es.size=true)(hn:n=es.size)
  (hs:∀ (E':Value->Shared->Prop) (Q':Option (Value×Nat)->Shared->Prop),Q' (some (x,nx)) s->wpAny (model prog w) A.in1 (setNext a f i ep) Q' E' s)
  (hQ:∀ h',h'.get? I=some (bj (.int (nx:Int) 0) (i+1) (.ref a) n ep)->Heap.SameBut I s.heap h'->Q (some x) { s with heap:=h' }):wpAny (model prog w) A (pyNext (.ref I)) Q E s:=by
 have hT:s.TypeIs (.ref I) "set_iterator" := ⟨_,ho,rfl⟩;subst hn;unfold pyNext;refine aaa (abg (wpAny_callSpecial?_slot (name:=Str.ofString "__next__") hT aj (aaC aj hT aS ?_ (aU _))));unfold Builtin.«set_iterator.__next__»;refine aaa (m:=slotArgs "__next__" 0 _) (aab ?_)
 try dsimp only
 refine aaa (wpAny_fieldsOf ho rfl ?_)
 try dsimp only
 refine aaa (aba ha hd hf ?_);rw[if_neg (by simp)]
 try dsimp only
 simp only[Int.toNat_natCast];refine aaa (hs _ _ ?_)
 try dsimp only
 refine aaa (aa1 ho (by simp) λ h1 g1 b1=>?_);refine aaa (aa1 (s:={ s with heap:=h1 }) g1 (by simp) λ h2 g2 b2=>?_);refine aab ⟨x,rfl,aab (hQ h2 ?_ (b1.trans b2))⟩;rw[g2];rfl
theorem iL(hh:A.handled=none)(ho:s.heap.get? I=some (bj (.int (f:Int) 0) i (.ref a) n ep))(ha:s.heap.get? a=some o)(hd:o.data=.set es ep t)(hf:t.fits es.size=true)(hn:n=es.size)
  (hs:∀ (E':Value->Shared->Prop) (Q':Option (Value×Nat)->Shared->Prop),Q' none s->wpAny (model prog w) A.in1 (setNext a f i ep) Q' E' s)
  (hQ:∀ h',(∀ b ob,b≠I->s.heap.get? b=some ob->h'.get? b=some ob)->Q none { s with heap:=h' }):wpAny (model prog w) A (pyNext (.ref I)) Q E s:=by
 have hT:s.TypeIs (.ref I) "set_iterator" := ⟨_,ho,rfl⟩;subst hn;unfold pyNext;refine aaa (abg (wpAny_callSpecial?_slot (name:=Str.ofString "__next__") hT aj (aaC aj hT aS ?_ (aU _))));unfold Builtin.«set_iterator.__next__»;refine aaa (m:=slotArgs "__next__" 0 _) (aab ?_)
 try dsimp only
 refine aaa (wpAny_fieldsOf ho rfl ?_)
 try dsimp only
 refine aaa (aba ha hd hf ?_);rw[if_neg (by simp)]
 try dsimp only
 simp only[Int.toNat_natCast];refine aaa (hs _ _ ?_)
 try dsimp only
 refine aaa (aa1 ho (by simp) λ h1 g1 b1=>?_);exact k4 (s:={ s with heap:=h1 }) (I:=I) hh λ h' k=>hQ h' λ b ob hb e=>k b ob ((b1.2 b hb).trans e)
theorem jy{hx:Int}{place:Nat}(ho:s.heap.get? I=some (bj (.ref pl) i (.ref a) n ep))(ha:s.heap.get? a=some o)(hd:o.data=.set es ep t)(hf:t.fits es.size=true)(hn:n=es.size)
  (hp:s.heap.get? pl=some op) (hpd:op.data=.seq pls c) (hpi:pls[i]?=some (.int (place:Int) 0)) (hx':es[place]?=some (hx,x))
  (hQ:∀ h',h'.get? I=some (bj (.ref pl) (i+1) (.ref a) n ep)->Heap.SameBut I s.heap h'->Q (some x) { s with heap:=h' }):wpAny (model prog w) A (pyNext (.ref I)) Q E s:=by
 have hT:s.TypeIs (.ref I) "set_iterator" := ⟨_,ho,rfl⟩;subst hn;unfold pyNext;refine aaa (abg (wpAny_callSpecial?_slot (name:=Str.ofString "__next__") hT aj (aaC aj hT aS ?_ (aU _))));unfold Builtin.«set_iterator.__next__»;refine aaa (m:=slotArgs "__next__" 0 _) (aab ?_)
 try dsimp only
 refine aaa (wpAny_fieldsOf ho rfl ?_)
 try dsimp only
 refine aaa (aba ha hd hf ?_);rw[if_neg (by simp)]
 try dsimp only
 simp only[Int.toNat_natCast];refine aaa (m:=seqItems? _) ?_;unfold seqItems?;refine aaa (wpAny_load hp ?_);rw[hpd];refine aab ?_;dsimp only;rw[hpi];dsimp only;simp only[Int.toNat_natCast];refine aaa (m:=setNextDrawn _ _ _) ?_;unfold setNextDrawn;refine aaa (aa3 ha hd hf ?_);dsimp only;simp only[bne_self_eq_false,Bool.false_eq_true,if_false];rw[hx'];refine aab ?_;refine aaa (aa1 ho (by simp) λ h1 g1 b1=>?_);refine aab ⟨x,rfl,aab (hQ h1 ?_ b1)⟩;rw[g1];rfl
theorem jz(hh:A.handled=none)(ho:s.heap.get? I=some (bj (.ref pl) i (.ref a) n ep))(ha:s.heap.get? a=some o)(hd:o.data=.set es ep t)(hf:t.fits es.size=true)(hn:n=es.size)
  (hp:s.heap.get? pl=some op) (hpd:op.data=.seq pls c) (hpi:pls[i]?=none)
  (hQ:∀ h',(∀ b ob,b≠I->s.heap.get? b=some ob->h'.get? b=some ob)->Q none { s with heap:=h' }):wpAny (model prog w) A (pyNext (.ref I)) Q E s:=by
 have hT:s.TypeIs (.ref I) "set_iterator" := ⟨_,ho,rfl⟩;subst hn;unfold pyNext;refine aaa (abg (wpAny_callSpecial?_slot (name:=Str.ofString "__next__") hT aj (aaC aj hT aS ?_ (aU _))));unfold Builtin.«set_iterator.__next__»;refine aaa (m:=slotArgs "__next__" 0 _) (aab ?_)
 try dsimp only
 refine aaa (wpAny_fieldsOf ho rfl ?_)
 try dsimp only
 refine aaa (aba ha hd hf ?_);rw[if_neg (by simp)]
 try dsimp only
 simp only[Int.toNat_natCast];refine aaa (m:=seqItems? _) ?_;unfold seqItems?;refine aaa (wpAny_load hp ?_);rw[hpd];refine aab ?_;dsimp only;rw[hpi];dsimp only;refine aaa (aa1 ho (by simp) λ h1 g1 b1=>?_);refine aaa (aa1 (s:={ s with heap:=h1 }) g1 (by simp) λ h2 g2 b2=>?_);exact k4 (s:={ s with heap:=h2 }) (I:=I) hh λ h' k=>hQ h' λ b ob hb e=>k b ob ((b2.2 b hb).trans ((b1.2 b hb).trans e))
theorem cH{r:Option (Value×Nat)}(hby:byText w=true)(ha:s.heap.get? a=some o)(hd:o.data=.set es ep t)(hf:t.fits es.size=true)
  (hr:((pickOrder (w.params.setOrder a ep) es)[g]?).map (λ e=>(e.2,slot))=r) (h:Q' r s):wpAny (model prog w) A' (setNext a slot g ep) Q' E s:=by
 unfold setNext;refine aaa (aa3 ha hd hf ?_);dsimp only;unfold setsByText;refine aaa (aaa (aa9 (aab ?_)));rw[show (model prog w).w.params.followText "set-order" = true from hby];simp only[bne_self_eq_false,Bool.false_eq_true,if_false,if_true];refine aaa (m:=setWalk a) ?_;unfold setWalk;refine aaa (aa3 ha hd hf ?_);dsimp only;unfold setsByText;refine aaa (aaa (aa9 (aab ?_)));rw[show (model prog w).w.params.followText "set-order" = true from hby];simp only[if_true];refine aaa (aa9 (aab ?_));refine aab ?_;rw[← hr] at h;exact h
theorem c9(hby:byText w=false)(ha:s.heap.get? a=some o)(hd:o.data=.set es ep t)(hf:t.fits es.size=true)(hdr:(!t.plain&&decide (es.size > 1))=false)(hled:t.led=true)
  (h:Q' (match es[SetTable.below t.place slot]?,t.place[SetTable.below t.place slot]? with|some (_,x),some j=>some (x,j+1)|_,_=>none) s):wpAny (model prog w) A' (setNext a slot g ep) Q' E s:=by
 unfold setNext;refine aaa (aa3 ha hd hf ?_);dsimp only;unfold setsByText;refine aaa (aaa (aa9 (aab ?_)));rw[show (model prog w).w.params.followText "set-order" = false from hby];simp only[Bool.false_eq_true,if_false];show wpAny _ _ (if (!t.plain&&decide (es.size > 1))=true then _ else _) _ _ _;rw[hdr];simp only[Bool.false_eq_true,if_false];refine aaa ?_;show wpAny _ _ (if (!t.led&&!es.isEmpty)=true then _ else _) _ _ _;rw[hled];simp only[Bool.not_true,Bool.false_and,Bool.false_eq_true,if_false];exact aab (aab h)
end
theorem k6{α:Type}(next:Nat->Nat):∀ (fuel k:Nat) (left:List α) (out:Array α),left.length<=fuel->(pickOrder.go next fuel k left out).toList.Perm (out.toList++left)
 | 0,k,left,out,h=>by
  have e:left=[]:=aaY (by nofun);subst e;show out.toList.Perm (out.toList++[]);rw[aaB]
 | fuel+1,k,[],out,_=>by
  show out.toList.Perm (out.toList++[]);rw[aaB]
 | fuel+1,k,x::left,out,h=>by
  show (match (x::left)[next k % (x::left).length]? with
   |some y=>pickOrder.go next fuel (k+1) ((x::left).eraseIdx (next k % (x::left).length)) (out.push y)
   |none=>out).toList.Perm _
  have hi:next k % (x::left).length<(x::left).length:=Nat.mod_lt _ (by simp);rw[List.getElem?_eq_getElem hi];dsimp only;refine(k6 next fuel (k+1) _ _ (by rw[List.length_eraseIdx_of_lt hi];simp at h ⊢;nofun)).trans ?_;rw[aaV,aaf];exact aav _ (cy _ _ hi)
theorem db(next:Nat->Nat)(xs:Array α):(pickOrder next xs).toList.Perm xs.toList:=by
 unfold pickOrder;have q:=k6 next xs.size 0 xs.toList #[] (by simp);simpa using q
theorem pj(es:Array (Int×Value)):∀ ys:List Nat,(∀ j∈ys,j<es.size)->ys.filterMap (λ j=>(es[j]?).map (·.2))=ys.map λ j=>((es[j]?).map (·.2)).getD Value.none
 |[],_=>rfl
 | j::ys,h=>by
  have hj:=h j aac;rw[abt,abO hj];show es[j].2::ys.filterMap (λ j=>(es[j]?).map (·.2))=_;rw[pj es ys λ i hi=>h i (aag _ hi),abC,abO hj];rfl
section
variable          {t:SetTable}
theorem dc{f:Value}(ho:s.heap.get? I=some (bj f i x n ep))(h:Q (.ref I) s):wpAny (model prog w) A (pyIter (.ref I)) Q E s:=by
 have hT:s.TypeIs (.ref I) "set_iterator" := ⟨_,ho,rfl⟩;refine wpAny_pyIter_slot hT bZ (aaC bZ hT c8 ?_ (dP _));show wpAny _ _ (ret (.ref I)) _ _ s;exact aab ⟨_,rfl, "set_iterator", _,hT,aj.lookup,h⟩
theorem k7(hs:Heap.SameBut I s.heap h'):Moved [I] Eq s { s with heap:=h' }:=
 ⟨λ b ob hb e=>(hs.2 b (λ z=>hb (by simp[z]))).trans e,rfl,rfl,rfl,aad _⟩
theorem k8(hs:∀ b ob,b≠I->s.heap.get? b=some ob->h'.get? b=some ob):Moved [I] Eq s { s with heap:=h' }:=
 ⟨λ b ob hb e=>hs b ob (λ z=>hb (by simp[z])) e,rfl,rfl,rfl,aad _⟩
theorem jA(hh:A.handled=none)(hne:a≠I)(hd:o.data=.set es ep t)(hf:t.fits es.size=true)(hby:byText w=true) :
  WalksS prog w A I [I,a] [I] Eq es.size (λ i v=>((pickOrder (w.params.setOrder a ep) es).toList.map (·.2))[i]?=some v) (λ i s=>s.heap.get? I=some (bj (.int ((0:Nat):Int) 0) i (.ref a) es.size ep)/\s.heap.get? a=some o) where
 sub:=λ b hb=>by simp at hb;simp[hb]
 grefl:=λ _=>rfl
 gtrans:=λ _ _ _ x y=>x.trans y
 frame:=λ i s h' tk st _ k=>⟨k I (by simp) _ st.1,k a (by simp) _ st.2⟩
 item:=λ i s Q E hi st hQ=>by
  have hl:(pickOrder (w.params.setOrder a ep) es).size=es.size:=by rw[← abz,(db _ es).length_eq,abz]
  have hx:(pickOrder (w.params.setOrder a ep) es)[i]?=some ((pickOrder (w.params.setOrder a ep) es)[i]'(by nofun)):=abO _;refine iK (x:=((pickOrder (w.params.setOrder a ep) es)[i]'(by nofun)).2) (nx:=0) st.1 st.2 hd hf rfl (λ E' Q' q=>cH hby st.2 hd hf (by rw[hx];rfl) q) λ h' g b=>hQ _ _ ?_ ⟨g,(b.2 a hne).trans st.2⟩ (k7 b);rw[abK,aby,hx];rfl
 done:=λ s Q E st hQ=>by
  have hl:(pickOrder (w.params.setOrder a ep) es).size=es.size:=by rw[← abz,(db _ es).length_eq,abz]
  refine iL hh st.1 st.2 hd hf rfl (λ E' Q' q=>cH hby st.2 hd hf (by rw[Array.getElem?_eq_none (by nofun)];rfl) q) λ h' k=>hQ _ (k8 k)
 self:=λ i s Q E st h=>dc st.1 h
theorem k9(hh:A.handled=none)(hne:a≠I)(hd:o.data=.set es ep t)(hf:t.fits es.size=true)(hby:byText w=false)(hdr:(!t.plain&&decide (es.size > 1))=false)(hr:Ris t.place)(hled:t.led=true) :
  WalksS prog w A I [I,a] [I] Eq es.size (λ i v=>(es.toList.map (·.2))[i]?=some v) (λ i s=>(∃ f:Nat,SetTable.below t.place f=i/\s.heap.get? I=some (bj (.int (f:Int) 0) i (.ref a) es.size ep))/\s.heap.get? a=some o) where
 sub:=λ b hb=>by simp at hb;simp[hb]
 grefl:=λ _=>rfl
 gtrans:=λ _ _ _ x y=>x.trans y
 frame:=λ i s h' tk st _ k=>by
  obtain⟨⟨f,f0,g⟩,ga⟩:=st;exact⟨⟨f,f0,k I (by simp) _ g⟩,k a (by simp) _ ga⟩
 item:=λ i s Q E hi st hQ=>by
  obtain⟨⟨f,f0,g⟩,ga⟩:=st
  have hsz:t.place.size=es.size:=by
   have hf':=hf;simp only[SetTable.fits,Bool.and_eq_true,beq_iff_eq] at hf';exact hf'.1
  have hpl:t.place[i]?=some (t.place[i]'(by nofun)):=abO _;have hes:es[i]?=some (es[i]'hi):=abO _;refine iK (x:=(es[i]'hi).2) (nx:=(t.place[i]'(by nofun))+1) g ga hd hf rfl (λ E' Q' q=>c9 hby ga hd hf hdr hled (by rw[f0,hes,hpl];exact q)) λ h' g' b=>hQ _ _ ?_ ⟨⟨_,jv hr hpl,g'⟩,(b.2 a hne).trans ga⟩ (k7 b);rw[abK,aby,hes];rfl
 done:=λ s Q E st hQ=>by
  obtain⟨⟨f,f0,g⟩,ga⟩:=st;refine iL hh g ga hd hf rfl (λ E' Q' q=>c9 hby ga hd hf hdr hled ?_) λ h' k=>hQ _ (k8 k);have hbe:es[SetTable.below t.place f]?=none:=by rw[f0];exact Array.getElem?_eq_none (aad _)
  rw[hbe];exact q
 self:=λ i s Q E st h=>by
  obtain⟨⟨f,f0,g⟩,ga⟩:=st;exact dc g h
theorem io{ys:List Nat}(hh:A.handled=none)(hne:a≠I)(hnp:pl≠I)(hd:o.data=.set es ep t)(hf:t.fits es.size=true)(hpd:op.data=.seq (ys.map λ (i:Nat)=>Value.int (i:Int) 0).toArray c)(hys:ys.Perm (List.range es.size)) :
  WalksS prog w A I [I,a,pl] [I] Eq es.size (λ i v=>(ys.filterMap λ j=>(es[j]?).map (·.2))[i]?=some v) (λ i s=>s.heap.get? I=some (bj (.ref pl) i (.ref a) es.size ep)/\s.heap.get? a=some o/\s.heap.get? pl=some op) where
 sub:=λ b hb=>by simp at hb;simp[hb]
 grefl:=λ _=>rfl
 gtrans:=λ _ _ _ x y=>x.trans y
 frame:=λ i s h' tk st _ k=>⟨k I (by simp) _ st.1,k a (by simp) _ st.2.1,k pl (by simp) _ st.2.2⟩
 item:=λ i s Q E hi st hQ=>by
  have hl:ys.length=es.size:=by rw[hys.length_eq,ab5]
  have hyi:ys[i]?=some (ys[i]'(by nofun)):=abA _;have hlt:ys[i]'(by nofun)<es.size:=aca.mp (hys.mem_iff.mp (List.getElem_mem _));have hes:es[ys[i]'(by nofun)]?=some es[ys[i]'(by nofun)]:=abO hlt;refine jy (x:=es[ys[i]'(by nofun)].2) (hx:=es[ys[i]'(by nofun)].1) (place:=ys[i]'(by nofun)) st.1 st.2.1 hd hf rfl st.2.2 hpd (by rw[List.getElem?_toArray,abK,hyi];rfl) hes λ h' g b=>hQ _ _ ?_ ⟨g,(b.2 a hne).trans st.2.1,(b.2 pl hnp).trans st.2.2⟩ (k7 b);have all:=pj es ys λ j hj=>aca.mp (hys.mem_iff.mp hj);rw[all,abK,hyi];show some (((es[ys[i]'(by nofun)]?).map (·.2)).getD Value.none)=_;rw[hes];rfl
 done:=λ s Q E st hQ=>by
  have hl:ys.length=es.size:=by rw[hys.length_eq,ab5]
  exact jz hh st.1 st.2.1 hd hf rfl st.2.2 hpd (by rw[List.getElem?_toArray,List.getElem?_eq_none (by rw[abw];nofun)]) λ h' k=>hQ _ (k8 k)
 self:=λ i s Q E st h=>dc st.1 h
theorem nH(ha:s.heap.get? a=some o)(hex:o.ExactSet)(hd:o.data=.set es ep t)(hf:t.fits es.size=true)(hb:es.size<scanBound)(hled:t.led=!byText w)(hpl:t.plain=true->Ris t.place)
  (h:∀ (I:Addr) (fp:List Addr) (St:Nat->Shared->Prop) (ord:List Value) (h':Heap) (d':Drawn),(∀ A':Around,A'.handled=none->WalksS prog w A' I fp [I] Eq es.size (λ i v=>ord[i]?=some v) St)->St 0 { s with heap:=h',drawn:=d' } ->
   (∀ b∈fp,b<h'.objs.size)->I∈fp->a≠I->(∀ b∈fp,b=a∨s.heap.objs.size<=b)->ord.Perm (es.toList.map (·.2))->(∀ b ob,s.heap.get? b=some ob->h'.get? b=some ob)->Q (.ref I) { s with heap:=h',drawn:=d' }) :
  wpAny (model prog w) A (pyIter (.ref a)) Q E s:=by
 have hT:s.TypeIs (.ref a) "set" := ⟨o,ha,hex.1⟩;refine wpAny_pyIter_slot hT F.slot_set_iter (aaC F.slot_set_iter hT dO ?_ (eX _));unfold Builtin.«frozenset.__iter__»;refine aaa (m:=Builtin.Frozenset.slot0 "__iter__" _) (aab ?_);refine aaa (m:=Builtin.Frozenset.sizeOf _) (aaa (aba ha hd hf (aab ?_)));have alt:a<s.heap.objs.size:=aae ha;unfold setDrawn;refine aaa (aaa (aa3 ha hd hf ?_));dsimp only;unfold setsByText;refine aaa (aaa (aa9 (aab ?_)));refine aab ?_;show wpAny _ _ (if (!byText w&&(!t.plain&&decide (es.size > 1)))=true then _ else _) _ _ _
 have fin:∀ (first:Value) (h1:Heap) (d1:Drawn),(∀ b ob,s.heap.get? b=some ob->h1.get? b=some ob)->s.heap.objs.size<=h1.objs.size ->
   (∀ (I:Addr),I=h1.objs.size->Q (.ref I) { s with heap:=h1.push (bj first 0 (.ref a) es.size ep),drawn:=d1 }) ->
   wpAny (model prog w) A.in1 (do
    let e ← setEpoch a
    let v ← newFields "set_iterator" [first,rawInt 0,Value.ref a,rawInt es.size,rawInt e]
    ret v) (λ fin s'=>∃ v,fin=Fin.done (Flow.ret v)/\∃ T' r,s'.TypeIs v T'/\typeLookup (Value.type T') (Str.ofString "__next__")=pure (some r)/\Q v s') E { s with heap:=h1,drawn:=d1 }:=by
  intro first h1 d1 k hz q;refine aaa (wpAny_setEpoch_of (s:={ s with heap:=h1,drawn:=d1 }) (k a o ha) hd hf ?_);exact aaa (aaF (aab ⟨_,rfl, "set_iterator", _,⟨_,abD _ rfl,rfl⟩,aj.lookup,q _ rfl⟩))
 by_cases hdr:(!byText w&&(!t.plain&&decide (es.size > 1)))=true
 ·rw[if_pos hdr];refine aaa (eD es.size (List.range es.size) s _ (by simp) λ ys d' hp=>?_);refine aaa (wpAny_newTuple ?_ (by rw[List.length_map,hp.length_eq,List.length_range];exact fits_of_scanBound hb));generalize hP:({ cls:=.type "tuple", data:=.seq (ys.map λ (i:Nat)=>rawInt (i:Int)).toArray }:Obj)=op;have hz1:(s.heap.push op).objs.size=s.heap.objs.size+1:=aa7 ..;have hop:op.data=.seq (ys.map λ (i:Nat)=>Value.int (i:Int) 0).toArray 0:=by rw[← hP];rfl
  refine fin _ (s.heap.push op) d' (λ b ob e=>abv _ e) (by rw[hz1];exact abb _) λ I hI=>?_;rw[hz1] at hI;have hpI:s.heap.objs.size≠I:=by rw[hI];exact aal (abm _)
  have haI:a≠I:=by rw[hI];exact aal (aaw alt)
  have hz2:((s.heap.push op).push (bj (.ref s.heap.objs.size) 0 (.ref a) es.size ep)).objs.size=s.heap.objs.size+2:=by rw[aa7,hz1]
  have q1:((s.heap.push op).push (bj (.ref s.heap.objs.size) 0 (.ref a) es.size ep)).get? I=some (bj (.ref s.heap.objs.size) 0 (.ref a) es.size ep):=by
   rw[hI,← hz1];exact abD _ rfl
  have q2:((s.heap.push op).push (bj (.ref s.heap.objs.size) 0 (.ref a) es.size ep)).get? a=some o:=abv _ (abv _ ha);have q3:((s.heap.push op).push (bj (.ref s.heap.objs.size) 0 (.ref a) es.size ep)).get? s.heap.objs.size=some op:=abv _ (abD s.heap (o:=op) (by rw[← hP];rfl))
  have q4:∀ b∈[I,a,s.heap.objs.size],b<((s.heap.push op).push (bj (.ref s.heap.objs.size) 0 (.ref a) es.size ep)).objs.size:=by
   intro b hb;rw[hz2];simp only[List.mem_cons,List.not_mem_nil,or_false] at hb;rcases hb with rfl|rfl|rfl
   ·rw[hI];exact abm _
   ·exact aaw (aaw alt)
   ·exact aaw (abm _)
  have q6:∀ b∈[I,a,s.heap.objs.size],b=a∨s.heap.objs.size<=b:=by
   intro b hb;simp only[List.mem_cons,List.not_mem_nil,or_false] at hb;rcases hb with rfl|rfl|rfl
   ·exact .inr (by rw[hI];exact abb _)
   ·exact .inl rfl
   ·exact .inr (aad _)
  have q5:(ys.filterMap λ j=>(es[j]?).map (·.2)).Perm (es.toList.map (·.2)):=by
   refine(hp.filterMap λ j=>(es[j]?).map (·.2)).trans ?_;rw[← PySem.filterMap_getElem?_range es,List.map_filterMap]
  exact h I [I,a,s.heap.objs.size] _ (ys.filterMap λ j=>(es[j]?).map (·.2)) _ d' (λ A' hA=>io (op:=op) hA haI hpI hd hf hop hp) ⟨q1,q2,q3⟩ q4 (by simp) haI q6 q5 (λ b ob e=>abv _ (abv _ e))
 ·rw[if_neg hdr];refine aaa (aab ?_);refine fin _ s.heap s.drawn (λ b ob e=>e) (aad _) λ I hI=>?_;have haI:a≠I:=by rw[hI];exact aal alt
  have hfp:∀ b∈[I,a],b<(s.heap.push (bj (rawInt 0) 0 (.ref a) es.size ep)).objs.size:=by
   intro b hb;rw[aa7];simp only[List.mem_cons,List.not_mem_nil,or_false] at hb;rcases hb with rfl|rfl
   ·rw[hI];exact abm _
   ·exact aaw alt
  have q1:(s.heap.push (bj (rawInt 0) 0 (.ref a) es.size ep)).get? I=some (bj (rawInt 0) 0 (.ref a) es.size ep):=by rw[hI];exact abD _ rfl
  have q2:(s.heap.push (bj (rawInt 0) 0 (.ref a) es.size ep)).get? a=some o:=abv _ ha
  have q6:∀ b∈[I,a],b=a∨s.heap.objs.size<=b:=by
   intro b hb;simp only[List.mem_cons,List.not_mem_nil,or_false] at hb;rcases hb with rfl|rfl
   ·exact .inr (by rw[hI];exact aad _)
   ·exact .inl rfl
  cases hby:byText w with
  |true=>exact h I [I,a] _ ((pickOrder (w.params.setOrder a ep) es).toList.map (·.2)) _ s.drawn (fun A' hA=>jA hA haI hd hf hby) ⟨q1,q2⟩ hfp (by simp) haI q6 ((db _ es).map _) (fun b ob e=>abv _ e)
  | false=>
   have hdr':(!t.plain&&decide (es.size > 1))=false:=by
    rw[hby,Bool.not_false,Bool.true_and] at hdr;exact Bool.eq_false_iff.mpr hdr
   have hr:Ris t.place:=by
    cases q:t.plain with
    |true=>exact hpl q
    | false=>
     rw[q,Bool.not_false,Bool.true_and] at hdr';have h1:¬ es.size > 1:=of_decide_eq_false hdr'
     have hsz:t.place.size=es.size:=by
      have hf':=hf;simp only[SetTable.fits,Bool.and_eq_true,beq_iff_eq] at hf';exact hf'.1
     have hl:t.place.toList.length<=1:=by rw[abz];nofun
     unfold Ris
     match hq:t.place.toList,hl with
     |[],_=>exact .nil
     |[x],_=>exact List.pairwise_singleton _ _
   exact h I [I,a] _ (es.toList.map (·.2)) _ s.drawn (λ A' hA=>k9 hA haI hd hf hby hdr' hr (by rw[hled,hby];rfl)) ⟨⟨0,ju hr,q1⟩,q2⟩ hfp (by simp) haI q6 (.refl _) (λ b ob e=>abv _ e)
end
section
variable          {t:SetTable}
theorem nI{Q:Bool->Shared->Prop}(hT:s.TypeIs (.ref a) "set")(h:Q false s):wpAny (model prog w) A (Builtin.List.listLengthHint (.ref a)) Q E s:=by
 unfold Builtin.List.listLengthHint;refine aaa (wpAny_specialOf hT F.slot_set_len.lookup ?_);generalize hid:("set.__len__" : String)=id0
 wp_delta
 rw[show splitId id0=some ("set", "__len__") from by subst hid;decide +kernel];subst hid;refine aaa (wpAny_isInstance (b:=true) hT sub_set_self ?_);rw[if_neg (by decide)];show wpAny _ _ (if _=true then _ else _) _ _ _;rw[if_pos (by decide +kernel)];refine aaa (wpAny_typeOf hT ?_);exact aab h
theorem ip{Q:List Value->Shared->Prop}(hh:A.handled=none)(ha:s.heap.get? a=some o)(hex:o.ExactSet)(hd:o.data=.set es ep t)(hf:t.fits es.size=true)(hb:es.size<scanBound)(hled:t.led=!byText w)(hpl:t.plain=true->Ris t.place)
  (hQ:∀ (vs:List Value) (h':Heap) (d':Drawn) (tk:Nat),vs.Perm (es.toList.map (·.2))->s.heap.objs.size<h'.objs.size->(∀ b ob,s.heap.get? b=some ob->h'.get? b=some ob)->Q vs { s with heap:=h',drawn:=d',toks:=tk }) :
  wpAny (model prog w) A (collect (.ref a)) Q E s:=by
 have alt:a<s.heap.objs.size:=aae ha;unfold collect;refine aaa (wpAny_runValue (codeAny_builtin F.entry_proto_collect ?_));rw[aaK F.plain_proto_collect _];show wpAny _ A.in1 (newList [] >>= λ l=>again (.builtin "list.__iadd__" ⟨[l,.ref a],[]⟩)) _ _ s;refine aaa (aaF ?_);refine aab ⟨plainId_quiet F.plain_list_iadd _,codeAny_builtin F.entry_list_iadd ?_⟩;rw[aaK F.plain_list_iadd _];generalize hL:({ cls:=.type "list", dict:=none,data:=.seq ([]:List Value).toArray }:Obj)=ol;have g1:(s.heap.push ol).get? s.heap.objs.size=some ol:=abD s.heap (o:=ol) (by rw[← hL];rfl);have ga:(s.heap.push ol).get? a=some o:=abv _ ha;have hT:Shared.TypeIs { s with heap:=s.heap.push ol } (.ref a) "set" := ⟨o,ga,hex.1⟩;show wpAny _ A.in1 (Builtin.List.listExtendWith (.ref s.heap.objs.size) (.ref a) (.ref s.heap.objs.size)) _ _ _;unfold Builtin.List.listExtendWith;refine aaa (wpAny_typeOf hT ?_)
 have h1:Builtin.List.listSameRef (.ref s.heap.objs.size) (.ref a)=false:=by
  simp only[Builtin.List.listSameRef,beq_eq_false_iff_ne];exact(aal alt).symm
 rw[if_neg (by rw[h1];decide)];refine aaa (nH (s:={ s with heap:=s.heap.push ol }) ga hex hd hf hb hled hpl λ I fp St ord h2 d2 W st0 hfp hI haI hfq hord hk=>?_);refine aaa (aaq (nI ⟨o,hk a o ga,hex.1⟩ ?_));rw[if_pos (by decide)];refine aaa (wpAny_rule ?_);refine aaa ?_;have g2:h2.get? s.heap.objs.size=some { cls:=.type "list", data:=.seq ([]:List Value).toArray }:=by rw[hL];exact hk _ _ g1
 show wpAny _ A.in1 (updateSeq s.heap.objs.size (·.push .none) >>= λ _=>updateSeq s.heap.objs.size (·.pop)) _ _ _;refine aaa (wpAny_updateSeq (s:={ s with heap:=h2,drawn:=d2 }) g2 rfl ?_);have g3:=ace (Obj.mapSeq (·.push Value.none)) g2 rfl;refine wpAny_updateSeq g3 rfl ?_;have g4:=ace (Obj.mapSeq (·.pop)) g3 rfl;generalize hh3:(h2.update s.heap.objs.size (Obj.mapSeq (·.push Value.none))).update s.heap.objs.size (Obj.mapSeq (·.pop))=h3 at g4 ⊢
 have oth:∀ b ob,b≠s.heap.objs.size->h2.get? b=some ob->h3.get? b=some ob:=λ b ob hne e=>by
  rw[← hh3];exact(acb _ _ (abl hne)).trans ((acb _ _ (abl hne)).trans e)
 have hz:(s.heap.push ol).objs.size=s.heap.objs.size+1:=aa7 ..
 have hSf:s.heap.objs.size∉fp:=λ hm=>by
  rcases hfq _ hm with z|z
  ·exact absurd z (aal alt).symm
  ·have z:(s.heap.push ol).objs.size<=s.heap.objs.size:=z;rw[hz] at z;exact absurd z (Nat.not_succ_le_self _)
 have hIS:I≠s.heap.objs.size:=λ e=>hSf (e ▸ hI);have st1:=(W A.in1 hh).frame 0 _ h3 s.toks st0 (aad _) λ b hb ob e=>oth b ob (λ z=>hSf (z ▸ hb)) e
 have lt0:∀ b ob,s.heap.get? b=some ob->b≠s.heap.objs.size/\b≠I:=λ b ob e=>by
  refine⟨aal (aae e),λ z=>?_⟩;rcases hfq _ hI with y|y
  ·exact haI y.symm
  ·have y:(s.heap.push ol).objs.size<=I:=y;rw[hz,← z] at y;exact absurd (aaj (aae e) (Nat.le_of_succ_le y)) (aaD _)
 refine aab ⟨plainId_quiet F.plain_extend_loop _,codeAny_extend_loopS (W A.in1 hh) (fits_of_scanBound hb) _ hSf _ es.size 0 _ _ _ rfl (aaI _) st1 g4 (ItemsOf.nil _) λ s' acc c' hm gS hacc=>?_⟩;show wpAny _ A (load s.heap.objs.size >>= _) _ _ s';refine aaa (wpAny_load gS ?_);refine aab ?_;obtain⟨h9,g9,d9,tk9,os9⟩:=s';have eg:g9=s.gens:=hm.gens.symm;have ed:d9=d2:=hm.drawn;have eo:os9=s.os:=hm.os;subst eg ed eo;have hl:ord.length=es.size:=by rw[hord.length_eq,abw,abz]
 have hv:acc.toList=ord:=by
  refine ab2 λ j=>?_;by_cases hj:j<acc.size
  ·have e1:acc[j]?=some acc[j]:=abO hj;rw[aby,e1,hacc.2 j _ e1]
  ·have hj':es.size<=j:=by rw[hacc.1] at hj;nofun
   rw[aby,Array.getElem?_eq_none (by nofun),List.getElem?_eq_none (by nofun)]
 refine hQ _ h9 _ tk9 (by rw[hv];exact hord) (aae gS) λ b ob e=>?_;obtain⟨n1,n2⟩:=lt0 b ob e;exact hm.heap b ob (by simp[n1,n2]) (oth b ob n1 (hk b ob (abv _ e)))
end
theorem de{α:Type}[DecidableEq α]:∀ (σ ss:List α),σ.Nodup->(∀ k∈σ,k∈ss)->ss.length=σ.length->ss.Perm σ
 | [],ss,_,_,hl=>by
  have:ss=[]:=aaY (by exists hl);subst this;exact .refl _
 | k::σ,ss,hn,hm,hl=>by
  have hk:k∈ss:=hm k (aac ..);have hp:=List.perm_cons_erase hk;have hn':=abS.mp hn
  have hlen:(ss.erase k).length=σ.length:=by
   have:=hp.length_eq;simp only[List.length_cons] at this hl;nofun
  refine hp.trans (.cons k (de σ (ss.erase k) hn'.2 (λ j hj=>?_) hlen));have hne:j≠k:=λ e=>hn'.1 (e ▸ hj);exact(List.mem_erase_of_ne hne).mpr (hm j (aag _ hj))
theorem nJ{x:Str}{v:Value}(h:Value.isStrOf x v=true):strOf v=x:=by
 obtain⟨t,rfl⟩:=Value.isStrOf_shape h;rfl
theorem sorted_set{σ:List Str}(hh:A.handled=none)(hS:SetZ (PySem.strKind prog w) s.heap a σ (!byText w))(h64:σ.length<64)
  (hQ:∀ (p:Addr) (out:List Value) (ss:List Str) (e:Nat) (h':Heap) (d':Drawn) (tk:Nat),s.heap.objs.size<=p->h'.get? p=some (seqObj "list" out.toArray e)->StrsAre out ss->ss.Perm σ->sortedS ss=true ->
   (∀ b o,s.heap.get? b=some o->h'.get? b=some o)->Q (.ref p) { s with heap:=h',drawn:=d',toks:=tk }) :
  wpAny (model prog w) A (call (.builtin "sorted") [.ref a]) Q E s:=by
 obtain⟨o,es,ep,t,ho,hex,hd,hE,hmem,hb,hf,hsz,hnd,hled,hpl⟩:=hS;refine aa8 kind_sorted plain_sorted entry_sorted (args_sorted1 _) ?_;unfold Builtin.«sorted»;refine aaa (m:=checkCount "sorted" 1 1 _) (aab ?_);refine aaa (ip (by exists hh) ho hex hd hf hb hled hpl λ vs h' d' tk hperm hlt hk=>?_);have hlen:vs.length=σ.length:=by rw[hperm.length_eq,abw,abz];exact hsz
 refine aaa (aa4 ?_ (hsz:=by rw[sizeLine_eq];nofun));show wpAny _ _ _ _ _ { s with heap:=h'.push (seqObj "list" vs.toArray 0),drawn:=d',toks:=tk };have hoL:(h'.push (seqObj "list" vs.toArray 0)).get? h'.objs.size=some (seqObj "list" vs.toArray 0):=abD _ rfl
 have hstr:∀ v∈vs,∃ x t,v=.str x t:=λ v hv=>by
  have hv':=hperm.mem_iff.mp hv;obtain⟨e,he,rfl⟩:=ab3.mp hv';obtain⟨⟨k,hk,_⟩,_⟩:=hE e he;obtain⟨t,q⟩:=Value.isStrOf_shape hk;exact⟨k,t,q⟩
 have hSA:=strsAre_map vs hstr
 have hps:(vs.map strOf).Perm σ:=by
  refine de σ _ hnd (λ k hk=>?_) (by rw[abw,hlen]);obtain⟨e,he,hke⟩:=(hmem k).mp hk;refine ab3.mpr ⟨e.2,hperm.mem_iff.mpr (ab3.mpr ⟨e,he,rfl⟩),nJ hke⟩
 have hle:s.heap.objs.size<=h'.objs.size:=abk hlt;refine aaa (aaq (aaC slot_list_sort ⟨_,hoL,rfl⟩ entry_list_sort (list_sort_treeK strKind_oneLt hoL hSA.keysOf (λ v₁ v₂ rest e=>keyKind_strs (by rw[← e];exact hSA)) (by rw[hlen];exact h64) λ st' a1 a2=>⟨_,rfl,?_⟩) (args_list_sort _)));obtain⟨ss',b1,b2,b3⟩:=sorted_out_str hSA a1 a2;obtain⟨e',he'⟩:=sortedHeap_at (out:=(arrOf st').map (·.2)) hoL;refine aab ⟨_,rfl,hQ h'.objs.size ((arrOf st').map (·.2)).toList ss' e' _ d' tk hle (by rw[abo];exact he') b1 (b2.trans hps) b3 λ b ob hb=>?_⟩;have hbl:b<h'.objs.size:=aaj (aae hb) hle;rw[sortedHeap_old (aal hbl) (by rw[size_push'];exact aaw hbl)];exact abv _ (hk b ob hb)
end KS
namespace L2
open PySem PySem.Spec PyProof.Rows
variable{ss zs:List Str}{X:Cx}{σ σ0:St}{H F F' H' Z F1:Hp}{s:Shared}{a p:Addr}{ty tv ta tb te:TE}{pos:Pos}{ys:List (Key×V)}{Q:VK}{z b:Str}{v x:V}{xs vs:List V}{A B:List Addr}{ks k:List Key}{T μ m ixs:List Nat}{i n j no:Nat}{t:TA}{u:TT}{g:TG}{wi:TI}{w:World}{gV:Int->Int->V}
theorem bN{vs:List Value}(h:StrsAre vs ss):Vals (ss.map V.str) vs:=by
 induction h with
 |nil=>exact .nil
 |cons y t h ih=>exact .cons ⟨t,rfl⟩ ih
theorem bO:∀ {ss:List Str} {vs:List Value},Vals (ss.map V.str) vs->StrsAre vs ss
 |[],_,.nil=>.nil
 |s::ss,_,.cons ⟨t,e⟩ r=>by subst e;exact .cons s t (bO r)
theorem pk:∀ {vs:List Value} {ss:List Str} {i:Nat} {v:Value},StrsAre vs ss->vs[i]?=some v->∃ t,v=.str (ss.getD i "") t
 |_,_,_,_,.nil,e=>by simp at e
 |_,_,0,_,.cons y t h,e=>by simp at e;exact⟨t,by rw[← e];rfl⟩
 | _,_,i+1,v,.cons y t h,e=>by
  obtain⟨u,q⟩:=pk (i:=i) (v:=v) h (by exists e);exact⟨u,(by exists q)⟩
theorem StrsAre.len:∀ {vs:List Value} {ss:List Str},StrsAre vs ss->vs.length=ss.length
 |_,_,.nil=>rfl
 |_,_,.cons _ _ h=>by simp[StrsAre.len h]
def xt(P:Program)(w:World)(q:Addr)(σ:List Str):HO:=.ext λ h=>KS.SetZ (PySem.strKind P w) h q σ (!KS.byText w)
theorem Inv.laidD{pins:List (Addr×Obj)}{h':Heap}{o:HO}{t':Nat}{d':Drawn}(I:Inv X pins σ H s)(k:∀ b u,s.heap.get? b=some u->h'.get? b=some u)(hp:s.heap.objs.size<=a)(new:ObjOk X.prog X.w (upd H a o) h' a o) :
  Inv X pins σ (upd H a o) { s with heap:=h',drawn:=d',toks:=t' }:=
 I.call (ch:=[]) (g':=s.gens) (Un.laid k hp (I.hok.fresh hp)) (I.hok.laid k hp new) I.bare (λ _ z=>nomatch z)
def xu(P:Program)(w:World)(K:Frag):List V->Hp->VK->Prop:=λ xs H Q=>∃ (p:Addr) (zs:List Str),xs=[.ref p]/\SqL K H p (zs.map .str)/\zs.length+1<scanBound /\
 ∀ q σ,H q=none->(∀ k,k∈σ↔k∈zs)->σ.Nodup->σ.length<=zs.length->Q (.ref q) (upd H q (xt P w q σ))
theorem la(hc:X.calm=true):CallR X (.type "set") (xu X.prog X.w X.K):=by
 intro pins s σ H xs us Q I r h;obtain⟨p,zs,rfl,hq,hz,q⟩:=h;obtain⟨u,rfl,rx⟩:=cX r;cases rx;obtain⟨its,r',pl,hz'⟩:=I.list hq;have hS:=bO r';have hlen:=StrsAre.len hS;refine KS.set_of_list (knd:=PySem.strKind X.prog X.w) (I.ok.hd hc) pl.isList (λ i=>zs.getD i "") (λ i v e=>?_) (by simp only[List.size_toArray];nofun) λ h' tk hZ hk=>?_
 ·obtain⟨t,rfl⟩:=pk (i:=i) hS (by exists e);exact⟨fN _ t,rfl⟩
 ·have hmem:∀ k,k∈KS.metZ (λ i=>zs.getD i "") its.toArray.size↔k∈zs:=λ k=>by
   rw[KS.metZ_mem];simp only[List.size_toArray,hlen];constructor
   ·rintro⟨j,hj,rfl⟩;rw[List.getD,abA hj];exact List.getElem_mem hj
   ·intro hk;obtain⟨j,hj,e⟩:=List.getElem_of_mem hk;exact⟨j,hj,by rw[List.getD,abA hj];exact e⟩
  have hZ':=id hZ;obtain⟨o,es,ep,t,ho,_,_,_,_,_,_,_,hnd,_,_⟩:=hZ';refine⟨.ref s.heap.objs.size,_,I.laid (t':=tk) (o:=xt X.prog X.w s.heap.objs.size (KS.metZ (λ i=>zs.getD i "") its.toArray.size)) (λ b o e=>hk b o (aae e) e) (aad _) ?_,rfl,q _ _ (I.hok.fresh (aad _)) hmem hnd ?_⟩
  ·exact⟨hZ,⟨o,ho⟩,λ h1 h2 z k=>KS.SetZ.at z k⟩
  ·exact aat (KS.metZ_len _ _) (by simp only[List.size_toArray];nofun)
def lb(P:Program)(w:World)(K:Frag):List V->Hp->VK->Prop:=λ xs H Q=>∃ (p:Addr) (σ:List Str),xs=[.ref p]/\(H p=some (xt P w p σ)∨SqL K H p (σ.map .str))/\σ.length<64 /\
 ∀ q ss,H q=none->ss.Perm σ->sortedS ss=true->Q (.ref q) (upd H q (.lst (ss.map .str)))
theorem gr(hc:X.calm=true):CallR X (.builtin "sorted") (lb X.prog X.w X.K):=by
 intro pins s σ H xs us Q I r h;obtain⟨p,τ,rfl,hq,hz,q⟩:=h;obtain⟨u,rfl,rx⟩:=cX r;cases rx;rcases hq with hq|hq
 ·obtain⟨hS,_,_⟩:=I.hok p _ hq;refine KS.sorted_set (I.ok.hd hc) hS hz λ q' out ss e h' d' tk hle hg hSA hp hs hk=>?_;have hl:ss.length<64:=by rw[hp.length_eq];exact hz
  refine⟨.ref q',_,I.laidD (t':=tk) (d':=d') (o:=.lst (ss.map .str)) hk hle ⟨?_,out,e,bN hSA,hg⟩,rfl,q q' ss (I.hok.fresh hle) hp hs⟩;rw[abw,sizeLine_eq];nofun
 ·obtain⟨its,r',pl,hz'⟩:=I.list hq;have hS:=bO r';have hlen:=StrsAre.len hS;refine sorted_strs pl.isList hS (by nofun) λ out ss h1 h2 h3=>?_;obtain⟨e,he⟩:=sortedAll_at s.heap its out;have hl:ss.length<64:=by rw[h2.length_eq];exact hz
  refine⟨.ref (s.heap.objs.size+1),_,I.laid (t':=s.toks) (o:=.lst (ss.map .str)) (λ b o e=>sortedAll_old e) (abb _) ⟨?_,out.toList,e,bN h1,by rw[abo];exact he⟩,rfl,q _ ss (I.hok.fresh (abb _)) h2 h3⟩;rw[abw,sizeLine_eq];nofun
theorem jB(hc:X.calm=true):CallR X (.type "list") (λ xs H Q=>∃ p kvs,xs=[.ref p]/\Rd H p (.dK kvs)/\∀ l,H l=none->Q (.ref l) (upd H l (.lst (kvs.map λ kv=>kV kv.1)))):=by
 intro pins s σ H xs us Q I r h;obtain⟨p,kvs,rfl,hq,q⟩:=h;obtain⟨u,rfl,rx⟩:=cX r;cases rx;obtain⟨hz,hS,vs,rv,m⟩:kvs.length<=sizeLine/\(p==sysModules)=false/\∃ vs,KV kvs vs/\s.heap.DictOf (aB X.prog X.w) p vs:=hq.ok I.hok;obtain⟨ep,hat⟩:=m.dictAt;have hl:kvs.length=vs.length:=abp rv;refine PySem.W.kdl_call (PySem.W.kdl_dict (knd:=aB X.prog X.w) (kvs:=vs) (ep:=ep) hS) (I.ok.hd hc) hat (by rw[← hl];exact hz) λ h' tk acc' c' hk hD hacc=>?_
 have hv:Vals (kvs.map λ kv=>kV kv.1) acc'.toList:=by
  have hal:acc'.toList.length=kvs.length:=by rw[abz,hacc.1,hl]
  have hget:∀ j v,acc'.toList[j]?=some v->∃ k x,vs[j]?=some (k,x)/\fM k v=true:=λ j v e=>hacc.2 j v (by rw[← aby];exact e);clear hacc hD;generalize acc'.toList=us at hal hget;clear hat m hl hz q hq I
  induction rv generalizing us with
  |nil=>cases us with|nil=>exact .nil|cons a b=>simp at hal
  | cons h1 h2 ih=>
   cases us with
   |nil=>simp at hal
   | cons a b=>
    refine .cons ?_ (ih b (by exists hal) λ j v e=>by simpa using hget (j+1) v (by exists e));obtain⟨k,x,e1,e2⟩:=hget 0 a rfl;simp only[List.getElem?_cons_zero,Option.some.injEq] at e1;subst e1;have e3:_=k:=h1.1;show RelV (kV _) a;rw[e3];rcases aq e2 with ⟨i,t,rfl,rfl⟩|⟨z,t,rfl,rfl⟩
    ·exact⟨t,rfl⟩
    ·exact⟨t,rfl⟩
 exact⟨.ref s.heap.objs.size,_,I.laid (t':=tk) (o:=.lst (kvs.map λ kv=>kV kv.1)) hk (aad _) ⟨by rw[abw];exact hz,acc'.toList,c',hv,by rw[abo];exact hD⟩,rfl,q _ (I.hok.fresh (aad _))⟩
def lc(K:Frag):List V->Hp->VK->Prop:=λ xs H Q=>(∃ p ys,xs=[.ref p]/\(SqL K H p ys∨SqT K H p ys)/\∀ l,H l=none->Q (.ref l) (upd H l (.lst ys)))∨∃ p kvs,xs=[.ref p]/\Rd H p (.dK kvs)/\∀ l,H l=none->Q (.ref l) (upd H l (.lst (kvs.map λ kv=>kV kv.1)))
theorem rE(K:Frag)(hc:X.calm=true)(h:X.K=K):BCall X (.type "list") (lc K):=by subst h;exact⟨gg.or (jB hc)⟩
theorem vE(P:Program)(w:World)(K:Frag)(hc:X.calm=true)(hP:X.prog=P)(hw:X.w=w)(h:X.K=K):BCall X (.type "set") (xu P w K):=by subst h hP hw;exact⟨la hc⟩
theorem lf(K:Frag)(h:X.K=K):BMt X "list.extend" eQ:=⟨kj⟩
theorem rF{o i value:Expr}{td:TE}{pos':Pos}(hu:X.A.units+1<cLine)(ho:BE X o td)(hi:BE X i ty)(hv:BE X value tv)(hs:swapsWith value (some (.Subscript o i pos')) pos.line X.env=pure false) :
  BS X (.Assign [.Subscript o i pos'] value pos) (qz td ty tv):=⟨qA hu ho.h hi.h hv.h hs⟩
theorem lg{K:Frag}{ys:List V}(h:SqL K H p ys)(q:∀ l,H l=none->Q (.ref l) (upd H l (.lst ys))):lc K [.ref p] H Q:=.inl ⟨p,ys,rfl,.inl h,q⟩
theorem lh{K:Frag}{ys:List V}(h:SqT K H p ys)(q:∀ l,H l=none->Q (.ref l) (upd H l (.lst ys))):lc K [.ref p] H Q:=.inl ⟨p,ys,rfl,.inr h,q⟩
theorem jC{K:Frag}{kvs:List (Key×V)}(h:Rd H p (.dK kvs))(q:∀ l,H l=none->Q (.ref l) (upd H l (.lst (kvs.map λ kv=>kV kv.1)))):lc K [.ref p] H Q:=.inr ⟨p,kvs,rfl,h,q⟩
theorem gu(h:zs.Nodup):(KS.dedup1 zs z).Nodup:=by
 unfold KS.dedup1;split
 ·exact h
 ·rename_i hz;exact KS.nodup_snoc h hz
theorem jD{y:Str}:y∈KS.dedup1 zs z↔y∈zs∨y=z:=by
 unfold KS.dedup1;split
 ·rename_i hz;exact⟨.inl,λ h=>h.elim id λ e=>e ▸ hz⟩
 ·simp
theorem cz(zs:List Str)(z:Str):zs.length<=(KS.dedup1 zs z).length/\(KS.dedup1 zs z).length<=zs.length+1/\1<=(KS.dedup1 zs z).length:=by
 unfold KS.dedup1;split
 ·rename_i hz;exact⟨aad _,abb _,List.length_pos_of_mem hz⟩
 ·simp
inductive D where
 |non|bl (b:Bool)|int (i:Int)|str (x:Str)|lst (xs:List D)|tup (xs:List D)|dct (ks:List Key) (xs:List D)|ty (T:String)|opq (a:Addr) (n:Nat)|gt (xs:List D)|dt (ks:List (List Key)) (xs:List D)
variable{d e:D}{ds as:List D}{gD:Int->Int->D}
def plKV:Key×V->Bool
 |(.inr z,.int i)=>decide (z.length<=20)&&z.cps.toList.all (λ c=>decide (c<16 ^ 8))&&decide (i.natAbs.log2<20)&&decide ((PySem.PyData.shown (.int i)).length<=8)
 |_=>false
mutual
inductive Den(K:Frag)(F:Hp):V->D->Prop where
 |non:Den K F .non .non
 |bl (b:Bool):Den K F (.bl b) (.bl b)
 |int (i:Int):Den K F (.int i) (.int i)
 |str (x:Str):Den K F (.str x) (.str x)
 |ty (T:String):Den K F (.ty T) (.ty T)
 |lst {a:Addr} {xs:List V} {ds:List D}:SqL K F a xs->Dens K F xs ds->Den K F (.ref a) (.lst ds)
 |tup {a:Addr} {xs:List V} {ds:List D}:F a=some (.tup xs)->Dens K F xs ds->Den K F (.ref a) (.tup ds)
 |dct {a:Addr} {ys:List (Key×V)} {ks:List Key} {ds:List D}:Rd F a (.dK ys)->ys.map (·.1)=ks->Dens K F (ys.map (·.2)) ds->Den K F (.ref a) (.dct ks ds)
 |opq {a:Addr} {ys:List (Key×V)} {n:Nat}:Rd F a (.dK ys)->ys.length=n->ys.all plKV=true->Den K F (.ref a) (.opq a n)
 |gt {a:Addr} {xs:List V} {ds:List D}:SqT K F a xs->Dens K F xs ds->Den K F (.ref a) (.gt ds)
 |dt {a:Addr} {ys:List (List Key×V)} {ks:List (List Key)} {ds:List D}:Rd F a (.dT ys)->ys.map (·.1)=ks->Dens K F (ys.map (·.2)) ds->Den K F (.ref a) (.dt ks ds)
inductive Dens(K:Frag)(F:Hp):List V->List D->Prop where
 |nil:Dens K F [] []
 |cons {x:V} {d:D} {xs:List V} {ds:List D}:Den K F x d->Dens K F xs ds->Dens K F (x::xs) (d::ds)
end
theorem Same.rd{u:HO}(e:Same F F')(h:Rd F a u):Rd F' a u:=h.elim (λ h=>.inl (e _ _ h)) fun⟨o,h⟩=>.inr ⟨o,e _ _ h⟩
theorem Den.mono{K:Frag}(e:Same F F')(h:Den K F v d):Den K F' v d:=
 Den.rec (motive_1:=λ v d _=>Den K F' v d) (motive_2:=λ v d _=>Dens K F' v d) .non .bl .int .str .ty (λ h _ t=>.lst (e.seq h) t) (λ h _ t=>.tup (e _ _ h) t) (λ h k _ t=>.dct (e.rd h) k t) (λ h k p=>.opq (e.rd h) k p) (λ h _ t=>.gt (h.same e) t) (λ h k _ t=>.dt (e.rd h) k t) .nil (λ _ _ h t=>.cons h t) h
theorem Dens.mono{K:Frag}(e:Same F F'){v:List V}{d:List D}(h:Dens K F v d):Dens K F' v d:=
 Dens.rec (motive_1:=λ _ _ _=>True) (motive_2:=λ v d _=>Dens K F' v d) trivial (λ _=>trivial) (λ _=>trivial) (λ _=>trivial) (λ _=>trivial) (λ _ _ _=>trivial) (λ _ _ _=>trivial) (λ _ _ _ _=>trivial) (λ _ _ _=>trivial) (λ _ _ _=>trivial) (λ _ _ _ _=>trivial) .nil (λ h _ _ t=>.cons (h.mono e) t) h
section
variable {K:Frag} 
theorem Dens.length{xs:List V}{ds:List D}(h:Dens K F xs ds):xs.length=ds.length:=
 Dens.rec (motive_1:=λ _ _ _=>True) (motive_2:=λ xs ds _=>xs.length=ds.length) trivial (λ _=>trivial) (λ _=>trivial) (λ _=>trivial) (λ _=>trivial) (λ _ _ _=>trivial) (λ _ _ _=>trivial) (λ _ _ _ _=>trivial) (λ _ _ _=>trivial) (λ _ _ _=>trivial) (λ _ _ _ _=>trivial) rfl (λ _ _ _ t=>congrArg (·+1) t) h
theorem Dens.get:∀ {xs:List V} {ds:List D} {i:Nat} {d:D},Dens K F xs ds->ds[i]?=some d->∃ x,xs[i]?=some x/\Den K F x d
 |_,_,_,_,.nil,e=>by simp at e
 |_,_,0,_,.cons h _,e=>by simp at e;subst e;exact⟨_,rfl,h⟩
 | _,_,i+1,d,.cons h t,e=>by
  obtain⟨x,h1,h2⟩:=Dens.get (i:=i) (d:=d) t (by exists e);exact⟨x,(by exists h1),h2⟩
theorem Dens.get':∀ {xs:List V} {ds:List D} {i:Nat} {x:V},Dens K F xs ds->xs[i]?=some x->∃ d,ds[i]?=some d/\Den K F x d
 |_,_,_,_,.nil,e=>by simp at e
 |_,_,0,_,.cons h _,e=>by simp at e;subst e;exact⟨_,rfl,h⟩
 | _,_,i+1,d,.cons h t,e=>by
  obtain⟨x,h1,h2⟩:=Dens.get' (i:=i) (x:=d) t (by exists e);exact⟨x,(by exists h1),h2⟩
theorem Dens.append{ys:List V}{es:List D}(h:Dens K F xs ds)(s:Dens K F ys es):Dens K F (xs++ys) (ds++es):=
 Dens.rec (motive_1:=λ _ _ _=>True) (motive_2:=λ xs ds _=>Dens K F (xs++ys) (ds++es)) trivial (λ _=>trivial) (λ _=>trivial) (λ _=>trivial) (λ _=>trivial) (λ _ _ _=>trivial) (λ _ _ _=>trivial) (λ _ _ _ _=>trivial) (λ _ _ _=>trivial) (λ _ _ _=>trivial) (λ _ _ _ _=>trivial) s (λ h _ _ t=>.cons h t) h
theorem Dens.take:∀ {xs:List V} {ds:List D} (n:Nat),Dens K F xs ds->Dens K F (xs.take n) (ds.take n)
 |_,_,0,_=>.nil
 |_,_,_+1,.nil=>.nil
 |_,_,n+1,.cons r t=>.cons r (Dens.take n t)
theorem Dens.drop:∀ {xs:List V} {ds:List D} (n:Nat),Dens K F xs ds->Dens K F (xs.drop n) (ds.drop n)
 |_,_,0,r=>r
 |_,_,_+1,.nil=>.nil
 |_,_,n+1,.cons r t=>Dens.drop n t
theorem Dens.set{x:V}{d:D}(r:Den K F x d):∀ {xs:List V} {ds:List D} (i:Nat),Dens K F xs ds->Dens K F (xs.set i x) (ds.set i d)
 |_,_,_,.nil=>.nil
 |_,_,0,.cons _ t=>.cons r t
 |_,_,i+1,.cons q t=>.cons q (Dens.set r i t)
theorem Dens.snoc(h:Dens K F xs ds)(q:Den K F x d):Dens K F (xs++[x]) (ds++[d]):=h.append (.cons q .nil)
theorem Dens.strs:∀ (zs:List Str),Dens K F (zs.map V.str) (zs.map D.str)
 |[]=>.nil
 |z::zs=>.cons (.str z) (Dens.strs zs)
theorem Dens.ints:∀ (zs:List Int),Dens K F (zs.map V.int) (zs.map D.int)
 |[]=>.nil
 |z::zs=>.cons (.int z) (Dens.ints zs)
theorem Den.str_eq(h:Den K F v (.str z)):v=.str z:=by cases h;rfl
theorem Den.int_eq{z:Int}(h:Den K F v (.int z)):v=.int z:=by cases h;rfl
theorem Den.bl_eq{z:Bool}(h:Den K F v (.bl z)):v=.bl z:=by cases h;rfl
theorem Den.non_eq(h:Den K F v .non):v=.non:=by cases h;rfl
theorem Dens.strs_eq:∀ {zs:List Str} {xs:List V},Dens K F xs (zs.map D.str)->xs=zs.map V.str
 |[],_,.nil=>rfl
 |z::zs,_,.cons h t=>by rw[h.str_eq,Dens.strs_eq t];rfl
end
mutual
def nL:D->DV
 |.non=>.non
 |.bl b=>.bl b
 |.int i=>.int i
 |.str x=>.str x
 |.lst xs=>.lst (toDVs xs)
 |.tup xs=>.tup (toDVs xs)
 |.dct _ _=>.non
 |.ty _=>.non
 |.opq _ _=>.non
 |.gt _=>.non
 |.dt _ _=>.non
def toDVs:List D->List DV
 |[]=>[]
 |d::ds=>nL d::toDVs ds
end
mutual
def okD:D->Bool
 |.lst xs=>okDs xs
 |.tup xs=>okDs xs
 |.dct _ _=>false
 |.ty _=>false
 |.opq _ _=>false
 |.gt _=>false
 |.dt _ _=>false
 |_=>true
def okDs:List D->Bool
 |[]=>true
 |d::ds=>okD d&&okDs ds
end
theorem Den.deep{K:Frag}(h:Den K H v d):okD d=true->Deep K H v (nL d):=
 Den.rec (motive_1:=λ v d _=>okD d=true->Deep K H v (nL d)) (motive_2:=λ v d _=>okDs d=true->Deeps K H v (toDVs d)) (λ _=>.non) (λ b _=>.bl b) (λ b _=>.int b) (λ b _=>.str b) (λ _ o=>nomatch o) (λ h _ t o=>.lst h (t o)) (λ h _ t o=>.tup (SqT.of h) (t o)) (λ _ _ _ _ o=>nomatch o) (λ _ _ _ o=>nomatch o) (λ _ _ _ o=>nomatch o) (λ _ _ _ _ o=>nomatch o) (λ _=>.nil) (λ _ _ h t o=>.cons (h (abW.mp o).1) (t (abW.mp o).2)) h
def dEq(d e:D):Bool:=deq (nL d) (nL e)
inductive FV where
 |fz (d:D)|fl (a:Addr) (ds:List D)|fd (a:Addr) (ks:List Key) (ds:List D)|ft (a:Addr) (ks:List (List Key)) (ds:List D)|tl (ds:List D) (a:Addr) (es:List D)
def vF:Nat->Str
 |0 => "Asking"
 |1 => "Reader"
 |_ => "Desk"
def rG:Nat->List Str
 |0=>["form", "name", "place", "at", "turn", "steps", "done", "length"]
 |_=>[]
structure Oo where
 a:Addr
 c:Nat
 ps:List FV
inductive OV where
 |fz (d:D)|fl (ds:List D)|fd (ks:List Key) (ds:List D)|ft (ks:List (List Key)) (ds:List D)|ot (ps:List FV)|ob (o:Oo)|obs (xs:List Oo)|obh (xs:List Oo) (a:Addr)|ol (ps:List FV)|olh (ps:List FV) (k:Nat) (b:Addr)|any
variable{o:OV}{P:OV->Prop}
inductive Fw(K:Frag)(F H:Hp):V->FV->List Addr->Prop where
 |fz {v:V} {d:D}:Den K F v d->Fw K F H v (.fz d) []
 |fl {a:Addr} {xs:List V} {ds:List D}:H a=some (.lst xs)->Dens K F xs ds->Fw K F H (.ref a) (.fl a ds) [a]
 |fd {a:Addr} {ys:List (Key×V)} {ks:List Key} {ds:List D}:H a=some (.dK ys)->ys.map (·.1)=ks->Dens K F (ys.map (·.2)) ds->Fw K F H (.ref a) (.fd a ks ds) [a]
 |ft {a:Addr} {ys:List (List Key×V)} {ks:List (List Key)} {ds:List D}:H a=some (.dT ys)->ys.map (·.1)=ks->Dens K F (ys.map (·.2)) ds->Fw K F H (.ref a) (.ft a ks ds) [a]
 |tl {t a:Addr} {xs ys:List V} {ds es:List D}:F t=some (.tup (xs++[.ref a]))->Dens K F xs ds->H a=some (.lst ys)->Dens K F ys es->Fw K F H (.ref t) (.tl ds a es) [a]
inductive Fws(K:Frag)(F H:Hp):List V->List FV->List Addr->Prop where
 |nil:Fws K F H [] [] []
 |cons {x:V} {o:FV} {xs:List V} {os:List FV} {A B:List Addr}:Fw K F H x o A->Fws K F H xs os B->Fws K F H (x::xs) (o::os) (A++B)
inductive Ob(K:Frag)(F H:Hp):V->Oo->List Addr->Prop where
 |mk {a C dx:Addr} {c:Nat} {fs:List (Str×V)} {ps:List FV} {A:List Addr}:H a=some (.ins C dx fs)->PySem.W.nsIn K mainGlobals (vF c)=some (some (.ref C))->fs.map (·.1)=(rG c).take ps.length->ps.length<=(rG c).length->Fws K F H (fs.map (·.2)) ps A->Ob K F H (.ref a) ⟨a,c,ps⟩ (a::A)
inductive Obs(K:Frag)(F H:Hp):List V->List Oo->List Addr->Prop where
 |nil:Obs K F H [] [] []
 |cons {x:V} {o:Oo} {xs:List V} {os:List Oo} {A B:List Addr}:Ob K F H x o A->Obs K F H xs os B->Obs K F H (x::xs) (o::os) (A++B)
inductive Ow(K:Frag)(F H:Hp):V->OV->List Addr->Prop where
 |fz {v:V} {d:D}:Den K F v d->Ow K F H v (.fz d) []
 |fl {a:Addr} {xs:List V} {ds:List D}:H a=some (.lst xs)->Dens K F xs ds->Ow K F H (.ref a) (.fl ds) [a]
 |fd {a:Addr} {ys:List (Key×V)} {ks:List Key} {ds:List D}:H a=some (.dK ys)->ys.map (·.1)=ks->Dens K F (ys.map (·.2)) ds->Ow K F H (.ref a) (.fd ks ds) [a]
 |ft {a:Addr} {ys:List (List Key×V)} {ks:List (List Key)} {ds:List D}:H a=some (.dT ys)->ys.map (·.1)=ks->Dens K F (ys.map (·.2)) ds->Ow K F H (.ref a) (.ft ks ds) [a]
 |ot {a:Addr} {xs:List V} {ps:List FV} {A:List Addr}:F a=some (.tup xs)->Fws K F H xs ps A->Ow K F H (.ref a) (.ot ps) A
 |ob {v:V} {o:Oo} {A:List Addr}:Ob K F H v o A->Ow K F H v (.ob o) A
 |obs {a:Addr} {xs:List V} {os:List Oo} {A:List Addr}:H a=some (.lst xs.reverse)->Obs K F H xs os A->Ow K F H (.ref a) (.obs os) (a::A)
 |obh {a b:Addr} {xs:List V} {os:List Oo} {A:List Addr}:H a=some (.lst (.ref b::xs).reverse)->Obs K F H xs os A->Ow K F H (.ref a) (.obh os b) (a::A)
 |ol {a:Addr} {xs:List V} {ps:List FV} {A:List Addr}:H a=some (.lst xs)->Fws K F H xs ps A->Ow K F H (.ref a) (.ol ps) (a::A)
 |olh {a b:Addr} {k:Nat} {xs:List V} {ps:List FV} {A:List Addr}:H a=some (.lst xs)->xs[k]?=some (.ref b)->Fws K F H (xs.set k .non) (ps.set k (.fz .non)) A->Ow K F H (.ref a) (.olh ps k b) (a::A)
 |any {v:V}:Ow K F H v .any []
section
variable {K:Frag} 
theorem Fw.keep(e:Same F F'){o:FV}(h:Fw K F H v o A)(k:∀ a u,a∈A->H a=some u->H' a=some u):Fw K F' H' v o A:=by
 cases h with
 |fz h=>exact .fz (h.mono e)
 |fl h t=>exact .fl (k _ _ (aac ..) h) (t.mono e)
 |fd h q t=>exact .fd (k _ _ (aac ..) h) q (t.mono e)
 |ft h q t=>exact .ft (k _ _ (aac ..) h) q (t.mono e)
 |tl f d h t=>exact .tl (e _ _ f) (d.mono e) (k _ _ (aac ..) h) (t.mono e)
theorem Fws.keep(e:Same F F'){v:List V}{o:List FV}(h:Fws K F H v o A)(k:∀ a u,a∈A->H a=some u->H' a=some u):Fws K F' H' v o A:=by
 induction h with
 |nil=>exact .nil
 |cons h t ih=>exact .cons (h.keep e λ a u ha=>k a u (aax _ ha)) (ih λ a u ha=>k a u (aak _ ha))
theorem Ob.keep(e:Same F F'){o:Oo}(h:Ob K F H v o A)(k:∀ a u,a∈A->H a=some u->H' a=some u):Ob K F' H' v o A:=by
 cases h with
 |mk h c n l t=>exact .mk (k _ _ (aac ..) h) c n l (t.keep e λ a u ha=>k a u (aag _ ha))
theorem Obs.keep(e:Same F F'){v:List V}{o:List Oo}(h:Obs K F H v o A)(k:∀ a u,a∈A->H a=some u->H' a=some u):Obs K F' H' v o A:=by
 induction h with
 |nil=>exact .nil
 |cons h t ih=>exact .cons (h.keep e λ a u ha=>k a u (aax _ ha)) (ih λ a u ha=>k a u (aak _ ha))
theorem Fw.live{o:FV}(h:Fw K F H v o A):∀ a∈A,∃ u,H a=some u:=by
 cases h with
 |tl f d h t=>exact λ b z=>⟨_,abF.mp z ▸ h⟩
 |fz h=>exact λ _ z=>nomatch z
 |fl h t=>exact λ b z=>⟨_,abF.mp z ▸ h⟩
 |fd h q t=>exact λ b z=>⟨_,abF.mp z ▸ h⟩
 |ft h q t=>exact λ b z=>⟨_,abF.mp z ▸ h⟩
theorem Fws.live{v:List V}{o:List FV}(h:Fws K F H v o A):∀ a∈A,∃ u,H a=some u:=by
 induction h with
 |nil=>exact λ _ z=>nomatch z
 |cons h t ih=>exact λ b z=>(abx.mp z).elim (h.live b) (ih b)
theorem Ob.live{o:Oo}(h:Ob K F H v o A):∀ a∈A,∃ u,H a=some u:=by
 cases h with
 |mk h c n l t=>exact λ b z=>(abG.mp z).elim (λ z=>⟨_,z ▸ h⟩) (t.live b)
theorem Obs.live{v:List V}{o:List Oo}(h:Obs K F H v o A):∀ a∈A,∃ u,H a=some u:=by
 induction h with
 |nil=>exact λ _ z=>nomatch z
 |cons h t ih=>exact λ b z=>(abx.mp z).elim (h.live b) (ih b)
end
inductive Ows(K:Frag)(F H:Hp):List V->List OV->List Addr->Prop where
 |nil:Ows K F H [] [] []
 |cons {x:V} {o:OV} {xs:List V} {os:List OV} {A B:List Addr}:Ow K F H x o A->Ows K F H xs os B->Ows K F H (x::xs) (o::os) (A++B)
theorem Ow.keep{K:Frag}(e:Same F F')(h:Ow K F H v o A)(k:∀ a u,a∈A->H a=some u->H' a=some u):Ow K F' H' v o A:=by
 cases h with
 |any=>exact .any
 |fz h=>exact .fz (h.mono e)
 |fl h t=>exact .fl (k _ _ (aac ..) h) (t.mono e)
 |fd h q t=>exact .fd (k _ _ (aac ..) h) q (t.mono e)
 |ft h q t=>exact .ft (k _ _ (aac ..) h) q (t.mono e)
 |ot h t=>exact .ot (e _ _ h) (t.keep e k)
 |ob h=>exact .ob (h.keep e k)
 |obs h t=>exact .obs (k _ _ (aac ..) h) (t.keep e λ a u ha=>k a u (aag _ ha))
 |obh h t=>exact .obh (k _ _ (aac ..) h) (t.keep e λ a u ha=>k a u (aag _ ha))
 |ol h t=>exact .ol (k _ _ (aac ..) h) (t.keep e λ a u ha=>k a u (aag _ ha))
 |olh h g t=>exact .olh (k _ _ (aac ..) h) g (t.keep e λ a u ha=>k a u (aag _ ha))
theorem Ow.live{K:Frag}(h:Ow K F H v o A):∀ a∈A,∃ u,H a=some u:=by
 cases h with
 |any=>exact λ _ z=>nomatch z
 |fz h=>exact λ _ z=>nomatch z
 |fl h t=>exact λ b z=>⟨_,abF.mp z ▸ h⟩
 |fd h q t=>exact λ b z=>⟨_,abF.mp z ▸ h⟩
 |ft h q t=>exact λ b z=>⟨_,abF.mp z ▸ h⟩
 |ot h t=>exact t.live
 |ob h=>exact h.live
 |obs h t=>exact λ b z=>(abG.mp z).elim (λ z=>⟨_,z ▸ h⟩) (t.live b)
 |obh h t=>exact λ b z=>(abG.mp z).elim (λ z=>⟨_,z ▸ h⟩) (t.live b)
 |ol h t=>exact λ b z=>(abG.mp z).elim (λ z=>⟨_,z ▸ h⟩) (t.live b)
 |olh h g t=>exact λ b z=>(abG.mp z).elim (λ z=>⟨_,z ▸ h⟩) (t.live b)
theorem Ows.live{K:Frag}{v:List V}{o:List OV}(h:Ows K F H v o A):∀ a∈A,∃ u,H a=some u:=by
 induction h with
 |nil=>exact λ _ z=>nomatch z
 |cons h t ih=>exact λ b z=>(abx.mp z).elim (h.live b) (ih b)
def NT(H:Hp)(A:List Addr):Prop:=∀ a∈A,∀ xs,H a≠some (.tup xs)
theorem NT.nil :NT H []:=λ _ z=>nomatch z
theorem NT.one{o:HO}(h:H a=some o)(n:∀ xs,o≠.tup xs)(t:NT H A):NT H (a::A):=λ b hb xs z=>(abG.mp hb).elim (λ y=>n xs (aah (h.symm.trans (y ▸ z)))) (λ y=>t b y xs z)
theorem NT.app(s:NT H A)(t:NT H B):NT H (A++B):=λ b hb=>(abx.mp hb).elim (s b) (t b)
section
variable {K:Frag} 
theorem Fw.nt{o:FV}(h:Fw K F H v o A):NT H A:=by
 cases h with
 |tl f d h t=>exact .one h (λ _ z=>nomatch z) .nil
 |fz h=>exact .nil
 |fl h t=>exact .one h (λ _ z=>nomatch z) .nil
 |fd h q t=>exact .one h (λ _ z=>nomatch z) .nil
 |ft h q t=>exact .one h (λ _ z=>nomatch z) .nil
theorem Fws.nt{v:List V}{o:List FV}(h:Fws K F H v o A):NT H A:=by
 induction h with
 |nil=>exact .nil
 |cons h t ih=>exact h.nt.app ih
theorem Ob.nt{o:Oo}(h:Ob K F H v o A):NT H A:=by
 cases h with
 |mk h c n l t=>exact .one h (λ _ z=>nomatch z) t.nt
theorem Obs.nt{v:List V}{o:List Oo}(h:Obs K F H v o A):NT H A:=by
 induction h with
 |nil=>exact .nil
 |cons h t ih=>exact h.nt.app ih
theorem Ow.nt(h:Ow K F H v o A):NT H A:=by
 cases h with
 |any=>exact .nil
 |fz h=>exact .nil
 |fl h t=>exact .one h (λ _ z=>nomatch z) .nil
 |fd h q t=>exact .one h (λ _ z=>nomatch z) .nil
 |ft h q t=>exact .one h (λ _ z=>nomatch z) .nil
 |ot h t=>exact t.nt
 |ob h=>exact h.nt
 |obs h t=>exact .one h (λ _ z=>nomatch z) t.nt
 |obh h t=>exact .one h (λ _ z=>nomatch z) t.nt
 |ol h t=>exact .one h (λ _ z=>nomatch z) t.nt
 |olh h g t=>exact .one h (λ _ z=>nomatch z) t.nt
end
def cA:FV->D
 |.fz d=>d
 |.fl _ ds=>.lst ds
 |.fd _ ks ds=>.dct ks ds
 |.ft _ ks ds=>.dt ks ds
 |.tl ds _ es=>.tup (ds++[.lst es])
def rH:OV->Option D
 |.fz d=>some d
 |.fl ds=>some (.lst ds)
 |.fd ks ds=>some (.dct ks ds)
 |.ft ks ds=>some (.dt ks ds)
 |.ot ps=>some (.tup (ps.map cA))
 |.ol ps=>some (.lst (ps.map cA))
 |_=>none
theorem Fw.freeze{K:Frag}(e:Same F F'){o:FV}(h:Fw K F H v o A)(k:∀ a u,a∈A->H a=some u->F' a=some u):Den K F' v (cA o):=by
 cases h with
 |tl f d h t=>exact .tup (e _ _ f) ((d.mono e).append (.cons (.lst (SqL.of (k _ _ (aac ..) h)) (t.mono e)) .nil))
 |fz h=>exact h.mono e
 |fl h t=>exact .lst (SqL.of (k _ _ (aac ..) h)) (t.mono e)
 |fd h q t=>exact .dct (.inl (k _ _ (aac ..) h)) q (t.mono e)
 |ft h q t=>exact .dt (.inl (k _ _ (aac ..) h)) q (t.mono e)
theorem Fws.freeze{K:Frag}(e:Same F F'){v:List V}{o:List FV}(h:Fws K F H v o A)(k:∀ a u,a∈A->H a=some u->F' a=some u):Dens K F' v (o.map cA):=by
 induction h with
 |nil=>exact .nil
 |cons h t ih=>exact .cons (h.freeze e λ a u ha=>k a u (aax _ ha)) (ih λ a u ha=>k a u (aak _ ha))
theorem Ow.freeze{K:Frag}(e:Same F F')(h:Ow K F H v o A)(k:∀ a u,a∈A->H a=some u->F' a=some u)(hd:rH o=some d):Den K F' v d:=by
 cases h with
 |fz h=>cases hd;exact h.mono e
 |fl h t=>cases hd;exact .lst (SqL.of (k _ _ (aac ..) h)) (t.mono e)
 |fd h q t=>cases hd;exact .dct (.inl (k _ _ (aac ..) h)) q (t.mono e)
 |ft h q t=>cases hd;exact .dt (.inl (k _ _ (aac ..) h)) q (t.mono e)
 |ot h t=>cases hd;exact .tup (e _ _ h) (t.freeze e k)
 |ol h t=>cases hd;exact .lst (SqL.of (k _ _ (aac ..) h)) (t.freeze e λ a u ha=>k a u (aag _ ha))
 |_=>cases hd
def flat:OV->Option D
 |.fz d=>some d
 |.fl ds=>some (.lst ds)
 |.fd ks ds=>some (.dct ks ds)
 |.ft ks ds=>some (.dt ks ds)
 |_=>none
inductive Acc(K:Frag)(F H:Hp):V->D->Prop where
 |fz {v:V} {d:D}:Den K F v d->Acc K F H v d
 |lst {a:Addr} {xs:List V} {ds:List D}:H a=some (.lst xs)->Dens K F xs ds->Acc K F H (.ref a) (.lst ds)
 |dct {a:Addr} {ys:List (Key×V)} {ks:List Key} {ds:List D}:H a=some (.dK ys)->ys.map (·.1)=ks->Dens K F (ys.map (·.2)) ds->Acc K F H (.ref a) (.dct ks ds)
 |dt {a:Addr} {ys:List (List Key×V)} {ks:List (List Key)} {ds:List D}:H a=some (.dT ys)->ys.map (·.1)=ks->Dens K F (ys.map (·.2)) ds->Acc K F H (.ref a) (.dt ks ds)
section
variable {K:Frag} 
theorem Ow.acc(h:Ow K F H v o A)(e:flat o=some d):Acc K F H v d:=by
 cases h with
 |fz h=>simp only[flat,Option.some.injEq] at e;subst e;exact .fz h
 |fl h t=>simp only[flat,Option.some.injEq] at e;subst e;exact .lst h t
 |fd h q t=>simp only[flat,Option.some.injEq] at e;subst e;exact .dct h q t
 |ft h q t=>cases e;exact .dt h q t
 |_=>cases e
theorem Acc.den(e:Same F H)(h:Acc K F H v d):Den K H v d:=by
 cases h with
 |fz h=>exact h.mono e
 |lst h t=>exact .lst (SqL.of h) (t.mono e)
 |dct h k t=>exact .dct (.inl h) k (t.mono e)
 |dt h k t=>exact .dt (.inl h) k (t.mono e)
theorem Acc.asL(e:Same F H)(h:Acc K F H v (.lst ds)):∃ a xs,v=.ref a/\SqL K H a xs/\Dens K F xs ds:=by
 cases h with
 |fz h=>cases h with|lst h t=>exact⟨_,_,rfl,e.seq h,t⟩
 |lst h t=>exact⟨_,_,rfl,SqL.of h,t⟩
theorem Acc.asT(e:Same F H)(h:Acc K F H v (.tup ds)):∃ a xs,v=.ref a/\SqT K H a xs/\Dens K F xs ds:=by
 cases h with
 |fz h=>cases h with|tup h t=>exact⟨_,_,rfl,SqT.of (e _ _ h),t⟩
theorem Acc.asD(e:Same F H)(h:Acc K F H v (.dct ks ds)):∃ a ys,v=.ref a/\Rd H a (.dK ys)/\ys.map (·.1)=ks/\Dens K F (ys.map (·.2)) ds:=by
 cases h with
 |fz h=>cases h with|dct h k t=>exact⟨_,_,rfl,e.rd h,k,t⟩
 |dct h k t=>exact⟨_,_,rfl,.inl h,k,t⟩
theorem Acc.asTH(e:Same F H)(h:Acc K F H v (.tup ds)):∃ a xs,v=.ref a/\H a=some (.tup xs)/\Dens K F xs ds:=by
 cases h with
 |fz h=>cases h with|tup h t=>exact⟨_,_,rfl,e _ _ h,t⟩
theorem Acc.asG(e:Same F H)(h:Acc K F H v (.gt ds)):∃ a xs,v=.ref a/\SqT K H a xs/\Dens K F xs ds:=by
 cases h with
 |fz h=>cases h with|gt h t=>exact⟨_,_,rfl,h.same e,t⟩
theorem Acc.asDT{ks:List (List Key)}(e:Same F H)(h:Acc K F H v (.dt ks ds)):∃ a ys,v=.ref a/\Rd H a (.dT ys)/\ys.map (·.1)=ks/\Dens K F (ys.map (·.2)) ds:=by
 cases h with
 |fz h=>cases h with|dt h k t=>exact⟨_,_,rfl,e.rd h,k,t⟩
 |dt h k t=>exact⟨_,_,rfl,.inl h,k,t⟩
theorem Acc.str_eq(h:Acc K F H v (.str z)):v=.str z:=by cases h with|fz h=>exact h.str_eq
theorem Acc.int_eq{z:Int}(h:Acc K F H v (.int z)):v=.int z:=by cases h with|fz h=>exact h.int_eq
theorem Acc.bl_eq{z:Bool}(h:Acc K F H v (.bl z)):v=.bl z:=by cases h with|fz h=>exact h.bl_eq
theorem Acc.non_eq(h:Acc K F H v .non):v=.non:=by cases h with|fz h=>exact h.non_eq
theorem Acc.ty_eq{T:String}(h:Acc K F H v (.ty T)):v=.ty T:=by cases h with|fz h=>cases h;rfl
end
abbrev FSt:=List (Option OV)
variable{ρ:FSt}
inductive Slots(K:Frag)(F H:Hp):St->FSt->List Addr->Prop where
 |nil:Slots K F H [] [] []
 |skip {x:Option V} {σ:St} {ρ:FSt} {A:List Addr}:Slots K F H σ ρ A->Slots K F H (x::σ) (none::ρ) A
 |has {v:V} {o:OV} {σ:St} {ρ:FSt} {A B:List Addr}:Ow K F H v o A->Slots K F H σ ρ B->Slots K F H (some v::σ) (some o::ρ) (A++B)
section
variable {K:Frag} 
theorem Slots.keep(e:Same F F')(h:Slots K F H σ ρ A)(k:∀ a u,a∈A->H a=some u->H' a=some u):Slots K F' H' σ ρ A:=by
 induction h with
 |nil=>exact .nil
 |skip t ih=>exact .skip (ih k)
 |has h t ih=>exact .has (h.keep e λ a u ha=>k a u (aax _ ha)) (ih λ a u ha=>k a u (aak _ ha))
theorem Slots.live(h:Slots K F H σ ρ A):∀ a∈A,∃ u,H a=some u:=by
 induction h with
 |nil=>exact λ _ z=>nomatch z
 |skip t ih=>exact ih
 |has h t ih=>exact λ b z=>(abx.mp z).elim (h.live b) (ih b)
theorem Slots.nt(h:Slots K F H σ ρ A):NT H A:=by
 induction h with
 |nil=>exact .nil
 |skip _ ih=>exact ih
 |has h _ ih=>exact h.nt.app ih
theorem Slots.len(h:Slots K F H σ ρ A):σ.length=ρ.length:=by
 induction h with
 |nil=>rfl
 |skip t ih=>exact congrArg (·+1) ih
 |has _ t ih=>exact congrArg (·+1) ih
theorem Slots.take(h:Slots K F H σ ρ A)(e:ρ[i]?=some (some o)):∃ v B A',σ[i]?=some (some v)/\Ow K F H v o B/\A.Perm (B++A')/\Slots K F H σ (ρ.set i none) A':=by
 induction h generalizing i with
 |nil=>cases e
 | skip t ih=>
  cases i with
  |zero=>cases e
  | succ i=>
   obtain⟨v,B,A',h1,h2,h3,h4⟩:=ih (i:=i) e;exact⟨v,B,A',h1,h2,h3,.skip h4⟩
 | @has _ _ _ _ C _ h t ih=>
  cases i with
  |zero=>cases e;exact ⟨_,_,_,rfl,h,aaH _,.skip t⟩
  | succ i=>
   obtain⟨v,B,A',h1,h2,h3,h4⟩:=ih (i:=i) e;exact⟨v,B,C++A',h1,h2,(aav C h3).trans (by rw[← aaf,← aaf];exact aaA A' aaG),.has h h4⟩
theorem Slots.drop(i:Nat)(x:Option V)(h:Slots K F H σ ρ A):∃ A' B,A.Perm (B++A')/\Slots K F H (σ.set i x) (ρ.set i none) A':=by
 induction h generalizing i with
 |nil=>exact⟨[],[],aaH _,.nil⟩
 | skip t ih=>
  cases i with
  |zero=>exact ⟨_,[],aaH _,.skip t⟩
  | succ i=>
   obtain⟨A',B,h1,h2⟩:=ih i;exact⟨A',B,h1,.skip h2⟩
 | @has _ _ _ _ C _ h t ih=>
  cases i with
  |zero=>exact ⟨_,_,aaH _,.skip t⟩
  | succ i=>
   obtain⟨A',B,h3,h4⟩:=ih i;exact⟨C++A',B,(aav C h3).trans (by rw[← aaf,← aaf];exact aaA A' aaG),.has h h4⟩
theorem Slots.put(s:Slots K F H σ ρ A)(e:ρ[i]?=some none)(hv:σ[i]?=some (some v))(h:Ow K F H v o B):∃ A',A'.Perm (B++A)/\Slots K F H σ (ρ.set i (some o)) A':=by
 induction s generalizing i with
 |nil=>cases e
 | skip t ih=>
  cases i with
  |zero=>cases hv;exact ⟨_,aaH _,.has h t⟩
  | succ i=>
   obtain⟨A',h1,h2⟩:=ih (i:=i) e hv;exact⟨A',h1,.skip h2⟩
 | @has _ _ _ _ C _ h' t ih=>
  cases i with
  |zero=>cases e
  | succ i=>
   obtain⟨A',h1,h2⟩:=ih (i:=i) e hv;exact⟨C++A',(aav C h1).trans (by rw[← aaf,← aaf];exact aaA _ aaG),.has h' h2⟩
end
inductive RV where
 |ov (o:OV)|br (i:Nat)
variable{r:RV}
structure SameN(Z H:Hp):Prop where
 s:Same Z H
 n:∀ a xs,Z a≠some (.tup xs)
theorem SameN.free(h:SameN Z H)(e:H a=none):Z a=none:=h.s.free e
theorem SameN.trans(h:SameN Z H)(e:Same H H'):SameN Z H':=⟨h.s.trans e,h.n⟩
theorem SameN.back{Z':Hp}(h:SameN Z' H)(e:Same Z Z'):SameN Z H:=⟨e.trans h.s,λ a xs z=>h.n a xs (e a _ z)⟩
theorem SameN.none :SameN (λ _=>.none) H:=⟨(λ _ _ z=>nomatch z),λ _ _ z=>nomatch z⟩
structure Rel(K:Frag)(F Z H:Hp)(σ:St)(ρ:FSt)(A:List Addr):Prop where
 sl:Slots K F H σ ρ A
 nd:A.Nodup
 fr:∀ a∈A,F a=none/\Z a=none
 fh:Same F H
 zh:SameN Z H
 dj:∀ a o,F a=some o->Z a=none
def RV1(K:Frag)(F H:Hp)(σ:St)(v:V):RV->List Addr->Prop
 |.ov o,B=>Ow K F H v o B
 |.br i,B=>σ[i]?=some (some v)/\B=[]
structure Fresh(F Z:Hp)(A B:List Addr):Prop where
 nd:B.Nodup
 fr:∀ b∈B,F b=none/\Z b=none/\b∉A
theorem Fresh.nil :Fresh F Z A []:=⟨aaU,λ _ z=>nomatch z⟩
inductive RVL(K:Frag)(F H:Hp)(σ:St):List V->List RV->List Addr->Prop where
 |nil:RVL K F H σ [] [] []
 |cons {v:V} {r:RV} {vs:List V} {rs:List RV} {A B:List Addr}:RV1 K F H σ v r A->RVL K F H σ vs rs B->RVL K F H σ (v::vs) (r::rs) (A++B)
section
variable {K:Frag}    
theorem RV1.keep(h:RV1 K F H σ v r B)(e:Same F F')(k:∀ a u,a∈B->H a=some u->H' a=some u):RV1 K F' H' σ v r B:=by
 cases r with
 |ov o=>exact Ow.keep e h k
 |br i=>exact h
theorem RV1.live(h:RV1 K F H σ v r B):∀ b∈B,∃ u,H b=some u:=by
 cases r with
 |ov o=>exact Ow.live h
 |br i=>intro b hb;rw[h.2] at hb;cases hb
theorem RV1.nt(h:RV1 K F H σ v r B):NT H B:=by
 cases r with
 |ov o=>exact Ow.nt h
 |br i=>intro b hb;rw[h.2] at hb;cases hb
theorem RVL.keep(e:Same F F'){v:List V}{r:List RV}(h:RVL K F H σ v r B)(k:∀ a u,a∈B->H a=some u->H' a=some u):RVL K F' H' σ v r B:=by
 induction h with
 |nil=>exact .nil
 |cons h t ih=>exact .cons (h.keep e λ a u ha=>k a u (aax _ ha)) (ih λ a u ha=>k a u (aak _ ha))
theorem mix(B:List Addr)(H Z:Hp):∃ G:Hp,(∀ b,b∈B->G b=H b)/\∀ b,b∉B->G b=Z b:=by
 classical
 exact⟨λ b=>if b∈B then H b else Z b,λ b hb=>if_pos hb,λ b hb=>if_neg hb⟩
theorem Rel.hold(R:Rel K F Z H σ ρ A)(live:∀ b∈B,∃ u,H b=some u)(nt:NT H B)(f:Fresh F Z A B):∃ Z',Same Z Z'/\Rel K F Z' H σ ρ A/\(∀ b∈B,∃ u,Z' b=some u) /\
  ∀ F2 H2 ρ2 A2,Same F F2->Rel K F2 Z' H2 σ ρ2 A2->Rel K F2 Z H2 σ ρ2 A2/\Fresh F2 Z A2 B/\∀ b u,b∈B->H b=some u->H2 b=some u:=by
 obtain⟨Z',hin,hout⟩:=mix B H Z;refine⟨Z',λ b o h=>?_,⟨R.sl,R.nd,λ a ha=>⟨(R.fr a ha).1,?_⟩,R.fh,⟨λ b o h=>?_,λ b xs h=>?_⟩,λ a o h=>?_⟩,λ b hb=>?_,λ F2 H2 ρ2 A2 e2 R2=>?_⟩
 ·rw[hout b λ hb=>by rw[(f.fr b hb).2.1] at h;cases h];exact h
 ·rw[hout a λ hb=>(f.fr a hb).2.2 ha];exact(R.fr a ha).2
 ·by_cases hb:b∈B
  ·rw[hin b hb] at h;exact h
  ·rw[hout b hb] at h;exact R.zh.s b o h
 ·by_cases hb:b∈B
  ·rw[hin b hb] at h;exact nt b hb xs h
  ·rw[hout b hb] at h;exact R.zh.n b xs h
 ·rw[hout a λ hb=>by rw[(f.fr a hb).1] at h;cases h];exact R.dj a o h
 ·obtain⟨u,hu⟩:=live b hb;exact⟨u,by rw[hin b hb];exact hu⟩
 ·have sz:Same Z Z':=λ b o h=>by
   rw[hout b λ hb=>by rw[(f.fr b hb).2.1] at h;cases h];exact h
  refine⟨⟨R2.sl,R2.nd,λ a ha=>⟨(R2.fr a ha).1,sz.free (R2.fr a ha).2⟩,R2.fh,R2.zh.back sz,λ a o h=>sz.free (R2.dj a o h)⟩,⟨f.nd,λ b hb=>?_⟩,λ b u hb hu=>?_⟩
  ·obtain⟨u,hu⟩:=live b hb;refine⟨?_,(f.fr b hb).2.1,λ h=>?_⟩
   ·cases q:F2 b with
    |none=>rfl
    | some w=>
     have:=R2.dj b w q;rw[hin b hb,hu] at this;cases this
   ·have:=(R2.fr b h).2;rw[hin b hb,hu] at this;cases this
  ·exact R2.zh.s b u (by rw[hin b hb];exact hu)
structure Pure(F H F' H':Hp):Prop where
 ff:Same F F'
 hh:Same H H'
 fh:Same F' H'
 nw:∀ a o,F' a=some o->F a=none->H a=none
theorem Pure.refl(e:Same F H):Pure F H F H:=⟨Same.refl _,Same.refl _,e,λ a o h n=>by rw[n] at h;cases h⟩
theorem Pure.new{o:HO}(e:Same F H)(hp:H p=none):Pure F H F (upd H p o):=⟨Same.refl _,aM hp,e.trans (aM hp),λ a o h n=>by rw[n] at h;cases h⟩
theorem Pure.frz{p:Addr}{o:HO}(e:Same F H)(hp:H p=none):Pure F H (upd F p o) (upd H p o):=by
 have hf:F p=none:=e.free hp;refine⟨aM hf,aM hp,λ b u h=>?_,λ a u h n=>?_⟩
 ·by_cases hb:b=p
  ·subst hb;rw[ag] at h ⊢;exact h
  ·rw[ah hb] at h ⊢;exact e b u h
 ·by_cases hb:a=p
  ·subst hb;exact hp
  ·rw[ah hb,n] at h;cases h
theorem Pure.trans{F2 H1 H2:Hp}(a:Pure F H F1 H1)(b:Pure F1 H1 F2 H2):Pure F H F2 H2:=⟨a.ff.trans b.ff,a.hh.trans b.hh,b.fh,λ c o h n=>by
 cases q:F1 c with
 |none=>exact a.hh.free (b.nw c o h q)
 |some u=>exact a.nw c u q n⟩
theorem Rel.step(R:Rel K F Z H σ ρ A)(p:Pure F H F' H'):Rel K F' Z H' σ ρ A:=by
 refine⟨R.sl.keep p.ff λ a u _ h=>p.hh a u h,R.nd,λ a ha=>⟨?_,(R.fr a ha).2⟩,p.fh,R.zh.trans p.hh,λ a o h=>?_⟩
 ·cases q:F' a with
  |none=>rfl
  | some o=>
   have:=p.nw a o q (R.fr a ha).1;obtain⟨u,hu⟩:=R.sl.live a ha;rw[hu] at this;cases this
 ·cases q:F a with
  |none=>exact R.zh.free (p.nw a o h q)
  |some u=>exact R.dj a u q
structure New(H F':Hp)(B:List Addr):Prop where
 nd:B.Nodup
 fr:∀ b∈B,H b=none/\F' b=none
theorem New.nil:New H F' []:=⟨aaU,λ _ z=>nomatch z⟩
theorem New.one(h:H p=none)(f:F' p=none):New H F' [p]:=⟨by simp,λ b hb=>by
 have:b=p:=(by exists hb);rw[this];exact⟨h,f⟩⟩
theorem Rel.fresh(R:Rel K F Z H σ ρ A)(n:New H F' B):Fresh F' Z A B:=⟨n.nd,λ b hb=>⟨(n.fr b hb).2,R.zh.free (n.fr b hb).1,λ ha=>by
 obtain⟨u,hu⟩:=R.sl.live b ha;rw[(n.fr b hb).1] at hu;cases hu⟩⟩
def xv:RV->FSt->Option (D×FSt)
 | .ov o,ρ=>match rH o with
  |some d=>some (d,ρ)
  |none=>none
 | .br i,ρ=>match ρ[i]? with
  | some (some o)=>match rH o with
   |some d=>some (d,ρ.set i (some (.fz d)))
   |none=>none
  |_=>none
def fzR:RV->FSt->Option (D×FSt)
 |.ov (.fz d),ρ=>some (d,ρ)
 |.ov (.fl ds),ρ=>some (.lst ds,ρ)
 |.ov (.fd ks ds),ρ=>some (.dct ks ds,ρ)
 |.ov (.ft ks ds),ρ=>some (.dt ks ds,ρ)
 |.ov (.ot ps),ρ=>some (.tup (ps.map cA),ρ)
 |.ov (.ol ps),ρ=>some (.lst (ps.map cA),ρ)
 |.ov _,_=>none
 | .br i,ρ=>match ρ[i]? with
  |some (some (.fz d))=>some (d,ρ)
  |some (some (.fl ds))=>some (.lst ds,ρ.set i (some (.fz (.lst ds))))
  |some (some (.fd ks ds))=>some (.dct ks ds,ρ.set i (some (.fz (.dct ks ds))))
  |some (some (.ft ks ds))=>some (.dt ks ds,ρ.set i (some (.fz (.dt ks ds))))
  |some (some (.ot ps))=>some (.tup (ps.map cA),ρ.set i (some (.fz (.tup (ps.map cA)))))
  |some (some (.ol ps))=>some (.lst (ps.map cA),ρ.set i (some (.fz (.lst (ps.map cA)))))
  |_=>none
theorem pv{x:Option OV}(h:ρ[i]?=some x):ρ.set i x=ρ:=by
 apply ab2;intro j;by_cases hj:i=j
 ·subst hj;rw[h,abU (abE.mp h).1]
 ·rw[abQ hj]
theorem vG(r:RV)(ρ:FSt):fzR r ρ=xv r ρ:=by
 cases r with
 |ov o=>cases o <;> rfl
 | br i=>
  simp only[fzR,xv]
  cases e:ρ[i]? with
  |none=>rfl
  | some x=>
   cases x with
   |none=>rfl
   | some o=>
    cases o with
    |fz d=>simp only[rH];rw[pv e]
    |_=>rfl
def fzL:List RV->FSt->Option (List D×FSt)
 |[],ρ=>some ([],ρ)
 | r::rs,ρ=>match fzR r ρ with
  | some (d,ρ1)=>match fzL rs ρ1 with
   |some (ds,ρ2)=>some (d::ds,ρ2)
   |none=>none
  |none=>none
theorem Rel.grow(R:Rel K F Z H σ ρ A)(live:∀ b∈B,∃ u,H b=some u)(f:∀ b∈B,F b=none/\Z b=none/\b∉A):∃ F',Same F F'/\Rel K F' Z H σ ρ A/\(∀ a u,a∈B->H a=some u->F' a=some u)/\∀ a o,F' a=some o->F a=none->a∈B:=by
 obtain⟨G,hin,hout⟩:=mix B H F
 have s:Same F G:=λ b o h=>by
  rw[hout b λ hb=>by rw[(f b hb).1] at h;cases h];exact h
 refine⟨G,s,⟨R.sl.keep s λ _ _ _ h=>h,R.nd,λ a ha=>⟨?_,(R.fr a ha).2⟩,λ b o h=>?_,R.zh,λ a o h=>?_⟩,λ a u ha h=>?_,λ a o h n=>?_⟩
 ·rw[hout a λ hb=>(f a hb).2.2 ha];exact(R.fr a ha).1
 ·by_cases hb:b∈B
  ·rw[hin b hb] at h;exact h
  ·rw[hout b hb] at h;exact R.fh b o h
 ·by_cases hb:a∈B
  ·exact(f a hb).2.1
  ·rw[hout a hb] at h;exact R.dj a o h
 ·rw[hin a ha];exact h
 ·by_cases hb:a∈B
  ·exact hb
  ·rw[hout a hb,n] at h;cases h
theorem aN{C:List Addr}(h:A.Perm (B++C))(n:A.Nodup):B.Nodup/\C.Nodup/\(∀ b∈B,b∉C):=by
 have:=h.nodup_iff.mp n;rw[abX] at this;exact⟨this.1,this.2.1,λ b hb hc=>this.2.2 b hb b hc rfl⟩
theorem Rel.takeI(R:Rel K F Z H σ ρ A)(e:ρ[i]?=some (some o)):∃ v B A',σ[i]?=some (some v)/\Ow K F H v o B/\Rel K F Z H σ (ρ.set i none) A'/\Fresh F Z A' B/\A.Perm (B++A'):=by
 obtain⟨v,B,A',h1,h2,h3,h4⟩:=R.sl.take e;obtain⟨n1,n2,n3⟩:=aN h3 R.nd;have mA:∀ a∈A',a∈A:=λ a ha=>h3.mem_iff.mpr (abx.mpr (.inr ha));have mB:∀ a∈B,a∈A:=λ a ha=>h3.mem_iff.mpr (abx.mpr (.inl ha));exact⟨v,B,A',h1,h2,⟨h4,n2,λ a ha=>R.fr a (mA a ha),R.fh,R.zh,R.dj⟩,⟨n1,λ b hb=>⟨(R.fr b (mB b hb)).1,(R.fr b (mB b hb)).2,n3 b hb⟩⟩,h3⟩
theorem ci(e:ρ[i]?=some (some o)):(ρ.set i none)[i]?=some none:=by
 have hi:i<ρ.length:=(abE.mp e).1;simp[hi]
theorem Rel.putI(R:Rel K F Z H σ ρ A)(e:ρ[i]?=some none)(hv:σ[i]?=some (some v))(h:Ow K F H v o B)(f:Fresh F Z A B):∃ A',Rel K F Z H σ (ρ.set i (some o)) A'/\A'.Perm (B++A):=by
 obtain⟨A',h1,h2⟩:=R.sl.put e hv h;refine⟨A',⟨h2,h1.nodup_iff.mpr ?_,λ a ha=>?_,R.fh,R.zh,R.dj⟩,h1⟩
 ·exact abX.mpr ⟨f.nd,R.nd,λ a ha b hb z=>(f.fr a ha).2.2 (z ▸ hb)⟩
 ·rcases abx.mp (h1.mem_iff.mp ha) with q|q
  ·exact⟨(f.fr a q).1,(f.fr a q).2.1⟩
  ·exact R.fr a q
theorem Rel.frz{v:V}{r:RV}{B:List Addr}{d:D}{ρ':FSt}(R:Rel K F Z H σ ρ A)(h:RV1 K F H σ v r B)(f:Fresh F Z A B)(e:fzR r ρ=some (d,ρ')) :
  ∃ F' A',Same F F'/\Rel K F' Z H σ ρ' A'/\Den K F' v d/\(∀ a o,F' a=some o->F a=none->a∈A∨a∈B)/\∀ a∈A',a∈A:=by
 rw[vG] at e
 cases r with
 | ov o=>
  simp only[xv] at e
  cases hs:rH o with
  |none=>rw [hs] at e;cases e
  | some d'=>
   rw[hs] at e;cases e;obtain⟨F',s,R',k,n⟩:=R.grow (Ow.live h) f.fr;exact⟨F',A,s,R',Ow.freeze s h k hs,λ a o h1 h2=>.inr (n a o h1 h2),λ _ z=>z⟩
 | br i=>
  simp only[xv] at e;split at e
  ·rename_i o ho
   cases hs:rH o with
   |none=>rw[hs] at e;cases e
   | some d'=>
    rw[hs] at e;cases e;obtain⟨v',B',A',h1,h2,R',f',pm⟩:=R.takeI ho;have hv:v'=v:=aah (aah (h1.symm.trans h.1));subst hv;obtain⟨F',s,R2,k,n⟩:=R'.grow (Ow.live h2) f'.fr;have dn:=Ow.freeze s h2 k hs;obtain⟨A3,R3,p3⟩:=R2.putI (ci ho) h1 (.fz dn) Fresh.nil;rw[abe] at R3;refine⟨F',A3,s,R3,dn,λ a o h1 h2=>.inl (pm.mem_iff.mpr (abx.mpr (.inl (n a o h1 h2)))),λ a ha=>?_⟩;have:=p3.mem_iff.mp ha;exact pm.mem_iff.mpr (abx.mpr (.inr (by exists this)))
  ·cases e
theorem Rel.frzL:∀ {rs:List RV} {vs:List V} {B:List Addr} {ds:List D} {ρ ρ':FSt} {F:Hp} {A:List Addr},Rel K F Z H σ ρ A->RVL K F H σ vs rs B->Fresh F Z A B->fzL rs ρ=some (ds,ρ') ->
  ∃ F' A',Same F F'/\Rel K F' Z H σ ρ' A'/\Dens K F' vs ds:=by
 intro rs
 induction rs with
 | nil=>
  intro vs B ds ρ ρ' F A R h f e;simp only[fzL,Option.some.injEq,Prod.mk.injEq] at e;obtain⟨rfl,rfl⟩:=e;cases h;exact⟨F,A,Same.refl _,R,.nil⟩
 | cons r rs ih=>
  intro vs B ds ρ ρ' F A R h f e
  cases h with
  | @cons v _ vs _ B1 B2 h t=>
   simp only[fzL] at e;split at e
   ·rename_i d ρ1 e1;split at e
    ·rename_i ds' ρ2 e2;simp only[Option.some.injEq,Prod.mk.injEq] at e;obtain⟨rfl,rfl⟩:=e;obtain⟨n1,n2,n3⟩:=aN (aaH (B1++B2)) f.nd;obtain⟨F1,A1,s1,R1,d1,w1,m1⟩:=R.frz h ⟨n1,λ b hb=>f.fr b (abx.mpr (.inl hb))⟩ e1
     obtain⟨F2,A2,s2,R2,d2⟩:=ih R1 (t.keep s1 λ _ _ _ z=>z) ⟨n2,λ b hb=>by
      have fb:=f.fr b (abx.mpr (.inr hb));refine⟨?_,fb.2.1,λ z=>fb.2.2 (m1 b z)⟩
      cases q:F1 b with
      |none=>rfl
      | some u=>
       rcases w1 b u q fb.1 with z|z
       ·exact absurd z fb.2.2
       ·exact absurd hb (n3 b z)⟩ e2
     exact⟨F2,A2,s1.trans s2,R2,.cons (d1.mono s2) d2⟩
    ·cases e
   ·cases e
def look(ρ:FSt):RV->Option OV
 |.ov o=>some o
 | .br i=>match ρ[i]? with
  |some (some o)=>some o
  |_=>none
def dQ(ρ:FSt):RV->Option D
 |.ov o=>flat o
 | .br i=>match ρ[i]? with
  |some (some o)=>flat o
  |_=>none
def eE(ρ:FSt):List RV->Option (List D)
 |[]=>some []
 | r::rs=>match dQ ρ r with
  | some d=>match eE ρ rs with
   |some ds=>some (d::ds)
   |none=>none
  |none=>none
theorem Rel.acc(R:Rel K F Z H σ ρ A)(h:RV1 K F H σ v r B)(e:dQ ρ r=some d):Acc K F H v d:=by
 cases r with
 |ov o=>exact Ow.acc h e
 | br i=>
  simp only[dQ] at e;split at e
  ·rename_i o ho;obtain⟨v',B',A',h1,h2,_⟩:=R.takeI ho;have hv:v'=v:=aah (aah (h1.symm.trans h.1));subst hv;exact h2.acc e
  ·cases e
inductive Accs(K:Frag)(F H:Hp):List V->List D->Prop where
 |nil:Accs K F H [] []
 |cons {v:V} {d:D} {vs:List V} {ds:List D}:Acc K F H v d->Accs K F H vs ds->Accs K F H (v::vs) (d::ds)
theorem Rel.accs{rs:List RV}(R:Rel K F Z H σ ρ A)(h:RVL K F H σ vs rs B)(e:eE ρ rs=some ds):Accs K F H vs ds:=by
 induction h generalizing ds with
 |nil=>cases e;exact .nil
 | @cons v r vs rs A B h t ih=>
  unfold eE at e
  cases e1:dQ ρ r with
  |none=>rw [e1] at e;cases e
  | some d=>
   cases e2:eE ρ rs with
   |none=>rw[e1,e2] at e;cases e
   | some ds'=>
    rw[e1,e2] at e;cases e;exact .cons (R.acc h e1) (ih e2)
end
abbrev FE:=FSt->(RV->FSt->Prop)->Prop
variable{fa fe fk:FE}
abbrev FT:=FSt->(Bool->FSt->Prop)->Prop
variable{f fc ft:FT}
abbrev FA:=FSt->(List RV->FSt->Prop)->Prop
abbrev FO:=FSt->(Option Int->FSt->Prop)->Prop
def View(μ:List Nat)(τ σ:St):Prop:=∀ j i:Nat,μ[j]?=some i->τ[j]?=σ[i]?/\j<τ.length/\i<σ.length
theorem View.id(hn:σ.length=n):View (List.range n) σ σ:=λ j i h=>by
 rw[abE] at h;obtain⟨h1,h2⟩:=h;rw[List.getElem_range] at h2;rw[ab5] at h1;subst h2;exact⟨rfl,by nofun,by nofun⟩
structure EF(K:Frag)(μ:List Nat)(t:TE)(f:FE):Prop where
 h:∀ {F Z H:Hp} {τ σ:St} {ρ:FSt} {A:List Addr} {Q:VK} {P:RV->FSt->Prop},View μ τ σ->Rel K F Z H σ ρ A->f ρ P ->
  (∀ r ρ' v F' H' A' B,P r ρ'->Same F F'->Rel K F' Z H' σ ρ' A'->RV1 K F' H' σ v r B->Fresh F' Z A' B->Q v H')->t τ H Q
structure TF(K:Frag)(μ:List Nat)(t:TT)(f:FT):Prop where
 h:∀ {F Z H:Hp} {τ σ:St} {ρ:FSt} {A:List Addr} {Q:Bool->Hp->Prop} {P:Bool->FSt->Prop},View μ τ σ->Rel K F Z H σ ρ A->f ρ P ->
  (∀ b ρ' F' H' A',P b ρ'->Same F F'->Rel K F' Z H' σ ρ' A'->Q b H')->t τ H Q
structure AF(K:Frag)(μ:List Nat)(t:TA)(f:FA):Prop where
 h:∀ {F Z H:Hp} {τ σ:St} {ρ:FSt} {A:List Addr} {Q:List V->Hp->Prop} {P:List RV->FSt->Prop},View μ τ σ->Rel K F Z H σ ρ A->f ρ P ->
  (∀ rs ρ' vs F' H' A' B,P rs ρ'->Same F F'->Rel K F' Z H' σ ρ' A'->RVL K F' H' σ vs rs B->Fresh F' Z A' B->Q vs H')->t τ H Q
structure OF(K:Frag)(μ:List Nat)(t:TO)(f:FO):Prop where
 h:∀ {F Z H:Hp} {τ σ:St} {ρ:FSt} {A:List Addr} {Q:Option Int->Hp->Prop} {P:Option Int->FSt->Prop},View μ τ σ->Rel K F Z H σ ρ A->f ρ P ->
  (∀ x ρ' F' H' A',P x ρ'->Same F F'->Rel K F' Z H' σ ρ' A'->Q x H')->t τ H Q
def rJ(K:Frag)(F H:Hp)(P:OV->Prop)(Q:VK):Prop:=∀ o v F' H' B,P o->Pure F H F' H'->Ow K F' H' v o B->New H F' B->Q v H'
structure OpF(K:Frag)(r:R2)(f:D->D->(OV->Prop)->Prop):Prop where
 h:∀ {F H:Hp} {x y:V} {d e:D} {Q:VK} {P:OV->Prop},Same F H->Acc K F H x d->Acc K F H y e->f d e P->rJ K F H P Q->r x y H Q
structure CallF(K:Frag)(r:List V->Hp->VK->Prop)(f:List D->(OV->Prop)->Prop):Prop where
 h:∀ {F H:Hp} {xs:List V} {ds:List D} {Q:VK} {P:OV->Prop},Same F H->Accs K F H xs ds->f ds P->rJ K F H P Q->r xs H Q
structure SlF(K:Frag)(r:V->Option Int->Option Int->Hp->VK->Prop)(f:D->Option Int->Option Int->(OV->Prop)->Prop):Prop where
 h:∀ {F H:Hp} {x:V} {d:D} {lo hi:Option Int} {Q:VK} {P:OV->Prop},Same F H->Acc K F H x d->f d lo hi P->rJ K F H P Q->r x lo hi H Q
@[irreducible] def br(b:Bool)(A B:Prop):Prop:=if b=true then A else B
theorem nM{A B:Prop}(h:A):br true A B:=by unfold br;exact h
theorem jU{A B:Prop}(h:B):br false A B:=by unfold br;exact h
theorem rK{A B:Prop}(h:br true A B):A:=by unfold br at h;exact h
theorem rL{A B:Prop}(h:br false A B):B:=by unfold br at h;exact h
theorem nN{b:Bool}{A B:Prop}(c:Prop)(e:b=true↔c)(h1:c->A)(h2:¬ c->B):br b A B:=by
 cases b with
 |true=>exact nM (h1 (e.mp rfl))
 |false=>exact jU (h2 λ z=>nomatch e.mpr z)
def af(i:Nat):FE:=λ ρ Q=>match ρ[i]? with
 |some (some (.fz d))=>Q (.ov (.fz d)) ρ
 |some (some _)=>Q (.br i) ρ
 |_=>False
def fC(d:D):FE:=λ ρ Q=>Q (.ov (.fz d)) ρ
def on2(ρ:FSt)(r s:RV)(k:D->D->Prop):Prop:=match dQ ρ r with
 | some d=>match dQ ρ s with
  |some e=>k d e
  |none=>False
 |none=>False
def on1(ρ:FSt)(r:RV)(k:D->Prop):Prop:=match dQ ρ r with
 |some d=>k d
 |none=>False
def onL(ρ:FSt)(rs:List RV)(k:List D->Prop):Prop:=match eE ρ rs with
 |some d=>k d
 |none=>False
def onB(d:D)(k:Bool->Prop):Prop:=match d with
 |.bl b=>k b
 |_=>False
def fOp(f:D->D->(OV->Prop)->Prop)(fa fb:FE):FE:=λ ρ Q=>fa ρ λ r ρ1=>fb ρ1 λ s ρ2=>on2 ρ2 r s λ d e=>f d e λ o=>Q (.ov o) ρ2
def vH(fa fb:FE):FE:=λ ρ Q=>fa ρ λ r ρ1=>on1 ρ1 r λ d=>onB d λ c=>br c (fb ρ1 Q) (Q (.ov (.fz (.bl false))) ρ1)
def vI(fa:FE):FE:=λ ρ Q=>fa ρ λ r ρ1=>on1 ρ1 r λ d=>onB d λ c=>Q (.ov (.fz (.bl (!c)))) ρ1
def b6(fa:FE):FT:=λ ρ Q=>fa ρ λ r ρ1=>on1 ρ1 r λ d=>onB d λ c=>Q c ρ1
def rM(ft:FT):FT:=λ ρ Q=>ft ρ λ c ρ1=>Q (!c) ρ1
def zo(fa fb:FT):FT:=λ ρ Q=>fa ρ λ c ρ1=>br c (fb ρ1 Q) (Q false ρ1)
def fOr(fa fb:FT):FT:=λ ρ Q=>fa ρ λ c ρ1=>br c (Q true ρ1) (fb ρ1 Q)
def jV:D->Option Bool
 |.non=>some false
 |.bl b=>some b
 |.int i=>some (i != 0)
 |.str y=>if y.length<=sizeLine then some ((y.length:Int) != 0) else none
 |.lst xs=>some (!xs.isEmpty)
 |.tup xs=>some (!xs.isEmpty)
 |.dct _ _=>none
 |.ty _=>none
 |.opq _ _=>none
 |.gt _=>none
 |.dt _ _=>none
def tT:FT:=λ ρ Q=>Q true ρ
def aE:FA:=λ ρ Q=>Q [] ρ
def aa(fa:FE)(fr:FA):FA:=λ ρ Q=>fa ρ λ r ρ1=>fr ρ1 λ rs ρ2=>Q (r::rs) ρ2
def fCB(f:List D->(OV->Prop)->Prop)(fa:FA):FE:=λ ρ Q=>fa ρ λ rs ρ1=>onL ρ1 rs λ ds=>f ds λ o=>Q (.ov o) ρ1
def fL(fa:FA):FE:=λ ρ Q=>fa ρ λ rs ρ1=>match fzL rs ρ1 with
 |some (ds,ρ2)=>ds.length<=sizeLine/\Q (.ov (.fl ds)) ρ2
 |none=>False
def xw(fa:FA):FE:=λ ρ Q=>fa ρ λ rs ρ1=>match fzL rs ρ1 with
 |some (ds,ρ2)=>ds.length<=sizeLine/\Q (.ov (.fz (.tup ds))) ρ2
 |none=>False
def cB:FO:=λ ρ Q=>Q none ρ
def jE(fa:FE):FO:=λ ρ Q=>fa ρ λ r ρ1=>on1 ρ1 r λ d=>match d with
 |.int i=>Q (some i) ρ1
 |_=>False
def fSl(f:D->Option Int->Option Int->(OV->Prop)->Prop)(fe:FE)(fl fh:FO):FE:=λ ρ Q=>fe ρ λ r ρ1=>fl ρ1 λ lo ρ2=>fh ρ2 λ hi ρ3=>on1 ρ3 r λ d=>f d lo hi λ o=>Q (.ov o) ρ3
section
variable {K:Frag} 
theorem bq{k:D->Prop}(h:on1 ρ r k):∃ d,dQ ρ r=some d/\k d:=by
 unfold on1 at h;split at h
 ·exact⟨_,by assumption,h⟩
 ·exact h.elim
theorem vJ{s:RV}{k:D->D->Prop}(h:on2 ρ r s k):∃ d e,dQ ρ r=some d/\dQ ρ s=some e/\k d e:=by
 unfold on2 at h;split at h
 ·split at h
  ·exact⟨_,_,by assumption,by assumption,h⟩
  ·exact h.elim
 ·exact h.elim
theorem px{r:List RV}{k:List D->Prop}(h:onL ρ r k):∃ d,eE ρ r=some d/\k d:=by
 unfold onL at h;split at h
 ·exact⟨_,by assumption,h⟩
 ·exact h.elim
theorem li{k:Bool->Prop}(h:onB d k):∃ b,d=.bl b/\k b:=by
 unfold onB at h;split at h
 ·exact⟨_,rfl,h⟩
 ·exact h.elim
theorem py(hj:μ[j]?=some i):EF K μ (cV j) (af i):=⟨by
 intro F Z H τ σ ρ A Q P vw R h q;unfold af at h;generalize e:ρ[i]?=o at h
 cases o with
 |none=>exact False.elim h
 | some o=>
  cases o with
  |none=>exact False.elim h
  | some o=>
   obtain⟨v,B,A',h1,h2,h3,h4,h5⟩:=R.takeI e;refine⟨v,(vw j i hj).1.trans h1,?_⟩
   cases o with
   | fz d=>
    cases h2 with
    |fz dn=>exact q _ _ v F H A [] h (Same.refl _) R (.fz dn) Fresh.nil
   |_=>exact q _ _ v F H A [] h (Same.refl _) R ⟨h1,rfl⟩ Fresh.nil⟩
theorem vK(hd:∀ F,Den K F v d):EF K μ (tC v) (fC d):=⟨fun {F Z H τ σ ρ A Q P} vw R h q=>q _ _ v F H A [] h (Same.refl _) R (.fz (hd F)) Fresh.nil⟩
theorem vL{i:Int}:EF K μ (tC (.int i)) (fC (.int i)):=vK λ _=>.int i
theorem vM{i:Str}:EF K μ (tC (.str i)) (fC (.str i)):=vK λ _=>.str i
theorem yo{i:Bool}:EF K μ (tC (.bl i)) (fC (.bl i)):=vK λ _=>.bl i
theorem vN:EF K μ (tC .non) (fC .non):=vK λ _=>.non
theorem yp{T:String}:EF K μ (tC (.ty T)) (fC (.ty T)):=vK λ _=>.ty T
theorem Rel.after(R:Rel K F Z H σ ρ A)(q:∀ o v F' H' B,P o->Same F F'->Rel K F' Z H' σ ρ A->Ow K F' H' v o B->Fresh F' Z A B->Q v H'):rJ K F H P Q:=
 λ o v F' H' B p pu ow nw=>q o v F' H' B p pu.ff (R.step pu) ow (R.fresh nw)
theorem yq{r:R2}{f:D->D->(OV->Prop)->Prop}{fb:FE}(ho:OpF K r f)(ha:EF K μ ta fa)(hb:EF K μ tb fb):EF K μ (tOp r ta tb) (fOp f fa fb):=⟨by
 intro F Z H τ σ ρ A Q P vw R h q;refine ha.h vw R h λ r1 ρ1 x F1 H1 A1 B1 h1 s1 R1 v1 f1=>?_;obtain⟨Z',sz,R1',zl,back⟩:=R1.hold v1.live v1.nt f1;refine hb.h vw R1' h1 λ r2 ρ2 y F2 H2 A2 B2 h2 s2 R2 v2 f2=>?_;obtain⟨R2',f1',k1⟩:=back _ _ _ _ s2 R2;obtain⟨d,e,e1,e2,h3⟩:=vJ h2;refine ho.h R2'.fh (R2'.acc (v1.keep s2 k1) e1) (R2'.acc v2 e2) h3 (R2'.after λ o v F3 H3 B p s3 R3 ow fr=>q _ _ _ _ _ _ _ p ((s1.trans s2).trans s3) R3 ow fr)⟩
theorem rN{fb:FE}(ha:EF K μ ta fa)(hb:EF K μ tb fb):EF K μ (p5 ta tb) (vH fa fb):=⟨by
 intro F Z H τ σ ρ A Q P vw R h q;refine ha.h vw R h λ r1 ρ1 x F1 H1 A1 B1 h1 s1 R1 v1 f1=>?_;obtain⟨d,e1,h2⟩:=bq h1;obtain⟨c,rfl,h3⟩:=li h2;refine⟨c,(R1.acc v1 e1).bl_eq,?_⟩
 cases c with
 |true=>exact hb.h vw R1 (rK h3) λ r2 ρ2 y F2 H2 A2 B2 h2 s2=>q _ _ _ _ _ _ _ h2 (s1.trans s2)
 |false=>exact q _ _ _ _ _ _ _ (rL h3) s1 R1 (.fz (.bl false)) Fresh.nil⟩
theorem rO(ha:EF K μ ta fa):EF K μ (p6 ta) (vI fa):=⟨by
 intro F Z H τ σ ρ A Q P vw R h q;refine ha.h vw R h λ r1 ρ1 x F1 H1 A1 B1 h1 s1 R1 v1 f1=>?_;obtain⟨d,e1,h2⟩:=bq h1;obtain⟨c,rfl,h3⟩:=li h2;exact⟨c,(R1.acc v1 e1).bl_eq,q _ _ _ _ _ _ _ h3 s1 R1 (.fz (.bl _)) Fresh.nil⟩⟩
theorem lj(ha:EF K μ ta fa):TF K μ (qj ta) (b6 fa):=⟨by
 intro F Z H τ σ ρ A Q P vw R h q;refine ha.h vw R h λ r1 ρ1 x F1 H1 A1 B1 h1 s1 R1 v1 f1=>?_;obtain⟨d,e1,h2⟩:=bq h1;obtain⟨c,rfl,h3⟩:=li h2;exact⟨c,(R1.acc v1 e1).bl_eq,q _ _ _ _ _ h3 s1 R1⟩⟩
theorem vO{t:TT}(h:TF K μ t f):TF K μ (xH t) (rM f):=⟨fun {F Z H τ σ ρ A Q P} vw R p q=>h.h vw R p λ b ρ1 F1 H1 A1 h1=>q _ _ _ _ _ h1⟩
theorem vP{t:TT}{g:FT}(h:TF K μ t f)(h':TF K μ u g):TF K μ (xG t u) (zo f g):=⟨fun {F Z H τ σ ρ A Q P} vw R p q=>h.h vw R p λ b ρ1 F1 H1 A1 h1 s1 R1=>by
 cases b with
 |true=>exact h'.h vw R1 (rK h1) λ b ρ2 F2 H2 A2 h2 s2=>q _ _ _ _ _ h2 (s1.trans s2)
 |false=>exact q _ _ _ _ _ (rL h1) s1 R1⟩
theorem yr{t:TT}{g:FT}(h:TF K μ t f)(h':TF K μ u g):TF K μ (tOr t u) (fOr f g):=⟨fun {F Z H τ σ ρ A Q P} vw R p q=>h.h vw R p λ b ρ1 F1 H1 A1 h1 s1 R1=>by
 cases b with
 |false=>exact h'.h vw R1 (rL h1) λ b ρ2 F2 H2 A2 h2 s2=>q _ _ _ _ _ h2 (s1.trans s2)
 |true=>exact q _ _ _ _ _ (rK h1) s1 R1⟩
theorem vQ:TF K μ ye tT:=⟨fun {F Z H τ σ ρ A Q P} vw R p q=>q _ _ _ _ _ p (Same.refl _) R⟩
theorem rP{k:Bool}(e:Same F H)(h:Acc K F H x d)(hk:jV d=some k):xW K x H k:=by
 cases d with
 |non=>rw[h.non_eq];exact(aah hk).symm
 |bl b=>rw[h.bl_eq];exact(aah hk).symm
 |int i=>rw[h.int_eq];exact(aah hk).symm
 | str y=>
  rw[h.str_eq];simp only[jV] at hk;split at hk
  ·exact⟨by assumption,by simpa using hk.symm⟩
  ·cases hk
 | lst ds=>
  obtain⟨a,xs,rfl,h1,h2⟩:=h.asL e;have:=h2.length;refine .inl ⟨xs,h1,?_⟩;simp only[jV,Option.some.injEq] at hk;rw[← hk];cases xs <;> cases ds <;> simp at this ⊢
 | tup ds=>
  obtain⟨a,xs,rfl,h1,h2⟩:=h.asT e;have:=h2.length;refine .inr (.inl ⟨xs,h1,?_⟩);simp only[jV,Option.some.injEq] at hk;rw[← hk];cases xs <;> cases ds <;> simp at this ⊢
 | dct ks ds=>
  simp[jV] at hk
 |ty T=>simp[jV] at hk
 |opq a n=>simp[jV] at hk
 |gt xs=>simp[jV] at hk
 |dt ks xs=>simp[jV] at hk
theorem vR:AF K μ fP aE:=⟨fun {F Z H τ σ ρ A Q P} vw R p q=>q _ _ _ _ _ _ _ p (Same.refl _) R .nil Fresh.nil⟩
theorem rQ{tr:TA}{fr:FA}(ha:EF K μ ta fa)(hr:AF K μ tr fr):AF K μ (bp ta tr) (aa fa fr):=⟨by
 intro F Z H τ σ ρ A Q P vw R h q;refine ha.h vw R h λ r1 ρ1 x F1 H1 A1 B1 h1 s1 R1 v1 f1=>?_;obtain⟨Z',sz,R1',zl,back⟩:=R1.hold v1.live v1.nt f1;refine hr.h vw R1' h1 λ r2 ρ2 y F2 H2 A2 B2 h2 s2 R2 v2 f2=>?_;obtain⟨R2',f1',k1⟩:=back _ _ _ _ s2 R2;refine q _ _ _ _ _ _ _ h2 (s1.trans s2) R2' (.cons (v1.keep s2 k1) v2) ⟨abX.mpr ⟨f1'.nd,f2.nd,λ a ha b hb z=>?_⟩,λ b hb=>?_⟩
 ·obtain⟨u,hu⟩:=zl a ha;rw[z,(f2.fr b hb).2.1] at hu;cases hu
 ·rcases abx.mp hb with z|z
  ·exact f1'.fr b z
  ·exact⟨(f2.fr b z).1,sz.free (f2.fr b z).2.1,(f2.fr b z).2.2⟩⟩
theorem yt{r:List V->Hp->VK->Prop}{f:List D->(OV->Prop)->Prop}{fa:FA}(hc:CallF K r f)(ha:AF K μ t fa):EF K μ (tCB r t) (fCB f fa):=⟨by
 intro F Z H τ σ ρ A Q P vw R h q;refine ha.h vw R h λ rs ρ1 xs F1 H1 A1 B1 h1 s1 R1 v1 f1=>?_;obtain⟨ds,e1,h2⟩:=px h1;exact hc.h R1.fh (R1.accs v1 e1) h2 (R1.after λ o v F3 H3 B p s3 R3 ow fr=>q _ _ _ _ _ _ _ p (s1.trans s3) R3 ow fr)⟩
theorem vS{fa:FA}(ha:AF K μ t fa):EF K μ (xX t) (fL fa):=⟨by
 intro F Z H τ σ ρ A Q P vw R h q;refine ha.h vw R h λ rs ρ1 xs F1 H1 A1 B1 h1 s1 R1 v1 f1=>?_;split at h1
 ·rename_i ds ρ2 e;obtain⟨F2,A2,s2,R2,dn⟩:=R1.frzL v1 f1 e;refine⟨by rw[dn.length];exact h1.1,λ p hp=>?_⟩;have hf:F2 p=none:=R2.fh.free hp;exact R2.after (P:=λ o=>P (.ov o) ρ2) (λ o v F3 H3 B p s3 R3 ow fr=>q _ _ _ _ _ _ _ p ((s1.trans s2).trans s3) R3 ow fr) _ _ F2 _ [p] h1.2 (Pure.new R2.fh hp) (.fl ag dn) (New.one hp hf)
 ·exact h1.elim⟩
theorem vT{fa:FA}(ha:AF K μ t fa):EF K μ (xn t) (xw fa):=⟨by
 intro F Z H τ σ ρ A Q P vw R h q;refine ha.h vw R h λ rs ρ1 xs F1 H1 A1 B1 h1 s1 R1 v1 f1=>?_;split at h1
 ·rename_i ds ρ2 e;obtain⟨F2,A2,s2,R2,dn⟩:=R1.frzL v1 f1 e;refine⟨by rw[dn.length];exact h1.1,λ p hp=>?_⟩;have hf:F2 p=none:=R2.fh.free hp;refine R2.after (P:=λ o=>P (.ov o) ρ2) (λ o v F3 H3 B p s3 R3 ow fr=>q _ _ _ _ _ _ _ p ((s1.trans s2).trans s3) R3 ow fr) _ _ (upd F2 p (.tup xs)) _ [] h1.2 (Pure.frz R2.fh hp) (.fz (.tup ag (dn.mono (aM hf)))) New.nil
 ·exact h1.elim⟩
theorem rR:OF K μ h8 cB:=⟨fun {F Z H τ σ ρ A Q P} vw R p q=>q _ _ _ _ _ p (Same.refl _) R⟩
theorem rS(ha:EF K μ ta fa):OF K μ (qp ta) (jE fa):=⟨by
 intro F Z H τ σ ρ A Q P vw R h q;refine ha.h vw R h λ r1 ρ1 x F1 H1 A1 B1 h1 s1 R1 v1 f1=>?_;obtain⟨d,e1,h2⟩:=bq h1;split at h2
 ·rename_i i;exact⟨i,(R1.acc v1 e1).int_eq,q _ _ _ _ _ h2 s1 R1⟩
 ·exact h2.elim⟩
theorem yu{r:V->Option Int->Option Int->Hp->VK->Prop}{f:D->Option Int->Option Int->(OV->Prop)->Prop}{tl th:TO}{fl fh:FO}(hr:SlF K r f)(he:EF K μ te fe)(hl:OF K μ tl fl)(hh:OF K μ th fh):EF K μ (tSl r te tl th) (fSl f fe fl fh):=⟨by
 intro F Z H τ σ ρ A Q P vw R h q;refine he.h vw R h λ r1 ρ1 x F1 H1 A1 B1 h1 s1 R1 v1 f1=>?_;obtain⟨Z',sz,R1',zl,back⟩:=R1.hold v1.live v1.nt f1;refine hl.h vw R1' h1 λ lo ρ2 F2 H2 A2 h2 s2 R2=>?_;refine hh.h vw R2 h2 λ hi ρ3 F3 H3 A3 h3 s3 R3=>?_;obtain⟨R3',f1',k1⟩:=back _ _ _ _ (s2.trans s3) R3;obtain⟨d,e1,h4⟩:=bq h3;exact hr.h R3'.fh (R3'.acc (v1.keep (s2.trans s3) k1) e1) h4 (R3'.after λ o v F5 H5 B p s5 R5 ow fr=>q _ _ _ _ _ _ _ p (((s1.trans s2).trans s3).trans s5) R5 ow fr)⟩
end
abbrev Pk:=OV->List OV->Prop
abbrev Ct:=List OV->Pk->Prop
variable{c:Ct}
def takeR:RV->FSt->Option (OV×FSt)
 |.ov o,ρ=>some (o,ρ)
 | .br i,ρ=>match ρ[i]? with
  |some (some o)=>some (o,ρ.set i none)
  |_=>none
def takeL:List RV->FSt->Option (List OV×FSt)
 |[],ρ=>some ([],ρ)
 | r::rs,ρ=>match takeR r ρ with
  | some (o,ρ1)=>match takeL rs ρ1 with
   |some (os,ρ2)=>some (o::os,ρ2)
   |none=>none
  |none=>none
def putL:List RV->List OV->FSt->FSt
 |.br i::rs,o::os,ρ=>putL rs os (ρ.set i (some o))
 |.ov _::rs,_::os,ρ=>putL rs os ρ
 |_,_,ρ=>ρ
def spM(K:Frag)(c:Ct):Sp:=λ vs H Q _=>∃ (F Z:Hp) (os:List OV) (C:List Addr) (P:OV->List OV->Prop),Same F H/\SameN Z H/\(∀ a o,F a=some o->Z a=none)/\Ows K F H vs os C/\C.Nodup/\(∀ a∈C,F a=none/\Z a=none)/\c os P /\
 ∀ o os' v F' H' C' B,P o os'->Same F F'->Same F' H'->Same Z H'->(∀ a o,F' a=some o->Z a=none)->Ows K F' H' vs os' C'->Ow K F' H' v o B->(C'++B).Nodup->(∀ a∈C'++B,F' a=none/\Z a=none)->Q v H'
def aG(c:Ct)(fa:FA):FE:=λ ρ Q=>fa ρ λ rs ρ1=>match takeL rs ρ1 with
 |some (os,ρ2)=>c os λ o os'=>Q (.ov o) (putL rs os' ρ2)
 |none=>False
def fFz(fe:FE):FE:=λ ρ Q=>fe ρ λ r ρ1=>match fzR r ρ1 with
 |some (d,ρ2)=>Q (.ov (.fz d)) ρ2
 |none=>False
section
variable {K:Frag}     
theorem Rel.takeR{ρ':FSt}(R:Rel K F Z H σ ρ A)(h:RV1 K F H σ v r B)(f:Fresh F Z A B)(e:L2.takeR r ρ=some (o,ρ')) :
  ∃ C A',Rel K F Z H σ ρ' A'/\Ow K F H v o C/\Fresh F Z A' C/\(∀ a∈A',a∈A)/\∀ a∈C,a∈A∨a∈B:=by
 cases r with
 | ov o'=>
  simp only[L2.takeR,Option.some.injEq,Prod.mk.injEq] at e;obtain⟨rfl,rfl⟩:=e;exact⟨B,A,R,h,f,λ _ z=>z,λ _ z=>.inr z⟩
 | br i=>
  simp only[L2.takeR] at e;split at e
  ·rename_i o' ho;simp only[Option.some.injEq,Prod.mk.injEq] at e;obtain⟨rfl,rfl⟩:=e;obtain⟨v',B',A',h1,h2,R',f',pm⟩:=R.takeI ho;have hv:v'=v:=aah (aah (h1.symm.trans h.1));subst hv;exact⟨B',A',R',h2,f',λ a ha=>pm.mem_iff.mpr (abx.mpr (.inr ha)),λ a ha=>.inl (pm.mem_iff.mpr (abx.mpr (.inl ha)))⟩
  ·cases e
theorem Rel.takeL:∀ {rs:List RV} {vs:List V} {B:List Addr} {os:List OV} {ρ ρ':FSt} {A:List Addr},Rel K F Z H σ ρ A->RVL K F H σ vs rs B->Fresh F Z A B->L2.takeL rs ρ=some (os,ρ') ->
  ∃ C A',Rel K F Z H σ ρ' A'/\Ows K F H vs os C/\Fresh F Z A' C/\(∀ a∈A',a∈A)/\∀ a∈C,a∈A∨a∈B:=by
 intro rs
 induction rs with
 | nil=>
  intro vs B os ρ ρ' A R h f e;simp only[L2.takeL,Option.some.injEq,Prod.mk.injEq] at e;obtain⟨rfl,rfl⟩:=e;cases h;exact⟨[],A,R,.nil,f,λ _ z=>z,λ _ z=>nomatch z⟩
 | cons r rs ih=>
  intro vs B os ρ ρ' A R h f e
  cases h with
  | @cons v _ vs _ B1 B2 h t=>
   simp only[L2.takeL] at e;split at e
   ·rename_i o ρ1 e1;split at e
    ·rename_i os' ρ2 e2;simp only[Option.some.injEq,Prod.mk.injEq] at e;obtain⟨rfl,rfl⟩:=e;obtain⟨n1,n2,n3⟩:=aN (aaH (B1++B2)) f.nd;obtain⟨C1,A1,R1,o1,f1,m1,c1⟩:=R.takeR h ⟨n1,λ b hb=>f.fr b (abx.mpr (.inl hb))⟩ e1
     obtain⟨C2,A2,R2,o2,f2,m2,c2⟩:=ih R1 t ⟨n2,λ b hb=>by
      have fb:=f.fr b (abx.mpr (.inr hb));exact⟨fb.1,fb.2.1,λ z=>fb.2.2 (m1 b z)⟩⟩ e2
     refine⟨C1++C2,A2,R2,.cons o1 o2,⟨abX.mpr ⟨f1.nd,f2.nd,λ a ha b hb z=>?_⟩,λ b hb=>?_⟩,λ a ha=>m1 a (m2 a ha),λ a ha=>?_⟩
     ·subst z;rcases c2 a hb with z|z
      ·exact(f1.fr a ha).2.2 z
      ·rcases c1 a ha with y|y
       ·exact(f.fr a (abx.mpr (.inr z))).2.2 y
       ·exact n3 a y z
     ·rcases abx.mp hb with z|z
      ·exact⟨(f1.fr b z).1,(f1.fr b z).2.1,λ y=>(f1.fr b z).2.2 (m2 b y)⟩
      ·exact f2.fr b z
     ·rcases abx.mp ha with z|z
      ·rcases c1 a z with y|y
       ·exact .inl y
       ·exact .inr (abx.mpr (.inl y))
      ·rcases c2 a z with y|y
       ·exact .inl (m1 a y)
       ·exact .inr (abx.mpr (.inr y))
    ·cases e
   ·cases e
theorem Rel.assign(R:Rel K F Z H σ ρ A)(h:Ow K F H v o B)(f:Fresh F Z A B):∃ A',Rel K F Z H (σ.set i (some v)) (ρ.set i (some o)) A'/\∀ a∈A',a∈A∨a∈B:=by
 obtain⟨A1,C,pm,s1⟩:=R.sl.drop i (some v);obtain⟨n1,n2,n3⟩:=aN pm R.nd;have mA:∀ a∈A1,a∈A:=λ a ha=>pm.mem_iff.mpr (abx.mpr (.inr ha));have R1:Rel K F Z H (σ.set i (some v)) (ρ.set i none) A1:=⟨s1,n2,λ a ha=>R.fr a (mA a ha),R.fh,R.zh,R.dj⟩;by_cases hi:i<ρ.length
 ·have hl:=R.sl.len;obtain⟨A2,R2,p2⟩:=R1.putI (i:=i) (v:=v) (o:=o) (B:=B) (by simp[hi]) (by simp[hl,hi]) h ⟨f.nd,λ b hb=>⟨(f.fr b hb).1,(f.fr b hb).2.1,λ z=>(f.fr b hb).2.2 (mA b z)⟩⟩;rw[abe] at R2;refine⟨A2,R2,λ a ha=>?_⟩;rcases abx.mp (p2.mem_iff.mp ha) with z|z
  ·exact .inr z
  ·exact .inl (mA a z)
 ·have hl:=R.sl.len;rw[List.set_eq_of_length_le (by nofun)] at R1 ⊢;rw[List.set_eq_of_length_le (by nofun)] at R1 ⊢;exact⟨A1,R1,λ a ha=>.inl (mA a ha)⟩
theorem vU(h:σ[i]?=some (some v)):σ.set i (some v)=σ:=by
 apply ab2;intro j;by_cases hj:i=j
 ·subst hj;have:=(abE.mp h).1;rw[h,abU this]
 ·rw[abQ hj]
theorem Rel.putL:∀ {rs:List RV} {vs:List V} {os:List OV} {B C:List Addr} {ρ:FSt} {A:List Addr},Rel K F Z H σ ρ A->RVL K F' H' σ vs rs B->Ows K F H vs os C->Fresh F Z A C ->
  ∃ A',Rel K F Z H σ (L2.putL rs os ρ) A'/\∀ a∈A',a∈A∨a∈C:=by
 intro rs
 induction rs with
 | nil=>
  intro vs os B C ρ A R h hO f;exact⟨A,R,λ _ z=>.inl z⟩
 | cons r rs ih=>
  intro vs os B C ρ A R h hO f
  cases h with
  | @cons v _ vs _ B1 B2 h t=>
   cases hO with
   | @cons _ o _ os C1 C2 h1 t1=>
    obtain⟨n1,n2,n3⟩:=aN (aaH (C1++C2)) f.nd;have f1:Fresh F Z A C1:=⟨n1,λ b hb=>f.fr b (abx.mpr (.inl hb))⟩;have f2:Fresh F Z A C2:=⟨n2,λ b hb=>f.fr b (abx.mpr (.inr hb))⟩
    cases r with
    | ov o'=>
     obtain⟨A',R',m⟩:=ih R t t1 f2;refine⟨A',R',λ a ha=>(m a ha).elim .inl λ z=>.inr (abx.mpr (.inr z))⟩
    | br i=>
     obtain⟨A1,R1,m1⟩:=R.assign (i:=i) h1 f1;rw[vU h.1] at R1;obtain⟨A',R',m⟩:=ih R1 t t1 ⟨n2,λ b hb=>⟨(f2.fr b hb).1,(f2.fr b hb).2.1,λ z=>(m1 b z).elim (f2.fr b hb).2.2 λ y=>n3 b y hb⟩⟩;refine⟨A',R',λ a ha=>?_⟩;rcases m a ha with z|z
     ·exact(m1 a z).elim .inl λ y=>.inr (abx.mpr (.inl y))
     ·exact .inr (abx.mpr (.inr z))
theorem rT{fa:FA}{E:XK}(ha:AF K μ t fa):EF K μ (jo (spM K c) [] E t) (aG c fa):=⟨by
 intro F Z H τ σ ρ A Q P vw R h q;refine ha.h vw R h λ rs ρ1 vs F1 H1 A1 B1 h1 s1 R1 v1 f1=>?_;rw[aaB];split at h1
 ·rename_i os ρ2 e;obtain⟨C,A2,R2,o2,f2,m2,c2⟩:=R1.takeL v1 f1 e
  -- what is not handed over is held
  obtain⟨Z',hin,hout⟩:=mix A2 H1 Z;have hz:∀ a,a∈A2->Z a=none:=λ a ha=>(R2.fr a ha).2;have sz:Same Z Z':=λ a o z=>by rw[hout a λ y=>by rw[hz a y] at z;cases z];exact z
  refine⟨F1,Z',os,C,_,R2.fh,⟨λ a o z=>?_,λ a xs z=>?_⟩,λ a o z=>?_,o2,f2.nd,λ a ha=>⟨(f2.fr a ha).1,by rw[hout a (f2.fr a ha).2.2];exact(f2.fr a ha).2.1⟩,h1,λ o os' v F3 H3 C3 B p s3 fh zh dj w3 w4 nd fr=>?_⟩
  ·by_cases y:a∈A2
   ·rw[hin a y] at z;exact z
   ·rw[hout a y] at z;exact R2.zh.s a o z
  ·by_cases y:a∈A2
   ·rw[hin a y] at z;exact R2.sl.nt a y xs z
   ·rw[hout a y] at z;exact R2.zh.n a xs z
  ·rw[hout a λ y=>by rw[(R2.fr a y).1] at z;cases z];exact R2.dj a o z
  ·have nA:∀ a∈A2,∃ u,Z' a=some u:=λ a ha=>by
    obtain⟨u,hu⟩:=R2.sl.live a ha;exact⟨u,by rw[hin a ha];exact hu⟩
   have R3:Rel K F3 Z H3 σ ρ2 A2:=⟨R2.sl.keep s3 λ a u ha hu=>zh a u (by rw[hin a ha];exact hu),R2.nd,λ a ha=>⟨(by
    cases z:F3 a with
    |none=>rfl
    | some u=>
     have:=dj a u z;obtain⟨w,hw⟩:=nA a ha;rw[hw] at this;exact nomatch this),(R2.fr a ha).2⟩,fh,⟨sz.trans zh,R2.zh.n⟩,λ a o z=>sz.free (dj a o z)⟩
   have nC:∀ a∈C3++B,a∉A2:=λ a ha y=>by
    obtain⟨w,hw⟩:=nA a y;rw[(fr a ha).2] at hw;cases hw
   obtain⟨n1,n2,n3⟩:=aN (aaH (C3++B)) nd
   have fC:Fresh F3 Z A2 C3:=⟨n1,λ b hb=>by
    have:=fr b (abx.mpr (.inl hb));exact⟨this.1,sz.free this.2,nC b (abx.mpr (.inl hb))⟩⟩
   obtain⟨A4,R4,m4⟩:=R3.putL v1 w3 fC;refine q _ _ _ _ _ _ _ p (s1.trans s3) R4 w4 ⟨n2,λ b hb=>?_⟩;have:=fr b (abx.mpr (.inr hb));exact⟨this.1,sz.free this.2,λ z=>(m4 b z).elim (nC b (abx.mpr (.inr hb))) λ y=>n3 b y hb⟩
 ·exact h1.elim⟩
theorem yv(he:EF K μ te fe):EF K μ te (fFz fe):=⟨by
 intro F Z H τ σ ρ A Q P vw R h q;refine he.h vw R h λ r ρ1 v F1 H1 A1 B1 h1 s1 R1 v1 f1=>?_;split at h1
 ·rename_i d ρ2 e;obtain⟨F2,A2,s2,R2,dn,_,_⟩:=R1.frz v1 f1 e;exact q _ _ _ _ _ _ _ h1 (s1.trans s2) R2 (.fz dn) Fresh.nil
 ·exact h1.elim⟩
end
theorem iM:∀ {l:List Nat} {j k i:Nat},l.Nodup->l[j]?=some i->l[k]?=some i->j=k
 |[],_,_,_,_,h,_=>by simp at h
 |a::l,0,0,_,_,_,_=>rfl
 | a::l,0,k+1,i,n,h,h'=>by
  simp at h h';subst h;exact absurd (abT h') (abS.mp n).1
 | a::l,j+1,0,i,n,h,h'=>by
  simp at h h';subst h';exact absurd (abT h) (abS.mp n).1
 | a::l,j+1,k+1,i,n,h,h'=>by
  simp at h h';rw[iM (List.nodup_cons.mp n).2 h h']
abbrev FG:=D->FSt->(FSt->Prop)->Prop
variable{fg:FG}
abbrev FGs:=List D->FSt->(FSt->Prop)->Prop
structure GF(K:Frag)(μ:List Nat)(T:List Nat)(g:TG)(f:FG):Prop where
 h:∀ {F Z H:Hp} {τ σ:St} {ρ:FSt} {A:List Addr} {v:V} {d:D} {Q:St->Hp->Prop} {P:FSt->Prop},View μ τ σ->Rel K F Z H σ ρ A->Den K F v d->f d ρ P ->
  (∀ τ' σ' ρ' A',P ρ'->View μ τ' σ'->Rel K F Z H σ' ρ' A'->(∀ i,i∉T->σ'[i]?=σ[i]?)->σ'.length=σ.length->((∀ j i:Nat,μ[j]?=some i->i=j)->τ=σ->τ'=σ')->(∀ a∈A',a∈A)->Q τ' H)->g v τ H Q
structure GsF(K:Frag)(μ:List Nat)(T:List Nat)(g:TGs)(f:FGs):Prop where
 h:∀ {F Z H:Hp} {τ σ:St} {ρ:FSt} {A:List Addr} {v:List V} {d:List D} {Q:St->Hp->Prop} {P:FSt->Prop},View μ τ σ->Rel K F Z H σ ρ A->Dens K F v d->f d ρ P ->
  (∀ τ' σ' ρ' A',P ρ'->View μ τ' σ'->Rel K F Z H σ' ρ' A'->(∀ i,i∉T->σ'[i]?=σ[i]?)->σ'.length=σ.length->((∀ j i:Nat,μ[j]?=some i->i=j)->τ=σ->τ'=σ')->(∀ a∈A',a∈A)->Q τ' H)->g v τ H Q
def ai(i:Nat):FG:=λ d ρ P=>P (ρ.set i (some (.fz d)))
def vV:FGs:=λ ds ρ P=>match ds with
 |[]=>P ρ
 |_=>False
def ll(f:FG)(fs:FGs):FGs:=λ ds ρ P=>match ds with
 |d::ds=>f d ρ λ ρ1=>fs ds ρ1 P
 |_=>False
section
variable {K:Frag} 
theorem lm(hj:μ[j]?=some i)(hn:μ.Nodup):GF K μ [i] (dN j) (ai i):=⟨by
 intro F Z H τ σ ρ A v d Q P vw R dn h q;obtain⟨A',R',m⟩:=R.assign (i:=i) (.fz dn) Fresh.nil;refine q _ (σ.set i (some v)) _ _ h (λ j' i' h'=>⟨?_,by rw[abh];exact(vw j' i' h').2.1,by rw[abh];exact(vw j' i' h').2.2⟩) R' (λ i' hi'=>?_) (abh ..) (λ hid e=>?_) λ a ha=>(m a ha).elim id λ z=>nomatch z
 ·by_cases hjj:j=j'
  ·subst hjj;rw[hj] at h';cases h';have:=vw j i hj;rw[abU this.2.1,abU this.2.2]
  ·have hii:i≠i':=λ z=>by
    subst z;exact hjj (iM hn hj h')
   rw[abQ hjj,abQ hii];exact(vw j' i' h').1
 ·rw[abQ λ z=>hi' (by simp[z])]
 ·rw[hid j i hj,e]⟩
theorem rV:GsF K μ [] xO vV:=⟨by
 intro F Z H τ σ ρ A v d Q P vw R dn h q
 cases dn with
 |nil=>exact⟨rfl,q _ _ _ _ h vw R (λ _ _=>rfl) rfl (λ _ e=>e) λ _ z=>z⟩
 |cons _ _=>exact h.elim⟩
theorem nO{T':List Nat}{gs:TGs}{f:FG}{fs:FGs}(h1:GF K μ T g f)(h2:GsF K μ T' gs fs):GsF K μ (T++T') (qc g gs) (ll f fs):=⟨by
 intro F Z H τ σ ρ A v d Q P vw R dn h q
 cases dn with
 |nil=>exact h.elim
 | cons d1 d2=>
  refine⟨_,_,rfl,h1.h vw R d1 h fun τ' σ' ρ' A' p vw' R' k kl id' m=>h2.h vw' R' d2 p fun τ2 σ2 ρ2 A2 p2 vw2 R2 k2 kl2 id2 m2=>q _ _ _ _ p2 vw2 R2 (λ i hi=>?_) (kl2.trans kl) (λ a b=>id2 a (id' a b)) λ a ha=>m a (m2 a ha)⟩;rw[abx,not_or] at hi;rw[k2 i hi.2,k i hi.1]⟩
end
structure Walk(K:Frag)(F:Hp)(J:It)(ds:List D):Prop where
 go:∀ H i,Same F H->i<ds.length->J.go i H
 yld:∀ H i x H',Same F H->i<ds.length->J.yld i H x H'->H'=H/\∃ d,ds[i]?=some d/\Den K F x d
 stop:∀ H,Same F H->J.stop ds.length H
abbrev FI:=FSt->(List D->FSt->Prop)->Prop
variable{fi:FI}
structure ITF(K:Frag)(μ:List Nat)(t:TI)(f:FI):Prop where
 h:∀ {F Z H:Hp} {τ σ:St} {ρ:FSt} {A:List Addr} {Q:It->Hp->Prop} {P:List D->FSt->Prop},View μ τ σ->Rel K F Z H σ ρ A->f ρ P ->
  (∀ ds ρ' J F' H' A',P ds ρ'->Same F F'->Rel K F' Z H' σ ρ' A'->Walk K F' J ds->Q J H')->t τ H Q
def b4(fe:FE):FI:=λ ρ Q=>fe ρ λ r ρ1=>match fzR r ρ1 with
 |some (.lst ds,ρ2)=>Q ds ρ2
 |_=>False
def bP(lo:Int)(n:Nat):List D:=(List.range n).map λ (k:Nat)=>.int (lo+(k:Int))
def df(fa:FA):FI:=λ ρ Q=>fa ρ λ rs ρ1=>onL ρ1 rs λ ds=>match ds with
 |[.int j]=>(-(2 ^ 62)<=j/\j<2 ^ 62)/\Q (bP 0 j.toNat) ρ1
 |_=>False
section
variable {K:Frag}  
theorem lp(h:SqL K F a xs)(t:Dens K F xs ds):Walk K F (Itl K a) ds:=
 ⟨λ H i s hi=>by
  obtain⟨x,h1,h2⟩:=t.get (abA hi);exact⟨xs,x,s.seq h,h1⟩,λ H i x H' s hi y=>by
  obtain⟨rfl,y⟩:=y;obtain⟨d,h1,h2⟩:=t.get' (y xs (s.seq h));exact⟨rfl,d,h1,h2⟩,λ H s=>⟨xs,s.seq h,by rw[t.length];exact aad _⟩⟩
theorem nP{lo:Int}:Walk K F (Itr lo n) (bP lo n):=
 ⟨λ H i s hi=>by (have hi:i<n:=by simpa [bP] using hi);exact hi,λ H i x H' s hi y=>by
  obtain⟨rfl,rfl⟩:=y;have hi:i<n:=by simpa [bP] using hi
  exact⟨rfl,.int (lo+i),by simp[bP,hi],.int _⟩,λ H s=>by
  show n<=(bP lo n).length;simp[bP]⟩
theorem nQ(he:EF K μ te fe):ITF K μ (jl K te) (b4 fe):=⟨by
 intro F Z H τ σ ρ A Q P vw R h q;refine he.h vw R h λ r ρ1 v F1 H1 A1 B1 h1 s1 R1 v1 f1=>?_;generalize e:fzR r ρ1=o at h1;obtain _|⟨d,ρ2⟩:=o
 ·exact False.elim h1
 cases d
 case lst ds=>
  obtain⟨F2,A2,s2,R2,dn,_,_⟩:=R1.frz v1 f1 e
  cases dn with
  |lst hs t=>exact ⟨_,rfl,⟨_,R2.fh.seq hs⟩,q _ _ _ _ _ _ h1 (s1.trans s2) R2 (lp hs t)⟩
 all_goals exact False.elim h1⟩
theorem bJ(h:Accs K F H xs [d]):∃ x,xs=[x]/\Acc K F H x d:=by
 cases h with|cons a t=>cases t;exact⟨_,rfl,a⟩
theorem lr(h:Accs K F H xs [d,e]):∃ x y,xs=[x,y]/\Acc K F H x d/\Acc K F H y e:=by
 cases h with|cons a t=>obtain⟨y,rfl,b⟩:=bJ t;exact⟨_,_,rfl,a,b⟩
theorem nR{fa:FA}(ha:AF K μ t fa):ITF K μ (qg t) (df fa):=⟨by
 intro F Z H τ σ ρ A Q P vw R h q;refine ha.h vw R h λ rs ρ1 xs F1 H1 A1 B1 h1 s1 R1 v1 f1=>?_;obtain⟨ds,e1,h2⟩:=px h1;obtain _|⟨d,r⟩:=ds
 ·exact False.elim h2
 cases d
 case int j=>
  cases r with
  |cons=>exact False.elim h2
  | nil=>
   obtain⟨x,rfl,a⟩:=bJ (R1.accs v1 e1);exact⟨j,by rw[a.int_eq],h2.1.1,h2.1.2,q _ _ _ _ _ _ h2.2 s1 R1 nP⟩
 all_goals exact False.elim h2⟩
end
structure FEnds where
 nx:FSt->Prop
 rt:OV->FSt->Prop
 bk:FSt->Prop:=λ _=>False
 ct:FSt->Prop:=λ _=>False
variable{E:FEnds}
abbrev FS:=FEnds->FSt->Prop
variable{fb:FS}
def Pin(n:Nat)(m:List Nat)(σ0 σ:St):Prop:=σ.length=n/\∀ i∈m,σ[i]?=σ0[i]?
structure EndsOk(K:Frag)(n:Nat)(m:List Nat)(F Z:Hp)(σ0:St)(D:Ends)(fD:FEnds):Prop where
 nx:∀ F' H' σ' ρ' A',Same F F'->Rel K F' Z H' σ' ρ' A'->Pin n m σ0 σ'->fD.nx ρ'->D.nx σ' H'
 rt:∀ F' H' σ' ρ' A' v o B,Same F F'->Rel K F' Z H' σ' ρ' A'->Pin n m σ0 σ'->Ow K F' H' v o B->Fresh F' Z A' B->fD.rt o ρ'->D.rt v H'
 bk:∀ F' H' σ' ρ' A',Same F F'->Rel K F' Z H' σ' ρ' A'->Pin n m σ0 σ'->fD.bk ρ'->D.bk σ' H'
 ct:∀ F' H' σ' ρ' A',Same F F'->Rel K F' Z H' σ' ρ' A'->Pin n m σ0 σ'->fD.ct ρ'->D.ct σ' H'
theorem EndsOk.mono{K:Frag}{D:Ends}{fD:FEnds}(E:EndsOk K n m F Z σ0 D fD)(e:Same F F1):EndsOk K n m F1 Z σ0 D fD:=
 ⟨λ F' H' σ' ρ' A' s=>E.nx F' H' σ' ρ' A' (e.trans s),λ F' H' σ' ρ' A' v o B s=>E.rt F' H' σ' ρ' A' v o B (e.trans s),λ F' H' σ' ρ' A' s=>E.bk F' H' σ' ρ' A' (e.trans s),λ F' H' σ' ρ' A' s=>E.ct F' H' σ' ρ' A' (e.trans s)⟩
structure SF(K:Frag)(n:Nat)(m:List Nat)(t:TS)(f:FS):Prop where
 h:∀ {F Z H:Hp} {σ0 σ:St} {ρ:FSt} {A:List Addr} {D:Ends} {fD:FEnds},Rel K F Z H σ ρ A->Pin n m σ0 σ->EndsOk K n m F Z σ0 D fD->f fD ρ->t D σ H
def cN:FS:=λ D ρ=>D.nx ρ
def eY:FSt->(FSt->Prop)->Prop
 |[],k=>k []
 |a::l,k=>eY l λ l'=>k (a::l')
theorem bB:∀ (ρ:FSt) (k:FSt->Prop),eY ρ k↔k ρ
 |[],k=>Iff.rfl
 |a::l,k=>by rw[eY,bB l]
def bf(f g:FS):FS:=λ D ρ=>f { D with nx:=λ ρ'=>eY ρ' (g D) } ρ
@[irreducible] def fIf(c:FT)(f g:FS)(E:FEnds)(ρ:FSt):Prop:=c ρ λ b ρ1=>br b (f E ρ1) (g E ρ1)
theorem dR{c:FT}{f g:FS}(h:c ρ λ b ρ1=>br b (f E ρ1) (g E ρ1)):fIf c f g E ρ:=by unfold fIf;exact h
def dg(fe:FE):FS:=λ D ρ=>fe ρ λ r ρ1=>match takeR r ρ1 with
 |some (o,ρ2)=>D.rt o ρ2
 |none=>False
def jF(fe:FE):FS:=λ D ρ=>fe ρ λ _ ρ1=>D.nx ρ1
def dL(fe:FE)(fg:FG):FS:=λ D ρ=>fe ρ λ r ρ1=>match fzR r ρ1 with
 |some (d,ρ2)=>fg d ρ2 D.nx
 |none=>False
def gv(i:Nat)(fe:FE):FS:=λ D ρ=>fe ρ λ r ρ1=>match r with
 |.ov o=>D.nx (ρ1.set i (some o))
 |.br _=>False
def iN(fg:FG)(fb:FS)(E:FEnds):List D->FSt->Prop
 |[],ρ=>E.nx ρ
 |d::ds,ρ=>fg d ρ λ ρ1=>fb { nx:=iN fg fb E ds,ct:=iN fg fb E ds,bk:=E.nx,rt:=E.rt } ρ1
@[irreducible] def bC(fg:FG)(fb:FS)(E:FEnds)(ds:List D)(ρ:FSt):Prop:=iN fg fb E ds ρ
theorem eZ(fg:FG)(fb:FS)(E:FEnds)(ds:List D):bC fg fb E ds=iN fg fb E ds:=by funext ρ;unfold bC;rfl
theorem gw(fg:FG)(fb:FS)(E:FEnds)(ρ:FSt):bC fg fb E [] ρ=E.nx ρ:=by rw[eZ];rfl
theorem gz(fg:FG)(fb:FS)(E:FEnds)(d:D)(ds:List D)(ρ:FSt):bC fg fb E (d::ds) ρ=fg d ρ λ ρ1=>fb { nx:=bC fg fb E ds,ct:=bC fg fb E ds,bk:=E.nx,rt:=E.rt } ρ1:=by rw[eZ,eZ];rfl
def pC(fi:FI)(fg:FG)(fb:FS):FS:=λ D ρ=>fi ρ λ ds ρ1=>eY ρ1 (bC fg fb D ds)
theorem lu(h:E.nx ρ):bC fg fb E [] ρ:=by rw[gw];exact h
theorem jG(h:fg d ρ λ ρ1=>fb { nx:=bC fg fb E ds,ct:=bC fg fb E ds,bk:=E.nx,rt:=E.rt } ρ1):bC fg fb E (d::ds) ρ:=by rw[gz];exact h
section
variable {K:Frag}  
theorem Pin.refl{σ:St}(h:σ.length=n):Pin n m σ σ:=⟨h,λ _ _=>rfl⟩
theorem Pin.set{x:Option V}(p:Pin n m σ0 σ)(hi:i∉m):Pin n m σ0 (σ.set i x):=⟨by rw[abh];exact p.1,λ j hj=>by
 rw[abQ λ z=>hi (by rw[z];exact hj)];exact p.2 j hj⟩
theorem rW:SF K n m p7 cN:=⟨fun {F Z H σ0 σ ρ A D fD} R p E h=>E.nx _ _ _ _ _ (Same.refl _) R p h⟩
theorem vW{t u:TS}{f g:FS}(h1:SF K n m t f)(h2:SF K n m u g):SF K n m (xJ t u) (bf f g):=⟨fun {F Z H σ0 σ ρ A D fD} R p E h=>
 h1.h (fD:={ fD with nx:=λ ρ'=>eY ρ' (g fD) }) R p ⟨λ F' H' σ' ρ' A' s R' p' q=>h2.h R' p' (E.mono s) ((bB ρ' (g fD)).mp q),E.rt,E.bk,E.ct⟩ h⟩
theorem yw{c:TT}{t u:TS}{f g:FS}(hc:TF K (List.range n) c fc)(h1:SF K n m t f)(h2:SF K n m u g):SF K n m (xL c t u) (fIf fc f g):=⟨fun {F Z H σ0 σ ρ A D fD} R p E h=>
 hc.h (P:=λ b ρ1=>br b (f fD ρ1) (g fD ρ1)) (View.id p.1) R (by unfold fIf at h;exact h) λ b ρ1 F1 H1 A1 q s R1=>by
  cases b with
  |true=>exact h1.h R1 p (E.mono s) (rK q)
  |false=>exact h2.h R1 p (E.mono s) (rL q)⟩
theorem vX(he:EF K (List.range n) te fe):SF K n m (xK te) (dg fe):=⟨by
 intro F Z H σ0 σ ρ A D fD R p E h;refine he.h (View.id p.1) R h λ r ρ1 v F1 H1 A1 B1 h1 s1 R1 v1 f1=>?_;split at h1
 ·rename_i o ρ2 e;obtain⟨C,A2,R2,o2,f2,_,_⟩:=R1.takeR v1 f1 e;exact E.rt _ _ _ _ _ _ _ _ s1 R2 p o2 f2 h1
 ·exact h1.elim⟩
theorem rX(he:EF K (List.range n) te fe):SF K n m (jZ te) (jF fe):=⟨fun {F Z H σ0 σ ρ A D fD} R p E h=>
 he.h (View.id p.1) R h λ r ρ1 v F1 H1 A1 B1 h1 s1 R1 v1 f1=>E.nx _ _ _ _ _ s1 R1 p h1⟩
theorem e6(n:Nat):∀ j i:Nat,(List.range n)[j]?=some i->i=j:=λ j i h=>by
 obtain⟨h1,h2⟩:=abE.mp h;rw[List.getElem_range] at h2;exact h2.symm
theorem vY(he:EF K (List.range n) te fe)(hg:GF K (List.range n) T g fg)(hT:∀ i∈m,i∉T):SF K n m (qe te g) (dL fe fg):=⟨by
 intro F Z H σ0 σ ρ A D fD R p E h;refine he.h (View.id p.1) R h λ r ρ1 v F1 H1 A1 B1 h1 s1 R1 v1 f1=>?_;split at h1
 ·rename_i d ρ2 e;obtain⟨F2,A2,s2,R2,dn,_,_⟩:=R1.frz v1 f1 e;refine hg.h (View.id p.1) R2 dn h1 fun τ' σ' ρ' A' q _ R' k kl id' _=>?_;rw[id' (e6 n) rfl];exact E.nx _ _ _ _ _ (s1.trans s2) R' ⟨kl.trans p.1,λ i hi=>by rw[k i (hT i hi)];exact p.2 i hi⟩ q
 ·exact h1.elim⟩
theorem rY(he:EF K (List.range n) te fe)(hi:i∉m):SF K n m (qe te (dN i)) (gv i fe):=⟨by
 intro F Z H σ0 σ ρ A D fD R p E h;refine he.h (View.id p.1) R h λ r ρ1 v F1 H1 A1 B1 h1 s1 R1 v1 f1=>?_
 cases r with
 | ov o=>
  obtain⟨A2,R2,_⟩:=R1.assign (i:=i) v1 f1;exact E.nx _ _ _ _ _ s1 R2 (p.set hi) h1
 |br j=>exact h1.elim⟩
theorem vZ{tb:TS}(hi:ITF K (List.range n) wi fi)(hg:GF K (List.range n) T g fg)(hT:∀ i∈m,i∉T)(hb:SF K n m tb fb):SF K n m (uh wi g tb) (pC fi fg fb):=⟨by
 intro F Z H σ0 σ ρ A D fD R p E h;refine hi.h (View.id p.1) R h λ ds ρ1 J F1 H1 A1 h1 s1 R1 wk=>?_;rw[bB] at h1;refine⟨λ i k σ' H'=>k=ds.length - i/\i<=ds.length/\∃ F' ρ' A',Same F1 F'/\Rel K F' Z H' σ' ρ' A'/\Pin n m σ0 σ'/\bC fg fb fD (ds.drop i) ρ',⟨_,rfl,aaI _,F1,ρ1,A1,Same.refl _,R1,p,by rw[aaO];exact h1⟩,?_⟩;rintro i k σ' H' ⟨rfl,hle,F',ρ',A',s',R',p',h'⟩;by_cases hlt:i<ds.length
 ·rw[aar hlt,gz] at h';refine .inr ⟨wk.go H' i (s'.trans R'.fh) hlt,λ σ2 H2=>∃ F2 ρ2 A2,Same F1 F2/\Rel K F2 Z H2 σ2 ρ2 A2/\Pin n m σ0 σ2/\bC fg fb fD (ds.drop (i+1)) ρ2,λ σ2 H2 q=>⟨_,by nofun,rfl,hlt,q⟩,λ x H2 y=>?_⟩;obtain⟨rfl,d,hd,dn⟩:=wk.yld H' i x H2 (s'.trans R'.fh) hlt y;rw[abA hlt] at hd;cases hd;refine hg.h (View.id p'.1) R' (dn.mono s') h' fun τ' σ2 ρ2 A2 q _ R2 k kl id' _=>?_;rw[id' (e6 n) rfl]
  have nxt:∀ F3 H3 σ3 ρ3 A3,Same F' F3->Rel K F3 Z H3 σ3 ρ3 A3->Pin n m σ0 σ3->bC fg fb fD (ds.drop (i+1)) ρ3->∃ F2 ρ2 A2,Same F1 F2/\Rel K F2 Z H3 σ3 ρ2 A2/\Pin n m σ0 σ3/\bC fg fb fD (ds.drop (i+1)) ρ2:=
   λ F3 H3 σ3 ρ3 A3 s3 R3 p3 q3=>⟨F3,ρ3,A3,s'.trans s3,R3,p3,q3⟩
  refine hb.h (fD:={ nx:=bC fg fb fD (ds.drop (i+1)),ct:=bC fg fb fD (ds.drop (i+1)),bk:=fD.nx,rt:=fD.rt }) R2 ⟨kl.trans p'.1,λ i hi=>by rw[k i (hT i hi)];exact p'.2 i hi⟩ ⟨nxt,λ F3 H3 σ3 ρ3 A3 v o B s3=>E.rt F3 H3 σ3 ρ3 A3 v o B (s1.trans (s'.trans s3)),λ F3 H3 σ3 ρ3 A3 s3=>E.nx F3 H3 σ3 ρ3 A3 (s1.trans (s'.trans s3)),nxt⟩ q
 ·have e:i=ds.length:=by nofun
  subst e;rw[aaZ,gw] at h';exact .inl ⟨wk.stop H' (s'.trans R'.fh),E.nx _ _ _ _ _ (s1.trans s') R' p' h'⟩⟩
end
def iO(fg:FG)(ft:FT)(fe:FE)(P:List D->FSt->Prop):List D->List D->FSt->Prop
 |[],as,ρ=>P as ρ
 | d::ds,as,ρ=>fg d ρ λ ρ1=>ft ρ1 λ b ρ2=>br b (fe ρ2 λ r ρ3=>match fzR r ρ3 with
  |some (y,ρ4)=>as.length<sizeLine/\iO fg ft fe P ds (as++[y]) ρ4
  |none=>False) (iO fg ft fe P ds as ρ2)
@[irreducible] def cj(fg:FG)(ft:FT)(fe:FE)(P:List D->FSt->Prop)(ds as:List D)(ρ:FSt):Prop:=iO fg ft fe P ds as ρ
theorem e7(fg:FG)(ft:FT)(fe:FE)(P:List D->FSt->Prop)(ds:List D):cj fg ft fe P ds=iO fg ft fe P ds:=by funext as ρ;unfold cj;rfl
theorem gB(fg:FG)(ft:FT)(fe:FE)(P:List D->FSt->Prop)(as:List D)(ρ:FSt):cj fg ft fe P [] as ρ=P as ρ:=by rw[e7];rfl
theorem gC(fg:FG)(ft:FT)(fe:FE)(P:List D->FSt->Prop)(d:D)(ds as:List D)(ρ:FSt):cj fg ft fe P (d::ds) as ρ=(fg d ρ λ ρ1=>ft ρ1 λ b ρ2=>br b (fe ρ2 λ r ρ3=>match fzR r ρ3 with
  |some (y,ρ4)=>as.length<sizeLine/\cj fg ft fe P ds (as++[y]) ρ4
  |none=>False) (cj fg ft fe P ds as ρ2)):=by rw [e7,e7];rfl
theorem lv{P:List D->FSt->Prop}(h:P as ρ):cj fg ft fe P [] as ρ:=by rw[gB];exact h
theorem jH{P:List D->FSt->Prop}(h:fg d ρ λ ρ1=>ft ρ1 λ b ρ2=>br b (fe ρ2 λ r ρ3=>match fzR r ρ3 with
  |some (y,ρ4)=>as.length<sizeLine/\cj fg ft fe P ds (as++[y]) ρ4
  |none=>False) (cj fg ft fe P ds as ρ2)):cj fg ft fe P (d::ds) as ρ:=by rw [gC];exact h
def v5(no:Nat)(fi:FI)(fg:FG)(ft:FT)(fe:FE):FE:=λ ρ Q=>fi ρ λ ds ρ1=>eY (List.replicate no none++ρ1) (cj fg ft fe (λ as ρ'=>Q (.ov (.fl as)) (ρ'.drop no)) ds [])
def muC(no:Nat)(ixs μ:List Nat):List Nat:=List.range no++ixs.map λ j=>no+μ.getD j 0
section
variable {K:Frag}     
theorem Slots.none_app{K:Frag}{F H:Hp}{σ:St}{ρ:FSt}{A:List Addr}(h:Slots K F H σ ρ A):∀ n,Slots K F H (List.replicate n none++σ) (List.replicate n none++ρ) A
 |0=>h
 |n+1=>.skip (Slots.none_app h n)
theorem Slots.dropN{K:Frag}(n:Nat)(h:Slots K F H σ ρ A):∃ A' B,A=B++A'/\Slots K F H (σ.drop n) (ρ.drop n) A':=by
 induction h generalizing n with
 |nil=>cases n <;> exact⟨[],[],rfl,.nil⟩
 | skip t ih=>
  cases n with
  |zero=>exact ⟨_,[],rfl,.skip t⟩
  |succ n=>exact ih n
 | @has _ _ _ _ C _ h t ih=>
  cases n with
  |zero=>exact ⟨_,[],rfl,.has h t⟩
  | succ n=>
   obtain⟨A',B,rfl,h2⟩:=ih n;exact⟨A',C++B,by rw[aaf],h2⟩
theorem Rel.write{o:HO}(R:Rel K F Z H σ ρ A)(hA:a∉A)(hF:F a=none)(hZ:Z a=none):Rel K F Z (upd H a o) σ ρ A:=by
 have e:∀ b u,b≠a->H b=some u->upd H a o b=some u:=λ b u h q=>by rw[ah h];exact q
 exact⟨R.sl.keep (Same.refl _) λ b u hb q=>e b u (λ z=>hA (z ▸ hb)) q,R.nd,R.fr,λ b u q=>e b u (λ z=>by rw[z,hF] at q;cases q) (R.fh b u q),⟨λ b u q=>e b u (λ z=>by rw[z,hZ] at q;cases q) (R.zh.s b u q),R.zh.n⟩,R.dj⟩
theorem gE{τ:St}(vw:View μ τ σ)(hix:∀ j∈ixs,j<μ.length):View (muC no ixs μ) (List.replicate no none++gm τ ixs) (List.replicate no none++σ):=by
 intro j i h;unfold muC at h;by_cases hj:j<no
 ·rw[abP (by exists hj)] at h;have:=e6 no j i h;subst this;rw[abP (by exists hj),abP (by exists hj)];refine⟨rfl,?_,?_⟩ <;> simp <;> nofun
 ·rw[abJ (by exists hj)] at h;rw[ab5,abK,abi] at h;obtain⟨j0,h1,h2⟩:=h;have hj0:=hix j0 (abT h1);obtain⟨v1,v2,v3⟩:=vw j0 (μ.getD j0 0) (by rw[ab6,abA hj0];rfl);have hk:j - no<ixs.length:=(abE.mp h1).1;refine⟨?_,?_,?_⟩
  ·rw[abJ (by exists hj),aaQ,← h2,abJ (by simp),aaQ,aaW,← v1];unfold gm;rw[List.getElem?_map,h1];show some ((τ[j0]?).getD none)=τ[j0]?;rw[abA v2];rfl
  ·unfold gm;simp;nofun
  ·simp;nofun
abbrev v6(K:Frag)(fg:FG)(fc:FT)(fe:FE)(P:RV->FSt->Prop)(no:Nat)(m:List Nat)(F1 Z:Hp)(σ:St)(a:Addr)(rest:List D)(acc:List V)(τ':St)(H':Hp):Prop:=
 ∃ F' ρ' A' σ' as,Same F1 F'/\Rel K F' Z H' σ' ρ' A'/\View m τ' σ'/\(∀ i,no<=i->σ'[i]?=(List.replicate no none++σ)[i]?)/\H' a=some (.lst acc)/\F' a=none/\a∉A'/\Dens K F' acc as /\
   cj fg fc fe (λ as ρ'=>P (.ov (.fl as)) (ρ'.drop no)) rest as ρ'
theorem rZ{tc:TT}(hi:ITF K μ wi fi)(hix:∀ j∈ixs,j<μ.length)(hg:GF K (muC no ixs μ) T g fg)(hT:∀ i∈T,i<no)
  (hc:TF K (muC no ixs μ) tc fc) (he:EF K (muC no ixs μ) te fe):EF K μ (ik no ixs wi g tc te) (v5 no fi fg fc fe):=⟨by
 intro F Z H τ σ ρ A Q P vw R h q;refine hi.h vw R h λ ds ρ1 J F1 H1 A1 h1 s1 R1 wk=>?_;rw[bB] at h1;intro a ha;have hF1:F1 a=none:=R1.fh.free ha;have hZ1:Z a=none:=R1.zh.free ha
 have hA1:a∉A1:=λ z=>by
  obtain⟨u,hu⟩:=R1.sl.live a z;rw[ha] at hu;cases hu
 have R1':Rel K F1 Z (upd H1 a (.lst [])) (List.replicate no none++σ) (List.replicate no none++ρ1) A1:=by
  have:=R1.write (o:=.lst []) hA1 hF1 hZ1;exact⟨this.sl.none_app no,this.nd,this.fr,this.fh,this.zh,this.dj⟩
 have hfin:∀ F' H' σ' ρ' A' acc as,Same F1 F'->Rel K F' Z H' σ' ρ' A'->(∀ i,no<=i->σ'[i]?=(List.replicate no none++σ)[i]?)->H' a=some (.lst acc)->F' a=none->a∉A'->Dens K F' acc as->P (.ov (.fl as)) (ρ'.drop no)->Q (.ref a) H':=by
  intro F' H' σ' ρ' A' acc as s' R' k ha' hF' hA' dn p;obtain⟨A2,B2,e2,sl2⟩:=R'.sl.dropN no
  have es:σ'.drop no=σ:=by
   apply ab2;intro i;rw[ab1,k (no+i) (by omega),abJ (by simp),aaQ,aaW]
  rw[es] at sl2;have m2:∀ b∈A2,b∈A':=λ b hb=>by rw[e2];exact abx.mpr (.inr hb)
  have R2:Rel K F' Z H' σ (ρ'.drop no) A2:=⟨sl2,by have:=R'.nd;rw[e2,abX] at this;exact this.2.1,λ b hb=>R'.fr b (m2 b hb),R'.fh,R'.zh,R'.dj⟩
  exact q _ _ _ _ _ _ [a] p (s1.trans s') R2 (.fl ha' dn) ⟨by simp,λ b hb=>by
   have:b=a:=(by exists hb);subst this;exact⟨hF',hZ1,λ z=>hA' (m2 _ z)⟩⟩
 refine⟨λ i k acc τ' H'=>k=ds.length - i/\i<=ds.length/\v6 K fg fc fe P no (muC no ixs μ) F1 Z σ a (ds.drop i) acc τ' H',
  ⟨_,rfl,aaI _,F1,_,A1,_,[],Same.refl _,R1',gE vw hix,λ _ _=>rfl,ag,hF1,hA1,.nil,by rw[aaO];exact h1⟩,?_⟩
 rintro i k acc τ' H' ⟨rfl,hle,F',ρ',A',σ',as,s',R',vw',kp,hD,hFD,hAD,dn,h'⟩;by_cases hlt:i<ds.length
 ·rw[aar hlt,gC] at h';refine .inr ⟨wk.go H' i (s'.trans R'.fh) hlt,λ acc τ' H'=>v6 K fg fc fe P no (muC no ixs μ) F1 Z σ a (ds.drop (i+1)) acc τ' H',λ acc' σ2 H2 z=>⟨_,by omega,rfl,hlt,z⟩,λ x H2 y=>?_⟩;obtain⟨rfl,d,hd,dx⟩:=wk.yld H' i x H2 (s'.trans R'.fh) hlt y;rw[abA hlt] at hd;cases hd;refine hg.h vw' R' (dx.mono s') h' fun τ2 σ2 ρ2 A2 p2 vw2 R2 k2 kl2 _ m2=>?_
  have kp2:∀ i,no<=i->σ2[i]?=(List.replicate no none++σ)[i]?:=λ i hi=>by
   rw[k2 i λ z=>by have:=hT i z;omega];exact kp i hi
  have fD:Fresh F' Z A2 [a]:=⟨by simp,λ b hb=>by
   have:b=a:=(by exists hb);subst this;exact⟨hFD,hZ1,λ z=>hAD (m2 _ z)⟩⟩
  obtain⟨Z',sz,R2',zl,back⟩:=R2.hold (B:=[a]) (λ b hb=>by
   have:b=a:=(by exists hb);subst this;exact⟨_,hD⟩) (.one hD (λ _ z=>nomatch z) .nil) fD
  refine hc.h vw2 R2' p2 λ b ρ3 F3 H3 A3 p3 s3 R3=>?_
  cases b with
  | false=>
   replace p3:=rL p3;rw[if_neg abB];obtain⟨R3',f3,k3⟩:=back _ _ _ _ s3 R3;have fa:=f3.fr a (by simp);exact⟨F3,ρ3,A3,σ2,as,s'.trans s3,R3',vw2,kp2,k3 a _ (by simp) hD,fa.1,fa.2.2,dn.mono s3,p3⟩
  | true=>
   replace p3:=rK p3;rw[if_pos rfl];refine he.h vw2 R3 p3 λ r ρ4 v F4 H4 A4 B4 p4 s4 R4 v4 f4=>?_;split at p4
   ·rename_i y ρ5 e5;obtain⟨F5,A5,s5,R5,dy,_,_⟩:=R4.frz v4 f4 e5;obtain⟨R5',f5,k5⟩:=back _ _ _ _ ((s3.trans s4).trans s5) R5;have fa:=f5.fr a (by simp);refine⟨k5 a _ (by simp) hD,by rw[dn.length];exact p4.1,F5,ρ5,A5,σ2,as++[y],((s'.trans s3).trans s4).trans s5,R5'.write fa.2.2 fa.1 hZ1,vw2,kp2,ag,fa.1,fa.2.2,(dn.mono ((s3.trans s4).trans s5)).snoc dy,p4.2⟩
   ·exact p4.elim
 ·have e:i=ds.length:=by omega
  subst e;rw[aaZ,gB] at h';exact .inl ⟨wk.stop H' (s'.trans R'.fh),hfin _ _ _ _ _ _ _ s' R' kp hD hFD hAD dn h'⟩⟩
def unL(ρ:FSt)(i:Nat):Option (List D):=match ρ[i]? with
 |some (some (.fl ds))=>some ds
 |_=>none
def unD(ρ:FSt)(i:Nat):Option (List Key×List D):=match ρ[i]? with
 |some (some (.fd ks ds))=>some (ks,ds)
 |_=>none
theorem v7(h:unL ρ i=some ds):ρ[i]?=some (some (.fl ds)):=by
 unfold unL at h;split at h
 ·rename_i os e;cases h;exact e
 ·cases h
theorem v8(h:unD ρ i=some (ks,ds)):ρ[i]?=some (some (.fd ks ds)):=by
 unfold unD at h;split at h
 ·rename_i ks' os e;cases h;exact e
 ·cases h
theorem Rel.mutL(R:Rel K F Z H σ ρ A)(h:unL ρ i=some ds):∃ a xs,σ[i]?=some (some (.ref a))/\H a=some (.lst xs)/\Dens K F xs ds /\
  ∀ xs' ds',Dens K F xs' ds'->∃ A',Rel K F Z (upd H a (.lst xs')) σ (ρ.set i (some (.fl ds'))) A':=by
 have e:=v7 h;obtain⟨v,B,A',h1,h2,R',f',pm⟩:=R.takeI e
 cases h2 with
 | @fl a xs os hl dn=>
  have fa:=f'.fr a (by simp);refine⟨a,xs,h1,hl,dn,λ xs' ds' dn'=>?_⟩;have R2:=R'.write (o:=.lst xs') fa.2.2 fa.1 fa.2.1;obtain⟨A3,R3,_⟩:=R2.putI (ci e) h1 (.fl ag dn') f';rw[abe] at R3;exact⟨A3,R3⟩
theorem Rel.mutD(R:Rel K F Z H σ ρ A)(h:unD ρ i=some (ks,ds)):∃ a ys,σ[i]?=some (some (.ref a))/\H a=some (.dK ys)/\ys.map (·.1)=ks/\Dens K F (ys.map (·.2)) ds /\
  ∀ ys' ks' ds',ys'.map (·.1)=ks'->Dens K F (ys'.map (·.2)) ds'->∃ A',Rel K F Z (upd H a (.dK ys')) σ (ρ.set i (some (.fd ks' ds'))) A':=by
 have e:=v8 h;obtain⟨v,B,A',h1,h2,R',f',pm⟩:=R.takeI e
 cases h2 with
 | @fd a ys ks os hl hk dn=>
  have fa:=f'.fr a (by simp);refine⟨a,ys,h1,hl,hk,dn,λ ys' ks' ds' hk' dn'=>?_⟩;have R2:=R'.write (o:=.dK ys') fa.2.2 fa.1 fa.2.1;obtain⟨A3,R3,_⟩:=R2.putI (ci e) h1 (.fd ag hk' dn') f';rw[abe] at R3;exact⟨A3,R3⟩
def xx(i:Nat)(fe:FE):FE:=λ ρ Q=>(unL ρ i).isSome=true/\fe ρ λ r ρ1=>match fzR r ρ1 with
 | some (d,ρ2)=>(match unL ρ2 i with
  |some ds=>ds.length<sizeLine/\Q (.ov (.fz .non)) (ρ2.set i (some (.fl (ds++[d]))))
  |none=>False)
 |none=>False
theorem v9(hj:μ[j]?=some i)(he:EF K μ te fe):EF K μ (tBM K "list" cu (cV j) (bp te fP)) (xx i fe):=⟨by
 intro F Z H τ σ ρ A Q P vw R h q;obtain⟨h0,h⟩:=h;obtain⟨ds0,e0⟩:=abZ.mp h0;obtain⟨a,xs,h1,h2,h3,_⟩:=R.mutL e0;refine⟨.ref a,(vw j i hj).1.trans h1,.inl ⟨rfl,xs,SqL.of h2⟩,?_⟩;refine he.h vw R h λ r ρ1 v F1 H1 A1 B1 p1 s1 R1 v1 f1=>?_;split at p1
 ·rename_i d ρ2 e2;obtain⟨F2,A2,s2,R2,dy,_,_⟩:=R1.frz v1 f1 e2;split at p1
  ·rename_i ds e3;obtain⟨a',xs',h1',h2',h3',mt⟩:=R2.mutL e3;rw[h1] at h1';cases h1';obtain⟨A3,R3⟩:=mt (xs'++[v]) (ds++[d]) (h3'.snoc dy);exact⟨a,xs',v,rfl,rfl,h2',by rw[h3'.length];exact p1.1,q _ _ _ _ _ _ _ p1.2 (s1.trans s2) R3 (.fz .non) Fresh.nil⟩
  ·exact p1.elim
 ·exact p1.elim⟩
def lw(i:Nat)(fe fk:FE):FS:=λ E ρ=>fe ρ λ r ρ1=>match fzR r ρ1 with
 | some (d,ρ2)=>(unL ρ2 i).isSome=true/\fk ρ2 λ s ρ3=>on1 ρ3 s λ dk=>(match dk,unL ρ3 i with
  | .int k,some ds=>(match ixN ds.length k with
   |some x=>E.nx (ρ3.set i (some (.fl (ds.set x d))))
   |none=>False)
  |_,_=>False)
 |none=>False
def iP:D->Option Key
 |.int i=>some (.inl i)
 |.str z=>some (.inr z)
 |_=>none
def r6(ks:List Key)(ds:List D)(k:Key)(d:D):List Key×List D:=
 if (ks.any λ x=>decide (x=k))=true then (ks,(ks.zip ds).map λ kd=>if kd.1=k then d else kd.2) else (ks++[k],ds++[d])
def wa(i:Nat)(fe fk:FE):FS:=λ E ρ=>fe ρ λ r ρ1=>match fzR r ρ1 with
 | some (d,ρ2)=>(unD ρ2 i).isSome=true/\fk ρ2 λ s ρ3=>on1 ρ3 s λ dk=>(match iP dk,unD ρ3 i with
  |some k,some (ks,ds)=>ks.length<sizeLine/\E.nx (ρ3.set i (some (.fd (r6 ks ds k d).1 (r6 ks ds k d).2)))
  |_,_=>False)
 |none=>False
theorem dh{k:Key}(h:Acc K F H v d)(e:iP d=some k):v=kV k:=by
 cases d with
 |int i=>simp only[iP,Option.some.injEq] at e;subst e;exact h.int_eq
 |str z=>simp only[iP,Option.some.injEq] at e;subst e;exact h.str_eq
 |_=>simp[iP] at e
theorem nS{k:Key}(hk:ys.map (·.1)=ks)(dn:Dens K F (ys.map (·.2)) ds)(dv:Den K F v d):(fK ys k v).map (·.1)=(r6 ks ds k d).1/\Dens K F ((fK ys k v).map (·.2)) (r6 ks ds k d).2:=by
 have hl:ys.length=ds.length:=by have:=dn.length;simpa using this
 unfold r6 fK;have hq:(ks.any λ x=>decide (x=k))=(ys.any λ kv=>decide (kv.1=k)):=by rw[← hk,List.any_map];rfl
 by_cases hm:(ks.any λ x=>decide (x=k))=true
 ·have hany:(ys.any λ kv=>decide (kv.1=k))=true:=hq ▸ hm;rw[if_pos hany,if_pos hm];constructor
  ·rw[aao,← hk];refine aaE λ kv _=>?_;show (if kv.1=k then (kv.1,v) else kv).1=kv.1;split <;> rfl
  ·subst hk;clear hm hany hl hq
   induction ys generalizing ds with
   |nil=>cases dn;exact .nil
   | cons y ys ih=>
    cases dn with
    | cons d1 d2=>
     refine .cons ?_ (ih d2);show Den K F (if y.1=k then (y.1,v) else y).2 (if y.1=k then d else _);split
     ·exact dv
     ·exact d1
 ·have hany:¬ (ys.any λ kv=>decide (kv.1=k))=true:=hq ▸ hm;rw[if_neg hany,if_neg hm];refine⟨by rw[aam,hk];rfl,?_⟩;rw[aam];exact dn.snoc dv
theorem nT{ti:TE}(hin:i<n)(he:EF K (List.range n) te fe)(hk:EF K (List.range n) ti fk):SF K n m (qe te (xP (cV i) ti qw)) (lw i fe fk):=⟨by
 intro F Z H σ0 σ ρ A D fD R p E h;refine he.h (View.id p.1) R h λ r ρ1 v F1 H1 A1 B1 p1 s1 R1 v1 f1=>?_;split at p1
 ·rename_i d ρ2 e2;obtain⟨F2,A2,s2,R2,dy,_,_⟩:=R1.frz v1 f1 e2;obtain⟨h0,p1⟩:=p1;obtain⟨ds0,e0⟩:=abZ.mp h0;obtain⟨a,xs,h1,h2,h3,_⟩:=R2.mutL e0;refine⟨.ref a,h1,?_⟩;refine hk.h (View.id p.1) R2 p1 λ s ρ3 w F3 H3 A3 B3 p3 s3 R3 v3 f3=>?_;obtain⟨dk,ek,p4⟩:=bq p3;split at p4
  ·rename_i k ds e3;split at p4
   ·rename_i x ex;obtain⟨a',xs',h1',h2',h3',mt⟩:=R3.mutL e3;rw[h1] at h1';cases h1';obtain⟨A4,R4⟩:=mt (xs'.set x v) (ds.set x d) (h3'.set (dy.mono s3) x);exact⟨a,xs',k,x,rfl,(R3.acc v3 ek).int_eq,h2',by rw[h3'.length];exact ex,E.nx _ _ _ _ _ ((s1.trans s2).trans s3) R4 p p4⟩
   ·exact p4.elim
  ·exact p4.elim
 ·exact p1.elim⟩
theorem r8(he:EF K (List.range n) tv fe)(hk:EF K (List.range n) ty fk):SF K n m (qz (cV i) ty tv) (wa i fe fk):=⟨by
 intro F Z H σ0 σ ρ A D fD R p E h;refine he.h (View.id p.1) R h λ r ρ1 v F1 H1 A1 B1 p1 s1 R1 v1 f1=>?_;generalize e2:fzR r ρ1=o at p1;obtain _|⟨d,ρ2⟩:=o
 ·exact False.elim p1
 ·obtain⟨F2,A2,s2,R2,dy,_,_⟩:=R1.frz v1 f1 e2;obtain⟨h0,p1⟩:=p1;obtain⟨⟨ks0,ds0⟩,e0⟩:=abZ.mp h0;obtain⟨a,xs,h1,h2,h3,_⟩:=R2.mutD e0;refine⟨.ref a,h1,?_⟩;refine hk.h (View.id p.1) R2 p1 λ s ρ3 w F3 H3 A3 B3 p3 s3 R3 v3 f3=>?_;obtain⟨dk,ek,p4⟩:=bq p3;generalize e4:iP dk=o at p4;generalize e3:unD ρ3 i=o' at p4;obtain _|k:=o
  ·exact False.elim p4
  obtain _|⟨ks,ds⟩:=o'
  ·exact False.elim p4
  ·obtain⟨a',ys,h1',h2',hk',h3',mt⟩:=R3.mutD e3;rw[h1] at h1';cases h1';obtain⟨q1,q2⟩:=nS (k:=k) hk' h3' (dy.mono s3);obtain⟨A4,R4⟩:=mt (fK ys k v) _ _ q1 q2;have hl:ys.length=ks.length:=by rw[← hk',abw]
   exact⟨a,_,rfl,.inl ⟨ys,k,h2',dh (R3.acc v3 ek) e4,by rw[hl];exact p4.1,rfl⟩,E.nx _ _ _ _ _ ((s1.trans s2).trans s3) R4 p p4.2⟩⟩
end
def outs(m:List Nat):Nat->List OV->FSt->Option (List OV)
 |_,[],_=>some []
 | i,o::os,ρ=>if m.contains i=true then (match ρ[i]? with
   |some (some o')=>(outs m (i+1) os (ρ.set i none)).map (o'::·)
   |_=>none) else (outs m (i+1) os ρ).map (o::·)
def mN:OV->Bool
 |.fz _=>true
 |_=>false
def fin(m:List Nat)(os:List OV)(P:OV->List OV->Prop)(o:OV)(ρ:FSt):Prop:=match outs m 0 os ρ with
 |some os'=>P o os'
 |none=>False
def aL(n:Nat)(os:List OV):FSt:=os.map some++List.replicate (n - os.length) none
section
variable {K:Frag}
theorem Ows.length{F H:Hp}{vs:List V}{os:List OV}{A:List Addr}(h:Ows K F H vs os A):vs.length=os.length:=by
 induction h with
 |nil=>rfl
 |cons _ t ih=>exact congrArg (·+1) ih
theorem Slots.nones(k:Nat):Slots K F H (List.replicate k none) (List.replicate k none) []:=by
 induction k with
 |zero=>exact .nil
 |succ k ih=>exact .skip ih
theorem Slots.of_ows(k:Nat){os:List OV}(h:Ows K F H vs os A):Slots K F H (vs.map some++List.replicate k none) (os.map some++List.replicate k none) A:=by
 induction h with
 |nil=>exact Slots.nones k
 |cons h t ih=>exact .has h ih
theorem Rel.outs :∀ {vs:List V} {os:List OV} {C:List Addr} {i:Nat} {ρ:FSt} {A:List Addr} {os':List OV},Ows K F H vs os C->Same F F'->(∀ j o,os[j]?=some o->i+j∉m->mN o=true) ->
  (∀ j v,vs[j]?=some v->i+j∈m->σ[i+j]?=some (some v))->Rel K F' Z H' σ ρ A->L2.outs m i os ρ=some os'->∃ C' A':List Addr,Ows K F' H' vs os' C'/\Rel K F' Z H' σ ρ A/\C'.Nodup/\(∀ a,a∈C'->a∈A/\a∉A')/\(∀ a,a∈A'->a∈A):=by
 intro vs
 induction vs with
 | nil=>
  intro os C i ρ A os' h s hz hp R e;cases h;simp only[L2.outs,Option.some.injEq] at e;subst e;exact⟨[],A,.nil,R,aaU,λ _ z=>(nomatch z),λ _ z=>z⟩
 | cons v vs ih=>
  intro os C i ρ A os' h s hz hp R e
  cases h with
  | @cons _ o _ os C1 C2 h t=>
   simp only[L2.outs] at e;have hz':∀ j o,os[j]?=some o->i+1+j∉m->mN o=true:=λ j o q n=>hz (j+1) o (by exists q) (by rw[show i+(j+1)=i+1+j by nofun];exact n)
   have hp':∀ j v,vs[j]?=some v->i+1+j∈m->σ[i+1+j]?=some (some v):=λ j v q n=>by
    have:=hp (j+1) v (by exists q) (by rw[show i+(j+1)=i+1+j by nofun];exact n);rw[show i+1+j=i+(j+1) by nofun];exact this
   split at e
   ·rename_i hm;have hm:i∈m:=(by exists hm);split at e
    ·rename_i o' ho;rw[abi] at e;obtain⟨os2,e2,rfl⟩:=e;obtain⟨v',B',A',h1,h2,R',f',pm⟩:=R.takeI ho;have hv:=hp 0 v rfl (by exists hm);rw[abd] at hv;have:v'=v:=by rw[hv] at h1;simpa using h1.symm
     subst this;obtain⟨C',A2,w1,_,n1,m1,m2⟩:=ih t s hz' hp' R' e2;refine⟨B'++C',A2,.cons h2 w1,R,abX.mpr ⟨f'.nd,n1,λ a ha b hb z=>(f'.fr a ha).2.2 (by rw[z];exact(m1 b hb).1)⟩,λ a ha=>?_,λ a ha=>pm.mem_iff.mpr (abx.mpr (.inr (m2 a ha)))⟩;rcases abx.mp ha with z|z
     ·exact⟨pm.mem_iff.mpr (abx.mpr (.inl z)),λ y=>(f'.fr a z).2.2 (m2 a y)⟩
     ·exact⟨pm.mem_iff.mpr (abx.mpr (.inr (m1 a z).1)),(m1 a z).2⟩
    ·cases e
   ·rename_i hm;rw[abi] at e;obtain⟨os2,e2,rfl⟩:=e;have hm:i∉m:=(by exists hm);have hf:=hz 0 o rfl (by exists hm);obtain⟨C',A2,w1,_,n1,m1,m2⟩:=ih t s hz' hp' R e2
    cases h with
    |fz dn=>exact⟨C',A2,.cons (.fz (dn.mono s)) w1,R,n1,m1,m2⟩
    |_=>simp[mN] at hf
theorem Fun.okF{P:Program}{mg:Str->Option Value}{base:Heap}{x qual:Str}{st:Stmt}{f:Addr}{fd:FuncData}{N ps:List Str}{k:Nat}{fs:FS}(F:Fun K x qual st f fd)(S:FnScope N ps (ae st))
  (hN:ps.length<=N.length) (hlen:∀ os P,c os P->os.length=ps.length/\∀ j o,os[j]?=some o->j∉m->mN o=true) (hm:∀ i∈m,i<ps.length)
  (hbody:∀ (cdv:Value) (A:Around) (outer:List Env) (s:Shared) (H:Hp) (E:XK),Room k (A.deeper (envOfC qual (ae st) s.heap.objs.size f cdv)) ->
   ∃ t,BSs (fU CX0 P w K mg base N qual (ae st) f cdv A outer s H E).nox (aK st) t/\SF K N.length m t fs)
  (hc:∀ os P,c os P->fs { nx:=fin m os P (.fz .non),rt:=fin m os P } (aL N.length os)):FnOk P w K mg base CX0 (k+1) f fd ps (spM K c):=by
 refine F.okB S (λ vs H Q E h=>?_) (λ cdv A outer s H vs Q E hr h=>?_)
 ·obtain⟨F1,Z,os,C,Pq,_,_,_,ho,_,_,hcc,_⟩:=h;rw[ho.length];exact(hlen os Pq hcc).1
 ·obtain⟨F1,Z,os,C,Pq,sf,sz,dj,ho,nd,fr,hcc,q⟩:=h;obtain⟨t,ht,hs⟩:=hbody cdv A outer s H E hr;refine⟨t,ht,?_⟩;have hl:=(hlen os Pq hcc).1;have hvl:=ho.length
  have R:Rel K F1 Z H (bg N vs) (aL N.length os) C:=by
   refine⟨?_,nd,fr,sf,sz,dj⟩;unfold bg aL;rw[hvl];exact Slots.of_ows _ ho
  have hn:(bg N vs).length=N.length:=by unfold bg;simp;nofun
  have fin_ok:∀ F' H' σ' ρ' A' v o B,Same F1 F'->Rel K F' Z H' σ' ρ' A'->Pin N.length m (bg N vs) σ'->Ow K F' H' v o B->Fresh F' Z A' B->fin m os Pq o ρ'->Q v H':=by
   intro F' H' σ' ρ' A' v o B s' R' p' ow f' h';unfold fin at h';split at h'
   ·rename_i os' e
    obtain⟨C',A2,w1,_,n1,m1,m2⟩:=Rel.outs (i:=0) ho s' (λ j o q n=>(hlen os Pq hcc).2 j o q (by exists n)) (λ j v q n=>by
     have hj:j<vs.length:=(abE.mp q).1;rw[ab9] at n ⊢;rw[p'.2 j n];unfold bg;rw[abP (by exists hj),abK,q];rfl) R' e
    refine q o os' v F' H' C' B h' s' R'.fh R'.zh.s R'.dj w1 ow (abX.mpr ⟨n1,f'.nd,λ a ha b hb z=>(f'.fr b hb).2.2 (by rw[← z];exact(m1 a ha).1)⟩) λ a ha=>?_;rcases abx.mp ha with z|z
    ·exact R'.fr a (m1 a z).1
    ·exact⟨(f'.fr a z).1,(f'.fr a z).2.1⟩
   ·exact h'.elim
  exact hs.h (fD:={ nx:=fin m os Pq (.fz .non),rt:=fin m os Pq }) R (Pin.refl hn) ⟨λ F' H' σ' ρ' A' s' R' p' h'=>fin_ok F' H' σ' ρ' A' .non (.fz .non) [] s' R' p' (.fz .non) Fresh.nil h',
   fin_ok,λ _ _ _ _ _ _ _ _ z=>z.elim,λ _ _ _ _ _ _ _ _ z=>z.elim⟩ (hc os Pq hcc)
end
def zp:R2:=λ x y H Q=>∃ a v,x=.ref a/\DGet H a y (some v)/\Q v H
theorem r9(hu:X.A.units+1<cLine):IxR X zp:=by
 intro value slice pins s σ H x y v u Q I rx ry h hs;obtain⟨a,z,rfl,g,q⟩:=h;cases rx;exact tail_any (ij I g) PySem.F.slot_dict_getitem.lookup (ko hu I g ry λ w' s3 I3 rw'=>⟨z,H,I3,rw',q⟩) hs
def xy(K:Frag):R2:=λ x y H Q=>rIx K x y H Q∨zp x y H Q
def rInD:R2:=λ x y H Q=>∃ a o,y=.ref a/\DGet H a x o/\Q (.bl o.isSome) H
def lx:R2:=λ x y H Q=>∃ a o,y=.ref a/\DGet H a x o/\Q (.bl (!o.isSome)) H
theorem ly(hu:X.A.units+1<cLine):OpR X (compareOp .NotIn) lx:=by
 intro pins s σ H x y v u Q I rx ry h;obtain⟨a,o,rfl,g,q⟩:=h;cases ry;exact qy hu I g rx λ s3 I3=>⟨.bl (!o.isSome),H,I3,rfl,q⟩
def rInB(K:Frag):R2:=λ x y H Q=>rInA K x y H Q∨rInD x y H Q
def lz(K:Frag):R2:=λ x y H Q=>kJ K x y H Q∨lx x y H Q
theorem jI(K:Frag)(hu:X.A.units+64<cLine)(h:X.K=K):BOp X (compareOp .NotIn) (lz K):=by subst h;exact⟨OpR.or kK (ly (by nofun))⟩
theorem wb{a b:Expr}(K:Frag)(hu:X.A.units+64<cLine)(ha:BE X a ta)(hb:BE X b tb)(hs:∀ o i,subscripted b false o i=operate [o,i] (getItem o i))(hK:X.K=K):BE X (.Subscript a b pos) (tOp (xy K) ta tb):=by
 subst hK;exact⟨uG (IxR.or o8 (r9 (by nofun))) ha.h hb.h hs⟩
def yx(pI:Int->Int->Bool)(pS:Str->Str->Bool):R2:=λ x y H Q=>(∃ i j,x=.int i/\y=.int j/\Q (.bl (pI i j)) H)∨∃ i j,x=.str i/\y=.str j/\Q (.bl (pS i j)) H
def e8(x y:Str):Bool:=decide (x.cps.toList<y.cps.toList)
theorem wc:OpR X (compareOp .Lt) (λ x y H Q=>∃ i j,x=.str i/\y=.str j/\Q (.bl (e8 i j)) H):=by
 intro pins s σ H x y v u Q I rx ry h;obtain⟨i,j,rfl,rfl,q⟩:=h;obtain⟨t,rfl⟩:=rx;obtain⟨t',rfl⟩:=ry;exact PyProof.Rows.lt_str ⟨.bl _,H,I,rfl,q⟩
theorem we:OpR X (compareOp .Gt) (λ x y H Q=>∃ i j,x=.str i/\y=.str j/\Q (.bl (e8 j i)) H):=by
 intro pins s σ H x y v u Q I rx ry h;obtain⟨i,j,rfl,rfl,q⟩:=h;obtain⟨t,rfl⟩:=rx;obtain⟨t',rfl⟩:=ry;exact PySem.P.gt_str ⟨.bl _,H,I,rfl,q⟩
theorem sd:BOp X (compareOp .Lt) (yx (λ i j=>decide (i<j)) e8):=⟨OpR.or xU wc⟩
theorem se:BOp X (compareOp .Gt) (yx (λ i j=>decide (j<i)) λ i j=>e8 j i):=⟨OpR.or xV we⟩
def tyD:D->String
 |.non => "NoneType"
 |.bl _ => "bool"
 |.int _ => "int"
 |.str _ => "str"
 |.lst _ => "list"
 |.tup _ => "tuple"
 |.dct _ _ => "dict"
 |.ty _ => "type"
 |.opq _ _ => "dict"
 |.gt _ => "tuple"
 |.dt _ _ => "dict"
def pD(T:String):Bool:=T == "str" || T == "int" || T == "bool" || T == "list" || T == "tuple" || T == "dict" || T == "NoneType"
theorem lA{T:String}(h:pD T=true):okT T:=by
 simp only[pD,Bool.or_eq_true,beq_iff_eq] at h;unfold okT;rcases h with (((((h|h)|h)|h)|h)|h)|h <;> simp[h]
def yy(K:Frag):List V->Hp->VK->Prop:=λ xs H Q=>∃ x d T,xs=[x,.ty T]/\Den K H x d/\pD (tyD d)=true/\pD T=true/\Q (.bl (isT (tyD d) T)) H
theorem nU:CallR X (.builtin "isinstance") (yy X.K):=by
 intro pins s σ H xs us Q I r h;obtain⟨x,d,T,rfl,dn,o1,o2,q⟩:=h;obtain⟨u,u',rfl,ru,ru'⟩:=ql r;cases (show u'=Value.type T from ru');have e:=uQ (K:=X.K) (lA o1) (lA o2);have fin:∀ tk,EP X pins σ Q (.bool (isT (tyD d) T)) { s with toks:=tk }:=λ tk=>⟨.bl _,H,I.tok tk,rfl,q⟩
 cases dn with
 |non=>exact cb I ru .non e fin
 |bl b=>exact cb I ru (.bl b) e fin
 |int i=>exact cb I ru (.int i) e fin
 |str z=>exact cb I ru (.str z) e fin
 |ty T'=>simp[tyD,pD] at o1
 | @lst a ys ds hs t=>
  cases (show u=Value.ref a from ru);obtain⟨its,_,⟨o,n,h1,h2,_⟩,_⟩:=I.list hs;exact aas PySem.W.kitx_list I.kIn ⟨_,h1,h2⟩ e (λ z=>nomatch z) fin
 | @tup a ys ds hs t=>
  cases (show u=Value.ref a from ru);obtain⟨its,_,⟨o,h1,h2,_⟩,_⟩:=I.tuple (SqT.of hs);exact aas PySem.W.kitx_tuple I.kIn ⟨o,h1,h2⟩ e (λ z=>nomatch z) fin
 | @gt a ys ds hs t=>
  cases (show u=Value.ref a from ru);obtain⟨its,_,⟨o,h1,h2,_⟩,_⟩:=I.tuple hs;exact aas PySem.W.kitx_tuple I.kIn ⟨o,h1,h2⟩ e (λ z=>nomatch z) fin
 | @dt a ys ks ds hs hk t=>
  cases (show u=Value.ref a from ru);obtain⟨_,_,xs,_,o,es,ep,h1,h2,_⟩:=(show ObjOk X.prog X.w H s.heap a (.dT ys) from hs.ok I.hok);exact aas abj I.kIn ⟨o,h1,h2.1⟩ e (λ z=>nomatch z) fin
 | @dct a ys ks ds hs hk t=>
  cases (show u=Value.ref a from ru);obtain⟨_,_,vs,_,p⟩:=(show ObjOk X.prog X.w H s.heap a (.dK ys) from hs.ok I.hok);obtain⟨o,es,ep,h1,h2,_⟩:=p;exact aas abj I.kIn ⟨o,h1,h2.1⟩ e (λ z=>nomatch z) fin
 | @opq a ys n hs hn hpl=>
  cases (show u=Value.ref a from ru);obtain⟨_,_,vs,_,p⟩:=(show ObjOk X.prog X.w H s.heap a (.dK ys) from hs.ok I.hok);obtain⟨o,es,ep,h1,h2,_⟩:=p;exact aas abj I.kIn ⟨o,h1,h2.1⟩ e (λ z=>nomatch z) fin
theorem wf(K:Frag)(h:X.K=K):BCall X (.builtin "isinstance") (yy K):=by subst h;exact⟨nU⟩
def wg(K:Frag):R2:=λ x y H Q=>∃ l b xs zs,x=.ref l/\y=.ref b/\SqL K H l xs/\SqL K H b zs/\xs.length+zs.length<=sizeLine/\∀ p,H p=none->Q (.ref p) (upd H p (.lst (xs++zs)))
theorem sg:OpR X (binaryOp .Add) (wg X.K):=by
 intro pins s σ H x y v u Q I rx ry h;obtain⟨l,b,xs,zs,rfl,rfl,hH,hB,hz,q⟩:=h;cases rx;cases ry;obtain⟨its,r,⟨⟨cls,dd,data,sl⟩,n,ho,hc,hdd,hd⟩,_⟩:=I.list hH;obtain⟨its2,r2,⟨⟨cls2,dd2,data2,sl2⟩,n2,ho2,hc2,hdd2,hd2⟩,_⟩:=I.list hB;dsimp only at hc hd hc2 hd2 hdd hdd2;subst hc hd hc2 hd2 hdd hdd2;have hl:=r.length;have hl2:=r2.length;refine concat_meets ⟨_,ho,rfl⟩ ⟨_,ho2,rfl⟩ noFill_list_add seq_list_add PySem.F.slot_list_add PySem.F.entry_list_add (PySem.F.args_list_add_2 _ _) (list_addW l b its.toArray its2.toArray n n2 none none sl sl2 (by simp;nofun)) ⟨ho,ho2,?_⟩;have ea:its.toArray++its2.toArray=(its++its2).toArray:=by simp
 rw[ea];exact⟨.ref _,_,I.lnew (t':=s.toks) (r.append r2) (by rw[aan];nofun),rfl,q _ I.fresh⟩
def wj(K:Frag):R2:=λ x y H Q=>(∃ i j,x=.int i/\y=.int j/\Q (.int (i+j)) H)∨(∃ i j,x=.str i/\y=.str j/\i.length+j.length<=sizeLine/\Q (.str (i++j)) H)∨wg K x y H Q∨uF K x y H Q
theorem nV(K:Frag)(h:X.K=K):BOp X (binaryOp .Add) (wj K):=by subst h;exact⟨ul.or (jn.or (sg.or qt))⟩
section
variable {K:Frag} 
theorem ar(e:Same F H)(n:rJ K F H P Q)(h:Den K F v d)(p:P (.fz d)):Q v H:=n _ v F H [] p (Pure.refl e) (.fz h) New.nil
theorem bh(e:Same F H)(n:rJ K F H P Q)(h:Dens K F xs ds)(p:P (.fl ds)):∀ q,H q=none->Q (.ref q) (upd H q (.lst xs)):=λ q hq=>
 n _ (.ref q) F _ [q] p (Pure.new e hq) (.fl ag h) (New.one hq (e.free hq))
theorem iQ(e:Same F H)(n:rJ K F H P Q)(h:Dens K F xs ds)(p:P (.fz (.tup ds))):∀ q,H q=none->Q (.ref q) (upd H q (.tup xs)):=λ q hq=>
 n _ (.ref q) (upd F q (.tup xs)) _ [] p (Pure.frz e hq) (.fz (.tup ag (h.mono (aM (e.free hq))))) New.nil
def aI0(g:Int->Int->D):D->D->(OV->Prop)->Prop
 |.int i,.int j,P=>P (.fz (g i j))
 |_,_,_=>False
def aIC(C:Int->Int->Prop)(g:Int->Int->D):D->D->(OV->Prop)->Prop
 |.int i,.int j,P=>C i j/\P (.fz (g i j))
 |_,_,_=>False
theorem wl(h:∀ F i j,Den K F (gV i j) (gD i j)):OpF K (rI0 gV) (aI0 gD):=⟨by
 intro F H x y d e Q P s hx hy f n
 cases d with
 | int i=>
  cases e with
  | int j=>
   exact⟨_,_,hx.int_eq,hy.int_eq,ar s n (h F _ _) f⟩
  |_=>exact False.elim f
 |_=>exact False.elim f⟩
theorem di{C:Int->Int->Prop}(h:∀ F i j,Den K F (gV i j) (gD i j)):OpF K (rI C gV) (aIC C gD):=⟨by
 intro F H x y d e Q P s hx hy f n
 cases d with
 | int i=>
  cases e with
  | int j=>
   exact⟨_,_,hx.int_eq,hy.int_eq,f.1,ar s n (h F _ _) f.2⟩
  |_=>exact False.elim f
 |_=>exact False.elim f⟩
theorem sh:OpF K (rI0 λ i j=>.int (i - j)) (aI0 λ i j=>.int (i - j)):=wl λ _ _ _=>.int _
theorem si:OpF K (rI CMul λ i j=>.int (i*j)) (aIC CMul λ i j=>.int (i*j)):=di λ _ _ _=>.int _
theorem nW:OpF K (rI qh λ i j=>.int (i / j)) (aIC qh λ i j=>.int (i / j)):=di λ _ _ _=>.int _
theorem sj:OpF K (rI (λ _ j=>0<j) λ i j=>.int (i % j)) (aIC (λ _ j=>0<j) λ i j=>.int (i % j)):=di λ _ _ _=>.int _
theorem sk:OpF K (rI mM λ i j=>.int (i ^ j.toNat)) (aIC mM λ i j=>.int (i ^ j.toNat)):=di λ _ _ _=>.int _
theorem nX:OpF K (rI kA λ i j=>.int (i ^ j.toNat)) (aIC kA λ i j=>.int (i ^ j.toNat)):=di λ _ _ _=>.int _
def yz(pI:Int->Int->Bool)(pS:Str->Str->Bool):D->D->(OV->Prop)->Prop
 |.int i,.int j,P=>P (.fz (.bl (pI i j)))
 |.str i,.str j,P=>P (.fz (.bl (pS i j)))
 |_,_,_=>False
theorem sn{pI:Int->Int->Bool}{pS:Str->Str->Bool}:OpF K (yx pI pS) (yz pI pS):=⟨by
 intro F H x y d e Q P s hx hy f n
 cases d with
 | int i=>
  cases e with
  | int j=>
   exact .inl ⟨_,_,hx.int_eq,hy.int_eq,ar s n (.bl _) f⟩
  |_=>exact False.elim f
 | str i=>
  cases e with
  | str j=>
   exact .inr ⟨_,_,hx.str_eq,hy.str_eq,ar s n (.bl _) f⟩
  |_=>exact False.elim f
 |_=>exact False.elim f⟩
def dm:D->D->(OV->Prop)->Prop
 |.int i,.int j,P=>P (.fz (.int (i+j)))
 |.str i,.str j,P=>i.length+j.length<=sizeLine/\P (.fz (.str (i++j)))
 |.lst xs,.lst ys,P=>xs.length+ys.length<=sizeLine/\P (.fl (xs++ys))
 |.tup xs,.tup ys,P=>xs≠[]/\xs.length+ys.length<=sizeLine/\P (.fz (.tup (xs++ys)))
 |_,_,_=>False
theorem so:OpF K (wj K) dm:=⟨by
 intro F H x y d e Q P s hx hy f n
 cases d with
 | int i=>
  cases e with
  | int j=>
   exact .inl ⟨_,_,hx.int_eq,hy.int_eq,ar s n (.int _) f⟩
  |_=>exact False.elim f
 | str i=>
  cases e with
  | str j=>
   exact .inr (.inl ⟨_,_,hx.str_eq,hy.str_eq,f.1,ar s n (.str _) f.2⟩)
  |_=>exact False.elim f
 | lst ds=>
  cases e with
  | lst es=>
   obtain⟨a,xs,rfl,h1,h2⟩:=hx.asL s;obtain⟨b,ys,rfl,h3,h4⟩:=hy.asL s;exact .inr (.inr (.inl ⟨a,b,xs,ys,rfl,rfl,h1,h3,by rw[h2.length,h4.length];exact f.1,bh s n (h2.append h4) f.2⟩))
  |_=>exact False.elim f
 | tup ds=>
  cases e with
  | tup es=>
   have hy':=hy;obtain⟨a,xs,rfl,h1,h2⟩:=hx.asT s;obtain⟨b,ys,rfl,h3,h4⟩:=hy.asT s;refine .inr (.inr (.inr ⟨a,b,xs,ys,rfl,rfl,h1,h3,λ z=>f.1 ?_,by rw[h2.length,h4.length];exact f.2.1,λ z=>?_,λ z=>iQ s n (h2.append h4) f.2.2⟩))
   ·have:=h2.length;rw[z] at this;exact aaY this.symm
   ·subst z;cases h4;have f2:=f.2.2;rw[aaB] at f2
    cases hx with
    |fz hd=>exact ar s n hd f2
  |_=>exact False.elim f
 |_=>exact False.elim f⟩
end
def bD(a b:Str):Bool:=!e8 b a
theorem ck{a:Str}:bD a b=true↔¬ (b.cps.toList<a.cps.toList):=by unfold bD e8;simp
theorem dq(a b c:Str)(h1:bD a b=true)(h2:bD b c=true):bD a c=true:=by
 rw[ck] at *;exact acd.mpr (List.le_trans (acd.mp h1) (acd.mp h2))
theorem iq(a b:Str):(bD a b || bD b a)=true:=by
 rw[Bool.or_eq_true,ck,ck];rcases List.le_total a.cps.toList b.cps.toList with h|h
 ·exact .inl (acd.mpr h)
 ·exact .inr (acd.mpr h)
theorem eF{a:Str}(h1:bD a b=true)(h2:bD b a=true):a=b:=by
 rw[ck] at *;exact im (List.le_antisymm (acd.mp h1) (acd.mp h2))
def bY(zs:List Str):List Str:=zs.mergeSort bD
theorem aZ(zs:List Str):(bY zs).Perm zs:=List.mergeSort_perm zs _
theorem cI(zs:List Str):(bY zs).Pairwise λ a b=>bD a b=true:=List.pairwise_mergeSort dq iq zs
theorem bQ:∀ (p:Str) (l:List Str),risingS p l=true->(p::l).Pairwise λ a b=>bD a b=true
 |p,[],_=>List.pairwise_singleton _ _
 | p,x::r,h=>by
  simp only[risingS,Bool.and_eq_true] at h;have ih:=bQ x r h.2
  have hpx:bD p x=true:=by
   unfold bD e8;rw[← ltCps_eq];exact h.1
  refine List.pairwise_cons.mpr ⟨λ y hy=>?_,ih⟩;rcases abG.mp hy with rfl|hy
  ·exact hpx
  ·exact dq _ _ _ hpx (List.rel_of_pairwise_cons ih hy)
theorem bK:∀ (l:List Str),sortedS l=true->l.Pairwise λ a b=>bD a b=true
 |[],_=>.nil
 |x::r,h=>bQ x r h
theorem cJ(hp:ss.Perm zs)(hs:sortedS ss=true):ss=bY zs:=
 List.Perm.eq_of_pairwise (le:=λ a b=>bD a b=true) (λ a b _ _ h1 h2=>eF h1 h2) (bK ss hs) (cI zs) (hp.trans (aZ zs).symm)
theorem dr(hp:ss.Perm zs)(hs:ss.Pairwise λ a b=>bD a b=true):ss=bY zs:=
 List.Perm.eq_of_pairwise (le:=λ a b=>bD a b=true) (λ a b _ _ h1 h2=>eF h1 h2) hs (cI zs) (hp.trans (aZ zs).symm)
section
open PySem.Calls
variable {prog:Program}  {A:Around} {E:Value->Shared->Prop}  {T:String} {r d:Addr}  {P:Nat->Value->Prop} {OK:Heap->Prop}
theorem wm{R:List Value->Shared->Prop}(S:PySem.W.KdlSrc prog w T r d n P OK)(calm:A.handled=none)(ok:OK s.heap)(few:n<=sizeLine)
  (go:∀ (g:Heap) (tk:Nat) (acc:Array Value),(∀ b o,s.heap.get? b=some o->g.get? b=some o)->s.heap.objs.size<g.objs.size->ItemsOf P acc n->R acc.toList { s with heap:=g,toks:=tk }) :
  wpAny (model prog w) A (collect (.ref r)) R E s:=by
 obtain⟨l1,l2⟩:=S.there _ ok;unfold collect;refine aaa (wpAny_runValue (codeAny_builtin entry_proto_collect' ?_));rw[aaK PySem.F.plain_proto_collect _];show wpAny _ A.in1 (newList [] >>= λ x=>again (.builtin "list.__iadd__" ⟨[x,.ref r],[]⟩)) _ _ s;refine aaa (aaF (aab ⟨plainId_quiet PySem.F.plain_list_iadd _,codeAny_builtin entry_list_iadd' ?_⟩));rw[aaK PySem.F.plain_list_iadd _];have top:(s.heap.push { cls:=.type "list", data:=.seq ([]:List Value).toArray }).get? s.heap.objs.size=some { cls:=.type "list", data:=.seq #[] }:=abD _ rfl;show wpAny _ A.in1 (Builtin.List.listExtendWith (.ref s.heap.objs.size) (.ref r) (.ref s.heap.objs.size)) _ _ _
 have main:=PySem.W.kdl_extend (A:=A) (s:={ s with heap:=s.heap.push { cls:=.type "list", data:=.seq ([]:List Value).toArray } })
  (R:=λ (q:Result) (s':Shared)=>∃ (g:Heap) (tk:Nat) (acc:Array Value) (c:Nat),q=.ok (.ret (.ref s.heap.objs.size))/\s'={ s with heap:=g,toks:=tk } /\
   (∀ b o,s.heap.get? b=some o->g.get? b=some o)/\g.get? s.heap.objs.size=some { cls:=.type "list", dict:=none,data:=.seq acc c,slots:=#[] }/\ItemsOf P acc n)
  S calm (S.keep _ _ ok λ b _ o e=>abv _ e) s.heap.objs.size (acf l1) (acf l2) (.ref s.heap.objs.size) 0 top
  (λ g tk acc c hk hS hacc=>⟨g,tk,acc,c,rfl,rfl,λ b o e=>hk b o (aal (aae e)) (abv _ e),hS,hacc⟩) few
 refine aa0 main (λ z s' x=>?_) λ e s' x=>?_
 ·cases z with
  | done f=>
   obtain⟨g,tk,acc,c,e,rfl,hk,hS,hacc⟩:=x;cases e;exact aaa (wpAny_load hS (aab (go g tk acc hk (aae hS) hacc)))
  | again c₁=>
   refine⟨x.1,codeAny_mono x.2 λ q s₂ y=>?_⟩;obtain⟨g,tk,acc,c,rfl,rfl,hk,hS,hacc⟩:=y;exact aaa (wpAny_load hS (aab (go g tk acc hk (aae hS) hacc)))
 ·obtain⟨_,_,_,_,e',_⟩:=x;cases e'
end
theorem gF(hc:X.calm=true):CallR X (.builtin "sorted") (λ xs H Q=>∃ p kvs zs,xs=[.ref p]/\Rd H p (.dK kvs)/\kvs.map (·.1)=zs.map Sum.inr/\kvs.length<64/\∀ q ss,H q=none->ss.Perm zs->sortedS ss=true->Q (.ref q) (upd H q (.lst (ss.map .str)))):=by
 intro pins s σ H xs us Q I r h;obtain⟨p,kvs,zs,rfl,hq,hz,h64,q⟩:=h;obtain⟨u,rfl,rx⟩:=cX r;cases rx;obtain⟨hsz,hS,vs,rv,m⟩:kvs.length<=sizeLine/\(p==sysModules)=false/\∃ vs,KV kvs vs/\s.heap.DictOf (aB X.prog X.w) p vs:=hq.ok I.hok;obtain⟨ep,hat⟩:=m.dictAt;have hl:kvs.length=vs.length:=abp rv;refine aa8 kind_sorted plain_sorted entry_sorted (args_sorted1 _) ?_;unfold Builtin.«sorted»;refine aaa (m:=checkCount "sorted" 1 1 _) (aab ?_);refine aaa (wm (PySem.W.kdl_dict (knd:=aB X.prog X.w) (kvs:=vs) (ep:=ep) hS) (by simpa using I.ok.hd hc) hat (by rw[← hl];exact hsz) λ h' tk acc hk hgr hacc=>?_);have hal:acc.toList.length=kvs.length:=by rw[abz,hacc.1,hl]
 have hSA:StrsAre acc.toList zs:=by
  have hget:∀ (j:Nat) v,acc.toList[j]?=some v->∃ k x,vs[j]?=some (k,x)/\fM k v=true:=λ j v e=>hacc.2 j v (by rw[← aby];exact e);clear hacc hk q hq m hat;generalize acc.toList=us at hal hget;clear hsz hl h64 I r
  induction rv generalizing us zs with
  | nil=>
   cases zs with
   |nil=>cases us with|nil=>exact .nil|cons a b=>simp at hal
   |cons z zs=>simp at hz
  | cons h1 h2 ih=>
   cases zs with
   |nil=>simp at hz
   | cons z zs=>
    cases us with
    |nil=>simp at hal
    | cons a b=>
     simp only[List.map_cons,List.cons.injEq] at hz;obtain⟨k,x,e1,e2⟩:=hget 0 a rfl;simp only[List.getElem?_cons_zero,Option.some.injEq] at e1;subst e1;have e3:_=k:=h1.1;rw[← e3,hz.1] at e2;rcases aq e2 with ⟨i,t,q,_⟩|⟨z',t,q,rfl⟩
     ·cases q
     ·cases q;exact .cons _ t (ih zs hz.2 b (by exists hal) λ j v e=>by simpa using hget (j+1) v (by exists e))
 refine aaa (aa4 ?_ (hsz:=by rw[hal];exact hsz));have hoL:(h'.push (seqObj "list" acc.toList.toArray 0)).get? h'.objs.size=some (seqObj "list" acc.toList.toArray 0):=abD _ rfl;have hle:s.heap.objs.size<=h'.objs.size:=abk hgr;refine aaa (aaq (aaC slot_list_sort ⟨_,hoL,rfl⟩ entry_list_sort (list_sort_treeK strKind_oneLt hoL hSA.keysOf (λ v₁ v₂ rest e=>keyKind_strs (by rw[← e];exact hSA)) (by rw[hal];exact h64) λ st' a1 a2=>⟨_,rfl,?_⟩) (args_list_sort _)));obtain⟨ss',b1,b2,b3⟩:=sorted_out_str hSA a1 a2;obtain⟨e',he'⟩:=sortedHeap_at (out:=(arrOf st').map (·.2)) hoL;have hlz:ss'.length=kvs.length:=by rw[b2.length_eq];have:=congrArg List.length hz;simpa using this.symm
 refine aab ⟨_,rfl,.ref h'.objs.size,_,I.laid (t':=tk) (o:=.lst (ss'.map .str)) (λ b ob hb=>?_) hle ⟨by rw[abw,hlz];exact hsz,((arrOf st').map (·.2)).toList,e',bN b1,by rw[abo];exact he'⟩,rfl,q h'.objs.size ss' (I.hok.fresh hle) b2 b3⟩;have hbl:b<h'.objs.size:=aaj (aae hb) hle;rw[sortedHeap_old (aal hbl) (by rw[size_push'];exact aaw hbl)];exact abv _ (hk b ob hb)
section
variable {K:Frag} 
def wn(d e:D):Prop:=okD d=true/\okD e=true/\dep (nL d)<=40
def aEq:D->D->(OV->Prop)->Prop:=λ d e P=>wn d e/\P (.fz (.bl (dEq d e)))
def aNe:D->D->(OV->Prop)->Prop:=λ d e P=>wn d e/\P (.fz (.bl (!dEq d e)))
theorem wo:OpF K (xq K) aEq:=⟨fun {F H x y d e Q P} s hx hy f n=>.inr ⟨_,_,(hx.den s).deep f.1.1,(hy.den s).deep f.1.2.1,f.1.2.2,ar s n (.bl _) f.2⟩⟩
theorem wq:OpF K (xr K) aNe:=⟨fun {F H x y d e Q P} s hx hy f n=>.inr ⟨_,_,(hx.den s).deep f.1.1,(hy.den s).deep f.1.2.1,f.1.2.2,ar s n (.bl _) f.2⟩⟩
def vOf:D->V
 |.non=>.non
 |.bl b=>.bl b
 |.int i=>.int i
 |.str z=>.str z
 |_=>.non
def flD:D->Bool
 |.non=>true
 |.bl _=>true
 |.int _=>true
 |.str _=>true
 |_=>false
theorem Den.flat(h:Den K F v d)(f:flD d=true):v=vOf d/\cZ v=true:=by
 cases h <;> first|exact⟨rfl,rfl⟩|exact(abB f).elim
theorem Dens.flat{v:List V}{d:List D}(h:Dens K F v d)(f:d.all flD=true):v=d.map vOf/\v.all cZ=true:=by
 induction d generalizing v with
 |nil=>cases h;exact⟨rfl,rfl⟩
 | cons d ds ih=>
  cases h with
  | cons h t=>
   rw[aaP,abR] at f;obtain⟨h1,h2⟩:=h.flat f.1;obtain⟨h3,h4⟩:=ih t f.2;exact⟨by rw[abC,← h1,← h3],by rw[aaP,h2,h4];rfl⟩
theorem Acc.flat(h:Acc K F H v d)(f:flD d=true):v=vOf d/\cZ v=true:=by
 cases h with
 |fz h=>exact h.flat f
 |lst _ _=>exact(abB f).elim
 |dct _ _ _=>exact(abB f).elim
 |dt _ _ _=>exact(abB f).elim
def inD(d:D)(ds:List D):Bool:=inV (vOf d) (ds.map vOf)
def wt(ks:List Key)(k:Key):Bool:=ks.any λ x=>decide (x=k)
def xz(ks:List (List Key))(k:List Key):Bool:=ks.any λ x=>decide (x=k)
def dS:List D->Option (List Key)
 |[]=>some []
 | d::ds=>match iP d with
  | some k=>match dS ds with
   |some ks=>some (k::ks)
   |none=>none
  |none=>none
theorem nY(h:Dens K F xs ds)(e:dS ds=some k):xs=k.map kV:=by
 induction ds generalizing xs k with
 |nil=>cases h;cases e;rfl
 | cons d ds ih=>
  cases h with
  | cons h t=>
   unfold dS at e
   cases e1:iP d with
   |none=>rw[e1] at e;cases e
   | some a=>
    cases e2:dS ds with
    |none=>rw[e1,e2] at e;cases e
    | some b=>
     rw[e1,e2] at e;cases e;rw[abC,← ih t e2,dh (F:=F) (H:=F) (.fz h) e1]
theorem iR(s:Same F H)(h:Acc K F H v (.tup ds))(e:dS ds=some k):∃ b,v=.ref b/\H b=some (.tup (k.map kV)):=by
 obtain⟨b,xs,rfl,h1,h2⟩:=h.asTH s;exact⟨b,rfl,by rw[← nY h2 e];exact h1⟩
def bIn(d:D)(R:Bool->Prop):D->Prop
 | .str y=>(match d with
  | .str x=>(match x.cps.toList with
   |[c]=>R (decide (c∈y.cps.toList))
   |_=>False)
  |_=>False)
 |.lst ds=>(flD d=true/\ds.all flD=true)/\R (inD d ds)
 |.tup ds=>(flD d=true/\ds.all flD=true)/\R (inD d ds)
 | .dct ks _=>(match iP d with
  |some k=>R (wt ks k)
  |none=>False)
 |.gt ds=>(flD d=true/\ds.all flD=true)/\R (inD d ds)
 | .dt ks _=>(match d with
  | .tup kd=>(match dS kd with
   |some k=>R (xz ks k)
   |none=>False)
  |_=>False)
 |_=>False
def pE(d e:D)(P:OV->Prop):Prop:=bIn d (λ b=>P (.fz (.bl (!b)))) e
theorem wu{x:Str}{c:Nat}(h:x.cps.toList=[c]):x=⟨#[c]⟩:=im h
theorem nZ{k:Key}(h:ys.map (·.1)=ks):(fJ ys k).isSome=wt ks k:=by
 rw[← cS,wt,← h,List.any_map];rfl
theorem n0{ys:List (List Key×V)}{ks:List (List Key)}(h:ys.map (·.1)=ks):(fJ ys k).isSome=xz ks k:=by
 rw[← cS,xz,← h,List.any_map];rfl
theorem wv{y:V}{R:Bool->Prop}(s:Same F H)(hx:Acc K F H x d)(hy:Acc K F H y e)(f:bIn d R e)(n:∀ b,R b->Q (.bl b) H):rInB K x y H Q:=by
 cases e with
 | str z=>
  cases d with
  | str u=>
   unfold bIn at f;dsimp only at f;generalize hc:u.cps.toList=l at f
   cases l with
   |nil=>exact False.elim f
   | cons c r=>
    cases r with
    |nil=>exact .inl (.inl ⟨c,_,by rw[hx.str_eq,wu hc],hy.str_eq,n _ f⟩)
    |cons=>exact False.elim f
  |_=>exact False.elim f
 | lst ds=>
  obtain⟨a,xs,rfl,h1,h2⟩:=hy.asL s;obtain⟨e1,e2⟩:=hx.flat f.1.1;obtain⟨e3,e4⟩:=h2.flat f.1.2;subst e1 e3;exact .inl (.inr ⟨a,_,rfl,.inl h1,e2,e4,n _ f.2⟩)
 | tup ds=>
  obtain⟨a,xs,rfl,h1,h2⟩:=hy.asT s;obtain⟨e1,e2⟩:=hx.flat f.1.1;obtain⟨e3,e4⟩:=h2.flat f.1.2;subst e1 e3;exact .inl (.inr ⟨a,_,rfl,.inr h1,e2,e4,n _ f.2⟩)
 | dct ks vs=>
  unfold bIn at f;dsimp only at f;generalize hk:iP d=l at f
  cases l with
  |none=>exact False.elim f
  | some k=>
   obtain⟨a,ys,rfl,h1,h2,h3⟩:=hy.asD s;refine .inr ⟨a,fJ ys k,rfl,by rw[dh hx hk];exact DGet.kR h1,?_⟩;rw[nZ h2];exact n _ f
 | gt ds=>
  obtain⟨a,xs,rfl,h1,h2⟩:=hy.asG s;obtain⟨e1,e2⟩:=hx.flat f.1.1;obtain⟨e3,e4⟩:=h2.flat f.1.2;subst e1 e3;exact .inl (.inr ⟨a,_,rfl,.inr h1,e2,e4,n _ f.2⟩)
 | dt ks vs=>
  cases d with
  | tup kd=>
   unfold bIn at f;dsimp only at f;generalize hk:dS kd=l at f
   cases l with
   |none=>exact False.elim f
   | some k=>
    obtain⟨a,ys,rfl,h1,h2,h3⟩:=hy.asDT s;obtain⟨b,rfl,h4⟩:=iR s hx hk;refine .inr ⟨a,fJ ys k,rfl,.inr ⟨ys,k,b,h1,rfl,h4,rfl⟩,?_⟩;rw[n0 h2];exact n _ f
  |_=>exact False.elim f
 |_=>exact False.elim f
theorem lB:OpF K (lz K) pE:=⟨by
 intro F H x y d e Q P s hx hy f n;have h:=wv (Q:=λ v H'=>∀ b,v=.bl b->Q (.bl (!b)) H') s hx hy f λ b q c e=>by cases e;exact ar s n (.bl _) q
 obtain (⟨c,z,e1,e2,q⟩|⟨a,xs,e1,e2,e3,e4,q⟩)|⟨a,o,e1,e2,q⟩:=h
 ·exact .inl (.inl ⟨c,z,e1,e2,q _ rfl⟩)
 ·exact .inl (.inr ⟨a,xs,e1,e2,e3,e4,q _ rfl⟩)
 ·exact .inr ⟨a,o,e1,e2,q _ rfl⟩⟩
def xA(ks:List Key)(ds:List D)(k:Key):Option D:=((ks.zip ds).find? λ kd=>decide (kd.1=k)).map (·.2)
def sq(ks:List (List Key))(ds:List D)(k:List Key):Option D:=((ks.zip ds).find? λ kd=>decide (kd.1=k)).map (·.2)
def aIx:D->D->(OV->Prop)->Prop
 | .lst ds,.int i,P=>(match atI ds i with
  |some d=>P (.fz d)
  |none=>False)
 | .tup ds,.int i,P=>(match atI ds i with
  |some d=>P (.fz d)
  |none=>False)
 | .str z,.int i,P=>z.length<=sizeLine/\(match atI z.cps.toList i with
  |some c=>P (.fz (.str ⟨#[c]⟩))
  |none=>False)
 | .dct ks ds,k,P=>(match iP k with
  | some k=>(match xA ks ds k with
   |some d=>P (.fz d)
   |none=>False)
  |none=>False)
 | .dt ks ds,.tup kd,P=>(match dS kd with
  | some k=>(match sq ks ds k with
   |some d=>P (.fz d)
   |none=>False)
  |none=>False)
 |_,_,_=>False
theorem Dens.atI{i:Int}(h:Dens K F xs ds)(e:L2.atI ds i=some d):∃ x,L2.atI xs i=some x/\Den K F x d:=by
 unfold L2.atI at e ⊢;rw[h.length]
 cases q:ixN ds.length i with
 |none=>rw[q] at e;cases e
 |some j=>rw[q] at e;exact h.get e
theorem gG{κ:Type}[DecidableEq κ]{ys:List (κ×V)}{ks:List κ}{k:κ}(hk:ys.map (·.1)=ks)(h:Dens K F (ys.map (·.2)) ds)(e:((ks.zip ds).find? λ kd=>decide (kd.1=k)).map (·.2)=some d):∃ v,fJ ys k=some v/\Den K F v d:=by
 subst hk
 induction ys generalizing ds with
 |nil=>simp at e
 | cons y ys ih=>
  cases h with
  | @cons _ d1 _ ds h1 h2=>
   by_cases hy:y.1=k
   ·rw[cQ hy];simp only[List.map_cons,List.zip_cons_cons,List.find?_cons,hy,decide_true,Option.map_some,Option.some.injEq] at e;subst e;exact⟨y.2,rfl,h1⟩
   ·rw[cR hy];simp only[List.map_cons,List.zip_cons_cons,List.find?_cons,hy,decide_false] at e;exact ih h2 e
theorem n4{k:Key}(hk:ys.map (·.1)=ks)(h:Dens K F (ys.map (·.2)) ds)(e:xA ks ds k=some d):∃ v,fJ ys k=some v/\Den K F v d:=gG hk h e
theorem lC{ys:List (List Key×V)}{ks:List (List Key)}(hk:ys.map (·.1)=ks)(h:Dens K F (ys.map (·.2)) ds)(e:sq ks ds k=some d):∃ v,fJ ys k=some v/\Den K F v d:=gG hk h e
theorem ww:OpF K (xy K) aIx:=⟨by
 intro F H x y d e Q P s hx hy f n
 cases d with
 | lst ds=>
  cases e with
  | int i=>
   unfold aIx at f;dsimp only at f
   cases hd:L2.atI ds i with
   |none=>rw[hd] at f;exact False.elim f
   | some d=>
    rw[hd] at f;obtain⟨a,xs,rfl,h1,h2⟩:=hx.asL s;obtain⟨v,h3,h4⟩:=h2.atI hd;exact .inl (.inl ⟨a,xs,_,v,rfl,hy.int_eq,h1,h3,ar s n h4 f⟩)
  |_=>exact False.elim f
 | tup ds=>
  cases e with
  | int i=>
   unfold aIx at f;dsimp only at f
   cases hd:L2.atI ds i with
   |none=>rw[hd] at f;exact False.elim f
   | some d=>
    rw[hd] at f;obtain⟨a,xs,rfl,h1,h2⟩:=hx.asT s;obtain⟨v,h3,h4⟩:=h2.atI hd;exact .inl (.inr (.inl ⟨a,xs,_,v,rfl,hy.int_eq,h1,h3,ar s n h4 f⟩))
  |_=>exact False.elim f
 | str z=>
  cases e with
  | int i=>
   obtain⟨f1,f⟩:=f
   cases hc:L2.atI z.cps.toList i with
   |none=>rw[hc] at f;exact False.elim f
   | some c=>
    rw[hc] at f;exact .inl (.inr (.inr ⟨_,_,c,hx.str_eq,hy.int_eq,f1,hc,ar s n (.str _) f⟩))
  |_=>exact False.elim f
 | dct ks ds=>
  unfold aIx at f;dsimp only at f
  cases hk:iP e with
  |none=>rw [hk] at f;exact False.elim f
  | some k=>
   rw[hk] at f;dsimp only at f
   cases hd:xA ks ds k with
   |none=>rw[hd] at f;exact False.elim f
   | some d=>
    rw[hd] at f;obtain⟨a,ys,rfl,h1,h2,h3⟩:=hx.asD s;obtain⟨v,h4,h5⟩:=n4 h2 h3 hd;exact .inr ⟨a,v,rfl,by rw[dh hy hk,← h4];exact DGet.kR h1,ar s n h5 f⟩
 | dt ks ds=>
  cases e with
  | tup kd=>
   unfold aIx at f;dsimp only at f
   cases hk:dS kd with
   |none=>rw[hk] at f;exact False.elim f
   | some k=>
    rw[hk] at f;dsimp only at f
    cases hd:sq ks ds k with
    |none=>rw[hd] at f;exact False.elim f
    | some d=>
     rw[hd] at f;obtain⟨a,ys,rfl,h1,h2,h3⟩:=hx.asDT s;obtain⟨b,rfl,h6⟩:=iR s hy hk;obtain⟨v,h4,h5⟩:=lC h2 h3 hd;exact .inr ⟨a,v,rfl,.inr ⟨ys,k,b,h1,rfl,h6,h4.symm⟩,ar s n h5 f⟩
  |_=>exact False.elim f
 |_=>exact False.elim f⟩
def fj(n:Nat)(lo hi:Option Int):Prop:=¬ (HT.sIx n 0 lo=0/\HT.sIx n n hi=n)
def xB(z:Str)(lo hi:Option Int):Str:=⟨(jT z.cps.toList lo hi).toArray⟩
def aSl:D->Option Int->Option Int->(OV->Prop)->Prop
 |.str z,lo,hi,P=>z.length<=sizeLine/\P (.fz (.str (xB z lo hi)))
 |.lst ds,lo,hi,P=>P (.fl (jT ds lo hi))
 |.tup ds,lo,hi,P=>fj ds.length lo hi/\P (.fz (.tup (jT ds lo hi)))
 |_,_,_,_=>False
theorem Dens.cut{lo hi:Option Int}(h:Dens K F xs ds):Dens K F (jT xs lo hi) (jT ds lo hi):=by
 unfold jT;rw[h.length];exact(h.drop _).take _
theorem sr:SlF K (xo K) aSl:=⟨by
 intro F H x d lo hi Q P s hx f n
 cases d with
 | str z=>
  refine .inl ⟨_,hx.str_eq,f.1,λ y hy=>?_⟩;have e:y=xB z lo hi:=im (hy.trans (by simp[xB]));rw[e];exact ar s n (.str _) f.2
 | lst ds=>
  obtain⟨a,xs,rfl,h1,h2⟩:=hx.asL s;exact .inr (.inl ⟨a,xs,rfl,h1,bh s n h2.cut f⟩)
 | tup ds=>
  obtain⟨a,xs,rfl,h1,h2⟩:=hx.asT s;exact .inr (.inr ⟨a,xs,rfl,h1,by rw[h2.length];exact f.1,iQ s n h2.cut f.2⟩)
 |_=>exact False.elim f⟩
def wx:List D->(OV->Prop)->Prop
 |[.str z],P=>z.length<=sizeLine/\P (.fz (.int z.length))
 |[.lst ds],P=>P (.fz (.int ds.length))
 |[.tup ds],P=>P (.fz (.int ds.length))
 |[.dct ks _],P=>P (.fz (.int ks.length))
 |_,_=>False
theorem wy:CallF K (xp K) wx:=⟨by
 intro F H xs ds Q P s ha f n
 cases ds with
 |nil=>exact False.elim f
 | cons d tl=>
 cases d with
 | str z=>
  cases tl with
  |cons _ _=>exact False.elim f
  | nil=>
  obtain⟨x,rfl,a⟩:=bJ ha;exact .inl ⟨_,by rw[a.str_eq],f.1,ar s n (.int _) f.2⟩
 | lst ds=>
  cases tl with
  |cons _ _=>exact False.elim f
  | nil=>
  obtain⟨x,rfl,a⟩:=bJ ha;obtain⟨p,ys,rfl,h1,h2⟩:=a.asL s;exact .inr (.inl ⟨p,ys,rfl,.inl h1,by rw[h2.length];exact ar s n (.int _) f⟩)
 | tup ds=>
  cases tl with
  |cons _ _=>exact False.elim f
  | nil=>
  obtain⟨x,rfl,a⟩:=bJ ha;obtain⟨p,ys,rfl,h1,h2⟩:=a.asT s;exact .inr (.inl ⟨p,ys,rfl,.inr h1,by rw[h2.length];exact ar s n (.int _) f⟩)
 | dct ks es=>
  cases tl with
  |cons _ _=>exact False.elim f
  | nil=>
  obtain⟨x,rfl,a⟩:=bJ ha;obtain⟨p,ys,rfl,h1,h2,h3⟩:=a.asD s;subst h2;have f:P (.fz (.int (ys.map (·.1)).length)):=f;rw[abw] at f;exact .inr (.inr ⟨p,ys,rfl,h1,ar s n (.int _) f⟩)
 |_=>exact False.elim f⟩
def yB:List D->(OV->Prop)->Prop
 |[.int i,.int j],P=>P (.fz (.int (if j > i then j else i)))
 |_,_=>False
def zq:List D->(OV->Prop)->Prop
 |[.int i,.int j],P=>P (.fz (.int (if j<i then j else i)))
 |_,_=>False
theorem wz:CallF K yg yB:=⟨by
 intro F H xs ds Q P s ha f n
 cases ds with
 |nil=>exact False.elim f
 | cons d tl=>
 cases d with
 | int i=>
  cases tl with
  |nil=>exact False.elim f
  | cons e tl=>
  cases e with
  | int j=>
   cases tl with
   |cons _ _=>exact False.elim f
   | nil=>
   obtain⟨x,y,rfl,a,b⟩:=lr ha;exact⟨_,_,by rw[a.int_eq,b.int_eq],ar s n (.int _) f⟩
  |_=>exact False.elim f
 |_=>exact False.elim f⟩
theorem wA:CallF K yh zq:=⟨by
 intro F H xs ds Q P s ha f n
 cases ds with
 |nil=>exact False.elim f
 | cons d tl=>
 cases d with
 | int i=>
  cases tl with
  |nil=>exact False.elim f
  | cons e tl=>
  cases e with
  | int j=>
   cases tl with
   |cons _ _=>exact False.elim f
   | nil=>
   obtain⟨x,y,rfl,a,b⟩:=lr ha;exact⟨_,_,by rw[a.int_eq,b.int_eq],ar s n (.int _) f⟩
  |_=>exact False.elim f
 |_=>exact False.elim f⟩
def cIs:List D->(OV->Prop)->Prop
 |[d,.ty T],P=>(pD (tyD d)=true/\pD T=true)/\P (.fz (.bl (isT (tyD d) T)))
 |_,_=>False
theorem yD:CallF K (yy K) cIs:=⟨by
 intro F H xs ds Q P s ha f n
 cases ds with
 |nil=>exact False.elim f
 | cons d ds=>
 cases ds with
 |nil=>exact False.elim f
 | cons e ds=>
 cases e with
 | ty T=>
  cases ds with
  |cons _ _=>exact False.elim f
  | nil=>
  obtain⟨x,y,rfl,a,b⟩:=lr ha;exact⟨x,_,_,by rw[b.ty_eq],a.den s,f.1.1,f.1.2,ar s n (.bl _) f.2⟩
 |_=>exact False.elim f⟩
def wB:List D->Option (List Bool)
 |[]=>some []
 |.bl b::ds=>(wB ds).map (b::·)
 |_::_=>none
def cAll:List D->(OV->Prop)->Prop
 | [.lst ds],P=>(match wB ds with
  |some bs=>P (.fz (.bl (bs.all id)))
  |none=>False)
 |_,_=>False
def zr:Key->D
 |.inl i=>.int i
 |.inr z=>.str z
theorem du{F:Hp}:∀ (ks:List Key),Dens K F (ks.map kV) (ks.map zr)
 |[]=>.nil
 |.inl i::ks=>.cons (.int i) (du ks)
 |.inr z::ks=>.cons (.str z) (du ks)
def su:List D->(OV->Prop)->Prop
 |[.lst ds],P=>P (.fl ds)
 |[.tup ds],P=>P (.fl ds)
 |[.dct ks _],P=>P (.fl (ks.map zr))
 |_,_=>False
theorem sv:CallF K (lc K) su:=⟨by
 intro F H xs ds Q P s ha f n
 cases ds with
 |nil=>exact False.elim f
 | cons d tl=>
 cases d with
 | lst ds=>
  cases tl with
  |cons _ _=>exact False.elim f
  | nil=>
  obtain⟨x,rfl,a⟩:=bJ ha;obtain⟨p,ys,rfl,h1,h2⟩:=a.asL s;exact lg h1 (bh s n h2 f)
 | tup ds=>
  cases tl with
  |cons _ _=>exact False.elim f
  | nil=>
  obtain⟨x,rfl,a⟩:=bJ ha;obtain⟨p,ys,rfl,h1,h2⟩:=a.asT s;exact lh h1 (bh s n h2 f)
 | dct ks es=>
  cases tl with
  |cons _ _=>exact False.elim f
  | nil=>
  obtain⟨x,rfl,a⟩:=bJ ha;obtain⟨p,ys,rfl,h1,h2,h3⟩:=a.asD s;refine jC h1 (bh s n ?_ f);have e:(ys.map λ kv=>kV kv.1)=(ys.map (·.1)).map kV:=by rw[aao];rfl
  rw[e,h2];exact du _
 |_=>exact False.elim f⟩
def bL:List D->Option (List Str)
 |[]=>some []
 |.str z::ds=>(bL ds).map (z::·)
 |_::_=>none
theorem cm:∀ {ds:List D} {zs:List Str},bL ds=some zs->ds=zs.map .str
 |[],_,h=>by simp only[bL,Option.some.injEq] at h;subst h;rfl
 | d::ds,bs,h=>by
  cases d <;> simp[bL] at h;obtain⟨cs,h1,rfl⟩:=h;rw[cm h1];rfl
theorem eG:∀ zs:List Str,bL (zs.map .str)=some zs
 |[]=>rfl
 |b::bs=>by rw[abC,bL,eG bs];rfl
def bE:List Key->Option (List Str)
 |[]=>some []
 |.inr z::ks=>(bE ks).map (z::·)
 |.inl _::_=>none
theorem eI:∀ {ds:List Key} {zs:List Str},bE ds=some zs->ds=zs.map Sum.inr
 |[],_,h=>by simp only[bE,Option.some.injEq] at h;subst h;rfl
 | d::ds,bs,h=>by
  cases d <;> simp[bE] at h;obtain⟨cs,h1,rfl⟩:=h;rw[eI h1];rfl
theorem dw:∀ zs:List Str,bE (zs.map Sum.inr)=some zs
 |[]=>rfl
 |b::bs=>by rw[abC,bE,dw bs];rfl
def lD:List D->(OV->Prop)->Prop
 | [.lst ds],P=>(match bL ds with
  |some zs=>zs.length<64/\P (.fl ((bY zs).map .str))
  |none=>False)
 | [.dct ks _],P=>(match bE ks with
  |some zs=>zs.length<64/\P (.fl ((bY zs).map .str))
  |none=>False)
 |_,_=>False
def iS(P:Program)(w:World)(K:Frag):List V->Hp->VK->Prop:=λ xs H Q=>lb P w K xs H Q∨∃ p kvs zs,xs=[.ref p]/\Rd H p (.dK kvs)/\kvs.map (·.1)=zs.map Sum.inr/\kvs.length<64/\∀ q ss,H q=none->ss.Perm zs->sortedS ss=true->Q (.ref q) (upd H q (.lst (ss.map .str)))
theorem n5(P:Program)(w:World)(K:Frag)(hc:X.calm=true)(hP:X.prog=P)(hw:X.w=w)(h:X.K=K):BCall X (.builtin "sorted") (iS P w K):=by subst h hP hw;exact⟨(gr hc).or (gF hc)⟩
theorem sx{P:Program}:CallF K (iS P w K) lD:=⟨by
 intro F H xs ds Q Pq s ha f n
 cases ds with
 |nil=>exact False.elim f
 | cons d tl=>
 cases d with
 | lst ds=>
  cases tl with
  |cons _ _=>exact False.elim f
  | nil=>
  obtain⟨x,rfl,a⟩:=bJ ha;obtain⟨p,ys,rfl,h1,h2⟩:=a.asL s;unfold lD at f;dsimp only at f
  cases hz:bL ds with
  |none=>rw [hz] at f;exact False.elim f
  | some zs=>
   rw[hz] at f;rw[cm hz] at h2;rw[h2.strs_eq] at h1;refine .inl ⟨p,zs,rfl,.inr h1,f.1,λ q ss hq hp hs=>?_⟩;rw[cJ hp hs];exact bh s n (Dens.strs _) f.2 q hq
 | dct ks es=>
  cases tl with
  |cons _ _=>exact False.elim f
  | nil=>
  obtain⟨x,rfl,a⟩:=bJ ha;obtain⟨p,ys,rfl,h1,h2,h3⟩:=a.asD s;unfold lD at f;dsimp only at f
  cases hz:bE ks with
  |none=>rw [hz] at f;exact False.elim f
  | some zs=>
   rw[hz] at f;rw[eI hz] at h2;have hl:ys.length=zs.length:=by have:=congrArg List.length h2;rwa [abw,abw] at this
   refine .inr ⟨p,ys,zs,rfl,h1,h2,by rw[hl];exact f.1,λ q ss hq hp hs=>?_⟩;rw[cJ hp hs];exact bh s n (Dens.strs _) f.2 q hq
 |_=>exact False.elim f⟩
def gH(zs:List Str):List Str:=zs.foldl (λ acc z=>KS.dedup1 acc z) []
theorem cC:∀ (zs acc:List Str),acc.Nodup->(zs.foldl (λ acc z=>KS.dedup1 acc z) acc).Nodup/\∀ k,k∈zs.foldl (λ acc z=>KS.dedup1 acc z) acc↔k∈acc∨k∈zs
 |[],acc,h=>⟨h,λ k=>by simp⟩
 | z::zs,acc,h=>by
  obtain⟨h1,h2⟩:=cC zs (KS.dedup1 acc z) (gu h);refine⟨h1,λ k=>?_⟩;rw[List.foldl_cons,h2 k,jD,abG];constructor
  ·rintro ((a|a)|a)
   ·exact .inl a
   ·exact .inr (.inl a)
   ·exact .inr (.inr a)
  ·rintro (a|a|a)
   ·exact .inl (.inl a)
   ·exact .inl (.inr a)
   ·exact .inr a
theorem cK(zs:List Str):(gH zs).Nodup:=(cC zs [] aaU).1
theorem eJ{k:Str}:k∈gH zs↔k∈zs:=by
 have:=(cC zs [] aaU).2 k;simpa [gH] using this
def g0(zs:List Str):List Str:=bY (gH zs)
theorem n6{k:Str}:k∈g0 zs↔k∈zs:=by rw[g0,(aZ _).mem_iff,eJ]
theorem jJ(zs:List Str):(g0 zs).Nodup:=(aZ _).nodup_iff.mpr (cK zs)
theorem dA{a b:List Str}(ha:a.Nodup)(hb:b.Nodup)(h:∀ k,k∈a↔k∈b):a.Perm b:=(List.perm_ext_iff_of_nodup ha hb).mpr h
theorem ir(hn:ss.Nodup)(hm:∀ k,k∈ss↔k∈zs)(hs:ss.Pairwise λ a b=>bD a b=true):ss=g0 zs:=
 dr (dA hn (cK zs) λ k=>(hm k).trans eJ.symm) hs
def fm(fe:FE):FE:=λ ρ Q=>fe ρ λ r ρ1=>on1 ρ1 r λ d=>match d with
 | .lst ds=>(match bL ds with
  |some zs=>(zs.length+1<scanBound/\(g0 zs).length<64)/\Q (.ov (.fl ((g0 zs).map .str))) ρ1
  |none=>False)
 |_=>False
theorem jK{P:Program}(he:EF K μ te fe):EF K μ (tCB (iS P w K) (bp (tCB (xu P w K) (bp te fP)) fP)) (fm fe):=⟨by
 intro F Z H τ σ ρ A Q Pq vw R h q;refine he.h vw R h λ r ρ1 v F1 H1 A1 B1 h1 s1 R1 v1 f1=>?_;obtain⟨d,e1,h2⟩:=bq h1;split at h2
 ·split at h2
  ·rename_i zs hz;obtain⟨p,ys,rfl,a1,a2⟩:=(R1.acc v1 e1).asL R1.fh;rw[cm hz] at a2;rw[a2.strs_eq] at a1;refine⟨p,zs,rfl,a1,h2.1.1,λ l τs hl hm hn _=>?_⟩;refine .inl ⟨l,τs,rfl,.inl ag,?_,λ l2 ss hl2 hp hs=>?_⟩
   ·have hp:τs.Perm (g0 zs):=dA hn (jJ zs) λ k=>(hm k).trans n6.symm;rw[hp.length_eq];exact h2.1.2
   ·have e:ss=g0 zs:=ir (hp.nodup_iff.mpr hn) (λ k=>(hp.mem_iff).trans (hm k)) (bK ss hs);subst e;have pu:=(Pure.new (o:=xt P w l τs) R1.fh hl).trans (Pure.new (p:=l2) (o:=.lst ((g0 zs).map .str)) (R1.fh.trans (aM hl)) hl2);have hl2':H1 l2=none:=(aM hl).free hl2;exact R1.after (P:=λ o=>Pq (.ov o) ρ1) (λ o v F3 H3 B p s3 R3 ow fr=>q _ _ _ _ _ _ _ p (s1.trans s3) R3 ow fr) _ _ F1 _ [l2] h2.2 pu (.fl ag (Dens.strs _)) (New.one hl2' (R1.fh.free hl2'))
  ·exact h2.elim
 ·exact h2.elim⟩
end
end L2
namespace KS
open PySem PySem.Spec PyProof.Rows
section
variable {prog:Program} {w:World} {A:Around} {E:Value->Shared->Prop} {s:Shared}
end
end KS
namespace L2
open PySem PySem.Spec PyProof.Rows
section
variable {X:Cx}
end
section
variable {K:Frag} {μ:List Nat}
end
end L2
namespace L2
open PySem PySem.Spec PyProof.Rows PySem.W
variable{prog:Program}{w:World}{A:Around}{s:Shared}
section
variable    {E:Value->Shared->Prop} 
theorem sorted_few{l:Addr}{vs:List Value}{Q:Value->Shared->Prop}(hl:s.heap.IsList l vs.toArray)(few:vs.length<2)(h:Q (.ref (s.heap.objs.size+1)) { s with heap:=sortedAll s.heap vs (pairsOf vs |>.map (·.2)) }) :
  wpAny (model prog w) A (call (.builtin "sorted") [.ref l]) Q E s:=by
 refine aa8 kind_sorted plain_sorted entry_sorted (args_sorted1 _) ?_;unfold Builtin.«sorted»;refine aaa (m:=checkCount "sorted" 1 1 _) (aab (aaa (collect_list hl (aaa (aa4 ?_)))));have z1:((s.heap.push (seqObj "list" #[] 0)).update s.heap.objs.size (Obj.mapSeq (·++vs.toArray))).objs.size=s.heap.objs.size+1:=(Heap.size_update ..).trans (size_push' ..);have top:(((s.heap.push (seqObj "list" #[] 0)).update s.heap.objs.size (Obj.mapSeq (·++vs.toArray))).push (seqObj "list" vs.toArray 0)).get? (s.heap.objs.size+1)=some (seqObj "list" vs.toArray 0):=z1 ▸ abD _ rfl;show wpAny _ _ _ _ _ { s with heap:=((s.heap.push (seqObj "list" #[] 0)).update s.heap.objs.size (Obj.mapSeq (·++vs.toArray))).push (seqObj "list" vs.toArray 0) };rw[z1];refine aaa (aaq (aaC slot_list_sort ⟨_,top,rfl⟩ entry_list_sort ?_ (args_list_sort _)));generalize hG:((s.heap.push (seqObj "list" #[] 0)).update s.heap.objs.size (Obj.mapSeq (·++vs.toArray))).push (seqObj "list" vs.toArray 0)=G at top;generalize ha:s.heap.objs.size+1=a at top;have lt:a<G.objs.size:=aae top;rw[list_sort_plain];refine aaa (listItems_at (s:={ s with heap:=G }) top rfl (aaa (listUpdate_at (s:={ s with heap:=G }) top rfl ?_)));obtain⟨e1,o1⟩:∃ e1,(G.update a (Obj.mapSeq λ _=>#[])).get? a=some (seqObj "list" #[] e1):=⟨_,get?_update_seq top (λ _=>#[])⟩;refine aaa (seqEpoch_at (s:={ s with heap:=G.update a (Obj.mapSeq λ _=>#[]) }) o1 rfl (aaa (wpAny_newTuple (aaa (aa4 (aaq ?_))))));have o6:(((G.update a (Obj.mapSeq λ _=>#[])).push (seqObj "tuple" vs.toArray 0)).push (seqObj "list" #[] 0)).get? a=some (seqObj "list" #[] e1):=abv _ (abv _ o1);show wpAny (model prog w) _ _ _ E { s with heap:=((G.update a (Obj.mapSeq λ _=>#[])).push (seqObj "tuple" vs.toArray 0)).push (seqObj "list" #[] 0) };have h2:vs.toArray.size<2:=(by exists few);dsimp only;rw[if_pos h2,if_pos h2];refine aaa (aab ?_);rw[StateT.run_pure];refine aaa (aab (aaa (seqEpoch_at o6 rfl (aaa (listUpdate_at o6 rfl ?_ (hsz2:=?_))))))
 ·simp only[bne_self_eq_false,Bool.false_eq_true,if_false];refine aab ⟨_,rfl,aab ⟨_,rfl,?_⟩⟩;subst ha;have e:sortedAll s.heap vs (pairsOf vs |>.map (·.2))=sortedHeap G (s.heap.objs.size+1) vs (pairsOf vs |>.map (·.2)):=by rw[← hG];rfl
  rw[e] at h;exact h
 ·rw[Array.size_map];show (pairsOf vs).size<=_;rw[pairsOf_size,sizeLine_eq];nofun
end
section
variable     {C:Bool->Shared->Prop} {bb fn:Bool}
end
section
variable {X:Cx}
end
end L2
namespace L2
open PySem PySem.Spec PyProof.Rows
variable{μ T:List Nat}{X:Cx}{P:Program}{w:World}{te ta tb:TE}{fe fa:FE}{n j:Nat}{fg:FG}{ds:List D}{ρ:FSt}{lo i:Int}{d:D}{z:Str}{zs:List Str}
theorem fq{α β:Type}{f:α->β}:∀ {l l':List β},l.Perm l'->∀ m:List α,l'=m.map f->∃ m':List α,m'.Perm m/\l=m'.map f:=by
 intro l l' h
 induction h with
 | nil=>
  intro m e;have:m=[]:=by simpa using e.symm
  subst this;exact⟨[],.refl _,rfl⟩
 | cons x _ ih=>
  intro m e
  cases m with
  |nil=>cases e
  | cons a m=>
   simp only[List.map_cons,List.cons.injEq] at e;obtain⟨m',h1,h2⟩:=ih m e.2;exact⟨a::m',.cons a h1,by rw[abC,h2,e.1]⟩
 | swap x y l=>
  intro m e
  match m,e with
  | a::b::m,e=>
   simp only[List.map_cons,List.cons.injEq] at e;exact⟨b::a::m,.swap _ _ _,by rw[abC,abC,e.1,e.2.1,e.2.2]⟩
 | trans _ _ ih1 ih2=>
  intro m e;obtain⟨m2,h1,h2⟩:=ih2 m e;obtain⟨m1,h3,h4⟩:=ih1 m2 h2;exact⟨m1,h3.trans h1,h4⟩
section
variable {K:Frag} 
def iT:List D->Option (List Str)
 |[]=>some []
 |.tup (.str z::_)::ds=>(iT ds).map (z::·)
 |_::_=>none
def lE(P:Program)(w:World)(K:Frag):List V->Hp->VK->Prop:=iS P w K
theorem n8(P:Program)(w:World)(K:Frag)(hc:X.calm=true)(hP:X.prog=P)(hw:X.w=w)(h:X.K=K):BCall X (.builtin "sorted") (lE P w K):=n5 P w K hc hP hw h
@[irreducible] def gI(ds:List D)(P:OV->Prop):Prop:=lD ds P
theorem n9 :CallF K (lE P w K) gI:=⟨by
 intro F H xs ds Q Pq s ha f n;unfold gI at f;exact sx.h s ha f n⟩
theorem iu(he:EF K μ te fe):EF K μ (tCB (lE P w K) (bp (tCB (xu P w K) (bp te fP)) fP)) (fm fe):=jK he
@[irreducible] def zt:List D->(OV->Prop)->Prop
 | [.lst ds],P=>(match bL ds with
  |some zs=>zs.length<64/\P (.fl ((bY zs).map .str))
  | none=>(match iT ds with
   |some zs=>(zs.Nodup/\zs.length<64)/\∀ ds':List D,ds'.Perm ds->P (.fl ds')
   |none=>False))
 | [.dct ks _],P=>(match bE ks with
  |some zs=>zs.length<64/\P (.fl ((bY zs).map .str))
  |none=>False)
 |_,_=>False
def zu(K:Frag)(ta tb:TE):TE:=λ σ H Q=>ta σ H λ x H1=>∃ k,xW K x H1 k/\if k=true then Q x H1 else tb σ H1 Q
theorem wC{a b:Expr}{rest:List Expr}{pos:Pos}(K:Frag)(ha:BE X a ta)(hb:BE X (.BoolOp .Or (b::rest) pos) tb)(hK:X.K=K):BE X (.BoolOp .Or (a::b::rest) pos) (zu K ta tb):=by
 subst hK;refine⟨λ pins s σ H Q I h=>?_⟩;refine BoolOp_or (thn (ha.h pins s σ H _ I h) λ v s1 ⟨x,H1,I1,r1,k,e,q1⟩=>?_);refine thn (uy pins s1 σ H1 x v (λ b H'=>b=k/\H'=H1) I1 r1 ⟨k,e,rfl,rfl⟩) λ c s2 ⟨H2,I2,ec,eh⟩=>?_;subst ec eh
 cases c with
 |false=>exact hb.h pins s2 σ H2 Q I2 q1
 |true=>exact⟨x,H2,I2,r1,q1⟩
def zv(fa fb:FE):FE:=λ ρ Q=>fa ρ λ r ρ1=>on1 ρ1 r λ d=>match jV d with
 |some k=>br k (Q r ρ1) (fb ρ1 Q)
 |none=>False
theorem wD{fb:FE}(ha:EF K μ ta fa)(hb:EF K μ tb fb):EF K μ (zu K ta tb) (zv fa fb):=⟨by
 intro F Z H τ σ ρ A Q P vw R h q;refine ha.h vw R h λ r1 ρ1 x F1 H1 A1 B1 h1 s1 R1 v1 f1=>?_;obtain⟨d,e1,h2⟩:=bq h1;split at h2
 ·rename_i k hk;refine⟨k,rP R1.fh (R1.acc v1 e1) hk,?_⟩
  cases k with
  |true=>exact q _ _ _ _ _ _ _ (rK h2) s1 R1 v1 f1
  |false=>exact hb.h vw R1 (rL h2) fun r2 ρ2 y F2 H2 A2 B2 h2 s2=>q _ _ _ _ _ _ _ h2 (s1.trans s2)
 ·exact h2.elim⟩
def wF(fo fe:FE):FE:=λ ρ Q=>fo ρ λ r ρ1=>on1 ρ1 r λ d=>match d with
 | .str z=>fe ρ1 λ r2 ρ2=>on1 ρ2 r2 λ d2=>(match d2 with
  | .lst ds=>(match bL ds with
   |some zs=>(zs.map (·.length)).sum+zs.length*z.length<=16777216/\Q (.ov (.fz (.str (Builtin.Str.glued z zs)))) ρ2
   |none=>False)
  |_=>False)
 |_=>False
theorem sy{to:TE}{fo:FE}(ho:EF K μ to fo)(he:EF K μ te fe):EF K μ (tBM K "str" (m9 K) to (bp te fP)) (wF fo fe):=⟨by
 intro F Z H τ σ ρ A Q P vw R h q;refine ho.h vw R h λ r1 ρ1 x F1 H1 A1 B1 h1 s1 R1 v1 f1=>?_;obtain⟨d,e1,h2⟩:=bq h1;split at h2
 ·rename_i z;have ex:=(R1.acc v1 e1).str_eq;subst ex;refine⟨rfl,he.h vw R1 h2 λ r2 ρ2 y F2 H2 A2 B2 h3 s2 R2 v2 f2=>?_⟩;obtain⟨d2,e2,h4⟩:=bq h3;split at h4
  ·split at h4
   ·rename_i zs hz;obtain⟨p,ys,rfl,a1,a2⟩:=(R2.acc v2 e2).asL R2.fh;rw[cm hz] at a2;rw[a2.strs_eq] at a1;exact⟨z,p,zs,rfl,rfl,a1,h4.1,q _ _ _ _ _ _ [] h4.2 (s1.trans s2) R2 (.fz (.str _)) Fresh.nil⟩
   ·exact h4.elim
  ·exact h4.elim
 ·exact h2.elim⟩
end
section
variable {K:Frag}
theorem zw(h:j<n):EF K (List.range n) (cV j) (af j):=py (by simp[h])
theorem ef_w(h:autoParam (j<n) L2.aD._auto_1):EF K (List.range n) (cV j) (af j):=zw h
theorem gf_n(h:j<n):GF K (List.range n) [j] (dN j) (ai j):=lm (by simp[h]) List.nodup_range
theorem sA(h:j<n)(he:EF K (List.range n) te fe):EF K (List.range n) (tBM K "list" cu (cV j) (bp te fP)) (xx j fe):=v9 (by simp[h]) he
theorem oa{m:List Nat}(h:(m.all λ i=>!T.contains i)=true):∀ i∈m,i∉T:=λ i hi hT=>by
 have:=ab0.mp h i hi;simp[hT] at this
theorem yF{no:Nat}(h:(T.all λ i=>decide (i<no))=true):∀ i∈T,i<no:=λ i hi=>of_decide_eq_true (ab0.mp h i hi)
theorem Fun.okG{mg:Str->Option Value}{base:Heap}{x qual:Str}{st:Stmt}{f:Addr}{fd:FuncData}{N ps:List Str}{k:Nat}{c:Ct}{fs:FS}(n:Nat)(m:List Nat)(F:Fun K x qual st f fd)(S:FnScope N ps (ae st))(hn:N.length=n)
  (hN:ps.length<=n) (hlen:∀ os P,c os P->os.length=ps.length/\∀ j o,os[j]?=some o->j∉m->mN o=true) (hm:∀ i∈m,i<ps.length)
  (hbody:∀ (cdv:Value) (A:Around) (outer:List Env) (s:Shared) (H:Hp) (E:XK),Room k (A.deeper (envOfC qual (ae st) s.heap.objs.size f cdv)) ->
   ∃ t,BSs (fU CX0 P w K mg base N qual (ae st) f cdv A outer s H E).nox (aK st) t/\SF K n m t fs)
  (hc:∀ os P,c os P->fs { nx:=fin m os P (.fz .non),rt:=fin m os P } (aL n os)):FnOk P w K mg base CX0 (k+1) f fd ps (spM K c):=by
 subst hn;exact Fun.okF F S hN hlen hm hbody hc
end
theorem bF{ft:FT}{P:List D->FSt->Prop}{as0:List D}(I:Nat->List D->FSt->Prop)(h0:I 0 as0 ρ)
  (hs:∀ (i:Nat) (d:D) (as:List D) (ρ:FSt) (R:List D->FSt->Prop),ds[i]?=some d->I i as ρ->(∀ as' ρ',I (i+1) as' ρ'->R as' ρ') ->
   fg d ρ λ ρ1=>ft ρ1 λ b ρ2=>br b (fe ρ2 λ r ρ3=>match fzR r ρ3 with
    |some (y,ρ4)=>as.length<sizeLine/\R (as++[y]) ρ4
    |none=>False) (R as ρ2))
  (hd:∀ as ρ,I ds.length as ρ->P as ρ):cj fg ft fe P ds as0 ρ:=by
 have main:∀ (k i:Nat) (as:List D) (ρ:FSt),i+k=ds.length->I i as ρ->cj fg ft fe P (ds.drop i) as ρ:=by
  intro k
  induction k with
  | zero=>
   intro i as ρ e h;have:i=ds.length:=by nofun
   subst this;rw[aaZ];exact lv (hd as ρ h)
  | succ k ih=>
   intro i as ρ e h;have hi:i<ds.length:=by nofun
   rw[aar hi];exact jH (hs i ds[i] as ρ _ (abA hi) h λ as' ρ' h'=>ih (i+1) as' ρ' (by nofun) h')
 have:=main ds.length 0 as0 ρ (by nofun) h0
 rwa [aaO] at this
theorem bG{fb:FS}{E:FEnds}(I:Nat->FSt->Prop)(h0:I 0 ρ)
  (hs:∀ (i:Nat) (d:D) (ρ:FSt) (R:FSt->Prop),ds[i]?=some d->I i ρ->(∀ ρ',I (i+1) ρ'->R ρ')->fg d ρ λ ρ1=>fb { nx:=R,ct:=R,bk:=E.nx,rt:=E.rt } ρ1)
  (hd:∀ ρ,I ds.length ρ->E.nx ρ):bC fg fb E ds ρ:=by
 have main:∀ (k i:Nat) (ρ:FSt),i+k=ds.length->I i ρ->bC fg fb E (ds.drop i) ρ:=by
  intro k
  induction k with
  | zero=>
   intro i ρ e h;have:i=ds.length:=by nofun
   subst this;rw[aaZ];exact lu (hd ρ h)
  | succ k ih=>
   intro i ρ e h;have hi:i<ds.length:=by nofun
   rw[aar hi];exact jG (hs i ds[i] ρ _ (abA hi) h λ ρ' h'=>ih (i+1) ρ' (by nofun) h')
 have:=main ds.length 0 ρ (by nofun) h0
 rwa [aaO] at this
theorem bt{i:Nat}(h:(bP lo n)[i]?=some d):i<n/\d=.int (lo+i):=by
 unfold bP at h;rw[abK,abi] at h;obtain⟨k,h1,rfl⟩:=h;obtain⟨h2,h3⟩:=abE.mp h1;rw[List.getElem_range] at h3;rw[ab5] at h2;subst h3;exact⟨h2,rfl⟩
theorem bu :(bP lo n).length=n:=by simp[bP]
theorem cD{xs:List D}{Q:D->Prop}(h0:0<=i)(h:i<xs.length)(q:∀ d∈xs,Q d):match atI xs i with
  |some d=>Q d
  | none=>False:=by
 obtain⟨c,h1,h2⟩:=pd h0 h;rw[h1];exact q c h2
theorem sB{xs:List Nat}{Q:Nat->Prop}(h0:0<=i)(h:i<xs.length)(q:∀ d∈xs,Q d):match atI xs i with
  |some d=>Q d
  | none=>False:=by
 obtain⟨c,h1,h2⟩:=pd h0 h;rw[h1];exact q c h2
theorem sC{a b:Str}:dEq (.str a) (.str b)=true↔a=b:=by
 show (a==b)=true↔_;rw[beq_iff_eq]
theorem fu{a b:Int}:wn (.int a) (.int b):=⟨rfl,rfl,aaI _⟩
theorem iU{z:Str}:∀ {zs:List Str},inV (.str z) (zs.map V.str)=true↔z∈zs
 |[]=>by simp[inV]
 | y::zs=>by
  have ih:=iU (z:=z) (zs:=zs);unfold inV at ih ⊢;rw[abC,abq,Bool.or_eq_true,ih,abG]
  have:eqV (.str y) (.str z)=true↔z=y:=by
   show (y==z)=true↔_;rw[beq_iff_eq];exact eq_comm
  rw[this]
theorem oe :inD (.str z) (zs.map D.str)=true↔z∈zs:=by
 unfold inD;have:(zs.map D.str).map vOf=zs.map V.str:=by rw[aao];rfl
 rw[this];exact iU
theorem gJ :wt (zs.map Sum.inr) (.inr z)=true↔z∈zs:=by
 unfold wt;rw[List.any_map,List.any_eq_true];constructor
 ·rintro⟨y,h1,h2⟩;have:=of_decide_eq_true h2;cases this;exact h1
 ·intro h;exact⟨z,h,by simp⟩
theorem sD{Q:List Str->Prop}(q:Q zs):match bL (zs.map .str) with
  |some zs=>Q zs
  | none=>False:=by
 rw[eG];exact q
theorem lF :(r6 (zs.map Sum.inr) ds (.inr z) d).1=(KS.dedup1 zs z).map Sum.inr:=by
 unfold r6 KS.dedup1;by_cases h:z∈zs
 ·have e:((zs.map Sum.inr).any λ x=>decide (x=(Sum.inr z:Key)))=true:=gJ.mpr h;rw[if_pos e,if_pos h]
 ·have e:¬ ((zs.map Sum.inr).any λ x=>decide (x=(Sum.inr z:Key)))=true:=λ q=>h (gJ.mp q);rw[if_neg e,if_neg h,aam];rfl
theorem gK:∀ (zs acc:List Str),(zs.foldl (λ acc z=>KS.dedup1 acc z) acc).length<=acc.length+zs.length
 |[],acc=>by simp
 | z::zs,acc=>by
  rw[List.foldl_cons,abL];have:=gK zs (KS.dedup1 acc z);have:=(cz acc z).2.1;nofun
theorem og(zs:List Str):(g0 zs).length<=zs.length:=by
 rw[g0,(aZ _).length_eq];have:=gK zs [];simpa [gH] using this
theorem lG{P:OV->Prop}(hl:zs.length<64)(h:P (.fl ((bY zs).map .str))):gI [.dct (zs.map Sum.inr) ds] P:=by
 unfold gI lD;simp only[dw];exact⟨hl,h⟩
def yG(fa:FE):FE:=λ ρ Q=>fa ρ λ r ρ1=>on1 ρ1 r λ d=>match d with
 |.int i=>Q (.ov (.fz (.int (-i)))) ρ1
 |_=>False
theorem wG{K:Frag}(ha:EF K μ ta fa):EF K μ (tUn (rU λ i=>.int (-i)) ta) (yG fa):=⟨by
 intro F Z H τ σ ρ A Q P vw R h q;refine ha.h vw R h λ r1 ρ1 x F1 H1 A1 B1 h1 s1 R1 v1 f1=>?_;obtain⟨d,e1,h2⟩:=bq h1;split at h2
 ·rename_i i;exact⟨i,(R1.acc v1 e1).int_eq,q _ _ _ _ _ _ _ h2 s1 R1 (.fz (.int _)) Fresh.nil⟩
 ·exact h2.elim⟩
end L2
namespace KS
open PySem PySem.Spec PyProof.Rows
open PySem.W
section
variable {prog:Program} {w:World} {K:Type} [DecidableEq K] {knd:KeyKind prog w K} {A:Around} {E:Value->Shared->Prop} {s:Shared}
end
end KS
namespace L2
open PySem PySem.Spec PyProof.Rows
variable{X:Cx}{μ:List Nat}{j:Nat}{te:TE}{fe:FE}
section
variable {K:Frag} 
end
section
variable {K:Frag} 
end
section
variable {K:Frag} 
end
section
variable {K:Frag} 
end
section
variable {K:Frag} 
end
section
variable {K:Frag}
end
section
variable {K:Frag}
end
section
variable  {pins:List (Addr×Obj)} {σ:St} {H:Hp} {s:Shared} {tg:Expr}
end
section
variable {K:Frag} 
end
theorem lH{c:FT}{f g:FS}{E:FEnds}{ρ:FSt}(I:FSt->Prop)(rest:∀ ρ,I ρ->E.nx ρ)(h:(∀ ρ,I ρ->E.nx ρ)->c ρ λ b ρ1=>br b (f E ρ1) (g E ρ1)):fIf c f g E ρ:=dR (h rest)
def yH(i:Nat)(fe:FE):FE:=λ ρ Q=>(unL ρ i).isSome=true/\fe ρ λ r ρ1=>match r with
 | .ov (.fl es)=>(match unL ρ1 i with
  |some ds=>ds.length+es.length<=sizeLine/\Q (.ov (.fz .non)) (ρ1.set i (some (.fl (ds++es))))
  |none=>False)
 |_=>False
section
variable {K:Frag} 
theorem wH{i:Nat}(hj:μ[j]?=some i)(he:EF K μ te fe):EF K μ (tBM K "list" eQ (cV j) (bp te fP)) (yH i fe):=⟨by
 intro F Z H τ σ ρ A Q P vw R h q;obtain⟨h0,h⟩:=h;obtain⟨ds0,e0⟩:=abZ.mp h0;obtain⟨a,xs,h1,h2,h3,_⟩:=R.mutL e0;refine⟨.ref a,(vw j i hj).1.trans h1,.inl ⟨rfl,xs,SqL.of h2⟩,?_⟩;refine he.h vw R h λ r ρ1 v F1 H1 A1 B1 p1 s1 R1 v1 f1=>?_;split at p1
 ·rename_i es;split at p1
  ·rename_i ds e3;obtain⟨a',xs',h1',h2',h3',mt⟩:=R1.mutL e3;rw[h1] at h1';cases h1'
   cases v1 with
   | @fl b ys _ hb dn=>
    obtain⟨A3,R3⟩:=mt (xs'++ys) (ds++es) (h3'.append dn);exact⟨a,b,xs',ys,rfl,rfl,h2',hb,by rw[h3'.length,dn.length];exact p1.1,q _ _ _ _ _ _ _ p1.2 s1 R3 (.fz .non) Fresh.nil⟩
  ·exact p1.elim
 ·exact p1.elim⟩
theorem sE{n:Nat}(h:j<n)(he:EF K (List.range n) te fe):EF K (List.range n) (tBM K "list" eQ (cV j) (bp te fP)) (yH j fe):=wH (by simp[h]) he
end
end L2
namespace L2
open PySem PySem.Spec PyProof.Rows PyProof.Rows
section
variable {X:Cx} {pins:List (Addr×Obj)} {σ:St} {H:Hp} {s:Shared}
end
section
variable {K:Frag} {n:Nat} {m:List Nat} {G:Hp->Prop}
end
end L2
namespace L2
open PySem PySem.Spec PyProof.Rows
variable{X:Cx}{pins:List (Addr×Obj)}{σ:St}{H:Hp}{s:Shared}
end L2
namespace L2
open PySem PySem.W PySem.Spec PyProof.Rows PySem.Calls PySem.Builtin PySem.Builtin.ObjectAttr PySem.Builtin.Getset_descriptor
section
variable {prog:Program} {w:World} {A:Around} {E:Value->Shared->Prop} {s:Shared} {K:Frag} {a C:Addr} {o:Obj}
end
section
variable {X:Cx}
end
end L2
namespace HT
open PySem PySem.Spec PyProof.Rows
section
variable {prog:Program} {w:World} {A:Around} {E:Value->Shared->Prop} {s:Shared}
end
end HT
namespace L2
open PySem PySem.Spec PyProof.Rows
variable{X:Cx}
section
variable {K:Frag} {μ:List Nat}
end
mutual
def depD:D->Nat
 |.lst xs=>depDs xs+1
 |.tup xs=>depDs xs+1
 |_=>0
def depDs:List D->Nat
 |[]=>0
 |d::ds=>max (depD d) (depDs ds)
end
mutual
def okS:D->Bool
 |.lst xs=>okSs xs
 |.tup xs=>okSs xs
 |.dct _ _=>false
 |.ty _=>false
 |.gt _=>false
 |.dt _ _=>false
 |_=>true
def okSs:List D->Bool
 |[]=>true
 |d::ds=>okS d&&okSs ds
end
section
variable  {pins:List (Addr×Obj)} {σ:St} {H:Hp} {s:Shared}
end
section
variable {K:Frag}
end
end L2
namespace L2
open PySem PySem.Spec PyProof.Rows
variable{X:Cx}{μ:List Nat}
open PySem.Builtin PySem.Builtin.Str
section
variable {K:Frag} 
end
section
variable {K:Frag} 
end
end L2
namespace L2
open PySem PySem.Spec PyProof.Rows
variable{X:Cx}{μ:List Nat}{A:Around}{E:Value->Shared->Prop}{s:Shared}
section
variable {K:Frag} 
end
section
variable {M:Model}   
end
section
variable {prog:Program} {w:World}   {R:Result->Shared->Prop} 
end
section
variable  {pins:List (Addr×Obj)} {σ:St} {H:Hp}  {T F:List Str} {ixs:List Nat} {scope:Scope} {fp:List Addr}
end
section
variable {K:Frag}  {G:Hp->Prop}
end
end L2
namespace L2
open PySem PySem.W PySem.Spec PyProof.Rows
section
variable {X:Cx}
end
end L2
namespace L2
open PySem PySem.Spec PyProof.Rows
section
variable {X:Cx}
end
section
variable {K:Frag} {μ:List Nat}
end
end L2
namespace L2
open PySem PySem.Builtin PySem.Builtin.Str PySem.StrLaws
end L2
namespace L2
open PySem PySem.Spec PyProof.Rows
open PySem.Builtin PySem.Builtin.Str PySem.StrLaws
section
variable {X:Cx}
end
section
variable {K:Frag} {μ:List Nat}
end
end L2
namespace L2
open PySem PySem.W PySem.Spec PyProof.Rows
section
variable {X:Cx}
end
end L2
namespace L2
open PySem PySem.Spec PyProof.Rows PySem.W
section
variable {n:Nat} {lt:Nat->Nat->Bool}
abbrev gA(p:Array Nat)(i:Nat):Nat:=p.getD i 0
def Up(lt:Nat->Nat->Bool)(p:Array Nat)(m:Nat):Prop:=∀ i j,i<j->j<m->lt (gA p i) (gA p j)=true
end
section
variable {prog:Program} {w:World} {A:Around} {s:Shared} {C:Bool->Shared->Prop} {bb fn:Bool}
end
section
variable {X:Cx}
end
section
variable {K:Frag}
end
end L2
namespace L2
open PySem PySem.Spec PyProof.Rows
variable{X:Cx}{ixs m:List Nat}{n no k:Nat}{te:TE}{c:Ct}{t:TA}{wi:TI}{g:TG}{tc ta tb td:Type}{os:List OV}{y:Prop}{x:Str}{st:Stmt}{f:Addr}{fd:FuncData}{ps:List Str}
section
variable {K:Frag}
end
def gL(fa:FE):FT:=b6 fa
def cL(_:List Nat)(no:Nat)(fi:FI)(fg:FG)(ft:FT)(fe:FE):FE:=v5 no fi fg ft fe
section
variable {K:Frag} {μ:List Nat} {i j:Nat}  {fe:FE}
theorem tf_B(ha:EF K μ te fe):TF K μ (tB te) (gL fe):=⟨(lj ha).h⟩
theorem oh{fa:FA}(ha:AF K μ t fa):EF K μ (jo (spM K c) [] E0 t) (aG c fa):=rT ha
theorem yI(h:μ[μ.idxOf i]?=some i):EF K μ (cV (μ.idxOf i)) (af i):=py h
theorem gf_c(h:decide (i<no)=true)(hn:(muC no ixs μ).Nodup):GF K (muC no ixs μ) [i] (dN i) (ai i):=lm (by
 unfold muC;rw[abP (by rw[ab5];exact of_decide_eq_true h)];simp[of_decide_eq_true h]) hn
theorem yJ{fi:FI}{fg:FG}{T:List Nat}{tc:TT}{fc:FT}(hi:ITF K μ wi fi)(hg:GF K (muC no ixs μ) T g fg)(hT:∀ i∈T,i<no)(hix:∀ j∈ixs,j<μ.length)
  (hc:TF K (muC no ixs μ) tc fc) (he:EF K (muC no ixs μ) te fe):EF K μ (ik no ixs wi g tc te) (cL ixs no fi fg fc fe):=rZ hi hix hg hT hc he
end
def xC(m:List Nat):Nat->List OV->Bool
 |_,[]=>true
 |i,o::os=>(m.contains i || mN o)&&xC m (i+1) os
theorem lI{m:List Nat}:∀ {os:List OV} {i:Nat},xC m i os=true->∀ j o,os[j]?=some o->i+j∉m->mN o=true
 |[],_,_,_,_,e,_=>nomatch e
 | a::os,i,h,j,o,e,n=>by
  rw[xC,abR,Bool.or_eq_true] at h
  cases j with
  | zero=>
   cases e;exact h.1.elim (λ z=>absurd (List.contains_iff_mem.mp z) n) id
  |succ j=>exact lI h.2 j o e (by rw [Nat.add_right_comm];exact n)
theorem lo_of(h1:os.length=n)(h2:xC m 0 os=true):os.length=n/\∀ j o,os[j]?=some o->j∉m->mN o=true:=⟨h1,λ j o e hj=>lI h2 j o e (by rw[ab9];exact hj)⟩
abbrev Lk(n:Nat)(m:List Nat)(os:List OV):Prop:=os.length=n/\∀ j o,os[j]?=some o->j∉m->mN o=true
theorem lq{l:List OV}{r:Prop}(h:os=l/\r)(k:Lk n m l):Lk n m os:=h.1 ▸ k
theorem ex1{r:ta->Prop}(h:∃ a,r a)(k:∀ a,r a->y):y:=h.elim k
theorem ex2{r:ta->tb->Prop}(h:∃ a b,r a b)(k:∀ a b,r a b->y):y:=h.elim λ a e=>ex1 e (k a)
theorem ex3{r:ta->tb->tc->Prop}(h:∃ a b c,r a b c)(k:∀ a b c,r a b c->y):y:=h.elim λ a e=>ex2 e (k a)
theorem ex4{r:ta->tb->tc->td->Prop}(h:∃ a b c d,r a b c d)(k:∀ a b c d,r a b c d->y):y:=h.elim λ a e=>ex3 e (k a)
theorem ex5{te:Type}{r:ta->tb->tc->td->te->Prop}(h:∃ a b c d e,r a b c d e)(k:∀ a b c d e,r a b c d e->y):y:=h.elim λ a e=>ex4 e (k a)
def tgN:Expr->List Str
 |.Name x _=>[x]
 | .Tuple es _ _=>es.filterMap λ e=>match e with
  |.Name x _=>some x
  |_=>none
 |_=>[]
def fvN(X:Cx)(ixs:List Nat):List Str:=ixs.map λ i=>X.N.getD i ""
theorem yL{l:List Str}(h:decide l.Nodup=true):l.Nodup:=of_decide_eq_true h
section
variable    {scope:Scope} {elt tg iter:Expr} {ifs:List Expr} {pos:Pos}   {tc:TT} 
theorem yM(hT:(tgN tg).length=no)(hc:X.calm=true)(S:CompScope X (tgN tg) (fvN X ixs) ixs scope)(hi:BI X tg iter wi)
  (hg:∀ C s H fp,BG (a0 X (tgN tg++fvN X ixs) scope (av X.env scope.names []) C s H fp) tg g) (ht:∀ C s H fp,BIf (a0 X (tgN tg++fvN X ixs) scope (av X.env scope.names []) C s H fp) ifs tc) (he:∀ C s H fp,BE (a0 X (tgN tg++fvN X ixs) scope (av X.env scope.names []) C s H fp) elt te)
  (hs:∀ x,foldedSetIterable iter X.env x=pure x):BE X (.ListComp elt [⟨tg,iter,ifs,0⟩] scope pos) (ik no ixs wi g tc te):=hT ▸ qU hc S hi hg ht he hs
theorem oi{p:Pos}{e:Expr}{es:List Expr}{f:Value}{r:List V->Hp->VK->Prop}(hc:BCall X f r)(hm:X.mg x=none)(hv:bootBuiltins x=some f)(hf:(∃ id,f=.builtin id)∨∃ T,f=.type T)(ha:BA X (e::es) t)(hg:X.env.kindOf x=some .globalImplicit)(hns:(e::es).all aP=true)(hn:(x == "__name__")=false)
  (hdb:(x==("__debug__" : Str))=false):BE X (.Call (.Name x p) (e::es) [] pos) (tCB r t):=by
 have hn':x ≠ "__name__" := λ z=>by rw[z] at hn;exact absurd hn (by decide)
 rcases hf with ⟨id,rfl⟩|⟨T,rfl⟩
 ·exact nj hc hm hv ha hg hns hn' hdb
 ·exact nk hc hm hv ha hg hns hn' hdb
end
structure Df(K:Frag)(x:Str)(st:Stmt)(f:Addr)(fd:FuncData):Prop where
 ns:PySem.W.nsIn K mainGlobals x=some (some (.ref f))
 fn:Fun K x x st f fd
theorem df_mk{K:Frag}{oc:Value}{od an:Option Addr}{osl:Array (Option Value)}{kV doc pm cdv ct:Value}(a:PySem.W.nsIn K mainGlobals x=some (some (.ref f)))(l:K.lookup f=some ⟨oc,od,.func (PySem.W.fnOf x x (bM st) (aK st) (ae st) .none kV doc pm an cdv ct),osl⟩)
  (c:PySem.W.codeIn K cdv x=true) (k:PySem.W.keepIn K (.ref f)=true):Df K x st f (PySem.W.fnOf x x (bM st) (aK st) (ae st) .none kV doc pm an cdv ct):=⟨a,uO l c k⟩
theorem sc_of{N P:List Str}{sc:Scope}(h1:sc.kind=.function)(h2:sc.isCoroutine=false)(h3:sc.isGenerator=false)(h4:N.take P.length=P)(h:N.Nodup/\(∀ x∈P,sc.names.lookup x=some .local∨sc.names.lookup x=some .cell)/\∀ y∈sc.names,y.2≠.free):FnScope N P sc:=⟨h1,h2,h3,h.1,h4,h.2.1,h.2.2⟩
abbrev Lh(c:Ct)(n:Nat)(m:List Nat):Prop:=∀ os P,c os P->os.length=n/\∀ j o,os[j]?=some o->j∉m->mN o=true
abbrev Hh(c:Ct)(f:FS)(m:List Nat)(n:Nat):Prop:=∀ os P,c os P->f { nx:=fin m os P (.fz .non),rt:=fin m os P } (aL n os)
structure Zz where
 P:Program
 w:World
 K:Frag
 mg:Str->Option Value
 base:Heap
 h:Heap
structure TopZ(Z:Zz)(T:Prop):Prop where
 X:Z.K.In Z.h
 G:Z.h.Ns mainGlobals Z.mg
 T:T
abbrev hJ(Z:Zz)(x:Str)(k:Nat)(ps:List Str)(c:Ct):Prop:=Own Z.P Z.w Z.K Z.mg Z.base x k ps (spM Z.K c)
section
variable {Z:Zz} {T:Prop} {q:Str}      {fs:FS}  
theorem wI(N:List Str)(t:TopZ Z T)(D:Fun Z.K x q st f fd)(hlen:Lh c ps.length m)(hc:Hh c fs m n)(S:FnScope N ps (ae st))
  (hbody:∀ (cdv:Value) (A:Around) (outer:List Env) (s:Shared) (H:Hp) (E:XK),T->N.Nodup->Room k (A.deeper (envOfC q (ae st) s.heap.objs.size f cdv)) ->
   ∃ t,SF Z.K n m t fs/\BSs (fU CX0 Z.P Z.w Z.K Z.mg Z.base N q (ae st) f cdv A outer s H E).nox (aK st) t) (hn:autoParam (N.length=n) L2.aR._auto_1) (hN:autoParam (ps.length<=n) L2.aD._auto_1) (hm:autoParam (∀ i∈m,i<ps.length) L2.aD._auto_1):FnOk Z.P Z.w Z.K Z.mg Z.base CX0 (k+1) f fd ps (spM Z.K c):=
 Fun.okG n m D S hn hN hlen hm (λ cdv A outer s H E hr=>let ⟨t,a,b⟩:=hbody cdv A outer s H E t.T S.nd hr;⟨t,b,a⟩) hc
theorem bv(N:List Str)(t:TopZ Z T)(D:Df Z.K x st f fd)(hlen:Lh c ps.length m)(hc:Hh c fs m n)
  (hb:∀ (kV doc pm:Value) (an:Option Addr) (cdv ct:Value) (us:List Value),us.length=ps.length->bindArgs (PySem.W.fnOf x x (bM st) (aK st) (ae st) .none kV doc pm an cdv ct) ⟨us,[]⟩=pure (ps.zip us)) (S:FnScope N ps (ae st))
  (hbody:∀ (cdv:Value) (A:Around) (outer:List Env) (s:Shared) (H:Hp) (E:XK),T->N.Nodup->Room k (A.deeper (envOfC x (ae st) s.heap.objs.size f cdv)) ->
   ∃ t,SF Z.K n m t fs/\BSs (fU CX0 Z.P Z.w Z.K Z.mg Z.base N x (ae st) f cdv A outer s H E).nox (aK st) t) (hn:autoParam (N.length=n) L2.aR._auto_1) (hN:autoParam (ps.length<=n) L2.aD._auto_1) (hm:autoParam (∀ i∈m,i<ps.length) L2.aD._auto_1):hJ Z x (k+1) ps c:=
 ⟨f,fd,wI N t D.fn hlen hc S hbody hn hN hm,PySem.W.mg_of t.X t.G D.ns,D.fn.kp,D.fn.binds hb⟩
end
theorem wJ{P:Program}{w:World}{K:Frag}{mg:Str->Option Value}{base h:Heap}{sp:Sp}(X:K.In h)(G:h.Ns mainGlobals mg)(D:Df K x st f fd)(ok:FnOk P w K mg base CX0 k f fd ps sp)
  (hb:∀ (kV doc pm:Value) (an:Option Addr) (cdv ct:Value) (us:List Value),us.length=ps.length->bindArgs (PySem.W.fnOf x x (bM st) (aK st) (ae st) .none kV doc pm an cdv ct) ⟨us,[]⟩=pure (ps.zip us)):Own P w K mg base x k ps sp:=⟨f,fd,ok,PySem.W.mg_of X G D.ns,D.fn.kp,D.fn.binds hb⟩
end L2
namespace KL
open PySem PyProof.Rows
variable{k:Value->Int}{i j lo a nrem n base r t na nb m:Nat}{A:Around}{E:Value->Shared->Prop}{s:Shared}{l:Bool}{l2:List (Nat×Nat×Nat)}
abbrev kk(k:Value->Int)(p:Keyed):Int:=k p.1
def kx(k:Value->Int)(xs:Array Keyed)(i:Nat):Int:=match xs[i]? with
 |some p=>kk k p
 |none=>0
theorem ap{xs:Array Keyed}{p:Keyed}(h:xs[i]?=some p):kx k xs i=kk k p:=by unfold kx;rw[h]
theorem ak{xs ys:Array Keyed}(h:xs[i]?=ys[j]?):kx k xs i=kx k ys j:=by unfold kx;rw[h]
def aO(k:Value->Int)(xs:Array Keyed)(lo n:Nat):Prop:=∀ i j,lo<=i->i<j->j<lo+n->kx k xs i<kx k xs j
def Cmp(M:Model)(A:Around)(E:Value->Shared->Prop)(s:Shared)(k:Value->Int)(U:List Keyed)(kd:SortKind):Prop:=
 ∀ x∈U,∀ y∈U,∀ (st:SortSt) (Q:Option Bool->SortSt->Prop),kk k x≠kk k y->kindOf st=kd->Q (some (decide (kk k x<kk k y))) st->wpS M A E s (lt' x y) Q st
structure Ok(U:List Keyed)(kd:SortKind)(st:SortSt):Prop where
 perm:(arrOf st).toList.Perm U
 kind:kindOf st=kd
 failed:failedOf st=none
theorem Ok.size{U:List Keyed}{kd:SortKind}{st:SortSt}(o:Ok U kd st):(arrOf st).size=U.length:=by
 have:=o.perm.length_eq
 rwa [abz] at this
theorem Ok.at{U:List Keyed}{kd:SortKind}{st:SortSt}(o:Ok U kd st)(h:i<U.length):∃ p∈U,(arrOf st)[i]?=some p:=by
 have hi:i<(arrOf st).size:=by rw[o.size];exact h
 exact⟨(arrOf st)[i],o.perm.mem_iff.mp (by simp),getElem?_pos _ i hi⟩
theorem Ok.set{U:List Keyed}{kd:SortKind}{st:SortSt}(o:Ok U kd st){xs:Array Keyed}(h:xs.Perm (arrOf st)):Ok U kd (setArr st xs):=
 ⟨(Array.perm_iff_toList_perm.mp h).trans o.perm,o.kind,o.failed⟩
theorem Ok.ne{U:List Keyed}{kd:SortKind}{st:SortSt}(o:Ok U kd st)(hU:(U.map (kk k)).Nodup)(hi:i<U.length)(hj:j<U.length)(n:i≠j):kx k (arrOf st) i≠kx k (arrOf st) j:=by
 have nd:((arrOf st).toList.map (kk k)).Nodup:=(o.perm.map (kk k)).nodup_iff.mpr hU;have hs:=o.size;have hi':i<(arrOf st).size:=by nofun
 have hj':j<(arrOf st).size:=by nofun
 rw[ap (getElem?_pos _ i hi'),ap (getElem?_pos _ j hj')];have P:=ab8.mp nd;rcases Nat.lt_or_gt_of_ne n with h|h
 ·have:=P i j (by exists hi') (by exists hj') h;simpa using this
 ·have:=P j i (by exists hj') (by exists hi') h;intro e;exact this (by simpa using e.symm)
section
variable {M:Model}     {U:List Keyed} {kd:SortKind}
theorem aH{arr:Array Keyed}{x:Keyed}{Q:Keyed->SortSt->Prop}{st:SortSt}(h:arr[i]?=some x)(q:Q x st):wpS M A E s (elem' arr i) Q st:=by
 rw[elem'_eq,h];exact wpS_pure q
theorem gM(hC:Cmp M A E s k U kd)(hU:(U.map (kk k)).Nodup){st:SortSt}(o:Ok U kd st)(hi:i<U.length)(hj:j<U.length)(hn:i≠j){Q:Option Bool->SortSt->Prop}(q:Q (some (decide (kx k (arrOf st) i<kx k (arrOf st) j))) st):wpS M A E s (ltAt' i j) Q st:=by
 obtain⟨x,hx,ex⟩:=o.at hi;obtain⟨y,hy,ey⟩:=o.at hj;have n:=o.ne hU hi hj hn;rw[ap ex,ap ey] at q n;rw[ltAt'_eq];refine wpS_bind (wpS_get ?_);exact wpS_bind (aH ex (wpS_bind (aH ey (hC x hx y hy st Q n o.kind q))))
theorem eK{t:String}{Q:Unit->SortSt->Prop}{st:SortSt}(q:Q () st):wpS M A E s (liftM (rule t):StateT SortSt Sem Unit) Q st:=wpS_lift (wpAny_rule ⟨rfl,q⟩)
theorem gN{st:SortSt}{Q:Unit->SortSt->Prop}(h:Q () (setArr st (mirror (arrOf st) i j ((j - i) / 2)))):wpS M A E s (reverseSlice' i j) Q st:=by
 rw[reverseSlice'_eq];exact wpS_modify h
theorem wK(hC:Cmp M A E s k U kd){st:SortSt}(o:Ok U kd st)(hl:lo+nrem<=U.length)(ha:1<=a)(han:a<=nrem)(hs:aO k (arrOf st) lo a)(hU:(U.map (kk k)).Nodup){f:Nat->Option (Option Nat)×Nat->StateT SortSt Sem (ForInStep (Option (Option Nat)×Nat))}
  (hf:∀ x n,f x (none,n)=ltAt' (lo+n) (lo+n - 1) >>= λ r=>match r with
   |some c=>if c=true then pure (.done (none,n)) else pure (.yield (none,n+1))
   |none=>pure (.done (some none,n)))
  {Q:Option (Option Nat)×Nat->SortSt->Prop} (q:∀ n,a<=n->n<=nrem->aO k (arrOf st) lo n->(n=nrem∨kx k (arrOf st) (lo+n)<kx k (arrOf st) (lo+n - 1))->Q (none,n) st) :
  wpS M A E s (forIn [a:nrem] ((none,a):Option (Option Nat)×Nat) f) Q st:=by
 refine wpS_forRange (I:=λ x c st'=>st'=st/\c=(none,x)/\aO k (arrOf st) lo x) ?_ ?_ ⟨rfl,rfl,hs⟩
 ·rintro x c st' hax hxn ⟨rfl,rfl,hs'⟩;rw[hf];refine wpS_bind (gM hC hU o (by nofun) (by nofun) (by nofun) ?_);by_cases hless:kx k (arrOf st') (lo+x)<kx k (arrOf st') (lo+x - 1)
  ·simp only[hless,decide_true,if_true];exact wpS_pure (q x hax (by nofun) hs' (.inr hless))
  ·simp only[hless,decide_false,Bool.false_eq_true,if_false];refine wpS_pure ⟨rfl,rfl,λ i j h1 h2 h3=>?_⟩;by_cases hjx:j<lo+x
   ·exact hs' i j h1 h2 hjx
   ·have e:j=lo+x:=by nofun
    subst e;have n1:=o.ne hU (i:=lo+x) (j:=lo+x - 1) (by nofun) (by nofun) (by nofun);by_cases hi:i=lo+x - 1
    ·subst hi;nofun
    ·have:=hs' i (lo+x - 1) h1 (by nofun) (by nofun);nofun
 ·rintro c st' ⟨rfl,rfl,hs'⟩;rw[show max a nrem=nrem by nofun] at hs' ⊢;exact q nrem han (aad _) hs' (.inl rfl)
theorem jL(hC:Cmp M A E s k U kd)(hU:(U.map (kk k)).Nodup){st:SortSt}(o:Ok U kd st)(hl:lo+nrem<=U.length)(h1:1<=nrem){Q:Option Nat->SortSt->Prop}
  (q:∀ n st',Ok U kd st'->(∀ i,i<lo->(arrOf st')[i]?=(arrOf st)[i]?)->pendingOf st'=pendingOf st->1<=n->n<=nrem->aO k (arrOf st') lo n->Q (some n) st'):wpS M A E s (countRun' lo nrem) Q st:=by
 unfold countRun';refine wpS_bind (wK hC o hl (aad 1) h1 (λ i j h2 h3 h4=>by nofun) hU (λ x n=>by show (_ >>= _)=(_ >>= _);congr 1;funext r;cases r <;> rfl) λ n hn1 hn2 hsn hor=>?_);dsimp only;by_cases hnn:n=nrem
 ·rw[if_pos (by exists hnn)];exact wpS_pure (q n st o (λ _ _=>rfl) rfl hn1 hn2 hsn)
 rw[if_neg (by exists hnn)];have hlt:=hor.resolve_left hnn;by_cases hgt:n > 1
 ·rw[if_pos hgt];refine wpS_bind (gM hC hU o (by nofun) (by nofun) (by nofun) ?_);have hr:kx k (arrOf st) lo<kx k (arrOf st) (lo+n - 1):=hsn _ _ (aad _) (by nofun) (by nofun);simp only[hr,decide_true,if_true];exact wpS_pure (q n st o (λ _ _=>rfl) rfl hn1 hn2 hsn)
 rw[if_neg hgt];have e1:n=1:=by nofun
 subst e1;refine wpS_bind (eK ?_)
 refine wpS_bind (wpS_mono (wpS_forRange (I:=λ x c st'=>st'=st/\c=(none,x,0)/\∀ i j,lo<=i->i<j->j<lo+x->kx k (arrOf st) j<kx k (arrOf st) i)
  (Q:=λ c st'=>st'=st/\∃ n,c=(none,n,0)/\2<=n/\n<=nrem/\∀ i j,lo<=i->i<j->j<lo+n->kx k (arrOf st) j<kx k (arrOf st) i) ?_ ?_ ⟨rfl,rfl,λ i j h2 h3 h4=>?_⟩) ?_)
 ·rintro x c st' hax hxn ⟨rfl,rfl,hs'⟩;dsimp only;refine wpS_bind (gM hC hU o (by nofun) (by nofun) (by nofun) ?_);have n1:=o.ne hU (i:=lo+x) (j:=lo+x - 1) (by nofun) (by nofun) (by nofun);by_cases hless:kx k (arrOf st') (lo+x)<kx k (arrOf st') (lo+x - 1)
  ·simp only[hless,decide_true,if_true];rw[if_neg (aaD 0)];refine wpS_pure ⟨rfl,rfl,λ i j h2 h3 h4=>?_⟩;by_cases hjx:j<lo+x
   ·exact hs' i j h2 h3 hjx
   ·have e:j=lo+x:=by nofun
    subst e;by_cases hi:i=lo+x - 1
    ·subst hi;exact hless
    ·have:=hs' i (lo+x - 1) h2 (by nofun) (by nofun);nofun
  ·simp only[hless,decide_false,Bool.false_eq_true,if_false];refine wpS_bind (gM hC hU o (by nofun) (by nofun) (by nofun) ?_);have hl2:kx k (arrOf st') (lo+x - 1)<kx k (arrOf st') (lo+x):=by nofun
   simp only[hl2,decide_true,if_true];exact wpS_pure ⟨rfl,x,rfl,hax,by nofun,hs'⟩
 ·rintro c st' ⟨rfl,rfl,hs'⟩;exact⟨rfl,_,rfl,by nofun,by nofun,hs'⟩
 ·have e2:i=lo:=by nofun
  have e3:j=lo+1:=by nofun
  subst e2;subst e3;exact hlt
 rintro c st' ⟨rfl,n,rfl,hn2,hn3,hs'⟩;dsimp only;rw[if_neg (aaD 0)];have hsz:lo+n<=(arrOf st').size:=by rw[o.size];nofun
 refine wpS_bind (gN ?_);have o':Ok U kd (setArr st' (mirror (arrOf st') lo (lo+n) ((lo+n - lo) / 2))):=o.set (mirror_perm _ _ _ _);have hm:=λ k=>getElem?_mirror_all (i:=lo) hsz k;refine wpS_bind (wK hC o' hl (by nofun) hn3 (λ i j h2 h3 h4=>?_) hU (λ x n=>by show (_ >>= _)=(_ >>= _);congr 1;funext r;cases r <;> rfl) λ m hm1 hm2 hsm _=>?_)
 ·have:=hs' (lo+(lo+n) - 1 - j) (lo+(lo+n) - 1 - i) (by nofun) (by nofun) (by nofun);have ei:=hm i;have ej:=hm j;rw[if_pos (by nofun)] at ei ej;show kx k (mirror (arrOf st') lo (lo+n) ((lo+n - lo) / 2)) i<kx k (mirror (arrOf st') lo (lo+n) ((lo+n - lo) / 2)) j;rw[ak ei,ak ej];exact this
 ·dsimp only;refine wpS_pure (q m _ o' (λ i hi=>?_) rfl (by nofun) hm2 hsm);have ei:=hm i;rw[if_neg (by nofun)] at ei;exact ei
theorem gO(hC:Cmp M A E s k U kd)(hU:(U.map (kk k)).Nodup){st:SortSt}(o:Ok U kd st){ok:Nat}(hl:lo+n<=U.length)(h1:1<=ok)(hok:ok<=n)(hs:aO k (arrOf st) lo ok){Q:Bool->SortSt->Prop}
  (q:∀ st',Ok U kd st'->(∀ i,i<lo->(arrOf st')[i]?=(arrOf st)[i]?)->pendingOf st'=pendingOf st->aO k (arrOf st') lo n->Q true st'):wpS M A E s (binarySort' lo n ok) Q st:=by
 unfold binarySort'
 refine wpS_bind (wpS_mono (wpS_forRange (I:=λ x c st'=>c=(none,())/\Ok U kd st'/\(∀ i,i<lo->(arrOf st')[i]?=(arrOf st)[i]?)/\pendingOf st'=pendingOf st/\aO k (arrOf st') lo (min x n))
  (Q:=λ c st'=>c=(none,())/\Ok U kd st'/\(∀ i,i<lo->(arrOf st')[i]?=(arrOf st)[i]?)/\pendingOf st'=pendingOf st/\aO k (arrOf st') lo n) ?_ ?_ ⟨rfl,o,λ _ _=>rfl,rfl,λ i j h2 h3 h4=>hs i j h2 h3 (by nofun)⟩) ?_)
 ·rintro x c st' hax hxn ⟨rfl,o',hb,hp,hs'⟩;rw[show min x n=x by nofun] at hs';dsimp only
  refine wpS_bind (wpS_mono (wpS_forRange (I:=λ y c st''=>st''=st'/\∃ l r,c=(none,l,r)/\l<=r/\r<=x/\r - l<=x - y/\(∀ i,i<l->kx k (arrOf st') (lo+i)<kx k (arrOf st') (lo+x))/\(∀ i,r<=i->i<x->kx k (arrOf st') (lo+x)<kx k (arrOf st') (lo+i)))
   (Q:=λ c st''=>st''=st'/\∃ l,c=(none,l,l)/\l<=x/\(∀ i,i<l->kx k (arrOf st') (lo+i)<kx k (arrOf st') (lo+x))/\(∀ i,l<=i->i<x->kx k (arrOf st') (lo+x)<kx k (arrOf st') (lo+i))) ?_ ?_ ⟨rfl,0,x,rfl,by nofun,by nofun,by nofun,λ i hi=>by nofun,λ i h2 h3=>by nofun⟩) ?_)
  ·rintro y c st'' _ hy ⟨rfl,l,r,rfl,hlr,hrx,hm,hlo,hhi⟩;dsimp only;by_cases hge:l ≥ r
   ·rw[if_pos hge];have e:l=r:=by nofun
    subst e;exact wpS_pure ⟨rfl,l,rfl,hrx,hlo,hhi⟩
   rw[if_neg hge];refine wpS_bind (gM hC hU o' (by nofun) (by nofun) (by nofun) ?_);have n1:=o'.ne hU (i:=lo+x) (j:=lo+(l+r) / 2) (by nofun) (by nofun) (by nofun);by_cases hless:kx k (arrOf st'') (lo+x)<kx k (arrOf st'') (lo+(l+r) / 2)
   ·simp only[hless,decide_true,if_true];refine wpS_pure ⟨rfl,l,(l+r) / 2,rfl,by nofun,by nofun,by nofun,hlo,λ i h2 h3=>?_⟩;by_cases e:i=(l+r) / 2
    ·subst e;exact hless
    ·have:=hs' (lo+(l+r) / 2) (lo+i) (by nofun) (by nofun) (by nofun);nofun
   ·simp only[hless,decide_false,Bool.false_eq_true,if_false];refine wpS_pure ⟨rfl,(l+r) / 2+1,r,rfl,by nofun,by nofun,by nofun,λ i h2=>?_,hhi⟩;by_cases e:i=(l+r) / 2
    ·subst e;nofun
    ·have:=hs' (lo+i) (lo+(l+r) / 2) (by nofun) (by nofun) (by nofun);nofun
  ·rintro c st'' ⟨rfl,l,r,rfl,hlr,hrx,hm,hlo,hhi⟩;have e:l=r:=by nofun
   subst e;exact⟨rfl,l,rfl,hrx,hlo,hhi⟩
  ·rintro c st'' ⟨rfl,l,rfl,hlx,hlo,hhi⟩;dsimp only;show wpS M A E s (moveDown' (lo+x) (lo+l) >>= _) _ _;rw[moveDown'_eq];have hks:lo+x<(arrOf st'').size:=by rw[o'.size];nofun
   have hm:=λ y=>getElem?_bubble hks (lo+x - (lo+l)) (by nofun) y;refine wpS_bind (wpS_modify (wpS_pure ⟨rfl,o'.set (bubble_perm _ _ _),λ i hi=>?_,hp,?_⟩))
   ·have e:=hm i;rw[if_neg (by nofun),if_neg (by nofun)] at e;exact e.trans (hb i hi)
   rw[show min (x+1) n=x+1 by nofun];intro i j h2 h3 h4;show kx k (bubble (arrOf st'') (lo+x) (lo+x - (lo+l))) i<kx k (bubble (arrOf st'') (lo+x) (lo+x - (lo+l))) j;have ei:=hm i;have ej:=hm j;rw[show lo+x - (lo+x - (lo+l))=lo+l by nofun] at ei ej;have H1:∀ y,lo<=y->y<lo+l->kx k (arrOf st'') y<kx k (arrOf st'') (lo+x):=λ y a b=>by have:=hlo (y - lo) (by nofun);rwa [show lo+(y - lo)=y by nofun] at this
   have H2:∀ y,lo+l<=y->y<lo+x->kx k (arrOf st'') (lo+x)<kx k (arrOf st'') y:=λ y a b=>by have:=hhi (y - lo) (by nofun) (by nofun);rwa [show lo+(y - lo)=y by nofun] at this
   by_cases hi:i=lo+l
   ·rw[if_pos hi] at ei;rw[if_neg (by nofun),if_pos (by nofun)] at ej;rw[ak ei,ak ej];exact H2 _ (by nofun) (by nofun)
   rw[if_neg hi] at ei;by_cases hj:j=lo+l
   ·rw[if_pos hj] at ej;rw[if_neg (by nofun)] at ei;rw[ak ei,ak ej];exact H1 _ h2 (by nofun)
   rw[if_neg hj] at ej;by_cases hi2:lo+l<i
   ·rw[if_pos (by nofun)] at ei ej;rw[ak ei,ak ej];exact hs' _ _ (by nofun) (by nofun) (by nofun)
   ·rw[if_neg (by nofun)] at ei;by_cases hj2:lo+l<j
    ·rw[if_pos (by nofun)] at ej;rw[ak ei,ak ej];exact hs' _ _ (by nofun) (by nofun) (by nofun)
    ·rw[if_neg (by nofun)] at ej;rw[ak ei,ak ej];exact hs' _ _ (by nofun) (by nofun) (by nofun)
 ·rintro c st' ⟨rfl,o',hb,hp,hs'⟩;rw[show min (max (max ok 1) n) n=n by nofun] at hs';exact⟨rfl,o',hb,hp,hs'⟩
 ·rintro c st' ⟨rfl,o',hb,hp,hs'⟩;exact wpS_pure (q st' o' hb hp hs')
end
def lJ:Bool->Keyed->Array Keyed->Nat->Nat->Nat->StateT SortSt Sem (Option Nat):=sortPriv% PySem.Builtin.gallop
section
variable {M:Model}     {U:List Keyed} {kd:SortKind}
theorem oj(hC:Cmp M A E s k U kd){st:SortSt}(hk:kindOf st=kd){key x:Keyed}(hkey:key∈U)(hx:x∈U){arr:Array Keyed}(hj:arr[j]?=some x)(hne:kk k x≠kk k key){Q:Option Bool->SortSt->Prop}(q:Q (some (decide (kx k arr j<kk k key))) st) :
  wpS M A E s (elem' arr j >>= λ x=>if l=true then lt' x key else lt' key x >>= λ r=>pure (Option.map (λ x=>!x) r)) Q st:=by
 rw[ap hj] at q;refine wpS_bind (aH hj ?_)
 cases l with
 |true=>exact hC x hx key hkey st Q hne hk q
 | false=>
  refine wpS_bind (hC key hkey x hx st _ (abl hne) hk (wpS_pure ?_))
  have e:(!decide (kk k key<kk k x))=decide (kk k x<kk k key):=by
   by_cases h:kk k x<kk k key
   ·simp only[h,decide_true];simp;nofun
   ·simp only[h,decide_false];simp;nofun
  show Q (some (!decide (kk k key<kk k x))) st;rw[e];exact q
theorem iV{st:SortSt}{hi:Nat}{g:Nat->Bool}{B:Nat->StateT SortSt Sem (Option Bool)}(hB:∀ i,i<n->∀ Q:Option Bool->SortSt->Prop,Q (some (g i)) st->wpS M A E s (B i) Q st)(hg:∀ i j,i<j->j<n->g j=true->g i=true)
  (hlh:lo<=hi) (hhn:hi<=n) (h1:∀ i,i<lo->g i=true) (h2:∀ i,hi<=i->i<n->g i=false)
  {f:Nat->Option (Option Nat)×Nat×Nat->StateT SortSt Sem (ForInStep (Option (Option Nat)×Nat×Nat))}
  (hf:∀ x lo hi,f x (none,lo,hi)=if lo ≥ hi then pure (.done (none,lo,hi)) else B (lo+(hi - lo) / 2) >>= λ r=>match r with
   |some c=>if c=true then pure (.yield (none,lo+(hi - lo) / 2+1,hi)) else pure (.yield (none,lo,lo+(hi - lo) / 2))
   |none=>pure (.done (some none,lo,hi)))
  {Q:Option (Option Nat)×Nat×Nat->SortSt->Prop} (q:∀ r,r<=n->(∀ i,i<r->g i=true)->(∀ i,r<=i->i<n->g i=false)->Q (none,r,r) st) :
  wpS M A E s (forIn [0:n] ((none,lo,hi):Option (Option Nat)×Nat×Nat) f) Q st:=by
 refine wpS_forRange (I:=λ y c st'=>st'=st/\∃ a b,c=(none,a,b)/\a<=b/\b<=n/\b - a<=n - y/\(∀ i,i<a->g i=true)/\(∀ i,b<=i->i<n->g i=false)) ?_ ?_ ⟨rfl,lo,hi,rfl,hlh,hhn,by nofun,h1,h2⟩
 ·rintro y c st' _ hy ⟨rfl,a,b,rfl,hab,hbn,hm,g1,g2⟩;rw[hf];by_cases hge:a ≥ b
  ·rw[if_pos hge];have e:a=b:=by nofun
   subst e;exact wpS_pure (q a hbn g1 g2)
  rw[if_neg hge];refine wpS_bind (hB _ (by nofun) _ ?_)
  cases e:g (a+(b - a) / 2) with
  | true=>
   refine wpS_pure ⟨rfl,_,b,rfl,by nofun,hbn,by nofun,λ i hi=>?_,g2⟩;by_cases e2:i=a+(b - a) / 2
   ·rw[e2];exact e
   ·exact hg i _ (by nofun) (by nofun) e
  | false=>
   refine wpS_pure ⟨rfl,a,_,rfl,by nofun,by nofun,by nofun,g1,λ i h3 h4=>?_⟩;by_cases e2:i=a+(b - a) / 2
   ·rw[e2];exact e
   ·cases e3:g i with
    |false=>rfl
    |true=>rw[hg (a+(b - a) / 2) i (by nofun) h4 e3] at e;cases e
 ·rintro c st' ⟨rfl,a,b,rfl,hab,hbn,hm,g1,g2⟩;have e:a=b:=by nofun
  subst e;exact q a hbn g1 g2
theorem bW(hC:Cmp M A E s k U kd){st:SortSt}(hk:kindOf st=kd){key:Keyed}(hkey:key∈U){arr:Array Keyed}{hint:Nat}(hin:∀ i,i<n->∃ x∈U,arr[base+i]?=some x)(hs:aO k arr base n)(hne:∀ i,i<n->kx k arr (base+i)≠kk k key)(hh:hint<n)
  {Q:Option Nat->SortSt->Prop} (q:∀ r,r<=n->(∀ i,i<r->kx k arr (base+i)<kk k key)->(∀ i,r<=i->i<n->kk k key<kx k arr (base+i))->Q (some r) st):wpS M A E s (lJ l key arr base n hint) Q st:=by
 have hB:∀ i,i<n->∀ Q:Option Bool->SortSt->Prop,Q (some (decide (kx k arr (base+i)<kk k key))) st->wpS M A E s (elem' arr (base+i) >>= λ x=>if l=true then lt' x key else lt' key x >>= λ r=>pure (Option.map (λ x=>!x) r)) Q st:=λ i hi Q q=>by
  obtain⟨x,hx,ex⟩:=hin i hi;have:=hne i hi;rw[ap ex] at this;exact oj hC hk hkey hx ex this q
 have hg:∀ i j,i<j->j<n->decide (kx k arr (base+j)<kk k key)=true->decide (kx k arr (base+i)<kk k key)=true:=λ i j h1 h2 h3=>by
  have:=hs (base+i) (base+j) (by nofun) (by nofun) (by nofun);have:=of_decide_eq_true h3;exact decide_eq_true (by nofun)
 have fin:∀ r,r<=n->(∀ i,i<r->decide (kx k arr (base+i)<kk k key)=true)->(∀ i,r<=i->i<n->decide (kx k arr (base+i)<kk k key)=false)->Q (some r) st:=λ r h1 h2 h3=>q r h1 (λ i hi=>of_decide_eq_true (h2 i hi)) λ i h4 h5=>by
  have:=of_decide_eq_false (h3 i h4 h5);have:=hne i h5;nofun
 unfold lJ;refine wpS_bind (hB hint hh _ ?_)
 cases eh:decide (kx k arr (base+hint)<kk k key) with
 | true=>
  dsimp only;rw[if_pos rfl]
  refine wpS_bind (wpS_mono (wpS_forRange (I:=λ y c st'=>st'=st/\∃ a b,c=(none,a,b)/\a<b/\y<b/\hint+a<n/\decide (kx k arr (base+(hint+a))<kk k key)=true)
   (Q:=λ c st'=>st'=st/\∃ a b,c=(none,a,b)/\a<b/\hint+a<n/\decide (kx k arr (base+(hint+a))<kk k key)=true/\(n - hint<=b∨decide (kx k arr (base+(hint+b))<kk k key)=false)) ?_ ?_ ⟨rfl,0,1,rfl,by nofun,by nofun,hh,eh⟩) ?_)
  ·rintro y c st' _ hy ⟨rfl,a,b,rfl,hab,hyb,han,ga⟩;dsimp only;by_cases hge:b ≥ n - hint
   ·rw[if_pos hge];exact wpS_pure ⟨rfl,a,b,rfl,hab,han,ga,.inl hge⟩
   rw[if_neg hge];refine wpS_bind (hB _ (by nofun) _ ?_)
   cases e:decide (kx k arr (base+(hint+b))<kk k key) with
   |true=>exact wpS_pure ⟨rfl,b,2*b+1,rfl,by nofun,by nofun,by nofun,e⟩
   |false=>exact wpS_pure ⟨rfl,a,b,rfl,hab,han,ga,.inr e⟩
  ·rintro c st' ⟨rfl,a,b,rfl,hab,hyb,han,ga⟩;exact⟨rfl,a,b,rfl,hab,han,ga,.inl (by nofun)⟩
  ·rintro c st' ⟨rfl,a,b,rfl,hab,han,ga,gb⟩;dsimp only
   refine wpS_bind (iV hB hg (by nofun) (by nofun) (λ i hi=>?_) (λ i h1 h2=>?_) (λ x lo hi=>by
    dsimp only;split
    ·rfl
    ·congr 1;funext r;cases r <;> rfl) λ r h1 h2 h3=>wpS_pure (fin r h1 h2 h3))
   ·by_cases e:i=hint+a
    ·rw[e];exact ga
    ·exact hg i (hint+a) (by nofun) (by nofun) ga
   ·rcases gb with gb|gb
    ·nofun
    ·by_cases e:i=hint+b
     ·rw[e];exact gb
     ·cases e3:decide (kx k arr (base+i)<kk k key) with
      |false=>rfl
      |true=>rw[hg (hint+b) i (by nofun) h2 e3] at gb;cases gb
 | false=>
  dsimp only;rw[if_neg Bool.false_ne_true]
  refine wpS_bind (wpS_mono (wpS_forRange (I:=λ y c st'=>st'=st/\∃ a b,c=(none,a,b)/\a<b/\y<b/\a<=hint/\decide (kx k arr (base+(hint - a))<kk k key)=false)
   (Q:=λ c st'=>st'=st/\∃ a b,c=(none,a,b)/\a<b/\a<=hint/\decide (kx k arr (base+(hint - a))<kk k key)=false/\(hint+1<=b∨decide (kx k arr (base+(hint - b))<kk k key)=true)) ?_ ?_ ⟨rfl,0,1,rfl,by nofun,by nofun,by nofun,eh⟩) ?_)
  ·rintro y c st' _ hy ⟨rfl,a,b,rfl,hab,hyb,han,ga⟩;dsimp only;by_cases hge:b ≥ hint+1
   ·rw[if_pos hge];exact wpS_pure ⟨rfl,a,b,rfl,hab,han,ga,.inl hge⟩
   rw[if_neg hge];refine wpS_bind (hB _ (by nofun) _ ?_)
   cases e:decide (kx k arr (base+(hint - b))<kk k key) with
   |true=>exact wpS_pure ⟨rfl,a,b,rfl,hab,han,ga,.inr e⟩
   |false=>exact wpS_pure ⟨rfl,b,2*b+1,rfl,by nofun,by nofun,by nofun,e⟩
  ·rintro c st' ⟨rfl,a,b,rfl,hab,hyb,han,ga⟩;exact⟨rfl,a,b,rfl,hab,han,ga,.inl (by nofun)⟩
  ·rintro c st' ⟨rfl,a,b,rfl,hab,han,ga,gb⟩;dsimp only
   refine wpS_bind (iV hB hg (by nofun) (by nofun) (λ i hi=>?_) (λ i h1 h2=>?_) (λ x lo hi=>by
    dsimp only;split
    ·rfl
    ·congr 1;funext r;cases r <;> rfl) λ r h1 h2 h3=>wpS_pure (fin r h1 h2 h3))
   ·rcases gb with gb|gb
    ·nofun
    ·by_cases e:i=hint - b
     ·rw[e];exact gb
     ·exact hg i (hint - b) (by nofun) (by nofun) gb
   ·by_cases e:i=hint - a
    ·rw[e];exact ga
    ·cases e3:decide (kx k arr (base+i)<kk k key) with
     |false=>rfl
     |true=>rw[hg (hint - a) i (by nofun) h2 e3] at ga;cases ga
end
def iW:Array Keyed->Array Keyed->StateT SortSt Sem (Array Keyed):=sortPriv% PySem.Builtin.mergeLo
def lK:Nat->StateT SortSt Sem Unit:=sortPriv% PySem.Builtin.setMinGallop
structure Lk(st st':SortSt):Prop where
 kind:kindOf st'=kindOf st
 arr:arrOf st'=arrOf st
 pend:pendingOf st'=pendingOf st
 failed:failedOf st'=failedOf st
theorem Lk.refl(st:SortSt):Lk st st:=⟨rfl,rfl,rfl,rfl⟩
abbrev Up(k:Value->Int)(l:List Keyed):Prop:=l.Pairwise λ x y=>kk k x<kk k y
structure Res(k:Value->Int)(a b r:Array Keyed):Prop where
 perm:r.toList.Perm (a.toList++b.toList)
 up:Up k r.toList
structure Mid(k:Value->Int)(a b out:Array Keyed)(ia ib:Nat):Prop where
 perm:(out.toList++(a.toList.drop ia++b.toList.drop ib)).Perm (a.toList++b.toList)
 sa:Up k (out.toList++a.toList.drop ia)
 sb:Up k (out.toList++b.toList.drop ib)
theorem iw{l:List Keyed}{x:Keyed}(h:x∈(l.drop i).take r):∃ j,j<r/\l[i+j]?=some x:=by
 obtain⟨n,hn⟩:=ab4.mp h;rw[List.getElem?_take] at hn;split at hn
 ·rw[ab1] at hn;exact⟨n,by assumption,hn⟩
 ·cases hn
theorem bH{l:List Keyed}{x:Keyed}(h:x∈l.drop i):∃ j,l[i+j]?=some x:=by
 obtain⟨n,hn⟩:=ab4.mp h;rw[ab1] at hn;exact⟨n,hn⟩
theorem aV{a:Array Keyed}:(a.extract i (i+r)).toList=(a.toList.drop i).take r:=by
 rw[ab7,acg,aaW]
theorem fw{a:Array Keyed}:(a.extract i a.size).toList=a.toList.drop i:=by
 rw[ab7,acg,aaT (by simp)]
section
variable  {a b out:Array Keyed} {ia ib:Nat}
theorem Mid.extA(m:Mid k a b out ia ib)(h:∀ x∈(a.toList.drop ia).take r,∀ y∈b.toList.drop ib,kk k x<kk k y):Mid k a b (out++a.extract ia (ia+r)) (ia+r) ib:=by
 have e:a.toList.drop ia=(a.toList.drop ia).take r++a.toList.drop (ia+r):=by rw[← ach,aaz]
 have hs:=m.sa;have hb:=m.sb;have hp:=m.perm;rw[e,← aaf] at hs;rw[e,aaf,← aaf] at hp;refine⟨?_,?_,?_⟩
 ·rw[aai,aV];exact hp
 ·rw[aai,aV];exact hs
 ·rw[aai,aV];have h1:=(abI.mp hs).1;have h2:=abI.mp hb;refine abI.mpr ⟨h1,h2.2.1,λ x hx y hy=>?_⟩;rcases abx.mp hx with z|z
  ·exact h2.2.2 x z y hy
  ·exact h x z y hy
theorem Mid.extB(m:Mid k a b out ia ib)(h:∀ y∈(b.toList.drop ib).take r,∀ x∈a.toList.drop ia,kk k y<kk k x):Mid k a b (out++b.extract ib (ib+r)) ia (ib+r):=by
 have e:b.toList.drop ib=(b.toList.drop ib).take r++b.toList.drop (ib+r):=by rw[← ach,aaz]
 have hs:=m.sa;have hb:=m.sb;have hp:=m.perm;rw[e,← aaf] at hb;refine⟨?_,?_,?_⟩
 ·rw[aai,aV];refine List.Perm.trans ?_ hp;rw[aaf];refine aav _ ?_
  conv=>rhs;rw[e]
  rw[← aaf,← aaf];exact aaA _ aaG
 ·rw[aai,aV];have h1:=(abI.mp hb).1;have h2:=abI.mp hs;refine abI.mpr ⟨h1,h2.2.1,λ x hx y hy=>?_⟩;rcases abx.mp hx with z|z
  ·exact h2.2.2 x z y hy
  ·exact h x z y hy
 ·rw[aai,aV];exact hb
theorem iX{x:Keyed}(h:a[i]?=some x):out.push x=out++a.extract i (i+1):=by
 apply Array.ext';rw[aai,aV,aaV];have:a.toList[i]?=some x:=by rw[aby];exact h
 rw[List.take_one,List.head?_drop,this];rfl
theorem zx{l:List Keyed}{x y:Keyed}(h:l[i]?=some x)(m:y∈(l.drop i).take 1):y=x:=by
 rw[List.take_one,List.head?_drop,h] at m;exact abF.mp m
theorem Mid.pushA(m:Mid k a b out ia ib){x:Keyed}(hx:a[ia]?=some x)(h:∀ y∈b.toList.drop ib,kk k x<kk k y):Mid k a b (out.push x) (ia+1) ib:=by
 rw[iX hx];refine m.extA λ z hz=>?_;rw[zx (by rw[aby];exact hx) hz];exact h
theorem Mid.pushB(m:Mid k a b out ia ib){y:Keyed}(hy:b[ib]?=some y)(h:∀ x∈a.toList.drop ia,kk k y<kk k x):Mid k a b (out.push y) ia (ib+1):=by
 rw[iX hy];refine m.extB λ z hz=>?_;rw[zx (by rw[aby];exact hy) hz];exact h
theorem Mid.done(m:Mid k a b out ia ib)(h:ib=b.size∨ia=a.size):Res k a b (out++a.extract ia a.size++b.extract ib b.size):=by
 have e:(out++a.extract ia a.size++b.extract ib b.size).toList=out.toList++(a.toList.drop ia++b.toList.drop ib):=by rw[aai,aai,fw,fw,aaf]
 refine⟨by rw[e];exact m.perm,?_⟩;rw[e];rcases h with h|h
 ·rw[show b.toList.drop ib=[] from List.drop_eq_nil_of_le (by rw[abz];nofun),aaB];exact m.sa
 ·rw[show a.toList.drop ia=[] from List.drop_eq_nil_of_le (by rw[abz];nofun),List.nil_append];exact m.sb
theorem Mid.last(m:Mid k a b out ia ib)(h:∀ x∈a.toList.drop ia,∀ y∈b.toList.drop ib,kk k y<kk k x):Res k a b (out++b.extract ib b.size++a.extract ia a.size):=by
 have e:(out++b.extract ib b.size++a.extract ia a.size).toList=(out.toList++b.toList.drop ib)++a.toList.drop ia:=by rw[aai,aai,fw,fw]
 refine⟨?_,?_⟩
 ·rw[e,aaf];exact(aav _ aaG).trans m.perm
 ·rw[e];have h2:=abI.mp m.sa;refine abI.mpr ⟨m.sb,h2.2.1,λ x hx y hy=>?_⟩;rcases abx.mp hx with z|z
  ·exact h2.2.2 x z y hy
  ·exact h y hy x z
end
section
variable {M:Model}     {U:List Keyed} {kd:SortKind}
theorem cT{g:Nat}{Q:Unit->SortSt->Prop}{st st1:SortSt}(l:Lk st st1)(q:∀ st',Lk st st'->Q () st'):wpS M A E s (lK g) Q st1:=by
 unfold lK;exact wpS_modify (q _ ⟨l.kind,l.arr,l.pend,l.failed⟩)
theorem b7{α:Type}{p:Prop}[Decidable p]{x y:StateT SortSt Sem α}{Q:α->SortSt->Prop}{st:SortSt}(h1:p->wpS M A E s x Q st)(h2:¬ p->wpS M A E s y Q st):wpS M A E s (if p then x else y) Q st:=by
 by_cases h:p
 ·rw[if_pos h];exact h1 h
 ·rw[if_neg h];exact h2 h
theorem om{a:Array Keyed}(h:i<a.size):∃ x∈a.toList,a[i]?=some x:=⟨a[i],by simp,getElem?_pos a i h⟩
theorem dB{b:Array Keyed}(hb:aO k b 0 b.size){y z:Keyed}(hy:b[i]?=some y)(hz:z∈b.toList.drop i):kk k y<=kk k z:=by
 obtain⟨j,hj⟩:=bH hz;rw[aby] at hj;have h1:=(abN.mp hj).1;by_cases e:j=0
 ·subst e;rw[abd,hy] at hj;cases hj;exact Int.le_refl _
 ·have:=hb i (i+j) (by nofun) (by nofun) (by nofun);rw[ap hy,ap hj] at this;nofun
theorem lL(hC:Cmp M A E s k U kd){st:SortSt}(hk:kindOf st=kd){a b:Array Keyed}(ha:aO k a 0 a.size)(hb:aO k b 0 b.size)(ia:∀ x∈a.toList,x∈U)(ib:∀ x∈b.toList,x∈U)(hne:∀ x∈a.toList,∀ y∈b.toList,kk k x≠kk k y)
  (na:0<a.size) (nb:0<b.size) (hf:kx k b 0<kx k a 0) (hl:∀ y∈b.toList,kk k y<kx k a (a.size - 1)) (hUa:Up k a.toList) (hUb:Up k b.toList)
  {Q:Array Keyed->SortSt->Prop} (q:∀ r st',Lk st st'->Res k a b r->Q r st'):wpS M A E s (iW a b) Q st:=by
 have inA:∀ i,i<a.size->∃ x∈U,a[i]?=some x/\x∈a.toList:=λ i hi=>let ⟨x,h1,h2⟩:=om hi;⟨x,ia x h1,h2,h1⟩;have inB:∀ i,i<b.size->∃ x∈U,b[i]?=some x/\x∈b.toList:=λ i hi=>let ⟨x,h1,h2⟩:=om hi;⟨x,ib x h1,h2,h1⟩
 have neA:∀ i y,i<a.size->y∈b.toList->kx k a i≠kk k y:=λ i y hi hy=>by
  obtain⟨x,_,h2,h3⟩:=inA i hi;rw[ap h2];exact hne x h3 y hy
 have neB:∀ i x,i<b.size->x∈a.toList->kx k b i≠kk k x:=λ i x hi hx=>by
  obtain⟨y,_,h2,h3⟩:=inB i hi;rw[ap h2];exact λ e=>hne x hx y h3 e.symm
 /- the last one of a alone is left -/
 have lst:∀ {out:Array Keyed} {i j:Nat},Mid k a b out i j->i+1=a.size->Res k a b (out++b.extract j b.size++a.extract i a.size):=fun {out i j} m h=>m.last λ x hx y hy=>by
  obtain⟨n,hn⟩:=bH hx;rw[aby] at hn;have h1:=(abN.mp hn).1;have h2:=hl y (List.mem_of_mem_drop hy);rw[show a.size - 1=i+n by nofun,ap hn] at h2;exact h2
 unfold iW;refine wpS_bind (eK ?_);dsimp only;obtain⟨b0,ub0,eb0,mb0⟩:=inB 0 nb;refine wpS_bind (aH eb0 ?_);have M0:Mid k a b #[] 0 0:=⟨by simp,(by exists hUa),(by exists hUb)⟩
 have M1:Mid k a b #[b0] 0 1:=M0.pushB eb0 λ x hx=>by
  obtain⟨x0,_,ex0,_⟩:=inA 0 na;have:=dB ha ex0 hx;rw[ap eb0,ap ex0] at hf;nofun
 by_cases h1:1=b.size
 ·rw[if_pos (by exists h1)];exact wpS_pure (q _ _ (Lk.refl _) (M1.done (.inl h1)))
 rw[if_neg (by exists h1)];by_cases h2:0+1=a.size
 ·rw[if_pos (by exists h2)];exact wpS_pure (q _ _ (Lk.refl _) (lst M1 h2))
 rw[if_neg (by exists h2)];refine wpS_bind (wpS_get ?_)
 refine wpS_bind (wpS_mono (wpS_forRange (I:=λ x c st'=>Lk st st'/\∃ out i j g,c=(none,out,i,j,g)/\Mid k a b out i j/\i+1<a.size/\j<b.size/\x<=i+j)
  (Q:=λ c st'=>Lk st st'/\∃ r z,c=(some r,z)/\Res k a b r) ?_ ?_ ⟨Lk.refl _,_,_,_,_,rfl,M1,by nofun,by nofun,by nofun⟩) ?_)
 ·rintro x c st1 _ hx ⟨l1,out,i,j,g,rfl,m,hi,hj,hp⟩;dsimp only
  refine wpS_bind (wpS_mono (wpS_forRange (I:=λ y c st'=>st'=st1/\∃ out i' j' ac bc,c=(none,out,i',j',ac,bc)/\Mid k a b out i' j'/\i'+1<a.size/\j'<b.size/\i+j<=i'+j')
   (Q:=λ c st'=>st'=st1/\((∃ r z,c=(some r,z)/\Res k a b r)∨∃ out i' j' ac bc,c=(none,out,i',j',ac,bc)/\Mid k a b out i' j'/\i'+1<a.size/\j'<b.size/\i+j<=i'+j')) ?_ ?_ ⟨rfl,_,_,_,_,_,rfl,m,hi,hj,aad _⟩) ?_)
  ·rintro y c st2 _ hy ⟨rfl,out,i,j,ac,bc,rfl,m,hi,hj,hp'⟩;dsimp only;obtain⟨v,uv,ev,mv⟩:=inB j hj;obtain⟨u,uu,eu,mu⟩:=inA i (by nofun);refine wpS_bind (aH ev (wpS_bind (aH eu (wpS_bind (hC v uv u uu _ _ (abl (hne u mu v mv)) (l1.kind.trans hk) ?_)))));by_cases hw:kk k v<kk k u
   ·simp only[hw,decide_true,if_true];refine wpS_bind (aH ev ?_);have m':=m.pushB ev λ x hx=>by have:=dB ha eu hx;nofun
    by_cases e1:j+1=b.size
    ·rw[if_pos (by exists e1)];exact wpS_pure ⟨rfl,.inl ⟨_,_,rfl,m'.done (.inl e1)⟩⟩
    rw[if_neg (by exists e1)];split
    ·exact wpS_pure ⟨rfl,.inr ⟨_,_,_,_,_,rfl,m',hi,by nofun,by nofun⟩⟩
    ·exact wpS_pure ⟨rfl,_,_,_,_,_,rfl,m',hi,by nofun,by nofun⟩
   ·simp only[hw,decide_false,Bool.false_eq_true,if_false];refine wpS_bind (aH eu ?_);have m':=m.pushA eu λ y hy=>by have:=dB hb ev hy;have:=hne u mu v mv;nofun
    by_cases e1:i+1+1=a.size
    ·rw[if_pos (by exists e1)];exact wpS_pure ⟨rfl,.inl ⟨_,_,rfl,lst m' e1⟩⟩
    rw[if_neg (by exists e1)];split
    ·exact wpS_pure ⟨rfl,.inr ⟨_,_,_,_,_,rfl,m',by nofun,hj,by nofun⟩⟩
    ·exact wpS_pure ⟨rfl,_,_,_,_,_,rfl,m',by nofun,hj,by nofun⟩
  ·rintro c st2 ⟨rfl,h⟩;exact⟨rfl,.inr h⟩
  rintro c st2 ⟨rfl,⟨r,z,rfl,hr⟩|⟨out,i',j',ac,bc,rfl,m,hi,hj,hp'⟩⟩
  ·dsimp only;exact wpS_pure ⟨l1,r,_,rfl,hr⟩
  dsimp only;refine wpS_bind (eK ?_)
  refine wpS_bind (wpS_mono (wpS_forRange (I:=λ y c st'=>Lk st st'/\∃ out i2 j2 g ac bc,c=(none,out,i2,j2,g,ac,bc)/\Mid k a b out i2 j2/\i2+1<a.size/\j2<b.size/\i+j+min y 1<=i2+j2)
   (Q:=λ c st'=>Lk st st'/\((∃ r z,c=(some r,z)/\Res k a b r)∨∃ out i2 j2 g ac bc,c=(none,out,i2,j2,g,ac,bc)/\Mid k a b out i2 j2/\i2+1<a.size/\j2<b.size/\i+j+1<=i2+j2)) ?_ ?_ ⟨l1,_,_,_,_,_,_,rfl,m,hi,hj,by nofun⟩) ?_)
  ·rintro y c st2 _ hy ⟨l2,out,i2,j2,g,ac,bc,rfl,m,hi,hj,hp2⟩;dsimp only;refine b7 (λ _=>?_) (λ _=>?_) <;> (
   refine wpS_bind (cT l2 λ st3 l3=>?_);obtain⟨v,uv,ev,mv⟩:=inB j2 hj;refine wpS_bind (aH ev ?_);refine wpS_bind (bW hC (l3.kind.trans hk) uv (λ n hn=>let ⟨x,h1,h2,_⟩:=inA (i2+n) (by nofun);⟨x,h1,h2⟩) (λ p q h1 h2 h3=>ha p q (by nofun) h2 (by nofun)) (λ n hn=>neA _ _ (by nofun) mv) (by nofun) λ r hr1 hr2 hr3=>?_);dsimp only
   have nxt:r<=a.size - i2->Mid k a b (out++a.extract i2 (i2+r)) (i2+r) j2:=λ _=>m.extA λ x hx y hy=>by
    obtain⟨n,hn,en⟩:=iw hx;rw[aby] at en;have:=hr2 n hn;rw[ap en] at this;have:=dB hb ev hy;nofun
   have nz:i2+r≠a.size:=λ e=>by
    have h1:=hr2 (a.size - 1 - i2) (by nofun);have h2:=hl v mv;rw[show i2+(a.size - 1 - i2)=a.size - 1 by nofun] at h1;nofun
   have m':=nxt hr1;refine b7 (λ hr0=>?_) (λ hr0=>?_);by_cases e1:i2+r+1=a.size
   ·rw[if_pos (by exists e1)];exact wpS_pure ⟨l3,.inl ⟨_,_,rfl,lst m' e1⟩⟩
   rw[if_neg (by exists e1),if_neg (by exists nz)]
   have hgt:∀ x∈a.toList.drop (i2+r),kk k v<kk k x:=λ x hx=>by
    obtain⟨n,en⟩:=bH hx;rw[aby] at en;have h1:=(abN.mp en).1;have:=hr3 (r+n) (by nofun) (by nofun);rw[show i2+(r+n)=i2+r+n by nofun,ap en] at this;exact this
   have hi3:i2+r+1<a.size:=by nofun
   have hp3:i+j+min y 1<=i2+r+j2:=by nofun
   clear nz nxt hr1 hr2 hr3 hr0 e1 m;generalize out++a.extract i2 (i2+r)=out at m' ⊢;generalize i2+r=i2 at m' hgt hi3 hp3 ⊢
   rotate_left
   rw[show r=0 by nofun] at hr3
   have hgt:∀ x∈a.toList.drop i2,kk k v<kk k x:=λ x hx=>by
    obtain⟨n,en⟩:=bH hx;rw[aby] at en;have h1:=(abN.mp en).1;have:=hr3 n (by nofun) (by nofun);rw[ap en] at this;exact this
   have hi3:=hi;have hp3:=hp2;clear m' nz nxt hr1 hr2 hr3 hr0;have m':=m
   all_goals (
    refine wpS_bind (aH ev ?_);replace m':=m'.pushB ev hgt;by_cases e2:j2+1=b.size
    ·rw[if_pos (by exists e2)];exact wpS_pure ⟨l3,.inl ⟨_,_,rfl,m'.done (.inl e2)⟩⟩
    rw[if_neg (by exists e2)];obtain⟨u,uu,eu,mu⟩:=inA i2 (by nofun);refine wpS_bind (aH eu ?_);refine wpS_bind (bW hC (l3.kind.trans hk) uu (λ n hn=>let ⟨x,h1,h2,_⟩:=inB (j2+1+n) (by nofun);⟨x,h1,h2⟩) (λ p q h1 h2 h3=>hb p q (by nofun) h2 (by nofun)) (λ n hn=>neB _ _ (by nofun) mu) (by nofun) λ r2 hq1 hq2 hq3=>?_);dsimp only
    have m2:=m'.extB (r:=r2) λ y hy x hx=>by
     obtain⟨n,hn,en⟩:=iw hy;rw[aby] at en;have:=hq2 n hn;rw[ap en] at this;have:=dB ha eu hx;nofun
    refine b7 (λ hr0=>?_) (λ hr0=>?_);by_cases e3:j2+1+r2=b.size
    ·rw[if_pos (by exists e3)];exact wpS_pure ⟨l3,.inl ⟨_,_,rfl,m2.done (.inl e3)⟩⟩
    rw[if_neg (by exists e3)]
    have hgu:∀ y∈b.toList.drop (j2+1+r2),kk k u<kk k y:=λ y hy=>by
     obtain⟨n,en⟩:=bH hy;rw[aby] at en;have h1:=(abN.mp en).1;have:=hq3 (r2+n) (by nofun) (by nofun);rw[show j2+1+(r2+n)=j2+1+r2+n by nofun,ap en] at this;exact this
    have hj3:j2+1+r2<b.size:=by nofun
    have hp4:i+j+min y 1+1<=i2+(j2+1+r2):=by nofun
    clear m';have m':=m2
    rotate_left
    rw[show r2=0 by nofun] at hq3
    have hgu:∀ y∈b.toList.drop (j2+1),kk k u<kk k y:=λ y hy=>by
     obtain⟨n,en⟩:=bH hy;rw[aby] at en;have h1:=(abN.mp en).1;have:=hq3 n (by nofun) (by nofun);rw[ap en] at this;exact this
    have hj3:j2+1<b.size:=by nofun
    have hp4:i+j+min y 1+1<=i2+(j2+1):=by nofun
    all_goals (
     refine wpS_bind (aH eu ?_);replace m':=m'.pushA eu hgu;by_cases e4:i2+1+1=a.size
     ·rw[if_pos (by exists e4)];exact wpS_pure ⟨l3,.inl ⟨_,_,rfl,lst m' e4⟩⟩
     rw[if_neg (by exists e4)];refine b7 (λ _=>?_) (λ _=>?_)
     ·exact wpS_pure ⟨l3,.inr ⟨_,_,_,_,_,_,rfl,m',by nofun,hj3,by nofun⟩⟩
     ·exact wpS_pure ⟨l3,_,_,_,_,_,_,rfl,m',by nofun,hj3,by nofun⟩)))
  ·rintro c st2 ⟨l2,out,i2,j2,g,ac,bc,rfl,m,hi,hj,hp2⟩;exact⟨l2,.inr ⟨_,_,_,_,_,_,rfl,m,hi,hj,by nofun⟩⟩
  rintro c st2 ⟨l2,⟨r,z,rfl,hr⟩|⟨out,i2,j2,g,ac,bc,rfl,m,hi,hj,hp2⟩⟩
  ·dsimp only;exact wpS_pure ⟨l2,r,_,rfl,hr⟩
  ·dsimp only;refine wpS_bind (cT l2 λ st3 l3=>?_);exact wpS_pure ⟨l3,_,_,_,_,rfl,m,hi,hj,by nofun⟩
 ·rintro c st1 ⟨l1,out,i,j,g,rfl,m,hi,hj,hp⟩;nofun
 ·rintro c st1 ⟨l1,r,z,rfl,hr⟩;exact wpS_pure (q r st1 l1 hr)
end
def iY:Array Keyed->Array Keyed->StateT SortSt Sem (Array Keyed):=sortPriv% PySem.Builtin.mergeHi
structure MidR(k:Value->Int)(a b out:Array Keyed)(na nb:Nat):Prop where
 perm:((a.toList.take na++b.toList.take nb)++out.toList.reverse).Perm (a.toList++b.toList)
 sa:Up k (a.toList.take na++out.toList.reverse)
 sb:Up k (b.toList.take nb++out.toList.reverse)
theorem cn{l:List Keyed}{x:Keyed}(h:x∈l.take n):∃ j,j<n/\l[j]?=some x:=by
 obtain⟨j,h1,h2⟩:=iw (i:=0) (l:=l) (r:=n) (by rw[aaO];exact h);rw[ab9] at h2;exact⟨j,h1,h2⟩
theorem iy{l:List Keyed}{x:Keyed}(h:x∈(l.take n).drop t):∃ j,t<=j/\j<n/\l[j]?=some x:=by
 obtain⟨j,hj⟩:=bH h;rw[List.getElem?_take] at hj;split at hj
 ·exact⟨t+j,by nofun,by assumption,hj⟩
 ·cases hj
theorem iz{a:Array Keyed}:(a.extract t n).toList=(a.toList.take n).drop t:=by
 rw[ab7,acg,List.drop_take]
theorem cU{a:Array Keyed}:(a.extract 0 n).toList=a.toList.take n:=by rw[iz,aaO]
section
variable  {a b out:Array Keyed} 
theorem MidR.extA(m:MidR k a b out na nb)(ht:t<=na)(h:∀ x∈(a.toList.take na).drop t,∀ y∈b.toList.take nb,kk k y<kk k x):MidR k a b (out++(a.extract t na).reverse) t nb:=by
 have e:(out++(a.extract t na).reverse).toList.reverse=(a.toList.take na).drop t++out.toList.reverse:=by
  rw[aai,aa5,List.reverse_append,List.reverse_reverse,iz]
 have e2:a.toList.take na=a.toList.take t++(a.toList.take na).drop t:=by
  conv=>lhs;rw[← aaz t (a.toList.take na),List.take_take,Nat.min_eq_left ht]
 have hs:=m.sa;rw[e2,aaf] at hs;refine⟨?_,by rw[e];exact hs,?_⟩
 ·rw[e];refine List.Perm.trans ?_ m.perm
  conv=>rhs;rw[e2]
  rw[← aaf];refine aaA _ ?_;rw[aaf,aaf];exact aav _ aaG
 ·rw[e];have h1:=(abI.mp hs).2.1;have h2:=abI.mp m.sb;refine abI.mpr ⟨h2.1,h1,λ y hy x hx=>?_⟩;rcases abx.mp hx with z|z
  ·exact h x z y hy
  ·exact h2.2.2 y hy x z
theorem MidR.extB(m:MidR k a b out na nb)(ht:t<=nb)(h:∀ y∈(b.toList.take nb).drop t,∀ x∈a.toList.take na,kk k x<kk k y):MidR k a b (out++(b.extract t nb).reverse) na t:=by
 have e:(out++(b.extract t nb).reverse).toList.reverse=(b.toList.take nb).drop t++out.toList.reverse:=by
  rw[aai,aa5,List.reverse_append,List.reverse_reverse,iz]
 have e2:b.toList.take nb=b.toList.take t++(b.toList.take nb).drop t:=by
  conv=>lhs;rw[← aaz t (b.toList.take nb),List.take_take,Nat.min_eq_left ht]
 have hs:=m.sb;rw[e2,aaf] at hs;refine⟨?_,?_,by rw[e];exact hs⟩
 ·rw[e];refine List.Perm.trans ?_ m.perm
  conv=>rhs;rw[e2]
  rw[← aaf,aaf (a.toList.take na),aaf (a.toList.take na)]
 ·rw[e];have h1:=(abI.mp hs).2.1;have h2:=abI.mp m.sa;refine abI.mpr ⟨h2.1,h1,λ y hy x hx=>?_⟩;rcases abx.mp hx with z|z
  ·exact h x z y hy
  ·exact h2.2.2 y hy x z
theorem iZ{x:Keyed}(h:a[i]?=some x):out.push x=out++(a.extract i (i+1)).reverse:=by
 apply Array.ext';rw[aai,aa5,aV,aaV];have:a.toList[i]?=some x:=by rw[aby];exact h
 rw[List.take_one,List.head?_drop,this];rfl
theorem zy{l:List Keyed}{x y:Keyed}(h:l[i]?=some x)(m:y∈(l.take (i+1)).drop i):y=x:=by
 obtain⟨j,h1,h2,h3⟩:=iy m;rw[show j=i by nofun,h] at h3;cases h3;rfl
theorem MidR.pushA(m:MidR k a b out (na+1) nb){x:Keyed}(hx:a[na]?=some x)(h:∀ y∈b.toList.take nb,kk k y<kk k x):MidR k a b (out.push x) na nb:=by
 rw[iZ hx];refine m.extA (by nofun) λ z hz=>?_;rw[zy (by rw[aby];exact hx) hz];exact h
theorem MidR.pushB(m:MidR k a b out na (nb+1)){y:Keyed}(hy:b[nb]?=some y)(h:∀ x∈a.toList.take na,kk k x<kk k y):MidR k a b (out.push y) na nb:=by
 rw[iZ hy];refine m.extB (by nofun) λ z hz=>?_;rw[zy (by rw[aby];exact hy) hz];exact h
theorem MidR.done(m:MidR k a b out na nb)(h:na=0∨nb=0):Res k a b (a.extract 0 na++b.extract 0 nb++out.reverse):=by
 have e:(a.extract 0 na++b.extract 0 nb++out.reverse).toList=(a.toList.take na++b.toList.take nb)++out.toList.reverse:=by rw[aai,aai,cU,cU,aa5]
 refine⟨by rw[e];exact m.perm,?_⟩;rw[e];rcases h with rfl|rfl
 ·rw[List.take_zero,List.nil_append];exact m.sb
 ·rw[List.take_zero,aaB];exact m.sa
theorem MidR.fst(m:MidR k a b out na nb)(h:∀ y∈b.toList.take nb,∀ x∈a.toList.take na,kk k y<kk k x):Res k a b (b.extract 0 nb++a.extract 0 na++out.reverse):=by
 have e:(b.extract 0 nb++a.extract 0 na++out.reverse).toList=b.toList.take nb++(a.toList.take na++out.toList.reverse):=by rw[aai,aai,cU,cU,aa5,aaf]
 refine⟨?_,?_⟩
 ·rw[e,← aaf];exact(aaA _ aaG).trans m.perm
 ·rw[e];have h2:=abI.mp m.sb;refine abI.mpr ⟨h2.1,m.sa,λ x hx y hy=>?_⟩;rcases abx.mp hy with z|z
  ·exact h x hx y z
  ·exact h2.2.2 x hx y z
end
section
variable {M:Model}     {U:List Keyed} {kd:SortKind}
theorem fA{b:Array Keyed}(hb:aO k b 0 b.size){y z:Keyed}(hy:b[i]?=some y)(hz:z∈b.toList.take (i+1)):kk k z<=kk k y:=by
 obtain⟨j,h0,hj⟩:=cn hz;rw[aby] at hj;have h1:=(abN.mp hy).1;by_cases e:j=i
 ·subst e;rw[hy] at hj;cases hj;exact Int.le_refl _
 ·have:=hb j i (by nofun) (by nofun) (by nofun);rw[ap hy,ap hj] at this;nofun
theorem lM(hC:Cmp M A E s k U kd){st:SortSt}(hk:kindOf st=kd){a b:Array Keyed}(ha:aO k a 0 a.size)(hb:aO k b 0 b.size)(ia:∀ x∈a.toList,x∈U)(ib:∀ x∈b.toList,x∈U)(hne:∀ x∈a.toList,∀ y∈b.toList,kk k x≠kk k y)
  (na:0<a.size) (nb:0<b.size) (hf:kx k b 0<kx k a 0) (hl:∀ y∈b.toList,kk k y<kx k a (a.size - 1)) (hUa:Up k a.toList) (hUb:Up k b.toList)
  {Q:Array Keyed->SortSt->Prop} (q:∀ r st',Lk st st'->Res k a b r->Q r st'):wpS M A E s (iY a b) Q st:=by
 have inA:∀ i,i<a.size->∃ x∈U,a[i]?=some x/\x∈a.toList:=λ i hi=>let ⟨x,h1,h2⟩:=om hi;⟨x,ia x h1,h2,h1⟩;have inB:∀ i,i<b.size->∃ x∈U,b[i]?=some x/\x∈b.toList:=λ i hi=>let ⟨x,h1,h2⟩:=om hi;⟨x,ib x h1,h2,h1⟩
 have neA:∀ i y,i<a.size->y∈b.toList->kx k a i≠kk k y:=λ i y hi hy=>by
  obtain⟨x,_,h2,h3⟩:=inA i hi;rw[ap h2];exact hne x h3 y hy
 have neB:∀ i x,i<b.size->x∈a.toList->kx k b i≠kk k x:=λ i x hi hx=>by
  obtain⟨y,_,h2,h3⟩:=inB i hi;rw[ap h2];exact λ e=>hne x hx y h3 e.symm
 /- the first one of b alone is left -/
 have fst:∀ {out:Array Keyed} {i j:Nat},MidR k a b out i j->j=1->Res k a b (b.extract 0 j++a.extract 0 i++out.reverse):=fun {out i j} m h=>m.fst λ y hy x hx=>by
  obtain⟨p,hp,ep⟩:=cn hy;obtain⟨n,hn,en⟩:=cn hx;rw[aby] at ep en;have h1:=(abN.mp en).1;rw[show (0:Nat)=p by nofun,ap ep] at hf;by_cases e:n=0
  ·rw[show p=0 by nofun] at hf;rw[e] at en;rw[ap en] at hf;exact hf
  ·have:=ha 0 n (by nofun) (by nofun) (by nofun);rw[ap en] at this;rw[show p=0 by nofun] at hf;nofun
 unfold iY;refine wpS_bind (eK ?_);dsimp only;obtain⟨al,ual,eal,mal⟩:=inA (a.size - 1) (by nofun);refine wpS_bind (aH eal ?_)
 have M0:MidR k a b #[] (a.size - 1+1) b.size:=by
  have e1:a.toList.take (a.size - 1+1)=a.toList:=aaT (by rw[abz];nofun);have e2:b.toList.take b.size=b.toList:=aaT (by rw[abz];exact aad _);refine⟨?_,?_,?_⟩
  ·rw[e1,e2];simp
  ·rw[e1];simpa using hUa
  ·rw[e2];simpa using hUb
 have M1:MidR k a b #[al] (a.size - 1) b.size:=M0.pushA eal λ y hy=>by
  have:=hl y (List.mem_of_mem_take hy);rw[ap eal] at this;exact this
 by_cases h1:a.size - 1=0
 ·rw[if_pos (by exists h1)];exact wpS_pure (q _ _ (Lk.refl _) (M1.done (.inl h1)))
 rw[if_neg (by exists h1)];by_cases h2:b.size=1
 ·rw[if_pos (by exists h2)];exact wpS_pure (q _ _ (Lk.refl _) (fst M1 h2))
 rw[if_neg (by exists h2)];refine wpS_bind (wpS_get ?_)
 refine wpS_bind (wpS_mono (wpS_forRange (I:=λ x c st'=>Lk st st'/\∃ i j out g,c=(none,i,j,out,g)/\MidR k a b out i j/\0<i/\1<j/\i<a.size/\j<=b.size/\i+j+x<=a.size+b.size)
  (Q:=λ c st'=>Lk st st'/\∃ r z,c=(some r,z)/\Res k a b r) ?_ ?_ ⟨Lk.refl _,_,_,_,_,rfl,M1,by nofun,by nofun,by nofun,by nofun,by nofun⟩) ?_)
 ·rintro x c st1 _ hx ⟨l1,i,j,out,g,rfl,m,hi,hj,hia,hjb,hp⟩;dsimp only
  refine wpS_bind (wpS_mono (wpS_forRange (I:=λ y c st'=>st'=st1/\∃ i' j' out ac bc,c=(none,i',j',out,ac,bc)/\MidR k a b out i' j'/\0<i'/\1<j'/\i'<a.size/\j'<=b.size/\i'+j'<=i+j)
   (Q:=λ c st'=>st'=st1/\((∃ r z,c=(some r,z)/\Res k a b r)∨∃ i' j' out ac bc,c=(none,i',j',out,ac,bc)/\MidR k a b out i' j'/\0<i'/\1<j'/\i'<a.size/\j'<=b.size/\i'+j'<=i+j)) ?_ ?_ ⟨rfl,_,_,_,_,_,rfl,m,hi,hj,hia,hjb,aad _⟩) ?_)
  ·rintro y c st2 _ hy ⟨rfl,i,j,out,ac,bc,rfl,m,hi,hj,hia,hjb,hp'⟩;dsimp only;obtain⟨v,uv,ev,mv⟩:=inB (j - 1) (by nofun);obtain⟨u,uu,eu,mu⟩:=inA (i - 1) (by nofun);refine wpS_bind (aH ev (wpS_bind (aH eu (wpS_bind (hC v uv u uu _ _ (abl (hne u mu v mv)) (l1.kind.trans hk) ?_)))));by_cases hw:kk k v<kk k u
   ·simp only[hw,decide_true,if_true];refine wpS_bind (aH eu ?_);rw[show i=i - 1+1 by nofun] at m;have m':=m.pushA eu λ y hy=>by have:=fA hb ev (z:=y) (by rw[show j - 1+1=j by nofun];exact hy);nofun
    by_cases e1:i - 1=0
    ·rw[if_pos (by exists e1)];exact wpS_pure ⟨rfl,.inl ⟨_,_,rfl,m'.done (.inl e1)⟩⟩
    rw[if_neg (by exists e1)];refine b7 (λ _=>?_) (λ _=>?_)
    ·exact wpS_pure ⟨rfl,.inr ⟨_,_,_,_,_,rfl,m',by nofun,hj,by nofun,hjb,by nofun⟩⟩
    ·exact wpS_pure ⟨rfl,_,_,_,_,_,rfl,m',by nofun,hj,by nofun,hjb,by nofun⟩
   ·simp only[hw,decide_false,Bool.false_eq_true,if_false];refine wpS_bind (aH ev ?_);rw[show j=j - 1+1 by nofun] at m;have m':=m.pushB ev λ x hx=>by have:=fA ha eu (z:=x) (by rw[show i - 1+1=i by nofun];exact hx);have:=hne u mu v mv;nofun
    by_cases e1:j - 1=1
    ·rw[if_pos (by exists e1)];exact wpS_pure ⟨rfl,.inl ⟨_,_,rfl,fst m' e1⟩⟩
    rw[if_neg (by exists e1)];refine b7 (λ _=>?_) (λ _=>?_)
    ·exact wpS_pure ⟨rfl,.inr ⟨_,_,_,_,_,rfl,m',hi,by nofun,hia,by nofun,by nofun⟩⟩
    ·exact wpS_pure ⟨rfl,_,_,_,_,_,rfl,m',hi,by nofun,hia,by nofun,by nofun⟩
  ·rintro c st2 ⟨rfl,h⟩;exact⟨rfl,.inr h⟩
  rintro c st2 ⟨rfl,⟨r,z,rfl,hr⟩|⟨i',j',out,ac,bc,rfl,m,hi,hj,hia,hjb,hp'⟩⟩
  ·dsimp only;exact wpS_pure ⟨l1,r,_,rfl,hr⟩
  dsimp only;refine wpS_bind (eK ?_)
  refine wpS_bind (wpS_mono (wpS_forRange (I:=λ y c st'=>Lk st st'/\∃ i2 j2 out g ac bc,c=(none,i2,j2,out,g,ac,bc)/\MidR k a b out i2 j2/\0<i2/\1<j2/\i2<a.size/\j2<=b.size/\i2+j2+min y 1<=i+j)
   (Q:=λ c st'=>Lk st st'/\((∃ r z,c=(some r,z)/\Res k a b r)∨∃ i2 j2 out g ac bc,c=(none,i2,j2,out,g,ac,bc)/\MidR k a b out i2 j2/\0<i2/\1<j2/\i2<a.size/\j2<=b.size/\i2+j2+1<=i+j)) ?_ ?_ ⟨l1,_,_,_,_,_,_,rfl,m,hi,hj,hia,hjb,by nofun⟩) ?_)
  ·rintro y c st2 _ hy ⟨l2,i2,j2,out,g,ac,bc,rfl,m,hi,hj,hia,hjb,hp2⟩;dsimp only;refine b7 (λ _=>?_) (λ _=>?_) <;> (
   refine wpS_bind (cT l2 λ st3 l3=>?_);obtain⟨v,uv,ev,mv⟩:=inB (j2 - 1) (by nofun);refine wpS_bind (aH ev ?_);refine wpS_bind (bW hC (l3.kind.trans hk) uv (λ n hn=>let ⟨x,h1,h2,_⟩:=inA (0+n) (by nofun);⟨x,h1,h2⟩) (λ p q h1 h2 h3=>ha p q (by nofun) h2 (by nofun)) (λ n hn=>neA _ _ (by nofun) mv) (by nofun) λ r hr1 hr2 hr3=>?_);dsimp only;simp only[Nat.zero_add] at hr2 hr3
   have m':=m.extA hr1 λ x hx y hy=>by
    obtain⟨n,hn1,hn2,en⟩:=iy hx;rw[aby] at en;have:=hr3 n hn1 hn2;rw[ap en] at this;have:=fA hb ev (z:=y) (by rw[show j2 - 1+1=j2 by nofun];exact hy);nofun
   have hgt:∀ x∈a.toList.take r,kk k x<kk k v:=λ x hx=>by
    obtain⟨n,hn,en⟩:=cn hx;rw[aby] at en;have:=hr2 n hn;rw[ap en] at this;exact this
   refine b7 (λ hr0=>?_) (λ hr0=>?_);by_cases e1:r=0
   ·rw[if_pos (by exists e1)];exact wpS_pure ⟨l3,.inl ⟨_,_,rfl,m'.done (.inl e1)⟩⟩
   rw[if_neg (by exists e1)];have hi3:0<r:=by nofun
   have hia3:r<a.size:=by nofun
   have hp3:r+j2+min y 1<=i+j:=by nofun
   clear hr2 hr3 hr0 e1 m;generalize out++(a.extract r i2).reverse=out at m' ⊢;generalize i2 - r=dl;generalize r=i2 at m' hgt hi3 hia3 hp3 ⊢
   rotate_left
   have e0:r=i2:=by nofun
   rw[e0] at hgt;have hi3:=hi;have hia3:=hia;have hp3:=hp2;clear m' hr2 hr3 hr0;have m':=m;generalize i2 - r=dl
   all_goals (
    refine wpS_bind (aH ev ?_);rw[show j2=j2 - 1+1 by nofun] at m';replace m':=m'.pushB ev hgt;by_cases e2:j2 - 1=1
    ·rw[if_pos (by exists e2)];exact wpS_pure ⟨l3,.inl ⟨_,_,rfl,fst m' e2⟩⟩
    rw[if_neg (by exists e2)];obtain⟨u,uu,eu,mu⟩:=inA (i2 - 1) (by nofun);refine wpS_bind (aH eu ?_);refine wpS_bind (bW hC (l3.kind.trans hk) uu (λ n hn=>let ⟨x,h1,h2,_⟩:=inB (0+n) (by nofun);⟨x,h1,h2⟩) (λ p q h1 h2 h3=>hb p q (by nofun) h2 (by nofun)) (λ n hn=>neB _ _ (by nofun) mu) (by nofun) λ r2 hq1 hq2 hq3=>?_);dsimp only;simp only[Nat.zero_add] at hq2 hq3
    have m2:=m'.extB hq1 λ y hy x hx=>by
     obtain⟨n,hn1,hn2,en⟩:=iy hy;rw[aby] at en;have:=hq3 n hn1 hn2;rw[ap en] at this;have:=fA ha eu (z:=x) (by rw[show i2 - 1+1=i2 by nofun];exact hx);nofun
    have hgu:∀ y∈b.toList.take r2,kk k y<kk k u:=λ y hy=>by
     obtain⟨n,hn,en⟩:=cn hy;rw[aby] at en;have:=hq2 n hn;rw[ap en] at this;exact this
    refine b7 (λ hr0=>?_) (λ hr0=>?_);by_cases e3:r2=1
    ·rw[if_pos (by exists e3)];exact wpS_pure ⟨l3,.inl ⟨_,_,rfl,fst m2 e3⟩⟩
    rw[if_neg (by exists e3)];by_cases e5:r2=0
    ·rw[if_pos (by exists e5)];exact wpS_pure ⟨l3,.inl ⟨_,_,rfl,m2.done (.inr e5)⟩⟩
    rw[if_neg (by exists e5)];have hj3:1<r2:=by nofun
    have hjb3:r2<=b.size:=by nofun
    have hp4:i2+r2+min y 1+1<=i+j:=by nofun
    clear m';have m':=m2
    rotate_left
    have e0:r2=j2 - 1:=by nofun
    rw[e0] at hgu;have hj3:1<j2 - 1:=by nofun
    have hjb3:j2 - 1<=b.size:=by nofun
    have hp4:i2+(j2 - 1)+min y 1+1<=i+j:=by nofun
    all_goals (
     refine wpS_bind (aH eu ?_);rw[show i2=i2 - 1+1 by nofun] at m';replace m':=m'.pushA eu hgu;by_cases e4:i2 - 1=0
     ·rw[if_pos (by exists e4)];exact wpS_pure ⟨l3,.inl ⟨_,_,rfl,m'.done (.inl e4)⟩⟩
     rw[if_neg (by exists e4)];refine b7 (λ _=>?_) (λ _=>?_)
     ·exact wpS_pure ⟨l3,.inr ⟨_,_,_,_,_,_,rfl,m',by nofun,hj3,by nofun,hjb3,by nofun⟩⟩
     ·exact wpS_pure ⟨l3,_,_,_,_,_,_,rfl,m',by nofun,hj3,by nofun,hjb3,by nofun⟩)))
  ·rintro c st2 ⟨l2,i2,j2,out,g,ac,bc,rfl,m,hi,hj,hia,hjb,hp2⟩;exact⟨l2,.inr ⟨_,_,_,_,_,_,rfl,m,hi,hj,hia,hjb,by nofun⟩⟩
  rintro c st2 ⟨l2,⟨r,z,rfl,hr⟩|⟨i2,j2,out,g,ac,bc,rfl,m,hi,hj,hia,hjb,hp2⟩⟩
  ·dsimp only;exact wpS_pure ⟨l2,r,_,rfl,hr⟩
  ·dsimp only;refine wpS_bind (cT l2 λ st3 l3=>?_);exact wpS_pure ⟨l3,_,_,_,_,rfl,m,hi,hj,hia,hjb,by nofun⟩
 ·rintro c st1 ⟨l1,i,j,out,g,rfl,m,hi,hj,hia,hjb,hp⟩;nofun
 ·rintro c st1 ⟨l1,r,z,rfl,hr⟩;exact wpS_pure (q r st1 l1 hr)
end
def lay(base:Nat)(l:List Keyed)(n:Nat)(arr:Array Keyed):Array Keyed:=(l.zipIdx n).foldl (λ a x=>a.setIfInBounds (base+x.2) x.1) arr
theorem pF{l:List Keyed}:∀ {n:Nat} {arr:Array Keyed},base+n+l.length<=arr.size->∀ t,(lay base l n arr)[t]?=if base+n<=t/\t<base+n+l.length then l[t - (base+n)]? else arr[t]?:=by
 induction l with
 |nil=>intro n arr _ t;rw[if_neg (by rw[List.length_nil];nofun)];rfl
 | cons p l ih=>
  intro n arr h t;rw[abL] at h ⊢;show (lay base l (n+1) (arr.setIfInBounds (base+n) p))[t]?=_;rw[ih (by rw[Array.size_setIfInBounds];nofun)];by_cases h1:base+(n+1)<=t/\t<base+(n+1)+l.length
  ·rw[if_pos h1,if_pos (by nofun),show t - (base+n)=t - (base+(n+1))+1 by nofun,List.getElem?_cons_succ]
  ·rw[if_neg h1];by_cases h2:t=base+n
   ·subst h2;rw[if_pos (by nofun),Nat.sub_self,List.getElem?_cons_zero,Array.getElem?_setIfInBounds_self_of_lt (by nofun)]
   ·rw[if_neg (by nofun),Array.getElem?_setIfInBounds_ne (by nofun)]
theorem fB{a:Array Keyed}{z:Keyed}(h:z∈a.toList):∃ j,j<a.size/\a[j]?=some z:=by
 obtain⟨j,hj⟩:=ab4.mp h;rw[aby] at hj;exact⟨j,(abN.mp hj).1,hj⟩
section
variable {M:Model}     {U:List Keyed} {kd:SortKind}
theorem bR{x:Array Keyed}(h:aO k x 0 x.size):Up k x.toList:=by
 refine ab8.mpr λ i j hi hj hij=>?_;rw[abz] at hi hj;have:=h i j (by nofun) hij (by nofun);rw[ap (getElem?_pos x i hi),ap (getElem?_pos x j hj)] at this;simpa using this
theorem lN{x:Array Keyed}(h:Up k x.toList)(hij:i<j)(hj:j<x.size):kx k x i<kx k x j:=by
 rw[ap (getElem?_pos x i (by nofun)),ap (getElem?_pos x j hj)];have:=ab8.mp h i j (by rw[abz];nofun) (by rw[abz];exact hj) hij;simpa using this
theorem eL{a:Array Keyed}(h:i+n<=a.size)(ht:t<n):(a.extract i (i+n))[t]?=a[i+t]?:=by
 rw[Array.getElem?_extract,if_pos (by nofun)]
theorem aY{a:Array Keyed}(h:i+n<=a.size):(a.extract i (i+n)).size=n:=by
 rw[Array.size_extract];nofun
theorem lO{a:Array Keyed}(h:aO k a lo m)(h1:lo<=i)(h2:i+n<=lo+m)(h3:i+n<=a.size):aO k (a.extract i (i+n)) 0 (a.extract i (i+n)).size:=λ p q h4 h5 h6=>by
 rw[aY h3] at h6;rw[ak (eL h3 (t:=p) (by nofun)),ak (eL h3 (t:=q) (by nofun))];exact h _ _ (by nofun) (by nofun) (by nofun)
theorem oo{arr r:Array Keyed}(h:i+n+m<=arr.size)(hr:r.toList.Perm ((arr.extract i (i+n)).toList++(arr.extract (i+n) (i+n+m)).toList)):(lay i r.toList 0 arr).toList.Perm arr.toList:=by
 have hl:r.toList.length=n+m:=by
  rw[hr.length_eq,aan,abz,abz,aY (by nofun),aY (by nofun)]
 have e1:arr.toList=arr.toList.take i++(((arr.extract i (i+n)).toList++(arr.extract (i+n) (i+n+m)).toList)++arr.toList.drop (i+n+m)):=by
  rw[aV,aV,aaf,show arr.toList.drop (i+n+m)=((arr.toList.drop i).drop n).drop m by rw[ach,ach,Nat.add_assoc],show arr.toList.drop (i+n)=(arr.toList.drop i).drop n by rw[ach],aaz,aaz,aaz]
 have e2:(lay i r.toList 0 arr).toList=arr.toList.take i++(r.toList++arr.toList.drop (i+n+m)):=by
  apply ab2;intro t;rw[aby,pF (by rw[hl];nofun),hl,abd];have ht:(arr.toList.take i).length=i:=by rw[aap,abz];nofun
  by_cases h1:t<i
  ·rw[if_neg (by nofun),abP (by nofun),List.getElem?_take_of_lt h1,aby]
  ·rw[abJ (by nofun),ht];by_cases h2:t<i+(n+m)
   ·rw[if_pos (by nofun),abP (by nofun)]
   ·rw[if_neg (by nofun),abJ (by nofun),ab1,hl,show i+n+m+(t - i - (n+m))=t by nofun,aby]
 rw[e2]
 conv=>rhs;rw[e1]
 exact aav _ (aaA _ hr)
theorem lP(hC:Cmp M A E s k U kd)(hU:(U.map (kk k)).Nodup){st:SortSt}(o:Ok U kd st){sa pw sb pw2:Nat}(e1:(pendingOf st)[i]?=some (sa,na,pw))(e2:(pendingOf st)[i+1]?=some (sb,nb,pw2))(hsb:sb=sa+na)(hna:0<na)(hnb:0<nb)(hsz:sb+nb<=U.length)
  (r1:aO k (arrOf st) sa na) (r2:aO k (arrOf st) sb nb) {Q:Bool->SortSt->Prop}
  (q:∀ st',Ok U kd st'->pendingOf st'=((pendingOf st).setIfInBounds i (sa,na+nb,pw)).eraseIdxIfInBounds (i+1)->(∀ j,j<sa∨sa+na+nb<=j->(arrOf st')[j]?=(arrOf st)[j]?)->aO k (arrOf st') sa (na+nb)->Q true st'):wpS M A E s (mergeAt' i) Q st:=by
 have hos:=o.size;unfold mergeAt';refine wpS_bind (wpS_get ?_);rw[e1,e2];dsimp only;refine wpS_bind (wpS_modify (f:=λ _=>setPending st (((pendingOf st).setIfInBounds i (sa,na+nb,pw)).eraseIdxIfInBounds (i+1))) ?_);generalize hst1:setPending st (((pendingOf st).setIfInBounds i (sa,na+nb,pw)).eraseIdxIfInBounds (i+1))=st1;have o1:Ok U kd st1:=by rw[← hst1];exact⟨o.perm,o.kind,o.failed⟩
 have ea:arrOf st1=arrOf st:=by rw[← hst1]
 have ep:pendingOf st1=((pendingOf st).setIfInBounds i (sa,na+nb,pw)).eraseIdxIfInBounds (i+1):=by rw[← hst1]
 obtain⟨v,uv,ev⟩:=o.at (i:=sb) (by nofun);refine wpS_bind (aH ev ?_)
 have ne:∀ p r x,p<U.length->r<U.length->p≠r->(arrOf st)[r]?=some x->kx k (arrOf st) p≠kk k x:=λ p r x hp hr hn hx=>by
  rw[← ap hx];exact o.ne hU hp hr hn
 refine wpS_bind (bW hC o1.kind uv (λ n hn=>let ⟨x,h1,h2⟩:=o.at (i:=sa+n) (by nofun);⟨x,h1,h2⟩) r1 (λ n hn=>ne _ sb v (by nofun) (by nofun) (by nofun) ev) hna λ c hc1 hc2 hc3=>?_);dsimp only;by_cases hz:na - c=0
 ·rw[if_pos (by exists hz)];refine wpS_pure (q st1 o1 ep (λ j _=>by rw[ea]) λ p r h1 h2 h3=>?_);rw[ea];by_cases hr:r<sb
  ·exact r1 p r h1 h2 (by nofun)
  by_cases hp:sb<=p
  ·exact r2 p r hp h2 (by nofun)
  have h4:=hc2 (p - sa) (by nofun);rw[show sa+(p - sa)=p by nofun,← ap ev] at h4;by_cases hr2:r=sb
  ·rw[hr2];exact h4
  ·have:=r2 sb r (aad _) (by nofun) (by nofun);nofun
 rw[if_neg (by exists hz)];obtain⟨w,uw,ew⟩:=o.at (i:=sa+c+(na - c) - 1) (by nofun);refine wpS_bind (aH ew ?_);rw[show sa+c+(na - c) - 1=sb - 1 by nofun] at ew;refine wpS_bind (bW hC o1.kind uw (λ n hn=>let ⟨x,h1,h2⟩:=o.at (i:=sb+n) (by nofun);⟨x,h1,h2⟩) r2 (λ n hn=>ne _ (sb - 1) w (by nofun) (by nofun) (by nofun) ew) (by nofun) λ d hd1 hd2 hd3=>?_);dsimp only;have hvc:kk k v<kx k (arrOf st) (sa+c):=hc3 c (aad _) (by nofun)
 have hcw:kx k (arrOf st) (sa+c)<=kk k w:=by
  rw[← ap ew];by_cases h:sa+c=sb - 1
  ·rw[h];exact Int.le_refl _
  ·have:=r1 (sa+c) (sb - 1) (by nofun) (by nofun) (by nofun);nofun
 have hd0:0<d:=by
  rcases Nat.eq_zero_or_pos d with h|h
  ·have:=hd3 0 (by nofun) hnb;rw[abd,ap ev] at this;nofun
  ·exact h
 rw[if_neg (by simp;nofun)]
 have fin:∀ (r:Array Keyed) (st2:SortSt),Lk st1 st2->Res k ((arrOf st).extract (sa+c) sb) ((arrOf st).extract sb (sb+d)) r->wpS M A E s (modify (λ s=>setArr s (lay (sa+c) r.toList 0 (arrOf s))) >>= λ _=>(get:StateT SortSt Sem SortSt) >>= λ z=>pure (failedOf z).isNone) Q st2:=by
  intro r st2 l2 hr;have hx:sb=sa+c+(na - c):=by nofun
  have hrp:=hr.perm;rw[hx] at hrp;have hpm:=oo (by nofun) hrp
  have hl:r.toList.length=na - c+d:=by
   rw[hrp.length_eq,aan,abz,abz,aY (by nofun),aY (by nofun)]
  have hat:=pF (base:=sa+c) (l:=r.toList) (n:=0) (arr:=arrOf st) (by nofun);rw[hl] at hat;have e2:arrOf st2=arrOf st:=l2.arr.trans ea;refine wpS_bind (wpS_modify (wpS_bind (wpS_get ?_)));have hf2:failedOf (setArr st2 (lay (sa+c) r.toList 0 (arrOf st2)))=none:=l2.failed.trans o1.failed;rw[hf2];refine wpS_pure (q _ ⟨?_,l2.kind.trans o1.kind,hf2⟩ (l2.pend.trans ep) (λ j hj=>?_) ?_)
  ·show (lay (sa+c) r.toList 0 (arrOf st2)).toList.Perm U;rw[e2];exact hpm.trans o.perm
  ·show (lay (sa+c) r.toList 0 (arrOf st2))[j]?=_;rw[e2,hat,if_neg (by nofun)]
  show aO k (lay (sa+c) r.toList 0 (arrOf st2)) sa (na+nb);rw[e2];have F1:∀ t,t<sa+c∨sb+d<=t->kx k (lay (sa+c) r.toList 0 (arrOf st)) t=kx k (arrOf st) t:=λ t ht=>ak (by rw[hat,if_neg (by nofun)]);have F2:∀ t,sa+c<=t->t<sb+d->kx k (lay (sa+c) r.toList 0 (arrOf st)) t=kx k r (t - (sa+c)):=λ t h1 h2=>ak (by rw[hat,if_pos (by nofun),aby,abd])
  have F3:∀ t,t<r.size->kk k v<=kx k r t/\kx k r t<=kk k w:=λ t ht=>by
   have hm:r[t]∈r.toList:=by simp
   rw[ap (getElem?_pos r t ht)];rcases abx.mp (hrp.mem_iff.mp hm) with z|z
   ·obtain⟨j,h1,h2⟩:=fB z;rw[aY (by nofun)] at h1;rw[eL (by nofun) h1] at h2;rw[← ap h2];constructor
    ·by_cases h:j=0
     ·subst h;exact Int.le_of_lt hvc
     ·have:=r1 (sa+c) (sa+c+j) (by nofun) (by nofun) (by nofun);nofun
    ·rw[← ap ew];by_cases h:sa+c+j=sb - 1
     ·rw[h];exact Int.le_refl _
     ·have:=r1 (sa+c+j) (sb - 1) (by nofun) (by nofun) (by nofun);nofun
   ·obtain⟨j,h1,h2⟩:=fB z;rw[aY (by nofun)] at h1;rw[eL (by nofun) h1,show sa+c+(na - c)=sb by nofun] at h2;rw[← ap h2];constructor
    ·rw[← ap ev];by_cases h:j=0
     ·subst h;exact Int.le_refl _
     ·have:=r2 sb (sb+j) (by nofun) (by nofun) (by nofun);nofun
    ·have:=hd2 j h1;nofun
  have hrs:r.size=na - c+d:=by rw[← abz];exact hl
  intro p t h1 h2 h3;have P1:∀ x,sa<=x->x<sa+c->kx k (arrOf st) x<kk k v:=λ x a b=>by have:=hc2 (x - sa) (by nofun);rwa [show sa+(x - sa)=x by nofun] at this
  have P3:∀ x,sb+d<=x->x<sb+nb->kk k w<kx k (arrOf st) x:=λ x a b=>by have:=hd3 (x - sb) (by nofun) (by nofun);rwa [show sb+(x - sb)=x by nofun] at this
  by_cases p1:p<sa+c
  ·rw[F1 p (.inl p1)];have a1:=P1 p h1 p1;by_cases t1:t<sa+c
   ·rw[F1 t (.inl t1)];exact r1 p t h1 h2 (by nofun)
   ·by_cases t2:t<sb+d
    ·rw[F2 t (by nofun) t2];have:=(F3 (t - (sa+c)) (by nofun)).1;nofun
    ·rw[F1 t (.inr (by nofun))];have:=P3 t (by nofun) (by nofun);nofun
  ·by_cases p2:p<sb+d
   ·rw[F2 p (by nofun) p2];by_cases t2:t<sb+d
    ·rw[F2 t (by nofun) t2];exact lN hr.up (by nofun) (by nofun)
    ·rw[F1 t (.inr (by nofun))];have:=(F3 (p - (sa+c)) (by nofun)).2;have:=P3 t (by nofun) (by nofun);nofun
   ·rw[F1 p (.inr (by nofun)),F1 t (.inr (by nofun))];exact r2 p t (by nofun) h2 (by nofun)
 have hx:sb=sa+c+(na - c):=by nofun
 have exs:((arrOf st).extract (sa+c) sb).size=na - c:=by rw[hx];exact aY (by nofun)
 have eys:((arrOf st).extract sb (sb+d)).size=d:=aY (by nofun)
 have rx:aO k ((arrOf st).extract (sa+c) sb) 0 ((arrOf st).extract (sa+c) sb).size:=by
  rw[show (arrOf st).extract (sa+c) sb=(arrOf st).extract (sa+c) (sa+c+(na - c)) by rw[← hx]];exact lO r1 (by nofun) (by nofun) (by nofun)
 have ry:aO k ((arrOf st).extract sb (sb+d)) 0 ((arrOf st).extract sb (sb+d)).size:=lO r2 (by nofun) (by nofun) (by nofun)
 have ax:∀ j,j<na - c->((arrOf st).extract (sa+c) sb)[j]?=(arrOf st)[sa+c+j]?:=λ j hj=>by
  rw[show (arrOf st).extract (sa+c) sb=(arrOf st).extract (sa+c) (sa+c+(na - c)) by rw[← hx]];exact eL (by nofun) hj
 have ay:∀ j,j<d->((arrOf st).extract sb (sb+d))[j]?=(arrOf st)[sb+j]?:=λ j hj=>eL (by nofun) hj;have inU:∀ {j:Nat} {z:Keyed},(arrOf st)[j]?=some z->z∈U:=fun {j z} h=>o.perm.mem_iff.mp (abT (by rw[aby];exact h))
 have mx:∀ z∈((arrOf st).extract (sa+c) sb).toList,∃ j,j<na - c/\(arrOf st)[sa+c+j]?=some z:=λ z hz=>by
  obtain⟨j,h1,h2⟩:=fB hz;rw[exs] at h1;rw[ax j h1] at h2;exact⟨j,h1,h2⟩
 have my:∀ z∈((arrOf st).extract sb (sb+d)).toList,∃ j,j<d/\(arrOf st)[sb+j]?=some z:=λ z hz=>by
  obtain⟨j,h1,h2⟩:=fB hz;rw[eys] at h1;rw[ay j h1] at h2;exact⟨j,h1,h2⟩
 have hne:∀ x∈((arrOf st).extract (sa+c) sb).toList,∀ y∈((arrOf st).extract sb (sb+d)).toList,kk k x≠kk k y:=λ x hx y hy=>by
  obtain⟨j,h1,h2⟩:=mx x hx;obtain⟨p,h3,h4⟩:=my y hy;rw[← ap h2];exact ne _ _ y (by nofun) (by nofun) (by nofun) h4
 have hf:kx k ((arrOf st).extract sb (sb+d)) 0<kx k ((arrOf st).extract (sa+c) sb) 0:=by
  rw[ak (ax 0 (by nofun)),ak (ay 0 hd0),abd,abd,ap ev];exact hvc
 have hl:∀ y∈((arrOf st).extract sb (sb+d)).toList,kk k y<kx k ((arrOf st).extract (sa+c) sb) (((arrOf st).extract (sa+c) sb).size - 1):=λ y hy=>by
  obtain⟨j,h1,h2⟩:=my y hy;rw[exs,ak (ax (na - c - 1) (by nofun)),show sa+c+(na - c - 1)=sb - 1 by nofun,ap ew];have:=hd2 j h1;rw[ap h2] at this;exact this
 refine b7 (λ _=>?_) (λ _=>?_)
 ·exact wpS_bind (lL hC o1.kind rx ry (λ x hx=>let ⟨_,_,h⟩:=mx x hx;inU h) (λ x hx=>let ⟨_,_,h⟩:=my x hx;inU h) hne (by nofun) (by nofun) hf hl (bR rx) (bR ry) λ r st2 l2 hr=>fin r st2 l2 hr)
 ·exact wpS_bind (lM hC o1.kind rx ry (λ x hx=>let ⟨_,_,h⟩:=mx x hx;inU h) (λ x hx=>let ⟨_,_,h⟩:=my x hx;inU h) hne (by nofun) (by nofun) hf hl (bR rx) (bR ry) λ r st2 l2 hr=>fin r st2 l2 hr)
end
inductive Cov(k:Value->Int)(arr:Array Keyed):Nat->List (Nat×Nat×Nat)->Nat->Prop
 |nil {a:Nat}:Cov k arr a [] a
 |cons {a n pw b:Nat} {l:List (Nat×Nat×Nat)}:0<n->aO k arr a n->Cov k arr (a+n) l b->Cov k arr a ((a,n,pw)::l) b
section
variable  {arr arr':Array Keyed} {b:Nat} {l:List (Nat×Nat×Nat)}
theorem Cov.le(h:Cov k arr a l b):a+l.length<=b:=by
 induction h with
 |nil=>exact aad _
 |cons h _ _ ih=>rw[abL];nofun
theorem i0(h:aO k arr lo n)(e:∀ t,lo<=t->t<lo+n->arr'[t]?=arr[t]?):aO k arr' lo n:=λ i j h1 h2 h3=>by
 rw[ak (e i h1 (by nofun)),ak (e j (by nofun) h3)];exact h i j h1 h2 h3
theorem Cov.keep(h:Cov k arr a l b)(e:∀ t,a<=t->t<b->arr'[t]?=arr[t]?):Cov k arr' a l b:=by
 induction h with
 |nil=>exact .nil
 | cons h r t ih=>
  have:=t.le;exact .cons h (i0 r λ t h1 h2=>e t h1 (by nofun)) (ih λ t h1 h2=>e t (by nofun) h2)
theorem Cov.app{l1:List (Nat×Nat×Nat)}:∀ {a:Nat},Cov k arr a (l1++l2) b->∃ m,Cov k arr a l1 m/\Cov k arr m l2 b:=by
 induction l1 with
 |nil=>exact λ h=>⟨_,.nil,h⟩
 | cons x l1 ih=>
  intro a h
  cases h with
  | cons h r t=>
   obtain⟨m,h1,h2⟩:=ih t;exact⟨m,.cons h r h1,h2⟩
theorem Cov.join(h:Cov k arr a l m)(h2:Cov k arr m l2 b):Cov k arr a (l++l2) b:=by
 induction h with
 |nil=>exact h2
 |cons h r _ ih=>exact .cons h r (ih h2)
theorem Cov.modify{f:Nat×Nat×Nat->Nat×Nat×Nat}(hf:∀ x,(f x).1=x.1/\(f x).2.1=x.2.1)(h:Cov k arr a l b):∀ {i:Nat},Cov k arr a (l.modify i f) b:=by
 induction h with
 |nil=>intro i;rw[List.modify_nil];exact .nil
 | @cons a n pw b l h r t ih=>
  intro i
  cases i with
  | zero=>
   rw[List.modify_zero_cons];obtain⟨e1,e2⟩:=hf (a,n,pw);have e:f (a,n,pw)=(a,n,(f (a,n,pw)).2.2):=Prod.ext e1 (Prod.ext e2 rfl);rw[e];exact .cons h r t
  |succ i=>rw [List.modify_succ_cons];exact .cons h r ih
end
section
variable {M:Model}     {U:List Keyed} {kd:SortKind}
theorem i3(hC:Cmp M A E s k U kd)(hU:(U.map (kk k)).Nodup){st:SortSt}(o:Ok U kd st)(hc:Cov k (arrOf st) 0 (pendingOf st).toList lo)(hlo:lo<=U.length)(hi:i+1<(pendingOf st).size){Q:Bool->SortSt->Prop}
  (q:∀ st',Ok U kd st'->Cov k (arrOf st') 0 (pendingOf st').toList lo->(pendingOf st').size+1=(pendingOf st).size->(∀ j,lo<=j->(arrOf st')[j]?=(arrOf st)[j]?)->Q true st'):wpS M A E s (mergeAt' i) Q st:=by
 have hl:i+1<(pendingOf st).toList.length:=by rw[abz];exact hi
 have e0:(pendingOf st).toList=(pendingOf st).toList.take i++((pendingOf st).toList[i]::(pendingOf st).toList[i+1]::(pendingOf st).toList.drop (i+1+1)):=by
  rw[← aar hl,← aar (by nofun),aaz]
 have hc0:=hc;rw[e0] at hc;obtain⟨m,c1,c2⟩:=hc.app;generalize ex:(pendingOf st).toList[i]=x at c2 e0;generalize ey:(pendingOf st).toList[i+1]=y at c2 e0;have gx:(pendingOf st)[i]?=some x:=by rw[← aby,abA (by nofun),ex]
 have gy:(pendingOf st)[i+1]?=some y:=by rw[← aby,abA hl,ey]
 cases c2 with
 | @cons _ na pw _ _ h1 r1 c2=>
  cases c2 with
  | @cons _ nb pw2 _ _ h2 r2 c3=>
   have hle:=c3.le;have hle1:=c1.le;refine lP hC hU o gx gy rfl h1 h2 (by nofun) r1 r2 λ st' o' ep ea rr=>?_
   have el:(pendingOf st').toList=(pendingOf st).toList.take i++((m,na+nb,pw)::(pendingOf st).toList.drop (i+1+1)):=by
    rw[ep,Array.toList_eraseIdxIfInBounds,Array.toList_setIfInBounds]
    conv=>lhs;rw[e0]
    have ht:((pendingOf st).toList.take i).length=i:=by rw[aap];nofun
    rw[List.set_append_right _ _ (by nofun),ht,Nat.sub_self,List.set_cons_zero,List.eraseIdx_append_of_length_le (by nofun),ht,aaW];rfl
   have hk:∀ t,t<m∨m+na+nb<=t->(arrOf st')[t]?=(arrOf st)[t]?:=ea;refine q st' o' ?_ ?_ λ j hj=>hk j (.inr (by nofun))
   ·rw[el];refine(c1.keep λ t _ h=>hk t (.inl h)).join (.cons (by nofun) rr ?_);rw[← Nat.add_assoc];exact c3.keep λ t h _=>hk t (.inr h)
   ·rw[← abz,el,← abz,aan,abL,aap,aaX];nofun
theorem wL{c:Prop}[Decidable c](h:¬ m<=1):(if c then m - 2 - 1 else m - 2)+1<m:=by split <;> nofun
theorem jM(hC:Cmp M A E s k U kd)(hU:(U.map (kk k)).Nodup){st:SortSt}(o:Ok U kd st)(hp:pendingOf st=#[])(h2:2<=U.length){Q:Unit->SortSt->Prop}
  (q:∀ st',Ok U kd st'->Up k (arrOf st').toList->Q () st'):wpS M A E s sortRuns' Q st:=by
 unfold sortRuns';refine wpS_bind (wpS_get ?_);have hs:(arrOf st).size=U.length:=o.size;dsimp only;rw[hs];generalize (sortPriv% PySem.Builtin.minRun) U.length U.length 0=mr
 refine wpS_bind (wpS_mono (wpS_forRange (I:=λ x c st'=>∃ lo,c=(none,lo)/\Ok U kd st'/\Cov k (arrOf st') 0 (pendingOf st').toList lo/\lo<=U.length/\x<=lo+(U.length - lo)*0+(if lo=U.length then U.length else 0))
  (Q:=λ c st'=>c=(none,U.length)/\Ok U kd st'/\Cov k (arrOf st') 0 (pendingOf st').toList U.length) ?_ ?_ ⟨0,rfl,o,by rw[hp];exact .nil,by nofun,by nofun⟩) ?_)
 ·rintro x c st1 _ hx ⟨lo,rfl,o1,c1,hlo,hxl⟩;dsimp only;refine b7 (λ hge=>?_) (λ hge=>?_)
  ·have e:lo=U.length:=by nofun
   subst e;exact wpS_pure ⟨rfl,o1,c1⟩
  rw[if_neg (by nofun)] at hxl;refine wpS_bind (jL hC hU o1 (by nofun) (by nofun) λ n st2 o2 k2 p2 hn1 hn2 rn=>?_);dsimp only;have c2:Cov k (arrOf st2) 0 (pendingOf st2).toList lo:=by rw[p2];exact c1.keep λ t _ h=>k2 t h
  refine b7 (λ hm=>?_) (λ hm=>?_);refine wpS_bind (eK ?_);refine wpS_bind (gO hC hU o2 (by nofun) hn1 (by nofun) rn λ st3 o3 k3 p3 rf=>?_);simp only[Bool.not_true,Bool.false_eq_true,if_false];have c3:Cov k (arrOf st3) 0 (pendingOf st3).toList lo:=by rw[p3];exact c2.keep λ t _ h=>k3 t h
  clear c2 o2 k2 p2 rn k3 p3;have hf1:1<=min (U.length - lo) mr:=by nofun
  have hf2:min (U.length - lo) mr<=U.length - lo:=by nofun
  generalize min (U.length - lo) mr=n at rf hf1 hf2 ⊢
  rotate_left
  have rf:=rn;have c3:=c2;have o3:=o2;have hf1:=hn1;have hf2:=hn2;clear hm rn c2 o2 k2 p2;generalize st2=st3 at *
  rotate_left
  all_goals (
   refine wpS_bind (wpS_get ?_)
   have psh:∀ st4:SortSt,Ok U kd st4->Cov k (arrOf st4) 0 (pendingOf st4).toList lo->aO k (arrOf st4) lo n->∃ lo',((none,lo+n):Option Unit×Nat)=(none,lo')/\Ok U kd (setPending st4 ((pendingOf st4).push (lo,n,0)))/\Cov k (arrOf st4) 0 ((pendingOf st4).push (lo,n,0)).toList lo'/\lo'<=U.length/\x+1<=lo'+(U.length - lo')*0+if lo'=U.length then U.length else 0:=λ st4 o4 c4 r4=>
    ⟨lo+n,rfl,⟨o4.perm,o4.kind,o4.failed⟩,by rw[aaV];exact c4.join (.cons hf1 r4 .nil),by nofun,by nofun⟩
   cases eb:(pendingOf st3).back? with
   |none=>exact wpS_bind (wpS_modify (wpS_pure (psh st3 o3 c3 rf)))
   | some t=>
    obtain⟨s1,n1,w1⟩:=t;dsimp only;generalize (sortPriv% PySem.Builtin.power) U.length (2*s1+n1) (2*s1+n1+n1+n) U.length=pw
    refine wpS_bind (wpS_mono (wpS_forRange (I:=λ y c st'=>c=(none,())/\Ok U kd st'/\Cov k (arrOf st') 0 (pendingOf st').toList lo/\aO k (arrOf st') lo n)
     (Q:=λ c st'=>c=(none,())/\Ok U kd st'/\Cov k (arrOf st') 0 (pendingOf st').toList lo/\aO k (arrOf st') lo n) ?_ (λ c st' h=>h) ⟨rfl,o3,c3,rf⟩) ?_)
    ·rintro y c st4 _ hy ⟨rfl,o4,c4,r4⟩;refine wpS_bind (wpS_get ?_);by_cases hz:(pendingOf st4).size > 1
     ·rw[if_pos hz,getElem?_pos (pendingOf st4) ((pendingOf st4).size - 2) (by nofun)];generalize (pendingOf st4)[(pendingOf st4).size - 2]=t;obtain⟨s2,n2,w2⟩:=t;refine b7 (λ _=>wpS_pure ⟨rfl,o4,c4,r4⟩) λ _=>?_;refine wpS_bind (i3 hC hU o4 c4 hlo (show (pendingOf st4).size - 2+1<(pendingOf st4).size by nofun) λ st5 o5 c5 _ k5=>?_);simp only[Bool.not_true,Bool.false_eq_true,if_false];exact wpS_pure ⟨rfl,o5,c5,i0 r4 λ t h _=>k5 t h⟩
     ·rw[if_neg hz];exact wpS_pure ⟨rfl,o4,c4,r4⟩
    ·rintro c st4 ⟨rfl,o4,c4,r4⟩;refine wpS_bind (wpS_modify (wpS_bind (wpS_modify (wpS_pure (psh (setPending st4 ((pendingOf st4).modify ((pendingOf st4).size - 1) λ x=>(x.1,x.2.1,pw))) ⟨o4.perm,o4.kind,o4.failed⟩ ?_ r4)))));show Cov k (arrOf st4) 0 ((pendingOf st4).modify ((pendingOf st4).size - 1) λ x=>(x.1,x.2.1,pw)).toList lo;rw[Array.toList_modify];exact Cov.modify (f:=λ x=>(x.1,x.2.1,pw)) (λ x=>⟨rfl,rfl⟩) c4)
 ·rintro c st1 ⟨lo,rfl,o1,c1,hlo,hxl⟩
  have e:lo=U.length:=by
   split at hxl
   ·assumption
   ·nofun
  subst e;exact⟨rfl,o1,c1⟩
 ·rintro c st1 ⟨rfl,o1,c1⟩;dsimp only;have hle:=c1.le;rw[Array.length_toList] at hle
  refine wpS_bind (wpS_mono (wpS_forRange (I:=λ x c st'=>c=(none,())/\Ok U kd st'/\Cov k (arrOf st') 0 (pendingOf st').toList U.length/\(pendingOf st').size+x<=U.length+1)
   (Q:=λ c st'=>c=(none,())/\Ok U kd st'/\Cov k (arrOf st') 0 (pendingOf st').toList U.length/\(pendingOf st').size<=1) ?_ ?_ ⟨rfl,o1,c1,by nofun⟩) ?_)
  ·rintro x c st2 _ hx ⟨rfl,o2,c2,hsz⟩;refine wpS_bind (wpS_get ?_);refine b7 (λ hge=>wpS_pure ⟨rfl,o2,c2,hge⟩) (λ hge=>?_);refine wpS_bind (i3 hC hU o2 c2 (aad _) ?_ λ st3 o3 c3 hs3 _=>?_)
   ·exact wL hge
   simp only[Bool.not_true,Bool.false_eq_true,if_false];exact wpS_pure ⟨rfl,o3,c3,by nofun⟩
  ·rintro c st2 ⟨rfl,o2,c2,hsz⟩;exact⟨rfl,o2,c2,by nofun⟩
  ·rintro c st2 ⟨rfl,o2,c2,hsz⟩;dsimp only;refine wpS_pure (q st2 o2 ?_);rw[← Array.length_toList] at hsz;generalize (pendingOf st2).toList=l at c2 hsz;refine bR ?_;rw[o2.size];generalize U.length=z at c2 h2 ⊢
   cases c2 with
   |nil=>nofun
   | cons h r t=>
    cases t with
    |nil=>rw[ab9] ; exact r
    |cons h2 r2 t2=>rw[abL,abL] at hsz;nofun
end
end KL
namespace KL
open PySem PyProof.Rows PySem.AutoSeq1 PySem.MeetsSeq PySem.MeetsSeq3
theorem sF(l b:Addr)(x y:Int)(tx ty:Tok)(xs ys:Array Value)(n n2:Nat)(dd dd2:Option Addr)(sl sl2:Array (Option Value))(h1:xs[0]?=some (.int x tx))(h2:ys[0]?=some (.int y ty))(hne:x≠y) :
  Meets (Builtin.«list.__eq__.loop» ⟨[.ref l,.ref b,rawInt 0,rawInt 0],[]⟩)
   (λ A R s=>s.heap.get? l=some { cls:=.type "list", dict:=dd,data:=.seq xs n,slots:=sl }/\s.heap.get? b=some { cls:=.type "list", dict:=dd2,data:=.seq ys n2,slots:=sl2 } /\
    R (.ok (.ret (.bool (decide (x<y))))) s):=by
 intro prog w A R s h;obtain⟨hp,g,d,tk,os⟩:=s;obtain⟨hl,hb,h⟩:=h;have h1':xs[(0:Int).toNat]?=some (.int x tx):=h1;have h2':ys[(0:Int).toNat]?=some (.int y ty):=h2
 wp_walk using wpAny_loadPart' hl,wpAny_loadPart' hb
 rw[h1',h2'];refine aaa (wpAny_eqBool_int ?_);rw[show (x==y)=false from beq_eq_false_iff_ne.mpr hne]
 wp_walk using wpAny_loadPart' hl,wpAny_loadPart' hb
 rw[h1',h2'];refine aaa (wpAny_richCompare_same (op:=.Lt) (typeIs_int _ x tx) (typeIs_int _ y ty) slot_int_lt ?_);exact call_int_lt ⟨(λ z=>nomatch z),aab h⟩
theorem sG(l b:Addr)(x y:Int)(tx ty:Tok)(xs ys:Array Value)(n n2:Nat)(dd dd2:Option Addr)(sl sl2:Array (Option Value))(h1:xs[0]?=some (.int x tx))(h2:ys[0]?=some (.int y ty))(hne:x≠y) :
  Meets (Builtin.«list.__lt__» ⟨[.ref l,.ref b],[]⟩)
   (λ A R s=>s.heap.get? l=some { cls:=.type "list", dict:=dd,data:=.seq xs n,slots:=sl }/\s.heap.get? b=some { cls:=.type "list", dict:=dd2,data:=.seq ys n2,slots:=sl2 } /\
    R (.ok (.ret (.bool (decide (x<y))))) s):=by
 intro prog w A R s h;obtain⟨hp,g,d,tk,os⟩:=s;obtain⟨hl,hb,h⟩:=h;have f3:=AutoSeq1.sub_list_list
 wp_walk using wpAny_loadPart' hl,wpAny_loadPart' hb
 exact⟨plainId_quiet plain_eq_loop _,codeAny_builtin entry_eq_loop (by
  rw[aaK plain_eq_loop _];exact sF l b x y tx ty xs ys n n2 dd dd2 sl sl2 h1 h2 hne prog w A R _ ⟨hl,hb,h⟩)⟩
section
variable {prog:Program} {w:World} {A:Around} {E:Value->Shared->Prop} {s:Shared}
theorem wM{l b:Addr}{x y:Int}{tx ty:Tok}{xs ys:Array Value}{n n2:Nat}{dd dd2:Option Addr}{sl sl2:Array (Option Value)}{Q:Bool->Shared->Prop}(hu:A.units<cLine)
  (hl:s.heap.get? l=some { cls:=.type "list", dict:=dd,data:=.seq xs n,slots:=sl }) (hb:s.heap.get? b=some { cls:=.type "list", dict:=dd2,data:=.seq ys n2,slots:=sl2 }) (h1:xs[0]?=some (.int x tx)) (h2:ys[0]?=some (.int y ty)) (hne:x≠y)
  (q:Q (decide (x<y)) s):wpAny (model prog w) A (oneLt' true (.ref l) (.ref b)) Q E s:=by
 rw[oneLt'_eq];simp only[if_true];refine aaa (wpAny_cRoomFor hu ?_);refine aaa (wpAny_callSpecialIfBound?_slot (T := "list") ⟨_,hl,rfl⟩ F.slot_list_lt ?_);refine call_meets F.slot_list_lt ⟨_,hl,rfl⟩ F.entry_list_lt (F.args_list_lt_2 _ _) (sG l b x y tx ty xs ys n n2 dd dd2 sl sl2 h1 h2 hne) ⟨hl,hb,?_⟩;exact aa2 q
def LsK(h:Heap)(k:Value->Int)(v:Value):Prop:=∃ (a:Addr) (dd:Option Addr) (xs:Array Value) (n:Nat) (sl:Array (Option Value)) (t:Tok),v=.ref a/\h.get? a=some { cls:=.type "list", dict:=dd,data:=.seq xs n,slots:=sl }/\xs[0]?=some (.int (k v) t)
variable{k:Value->Int}
theorem lQ{U:List Keyed}(hu:A.units<cLine)(hL:∀ p∈U,LsK s.heap k p.1):Cmp (model prog w) A E s k U oneType':=by
 intro x hx y hy st Q hne hk q;obtain⟨a,dd,xs,n,sl,t,e1,g1,i1⟩:=hL x hx;obtain⟨b,dd2,ys,n2,sl2,t2,e2,g2,i2⟩:=hL y hy;rw[lt'_eq];refine wpS_bind (wpS_get ?_);rw[hk,keyLt'_oneType];refine wpS_bind (wpS_lift (abg ?_));rw[e1,e2];exact wM hu g1 g2 i1 i2 hne ⟨rfl,wpS_pure q⟩
theorem oq{U:List Keyed}(hL:∀ p∈U,∃ t,p.1=.int (k p.1) t):Cmp (model prog w) A E s k U oneType':=by
 intro x hx y hy st Q hne hk q;obtain⟨t,e1⟩:=hL x hx;obtain⟨t2,e2⟩:=hL y hy;rw[lt'_eq];refine wpS_bind (wpS_get ?_);rw[hk,keyLt'_oneType];refine wpS_bind (wpS_lift (abg ?_));rw[e1,e2];exact oneLt_int ⟨rfl,wpS_pure q⟩
theorem pG{ps:Array Keyed}(hC:Cmp (model prog w) A E s k ps.toList oneType')(hU:(ps.toList.map (kk k)).Nodup)(h2:2<=ps.size){Q:Unit×SortSt->Shared->Prop}
  (q:∀ st':SortSt,(arrOf st').toList.Perm ps.toList->failedOf st'=none->Up k (arrOf st').toList->Q ((),st') s):wpAny (model prog w) A (sortRuns'.run (SortSt.mk' oneType' ps #[] 7 none)) Q E s:=by
 have:=jM hC hU (st:=SortSt.mk' oneType' ps #[] 7 none) ⟨aaH _,rfl,rfl⟩ rfl (by rw[abz];exact h2) (Q:=λ _ st'=>(arrOf st').toList.Perm ps.toList/\failedOf st'=none/\Up k (arrOf st').toList) λ st' o u=>⟨o.perm,o.failed,u⟩;refine aa0 this (λ r s' h=>?_) λ _ _ e=>e;obtain⟨rfl,h1,h3,h4⟩:=h;exact q _ h1 h3 h4
end
end KL
namespace KL
open PySem PyProof.Rows PySem.W
theorem LsK.keep{h h':Heap}{k:Value->Int}{v:Value}(x:LsK h k v)(q:∀ b o,h.get? b=some o->h'.get? b=some o):LsK h' k v:=by
 obtain⟨a,dd,xs,n,sl,t,e,g,i⟩:=x;exact⟨a,dd,xs,n,sl,t,e,q _ _ g,i⟩
theorem jN{k:Value->Int}{vs:List Value}:(pairsOf vs).toList.map (kk k)=vs.map k:=by
 rw[pairsOf_toList]
 induction vs with
 |nil=>rfl
 |cons v vs ih=>rw[List.zip_cons_cons,abC,ih,abC]
theorem lR{k:Value->Int}{vs:List Value}{xs:Array Keyed}(hp:xs.toList.Perm (pairsOf vs).toList)(hs:Up k xs.toList):(xs.map (·.2)).toList.Perm vs/\(xs.map (·.2)).toList.Pairwise λ a b=>k a<k b:=by
 have he:xs.toList.map (·.2)=xs.toList.map (·.1):=aaE λ p hm=>by
  have:=hp.mem_iff.mp hm;rw[pairsOf_toList] at this;exact(mem_zip_self this).1.symm
 refine⟨?_,?_⟩
 ·rw[abn];have:=hp.map (·.2);rw[pairsOf_toList,List.map_snd_zip (aad _)] at this;exact this
 ·rw[abn,he,aaR];exact hs
section
variable {prog:Program} {w:World} {A:Around} {E:Value->Shared->Prop} {s:Shared}
theorem iA{l:Addr}{vs:List Value}{k:Value->Int}{Q:Value->Shared->Prop}(hl:s.heap.IsList l vs.toArray)(hz:vs.length<=sizeLine)(hu:A.in1.in1.units<cLine)(hL:∀ v∈vs,LsK s.heap k v)(hn:(vs.map k).Nodup)
  (h:∀ out:Array Value,out.toList.Perm vs->(out.toList.Pairwise λ a b=>k a<k b)->Q (.ref (s.heap.objs.size+1)) { s with heap:=sortedAll s.heap vs out }) :
  wpAny (model prog w) A (call (.builtin "sorted") [.ref l]) Q E s:=by
 by_cases few:vs.length<2
 ·have e0:((pairsOf vs).map (·.2)).toList=vs:=by rw[abn,pairsOf_toList,List.map_snd_zip (aad _)]
  refine L2.sorted_few hl few (h _ (by rw[e0]) ?_);rw[e0]
  cases vs with
  |nil=>exact .nil
  | cons v vs=>
   cases vs with
   |nil=>exact List.pairwise_singleton _ _
   |cons _ _=>rw[abL,abL] at few;nofun
 refine aa8 kind_sorted plain_sorted entry_sorted (args_sorted1 _) ?_;unfold Builtin.«sorted»;refine aaa (m:=checkCount "sorted" 1 1 _) (aab (aaa (collect_list hl (aaa (aa4 ?_ hz)) hz)));have z1:((s.heap.push (seqObj "list" #[] 0)).update s.heap.objs.size (Obj.mapSeq (·++vs.toArray))).objs.size=s.heap.objs.size+1:=(Heap.size_update ..).trans (size_push' ..);have top:(((s.heap.push (seqObj "list" #[] 0)).update s.heap.objs.size (Obj.mapSeq (·++vs.toArray))).push (seqObj "list" vs.toArray 0)).get? (s.heap.objs.size+1)=some (seqObj "list" vs.toArray 0):=z1 ▸ abD _ rfl
 have kp:∀ b o,s.heap.get? b=some o->(((s.heap.push (seqObj "list" #[] 0)).update s.heap.objs.size (Obj.mapSeq (·++vs.toArray))).push (seqObj "list" vs.toArray 0)).get? b=some o/\b≠s.heap.objs.size+1:=λ b o e=>by
  have lt:=aae e;refine⟨abv _ ?_,aal (aaw lt)⟩;rw[abV _ _ _ _ (aal lt)];exact abv _ e
 show wpAny _ _ _ _ _ { s with heap:=((s.heap.push (seqObj "list" #[] 0)).update s.heap.objs.size (Obj.mapSeq (·++vs.toArray))).push (seqObj "list" vs.toArray 0) };rw[z1];refine aaa (aaq (aaC slot_list_sort ⟨_,top,rfl⟩ entry_list_sort ?_ (args_list_sort _)));generalize hG:((s.heap.push (seqObj "list" #[] 0)).update s.heap.objs.size (Obj.mapSeq (·++vs.toArray))).push (seqObj "list" vs.toArray 0)=G at top kp;generalize ha:s.heap.objs.size+1=a at top kp;rw[list_sort_plain];refine aaa (listItems_at (s:={ s with heap:=G }) top rfl (aaa (listUpdate_at (s:={ s with heap:=G }) top rfl ?_ (by exists hz))));obtain⟨e1,o1⟩:∃ e1,(G.update a (Obj.mapSeq λ _=>#[])).get? a=some (seqObj "list" #[] e1):=⟨_,get?_update_seq top (λ _=>#[])⟩;refine aaa (seqEpoch_at (s:={ s with heap:=G.update a (Obj.mapSeq λ _=>#[]) }) o1 rfl (aaa (wpAny_newTuple (aaa (aa4 (aaq ?_))) (by exists hz))));have o6:(((G.update a (Obj.mapSeq λ _=>#[])).push (seqObj "tuple" vs.toArray 0)).push (seqObj "list" #[] 0)).get? a=some (seqObj "list" #[] e1):=abv _ (abv _ o1)
 have kp6:∀ b o,s.heap.get? b=some o->(((G.update a (Obj.mapSeq λ _=>#[])).push (seqObj "tuple" vs.toArray 0)).push (seqObj "list" #[] 0)).get? b=some o:=λ b o e=>by
  obtain⟨e2,ne⟩:=kp b o e;refine abv _ (abv _ ?_);rw[abV _ _ _ _ ne];exact e2
 show wpAny (model prog w) _ _ _ E { s with heap:=((G.update a (Obj.mapSeq λ _=>#[])).push (seqObj "tuple" vs.toArray 0)).push (seqObj "list" #[] 0) };have h2:¬ vs.toArray.size<2:=(by exists few);dsimp only;rw[if_neg h2,if_neg h2];generalize hG6:((G.update a (Obj.mapSeq λ _=>#[])).push (seqObj "tuple" vs.toArray 0)).push (seqObj "list" #[] 0)=G6 at o6 kp6;have hL6:∀ v∈vs,LsK G6 k v:=λ v hv=>(hL v hv).keep kp6;refine aaa (kas_kind (T:=.type "list") (by nofun) (λ v hv=>?_) (by decide) (by decide) ?_)
 ·obtain⟨b,dd,xs,n,sl,t,rfl,g,i⟩:=hL6 v hv;exact λ A Q E s k' q=>wpAny_typeOf (T := "list") ⟨_,k' _ _ g,rfl⟩ q
 have hps:(vs.toArray.zip vs.toArray)=pairsOf vs:=rfl;refine aaa (pG (k:=k) (ps:=pairsOf vs) (lQ hu λ p hp=>?_) (by rw[jN];exact hn) (by rw[pairsOf_size];nofun) λ st' p1 p2 p3=>?_)
 ·rw[pairsOf_toList] at hp;exact hL6 _ (mem_zip_self hp).2
 obtain⟨q1,q2⟩:=lR p1 p3;refine aaa (seqEpoch_at o6 rfl (aaa (listUpdate_at o6 rfl ?_ (hsz2:=?_))))
 ·rw[p2];simp only[bne_self_eq_false,Bool.false_eq_true,if_false];refine aab ⟨_,rfl,aab ⟨_,rfl,?_⟩⟩;subst ha;have e:sortedAll s.heap vs ((arrOf st').map (·.2))=sortedHeap G (s.heap.objs.size+1) vs ((arrOf st').map (·.2)):=by rw[← hG];rfl
  have:=h _ q1 q2;rw[e] at this;rw[← hG6];exact this
 ·have:=q1.length_eq;rw[abz] at this;show ((arrOf st').map (·.2)).size<=_;rw[this];nofun
end
end KL
namespace L2
open PySem PySem.Spec PyProof.Rows PySem.W
abbrev bn(p:Pos):Arguments:={ posonlyargs:=[],args:=[{ arg := "row", annotation:=none,pos:=p }],vararg:=none,kwonlyargs:=[],kw_defaults:=[],kwarg:=none,defaults:=[] }
abbrev a7(p1 p2 p3:Pos):Expr:=.Subscript (.Name "row" p1) (.Constant (.int 0) 0 p2) p3
abbrev aA:Scope:={ kind:=.function,names:=[("row", .local)],isGenerator:=false,isCoroutine:=false,more:=[] }
theorem lS:FnScope ["row"] ["row"] aA:=⟨rfl,rfl,rfl,by decide,rfl,λ x h=>by
 have:x = "row" := (by exists h);subst this;exact .inl rfl,λ y hy=>by
 have:y=((("row" : Str),NameKind.local)):=(by exists hy);subst this;exact λ z=>nomatch z⟩
theorem ou{α:Type}{x:α}{xs:List α}:atI (x::xs) (0:Int)=some x:=by
 unfold atI ixN;simp
section
variable {X:Cx} {pins:List (Addr×Obj)} {σ:St} {H:Hp} {s:Shared}
def sH(h:Heap)(f c:Addr):Prop:=∃ (p p1 p2 p3:Pos) (pm ctv:Value),h.get? f=some (kla_obj "<lambda>" dW (bn p) (a7 p1 p2 p3) aA [] pm c ctv)
def IsCode(H:Hp)(c T:Addr):Prop:=∃ (oc:Obj) (vs:Array Value) (t:Tok),H c=some (.frz oc (.own T))/\oc.data=.fields vs/\vs[1]?=some (.str dW t)
theorem IsCode.rec_{c T:Addr}(h:IsCode H c T)(I:Inv X pins σ H s):s.heap.CodeRec (.ref c) dW:=by
 obtain⟨oc,vs,t,e1,e2,e3⟩:=h;exact⟨c,oc,vs,t,rfl,(I.hok c _ e1).1,e2,e3⟩
theorem sI{A:Around}{f c T t:Addr}{n:Int}{xs:List V}{Q:Value->Shared->Prop}{E:Value->Shared->Prop}(I:Inv X pins σ H s)(hr:Room 1 A)(hfr:A.frames=some X.stack)(hf:sH s.heap f c)(hc:IsCode H c T)(ht:SqT X.K H t (.int n::xs))
  (q:∀ tk s',Inv X pins σ H s'->(∀ b o,s.heap.get? b=some o->H b=none->b∉frs X.stack->s'.heap.get? b=some o)->Q (.int n tk) s'):wpAny (model X.prog X.w) A (call (.ref f) [.ref t]) Q E s:=by
 obtain⟨p,p1,p2,p3,pm,ctv,hf⟩:=hf;have lim:s.heap.NoLimit:=I.nolimit;have e0:Env0 X.prog X.w X.K X.mg X.base A X.stack s H:=⟨hfr,I.env0.mod,I.env0.bs,I.env0.bsz,I.env0.funs,I.env0.frf,I.env0.hok,I.env0.bare,I.env0.lam⟩;refine wpAny_call (kla_callFunE (by have:=hr.dp;nofun) hf rfl rfl rfl rfl (hc.rec_ I) ?_);have hb:bindArgs (kla_fn "<lambda>" dW (bn p) (a7 p1 p2 p3) aA [] pm (.ref c) ctv) ⟨[.ref t],[]⟩=pure [((("row" : Str),Value.ref t))]:=rfl;rw[hb];refine aab ?_;refine wpAny_newFunctionEnv_cells rfl (λ y hy=>?_) λ env he s1 x=>?_
 ·have:y=((("row" : Str),Value.ref t)):=(by exists hy);subst this;exact .inl rfl
 subst he;refine⟨lim.keeps x.toInCall.keep,kla_codeExpr ?_⟩;have I1:Inv (fU CX0 X.prog X.w X.K X.mg X.base ["row"] dW aA f (.ref c) A X.stack s H (λ _ _ _=>True)).nox [] (bg ["row"] [.ref t]) H s1:=(fV (us:=[.ref t]) (vs:=[.ref t]) lS hr.hd e0 rfl (.cons rfl .nil) x).wish _;have hx:(fU CX0 X.prog X.w X.K X.mg X.base ["row"] dW aA f (.ref c) A X.stack s H (λ _ _ _=>True)).nox.K=X.K:=rfl
 have pe:PE (fU CX0 X.prog X.w X.K X.mg X.base ["row"] dW aA f (.ref c) A X.stack s H (λ _ _ _=>True)).nox (a7 p1 p2 p3) (tOp (rIx X.K) (cV 0) (tC (.int 0))):=by
  refine(yl (X:=(fU CX0 X.prog X.w X.K X.mg X.base ["row"] dW aA f (.ref c) A X.stack s H (λ _ _ _=>True)).nox) X.K (kP (x := "row") 0 rfl (.inl rfl)) kQ (λ _ _=>rfl) hx).h
 refine aa0 (pe [] s1 _ H (λ v H'=>v=.int n/\H'=H) I1 ?_) (λ u s' hs=>?_) λ _ _ z=>z.elim
 ·exact⟨.ref t,rfl,.inr (.inl ⟨t,_,0,.int n,rfl,rfl,ht,ou,rfl,rfl⟩)⟩
 ·obtain⟨v,H',J,rv,rfl,rfl⟩:=hs;obtain⟨tk,rfl⟩:=rv;have un:Un (frs X.stack) [] H' H' s.heap s'.heap:=J.base;obtain⟨hh,g,d,tk',os'⟩:=s';obtain rfl:os'=s.os:=J.os;refine q tk _ (I.call (h':=hh) (g':=g) (d':=d) (t':=tk') (ch:=[]) un J.hok J.bare λ b z=>absurd z (by simp)) λ b o e n hb=>un.keep b o e n hb (by simp)
end
section
variable {X:Cx} {pins:List (Addr×Obj)} {σ:St} {H:Hp} {s:Shared}
structure NewOk(X:Cx)(pins:List (Addr×Obj))(H:Hp)(b:Addr):Prop where
 h:H b=none
 l:b≠X.env.locals
 z:X.s₀.heap.objs.size<=b
 c:∀ x c,X.env.cells.lookup x=some c->c≠b
 p:∀ p∈X.pn++pins,p.1≠b
 f:b∉frs X.stack
theorem Inv.newOk(I:Inv X pins σ H s){b:Addr}(h:s.heap.objs.size<=b):NewOk X pins H b:=by
 refine⟨I.hok.fresh h,acf (aaj I.lt h),aat I.sz h,λ x c e z=>?_,λ p hp z=>?_,λ hb=>?_⟩
 ·obtain⟨v,o,ho,_⟩:=I.cell x c e;exact absurd (aaj (aae ho) h) (by rw[z];exact aaD _)
 ·obtain⟨ho,_⟩:=I.pin p hp;exact absurd (aaj (aae ho) h) (by rw[z];exact aaD _)
 ·rcases abG.mp (I.stkSub b hb) with z|z
  ·exact absurd (aaj I.lt h) (by rw[← z];exact aaD _)
  ·exact I.nofs h z
theorem NewOk.hch{b:Addr}(n:NewOk X pins H b):(b∈X.ex∨X.s₀.heap.objs.size<=b)/\b≠X.env.locals/\(∀ x c,X.env.cells.lookup x=some c->c≠b)/\∀ p∈X.pn++pins,p.1≠b:=⟨.inr n.z,n.l,n.c,n.p⟩
theorem Inv.lay{h':Heap}{t':Nat}{ch:List Addr}{a:Addr}{o:HO}(I:Inv X pins σ H s)(hch:∀ b∈ch,NewOk X pins H b)(ha:a∈ch)(k:∀ b u,b∉ch->s.heap.get? b=some u->h'.get? b=some u)
  (new:ObjOk X.prog X.w (upd H a o) h' a o):Inv X pins σ (upd H a o) { s with heap:=h',toks:=t' }:=by
 have hHa:=(hch a ha).h;have nc:∀ b u,H b=some u->b∉ch:=λ b u e z=>by rw[(hch b z).h] at e;cases e
 refine I.call (g':=s.gens) (d':=s.drawn) (t':=t') (ch:=ch) ⟨λ b ob q n _ hx=>k b ob hx q,λ b ob q n _ hx=>⟨ob.slots,k b ob hx q⟩,λ b ob q n hx=>by rw[ah (show b≠a from λ z=>hx (by rw[z];exact ha))];exact n,λ b ob q hx=>⟨ob,k b ob hx q⟩,
  λ b xs q=>by rw[ah (ao q hHa)];exact q,λ b ob u q=>by rw[ah (ao q hHa)];exact q,λ b ps q=>by rw[ah (ao q hHa)];exact q⟩ (λ b u e=>?_) I.bare λ b hb=>(hch b hb).hch
 by_cases hb:b=a
 ·subst hb;rw[ag] at e;cases e;exact new
 ·rw[ah hb] at e;refine(I.hok b u e).stay (λ c v hc q=>k c v ?_ q) (λ c q=>by rw[ah (ao q hHa)];exact q) (λ c xs q=>by rw[ah (ao q hHa)];exact q) λ c ob y q=>by rw[ah (ao q hHa)];exact q
  rcases hc with z|z
  ·rw[z];exact nc b u e
  ·exact nc c _ z
theorem Inv.stir{h':Heap}{t':Nat}{ch:List Addr}(I:Inv X pins σ H s)(hch:∀ b∈ch,NewOk X pins H b)(k:∀ b u,b∉ch->s.heap.get? b=some u->h'.get? b=some u):Inv X pins σ H { s with heap:=h',toks:=t' }:=by
 have nc:∀ b u,H b=some u->b∉ch:=λ b u e z=>by rw[(hch b z).h] at e;cases e
 refine I.call (g':=s.gens) (d':=s.drawn) (t':=t') (ch:=ch) ⟨λ b ob q n _ hx=>k b ob hx q,λ b ob q n _ hx=>⟨ob.slots,k b ob hx q⟩,λ b ob q n hx=>n,λ b ob q hx=>⟨ob,k b ob hx q⟩,λ _ _ q=>q,λ _ _ _ q=>q,λ _ _ q=>q⟩ (λ b u e=>?_) I.bare λ b hb=>(hch b hb).hch;refine(I.hok b u e).stay (λ c v hc q=>k c v ?_ q) (λ _ q=>q) (λ _ _ q=>q) λ _ _ _ q=>q;rcases hc with z|z
 ·rw[z];exact nc b u e
 ·exact nc c _ z
end
def kI:Value->Int
 |.int n _=>n
 |_=>0
theorem bS{α β:Type}{g:α->β}{l k:List β}(h:l.Perm k):∀ {m:List α},k=m.map g->∃ m':List α,m'.Perm m/\l=m'.map g:=by
 induction h with
 |nil=>intro m e;exact⟨m,.refl _,e⟩
 | cons x _ ih=>
  intro m e
  cases m with
  |nil=>cases e
  | cons y m=>
   rw[abC] at e;injection e with e1 e2
   obtain⟨m',p,e3⟩:=ih e2;exact⟨y::m',p.cons y,by rw[abC,e1,e3]⟩
 | swap x y l=>
  intro m e
  cases m with
  |nil=>cases e
  | cons u m=>
   cases m with
   |nil=>cases e
   | cons v m=>
    rw[abC,abC] at e;injection e with e1 e2
    injection e2 with e2 e3
    exact⟨v::u::m,.swap _ _ _,by rw[abC,abC,e1,e2,e3]⟩
 | trans _ _ ih1 ih2=>
  intro m e;obtain⟨m2,p2,e2⟩:=ih2 e;obtain⟨m1,p1,e1⟩:=ih1 e2;exact⟨m1,p1.trans p2,e1⟩
theorem fE:∀ {vs:List Value} {ns:List Int},IntsAre vs ns->∀ p∈vs.zip ns,∃ t,p.1=.int p.2 t
 |_,_,.nil,p,h=>nomatch h
 | _,_,.cons _ t r,p,h=>by
  rw[List.zip_cons_cons] at h;rcases abG.mp h with rfl|h
  ·exact⟨_,rfl⟩
  ·exact fE r p h
end L2
namespace L2
open PySem PySem.Spec PyProof.Rows PySem.W KL
section
variable {X:Cx} {pins:List (Addr×Obj)} {σ:St} {H:Hp} {s:Shared}
abbrev Rw3:=Addr×Int×List V
theorem sJ:∀ {rows:List Rw3} {us:List Value},Vals (rows.map λ r=>V.ref r.1) us->us=rows.map λ r=>.ref r.1
 |[],_,.nil=>rfl
 |r::rows,_,.cons h t=>by rw[abC,sJ t,show _=Value.ref r.1 from h]
theorem sK:∀ (rows:List Rw3),Vals (rows.map λ r=>V.ref r.1) (rows.map λ r=>.ref r.1)
 |[]=>.nil
 |r::rows=>.cons rfl (sK rows)
theorem i4:∀ {vs:List Value} {ns:List Int},IntsAre vs ns->vs.map kI=ns
 |_,_,.nil=>rfl
 |_,_,.cons _ _ r=>by rw[abC,i4 r];rfl
theorem lT{rows:List Rw3}{ks:List Value}{arr:List Keyed}(hk:IntsAre ks (rows.map (·.2.1)))(hp:arr.Perm (ks.zip (rows.map λ r=>Value.ref r.1)))(hs:arr.Pairwise λ p q=>kI p.1<kI q.1) :
  ∃ rows':List Rw3,rows'.Perm rows/\arr.map (·.2)=rows'.map (λ r=>Value.ref r.1)/\(rows'.map (·.2.1)).Pairwise (·<·):=by
 have hl:ks.length=rows.length:=by have:=hk.length;rw[abw] at this;exact this
 have e:ks.zip (rows.map λ r=>Value.ref r.1)=(ks.zip rows).map λ p=>(p.1,Value.ref p.2.1):=by
  rw[List.zip_map_right];rfl
 obtain⟨m,pm,em⟩:=bS hp e
 have hkey:∀ p∈m,kI p.1=p.2.2.1:=λ p h=>by
  have h1:=pm.mem_iff.mp h
  have h2:(p.1,p.2.2.1)∈ks.zip (rows.map (·.2.1)):=by
   rw[List.zip_map_right];exact ab3.mpr ⟨p,h1,rfl⟩
  obtain⟨t,e2⟩:=fE hk _ h2;show kI p.1=_;rw[show p.1=Value.int p.2.2.1 t from e2];rfl
 refine⟨m.map (·.2),?_,by rw[em,aao,aao];rfl,?_⟩
 ·have:=pm.map (·.2);rw[List.map_snd_zip (Nat.le_of_eq hl.symm)] at this;exact this
 ·rw[em,aaR] at hs;rw[aao,aaR];refine hs.imp_of_mem fun {a b} ha hb h=>?_;have h:kI a.1<kI b.1:=h;rw[hkey a ha,hkey b hb] at h;exact h
theorem lU{l f c T:Addr}{rows:List Rw3}{Q:VK}{E:Value->Shared->Prop}(I:Inv X pins σ H s)(hr:Room 3 X.A)(hl:SqL X.K H l (rows.map λ r=>.ref r.1))(ht:∀ r∈rows,SqT X.K H r.1 (.int r.2.1::r.2.2))(hn:(rows.map (·.2.1)).Nodup)
  (hf:sH s.heap f c) (hHf:H f=none) (hff:f∉frs X.stack) (hc:IsCode H c T) (q:∀ (D:Addr) (rows':List Rw3),H D=none->rows'.Perm rows->(rows'.map (·.2.1)).Pairwise (·<·)->Q (.ref D) (upd H D (.lst (rows'.map λ r=>.ref r.1)))) :
  wpAny (model X.prog X.w) X.A (call (.builtin "sorted") [.ref l] [("key", .ref f)]) (EP X pins σ Q) E s:=by
 obtain⟨its,rv,pl,hz⟩:=I.list hl;have hits:=sJ rv;subst hits;rw[abw] at hz;have hz':(rows.map λ r=>Value.ref r.1).length<=sizeLine:=by rw[abw];exact hz
 refine call_function_entry_kw kind_sorted plain_sorted entry_sorted (ksk_s1 _ _) ?_;unfold Builtin.«sorted»;refine aaa (m:=checkCount "sorted" 1 1 _) (aab (aaa (collect_list pl.isList (aaa (aa4 ?_ hz')) hz')));generalize hvs:(rows.map λ r=>Value.ref r.1)=vs at *;have hlen:vs.length=rows.length:=by rw[← hvs,abw]
 have z1:((s.heap.push (seqObj "list" #[] 0)).update s.heap.objs.size (Obj.mapSeq (·++vs.toArray))).objs.size=s.heap.objs.size+1:=(Heap.size_update ..).trans (size_push' ..);have top:(((s.heap.push (seqObj "list" #[] 0)).update s.heap.objs.size (Obj.mapSeq (·++vs.toArray))).push (seqObj "list" vs.toArray 0)).get? (s.heap.objs.size+1)=some (seqObj "list" vs.toArray 0):=z1 ▸ abD _ rfl
 have kp:∀ b o,s.heap.get? b=some o->(((s.heap.push (seqObj "list" #[] 0)).update s.heap.objs.size (Obj.mapSeq (·++vs.toArray))).push (seqObj "list" vs.toArray 0)).get? b=some o/\b≠s.heap.objs.size+1:=λ b o e=>by
  have lt:=aae e;refine⟨abv _ ?_,aal (aaw lt)⟩;rw[abV _ _ _ _ (aal lt)];exact abv _ e
 have zG:((((s.heap.push (seqObj "list" #[] 0)).update s.heap.objs.size (Obj.mapSeq (·++vs.toArray))).push (seqObj "list" vs.toArray 0))).objs.size=s.heap.objs.size+2:=(size_push' ..).trans (by rw[z1]);show wpAny _ _ _ _ _ { s with heap:=((s.heap.push (seqObj "list" #[] 0)).update s.heap.objs.size (Obj.mapSeq (·++vs.toArray))).push (seqObj "list" vs.toArray 0) };rw[z1];refine aaa (aaq (wpAny_call_entry_kw slot_list_sort ⟨_,top,rfl⟩ entry_list_sort ?_ (ksk_l1 _ _)));generalize ((s.heap.push (seqObj "list" #[] 0)).update s.heap.objs.size (Obj.mapSeq (·++vs.toArray))).push (seqObj "list" vs.toArray 0)=G at top kp zG;have nA:=I.newOk (b:=s.heap.objs.size+1) (by nofun);generalize ha:s.heap.objs.size+1=a at top kp nA;rw[ksk_t1];unfold ksk_tree;refine aaa (listItems_at (s:={ s with heap:=G }) top rfl (aaa (listUpdate_at (s:={ s with heap:=G }) top rfl ?_ (by exists hz'))));obtain⟨e1,o1⟩:∃ e1,(G.update a (Obj.mapSeq λ _=>#[])).get? a=some (seqObj "list" #[] e1):=⟨_,get?_update_seq top (λ _=>#[])⟩;refine aaa (seqEpoch_at (s:={ s with heap:=G.update a (Obj.mapSeq λ _=>#[]) }) o1 rfl (aaa (wpAny_newTuple (aaa (aa4 (aaq ?_))) (by exists hz'))));have zU:(G.update a (Obj.mapSeq λ _=>#[])).objs.size=s.heap.objs.size+2:=(Heap.size_update ..).trans zG;have zT:((G.update a (Obj.mapSeq λ _=>#[])).push (seqObj "tuple" vs.toArray 0)).objs.size=s.heap.objs.size+3:=(size_push' ..).trans (by rw[zU]);have o6:(((G.update a (Obj.mapSeq λ _=>#[])).push (seqObj "tuple" vs.toArray 0)).push (seqObj "list" #[] 0)).get? a=some (seqObj "list" #[] e1):=abv _ (abv _ o1);have o7:(((G.update a (Obj.mapSeq λ _=>#[])).push (seqObj "tuple" vs.toArray 0)).push (seqObj "list" #[] 0)).get? (s.heap.objs.size+3)=some (seqObj "list" #[] 0):=zT ▸ abD _ rfl
 have kp6:∀ b o,s.heap.get? b=some o->(((G.update a (Obj.mapSeq λ _=>#[])).push (seqObj "tuple" vs.toArray 0)).push (seqObj "list" #[] 0)).get? b=some o:=λ b o e=>by
  obtain⟨e2,ne⟩:=kp b o e;refine abv _ (abv _ ?_);rw[abV _ _ _ _ ne];exact e2
 show wpAny (model X.prog X.w) _ _ _ E { s with heap:=((G.update a (Obj.mapSeq λ _=>#[])).push (seqObj "tuple" vs.toArray 0)).push (seqObj "list" #[] 0) };rw[show ((G.update a (Obj.mapSeq λ _=>#[])).push (seqObj "tuple" vs.toArray 0)).objs.size=s.heap.objs.size+3 from zT];have nK:=I.newOk (b:=s.heap.objs.size+3) (by nofun);have hak:a≠s.heap.objs.size+3:=by nofun
 generalize hkS:s.heap.objs.size+3=kS at o7 nK hak;have hfs:=hf;have I6:Inv X pins σ H { s with heap:=((G.update a (Obj.mapSeq λ _=>#[])).push (seqObj "tuple" vs.toArray 0)).push (seqObj "list" #[] 0) }:=I.kept (t':=s.toks) kp6;obtain⟨p,p1,p2,p3,pm,ctv,hf⟩:=hf;have hf6:=kp6 _ _ hf;generalize ((G.update a (Obj.mapSeq λ _=>#[])).push (seqObj "tuple" vs.toArray 0)).push (seqObj "list" #[] 0)=G6 at o6 o7 I6 hf6;unfold ksk_rest;refine aaa (wpAny_rule ?_);rw[← Array.forIn_toList]
 refine aaa (ksk_fold (λ i s'=>Inv X pins σ H s'/\s'.heap.get? a=some (seqObj "list" #[] e1)/\(∃ (ks:Array Value) (n:Nat),s'.heap.get? kS=some (seqObj "list" ks n)/\IntsAre ks.toList ((rows.take i).map (·.2.1)))/\s'.heap.get? f=some (kla_obj "<lambda>" dW (bn p) (a7 p1 p2 p3) aA [] pm c ctv))
  vs 0 _ ⟨I6,o6,⟨#[],0,o7,.nil⟩,hf6⟩ (λ j x s' hx hI=>?_) λ s' hI=>?_)
 ·rw[ab9] at hI ⊢;obtain⟨J,ja,⟨ks,n,jk,jks⟩,jf⟩:=hI;rw[← hvs,abK] at hx;obtain⟨r,er,rfl⟩:=abM.mp hx;refine aaa (abg ?_);refine sI (T:=T) J ((hr.in1.in1).mono (aad _)) J.ok.frames ⟨p,p1,p2,p3,pm,ctv,jf⟩ hc (ht r (abT er)) λ tk s2 J2 k2=>?_;have ka:=k2 _ _ ja nA.h nA.f;have kk:=k2 _ _ jk nK.h nK.f;have kf:=k2 _ _ jf hHf hff;refine aaa (listUpdate_at kk rfl ?_ ?_ ?_)
  ·refine aab ⟨rfl,J2.stir (ch:=[kS]) (t':=s2.toks) (λ b hb=>by rw[abF.mp hb];exact nK) (λ b u hb e=>?_),?_,⟨ks.push (.int r.2.1 tk),_,get?_update_seq kk _,?_⟩,?_⟩
   ·rw[abV _ _ _ _ (λ z=>hb (by rw[z];exact abF.mpr rfl))];exact e
   ·rw[abV _ _ _ _ hak];exact ka
   ·rw[aaV];have e9:rows.take (j+1)=rows.take j++[r]:=by rw[aaN,er];rfl
    rw[e9,aam];exact ksk_snoc jks
   ·rw[abV _ _ _ _ (λ z=>by
     rw[z,kk] at kf;have:=congrArg (Option.map Obj.data) kf;cases this)];exact kf
  ·have:=jks.length;rw[abw,aap] at this;rw[← abz,this];nofun
  ·have:=jks.length;rw[abw,aap] at this;rw[Array.size_push,← abz,this];nofun
 ·rw[ab9,hlen,aaL] at hI;obtain⟨J,ja,⟨ks,n,jk,jks⟩,jf⟩:=hI;refine aaa (listItems_at jk rfl ?_);have hks:ks.size=rows.length:=by have:=jks.length;rw[abw] at this;rw[← abz];exact this
  have hpz:(ks.zip vs.toArray).toList=ks.toList.zip (rows.map λ r=>Value.ref r.1):=by rw[ksk_zip,hvs]
  -- the end
  have fin:∀ st:SortSt,(arrOf st).toList.Perm (ks.zip vs.toArray).toList->failedOf st=none->((arrOf st).toList.Pairwise λ p q=>kI p.1<kI q.1) ->
    wpAny (model X.prog X.w) X.A.in1.in1 (ksk_tail a false e1 (.ref kS) st) (λ fin s'=>∃ v,fin=Fin.done (Flow.ret v)/\wpAny (model X.prog X.w) X.A.in1 (ret (.ref a)) (λ fin s'=>∃ v,fin=Fin.done (Flow.ret v)/\EP X pins σ Q v s') E s') E s':=λ st hp hfl hs=>by
   rw[hpz] at hp;obtain⟨rows',pr,eo,up⟩:=lT jks hp hs;have hlr:=pr.length_eq;unfold ksk_tail;refine aaa (listUpdate_at jk rfl (aaa (wpAny_letGo ?_)) ?_)
   ·have ja2:(s'.heap.update kS (Obj.mapSeq λ _=>#[])).get? a=some (seqObj "list" #[] e1):=by rw[abV _ _ _ _ hak];exact ja
    refine aaa (seqEpoch_at (s:={ s' with heap:=s'.heap.update kS (Obj.mapSeq λ _=>#[]) }) ja2 rfl (aaa (listUpdate_at (s:={ s' with heap:=s'.heap.update kS (Obj.mapSeq λ _=>#[]) }) ja2 rfl ?_ (hsz2:=?_))))
    ·rw[hfl];simp only[bne_self_eq_false,Bool.false_eq_true,if_false];refine aab ⟨_,rfl,aab ⟨_,rfl,?_⟩⟩;have hI:=J.lay (h':=(s'.heap.update kS (Obj.mapSeq λ _=>#[])).update a (Obj.mapSeq λ _=>(arrOf st).map (·.2))) (t':=s'.toks) (ch:=[a,kS]) (a:=a) (o:=.lst (rows'.map λ r=>.ref r.1)) (λ b hb=>?_) (aac ..) (λ b u hb e=>?_) ?_
     ·exact⟨.ref a,_,hI,rfl,q a rows' nA.h pr up⟩
     ·rcases abG.mp hb with z|z
      ·rw[z];exact nA
      ·rw[abF.mp z];exact nK
     ·rw[abV _ _ _ _ (λ z=>hb (by rw[z];exact aac ..)),abV _ _ _ _ (λ z=>hb (by rw[z];exact aag _ (abF.mpr rfl)))];exact e
     ·have hu:=get?_update_seq ja2 (λ _=>(arrOf st).map (·.2));refine⟨by rw[abw,hlr];exact hz,((arrOf st).map (·.2)).toList,_,?_,hu⟩;rw[abn,eo];exact sK rows'
    ·show ((arrOf st).map (·.2)).size<=_;rw[← abz,abn,eo,abw,hlr];nofun
   ·rw[hks];exact hz
  unfold ksk_end;simp only[Bool.false_eq_true,if_false];by_cases few:vs.toArray.size<2
  ·simp only[few,if_true];refine aaa (aab (aaa ?_));refine aab ?_;refine fin _ (.refl _) rfl ?_;show (ks.zip vs.toArray).toList.Pairwise _;rw[hpz];have:rows.length<2:=by rw[← hlen];simpa using few
   cases hrw:rows with
   |nil=>simp
   | cons r rest=>
    cases rest with
    | nil=>cases hks':ks.toList with
     |nil=>simp
     |cons k k'=>simp
    |cons _ _=>rw[hrw,abL,abL] at this;nofun
  ·simp only[few,if_false];have h2:2<=rows.length:=by rw[← hlen];simpa using few
   rw[ksk_kind jks (by rw[hks];exact h2)];refine aaa (aab (aaa ?_));refine pG (k:=kI) (ps:=ks.zip vs.toArray) (oq λ p hp=>?_) ?_ ?_ λ st' p1 p2 p3=>fin st' p1 p2 p3
   ·rw[ksk_zip] at hp;obtain⟨h1,_⟩:=List.of_mem_zip hp;obtain⟨i,hi,ei⟩:=List.mem_iff_getElem.mp h1
    have:(p.1,(rows.map (·.2.1))[i]'(by rw[← jks.length];exact hi))∈ks.toList.zip (rows.map (·.2.1)):=by
     rw[List.mem_iff_getElem];exact⟨i,by rw[List.length_zip,← jks.length];simpa using hi,by rw[List.getElem_zip,ei]⟩
    obtain⟨t,e⟩:=fE jks _ this;have e:p.1=.int _ t:=e;exact⟨t,by rw[e];rfl⟩
   ·have:(ks.zip vs.toArray).toList.map (kk kI)=rows.map (·.2.1):=by
     rw[hpz];have e1:(ks.toList.zip (rows.map λ r=>Value.ref r.1)).map (kk kI)=((ks.toList.zip (rows.map λ r=>Value.ref r.1)).map (·.1)).map kI:=by rw[aao];rfl
     rw[e1,List.map_fst_zip (by rw[abw,abz,hks];exact aad _)];exact i4 jks
    rw[this];exact hn
   ·rw[← abz,hpz,List.length_zip,abw,abz,hks];nofun
end
theorem gP{l:List Value}{a b:Int}{v:Value}(h:TriplesOk l):TriplesOk (l++[rawInt a,rawInt b,v]):=by
 induction l using TriplesOk.induct with
 |case1=>exact trivial
 |case2 i t j u x rest ih=>exact ih h
 | case3 t n1 n2=>
  exfalso;rw[TriplesOk.eq_def] at h;split at h
  ·exact n1 rfl
  ·exact n2 _ _ _ _ _ _ rfl
  ·exact h
theorem jO{pos:Pos}{l:List Value}{a b:Int}{v cv:Value}(h:TriplesOk l)(e:codeAmong pos (l++[rawInt a,rawInt b,v])=some cv):codeAmong pos l=some cv∨cv=v:=by
 induction l using TriplesOk.induct with
 | case1=>
  have e:(if (a==(pos.line:Int)&&b==(pos.col:Int))=true then some v else none)=some cv:=e;split at e
  ·cases e;exact .inr rfl
  ·cases e
 | case2 i t j u x rest ih=>
  have e:(if (i==(pos.line:Int)&&j==(pos.col:Int))=true then some x else codeAmong pos (rest++[rawInt a,rawInt b,v]))=some cv:=e;show (if (i==(pos.line:Int)&&j==(pos.col:Int))=true then some x else codeAmong pos rest)=some cv∨_;split at e
  ·rename_i hh;rw[if_pos hh];exact .inl e
  ·rename_i hh;rw[if_neg hh];exact ih h e
 | case3 t n1 n2=>
  exfalso;rw[TriplesOk.eq_def] at h;split at h
  ·exact n1 rfl
  ·exact n2 _ _ _ _ _ _ rfl
  ·exact h
section
variable {X:Cx} {pins:List (Addr×Obj)} {σ:St} {H:Hp} {s:Shared}
theorem ox{c T:Addr}{p p1 p2 p3 pos:Pos}{n:Nat}{Q E:Value->Shared->Prop}(I:Inv X pins σ H s)(hL:cP X.K T)(hcd:X.env.code=.ref c)(hHd:∀ h:Heap,X.K.In h->CodeHd h c T)(hB:∀ h:Heap,X.K.In h->h.BuiltinsAt X.mg T)
  (q:∀ (f c':Addr) (H':Hp) (s':Shared),Inv X pins σ H' s'->Same H H'->sH s'.heap f c'->H' f=none->f∉frs X.stack->IsCode H' c' T->Q (.ref f) s') :
  wpAny (model X.prog X.w) X.A (makeFunction "<lambda>" dW (bn p) (.expr (a7 p1 p2 p3)) aA X.env [] [] [] pos n) Q E s:=by
 have hT:H T=some (.tbl dW):=I.base.tbls T _ (I.ok.lam T hL);obtain⟨ps,e,tri,codes⟩:=I.hok T _ hT;have hns:s.heap.Ns mainGlobals X.mg:=I.mod.glob.keeps I.bk;have hclo:closureFor aA X.env=pure []:=rfl
 cases hc:codeAmong pos ps.toList with
 | some cv=>
  obtain⟨c',oc,vs,t,rfl,h1,h2,h3⟩:=codes pos cv hc;refine kla_makeFunctionHit hclo I.ok.glob hns hcd (hHd _ I.kIn) e tri hc (hB _ I.kIn) λ ctv h' tk k z=>?_;have kp:∀ b o,s.heap.get? b=some o->(h'.push { cls:=Value.type "function", data:=Data.func (kla_fn "<lambda>" dW (bn p) (a7 p1 p2 p3) aA [] ((X.mg "__name__").getD .none) (.ref c') ctv) }).get? b=some o:=λ b o e=>abv _ (k b o e);have nf:=I.newOk z;exact q h'.objs.size c' H _ (I.kept (t':=tk) kp) (Same.refl _) ⟨p,p1,p2,p3,_,ctv,abD _ rfl⟩ nf.h nf.f ⟨oc,vs,t,h1,h2,h3⟩
 | none=>
  have hg:mainGlobals≠T:=λ z=>by
   obtain⟨o,es,ep,e2,e3,_⟩:=hns;rw[z,e] at e2;cases e2;cases e3
  refine kla_makeFunction hclo I.ok.glob hns hcd (hHd _ I.kIn) e tri hc hg (hB _ I.kIn) λ c' ctv h' tk k z1 z2 hcr eT=>?_;have nc:=I.newOk z1;have zf:s.heap.objs.size<=h'.objs.size:=aat z1 (abk z2);have nf:=I.newOk zf;obtain⟨c2,oc,vs,t,e1,e2,e3,e4⟩:=hcr;cases e1;have hfc:h'.objs.size≠c':=acf z2;have hTc:T≠c':=λ z=>by rw[z,nc.h] at hT;cases hT
  generalize hG:h'.push (kla_obj "<lambda>" dW (bn p) (a7 p1 p2 p3) aA [] ((X.mg "__name__").getD .none) c' ctv)=G;have kG:∀ b o,b≠T->s.heap.get? b=some o->G.get? b=some o:=λ b o hb e=>by rw[← hG];exact abv _ (k b o hb e)
  have gT:G.get? T=some (tabObj (ps++#[rawInt pos.line,rawInt pos.col,.ref c'])):=by rw[← hG];exact abv _ eT
  have gc:G.get? c'=some oc:=by rw[← hG];exact abv _ e2
  have up:∀ b u,H b=some u->upd H c' (.frz oc (.own T)) b=some u:=λ b u e=>by rw[ah (ao e nc.h)];exact e
  refine q h'.objs.size c' (upd H c' (.frz oc (.own T))) _ ?_ (λ b u e=>up b u e) ⟨p,p1,p2,p3,_,ctv,by rw[← hG];exact abD _ rfl⟩ (by rw[ah hfc];exact nf.h) nf.f ⟨oc,vs,t,ag,e3,e4⟩
  refine I.call (g':=s.gens) (d':=s.drawn) (t':=tk) (ch:=[]) ⟨λ b ob q n _ _=>kG b ob (λ z=>by rw[z,hT] at n;cases n) q,λ b ob q n _ _=>⟨ob.slots,kG b ob (λ z=>by rw[z,hT] at n;cases n) q⟩,λ b ob q n _=>?_,λ b ob q _=>?_,
   λ b xs q=>up _ _ q,λ b ob u q=>up _ _ q,λ b ps q=>up _ _ q⟩ (λ b u eb=>?_) I.bare λ b z=>absurd z (by simp)
  ·rw[ah (λ z=>by rw[z] at q;exact absurd (aae q) (Nat.not_lt.mpr z1))];exact n
  ·by_cases hb:b=T
   ·exact⟨_,by rw[hb];exact gT⟩
   ·exact⟨ob,kG b ob hb q⟩
  ·by_cases hb:b=c'
   ·subst hb;rw[ag] at eb;cases eb;exact⟨gc,oc,gc⟩
   rw[ah hb] at eb;by_cases hbT:b=T
   ·subst hbT;rw[hT] at eb;cases eb;refine⟨_,gT,by rw[aai];exact gP tri,λ pos' cv z=>?_⟩;rw[aai] at z;rcases jO tri z with z|z
    ·obtain⟨c2,oc2,vs2,t2,f1,f2,f3⟩:=codes pos' cv z;exact⟨c2,oc2,vs2,t2,f1,up _ _ f2,f3⟩
    ·exact⟨c',oc,vs,t,z,ag,e3,e4⟩
   ·refine(I.hok b u eb).stay (λ c v hc q=>kG c v ?_ q) (λ c q=>up _ _ q) (λ c xs q=>up _ _ q) λ c ob y q=>up _ _ q;rcases hc with z|z
    ·rw[z];exact hbT
    ·exact λ y=>by rw[y,hT] at z;cases z
def lV(K:Frag)(te:TE):TE:=λ σ H Q=>te σ H λ x H1=>∃ (l:Addr) (rows:List Rw3),x=.ref l/\SqL K H1 l (rows.map λ r=>.ref r.1)/\(∀ r∈rows,SqT K H1 r.1 (.int r.2.1::r.2.2))/\(rows.map (·.2.1)).Nodup /\
 ∀ (D:Addr) (rows':List Rw3) (H2:Hp),Same H1 H2->H2 D=none->rows'.Perm rows->(rows'.map (·.2.1)).Pairwise (·<·)->Q (.ref D) (upd H2 D (.lst (rows'.map λ r=>.ref r.1)))
theorem lW{c T:Addr}{np p p1 p2 p3 pos lpos kpos:Pos}{e:Expr}{te:TE}(hr:Room 3 X.A)(hL:cP X.K T)(hcd:X.env.code=.ref c)(hHd:∀ h:Heap,X.K.In h->CodeHd h c T)(hB:∀ h:Heap,X.K.In h->h.BuiltinsAt X.mg T)(hq:X.env.qual ++ "<lambda>" = dW)
  (hg:Gl X "sorted") (hm:X.mg "sorted" = none) (he:PE X e te) (hs:starEach [e] X.env=[(false,eval e X.env)]) :
  PE X (.Call (.Name "sorted" np) [e] [⟨some "key", .Lambda (bn p) (a7 p1 p2 p3) aA lpos,kpos⟩] pos) (lV X.K te):=by
 intro pins s σ H Q I h;refine wpAny_Call_Name_kw (fO I hg hm (u:=.builtin "sorted") rfl ?_);have ek:keywordEach [⟨some "key", .Lambda (bn p) (a7 p1 p2 p3) aA lpos,kpos⟩] X.env=[((some "key" : Option Str),eval (.Lambda (bn p) (a7 p1 p2 p3) aA lpos) X.env)]:=by rw[arm_keywordEach_cons,arm_keywordEach_nil]
 refine callWith_kw ?_ (by rw[hs];rfl) (by rw[hs];rfl) (by rw[ek];rfl) (by rw[ek];rfl);rw[ek];have h0:starEach ([]:List Expr) X.env=[]:=rfl;have pa:PA X [e] (bp te fP):=kc he o0 (by rw[hs,h0])
 let R:List V->Hp->Prop:=λ vs H1=>match vs with
  | [x]=>∃ (l:Addr) (rows:List Rw3),x=.ref l/\SqL X.K H1 l (rows.map fun r=>.ref r.1)/\(∀ r∈rows,SqT X.K H1 r.1 (.int r.2.1::r.2.2))/\(rows.map (·.2.1)).Nodup /\
    ∀ (D:Addr) (rows':List Rw3) (H2:Hp),Same H1 H2->H2 D=none->rows'.Perm rows->(rows'.map (·.2.1)).Pairwise (·<·)->Q (.ref D) (upd H2 D (.lst (rows'.map λ r=>.ref r.1)))
  |_=>False
 refine thn (pa pos pins s σ H R I h) λ us s1 ⟨vs,H1,I1,r1,q1⟩=>?_
 match vs,r1,q1 with
 | [x],r1,q1=>
  obtain⟨u,rfl,rx⟩:=cX r1;obtain⟨l,rows,rfl,q1,q2,q3,q4⟩:=q1;obtain rfl:u=.ref l:=rx;refine wpAny_evalAll_cons (aaa ?_);refine kla_eval rfl ?_;rw[hq];refine ox I1 hL hcd hHd hB λ f c' H2 s2 I2 sm il hf1 hf2 ic=>?_;refine aaa (wpAny_standAt (aab (wpAny_evalAll_nil ?_)));refine lU I2 hr (sm.seq q1) (λ r hr=>(q2 r hr).same sm) q3 il hf1 hf2 ic λ D rows' hD pr up=>q4 D rows' H2 sm hD pr up
end
end L2
namespace L2
open PySem PySem.Spec PyProof.Rows PySem.W
def oy:FV->Int
 |.tl (.int n::_) _ _=>n
 |_=>0
def xD:FV->Bool
 |.tl (.int _::_) _ _=>true
 |_=>false
def fvA:FV->List Addr
 |.fz _=>[]
 |.fl a _=>[a]
 |.fd a _ _=>[a]
 |.ft a _ _=>[a]
 |.tl _ a _=>[a]
section
variable {K:Frag} {μ:List Nat} {F F' Z H H':Hp} {σ:St} {ρ:FSt} {A:List Addr}
theorem Fw.adrs{v:V}{p:FV}{B:List Addr}(h:Fw K F H v p B):B=fvA p:=by cases h <;> rfl
theorem Fws.adrs{vs:List V}{ps:List FV}{B:List Addr}(h:Fws K F H vs ps B):B=ps.flatMap fvA:=by
 induction h with
 |nil=>rfl
 |cons h t ih=>rw[h.adrs,ih,List.flatMap_cons]
theorem Fws.of_all{α:Type}{f:α->V}{g:α->FV}:∀ {zs:List α},(∀ z∈zs,Fw K F H (f z) (g z) (fvA (g z)))->Fws K F H (zs.map f) (zs.map g) ((zs.map g).flatMap fvA)
 |[],_=>.nil
 | z::zs,h=>by
  rw[abC,abC,List.flatMap_cons];exact .cons (h z (aac ..)) (Fws.of_all λ y hy=>h y (aag _ hy))
theorem Fws.rows3(sf:Same F H){vs:List V}{ps:List FV}{B:List Addr}(h:Fws K F H vs ps B):ps.all xD=true->∃ zs:List (Rw3×FV),vs=zs.map (λ z=>V.ref z.1.1)/\ps=zs.map (·.2)/\∀ z∈zs,oy z.2=z.1.2.1/\SqT K H z.1.1 (.int z.1.2.1::z.1.2.2)/\Fw K F H (.ref z.1.1) z.2 (fvA z.2):=by
 induction h with
 |nil=>exact λ _=>⟨[],rfl,rfl,λ _ z=>nomatch z⟩
 | @cons x o xs os A B h t ih=>
  intro e;rw[aaP,abR] at e;obtain⟨zs,e1,e2,e3⟩:=ih e.2;have ha:=h.adrs
  cases h with
  | @tl t a xs ys ds es f d hh tt=>
   cases ds with
   |nil=>exact nomatch e.1
   | cons d0 ds=>
    cases d0 with
    | int n=>
     cases d with
     | @cons _ _ xs2 _ d1 d2=>
      cases d1;refine⟨((t,n,xs2++[.ref a]),.tl (.int n::ds) a es)::zs,by rw[abC,← e1],by rw[abC,← e2],λ z hz=>?_⟩;rcases abG.mp hz with rfl|hz
      ·exact⟨rfl,SqT.of (sf _ _ f),.tl f (.cons (.int n) d2) hh tt⟩
      ·exact e3 z hz
    |_=>exact nomatch e.1
  |_=>exact nomatch e.1
def lX(i:Nat):FE:=λ ρ Q=>match ρ[i]? with
 |some (some (.ol ps))=>ps.all xD=true/\(ps.map oy).Nodup/\∀ ps':List FV,ps'.Perm ps->(ps'.map oy).Pairwise (·<·)->Q (.ov (.ol ps')) (ρ.set i (some .any))
 |_=>False
theorem lY{i j:Nat}(hj:μ[j]?=some i):EF K μ (lV K (cV j)) (lX i):=⟨by
 intro F Z H τ σ ρ A Q P vw R h q;unfold lX at h;split at h
 ·rename_i ps e;obtain⟨hk,hn,h⟩:=h;obtain⟨v,B,A',h1,h2,R',f',pm⟩:=R.takeI e;obtain⟨v1,v2,v3⟩:=vw j i hj
  cases h2 with
  | @ol a xs _ A1 hH w=>
   refine⟨.ref a,by rw[v1];exact h1,?_⟩;obtain⟨zs,rfl,rfl,hz⟩:=w.rows3 R.fh hk;have eA:=w.adrs;refine⟨a,zs.map (·.1),rfl,?_,λ r hr=>?_,?_,λ D rows' H2 s2 hD pr up=>?_⟩
   ·rw[aao];exact SqL.of hH
   ·obtain⟨z,hz',rfl⟩:=ab3.mp hr;exact(hz z hz').2.1
   ·rw[aao] at hn ⊢;rw[show zs.map ((λ x=>x.2.1) ∘ λ x=>x.1)=zs.map (oy ∘ λ x=>x.2) from aaE λ z hz'=>(hz z hz').1.symm];exact hn
   ·obtain⟨zs',pz,rfl⟩:=bS pr rfl;have hz2:∀ z∈zs',oy z.2=z.1.2.1/\Fw K F H (.ref z.1.1) z.2 (fvA z.2):=λ z h=>⟨(hz z (pz.mem_iff.mp h)).1,(hz z (pz.mem_iff.mp h)).2.2⟩;have hDH:H D=none:=s2.free hD;have s3:Same H (upd H2 D (.lst ((zs'.map (·.1)).map λ r=>.ref r.1))):=s2.trans (aM hD);have R2:=R'.step (F':=F) (H':=upd H2 D (.lst ((zs'.map (·.1)).map λ r=>.ref r.1))) ⟨Same.refl _,s3,R'.fh.trans s3,λ a o h n=>by rw[n] at h;cases h⟩;obtain⟨A3,R3,p3⟩:=R2.putI (o:=.any) (ci e) h1 .any Fresh.nil;rw[abe] at R3;have pA:((zs'.map (·.2)).flatMap fvA).Perm A1:=by rw[eA];exact(pz.map _).flatMap_right _
    have live:∀ b∈A1,∃ u,H b=some u:=w.live;have nd1:A1.Nodup:=(abS.mp f'.nd).2;refine q (.ov (.ol (zs'.map (·.2)))) _ (.ref D) F _ A3 (D::(zs'.map (·.2)).flatMap fvA) (h _ (pz.map _) ?_) (Same.refl _) R3 ?_ ⟨?_,λ b hb=>?_⟩
    ·rw[aao] at up ⊢;rw[show zs'.map (oy ∘ λ x=>x.2)=zs'.map ((λ x=>x.2.1) ∘ λ x=>x.1) from aaE λ z hz'=>(hz2 z hz').1];exact up
    ·refine .ol (xs:=(zs'.map (·.1)).map λ r=>.ref r.1) ag ?_;rw[aao]
     exact(Fws.of_all (f:=λ z:Rw3×FV=>V.ref z.1.1) (g:=(·.2)) λ z hz'=>(hz2 z hz').2).keep (Same.refl _) λ a u _ h=>by
      rw[aao] at s3;exact s3 a u h
    ·refine abS.mpr ⟨λ hb=>?_,pA.nodup_iff.mpr nd1⟩;obtain⟨u,hu⟩:=live D (pA.mem_iff.mp hb);rw[hDH] at hu;cases hu
    ·have hA3:A3.Perm A':=(by exists p3);rcases abG.mp hb with rfl|hb
     ·exact⟨R.fh.free hDH,R.zh.free hDH,λ z=>by
       obtain⟨u,hu⟩:=R'.sl.live _ (hA3.mem_iff.mp z);rw[hDH] at hu;cases hu⟩
     ·obtain⟨g1,g2,g3⟩:=f'.fr b (aag _ (pA.mem_iff.mp hb));exact⟨g1,g2,λ z=>g3 (hA3.mem_iff.mp z)⟩
 ·exact h.elim⟩
end
section
variable {P:Program} {w:World} {K:Frag} {mg:Str->Option Value} {base:Heap} {x qual:Str} {st:Stmt} {f:Addr} {fd:FuncData} {N ps:List Str} {k:Nat}
theorem Fun.okC{sp:Sp}(F:Fun K x qual st f fd)(S:FnScope N ps (ae st))(len:∀ vs H Q E,sp vs H Q E->vs.length=ps.length)
  (hbody:∀ (cdv:Value) (A:Around) (outer:List Env) (s:Shared) (H:Hp) (vs:List V) (Q:VK) (E:XK),fd.code=cdv->Room k (A.deeper (envOfC qual (ae st) s.heap.objs.size f cdv))->sp vs H Q E ->
   ∃ t,BSs (fU CX0 P w K mg base N qual (ae st) f cdv A outer s H E).nox (aK st) t/\t { nx:=λ _ H'=>Q .non H',rt:=Q } (bg N vs) H):FnOk P w K mg base CX0 (k+1) f fd ps sp:=by
 obtain⟨oc,od,kV,doc,pm,an,cdv,ct,osl,rfl,lk,hcd⟩:=F.ex;refine uD lk hcd S len λ A outer s H vs Q E hr hsp=>?_;obtain⟨t,h,q⟩:=hbody cdv A outer s H vs Q E rfl hr hsp;exact⟨t,h.h.nox,q⟩
inductive a8:Ct
 |mk {ps:List FV} {P:Pk}:ps.all xD=true->(ps.map oy).Nodup->(∀ ps':List FV,ps'.Perm ps->(ps'.map oy).Pairwise (·<·)->P (.ol ps') [.any])->a8 [.ol ps] P
theorem oz{c T:Addr}{np vp p p1 p2 p3 pos lpos kpos rpos:Pos}(Fn:Fun K "by_number" "by_number" st f fd)(S:FnScope ["rows"] ["rows"] (ae st))(hb:aK st=[.Return (some (.Call (.Name "sorted" np) [.Name "rows" vp] [⟨some "key", .Lambda (bn p) (a7 p1 p2 p3) aA lpos,kpos⟩] pos)) rpos])
  (hs:(ae st).names.lookup ("rows" : Str)=some .local) (hs2:(ae st).names.lookup ("sorted" : Str)=some .globalImplicit) (hcd:fd.code=.ref c) (hL:cP K T) (hHd:∀ h:Heap,K.In h->CodeHd h c T) (hB:∀ h:Heap,K.In h->h.BuiltinsAt mg T) (hm:mg "sorted" = none):FnOk P w K mg base CX0 4 f fd ["rows"] (spM K a8):=by
 refine Fun.okC (k:=3) Fn S (λ vs H Q E h=>?_) (λ cdv A outer s H vs Q E hc hr h=>?_)
 ·obtain⟨F1,Z,os,C,Pq,_,_,_,ho,_,_,hcc,_⟩:=h;rw[ho.length];cases hcc;rfl
 ·obtain⟨F1,Z,os,C,Pq,sf,sz,dj,ho,nd,fr,hcc,q⟩:=h
  cases hcc with
  | @mk ps _ hk hn hq=>
  rw[hb];refine⟨_,kW (pi ⟨lW (X:=(fU CX0 P w K mg base ["rows"] "by_number" (ae st) f cdv A outer s H E).nox) (c:=c) hr hL (hc.symm.trans hcd) hHd hB rfl hs2 hm (oY (i:=0) (x := "rows") rfl (.inl hs)) rfl⟩),?_⟩
  have R:Rel K F1 Z H (bg ["rows"] vs) (aL 1 [.ol ps]) C:=by
   refine⟨?_,nd,fr,sf,sz,dj⟩;have hvl:=ho.length;unfold bg aL;rw[hvl];exact Slots.of_ows _ ho
  have vl:vs.length=1:=ho.length;have hn1:(bg ["rows"] vs).length=1:=by unfold bg;simp[vl]
  refine(lY (K:=K) (μ:=List.range 1) (i:=0) (j:=0) rfl).h (View.id hn1) R (P:=λ r ρ'=>∃ ps',r=.ov (.ol ps')/\ρ'=[some .any]/\Pq (.ol ps') [.any]) ?_ λ r ρ' v F' H' A' B p s' R' w' f'=>?_
  ·exact⟨hk,hn,λ ps' p1 p2=>⟨ps',rfl,rfl,hq ps' p1 p2⟩⟩
  ·obtain⟨ps',rfl,rfl,pq⟩:=p
   have hA':A'=[]:=by
    have:=R'.sl;generalize hσ:bg ["rows"] vs=τ at this
    cases this with
    |has h t=>cases h;cases t;rfl
   subst hA'
   have hv0:∃ v0,vs=[v0]:=by
    match vs,vl with
    |[v0],_=>exact⟨v0,rfl⟩
   obtain⟨v0,rfl⟩:=hv0;refine q _ _ v F' H' [] B pq s' R'.fh R'.zh.s R'.dj (.cons .any .nil) w' (by simpa using f'.nd) λ a ha=>?_;have ha:a∈B:=(by exists ha);exact⟨(f'.fr a ha).1,(f'.fr a ha).2.1⟩
end
end L2
namespace L2
open PySem PySem.Spec PyProof.Rows
structure ClsF(K:Frag)(c:Nat)(C:Addr):Prop where
 ns:PySem.W.nsIn K mainGlobals (vF c)=some (some (.ref C))
 cl:Cls K C
 na:∀ f∈rG c,uz K C f
def yN(a:Addr):OV->Option FV
 |.fz d=>some (.fz d)
 |.fl ds=>some (.fl a ds)
 |.fd ks ds=>some (.fd a ks ds)
 |.ft ks ds=>some (.ft a ks ds)
 |_=>none
def lZ(as:Nat->Addr):Nat->List OV->Option (List FV)
 |_,[]=>some []
 | i,o::os=>match yN (as i) o with
  | some p=>match lZ as (i+1) os with
   |some ps=>some (p::ps)
   |none=>none
  |none=>none
section
variable {K:Frag} {μ:List Nat} {F F' Z H H':Hp} {σ:St} {ρ:FSt} {A:List Addr}
def adr:V->Addr
 |.ref a=>a
 |_=>0
theorem Ow.part{v:V}{o:OV}{g:FV}{B:List Addr}(h:Ow K F H v o B)(e:yN (adr v) o=some g):Fw K F H v g B:=by
 cases h with
 |fz h=>cases e;exact .fz h
 |fl h t=>cases e;exact .fl h t
 |fd h q t=>cases e;exact .fd h q t
 |ft h q t=>cases e;exact .ft h q t
 |_=>cases e
theorem Ows.parts{as:Nat->Addr}{vs:List V}{os:List OV}{B:List Addr}(h:Ows K F H vs os B):∀ {ps:List FV} {i:Nat},(∀ j v,vs[j]?=some v->as (i+j)=adr v)->lZ as i os=some ps->Fws K F H vs ps B:=by
 induction h with
 |nil=>intro ps i _ e;cases e;exact .nil
 | @cons v o _ os _ _ h t ih=>
  intro ps i ha e;unfold lZ at e;have h0:as i=adr v:=ha 0 v rfl
  cases e1:yN (as i) o with
  |none=>rw [e1] at e;cases e
  | some p=>
   cases e2:lZ as (i+1) os with
   |none=>rw[e1,e2] at e;cases e
   | some ps'=>
    rw[e1,e2] at e;cases e;exact .cons (h.part (h0 ▸ e1)) (ih (λ j w hj=>by rw[show i+1+j=i+(j+1) by nofun];exact ha (j+1) w hj) e2)
theorem Fws.length{xs:List V}{ps:List FV}{B:List Addr}(h:Fws K F H xs ps B):xs.length=ps.length:=by
 induction h with
 |nil=>rfl
 |cons _ _ ih=>exact congrArg (·+1) ih
theorem Fws.at_{xs:List V}{ps:List FV}{B:List Addr}(h:Fws K F H xs ps B):∀ {k:Nat} {g:FV},ps[k]?=some g->∃ x C B',xs[k]?=some x/\Fw K F H x g C/\B.Perm (C++B') /\
  ∀ F' H' y g' C',Same F F'->(∀ a u,a∈B'->H a=some u->H' a=some u)->Fw K F' H' y g' C'->∃ B'',Fws K F' H' (xs.set k y) (ps.set k g') B''/\B''.Perm (C'++B'):=by
 induction h with
 |nil=>intro k g e;cases e
 | @cons x o xs os A1 B1 h t ih=>
  intro k g e
  cases k with
  | zero=>
   cases e;exact⟨x,A1,B1,rfl,h,aaH _,λ F' H' y g' C' s k w=>⟨_,.cons w (t.keep s k),aaH _⟩⟩
  | succ k=>
   obtain⟨y,C,B',h1,h2,h3,h4⟩:=ih (k:=k) e
   have sw:∀ (C:List Addr),(A1++(C++B')).Perm (C++(A1++B')):=λ C=>by
    rw[← aaf,← aaf];exact aaA _ aaG
   refine⟨y,C,A1++B',h1,h2,(aav A1 h3).trans (sw C),λ F' H' y' g' C' s k w=>?_⟩;obtain⟨B'',w1,w2⟩:=h4 F' H' y' g' C' s (λ a u ha=>k a u (aak _ ha)) w;exact⟨_,.cons (h.keep s λ a u ha=>k a u (aax _ ha)) w1,(aav A1 w2).trans (sw C')⟩
theorem Rel.away{B:List Addr}(R:Rel K F Z H σ ρ A)(k:∀ a u,a∉B->H a=some u->H' a=some u)(f:∀ b∈B,F b=none/\Z b=none/\b∉A):Rel K F Z H' σ ρ A:=
 ⟨R.sl.keep (Same.refl _) λ a u ha h=>k a u (λ z=>(f a z).2.2 ha) h,R.nd,R.fr,λ a u h=>k a u (λ z=>by rw[(f a z).1] at h;cases h) (R.fh a u h),⟨λ a u h=>k a u (λ z=>by rw[(f a z).2.1] at h;cases h) (R.zh.s a u h),R.zh.n⟩,R.dj⟩
theorem Rel.chg{i:Nat}{o:OV}(R:Rel K F Z H σ ρ A)(e:ρ[i]?=some (some o)):∃ v B,σ[i]?=some (some v)/\Ow K F H v o B/\B.Nodup/\(∀ b∈B,b∈A) /\
  ∀ H' o' B',(∀ a u,a∉B->H a=some u->H' a=some u)->Ow K F H' v o' B'->B'.Nodup->(∀ b∈B',b∈B∨(F b=none/\Z b=none/\b∉A))->∃ A',Rel K F Z H' σ (ρ.set i (some o')) A':=by
 obtain⟨v,B,A',h1,h2,R',f',pm⟩:=R.takeI e;refine⟨v,B,h1,h2,f'.nd,λ b hb=>pm.mem_iff.mpr (abx.mpr (.inl hb)),λ H' o' B' k w nd m=>?_⟩;obtain⟨A3,R3,_⟩:=(R'.away k f'.fr).putI (ci e) h1 w ⟨nd,λ b hb=>(m b hb).elim (f'.fr b) λ z=>⟨z.1,z.2.1,λ y=>z.2.2 (pm.mem_iff.mpr (abx.mpr (.inr y)))⟩⟩;rw[abe] at R3;exact⟨A3,R3⟩
variable {n:Nat} {m:List Nat}
end
section
variable {K:Frag} {μ:List Nat} {F F' Z H H':Hp} {σ:St} {ρ:FSt} {A:List Addr}
theorem i5{α:Type}{l:List α}{k:Nat}{x:α}(h:l[k]?=some x):l.set k x=l:=by
 apply ab2;intro j;by_cases hj:k=j
 ·subst hj;rw[h,abU (abE.mp h).1]
 ·rw[abQ hj]
end
section
variable {K:Frag} {μ:List Nat} {F F' Z H H':Hp} {σ:St} {ρ:FSt} {A:List Addr}
end
section
variable {K:Frag} {μ:List Nat} {F F' Z H H':Hp} {σ:St} {ρ:FSt} {A:List Addr}
def bk(i ix:Nat)(ρ:FSt)(k:FSt->Prop):Prop:=match ρ[i]? with
 | some (some (.obh os b))=>(match ρ[ix]? with
  |some (some (.ob o))=>o.a=b/\k ((ρ.set ix none).set i (some (.obs (o::os))))
  |_=>False)
 |_=>k ρ
variable {n:Nat} {m:List Nat}
end
section
variable {K:Frag} {μ:List Nat} {F F' Z H H':Hp} {σ:St} {ρ:FSt} {A:List Addr}
def wN(fa:FA):FE:=λ ρ Q=>fa ρ λ rs ρ1=>match takeL rs ρ1 with
 | some (os,ρ2)=>∀ as:Nat->Addr,(match lZ as 0 os with
  |some ps=>ps.length<=sizeLine/\Q (.ov (.ot ps)) ρ2
  |none=>False)
 |none=>False
theorem sL{t:TA}{fa:FA}(ha:AF K μ t fa):EF K μ (xn t) (wN fa):=⟨by
 intro F Z H τ σ ρ A Q P vw R h q;refine ha.h vw R h λ rs ρ1 vs F1 H1 A1 B1 h1 s1 R1 v1 f1=>?_;split at h1
 ·rename_i os ρ2 e;obtain⟨C,A2,R2,o2,f2,m2,c2⟩:=R1.takeL v1 f1 e;have h2:=h1 λ j=>adr (vs.getD j .non);split at h2
  ·rename_i ps ep;have w:=o2.parts (i:=0) (λ j v hj=>by rw[ab9,ab6,hj];rfl) ep;refine⟨by rw[w.length];exact h2.1,λ p hp=>?_⟩;have R3:=R2.step (Pure.frz (o:=.tup vs) R2.fh hp);have np:p∉C:=λ z=>by obtain⟨u,hu⟩:=o2.live p z;rw[hp] at hu;cases hu
   have hf:F1 p=none:=R2.fh.free hp;refine q _ _ _ _ _ _ _ h2.2 (s1.trans (aM hf)) R3 (.ot ag (w.keep (aM hf) λ a u _ h=>aM hp a u h)) ⟨f2.nd,λ b hb=>⟨?_,(f2.fr b hb).2⟩⟩;rw[ah (show b≠p from λ z=>np (z ▸ hb))];exact(f2.fr b hb).1
  ·exact h2.elim
 ·exact h1.elim⟩
theorem oA{α:Type}{l:List α}{k:Nat}{x:α}(h:l[k]?=some x):atI l (k:Int)=some x:=by
 have:=(abE.mp h).1;unfold atI ixN;rw[if_pos (Int.natCast_nonneg k),if_pos (by nofun)];exact h
end
section
variable {X:Cx} {o e value:Expr} {es:List Expr} {f:Str} {pos pos' tpos apos:Pos} {ta tv:TE} {t:TA} {C:Addr} {k:Nat} {ps:List Str} {sp:Sp}
theorem oB(K:Frag)(h:X.K=K):BMt X "list.clear" iG:=⟨mY⟩
end
section
variable {prog:Program} {w:World} {A:Around} {E:Value->Shared->Prop} {s:Shared}
variable {K:Type} [DecidableEq K] {knd:KeyKind prog w K}
end
section
variable {X:Cx}
end
section
variable {K:Frag}
end
section
variable {K:Frag} {μ:List Nat} {F F' Z H H':Hp} {σ:St} {ρ:FSt} {A:List Addr}
def zz(ks:List (List Key))(ds:List D)(k:List Key)(d:D):List (List Key)×List D:=
 if xz ks k=true then (ks,(ks.zip ds).map λ kd=>if kd.1=k then d else kd.2) else (ks++[k],ds++[d])
def unT(ρ:FSt)(i:Nat):Option (List (List Key)×List D):=match ρ[i]? with
 |some (some (.ft ks ds))=>some (ks,ds)
 |_=>none
def zA(i:Nat)(fe fk:FE):FS:=λ E ρ=>fe ρ λ r ρ1=>match fzR r ρ1 with
 | some (d,ρ2)=>(unT ρ2 i).isSome=true/\fk ρ2 λ s ρ3=>on1 ρ3 s λ dk=>(match dk with
  | .tup kd=>(match dS kd,unT ρ3 i with
   |some k,some (ks,ds)=>ks.length<sizeLine/\E.nx (ρ3.set i (some (.ft (zz ks ds k d).1 (zz ks ds k d).2)))
   |_,_=>False)
  |_=>False)
 |none=>False
def fGet2(fo fk fx:FE):FE:=λ ρ Q=>fo ρ λ r ρ1=>on1 ρ1 r λ d0=>(match d0 with
 | .dct _ _=>fk ρ1 λ s ρ2=>on1 ρ2 s λ e=>(match iP e with
  | some k=>fx ρ2 fun t ρ3=>(match fzR t ρ3 with
   | some (dz,ρ4)=>on1 ρ4 r λ d=>(match d with
    |.dct ks ds=>Q (.ov (.fz ((xA ks ds k).getD dz))) ρ4
    |_=>False)
   |none=>False)
  |none=>False)
 |_=>False)
def pH(fk fv:FE):FE:=λ ρ Q=>fk ρ λ r ρ1=>on1 ρ1 r λ d=>(match iP d with
 | some k=>fv ρ1 λ s ρ2=>(match fzR s ρ2 with
  |some (d2,ρ3)=>Q (.ov (.fd [k] [d2])) ρ3
  |none=>False)
 |none=>False)
theorem oC{tk tv:TE}{fk fv:FE}(hk:EF K μ tk fk)(hv:EF K μ tv fv):EF K μ (qC [(tk,tv)]) (pH fk fv):=⟨by
 intro F Z H τ σ ρ A Q P vw R h q p hp;have R0:=R.step (Pure.new (o:=.dK []) R.fh hp);have fp:Fresh F Z A [p]:=R.fresh (New.one hp (R.fh.free hp));obtain⟨Z',sz,R1,zl,back⟩:=R0.hold (B:=[p]) (λ b hb=>⟨.dK [],by rw[abF.mp hb];exact ag⟩) (.one ag (λ _ z=>nomatch z) .nil) fp;refine hk.h vw R1 h λ r1 ρ1 x F1 H1 A1 B1 h1 s1 R2 v1 f1=>?_;obtain⟨d,e1,h2⟩:=bq h1;split at h2
 ·rename_i k ek;have ey:=dh (R2.acc v1 e1) ek;refine hv.h vw R2 h2 λ r2 ρ2 y F2 H2 A2 B2 h3 s2 R3 v2 f2=>?_;split at h3
  ·rename_i d2 ρ3 ez;obtain⟨F3,A3,s3,R4,dn,_,_⟩:=R3.frz v2 f2 ez;obtain⟨R5,f5,k5⟩:=back _ _ _ _ ((s1.trans s2).trans s3) R4;have fb:=f5.fr p (aac ..);have R6:=R5.write (o:=.dK [(k,y)]) fb.2.2 fb.1 fb.2.1;exact⟨k5 p _ (aac ..) ag,[(k,y)],by rw[ey];rfl,(by decide:(1:Nat)<=15),q _ _ _ _ _ _ _ h3 ((s1.trans s2).trans s3) R6 (.fd ag rfl (.cons dn .nil)) f5⟩
  ·exact h3.elim
 ·exact h2.elim⟩
end
section
variable {K:Frag} {n c i k:Nat} {C:Addr} {f mn:Str} {te:TE} {fe:FE} {t:TA} {fa:FA} {cc:Ct}
end
section
variable {Z:Zz} {T:Prop} {x q y:Str} {st:Stmt} {f C:Addr} {fd:FuncData} {ps:List Str} {c:Ct} {k:Nat} {h:Heap}
end
section
variable {α:Type} {P:List α->Prop}
theorem zB(h:∀ a,P [a]):∀ us:List α,us.length=1->P us
 |[_],_=>h _
theorem us_2(h:∀ a b,P [a,b]):∀ us:List α,us.length=2->P us
 |[_,_],_=>h _ _
theorem us_3(h:∀ a b c,P [a,b,c]):∀ us:List α,us.length=3->P us
 |[_,_,_],_=>h _ _ _
end
section
variable {X:Cx}
def l0(i j:Int):Prop:=0<=j/\j<=8/\i.natAbs<2 ^ 1000
theorem sM:OpR X (binaryOp .Pow) (rI l0 λ i j=>.int (i ^ j.toNat)):=opI λ i j _ _ _ _ _ hc q=>by
 refine pow_int hc.1 ?_ q;have hb:Builtin.Int.intBits i<=1000:=intBits_le hc.2.2;have h2:=hc.2.1;have h1:(Builtin.Int.intBits i:Int)*j<=1000*j:=Int.mul_le_mul_of_nonneg_right (by nofun) hc.1;nofun
theorem oE:BOp X (binaryOp .Pow) (rI l0 λ i j=>.int (i ^ j.toNat)):=⟨sM⟩
end
section
variable {K:Frag}
theorem oF:OpF K (rI l0 λ i j=>.int (i ^ j.toNat)) (aIC l0 λ i j=>.int (i ^ j.toNat)):=di λ _ _ _=>.int _
end
section
variable {X:Cx}
end
section
variable {K:Frag} {μ:List Nat} {F Z H:Hp} {σ:St} {ρ:FSt} {A:List Addr}
end
section
variable {prog:Program} {w:World} {A:Around} {E:Value->Shared->Prop} {s:Shared} {it d:Addr} {i ep:Nat} {o:Obj} {es:Array DictEntry} {e:DictEntry} {Q:Option Value->Shared->Prop}
end
section
variable {X:Cx}
end
section
variable {K:Frag} {μ:List Nat} {F Z H:Hp} {σ:St} {ρ:FSt} {A:List Addr}
end
section
variable {X:Cx} {tg:Expr}
end
section
variable {K:Frag} {μ:List Nat} {F:Hp}
end
section
variable {X:Cx} {K:Frag}
end
section
variable {K:Frag} {μ:List Nat} {F Z H:Hp} {σ:St} {ρ:FSt} {A:List Addr}
end
section
variable {prog:Program} {w:World} {A:Around} {E:Value->Shared->Prop} {s:Shared}
end
section
variable {X:Cx} {tg:Expr}
end
section
variable {K:Frag} {μ:List Nat} {F:Hp}
end
section
variable {X:Cx}
end
section
variable {K:Frag}
end
section
variable {K:Frag}
end
section
variable {K:Frag} {μ:List Nat} {F F' Z H H':Hp} {σ:St} {ρ:FSt} {A:List Addr}
def iB:List FV->Option (List D×Addr×List D)
 |[.fl a es]=>some ([],a,es)
 | .fz d::r=>match iB r with
  |some (ds,a,es)=>some (d::ds,a,es)
  |none=>none
 |_=>none
theorem Fws.row{vs:List V}{ps:List FV}{B:List Addr}(h:Fws K F H vs ps B):∀ {ds:List D} {a:Addr} {es:List D},iB ps=some (ds,a,es)->∃ xs ys,vs=xs++[.ref a]/\Dens K F xs ds/\H a=some (.lst ys)/\Dens K F ys es/\B=[a]:=by
 induction h with
 |nil=>intro ds a es e;cases e
 | @cons x o xs os A B h t ih=>
  intro ds a es e
  cases h with
  | fz d=>
   have e:(match iB os with
    |some (ds,a,es)=>some (_::ds,a,es)
    |none=>none)=some (ds,a,es):=e
   cases hr:iB os with
   |none=>rw[hr] at e;cases e
   | some q=>
    obtain⟨ds',a',es'⟩:=q;rw[hr] at e;cases e;obtain⟨xs2,ys,rfl,h2,h3,h4,rfl⟩:=ih hr;exact⟨x::xs2,ys,rfl,.cons d h2,h3,h4,rfl⟩
  | fl h1 h2=>
   cases t with
   |nil=>cases e;exact⟨[],_,rfl,.nil,h1,h2,rfl⟩
   |cons _ _=>cases e
  |_=>cases e
theorem Fws.snocR{vs:List V}{ps:List FV}{B C:List Addr}{v:V}{p:FV}(h:Fws K F H vs ps B)(w:Fw K F H v p C):Fws K F H (vs++[v]) (ps++[p]) (B++C):=by
 induction h with
 |nil=>have:=Fws.cons w .nil;rw[aaB] at this;exact this
 |cons h t ih=>have:=Fws.cons h ih;rw[← aaf] at this;exact this
def fAppR(i:Nat)(fe:FE):FE:=λ ρ Q=>match ρ[i]? with
 | some (some (.ol _))=>fe ρ λ r ρ1=>(match r with
  | .ov (.ot qs)=>(match iB qs with
   | some (ds,a,es)=>(match ρ1[i]? with
    |some (some (.ol ps))=>ps.length<sizeLine/\Q (.ov (.fz .non)) (ρ1.set i (some (.ol (ps++[.tl ds a es]))))
    |_=>False)
   |none=>False)
  |_=>False)
 |_=>False
def oG(i:Nat):FE:=λ ρ Q=>match ρ[i]? with
 |some (some (.ol _))=>Q (.ov (.fz .non)) (ρ.set i (some (.ol [])))
 |_=>False
theorem sN{i j:Nat}(hj:μ[j]?=some i):EF K μ (uK K "list" iG (cV j)) (oG i):=⟨by
 intro F Z H τ σ ρ A Q P vw R h q;unfold oG at h;split at h
 ·rename_i ps e;obtain⟨v0,B0,h1,h2,nd,mA,mk⟩:=R.chg e
  cases h2 with
  | @ol a xs _ A1 hH w=>
   obtain⟨A2,R2⟩:=mk (upd H a (.lst [])) (.ol []) [a] (λ y u hy e=>by rw[ah (λ z=>hy (by rw[z];exact aac ..))];exact e) (.ol ag .nil) (by simp) λ b hb=>.inl (by rw[List.mem_singleton.mp hb];exact aac ..);exact⟨.ref a,(vw j i hj).1.trans h1,.inl ⟨rfl,xs,SqL.of hH⟩,a,xs,rfl,rfl,hH,q _ _ _ _ _ _ _ h (Same.refl _) R2 (.fz .non) Fresh.nil⟩
 ·exact h.elim⟩
def frzo:Option OV->Option OV
 |some (.fz d)=>some (.fz d)
 |some (.fl ds)=>some (.fz (.lst ds))
 |some (.fd ks ds)=>some (.fz (.dct ks ds))
 |some (.ft ks ds)=>some (.fz (.dt ks ds))
 |some (.ot ps)=>some (.fz (.tup (ps.map cA)))
 |some (.ol ps)=>some (.fz (.lst (ps.map cA)))
 |_=>none
theorem jP(o:OV):frzo (some o)=none∨∃ d,frzo (some o)=some (.fz d)/\rH o=some d:=by
 cases o <;> first|exact .inl rfl|exact .inr ⟨_,rfl,rfl⟩
theorem Slots.frzo(e:Same F F')(h:Slots K F H σ ρ A)(k:∀ a u,a∈A->H a=some u->F' a=some u):Slots K F' H σ (ρ.map L2.frzo) []:=by
 induction h with
 |nil=>exact .nil
 |skip t ih=>exact .skip (ih k)
 | @has v o σ ρ A B h t ih=>
  have t':=ih λ a u ha=>k a u (aak _ ha);rw[abC];rcases jP o with z|⟨d,z,hd⟩
  ·rw[z];exact .skip t'
  ·rw[z];exact .has (A:=[]) (.fz (h.freeze e (λ a u ha=>k a u (aax _ ha)) hd)) t'
def i6(f:FT):FT:=λ ρ Q=>eY (ρ.map frzo) λ ρ0=>f ρ0 λ b _=>Q b ρ
theorem sO{t:TT}{f:FT}(h:TF K μ t f):TF K μ t (i6 f):=⟨by
 intro F Z H τ σ ρ A Q P vw R p q;unfold i6 at p;rw[bB] at p;obtain⟨F1,hin,hout⟩:=mix A H F
 have s1:Same F F1:=λ b o z=>by
  rw[hout b λ hb=>by rw[(R.fr b hb).1] at z;cases z];exact z
 have k1:∀ a u,a∈A->H a=some u->F1 a=some u:=λ a u ha e=>by rw[hin a ha];exact e
 have R1:Rel K F1 Z H σ (ρ.map frzo) []:=⟨R.sl.frzo s1 k1,aaU,(λ _ z=>nomatch z),λ b o z=>by
  by_cases hb:b∈A
  ·rw[hin b hb] at z;exact z
  ·rw[hout b hb] at z;exact R.fh b o z,R.zh,λ b o z=>by
  by_cases hb:b∈A
  ·exact(R.fr b hb).2
  ·rw[hout b hb] at z;exact R.dj b o z⟩
 refine h.h vw R1 p λ b ρ2 F2 H2 A2 p2 s2 R2=>?_;exact q _ _ F _ A p2 (Same.refl _) ⟨R.sl.keep (Same.refl _) λ a u ha e=>R2.fh a u (s2 a u (k1 a u ha e)),R.nd,R.fr,(s1.trans s2).trans R2.fh,R2.zh,R.dj⟩⟩
theorem Rel.rowL{i k:Nat}{b:Addr}{ps:List FV}{ds es:List D}(R:Rel K F Z H σ ρ A)(e:ρ[i]?=some (some (.ol ps)))(ed:ps[k]?=some (.tl ds b es)) :
  ∃ a vs r xs ys,σ[i]?=some (some (.ref a))/\H a=some (.lst vs)/\vs[k]?=some (.ref r)/\H r=some (.tup (xs++[.ref b]))/\xs.length=ds.length/\H b=some (.lst ys)/\Dens K F ys es/\∀ ys' es',Dens K F ys' es'->∃ A',Rel K F Z (upd H b (.lst ys')) σ (ρ.set i (some (.ol (ps.set k (.tl ds b es'))))) A':=by
 obtain⟨v,B0,h1,h2,nd,mA,mk⟩:=R.chg e
 cases h2 with
 | @ol a vs _ B hH hp=>
  obtain⟨x,C1,B1,g1,g2,pm,g4⟩:=hp.at_ ed
  cases g2 with
  | @tl r _ xs ys _ _ hF d1 hb d2=>
   have nd2:=(abS.mp nd).2;have hbB:b∈B:=pm.mem_iff.mpr (by simp);have nab:a≠b:=λ z=>(abS.mp nd).1 (by rw[z];exact hbB);obtain⟨_,n2,n3⟩:=aN pm nd2;refine⟨a,vs,r,xs,ys,h1,hH,g1,R.fh _ _ hF,d1.length,hb,d2,λ ys' es' dn'=>?_⟩;obtain⟨B2,w2,pm2⟩:=g4 F (upd H b (.lst ys')) (.ref r) (.tl ds b es') [b] (Same.refl _) (λ y u hy q=>by rw[ah (show y≠b from λ z=>n3 b (by simp) (z ▸ hy))];exact q) (.tl hF d1 ag dn');rw[i5 g1] at w2;have mB:∀ y∈B2,y∈B:=λ y hy=>pm.mem_iff.mpr (pm2.mem_iff.mp hy);have pB:B2.Perm B:=pm2.trans pm.symm
   exact mk _ _ (a::B2) (λ y u hy q=>by rw[ah (show y≠b from λ z=>hy (by rw[z];exact aag _ hbB))];exact q) (.ol (by rw[ah nab];exact hH) w2) (abS.mpr ⟨λ z=>(abS.mp nd).1 (mB _ z),pB.nodup_iff.mpr nd2⟩) λ y hy=>.inl (by
    rcases abG.mp hy with z|z
    ·rw[z];exact aac ..
    ·exact aag _ (mB y z))
def i7(z:Str):FV->FV
 |.tl ds a es=>.tl ds a (es++[.str z])
 |p=>p
def zC(k:Nat):FV->Bool
 |.tl ds _ es=>ds.length==k&&decide (es.length<sizeLine)
 |_=>false
def fF(i j k:Nat)(z:Str):FS:=λ E ρ=>match ρ[j]? with
 |some (some (.ol ps))=>ps.all (zC k)=true/\E.nx ((ρ.set j (some (.ol (ps.map (i7 z))))).set i none)
 |_=>False
end
theorem gQ{prog:Program}{w:World}{A:Around}{E:Value->Shared->Prop}{it l:Addr}{items:Array Value}(ne:l≠it):∀ (n i:Nat) (s:Shared) (Q:List Value->Shared->Prop),s.heap.IsListIter it l i->s.heap.IsList l items->i+n<=items.size ->
  (∀ h':Heap,h'.IsListIter it l (i+n)->Heap.SameBut it s.heap h'->Q (List.take n (List.drop i items.toList)) { s with heap:=h' })->wpAny (model prog w) A (draw (.ref it) n) Q E s
 | 0,i,s,Q,hi,hl,hz,q=>by
  rw[draw.eq_1];refine aab ?_;have:=q s.heap hi ⟨rfl,λ _ _=>rfl⟩;simpa using this
 | n+1,i,s,Q,hi,hl,hz,q=>by
  rw[draw.eq_2];have hx:items[i]?=some (items[i]'(by nofun)):=abO (by nofun);refine aaa (wpAny_pyNext_list_item hi hl hx λ h' hi' hs=>?_);obtain⟨o,ho,hc,m,hd⟩:=hl;have hl':h'.IsList l items:=⟨o,(hs.2 l ne).trans ho,hc,m,hd⟩;refine aaa (aaq (gQ ne n (i+1) { s with heap:=h' } _ hi' hl' (by nofun) λ h2 hi2 hs2=>aab ?_));have:=q h2 (by rw[show i+(n+1)=i+1+n by nofun];exact hi2) ⟨hs2.1.trans hs.1,λ b hb=>(hs2.2 b hb).trans (hs.2 b hb)⟩
  have e:List.drop i items.toList=items[i]'(by nofun)::List.drop (i+1) items.toList:=by
   rw[aar (by rw[abz];nofun),Array.getElem_toList]
  rw[e,List.take_succ_cons] at this;exact this
theorem cO{prog:Program}{w:World}{A:Around}{E:Value->Shared->Prop}{s:Shared}{t:Addr}{items:Array Value}{Q:List Value->Shared->Prop}(hh:A.handled=none)(ht:s.heap.IsList t items)
  (hQ:∀ h':Heap,Heap.ExtBut s.heap.objs.size s.heap h'->Q items.toList { s with heap:=h' }):wpAny (model prog w) A (unpackItems (.ref t) items.size none) Q E s:=by
 have ht0:=ht;obtain⟨o,ho,hc,m,hd⟩:=ht;have hlt:t≠s.heap.objs.size:=aal (aae ho);unfold unpackItems notIterableAtAll;refine aaa (aaa (wpAny_specialOf (T := "list") ⟨o,ho,hc⟩ F.slot_list_iter.lookup (aab ?_)));simp only[Bool.false_eq_true,if_false];refine aaa (aaq (wpAny_pyIter_list ht0 ?_));have hit:(s.heap.push { cls:=Value.type "list_iterator", data:=Data.fields #[Value.ref t,Value.int 0 0] }).IsListIter s.heap.objs.size t 0:=⟨_,abD _ rfl,rfl,rfl⟩;have hl1:(s.heap.push { cls:=Value.type "list_iterator", data:=Data.fields #[Value.ref t,Value.int 0 0] }).IsList t items:=⟨o,abv _ ho,hc,m,hd⟩;refine aaa (aaq (gQ hlt items.size 0 _ _ hit hl1 (by nofun) λ h2 hi2 hs2=>?_));have e:List.take items.size (List.drop 0 items.toList)=items.toList:=by rw[aaO,← abz,aaL]
 rw[e];rw[if_neg (by rw[abz];exact aaD _)]
 have hl2:h2.IsList t items:=by
  obtain⟨o,ho,hc,m,hd⟩:=hl1;exact⟨o,(hs2.2 t hlt).trans ho,hc,m,hd⟩
 rw[ab9] at hi2;refine aaa (aaq (wpAny_pyNext_list_end (s:={ s with heap:=h2 }) hh hi2 hl2 (by simp) λ h3 hx3=>?_));simp only[Option.isSome_none,Bool.false_eq_true,if_false];refine aab (hQ h3 λ b ob hb e=>hx3 b ob hb ?_);rw[hs2.2 b hb];exact abv _ e
section
variable {X:Cx} {pos:Pos}
def sP(K:Frag)(n:Nat)(t:TGs):TG:=λ v σ H Q=>∃ a xs,v=.ref a/\SqL K H a xs/\xs.length=n/\t xs σ H Q
theorem sQ{es:List Expr}{k:Nat}{t:TGs}{n:Nat}(hc:X.calm=true)(h:PGs X es t)(hn:(assignEach es X.env).length=n)(hst:(assignEach es X.env).findIdx? (·.1)=none):PG X (.Tuple es k pos) (sP X.K n t):=by
 intro pins s σ H v u Q I r hw;obtain⟨a,xs,e1,hq,hl,hw⟩:=hw;subst e1;cases r;obtain⟨its,rv,ht,hz⟩:=I.list hq;rw[PyProof.Rows.assign_Tuple];refine aaa (wpAny_standAt ?_);unfold unpack;rw[hst];have e:(assignEach es X.env).length=its.toArray.size:=by rw[hn,← hl,abH,rv.length]
 rw[e];refine aaa (aaq (cO (I.ok.hd hc) ht.isList λ h' hx=>?_));have I1:Inv X pins σ H { s with heap:=h' }:=I.kept (t':=s.toks) λ b o e=>hx b o (aal (aae e)) e;exact h pins _ σ H xs _ Q I1 (by exists rv) hw
theorem sR{es:List Expr}{k:Nat}{t:TGs}{n:Nat}(K:Frag)(hc:X.calm=true)(h:BGs X es t)(hK:X.K=K)(hn:(assignEach es X.env).length=n)(hst:(assignEach es X.env).findIdx? (·.1)=none):BG X (.Tuple es k pos) (sP K n t):=by
 subst hK;exact⟨sQ hc h.h hn hst⟩
end
section
variable {K:Frag} {μ:List Nat} {F F' Z H H':Hp} {σ:St} {ρ:FSt} {A:List Addr}
def pJ(n:Nat)(f:FGs):FG:=λ d ρ P=>match d with
 |.lst ds=>ds.length=n/\f ds ρ P
 |_=>False
end
section
variable {K:Frag} {μ:List Nat} {F F' Z H H':Hp} {σ:St} {ρ:FSt} {A:List Addr} {n:Nat} {m:List Nat}
theorem sS{T:List Nat}{gs:TGs}{fs:FGs}(h2:GsF K μ T gs fs):GF K μ T (sP K n gs) (pJ n fs):=⟨by
 intro F Z H τ σ ρ A v d Q P vw R dn h q
 cases dn with
 |lst hs t=>exact⟨_,_,rfl,R.fh.seq hs,t.length.trans h.1,h2.h vw R t h.2 q⟩
 |_=>exact h.elim⟩
theorem Rel.forget(i:Nat)(x:Option V)(R:Rel K F Z H σ ρ A):∃ A',Rel K F Z H (σ.set i x) (ρ.set i none) A':=by
 obtain⟨A1,C,pm,s1⟩:=R.sl.drop i x;obtain⟨n1,n2,n3⟩:=aN pm R.nd;have mA:∀ a∈A1,a∈A:=λ a ha=>pm.mem_iff.mpr (abx.mpr (.inr ha));exact⟨A1,s1,n2,λ a ha=>R.fr a (mA a ha),R.fh,R.zh,R.dj⟩
theorem oH{z:Str}{ps:List FV}{t:Nat}{p:FV}(h:ps[t]?=some p):((ps.take t).map (i7 z)++ps.drop t)[t]?=some p:=by
 have hl:t<ps.length:=(abE.mp h).1;rw[abJ (by simp;nofun),abw,aap,Nat.min_eq_left (abk hl),Nat.sub_self,ab1,abd];exact h
theorem oI{z:Str}{ps:List FV}{t:Nat}{p:FV}(h:ps[t]?=some p):((ps.take t).map (i7 z)++ps.drop t).set t (i7 z p)=(ps.take (t+1)).map (i7 z)++ps.drop (t+1):=by
 have hl:t<ps.length:=(abE.mp h).1
 have e1:ps.drop t=p::ps.drop (t+1):=by
  rw[aar hl];rw[abA hl] at h;cases h;rfl
 have e2:ps.take (t+1)=ps.take t++[p]:=by rw[aaN,h];rfl
 have hl2:((ps.take t).map (i7 z)).length=t:=by rw[abw,aap];nofun
 rw[e1,e2,aam,aaf,List.set_append_right _ _ (by rw[hl2];exact aad _),hl2,Nat.sub_self];rfl
theorem l5{i j k:Nat}{z:Str}(hi:i<n)(hij:i≠j)(him:i∉m):SF K n m (uh (jl K (cV j)) (dN i) (jZ (tBM K "list" cu (tOp (xy K) (cV i) (tC (.int k))) (bp (tC (.str z)) fP)))) (fF i j k z):=⟨by
 intro F Z H σ0 σ ρ A D fD R p E h;unfold fF at h;split at h
 ·rename_i ps e;obtain⟨hall,h⟩:=h;obtain⟨v,B,h1,h2,_⟩:=R.chg e
  cases h2 with
  | @ol a xs _ A1 hH w=>
   refine⟨.ref a,h1,a,rfl,⟨xs,SqL.of hH⟩,?_⟩;have hjl:j<ρ.length:=(abE.mp e).1;obtain⟨Ai,Ri⟩:=R.forget i ((σ[i]?).getD none)
   have esi:σ.set i ((σ[i]?).getD none)=σ:=by
    by_cases hl:i<σ.length
    ·rw[abA hl];exact i5 (abA hl)
    ·exact List.set_eq_of_length_le (by nofun)
   rw[esi] at Ri;have ej:(ρ.set i none)[j]?=some (some (.ol ps)):=by rw[abQ hij];exact e
   refine⟨λ t m' σ' H'=>m'=ps.length - t/\t<=ps.length/\(∃ A',Rel K F Z H' σ' ((ρ.set i none).set j (some (.ol ((ps.take t).map (i7 z)++ps.drop t)))) A')/\Pin n m σ0 σ'/\σ'[j]?=some (some (.ref a)),
    ⟨_,rfl,aaI _,⟨Ai,by rw[List.take_zero,aaO,List.map_nil,List.nil_append,pv ej];exact Ri⟩,p,h1⟩,?_⟩
   rintro t m' σ' H' ⟨rfl,hle,⟨A',R'⟩,p',hj'⟩;have ej':((ρ.set i none).set j (some (.ol ((ps.take t).map (i7 z)++ps.drop t))))[j]?=some (some (.ol ((ps.take t).map (i7 z)++ps.drop t))):=abU (by rw[abh];exact hjl);by_cases hlt:t<ps.length
   ·obtain⟨pt,hpt⟩:∃ pt,ps[t]?=some pt:=⟨_,abA hlt⟩;have hk:=ab0.mp hall pt (abT hpt)
    cases pt with
    | tl ds b es=>
     have hk:(ds.length==k&&decide (es.length<sizeLine))=true:=hk;rw[abR] at hk;obtain⟨a',vs,r,xs',ys,g1,g2,g3,g4,g5,g6,g7,g8⟩:=R'.rowL ej' (oH hpt);rw[hj'] at g1;cases g1;refine .inr ⟨⟨vs,.ref r,SqL.of g2,g3⟩,λ σ2 H2=>(∃ A',Rel K F Z H2 σ2 ((ρ.set i none).set j (some (.ol ((ps.take (t+1)).map (i7 z)++ps.drop (t+1))))) A')/\Pin n m σ0 σ2/\σ2[j]?=some (some (.ref a)),λ σ2 H2 q=>⟨_,by nofun,rfl,hlt,q⟩,λ x H2 y=>?_⟩;obtain⟨rfl,y⟩:=y;have hx:=y vs (SqL.of g2);rw[g3] at hx;cases hx;have hlen:i<σ'.length:=by rw[p'.1];exact hi
     have hds:xs'.length=k:=by rw[g5];exact eq_of_beq hk.1
     refine⟨.ref r,by rw[abU hlen],.inl (.inr (.inl ⟨r,_,k,.ref b,rfl,rfl,SqT.of g4,?_,?_⟩))⟩
     ·refine oA (k:=k) ?_;rw[← hds,abJ (aad _),Nat.sub_self];rfl
     ·refine⟨.inl ⟨rfl,ys,SqL.of g6⟩,b,ys,.str z,rfl,rfl,g6,by rw[g7.length];exact of_decide_eq_true hk.2,?_⟩;obtain⟨A2,R2⟩:=g8 (ys++[.str z]) (es++[.str z]) (g7.snoc (.str z));rw[abe,show FV.tl ds b (es++[.str z])=i7 z (.tl ds b es) from rfl,oI hpt] at R2;obtain⟨A3,R3⟩:=R2.forget i (some (.ref r))
      have er:(((ρ.set i none).set j (some (.ol ((ps.take (t+1)).map (i7 z)++ps.drop (t+1)))))).set i none=(ρ.set i none).set j (some (.ol ((ps.take (t+1)).map (i7 z)++ps.drop (t+1)))):=by
       rw[List.set_comm _ _ (abl hij),abe]
      rw[er] at R3;exact⟨⟨A3,R3⟩,p'.set him,by rw[abQ hij];exact hj'⟩
    |_=>exact nomatch hk
   ·have et:t=ps.length:=by nofun
    subst et
    have hst:(Itl K a).stop ps.length H':=by
     obtain⟨v2,B2,f1,f2,_⟩:=R'.chg ej';rw[hj'] at f1;cases f1
     cases f2 with
     | @ol _ xs2 _ _ hH2 w2=>
      refine⟨xs2,SqL.of hH2,?_⟩;rw[w2.length];simp
    refine .inl ⟨hst,?_⟩;rw[aaL,aaZ,aaB,List.set_comm _ _ hij] at R';exact E.nx _ _ _ _ _ (Same.refl _) R' p' h
 ·exact h.elim⟩
end
end L2
namespace L2
open PySem PySem.Spec PyProof.Rows KL
def fG:V->List V->Hp->VK->Prop:=λ x vs H Q=>∃ (l:Addr) (xs:List V) (i:Int) (y:V),x=.ref l/\vs=[.int i,y]/\H l=some (.lst xs)/\0<=i/\i<=xs.length/\xs.length<sizeLine/\Q .non (upd H l (.lst (xs.take i.toNat++y::xs.drop i.toNat)))
section
variable {X:Cx}
theorem l6:MtR X "list.insert" fG:=by
 intro pins s σ H x vs v us Q I rx rv h;obtain⟨l,xs,i,y,rfl,rfl,hH,h0,h1,hz,q⟩:=h;cases rx;obtain⟨u,w,rfl,ru,rw_⟩:=rv.two;obtain⟨t,rfl⟩:=ru;obtain⟨z,its,n,r,hl,e⟩:=I.lstM hH;have hsl:sizeLine<2 ^ 63:=by decide +kernel
 have hlen:its.length=xs.length:=hl.symm
 have hfit:¬ (!Builtin.List.listFitsIndex i)=true:=by
  unfold Builtin.List.listFitsIndex;have a1:decide (-2 ^ 63<=i)=true:=decide_eq_true (by nofun);have a2:decide (i<2 ^ 63)=true:=decide_eq_true (by nofun);rw[a1,a2];decide
 refine call_meets F.slot_list_insert ⟨_,e,rfl⟩ F.entry_list_insert (F.args_list_insert_3 _ _ _) (AutoSeq1.list_insert_list_int_val_1 l its.toArray n i t w hfit (by rw[abH];nofun)) ⟨e,?_⟩;refine⟨.non,_,I.lset (its':=its.take i.toNat++w::its.drop i.toNat) (ys:=xs.take i.toNat++y::xs.drop i.toNat) hH e ?_ ((r.take _).append (.cons rw_ (r.drop _))) ?_,rfl,q⟩
 ·have hk:(if i<0 then (i+(its.toArray.size:Int)).toNat else min i.toNat its.toArray.size)=i.toNat:=by
   rw[if_neg (by nofun),abH];nofun
  simp only[hk];apply Array.toList_inj.mp;rw[aai,aaV,ab7,ab7];simp[List.extract];exact aaT (by rw[aaX];exact aad _)
 ·rw[aan,abL,aap,aaX];nofun
theorem l7(K:Frag)(h:X.K=K):BMt X "list.insert" fG:=⟨l6⟩
end
section
variable {K:Frag} {μ:List Nat} {F F' Z H H':Hp} {σ:St} {ρ:FSt} {A:List Addr}
def yO(i:Nat)(fk fe:FE):FE:=λ ρ Q=>(unL ρ i).isSome=true/\fk ρ λ rk ρ1=>match fzR rk ρ1 with
 | some (.int k,ρ2)=>fe ρ2 λ r ρ3=>(match fzR r ρ3 with
  | some (d,ρ4)=>(match unL ρ4 i with
   |some ds=>(0<=k/\k<=ds.length/\ds.length<sizeLine)/\Q (.ov (.fz .non)) (ρ4.set i (some (.fl (ds.take k.toNat++d::ds.drop k.toNat))))
   |none=>False)
  |none=>False)
 |_=>False
theorem wO{i j:Nat}{tk te:TE}{fk fe:FE}(hj:μ[j]?=some i)(hk:EF K μ tk fk)(he:EF K μ te fe):EF K μ (tBM K "list" fG (cV j) (bp tk (bp te fP))) (yO i fk fe):=⟨by
 intro F Z H τ σ ρ A Q P vw R h q;obtain⟨h0,h⟩:=h;obtain⟨ds0,e0⟩:=abZ.mp h0;obtain⟨a,xs,h1,h2,h3,_⟩:=R.mutL e0;refine⟨.ref a,(vw j i hj).1.trans h1,.inl ⟨rfl,xs,SqL.of h2⟩,?_⟩;refine hk.h vw R h λ rk ρ1 vk F1 H1 A1 B1 p1 s1 R1 v1 f1=>?_;split at p1
 ·rename_i k ρ2 e2;obtain⟨F2,A2,s2,R2,dk,_,_⟩:=R1.frz v1 f1 e2;have hvk:=dk.int_eq;subst hvk;refine he.h vw R2 p1 λ r ρ3 v F3 H3 A3 B3 p3 s3 R3 v3 f3=>?_;split at p3
  ·rename_i d ρ4 e4;obtain⟨F4,A4,s4,R4,dy,_,_⟩:=R3.frz v3 f3 e4;split at p3
   ·rename_i ds e5;obtain⟨a',xs',h1',h2',h3',mt⟩:=R4.mutL e5;rw[h1] at h1';cases h1';obtain⟨A5,R5⟩:=mt (xs'.take k.toNat++v::xs'.drop k.toNat) (ds.take k.toNat++d::ds.drop k.toNat) ((h3'.take _).append (.cons dy (h3'.drop _)));have hl:=h3'.length;exact⟨a,xs',k,v,rfl,rfl,h2',p3.1.1,by rw[hl];exact p3.1.2.1,by rw[hl];exact p3.1.2.2,q _ _ _ _ _ _ _ p3.2 (((s1.trans s2).trans s3).trans s4) R5 (.fz .non) Fresh.nil⟩
   ·exact p3.elim
  ·exact p3.elim
 ·exact p1.elim⟩
theorem sT{n i:Nat}{tk te:TE}{fk fe:FE}(h:i<n)(hk:EF K (List.range n) tk fk)(he:EF K (List.range n) te fe):EF K (List.range n) (tBM K "list" fG (cV i) (bp tk (bp te fP))) (yO i fk fe):=wO (by simp[h]) hk he
theorem oJ{n i:Nat}(h:i<n):EF K (List.range n) (uK K "list" iG (cV i)) (oG i):=sN (by simp[h])
end
def l8(K:Frag):List V->Hp->VK->Prop:=λ xs H Q=>∃ (p:Addr) (rows:List Rw3),xs=[.ref p]/\SqL K H p (rows.map λ r=>.ref r.1)/\(∀ r∈rows,SqL K H r.1 (.int r.2.1::r.2.2))/\(rows.map (·.2.1)).Nodup /\
 ∀ (q:Addr) (rows':List Rw3),H q=none->rows'.Perm rows->(rows'.map (·.2.1)).Pairwise (·<·)->Q (.ref q) (upd H q (.lst (rows'.map λ r=>.ref r.1)))
def kL(h:Heap):Value->Int
 | .ref a=>match h.get? a with
  | some o=>(match o.data with
   |.seq xs _=>kI (xs.getD 0 .none)
   |_=>0)
  |none=>0
 |_=>0
section
variable {X:Cx}
theorem gR(hu:X.A.units+64<cLine):CallR X (.builtin "sorted") (l8 X.K):=by
 intro pins s σ H xs us Q I r h;obtain⟨p,rows,rfl,hq,ht,hn,q⟩:=h;obtain⟨u,rfl,rx⟩:=cX r;cases rx;obtain⟨its,rv,pl,hz⟩:=I.list hq;have hits:=sJ rv;subst hits;rw[abw] at hz
 have hkey:∀ r∈rows,LsK s.heap (kL s.heap) (.ref r.1)/\kL s.heap (.ref r.1)=r.2.1:=λ r hr=>by
  obtain⟨its2,rv2,pl2,_⟩:=I.list (ht r hr);obtain⟨o,ho,hc,m,hd⟩:=pl2.isList
  cases rv2 with
  | cons r1 r2=>
   obtain⟨t,rfl⟩:=r1;obtain⟨c,dd,da,sl⟩:=o;have hc:c=.type "list" := hc;have hd:da=_:=hd;subst hc hd
   have ek:kL s.heap (.ref r.1)=r.2.1:=by
    show (match s.heap.get? r.1 with
     | some o=>(match o.data with
      |.seq xs _=>kI (xs.getD 0 .none)
      |_=>0)
     |none=>0)=_
    rw[ho];simp[kI]
   exact⟨⟨r.1,dd,_,m,sl,t,rfl,ho,by rw[ek];simp⟩,ek⟩
 have hm:(rows.map λ r=>Value.ref r.1).map (kL s.heap)=rows.map (·.2.1):=by
  rw[aao];exact aaE λ r hr=>(hkey r hr).2
 refine iA (k:=kL s.heap) pl.isList (by rw[abw];exact hz) (by show X.A.units+1+1<cLine;nofun) (λ v hv=>?_) (by rw[hm];exact hn) λ out hp hs=>?_
 ·obtain⟨r,hr,rfl⟩:=ab3.mp hv;exact(hkey r hr).1
 ·obtain⟨rows',pr,eo⟩:=bS hp rfl;obtain⟨e,he⟩:=sortedAll_at s.heap (rows.map λ r=>Value.ref r.1) out;refine⟨.ref (s.heap.objs.size+1),_,I.laid (t':=s.toks) (o:=.lst (rows'.map λ r=>.ref r.1)) (λ b o e=>sortedAll_old e) (abb _) ⟨by rw[abw,pr.length_eq];exact hz,out.toList,e,by rw[eo];exact sK rows',he⟩,rfl,q _ rows' (I.hok.fresh (abb _)) pr ?_⟩;rw[eo,aaR] at hs;rw[aaR];refine hs.imp_of_mem fun {a b} ha hb h=>?_;rw[(hkey a (pr.mem_iff.mp ha)).2,(hkey b (pr.mem_iff.mp hb)).2] at h;exact h
theorem oK(K:Frag)(hu:X.A.units+64<cLine)(h:X.K=K):BCall X (.builtin "sorted") (l8 K):=by subst h;exact⟨gR hu⟩
end
def dC:List D->Option (List Int)
 |[]=>some []
 | .lst (.int n::_)::ds=>(match dC ds with
  |some ns=>some (n::ns)
  |none=>none)
 |_=>none
section
variable {K:Frag}
theorem oM{F:Hp}{xs:List V}{ds:List D}(h:Dens K F xs ds):∀ {ns:List Int},dC ds=some ns->∃ L:List (Rw3×D),xs=L.map (λ r=>.ref r.1.1)/\ds=L.map (·.2)/\(∀ r∈L,SqL K F r.1.1 (.int r.1.2.1::r.1.2.2)/\Den K F (.ref r.1.1) r.2)/\L.map (·.1.2.1)=ns/\∀ r∈L,∃ es,r.2=.lst (.int r.1.2.1::es):=by
 refine Dens.rec (motive_1:=λ _ _ _=>True) (motive_2:=λ xs ds _=>∀ {ns:List Int},dC ds=some ns->∃ L:List (Rw3×D),xs=L.map (λ r=>.ref r.1.1)/\ds=L.map (·.2)/\(∀ r∈L,SqL K F r.1.1 (.int r.1.2.1::r.1.2.2)/\Den K F (.ref r.1.1) r.2)/\L.map (·.1.2.1)=ns/\∀ r∈L,∃ es,r.2=.lst (.int r.1.2.1::es)) trivial (λ _=>trivial) (λ _=>trivial) (λ _=>trivial) (λ _=>trivial) (λ _ _ _=>trivial) (λ _ _ _=>trivial) (λ _ _ _ _=>trivial) (λ _ _ _=>trivial) (λ _ _ _=>trivial) (λ _ _ _ _=>trivial) ?_ ?_ h
 ·intro ns e;cases e;exact⟨[],rfl,rfl,(λ _ z=>nomatch z),rfl,λ _ z=>nomatch z⟩
 ·intro x d xs ds hx ht _ ih ns e;have hx0:=hx
  cases hx with
  | @lst a vs es hs hd=>
   cases hd with
   |nil=>cases e
   | @cons v0 d0 vs es h0 h1=>
    cases h0 with
    | int n=>
     have e:(match dC ds with
      |some ns=>some (n::ns)
      |none=>none)=some ns:=e
     cases hnd:dC ds with
     |none=>rw[hnd] at e;cases e
     | some ns'=>
      rw[hnd] at e;cases e;obtain⟨L,rfl,rfl,l1,l2,l3⟩:=ih hnd;refine⟨((a,n,vs),.lst (.int n::es))::L,rfl,rfl,λ r hr=>?_,by rw[abC,l2],λ r hr=>?_⟩
      ·rcases abG.mp hr with rfl|hr
       ·exact⟨hs,hx0⟩
       ·exact l1 r hr
      ·rcases abG.mp hr with rfl|hr
       ·exact⟨es,rfl⟩
       ·exact l3 r hr
    |_=>cases e
  |_=>cases e
theorem i8:∀ {L:List (Rw3×D)},(∀ r∈L,∃ es,r.2=.lst (.int r.1.2.1::es))->dC (L.map (·.2))=some (L.map (·.1.2.1))
 |[],_=>rfl
 | r::L,h=>by
  obtain⟨es,e⟩:=h r (aac ..);rw[abC,e,dC,i8 λ r hr=>h r (aag _ hr)];rfl
theorem i9{F:Hp}:∀ {L:List (Rw3×D)},(∀ r∈L,Den K F (.ref r.1.1) r.2)->Dens K F (L.map λ r=>.ref r.1.1) (L.map (·.2))
 |[],_=>.nil
 |r::L,h=>.cons (h r (aac ..)) (i9 λ r hr=>h r (aag _ hr))
@[irreducible] def gU:List D->(OV->Prop)->Prop
 | [.lst ds],P=>(match dC ds with
  |some ns=>ns.Nodup/\∀ ds':List D,ds'.Perm ds->(∀ ns',dC ds'=some ns'->ns'.Pairwise (·<·))->P (.fl ds')
  |none=>False)
 |_,_=>False
theorem oN:CallF K (l8 K) gU:=⟨by
 intro F H xs ds Q Pq s ha f n;unfold gU at f;split at f
 ·split at f
  ·rename_i ns hz;obtain⟨x,rfl,a⟩:=bJ ha;obtain⟨p,ys,rfl,h1,h2⟩:=a.asL s;obtain⟨L,e1,e2,h3,h4,h5⟩:=oM h2 hz;subst e1 e2;have el:(L.map λ r=>V.ref r.1.1)=(L.map (·.1)).map λ r=>V.ref r.1:=by rw[aao];rfl
   refine⟨p,L.map (·.1),rfl,by rw[← el];exact h1,λ r hr=>?_,by rw[aao];exact h4 ▸ f.1,λ q rows' hq hp hr=>?_⟩
   ·obtain⟨r',hr',rfl⟩:=ab3.mp hr;exact s.seq (h3 r' hr').1
   ·obtain⟨L',p1,rfl⟩:=fq hp L rfl;have el':((L'.map (·.1)).map λ r=>V.ref r.1)=L'.map λ r=>V.ref r.1.1:=by rw[aao];rfl
    rw[el'];refine bh s n (i9 λ r hr=>(h3 r (p1.mem_iff.mp hr)).2) (f.2 _ (p1.map _) λ ns' e=>?_) q hq;rw[i8 λ r hr=>h5 r (p1.mem_iff.mp hr)] at e;cases e;rw[aao] at hr;exact hr
  ·exact f.elim
 ·exact f.elim⟩
theorem l9{α:Type}{num:α->Int}{rest:α->List D}{rows:List α}{P:OV->Prop}(hn:(rows.map num).Nodup)
  (h:∀ rows':List α,rows'.Perm rows->(rows'.map num).Pairwise (·<·)->P (.fl (rows'.map λ r=>.lst (.int (num r)::rest r)))):gU [.lst (rows.map λ r=>.lst (.int (num r)::rest r))] P:=by
 unfold gU
 have e:∀ l:List α,dC (l.map λ r=>D.lst (.int (num r)::rest r))=some (l.map num):=λ l=>by
  induction l with
  |nil=>rfl
  |cons b l ih=>rw [abC,dC,ih];rfl
 simp only[e rows];refine⟨hn,λ ds' hp hr=>?_⟩;obtain⟨m,h1,h2⟩:=fq hp rows rfl;rw[h2];rw[h2] at hr;exact h m h1 (hr _ (e m))
end
end L2
namespace L2
open PySem PySem.Spec PyProof.Rows
section
variable {X:Cx} {K:Frag}
def ma(i j:Int):Prop:=0<j/\j<2 ^ 1000
theorem oO:OpR X (binaryOp .FloorDiv) (rI ma λ i j=>.int (i / j)):=opI λ i j _ _ _ _ _ hc q=>by
 have h1:(0:Int)<j:=hc.1;have h2:j.natAbs<2 ^ 1000:=by have:=hc.2;nofun
 have h3:j.natAbs.log2<1000:=(Nat.log2_lt (by nofun)).mpr h2;exact floordiv_int (by nofun) (by rw[Int.fdiv_eq_ediv_of_nonneg i (by nofun)];exact q) (.inl (PyProof.noPylong_of_log2 (by nofun)))
theorem md:BOp X (binaryOp .FloorDiv) (rI ma λ i j=>.int (i / j)):=⟨oO⟩
theorem me:OpF K (rI ma λ i j=>.int (i / j)) (aIC ma λ i j=>.int (i / j)):=di λ _ _ _=>.int _
theorem jQ{n i j k:Nat}{m:List Nat}{z:Str}(hi:i<n)(hij:(i==j)=false)(him:m.contains i=false):SF K n m (uh (jl K (cV j)) (dN i) (jZ (tBM K "list" cu (tOp (xy K) (cV i) (tC (.int k))) (bp (tC (.str z)) fP)))) (fF i j k z):=
 l5 hi (λ e=>by rw[e] at hij;simp at hij) λ h=>by rw[List.contains_iff_mem.mpr h] at him;cases him
end
end L2
namespace L2
open PySem PySem.Spec PyProof.Rows PySem.W
def bo(T:Addr)(K:Frag):Frag:=K.filter λ p=>!(p.1==T)
theorem cp{T:Addr}:∀ K:Frag,(bo T K).lookup T=none
 |[]=>rfl
 | (a,o)::K=>by
  unfold bo;by_cases h:a=T
  ·subst h;rw[List.filter_cons_of_neg (by simp)];exact cp K
  ·rw[List.filter_cons_of_pos (by exists h),aau,beq_eq_false_iff_ne.mpr (abl h)];exact cp K
theorem cE{T b:Addr}(hb:b≠T):∀ K:Frag,(bo T K).lookup b=K.lookup b
 |[]=>rfl
 | (a,o)::K=>by
  unfold bo;by_cases h:a=T
  ·subst h;rw[List.filter_cons_of_neg (by simp),aau,beq_eq_false_iff_ne.mpr hb];exact cE hb K
  ·rw[List.filter_cons_of_pos (by exists h),aau,aau];cases b==a
   ·exact cE hb K
   ·rfl
theorem sU{T:Addr}{K:Frag}{h:Heap}(X:K.In h):(bo T K).In h:=λ a o e=>by
 by_cases ha:a=T
 ·rw[ha,cp] at e;cases e
 ·rw[cE ha] at e;exact X a o e
section
variable {K:Frag} {T:Addr}
def dD(K:Frag)(T:Addr):Prop:=K.lookup T=some (tabObj #[])
theorem pK(h:dD K T){b:Addr}{oc:Value}{od:Option Addr}{da:Data}{sl:Array (Option Value)}(e:K.lookup b=some ⟨oc,od,da,sl⟩)(hd:da≠.fields #[]):b≠T:=λ z=>by
 rw[z,h] at e;cases e;exact hd rfl
theorem lk_drop(h:dD K T){b:Addr}{oc:Value}{od:Option Addr}{da:Data}{sl:Array (Option Value)}(e:K.lookup b=some ⟨oc,od,da,sl⟩)(hd:da≠.fields #[]):(bo T K).lookup b=some ⟨oc,od,da,sl⟩:=by
 rw[cE (pK h e hd)];exact e
theorem ns_drop(h:dD K T){x:Str}{v:Option Value}(e:nsIn K mainGlobals x=some v):nsIn (bo T K) mainGlobals x=some v:=by
 unfold nsIn at e ⊢;rw[cE λ z=>by rw[z,h] at e;cases e];exact e
theorem sV(h:dD K T){cd:Value}{q:Str}(e:codeIn K cd q=true):codeIn (bo T K) cd q=true:=by
 unfold codeIn at e ⊢
 cases cd with
 | ref c=>
  dsimp only at e ⊢;rw[cE λ z=>by rw[z,h] at e;cases e];exact e
 |_=>exact e
theorem sW(h:dD K T){f:Addr}{oc:Value}{od:Option Addr}{fd:FuncData}{sl:Array (Option Value)}(e:K.lookup f=some ⟨oc,od,.func fd,sl⟩):keepIn (bo T K) (.ref f)=true:=by
 have e':=lk_drop h e (λ z=>nomatch z);unfold keepIn;dsimp only;rw[e']
theorem Df.drop(h:dD K T){x:Str}{st:Stmt}{f:Addr}{fd:FuncData}(D:Df K x st f fd):Df (bo T K) x st f fd:=by
 obtain⟨oc,od,kV,doc,pm,an,cdv,ct,osl,e,lk,cd⟩:=D.fn.ex;exact⟨ns_drop h D.ns,⟨oc,od,kV,doc,pm,an,cdv,ct,osl,e,lk_drop h lk (λ z=>nomatch z),sV h cd⟩,sW h lk⟩
def CodeF(vs:Array Value)(T:Addr):Prop:=∃ (file:Str) (tf:Tok) (flags:Int) (tg:Tok) (inF:Bool) (text:Int) (tt:Tok),vs[11]?=some (.ref T)/\vs.getD 11 .none=.ref T/\vs.getD 18 .none=.str file tf/\vs.getD 7 .none=.int flags tg/\vs.getD 9 .none=.bool inF/\vs.getD 10 .none=.int text tt
theorem mf{c:Addr}{od:Option Addr}{vs:Array Value}{sl:Array (Option Value)}(e:K.lookup c=some ⟨.type "code", od,.fields vs,sl⟩)(f:CodeF vs T)(ne:c≠T){h:Heap}(X:K.In h):CodeHd h c T:=by
 obtain⟨file,tf,flags,tg,inF,text,tt,h1,h2,h3,h4,h5,h6⟩:=f;exact⟨_,vs,file,tf,flags,tg,inF,text,tt,X _ _ e,rfl,rfl,h1,h2,h3,h4,h5,h6,ne⟩
theorem fH{mg:Str->Option Value}{h:Heap}{bm:Addr}{sl:Array (Option Value)}(X:K.In h)(hm:mg "__builtins__" = some (.ref bm))(e:K.lookup bm=some ⟨.type "module", some builtinsNs,.plain,sl⟩)(h1:bm≠builtinsNs)(h2:bm≠mainGlobals)(h3:bm≠T):h.BuiltinsAt mg T:=⟨bm,_,hm,h1,h2,h3,X _ _ e,rfl,rfl,rfl⟩
end
section
variable {K:Frag} {T:Addr}
structure LamFacts(K:Frag)(T c:Addr)(f:Addr)(fd:FuncData):Prop where
 tab:dD K T
 ns:nsIn K mainGlobals "by_number" = some (some (.ref f))
 fn:∃ (oc:Value) (od:Option Addr) (osl:Array (Option Value)),K.lookup f=some ⟨oc,od,.func fd,osl⟩
 cd:fd.code=.ref c
 lk:∃ (od:Option Addr) (vs:Array Value) (sl:Array (Option Value)),K.lookup c=some ⟨.type "code", od,.fields vs,sl⟩/\CodeF vs T
theorem lamFacts_mk{c f:Addr}{fd:FuncData}{oc:Value}{od od2:Option Addr}{osl sl:Array (Option Value)}{vs:Array Value}(ns:nsIn K mainGlobals "by_number" = some (some (.ref f)))(fn:K.lookup f=some ⟨oc,od,.func fd,osl⟩)(cd:fd.code=.ref c)(lk:K.lookup c=some ⟨.type "code", od2,.fields vs,sl⟩)(cf:CodeF vs T)(tab:dD K T):∃ c f fd,LamFacts K T c f fd:=⟨c,f,fd,tab,ns,⟨oc,od,osl,fn⟩,cd,od2,vs,sl,lk,cf⟩
theorem CodeF.ne{vs:Array Value}(f:CodeF vs T):vs≠#[]:=λ z=>by
 obtain⟨_,_,_,_,_,_,_,h,_⟩:=f;rw[z] at h;cases h
theorem LamFacts.ne{c f:Addr}{fd:FuncData}(L:LamFacts K T c f fd):c≠T:=by
 obtain⟨od,vs,sl,e,cf⟩:=L.lk;exact pK L.tab e λ z=>cf.ne (Data.fields.inj z)
theorem LamFacts.lamK{c f:Addr}{fd:FuncData}(L:LamFacts K T c f fd):cP (bo T K) T:=by
 obtain⟨oc,od,osl,e1⟩:=L.fn;obtain⟨od2,vs,sl,e2,cf⟩:=L.lk;refine⟨f,c,oc,od,fd,osl,_,vs,ns_drop L.tab L.ns,lk_drop L.tab e1 (λ z=>nomatch z),L.cd,lk_drop L.tab e2 (λ z=>cf.ne (Data.fields.inj z)),rfl,?_⟩;obtain⟨_,_,_,_,_,_,_,h,_⟩:=cf;exact h
theorem LamFacts.uniq{c f:Addr}{fd:FuncData}(L:LamFacts K T c f fd){T':Addr}(h:cP (bo T K) T'):T'=T:=by
 obtain⟨f2,c2,oc2,od2,fd2,osl2,o2,vs2,a1,a2,a3,a4,a5,a6⟩:=h;obtain⟨oc,od,osl,e1⟩:=L.fn;obtain⟨od3,vs,sl,e2,cf⟩:=L.lk;rw[ns_drop L.tab L.ns] at a1;cases a1;rw[lk_drop L.tab e1 (λ z=>nomatch z)] at a2;cases a2;rw[L.cd] at a3;cases a3;rw[lk_drop L.tab e2 (λ z=>cf.ne (Data.fields.inj z))] at a4;cases a4;cases a5;obtain⟨_,_,_,_,_,_,_,h,_⟩:=cf;rw[h] at a6;cases a6;rfl
theorem LamFacts.hd{c f:Addr}{fd:FuncData}(L:LamFacts K T c f fd){h:Heap}(X:(bo T K).In h):CodeHd h c T:=by
 obtain⟨od3,vs,sl,e2,cf⟩:=L.lk;exact mf (lk_drop L.tab e2 (λ z=>cf.ne (Data.fields.inj z))) cf L.ne X
theorem LamFacts.isTab{c f:Addr}{fd:FuncData}(L:LamFacts K T c f fd){h:Heap}(X:K.In h):isCodeTable h T:=by
 obtain⟨od3,vs,sl,e2,cf⟩:=L.lk;obtain⟨_,_,_,_,_,_,_,h6,_⟩:=cf;exact⟨c,_,vs,X _ _ e2,rfl,rfl,h6⟩
end
end L2
namespace L2
open PySem PySem.Spec PyProof.Rows
section
variable {K:Frag} {n:Nat} {m:List Nat}
end
section
variable {X:Cx}
end
def cF(fg:FG)(ft:FT)(fe:FE)(P:List FV->FSt->Prop):List D->List FV->FSt->Prop
 |[],ps,ρ=>P ps ρ
 | d::ds,ps,ρ=>fg d ρ λ ρ1=>ft ρ1 λ b ρ2=>br b (fe ρ2 λ r ρ3=>match r with
  | .ov (.ot qs)=>(match iB qs with
   |some (xs,a,es)=>ps.length<sizeLine/\cF fg ft fe P ds (ps++[.tl xs a es]) ρ3
   |none=>False)
  |_=>False) (cF fg ft fe P ds ps ρ2)
@[irreducible] def jb(fg:FG)(ft:FT)(fe:FE)(P:List FV->FSt->Prop)(ds:List D)(ps:List FV)(ρ:FSt):Prop:=cF fg ft fe P ds ps ρ
theorem gW(fg:FG)(ft:FT)(fe:FE)(P:List FV->FSt->Prop)(ds:List D):jb fg ft fe P ds=cF fg ft fe P ds:=by funext as ρ;unfold jb;rfl
theorem mh{fg:FG}{ft:FT}{fe:FE}{P:List FV->FSt->Prop}{ds:List D}{ps0:List FV}{ρ:FSt}(I:Nat->List FV->FSt->Prop)(h0:I 0 ps0 ρ)
  (hs:∀ (i:Nat) (d:D) (ps:List FV) (ρ:FSt) (R:List FV->FSt->Prop),ds[i]?=some d->I i ps ρ->(∀ ps' ρ',I (i+1) ps' ρ'->R ps' ρ') ->
   fg d ρ λ ρ1=>ft ρ1 λ b ρ2=>br b (fe ρ2 λ r ρ3=>match r with
    | .ov (.ot qs)=>(match iB qs with
     |some (xs,a,es)=>ps.length<sizeLine/\R (ps++[.tl xs a es]) ρ3
     |none=>False)
    |_=>False) (R ps ρ2))
  (hd:∀ ps ρ,I ds.length ps ρ->P ps ρ):jb fg ft fe P ds ps0 ρ:=by
 rw[gW]
 have main:∀ (k i:Nat) (ps:List FV) (ρ:FSt),i+k=ds.length->I i ps ρ->cF fg ft fe P (ds.drop i) ps ρ:=by
  intro k
  induction k with
  | zero=>
   intro i ps ρ e h;have:i=ds.length:=by nofun
   subst this;rw[aaZ];exact hd ps ρ h
  | succ k ih=>
   intro i ps ρ e h;have hi:i<ds.length:=by nofun
   rw[aar hi];exact hs i ds[i] ps ρ _ (abA hi) h λ ps' ρ' h'=>ih (i+1) ps' ρ' (by nofun) h'
 have:=main ds.length 0 ps0 ρ (by nofun) h0
 rwa [aaO] at this
def pL(_:List Nat)(no:Nat)(fi:FI)(fg:FG)(ft:FT)(fe:FE):FE:=λ ρ Q=>fi ρ λ ds ρ1=>eY (List.replicate no none++ρ1) (jb fg ft fe (λ ps ρ'=>Q (.ov (.ol ps)) (ρ'.drop no)) ds [])
section
variable {K:Frag} {μ:List Nat}
abbrev wQ(K:Frag)(fg:FG)(ft:FT)(fe:FE)(P:RV->FSt->Prop)(no:Nat)(m:List Nat)(F1 Z:Hp)(σ:St)(a:Addr)(rest:List D)(acc:List V)(τ':St)(H':Hp):Prop:=
 ∃ F' ρ' A' σ' ps B,Same F1 F'/\Rel K F' Z H' σ' ρ' A'/\View m τ' σ'/\(∀ i,no<=i->σ'[i]?=(List.replicate no none++σ)[i]?)/\H' a=some (.lst acc)/\Fws K F' H' acc ps B/\Fresh F' Z A' (a::B) /\
   cF fg ft fe (λ ps ρ'=>P (.ov (.ol ps)) (ρ'.drop no)) rest ps ρ'
theorem oP{no:Nat}{ixs:List Nat}{wi:TI}{fi:FI}{g:TG}{fg:FG}{T:List Nat}{tc:TT}{ft:FT}{te:TE}{fe:FE}(hi:ITF K μ wi fi)(hg:GF K (muC no ixs μ) T g fg)(hT:∀ i∈T,i<no)(hix:∀ j∈ixs,j<μ.length)
  (hc:TF K (muC no ixs μ) tc ft) (he:EF K (muC no ixs μ) te fe):EF K μ (ik no ixs wi g tc te) (pL ixs no fi fg ft fe):=⟨by
 intro F Z H τ σ ρ A Q P vw R h q;refine hi.h vw R h λ ds ρ1 J F1 H1 A1 h1 s1 R1 wk=>?_;rw[bB,gW] at h1;intro a ha;have hF1:F1 a=none:=R1.fh.free ha;have hZ1:Z a=none:=R1.zh.free ha
 have hA1:a∉A1:=λ z=>by
  obtain⟨u,hu⟩:=R1.sl.live a z;rw[ha] at hu;cases hu
 have R1':Rel K F1 Z (upd H1 a (.lst [])) (List.replicate no none++σ) (List.replicate no none++ρ1) A1:=by
  have:=R1.write (o:=.lst []) hA1 hF1 hZ1;exact⟨this.sl.none_app no,this.nd,this.fr,this.fh,this.zh,this.dj⟩
 refine⟨λ i k acc τ' H'=>k=ds.length - i/\i<=ds.length/\wQ K fg ft fe P no (muC no ixs μ) F1 Z σ a (ds.drop i) acc τ' H',
  ⟨_,rfl,aaI _,F1,_,A1,_,[],[],Same.refl _,R1',gE vw hix,λ _ _=>rfl,ag,.nil,⟨by simp,λ b hb=>by
   have:b=a:=(by exists hb);subst this;exact⟨hF1,hZ1,hA1⟩⟩,by rw[aaO];exact h1⟩,?_⟩
 rintro i k acc τ' H' ⟨rfl,hle,F',ρ',A',σ',ps,B,s',R',vw',kp,hD,hW,fr,h'⟩;by_cases hlt:i<ds.length
 ·rw[aar hlt] at h';refine .inr ⟨wk.go H' i (s'.trans R'.fh) hlt,λ acc τ' H'=>wQ K fg ft fe P no (muC no ixs μ) F1 Z σ a (ds.drop (i+1)) acc τ' H',λ acc' σ2 H2 z=>⟨_,by nofun,rfl,hlt,z⟩,λ x H2 y=>?_⟩;obtain⟨rfl,d,hd,dx⟩:=wk.yld H' i x H2 (s'.trans R'.fh) hlt y;rw[abA hlt] at hd;cases hd;refine hg.h vw' R' (dx.mono s') h' fun τ2 σ2 ρ2 A2 p2 vw2 R2 k2 kl2 _ m2=>?_
  have kp2:∀ i,no<=i->σ2[i]?=(List.replicate no none++σ)[i]?:=λ i hi=>by
   rw[k2 i λ z=>by have:=hT i z;nofun];exact kp i hi
  have fD:Fresh F' Z A2 (a::B):=⟨fr.nd,λ b hb=>⟨(fr.fr b hb).1,(fr.fr b hb).2.1,λ z=>(fr.fr b hb).2.2 (m2 _ z)⟩⟩
  obtain⟨Z',sz,R2',zl,back⟩:=R2.hold (B:=a::B) (λ b hb=>by
   rcases abG.mp hb with z|z
   ·exact z ▸ ⟨_,hD⟩
   ·exact hW.live b z) (.one hD (λ _ z=>nomatch z) hW.nt) fD
  refine hc.h vw2 R2' p2 λ b ρ3 F3 H3 A3 p3 s3 R3=>?_
  cases b with
  | false=>
   replace p3:=rL p3;rw[if_neg abB];obtain⟨R3',f3,k3⟩:=back _ _ _ _ s3 R3;exact⟨F3,ρ3,A3,σ2,ps,B,s'.trans s3,R3',vw2,kp2,k3 a _ (aac ..) hD,hW.keep s3 λ y u hy hu=>k3 y u (aag _ hy) hu,f3,p3⟩
  | true=>
   replace p3:=rK p3;rw[if_pos rfl];refine he.h vw2 R3 p3 λ r ρ4 v F4 H4 A4 B4 p4 s4 R4 v4 f4=>?_;split at p4
   ·rename_i qs;split at p4
    ·rename_i xs b es er
     cases v4 with
     | @ot t vs _ _ hF hw=>
      obtain⟨ys,zs,rfl,d1,hb,d2,rfl⟩:=hw.row er;obtain⟨R5,f5,k5⟩:=back _ _ _ _ (s3.trans s4) R4;have fa:=f5.fr a (aac ..);obtain⟨na,nB⟩:=abS.mp f5.nd;have fb:=f4.fr b (abF.mpr rfl)
      have hbn:b∉a::B:=λ z=>by
       obtain⟨u,hu⟩:=zl b z;rw[fb.2.1] at hu;cases hu
      have hab:b≠a:=λ z=>hbn (z ▸ aac ..);have hlen:=hW.length
      have W4:Fws K F4 (upd H4 a (.lst (acc++[.ref t]))) acc ps B:=hW.keep (s3.trans s4) λ y u hy hu=>by
       rw[ah (show y≠a from λ z=>na (z ▸ hy))];exact k5 y u (aag _ hy) hu
      have W6:=W4.snocR (.tl hF d1 (by rw[ah hab];exact hb) d2);refine⟨k5 a _ (aac ..) hD,by rw[hlen];exact p4.1,F4,ρ4,A4,σ2,_,B++[b],(s'.trans s3).trans s4,R5.write fa.2.2 fa.1 hZ1,vw2,kp2,ag,W6,⟨abS.mpr ⟨λ z=>?_,abX.mpr ⟨nB,by simp,λ x hx y hy z=>hbn (aag _ (by rw[← List.mem_singleton.mp hy,← z];exact hx))⟩⟩,λ y hy=>?_⟩,p4.2⟩
      ·rcases abx.mp z with w|w
       ·exact na w
       ·exact hab (abF.mp w).symm
      ·rcases abG.mp hy with w|w
       ·exact w ▸ fa
       ·rcases abx.mp w with w|w
        ·exact f5.fr y (aag _ w)
        ·have:y=b:=(by exists w);subst this;exact⟨fb.1,sz.free fb.2.1,fb.2.2⟩
    ·exact p4.elim
   ·exact p4.elim
 ·have e:i=ds.length:=by nofun
  subst e;rw[aaZ] at h';refine .inl ⟨wk.stop H' (s'.trans R'.fh),?_⟩;obtain⟨A2,B2,e2,sl2⟩:=R'.sl.dropN no
  have es:σ'.drop no=σ:=by
   apply ab2;intro i;rw[ab1,kp (no+i) (by nofun),abJ (by simp),aaQ,aaW]
  rw[es] at sl2;have m2:∀ b∈A2,b∈A':=λ b hb=>by rw[e2];exact abx.mpr (.inr hb)
  have R2:Rel K F' Z H' σ (ρ'.drop no) A2:=⟨sl2,by have:=R'.nd;rw[e2,abX] at this;exact this.2.1,λ b hb=>R'.fr b (m2 b hb),R'.fh,R'.zh,R'.dj⟩;exact q _ _ _ _ _ _ _ h' (s1.trans s') R2 (.ol hD hW) ⟨fr.nd,λ b hb=>⟨(fr.fr b hb).1,(fr.fr b hb).2.1,λ z=>(fr.fr b hb).2.2 (m2 _ z)⟩⟩⟩
end
end L2
local macro_rules|`(tactic|delta $c:ident) => `(tactic|(intro os P h;first|(induction h;exact L2.lo_of rfl rfl)|(unfold $c at h;first|exact L2.ex1 h fun _ e => L2.lq e (L2.lo_of rfl rfl)|exact L2.ex2 h fun _ _ e => L2.lq e (L2.lo_of rfl rfl)|exact L2.ex3 h fun _ _ _ e => L2.lq e (L2.lo_of rfl rfl)|exact L2.ex4 h fun _ _ _ _ e => L2.lq e (L2.lo_of rfl rfl)|exact L2.ex5 h fun _ _ _ _ _ e => L2.lq e (L2.lo_of rfl rfl)|exact L2.ex6 h fun _ _ _ _ _ _ e => L2.lq e (L2.lo_of rfl rfl)|exact L2.ex7 h fun _ _ _ _ _ _ _ e => L2.lq e (L2.lo_of rfl rfl)|exact L2.ex8 h fun _ _ _ _ _ _ _ _ e => L2.lq e (L2.lo_of rfl rfl)|exact L2.ex9 h fun _ _ _ _ _ _ _ _ _ e => L2.lq e (L2.lo_of rfl rfl)|exact L2.ex10 h fun _ _ _ _ _ _ _ _ _ _ e => L2.lq e (L2.lo_of rfl rfl)|exact L2.ex11 h fun _ _ _ _ _ _ _ _ _ _ _ e => L2.lq e (L2.lo_of rfl rfl)|exact L2.ex12 h fun _ _ _ _ _ _ _ _ _ _ _ _ e => L2.lq e (L2.lo_of rfl rfl)|exact L2.ex13 h fun _ _ _ _ _ _ _ _ _ _ _ _ _ e => L2.lq e (L2.lo_of rfl rfl)|((repeat (obtain ⟨x,h⟩ := h));all_goals (subst_vars;exact L2.lo_of rfl rfl)))))
namespace KR
open PySem L2
def top(i:Nat):Stmt:=PySem.Challenge.pw_keptreading_k25_rows_behind_a_rule.main.body.getD i (.Pass ⟨0,0,0,0⟩)
structure Txt(K:Frag)(mg:Str->Option Value):Prop where
 n_len:mg "len" = none
 n_max:mg "max" = none
 n_min:mg "min" = none
 n_isinstance:mg "isinstance" = none
 n_sorted:mg "sorted" = none
 n_range:mg "range" = none
 n_bool:mg "bool" = none
 n_int:mg "int" = none
 n_list:mg "list" = none
 n_tuple:mg "tuple" = none
 n_set:mg "set" = none
abbrev dM(b0 b1 b2:Int):OV:=.fl [.int b0,.int b1,.int b2]
def BagB(b1 b2 n:Int):Prop:=0<=b1/\b1<2 ^ 200/\0<=b2/\b2<=n
theorem BagB.mono{b1 b2 m n:Int}(h:BagB b1 b2 m)(e:m<=n):BagB b1 b2 n:=⟨h.1,h.2.1,h.2.2.1,Int.le_trans h.2.2.2 e⟩
theorem lez(n:Nat)(h:autoParam (n<=16777216) L2.aD._auto_1):n<=sizeLine:=by rw[sizeLine_eq];exact h
inductive aT:Ct
 |mk {ns:List Int} {k:Nat} {P:Pk} (h:∀ z:Int,P (.fz (.int z)) [.fz (.lst (ns.map .int)),.fz (.int k)]):aT [.fz (.lst (ns.map .int)),.fz (.int k)] P
inductive bT:Ct
 |mk {z:Int} {P:Pk} (h:∀ b0 b1 b2,BagB b1 b2 0->P (dM b0 b1 b2) [.fz (.int z)]):bT [.fz (.int z)] P
@[irreducible] def ab:Ct:=λ os P=>∃ (b0 b1 b2 m n:Int),os=[dM b0 b1 b2,.fz (.int m)]/\BagB b1 b2 n/\n<2 ^ 40/\0<m/\m<2 ^ 250/\∀ r b0' b1' b2',0<=r->r<m->BagB b1' b2' (n+1)->P (.fz (.int r)) [dM b0' b1' b2',.fz (.int m)]
section
variable {P:Program} {w:World} {K:Frag} {mg:Str->Option Value} {base:Heap}
abbrev pM:Stmt:=top 5
abbrev wR:FS:=
  (bf (fIf (b6 (fOp (yz (λ i j=>decide (i<j)) e8) (af 1) (fCB wx (aa (af 0) aE))))
   (dg (fOp aIx (af 0) (af 1)))
   cN)
  (dg (fC (.int 0))))
abbrev wU:Stmt:=top 6
abbrev yQ:FS:=
  (dg (fL (aa (fCB yB (aa (fC (.int 1)) (aa (fOp (aI0 λ i j=>.int (i - j)) (af 0) (fOp (aIC mM λ i j=>.int (i ^ j.toNat)) (fC (.int 10)) (fC (.int 18)))) aE))) (aa (fOp (aIC (λ _ j=>0<j) λ i j=>.int (i % j)) (af 0) (fOp dm (fOp (aIC mM λ i j=>.int (i ^ j.toNat)) (fC (.int 10)) (fC (.int 40))) (fC (.int 121)))) (aa (fC (.int 0)) aE)))))
abbrev pN:Stmt:=top 7
abbrev wV:FS:=
  (bf (fIf (b6 (fOp (yz (λ i j=>decide (j<i)) λ i j=>e8 j i) (fOp aIx (af 0) (fC (.int 0))) (fC (.int 1))))
   (bf (dL (fOp (aIC (λ _ j=>0<j) λ i j=>.int (i % j)) (fOp aIx (af 0) (fC (.int 0))) (af 1)) (ai 2))
  (bf (lw 0 (fOp (aIC ma λ i j=>.int (i / j)) (fOp aIx (af 0) (fC (.int 0))) (af 1)) (fC (.int 0)))
  (dg (af 2))))
   cN)
  (bf (lw 0 (fOp dm (fOp aIx (af 0) (fC (.int 2))) (fC (.int 1))) (fC (.int 2)))
  (bf (dL (fOp (aIC (λ _ j=>0<j) λ i j=>.int (i % j)) (fOp (aIC l0 λ i j=>.int (i ^ j.toNat)) (fOp dm (fOp aIx (af 0) (fC (.int 1))) (fOp (aIC CMul λ i j=>.int (i*j)) (fOp aIx (af 0) (fC (.int 2))) (fC (.int 982451653)))) (fC (.int 5))) (fOp dm (fOp (aIC mM λ i j=>.int (i ^ j.toNat)) (fC (.int 10)) (fC (.int 39))) (fC (.int 3)))) (ai 2))
  (bf (dL (fOp (aIC (λ _ j=>0<j) λ i j=>.int (i % j)) (fOp (aIC kA λ i j=>.int (i ^ j.toNat)) (fOp dm (af 2) (fOp (aIC CMul λ i j=>.int (i*j)) (fOp aIx (af 0) (fC (.int 2))) (fC (.int 15485863)))) (fC (.int 3))) (fOp dm (fOp (aIC mM λ i j=>.int (i ^ j.toNat)) (fC (.int 10)) (fC (.int 36))) (fC (.int 67)))) (ai 2))
  (dg (fOp (aIC (λ _ j=>0<j) λ i j=>.int (i % j)) (fOp (aIC qh λ i j=>.int (i / j)) (af 2) (fC (.int 1024))) (af 1)))))))
theorem wW:Hh aT wR [] 2:=by
 intro os P h;obtain @⟨ns,k,_,q⟩:=h;ext;refine dR ?_;ext;refine nN ((k:Int)<(ns.map D.int).length) (by simp) (λ hk=>?_) (λ _=>?_)
 ·ext;have hk':k<ns.length:=by rw[abw] at hk;nofun
  have e:atI (ns.map D.int) (k:Int)=some (.int ns[k]):=ki (by simp[hk'])
  show match atI (ns.map D.int) (k:Int) with
   |some d=>_
   |none=>False
  rw[e];exact q _
 ·ext;exact q _
theorem yR:Hh bT yQ [] 1:=by
 intro os P h;obtain @⟨z,_,q⟩:=h;ext;refine⟨⟨by decide,by decide,by decide⟩,?_⟩;ext;refine⟨⟨by decide,by decide,by decide⟩,?_⟩;ext;refine⟨(by decide:(0:Int)<10 ^ 40+121),?_⟩;ext;refine⟨by show 3<=sizeLine;decide,?_⟩;ext;refine q _ _ _ ⟨aaS _ (by decide),Int.lt_trans (aaJ _ (by decide)) (by decide),by nofun,by nofun⟩
theorem jc{x:Int}(h0:0<=x)(h:x<2 ^ 300):x.natAbs<2 ^ 1000:=by
 have:(2:Nat) ^ 300<2 ^ 1000:=by decide +kernel
 nofun
theorem wX:Hh ab wV [0] 3:=by
 intro os P h;unfold ab at h;refine ex5 h ?_;clear h;rintro b0 b1 b2 m n ⟨rfl,⟨h1,h1',h2,h2'⟩,hn,hm,hm',q⟩;have big:(2:Int) ^ 250<2 ^ 1000:=by decide +kernel
 ext;refine dR ?_;ext;refine nN (b0 > 1) (by simp) (λ hk=>?_) (λ hk=>?_)
 ·ext;refine⟨hm,?_⟩;ext;refine⟨⟨hm,Int.lt_trans hm' big⟩,?_⟩;ext;refine⟨rfl,?_⟩;ext;exact q _ _ _ _ (aaS _ (by nofun)) (aaJ _ hm) ⟨h1,h1',h2,by nofun⟩
 ·ext;refine⟨rfl,?_⟩;ext;refine⟨.inr ⟨by decide,by decide⟩,?_⟩;ext;refine⟨⟨by decide,by decide,jc (x:=b1+(b2+1)*982451653) (by nofun) (by nofun)⟩,?_⟩;ext;refine⟨⟨by decide,by decide,by decide⟩,?_⟩;ext;refine⟨(by decide:(0:Int)<10 ^ (39:Int).toNat+3),?_⟩;have hx0:0<=(b1+(b2+1)*982451653) ^ (5:Int).toNat % (10 ^ (39:Int).toNat+3):=aaS _ (by decide);have hx1:(b1+(b2+1)*982451653) ^ (5:Int).toNat % (10 ^ (39:Int).toNat+3)<2 ^ 200:=Int.lt_trans (aaJ _ (by decide)) (by decide)
  have fit:((b1+(b2+1)*982451653) ^ (5:Int).toNat % (10 ^ (39:Int).toNat+3)+(b2+1)*15485863).natAbs<2 ^ 1000:=by
   generalize (b1+(b2+1)*982451653) ^ (5:Int).toNat % (10 ^ (39:Int).toNat+3)=x at hx0 hx1;exact jc (by nofun) (by nofun)
  ext;refine⟨.inr ⟨by decide,by decide⟩,?_⟩;ext;refine⟨⟨by decide,by decide,fit⟩,?_⟩;ext;refine⟨⟨by decide,by decide,by decide⟩,?_⟩;ext;refine⟨(by decide:(0:Int)<10 ^ (36:Int).toNat+67),?_⟩;ext;refine⟨⟨by decide,by decide⟩,?_⟩;ext;refine⟨hm,?_⟩;ext;exact q _ _ _ _ (aaS _ (by nofun)) (aaJ _ hm) ⟨h1,h1',by nofun,by nofun⟩
theorem aC{b0 b1 b2 m:Int}(n:Int){P:Pk}(hb:BagB b1 b2 n)(hn:n<2 ^ 40)(hm:0<m)(hm':m<2 ^ 250)(h:∀ r b0' b1' b2',0<=r->r<m->BagB b1' b2' (n+1)->P (.fz (.int r)) [dM b0' b1' b2',.fz (.int m)]) :
  ab [dM b0 b1 b2,.fz (.int m)] P:=by
 unfold ab;exact⟨b0,b1,b2,m,n,rfl,hb,hn,hm,hm',h⟩
end
structure Rwk where
 n:Int
 nm:Str
 pl:Int
 ln:Option Int
 rc:Int
 ls:List Str
def oD:Option Int->D
 |none=>.non
 |some i=>.int i
abbrev ca(r:Rwk):D:=.tup [.int r.n,.str r.nm,.int r.pl,oD r.ln,.int r.rc,.lst (r.ls.map .str)]
abbrev tlR(a:Addr)(r:Rwk):FV:=.tl [.int r.n,.str r.nm,.int r.pl,oD r.ln,.int r.rc] a (r.ls.map .str)
def aX(rows:List Rwk)(z:Str):List Rwk:=rows.filter λ r=>!r.ls.contains z
inductive cq:Ct
 |mk {r:Rwk} {p:Int} {P:Pk} (h1:r.ls.length<=1000) (h:∀ a:Addr,P (.ot [.fz (.int r.n),.fz (.str r.nm),.fz (.int p),.fz (oD r.ln),.fz (.int r.rc),.fl a (r.ls.map .str)]) [.fz (ca r),.fz (.int p)]):cq [.fz (ca r),.fz (.int p)] P
@[irreducible] def aw:Ct:=λ os P=>∃ (rows:List Rwk) (z:Str),os=[.fz (.lst (rows.map ca)),.fz (.str z)]/\rows.length<=100000/\(rows.map (·.n)).Nodup/\(∀ r∈rows,r.ls.length<=1000) /\
 ∀ qs:List (Addr×Rwk),(qs.map (·.2)).Perm (aX rows z)->((qs.map (·.2)).map (·.n)).Pairwise (·<·)->P (.ol (qs.map λ q=>tlR q.1 q.2)) os
section
variable {P:Program} {w:World} {K:Frag} {mg:Str->Option Value} {base:Heap}
abbrev mi:Stmt:=top 2
abbrev jd:Stmt:=top 1
abbrev oQ:FS:=
  (dg (wN (aa (fOp aIx (af 0) (fC (.int 0))) (aa (fOp aIx (af 0) (fC (.int 1))) (aa (af 1) (aa (fOp aIx (af 0) (fC (.int 3))) (aa (fOp aIx (af 0) (fC (.int 4))) (aa (fCB su (aa (fOp aIx (af 0) (fC (.int 5))) aE)) aE))))))))
abbrev mj:Stmt:=top 3
abbrev sX:FS:=
  (dg (aG a8 (aa (pL [1] 1 (b4 (af 0)) (ai 0) (b6 (fOp pE (af 2) (fOp aIx (af 0) (fC (.int 5))))) (aG cq (aa (fFz (af 0)) (aa (fFz (fOp aIx (af 0) (fC (.int 2)))) aE)))) aE)))
theorem oR:Hh cq oQ [] 2:=by
 intro os P h;obtain @⟨r,p,_,hl,q⟩:=h;have sz:=sizeLine_eq;ext;intro as;ext;refine⟨lez 6,?_⟩;ext;exact q _
theorem sY{Z:Zz}{f c T:Addr}{fd:FuncData}(t:TopZ Z (Txt Z.K Z.mg))(D:Df Z.K "by_number" mi f fd)(hcd:fd.code=.ref c)(hL:cP Z.K T)(hHd:∀ h:Heap,Z.K.In h->PySem.W.CodeHd h c T)(hB:∀ h:Heap,Z.K.In h->h.BuiltinsAt Z.mg T):hJ Z "by_number" 4 ["rows"] a8:=
 wJ t.X t.G D (oz D.fn (sc_of rfl rfl rfl rfl (by decide +kernel)) rfl rfl rfl hcd hL hHd hB t.T.n_sorted) λ _ _ _ _ _ _=>zB λ _=>rfl
theorem dE{rows:List Rwk}{z:Str}{i:Nat}{r:Rwk}(h:rows[i]?=some r):aX (rows.take (i+1)) z=aX (rows.take i) z++if r.ls.contains z then [] else [r]:=by
 unfold aX;rw[aaN,h,List.filter_append]
 congr 1
 show List.filter _ [r]=_;rw[List.filter_cons];cases h:r.ls.contains z <;> rfl
theorem bX{rows:List Rwk}{z:Str}:(aX rows z).length<=rows.length:=List.length_filter_le _ _
theorem eM{z:Str}(rows:List Rwk):((aX rows z).map (·.n)).Sublist (rows.map (·.n)):=List.filter_sublist.map _
theorem wY(qs:List (Addr×Rwk)):(qs.map λ q=>tlR q.1 q.2).all xD=true:=by
 rw[List.all_map,ab0];exact λ _ _=>rfl
theorem pO(qs:List (Addr×Rwk)):(qs.map λ q=>tlR q.1 q.2).map oy=(qs.map (·.2)).map (·.n):=by
 rw[aao,aao];rfl
theorem sZ(z:Str)(zs:List Str):inD (.str z) (zs.map .str)=zs.contains z:=by
 rw[abu,oe,List.contains_iff_mem]
theorem tj:Hh aw sX [] 2:=by
 intro os P h;unfold aw at h;refine ex2 h ?_;clear h;rintro rows z ⟨rfl,hl,hn,hls,q⟩;have sz:=sizeLine_eq;ext;refine mh (λ i ps ρ=>∃ (qs:List (Addr×Rwk)) (x:Option OV),qs.map (·.2)=aX (rows.take i) z/\ps=(qs.map λ q=>tlR q.1 q.2)/\ρ=[x,some (.fz (.lst (rows.map ca))),some (.fz (.str z))]) ⟨[],none,rfl,rfl,rfl⟩ ?_ ?_
 ·rintro i d ps ρ R hd ⟨qs,x,hq,rfl,rfl⟩ kk;rw[abK] at hd;obtain⟨r,hr,rfl⟩:=abM.mp hd;have hst:=dE (z:=z) hr;ext;refine⟨⟨rfl,by rw[List.all_map,ab0];exact λ _ _=>rfl⟩,?_⟩;ext;rw[sZ]
  cases hc:r.ls.contains z with
  | true=>
   rw[hc] at hst;refine jU (kk _ _ ⟨qs,_,?_,rfl,rfl⟩);rw[hst,hq];exact(aaB _).symm
  | false=>
   rw[hc] at hst;refine nM ?_;ext;refine .mk (hls r (abT hr)) λ ad=>?_;ext;refine⟨?_,kk _ _ ⟨qs++[(ad,r)],some (.fz (ca r)),?_,?_,rfl⟩⟩
   ·have h1:qs.length=(aX (rows.take i) z).length:=by rw[← hq,abw]
    have h2:=bX (rows:=rows.take i) (z:=z);rw[aap] at h2;rw[abw];nofun
   ·rw[hst,aam,hq];rfl
   ·rw[aam];rfl
 ·rintro ps ρ ⟨qs,x,hq,rfl,rfl⟩;rw[abw,aaL] at hq;ext;refine .mk (wY qs) (by rw[pO,hq];exact hn.sublist (eM rows)) λ ps' pp up=>?_;obtain⟨qs',pq,rfl⟩:=fq pp qs rfl;ext;refine q qs' ?_ (by rw[pO] at up;exact up);rw[← hq];exact pq.map _
theorem je{rows:List Rwk}{z:Str}{P:Pk}(hl:rows.length<=100000)(hn:(rows.map (·.n)).Nodup)(hls:∀ r∈rows,r.ls.length<=1000)
  (h:∀ qs:List (Addr×Rwk),(qs.map (·.2)).Perm (aX rows z)->((qs.map (·.2)).map (·.n)).Pairwise (·<·)->P (.ol (qs.map λ q=>tlR q.1 q.2)) [.fz (.lst (rows.map ca)),.fz (.str z)]):aw [.fz (.lst (rows.map ca)),.fz (.str z)] P:=by
 unfold aw;exact⟨rows,z,rfl,hl,hn,hls,h⟩
end
abbrev dF(rows:List Rwk):D:=.lst (rows.map ca)
inductive bw:Ct
 |mk {rows:List Rwk} {P:Pk} (h1:rows.length<=100000) (h2:∀ r∈rows,r.ls.length<=1000) (h:P (.fl (rows.map ca)) [.fz (dF rows)]):bw [.fz (dF rows)] P
inductive a9:Ct
 |mk {i:Int} {P:Pk} (h:P (.fz (.bl true)) [.fz (.int i)]):a9 [.fz (.int i)] P
@[irreducible] def am:Ct:=λ os P=>∃ (rows:List Rwk),os=[.fz (dF rows),.fz (dF rows)]/\rows.length<=100000/\(∀ r∈rows,r.ls.length<=1000)/\P (.fz (.bl true)) os
@[irreducible] def ba:Ct:=λ os P=>∃ (rows:List Rwk) (z:Str),os=[.fz (dF rows),.fz (.str z)]/\rows.length<=100000/\(rows.map (·.n)).Nodup/\(∀ r∈rows,r.ls.length<=1000) /\
 ∀ rs:List Rwk,rs.Perm (aX rows z)->(rs.map (·.n)).Pairwise (·<·)->P (.fl (rs.map ca)) os
section
variable {P:Program} {w:World} {K:Frag} {mg:Str->Option Value} {base:Heap}
abbrev ml:Stmt:=top 12
abbrev tm:FS:=
  (dg (cL [] 1 (b4 (af 0)) (ai 0) tT (fOp dm (fSl aSl (af 0) cB (jE (fC (.int 5)))) (xw (aa (fCB su (aa (fOp aIx (af 0) (fC (.int 5))) aE)) aE)))))
abbrev mo:Stmt:=top 14
abbrev tp:FS:=
  (dg (vH (fCB cIs (aa (af 0) (aa (fC (.ty "int")) aE))) (vI (fCB cIs (aa (af 0) (aa (fC (.ty "bool")) aE))))))
abbrev pP:Stmt:=top 15
abbrev wZ:FS:=
  (bf (fIf (fOr (rM (gL (fCB cIs (aa (af 0) (aa (fC (.ty "list")) aE))))) (b6 (fOp aNe (af 0) (af 1))))
   (dg (fC (.bl false)))
   cN)
  (bf (pC (b4 (af 0)) (ai 2)
   (bf (fIf (fOr (rM (gL (fCB cIs (aa (af 2) (aa (fC (.ty "tuple")) aE))))) (rM (gL (fCB cIs (aa (fOp aIx (af 2) (fC (.int 5))) (aa (fC (.ty "list")) aE))))))
   (dg (fC (.bl false)))
   cN)
  (fIf (fOr (b6 (fOp aNe (cL [] 1 (b4 (fL (aa (fOp aIx (af 2) (fC (.int 0))) (aa (fOp aIx (af 2) (fC (.int 2))) (aa (fOp aIx (af 2) (fC (.int 4))) aE))))) (ai 0) (rM (gL (aG a9 (aa (fFz (af 0)) aE)))) (af 0)) (fL aE))) (gL (fCB cIs (aa (fOp aIx (af 2) (fC (.int 3))) (aa (fC (.ty "bool")) aE)))))
   (dg (fC (.bl false)))
   cN)))
  (dg (fC (.bl true)))))
abbrev w6:Stmt:=top 13
abbrev yS:FS:=
  (bf (gv 2 (fL aE))
  (bf (pC (b4 (af 0)) (ai 3)
   (fIf (b6 (fOp aEq (cL [1] 1 (b4 (fOp aIx (af 3) (fC (.int 5)))) (ai 0) (b6 (fOp aEq (af 0) (af 2))) (af 0)) (fL aE)))
   (jF (xx 2 (fL (aa (fOp aIx (af 3) (fC (.int 0))) (aa (af 3) aE)))))
   cN))
  (dg (cL [] 2 (b4 (fCB gU (aa (af 2) aE))) (pJ 2 (ll (ai 0) (ll (ai 1) vV))) tT (af 1)))))
theorem dG(zs:List Str):okDs (zs.map D.str)=true:=by
 induction zs with
 |nil=>rfl
 |cons z zs ih=>exact ih
theorem b8(zs:List Str):deps (toDVs (zs.map D.str))=0:=by
 induction zs with
 |nil=>rfl
 |cons z zs ih=>exact Nat.max_eq_zero_iff.mpr ⟨rfl,ih⟩
theorem tq{zs:List Str}:dEq (.lst (zs.map D.str)) (.lst [])=true↔zs=[]:=by
 cases zs with
 |nil=>exact⟨λ _=>rfl,λ _=>rfl⟩
 |cons r rs=>exact⟨λ h=>(by cases h),λ h=>nomatch h⟩
theorem nw5:fj 6 none (some 5):=by unfold fj;decide
theorem tu:Hh bw tm [] 1:=by
 intro os P h;obtain @⟨rows,_,hl,hls,q⟩:=h;have sz:=sizeLine_eq;ext;refine bF (λ i as ρ=>as=(rows.take i).map ca/\∃ x,ρ=[x,some (.fz (dF rows))]) ⟨rfl,none,rfl⟩ ?_ ?_
 ·rintro i d as ρ R hd ⟨rfl,x,rfl⟩ k;rw[abK] at hd;obtain⟨r,hr,rfl⟩:=abM.mp hd;ext;refine nM ?_;ext;refine⟨nw5,?_⟩;ext;refine⟨lez 1,?_⟩;ext;have ec:jT [D.int r.n,D.str r.nm,D.int r.pl,oD r.ln,D.int r.rc,D.lst (List.map D.str r.ls)] none (some 5)=[D.int r.n,D.str r.nm,D.int r.pl,oD r.ln,D.int r.rc]:=rfl;rw[ec];refine⟨List.cons_ne_nil _ _,lez 6,?_⟩;ext;refine⟨by rw[abw,aap];nofun,k _ _ ⟨?_,_,rfl⟩⟩;rw[aaN,hr,aam];rfl
 ·rintro as ρ ⟨rfl,x,rfl⟩;ext;rw[abw,aaL];exact q
theorem tw:Hh a9 tp [] 1:=by
 intro os P h;obtain @⟨i,_,q⟩:=h;ext;refine⟨⟨rfl,rfl⟩,?_⟩;ext;refine nM ?_;ext;refine⟨⟨rfl,rfl⟩,?_⟩;ext;exact q
theorem yT:Hh ba yS [] 4:=by
 intro os P h;unfold ba at h;refine ex2 h ?_;clear h;rintro rows z ⟨rfl,hl,hn,hls,q⟩;have sz:=sizeLine_eq;ext;refine⟨aaI _,?_⟩;ext;refine bG (λ i ρ=>∃ (x0:Option OV),ρ=[some (.fz (dF rows)),some (.fz (.str z)),some (.fl ((aX (rows.take i) z).map λ r=>.lst [.int r.n,ca r])),x0]) ⟨none,rfl⟩ ?_ ?_
 ·rintro i d ρ R hd ⟨x0,rfl⟩ kk;rw[abK] at hd;obtain⟨r,hr,rfl⟩:=abM.mp hd;have hst:=dE (z:=z) hr;have hlen:=bX (rows:=rows.take i) (z:=z);rw[aap] at hlen;have hrl:=hls r (abT hr);ext;refine dR ?_;ext;refine bF (λ t as ρ=>as=((r.ls.take t).filter λ x=>decide (x=z)).map .str/\∃ y,ρ=[y,some (.fz (dF rows)),some (.fz (.str z)),some (.fl ((aX (rows.take i) z).map λ r=>.lst [.int r.n,ca r])),some (.fz (ca r))]) ⟨rfl,none,rfl⟩ ?_ ?_
  ·rintro t d as ρ R2 hd2 ⟨rfl,y,rfl⟩ k2;rw[abK] at hd2;obtain⟨one,ho,rfl⟩:=abM.mp hd2;ext;refine⟨⟨rfl,rfl,aaI _⟩,?_⟩;ext
   have ht:((r.ls.take (t+1)).filter λ x=>decide (x=z))=((r.ls.take t).filter λ x=>decide (x=z))++if one=z then [one] else []:=by
    rw[aaN,ho,List.filter_append]
    congr 1
    show List.filter _ [one]=_;rw[List.filter_cons];by_cases hz:one=z
    ·rw[if_pos (decide_eq_true hz),if_pos hz];rfl
    ·rw[if_neg (by simp[hz]),if_neg hz];rfl
   have hfl:((r.ls.take t).filter λ x=>decide (x=z)).length<=1000:=aat (List.length_filter_le _ _) (aat (List.length_take_le' ..) hrl);refine nN (one=z) sC (λ hz=>?_) (λ hz=>?_)
   ·rw[if_pos hz] at ht;ext;refine⟨by rw[abw];nofun,k2 _ _ ⟨?_,_,rfl⟩⟩;rw[ht,aam];rfl
   ·rw[if_neg hz,aaB] at ht;exact k2 _ _ ⟨by rw[ht],_,rfl⟩
  ·rintro as ρ ⟨rfl,y,rfl⟩;rw[abw,aaL];ext;refine⟨lez 0,?_⟩;ext;refine⟨⟨dG _,rfl,aat (Nat.succ_le_succ (Nat.le_of_eq (b8 _))) (by decide)⟩,?_⟩;ext
   have hem:((r.ls.filter λ x=>decide (x=z))=[])↔r.ls.contains z=false:=by
    rw[List.filter_eq_nil_iff,← Bool.not_eq_true,List.contains_iff_mem];exact⟨λ h hm=>h z hm (by simp),λ h x hx e=>h ((of_decide_eq_true e) ▸ hx)⟩
   refine nN _ tq (λ he=>?_) (λ he=>?_)
   ·rw[hem.mp he] at hst;ext;refine⟨rfl,?_⟩;ext;refine⟨lez 2,?_⟩;ext;refine⟨by rw[abw];nofun,?_⟩;ext;rw[hst,aam] at kk;exact kk _ ⟨_,rfl⟩
   ·have hc:r.ls.contains z=true:=by
     cases h:r.ls.contains z with
     |true=>rfl
     |false=>exact absurd (hem.mpr h) he
    rw[hc] at hst;ext;have hst:aX (rows.take (i+1)) z=aX (rows.take i) z:=hst.trans (aaB _);rw[hst] at kk;exact kk _ ⟨_,rfl⟩
 ·rintro ρ ⟨x0,rfl⟩;rw[abw,aaL];ext;refine l9 (rest:=λ r=>[ca r]) (hn.sublist (eM rows)) λ rs pr up=>?_;ext;have hrl:rs.length<=100000:=by have:=pr.length_eq;have:=bX (rows:=rows) (z:=z);nofun
  refine bF (λ i as ρ=>as=(rs.take i).map ca/\∃ y0 y1,ρ=[y0,y1,some (.fz (dF rows)),some (.fz (.str z)),some (.fl ((aX rows z).map λ r=>.lst [.int r.n,ca r])),x0]) ⟨rfl,none,none,rfl⟩ ?_ ?_
  ·rintro i d as ρ R hd ⟨rfl,y0,y1,rfl⟩ k;rw[abK] at hd;obtain⟨r,hr,rfl⟩:=abM.mp hd;ext;refine⟨rfl,?_⟩;ext;refine nM ?_;ext;refine⟨by rw[abw,aap];nofun,k _ _ ⟨?_,_,_,rfl⟩⟩;rw[aaN,hr,aam];rfl
  ·rintro as ρ ⟨rfl,y0,y1,rfl⟩;ext;rw[abw,aaL];exact q rs pr up
theorem w8{rows:List Rwk}{z:Str}{P:Pk}(h1:rows.length<=100000)(h2:(rows.map (·.n)).Nodup)(h3:∀ r∈rows,r.ls.length<=1000)
  (h:∀ rs:List Rwk,rs.Perm (aX rows z)->(rs.map (·.n)).Pairwise (·<·)->P (.fl (rs.map ca)) [.fz (dF rows),.fz (.str z)]):ba [.fz (dF rows),.fz (.str z)] P:=by
 unfold ba;exact⟨rows,z,rfl,h1,h2,h3,h⟩
end
section
variable {P:Program} {w:World} {K:Frag} {mg:Str->Option Value} {base:Heap}
theorem tz(r:Rwk):okD (ca r)=true:=by
 obtain⟨n,nm,pl,ln,rc,ls⟩:=r;have h:okDs (ls.map D.str)=true:=dG ls;have e:okD (.lst (ls.map D.str))=true:=h
 cases ln with
 |none=>exact abW.mpr ⟨e,rfl⟩
 |some i=>exact abW.mpr ⟨e,rfl⟩
theorem gX(rows:List Rwk):okDs (rows.map ca)=true:=by
 induction rows with
 |nil=>rfl
 |cons r rows ih=>exact abW.mpr ⟨tz r,ih⟩
theorem oS(r:Rwk):dep (nL (ca r))<=2:=by
 obtain⟨n,nm,pl,ln,rc,ls⟩:=r;have h:=b8 ls
 cases ln with
 |none=>simp only[nL,toDVs,dep,deps,oD,h];decide
 |some i=>simp only[nL,toDVs,dep,deps,oD,h];decide
theorem mq(rows:List Rwk):deps (toDVs (rows.map ca))<=2:=by
 induction rows with
 |nil=>exact aaI _
 |cons r rows ih=>exact Nat.max_le.mpr ⟨oS r,ih⟩
theorem dH{rows rows':List Rwk}:wn (dF rows) (dF rows'):=⟨gX rows,gX rows',aat (Nat.succ_le_succ (mq rows)) (by decide)⟩
theorem cr(d:D):dEq d d=true:=iI _
theorem dI{b:Bool}{A B:Prop}(h:b=true)(q:B):br (!b) A B:=by rw[h];exact jU q
theorem w9:Hh am wZ [] 3:=by
 intro os P h;unfold am at h;obtain⟨rows,rfl,hl,hls,q⟩:=h;have sz:=sizeLine_eq;ext;refine dR ?_;ext;refine⟨⟨rfl,rfl⟩,?_⟩;ext;refine jU ?_;ext;refine⟨dH,?_⟩;ext;refine dI (cr _) ?_;ext;refine bG (λ i ρ=>∃ x,ρ=[some (.fz (dF rows)),some (.fz (dF rows)),x]) ⟨none,rfl⟩ ?_ ?_
 ·rintro i d ρ R hd ⟨x,rfl⟩ kk;rw[abK] at hd;obtain⟨r,hr,rfl⟩:=abM.mp hd;ext;refine dR ?_;ext;refine⟨⟨rfl,rfl⟩,?_⟩;ext;refine jU ?_;ext;refine⟨⟨rfl,rfl⟩,?_⟩;ext;refine jU ((bB _ _).mpr (dR ?_));ext;refine⟨lez 3,?_⟩;ext;refine bF (λ k as ρ=>as=[]/\∃ y,ρ=[y,some (.fz (dF rows)),some (.fz (dF rows)),some (.fz (ca r))]) ⟨rfl,none,rfl⟩ ?_ ?_
  ·rintro k d as ρ R2 hd ⟨rfl,y,rfl⟩ kk2
   obtain⟨z,rfl⟩:∃ z:Int,d=.int z:=by
    match k,hd with
    |0,hd=>cases hd;exact⟨_,rfl⟩
    |1,hd=>cases hd;exact⟨_,rfl⟩
    |2,hd=>cases hd;exact⟨_,rfl⟩
    |k+3,hd=>cases hd
   ext;refine .mk ?_;ext;refine jU ?_;exact kk2 _ _ ⟨rfl,_,rfl⟩
  ·rintro as ρ ⟨rfl,y,rfl⟩;ext;refine⟨lez 0,?_⟩;ext;refine⟨⟨rfl,rfl,Nat.le_of_ble_eq_true rfl⟩,?_⟩;ext;refine dI (cr _) ?_;ext;have hnb:isT (tyD (oD r.ln)) "bool" = false:=by cases r.ln <;> rfl
   have hty:pD (tyD (oD r.ln))=true:=by cases r.ln <;> rfl
   refine⟨⟨hty,rfl⟩,?_⟩;ext;rw[hnb];refine jU ?_;exact kk _ ⟨_,rfl⟩
 ·rintro ρ ⟨x,rfl⟩;ext;exact q
theorem ms{rows:List Rwk}{P:Pk}(h1:rows.length<=100000)(h2:∀ r∈rows,r.ls.length<=1000)(h:P (.fz (.bl true)) [.fz (dF rows),.fz (dF rows)]):am [.fz (dF rows),.fz (dF rows)] P:=by
 unfold am;exact⟨rows,rfl,h1,h2,h⟩
end
abbrev abc:Str := "abcdefghijklmnopqrstuvwxyz"
theorem tD:abc.cps.toList.length=26:=by decide +kernel
inductive az:Ct
 |mk {b0 b1 b2 n:Int} {m:Nat} {P:Pk} (hb:BagB b1 b2 n) (hn:n<2 ^ 39) (hm:m<=8) (h:∀ (z:Str) (b0' b1' b2':Int),z.cps.toList.length=m->BagB b1' b2' (n+8)->P (.fz (.str z)) [dM b0' b1' b2',.fz (.int m)]):az [dM b0 b1 b2,.fz (.int m)] P
inductive bd:Ct
 |mk {b0 b1 b2:Int} (n:Int) {P:Pk} (hb:BagB b1 b2 n) (hn:n<2 ^ 38) (h:∀ (zs:List Str) (b0' b1' b2':Int),zs.length=40->BagB b1' b2' (n+200)->P (.fl (zs.map .str)) [dM b0' b1' b2']):bd [dM b0 b1 b2] P
section
variable {P:Program} {w:World} {K:Frag} {mg:Str->Option Value} {base:Heap}
abbrev gY:Stmt:=top 8
abbrev mw:FS:=
  (dg (wF (fC (.str "")) (cL [0] 1 (df (aa (af 1) aE)) (ai 0) tT (fOp aIx (fC (.str "abcdefghijklmnopqrstuvwxyz")) (aG ab (aa (af 1) (aa (fC (.int 26)) aE)))))))
abbrev mz:Stmt:=top 9
abbrev tE:FS:=
  (bf (gv 1 (fL aE))
  (bf (pC (df (aa (fC (.int 10)) aE)) (ai 2)
   (bf (dL (aG az (aa (af 0) (aa (fFz (fOp dm (fC (.int 1)) (aG ab (aa (af 0) (aa (fC (.int 8)) aE))))) aE))) (ai 3))
  (bf (dL (aG ab (aa (af 0) (aa (fFz (fCB wx (aa (af 3) aE))) aE))) (ai 4))
  (bf (dL (aG az (aa (af 0) (aa (fC (.int 1)) aE))) (ai 5))
  (jF (yH 1 (fL (aa (af 3) (aa (zv (fSl aSl (af 3) cB (jE (yG (fC (.int 1))))) (af 5)) (aa (fSl aSl (fOp dm (af 3) (af 5)) cB (jE (fC (.int 8)))) (aa (fOp dm (fOp dm (fSl aSl (af 3) cB (jE (af 4))) (af 5)) (fSl aSl (af 3) (jE (fOp dm (af 4) (fC (.int 1)))) cB)) aE)))))))))))
  (dg (af 1))))
theorem mC:Hh az mw [0] 2:=by
 intro os P h;obtain @⟨b0,b1,b2,n,m,_,hb,hn,hm,q⟩:=h;have sz:=sizeLine_eq;have hn0:0<=n:=Int.le_trans hb.2.2.1 hb.2.2.2;ext;refine⟨⟨by nofun,by nofun⟩,?_⟩;ext
 refine bF (λ i as ρ=>∃ (zs:List Str) (x:Option OV) (b0 b1 b2:Int),as=zs.map .str/\zs.length=i/\(∀ z∈zs,z.length=1)/\BagB b1 b2 (n+i) /\
   ρ=[x,some (dM b0 b1 b2),some (.fz (.int m))])
  ⟨[],none,b0,b1,b2,rfl,rfl,(λ _ h=>by cases h),hb.mono (by nofun),rfl⟩ ?_ ?_
 ·rintro i d as ρ R hd ⟨zs,x,b0,b1,b2,rfl,hl,hz,hb4,rfl⟩ k;obtain⟨hi,rfl⟩:=bt hd;ext;refine nM ?_;ext;refine aC _ hb4 (by nofun) (by decide) (by decide) λ r5 b0 b1 b2 r50 r51 hb5=>?_;ext;refine⟨by decide +kernel,?_⟩;refine sB r50 (by rw[show (Str.ofString "abcdefghijklmnopqrstuvwxyz").cps.toList.length=26 from tD];exact r51) λ d hdm=>?_;ext;refine⟨by rw[abw];nofun,k _ _ ⟨zs++[⟨#[d]⟩],some (.fz (.int (0+i))),b0,b1,b2,by rw[aam];rfl,by simp[hl],λ z hz'=>?_,hb5.mono (by nofun),rfl⟩⟩;rcases abx.mp hz' with h|h
  ·exact hz z h
  ·have:z=⟨#[d]⟩:=(by exists h);rw[this];rfl
 ·rintro as ρ ⟨zs,x,b0,b1,b2,rfl,hl,hz,hb4,rfl⟩;rw[bu] at hl hb4
  have hls:(zs.map (·.length)).sum=zs.length:=by
   have:zs.map (·.length)=zs.map λ _=>1:=aaE λ z hz'=>hz z hz';rw[this];exact eV zs
  have hg:(Builtin.Str.glued (Str.ofString "") zs).cps.toList=(zs.map λ z=>z.cps.toList).flatten:=kD zs
  have hgl:(Builtin.Str.glued (Str.ofString "") zs).cps.toList.length=zs.length:=by
   rw[hg,List.length_flatten,aao];have:zs.map (List.length ∘ λ z:Str=>z.cps.toList)=zs.map λ _=>1:=aaE λ z hz'=>by rw[← hz z hz',bi];rfl
   rw[this];exact eV zs
  ext;refine sD ⟨by rw[hls];show zs.length+zs.length*0<=_;nofun,?_⟩;ext;exact q _ _ _ _ (by rw[hgl];nofun) (hb4.mono (by nofun))
theorem b9{b0 b1 b2 n m:Int}{P:Pk}(hb:BagB b1 b2 n)(hn:n<2 ^ 39)(h0:0<=m)(hm:m<=8)(h:∀ (z:Str) (b0' b1' b2':Int),z.cps.toList.length=m.toNat->BagB b1' b2' (n+8)->P (.fz (.str z)) [dM b0' b1' b2',.fz (.int m)]):az [dM b0 b1 b2,.fz (.int m)] P:=by
 obtain⟨k,rfl⟩:=Int.eq_ofNat_of_zero_le h0;exact .mk hb hn (by nofun) λ z a b c e f=>h z a b c (by rw[e];rfl) f
theorem fI(z:Str)(lo hi:Option Int):(xB z lo hi).length<=z.length:=by
 rw[bi,bi];show (jT z.cps.toList lo hi).length<=_;unfold jT;rw[aap,aaX];nofun
theorem mD(a b:Str):(a++b).length=a.length+b.length:=by
 rw[bi,qJ,aan,← bi,← bi]
theorem tF{z:Str}{Q:Bool->Prop}(h:z.length<=sizeLine)(q:∀ k,Q k):match jV (.str z) with
  |some k=>Q k
  | none=>False:=by
 have e:jV (.str z)=some ((z.length:Int) != 0):=if_pos h;rw[e];exact q _
theorem jg{b:Bool}{A B:Prop}(ha:A)(hb:B):br b A B:=by
 cases b
 ·exact jU hb
 ·exact nM ha
theorem tG:Hh bd tE [0] 6:=by
 intro os P h;obtain @⟨b0,b1,b2,n,_,hb,hn,q⟩:=h;have sz:=sizeLine_eq;have hn0:0<=n:=Int.le_trans hb.2.2.1 hb.2.2.2;ext;refine⟨lez 0,?_⟩;ext;refine⟨⟨by decide,by decide⟩,?_⟩;ext
 refine bG (λ i ρ=>∃ (zs:List Str) (x2 x3 x4 x5:Option OV) (b0 b1 b2:Int),zs.length=4*i/\BagB b1 b2 (n+20*i) /\
   ρ=[some (dM b0 b1 b2),some (.fl (zs.map .str)),x2,x3,x4,x5]) ⟨[],none,none,none,none,b0,b1,b2,rfl,hb.mono (by nofun),rfl⟩ ?_ ?_
 ·rintro i d ρ R hd ⟨zs,x2,x3,x4,x5,b0,b1,b2,hzl,hb2,rfl⟩ kk;obtain⟨hi,rfl⟩:=bt hd;ext;refine aC _ hb2 (by nofun) (by decide) (by decide) λ d1 b0 b1 b2 d10 d11 hb3=>?_;ext;refine b9 hb3 (by nofun) (by nofun) (by nofun) λ nm b0 b1 b2 hnm hb4=>?_;ext;have hnl:nm.length<=8:=by rw[bi,hnm];nofun
  have hsl:nm.length<=sizeLine:=by nofun
  refine⟨hsl,?_⟩;ext;refine aC _ hb4 (by nofun) (by show (0:Int)<(nm.length:Int);rw[bi,hnm];nofun) (by show (nm.length:Int)<_;rw[bi,hnm];nofun) λ at' b0 b1 b2 at0 at1 hb5=>?_;ext;refine b9 hb5 (by nofun) (by decide) (by decide) λ lt b0 b1 b2 hlt hb6=>?_;ext;have hlt1:lt.length=1:=by rw[bi,hlt];rfl
  refine⟨rfl,?_⟩;ext;refine⟨hsl,?_⟩;ext;refine tF (by have:=fI nm none (some (-1));nofun) λ k=>?_;refine jg ?_ ?_
  all_goals
   ext;refine⟨by nofun,?_⟩;ext;refine⟨by rw[mD];nofun,?_⟩;ext;refine⟨hsl,?_⟩;ext;refine⟨by have:=fI nm none (some at');nofun,?_⟩;ext;refine⟨hsl,?_⟩;ext;refine⟨by have:=fI nm none (some at');have:=fI nm (some (at'+1)) none;rw[mD];nofun,?_⟩;ext;refine⟨lez 4,?_⟩;ext;refine⟨by rw[abw];show zs.length+4<=_;nofun,?_⟩;ext;refine kk _ ⟨zs++[_,_,_,_],_,_,_,_,b0,b1,b2,by rw[aan];show zs.length+4=_;nofun,hb6.mono (by nofun),by rw[aam];rfl⟩
 ·rintro ρ ⟨zs,x2,x3,x4,x5,b0,b1,b2,hzl,hb2,rfl⟩;rw[bu] at hzl hb2;ext;exact q zs b0 b1 b2 (by nofun) (hb2.mono (by nofun))
end
theorem tH:(List.range 10007).all (λ s=>s==0 || Nat.gcd s 10007==1)=true:=by decide +kernel
theorem cop{s:Nat}(h0:s≠0)(h:s<10007):Nat.gcd s 10007=1:=by
 have:=ab0.mp tH s (aca.mpr h);rw[Bool.or_eq_true,beq_iff_eq,beq_iff_eq] at this;exact this.resolve_left h0
theorem pQ{s a b:Nat}(h0:s≠0)(h:s<10007)(hab:a<=b)(hb:b<10007)(e:a*s % 10007=b*s % 10007):a=b:=by
 have d:10007 ∣ (b - a)*s:=by
  have:=Nat.sub_mod_eq_zero_of_mod_eq e.symm;rw[← Nat.sub_mul] at this;exact Nat.dvd_of_mod_eq_zero this
 have c:Nat.Coprime 10007 s:=by rw[Nat.coprime_comm];exact cop h0 h
 have d2:10007 ∣ b - a:=c.dvd_of_dvd_mul_right d;have:=Nat.eq_zero_of_dvd_of_lt d2 (by nofun);nofun
theorem jR{st:Int}(h0:0<=st)(h1:st<10006){n:Nat}(hn:n<10007):((List.range n).map λ (k:Nat)=>((k:Int)*(1+st)) % 10007).Nodup:=by
 obtain⟨s,rfl⟩:∃ s:Nat,st=s:=⟨st.toNat,by nofun⟩;rw[List.Nodup,aaR];refine List.nodup_range.imp_of_mem fun {a b} ha hb hne e=>hne ?_;have ha:=aca.mp ha;have hb:=aca.mp hb
 have e:a*(1+s) % 10007=b*(1+s) % 10007:=by
  have e:((a*(1+s) % 10007:Nat):Int)=((b*(1+s) % 10007:Nat):Int):=by push_cast;exact e
  exact Int.ofNat.inj e
 rcases Nat.le_total a b with h|h
 ·exact pQ (by nofun) (by nofun) h (by nofun) e
 ·exact(pQ (by nofun) (by nofun) h (by nofun) e.symm).symm
inductive bx:Ct
 |mk {b0 b1 b2 f:Int} {zs:List Str} (n:Int) {P:Pk} (hz:zs.length=40) (hf:f=16∨f=40) (hb:BagB b1 b2 n) (hn:n<2 ^ 38) (h:∀ (rows:List Rwk) (b0' b1' b2':Int),rows.length<=9->(rows.map (·.n)).Nodup->(∀ r∈rows,r.ls.length<=1000)->BagB b1' b2' (n+1000)->P (.fl (rows.map ca)) [dM b0' b1' b2',.fz (.lst (zs.map .str)),.fz (.int f)]):bx [dM b0 b1 b2,.fz (.lst (zs.map .str)),.fz (.int f)] P
inductive aJ:Ct
 |mk {b0 b1 b2:Int} {zs:List Str} (n:Int) {P:Pk} (hz:zs.length=40) (hb:BagB b1 b2 n) (hn:n<2 ^ 38) (h:∀ (rows:List Rwk) (b0' b1' b2':Int),rows.length<=4001->(rows.map (·.n)).Nodup->(∀ r∈rows,r.ls.length<=1000)->BagB b1' b2' (n+1000)->P (.fl (rows.map ca)) [dM b0' b1' b2',.fz (.lst (zs.map .str))]):aJ [dM b0 b1 b2,.fz (.lst (zs.map .str))] P
section
variable {P:Program} {w:World} {K:Frag} {mg:Str->Option Value} {base:Heap}
abbrev mE:Stmt:=top 10
abbrev tI:FS:=
  (bf (gv 3 (fL aE))
  (bf (dL (yG (fC (.int 1))) (ai 4))
  (bf (pC (df (aa (aG ab (aa (af 0) (aa (fC (.int 10)) aE))) aE)) (ai 5)
   (bf (dL (fOp dm (fOp dm (af 4) (fC (.int 1))) (fOp (aIC CMul λ i j=>.int (i*j)) (aG ab (aa (af 0) (aa (fC (.int 3)) aE))) (fOp aIx (fL (aa (fC (.int 1)) (aa (fOp (aIC mM λ i j=>.int (i ^ j.toNat)) (fC (.int 10)) (fC (.int 20))) aE))) (aG ab (aa (af 0) (aa (fC (.int 2)) aE)))))) (ai 4))
  (bf (dL (fOp aIx (af 1) (aG ab (aa (af 0) (aa (fFz (af 2)) aE)))) (ai 6))
  (bf (gv 7 (pH (af 6) (fC (.bl true))))
  (bf (pC (df (aa (aG ab (aa (af 0) (aa (fFz (fOp aIx (fL (aa (fC (.int 5)) (aa (fC (.int 30)) aE))) (fOp (aIC qh λ i j=>.int (i / j)) (af 2) (fC (.int 40))))) aE))) aE)) (ai 8)
   (wa 7 (fC (.bl true)) (fOp aIx (af 1) (aG ab (aa (af 0) (aa (fFz (af 2)) aE))))))
  (bf (dL (fOp aIx (fL (aa (fC .non) (aa (aG ab (aa (af 0) (aa (fFz (fOp (aIC mM λ i j=>.int (i ^ j.toNat)) (fC (.int 10)) (fC (.int 20)))) aE))) aE))) (aG ab (aa (af 0) (aa (fC (.int 2)) aE)))) (ai 9))
  (bf (dL (xw (aa (af 4) (aa (af 6) (aa (fOp dm (fOp (aIC CMul λ i j=>.int (i*j)) (af 5) (fC (.int 60))) (aG ab (aa (af 0) (aa (fC (.int 60)) aE)))) (aa (af 9) (aa (fOp dm (fC (.int 1)) (aG ab (aa (af 0) (aa (fC (.int 60)) aE)))) (aa (fCB gI (aa (af 7) aE)) aE))))))) (ai 10))
  (jF (yO 3 (aG ab (aa (af 0) (aa (fFz (fOp dm (fCB wx (aa (af 3) aE)) (fC (.int 1)))) aE))) (af 10))))))))))
  (dg (af 3)))))
abbrev pR:Stmt:=top 11
abbrev xa:FS:=
  (bf (dL (fOp dm (fC (.int 1)) (aG ab (aa (af 0) (aa (fC (.int 10006)) aE)))) (ai 2))
  (bf (gv 3 (fL aE))
  (bf (pC (df (aa (fOp dm (fC (.int 200)) (aG ab (aa (af 0) (aa (fC (.int 3801)) aE)))) aE)) (ai 4)
   (bf (dL (fm (fL (aa (fOp aIx (af 1) (fOp (aIC (λ _ j=>0<j) λ i j=>.int (i % j)) (af 4) (fC (.int 16)))) (aa (fOp aIx (af 1) (fOp (aIC (λ _ j=>0<j) λ i j=>.int (i % j)) (fOp (aIC CMul λ i j=>.int (i*j)) (af 4) (fC (.int 7))) (fC (.int 16)))) (aa (fOp aIx (af 1) (fOp (aIC (λ _ j=>0<j) λ i j=>.int (i % j)) (fOp (aIC qh λ i j=>.int (i / j)) (af 4) (fC (.int 16))) (fC (.int 16)))) aE))))) (ai 5))
  (jF (xx 3 (xw (aa (fOp (aIC (λ _ j=>0<j) λ i j=>.int (i % j)) (fOp (aIC CMul λ i j=>.int (i*j)) (af 4) (af 2)) (fC (.int 10007))) (aa (fOp aIx (af 1) (fOp (aIC (λ _ j=>0<j) λ i j=>.int (i % j)) (af 4) (fC (.int 16)))) (aa (af 4) (aa (fOp aIx (fL (aa (fC .non) (aa (fOp (aIC (λ _ j=>0<j) λ i j=>.int (i % j)) (af 4) (fC (.int 5))) aE))) (fOp (aIC (λ _ j=>0<j) λ i j=>.int (i % j)) (af 4) (fC (.int 2)))) (aa (fOp dm (fC (.int 1)) (fOp (aIC (λ _ j=>0<j) λ i j=>.int (i % j)) (af 4) (fC (.int 9)))) (aa (af 5) aE)))))))))))
  (dg (af 3)))))
theorem oT{rows:List Rwk}{r:Rwk}(t:Nat):(rows.take t++r::rows.drop t).Perm (r::rows):=by
 have:=List.perm_middle (a:=r) (l₁:=rows.take t) (l₂:=rows.drop t)
 rwa [aaz] at this
theorem bI{zs:List Str}{i:Int}{Q:D->Prop}(h0:0<=i)(h:i<zs.length)(q:∀ z:Str,Q (.str z)):match atI (zs.map D.str) i with
  |some d=>Q d
  | none=>False:=cD h0 (by rw [abw];exact h) fun d hd=>by
 obtain⟨z,_,rfl⟩:=ab3.mp hd;exact q z
theorem cz(kz:List Str)(z:Str):(KS.dedup1 kz z).length<=kz.length+1:=by
 unfold KS.dedup1;split
 ·nofun
 ·rw[aan];exact aad _
theorem tJ:Hh bx tI [0] 11:=by
 intro os P h;obtain @⟨b0,b1,b2,f,zs,n,_,hz,hf,hb,hn,q⟩:=h;have sz:=sizeLine_eq;have hn0:0<=n:=Int.le_trans hb.2.2.1 hb.2.2.2;ext;refine⟨lez 0,?_⟩;ext;refine aC n hb (by nofun) (by decide) (by decide) λ s b0 b1 b2 s0 s1 hb1=>?_;ext;refine⟨⟨by nofun,by nofun⟩,?_⟩;ext
 refine bG (λ i ρ=>∃ (rows:List Rwk) (num:Int) (x5 x6 x7 x8 x9 x10:Option OV) (b0 b1 b2:Int),rows.length<=i/\(rows.map (·.n)).Nodup/\(∀ r∈rows,r.n<=num)/\(∀ r∈rows,r.ls.length<=1000)/\BagB b1 b2 (n+1+100*i) /\
   ρ=[some (dM b0 b1 b2),some (.fz (.lst (zs.map .str))),some (.fz (.int f)),some (.fl (rows.map ca)),some (.fz (.int num)),x5,x6,x7,x8,x9,x10])
  ⟨[],-1,none,none,none,none,none,none,b0,b1,b2,aad _,aaU,(λ _ h=>nomatch h),(λ _ h=>nomatch h),hb1.mono (by nofun),rfl⟩ ?_ ?_
 ·rintro i d ρ R hd ⟨rows,num,x5,x6,x7,x8,x9,x10,b0,b1,b2,hrl,hnd,hnum,hls,hb2,rfl⟩ kk;obtain⟨hi,rfl⟩:=bt hd;ext;refine aC _ hb2 (by nofun) (by decide) (by decide) λ d1 b0 b1 b2 d10 d11 hb3=>?_;ext;refine⟨⟨by decide,by decide,by decide⟩,?_⟩;ext;refine⟨lez 2,?_⟩;ext;refine aC _ hb3 (by nofun) (by decide) (by decide) λ d2 b0 b1 b2 d20 d21 hb4=>?_;ext;refine cD d20 d21 λ dd hdd=>?_
  obtain⟨g,rfl,hg⟩:∃ g:Int,dd=.int g/\0<=g:=by
   rcases abG.mp hdd with rfl|hdd
   ·exact⟨1,rfl,by decide⟩
   ·rw[abF.mp hdd];exact⟨_,rfl,by decide⟩
  ext;refine⟨.inl ⟨by nofun,by nofun⟩,?_⟩
  have hnew:num<num+1+d1*g:=by
   have:=Int.mul_nonneg d10 hg;nofun
  ext;refine aC _ hb4 (by nofun) (by nofun) (by nofun) λ d3 b0 b1 b2 d30 d31 hb5=>?_;ext;refine bI d30 (by nofun) λ nm=>?_;ext;refine⟨lez 2,?_⟩;ext;refine⟨⟨by decide,by decide⟩,?_⟩;ext;refine cD (by nofun) (by show f / 40<2;nofun) λ dd hdd=>?_
  obtain⟨g2,rfl,hg0,hg1⟩:∃ g:Int,dd=.int g/\0<g/\g<=30:=by
   rcases abG.mp hdd with rfl|hdd
   ·exact⟨5,rfl,by decide,by decide⟩
   ·rw[abF.mp hdd];exact⟨30,rfl,by decide,by decide⟩
  ext;refine aC _ hb5 (by nofun) hg0 (by nofun) λ d4 b0 b1 b2 d40 d41 hb6=>?_;ext;refine⟨⟨by nofun,by nofun⟩,?_⟩;ext
  refine bG (λ j ρ=>∃ (kz:List Str) (vs:List D) (y8:Option OV) (b0 b1 b2:Int),kz.length<=j+1/\BagB b1 b2 (n+1+100*i+4+j) /\
   ρ=[some (dM b0 b1 b2),some (.fz (.lst (zs.map .str))),some (.fz (.int f)),some (.fl (rows.map ca)),some (.fz (.int (num+1+d1*g))),some (.fz (.int (0+i))),some (.fz (.str nm)),some (.fd (kz.map Sum.inr) vs),y8,x9,x10])
   ⟨[nm],[.bl true],x8,b0,b1,b2,aad _,hb6.mono (by nofun),rfl⟩ ?_ ?_
  ·rintro j d ρ R2 hd2 ⟨kz,vs,y8,b0,b1,b2,hkl,hb7,rfl⟩ k2;obtain⟨hj,rfl⟩:=bt hd2;have hj:(j:Int)<30:=by nofun
   ext;refine⟨rfl,?_⟩;ext;refine aC _ hb7 (by nofun) (by nofun) (by nofun) λ d5 b0 b1 b2 d50 d51 hb8=>?_;ext;refine bI d50 (by nofun) λ z2=>?_;ext;refine⟨by rw[abw];nofun,?_⟩;rw[lF];exact k2 _ ⟨_,_,_,b0,b1,b2,aat (cz kz z2) (by nofun),hb8.mono (by nofun),rfl⟩
  ·rintro ρ ⟨kz,vs,y8,b0,b1,b2,hkl,hb7,rfl⟩;rw[bu] at hkl hb7;ext;refine⟨⟨by decide,by decide,by decide⟩,?_⟩;ext;refine aC _ hb7 (by nofun) (by decide) (by decide) λ d6 b0 b1 b2 d60 d61 hb8=>?_;ext;refine⟨lez 2,?_⟩;ext;refine aC _ hb8 (by nofun) (by decide) (by decide) λ d7 b0 b1 b2 d70 d71 hb9=>?_;ext;refine cD d70 d71 λ dd hdd=>?_
   obtain⟨o,rfl⟩:∃ o:Option Int,dd=oD o:=by
    rcases abG.mp hdd with rfl|hdd
    ·exact⟨none,rfl⟩
    ·rw[abF.mp hdd];exact⟨some _,rfl⟩
   ext;refine⟨.inl ⟨by nofun,by nofun⟩,?_⟩;ext;refine aC _ hb9 (by nofun) (by decide) (by decide) λ d8 b0 b1 b2 d80 d81 hb10=>?_;ext;refine aC _ hb10 (by nofun) (by decide) (by decide) λ d9 b0 b1 b2 d90 d91 hb11=>?_;ext;refine lG (by nofun) ?_;ext;refine⟨lez 6,?_⟩;ext;refine⟨rfl,?_⟩;ext;refine aC _ hb11 (by nofun) (by rw[abw];nofun) (by rw[abw];nofun) λ t b0 b1 b2 t0 t1 hb12=>?_;rw[abw] at t1;ext;have hl:(bY kz).length<=1000:=by rw[(aZ kz).length_eq];nofun
   have pp:=oT (rows:=rows) (r:=⟨num+1+d1*g,nm,(0+i)*60+d8,o,1+d9,bY kz⟩) t.toNat;have mem:∀ r∈rows.take t.toNat++⟨num+1+d1*g,nm,(0+i)*60+d8,o,1+d9,bY kz⟩::rows.drop t.toNat,r=⟨num+1+d1*g,nm,(0+i)*60+d8,o,1+d9,bY kz⟩∨r∈rows:=λ r hr=>abG.mp (pp.mem_iff.mp hr);refine⟨⟨t0,by rw[abw];nofun,by rw[abw];nofun⟩,kk _ ⟨rows.take t.toNat++⟨num+1+d1*g,nm,(0+i)*60+d8,o,1+d9,bY kz⟩::rows.drop t.toNat,num+1+d1*g,some (.fz (.int (0+i))),some (.fz (.str nm)),some (.fd (kz.map Sum.inr) vs),y8,some (.fz (oD o)),some (.fz (ca ⟨num+1+d1*g,nm,(0+i)*60+d8,o,1+d9,bY kz⟩)),b0,b1,b2,?_,?_,λ r hr=>?_,λ r hr=>?_,hb12.mono (by nofun),?_⟩⟩
   ·rw[pp.length_eq,abL];nofun
   ·refine(pp.map _).nodup_iff.mpr ?_;rw[abC];refine abS.mpr ⟨λ hm=>?_,hnd⟩;obtain⟨r,hr,e⟩:=ab3.mp hm;have e:r.n=num+1+d1*g:=e;exact absurd (hnum r hr) (by rw[e];exact Int.not_le.mpr hnew)
   ·rcases mem r hr with rfl|hr
    ·exact Int.le_refl _
    ·exact Int.le_of_lt (Int.lt_of_le_of_lt (hnum r hr) hnew)
   ·rcases mem r hr with rfl|hr
    ·exact hl
    ·exact hls r hr
   ·rw[aam,abC,List.map_take,List.map_drop];rfl
 ·rintro ρ ⟨rows,num,x5,x6,x7,x8,x9,x10,b0,b1,b2,hrl,hnd,hnum,hls,hb2,rfl⟩;rw[bu] at hrl hb2;ext;exact q rows b0 b1 b2 (by nofun) hnd hls (hb2.mono (by nofun))
theorem xb:Hh aJ xa [0] 6:=by
  intro os P h;obtain @⟨b0,b1,b2,zs,n,_,hz,hb,hn,q⟩:=h;have sz:=sizeLine_eq;have hn0:0<=n:=Int.le_trans hb.2.2.1 hb.2.2.2;ext;refine aC n hb (by nofun) (by decide) (by decide) λ st b0 b1 b2 st0 st1 hb1=>?_;ext;refine⟨lez 0,?_⟩;ext;refine aC _ hb1 (by nofun) (by decide) (by decide) λ mm b0 b1 b2 m0 m1 hb3=>?_;ext;refine⟨⟨by nofun,by nofun⟩,?_⟩;ext
  refine bG (λ i ρ=>∃ (rows:List Rwk) (x4 x5:Option OV),rows.map (·.n)=(List.range i).map (λ (k:Nat)=>((k:Int)*(1+st)) % 10007)/\rows.length=i/\(∀ r∈rows,r.ls.length<=1000) /\
        ρ=[some (dM b0 b1 b2),some (.fz (.lst (zs.map .str))),some (.fz (.int (1+st))),some (.fl (rows.map ca)),x4,x5])
      ⟨[],none,none,rfl,rfl,(λ _ h=>nomatch h),rfl⟩ ?_ ?_
  · rintro i d ρ R hd ⟨rows,x4,x5,hrn,hrl,hls,rfl⟩ kk
    obtain⟨hi,rfl⟩:=bt hd;ext;refine⟨(by decide:(0:Int)<16),?_⟩;ext;refine bI (aaS _ (by decide)) (by have:=aaJ (0+(i:Int)) (by decide:(0:Int)<16);nofun) λ z1=>?_;ext;refine⟨.inl ⟨by nofun,by nofun⟩,?_⟩;ext;refine⟨(by decide:(0:Int)<16),?_⟩;ext;refine bI (aaS _ (by decide)) (by have:=aaJ ((0+(i:Int))*7) (by decide:(0:Int)<16);nofun) λ z2=>?_;ext;refine⟨⟨by decide,by decide⟩,?_⟩;ext;refine⟨(by decide:(0:Int)<16),?_⟩;ext;refine bI (aaS _ (by decide)) (by have:=aaJ ((0+(i:Int)) / 16) (by decide:(0:Int)<16);nofun) λ z3=>?_;ext;refine⟨lez 3,?_⟩;ext;have hsl:=og [z1,z2,z3];have hsl:(g0 [z1,z2,z3]).length<=3:=hsl;refine⟨⟨by show 3+1<4096;decide,by show (g0 [z1,z2,z3]).length<64;nofun⟩,?_⟩;ext;refine⟨rfl,?_⟩;ext;refine⟨.inl ⟨by nofun,by nofun⟩,?_⟩;ext;refine⟨(by decide:(0:Int)<10007),?_⟩;ext;refine⟨(by decide:(0:Int)<16),?_⟩;ext;refine bI (aaS _ (by decide)) (by have:=aaJ (0+(i:Int)) (by decide:(0:Int)<16);nofun) λ z=>?_;ext;refine⟨(by decide:(0:Int)<5),?_⟩;ext;refine⟨lez 2,?_⟩;ext;refine⟨(by decide:(0:Int)<2),?_⟩;ext;refine cD (aaS _ (by decide)) (aaJ _ (by decide)) λ dd hdd=>?_
    obtain⟨o,rfl⟩:∃ o:Option Int,dd=oD o:=by
      rcases abG.mp hdd with rfl|hdd
      · exact⟨none,rfl⟩
      · rw[abF.mp hdd];exact⟨some _,rfl⟩
    ext;refine⟨(by decide:(0:Int)<9),?_⟩;ext;refine⟨lez 6,?_⟩;ext;refine⟨by rw[abw];nofun,kk _ ⟨rows++[⟨((0+(i:Int))*(1+st)) % 10007,z,0+(i:Int),o,1+(0+(i:Int)) % 9,g0 [z1,z2,z3]⟩],some (.fz (.int (0+(i:Int)))),some (.fz (.lst ((g0 [z1,z2,z3]).map .str))),?_,by simp[hrl],λ r hr=>?_,?_⟩⟩
    · rw[aam,hrn,List.range_succ,aam]
      show _++[((0+(i:Int))*(1+st)) % 10007]=_;rw[Int.zero_add];rfl
    · rcases abx.mp hr with hr|hr
      · exact hls r hr
      · rw[abF.mp hr];show (g0 [z1,z2,z3]).length<=1000;nofun
    · rw[aam];rfl
  · rintro ρ ⟨rows,x4,x5,hrn,hrl,hls,rfl⟩
    rw[bu] at hrn hrl;ext;exact q rows b0 b1 b2 (by nofun) (by rw[hrn];exact jR st0 st1 (by nofun)) hls (hb3.mono (by nofun))
end
@[irreducible] def jS:Ct:=λ os P=>∃ (ns:List Int),os=[.fz (.lst (ns.map .int))]/\ns.length<=63/\P (.fz (.bl true)) os
section
variable {P:Program} {w:World} {K:Frag} {mg:Str->Option Value} {base:Heap}
abbrev xc:Stmt:=top 16
abbrev yU:FS:=
  (bf (pC (df (aa (fCB yB (aa (fC (.int 1)) (aa (fCB zq (aa (fC (.int 20)) (aa (fCB wx (aa (af 0) aE)) aE))) aE))) aE)) (ai 1)
   (bf (gv 2 (aG bT (aa (fFz (aG aT (aa (fFz (af 0)) (aa (fFz (af 1)) aE)))) aE)))
  (bf (dL (aG bd (aa (af 2) aE)) (ai 3))
  (bf (dL (fOp aIx (fL (aa (fC (.int 16)) (aa (fC (.int 16)) (aa (fC (.int 16)) (aa (fC (.int 40)) aE))))) (aG ab (aa (af 2) (aa (fC (.int 4)) aE)))) (ai 4))
  (bf (dL (aG bx (aa (af 2) (aa (fFz (af 3)) (aa (fFz (af 4)) aE)))) (ai 5))
  (bf (dL (fOp aIx (af 3) (aG ab (aa (af 2) (aa (fFz (af 4)) aE)))) (ai 6))
  (bf (fIf (zo (b6 (fOp aEq (af 1) (fC (.int 0)))) (b6 (fOp aEq (af 4) (fC (.int 40)))))
   (dL (aG aJ (aa (af 2) (aa (fFz (af 3)) aE))) (ai 5))
   cN)
  (bf (fIf (b6 (fOp aEq (aG ab (aa (af 2) (aa (fC (.int 5)) aE))) (fC (.int 0))))
   (dL (aG az (aa (af 2) (aa (fFz (fOp dm (fC (.int 1)) (aG ab (aa (af 2) (aa (fC (.int 8)) aE))))) aE))) (ai 6))
   cN)
  (bf (dL (aG ba (aa (fFz (af 5)) (aa (fFz (af 6)) aE))) (ai 7))
  (bf (dL (aG bw (aa (fFz (af 5)) aE)) (ai 8))
  (bf (gv 9 (aG aw (aa (fFz (af 8)) (aa (fFz (af 6)) aE))))
  (bf (fIf (i6 (fOr (rM (gL (aG am (aa (fFz (af 9)) (aa (fFz (af 7)) aE))))) (b6 (fOp aNe (af 8) (af 5)))))
   (dg (fC (.bl false)))
   cN)
  (bf (fF 10 9 5 "zz")
  (bf (fIf (i6 (b6 (fOp aNe (cL [] 1 (b4 (af 9)) (ai 0) tT (fOp aIx (af 0) (fC (.int 5)))) (cL [] 1 (b4 (af 7)) (ai 0) tT (fOp dm (fOp aIx (af 0) (fC (.int 5))) (fL (aa (fC (.str "zz")) aE)))))))
   (dg (fC (.bl false)))
   cN)
  (bf (jF (oG 9))
  (fIf (fOr (b6 (fOp aNe (af 8) (af 5))) (rM (gL (aG am (aa (fFz (aG aw (aa (fFz (af 8)) (aa (fFz (af 6)) aE)))) (aa (fFz (af 7)) aE))))))
   (dg (fC (.bl false)))
   cN))))))))))))))))
  (dg (fC (.bl true))))
theorem gZ{l k:List Rwk}(p:l.Perm k)(hl:(l.map (·.n)).Pairwise (·<·))(hk:(k.map (·.n)).Pairwise (·<·)):l=k:=by
 rw[aaR] at hl hk;exact p.eq_of_pairwise (λ a b _ _ h1 h2=>by nofun) hl hk
theorem dU{rs rows:List Rwk}{z:Str}(h:rs.Perm (aX rows z)):rs.length<=rows.length:=by rw[h.length_eq];exact bX
theorem iC(qs:List (Addr×Rwk)):(qs.map λ q=>tlR q.1 q.2).map cA=(qs.map (·.2)).map ca:=by
 rw[aao,aao];rfl
theorem tK{qs:List (Addr×Rwk)}(h:∀ r∈qs.map (·.2),r.ls.length<=1000):(qs.map λ q=>tlR q.1 q.2).all (zC 5)=true:=by
 rw[List.all_map,ab0];intro q hq;have h1:=h q.2 (ab3.mpr ⟨q,hq,rfl⟩);show (true&&decide ((q.2.ls.map D.str).length<sizeLine))=true;rw[Bool.true_and];exact decide_eq_true (by rw[abw,sizeLine_eq];nofun)
abbrev tL(z:Str)(r:Rwk):Rwk:={ r with ls:=r.ls++[z] }
theorem xf(qs:List (Addr×Rwk))(z:Str):(qs.map λ q=>tlR q.1 q.2).map (i7 z)=(qs.map λ q=>(q.1,tL z q.2)).map λ q=>tlR q.1 q.2:=by
 rw[aao,aao];refine aaE λ q _=>?_;show FV.tl _ _ (q.2.ls.map D.str++[.str z])=FV.tl _ _ ((q.2.ls++[z]).map D.str);rw[aam];rfl
theorem jh(l:List Rwk):okDs (l.map λ r=>D.lst ((r.ls++[("zz" : Str)]).map .str))=true:=by
 induction l with
 |nil=>rfl
 |cons r l ih=>exact abW.mpr ⟨dG _,ih⟩
theorem oU(l:List Rwk):deps (toDVs (l.map λ r=>D.lst ((r.ls++[("zz" : Str)]).map .str)))<=1:=by
 induction l with
 |nil=>exact aaI _
 |cons r l ih=>exact Nat.max_le.mpr ⟨Nat.succ_le_succ (Nat.le_of_eq (b8 _)),ih⟩
theorem oV(l:List Rwk):wn (.lst (l.map λ r=>D.lst ((r.ls++[("zz" : Str)]).map .str))) (.lst (l.map λ r=>D.lst ((r.ls++[("zz" : Str)]).map .str))):=⟨jh l,jh l,aat (Nat.succ_le_succ (oU l)) (by decide)⟩
theorem yV:Hh jS yU [] 11:=by
 intro os P h;unfold jS at h;obtain⟨ns,rfl,hl,q⟩:=h;have sz:=sizeLine_eq;ext;refine⟨⟨by (repeat' split) <;> nofun,by (repeat' split) <;> nofun⟩,?_⟩;ext;refine bG (λ i ρ=>∃ (x1 x2 x3 x4 x5 x6 x7 x8 x9 x10:Option OV),ρ=[some (.fz (.lst (ns.map .int))),x1,x2,x3,x4,x5,x6,x7,x8,x9,x10]) ⟨none,none,none,none,none,none,none,none,none,none,rfl⟩ ?_ ?_
 ·rintro i d ρ R hd ⟨x1,x2,x3,x4,x5,x6,x7,x8,x9,x10,rfl⟩ kk;obtain⟨hi,rfl⟩:=bt hd;rw[Int.zero_add];ext;refine .mk λ z=>?_;ext;refine .mk λ b0 b1 b2 hb=>?_;ext;refine .mk 0 hb (by decide) λ zs b0 b1 b2 hz hb0=>?_;ext;refine⟨lez 4,?_⟩;ext;refine aC _ hb0 (by decide) (by decide) (by decide) λ r b0 b1 b2 r0 r1 hb1=>?_;ext;refine cD r0 r1 λ dd hdd=>?_
  obtain⟨f,rfl,hf⟩:∃ f:Int,dd=.int f/\(f=16∨f=40):=by
   rcases abG.mp hdd with rfl|hdd
   ·exact⟨_,rfl,.inl rfl⟩
   rcases abG.mp hdd with rfl|hdd
   ·exact⟨_,rfl,.inl rfl⟩
   rcases abG.mp hdd with rfl|hdd
   ·exact⟨_,rfl,.inl rfl⟩
   rw[abF.mp hdd];exact⟨_,rfl,.inr rfl⟩
  ext;refine .mk _ hz hf hb1 (by decide) λ rows b0 b1 b2 h1 h2 h3 hb2=>?_;ext;refine aC _ hb2 (by decide) (by nofun) (by nofun) λ r2 b0 b1 b2 r20 r21 hb2=>?_;ext;refine bI r20 (by nofun) λ nm=>?_;ext;refine lH (λ ρ=>∃ (rows:List Rwk) (b0 b1 b2:Int),rows.length<=4001/\(rows.map (·.n)).Nodup/\(∀ r∈rows,r.ls.length<=1000)/\BagB b1 b2 5000/\ρ=[some (.fz (.lst (ns.map .int))),some (.fz (.int i)),some (dM b0 b1 b2),some (.fz (.lst (zs.map .str))),some (.fz (.int f)),some (.fz (dF rows)),some (.fz (.str nm)),x7,x8,x9,x10]) ?_ ?_
  ·rintro ρ ⟨rows,b0,b1,b2,h1,h2,h3,hb3,rfl⟩;ext;refine lH (λ ρ=>∃ (nm:Str) (b0 b1 b2:Int),BagB b1 b2 6000/\ρ=[some (.fz (.lst (ns.map .int))),some (.fz (.int i)),some (dM b0 b1 b2),some (.fz (.lst (zs.map .str))),some (.fz (.int f)),some (.fz (dF rows)),some (.fz (.str nm)),x7,x8,x9,x10]) ?_ ?_
   ·rintro ρ ⟨nm,b0,b1,b2,hb4,rfl⟩;ext;refine w8 (by nofun) h2 h3 λ rs pr up=>?_;ext;refine .mk (by nofun) h3 ?_;ext;refine je (by nofun) h2 h3 λ qs pq uq=>?_;obtain rfl:qs.map (·.2)=rs:=gZ (pq.trans pr.symm) uq up
    have hql:(qs.map (·.2)).length<=100000:=by
     have h5:=dU pr;nofun
    have hqs:∀ r∈qs.map (·.2),r.ls.length<=1000:=λ r hr=>h3 r (List.mem_filter.mp (pr.mem_iff.mp hr)).1;ext;refine dR ?_;ext;rw[iC];refine ms hql hqs ?_;ext;refine jU ?_;ext;refine⟨dH,?_⟩;ext;refine dI (cr _) ?_;ext;refine⟨tK hqs,?_⟩;rw[xf];ext;refine dR ?_;ext;rw[iC];have e2:(qs.map λ q=>(q.1,tL "zz" q.2)).map (·.2)=(qs.map (·.2)).map (tL "zz"):=by rw[aao,aao];rfl
    rw[e2];generalize hrs:qs.map (·.2)=rs at *;refine bF (λ i as ρ=>as=(rs.take i).map (λ r=>D.lst ((r.ls++[("zz" : Str)]).map .str))/\∃ y,ρ=y::_) ⟨rfl,none,rfl⟩ ?_ ?_
    ·rintro t d as ρ R2 hd ⟨rfl,y,rfl⟩ kk2;rw[aao,abK] at hd;obtain⟨r,hr,rfl⟩:=abM.mp hd;ext;refine nM ?_;ext;refine⟨by rw[abw,aap];nofun,kk2 _ _ ⟨?_,_,rfl⟩⟩;have e9:rs.take (t+1)=rs.take t++[r]:=by rw[aaN,hr];rfl
     rw[e9];exact Eq.symm aam
    ·rintro as ρ ⟨rfl,y,rfl⟩;rw[abw,abw,aaL];ext;refine bF (λ i as ρ=>as=(rs.take i).map (λ r=>D.lst ((r.ls++[("zz" : Str)]).map .str))/\∃ y,ρ=y::_) ⟨rfl,none,rfl⟩ ?_ ?_
     ·rintro t d as ρ R2 hd ⟨rfl,y,rfl⟩ kk2;rw[abK] at hd;obtain⟨r,hr,rfl⟩:=abM.mp hd;have h9:=hqs r (abT hr);ext;refine nM ?_;ext;refine⟨lez 1,?_⟩;ext;refine⟨by rw[abw];show r.ls.length+1<=_;nofun,?_⟩;ext;refine⟨by rw[abw,aap];nofun,kk2 _ _ ⟨?_,_,rfl⟩⟩;have e9:rs.take (t+1)=rs.take t++[r]:=by rw[aaN,hr];rfl
      have ey:D.lst (r.ls.map .str++[.str "zz"])=D.lst ((r.ls++[("zz" : Str)]).map .str):=by rw[aam];rfl
      rw[e9];show _++[D.lst (r.ls.map .str++[.str "zz"])]=_;rw[ey];exact Eq.symm aam
     ·rintro as ρ ⟨rfl,y,rfl⟩;rw[abw,aaL];ext;refine⟨oV _,?_⟩;ext;refine dI (cr _) ?_;ext;refine dR ?_;ext;refine⟨dH,?_⟩;ext;refine dI (cr _) ?_;ext;refine je (by nofun) h2 h3 λ qs2 pq2 uq2=>?_;obtain rfl:qs2.map (·.2)=rs:=gZ (pq2.trans pr.symm) uq2 up;ext;rw[iC];refine ms hql hqs ?_;ext;refine jU ?_;exact kk _ ⟨_,_,_,_,_,_,_,_,_,_,rfl⟩
   ·intro rest;ext;refine aC _ hb3 (by decide) (by decide) (by decide) λ r3 b0 b1 b2 r30 r31 hb4=>?_;ext;refine⟨fu,?_⟩;ext;refine jg ?_ ?_
    ·ext;refine aC _ hb4 (by decide) (by decide) (by decide) λ r4 b0 b1 b2 r40 r41 hb5=>?_;ext;refine b9 hb5 (by decide) (by nofun) (by nofun) λ nm b0 b1 b2 hnm hb6=>?_;ext;exact rest _ ⟨nm,b0,b1,b2,hb6.mono (by decide),rfl⟩
    ·exact rest _ ⟨nm,b0,b1,b2,hb4.mono (by decide),rfl⟩
  ·intro rest;ext;refine⟨fu,?_⟩;ext;refine jg ?_ ?_
   ·ext;refine⟨fu,?_⟩;ext;refine jg ?_ ?_
    ·ext;refine .mk _ hz hb2 (by decide) λ rows b0 b1 b2 h1 h2 h3 hb3=>?_;ext;exact rest _ ⟨rows,b0,b1,b2,h1,h2,h3,hb3.mono (by decide),rfl⟩
    ·exact rest _ ⟨rows,b0,b1,b2,by nofun,h2,h3,hb2.mono (by decide),rfl⟩
   ·ext;exact jU (rest _ ⟨rows,b0,b1,b2,by nofun,h2,h3,hb2.mono (by decide),rfl⟩)
 ·rintro ρ ⟨x1,x2,x3,x4,x5,x6,x7,x8,x9,x10,rfl⟩;ext;exact q
end
end KR
open PySem L2
local macro_rules|`(tactic|walk_at "f1") => `(tactic|(repeat' (first
  |(with_reducible first|exact zw (by decide)|apply vL|apply vM|apply yq|apply rQ|apply vR|apply vW|apply vY|exact gf_n (by decide)|apply lj|apply wo|apply ww|apply wq|apply so|apply sh|apply oF|apply sn|apply lB|apply si|apply nW|apply sj|apply sk|apply nX|apply yt|apply oh|apply yv|exact yI (by decide)|apply yo|apply vN|apply yp|apply rN|apply rO|apply vS|apply vT|apply yu|apply wy|apply yD|apply n9|apply sv|apply wz|apply wA|apply sr|apply rR|apply rS|apply yw|apply vX|apply rW|apply rX|apply rY|apply vZ|apply nT|apply r8|apply tf_B|apply vO|apply vP|apply yr|apply vQ|exact gf_c (by decide) (by decide)|apply rV|apply nO|apply nQ|apply nR|apply yJ|apply sA|apply sE|apply sy|apply iu|apply wD|apply wG)|(show ClsF _ _ _;assumption) 
  |(with_reducible first|apply sL|apply oC|apply oP|apply oJ|apply sT|apply oN|apply me|apply sS|apply jQ|apply sO)|exact rfl
  |(with_reducible first|exact oa (by decide)|exact yF (by decide))|(show Program;exact Zz.P (by assumption))|(show World;exact Zz.w (by assumption))|decide)))
local macro_rules|`(tactic|walk_at "f2") => `(tactic|(repeat' (first
  |(with_reducible first|exact kQ|exact pf|apply kP|apply ny|apply kW|apply rg|apply wa_c|apply vi|apply wb)|exact rfl|exact Or.inl rfl|exact Or.inr rfl|exact Or.inr (Or.inl rfl)|assumption
  |(with_reducible first|apply yk|apply vj)|((with_reducible apply ws_sN);exact rfl)|(with_reducible first|apply vt|apply vv|apply yn|apply pi|apply rh|apply vx|apply rF)|exact Room.units (by assumption)|exact yd (by assumption)|exact Room.gd (by assumption)|exact Room.mono (by assumption) (by decide)|exact fun _=>rfl|exact fun _ _=>rfl|exact nomarkB (by decide) (by decide)
  |(with_reducible first|apply vf|apply oi|apply yi|apply vb|apply ve|apply vd|apply vc|apply vg|apply vh|apply nr|apply qV|apply qW|apply vy|apply vz|apply nV|apply rj|apply oE|apply sd|apply se|apply jI|apply rl|apply nD|apply rm|apply rp|apply nE|apply vA|apply wf|apply n8|apply rE|apply vB|apply vC|apply vE)|exact Or.inl ⟨_,rfl⟩|exact Or.inr ⟨_,rfl⟩
  |(with_reducible first|apply vm|apply qZ|apply vn|apply vo|apply ym|apply q0|apply ra|apply rb|apply nv|apply vq)|exact PassesOwn.never
  |(with_reducible first|apply kU|apply re|apply qX|apply qY|apply yM)|exact CompScope.of rfl rfl rfl|(intro C s H fp)|exact yL rfl
  |(with_reducible first|apply qS|apply nq|exact PySem.F.plainAttrs_list|exact PySem.F.plainAttrs_str|exact PySem.F.slot_list_append|exact PySem.F.type_list_append|apply kX|exact PySem.F.slot_str_join|exact PySem.F.type_str_join|apply rq|exact PySem.F.slot_list_extend|exact PySem.F.type_list_extend|apply lf|exact PySem.F.slot_list_reverse|exact PySem.F.type_list_reverse|exact PySem.F.slot_list_index|exact PySem.F.type_list_index|exact PySem.F.slot_list_remove|exact PySem.F.type_list_remove|exact PySem.F.slot_str_split|exact PySem.F.type_str_split|exact PySem.F.slot_str_partition|exact PySem.F.type_str_partition|exact PySem.F.slot_str_find|exact PySem.F.type_str_find|exact PySem.F.slot_str_upper|exact PySem.F.type_str_upper)|exact ClsF.cl (by assumption)|exact ⟨_,rfl⟩|(with_reducible first|apply kT|exact PySem.F.plainAttrs_dict|exact PySem.F.slot_dict_update|exact PySem.F.type_dict_update|exact PySem.F.slot_list_pop|exact PySem.F.type_list_pop|exact PySem.F.slot_list_clear|exact PySem.F.type_list_clear|apply oB|apply md|apply oK|apply sR|apply l7|exact PySem.F.slot_list_insert|exact PySem.F.type_list_insert|apply yj|apply ph|apply ph|apply wC|apply wt_w|apply kT)|apply nu|apply qT|exact pf|exact kQ|exact ⟨rfl,rfl,rfl,rfl⟩|decide|decide +kernel)))
local macro_rules|`(tactic|walk_at "bd") => `(tactic|(intro cdv A outer s H E T nd hr;cases T;apply Exists.intro;apply And.intro;(focus walk_at "f1");(focus ((conv => (arg 2;whnf));walk_at "f2"))))
local macro_rules|`(tactic|walk_at "bn") => `(tactic|(intro _ _ _ _ _ _;first|exact zB λ _ => rfl|exact us_2 λ _ _ => rfl|exact us_3 λ _ _ _ => rfl|exact us_4 λ _ _ _ _ => rfl|exact us_5 λ _ _ _ _ _ => rfl|exact us_6 λ _ _ _ _ _ _ => rfl|exact us_0 rfl))
local macro_rules|`(tactic|walk_at "o") => `(tactic|((focus walk_at "bn");(focus exact L2.sc_of rfl rfl rfl rfl (by decide +kernel));walk_at "bd"))
local macro_rules|`(tactic|walk_at "ol") => `(tactic|((focus exact L2.sc_of rfl rfl rfl rfl (by decide +kernel));walk_at "bd"))
local macro_rules|`(tactic|walk_at "l") => `(tactic|(repeat (obtain⟨x,h⟩ := h)))
namespace KR
section
variable {Z:Zz} {f:Addr} {fd:FuncData} (t:TopZ Z (Txt Z.K Z.mg))
include t
abbrev pT(Z:Zz):Prop:=hJ Z "_law_cell_at" 1 ["script", "k"] aT
theorem xg(D:Df Z.K "_law_cell_at" pM f fd):pT Z:=by
 refine bv ["script", "k"] t D (by delta aT) wW ?_ ?_ ?_;walk_at "o"
abbrev xh(Z:Zz):Prop:=hJ Z "_law_bag" 1 ["cell"] bT
theorem yY(D:Df Z.K "_law_bag" wU f fd):xh Z:=by
 refine bv ["cell"] t D (by delta bT) yR ?_ ?_ ?_;walk_at "o"
abbrev eN(Z:Zz):Prop:=hJ Z "_law_draw" 1 ["bag", "many"] ab
theorem xi(D:Df Z.K "_law_draw" pN f fd):eN Z:=by
 refine bv ["bag", "many", "one"] t D (by delta ab) wX ?_ ?_ ?_;walk_at "o"
abbrev ji(Z:Zz):Prop:=hJ Z "placed" 1 ["row", "place"] cq
theorem oW(D:Df Z.K "placed" jd f fd):ji Z:=by
 refine bv ["row", "place"] t D (by delta cq) oR ?_ ?_ ?_;walk_at "o"
abbrev tM(Z:Zz):Prop:=hJ Z "by_number" 4 ["rows"] a8
abbrev mF(Z:Zz):Prop:=hJ Z "behind_rule" 5 ["rows", "name"] aw
theorem tN(D:Df Z.K "behind_rule" mj f fd)(_:ji Z)(_:tM Z):mF Z:=by
 refine bv ["rows", "name"] t D (by delta aw) tj ?_ ?_ ?_;walk_at "o"
abbrev mG(Z:Zz):Prop:=hJ Z "_law_copy" 1 ["rows"] bw
theorem tO(D:Df Z.K "_law_copy" ml f fd):mG Z:=by
 refine bv ["rows"] t D (by delta bw) tu ?_ ?_ ?_;walk_at "o"
abbrev mH(Z:Zz):Prop:=hJ Z "_law_whole" 1 ["found"] a9
theorem tP(D:Df Z.K "_law_whole" mo f fd):mH Z:=by
 refine bv ["found"] t D (by delta a9) tw ?_ ?_ ?_;walk_at "o"
abbrev pU(Z:Zz):Prop:=hJ Z "_law_same_rows" 2 ["found", "due"] am
theorem xj(D:Df Z.K "_law_same_rows" pP f fd)(_:mH Z):pU Z:=by
 refine bv ["found", "due", "row"] t D (by delta am) w9 ?_ ?_ ?_;walk_at "o"
abbrev xk(Z:Zz):Prop:=hJ Z "_law_due" 1 ["rows", "name"] ba
theorem yZ(D:Df Z.K "_law_due" w6 f fd):xk Z:=by
 refine bv ["rows", "name", "found", "row"] t D (by delta ba) yT ?_ ?_ ?_;walk_at "o"
abbrev dJ(Z:Zz):Prop:=hJ Z "_law_letters" 2 ["bag", "many"] az
theorem mI(D:Df Z.K "_law_letters" gY f fd)(_:eN Z):dJ Z:=by
 refine bv ["bag", "many"] t D (by delta az) mC ?_ ?_ ?_;walk_at "o"
abbrev mJ(Z:Zz):Prop:=hJ Z "_law_names" 3 ["bag"] bd
theorem tQ(D:Df Z.K "_law_names" mz f fd)(_:eN Z)(_:dJ Z):mJ Z:=by
 refine bv ["bag", "names", "k", "name", "at", "letter"] t D (by delta bd) tG ?_ ?_ ?_;walk_at "o"
abbrev mK(Z:Zz):Prop:=hJ Z "_law_rows" 2 ["bag", "names", "few"] bx
theorem tR(D:Df Z.K "_law_rows" mE f fd)(_:eN Z):mK Z:=by
 refine bv ["bag", "names", "few", "rows", "number", "k", "one", "leans", "j", "length", "row"] t D (by delta bx) tJ ?_ ?_ ?_;walk_at "o"
abbrev pV(Z:Zz):Prop:=hJ Z "_law_many_rows" 2 ["bag", "names"] aJ
theorem xl(D:Df Z.K "_law_many_rows" pR f fd)(_:eN Z):pV Z:=by
 refine bv ["bag", "names", "step", "rows", "k", "leans"] t D (by delta aJ) xb ?_ ?_ ?_;walk_at "o"
theorem o_law(D:Df Z.K "law" xc f fd)(_:pT Z)(_:xh Z)(_:eN Z)(_:dJ Z)(_:mJ Z)(_:mK Z)(_:pV Z)(_:xk Z)(_:mG Z)(_:mF Z)(_:pU Z):FnOk Z.P Z.w Z.K Z.mg Z.base CX0 6 f fd ["script"] (spM Z.K jS):=by
 refine wI ["script", "k", "bag", "names", "few", "rows", "name", "due", "handed", "found", "row"] t D.fn (by delta jS) yV ?_ ?_;walk_at "ol"
end
end KR
open PySem L2
namespace KR
def oX(K:Frag):Sp:=λ vs H Q _=>∃ (a:Addr) (ns:List Int),vs=[.ref a]/\SqL K H a (ns.map V.int)/\ns.length<=63/\∀ H',Q (.bl true) H'
theorem xm{K:Frag}(vs:List V)(H:Hp)(Q:VK)(E:XK)(h:oX K vs H Q E):spM K jS vs H Q E:=by
 obtain⟨a,ns,rfl,hS,hl,q⟩:=h;refine⟨H,λ _=>none,[.fz (.lst (ns.map .int))],[],λ o _=>o=.fz (.bl true),Same.refl H,SameN.none,λ _ _ _=>rfl,.cons (.fz (.lst hS (Dens.ints ns))) .nil,aaU,(λ _ z=>nomatch z),?_,λ o os' v F' H' C' B e _ _ _ _ _ ow _ _=>?_⟩
 ·unfold jS;exact⟨ns,rfl,hl,rfl⟩
 ·subst e
  cases ow with
  |fz d=>rw [d.bl_eq];exact q H'
theorem all_mk{l:PySem.W.OpenLaw}{w:World}{K:Frag}{h:Heap}{mg:Str->Option Value}{fa f0 f1 f2 f3 f4 f5 f6 f7 f8 f9 f10 f11 f12 f13 f14:Addr}{u0 u1 u2 u3 u4 u5 u6 u7 u8 u9 u10 u11 u12 u13 u14:FuncData}{T c bm:Addr}{bsl:Array (Option Value)}(X:K.In h)(G:h.Ns mainGlobals mg)(hfa:mg "law" = some (.ref fa))
  (d0:Df K "_law_cell_at" pM f0 u0)
  (d1:Df K "_law_bag" wU f1 u1)
  (d2:Df K "_law_draw" pN f2 u2)
  (d3:Df K "placed" jd f3 u3)
  (d4:Df K "by_number" mi f4 u4)
  (d5:Df K "behind_rule" mj f5 u5)
  (d6:Df K "_law_copy" ml f6 u6)
  (d7:Df K "_law_whole" mo f7 u7)
  (d8:Df K "_law_same_rows" pP f8 u8)
  (d9:Df K "_law_due" w6 f9 u9)
  (d10:Df K "_law_letters" gY f10 u10)
  (d11:Df K "_law_names" mz f11 u11)
  (d12:Df K "_law_rows" mE f12 u12)
  (d13:Df K "_law_many_rows" pR f13 u13)
  (d14:Df K "law" xc f14 u14)
  (z0:PySem.W.nsIn K mainGlobals "len" = some none)
  (z1:PySem.W.nsIn K mainGlobals "max" = some none)
  (z2:PySem.W.nsIn K mainGlobals "min" = some none)
  (z3:PySem.W.nsIn K mainGlobals "isinstance" = some none)
  (z4:PySem.W.nsIn K mainGlobals "sorted" = some none)
  (z5:PySem.W.nsIn K mainGlobals "range" = some none)
  (z6:PySem.W.nsIn K mainGlobals "bool" = some none)
  (z7:PySem.W.nsIn K mainGlobals "int" = some none)
  (z8:PySem.W.nsIn K mainGlobals "list" = some none)
  (z9:PySem.W.nsIn K mainGlobals "tuple" = some none)
  (z10:PySem.W.nsIn K mainGlobals "set" = some none)
  (hcd:u4.code=.ref c)
  (hL:cP K T)
  (hHd:∀ h:Heap,K.In h->PySem.W.CodeHd h c T)
  (hbn:PySem.W.nsIn K mainGlobals "__builtins__" = some (some (.ref bm)))
  (hbl:K.lookup bm=some ⟨.type "module", some builtinsNs,.plain,bsl⟩)
  (hb1:bm≠builtinsNs)
  (hb2:bm≠mainGlobals)
  (hb3:bm≠T)
  : ∃ fd:FuncData,(∀ (s:Shared) (v:Value),BindsTo s fd ⟨[v],[]⟩ [("script", v)])/\∀ base:Heap,K.In base->base.Ns mainGlobals mg->FnOk l.prog w K mg base CX0 6 fa fd ["script"] (oX K):=by
 have e:=hfa.symm.trans (PySem.W.mg_of X G d14.ns);cases e;have T:Txt K mg:=⟨aay X G z0,aay X G z1,aay X G z2,aay X G z3,aay X G z4,aay X G z5,aay X G z6,aay X G z7,aay X G z8,aay X G z9,aay X G z10⟩;refine⟨u14,?_,λ base _ _=>?_⟩
 ·obtain⟨oc,od,kV,doc,pm,an,cdv,ct,osl,rfl,lk,hcd⟩:=d14.fn.ex;exact λ s v=>.of_eq rfl
 have t:TopZ ⟨l.prog,w,K,mg,base,h⟩ (Txt K mg):=⟨X,G,T⟩;have O_cell:=xg t d0;have O_bag:=yY t d1;have O_draw:=xi t d2;have O_placed:=oW t d3;have O_bynum:=sY t d4 hcd hL hHd λ _ X'=>fH X' (PySem.W.mg_of X G hbn) hbl hb1 hb2 hb3;have O_brule:=tN t d5 O_placed O_bynum;have O_lcopy:=tO t d6;have O_whole:=tP t d7;have O_same:=xj t d8 O_whole;have O_due:=yZ t d9;have O_letters:=mI t d10 O_draw;have O_names:=tQ t d11 O_draw O_letters;have O_lrows:=tR t d12 O_draw;have O_many:=xl t d13 O_draw;exact(o_law t d14 O_cell O_bag O_draw O_letters O_names O_lrows O_many O_due O_lcopy O_brule O_same).imp xm
theorem lamF_mk{K:Frag}{T c f:Addr}{fd:FuncData}{oc:Value}{od od2:Option Addr}{osl sl:Array (Option Value)}{vs:Array Value}(ns:PySem.W.nsIn K mainGlobals "by_number" = some (some (.ref f)))(fn:K.lookup f=some ⟨oc,od,.func fd,osl⟩)(cd:fd.code=.ref c)(lk:K.lookup c=some ⟨.type "code", od2,.fields vs,sl⟩)(cf:CodeF vs T)(tab:dD K T):LamFacts K T c f fd:=⟨tab,ns,⟨oc,od,osl,fn⟩,cd,od2,vs,sl,lk,cf⟩
theorem hdOf{K:Frag}{T c f:Addr}{fd:FuncData}(L:LamFacts K T c f fd):∀ h:Heap,(bo T K).In h->PySem.W.CodeHd h c T:=λ _ X=>L.hd X
theorem withTb{K:Frag}{T:Addr}{h:Heap}{P:Prop}(_:(bo T K).In h)(t:dD K T)(f:dD K T->P):P:=f t
theorem walk{l:PySem.W.OpenLaw}{q:Program}{loose:List Str}{XP:(Str->Option Value)->Heap->Prop}{d:DefRec}{K:Params->Frag}{T:Addr}(hn:l.most=some 63)(hdf:d.params.defaults=[])
  (L:∀ p:Params,∃ c f fd,LamFacts (K p) T c f fd)
  (F:∀ (w:World) (mg:Str->Option Value) (fa:Addr) (h:Heap),(bo T (K w.params)).In h->h.Ns mainGlobals mg->mg d.name=some (.ref fa) ->
   ∃ fd:FuncData,(∀ (s:Shared) (u:Value),BindsTo s fd ⟨[u],[]⟩ [("script", u)])/\∀ base:Heap,(bo T (K w.params)).In base->base.Ns mainGlobals mg->FnOk l.prog w (bo T (K w.params)) mg base CX0 6 fa fd ["script"] (oX (bo T (K w.params)))) :
  PySem.W.WalkO q loose XP (λ w h=>(K w.params).In h) l.row.toRowW d [] (λ f vs=>PySem.call f vs):=
 L2.walk_of (K:=λ p=>bo T (K p)) (n:=63) (k:=6) (x := "script") (CX:=λ _=>CX0) (sp:=λ w=>oX (bo T (K w.params))) hn (by decide) hdf ⟨rfl,by decide,by decide,rfl⟩ (λ _ _ Y=>sU Y) (λ w h Y T' hT'=>by
  obtain⟨c,f,fd,L⟩:=L w.params;cases L.uniq hT';exact⟨Y _ _ L.tab,cp _,L.isTab Y⟩) F (λ _ _ a ns hl _ hS=>⟨a,ns,rfl,hS,hl,λ _=>rfl⟩) λ _ _ _ _ _ z=>z
theorem walkX{q:Program}{loose:List Str}{XP:(Str->Option Value)->Heap->Prop}{r:PySem.W.RowW}{d:DefRec}{kwd:List (Str×Expr)}{run:Value->List Value->Sem Value}{K:Params->Frag}{as:List Addr}{n t:Nat}(e:∀ P,as=(K P).map (·.1))(W:PySem.W.WalkO q loose XP (λ w h=>(K w.params).In h) r d kwd run) :
  PySem.W.WalkX q loose XP (PySem.W.X.obsZ as) (PySem.W.X.valZ K n t) r d kwd run:=by
 intro w s₀ s₁ mg mb G y a o pm cd doc dV kV ho hd hcd hD hmg hg args vals as' L hpre hlay hrd hwl hlo;exact W w s₀ s₁ mg mb G (PySem.W.InK.keeps w _ _ (PySem.W.X.z_facts e y).2.1 L.keeps) a o pm cd doc dV kV ho hd hcd hD hmg hg args vals as' hpre hlay hrd hwl hlo
end KR
open PySem PySem.W PyProof.Rows
local macro_rules|`(tactic|walk_at "df") => `(tactic|(refine' L2.df_mk ?a ?l ?c ?k;(case a => k_is);(case l => k_is);(case c => k_is);(case k => k_is)))
namespace PySem.W.Fast
def tw17966956897494142159:=0
def tw7103376424652324654:=0
def tw18288965982456066411:=0
def tw3325204938512541848:=0
def tw8373227819067637754:=0
def tw15924640935196594062:=0
def tw18074663653738607279:=0
def tw1294550582660050126:=0
def tw8702050317793775839:=0
def tw10580939827988748665:=0
def tw17508906890813393898:=0
def tw9759266625678411449:=0
def tw10665934315917185285:=0
def tw7588776132418370960:=0
def tw18264362392829727436:=0
def tw12784962695463916013:=0
def tw17489082611446948435:=0
def tw15183267350652912999:=0
def tw1305060986718455307:=0
def tw4352275685981707286:=0
def tw14048368103188943530:=0
def tw17813143287389643711:=0
def tw3401124987072930983:=0
def tw3723728544007983118:=0
def tw17935042441420375251:=0
def tw9543933848605515934:=0
def tw4805824648499772875:=0
def tw14424646247984040804:=0
def tw16276881904378485824:=0
def tw14863254520036156317:=0
end PySem.W.Fast
set_option maxRecDepth 100000 in
set_option maxHeartbeats 0 in
theorem PySem.Challenge.cw_keptreading_k25_rows_behind_a_rule_holds : PySem.Challenge.rw_keptreading_k25_rows_behind_a_rule.Holds := by
  w_on; o_law; z_head; (case hw=>w_witness2)
  k_fill
  refine KR.walkX (λ _=>rfl) (KR.walk (T:=23) (l:=PySem.Challenge.rw_keptreading_k25_rows_behind_a_rule) rfl rfl ?L ?F)
  case L =>
    intro p
    refine' L2.lamFacts_mk ?a ?b ?c ?d ?e ?f
    (case a=>k_is); (case b=>k_is); (case c=>exact rfl); (case d=>k_is); (case e=>exact⟨_,_,_,_,_,_,_,rfl,rfl,rfl,rfl,rfl,rfl⟩); (case f=>(show _=_; k_is))
  case F =>
    intro w mg fa h KX G hmg
    refine KR.withTb KX ?tb λ tb=>?_
    (case tb=>(show _=_; k_is))
    refine' KR.all_mk (T:=23) KX G hmg ?_ ?_ ?_ ?_ ?_ ?_ ?_ ?_ ?_ ?_ ?_ ?_ ?_ ?_ ?_ ?_ ?_ ?_ ?_ ?_ ?_ ?_ ?_ ?_ ?_ ?_ ?_ ?_ ?_ ?_ ?_ ?_ ?_ ?_
    any_goals first | (refine' L2.Df.drop tb (L2.df_mk ?a ?l ?c ?k); (case a=>k_is); (case l=>k_is); (case c=>k_is); (case k=>k_is)) | (refine' L2.ns_drop tb ?_; k_is) | (refine' L2.lk_drop tb ?a (λ z=>nomatch z); k_is) | skip
    any_goals first | (refine' L2.LamFacts.lamK (KR.lamF_mk ?a ?b ?c ?d ?e tb); (case a=>k_is); (case b=>k_is); (case c=>exact rfl); (case d=>k_is); (case e=>exact⟨_,_,_,_,_,_,_,rfl,rfl,rfl,rfl,rfl,rfl⟩)) | (refine' KR.hdOf (KR.lamF_mk ?a ?b ?c ?d ?e tb); (case a=>k_is); (case b=>k_is); (case c=>exact rfl); (case d=>k_is); (case e=>exact⟨_,_,_,_,_,_,_,rfl,rfl,rfl,rfl,rfl,rfl⟩)) | exact rfl | decide
