import PyProof.Rows.All
import Wide.All
import OpenK.AllK
import Wide.FinOn
import Lean
import PyProof.EqAt
import PyProof.EqKinds
import PyProof.TupleCall
import PySem.Challenge.RW_keptreading_k10_leaves
set_option genSizeOf false
set_option genSizeOfSpec false
set_option genInjectivity false
set_option Elab.async false
set_option linter.all false
set_option maxRecDepth 100000
open PySem.W (Frag)
noncomputable section
local macro_rules | `(tactic| nofun) => `(tactic| (first|lia|omega))
local macro_rules | `(tactic| exists $h:term) => `(tactic| (first|exact List.mem_singleton.mp $h|simpa using $h))
local macro_rules | `(tactic| ext) => `(tactic| (conv => whnf))
set_option compiler.extract_closed false
def aaa:=@PySem.wpAny_bind
def aab:=@List.mem_cons_self
def aac:=@PySem.wpAny_pure
def aad:=@List.mem_cons_of_mem
def aae:=@Nat.le_refl
def aaf:=@PySem.Heap.lt_size
def aag:=@List.map_append
def aah:=@Nat.ne_of_lt
def aai:=@List.length_append
def aaj:=@Option.some.inj
def aak:=@List.mem_append_right
def aal:=@List.take_of_length_le
def aam:=@Option.map_eq_some_iff
def aan:=@Nat.lt_of_lt_of_le
def aao:=@List.length_take
def aap:=@PySem.W.mg_none_of
def aaq:=@Nat.zero_le
def aar:=@List.take_succ
def aas:=@PySem.W.kia_one
def aat:=@List.map_map
def aau:=@List.eq_nil_of_length_eq_zero
def aav:=@Nat.le_trans
def aaw:=@List.mem_append_left
def aax:=@List.drop_eq_getElem_cons
def aay:=@List.append_assoc
def aaz:=@List.Perm.refl
def aaA:=@List.length_replicate
def aaB:=@List.nodup_nil
def aaC:=@List.lookup_cons
def aaD:=@PySem.wpAny_holding
def aaE:=@PySem.Around.under_plainId
def aaF:=@PySem.wpAny_call_entry
def aaG:=@Nat.lt_succ_self
def aaH:=@PySem.wpAny_truthy_bool
def aaI:=@PySem.wpAny_newObj_type
def aaJ:=@Nat.lt_succ_of_lt
def aaK:=@List.all_cons
def aaL:=@PySem.mem_of_lookup
def aaM:=@PySem.W.mg_of
def aaN:=@List.Perm.append_left
def aaO:=@List.filter_append
def aaP:=@List.getElem_mem
def aaQ:=@Nat.lt_irrefl
def aaR:=@PySem.Heap.size_push
def aaS:=@Bool.not_eq_true'
def aaT:=@Nat.le_succ
def aaU:=@List.length_set
def aaV:=@List.append_nil
def aaW:=@PySem.Calls.callWith_builtin
def aaX:=@PySem.F.slot_dict_get
def aaY:=@List.length_filter_le
def aaZ:=@List.drop_zero
def aa0:=@PyProof.Rows.slot_tuple_getitem
def aa1:=@PySem.Paired.length
def aa2:=@List.map_congr_left
def aa3:=@List.drop_length
def aa4:=@List.Perm.append_right
def aa5:=@PySem.wpAny_setField_rec
def aa6:=@PySem.wpAny_passesOwn
def aa7:=@List.perm_append_comm
def aa8:=@List.length_singleton
def aa9:=@PySem.wpAny_setState_of
def aba:=@List.take_sublist
def abb:=@PyProof.Rows.F.plain_set_update_loop
def abd:=@PySem.wpAny_askSetting
def abe:=@PySem.wpAny_setEntries_of
def abf:=@List.getElem_of_mem
def abg:=@List.filterMap_cons
def abh:=@PySem.wpAny_mono
def abi:=@Nat.le_of_lt
def abj:=@List.set_set
def abk:=@PySem.wpAny_getItem_str_slice
def abl:=@PySem.F.plainAttrs_dict
def abm:=@Nat.add_sub_cancel_left
def abn:=@PySem.Calls.spliced_cons
def abo:=@Bool.eq_iff_iff
def abp:=@PySem.F.entry_dict_get
def abq:=@Sum.inr.inj
def abr:=@PySem.W.kitx_dict
def abt:=@List.Nodup.length_le_of_subset
def abu:=@Ne.symm
def abv:=@List.length_drop
def abw:=@List.getElem_inj
def abx:=@List.any_eq_true
def aby:=@PySem.Calls.evalArgs_plain
def abz:=@Array.toArray_toList
def abA:=@List.any_cons
def abB:=@PySem.wpAny_rule
def abC:=@PySem.SeqAt.EqAt.same
def abD:=@PyProof.Rows.callWith_type1
def abE:=@List.length_reverse
namespace L2
theorem aF (_:True:=by first | exact .inl rfl | exact .inr rfl | assumption):True:=trivial
theorem aD (_:True:=by decide):True:=trivial
theorem aI (_:True:=by intro _; rfl):True:=trivial
theorem aR (_:True:=by rfl):True:=trivial
end L2
namespace L2
open PySem PySem.Spec PyProof.Rows
variable{a b L it dx C:Addr}{u:Value}{P prog:Program}{w:World}{h h' base:Heap}{α:Type}{x name m qual:Str}{e c tg l:Expr}{g:Int->Int->Int}{p pos pos' apos:Pos}{pins:List (Addr×Obj)}{s s':Shared}{t' i j k n:Nat}{ch fp:List Addr}{N ps:List Str}{A:Around}{E Q:Value->Shared->Prop}{op op':CmpOp}{es:List Expr}{body:List Stmt}{f:Value->Value->Sem Value}{us:List Value}{mA mg:Str->Option Value}{pl:Sem Bool}{kw:List (Str×Value)}{fd:FuncData}{outer:List Env}{scope:Scope}
abbrev Key:=Sum Int Str
def ik:Key->Value->Bool
 | .inl k,v=>Value.isInt k v
 | .inr x,v=>Value.isStrOf x v
def keyH (w:World):Key->Int
 | .inl k=>hashInt k
 | .inr x=>hashStr w x
theorem aJ:∀ {k:Key} {v:Value},ik k v=true->(∃ i t,k=Sum.inl i/\v=Value.int i t)∨(∃ x t,k=Sum.inr x/\v=Value.str x t)
 | .inl i,v,h=>by
  obtain ⟨t,e⟩:=Value.isInt_shape (k:=i) (v:=v) h
  exact .inl ⟨i,t,rfl,e⟩
 | .inr x,v,h=>by
  obtain ⟨t,e⟩:=Value.isStrOf_shape (x:=x) (v:=v) h
  exact .inr ⟨x,t,rfl,e⟩
theorem nY (i:Int)(t:Tok):ik (.inl i) (.int i t)=true:=by simp [ik,Value.isInt]
theorem i5 (x:Str)(t:Tok):ik (.inr x) (.str x t)=true:=by simp [ik,Value.isStrOf]
theorem Cs (a b:Int):decide ((Sum.inl a:Key)=Sum.inl b)=(a == b):=by
 by_cases e:a=b
 ·subst e; simp
 ·have h:¬ (Sum.inl a:Key)=Sum.inl b:=fun q=>e (Sum.inl.inj q)
  rw [decide_eq_false h]
  exact (beq_eq_false_iff_ne.mpr e).symm
theorem Cu (a b:Str):decide ((Sum.inr a:Key)=Sum.inr b)=decide (a=b):=by
 by_cases e:a=b
 ·subst e; simp
 ·have h:¬ (Sum.inr a:Key)=Sum.inr b:=fun q=>e (abq q)
  rw [decide_eq_false h,decide_eq_false e]
theorem Cv (a:Int)(b:Str):decide ((Sum.inl a:Key)=Sum.inr b)=false:=decide_eq_false (fun q=>nomatch q)
theorem Cw (a:Str)(b:Int):decide ((Sum.inr a:Key)=Sum.inl b)=false:=decide_eq_false (fun q=>nomatch q)
def ai (prog:Program)(w:World):PySem.KeyKind prog w Key where
 is:=ik
 hash:=keyH w
 inj:=fun v a b ha hb=>by
  rcases aJ ha with ⟨i,t,rfl,rfl⟩ | ⟨x,t,rfl,rfl⟩
  ·rcases aJ hb with ⟨j,u,rfl,e⟩ | ⟨y,u,rfl,e⟩
   ·injection e with e1 _; rw [e1]
   ·exact nomatch e
  ·rcases aJ hb with ⟨j,u,rfl,e⟩ | ⟨y,u,rfl,e⟩
   ·exact nomatch e
   ·injection e with e1 _; rw [e1]
 byValue:=fun k v h=>by
  rcases aJ h with ⟨i,t,rfl,rfl⟩ | ⟨x,t,rfl,rfl⟩ <;> rfl
 pyHash:=fun hv h=>by
  rcases aJ hv with ⟨i,t,rfl,rfl⟩ | ⟨x,t,rfl,rfl⟩
  ·exact wpAny_pyHash_int h
  ·exact wpAny_pyHash_str h
 eqBool:=fun hu hv h=>by
  rcases aJ hu with ⟨i,t,rfl,rfl⟩ | ⟨x,t,rfl,rfl⟩
  ·rcases aJ hv with ⟨j,u,rfl,rfl⟩ | ⟨y,u,rfl,rfl⟩
   ·rw [Cs] at h; exact wpAny_eqBool_int h
   ·rw [Cv] at h; exact SeqAt.EqAt.int_str i t y u _ _ _ _ h
  ·rcases aJ hv with ⟨j,u,rfl,rfl⟩ | ⟨y,u,rfl,rfl⟩
   ·rw [Cw] at h; exact SeqAt.EqAt.str_int x t j u _ _ _ _ h
   ·rw [Cu] at h; exact wpAny_eqBool_str h
 «strs»:=fun k x t v h=>by
  rcases aJ h with ⟨i,u,rfl,e⟩ | ⟨y,u,rfl,e⟩
  ·exact nomatch e
  ·injection e with e1 _
   subst e1
   cases v <;> rfl
theorem kj (prog:Program)(w:World)(i:Int)(t:Tok):(ai prog w).is (.inl i) (.int i t)=true:=nY i t
theorem km (prog:Program)(w:World)(x:Str)(t:Tok):(ai prog w).is (.inr x) (.str x t)=true:=i5 x t
inductive V where
 | non | bl (b:Bool) | int (i:Int) | str (x:Str) | byt (b:Array UInt8) | flt (b:UInt64) | ref (a:Addr) | ty (n:String)
 deriving DecidableEq
variable{v y:V}{xs vs:List V}
def RelV:V->Value->Prop
 | .non,u=>u=Value.none
 | .bl b,u=>u=Value.bool b
 | .int i,u=>∃ t,u=Value.int i t
 | .str x,u=>∃ t,u=Value.str x t
 | .byt b,u=>∃ t,u=Value.bytes b t
 | .flt b,u=>∃ t,u=Value.float b t
 | .ref a,u=>u=Value.ref a
 | .ty n,u=>u=Value.type n
abbrev Vals:List V->List Value->Prop:=Paired RelV
theorem Vals.length {xs:List V}{us:List Value}(r:Vals xs us):xs.length=us.length:=aa1 r
theorem Vals.get:∀ {xs:List V} {us:List Value} {i:Nat} {x:V},Vals xs us->xs[i]?=some x->∃ u,us[i]?=some u/\RelV x u
 | _,_,_,_,.nil,e=>by simp at e
 | _,_,0,_,.cons r _,e=>by simp at e; subst e; exact ⟨_,rfl,r⟩
 | _,_,i+1,x,.cons _ t,e=>by
  obtain ⟨u,h1,h2⟩:=Vals.get (i:=i) (x:=x) t (by exists e)
  exact ⟨u,(by exists h1),h2⟩
theorem Vals.set {x:V}{u:Value}(r:RelV x u):∀ {xs:List V} {us:List Value} (i:Nat),Vals xs us->Vals (xs.set i x) (us.set i u)
 | _,_,_,.nil=>.nil
 | _,_,0,.cons _ t=>.cons r t
 | _,_,i+1,.cons q t=>.cons q (Vals.set r i t)
theorem Vals.append:∀ {xs ys:List V} {us ws:List Value},Vals xs us->Vals ys ws->Vals (xs++ys) (us++ws)
 | _,_,_,_,.nil,s=>s
 | _,_,_,_,.cons r t,s=>.cons r (Vals.append t s)
theorem Vals.take:∀ {xs:List V} {us:List Value} (n:Nat),Vals xs us->Vals (xs.take n) (us.take n)
 | _,_,0,_=>.nil
 | _,_,_+1,.nil=>.nil
 | _,_,n+1,.cons r t=>.cons r (Vals.take n t)
theorem Vals.drop:∀ {xs:List V} {us:List Value} (n:Nat),Vals xs us->Vals (xs.drop n) (us.drop n)
 | _,_,0,r=>r
 | _,_,_+1,.nil=>.nil
 | _,_,n+1,.cons _ t=>Vals.drop n t
def RelO:Option V->Option Value->Prop
 | some v,some u=>RelV v u
 | none,none=>True
 | _,_=>False
def KV {κ:Type}:List (κ×V)->List (κ×Value)->Prop:=Paired fun (p:κ×V) (q:κ×Value)=>p.1=q.1/\RelV p.2 q.2
def kV:Key->V
 | .inl i=>.int i
 | .inr x=>.str x
inductive HO where
 | lst (xs:List V)
 | tup (xs:List V)
 | dK (kvs:List (Key×V)) | dT (kvs:List (List Key×V))
 | set (S:Int->Bool) (n:Nat)
 | ins (C dx:Addr) (fs:List (Str×V))
 | own (x:Addr)
 | xd (fs:List (Str×V))
 | met (f x:Addr)
 | rng (lo hi:Int)
 | frz (o:Obj) (u:HO)
 | tbl (ps:Array Value)
 | ext (φ:Heap->Prop)
variable{o:HO}
abbrev Hp:=Addr->Option HO
variable{H H':Hp}{R:V->V->Hp->Prop}
def upd (H:Hp)(a:Addr)(o:HO):Hp:=fun b=>if b=a then some o else H b
theorem ad :upd H a o a=some o:=by unfold upd; rw [if_pos rfl]
theorem ae (h:b≠a):upd H a o b=H b:=by unfold upd; rw [if_neg h]
theorem G7 {u:HO}(h:H a=some o)(h':H b=some u)(d:o≠u):a≠b:=by
 intro e; subst e; rw [h] at h'; exact d (aaj h')
theorem a8 (h:H a=some o)(h':H b=none):a≠b:=by
 intro e; subst e; rw [h] at h'; cases h'
section
variable (P:Program) (w:World)
def ObjOk (H:Hp)(h:Heap)(a:Addr):HO->Prop
 | .lst xs=>xs.length<=sizeLine/\∃ (its:List Value) (n:Nat),Vals xs its/\h.get? a=some { cls:=.type "list", data:=.seq its.toArray n }
 | .tup xs=>xs.length<=sizeLine/\∃ its:List Value,Vals xs its/\IsTup h a its.toArray
 | .dK kvs=>kvs.length<=sizeLine/\(a == sysModules)=false/\∃ vs,KV kvs vs/\h.DictOf (ai P w) a vs
 | .dT kvs=>kvs.length<=sizeLine/\(a == sysModules)=false/\∃ xs:List (List Key×Addr×Value),
   Paired (fun (p:List Key×V) (q:List Key×Addr×Value)=>p.1=q.1/\H q.2.1=some (.tup (p.1.map kV))/\RelV p.2 q.2.2) kvs xs /\
   ∃ o es ep,h.get? a=some o/\o.ExactDict/\o.data=.dict es ep/\es.toList=xs.map (entryOfKey (tupleKind (ai P w)))/\(xs.map (·.1)).Nodup
 | .set S n=>h.SetOf (intKind P w) a S n
 | .ins C dx fs=>H dx=some (.own a)/\fs.length<=1000/\dx≠a/\h.get? a=some (PySem.W.instObj C dx) /\
   ∃ mA,h.Ns1 dx mA/\(∀ f,RelO (fs.lookup f) (mA f))/\PySem.Within mA (fs.map (·.1))
 | .own _=>∃ o,h.get? a=some o
 | .xd fs=>∃ mA,h.Ns1 a mA/\∀ f,RelO (fs.lookup f) (mA f)
 | .rng lo hi=>∃ t u v,h.get? a=some { cls:=.type "range", data:=.fields #[.int lo t,.int hi u,.int 1 v] }
 | .frz o u=>h.get? a=some o/\ObjOk H h a u
 | .tbl ps=>h.get? a=some { cls:=.none,data:=.fields ps }
 | .met f x=>h.get? a=some (PySem.W.methodObj (.ref f) (.ref x))
 | .ext φ=>φ h/\(∃ o,h.get? a=some o)/\∀ h1 h2:Heap,φ h1->(∀ o,h1.get? a=some o->h2.get? a=some o)->φ h2
def HOk (H:Hp)(h:Heap):Prop:=∀ a o,H a=some o->ObjOk P w H h a o
end
theorem ObjOk.lt (x:ObjOk P w H h a o):a < h.objs.size:=by
 cases o with
 | lst xs=>obtain ⟨_,_,_,_,e⟩:=x; exact aaf e
 | tup xs=>obtain ⟨_,_,_,p⟩:=x; exact p.lt
 | dK kvs=>obtain ⟨_,_,_,_,o,_,_,e,_⟩:=x; exact aaf e
 | dT kvs=>obtain ⟨_,_,_,_,o,_,_,e,_⟩:=x; exact aaf e
 | set S n=>obtain ⟨o,_,_,_,e,_⟩:=x; exact aaf e
 | ins C dx fs=>obtain ⟨_,_,_,e,_⟩:=x; exact aaf e
 | own y=>obtain ⟨_,e⟩:=x; exact aaf e
 | xd fs=>obtain ⟨_,⟨_,_,_,e,_⟩,_⟩:=x; exact aaf e
 | rng lo hi=>obtain ⟨_,_,_,e⟩:=x; exact aaf e
 | frz ob u=>obtain ⟨e,_⟩:=x; exact aaf e
 | tbl ps=>exact aaf (show h.get? a=some _ from x)
 | met f y=>exact aaf (show h.get? a=some _ from x)
 | ext φ=>obtain ⟨_,⟨_,e⟩,_⟩:=x; exact aaf e
theorem Paired.mapP {β:Type}{F G:α->β->Prop}{l₁:List α}{l₂:List β}(h:Paired F l₁ l₂)(f:∀ a b,F a b->G a b):Paired G l₁ l₂:=by
 induction h with
 | nil=>exact .nil
 | cons r t ih=>exact .cons (f _ _ r) ih
theorem ObjOk.stay (x:ObjOk P w H h a o)(k:∀ b u,(b=a∨H b=some (.own a))->h.get? b=some u->h'.get? b=some u)
  (ho:∀ b,H b=some (.own a)->H' b=some (.own a)) (ht:∀ b xs,H b=some (.tup xs)->H' b=some (.tup xs)):ObjOk P w H' h' a o:=by
 induction o with
 | lst xs=>obtain ⟨z,its,n,r,e⟩:=x; exact ⟨z,its,n,r,k _ _ (.inl rfl) e⟩
 | tup xs=>obtain ⟨z,its,r,ob,e,c⟩:=x; exact ⟨z,its,r,ob,k _ _ (.inl rfl) e,c⟩
 | dK kvs=>obtain ⟨z,y,vs,r,ob,es,ep,e,c⟩:=x; exact ⟨z,y,vs,r,ob,es,ep,k _ _ (.inl rfl) e,c⟩
 | dT kvs =>
  obtain ⟨z,y,xs,r,ob,es,ep,e,c⟩:=x
  exact ⟨z,y,xs,Paired.mapP r fun p q z=>⟨z.1,ht _ _ z.2.1,z.2.2⟩,ob,es,ep,k _ _ (.inl rfl) e,c⟩
 | set S n=>obtain ⟨ob,es,ep,t,e,c⟩:=x; exact ⟨ob,es,ep,t,k _ _ (.inl rfl) e,c⟩
 | ins C dx fs =>
  obtain ⟨d,z,ne,e,mA,⟨od,es,ep,e2,c⟩,r⟩:=x
  exact ⟨ho _ d,z,ne,k _ _ (.inl rfl) e,mA,⟨od,es,ep,k _ _ (.inr d) e2,c⟩,r⟩
 | own y=>obtain ⟨ob,e⟩:=x; exact ⟨ob,k _ _ (.inl rfl) e⟩
 | xd fs=>obtain ⟨mA,⟨od,es,ep,e,c⟩,r⟩:=x; exact ⟨mA,⟨od,es,ep,k _ _ (.inl rfl) e,c⟩,r⟩
 | rng lo hi=>obtain ⟨t,u,v,e⟩:=x; exact ⟨t,u,v,k _ _ (.inl rfl) e⟩
 | frz ob u ih=>obtain ⟨e,q⟩:=x; exact ⟨k _ _ (.inl rfl) e,ih q⟩
 | tbl ps =>
  have e:h.get? a=some { cls:=.none,data:=.fields ps }:=x
  show h'.get? a=some { cls:=.none,data:=.fields ps }
  exact k a _ (.inl rfl) e
 | met f y =>
  have e:h.get? a=some (PySem.W.methodObj (.ref f) (.ref y)):=x
  show h'.get? a=some (PySem.W.methodObj (.ref f) (.ref y))
  exact k a _ (.inl rfl) e
 | ext φ=>obtain ⟨p,⟨o,e⟩,st⟩:=x; exact ⟨st _ _ p fun o q=>k _ _ (.inl rfl) q,⟨o,k _ _ (.inl rfl) e⟩,st⟩
theorem HOk.lt (x:HOk P w H h)(e:H a=some o):a < h.objs.size:=(x a o e).lt
theorem HOk.fresh (x:HOk P w H h)(e:h.objs.size<=a):H a=none:=by
 cases q:H a with
 | none=>rfl
 | some u=>exact absurd (aan (x.lt q) e) (aaQ _)
theorem HOk.kept (x:HOk P w H h)(k:∀ b u,h.get? b=some u->h'.get? b=some u):HOk P w H h':=fun a o e =>
 (x a o e).stay (fun b u _ q=>k b u q) (fun _ q=>q) fun _ _ q=>q
theorem HOk.laid (x:HOk P w H h)(k:∀ b u,h.get? b=some u->h'.get? b=some u)(hp:h.objs.size<=a)(new:ObjOk P w (upd H a o) h' a o):HOk P w (upd H a o) h':=fun b u e=>by
 have hn:=x.fresh hp
 by_cases hb:b=a
 ·subst hb; rw [ad] at e; cases e; exact new
 ·rw [ae hb] at e
  exact (x b u e).stay (fun c v _ q=>k c v q) (fun c q=>by rw [ae (a8 q hn)]; exact q) fun c xs q=>by rw [ae (a8 q hn)]; exact q
def Rd (H:Hp)(a:Addr)(u:HO):Prop:=H a=some u∨∃ o,H a=some (.frz o u)
theorem Rd.ok {u:HO}(r:Rd H a u)(x:HOk P w H h):ObjOk P w H h a u:=by
 rcases r with r | ⟨o,r⟩
 ·exact x a u r
 ·obtain ⟨_,q⟩:=x a _ r
  exact q
def Mut:Option HO->Prop
 | some (.lst _)=>True
 | some (.dK _)=>True
 | some (.dT _)=>True
 | some (.set _ _)=>True
 | some (.ins _ _ _)=>True
 | some (.ext _)=>True
 | _=>False
section
variable     {x e:Addr} {o':HO}
theorem HOk.write (ok:HOk P w H h)(mu:Mut (H x))(he:e=x∨H e=some (.own x))(k:∀ b u,b≠e->h.get? b=some u->h'.get? b=some u)(heo:∃ u,h'.get? e=some u)
  (new:ObjOk P w (upd H x o') h' x o'):HOk P w (upd H x o') h':=fun b u q=>by
 have nown:∀ c y,H c=some (.own y)->c≠x:=fun c y r z=>by subst z; rw [r] at mu; exact mu
 have ntup:∀ c xs,H c=some (.tup xs)->c≠x:=fun c xs r z=>by subst z; rw [r] at mu; exact mu
 by_cases hb:b=x
 ·subst hb; rw [ad] at q; cases q; exact new
 ·rw [ae hb] at q
  by_cases hbe:b=e
  ·have q':H b=some (.own x):=by
    rcases he with z | z
    ·exact absurd (hbe.trans z) hb
    ·rw [hbe]; exact z
   rw [q] at q'; cases q'
   obtain ⟨v,hv⟩:=heo
   exact ⟨v,by rw [hbe]; exact hv⟩
  ·refine (ok b u q).stay (fun c v hc r=>k c v ?_ r) (fun c r=>by rw [ae (nown c b r)]; exact r) fun c xs r=>by rw [ae (ntup c xs r)]; exact r
   rcases hc with rfl | hc
   ·exact hbe
   ·rintro rfl
    rcases he with z | z
    ·exact nown c b hc z
    ·rw [hc] at z; cases z; exact hb rfl
end
structure Un (fs ex:List Addr)(H H':Hp)(h h':Heap):Prop where
 keep:∀ b o,h.get? b=some o->H b=none->b ∉ fs->b ∉ ex->h'.get? b=some o
 slot:∀ b o,h.get? b=some o->H b=none->b ∈ fs->b ∉ ex->∃ sl,h'.get? b=some { o with slots:=sl }
 free:∀ b o,h.get? b=some o->H b=none->b ∉ ex->H' b=none
 there:∀ b o,h.get? b=some o->b ∉ ex->∃ o',h'.get? b=some o'
 tups:∀ b xs,H b=some (.tup xs)->H' b=some (.tup xs)
 frzs:∀ b o u,H b=some (.frz o u)->H' b=some (.frz o u)
 tbls:∀ b ps,H b=some (.tbl ps)->∃ more,H' b=some (.tbl (ps++more))
section
variable {fs fs' ex ex':List Addr} {H1 H2:Hp} {h1 h2:Heap} {x e:Addr} 
theorem Un.any (u:Un fs ex H H1 h h1){ob:Obj}(q:h.get? b=some ob)(n:H b=none)(hx:b ∉ ex):∃ sl,h1.get? b=some { ob with slots:=sl }:=by
 by_cases hb:b ∈ fs
 ·exact u.slot b ob q n hb hx
 ·exact ⟨ob.slots,u.keep b ob q n hb hx⟩
theorem Un.kept (k:∀ b u,h.get? b=some u->h'.get? b=some u):Un fs ex H H h h' :=
 ⟨fun b ob q _ _ _=>k b ob q,fun b ob q _ _ _=>⟨ob.slots,k b ob q⟩,fun _ _ _ n _=>n,fun b ob q _=>⟨ob,k b ob q⟩,fun _ _ q=>q,fun _ _ _ q=>q,fun _ ps q=>⟨#[],by rw [q]; simp⟩⟩
theorem Un.refl:Un fs ex H H h h:=Un.kept fun _ _ q=>q
theorem Un.laid (k:∀ b u,h.get? b=some u->h'.get? b=some u)(hp:h.objs.size<=a)(hn:H a=none):Un fs ex H (upd H a o) h h' where
 keep:=fun b u q _ _ _=>k b u q
 slot:=fun b u q _ _ _=>⟨u.slots,k b u q⟩
 free:=fun b u q n _=>by rw [ae (aah (aan (aaf q) hp))]; exact n
 there:=fun b u q _=>⟨u,k b u q⟩
 tups:=fun b xs q=>by rw [ae (a8 q hn)]; exact q
 frzs:=fun b u xs q=>by rw [ae (a8 q hn)]; exact q
 tbls:=fun b ps q=>⟨#[],by rw [ae (a8 q hn),q]; simp⟩
theorem Un.write (mu:Mut (H x))(he:e=x∨H e=some (.own x))(k:∀ b u,b≠e->h.get? b=some u->h'.get? b=some u)(heo:∃ u,h'.get? e=some u):Un fs ex H (upd H x o) h h':=by
 have hx:∀ b,H b=none->b≠x:=fun b n z=>by subst z; rw [n] at mu; exact mu
 have hb:∀ b,H b=none->b≠e:=fun b n z=>by
  subst z
  rcases he with r | r
  ·exact hx b n r
  ·rw [n] at r; cases r
 have hm:∀ b u,H b=some u->¬ Mut (some u)->b≠x:=fun b u q nm z=>by subst z; rw [q] at mu; exact nm mu
 refine ⟨fun b u q n _ _=>k b u (hb b n) q,fun b u q n _ _=>⟨u.slots,k b u (hb b n) q⟩,fun b u q n _=>by rw [ae (hx b n)]; exact n,fun b u q _=>?_,
  fun b xs q=>by rw [ae (hm b _ q fun z=>z)]; exact q,fun b u xs q=>by rw [ae (hm b _ q fun z=>z)]; exact q,fun b ps q=>⟨#[],by rw [ae (hm b _ q fun z=>z),q]; simp⟩⟩
 by_cases hbe:b=e
 ·subst hbe; exact heo
 ·exact ⟨u,k b u hbe q⟩
end
def trk (h:Heap)(H:Hp):List Addr:=(List.range h.objs.size).filter fun a=>(H a).isSome
def sv (h:Heap)(H:Hp):Heap:=PySem.W.hideAll h (trk h H)
theorem nZ (h:Heap)(H:Hp):(sv h H).objs.size=h.objs.size:=PySem.W.hideAll_size _ _
theorem sx {o:Obj}(e:h.get? b=some o)(n:H b=none):(sv h H).get? b=some o :=
 PySem.W.hideAll_get _ e fun hm=>by
  have q:(H b).isSome=true:=(List.mem_filter.mp hm).2
  rw [n] at q; simp at q
theorem xI {o:Obj}(e:(sv h H).get? b=some o):h.get? b=some o/\H b=none:=by
 have e':h.get? b=some o:=PySem.W.of_hideAll (trk h H) e
 refine ⟨e',?_⟩
 cases q:H b with
 | none=>rfl
 | some x =>
  have hm:b ∈ trk h H:=List.mem_filter.mpr ⟨List.mem_range.mpr (aaf e'),by simp [q]⟩
  have z:(sv h H).get? b=none:=PySem.W.hideAll_none (trk h H) hm
  rw [z] at e; cases e
def il (g h:Heap)(L:Addr):List (Addr×Obj):=(List.range h.objs.size).filterMap fun a=>if a=L∨(g.get? a).isSome=true then none else (h.get? a).map fun o=>(a,o)
theorem dr {g:Heap}{o:Obj}(h1:a≠L)(h2:g.get? a=none)(h3:h.get? a=some o):(a,o) ∈ il g h L :=
 List.mem_filterMap.mpr ⟨a,List.mem_range.mpr (aaf h3),by simp [h1,h2,h3]⟩
theorem gx {g:Heap}{p:Addr×Obj}(hp:p ∈ il g h L):p.1≠L/\g.get? p.1=none/\h.get? p.1=some p.2:=by
 obtain ⟨b,_,e⟩:=List.mem_filterMap.mp hp
 split at e
 ·cases e
 ·rename_i hn
  cases q:h.get? b with
  | none=>rw [q] at e; simp at e
  | some u =>
   rw [q] at e
   simp only [Option.map_some,Option.some.injEq] at e
   subst e
   refine ⟨fun z=>hn (.inl z),?_,q⟩
   show g.get? b=none
   cases r:g.get? b with
   | none=>rfl
   | some v=>exact (hn (.inr (by simp [r]))).elim
def af (g h:Heap)(L d:Addr):List (Addr×Obj):=(il g h L).filter fun p=>decide (p.1≠d)
theorem sy {g:Heap}:News g L h (il g h L):=fun p hp=>let ⟨a,b,c⟩:=gx hp; ⟨c,a,b⟩
structure Mod (K:Frag)(mg:Str->Option Value)(base:Heap):Prop where
 kin:K.In base
 glob:base.Ns mainGlobals mg
 blt:∃ mb,base.Ns builtinsNs mb/\∀ x:Str,x ≠ "__name__" -> mb x=bootBuiltins x
 nolimit:base.NoLimit
structure Cx where
 prog:Program
 w:World
 K:Frag
 mg:Str->Option Value
 base:Heap
 A:Around
 N:List Str
 s₀:Shared
 H₀:Hp
 env:Env
 outer:List Env
 stack:List Env
 ex:List Addr
 fn:Str->Bool
 calm:Bool
 pn:List (Addr×Obj)
 xe:Value->Shared->Prop
variable{X:Cx}
def frs (l:List Env):List Addr:=l.filterMap (·.frame)
abbrev Cx.fs (X:Cx):List Addr:=frs X.outer
def Vis (sc:Scope)(x:Str):Prop:=sc.names.lookup x=some .local∨sc.names.lookup x=some .cell∨sc.names.lookup x=some .free
def Loc (sc:Scope)(x:Str):Prop:=sc.names.lookup x=some .local∨sc.names.lookup x=some .cell
def Look (env:Env)(h:Heap)(m:Str->Option Value)(x:Str)(u:Value):Prop :=
 (env.kindOf x=some .local/\m x=some u)∨((env.kindOf x=some .cell∨env.kindOf x=some .free)/\∃ c,env.cells.lookup x=some c/\h.IsCell c (some u))
structure Cx.Ok (X:Cx):Prop where
 mod:Mod X.K X.mg X.base
 kind:X.env.scope.kind=.function
 glob:X.env.globals=mainGlobals
 blt:X.env.builtins=builtinsNs
 above:X.s₀.heap.objs.size<=X.env.locals
 inj:∀ x y c,X.env.cells.lookup x=some c->X.env.cells.lookup y=some c->x=y
 has:∀ x,(X.env.kindOf x=some .cell∨X.env.kindOf x=some .free)->∃ c,X.env.cells.lookup x=some c
 cab:∀ x c,X.fn x=true->X.env.cells.lookup x=some c->X.s₀.heap.objs.size<=c
 hd:X.calm=true->X.A.handled=none
 frames:X.A.frames=some X.stack
 stk:X.stack=X.outer∨(X.stack=X.env::X.outer/\X.env.frame=some X.env.locals)
 exf:∀ b ∈ X.ex,b≠X.env.locals/\∀ x c,X.env.cells.lookup x=some c->c≠b
 bs:∀ b o,X.base.get? b=some o->X.s₀.heap.get? b=some o/\X.H₀ b=none
 bsz:X.base.objs.size<=X.s₀.heap.objs.size
 noex:∀ b o,X.base.get? b=some o->b ∉ X.ex
 exfs:∀ b ∈ X.ex,b ∉ X.fs
 funs:X.s₀.heap.FunFrames X.base X.outer
 frf:∀ b ∈ X.fs,X.H₀ b=none
structure Inv (X:Cx)(pins:List (Addr×Obj))(σ:List (Option V))(H:Hp)(s:Shared):Prop where
 ok:X.Ok
 os:s.os=X.s₀.os
 bare:AllBare s.gens
 base:Un X.fs X.ex X.H₀ H X.s₀.heap s.heap
 loc:∃ m,s.heap.Ns X.env.locals m/\∀ (i:Nat) (x:Str) (v:V),X.N[i]?=some x->σ[i]?=some (some v)->Vis X.env.scope x->∃ u,RelV v u/\Look X.env s.heap m x u
 cell:∀ x c,X.env.cells.lookup x=some c->∃ v,s.heap.IsCell c v
 free:H X.env.locals=none
 freeC:∀ x c,X.env.cells.lookup x=some c->H c=none
 pin:∀ p ∈ X.pn++pins,s.heap.get? p.1=some p.2/\H p.1=none/\p.1≠X.env.locals/\p.1 ∉ X.fs/\∀ v,p.2.data≠.cell v
 hok:HOk X.prog X.w H s.heap
 len:σ.length=X.N.length
section
variable   {σ:List (Option V)}   
theorem Cx.Ok.nofr (ok:X.Ok){o:Obj}(e:X.base.get? b=some o):b ∉ X.fs:=fun hb=>by
 have:=(ok.funs.mem hb).1
 rw [e] at this; cases this
theorem Inv.bs (I:Inv X pins σ H s):∀ b o,X.base.get? b=some o->s.heap.get? b=some o/\H b=none:=fun b o e =>
 ⟨I.base.keep b o (I.ok.bs b o e).1 (I.ok.bs b o e).2 (I.ok.nofr e) (I.ok.noex b o e),I.base.free b o (I.ok.bs b o e).1 (I.ok.bs b o e).2 (I.ok.noex b o e)⟩
theorem Inv.bk (I:Inv X pins σ H s):∀ b o,X.base.get? b=some o->s.heap.get? b=some o:=fun b o e=>(I.bs b o e).1
theorem Inv.mod (I:Inv X pins σ H s):Mod X.K X.mg X.base:=I.ok.mod
theorem Inv.kIn (I:Inv X pins σ H s):X.K.In s.heap:=I.ok.mod.kin.keeps I.bk
theorem Inv.lt (I:Inv X pins σ H s):X.env.locals < s.heap.objs.size:=let ⟨_,hn,_⟩:=I.loc; hn.lt
theorem Inv.sz (I:Inv X pins σ H s):X.s₀.heap.objs.size<=s.heap.objs.size:=aav I.ok.above (abi I.lt)
theorem Inv.nofs (I:Inv X pins σ H s)(h:s.heap.objs.size<=a):a ∉ X.fs:=fun hb=>by
 obtain ⟨_,o,ho,_⟩:=I.ok.funs.mem hb
 exact absurd (aan (aaf ho) (aav I.sz h)) (aaQ _)
theorem Inv.cne (I:Inv X pins σ H s):∀ x c,X.env.cells.lookup x=some c->c≠X.env.locals:=fun x c e z=>by
 obtain ⟨v,o,ho,hd⟩:=I.cell x c e
 obtain ⟨m,⟨o',es,ep,ho',hd',_⟩,_⟩:=I.loc
 rw [z,ho'] at ho; cases ho; rw [hd'] at hd; cases hd
theorem Inv.funs (I:Inv X pins σ H s):s.heap.FunFrames X.base X.outer:=by
 have all:∀ (l:List Env),(∀ b ∈ frs l,b ∈ X.fs)->X.s₀.heap.FunFrames X.base l->s.heap.FunFrames X.base l:=by
  intro l
  induction l with
  | nil=>intro _ _; trivial
  | cons env r ih =>
   intro hs hl
   obtain ⟨hk,⟨L,o,hf,hn,ho,hd⟩,hr⟩:=hl
   have hL:L ∈ X.fs:=hs L (by unfold frs; rw [abg,hf]; exact aab)
   obtain ⟨sl,e⟩:=I.base.slot L o ho (I.ok.frf L hL) hL fun z=>I.ok.exfs L z hL
   exact ⟨hk,⟨L,_,hf,hn,e,hd⟩,ih (fun b hb=>hs b (by unfold frs; rw [abg,hf]; exact aad _ hb)) hr⟩
 exact all X.outer (fun _ hb=>hb) I.ok.funs
theorem Inv.stack (I:Inv X pins σ H s):s.heap.FunFrames X.base X.stack:=by
 rcases I.ok.stk with e | ⟨e,hf⟩
 ·rw [e]; exact I.funs
 ·rw [e]
  obtain ⟨m,hn,_⟩:=I.loc
  refine .cons (by rw [I.ok.kind]; decide) hf hn ?_ I.funs
  exact Heap.get?_none_of_le (aav I.ok.bsz I.ok.above)
theorem Inv.stkSub (I:Inv X pins σ H s):∀ b ∈ frs X.stack,b ∈ X.env.locals::X.fs:=fun b hb=>by
 rcases I.ok.stk with e | ⟨e,hf⟩
 ·rw [e] at hb; exact aad _ hb
 ·rw [e] at hb
  unfold frs at hb
  rw [abg,hf] at hb
  exact hb
theorem Inv.stkFree (I:Inv X pins σ H s):∀ b ∈ frs X.stack,H b=none:=fun b hb=>by
 rcases List.mem_cons.mp (I.stkSub b hb) with e | hb
 ·rw [e]; exact I.free
 ·obtain ⟨_,o,ho,_⟩:=I.ok.funs.mem hb
  exact I.base.free b o ho (I.ok.frf b hb) fun z=>I.ok.exfs b z hb
theorem Inv.step {g':Array GenState}{d':Drawn}(I:Inv X pins σ H s)
  (hch:∀ b ∈ ch,(b ∈ X.ex∨X.s₀.heap.objs.size<=b)/\b≠X.env.locals/\(∀ x c,X.env.cells.lookup x=some c->c≠b)/\∀ p ∈ X.pn++pins,p.1≠b)
  (keep:∀ b o,b≠X.env.locals->b ∉ X.fs->b ∉ ch->s.heap.get? b=some o->H b=none->h'.get? b=some o)
  (slot:∀ b o,b≠X.env.locals->b ∈ X.fs->b ∉ ch->s.heap.get? b=some o->H b=none->∃ sl,h'.get? b=some { o with slots:=sl }) (free:∀ b o,b ∉ ch->s.heap.get? b=some o->H b=none->H' b=none)
  (there:∀ b o,b ∉ ch->s.heap.get? b=some o->∃ o',h'.get? b=some o')
  (tups:∀ b xs,H b=some (.tup xs)->H' b=some (.tup xs)) (frzs:∀ b o u,H b=some (.frz o u)->H' b=some (.frz o u)) (tbls:∀ b ps,H b=some (.tbl ps)->∃ more,H' b=some (.tbl (ps++more)))
  (ns:∀ m,s.heap.Ns X.env.locals m->h'.Ns X.env.locals m) (hok:HOk X.prog X.w H' h') (hg:AllBare g') :
  Inv X pins σ H' { s with heap:=h',gens:=g',drawn:=d',toks:=t' }:=by
 have neL:∀ b o,X.s₀.heap.get? b=some o->b≠X.env.locals:=fun b o e=>aah (aan (aaf e) I.ok.above)
 have neC:∀ b o,X.s₀.heap.get? b=some o->b ∉ X.ex->b ∉ ch:=fun b o e hx hb=>by
  rcases (hch b hb).1 with z | z
  ·exact hx z
  ·exact absurd (aan (aaf e) z) (aaQ _)
 have cellK:∀ x c,X.env.cells.lookup x=some c->∀ v,s.heap.IsCell c v->h'.IsCell c v:=fun x c e v ⟨o,ho,hd⟩=>by
  have nch:c ∉ ch:=fun z=>(hch c z).2.2.1 x c e rfl
  by_cases hc:c ∈ X.fs
  ·obtain ⟨sl,q⟩:=slot c o (I.cne x c e) hc nch ho (I.freeC x c e)
   exact ⟨_,q,hd⟩
  ·exact ⟨o,keep c o (I.cne x c e) hc nch ho (I.freeC x c e),hd⟩
 refine ⟨I.ok,I.os,hg,⟨fun b o e n hb hx=>?_,fun b o e n hb hx=>?_,fun b o e n hx=>?_,fun b o e hx=>?_,fun b xs e=>tups b xs (I.base.tups b xs e),fun b o xs e=>frzs b o xs (I.base.frzs b o xs e),fun b ps e=>?_⟩,?_,fun x c e=>?_,?_,fun x c e=>?_,fun p hp=>?_,hok,I.len⟩
 ·exact keep b o (neL b o e) hb (neC b o e hx) (I.base.keep b o e n hb hx) (I.base.free b o e n hx)
 ·obtain ⟨sl,e1⟩:=I.base.slot b o e n hb hx
  obtain ⟨sl',e2⟩:=slot b _ (neL b o e) hb (neC b o e hx) e1 (I.base.free b o e n hx)
  exact ⟨sl',e2⟩
 ·obtain ⟨o',e1⟩:=I.base.there b o e hx
  exact free b o' (neC b o e hx) e1 (I.base.free b o e n hx)
 ·obtain ⟨o',e1⟩:=I.base.there b o e hx
  exact there b o' (neC b o e hx) e1
 ·obtain ⟨m1,e1⟩:=I.base.tbls b ps e
  obtain ⟨m2,e2⟩:=tbls b _ e1
  exact ⟨m1++m2,by rw [e2,Array.append_assoc]⟩
 ·obtain ⟨m,hn,hl⟩:=I.loc
  refine ⟨m,ns m hn,fun i x v e1 e2 e3=>?_⟩
  obtain ⟨u,r,l⟩:=hl i x v e1 e2 e3
  refine ⟨u,r,?_⟩
  rcases l with l | ⟨k,c,e,z⟩
  ·exact .inl l
  ·exact .inr ⟨k,c,e,cellK x c e _ z⟩
 ·obtain ⟨v,z⟩:=I.cell x c e
  exact ⟨v,cellK x c e v z⟩
 ·obtain ⟨m,⟨o,_,_,ho,_⟩,_⟩:=I.loc
  exact free _ o (fun z=>(hch _ z).2.1 rfl) ho I.free
 ·obtain ⟨v,o,ho,hd⟩:=I.cell x c e
  exact free c o (fun z=>(hch c z).2.2.1 x c e rfl) ho (I.freeC x c e)
 ·obtain ⟨e,n,ne,nf,d⟩:=I.pin p hp
  have nch:p.1 ∉ ch:=fun z=>(hch p.1 z).2.2.2 p hp rfl
  exact ⟨keep p.1 p.2 ne nf nch e n,free p.1 p.2 nch e n,ne,nf,d⟩
theorem Inv.un (I:Inv X pins σ H s)(u:Un X.fs [] H H' s.heap h')(hok:HOk X.prog X.w H' h'):Inv X pins σ H' { s with heap:=h',toks:=t' }:=by
 obtain ⟨m,⟨o,es,ep,ho,r⟩,_⟩:=id I.loc
 obtain ⟨sl,hL⟩:=u.any ho I.free (by simp)
 exact I.step (g':=s.gens) (d':=s.drawn) (ch:=[]) (fun _ z=>nomatch z) (fun b o _ hb _ e n=>u.keep b o e n hb (by simp)) (fun b o _ hb _ e n=>u.slot b o e n hb (by simp)) (fun b o _ e n=>u.free b o e n (by simp)) (fun b o _ e=>u.there b o e (by simp)) u.tups u.frzs u.tbls (fun m' hm=>by
  obtain ⟨o',es',ep',ho',r'⟩:=hm
  rw [ho] at ho'; cases ho'
  exact ⟨_,es',ep',hL,r'⟩) hok I.bare
theorem Inv.call {g':Array GenState}{d':Drawn}(I:Inv X pins σ H s)(u:Un (frs X.stack) ch H H' s.heap h')(hok:HOk X.prog X.w H' h')(hg:AllBare g')
  (hch:∀ b ∈ ch,(b ∈ X.ex∨X.s₀.heap.objs.size<=b)/\b≠X.env.locals/\(∀ x c,X.env.cells.lookup x=some c->c≠b)/\∀ p ∈ X.pn++pins,p.1≠b) :
  Inv X pins σ H' { s with heap:=h',gens:=g',drawn:=d',toks:=t' }:=by
 obtain ⟨m,⟨o,es,ep,ho,r⟩,_⟩:=id I.loc
 obtain ⟨sl,hL⟩:=u.any ho I.free fun z=>(hch _ z).2.1 rfl
 exact I.step (ch:=ch) hch (fun b o hL hb hc e n=>u.keep b o e n (fun z=>(List.mem_cons.mp (I.stkSub b z)).elim hL hb) hc) (fun b o _ _ hc e n=>u.any e n hc) (fun b o hc e n=>u.free b o e n hc) (fun b o hc e=>u.there b o e hc) u.tups u.frzs u.tbls (fun m' hm=>by
  obtain ⟨o',es',ep',ho',r'⟩:=hm
  rw [ho] at ho'; cases ho'
  exact ⟨_,es',ep',hL,r'⟩) hok hg
theorem Inv.turned (I:Inv X pins σ H s)(k:∀ b o,b≠it->s.heap.get? b=some o->h'.get? b=some o)(hn:H it=none)(hL:it≠X.env.locals)
  (h1:it ∈ X.ex∨X.s₀.heap.objs.size<=it) (h2:∀ x c,X.env.cells.lookup x=some c->c≠it) (h3:∀ p ∈ X.pn++pins,p.1≠it):Inv X pins σ H { s with heap:=h',toks:=t' }:=by
 have nit:∀ b u,H b=some u->b≠it:=fun b u e z=>by rw [z,hn] at e; cases e
 refine I.step (g':=s.gens) (d':=s.drawn) (ch:=[it]) (fun b hb=>?_) (fun b o _ _ hc e _=>k b o (fun z=>hc (by simp [z])) e) (fun b o _ _ hc e _=>⟨o.slots,k b o (fun z=>hc (by simp [z])) e⟩) (fun _ _ _ _ n=>n)
  (fun b o hc e=>⟨o,k b o (fun z=>hc (by simp [z])) e⟩) (fun _ _ e=>e) (fun _ _ _ e=>e) (fun b ps e=>⟨#[],by rw [e]; simp⟩) (fun m hm=>?_) (fun b u e=>?_) I.bare
 ·have e:b=it:=(by exists hb)
  subst e
  exact ⟨h1,hL,h2,h3⟩
 ·obtain ⟨o,es,ep,ho,r⟩:=hm
  exact ⟨o,es,ep,k _ o (abu hL) ho,r⟩
 ·refine (I.hok b u e).stay (fun c v hc q=>k c v ?_ q) (fun _ q=>q) fun _ _ q=>q
  rcases hc with z | z
  ·rw [z]; exact nit b u e
  ·exact nit c _ z
theorem Inv.tok (I:Inv X pins σ H s)(t:Nat):Inv X pins σ H { s with toks:=t }:=I.un (h':=s.heap) (t':=t) Un.refl I.hok
theorem Inv.kept (I:Inv X pins σ H s)(k:∀ b u,s.heap.get? b=some u->h'.get? b=some u):Inv X pins σ H { s with heap:=h',toks:=t' }:=I.un (Un.kept k) (I.hok.kept k)
theorem Inv.laid (I:Inv X pins σ H s)(k:∀ b u,s.heap.get? b=some u->h'.get? b=some u)(hp:s.heap.objs.size<=a)(new:ObjOk X.prog X.w (upd H a o) h' a o) :
  Inv X pins σ (upd H a o) { s with heap:=h',toks:=t' }:=I.un (Un.laid k hp (I.hok.fresh hp)) (I.hok.laid k hp new)
theorem Inv.write {x e:Addr}(I:Inv X pins σ H s)(mu:Mut (H x))(he:e=x∨H e=some (.own x))(k:∀ b u,b≠e->s.heap.get? b=some u->h'.get? b=some u)(heo:∃ u,h'.get? e=some u)
  (new:ObjOk X.prog X.w (upd H x o) h' x o):Inv X pins σ (upd H x o) { s with heap:=h',toks:=t' }:=I.un (Un.write mu he k heo) (I.hok.write mu he k heo new)
theorem Inv.pins_of {pins':List (Addr×Obj)}(I:Inv X pins σ H s)(h:∀ p ∈ pins',s.heap.get? p.1=some p.2/\H p.1=none/\p.1≠X.env.locals/\p.1 ∉ X.fs/\∀ v,p.2.data≠.cell v):Inv X pins' σ H s :=
 ⟨I.ok,I.os,I.bare,I.base,I.loc,I.cell,I.free,I.freeC,fun p hp=>(List.mem_append.mp hp).elim (fun z=>I.pin p (aaw _ z)) (h p),I.hok,I.len⟩
theorem kW (hN:N.Nodup)(a:N[i]?=some x)(b:N[j]?=some x):i=j:=by
 obtain ⟨h1,e1⟩:=List.getElem?_eq_some_iff.mp a
 obtain ⟨h2,e2⟩:=List.getElem?_eq_some_iff.mp b
 exact (abw hN).mp (e1.trans e2.symm)
theorem i6 {M:Model}{Q:Unit->Shared->Prop}(I:Inv X pins σ H s)(hN:X.N.Nodup)(hi:X.N[i]?=some x)(hx:Loc X.env.scope x)(r:RelV v u)
  (h:∀ s',Inv X pins (σ.set i (some v)) H s'->(∃ a,Heap.SameBut a s.heap s'.heap/\(a=X.env.locals∨X.env.cells.lookup x=some a))->Q () s') (hf:autoParam (X.fn x=true∨X.env.scope.names.lookup x=some .local) L2.aF._auto_1):wpAny M A (storeName X.env x u) Q E s:=by
 obtain ⟨m,hn,hl⟩:=id I.loc
 have hcls:(X.env.scope.kind == .class || (X.env.scope.kind == .module && X.env.locals != X.env.globals))=false:=by rw [I.ok.kind]; rfl
 have hiσ:i < σ.length:=by rw [I.len]; exact (List.getElem?_eq_some_iff.mp hi).1
 have cne:=I.cne
 have tracked:∀ {a:Addr} {h':Heap},(∃ o,s.heap.get? a=some o/\H a=none)->Heap.SameBut a s.heap h'->HOk X.prog X.w H h':=fun {a h'} ha hs b ob e=>by
  obtain ⟨_,_,hfree⟩:=ha
  refine (I.hok b ob e).stay (fun c w' hc q=>(hs.2 c ?_).trans q) (fun _ q=>q) fun _ _ q=>q
  rintro rfl
  rcases hc with rfl | hc
  ·rw [hfree] at e; cases e
  ·rw [hfree] at hc; cases hc
 rcases hx with hk | hk
 ·refine wpAny_storeName_local hk hn (fun h' hn' hs=>?_) hcls
  obtain ⟨oL,_,_,hoL,_⟩:=id hn
  refine h _ ⟨I.ok,I.os,I.bare,⟨fun b o e n hb hx=>?_,fun b o e n hb hx=>?_,I.base.free,fun b o e hx=>?_,I.base.tups,I.base.frzs,I.base.tbls⟩,⟨_,hn',fun j y v' e1 e2 e3=>?_⟩,fun y c e=>?_,I.free,I.freeC,fun p hp=>?_,tracked ⟨oL,hoL,I.free⟩ hs,by simpa using I.len⟩ ⟨_,hs,.inl rfl⟩
  ·exact (hs.2 b (aah (aan (aaf e) I.ok.above))).trans (I.base.keep b o e n hb hx)
  ·obtain ⟨sl,e1⟩:=I.base.slot b o e n hb hx
   exact ⟨sl,(hs.2 b (aah (aan (aaf e) I.ok.above))).trans e1⟩
  ·obtain ⟨o',e1⟩:=I.base.there b o e hx
   exact ⟨o',(hs.2 b (aah (aan (aaf e) I.ok.above))).trans e1⟩
  ·by_cases hj:j=i
   ·subst hj
    rw [hi] at e1; cases e1
    rw [List.getElem?_set_self hiσ] at e2
    cases e2
    exact ⟨u,r,.inl ⟨hk,by simp⟩⟩
   ·rw [List.getElem?_set_ne (abu hj)] at e2
    obtain ⟨u',r',q⟩:=hl j y v' e1 e2 e3
    refine ⟨u',r',?_⟩
    rcases q with ⟨k,e⟩ | ⟨k,c,e,z⟩
    ·refine .inl ⟨k,?_⟩
     have:y≠x:=fun e=>hj (kW hN e1 (e ▸ hi))
     simp [this,e]
    ·exact .inr ⟨k,c,e,z.sameBut hs (cne y c e)⟩
  ·obtain ⟨w',z⟩:=I.cell y c e
   exact ⟨w',z.sameBut hs (cne y c e)⟩
  ·obtain ⟨e,n,ne,nf,d⟩:=I.pin p hp
   exact ⟨(hs.2 p.1 ne).trans e,n,ne,nf,d⟩
 ·have hfn:X.fn x=true:=by
   rcases hf with z | z
   ·exact z
   ·rw [z] at hk; cases hk
  obtain ⟨c,hc⟩:=I.ok.has x (.inl hk)
  obtain ⟨w',z⟩:=I.cell x c hc
  refine wpAny_storeName_cell I.ok.kind hk hc z (fun h' hc' hs=>?_)
  obtain ⟨oc,hoc,hocd⟩:=id z
  refine h { s with heap:=h' } ⟨I.ok,I.os,I.bare,⟨fun b o e n hb hx=>?_,fun b o e n hb hx=>?_,I.base.free,fun b o e hx=>?_,I.base.tups,I.base.frzs,I.base.tbls⟩,⟨m,hn.sameBut hs (abu (cne x c hc)),fun j y v' e1 e2 e3=>?_⟩,fun y c' e=>?_,I.free,I.freeC,fun p hp=>?_,tracked ⟨oc,hoc,I.freeC x c hc⟩ hs,by simpa using I.len⟩ ⟨c,hs,.inr hc⟩
  ·exact (hs.2 b (aah (aan (aaf e) (I.ok.cab x c hfn hc)))).trans (I.base.keep b o e n hb hx)
  ·obtain ⟨sl,e1⟩:=I.base.slot b o e n hb hx
   exact ⟨sl,(hs.2 b (aah (aan (aaf e) (I.ok.cab x c hfn hc)))).trans e1⟩
  ·obtain ⟨o',e1⟩:=I.base.there b o e hx
   exact ⟨o',(hs.2 b (aah (aan (aaf e) (I.ok.cab x c hfn hc)))).trans e1⟩
  ·by_cases hj:j=i
   ·subst hj
    rw [hi] at e1; cases e1
    rw [List.getElem?_set_self hiσ] at e2
    cases e2
    exact ⟨u,r,.inr ⟨.inl hk,c,hc,hc'⟩⟩
   ·rw [List.getElem?_set_ne (abu hj)] at e2
    obtain ⟨u',r',q⟩:=hl j y v' e1 e2 e3
    refine ⟨u',r',?_⟩
    rcases q with q | ⟨k,c',e,z'⟩
    ·exact .inl q
    ·refine .inr ⟨k,c',e,z'.sameBut hs ?_⟩
     rintro rfl
     exact hj (kW hN e1 (I.ok.inj _ _ _ e hc ▸ hi))
  ·by_cases hcc:c'=c
   ·subst hcc; exact ⟨_,hc'⟩
   ·obtain ⟨w2,z2⟩:=I.cell y c' e
    exact ⟨w2,z2.sameBut hs hcc⟩
  ·obtain ⟨e,n,ne,nf,d⟩:=I.pin p hp
   refine ⟨(hs.2 p.1 ?_).trans e,n,ne,nf,d⟩
   intro q
   rw [q,hoc] at e
   have q':oc=p.2:=aaj e
   exact d w' (by rw [← q']; exact hocd)
theorem kX {M:Model}{Q:Unit->Shared->Prop}(I:Inv X pins σ H s)(hN:X.N.Nodup)(hi:X.N[i]?=some x)(hx:Loc X.env.scope x)(r:RelV v u)
  (h:∀ s',Inv X pins (σ.set i (some v)) H s'->Q () s') (hf:autoParam (X.fn x=true∨X.env.scope.names.lookup x=some .local) L2.aF._auto_1):wpAny M A (storeName X.env x u) Q E s :=
 i6 I hN hi hx r (fun s' I' _=>h s' I') hf
theorem Inv.call' (I:Inv X pins σ H s)(ho:s'.os=s.os)(u:Un (frs X.stack) ch H H' s.heap s'.heap)(hok:HOk X.prog X.w H' s'.heap)(hg:AllBare s'.gens)
  (hch:∀ b ∈ ch,(b ∈ X.ex∨X.s₀.heap.objs.size<=b)/\b≠X.env.locals/\(∀ x c,X.env.cells.lookup x=some c->c≠b)/\∀ p ∈ X.pn++pins,p.1≠b):Inv X pins σ H' s':=by
 obtain ⟨h',g',d',t',o'⟩:=s'
 have e:o'=s.os:=ho
 subst e
 exact I.call (g':=g') (t':=t') (d':=d') u hok hg hch
end
abbrev XK:=Value->Option Addr->Hp->Prop
abbrev St:=List (Option V)
variable{σ:St}
abbrev VK:=V->Hp->Prop
abbrev TE:=St->Hp->VK->Prop
variable{ta tb te tl:TE}
abbrev TT:=St->Hp->(Bool->Hp->Prop)->Prop
variable{tc:TT}
abbrev TA:=St->Hp->(List V->Hp->Prop)->Prop
variable{t:TA}
structure Ends where
 nx:St->Hp->Prop
 rt:VK
 bk:St->Hp->Prop:=fun _ _=>False
 ct:St->Hp->Prop:=fun _ _=>False
abbrev TS:=Ends->St->Hp->Prop
def EP (X:Cx)(pins:List (Addr×Obj))(σ:St)(Q:VK)(u:Value)(s':Shared):Prop:=∃ v H',Inv X pins σ H' s'/\RelV v u/\Q v H'
def TP (X:Cx)(pins:List (Addr×Obj))(σ:St)(Q:Bool->Hp->Prop)(b:Bool)(s':Shared):Prop:=∃ H',Inv X pins σ H' s'/\Q b H'
def AP (X:Cx)(pins:List (Addr×Obj))(σ:St)(Q:List V->Hp->Prop)(us:List Value)(s':Shared):Prop:=∃ vs H',Inv X pins σ H' s'/\Vals vs us/\Q vs H'
def SP (X:Cx)(pins:List (Addr×Obj))(D:Ends)(f:Flow)(s':Shared):Prop :=
 match f with
 | .next=>∃ σ' H',Inv X pins σ' H' s'/\D.nx σ' H'
 | .brk=>∃ σ' H',Inv X pins σ' H' s'/\D.bk σ' H'
 | .cont=>∃ σ' H',Inv X pins σ' H' s'/\D.ct σ' H'
 | .ret u=>∃ v σ' H',Inv X pins σ' H' s'/\RelV v u/\D.rt v H'
def PE (X:Cx)(e:Expr)(t:TE):Prop :=
 ∀ (pins:List (Addr×Obj)) (s:Shared) (σ:St) (H:Hp) (Q:VK),Inv X pins σ H s->t σ H Q->wpAny (model X.prog X.w) X.A (eval e X.env) (EP X pins σ Q) X.xe s
def PT (X:Cx)(e:Expr)(t:TT):Prop :=
 ∀ (pins:List (Addr×Obj)) (s:Shared) (σ:St) (H:Hp) (Q:Bool->Hp->Prop),Inv X pins σ H s->t σ H Q->wpAny (model X.prog X.w) X.A (isTrue e X.env (eval e X.env)) (TP X pins σ Q) X.xe s
def PW (X:Cx)(e:Expr)(t:TT):Prop :=
 ∀ (whole:Sem Value) (pins:List (Addr×Obj)) (s:Shared) (σ:St) (H:Hp) (Q:Bool->Hp->Prop),Inv X pins σ H s->t σ H Q->wpAny (model X.prog X.w) X.A (isTrue e X.env whole) (TP X pins σ Q) X.xe s
theorem PW.pt {t:TT}(h:PW X e t):PT X e t:=h _
def PA (X:Cx)(es:List Expr)(t:TA):Prop :=
 ∀ (pos:Pos) (pins:List (Addr×Obj)) (s:Shared) (σ:St) (H:Hp) (Q:List V->Hp->Prop),Inv X pins σ H s->t σ H Q->wpAny (model X.prog X.w) X.A (spliced (backTo pos (starEach es X.env))) (AP X pins σ Q) X.xe s
def PS (X:Cx)(st:Stmt)(t:TS):Prop :=
 ∀ (pins:List (Addr×Obj)) (s:Shared) (σ:St) (H:Hp) (D:Ends),Inv X pins σ H s->t D σ H->wpAny (model X.prog X.w) X.A (exec st X.env) (SP X pins D) X.xe s
def PSs (X:Cx)(st:List Stmt)(t:TS):Prop :=
 ∀ (pins:List (Addr×Obj)) (s:Shared) (σ:St) (H:Hp) (D:Ends),Inv X pins σ H s->t D σ H->wpAny (model X.prog X.w) X.A (execs st X.env) (SP X pins D) X.xe s
theorem thn {t:Sem α}{Q Q':α->Shared->Prop}{M:Model}(h:wpAny M A t Q E s)(hQ:∀ a s,Q a s->Q' a s):wpAny M A t Q' E s:=abh h hQ fun _ _ x=>x
section
theorem bin {a b:Expr}(ha:PE X a ta)(hb:PE X b tb)(I:Inv X pins σ H s)(h:ta σ H fun x H1=>tb σ H1 fun y H2=>R x y H2)
   {Q:α->Shared->Prop} {f:Value->Value->Sem α}
  (hf:∀ v u s2 x y H2,Inv X pins σ H2 s2->RelV x v->RelV y u->R x y H2->wpAny (model X.prog X.w) X.A (f v u) Q X.xe s2) :
  wpAny (model X.prog X.w) X.A (eval a X.env) (fun v s₁=>wpAny (model X.prog X.w) X.A (eval b X.env) (fun u s₂=>wpAny (model X.prog X.w) X.A (f v u) Q X.xe s₂) X.xe s₁) X.xe s:=by
 refine thn (ha pins s σ H _ I h) fun v s1 ⟨x,H1,I1,r1,q1⟩=>?_
 refine thn (hb pins s1 σ H1 _ I1 q1) fun u s2 ⟨y,H2,I2,r2,q2⟩=>?_
 exact hf v u s2 x y H2 I2 r1 r2 q2
def cO (i:Nat):TE:=fun σ H Q=>∃ v,σ[i]?=some (some v)/\Q v H
def tC (v:V):TE:=fun _ H Q=>Q v H
theorem Cy    (hN:X.N[i]?=some x) (hv:Vis X.env.scope x) (hd:autoParam ((x == ("__debug__" : Str))=false) L2.aD._auto_1) (hcd:autoParam ((x == ("__classdict__" : Str))=false) L2.aD._auto_1):PE X (.Name x pos) (cO i):=by
 intro pins s σ H Q I h
 obtain ⟨v,e,h⟩:=h
 obtain ⟨m,hn,hl⟩:=I.loc
 obtain ⟨u,r,l⟩:=hl i x v hN e hv
 have fin:EP X pins σ Q u s:=⟨v,H,I,r,h⟩
 rcases l with ⟨hk,hm⟩ | ⟨hk,c,hc,hcell⟩
 ·exact wpAny_Name (wpAny_loadName_local I.ok.kind hk hn hm fin) hd
 ·rcases hk with hk | hk
  ·exact wpAny_Name (wpAny_loadName_cell I.ok.kind hk hc hcell fin) hd
  ·exact wpAny_Name (wpAny_loadName_free I.ok.kind hk hc hcell fin hcd) hd
theorem Cz {i j pos}:PE X (.Constant (.int i) j pos) (tC (.int i)):=fun _ _ _ H _ I h=>wpAny_Constant_int ⟨.int i,H,I.tok _,⟨_,rfl⟩,h⟩
theorem G8 {b j pos}:PE X (.Constant (.bool b) j pos) (tC (.bl b)):=fun _ _ _ H _ I h=>Constant_bool ⟨.bl b,H,I,rfl,h⟩
theorem CA {j pos}:PE X (.Constant .none j pos) (tC .non):=fun _ _ _ H _ I h=>Constant_none ⟨.non,H,I,rfl,h⟩
theorem CB {x j pos}:PE X (.Constant (.str x) j pos) (tC (.str x)):=fun _ _ _ H _ I h=>Calls.Constant_str ⟨.str x,H,I.tok _,⟨_,rfl⟩,h⟩
def Gl (X:Cx)(x:Str):Prop:=X.env.kindOf x=some .globalImplicit
theorem kn (I:Inv X pins σ H s)(hg:Gl X x)(hm:X.mg x=some u)(h:Q u s)
  (hd:autoParam ((x == ("__debug__" : Str))=false) L2.aD._auto_1):wpAny (model X.prog X.w) X.A (eval (.Name x pos) X.env) Q E s :=
 Calls.Name_function_global I.ok.kind hg (Calls.loadGlobal_global (by rw [I.ok.glob]; exact I.mod.glob.keeps I.bk) hm h) hd
theorem i7 (I:Inv X pins σ H s)(hg:Gl X x)(hm:X.mg x=none)(hv:bootBuiltins x=some u)(h:Q u s)
  (hn:autoParam (x ≠ "__name__") L2.aD._auto_1) (hd:autoParam ((x == ("__debug__" : Str))=false) L2.aD._auto_1):wpAny (model X.prog X.w) X.A (eval (.Name x pos) X.env) Q E s:=by
 obtain ⟨mb,h1,h2⟩:=I.mod.blt
 exact Calls.Name_function_global I.ok.kind hg (Calls.loadGlobal_builtin (by rw [I.ok.glob]; exact I.mod.glob.keeps I.bk) hm (by rw [I.ok.blt]; exact h1.keeps I.bk) ((h2 x hn).trans hv) h) hd
theorem xJ     (hg:Gl X x) (hm:X.mg x=some u) (r:RelV v u) (hd:autoParam ((x == ("__debug__" : Str))=false) L2.aD._auto_1):PE X (.Name x pos) (tC v) :=
 fun _ _ _ H _ I h=>kn I hg hm ⟨v,H,I,r,h⟩ hd
theorem xK     (hg:Gl X x) (hm:X.mg x=none) (hv:bootBuiltins x=some u) (r:RelV v u) (hn:autoParam (x ≠ "__name__") L2.aD._auto_1) (hd:autoParam ((x == ("__debug__" : Str))=false) L2.aD._auto_1):PE X (.Name x pos) (tC v) :=
 fun _ _ _ H _ I h=>i7 I hg hm hv ⟨v,H,I,r,h⟩ hn hd
variable {a b:Expr}  
def PC (X:Cx)(op:CmpOp)(a b:Expr)(t:TE):Prop :=
 ∀ (pins:List (Addr×Obj)) (s:Shared) (σ:St) (H:Hp) (Q:VK),Inv X pins σ H s->t σ H Q ->
  wpAny (model X.prog X.w) X.A (eval a X.env) (fun v s₁=>wpAny (model X.prog X.w) X.A (eval b X.env) (fun u s₂=>wpAny (model X.prog X.w) X.A (compareOp op v u) (EP X pins σ Q) X.xe s₂) X.xe s₁) X.xe s
def tB (t:TE):TT:=fun σ H Q=>t σ H fun x H1=>∃ c,x=.bl c/\Q c H1
theorem IT {t:TE}(h:PC X op a b t)(h1:behindInMarks op b=false:=by first | exact nobehind _ (by decide) (by decide) | rfl):PT X (.Compare a [op] [b] pos) (tB t):=by
 intro pins s σ H Q I hw
 refine wpAny_isTrue_Compare1 (thn (h pins s σ H _ I hw) fun v s1 h1=>thn h1 fun u s2 h2=>thn h2 fun c s3 ⟨x,H1,I1,r1,q1⟩=>?_) h1
 obtain ⟨d,rfl,q⟩:=q1
 cases r1
 exact aaH ⟨H1,I1,q⟩
theorem CC {t:TE}(h:PE X e t)(he:autoParam (∀ whole,isTrue e X.env whole=(do let v ← whole; standAt e.pos; holding [v] (truthy v))) L2.aI._auto_1):PT X e (tB t):=by
 intro pins s σ H Q I hw
 refine isTrue_plain (thn (h pins s σ H _ I hw) fun v s1 ⟨x,H1,I1,r1,q1⟩=>?_) (he _)
 obtain ⟨d,rfl,q⟩:=q1
 cases r1
 exact aaH ⟨H1,I1,q⟩
variable {tA tB':TT} {af:List Expr}
def G9 (t u:TT):TT:=fun σ H Q=>t σ H fun c H1=>if c=true then u σ H1 Q else Q false H1
def tOr (t u:TT):TT:=fun σ H Q=>t σ H fun c H1=>if c=true then Q true H1 else u σ H1 Q
def Ha (t:TT):TT:=fun σ H Q=>t σ H fun c H1=>Q (!c) H1
theorem xL (ha:PT X a tA):PW X (.BoolOp .And [a] pos) tA:=by
 intro wh pins s σ H Q I h
 refine isTrue_and (thn (ha pins s σ H Q I h) fun c s1 e=>?_)
 cases c with
 | true=>exact isTrue_and_nil e
 | false=>exact e
theorem CD (ha:PT X a tA):PW X (.BoolOp .Or [a] pos) tA:=by
 intro wh pins s σ H Q I h
 refine isTrue_or (thn (ha pins s σ H Q I h) fun c s1 e=>?_)
 cases c with
 | false=>exact isTrue_or_nil e
 | true=>exact e
theorem CF (ha:PT X a tA)(hb:PW X (.BoolOp .And (b::af) pos) tB'):PW X (.BoolOp .And (a::b::af) pos) (G9 tA tB'):=by
 intro wh pins s σ H Q I h
 refine isTrue_and (thn (ha pins s σ H _ I h) fun c s1 ⟨H1,I1,q1⟩=>?_)
 cases c with
 | true=>exact hb wh pins s1 σ H1 Q I1 q1
 | false=>exact ⟨H1,I1,q1⟩
theorem Hb (ha:PT X a tA)(hb:PW X (.BoolOp .Or (b::af) pos) tB'):PW X (.BoolOp .Or (a::b::af) pos) (tOr tA tB'):=by
 intro wh pins s σ H Q I h
 refine isTrue_or (thn (ha pins s σ H _ I h) fun c s1 ⟨H1,I1,q1⟩=>?_)
 cases c with
 | true=>exact ⟨H1,I1,q1⟩
 | false=>exact hb wh pins s1 σ H1 Q I1 q1
theorem CG (ha:PT X a tA):PT X (.UnaryOp .Not a pos) (Ha tA):=by
 intro pins s σ H Q I h
 exact isTrue_not (ha pins s σ H (fun c H1=>Q (!c) H1) I h)
def xM (ta tb:TE):TE:=fun σ H Q=>ta σ H fun x H1=>∃ c,x=.bl c/\if c=true then tb σ H1 Q else Q (.bl false) H1
def xN (ta:TE):TE:=fun σ H Q=>ta σ H fun x H1=>∃ c,x=.bl c/\Q (.bl (!c)) H1
theorem CH {op}{t:TE}(h:PE X a t):PE X (.BoolOp op [a] pos) t:=fun pins s σ H Q I hw=>BoolOp_one (h pins s σ H Q I hw)
theorem CI (ha:PE X a ta)(hb:PE X (.BoolOp .And (b::af) pos) tb):PE X (.BoolOp .And (a::b::af) pos) (xM ta tb):=by
 intro pins s σ H Q I h
 refine BoolOp_and (thn (ha pins s σ H _ I h) fun v s1 ⟨x,H1,I1,r1,q1⟩=>?_)
 obtain ⟨c,rfl,q1⟩:=q1
 cases r1
 refine aaH ?_
 cases c with
 | true=>exact hb pins s1 σ H1 Q I1 q1
 | false=>exact ⟨.bl false,H1,I1,rfl,q1⟩
theorem CJ (ha:PE X a ta):PE X (.UnaryOp .Not a pos) (xN ta):=by
 intro pins s σ H Q I h
 refine UnaryOp_ (thn (ha pins s σ H _ I h) fun v s1 ⟨x,H1,I1,r1,q1⟩=>?_)
 obtain ⟨c,rfl,q1⟩:=q1
 cases r1
 exact not_of (aaH ⟨.bl (!c),H1,I1,rfl,q1⟩)
def tIf (t:TT)(ta tb:TE):TE:=fun σ H Q=>t σ H fun c H1=>if c=true then ta σ H1 Q else tb σ H1 Q
theorem sA (hc:PT X c tA)(ha:PE X a ta)(hb:PE X b tb):PE X (.IfExp c a b pos) (tIf tA ta tb):=by
 intro pins s σ H Q I h
 refine wpAny_IfExp (thn (hc pins s σ H _ I h) fun d s1 ⟨H1,I1,q1⟩=>?_)
 cases d with
 | true=>exact ha pins s1 σ H1 Q I1 q1
 | false=>exact hb pins s1 σ H1 Q I1 q1
end
def SqL (K:Frag)(H:Hp)(a:Addr)(xs:List V):Prop :=
 Rd H a (.lst xs) ∨
  ∃ (o:Obj) (its:Array Value) (n:Nat),K.lookup a=some o/\o.cls=.type "list" /\ o.dict=none/\o.data=.seq its n/\its.size<=sizeLine/\Vals xs its.toList
def SqT (K:Frag)(H:Hp)(a:Addr)(xs:List V):Prop :=
 Rd H a (.tup xs) ∨
  ∃ (o:Obj) (its:Array Value) (n:Nat),K.lookup a=some o/\o.cls=.type "tuple" /\ o.data=.seq its n/\its.size<=sizeLine/\Vals xs its.toList
def absV:Value->Option V
 | .none=>some .non
 | .bool b=>some (.bl b)
 | .int i _=>some (.int i)
 | .str x _=>some (.str x)
 | .bytes b _=>some (.byt b)
 | .float b _=>some (.flt b)
 | .ref a=>some (.ref a)
 | .type n=>some (.ty n)
 | _=>none
theorem RelV.abs {x:V}(r:RelV x u):absV u=some x:=by
 cases x with
 | non=>cases r; rfl
 | bl _=>cases r; rfl
 | int _=>obtain ⟨t,rfl⟩:=r; rfl
 | str _=>obtain ⟨t,rfl⟩:=r; rfl
 | byt _=>obtain ⟨t,rfl⟩:=r; rfl
 | flt _=>obtain ⟨t,rfl⟩:=r; rfl
 | ref _=>cases r; rfl
 | ty _=>cases r; rfl
theorem RelV.inj {x y:V}{u:Value}(r:RelV x u)(q:RelV y u):x=y:=aaj (r.abs.symm.trans q.abs)
theorem Vals.inj {xs ys:List V}{us:List Value}(h:Vals xs us)(h':Vals ys us):xs=ys:=by
 induction h generalizing ys with
 | nil=>cases h'; rfl
 | cons r t ih=>cases h' with | cons r' t'=>rw [r.inj r',ih t']
section
variable       {ys:List V}
theorem SqL.of {K:Frag}(h:H a=some (.lst xs)):SqL K H a xs:=.inl (.inl h)
theorem SqT.of {K:Frag}(h:H a=some (.tup xs)):SqT K H a xs:=.inl (.inl h)
theorem Inv.list (I:Inv X pins σ H s)(h:SqL X.K H a xs):∃ its:List Value,Vals xs its/\PlainL s.heap a its.toArray/\xs.length<=sizeLine:=by
 rcases h with h | ⟨o,its,n,hk,hc,hd,hs,hz,r⟩
 ·obtain ⟨z,its,n,r,e⟩:=h.ok I.hok
  exact ⟨its,r,⟨_,n,e,rfl,rfl,rfl⟩,z⟩
 ·refine ⟨its.toList,r,⟨o,n,I.kIn a o hk,hc,hd,(by exists hs)⟩,?_⟩
  have e:=r.length
  simp only [Array.length_toList] at e
  nofun
theorem Inv.tuple (I:Inv X pins σ H s)(h:SqT X.K H a xs):∃ its:List Value,Vals xs its/\IsTup s.heap a its.toArray/\xs.length<=sizeLine:=by
 rcases h with h | ⟨o,its,n,hk,hc,hs,hz,r⟩
 ·obtain ⟨z,its,r,p⟩:=h.ok I.hok
  exact ⟨its,r,p,z⟩
 ·refine ⟨its.toList,r,⟨o,I.kIn a o hk,hc,n,(by exists hs)⟩,?_⟩
  have e:=r.length
  simp only [Array.length_toList] at e
  nofun
theorem Inv.list_inj (I:Inv X pins σ H s)(h:SqL X.K H a xs)(h':SqL X.K H a ys):xs=ys:=by
 obtain ⟨its,r,⟨o,n,e,_,_,d⟩,_⟩:=I.list h
 obtain ⟨its',r',⟨o',n',e',_,_,d'⟩,_⟩:=I.list h'
 rw [e] at e'; cases e'
 rw [d] at d'
 injection d' with d1 _
 have:its=its':=by simpa using congrArg Array.toList d1
 subst this
 exact r.inj r'
theorem Inv.tuple_inj (I:Inv X pins σ H s)(h:SqT X.K H a xs)(h':SqT X.K H a ys):xs=ys:=by
 obtain ⟨its,r,⟨o,e,_,n,d⟩,_⟩:=I.tuple h
 obtain ⟨its',r',⟨o',e',_,n',d'⟩,_⟩:=I.tuple h'
 rw [e] at e'; cases e'
 rw [d] at d'
 injection d' with d1 _
 have:its=its':=by simpa using congrArg Array.toList d1
 subst this
 exact r.inj r'
end
abbrev Cx.wish (X:Cx)(E:Value->Shared->Prop):Cx:={ X with xe:=E }
abbrev Cx.nox (X:Cx):Cx:=X.wish fun _ _=>False
theorem Cx.Ok.wish (ok:X.Ok)(E:Value->Shared->Prop):(X.wish E).Ok :=
 ⟨ok.mod,ok.kind,ok.glob,ok.blt,ok.above,ok.inj,ok.has,ok.cab,ok.hd,ok.frames,ok.stk,ok.exf,ok.bs,ok.bsz,ok.noex,ok.exfs,ok.funs,ok.frf⟩
theorem Cx.Ok.unwish (ok:(X.wish E).Ok):X.Ok :=
 ⟨ok.mod,ok.kind,ok.glob,ok.blt,ok.above,ok.inj,ok.has,ok.cab,ok.hd,ok.frames,ok.stk,ok.exf,ok.bs,ok.bsz,ok.noex,ok.exfs,ok.funs,ok.frf⟩
theorem Inv.wish (I:Inv X pins σ H s)(E:Value->Shared->Prop):Inv (X.wish E) pins σ H s:=⟨I.ok.wish E,I.os,I.bare,I.base,I.loc,I.cell,I.free,I.freeC,I.pin,I.hok,I.len⟩
theorem Inv.unwish (I:Inv (X.wish E) pins σ H s):Inv X pins σ H s:=⟨I.ok.unwish,I.os,I.bare,I.base,I.loc,I.cell,I.free,I.freeC,I.pin,I.hok,I.len⟩
theorem SP.unwish {D:Ends}{f:Flow}(h:SP (X.wish E) pins D f s'):SP X pins D f s':=by
 cases f with
 | next=>obtain ⟨σ',H',I,q⟩:=h; exact ⟨σ',H',I.unwish,q⟩
 | brk=>obtain ⟨σ',H',I,q⟩:=h; exact ⟨σ',H',I.unwish,q⟩
 | cont=>obtain ⟨σ',H',I,q⟩:=h; exact ⟨σ',H',I.unwish,q⟩
 | ret u=>obtain ⟨v,σ',H',I,r,q⟩:=h; exact ⟨v,σ',H',I.unwish,r,q⟩
theorem PSs.nox {st:List Stmt}{t:TS}(h:PSs X.nox st t):PSs X st t:=fun pins s σ H D I hw =>
 abh (h pins s σ H D (I.wish _) hw) (fun _ _ q=>q.unwish) fun _ _ z=>False.elim z
section
variable  {st:Stmt} {af:List Stmt} {t u:TS}   
def xO:TS:=fun D σ H=>D.nx σ H
def Hc (t u:TS):TS:=fun D σ H=>t { D with nx:=u D } σ H
theorem xP:PSs X [] xO:=fun _ _ σ H _ I h=>wpAny_execs_nil ⟨σ,H,I,h⟩
theorem sB (h1:PS X st t)(h2:PSs X af u):PSs X (st::af) (Hc t u):=by
 intro pins s σ H D I h
 refine wpAny_execs_cons (thn (h1 pins s σ H { D with nx:=u D } I h) fun f s1 q=>?_)
 cases f with
 | next =>
  obtain ⟨σ',H',I',q⟩:=q
  exact h2 pins s1 σ' H' D I' q
 | ret v=>exact q
 | brk=>exact q
 | cont=>exact q
theorem xQ (h1:PS X st t):PSs X [st] t:=by
 intro pins s σ H D I h
 refine wpAny_execs_cons (thn (h1 pins s σ H D I h) fun f s1 q=>?_)
 cases f with
 | next=>exact wpAny_execs_nil q
 | ret v=>exact q
 | brk=>exact q
 | cont=>exact q
def n0:TS:=fun D σ H=>D.bk σ H
def xR:TS:=fun D σ H=>D.ct σ H
theorem sC:PS X (.Break pos) n0:=fun _ _ σ H _ I h=>wpAny_Break ⟨σ,H,I,h⟩
theorem ko:PS X (.Continue pos) xR:=fun _ _ σ H _ I h=>wpAny_Continue ⟨σ,H,I,h⟩
theorem Inv.quiet (I:Inv X pins σ H s):interactive X.env=false:=by simp [interactive,I.ok.kind]
def sD (te:TE):TS:=fun D σ H=>te σ H fun _ H1=>D.nx σ H1
theorem xS (he:PE X e te)(hs:autoParam (swapsWith e none pos.line X.env=pure false) L2.aR._auto_1):PS X (.Expr e pos) (sD te):=by
 intro pins s σ H D I h
 exact wpAny_Expr_any (thn (he pins s σ H _ I h) fun v s1 ⟨x,H1,I1,r1,q1⟩=>⟨σ,H1,I1,q1⟩) I.quiet hs
def Hd (te:TE):TS:=fun D σ H=>te σ H D.rt
theorem CK (he:PE X e te):PS X (.Return (some e) pos) (Hd te):=by
 intro pins s σ H D I h
 exact wpAny_Return_some (thn (he pins s σ H _ I h) fun v s1 ⟨x,H1,I1,r1,q1⟩=>⟨x,σ,H1,I1,r1,q1⟩)
def He (c:TT)(t u:TS):TS:=fun D σ H=>c σ H fun b H1=>if b=true then t D σ H1 else u D σ H1
theorem Hf {a b:List Stmt}(hc:PT X c tc)(ha:PSs X a t)(hb:PSs X b u):PS X (.If c a b pos) (He tc t u):=by
 intro pins s σ H D I h
 refine wpAny_If (thn (hc pins s σ H _ I h) fun d s1 ⟨H1,I1,q1⟩=>?_)
 cases d with
 | true=>exact ha pins s1 σ H1 D I1 q1
 | false=>exact hb pins s1 σ H1 D I1 q1
def n5:TS:=fun _ _ _=>False
theorem sE:PS X st n5:=fun _ _ _ _ _ _ h=>h.elim
end
abbrev TG:=V->St->Hp->(St->Hp->Prop)->Prop
abbrev TGs:=List V->St->Hp->(St->Hp->Prop)->Prop
def PG (X:Cx)(target:Expr)(t:TG):Prop :=
 ∀ (pins:List (Addr×Obj)) (s:Shared) (σ:St) (H:Hp) (v:V) (u:Value) (Q:St->Hp->Prop),Inv X pins σ H s->RelV v u->t v σ H Q ->
  wpAny (model X.prog X.w) X.A (assign target X.env u) (fun _ s'=>∃ σ' H',Inv X pins σ' H' s'/\Q σ' H') X.xe s
def PGs (X:Cx)(ts:List Expr)(t:TGs):Prop :=
 ∀ (pins:List (Addr×Obj)) (s:Shared) (σ:St) (H:Hp) (vs:List V) (us:List Value) (Q:St->Hp->Prop),Inv X pins σ H s->Vals vs us->t vs σ H Q ->
  wpAny (model X.prog X.w) X.A (assignInOrder ((assignEach ts X.env).map (·.2)) us) (fun _ s'=>∃ σ' H',Inv X pins σ' H' s'/\Q σ' H') X.xe s
abbrev Hg:=V->V->V->Hp->(Hp->Prop)->Prop
def IU (X:Cx)(t:Hg):Prop :=
 ∀ (pins:List (Addr×Obj)) (s:Shared) (σ:St) (H:Hp) (o i v:V) (ov iv u:Value) (Q:Hp->Prop),Inv X pins σ H s->RelV o ov->RelV i iv->RelV v u->t o i v H Q ->
  wpAny (model X.prog X.w) X.A (setItem ov iv u) (fun _ s'=>∃ H',Inv X pins σ H' s'/\Q H') X.xe s
def dY (i:Nat):TG:=fun v σ H Q=>Q (σ.set i (some v)) H
theorem xT (hN:X.N.Nodup)(hi:X.N[i]?=some x)(hx:Loc X.env.scope x)(hf:autoParam (X.fn x=true∨X.env.scope.names.lookup x=some .local) L2.aF._auto_1):PG X (.Name x pos) (dY i):=by
 intro pins s σ H v u Q I r h
 exact wpAny_assign_Name (kX I hN hi hx r (fun s' I'=>⟨_,H,I',h⟩) hf)
def Hi:TGs:=fun vs σ H Q=>vs=[]/\Q σ H
def xU (t:TG)(u:TGs):TGs:=fun vs σ H Q=>∃ v r,vs=v::r/\t v σ H fun σ' H'=>u r σ' H' Q
theorem xV:PGs X [] Hi:=by
 intro pins s σ H vs us Q I r h
 obtain ⟨e,h⟩:=h
 subst e
 cases r
 exact assignInOrder_nil ⟨σ,H,I,h⟩
theorem sG {t:TG}{u:TGs}(h1:PG X e t)(h2:PGs X es u)
  (hs:autoParam ((assignEach (e::es) X.env).map (·.2)=assign e X.env::(assignEach es X.env).map (·.2)) L2.aR._auto_1):PGs X (e::es) (xU t u):=by
 intro pins s σ H vs us Q I r h
 obtain ⟨v,vr,e1,h⟩:=h
 subst e1
 cases r with
 | cons r rr =>
  rw [hs]
  refine assignInOrder_cons (thn (h1 pins s σ H _ _ _ I r h) fun _ s1 ⟨σ1,H1,I1,q1⟩=>?_)
  exact h2 pins s1 σ1 H1 _ _ Q I1 rr q1
def GO (K:Frag)(n:Nat)(t:TGs):TG:=fun v σ H Q=>∃ a xs,v=.ref a/\SqT K H a xs/\xs.length=n/\t xs σ H Q
theorem CL {t:TGs}(hc:X.calm=true)(h:PGs X es t)
  (hn:autoParam ((assignEach es X.env).length=n) L2.aR._auto_1) (hst:autoParam ((assignEach es X.env).findIdx? (·.1)=none) L2.aR._auto_1):PG X (.Tuple es k pos) (GO X.K n t):=by
 intro pins s σ H v u Q I r hw
 obtain ⟨a,xs,e1,hq,hl,hw⟩:=hw
 subst e1
 cases r
 obtain ⟨its,rv,ht,hz⟩:=I.tuple hq
 refine assign_Tuple_tuple (I.ok.hd hc) ht (by simp [hn,← hl,rv.length]) hst fun h' hx=>?_
 have I1:Inv X pins σ H { s with heap:=h' }:=I.kept (t':=s.toks) fun b o e=>hx b o (aah (aaf e)) e
 exact h pins _ σ H xs _ Q I1 (by exists rv) hw
def Hj (to ti:TE)(t:Hg):TG:=fun v σ H Q=>to σ H fun o H1=>ti σ H1 fun i H2=>t o i v H2 fun H3=>Q σ H3
theorem CM {o i:Expr}{to ti:TE}{t:Hg}(ho:PE X o to)(hi:PE X i ti)(hs:IU X t)
  (ha:autoParam (∀ v,assign (.Subscript o i pos) X.env v=(do
   let ov ← holding [v] (eval o X.env)
   let iv ← holding [v,ov] (eval i X.env)
   standAt pos
   holding [v,ov,iv] (setItem ov iv v)
   release [v,ov,iv] [])) L2.aI._auto_1):PG X (.Subscript o i pos) (Hj to ti t):=by
 intro pins s σ H v u Q I r h
 rw [ha]
 refine aaa (aaD (thn (ho pins s σ H _ I h) fun ov s1 ⟨x,H1,I1,r1,q1⟩=>?_))
 refine aaa (aaD (thn (hi pins s1 σ H1 _ I1 q1) fun iv s2 ⟨y,H2,I2,r2,q2⟩=>?_))
 refine aaa (wpAny_standAt (aaa (aaD (thn (hs pins s2 σ H2 x y v ov iv u _ I2 r1 r2 r q2) fun _ s3 ⟨H3,I3,q3⟩=>?_))))
 exact wpAny_release ⟨σ,H3,I3,q3⟩
def nX (te:TE)(g:TG):TS:=fun D σ H=>te σ H fun x H1=>g x σ H1 D.nx
theorem CN {g:TG}(he:PE X e te)(hg:PG X tg g)(hs:autoParam (swapsWithSole [tg] e pos.line X.env=pure false) L2.aR._auto_1)(hw:autoParam (swappedStores [tg] e X.env=pure none) L2.aR._auto_1)
  (h1:autoParam ((assignEach [tg] X.env).map (·.2)=[assign tg X.env]) L2.aR._auto_1):PS X (.Assign [tg] e pos) (nX te g):=by
 intro pins s σ H D I h
 refine wpAny_Assign_stores (thn (he pins s σ H _ I h) fun v s1 ⟨x,H1,I1,r1,q1⟩=>?_) hs hw
 rw [h1]
 exact thn (hg pins s1 σ H1 x v _ I1 r1 q1) fun _ s2 q=>q
theorem CO (hN:X.N.Nodup)(hi:X.N[i]?=some x)(hx:Loc X.env.scope x)(he:PE X e te)(hs:autoParam (swapsWith e (some (.Name x pos')) pos.line X.env=pure false) L2.aR._auto_1)(hf:autoParam (X.fn x=true∨X.env.scope.names.lookup x=some .local) L2.aF._auto_1) :
  PS X (.Assign [.Name x pos'] e pos) (nX te (dY i)):=by
 intro pins s σ H D I h
 refine wpAny_Assign_Name (thn (he pins s σ H _ I h) fun v s1 ⟨y,H1,I1,r1,q1⟩=>?_) hs
 exact kX I1 hN hi hx r1 (fun s2 I2=>⟨_,H1,I2,q1⟩) hf
def n6 (c:TT)(tb:TS):TS:=fun D σ H=>∃ W:Nat->St->Hp->Prop,(∃ m,W m σ H)/\∀ m σ H,W m σ H ->
 c σ H fun b H1=>if b=true then ∃ N:St->Hp->Prop,(∀ σ' H',N σ' H'->∃ m',m' < m/\W m' σ' H')/\tb { D with nx:=N,ct:=N,bk:=D.nx } σ H1 else D.nx σ H1
theorem sH {tb:TS}(hp:PassesOwn (model X.prog X.w) X.A X.env X.xe)(hc:PT X c tc)(hb:PSs X body tb):PS X (.While c body [] pos) (n6 tc tb):=by
 intro pins s σ H D I h
 obtain ⟨W,⟨m0,w0⟩,turn⟩:=h
 refine wpAny_While (codeAny_whileLoop (fun n s'=>∃ σ' H',Inv X pins σ' H' s'/\W n σ' H') ?_ m0 ⟨σ,H,I,w0⟩)
 rintro n s1 ⟨σ1,H1,I1,w1⟩
 refine aa6 hp (thn (hc pins s1 σ1 H1 _ I1 (turn n σ1 H1 w1)) fun b s2 ⟨H2,I2,q2⟩=>?_)
 cases b with
 | true =>
  obtain ⟨N,hN,q2⟩:=q2
  rw [if_pos rfl]
  refine aa6 hp (thn (hb pins s2 σ1 H2 _ I2 q2) fun f s3 q3=>?_)
  cases f with
  | next =>
   obtain ⟨σ3,H3,I3,n3⟩:=q3
   obtain ⟨m',hm,w3⟩:=hN σ3 H3 n3
   exact ⟨m',hm,σ3,H3,I3,w3⟩
  | cont =>
   obtain ⟨σ3,H3,I3,n3⟩:=q3
   obtain ⟨m',hm,w3⟩:=hN σ3 H3 n3
   exact ⟨m',hm,σ3,H3,I3,w3⟩
  | brk=>exact q3
  | ret v=>exact q3
 | false =>
  rw [if_neg Bool.false_ne_true]
  exact wpAny_execs_nil ⟨σ1,H2,I2,q2⟩
structure It where
 go:Nat->Hp->Prop
 yld:Nat->Hp->V->Hp->Prop
 stop:Nat->Hp->Prop
def n8 (X:Cx)(pins:List (Addr×Obj))(H:Hp)(b:Addr):Prop :=
 H b=none/\b≠X.env.locals/\b ∉ X.fs/\(b ∈ X.ex∨X.s₀.heap.objs.size<=b)/\(∀ x c,X.env.cells.lookup x=some c->c≠b)/\∀ p ∈ X.pn++pins,p.1≠b
theorem Inv.fpOk (I:Inv X pins σ H s)(hb:s.heap.objs.size<=b)(hn:H' b=none):n8 X pins H' b:=by
 refine ⟨hn,Nat.ne_of_gt (aan I.lt hb),I.nofs hb,.inr (aav I.sz hb),fun x c e z=>?_,fun p hp z=>?_⟩
 ·obtain ⟨v,q⟩:=I.cell x c e
  exact absurd (aan q.lt (by rw [z]; exact hb)) (aaQ _)
 ·exact absurd (aan (aaf (I.pin p hp).1) (by rw [z]; exact hb)) (aaQ _)
structure Turn (P:Program)(w:World)(K:Frag)(tg:Expr)(J:It)(fp:List Addr)(it:Addr)(tn:Nat->Heap->Prop):Prop where
 mem:it ∈ fp
 obj:∀ i h,tn i h->∀ b ∈ fp,∃ o,h.get? b=some o/\∀ v,o.data≠.cell v
 keep:∀ i h h',tn i h->(∀ b ∈ fp,∀ o,h.get? b=some o->h'.get? b=some o)->tn i h'
 item:∀ (X:Cx),X.prog=P->X.w=w->X.K=K->X.calm=true->∀ (i:Nat) (pins:List (Addr×Obj)) (s:Shared) (σ:St) (H:Hp) (E:Value->Shared->Prop),Inv X pins σ H s->(∀ b ∈ fp,n8 X pins H b)->tn i s.heap->J.go i H ->
  wpAny (model P w) X.A (pyNext (.ref it)) (fun r s1=>∃ u,r=some u /\
   wpAny (model P w) X.A (letOwnedTupleGo tg (.ref it) u) (fun _ s2=>∃ x H',Inv X pins σ H' s2/\RelV x u/\J.yld i H x H'/\tn (i+1) s2.heap/\∀ b ∈ fp,H' b=none) E s1) E s
 done:∀ (X:Cx),X.prog=P->X.w=w->X.K=K->X.calm=true->∀ (i:Nat) (pins:List (Addr×Obj)) (s:Shared) (σ:St) (H:Hp) (E:Value->Shared->Prop),Inv X pins σ H s->(∀ b ∈ fp,n8 X pins H b)->tn i s.heap->J.stop i H ->
  wpAny (model P w) X.A (pyNext (.ref it)) (fun r s1=>r=none/\Inv X pins σ H s1) E s
 self:∀ (A:Around) (i:Nat) (s:Shared) (Q:Value->Shared->Prop) (E:Value->Shared->Prop),tn i s.heap->Q (.ref it) s->wpAny (model P w) A (pyIter (.ref it)) Q E s
abbrev TI:=St->Hp->(It->Hp->Prop)->Prop
def PIE (X:Cx)(pins:List (Addr×Obj))(σ:St)(tg:Expr)(R:It->Hp->Prop)(itv:Value)(s2:Shared):Prop :=
 ∃ (it:Addr) (fp:List Addr) (tn:Nat->Heap->Prop) (J:It) (H':Hp),itv=.ref it/\Inv X pins σ H' s2/\Turn X.prog X.w X.K tg J fp it tn/\tn 0 s2.heap/\(∀ b ∈ fp,n8 X pins H' b)/\R J H'
def PI (X:Cx)(tg iter:Expr)(wi:TI):Prop :=
 ∀ (pins:List (Addr×Obj)) (s:Shared) (σ:St) (H:Hp) (R:It->Hp->Prop),Inv X pins σ H s->wi σ H R ->
  wpAny (model X.prog X.w) X.A (eval iter X.env) (fun v s1=>wpAny (model X.prog X.w) X.A (pyIter v) (PIE X pins σ tg R) X.xe s1) X.xe s
theorem mI {M:Model}{o:Obj}{n:String}{vs:Array Value}{Q:Unit->Shared->Prop}(ho:s.heap.get? it=some o)(hc:o.cls=.type n)(hd:o.data=.fields vs)
    (hn:["enumerate", "zip", "dict_itemiterator", "dict_reverseitemiterator", "odict_iterator", "itertools.zip_longest", "itertools.pairwise"].contains n=false) (hQ:Q () s):wpAny M A (letOwnedTupleGo tg (.ref it) u) Q E s:=by
  unfold letOwnedTupleGo
  cases tg <;> first
    | exact aac hQ
    | (cases u <;> first
        | exact aac hQ
        | (refine aaa (wpAny_load ho ?_)
           rw [hc,hd]
           show wpAny M A (if (["enumerate", "zip", "dict_itemiterator", "dict_reverseitemiterator", "odict_iterator", "itertools.zip_longest", "itertools.pairwise"].contains n && vs[0]? == some (rawInt _))=true then _ else _) Q E s
           rw [if_neg (by intro h; rw [hn,Bool.false_and] at h; cases h)]
           exact aac hQ))
def Itl (K:Frag)(a:Addr):It :=
 ⟨fun i H=>∃ xs x,SqL K H a xs/\xs[i]?=some x,fun i H x H'=>H'=H/\∀ xs,SqL K H a xs->xs[i]?=some x,fun i H=>∃ xs,SqL K H a xs/\xs.length<=i⟩
def Itt (K:Frag)(a:Addr):It :=
 ⟨fun i H=>∃ xs x,SqT K H a xs/\xs[i]?=some x,fun i H x H'=>H'=H/\∀ xs,SqT K H a xs->xs[i]?=some x,fun i H=>∃ xs,SqT K H a xs/\xs.length<=i⟩
def Itr (lo:Int)(n:Nat):It:=⟨fun i _=>i < n,fun i H x H'=>H'=H/\x=.int (lo+i),fun i _=>n<=i⟩
theorem n9 {K:Frag}(a it:Addr):Turn P w K tg (Itl K a) [it] it (fun i h=>h.IsListIter it a i) where
 mem:=by simp
 obj:=fun i h st b hb=>by
  have e:b=it:=(by exists hb)
  subst e
  obtain ⟨o,e,c,d⟩:=st
  exact ⟨o,e,fun v z=>by rw [d] at z; cases z⟩
 keep:=fun i h h' st k=>st.at fun o e=>k it (by simp) o e
 item:=by
  intro X hP hw hK hc i pins s σ H E I hf st hg
  subst hP hw hK
  obtain ⟨xs,x,hq,hx⟩:=hg
  obtain ⟨its,rv,p,hz⟩:=I.list hq
  obtain ⟨u,hu,ru⟩:=rv.get hx
  obtain ⟨f0,f1,f2,f3,f4,f5⟩:=hf it (by simp)
  refine wpAny_pyNext_list_item st p.isList (x:=u) (by exists hu) fun h' st' sb=>?_
  have I1:Inv X pins σ H { s with heap:=h' }:=I.turned (t':=s.toks) (fun b o hb e=>(sb.2 b hb).trans e) f0 f1 f3 f4 f5
  obtain ⟨o,e,c,d⟩:=id st'
  exact ⟨u,rfl,mI (s:={ s with heap:=h' }) e c d (by decide) ⟨x,H,I1,ru,⟨rfl,fun ys hy=>by rw [I.list_inj hy hq]; exact hx⟩,st',fun b hb=>(hf b hb).1⟩⟩
 done:=by
  intro X hP hw hK hc i pins s σ H E I hf st hg
  subst hP hw hK
  obtain ⟨xs,hq,hx⟩:=hg
  obtain ⟨its,rv,p,hz⟩:=I.list hq
  obtain ⟨f0,f1,f2,f3,f4,f5⟩:=hf it (by simp)
  have hl:=rv.length
  exact wpAny_pyNext_list_end (I.ok.hd hc) st p.isList (by simp; nofun) fun h' eb=>⟨rfl,I.turned (t':=s.toks) (fun b o hb e=>eb b o hb e) f0 f1 f3 f4 f5⟩
 self:=fun _ _ _ _ _ st h=>wpAny_pyIter_listiter st h
theorem mJ {K:Frag}(a it:Addr):Turn P w K tg (Itt K a) [it] it (fun i h=>h.IsTupleIter it a i) where
 mem:=by simp
 obj:=fun i h st b hb=>by
  have e:b=it:=(by exists hb)
  subst e
  obtain ⟨o,e,c,d⟩:=st
  exact ⟨o,e,fun v z=>by rw [d] at z; cases z⟩
 keep:=fun i h h' st k=>st.at fun o e=>k it (by simp) o e
 item:=by
  intro X hP hw hK hc i pins s σ H E I hf st hg
  subst hP hw hK
  obtain ⟨xs,x,hq,hx⟩:=hg
  obtain ⟨its,rv,p,hz⟩:=I.tuple hq
  obtain ⟨u,hu,ru⟩:=rv.get hx
  obtain ⟨f0,f1,f2,f3,f4,f5⟩:=hf it (by simp)
  refine wpAny_pyNext_tuple_item st (show s.heap.IsTuple a its.toArray from p) (x:=u) (by exists hu) fun h' st' sb=>?_
  have I1:Inv X pins σ H { s with heap:=h' }:=I.turned (t':=s.toks) (fun b o hb e=>(sb.2 b hb).trans e) f0 f1 f3 f4 f5
  obtain ⟨o,e,c,d⟩:=id st'
  exact ⟨u,rfl,mI (s:={ s with heap:=h' }) e c d (by decide) ⟨x,H,I1,ru,⟨rfl,fun ys hy=>by rw [I.tuple_inj hy hq]; exact hx⟩,st',fun b hb=>(hf b hb).1⟩⟩
 done:=by
  intro X hP hw hK hc i pins s σ H E I hf st hg
  subst hP hw hK
  obtain ⟨xs,hq,hx⟩:=hg
  obtain ⟨its,rv,p,hz⟩:=I.tuple hq
  obtain ⟨f0,f1,f2,f3,f4,f5⟩:=hf it (by simp)
  have hl:=rv.length
  exact wpAny_pyNext_tuple_end (I.ok.hd hc) st (show s.heap.IsTuple a its.toArray from p) (by simp; nofun) fun h' eb=>⟨rfl,I.turned (t':=s.toks) (fun b o hb e=>eb b o hb e) f0 f1 f3 f4 f5⟩
 self:=fun _ _ _ _ _ st h=>wpAny_pyIter_tupleiter st h
theorem mK {K:Frag}(it:Addr)(lo:Int)(n:Nat):Turn P w K tg (Itr lo n) [it] it (fun i h=>IsRangeIter h it (lo+(i:Nat) * 1) ((n:Int) - (i:Nat)) 1) where
 mem:=by simp
 obj:=fun i h st b hb=>by
  have e:b=it:=(by exists hb)
  subst e
  exact ⟨_,st,fun v z=>by
   have z':Data.fields _=Data.cell v:=z
   cases z'⟩
 keep:=fun i h h' st k=>k it (by simp) _ st
 item:=by
  intro X hP hw hK hc i pins s σ H E I hf st hg
  subst hP hw hK
  obtain ⟨f0,f1,f2,f3,f4,f5⟩:=hf it (by simp)
  have W:=Walks.range (prog:=X.prog) (w:=X.w) (I.ok.hd hc) it lo 1 n
  refine W.item i s _ _ hg st fun v h' tk hv st' kk=>?_
  obtain ⟨t,rfl⟩:=hv
  have I1:Inv X pins σ H { s with heap:=h',toks:=tk }:=I.turned (fun b o hb e=>kk b o (by exists hb) e) f0 f1 f3 f4 f5
  refine ⟨_,rfl,mI (s:={ s with heap:=h',toks:=tk }) (n := "range_iterator") st' rfl rfl (by decide) ⟨.int (lo+i),H,I1,⟨t,?_⟩,⟨rfl,rfl⟩,st',fun b hb=>(hf b hb).1⟩⟩
  rw [Int.mul_one]
 done:=by
  intro X hP hw hK hc i pins s σ H E I hf st hg
  subst hP hw hK
  obtain ⟨f0,f1,f2,f3,f4,f5⟩:=hf it (by simp)
  exact wpAny_pyNext_range_end (I.ok.hd hc) st (by have:n<=i:=hg; nofun) fun h' eb=>⟨rfl,I.turned (t':=s.toks) (fun b o hb e=>eb b o hb e) f0 f1 f3 f4 f5⟩
 self:=fun _ _ _ _ _ st h=>wpAny_pyIter_rangeiter st h
def kq (K:Frag)(tl:TE):TI:=fun σ H R=>tl σ H fun x H1=>∃ a,x=.ref a/\(∃ xs,SqL K H1 a xs)/\R (Itl K a) H1
def GP (K:Frag)(tl:TE):TI:=fun σ H R=>tl σ H fun x H1=>∃ a,x=.ref a/\(∃ xs,SqT K H1 a xs)/\R (Itt K a) H1
theorem xW (hl:PE X l tl):PI X tg l (kq X.K tl):=by
 intro pins s σ H R I h
 refine thn (hl pins s σ H _ I h) fun v s1 ⟨x,H1,I1,r1,q1⟩=>?_
 obtain ⟨a,e,⟨xs,hq⟩,q⟩:=q1
 subst e
 cases r1
 obtain ⟨its,rv,p,hz⟩:=I1.list hq
 refine wpAny_pyIter_list p.isList ?_
 refine ⟨s1.heap.objs.size,[s1.heap.objs.size],_,_,H1,rfl,I1.kept (t':=s1.toks) fun b o e=>Heap.get?_push_of_some _ e,n9 a _,⟨_,Heap.get?_push_size _ rfl,rfl,rfl⟩,fun b hb=>?_,q⟩
 have e:b=s1.heap.objs.size:=(by exists hb)
 subst e
 exact I1.fpOk (aae _) (I1.hok.fresh (aae _))
theorem CP (hl:PE X l tl):PI X tg l (GP X.K tl):=by
 intro pins s σ H R I h
 refine thn (hl pins s σ H _ I h) fun v s1 ⟨x,H1,I1,r1,q1⟩=>?_
 obtain ⟨a,e,⟨xs,hq⟩,q⟩:=q1
 subst e
 cases r1
 obtain ⟨its,rv,p,hz⟩:=I1.tuple hq
 refine wpAny_pyIter_tuple (show s1.heap.IsTuple a its.toArray from p) ?_
 refine ⟨s1.heap.objs.size,[s1.heap.objs.size],_,_,H1,rfl,I1.kept (t':=s1.toks) fun b o e=>Heap.get?_push_of_some _ e,mJ a _,⟨_,Heap.get?_push_size _ rfl,rfl,rfl⟩,fun b hb=>?_,q⟩
 have e:b=s1.heap.objs.size:=(by exists hb)
 subst e
 exact I1.fpOk (aae _) (I1.hok.fresh (aae _))
theorem kY {R:It->Hp->Prop}{lo hi:Int}{t u v:Tok}{tk:Nat}(I:Inv X pins σ H s)(h1:-(2 ^ 62)<=lo)(h2:lo < 2 ^ 62)(h3:-(2 ^ 62)<=hi)(h4:hi < 2 ^ 62)
  (q:R (Itr lo (hi - lo).toNat) H):wpAny (model X.prog X.w) X.A (pyIter (.ref s.heap.objs.size)) (PIE X pins σ tg R) E { s with heap:=s.heap.push { cls:=.type "range", data:=.fields #[.int lo t,.int hi u,.int 1 v] },toks:=tk }:=by
 refine wpAny_pyIter_range (IsRange.new ..) (small_one h1 h2 h3 h4) ?_
 have I1:Inv X pins σ H { s with heap:=s.heap.push { cls:=.type "range", data:=.fields #[.int lo t,.int hi u,.int 1 v] },toks:=tk }:=I.kept fun b o e=>Heap.get?_push_of_some _ e
 refine ⟨(s.heap.push { cls:=.type "range", data:=.fields #[.int lo t,.int hi u,.int 1 v] }).objs.size,[(s.heap.push { cls:=.type "range", data:=.fields #[.int lo t,.int hi u,.int 1 v] }).objs.size],_,_,H,rfl,
  I1.kept (t':=tk) fun b o e=>Heap.get?_push_of_some _ e,mK _ lo (hi - lo).toNat,?_,fun b hb=>?_,q⟩
 ·have e1:lo+((0:Nat):Int) * 1=lo:=by simp
  have e2:(((hi - lo).toNat:Nat):Int) - ((0:Nat):Int)=Builtin.Range.rangeSize lo hi 1:=by rw [rangeSize_one]; split <;> nofun
  show IsRangeIter _ _ (lo+((0:Nat):Int) * 1) ((((hi - lo).toNat:Nat):Int) - ((0:Nat):Int)) 1
  rw [e1,e2]
  exact Heap.get?_push_size _ rfl
 ·have e:b=(s.heap.push { cls:=.type "range", data:=.fields #[.int lo t,.int hi u,.int 1 v] }).objs.size:=(by exists hb)
  subst e
  exact I1.fpOk (aae _) (I1.hok.fresh (aae _))
def xX (ta:TA):TI:=fun σ H R=>ta σ H fun vs H1=>∃ j:Int,vs=[.int j]/\-(2 ^ 62)<=j/\j < 2 ^ 62/\R (Itr 0 j.toNat) H1
def xY (ta:TA):TI:=fun σ H R=>ta σ H fun vs H1=>∃ i j:Int,vs=[.int i,.int j]/\(-(2 ^ 62)<=i/\i < 2 ^ 62/\-(2 ^ 62)<=j/\j < 2 ^ 62)/\R (Itr i (j - i).toNat) H1
theorem oa {a:Expr} {ta:TA}  (hg:Gl X "range") (hm:X.mg "range" = none) (ha:PA X [a] ta) (hs:autoParam (starEach [a] X.env=[(false,eval a X.env)]) L2.aR._auto_1):PI X tg (.Call (.Name "range" p) [a] [] pos) (xX ta):=by
 intro pins s σ H R I h
 refine Call_ (i7 I hg hm boot_range (abD (thn (ha pos pins s σ H _ I h) fun us s1 ⟨vs,H1,I1,r1,q1⟩=>?_) hs rfl))
 obtain ⟨j,e,q1,q2,q⟩:=q1
 subst e
 cases r1 with
 | cons r rr =>
  cases rr
  obtain ⟨t,rfl⟩:=r
  exact call_range_1 (kY I1 (by nofun) (by nofun) q1 q2 (by exists q))
theorem oe {a b:Expr} {ta:TA}  (hg:Gl X "range") (hm:X.mg "range" = none) (ha:PA X [a,b] ta) (hs:autoParam (starEach [a,b] X.env=[(false,eval a X.env),(false,eval b X.env)]) L2.aR._auto_1) (hs2:autoParam (starEach [b] X.env=[(false,eval b X.env)]) L2.aR._auto_1) :
  PI X tg (.Call (.Name "range" p) [a,b] [] pos) (xY ta):=by
 intro pins s σ H R I h
 refine Call_ (i7 I hg hm boot_range (abD (thn (ha pos pins s σ H _ I h) fun us s1 ⟨vs,H1,I1,r1,q1⟩=>?_) (by rw [hs,hs2]) (by rw [hs2]; rfl)))
 obtain ⟨i,j,e,⟨q1,q2,q3,q4⟩,q⟩:=q1
 subst e
 cases r1 with
 | cons r rr =>
  cases rr with
  | cons r' rr =>
   cases rr
   obtain ⟨t,rfl⟩:=r
   obtain ⟨t',rfl⟩:=r'
   exact call_range_2 (kY I1 q1 q2 q3 q4 q)
def Hk (wi:TI)(g:TG)(tb:TS):TS:=fun D σ H=>wi σ H fun J H1=>∃ W:Nat->Nat->St->Hp->Prop,(∃ m,W 0 m σ H1)/\∀ i m σ H,W i m σ H ->
 (J.stop i H/\D.nx σ H)∨(J.go i H/\∃ N:St->Hp->Prop,(∀ σ' H',N σ' H'->∃ m',m' < m/\W (i+1) m' σ' H')/\∀ x H',J.yld i H x H'->g x σ H' fun σ2 H2=>tb { D with nx:=N,ct:=N,bk:=D.nx } σ2 H2)
def gJ (fp:List Addr)(h:Heap):List (Addr×Obj):=fp.filterMap fun b=>(h.get? b).map fun o=>(b,o)
theorem da {o:Obj}(hb:b ∈ fp)(e:h.get? b=some o):(b,o) ∈ gJ fp h:=List.mem_filterMap.mpr ⟨b,hb,by rw [e]; rfl⟩
theorem og {p:Addr×Obj}(hp:p ∈ gJ fp h):p.1 ∈ fp/\h.get? p.1=some p.2:=by
 obtain ⟨b,hb,e⟩:=List.mem_filterMap.mp hp
 cases q:h.get? b with
 | none=>rw [q] at e; cases e
 | some o =>
  rw [q] at e
  have e':(b,o)=p:=aaj e
  subst e'
  exact ⟨hb,q⟩
theorem Inv.pinned (I:Inv X pins σ H s)(hf:∀ b ∈ fp,n8 X pins H b)(ho:∀ b ∈ fp,∃ o,s.heap.get? b=some o/\∀ v,o.data≠.cell v):Inv X (pins++gJ fp s.heap) σ H s :=
 I.pins_of fun p hp=>(List.mem_append.mp hp).elim (fun z=>I.pin p (aak _ z)) fun z=>by
  obtain ⟨hb,e⟩:=og z
  obtain ⟨f0,f1,f2,_⟩:=hf p.1 hb
  obtain ⟨o,e',d⟩:=ho p.1 hb
  rw [e] at e'; cases e'
  exact ⟨e,f0,f1,f2,d⟩
theorem Inv.unpinned {pl:List (Addr×Obj)}(I:Inv X (pins++pl) σ H s):Inv X pins σ H s:=I.pins_of fun p hp=>I.pin p (aak _ (aaw _ hp))
theorem CQ {iter:Expr}{wi:TI}{g:TG}{tb:TS}(hp:PassesOwn (model X.prog X.w) X.A X.env X.xe)(hc:X.calm=true)(hi:PI X tg iter wi)(hg:PG X tg g)(hb:PSs X body tb)
  (hs:autoParam (∀ x,foldedSetIterable iter X.env x=pure x) L2.aI._auto_1):PS X (.For tg iter body [] pos) (Hk wi g tb):=by
 intro pins s σ H D I h
 refine wpAny_For (thn (hi pins s σ H _ I h) fun v s1 h1=>thn h1 fun itv s2 h2=>?_) hs
 obtain ⟨it,fp,tn,J,H2,e,I2,T,st2,f2,W,⟨m0,w0⟩,turn⟩:=h2
 subst e
 -- what stays true of the iterator's objects through the loop
 have stat:∀ {H':Hp},(∀ b ∈ fp,H' b=none)->∀ b ∈ fp,n8 X pins H' b:=fun hn b hb=>⟨hn b hb,(f2 b hb).2⟩
 refine codeAny_forLoop_any (fun n s'=>∃ i σ' H',Inv X pins σ' H' s'/\tn i s'.heap/\(∀ b ∈ fp,H' b=none)/\W i n σ' H') ?_ m0 ⟨0,σ,H2,I2,st2,fun b hb=>(f2 b hb).1,w0⟩
 rintro n s3 ⟨i,σ3,H3,I3,st3,fr3,w3⟩
 rcases turn i n σ3 H3 w3 with ⟨stop,qn⟩ | ⟨go,N,hN,step⟩
 ·refine aa6 hp (thn (T.done X rfl rfl rfl hc i pins s3 σ3 H3 X.xe I3 (stat fr3) st3 stop) fun r s4 ⟨hr,I4⟩=>?_)
  subst hr
  exact wpAny_execs_nil ⟨σ3,H3,I4,qn⟩
 ·refine aa6 hp (thn (T.item X rfl rfl rfl hc i pins s3 σ3 H3 X.xe I3 (stat fr3) st3 go) fun r s4 ⟨u,hr,h4⟩=>?_)
  subst hr
  refine aa6 hp (thn h4 fun _ s5 ⟨x,H5,I5,r5,y5,st5,fr5⟩=>?_)
  have I5':=I5.pinned (stat fr5) (T.obj _ _ st5)
  refine aa6 hp (thn (hg _ s5 σ3 H5 x u _ I5' r5 (step x H5 y5)) fun _ s6 ⟨σ6,H6,I6,q6⟩=>?_)
  refine aa6 hp (thn (hb _ s6 σ6 H6 _ I6 q6) fun f s7 q7=>?_)
  have again:∀ {σ7:St} {H7:Hp},Inv X (pins++gJ fp s5.heap) σ7 H7 s7->N σ7 H7->∃ m,m < n/\∃ i σ' H',Inv X pins σ' H' s7/\tn i s7.heap/\(∀ b ∈ fp,H' b=none)/\W i m σ' H':=fun {σ7 H7} I7 n7=>by
   obtain ⟨m',hm,w7⟩:=hN σ7 H7 n7
   refine ⟨m',hm,i+1,σ7,H7,I7.unpinned,T.keep _ _ _ st5 fun b hb o e=>(I7.pin (b,o) (aak _ (aak _ (da hb e)))).1,fun b hb=>?_,w7⟩
   obtain ⟨o,e,d⟩:=T.obj _ _ st5 b hb
   exact (I7.pin (b,o) (aak _ (aak _ (da hb e)))).2.1
  cases f with
  | next=>obtain ⟨σ7,H7,I7,n7⟩:=q7; exact again I7 n7
  | cont=>obtain ⟨σ7,H7,I7,n7⟩:=q7; exact again I7 n7
  | brk=>obtain ⟨σ7,H7,I7,q7⟩:=q7; exact ⟨σ7,H7,I7.unpinned,q7⟩
  | ret v=>obtain ⟨x7,σ7,H7,I7,r7,q7⟩:=q7; exact ⟨x7,σ7,H7,I7.unpinned,r7,q7⟩
abbrev R2:=V->V->Hp->VK->Prop
variable{r r':R2}
def OpR (X:Cx)(f:Value->Value->Sem Value)(r:R2):Prop :=
 ∀ (pins:List (Addr×Obj)) (s:Shared) (σ:St) (H:Hp) (x y:V) (v u:Value) (Q:VK),Inv X pins σ H s->RelV x v->RelV y u->r x y H Q ->
  wpAny (model X.prog X.w) X.A (f v u) (EP X pins σ Q) X.xe s
def UnR (X:Cx)(f:Value->Sem Value)(r:V->Hp->VK->Prop):Prop :=
 ∀ (pins:List (Addr×Obj)) (s:Shared) (σ:St) (H:Hp) (x:V) (v:Value) (Q:VK),Inv X pins σ H s->RelV x v->r x H Q ->
  wpAny (model X.prog X.w) X.A (f v) (EP X pins σ Q) X.xe s
def CallR (X:Cx)(f:Value)(r:List V->Hp->VK->Prop):Prop :=
 ∀ (pins:List (Addr×Obj)) (s:Shared) (σ:St) (H:Hp) (xs:List V) (us:List Value) (Q:VK),Inv X pins σ H s->Vals xs us->r xs H Q ->
  wpAny (model X.prog X.w) X.A (call f us) (EP X pins σ Q) X.xe s
def TruR (X:Cx)(r:V->Hp->(Bool->Hp->Prop)->Prop):Prop :=
 ∀ (pins:List (Addr×Obj)) (s:Shared) (σ:St) (H:Hp) (x:V) (v:Value) (Q:Bool->Hp->Prop),Inv X pins σ H s->RelV x v->r x H Q ->
  wpAny (model X.prog X.w) X.A (truthy v) (TP X pins σ Q) X.xe s
def tOp (r:R2)(ta tb:TE):TE:=fun σ H Q=>ta σ H fun x H1=>tb σ H1 fun y H2=>r x y H2 Q
def tUn (r:V->Hp->VK->Prop)(ta:TE):TE:=fun σ H Q=>ta σ H fun x H1=>r x H1 Q
def rI (C:Int->Int->Prop)(g:Int->Int->V):R2:=fun x y H Q=>∃ i j,x=.int i/\y=.int j/\C i j/\Q (g i j) H
def rI0 (g:Int->Int->V):R2:=fun x y H Q=>∃ i j,x=.int i/\y=.int j/\Q (g i j) H
def rU (g:Int->V):V->Hp->VK->Prop:=fun x H Q=>∃ i,x=.int i/\Q (g i) H
section
variable  {a b:Expr} {tc:TE} 
theorem Hl (ha:PE X a ta)(hb:PE X b tb)(I:Inv X pins σ H s)
  (h:ta σ H fun x H1=>tb σ H1 fun y H2=>R x y H2)  
  (hf:∀ v u s2 x y H2,Inv X pins σ H2 s2->RelV x v->RelV y u->R x y H2->wpAny (model X.prog X.w) X.A (f v u) Q X.xe s2) :
  wpAny (model X.prog X.w) X.A (eval a X.env) (fun v s₁=>wpAny (model X.prog X.w) X.A (eval b X.env) (fun u s₂=>wpAny (model X.prog X.w) X.A (f v u) Q X.xe s₂) X.xe s₁) X.xe s:=by
 refine thn (ha pins s σ H _ I h) fun v s1 ⟨x,H1,I1,r1,q1⟩=>?_
 refine thn (hb pins s1 σ H1 _ I1 q1) fun u s2 ⟨y,H2,I2,r2,q2⟩=>?_
 exact hf v u s2 x y H2 I2 r1 r2 q2
theorem Hm {op:Operator}(ho:OpR X (binaryOp op) r)(ha:PE X a ta)(hb:PE X b tb):PE X (.BinOp a op b pos) (tOp r ta tb):=by
 intro pins s σ H Q I h
 exact wpAny_BinOp (Hl ha hb I h fun v u s2 x y H2 I2 rx ry q=>ho pins s2 σ H2 x y v u Q I2 rx ry q)
theorem Hn {op:UnaryOp}{r:V->Hp->VK->Prop}(ho:UnR X (unaryOp op) r)(ha:PE X a ta):PE X (.UnaryOp op a pos) (tUn r ta):=by
 intro pins s σ H Q I h
 exact UnaryOp_ (thn (ha pins s σ H _ I h) fun v s1 ⟨x,H1,I1,r1,q1⟩=>ho pins s1 σ H1 x v Q I1 r1 q1)
theorem opI {C:Int->Int->Prop}
  (rule:∀ (i j:Int) (t u:Tok) (s:Shared) (Q:Value->Shared->Prop) (E:Value->Shared->Prop),C i j->Q (.int (g i j) s.toks) { s with toks:=s.toks+1 }->wpAny (model X.prog X.w) X.A (f (.int i t) (.int j u)) Q E s) :
  OpR X f (rI C fun i j=>.int (g i j)):=by
 intro pins s σ H x y v u Q I rx ry h
 obtain ⟨i,j,rfl,rfl,hc,q⟩:=h
 obtain ⟨t,rfl⟩:=rx
 obtain ⟨t',rfl⟩:=ry
 exact rule i j t t' s _ _ hc ⟨.int (g i j),H,I.tok _,⟨_,rfl⟩,q⟩
theorem IV 
  (rule:∀ (i j:Int) (t u:Tok) (s:Shared) (Q:Value->Shared->Prop) (E:Value->Shared->Prop),Q (.int (g i j) s.toks) { s with toks:=s.toks+1 }->wpAny (model X.prog X.w) X.A (f (.int i t) (.int j u)) Q E s) :
  OpR X f (rI0 fun i j=>.int (g i j)):=by
 intro pins s σ H x y v u Q I rx ry h
 obtain ⟨i,j,rfl,rfl,q⟩:=h
 obtain ⟨t,rfl⟩:=rx
 obtain ⟨t',rfl⟩:=ry
 exact rule i j t t' s _ _ ⟨.int (g i j),H,I.tok _,⟨_,rfl⟩,q⟩
theorem GQ {g:Int->Int->Bool}
  (rule:∀ (i j:Int) (t u:Tok) (s:Shared) (Q:Value->Shared->Prop) (E:Value->Shared->Prop),Q (.bool (g i j)) s->wpAny (model X.prog X.w) X.A (f (.int i t) (.int j u)) Q E s) :
  OpR X f (rI0 fun i j=>.bl (g i j)):=by
 intro pins s σ H x y v u Q I rx ry h
 obtain ⟨i,j,rfl,rfl,q⟩:=h
 obtain ⟨t,rfl⟩:=rx
 obtain ⟨t',rfl⟩:=ry
 exact rule i j t t' s _ _ ⟨.bl (g i j),H,I,rfl,q⟩
def Ci (i j:Int):Prop:=0 < j/\j < 1073741824
def Cj (i j:Int):Prop:=0<=j/\j<=1000000/\i.natAbs < 2 ^ 64
def CMul (i j:Int):Prop:=(-(2 ^ 64) < i/\i < 2 ^ 64)∨(-(2 ^ 64) < j/\j < 2 ^ 64)
theorem CMul.ok {i j:Int}(h:CMul i j):IntMulOk i j:=by
 rcases h with ⟨h1,h2⟩ | ⟨h1,h2⟩
 ·exact .of_left (intBits_le_64 h1 h2)
 ·exact .of_right (intBits_le_64 h1 h2)
theorem CS:OpR X (binaryOp .Add) (rI0 fun i j=>.int (i+j)):=IV fun _ _ _ _ _ _ _ q=>add_int q
theorem CT:OpR X (binaryOp .Sub) (rI0 fun i j=>.int (i - j)):=IV fun _ _ _ _ _ _ _ q=>sub_int q
theorem CU:OpR X (binaryOp .Mult) (rI CMul fun i j=>.int (i * j)):=opI fun _ _ _ _ _ _ _ hc q=>mul_int q hc.ok
theorem xZ:OpR X (binaryOp .FloorDiv) (rI Ci fun i j=>.int (i / j)):=opI fun i j _ _ _ _ _ hc q=>by
 have h1:(0:Int) < j:=hc.1
 have h2:j < 1073741824:=hc.2
 exact floordiv_int (by nofun) (by rw [Int.fdiv_eq_ediv_of_nonneg i (by nofun)]; exact q) (.inl (PyProof.noPylong_small (by nofun)))
theorem CV:OpR X (binaryOp .Mod) (rI (fun _ j=>0 < j) fun i j=>.int (i % j)):=opI fun i j _ _ _ _ _ hc q=>by
 have h1:(0:Int) < j:=hc
 exact mod_int' (by nofun) (by rw [Int.fmod_eq_emod_of_nonneg i (by nofun)]; exact q)
theorem CW:OpR X (binaryOp .Pow) (rI Cj fun i j=>.int (i ^ j.toNat)):=opI fun _ _ _ _ _ _ _ hc q=>pow_int_small hc.1 hc.2.1 hc.2.2 q
theorem unI {f:Value->Sem Value}{g:Int->Int}
  (rule:∀ (i:Int) (t:Tok) (s:Shared) (Q:Value->Shared->Prop) (E:Value->Shared->Prop),Q (.int (g i) s.toks) { s with toks:=s.toks+1 }->wpAny (model X.prog X.w) X.A (f (.int i t)) Q E s) :
  UnR X f (rU fun i=>.int (g i)):=by
 intro pins s σ H x v Q I rx h
 obtain ⟨i,rfl,q⟩:=h
 obtain ⟨t,rfl⟩:=rx
 exact rule i t s _ _ ⟨.int (g i),H,I.tok _,⟨_,rfl⟩,q⟩
theorem CY:UnR X (unaryOp .USub) (rU fun i=>.int (-i)):=unI fun _ _ _ _ _ q=>neg_int q
end
def IW:V->V->Bool
 | .non,.non=>true | .non,.int _=>true | .int _,.non=>true | .non,.bl _=>true | .bl _,.non=>true | .non,.str _=>true | .str _,.non=>true
 | .int _,.int _=>true | .bl _,.bl _=>true | .str _,.str _=>true | .byt _,.byt _=>true
 | .int _,.str _=>true | .str _,.int _=>true | .bl _,.str _=>true | .str _,.bl _=>true
 | _,_=>false
def rEq:R2:=fun x y H Q=>IW x y=true/\Q (.bl (decide (x=y))) H
def rNe:R2:=fun x y H Q=>IW x y=true/\Q (.bl (!decide (x=y))) H
theorem oh {i j:Int}:decide (V.int i=V.int j)=(i == j):=by
 rw [abo,decide_eq_true_iff,beq_iff_eq]
 exact ⟨fun h=>by cases h; rfl,fun h=>by rw [h]⟩
theorem wD {i j:Bool}:decide (V.bl i=V.bl j)=(i == j):=by
 rw [abo,decide_eq_true_iff,beq_iff_eq]
 exact ⟨fun h=>by cases h; rfl,fun h=>by rw [h]⟩
theorem oi {i j:Str}:decide (V.str i=V.str j)=(i == j):=by
 rw [abo,decide_eq_true_iff,beq_iff_eq]
 exact ⟨fun h=>by cases h; rfl,fun h=>by rw [h]⟩
theorem oj {i j:Array UInt8}:decide (V.byt i=V.byt j)=(i.toList == j.toList):=by
 rw [abo,decide_eq_true_iff,beq_iff_eq]
 exact ⟨fun h=>by cases h; rfl,fun h=>by rw [Array.toList_inj.mp h]⟩
section
variable  {a b:Expr} {tc:TE} 
theorem aK {Q:VK}{k k':Bool}(I:Inv X pins σ H s)(q:Q (.bl k) H)(e:k=k'):EP X pins σ Q (.bool k') s:=by
 subst e
 exact ⟨.bl k,H,I,rfl,q⟩
theorem Ho:OpR X (compareOp .Eq) rEq:=by
 intro pins s σ H x y v u Q I rx ry h
 obtain ⟨hs,q⟩:=h
 cases x with
 | non =>
  cases rx
  cases y with
  | non=>cases ry; exact PySem.EqNone.eq_none_none (aK I q (by simp))
  | bl j=>cases ry; exact PySem.EqNone.eq_none_bool (aK I q (by simp))
  | int j=>obtain ⟨t',rfl⟩:=ry; exact PySem.EqNone.eq_none_int (aK I q (by simp))
  | str j=>obtain ⟨t',rfl⟩:=ry; exact PySem.EqNone.eq_none_str (aK I q (by simp))
  | _=>exact absurd (show false=true from hs) Bool.false_ne_true
 | bl i =>
  cases rx
  cases y with
  | non=>cases ry; exact PySem.EqNone.eq_bool_none (aK I q (by simp))
  | bl j=>cases ry; exact eq_bool (aK I q wD)
  | str j=>obtain ⟨t',rfl⟩:=ry; exact PySem.EqMixed.eq_bool_str (aK I q (by simp))
  | _=>exact absurd (show false=true from hs) Bool.false_ne_true
 | int i =>
  obtain ⟨t,rfl⟩:=rx
  cases y with
  | non=>cases ry; exact PySem.EqNone.eq_int_none (aK I q (by simp))
  | int j=>obtain ⟨t',rfl⟩:=ry; exact eq_int (aK I q oh)
  | str j=>obtain ⟨t',rfl⟩:=ry; exact PySem.EqMixed.eq_int_str (aK I q (by simp))
  | _=>exact absurd (show false=true from hs) Bool.false_ne_true
 | str i =>
  obtain ⟨t,rfl⟩:=rx
  cases y with
  | non=>cases ry; exact PySem.EqNone.eq_str_none (aK I q (by simp))
  | bl j=>cases ry; exact PySem.EqMixed.eq_str_bool (aK I q (by simp))
  | int j=>obtain ⟨t',rfl⟩:=ry; exact PySem.EqMixed.eq_str_int (aK I q (by simp))
  | str j=>obtain ⟨t',rfl⟩:=ry; exact eq_str (aK I q oi)
  | _=>exact absurd (show false=true from hs) Bool.false_ne_true
 | byt i =>
  obtain ⟨t,rfl⟩:=rx
  cases y with
  | byt j=>obtain ⟨t',rfl⟩:=ry; exact PySem.W.eq_bytes (aK I q oj)
  | _=>exact absurd (show false=true from hs) Bool.false_ne_true
 | _=>cases y <;> exact absurd (show false=true from hs) Bool.false_ne_true
theorem Hq:OpR X (compareOp .NotEq) rNe:=by
 intro pins s σ H x y v u Q I rx ry h
 obtain ⟨hs,q⟩:=h
 cases x with
 | non =>
  cases rx
  cases y with
  | non=>cases ry; exact PySem.EqNone.ne_none_none (aK I q (by simp))
  | bl j=>cases ry; exact PySem.EqNone.ne_none_bool (aK I q (by simp))
  | int j=>obtain ⟨t',rfl⟩:=ry; exact PySem.EqNone.ne_none_int (aK I q (by simp))
  | str j=>obtain ⟨t',rfl⟩:=ry; exact PySem.EqNone.ne_none_str (aK I q (by simp))
  | _=>exact absurd (show false=true from hs) Bool.false_ne_true
 | bl i =>
  cases rx
  cases y with
  | non=>cases ry; exact PySem.EqNone.ne_bool_none (aK I q (by simp))
  | bl j=>cases ry; exact ne_bool (aK I q (congrArg not wD))
  | str j=>obtain ⟨t',rfl⟩:=ry; exact PySem.EqMixed.ne_bool_str (aK I q (by simp))
  | _=>exact absurd (show false=true from hs) Bool.false_ne_true
 | int i =>
  obtain ⟨t,rfl⟩:=rx
  cases y with
  | non=>cases ry; exact PySem.EqNone.ne_int_none (aK I q (by simp))
  | int j=>obtain ⟨t',rfl⟩:=ry; exact ne_int (aK I q (congrArg not oh))
  | str j=>obtain ⟨t',rfl⟩:=ry; exact PySem.EqMixed.ne_int_str (aK I q (by simp))
  | _=>exact absurd (show false=true from hs) Bool.false_ne_true
 | str i =>
  obtain ⟨t,rfl⟩:=rx
  cases y with
  | non=>cases ry; exact PySem.EqNone.ne_str_none (aK I q (by simp))
  | bl j=>cases ry; exact PySem.EqMixed.ne_str_bool (aK I q (by simp))
  | int j=>obtain ⟨t',rfl⟩:=ry; exact PySem.EqMixed.ne_str_int (aK I q (by simp))
  | str j=>obtain ⟨t',rfl⟩:=ry; exact ne_str (aK I q (congrArg not oi))
  | _=>exact absurd (show false=true from hs) Bool.false_ne_true
 | byt i =>
  obtain ⟨t,rfl⟩:=rx
  cases y with
  | byt j=>obtain ⟨t',rfl⟩:=ry; exact PySem.W.ne_bytes (aK I q (congrArg not oj))
  | _=>exact absurd (show false=true from hs) Bool.false_ne_true
 | _=>cases y <;> exact absurd (show false=true from hs) Bool.false_ne_true
theorem Hr:OpR X (compareOp .Lt) (rI0 fun i j=>.bl (decide (i < j))):=GQ fun _ _ _ _ _ _ _ q=>lt_int q
theorem Hs:OpR X (compareOp .LtE) (rI0 fun i j=>.bl (decide (i<=j))):=GQ fun _ _ _ _ _ _ _ q=>le_int q
theorem Ht:OpR X (compareOp .Gt) (rI0 fun i j=>.bl (decide (j < i))):=GQ fun _ _ _ _ _ _ _ q=>gt_int q
theorem Hu:OpR X (compareOp .GtE) (rI0 fun i j=>.bl (decide (j<=i))):=GQ fun _ _ _ _ _ _ _ q=>ge_int q
theorem om:OpR X (compareOp .In) (fun x y H Q=>∃ i j,x=.str i/\y=.str j/\Q (.bl (!(Builtin.Str.occurrences j i 0 j.length 1).isEmpty)) H):=by
 intro pins s σ H x y v u Q I rx ry h
 obtain ⟨i,j,rfl,rfl,q⟩:=h
 obtain ⟨t,rfl⟩:=rx
 obtain ⟨t',rfl⟩:=ry
 exact in_str (aK I q rfl)
theorem CZ:OpR X (compareOp .Is) (fun x y H Q=>y=.non/\Q (.bl (decide (x=.non))) H):=by
 intro pins s σ H x y v u Q I rx ry h
 obtain ⟨rfl,q⟩:=h
 cases ry
 refine is_none_gen (aK I q ?_)
 cases x <;> first
  | (cases rx; rfl)
  | (obtain ⟨t,rfl⟩:=rx; rfl)
theorem x0:OpR X (compareOp .IsNot) (fun x y H Q=>y=.non/\Q (.bl (!decide (x=.non))) H):=by
 intro pins s σ H x y v u Q I rx ry h
 obtain ⟨rfl,q⟩:=h
 cases ry
 refine isnot_none_gen (aK I q ?_)
 cases x <;> first
  | (cases rx; rfl)
  | (obtain ⟨t,rfl⟩:=rx; rfl)
theorem OpR.or (h:OpR X f r)(h':OpR X f r'):OpR X f (fun x y H Q=>r x y H Q∨r' x y H Q):=by
 intro pins s σ H x y v u Q I rx ry q
 rcases q with q | q
 ·exact h pins s σ H x y v u Q I rx ry q
 ·exact h' pins s σ H x y v u Q I rx ry q
theorem x2 (ho:OpR X (compareOp op) r)(ha:PE X a ta)(hb:PE X b tb)(hm:behindInMarks op b=false):PE X (.Compare a [op] [b] pos) (tOp r ta tb):=by
 intro pins s σ H Q I h
 exact wpAny_Compare1 (Hl ha hb I h fun v u s2 x y H2 I2 rx ry q=>ho pins s2 σ H2 x y v u Q I2 rx ry q) hm
def oo (t:TE):TT:=fun σ H Q=>t σ H fun x H'=>∃ k,x=.bl k/\Q k H'
theorem x8 (ho:OpR X (compareOp op) r)(ha:PE X a ta)(hb:PE X b tb)(hm:behindInMarks op b=false):PT X (.Compare a [op] [b] pos) (oo (tOp r ta tb)):=by
 intro pins s σ H Q I h
 refine wpAny_isTrue_Compare1 (thn (ha pins s σ H _ I h) fun v s1 ⟨x,H1,I1,r1,q1⟩=>thn (hb pins s1 σ H1 _ I1 q1) fun u s2 ⟨y,H2,I2,r2,q2⟩ =>
  thn (ho pins s2 σ H2 x y v u _ I2 r1 r2 q2) fun c s3 ⟨z,H3,I3,r3,k,e,q3⟩=>?_) hm
 subst e
 cases r3
 exact aaH ⟨H3,I3,q3⟩
def i8 (r r':R2)(ta tb tc:TE):TE:=fun σ H Q=>ta σ H fun x H1=>tb σ H1 fun y H2=>r x y H2 fun z H3=>∃ k,z=.bl k /\
 (if k=true then tc σ H3 fun w' H4=>r' y w' H4 Q else Q (.bl false) H3)
theorem sI (ho:OpR X (compareOp op) r)(ho':OpR X (compareOp op') r')(ha:PE X a ta)(hb:PE X b tb)(hc:PE X c tc)
  (hm:lastMarks [op,op'] [b,c]=false:=by with_unfolding_all rfl):PE X (.Compare a [op,op'] [b,c] pos) (i8 r r' ta tb tc):=by
 intro pins s σ H Q I h
 refine Compare_chain (thn (ha pins s σ H _ I h) fun v s1 ⟨x,H1,I1,r1,q1⟩=>chain_link (thn (hb pins s1 σ H1 _ I1 q1) fun u s2 ⟨y,H2,I2,r2,q2⟩ =>
  thn (ho pins s2 σ H2 x y v u _ I2 r1 r2 q2) fun d s3 ⟨z,H3,I3,r3,k,e,q3⟩=>?_)) hm
 subst e
 cases r3
 refine aaH ?_
 cases k with
 | false=>exact ite_ff ⟨.bl false,H3,I3,rfl,q3⟩
 | true=>exact ite_tt (chain_last (thn (hc pins s3 σ H3 _ I3 q3) fun w' s4 ⟨z',H4,I4,r4,q4⟩=>ho' pins s4 σ H4 y z' u w' Q I4 r2 r4 q4))
theorem sJ (ho:OpR X (compareOp op) r)(ho':OpR X (compareOp op') r')(ha:PE X a ta)(hb:PE X b tb)(hc:PE X c tc)
  (hm:lastMarks [op,op'] [b,c]=false:=by with_unfolding_all rfl):PT X (.Compare a [op,op'] [b,c] pos) (oo (i8 r r' ta tb tc)):=by
 intro pins s σ H Q I h
 refine isTrue_chain (thn (ha pins s σ H _ I h) fun v s1 ⟨x,H1,I1,r1,q1⟩=>test_link (thn (hb pins s1 σ H1 _ I1 q1) fun u s2 ⟨y,H2,I2,r2,q2⟩ =>
  thn (ho pins s2 σ H2 x y v u _ I2 r1 r2 q2) fun d s3 ⟨z,H3,I3,r3,k,e,q3⟩=>?_)) hm
 subst e
 cases r3
 refine aaH ?_
 cases k with
 | false =>
  obtain ⟨k',e',q'⟩:=q3
  cases e'
  exact ite_ff ⟨H3,I3,q'⟩
 | true =>
  refine ite_tt (test_last (thn (hc pins s3 σ H3 _ I3 q3) fun w' s4 ⟨z',H4,I4,r4,q4⟩=>thn (ho' pins s4 σ H4 y z' u w' _ I4 r2 r4 q4) fun d' s5 ⟨z2,H5,I5,r5,k2,e2,q5⟩=>?_))
  subst e2
  cases r5
  exact aaH ⟨H5,I5,q5⟩
def GR (K:Frag)(x:V)(H:Hp)(k:Bool):Prop :=
 match x with
 | .non=>k=false
 | .bl b=>k=b
 | .int i=>k=(i != 0)
 | .str y=>y.length<=sizeLine/\k=((y.length:Int) != 0)
 | .byt y=>y.size<=sizeLine/\k=((y.size:Int) != 0)
 | .ref p=>(∃ xs,SqL K H p xs/\k=!xs.isEmpty)∨(∃ xs,SqT K H p xs/\k=!xs.isEmpty)∨∃ kvs,H p=some (.dK kvs)/\k=!kvs.isEmpty
 | _=>False
theorem mL {κ:Type}{kvs:List (κ×V)}{vs:List (κ×Value)}(r:KV kvs vs):(!vs.isEmpty)=!kvs.isEmpty:=by
 cases r <;> rfl
theorem gK {its:List Value}(r:Vals xs its):(!its.toArray.isEmpty)=!xs.isEmpty:=by
 cases r <;> simp
theorem fB:(sizeLine:Nat) < 2 ^ 63:=by rw [sizeLine_eq]; decide
theorem C5:TruR X (fun x H Q=>∃ k,GR X.K x H k/\Q k H):=by
 intro pins s σ H x v Q I rx h
 obtain ⟨k,e,q⟩:=h
 have hl:=fB
 have hs:sizeLine=16777216:=sizeLine_eq
 cases x with
 | non =>
  cases rx
  have e':k=false:=e
  subst e'
  exact truthy_none ⟨H,I,q⟩
 | bl b =>
  cases rx
  have e':k=b:=e
  subst e'
  exact aaH ⟨H,I,q⟩
 | int i =>
  obtain ⟨t,rfl⟩:=rx
  have e':k=(i != 0):=e
  subst e'
  exact PySem.P.truthy_int ⟨H,I,q⟩
 | str y =>
  obtain ⟨t,rfl⟩:=rx
  obtain ⟨hy,e'⟩:y.length<=sizeLine/\k=((y.length:Int) != 0):=e
  subst e'
  exact PySem.P.truthy_str (by nofun) ⟨H,I.tok _,q⟩
 | byt y =>
  obtain ⟨t,rfl⟩:=rx
  obtain ⟨hy,e'⟩:y.size<=sizeLine/\k=((y.size:Int) != 0):=e
  subst e'
  exact PySem.W.truthy_bytes (by nofun) ⟨H,I.tok _,q⟩
 | ref p =>
  cases rx
  have e':(∃ xs,SqL X.K H p xs/\k=!xs.isEmpty)∨(∃ xs,SqT X.K H p xs/\k=!xs.isEmpty)∨∃ kvs,H p=some (.dK kvs)/\k=!kvs.isEmpty:=e
  rcases e' with ⟨xs,hx,e'⟩ | ⟨xs,hx,e'⟩ | ⟨kvs,hx,e'⟩
  ·subst e'
   obtain ⟨its,r,pl,hz⟩:=I.list hx
   have hlen:=r.length
   exact wpAny_truthy_list pl.isList (by simp only [List.size_toArray]; nofun) ⟨H,I.tok _,by rw [gK r]; exact q⟩
  ·subst e'
   obtain ⟨its,r,pl,hz⟩:=I.tuple hx
   have hlen:=r.length
   exact truthy_tuple pl (by simp only [List.size_toArray]; nofun) ⟨H,I.tok _,by rw [gK r]; exact q⟩
  ·subst e'
   obtain ⟨hz,hS,vs,r,m⟩:kvs.length<=sizeLine/\(p == sysModules)=false/\∃ vs,KV kvs vs/\s.heap.DictOf (ai X.prog X.w) p vs:=I.hok p _ hx
   have hlen:kvs.length=vs.length:=aa1 r
   exact wpAny_truthy_dict hS m (by nofun) ⟨H,I.tok _,by rw [mL r]; exact q⟩
 | _=>exact (show False from e).elim
theorem kZ (ha:PE X a ta)(he:∀ whole,isTrue a X.env whole=(do let v ← whole; standAt a.pos; holding [v] (truthy v))) :
  PT X a (fun σ H Q=>ta σ H fun x H'=>∃ k,GR X.K x H' k/\Q k H'):=by
 intro pins s σ H Q I h
 exact isTrue_plain (thn (ha pins s σ H _ I h) fun v s1 ⟨x,H1,I1,r1,q1⟩=>C5 pins s1 σ H1 x v Q I1 r1 q1) (he _)
theorem mM:OpR X (binaryOp .Add) (fun x y H Q=>∃ i j,x=.str i/\y=.str j/\i.length+j.length<=sizeLine/\Q (.str (i++j)) H):=by
 intro pins s σ H x y v u Q I rx ry h
 obtain ⟨i,j,rfl,rfl,hz,q⟩:=h
 obtain ⟨t,rfl⟩:=rx
 obtain ⟨t',rfl⟩:=ry
 exact add_str (fun t' tk=>⟨.str (i++j),H,I.tok _,⟨_,rfl⟩,q⟩) hz
theorem du {x:V}(r:Vals [x] us):∃ u,us=[u]/\RelV x u:=by
 cases r with
 | cons r1 r2=>cases r2; exact ⟨_,rfl,r1⟩
theorem sK {x:V}(r:Vals [x,y] us):∃ u w',us=[u,w']/\RelV x u/\RelV y w':=by
 cases r with
 | cons r1 r2 =>
  cases r2 with
  | cons r3 r4=>cases r4; exact ⟨_,_,rfl,r1,r3⟩
theorem oq (hc:X.calm=true):CallR X (.builtin "max") (fun xs H Q=>∃ i j,xs=[.int i,.int j]/\Q (.int (if j > i then j else i)) H):=by
 intro pins s σ H xs us Q I r h
 obtain ⟨i,j,rfl,q⟩:=h
 obtain ⟨u,w',rfl,⟨t,rfl⟩,⟨t',rfl⟩⟩:=sK r
 refine max_two_ints (I.ok.hd hc) fun h' tk k=>⟨_,H,I.kept k,?_,q⟩
 by_cases hj:j > i
 ·rw [if_pos hj,if_pos hj]; exact ⟨_,rfl⟩
 ·rw [if_neg hj,if_neg hj]; exact ⟨_,rfl⟩
theorem ou (hc:X.calm=true):CallR X (.builtin "min") (fun xs H Q=>∃ i j,xs=[.int i,.int j]/\Q (.int (if j < i then j else i)) H):=by
 intro pins s σ H xs us Q I r h
 obtain ⟨i,j,rfl,q⟩:=h
 obtain ⟨u,w',rfl,⟨t,rfl⟩,⟨t',rfl⟩⟩:=sK r
 refine min_two_ints (I.ok.hd hc) fun h' tk k=>⟨_,H,I.kept k,?_,q⟩
 by_cases hj:j < i
 ·rw [if_pos hj,if_pos hj]; exact ⟨_,rfl⟩
 ·rw [if_neg hj,if_neg hj]; exact ⟨_,rfl⟩
end
structure ObjM (h:Heap)(x dx C:Addr)(mA:Str->Option Value):Prop where
 obj:h.get? x=some (PySem.W.instObj C dx)
 ns:h.Ns1 dx mA
 ne:dx≠x
theorem ox (n:h.Ns1 dx mA):∃ od,h.get? dx=some od/\∀ name,PySem.W.lookIn name od=some (mA name):=by
 obtain ⟨o,es,ep,ho,hd,hk,_,hm⟩:=n
 refine ⟨o,ho,fun name=>?_⟩
 have e:=hm name
 unfold nsFind findBy at e
 rw [← Array.find?_toList] at e
 unfold PySem.W.lookIn
 rw [hd]
 dsimp only
 split
 ·rename_i y q
  rw [q] at e
  exact congrArg some e
 ·rename_i q
  rw [q] at e
  have a:es.toList.any (·.refKey)=false:=by
   rw [List.any_eq_false]
   intro y hy
   obtain ⟨z,t,hkey⟩:=hk y (Array.mem_toList_iff.mp hy)
   simp [DictEntry.refKey,hkey]
  have a':¬ es.toList.any (·.refKey)=true:=by rw [a]; exact Bool.false_ne_true
  rw [if_neg a']
  exact congrArg some e
theorem ObjM.look {x:Addr}(I:ObjM h x dx C mA):∃ od,PySem.W.InstAt h x (PySem.W.instObj C dx) C (some od)/\∀ name,PySem.W.lookIn name od=some (mA name) :=
 let ⟨od,ho,hl⟩:=ox I.ns
 ⟨od,⟨I.obj,rfl,rfl,ho⟩,hl⟩
section
variable      {K:Frag} {x f:Addr}   {v:Value}
theorem x9 {expr:Bool}(X:K.In s.heap)(I:ObjM s.heap x dx C mA)(hg:PySem.W.plainGet K C name=true)(hh:PySem.W.hasDictIn K C=true)
  (ha:PySem.W.findIn K (.ref C) name=some none) (hv:mA name=some v) (hv':PySem.W.handedIn v=true) (h:Q v { s with toks:=s.toks+1 }) :
  wpAny (model prog w) A (getAttr (.ref x) name expr) Q E s:=by
 obtain ⟨od,J,hl⟩:=I.look
 exact PySem.W.get_value X J (PySem.W.plainGet_of hg).1 (PySem.W.findObj_own hh ha rfl (by rw [hl,hv])) hv' h
theorem sL {Q:Value×List Value->Shared->Prop}(X:K.In s.heap)(I:ObjM s.heap x dx C mA)(hg:PySem.W.plainGet K C name=true)
  (hf:PySem.W.findIn K (.ref C) name=some (some (.ref f))) (ht:PySem.W.isFn K (.ref f)=true) (hv:mA name=none) (h:Q (.ref f,[.ref x]) s) :
  wpAny (model prog w) A (getMethod (.ref x) name pl) Q E s:=by
 obtain ⟨od,J,hl⟩:=I.look
 exact PySem.W.method_fn X J (PySem.W.plainGet_of hg).1 (PySem.W.plainGet_of hg).2 hf (beq_iff_eq.mp ht) (by show (PySem.W.lookIn name od).map (·.isSome)=some false; rw [hl,hv]; rfl) h
theorem ya {ns:List Str}{Q:Unit->Shared->Prop}(X:K.In s.heap)(I:ObjM s.heap x dx C mA)
  (hs:PySem.W.findIn K (.ref C) "__setattr__" = some (some (.builtin "object.__setattr__"))) (hp:PySem.W.plainOver K C=true) (ht:PySem.W.takerIn K C name=some none) (hh:PySem.W.hasDictIn K C=true)
  (hw:PySem.Within mA ns) (hsz:ns.length<=sizeLine)
  (h:∀ h',ObjM h' x dx C (fun y=>if y=name then some v else mA y)->Heap.SameBut dx s.heap h'->Q () { s with heap:=h',toks:=s.toks+2 }) :
  wpAny (model prog w) A (setAttr (.ref x) name v) Q E s:=by
 obtain ⟨od,J,hl⟩:=I.look
 refine PySem.W.set_plain X J hs (PySem.W.osa_open (s:={ s with toks:=s.toks+1 }) (r:=none) X J hp ht fun b=>?_)
 obtain ⟨cd,hc,hd'⟩:=PySem.W.any_some hh
 have hx:s.heap.get? x=some ⟨.ref C,some dx,.plain,#[]⟩:=I.obj
 refine aaa (aac (aaa (aaa (wpAny_loadPart hx (aaa (PySem.W.Looks.here (s:={ s with toks:=s.toks+1 }) (PySem.W.looks_clsIn X hc) ?_))))))
 rw [hd']
 refine aac (a:=some dx) (aaa (aac (aaa ?_)))
 refine wpAny_nsSet1 (s:={ s with toks:=s.toks+1 }) I.ns fun h' hn2 hs2=>?_
 obtain ⟨oD,esD,epD,hoD,hdD,hcD⟩:=hn2.count (PySem.Within.cons name v hw)
 refine aaa (wpAny_lookBehind hoD (by rw [hdD]; exact pastItsLine_dict (aav hcD (by rw [List.length_cons]; nofun))) ?_)
 exact aac (h _ ⟨(hs2.2 _ (abu I.ne)).trans I.obj,hn2,I.ne⟩ hs2)
theorem sM {R:Result->Shared->Prop}{vs:List Value}(X:K.In s.heap)(hm:PySem.W.makesIn K C=true)
  (hi:PySem.W.findIn K (.ref C) "__init__" = some (some (.ref f))) (hf:PySem.W.typeIn K (.ref f)=some (.type "function"))
  (h:codeAny (model prog w) (A.under (.builtin "type.__call__" ⟨.ref C::vs,kw⟩)) (.call (.ref f) ⟨.ref (s.heap.objs.size+1)::vs,kw⟩) (PySem.W.InitBack (s.heap.objs.size+1) R)
   { s with heap:=(s.heap.push PySem.W.emptyDict).push (PySem.W.instObj C s.heap.objs.size) }) :
  codeAny (model prog w) A (.call (.ref C) ⟨vs,kw⟩) R s:=by
 obtain ⟨hh,g,d,t,os⟩:=s
 exact PySem.W.make_core (PySem.W.makes_of X hm) (PySem.W.looks_findIn X hi) (fun self=>PySem.W.bind_fn X self hf) (.inl rfl) h
end
def dX (f:Str)(v:V):List (Str×V)->List (Str×V)
 | []=>[(f,v)]
 | (g,x)::r=>if g=f then (g,v)::r else (g,x)::dX f v r
theorem fE (f g:Str)(v:V):∀ fs:List (Str×V),(dX f v fs).lookup g=if g=f then some v else fs.lookup g
 | []=>by
  show List.lookup g [(f,v)]=_
  by_cases h:g=f
  ·have hb:(g == f)=true:=beq_iff_eq.mpr h
   simp only [List.lookup,hb,if_pos h]
  ·have hb:(g == f)=false:=beq_eq_false_iff_ne.mpr h
   simp only [List.lookup,hb,if_neg h]
 | (k,x)::r=>by
  have ih:=fE f g v r
  rw [show dX f v ((k,x)::r)=(if k=f then (k,v)::r else (k,x)::dX f v r) from rfl]
  by_cases hk:k=f
  ·rw [if_pos hk]
   by_cases h:g=k
   ·have hb:(g == k)=true:=beq_iff_eq.mpr h
    simp only [List.lookup,hb,if_pos (h.trans hk)]
   ·have hb:(g == k)=false:=beq_eq_false_iff_ne.mpr h
    simp only [List.lookup,hb,if_neg (fun e:g=f=>h (e.trans hk.symm))]
  ·rw [if_neg hk]
   by_cases h:g=k
   ·have hb:(g == k)=true:=beq_iff_eq.mpr h
    simp only [List.lookup,hb,if_neg (fun e:g=f=>hk (h.symm.trans e))]
   ·have hb:(g == k)=false:=beq_eq_false_iff_ne.mpr h
    simp only [List.lookup,hb]
    exact ih
theorem fF (f:Str)(v:V):∀ fs:List (Str×V),f ∈ (dX f v fs).map (·.1)/\∀ g,g ∈ fs.map (·.1)->g ∈ (dX f v fs).map (·.1)
 | []=>⟨by simp [dX],fun g h=>by simp at h⟩
 | (k,x)::r=>by
  obtain ⟨i1,i2⟩:=fF f v r
  rw [show dX f v ((k,x)::r)=(if k=f then (k,v)::r else (k,x)::dX f v r) from rfl]
  by_cases hk:k=f
  ·rw [if_pos hk]
   subst hk
   exact ⟨by simp,fun g h=>(by exists h)⟩
  ·rw [if_neg hk]
   refine ⟨?_,fun g h=>?_⟩
   ·rw [List.map_cons]
    exact aad _ i1
   ·rw [List.map_cons] at h ⊢
    rcases List.mem_cons.mp h with e | e
    ·exact List.mem_cons.mpr (.inl e)
    ·exact aad _ (i2 g e)
theorem fG (f:Str)(v:V):∀ fs:List (Str×V),(dX f v fs).length<=fs.length+1
 | []=>by simp [dX]
 | (k,x)::r=>by
  have ih:=fG f v r
  rw [show dX f v ((k,x)::r)=(if k=f then (k,v)::r else (k,x)::dX f v r) from rfl]
  by_cases hk:k=f
  ·rw [if_pos hk,List.length_cons,List.length_cons]; nofun
  ·rw [if_neg hk,List.length_cons,List.length_cons]; nofun
theorem RelO.some_of {o:Option Value}(r:RelO (some v) o):∃ u,o=some u/\RelV v u:=by
 cases o with
 | none=>exact (show False from r).elim
 | some u=>exact ⟨u,rfl,r⟩
theorem RelO.none_of {o:Option Value}(r:RelO none o):o=none:=by
 cases o with
 | none=>rfl
 | some u=>exact (show False from r).elim
theorem oy (r:RelV v u):PySem.W.handedIn u=true:=by
 cases v with
 | non=>cases (show u=Value.none from r); rfl
 | bl b=>cases (show u=Value.bool b from r); rfl
 | int i=>obtain ⟨t,e⟩:=(show ∃ t,u=Value.int i t from r); cases e; rfl
 | str x=>obtain ⟨t,e⟩:=(show ∃ t,u=Value.str x t from r); cases e; rfl
 | byt b=>obtain ⟨t,e⟩:=(show ∃ t,u=Value.bytes b t from r); cases e; rfl
 | flt b=>obtain ⟨t,e⟩:=(show ∃ t,u=Value.float b t from r); cases e; rfl
 | ref a=>cases (show u=Value.ref a from r); rfl
 | ty n=>cases (show u=Value.type n from r); rfl
section
variable      {fs fs':List (Str×V)}
theorem im (hok:HOk P w H h)(e:H a=some (.ins C dx fs)):∃ mA,ObjM h a dx C mA/\(∀ f,RelO (fs.lookup f) (mA f))/\PySem.Within mA (fs.map (·.1))/\fs.length<=1000/\H dx=some (.own a):=by
 obtain ⟨d,z,ne,ob,mA,n,r,q⟩:=(show ObjOk P w H h a (.ins C dx fs) from hok a _ e)
 exact ⟨mA,⟨ob,n,ne⟩,r,q,z,d⟩
end
structure Cls (K:Frag)(C:Addr):Prop where
 pg:PySem.W.plainGet K C Str.empty=true
 hd:PySem.W.hasDictIn K C=true
 po:PySem.W.plainOver K C=true
 sa:PySem.W.findIn K (.ref C) "__setattr__" = some (some (.builtin "object.__setattr__"))
theorem Cls.get {K:Frag}(c:Cls K C)(f:Str):PySem.W.plainGet K C f=true:=c.pg
def NoAttr (K:Frag)(C:Addr)(f:Str):Prop:=PySem.W.findIn K (.ref C) f=some none
theorem NoAttr.taker {K:Frag}{f:Str}(n:NoAttr K C f):PySem.W.takerIn K C f=some none:=by
 unfold PySem.W.takerIn
 rw [show PySem.W.findIn K (.ref C) f=some none from n]
 rfl
structure Meth (K:Frag)(C:Addr)(m:Str)(f:Addr):Prop where
 at_:PySem.W.findIn K (.ref C) m=some (some (.ref f))
 fn:PySem.W.isFn K (.ref f)=true
 kp:PySem.W.keepIn K (.ref f)=true
section
variable       {fs:List (Str×V)} {f:Str}   
theorem mN {b:Bool}(I:Inv X pins σ H s)(e:H a=some (.ins C dx fs))(c:Cls X.K C)(n:NoAttr X.K C f)(l:fs.lookup f=some v)
  (h:∀ u s',Inv X pins σ H s'->RelV v u->Q u s'):wpAny (model X.prog X.w) A (getAttr (.ref a) f b) Q E s:=by
 obtain ⟨mA,O,r,_,_,_⟩:=im I.hok e
 obtain ⟨u,hu,ru⟩:=RelO.some_of (v:=v) (o:=mA f) (by rw [← l]; exact r f)
 exact x9 I.kIn O (c.get f) c.hd n hu (oy ru) (h u _ (I.tok _) ru)
theorem gL {g:Addr}{Q:Value×List Value->Shared->Prop}(I:Inv X pins σ H s)(e:H a=some (.ins C dx fs))(c:Cls X.K C)(k:Meth X.K C m g)(l:fs.lookup m=none)
  (h:Q (.ref g,[.ref a]) s):wpAny (model X.prog X.w) A (getMethod (.ref a) m pl) Q E s:=by
 obtain ⟨mA,O,r,_,_,_⟩:=im I.hok e
 have hn:mA m=none:=RelO.none_of (by rw [← l]; exact r m)
 exact sL I.kIn O (c.get m) k.at_ k.fn hn h
theorem mO {Q:Unit->Shared->Prop}(I:Inv X pins σ H s)(e:H a=some (.ins C dx fs))(c:Cls X.K C)(n:NoAttr X.K C f)(hl:fs.length < 1000)(ry:RelV y u)
  (h:∀ s',Inv X pins σ (upd H a (.ins C dx (dX f y fs))) s'->Q () s'):wpAny (model X.prog X.w) A (setAttr (.ref a) f u) Q E s:=by
 obtain ⟨mA,O,r,wi,_,ho⟩:=im I.hok e
 have hz:(fs.map (·.1)).length<=sizeLine:=by rw [List.length_map,sizeLine_eq]; nofun
 refine ya I.kIn O c.sa c.po n.taker c.hd wi hz fun h' O' sb=>h _ ?_
 have hd:∃ o,h'.get? dx=some o:=let ⟨o,_,_,e',_⟩:=O'.ns; ⟨o,e'⟩
 refine I.write (x:=a) (e:=dx) (by rw [e]; exact True.intro) (.inr ho) (fun b q hb z=>(sb.2 b hb).trans z) hd ?_
 refine ⟨by rw [ae O.ne]; exact ho,?_,O.ne,O'.obj,_,O'.ns,fun g=>?_,fun g hg=>?_⟩
 ·have:=fG f y fs; nofun
 ·show RelO ((dX f y fs).lookup g) (if g=f then some u else mA g)
  rw [fE]
  by_cases q:g=f
  ·rw [if_pos q,if_pos q]; exact ry
  ·rw [if_neg q,if_neg q]; exact r g
 ·by_cases q:g=f
  ·rw [q]; exact (fF f y fs).1
  ·refine (fF f y fs).2 g (wi g fun z=>hg ?_)
   show (if g=f then some u else mA g)=none
   rw [if_neg q]; exact z
theorem Inv.made (I:Inv X pins σ H s):Inv X pins σ (upd (upd H s.heap.objs.size (.own (s.heap.objs.size+1))) (s.heap.objs.size+1) (.ins C s.heap.objs.size []))
  { s with heap:=(s.heap.push PySem.W.emptyDict).push (PySem.W.instObj C s.heap.objs.size) }:=by
 have e1:(s.heap.push PySem.W.emptyDict).get? s.heap.objs.size=some PySem.W.emptyDict:=Heap.get?_push_size s.heap rfl
 have e2:((s.heap.push PySem.W.emptyDict).push (PySem.W.instObj C s.heap.objs.size)).get? (s.heap.objs.size+1)=some (PySem.W.instObj C s.heap.objs.size):=by
  have:=Heap.get?_push_size (s.heap.push PySem.W.emptyDict) (o:=PySem.W.instObj C s.heap.objs.size) rfl
  rwa [aaR] at this
 have e3:(s.heap.push PySem.W.emptyDict).Ns s.heap.objs.size (fun _=>none):=⟨PySem.W.emptyDict,#[],_,e1,rfl,(fun e he=>absurd he (by simp)),fun _=>rfl⟩
 have I1:=I.laid (a:=s.heap.objs.size) (o:=.own (s.heap.objs.size+1)) (h':=s.heap.push PySem.W.emptyDict) (t':=s.toks) (fun b u q=>Heap.get?_push_of_some _ q) (aae _) ⟨_,e1⟩
 refine I1.laid (a:=s.heap.objs.size+1) (o:=.ins C s.heap.objs.size []) (t':=s.toks) (fun b u q=>Heap.get?_push_of_some _ q) (Nat.le_of_eq (aaR _ _)) ?_
 have ne:s.heap.objs.size≠s.heap.objs.size+1:=aah (aaG _)
 refine ⟨by rw [ae ne,ad],aaq _,ne,e2,fun _=>none,(Heap.Ns1.of_empty e3).at fun o q=>Heap.get?_push_of_some _ q,fun _=>True.intro,fun y hy=>absurd rfl hy⟩
theorem yb {env:Env}(hb:attributeBase e f env (eval e env)=eval e env)
  (h:wpAny (model prog w) A (eval e env) (fun o s₁=>wpAny (model prog w) A (getAttr o f true) Q E s₁) E s):wpAny (model prog w) A (eval (.Attribute e f pos) env) Q E s :=
 Attribute_any_ h (by rw [arm_eval_Attribute,hb])
end
def yc (K:Frag)(ta:TE)(f:Str):TE:=fun σ H Q=>ta σ H fun x H1=>∃ a C dx fs v,x=.ref a/\H1 a=some (.ins C dx fs)/\Cls K C/\NoAttr K C f/\fs.lookup f=some v/\Q v H1
def GS (K:Frag)(ta tv:TE)(f:Str):TS:=fun D σ H=>tv σ H fun y H1=>ta σ H1 fun x H2=>∃ a C dx fs,x=.ref a/\H2 a=some (.ins C dx fs)/\Cls K C/\NoAttr K C f/\fs.length < 1000 /\
 D.nx σ (upd H2 a (.ins C dx (dX f y fs)))
section
variable  {o value:Expr} {f:Str} {tpos:Pos} {tv:TE}
theorem C6 (he:PE X e ta)(hb:attributeBase e f X.env (eval e X.env)=eval e X.env):PE X (.Attribute e f pos) (yc X.K ta f):=by
 intro pins s σ H Q I h
 refine yb hb (thn (he pins s σ H _ I h) fun u s1 ⟨x,H1,I1,rx,a,C,dx,fs,v,ex,ea,c,n,l,q⟩=>?_)
 subst ex
 obtain rfl:u=Value.ref a:=rx
 exact mN I1 ea c n l fun u' s2 I2 ru=>⟨v,H1,I2,ru,q⟩
theorem C7 (ha:PE X o ta)(hv:PE X value tv)(hs:swapsWith value (some (.Attribute o f pos')) pos.line X.env=pure false):PS X (.Assign [.Attribute o f pos'] value pos) (GS X.K ta tv f):=by
 intro pins s σ H D I h
 refine plainObj_wpAny_Assign_Attribute (thn (hv pins s σ H _ I h) fun u s1 ⟨y,H1,I1,ry,q⟩=>thn (ha pins s1 σ H1 _ I1 q) fun ov s2 ⟨x,H2,I2,rx,a,C,dx,fs,ex,ea,c,n,l,q2⟩=>?_) hs
 subst ex
 obtain rfl:ov=Value.ref a:=rx
 exact mO I2 ea c n l ry fun s3 I3=>⟨σ,_,I3,q2⟩
theorem yd {args:List Expr}(he:PE X e te)(I:Inv X pins σ H s)
  (h:te σ H fun x H1=>∃ a C dx fs g,x=.ref a/\H1 a=some (.ins C dx fs)/\Cls X.K C/\Meth X.K C m g/\fs.lookup m=none /\
   ∀ s1,Inv X pins σ H1 s1->wpAny (model X.prog X.w) X.A (callWith pos (.ref g) [.ref a] (backTo pos (starEach args X.env)) (backToKw pos (keywordEach [] X.env))) Q X.xe s1)
  (ht:eval (.Call (.Attribute e m apos) args [] pos) X.env=(do
   let ov ← eval e X.env
   standAt apos.atName
   let (f,first) ← holding [ov] (getMethod ov m pl)
   callWith pos f first (backTo pos (starEach args X.env)) (backToKw pos (keywordEach [] X.env)))) :
  wpAny (model X.prog X.w) X.A (eval (.Call (.Attribute e m apos) args [] pos) X.env) Q X.xe s:=by
 refine PySem.W.methodCall_KW (pl:=pl) (thn (he pins s σ H _ I h) fun u s1 ⟨x,H1,I1,rx,a,C,dx,fs,g,ex,ea,c,k,l,q⟩=>?_) ht
 subst ex
 obtain rfl:u=Value.ref a:=rx
 exact gL I1 ea c k l (q s1 I1)
end
section
variable         {c:Value} {b:Bool}
inductive TyOf (K:Frag)(H:Hp):V->Value->Prop where
 | non:TyOf K H .non (.type "NoneType")
 | bl (x:Bool):TyOf K H (.bl x) (.type "bool")
 | int (i:Int):TyOf K H (.int i) (.type "int")
 | str (x:Str):TyOf K H (.str x) (.type "str")
 | flt (x:UInt64):TyOf K H (.flt x) (.type "float")
 | lst {a:Addr} {xs:List V} (e:H a=some (.lst xs)):TyOf K H (.ref a) (.type "list")
 | frz {a:Addr} {o:Obj} {xs:List V} (e:H a=some (.frz o (.lst xs))):TyOf K H (.ref a) (.type "list")
 | tup {a:Addr} {xs:List V} (e:H a=some (.tup xs)):TyOf K H (.ref a) (.type "tuple")
 | dK {a:Addr} {kvs:List (Key×V)} (e:H a=some (.dK kvs)):TyOf K H (.ref a) (.type "dict")
 | dT {a:Addr} {kvs:List (List Key×V)} (e:H a=some (.dT kvs)):TyOf K H (.ref a) (.type "dict")
 | ins {a C dx:Addr} {fs:List (Str×V)} (e:H a=some (.ins C dx fs)) (cl:Cls K C) (ha:PySem.W.findIn K (.ref C) "__class__" = some (some (.builtin "object.__class__")))
   (hn:PySem.W.specialIn K (.builtin "object.__class__") "__get__" = some (some (.builtin "getset_descriptor.__get__"))) (htk:PySem.W.takesIn K (.builtin "object.__class__")=some true)
   (hm:PySem.W.mroIn K C (.type "object")=some true):TyOf K H (.ref a) (.ref C)
theorem dG {x:V}{t:Value}(I:Inv X pins σ H s)(rx:RelV x u)(ty:TyOf X.K H x t)(e:PySem.W.kitOne X.K t c=some b)(h:∀ tk,Q (.bool b) { s with toks:=tk }) :
  wpAny (model X.prog X.w) A (call (.builtin "isinstance") [u,c]) Q E s:=by
 cases ty with
 | non=>cases (show u=Value.none from rx); exact aas PySem.W.kitx_none I.kIn True.intro e (fun z=>nomatch z) h
 | bl y=>cases (show u=Value.bool y from rx); exact aas PySem.W.kitx_bool I.kIn True.intro e (fun z=>nomatch z) h
 | int i=>obtain ⟨t,q⟩:=(show ∃ t,u=Value.int i t from rx); cases q; exact aas PySem.W.kitx_int I.kIn True.intro e (fun z=>nomatch z) h
 | str y=>obtain ⟨t,q⟩:=(show ∃ t,u=Value.str y t from rx); cases q; exact aas PySem.W.kitx_str I.kIn True.intro e (fun z=>nomatch z) h
 | flt y=>obtain ⟨t,q⟩:=(show ∃ t,u=Value.float y t from rx); cases q; exact aas PySem.W.kitx_float I.kIn True.intro e (fun z=>nomatch z) h
 | @lst a xs ea =>
  cases (show u=Value.ref a from rx)
  obtain ⟨_,_,n,_,h1⟩:=(show ObjOk X.prog X.w H s.heap a (.lst xs) from I.hok a _ ea)
  exact aas PySem.W.kitx_list I.kIn ⟨_,h1,rfl⟩ e (fun z=>nomatch z) h
 | @frz a ob xs ea =>
  cases (show u=Value.ref a from rx)
  obtain ⟨_,_,_,n,_,h1⟩:=(show ObjOk X.prog X.w H s.heap a (.frz ob (.lst xs)) from I.hok a _ ea)
  exact aas PySem.W.kitx_list I.kIn ⟨_,h1,rfl⟩ e (fun z=>nomatch z) h
 | @tup a xs ea =>
  cases (show u=Value.ref a from rx)
  obtain ⟨_,_,_,p⟩:=(show ObjOk X.prog X.w H s.heap a (.tup xs) from I.hok a _ ea)
  obtain ⟨o,h1,h2,_⟩:=p
  exact aas PySem.W.kitx_tuple I.kIn ⟨o,h1,h2⟩ e (fun z=>nomatch z) h
 | @dK a kvs ea =>
  cases (show u=Value.ref a from rx)
  obtain ⟨_,_,vs,_,p⟩:=(show ObjOk X.prog X.w H s.heap a (.dK kvs) from I.hok a _ ea)
  obtain ⟨o,es,ep,h1,h2,_⟩:=p
  exact aas abr I.kIn ⟨o,h1,h2.1⟩ e (fun z=>nomatch z) h
 | @dT a kvs ea =>
  cases (show u=Value.ref a from rx)
  obtain ⟨_,_,xs,_,o,es,ep,h1,h2,_⟩:=(show ObjOk X.prog X.w H s.heap a (.dT kvs) from I.hok a _ ea)
  exact aas abr I.kIn ⟨o,h1,h2.1⟩ e (fun z=>nomatch z) h
 | @ins a C dx fs ea cl ha hn htk hm =>
  cases (show u=Value.ref a from rx)
  obtain ⟨mA,O,_⟩:=im I.hok ea
  obtain ⟨od,J,_⟩:=O.look
  exact aas (PySem.W.kitx_own (cl.get _) cl.hd ha hn htk hm) I.kIn J e (fun z=>nomatch z) h
end
structure Room (k:Nat)(A:Around):Prop where
 hd:A.handled=none
 dp:A.depth+3 * k+5 < recursionLimit
 un:A.units+16 * k+200 < cLine
 gd:A.guards=some []
theorem Room.mono (r:Room k A)(h:j<=k):Room j A:=⟨r.hd,by have:=r.dp; nofun,by have:=r.un; nofun,r.gd⟩
theorem Room.deeper (r:Room (k+1) A)(env:Env):Room k (A.deeper env) :=
 ⟨r.hd,by have:=r.dp; show A.depth+1+3 * k+5 < _; nofun,by have:=r.un; show A.units+3+16 * k+200 < _; nofun,r.gd⟩
theorem mP :(A.under (.builtin "type.__call__" ⟨.ref C::us,kw⟩)).depth=A.depth+1:=by
 first | rfl | simp [Around.under,Code.weight,Code.isCreation,Code.isGuard,Code.isCaller,Code.frames,Code.isFrame,guardIds]
theorem mQ :(A.under (.builtin "type.__call__" ⟨.ref C::us,kw⟩)).units=A.units+1:=by
 first | rfl | simp [Around.under,Code.cUnits,Code.frames,Code.isFrame]
theorem Room.make (r:Room (k+1) A)(C:Addr)(us:List Value)(kw:List (Str×Value)):Room k (A.under (.builtin "type.__call__" ⟨.ref C::us,kw⟩)) :=
 ⟨r.hd,by have:=r.dp; rw [mP]; nofun,by have:=r.un; rw [mQ]; nofun,r.gd⟩
theorem Room.depth (r:Room k A):A.depth < recursionLimit:=by have:=r.dp; nofun
theorem Room.units (r:Room k A):A.units+64 < cLine:=by have:=r.un; nofun
def kr:TA:=fun _ H Q=>Q [] H
def dl (ta:TE)(tr:TA):TA:=fun σ H Q=>ta σ H fun x H1=>tr σ H1 fun xs H2=>Q (x::xs) H2
theorem C8:PA X [] kr:=fun _ _ _ _ H Q I h=>Calls.spliced_nil ⟨[],H,I,.nil,h⟩
theorem ye (ha:PE X e te)(hr:PA X es t)(hs:autoParam (starEach (e::es) X.env=(false,eval e X.env)::starEach es X.env) L2.aR._auto_1):PA X (e::es) (dl te t):=by
 intro pos pins s σ H Q I h
 rw [hs]
 show wpAny _ _ (spliced ((false,eval e X.env)::backTo pos (starEach es X.env))) _ _ s
 refine abn (thn (ha pins s σ H _ I h) fun u s1 ⟨x,H1,I1,r1,q1⟩=>?_)
 exact thn (hr pos pins s1 σ H1 _ I1 q1) fun us s2 ⟨xs,H2,I2,r2,q2⟩=>⟨x::xs,H2,I2,.cons r1 r2,q2⟩
def GT (t:TA):TE:=fun σ H Q=>t σ H fun xs H1=>xs.length<=sizeLine/\∀ p,H1 p=none->Q (.ref p) (upd H1 p (.tup xs))
def GU (t:TA):TE:=fun σ H Q=>t σ H fun xs H1=>xs.length<=sizeLine/\∀ p,H1 p=none->Q (.ref p) (upd H1 p (.lst xs))
theorem C9 {x1}(h:PA X es t):PE X (.Tuple es x1 pos) (GT t):=by
 intro pins s σ H Q I hq
 refine wpAny_Tuple_spliced (thn (h pos pins s σ H _ I hq) fun us s1 ⟨xs,H1,I1,r,z,q⟩=>⟨by rw [← r.length]; exact z,?_⟩)
 have hf:H1 s1.heap.objs.size=none:=I1.hok.fresh (aae _)
 refine ⟨.ref s1.heap.objs.size,upd H1 s1.heap.objs.size (.tup xs),I1.laid (t':=s1.toks) (fun b u e=>Heap.get?_push_of_some _ e) (aae _) ?_,rfl,q _ hf⟩
 exact ⟨z,us,r,⟨_,Heap.get?_push_size _ rfl,rfl,_,rfl⟩⟩
theorem Da (h:PA X es t):PE X (.List es pos) (GU t):=by
 intro pins s σ H Q I hq
 refine wpAny_List_spliced (thn (h pos pins s σ H _ I hq) fun us s1 ⟨xs,H1,I1,r,z,q⟩=>⟨by rw [← r.length]; exact z,?_⟩)
 have hf:H1 s1.heap.objs.size=none:=I1.hok.fresh (aae _)
 refine ⟨.ref s1.heap.objs.size,upd H1 s1.heap.objs.size (.lst xs),I1.laid (t':=s1.toks) (fun b u e=>Heap.get?_push_of_some _ e) (aae _) ?_,rfl,q _ hf⟩
 exact ⟨z,us,0,r,Heap.get?_push_size _ rfl⟩
abbrev Sp:=List V->Hp->VK->XK->Prop
variable{sp:Sp}
abbrev CXT:=List Env->Hp->Shared->XK->Value->Shared->Prop
variable{CX:CXT}
structure Env0 (P:Program)(w:World)(K:Frag)(mg:Str->Option Value)(base:Heap)(A:Around)(outer:List Env)(s:Shared)(H:Hp):Prop where
 frames:A.frames=some outer
 mod:Mod K mg base
 bs:∀ b o,base.get? b=some o->s.heap.get? b=some o/\H b=none
 bsz:base.objs.size<=s.heap.objs.size
 funs:s.heap.FunFrames base outer
 frf:∀ b ∈ frs outer,H b=none
 hok:HOk P w H s.heap
 bare:AllBare s.gens
def CE (outer:List Env)(P:Program)(w:World)(H:Hp)(s:Shared)(Q:VK)(u:Value)(s':Shared):Prop :=
 ∃ v H',s'.os=s.os/\AllBare s'.gens/\Un (frs outer) [] H H' s.heap s'.heap/\HOk P w H' s'.heap/\RelV v u/\Q v H'
def CR (CX:CXT)(outer:List Env)(P:Program)(w:World)(H:Hp)(s:Shared)(Q:VK)(E:XK)(r:Result)(s':Shared):Prop :=
 match r with
 | .ok (.ret u)=>CE outer P w H s Q u s'
 | .ok _=>False
 | .error e=>CX outer H s E e s'
structure FnOk (P:Program)(w:World)(K:Frag)(mg:Str->Option Value)(base:Heap)(CX:CXT)(k:Nat)(f:Addr)(fd:FuncData)(ps:List Str)(sp:Sp):Prop where
 len:∀ vs H Q E,sp vs H Q E->vs.length=ps.length
 run:∀ (A:Around) (outer:List Env) (s:Shared) (H:Hp) (args:Args) (us:List Value) (vs:List V) (Q:VK) (E:XK),Room k A->Env0 P w K mg base A outer s H->BindsTo s fd args (ps.zip us)->Vals vs us->sp vs H Q E ->
  codeAny (model P w) A (.call (.ref f) args) (CR CX outer P w H s Q E) s
theorem FnOk.imp {K:Frag}{f:Addr}{sp':Sp}(F:FnOk P w K mg base CX k f fd ps sp)
  (h:∀ vs H Q E,sp' vs H Q E->sp vs H Q E):FnOk P w K mg base CX k f fd ps sp' :=
 ⟨fun vs H Q E q=>F.len vs H Q E (h _ _ _ _ q),fun A outer s H args us vs Q E hr he hb hv hs=>F.run A outer s H args us vs Q E hr he hb hv (h _ _ _ _ hs)⟩
theorem Env0.make {K:Frag}(e:Env0 P w K mg base A outer s H)(C:Addr)(us:List Value)(kw:List (Str×Value)) :
  Env0 P w K mg base (A.under (.builtin "type.__call__" ⟨.ref C::us,kw⟩)) outer s H:=⟨by first | exact e.frames | (simpa [Around.under,Code.envs,Code.isFrame,pushEnvs] using e.frames),e.mod,e.bs,e.bsz,e.funs,e.frf,e.hok,e.bare⟩
theorem Inv.env0 (I:Inv X pins σ H s):Env0 X.prog X.w X.K X.mg X.base X.A X.stack s H :=
 ⟨I.ok.frames,I.ok.mod,I.bs,aav I.ok.bsz I.sz,I.stack,I.stkFree,I.hok,I.bare⟩
theorem Inv.after {Q:VK}(I:Inv X pins σ H s)(h:CE X.stack X.prog X.w H s Q u s'):EP X pins σ Q u s':=by
 obtain ⟨v,H',os,bare,un,hok,r,q⟩:=h
 obtain ⟨hh,g,d,t,os'⟩:=s'
 obtain rfl:os'=s.os:=os
 exact ⟨v,H',I.call (h':=hh) (g':=g) (d':=d) (t':=t) (ch:=[]) un hok bare (fun b z=>absurd z (by simp)),r,q⟩
def ku (sp:Sp)(dvs:List V)(E:XK)(t:TA):TE:=fun σ H Q=>t σ H fun vs H1=>sp (vs++dvs) H1 Q E
def sN (C:Addr)(m:Str)(sp:Sp)(dvs:List V)(E:XK)(ta:TE)(t:TA):TE:=fun σ H Q=>ta σ H fun x H1=>∃ a dx fs,x=.ref a/\H1 a=some (.ins C dx fs)/\fs.lookup m=none /\
 t σ H1 fun vs H2=>sp (x::(vs++dvs)) H2 Q E
def yf (C:Addr)(sp:Sp)(dvs:List V)(E:XK)(t:TA):TE:=fun σ H Q=>t σ H fun vs H1=>∀ x dx,H1 x=none->H1 dx=none->dx≠x ->
 sp (.ref x::(vs++dvs)) (upd (upd H1 dx (.own x)) x (.ins C dx [])) (fun v H2=>v=.non/\Q (.ref x) H2) E
def Binds (K:Frag)(fd:FuncData)(ps:List Str)(ds:List Value):Prop :=
 ∀ (s:Shared) (us:List Value),K.In s.heap->(us++ds).length=ps.length->BindsTo s fd ⟨us,[]⟩ (ps.zip (us++ds))
theorem Binds.all {K:Frag}(h:∀ us:List Value,us.length=ps.length->bindArgs fd ⟨us,[]⟩=pure (ps.zip us)):Binds K fd ps []:=fun s us _ hl=>by
 rw [aaV] at hl ⊢
 exact .of_eq (h us hl)
def gM (CX:CXT)(X:Cx)(E:XK):Prop:=∀ (pins:List (Addr×Obj)) (σ:St) (H:Hp) (s:Shared) (e:Value) (s':Shared),Inv X pins σ H s->CX X.stack H s E e s'->X.xe e s'
section
variable    {f:Addr}    {dvs:List V} {ds:List Value} {E:XK}   {o:Expr}   
theorem wE {Q:VK}(F:FnOk X.prog X.w X.K X.mg X.base CX k f fd ps sp)(hr:Room k X.A)(hb:Binds X.K fd ps ds)(hd:Vals dvs ds)(hx:gM CX X E)
  (I:Inv X pins σ H s) (r:Vals vs us) (h:sp (vs++dvs) H Q E):wpAny (model X.prog X.w) X.A (call (.ref f) us) (EP X pins σ Q) X.xe s:=by
 have r2:Vals (vs++dvs) (us++ds):=r.append hd
 have hl:(us++ds).length=ps.length:=by rw [← r2.length]; exact F.len _ _ _ _ h
 refine wpAny_call (codeAny_mono (F.run X.A X.stack s H ⟨us,[]⟩ (us++ds) (vs++dvs) Q E hr I.env0 (hb s us I.kIn hl) r2 h) fun r s' hq=>?_)
 cases r with
 | error e=>exact hx pins σ H s e s' I hq
 | ok fl =>
  cases fl with
  | ret u=>exact I.after hq
  | next=>exact False.elim hq
  | brk=>exact False.elim hq
  | cont=>exact False.elim hq
theorem yg (F:FnOk X.prog X.w X.K X.mg X.base CX k f fd ps sp)(hr:Room k X.A)(hg:Gl X x)(hm:X.mg x=some (.ref f))(hk:PySem.W.keepIn X.K (.ref f)=true)(hb:Binds X.K fd ps ds)(hd:Vals dvs ds)(hx:gM CX X E)
  (ha:PA X (e::es) t) (hdb:autoParam ((x == ("__debug__" : Str))=false) L2.aD._auto_1) (he:autoParam (starEach (e::es) X.env=(false,eval e X.env)::starEach es X.env) L2.aR._auto_1) (hpl:autoParam ((backTo pos (starEach es X.env)).any (·.1)=false) L2.aR._auto_1) :
  PE X (.Call (.Name x p) (e::es) [] pos) (ku sp dvs E t):=by
 intro pins s σ H Q I h
 refine wpAny_Call_Name_kw (kn I hg hm ?_ hdb)
 refine PySem.W.callWith_K (h₀:=X.base) I.ok.mod.kin hk (thn (ha pos pins s σ H _ I h) fun us s1 ⟨vs,H1,I1,r,q⟩=>⟨I1.kIn,?_⟩) he hpl
 exact wE F hr hb hd hx I1 r q
theorem yh (he:PE X o ta)(c:Cls X.K C)(hm:Meth X.K C m f)(F:FnOk X.prog X.w X.K X.mg X.base CX k f fd ps sp)(hr:Room k X.A)(hb:Binds X.K fd ps ds)(hd:Vals dvs ds)(hx:gM CX X E)(ha:PA X (e::es) t)
  (hst:autoParam (starEach (e::es) X.env=(false,eval e X.env)::starEach es X.env) L2.aR._auto_1) (hpl:autoParam ((backTo pos (starEach es X.env)).any (·.1)=false) L2.aR._auto_1)
  (ht:autoParam (eval (.Call (.Attribute o m apos) (e::es) [] pos) X.env=(do
   let ov ← eval o X.env
   standAt apos.atName
   let (f,first) ← holding [ov] (getMethod ov m pl)
   callWith pos f first (backTo pos (starEach (e::es) X.env)) (backToKw pos (keywordEach [] X.env)))) L2.aR._auto_1) :
  PE X (.Call (.Attribute o m apos) (e::es) [] pos) (sN C m sp dvs E ta t):=by
 intro pins s σ H Q I h
 refine PySem.W.methodCall_KW (pl:=pl) (thn (he pins s σ H _ I h) fun u s1 ⟨x,H1,I1,rx,a,dx,fs,ex,ea,l,q⟩=>?_) ht
 subst ex
 obtain rfl:u=Value.ref a:=rx
 refine gL I1 ea c hm l ?_
 refine PySem.W.callWith_K (first:=[.ref a]) (h₀:=X.base) I.ok.mod.kin hm.kp (thn (ha pos pins s1 σ H1 _ I1 q) fun us s2 ⟨vs,H2,I2,r,q2⟩=>⟨I2.kIn,?_⟩) hst hpl
 exact wE (us:=.ref a::us) (vs:=.ref a::vs) F hr hb hd hx I2 (.cons rfl r) q2
structure Mk (K:Frag)(C f:Addr):Prop where
 makes:PySem.W.makesIn K C=true
 init:PySem.W.findIn K (.ref C) "__init__" = some (some (.ref f))
 fn:PySem.W.isFn K (.ref f)=true
 kp:PySem.W.keepIn K (.ref C)=true
theorem sO {Q:VK}(M:Mk X.K C f)(F:FnOk X.prog X.w X.K X.mg X.base CX k f fd ps sp)(hr:Room (k+1) X.A)(hb:Binds X.K fd ps ds)(hd:Vals dvs ds)
  (hx:gM CX X E) (I:Inv X pins σ H s) (r:Vals vs us)
  (h:∀ x dx,H x=none->H dx=none->dx≠x->sp (.ref x::(vs++dvs)) (upd (upd H dx (.own x)) x (.ins C dx [])) (fun v H2=>v=.non/\Q (.ref x) H2) E) :
  wpAny (model X.prog X.w) X.A (call (.ref C) us) (EP X pins σ Q) X.xe s:=by
 have hq:=h (s.heap.objs.size+1) s.heap.objs.size (I.hok.fresh (aaT _)) (I.hok.fresh (aae _)) (aah (aaG _))
 have I2:=Inv.made (C:=C) I
 have r2:Vals (V.ref (s.heap.objs.size+1)::(vs++dvs)) (Value.ref (s.heap.objs.size+1)::(us++ds)):=.cons rfl (r.append hd)
 have hl:(Value.ref (s.heap.objs.size+1)::us++ds).length=ps.length:=by
  have e:=r2.length
  rw [F.len _ _ _ _ hq] at e
  exact e.symm
 refine wpAny_call (sM (f:=f) I.kIn M.makes M.init (beq_iff_eq.mp M.fn) (codeAny_mono (F.run _ X.stack _ _ ⟨Value.ref (s.heap.objs.size+1)::us,[]⟩ (Value.ref (s.heap.objs.size+1)::(us++ds)) _ _ E (hr.make C us [])
  (I2.env0.make C us []) (hb _ (Value.ref (s.heap.objs.size+1)::us) I2.kIn hl) r2 hq) fun r s' hq'=>?_))
 cases r with
 | error e=>exact hx pins σ _ _ e s' I2 hq'
 | ok fl =>
  cases fl with
  | ret u =>
   obtain ⟨v,H',I3,rv,ev,q3⟩:=I2.after hq'
   subst ev
   exact ⟨rv,⟨V.ref (s.heap.objs.size+1),H',I3,rfl,q3⟩⟩
  | next=>exact False.elim hq'
  | brk=>exact False.elim hq'
  | cont=>exact False.elim hq'
theorem yi (M:Mk X.K C f)(F:FnOk X.prog X.w X.K X.mg X.base CX k f fd ps sp)(hr:Room (k+1) X.A)(hg:Gl X x)(hm:X.mg x=some (.ref C))(hb:Binds X.K fd ps ds)(hd:Vals dvs ds)(hx:gM CX X E)
  (ha:PA X (e::es) t) (hdb:autoParam ((x == ("__debug__" : Str))=false) L2.aD._auto_1) (he:autoParam (starEach (e::es) X.env=(false,eval e X.env)::starEach es X.env) L2.aR._auto_1) (hpl:autoParam ((backTo pos (starEach es X.env)).any (·.1)=false) L2.aR._auto_1) :
  PE X (.Call (.Name x p) (e::es) [] pos) (yf C sp dvs E t):=by
 intro pins s σ H Q I h
 refine wpAny_Call_Name_kw (kn I hg hm ?_ hdb)
 refine PySem.W.callWith_K (h₀:=X.base) I.ok.mod.kin M.kp (thn (ha pos pins s σ H _ I h) fun us s1 ⟨vs,H1,I1,r,q⟩=>⟨I1.kIn,?_⟩) he hpl
 exact sO M F hr hb hd hx I1 r q
end
section
variable    {f:Addr}  {ks:List Str}  {E:XK}  {kpos:Pos} {o:Expr}  {kws:List Keyword}  {tk:TA} {nm:Option Str}
variable {g:List Value->List Value->List Value} {gV:List V->List V->List V}
end
structure FnScope (N P:List Str)(sc:Scope):Prop where
 kind:sc.kind=.function
 co:sc.isCoroutine=false
 gen:sc.isGenerator=false
 nd:N.Nodup
 pre:N.take P.length=P
 par:∀ x ∈ P,sc.names.lookup x=some .local∨sc.names.lookup x=some .cell
 nofree:∀ y ∈ sc.names,y.2≠.free
theorem i9 {kindOf:Str->Option NameKind}{x:Str}:∀ {binds:List (Str×Value)} {m:Str->Option Value},(∀ v,(x,v) ∉ binds)->bindL kindOf binds m x=m x
 | [],_,_=>rfl
 | (n,v)::r,m,h=>by
  unfold bindL
  rw [i9 fun w hw=>h w (aad _ hw)]
  split
  ·have:x≠n:=by rintro rfl; exact h v aab
   simp [this]
  ·rfl
theorem ja {kindOf:Str->Option NameKind}{x:Str}:∀ {binds:List (Str×Value)} {m:Str->Option Value},(∀ v,(x,v) ∉ binds)->bindC kindOf binds m x=m x
 | [],_,_=>rfl
 | (n,v)::r,m,h=>by
  unfold bindC
  rw [ja fun w hw=>h w (aad _ hw)]
  split
  ·rfl
  ·have:x≠n:=by rintro rfl; exact h v aab
   simp [this]
theorem jb {kindOf:Str->Option NameKind}{x:Str}{v:Value}:∀ {P:List Str} {vs:List Value} {i:Nat} {m:Str->Option Value},P.Nodup->P[i]?=some x->vs[i]?=some v->kindOf x=some .local ->
  bindL kindOf (P.zip vs) m x=some v
 | [],_,_,_,_,h,_,_=>by simp at h
 | _::_,[],_,_,_,_,h,_=>by simp at h
 | p::P,w::vs,0,m,nd,h1,h2,hk=>by
  simp at h1 h2; subst h1; subst h2
  show bindL kindOf ((p,w)::P.zip vs) m p=_
  unfold bindL
  rw [i9 fun v hv=>(List.nodup_cons.mp nd).1 (List.of_mem_zip hv).1,if_pos hk]
  simp
 | p::P,w::vs,i+1,m,nd,h1,h2,hk=>by
  show bindL kindOf ((p,w)::P.zip vs) m x=_
  unfold bindL
  exact jb (i:=i) (List.nodup_cons.mp nd).2 (by exists h1) (by exists h2) hk
theorem jc {kindOf:Str->Option NameKind}{x:Str}{v:Value}:∀ {P:List Str} {vs:List Value} {i:Nat} {m:Str->Option Value},P.Nodup->P[i]?=some x->vs[i]?=some v->kindOf x≠some .local ->
  bindC kindOf (P.zip vs) m x=some v
 | [],_,_,_,_,h,_,_=>by simp at h
 | _::_,[],_,_,_,_,h,_=>by simp at h
 | p::P,w::vs,0,m,nd,h1,h2,hk=>by
  simp at h1 h2; subst h1; subst h2
  show bindC kindOf ((p,w)::P.zip vs) m p=_
  unfold bindC
  rw [ja fun v hv=>(List.nodup_cons.mp nd).1 (List.of_mem_zip hv).1,if_neg hk]
  simp
 | p::P,w::vs,i+1,m,nd,h1,h2,hk=>by
  show bindC kindOf ((p,w)::P.zip vs) m x=_
  unfold bindC
  exact jc (i:=i) (List.nodup_cons.mp nd).2 (by exists h1) (by exists h2) hk
def start (N:List Str)(vs:List V):St:=vs.map some++List.replicate (N.length - vs.length) none
def oz (CX:CXT)(P:Program)(w:World)(K:Frag)(mg:Str->Option Value)(base:Heap)(N:List Str)(qual:Str)(scope:Scope)(f:Addr)(cd:Value)(A:Around)(outer:List Env)(s:Shared)(H:Hp)(E:XK):Cx where
 prog:=P
 w:=w
 K:=K
 mg:=mg
 base:=base
 A:=A.deeper (envOfC qual scope s.heap.objs.size f cd)
 N:=N
 s₀:=s
 H₀:=H
 env:=envOfC qual scope s.heap.objs.size f cd
 outer:=outer
 stack:=envOfC qual scope s.heap.objs.size f cd::outer
 ex:=[]
 calm:=true
 fn:=fun _=>true
 pn:=[]
 xe:=fun e s'=>wpAny (model P w) (A.deeper (envOfC qual scope s.heap.objs.size f cd)) (leaving (envOfC qual scope s.heap.objs.size f cd) e) (fun _ s''=>CX outer H s E e s'') (fun e' s''=>CX outer H s E e' s'') s'
theorem k6 {sc:Scope}(h:sc.names.lookup x=some .cell):∃ c,(cellsFrom n sc.names []).lookup x=some c:=by
 have q:=PySem.W.cellsFrom_some sc.names n [] (.inl h)
 exact Option.isSome_iff_exists.mp q
theorem oA {K:Frag}{f:Addr}{cd:Value}{s1:Shared}{E:XK}
  (S:FnScope N ps scope) (hd:A.handled=none) (e0:Env0 P w K mg base A outer s H) (hl:vs.length=ps.length) (r:Vals vs us)
  (x:InCallC s s.heap.objs.size (bindL (envOfC qual scope s.heap.objs.size f cd).kindOf (ps.zip us) fun _=>none) (cellsFrom (s.heap.objs.size+1) scope.names []) (bindC (envOfC qual scope s.heap.objs.size f cd).kindOf (ps.zip us) fun _=>none) s1) :
  Inv (oz CX P w K mg base N qual scope f cd A outer s H E) [] (start N vs) H s1:=by
 have hpl:ps.length<=N.length:=by have:=congrArg List.length S.pre; rw [aao] at this; nofun
 obtain ⟨h1,tk,rfl,hk⟩:=x.done
 have noA:∀ b:Addr,b ∉ (oz CX P w K mg base N qual scope f cd A outer s H E).ex:=fun b z=>absurd (show b ∈ ([]:List Addr) from z) (by simp)
 refine ⟨⟨e0.mod,S.kind,rfl,rfl,aae _,fun y z c h1 h2=>?_,fun y hy=>?_,fun y c _ h=>?_,fun _=>hd,Around.frames_deeper e0.frames,.inr ⟨rfl,rfl⟩,fun b z=>absurd z (noA b),e0.bs,e0.bsz,fun b _ _=>noA b,fun b z=>absurd z (noA b),e0.funs,e0.frf⟩,
  rfl,e0.bare,Un.kept hk,⟨_,x.toInCall.ns,fun i y v h1 h2 h3=>?_⟩,fun y c h=>⟨_,x.cell y c h⟩,e0.hok.fresh (aae _),fun y c h=>?_,fun p hp=>absurd (show p ∈ ([]:List (Addr×Obj)) from hp) (by simp),e0.hok.kept hk,?_⟩
 ·exact name_of_addr x.apart (aaL h1) (aaL h2)
 ·have hy:scope.names.lookup y=some .cell∨scope.names.lookup y=some .free:=hy
  rcases hy with hy | hy
  ·exact k6 hy
  ·exact absurd rfl (S.nofree _ (aaL hy))
 ·exact abi (x.above y c (aaL h))
 ·have hi:i < vs.length:=by
   unfold start at h2
   by_cases hi:i < vs.length
   ·exact hi
   ·rw [List.getElem?_append_right (by exists hi)] at h2
    rw [List.getElem?_replicate] at h2
    split at h2 <;> cases h2
  have ha:vs[i]?=some v:=by
   unfold start at h2
   rw [List.getElem?_append_left (by exists hi),List.getElem?_map] at h2
   cases e:vs[i]? with
   | none=>rw [e] at h2; cases h2
   | some a=>rw [e] at h2; cases h2; rfl
  obtain ⟨u,hu,rv⟩:=r.get ha
  have hp:ps[i]?=some y:=by
   rw [← S.pre,List.getElem?_take_of_lt (by nofun)]; exact h1
  have ndP:ps.Nodup:=by rw [← S.pre]; exact S.nd.sublist (aba _ _)
  refine ⟨u,rv,?_⟩
  rcases S.par y (List.mem_of_getElem? hp) with k | k
  ·exact .inl ⟨k,jb ndP hp hu k⟩
  ·obtain ⟨c,e⟩:=k6 (n:=s.heap.objs.size+1) k
   refine .inr ⟨.inl k,c,e,?_⟩
   have q:=x.cell y c e
   rw [jc ndP hp hu (by show scope.names.lookup y≠_; rw [k]; decide)] at q
   exact q
 ·exact e0.hok.fresh (abi (x.above y c (aaL h)))
 ·unfold start
  show _=N.length
  rw [aai,List.length_map,aaA]
  nofun
theorem Hv {K:Frag}{f:Addr}{params:Arguments}{dV kV doc pm cdv ct oc:Value}{an od:Option Addr}
  {osl:Array (Option Value)}   (lk:K.lookup f=some ⟨oc,od,.func (PySem.W.fnOf name qual params body scope dV kV doc pm an cdv ct),osl⟩) (hcd:PySem.W.codeIn K cdv qual=true) (S:FnScope N ps scope)
  (len:∀ vs H Q E,sp vs H Q E->vs.length=ps.length)
  (hbody:∀ (A:Around) (outer:List Env) (s:Shared) (H:Hp) (vs:List V) (Q:VK) (E:XK),Room k (A.deeper (envOfC qual scope s.heap.objs.size f cdv))->sp vs H Q E ->
   ∃ t,PSs (oz CX P w K mg base N qual scope f cdv A outer s H E) body t/\t { nx:=fun _ H'=>Q .non H',rt:=Q } (start N vs) H) :
  FnOk P w K mg base CX (k+1) f (PySem.W.fnOf name qual params body scope dV kV doc pm an cdv ct) ps sp:=by
 refine ⟨len,fun A outer s H args us vs Q E hr e0 hb r hsp=>?_⟩
 have hl:=len _ _ _ _ hsp
 have KX:K.In s.heap:=e0.mod.kin.keeps fun b o e=>(e0.bs b o e).1
 have lim:s.heap.NoLimit:=e0.mod.nolimit.keeps fun b o e=>(e0.bs b o e).1
 have hkind:∀ y ∈ ps.zip us,scope.names.lookup y.1=some .local∨(scope.names.lookup y.1=some .cell/\((cellsFrom (s.heap.objs.size+1) scope.names []).lookup y.1).isSome=true):=fun ⟨n,v⟩ hy=>by
  rcases S.par n (List.of_mem_zip hy).1 with q | q
  ·exact .inl q
  ·exact .inr ⟨q,PySem.W.cellsFrom_some _ _ _ (.inl q)⟩
 refine codeAny_call_function hr.depth (KX _ _ lk) rfl S.co S.gen rfl (PySem.W.codeRec_of KX hcd) (hb _ _ _ _ ?_)
 refine wpAny_newFunctionEnv_cells S.kind hkind fun env he s1 x=>?_
 subst he
 refine ⟨lim.keeps x.toInCall.keep,codeAny_func ?_⟩
 obtain ⟨t,ht,hq⟩:=hbody A outer s H vs Q E (hr.deeper _) hsp
 have I:Inv (oz CX P w K mg base N qual scope f cdv A outer s H E) [] (start N vs) H s1:=oA S hr.hd e0 hl r x
 refine abh (ht [] s1 (start N vs) H _ I hq) (fun fl s' hs=>?_) fun e s' hs=>hs
 have fin:∀ {σ':St} {H':Hp} {v:V} {u:Value},Inv (oz CX P w K mg base N qual scope f cdv A outer s H E) [] σ' H' s'->RelV v u->Q v H'->CE outer P w H s Q u s' :=
  fun {σ' H' v u} J rv q=>⟨v,H',J.os,J.bare,J.base,J.hok,rv,q⟩
 cases fl with
 | ret u =>
  obtain ⟨v,σ',H',J,rv,q⟩:=hs
  exact fin J rv q
 | next =>
  obtain ⟨σ',H',J,q⟩:=hs
  exact fin (v:=V.non) (u:=Value.none) J rfl q
 | brk =>
  obtain ⟨_,_,_,q⟩:=hs
  exact False.elim q
 | cont =>
  obtain ⟨_,_,_,q⟩:=hs
  exact False.elim q
section
variable       {id T:String} {r:List V->Hp->VK->Prop}
def tCB (r:List V->Hp->VK->Prop)(t:TA):TE:=fun σ H Q=>t σ H fun vs H1=>r vs H1 Q
theorem sP (hc:CallR X (.builtin id) r) (hg:Gl X x) (hm:X.mg x=none) (hv:bootBuiltins x=some (.builtin id)) (ha:PA X (e::es) t) (hn:autoParam (x ≠ "__name__") L2.aD._auto_1) (hdb:autoParam ((x == ("__debug__" : Str))=false) L2.aD._auto_1)
  (he:autoParam (starEach (e::es) X.env=(false,eval e X.env)::starEach es X.env) L2.aR._auto_1) (hpl:autoParam ((backTo pos (starEach es X.env)).any (·.1)=false) L2.aR._auto_1):PE X (.Call (.Name x p) (e::es) [] pos) (tCB r t):=by
 intro pins s σ H Q I h
 refine wpAny_Call_Name_kw (i7 I hg hm hv ?_ hn hdb)
 exact PyProof.Rows.callWith_builtin1 (thn (ha pos pins s σ H _ I h) fun us s1 ⟨vs,H1,I1,r1,q1⟩=>hc pins s1 σ H1 vs us Q I1 r1 q1) he hpl
theorem oB (hc:CallR X (.type T) r) (hg:Gl X x) (hm:X.mg x=none) (hv:bootBuiltins x=some (.type T)) (ha:PA X (e::es) t) (hn:autoParam (x ≠ "__name__") L2.aD._auto_1) (hdb:autoParam ((x == ("__debug__" : Str))=false) L2.aD._auto_1)
  (he:autoParam (starEach (e::es) X.env=(false,eval e X.env)::starEach es X.env) L2.aR._auto_1) (hpl:autoParam ((backTo pos (starEach es X.env)).any (·.1)=false) L2.aR._auto_1):PE X (.Call (.Name x p) (e::es) [] pos) (tCB r t):=by
 intro pins s σ H Q I h
 refine wpAny_Call_Name_kw (i7 I hg hm hv ?_ hn hdb)
 exact abD (thn (ha pos pins s σ H _ I h) fun us s1 ⟨vs,H1,I1,r1,q1⟩=>hc pins s1 σ H1 vs us Q I1 r1 q1) he hpl
end
end L2
namespace HT
open PySem PyProof.Rows
variable{t sl:Addr}{Q:Value->Shared->Prop}{vl vu:Value}{lo hi:Option Int}
section
open PySem.SeqAt
open PySem.AutoSeq1 (wpAny_loadPart')
open PySem.MeetsSeq PySem.MeetsSeq2 PySem.MeetsSeq3
end
section
variable {prog:Program} {w:World} {A:Around} {E:Value->Shared->Prop} {s:Shared}
theorem cat_tup {b:Addr}{vs ws:List Value}(ht:IsTup s.heap t vs.toArray)(hb:IsTup s.heap b ws.toArray)(hv:vs≠[])
  (h1:ws=[]->Q (.ref t) s) (h2:ws≠[]->Q (.ref s.heap.objs.size) { s with heap:=s.heap.push { cls:=.type "tuple", data:=.seq (vs++ws).toArray } })
  (hsz:vs.length+ws.length<=sizeLine):wpAny (model prog w) A (binaryOp .Add (.ref t) (.ref b)) Q E s:=by
 obtain ⟨⟨cls,dd,data,sl⟩,ho,hc,n,hd⟩:=id ht
 obtain ⟨⟨cls2,dd2,data2,sl2⟩,ho2,hc2,n2,hd2⟩:=id hb
 simp only at hc hd hc2 hd2
 subst hc hd hc2 hd2
 have e:vs.toArray++ws.toArray=(vs++ws).toArray:=by simp
 by_cases hw:ws=[]
 ·exact concat_meets ⟨_,ho,rfl⟩ ⟨_,ho2,rfl⟩ noFill_tuple_add seq_tuple_add PySem.F.slot_tuple_add PySem.F.entry_tuple_add (PySem.F.args_tuple_add_2 _ _)
   (tuple_addW1 t b vs.toArray ws.toArray n n2 dd dd2 sl sl2 (by exists hv) (by simp [hw])) ⟨ho,ho2,h1 hw⟩
 ·refine concat_meets ⟨_,ho,rfl⟩ ⟨_,ho2,rfl⟩ noFill_tuple_add seq_tuple_add PySem.F.slot_tuple_add PySem.F.entry_tuple_add (PySem.F.args_tuple_add_2 _ _)
   (tuple_addW2 t b vs.toArray ws.toArray n n2 dd dd2 sl sl2 (by exists hv) (by exists hw) (by rw [List.size_toArray,List.size_toArray]; exact hsz)) ⟨ho,ho2,?_⟩
  rw [e]
  exact h2 hw
def sIx (n d:Nat):Option Int->Nat
 | none=>d
 | some v=>if v < 0 then (v+(n:Int)).toNat else min v.toNat n
theorem sIx_none (n d:Nat):sIx n d none=d:=rfl
theorem sIx_nat (n d k:Nat):sIx n d (some (k:Int))=min k n:=by
 show (if (k:Int) < 0 then ((k:Int)+(n:Int)).toNat else min (k:Int).toNat n)=min k n
 rw [if_neg (by nofun),Int.toNat_natCast]
theorem sIx_le (n d:Nat)(hd:d<=n)(o:Option Int):sIx n d o<=n:=by
 cases o with
 | none=>exact hd
 | some v =>
  show (if v < 0 then (v+(n:Int)).toNat else min v.toNat n)<=n
  by_cases hv:v < 0
  ·rw [if_pos hv]; nofun
  ·rw [if_neg hv]; exact Nat.min_le_right _ _
theorem clip_eq (v:Int)(n d:Nat):(if v < 0 then max (v+(n:Int)) 0 else min v (n:Int))=((sIx n d (some v):Nat):Int):=by
 show (if v < 0 then max (v+(n:Int)) 0 else min v (n:Int))=(((if v < 0 then (v+(n:Int)).toNat else min v.toNat n):Nat):Int)
 by_cases hv:v < 0
 ·simp only [if_pos hv]; nofun
 ·simp only [if_neg hv]; nofun
theorem mR (lo hi:Option Int)(n:Nat):Builtin.Slice.sliceAdjust lo hi 1 (n:Int)=(((sIx n 0 lo:Nat):Int),((sIx n n hi:Nat):Int)):=by
 have h1:¬ ((1:Int) < 0):=by nofun
 unfold Builtin.Slice.sliceAdjust
 simp only [h1,if_false]
 refine Prod.ext ?_ ?_
 ·cases lo with
  | none=>rfl
  | some v=>exact clip_eq v n 0
 ·cases hi with
  | none=>rfl
  | some v=>exact clip_eq v n n
theorem mS (i j:Nat):Builtin.Slice.slicePlaces (i:Int) (j:Int) 1=j - i:=by
 unfold Builtin.Slice.slicePlaces
 have h1:(1:Int) > 0:=by nofun
 simp only [h1,if_true,Int.ediv_one]
 split <;> nofun
theorem gN {v:Value}{o:Option Int}{Q:Option Int->Shared->Prop}(p:IsPart v o)(h:Q o s):wpAny (model prog w) A (Builtin.Slice.slicePartIndex v) Q E s:=by
 cases p with
 | none=>exact slicePart_none h
 | int i t=>exact slicePart_int h
theorem cP {n:Nat}{Q:Int×Int×Nat->Shared->Prop}(hs:s.heap.IsSliceOf sl vl vu .none)(pl:IsPart vl lo)(pu:IsPart vu hi)
  (h:Q (((sIx n 0 lo:Nat):Int),1,sIx n n hi - sIx n 0 lo) s):wpAny (model prog w) A (Builtin.Slice.sliceApplied (.ref sl) (pure (n:Int))) Q E s:=by
 obtain ⟨os,hos,hcs,hds⟩:=id hs
 unfold Builtin.Slice.sliceApplied Builtin.Slice.sliceFields
 refine aaa (aaa (wpAny_field hos hds (x:=vl) rfl (aaa (wpAny_field hos hds (x:=vu) rfl (aaa (wpAny_field hos hds (x:=.none) rfl (aac ?_)))))))
 refine aaa (slicePart_none ?_)
 show wpAny _ _ (if ((1:Int) == 0)=true then _ else _) _ _ s
 rw [if_neg (by decide)]
 refine aaa (gN pl (aaa (gN pu (aaa (aac ?_)))))
 show wpAny _ _ (match Builtin.Slice.sliceAdjust lo hi 1 (n:Int) with | (lo,hi)=>pure (lo,(1:Int),Builtin.Slice.slicePlaces lo hi 1)) _ _ s
 rw [mR lo hi n]
 show wpAny _ _ (pure (((sIx n 0 lo:Nat):Int),(1:Int),Builtin.Slice.slicePlaces ((sIx n 0 lo:Nat):Int) ((sIx n n hi:Nat):Int) 1)) _ _ s
 rw [mS]
 exact aac h
theorem sQ (xs:Array Value)(i k:Nat):((List.range k).filterMap fun (m:Nat)=>xs[((i:Int)+(m:Int) * 1).toNat]?).toArray=((xs.toList.drop i).take k).toArray:=by
 have e:(fun (m:Nat)=>xs[((i:Int)+(m:Int) * 1).toNat]?)=fun m=>xs[i+m]?:=by
  funext m
  have:((i:Int)+(m:Int) * 1).toNat=i+m:=by nofun
  rw [this]
 rw [e]
 have:=pick_run xs i k
 rw [List.filterMap_map] at this
 have e2:((fun x=>xs[x]?) ∘ fun x=>i+x)=fun m=>xs[i+m]?:=rfl
 rw [e2] at this
 rw [this]
theorem getItem_tuple_cut {items:Array Value}(ht:IsTup s.heap t items)(hs:s.heap.IsSliceOf sl vl vu .none)(pl:IsPart vl lo)(pu:IsPart vu hi)
  (hw:¬ (sIx items.size 0 lo=0/\sIx items.size items.size hi=items.size))
  (h:Q (.ref s.heap.objs.size) { s with heap:=s.heap.push { cls:=.type "tuple", data:=.seq ((items.toList.drop (sIx items.size 0 lo)).take (sIx items.size items.size hi - sIx items.size 0 lo)).toArray } })
  (hsz:items.size<=sizeLine):wpAny (model prog w) A (getItem (.ref t) (.ref sl)) Q E s:=by
 have htake:sizeOk (.seq ((items.toList.drop (sIx items.size 0 lo)).take (sIx items.size items.size hi - sIx items.size 0 lo)).toArray):=by
  show ((items.toList.drop (sIx items.size 0 lo)).take (sIx items.size items.size hi - sIx items.size 0 lo)).toArray.size<=sizeLine
  rw [List.size_toArray,aao,abv,Array.length_toList]
  omega
 have hj:sIx items.size items.size hi<=items.size:=sIx_le _ _ (aae _) hi
 obtain ⟨os,hos,hcs,hds⟩:=id hs
 have hTs:s.TypeIs (.ref sl) "slice" := ⟨os,hos,hcs⟩
 unfold getItem
 try with_reducible refine aaD ?_
 first | refine aaa (aac ?_) | skip
 refine aaa (wpAny_sequenceKey ht.typeIs (by decide) ?_)
 refine aaa (wpAny_callSpecial?_slot (name:=Str.ofString "__getitem__") ht.typeIs aa0
  (aaF aa0 ht.typeIs entry_tuple_getitem ?_ (args_tuple_getitem _ _)))
 show wpAny _ _ (Builtin.Tuple.tupleItemsOf (.ref t) >>= _) _ _ s
 refine aaa (tupleItemsOf_ ht ?_)
 refine aaa (wpAny_typeOf hTs ?_)
 rw [if_pos (by decide)]
 refine aaa (cP hs pl pu ?_)
 have hno:¬ ((((sIx items.size 0 lo:Nat):Int) == 0 && (1:Int) == 1 && (sIx items.size items.size hi - sIx items.size 0 lo) == items.size)=true):=by
  intro q
  rw [Bool.and_eq_true,Bool.and_eq_true] at q
  have q1:((sIx items.size 0 lo:Nat):Int)=0:=eq_of_beq q.1.1
  have q2:sIx items.size items.size hi - sIx items.size 0 lo=items.size:=eq_of_beq q.2
  exact hw ⟨by omega,by omega⟩
 show wpAny _ _ (if (((sIx items.size 0 lo:Nat):Int) == 0 && (1:Int) == 1 && (sIx items.size items.size hi - sIx items.size 0 lo) == items.size)=true then _ else _) _ _ s
 rw [if_neg hno,sQ]
 first
  | exact aaa (m:=Builtin.Tuple.tupleExact _) (aaI (aac ⟨_,rfl,aac h⟩) htake)
  | exact aaa (m:=Builtin.Tuple.tupleExact _) (aaI (aaa (aac (aac ⟨_,rfl,aac h⟩))) htake)
  | exact aaa (aaa (m:=Builtin.Tuple.tupleExact _) (aaI (aac (aac ⟨_,rfl,aac h⟩)) htake))
  | exact aaa (aaa (m:=Builtin.Tuple.tupleExact _) (aaI (aac ⟨_,rfl,aac h⟩) htake))
end
end HT
namespace L2
open PySem PySem.Spec PyProof.Rows
variable{X:Cx}{e:Expr}{pos apos cpos:Pos}{r:V->Option Int->Option Int->Hp->VK->Prop}{xs:List (List Key×Addr×Value)}{us its its':List Value}{n j t':Nat}{i:Int}{α:Type}{pins:List (Addr×Obj)}{σ:St}{H H':Hp}{s:Shared}{ys:List V}{A:Around}{y x d:V}{u v:Value}{T:String}{o:Option V}{b a:Addr}{w:World}{E Q:Value->Shared->Prop}{P:Program}{k:Key}{kvs:List (List Key×V)}{h':Heap}{td ty tv:TE}{trs:List (TE×TE)}
abbrev TO:=St->Hp->(Option Int->Hp->Prop)->Prop
def PO (X:Cx)(e:Option Expr)(t:TO):Prop :=
 ∀ (pins:List (Addr×Obj)) (s:Shared) (σ:St) (H:Hp) (Q:Option Int->Hp->Prop),Inv X pins σ H s->t σ H Q ->
  wpAny (model X.prog X.w) X.A (evalPart e X.env) (fun u s'=>∃ o H',Inv X pins σ H' s'/\IsPart u o/\Q o H') X.xe s
def kx:TO:=fun _ H Q=>Q none H
def yj (t:TE):TO:=fun σ H Q=>t σ H fun x H1=>∃ i,x=.int i/\Q (some i) H1
section
variable   {te:TE} {lo hi:Option Expr} {tl th:TO} {p2:Pos}
theorem yk:PO X none kx:=by
 intro pins s σ H Q I h
 rw [evalPart_none]
 exact aac ⟨none,H,I,.none,h⟩
theorem yl (h:PE X e te):PO X (some e) (yj te):=by
 intro pins s σ H Q I hw
 rw [evalPart_some]
 refine thn (h pins s σ H _ I hw) fun u s1 ⟨x,H1,I1,r1,q1⟩=>?_
 obtain ⟨i,rfl,q⟩:=q1
 obtain ⟨t,rfl⟩:=r1
 exact ⟨some i,H1,I1,.int i t,q⟩
def SlR (X:Cx)(r:V->Option Int->Option Int->Hp->VK->Prop):Prop :=
 ∀ (pins:List (Addr×Obj)) (s:Shared) (σ:St) (H:Hp) (x:V) (v vl vu:Value) (lo hi:Option Int) (sl:Addr) (Q:VK),Inv X pins σ H s->RelV x v->s.heap.IsSliceOf sl vl vu .none->IsPart vl lo->IsPart vu hi->r x lo hi H Q ->
  ∃ T id,typeLookup (.type T) "__getitem__" = pure (some (.builtin id))/\s.TypeIs v T/\wpAny (model X.prog X.w) X.A (getItem v (.ref sl)) (EP X pins σ Q) X.xe s
theorem SlR.or {r':V->Option Int->Option Int->Hp->VK->Prop}(h:SlR X r)(h':SlR X r'):SlR X (fun x lo hi H Q=>r x lo hi H Q∨r' x lo hi H Q):=by
 intro pins s σ H x v vl vu lo hi sl Q I rx hs pl pu q
 rcases q with q | q
 ·exact h pins s σ H x v vl vu lo hi sl Q I rx hs pl pu q
 ·exact h' pins s σ H x v vl vu lo hi sl Q I rx hs pl pu q
def tSl (r:V->Option Int->Option Int->Hp->VK->Prop)(te:TE)(tl th:TO):TE:=fun σ H Q=>te σ H fun x H1=>tl σ H1 fun l H2=>th σ H2 fun u H3=>r x l u H3 Q
theorem k7 (hr:SlR X r)(he:PE X e te)(hl:PO X lo tl)(hu:PO X hi th):PE X (.Subscript e (.Slice lo hi none p2) pos) (tSl r te tl th):=by
 intro pins s σ H Q I h
 refine Subscript_ (thn (he pins s σ H _ I h) fun v s1 ⟨x,H1,I1,r1,q1⟩=>?_)
 refine wpAny_Slice (thn (hl pins s1 σ H1 _ I1 q1) fun vl s2 ⟨l,H2,I2,pl,q2⟩=>thn (hu pins s2 σ H2 _ I2 q2) fun vu s3 ⟨u,H3,I3,pu,q3⟩=>?_)
 rw [evalPart_none]
 refine aac ?_
 have I4:Inv X pins σ H3 { s3 with heap:=s3.heap.push { cls:=.type "slice", data:=.fields #[vl,vu,.none] } }:=I3.kept (t':=s3.toks) fun b ob q=>Heap.get?_push_of_some _ q
 obtain ⟨T,id,hT,ht,hg⟩:=hr pins { s3 with heap:=s3.heap.push { cls:=.type "slice", data:=.fields #[vl,vu,.none] } } σ H3 x v vl vu l u s3.heap.objs.size Q I4 r1 (Heap.IsSliceOf.new ..) pl pu q3
 show wpAny (model X.prog X.w) X.A (subscriptTail e (.Slice lo hi none p2) v (.ref s3.heap.objs.size)) (EP X pins σ Q) X.xe { s3 with heap:=s3.heap.push { cls:=.type "slice", data:=.fields #[vl,vu,.none] } }
 exact tail_any (ops:=[.ref s3.heap.objs.size,v]) ht hT hg (by with_unfolding_all rfl)
def Ck (xs:List V)(lo hi:Option Int):List V:=(xs.drop (HT.sIx xs.length 0 lo)).take (HT.sIx xs.length xs.length hi - HT.sIx xs.length 0 lo)
theorem fH (xs:List V)(lo hi:Option Int):(Ck xs lo hi).length<=xs.length:=by
 unfold Ck
 rw [aao,abv]
 nofun
def IX (K:Frag):V->Option Int->Option Int->Hp->VK->Prop:=fun x lo hi H Q=>∃ a xs,x=.ref a/\SqT K H a xs /\
 ¬ (HT.sIx xs.length 0 lo=0/\HT.sIx xs.length xs.length hi=xs.length)/\∀ p,H p=none->Q (.ref p) (upd H p (.tup (Ck xs lo hi)))
theorem Db:SlR X (IX X.K):=by
 intro pins s σ H x v vl vu lo hi sl Q I rx hs pl pu h
 obtain ⟨a,xs,rfl,hx,hw,q⟩:=h
 cases rx
 obtain ⟨its,r,ht,hz⟩:=I.tuple hx
 have hlen:its.toArray.size=xs.length:=by rw [List.size_toArray]; exact r.length.symm
 refine ⟨"tuple", _,PyProof.Rows.slot_tuple_getitem.lookup,ht.typeIs,?_⟩
 refine HT.getItem_tuple_cut ht hs pl pu (by rw [hlen]; exact hw) ?_ (by rw [hlen]; exact hz)
 rw [hlen]
 refine ⟨.ref s.heap.objs.size,_,I.laid (t':=s.toks) (o:=.tup (Ck xs lo hi)) (fun b ob q=>Heap.get?_push_of_some _ q) (aae _) ?_,rfl,q _ (I.hok.fresh (aae _))⟩
 exact ⟨aav (fH xs lo hi) hz,_,(r.drop (HT.sIx xs.length 0 lo)).take (HT.sIx xs.length xs.length hi - HT.sIx xs.length 0 lo),IsTup.new _ _⟩
def Dc (K:Frag):R2:=fun x y H Q=>∃ a b xs ys,x=.ref a/\y=.ref b/\SqT K H a xs/\SqT K H b ys/\xs≠[]/\xs.length+ys.length<=sizeLine /\
 (ys=[]->Q (.ref a) H)/\(ys≠[]->∀ p,H p=none->Q (.ref p) (upd H p (.tup (xs++ys))))
theorem Vals.nil_iff {xs:List V}(r:Vals xs us):us=[]↔xs=[]:=by
 cases r with
 | nil=>simp
 | cons _ _=>simp
theorem ym:OpR X (binaryOp .Add) (Dc X.K):=by
 intro pins s σ H x y v u Q I rx ry h
 obtain ⟨a,b,xs,ys,rfl,rfl,ha,hb,hx,hz,q1,q2⟩:=h
 cases rx
 cases ry
 obtain ⟨its,r1,p1,_⟩:=I.tuple ha
 obtain ⟨its2,r2,p2,_⟩:=I.tuple hb
 refine HT.cat_tup p1 p2 (fun z=>hx (r1.nil_iff.mp z)) (fun z=>⟨.ref a,H,I,rfl,q1 (r2.nil_iff.mp z)⟩) (fun z=>?_) (by rw [← r1.length,← r2.length]; exact hz)
 refine ⟨.ref s.heap.objs.size,_,I.laid (t':=s.toks) (o:=.tup (xs++ys)) (fun b ob q=>Heap.get?_push_of_some _ q) (aae _) ?_,rfl,q2 (fun w=>z (r2.nil_iff.mpr w)) _ (I.hok.fresh (aae _))⟩
 exact ⟨by rw [aai]; exact hz,_,r1.append r2,IsTup.new _ _⟩
end
def ixN (n:Nat)(i:Int):Option Nat:=if 0<=i then (if i < n then some i.toNat else none) else if -(n:Int)<=i then some (i+n).toNat else none
def atI {α:Type}(xs:List α)(i:Int):Option α:=(ixN xs.length i).bind fun j=>xs[j]?
theorem oC (h:ixN n i=some j):seqIndex? i n=some j/\j < n/\-(n:Int)<=i/\i < n:=by
 unfold ixN at h
 by_cases h0:0<=i
 ·rw [if_pos h0] at h
  by_cases h1:i < n
  ·rw [if_pos h1] at h
   have e:i.toNat=j:=aaj h
   exact ⟨by rw [seqIndex_of h0 h1,e],by nofun,by nofun,h1⟩
  ·rw [if_neg h1] at h; cases h
 ·rw [if_neg h0] at h
  by_cases h1:-(n:Int)<=i
  ·rw [if_pos h1] at h
   have e:(i+n).toNat=j:=aaj h
   exact ⟨by rw [seqIndex_neg (by nofun) h1,e],by nofun,h1,by nofun⟩
  ·rw [if_neg h1] at h; cases h
theorem ky {xs:List α}{v:α}(h:atI xs i=some v):∃ j,seqIndex? i xs.length=some j/\xs[j]?=some v/\j < xs.length/\-(xs.length:Int)<=i/\i < xs.length:=by
 unfold atI at h
 cases e:ixN xs.length i with
 | none=>rw [e] at h; cases h
 | some j =>
  rw [e] at h
  obtain ⟨h1,h2,h3,h4⟩:=oC e
  exact ⟨j,h1,h,h2,h3,h4⟩
theorem cp {xs:List α}{v:α}(h:xs[j]?=some v):atI xs (j:Int)=some v:=by
 have hj:j < xs.length:=(List.getElem?_eq_some_iff.mp h).1
 have e:ixN xs.length (j:Int)=some j:=by
  unfold ixN
  rw [if_pos (by nofun),if_pos (by nofun)]; simp
 unfold atI; rw [e]; exact h
theorem sR (xs:List α)(v:α):atI (xs++[v]) (-1)=some v:=by
 have hl:(xs++[v]).length=xs.length+1:=by simp
 have e:ixN (xs++[v]).length (-1)=some xs.length:=by
  unfold ixN
  rw [hl,if_neg (by decide),if_pos (by nofun)]
  congr 1
  nofun
 unfold atI
 rw [e]
 show (xs++[v])[xs.length]?=some v
 simp
def yn (b:Expr):Prop:=∀ o i,subscripted b false o i=operate [o,i] (getItem o i)
def IxR (X:Cx)(r:R2):Prop :=
 ∀ (value slice:Expr) (pins:List (Addr×Obj)) (s:Shared) (σ:St) (H:Hp) (x y:V) (v u:Value) (Q:VK),Inv X pins σ H s->RelV x v->RelV y u->r x y H Q ->
  subscripted slice false v u=operate [v,u] (getItem v u)->wpAny (model X.prog X.w) X.A (subscriptTail value slice v u) (EP X pins σ Q) X.xe s
def MtR (X:Cx)(id:String)(r:V->List V->Hp->VK->Prop):Prop :=
 ∀ (pins:List (Addr×Obj)) (s:Shared) (σ:St) (H:Hp) (x:V) (xs:List V) (v:Value) (us:List Value) (Q:VK),Inv X pins σ H s->RelV x v->Vals xs us->r x xs H Q ->
  wpAny (model X.prog X.w) X.A (call (.builtin id) (v::us)) (EP X pins σ Q) X.xe s
section
variable  {a b:Expr} {ta tb:TE} 
theorem IxR.or {r r':R2}(h:IxR X r)(h':IxR X r'):IxR X (fun x y H Q=>r x y H Q∨r' x y H Q):=by
 intro value slice pins s σ H x y v u Q I rx ry q hs
 rcases q with q | q
 ·exact h value slice pins s σ H x y v u Q I rx ry q hs
 ·exact h' value slice pins s σ H x y v u Q I rx ry q hs
theorem Hw {r:R2}(hr:IxR X r)(ha:PE X a ta)(hb:PE X b tb)(hs:yn b):PE X (.Subscript a b pos) (tOp r ta tb):=by
 intro pins s σ H Q I h
 exact Subscript_ (Hl ha hb I h fun v u s2 x y H2 I2 rx ry q=>hr a b pins s2 σ H2 x y v u Q I2 rx ry q (hs _ _))
def IY (K:Frag):R2:=fun x y H Q=>∃ p xs i v,x=.ref p/\y=.int i/\SqL K H p xs/\atI xs i=some v/\Q v H
def IZ (K:Frag):R2:=fun x y H Q=>∃ p xs i v,x=.ref p/\y=.int i/\SqT K H p xs/\atI xs i=some v/\Q v H
def I0:R2:=fun x y H Q=>∃ z i c,x=.str z/\y=.int i/\z.length<=sizeLine/\atI z.cps.toList i=some c/\Q (.str ⟨#[c]⟩) H
theorem yo:IxR X (IY X.K):=by
 intro value slice pins s σ H x y v u Q I rx ry h hs
 obtain ⟨p,xs,i,z,rfl,rfl,hq,he,q⟩:=h
 cases rx
 obtain ⟨t,rfl⟩:=ry
 obtain ⟨its,r,pl,hz⟩:=I.list hq
 obtain ⟨j,h1,h2,h3,h4,h5⟩:=ky he
 obtain ⟨w,ew,rw'⟩:=r.get h2
 have hl:=r.length
 have hn:=fB
 have fin:EP X pins σ Q w s:=⟨z,H,I,rw',q⟩
 by_cases h0:0<=i
 ·have hj:i.toNat=j:=by
   rw [seqIndex_of h0 h5] at h1
   exact aaj h1
  exact item_listR pl.isList h0 (by nofun) (by rw [hj]; simpa using ew) fin hs
 ·have hj:(i+(its.toArray.size:Int)).toNat=j:=by
   rw [seqIndex_neg (by nofun) h4] at h1
   rw [List.size_toArray,← hl]
   exact aaj h1
  exact subscriptTail_builtinR (x:=w) pl.isList.typeIs slot_list_getitem.lookup
   (wpAny_getItem_list_neg (Q:=fun r s'=>r=w/\EP X pins σ Q r s') pl.isList (by nofun) (by rw [List.size_toArray] <;> nofun) (by nofun) (by rw [hj]; simpa using ew) ⟨rfl,fin⟩) hs
theorem Dd:IxR X (IZ X.K):=by
 intro value slice pins s σ H x y v u Q I rx ry h hs
 obtain ⟨p,xs,i,z,rfl,rfl,hq,he,q⟩:=h
 cases rx
 obtain ⟨t,rfl⟩:=ry
 obtain ⟨its,r,pl,hz⟩:=I.tuple hq
 obtain ⟨j,h1,h2,h3,h4,h5⟩:=ky he
 obtain ⟨w,ew,rw'⟩:=r.get h2
 have hl:=r.length
 have hn:=fB
 have fin:EP X pins σ Q w s:=⟨z,H,I,rw',q⟩
 exact subscriptTail_builtinR (x:=w) pl.typeIs slot_tuple_getitem.lookup
  (getItem_tuple (j:=j) (Q:=fun r s'=>r=w/\EP X pins σ Q r s') pl (by nofun) (by nofun) (by rw [List.size_toArray,← hl]; exact h1) (by exists ew) ⟨rfl,fin⟩) hs
theorem De:IxR X I0:=by
 intro value slice pins s σ H x y v u Q I rx ry h hs
 obtain ⟨z,i,c,rfl,rfl,hz,he,q⟩:=h
 obtain ⟨t,rfl⟩:=rx
 obtain ⟨t',rfl⟩:=ry
 obtain ⟨j,h1,h2,h3,h4,h5⟩:=ky he
 have hl:z.cps.toList.length=z.length:=by simp [Str.length]
 rw [hl] at h1 h4 h5
 have hn:=fB
 exact tail_any (typeIs_str s z t) slot_str_getitem.lookup (getItem_str (c:=c) (by
  have e1:decide (i < -(2 ^ 63:Int))=false:=decide_eq_false (by nofun)
  have e2:decide (i ≥ 2 ^ 63)=false:=decide_eq_false (by nofun)
  rw [e1,e2,Bool.or_false]) (by rw [h1]; simpa using h2) ⟨.str ⟨#[c]⟩,H,I.tok _,⟨_,rfl⟩,q⟩) hs
def rIx (K:Frag):R2:=fun x y H Q=>IY K x y H Q∨IZ K x y H Q∨I0 x y H Q
theorem Dg:IxR X (rIx X.K):=yo.or (Dd.or De)
theorem mT (its:List Value)(n j:Nat)(u:Value):Obj.mapSeq (·.setIfInBounds j u) { cls:=.type "list", data:=.seq its.toArray n }={ cls:=.type "list", data:=.seq (its.set j u).toArray n }:=by
 simp [Obj.mapSeq]
theorem Inv.lst {pins:List (Addr×Obj)}{σ:St}{H:Hp}{s:Shared}{p:Addr}{xs:List V}(I:Inv X pins σ H s)(h:H p=some (.lst xs)) :
  ∃ (its:List Value) (n:Nat),Vals xs its/\s.heap.get? p=some { cls:=.type "list", data:=.seq its.toArray n }/\xs.length<=sizeLine:=by
 obtain ⟨z,its,n,r,e⟩:=I.hok p _ h
 exact ⟨its,n,r,e,z⟩
theorem Inv.lstUpd {p:Addr}{xs:List V}{n':Nat}{f:Obj->Obj}(I:Inv X pins σ H s)(h:H p=some (.lst xs))
  (ho:s.heap.get? p=some { cls:=.type "list", data:=.seq its.toArray n }) (hf:f { cls:=.type "list", data:=.seq its.toArray n }={ cls:=.type "list", data:=.seq its'.toArray n' }) (r:Vals ys its') (hz:ys.length<=sizeLine) (t:Nat) :
  Inv X pins σ (upd H p (.lst ys)) { s with heap:=s.heap.update p f,toks:=t }:=by
 have e:(s.heap.update p f).get? p=some { cls:=.type "list", data:=.seq its'.toArray n' }:=by
  rw [Heap.get?_update_self f ho (by rw [hf] <;> rfl),hf]
 refine I.write (x:=p) (e:=p) (by rw [h]; trivial) (.inl rfl) (fun b u hb q=>(Heap.get?_update_other _ _ (abu hb)).trans q) ⟨_,e⟩ ?_
 exact ⟨hz,its',n',r,e⟩
def yp:V->V->V->Hp->(Hp->Prop)->Prop:=fun o i v H Q=>∃ p xs k j,o=.ref p/\i=.int k/\H p=some (.lst xs)/\ixN xs.length k=some j/\Q (upd H p (.lst (xs.set j v)))
theorem sS:IU X yp:=by
 intro pins s σ H o i v ov iv u Q I ro ri rv h
 obtain ⟨p,xs,k,j,rfl,rfl,hp,hj,q⟩:=h
 cases ro
 obtain ⟨t,rfl⟩:=ri
 obtain ⟨its,n,r,ho,hz⟩:=I.lst hp
 obtain ⟨h1,h2,h3,h4⟩:=oC hj
 have hl:=r.length
 have hn:=fB
 have I':Inv X pins σ (upd H p (.lst (xs.set j v))) { s with heap:=s.heap.update p (Obj.mapSeq (·.setIfInBounds j u)) } :=
  I.lstUpd hp ho (mT its n j u) (r.set rv j) (by rw [aaU]; exact hz) s.toks
 by_cases h0:0<=k
 ·have hk:k.toNat=j:=by
   rw [seqIndex_of h0 h4] at h1
   exact aaj h1
  exact PySem.W.ki_setAt ho h0 (by nofun) (by rw [List.size_toArray,← hl]; exact h4) (by rw [hk]; exact ⟨_,I',q⟩)
 ·have hk:(k+(its.toArray.size:Int)).toNat=j:=by
   rw [seqIndex_neg (by nofun) h3] at h1
   rw [List.size_toArray,← hl]
   exact aaj h1
  exact PySem.W.ki_setBack ho (by nofun) (by rw [List.size_toArray,← hl]; exact h3) (by nofun) (by rw [hk]; exact ⟨_,I',q⟩)
theorem jd (lo hi:Option Int)(n:Nat):(sliceBounds lo hi none n).1=((HT.sIx n 0 lo:Nat):Int)/\(sliceBounds lo hi none n).2.1=((HT.sIx n n hi:Nat):Int)/\(sliceBounds lo hi none n).2.2=1:=by
 refine ⟨?_,?_,rfl⟩
 ·cases lo with
  | none=>simp [sliceBounds,HT.sIx]
  | some i =>
   simp only [sliceBounds,HT.sIx,Option.getD_none,show (1:Int) > 0 by decide,if_true]
   by_cases h:i < 0
   ·simp only [h,if_true] <;> nofun
   ·simp only [h,if_false] <;> nofun
 ·cases hi with
  | none=>simp [sliceBounds,HT.sIx]
  | some i =>
   simp only [sliceBounds,HT.sIx,Option.getD_none,show (1:Int) > 0 by decide,if_true]
   by_cases h:i < 0
   ·simp only [h,if_true] <;> nofun
   ·simp only [h,if_false] <;> nofun
theorem io (its:List Value)(lo hi:Option Int):slicePick its.toArray lo hi none=((its.drop (HT.sIx its.length 0 lo)).take (HT.sIx its.length its.length hi - HT.sIx its.length 0 lo)).toArray:=by
 obtain ⟨h1,h2,h3⟩:=jd lo hi its.toArray.size
 unfold slicePick
 rw [h1,h2,h3]
 simp only [sliceRange_one,pick_run,List.size_toArray] <;> rfl
def I8 (K:Frag):V->Option Int->Option Int->Hp->VK->Prop:=fun x lo hi H Q=>∃ a xs,x=.ref a/\SqL K H a xs/\∀ p,H p=none->Q (.ref p) (upd H p (.lst (Ck xs lo hi)))
theorem yq:SlR X (I8 X.K):=by
 intro pins s σ H x v vl vu lo hi sl Q I rx hs pl pu h
 obtain ⟨a,xs,rfl,hx,q⟩:=h
 cases rx
 obtain ⟨its,r,ht,hz⟩:=I.list hx
 have hlen:=r.length
 refine ⟨"list", _,slot_list_getitem.lookup,ht.isList.typeIs,?_⟩
 refine wpAny_getItem_list_slice ht.isList hs pl pu .none (by simp) ?_ (by rw [List.size_toArray] <;> nofun)
 rw [io,← hlen]
 refine ⟨.ref s.heap.objs.size,_,I.laid (t':=s.toks) (o:=.lst (Ck xs lo hi)) (fun b ob q=>Heap.get?_push_of_some _ q) (aae _) ?_,rfl,q _ (I.hok.fresh (aae _))⟩
 exact ⟨aav (fH xs lo hi) hz,_,0,(r.drop (HT.sIx xs.length 0 lo)).take (HT.sIx xs.length xs.length hi - HT.sIx xs.length 0 lo),Heap.get?_push_size _ rfl⟩
def fI:V->Bool
 | .non=>true
 | .bl _=>true
 | .int _=>true
 | .str _=>true
 | _=>false
def eqV:V->V->Bool
 | .non,.non=>true
 | .bl a,.bl b=>a == b
 | .bl a,.int b=>(if a then 1 else 0) == b
 | .int a,.bl b=>a == (if b then 1 else 0)
 | .int a,.int b=>a == b
 | .str a,.str b=>a == b
 | _,_=>false
theorem Dh (ry:RelV y u)(rx:RelV x v)(fy:fI y=true)(fx:fI x=true):SeqAt.EqAt A s u v (eqV y x):=by
 cases y with
 | non =>
  cases ry
  cases x with
  | non=>cases rx; exact abC _
  | bl b=>cases rx; exact SeqAt.EqAt.none_bool b
  | int b=>obtain ⟨t,rfl⟩:=rx; exact SeqAt.EqAt.none_int b t
  | str b=>obtain ⟨t,rfl⟩:=rx; exact SeqAt.EqAt.none_str b t
  | _=>exact absurd (show false=true from fx) Bool.false_ne_true
 | bl a =>
  cases ry
  cases x with
  | non=>cases rx; exact SeqAt.EqAt.bool_none a
  | bl b=>cases rx; exact SeqAt.EqAt.bool_bool a b
  | int b=>obtain ⟨t,rfl⟩:=rx; exact SeqAt.EqAt.bool_int a b t
  | str b=>obtain ⟨t,rfl⟩:=rx; exact SeqAt.EqAt.bool_str a b t
  | _=>exact absurd (show false=true from fx) Bool.false_ne_true
 | int a =>
  obtain ⟨t',rfl⟩:=ry
  cases x with
  | non=>cases rx; exact SeqAt.EqAt.int_none a t'
  | bl b=>cases rx; exact SeqAt.EqAt.int_bool a t' b
  | int b=>obtain ⟨t,rfl⟩:=rx; exact SeqAt.EqAt.int_int a t' b t
  | str b=>obtain ⟨t,rfl⟩:=rx; exact SeqAt.EqAt.int_str a t' b t
  | _=>exact absurd (show false=true from fx) Bool.false_ne_true
 | str a =>
  obtain ⟨t',rfl⟩:=ry
  cases x with
  | non=>cases rx; exact SeqAt.EqAt.str_none a t'
  | bl b=>cases rx; exact SeqAt.EqAt.str_bool a t' b
  | int b=>obtain ⟨t,rfl⟩:=rx; exact SeqAt.EqAt.str_int a t' b t
  | str b=>obtain ⟨t,rfl⟩:=rx; exact SeqAt.EqAt.str_str a t' b t
  | _=>exact absurd (show false=true from fx) Bool.false_ne_true
 | _=>exact absurd (show false=true from fy) Bool.false_ne_true
def eqU (x:V)(u:Value):Bool:=match u with
 | .none=>eqV .non x
 | .bool b=>eqV (.bl b) x
 | .int i _=>eqV (.int i) x
 | .str z _=>eqV (.str z) x
 | _=>false
theorem wF (r:RelV y u)(f:fI y=true):eqU x u=eqV y x:=by
 cases y with
 | non=>cases r; rfl
 | bl b=>cases r; rfl
 | int i=>obtain ⟨t,rfl⟩:=r; rfl
 | str z=>obtain ⟨t,rfl⟩:=r; rfl
 | _=>exact absurd (show false=true from f) Bool.false_ne_true
theorem fJ {x:V}:∀ {xs:List V} {us:List Value},Vals xs us->xs.all fI=true->us.any (eqU x)=xs.any fun y=>eqV y x
 | _,_,.nil,_=>rfl
 | y::xs,u::us,.cons r t,f=>by
  rw [aaK,Bool.and_eq_true] at f
  rw [abA,abA,wF r f.1,fJ t f.2]
theorem dH {A:Around}{s:Shared}{x:V}{v:Value}(rx:RelV x v)(fx:fI x=true):∀ {xs:List V} {us:List Value},Vals xs us->xs.all fI=true->∀ u ∈ us,SeqAt.EqAt A s u v (eqU x u)
 | _,_,.nil,_=>fun u hu=>by cases hu
 | y::xs,u::us,.cons r t,f=>fun u' hu=>by
  rw [aaK,Bool.and_eq_true] at f
  rcases List.mem_cons.mp hu with rfl | hu
  ·rw [wF r f.1]; exact Dh r rx f.1 fx
  ·exact dH rx fx t f.2 u' hu
def inV (x:V)(xs:List V):Bool:=xs.any fun y=>eqV y x
def rIn (K:Frag)(neg:Bool):R2:=fun x y H Q=>∃ p xs,y=.ref p/\(SqL K H p xs∨SqT K H p xs)/\fI x=true/\xs.all fI=true/\Q (.bl (if neg then !inV x xs else inV x xs)) H
theorem oE:OpR X (compareOp .In) (rIn X.K false):=by
 intro pins s σ H x y v u Q I rx ry h
 obtain ⟨p,xs,rfl,hq,fx,fs,q⟩:=h
 cases ry
 rcases hq with hq | hq
 ·obtain ⟨its,r,pl,hz⟩:=I.list hq
  refine SeqAt.in_listAt (eqU x) pl.isList (fun w hw=>dH rx fx r fs w (by exists hw)) ⟨.bl _,H,I,rfl,?_⟩
  rw [show its.toArray.any (eqU x)=its.any (eqU x) by simp,fJ r fs]
  exact q
 ·obtain ⟨its,r,pl,hz⟩:=I.tuple hq
  refine SeqAt.in_tupleAt (eqU x) pl (fun w hw=>dH rx fx r fs w (by exists hw)) ⟨.bl _,H,I,rfl,?_⟩
  rw [show its.toArray.any (eqU x)=its.any (eqU x) by simp,fJ r fs]
  exact q
theorem je:OpR X (compareOp .NotIn) (rIn X.K true):=by
 intro pins s σ H x y v u Q I rx ry h
 obtain ⟨p,xs,rfl,hq,fx,fs,q⟩:=h
 cases ry
 rcases hq with hq | hq
 ·obtain ⟨its,r,pl,hz⟩:=I.list hq
  refine SeqAt.notIn_listAt (eqU x) pl.isList (fun w hw=>dH rx fx r fs w (by exists hw)) ⟨.bl _,H,I,rfl,?_⟩
  rw [show its.toArray.any (eqU x)=its.any (eqU x) by simp,fJ r fs]
  exact q
 ·obtain ⟨its,r,pl,hz⟩:=I.tuple hq
  refine SeqAt.notIn_tupleAt (eqU x) pl (fun w hw=>dH rx fx r fs w (by exists hw)) ⟨.bl _,H,I,rfl,?_⟩
  rw [show its.toArray.any (eqU x)=its.any (eqU x) by simp,fJ r fs]
  exact q
theorem jf:OpR X (compareOp .NotIn) (fun x y H Q=>∃ i j,x=.str i/\y=.str j/\Q (.bl (!(!(Builtin.Str.occurrences j i 0 j.length 1).isEmpty))) H):=by
 intro pins s σ H x y v u Q I rx ry h
 obtain ⟨i,j,rfl,rfl,q⟩:=h
 obtain ⟨t,rfl⟩:=rx
 obtain ⟨t',rfl⟩:=ry
 exact notIn_str ⟨.bl _,H,I,rfl,q⟩
theorem jg:CallR X (.builtin "len") (fun xs H Q=>∃ p ys,xs=[.ref p]/\(SqL X.K H p ys∨SqT X.K H p ys)/\Q (.int ys.length) H):=by
 intro pins s σ H xs us Q I r h
 obtain ⟨p,ys,rfl,hq,q⟩:=h
 obtain ⟨u,rfl,rx⟩:=du r
 cases rx
 have hn:=fB
 rcases hq with hq | hq
 ·obtain ⟨its,r',pl,hz⟩:=I.list hq
  have hlen:=r'.length
  exact Calls.call_len_list pl.isList (by simp only [List.size_toArray] <;> nofun) ⟨.int ys.length,H,I.tok _,⟨s.toks+1,by rw [List.size_toArray,hlen]⟩,q⟩
 ·obtain ⟨its,r',pl,hz⟩:=I.tuple hq
  have hlen:=r'.length
  exact len_tuple pl (by simp only [List.size_toArray] <;> nofun) ⟨.int ys.length,H,I.tok _,⟨s.toks+1,by rw [List.size_toArray,hlen]⟩,q⟩
theorem jh:CallR X (.builtin "len") (fun xs H Q=>∃ z,xs=[.str z]/\z.length<=sizeLine/\Q (.int z.length) H):=by
 intro pins s σ H xs us Q I r h
 obtain ⟨z,rfl,hz,q⟩:=h
 obtain ⟨u,rfl,t,rfl⟩:=du r
 have hn:=fB
 exact len_str (by nofun) ⟨.int z.length,H,I.tok _,⟨_,rfl⟩,q⟩
theorem CallR.or {f:Value}{r r':List V->Hp->VK->Prop}(h:CallR X f r)(h':CallR X f r'):CallR X f (fun xs H Q=>r xs H Q∨r' xs H Q):=by
 intro pins s σ H xs us Q I rs q
 rcases q with q | q
 ·exact h pins s σ H xs us Q I rs q
 ·exact h' pins s σ H xs us Q I rs q
theorem ji:CallR X (.type "list") (fun xs H Q=>∃ p ys,xs=[.ref p]/\(SqL X.K H p ys∨SqT X.K H p ys)/\∀ l,H l=none->Q (.ref l) (upd H l (.lst ys))):=by
 intro pins s σ H xs us Q I r h
 obtain ⟨p,ys,rfl,hq,q⟩:=h
 obtain ⟨u,rfl,rx⟩:=du r
 cases rx
 have fin:∀ (its:List Value),Vals ys its->ys.length<=sizeLine->∀ (h':Heap) (c':Nat),(∀ b o',s.heap.get? b=some o'->h'.get? b=some o') ->
   h'.get? s.heap.objs.size=some { cls:=.type "list", dict:=none,data:=.seq its.toArray c',slots:=#[] }->EP X pins σ Q (.ref s.heap.objs.size) { s with heap:=h' }:=fun its r' hz h' c' kp e =>
  ⟨.ref s.heap.objs.size,_,I.laid (t':=s.toks) kp (aae _) (show ObjOk X.prog X.w _ h' _ (.lst ys) from ⟨hz,its,c',r',e⟩),rfl,q _ (I.hok.fresh (aae _))⟩
 rcases hq with hq | hq
 ·obtain ⟨its,r',pl,hz⟩:=I.list hq
  have hlen:=r'.length
  obtain ⟨o,ho,hc,n,hd⟩:=pl.isList
  exact call_list_seq p (.inl rfl) ho hc hd (fun h' c' kp e=>fin its r' hz h' c' kp e) (by simp only [List.size_toArray] <;> nofun)
 ·obtain ⟨its,r',pl,hz⟩:=I.tuple hq
  have hlen:=r'.length
  obtain ⟨o,ho,hc,n,hd⟩:=pl
  exact call_list_seq p (.inr rfl) ho hc hd (fun h' c' kp e=>fin its r' hz h' c' kp e) (by simp only [List.size_toArray] <;> nofun)
def tyV (K:Frag)(T:String)(x:V)(H:Hp):Prop:=match x with
 | .str _=>T = "str"
 | .int _=>T = "int"
 | .ref p=>(T = "list" /\ ∃ xs,SqL K H p xs)∨(T = "tuple" /\ ∃ o,K.lookup p=some o/\o.cls=.type "tuple" /\ o.dict=none) ∨
   (T = "dict" /\ ((∃ kvs,H p=some (.dK kvs))∨∃ kvs,H p=some (.dT kvs)))∨(T = "set" /\ ∃ S n,H p=some (.set S n))
 | _=>False
theorem wG (I:Inv X pins σ H s)(r:RelV x v)(ty:tyV X.K T x H) :
  s.TypeIs v T/\∀ a,v=.ref a->∃ ob,s.heap.get? a=some ob/\ob.dict=none:=by
 cases x with
 | str z =>
  obtain ⟨t,rfl⟩:=r
  cases (show T = "str" from ty)
  exact ⟨typeIs_str s z t,fun _ e=>nomatch e⟩
 | int i =>
  obtain ⟨t,rfl⟩:=r
  cases (show T = "int" from ty)
  exact ⟨typeIs_int s i t,fun _ e=>nomatch e⟩
 | ref p =>
  cases r
  rcases ty with ⟨rfl,xs,hq⟩ | ⟨rfl,o,hk,hc,hd⟩ | ⟨rfl,hk⟩ | ⟨rfl,S,n,hk⟩
  ·obtain ⟨its,_,pl,_⟩:=I.list hq
   refine ⟨pl.isList.typeIs,fun a e=>?_⟩
   cases e
   obtain ⟨o,n,e,c,hd,_⟩:=pl
   exact ⟨o,e,hd⟩
  ·refine ⟨⟨o,I.kIn p o hk,hc⟩,fun a e=>?_⟩
   cases e
   exact ⟨o,I.kIn _ o hk,hd⟩
  ·have z:∃ o,s.heap.get? p=some o/\o.ExactDict:=by
    rcases hk with ⟨kvs,hk⟩ | ⟨kvs,hk⟩
    ·obtain ⟨_,_,_,_,o,_,_,e,ex,_⟩:=I.hok p _ hk
     exact ⟨o,e,ex⟩
    ·obtain ⟨_,_,_,_,o,_,_,e,ex,_⟩:=I.hok p _ hk
     exact ⟨o,e,ex⟩
   obtain ⟨o,e,ex⟩:=z
   refine ⟨⟨o,e,ex.1⟩,fun a e2=>?_⟩
   cases e2
   exact ⟨o,e,ex.2.1⟩
  ·obtain ⟨o,_,_,_,e,ex,_⟩:=I.hok p _ hk
   refine ⟨⟨o,e,ex.1⟩,fun a e2=>?_⟩
   cases e2
   exact ⟨o,e,ex.2.1⟩
 | _=>exact False.elim ty
def Cl (K:Frag)(T:String)(r:V->List V->Hp->VK->Prop)(to:TE):TE:=fun σ H Q=>to σ H fun x H1=>tyV K T x H1/\r x [] H1 Q
def tBM (K:Frag)(T:String)(r:V->List V->Hp->VK->Prop)(to:TE)(t:TA):TE:=fun σ H Q=>to σ H fun x H1=>tyV K T x H1/\t σ H1 fun xs H2=>r x xs H2 Q
variable {o:Expr} {es:List Expr} {to:TE} {t:TA} {name:Str}  {id:String} {r:V->List V->Hp->VK->Prop}
theorem Di (pa:PlainAttrs T) (slot:Slot T name id) (hty:typeOf (.builtin id)=pure (.type "method_descriptor")) (hm:MtR X id r) (ho:PE X o to)
  (hbase:autoParam (attributeBase o name X.env (eval o X.env)=eval o X.env) L2.aR._auto_1) (hline:autoParam ((apos.endLine == cpos.line)=true) L2.aR._auto_1):PE X (.Call (.Attribute o name apos) [] [] cpos) (Cl X.K T r to):=by
 intro pins s σ H Q I h
 refine wpAny_Call_method0_late hbase hline (thn (ho pins s σ H _ I h) fun v s1 ⟨x,H1,I1,r1,ty,q1⟩=>?_)
 obtain ⟨h1,h2⟩:=wG I1 r1 ty
 exact ⟨T,id,pa,slot,hty,h1,h2,aaW rfl (PySem.evalArgs_none (hm pins s1 σ H1 x [] v [] Q I1 r1 .nil q1))⟩
theorem Hx (pa:PlainAttrs T) (slot:Slot T name id) (hty:typeOf (.builtin id)=pure (.type "method_descriptor")) (hm:MtR X id r) (ho:PE X o to) (ha:PA X (e::es) t)
  (hbase:autoParam (attributeBase o name X.env (eval o X.env)=eval o X.env) L2.aR._auto_1)
  (hfew:autoParam (((backTo cpos (starEach (e::es) X.env)).all (fun x=>!x.1) && (backToKw cpos (keywordEach [] X.env)).all (fun x=>x.1.isSome)
   && decide ((e::es).length+([]:List Keyword).length+(if ([]:List Keyword).isEmpty then 0 else 1) < 30))=true) L2.aR._auto_1)
  (hline:autoParam ((apos.endLine == cpos.line)=true) L2.aR._auto_1) (hs:autoParam (starEach (e::es) X.env=(false,eval e X.env)::starEach es X.env) L2.aR._auto_1) (hplain:autoParam ((backTo cpos (starEach es X.env)).any (·.1)=false) L2.aR._auto_1) :
  PE X (.Call (.Attribute o name apos) (e::es) [] cpos) (tBM X.K T r to t):=by
 intro pins s σ H Q I h
 refine wpAny_Call_method_late hbase hfew hline rfl (thn (ho pins s σ H _ I h) fun v s1 ⟨x,H1,I1,r1,ty,q1⟩=>?_)
 obtain ⟨h1,h2⟩:=wG I1 r1 ty
 refine ⟨T,id,pa,slot,hty,h1,h2,?_⟩
 have hA:=ha cpos pins s1 σ H1 _ I1 q1
 rw [hs] at hA ⊢
 refine aaW (by show (false || (backTo cpos (starEach es X.env)).any (·.1))=false; rw [hplain] <;> rfl) (aby ?_)
 exact thn hA fun us s2 ⟨vs,H2,I2,r2,q2⟩=>hm pins s2 σ H2 x vs v us Q I2 r1 r2 q2
/- xs.append(e),list.index on a module's tuple .. are MtR facts of 06m -/
end
def MtM (X:Cx)(id:String)(r:V->List V->Hp->VK->Prop):Prop :=
 ∀ (pins:List (Addr×Obj)) (s:Shared) (σ:St) (H:Hp) (x:V) (xs:List V) (v:Value) (us:List Value) (Q:VK),Inv X pins σ H s->RelV x v->Vals xs us->r x xs H Q ->
  wpAny (model X.prog X.w) X.A (call (.builtin id) (v::us)) (EP X pins σ Q) X.xe s
theorem Vals.one (h:Vals [x] us):∃ u,us=[u]/\RelV x u:=by
 cases h with | cons r t=>cases t; exact ⟨_,rfl,r⟩
theorem Vals.zero:∀ {us:List Value},Vals [] us->us=[]
 | _,.nil=>rfl
theorem Vals.dropLast {xs:List V}(h:Vals xs us):Vals xs.dropLast us.dropLast:=by
 induction h with
 | nil=>exact .nil
 | cons r t ih =>
  cases t with
  | nil=>exact .nil
  | cons q t'=>exact .cons r ih
theorem mU (l:List α):l.eraseIdx (l.length - 1)=l.dropLast:=by
 induction l with
 | nil=>rfl
 | cons a r ih =>
  cases r with
  | nil=>rfl
  | cons b r =>
   have e:(a::b::r).length - 1=((b::r).length - 1)+1:=by
    have h1:(a::b::r).length=r.length+2:=rfl
    have h2:(b::r).length=r.length+1:=rfl
    nofun
   rw [e,List.eraseIdx_cons_succ,ih]
   all_goals rfl
section
variable      {l:Addr} {xs zs:List V}
theorem Inv.lset {f:Array Value->Array Value}(I:Inv X pins σ H s)(hH:H l=some (.lst xs))
  (e:s.heap.get? l=some { cls:=.type "list", data:=.seq its.toArray n }) (hf:f its.toArray=its'.toArray) (hv:Vals ys its') (hz:ys.length<=sizeLine) :
  Inv X pins σ (upd H l (.lst ys)) { s with heap:=s.heap.update l (Obj.mapSeq f),toks:=t' }:=by
 have q:=PySem.IsL.update e f
 rw [hf] at q
 refine I.write (x:=l) (e:=l) (by rw [hH]; exact trivial) (.inl rfl) (fun b' u hb hu=>(Heap.get?_update_other s.heap (Obj.mapSeq f) (abu hb)).trans hu) ⟨_,q⟩ ?_
 exact ⟨hz,its',_,hv,q⟩
theorem Inv.lnew (I:Inv X pins σ H s)(hv:Vals ys its)(hz:ys.length<=sizeLine) :
  Inv X pins σ (upd H s.heap.objs.size (.lst ys)) { s with heap:=s.heap.push { cls:=.type "list", data:=.seq its.toArray },toks:=t' } :=
 I.laid (fun _ _ q=>Heap.get?_push_of_some _ q) (aae _) ⟨hz,its,0,hv,Heap.get?_push_size _ rfl⟩
theorem Inv.fresh (I:Inv X pins σ H s):H s.heap.objs.size=none:=I.hok.fresh (aae _)
theorem Inv.lstM (I:Inv X pins σ H s)(hH:H l=some (.lst xs)):xs.length<=sizeLine/\∃ (its:List Value) (n:Nat),Vals xs its/\xs.length=its.length/\s.heap.get? l=some { cls:=.type "list", data:=.seq its.toArray n }:=by
 obtain ⟨z,its,n,r,e⟩:=I.hok l _ hH
 exact ⟨z,its,n,r,r.length,e⟩
end
def dZ:V->List V->Hp->VK->Prop:=fun x vs H Q=>∃ l xs y,x=.ref l/\vs=[y]/\H l=some (.lst xs)/\xs.length < sizeLine/\Q .non (upd H l (.lst (xs++[y])))
theorem jj:MtM X "list.append" dZ:=by
 intro pins s σ H x vs v us Q I rx rv h
 obtain ⟨l,xs,y,rfl,rfl,hH,hz,q⟩:=h
 cases rx
 obtain ⟨u,rfl,ru⟩:=rv.one
 obtain ⟨z,its,n,r,hl,e⟩:=I.lstM hH
 refine call_meets F.slot_list_append ⟨_,e,rfl⟩ F.entry_list_append (F.args_list_append_2 _ _) (PySem.list_append l its.toArray n u (by rw [List.size_toArray]; nofun)) ⟨e,?_⟩
 refine ⟨.non,_,I.lset (its':=its++[u]) hH e (by simp) (r.append (.cons ru .nil)) ?_,rfl,q⟩
 rw [aai,aa8]
 nofun
def Hy:V->List V->Hp->VK->Prop:=fun x vs H Q=>∃ l xs y,x=.ref l/\vs=[]/\H l=some (.lst xs)/\xs[xs.length - 1]?=some y/\Q y (upd H l (.lst xs.dropLast))
theorem Dj:MtM X "list.pop" Hy:=by
 intro pins s σ H x vs v us Q I rx rv h
 obtain ⟨l,xs,y,rfl,rfl,hH,hy,q⟩:=h
 cases rx
 have hus:=rv.zero
 subst hus
 obtain ⟨z,its,n,r,hl,e⟩:=I.lstM hH
 obtain ⟨u,hu,ru⟩:=r.get hy
 have hy':its.toArray[its.toArray.size - 1]?=some u:=by
  show its.toArray[its.length - 1]?=some u
  rw [← Array.getElem?_toList,← hl]
  exact hu
 refine call_meets F.slot_list_pop ⟨_,e,rfl⟩ F.entry_list_pop (F.args_list_pop_1 _) (MeetsSeq.list_pop_last l its.toArray n u hy' (by rw [List.size_toArray]; nofun)) ⟨e,?_⟩
 refine ⟨y,_,I.lset (its':=its.dropLast) hH e ?_ r.dropLast ?_,ru,q⟩
 ·show its.toArray.eraseIdxIfInBounds (its.toArray.size - 1)=its.dropLast.toArray
  rw [List.size_toArray,List.eraseIdxIfInBounds_toArray,mU]
 ·rw [List.length_dropLast]
  nofun
def k9:V->List V->Hp->VK->Prop:=fun x vs H Q=>∃ l xs,x=.ref l/\vs=[]/\H l=some (.lst xs)/\Q .non (upd H l (.lst []))
theorem sT:MtM X "list.clear" k9:=by
 intro pins s σ H x vs v us Q I rx rv h
 obtain ⟨l,xs,rfl,rfl,hH,q⟩:=h
 cases rx
 have hus:=rv.zero
 subst hus
 obtain ⟨z,its,n,r,hl,e⟩:=I.lstM hH
 refine call_meets F.slot_list_clear ⟨_,e,rfl⟩ F.entry_list_clear (F.args_list_clear_1 _) (AutoSeq1.list_clear_list_0 l its.toArray n (by rw [List.size_toArray]; nofun)) ⟨e,?_⟩
 exact ⟨.non,_,I.lset (its':=[]) (ys:=[]) hH e rfl .nil (aaq _),rfl,q⟩
section
variable {prog:Program}    
end
section
variable {κ:Type} [DecidableEq κ]
def eM (kvs:List (κ×V))(k:κ):Option V:=(kvs.find? fun kv=>decide (kv.1=k)).map (·.2)
def gu (kvs:List (κ×V))(k:κ)(v:V):List (κ×V) :=
 if (kvs.any fun kv=>decide (kv.1=k))=true then kvs.map (fun kv=>if kv.1=k then (kv.1,v) else kv) else kvs++[(k,v)]
def gy (kvs:List (κ×V))(k:κ):List (κ×V):=kvs.filter fun kv=>decide (kv.1≠k)
theorem e7 {p:κ×V}{r:List (κ×V)}{k:κ}(e:p.1=k):eM (p::r) k=some p.2:=by simp [eM,List.find?_cons,e]
theorem e8 {p:κ×V}{r:List (κ×V)}{k:κ}(e:¬ p.1=k):eM (p::r) k=eM r k:=by simp [eM,List.find?_cons,e]
theorem e9 (k:κ):∀ kvs:List (κ×V),(kvs.any fun kv=>decide (kv.1=k))=(eM kvs k).isSome
 | []=>rfl
 | p::r=>by
  rw [abA]
  by_cases e:p.1=k
  ·simp only [e7 e,decide_eq_true e,Bool.true_or,Option.isSome_some]
  ·rw [e8 e,decide_eq_false e,Bool.false_or]; exact e9 k r
theorem dA (kvs:List (κ×V))(k:κ)(v:V):(gu kvs k v).length<=kvs.length+1:=by
 unfold gu
 split
 ·rw [List.length_map]; nofun
 ·rw [aai,List.length_cons,List.length_nil]; nofun
theorem RelO.isSome_eq {u:Option Value}(r:RelO o u):o.isSome=u.isSome:=by
 cases o with
 | none=>cases u with
  | none=>rfl
  | some _=>exact (show False from r).elim
 | some _=>cases u with
  | none=>exact (show False from r).elim
  | some _=>rfl
theorem RelO.getD {u:Option Value}{d':Value}(r:RelO o u)(rd:RelV d d'):RelV (o.getD d) (u.getD d'):=by
 cases o with
 | none=>cases u with
  | none=>exact rd
  | some _=>exact (show False from r).elim
 | some _=>cases u with
  | none=>exact (show False from r).elim
  | some _=>exact r
theorem KV.val {kvs:List (κ×V)}{vs:List (κ×Value)}(r:KV kvs vs)(k:κ):RelO (eM kvs k) (valueAt vs k):=by
 unfold KV at r
 induction r with
 | nil=>exact True.intro
 | @cons p q ps qs h t ih =>
  obtain ⟨h1,h2⟩:=h
  by_cases e:p.1=k
  ·have e':q.1=k:=h1.symm.trans e
   have b:valueAt (q::qs) k=some q.2:=by simp [valueAt,List.find?_cons,e']
   rw [e7 e,b]; exact h2
  ·have e':¬ q.1=k:=fun z=>e (h1.trans z)
   have b:valueAt (q::qs) k=valueAt qs k:=by simp [valueAt,List.find?_cons,e']
   rw [e8 e,b]; exact ih
theorem KV.any {kvs:List (κ×V)}{vs:List (κ×Value)}(r:KV kvs vs)(k:κ):(kvs.any fun kv=>decide (kv.1=k))=vs.any fun kv=>decide (kv.1=k):=by
 unfold KV at r
 induction r with
 | nil=>rfl
 | cons h t ih=>rw [abA,abA,ih,h.1]
theorem KV.repl {kvs:List (κ×V)}{vs:List (κ×Value)}(r:KV kvs vs)(k:κ)(ry:RelV y u) :
  KV (kvs.map fun kv=>if kv.1=k then (kv.1,y) else kv) (vs.map fun kv=>if kv.1=k then (kv.1,u) else kv):=by
 unfold KV at r ⊢
 induction r with
 | nil=>exact .nil
 | @cons p q ps qs h t ih =>
  rw [List.map_cons,List.map_cons]
  refine .cons ?_ ih
  obtain ⟨h1,h2⟩:=h
  by_cases e:p.1=k
  ·rw [if_pos e,if_pos (h1.symm.trans e)]; exact ⟨h1,ry⟩
  ·rw [if_neg e,if_neg (fun z=>e (h1.trans z))]; exact ⟨h1,h2⟩
theorem KV.put {kvs:List (κ×V)}{vs:List (κ×Value)}(r:KV kvs vs)(k:κ)(ry:RelV y u):KV (gu kvs k y) (stored vs k u):=by
 unfold gu stored
 rw [r.any k]
 by_cases e:(vs.any fun kv=>decide (kv.1=k))=true
 ·rw [if_pos e,if_pos e]; exact r.repl k ry
 ·rw [if_neg e,if_neg e]; exact Paired.snoc r ⟨rfl,ry⟩
theorem KV.drop {kvs:List (κ×V)}{vs:List (κ×Value)}(r:KV kvs vs)(k:κ):KV (gy kvs k) (without vs k):=by
 unfold KV at r ⊢
 unfold gy without
 induction r with
 | nil=>exact .nil
 | @cons p q ps qs h t ih =>
  obtain ⟨h1,h2⟩:=h
  rw [List.filter_cons,List.filter_cons]
  by_cases e:p.1=k
  ·have a:¬ decide (p.1≠k)=true:=by simp [e]
   have b:¬ decide (q.1≠k)=true:=by simp [h1.symm.trans e]
   rw [if_neg a,if_neg b]; exact ih
  ·have e':¬ q.1=k:=fun z=>e (h1.trans z)
   have a:decide (p.1≠k)=true:=by simp [e]
   have b:decide (q.1≠k)=true:=by simp [e']
   rw [if_pos a,if_pos b]; exact .cons ⟨h1,h2⟩ ih
theorem KV.length {kvs:List (κ×V)}{vs:List (κ×Value)}(r:KV kvs vs):kvs.length=vs.length:=aa1 r
theorem la (kvs:List (κ×V))(k:κ):(gy kvs k).length<=kvs.length:=aaY _ _
end
theorem fK (r:RelV (kV k) u):(ai P w).is k u=true:=by
 cases k with
 | inl i=>obtain ⟨t,e⟩:=(show ∃ t,u=Value.int i t from r); subst e; exact kj P w i t
 | inr x=>obtain ⟨t,e⟩:=(show ∃ t,u=Value.str x t from r); subst e; exact km P w x t
theorem jk {P:Program}{w:World}:∀ {ks:List Key} {us:List Value},Vals (ks.map kV) us->ItemsAre (ai P w) ks us
 | [],_,r=>by rw [List.map_nil] at r; cases r; exact .nil
 | k::ks,_,r=>by
  rw [List.map_cons] at r
  cases r with
  | cons h t=>exact .cons (fK h) (jk t)
abbrev KT (H:Hp):List (List Key×V)->List (List Key×Addr×Value)->Prop:=Paired fun p q=>p.1=q.1/\H q.2.1=some (.tup (p.1.map kV))/\RelV p.2 q.2.2
theorem KT.val (r:KT H kvs xs)(k:List Key):RelO (eM kvs k) ((atKey xs k).map (·.2)):=by
 induction r with
 | nil=>exact True.intro
 | @cons p q ps qs h t ih =>
  obtain ⟨h1,_,h2⟩:=h
  by_cases e:p.1=k
  ·have e':q.1=k:=h1.symm.trans e
   have b:atKey (q::qs) k=some q.2:=by simp [atKey,List.find?_cons,e']
   rw [e7 e,b]; exact h2
  ·have e':¬ q.1=k:=fun z=>e (h1.trans z)
   have b:atKey (q::qs) k=atKey qs k:=by simp [atKey,List.find?_cons,e']
   rw [e8 e,b]; exact ih
theorem KT.repl (r:KT H kvs xs)(k:List Key)(ry:RelV y u) :
  KT H (kvs.map fun kv=>if kv.1=k then (kv.1,y) else kv) (xs.map (putAt k u)):=by
 induction r with
 | nil=>exact .nil
 | @cons p q ps qs h t ih =>
  rw [List.map_cons,List.map_cons]
  refine .cons ?_ ih
  obtain ⟨h1,h2,h3⟩:=h
  unfold putAt
  by_cases e:p.1=k
  ·rw [if_pos e,if_pos (h1.symm.trans e)]; exact ⟨h1,h2,ry⟩
  ·rw [if_neg e,if_neg (fun z=>e (h1.trans z))]; exact ⟨h1,h2,h3⟩
theorem KT.put (r:KT H kvs xs)(k:List Key)(hb:H b=some (.tup (k.map kV)))(ry:RelV y u) :
  KT H (gu kvs k y) (storedH xs k b u):=by
 have e:(kvs.any fun kv=>decide (kv.1=k))=(atKey xs k).isSome:=by
  rw [e9,(r.val k).isSome_eq,Option.isSome_map]
 unfold gu storedH
 rw [e]
 by_cases q:(atKey xs k).isSome=true
 ·rw [if_pos q,if_pos q]; exact r.repl k ry
 ·rw [if_neg q,if_neg q]; exact Paired.snoc r ⟨rfl,hb,ry⟩
theorem KT.keeps (r:KT H kvs xs)(ht:∀ b ys,H b=some (.tup ys)->H' b=some (.tup ys)):KT H' kvs xs :=
 Paired.mapP r fun _ _ z=>⟨z.1,ht _ _ z.2.1,z.2.2⟩
section
variable    {h:Heap} 
theorem Dk {u:HO}(ok:HOk P w H h)(e:Rd H a u):ObjOk P w H h a u:=e.ok ok
theorem gz {kvs:List (Key×V)}(ok:HOk P w H h)(e:Rd H a (.dK kvs)):kvs.length<=sizeLine/\(a == sysModules)=false/\∃ vs,KV kvs vs/\h.DictOf (ai P w) a vs :=
 show ObjOk P w H h a (.dK kvs) from Dk ok e
theorem sU {kvs:List (Key×V)}(ok:HOk P w H h)(e:H a=some (.dK kvs)):kvs.length<=sizeLine/\(a == sysModules)=false/\∃ vs,KV kvs vs/\h.DictOf (ai P w) a vs:=gz ok (.inl e)
theorem fL {ks:List Key}(ok:HOk P w H h)(e:H a=some (.tup (ks.map kV))):(tupleKind (ai P w)).is h ks a:=by
 obtain ⟨_,its,r,o,h1,h2,n,h3⟩:=(show ObjOk P w H h a (.tup (ks.map kV)) from ok a _ e)
 exact ⟨o,its.toArray,n,h1,h2,h3,by simpa using jk r⟩
theorem jl (ok:HOk P w H h)(e:Rd H a (.dT kvs)):kvs.length<=sizeLine/\(a == sysModules)=false /\
  ∃ xs,KT H kvs xs/\h.DictOfH (tupleKind (ai P w)) a xs:=by
 obtain ⟨z,y,xs,r,o,es,ep,h1,h2,h3,h4,h5⟩:=(show ObjOk P w H h a (.dT kvs) from Dk ok e)
 refine ⟨z,y,xs,r,o,es,ep,h1,h2,h3,h4,fun x hx=>?_,h5⟩
 have all:∀ {l:List (List Key×V)} {m:List (List Key×Addr×Value)},KT H l m->∀ x ∈ m,(tupleKind (ai P w)).is h x.1 x.2.1:=by
  intro l m q
  induction q with
  | nil=>intro x hx; exact nomatch hx
  | @cons p q ps qs hq t ih =>
   intro x hx
   rcases List.mem_cons.mp hx with e | hx
   ·subst e
    exact fL ok (by rw [← hq.1]; exact hq.2.1)
   ·exact ih x hx
 exact all r x hx
theorem Hz (ok:HOk P w H h)(e:H a=some (.dT kvs)):kvs.length<=sizeLine/\(a == sysModules)=false /\
  ∃ xs,KT H kvs xs/\h.DictOfH (tupleKind (ai P w)) a xs:=jl ok (.inl e)
end
def DGet (H:Hp)(a:Addr)(y:V)(r:Option V):Prop :=
 (∃ kvs k,Rd H a (.dK kvs)/\y=kV k/\r=eM kvs k)∨∃ kvs k b,Rd H a (.dT kvs)/\y=.ref b/\H b=some (.tup (k.map kV))/\r=eM kvs k
def I9 (H:Hp)(a:Addr)(y v:V)(H':Hp):Prop :=
 (∃ kvs k,H a=some (.dK kvs)/\y=kV k/\kvs.length < sizeLine/\H'=upd H a (.dK (gu kvs k v))) ∨
 ∃ kvs k b,H a=some (.dT kvs)/\y=.ref b/\H b=some (.tup (k.map kV))/\kvs.length < sizeLine/\H'=upd H a (.dT (gu kvs k v))
section
variable       {v:V} {r:Value}   
theorem Inv.big (I:Inv X pins σ H s):sysModules < s.heap.objs.size:=by
 have h:mainGlobals < s.heap.objs.size:=(I.mod.glob.keeps I.bk).lt
 exact Nat.lt_trans (by decide) h
theorem oF (hu:A.units+1 < cLine)(I:Inv X pins σ H s)(g:DGet H a y (some v))(ry:RelV y u)(h:∀ w' s',Inv X pins σ H s'->RelV v w'->Q w' s') :
  wpAny (model X.prog X.w) A (getItem (.ref a) u) Q E s:=by
 rcases g with ⟨kvs,k,e,ey,l⟩ | ⟨kvs,k,b,e,ey,eb,l⟩
 ·subst ey
  obtain ⟨z,hd,vs,rel,dd⟩:=gz I.hok e
  obtain ⟨w',hw,rw'⟩:=RelO.some_of (v:=v) (o:=valueAt vs k) (by rw [l]; exact rel.val k)
  exact wpAny_getItem_of (fK ry) dd.mapOf hw (h w' _ (I.tok _) rw')
 ·subst ey
  cases (show u=Value.ref b from ry)
  obtain ⟨z,hd,xs,rel,dd⟩:=jl I.hok e
  obtain ⟨w',hw,rw'⟩:=RelO.some_of (v:=v) (o:=(atKey xs k).map (·.2)) (by rw [l]; exact rel.val k)
  obtain ⟨p,hp,hp2⟩:=Option.map_eq_some_iff.mp hw
  refine wpAny_getItem_heap (tupleKind_room_in1 hu) (fL I.hok eb) dd hp ?_
  rw [hp2]
  exact h w' _ (I.tok _) rw'
theorem d_in (hu:A.units+1 < cLine)(I:Inv X pins σ H s)(g:DGet H a y o)(ry:RelV y u)(h:∀ s',Inv X pins σ H s'->Q (.bool o.isSome) s') :
  wpAny (model X.prog X.w) A (compareOp .In u (.ref a)) Q E s:=by
 rcases g with ⟨kvs,k,e,ey,l⟩ | ⟨kvs,k,b,e,ey,eb,l⟩
 ·subst ey
  obtain ⟨z,hd,vs,rel,dd⟩:=gz I.hok e
  refine wpAny_in_of (fK ry) hd dd.mapOf ?_
  rw [← (rel.val k).isSome_eq,← l]
  exact h _ (I.tok _)
 ·subst ey
  cases (show u=Value.ref b from ry)
  obtain ⟨z,hd,xs,rel,dd⟩:=jl I.hok e
  refine wpAny_in_heap (tupleKind_room_in1 hu) (fL I.hok eb) hd dd ?_
  have q:=(rel.val k).isSome_eq
  rw [Option.isSome_map] at q
  rw [← q,← l]
  exact h _ (I.tok _)
theorem yr (hu:A.units+1 < cLine)(I:Inv X pins σ H s)(g:DGet H a y o)(ry:RelV y u)(h:∀ s',Inv X pins σ H s'->Q (.bool (!o.isSome)) s') :
  wpAny (model X.prog X.w) A (compareOp .NotIn u (.ref a)) Q E s:=by
 rcases g with ⟨kvs,k,e,ey,l⟩ | ⟨kvs,k,b,e,ey,eb,l⟩
 ·subst ey
  obtain ⟨z,hd,vs,rel,dd⟩:=gz I.hok e
  refine wpAny_notIn_of (fK ry) hd dd.mapOf ?_
  rw [← (rel.val k).isSome_eq,← l]
  exact h _ (I.tok _)
 ·subst ey
  cases (show u=Value.ref b from ry)
  obtain ⟨z,hd,xs,rel,dd⟩:=jl I.hok e
  refine wpAny_notIn_heap (tupleKind_room_in1 hu) (fL I.hok eb) hd dd ?_
  have q:=(rel.val k).isSome_eq
  rw [Option.isSome_map] at q
  rw [← q,← l]
  exact h _ (I.tok _)
theorem fM {ob:HO}(I:Inv X pins σ H s)(mu:Mut (H a))(hs:Heap.SameBut a s.heap h')(he:∃ q,h'.get? a=some q)(new:ObjOk X.prog X.w (upd H a ob) h' a ob) :
  Inv X pins σ (upd H a ob) { s with heap:=h',toks:=t' } :=
 I.write (x:=a) (e:=a) mu (.inl rfl) (fun b q hb z=>(hs.2 b hb).trans z) he new
theorem gO {kvs:List (Key×V)}{vs:List (Key×Value)}(z:kvs.length<=sizeLine)(hd:(a == sysModules)=false)(rel:KV kvs vs)(dd:h'.DictOf (ai P w) a vs) :
  ObjOk P w H' h' a (.dK kvs):=⟨z,hd,vs,rel,dd⟩
theorem oG {Q:Unit->Shared->Prop}(hu:A.units+1 < cLine)(I:Inv X pins σ H s)(g:I9 H a y v H')(ry:RelV y u)(rv:RelV v r)(h:∀ s',Inv X pins σ H' s'->Q () s') :
  wpAny (model X.prog X.w) A (setItem (.ref a) u r) Q E s:=by
 rcases g with ⟨kvs,k,e,ey,l,eH⟩ | ⟨kvs,k,b,e,ey,eb,l,eH⟩
 ·subst ey eH
  obtain ⟨z,hd,vs,rel,dd⟩:=sU I.hok e
  have hz:vs.length<=sizeLine:=by rw [← rel.length]; exact z
  have hl:(gu kvs k v).length<=sizeLine:=by have:=dA kvs k v; nofun
  refine wpAny_setItem_pairs (hsz:=hz) (fK ry) dd fun h' dd' hs=>h _ ?_
  have he:∃ q,h'.get? a=some q:=let ⟨q,_,_,hq,_⟩:=dd'; ⟨q,hq⟩
  exact fM I (by rw [e]; exact True.intro) hs he (gO hl hd (rel.put k rv) dd')
 ·subst ey eH
  cases (show u=Value.ref b from ry)
  obtain ⟨z,hd,xs,rel,dd⟩:=Hz I.hok e
  have hz:xs.length<=sizeLine:=by rw [← aa1 rel]; exact z
  have hl:(gu kvs k v).length<=sizeLine:=by have:=dA kvs k v; nofun
  refine wpAny_setItem_heap (hsz:=hz) (tupleKind_room_in1 hu) (fL I.hok eb) dd fun h' dd' hs=>h _ ?_
  obtain ⟨q,es,ep,hq,h2,h3,h4,_,h5⟩:=dd'
  refine fM I (by rw [e]; exact True.intro) hs ⟨q,hq⟩ ⟨hl,hd,_,(rel.put k eb rv).keeps fun c ys ec=>?_,q,es,ep,hq,h2,h3,h4,h5⟩
  rw [ae (G7 ec e (fun z=>nomatch z))]
  exact ec
end
section
variable       {kvs:List (Key×V)}    
theorem Dl {Q:Unit->Shared->Prop}(I:Inv X pins σ H s)(e:H a=some (.dK kvs))(ry:RelV (kV k) u)(l:(eM kvs k).isSome=true)(h:∀ s',Inv X pins σ (upd H a (.dK (gy kvs k))) s'->Q () s') :
  wpAny (model X.prog X.w) A (delItem (.ref a) u) Q E s:=by
 obtain ⟨z,hd,vs,rel,dd⟩:=sU I.hok e
 refine wpAny_delItem_slot dd.typeIs (by decide) PySem.F.slot_dict_delitem
  (call_meetsIn PySem.F.slot_dict_delitem dd.typeIs PySem.F.entry_dict_delitem (PySem.F.args_dict_delitem_2 _ _) (meets_dict_delitem_pairs (ai X.prog X.w) a (fK ry)) ⟨vs,dd,by rw [← rel.length]; exact z,by rw [← (rel.val k).isSome_eq]; exact l,fun h' dd' hs=>h _ ?_⟩)
 have he:∃ q,h'.get? a=some q:=let ⟨q,_,_,hq,_⟩:=dd'; ⟨q,hq⟩
 exact fM I (by rw [e]; exact True.intro) hs he (gO (aav (la kvs k) z) hd (rel.drop k) dd')
theorem HA {v:V}{more:List Value}(I:Inv X pins σ H s)(e:H a=some (.dK kvs))(ry:RelV (kV k) u)(l:eM kvs k=some v)(hm:more=[]∨∃ x,more=[x])
  (h:∀ w' s',Inv X pins σ (upd H a (.dK (gy kvs k))) s'->RelV v w'->Q w' s'):wpAny (model X.prog X.w) A (call (.builtin "dict.pop") (.ref a::u::more)) Q E s:=by
 obtain ⟨z,hd,vs,rel,dd⟩:=sU I.hok e
 obtain ⟨w',hw,rw'⟩:=RelO.some_of (v:=v) (o:=valueAt vs k) (by rw [← l]; exact rel.val k)
 have hp:(keyPart u).isSome=true:=by
  cases k with
  | inl i=>obtain ⟨t,q⟩:=(show ∃ t,u=Value.int i t from ry); subst q; rfl
  | inr x=>obtain ⟨t,q⟩:=(show ∃ t,u=Value.str x t from ry); subst q; rfl
 have ha:argsOk "dict.pop" ⟨.ref a::u::more,[]⟩:=by
  rcases hm with q | ⟨x,q⟩
  ·subst q; exact PySem.F.args_dict_pop_2 _ _
  ·subst q; exact PySem.F.args_dict_pop_3 _ _ _
 refine call_meetsIn PySem.F.slot_dict_pop dd.typeIs PySem.F.entry_dict_pop ha (meets_dict_pop_there (ai X.prog X.w) a (fK ry) more hm hp)
  ⟨vs,w',dd,by rw [← rel.length]; exact z,hw,fun h' dd' hs=>h w' _ ?_ rw'⟩
 have he:∃ q,h'.get? a=some q:=let ⟨q,_,_,hq,_⟩:=dd'; ⟨q,hq⟩
 exact fM I (by rw [e]; exact True.intro) hs he (gO (aav (la kvs k) z) hd (rel.drop k) dd')
theorem HB (I:Inv X pins σ H s)(e:Rd H a (.dK kvs))(h:∀ t s',Inv X pins σ H s'->Q (.int kvs.length t) s'):wpAny (model X.prog X.w) A (call (.builtin "len") [.ref a]) Q E s:=by
 obtain ⟨z,hd,vs,rel,dd⟩:=gz I.hok e
 refine call_len_dict hd dd (by rw [← rel.length]; rw [sizeLine_eq] at z; nofun) ?_
 rw [← rel.length]
 exact h _ _ (I.tok _)
end
theorem kz (I:Inv X pins σ H s)(g:DGet H a y o):s.TypeIs (.ref a) "dict" := by
 rcases g with ⟨kvs,k,e,_,_⟩ | ⟨kvs,k,b,e,_,_,_⟩
 ·obtain ⟨_,_,vs,_,dd⟩:=gz I.hok e
  exact dd.typeIs
 ·obtain ⟨_,_,xs,_,dd⟩:=jl I.hok e
  exact dd.typeIs
def sV (td ty tv:TE):TS:=fun D σ H=>tv σ H fun v H1=>td σ H1 fun x H2=>ty σ H2 fun y H3=>∃ a H4,x=.ref a/\I9 H3 a y v H4/\D.nx σ H4
section
variable  {o i value:Expr} {pos' tpos:Pos} 
theorem yt (hu:X.A.units+1 < cLine)(ho:PE X o td)(hi:PE X i ty)(hv:PE X value tv)(hs:swapsWith value (some (.Subscript o i pos')) pos.line X.env=pure false) :
  PS X (.Assign [.Subscript o i pos'] value pos) (sV td ty tv):=by
 intro pins s σ H D I h
 refine wpAny_Assign_Subscript (thn (hv pins s σ H _ I h) fun r s1 ⟨v,H1,I1,rv,q1⟩=>thn (ho pins s1 σ H1 _ I1 q1) fun u s2 ⟨x,H2,I2,rx,q2⟩=>thn (hi pins s2 σ H2 _ I2 q2) fun iv s3 ⟨y,H3,I3,ry,a,H4,ex,g,q3⟩=>?_) hs
 subst ex
 obtain rfl:u=Value.ref a:=rx
 exact oG hu I3 g ry rv fun s4 I4=>⟨σ,H4,I4,q3⟩
end
theorem lb (h:Heap)(hb:sysModules < h.objs.size):ObjOk P w H (h.push { cls:=.type "dict", data:=.dict #[] }) h.objs.size (.dK []) :=
 ⟨aaq _,beq_eq_false_iff_ne.mpr (abu (aah hb)),[],.nil,Heap.DictOf.new h⟩
theorem sW (h:Heap)(hb:sysModules < h.objs.size):ObjOk P w H (h.push { cls:=.type "dict", data:=.dict #[] }) h.objs.size (.dT []) :=
 ⟨aaq _,beq_eq_false_iff_ne.mpr (abu (aah hb)),[],.nil,_,#[],0,Heap.get?_push_size _ rfl,⟨rfl,rfl,rfl⟩,rfl,rfl,aaB⟩
def oH:TE:=fun _ H Q=>∀ p,H p=none->Q (.ref p) (upd H p (.dK []))
def oI:TE:=fun _ H Q=>∀ p,H p=none->Q (.ref p) (upd H p (.dT []))
theorem sX:PE X (.Dict [] [] pos) oH:=fun pins s σ H Q I h =>
 wpAny_Dict_empty ⟨.ref s.heap.objs.size,_,I.laid (a:=s.heap.objs.size) (o:=.dK []) (t':=s.toks) (fun _ _ q=>Heap.get?_push_of_some _ q) (aae _) (lb s.heap I.big),rfl,h _ (I.hok.fresh (aae _))⟩
theorem sY:PE X (.Dict [] [] pos) oI:=fun pins s σ H Q I h =>
 wpAny_Dict_empty ⟨.ref s.heap.objs.size,_,I.laid (a:=s.heap.objs.size) (o:=.dT []) (t':=s.toks) (fun _ _ q=>Heap.get?_push_of_some _ q) (aae _) (sW s.heap I.big),rfl,h _ (I.hok.fresh (aae _))⟩
def oJ:List (TE×TE)->St->Hp->(List (V×V)->Hp->Prop)->Prop
 | [],_,H,Q=>Q [] H
 | (tk,tv)::r,σ,H,Q=>tk σ H fun x H1=>tv σ H1 fun y H2=>oJ r σ H2 fun ps H3=>Q ((x,y)::ps) H3
abbrev VV:List (V×V)->List (Value×Value)->Prop:=Paired fun p q=>RelV p.1 q.1/\RelV p.2 q.2
def PPs (X:Cx)(pos:Pos)(keys:List (Option Expr))(values:List Expr)(trs:List (TE×TE)):Prop :=
 ∀ (pins:List (Addr×Obj)) (s:Shared) (σ:St) (H:Hp) (Q:List (V×V)->Hp->Prop),Inv X pins σ H s->oJ trs σ H Q ->
  wpAny (model X.prog X.w) X.A (evalPairs (pairTrees keys values X.env pos)) (fun vs s'=>∃ ps H',Inv X pins σ H' s'/\VV ps vs/\Q ps H') X.xe s
theorem yu :PPs X pos [] [] []:=fun pins s σ H Q I h=>pairTrees_nil_walk ⟨[],H,I,.nil,h⟩
theorem sZ {k v:Expr}{ks:List (Option Expr)}{vs:List Expr}{tk:TE}(hk:PE X k tk)(hv:PE X v tv)(hr:PPs X pos ks vs trs) :
  PPs X pos (some k::ks) (v::vs) ((tk,tv)::trs):=fun pins s σ H Q I h =>
 pairTrees_cons_walk (thn (hk pins s σ H _ I h) fun u s1 ⟨x,H1,I1,rx,q1⟩=>thn (hv pins s1 σ H1 _ I1 q1) fun w2 s2 ⟨y,H2,I2,ry,q2⟩ =>
  thn (hr pins s2 σ H2 _ I2 q2) fun ws s3 ⟨ps,H3,I3,rel,q3⟩=>⟨(x,y)::ps,H3,I3,.cons ⟨rx,ry⟩ rel,q3⟩)
def jm (kvs more:List (Key×V)):List (Key×V):=more.foldl (fun acc kv=>gu acc kv.1 kv.2) kvs
theorem KV.merge:∀ {more:List (Key×V)} {rs:List (Key×Value)} {kvs:List (Key×V)} {vs:List (Key×Value)},KV more rs->KV kvs vs->KV (jm kvs more) (merged vs rs):=by
 intro more rs kvs vs r
 unfold KV at r
 induction r generalizing kvs vs with
 | nil=>intro q; exact q
 | @cons p q ps qs h t ih =>
  intro r0
  have e:KV (gu kvs p.1 p.2) (stored vs q.1 q.2):=by
   have:=r0.put p.1 h.2
   rw [← h.1]; exact this
  exact ih e
theorem dI:∀ (more kvs:List (Key×V)),(jm kvs more).length<=kvs.length+more.length
 | [],kvs=>by show kvs.length<=kvs.length+0; nofun
 | p::r,kvs=>by
  have h1:=dI r (gu kvs p.1 p.2)
  have h2:=dA kvs p.1 p.2
  show (jm (gu kvs p.1 p.2) r).length<=_
  rw [List.length_cons]; nofun
theorem gP {P:Program}{w:World}:∀ {kvs:List (Key×V)} {ws:List (Value×Value)},VV (kvs.map fun kv=>(kV kv.1,kv.2)) ws->∃ rs,Carries (ai P w) ws rs/\KV kvs rs
 | [],_,r=>by rw [List.map_nil] at r; cases r; exact ⟨[],True.intro,.nil⟩
 | p::kvs,_,r=>by
  rw [List.map_cons] at r
  cases r with
  | @cons a b as bs h t =>
   obtain ⟨rs,c,q⟩:=gP (P:=P) (w:=w) t
   obtain ⟨b1,b2⟩:=b
   exact ⟨(p.1,b2)::rs,⟨fK h.1,rfl,c⟩,.cons ⟨rfl,h.2⟩ q⟩
def yv (trs:List (TE×TE)):TE:=fun σ H Q=>∀ p,H p=none->oJ trs σ (upd H p (.dK [])) fun ps H2=>H2 p=some (.dK [])/\∃ kvs:List (Key×V),ps=kvs.map (fun kv=>(kV kv.1,kv.2))/\kvs.length<=15/\Q (.ref p) (upd H2 p (.dK (jm [] kvs)))
theorem yw {keys:List (Option Expr)}{values:List Expr}(h:PPs X pos keys values trs)(hall:keys.all (·.isSome)=true)(hl:keys.length=values.length)(h0:keys≠[])
  (h15:keys.length<=15):PE X (.Dict keys values pos) (yv trs):=by
 intro pins s σ H Q I q
 have hn:=I.hok.fresh (aae s.heap.objs.size)
 have I1:=I.laid (a:=s.heap.objs.size) (o:=.dK []) (h':=s.heap.push { cls:=.type "dict", data:=.dict #[] }) (t':=s.toks) (fun _ _ q=>Heap.get?_push_of_some _ q) (aae _) (lb s.heap I.big)
 refine wpAny_Dict_walk (knd:=ai X.prog X.w) hall hl h0 h15 (thn (h pins _ σ _ _ I1 (q _ hn)) fun ws s2 ⟨ps,H2,I2,rel,e,kvs,ep,lk,q2⟩=>?_)
 subst ep
 obtain ⟨rs,c,rk⟩:=gP (P:=X.prog) (w:=X.w) rel
 obtain ⟨z,hd,vs0,r0,dd⟩:=sU I2.hok e
 cases r0
 refine ⟨rs,c,dd,fun h' dd' hs=>⟨.ref s.heap.objs.size,_,?_,rfl,q2⟩⟩
 have hz:(jm [] kvs).length<=sizeLine:=by
  have h1:=dI kvs []
  rw [List.length_nil] at h1
  rw [sizeLine_eq]; nofun
 have he:∃ q,h'.get? s.heap.objs.size=some q:=let ⟨q,_,_,hq,_⟩:=dd'; ⟨q,hq⟩
 exact fM I2 (by rw [e]; exact True.intro) hs he (gO hz hd (rk.merge .nil) dd')
structure M1 (X:Cx)(o:Expr)(m:Str)(apos:Pos)(e:Expr)(cpos:Pos):Prop where
 base:attributeBase o m X.env (eval o X.env)=eval o X.env
 few:((backTo cpos (starEach [e] X.env)).all (fun x=>!x.1) && (backToKw cpos (keywordEach [] X.env)).all (fun x=>x.1.isSome)
  && decide (([e]:List Expr).length+([]:List Keyword).length+(if ([]:List Keyword).isEmpty then 0 else 1) < 30))=true
 line:(apos.endLine == cpos.line)=true
 trees:backTo cpos (starEach [e] X.env)=[(false,eval e X.env)]
structure M2 (X:Cx)(o:Expr)(m:Str)(apos:Pos)(e f:Expr)(cpos:Pos):Prop where
 base:attributeBase o m X.env (eval o X.env)=eval o X.env
 few:((backTo cpos (starEach [e,f] X.env)).all (fun x=>!x.1) && (backToKw cpos (keywordEach [] X.env)).all (fun x=>x.1.isSome)
  && decide (([e,f]:List Expr).length+([]:List Keyword).length+(if ([]:List Keyword).isEmpty then 0 else 1) < 30))=true
 line:(apos.endLine == cpos.line)=true
 trees:backTo cpos (starEach [e,f] X.env)=[(false,eval e X.env),(false,eval f X.env)]
def IsD (H:Hp)(a:Addr):Prop:=(∃ kvs,Rd H a (.dK kvs))∨∃ kvs,Rd H a (.dT kvs)
theorem lc (I:Inv X pins σ H s)(d:IsD H a) :
  s.TypeIs (.ref a) "dict" /\ (∀ b,Value.ref a=.ref b->∃ ob,s.heap.get? b=some ob/\ob.dict=none)/\(a == sysModules)=false:=by
 rcases d with ⟨kvs,e⟩ | ⟨kvs,e⟩
 ·obtain ⟨_,hd,vs,_,dd⟩:=gz I.hok e
  refine ⟨dd.typeIs,fun b q=>?_,hd⟩
  cases q
  obtain ⟨ob,_,_,h1,h2,_⟩:=dd
  exact ⟨ob,h1,h2.2.1⟩
 ·obtain ⟨_,hd,xs,_,dd⟩:=jl I.hok e
  refine ⟨dd.typeIs,fun b q=>?_,hd⟩
  cases q
  obtain ⟨ob,_,_,h1,h2,_⟩:=dd
  exact ⟨ob,h1,h2.2.1⟩
section
variable        {r:Value}   
theorem Dm (hu:A.units+1 < cLine)(I:Inv X pins σ H s)(g:DGet H a y o)(ry:RelV y u)(h:∀ w' s',Inv X pins σ H s'->RelV (o.getD .non) w'->Q w' s') :
  wpAny (model X.prog X.w) A (call (.builtin "dict.get") [.ref a,u]) Q E s:=by
 rcases g with ⟨kvs,k,e,ey,l⟩ | ⟨kvs,k,b,e,ey,eb,l⟩
 ·subst ey
  obtain ⟨z,hd,vs,rel,dd⟩:=gz I.hok e
  refine call_meetsIn aaX dd.typeIs abp (PySem.F.args_dict_get_2 _ _) (meets_dict_get (ai X.prog X.w) a (fK ry) hd) ⟨_,dd.mapOf,h _ _ (I.tok _) ?_⟩
  rw [l]
  exact (rel.val k).getD rfl
 ·subst ey
  cases (show u=Value.ref b from ry)
  obtain ⟨z,hd,xs,rel,dd⟩:=jl I.hok e
  refine call_meetsIn aaX dd.typeIs abp (PySem.F.args_dict_get_2 _ _) (meetsH_dict_get (tupleKind (ai X.prog X.w)) a b hd) ⟨tupleKind_room_in1 hu,k,xs,fL I.hok eb,dd,h _ _ (I.tok _) ?_⟩
  rw [l]
  exact (rel.val k).getD rfl
theorem Dn (hu:A.units+1 < cLine)(I:Inv X pins σ H s)(g:DGet H a y o)(ry:RelV y u)(rd:RelV d r)(h:∀ w' s',Inv X pins σ H s'->RelV (o.getD d) w'->Q w' s') :
  wpAny (model X.prog X.w) A (call (.builtin "dict.get") [.ref a,u,r]) Q E s:=by
 rcases g with ⟨kvs,k,e,ey,l⟩ | ⟨kvs,k,b,e,ey,eb,l⟩
 ·subst ey
  obtain ⟨z,hd,vs,rel,dd⟩:=gz I.hok e
  refine call_meetsIn aaX dd.typeIs abp (PySem.F.args_dict_get_3 _ _ _) (meets_dict_get_default (ai X.prog X.w) a (fK ry) hd r) ⟨_,dd.mapOf,h _ _ (I.tok _) ?_⟩
  rw [l]
  exact (rel.val k).getD rd
 ·subst ey
  cases (show u=Value.ref b from ry)
  obtain ⟨z,hd,xs,rel,dd⟩:=jl I.hok e
  refine call_meetsIn aaX dd.typeIs abp (PySem.F.args_dict_get_3 _ _ _) (meetsH_dict_get_default (tupleKind (ai X.prog X.w)) a b hd r) ⟨tupleKind_room_in1 hu,k,xs,fL I.hok eb,dd,h _ _ (I.tok _) ?_⟩
  rw [l]
  exact (rel.val k).getD rd
end
def oK (td ty:TE):TE:=fun σ H Q=>td σ H fun x H1=>∃ a,x=.ref a/\IsD H1 a/\ty σ H1 fun y H2=>∃ o,DGet H2 a y o/\Q (o.getD .non) H2
def oM (td ty tx:TE):TE:=fun σ H Q=>td σ H fun x H1=>∃ a,x=.ref a/\IsD H1 a/\ty σ H1 fun y H2=>tx σ H2 fun z H3=>∃ o,DGet H3 a y o/\Q (o.getD z) H3
def ld (td ty:TE):TE:=fun σ H Q=>td σ H fun x H1=>∃ a,x=.ref a/\IsD H1 a/\ty σ H1 fun y H2=>∃ kvs k v,H2 a=some (.dK kvs)/\y=kV k/\eM kvs k=some v/\Q v (upd H2 a (.dK (gy kvs k)))
section
variable  {o f:Expr}  {tx:TE}
theorem tf (hu:X.A.units+1 < cLine) (ho:PE X o td) (he:PE X e ty) (m:M1 X o "get" apos e cpos):PE X (.Call (.Attribute o "get" apos) [e] [] cpos) (oK td ty):=by
 intro pins s σ H Q I h
 refine wpAny_Call_method m.base m.few m.line abl aaX PySem.F.type_dict_get (thn (ho pins s σ H _ I h) fun u s1 ⟨x,H1,I1,rx,a,ex,d,q1⟩=>?_)
 subst ex
 obtain rfl:u=Value.ref a:=rx
 obtain ⟨t1,t2,_⟩:=lc I1 d
 refine ⟨t1,t2,?_⟩
 rw [m.trees]
 refine aaW rfl (aby (abn (thn (he pins s1 σ H1 _ I1 q1) fun iv s2 ⟨y,H2,I2,ry,ov,g,q2⟩=>Calls.spliced_nil ?_)))
 exact Dm hu I2 g ry fun w' s3 I3 rw'=>⟨_,H2,I3,rw',q2⟩
theorem tj (hu:X.A.units+1 < cLine) (ho:PE X o td) (he:PE X e ty) (hf:PE X f tx) (m:M2 X o "get" apos e f cpos):PE X (.Call (.Attribute o "get" apos) [e,f] [] cpos) (oM td ty tx):=by
 intro pins s σ H Q I h
 refine wpAny_Call_method m.base m.few m.line abl aaX PySem.F.type_dict_get (thn (ho pins s σ H _ I h) fun u s1 ⟨x,H1,I1,rx,a,ex,d,q1⟩=>?_)
 subst ex
 obtain rfl:u=Value.ref a:=rx
 obtain ⟨t1,t2,_⟩:=lc I1 d
 refine ⟨t1,t2,?_⟩
 rw [m.trees]
 refine aaW rfl (aby (abn (thn (he pins s1 σ H1 _ I1 q1) fun iv s2 ⟨y,H2,I2,ry,q2⟩ =>
  abn (thn (hf pins s2 σ H2 _ I2 q2) fun fv s3 ⟨z,H3,I3,rz,ov,g,q3⟩=>Calls.spliced_nil ?_))))
 exact Dn hu I3 g ry rz fun w' s4 I4 rw'=>⟨_,H3,I4,rw',q3⟩
theorem tm (ho:PE X o td) (he:PE X e ty) (m:M1 X o "pop" apos e cpos):PE X (.Call (.Attribute o "pop" apos) [e] [] cpos) (ld td ty):=by
 intro pins s σ H Q I h
 refine wpAny_Call_method m.base m.few m.line abl PySem.F.slot_dict_pop PySem.F.type_dict_pop (thn (ho pins s σ H _ I h) fun u s1 ⟨x,H1,I1,rx,a,ex,d,q1⟩=>?_)
 subst ex
 obtain rfl:u=Value.ref a:=rx
 obtain ⟨t1,t2,_⟩:=lc I1 d
 refine ⟨t1,t2,?_⟩
 rw [m.trees]
 refine aaW rfl (aby (abn (thn (he pins s1 σ H1 _ I1 q1) fun iv s2 ⟨y,H2,I2,ry,kvs,k,v,ea,ey,l,q2⟩=>Calls.spliced_nil ?_)))
 subst ey
 exact HA I2 ea ry l (.inl rfl) fun w' s3 I3 rw'=>⟨v,_,I3,rw',q2⟩
end
section
variable       {kvs:List (Key×V)}  
theorem tp (I:Inv X pins σ H s)(e:Rd H a (.dK kvs))(h:∀ p s',H p=none->Inv X pins σ (upd H p (.dK kvs)) s'->Q (.ref p) s'):wpAny (model X.prog X.w) A (call (.type "dict") [.ref a]) Q E s:=by
 obtain ⟨z,hd,vs,rel,dd⟩:=gz I.hok e
 refine kt_call_dict hd dd (by rw [← rel.length]; exact z) fun h' dd' hs=>?_
 refine h _ _ (I.hok.fresh (aae _)) (I.laid (a:=s.heap.objs.size) (o:=.dK kvs) (t':=s.toks) (fun b q hq=>?_) (aae _) (gO z (beq_eq_false_iff_ne.mpr (abu (aah I.big))) rel dd'))
 exact (hs.2 b (aah (aaf hq))).trans (Heap.get?_push_of_some _ hq)
end
end L2
namespace Att
open PySem PySem.W PySem.Calls PyProof.Rows
variable{P:Params}{h:Heap}{n:Nat}
theorem fN :∀ (ns:List Int) (vs:List Value),WellAll P h vs (ns.map WData.int)->IntsAre vs ns:=by
 intro ns
 induction ns with
 | nil =>
  intro vs w
  rw [List.map_nil] at w
  cases w
  exact .nil
 | cons n ns ih =>
  intro vs w
  rw [List.map_cons] at w
  cases w with
  | cons a b =>
   cases a
   exact .cons _ _ (ih _ b)
theorem oN {l:OpenLaw}(hn:l.most=some n){args:List WData}{vals:List Value}
  (hpre:l.row.toRowW.claim.pre args=true) (hwl:WellAll P h vals args) :
  ∃ a vs ns,vals=[Value.ref a]/\args=[WData.list (ns.map WData.int)]/\h.get? a=some { cls:=.type "list", data:=.seq vs.toArray }/\IntsAre vs ns/\ns.length<=n:=by
 have hsh:WShape.hasAll [] args [.list .int]=true:=(pre_splitW hpre).1
 have hc:l.pre.holds [] { args:=args }=true:=(pre_splitW hpre).2
 obtain ⟨d,r,rfl,h1,h2⟩:=hasAllW_cons hsh
 obtain rfl:=hasAllW_nil h2
 obtain ⟨xs,rfl,h3⟩:=hasW_list h1
 obtain ⟨ns,rfl⟩:=items_int h3
 have hlen:ns.length<=n:=by
  unfold OpenLaw.pre at hc
  have h4:(WTm.not (.lt (.lit (.int (n:Int))) (.len (.arg 0)))).holds [] { args:=[.list (ns.map .int)] }=true:=by
   have h4:=(holds_andW hc).1
   rw [hn] at h4
   exact h4
  have h5:=condW_of h4 (w_not (w_lt w_lit (w_len_list (w_arg rfl))))
  rw [List.length_map] at h5
  refine Nat.le_of_not_lt fun q=>?_
  have q':(n:Int) < ((ns.length:Nat):Int):=by nofun
  first
   | (rw [decide_eq_true q'] at h5; exact absurd h5 (by decide))
   | (simp at h5; nofun)
 cases hwl with
 | cons w1 w2 =>
  cases w2
  cases w1 with
  | list ho hall=>exact ⟨_,_,ns,rfl,rfl,ho,fN ns _ hall,hlen⟩
theorem oO (l:OpenLaw)(args:List WData):l.row.toRowW.claim.post args (.bool true) args=true :=
 postW_of (r:=l.row.toRowW) (X:=(true == true))
  (show WShape.has [] (.bool true) .bool=true by first | rfl | decide | simp [WShape.has,WShape.arms,WShape.armsAll])
  (show (WTm.eq .res (.lit (.bool true))).value [] { args:=args,res:=some (.bool true),after:=args }=some (.bool (true == true)) from w_eq_bool (w_res rfl) w_lit) rfl
theorem attach_call {l:OpenLaw}{q:Program}{loose:List Str}{XP:(Str->Option Value)->Heap->Prop}{YP:World->Heap->Prop}{d:DefRec}
  (hn:l.most=some n) (hdf:d.params.defaults=[])
  (call:∀ (w:World) (s₀ s₁:Shared) (mg mb:Str->Option Value) (fa:Addr) (o:Obj) (pm cd doc:Value) (a:Addr) (vs:List Value) (ns:List Int),
   Ground q loose [] XP w s₀ mg mb s₁.heap->YP w s₁.heap ->
   s₁.heap.get? fa=some o->o.data=.func (docDef d.name d.params d.body d.scope pm cd doc)->s₁.heap.CodeRec cd d.name->mg d.name=some (.ref fa) ->
   s₁.heap.get? a=some { cls:=.type "list", data:=.seq vs.toArray }->IntsAre vs ns->ns.length<=n->s₁.gens=#[] ->
   codeAny (model l.prog w) callerA (.call (.ref fa) ⟨[.ref a],[]⟩) (fun r s'=>r=.ok (.ret (.bool true))/\OldK s₁.heap s'.heap/\s'.os=s₁.os/\AllBare s'.gens) s₁) :
  WalkO q loose XP YP l.row.toRowW d [] (fun f vs=>PySem.call f vs):=by
 intro w s₀ s₁ mg mb G Y fa o pm cd doc dV kV ho hd hcd hD hmg hg args vals as hpre hlay hrd hwl hlo
 obtain rfl:dV=.none:=Dflts.none hD hdf
 obtain rfl:kV=.none:=Dflts.noKw hD
 obtain ⟨a,vs,ns,rfl,rfl,hobj,hints,hlen⟩:=oN hn hpre hwl
 refine enter_call (codeAny_mono (call w s₀ s₁ mg mb fa o pm cd doc a vs ns G Y ho (fd_plain hd) hcd hmg hobj hints hlen hg) fun r s' hq=>?_)
 obtain ⟨rfl,h2,h3,h4⟩:=hq
 exact ⟨.inl ⟨.bool true,.bool true,[],rfl,fun _=>rfl,.bool true,oO l _,fun _=>⟨List.Pairwise.nil,fun _ hm=>(nomatch hm)⟩⟩,h2,h3,h4⟩
section
variable {prog:Program} {w:World} {A:Around} {E:Value->Shared->Prop} {s:Shared} {K:Frag}
def oP (h:Heap):Heap:={ h with objs:=#[] }
theorem noObjs_get (h:Heap)(b:Addr):(oP h).get? b=none:=by
 cases e:(oP h).get? b with
 | none=>rfl
 | some o=>exact absurd (aaf e) (Nat.not_lt_zero _)
theorem fr_all {L:Addr}{m:Str->Option Value}(n:h.Ns L m):Fr (oP h) L h m :=
 ⟨n,fun b o e=>(by rw [noObjs_get] at e; cases e),aaq _⟩
end
end Att
namespace L2
open PySem PySem.Spec PyProof.Rows
variable{P:Program}{w:World}{mg:Str->Option Value}{k:Nat}{a f p:Addr}{fd:FuncData}{x qual y:Str}{sp:Sp}{X:Cx}{st:Stmt}{ps T F:List Str}{A:Around}{H H':Hp}{xs:List V}{E:Value->Shared->Prop}{s:Shared}{elt iter tg:Expr}{ifs:List Expr}{scope:Scope}{pos:Pos}{env:Env}{pins:List (Addr×Obj)}{σ:St}{ixs:List Nat}{v:V}{wi:TI}{g:TG}{tc:TT}{te:TE}{Q:VK}
theorem jn:∀ {vs:List Value} {ns:List Int},IntsAre vs ns->Vals (ns.map V.int) vs
 | _,_,.nil=>.nil
 | _,_,.cons n t h=>.cons ⟨t,rfl⟩ (jn h)
def HC (H:Hp):Prop:=∀ b,H b=none∨∃ o xs,H b=some (.frz o (.lst xs))
theorem tq {K:Frag}{mb:Str->Option Value}{CX:CXT}{fa:Addr}{s₁:Shared}{vs:List Value}{ns:List Int}
  (KX:K.In s₁.heap) (hns:s₁.heap.Ns mainGlobals mg) (hb:s₁.heap.Ns builtinsNs mb) (hbb:∀ x:Str,x ≠ "__name__" -> mb x=bootBuiltins x) (hlim:s₁.heap.NoLimit) (hg:s₁.gens=#[])
  (ha:s₁.heap.get? a=some { cls:=.type "list", data:=.seq vs.toArray }) (hi:IntsAre vs ns) (hl:ns.length<=sizeLine) (hr:Room k callerA)
  (F:∀ base:Heap,K.In base->base.Ns mainGlobals mg->FnOk P w K mg base CX k fa fd [x] sp) (hbind:∀ (s:Shared) (u:Value),BindsTo s fd ⟨[u],[]⟩ [(x,u)])
  (hsp:∀ H:Hp,HC H->SqL K H a (ns.map V.int)->sp [.ref a] H (fun v _=>v=.bl true) fun _ _ _=>False)
  (hCX:∀ H e s',CX [] H s₁ (fun _ _ _=>False) e s'->False) :
  codeAny (model P w) callerA (.call (.ref fa) ⟨[.ref a],[]⟩) (fun r s'=>r=.ok (.ret (.bool true))/\OldK s₁.heap s'.heap/\s'.os=s₁.os/\AllBare s'.gens) s₁:=by
 have rv:=jn hi
 have lenV:=hi.length
 -- from an abstract heap in which nothing but the script may be tracked
 have core:∀ H:Hp,HC H->SqL K H a (ns.map V.int)->HOk P w H s₁.heap->(∀ b,H b≠none->b=a)->(H a≠none->K.lookup a=none) ->
   codeAny (model P w) callerA (.call (.ref fa) ⟨[.ref a],[]⟩) (fun r s'=>r=.ok (.ret (.bool true))/\OldK s₁.heap s'.heap/\s'.os=s₁.os/\AllBare s'.gens) s₁:=by
  intro H hO hS hok hA hK
  have base_of:∀ {b:Addr} {o:Obj},s₁.heap.get? b=some o->H b=none->(sv s₁.heap H).get? b=some o:=fun e n=>sx e n
  have noA:∀ {b:Addr} {o:Obj} {es:Array DictEntry} {ep:Nat},s₁.heap.get? b=some o->o.data=.dict es ep->H b=none:=fun {b o es ep} e d=>by
   cases q:H b with
   | none=>rfl
   | some u =>
    have e':b=a:=hA b (by rw [q]; simp)
    subst e'
    rw [ha] at e; cases e
    have d':Data.seq vs.toArray _=Data.dict es ep:=d
    cases d'
  have nsK:∀ {b:Addr} {m:Str->Option Value},s₁.heap.Ns b m->(sv s₁.heap H).Ns b m:=fun {b m} ⟨o,es,ep,e,d,r⟩=>⟨o,es,ep,base_of e (noA e d),d,r⟩
  have hKb:K.In (sv s₁.heap H):=fun b o e=>base_of (KX b o e) (by
   cases q:H b with
   | none=>rfl
   | some u =>
    have e':b=a:=hA b (by rw [q]; simp)
    subst e'
    rw [hK (by rw [q]; simp)] at e; cases e)
  have hM:Mod K mg (sv s₁.heap H):=⟨hKb,nsK hns,⟨mb,nsK hb,hbb⟩,let ⟨mc,h1,h2⟩:=hlim; ⟨mc,nsK h1,h2⟩⟩
  have e0:Env0 P w K mg (sv s₁.heap H) callerA [] s₁ H:=⟨rfl,hM,fun b o e=>xI e,Nat.le_of_eq (nZ _ _),trivial,fun b hb=>absurd (show b ∈ ([]:List Addr) from hb) (by simp),hok,.of_eq hg⟩
  refine codeAny_mono ((F _ hKb (nsK hns)).run callerA [] s₁ H ⟨[.ref a],[]⟩ [.ref a] [.ref a] _ _ hr e0 (hbind s₁ (.ref a)) (.cons rfl .nil) (hsp H hO hS)) fun r s' h=>?_
  cases r with
  | error e=>exact (hCX H e s' h).elim
  | ok fl =>
   cases fl with
   | next=>exact False.elim h
   | brk=>exact False.elim h
   | cont=>exact False.elim h
   | ret u =>
    obtain ⟨v,H',os,bare,un,hok',r',q⟩:=h
    have q':v=.bl true:=q
    subst q'
    obtain rfl:u=Value.bool true:=r'
    refine ⟨rfl,OldK.of_keep fun b o e=>?_,os,bare⟩
    cases q:H b with
    | none=>exact un.keep b o e q (by intro z; exact absurd (show b ∈ ([]:List Addr) from z) (by simp)) (by simp)
    | some u =>
     rcases hO b with z | ⟨ob,xs,z⟩
     ·rw [q] at z; cases z
     ·have z2:=un.frzs b ob _ z
      obtain ⟨e1,_⟩:=hok b _ z
      obtain ⟨e2,_⟩:=hok' b _ z2
      rw [e] at e1; cases e1
      exact e2
 cases hk:K.lookup a with
 | some o =>
  -- the script is one of the module's own objects
  have e:=KX a o hk
  rw [ha] at e
  cases e
  refine core (fun _=>none) (fun _=>.inl rfl) (.inr ⟨_,vs.toArray,_,hk,rfl,rfl,rfl,by rw [List.size_toArray,lenV]; exact hl,(by exists rv)⟩) (fun b u z=>by have z':(none:Option HO)=some u:=z; cases z') (fun b z=>absurd rfl z) fun z=>absurd rfl z
 | none =>
  refine core (fun b=>if b=a then some (.frz { cls:=.type "list", data:=.seq vs.toArray } (.lst (ns.map V.int))) else none) (fun b=>?_) (.inl (.inr ⟨{ cls:=.type "list", data:=.seq vs.toArray },if_pos rfl⟩)) (fun b u z=>?_) (fun b z=>?_) fun _=>hk
  ·by_cases hb:b=a
   ·exact .inr ⟨_,_,if_pos hb⟩
   ·exact .inl (if_neg hb)
  ·by_cases hb:b=a
   ·have z':=(if_pos hb).symm.trans z
    cases z'
    subst hb
    exact ⟨ha,by rw [List.length_map]; exact hl,vs,_,rv,ha⟩
   ·have z':=(if_neg hb).symm.trans z
    cases z'
  ·by_cases hb:b=a
   ·exact hb
   ·exact absurd (if_neg hb) z
theorem walk_of {l:PySem.W.OpenLaw}{n:Nat}{q:Program}{loose:List Str}{XP:(Str->Option Value)->Heap->Prop}{YP:World->Heap->Prop}{d:DefRec}{K:Params->Frag}{CX:World->CXT}{sp:World->Sp}
  (hn:l.most=some n) (hn2:n<=sizeLine) (hdf:d.params.defaults=[]) (hr:Room k callerA)
  (hY:∀ (w:World) (h:Heap),YP w h->(K w.params).In h)
  (F:∀ (w:World) (mg:Str->Option Value) (fa:Addr) (h:Heap),(K w.params).In h->h.Ns mainGlobals mg->mg d.name=some (.ref fa) ->
   ∃ fd:FuncData,(∀ (s:Shared) (u:Value),BindsTo s fd ⟨[u],[]⟩ [(x,u)]) /\
    ∀ base:Heap,(K w.params).In base->base.Ns mainGlobals mg->FnOk l.prog w (K w.params) mg base (CX w) k fa fd [x] (sp w))
  (hsp:∀ (w:World) (H:Hp) (a:Addr) (ns:List Int),ns.length<=n->HC H->SqL (K w.params) H a (ns.map V.int)->sp w [.ref a] H (fun v _=>v=.bl true) fun _ _ _=>False)
  (hCX:∀ (w:World) (H:Hp) (s:Shared) (e:Value) (s':Shared),CX w [] H s (fun _ _ _=>False) e s'->False) :
  PySem.W.WalkO q loose XP YP l.row.toRowW d [] (fun f vs=>PySem.call f vs):=by
 refine Att.attach_call hn hdf fun w s₀ s₁ mg mb fa o pm cd doc a vs ns G Y ho hd hcd hmg hobj hints hlen hg=>?_
 have KX:=hY w _ Y
 obtain ⟨fd,hb,hF⟩:=F w mg fa _ KX G.T.g hmg
 exact tq KX G.T.g G.T.b G.T.builtins G.T.nolimit hg hobj hints (aav hlen hn2) hr hF hb (fun H hO hS=>hsp w H a ns hlen hO hS) fun H e s'=>hCX w H s₁ e s'
def b9 (s:Stmt):Arguments:=match s with
 | .FunctionDef _ a _ _ _ _ _ _ _ _=>a
 | _=>{ posonlyargs:=[],args:=[],vararg:=none,kwonlyargs:=[],kw_defaults:=[],kwarg:=none,defaults:=[] }
def bo (s:Stmt):List Stmt:=match s with
 | .FunctionDef _ _ b _ _ _ _ _ _ _=>b
 | _=>[]
def aj (s:Stmt):Scope:=match s with
 | .FunctionDef _ _ _ _ _ _ sc _ _ _=>sc
 | _=>{ kind:=.function,names:=[],isGenerator:=false,isCoroutine:=false }
abbrev CX0:CXT:=fun _ _ _ _ _ _=>False
abbrev E0:XK:=fun _ _ _=>False
theorem yx :gM CX0 X E0:=fun _ _ _ _ _ _ _ h=>h.elim
structure Fun (K:Frag)(x qual:Str)(st:Stmt)(f:Addr)(fd:FuncData):Prop where
 ex:∃ (oc:Value) (od:Option Addr) (kV doc pm:Value) (an:Option Addr) (cdv ct:Value) (osl:Array (Option Value)),
  fd=PySem.W.fnOf x qual (b9 st) (bo st) (aj st) .none kV doc pm an cdv ct/\K.lookup f=some ⟨oc,od,.func fd,osl⟩/\PySem.W.codeIn K cdv qual=true
 kp:PySem.W.keepIn K (.ref f)=true
section
variable   {K:Frag}  {base:Heap}
theorem Fun.ok {N:List Str}(F:Fun K x qual st f fd)(S:FnScope N ps (aj st))(len:∀ vs H Q E,sp vs H Q E->vs.length=ps.length)
  (hbody:∀ (cdv:Value) (A:Around) (outer:List Env) (s:Shared) (H:Hp) (vs:List V) (Q:VK) (E:XK),Room k (A.deeper (envOfC qual (aj st) s.heap.objs.size f cdv))->sp vs H Q E ->
   ∃ t,PSs (oz CX0 P w K mg base N qual (aj st) f cdv A outer s H E).nox (bo st) t/\t { nx:=fun _ H'=>Q .non H',rt:=Q } (start N vs) H):FnOk P w K mg base CX0 (k+1) f fd ps sp:=by
 obtain ⟨oc,od,kV,doc,pm,an,cdv,ct,osl,rfl,lk,hcd⟩:=F.ex
 refine Hv lk hcd S len fun A outer s H vs Q E hr hsp=>?_
 obtain ⟨t,h,q⟩:=hbody cdv A outer s H vs Q E hr hsp
 exact ⟨t,h.nox,q⟩
theorem Fun.binds (F:Fun K x qual st f fd)
  (h:∀ (kV doc pm:Value) (an:Option Addr) (cdv ct:Value) (us:List Value),us.length=ps.length->bindArgs (PySem.W.fnOf x qual (b9 st) (bo st) (aj st) .none kV doc pm an cdv ct) ⟨us,[]⟩=pure (ps.zip us)):Binds K fd ps []:=by
 obtain ⟨oc,od,kV,doc,pm,an,cdv,ct,osl,rfl,lk,hcd⟩:=F.ex
 exact .all (h kV doc pm an cdv ct)
theorem wH {oc:Value}{od an:Option Addr}{osl:Array (Option Value)}{kV doc pm cdv ct:Value}(l:K.lookup f=some ⟨oc,od,.func (PySem.W.fnOf x qual (b9 st) (bo st) (aj st) .none kV doc pm an cdv ct),osl⟩)
  (c:PySem.W.codeIn K cdv qual=true) (k:PySem.W.keepIn K (.ref f)=true):Fun K x qual st f (PySem.W.fnOf x qual (b9 st) (bo st) (aj st) .none kV doc pm an cdv ct):=⟨⟨oc,od,kV,doc,pm,an,cdv,ct,osl,rfl,l,c⟩,k⟩
end
theorem HD (hr:Room k A):A.units+1 < cLine:=Nat.lt_of_le_of_lt (Nat.add_le_add_left (by decide:1<=64) _) hr.units
def Same (H H':Hp):Prop:=∀ b o,H b=some o->H' b=some o
theorem Same.refl (H:Hp):Same H H:=fun _ _ h=>h
theorem Same.trans {H1 H2:Hp}(a:Same H H1)(b:Same H1 H2):Same H H2:=fun c o h=>b c o (a c o h)
theorem Same.free (e:Same H H'){l:Addr}(h:H' l=Option.none):H l=Option.none:=by
 cases q:H l with
 | none=>rfl
 | some o =>
  rw [e l o q] at h
  cases h
theorem Same.seq {K:Frag}(e:Same H H')(h:SqL K H a xs):SqL K H' a xs:=by
 rcases h with (h | ⟨o,h⟩) | h
 ·exact .inl (.inl (e _ _ h))
 ·exact .inl (.inr ⟨o,e _ _ h⟩)
 ·exact .inr h
section
variable {κ:Type} [DecidableEq κ]
end
section
variable {prog:Program}    {R:Result->Shared->Prop} 
theorem jo {target:Expr}{it acc:Value}(I:Nat->Shared->Prop)
  (turn:∀ n s,I n s->wpAny (model prog w) A (pyNext it) (fun r s₁=>match r with
   | none=>R (.ok .next) s₁
   | some v=>wpAny (model prog w) A (letOwnedTupleGo target it v) (fun _ s₁'=>wpAny (model prog w) A (assign target env v) (fun _ s₂ =>
     wpAny (model prog w) A (forIn ifs true fun c r=>if r=true then do let ok ← isTrue c env (eval c env); pure (ForInStep.yield ok) else pure (ForInStep.yield r)) (fun ok s₃ =>
      if ok=true then wpAny (model prog w) A (eval elt env) (fun x s₄ =>
       wpAny (model prog w) A (call (.builtin "list.append") [acc,x]) (fun _ s₅=>∃ m,m < n/\I m s₅) (fun _ _=>False) s₄) (fun _ _=>False) s₃
      else ∃ m,m < n/\I m s₃) (fun _ _=>False) s₂) (fun _ _=>False) s₁') (fun _ _=>False) s₁) (fun _ _=>False) s)
  (n:Nat) (h:I n s) :
  codeAny (model prog w) A (.compLoop (.ListComp elt [⟨target,iter,ifs,0⟩] scope pos) 0 it acc env) R s:=by
 refine codeAny_loop rfl I (fun n s hI=>?_) n h
 show wpAny _ A ((compTurn (.ListComp elt [⟨target,iter,ifs,0⟩] scope pos) 0 it acc env).onRaise (fun x=>do noteFrame x env; theTreesLotGoes x)) _ _ s
 refine wpAny_noted ?_
 rw [compTurn_list]
 refine aaa (wpAny_standAt (aaa (abh (turn n s hI) (fun r s₁ h₁=>?_) fun _ _ h'=>h'.elim)))
 cases r with
 | none=>exact aac h₁
 | some v =>
  refine aaa (abh h₁ (fun _ s₁' h₁'=>?_) fun _ _ h'=>h'.elim)
  refine aaa (abh h₁' (fun _ s₂ h₂=>aaa (abh h₂ (fun ok s₃ h₃=>?_) fun _ _ h'=>h'.elim)) fun _ _ h'=>h'.elim)
  cases ok with
  | false=>exact aac ⟨rfl,h₃⟩
  | true =>
   exact aaa (aaa (abh h₃ (fun x s₄ h₄=>aaa (abh h₄ (fun _ s₅ h₅=>aac (aac ⟨rfl,h₅⟩)) fun _ _ h'=>h'.elim)) fun _ _ h'=>h'.elim))
end
def Cm (X:Cx)(ifs:List Expr)(t:TT):Prop :=
 ∀ (pins:List (Addr×Obj)) (s:Shared) (σ:St) (H:Hp) (Q:Bool->Hp->Prop),Inv X pins σ H s->t σ H Q ->
  wpAny (model X.prog X.w) X.A (forIn ifs true fun c r=>if r=true then do let ok ← isTrue c X.env (eval c X.env); pure (ForInStep.yield ok) else pure (ForInStep.yield r)) (TP X pins σ Q) X.xe s
def HE:TT:=fun _ H Q=>Q true H
theorem yy :Cm X [] HE:=fun _ _ _ H _ I h=>wpAny_tests_nil ⟨H,I,h⟩
theorem yz {c:Expr}{t:TT}(h:PT X c t):Cm X [c] t:=fun pins s σ H Q I q=>wpAny_tests_one (h pins s σ H Q I q)
def bm (X:Cx)(N:List Str)(scope:Scope)(cl:List (Str×Addr))(C:Addr)(s:Shared)(H:Hp)(fp:List Addr):Cx :=
 { X with N:=N,s₀:=s,H₀:=H,env:=compEnvC scope cl C X.env,outer:=X.stack,ex:=fp,fn:=fun _=>false,pn:=[],xe:=fun _ _=>False }
def jp (σ:St)(ixs:List Nat):St:=ixs.map fun i=>(σ[i]?).getD none
structure CompScope (X:Cx)(T F:List Str)(ixs:List Nat)(scope:Scope):Prop where
 kind:scope.kind=.function
 nocell:∀ y ∈ scope.names,y.2≠.cell
 names:∀ y ∈ scope.names,y.2=.local->scope.names.lookup y.1=some .local
 cap:∀ (j:Nat) (i:Nat) (x:Str),ixs[j]?=some i->F[j]?=some x->X.N[i]?=some x/\scope.names.lookup x=some .free
 len:ixs.length=F.length
 out:∀ y ∈ scope.names,y.2=.free->X.env.scope.names.lookup y.1=some .cell∨X.env.scope.names.lookup y.1=some .free
def ax (env:Env):List (Str×NameKind)->List (Str×Addr)->List (Str×Addr)
 | [],cs=>cs
 | (n,k)::r,cs=>if k == .free then ax env r ((n,(env.cells.lookup n).getD 0)::cs) else ax env r cs
theorem ip (h:∀ y ∈ scope.names,y.2=.free->∃ c,env.cells.lookup y.1=some c):closureFor scope env=pure (ax env scope.names []):=by
 unfold closureFor
 have gen:∀ (l:List (Str×NameKind)) (cs:List (Str×Addr)),(∀ y ∈ l,y.2=.free->∃ c,env.cells.lookup y.1=some c) ->
   (do
    let mut cs:=cs
    for (name,kind) in l do
     if kind == .free then cs:=(name,← cellOf env name)::cs
    return cs:Sem (List (Str×Addr)))=pure (ax env l cs):=by
  intro l
  induction l with
  | nil=>intro cs _; rfl
  | cons p r ih =>
   intro cs hl
   obtain ⟨n,k⟩:=p
   have hr:=fun y hy=>hl y (aad _ hy)
   by_cases hk:k=.free
   ·obtain ⟨c,hc⟩:=hl (n,k) aab hk
    have hc:env.cells.lookup n=some c:=hc
    have e:=ih ((n,(env.cells.lookup n).getD 0)::cs) hr
    subst hk
    simp only [ax,List.forIn_cons,hc,cellOf] at e ⊢
    simpa using e
   ·have e:=ih cs hr
    have hk':(k == NameKind.free)=false:=(by exists hk)
    simp only [ax,List.forIn_cons,hk',if_neg Bool.false_ne_true] at e ⊢
    simpa using e
 exact gen scope.names [] h
theorem cB {env:Env}:∀ {l:List (Str×NameKind)} {cs:List (Str×Addr)} {x:Str} {c:Addr},(∀ y ∈ l,y.2=.free->∃ c,env.cells.lookup y.1=some c)->(∀ x c,cs.lookup x=some c->env.cells.lookup x=some c) ->
  (ax env l cs).lookup x=some c->env.cells.lookup x=some c
 | [],cs,x,c,_,hc,h=>hc x c h
 | (n,k)::r,cs,x,c,hl,hc,h=>by
  have hr:=fun y hy=>hl y (aad _ hy)
  unfold ax at h
  split at h
  ·rename_i hk
   have hk':k=.free:=(by exists hk)
   obtain ⟨c0,h0⟩:=hl (n,k) aab hk'
   have h0:env.cells.lookup n=some c0:=h0
   refine cB hr (fun x' c' h'=>?_) h
   rw [aaC] at h'
   split at h'
   ·rename_i e
    have e:x'=n:=(by exists e)
    subst e
    rw [h0] at h' ⊢
    simpa using h'
   ·exact hc x' c' h'
  ·exact cB hr hc h
theorem db {env:Env}:∀ {l:List (Str×NameKind)} {cs:List (Str×Addr)} {x:Str},((x,NameKind.free) ∈ l∨∃ c,cs.lookup x=some c)->∃ c,(ax env l cs).lookup x=some c
 | [],cs,x,h=>by
  rcases h with h | h
  ·cases h
  ·exact h
 | (n,k)::r,cs,x,h=>by
  unfold ax
  split
  ·rename_i hk
   have hk':k=.free:=(by exists hk)
   refine db ?_
   rcases h with h | h
   ·rcases List.mem_cons.mp h with e | h
    ·have e:x=n:=by injection e
     subst e
     exact .inr ⟨(env.cells.lookup x).getD 0,by rw [aaC]; simp⟩
    ·exact .inl h
   ·obtain ⟨c,h⟩:=h
    refine .inr ?_
    rw [aaC]
    split
    ·exact ⟨_,rfl⟩
    ·exact ⟨c,h⟩
  ·rename_i hk
   refine db ?_
   rcases h with h | h
   ·rcases List.mem_cons.mp h with e | h
    ·have e:NameKind.free=k:=by injection e
     subst e
     simp at hk
    ·exact .inl h
   ·exact .inr h
theorem cD {env:Env}:∀ {names:List (Str×NameKind)} {x:Str} {q:NameKind},
  (names.map fun (n,k)=>if (k == NameKind.free && env.scope.kind == .function && env.kindOf n == some .cell) then (n,NameKind.cell) else (n,k)).lookup x=some q ->
  names.lookup x=some q∨(q=.cell/\names.lookup x=some .free)
 | [],_,_,h=>by simp at h
 | (n,k)::r,x,q,h=>by
  have ih:=@cD env r x q
  rw [List.map_cons] at h
  dsimp only at h
  by_cases hc:(k == NameKind.free && env.scope.kind == .function && env.kindOf n == some .cell)=true
  ·rw [if_pos hc,aaC] at h
   rw [aaC]
   cases hx:x == n with
   | true =>
    rw [hx] at h
    have hk:k=.free:=by
     simp only [Bool.and_eq_true] at hc
     simpa using hc.1.1
    exact .inr ⟨(aaj h).symm,by rw [hk]⟩
   | false=>rw [hx] at h; exact ih h
  ·rw [if_neg hc,aaC] at h
   rw [aaC]
   cases hx:x == n with
   | true=>rw [hx] at h; exact .inl h
   | false=>rw [hx] at h; exact ih h
theorem eN {env:Env}:∀ {names:List (Str×NameKind)} {x:Str},names.lookup x=some .free ->
  (names.map fun (n,k)=>if (k == NameKind.free && env.scope.kind == .function && env.kindOf n == some .cell) then (n,NameKind.cell) else (n,k)).lookup x=some .cell ∨
  (names.map fun (n,k)=>if (k == NameKind.free && env.scope.kind == .function && env.kindOf n == some .cell) then (n,NameKind.cell) else (n,k)).lookup x=some .free
 | [],_,h=>by simp at h
 | (n,k)::r,x,h=>by
  have ih:=@eN env r x
  rw [List.map_cons]
  dsimp only
  rw [aaC] at h
  by_cases hc:(k == NameKind.free && env.scope.kind == .function && env.kindOf n == some .cell)=true
  ·rw [if_pos hc,aaC]
   cases hx:x == n with
   | true=>exact .inl rfl
   | false=>rw [hx] at h; exact ih h
  ·rw [if_neg hc,aaC]
   cases hx:x == n with
   | true=>rw [hx] at h; exact .inr h
   | false=>rw [hx] at h; exact ih h
def dm (no:Nat)(ixs:List Nat)(wi:TI)(g:TG)(tc:TT)(te:TE):TE:=fun σ H Q=>wi σ H fun J H1=>∀ D,H1 D=none->∃ W:Nat->Nat->List V->St->Hp->Prop,
 (∃ m,W 0 m [] (List.replicate no none++jp σ ixs) (upd H1 D (.lst [])))/\∀ i m acc σ' H',W i m acc σ' H' ->
  (J.stop i H'/\Q (.ref D) H') ∨
  (J.go i H'/\∃ N:List V->St->Hp->Prop,(∀ acc' σ2 H2,N acc' σ2 H2->∃ m',m' < m/\W (i+1) m' acc' σ2 H2) /\
   ∀ x H2,J.yld i H' x H2->g x σ' H2 fun σ3 H3=>tc σ3 H3 fun b H4=>if b=true then te σ3 H4 fun y H5=>H5 D=some (.lst acc)/\acc.length < sizeLine/\N (acc++[y]) σ3 (upd H5 D (.lst (acc++[y]))) else N acc σ3 H4)
section
variable         {fp:List Addr}
theorem yB (I:Inv X pins σ H s)(S:CompScope X T F ixs scope)(hfp:∀ b ∈ fp,n8 X pins H b)(hfo:∀ b ∈ fp,∃ o,s.heap.get? b=some o) :
  (bm X (T++F) scope (ax X.env scope.names []) s.heap.objs.size s H fp).Ok:=by
 have hall:∀ y ∈ scope.names,y.2=.free->∃ c,X.env.cells.lookup y.1=some c:=fun y hy hf=>by
  rcases S.out y hy hf with e | e
  ·exact I.ok.has _ (.inl e)
  ·exact I.ok.has _ (.inr e)
 have hcl:∀ x c,(ax X.env scope.names []).lookup x=some c->X.env.cells.lookup x=some c:=fun x c h=>cB hall (fun _ _ z=>by simp at z) h
 refine ⟨I.ok.mod,S.kind,I.ok.glob,I.ok.blt,aae _,fun x y c h1 h2=>I.ok.inj x y c (hcl x c h1) (hcl y c h2),fun x hx=>?_,fun _ _ z=>(nomatch z),I.ok.hd,I.ok.frames,.inl rfl,fun b hb=>⟨?_,fun x c e=>?_⟩,I.bs,aav I.ok.bsz I.sz,fun b o e hb=>?_,fun b hb hz=>?_,I.stack,I.stkFree⟩
 ·have hx:(relabel scope X.env).names.lookup x=some .cell∨(relabel scope X.env).names.lookup x=some .free:=hx
  have hf:scope.names.lookup x=some .free:=by
   rcases hx with hx | hx
   ·rcases cD hx with q | ⟨_,q⟩
    ·exact absurd rfl (S.nocell _ (aaL q))
    ·exact q
   ·rcases cD hx with q | ⟨z,_⟩
    ·exact q
    ·cases z
  exact db (.inl (aaL hf))
 ·obtain ⟨o,ho⟩:=hfo b hb
  exact aah (aaf ho)
 ·exact (hfp b hb).2.2.2.2.1 x c (hcl x c e)
 ·rcases (hfp b hb).2.2.2.1 with z | z
  ·exact I.ok.noex b o e z
  ·exact absurd (aan (aaf e) (aav I.ok.bsz z)) (aaQ _)
 ·rcases List.mem_cons.mp (I.stkSub b hz) with e | z
  ·exact (hfp b hb).2.1 e
  ·exact (hfp b hb).2.2.1 z
theorem oQ {j:Nat}(h:(jp σ ixs)[j]?=some (some v)):∃ i,ixs[j]?=some i/\σ[i]?=some (some v):=by
 unfold jp at h
 rw [List.getElem?_map] at h
 cases e:ixs[j]? with
 | none=>rw [e] at h; cases h
 | some i =>
  rw [e] at h
  refine ⟨i,rfl,?_⟩
  have h:(σ[i]?).getD none=some v:=aaj h
  cases q:σ[i]? with
  | none=>rw [q] at h; cases h
  | some u=>rw [q] at h; exact congrArg some h
theorem tt (I:Inv X pins σ H s)(S:CompScope X T F ixs scope)(hfp:∀ b ∈ fp,n8 X pins H b)(hfo:∀ b ∈ fp,∃ o,s.heap.get? b=some o){h':Heap}{t':Nat}{m:Str->Option Value}
  (hk:∀ b o,s.heap.get? b=some o->h'.get? b=some o) (hn:h'.Ns s.heap.objs.size m) :
  Inv (bm X (T++F) scope (ax X.env scope.names []) s.heap.objs.size s H fp) [] (List.replicate T.length none++jp σ ixs) H { s with heap:=h',toks:=t' }:=by
 have ok:=yB I S hfp hfo
 have hall:∀ y ∈ scope.names,y.2=.free->∃ c,X.env.cells.lookup y.1=some c:=fun y hy hf=>by
  rcases S.out y hy hf with e | e
  ·exact I.ok.has _ (.inl e)
  ·exact I.ok.has _ (.inr e)
 have hcl:∀ x c,(ax X.env scope.names []).lookup x=some c->X.env.cells.lookup x=some c:=fun x c h=>cB hall (fun _ _ z=>by simp at z) h
 have cellK:∀ c v,s.heap.IsCell c v->h'.IsCell c v:=fun c v ⟨o,ho,hd⟩=>⟨o,hk c o ho,hd⟩
 refine ⟨ok,rfl,I.bare,Un.kept hk,⟨m,hn,fun j x v e1 e2 e3=>?_⟩,fun x c e=>?_,I.hok.fresh (aae _),fun x c e=>I.freeC x c (hcl x c e),fun p hp=>absurd (show p ∈ ([]:List (Addr×Obj)) from hp) (by simp),I.hok.kept hk,?_⟩
 ·have hj:T.length<=j:=by
   refine Nat.le_of_not_lt fun hj=>?_
   rw [List.getElem?_append_left (by exists hj),List.getElem?_replicate] at e2
   split at e2 <;> cases e2
  rw [List.getElem?_append_right (by exists hj),aaA] at e2
  have e1:(T++F)[j]?=some x:=e1
  rw [List.getElem?_append_right hj] at e1
  obtain ⟨i,hi,hv⟩:=oQ e2
  obtain ⟨hN,hf⟩:=S.cap _ i x hi e1
  obtain ⟨m0,hn0,hl⟩:=I.loc
  have hm:=aaL hf
  have hvis:X.env.scope.names.lookup x=some .cell∨X.env.scope.names.lookup x=some .free:=S.out _ hm rfl
  obtain ⟨u,ru,lk⟩:=hl i x v hN hv (hvis.elim (fun z=>.inr (.inl z)) fun z=>.inr (.inr z))
  refine ⟨u,ru,?_⟩
  rcases lk with ⟨kl,_⟩ | ⟨_,c,hc,hcell⟩
  ·have kl:X.env.scope.names.lookup x=some .local:=kl
   rcases hvis with z | z
   ·rw [kl] at z; cases z
   ·rw [kl] at z; cases z
  ·obtain ⟨c',hc'⟩:=db (env:=X.env) (cs:=[]) (.inl hm)
   have e:c'=c:=by
    have:=hcl x c' hc'
    rw [hc] at this
    exact (aaj this).symm
   subst e
   exact .inr ⟨eN hf,c',hc',cellK c' _ hcell⟩
 ·obtain ⟨v,q⟩:=I.cell x c (hcl x c e)
  exact ⟨v,cellK c v q⟩
 ·show _=(T++F).length
  rw [aai,aaA,aai,jp,List.length_map,S.len]
theorem lf {pos':Pos}(hc:X.calm=true)(S:CompScope X T F ixs scope)
  (hi:PI X tg iter wi)
  (hg:∀ C s H fp,PG (bm X (T++F) scope (ax X.env scope.names []) C s H fp) tg g)
  (ht:∀ C s H fp,Cm (bm X (T++F) scope (ax X.env scope.names []) C s H fp) ifs tc)
  (he:∀ C s H fp,PE (bm X (T++F) scope (ax X.env scope.names []) C s H fp) elt te)
  (hs:∀ x,foldedSetIterable iter X.env x=pure x) {use:Option (Value->Sem Unit)} {QQ:Value->Shared->Prop}      (I:Inv X pins σ H s) (h:dm T.length ixs wi g tc te σ H Q)
  (fine:∀ (D C:Addr) (H5:Hp) (s6:Shared) (f:Flow),(∃ m,s6.heap.Ns C m)->H5 C=none->C≠X.env.locals->(∀ x c,X.env.cells.lookup x=some c->c≠C)->X.s₀.heap.objs.size<=C->(∀ p ∈ X.pn++pins,p.1≠C) ->
   (∀ h7,Heap.SameBut C s6.heap h7->Inv X pins σ H5 { s6 with heap:=h7 })->Q (.ref D) H5->compPost (model X.prog X.w) X.A X.xe use QQ (.ref D) C (.ok f) s6) :
  wpAny (model X.prog X.w) X.A (comprehension (.ListComp elt [⟨tg,iter,ifs,0⟩] scope pos) scope X.env pos' (newList []) false (eval iter X.env) use) QQ X.xe s:=by
 have hall:∀ y ∈ scope.names,y.2=.free->∃ c,X.env.cells.lookup y.1=some c:=fun y hy hf=>by
  rcases S.out y hy hf with e | e
  ·exact I.ok.has _ (.inl e)
  ·exact I.ok.has _ (.inr e)
 refine wpAny_comprehension_free (use:=use) (cl:=ax X.env scope.names []) rfl hs (ip hall) S.kind S.names (thn (hi pins s σ H _ I h) fun v s1 h1=>thn h1 fun itv s2 h2=>?_)
 obtain ⟨it,fp,tn,J,H2,e,I2,TT,st2,f2,q2⟩:=h2
 subst e
 refine aaI ?_
 -- the list is laid
 have I3:Inv X pins σ (upd H2 s2.heap.objs.size (.lst [])) { s2 with heap:=s2.heap.push { cls:=.type "list", dict:=none,data:=.seq ([]:List Value).toArray } } :=
  I2.laid (t':=s2.toks) (fun b u q=>Heap.get?_push_of_some _ q) (aae _) ⟨aaq _,[],0,.nil,Heap.get?_push_size _ rfl⟩
 have hD:H2 s2.heap.objs.size=none:=I2.hok.fresh (aae _)
 have hfo:∀ b ∈ fp,∃ o,s2.heap.get? b=some o:=fun b hb=>let ⟨o,e,_⟩:=TT.obj _ _ st2 b hb; ⟨o,e⟩
 have neD:∀ b ∈ fp,b≠s2.heap.objs.size:=fun b hb=>by obtain ⟨o,e⟩:=hfo b hb; exact aah (aaf e)
 have f3:∀ b ∈ fp,n8 X pins (upd H2 s2.heap.objs.size (.lst [])) b:=fun b hb=>by
  obtain ⟨a1,a2⟩:=f2 b hb
  exact ⟨by rw [ae (neD b hb)]; exact a1,a2⟩
 obtain ⟨W,⟨m0,w0⟩,turn⟩:=q2 s2.heap.objs.size hD
 generalize hs3:({ s2 with heap:=s2.heap.push { cls:=.type "list", dict:=none,data:=.seq ([]:List Value).toArray } }:Shared)=s3 at I3 ⊢
 generalize hH3:upd H2 s2.heap.objs.size (.lst [])=H3 at I3 f3 w0
 have hfo3:∀ b ∈ fp,∃ o,s3.heap.get? b=some o:=fun b hb=>by
  obtain ⟨o,e⟩:=hfo b hb
  rw [← hs3]
  exact ⟨o,Heap.get?_push_of_some _ e⟩
 have st3:tn 0 s3.heap:=TT.keep _ _ _ st2 fun b hb o e=>by rw [← hs3]; exact Heap.get?_push_of_some _ e
 refine wpAny_newFunctionEnv S.nocell (by intro y hy; simp at hy) (fun h4 hns4 hsb4=>?_) S.kind
 have old:∀ b o,s3.heap.get? b=some o->h4.get? b=some o:=fun b o e=>hsb4.extBut b o (aah (aaf e)) (Heap.get?_push_of_some _ e)
 have J4:=tt I3 S f3 hfo3 (t':=s3.toks+([]:List (Str×Value)).length) old hns4
 generalize hs4:({ s3 with heap:=h4,toks:=s3.toks+([]:List (Str×Value)).length }:Shared)=s4 at J4 ⊢
 have st4:tn 0 s4.heap:=by rw [← hs4]; exact TT.keep _ _ _ st3 fun b hb o e=>old b o e
 have hg':=hg s3.heap.objs.size s3 H3 fp
 have ht':=ht s3.heap.objs.size s3 H3 fp
 have he':=he s3.heap.objs.size s3 H3 fp
 generalize hY:bm X (T++F) scope (ax X.env scope.names []) s3.heap.objs.size s3 H3 fp=Y at J4 hg' ht' he'
 have yA:Y.A=X.A:=by rw [← hY]; rfl
 have yP:Y.prog=X.prog:=by rw [← hY]; rfl
 have yW:Y.w=X.w:=by rw [← hY]; rfl
 have yK:Y.K=X.K:=by rw [← hY]; rfl
 have yC:Y.calm=true:=by rw [← hY]; exact hc
 have yE:Y.env=compEnvC scope (ax X.env scope.names []) s3.heap.objs.size X.env:=by rw [← hY]; rfl
 have yX:Y.xe=fun _ _=>False:=by rw [← hY]; rfl
 have fY:∀ {H':Hp},(∀ b ∈ fp,H' b=none)->∀ b ∈ fp,n8 Y [] H' b:=fun hn b hb=>by
  have k:=J4.ok
  rw [← hY] at k ⊢
  exact ⟨hn b hb,(k.exf b hb).1,k.exfs b hb,.inl hb,(k.exf b hb).2,fun p hp=>absurd (show p ∈ ([]:List (Addr×Obj)) from hp) (by simp)⟩
 have loop:codeAny (model X.prog X.w) X.A (.compLoop (.ListComp elt [⟨tg,iter,ifs,0⟩] scope pos) 0 (.ref it) (.ref s2.heap.objs.size) (compEnvC scope (ax X.env scope.names []) s3.heap.objs.size X.env))
   (compPost (model X.prog X.w) X.A X.xe use QQ (.ref s2.heap.objs.size) s3.heap.objs.size) s4:=by
  refine jo (fun n s'=>∃ i acc σ' H',Inv Y [] σ' H' s'/\tn i s'.heap/\(∀ b ∈ fp,H' b=none)/\W i n acc σ' H') ?_ m0 ⟨0,[],_,H3,J4,st4,fun b hb=>(f3 b hb).1,w0⟩
  rintro n s5 ⟨i,acc,σ5,H5,J5,st5,fr5,w5⟩
  rcases turn i n acc σ5 H5 w5 with ⟨stop,qn⟩ | ⟨go,N,hN,step⟩
  ·have fin:=TT.done Y yP yW yK yC i [] s5 σ5 H5 (fun _ _=>False) J5 (fY fr5) st5 stop
   rw [yA] at fin
   refine thn fin fun r s6 ⟨hr,J6⟩=>?_
   subst hr
   -- the block is left
   obtain ⟨m,hm,_⟩:=id J6.loc
   have hm:s6.heap.Ns s3.heap.objs.size m:=by rw [yE] at hm; exact hm
   have hb6:=J6.base
   have hos:=J6.os
   have hfree:=J6.free
   have hbare:=J6.bare
   have hok6:HOk X.prog X.w H5 s6.heap:=by have:=J6.hok; rw [yP,yW] at this; exact this
   rw [yE] at hfree
   have hfree:H5 s3.heap.objs.size=none:=hfree
   rw [← hY] at hb6 hos
   have hb6:Un (frs X.stack) fp H3 H5 s3.heap s6.heap:=hb6
   have hos:s6.os=s3.os:=hos
   have ltC:∀ b o,s3.heap.get? b=some o->b≠s3.heap.objs.size:=fun b o e=>aah (aaf e)
   refine fine _ _ H5 s6 _ ⟨m,hm⟩ hfree ?hl ?hcl I3.sz ?hpn (fun h7 hsb7=>?_) qn
   case hl=>exact fun z=>aaQ _ (z ▸ I3.lt)
   case hcl=>exact fun x c e z=>by obtain ⟨v,o,ho,_⟩:=I3.cell x c e; exact ltC c o ho z
   case hpn=>exact fun p hp z=>ltC p.1 p.2 (I3.pin p hp).1 z
   have same:∀ b,b < s3.heap.objs.size->h7.get? b=s6.heap.get? b:=fun b hb=>hsb7.2 b (aah hb)
   have hok7:HOk X.prog X.w H5 h7:=fun b o e=>by
    refine (hok6 b o e).stay (fun c w' hc q=>(hsb7.2 c ?_).trans q) (fun _ q=>q) fun _ _ q=>q
    rintro rfl
    rcases hc with z | z
    ·rw [← z,hfree] at e; cases e
    ·rw [hfree] at z; cases z
   have un7:Un (frs X.stack) fp H3 H5 s3.heap h7 :=
    ⟨fun b o e n hb hx=>(same b (aaf e)).trans (hb6.keep b o e n hb hx),fun b o e n hb hx=>by
     obtain ⟨sl,q⟩:=hb6.slot b o e n hb hx
     exact ⟨sl,(same b (aaf e)).trans q⟩,hb6.free,fun b o e hx=>by
     obtain ⟨o',q⟩:=hb6.there b o e hx
     exact ⟨o',(same b (aaf e)).trans q⟩,hb6.tups,hb6.frzs,hb6.tbls⟩
   exact I3.call' (s':={ s6 with heap:=h7 }) hos un7 hok7 hbare fun b hb=>by
    obtain ⟨_,a2,a3,a4,a5,a6⟩:=f3 b hb
    exact ⟨a4,a2,a5,a6⟩
  ·have nx:=TT.item Y yP yW yK yC i [] s5 σ5 H5 (fun _ _=>False) J5 (fY fr5) st5 go
   rw [yA] at nx
   refine thn nx fun r s6 ⟨u,hr,h6⟩=>?_
   subst hr
   refine thn h6 fun _ s7 ⟨x,H7,J7,r7,y7,st7,fr7⟩=>?_
   have J7':=J7.pinned (fY fr7) (TT.obj _ _ st7)
   have asg:=hg' _ s7 σ5 H7 x u _ J7' r7 (step x H7 y7)
   rw [yA,yP,yW,yE,yX] at asg
   refine thn asg fun _ s8 ⟨σ8,H8,J8,q8⟩=>?_
   have tst:=ht' _ s8 σ8 H8 _ J8 q8
   rw [yA,yP,yW,yE,yX] at tst
   refine thn tst fun b s9 ⟨H9,J9,q9⟩=>?_
   have again:∀ {s':Shared} {acc':List V} {σ':St} {H':Hp},Inv Y ([]++gJ fp s7.heap) σ' H' s'->N acc' σ' H'->∃ m,m < n/\∃ i acc σ' H',Inv Y [] σ' H' s'/\tn i s'.heap/\(∀ b ∈ fp,H' b=none)/\W i m acc σ' H':=fun {s' acc' σ' H'} K7 n7=>by
    obtain ⟨m',hm,w7⟩:=hN acc' σ' H' n7
    refine ⟨m',hm,i+1,acc',σ',H',K7.unpinned,TT.keep _ _ _ st7 fun b hb o e=>(K7.pin (b,o) (aak _ (aak _ (da hb e)))).1,fun b hb=>?_,w7⟩
    obtain ⟨o,e,d⟩:=TT.obj _ _ st7 b hb
    exact (K7.pin (b,o) (aak _ (aak _ (da hb e)))).2.1
   cases b with
   | false =>
    rw [if_neg Bool.false_ne_true] at q9 ⊢
    exact again J9 q9
   | true =>
    rw [if_pos rfl] at q9 ⊢
    have elv:=he' _ s9 σ8 H9 _ J9 q9
    rw [yA,yP,yW,yE,yX] at elv
    refine thn elv fun u10 s10 ⟨y,H10,J10,r10,q10⟩=>?_
    obtain ⟨hl,hz,qN⟩:=q10
    have app:=jj (X:=Y) ([]++gJ fp s7.heap) s10 σ8 H10 (.ref s2.heap.objs.size) [y] (.ref s2.heap.objs.size) [u10] (fun _ H'=>N (acc++[y]) σ8 H') J10 rfl (.cons r10 .nil) ⟨_,acc,y,rfl,rfl,hl,hz,qN⟩
    rw [yA,yP,yW,yX] at app
    exact thn app fun _ s11 ⟨_,H11,J11,_,q11⟩=>again J11 q11
 exact codeAny_compStart_list loop (TT.self _ 0 _ _ _ st4 loop)
theorem yD (hc:X.calm=true)(S:CompScope X T F ixs scope)
  (hi:PI X tg iter wi)
  (hg:∀ C s H fp,PG (bm X (T++F) scope (ax X.env scope.names []) C s H fp) tg g)
  (ht:∀ C s H fp,Cm (bm X (T++F) scope (ax X.env scope.names []) C s H fp) ifs tc)
  (he:∀ C s H fp,PE (bm X (T++F) scope (ax X.env scope.names []) C s H fp) elt te)
  (hs:autoParam (∀ x,foldedSetIterable iter X.env x=pure x) L2.aI._auto_1) :
  PE X (.ListComp elt [⟨tg,iter,ifs,0⟩] scope pos) (dm T.length ixs wi g tc te):=by
 intro pins s σ H Q I h
 rw [eval_ListComp]
 exact lf hc S hi hg ht he hs I h fun D C H5 s6 f ⟨m,hm⟩ _ _ _ _ _ inv q=>⟨m,hm,fun h7 k=>⟨.ref D,H5,inv h7 k,rfl,q⟩⟩
theorem yF {i:Nat}{py spos:Pos}(hc:X.calm=true)(S:CompScope X T F ixs scope)
  (hi:PI X tg iter wi)
  (hg:∀ C s H fp,PG (bm X (T++F) scope (ax X.env scope.names []) C s H fp) tg g)
  (ht:∀ C s H fp,Cm (bm X (T++F) scope (ax X.env scope.names []) C s H fp) ifs tc)
  (he:∀ C s H fp,PE (bm X (T++F) scope (ax X.env scope.names []) C s H fp) elt te)
  (hs:∀ x,foldedSetIterable iter X.env x=pure x) (hN:X.N.Nodup) (hix:X.N[i]?=some y) (hx:Loc X.env.scope y)
  (hsw:swapsWith (.ListComp elt [⟨tg,iter,ifs,0⟩] scope pos) (some (.Name y py)) spos.line X.env=pure true) (hf:X.fn y=true∨X.env.scope.names.lookup y=some .local) :
  PS X (.Assign [.Name y py] (.ListComp elt [⟨tg,iter,ifs,0⟩] scope pos) spos) (nX (dm T.length ixs wi g tc te) (dY i)):=by
 intro pins s σ H D I h
 rw [exec_Assign_Name_used _ _ _ _ hsw]
 refine aaa (wpAny_standAt (aaa ?_))
 show wpAny _ X.A (do let _ ← comprehension (.ListComp elt [⟨tg,iter,ifs,0⟩] scope pos) scope X.env _ (newList []) false (eval iter X.env) (some (assign (.Name y py) X.env))) _ _ s
 refine aaa (thn (lf (use:=some (assign (.Name y py) X.env)) (QQ:=fun _ s'=>SP X pins D .next s') hc S hi hg ht he hs I h fun D' C H5 s6 f ⟨m,hm⟩ fC lC cC zC pC inv q=>?_) fun _ s' hq=>aac (aac hq))
 have I6:Inv X pins σ H5 s6:=inv s6.heap (Heap.SameBut.refl _ _)
 refine wpAny_assign_Name (i6 I6 hN hix hx (show RelV (.ref D') (.ref D') from rfl) (fun s7 I7 ⟨a,sb,ha⟩=>?_) hf)
 have aC:C≠a:=by
  rcases ha with rfl | ha
  ·exact lC
  ·exact fun z=>cC y a ha z.symm
 refine ⟨m,hm.sameBut sb aC,fun h8 k8=>⟨_,H5,?_,q⟩⟩
 exact I7.turned (t':=s7.toks) (fun b o hb e=>(k8.2 b hb).trans e) fC lC (.inr zC) cC pC
end
def Its (z:Str):It:=⟨fun i _=>i < z.cps.size,fun i H x H'=>H'=H/\∃ c,z.cps.toList[i]?=some c/\x=.str ⟨#[c]⟩,fun i _=>i=z.cps.size⟩
theorem lg   {K:Frag}  (nm:String) (hnm:["enumerate", "zip", "dict_itemiterator", "dict_reverseitemiterator", "odict_iterator", "itertools.zip_longest", "itertools.pairwise"].contains nm=false) (it:Addr) (z:Str) (t:Tok)
  (W:∀ A:Around,A.handled=none->Walks P w A it [it] [it] z.cps.size (SignAt z) (fun i h=>h.IsStrIter it nm z t i))
  (hself:∀ (A:Around) (i:Nat) (s:Shared) (Q:Value->Shared->Prop) (E:Value->Shared->Prop),s.heap.IsStrIter it nm z t i->Q (.ref it) s->wpAny (model P w) A (pyIter (.ref it)) Q E s):Turn P w K tg (Its z) [it] it (fun i h=>h.IsStrIter it nm z t i) where
 mem:=by simp
 obj:=fun i h st b hb=>by
  have e:b=it:=(by exists hb)
  subst e
  obtain ⟨o,e,c,d⟩:=st
  exact ⟨o,e,fun v q=>by rw [d] at q; cases q⟩
 keep:=fun i h h' st k=>by
  obtain ⟨o,e,r⟩:=st
  exact ⟨o,k it (by simp) o e,r⟩
 item:=by
  intro X hP hw hK hc i pins s σ H E I hf st hg
  subst hP hw hK
  obtain ⟨f0,f1,f2,f3,f4,f5⟩:=hf it (by simp)
  refine (W X.A (I.ok.hd hc)).item i s _ _ hg st fun v h' tk hv st' kk=>?_
  obtain ⟨c,u,hcx,rfl⟩:=hv
  have I1:Inv X pins σ H { s with heap:=h',toks:=tk }:=I.turned (fun b o hb e=>kk b o (by exists hb) e) f0 f1 f3 f4 f5
  obtain ⟨o,e,cl,d⟩:=id st'
  exact ⟨_,rfl,mI (s:={ s with heap:=h',toks:=tk }) e cl d hnm ⟨.str ⟨#[c]⟩,H,I1,⟨u,rfl⟩,⟨rfl,c,(by exists hcx),rfl⟩,st',fun b hb=>(hf b hb).1⟩⟩
 done:=by
  intro X hP hw hK hc i pins s σ H E I hf st hg
  subst hP hw hK
  obtain ⟨f0,f1,f2,f3,f4,f5⟩:=hf it (by simp)
  have hg:i=z.cps.size:=hg
  subst hg
  exact (W X.A (I.ok.hd hc)).done s _ _ st fun h' tk kk=>⟨rfl,I.turned (fun b o hb e=>kk b o (by exists hb) e) f0 f1 f3 f4 f5⟩
 self:=fun A i s Q E st h=>hself A i s Q E st h
def HF (tl:TE):TI:=fun σ H R=>tl σ H fun x H1=>∃ z,x=.str z/\R (Its z) H1
theorem Do {l:Expr}{tl:TE}(hl:PE X l tl):PI X tg l (HF tl):=by
 intro pins s σ H R I h
 refine thn (hl pins s σ H _ I h) fun v s1 ⟨x,H1,I1,r1,q1⟩=>?_
 obtain ⟨z,e,q⟩:=q1
 subst e
 obtain ⟨t,rfl⟩:=r1
 have fp:∀ b ∈ [s1.heap.objs.size],n8 X pins H1 b:=fun b hb=>by
  have e:b=s1.heap.objs.size:=(by exists hb)
  subst e
  exact I1.fpOk (aae _) (I1.hok.fresh (aae _))
 cases ha:z.cps.all (· < 128)
 ·exact wpAny_pyIter_wide ha ⟨s1.heap.objs.size,[s1.heap.objs.size],_,_,H1,rfl,I1.kept (t':=s1.toks) fun b o e=>Heap.get?_push_of_some _ e,lg "str_iterator" (by decide) _ z t (fun A hA=>Walks.strWide hA _ z t) (fun _ _ _ _ _ st h=>wpAny_pyIter_striter_wide st h),⟨_,Heap.get?_push_size _ rfl,rfl,rfl⟩,fp,q⟩
 ·exact wpAny_pyIter_ascii ha ⟨s1.heap.objs.size,[s1.heap.objs.size],_,_,H1,rfl,I1.kept (t':=s1.toks) fun b o e=>Heap.get?_push_of_some _ e,lg "str_ascii_iterator" (by decide) _ z t (fun A hA=>Walks.strAscii hA _ z t) (fun _ _ _ _ _ st h=>wpAny_pyIter_striter_ascii st h),⟨_,Heap.get?_push_size _ rfl,rfl,rfl⟩,fp,q⟩
section
variable {no:Nat}        {D:Addr}
end
def isT (t T:String):Bool:=t == T || (t == "bool" && T == "int")
def okT (T:String):Prop:=T = "str" ∨ T = "int" ∨ T = "bool" ∨ T = "list" ∨ T = "tuple" ∨ T = "dict" ∨ T = "NoneType"
theorem Dp {K:Frag}{t T:String}(ht:okT t)(hT:okT T):PySem.W.kitOne K (.type t) (.type T)=some (isT t T):=by
 rcases ht with rfl | rfl | rfl | rfl | rfl | rfl | rfl <;> rcases hT with rfl | rfl | rfl | rfl | rfl | rfl | rfl <;> rfl
theorem kB (bs:List Bool):TruthOf P w A (fun i v=>∃ b,bs[i]?=some b/\v=Value.bool b) (fun i=>bs.getD i false):=by
 intro i v s Q E hP hQ
 obtain ⟨b,hb,rfl⟩:=hP
 have e:bs.getD i false=b:=by rw [List.getD_eq_getElem?_getD,hb]; rfl
 exact aaH (by rw [← e]; exact hQ)
theorem oR {bs:List Bool}:(List.range bs.length).all (fun i=>bs.getD i false)=bs.all id:=by
 rw [abo,List.all_eq_true,List.all_eq_true]
 constructor
 ·intro h b hb
  obtain ⟨i,hi,e⟩:=List.mem_iff_getElem.mp hb
  have:=h i (List.mem_range.mpr hi)
  rw [List.getD_eq_getElem?_getD,List.getElem?_eq_getElem hi,e] at this
  exact this
 ·intro h i hi
  have hi:=List.mem_range.mp hi
  rw [List.getD_eq_getElem?_getD,List.getElem?_eq_getElem hi]
  exact h _ (aaP hi)
theorem oS {bs:List Bool}:(List.range bs.length).any (fun i=>bs.getD i false)=bs.any id:=by
 rw [abo,abx,abx]
 constructor
 ·rintro ⟨i,hi,h⟩
  have hi:=List.mem_range.mp hi
  rw [List.getD_eq_getElem?_getD,List.getElem?_eq_getElem hi] at h
  exact ⟨_,aaP hi,h⟩
 ·rintro ⟨b,hb,h⟩
  obtain ⟨i,hi,e⟩:=List.mem_iff_getElem.mp hb
  refine ⟨i,List.mem_range.mpr hi,?_⟩
  rw [List.getD_eq_getElem?_getD,List.getElem?_eq_getElem hi,e]
  exact h
theorem tu {bs:List Bool}:∀ {us:List Value},Vals (bs.map V.bl) us->us.length=bs.length/\∀ (i:Nat) (v:Value),us[i]?=some v->∃ b,bs[i]?=some b/\v=Value.bool b:=by
 intro us r
 have hl:=r.length
 rw [List.length_map] at hl
 refine ⟨hl.symm,fun i v h=>?_⟩
 have hi:i < us.length:=(List.getElem?_eq_some_iff.mp h).1
 have hib:i < bs.length:=by nofun
 obtain ⟨u,hu,ru⟩:=r.get (i:=i) (x:=.bl bs[i]) (by simp [hib])
 rw [h] at hu
 cases hu
 exact ⟨bs[i],by simp [hib],ru⟩
theorem gQ {bs:List Bool}(I:Inv X pins σ H s)(hq:SqL X.K H p (bs.map V.bl))(A:Around)(hA:A.handled=none){r:Bool}
  (fn:(List Nat)->(Nat->Bool)->Bool) (hr:fn (List.range bs.length) (fun i=>bs.getD i false)=r) (q:Q (.bl r) H) :
  wpAny (model X.prog X.w) A (pyIter (.ref p)) (fun it s₂=>∃ I fp wr n P St tr,it=.ref I/\Walks X.prog X.w A I fp wr n P St/\St 0 s₂.heap/\TruthOf X.prog X.w A P tr /\
   ∀ h' tk,(∀ b o,b ∉ wr->s₂.heap.get? b=some o->h'.get? b=some o)->EP X pins σ Q (.bool (fn (List.range n) tr)) { s₂ with heap:=h',toks:=tk }) E s:=by
 obtain ⟨its,rv,pl,hz⟩:=I.list hq
 obtain ⟨hl,hat⟩:=tu rv
 refine wpAny_pyIter_list pl.isList ?_
 have ne:p≠s.heap.objs.size:=by
  obtain ⟨o,ho,_⟩:=pl.isList
  exact aah (aaf ho)
 have hW:=Walks.list (prog:=X.prog) (w:=X.w) hA s.heap.objs.size p ne its.toArray
 have hW2:Walks X.prog X.w A s.heap.objs.size [s.heap.objs.size,p] [s.heap.objs.size] bs.length (fun i v=>∃ b,bs[i]?=some b/\v=Value.bool b) (fun i h=>h.IsListIter s.heap.objs.size p i/\h.IsList p its.toArray):=by
  have e:its.toArray.size=bs.length:=by simp [hl]
  rw [e] at hW
  exact { sub:=hW.sub,frame:=hW.frame,item:=fun i s Q E hi st hQ=>hW.item i s Q E hi st fun v h' tk hv=>hQ v h' tk (hat i v (by exists hv)),done:=hW.done,self:=hW.self }
 refine ⟨s.heap.objs.size,_,_,_,_,_,_,rfl,hW2,⟨⟨_,Heap.get?_push_size _ rfl,rfl,rfl⟩,?_⟩,kB bs,fun h' tk kk=>?_⟩
 ·obtain ⟨o,ho,r⟩:=pl.isList
  exact ⟨o,Heap.get?_push_of_some _ ho,r⟩
 ·refine ⟨.bl r,H,I.kept (h':=h') (t':=tk) fun b o e=>kk b o ?_ (Heap.get?_push_of_some _ e),by rw [← hr]; rfl,q⟩
  intro z
  have z:b=s.heap.objs.size:=(by exists z)
  exact absurd (aaf e) (by rw [z]; exact aaQ _)
theorem tw (hc:X.calm=true):CallR X (.builtin "all") (fun xs H Q=>∃ (p:Addr) (bs:List Bool),xs=[.ref p]/\SqL X.K H p (bs.map V.bl)/\Q (.bl (bs.all id)) H):=by
 intro pins s σ H xs us Q I r h
 obtain ⟨p,bs,rfl,hq,q⟩:=h
 obtain ⟨u,rfl,ru⟩:=du r
 cases ru
 exact call_all_walk (gQ I hq X.A.in1 (I.ok.hd hc) (fun l f=>l.all f) oR q)
theorem tz (hc:X.calm=true):CallR X (.builtin "any") (fun xs H Q=>∃ (p:Addr) (bs:List Bool),xs=[.ref p]/\SqL X.K H p (bs.map V.bl)/\Q (.bl (bs.any id)) H):=by
 intro pins s σ H xs us Q I r h
 obtain ⟨p,bs,rfl,hq,q⟩:=h
 obtain ⟨u,rfl,ru⟩:=du r
 cases ru
 exact call_any_walk (gQ I hq X.A.in1 (I.ok.hd hc) (fun l f=>l.any f) oS q)
theorem mV:OpR X (compareOp .In) (fun x y H Q=>∃ (c:Nat) (j:Str),x=.str ⟨#[c]⟩/\y=.str j/\Q (.bl (decide (c ∈ j.cps.toList))) H):=by
 intro pins s σ H x y v u Q I rx ry h
 obtain ⟨c,j,rfl,rfl,q⟩:=h
 exact om pins s σ H _ _ v u Q I rx ry ⟨_,j,rfl,rfl,by rw [PySem.StrLaws.found_one]; exact q⟩
theorem iq:OpR X (compareOp .NotIn) (fun x y H Q=>∃ (c:Nat) (j:Str),x=.str ⟨#[c]⟩/\y=.str j/\Q (.bl (!decide (c ∈ j.cps.toList))) H):=by
 intro pins s σ H x y v u Q I rx ry h
 obtain ⟨c,j,rfl,rfl,q⟩:=h
 exact jf pins s σ H _ _ v u Q I rx ry ⟨_,j,rfl,rfl,by rw [PySem.StrLaws.found_one]; exact q⟩
theorem fO (h:x.cps.toList=y.cps.toList):x=y:=by
 cases x with | mk a=>cases y with | mk b=>exact congrArg Str.mk (Array.toList_inj.mp h)
theorem bR (x:Str):x.length=x.cps.toList.length:=by simp [Str.length]
theorem ef (x y:Str):(x++y).cps.toList=x.cps.toList++y.cps.toList:=by
 show (x.cps++y.cps).toList=_
 simp
def gv {α:Type}(xs:List α)(lo hi:Option Int):List α:=(xs.drop (HT.sIx xs.length 0 lo)).take (HT.sIx xs.length xs.length hi - HT.sIx xs.length 0 lo)
theorem sliceRange_one (a b:Nat):sliceRange (a:Int) (b:Int) 1=(List.range (b - a)).map fun k=>a+k:=by
 unfold sliceRange
 simp only [show (1:Int) > 0 by decide,if_true]
 have e:(if (a:Int) < (b:Int) then ((b:Int) - (a:Int)+1 - 1) / 1 else 0).toNat=b - a:=by
  split <;> (try rw [Int.ediv_one]) <;> nofun
 rw [e]
 refine aa2 fun k _=>?_
 nofun
theorem mW (lo hi:Option Int)(n:Nat):Builtin.Str.strSliceIndices lo hi 1 n=(List.range (HT.sIx n n hi - HT.sIx n 0 lo)).map fun k=>HT.sIx n 0 lo+k:=by
 unfold Builtin.Str.strSliceIndices
 rw [← sliceRange_one]
 simp only [show (1:Int) > 0 by decide,if_true]
 congr 1
 ·cases lo with
  | none=>rfl
  | some v=>rw [← HT.clip_eq]; dsimp only; split <;> nofun
 ·cases hi with
  | none=>rfl
  | some v=>rw [← HT.clip_eq]; dsimp only; split <;> nofun
theorem gR {α:Type}(xs:List α)(a:Nat):∀ k:Nat,a+k<=xs.length->((List.range k).map fun j=>a+j).filterMap (fun i=>xs[i]?)=(xs.drop a).take k
 | 0,_=>by simp
 | k+1,h=>by
  have hk:a+k < xs.length:=by nofun
  rw [List.range_succ,aag,List.filterMap_append,gR xs a k (by nofun),List.take_add_one]
  congr 1
  simp [List.getElem?_drop,hk]
theorem oT (x:Str)(lo hi:Option Int):(Txt.slice x lo hi).cps.toList=gv x.cps.toList lo hi:=by
 have hl:x.cps.toList.length=x.length:=by simp [Str.length]
 have h1:=HT.sIx_le x.length 0 (aaq _) lo
 have h2:=HT.sIx_le x.length x.length (aae _) hi
 unfold Txt.slice gv
 rw [hl,mW]
 split
 ·rename_i hc
  simp only [beq_self_eq_true,Bool.true_and,List.length_map,List.length_range,beq_iff_eq] at hc
  have e1:HT.sIx x.length 0 lo=0:=by nofun
  have e2:HT.sIx x.length x.length hi=x.length:=by nofun
  rw [e1,e2,aaZ,Nat.sub_zero,aal (by nofun)]
 ·show (List.filterMap (fun i=>x.cps[i]?) _).toArray.toList=_
  have e:(fun i:Nat=>x.cps[i]?)=fun i:Nat=>x.cps.toList[i]?:=by funext i; simp
  rw [e]
  by_cases h:HT.sIx x.length 0 lo<=HT.sIx x.length x.length hi
  ·rw [gR x.cps.toList _ _ (by rw [hl]; nofun)]
  ·have e0:HT.sIx x.length x.length hi - HT.sIx x.length 0 lo=0:=by nofun
   rw [e0]
   simp
def Ja:V->Option Int->Option Int->Hp->VK->Prop:=fun x lo hi H Q=>∃ z,x=.str z/\z.length<=sizeLine/\∀ y:Str,y.cps.toList=gv z.cps.toList lo hi->Q (.str y) H
theorem Dq:SlR X Ja:=by
 intro pins s σ H x v vl vu lo hi sl Q I rx hs pl pu h
 obtain ⟨z,rfl,hz,q⟩:=h
 obtain ⟨t,rfl⟩:=rx
 refine ⟨"str", _,F.slot_str_getitem.lookup,typeIs_str _ _ _,?_⟩
 have fin:(Txt.slice z lo hi).length<=sizeLine/\∀ t' k,EP X pins σ Q (.str (Txt.slice z lo hi) t') { s with toks:=k } :=
  ⟨aav (Txt.slice_le z _ _) hz,fun t' k=>⟨.str _,H,I.tok k,⟨t',rfl⟩,q _ (oT z lo hi)⟩⟩
 obtain ⟨o,ho,hc,hd⟩:=hs
 cases pl with
 | none =>
  cases pu with
  | none=>exact abk (l:=none) (u:=none) (st:=none) ⟨o,ho,hc,hd⟩ rfl (post_val_or_str fin)
  | int j uj=>exact abk (l:=none) (u:=some (j,uj)) (st:=none) ⟨o,ho,hc,hd⟩ rfl (post_val_or_str fin)
 | int i ui =>
  cases pu with
  | none=>exact abk (l:=some (i,ui)) (u:=none) (st:=none) ⟨o,ho,hc,hd⟩ rfl (post_val_or_str fin)
  | int j uj=>exact abk (l:=some (i,ui)) (u:=some (j,uj)) (st:=none) ⟨o,ho,hc,hd⟩ rfl (post_val_or_str fin)
theorem oU:∀ {zs:List Str} {us:List Value},Vals (zs.map V.str) us->∃ l:List (Str×Tok),us=strValues l/\l.map (·.1)=zs
 | [],_,r=>by
  rw [List.map_nil] at r
  cases r
  exact ⟨[],rfl,rfl⟩
 | z::zs,_,r=>by
  rw [List.map_cons] at r
  cases r with
  | cons r1 r2 =>
   obtain ⟨t,rfl⟩:=r1
   obtain ⟨l,rfl,rfl⟩:=oU r2
   exact ⟨(z,t)::l,rfl,rfl⟩
def tD (K:Frag):V->List V->Hp->VK->Prop:=fun x vs H Q=>∃ (z:Str) (p:Addr) (zs:List Str),x=.str z/\vs=[.ref p]/\SqL K H p (zs.map V.str)/\(zs.map (·.length)).sum+zs.length * z.length<=16777216/\Q (.str (Builtin.Str.glued z zs)) H
theorem yG:MtR X "str.join" (tD X.K):=by
 intro pins s σ H x vs v us Q I rx rv h
 obtain ⟨z,p,zs,rfl,rfl,hq,hz,q⟩:=h
 obtain ⟨t,rfl⟩:=rx
 obtain ⟨u,rfl,ru⟩:=du rv
 cases ru
 obtain ⟨its,r,pl,hl⟩:=I.list hq
 obtain ⟨l,rfl,e⟩:=oU r
 exact SC.join pl.isList e (joinOk_of hz) fun t' k=>⟨.str _,H,I.tok k,⟨t',rfl⟩,q⟩
theorem fP (zs:List Str):(Builtin.Str.glued Str.empty zs).cps.toList=(zs.map fun z=>z.cps.toList).flatten:=by
 unfold Builtin.Str.glued
 have gen:∀ (l:List Str) (a:Array Nat),(l.foldl (fun acc p=>acc++Str.empty.cps++p.cps) a).toList=a.toList++(l.map fun z=>z.cps.toList).flatten:=by
  intro l
  induction l with
  | nil=>intro a; simp
  | cons y l ih=>intro a; rw [List.foldl_cons,ih]; simp [Str.empty]
 rw [gen]
 cases zs with
 | nil=>simp [Str.empty]
 | cons y l=>simp
inductive DV where
 | non | bl (b:Bool) | int (i:Int) | str (x:Str) | lst (xs:List DV) | tup (xs:List DV)
mutual
inductive Deep (K:Frag)(H:Hp):V->DV->Prop where
 | non:Deep K H .non .non
 | bl (b:Bool):Deep K H (.bl b) (.bl b)
 | int (i:Int):Deep K H (.int i) (.int i)
 | str (x:Str):Deep K H (.str x) (.str x)
 | lst {a:Addr} {xs:List V} {ds:List DV}:SqL K H a xs->Deeps K H xs ds->Deep K H (.ref a) (.lst ds)
 | tup {a:Addr} {xs:List V} {ds:List DV}:SqT K H a xs->Deeps K H xs ds->Deep K H (.ref a) (.tup ds)
inductive Deeps (K:Frag)(H:Hp):List V->List DV->Prop where
 | nil:Deeps K H [] []
 | cons {x:V} {d:DV} {xs:List V} {ds:List DV}:Deep K H x d->Deeps K H xs ds->Deeps K H (x::xs) (d::ds)
end
mutual
def deq:DV->DV->Bool
 | .non,.non=>true
 | .bl a,.bl b=>a == b
 | .bl a,.int b=>(if a then 1 else 0) == b
 | .int a,.bl b=>a == (if b then 1 else 0)
 | .int a,.int b=>a == b
 | .str a,.str b=>a == b
 | .lst a,.lst b=>deqs a b
 | .tup a,.tup b=>deqs a b
 | _,_=>false
def deqs:List DV->List DV->Bool
 | [],[]=>true
 | a::r,b::s=>deq a b && deqs r s
 | _,_=>false
end
mutual
def dep:DV->Nat
 | .lst a=>deps a+1
 | .tup a=>deps a+1
 | _=>0
def deps:List DV->Nat
 | []=>0
 | a::r=>max (dep a) (deps r)
end
mutual
theorem lh:∀ d:DV,deq d d=true
 | .non=>rfl
 | .bl b=>beq_self_eq_true b
 | .int i=>beq_self_eq_true i
 | .str x=>beq_self_eq_true x
 | .lst xs=>deqs_refl xs
 | .tup xs=>deqs_refl xs
theorem deqs_refl:∀ ds:List DV,deqs ds ds=true
 | []=>rfl
 | d::ds=>Bool.and_eq_true_iff.mpr ⟨lh d,deqs_refl ds⟩
end
theorem Deeps.length {K:Frag}{H:Hp}{xs:List V}{ds:List DV}(h:Deeps K H xs ds):xs.length=ds.length :=
 Deeps.rec (motive_1:=fun _ _ _=>True) (motive_2:=fun xs ds _=>xs.length=ds.length) trivial (fun _=>trivial) (fun _=>trivial) (fun _=>trivial) (fun _ _ _=>trivial) (fun _ _ _=>trivial) rfl (fun _ _ _ t=>congrArg (·+1) t) h
theorem Deeps.get {K:Frag}{H:Hp}:∀ {xs:List V} {ds:List DV} {i:Nat} {x:V},Deeps K H xs ds->xs[i]?=some x->∃ d,ds[i]?=some d/\Deep K H x d/\dep d<=deps ds
 | _,_,_,_,.nil,e=>by simp at e
 | _,_,0,_,.cons h _,e=>by
  simp at e; subst e
  exact ⟨_,rfl,h,by simp only [deps]; nofun⟩
 | _,_,i+1,x,.cons h t,e=>by
  obtain ⟨d,h1,h2,h3⟩:=Deeps.get (i:=i) (x:=x) t (by exists e)
  exact ⟨d,(by exists h1),h2,by simp only [deps]; nofun⟩
theorem gT:∀ {ds es:List DV},ds.length=es.length->(List.range ds.length).all (fun j=>deq (ds.getD j .non) (es.getD j .non))=deqs ds es:=by
 intro ds
 induction ds with
 | nil=>intro es h; cases es with
  | nil=>rfl
  | cons _ _=>simp at h
 | cons d ds ih =>
  intro es h
  cases es with
  | nil=>simp at h
  | cons e es =>
   have h':ds.length=es.length:=(by exists h)
   rw [List.length_cons,List.range_succ_eq_map,aaK,List.all_map]
   exact congrArg (deq d e && ·) (ih h')
theorem ir:∀ {ds es:List DV},ds.length≠es.length->deqs ds es=false
 | [],[],h=>absurd rfl h
 | [],_::_,_=>rfl
 | _::_,[],_=>rfl
 | d::ds,e::es,h=>by
  have h':ds.length≠es.length:=(by exists h)
  show (deq d e && deqs ds es)=false
  rw [ir h',Bool.and_false]
theorem tE {ds es:List DV}:((List.range (min ds.length es.length)).all (fun j=>deq (ds.getD j .non) (es.getD j .non)) && ds.length == es.length)=deqs ds es:=by
 by_cases h:ds.length=es.length
 ·rw [← gT h,← h,Nat.min_self]
  simp
 ·rw [ir h]
  simp [h]
theorem Inv.seq_inj (I:Inv X pins σ H s){ys:List V}(h:SqL X.K H a xs)(h':SqT X.K H a ys):False:=by
 obtain ⟨its,_,p,_⟩:=I.list h
 obtain ⟨its',_,p',_⟩:=I.tuple h'
 obtain ⟨o,e,c,_⟩:=p.isList
 obtain ⟨o',e',c',_⟩:=p'
 rw [e] at e'
 cases e'
 rw [c] at c'
 injection c' with z
 exact absurd z (by decide)
theorem Deep.inj (I:Inv X pins σ H s){x:V}{d e:DV}(h:Deep X.K H x d):Deep X.K H x e->d=e:=by
 refine Deep.rec (motive_1:=fun x d _=>∀ e,Deep X.K H x e->d=e) (motive_2:=fun xs ds _=>∀ es,Deeps X.K H xs es->ds=es) ?_ ?_ ?_ ?_ (fun h _ t e h'=>?_) (fun h _ t e h'=>?_) ?_ (fun _ _ h t e h'=>?_) h e
 ·intro e h'; cases h'; rfl
 ·intro _ e h'; cases h'; rfl
 ·intro _ e h'; cases h'; rfl
 ·intro _ e h'; cases h'; rfl
 ·cases h' with
  | lst h2 t' =>
   have e:=I.list_inj h h2
   subst e
   rw [t _ t']
  | tup h2 _=>exact (I.seq_inj h h2).elim
 ·cases h' with
  | tup h2 t' =>
   have e:=I.tuple_inj h h2
   subst e
   rw [t _ t']
  | lst h2 _=>exact (I.seq_inj h2 h).elim
 ·intro e h'; cases h'; rfl
 ·cases h' with | cons h2 t2=>rw [h _ h2,t _ t2]
theorem Deeps.inj (I:Inv X pins σ H s){xs:List V}{ds es:List DV}(h:Deeps X.K H xs ds):Deeps X.K H xs es->ds=es :=
 Deeps.rec (motive_1:=fun _ _ _=>True) (motive_2:=fun xs ds _=>∀ es,Deeps X.K H xs es->ds=es) trivial (fun _=>trivial) (fun _=>trivial) (fun _=>trivial) (fun _ _ _=>trivial) (fun _ _ _=>trivial) (fun es h'=>by cases h'; rfl) (fun h _ _ t es h'=>by cases h' with | cons h2 t2=>rw [h.inj I h2,t _ t2]) h es
theorem jq (I:Inv X pins σ H s):∀ (n:Nat) (d e:DV) (x y:V) (u v:Value) (A:Around),dep d<=n->A.units+n < cLine->Deep X.K H x d->Deep X.K H y e->RelV x u->RelV y v ->
  SeqAt.RcAt A s u v (deq d e)/\SeqAt.RcNeAt A s u v (!deq d e)/\SeqAt.EqAt A s u v (deq d e):=by
 intro n
 induction n with
 | zero =>
  intro d e x y u v A hd hu hx hy rx ry
  have hu0:A.units < cLine:=by nofun
  cases hx with
  | lst _ _=>simp only [dep] at hd; nofun
  | tup _ _=>simp only [dep] at hd; nofun
  | non =>
   cases rx
   cases hy with
   | non=>cases ry; exact ⟨SeqAt.RcAt.none_none,SeqAt.RcNeAt.none_none,abC _⟩
   | bl b=>cases ry; exact ⟨SeqAt.RcAt.none_bool b,SeqAt.RcNeAt.none_bool b,SeqAt.EqAt.none_bool b⟩
   | int b=>obtain ⟨t,rfl⟩:=ry; exact ⟨SeqAt.RcAt.none_int b t,SeqAt.RcNeAt.none_int b t,SeqAt.EqAt.none_int b t⟩
   | str b=>obtain ⟨t,rfl⟩:=ry; exact ⟨SeqAt.RcAt.none_str b t,SeqAt.RcNeAt.none_str b t,SeqAt.EqAt.none_str b t⟩
   | lst h _=>cases ry; obtain ⟨its,_,p,_⟩:=I.list h; exact ⟨SeqAt.RcAt.none_list p.isList hu0,SeqAt.RcNeAt.none_list p.isList hu0,SeqAt.EqAt.none_list p.isList hu0⟩
   | tup h _=>cases ry; obtain ⟨its,_,p,_⟩:=I.tuple h; exact ⟨SeqAt.RcAt.none_tuple p hu0,SeqAt.RcNeAt.none_tuple p hu0,SeqAt.EqAt.none_tuple p hu0⟩
  | bl a =>
   cases rx
   cases hy with
   | non=>cases ry; exact ⟨SeqAt.RcAt.bool_none a,SeqAt.RcNeAt.bool_none a,SeqAt.EqAt.bool_none a⟩
   | bl b=>cases ry; exact ⟨SeqAt.RcAt.bool_bool a b,SeqAt.RcNeAt.bool_bool a b,SeqAt.EqAt.bool_bool a b⟩
   | int b=>obtain ⟨t,rfl⟩:=ry; exact ⟨SeqAt.RcAt.bool_int a b t,SeqAt.RcNeAt.bool_int a b t,SeqAt.EqAt.bool_int a b t⟩
   | str b=>obtain ⟨t,rfl⟩:=ry; exact ⟨SeqAt.RcAt.bool_str a b t,SeqAt.RcNeAt.bool_str a b t,SeqAt.EqAt.bool_str a b t⟩
   | lst h _=>cases ry; obtain ⟨its,_,p,_⟩:=I.list h; exact ⟨SeqAt.RcAt.bool_list a p.isList hu0,SeqAt.RcNeAt.bool_list a p.isList hu0,SeqAt.EqAt.bool_list a p.isList hu0⟩
   | tup h _=>cases ry; obtain ⟨its,_,p,_⟩:=I.tuple h; exact ⟨SeqAt.RcAt.bool_tuple a p hu0,SeqAt.RcNeAt.bool_tuple a p hu0,SeqAt.EqAt.bool_tuple a p hu0⟩
  | int a =>
   obtain ⟨t',rfl⟩:=rx
   cases hy with
   | non=>cases ry; exact ⟨SeqAt.RcAt.int_none a t',SeqAt.RcNeAt.int_none a t',SeqAt.EqAt.int_none a t'⟩
   | bl b=>cases ry; exact ⟨SeqAt.RcAt.int_bool a t' b,SeqAt.RcNeAt.int_bool a t' b,SeqAt.EqAt.int_bool a t' b⟩
   | int b=>obtain ⟨t,rfl⟩:=ry; exact ⟨SeqAt.RcAt.int_int a t' b t,SeqAt.RcNeAt.int_int a t' b t,SeqAt.EqAt.int_int a t' b t⟩
   | str b=>obtain ⟨t,rfl⟩:=ry; exact ⟨SeqAt.RcAt.int_str a t' b t,SeqAt.RcNeAt.int_str a t' b t,SeqAt.EqAt.int_str a t' b t⟩
   | lst h _=>cases ry; obtain ⟨its,_,p,_⟩:=I.list h; exact ⟨SeqAt.RcAt.int_list a t' p.isList hu0,SeqAt.RcNeAt.int_list a t' p.isList hu0,SeqAt.EqAt.int_list a t' p.isList hu0⟩
   | tup h _=>cases ry; obtain ⟨its,_,p,_⟩:=I.tuple h; exact ⟨SeqAt.RcAt.int_tuple a t' p hu0,SeqAt.RcNeAt.int_tuple a t' p hu0,SeqAt.EqAt.int_tuple a t' p hu0⟩
  | str a =>
   obtain ⟨t',rfl⟩:=rx
   cases hy with
   | non=>cases ry; exact ⟨SeqAt.RcAt.str_none a t',SeqAt.RcNeAt.str_none a t',SeqAt.EqAt.str_none a t'⟩
   | bl b=>cases ry; exact ⟨SeqAt.RcAt.str_bool a t' b,SeqAt.RcNeAt.str_bool a t' b,SeqAt.EqAt.str_bool a t' b⟩
   | int b=>obtain ⟨t,rfl⟩:=ry; exact ⟨SeqAt.RcAt.str_int a t' b t,SeqAt.RcNeAt.str_int a t' b t,SeqAt.EqAt.str_int a t' b t⟩
   | str b=>obtain ⟨t,rfl⟩:=ry; exact ⟨SeqAt.RcAt.str_str a t' b t,SeqAt.RcNeAt.str_str a t' b t,SeqAt.EqAt.str_str a t' b t⟩
   | lst h _=>cases ry; obtain ⟨its,_,p,_⟩:=I.list h; exact ⟨SeqAt.RcAt.str_list a t' p.isList hu0,SeqAt.RcNeAt.str_list a t' p.isList hu0,SeqAt.EqAt.str_list a t' p.isList hu0⟩
   | tup h _=>cases ry; obtain ⟨its,_,p,_⟩:=I.tuple h; exact ⟨SeqAt.RcAt.str_tuple a t' p hu0,SeqAt.RcNeAt.str_tuple a t' p hu0,SeqAt.EqAt.str_tuple a t' p hu0⟩
 | succ n ih =>
  intro d e x y u v A hd hu hx hy rx ry
  have hu0:A.units < cLine:=by nofun
  have items:∀ {xs ys:List V} {ds es:List DV} {us vs:List Value},Deeps X.K H xs ds->Deeps X.K H ys es->deps ds<=n->Vals xs us->Vals ys vs->∀ j (h1:j < us.toArray.size) (h2:j < vs.toArray.size),SeqAt.EqAt A.in1 s us.toArray[j] vs.toArray[j] (deq (ds.getD j .non) (es.getD j .non)):=by
   intro xs ys ds es us vs hds hes hn rv rv' j h1 h2
   have h1':j < us.length:=(by exists h1)
   have h2':j < vs.length:=(by exists h2)
   have l1:=rv.length
   have l2:=rv'.length
   have ex:xs[j]?=some (xs[j]'(by nofun)):=List.getElem?_eq_getElem (by nofun)
   have ey:ys[j]?=some (ys[j]'(by nofun)):=List.getElem?_eq_getElem (by nofun)
   obtain ⟨d1,e1,p1,b1⟩:=hds.get ex
   obtain ⟨d2,e2,p2,b2⟩:=hes.get ey
   obtain ⟨u1,f1,r1⟩:=rv.get ex
   obtain ⟨u2,f2,r2⟩:=rv'.get ey
   have g1:us.toArray[j]=u1:=by
    have:us[j]?=some us[j]:=List.getElem?_eq_getElem h1'
    rw [f1] at this
    simpa using (aaj this).symm
   have g2:vs.toArray[j]=u2:=by
    have:vs[j]?=some vs[j]:=List.getElem?_eq_getElem h2'
    rw [f2] at this
    simpa using (aaj this).symm
   rw [g1,g2,List.getD_eq_getElem?_getD,List.getD_eq_getElem?_getD,e1,e2]
   exact (ih d1 d2 _ _ u1 u2 A.in1 (by nofun) (by show A.units+1+n < cLine; nofun) p1 p2 r1 r2).2.2
  by_cases h0:dep d<=0
  ·exact ih d e x y u v A (by nofun) (by nofun) hx hy rx ry
  cases hx with
  | non=>simp only [dep] at h0; nofun
  | bl _=>simp only [dep] at h0; nofun
  | int _=>simp only [dep] at h0; nofun
  | str _=>simp only [dep] at h0; nofun
  | @lst a xs ds h t =>
   cases rx
   simp only [dep] at hd
   obtain ⟨its,rv,p,hz⟩:=I.list h
   cases hy with
   | non=>cases ry; exact ⟨SeqAt.RcAt.list_none p.isList hu0,SeqAt.RcNeAt.list_none p.isList hu0,SeqAt.EqAt.list_none p.isList hu0⟩
   | bl b=>cases ry; exact ⟨SeqAt.RcAt.list_bool b p.isList hu0,SeqAt.RcNeAt.list_bool b p.isList hu0,SeqAt.EqAt.list_bool b p.isList hu0⟩
   | int b=>obtain ⟨t2,rfl⟩:=ry; exact ⟨SeqAt.RcAt.list_int b t2 p.isList hu0,SeqAt.RcNeAt.list_int b t2 p.isList hu0,SeqAt.EqAt.list_int b t2 p.isList hu0⟩
   | str b=>obtain ⟨t2,rfl⟩:=ry; exact ⟨SeqAt.RcAt.list_str b t2 p.isList hu0,SeqAt.RcNeAt.list_str b t2 p.isList hu0,SeqAt.EqAt.list_str b t2 p.isList hu0⟩
   | tup h' _ =>
    cases ry
    obtain ⟨its',_,p',_⟩:=I.tuple h'
    exact ⟨SeqAt.RcAt.list_tuple p.isList p' hu0,SeqAt.RcNeAt.list_tuple p.isList p' hu0,SeqAt.EqAt.list_tuple p.isList p' hu0⟩
   | @lst b ys es h' t' =>
    cases ry
    obtain ⟨its',rv',p',hz'⟩:=I.list h'
    have l1:=rv.length
    have l2:=rv'.length
    have l3:=t.length
    have l4:=t'.length
    have main:SeqAt.RcAt A s (.ref a) (.ref b) (deqs ds es)/\SeqAt.RcNeAt A s (.ref a) (.ref b) (!deqs ds es):=by
     by_cases hl:ds.length=es.length
     ·have e1:(List.range its.toArray.size).all (fun j=>deq (ds.getD j .non) (es.getD j .non))=deqs ds es:=by
       rw [← gT hl,show its.toArray.size=ds.length by simp; nofun]
      rw [← e1]
      exact ⟨SeqAt.RcAt.lists p.isList p'.isList (by simp; nofun) hu0 (items t t' (by nofun) rv rv'),SeqAt.RcNeAt.lists p.isList p'.isList (by simp; nofun) hu0 (items t t' (by nofun) rv rv')⟩
     ·rw [ir hl]
      exact ⟨SeqAt.RcAt.lists_lengths p.isList p'.isList (by simp; nofun) hu0,SeqAt.RcNeAt.lists_lengths p.isList p'.isList (by simp; nofun) hu0⟩
    refine ⟨main.1,main.2,?_⟩
    show SeqAt.EqAt A s (.ref a) (.ref b) (deqs ds es)
    by_cases hab:a=b
    ·subst hab
     have ee:=I.list_inj h h'
     subst ee
     rw [Deeps.inj I t t',deqs_refl]
     exact abC _
    ·exact SeqAt.EqAt.of_refs hab main.1
  | @tup a xs ds h t =>
   cases rx
   simp only [dep] at hd
   obtain ⟨its,rv,p,hz⟩:=I.tuple h
   cases hy with
   | non=>cases ry; exact ⟨SeqAt.RcAt.tuple_none p hu0,SeqAt.RcNeAt.tuple_none p hu0,SeqAt.EqAt.tuple_none p hu0⟩
   | bl b=>cases ry; exact ⟨SeqAt.RcAt.tuple_bool b p hu0,SeqAt.RcNeAt.tuple_bool b p hu0,SeqAt.EqAt.tuple_bool b p hu0⟩
   | int b=>obtain ⟨t2,rfl⟩:=ry; exact ⟨SeqAt.RcAt.tuple_int b t2 p hu0,SeqAt.RcNeAt.tuple_int b t2 p hu0,SeqAt.EqAt.tuple_int b t2 p hu0⟩
   | str b=>obtain ⟨t2,rfl⟩:=ry; exact ⟨SeqAt.RcAt.tuple_str b t2 p hu0,SeqAt.RcNeAt.tuple_str b t2 p hu0,SeqAt.EqAt.tuple_str b t2 p hu0⟩
   | lst h' _ =>
    cases ry
    obtain ⟨its',_,p',_⟩:=I.list h'
    exact ⟨SeqAt.RcAt.tuple_list p p'.isList hu0,SeqAt.RcNeAt.tuple_list p p'.isList hu0,SeqAt.EqAt.tuple_list p p'.isList hu0⟩
   | @tup b ys es h' t' =>
    cases ry
    obtain ⟨its',rv',p',hz'⟩:=I.tuple h'
    have l1:=rv.length
    have l2:=rv'.length
    have l3:=t.length
    have l4:=t'.length
    have e1:((List.range (min its.toArray.size its'.toArray.size)).all (fun j=>deq (ds.getD j .non) (es.getD j .non)) && its.toArray.size == its'.toArray.size)=deqs ds es:=by
     rw [← tE,show its.toArray.size=ds.length by simp; nofun,show its'.toArray.size=es.length by simp; nofun]
    have main:SeqAt.RcAt A s (.ref a) (.ref b) (deqs ds es)/\SeqAt.RcNeAt A s (.ref a) (.ref b) (!deqs ds es):=by
     rw [← e1]
     exact ⟨SeqAt.RcAt.tuples p p' hu0 (items t t' (by nofun) rv rv'),SeqAt.RcNeAt.tuples p p' hu0 (items t t' (by nofun) rv rv')⟩
    refine ⟨main.1,main.2,?_⟩
    show SeqAt.EqAt A s (.ref a) (.ref b) (deqs ds es)
    by_cases hab:a=b
    ·subst hab
     have ee:=I.tuple_inj h h'
     subst ee
     rw [Deeps.inj I t t',deqs_refl]
     exact abC _
    ·exact SeqAt.EqAt.of_refs hab main.1
def Jb (K:Frag):R2:=fun x y H Q=>∃ d e,Deep K H x d/\Deep K H y e/\dep d<=40/\Q (.bl (deq d e)) H
def Jc (K:Frag):R2:=fun x y H Q=>∃ d e,Deep K H x d/\Deep K H y e/\dep d<=40/\Q (.bl (!deq d e)) H
theorem Dr (hu:X.A.units+64 < cLine):OpR X (compareOp .Eq) (Jb X.K):=by
 intro pins s σ H x y v u Q I rx ry h
 obtain ⟨d,e,hd,he,hn,q⟩:=h
 exact (jq I 40 d e x y v u X.A hn (by nofun) hd he rx ry).1 _ _ _ _ ⟨.bl _,H,I,rfl,q⟩
theorem Ds (hu:X.A.units+64 < cLine):OpR X (compareOp .NotEq) (Jc X.K):=by
 intro pins s σ H x y v u Q I rx ry h
 obtain ⟨d,e,hd,he,hn,q⟩:=h
 exact (jq I 40 d e x y v u X.A hn (by nofun) hd he rx ry).2.1 _ _ _ _ ⟨.bl _,H,I,rfl,q⟩
structure Own (P:Program)(w:World)(K:Frag)(mg:Str->Option Value)(base:Heap)(x:Str)(k:Nat)(ps:List Str)(sp:Sp):Prop where
 ex:∃ (f:Addr) (fd:FuncData),FnOk P w K mg base CX0 k f fd ps sp/\mg x=some (.ref f)/\PySem.W.keepIn K (.ref f)=true/\Binds K fd ps []
def Glo (mg:Str->Option Value)(x:Str)(v:V):Prop:=∃ u,mg x=some u/\RelV v u
theorem Dt {e:Expr}{es:List Expr}{t:TA}{p:Pos}(O:Own X.prog X.w X.K X.mg X.base x k ps sp)(hr:Room k X.A)(ha:PA X (e::es) t)(hg:autoParam (Gl X x) L2.aR._auto_1)
  (hdb:autoParam ((x == ("__debug__" : Str))=false) L2.aD._auto_1) (he:autoParam (starEach (e::es) X.env=(false,eval e X.env)::starEach es X.env) L2.aR._auto_1) (hpl:autoParam ((backTo pos (starEach es X.env)).any (·.1)=false) L2.aR._auto_1) :
  PE X (.Call (.Name x p) (e::es) [] pos) (ku sp [] E0 t):=by
 obtain ⟨f,fd,F,hm,hk,hb⟩:=O.ex
 exact yg F hr hg hm hk hb .nil yx ha hdb he hpl
theorem wI    (h:Glo X.mg x v) (hg:autoParam (Gl X x) L2.aR._auto_1) (hd:autoParam ((x == ("__debug__" : Str))=false) L2.aD._auto_1):PE X (.Name x pos) (tC v):=by
 obtain ⟨u,hm,r⟩:=h
 exact xJ hg hm r hd
theorem HG  {T:String}  (hm:X.mg x=none) (hv:bootBuiltins x=some (.type T)) (hg:autoParam (Gl X x) L2.aR._auto_1) (hn:autoParam (x ≠ "__name__") L2.aD._auto_1) (hd:autoParam ((x == ("__debug__" : Str))=false) L2.aD._auto_1):PE X (.Name x pos) (tC (.ty T)) :=
 xK hg hm hv rfl hn hd
def Du (K:Frag):V->Option Int->Option Int->Hp->VK->Prop:=fun x lo hi H Q=>Ja x lo hi H Q∨I8 K x lo hi H Q∨IX K x lo hi H Q
theorem wJ:SlR X (Du X.K):=Dq.or (yq.or Db)
def Cn (K:Frag):List V->Hp->VK->Prop:=fun xs H Q=>(∃ z,xs=[.str z]/\z.length<=sizeLine/\Q (.int z.length) H)∨(∃ p ys,xs=[.ref p]/\(SqL K H p ys∨SqT K H p ys)/\Q (.int ys.length) H)∨(∃ a kvs,xs=[V.ref a]/\Rd H a (.dK kvs)/\Q (.int kvs.length) H)
theorem mX:CallR X (.builtin "len") (fun xs H Q=>∃ a kvs,xs=[V.ref a]/\Rd H a (.dK kvs)/\Q (.int kvs.length) H):=by
 intro pins s σ H xs us Q I r h
 obtain ⟨a,kvs,rfl,ha,q⟩:=h
 obtain ⟨u,rfl,ru⟩:=du r
 cases ru
 exact HB I ha fun t s' I'=>⟨.int kvs.length,H,I',⟨t,rfl⟩,q⟩
theorem DGet.kR {kvs:List (Key×V)}{k:Key}(e:Rd H a (.dK kvs)):DGet H a (kV k) (eM kvs k):=.inl ⟨kvs,k,e,rfl,rfl⟩
theorem oV:CallR X (.builtin "len") (Cn X.K):=jh.or (jg.or mX)
def HH:List V->Hp->VK->Prop:=fun xs H Q=>∃ i j,xs=[.int i,.int j]/\Q (.int (if j > i then j else i)) H
def HI:List V->Hp->VK->Prop:=fun xs H Q=>∃ i j,xs=[.int i,.int j]/\Q (.int (if j < i then j else i)) H
theorem oW (hc:X.calm=true):CallR X (.builtin "max") HH:=oq hc
theorem oX (hc:X.calm=true):CallR X (.builtin "min") HI:=ou hc
def GV (K:Frag):List V->Hp->VK->Prop:=fun xs H Q=>∃ (p:Addr) (bs:List Bool),xs=[.ref p]/\SqL K H p (bs.map V.bl)/\Q (.bl (bs.all id)) H
def GW (K:Frag):List V->Hp->VK->Prop:=fun xs H Q=>∃ (p:Addr) (bs:List Bool),xs=[.ref p]/\SqL K H p (bs.map V.bl)/\Q (.bl (bs.any id)) H
theorem oY (hc:X.calm=true):CallR X (.builtin "all") (GV X.K):=tw hc
theorem oZ (hc:X.calm=true):CallR X (.builtin "any") (GW X.K):=tz hc
def rInS:R2:=fun x y H Q=>∃ (c:Nat) (j:Str),x=.str ⟨#[c]⟩/\y=.str j/\Q (.bl (decide (c ∈ j.cps.toList))) H
def yH:R2:=fun x y H Q=>∃ (c:Nat) (j:Str),x=.str ⟨#[c]⟩/\y=.str j/\Q (.bl (!decide (c ∈ j.cps.toList))) H
def Jd (K:Frag):R2:=fun x y H Q=>rInS x y H Q∨rIn K false x y H Q
def o0 (K:Frag):R2:=fun x y H Q=>yH x y H Q∨rIn K true x y H Q
theorem Dv:OpR X (compareOp .In) (Jd X.K):=OpR.or mV oE
theorem o4:OpR X (compareOp .NotIn) (o0 X.K):=OpR.or iq je
section
variable    {R:Bool->Hp->Prop} {QA:List V->Hp->Prop} {D:Ends} {K:Frag}
end
theorem bn {o:HO}(hp:H p=none):Same H (upd H p o):=fun b u h=>by rw [ae (a8 h hp)]; exact h
theorem SqT.same {K:Frag}{H H':Hp}{a:Addr}{xs:List V}(h:SqT K H a xs)(e:Same H H'):SqT K H' a xs:=by
 rcases h with (h | ⟨o,h⟩) | h
 ·exact .inl (.inl (e _ _ h))
 ·exact .inl (.inr ⟨o,e _ _ h⟩)
 ·exact .inr h
def yI (N:List Str)(names:List (Str×NameKind)):List Str->List Nat->Bool
 | [],[]=>true
 | x::F,i::ixs=>(N[i]? == some x) && (names.lookup x == some .free) && yI N names F ixs
 | _,_=>false
theorem li {N:List Str}{names:List (Str×NameKind)}:∀ {F:List Str} {ixs:List Nat},yI N names F ixs=true->ixs.length=F.length /\
  ∀ (j i:Nat) (x:Str),ixs[j]?=some i->F[j]?=some x->N[i]?=some x/\names.lookup x=some .free
 | [],[],_=>⟨rfl,fun j i x h=>by simp at h⟩
 | [],_::_,h=>(Bool.false_ne_true h).elim
 | _::_,[],h=>(Bool.false_ne_true h).elim
 | y::F,k::ixs,h=>by
  obtain ⟨h,h3⟩:=Bool.and_eq_true_iff.mp h
  obtain ⟨h1,h2⟩:=Bool.and_eq_true_iff.mp h
  replace h1:=eq_of_beq h1
  replace h2:=eq_of_beq h2
  obtain ⟨l,r⟩:=li h3
  refine ⟨by rw [List.length_cons,List.length_cons,l],fun j i x a b=>?_⟩
  cases j with
  | zero =>
   simp at a b
   subst a b
   exact ⟨h1,h2⟩
  | succ j=>exact r j i x (by exists a) (by exists b)
def Je (names out:List (Str×NameKind)):Bool:=names.all fun y=>(y.2 != .cell) && (y.2 != .local || names.lookup y.1 == some .local) && (y.2 != .free || out.lookup y.1 == some .cell || out.lookup y.1 == some .free)
theorem CompScope.of (kind:scope.kind=.function)(h1:yI X.N scope.names F ixs=true)(h2:Je scope.names X.env.scope.names=true):CompScope X T F ixs scope:=by
 obtain ⟨l,c⟩:=li h1
 unfold Je at h2
 rw [List.all_eq_true] at h2
 refine ⟨kind,fun y hy=>?_,fun y hy e=>?_,fun j i x=>c j i x,l,fun y hy e=>?_⟩
 ·have:=h2 y hy
  simp only [Bool.and_eq_true] at this
  simpa using this.1.1
 ·have:=h2 y hy
  simp only [Bool.and_eq_true] at this
  have q:=this.1.2
  rw [e] at q
  simpa using q
 ·have:=h2 y hy
  simp only [Bool.and_eq_true] at this
  have q:=this.2
  rw [e] at q
  simpa using q
def GX (K:Frag):R2:=fun x y H Q=>rEq x y H Q∨Jb K x y H Q
def GY (K:Frag):R2:=fun x y H Q=>rNe x y H Q∨Jc K x y H Q
theorem Dw (hu:X.A.units+64 < cLine):OpR X (compareOp .Eq) (GX X.K):=Ho.or (Dr hu)
theorem Dx (hu:X.A.units+64 < cLine):OpR X (compareOp .NotEq) (GY X.K):=Hq.or (Ds hu)
end L2
namespace L2
open PySem
variable{α:Type}
theorem wK {xs:List α}{i:Int}(h0:0<=i)(h:i < xs.length):∃ c,atI xs i=some c/\c ∈ xs:=by
 obtain ⟨k,rfl⟩:=Int.eq_ofNat_of_zero_le h0
 have hk:k < xs.length:=by nofun
 exact ⟨xs[k],cp (List.getElem?_eq_getElem hk),aaP hk⟩
theorem tF {xs:List α}{lo hi:Option Int}{c:α}(h:c ∈ gv xs lo hi):c ∈ xs:=List.mem_of_mem_drop (List.mem_of_mem_take h)
theorem o5 (xs:List α)(k:Nat):gv xs none (some (k:Int))=xs.take k:=by
 unfold gv
 rw [HT.sIx_none,HT.sIx_nat,Nat.sub_zero,aaZ]
 by_cases h:k<=xs.length
 ·rw [Nat.min_eq_left h]
 ·rw [Nat.min_eq_right (by nofun),aal (aae _),aal (by nofun)]
theorem jr (xs:List α)(k:Nat):gv xs (some (k:Int)) none=xs.drop k:=by
 unfold gv
 rw [HT.sIx_none,HT.sIx_nat]
 by_cases h:k<=xs.length
 ·rw [Nat.min_eq_left h,aal (by rw [abv]; nofun)]
 ·rw [Nat.min_eq_right (by nofun),List.drop_of_length_le (aae _),List.drop_of_length_le (by nofun)]
  simp
theorem o7 {z:Str}{l:List Nat}(h:z.cps.toList=l):z.length=l.length:=by rw [← h]; simp [Str.length]
end L2
namespace L2
open PySem PySem.Spec PyProof.Rows
variable{o tg l:Expr}{es:List Expr}{to tl:TE}{name:Str}{apos cpos:Pos}{T:String}{r:V->List V->Hp->VK->Prop}
section
variable {X:Cx}
theorem Dy (K:Frag)(hu:X.A.units+64 < cLine)(h:autoParam (X.K=K) L2.aR._auto_1):OpR X (compareOp .Eq) (GX K):=by subst h; exact Dw hu
theorem Dz (K:Frag)(hu:X.A.units+64 < cLine)(h:autoParam (X.K=K) L2.aR._auto_1):OpR X (compareOp .NotEq) (GY K):=by subst h; exact Dx hu
theorem yJ (K:Frag)(h:autoParam (X.K=K) L2.aR._auto_1):SlR X (Du K):=by subst h; exact wJ
theorem o8 (K:Frag)(h:autoParam (X.K=K) L2.aR._auto_1):CallR X (.builtin "len") (Cn K):=by subst h; exact oV
theorem o9 (K:Frag)(hc:X.calm=true)(h:autoParam (X.K=K) L2.aR._auto_1):CallR X (.builtin "all") (GV K):=by subst h; exact oY hc
theorem pb (K:Frag)(hc:X.calm=true)(h:autoParam (X.K=K) L2.aR._auto_1):CallR X (.builtin "any") (GW K):=by subst h; exact oZ hc
theorem tG (K:Frag)(h:autoParam (X.K=K) L2.aR._auto_1):MtR X "str.join" (tD K):=by subst h; exact yG
theorem DA {e:Expr}   {t:TA}   {id:String}  (K:Frag) (pa:PlainAttrs T) (slot:Slot T name id) (hty:typeOf (.builtin id)=pure (.type "method_descriptor")) (hm:MtR X id r) (ho:PE X o to) (ha:PA X (e::es) t)
  (hK:autoParam (X.K=K) L2.aR._auto_1) (hbase:autoParam (attributeBase o name X.env (eval o X.env)=eval o X.env) L2.aR._auto_1)
  (hfew:autoParam (((backTo cpos (starEach (e::es) X.env)).all (fun x=>!x.1) && (backToKw cpos (keywordEach [] X.env)).all (fun x=>x.1.isSome)
   && decide ((e::es).length+([]:List Keyword).length+(if ([]:List Keyword).isEmpty then 0 else 1) < 30))=true) L2.aR._auto_1)
  (hline:autoParam ((apos.endLine == cpos.line)=true) L2.aR._auto_1) (hs:autoParam (starEach (e::es) X.env=(false,eval e X.env)::starEach es X.env) L2.aR._auto_1) (hplain:autoParam ((backTo cpos (starEach es X.env)).any (·.1)=false) L2.aR._auto_1) :
  PE X (.Call (.Attribute o name apos) (e::es) [] cpos) (tBM K T r to t):=by subst hK; exact Hx pa slot hty hm ho ha hbase hfew hline hs hplain
theorem yL     {id:String}  (K:Frag) (pa:PlainAttrs T) (slot:Slot T name id) (hty:typeOf (.builtin id)=pure (.type "method_descriptor")) (hm:MtR X id r) (ho:PE X o to)
  (hK:autoParam (X.K=K) L2.aR._auto_1) (hbase:autoParam (attributeBase o name X.env (eval o X.env)=eval o X.env) L2.aR._auto_1) (hline:autoParam ((apos.endLine == cpos.line)=true) L2.aR._auto_1):PE X (.Call (.Attribute o name apos) [] [] cpos) (Cl K T r to):=by subst hK; exact Di pa slot hty hm ho hbase hline
theorem yM {k:Nat}{t:TGs}{n:Nat}{pos:Pos}(K:Frag)(hc:X.calm=true)(h:PGs X es t)(hK:autoParam (X.K=K) L2.aR._auto_1)
  (hn:autoParam ((assignEach es X.env).length=n) L2.aR._auto_1) (hst:autoParam ((assignEach es X.env).findIdx? (·.1)=none) L2.aR._auto_1):PG X (.Tuple es k pos) (GO K n t):=by subst hK; exact CL hc h hn hst
theorem tH (K:Frag)(hl:PE X l tl)(hK:autoParam (X.K=K) L2.aR._auto_1):PI X tg l (kq K tl):=by subst hK; exact xW hl
theorem yN (K:Frag)(hl:PE X l tl)(hK:autoParam (X.K=K) L2.aR._auto_1):PI X tg l (GP K tl):=by subst hK; exact CP hl
end
end L2
namespace L2
open PySem
end L2
namespace L2
theorem fj {α:Type}:∀ zs:List α,(zs.map fun _=>1).sum=zs.length
 | []=>rfl
 | z::zs=>by rw [List.map_cons,List.sum_cons,fj zs,List.length_cons]; nofun
end L2
namespace L2
open PySem PySem.Spec PyProof.Rows
variable{e a b c o tg iter l:Expr}{es:List Expr}{env:Env}{pos p apos cpos:Pos}{X:Cx}{te ta tb to tl:TE}{t:TA}{x name:Str}{k i:Nat}{ps:List Str}{sp:Sp}{r:List V->Hp->VK->Prop}{T:String}{op op':CmpOp}{tc tA tB':TT}{r':R2}{trs:List (TE×TE)}{wi:TI}{g:TG}{st:Stmt}{u:TS}{body:List Stmt}
def bi:Expr->Bool
 | .Starred _ _=>false
 | _=>true
theorem aT (h:bi e=true):starEach (e::es) env=(false,eval e env)::starEach es env:=by
 cases e <;> first | rfl | (cases h)
theorem cv (h:es.all bi=true):(backTo pos (starEach es env)).any (·.1)=false:=by
 induction es with
 | nil=>rfl
 | cons e es ih =>
  rw [aaK,Bool.and_eq_true] at h
  rw [aT h.1]
  have:=ih h.2
  simpa [backTo] using this
theorem pa_c (ha:PE X e te)(hr:PA X es t)(hn:autoParam (bi e=true) L2.aR._auto_1):PA X (e::es) (dl te t):=ye ha hr (aT hn)
theorem yO (O:Own X.prog X.w X.K X.mg X.base x k ps sp)(hr:Room k X.A)(ha:PA X (e::es) t)(hg:autoParam (Gl X x) L2.aR._auto_1)(hn:autoParam ((e::es).all bi=true) L2.aR._auto_1)
  (hdb:autoParam ((x == ("__debug__" : Str))=false) L2.aD._auto_1):PE X (.Call (.Name x p) (e::es) [] pos) (ku sp [] E0 t):=by
 have h:=hn
 rw [aaK,Bool.and_eq_true] at h
 exact Dt O hr ha hg hdb (aT h.1) (cv h.2)
theorem pc      {id:String}  (hc:CallR X (.builtin id) r) (hm:X.mg x=none) (hv:bootBuiltins x=some (.builtin id)) (ha:PA X (e::es) t) (hg:autoParam (Gl X x) L2.aR._auto_1) (hns:autoParam ((e::es).all bi=true) L2.aR._auto_1) (hn:autoParam (x ≠ "__name__") L2.aD._auto_1)
  (hdb:autoParam ((x == ("__debug__" : Str))=false) L2.aD._auto_1):PE X (.Call (.Name x p) (e::es) [] pos) (tCB r t):=by
 have h:=hns
 rw [aaK,Bool.and_eq_true] at h
 exact sP hc hg hm hv ha hn hdb (aT h.1) (cv h.2)
theorem pd        (hc:CallR X (.type T) r) (hm:X.mg x=none) (hv:bootBuiltins x=some (.type T)) (ha:PA X (e::es) t) (hg:autoParam (Gl X x) L2.aR._auto_1) (hns:autoParam ((e::es).all bi=true) L2.aR._auto_1) (hn:autoParam (x ≠ "__name__") L2.aD._auto_1)
  (hdb:autoParam ((x == ("__debug__" : Str))=false) L2.aD._auto_1):PE X (.Call (.Name x p) (e::es) [] pos) (tCB r t):=by
 have h:=hns
 rw [aaK,Bool.and_eq_true] at h
 exact oB hc hg hm hv ha hn hdb (aT h.1) (cv h.2)
structure BE (X:Cx)(e:Expr)(t:TE):Prop where h:PE X e t
structure BT (X:Cx)(e:Expr)(t:TT):Prop where h:PT X e t
structure BW (X:Cx)(e:Expr)(t:TT):Prop where h:PW X e t
structure BA (X:Cx)(es:List Expr)(t:TA):Prop where h:PA X es t
structure BS (X:Cx)(s:Stmt)(t:TS):Prop where h:PS X s t
structure BSs (X:Cx)(s:List Stmt)(t:TS):Prop where h:PSs X s t
structure BG (X:Cx)(e:Expr)(t:TG):Prop where h:PG X e t
structure BGs (X:Cx)(es:List Expr)(t:TGs):Prop where h:PGs X es t
structure BI (X:Cx)(tg e:Expr)(t:TI):Prop where h:PI X tg e t
structure BO (X:Cx)(e:Option Expr)(t:TO):Prop where h:PO X e t
structure BIf (X:Cx)(es:List Expr)(t:TT):Prop where h:Cm X es t
structure BPs (X:Cx)(pos:Pos)(ks:List (Option Expr))(vs:List Expr)(t:List (TE×TE)):Prop where h:PPs X pos ks vs t
structure BOp (X:Cx)(f:Value->Value->Sem Value)(r:R2):Prop where h:OpR X f r
structure BCall (X:Cx)(f:Value)(r:List V->Hp->VK->Prop):Prop where h:CallR X f r
structure BMt (X:Cx)(id:String)(r:V->List V->Hp->VK->Prop):Prop where h:MtR X id r
theorem wL (i:Nat)   (hN:X.N[i]?=some x) (hv:Vis X.env.scope x) (hd:autoParam ((x == ("__debug__" : Str))=false) L2.aD._auto_1) (hcd:autoParam ((x == ("__classdict__" : Str))=false) L2.aD._auto_1):BE X (.Name x pos) (cO i):=⟨Cy hN hv hd hcd⟩
theorem we_vl (i:Nat)(hN:autoParam (X.N[i]?=some x) L2.aR._auto_1)(hv:autoParam (X.env.scope.names.lookup x=some .local) L2.aR._auto_1)(hd:autoParam ((x==("__debug__":Str))=false) L2.aD._auto_1)(hcd:autoParam ((x==("__classdict__":Str))=false) L2.aD._auto_1):BE X (.Name x pos) (cO i):=wL i hN (.inl hv) hd hcd
theorem wM {i j pos}:BE X (.Constant (.int i) j pos) (tC (.int i)):=⟨Cz⟩
theorem HJ {b j pos}:BE X (.Constant (.bool b) j pos) (tC (.bl b)):=⟨G8⟩
theorem DB {j pos}:BE X (.Constant .none j pos) (tC .non):=⟨CA⟩
theorem wN {x j pos}:BE X (.Constant (.str x) j pos) (tC (.str x)):=⟨CB⟩
theorem DC  {v:V}  (h:Glo X.mg x v) (hg:X.env.kindOf x=some .globalImplicit) (hd:autoParam ((x == ("__debug__" : Str))=false) L2.aD._auto_1):BE X (.Name x pos) (tC v):=⟨wI h hg hd⟩
theorem HK    (hm:X.mg x=none) (hv:bootBuiltins x=some (.type T)) (hg:X.env.kindOf x=some .globalImplicit) (hn:autoParam (x ≠ "__name__") L2.aD._auto_1) (hd:autoParam ((x == ("__debug__" : Str))=false) L2.aD._auto_1):BE X (.Name x pos) (tC (.ty T)):=⟨HG hm hv hg hn hd⟩
theorem HL {op:Operator}{r:R2}(ho:BOp X (binaryOp op) r)(ha:BE X a ta)(hb:BE X b tb):BE X (.BinOp a op b pos) (tOp r ta tb):=⟨Hm ho.h ha.h hb.h⟩
theorem wO (ha:BE X a ta):BE X (.UnaryOp .USub a pos) (tUn (rU fun i=>.int (-i)) ta):=⟨Hn CY ha.h⟩
theorem DD (ha:BE X a ta):BE X (.UnaryOp .Not a pos) (xN ta):=⟨CJ ha.h⟩
theorem DE {op}{t:TE}(h:BE X a t):BE X (.BoolOp op [a] pos) t:=⟨CH h.h⟩
theorem DF {af:List Expr}(ha:BE X a ta)(hb:BE X (.BoolOp .And (b::af) pos) tb):BE X (.BoolOp .And (a::b::af) pos) (xM ta tb):=⟨CI ha.h hb.h⟩
theorem DG {r:R2}(ho:BOp X (compareOp op) r)(ha:BE X a ta)(hb:BE X b tb)(hm:behindInMarks op b=false):BE X (.Compare a [op] [b] pos) (tOp r ta tb):=⟨x2 ho.h ha.h hb.h hm⟩
theorem tI {tc:TE}{r:R2}(ho:BOp X (compareOp op) r)(ho':BOp X (compareOp op') r')(ha:BE X a ta)(hb:BE X b tb)(hc:BE X c tc)(hm:lastMarks [op,op'] [b,c]=false):BE X (.Compare a [op,op'] [b,c] pos) (i8 r r' ta tb tc):=⟨sI ho.h ho'.h ha.h hb.h hc.h hm⟩
theorem HM (hc:BT X c tA)(ha:BE X a ta)(hb:BE X b tb):BE X (.IfExp c a b pos) (tIf tA ta tb):=⟨sA hc.h ha.h hb.h⟩
theorem DH (O:Own X.prog X.w X.K X.mg X.base x k ps sp)(hr:Room k X.A)(ha:BA X (e::es) t)(hg:X.env.kindOf x=some .globalImplicit)(hn:(e::es).all bi=true)
  (hdb:autoParam ((x == ("__debug__" : Str))=false) L2.aD._auto_1):BE X (.Call (.Name x p) (e::es) [] pos) (ku sp [] E0 t):=⟨yO O hr ha.h hg hn hdb⟩
theorem tJ      {id:String}  (hc:BCall X (.builtin id) r) (hm:X.mg x=none) (hv:bootBuiltins x=some (.builtin id)) (ha:BA X (e::es) t) (hg:X.env.kindOf x=some .globalImplicit) (hns:(e::es).all bi=true) (hn:autoParam (x ≠ "__name__") L2.aD._auto_1)
  (hdb:autoParam ((x == ("__debug__" : Str))=false) L2.aD._auto_1):BE X (.Call (.Name x p) (e::es) [] pos) (tCB r t):=⟨pc hc.h hm hv ha.h hg hns hn hdb⟩
theorem tK        (hc:BCall X (.type T) r) (hm:X.mg x=none) (hv:bootBuiltins x=some (.type T)) (ha:BA X (e::es) t) (hg:X.env.kindOf x=some .globalImplicit) (hns:(e::es).all bi=true) (hn:autoParam (x ≠ "__name__") L2.aD._auto_1)
  (hdb:autoParam ((x == ("__debug__" : Str))=false) L2.aD._auto_1):BE X (.Call (.Name x p) (e::es) [] pos) (tCB r t):=⟨pd hc.h hm hv ha.h hg hns hn hdb⟩
theorem lj (h:es.all bi=true)(hl:es.length < 29):((backTo pos (starEach es env)).all (fun x=>!x.1) && (backToKw pos (keywordEach [] env)).all (fun x=>x.1.isSome)
      && decide (es.length+([]:List Keyword).length+(if ([]:List Keyword).isEmpty then 0 else 1) < 30))=true:=by
  have h1:(backTo pos (starEach es env)).all (fun x=>!x.1)=true:=by
    clear hl
    induction es with
    | nil=>rfl
    | cons e es ih =>
      rw [aaK,Bool.and_eq_true] at h
      rw [aT h.1]
      exact ih h.2
  rw [h1]
  exact decide_eq_true (aaJ hl)
theorem yQ       {id:String} {r:V->List V->Hp->VK->Prop} (K:Frag) (pa:PlainAttrs T) (slot:Slot T name id) (hty:typeOf (.builtin id)=pure (.type "method_descriptor")) (hm:BMt X id r) (ho:BE X o to) (ha:BA X (e::es) t)
  (hK:X.K=K) (hbase:attributeBase o name X.env (eval o X.env)=eval o X.env) (hn:(e::es).all bi=true) (hl:(e::es).length < 29) (hline:(apos.endLine == cpos.line)=true):BE X (.Call (.Attribute o name apos) (e::es) [] cpos) (tBM K T r to t):=by
 have h:=hn
 rw [aaK,Bool.and_eq_true] at h
 exact ⟨DA K pa slot hty hm.h ho.h ha.h hK hbase (lj hn hl) hline (aT h.1) (cv h.2)⟩
theorem tL     {id:String} {r:V->List V->Hp->VK->Prop} (K:Frag) (pa:PlainAttrs T) (slot:Slot T name id) (hty:typeOf (.builtin id)=pure (.type "method_descriptor")) (hm:BMt X id r) (ho:BE X o to)
  (hK:X.K=K) (hbase:attributeBase o name X.env (eval o X.env)=eval o X.env) (hline:(apos.endLine == cpos.line)=true):BE X (.Call (.Attribute o name apos) [] [] cpos) (Cl K T r to):=⟨yL K pa slot hty hm.h ho.h hK hbase hline⟩
theorem tM {lo hi:Option Expr}{tl th:TO}{p2:Pos}(K:Frag)(he:BE X e te)(hl:BO X lo tl)(hu:BO X hi th)(hK:X.K=K):BE X (.Subscript e (.Slice lo hi none p2) pos) (tSl (Du K) te tl th):=⟨k7 (yJ K hK) he.h hl.h hu.h⟩
theorem DI (h:BA X es t):BE X (.List es pos) (GU t):=⟨Da h.h⟩
theorem DJ {x1}(h:BA X es t):BE X (.Tuple es x1 pos) (GT t):=⟨C9 h.h⟩
theorem yR :BE X (.Dict [] [] pos) oH:=⟨sX⟩
theorem pf {k:Option Expr}{keys:List (Option Expr)}{values:List Expr}(h:BPs X pos (k::keys) values trs)(hall:(k::keys).all (·.isSome)=true)(hl:(k::keys).length=values.length)(h15:(k::keys).length<=15):BE X (.Dict (k::keys) values pos) (yv trs):=⟨yw h.h hall hl (fun z=>nomatch z) h15⟩
theorem yS :BPs X pos [] [] []:=⟨yu⟩
theorem tN {k v:Expr}{ks:List (Option Expr)}{vs:List Expr}{tk tv:TE}(hk:BE X k tk)(hv:BE X v tv)(hr:BPs X pos ks vs trs):BPs X pos (some k::ks) (v::vs) ((tk,tv)::trs):=⟨sZ hk.h hv.h hr.h⟩
theorem yT {T F:List Str}{ixs:List Nat}{scope:Scope}{elt:Expr}{ifs:List Expr}(hc:X.calm=true)(S:CompScope X T F ixs scope)(hi:BI X tg iter wi)
  (hg:∀ C s H fp,BG (bm X (T++F) scope (ax X.env scope.names []) C s H fp) tg g) (ht:∀ C s H fp,BIf (bm X (T++F) scope (ax X.env scope.names []) C s H fp) ifs tc) (he:∀ C s H fp,BE (bm X (T++F) scope (ax X.env scope.names []) C s H fp) elt te)
  (hs:∀ x,foldedSetIterable iter X.env x=pure x):BE X (.ListComp elt [⟨tg,iter,ifs,0⟩] scope pos) (dm T.length ixs wi g tc te) :=
 ⟨yD hc S hi.h (fun C s H fp=>(hg C s H fp).h) (fun C s H fp=>(ht C s H fp).h) (fun C s H fp=>(he C s H fp).h) hs⟩
theorem DK:BA X [] kr:=⟨C8⟩
theorem wa_c (ha:BE X e te)(hr:BA X es t)(hn:bi e=true):BA X (e::es) (dl te t):=⟨pa_c ha.h hr.h hn⟩
theorem yU:BO X none kx:=⟨yk⟩
theorem yV (h:BE X e te):BO X (some e) (yj te):=⟨yl h.h⟩
theorem yY:BIf X [] HE:=⟨yy⟩
theorem yZ {t:TT}(h:BT X c t):BIf X [c] t:=⟨yz h.h⟩
theorem DL {r:R2}(ho:BOp X (compareOp op) r)(ha:BE X a ta)(hb:BE X b tb)(hm:behindInMarks op b=false):BT X (.Compare a [op] [b] pos) (oo (tOp r ta tb)):=⟨x8 ho.h ha.h hb.h hm⟩
theorem tO {tc:TE}{r:R2}(ho:BOp X (compareOp op) r)(ho':BOp X (compareOp op') r')(ha:BE X a ta)(hb:BE X b tb)(hc:BE X c tc)(hm:lastMarks [op,op'] [b,c]=false):BT X (.Compare a [op,op'] [b,c] pos) (oo (i8 r r' ta tb tc)):=⟨sJ ho.h ho'.h ha.h hb.h hc.h hm⟩
theorem DM (ha:BT X a tA):BT X (.UnaryOp .Not a pos) (Ha tA):=⟨CG ha.h⟩
theorem wt_w {t:TT}(h:BW X e t):BT X e t:=⟨h.h.pt⟩
theorem y0 (ha:BT X a tA):BW X (.BoolOp .And [a] pos) tA:=⟨xL ha.h⟩
theorem DN (ha:BT X a tA):BW X (.BoolOp .Or [a] pos) tA:=⟨CD ha.h⟩
theorem DO {af:List Expr}(ha:BT X a tA)(hb:BW X (.BoolOp .And (b::af) pos) tB'):BW X (.BoolOp .And (a::b::af) pos) (G9 tA tB'):=⟨CF ha.h hb.h⟩
theorem HN {af:List Expr}(ha:BT X a tA)(hb:BW X (.BoolOp .Or (b::af) pos) tB'):BW X (.BoolOp .Or (a::b::af) pos) (tOr tA tB'):=⟨Hb ha.h hb.h⟩
theorem y1 {f:Expr}{as:List Expr}{ks:List Keyword}{t:TE}(h:BE X (.Call f as ks pos) t):BT X (.Call f as ks pos) (tB t):=⟨CC h.h (by intro _; cases f <;> rfl)⟩
def HP (K:Frag)(ta:TE):TT:=fun σ H Q=>ta σ H fun x H'=>∃ k,GR K x H' k/\Q k H'
theorem y2 {t:TE}(K:Frag)(h:BE X (.Name x pos) t)(hK:X.K=K):BT X (.Name x pos) (HP K t):=by subst hK; exact ⟨kZ h.h (fun _=>rfl)⟩
theorem y3 (hN:X.N.Nodup)(hi:X.N[i]?=some x)(hx:Loc X.env.scope x)(hf:X.fn x=true∨X.env.scope.names.lookup x=some .local):BG X (.Name x pos) (dY i):=⟨xT hN hi hx hf⟩
theorem y4:BGs X [] Hi:=⟨xV⟩
theorem tP {t:TG}{u:TGs}(h1:BG X e t)(h2:BGs X es u)(hs:(assignEach (e::es) X.env).map (·.2)=assign e X.env::(assignEach es X.env).map (·.2)):BGs X (e::es) (xU t u):=⟨sG h1.h h2.h hs⟩
theorem DP {t:TGs}{n:Nat}(K:Frag)(hc:X.calm=true)(h:BGs X es t)(hK:X.K=K)(hn:(assignEach es X.env).length=n)(hst:(assignEach es X.env).findIdx? (·.1)=none):BG X (.Tuple es k pos) (GO K n t):=⟨yM K hc h.h hK hn hst⟩
theorem DQ {i:Expr}{ti:TE}(ho:BE X o to)(hi:BE X i ti)
  (ha:∀ v,assign (.Subscript o i pos) X.env v=(do
   let ov ← holding [v] (eval o X.env)
   let iv ← holding [v,ov] (eval i X.env)
   standAt pos
   holding [v,ov,iv] (setItem ov iv v)
   release [v,ov,iv] [])):BG X (.Subscript o i pos) (Hj to ti yp):=⟨CM ho.h hi.h sS ha⟩
theorem y6 (K:Frag)(hl:BE X l tl)(hK:X.K=K):BI X tg l (kq K tl):=⟨tH K hl.h hK⟩
theorem DR (K:Frag)(hl:BE X l tl)(hK:X.K=K):BI X tg l (GP K tl):=⟨yN K hl.h hK⟩
theorem DS (K:Frag)(hl:BE X l tl)(hK:X.K=K):BI X tg l (HF tl):=⟨Do hl.h⟩
theorem ph  {ta:TA}  (hg:X.env.kindOf "range" = some .globalImplicit) (hm:X.mg "range" = none) (ha:BA X [a] ta) (hn:bi a=true):BI X tg (.Call (.Name "range" p) [a] [] pos) (xX ta):=⟨oa hg hm ha.h (aT hn)⟩
theorem pi  {ta:TA}  (hg:X.env.kindOf "range" = some .globalImplicit) (hm:X.mg "range" = none) (ha:BA X [a,b] ta) (hn:bi a=true) (hn2:bi b=true):BI X tg (.Call (.Name "range" p) [a,b] [] pos) (xY ta) :=
 ⟨oe hg hm ha.h (by rw [aT hn,aT hn2]; rfl) (by rw [aT hn2]; rfl)⟩
theorem y8:BSs X [] xO:=⟨xP⟩
theorem y9 {t:TS}(h:BS X st t):BSs X [st] t:=⟨xQ h.h⟩
theorem tQ {af:List Stmt}{t:TS}(h1:BS X st t)(h2:BSs X af u):BSs X (st::af) (Hc t u):=⟨sB h1.h h2.h⟩
theorem tR :BS X (.Break pos) n0:=⟨sC⟩
theorem kC :BS X (.Continue pos) xR:=⟨ko⟩
theorem za (he:BE X e te)(hs:swapsWith e none pos.line X.env=pure false):BS X (.Expr e pos) (sD te):=⟨xS he.h hs⟩
theorem DT (he:BE X e te):BS X (.Return (some e) pos) (Hd te):=⟨CK he.h⟩
theorem HQ {a b:List Stmt}{t:TS}(hc:BT X c tc)(ha:BSs X a t)(hb:BSs X b u):BS X (.If c a b pos) (He tc t u):=⟨Hf hc.h ha.h hb.h⟩
theorem DU {pos':Pos}(hN:X.N.Nodup)(hi:X.N[i]?=some x)(hx:Loc X.env.scope x)(he:BE X e te)(hs:swapsWith e (some (.Name x pos')) pos.line X.env=pure false)(hf:X.fn x=true∨X.env.scope.names.lookup x=some .local) :
  BS X (.Assign [.Name x pos'] e pos) (nX te (dY i)):=⟨CO hN hi hx he.h hs hf⟩
theorem DW (he:BE X e te)(hg:BG X tg g)(hs:swapsWithSole [tg] e pos.line X.env=pure false)(hw:swappedStores [tg] e X.env=pure none)(h1:(assignEach [tg] X.env).map (·.2)=[assign tg X.env]):BS X (.Assign [tg] e pos) (nX te g):=⟨CN he.h hg.h hs hw h1⟩
theorem DX {tb:TS}(hp:PassesOwn (model X.prog X.w) X.A X.env X.xe)(hc:X.calm=true)(hi:BI X tg iter wi)(hg:BG X tg g)(hb:BSs X body tb)(hs:∀ x,foldedSetIterable iter X.env x=pure x):BS X (.For tg iter body [] pos) (Hk wi g tb):=⟨CQ hp hc hi.h hg.h hb.h hs⟩
theorem tS {tb:TS}(hp:PassesOwn (model X.prog X.w) X.A X.env X.xe)(hc:BT X c tc)(hb:BSs X body tb):BS X (.While c body [] pos) (n6 tc tb):=⟨sH hp hc.h hb.h⟩
theorem zb:BOp X (binaryOp .Sub) (rI0 fun i j=>.int (i - j)):=⟨CT⟩
theorem zc:BOp X (binaryOp .Mult) (rI CMul fun i j=>.int (i * j)):=⟨CU⟩
theorem tT:BOp X (binaryOp .FloorDiv) (rI Ci fun i j=>.int (i / j)):=⟨xZ⟩
theorem zd:BOp X (binaryOp .Mod) (rI (fun _ j=>0 < j) fun i j=>.int (i % j)):=⟨CV⟩
theorem ze:BOp X (binaryOp .Pow) (rI Cj fun i j=>.int (i ^ j.toNat)):=⟨CW⟩
theorem DY (K:Frag)(hu:X.A.units+64 < cLine)(h:X.K=K):BOp X (compareOp .Eq) (GX K):=⟨Dy K hu h⟩
theorem DZ (K:Frag)(hu:X.A.units+64 < cLine)(h:X.K=K):BOp X (compareOp .NotEq) (GY K):=⟨Dz K hu h⟩
def Jf:R2:=fun x y H Q=>y=.non/\Q (.bl (decide (x=.non))) H
def D0:R2:=fun x y H Q=>y=.non/\Q (.bl (!decide (x=.non))) H
theorem zf:BOp X (compareOp .Is) Jf:=⟨CZ⟩
theorem tU:BOp X (compareOp .IsNot) D0:=⟨x0⟩
theorem D3 (K:Frag)(h:X.K=K):BCall X (.builtin "len") (Cn K):=⟨o8 K h⟩
theorem D4 (hc:X.calm=true):BCall X (.builtin "max") HH:=⟨oW hc⟩
theorem D5 (hc:X.calm=true):BCall X (.builtin "min") HI:=⟨oX hc⟩
theorem D6 (K:Frag)(hc:X.calm=true)(h:X.K=K):BCall X (.builtin "all") (GV K):=⟨o9 K hc h⟩
theorem D7 (K:Frag)(hc:X.calm=true)(h:X.K=K):BCall X (.builtin "any") (GW K):=⟨pb K hc h⟩
theorem zg (K:Frag)(h:X.K=K):BMt X "str.join" (tD K):=⟨tG K h⟩
theorem pj (K:Frag)(h:X.K=K):BMt X "list.append" dZ:=⟨jj⟩
theorem Fun.okB {P:Program}{w:World}{K:Frag}{mg:Str->Option Value}{base:Heap}{qual:Str}{f:Addr}{fd:FuncData}{N:List Str}(F:Fun K x qual st f fd)(S:FnScope N ps (aj st))(len:∀ vs H Q E,sp vs H Q E->vs.length=ps.length)
  (hbody:∀ (cdv:Value) (A:Around) (outer:List Env) (s:Shared) (H:Hp) (vs:List V) (Q:VK) (E:XK),Room k (A.deeper (envOfC qual (aj st) s.heap.objs.size f cdv))->sp vs H Q E ->
   ∃ t,BSs (oz CX0 P w K mg base N qual (aj st) f cdv A outer s H E).nox (bo st) t/\t { nx:=fun _ H'=>Q .non H',rt:=Q } (start N vs) H):FnOk P w K mg base CX0 (k+1) f fd ps sp :=
 F.ok S len fun cdv A outer s H vs Q E hr h=>by
  obtain ⟨t,h1,h2⟩:=hbody cdv A outer s H vs Q E hr h
  exact ⟨t,h1.h,h2⟩
end L2
namespace L2
open PySem
end L2
set_option maxHeartbeats 4000000
namespace KS
open PySem PySem.Spec PyProof.Rows
variable{xs order:Array Nat}{i j mask finger moves ep n c slot g:Nat}{led plain L:Bool}{hs:Array Int}{prog:Program}{w:World}{K α:Type}{A A':Around}{E Q:Value->Shared->Prop}{s:Shared}{h h':Heap}{a I pl:Addr}{o op:Obj}{es:Array (Int×Value)}{x:Value}{pls:Array Value}{Q':Option (Value×Nat)->Shared->Prop}
def Ris (xs:Array Nat):Prop:=xs.toList.Pairwise (· < ·)
theorem Ris.lt (h:Ris xs){d:Nat}(hij:i < j)(hj:j < xs.size):xs.getD i d < xs.getD j d:=by
 have hi:i < xs.size:=Nat.lt_trans hij hj
 have q:=List.pairwise_iff_getElem.mp h i j (by exists hi) (by exists hj) hij
 rw [Array.getD_eq_getD_getElem?,Array.getD_eq_getD_getElem?,Array.getElem?_eq_getElem hi,Array.getElem?_eq_getElem hj]
 simpa using q
theorem iu {xs:Array Nat}{j:Nat}(h:Ris xs):∀ (fuel lo hi:Nat),lo<=hi->hi<=xs.size->hi - lo<=fuel->(∀ k,k < lo->xs.getD k j < j)->(∀ k,hi<=k->k < xs.size->j<=xs.getD k j) ->
  SetTable.below.go xs j fuel lo hi<=xs.size/\(∀ k,k < SetTable.below.go xs j fuel lo hi->xs.getD k j < j)/\∀ k,SetTable.below.go xs j fuel lo hi<=k->k < xs.size->j<=xs.getD k j
 | 0,lo,hi,a,b,c,p,q=>by
  have e:hi=lo:=by nofun
  subst e
  exact ⟨b,p,q⟩
 | fuel+1,lo,hi,a,b,c,p,q=>by
  have e0:SetTable.below.go xs j (fuel+1) lo hi=if lo < hi then (if xs.getD ((lo+hi) / 2) j < j then SetTable.below.go xs j fuel ((lo+hi) / 2+1) hi else SetTable.below.go xs j fuel lo ((lo+hi) / 2)) else lo:=rfl
  rw [e0]
  by_cases hlt:lo < hi
  ·rw [if_pos hlt]
   have hm:(lo+hi) / 2 < hi:=by nofun
   by_cases hv:xs.getD ((lo+hi) / 2) j < j
   ·rw [if_pos hv]
    refine iu h fuel _ hi (by nofun) b (by nofun) (fun k hk=>?_) q
    by_cases e:k=(lo+hi) / 2
    ·rw [e]; exact hv
    ·exact Nat.lt_trans (h.lt (i:=k) (j:=(lo+hi) / 2) (by nofun) (by nofun)) hv
   ·rw [if_neg hv]
    refine iu h fuel lo _ (by nofun) (by nofun) (by nofun) p fun k hk hs=>?_
    by_cases e:k=(lo+hi) / 2
    ·rw [e]; nofun
    ·have:=h.lt (i:=(lo+hi) / 2) (j:=k) (d:=j) (by nofun) hs
     nofun
  ·rw [if_neg hlt]
   have e:hi=lo:=by nofun
   subst e
   exact ⟨b,p,q⟩
theorem eh (h:Ris xs)(j:Nat):SetTable.below xs j<=xs.size/\(∀ k,k < SetTable.below xs j->xs.getD k j < j)/\∀ k,SetTable.below xs j<=k->k < xs.size->j<=xs.getD k j :=
 iu h _ _ _ (aaq _) (aae _) (by nofun) (fun k hk=>absurd hk (Nat.not_lt_zero _)) fun k hk hs=>absurd hs (by nofun)
theorem mY (h:Ris xs):SetTable.below xs 0=0:=by
 obtain ⟨_,b,_⟩:=eh h 0
 by_cases e:SetTable.below xs 0=0
 ·exact e
 ·exact absurd (b 0 (by nofun)) (Nat.not_lt_zero _)
theorem mZ (h:Ris xs){p:Nat}(e:xs[i]?=some p):SetTable.below xs (p+1)=i+1:=by
 obtain ⟨hi,ep⟩:=Array.getElem?_eq_some_iff.mp e
 obtain ⟨a,b,c⟩:=eh h (p+1)
 have g:∀ d,xs.getD i d=p:=fun d=>by rw [Array.getD_eq_getD_getElem?,e]; rfl
 by_cases l:SetTable.below xs (p+1)<=i
 ·have:=c i l hi
  rw [g] at this
  nofun
 ·by_cases r:SetTable.below xs (p+1)=i+1
  ·exact r
  ·have h1:=b (i+1) (by nofun)
   have h2:=h.lt (i:=i) (j:=i+1) (d:=p+1) (by nofun) (by nofun)
   rw [g] at h2
   nofun
def NotIn (xs:Array Nat)(j:Nat):Prop:=xs[SetTable.below xs j]?≠some j
theorem m3 (h:Ris xs)(n:NotIn xs j):Ris (SetTable.insertAt xs (SetTable.below xs j) j):=by
 obtain ⟨a,b,c⟩:=eh h j
 unfold NotIn at n
 generalize SetTable.below xs j=p at a b c n
 have e:(SetTable.insertAt xs p j).toList=xs.toList.take p++j::xs.toList.drop p:=by
  unfold SetTable.insertAt
  simp [Array.toList_extract,List.extract_eq_drop_take,Array.length_toList]
  exact aal (by rw [abv,Array.length_toList]; exact aae _)
 have lo:∀ x ∈ xs.toList.take p,x < j:=by
  intro x hx
  obtain ⟨k,hk⟩:=List.mem_iff_getElem?.mp hx
  rw [List.getElem?_take] at hk
  split at hk
  ·rename_i hkp
   have:=b k hkp
   rw [Array.getD_eq_getD_getElem?,← Array.getElem?_toList,hk] at this
   exact this
  ·cases hk
 have hi:∀ x ∈ xs.toList.drop p,j < x:=by
  intro x hx
  obtain ⟨k,hk⟩:=List.mem_iff_getElem?.mp hx
  rw [List.getElem?_drop] at hk
  have hs:p+k < xs.size:=by
   have:=(List.getElem?_eq_some_iff.mp hk).1
   simpa using this
  have q:=c (p+k) (by nofun) hs
  rw [Array.getD_eq_getD_getElem?,← Array.getElem?_toList,hk] at q
  have q:j<=x:=q
  rcases Nat.lt_or_ge j x with z | z
  ·exact z
  ·have ex:x=j:=by nofun
   subst ex
   exfalso
   by_cases k0:k=0
   ·subst k0
    exact n (by rw [← Array.getElem?_toList]; exact hk)
   ·have g1:=h.lt (i:=p) (j:=p+k) (d:=x) (by nofun) hs
    have g2:=c p (aae _) (by nofun)
    have g3:xs.getD (p+k) x=x:=by rw [Array.getD_eq_getD_getElem?,← Array.getElem?_toList,hk]; rfl
    nofun
 unfold Ris
 rw [e]
 refine List.pairwise_append.mpr ⟨List.Pairwise.sublist (aba p _) h,List.pairwise_cons.mpr ⟨hi,List.Pairwise.sublist (List.drop_sublist p _) h⟩,fun x hx y hy=>?_⟩
 rcases List.mem_cons.mp hy with rfl | hy
 ·exact lo x hx
 ·exact Nat.lt_trans (lo x hx) (hi y hy)
theorem js (t:SetTable)(p:SetTable.Probe):(t.advance p).dummy=p.dummy:=by
 unfold SetTable.advance
 split
 ·rfl
 ·rfl
theorem ei {t:SetTable}{f:Nat->Int}{h:Int}:∀ (fuel:Nat) (p:SetTable.Probe) (j:Nat) (d:Option Nat),(∀ x,p.dummy=some x->NotIn t.place x)->SetTable.probe.go t f h fuel p=some (.empty j d)->NotIn t.place j/\∀ x,d=some x->NotIn t.place x
 | 0,p,j,d,_,e=>by unfold SetTable.probe.go at e; cases e
 | fuel+1,p,j,d,hp,e=>by
  unfold SetTable.probe.go at e
  have ns:∀ {s:SetTable.Slot},t.slot p.j=s->(∀ i,s≠.live i)->NotIn t.place p.j:=by
   intro s es hs hn
   unfold SetTable.slot at es
   dsimp only at es
   rw [if_pos (by rw [hn]; simp)] at es
   exact hs _ es.symm
  cases hsl:t.slot p.j with
  | empty =>
   rw [hsl] at e
   have e:=aaj e
   injection e with e1 e2
   subst e1 e2
   exact ⟨ns hsl (fun i z=>nomatch z),hp⟩
  | dummy =>
   rw [hsl] at e
   refine ei fuel _ j d (fun x hx=>?_) e
   rw [js] at hx
   have hx:some p.j=some x:=hx
   injection hx with hx
   rw [← hx]
   exact ns hsl fun i z=>nomatch z
  | live i =>
   rw [hsl] at e
   dsimp only at e
   split at e
   ·cases e
   ·exact ei fuel _ j d (fun x hx=>hp x (by rw [js] at hx; exact hx)) e
theorem m6 {t:SetTable}{h:Int}{b:Bool}(e:t.freeSlot h=some (j,b)):NotIn t.place j:=by
 unfold SetTable.freeSlot at e
 split at e
 ·rename_i j' d hp
  obtain ⟨h1,h2⟩:=ei _ _ _ _ (fun x hx=>by cases (show (none:Option Nat)=some x from hx)) hp
  have e:=aaj e
  have e1:d.getD j'=j:=congrArg Prod.fst e
  subst e1
  cases d with
  | none=>exact h1
  | some x=>exact h2 x rfl
 ·cases e
theorem zi (t:SetTable)(es:Array (Int×Value))(h:Int)(x:Value)(hr:t.plain=true->Ris t.place):(layNew t es h x).2.1.plain=true->Ris (layNew t es h x).2.1.place:=by
 unfold layNew
 split
 ·rename_i slot wd e
  dsimp only
  unfold SetTable.orStandIn
  split
  ·intro hp
   have hp:t.plain=true:=hp
   exact m3 (hr hp) (m6 e)
  ·exact fun z=>by cases z
 ·exact fun z=>by cases z
theorem tV {t:SetTable}(h:SetTable.laid mask finger moves led plain hs=some (t,order)):Ris t.place:=by
 unfold SetTable.laid at h
 cases e:SetTable.layClean mask hs with
 | none=>rw [e] at h; cases h
 | some owner =>
  rw [e] at h
  have h':=aaj h
  rw [← congrArg (fun p=>p.1.place) h']
  dsimp only
  unfold Ris
  rw [List.toList_toArray,List.pairwise_map]
  refine List.Pairwise.filterMap _ (R:=(· < ·)) (fun a a' haa b hb b' hb'=>?_) List.pairwise_lt_range
  obtain ⟨y,_,rfl⟩:=Option.map_eq_some_iff.mp hb
  obtain ⟨y',_,rfl⟩:=Option.map_eq_some_iff.mp hb'
  exact haa
theorem pp (t:SetTable)(es:Array (Int×Value))(wanted:Nat):(relayAll t es wanted).2.1.plain=true->Ris (relayAll t es wanted).2.1.place:=by
 unfold relayAll
 split
 ·rename_i t' order e
  dsimp only
  split
  ·exact fun _=>tV (show SetTable.laid _ _ _ t.led t.plain _=some (t',order) from e)
  ·exact fun z=>by cases z
 ·exact fun z=>by cases z
theorem zj (t:SetTable)(es:Array (Int×Value))(h:Int)(x:Value):(layNew t es h x).2.1.led=t.led/\((layNew t es h x).2.1.plain=true->t.plain=true):=by
 unfold layNew
 split
 ·dsimp only
  unfold SetTable.orStandIn
  split
  ·exact ⟨rfl,fun z=>z⟩
  ·exact ⟨rfl,fun z=>by cases z⟩
 ·exact ⟨rfl,fun z=>by cases z⟩
theorem tW {t:SetTable}(h:SetTable.laid mask finger moves led plain hs=some (t,order)):t.led=led/\t.plain=plain:=by
 unfold SetTable.laid at h
 cases e:SetTable.layClean mask hs with
 | none=>rw [e] at h; cases h
 | some owner =>
  rw [e] at h
  have h':=aaj h
  exact ⟨(congrArg (fun p=>p.1.led) h').symm,(congrArg (fun p=>p.1.plain) h').symm⟩
theorem pq (t:SetTable)(es:Array (Int×Value))(wanted:Nat):(relayAll t es wanted).2.1.led=t.led/\((relayAll t es wanted).2.1.plain=true->t.plain=true):=by
 unfold relayAll
 split
 ·rename_i t' order e
  have q:=tW (show SetTable.laid _ _ _ t.led t.plain _=some (t',order) from e)
  dsimp only
  split
  ·exact ⟨q.1,fun z=>by rw [q.2] at z; exact z⟩
  ·exact ⟨rfl,fun z=>by cases z⟩
 ·exact ⟨rfl,fun z=>by cases z⟩
section
variable    [DecidableEq K] (knd:KeyKind prog w K)
def SetZ (h:Heap)(a:Addr)(σ:List K)(L:Bool):Prop :=
 ∃ o es ep t,h.get? a=some o/\o.ExactSet/\o.data=.set es ep t/\ElemsOf knd es.toList/\(∀ k,k ∈ σ↔∃ e ∈ es.toList,knd.is k e.2=true)/\es.size < scanBound/\t.fits es.size=true/\es.size=σ.length/\σ.Nodup/\t.led=L/\(t.plain=true->Ris t.place)
def dedup1 (σ:List K)(k:K):List K:=if k ∈ σ then σ else σ++[k]
variable {knd}   
theorem nodup_snoc {σ:List K}{k:K}(h:σ.Nodup)(hk:k ∉ σ):(σ++[k]).Nodup:=by
 rw [List.nodup_append]
 refine ⟨h,by simp,fun x hx y hy e=>?_⟩
 have hy:y=k:=(by exists hy)
 rw [e,hy] at hx
 exact hk hx
theorem SetZ.at {σ:List K}(hS:SetZ knd h a σ L)(k:∀ o,h.get? a=some o->h'.get? a=some o):SetZ knd h' a σ L:=by
 obtain ⟨o,es,ep,t,ho,r⟩:=hS
 exact ⟨o,es,ep,t,k o ho,r⟩
theorem Jg {t:SetTable}(ho:h.get? a=some o)(hd:o.data=.set es ep t)(es':Array (Int×Value))(t':SetTable) :
  (h.update a (Obj.putSet es' t')).get? a=some { o with data:=.set es' (ep+1) t' }:=by
 have q:=Heap.get?_update_self (Obj.putSet es' t') ho (by rw [putSet_of es' t' hd]; rfl)
 rw [putSet_of es' t' hd] at q
 exact q
theorem zk {g:Bool->Sem Unit}(hg:∀ (b:Bool) (s₁:Shared) (Q':Unit->Shared->Prop),Q' () s₁->wpAny (model prog w) A (g b) Q' E s₁)
      {t:SetTable} (ho:s.heap.get? a=some o) (hex:o.ExactSet) (hd:o.data=.set es ep t)
  {es1:Array (Int×Value)} {t2:SetTable} {τ:List K}  (hel:ElemsOf knd es1.toList) (hm:∀ k',k' ∈ τ↔∃ e ∈ es1.toList,knd.is k' e.2=true)
  (hb:es1.size < scanBound) (hf:t2.fits es1.size=true) (hn:es1.size=τ.length) (hnd:τ.Nodup) (hled:t2.led=L) (hpl:t2.plain=true->Ris t2.place) {wasDummy:Bool} {R:Option Bool->Shared->Prop}
  (h:∀ h',Heap.SameBut a s.heap h'->SetZ knd h' a τ L->R (some true) { s with heap:=h' }) :
  wpAny (model prog w) A (do
    storeSet a es1 t2
    if (!wasDummy && t2.tooFull)=true then do
      g (relayAll t2 es1 (SetTable.grown es1.size)).2.2
      storeSet a (relayAll t2 es1 (SetTable.grown es1.size)).1 (relayAll t2 es1 (SetTable.grown es1.size)).2.1
      pure (some true)
     else pure (some true)) R E s:=by
 refine aaa (wpAny_storeSet_of ho hd ?_ (fits_of_scanBound hb))
 have g1:=Jg ho hd es1 t2
 have b1:=Heap.SameBut.update s.heap a (Obj.putSet es1 t2)
 split
 ·have hp:=relayAll_perm t2 es1 (SetTable.grown es1.size)
  have hfr:=relayAll_fits t2 es1 (SetTable.grown es1.size)
  have hlr:=pq t2 es1 (SetTable.grown es1.size)
  have hrr:=pp t2 es1 (SetTable.grown es1.size)
  generalize hR:relayAll t2 es1 (SetTable.grown es1.size)=Y at hp hfr hlr hrr ⊢
  obtain ⟨es2,t3,gave⟩:=Y
  dsimp only at hp hfr hlr hrr ⊢
  have z2:es2.size=es1.size:=by rw [← Array.length_toList,hp.length_eq,Array.length_toList]
  refine aaa (hg _ _ _ ?_)
  refine aaa (wpAny_storeSet_of g1 rfl ?_ (fits_of_scanBound (by rw [z2]; exact hb)))
  exact aac (h _ (b1.trans (Heap.SameBut.update _ a _)) ⟨_,es2,_,t3,Jg g1 rfl es2 t3,hex,rfl,hel.perm hp,fun k'=>(hm k').trans ⟨fun ⟨e,he,q⟩=>⟨e,hp.mem_iff.mpr he,q⟩,fun ⟨e,he,q⟩=>⟨e,hp.mem_iff.mp he,q⟩⟩,
   by rw [z2]; exact hb,hfr,z2.trans hn,hnd,hlr.1.trans hled,hrr⟩)
 ·exact aac (h _ b1 ⟨_,es1,_,t2,g1,hex,rfl,hel,hm,hb,hf,hn,hnd,hled,hpl⟩)
theorem addZ {σ:List K}{k:K}{Q:Bool->Shared->Prop}(hkey:knd.is k x=true)(hsc:x.scannable=true)(hS:SetZ knd s.heap a σ L)(hroom:σ.length+1 < scanBound)
  (h:∀ b h',Heap.SameBut a s.heap h'->SetZ knd h' a (dedup1 σ k) L->Q b { s with heap:=h' }):wpAny (model prog w) A (setAddHashed a x (knd.hash k)) Q E s:=by
 obtain ⟨o,es,ep,t,ho,hex,hd,hel,hm,hb,hf,hn,hnd,hled,hpl⟩:=id hS
 unfold setAddHashed setAddHashedIn
 refine aaD (aaa (aa9 ho hd hf ?_))
 dsimp only
 rw [byScan_of hsc hb hel]
 simp only [↓reduceIte]
 unfold setAddByScan
 refine aaa ?_
 refine aaa (abB ?_)
 refine aaa (wpAny_setScan_of hkey ho hd hf hel ?_)
 cases hr:List.findIdx? (fun e=>knd.is k e.2) es.toList with
 | some j =>
  dsimp only
  obtain ⟨hj,hpj,_⟩:=List.findIdx?_eq_some_iff_getElem.mp hr
  have hk:k ∈ σ:=(hm k).mpr ⟨es.toList[j],aaP hj,hpj⟩
  refine aac (aac ?_)
  have q:=h false s.heap (Heap.SameBut.refl a s.heap) (by unfold dedup1; rw [if_pos hk]; exact hS)
  exact q
 | none =>
  dsimp only
  have hk:k ∉ σ:=fun z=>by
   obtain ⟨e,he,hp⟩:=(hm k).mp z
   have:=List.findIdx?_eq_none_iff.mp hr e he
   rw [hp] at this
   cases this
  have way:∀ (b:Bool) {s₁:Shared} {Q':Unit->Shared->Prop},Q' () s₁->wpAny (model prog w) A (match b with | true=>rule "set.scan.the-table-gave-way" | false=>pure ()) Q' E s₁:=fun b s₁ Q' hq=>by
   cases b
   ·exact aac hq
   ·exact abB hq
  have hp:=layNew_perm t es (knd.hash k) x
  have hfi:=layNew_fits t es (knd.hash k) x
  have hll:=zj t es (knd.hash k) x
  have hlr:=zi t es (knd.hash k) x hpl
  generalize hL:layNew t es (knd.hash k) x=Y at hp hfi hll hlr ⊢
  obtain ⟨es1,t1,wasDummy,gave⟩:=Y
  dsimp only at hp hfi hll hlr ⊢
  rw [Array.toList_push] at hp
  have z1:es1.size=es.size+1:=by rw [← Array.length_toList,hp.length_eq,aai,Array.length_toList]; rfl
  have hel1:ElemsOf knd es1.toList:=(hel.push hkey hsc).perm hp
  have hm1:∀ k',k' ∈ σ++[k]↔∃ e ∈ es1.toList,knd.is k' e.2=true:=fun k'=>by
   rw [List.mem_append,hm k',List.mem_singleton]
   constructor
   ·rintro (⟨e,he,q⟩ | rfl)
    ·exact ⟨e,hp.mem_iff.mpr (aaw _ he),q⟩
    ·exact ⟨_,hp.mem_iff.mpr (aak _ (List.mem_singleton.mpr rfl)),hkey⟩
   ·rintro ⟨e,he,q⟩
    rcases List.mem_append.mp (hp.mem_iff.mp he) with he | he
    ·exact .inl ⟨e,he,q⟩
    ·rw [List.mem_singleton] at he
     subst he
     exact .inr (knd.inj x k' k q hkey)
  refine aaa (way _ ?_)
  have fin:∀ h',Heap.SameBut a s.heap h'->SetZ knd h' a (σ++[k]) L->Q true { s with heap:=h' }:=fun h' b' z=>h true h' b' (by unfold dedup1; rw [if_neg hk]; exact z)
  have hn1:es1.size=(σ++[k]).length:=by rw [aai,z1,hn]; rfl
  split
  ·refine aaa ?_
   rw [hashByValue_scannable 8 hsc]
   refine aac ?_
   cases hpk:plainKind x with
   | false =>
    refine zk ?_ ho hex hd hel1 hm1 (by nofun) (by rw [if_neg (by decide)]; exact SetTable.fits_plain_off hfi) hn1 (nodup_snoc hnd hk) (L:=L) (by rw [if_neg (by decide)]; exact hll.1.trans hled) (by rw [if_neg (by decide)]; exact fun z=>nomatch z) ?_
    ·intro b s₁ Q' hq
     exact way b hq
    ·intro h' b' z
     dsimp only
     exact aac (fin h' b' z)
   | true =>
    refine zk ?_ ho hex hd hel1 hm1 (by nofun) (by rw [if_pos rfl]; exact hfi) hn1 (nodup_snoc hnd hk) (L:=L) (by rw [if_pos rfl]; exact hll.1.trans hled) (by rw [if_pos rfl]; exact hlr) ?_
    ·intro b s₁ Q' hq
     exact way b hq
    ·intro h' b' z
     dsimp only
     exact aac (fin h' b' z)
  ·rename_i hpf
   refine aaa (aac ?_)
   simp only [↓reduceIte]
   refine zk ?_ ho hex hd hel1 hm1 (by nofun) hfi hn1 (nodup_snoc hnd hk) (L:=L) (hll.1.trans hled) hlr ?_
   ·intro b s₁ Q' hq
    exact way b hq
   ·intro h' b' z
    dsimp only
    exact aac (fin h' b' z)
def metZ (val:Nat->K)(i:Nat):List K:=((List.range i).map val).foldl dedup1 []
theorem fQ (val:Nat->K)(i:Nat):metZ val (i+1)=dedup1 (metZ val i) (val i):=by
 unfold metZ
 rw [List.range_succ,aag,List.foldl_append]
 rfl
theorem metZ_len (val:Nat->K):∀ i,(metZ val i).length<=i
 | 0=>aae _
 | i+1=>by
  rw [fQ]
  have ih:=metZ_len val i
  unfold dedup1
  split
  ·nofun
  ·rw [aai,aa8]; nofun
theorem metZ_mem (val:Nat->K):∀ (i:Nat) (k:K),k ∈ metZ val i↔∃ j,j < i/\val j=k
 | 0,k=>by
  constructor
  ·intro h; cases h
  ·rintro ⟨j,hj,_⟩; nofun
 | i+1,k=>by
  have e:k ∈ metZ val (i+1)↔k ∈ metZ val i∨val i=k:=by
   rw [fQ]
   unfold dedup1
   split
   ·rename_i h
    exact ⟨.inl,fun z=>z.elim id fun z=>z ▸ h⟩
   ·rw [List.mem_append,List.mem_singleton]
    exact ⟨fun z=>z.imp id Eq.symm,fun z=>z.imp id Eq.symm⟩
  rw [e,metZ_mem val i k]
  constructor
  ·rintro (⟨j,hj,q⟩ | q)
   ·exact ⟨j,by nofun,q⟩
   ·exact ⟨i,by nofun,q⟩
  ·rintro ⟨j,hj,q⟩
   by_cases z:j=i
   ·exact .inr (z ▸ q)
   ·exact .inl ⟨j,by nofun,q⟩
theorem zm {R:Result->Shared->Prop}{fp wr:List Addr}{G:Array GenState->Array GenState->Prop}{P:Nat->Value->Prop}{St:Nat->Shared->Prop}(W:WalksS prog w A.in1 I fp wr G n P St)(S:Addr)(hSf:S ∉ fp)
  (val:Nat->K) (hval:∀ i v,P i v->knd.is (val i) v=true/\v.scannable=true) (hb:n+1 < scanBound) :
  ∀ (k i:Nat) (s:Shared),n - i=k->i<=n->St i s->SetZ knd s.heap S (metZ val i) L ->
   (∀ s',Moved (S::wr) G s s'->SetZ knd s'.heap S (metZ val n) L->R (.ok (.ret .none)) s') ->
   codeAny (model prog w) A (.builtin "set.update.loop" ⟨[.ref S,.ref I],[]⟩) R s:=by
 have hSw:S ∉ wr:=fun h=>hSf (W.sub _ h)
 have hsub:∀ b ∈ wr,b ∈ S::wr:=fun b hb=>aad _ hb
 intro k
 induction k with
 | zero =>
  intro i s hk hi hst hS hR
  obtain rfl:i=n:=by nofun
  refine codeAny_builtin PyProof.Rows.F.entry_set_update_loop ?_
  rw [aaE abb _]
  show wpAny _ A.in1 (pyNext (.ref I) >>= _) _ _ s
  refine aaa (W.done s _ _ hst fun s' hm=>?_)
  show wpAny _ A.in1 (ret Value.none) _ _ s'
  exact aac (hR s' (hm.mono hsub) (hS.at fun o ho=>hm.heap S o hSw ho))
 | succ k ih =>
  intro i s hk hi hst hS hR
  have hlt:i < n:=by nofun
  refine codeAny_builtin PyProof.Rows.F.entry_set_update_loop ?_
  rw [aaE abb _]
  show wpAny _ A.in1 (pyNext (.ref I) >>= _) _ _ s
  refine aaa (W.item i s _ _ hlt hst fun v s' hP hst' hm=>?_)
  obtain ⟨hv1,hv2⟩:=hval i v hP
  have hS':SetZ knd s'.heap S (metZ val i) L:=hS.at fun o ho=>hm.heap S o hSw ho
  show wpAny _ A.in1 (holding [v] (setAdd S v) >>= _) _ _ s'
  refine aaa (aaD ?_)
  unfold setAdd
  refine aaD ?_
  refine aaa (knd.pyHash (k:=val i) hv1 ?_)
  refine addZ (s:={ s' with toks:=s'.toks+1 }) hv1 hv2 hS' (by have:=metZ_len val i; nofun) fun b h' hsb hS2=>?_
  rw [← fQ] at hS2
  refine aac ⟨plainId_quiet abb _,ih (i+1) _ (by nofun) hlt (W.frame _ s' _ _ hst' (aaT _) fun b hb o e=>?_) hS2 fun s'' hm'' hS''=>?_⟩
  ·rw [hsb.2 b (fun h:b=S=>hSf (by rw [← h]; exact hb))]; exact e
  ·refine hR s'' (Moved.trans W.gtrans ((hm.mono hsub).then_heap (aaT _) fun b o hb e=>?_) hm'') hS''
   rw [hsb.2 b (fun h:b=S=>hb (by rw [h]; exact aab))]; exact e
end
abbrev byText (w:World):Bool:=w.params.followText "set-order"
abbrev bL (w:World):Obj:={ cls:=.type "set", dict:=none,data:=.set #[] 0 (.fresh 0 0 (!byText w)) }
theorem zn (a:Value){Q₁:Value->Shared->Prop}(h:Q₁ (.ref s.heap.objs.size) { s with heap:=s.heap.push (bL w) }) :
  codeAny (model prog w) A (.call (.builtin "set.__new__") ⟨[.type "set", a],[]⟩) (wants Q₁ E) s:=by
 refine codeAny_of_tree ?_
 show wpAny _ A.in1 (do checkBuiltinCall "set.__new__" ⟨[.type "set", a],[]⟩; again (.builtin "set.__new__" ⟨[.type "set", a],[]⟩)) _ _ s
 refine aaa (wpAny_of_eq (F.newCall_set_1 a) (aac ⟨plainId_quiet F.plain_set_new _,codeAny_builtin F.entry_set_new ?_⟩))
 rw [aaE F.plain_set_new _]
 unfold Builtin.«set.__new__» Builtin.Frozenset.newClass
 have hsub:=sub_set_self
 obtain ⟨hp,g,d,tk,os⟩:=s
 dsimp only
 wp_walk
 refine abd (aac ?_)
 dsimp only
 simp only [newObj]
 refine aaa (wpAny_alloc (aac ?_))
 exact aac h
section
variable    [DecidableEq K] {knd:KeyKind prog w K}   
theorem D8 (ho:h.get? a=some (bL w)):SetZ knd h a [] (!byText w) :=
 ⟨_,#[],0,_,ho,⟨rfl,rfl,rfl⟩,rfl,fun e he=>by simp at he,fun k=>by simp,by decide,rfl,rfl,aaB,rfl,fun _=>List.Pairwise.nil⟩
set_option maxRecDepth 100000 in
set_option maxHeartbeats 8000000 in
theorem set_of_list {l:Addr}{items:Array Value}(hh:A.handled=none)(hl:s.heap.IsList l items)(val:Nat->K)
  (hval:∀ i v,items[i]?=some v->knd.is (val i) v=true/\v.scannable=true) (hb:items.size+1 < scanBound)
  (h:∀ (h':Heap) (tk:Nat),SetZ knd h' s.heap.objs.size (metZ val items.size) (!byText w)->(∀ b o,b < s.heap.objs.size->s.heap.get? b=some o->h'.get? b=some o)->Q (.ref s.heap.objs.size) { s with heap:=h',toks:=tk }) :
  wpAny (model prog w) A (call (.type "set") [.ref l]) Q E s:=by
 obtain ⟨c,tl,hmro⟩:=F.called_set.mro
 have hmade:=F.called_set.made
 have hsub:=F.called_set.sub
 refine wpAny_call (codeAny_of_tree ?_)
 show wpAny _ _ (callAny (.type "set") _) _ _ _
 refine aac ⟨Code.quiet_builtin _ (by decide +kernel),codeAny_builtin F.entry_type_call ?_⟩
 rw [Around.under_plain (weight_type_call_type "set" [.ref l] []) rfl]
 have h1:=F.called_set.notType
 have h2:=F.called_set.canCreate
 have hct:=F.typeCall_set_1 (.ref l)
 repeat (any_goals (first | assumption | wp_step))
 refine codeAny_mono (zn (.ref l) (E:=E) (Q₁:=fun obj s₁=>obj=.ref s.heap.objs.size/\s₁={ s with heap:=s.heap.push (bL w) }) ⟨rfl,rfl⟩) fun r s₁ hr=>?_
 cases r with
 | error e=>exact hr
 | ok fl =>
  cases fl with
  | ret obj =>
   obtain ⟨rfl,rfl⟩:=hr
   have hS:(s.heap.push (bL w)).get? s.heap.objs.size=some (bL w):=Heap.get?_push_size _ rfl
   have hT:Shared.TypeIs { s with heap:=s.heap.push (bL w) } (.ref s.heap.objs.size) "set" := ⟨_,hS,rfl⟩
   have hli:=F.called_set.init.lookup
   have hbi:=F.called_set.init.bind (.ref s.heap.objs.size)
   repeat (any_goals (first | assumption | wp_step))
   refine codeAny_mono (codeAny_call_builtin (R:=wants (fun r s₂=>r=.none/\∃ h' tk,s₂={ s with heap:=h',toks:=tk } /\
     SetZ knd h' s.heap.objs.size (metZ val items.size) (!byText w)/\(∀ b o,b < s.heap.objs.size->s.heap.get? b=some o->h'.get? b=some o)) E) F.called_set.init.plain F.entry_set_init (check_set_init_1 hT ?_)) fun r₂ s₂ hr₂=>?_
   ·obtain ⟨ol,hol,hcl,nl,hdl⟩:=hl
    obtain ⟨ocls,odict,odata,oslots⟩:=ol
    simp only at hcl hdl
    subst hcl; subst hdl
    have hol':(s.heap.push (bL w)).get? l=some { cls:=.type "list", dict:=odict,data:=.seq items nl,slots:=oslots }:=Heap.get?_push_of_some _ hol
    have hsls:=F.sub_list_set
    have hslf:=F.sub_list_frozenset
    have hne:(Value.type "list" == Value.type "dict")=false:=by decide
    have hl1:(s.heap.push (bL w)).IsList l items:=⟨_,hol',rfl,nl,rfl⟩
    unfold Builtin.«set.__init__» noKeywords Builtin.Frozenset.updateFrom
    generalize hPI:pyIter=PI
    wp_walk
    subst hPI
    refine wpAny_pyIter_list hl1 ?_
    refine aaa (wpAny_runValue ?_)
    have hlS:l < s.heap.objs.size:=aaf hol
    have hh3:A.in1.in1.in1.handled=none:=by simp [hh]
    have hneI:l≠(s.heap.push (bL w)).objs.size:=by
     rw [aaR]; exact aah (aaJ hlS)
    have hSf:s.heap.objs.size ∉ [(s.heap.push (bL w)).objs.size,l]:=by
     rw [aaR]; simp only [List.mem_cons,List.mem_singleton,List.not_mem_nil,or_false,not_or]
     exact ⟨aah (aaG _),Nat.ne_of_gt hlS⟩
    refine zm (knd:=knd) ((Walks.list hh3 _ l hneI items).toS) s.heap.objs.size hSf val (fun i v hv=>hval i v hv) hb (items.size - 0) 0 _ (by nofun) (aaq _)
     ⟨⟨_,Heap.get?_push_size _ rfl,rfl,rfl⟩,(hl1.push _)⟩ (D8 (Heap.get?_push_of_some _ hS)) ?hR
    case hR =>
     intro s' hm hS'
     obtain ⟨h',g',d',tk',os'⟩:=s'
     have eg:g'=s.gens:=hm.gens
     have ed:d'=s.drawn:=hm.drawn
     have eo:os'=s.os:=hm.os
     subst eg; subst ed; subst eo
     show wpAny _ _ _ _ _ _
     refine aac ?_
     show wpAny _ _ (ret Value.none) _ _ _
     refine aac ⟨rfl,h',tk',rfl,hS',fun b o hb e=>?_⟩
     have hb1:b≠s.heap.objs.size:=aah hb
     have hb2:b≠(s.heap.push (bL w)).objs.size:=by
      rw [aaR]; exact aah (aaJ hb)
     exact hm.heap b o (by simp only [List.mem_cons,List.mem_singleton,List.not_mem_nil,or_false,not_or]; exact ⟨hb1,hb2⟩) (Heap.get?_push_of_some _ (Heap.get?_push_of_some _ e))
   ·cases r₂ with
    | error e=>exact hr₂
    | ok fl₂ =>
     cases fl₂ with
     | ret r =>
      obtain ⟨rfl,h',tk,rfl,hS',hk'⟩:=hr₂
      repeat (any_goals (first | assumption | wp_step))
      exact h _ _ hS' hk'
     | next=>exact hr₂.elim
     | brk=>exact hr₂.elim
     | cont=>exact hr₂.elim
  | next=>exact hr.elim
  | brk=>exact hr.elim
  | cont=>exact hr.elim
end
theorem gA:entryFor table "set.__iter__" = some Builtin.«frozenset.__iter__»:=entryFor_alias (id' := "frozenset.__iter__") (by kernel_rfl) rfl (by decide +kernel) (by kernel_rfl)
theorem iw (a:Value):argsOk "set.__iter__" ⟨[a],[]⟩:=by unfold argsOk; kernel_rfl
theorem dq:Slot "set_iterator" "__iter__" "set_iterator.__iter__" :=
 .of (owner := "set_iterator") (n := "__iter__") (by rw [typeLookup_type,builtinLookup_eq_fast]; kernel_rfl) (by decide +kernel) (by decide +kernel) (by decide +kernel)
  (by first | exact .inl (by decide +kernel) | exact .inr (by decide +kernel)) (by rw [isSubtype_type]; kernel_rfl)
theorem aw:Slot "set_iterator" "__next__" "set_iterator.__next__" :=
 .of (owner := "set_iterator") (n := "__next__") (by rw [typeLookup_type,builtinLookup_eq_fast]; kernel_rfl) (by decide +kernel) (by decide +kernel) (by decide +kernel)
  (by first | exact .inl (by decide +kernel) | exact .inr (by decide +kernel)) (by rw [isSubtype_type]; kernel_rfl)
theorem fR:entryFor table "set_iterator.__iter__" = some Builtin.«dict_keyiterator.__iter__»:=entryFor_alias (id' := "dict_keyiterator.__iter__") (by kernel_rfl) rfl (by decide +kernel) (by kernel_rfl)
theorem bM:entryFor table "set_iterator.__next__" = some Builtin.«set_iterator.__next__»:=entryFor_of_fast (by kernel_rfl)
theorem gB (a:Value):argsOk "set_iterator.__iter__" ⟨[a],[]⟩:=by unfold argsOk; kernel_rfl
theorem bS (a:Value):argsOk "set_iterator.__next__" ⟨[a],[]⟩:=by unfold argsOk; kernel_rfl
theorem et {α:Type}:∀ (l:List α) (i:Nat) (h:i < l.length),(l[i]::l.eraseIdx i).Perm l
 | [],_,h=>by simp at h
 | x::l,0,_=>.refl _
 | x::l,i+1,h=>by
  have h':i < l.length:=(by exists h)
  show (l[i]::x::l.eraseIdx i).Perm (x::l)
  exact (List.Perm.swap x l[i] _).trans (List.Perm.cons x (et l i h'))
theorem jt {k:Nat->Sem α}{Q:α->Shared->Prop}{M:Model}(hn:n≠0)(h:∀ i d',i < n->wpAny M A (k i) Q E { s with drawn:=d' }):wpAny M A (choose .order n >>= k) Q E s:=by
 intro Γ p hΓ
 refine ⟨hn,h _ _ (Nat.mod_lt _ (Nat.pos_of_ne_zero hn)) Γ p hΓ⟩
theorem gU {α:Type}{M:Model}:∀ (n:Nat) (xs:List α) (s:Shared) (Q:List α->Shared->Prop),xs.length=n->(∀ ys d',ys.Perm xs->Q ys { s with drawn:=d' })->wpAny M A (drawOrder n xs) Q E s
 | 0,xs,s,Q,hl,h=>by
  have e:xs=[]:=aau hl
  subst e
  exact aac (h [] s.drawn (.refl _))
 | n+1,[],s,Q,hl,h=>by simp at hl
 | n+1,x::xs,s,Q,hl,h=>by
  refine jt (by simp) fun i d1 hi=>?_
  have hx:(x::xs)[i]?=some (x::xs)[i]:=List.getElem?_eq_getElem hi
  rw [hx]
  dsimp only
  refine aaa (gU n ((x::xs).eraseIdx i) _ _ (by rw [List.length_eraseIdx_of_lt hi]; simpa using hl) fun ys d' hp=>aac (h _ d' ?_))
  exact (List.Perm.cons _ hp).trans (et _ i hi)
section
abbrev cq (first:Value)(i:Nat)(x:Value)(n ep:Nat):Obj:={ cls:=.type "set_iterator", dict:=none,data:=.fields #[first,.int (i:Int) 0,x,.int (n:Int) 0,.int (ep:Int) 0],slots:=#[] }
theorem pr {I:Addr}{Q:Option Value->Shared->Prop}(hh:A.handled=none)(hQ:∀ h',(∀ b o,s.heap.get? b=some o->h'.get? b=some o)->Q none { s with heap:=h' }){QQ:PySem.Fin->Shared->Prop} :
  wpAny (model prog w) A.in1 (do let e ← newExc (.type "StopIteration") []; raiseNew e:Sem PySem.Fin) QQ (fun e s'=>wpAny (model prog w) A (do if (← isInstance e (.type "StopIteration"))=true then pure none else throw e) Q E s') s:=by
 refine aaa ?_
 simp only [newExc,newTuple]
 refine aaa (aaI ?_ (by size_fits))
 refine aaa (m:=firstArgMember _ _) (wpAny_of_eq (a:=Value.none) (by first | rfl | (simp only [firstArgMember]; rfl)) ?_)
 refine aaI ?_ (by size_fits)
 simp only [raiseNew]
 refine aaa (wpAny_handled ?_)
 rw [show A.in1.handled=none from hh]
 refine aaa (aac (wpAny_throw ?_))
 refine aaa (wpAny_isInstance (T := "StopIteration") (b:=true) ⟨_,Heap.get?_push_size _ rfl,rfl⟩ isSubtype_stop ?_)
 exact aac (hQ _ fun b o e=>Heap.get?_push_of_some _ (Heap.get?_push_of_some _ e))
variable    {f:Nat} {t:SetTable} {Q:Option Value->Shared->Prop}
theorem ll {nx:Nat}(ho:s.heap.get? I=some (cq (.int (f:Int) 0) i (.ref a) n ep))(ha:s.heap.get? a=some o)(hd:o.data=.set es ep t)(hf:t.fits es.size=true)(hn:n=es.size)
  (hs:∀ (E':Value->Shared->Prop) (Q':Option (Value×Nat)->Shared->Prop),Q' (some (x,nx)) s->wpAny (model prog w) A.in1 (setNext a f i ep) Q' E' s)
  (hQ:∀ h',h'.get? I=some (cq (.int (nx:Int) 0) (i+1) (.ref a) n ep)->Heap.SameBut I s.heap h'->Q (some x) { s with heap:=h' }):wpAny (model prog w) A (pyNext (.ref I)) Q E s:=by
 have hT:s.TypeIs (.ref I) "set_iterator" := ⟨_,ho,rfl⟩
 subst hn
 unfold pyNext
 refine aaa (wpAny_attempt (wpAny_callSpecial?_slot (name:=Str.ofString "__next__") hT aw (aaF aw hT bM ?_ (bS _))))
 unfold Builtin.«set_iterator.__next__»
 refine aaa (m:=slotArgs "__next__" 0 _) (aac ?_)
 try dsimp only
 refine aaa (wpAny_fieldsOf ho rfl ?_)
 try dsimp only
 refine aaa (abe ha hd hf ?_)
 rw [if_neg (by simp)]
 try dsimp only
 simp only [Int.toNat_natCast]
 refine aaa (hs _ _ ?_)
 try dsimp only
 refine aaa (aa5 ho (by simp) fun h1 g1 b1=>?_)
 refine aaa (aa5 (s:={ s with heap:=h1 }) g1 (by simp) fun h2 g2 b2=>?_)
 refine aac ⟨x,rfl,aac (hQ h2 ?_ (b1.trans b2))⟩
 rw [g2]
 rfl
theorem lm (hh:A.handled=none)(ho:s.heap.get? I=some (cq (.int (f:Int) 0) i (.ref a) n ep))(ha:s.heap.get? a=some o)(hd:o.data=.set es ep t)(hf:t.fits es.size=true)(hn:n=es.size)
  (hs:∀ (E':Value->Shared->Prop) (Q':Option (Value×Nat)->Shared->Prop),Q' none s->wpAny (model prog w) A.in1 (setNext a f i ep) Q' E' s)
  (hQ:∀ h',(∀ b ob,b≠I->s.heap.get? b=some ob->h'.get? b=some ob)->Q none { s with heap:=h' }):wpAny (model prog w) A (pyNext (.ref I)) Q E s:=by
 have hT:s.TypeIs (.ref I) "set_iterator" := ⟨_,ho,rfl⟩
 subst hn
 unfold pyNext
 refine aaa (wpAny_attempt (wpAny_callSpecial?_slot (name:=Str.ofString "__next__") hT aw (aaF aw hT bM ?_ (bS _))))
 unfold Builtin.«set_iterator.__next__»
 refine aaa (m:=slotArgs "__next__" 0 _) (aac ?_)
 try dsimp only
 refine aaa (wpAny_fieldsOf ho rfl ?_)
 try dsimp only
 refine aaa (abe ha hd hf ?_)
 rw [if_neg (by simp)]
 try dsimp only
 simp only [Int.toNat_natCast]
 refine aaa (hs _ _ ?_)
 try dsimp only
 refine aaa (aa5 ho (by simp) fun h1 g1 b1=>?_)
 exact pr (s:={ s with heap:=h1 }) (I:=I) hh fun h' k=>hQ h' fun b ob hb e=>k b ob ((b1.2 b hb).trans e)
theorem m7 {hx:Int}{place:Nat}(ho:s.heap.get? I=some (cq (.ref pl) i (.ref a) n ep))(ha:s.heap.get? a=some o)(hd:o.data=.set es ep t)(hf:t.fits es.size=true)(hn:n=es.size)
  (hp:s.heap.get? pl=some op) (hpd:op.data=.seq pls c) (hpi:pls[i]?=some (.int (place:Int) 0)) (hx':es[place]?=some (hx,x))
  (hQ:∀ h',h'.get? I=some (cq (.ref pl) (i+1) (.ref a) n ep)->Heap.SameBut I s.heap h'->Q (some x) { s with heap:=h' }):wpAny (model prog w) A (pyNext (.ref I)) Q E s:=by
 have hT:s.TypeIs (.ref I) "set_iterator" := ⟨_,ho,rfl⟩
 subst hn
 unfold pyNext
 refine aaa (wpAny_attempt (wpAny_callSpecial?_slot (name:=Str.ofString "__next__") hT aw (aaF aw hT bM ?_ (bS _))))
 unfold Builtin.«set_iterator.__next__»
 refine aaa (m:=slotArgs "__next__" 0 _) (aac ?_)
 try dsimp only
 refine aaa (wpAny_fieldsOf ho rfl ?_)
 try dsimp only
 refine aaa (abe ha hd hf ?_)
 rw [if_neg (by simp)]
 try dsimp only
 simp only [Int.toNat_natCast]
 refine aaa (m:=seqItems? _) ?_
 unfold seqItems?
 refine aaa (wpAny_load hp ?_)
 rw [hpd]
 refine aac ?_
 dsimp only
 rw [hpi]
 dsimp only
 simp only [Int.toNat_natCast]
 refine aaa (m:=setNextDrawn _ _ _) ?_
 unfold setNextDrawn
 refine aaa (aa9 ha hd hf ?_)
 dsimp only
 simp only [bne_self_eq_false,Bool.false_eq_true,if_false]
 rw [hx']
 refine aac ?_
 refine aaa (aa5 ho (by simp) fun h1 g1 b1=>?_)
 refine aac ⟨x,rfl,aac (hQ h1 ?_ b1)⟩
 rw [g1]
 rfl
theorem m8 (hh:A.handled=none)(ho:s.heap.get? I=some (cq (.ref pl) i (.ref a) n ep))(ha:s.heap.get? a=some o)(hd:o.data=.set es ep t)(hf:t.fits es.size=true)(hn:n=es.size)
  (hp:s.heap.get? pl=some op) (hpd:op.data=.seq pls c) (hpi:pls[i]?=none)
  (hQ:∀ h',(∀ b ob,b≠I->s.heap.get? b=some ob->h'.get? b=some ob)->Q none { s with heap:=h' }):wpAny (model prog w) A (pyNext (.ref I)) Q E s:=by
 have hT:s.TypeIs (.ref I) "set_iterator" := ⟨_,ho,rfl⟩
 subst hn
 unfold pyNext
 refine aaa (wpAny_attempt (wpAny_callSpecial?_slot (name:=Str.ofString "__next__") hT aw (aaF aw hT bM ?_ (bS _))))
 unfold Builtin.«set_iterator.__next__»
 refine aaa (m:=slotArgs "__next__" 0 _) (aac ?_)
 try dsimp only
 refine aaa (wpAny_fieldsOf ho rfl ?_)
 try dsimp only
 refine aaa (abe ha hd hf ?_)
 rw [if_neg (by simp)]
 try dsimp only
 simp only [Int.toNat_natCast]
 refine aaa (m:=seqItems? _) ?_
 unfold seqItems?
 refine aaa (wpAny_load hp ?_)
 rw [hpd]
 refine aac ?_
 dsimp only
 rw [hpi]
 dsimp only
 refine aaa (aa5 ho (by simp) fun h1 g1 b1=>?_)
 refine aaa (aa5 (s:={ s with heap:=h1 }) g1 (by simp) fun h2 g2 b2=>?_)
 exact pr (s:={ s with heap:=h2 }) (I:=I) hh fun h' k=>hQ h' fun b ob hb e=>k b ob ((b2.2 b hb).trans ((b1.2 b hb).trans e))
theorem eO {r:Option (Value×Nat)}(hby:byText w=true)(ha:s.heap.get? a=some o)(hd:o.data=.set es ep t)(hf:t.fits es.size=true)
  (hr:((pickOrder (w.params.setOrder a ep) es)[g]?).map (fun e=>(e.2,slot))=r) (h:Q' r s):wpAny (model prog w) A' (setNext a slot g ep) Q' E s:=by
 unfold setNext
 refine aaa (aa9 ha hd hf ?_)
 dsimp only
 unfold setsByText
 refine aaa (aaa (abd (aac ?_)))
 rw [show (model prog w).w.params.followText "set-order" = true from hby]
 simp only [bne_self_eq_false,Bool.false_eq_true,if_false,if_true]
 refine aaa (m:=setWalk a) ?_
 unfold setWalk
 refine aaa (aa9 ha hd hf ?_)
 dsimp only
 unfold setsByText
 refine aaa (aaa (abd (aac ?_)))
 rw [show (model prog w).w.params.followText "set-order" = true from hby]
 simp only [if_true]
 refine aaa (abd (aac ?_))
 refine aac ?_
 rw [← hr] at h
 exact h
theorem fS (hby:byText w=false)(ha:s.heap.get? a=some o)(hd:o.data=.set es ep t)(hf:t.fits es.size=true)(hdr:(!t.plain && decide (es.size > 1))=false)(hled:t.led=true)
  (h:Q' (match es[SetTable.below t.place slot]?,t.place[SetTable.below t.place slot]? with | some (_,x),some j=>some (x,j+1) | _,_=>none) s):wpAny (model prog w) A' (setNext a slot g ep) Q' E s:=by
 unfold setNext
 refine aaa (aa9 ha hd hf ?_)
 dsimp only
 unfold setsByText
 refine aaa (aaa (abd (aac ?_)))
 rw [show (model prog w).w.params.followText "set-order" = false from hby]
 simp only [Bool.false_eq_true,if_false]
 show wpAny _ _ (if (!t.plain && decide (es.size > 1))=true then _ else _) _ _ _
 rw [hdr]
 simp only [Bool.false_eq_true,if_false]
 refine aaa ?_
 show wpAny _ _ (if (!t.led && !es.isEmpty)=true then _ else _) _ _ _
 rw [hled]
 simp only [Bool.not_true,Bool.false_and,Bool.false_eq_true,if_false]
 exact aac (aac h)
end
theorem pv {α:Type}(next:Nat->Nat):∀ (fuel k:Nat) (left:List α) (out:Array α),left.length<=fuel->(pickOrder.go next fuel k left out).toList.Perm (out.toList++left)
 | 0,k,left,out,h=>by
  have e:left=[]:=aau (by nofun)
  subst e
  show out.toList.Perm (out.toList++[])
  rw [aaV]
 | fuel+1,k,[],out,_=>by
  show out.toList.Perm (out.toList++[])
  rw [aaV]
 | fuel+1,k,x::left,out,h=>by
  show (match (x::left)[next k % (x::left).length]? with
   | some y=>pickOrder.go next fuel (k+1) ((x::left).eraseIdx (next k % (x::left).length)) (out.push y)
   | none=>out).toList.Perm _
  have hi:next k % (x::left).length < (x::left).length:=Nat.mod_lt _ (by simp)
  rw [List.getElem?_eq_getElem hi]
  dsimp only
  refine (pv next fuel (k+1) _ _ (by rw [List.length_eraseIdx_of_lt hi]; simp at h ⊢; nofun)).trans ?_
  rw [Array.toList_push,aay]
  exact aaN _ (et _ _ hi)
theorem cT (next:Nat->Nat)(xs:Array α):(pickOrder next xs).toList.Perm xs.toList:=by
 unfold pickOrder
 have q:=pv next xs.size 0 xs.toList #[] (by simp)
 simpa using q
theorem wP (es:Array (Int×Value)):∀ ys:List Nat,(∀ j ∈ ys,j < es.size)->ys.filterMap (fun j=>(es[j]?).map (·.2))=ys.map fun j=>((es[j]?).map (·.2)).getD Value.none
 | [],_=>rfl
 | j::ys,h=>by
  have hj:=h j aab
  rw [abg,Array.getElem?_eq_getElem hj]
  show es[j].2::ys.filterMap (fun j=>(es[j]?).map (·.2))=_
  rw [wP es ys fun i hi=>h i (aad _ hi),List.map_cons,Array.getElem?_eq_getElem hj]
  rfl
section
variable          {t:SetTable}
theorem fT {f:Value}(ho:s.heap.get? I=some (cq f i x n ep))(h:Q (.ref I) s):wpAny (model prog w) A (pyIter (.ref I)) Q E s:=by
 have hT:s.TypeIs (.ref I) "set_iterator" := ⟨_,ho,rfl⟩
 refine wpAny_pyIter_slot hT dq (aaF dq hT fR ?_ (gB _))
 show wpAny _ _ (ret (.ref I)) _ _ s
 exact aac ⟨_,rfl, "set_iterator", _,hT,aw.lookup,h⟩
theorem pw (hs:Heap.SameBut I s.heap h'):Moved [I] Eq s { s with heap:=h' } :=
 ⟨fun b ob hb e=>(hs.2 b (fun z=>hb (by simp [z]))).trans e,rfl,rfl,rfl,aae _⟩
theorem px (hs:∀ b ob,b≠I->s.heap.get? b=some ob->h'.get? b=some ob):Moved [I] Eq s { s with heap:=h' } :=
 ⟨fun b ob hb e=>hs b ob (fun z=>hb (by simp [z])) e,rfl,rfl,rfl,aae _⟩
theorem m9 (hh:A.handled=none)(hne:a≠I)(hd:o.data=.set es ep t)(hf:t.fits es.size=true)(hby:byText w=true) :
  WalksS prog w A I [I,a] [I] Eq es.size (fun i v=>((pickOrder (w.params.setOrder a ep) es).toList.map (·.2))[i]?=some v) (fun i s=>s.heap.get? I=some (cq (.int ((0:Nat):Int) 0) i (.ref a) es.size ep)/\s.heap.get? a=some o) where
 sub:=fun b hb=>by simp at hb; simp [hb]
 grefl:=fun _=>rfl
 gtrans:=fun _ _ _ x y=>x.trans y
 frame:=fun i s h' tk st _ k=>⟨k I (by simp) _ st.1,k a (by simp) _ st.2⟩
 item:=fun i s Q E hi st hQ=>by
  have hl:(pickOrder (w.params.setOrder a ep) es).size=es.size:=by rw [← Array.length_toList,(cT _ es).length_eq,Array.length_toList]
  have hx:(pickOrder (w.params.setOrder a ep) es)[i]?=some ((pickOrder (w.params.setOrder a ep) es)[i]'(by nofun)):=Array.getElem?_eq_getElem _
  refine ll (x:=((pickOrder (w.params.setOrder a ep) es)[i]'(by nofun)).2) (nx:=0) st.1 st.2 hd hf rfl (fun E' Q' q=>eO hby st.2 hd hf (by rw [hx]; rfl) q) fun h' g b=>hQ _ _ ?_ ⟨g,(b.2 a hne).trans st.2⟩ (pw b)
  rw [List.getElem?_map,Array.getElem?_toList,hx]
  rfl
 done:=fun s Q E st hQ=>by
  have hl:(pickOrder (w.params.setOrder a ep) es).size=es.size:=by rw [← Array.length_toList,(cT _ es).length_eq,Array.length_toList]
  refine lm hh st.1 st.2 hd hf rfl (fun E' Q' q=>eO hby st.2 hd hf (by rw [Array.getElem?_eq_none (by nofun)]; rfl) q) fun h' k=>hQ _ (px k)
 self:=fun i s Q E st h=>fT st.1 h
theorem pz (hh:A.handled=none)(hne:a≠I)(hd:o.data=.set es ep t)(hf:t.fits es.size=true)(hby:byText w=false)(hdr:(!t.plain && decide (es.size > 1))=false)(hr:Ris t.place)(hled:t.led=true) :
  WalksS prog w A I [I,a] [I] Eq es.size (fun i v=>(es.toList.map (·.2))[i]?=some v) (fun i s=>(∃ f:Nat,SetTable.below t.place f=i/\s.heap.get? I=some (cq (.int (f:Int) 0) i (.ref a) es.size ep))/\s.heap.get? a=some o) where
 sub:=fun b hb=>by simp at hb; simp [hb]
 grefl:=fun _=>rfl
 gtrans:=fun _ _ _ x y=>x.trans y
 frame:=fun i s h' tk st _ k=>by
  obtain ⟨⟨f,f0,g⟩,ga⟩:=st
  exact ⟨⟨f,f0,k I (by simp) _ g⟩,k a (by simp) _ ga⟩
 item:=fun i s Q E hi st hQ=>by
  obtain ⟨⟨f,f0,g⟩,ga⟩:=st
  have hsz:t.place.size=es.size:=by
   have hf':=hf
   simp only [SetTable.fits,Bool.and_eq_true,beq_iff_eq] at hf'
   exact hf'.1
  have hpl:t.place[i]?=some (t.place[i]'(by nofun)):=Array.getElem?_eq_getElem _
  have hes:es[i]?=some (es[i]'hi):=Array.getElem?_eq_getElem _
  refine ll (x:=(es[i]'hi).2) (nx:=(t.place[i]'(by nofun))+1) g ga hd hf rfl (fun E' Q' q=>fS hby ga hd hf hdr hled (by rw [f0,hes,hpl]; exact q)) fun h' g' b=>hQ _ _ ?_ ⟨⟨_,mZ hr hpl,g'⟩,(b.2 a hne).trans ga⟩ (pw b)
  rw [List.getElem?_map,Array.getElem?_toList,hes]
  rfl
 done:=fun s Q E st hQ=>by
  obtain ⟨⟨f,f0,g⟩,ga⟩:=st
  refine lm hh g ga hd hf rfl (fun E' Q' q=>fS hby ga hd hf hdr hled ?_) fun h' k=>hQ _ (px k)
  have hbe:es[SetTable.below t.place f]?=none:=by rw [f0]; exact Array.getElem?_eq_none (aae _)
  rw [hbe]
  exact q
 self:=fun i s Q E st h=>by
  obtain ⟨⟨f,f0,g⟩,ga⟩:=st
  exact fT g h
theorem kD {ys:List Nat}(hh:A.handled=none)(hne:a≠I)(hnp:pl≠I)(hd:o.data=.set es ep t)(hf:t.fits es.size=true)(hpd:op.data=.seq (ys.map fun (i:Nat)=>Value.int (i:Int) 0).toArray c)(hys:ys.Perm (List.range es.size)) :
  WalksS prog w A I [I,a,pl] [I] Eq es.size (fun i v=>(ys.filterMap fun j=>(es[j]?).map (·.2))[i]?=some v) (fun i s=>s.heap.get? I=some (cq (.ref pl) i (.ref a) es.size ep)/\s.heap.get? a=some o/\s.heap.get? pl=some op) where
 sub:=fun b hb=>by simp at hb; simp [hb]
 grefl:=fun _=>rfl
 gtrans:=fun _ _ _ x y=>x.trans y
 frame:=fun i s h' tk st _ k=>⟨k I (by simp) _ st.1,k a (by simp) _ st.2.1,k pl (by simp) _ st.2.2⟩
 item:=fun i s Q E hi st hQ=>by
  have hl:ys.length=es.size:=by rw [hys.length_eq,List.length_range]
  have hyi:ys[i]?=some (ys[i]'(by nofun)):=List.getElem?_eq_getElem _
  have hlt:ys[i]'(by nofun) < es.size:=List.mem_range.mp (hys.mem_iff.mp (aaP _))
  have hes:es[ys[i]'(by nofun)]?=some es[ys[i]'(by nofun)]:=Array.getElem?_eq_getElem hlt
  refine m7 (x:=es[ys[i]'(by nofun)].2) (hx:=es[ys[i]'(by nofun)].1) (place:=ys[i]'(by nofun)) st.1 st.2.1 hd hf rfl st.2.2 hpd (by rw [List.getElem?_toArray,List.getElem?_map,hyi]; rfl) hes fun h' g b=>hQ _ _ ?_ ⟨g,(b.2 a hne).trans st.2.1,(b.2 pl hnp).trans st.2.2⟩ (pw b)
  have all:=wP es ys fun j hj=>List.mem_range.mp (hys.mem_iff.mp hj)
  rw [all,List.getElem?_map,hyi]
  show some (((es[ys[i]'(by nofun)]?).map (·.2)).getD Value.none)=_
  rw [hes]
  rfl
 done:=fun s Q E st hQ=>by
  have hl:ys.length=es.size:=by rw [hys.length_eq,List.length_range]
  exact m8 hh st.1 st.2.1 hd hf rfl st.2.2 hpd (by rw [List.getElem?_toArray,List.getElem?_eq_none (by rw [List.length_map]; nofun)]) fun h' k=>hQ _ (px k)
 self:=fun i s Q E st h=>fT st.1 h
theorem tX (ha:s.heap.get? a=some o)(hex:o.ExactSet)(hd:o.data=.set es ep t)(hf:t.fits es.size=true)(hb:es.size < scanBound)(hled:t.led=!byText w)(hpl:t.plain=true->Ris t.place)
  (h:∀ (I:Addr) (fp:List Addr) (St:Nat->Shared->Prop) (ord:List Value) (h':Heap) (d':Drawn),(∀ A':Around,A'.handled=none->WalksS prog w A' I fp [I] Eq es.size (fun i v=>ord[i]?=some v) St)->St 0 { s with heap:=h',drawn:=d' } ->
   (∀ b ∈ fp,b < h'.objs.size)->I ∈ fp->a≠I->(∀ b ∈ fp,b=a∨s.heap.objs.size<=b)->ord.Perm (es.toList.map (·.2))->(∀ b ob,s.heap.get? b=some ob->h'.get? b=some ob)->Q (.ref I) { s with heap:=h',drawn:=d' }) :
  wpAny (model prog w) A (pyIter (.ref a)) Q E s:=by
 have hT:s.TypeIs (.ref a) "set" := ⟨o,ha,hex.1⟩
 refine wpAny_pyIter_slot hT F.slot_set_iter (aaF F.slot_set_iter hT gA ?_ (iw _))
 unfold Builtin.«frozenset.__iter__»
 refine aaa (m:=Builtin.Frozenset.slot0 "__iter__" _) (aac ?_)
 refine aaa (m:=Builtin.Frozenset.sizeOf _) (aaa (abe ha hd hf (aac ?_)))
 have alt:a < s.heap.objs.size:=aaf ha
 unfold setDrawn
 refine aaa (aaa (aa9 ha hd hf ?_))
 dsimp only
 unfold setsByText
 refine aaa (aaa (abd (aac ?_)))
 refine aac ?_
 show wpAny _ _ (if (!byText w && (!t.plain && decide (es.size > 1)))=true then _ else _) _ _ _
 have fin:∀ (first:Value) (h1:Heap) (d1:Drawn),(∀ b ob,s.heap.get? b=some ob->h1.get? b=some ob)->s.heap.objs.size<=h1.objs.size ->
   (∀ (I:Addr),I=h1.objs.size->Q (.ref I) { s with heap:=h1.push (cq first 0 (.ref a) es.size ep),drawn:=d1 }) ->
   wpAny (model prog w) A.in1 (do
    let e ← setEpoch a
    let v ← newFields "set_iterator" [first,rawInt 0,Value.ref a,rawInt es.size,rawInt e]
    ret v) (fun fin s'=>∃ v,fin=Fin.done (Flow.ret v)/\∃ T' r,s'.TypeIs v T'/\typeLookup (Value.type T') (Str.ofString "__next__")=pure (some r)/\Q v s') E { s with heap:=h1,drawn:=d1 }:=by
  intro first h1 d1 k hz q
  refine aaa (wpAny_setEpoch_of (s:={ s with heap:=h1,drawn:=d1 }) (k a o ha) hd hf ?_)
  exact aaa (aaI (aac ⟨_,rfl, "set_iterator", _,⟨_,Heap.get?_push_size _ rfl,rfl⟩,aw.lookup,q _ rfl⟩))
 by_cases hdr:(!byText w && (!t.plain && decide (es.size > 1)))=true
 ·rw [if_pos hdr]
  refine aaa (gU es.size (List.range es.size) s _ (by simp) fun ys d' hp=>?_)
  refine aaa (wpAny_newTuple ?_ (by rw [List.length_map,hp.length_eq,List.length_range]; exact fits_of_scanBound hb))
  generalize hP:({ cls:=.type "tuple", data:=.seq (ys.map fun (i:Nat)=>rawInt (i:Int)).toArray }:Obj)=op
  have hz1:(s.heap.push op).objs.size=s.heap.objs.size+1:=aaR ..
  have hop:op.data=.seq (ys.map fun (i:Nat)=>Value.int (i:Int) 0).toArray 0:=by rw [← hP]; rfl
  refine fin _ (s.heap.push op) d' (fun b ob e=>Heap.get?_push_of_some _ e) (by rw [hz1]; exact aaT _) fun I hI=>?_
  rw [hz1] at hI
  have hpI:s.heap.objs.size≠I:=by rw [hI]; exact aah (aaG _)
  have haI:a≠I:=by rw [hI]; exact aah (aaJ alt)
  have hz2:((s.heap.push op).push (cq (.ref s.heap.objs.size) 0 (.ref a) es.size ep)).objs.size=s.heap.objs.size+2:=by rw [aaR,hz1]
  have q1:((s.heap.push op).push (cq (.ref s.heap.objs.size) 0 (.ref a) es.size ep)).get? I=some (cq (.ref s.heap.objs.size) 0 (.ref a) es.size ep):=by
   rw [hI,← hz1]
   exact Heap.get?_push_size _ rfl
  have q2:((s.heap.push op).push (cq (.ref s.heap.objs.size) 0 (.ref a) es.size ep)).get? a=some o:=Heap.get?_push_of_some _ (Heap.get?_push_of_some _ ha)
  have q3:((s.heap.push op).push (cq (.ref s.heap.objs.size) 0 (.ref a) es.size ep)).get? s.heap.objs.size=some op:=Heap.get?_push_of_some _ (Heap.get?_push_size s.heap (o:=op) (by rw [← hP]; rfl))
  have q4:∀ b ∈ [I,a,s.heap.objs.size],b < ((s.heap.push op).push (cq (.ref s.heap.objs.size) 0 (.ref a) es.size ep)).objs.size:=by
   intro b hb
   rw [hz2]
   simp only [List.mem_cons,List.not_mem_nil,or_false] at hb
   rcases hb with rfl | rfl | rfl
   ·rw [hI]; exact aaG _
   ·exact aaJ (aaJ alt)
   ·exact aaJ (aaG _)
  have q6:∀ b ∈ [I,a,s.heap.objs.size],b=a∨s.heap.objs.size<=b:=by
   intro b hb
   simp only [List.mem_cons,List.not_mem_nil,or_false] at hb
   rcases hb with rfl | rfl | rfl
   ·exact .inr (by rw [hI]; exact aaT _)
   ·exact .inl rfl
   ·exact .inr (aae _)
  have q5:(ys.filterMap fun j=>(es[j]?).map (·.2)).Perm (es.toList.map (·.2)):=by
   refine (hp.filterMap fun j=>(es[j]?).map (·.2)).trans ?_
   rw [← PySem.filterMap_getElem?_range es,List.map_filterMap]
  exact h I [I,a,s.heap.objs.size] _ (ys.filterMap fun j=>(es[j]?).map (·.2)) _ d' (fun A' hA=>kD (op:=op) hA haI hpI hd hf hop hp) ⟨q1,q2,q3⟩ q4 (by simp) haI q6 q5 (fun b ob e=>Heap.get?_push_of_some _ (Heap.get?_push_of_some _ e))
 ·rw [if_neg hdr]
  refine aaa (aac ?_)
  refine fin _ s.heap s.drawn (fun b ob e=>e) (aae _) fun I hI=>?_
  have haI:a≠I:=by rw [hI]; exact aah alt
  have hfp:∀ b ∈ [I,a],b < (s.heap.push (cq (rawInt 0) 0 (.ref a) es.size ep)).objs.size:=by
   intro b hb
   rw [aaR]
   simp only [List.mem_cons,List.not_mem_nil,or_false] at hb
   rcases hb with rfl | rfl
   ·rw [hI]; exact aaG _
   ·exact aaJ alt
  have q1:(s.heap.push (cq (rawInt 0) 0 (.ref a) es.size ep)).get? I=some (cq (rawInt 0) 0 (.ref a) es.size ep):=by rw [hI]; exact Heap.get?_push_size _ rfl
  have q2:(s.heap.push (cq (rawInt 0) 0 (.ref a) es.size ep)).get? a=some o:=Heap.get?_push_of_some _ ha
  have q6:∀ b ∈ [I,a],b=a∨s.heap.objs.size<=b:=by
   intro b hb
   simp only [List.mem_cons,List.not_mem_nil,or_false] at hb
   rcases hb with rfl | rfl
   ·exact .inr (by rw [hI]; exact aae _)
   ·exact .inl rfl
  cases hby:byText w with
  | true=>exact h I [I,a] _ ((pickOrder (w.params.setOrder a ep) es).toList.map (·.2)) _ s.drawn (fun A' hA=>m9 hA haI hd hf hby) ⟨q1,q2⟩ hfp (by simp) haI q6 ((cT _ es).map _) (fun b ob e=>Heap.get?_push_of_some _ e)
  | false =>
   have hdr':(!t.plain && decide (es.size > 1))=false:=by
    rw [hby,Bool.not_false,Bool.true_and] at hdr
    exact Bool.eq_false_iff.mpr hdr
   have hr:Ris t.place:=by
    cases q:t.plain with
    | true=>exact hpl q
    | false =>
     rw [q,Bool.not_false,Bool.true_and] at hdr'
     have h1:¬ es.size > 1:=of_decide_eq_false hdr'
     have hsz:t.place.size=es.size:=by
      have hf':=hf
      simp only [SetTable.fits,Bool.and_eq_true,beq_iff_eq] at hf'
      exact hf'.1
     have hl:t.place.toList.length<=1:=by rw [Array.length_toList]; nofun
     unfold Ris
     match hq:t.place.toList,hl with
     | [],_=>exact .nil
     | [x],_=>exact List.pairwise_singleton _ _
   exact h I [I,a] _ (es.toList.map (·.2)) _ s.drawn (fun A' hA=>pz hA haI hd hf hby hdr' hr (by rw [hled,hby]; rfl)) ⟨⟨0,mY hr,q1⟩,q2⟩ hfp (by simp) haI q6 (.refl _) (fun b ob e=>Heap.get?_push_of_some _ e)
end
section
variable          {t:SetTable}
theorem tY {Q:Bool->Shared->Prop} (hT:s.TypeIs (.ref a) "set") (h:Q false s):wpAny (model prog w) A (Builtin.List.listLengthHint (.ref a)) Q E s:=by
 unfold Builtin.List.listLengthHint
 refine aaa (wpAny_specialOf hT F.slot_set_len.lookup ?_)
 generalize hid:("set.__len__" : String)=id0
 wp_delta
 rw [show splitId id0=some ("set", "__len__") from by subst hid; decide +kernel]
 subst hid
 refine aaa (wpAny_isInstance (b:=true) hT sub_set_self ?_)
 rw [if_neg (by decide)]
 show wpAny _ _ (if _=true then _ else _) _ _ _
 rw [if_pos (by decide +kernel)]
 refine aaa (wpAny_typeOf hT ?_)
 exact aac h
theorem kE {Q:List Value->Shared->Prop}(hh:A.handled=none)(ha:s.heap.get? a=some o)(hex:o.ExactSet)(hd:o.data=.set es ep t)(hf:t.fits es.size=true)(hb:es.size < scanBound)(hled:t.led=!byText w)(hpl:t.plain=true->Ris t.place)
  (hQ:∀ (vs:List Value) (h':Heap) (d':Drawn) (tk:Nat),vs.Perm (es.toList.map (·.2))->s.heap.objs.size < h'.objs.size->(∀ b ob,s.heap.get? b=some ob->h'.get? b=some ob)->Q vs { s with heap:=h',drawn:=d',toks:=tk }) :
  wpAny (model prog w) A (collect (.ref a)) Q E s:=by
 have alt:a < s.heap.objs.size:=aaf ha
 unfold collect
 refine aaa (wpAny_runValue (codeAny_builtin F.entry_proto_collect ?_))
 rw [aaE F.plain_proto_collect _]
 show wpAny _ A.in1 (newList [] >>= fun l=>again (.builtin "list.__iadd__" ⟨[l,.ref a],[]⟩)) _ _ s
 refine aaa (aaI ?_)
 refine aac ⟨plainId_quiet F.plain_list_iadd _,codeAny_builtin F.entry_list_iadd ?_⟩
 rw [aaE F.plain_list_iadd _]
 generalize hL:({ cls:=.type "list", dict:=none,data:=.seq ([]:List Value).toArray }:Obj)=ol
 have g1:(s.heap.push ol).get? s.heap.objs.size=some ol:=Heap.get?_push_size s.heap (o:=ol) (by rw [← hL]; rfl)
 have ga:(s.heap.push ol).get? a=some o:=Heap.get?_push_of_some _ ha
 have hT:Shared.TypeIs { s with heap:=s.heap.push ol } (.ref a) "set" := ⟨o,ga,hex.1⟩
 show wpAny _ A.in1 (Builtin.List.listExtendWith (.ref s.heap.objs.size) (.ref a) (.ref s.heap.objs.size)) _ _ _
 unfold Builtin.List.listExtendWith
 refine aaa (wpAny_typeOf hT ?_)
 have h1:Builtin.List.listSameRef (.ref s.heap.objs.size) (.ref a)=false:=by
  simp only [Builtin.List.listSameRef,beq_eq_false_iff_ne]
  exact (aah alt).symm
 rw [if_neg (by rw [h1]; decide)]
 refine aaa (tX (s:={ s with heap:=s.heap.push ol }) ga hex hd hf hb hled hpl fun I fp St ord h2 d2 W st0 hfp hI haI hfq hord hk=>?_)
 refine aaa (aaD (tY ⟨o,hk a o ga,hex.1⟩ ?_))
 rw [if_pos (by decide)]
 refine aaa (abB ?_)
 refine aaa ?_
 have g2:h2.get? s.heap.objs.size=some { cls:=.type "list", data:=.seq ([]:List Value).toArray }:=by rw [hL]; exact hk _ _ g1
 show wpAny _ A.in1 (updateSeq s.heap.objs.size (·.push .none) >>= fun _=>updateSeq s.heap.objs.size (·.pop)) _ _ _
 refine aaa (wpAny_updateSeq (s:={ s with heap:=h2,drawn:=d2 }) g2 rfl ?_)
 have g3:=Heap.get?_update_self (Obj.mapSeq (·.push Value.none)) g2 rfl
 refine wpAny_updateSeq g3 rfl ?_
 have g4:=Heap.get?_update_self (Obj.mapSeq (·.pop)) g3 rfl
 generalize hh3:(h2.update s.heap.objs.size (Obj.mapSeq (·.push Value.none))).update s.heap.objs.size (Obj.mapSeq (·.pop))=h3 at g4 ⊢
 have oth:∀ b ob,b≠s.heap.objs.size->h2.get? b=some ob->h3.get? b=some ob:=fun b ob hne e=>by
  rw [← hh3]
  exact (Heap.get?_update_other _ _ (abu hne)).trans ((Heap.get?_update_other _ _ (abu hne)).trans e)
 have hz:(s.heap.push ol).objs.size=s.heap.objs.size+1:=aaR ..
 have hSf:s.heap.objs.size ∉ fp:=fun hm=>by
  rcases hfq _ hm with z | z
  ·exact absurd z (aah alt).symm
  ·have z:(s.heap.push ol).objs.size<=s.heap.objs.size:=z
   rw [hz] at z
   exact absurd z (Nat.not_succ_le_self _)
 have hIS:I≠s.heap.objs.size:=fun e=>hSf (e ▸ hI)
 have st1:=(W A.in1 hh).frame 0 _ h3 s.toks st0 (aae _) fun b hb ob e=>oth b ob (fun z=>hSf (z ▸ hb)) e
 have lt0:∀ b ob,s.heap.get? b=some ob->b≠s.heap.objs.size/\b≠I:=fun b ob e=>by
  refine ⟨aah (aaf e),fun z=>?_⟩
  rcases hfq _ hI with y | y
  ·exact haI y.symm
  ·have y:(s.heap.push ol).objs.size<=I:=y
   rw [hz,← z] at y
   exact absurd (aan (aaf e) (Nat.le_of_succ_le y)) (aaQ _)
 refine aac ⟨plainId_quiet F.plain_extend_loop _,codeAny_extend_loopS (W A.in1 hh) (fits_of_scanBound hb) _ hSf _ es.size 0 _ _ _ rfl (aaq _) st1 g4 (ItemsOf.nil _) fun s' acc c' hm gS hacc=>?_⟩
 show wpAny _ A (load s.heap.objs.size >>= _) _ _ s'
 refine aaa (wpAny_load gS ?_)
 refine aac ?_
 obtain ⟨h9,g9,d9,tk9,os9⟩:=s'
 have eg:g9=s.gens:=hm.gens.symm
 have ed:d9=d2:=hm.drawn
 have eo:os9=s.os:=hm.os
 subst eg ed eo
 have hl:ord.length=es.size:=by rw [hord.length_eq,List.length_map,Array.length_toList]
 have hv:acc.toList=ord:=by
  refine List.ext_getElem? fun j=>?_
  by_cases hj:j < acc.size
  ·have e1:acc[j]?=some acc[j]:=Array.getElem?_eq_getElem hj
   rw [Array.getElem?_toList,e1,hacc.2 j _ e1]
  ·have hj':es.size<=j:=by rw [hacc.1] at hj; nofun
   rw [Array.getElem?_toList,Array.getElem?_eq_none (by nofun),List.getElem?_eq_none (by nofun)]
 refine hQ _ h9 _ tk9 (by rw [hv]; exact hord) (aaf gS) fun b ob e=>?_
 obtain ⟨n1,n2⟩:=lt0 b ob e
 exact hm.heap b ob (by simp [n1,n2]) (oth b ob n1 (hk b ob (Heap.get?_push_of_some _ e)))
end
theorem fU {α:Type}[DecidableEq α]:∀ (σ ss:List α),σ.Nodup->(∀ k ∈ σ,k ∈ ss)->ss.length=σ.length->ss.Perm σ
 | [],ss,_,_,hl=>by
  have:ss=[]:=aau (by exists hl)
  subst this; exact .refl _
 | k::σ,ss,hn,hm,hl=>by
  have hk:k ∈ ss:=hm k (aab ..)
  have hp:=List.perm_cons_erase hk
  have hn':=List.nodup_cons.mp hn
  have hlen:(ss.erase k).length=σ.length:=by
   have:=hp.length_eq
   simp only [List.length_cons] at this hl
   nofun
  refine hp.trans (.cons k (fU σ (ss.erase k) hn'.2 (fun j hj=>?_) hlen))
  have hne:j≠k:=fun e=>hn'.1 (e ▸ hj)
  exact (List.mem_erase_of_ne hne).mpr (hm j (aad _ hj))
theorem tZ {x:Str}{v:Value}(h:Value.isStrOf x v=true):strOf v=x:=by
 obtain ⟨t,rfl⟩:=Value.isStrOf_shape h; rfl
theorem sorted_set {σ:List Str}(hh:A.handled=none)(hS:SetZ (PySem.strKind prog w) s.heap a σ (!byText w))(h64:σ.length < 64)
  (hQ:∀ (p:Addr) (out:List Value) (ss:List Str) (e:Nat) (h':Heap) (d':Drawn) (tk:Nat),s.heap.objs.size<=p->h'.get? p=some (seqObj "list" out.toArray e)->StrsAre out ss->ss.Perm σ->sortedS ss=true ->
   (∀ b o,s.heap.get? b=some o->h'.get? b=some o)->Q (.ref p) { s with heap:=h',drawn:=d',toks:=tk }) :
  wpAny (model prog w) A (call (.builtin "sorted") [.ref a]) Q E s:=by
 obtain ⟨o,es,ep,t,ho,hex,hd,hE,hmem,hb,hf,hsz,hnd,hled,hpl⟩:=hS
 refine Calls.call_function_entry kind_sorted plain_sorted entry_sorted (args_sorted1 _) ?_
 unfold Builtin.«sorted»
 refine aaa (m:=checkCount "sorted" 1 1 _) (aac ?_)
 refine aaa (kE (by exists hh) ho hex hd hf hb hled hpl fun vs h' d' tk hperm hlt hk=>?_)
 have hlen:vs.length=σ.length:=by rw [hperm.length_eq,List.length_map,Array.length_toList]; exact hsz
 refine aaa (wpAny_newList ?_ (hsz:=by rw [sizeLine_eq]; nofun))
 show wpAny _ _ _ _ _ { s with heap:=h'.push (seqObj "list" vs.toArray 0),drawn:=d',toks:=tk }
 have hoL:(h'.push (seqObj "list" vs.toArray 0)).get? h'.objs.size=some (seqObj "list" vs.toArray 0):=Heap.get?_push_size _ rfl
 have hstr:∀ v ∈ vs,∃ x t,v=.str x t:=fun v hv=>by
  have hv':=hperm.mem_iff.mp hv
  obtain ⟨e,he,rfl⟩:=List.mem_map.mp hv'
  obtain ⟨⟨k,hk,_⟩,_⟩:=hE e he
  obtain ⟨t,q⟩:=Value.isStrOf_shape hk
  exact ⟨k,t,q⟩
 have hSA:=strsAre_map vs hstr
 have hps:(vs.map strOf).Perm σ:=by
  refine fU σ _ hnd (fun k hk=>?_) (by rw [List.length_map,hlen])
  obtain ⟨e,he,hke⟩:=(hmem k).mp hk
  refine List.mem_map.mpr ⟨e.2,hperm.mem_iff.mpr (List.mem_map.mpr ⟨e,he,rfl⟩),tZ hke⟩
 have hle:s.heap.objs.size<=h'.objs.size:=abi hlt
 refine aaa (aaD (aaF slot_list_sort ⟨_,hoL,rfl⟩ entry_list_sort (list_sort_treeK strKind_oneLt hoL hSA.keysOf (fun v₁ v₂ af e=>keyKind_strs (by rw [← e]; exact hSA)) (by rw [hlen]; exact h64) fun st' a1 a2=>⟨_,rfl,?_⟩) (args_list_sort _)))
 obtain ⟨ss',b1,b2,b3⟩:=sorted_out_str hSA a1 a2
 obtain ⟨e',he'⟩:=sortedHeap_at (out:=(arrOf st').map (·.2)) hoL
 refine aac ⟨_,rfl,hQ h'.objs.size ((arrOf st').map (·.2)).toList ss' e' _ d' tk hle (by rw [abz]; exact he') b1 (b2.trans hps) b3 fun b ob hb=>?_⟩
 have hbl:b < h'.objs.size:=aan (aaf hb) hle
 rw [sortedHeap_old (aah hbl) (by rw [size_push']; exact aaJ hbl)]
 exact Heap.get?_push_of_some _ (hk b ob hb)
end KS
namespace L2
open PySem PySem.Spec PyProof.Rows
variable{ss zs:List Str}{X:Cx}{σ σ0:St}{H F F' H' Z F1:Hp}{s:Shared}{a p:Addr}{ty tv te ta tb:TE}{pos:Pos}{ixs T μ m:List Nat}{i n j no:Nat}{y z x b:Str}{wi:TI}{g:TG}{tc u:TT}{ys:List (Key×V)}{Q:VK}{v:V}{xs vs:List V}{A B:List Addr}{ks k:List Key}{t:TA}{gs:TGs}{w:World}{gV:Int->Int->V}
theorem cU {vs:List Value}(h:StrsAre vs ss):Vals (ss.map V.str) vs:=by
 induction h with
 | nil=>exact .nil
 | cons y t h ih=>exact .cons ⟨t,rfl⟩ ih
theorem cV:∀ {ss:List Str} {vs:List Value},Vals (ss.map V.str) vs->StrsAre vs ss
 | [],_,.nil=>.nil
 | s::ss,_,.cons ⟨t,e⟩ r=>by subst e; exact .cons s t (cV r)
theorem wQ:∀ {vs:List Value} {ss:List Str} {i:Nat} {v:Value},StrsAre vs ss->vs[i]?=some v->∃ t,v=.str (ss.getD i "") t
 | _,_,_,_,.nil,e=>by simp at e
 | _,_,0,_,.cons y t h,e=>by simp at e; exact ⟨t,by rw [← e]; rfl⟩
 | _,_,i+1,v,.cons y t h,e=>by
  obtain ⟨u,q⟩:=wQ (i:=i) (v:=v) h (by exists e)
  exact ⟨u,(by exists q)⟩
theorem StrsAre.len:∀ {vs:List Value} {ss:List Str},StrsAre vs ss->vs.length=ss.length
 | _,_,.nil=>rfl
 | _,_,.cons _ _ h=>by simp [StrsAre.len h]
def D9 (P:Program)(w:World)(q:Addr)(σ:List Str):HO:=.ext fun h=>KS.SetZ (PySem.strKind P w) h q σ (!KS.byText w)
theorem Inv.laidD {pins:List (Addr×Obj)}{h':Heap}{o:HO}{t':Nat}{d':Drawn}(I:Inv X pins σ H s)(k:∀ b u,s.heap.get? b=some u->h'.get? b=some u)(hp:s.heap.objs.size<=a)(new:ObjOk X.prog X.w (upd H a o) h' a o) :
  Inv X pins σ (upd H a o) { s with heap:=h',drawn:=d',toks:=t' } :=
 I.call (ch:=[]) (g':=s.gens) (Un.laid k hp (I.hok.fresh hp)) (I.hok.laid k hp new) I.bare (fun _ z=>nomatch z)
def GZ (P:Program)(w:World)(K:Frag):List V->Hp->VK->Prop:=fun xs H Q=>∃ (p:Addr) (zs:List Str),xs=[.ref p]/\SqL K H p (zs.map .str)/\zs.length+1 < scanBound /\
 ∀ q σ,H q=none->(∀ k,k ∈ σ↔k ∈ zs)->σ.Nodup->σ.length<=zs.length->Q (.ref q) (upd H q (D9 P w q σ))
theorem pA (hc:X.calm=true):CallR X (.type "set") (GZ X.prog X.w X.K):=by
 intro pins s σ H xs us Q I r h
 obtain ⟨p,zs,rfl,hq,hz,q⟩:=h
 obtain ⟨u,rfl,rx⟩:=du r
 cases rx
 obtain ⟨its,r',pl,hz'⟩:=I.list hq
 have hS:=cV r'
 have hlen:=StrsAre.len hS
 refine KS.set_of_list (knd:=PySem.strKind X.prog X.w) (I.ok.hd hc) pl.isList (fun i=>zs.getD i "") (fun i v e=>?_) (by simp only [List.size_toArray]; nofun) fun h' tk hZ hk=>?_
 ·obtain ⟨t,rfl⟩:=wQ (i:=i) hS (by exists e)
  exact ⟨i5 _ t,rfl⟩
 ·have hmem:∀ k,k ∈ KS.metZ (fun i=>zs.getD i "") its.toArray.size↔k ∈ zs:=fun k=>by
   rw [KS.metZ_mem]
   simp only [List.size_toArray,hlen]
   constructor
   ·rintro ⟨j,hj,rfl⟩
    rw [List.getD,List.getElem?_eq_getElem hj]; exact aaP hj
   ·intro hk
    obtain ⟨j,hj,e⟩:=abf hk
    exact ⟨j,hj,by rw [List.getD,List.getElem?_eq_getElem hj]; exact e⟩
  have hZ':=id hZ
  obtain ⟨o,es,ep,t,ho,_,_,_,_,_,_,_,hnd,_,_⟩:=hZ'
  refine ⟨.ref s.heap.objs.size,_,I.laid (t':=tk) (o:=D9 X.prog X.w s.heap.objs.size (KS.metZ (fun i=>zs.getD i "") its.toArray.size)) (fun b o e=>hk b o (aaf e) e) (aae _) ?_,rfl,q _ _ (I.hok.fresh (aae _)) hmem hnd ?_⟩
  ·exact ⟨hZ,⟨o,ho⟩,fun h1 h2 z k=>KS.SetZ.at z k⟩
  ·exact aav (KS.metZ_len _ _) (by simp only [List.size_toArray]; nofun)
def pB (P:Program)(w:World)(K:Frag):List V->Hp->VK->Prop:=fun xs H Q=>∃ (p:Addr) (σ:List Str),xs=[.ref p]/\(H p=some (D9 P w p σ)∨SqL K H p (σ.map .str))/\σ.length < 64 /\
 ∀ q ss,H q=none->ss.Perm σ->sortedS ss=true->Q (.ref q) (upd H q (.lst (ss.map .str)))
theorem ju (hc:X.calm=true):CallR X (.builtin "sorted") (pB X.prog X.w X.K):=by
 intro pins s σ H xs us Q I r h
 obtain ⟨p,τ,rfl,hq,hz,q⟩:=h
 obtain ⟨u,rfl,rx⟩:=du r
 cases rx
 rcases hq with hq | hq
 ·obtain ⟨hS,_,_⟩:=I.hok p _ hq
  refine KS.sorted_set (I.ok.hd hc) hS hz fun q' out ss e h' d' tk hle hg hSA hp hs hk=>?_
  have hl:ss.length < 64:=by rw [hp.length_eq]; exact hz
  refine ⟨.ref q',_,I.laidD (t':=tk) (d':=d') (o:=.lst (ss.map .str)) hk hle ⟨?_,out,e,cU hSA,hg⟩,rfl,q q' ss (I.hok.fresh hle) hp hs⟩
  rw [List.length_map,sizeLine_eq]; nofun
 ·obtain ⟨its,r',pl,hz'⟩:=I.list hq
  have hS:=cV r'
  have hlen:=StrsAre.len hS
  refine sorted_strs pl.isList hS (by nofun) fun out ss h1 h2 h3=>?_
  obtain ⟨e,he⟩:=sortedAll_at s.heap its out
  have hl:ss.length < 64:=by rw [h2.length_eq]; exact hz
  refine ⟨.ref (s.heap.objs.size+1),_,I.laid (t':=s.toks) (o:=.lst (ss.map .str)) (fun b o e=>sortedAll_old e) (aaT _) ⟨?_,out.toList,e,cU h1,by rw [abz]; exact he⟩,rfl,q _ ss (I.hok.fresh (aaT _)) h2 h3⟩
  rw [List.length_map,sizeLine_eq]; nofun
theorem nb (hc:X.calm=true):CallR X (.type "list") (fun xs H Q=>∃ p kvs,xs=[.ref p]/\Rd H p (.dK kvs)/\∀ l,H l=none->Q (.ref l) (upd H l (.lst (kvs.map fun kv=>kV kv.1)))):=by
 intro pins s σ H xs us Q I r h
 obtain ⟨p,kvs,rfl,hq,q⟩:=h
 obtain ⟨u,rfl,rx⟩:=du r
 cases rx
 obtain ⟨hz,hS,vs,rv,m⟩:kvs.length<=sizeLine/\(p == sysModules)=false/\∃ vs,KV kvs vs/\s.heap.DictOf (ai X.prog X.w) p vs:=hq.ok I.hok
 obtain ⟨ep,hat⟩:=m.dictAt
 have hl:kvs.length=vs.length:=aa1 rv
 refine PySem.W.kdl_call (PySem.W.kdl_dict (knd:=ai X.prog X.w) (kvs:=vs) (ep:=ep) hS) (I.ok.hd hc) hat (by rw [← hl]; exact hz) fun h' tk acc' c' hk hD hacc=>?_
 have hv:Vals (kvs.map fun kv=>kV kv.1) acc'.toList:=by
  have hal:acc'.toList.length=kvs.length:=by rw [Array.length_toList,hacc.1,hl]
  have hget:∀ j v,acc'.toList[j]?=some v->∃ k x,vs[j]?=some (k,x)/\ik k v=true:=fun j v e=>hacc.2 j v (by rw [← Array.getElem?_toList]; exact e)
  clear hacc hD
  generalize acc'.toList=us at hal hget
  clear hat m hl hz q hq I
  induction rv generalizing us with
  | nil=>cases us with | nil=>exact .nil | cons a b=>simp at hal
  | cons h1 h2 ih =>
   cases us with
   | nil=>simp at hal
   | cons a b =>
    refine .cons ?_ (ih b (by exists hal) fun j v e=>by simpa using hget (j+1) v (by exists e))
    obtain ⟨k,x,e1,e2⟩:=hget 0 a rfl
    simp only [List.getElem?_cons_zero,Option.some.injEq] at e1
    subst e1
    have e3:_=k:=h1.1
    show RelV (kV _) a
    rw [e3]
    rcases aJ e2 with ⟨i,t,rfl,rfl⟩ | ⟨z,t,rfl,rfl⟩
    ·exact ⟨t,rfl⟩
    ·exact ⟨t,rfl⟩
 exact ⟨.ref s.heap.objs.size,_,I.laid (t':=tk) (o:=.lst (kvs.map fun kv=>kV kv.1)) hk (aae _) ⟨by rw [List.length_map]; exact hz,acc'.toList,c',hv,by rw [abz]; exact hD⟩,rfl,q _ (I.hok.fresh (aae _))⟩
def pD (K:Frag):List V->Hp->VK->Prop:=fun xs H Q=>(∃ p ys,xs=[.ref p]/\(SqL K H p ys∨SqT K H p ys)/\∀ l,H l=none->Q (.ref l) (upd H l (.lst ys)))∨∃ p kvs,xs=[.ref p]/\Rd H p (.dK kvs)/\∀ l,H l=none->Q (.ref l) (upd H l (.lst (kvs.map fun kv=>kV kv.1)))
theorem zo (K:Frag)(hc:X.calm=true)(h:X.K=K):BCall X (.type "list") (pD K):=by subst h; exact ⟨ji.or (nb hc)⟩
theorem Ea (P:Program)(w:World)(K:Frag)(hc:X.calm=true)(hP:X.prog=P)(hw:X.w=w)(h:X.K=K):BCall X (.type "set") (GZ P w K):=by subst h hP hw; exact ⟨pA hc⟩
theorem zp {o i value:Expr}{td:TE}{pos':Pos}(hu:X.A.units+1 < cLine)(ho:BE X o td)(hi:BE X i ty)(hv:BE X value tv)(hs:swapsWith value (some (.Subscript o i pos')) pos.line X.env=pure false) :
  BS X (.Assign [.Subscript o i pos'] value pos) (sV td ty tv):=⟨yt hu ho.h hi.h hv.h hs⟩
theorem zq {T F:List Str}{scope:Scope}{elt tg iter:Expr}{ifs:List Expr}{py spos:Pos}(hc:X.calm=true)(S:CompScope X T F ixs scope)(hi:BI X tg iter wi)
  (hg:∀ C s H fp,BG (bm X (T++F) scope (ax X.env scope.names []) C s H fp) tg g) (ht:∀ C s H fp,BIf (bm X (T++F) scope (ax X.env scope.names []) C s H fp) ifs tc) (he:∀ C s H fp,BE (bm X (T++F) scope (ax X.env scope.names []) C s H fp) elt te)
  (hs:∀ x,foldedSetIterable iter X.env x=pure x) (hN:X.N.Nodup) (hix:X.N[i]?=some y) (hx:Loc X.env.scope y)
  (hsw:swapsWith (.ListComp elt [⟨tg,iter,ifs,0⟩] scope pos) (some (.Name y py)) spos.line X.env=pure true) (hf:X.fn y=true∨X.env.scope.names.lookup y=some .local) :
  BS X (.Assign [.Name y py] (.ListComp elt [⟨tg,iter,ifs,0⟩] scope pos) spos) (nX (dm T.length ixs wi g tc te) (dY i)) :=
 ⟨yF hc S hi.h (fun C s H fp=>(hg C s H fp).h) (fun C s H fp=>(ht C s H fp).h) (fun C s H fp=>(he C s H fp).h) hs hN hix hx hsw hf⟩
theorem HR {α:Type}{x:α}{r:List α}:atI (x::r) (0:Int)=some x:=cp (j:=0) rfl
def Eb (K:Frag)(mg:Str->Option Value)(x:Str)(xs:List V):Prop:=∃ a,mg x=some (.ref a)/\∀ H,SqT K H a xs
theorem pE {K:Frag}{ys:List V}(h:SqL K H p ys)(q:∀ l,H l=none->Q (.ref l) (upd H l (.lst ys))):pD K [.ref p] H Q:=.inl ⟨p,ys,rfl,.inl h,q⟩
theorem pF {K:Frag}{ys:List V}(h:SqT K H p ys)(q:∀ l,H l=none->Q (.ref l) (upd H l (.lst ys))):pD K [.ref p] H Q:=.inl ⟨p,ys,rfl,.inr h,q⟩
theorem nc {K:Frag}{kvs:List (Key×V)}(h:Rd H p (.dK kvs))(q:∀ l,H l=none->Q (.ref l) (upd H l (.lst (kvs.map fun kv=>kV kv.1)))):pD K [.ref p] H Q:=.inr ⟨p,kvs,rfl,h,q⟩
theorem jv (h:zs.Nodup):(KS.dedup1 zs z).Nodup:=by
 unfold KS.dedup1
 split
 ·exact h
 ·rename_i hz; exact KS.nodup_snoc h hz
theorem ng :y ∈ KS.dedup1 zs z↔y ∈ zs∨y=z:=by
 unfold KS.dedup1
 split
 ·rename_i hz
  exact ⟨.inl,fun h=>h.elim id fun e=>e ▸ hz⟩
 ·simp
theorem nh (zs:List Str)(z:Str):zs.length<=(KS.dedup1 zs z).length/\(KS.dedup1 zs z).length<=zs.length+1/\1<=(KS.dedup1 zs z).length:=by
 unfold KS.dedup1
 split
 ·rename_i hz
  exact ⟨aae _,aaT _,List.length_pos_of_mem hz⟩
 ·simp
inductive D where
 | non | bl (b:Bool) | int (i:Int) | str (x:Str) | lst (xs:List D) | tup (xs:List D) | dct (ks:List Key) (xs:List D) | ty (T:String) | opq (a:Addr) (n:Nat) | gt (xs:List D) | dt (ks:List (List Key)) (xs:List D)
variable{d e:D}{ds as:List D}{gD:Int->Int->D}
def plKV:Key×V->Bool
 | (.inr z,.int i)=>decide (z.length<=20) && z.cps.toList.all (fun c=>decide (c < 16 ^ 8)) && decide (i.natAbs.log2 < 20) && decide ((PySem.PyData.shown (.int i)).length<=8)
 | _=>false
mutual
inductive Den (K:Frag)(F:Hp):V->D->Prop where
 | non:Den K F .non .non
 | bl (b:Bool):Den K F (.bl b) (.bl b)
 | int (i:Int):Den K F (.int i) (.int i)
 | str (x:Str):Den K F (.str x) (.str x)
 | ty (T:String):Den K F (.ty T) (.ty T)
 | lst {a:Addr} {xs:List V} {ds:List D}:SqL K F a xs->Dens K F xs ds->Den K F (.ref a) (.lst ds)
 | tup {a:Addr} {xs:List V} {ds:List D}:F a=some (.tup xs)->Dens K F xs ds->Den K F (.ref a) (.tup ds)
 | dct {a:Addr} {ys:List (Key×V)} {ks:List Key} {ds:List D}:Rd F a (.dK ys)->ys.map (·.1)=ks->Dens K F (ys.map (·.2)) ds->Den K F (.ref a) (.dct ks ds)
 | opq {a:Addr} {ys:List (Key×V)} {n:Nat}:Rd F a (.dK ys)->ys.length=n->ys.all plKV=true->Den K F (.ref a) (.opq a n)
 | gt {a:Addr} {xs:List V} {ds:List D}:SqT K F a xs->Dens K F xs ds->Den K F (.ref a) (.gt ds)
 | dt {a:Addr} {ys:List (List Key×V)} {ks:List (List Key)} {ds:List D}:Rd F a (.dT ys)->ys.map (·.1)=ks->Dens K F (ys.map (·.2)) ds->Den K F (.ref a) (.dt ks ds)
inductive Dens (K:Frag)(F:Hp):List V->List D->Prop where
 | nil:Dens K F [] []
 | cons {x:V} {d:D} {xs:List V} {ds:List D}:Den K F x d->Dens K F xs ds->Dens K F (x::xs) (d::ds)
end
theorem Same.rd {u:HO}(e:Same F F')(h:Rd F a u):Rd F' a u:=h.elim (fun h=>.inl (e _ _ h)) fun ⟨o,h⟩=>.inr ⟨o,e _ _ h⟩
theorem Den.mono {K:Frag}(e:Same F F')(h:Den K F v d):Den K F' v d :=
 Den.rec (motive_1:=fun v d _=>Den K F' v d) (motive_2:=fun v d _=>Dens K F' v d) .non .bl .int .str .ty (fun h _ t=>.lst (e.seq h) t) (fun h _ t=>.tup (e _ _ h) t) (fun h k _ t=>.dct (e.rd h) k t) (fun h k p=>.opq (e.rd h) k p) (fun h _ t=>.gt (h.same e) t) (fun h k _ t=>.dt (e.rd h) k t) .nil (fun _ _ h t=>.cons h t) h
theorem Dens.mono {K:Frag}(e:Same F F'){v:List V}{d:List D}(h:Dens K F v d):Dens K F' v d :=
 Dens.rec (motive_1:=fun _ _ _=>True) (motive_2:=fun v d _=>Dens K F' v d) trivial (fun _=>trivial) (fun _=>trivial) (fun _=>trivial) (fun _=>trivial) (fun _ _ _=>trivial) (fun _ _ _=>trivial) (fun _ _ _ _=>trivial) (fun _ _ _=>trivial) (fun _ _ _=>trivial) (fun _ _ _ _=>trivial) .nil (fun h _ _ t=>.cons (h.mono e) t) h
section
variable {K:Frag} 
theorem Dens.length {xs:List V}{ds:List D}(h:Dens K F xs ds):xs.length=ds.length :=
 Dens.rec (motive_1:=fun _ _ _=>True) (motive_2:=fun xs ds _=>xs.length=ds.length) trivial (fun _=>trivial) (fun _=>trivial) (fun _=>trivial) (fun _=>trivial) (fun _ _ _=>trivial) (fun _ _ _=>trivial) (fun _ _ _ _=>trivial) (fun _ _ _=>trivial) (fun _ _ _=>trivial) (fun _ _ _ _=>trivial) rfl (fun _ _ _ t=>congrArg (·+1) t) h
theorem Dens.get:∀ {xs:List V} {ds:List D} {i:Nat} {d:D},Dens K F xs ds->ds[i]?=some d->∃ x,xs[i]?=some x/\Den K F x d
 | _,_,_,_,.nil,e=>by simp at e
 | _,_,0,_,.cons h _,e=>by simp at e; subst e; exact ⟨_,rfl,h⟩
 | _,_,i+1,d,.cons h t,e=>by
  obtain ⟨x,h1,h2⟩:=Dens.get (i:=i) (d:=d) t (by exists e)
  exact ⟨x,(by exists h1),h2⟩
theorem Dens.get':∀ {xs:List V} {ds:List D} {i:Nat} {x:V},Dens K F xs ds->xs[i]?=some x->∃ d,ds[i]?=some d/\Den K F x d
 | _,_,_,_,.nil,e=>by simp at e
 | _,_,0,_,.cons h _,e=>by simp at e; subst e; exact ⟨_,rfl,h⟩
 | _,_,i+1,d,.cons h t,e=>by
  obtain ⟨x,h1,h2⟩:=Dens.get' (i:=i) (x:=d) t (by exists e)
  exact ⟨x,(by exists h1),h2⟩
theorem Dens.append {ys:List V}{es:List D}(h:Dens K F xs ds)(s:Dens K F ys es):Dens K F (xs++ys) (ds++es) :=
 Dens.rec (motive_1:=fun _ _ _=>True) (motive_2:=fun xs ds _=>Dens K F (xs++ys) (ds++es)) trivial (fun _=>trivial) (fun _=>trivial) (fun _=>trivial) (fun _=>trivial) (fun _ _ _=>trivial) (fun _ _ _=>trivial) (fun _ _ _ _=>trivial) (fun _ _ _=>trivial) (fun _ _ _=>trivial) (fun _ _ _ _=>trivial) s (fun h _ _ t=>.cons h t) h
theorem Dens.take:∀ {xs:List V} {ds:List D} (n:Nat),Dens K F xs ds->Dens K F (xs.take n) (ds.take n)
 | _,_,0,_=>.nil
 | _,_,_+1,.nil=>.nil
 | _,_,n+1,.cons r t=>.cons r (Dens.take n t)
theorem Dens.drop:∀ {xs:List V} {ds:List D} (n:Nat),Dens K F xs ds->Dens K F (xs.drop n) (ds.drop n)
 | _,_,0,r=>r
 | _,_,_+1,.nil=>.nil
 | _,_,n+1,.cons r t=>Dens.drop n t
theorem Dens.set {x:V}{d:D}(r:Den K F x d):∀ {xs:List V} {ds:List D} (i:Nat),Dens K F xs ds->Dens K F (xs.set i x) (ds.set i d)
 | _,_,_,.nil=>.nil
 | _,_,0,.cons _ t=>.cons r t
 | _,_,i+1,.cons q t=>.cons q (Dens.set r i t)
theorem Dens.snoc {x:V}(h:Dens K F xs ds)(q:Den K F x d):Dens K F (xs++[x]) (ds++[d]):=h.append (.cons q .nil)
theorem Dens.strs:∀ (zs:List Str),Dens K F (zs.map V.str) (zs.map D.str)
 | []=>.nil
 | z::zs=>.cons (.str z) (Dens.strs zs)
theorem Dens.ints:∀ (zs:List Int),Dens K F (zs.map V.int) (zs.map D.int)
 | []=>.nil
 | z::zs=>.cons (.int z) (Dens.ints zs)
theorem Den.str_eq (h:Den K F v (.str z)):v=.str z:=by cases h; rfl
theorem Den.int_eq {z:Int}(h:Den K F v (.int z)):v=.int z:=by cases h; rfl
theorem Den.bl_eq {z:Bool}(h:Den K F v (.bl z)):v=.bl z:=by cases h; rfl
theorem Den.non_eq (h:Den K F v .non):v=.non:=by cases h; rfl
theorem Dens.strs_eq:∀ {zs:List Str} {xs:List V},Dens K F xs (zs.map D.str)->xs=zs.map V.str
 | [],_,.nil=>rfl
 | z::zs,_,.cons h t=>by rw [h.str_eq,Dens.strs_eq t]; rfl
theorem Dens.bls_eq:∀ {zs:List Bool} {xs:List V},Dens K F xs (zs.map D.bl)->xs=zs.map V.bl
 | [],_,.nil=>rfl
 | z::zs,_,.cons h t=>by rw [h.bl_eq,Dens.bls_eq t]; rfl
end
mutual
def wR:D->DV
 | .non=>.non
 | .bl b=>.bl b
 | .int i=>.int i
 | .str x=>.str x
 | .lst xs=>.lst (toDVs xs)
 | .tup xs=>.tup (toDVs xs)
 | .dct _ _=>.non
 | .ty _=>.non
 | .opq _ _=>.non
 | .gt _=>.non
 | .dt _ _=>.non
def toDVs:List D->List DV
 | []=>[]
 | d::ds=>wR d::toDVs ds
end
mutual
def okD:D->Bool
 | .lst xs=>okDs xs
 | .tup xs=>okDs xs
 | .dct _ _=>false
 | .ty _=>false
 | .opq _ _=>false
 | .gt _=>false
 | .dt _ _=>false
 | _=>true
def okDs:List D->Bool
 | []=>true
 | d::ds=>okD d && okDs ds
end
theorem Den.deep {K:Frag}(h:Den K H v d):okD d=true->Deep K H v (wR d) :=
 Den.rec (motive_1:=fun v d _=>okD d=true->Deep K H v (wR d)) (motive_2:=fun v d _=>okDs d=true->Deeps K H v (toDVs d)) (fun _=>.non) (fun b _=>.bl b) (fun b _=>.int b) (fun b _=>.str b) (fun _ o=>nomatch o) (fun h _ t o=>.lst h (t o)) (fun h _ t o=>.tup (SqT.of h) (t o)) (fun _ _ _ _ o=>nomatch o) (fun _ _ _ o=>nomatch o) (fun _ _ _ o=>nomatch o) (fun _ _ _ _ o=>nomatch o) (fun _=>.nil) (fun _ _ h t o=>.cons (h (Bool.and_eq_true_iff.mp o).1) (t (Bool.and_eq_true_iff.mp o).2)) h
def dEq (d e:D):Bool:=deq (wR d) (wR e)
inductive FV where
 | fz (d:D) | fl (a:Addr) (ds:List D) | fd (a:Addr) (ks:List Key) (ds:List D) | ft (a:Addr) (ks:List (List Key)) (ds:List D)
def zr:Nat->Str
 | 0 => "Asking"
 | 1 => "Reader"
 | _ => "Desk"
def cr:Nat->List Str
 | 0=>["form", "name", "place", "at", "turn", "steps", "done", "length"]
 | _=>[]
structure Oo where
 a:Addr
 c:Nat
 ps:List FV
inductive OV where
 | fz (d:D) | fl (ds:List D) | fd (ks:List Key) (ds:List D) | ft (ks:List (List Key)) (ds:List D) | ot (ps:List FV) | ob (o:Oo) | obs (xs:List Oo) | obh (xs:List Oo) (a:Addr)
variable{o:OV}{P:OV->Prop}{f:D->D->(OV->Prop)->Prop}
inductive Fw (K:Frag)(F H:Hp):V->FV->List Addr->Prop where
 | fz {v:V} {d:D}:Den K F v d->Fw K F H v (.fz d) []
 | fl {a:Addr} {xs:List V} {ds:List D}:H a=some (.lst xs)->Dens K F xs ds->Fw K F H (.ref a) (.fl a ds) [a]
 | fd {a:Addr} {ys:List (Key×V)} {ks:List Key} {ds:List D}:H a=some (.dK ys)->ys.map (·.1)=ks->Dens K F (ys.map (·.2)) ds->Fw K F H (.ref a) (.fd a ks ds) [a]
 | ft {a:Addr} {ys:List (List Key×V)} {ks:List (List Key)} {ds:List D}:H a=some (.dT ys)->ys.map (·.1)=ks->Dens K F (ys.map (·.2)) ds->Fw K F H (.ref a) (.ft a ks ds) [a]
inductive Fws (K:Frag)(F H:Hp):List V->List FV->List Addr->Prop where
 | nil:Fws K F H [] [] []
 | cons {x:V} {o:FV} {xs:List V} {os:List FV} {A B:List Addr}:Fw K F H x o A->Fws K F H xs os B->Fws K F H (x::xs) (o::os) (A++B)
inductive Ob (K:Frag)(F H:Hp):V->Oo->List Addr->Prop where
 | mk {a C dx:Addr} {c:Nat} {fs:List (Str×V)} {ps:List FV} {A:List Addr}:H a=some (.ins C dx fs)->PySem.W.nsIn K mainGlobals (zr c)=some (some (.ref C))->fs.map (·.1)=(cr c).take ps.length->ps.length<=(cr c).length->Fws K F H (fs.map (·.2)) ps A->Ob K F H (.ref a) ⟨a,c,ps⟩ (a::A)
inductive Obs (K:Frag)(F H:Hp):List V->List Oo->List Addr->Prop where
 | nil:Obs K F H [] [] []
 | cons {x:V} {o:Oo} {xs:List V} {os:List Oo} {A B:List Addr}:Ob K F H x o A->Obs K F H xs os B->Obs K F H (x::xs) (o::os) (A++B)
inductive Ow (K:Frag)(F H:Hp):V->OV->List Addr->Prop where
 | fz {v:V} {d:D}:Den K F v d->Ow K F H v (.fz d) []
 | fl {a:Addr} {xs:List V} {ds:List D}:H a=some (.lst xs)->Dens K F xs ds->Ow K F H (.ref a) (.fl ds) [a]
 | fd {a:Addr} {ys:List (Key×V)} {ks:List Key} {ds:List D}:H a=some (.dK ys)->ys.map (·.1)=ks->Dens K F (ys.map (·.2)) ds->Ow K F H (.ref a) (.fd ks ds) [a]
 | ft {a:Addr} {ys:List (List Key×V)} {ks:List (List Key)} {ds:List D}:H a=some (.dT ys)->ys.map (·.1)=ks->Dens K F (ys.map (·.2)) ds->Ow K F H (.ref a) (.ft ks ds) [a]
 | ot {a:Addr} {xs:List V} {ps:List FV} {A:List Addr}:H a=some (.tup xs)->Fws K F H xs ps A->Ow K F H (.ref a) (.ot ps) (a::A)
 | ob {v:V} {o:Oo} {A:List Addr}:Ob K F H v o A->Ow K F H v (.ob o) A
 | obs {a:Addr} {xs:List V} {os:List Oo} {A:List Addr}:H a=some (.lst xs.reverse)->Obs K F H xs os A->Ow K F H (.ref a) (.obs os) (a::A)
 | obh {a b:Addr} {xs:List V} {os:List Oo} {A:List Addr}:H a=some (.lst (.ref b::xs).reverse)->Obs K F H xs os A->Ow K F H (.ref a) (.obh os b) (a::A)
section
variable {K:Frag} 
theorem Fw.keep (e:Same F F'){o:FV}(h:Fw K F H v o A)(k:∀ a u,a ∈ A->H a=some u->H' a=some u):Fw K F' H' v o A:=by
 cases h with
 | fz h=>exact .fz (h.mono e)
 | fl h t=>exact .fl (k _ _ (aab ..) h) (t.mono e)
 | fd h q t=>exact .fd (k _ _ (aab ..) h) q (t.mono e)
 | ft h q t=>exact .ft (k _ _ (aab ..) h) q (t.mono e)
theorem Fws.keep (e:Same F F'){v:List V}{o:List FV}(h:Fws K F H v o A)(k:∀ a u,a ∈ A->H a=some u->H' a=some u):Fws K F' H' v o A:=by
 induction h with
 | nil=>exact .nil
 | cons h t ih=>exact .cons (h.keep e fun a u ha=>k a u (aaw _ ha)) (ih fun a u ha=>k a u (aak _ ha))
theorem Ob.keep (e:Same F F'){o:Oo}(h:Ob K F H v o A)(k:∀ a u,a ∈ A->H a=some u->H' a=some u):Ob K F' H' v o A:=by
 cases h with
 | mk h c n l t=>exact .mk (k _ _ (aab ..) h) c n l (t.keep e fun a u ha=>k a u (aad _ ha))
theorem Obs.keep (e:Same F F'){v:List V}{o:List Oo}(h:Obs K F H v o A)(k:∀ a u,a ∈ A->H a=some u->H' a=some u):Obs K F' H' v o A:=by
 induction h with
 | nil=>exact .nil
 | cons h t ih=>exact .cons (h.keep e fun a u ha=>k a u (aaw _ ha)) (ih fun a u ha=>k a u (aak _ ha))
theorem Fw.live {o:FV}(h:Fw K F H v o A):∀ a ∈ A,∃ u,H a=some u:=by
 cases h with
 | fz h=>exact fun _ z=>nomatch z
 | fl h t=>exact fun b z=>⟨_,List.mem_singleton.mp z ▸ h⟩
 | fd h q t=>exact fun b z=>⟨_,List.mem_singleton.mp z ▸ h⟩
 | ft h q t=>exact fun b z=>⟨_,List.mem_singleton.mp z ▸ h⟩
theorem Fws.live {v:List V}{o:List FV}(h:Fws K F H v o A):∀ a ∈ A,∃ u,H a=some u:=by
 induction h with
 | nil=>exact fun _ z=>nomatch z
 | cons h t ih=>exact fun b z=>(List.mem_append.mp z).elim (h.live b) (ih b)
theorem Ob.live {o:Oo}(h:Ob K F H v o A):∀ a ∈ A,∃ u,H a=some u:=by
 cases h with
 | mk h c n l t=>exact fun b z=>(List.mem_cons.mp z).elim (fun z=>⟨_,z ▸ h⟩) (t.live b)
theorem Obs.live {v:List V}{o:List Oo}(h:Obs K F H v o A):∀ a ∈ A,∃ u,H a=some u:=by
 induction h with
 | nil=>exact fun _ z=>nomatch z
 | cons h t ih=>exact fun b z=>(List.mem_append.mp z).elim (h.live b) (ih b)
end
inductive Ows (K:Frag)(F H:Hp):List V->List OV->List Addr->Prop where
 | nil:Ows K F H [] [] []
 | cons {x:V} {o:OV} {xs:List V} {os:List OV} {A B:List Addr}:Ow K F H x o A->Ows K F H xs os B->Ows K F H (x::xs) (o::os) (A++B)
theorem Ow.keep {K:Frag}(e:Same F F')(h:Ow K F H v o A)(k:∀ a u,a ∈ A->H a=some u->H' a=some u):Ow K F' H' v o A:=by
 cases h with
 | fz h=>exact .fz (h.mono e)
 | fl h t=>exact .fl (k _ _ (aab ..) h) (t.mono e)
 | fd h q t=>exact .fd (k _ _ (aab ..) h) q (t.mono e)
 | ft h q t=>exact .ft (k _ _ (aab ..) h) q (t.mono e)
 | ot h t=>exact .ot (k _ _ (aab ..) h) (t.keep e fun a u ha=>k a u (aad _ ha))
 | ob h=>exact .ob (h.keep e k)
 | obs h t=>exact .obs (k _ _ (aab ..) h) (t.keep e fun a u ha=>k a u (aad _ ha))
 | obh h t=>exact .obh (k _ _ (aab ..) h) (t.keep e fun a u ha=>k a u (aad _ ha))
theorem Ows.keep {K:Frag}(e:Same F F'){v:List V}{o:List OV}(h:Ows K F H v o A)(k:∀ a u,a ∈ A->H a=some u->H' a=some u):Ows K F' H' v o A:=by
 induction h with
 | nil=>exact .nil
 | cons h t ih=>exact .cons (h.keep e fun a u ha=>k a u (aaw _ ha)) (ih fun a u ha=>k a u (aak _ ha))
theorem Ow.live {K:Frag}(h:Ow K F H v o A):∀ a ∈ A,∃ u,H a=some u:=by
 cases h with
 | fz h=>exact fun _ z=>nomatch z
 | fl h t=>exact fun b z=>⟨_,List.mem_singleton.mp z ▸ h⟩
 | fd h q t=>exact fun b z=>⟨_,List.mem_singleton.mp z ▸ h⟩
 | ft h q t=>exact fun b z=>⟨_,List.mem_singleton.mp z ▸ h⟩
 | ot h t=>exact fun b z=>(List.mem_cons.mp z).elim (fun z=>⟨_,z ▸ h⟩) (t.live b)
 | ob h=>exact h.live
 | obs h t=>exact fun b z=>(List.mem_cons.mp z).elim (fun z=>⟨_,z ▸ h⟩) (t.live b)
 | obh h t=>exact fun b z=>(List.mem_cons.mp z).elim (fun z=>⟨_,z ▸ h⟩) (t.live b)
theorem Ows.live {K:Frag}{v:List V}{o:List OV}(h:Ows K F H v o A):∀ a ∈ A,∃ u,H a=some u:=by
 induction h with
 | nil=>exact fun _ z=>nomatch z
 | cons h t ih=>exact fun b z=>(List.mem_append.mp z).elim (h.live b) (ih b)
def fV:FV->D
 | .fz d=>d
 | .fl _ ds=>.lst ds
 | .fd _ ks ds=>.dct ks ds
 | .ft _ ks ds=>.dt ks ds
def zt:OV->Option D
 | .fz d=>some d
 | .fl ds=>some (.lst ds)
 | .fd ks ds=>some (.dct ks ds)
 | .ft ks ds=>some (.dt ks ds)
 | .ot ps=>some (.tup (ps.map fV))
 | _=>none
theorem Fw.freeze {K:Frag}(e:Same F F'){o:FV}(h:Fw K F H v o A)(k:∀ a u,a ∈ A->H a=some u->F' a=some u):Den K F' v (fV o):=by
 cases h with
 | fz h=>exact h.mono e
 | fl h t=>exact .lst (SqL.of (k _ _ (aab ..) h)) (t.mono e)
 | fd h q t=>exact .dct (.inl (k _ _ (aab ..) h)) q (t.mono e)
 | ft h q t=>exact .dt (.inl (k _ _ (aab ..) h)) q (t.mono e)
theorem Fws.freeze {K:Frag}(e:Same F F'){v:List V}{o:List FV}(h:Fws K F H v o A)(k:∀ a u,a ∈ A->H a=some u->F' a=some u):Dens K F' v (o.map fV):=by
 induction h with
 | nil=>exact .nil
 | cons h t ih=>exact .cons (h.freeze e fun a u ha=>k a u (aaw _ ha)) (ih fun a u ha=>k a u (aak _ ha))
theorem Ow.freeze {K:Frag}(e:Same F F')(h:Ow K F H v o A)(k:∀ a u,a ∈ A->H a=some u->F' a=some u)(hd:zt o=some d):Den K F' v d:=by
 cases h with
 | fz h=>cases hd; exact h.mono e
 | fl h t=>cases hd; exact .lst (SqL.of (k _ _ (aab ..) h)) (t.mono e)
 | fd h q t=>cases hd; exact .dct (.inl (k _ _ (aab ..) h)) q (t.mono e)
 | ft h q t=>cases hd; exact .dt (.inl (k _ _ (aab ..) h)) q (t.mono e)
 | ot h t=>cases hd; exact .tup (k _ _ (aab ..) h) (t.freeze e fun a u ha=>k a u (aad _ ha))
 | _=>cases hd
def flat:OV->Option D
 | .fz d=>some d
 | .fl ds=>some (.lst ds)
 | .fd ks ds=>some (.dct ks ds)
 | .ft ks ds=>some (.dt ks ds)
 | _=>none
inductive Acc (K:Frag)(F H:Hp):V->D->Prop where
 | fz {v:V} {d:D}:Den K F v d->Acc K F H v d
 | lst {a:Addr} {xs:List V} {ds:List D}:H a=some (.lst xs)->Dens K F xs ds->Acc K F H (.ref a) (.lst ds)
 | dct {a:Addr} {ys:List (Key×V)} {ks:List Key} {ds:List D}:H a=some (.dK ys)->ys.map (·.1)=ks->Dens K F (ys.map (·.2)) ds->Acc K F H (.ref a) (.dct ks ds)
 | dt {a:Addr} {ys:List (List Key×V)} {ks:List (List Key)} {ds:List D}:H a=some (.dT ys)->ys.map (·.1)=ks->Dens K F (ys.map (·.2)) ds->Acc K F H (.ref a) (.dt ks ds)
section
variable {K:Frag} 
theorem Ow.acc (h:Ow K F H v o A)(e:flat o=some d):Acc K F H v d:=by
 cases h with
 | fz h=>simp only [flat,Option.some.injEq] at e; subst e; exact .fz h
 | fl h t=>simp only [flat,Option.some.injEq] at e; subst e; exact .lst h t
 | fd h q t=>simp only [flat,Option.some.injEq] at e; subst e; exact .dct h q t
 | ft h q t=>cases e; exact .dt h q t
 | _=>cases e
theorem Acc.den (e:Same F H)(h:Acc K F H v d):Den K H v d:=by
 cases h with
 | fz h=>exact h.mono e
 | lst h t=>exact .lst (SqL.of h) (t.mono e)
 | dct h k t=>exact .dct (.inl h) k (t.mono e)
 | dt h k t=>exact .dt (.inl h) k (t.mono e)
theorem Acc.asL (e:Same F H)(h:Acc K F H v (.lst ds)):∃ a xs,v=.ref a/\SqL K H a xs/\Dens K F xs ds:=by
 cases h with
 | fz h=>cases h with | lst h t=>exact ⟨_,_,rfl,e.seq h,t⟩
 | lst h t=>exact ⟨_,_,rfl,SqL.of h,t⟩
theorem Acc.asT (e:Same F H)(h:Acc K F H v (.tup ds)):∃ a xs,v=.ref a/\SqT K H a xs/\Dens K F xs ds:=by
 cases h with
 | fz h=>cases h with | tup h t=>exact ⟨_,_,rfl,SqT.of (e _ _ h),t⟩
theorem Acc.asD (e:Same F H)(h:Acc K F H v (.dct ks ds)):∃ a ys,v=.ref a/\Rd H a (.dK ys)/\ys.map (·.1)=ks/\Dens K F (ys.map (·.2)) ds:=by
 cases h with
 | fz h=>cases h with | dct h k t=>exact ⟨_,_,rfl,e.rd h,k,t⟩
 | dct h k t=>exact ⟨_,_,rfl,.inl h,k,t⟩
theorem Acc.asTH (e:Same F H)(h:Acc K F H v (.tup ds)):∃ a xs,v=.ref a/\H a=some (.tup xs)/\Dens K F xs ds:=by
 cases h with
 | fz h=>cases h with | tup h t=>exact ⟨_,_,rfl,e _ _ h,t⟩
theorem Acc.asG (e:Same F H)(h:Acc K F H v (.gt ds)):∃ a xs,v=.ref a/\SqT K H a xs/\Dens K F xs ds:=by
 cases h with
 | fz h=>cases h with | gt h t=>exact ⟨_,_,rfl,h.same e,t⟩
theorem Acc.asDT {ks:List (List Key)}(e:Same F H)(h:Acc K F H v (.dt ks ds)):∃ a ys,v=.ref a/\Rd H a (.dT ys)/\ys.map (·.1)=ks/\Dens K F (ys.map (·.2)) ds:=by
 cases h with
 | fz h=>cases h with | dt h k t=>exact ⟨_,_,rfl,e.rd h,k,t⟩
 | dt h k t=>exact ⟨_,_,rfl,.inl h,k,t⟩
theorem Acc.str_eq (h:Acc K F H v (.str z)):v=.str z:=by cases h with | fz h=>exact h.str_eq
theorem Acc.int_eq {z:Int}(h:Acc K F H v (.int z)):v=.int z:=by cases h with | fz h=>exact h.int_eq
theorem Acc.bl_eq {z:Bool}(h:Acc K F H v (.bl z)):v=.bl z:=by cases h with | fz h=>exact h.bl_eq
theorem Acc.non_eq (h:Acc K F H v .non):v=.non:=by cases h with | fz h=>exact h.non_eq
theorem Acc.ty_eq {T:String}(h:Acc K F H v (.ty T)):v=.ty T:=by cases h with | fz h=>cases h; rfl
end
abbrev FSt:=List (Option OV)
variable{ρ:FSt}
inductive Slots (K:Frag)(F H:Hp):St->FSt->List Addr->Prop where
 | nil:Slots K F H [] [] []
 | skip {x:Option V} {σ:St} {ρ:FSt} {A:List Addr}:Slots K F H σ ρ A->Slots K F H (x::σ) (none::ρ) A
 | has {v:V} {o:OV} {σ:St} {ρ:FSt} {A B:List Addr}:Ow K F H v o A->Slots K F H σ ρ B->Slots K F H (some v::σ) (some o::ρ) (A++B)
section
variable {K:Frag} 
theorem Slots.keep (e:Same F F')(h:Slots K F H σ ρ A)(k:∀ a u,a ∈ A->H a=some u->H' a=some u):Slots K F' H' σ ρ A:=by
 induction h with
 | nil=>exact .nil
 | skip t ih=>exact .skip (ih k)
 | has h t ih=>exact .has (h.keep e fun a u ha=>k a u (aaw _ ha)) (ih fun a u ha=>k a u (aak _ ha))
theorem Slots.live (h:Slots K F H σ ρ A):∀ a ∈ A,∃ u,H a=some u:=by
 induction h with
 | nil=>exact fun _ z=>nomatch z
 | skip t ih=>exact ih
 | has h t ih=>exact fun b z=>(List.mem_append.mp z).elim (h.live b) (ih b)
theorem Slots.len (h:Slots K F H σ ρ A):σ.length=ρ.length:=by
 induction h with
 | nil=>rfl
 | skip t ih=>exact congrArg (·+1) ih
 | has _ t ih=>exact congrArg (·+1) ih
theorem Slots.take (h:Slots K F H σ ρ A)(e:ρ[i]?=some (some o)):∃ v B A',σ[i]?=some (some v)/\Ow K F H v o B/\A.Perm (B++A')/\Slots K F H σ (ρ.set i none) A':=by
 induction h generalizing i with
 | nil=>cases e
 | skip t ih =>
  cases i with
  | zero=>cases e
  | succ i =>
   obtain ⟨v,B,A',h1,h2,h3,h4⟩:=ih (i:=i) e
   exact ⟨v,B,A',h1,h2,h3,.skip h4⟩
 | @has _ _ _ _ C _ h t ih =>
  cases i with
  | zero=>cases e; exact ⟨_,_,_,rfl,h,aaz _,.skip t⟩
  | succ i =>
   obtain ⟨v,B,A',h1,h2,h3,h4⟩:=ih (i:=i) e
   exact ⟨v,B,C++A',h1,h2,(aaN C h3).trans (by rw [← aay,← aay]; exact aa4 A' aa7),.has h h4⟩
theorem Slots.drop (i:Nat)(x:Option V)(h:Slots K F H σ ρ A):∃ A' B,A.Perm (B++A')/\Slots K F H (σ.set i x) (ρ.set i none) A':=by
 induction h generalizing i with
 | nil=>exact ⟨[],[],aaz _,.nil⟩
 | skip t ih =>
  cases i with
  | zero=>exact ⟨_,[],aaz _,.skip t⟩
  | succ i =>
   obtain ⟨A',B,h1,h2⟩:=ih i
   exact ⟨A',B,h1,.skip h2⟩
 | @has _ _ _ _ C _ h t ih =>
  cases i with
  | zero=>exact ⟨_,_,aaz _,.skip t⟩
  | succ i =>
   obtain ⟨A',B,h3,h4⟩:=ih i
   exact ⟨C++A',B,(aaN C h3).trans (by rw [← aay,← aay]; exact aa4 A' aa7),.has h h4⟩
theorem Slots.put (s:Slots K F H σ ρ A)(e:ρ[i]?=some none)(hv:σ[i]?=some (some v))(h:Ow K F H v o B):∃ A',A'.Perm (B++A)/\Slots K F H σ (ρ.set i (some o)) A':=by
 induction s generalizing i with
 | nil=>cases e
 | skip t ih =>
  cases i with
  | zero=>cases hv; exact ⟨_,aaz _,.has h t⟩
  | succ i =>
   obtain ⟨A',h1,h2⟩:=ih (i:=i) e hv
   exact ⟨A',h1,.skip h2⟩
 | @has _ _ _ _ C _ h' t ih =>
  cases i with
  | zero=>cases e
  | succ i =>
   obtain ⟨A',h1,h2⟩:=ih (i:=i) e hv
   exact ⟨C++A',(aaN C h1).trans (by rw [← aay,← aay]; exact aa4 _ aa7),.has h' h2⟩
end
inductive RV where
 | ov (o:OV) | br (i:Nat)
variable{r:RV}
structure Rel (K:Frag)(F Z H:Hp)(σ:St)(ρ:FSt)(A:List Addr):Prop where
 sl:Slots K F H σ ρ A
 nd:A.Nodup
 fr:∀ a ∈ A,F a=none/\Z a=none
 fh:Same F H
 zh:Same Z H
 dj:∀ a o,F a=some o->Z a=none
def RV1 (K:Frag)(F H:Hp)(σ:St)(v:V):RV->List Addr->Prop
 | .ov o,B=>Ow K F H v o B
 | .br i,B=>σ[i]?=some (some v)/\B=[]
structure Fresh (F Z:Hp)(A B:List Addr):Prop where
 nd:B.Nodup
 fr:∀ b ∈ B,F b=none/\Z b=none/\b ∉ A
theorem Fresh.nil :Fresh F Z A []:=⟨aaB,fun _ z=>nomatch z⟩
inductive RVL (K:Frag)(F H:Hp)(σ:St):List V->List RV->List Addr->Prop where
 | nil:RVL K F H σ [] [] []
 | cons {v:V} {r:RV} {vs:List V} {rs:List RV} {A B:List Addr}:RV1 K F H σ v r A->RVL K F H σ vs rs B->RVL K F H σ (v::vs) (r::rs) (A++B)
section
variable {K:Frag}    
theorem RV1.keep (h:RV1 K F H σ v r B)(e:Same F F')(k:∀ a u,a ∈ B->H a=some u->H' a=some u):RV1 K F' H' σ v r B:=by
 cases r with
 | ov o=>exact Ow.keep e h k
 | br i=>exact h
theorem RV1.live (h:RV1 K F H σ v r B):∀ b ∈ B,∃ u,H b=some u:=by
 cases r with
 | ov o=>exact Ow.live h
 | br i=>intro b hb; rw [h.2] at hb; cases hb
theorem RVL.keep (e:Same F F'){v:List V}{r:List RV}(h:RVL K F H σ v r B)(k:∀ a u,a ∈ B->H a=some u->H' a=some u):RVL K F' H' σ v r B:=by
 induction h with
 | nil=>exact .nil
 | cons h t ih=>exact .cons (h.keep e fun a u ha=>k a u (aaw _ ha)) (ih fun a u ha=>k a u (aak _ ha))
theorem mix (B:List Addr)(H Z:Hp):∃ G:Hp,(∀ b,b ∈ B->G b=H b)/\∀ b,b ∉ B->G b=Z b:=by
 classical
 exact ⟨fun b=>if b ∈ B then H b else Z b,fun b hb=>if_pos hb,fun b hb=>if_neg hb⟩
theorem Rel.hold (R:Rel K F Z H σ ρ A)(live:∀ b ∈ B,∃ u,H b=some u)(f:Fresh F Z A B):∃ Z',Same Z Z'/\Rel K F Z' H σ ρ A/\(∀ b ∈ B,∃ u,Z' b=some u) /\
  ∀ F2 H2 ρ2 A2,Same F F2->Rel K F2 Z' H2 σ ρ2 A2->Rel K F2 Z H2 σ ρ2 A2/\Fresh F2 Z A2 B/\∀ b u,b ∈ B->H b=some u->H2 b=some u:=by
 obtain ⟨Z',hin,hout⟩:=mix B H Z
 refine ⟨Z',fun b o h=>?_,⟨R.sl,R.nd,fun a ha=>⟨(R.fr a ha).1,?_⟩,R.fh,fun b o h=>?_,fun a o h=>?_⟩,fun b hb=>?_,fun F2 H2 ρ2 A2 e2 R2=>?_⟩
 ·rw [hout b fun hb=>by rw [(f.fr b hb).2.1] at h; cases h]; exact h
 ·rw [hout a fun hb=>(f.fr a hb).2.2 ha]; exact (R.fr a ha).2
 ·by_cases hb:b ∈ B
  ·rw [hin b hb] at h; exact h
  ·rw [hout b hb] at h; exact R.zh b o h
 ·rw [hout a fun hb=>by rw [(f.fr a hb).1] at h; cases h]; exact R.dj a o h
 ·obtain ⟨u,hu⟩:=live b hb
  exact ⟨u,by rw [hin b hb]; exact hu⟩
 ·have sz:Same Z Z':=fun b o h=>by
   rw [hout b fun hb=>by rw [(f.fr b hb).2.1] at h; cases h]; exact h
  refine ⟨⟨R2.sl,R2.nd,fun a ha=>⟨(R2.fr a ha).1,sz.free (R2.fr a ha).2⟩,R2.fh,sz.trans R2.zh,fun a o h=>sz.free (R2.dj a o h)⟩,⟨f.nd,fun b hb=>?_⟩,fun b u hb hu=>?_⟩
  ·obtain ⟨u,hu⟩:=live b hb
   refine ⟨?_,(f.fr b hb).2.1,fun h=>?_⟩
   ·cases q:F2 b with
    | none=>rfl
    | some w =>
     have:=R2.dj b w q
     rw [hin b hb,hu] at this; cases this
   ·have:=(R2.fr b h).2
    rw [hin b hb,hu] at this; cases this
  ·exact R2.zh b u (by rw [hin b hb]; exact hu)
structure Pure (F H F' H':Hp):Prop where
 ff:Same F F'
 hh:Same H H'
 fh:Same F' H'
 nw:∀ a o,F' a=some o->F a=none->H a=none
theorem Pure.refl (e:Same F H):Pure F H F H:=⟨Same.refl _,Same.refl _,e,fun a o h n=>by rw [n] at h; cases h⟩
theorem Pure.new {o:HO}(e:Same F H)(hp:H p=none):Pure F H F (upd H p o):=⟨Same.refl _,bn hp,e.trans (bn hp),fun a o h n=>by rw [n] at h; cases h⟩
theorem Pure.frz {p:Addr}{o:HO}(e:Same F H)(hp:H p=none):Pure F H (upd F p o) (upd H p o):=by
 have hf:F p=none:=e.free hp
 refine ⟨bn hf,bn hp,fun b u h=>?_,fun a u h n=>?_⟩
 ·by_cases hb:b=p
  ·subst hb; rw [ad] at h ⊢; exact h
  ·rw [ae hb] at h ⊢; exact e b u h
 ·by_cases hb:a=p
  ·subst hb; exact hp
  ·rw [ae hb,n] at h; cases h
theorem Pure.trans {F2 H1 H2:Hp}(a:Pure F H F1 H1)(b:Pure F1 H1 F2 H2):Pure F H F2 H2:=⟨a.ff.trans b.ff,a.hh.trans b.hh,b.fh,fun c o h n=>by
 cases q:F1 c with
 | none=>exact a.hh.free (b.nw c o h q)
 | some u=>exact a.nw c u q n⟩
theorem Rel.step (R:Rel K F Z H σ ρ A)(p:Pure F H F' H'):Rel K F' Z H' σ ρ A:=by
 refine ⟨R.sl.keep p.ff fun a u _ h=>p.hh a u h,R.nd,fun a ha=>⟨?_,(R.fr a ha).2⟩,p.fh,R.zh.trans p.hh,fun a o h=>?_⟩
 ·cases q:F' a with
  | none=>rfl
  | some o =>
   have:=p.nw a o q (R.fr a ha).1
   obtain ⟨u,hu⟩:=R.sl.live a ha
   rw [hu] at this; cases this
 ·cases q:F a with
  | none=>exact R.zh.free (p.nw a o h q)
  | some u=>exact R.dj a u q
structure New (H F':Hp)(B:List Addr):Prop where
 nd:B.Nodup
 fr:∀ b ∈ B,H b=none/\F' b=none
theorem New.nil:New H F' []:=⟨aaB,fun _ z=>nomatch z⟩
theorem New.one (h:H p=none)(f:F' p=none):New H F' [p]:=⟨by simp,fun b hb=>by
 have:b=p:=(by exists hb)
 rw [this]; exact ⟨h,f⟩⟩
theorem Rel.fresh (R:Rel K F Z H σ ρ A)(n:New H F' B):Fresh F' Z A B:=⟨n.nd,fun b hb=>⟨(n.fr b hb).2,R.zh.free (n.fr b hb).1,fun ha=>by
 obtain ⟨u,hu⟩:=R.sl.live b ha
 rw [(n.fr b hb).1] at hu; cases hu⟩⟩
def G0:RV->FSt->Option (D×FSt)
 | .ov o,ρ=>match zt o with
  | some d=>some (d,ρ)
  | none=>none
 | .br i,ρ=>match ρ[i]? with
  | some (some o)=>match zt o with
   | some d=>some (d,ρ.set i (some (.fz d)))
   | none=>none
  | _=>none
def fzR:RV->FSt->Option (D×FSt)
 | .ov (.fz d),ρ=>some (d,ρ)
 | .ov (.fl ds),ρ=>some (.lst ds,ρ)
 | .ov (.fd ks ds),ρ=>some (.dct ks ds,ρ)
 | .ov (.ft ks ds),ρ=>some (.dt ks ds,ρ)
 | .ov (.ot ps),ρ=>some (.tup (ps.map fV),ρ)
 | .ov _,_=>none
 | .br i,ρ=>match ρ[i]? with
  | some (some (.fz d))=>some (d,ρ)
  | some (some (.fl ds))=>some (.lst ds,ρ.set i (some (.fz (.lst ds))))
  | some (some (.fd ks ds))=>some (.dct ks ds,ρ.set i (some (.fz (.dct ks ds))))
  | some (some (.ft ks ds))=>some (.dt ks ds,ρ.set i (some (.fz (.dt ks ds))))
  | some (some (.ot ps))=>some (.tup (ps.map fV),ρ.set i (some (.fz (.tup (ps.map fV)))))
  | _=>none
theorem Ec {x:Option OV}(h:ρ[i]?=some x):ρ.set i x=ρ:=by
 apply List.ext_getElem?
 intro j
 by_cases hj:i=j
 ·subst hj
  rw [h,List.getElem?_set_self (List.getElem?_eq_some_iff.mp h).1]
 ·rw [List.getElem?_set_ne hj]
theorem Ed (r:RV)(ρ:FSt):fzR r ρ=G0 r ρ:=by
 cases r with
 | ov o=>cases o <;> rfl
 | br i =>
  simp only [fzR,G0]
  cases e:ρ[i]? with
  | none=>rfl
  | some x =>
   cases x with
   | none=>rfl
   | some o =>
    cases o with
    | fz d=>simp only [zt]; rw [Ec e]
    | _=>rfl
def fzL:List RV->FSt->Option (List D×FSt)
 | [],ρ=>some ([],ρ)
 | r::rs,ρ=>match fzR r ρ with
  | some (d,ρ1)=>match fzL rs ρ1 with
   | some (ds,ρ2)=>some (d::ds,ρ2)
   | none=>none
  | none=>none
theorem Rel.grow (R:Rel K F Z H σ ρ A)(live:∀ b ∈ B,∃ u,H b=some u)(f:∀ b ∈ B,F b=none/\Z b=none/\b ∉ A):∃ F',Same F F'/\Rel K F' Z H σ ρ A/\(∀ a u,a ∈ B->H a=some u->F' a=some u)/\∀ a o,F' a=some o->F a=none->a ∈ B:=by
 obtain ⟨G,hin,hout⟩:=mix B H F
 have s:Same F G:=fun b o h=>by
  rw [hout b fun hb=>by rw [(f b hb).1] at h; cases h]; exact h
 refine ⟨G,s,⟨R.sl.keep s fun _ _ _ h=>h,R.nd,fun a ha=>⟨?_,(R.fr a ha).2⟩,fun b o h=>?_,R.zh,fun a o h=>?_⟩,fun a u ha h=>?_,fun a o h n=>?_⟩
 ·rw [hout a fun hb=>(f a hb).2.2 ha]; exact (R.fr a ha).1
 ·by_cases hb:b ∈ B
  ·rw [hin b hb] at h; exact h
  ·rw [hout b hb] at h; exact R.fh b o h
 ·by_cases hb:a ∈ B
  ·exact (f a hb).2.1
  ·rw [hout a hb] at h; exact R.dj a o h
 ·rw [hin a ha]; exact h
 ·by_cases hb:a ∈ B
  ·exact hb
  ·rw [hout a hb,n] at h; cases h
theorem a9 {C:List Addr}(h:A.Perm (B++C))(n:A.Nodup):B.Nodup/\C.Nodup/\(∀ b ∈ B,b ∉ C):=by
 have:=h.nodup_iff.mp n
 rw [List.nodup_append] at this
 exact ⟨this.1,this.2.1,fun b hb hc=>this.2.2 b hb b hc rfl⟩
theorem Rel.takeI (R:Rel K F Z H σ ρ A)(e:ρ[i]?=some (some o)):∃ v B A',σ[i]?=some (some v)/\Ow K F H v o B/\Rel K F Z H σ (ρ.set i none) A'/\Fresh F Z A' B/\A.Perm (B++A'):=by
 obtain ⟨v,B,A',h1,h2,h3,h4⟩:=R.sl.take e
 obtain ⟨n1,n2,n3⟩:=a9 h3 R.nd
 have mA:∀ a ∈ A',a ∈ A:=fun a ha=>h3.mem_iff.mpr (List.mem_append.mpr (.inr ha))
 have mB:∀ a ∈ B,a ∈ A:=fun a ha=>h3.mem_iff.mpr (List.mem_append.mpr (.inl ha))
 exact ⟨v,B,A',h1,h2,⟨h4,n2,fun a ha=>R.fr a (mA a ha),R.fh,R.zh,R.dj⟩,⟨n1,fun b hb=>⟨(R.fr b (mB b hb)).1,(R.fr b (mB b hb)).2,n3 b hb⟩⟩,h3⟩
theorem dc (e:ρ[i]?=some (some o)):(ρ.set i none)[i]?=some none:=by
 have hi:i < ρ.length:=(List.getElem?_eq_some_iff.mp e).1
 simp [hi]
theorem Rel.putI (R:Rel K F Z H σ ρ A)(e:ρ[i]?=some none)(hv:σ[i]?=some (some v))(h:Ow K F H v o B)(f:Fresh F Z A B):∃ A',Rel K F Z H σ (ρ.set i (some o)) A'/\A'.Perm (B++A):=by
 obtain ⟨A',h1,h2⟩:=R.sl.put e hv h
 refine ⟨A',⟨h2,h1.nodup_iff.mpr ?_,fun a ha=>?_,R.fh,R.zh,R.dj⟩,h1⟩
 ·exact List.nodup_append.mpr ⟨f.nd,R.nd,fun a ha b hb z=>(f.fr a ha).2.2 (z ▸ hb)⟩
 ·rcases List.mem_append.mp (h1.mem_iff.mp ha) with q | q
  ·exact ⟨(f.fr a q).1,(f.fr a q).2.1⟩
  ·exact R.fr a q
theorem Rel.frz {v:V}{r:RV}{B:List Addr}{d:D}{ρ':FSt}(R:Rel K F Z H σ ρ A)(h:RV1 K F H σ v r B)(f:Fresh F Z A B)(e:fzR r ρ=some (d,ρ')) :
  ∃ F' A',Same F F'/\Rel K F' Z H σ ρ' A'/\Den K F' v d/\(∀ a o,F' a=some o->F a=none->a ∈ A∨a ∈ B)/\∀ a ∈ A',a ∈ A:=by
 rw [Ed] at e
 cases r with
 | ov o =>
  simp only [G0] at e
  cases hs:zt o with
  | none=>rw [hs] at e; cases e
  | some d' =>
   rw [hs] at e
   cases e
   obtain ⟨F',s,R',k,n⟩:=R.grow (Ow.live h) f.fr
   exact ⟨F',A,s,R',Ow.freeze s h k hs,fun a o h1 h2=>.inr (n a o h1 h2),fun _ z=>z⟩
 | br i =>
  simp only [G0] at e
  split at e
  ·rename_i o ho
   cases hs:zt o with
   | none=>rw [hs] at e; cases e
   | some d' =>
    rw [hs] at e
    cases e
    obtain ⟨v',B',A',h1,h2,R',f',pm⟩:=R.takeI ho
    have hv:v'=v:=aaj (aaj (h1.symm.trans h.1))
    subst hv
    obtain ⟨F',s,R2,k,n⟩:=R'.grow (Ow.live h2) f'.fr
    have dn:=Ow.freeze s h2 k hs
    obtain ⟨A3,R3,p3⟩:=R2.putI (dc ho) h1 (.fz dn) Fresh.nil
    rw [abj] at R3
    refine ⟨F',A3,s,R3,dn,fun a o h1 h2=>.inl (pm.mem_iff.mpr (List.mem_append.mpr (.inl (n a o h1 h2)))),fun a ha=>?_⟩
    have:=p3.mem_iff.mp ha
    exact pm.mem_iff.mpr (List.mem_append.mpr (.inr (by exists this)))
  ·cases e
theorem Rel.frzL:∀ {rs:List RV} {vs:List V} {B:List Addr} {ds:List D} {ρ ρ':FSt} {F:Hp} {A:List Addr},Rel K F Z H σ ρ A->RVL K F H σ vs rs B->Fresh F Z A B->fzL rs ρ=some (ds,ρ') ->
  ∃ F' A',Same F F'/\Rel K F' Z H σ ρ' A'/\Dens K F' vs ds:=by
 intro rs
 induction rs with
 | nil =>
  intro vs B ds ρ ρ' F A R h f e
  simp only [fzL,Option.some.injEq,Prod.mk.injEq] at e
  obtain ⟨rfl,rfl⟩:=e
  cases h
  exact ⟨F,A,Same.refl _,R,.nil⟩
 | cons r rs ih =>
  intro vs B ds ρ ρ' F A R h f e
  cases h with
  | @cons v _ vs _ B1 B2 h t =>
   simp only [fzL] at e
   split at e
   ·rename_i d ρ1 e1
    split at e
    ·rename_i ds' ρ2 e2
     simp only [Option.some.injEq,Prod.mk.injEq] at e
     obtain ⟨rfl,rfl⟩:=e
     obtain ⟨n1,n2,n3⟩:=a9 (aaz (B1++B2)) f.nd
     obtain ⟨F1,A1,s1,R1,d1,w1,m1⟩:=R.frz h ⟨n1,fun b hb=>f.fr b (List.mem_append.mpr (.inl hb))⟩ e1
     obtain ⟨F2,A2,s2,R2,d2⟩:=ih R1 (t.keep s1 fun _ _ _ z=>z) ⟨n2,fun b hb=>by
      have fb:=f.fr b (List.mem_append.mpr (.inr hb))
      refine ⟨?_,fb.2.1,fun z=>fb.2.2 (m1 b z)⟩
      cases q:F1 b with
      | none=>rfl
      | some u =>
       rcases w1 b u q fb.1 with z | z
       ·exact absurd z fb.2.2
       ·exact absurd hb (n3 b z)⟩ e2
     exact ⟨F2,A2,s1.trans s2,R2,.cons (d1.mono s2) d2⟩
    ·cases e
   ·cases e
def look (ρ:FSt):RV->Option OV
 | .ov o=>some o
 | .br i=>match ρ[i]? with
  | some (some o)=>some o
  | _=>none
def gC (ρ:FSt):RV->Option D
 | .ov o=>flat o
 | .br i=>match ρ[i]? with
  | some (some o)=>flat o
  | _=>none
def gW (ρ:FSt):List RV->Option (List D)
 | []=>some []
 | r::rs=>match gC ρ r with
  | some d=>match gW ρ rs with
   | some ds=>some (d::ds)
   | none=>none
  | none=>none
theorem Rel.acc (R:Rel K F Z H σ ρ A)(h:RV1 K F H σ v r B)(e:gC ρ r=some d):Acc K F H v d:=by
 cases r with
 | ov o=>exact Ow.acc h e
 | br i =>
  simp only [gC] at e
  split at e
  ·rename_i o ho
   obtain ⟨v',B',A',h1,h2,_⟩:=R.takeI ho
   have hv:v'=v:=aaj (aaj (h1.symm.trans h.1))
   subst hv
   exact h2.acc e
  ·cases e
inductive Accs (K:Frag)(F H:Hp):List V->List D->Prop where
 | nil:Accs K F H [] []
 | cons {v:V} {d:D} {vs:List V} {ds:List D}:Acc K F H v d->Accs K F H vs ds->Accs K F H (v::vs) (d::ds)
theorem Rel.accs {rs:List RV}(R:Rel K F Z H σ ρ A)(h:RVL K F H σ vs rs B)(e:gW ρ rs=some ds):Accs K F H vs ds:=by
 induction h generalizing ds with
 | nil=>cases e; exact .nil
 | @cons v r vs rs A B h t ih =>
  unfold gW at e
  cases e1:gC ρ r with
  | none=>rw [e1] at e; cases e
  | some d =>
   cases e2:gW ρ rs with
   | none=>rw [e1,e2] at e; cases e
   | some ds' =>
    rw [e1,e2] at e
    cases e
    exact .cons (R.acc h e1) (ih e2)
end
abbrev FE:=FSt->(RV->FSt->Prop)->Prop
variable{fa fe fk:FE}
abbrev FT:=FSt->(Bool->FSt->Prop)->Prop
variable{fc ft:FT}
abbrev FA:=FSt->(List RV->FSt->Prop)->Prop
abbrev FO:=FSt->(Option Int->FSt->Prop)->Prop
def View (μ:List Nat)(τ σ:St):Prop:=∀ j i:Nat,μ[j]?=some i->τ[j]?=σ[i]?/\j < τ.length/\i < σ.length
theorem View.id (hn:σ.length=n):View (List.range n) σ σ:=fun j i h=>by
 rw [List.getElem?_eq_some_iff] at h
 obtain ⟨h1,h2⟩:=h
 rw [List.getElem_range] at h2
 rw [List.length_range] at h1
 subst h2
 exact ⟨rfl,by nofun,by nofun⟩
structure EF (K:Frag)(μ:List Nat)(t:TE)(f:FE):Prop where
 h:∀ {F Z H:Hp} {τ σ:St} {ρ:FSt} {A:List Addr} {Q:VK} {P:RV->FSt->Prop},View μ τ σ->Rel K F Z H σ ρ A->f ρ P ->
  (∀ r ρ' v F' H' A' B,P r ρ'->Same F F'->Rel K F' Z H' σ ρ' A'->RV1 K F' H' σ v r B->Fresh F' Z A' B->Q v H')->t τ H Q
structure TF (K:Frag)(μ:List Nat)(t:TT)(f:FT):Prop where
 h:∀ {F Z H:Hp} {τ σ:St} {ρ:FSt} {A:List Addr} {Q:Bool->Hp->Prop} {P:Bool->FSt->Prop},View μ τ σ->Rel K F Z H σ ρ A->f ρ P ->
  (∀ b ρ' F' H' A',P b ρ'->Same F F'->Rel K F' Z H' σ ρ' A'->Q b H')->t τ H Q
structure AF (K:Frag)(μ:List Nat)(t:TA)(f:FA):Prop where
 h:∀ {F Z H:Hp} {τ σ:St} {ρ:FSt} {A:List Addr} {Q:List V->Hp->Prop} {P:List RV->FSt->Prop},View μ τ σ->Rel K F Z H σ ρ A->f ρ P ->
  (∀ rs ρ' vs F' H' A' B,P rs ρ'->Same F F'->Rel K F' Z H' σ ρ' A'->RVL K F' H' σ vs rs B->Fresh F' Z A' B->Q vs H')->t τ H Q
structure OF (K:Frag)(μ:List Nat)(t:TO)(f:FO):Prop where
 h:∀ {F Z H:Hp} {τ σ:St} {ρ:FSt} {A:List Addr} {Q:Option Int->Hp->Prop} {P:Option Int->FSt->Prop},View μ τ σ->Rel K F Z H σ ρ A->f ρ P ->
  (∀ x ρ' F' H' A',P x ρ'->Same F F'->Rel K F' Z H' σ ρ' A'->Q x H')->t τ H Q
def zu (K:Frag)(F H:Hp)(P:OV->Prop)(Q:VK):Prop:=∀ o v F' H' B,P o->Pure F H F' H'->Ow K F' H' v o B->New H F' B->Q v H'
structure OpF (K:Frag)(r:R2)(f:D->D->(OV->Prop)->Prop):Prop where
 h:∀ {F H:Hp} {x y:V} {d e:D} {Q:VK} {P:OV->Prop},Same F H->Acc K F H x d->Acc K F H y e->f d e P->zu K F H P Q->r x y H Q
structure CallF (K:Frag)(r:List V->Hp->VK->Prop)(f:List D->(OV->Prop)->Prop):Prop where
 h:∀ {F H:Hp} {xs:List V} {ds:List D} {Q:VK} {P:OV->Prop},Same F H->Accs K F H xs ds->f ds P->zu K F H P Q->r xs H Q
structure SlF (K:Frag)(r:V->Option Int->Option Int->Hp->VK->Prop)(f:D->Option Int->Option Int->(OV->Prop)->Prop):Prop where
 h:∀ {F H:Hp} {x:V} {d:D} {lo hi:Option Int} {Q:VK} {P:OV->Prop},Same F H->Acc K F H x d->f d lo hi P->zu K F H P Q->r x lo hi H Q
@[irreducible] def br (b:Bool)(A B:Prop):Prop:=if b=true then A else B
theorem dE {A B:Prop}(h:A):br true A B:=by unfold br; exact h
theorem de {A B:Prop}(h:B):br false A B:=by unfold br; exact h
theorem sq {A B:Prop}(h:br true A B):A:=by unfold br at h; exact h
theorem sr {A B:Prop}(h:br false A B):B:=by unfold br at h; exact h
theorem az {b:Bool}{A B:Prop}(c:Prop)(e:b=true↔c)(h1:c->A)(h2:¬ c->B):br b A B:=by
 cases b with
 | true=>exact dE (h1 (e.mp rfl))
 | false=>exact de (h2 fun z=>nomatch e.mpr z)
def ab (i:Nat):FE:=fun ρ Q=>match ρ[i]? with
 | some (some (.fz d))=>Q (.ov (.fz d)) ρ
 | some (some _)=>Q (.br i) ρ
 | _=>False
def fC (d:D):FE:=fun ρ Q=>Q (.ov (.fz d)) ρ
def on2 (ρ:FSt)(r s:RV)(k:D->D->Prop):Prop:=match gC ρ r with
 | some d=>match gC ρ s with
  | some e=>k d e
  | none=>False
 | none=>False
def on1 (ρ:FSt)(r:RV)(k:D->Prop):Prop:=match gC ρ r with
 | some d=>k d
 | none=>False
def onL (ρ:FSt)(rs:List RV)(k:List D->Prop):Prop:=match gW ρ rs with
 | some d=>k d
 | none=>False
def onB (d:D)(k:Bool->Prop):Prop:=match d with
 | .bl b=>k b
 | _=>False
def fOp (f:D->D->(OV->Prop)->Prop)(fa fb:FE):FE:=fun ρ Q=>fa ρ fun r ρ1=>fb ρ1 fun s ρ2=>on2 ρ2 r s fun d e=>f d e fun o=>Q (.ov o) ρ2
def gE (fa fb:FE):FE:=fun ρ Q=>fa ρ fun r ρ1=>on1 ρ1 r fun d=>onB d fun c=>br c (fb ρ1 Q) (Q (.ov (.fz (.bl false))) ρ1)
def zv (fa:FE):FE:=fun ρ Q=>fa ρ fun r ρ1=>on1 ρ1 r fun d=>onB d fun c=>Q (.ov (.fz (.bl (!c)))) ρ1
def Jh (fc:FT)(fa fb:FE):FE:=fun ρ Q=>fc ρ fun b ρ1=>br b (fa ρ1 Q) (fb ρ1 Q)
def gX (f f':D->D->(OV->Prop)->Prop)(fa fb fc:FE):FE:=fun ρ Q=>fa ρ fun r ρ1=>fb ρ1 fun s ρ2=>on2 ρ2 r s fun d e=>f d e fun o=>match o with
 | .fz (.bl k)=>br k (fc ρ2 fun t ρ3=>on2 ρ3 s t fun d' e'=>f' d' e' fun o=>Q (.ov o) ρ3) (Q (.ov (.fz (.bl false))) ρ2)
 | _=>False
def aP (fa:FE):FT:=fun ρ Q=>fa ρ fun r ρ1=>on1 ρ1 r fun d=>onB d fun c=>Q c ρ1
def jw (ft:FT):FT:=fun ρ Q=>ft ρ fun c ρ1=>Q (!c) ρ1
def Co (fa fb:FT):FT:=fun ρ Q=>fa ρ fun c ρ1=>br c (fb ρ1 Q) (Q false ρ1)
def fOr (fa fb:FT):FT:=fun ρ Q=>fa ρ fun c ρ1=>br c (Q true ρ1) (fb ρ1 Q)
def su:D->Option Bool
 | .non=>some false
 | .bl b=>some b
 | .int i=>some (i != 0)
 | .str y=>if y.length<=sizeLine then some ((y.length:Int) != 0) else none
 | .lst xs=>some (!xs.isEmpty)
 | .tup xs=>some (!xs.isEmpty)
 | .dct _ _=>none
 | .ty _=>none
 | .opq _ _=>none
 | .gt _=>none
 | .dt _ _=>none
def Ee (fa:FE):FT:=fun ρ Q=>fa ρ fun r ρ1=>on1 ρ1 r fun d=>match su d with
 | some k=>Q k ρ1
 | none=>False
def kf:FT:=fun ρ Q=>Q true ρ
def ag:FA:=fun ρ Q=>Q [] ρ
def aa (fa:FE)(fr:FA):FA:=fun ρ Q=>fa ρ fun r ρ1=>fr ρ1 fun rs ρ2=>Q (r::rs) ρ2
def fCB (f:List D->(OV->Prop)->Prop)(fa:FA):FE:=fun ρ Q=>fa ρ fun rs ρ1=>onL ρ1 rs fun ds=>f ds fun o=>Q (.ov o) ρ1
def i4 (fa:FA):FE:=fun ρ Q=>fa ρ fun rs ρ1=>match fzL rs ρ1 with
 | some (ds,ρ2)=>ds.length<=sizeLine/\Q (.ov (.fl ds)) ρ2
 | none=>False
def ln (fa:FA):FE:=fun ρ Q=>fa ρ fun rs ρ1=>match fzL rs ρ1 with
 | some (ds,ρ2)=>ds.length<=sizeLine/\Q (.ov (.fz (.tup ds))) ρ2
 | none=>False
def eu:FO:=fun ρ Q=>Q none ρ
def ni (fa:FE):FO:=fun ρ Q=>fa ρ fun r ρ1=>on1 ρ1 r fun d=>match d with
 | .int i=>Q (some i) ρ1
 | _=>False
def fSl (f:D->Option Int->Option Int->(OV->Prop)->Prop)(fe:FE)(fl fh:FO):FE:=fun ρ Q=>fe ρ fun r ρ1=>fl ρ1 fun lo ρ2=>fh ρ2 fun hi ρ3=>on1 ρ3 r fun d=>f d lo hi fun o=>Q (.ov o) ρ3
def pG:FE:=fun ρ Q=>Q (.ov (.fd [] [])) ρ
section
variable {K:Frag} 
theorem bN {k:D->Prop}(h:on1 ρ r k):∃ d,gC ρ r=some d/\k d:=by
 unfold on1 at h
 split at h
 ·exact ⟨_,by assumption,h⟩
 ·exact h.elim
theorem lp {s:RV}{k:D->D->Prop}(h:on2 ρ r s k):∃ d e,gC ρ r=some d/\gC ρ s=some e/\k d e:=by
 unfold on2 at h
 split at h
 ·split at h
  ·exact ⟨_,_,by assumption,by assumption,h⟩
  ·exact h.elim
 ·exact h.elim
theorem pH {r:List RV}{k:List D->Prop}(h:onL ρ r k):∃ d,gW ρ r=some d/\k d:=by
 unfold onL at h
 split at h
 ·exact ⟨_,by assumption,h⟩
 ·exact h.elim
theorem pJ {k:Bool->Prop}(h:onB d k):∃ b,d=.bl b/\k b:=by
 unfold onB at h
 split at h
 ·exact ⟨_,rfl,h⟩
 ·exact h.elim
theorem pK (hj:μ[j]?=some i):EF K μ (cO j) (ab i):=⟨by
 intro F Z H τ σ ρ A Q P vw R h q
 unfold ab at h
 generalize e:ρ[i]?=o at h
 cases o with
 | none=>exact False.elim h
 | some o =>
  cases o with
  | none=>exact False.elim h
  | some o =>
   obtain ⟨v,B,A',h1,h2,h3,h4,h5⟩:=R.takeI e
   refine ⟨v,(vw j i hj).1.trans h1,?_⟩
   cases o with
   | fz d =>
    cases h2 with
    | fz dn=>exact q _ _ v F H A [] h (Same.refl _) R (.fz dn) Fresh.nil
   | _=>exact q _ _ v F H A [] h (Same.refl _) R ⟨h1,rfl⟩ Fresh.nil⟩
theorem Ef (hd:∀ F,Den K F v d):EF K μ (tC v) (fC d):=⟨fun {F Z H τ σ ρ A Q P} vw R h q=>q _ _ v F H A [] h (Same.refl _) R (.fz (hd F)) Fresh.nil⟩
theorem Eg {i:Int}:EF K μ (tC (.int i)) (fC (.int i)):=Ef fun _=>.int i
theorem Eh {i:Str}:EF K μ (tC (.str i)) (fC (.str i)):=Ef fun _=>.str i
theorem HS {i:Bool}:EF K μ (tC (.bl i)) (fC (.bl i)):=Ef fun _=>.bl i
theorem Ei:EF K μ (tC .non) (fC .non):=Ef fun _=>.non
theorem HU {T:String}:EF K μ (tC (.ty T)) (fC (.ty T)):=Ef fun _=>.ty T
theorem Rel.after (R:Rel K F Z H σ ρ A)(q:∀ o v F' H' B,P o->Same F F'->Rel K F' Z H' σ ρ A->Ow K F' H' v o B->Fresh F' Z A B->Q v H'):zu K F H P Q :=
 fun o v F' H' B p pu ow nw=>q o v F' H' B p pu.ff (R.step pu) ow (R.fresh nw)
theorem HV {r:R2}{fb:FE}(ho:OpF K r f)(ha:EF K μ ta fa)(hb:EF K μ tb fb):EF K μ (tOp r ta tb) (fOp f fa fb):=⟨by
 intro F Z H τ σ ρ A Q P vw R h q
 refine ha.h vw R h fun r1 ρ1 x F1 H1 A1 B1 h1 s1 R1 v1 f1=>?_
 obtain ⟨Z',sz,R1',zl,back⟩:=R1.hold v1.live f1
 refine hb.h vw R1' h1 fun r2 ρ2 y F2 H2 A2 B2 h2 s2 R2 v2 f2=>?_
 obtain ⟨R2',f1',k1⟩:=back _ _ _ _ s2 R2
 obtain ⟨d,e,e1,e2,h3⟩:=lp h2
 refine ho.h R2'.fh (R2'.acc (v1.keep s2 k1) e1) (R2'.acc v2 e2) h3 (R2'.after fun o v F3 H3 B p s3 R3 ow fr=>q _ _ _ _ _ _ _ p ((s1.trans s2).trans s3) R3 ow fr)⟩
theorem zw {fb:FE}(ha:EF K μ ta fa)(hb:EF K μ tb fb):EF K μ (xM ta tb) (gE fa fb):=⟨by
 intro F Z H τ σ ρ A Q P vw R h q
 refine ha.h vw R h fun r1 ρ1 x F1 H1 A1 B1 h1 s1 R1 v1 f1=>?_
 obtain ⟨d,e1,h2⟩:=bN h1
 obtain ⟨c,rfl,h3⟩:=pJ h2
 refine ⟨c,(R1.acc v1 e1).bl_eq,?_⟩
 cases c with
 | true=>exact hb.h vw R1 (sq h3) fun r2 ρ2 y F2 H2 A2 B2 h2 s2=>q _ _ _ _ _ _ _ h2 (s1.trans s2)
 | false=>exact q _ _ _ _ _ _ _ (sr h3) s1 R1 (.fz (.bl false)) Fresh.nil⟩
theorem zy (ha:EF K μ ta fa):EF K μ (xN ta) (zv fa):=⟨by
 intro F Z H τ σ ρ A Q P vw R h q
 refine ha.h vw R h fun r1 ρ1 x F1 H1 A1 B1 h1 s1 R1 v1 f1=>?_
 obtain ⟨d,e1,h2⟩:=bN h1
 obtain ⟨c,rfl,h3⟩:=pJ h2
 exact ⟨c,(R1.acc v1 e1).bl_eq,q _ _ _ _ _ _ _ h3 s1 R1 (.fz (.bl _)) Fresh.nil⟩⟩
theorem HW {fb:FE}(hc:TF K μ tc fc)(ha:EF K μ ta fa)(hb:EF K μ tb fb):EF K μ (tIf tc ta tb) (Jh fc fa fb):=⟨by
 intro F Z H τ σ ρ A Q P vw R h q
 refine hc.h vw R h fun b ρ1 F1 H1 A1 h1 s1 R1=>?_
 cases b with
 | true=>exact ha.h vw R1 (sq h1) fun r2 ρ2 y F2 H2 A2 B2 h2 s2=>q _ _ _ _ _ _ _ h2 (s1.trans s2)
 | false=>exact hb.h vw R1 (sr h1) fun r2 ρ2 y F2 H2 A2 B2 h2 s2=>q _ _ _ _ _ _ _ h2 (s1.trans s2)⟩
theorem t0 {r r':R2}{f':D->D->(OV->Prop)->Prop}{tc:TE}{fb fc:FE}(ho:OpF K r f)(ho':OpF K r' f')(ha:EF K μ ta fa)(hb:EF K μ tb fb)(hc:EF K μ tc fc):EF K μ (i8 r r' ta tb tc) (gX f f' fa fb fc):=⟨by
 intro F Z H τ σ ρ A Q P vw R h q
 refine ha.h vw R h fun r1 ρ1 x F1 H1 A1 B1 h1 s1 R1 v1 f1=>?_
 obtain ⟨Z',sz,R1',zl,back⟩:=R1.hold v1.live f1
 refine hb.h vw R1' h1 fun r2 ρ2 y F2 H2 A2 B2 h2 s2 R2 v2 f2=>?_
 obtain ⟨R2',f1',k1⟩:=back _ _ _ _ s2 R2
 obtain ⟨d,e,e1,e2,h3⟩:=lp h2
 have f2':Fresh F2 Z A2 B2:=⟨f2.nd,fun b hb=>⟨(f2.fr b hb).1,sz.free (f2.fr b hb).2.1,(f2.fr b hb).2.2⟩⟩
 refine ho.h R2'.fh (R2'.acc (v1.keep s2 k1) e1) (R2'.acc v2 e2) h3 fun o v F3 H3 B p pu ow nw=>?_
 have R3:=R2'.step pu
 have f3:Fresh F3 Z A2 B2:=⟨f2'.nd,fun b hb=>⟨(by
  cases z:F3 b with
  | none=>rfl
  | some u =>
   obtain ⟨w,hw⟩:=v2.live b hb
   rw [pu.nw b u z (f2'.fr b hb).1] at hw
   exact nomatch hw),(f2'.fr b hb).2⟩⟩
 have v3:=v2.keep pu.ff fun a u _ z=>pu.hh a u z
 split at p
 ·rename_i k
  cases ow with
  | fz dn =>
   refine ⟨k,dn.bl_eq,?_⟩
   cases k with
   | false=>exact q _ _ _ _ _ _ _ (sr p) ((s1.trans s2).trans pu.ff) R3 (.fz (.bl false)) Fresh.nil
   | true =>
    obtain ⟨Z2,sz2,R3',zl2,back2⟩:=R3.hold v3.live f3
    refine hc.h vw R3' (sq p) fun r4 ρ4 w F4 H4 A4 B4 h4 s4 R4 v4 f4=>?_
    obtain ⟨R4',f4',k4⟩:=back2 _ _ _ _ s4 R4
    obtain ⟨d',e',e1',e2',h5⟩:=lp h4
    exact ho'.h R4'.fh (R4'.acc (v3.keep s4 k4) e1') (R4'.acc v4 e2') h5 (R4'.after fun o v F5 H5 B p s5 R5 ow fr=>q _ _ _ _ _ _ _ p ((((s1.trans s2).trans pu.ff).trans s4).trans s5) R5 ow fr)
 ·exact p.elim⟩
theorem pL (ha:EF K μ ta fa):TF K μ (oo ta) (aP fa):=⟨by
 intro F Z H τ σ ρ A Q P vw R h q
 refine ha.h vw R h fun r1 ρ1 x F1 H1 A1 B1 h1 s1 R1 v1 f1=>?_
 obtain ⟨d,e1,h2⟩:=bN h1
 obtain ⟨c,rfl,h3⟩:=pJ h2
 exact ⟨c,(R1.acc v1 e1).bl_eq,q _ _ _ _ _ h3 s1 R1⟩⟩
theorem Ej {t:TT}{f:FT}(h:TF K μ t f):TF K μ (Ha t) (jw f):=⟨fun {F Z H τ σ ρ A Q P} vw R p q=>h.h vw R p fun b ρ1 F1 H1 A1 h1=>q _ _ _ _ _ h1⟩
theorem Ek {t:TT}{f g:FT}(h:TF K μ t f)(h':TF K μ u g):TF K μ (G9 t u) (Co f g):=⟨fun {F Z H τ σ ρ A Q P} vw R p q=>h.h vw R p fun b ρ1 F1 H1 A1 h1 s1 R1=>by
 cases b with
 | true=>exact h'.h vw R1 (sq h1) fun b ρ2 F2 H2 A2 h2 s2=>q _ _ _ _ _ h2 (s1.trans s2)
 | false=>exact q _ _ _ _ _ (sr h1) s1 R1⟩
theorem HX {t:TT}{f g:FT}(h:TF K μ t f)(h':TF K μ u g):TF K μ (tOr t u) (fOr f g):=⟨fun {F Z H τ σ ρ A Q P} vw R p q=>h.h vw R p fun b ρ1 F1 H1 A1 h1 s1 R1=>by
 cases b with
 | false=>exact h'.h vw R1 (sr h1) fun b ρ2 F2 H2 A2 h2 s2=>q _ _ _ _ _ h2 (s1.trans s2)
 | true=>exact q _ _ _ _ _ (sq h1) s1 R1⟩
theorem El:TF K μ HE kf:=⟨fun {F Z H τ σ ρ A Q P} vw R p q=>q _ _ _ _ _ p (Same.refl _) R⟩
theorem zz {x:V}{k:Bool}(e:Same F H)(h:Acc K F H x d)(hk:su d=some k):GR K x H k:=by
 cases d with
 | non=>rw [h.non_eq]; exact (aaj hk).symm
 | bl b=>rw [h.bl_eq]; exact (aaj hk).symm
 | int i=>rw [h.int_eq]; exact (aaj hk).symm
 | str y =>
  rw [h.str_eq]
  simp only [su] at hk
  split at hk
  ·exact ⟨by assumption,by simpa using hk.symm⟩
  ·cases hk
 | lst ds =>
  obtain ⟨a,xs,rfl,h1,h2⟩:=h.asL e
  have:=h2.length
  refine .inl ⟨xs,h1,?_⟩
  simp only [su,Option.some.injEq] at hk
  rw [← hk]
  cases xs <;> cases ds <;> simp at this ⊢
 | tup ds =>
  obtain ⟨a,xs,rfl,h1,h2⟩:=h.asT e
  have:=h2.length
  refine .inr (.inl ⟨xs,h1,?_⟩)
  simp only [su,Option.some.injEq] at hk
  rw [← hk]
  cases xs <;> cases ds <;> simp at this ⊢
 | dct ks ds =>
  simp [su] at hk
 | ty T=>simp [su] at hk
 | opq a n=>simp [su] at hk
 | gt xs=>simp [su] at hk
 | dt ks xs=>simp [su] at hk
theorem Em (ha:EF K μ ta fa):TF K μ (HP K ta) (Ee fa):=⟨by
 intro F Z H τ σ ρ A Q P vw R h q
 refine ha.h vw R h fun r1 ρ1 x F1 H1 A1 B1 h1 s1 R1 v1 f1=>?_
 obtain ⟨d,e1,h2⟩:=bN h1
 split at h2
 ·rename_i k hk
  exact ⟨k,zz R1.fh (R1.acc v1 e1) hk,q _ _ _ _ _ h2 s1 R1⟩
 ·exact h2.elim⟩
theorem En:AF K μ kr ag:=⟨fun {F Z H τ σ ρ A Q P} vw R p q=>q _ _ _ _ _ _ _ p (Same.refl _) R .nil Fresh.nil⟩
theorem pM {tr:TA}{fr:FA}(ha:EF K μ ta fa)(hr:AF K μ tr fr):AF K μ (dl ta tr) (aa fa fr):=⟨by
 intro F Z H τ σ ρ A Q P vw R h q
 refine ha.h vw R h fun r1 ρ1 x F1 H1 A1 B1 h1 s1 R1 v1 f1=>?_
 obtain ⟨Z',sz,R1',zl,back⟩:=R1.hold v1.live f1
 refine hr.h vw R1' h1 fun r2 ρ2 y F2 H2 A2 B2 h2 s2 R2 v2 f2=>?_
 obtain ⟨R2',f1',k1⟩:=back _ _ _ _ s2 R2
 refine q _ _ _ _ _ _ _ h2 (s1.trans s2) R2' (.cons (v1.keep s2 k1) v2) ⟨List.nodup_append.mpr ⟨f1'.nd,f2.nd,fun a ha b hb z=>?_⟩,fun b hb=>?_⟩
 ·obtain ⟨u,hu⟩:=zl a ha
  rw [z,(f2.fr b hb).2.1] at hu; cases hu
 ·rcases List.mem_append.mp hb with z | z
  ·exact f1'.fr b z
  ·exact ⟨(f2.fr b z).1,sz.free (f2.fr b z).2.1,(f2.fr b z).2.2⟩⟩
theorem HY {r:List V->Hp->VK->Prop}{f:List D->(OV->Prop)->Prop}{fa:FA}(hc:CallF K r f)(ha:AF K μ t fa):EF K μ (tCB r t) (fCB f fa):=⟨by
 intro F Z H τ σ ρ A Q P vw R h q
 refine ha.h vw R h fun rs ρ1 xs F1 H1 A1 B1 h1 s1 R1 v1 f1=>?_
 obtain ⟨ds,e1,h2⟩:=pH h1
 exact hc.h R1.fh (R1.accs v1 e1) h2 (R1.after fun o v F3 H3 B p s3 R3 ow fr=>q _ _ _ _ _ _ _ p (s1.trans s3) R3 ow fr)⟩
theorem Eo {fa:FA}(ha:AF K μ t fa):EF K μ (GU t) (i4 fa):=⟨by
 intro F Z H τ σ ρ A Q P vw R h q
 refine ha.h vw R h fun rs ρ1 xs F1 H1 A1 B1 h1 s1 R1 v1 f1=>?_
 split at h1
 ·rename_i ds ρ2 e
  obtain ⟨F2,A2,s2,R2,dn⟩:=R1.frzL v1 f1 e
  refine ⟨by rw [dn.length]; exact h1.1,fun p hp=>?_⟩
  have hf:F2 p=none:=R2.fh.free hp
  exact R2.after (P:=fun o=>P (.ov o) ρ2) (fun o v F3 H3 B p s3 R3 ow fr=>q _ _ _ _ _ _ _ p ((s1.trans s2).trans s3) R3 ow fr) _ _ F2 _ [p] h1.2 (Pure.new R2.fh hp) (.fl ad dn) (New.one hp hf)
 ·exact h1.elim⟩
theorem Ep {fa:FA}(ha:AF K μ t fa):EF K μ (GT t) (ln fa):=⟨by
 intro F Z H τ σ ρ A Q P vw R h q
 refine ha.h vw R h fun rs ρ1 xs F1 H1 A1 B1 h1 s1 R1 v1 f1=>?_
 split at h1
 ·rename_i ds ρ2 e
  obtain ⟨F2,A2,s2,R2,dn⟩:=R1.frzL v1 f1 e
  refine ⟨by rw [dn.length]; exact h1.1,fun p hp=>?_⟩
  have hf:F2 p=none:=R2.fh.free hp
  refine R2.after (P:=fun o=>P (.ov o) ρ2) (fun o v F3 H3 B p s3 R3 ow fr=>q _ _ _ _ _ _ _ p ((s1.trans s2).trans s3) R3 ow fr) _ _ (upd F2 p (.tup xs)) _ [] h1.2 (Pure.frz R2.fh hp) (.fz (.tup ad (dn.mono (bn hf)))) New.nil
 ·exact h1.elim⟩
theorem zB:EF K μ oH pG:=⟨by
 intro F Z H τ σ ρ A Q P vw R h q p hp
 have hf:F p=none:=R.fh.free hp
 exact R.after (P:=fun o=>P (.ov o) ρ) (fun o v F3 H3 B p s3 R3 ow fr=>q _ _ _ _ _ _ _ p s3 R3 ow fr) _ _ F _ [p] h (Pure.new R.fh hp) (.fd ad rfl .nil) (New.one hp hf)⟩
theorem zE:OF K μ kx eu:=⟨fun {F Z H τ σ ρ A Q P} vw R p q=>q _ _ _ _ _ p (Same.refl _) R⟩
theorem zF (ha:EF K μ ta fa):OF K μ (yj ta) (ni fa):=⟨by
 intro F Z H τ σ ρ A Q P vw R h q
 refine ha.h vw R h fun r1 ρ1 x F1 H1 A1 B1 h1 s1 R1 v1 f1=>?_
 obtain ⟨d,e1,h2⟩:=bN h1
 split at h2
 ·rename_i i
  exact ⟨i,(R1.acc v1 e1).int_eq,q _ _ _ _ _ h2 s1 R1⟩
 ·exact h2.elim⟩
theorem HZ {r:V->Option Int->Option Int->Hp->VK->Prop}{f:D->Option Int->Option Int->(OV->Prop)->Prop}{tl th:TO}{fl fh:FO}(hr:SlF K r f)(he:EF K μ te fe)(hl:OF K μ tl fl)(hh:OF K μ th fh):EF K μ (tSl r te tl th) (fSl f fe fl fh):=⟨by
 intro F Z H τ σ ρ A Q P vw R h q
 refine he.h vw R h fun r1 ρ1 x F1 H1 A1 B1 h1 s1 R1 v1 f1=>?_
 obtain ⟨Z',sz,R1',zl,back⟩:=R1.hold v1.live f1
 refine hl.h vw R1' h1 fun lo ρ2 F2 H2 A2 h2 s2 R2=>?_
 refine hh.h vw R2 h2 fun hi ρ3 F3 H3 A3 h3 s3 R3=>?_
 obtain ⟨R3',f1',k1⟩:=back _ _ _ _ (s2.trans s3) R3
 obtain ⟨d,e1,h4⟩:=bN h3
 exact hr.h R3'.fh (R3'.acc (v1.keep (s2.trans s3) k1) e1) h4 (R3'.after fun o v F5 H5 B p s5 R5 ow fr=>q _ _ _ _ _ _ _ p (((s1.trans s2).trans s3).trans s5) R5 ow fr)⟩
end
abbrev Ct:=List OV->(OV->List OV->Prop)->Prop
variable{c:Ct}
def takeR:RV->FSt->Option (OV×FSt)
 | .ov o,ρ=>some (o,ρ)
 | .br i,ρ=>match ρ[i]? with
  | some (some o)=>some (o,ρ.set i none)
  | _=>none
def takeL:List RV->FSt->Option (List OV×FSt)
 | [],ρ=>some ([],ρ)
 | r::rs,ρ=>match takeR r ρ with
  | some (o,ρ1)=>match takeL rs ρ1 with
   | some (os,ρ2)=>some (o::os,ρ2)
   | none=>none
  | none=>none
def putL:List RV->List OV->FSt->FSt
 | .br i::rs,o::os,ρ=>putL rs os (ρ.set i (some o))
 | .ov _::rs,_::os,ρ=>putL rs os ρ
 | _,_,ρ=>ρ
def spM (K:Frag)(c:Ct):Sp:=fun vs H Q _=>∃ (F Z:Hp) (os:List OV) (C:List Addr) (P:OV->List OV->Prop),Same F H/\Same Z H/\(∀ a o,F a=some o->Z a=none)/\Ows K F H vs os C/\C.Nodup/\(∀ a ∈ C,F a=none/\Z a=none)/\c os P /\
 ∀ o os' v F' H' C' B,P o os'->Same F F'->Same F' H'->Same Z H'->(∀ a o,F' a=some o->Z a=none)->Ows K F' H' vs os' C'->Ow K F' H' v o B->(C'++B).Nodup->(∀ a ∈ C'++B,F' a=none/\Z a=none)->Q v H'
def al (c:Ct)(fa:FA):FE:=fun ρ Q=>fa ρ fun rs ρ1=>match takeL rs ρ1 with
 | some (os,ρ2)=>c os fun o os'=>Q (.ov o) (putL rs os' ρ2)
 | none=>False
def fFz (fe:FE):FE:=fun ρ Q=>fe ρ fun r ρ1=>match fzR r ρ1 with
 | some (d,ρ2)=>Q (.ov (.fz d)) ρ2
 | none=>False
section
variable {K:Frag}     
theorem Rel.takeR {ρ':FSt}(R:Rel K F Z H σ ρ A)(h:RV1 K F H σ v r B)(f:Fresh F Z A B)(e:L2.takeR r ρ=some (o,ρ')) :
  ∃ C A',Rel K F Z H σ ρ' A'/\Ow K F H v o C/\Fresh F Z A' C/\(∀ a ∈ A',a ∈ A)/\∀ a ∈ C,a ∈ A∨a ∈ B:=by
 cases r with
 | ov o' =>
  simp only [L2.takeR,Option.some.injEq,Prod.mk.injEq] at e
  obtain ⟨rfl,rfl⟩:=e
  exact ⟨B,A,R,h,f,fun _ z=>z,fun _ z=>.inr z⟩
 | br i =>
  simp only [L2.takeR] at e
  split at e
  ·rename_i o' ho
   simp only [Option.some.injEq,Prod.mk.injEq] at e
   obtain ⟨rfl,rfl⟩:=e
   obtain ⟨v',B',A',h1,h2,R',f',pm⟩:=R.takeI ho
   have hv:v'=v:=aaj (aaj (h1.symm.trans h.1))
   subst hv
   exact ⟨B',A',R',h2,f',fun a ha=>pm.mem_iff.mpr (List.mem_append.mpr (.inr ha)),fun a ha=>.inl (pm.mem_iff.mpr (List.mem_append.mpr (.inl ha)))⟩
  ·cases e
theorem Rel.takeL:∀ {rs:List RV} {vs:List V} {B:List Addr} {os:List OV} {ρ ρ':FSt} {A:List Addr},Rel K F Z H σ ρ A->RVL K F H σ vs rs B->Fresh F Z A B->L2.takeL rs ρ=some (os,ρ') ->
  ∃ C A',Rel K F Z H σ ρ' A'/\Ows K F H vs os C/\Fresh F Z A' C/\(∀ a ∈ A',a ∈ A)/\∀ a ∈ C,a ∈ A∨a ∈ B:=by
 intro rs
 induction rs with
 | nil =>
  intro vs B os ρ ρ' A R h f e
  simp only [L2.takeL,Option.some.injEq,Prod.mk.injEq] at e
  obtain ⟨rfl,rfl⟩:=e
  cases h
  exact ⟨[],A,R,.nil,f,fun _ z=>z,fun _ z=>nomatch z⟩
 | cons r rs ih =>
  intro vs B os ρ ρ' A R h f e
  cases h with
  | @cons v _ vs _ B1 B2 h t =>
   simp only [L2.takeL] at e
   split at e
   ·rename_i o ρ1 e1
    split at e
    ·rename_i os' ρ2 e2
     simp only [Option.some.injEq,Prod.mk.injEq] at e
     obtain ⟨rfl,rfl⟩:=e
     obtain ⟨n1,n2,n3⟩:=a9 (aaz (B1++B2)) f.nd
     obtain ⟨C1,A1,R1,o1,f1,m1,c1⟩:=R.takeR h ⟨n1,fun b hb=>f.fr b (List.mem_append.mpr (.inl hb))⟩ e1
     obtain ⟨C2,A2,R2,o2,f2,m2,c2⟩:=ih R1 t ⟨n2,fun b hb=>by
      have fb:=f.fr b (List.mem_append.mpr (.inr hb))
      exact ⟨fb.1,fb.2.1,fun z=>fb.2.2 (m1 b z)⟩⟩ e2
     refine ⟨C1++C2,A2,R2,.cons o1 o2,⟨List.nodup_append.mpr ⟨f1.nd,f2.nd,fun a ha b hb z=>?_⟩,fun b hb=>?_⟩,fun a ha=>m1 a (m2 a ha),fun a ha=>?_⟩
     ·subst z
      rcases c2 a hb with z | z
      ·exact (f1.fr a ha).2.2 z
      ·rcases c1 a ha with y | y
       ·exact (f.fr a (List.mem_append.mpr (.inr z))).2.2 y
       ·exact n3 a y z
     ·rcases List.mem_append.mp hb with z | z
      ·exact ⟨(f1.fr b z).1,(f1.fr b z).2.1,fun y=>(f1.fr b z).2.2 (m2 b y)⟩
      ·exact f2.fr b z
     ·rcases List.mem_append.mp ha with z | z
      ·rcases c1 a z with y | y
       ·exact .inl y
       ·exact .inr (List.mem_append.mpr (.inl y))
      ·rcases c2 a z with y | y
       ·exact .inl (m1 a y)
       ·exact .inr (List.mem_append.mpr (.inr y))
    ·cases e
   ·cases e
theorem Rel.assign (R:Rel K F Z H σ ρ A)(h:Ow K F H v o B)(f:Fresh F Z A B):∃ A',Rel K F Z H (σ.set i (some v)) (ρ.set i (some o)) A'/\∀ a ∈ A',a ∈ A∨a ∈ B:=by
 obtain ⟨A1,C,pm,s1⟩:=R.sl.drop i (some v)
 obtain ⟨n1,n2,n3⟩:=a9 pm R.nd
 have mA:∀ a ∈ A1,a ∈ A:=fun a ha=>pm.mem_iff.mpr (List.mem_append.mpr (.inr ha))
 have R1:Rel K F Z H (σ.set i (some v)) (ρ.set i none) A1:=⟨s1,n2,fun a ha=>R.fr a (mA a ha),R.fh,R.zh,R.dj⟩
 by_cases hi:i < ρ.length
 ·have hl:=R.sl.len
  obtain ⟨A2,R2,p2⟩:=R1.putI (i:=i) (v:=v) (o:=o) (B:=B) (by simp [hi]) (by simp [hl,hi]) h ⟨f.nd,fun b hb=>⟨(f.fr b hb).1,(f.fr b hb).2.1,fun z=>(f.fr b hb).2.2 (mA b z)⟩⟩
  rw [abj] at R2
  refine ⟨A2,R2,fun a ha=>?_⟩
  rcases List.mem_append.mp (p2.mem_iff.mp ha) with z | z
  ·exact .inr z
  ·exact .inl (mA a z)
 ·have hl:=R.sl.len
  rw [List.set_eq_of_length_le (by nofun)] at R1 ⊢
  rw [List.set_eq_of_length_le (by nofun)] at R1 ⊢
  exact ⟨A1,R1,fun a ha=>.inl (mA a ha)⟩
theorem Er (h:σ[i]?=some (some v)):σ.set i (some v)=σ:=by
 apply List.ext_getElem?
 intro j
 by_cases hj:i=j
 ·subst hj
  have:=(List.getElem?_eq_some_iff.mp h).1
  rw [h,List.getElem?_set_self this]
 ·rw [List.getElem?_set_ne hj]
theorem Rel.putL:∀ {rs:List RV} {vs:List V} {os:List OV} {B C:List Addr} {ρ:FSt} {A:List Addr},Rel K F Z H σ ρ A->RVL K F' H' σ vs rs B->Ows K F H vs os C->Fresh F Z A C ->
  ∃ A',Rel K F Z H σ (L2.putL rs os ρ) A'/\∀ a ∈ A',a ∈ A∨a ∈ C:=by
 intro rs
 induction rs with
 | nil =>
  intro vs os B C ρ A R h hO f
  exact ⟨A,R,fun _ z=>.inl z⟩
 | cons r rs ih =>
  intro vs os B C ρ A R h hO f
  cases h with
  | @cons v _ vs _ B1 B2 h t =>
   cases hO with
   | @cons _ o _ os C1 C2 h1 t1 =>
    obtain ⟨n1,n2,n3⟩:=a9 (aaz (C1++C2)) f.nd
    have f1:Fresh F Z A C1:=⟨n1,fun b hb=>f.fr b (List.mem_append.mpr (.inl hb))⟩
    have f2:Fresh F Z A C2:=⟨n2,fun b hb=>f.fr b (List.mem_append.mpr (.inr hb))⟩
    cases r with
    | ov o' =>
     obtain ⟨A',R',m⟩:=ih R t t1 f2
     refine ⟨A',R',fun a ha=>(m a ha).elim .inl fun z=>.inr (List.mem_append.mpr (.inr z))⟩
    | br i =>
     obtain ⟨A1,R1,m1⟩:=R.assign (i:=i) h1 f1
     rw [Er h.1] at R1
     obtain ⟨A',R',m⟩:=ih R1 t t1 ⟨n2,fun b hb=>⟨(f2.fr b hb).1,(f2.fr b hb).2.1,fun z=>(m1 b z).elim (f2.fr b hb).2.2 fun y=>n3 b y hb⟩⟩
     refine ⟨A',R',fun a ha=>?_⟩
     rcases m a ha with z | z
     ·exact (m1 a z).elim .inl fun y=>.inr (List.mem_append.mpr (.inl y))
     ·exact .inr (List.mem_append.mpr (.inr z))
theorem pN {fa:FA}{E:XK}(ha:AF K μ t fa):EF K μ (ku (spM K c) [] E t) (al c fa):=⟨by
 intro F Z H τ σ ρ A Q P vw R h q
 refine ha.h vw R h fun rs ρ1 vs F1 H1 A1 B1 h1 s1 R1 v1 f1=>?_
 rw [aaV]
 split at h1
 ·rename_i os ρ2 e
  obtain ⟨C,A2,R2,o2,f2,m2,c2⟩:=R1.takeL v1 f1 e
  -- what is not handed over is held
  obtain ⟨Z',hin,hout⟩:=mix A2 H1 Z
  have hz:∀ a,a ∈ A2->Z a=none:=fun a ha=>(R2.fr a ha).2
  have sz:Same Z Z':=fun a o z=>by rw [hout a fun y=>by rw [hz a y] at z; cases z]; exact z
  refine ⟨F1,Z',os,C,_,R2.fh,fun a o z=>?_,fun a o z=>?_,o2,f2.nd,fun a ha=>⟨(f2.fr a ha).1,by rw [hout a (f2.fr a ha).2.2]; exact (f2.fr a ha).2.1⟩,h1,fun o os' v F3 H3 C3 B p s3 fh zh dj w3 w4 nd fr=>?_⟩
  ·by_cases y:a ∈ A2
   ·rw [hin a y] at z; exact z
   ·rw [hout a y] at z; exact R2.zh a o z
  ·rw [hout a fun y=>by rw [(R2.fr a y).1] at z; cases z]; exact R2.dj a o z
  ·have nA:∀ a ∈ A2,∃ u,Z' a=some u:=fun a ha=>by
    obtain ⟨u,hu⟩:=R2.sl.live a ha
    exact ⟨u,by rw [hin a ha]; exact hu⟩
   have R3:Rel K F3 Z H3 σ ρ2 A2:=⟨R2.sl.keep s3 fun a u ha hu=>zh a u (by rw [hin a ha]; exact hu),R2.nd,fun a ha=>⟨(by
    cases z:F3 a with
    | none=>rfl
    | some u =>
     have:=dj a u z
     obtain ⟨w,hw⟩:=nA a ha
     rw [hw] at this
     exact nomatch this),(R2.fr a ha).2⟩,fh,sz.trans zh,fun a o z=>sz.free (dj a o z)⟩
   have nC:∀ a ∈ C3++B,a ∉ A2:=fun a ha y=>by
    obtain ⟨w,hw⟩:=nA a y
    rw [(fr a ha).2] at hw; cases hw
   obtain ⟨n1,n2,n3⟩:=a9 (aaz (C3++B)) nd
   have fC:Fresh F3 Z A2 C3:=⟨n1,fun b hb=>by
    have:=fr b (List.mem_append.mpr (.inl hb))
    exact ⟨this.1,sz.free this.2,nC b (List.mem_append.mpr (.inl hb))⟩⟩
   obtain ⟨A4,R4,m4⟩:=R3.putL v1 w3 fC
   refine q _ _ _ _ _ _ _ p (s1.trans s3) R4 w4 ⟨n2,fun b hb=>?_⟩
   have:=fr b (List.mem_append.mpr (.inr hb))
   exact ⟨this.1,sz.free this.2,fun z=>(m4 b z).elim (nC b (List.mem_append.mpr (.inr hb))) fun y=>n3 b y hb⟩
 ·exact h1.elim⟩
theorem H0 (he:EF K μ te fe):EF K μ te (fFz fe):=⟨by
 intro F Z H τ σ ρ A Q P vw R h q
 refine he.h vw R h fun r ρ1 v F1 H1 A1 B1 h1 s1 R1 v1 f1=>?_
 split at h1
 ·rename_i d ρ2 e
  obtain ⟨F2,A2,s2,R2,dn,_,_⟩:=R1.frz v1 f1 e
  exact q _ _ _ _ _ _ _ h1 (s1.trans s2) R2 (.fz dn) Fresh.nil
 ·exact h1.elim⟩
end
theorem lq:∀ {l:List Nat} {j k i:Nat},l.Nodup->l[j]?=some i->l[k]?=some i->j=k
 | [],_,_,_,_,h,_=>by simp at h
 | a::l,0,0,_,_,_,_=>rfl
 | a::l,0,k+1,i,n,h,h'=>by
  simp at h h'
  subst h
  exact absurd (List.mem_of_getElem? h') (List.nodup_cons.mp n).1
 | a::l,j+1,0,i,n,h,h'=>by
  simp at h h'
  subst h'
  exact absurd (List.mem_of_getElem? h) (List.nodup_cons.mp n).1
 | a::l,j+1,k+1,i,n,h,h'=>by
  simp at h h'
  rw [lq (List.nodup_cons.mp n).2 h h']
abbrev FG:=D->FSt->(FSt->Prop)->Prop
variable{fg:FG}
abbrev FGs:=List D->FSt->(FSt->Prop)->Prop
structure GF (K:Frag)(μ:List Nat)(T:List Nat)(g:TG)(f:FG):Prop where
 h:∀ {F Z H:Hp} {τ σ:St} {ρ:FSt} {A:List Addr} {v:V} {d:D} {Q:St->Hp->Prop} {P:FSt->Prop},View μ τ σ->Rel K F Z H σ ρ A->Den K F v d->f d ρ P ->
  (∀ τ' σ' ρ' A',P ρ'->View μ τ' σ'->Rel K F Z H σ' ρ' A'->(∀ i,i ∉ T->σ'[i]?=σ[i]?)->σ'.length=σ.length->((∀ j i:Nat,μ[j]?=some i->i=j)->τ=σ->τ'=σ')->(∀ a ∈ A',a ∈ A)->Q τ' H)->g v τ H Q
structure GsF (K:Frag)(μ:List Nat)(T:List Nat)(g:TGs)(f:FGs):Prop where
 h:∀ {F Z H:Hp} {τ σ:St} {ρ:FSt} {A:List Addr} {v:List V} {d:List D} {Q:St->Hp->Prop} {P:FSt->Prop},View μ τ σ->Rel K F Z H σ ρ A->Dens K F v d->f d ρ P ->
  (∀ τ' σ' ρ' A',P ρ'->View μ τ' σ'->Rel K F Z H σ' ρ' A'->(∀ i,i ∉ T->σ'[i]?=σ[i]?)->σ'.length=σ.length->((∀ j i:Nat,μ[j]?=some i->i=j)->τ=σ->τ'=σ')->(∀ a ∈ A',a ∈ A)->Q τ' H)->g v τ H Q
def ac (i:Nat):FG:=fun d ρ P=>P (ρ.set i (some (.fz d)))
def nj:FGs:=fun ds ρ P=>match ds with
 | []=>P ρ
 | _=>False
def cw (f:FG)(fs:FGs):FGs:=fun ds ρ P=>match ds with
 | d::ds=>f d ρ fun ρ1=>fs ds ρ1 P
 | _=>False
def nk (n:Nat)(f:FGs):FG:=fun d ρ P=>match d with
 | .tup ds=>ds.length=n/\f ds ρ P
 | _=>False
section
variable {K:Frag} 
theorem pO (hj:μ[j]?=some i)(hn:μ.Nodup):GF K μ [i] (dY j) (ac i):=⟨by
 intro F Z H τ σ ρ A v d Q P vw R dn h q
 obtain ⟨A',R',m⟩:=R.assign (i:=i) (.fz dn) Fresh.nil
 refine q _ (σ.set i (some v)) _ _ h (fun j' i' h'=>⟨?_,by rw [aaU]; exact (vw j' i' h').2.1,by rw [aaU]; exact (vw j' i' h').2.2⟩) R' (fun i' hi'=>?_) (aaU ..) (fun hid e=>?_) fun a ha=>(m a ha).elim id fun z=>nomatch z
 ·by_cases hjj:j=j'
  ·subst hjj
   rw [hj] at h'; cases h'
   have:=vw j i hj
   rw [List.getElem?_set_self this.2.1,List.getElem?_set_self this.2.2]
  ·have hii:i≠i':=fun z=>by
    subst z
    exact hjj (lq hn hj h')
   rw [List.getElem?_set_ne hjj,List.getElem?_set_ne hii]
   exact (vw j' i' h').1
 ·rw [List.getElem?_set_ne fun z=>hi' (by simp [z])]
 ·rw [hid j i hj,e]⟩
theorem zG:GsF K μ [] Hi nj:=⟨by
 intro F Z H τ σ ρ A v d Q P vw R dn h q
 cases dn with
 | nil=>exact ⟨rfl,q _ _ _ _ h vw R (fun _ _=>rfl) rfl (fun _ e=>e) fun _ z=>z⟩
 | cons _ _=>exact h.elim⟩
theorem t4 {T':List Nat}{f:FG}{fs:FGs}(h1:GF K μ T g f)(h2:GsF K μ T' gs fs):GsF K μ (T++T') (xU g gs) (cw f fs):=⟨by
 intro F Z H τ σ ρ A v d Q P vw R dn h q
 cases dn with
 | nil=>exact h.elim
 | cons d1 d2 =>
  refine ⟨_,_,rfl,h1.h vw R d1 h fun τ' σ' ρ' A' p vw' R' k kl id' m=>h2.h vw' R' d2 p fun τ2 σ2 ρ2 A2 p2 vw2 R2 k2 kl2 id2 m2=>q _ _ _ _ p2 vw2 R2 (fun i hi=>?_) (kl2.trans kl) (fun a b=>id2 a (id' a b)) fun a ha=>m a (m2 a ha)⟩
  rw [List.mem_append,not_or] at hi
  rw [k2 i hi.2,k i hi.1]⟩
theorem Es {fs:FGs}(h2:GsF K μ T gs fs):GF K μ T (GO K n gs) (nk n fs):=⟨by
 intro F Z H τ σ ρ A v d Q P vw R dn h q
 cases dn with
 | tup hs t=>exact ⟨_,_,rfl,SqT.of (R.fh _ _ hs),t.length.trans h.1,h2.h vw R t h.2 q⟩
 | _=>exact h.elim⟩
end
structure Walk (K:Frag)(F:Hp)(J:It)(ds:List D):Prop where
 go:∀ H i,Same F H->i < ds.length->J.go i H
 yld:∀ H i x H',Same F H->i < ds.length->J.yld i H x H'->H'=H/\∃ d,ds[i]?=some d/\Den K F x d
 stop:∀ H,Same F H->J.stop ds.length H
abbrev FI:=FSt->(List D->FSt->Prop)->Prop
variable{fi:FI}
structure ITF (K:Frag)(μ:List Nat)(t:TI)(f:FI):Prop where
 h:∀ {F Z H:Hp} {τ σ:St} {ρ:FSt} {A:List Addr} {Q:It->Hp->Prop} {P:List D->FSt->Prop},View μ τ σ->Rel K F Z H σ ρ A->f ρ P ->
  (∀ ds ρ' J F' H' A',P ds ρ'->Same F F'->Rel K F' Z H' σ ρ' A'->Walk K F' J ds->Q J H')->t τ H Q
def ca (fe:FE):FI:=fun ρ Q=>fe ρ fun r ρ1=>match fzR r ρ1 with
 | some (.lst ds,ρ2)=>Q ds ρ2
 | _=>False
def Et (fe:FE):FI:=fun ρ Q=>fe ρ fun r ρ1=>match fzR r ρ1 with
 | some (.tup ds,ρ2)=>Q ds ρ2
 | _=>False
def eP (z:Str):List D:=z.cps.toList.map fun c=>.str ⟨#[c]⟩
def zH (fe:FE):FI:=fun ρ Q=>fe ρ fun r ρ1=>match fzR r ρ1 with
 | some (.str z,ρ2)=>Q (eP z) ρ2
 | _=>False
def cQ (lo:Int)(n:Nat):List D:=(List.range n).map fun (k:Nat)=>.int (lo+(k:Int))
def eQ (fa:FA):FI:=fun ρ Q=>fa ρ fun rs ρ1=>onL ρ1 rs fun ds=>match ds with
 | [.int j]=>(-(2 ^ 62)<=j/\j < 2 ^ 62)/\Q (cQ 0 j.toNat) ρ1
 | _=>False
def pP (fa:FA):FI:=fun ρ Q=>fa ρ fun rs ρ1=>onL ρ1 rs fun ds=>match ds with
 | [.int i,.int j]=>(-(2 ^ 62)<=i/\i < 2 ^ 62/\-(2 ^ 62)<=j/\j < 2 ^ 62)/\Q (cQ i (j - i).toNat) ρ1
 | _=>False
section
variable {K:Frag}  
theorem pQ (h:SqL K F a xs)(t:Dens K F xs ds):Walk K F (Itl K a) ds :=
 ⟨fun H i s hi=>by
  obtain ⟨x,h1,h2⟩:=t.get (List.getElem?_eq_getElem hi)
  exact ⟨xs,x,s.seq h,h1⟩,fun H i x H' s hi y=>by
  obtain ⟨rfl,y⟩:=y
  obtain ⟨d,h1,h2⟩:=t.get' (y xs (s.seq h))
  exact ⟨rfl,d,h1,h2⟩,fun H s=>⟨xs,s.seq h,by rw [t.length]; exact aae _⟩⟩
theorem t5 (h:SqT K F a xs)(t:Dens K F xs ds):Walk K F (Itt K a) ds :=
 ⟨fun H i s hi=>by
  obtain ⟨x,h1,h2⟩:=t.get (List.getElem?_eq_getElem hi)
  exact ⟨xs,x,h.same s,h1⟩,fun H i x H' s hi y=>by
  obtain ⟨rfl,y⟩:=y
  obtain ⟨d,h1,h2⟩:=t.get' (y xs (h.same s))
  exact ⟨rfl,d,h1,h2⟩,fun H s=>⟨xs,h.same s,by rw [t.length]; exact aae _⟩⟩
theorem t6 :Walk K F (Its z) (eP z) :=
 ⟨fun H i s hi=>by (have hi:i < z.cps.size:=by simpa [eP] using hi); exact hi,fun H i x H' s hi y=>by
  obtain ⟨rfl,c,h1,rfl⟩:=y
  exact ⟨rfl,.str ⟨#[c]⟩,by rw [eP,List.getElem?_map,h1]; rfl,.str _⟩,fun H s=>by
  show (eP z).length=z.cps.size
  simp [eP]⟩
theorem lr {lo:Int}:Walk K F (Itr lo n) (cQ lo n) :=
 ⟨fun H i s hi=>by (have hi:i < n:=by simpa [cQ] using hi); exact hi,fun H i x H' s hi y=>by
  obtain ⟨rfl,rfl⟩:=y
  have hi:i < n:=by simpa [cQ] using hi
  exact ⟨rfl,.int (lo+i),by simp [cQ,hi],.int _⟩,fun H s=>by
  show n<=(cQ lo n).length
  simp [cQ]⟩
theorem t7 (he:EF K μ te fe):ITF K μ (kq K te) (ca fe):=⟨by
 intro F Z H τ σ ρ A Q P vw R h q
 refine he.h vw R h fun r ρ1 v F1 H1 A1 B1 h1 s1 R1 v1 f1=>?_
 generalize e:fzR r ρ1=o at h1
 obtain _ | ⟨d,ρ2⟩:=o
 ·exact False.elim h1
 cases d
 case lst ds =>
  obtain ⟨F2,A2,s2,R2,dn,_,_⟩:=R1.frz v1 f1 e
  cases dn with
  | lst hs t=>exact ⟨_,rfl,⟨_,R2.fh.seq hs⟩,q _ _ _ _ _ _ h1 (s1.trans s2) R2 (pQ hs t)⟩
 all_goals exact False.elim h1⟩
theorem zI (he:EF K μ te fe):ITF K μ (GP K te) (Et fe):=⟨by
 intro F Z H τ σ ρ A Q P vw R h q
 refine he.h vw R h fun r ρ1 v F1 H1 A1 B1 h1 s1 R1 v1 f1=>?_
 generalize e:fzR r ρ1=o at h1
 obtain _ | ⟨d,ρ2⟩:=o
 ·exact False.elim h1
 cases d
 case tup ds =>
  obtain ⟨F2,A2,s2,R2,dn,_,_⟩:=R1.frz v1 f1 e
  cases dn with
  | tup hs t=>exact ⟨_,rfl,⟨_,SqT.of (R2.fh _ _ hs)⟩,q _ _ _ _ _ _ h1 (s1.trans s2) R2 (t5 (SqT.of hs) t)⟩
 all_goals exact False.elim h1⟩
theorem zJ (he:EF K μ te fe):ITF K μ (HF te) (zH fe):=⟨by
 intro F Z H τ σ ρ A Q P vw R h q
 refine he.h vw R h fun r ρ1 v F1 H1 A1 B1 h1 s1 R1 v1 f1=>?_
 split at h1
 ·rename_i z ρ2 e
  obtain ⟨F2,A2,s2,R2,dn,_,_⟩:=R1.frz v1 f1 e
  exact ⟨z,dn.str_eq,q _ _ _ _ _ _ h1 (s1.trans s2) R2 t6⟩
 ·exact h1.elim⟩
theorem bT (h:Accs K F H xs [d]):∃ x,xs=[x]/\Acc K F H x d:=by
 cases h with | cons a t=>cases t; exact ⟨_,rfl,a⟩
theorem lu (h:Accs K F H xs [d,e]):∃ x y,xs=[x,y]/\Acc K F H x d/\Acc K F H y e:=by
 cases h with | cons a t=>obtain ⟨y,rfl,b⟩:=bT t; exact ⟨_,_,rfl,a,b⟩
theorem t8 {fa:FA}(ha:AF K μ t fa):ITF K μ (xX t) (eQ fa):=⟨by
 intro F Z H τ σ ρ A Q P vw R h q
 refine ha.h vw R h fun rs ρ1 xs F1 H1 A1 B1 h1 s1 R1 v1 f1=>?_
 obtain ⟨ds,e1,h2⟩:=pH h1
 obtain _ | ⟨d,r⟩:=ds
 ·exact False.elim h2
 cases d
 case int j =>
  cases r with
  | cons=>exact False.elim h2
  | nil =>
   obtain ⟨x,rfl,a⟩:=bT (R1.accs v1 e1)
   exact ⟨j,by rw [a.int_eq],h2.1.1,h2.1.2,q _ _ _ _ _ _ h2.2 s1 R1 lr⟩
 all_goals exact False.elim h2⟩
theorem t9 {fa:FA}(ha:AF K μ t fa):ITF K μ (xY t) (pP fa):=⟨by
 intro F Z H τ σ ρ A Q P vw R h q
 refine ha.h vw R h fun rs ρ1 xs F1 H1 A1 B1 h1 s1 R1 v1 f1=>?_
 obtain ⟨ds,e1,h2⟩:=pH h1
 split at h2
 ·rename_i i j
  obtain ⟨x,y,rfl,a,b⟩:=lu (R1.accs v1 e1)
  exact ⟨i,j,by rw [a.int_eq,b.int_eq],h2.1,q _ _ _ _ _ _ h2.2 s1 R1 lr⟩
 ·exact h2.elim⟩
end
structure FEnds where
 nx:FSt->Prop
 rt:OV->FSt->Prop
 bk:FSt->Prop:=fun _=>False
 ct:FSt->Prop:=fun _=>False
variable{E:FEnds}
abbrev FS:=FEnds->FSt->Prop
variable{fb:FS}
def Pin (n:Nat)(m:List Nat)(σ0 σ:St):Prop:=σ.length=n/\∀ i ∈ m,σ[i]?=σ0[i]?
structure EndsOk (K:Frag)(n:Nat)(m:List Nat)(F Z:Hp)(σ0:St)(D:Ends)(fD:FEnds):Prop where
 nx:∀ F' H' σ' ρ' A',Same F F'->Rel K F' Z H' σ' ρ' A'->Pin n m σ0 σ'->fD.nx ρ'->D.nx σ' H'
 rt:∀ F' H' σ' ρ' A' v o B,Same F F'->Rel K F' Z H' σ' ρ' A'->Pin n m σ0 σ'->Ow K F' H' v o B->Fresh F' Z A' B->fD.rt o ρ'->D.rt v H'
 bk:∀ F' H' σ' ρ' A',Same F F'->Rel K F' Z H' σ' ρ' A'->Pin n m σ0 σ'->fD.bk ρ'->D.bk σ' H'
 ct:∀ F' H' σ' ρ' A',Same F F'->Rel K F' Z H' σ' ρ' A'->Pin n m σ0 σ'->fD.ct ρ'->D.ct σ' H'
theorem EndsOk.mono {K:Frag}{D:Ends}{fD:FEnds}(E:EndsOk K n m F Z σ0 D fD)(e:Same F F1):EndsOk K n m F1 Z σ0 D fD :=
 ⟨fun F' H' σ' ρ' A' s=>E.nx F' H' σ' ρ' A' (e.trans s),fun F' H' σ' ρ' A' v o B s=>E.rt F' H' σ' ρ' A' v o B (e.trans s),fun F' H' σ' ρ' A' s=>E.bk F' H' σ' ρ' A' (e.trans s),fun F' H' σ' ρ' A' s=>E.ct F' H' σ' ρ' A' (e.trans s)⟩
structure SF (K:Frag)(n:Nat)(m:List Nat)(t:TS)(f:FS):Prop where
 h:∀ {F Z H:Hp} {σ0 σ:St} {ρ:FSt} {A:List Addr} {D:Ends} {fD:FEnds},Rel K F Z H σ ρ A->Pin n m σ0 σ->EndsOk K n m F Z σ0 D fD->f fD ρ->t D σ H
def aZ:FS:=fun D ρ=>D.nx ρ
def wS:FS:=fun D ρ=>D.bk ρ
def Eu:FS:=fun D ρ=>D.ct ρ
def gF:FSt->(FSt->Prop)->Prop
 | [],k=>k []
 | a::l,k=>gF l fun l'=>k (a::l')
theorem cE:∀ (ρ:FSt) (k:FSt->Prop),gF ρ k↔k ρ
 | [],k=>Iff.rfl
 | a::l,k=>by rw [gF,cE l]
def aq (f g:FS):FS:=fun D ρ=>f { D with nx:=fun ρ'=>gF ρ' (g D) } ρ
@[irreducible] def fIf (c:FT)(f g:FS)(E:FEnds)(ρ:FSt):Prop:=c ρ fun b ρ1=>br b (f E ρ1) (g E ρ1)
theorem aU {c:FT}{f g:FS}(h:c ρ fun b ρ1=>br b (f E ρ1) (g E ρ1)):fIf c f g E ρ:=by unfold fIf; exact h
def bx (fe:FE):FS:=fun D ρ=>fe ρ fun r ρ1=>match takeR r ρ1 with
 | some (o,ρ2)=>D.rt o ρ2
 | none=>False
def dB (fe:FE):FS:=fun D ρ=>fe ρ fun _ ρ1=>D.nx ρ1
def cu (fe:FE)(fg:FG):FS:=fun D ρ=>fe ρ fun r ρ1=>match fzR r ρ1 with
 | some (d,ρ2)=>fg d ρ2 D.nx
 | none=>False
def cx (i:Nat)(fe:FE):FS:=fun D ρ=>fe ρ fun r ρ1=>match r with
 | .ov o=>D.nx (ρ1.set i (some o))
 | .br _=>False
def lv (fg:FG)(fb:FS)(E:FEnds):List D->FSt->Prop
 | [],ρ=>E.nx ρ
 | d::ds,ρ=>fg d ρ fun ρ1=>fb { nx:=lv fg fb E ds,ct:=lv fg fb E ds,bk:=E.nx,rt:=E.rt } ρ1
@[irreducible] def cF (fg:FG)(fb:FS)(E:FEnds)(ds:List D)(ρ:FSt):Prop:=lv fg fb E ds ρ
theorem iy (fg:FG)(fb:FS)(E:FEnds)(ds:List D):cF fg fb E ds=lv fg fb E ds:=by funext ρ; unfold cF; rfl
theorem jx (fg:FG)(fb:FS)(E:FEnds)(ρ:FSt):cF fg fb E [] ρ=E.nx ρ:=by rw [iy]; rfl
theorem jy (fg:FG)(fb:FS)(E:FEnds)(d:D)(ds:List D)(ρ:FSt):cF fg fb E (d::ds) ρ=fg d ρ fun ρ1=>fb { nx:=cF fg fb E ds,ct:=cF fg fb E ds,bk:=E.nx,rt:=E.rt } ρ1:=by rw [iy,iy]; rfl
def pR (fi:FI)(fg:FG)(fb:FS):FS:=fun D ρ=>fi ρ fun ds ρ1=>gF ρ1 (cF fg fb D ds)
def iz (fc:FT)(fb:FS)(E:FEnds):Nat->FSt->Prop
 | 0,_=>False
 | n+1,ρ=>fc ρ fun b ρ1=>br b (fb { nx:=iz fc fb E n,ct:=iz fc fb E n,bk:=E.nx,rt:=E.rt } ρ1) (E.nx ρ1)
@[irreducible] def bU (fc:FT)(fb:FS)(E:FEnds)(n:Nat)(ρ:FSt):Prop:=iz fc fb E n ρ
theorem fW (fc:FT)(fb:FS)(E:FEnds)(n:Nat):bU fc fb E n=iz fc fb E n:=by funext ρ; unfold bU; rfl
theorem nq (fc:FT)(fb:FS)(E:FEnds)(ρ:FSt):bU fc fb E 0 ρ=False:=by rw [fW]; rfl
theorem gY (fc:FT)(fb:FS)(E:FEnds)(n:Nat)(ρ:FSt):bU fc fb E (n+1) ρ=fc ρ fun b ρ1=>br b (fb { nx:=bU fc fb E n,ct:=bU fc fb E n,bk:=E.nx,rt:=E.rt } ρ1) (E.nx ρ1):=by rw [fW,fW]; rfl
theorem jz (h:E.nx ρ):cF fg fb E [] ρ:=by rw [jx]; exact h
theorem nr (h:fg d ρ fun ρ1=>fb { nx:=cF fg fb E ds,ct:=cF fg fb E ds,bk:=E.nx,rt:=E.rt } ρ1):cF fg fb E (d::ds) ρ:=by rw [jy]; exact h
theorem cG (h:fc ρ fun b ρ1=>br b (fb { nx:=bU fc fb E n,ct:=bU fc fb E n,bk:=E.nx,rt:=E.rt } ρ1) (E.nx ρ1)):bU fc fb E (n+1) ρ:=by rw [gY]; exact h
def gZ (fc:FT)(fb:FS):FS:=fun D ρ=>∃ n,bU fc fb D n ρ
section
variable {K:Frag}  
theorem Pin.refl {σ:St}(h:σ.length=n):Pin n m σ σ:=⟨h,fun _ _=>rfl⟩
theorem Pin.set {x:Option V}(p:Pin n m σ0 σ)(hi:i ∉ m):Pin n m σ0 (σ.set i x):=⟨by rw [aaU]; exact p.1,fun j hj=>by
 rw [List.getElem?_set_ne fun z=>hi (by rw [z]; exact hj)]; exact p.2 j hj⟩
theorem zK:SF K n m xO aZ:=⟨fun {F Z H σ0 σ ρ A D fD} R p E h=>E.nx _ _ _ _ _ (Same.refl _) R p h⟩
theorem ua:SF K n m n0 wS:=⟨fun {F Z H σ0 σ ρ A D fD} R p E h=>E.bk _ _ _ _ _ (Same.refl _) R p h⟩
theorem zL:SF K n m xR Eu:=⟨fun {F Z H σ0 σ ρ A D fD} R p E h=>E.ct _ _ _ _ _ (Same.refl _) R p h⟩
theorem Ev {t u:TS}{f g:FS}(h1:SF K n m t f)(h2:SF K n m u g):SF K n m (Hc t u) (aq f g):=⟨fun {F Z H σ0 σ ρ A D fD} R p E h =>
 h1.h (fD:={ fD with nx:=fun ρ'=>gF ρ' (g fD) }) R p ⟨fun F' H' σ' ρ' A' s R' p' q=>h2.h R' p' (E.mono s) ((cE ρ' (g fD)).mp q),E.rt,E.bk,E.ct⟩ h⟩
theorem Ia {c:TT}{t u:TS}{f g:FS}(hc:TF K (List.range n) c fc)(h1:SF K n m t f)(h2:SF K n m u g):SF K n m (He c t u) (fIf fc f g):=⟨fun {F Z H σ0 σ ρ A D fD} R p E h =>
 hc.h (P:=fun b ρ1=>br b (f fD ρ1) (g fD ρ1)) (View.id p.1) R (by unfold fIf at h; exact h) fun b ρ1 F1 H1 A1 q s R1=>by
  cases b with
  | true=>exact h1.h R1 p (E.mono s) (sq q)
  | false=>exact h2.h R1 p (E.mono s) (sr q)⟩
theorem Ew (he:EF K (List.range n) te fe):SF K n m (Hd te) (bx fe):=⟨by
 intro F Z H σ0 σ ρ A D fD R p E h
 refine he.h (View.id p.1) R h fun r ρ1 v F1 H1 A1 B1 h1 s1 R1 v1 f1=>?_
 split at h1
 ·rename_i o ρ2 e
  obtain ⟨C,A2,R2,o2,f2,_,_⟩:=R1.takeR v1 f1 e
  exact E.rt _ _ _ _ _ _ _ _ s1 R2 p o2 f2 h1
 ·exact h1.elim⟩
theorem zM (he:EF K (List.range n) te fe):SF K n m (sD te) (dB fe):=⟨fun {F Z H σ0 σ ρ A D fD} R p E h =>
 he.h (View.id p.1) R h fun r ρ1 v F1 H1 A1 B1 h1 s1 R1 v1 f1=>E.nx _ _ _ _ _ s1 R1 p h1⟩
theorem iA (n:Nat):∀ j i:Nat,(List.range n)[j]?=some i->i=j:=fun j i h=>by
 obtain ⟨h1,h2⟩:=List.getElem?_eq_some_iff.mp h
 rw [List.getElem_range] at h2; exact h2.symm
theorem Ex (he:EF K (List.range n) te fe)(hg:GF K (List.range n) T g fg)(hT:∀ i ∈ m,i ∉ T):SF K n m (nX te g) (cu fe fg):=⟨by
 intro F Z H σ0 σ ρ A D fD R p E h
 refine he.h (View.id p.1) R h fun r ρ1 v F1 H1 A1 B1 h1 s1 R1 v1 f1=>?_
 split at h1
 ·rename_i d ρ2 e
  obtain ⟨F2,A2,s2,R2,dn,_,_⟩:=R1.frz v1 f1 e
  refine hg.h (View.id p.1) R2 dn h1 fun τ' σ' ρ' A' q _ R' k kl id' _=>?_
  rw [id' (iA n) rfl]
  exact E.nx _ _ _ _ _ (s1.trans s2) R' ⟨kl.trans p.1,fun i hi=>by rw [k i (hT i hi)]; exact p.2 i hi⟩ q
 ·exact h1.elim⟩
theorem zN (he:EF K (List.range n) te fe)(hi:i ∉ m):SF K n m (nX te (dY i)) (cx i fe):=⟨by
 intro F Z H σ0 σ ρ A D fD R p E h
 refine he.h (View.id p.1) R h fun r ρ1 v F1 H1 A1 B1 h1 s1 R1 v1 f1=>?_
 cases r with
 | ov o =>
  obtain ⟨A2,R2,_⟩:=R1.assign (i:=i) v1 f1
  exact E.nx _ _ _ _ _ s1 R2 (p.set hi) h1
 | br j=>exact h1.elim⟩
theorem Ey {tb:TS}(hi:ITF K (List.range n) wi fi)(hg:GF K (List.range n) T g fg)(hT:∀ i ∈ m,i ∉ T)(hb:SF K n m tb fb):SF K n m (Hk wi g tb) (pR fi fg fb):=⟨by
 intro F Z H σ0 σ ρ A D fD R p E h
 refine hi.h (View.id p.1) R h fun ds ρ1 J F1 H1 A1 h1 s1 R1 wk=>?_
 rw [cE] at h1
 refine ⟨fun i k σ' H'=>k=ds.length - i/\i<=ds.length/\∃ F' ρ' A',Same F1 F'/\Rel K F' Z H' σ' ρ' A'/\Pin n m σ0 σ'/\cF fg fb fD (ds.drop i) ρ',⟨_,rfl,aaq _,F1,ρ1,A1,Same.refl _,R1,p,by rw [aaZ]; exact h1⟩,?_⟩
 rintro i k σ' H' ⟨rfl,hle,F',ρ',A',s',R',p',h'⟩
 by_cases hlt:i < ds.length
 ·rw [aax hlt,jy] at h'
  refine .inr ⟨wk.go H' i (s'.trans R'.fh) hlt,fun σ2 H2=>∃ F2 ρ2 A2,Same F1 F2/\Rel K F2 Z H2 σ2 ρ2 A2/\Pin n m σ0 σ2/\cF fg fb fD (ds.drop (i+1)) ρ2,fun σ2 H2 q=>⟨_,by nofun,rfl,hlt,q⟩,fun x H2 y=>?_⟩
  obtain ⟨rfl,d,hd,dn⟩:=wk.yld H' i x H2 (s'.trans R'.fh) hlt y
  rw [List.getElem?_eq_getElem hlt] at hd
  cases hd
  refine hg.h (View.id p'.1) R' (dn.mono s') h' fun τ' σ2 ρ2 A2 q _ R2 k kl id' _=>?_
  rw [id' (iA n) rfl]
  have nxt:∀ F3 H3 σ3 ρ3 A3,Same F' F3->Rel K F3 Z H3 σ3 ρ3 A3->Pin n m σ0 σ3->cF fg fb fD (ds.drop (i+1)) ρ3->∃ F2 ρ2 A2,Same F1 F2/\Rel K F2 Z H3 σ3 ρ2 A2/\Pin n m σ0 σ3/\cF fg fb fD (ds.drop (i+1)) ρ2 :=
   fun F3 H3 σ3 ρ3 A3 s3 R3 p3 q3=>⟨F3,ρ3,A3,s'.trans s3,R3,p3,q3⟩
  refine hb.h (fD:={ nx:=cF fg fb fD (ds.drop (i+1)),ct:=cF fg fb fD (ds.drop (i+1)),bk:=fD.nx,rt:=fD.rt }) R2 ⟨kl.trans p'.1,fun i hi=>by rw [k i (hT i hi)]; exact p'.2 i hi⟩ ⟨nxt,fun F3 H3 σ3 ρ3 A3 v o B s3=>E.rt F3 H3 σ3 ρ3 A3 v o B (s1.trans (s'.trans s3)),fun F3 H3 σ3 ρ3 A3 s3=>E.nx F3 H3 σ3 ρ3 A3 (s1.trans (s'.trans s3)),nxt⟩ q
 ·have e:i=ds.length:=by nofun
  subst e
  rw [aa3,jx] at h'
  exact .inl ⟨wk.stop H' (s'.trans R'.fh),E.nx _ _ _ _ _ (s1.trans s') R' p' h'⟩⟩
theorem ub {c:TT}{tb:TS}(hc:TF K (List.range n) c fc)(hb:SF K n m tb fb):SF K n m (n6 c tb) (gZ fc fb):=⟨by
 intro F Z H σ0 σ ρ A D fD R p E h
 obtain ⟨N,h⟩:=h
 refine ⟨fun k σ' H'=>∃ F' ρ' A',Same F F'/\Rel K F' Z H' σ' ρ' A'/\Pin n m σ0 σ'/\bU fc fb fD k ρ',⟨N,F,ρ,A,Same.refl _,R,p,h⟩,?_⟩
 rintro k σ' H' ⟨F',ρ',A',s',R',p',h'⟩
 cases k with
 | zero=>rw [nq] at h'; exact h'.elim
 | succ k =>
  rw [gY] at h'
  refine hc.h (View.id p'.1) R' h' fun b ρ1 F1 H1 A1 q s1 R1=>?_
  cases b with
  | false=>exact E.nx _ _ _ _ _ (s'.trans s1) R1 p' (sr q)
  | true =>
   replace q:=sq q
   rw [if_pos rfl]
   have nxt:∀ F3 H3 σ3 ρ3 A3,Same F1 F3->Rel K F3 Z H3 σ3 ρ3 A3->Pin n m σ0 σ3->bU fc fb fD k ρ3->∃ F2 ρ2 A2,Same F F2/\Rel K F2 Z H3 σ3 ρ2 A2/\Pin n m σ0 σ3/\bU fc fb fD k ρ2 :=
    fun F3 H3 σ3 ρ3 A3 s3 R3 p3 q3=>⟨F3,ρ3,A3,(s'.trans s1).trans s3,R3,p3,q3⟩
   exact ⟨fun σ2 H2=>∃ F2 ρ2 A2,Same F F2/\Rel K F2 Z H2 σ2 ρ2 A2/\Pin n m σ0 σ2/\bU fc fb fD k ρ2,fun σ2 H2 q=>⟨k,aaG k,q⟩,
    hb.h (fD:={ nx:=bU fc fb fD k,ct:=bU fc fb fD k,bk:=fD.nx,rt:=fD.rt }) R1 p' ⟨nxt,fun F3 H3 σ3 ρ3 A3 v o B s3=>E.rt F3 H3 σ3 ρ3 A3 v o B ((s'.trans s1).trans s3),fun F3 H3 σ3 ρ3 A3 s3=>E.nx F3 H3 σ3 ρ3 A3 ((s'.trans s1).trans s3),nxt⟩ q⟩⟩
end
def lw (fg:FG)(ft:FT)(fe:FE)(P:List D->FSt->Prop):List D->List D->FSt->Prop
 | [],as,ρ=>P as ρ
 | d::ds,as,ρ=>fg d ρ fun ρ1=>ft ρ1 fun b ρ2=>br b (fe ρ2 fun r ρ3=>match fzR r ρ3 with
  | some (y,ρ4)=>as.length < sizeLine/\lw fg ft fe P ds (as++[y]) ρ4
  | none=>False) (lw fg ft fe P ds as ρ2)
@[irreducible] def cW (fg:FG)(ft:FT)(fe:FE)(P:List D->FSt->Prop)(ds as:List D)(ρ:FSt):Prop:=lw fg ft fe P ds as ρ
theorem iB (fg:FG)(ft:FT)(fe:FE)(P:List D->FSt->Prop)(ds:List D):cW fg ft fe P ds=lw fg ft fe P ds:=by funext as ρ; unfold cW; rfl
theorem fX (fg:FG)(ft:FT)(fe:FE)(P:List D->FSt->Prop)(as:List D)(ρ:FSt):cW fg ft fe P [] as ρ=P as ρ:=by rw [iB]; rfl
theorem fZ (fg:FG)(ft:FT)(fe:FE)(P:List D->FSt->Prop)(d:D)(ds as:List D)(ρ:FSt):cW fg ft fe P (d::ds) as ρ=(fg d ρ fun ρ1=>ft ρ1 fun b ρ2=>br b (fe ρ2 fun r ρ3=>match fzR r ρ3 with
  | some (y,ρ4)=>as.length < sizeLine/\cW fg ft fe P ds (as++[y]) ρ4
  | none=>False) (cW fg ft fe P ds as ρ2)):=by rw [iB,iB]; rfl
theorem jA {P:List D->FSt->Prop}(h:P as ρ):cW fg ft fe P [] as ρ:=by rw [fX]; exact h
theorem nt {P:List D->FSt->Prop}(h:fg d ρ fun ρ1=>ft ρ1 fun b ρ2=>br b (fe ρ2 fun r ρ3=>match fzR r ρ3 with
  | some (y,ρ4)=>as.length < sizeLine/\cW fg ft fe P ds (as++[y]) ρ4
  | none=>False) (cW fg ft fe P ds as ρ2)):cW fg ft fe P (d::ds) as ρ:=by rw [fZ]; exact h
def Ez (no:Nat)(fi:FI)(fg:FG)(ft:FT)(fe:FE):FE:=fun ρ Q=>fi ρ fun ds ρ1=>gF (List.replicate no none++ρ1) (cW fg ft fe (fun as ρ'=>Q (.ov (.fl as)) (ρ'.drop no)) ds [])
def muC (no:Nat)(ixs μ:List Nat):List Nat:=List.range no++ixs.map fun j=>no+μ.getD j 0
section
variable {K:Frag}     
theorem Slots.none_app {K:Frag}{F H:Hp}{σ:St}{ρ:FSt}{A:List Addr}(h:Slots K F H σ ρ A):∀ n,Slots K F H (List.replicate n none++σ) (List.replicate n none++ρ) A
 | 0=>h
 | n+1=>.skip (Slots.none_app h n)
theorem Slots.dropN {K:Frag}(n:Nat)(h:Slots K F H σ ρ A):∃ A' B,A=B++A'/\Slots K F H (σ.drop n) (ρ.drop n) A':=by
 induction h generalizing n with
 | nil=>cases n <;> exact ⟨[],[],rfl,.nil⟩
 | skip t ih =>
  cases n with
  | zero=>exact ⟨_,[],rfl,.skip t⟩
  | succ n=>exact ih n
 | @has _ _ _ _ C _ h t ih =>
  cases n with
  | zero=>exact ⟨_,[],rfl,.has h t⟩
  | succ n =>
   obtain ⟨A',B,rfl,h2⟩:=ih n
   exact ⟨A',C++B,by rw [aay],h2⟩
theorem Rel.write {o:HO}(R:Rel K F Z H σ ρ A)(hA:a ∉ A)(hF:F a=none)(hZ:Z a=none):Rel K F Z (upd H a o) σ ρ A:=by
 have e:∀ b u,b≠a->H b=some u->upd H a o b=some u:=fun b u h q=>by rw [ae h]; exact q
 exact ⟨R.sl.keep (Same.refl _) fun b u hb q=>e b u (fun z=>hA (z ▸ hb)) q,R.nd,R.fr,fun b u q=>e b u (fun z=>by rw [z,hF] at q; cases q) (R.fh b u q),fun b u q=>e b u (fun z=>by rw [z,hZ] at q; cases q) (R.zh b u q),R.dj⟩
theorem gb {τ:St}(vw:View μ τ σ)(hix:∀ j ∈ ixs,j < μ.length):View (muC no ixs μ) (List.replicate no none++jp τ ixs) (List.replicate no none++σ):=by
 intro j i h
 unfold muC at h
 by_cases hj:j < no
 ·rw [List.getElem?_append_left (by exists hj)] at h
  have:=iA no j i h
  subst this
  rw [List.getElem?_append_left (by exists hj),List.getElem?_append_left (by exists hj)]
  refine ⟨rfl,?_,?_⟩ <;> simp <;> nofun
 ·rw [List.getElem?_append_right (by exists hj)] at h
  rw [List.length_range,List.getElem?_map,aam] at h
  obtain ⟨j0,h1,h2⟩:=h
  have hj0:=hix j0 (List.mem_of_getElem? h1)
  obtain ⟨v1,v2,v3⟩:=vw j0 (μ.getD j0 0) (by rw [List.getD_eq_getElem?_getD,List.getElem?_eq_getElem hj0]; rfl)
  have hk:j - no < ixs.length:=(List.getElem?_eq_some_iff.mp h1).1
  refine ⟨?_,?_,?_⟩
  ·rw [List.getElem?_append_right (by exists hj),aaA,← h2,List.getElem?_append_right (by simp),aaA,abm,← v1]
   unfold jp
   rw [List.getElem?_map,h1]
   show some ((τ[j0]?).getD none)=τ[j0]?
   rw [List.getElem?_eq_getElem v2]; rfl
  ·unfold jp; simp; nofun
  ·simp; nofun
abbrev EA (K:Frag)(fg:FG)(fc:FT)(fe:FE)(P:RV->FSt->Prop)(no:Nat)(m:List Nat)(F1 Z:Hp)(σ:St)(a:Addr)(af:List D)(acc:List V)(τ':St)(H':Hp):Prop :=
 ∃ F' ρ' A' σ' as,Same F1 F'/\Rel K F' Z H' σ' ρ' A'/\View m τ' σ'/\(∀ i,no<=i->σ'[i]?=(List.replicate no none++σ)[i]?)/\H' a=some (.lst acc)/\F' a=none/\a ∉ A'/\Dens K F' acc as /\
   cW fg fc fe (fun as ρ'=>P (.ov (.fl as)) (ρ'.drop no)) af as ρ'
theorem zO (hi:ITF K μ wi fi)(hix:∀ j ∈ ixs,j < μ.length)(hg:GF K (muC no ixs μ) T g fg)(hT:∀ i ∈ T,i < no)
  (hc:TF K (muC no ixs μ) tc fc) (he:EF K (muC no ixs μ) te fe):EF K μ (dm no ixs wi g tc te) (Ez no fi fg fc fe):=⟨by
 intro F Z H τ σ ρ A Q P vw R h q
 refine hi.h vw R h fun ds ρ1 J F1 H1 A1 h1 s1 R1 wk=>?_
 rw [cE] at h1
 intro a ha
 have hF1:F1 a=none:=R1.fh.free ha
 have hZ1:Z a=none:=R1.zh.free ha
 have hA1:a ∉ A1:=fun z=>by
  obtain ⟨u,hu⟩:=R1.sl.live a z
  rw [ha] at hu; cases hu
 have R1':Rel K F1 Z (upd H1 a (.lst [])) (List.replicate no none++σ) (List.replicate no none++ρ1) A1:=by
  have:=R1.write (o:=.lst []) hA1 hF1 hZ1
  exact ⟨this.sl.none_app no,this.nd,this.fr,this.fh,this.zh,this.dj⟩
 have hfin:∀ F' H' σ' ρ' A' acc as,Same F1 F'->Rel K F' Z H' σ' ρ' A'->(∀ i,no<=i->σ'[i]?=(List.replicate no none++σ)[i]?)->H' a=some (.lst acc)->F' a=none->a ∉ A'->Dens K F' acc as->P (.ov (.fl as)) (ρ'.drop no)->Q (.ref a) H':=by
  intro F' H' σ' ρ' A' acc as s' R' k ha' hF' hA' dn p
  obtain ⟨A2,B2,e2,sl2⟩:=R'.sl.dropN no
  have es:σ'.drop no=σ:=by
   apply List.ext_getElem?
   intro i
   rw [List.getElem?_drop,k (no+i) (by omega),List.getElem?_append_right (by simp),aaA,abm]
  rw [es] at sl2
  have m2:∀ b ∈ A2,b ∈ A':=fun b hb=>by rw [e2]; exact List.mem_append.mpr (.inr hb)
  have R2:Rel K F' Z H' σ (ρ'.drop no) A2:=⟨sl2,by have:=R'.nd; rw [e2,List.nodup_append] at this; exact this.2.1,fun b hb=>R'.fr b (m2 b hb),R'.fh,R'.zh,R'.dj⟩
  exact q _ _ _ _ _ _ [a] p (s1.trans s') R2 (.fl ha' dn) ⟨by simp,fun b hb=>by
   have:b=a:=(by exists hb)
   subst this
   exact ⟨hF',hZ1,fun z=>hA' (m2 _ z)⟩⟩
 refine ⟨fun i k acc τ' H'=>k=ds.length - i/\i<=ds.length/\EA K fg fc fe P no (muC no ixs μ) F1 Z σ a (ds.drop i) acc τ' H',
  ⟨_,rfl,aaq _,F1,_,A1,_,[],Same.refl _,R1',gb vw hix,fun _ _=>rfl,ad,hF1,hA1,.nil,by rw [aaZ]; exact h1⟩,?_⟩
 rintro i k acc τ' H' ⟨rfl,hle,F',ρ',A',σ',as,s',R',vw',kp,hD,hFD,hAD,dn,h'⟩
 by_cases hlt:i < ds.length
 ·rw [aax hlt,fZ] at h'
  refine .inr ⟨wk.go H' i (s'.trans R'.fh) hlt,fun acc τ' H'=>EA K fg fc fe P no (muC no ixs μ) F1 Z σ a (ds.drop (i+1)) acc τ' H',fun acc' σ2 H2 z=>⟨_,by omega,rfl,hlt,z⟩,fun x H2 y=>?_⟩
  obtain ⟨rfl,d,hd,dx⟩:=wk.yld H' i x H2 (s'.trans R'.fh) hlt y
  rw [List.getElem?_eq_getElem hlt] at hd
  cases hd
  refine hg.h vw' R' (dx.mono s') h' fun τ2 σ2 ρ2 A2 p2 vw2 R2 k2 kl2 _ m2=>?_
  have kp2:∀ i,no<=i->σ2[i]?=(List.replicate no none++σ)[i]?:=fun i hi=>by
   rw [k2 i fun z=>by have:=hT i z; omega]; exact kp i hi
  have fD:Fresh F' Z A2 [a]:=⟨by simp,fun b hb=>by
   have:b=a:=(by exists hb)
   subst this
   exact ⟨hFD,hZ1,fun z=>hAD (m2 _ z)⟩⟩
  obtain ⟨Z',sz,R2',zl,back⟩:=R2.hold (B:=[a]) (fun b hb=>by
   have:b=a:=(by exists hb)
   subst this
   exact ⟨_,hD⟩) fD
  refine hc.h vw2 R2' p2 fun b ρ3 F3 H3 A3 p3 s3 R3=>?_
  cases b with
  | false =>
   replace p3:=sr p3
   rw [if_neg Bool.false_ne_true]
   obtain ⟨R3',f3,k3⟩:=back _ _ _ _ s3 R3
   have fa:=f3.fr a (by simp)
   exact ⟨F3,ρ3,A3,σ2,as,s'.trans s3,R3',vw2,kp2,k3 a _ (by simp) hD,fa.1,fa.2.2,dn.mono s3,p3⟩
  | true =>
   replace p3:=sq p3
   rw [if_pos rfl]
   refine he.h vw2 R3 p3 fun r ρ4 v F4 H4 A4 B4 p4 s4 R4 v4 f4=>?_
   split at p4
   ·rename_i y ρ5 e5
    obtain ⟨F5,A5,s5,R5,dy,_,_⟩:=R4.frz v4 f4 e5
    obtain ⟨R5',f5,k5⟩:=back _ _ _ _ ((s3.trans s4).trans s5) R5
    have fa:=f5.fr a (by simp)
    refine ⟨k5 a _ (by simp) hD,by rw [dn.length]; exact p4.1,F5,ρ5,A5,σ2,as++[y],((s'.trans s3).trans s4).trans s5,R5'.write fa.2.2 fa.1 hZ1,vw2,kp2,ad,fa.1,fa.2.2,(dn.mono ((s3.trans s4).trans s5)).snoc dy,p4.2⟩
   ·exact p4.elim
 ·have e:i=ds.length:=by omega
  subst e
  rw [aa3,fX] at h'
  exact .inl ⟨wk.stop H' (s'.trans R'.fh),hfin _ _ _ _ _ _ _ s' R' kp hD hFD hAD dn h'⟩⟩
def unL (ρ:FSt)(i:Nat):Option (List D):=match ρ[i]? with
 | some (some (.fl ds))=>some ds
 | _=>none
def unD (ρ:FSt)(i:Nat):Option (List Key×List D):=match ρ[i]? with
 | some (some (.fd ks ds))=>some (ks,ds)
 | _=>none
theorem EB (h:unL ρ i=some ds):ρ[i]?=some (some (.fl ds)):=by
 unfold unL at h
 split at h
 ·rename_i os e
  cases h; exact e
 ·cases h
theorem lx (h:unD ρ i=some (ks,ds)):ρ[i]?=some (some (.fd ks ds)):=by
 unfold unD at h
 split at h
 ·rename_i ks' os e
  cases h; exact e
 ·cases h
theorem Rel.mutL (R:Rel K F Z H σ ρ A)(h:unL ρ i=some ds):∃ a xs,σ[i]?=some (some (.ref a))/\H a=some (.lst xs)/\Dens K F xs ds /\
  ∀ xs' ds',Dens K F xs' ds'->∃ A',Rel K F Z (upd H a (.lst xs')) σ (ρ.set i (some (.fl ds'))) A':=by
 have e:=EB h
 obtain ⟨v,B,A',h1,h2,R',f',pm⟩:=R.takeI e
 cases h2 with
 | @fl a xs os hl dn =>
  have fa:=f'.fr a (by simp)
  refine ⟨a,xs,h1,hl,dn,fun xs' ds' dn'=>?_⟩
  have R2:=R'.write (o:=.lst xs') fa.2.2 fa.1 fa.2.1
  obtain ⟨A3,R3,_⟩:=R2.putI (dc e) h1 (.fl ad dn') f'
  rw [abj] at R3
  exact ⟨A3,R3⟩
theorem Rel.mutD (R:Rel K F Z H σ ρ A)(h:unD ρ i=some (ks,ds)):∃ a ys,σ[i]?=some (some (.ref a))/\H a=some (.dK ys)/\ys.map (·.1)=ks/\Dens K F (ys.map (·.2)) ds /\
  ∀ ys' ks' ds',ys'.map (·.1)=ks'->Dens K F (ys'.map (·.2)) ds'->∃ A',Rel K F Z (upd H a (.dK ys')) σ (ρ.set i (some (.fd ks' ds'))) A':=by
 have e:=lx h
 obtain ⟨v,B,A',h1,h2,R',f',pm⟩:=R.takeI e
 cases h2 with
 | @fd a ys ks os hl hk dn =>
  have fa:=f'.fr a (by simp)
  refine ⟨a,ys,h1,hl,hk,dn,fun ys' ks' ds' hk' dn'=>?_⟩
  have R2:=R'.write (o:=.dK ys') fa.2.2 fa.1 fa.2.1
  obtain ⟨A3,R3,_⟩:=R2.putI (dc e) h1 (.fd ad hk' dn') f'
  rw [abj] at R3
  exact ⟨A3,R3⟩
def Cp (i:Nat)(fe:FE):FE:=fun ρ Q=>(unL ρ i).isSome=true/\fe ρ fun r ρ1=>match fzR r ρ1 with
 | some (d,ρ2)=>(match unL ρ2 i with
  | some ds=>ds.length < sizeLine/\Q (.ov (.fz .non)) (ρ2.set i (some (.fl (ds++[d]))))
  | none=>False)
 | none=>False
theorem EC (hj:μ[j]?=some i)(he:EF K μ te fe):EF K μ (tBM K "list" dZ (cO j) (dl te kr)) (Cp i fe):=⟨by
 intro F Z H τ σ ρ A Q P vw R h q
 obtain ⟨h0,h⟩:=h
 obtain ⟨ds0,e0⟩:=Option.isSome_iff_exists.mp h0
 obtain ⟨a,xs,h1,h2,h3,_⟩:=R.mutL e0
 refine ⟨.ref a,(vw j i hj).1.trans h1,.inl ⟨rfl,xs,SqL.of h2⟩,?_⟩
 refine he.h vw R h fun r ρ1 v F1 H1 A1 B1 p1 s1 R1 v1 f1=>?_
 split at p1
 ·rename_i d ρ2 e2
  obtain ⟨F2,A2,s2,R2,dy,_,_⟩:=R1.frz v1 f1 e2
  split at p1
  ·rename_i ds e3
   obtain ⟨a',xs',h1',h2',h3',mt⟩:=R2.mutL e3
   rw [h1] at h1'
   cases h1'
   obtain ⟨A3,R3⟩:=mt (xs'++[v]) (ds++[d]) (h3'.snoc dy)
   exact ⟨a,xs',v,rfl,rfl,h2',by rw [h3'.length]; exact p1.1,q _ _ _ _ _ _ _ p1.2 (s1.trans s2) R3 (.fz .non) Fresh.nil⟩
  ·exact p1.elim
 ·exact p1.elim⟩
def ly (i:Nat)(fe fk:FE):FS:=fun E ρ=>fe ρ fun r ρ1=>match fzR r ρ1 with
 | some (d,ρ2)=>(unL ρ2 i).isSome=true/\fk ρ2 fun s ρ3=>on1 ρ3 s fun dk=>(match dk,unL ρ3 i with
  | .int k,some ds=>(match ixN ds.length k with
   | some x=>E.nx (ρ3.set i (some (.fl (ds.set x d))))
   | none=>False)
  | _,_=>False)
 | none=>False
def kg:D->Option Key
 | .int i=>some (.inl i)
 | .str z=>some (.inr z)
 | _=>none
def kh (ks:List Key)(ds:List D)(k:Key)(d:D):List Key×List D :=
 if (ks.any fun x=>decide (x=k))=true then (ks,(ks.zip ds).map fun kd=>if kd.1=k then d else kd.2) else (ks++[k],ds++[d])
def pT (i:Nat)(fe fk:FE):FS:=fun E ρ=>fe ρ fun r ρ1=>match fzR r ρ1 with
 | some (d,ρ2)=>(unD ρ2 i).isSome=true/\fk ρ2 fun s ρ3=>on1 ρ3 s fun dk=>(match kg dk,unD ρ3 i with
  | some k,some (ks,ds)=>ks.length < sizeLine/\E.nx (ρ3.set i (some (.fd (kh ks ds k d).1 (kh ks ds k d).2)))
  | _,_=>False)
 | none=>False
theorem cX {k:Key}(h:Acc K F H v d)(e:kg d=some k):v=kV k:=by
 cases d with
 | int i=>simp only [kg,Option.some.injEq] at e; subst e; exact h.int_eq
 | str z=>simp only [kg,Option.some.injEq] at e; subst e; exact h.str_eq
 | _=>simp [kg] at e
theorem uc {k:Key}(hk:ys.map (·.1)=ks)(dn:Dens K F (ys.map (·.2)) ds)(dv:Den K F v d):(gu ys k v).map (·.1)=(kh ks ds k d).1/\Dens K F ((gu ys k v).map (·.2)) (kh ks ds k d).2:=by
 have hl:ys.length=ds.length:=by have:=dn.length; simpa using this
 unfold kh gu
 have hq:(ks.any fun x=>decide (x=k))=(ys.any fun kv=>decide (kv.1=k)):=by rw [← hk,List.any_map]; rfl
 by_cases hm:(ks.any fun x=>decide (x=k))=true
 ·have hany:(ys.any fun kv=>decide (kv.1=k))=true:=hq ▸ hm
  rw [if_pos hany,if_pos hm]
  constructor
  ·rw [aat,← hk]
   refine aa2 fun kv _=>?_
   show (if kv.1=k then (kv.1,v) else kv).1=kv.1
   split <;> rfl
  ·subst hk
   clear hm hany hl hq
   induction ys generalizing ds with
   | nil=>cases dn; exact .nil
   | cons y ys ih =>
    cases dn with
    | cons d1 d2 =>
     refine .cons ?_ (ih d2)
     show Den K F (if y.1=k then (y.1,v) else y).2 (if y.1=k then d else _)
     split
     ·exact dv
     ·exact d1
 ·have hany:¬ (ys.any fun kv=>decide (kv.1=k))=true:=hq ▸ hm
  rw [if_neg hany,if_neg hm]
  refine ⟨by rw [aag,hk]; rfl,?_⟩
  rw [aag]
  exact dn.snoc dv
theorem ud {ti:TE}(hin:i < n)(he:EF K (List.range n) te fe)(hk:EF K (List.range n) ti fk):SF K n m (nX te (Hj (cO i) ti yp)) (ly i fe fk):=⟨by
 intro F Z H σ0 σ ρ A D fD R p E h
 refine he.h (View.id p.1) R h fun r ρ1 v F1 H1 A1 B1 p1 s1 R1 v1 f1=>?_
 split at p1
 ·rename_i d ρ2 e2
  obtain ⟨F2,A2,s2,R2,dy,_,_⟩:=R1.frz v1 f1 e2
  obtain ⟨h0,p1⟩:=p1
  obtain ⟨ds0,e0⟩:=Option.isSome_iff_exists.mp h0
  obtain ⟨a,xs,h1,h2,h3,_⟩:=R2.mutL e0
  refine ⟨.ref a,h1,?_⟩
  refine hk.h (View.id p.1) R2 p1 fun s ρ3 w F3 H3 A3 B3 p3 s3 R3 v3 f3=>?_
  obtain ⟨dk,ek,p4⟩:=bN p3
  split at p4
  ·rename_i k ds e3
   split at p4
   ·rename_i x ex
    obtain ⟨a',xs',h1',h2',h3',mt⟩:=R3.mutL e3
    rw [h1] at h1'
    cases h1'
    obtain ⟨A4,R4⟩:=mt (xs'.set x v) (ds.set x d) (h3'.set (dy.mono s3) x)
    exact ⟨a,xs',k,x,rfl,(R3.acc v3 ek).int_eq,h2',by rw [h3'.length]; exact ex,E.nx _ _ _ _ _ ((s1.trans s2).trans s3) R4 p p4⟩
   ·exact p4.elim
  ·exact p4.elim
 ·exact p1.elim⟩
theorem zP (he:EF K (List.range n) tv fe)(hk:EF K (List.range n) ty fk):SF K n m (sV (cO i) ty tv) (pT i fe fk):=⟨by
 intro F Z H σ0 σ ρ A D fD R p E h
 refine he.h (View.id p.1) R h fun r ρ1 v F1 H1 A1 B1 p1 s1 R1 v1 f1=>?_
 generalize e2:fzR r ρ1=o at p1
 obtain _ | ⟨d,ρ2⟩:=o
 ·exact False.elim p1
 ·obtain ⟨F2,A2,s2,R2,dy,_,_⟩:=R1.frz v1 f1 e2
  obtain ⟨h0,p1⟩:=p1
  obtain ⟨⟨ks0,ds0⟩,e0⟩:=Option.isSome_iff_exists.mp h0
  obtain ⟨a,xs,h1,h2,h3,_⟩:=R2.mutD e0
  refine ⟨.ref a,h1,?_⟩
  refine hk.h (View.id p.1) R2 p1 fun s ρ3 w F3 H3 A3 B3 p3 s3 R3 v3 f3=>?_
  obtain ⟨dk,ek,p4⟩:=bN p3
  generalize e4:kg dk=o at p4
  generalize e3:unD ρ3 i=o' at p4
  obtain _ | k:=o
  ·exact False.elim p4
  obtain _ | ⟨ks,ds⟩:=o'
  ·exact False.elim p4
  ·obtain ⟨a',ys,h1',h2',hk',h3',mt⟩:=R3.mutD e3
   rw [h1] at h1'
   cases h1'
   obtain ⟨q1,q2⟩:=uc (k:=k) hk' h3' (dy.mono s3)
   obtain ⟨A4,R4⟩:=mt (gu ys k v) _ _ q1 q2
   have hl:ys.length=ks.length:=by rw [← hk',List.length_map]
   exact ⟨a,_,rfl,.inl ⟨ys,k,h2',cX (R3.acc v3 ek) e4,by rw [hl]; exact p4.1,rfl⟩,E.nx _ _ _ _ _ ((s1.trans s2).trans s3) R4 p p4.2⟩⟩
end
def outs (m:List Nat):Nat->List OV->FSt->Option (List OV)
 | _,[],_=>some []
 | i,o::os,ρ=>if m.contains i=true then (match ρ[i]? with
   | some (some o')=>(outs m (i+1) os (ρ.set i none)).map (o'::·)
   | _=>none) else (outs m (i+1) os ρ).map (o::·)
def pU:OV->Bool
 | .fz _=>true
 | _=>false
def fin (m:List Nat)(os:List OV)(P:OV->List OV->Prop)(o:OV)(ρ:FSt):Prop:=match outs m 0 os ρ with
 | some os'=>P o os'
 | none=>False
def ak (n:Nat)(os:List OV):FSt:=os.map some++List.replicate (n - os.length) none
section
variable {K:Frag}
theorem Ows.length {F H:Hp}{vs:List V}{os:List OV}{A:List Addr}(h:Ows K F H vs os A):vs.length=os.length:=by
 induction h with
 | nil=>rfl
 | cons _ t ih=>exact congrArg (·+1) ih
theorem Slots.nones (k:Nat):Slots K F H (List.replicate k none) (List.replicate k none) []:=by
 induction k with
 | zero=>exact .nil
 | succ k ih=>exact .skip ih
theorem Slots.of_ows (k:Nat){os:List OV}(h:Ows K F H vs os A):Slots K F H (vs.map some++List.replicate k none) (os.map some++List.replicate k none) A:=by
 induction h with
 | nil=>exact Slots.nones k
 | cons h t ih=>exact .has h ih
theorem Rel.outs :∀ {vs:List V} {os:List OV} {C:List Addr} {i:Nat} {ρ:FSt} {A:List Addr} {os':List OV},Ows K F H vs os C->Same F F'->(∀ j o,os[j]?=some o->i+j ∉ m->pU o=true) ->
  (∀ j v,vs[j]?=some v->i+j ∈ m->σ[i+j]?=some (some v))->Rel K F' Z H' σ ρ A->L2.outs m i os ρ=some os'->∃ C' A':List Addr,Ows K F' H' vs os' C'/\Rel K F' Z H' σ ρ A/\C'.Nodup/\(∀ a,a ∈ C'->a ∈ A/\a ∉ A')/\(∀ a,a ∈ A'->a ∈ A):=by
 intro vs
 induction vs with
 | nil =>
  intro os C i ρ A os' h s hz hp R e
  cases h
  simp only [L2.outs,Option.some.injEq] at e
  subst e
  exact ⟨[],A,.nil,R,aaB,fun _ z=>(nomatch z),fun _ z=>z⟩
 | cons v vs ih =>
  intro os C i ρ A os' h s hz hp R e
  cases h with
  | @cons _ o _ os C1 C2 h t =>
   simp only [L2.outs] at e
   have hz':∀ j o,os[j]?=some o->i+1+j ∉ m->pU o=true:=fun j o q n=>hz (j+1) o (by exists q) (by rw [show i+(j+1)=i+1+j by nofun]; exact n)
   have hp':∀ j v,vs[j]?=some v->i+1+j ∈ m->σ[i+1+j]?=some (some v):=fun j v q n=>by
    have:=hp (j+1) v (by exists q) (by rw [show i+(j+1)=i+1+j by nofun]; exact n)
    rw [show i+1+j=i+(j+1) by nofun]; exact this
   split at e
   ·rename_i hm
    have hm:i ∈ m:=(by exists hm)
    split at e
    ·rename_i o' ho
     rw [aam] at e
     obtain ⟨os2,e2,rfl⟩:=e
     obtain ⟨v',B',A',h1,h2,R',f',pm⟩:=R.takeI ho
     have hv:=hp 0 v rfl (by exists hm)
     rw [Nat.add_zero] at hv
     have:v'=v:=by rw [hv] at h1; simpa using h1.symm
     subst this
     obtain ⟨C',A2,w1,_,n1,m1,m2⟩:=ih t s hz' hp' R' e2
     refine ⟨B'++C',A2,.cons h2 w1,R,List.nodup_append.mpr ⟨f'.nd,n1,fun a ha b hb z=>(f'.fr a ha).2.2 (by rw [z]; exact (m1 b hb).1)⟩,fun a ha=>?_,fun a ha=>pm.mem_iff.mpr (List.mem_append.mpr (.inr (m2 a ha)))⟩
     rcases List.mem_append.mp ha with z | z
     ·exact ⟨pm.mem_iff.mpr (List.mem_append.mpr (.inl z)),fun y=>(f'.fr a z).2.2 (m2 a y)⟩
     ·exact ⟨pm.mem_iff.mpr (List.mem_append.mpr (.inr (m1 a z).1)),(m1 a z).2⟩
    ·cases e
   ·rename_i hm
    rw [aam] at e
    obtain ⟨os2,e2,rfl⟩:=e
    have hm:i ∉ m:=(by exists hm)
    have hf:=hz 0 o rfl (by exists hm)
    obtain ⟨C',A2,w1,_,n1,m1,m2⟩:=ih t s hz' hp' R e2
    cases h with
    | fz dn=>exact ⟨C',A2,.cons (.fz (dn.mono s)) w1,R,n1,m1,m2⟩
    | _=>simp [pU] at hf
theorem Fun.okF {P:Program}{mg:Str->Option Value}{base:Heap}{qual:Str}{st:Stmt}{f:Addr}{fd:FuncData}{N ps:List Str}{k:Nat}{fs:FS}(F:Fun K x qual st f fd)(S:FnScope N ps (aj st))
  (hN:ps.length<=N.length) (hlen:∀ os P,c os P->os.length=ps.length/\∀ j o,os[j]?=some o->j ∉ m->pU o=true) (hm:∀ i ∈ m,i < ps.length)
  (hbody:∀ (cdv:Value) (A:Around) (outer:List Env) (s:Shared) (H:Hp) (E:XK),Room k (A.deeper (envOfC qual (aj st) s.heap.objs.size f cdv)) ->
   ∃ t,BSs (oz CX0 P w K mg base N qual (aj st) f cdv A outer s H E).nox (bo st) t/\SF K N.length m t fs)
  (hc:∀ os P,c os P->fs { nx:=fin m os P (.fz .non),rt:=fin m os P } (ak N.length os)):FnOk P w K mg base CX0 (k+1) f fd ps (spM K c):=by
 refine F.okB S (fun vs H Q E h=>?_) (fun cdv A outer s H vs Q E hr h=>?_)
 ·obtain ⟨F1,Z,os,C,Pq,_,_,_,ho,_,_,hcc,_⟩:=h
  rw [ho.length]; exact (hlen os Pq hcc).1
 ·obtain ⟨F1,Z,os,C,Pq,sf,sz,dj,ho,nd,fr,hcc,q⟩:=h
  obtain ⟨t,ht,hs⟩:=hbody cdv A outer s H E hr
  refine ⟨t,ht,?_⟩
  have hl:=(hlen os Pq hcc).1
  have hvl:=ho.length
  have R:Rel K F1 Z H (start N vs) (ak N.length os) C:=by
   refine ⟨?_,nd,fr,sf,sz,dj⟩
   unfold start ak
   rw [hvl]
   exact Slots.of_ows _ ho
  have hn:(start N vs).length=N.length:=by unfold start; simp; nofun
  have fin_ok:∀ F' H' σ' ρ' A' v o B,Same F1 F'->Rel K F' Z H' σ' ρ' A'->Pin N.length m (start N vs) σ'->Ow K F' H' v o B->Fresh F' Z A' B->fin m os Pq o ρ'->Q v H':=by
   intro F' H' σ' ρ' A' v o B s' R' p' ow f' h'
   unfold fin at h'
   split at h'
   ·rename_i os' e
    obtain ⟨C',A2,w1,_,n1,m1,m2⟩:=Rel.outs (i:=0) ho s' (fun j o q n=>(hlen os Pq hcc).2 j o q (by exists n)) (fun j v q n=>by
     have hj:j < vs.length:=(List.getElem?_eq_some_iff.mp q).1
     rw [Nat.zero_add] at n ⊢
     rw [p'.2 j n]
     unfold start
     rw [List.getElem?_append_left (by exists hj),List.getElem?_map,q]; rfl) R' e
    refine q o os' v F' H' C' B h' s' R'.fh R'.zh R'.dj w1 ow (List.nodup_append.mpr ⟨n1,f'.nd,fun a ha b hb z=>(f'.fr b hb).2.2 (by rw [← z]; exact (m1 a ha).1)⟩) fun a ha=>?_
    rcases List.mem_append.mp ha with z | z
    ·exact R'.fr a (m1 a z).1
    ·exact ⟨(f'.fr a z).1,(f'.fr a z).2.1⟩
   ·exact h'.elim
  exact hs.h (fD:={ nx:=fin m os Pq (.fz .non),rt:=fin m os Pq }) R (Pin.refl hn) ⟨fun F' H' σ' ρ' A' s' R' p' h'=>fin_ok F' H' σ' ρ' A' .non (.fz .non) [] s' R' p' (.fz .non) Fresh.nil h',
   fin_ok,fun _ _ _ _ _ _ _ _ z=>z.elim,fun _ _ _ _ _ _ _ _ z=>z.elim⟩ (hc os Pq hcc)
end
def Ji:R2:=fun x y H Q=>∃ a v,x=.ref a/\DGet H a y (some v)/\Q v H
theorem zQ (hu:X.A.units+1 < cLine):IxR X Ji:=by
 intro value slice pins s σ H x y v u Q I rx ry h hs
 obtain ⟨a,z,rfl,g,q⟩:=h
 cases rx
 exact tail_any (kz I g) PySem.F.slot_dict_getitem.lookup (oF hu I g ry fun w' s3 I3 rw'=>⟨z,H,I3,rw',q⟩) hs
def wT (K:Frag):R2:=fun x y H Q=>rIx K x y H Q∨Ji x y H Q
def Jj:R2:=fun x y H Q=>∃ a o,y=.ref a/\DGet H a x o/\Q (.bl o.isSome) H
def pV:R2:=fun x y H Q=>∃ a o,y=.ref a/\DGet H a x o/\Q (.bl (!o.isSome)) H
theorem ED (hu:X.A.units+1 < cLine):OpR X (compareOp .In) Jj:=by
 intro pins s σ H x y v u Q I rx ry h
 obtain ⟨a,o,rfl,g,q⟩:=h
 cases ry
 exact d_in hu I g rx fun s3 I3=>⟨.bl o.isSome,H,I3,rfl,q⟩
theorem pW (hu:X.A.units+1 < cLine):OpR X (compareOp .NotIn) pV:=by
 intro pins s σ H x y v u Q I rx ry h
 obtain ⟨a,o,rfl,g,q⟩:=h
 cases ry
 exact yr hu I g rx fun s3 I3=>⟨.bl (!o.isSome),H,I3,rfl,q⟩
def Ib (K:Frag):R2:=fun x y H Q=>Jd K x y H Q∨Jj x y H Q
def pX (K:Frag):R2:=fun x y H Q=>o0 K x y H Q∨pV x y H Q
theorem zR (K:Frag)(hu:X.A.units+64 < cLine)(h:X.K=K):BOp X (compareOp .In) (Ib K):=by subst h; exact ⟨OpR.or Dv (ED (by nofun))⟩
theorem nu (K:Frag)(hu:X.A.units+64 < cLine)(h:X.K=K):BOp X (compareOp .NotIn) (pX K):=by subst h; exact ⟨OpR.or o4 (pW (by nofun))⟩
theorem EE {a b:Expr}(K:Frag)(hu:X.A.units+64 < cLine)(ha:BE X a ta)(hb:BE X b tb)(hs:∀ o i,subscripted b false o i=operate [o,i] (getItem o i))(hK:X.K=K):BE X (.Subscript a b pos) (tOp (wT K) ta tb):=by
 subst hK; exact ⟨Hw (IxR.or Dg (zQ (by nofun))) ha.h hb.h hs⟩
def EG (pI:Int->Int->Bool)(pS:Str->Str->Bool):R2:=fun x y H Q=>(∃ i j,x=.int i/\y=.int j/\Q (.bl (pI i j)) H)∨∃ i j,x=.str i/\y=.str j/\Q (.bl (pS i j)) H
def aV (x y:Str):Bool:=decide (x.cps.toList < y.cps.toList)
theorem EH:OpR X (compareOp .Lt) (fun x y H Q=>∃ i j,x=.str i/\y=.str j/\Q (.bl (aV i j)) H):=by
 intro pins s σ H x y v u Q I rx ry h
 obtain ⟨i,j,rfl,rfl,q⟩:=h
 obtain ⟨t,rfl⟩:=rx
 obtain ⟨t',rfl⟩:=ry
 exact PyProof.Rows.lt_str ⟨.bl _,H,I,rfl,q⟩
theorem EI:OpR X (compareOp .LtE) (fun x y H Q=>∃ i j,x=.str i/\y=.str j/\Q (.bl (!aV j i)) H):=by
 intro pins s σ H x y v u Q I rx ry h
 obtain ⟨i,j,rfl,rfl,q⟩:=h
 obtain ⟨t,rfl⟩:=rx
 obtain ⟨t',rfl⟩:=ry
 refine PySem.P.le_str ⟨.bl _,H,I,rfl,?_⟩
 have e:decide (¬ (j.cps.toList < i.cps.toList))=!aV j i:=by unfold aV; rw [decide_not]
 first | exact q | (rw [← e] at q; exact q) | (simpa [aV] using q)
theorem EJ:OpR X (compareOp .Gt) (fun x y H Q=>∃ i j,x=.str i/\y=.str j/\Q (.bl (aV j i)) H):=by
 intro pins s σ H x y v u Q I rx ry h
 obtain ⟨i,j,rfl,rfl,q⟩:=h
 obtain ⟨t,rfl⟩:=rx
 obtain ⟨t',rfl⟩:=ry
 exact PySem.P.gt_str ⟨.bl _,H,I,rfl,q⟩
theorem EK:OpR X (compareOp .GtE) (fun x y H Q=>∃ i j,x=.str i/\y=.str j/\Q (.bl (!aV i j)) H):=by
 intro pins s σ H x y v u Q I rx ry h
 obtain ⟨i,j,rfl,rfl,q⟩:=h
 obtain ⟨t,rfl⟩:=rx
 obtain ⟨t',rfl⟩:=ry
 refine PySem.P.ge_str ⟨.bl _,H,I,rfl,?_⟩
 have e:decide (¬ (i.cps.toList < j.cps.toList))=!aV i j:=by unfold aV; rw [decide_not]
 first | exact q | (rw [← e] at q; exact q) | (simpa [aV] using q)
theorem zS:BOp X (compareOp .Lt) (EG (fun i j=>decide (i < j)) aV):=⟨OpR.or Hr EH⟩
theorem zT:BOp X (compareOp .LtE) (EG (fun i j=>decide (i<=j)) fun i j=>!aV j i):=⟨OpR.or Hs EI⟩
theorem zU:BOp X (compareOp .Gt) (EG (fun i j=>decide (j < i)) fun i j=>aV j i):=⟨OpR.or Ht EJ⟩
theorem zV:BOp X (compareOp .GtE) (EG (fun i j=>decide (j<=i)) fun i j=>!aV i j):=⟨OpR.or Hu EK⟩
def tyD:D->String
 | .non => "NoneType"
 | .bl _ => "bool"
 | .int _ => "int"
 | .str _ => "str"
 | .lst _ => "list"
 | .tup _ => "tuple"
 | .dct _ _ => "dict"
 | .ty _ => "type"
 | .opq _ _ => "dict"
 | .gt _ => "tuple"
 | .dt _ _ => "dict"
def zW (T:String):Bool:=T == "str" || T == "int" || T == "bool" || T == "list" || T == "tuple" || T == "dict" || T == "NoneType"
theorem pY {T:String}(h:zW T=true):okT T:=by
 simp only [zW,Bool.or_eq_true,beq_iff_eq] at h
 unfold okT
 rcases h with (((((h | h) | h) | h) | h) | h) | h <;> simp [h]
def Ic (K:Frag):List V->Hp->VK->Prop:=fun xs H Q=>∃ x d T,xs=[x,.ty T]/\Den K H x d/\zW (tyD d)=true/\zW T=true/\Q (.bl (isT (tyD d) T)) H
theorem uf:CallR X (.builtin "isinstance") (Ic X.K):=by
 intro pins s σ H xs us Q I r h
 obtain ⟨x,d,T,rfl,dn,o1,o2,q⟩:=h
 obtain ⟨u,u',rfl,ru,ru'⟩:=sK r
 cases (show u'=Value.type T from ru')
 have e:=Dp (K:=X.K) (pY o1) (pY o2)
 have fin:∀ tk,EP X pins σ Q (.bool (isT (tyD d) T)) { s with toks:=tk }:=fun tk=>⟨.bl _,H,I.tok tk,rfl,q⟩
 cases dn with
 | non=>exact dG I ru .non e fin
 | bl b=>exact dG I ru (.bl b) e fin
 | int i=>exact dG I ru (.int i) e fin
 | str z=>exact dG I ru (.str z) e fin
 | ty T'=>simp [tyD,zW] at o1
 | @lst a ys ds hs t =>
  cases (show u=Value.ref a from ru)
  obtain ⟨its,_,⟨o,n,h1,h2,_⟩,_⟩:=I.list hs
  exact aas PySem.W.kitx_list I.kIn ⟨_,h1,h2⟩ e (fun z=>nomatch z) fin
 | @tup a ys ds hs t =>
  cases (show u=Value.ref a from ru)
  obtain ⟨its,_,⟨o,h1,h2,_⟩,_⟩:=I.tuple (SqT.of hs)
  exact aas PySem.W.kitx_tuple I.kIn ⟨o,h1,h2⟩ e (fun z=>nomatch z) fin
 | @gt a ys ds hs t =>
  cases (show u=Value.ref a from ru)
  obtain ⟨its,_,⟨o,h1,h2,_⟩,_⟩:=I.tuple hs
  exact aas PySem.W.kitx_tuple I.kIn ⟨o,h1,h2⟩ e (fun z=>nomatch z) fin
 | @dt a ys ks ds hs hk t =>
  cases (show u=Value.ref a from ru)
  obtain ⟨_,_,xs,_,o,es,ep,h1,h2,_⟩:=(show ObjOk X.prog X.w H s.heap a (.dT ys) from hs.ok I.hok)
  exact aas abr I.kIn ⟨o,h1,h2.1⟩ e (fun z=>nomatch z) fin
 | @dct a ys ks ds hs hk t =>
  cases (show u=Value.ref a from ru)
  obtain ⟨_,_,vs,_,p⟩:=(show ObjOk X.prog X.w H s.heap a (.dK ys) from hs.ok I.hok)
  obtain ⟨o,es,ep,h1,h2,_⟩:=p
  exact aas abr I.kIn ⟨o,h1,h2.1⟩ e (fun z=>nomatch z) fin
 | @opq a ys n hs hn hpl =>
  cases (show u=Value.ref a from ru)
  obtain ⟨_,_,vs,_,p⟩:=(show ObjOk X.prog X.w H s.heap a (.dK ys) from hs.ok I.hok)
  obtain ⟨o,es,ep,h1,h2,_⟩:=p
  exact aas abr I.kIn ⟨o,h1,h2.1⟩ e (fun z=>nomatch z) fin
theorem EL (K:Frag)(h:X.K=K):BCall X (.builtin "isinstance") (Ic K):=by subst h; exact ⟨uf⟩
def EM (K:Frag):R2:=fun x y H Q=>∃ l b xs zs,x=.ref l/\y=.ref b/\SqL K H l xs/\SqL K H b zs/\xs.length+zs.length<=sizeLine/\∀ p,H p=none->Q (.ref p) (upd H p (.lst (xs++zs)))
theorem zX:OpR X (binaryOp .Add) (EM X.K):=by
 intro pins s σ H x y v u Q I rx ry h
 obtain ⟨l,b,xs,zs,rfl,rfl,hH,hB,hz,q⟩:=h
 cases rx
 cases ry
 obtain ⟨its,r,⟨⟨cls,dd,data,sl⟩,n,ho,hc,hdd,hd⟩,_⟩:=I.list hH
 obtain ⟨its2,r2,⟨⟨cls2,dd2,data2,sl2⟩,n2,ho2,hc2,hdd2,hd2⟩,_⟩:=I.list hB
 dsimp only at hc hd hc2 hd2 hdd hdd2
 subst hc hd hc2 hd2 hdd hdd2
 have hl:=r.length
 have hl2:=r2.length
 refine concat_meets ⟨_,ho,rfl⟩ ⟨_,ho2,rfl⟩ noFill_list_add seq_list_add PySem.F.slot_list_add PySem.F.entry_list_add (PySem.F.args_list_add_2 _ _) (list_addW l b its.toArray its2.toArray n n2 none none sl sl2 (by simp; nofun)) ⟨ho,ho2,?_⟩
 have ea:its.toArray++its2.toArray=(its++its2).toArray:=by simp
 rw [ea]
 exact ⟨.ref _,_,I.lnew (t':=s.toks) (r.append r2) (by rw [aai]; nofun),rfl,q _ I.fresh⟩
def EN (K:Frag):R2:=fun x y H Q=>(∃ i j,x=.int i/\y=.int j/\Q (.int (i+j)) H)∨(∃ i j,x=.str i/\y=.str j/\i.length+j.length<=sizeLine/\Q (.str (i++j)) H)∨EM K x y H Q∨Dc K x y H Q
theorem ug (K:Frag)(h:X.K=K):BOp X (binaryOp .Add) (EN K):=by subst h; exact ⟨CS.or (mM.or (zX.or ym))⟩
theorem pZ:CallR X (.builtin "ord") (fun xs H Q=>∃ c:Nat,xs=[.str ⟨#[c]⟩]/\Q (.int c) H):=by
 intro pins s σ H xs us Q I r h
 obtain ⟨c,rfl,q⟩:=h
 obtain ⟨u,rfl,ru⟩:=du r
 obtain ⟨t,rfl⟩:=ru
 exact PySem.P.ord_of_char ⟨.int c,H,I.tok _,⟨_,rfl⟩,q⟩
def Jk:List V->Hp->VK->Prop:=fun xs H Q=>∃ c:Nat,xs=[.str ⟨#[c]⟩]/\Q (.int c) H
theorem EO:BCall X (.builtin "ord") Jk:=⟨pZ⟩
def tGU (K:Frag)(xs:List V):TE:=fun _ H Q=>∀ a,(∀ H',SqT K H' a xs)->Q (.ref a) H
theorem zY {K:Frag}    (h:Eb K X.mg x xs) (hg:X.env.kindOf x=some .globalImplicit) (hd:autoParam ((x == ("__debug__" : Str))=false) L2.aD._auto_1):BE X (.Name x pos) (tGU K xs):=by
 obtain ⟨a,e,hs⟩:=h
 exact ⟨fun pins s σ H Q I q=>wI (v:=.ref a) ⟨_,e,rfl⟩ hg hd pins s σ H Q I (q a hs)⟩
section
variable {K:Frag} 
theorem au (e:Same F H)(n:zu K F H P Q)(h:Den K F v d)(p:P (.fz d)):Q v H:=n _ v F H [] p (Pure.refl e) (.fz h) New.nil
theorem cg (e:Same F H)(n:zu K F H P Q)(h:Dens K F xs ds)(p:P (.fl ds)):∀ q,H q=none->Q (.ref q) (upd H q (.lst xs)):=fun q hq =>
 n _ (.ref q) F _ [q] p (Pure.new e hq) (.fl ad h) (New.one hq (e.free hq))
theorem lz (e:Same F H)(n:zu K F H P Q)(h:Dens K F xs ds)(p:P (.fz (.tup ds))):∀ q,H q=none->Q (.ref q) (upd H q (.tup xs)):=fun q hq =>
 n _ (.ref q) (upd F q (.tup xs)) _ [] p (Pure.frz e hq) (.fz (.tup ad (h.mono (bn (e.free hq))))) New.nil
theorem Id (hd:∀ F,Dens K F xs ds):EF K μ (tGU K xs) (fC (.gt ds)):=⟨fun {F Z H τ σ ρ A Q P} vw R h q a ha=>q _ _ _ F H A [] h (Same.refl _) R (.fz (.gt (ha F) (hd F))) Fresh.nil⟩
def aI0 (g:Int->Int->D):D->D->(OV->Prop)->Prop
 | .int i,.int j,P=>P (.fz (g i j))
 | _,_,_=>False
def aIC (C:Int->Int->Prop)(g:Int->Int->D):D->D->(OV->Prop)->Prop
 | .int i,.int j,P=>C i j/\P (.fz (g i j))
 | _,_,_=>False
theorem EQ (h:∀ F i j,Den K F (gV i j) (gD i j)):OpF K (rI0 gV) (aI0 gD):=⟨by
 intro F H x y d e Q P s hx hy f n
 cases d with
 | int i =>
  cases e with
  | int j =>
   exact ⟨_,_,hx.int_eq,hy.int_eq,au s n (h F _ _) f⟩
  | _=>exact False.elim f
 | _=>exact False.elim f⟩
theorem g0 {C:Int->Int->Prop}(h:∀ F i j,Den K F (gV i j) (gD i j)):OpF K (rI C gV) (aIC C gD):=⟨by
 intro F H x y d e Q P s hx hy f n
 cases d with
 | int i =>
  cases e with
  | int j =>
   exact ⟨_,_,hx.int_eq,hy.int_eq,f.1,au s n (h F _ _) f.2⟩
  | _=>exact False.elim f
 | _=>exact False.elim f⟩
theorem zZ:OpF K (rI0 fun i j=>.int (i - j)) (aI0 fun i j=>.int (i - j)):=EQ fun _ _ _=>.int _
theorem Aa:OpF K (rI CMul fun i j=>.int (i * j)) (aIC CMul fun i j=>.int (i * j)):=g0 fun _ _ _=>.int _
theorem uh:OpF K (rI Ci fun i j=>.int (i / j)) (aIC Ci fun i j=>.int (i / j)):=g0 fun _ _ _=>.int _
theorem Ab:OpF K (rI (fun _ j=>0 < j) fun i j=>.int (i % j)) (aIC (fun _ j=>0 < j) fun i j=>.int (i % j)):=g0 fun _ _ _=>.int _
theorem Ac:OpF K (rI Cj fun i j=>.int (i ^ j.toNat)) (aIC Cj fun i j=>.int (i ^ j.toNat)):=g0 fun _ _ _=>.int _
def g6 (pI:Int->Int->Bool)(pS:Str->Str->Bool):D->D->(OV->Prop)->Prop
 | .int i,.int j,P=>P (.fz (.bl (pI i j)))
 | .str i,.str j,P=>P (.fz (.bl (pS i j)))
 | _,_,_=>False
theorem Ad {pI:Int->Int->Bool}{pS:Str->Str->Bool}:OpF K (EG pI pS) (g6 pI pS):=⟨by
 intro F H x y d e Q P s hx hy f n
 cases d with
 | int i =>
  cases e with
  | int j =>
   exact .inl ⟨_,_,hx.int_eq,hy.int_eq,au s n (.bl _) f⟩
  | _=>exact False.elim f
 | str i =>
  cases e with
  | str j =>
   exact .inr ⟨_,_,hx.str_eq,hy.str_eq,au s n (.bl _) f⟩
  | _=>exact False.elim f
 | _=>exact False.elim f⟩
def gw:D->D->(OV->Prop)->Prop
 | .int i,.int j,P=>P (.fz (.int (i+j)))
 | .str i,.str j,P=>i.length+j.length<=sizeLine/\P (.fz (.str (i++j)))
 | .lst xs,.lst ys,P=>xs.length+ys.length<=sizeLine/\P (.fl (xs++ys))
 | .tup xs,.tup ys,P=>xs≠[]/\xs.length+ys.length<=sizeLine/\P (.fz (.tup (xs++ys)))
 | _,_,_=>False
theorem Ae:OpF K (EN K) gw:=⟨by
 intro F H x y d e Q P s hx hy f n
 cases d with
 | int i =>
  cases e with
  | int j =>
   exact .inl ⟨_,_,hx.int_eq,hy.int_eq,au s n (.int _) f⟩
  | _=>exact False.elim f
 | str i =>
  cases e with
  | str j =>
   exact .inr (.inl ⟨_,_,hx.str_eq,hy.str_eq,f.1,au s n (.str _) f.2⟩)
  | _=>exact False.elim f
 | lst ds =>
  cases e with
  | lst es =>
   obtain ⟨a,xs,rfl,h1,h2⟩:=hx.asL s
   obtain ⟨b,ys,rfl,h3,h4⟩:=hy.asL s
   exact .inr (.inr (.inl ⟨a,b,xs,ys,rfl,rfl,h1,h3,by rw [h2.length,h4.length]; exact f.1,cg s n (h2.append h4) f.2⟩))
  | _=>exact False.elim f
 | tup ds =>
  cases e with
  | tup es =>
   have hy':=hy
   obtain ⟨a,xs,rfl,h1,h2⟩:=hx.asT s
   obtain ⟨b,ys,rfl,h3,h4⟩:=hy.asT s
   refine .inr (.inr (.inr ⟨a,b,xs,ys,rfl,rfl,h1,h3,fun z=>f.1 ?_,by rw [h2.length,h4.length]; exact f.2.1,fun z=>?_,fun z=>lz s n (h2.append h4) f.2.2⟩))
   ·have:=h2.length; rw [z] at this; exact aau this.symm
   ·subst z
    cases h4
    have f2:=f.2.2
    rw [aaV] at f2
    cases hx with
    | fz hd=>exact au s n hd f2
  | _=>exact False.elim f
 | _=>exact False.elim f⟩
end
def cf (a b:Str):Bool:=!aV b a
theorem cY {a:Str}:cf a b=true↔¬ (b.cps.toList < a.cps.toList):=by unfold cf aV; simp
theorem gc (a b c:Str)(h1:cf a b=true)(h2:cf b c=true):cf a c=true:=by
 rw [cY] at *
 exact List.not_lt.mpr (List.le_trans (List.not_lt.mp h1) (List.not_lt.mp h2))
theorem kF (a b:Str):(cf a b || cf b a)=true:=by
 rw [Bool.or_eq_true,cY,cY]
 rcases List.le_total a.cps.toList b.cps.toList with h | h
 ·exact .inl (List.not_lt.mpr h)
 ·exact .inr (List.not_lt.mpr h)
theorem eA {a:Str}(h1:cf a b=true)(h2:cf b a=true):a=b:=by
 rw [cY] at *
 exact fO (List.le_antisymm (List.not_lt.mp h1) (List.not_lt.mp h2))
def cS (zs:List Str):List Str:=zs.mergeSort cf
theorem bc (zs:List Str):(cS zs).Perm zs:=List.mergeSort_perm zs _
theorem ci (zs:List Str):(cS zs).Pairwise fun a b=>cf a b=true:=List.pairwise_mergeSort gc kF zs
theorem cZ:∀ (p:Str) (l:List Str),risingS p l=true->(p::l).Pairwise fun a b=>cf a b=true
 | p,[],_=>List.pairwise_singleton _ _
 | p,x::r,h=>by
  simp only [risingS,Bool.and_eq_true] at h
  have ih:=cZ x r h.2
  have hpx:cf p x=true:=by
   unfold cf aV
   rw [← ltCps_eq]; exact h.1
  refine List.pairwise_cons.mpr ⟨fun y hy=>?_,ih⟩
  rcases List.mem_cons.mp hy with rfl | hy
  ·exact hpx
  ·exact gc _ _ _ hpx (List.rel_of_pairwise_cons ih hy)
theorem b4:∀ (l:List Str),sortedS l=true->l.Pairwise fun a b=>cf a b=true
 | [],_=>.nil
 | x::r,h=>cZ x r h
theorem eR (hp:ss.Perm zs)(hs:sortedS ss=true):ss=cS zs :=
 List.Perm.eq_of_pairwise (le:=fun a b=>cf a b=true) (fun a b _ _ h1 h2=>eA h1 h2) (b4 ss hs) (ci zs) (hp.trans (bc zs).symm)
theorem c4 (hp:ss.Perm zs)(hs:ss.Pairwise fun a b=>cf a b=true):ss=cS zs :=
 List.Perm.eq_of_pairwise (le:=fun a b=>cf a b=true) (fun a b _ _ h1 h2=>eA h1 h2) hs (ci zs) (hp.trans (bc zs).symm)
section
open PySem.Calls
variable {prog:Program}  {A:Around} {E:Value->Shared->Prop}  {T:String} {r d:Addr}  {P:Nat->Value->Prop} {OK:Heap->Prop}
theorem ER {R:List Value->Shared->Prop}(S:PySem.W.KdlSrc prog w T r d n P OK)(calm:A.handled=none)(ok:OK s.heap)(few:n<=sizeLine)
  (go:∀ (g:Heap) (tk:Nat) (acc:Array Value),(∀ b o,s.heap.get? b=some o->g.get? b=some o)->s.heap.objs.size < g.objs.size->ItemsOf P acc n->R acc.toList { s with heap:=g,toks:=tk }) :
  wpAny (model prog w) A (collect (.ref r)) R E s:=by
 obtain ⟨l1,l2⟩:=S.there _ ok
 unfold collect
 refine aaa (wpAny_runValue (codeAny_builtin entry_proto_collect' ?_)); rw [aaE PySem.F.plain_proto_collect _]
 show wpAny _ A.in1 (newList [] >>= fun x=>again (.builtin "list.__iadd__" ⟨[x,.ref r],[]⟩)) _ _ s
 refine aaa (aaI (aac ⟨plainId_quiet PySem.F.plain_list_iadd _,codeAny_builtin entry_list_iadd' ?_⟩)); rw [aaE PySem.F.plain_list_iadd _]
 have top:(s.heap.push { cls:=.type "list", data:=.seq ([]:List Value).toArray }).get? s.heap.objs.size=some { cls:=.type "list", data:=.seq #[] }:=Heap.get?_push_size _ rfl
 show wpAny _ A.in1 (Builtin.List.listExtendWith (.ref s.heap.objs.size) (.ref r) (.ref s.heap.objs.size)) _ _ _
 have main:=PySem.W.kdl_extend (A:=A) (s:={ s with heap:=s.heap.push { cls:=.type "list", data:=.seq ([]:List Value).toArray } })
  (R:=fun (q:Result) (s':Shared)=>∃ (g:Heap) (tk:Nat) (acc:Array Value) (c:Nat),q=.ok (.ret (.ref s.heap.objs.size))/\s'={ s with heap:=g,toks:=tk } /\
   (∀ b o,s.heap.get? b=some o->g.get? b=some o)/\g.get? s.heap.objs.size=some { cls:=.type "list", dict:=none,data:=.seq acc c,slots:=#[] }/\ItemsOf P acc n)
  S calm (S.keep _ _ ok fun b _ o e=>Heap.get?_push_of_some _ e) s.heap.objs.size (Nat.ne_of_gt l1) (Nat.ne_of_gt l2) (.ref s.heap.objs.size) 0 top
  (fun g tk acc c hk hS hacc=>⟨g,tk,acc,c,rfl,rfl,fun b o e=>hk b o (aah (aaf e)) (Heap.get?_push_of_some _ e),hS,hacc⟩) few
 refine abh main (fun z s' x=>?_) fun e s' x=>?_
 ·cases z with
  | done f =>
   obtain ⟨g,tk,acc,c,e,rfl,hk,hS,hacc⟩:=x
   cases e
   exact aaa (wpAny_load hS (aac (go g tk acc hk (aaf hS) hacc)))
  | again c₁ =>
   refine ⟨x.1,codeAny_mono x.2 fun q s₂ y=>?_⟩
   obtain ⟨g,tk,acc,c,rfl,rfl,hk,hS,hacc⟩:=y
   exact aaa (wpAny_load hS (aac (go g tk acc hk (aaf hS) hacc)))
 ·obtain ⟨_,_,_,_,e',_⟩:=x
  cases e'
end
theorem jB (hc:X.calm=true):CallR X (.builtin "sorted") (fun xs H Q=>∃ p kvs zs,xs=[.ref p]/\Rd H p (.dK kvs)/\kvs.map (·.1)=zs.map Sum.inr/\kvs.length < 64/\∀ q ss,H q=none->ss.Perm zs->sortedS ss=true->Q (.ref q) (upd H q (.lst (ss.map .str)))):=by
 intro pins s σ H xs us Q I r h
 obtain ⟨p,kvs,zs,rfl,hq,hz,h64,q⟩:=h
 obtain ⟨u,rfl,rx⟩:=du r
 cases rx
 obtain ⟨hsz,hS,vs,rv,m⟩:kvs.length<=sizeLine/\(p == sysModules)=false/\∃ vs,KV kvs vs/\s.heap.DictOf (ai X.prog X.w) p vs:=hq.ok I.hok
 obtain ⟨ep,hat⟩:=m.dictAt
 have hl:kvs.length=vs.length:=aa1 rv
 refine Calls.call_function_entry kind_sorted plain_sorted entry_sorted (args_sorted1 _) ?_
 unfold Builtin.«sorted»
 refine aaa (m:=checkCount "sorted" 1 1 _) (aac ?_)
 refine aaa (ER (PySem.W.kdl_dict (knd:=ai X.prog X.w) (kvs:=vs) (ep:=ep) hS) (by simpa using I.ok.hd hc) hat (by rw [← hl]; exact hsz) fun h' tk acc hk hgr hacc=>?_)
 have hal:acc.toList.length=kvs.length:=by rw [Array.length_toList,hacc.1,hl]
 have hSA:StrsAre acc.toList zs:=by
  have hget:∀ (j:Nat) v,acc.toList[j]?=some v->∃ k x,vs[j]?=some (k,x)/\ik k v=true:=fun j v e=>hacc.2 j v (by rw [← Array.getElem?_toList]; exact e)
  clear hacc hk q hq m hat
  generalize acc.toList=us at hal hget
  clear hsz hl h64 I r
  induction rv generalizing us zs with
  | nil =>
   cases zs with
   | nil=>cases us with | nil=>exact .nil | cons a b=>simp at hal
   | cons z zs=>simp at hz
  | cons h1 h2 ih =>
   cases zs with
   | nil=>simp at hz
   | cons z zs =>
    cases us with
    | nil=>simp at hal
    | cons a b =>
     simp only [List.map_cons,List.cons.injEq] at hz
     obtain ⟨k,x,e1,e2⟩:=hget 0 a rfl
     simp only [List.getElem?_cons_zero,Option.some.injEq] at e1
     subst e1
     have e3:_=k:=h1.1
     rw [← e3,hz.1] at e2
     rcases aJ e2 with ⟨i,t,q,_⟩ | ⟨z',t,q,rfl⟩
     ·cases q
     ·cases q
      exact .cons _ t (ih zs hz.2 b (by exists hal) fun j v e=>by simpa using hget (j+1) v (by exists e))
 refine aaa (wpAny_newList ?_ (hsz:=by rw [hal]; exact hsz))
 have hoL:(h'.push (seqObj "list" acc.toList.toArray 0)).get? h'.objs.size=some (seqObj "list" acc.toList.toArray 0):=Heap.get?_push_size _ rfl
 have hle:s.heap.objs.size<=h'.objs.size:=abi hgr
 refine aaa (aaD (aaF slot_list_sort ⟨_,hoL,rfl⟩ entry_list_sort (list_sort_treeK strKind_oneLt hoL hSA.keysOf (fun v₁ v₂ af e=>keyKind_strs (by rw [← e]; exact hSA)) (by rw [hal]; exact h64) fun st' a1 a2=>⟨_,rfl,?_⟩) (args_list_sort _)))
 obtain ⟨ss',b1,b2,b3⟩:=sorted_out_str hSA a1 a2
 obtain ⟨e',he'⟩:=sortedHeap_at (out:=(arrOf st').map (·.2)) hoL
 have hlz:ss'.length=kvs.length:=by rw [b2.length_eq]; have:=congrArg List.length hz; simpa using this.symm
 refine aac ⟨_,rfl,.ref h'.objs.size,_,I.laid (t':=tk) (o:=.lst (ss'.map .str)) (fun b ob hb=>?_) hle ⟨by rw [List.length_map,hlz]; exact hsz,((arrOf st').map (·.2)).toList,e',cU b1,by rw [abz]; exact he'⟩,rfl,q h'.objs.size ss' (I.hok.fresh hle) b2 b3⟩
 have hbl:b < h'.objs.size:=aan (aaf hb) hle
 rw [sortedHeap_old (aah hbl) (by rw [size_push']; exact aaJ hbl)]
 exact Heap.get?_push_of_some _ (hk b ob hb)
section
variable {K:Frag} 
def Af (d e:D):Prop:=okD d=true/\okD e=true/\dep (wR d)<=40
def aEq:D->D->(OV->Prop)->Prop:=fun d e P=>Af d e/\P (.fz (.bl (dEq d e)))
def aNe:D->D->(OV->Prop)->Prop:=fun d e P=>Af d e/\P (.fz (.bl (!dEq d e)))
theorem ES:OpF K (GX K) aEq:=⟨fun {F H x y d e Q P} s hx hy f n=>.inr ⟨_,_,(hx.den s).deep f.1.1,(hy.den s).deep f.1.2.1,f.1.2.2,au s n (.bl _) f.2⟩⟩
theorem ET:OpF K (GY K) aNe:=⟨fun {F H x y d e Q P} s hx hy f n=>.inr ⟨_,_,(hx.den s).deep f.1.1,(hy.den s).deep f.1.2.1,f.1.2.2,au s n (.bl _) f.2⟩⟩
def vOf:D->V
 | .non=>.non
 | .bl b=>.bl b
 | .int i=>.int i
 | .str z=>.str z
 | _=>.non
def flD:D->Bool
 | .non=>true
 | .bl _=>true
 | .int _=>true
 | .str _=>true
 | _=>false
theorem Den.flat (h:Den K F v d)(f:flD d=true):v=vOf d/\fI v=true:=by
 cases h <;> first | exact ⟨rfl,rfl⟩ | exact (Bool.false_ne_true f).elim
theorem Dens.flat {v:List V}{d:List D}(h:Dens K F v d)(f:d.all flD=true):v=d.map vOf/\v.all fI=true:=by
 induction d generalizing v with
 | nil=>cases h; exact ⟨rfl,rfl⟩
 | cons d ds ih =>
  cases h with
  | cons h t =>
   rw [aaK,Bool.and_eq_true] at f
   obtain ⟨h1,h2⟩:=h.flat f.1
   obtain ⟨h3,h4⟩:=ih t f.2
   exact ⟨by rw [List.map_cons,← h1,← h3],by rw [aaK,h2,h4]; rfl⟩
theorem Acc.flat (h:Acc K F H v d)(f:flD d=true):v=vOf d/\fI v=true:=by
 cases h with
 | fz h=>exact h.flat f
 | lst _ _=>exact (Bool.false_ne_true f).elim
 | dct _ _ _=>exact (Bool.false_ne_true f).elim
 | dt _ _ _=>exact (Bool.false_ne_true f).elim
def inD (d:D)(ds:List D):Bool:=inV (vOf d) (ds.map vOf)
def nv (ks:List Key)(k:Key):Bool:=ks.any fun x=>decide (x=k)
def Ag (ks:List (List Key))(k:List Key):Bool:=ks.any fun x=>decide (x=k)
def gG:List D->Option (List Key)
 | []=>some []
 | d::ds=>match kg d with
  | some k=>match gG ds with
   | some ks=>some (k::ks)
   | none=>none
  | none=>none
theorem uk (h:Dens K F xs ds)(e:gG ds=some k):xs=k.map kV:=by
 induction ds generalizing xs k with
 | nil=>cases h; cases e; rfl
 | cons d ds ih =>
  cases h with
  | cons h t =>
   unfold gG at e
   cases e1:kg d with
   | none=>rw [e1] at e; cases e
   | some a =>
    cases e2:gG ds with
    | none=>rw [e1,e2] at e; cases e
    | some b =>
     rw [e1,e2] at e
     cases e
     rw [List.map_cons,← ih t e2,cX (F:=F) (H:=F) (.fz h) e1]
theorem iC (s:Same F H)(h:Acc K F H v (.tup ds))(e:gG ds=some k):∃ b,v=.ref b/\H b=some (.tup (k.map kV)):=by
 obtain ⟨b,xs,rfl,h1,h2⟩:=h.asTH s
 exact ⟨b,rfl,by rw [← uk h2 e]; exact h1⟩
def bIn (d:D)(R:Bool->Prop):D->Prop
 | .str y=>(match d with
  | .str x=>(match x.cps.toList with
   | [c]=>R (decide (c ∈ y.cps.toList))
   | _=>False)
  | _=>False)
 | .lst ds=>(flD d=true/\ds.all flD=true)/\R (inD d ds)
 | .tup ds=>(flD d=true/\ds.all flD=true)/\R (inD d ds)
 | .dct ks _=>(match kg d with
  | some k=>R (nv ks k)
  | none=>False)
 | .gt ds=>(flD d=true/\ds.all flD=true)/\R (inD d ds)
 | .dt ks _=>(match d with
  | .tup kd=>(match gG kd with
   | some k=>R (Ag ks k)
   | none=>False)
  | _=>False)
 | _=>False
def aIn (d e:D)(P:OV->Prop):Prop:=bIn d (fun b=>P (.fz (.bl b))) e
def lA (d e:D)(P:OV->Prop):Prop:=bIn d (fun b=>P (.fz (.bl (!b)))) e
theorem wU {c:Nat}(h:x.cps.toList=[c]):x=⟨#[c]⟩:=fO h
theorem lB {k:Key}(h:ys.map (·.1)=ks):(eM ys k).isSome=nv ks k:=by
 rw [← e9,nv,← h,List.any_map]; rfl
theorem ul {ys:List (List Key×V)}{ks:List (List Key)}(h:ys.map (·.1)=ks):(eM ys k).isSome=Ag ks k:=by
 rw [← e9,Ag,← h,List.any_map]; rfl
theorem wV {x y:V}{R:Bool->Prop}(s:Same F H)(hx:Acc K F H x d)(hy:Acc K F H y e)(f:bIn d R e)(n:∀ b,R b->Q (.bl b) H):Ib K x y H Q:=by
 cases e with
 | str z =>
  cases d with
  | str u =>
   unfold bIn at f; dsimp only at f
   generalize hc:u.cps.toList=l at f
   cases l with
   | nil=>exact False.elim f
   | cons c r =>
    cases r with
    | nil=>exact .inl (.inl ⟨c,_,by rw [hx.str_eq,wU hc],hy.str_eq,n _ f⟩)
    | cons=>exact False.elim f
  | _=>exact False.elim f
 | lst ds =>
  obtain ⟨a,xs,rfl,h1,h2⟩:=hy.asL s
  obtain ⟨e1,e2⟩:=hx.flat f.1.1
  obtain ⟨e3,e4⟩:=h2.flat f.1.2
  subst e1 e3
  exact .inl (.inr ⟨a,_,rfl,.inl h1,e2,e4,n _ f.2⟩)
 | tup ds =>
  obtain ⟨a,xs,rfl,h1,h2⟩:=hy.asT s
  obtain ⟨e1,e2⟩:=hx.flat f.1.1
  obtain ⟨e3,e4⟩:=h2.flat f.1.2
  subst e1 e3
  exact .inl (.inr ⟨a,_,rfl,.inr h1,e2,e4,n _ f.2⟩)
 | dct ks vs =>
  unfold bIn at f; dsimp only at f
  generalize hk:kg d=l at f
  cases l with
  | none=>exact False.elim f
  | some k =>
   obtain ⟨a,ys,rfl,h1,h2,h3⟩:=hy.asD s
   refine .inr ⟨a,eM ys k,rfl,by rw [cX hx hk]; exact DGet.kR h1,?_⟩
   rw [lB h2]
   exact n _ f
 | gt ds =>
  obtain ⟨a,xs,rfl,h1,h2⟩:=hy.asG s
  obtain ⟨e1,e2⟩:=hx.flat f.1.1
  obtain ⟨e3,e4⟩:=h2.flat f.1.2
  subst e1 e3
  exact .inl (.inr ⟨a,_,rfl,.inr h1,e2,e4,n _ f.2⟩)
 | dt ks vs =>
  cases d with
  | tup kd =>
   unfold bIn at f; dsimp only at f
   generalize hk:gG kd=l at f
   cases l with
   | none=>exact False.elim f
   | some k =>
    obtain ⟨a,ys,rfl,h1,h2,h3⟩:=hy.asDT s
    obtain ⟨b,rfl,h4⟩:=iC s hx hk
    refine .inr ⟨a,eM ys k,rfl,.inr ⟨ys,k,b,h1,rfl,h4,rfl⟩,?_⟩
    rw [ul h2]
    exact n _ f
  | _=>exact False.elim f
 | _=>exact False.elim f
theorem EU:OpF K (Ib K) aIn:=⟨fun s hx hy f n=>wV s hx hy f fun _ q=>au s n (.bl _) q⟩
theorem p8:OpF K (pX K) lA:=⟨by
 intro F H x y d e Q P s hx hy f n
 have h:=wV (Q:=fun v H'=>∀ b,v=.bl b->Q (.bl (!b)) H') s hx hy f fun b q c e=>by cases e; exact au s n (.bl _) q
 obtain (⟨c,z,e1,e2,q⟩ | ⟨a,xs,e1,e2,e3,e4,q⟩) | ⟨a,o,e1,e2,q⟩:=h
 ·exact .inl (.inl ⟨c,z,e1,e2,q _ rfl⟩)
 ·exact .inl (.inr ⟨a,xs,e1,e2,e3,e4,q _ rfl⟩)
 ·exact .inr ⟨a,o,e1,e2,q _ rfl⟩⟩
def dF (ks:List Key)(ds:List D)(k:Key):Option D:=((ks.zip ds).find? fun kd=>decide (kd.1=k)).map (·.2)
def ny (ks:List (List Key))(ds:List D)(k:List Key):Option D:=((ks.zip ds).find? fun kd=>decide (kd.1=k)).map (·.2)
def aIx:D->D->(OV->Prop)->Prop
 | .lst ds,.int i,P=>(match atI ds i with
  | some d=>P (.fz d)
  | none=>False)
 | .tup ds,.int i,P=>(match atI ds i with
  | some d=>P (.fz d)
  | none=>False)
 | .str z,.int i,P=>z.length<=sizeLine/\(match atI z.cps.toList i with
  | some c=>P (.fz (.str ⟨#[c]⟩))
  | none=>False)
 | .dct ks ds,k,P=>(match kg k with
  | some k=>(match dF ks ds k with
   | some d=>P (.fz d)
   | none=>False)
  | none=>False)
 | .dt ks ds,.tup kd,P=>(match gG kd with
  | some k=>(match ny ks ds k with
   | some d=>P (.fz d)
   | none=>False)
  | none=>False)
 | _,_,_=>False
theorem Dens.atI {i:Int}(h:Dens K F xs ds)(e:L2.atI ds i=some d):∃ x,L2.atI xs i=some x/\Den K F x d:=by
 unfold L2.atI at e ⊢
 rw [h.length]
 cases q:ixN ds.length i with
 | none=>rw [q] at e; cases e
 | some j=>rw [q] at e; exact h.get e
theorem jC {κ:Type}[DecidableEq κ]{ys:List (κ×V)}{ks:List κ}{k:κ}(hk:ys.map (·.1)=ks)(h:Dens K F (ys.map (·.2)) ds)(e:((ks.zip ds).find? fun kd=>decide (kd.1=k)).map (·.2)=some d):∃ v,eM ys k=some v/\Den K F v d:=by
 subst hk
 induction ys generalizing ds with
 | nil=>simp at e
 | cons y ys ih =>
  cases h with
  | @cons _ d1 _ ds h1 h2 =>
   by_cases hy:y.1=k
   ·rw [e7 hy]
    simp only [List.map_cons,List.zip_cons_cons,List.find?_cons,hy,decide_true,Option.map_some,Option.some.injEq] at e
    subst e
    exact ⟨y.2,rfl,h1⟩
   ·rw [e8 hy]
    simp only [List.map_cons,List.zip_cons_cons,List.find?_cons,hy,decide_false] at e
    exact ih h2 e
theorem iD {k:Key}(hk:ys.map (·.1)=ks)(h:Dens K F (ys.map (·.2)) ds)(e:dF ks ds k=some d):∃ v,eM ys k=some v/\Den K F v d:=jC hk h e
theorem p9 {ys:List (List Key×V)}{ks:List (List Key)}(hk:ys.map (·.1)=ks)(h:Dens K F (ys.map (·.2)) ds)(e:ny ks ds k=some d):∃ v,eM ys k=some v/\Den K F v d:=jC hk h e
theorem EV:OpF K (wT K) aIx:=⟨by
 intro F H x y d e Q P s hx hy f n
 cases d with
 | lst ds =>
  cases e with
  | int i =>
   unfold aIx at f
   dsimp only at f
   cases hd:L2.atI ds i with
   | none=>rw [hd] at f; exact False.elim f
   | some d =>
    rw [hd] at f
    obtain ⟨a,xs,rfl,h1,h2⟩:=hx.asL s
    obtain ⟨v,h3,h4⟩:=h2.atI hd
    exact .inl (.inl ⟨a,xs,_,v,rfl,hy.int_eq,h1,h3,au s n h4 f⟩)
  | _=>exact False.elim f
 | tup ds =>
  cases e with
  | int i =>
   unfold aIx at f
   dsimp only at f
   cases hd:L2.atI ds i with
   | none=>rw [hd] at f; exact False.elim f
   | some d =>
    rw [hd] at f
    obtain ⟨a,xs,rfl,h1,h2⟩:=hx.asT s
    obtain ⟨v,h3,h4⟩:=h2.atI hd
    exact .inl (.inr (.inl ⟨a,xs,_,v,rfl,hy.int_eq,h1,h3,au s n h4 f⟩))
  | _=>exact False.elim f
 | str z =>
  cases e with
  | int i =>
   obtain ⟨f1,f⟩:=f
   cases hc:L2.atI z.cps.toList i with
   | none=>rw [hc] at f; exact False.elim f
   | some c =>
    rw [hc] at f
    exact .inl (.inr (.inr ⟨_,_,c,hx.str_eq,hy.int_eq,f1,hc,au s n (.str _) f⟩))
  | _=>exact False.elim f
 | dct ks ds =>
  unfold aIx at f
  dsimp only at f
  cases hk:kg e with
  | none=>rw [hk] at f; exact False.elim f
  | some k =>
   rw [hk] at f
   dsimp only at f
   cases hd:dF ks ds k with
   | none=>rw [hd] at f; exact False.elim f
   | some d =>
    rw [hd] at f
    obtain ⟨a,ys,rfl,h1,h2,h3⟩:=hx.asD s
    obtain ⟨v,h4,h5⟩:=iD h2 h3 hd
    exact .inr ⟨a,v,rfl,by rw [cX hy hk,← h4]; exact DGet.kR h1,au s n h5 f⟩
 | dt ks ds =>
  cases e with
  | tup kd =>
   unfold aIx at f
   dsimp only at f
   cases hk:gG kd with
   | none=>rw [hk] at f; exact False.elim f
   | some k =>
    rw [hk] at f
    dsimp only at f
    cases hd:ny ks ds k with
    | none=>rw [hd] at f; exact False.elim f
    | some d =>
     rw [hd] at f
     obtain ⟨a,ys,rfl,h1,h2,h3⟩:=hx.asDT s
     obtain ⟨b,rfl,h6⟩:=iC s hy hk
     obtain ⟨v,h4,h5⟩:=p9 h2 h3 hd
     exact .inr ⟨a,v,rfl,.inr ⟨ys,k,b,h1,rfl,h6,h4.symm⟩,au s n h5 f⟩
  | _=>exact False.elim f
 | _=>exact False.elim f⟩
def lD (n:Nat)(lo hi:Option Int):Prop:=¬ (HT.sIx n 0 lo=0/\HT.sIx n n hi=n)
def iE (z:Str)(lo hi:Option Int):Str:=⟨(gv z.cps.toList lo hi).toArray⟩
def aSl:D->Option Int->Option Int->(OV->Prop)->Prop
 | .str z,lo,hi,P=>z.length<=sizeLine/\P (.fz (.str (iE z lo hi)))
 | .lst ds,lo,hi,P=>P (.fl (gv ds lo hi))
 | .tup ds,lo,hi,P=>lD ds.length lo hi/\P (.fz (.tup (gv ds lo hi)))
 | _,_,_,_=>False
theorem Dens.cut {lo hi:Option Int}(h:Dens K F xs ds):Dens K F (gv xs lo hi) (gv ds lo hi):=by
 unfold gv
 rw [h.length]
 exact (h.drop _).take _
theorem iF:SlF K (Du K) aSl:=⟨by
 intro F H x d lo hi Q P s hx f n
 cases d with
 | str z =>
  refine .inl ⟨_,hx.str_eq,f.1,fun y hy=>?_⟩
  have e:y=iE z lo hi:=fO (hy.trans (by simp [iE]))
  rw [e]
  exact au s n (.str _) f.2
 | lst ds =>
  obtain ⟨a,xs,rfl,h1,h2⟩:=hx.asL s
  exact .inr (.inl ⟨a,xs,rfl,h1,cg s n h2.cut f⟩)
 | tup ds =>
  obtain ⟨a,xs,rfl,h1,h2⟩:=hx.asT s
  exact .inr (.inr ⟨a,xs,rfl,h1,by rw [h2.length]; exact f.1,lz s n h2.cut f.2⟩)
 | _=>exact False.elim f⟩
def eT:List D->(OV->Prop)->Prop
 | [.str z],P=>z.length<=sizeLine/\P (.fz (.int z.length))
 | [.lst ds],P=>P (.fz (.int ds.length))
 | [.tup ds],P=>P (.fz (.int ds.length))
 | [.dct ks _],P=>P (.fz (.int ks.length))
 | _,_=>False
theorem EW:CallF K (Cn K) eT:=⟨by
 intro F H xs ds Q P s ha f n
 cases ds with
 | nil=>exact False.elim f
 | cons d tl =>
 cases d with
 | str z =>
  cases tl with
  | cons _ _=>exact False.elim f
  | nil =>
  obtain ⟨x,rfl,a⟩:=bT ha
  exact .inl ⟨_,by rw [a.str_eq],f.1,au s n (.int _) f.2⟩
 | lst ds =>
  cases tl with
  | cons _ _=>exact False.elim f
  | nil =>
  obtain ⟨x,rfl,a⟩:=bT ha
  obtain ⟨p,ys,rfl,h1,h2⟩:=a.asL s
  exact .inr (.inl ⟨p,ys,rfl,.inl h1,by rw [h2.length]; exact au s n (.int _) f⟩)
 | tup ds =>
  cases tl with
  | cons _ _=>exact False.elim f
  | nil =>
  obtain ⟨x,rfl,a⟩:=bT ha
  obtain ⟨p,ys,rfl,h1,h2⟩:=a.asT s
  exact .inr (.inl ⟨p,ys,rfl,.inr h1,by rw [h2.length]; exact au s n (.int _) f⟩)
 | dct ks es =>
  cases tl with
  | cons _ _=>exact False.elim f
  | nil =>
  obtain ⟨x,rfl,a⟩:=bT ha
  obtain ⟨p,ys,rfl,h1,h2,h3⟩:=a.asD s
  subst h2
  have f:P (.fz (.int (ys.map (·.1)).length)):=f
  rw [List.length_map] at f
  exact .inr (.inr ⟨p,ys,rfl,h1,au s n (.int _) f⟩)
 | _=>exact False.elim f⟩
def Ie:List D->(OV->Prop)->Prop
 | [.int i,.int j],P=>P (.fz (.int (if j > i then j else i)))
 | _,_=>False
def Jl:List D->(OV->Prop)->Prop
 | [.int i,.int j],P=>P (.fz (.int (if j < i then j else i)))
 | _,_=>False
theorem EX:CallF K HH Ie:=⟨by
 intro F H xs ds Q P s ha f n
 cases ds with
 | nil=>exact False.elim f
 | cons d tl =>
 cases d with
 | int i =>
  cases tl with
  | nil=>exact False.elim f
  | cons e tl =>
  cases e with
  | int j =>
   cases tl with
   | cons _ _=>exact False.elim f
   | nil =>
   obtain ⟨x,y,rfl,a,b⟩:=lu ha
   exact ⟨_,_,by rw [a.int_eq,b.int_eq],au s n (.int _) f⟩
  | _=>exact False.elim f
 | _=>exact False.elim f⟩
theorem EY:CallF K HI Jl:=⟨by
 intro F H xs ds Q P s ha f n
 cases ds with
 | nil=>exact False.elim f
 | cons d tl =>
 cases d with
 | int i =>
  cases tl with
  | nil=>exact False.elim f
  | cons e tl =>
  cases e with
  | int j =>
   cases tl with
   | cons _ _=>exact False.elim f
   | nil =>
   obtain ⟨x,y,rfl,a,b⟩:=lu ha
   exact ⟨_,_,by rw [a.int_eq,b.int_eq],au s n (.int _) f⟩
  | _=>exact False.elim f
 | _=>exact False.elim f⟩
def cIs:List D->(OV->Prop)->Prop
 | [d,.ty T],P=>(zW (tyD d)=true/\zW T=true)/\P (.fz (.bl (isT (tyD d) T)))
 | _,_=>False
theorem Ig:CallF K (Ic K) cIs:=⟨by
 intro F H xs ds Q P s ha f n
 cases ds with
 | nil=>exact False.elim f
 | cons d ds =>
 cases ds with
 | nil=>exact False.elim f
 | cons e ds =>
 cases e with
 | ty T =>
  cases ds with
  | cons _ _=>exact False.elim f
  | nil =>
  obtain ⟨x,y,rfl,a,b⟩:=lu ha
  exact ⟨x,_,_,by rw [b.ty_eq],a.den s,f.1.1,f.1.2,au s n (.bl _) f.2⟩
 | _=>exact False.elim f⟩
def eY:List D->Option (List Bool)
 | []=>some []
 | .bl b::ds=>(eY ds).map (b::·)
 | _::_=>none
theorem iG:∀ {ds:List D} {bs:List Bool},eY ds=some bs->ds=bs.map .bl
 | [],_,h=>by simp only [eY,Option.some.injEq] at h; subst h; rfl
 | d::ds,bs,h=>by
  cases d <;> simp [eY] at h
  obtain ⟨cs,h1,rfl⟩:=h
  rw [iG h1]; rfl
theorem jD:∀ bs:List Bool,eY (bs.map .bl)=some bs
 | []=>rfl
 | b::bs=>by rw [List.map_cons,eY,jD bs]; rfl
def um:List D->(OV->Prop)->Prop
 | [.lst ds],P=>(match eY ds with
  | some bs=>P (.fz (.bl (bs.all id)))
  | none=>False)
 | _,_=>False
def G1:List D->(OV->Prop)->Prop
 | [.lst ds],P=>(match eY ds with
  | some bs=>P (.fz (.bl (bs.any id)))
  | none=>False)
 | _,_=>False
theorem EZ:CallF K (GV K) um:=⟨by
 intro F H xs ds Q P s ha f n
 cases ds with
 | nil=>exact False.elim f
 | cons d tl =>
 cases d with
 | lst ds =>
  cases tl with
  | cons _ _=>exact False.elim f
  | nil =>
  obtain ⟨x,rfl,a⟩:=bT ha
  obtain ⟨p,ys,rfl,h1,h2⟩:=a.asL s
  unfold um at f
  dsimp only at f
  cases hb:eY ds with
  | none=>rw [hb] at f; exact False.elim f
  | some bs =>
   rw [hb] at f
   rw [iG hb] at h2
   exact ⟨p,bs,rfl,by rw [← h2.bls_eq]; exact h1,au s n (.bl _) f⟩
 | _=>exact False.elim f⟩
theorem E1:CallF K (GW K) G1:=⟨by
 intro F H xs ds Q P s ha f n
 cases ds with
 | nil=>exact False.elim f
 | cons d tl =>
 cases d with
 | lst ds =>
  cases tl with
  | cons _ _=>exact False.elim f
  | nil =>
  obtain ⟨x,rfl,a⟩:=bT ha
  obtain ⟨p,ys,rfl,h1,h2⟩:=a.asL s
  unfold G1 at f
  dsimp only at f
  cases hb:eY ds with
  | none=>rw [hb] at f; exact False.elim f
  | some bs =>
   rw [hb] at f
   rw [iG hb] at h2
   exact ⟨p,bs,rfl,by rw [← h2.bls_eq]; exact h1,au s n (.bl _) f⟩
 | _=>exact False.elim f⟩
def wW:Key->D
 | .inl i=>.int i
 | .inr z=>.str z
theorem ge {F:Hp}:∀ (ks:List Key),Dens K F (ks.map kV) (ks.map wW)
 | []=>.nil
 | .inl i::ks=>.cons (.int i) (ge ks)
 | .inr z::ks=>.cons (.str z) (ge ks)
def Ah:List D->(OV->Prop)->Prop
 | [.lst ds],P=>P (.fl ds)
 | [.tup ds],P=>P (.fl ds)
 | [.dct ks _],P=>P (.fl (ks.map wW))
 | _,_=>False
theorem Ai:CallF K (pD K) Ah:=⟨by
 intro F H xs ds Q P s ha f n
 cases ds with
 | nil=>exact False.elim f
 | cons d tl =>
 cases d with
 | lst ds =>
  cases tl with
  | cons _ _=>exact False.elim f
  | nil =>
  obtain ⟨x,rfl,a⟩:=bT ha
  obtain ⟨p,ys,rfl,h1,h2⟩:=a.asL s
  exact pE h1 (cg s n h2 f)
 | tup ds =>
  cases tl with
  | cons _ _=>exact False.elim f
  | nil =>
  obtain ⟨x,rfl,a⟩:=bT ha
  obtain ⟨p,ys,rfl,h1,h2⟩:=a.asT s
  exact pF h1 (cg s n h2 f)
 | dct ks es =>
  cases tl with
  | cons _ _=>exact False.elim f
  | nil =>
  obtain ⟨x,rfl,a⟩:=bT ha
  obtain ⟨p,ys,rfl,h1,h2,h3⟩:=a.asD s
  refine nc h1 (cg s n ?_ f)
  have e:(ys.map fun kv=>kV kv.1)=(ys.map (·.1)).map kV:=by rw [aat]; rfl
  rw [e,h2]
  exact ge _
 | _=>exact False.elim f⟩
def cy:List D->Option (List Str)
 | []=>some []
 | .str z::ds=>(cy ds).map (z::·)
 | _::_=>none
theorem c5:∀ {ds:List D} {zs:List Str},cy ds=some zs->ds=zs.map .str
 | [],_,h=>by simp only [cy,Option.some.injEq] at h; subst h; rfl
 | d::ds,bs,h=>by
  cases d <;> simp [cy] at h
  obtain ⟨cs,h1,rfl⟩:=h
  rw [c5 h1]; rfl
theorem g7:∀ zs:List Str,cy (zs.map .str)=some zs
 | []=>rfl
 | b::bs=>by rw [List.map_cons,cy,g7 bs]; rfl
def cH:List Key->Option (List Str)
 | []=>some []
 | .inr z::ks=>(cH ks).map (z::·)
 | .inl _::_=>none
theorem g8:∀ {ds:List Key} {zs:List Str},cH ds=some zs->ds=zs.map Sum.inr
 | [],_,h=>by simp only [cH,Option.some.injEq] at h; subst h; rfl
 | d::ds,bs,h=>by
  cases d <;> simp [cH] at h
  obtain ⟨cs,h1,rfl⟩:=h
  rw [g8 h1]; rfl
theorem gf:∀ zs:List Str,cH (zs.map Sum.inr)=some zs
 | []=>rfl
 | b::bs=>by rw [List.map_cons,cH,gf bs]; rfl
def uo:List D->(OV->Prop)->Prop
 | [.lst ds],P=>(match cy ds with
  | some zs=>zs.length < 64/\P (.fl ((cS zs).map .str))
  | none=>False)
 | [.dct ks _],P=>(match cH ks with
  | some zs=>zs.length < 64/\P (.fl ((cS zs).map .str))
  | none=>False)
 | _,_=>False
def qa (P:Program)(w:World)(K:Frag):List V->Hp->VK->Prop:=fun xs H Q=>pB P w K xs H Q∨∃ p kvs zs,xs=[.ref p]/\Rd H p (.dK kvs)/\kvs.map (·.1)=zs.map Sum.inr/\kvs.length < 64/\∀ q ss,H q=none->ss.Perm zs->sortedS ss=true->Q (.ref q) (upd H q (.lst (ss.map .str)))
theorem qb {P:Program}:CallF K (qa P w K) uo:=⟨by
 intro F H xs ds Q Pq s ha f n
 cases ds with
 | nil=>exact False.elim f
 | cons d tl =>
 cases d with
 | lst ds =>
  cases tl with
  | cons _ _=>exact False.elim f
  | nil =>
  obtain ⟨x,rfl,a⟩:=bT ha
  obtain ⟨p,ys,rfl,h1,h2⟩:=a.asL s
  unfold uo at f
  dsimp only at f
  cases hz:cy ds with
  | none=>rw [hz] at f; exact False.elim f
  | some zs =>
   rw [hz] at f
   rw [c5 hz] at h2
   rw [h2.strs_eq] at h1
   refine .inl ⟨p,zs,rfl,.inr h1,f.1,fun q ss hq hp hs=>?_⟩
   rw [eR hp hs]
   exact cg s n (Dens.strs _) f.2 q hq
 | dct ks es =>
  cases tl with
  | cons _ _=>exact False.elim f
  | nil =>
  obtain ⟨x,rfl,a⟩:=bT ha
  obtain ⟨p,ys,rfl,h1,h2,h3⟩:=a.asD s
  unfold uo at f
  dsimp only at f
  cases hz:cH ks with
  | none=>rw [hz] at f; exact False.elim f
  | some zs =>
   rw [hz] at f
   rw [g8 hz] at h2
   have hl:ys.length=zs.length:=by have:=congrArg List.length h2; rwa [List.length_map,List.length_map] at this
   refine .inr ⟨p,ys,zs,rfl,h1,h2,by rw [hl]; exact f.1,fun q ss hq hp hs=>?_⟩
   rw [eR hp hs]
   exact cg s n (Dens.strs _) f.2 q hq
 | _=>exact False.elim f⟩
def Ih:List D->(OV->Prop)->Prop
 | [.str z],P=>(match z.cps.toList with
  | [c]=>P (.fz (.int c))
  | _=>False)
 | _,_=>False
theorem E2:CallF K Jk Ih:=⟨by
 intro F H xs ds Q P s ha f n
 unfold Ih at f
 split at f
 ·split at f
  ·rename_i c hc
   obtain ⟨x,rfl,a⟩:=bT ha
   exact ⟨c,by rw [a.str_eq,wU hc],au s n (.int _) f⟩
  ·exact f.elim
 ·exact f.elim⟩
def jE (zs:List Str):List Str:=zs.foldl (fun acc z=>KS.dedup1 acc z) []
theorem eB:∀ (zs acc:List Str),acc.Nodup->(zs.foldl (fun acc z=>KS.dedup1 acc z) acc).Nodup/\∀ k,k ∈ zs.foldl (fun acc z=>KS.dedup1 acc z) acc↔k ∈ acc∨k ∈ zs
 | [],acc,h=>⟨h,fun k=>by simp⟩
 | z::zs,acc,h=>by
  obtain ⟨h1,h2⟩:=eB zs (KS.dedup1 acc z) (jv h)
  refine ⟨h1,fun k=>?_⟩
  rw [List.foldl_cons,h2 k,ng,List.mem_cons]
  constructor
  ·rintro ((a | a) | a)
   ·exact .inl a
   ·exact .inr (.inl a)
   ·exact .inr (.inr a)
  ·rintro (a | a | a)
   ·exact .inl (.inl a)
   ·exact .inl (.inr a)
   ·exact .inr a
theorem eU (zs:List Str):(jE zs).Nodup:=(eB zs [] aaB).1
theorem hJ {k:Str}:k ∈ jE zs↔k ∈ zs:=by
 have:=(eB zs [] aaB).2 k
 simpa [jE] using this
def iH (zs:List Str):List Str:=cS (jE zs)
theorem fm {k:Str}:k ∈ iH zs↔k ∈ zs:=by rw [iH,(bc _).mem_iff,hJ]
theorem eC (zs:List Str):(iH zs).Nodup:=(bc _).nodup_iff.mpr (eU zs)
theorem kG (zs:List Str):(iH zs).Pairwise fun a b=>cf a b=true:=ci _
theorem dC {a b:List Str}(ha:a.Nodup)(hb:b.Nodup)(h:∀ k,k ∈ a↔k ∈ b):a.Perm b:=(List.perm_ext_iff_of_nodup ha hb).mpr h
theorem gg (hn:ss.Nodup)(hm:∀ k,k ∈ ss↔k ∈ zs)(hs:ss.Pairwise fun a b=>cf a b=true):ss=iH zs :=
 c4 (dC hn (eU zs) fun k=>(hm k).trans hJ.symm) hs
def iI (fe:FE):FE:=fun ρ Q=>fe ρ fun r ρ1=>on1 ρ1 r fun d=>match d with
 | .lst ds=>(match cy ds with
  | some zs=>(zs.length+1 < scanBound/\(iH zs).length < 64)/\Q (.ov (.fl ((iH zs).map .str))) ρ1
  | none=>False)
 | _=>False
theorem nz {P:Program}(he:EF K μ te fe):EF K μ (tCB (qa P w K) (dl (tCB (GZ P w K) (dl te kr)) kr)) (iI fe):=⟨by
 intro F Z H τ σ ρ A Q Pq vw R h q
 refine he.h vw R h fun r ρ1 v F1 H1 A1 B1 h1 s1 R1 v1 f1=>?_
 obtain ⟨d,e1,h2⟩:=bN h1
 split at h2
 ·split at h2
  ·rename_i zs hz
   obtain ⟨p,ys,rfl,a1,a2⟩:=(R1.acc v1 e1).asL R1.fh
   rw [c5 hz] at a2
   rw [a2.strs_eq] at a1
   refine ⟨p,zs,rfl,a1,h2.1.1,fun l τs hl hm hn _=>?_⟩
   refine .inl ⟨l,τs,rfl,.inl ad,?_,fun l2 ss hl2 hp hs=>?_⟩
   ·have hp:τs.Perm (iH zs):=dC hn (eC zs) fun k=>(hm k).trans fm.symm
    rw [hp.length_eq]; exact h2.1.2
   ·have e:ss=iH zs:=gg (hp.nodup_iff.mpr hn) (fun k=>(hp.mem_iff).trans (hm k)) (b4 ss hs)
    subst e
    have pu:=(Pure.new (o:=D9 P w l τs) R1.fh hl).trans (Pure.new (p:=l2) (o:=.lst ((iH zs).map .str)) (R1.fh.trans (bn hl)) hl2)
    have hl2':H1 l2=none:=(bn hl).free hl2
    exact R1.after (P:=fun o=>Pq (.ov o) ρ1) (fun o v F3 H3 B p s3 R3 ow fr=>q _ _ _ _ _ _ _ p (s1.trans s3) R3 ow fr) _ _ F1 _ [l2] h2.2 pu (.fl ad (Dens.strs _)) (New.one hl2' (R1.fh.free hl2'))
  ·exact h2.elim
 ·exact h2.elim⟩
end
end L2
namespace KS
open PySem PySem.Spec PyProof.Rows
section
variable {prog:Program} {w:World} {A:Around} {E:Value->Shared->Prop} {s:Shared}
end
end KS
namespace L2
open PySem PySem.Spec PyProof.Rows
section
variable {X:Cx}
end
section
variable {K:Frag} {μ:List Nat}
end
end L2
namespace L2
open PySem PySem.Spec PyProof.Rows PySem.W
variable{n:Nat}{p:Array Nat}{prog:Program}{w:World}{A:Around}{s:Shared}
def Good (n:Nat){α:Type}(Post:α->Prop):KasT α->Prop
 | .ret a=>Post a
 | .ask i j k=>i < n/\j < n/\∀ b,Good n Post (k b)
theorem Good.bind {n:Nat}{α β:Type}{Post:α->Prop}{Post':β->Prop}{f:α->KasT β}:∀ {t:KasT α},Good n Post t->(∀ a,Post a->Good n Post' (f a))->Good n Post' (t.bind f)
 | .ret a,h,k=>k a h
 | .ask i j g,h,k=>⟨h.1,h.2.1,fun b=>Good.bind (h.2.2 b) k⟩
theorem Good.run {n:Nat}{α:Type}{Post:α->Prop}{cmp:Nat->Nat->(Bool->Shared->Prop)->Shared->Prop}{G:α->Shared->Prop}{s:Shared}(hc:∀ i j C,i < n->j < n->(∀ b,C b s)->cmp i j C s):∀ {t:KasT α},Good n Post t->(∀ a,Post a->G a s)->t.kasWp cmp G s
 | .ret a,h,k=>k a h
 | .ask i j g,h,k=>hc i j _ h.1 h.2.1 fun b=>Good.run hc (h.2.2 b) k
def IsPerm (n:Nat)(p:Array Nat):Prop:=p.toList.Perm (List.range n)
theorem IsPerm.lt (h:IsPerm n p)(hn:0 < n)(i:Nat):p.getD i 0 < n:=by
 by_cases hi:i < p.size
 ·have e:p.getD i 0=p[i]:=by simp [Array.getD,hi]
  rw [e]
  have:p[i] ∈ p.toList:=by simp
  exact List.mem_range.mp (h.mem_iff.mp this)
 ·have e:p.getD i 0=0:=by simp [Array.getD,hi]
  rw [e]; exact hn
theorem IsPerm.rev (h:IsPerm n p)(i j:Nat):IsPerm n (kas_rev p i j):=(Array.perm_iff_toList_perm.mp (mirror_perm p i j ((j - i) / 2))).trans h
theorem IsPerm.bubble (h:IsPerm n p)(i j:Nat):IsPerm n (PyProof.Rows.bubble p i j):=(Array.perm_iff_toList_perm.mp (bubble_perm p i j)).trans h
theorem iJ {n:Nat}(hn:0 < n){p:Array Nat}(h:IsPerm n p):∀ (f k:Nat),Good n (fun _=>True) (kas_asc p f k)
 | 0,k=>trivial
 | f+1,k=>⟨h.lt hn _,h.lt hn _,fun b=>by
  cases b with
  | true=>exact trivial
  | false=>exact iJ hn h f (k+1)⟩
theorem dJ {n:Nat}(hn:0 < n):∀ (f:Nat) (p:Array Nat) (k q:Nat),IsPerm n p->Good n (fun r=>IsPerm n r.1) (kas_desc f p k q)
 | 0,p,k,q,h=>h
 | f+1,p,k,q,h=>⟨h.lt hn _,h.lt hn _,fun b=>by
  cases b with
  | true =>
   dsimp only; rw [if_pos rfl]
   split
   ·exact dJ hn f _ _ _ (h.rev _ _)
   ·exact dJ hn f _ _ _ h
  | false =>
   dsimp only; rw [if_neg Bool.false_ne_true]
   exact ⟨h.lt hn _,h.lt hn _,fun d=>by
    cases d with
    | true=>dsimp only; rw [if_pos rfl]; exact h
    | false=>dsimp only; rw [if_neg Bool.false_ne_true]; exact dJ hn f _ _ _ h⟩⟩
theorem jF (hn:0 < n)(h:IsPerm n p)(a b:Nat):Good n (fun r=>IsPerm n r.2) (kas_tail3 a b p):=(iJ hn (h.rev 0 a) _ _).bind fun m _=>h.rev 0 a
theorem dL (hn:0 < n)(h:IsPerm n p)(a b:Nat):Good n (fun r=>IsPerm n r.2) (kas_descPart a b p):=(dJ hn _ _ _ _ h).bind fun r hr=>by
 split
 ·exact jF hn (hr.rev _ _) _ _
 ·exact jF hn hr _ _
theorem nB (hn:0 < n)(h:IsPerm n p)(b:Nat):Good n (fun r=>IsPerm n r.2) (kas_count b p):=(iJ hn h _ _).bind fun r _=>by
 split
 ·exact h
 ·split
  ·exact ⟨h.lt hn _,h.lt hn _,fun c=>by
    cases c with
    | true=>dsimp only; rw [if_pos rfl]; exact h
    | false=>dsimp only; rw [if_neg Bool.false_ne_true]; exact dL hn (h.rev _ _) _ _⟩
  ·exact dL hn h _ _
theorem eD {n:Nat}(hn:0 < n){p:Array Nat}(h:IsPerm n p)(k:Nat):∀ (f l r:Nat),Good n (fun _=>True) (kas_place p k f l r)
 | 0,l,r=>trivial
 | f+1,l,r=>by
  unfold kas_place
  split
  ·exact trivial
  ·exact ⟨h.lt hn _,h.lt hn _,fun c=>by
    cases c with
    | true=>dsimp only; rw [if_pos rfl]; exact eD hn h k f _ _
    | false=>dsimp only; rw [if_neg Bool.false_ne_true]; exact eD hn h k f _ _⟩
theorem lE {n:Nat}(hn:0 < n):∀ (f:Nat) (p:Array Nat) (k:Nat),IsPerm n p->Good n (IsPerm n) (kas_bin f p k)
 | 0,p,k,h=>h
 | f+1,p,k,h=>(eD hn h k _ _ _).bind fun l _=>lE hn f _ _ (h.bubble _ _)
theorem qc (hn:0 < n):Good n (IsPerm n) (kas_sort n):=(nB hn (show IsPerm n (List.toArray (List.range n)) from aaz _) n).bind fun r hr=>by
 split
 ·exact lE hn _ _ _ hr
 ·exact hr
section
variable    {E:Value->Shared->Prop} 
theorem nE {l:Addr}{vs:List Value}{Q:Value->Shared->Prop}(hl:s.heap.IsList l vs.toArray)(few:vs.length < 2)(h:Q (.ref (s.heap.objs.size+1)) { s with heap:=sortedAll s.heap vs (pairsOf vs |>.map (·.2)) }) :
  wpAny (model prog w) A (call (.builtin "sorted") [.ref l]) Q E s:=by
 refine Calls.call_function_entry kind_sorted plain_sorted entry_sorted (args_sorted1 _) ?_
 unfold Builtin.«sorted»
 refine aaa (m:=checkCount "sorted" 1 1 _) (aac (aaa (collect_list hl (aaa (wpAny_newList ?_)))))
 have z1:((s.heap.push (seqObj "list" #[] 0)).update s.heap.objs.size (Obj.mapSeq (·++vs.toArray))).objs.size=s.heap.objs.size+1:=(Heap.size_update ..).trans (size_push' ..)
 have top:(((s.heap.push (seqObj "list" #[] 0)).update s.heap.objs.size (Obj.mapSeq (·++vs.toArray))).push (seqObj "list" vs.toArray 0)).get? (s.heap.objs.size+1)=some (seqObj "list" vs.toArray 0):=z1 ▸ Heap.get?_push_size _ rfl
 show wpAny _ _ _ _ _ { s with heap:=((s.heap.push (seqObj "list" #[] 0)).update s.heap.objs.size (Obj.mapSeq (·++vs.toArray))).push (seqObj "list" vs.toArray 0) }
 rw [z1]
 refine aaa (aaD (aaF slot_list_sort ⟨_,top,rfl⟩ entry_list_sort ?_ (args_list_sort _)))
 generalize hG:((s.heap.push (seqObj "list" #[] 0)).update s.heap.objs.size (Obj.mapSeq (·++vs.toArray))).push (seqObj "list" vs.toArray 0)=G at top
 generalize ha:s.heap.objs.size+1=a at top
 have lt:a < G.objs.size:=aaf top
 rw [list_sort_plain]
 refine aaa (listItems_at (s:={ s with heap:=G }) top rfl (aaa (listUpdate_at (s:={ s with heap:=G }) top rfl ?_)))
 obtain ⟨e1,o1⟩:∃ e1,(G.update a (Obj.mapSeq fun _=>#[])).get? a=some (seqObj "list" #[] e1):=⟨_,get?_update_seq top (fun _=>#[])⟩
 refine aaa (seqEpoch_at (s:={ s with heap:=G.update a (Obj.mapSeq fun _=>#[]) }) o1 rfl (aaa (wpAny_newTuple (aaa (wpAny_newList (aaD ?_))))))
 have o6:(((G.update a (Obj.mapSeq fun _=>#[])).push (seqObj "tuple" vs.toArray 0)).push (seqObj "list" #[] 0)).get? a=some (seqObj "list" #[] e1):=Heap.get?_push_of_some _ (Heap.get?_push_of_some _ o1)
 show wpAny (model prog w) _ _ _ E { s with heap:=((G.update a (Obj.mapSeq fun _=>#[])).push (seqObj "tuple" vs.toArray 0)).push (seqObj "list" #[] 0) }
 have h2:vs.toArray.size < 2:=(by exists few)
 dsimp only
 rw [if_pos h2,if_pos h2]
 refine aaa (aac ?_)
 rw [StateT.run_pure]
 refine aaa (aac (aaa (seqEpoch_at o6 rfl (aaa (listUpdate_at o6 rfl ?_ (hsz2:=?_))))))
 ·simp only [bne_self_eq_false,Bool.false_eq_true,if_false]
  refine aac ⟨_,rfl,aac ⟨_,rfl,?_⟩⟩
  subst ha
  have e:sortedAll s.heap vs (pairsOf vs |>.map (·.2))=sortedHeap G (s.heap.objs.size+1) vs (pairsOf vs |>.map (·.2)):=by rw [← hG]; rfl
  rw [e] at h
  exact h
 ·rw [Array.size_map]; show (pairsOf vs).size<=_; rw [pairsOf_size,sizeLine_eq]; nofun
end
section
variable     {C:Bool->Shared->Prop} {bb fn:Bool}
theorem lF (hC:∀ b,C b s):∀ (l:List Value) (i:Nat),KatLex prog w A bb fn C (l.zip l) i s
 | [],i=>kat_nil (hC _)
 | v::l,i=>kat_cons (abC v prog w _ _ (kat_yes (lF hC l (i+1))))
theorem qd (hC:∀ b,C b s){a b:Str}{t u:Tok}{l:List (Value×Value)}(hne:a≠b):KatLex prog w A true fn C ((.str a t,.str b u)::l) 0 s:=by
 refine kat_cons (SeqAt.EqAt.str_str a t b u prog w _ _ ?_)
 rw [show (a == b)=false from beq_eq_false_iff_ne.mpr hne]
 refine kat_no ?_
 exact oneLt_str (hC _)
end
theorem ObjOk.get {P:Program}{H:Hp}{h:Heap}{a:Addr}{o:HO}(x:ObjOk P w H h a o):∃ u,h.get? a=some u:=by
 cases o with
 | lst xs=>obtain ⟨_,_,_,_,e⟩:=x; exact ⟨_,e⟩
 | tup xs=>obtain ⟨_,_,_,_,e,_⟩:=x; exact ⟨_,e⟩
 | dK kvs=>obtain ⟨_,_,_,_,o,_,_,e,_⟩:=x; exact ⟨_,e⟩
 | dT kvs=>obtain ⟨_,_,_,_,o,_,_,e,_⟩:=x; exact ⟨_,e⟩
 | set S n=>obtain ⟨o,_,_,_,e,_⟩:=x; exact ⟨_,e⟩
 | ins C dx fs=>obtain ⟨_,_,_,e,_⟩:=x; exact ⟨_,e⟩
 | own y=>obtain ⟨_,e⟩:=x; exact ⟨_,e⟩
 | xd fs=>obtain ⟨_,⟨_,_,_,e,_⟩,_⟩:=x; exact ⟨_,e⟩
 | rng lo hi=>obtain ⟨_,_,_,e⟩:=x; exact ⟨_,e⟩
 | frz ob u=>obtain ⟨e,_⟩:=x; exact ⟨_,e⟩
 | tbl ps=>exact ⟨_,(show h.get? a=some _ from x)⟩
 | met f y=>exact ⟨_,(show h.get? a=some _ from x)⟩
 | ext φ=>obtain ⟨_,⟨_,e⟩,_⟩:=x; exact ⟨_,e⟩
section
variable {X:Cx}
def wX (K:Frag):List V->Hp->VK->Prop:=fun xs H Q=>∃ (p:Addr) (rows:List (Addr×Str×List V)),xs=[.ref p]/\SqL K H p (rows.map fun r=>.ref r.1)/\(∀ r ∈ rows,SqT K H r.1 (.str r.2.1::r.2.2))/\(rows.map (·.2.1)).Nodup/\rows.length < 64 /\
 ∀ (q:Addr) (rows':List (Addr×Str×List V)),H q=none->rows'.Perm rows->Q (.ref q) (upd H q (.lst (rows'.map fun r=>.ref r.1)))
theorem jG:∀ {rows:List (Addr×Str×List V)} {us:List Value},Vals (rows.map fun r=>V.ref r.1) us->us=rows.map fun r=>.ref r.1
 | [],_,.nil=>rfl
 | r::rows,_,.cons h t=>by rw [List.map_cons,jG t,show _=Value.ref r.1 from h]
theorem gh:∀ (rows:List (Addr×Str×List V)),Vals (rows.map fun r=>V.ref r.1) (rows.map fun r=>.ref r.1)
 | []=>.nil
 | r::rows=>.cons rfl (gh rows)
theorem cT {α:Type}(d:α)(xs:List α){l:List Nat}(h:l.Perm (List.range xs.length)):(l.map fun i=>xs.getD i d).Perm xs:=by
 refine (h.map _).trans ?_
 have e:(List.range xs.length).map (fun i=>xs.getD i d)=xs:=by
  apply List.ext_getElem?
  intro i
  rw [List.getElem?_map]
  by_cases hi:i < xs.length
  ·rw [List.getElem?_range hi]; simp [hi]
  ·rw [List.getElem?_eq_none (by exists hi),List.getElem?_eq_none (by exists hi)]; rfl
 rw [e]
theorem jH:CallR X (.builtin "sorted") (wX X.K):=by
 intro pins s σ H xs us Q I r h
 obtain ⟨p,rows,rfl,hq,ht,hn,h64,q⟩:=h
 obtain ⟨u,rfl,rx⟩:=du r
 cases rx
 obtain ⟨its,rv,pl,hz⟩:=I.list hq
 have hits:=jG rv
 subst hits
 have hlen:(rows.map fun r=>Value.ref r.1).length=rows.length:=List.length_map ..
 have hzr:rows.length<=sizeLine:=by rw [sizeLine_eq]; nofun
 by_cases h2:rows.length < 2
 ·refine nE pl.isList (by rw [hlen]; exact h2) ?_
  have e0:(pairsOf (rows.map fun r=>Value.ref r.1) |>.map (·.2))=(rows.map fun r=>Value.ref r.1).toArray:=by
   apply Array.toList_inj.mp
   rw [Array.toList_map,pairsOf_toList,List.map_snd_zip (aae _)]
  rw [e0]
  obtain ⟨e,he⟩:=sortedAll_at s.heap (rows.map fun r=>Value.ref r.1) (rows.map fun r=>Value.ref r.1).toArray
  exact ⟨.ref (s.heap.objs.size+1),_,I.laid (t':=s.toks) (o:=.lst (rows.map fun r=>.ref r.1)) (fun b o e=>sortedAll_old e) (aaT _) ⟨by rw [List.length_map]; exact hzr,_,e,gh rows,he⟩,rfl,q _ rows (I.hok.fresh (aaT _)) (.refl _)⟩
 ·obtain ⟨m,hns,_⟩:=I.loc
  -- the tuples as they stand
  have tup:∀ r ∈ rows,∃ (o:Obj) (t:Tok) (vs:List Value) (n:Nat),s.heap.get? r.1=some o/\o.cls=.type "tuple" /\ o.data=.seq (Value.str r.2.1 t::vs).toArray n/\r.1≠X.env.locals:=fun r hr=>by
   obtain ⟨its,rv,⟨o,ho,hc,n,hd⟩,_⟩:=I.tuple (ht r hr)
   cases rv with
   | cons r1 r2 =>
    obtain ⟨t,rfl⟩:=r1
    refine ⟨o,t,_,n,ho,hc,hd,fun z=>?_⟩
    obtain ⟨o',es,ep,ho',hd',_⟩:=hns
    rw [← z,ho] at ho'
    cases ho'
    rw [hd] at hd'; cases hd'
  refine kat_sorted (Att.fr_all hns) sy pl.isList (by rw [hlen]; nofun) (by rw [hlen]; exact h64) fun D e1 h' F' N' hlt=>?_
  have kept:∀ b o,b≠X.env.locals->s.heap.get? b=some o->h'.get? b=some o:=fun b o hb e=>(N' (b,o) (aad _ (dr hb (Att.noObjs_get _ _) e))).1
  have nD:∀ b o,b≠X.env.locals->s.heap.get? b=some o->b < D:=fun b o hb e=>hlt (b,o) (dr hb (Att.noObjs_get _ _) e)
  have hDL:D≠X.env.locals:=(N' _ (aab ..)).2.1
  have tup':∀ r ∈ rows,∃ (o:Obj) (t:Tok) (vs:List Value) (n:Nat),h'.get? r.1=some o/\o.cls=.type "tuple" /\ o.data=.seq (Value.str r.2.1 t::vs).toArray n:=fun r hr=>by
   obtain ⟨o,t,vs,n,h1,h2,h3,h4⟩:=tup r hr
   exact ⟨o,t,vs,n,kept _ _ h4 h1,h2,h3⟩
  obtain ⟨fs,hkt,hfl,hfs⟩:∃ fs,KatTups h' (rows.map fun r=>Value.ref r.1) fs/\fs.length=rows.length/\∀ v ∈ fs,∃ x t,v=Value.str x t:=by
   clear hq hn h64 q rv pl hz hlen hzr h2 N' F' kept nD tup ht
   induction rows with
   | nil=>exact ⟨[],KatTups.nil,rfl,fun _ z=>nomatch z⟩
   | cons r rows ih =>
    obtain ⟨o,t,vs,n,h1,h2,h3⟩:=tup' r (aab ..)
    obtain ⟨fs,k1,k2,k3⟩:=ih fun r hr=>tup' r (aad _ hr)
    refine ⟨.str r.2.1 t::fs,KatTups.cons h1 h2 h3 rfl k1,by rw [List.length_cons,List.length_cons,k2],fun v hv=>?_⟩
    rcases List.mem_cons.mp hv with rfl | hv
    ·exact ⟨_,_,rfl⟩
    ·exact k3 v hv
  refine kat_kind (s:={ s with heap:=h' }) (T:=.type "str") hkt (by nofun) (fun v hv=>?_) (by decide) ?_
  ·obtain ⟨x,t,rfl⟩:=hfs v hv
   exact Looks.of_pure rfl
  rw [hlen]
  refine Good.run (n:=rows.length) (fun i j C hi hj hC=>?_) (qc (by nofun)) fun pm hp=>?_
  ·-- two tuples asked
   have gi:(rows.map fun r=>Value.ref r.1).getD i Value.none=.ref rows[i].1:=by simp [hi]
   have gj:(rows.map fun r=>Value.ref r.1).getD j Value.none=.ref rows[j].1:=by simp [hj]
   unfold kas_ask
   rw [gi,gj]
   obtain ⟨o,t,vs,n,a1,a2,a3⟩:=tup' rows[i] (aaP hi)
   obtain ⟨o2,t2,vs2,n2,b1,b2,b3⟩:=tup' rows[j] (aaP hj)
   refine kat_lt (s:={ s with heap:=h' }) a1 a3 b1 b3 ?_
   by_cases hij:i=j
   ·subst hij
    rw [a1] at b1
    cases b1
    rw [a3] at b3
    injection b3 with b3 _
    rw [b3]
    exact lF hC _ 0
   ·refine qd hC fun z=>hij ?_
    have e1:(rows.map (·.2.1))[i]'(by exists hi)=(rows.map (·.2.1))[j]'(by exists hj):=(by exists z)
    exact (abw hn).mp e1
  ·-- the end
   refine KasFin.intro (s:={ s with heap:=h' }) F' N' (.head fun p hp=>aah (hlt p hp)) fun h3 c F3 N3=>?_
   have kept3:∀ b o,b≠X.env.locals->s.heap.get? b=some o->h3.get? b=some o:=fun b o hb e=>(N3 (b,o) (aad _ (dr hb (Att.noObjs_get _ _) e))).1
   have hD3:=(N3 (D,_) (aab ..)).1
   have hfree:s.heap.get? D=none:=by
    cases z:s.heap.get? D with
    | none=>rfl
    | some o=>exact absurd (nD D o hDL z) (aaQ _)
   have hHD:H D=none:=by
    cases z:H D with
    | none=>rfl
    | some o =>
     exfalso
     have lt:=(I.hok D o z).lt
     obtain ⟨o',ho'⟩:∃ o',s.heap.get? D=some o':=ObjOk.get (I.hok D o z)
     rw [hfree] at ho'; cases ho'
   have hne:∀ b o,s.heap.get? b=some o->b≠D:=fun b o e z=>by rw [z,hfree] at e; cases e
   let rows':=pm.toList.map fun i=>rows.getD i (0, "", [])
   have hpr:rows'.Perm rows:=cT _ rows hp
   have hout:(pm.toList.map fun i=>(rows.map fun r=>Value.ref r.1).getD i Value.none)=rows'.map fun r=>.ref r.1:=by
    rw [aat]
    refine aa2 fun i hi=>?_
    have hi':i < rows.length:=List.mem_range.mp (hp.mem_iff.mp hi)
    simp [hi']
   rw [hout] at hD3
   have Inv3:Inv X pins σ (upd H D (.lst (rows'.map fun r=>.ref r.1))) { s with heap:=h3 }:=by
    refine I.step (g':=s.gens) (d':=s.drawn) (t':=s.toks) (ch:=[]) (fun _ z=>nomatch z) (fun b o hb _ _ e _=>kept3 b o hb e) (fun b o hb _ _ e _=>⟨o.slots,kept3 b o hb e⟩) (fun b o _ e n=>by rw [ae (hne b o e)]; exact n)
     (fun b o _ e=>?_) (fun b ys e=>by rw [ae (a8 e hHD)]; exact e) (fun b o u e=>by rw [ae (a8 e hHD)]; exact e) (fun b ps e=>⟨#[],by rw [ae (a8 e hHD),e]; simp⟩) (fun m' hm'=>?_) ?_ I.bare
    ·by_cases hb:b=X.env.locals
     ·subst hb
      obtain ⟨o',_,_,ho',_⟩:=F3.ns
      exact ⟨o',ho'⟩
     ·exact ⟨o,kept3 b o hb e⟩
    ·have em:m'=m:=by
      funext x
      obtain ⟨o1,e1,p1,g1,d1,_,n1⟩:=hm'
      obtain ⟨o2,e2,p2,g2,d2,_,n2⟩:=hns
      rw [g1] at g2; cases g2
      rw [d1] at d2
      injection d2 with d2 _
      rw [← n1 x,← n2 x,d2]
     rw [em]; exact F3.ns
    ·intro b o e
     by_cases hb:b=D
     ·subst hb
      rw [ad] at e
      cases e
      exact ⟨by rw [List.length_map,hpr.length_eq]; exact hzr,_,c,gh rows',hD3⟩
     ·rw [ae hb] at e
      refine (I.hok b o e).stay (fun b' u hb' q'=>kept3 b' u (fun z=>?_) q') (fun b' q'=>by rw [ae (a8 q' hHD)]; exact q') fun b' ys q'=>by rw [ae (a8 q' hHD)]; exact q'
      subst z
      rcases hb' with z | z
      ·rw [← z,I.free] at e; cases e
      ·rw [I.free] at z; cases z
   exact ⟨.ref D,_,Inv3,rfl,q D rows' hHD hpr⟩
end
end L2
namespace L2
open PySem PySem.Spec PyProof.Rows
variable{ds:List D}{zs:List Str}{P:Program}{w:World}{te:TE}{fe:FE}{n j:Nat}{T:List Nat}{fg:FG}{ρ:FSt}{fb:FS}{E:FEnds}{lo i:Int}{d:D}{Q:D->Prop}{a b z:Str}
theorem uq {α β:Type}{f:α->β}:∀ {l l':List β},l.Perm l'->∀ m:List α,l'=m.map f->∃ m':List α,m'.Perm m/\l=m'.map f:=by
 intro l l' h
 induction h with
 | nil =>
  intro m e
  have:m=[]:=by simpa using e.symm
  subst this
  exact ⟨[],.refl _,rfl⟩
 | cons x _ ih =>
  intro m e
  cases m with
  | nil=>cases e
  | cons a m =>
   simp only [List.map_cons,List.cons.injEq] at e
   obtain ⟨m',h1,h2⟩:=ih m e.2
   exact ⟨a::m',.cons a h1,by rw [List.map_cons,h2,e.1]⟩
 | swap x y l =>
  intro m e
  match m,e with
  | a::b::m,e =>
   simp only [List.map_cons,List.cons.injEq] at e
   exact ⟨b::a::m,.swap _ _ _,by rw [List.map_cons,List.map_cons,e.1,e.2.1,e.2.2]⟩
 | trans _ _ ih1 ih2 =>
  intro m e
  obtain ⟨m2,h1,h2⟩:=ih2 m e
  obtain ⟨m1,h3,h4⟩:=ih1 m2 h2
  exact ⟨m1,h3.trans h1,h4⟩
section
variable {K:Frag} {μ:List Nat}
def dM:List D->Option (List Str)
 | []=>some []
 | .tup (.str z::_)::ds=>(dM ds).map (z::·)
 | _::_=>none
theorem Aj {F:Hp}{xs:List V}(h:Dens K F xs ds)(e:dM ds=some zs):∃ L:List ((Addr×Str×List V)×D),xs=L.map (fun r=>.ref r.1.1)/\ds=L.map (·.2)/\(∀ r ∈ L,SqT K F r.1.1 (.str r.1.2.1::r.1.2.2)/\Den K F (.ref r.1.1) r.2)/\L.map (·.1.2.1)=zs:=by
 induction ds generalizing xs zs with
 | nil=>cases h; cases e; exact ⟨[],rfl,rfl,(fun _ z=>nomatch z),rfl⟩
 | cons d ds ih =>
  cases h with
  | cons h t =>
  cases h with
  | @tup a ys es hs ht =>
   cases es with
   | nil=>exact nomatch e
   | cons c es =>
   cases c with
   | str z =>
    obtain ⟨zs',e1,rfl⟩:=Option.map_eq_some_iff.mp (show (dM ds).map (z::·)=some zs from e)
    obtain ⟨L,rfl,rfl,h3,h4⟩:=ih t e1
    have h':Den K F (.ref a) (.tup (.str z::es)):=.tup hs ht
    cases ht with
    | @cons _ _ zs1 _ k1 k2 =>
     have:=k1.str_eq
     subst this
     refine ⟨((a,z,zs1),.tup (.str z::es))::L,rfl,rfl,fun r hr=>?_,by rw [List.map_cons,h4]⟩
     rcases List.mem_cons.mp hr with rfl | hr
     ·exact ⟨SqT.of hs,h'⟩
     ·exact h3 r hr
   | _=>exact nomatch e
  | _=>exact nomatch e
theorem qe {F:Hp}:∀ {L:List ((Addr×Str×List V)×D)},(∀ r ∈ L,Den K F (.ref r.1.1) r.2)->Dens K F (L.map fun r=>.ref r.1.1) (L.map (·.2))
 | [],_=>.nil
 | r::L,h=>.cons (h r (aab ..)) (qe fun r hr=>h r (aad _ hr))
def qf (P:Program)(w:World)(K:Frag):List V->Hp->VK->Prop:=fun xs H Q=>qa P w K xs H Q∨wX K xs H Q
theorem ur {X:Cx}(P:Program)(w:World)(K:Frag)(hc:X.calm=true)(hP:X.prog=P)(hw:X.w=w)(h:X.K=K):BCall X (.builtin "sorted") (qf P w K):=by subst h hP hw; exact ⟨((ju hc).or (jB hc)).or jH⟩
@[irreducible] def hU:List D->(OV->Prop)->Prop
 | [.lst ds],P=>(match cy ds with
  | some zs=>zs.length < 64/\P (.fl ((cS zs).map .str))
  | none=>(match dM ds with
   | some zs=>(zs.Nodup/\zs.length < 64)/\∀ ds':List D,ds'.Perm ds->P (.fl ds')
   | none=>False))
 | [.dct ks _],P=>(match cH ks with
  | some zs=>zs.length < 64/\P (.fl ((cS zs).map .str))
  | none=>False)
 | _,_=>False
theorem ut :CallF K (qf P w K) hU:=⟨by
 intro F H xs ds Q Pq s ha f n
 unfold hU at f
 cases ds with
 | nil=>exact False.elim f
 | cons d r =>
  cases d with
  | lst ds =>
   cases r with
   | cons=>exact False.elim f
   | nil =>
    dsimp only at f
    generalize hz:cy ds=o at f
    cases o with
    | some zs =>
     refine .inl (qb.h s ha ?_ n)
     unfold uo
     dsimp only
     rw [hz]
     exact f
    | none =>
     dsimp only at f
     clear hz
     generalize hz:dM ds=o at f
     cases o with
     | none=>exact False.elim f
     | some zs =>
      obtain ⟨x,rfl,a⟩:=bT ha
      obtain ⟨p,ys,rfl,h1,h2⟩:=a.asL s
      obtain ⟨L,e1,e2,h3,h4⟩:=Aj h2 hz
      subst e1 e2
      have el:(L.map fun r=>V.ref r.1.1)=(L.map (·.1)).map fun r=>V.ref r.1:=by rw [aat]; rfl
      refine .inr ⟨p,L.map (·.1),rfl,by rw [← el]; exact h1,fun r hr=>?_,by rw [aat]; exact h4 ▸ f.1.1,by rw [List.length_map,← List.length_map (f:=(·.1.2.1)) (as:=L),h4]; exact f.1.2,fun q rows' hq hp=>?_⟩
      ·obtain ⟨r',hr',rfl⟩:=List.mem_map.mp hr
       exact (h3 r' hr').1.same s
      ·obtain ⟨L',p1,rfl⟩:=uq hp L rfl
       have el':((L'.map (·.1)).map fun r=>V.ref r.1)=L'.map fun r=>V.ref r.1.1:=by rw [aat]; rfl
       rw [el']
       exact cg s n (qe fun r hr=>(h3 r (p1.mem_iff.mp hr)).2) (f.2 _ (p1.map _)) q hq
  | dct ks vs =>
   cases r with
   | cons=>exact False.elim f
   | nil=>exact .inl (qb.h s ha f n)
  | _=>exact False.elim f⟩
theorem kH (he:EF K μ te fe):EF K μ (tCB (qf P w K) (dl (tCB (GZ P w K) (dl te kr)) kr)) (iI fe):=⟨by
 intro F Z H τ σ ρ A Q Pq vw R h q
 have:=(nz (P:=P) (w:=w) he).h vw R h q
 refine he.h vw R h fun r ρ1 v F1 H1 A1 B1 h1 s1 R1 v1 f1=>?_
 obtain ⟨d,e1,h2⟩:=bN h1
 split at h2
 ·split at h2
  ·rename_i zs hz
   obtain ⟨p,ys,rfl,a1,a2⟩:=(R1.acc v1 e1).asL R1.fh
   rw [c5 hz] at a2
   rw [a2.strs_eq] at a1
   refine ⟨p,zs,rfl,a1,h2.1.1,fun l τs hl hm hn _=>?_⟩
   refine .inl (.inl ⟨l,τs,rfl,.inl ad,?_,fun l2 ss hl2 hp hs=>?_⟩)
   ·have hp:τs.Perm (iH zs):=dC hn (eC zs) fun k=>(hm k).trans fm.symm
    rw [hp.length_eq]; exact h2.1.2
   ·have e:ss=iH zs:=gg (hp.nodup_iff.mpr hn) (fun k=>(hp.mem_iff).trans (hm k)) (b4 ss hs)
    subst e
    have pu:=(Pure.new (o:=D9 P w l τs) R1.fh hl).trans (Pure.new (p:=l2) (o:=.lst ((iH zs).map .str)) (R1.fh.trans (bn hl)) hl2)
    have hl2':H1 l2=none:=(bn hl).free hl2
    exact R1.after (P:=fun o=>Pq (.ov o) ρ1) (fun o v F3 H3 B p s3 R3 ow fr=>q _ _ _ _ _ _ _ p (s1.trans s3) R3 ow fr) _ _ F1 _ [l2] h2.2 pu (.fl ad (Dens.strs _)) (New.one hl2' (R1.fh.free hl2'))
  ·exact h2.elim
 ·exact h2.elim⟩
def uu (fo fe:FE):FE:=fun ρ Q=>fo ρ fun r ρ1=>on1 ρ1 r fun d=>match d with
 | .str z=>fe ρ1 fun r2 ρ2=>on1 ρ2 r2 fun d2=>(match d2 with
  | .lst ds=>(match cy ds with
   | some zs=>(zs.map (·.length)).sum+zs.length * z.length<=16777216/\Q (.ov (.fz (.str (Builtin.Str.glued z zs)))) ρ2
   | none=>False)
  | _=>False)
 | _=>False
theorem Ak {to:TE}{fo:FE}(ho:EF K μ to fo)(he:EF K μ te fe):EF K μ (tBM K "str" (tD K) to (dl te kr)) (uu fo fe):=⟨by
 intro F Z H τ σ ρ A Q P vw R h q
 refine ho.h vw R h fun r1 ρ1 x F1 H1 A1 B1 h1 s1 R1 v1 f1=>?_
 obtain ⟨d,e1,h2⟩:=bN h1
 split at h2
 ·rename_i z
  have ex:=(R1.acc v1 e1).str_eq
  subst ex
  refine ⟨rfl,he.h vw R1 h2 fun r2 ρ2 y F2 H2 A2 B2 h3 s2 R2 v2 f2=>?_⟩
  obtain ⟨d2,e2,h4⟩:=bN h3
  split at h4
  ·split at h4
   ·rename_i zs hz
    obtain ⟨p,ys,rfl,a1,a2⟩:=(R2.acc v2 e2).asL R2.fh
    rw [c5 hz] at a2
    rw [a2.strs_eq] at a1
    exact ⟨z,p,zs,rfl,rfl,a1,h4.1,q _ _ _ _ _ _ [] h4.2 (s1.trans s2) R2 (.fz (.str _)) Fresh.nil⟩
   ·exact h4.elim
  ·exact h4.elim
 ·exact h2.elim⟩
end
section
variable {K:Frag}
theorem Jm (h:j < n):EF K (List.range n) (cO j) (ab j):=pK (by simp [h])
theorem ef_w (h:autoParam (j<n) L2.aD._auto_1):EF K (List.range n) (cO j) (ab j):=Jm h
theorem gf_n (h:j < n):GF K (List.range n) [j] (dY j) (ac j):=pO (by simp [h]) List.nodup_range
theorem Al (h:j < n)(he:EF K (List.range n) te fe):EF K (List.range n) (tBM K "list" dZ (cO j) (dl te kr)) (Cp j fe):=EC (by simp [h]) he
theorem uv {m:List Nat}(h:(m.all fun i=>!T.contains i)=true):∀ i ∈ m,i ∉ T:=fun i hi hT=>by
 have:=List.all_eq_true.mp h i hi
 simp [hT] at this
theorem Ii {no:Nat}(h:(T.all fun i=>decide (i < no))=true):∀ i ∈ T,i < no:=fun i hi=>of_decide_eq_true (List.all_eq_true.mp h i hi)
theorem Fun.okG {mg:Str->Option Value}{base:Heap}{x qual:Str}{st:Stmt}{f:Addr}{fd:FuncData}{N ps:List Str}{k:Nat}{c:Ct}{fs:FS}(n:Nat)(m:List Nat)(F:Fun K x qual st f fd)(S:FnScope N ps (aj st))(hn:N.length=n)
  (hN:ps.length<=n) (hlen:∀ os P,c os P->os.length=ps.length/\∀ j o,os[j]?=some o->j ∉ m->pU o=true) (hm:∀ i ∈ m,i < ps.length)
  (hbody:∀ (cdv:Value) (A:Around) (outer:List Env) (s:Shared) (H:Hp) (E:XK),Room k (A.deeper (envOfC qual (aj st) s.heap.objs.size f cdv)) ->
   ∃ t,BSs (oz CX0 P w K mg base N qual (aj st) f cdv A outer s H E).nox (bo st) t/\SF K n m t fs)
  (hc:∀ os P,c os P->fs { nx:=fin m os P (.fz .non),rt:=fin m os P } (ak n os)):FnOk P w K mg base CX0 (k+1) f fd ps (spM K c):=by
 subst hn
 exact Fun.okF F S hN hlen hm hbody hc
end
theorem aQ {ft:FT}{P:List D->FSt->Prop}{as0:List D}(I:Nat->List D->FSt->Prop)(h0:I 0 as0 ρ)
  (hs:∀ (i:Nat) (d:D) (as:List D) (ρ:FSt) (R:List D->FSt->Prop),ds[i]?=some d->I i as ρ->(∀ as' ρ',I (i+1) as' ρ'->R as' ρ') ->
   fg d ρ fun ρ1=>ft ρ1 fun b ρ2=>br b (fe ρ2 fun r ρ3=>match fzR r ρ3 with
    | some (y,ρ4)=>as.length < sizeLine/\R (as++[y]) ρ4
    | none=>False) (R as ρ2))
  (hd:∀ as ρ,I ds.length as ρ->P as ρ):cW fg ft fe P ds as0 ρ:=by
 have main:∀ (k i:Nat) (as:List D) (ρ:FSt),i+k=ds.length->I i as ρ->cW fg ft fe P (ds.drop i) as ρ:=by
  intro k
  induction k with
  | zero =>
   intro i as ρ e h
   have:i=ds.length:=by nofun
   subst this
   rw [aa3]
   exact jA (hd as ρ h)
  | succ k ih =>
   intro i as ρ e h
   have hi:i < ds.length:=by nofun
   rw [aax hi]
   exact nt (hs i ds[i] as ρ _ (List.getElem?_eq_getElem hi) h fun as' ρ' h'=>ih (i+1) as' ρ' (by nofun) h')
 have:=main ds.length 0 as0 ρ (by nofun) h0
 rwa [aaZ] at this
theorem b6 (I:Nat->FSt->Prop)(h0:I 0 ρ)
  (hs:∀ (i:Nat) (d:D) (ρ:FSt) (R:FSt->Prop),ds[i]?=some d->I i ρ->(∀ ρ',I (i+1) ρ'->R ρ')->fg d ρ fun ρ1=>fb { nx:=R,ct:=R,bk:=E.nx,rt:=E.rt } ρ1)
  (hd:∀ ρ,I ds.length ρ->E.nx ρ):cF fg fb E ds ρ:=by
 have main:∀ (k i:Nat) (ρ:FSt),i+k=ds.length->I i ρ->cF fg fb E (ds.drop i) ρ:=by
  intro k
  induction k with
  | zero =>
   intro i ρ e h
   have:i=ds.length:=by nofun
   subst this
   rw [aa3]
   exact jz (hd ρ h)
  | succ k ih =>
   intro i ρ e h
   have hi:i < ds.length:=by nofun
   rw [aax hi]
   exact nr (hs i ds[i] ρ _ (List.getElem?_eq_getElem hi) h fun ρ' h'=>ih (i+1) ρ' (by nofun) h')
 have:=main ds.length 0 ρ (by nofun) h0
 rwa [aaZ] at this
theorem jI {fc:FT}(I:Nat->FSt->Prop)(n:Nat)(h0:I n ρ)
  (hs:∀ (m:Nat) (ρ:FSt) (R:FSt->Prop),I m ρ->(∀ k ρ',k < m->I k ρ'->R ρ')->fc ρ fun b ρ1=>br b (fb { nx:=R,ct:=R,bk:=E.nx,rt:=E.rt } ρ1) (E.nx ρ1)):gZ fc fb E ρ:=by
 refine ⟨n+1,?_⟩
 have main:∀ (N m:Nat) (ρ:FSt),m < N->I m ρ->bU fc fb E N ρ:=by
  intro N
  induction N with
  | zero=>intro m ρ h _; nofun
  | succ N ih =>
   intro m ρ h hi
   exact cG (hs m ρ _ hi fun k ρ' hk h'=>ih k ρ' (by nofun) h')
 exact main (n+1) n ρ (by nofun) h0
theorem bO {i:Nat}(h:(cQ lo n)[i]?=some d):i < n/\d=.int (lo+i):=by
 unfold cQ at h
 rw [List.getElem?_map,aam] at h
 obtain ⟨k,h1,rfl⟩:=h
 obtain ⟨h2,h3⟩:=List.getElem?_eq_some_iff.mp h1
 rw [List.getElem_range] at h3
 rw [List.length_range] at h2
 subst h3
 exact ⟨h2,rfl⟩
theorem b7 :(cQ lo n).length=n:=by simp [cQ]
theorem iK {xs:List D}(h0:0<=i)(h:i < xs.length)(q:∀ d ∈ xs,Q d):match atI xs i with
  | some d=>Q d
  | none=>False:=by
 obtain ⟨c,h1,h2⟩:=wK h0 h
 rw [h1]
 exact q c h2
theorem iL {xs:List Nat}{Q:Nat->Prop}(h0:0<=i)(h:i < xs.length)(q:∀ d ∈ xs,Q d):match atI xs i with
  | some d=>Q d
  | none=>False:=by
 obtain ⟨c,h1,h2⟩:=wK h0 h
 rw [h1]
 exact q c h2
theorem bA :dEq (.str a) (.str b)=true↔a=b:=by
 show (a == b)=true↔_
 rw [beq_iff_eq]
theorem cb {a b:Int}:dEq (.int a) (.int b)=true↔a=b:=by
 show (a == b)=true↔_
 rw [beq_iff_eq]
theorem uw :(!dEq (.str a) (.str b))=true↔a≠b:=by
 rw [aaS,Bool.eq_false_iff,Ne,bA]
theorem aH :Af (.str a) (.str b):=⟨rfl,rfl,aaq _⟩
theorem a7 {a b:Int}:Af (.int a) (.int b):=⟨rfl,rfl,aaq _⟩
theorem lG {z:Str}:∀ {zs:List Str},inV (.str z) (zs.map V.str)=true↔z ∈ zs
 | []=>by simp [inV]
 | y::zs=>by
  have ih:=lG (z:=z) (zs:=zs)
  unfold inV at ih ⊢
  rw [List.map_cons,abA,Bool.or_eq_true,ih,List.mem_cons]
  have:eqV (.str y) (.str z)=true↔z=y:=by
   show (y == z)=true↔_
   rw [beq_iff_eq]; exact eq_comm
  rw [this]
theorem dN :inD (.str z) (zs.map D.str)=true↔z ∈ zs:=by
 unfold inD
 have:(zs.map D.str).map vOf=zs.map V.str:=by rw [aat]; rfl
 rw [this]
 exact lG
theorem ux (zs:List Str):(zs.map D.str).all flD=true:=by
 induction zs with
 | nil=>rfl
 | cons z zs ih=>exact ih
theorem bp :nv (zs.map Sum.inr) (.inr z)=true↔z ∈ zs:=by
 unfold nv
 rw [List.any_map,abx]
 constructor
 ·rintro ⟨y,h1,h2⟩
  have:=of_decide_eq_true h2
  cases this
  exact h1
 ·intro h
  exact ⟨z,h,by simp⟩
theorem iM {Q:List Str->Prop}(q:Q zs):match cy (zs.map .str) with
  | some zs=>Q zs
  | none=>False:=by
 rw [g7]; exact q
theorem lH {bs:List Bool}{Q:List Bool->Prop}(q:Q bs):match eY (bs.map .bl) with
  | some zs=>Q zs
  | none=>False:=by
 rw [jD]; exact q
theorem qg :(kh (zs.map Sum.inr) ds (.inr z) d).1=(KS.dedup1 zs z).map Sum.inr:=by
 unfold kh KS.dedup1
 by_cases h:z ∈ zs
 ·have e:((zs.map Sum.inr).any fun x=>decide (x=(Sum.inr z:Key)))=true:=bp.mpr h
  rw [if_pos e,if_pos h]
 ·have e:¬ ((zs.map Sum.inr).any fun x=>decide (x=(Sum.inr z:Key)))=true:=fun q=>h (bp.mp q)
  rw [if_neg e,if_neg h,aag]; rfl
theorem jJ:∀ (zs acc:List Str),(zs.foldl (fun acc z=>KS.dedup1 acc z) acc).length<=acc.length+zs.length
 | [],acc=>by simp
 | z::zs,acc=>by
  rw [List.foldl_cons,List.length_cons]
  have:=jJ zs (KS.dedup1 acc z)
  have:=(nh acc z).2.1
  nofun
theorem uy (zs:List Str):(iH zs).length<=zs.length:=by
 rw [iH,(bc _).length_eq]
 have:=jJ zs []
 simpa [jE] using this
theorem jK {P:OV->Prop}(hl:zs.length < 64)(h:P (.fl ((cS zs).map .str))):hU [.dct (zs.map Sum.inr) ds] P:=by
 unfold hU
 simp only [gf]
 exact ⟨hl,h⟩
theorem cI {x:D}{r:List D}(q:Q x):match atI (x::r) 0 with
  | some d=>Q d
  | none=>False:=by
 rw [HR]; exact q
end L2
namespace KS
open PySem PySem.Spec PyProof.Rows
open PySem.W
section
variable {prog:Program} {w:World} {K:Type} [DecidableEq K] {knd:KeyKind prog w K} {A:Around} {E:Value->Shared->Prop} {s:Shared}
end
end KS
namespace L2
open PySem PySem.Spec PyProof.Rows
variable{X:Cx}{μ ixs T:List Nat}{e tg l:Expr}{ty te tl t:TE}{apos cpos:Pos}{i j n no i0 j0 ep:Nat}{fk fe:FE}{F H:Hp}{g:TG}{fg:FG}{tc:TT}{fc:FT}{ρ:FSt}{a it:Addr}{o:Obj}{kvs:List (Key×V)}{vs:List (Key×Value)}{P:Program}{w:World}{st:Stmt}
section
variable {K:Frag} 
end
theorem Am {o:Expr} {td:TE}  (ho:BE X o td) (he:BE X e ty) (hbase:attributeBase o "pop" X.env (eval o X.env)=eval o X.env) (hn:bi e=true) (hline:(apos.endLine == cpos.line)=true):BE X (.Call (.Attribute o "pop" apos) [e] [] cpos) (ld td ty) :=
 ⟨tm ho.h he.h ⟨hbase,lj (es:=[e]) (by simp [hn]) (by show 1 < 29; decide),hline,by
  rw [aT hn]
  rfl⟩⟩
section
variable {K:Frag} 
def kI (ks:List Key)(ds:List D)(k:Key):List Key×List D:=(ks.filter fun x=>decide (x≠k),((ks.zip ds).filter fun kd=>decide (kd.1≠k)).map (·.2))
def An (i:Nat)(fk:FE):FE:=fun ρ Q=>(unD ρ i).isSome=true/\fk ρ fun s ρ1=>on1 ρ1 s fun dk=>match kg dk,unD ρ1 i with
 | some k,some (ks,ds)=>(match dF ks ds k with
  | some d=>Q (.ov (.fz d)) (ρ1.set i (some (.fd (kI ks ds k).1 (kI ks ds k).2)))
  | none=>False)
 | _,_=>False
theorem jL {F:Hp}{k:Key}:∀ {ys:List (Key×V)} {ks:List Key} {ds:List D},ys.map (·.1)=ks->Dens K F (ys.map (·.2)) ds->(gy ys k).map (·.1)=(kI ks ds k).1/\Dens K F ((gy ys k).map (·.2)) (kI ks ds k).2
 | [],_,ds,hk,h=>by subst hk; cases h; exact ⟨rfl,.nil⟩
 | y::ys,_,ds,hk,h=>by
  subst hk
  cases h with
  | @cons _ d1 _ ds h1 h2 =>
   obtain ⟨q1,q2⟩:=jL (k:=k) rfl h2
   unfold gy kI at *
   by_cases e:y.1=k
   ·have e':decide (y.1≠k)=false:=decide_eq_false fun z=>z e
    simp only [List.map_cons,List.zip_cons_cons,List.filter_cons,e',if_neg Bool.false_ne_true]
    exact ⟨q1,q2⟩
   ·have e':decide (y.1≠k)=true:=decide_eq_true e
    simp only [List.map_cons,List.zip_cons_cons,List.filter_cons,e',if_pos]
    exact ⟨by rw [q1],.cons h1 q2⟩
theorem Ao (hj:μ[j]?=some i)(hk:EF K μ ty fk):EF K μ (ld (cO j) ty) (An i fk):=⟨by
 intro F Z H τ σ ρ A Q P vw R h q
 obtain ⟨h0,h⟩:=h
 obtain ⟨⟨ks0,ds0⟩,e0⟩:=Option.isSome_iff_exists.mp h0
 obtain ⟨a,ys0,h1,h2,_,_,_⟩:=R.mutD e0
 refine ⟨.ref a,(vw j i hj).1.trans h1,a,rfl,.inl ⟨ys0,.inl h2⟩,?_⟩
 refine hk.h vw R h fun r ρ1 v F1 H1 A1 B1 p1 s1 R1 v1 f1=>?_
 obtain ⟨dk,ek,p4⟩:=bN p1
 split at p4
 ·rename_i k ks ds e4 e3
  split at p4
  ·rename_i d ed
   obtain ⟨a',ys,h1',h2',hk',h3',mt⟩:=R1.mutD e3
   rw [h1] at h1'
   cases h1'
   obtain ⟨v',ev,dv⟩:=iD hk' h3' ed
   obtain ⟨q1,q2⟩:=jL (k:=k) hk' h3'
   obtain ⟨A4,R4⟩:=mt (gy ys k) _ _ q1 q2
   exact ⟨ys,k,v',h2',cX (R1.acc v1 ek) e4,ev,q _ _ _ _ _ _ _ p4 s1 R4 (.fz dv) Fresh.nil⟩
  ·exact p4.elim
 ·exact p4.elim⟩
theorem uz (h:j < n)(hk:EF K (List.range n) ty fk):EF K (List.range n) (ld (cO j) ty) (An j fk):=Ao (by simp [h]) hk
def qh:D->Bool
 | .non=>true
 | _=>false
theorem Acc.isNon {v:V}{d:D}(h:Acc K F H v d):decide (v=.non)=qh d:=by
 cases h with
 | fz h=>cases h <;> first | rfl | exact decide_eq_false (fun z=>nomatch z)
 | lst=>exact decide_eq_false (fun z=>nomatch z)
 | dct=>exact decide_eq_false (fun z=>nomatch z)
 | dt=>exact decide_eq_false (fun z=>nomatch z)
def G2:D->D->(OV->Prop)->Prop
 | d,.non,P=>P (.fz (.bl (qh d)))
 | _,_,_=>False
def uA:D->D->(OV->Prop)->Prop
 | d,.non,P=>P (.fz (.bl (!qh d)))
 | _,_,_=>False
theorem Ap:OpF K Jf G2:=⟨by
 intro F H x y d e Q P s hx hy f n
 unfold G2 at f
 split at f
 ·exact ⟨hy.non_eq,by rw [hx.isNon]; exact au s n (.bl _) f⟩
 ·exact f.elim⟩
theorem uB:OpF K D0 uA:=⟨by
 intro F H x y d e Q P s hx hy f n
 unfold uA at f
 split at f
 ·exact ⟨hy.non_eq,by rw [hx.isNon]; exact au s n (.bl _) f⟩
 ·exact f.elim⟩
end
section
variable {K:Frag} 
end
section
variable {K:Frag} 
end
def iN (fg:FG)(ft:FT)(fe:FE)(P:List D->FSt->Prop)(sl:Nat)(all:List D):List D->List D->FSt->Prop
 | [],as,ρ=>unL ρ sl=some all/\P as ρ
 | d::ds,as,ρ=>unL ρ sl=some all/\fg d ρ fun ρ1=>ft ρ1 fun b ρ2=>br b (fe ρ2 fun r ρ3=>match fzR r ρ3 with
  | some (y,ρ4)=>as.length < sizeLine/\iN fg ft fe P sl all ds (as++[y]) ρ4
  | none=>False) (iN fg ft fe P sl all ds as ρ2)
@[irreducible] def c6 (fg:FG)(ft:FT)(fe:FE)(P:List D->FSt->Prop)(sl:Nat)(all ds as:List D)(ρ:FSt):Prop:=iN fg ft fe P sl all ds as ρ
theorem gk (fg:FG)(ft:FT)(fe:FE)(P:List D->FSt->Prop)(sl:Nat)(all ds:List D):c6 fg ft fe P sl all ds=iN fg ft fe P sl all ds:=by funext as ρ; unfold c6; rfl
theorem hV (fg:FG)(ft:FT)(fe:FE)(P:List D->FSt->Prop)(sl:Nat)(all as:List D)(ρ:FSt):c6 fg ft fe P sl all [] as ρ=(unL ρ sl=some all/\P as ρ):=by rw [gk]; rfl
theorem hX (fg:FG)(ft:FT)(fe:FE)(P:List D->FSt->Prop)(sl:Nat)(all:List D)(d:D)(ds as:List D)(ρ:FSt):c6 fg ft fe P sl all (d::ds) as ρ=(unL ρ sl=some all/\fg d ρ fun ρ1=>ft ρ1 fun b ρ2=>br b (fe ρ2 fun r ρ3=>match fzR r ρ3 with
  | some (y,ρ4)=>as.length < sizeLine/\c6 fg ft fe P sl all ds (as++[y]) ρ4
  | none=>False) (c6 fg ft fe P sl all ds as ρ2)):=by rw [gk,gk]; rfl
def lI (no i:Nat)(fg:FG)(ft:FT)(fe:FE):FE:=fun ρ Q=>match unL ρ i with
 | some ds=>gF (List.replicate no none++ρ) (c6 fg ft fe (fun as ρ'=>Q (.ov (.fl as)) (ρ'.drop no)) (no+i) ds ds [])
 | none=>False
section
variable {K:Frag} 
theorem uC (hj0:μ[j0]?=some i0)(hix:∀ j ∈ ixs,j < μ.length)(hg:GF K (muC no ixs μ) T g fg)(hT:∀ i ∈ T,i < no)
  (hc:TF K (muC no ixs μ) tc fc) (he:EF K (muC no ixs μ) te fe):EF K μ (dm no ixs (kq K (cO j0)) g tc te) (lI no i0 fg fc fe):=⟨by
 intro F Z H τ σ ρ A Q P vw R h q
 unfold lI at h
 split at h
 case h_2=>exact h.elim
 rename_i ds e0
 obtain ⟨a0,xs0,g1,g2,g3,_⟩:=R.mutL e0
 refine ⟨.ref a0,(vw j0 i0 hj0).1.trans g1,a0,rfl,⟨xs0,SqL.of g2⟩,?_⟩
 have h1:=h
 rw [cE] at h1
 have R1:=R
 have s1:Same F F:=Same.refl _
 have own:∀ {F' H' σ' ρ' A'},Rel K F' Z H' σ' ρ' A'->(∀ i,no<=i->σ'[i]?=(List.replicate no none++σ)[i]?)->unL ρ' (no+i0)=some ds->∃ xs,H' a0=some (.lst xs)/\Dens K F' xs ds:=by
  intro F' H' σ' ρ' A' R' k e
  obtain ⟨b,ys,q1,q2,q3,_⟩:=R'.mutL e
  rw [k (no+i0) (by nofun),List.getElem?_append_right (by simp),aaA,abm,g1] at q1
  cases q1
  exact ⟨ys,q2,q3⟩
 intro a ha
 have hF1:F a=none:=R1.fh.free ha
 have hZ1:Z a=none:=R1.zh.free ha
 have hA1:a ∉ A:=fun z=>by
  obtain ⟨u,hu⟩:=R1.sl.live a z
  rw [ha] at hu; cases hu
 have R1':Rel K F Z (upd H a (.lst [])) (List.replicate no none++σ) (List.replicate no none++ρ) A:=by
  have:=R1.write (o:=.lst []) hA1 hF1 hZ1
  exact ⟨this.sl.none_app no,this.nd,this.fr,this.fh,this.zh,this.dj⟩
 have hfin:∀ F' H' σ' ρ' A' acc as,Same F F'->Rel K F' Z H' σ' ρ' A'->(∀ i,no<=i->σ'[i]?=(List.replicate no none++σ)[i]?)->H' a=some (.lst acc)->F' a=none->a ∉ A'->Dens K F' acc as->P (.ov (.fl as)) (ρ'.drop no)->Q (.ref a) H':=by
  intro F' H' σ' ρ' A' acc as s' R' k ha' hF' hA' dn p
  obtain ⟨A2,B2,e2,sl2⟩:=R'.sl.dropN no
  have es:σ'.drop no=σ:=by
   apply List.ext_getElem?
   intro i
   rw [List.getElem?_drop,k (no+i) (by nofun),List.getElem?_append_right (by simp),aaA,abm]
  rw [es] at sl2
  have m2:∀ b ∈ A2,b ∈ A':=fun b hb=>by rw [e2]; exact List.mem_append.mpr (.inr hb)
  have R2:Rel K F' Z H' σ (ρ'.drop no) A2:=⟨sl2,by have:=R'.nd; rw [e2,List.nodup_append] at this; exact this.2.1,fun b hb=>R'.fr b (m2 b hb),R'.fh,R'.zh,R'.dj⟩
  exact q _ _ _ _ _ _ [a] p (s1.trans s') R2 (.fl ha' dn) ⟨by simp,fun b hb=>by
   have:b=a:=(by exists hb)
   subst this
   exact ⟨hF',hZ1,fun z=>hA' (m2 _ z)⟩⟩
 refine ⟨fun i k acc τ' H'=>k=ds.length - i/\i<=ds.length/\∃ F' ρ' A' σ' as,Same F F'/\Rel K F' Z H' σ' ρ' A'/\View (muC no ixs μ) τ' σ'/\(∀ i,no<=i->σ'[i]?=(List.replicate no none++σ)[i]?)/\H' a=some (.lst acc)/\F' a=none/\a ∉ A'/\Dens K F' acc as /\
   c6 fg fc fe (fun as ρ'=>P (.ov (.fl as)) (ρ'.drop no)) (no+i0) ds (ds.drop i) as ρ',
  ⟨_,rfl,aaq _,F,_,A,_,[],Same.refl _,R1',gb vw hix,fun _ _=>rfl,ad,hF1,hA1,.nil,by rw [aaZ]; exact h1⟩,?_⟩
 rintro i k acc τ' H' ⟨rfl,hle,F',ρ',A',σ',as,s',R',vw',kp,hD,hFD,hAD,dn,h'⟩
 by_cases hlt:i < ds.length
 ·rw [aax hlt,hX] at h'
  obtain ⟨hu,h'⟩:=h'
  obtain ⟨ys,hy1,hy2⟩:=own R' kp hu
  refine .inr ⟨(by
   obtain ⟨y,z1,z2⟩:=hy2.get (List.getElem?_eq_getElem hlt)
   exact ⟨ys,y,SqL.of hy1,z1⟩),fun acc τ' H'=>∃ F' ρ' A' σ' as,Same F F'/\Rel K F' Z H' σ' ρ' A'/\View (muC no ixs μ) τ' σ'/\(∀ i,no<=i->σ'[i]?=(List.replicate no none++σ)[i]?)/\H' a=some (.lst acc)/\F' a=none/\a ∉ A'/\Dens K F' acc as /\
   c6 fg fc fe (fun as ρ'=>P (.ov (.fl as)) (ρ'.drop no)) (no+i0) ds (ds.drop (i+1)) as ρ',fun acc' σ2 H2 z=>⟨_,by nofun,rfl,hlt,z⟩,fun x H2 y=>?_⟩
  obtain ⟨rfl,y⟩:=y
  obtain ⟨d,hd,dx⟩:=hy2.get' (y ys (SqL.of hy1))
  rw [List.getElem?_eq_getElem hlt] at hd
  cases hd
  refine hg.h vw' R' dx h' fun τ2 σ2 ρ2 A2 p2 vw2 R2 k2 kl2 _ m2=>?_
  have kp2:∀ i,no<=i->σ2[i]?=(List.replicate no none++σ)[i]?:=fun i hi=>by
   rw [k2 i fun z=>by have:=hT i z; nofun]; exact kp i hi
  have fD:Fresh F' Z A2 [a]:=⟨by simp,fun b hb=>by
   have:b=a:=(by exists hb)
   subst this
   exact ⟨hFD,hZ1,fun z=>hAD (m2 _ z)⟩⟩
  obtain ⟨Z',sz,R2',zl,back⟩:=R2.hold (B:=[a]) (fun b hb=>by
   have:b=a:=(by exists hb)
   subst this
   exact ⟨_,hD⟩) fD
  refine hc.h vw2 R2' p2 fun b ρ3 F3 H3 A3 p3 s3 R3=>?_
  cases b with
  | false =>
   replace p3:=sr p3
   rw [if_neg Bool.false_ne_true]
   obtain ⟨R3',f3,k3⟩:=back _ _ _ _ s3 R3
   have fa:=f3.fr a (by simp)
   exact ⟨F3,ρ3,A3,σ2,as,s'.trans s3,R3',vw2,kp2,k3 a _ (by simp) hD,fa.1,fa.2.2,dn.mono s3,p3⟩
  | true =>
   replace p3:=sq p3
   rw [if_pos rfl]
   refine he.h vw2 R3 p3 fun r ρ4 v F4 H4 A4 B4 p4 s4 R4 v4 f4=>?_
   split at p4
   ·rename_i y ρ5 e5
    obtain ⟨F5,A5,s5,R5,dy,_,_⟩:=R4.frz v4 f4 e5
    obtain ⟨R5',f5,k5⟩:=back _ _ _ _ ((s3.trans s4).trans s5) R5
    have fa:=f5.fr a (by simp)
    refine ⟨k5 a _ (by simp) hD,by rw [dn.length]; exact p4.1,F5,ρ5,A5,σ2,as++[y],((s'.trans s3).trans s4).trans s5,R5'.write fa.2.2 fa.1 hZ1,vw2,kp2,ad,fa.1,fa.2.2,(dn.mono ((s3.trans s4).trans s5)).snoc dy,p4.2⟩
   ·exact p4.elim
 ·have e:i=ds.length:=by nofun
  subst e
  rw [aa3,hV] at h'
  obtain ⟨hu,h'⟩:=h'
  obtain ⟨ys,hy1,hy2⟩:=own R' kp hu
  exact .inl ⟨⟨ys,SqL.of hy1,by rw [hy2.length]; exact aae _⟩,hfin _ _ _ _ _ _ _ s' R' kp hD hFD hAD dn h'⟩⟩
theorem qi (h:j < n)(hix:∀ j ∈ ixs,j < (List.range n).length)(hg:GF K (muC no ixs (List.range n)) T g fg)(hT:∀ i ∈ T,i < no)
  (hc:TF K (muC no ixs (List.range n)) tc fc) (he:EF K (muC no ixs (List.range n)) te fe):EF K (List.range n) (dm no ixs (kq K (cO j)) g tc te) (lI no j fg fc fe):=uC (by simp [h]) hix hg hT hc he
theorem qj {ft:FT}{P:List D->FSt->Prop}{sl:Nat}{all as0:List D}(I:Nat->List D->FSt->Prop)(hu:∀ i as ρ,I i as ρ->unL ρ sl=some all)(h0:I 0 as0 ρ)
  (hs:∀ (i:Nat) (d:D) (as:List D) (ρ:FSt) (R:List D->FSt->Prop),all[i]?=some d->I i as ρ->(∀ as' ρ',I (i+1) as' ρ'->R as' ρ') ->
   fg d ρ fun ρ1=>ft ρ1 fun b ρ2=>br b (fe ρ2 fun r ρ3=>match fzR r ρ3 with
    | some (y,ρ4)=>as.length < sizeLine/\R (as++[y]) ρ4
    | none=>False) (R as ρ2))
  (hd:∀ as ρ,I all.length as ρ->P as ρ):c6 fg ft fe P sl all all as0 ρ:=by
 have main:∀ (k i:Nat) (as:List D) (ρ:FSt),i+k=all.length->I i as ρ->c6 fg ft fe P sl all (all.drop i) as ρ:=by
  intro k
  induction k with
  | zero =>
   intro i as ρ e h
   have:i=all.length:=by nofun
   subst this
   rw [aa3,hV]
   exact ⟨hu _ _ _ h,hd as ρ h⟩
  | succ k ih =>
   intro i as ρ e h
   have hi:i < all.length:=by nofun
   rw [aax hi,hX]
   exact ⟨hu _ _ _ h,hs i all[i] as ρ _ (List.getElem?_eq_getElem hi) h fun as' ρ' h'=>ih (i+1) as' ρ' (by nofun) h'⟩
 have:=main all.length 0 as0 ρ (by nofun) h0
 rwa [aaZ] at this
end
section
variable {K:Frag}
@[irreducible] def cMinD:List D->(OV->Prop)->Prop
 | [.dct ks _],P=>∃ zs:List Str,ks=zs.map Sum.inr/\zs≠[]/\∀ z ∈ zs,P (.fz (.str z))
 | _,_=>False
end
def qk (K:Frag):List V->Hp->VK->Prop:=fun xs H Q=>∃ p kvs,xs=[.ref p]/\Rd H p (.dK kvs)/\∀ l,H l=none->Q (.ref l) (upd H l (.dK kvs))
theorem nF:CallR X (.type "dict") (qk X.K):=by
 intro pins s σ H xs us Q I r h
 obtain ⟨p,kvs,rfl,hq,q⟩:=h
 obtain ⟨u,rfl,rx⟩:=du r
 cases rx
 exact tp I hq fun l s' hl I'=>⟨.ref l,_,I',rfl,q l hl⟩
theorem uD (K:Frag)(h:X.K=K):BCall X (.type "dict") (qk K):=by subst h; exact ⟨nF⟩
section
variable {K:Frag}
def Aq:List D->(OV->Prop)->Prop
 | [.dct ks ds],P=>P (.fd ks ds)
 | _,_=>False
theorem Ar:CallF K (qk K) Aq:=⟨by
 intro F H xs ds Q P s ha f n
 unfold Aq at f
 split at f
 ·rename_i ks ds'
  obtain ⟨x,rfl,hx⟩:=bT ha
  obtain ⟨a,ys,rfl,h1,h2,h3⟩:=hx.asD s
  exact ⟨a,ys,rfl,h1,fun q hq=>n _ (.ref q) F _ [q] f (Pure.new s hq) (.fd ad h2 h3) (New.one hq (s.free hq))⟩
 ·exact f.elim⟩
end
section
variable  {pins:List (Addr×Obj)} {σ:St}  {s:Shared} 
theorem Inv.frozen (I:Inv X pins σ H s)(e:H a=some (.dK kvs))(ho:s.heap.get? a=some o):Inv X pins σ (upd H a (.frz o (.dK kvs))) s:=by
 have st:∀ {b u},ObjOk X.prog X.w H s.heap b u->ObjOk X.prog X.w (upd H a (.frz o (.dK kvs))) s.heap b u:=fun x=>x.stay (fun _ _ _ q=>q) (fun c q=>by
  rw [ae fun z=>by rw [z,e] at q; cases q]; exact q) fun c xs q=>by
  rw [ae fun z=>by rw [z,e] at q; cases q]; exact q
 exact I.un (h':=s.heap) (t':=s.toks) (H':=upd H a (.frz o (.dK kvs))) ⟨fun b ob q _ _ _=>q,fun b ob q _ _ _=>⟨ob.slots,q⟩,fun b ob q n _=>by rw [ae fun z=>by rw [z,e] at n; cases n]; exact n,fun b ob q _=>⟨ob,q⟩,
  fun b xs q=>by rw [ae fun z=>by rw [z,e] at q; cases q]; exact q,fun b ob u q=>by rw [ae fun z=>by rw [z,e] at q; cases q]; exact q,fun b ps q=>⟨#[],by rw [ae (fun z=>by rw [z,e] at q; cases q),q]; simp⟩⟩ (fun b u q=>by
  by_cases hb:b=a
  ·subst hb
   rw [ad] at q
   cases q
   exact ⟨ho,st (I.hok b _ e)⟩
  ·rw [ae hb] at q
   exact st (I.hok b u q))
theorem Inv.thaw (I:Inv X pins σ H s)(e:H a=some (.frz o (.dK kvs)))(hn:∀ o' u',X.H₀ a≠some (.frz o' u')):Inv X pins σ (upd H a (.dK kvs)) s:=by
 have nn:∀ b,H b=none->upd H a (.dK kvs) b=none:=fun b h=>by rw [ae fun z=>by rw [z,e] at h; cases h]; exact h
 have st:∀ {b u},ObjOk X.prog X.w H s.heap b u->ObjOk X.prog X.w (upd H a (.dK kvs)) s.heap b u:=fun x=>x.stay (fun _ _ _ q=>q) (fun c q=>by
  rw [ae fun z=>by rw [z,e] at q; cases q]; exact q) fun c xs q=>by
  rw [ae fun z=>by rw [z,e] at q; cases q]; exact q
 refine ⟨I.ok,I.os,I.bare,⟨I.base.keep,I.base.slot,fun b ob q n hx=>nn b (I.base.free b ob q n hx),I.base.there,fun b xs q=>?_,fun b ob u q=>?_,fun b ps q=>?_⟩,I.loc,I.cell,nn _ I.free,fun x c q=>nn c (I.freeC x c q),fun p hp=>?_,fun b u q=>?_,I.len⟩
 ·have h:=I.base.tups b xs q
  rw [ae fun z=>by rw [z,e] at h; cases h]; exact h
 ·have h:=I.base.frzs b ob u q
  rw [ae (fun z=>hn ob u (by rw [← z]; exact q))]; exact h
 ·obtain ⟨m,h⟩:=I.base.tbls b ps q
  exact ⟨m,by rw [ae fun z=>by rw [z,e] at h; cases h]; exact h⟩
 ·obtain ⟨h1,h2,h3⟩:=I.pin p hp
  exact ⟨h1,nn _ h2,h3⟩
 ·by_cases hb:b=a
  ·subst hb
   rw [ad] at q
   cases q
   exact st (I.hok b _ e).2
  ·rw [ae hb] at q
   exact st (I.hok b u q)
def Cq (kv:Key×V):V:=kV kv.1
def E3 (kv:Key×V):V:=kv.2
def Itd (pk:Key×V->V)(a:Addr)(o:Obj)(kvs:List (Key×V)):It :=
 ⟨fun i H=>H a=some (.frz o (.dK kvs))/\i < kvs.length,fun i H x H'=>H'=H/\∃ kv,kvs[i]?=some kv/\x=pk kv,fun i H=>H a=some (.frz o (.dK kvs))/\i=kvs.length⟩
theorem Ij (r:KV kvs vs):∀ {i:Nat} {kv:Key×V},kvs[i]?=some kv->∃ x,vs[i]?=some (kv.1,x):=by
 induction r with
 | nil=>intro i kv h; simp at h
 | @cons p q ps qs h t ih =>
  intro i kv e
  cases i with
  | zero=>simp at e; subst e; exact ⟨q.2,by simp [h.1]⟩
  | succ i=>obtain ⟨x,hx⟩:=ih (i:=i) (kv:=kv) (by exists e); exact ⟨x,(by exists hx)⟩
theorem iO {es:Array DictEntry}(I:Inv X pins σ H s)(hd:o.data=.dict es ep)(e:H a=some (.frz o (.dK kvs))):∃ vs,KV kvs vs/\kvs.length=vs.length/\s.heap.DictAt (ai X.prog X.w) a vs ep:=by
 obtain ⟨ho,hz,hS,vs,rv,o',es',ep',h1,h2,h3,h4⟩:=(show ObjOk X.prog X.w H s.heap a (.frz o (.dK kvs)) from I.hok a _ e)
 rw [ho] at h1
 cases h1
 rw [hd] at h3
 cases h3
 exact ⟨vs,rv,aa1 rv,o,es,ho,h2,hd,h4⟩
theorem ql {K:Frag}{es:Array DictEntry}(hd:o.data=.dict es ep):Turn P w K tg (Itd Cq a o kvs) [it] it (fun i h=>h.IsKeyIter it a i kvs.length ep) where
 mem:=by simp
 obj:=fun i h st b hb=>by
  have e:b=it:=(by exists hb)
  subst e
  obtain ⟨o,e,c,d⟩:=st
  exact ⟨o,e,fun v z=>by rw [d] at z; cases z⟩
 keep:=fun i h h' st k=>st.at fun o e=>k it (by simp) o e
 item:=by
  intro X hP hw hK hc i pins s σ H E I hf st hg
  subst hP hw hK
  obtain ⟨e,hlt⟩:=hg
  obtain ⟨vs,rv,hl,hat⟩:=iO I hd e
  obtain ⟨x,hx⟩:=Ij rv (List.getElem?_eq_getElem hlt)
  obtain ⟨f0,f1,f2,f3,f4,f5⟩:=hf it (by simp)
  have st0:s.heap.IsKeyIter it a i vs.length ep:=hl ▸ st
  refine wpAny_pyNext_dict_item (knd:=ai X.prog X.w) st0 hat hx fun key h' hkey st' sb=>?_
  have I1:Inv X pins σ H { s with heap:=h' }:=I.turned (t':=s.toks) (fun b o hb e=>(sb.2 b hb).trans e) f0 f1 f3 f4 f5
  rw [← hl] at st'
  obtain ⟨o2,e2,c2,d2⟩:=id st'
  refine ⟨key,rfl,mI (s:={ s with heap:=h' }) e2 c2 d2 (by decide) ⟨kV kvs[i].1,H,I1,?_,⟨rfl,_,List.getElem?_eq_getElem hlt,rfl⟩,st',fun b hb=>(hf b hb).1⟩⟩
  rcases aJ (show ik kvs[i].1 key=true from hkey) with ⟨j,t,q1,q2⟩ | ⟨z,t,q1,q2⟩
  ·rw [q1,q2]; exact ⟨t,rfl⟩
  ·rw [q1,q2]; exact ⟨t,rfl⟩
 done:=by
  intro X hP hw hK hc i pins s σ H E I hf st hg
  subst hP hw hK
  obtain ⟨e,hlt⟩:=hg
  obtain ⟨vs,rv,hl,hat⟩:=iO I hd e
  obtain ⟨f0,f1,f2,f3,f4,f5⟩:=hf it (by simp)
  have st0:s.heap.IsKeyIter it a i vs.length ep:=hl ▸ st
  exact wpAny_pyNext_dict_end (knd:=ai X.prog X.w) (I.ok.hd hc) st0 hat (by simp; nofun) fun h' eb=>⟨rfl,I.turned (t':=s.toks) (fun b o hb e=>eb b o hb e) f0 f1 f3 f4 f5⟩
 self:=fun _ _ _ _ _ st h=>wpAny_pyIter_keyiter st h
theorem E4 (r:KV kvs vs):∀ {i:Nat} {kv:Key×V},kvs[i]?=some kv->∃ x,vs[i]?=some (kv.1,x)/\RelV kv.2 x:=by
 induction r with
 | nil=>intro i kv h; simp at h
 | @cons p q ps qs h t ih =>
  intro i kv e
  cases i with
  | zero=>simp at e; subst e; exact ⟨q.2,by simp [h.1],h.2⟩
  | succ i=>obtain ⟨x,hx,hr⟩:=ih (i:=i) (kv:=kv) (by exists e); exact ⟨x,(by exists hx),hr⟩
theorem qm {K:Frag}{es:Array DictEntry}(hd:o.data=.dict es ep):Turn P w K tg (Itd E3 a o kvs) [it] it (fun i h=>h.IsValIter it a i kvs.length ep) where
 mem:=by simp
 obj:=fun i h st b hb=>by
  have e:b=it:=(by exists hb)
  subst e
  obtain ⟨o,e,c,d⟩:=st
  exact ⟨o,e,fun v z=>by rw [d] at z; cases z⟩
 keep:=fun i h h' st k=>st.at fun o e=>k it (by simp) o e
 item:=by
  intro X hP hw hK hc i pins s σ H E I hf st hg
  subst hP hw hK
  obtain ⟨e,hlt⟩:=hg
  obtain ⟨vs,rv,hl,hat⟩:=iO I hd e
  obtain ⟨x,hx,hr⟩:=E4 rv (List.getElem?_eq_getElem hlt)
  obtain ⟨f0,f1,f2,f3,f4,f5⟩:=hf it (by simp)
  have st0:s.heap.IsValIter it a i vs.length ep:=hl ▸ st
  refine wpAny_pyNext_values_item (knd:=ai X.prog X.w) st0 hat hx fun h' st' sb=>?_
  have I1:Inv X pins σ H { s with heap:=h' }:=I.turned (t':=s.toks) (fun b o hb e=>(sb.2 b hb).trans e) f0 f1 f3 f4 f5
  rw [← hl] at st'
  obtain ⟨o2,e2,c2,d2⟩:=id st'
  exact ⟨x,rfl,mI (s:={ s with heap:=h' }) e2 c2 d2 (by decide) ⟨kvs[i].2,H,I1,hr,⟨rfl,_,List.getElem?_eq_getElem hlt,rfl⟩,st',fun b hb=>(hf b hb).1⟩⟩
 done:=by
  intro X hP hw hK hc i pins s σ H E I hf st hg
  subst hP hw hK
  obtain ⟨e,hlt⟩:=hg
  obtain ⟨vs,rv,hl,hat⟩:=iO I hd e
  obtain ⟨f0,f1,f2,f3,f4,f5⟩:=hf it (by simp)
  have st0:s.heap.IsValIter it a i vs.length ep:=hl ▸ st
  exact wpAny_pyNext_values_end (knd:=ai X.prog X.w) (I.ok.hd hc) st0 hat (by simp; nofun) fun h' eb=>⟨rfl,I.turned (t':=s.toks) (fun b o hb e=>eb b o hb e) f0 f1 f3 f4 f5⟩
 self:=fun _ _ _ _ _ st h=>wpAny_pyIter_valiter st h
def jM (pk:Key×V->V)(tl:TE):TI:=fun σ H R=>tl σ H fun x H1=>∃ a kvs,x=.ref a/\H1 a=some (.dK kvs)/\∀ o,R (Itd pk a o kvs) (upd H1 a (.frz o (.dK kvs)))
theorem As (hl:PE X l tl):PI X tg l (jM Cq tl):=by
 intro pins s σ H R I h
 refine thn (hl pins s σ H _ I h) fun v s1 ⟨x,H1,I1,r1,q1⟩=>?_
 obtain ⟨a,kvs,e,hq,q⟩:=q1
 subst e
 cases r1
 obtain ⟨hz,hS,vs,rv,o,es,ep,h1,h2,h3,h4⟩:=(show ObjOk X.prog X.w H1 s1.heap a (.dK kvs) from I1.hok a _ hq)
 have hlv:kvs.length=vs.length:=aa1 rv
 refine wpAny_pyIter_dict (knd:=ai X.prog X.w) hS ⟨o,es,h1,h2,h3,h4⟩ ?_
 have I2:=I1.kept (t':=s1.toks) (h':=s1.heap.push { cls:=.type "dict_keyiterator", data:=.fields #[.ref a,.int 0 0,.int vs.length 0,.int ep 0] }) fun b o e=>Heap.get?_push_of_some _ e
 have I3:=I2.frozen hq (Heap.get?_push_of_some _ h1)
 refine ⟨s1.heap.objs.size,[s1.heap.objs.size],_,_,_,rfl,I3,ql h3,⟨_,Heap.get?_push_size _ rfl,rfl,by rw [hlv]; rfl⟩,fun b hb=>?_,q o⟩
 have e:b=s1.heap.objs.size:=(by exists hb)
 subst e
 have hf:=I1.hok.fresh (aae s1.heap.objs.size)
 exact I1.fpOk (aae _) (by rw [ae fun z=>by rw [z,hq] at hf; cases hf]; exact hf)
theorem At (hl:BE X l tl):BI X tg l (jM Cq tl):=⟨As hl.h⟩
theorem Au    (hl:PE X l tl) (hbase:attributeBase l "values" X.env (eval l X.env)=eval l X.env) (hline:(apos.endLine == cpos.line)=true):PI X tg (.Call (.Attribute l "values" apos) [] [] cpos) (jM E3 tl):=by
 intro pins s σ H R I h
 refine wpAny_Call_method0_late hbase hline (thn (hl pins s σ H _ I h) fun v s1 ⟨x,H1,I1,r1,q1⟩=>?_)
 obtain ⟨a,kvs,e,hq,q⟩:=q1
 subst e
 cases r1
 obtain ⟨hz,hS,vs,rv,o,es,ep,h1,h2,h3,h4⟩:=(show ObjOk X.prog X.w H1 s1.heap a (.dK kvs) from I1.hok a _ hq)
 have hlv:kvs.length=vs.length:=aa1 rv
 obtain ⟨t1,t2,_⟩:=lc I1 (.inl ⟨kvs,.inl hq⟩)
 refine ⟨"dict", "dict.values", abl,PySem.F.slot_dict_values,PySem.F.type_dict_values,t1,t2,?_⟩
 refine aaW rfl (PySem.evalArgs_none ?_)
 have hdo:s1.heap.DictOf (ai X.prog X.w) a vs:=⟨o,es,ep,h1,h2,h3,h4⟩
 refine call_meetsIn PySem.F.slot_dict_values hdo.typeIs PySem.F.entry_dict_values (PySem.F.args_dict_values_1 _) (meets_dict_values (ai X.prog X.w) a hS) ⟨⟨vs,hdo⟩,?_⟩
 have hp1:∀ b u,s1.heap.get? b=some u->(s1.heap.push { cls:=.type "dict_values", data:=.fields #[.ref a] }).get? b=some u:=fun b u e=>Heap.get?_push_of_some _ e
 refine wpAny_pyIter_values (knd:=ai X.prog X.w) (v:=s1.heap.objs.size) (d:=a) ⟨_,Heap.get?_push_size _ rfl,rfl,rfl⟩ ⟨o,es,hp1 a o h1,h2,h3,h4⟩ ?_
 have I2:=I1.kept (t':=s1.toks) (h':=(s1.heap.push { cls:=.type "dict_values", data:=.fields #[.ref a] }).push { cls:=.type "dict_valueiterator", data:=.fields #[.ref a,.int 0 0,.int vs.length 0,.int ep 0] }) fun b o e=>Heap.get?_push_of_some _ (hp1 b o e)
 have I3:=I2.frozen hq (Heap.get?_push_of_some _ (hp1 a o h1))
 refine ⟨(s1.heap.push { cls:=.type "dict_values", data:=.fields #[.ref a] }).objs.size,[(s1.heap.push { cls:=.type "dict_values", data:=.fields #[.ref a] }).objs.size],_,_,_,rfl,I3,qm h3,⟨_,Heap.get?_push_size _ rfl,rfl,by rw [hlv]; rfl⟩,fun b hb=>?_,q o⟩
 have e:b=(s1.heap.push { cls:=.type "dict_values", data:=.fields #[.ref a] }).objs.size:=(by exists hb)
 subst e
 have hle:s1.heap.objs.size<=(s1.heap.push { cls:=.type "dict_values", data:=.fields #[.ref a] }).objs.size:=by rw [aaR]; exact aaT _
 have hf:=I1.hok.fresh hle
 exact I1.fpOk hle (by rw [ae fun z=>by rw [z,hq] at hf; cases hf]; exact hf)
theorem Av    (hl:BE X l tl) (hbase:attributeBase l "values" X.env (eval l X.env)=eval l X.env) (hline:(apos.endLine == cpos.line)=true):BI X tg (.Call (.Attribute l "values" apos) [] [] cpos) (jM E3 tl):=⟨Au hl.h hbase hline⟩
def nG (t:TE):TE:=fun σ H Q=>t σ H fun v H'=>∃ a o kvs,H a=some (.dK kvs)/\H' a=some (.frz o (.dK kvs))/\Q v (upd H' a (.dK kvs))
theorem Inv.nofrz (I:Inv X pins σ H s)(e:H a=some (.dK kvs)):∀ o' u',X.H₀ a≠some (.frz o' u'):=fun o' u' z=>by
 have:=I.base.frzs a o' u' z
 rw [e] at this; cases this
theorem Aw (h:BE X e t):BE X e (nG t):=⟨by
 intro pins s σ H Q I q
 refine thn (h.h pins s σ H _ I q) fun v s1 ⟨x,H1,I1,r1,a,o,kvs,e0,e1,q1⟩=>?_
 exact ⟨x,_,I1.thaw e1 (I.nofrz e0),r1,q1⟩⟩
theorem Ax (h:BS X st (nX t (dY i))):BS X st (nX (nG t) (dY i)):=⟨by
 intro pins s σ H D I q
 refine thn (h.h pins s σ H { D with nx:=fun σ' H'=>∃ a o kvs,H a=some (.dK kvs)/\H' a=some (.frz o (.dK kvs))/\D.nx σ' (upd H' a (.dK kvs)) } I q) fun f s1 q1=>?_
 cases f with
 | next =>
  obtain ⟨σ',H',I',a,o,kvs,e0,e1,q2⟩:=q1
  exact ⟨σ',_,I'.thaw e1 (I.nofrz e0),q2⟩
 | brk=>exact q1
 | cont=>exact q1
 | ret u=>exact q1⟩
end
def fzo:Option OV->Option OV
 | some (.fz d)=>some (.fz d)
 | _=>none
def lJ (sel:List Key->List D->List D)(no i:Nat)(fg:FG)(ft:FT)(fe:FE):FE:=fun ρ Q=>match unD ρ i with
 | some (ks,ds)=>gF (List.replicate no none++(ρ.map fzo).set i (some (.fz (.dct ks ds)))) (cW fg ft fe (fun as _=>(∃ zs:List Str,as=zs.map .str)/\Q (.ov (.fl as)) ρ) (sel ks ds) [])
 | none=>False
def Ik:List Key->List D->List D:=fun ks _=>ks.map wW
def Il:List Key->List D->List D:=fun _ ds=>ds
def wY (no i:Nat)(fg:FG)(ft:FT)(fe:FE):FE:=lJ Ik no i fg ft fe
section
variable {K:Frag} 
theorem Slots.fzo {F H:Hp}:∀ {σ:St} {ρ:FSt} {A:List Addr},Slots K F H σ ρ A->Slots K F H σ (ρ.map fzo) []
 | _,_,_,.nil=>.nil
 | _,_,_,.skip t=>.skip (Slots.fzo t)
 | _,_,_,.has (o:=o) h t=>by
  cases h with
  | fz d=>exact .has (A:=[]) (B:=[]) (.fz d) (Slots.fzo t)
  | _=>exact .skip (Slots.fzo t)
theorem Ay (k:Key):Den K F (kV k) (wW k):=by
 cases k with
 | inl i=>exact .int i
 | inr z=>exact .str z
def Az (K:Frag)(pk:Key×V->V)(sel:List Key->List D->List D):Prop:=∀ (F:Hp) (ys:List (Key×V)) ks ds,ys.map (·.1)=ks->Dens K F (ys.map (·.2)) ds->(sel ks ds).length=ys.length/\∀ (i:Nat) kv,ys[i]?=some kv->∃ e,(sel ks ds)[i]?=some e/\Den K F (pk kv) e
theorem AA:Az K Cq Ik:=fun F ys ks ds h1 h2=>⟨by show (ks.map wW).length=_; rw [← h1,List.length_map,List.length_map],fun i kv e=>⟨wW kv.1,by show (ks.map wW)[i]?=_; rw [← h1,aat,List.getElem?_map,e]; rfl,Ay kv.1⟩⟩
theorem AB:Az K E3 Il:=fun F ys ks ds h1 h2=>⟨by show ds.length=_; rw [← h2.length,List.length_map],fun i kv e=>h2.get' (by rw [List.getElem?_map,e]; rfl)⟩
theorem lK {pk:Key×V->V}{sel:List Key->List D->List D}(hs:Az K pk sel)(hj0:μ[j0]?=some i0)(hix:∀ j ∈ ixs,j < μ.length)(hg:GF K (muC no ixs μ) T g fg)(hT:∀ i ∈ T,i < no)
  (hc:TF K (muC no ixs μ) tc fc) (he:EF K (muC no ixs μ) te fe):EF K μ (nG (dm no ixs (jM pk (cO j0)) g tc te)) (lJ sel no i0 fg fc fe):=⟨by
 intro F Z H τ σ ρ A Q P vw R h q
 unfold lJ at h
 split at h
 case h_2=>exact h.elim
 rename_i ks ds e0
 obtain ⟨a0,ys,g1,g2,g3,g4,_⟩:=R.mutD e0
 have ha0:a0 ∈ A:=by
  have e:=lx e0
  obtain ⟨v,B,A',h1,h2,h3,h4⟩:=R.sl.take e
  rw [g1] at h1
  cases h1
  cases h2 with
  | fd=>exact h3.mem_iff.mpr (by simp)
 obtain ⟨hF0,hZ0⟩:=R.fr a0 ha0
 refine ⟨.ref a0,(vw j0 i0 hj0).1.trans g1,a0,ys,rfl,g2,fun o D hD=>?_⟩
 rw [cE] at h
 have hDa:D≠a0:=fun z=>by rw [z,ad] at hD; cases hD
 have hDH:H D=none:=by rw [ae hDa] at hD; exact hD
 -- what is one's own is held
 obtain ⟨Z',hin,hout⟩:=mix (A.filter fun b=>decide (b≠a0)) H Z
 have inB:∀ b,b ∈ A->b≠a0->b ∈ A.filter fun b=>decide (b≠a0):=fun b h1 h2=>List.mem_filter.mpr ⟨h1,decide_eq_true h2⟩
 have ofB:∀ b,b ∈ (A.filter fun b=>decide (b≠a0))->b ∈ A/\b≠a0:=fun b hb=>⟨(List.mem_filter.mp hb).1,of_decide_eq_true (List.mem_filter.mp hb).2⟩
 have sz:Same Z Z':=fun b u z=>by
  rw [hout b fun y=>by rw [(R.fr b (ofB b y).1).2] at z; cases z]; exact z
 have zA:Z' a0=none:=by rw [hout a0 fun y=>(ofB a0 y).2 rfl]; exact hZ0
 have zD:Z' D=none:=by
  rw [hout D fun y=>by
   obtain ⟨u,hu⟩:=R.sl.live D (ofB D y).1
   rw [hDH] at hu; cases hu]
  exact R.zh.free hDH
 have fD0:F D=none:=R.fh.free hDH
 let F1:Hp:=upd F a0 (.frz o (.dK ys))
 let H1:Hp:=upd (upd H a0 (.frz o (.dK ys))) D (.lst [])
 have sF:Same F F1:=fun b u z=>by rw [show F1 b=F b from ae fun y=>by rw [y,hF0] at z; cases z]; exact z
 have fh1:Same F1 H1:=fun b u z=>by
  have bD:b≠D:=fun y=>by rw [y,show F1 D=F D from ae hDa,fD0] at z; cases z
  rw [show H1 b=upd H a0 (.frz o (.dK ys)) b from ae bD]
  by_cases hb:b=a0
  ·subst hb; rw [ad]; rw [show F1 b=some (.frz o (.dK ys)) from ad] at z; exact z
  ·rw [ae hb]; rw [show F1 b=F b from ae hb] at z; exact R.fh b u z
 have zh1:Same Z' H1:=fun b u z=>by
  have bD:b≠D:=fun y=>by rw [y,zD] at z; cases z
  have ba:b≠a0:=fun y=>by rw [y,zA] at z; cases z
  rw [show H1 b=upd H a0 (.frz o (.dK ys)) b from ae bD,ae ba]
  by_cases hb:b ∈ A.filter fun b=>decide (b≠a0)
  ·rw [hin b hb] at z; exact z
  ·rw [hout b hb] at z; exact R.zh b u z
 have dj1:∀ b u,F1 b=some u->Z' b=none:=fun b u z=>by
  by_cases hb:b=a0
  ·rw [hb]; exact zA
  ·rw [show F1 b=F b from ae hb] at z
   rw [hout b fun y=>by rw [(R.fr b (ofB b y).1).1] at z; cases z]
   exact R.dj b u z
 have sl0:Slots K F1 H1 σ (ρ.map fzo) []:=(R.sl.fzo).keep sF fun _ _ z=>nomatch z
 have hi0:i0 < ρ.length:=(List.getElem?_eq_some_iff.mp (lx e0)).1
 have en:(ρ.map fzo)[i0]?=some none:=by rw [List.getElem?_map,lx e0]; rfl
 obtain ⟨A2,p2,sl2⟩:=sl0.put (i:=i0) (B:=[]) en g1 (.fz (.dct (.inr ⟨o,ad⟩) g3 (g4.mono sF)))
 have eA2:A2=[]:=(by exists p2)
 subst eA2
 have R1:Rel K F1 Z' H1 (List.replicate no none++σ) (List.replicate no none++(ρ.map fzo).set i0 (some (.fz (.dct ks ds)))) []:=⟨sl2.none_app no,aaB,fun _ z=>(nomatch z),fh1,zh1,dj1⟩
 have fD1:F1 D=none:=by rw [show F1 D=F D from ae hDa]; exact fD0
 have frzA:∀ {F' H' σ' ρ' A'},Same F1 F'->Rel K F' Z' H' σ' ρ' A'->H' a0=some (.frz o (.dK ys)):=fun s' R'=>R'.fh _ _ (s' _ _ ad)
 have hkl:(sel ks ds).length=ys.length:=(hs F ys ks ds g3 g4).1
 refine ⟨fun i k acc τ' H'=>k=ys.length - i/\i<=ys.length/\∃ F' ρ' A' σ' as,Same F1 F'/\Rel K F' Z' H' σ' ρ' A'/\View (muC no ixs μ) τ' σ'/\H' D=some (.lst acc)/\F' D=none/\D ∉ A'/\Dens K F' acc as /\
   cW fg fc fe (fun as _=>(∃ zs:List Str,as=zs.map .str)/\P (.ov (.fl as)) ρ) ((sel ks ds).drop i) as ρ',
  ⟨_,rfl,aaq _,F1,_,[],_,[],Same.refl _,R1,gb vw hix,ad,fD1,(fun z=>nomatch z),.nil,by rw [aaZ]; exact h⟩,?_⟩
 rintro i k acc τ' H' ⟨rfl,hle,F',ρ',A',σ',as,s',R',vw',hDl,hFD,hAD,dn,h'⟩
 by_cases hlt:i < ys.length
 ·have hlt':i < (sel ks ds).length:=by rw [hkl]; exact hlt
  rw [aax hlt',fZ] at h'
  refine .inr ⟨⟨frzA s' R',hlt⟩,fun acc τ' H'=>∃ F' ρ' A' σ' as,Same F1 F'/\Rel K F' Z' H' σ' ρ' A'/\View (muC no ixs μ) τ' σ'/\H' D=some (.lst acc)/\F' D=none/\D ∉ A'/\Dens K F' acc as /\
   cW fg fc fe (fun as _=>(∃ zs:List Str,as=zs.map .str)/\P (.ov (.fl as)) ρ) ((sel ks ds).drop (i+1)) as ρ',fun acc' σ2 H2 z=>⟨_,by nofun,rfl,hlt,z⟩,fun x H2 y=>?_⟩
  obtain ⟨rfl,kv,hkv,rfl⟩:=y
  obtain ⟨el,hel,del⟩:=(hs F ys ks ds g3 g4).2 i kv hkv
  have ekey:(sel ks ds)[i]=el:=by
   rw [List.getElem?_eq_getElem hlt'] at hel
   exact aaj hel
  rw [ekey] at h'
  refine hg.h vw' R' (del.mono (sF.trans s')) h' fun τ2 σ2 ρ2 A2 p2 vw2 R2 k2 kl2 _ m2=>?_
  have fD:Fresh F' Z' A2 [D]:=⟨by simp,fun b hb=>by
   have:b=D:=(by exists hb)
   subst this
   exact ⟨hFD,zD,fun z=>hAD (m2 _ z)⟩⟩
  obtain ⟨Z2,sz2,R2',zl,back⟩:=R2.hold (B:=[D]) (fun b hb=>by
   have:b=D:=(by exists hb)
   subst this
   exact ⟨_,hDl⟩) fD
  refine hc.h vw2 R2' p2 fun b ρ3 F3 H3 A3 p3 s3 R3=>?_
  cases b with
  | false =>
   replace p3:=sr p3
   rw [if_neg Bool.false_ne_true]
   obtain ⟨R3',f3,k3⟩:=back _ _ _ _ s3 R3
   have fa:=f3.fr D (by simp)
   exact ⟨F3,ρ3,A3,σ2,as,s'.trans s3,R3',vw2,k3 D _ (by simp) hDl,fa.1,fa.2.2,dn.mono s3,p3⟩
  | true =>
   replace p3:=sq p3
   rw [if_pos rfl]
   refine he.h vw2 R3 p3 fun r ρ4 v F4 H4 A4 B4 p4 s4 R4 v4 f4=>?_
   split at p4
   ·rename_i y ρ5 e5
    obtain ⟨F5,A5,s5,R5,dy,_,_⟩:=R4.frz v4 f4 e5
    obtain ⟨R5',f5,k5⟩:=back _ _ _ _ ((s3.trans s4).trans s5) R5
    have fa:=f5.fr D (by simp)
    refine ⟨k5 D _ (by simp) hDl,by rw [dn.length]; exact p4.1,F5,ρ5,A5,σ2,as++[y],((s'.trans s3).trans s4).trans s5,R5'.write fa.2.2 fa.1 zD,vw2,ad,fa.1,fa.2.2,(dn.mono ((s3.trans s4).trans s5)).snoc dy,p4.2⟩
   ·exact p4.elim
 ·have e:i=ys.length:=by nofun
  subst e
  rw [← hkl,aa3,fX] at h'
  obtain ⟨⟨zs,rfl⟩,h'⟩:=h'
  refine .inl ⟨⟨frzA s' R',rfl⟩,a0,o,ys,g2,frzA s' R',?_⟩
  have ex:=dn.strs_eq
  subst ex
  have sl3:Slots K F (upd H' a0 (.dK ys)) σ ρ A:=R.sl.keep (Same.refl _) fun b u hb hu=>by
   by_cases hba:b=a0
   ·subst hba; rw [ad]; rw [g2] at hu; exact hu
   ·rw [ae hba]
    exact R'.zh b u (by rw [hin b (inB b hb hba)]; exact hu)
  have R3:Rel K F Z (upd H' a0 (.dK ys)) σ ρ A:=⟨sl3,R.nd,R.fr,fun b u z=>by
   rw [ae fun y=>by rw [y,hF0] at z; cases z]
   exact R'.fh b u (s' b u (sF b u z)),fun b u z=>by
   rw [ae fun y=>by rw [y,hZ0] at z; cases z]
   exact R'.zh b u (sz b u z),R.dj⟩
  refine q _ _ _ F _ A [D] h' (Same.refl _) R3 (.fl (by rw [ae hDa]; exact hDl) (Dens.strs zs)) ⟨by simp,fun b hb=>?_⟩
  have:b=D:=(by exists hb)
  subst this
  exact ⟨fD0,R.zh.free hDH,fun z=>by
   obtain ⟨u,hu⟩:=R.sl.live b z
   rw [hDH] at hu; cases hu⟩⟩
theorem qo (h:j < n)(hix:∀ j ∈ ixs,j < (List.range n).length)(hg:GF K (muC no ixs (List.range n)) T g fg)(hT:∀ i ∈ T,i < no)
  (hc:TF K (muC no ixs (List.range n)) tc fc) (he:EF K (muC no ixs (List.range n)) te fe):EF K (List.range n) (nG (dm no ixs (jM Cq (cO j)) g tc te)) (wY no j fg fc fe):=lK AA (by simp [h]) hix hg hT hc he
end
theorem uE :BS X st n5:=⟨sE⟩
def cj:FS:=fun _ _=>False
theorem uF {K:Frag}{m:List Nat}:SF K n m n5 cj:=⟨fun _ _ _ h=>h.elim⟩
theorem gl {c:FT}{f g:FS}{E:FEnds}(I:FSt->Prop)(af:∀ ρ,I ρ->E.nx ρ)(h:(∀ ρ,I ρ->E.nx ρ)->c ρ fun b ρ1=>br b (f E ρ1) (g E ρ1)):fIf c f g E ρ:=aU (h af)
section
variable {K:Frag} 
end
end L2
namespace L2
open PySem PySem.Spec PyProof.Rows PyProof.Rows
variable{H:Hp}
section
variable {X:Cx} {pins:List (Addr×Obj)} {σ:St}  {s:Shared}
end
section
variable {K:Frag} {n:Nat} {m:List Nat} {G:Hp->Prop}
end
theorem E5 {K:Frag}{F:Hp}{vs:List V}{ds:List D}(h:Dens K F vs ds):Ows K F H vs (ds.map .fz) [] :=
 Dens.rec (motive_1:=fun _ _ _=>True) (motive_2:=fun vs ds _=>Ows K F H vs (ds.map .fz) []) trivial (fun _=>trivial) (fun _=>trivial) (fun _=>trivial) (fun _=>trivial) (fun _ _ _=>trivial) (fun _ _ _=>trivial) (fun _ _ _ _=>trivial) (fun _ _ _=>trivial) (fun _ _ _=>trivial) (fun _ _ _ _=>trivial) .nil (fun h _ _ t=>.cons (A:=[]) (B:=[]) (.fz h) t) h
end L2
namespace L2
open PySem PySem.Spec PyProof.Rows
variable{X:Cx}{pins:List (Addr×Obj)}{σ:St}{H:Hp}{s:Shared}
end L2
namespace L2
open PySem PySem.W PySem.Spec PyProof.Rows PySem.Calls PySem.Builtin PySem.Builtin.ObjectAttr PySem.Builtin.Getset_descriptor
section
variable {prog:Program} {w:World} {A:Around} {E:Value->Shared->Prop} {s:Shared} {K:Frag} {a C:Addr} {o:Obj}
end
section
variable {X:Cx}
end
end L2
namespace HT
open PySem PySem.Spec PyProof.Rows
section
variable {prog:Program} {w:World} {A:Around} {E:Value->Shared->Prop} {s:Shared}
theorem getItem_tuple_all {t sl:Addr}{items:Array Value}{vl vu:Value}{lo hi:Option Int}{Q:Value->Shared->Prop}(ht:IsTup s.heap t items)(hs:s.heap.IsSliceOf sl vl vu .none)(pl:IsPart vl lo)(pu:IsPart vu hi)
  (hw:sIx items.size 0 lo=0/\sIx items.size items.size hi=items.size) (h:Q (.ref t) s):wpAny (model prog w) A (getItem (.ref t) (.ref sl)) Q E s:=by
 obtain ⟨os,hos,hcs,hds⟩:=id hs
 have hTs:s.TypeIs (.ref sl) "slice" := ⟨os,hos,hcs⟩
 unfold getItem
 try with_reducible refine aaD ?_
 first | refine aaa (aac ?_) | skip
 refine aaa (wpAny_sequenceKey ht.typeIs (by decide) ?_)
 refine aaa (wpAny_callSpecial?_slot (name:=Str.ofString "__getitem__") ht.typeIs aa0
  (aaF aa0 ht.typeIs entry_tuple_getitem ?_ (args_tuple_getitem _ _)))
 show wpAny _ _ (Builtin.Tuple.tupleItemsOf (.ref t) >>= _) _ _ s
 refine aaa (tupleItemsOf_ ht ?_)
 refine aaa (wpAny_typeOf hTs ?_)
 rw [if_pos (by decide)]
 refine aaa (cP hs pl pu ?_)
 show wpAny _ _ (if (((sIx items.size 0 lo:Nat):Int) == 0 && (1:Int) == 1 && (sIx items.size items.size hi - sIx items.size 0 lo) == items.size)=true then _ else _) _ _ s
 rw [if_pos (by rw [hw.1,hw.2]; simp)]
 refine aaa (m:=Builtin.Tuple.tupleIsExact _) (aaa (wpAny_typeOf ht.typeIs (aac ?_)))
 rw [if_pos (by decide)]
 first
  | exact aaa (abB (aac ⟨_,rfl,aac h⟩))
  | exact aaa (abB (aaa (aac (aac ⟨_,rfl,aac h⟩))))
  | exact aaa (aaa (abB (aac (aac ⟨_,rfl,aac h⟩))))
  | exact aaa (aaa (abB (aac ⟨_,rfl,aac h⟩)))
end
end HT
namespace L2
open PySem PySem.Spec PyProof.Rows
variable{X:Cx}
def E6 (K:Frag):V->Option Int->Option Int->Hp->VK->Prop:=fun x lo hi H Q=>∃ a xs,x=.ref a/\SqT K H a xs/\HT.sIx xs.length 0 lo=0/\HT.sIx xs.length xs.length hi=xs.length/\Q (.ref a) H
theorem AC:SlR X (E6 X.K):=by
 intro pins s σ H x v vl vu lo hi sl Q I rx hs pl pu h
 obtain ⟨a,xs,rfl,hx,w1,w2,q⟩:=h
 cases rx
 obtain ⟨its,r,ht,hz⟩:=I.tuple hx
 have hlen:its.toArray.size=xs.length:=by rw [List.size_toArray]; exact r.length.symm
 refine ⟨"tuple", _,PyProof.Rows.slot_tuple_getitem.lookup,ht.typeIs,?_⟩
 exact HT.getItem_tuple_all ht hs pl pu (by rw [hlen]; exact ⟨w1,w2⟩) ⟨.ref a,H,I,rfl,q⟩
def Jn (K:Frag):V->Option Int->Option Int->Hp->VK->Prop:=fun x lo hi H Q=>Du K x lo hi H Q∨E6 K x lo hi H Q
theorem qp {a:Expr}{lo hi:Option Expr}{ta:TE}{tl th:TO}{pos spos:Pos}(K:Frag)(ha:BE X a ta)(hl:BO X lo tl)(hh:BO X hi th)(hK:X.K=K):BE X (.Subscript a (.Slice lo hi none spos) pos) (tSl (Jn K) ta tl th):=by
 subst hK; exact ⟨k7 (wJ.or AC) ha.h hl.h hh.h⟩
section
variable {K:Frag} {μ:List Nat}
theorem qq {α:Type}{xs:List α}{lo hi:Option Int}(h1:HT.sIx xs.length 0 lo=0)(h2:HT.sIx xs.length xs.length hi=xs.length):gv xs lo hi=xs:=by
 unfold gv
 rw [h1,h2]
 simp
def Im:D->Option Int->Option Int->(OV->Prop)->Prop
 | .str z,lo,hi,P=>z.length<=sizeLine/\P (.fz (.str (iE z lo hi)))
 | .lst ds,lo,hi,P=>P (.fl (gv ds lo hi))
 | .tup ds,lo,hi,P=>P (.fz (.tup (gv ds lo hi)))
 | _,_,_,_=>False
theorem Io:SlF K (Jn K) Im:=⟨by
 intro F H x d lo hi Q P s hx f n
 unfold Im at f
 split at f
 ·exact .inl (iF.h s hx (by unfold aSl; exact f) n)
 ·exact .inl (iF.h s hx (by unfold aSl; exact f) n)
 ·rename_i ds
  by_cases hw:HT.sIx ds.length 0 lo=0/\HT.sIx ds.length ds.length hi=ds.length
  ·have e:=qq hw.1 hw.2
   rw [e] at f
   have hx':=hx
   obtain ⟨a,xs,rfl,h1,h2⟩:=hx.asT s
   refine .inr ⟨a,xs,rfl,h1,by rw [h2.length]; exact hw.1,by rw [h2.length]; exact hw.2,?_⟩
   cases hx' with
   | fz hd=>exact au s n hd f
  ·exact .inl (iF.h s hx (by unfold aSl; exact ⟨hw,f⟩) n)
 ·exact f.elim⟩
theorem uG  {o e f:Expr} {apos cpos:Pos} {td ty tx:TE} (hu:X.A.units+64 < cLine) (ho:BE X o td) (he:BE X e ty) (hf:BE X f tx) (m:M2 X o "get" apos e f cpos):BE X (.Call (.Attribute o "get" apos) [e,f] [] cpos) (oM td ty tx):=⟨tj (by nofun) ho.h he.h hf.h m⟩
end
mutual
def depD:D->Nat
 | .lst xs=>depDs xs+1
 | .tup xs=>depDs xs+1
 | _=>0
def depDs:List D->Nat
 | []=>0
 | d::ds=>max (depD d) (depDs ds)
end
mutual
def okS:D->Bool
 | .lst xs=>okSs xs
 | .tup xs=>okSs xs
 | .dct _ _=>false
 | .ty _=>false
 | .gt _=>false
 | .dt _ _=>false
 | _=>true
def okSs:List D->Bool
 | []=>true
 | d::ds=>okS d && okSs ds
end
section
variable  {pins:List (Addr×Obj)} {σ:St} {H:Hp} {s:Shared}
end
section
variable {K:Frag}
end
end L2
namespace L2
open PySem PySem.Spec PyProof.Rows
open PySem.Builtin PySem.Builtin.Str
section
variable {X:Cx}
end
section
variable {K:Frag} {μ:List Nat}
end
end L2
namespace L2
open PySem PySem.Builtin PySem.Builtin.Str PySem.StrLaws
theorem fq (z:Str):z.length=z.cps.toList.length:=by simp [Str.length]
end L2
namespace L2
open PySem PySem.Spec PyProof.Rows PySem.W
section
variable {n:Nat} {lt:Nat->Nat->Bool}
end
section
variable {prog:Program} {w:World} {A:Around} {s:Shared} {C:Bool->Shared->Prop} {bb fn:Bool}
end
section
variable {X:Cx}
end
section
variable {K:Frag}
end
end L2
namespace L2
open PySem PySem.Spec PyProof.Rows
open PySem.Builtin PySem.Builtin.Str
section
variable {X:Cx}
end
section
variable {K:Frag} {μ:List Nat}
end
end L2
namespace L2
open PySem PySem.Spec PyProof.Rows
variable{X:Cx}{μ:List Nat}{A:Around}{E:Value->Shared->Prop}{s:Shared}{σ:St}{H:Hp}
section
variable {K:Frag} 
end
section
variable {M:Model}   
end
section
variable {prog:Program} {w:World}   {R:Result->Shared->Prop} 
end
section
variable  {pins:List (Addr×Obj)}    {T F:List Str} {ixs:List Nat} {scope:Scope} {fp:List Addr}
end
def E7:List RV->Option (List D)
 | []=>some []
 | .ov (.fz d)::rs=>match E7 rs with
  | some ds=>some (d::ds)
  | none=>none
 | _::_=>none
section
variable {K:Frag}  {G:Hp->Prop}
theorem nH {F:Hp}{rs:List RV}{vs:List V}{B:List Addr}(h:RVL K F H σ vs rs B):∀ {ds:List D},E7 rs=some ds->Dens K F vs ds:=by
 induction h with
 | nil=>intro ds e; cases e; exact .nil
 | @cons v r vs rs A B h t ih =>
  intro ds e
  cases r with
  | br i=>cases e
  | ov o =>
   cases o with
   | fz d =>
    unfold E7 at e
    cases q:E7 rs with
    | none=>rw [q] at e; cases e
    | some ds' =>
     rw [q] at e
     cases e
     cases h with
     | fz dn=>exact .cons dn (ih q)
   | _=>cases e
end
end L2
namespace L2
open PySem PySem.W PySem.Spec PyProof.Rows
variable{X:Cx}
end L2
namespace L2
open PySem PySem.Spec PyProof.Rows
section
variable {X:Cx}
end
section
variable {K:Frag} {μ:List Nat}
end
end L2
namespace L2
open PySem PySem.Spec PyProof.Rows
open PySem.Builtin PySem.Builtin.Str PySem.StrLaws
section
variable {X:Cx}
end
section
variable {K:Frag} {μ:List Nat}
end
end L2
namespace L2
open PySem PySem.Spec PyProof.Rows
variable{μ ixs T m:List Nat}{n no i j c k ix:Nat}{te tv td ty:TE}{fe fk fo:FE}{g:TG}{fg:FG}{tc:TT}{fc:FT}{t:TA}{fa:FA}{wi:TI}{ds:List D}{os:List OV}{X:Cx}{pos p:Pos}{y v:V}{x f q mn:Str}{e:Expr}{es:List Expr}{st:Stmt}{oc doc pm cdv ct:Value}{od an:Option Addr}{osl:Array (Option Value)}{Z F F' H H':Hp}{fd:FuncData}{ps:List FV}{σ:St}{ρ:FSt}{A B:List Addr}{a C:Addr}{o:Obj}{vs xs:List V}{α K:Type}{cc:Ct}{d:D}{s:Shared}{ks:List (List Key)}
def dD (fa:FE):FT:=aP fa
def bV (_:List Nat)(no:Nat)(fi:FI)(fg:FG)(ft:FT)(fe:FE):FE:=Ez no fi fg ft fe
def qr (_:List Nat)(no i:Nat)(fg:FG)(ft:FT)(fe:FE):FE:=lI no i fg ft fe
def qt (_:List Nat)(no i:Nat)(fg:FG)(ft:FT)(fe:FE):FE:=wY no i fg ft fe
def qu (_:List Nat)(no i:Nat)(fg:FG)(ft:FT)(fe:FE):FE:=lJ Il no i fg ft fe
section
variable {K:Frag}    
theorem Ip (h:j < n)(hg:GF K (muC no ixs (List.range n)) T g fg)(hT:∀ i ∈ T,i < no)(hix:∀ j ∈ ixs,j < (List.range n).length)
  (hc:TF K (muC no ixs (List.range n)) tc fc) (he:EF K (muC no ixs (List.range n)) te fe):EF K (List.range n) (nG (dm no ixs (jM E3 (cO j)) g tc te)) (qu ixs no j fg fc fe):=lK AB (by simp [h]) hix hg hT hc he
theorem tf_B (ha:EF K μ te fe):TF K μ (tB te) (dD fe):=⟨(pL ha).h⟩
theorem uH {c:Ct}(ha:AF K μ t fa):EF K μ (ku (spM K c) [] E0 t) (al c fa):=pN ha
theorem Iq (h:μ[μ.idxOf i]?=some i):EF K μ (cO (μ.idxOf i)) (ab i):=pK h
theorem gf_c (h:decide (i < no)=true)(hn:(muC no ixs μ).Nodup):GF K (muC no ixs μ) [i] (dY i) (ac i):=pO (by
 unfold muC
 rw [List.getElem?_append_left (by rw [List.length_range]; exact of_decide_eq_true h)]
 simp [of_decide_eq_true h]) hn
theorem Ir {fi:FI}(hi:ITF K μ wi fi)(hg:GF K (muC no ixs μ) T g fg)(hT:∀ i ∈ T,i < no)(hix:∀ j ∈ ixs,j < μ.length)
  (hc:TF K (muC no ixs μ) tc fc) (he:EF K (muC no ixs μ) te fe):EF K μ (dm no ixs wi g tc te) (bV ixs no fi fg fc fe):=zO hi hix hg hT hc he
theorem Iu (h:j < n)(hg:GF K (muC no ixs (List.range n)) T g fg)(hT:∀ i ∈ T,i < no)(hix:∀ j ∈ ixs,j < (List.range n).length)
  (hc:TF K (muC no ixs (List.range n)) tc fc) (he:EF K (muC no ixs (List.range n)) te fe):EF K (List.range n) (dm no ixs (kq K (cO j)) g tc te) (qr ixs no j fg fc fe):=qi h hix hg hT hc he
theorem Iv (h:j < n)(hg:GF K (muC no ixs (List.range n)) T g fg)(hT:∀ i ∈ T,i < no)(hix:∀ j ∈ ixs,j < (List.range n).length)
  (hc:TF K (muC no ixs (List.range n)) tc fc) (he:EF K (muC no ixs (List.range n)) te fe):EF K (List.range n) (nG (dm no ixs (jM Cq (cO j)) g tc te)) (qt ixs no j fg fc fe):=qo h hix hg hT hc he
end
def AD:List D->List Str
 | .str z::ds=>z::AD ds
 | _=>[]
theorem Iw {K:Frag}(h:(AD ds).map D.str=ds):EF K μ (tGU K ((AD ds).map V.str)) (fC (.gt ds)):=Id fun _=>by
 conv=>arg 4; rw [← h]
 exact Dens.strs _
def G3 (m:List Nat):Nat->List OV->Bool
 | _,[]=>true
 | i,o::os=>(m.contains i || pU o) && G3 m (i+1) os
theorem qv {m:List Nat}:∀ {os:List OV} {i:Nat},G3 m i os=true->∀ j o,os[j]?=some o->i+j ∉ m->pU o=true
 | [],_,_,_,_,e,_=>nomatch e
 | a::os,i,h,j,o,e,n=>by
  rw [G3,Bool.and_eq_true,Bool.or_eq_true] at h
  cases j with
  | zero =>
   cases e
   exact h.1.elim (fun z=>absurd (List.contains_iff_mem.mp z) n) id
  | succ j=>exact qv h.2 j o e (by rw [Nat.add_right_comm]; exact n)
theorem lo_of (h1:os.length=n)(h2:G3 m 0 os=true):os.length=n/\∀ j o,os[j]?=some o->j ∉ m->pU o=true:=⟨h1,fun j o e hj=>qv h2 j o e (by rw [Nat.zero_add]; exact hj)⟩
def tgN:Expr->List Str
 | .Name x _=>[x]
 | .Tuple es _ _=>es.filterMap fun e=>match e with
  | .Name x _=>some x
  | _=>none
 | _=>[]
def fvN (X:Cx)(ixs:List Nat):List Str:=ixs.map fun i=>X.N.getD i ""
theorem Ix {l:List Str}(h:decide l.Nodup=true):l.Nodup:=of_decide_eq_true h
section
variable    {scope:Scope} {elt tg iter:Expr} {ifs:List Expr}     
theorem Iy (hT:(tgN tg).length=no)(hc:X.calm=true)(S:CompScope X (tgN tg) (fvN X ixs) ixs scope)(hi:BI X tg iter wi)
  (hg:∀ C s H fp,BG (bm X (tgN tg++fvN X ixs) scope (ax X.env scope.names []) C s H fp) tg g) (ht:∀ C s H fp,BIf (bm X (tgN tg++fvN X ixs) scope (ax X.env scope.names []) C s H fp) ifs tc) (he:∀ C s H fp,BE (bm X (tgN tg++fvN X ixs) scope (ax X.env scope.names []) C s H fp) elt te)
  (hs:∀ x,foldedSetIterable iter X.env x=pure x):BE X (.ListComp elt [⟨tg,iter,ifs,0⟩] scope pos) (dm no ixs wi g tc te):=hT ▸ yT hc S hi hg ht he hs
theorem Iz {y:Str}{py spos:Pos}(hsw:swapsWith (.ListComp elt [⟨tg,iter,ifs,0⟩] scope pos) (some (.Name y py)) spos.line X.env=pure true)(hT:(tgN tg).length=no)(hc:X.calm=true)(S:CompScope X (tgN tg) (fvN X ixs) ixs scope)(hi:BI X tg iter wi)
  (hg:∀ C s H fp,BG (bm X (tgN tg++fvN X ixs) scope (ax X.env scope.names []) C s H fp) tg g) (ht:∀ C s H fp,BIf (bm X (tgN tg++fvN X ixs) scope (ax X.env scope.names []) C s H fp) ifs tc) (he:∀ C s H fp,BE (bm X (tgN tg++fvN X ixs) scope (ax X.env scope.names []) C s H fp) elt te)
  (hs:∀ x,foldedSetIterable iter X.env x=pure x) (hN:X.N.Nodup) (hix:X.N[i]?=some y) (hx:Loc X.env.scope y) (hf:X.fn y=true∨X.env.scope.names.lookup y=some .local) :
  BS X (.Assign [.Name y py] (.ListComp elt [⟨tg,iter,ifs,0⟩] scope pos) spos) (nX (dm no ixs wi g tc te) (dY i)):=hT ▸ zq hc S hi hg ht he hs hN hix hx hsw hf
theorem uI      {f:Value} {r:List V->Hp->VK->Prop} (hc:BCall X f r) (hm:X.mg x=none) (hv:bootBuiltins x=some f) (hf:(∃ id,f=.builtin id)∨∃ T,f=.type T) (ha:BA X (e::es) t) (hg:X.env.kindOf x=some .globalImplicit) (hns:(e::es).all bi=true) (hn:(x == "__name__")=false)
  (hdb:(x == ("__debug__" : Str))=false):BE X (.Call (.Name x p) (e::es) [] pos) (tCB r t):=by
 have hn':x ≠ "__name__" := fun z=>by rw [z] at hn; exact absurd hn (by decide)
 rcases hf with ⟨id,rfl⟩ | ⟨T,rfl⟩
 ·exact tJ hc hm hv ha hg hns hn' hdb
 ·exact tK hc hm hv ha hg hns hn' hdb
end
structure Df (K:Frag)(x:Str)(st:Stmt)(f:Addr)(fd:FuncData):Prop where
 ns:PySem.W.nsIn K mainGlobals x=some (some (.ref f))
 fn:Fun K x x st f fd
theorem df_mk {K:Frag}{f:Addr}{kV:Value}(a:PySem.W.nsIn K mainGlobals x=some (some (.ref f)))(l:K.lookup f=some ⟨oc,od,.func (PySem.W.fnOf x x (b9 st) (bo st) (aj st) .none kV doc pm an cdv ct),osl⟩)
  (c:PySem.W.codeIn K cdv x=true) (k:PySem.W.keepIn K (.ref f)=true):Df K x st f (PySem.W.fnOf x x (b9 st) (bo st) (aj st) .none kV doc pm an cdv ct):=⟨a,wH l c k⟩
abbrev Lh (c:Ct)(n:Nat)(m:List Nat):Prop:=∀ os P,c os P->os.length=n/\∀ j o,os[j]?=some o->j ∉ m->pU o=true
abbrev Hh (c:Ct)(f:FS)(m:List Nat)(n:Nat):Prop:=∀ os P,c os P->f { nx:=fin m os P (.fz .non),rt:=fin m os P } (ak n os)
structure Zz where
 P:Program
 w:World
 K:Frag
 mg:Str->Option Value
 base:Heap
 h:Heap
structure TopZ (Z:Zz)(T:Prop):Prop where
 X:Z.K.In Z.h
 G:Z.h.Ns mainGlobals Z.mg
 T:T
abbrev cz (Z:Zz)(x:Str)(k:Nat)(ps:List Str)(c:Ct):Prop:=Own Z.P Z.w Z.K Z.mg Z.base x k ps (spM Z.K c)
section
variable {Z:Zz} {T:Prop}   {f:Addr}  {ps:List Str} {c:Ct} {fs:FS}  
theorem uJ (N:List Str)(t:TopZ Z T)(D:Fun Z.K x q st f fd)(hlen:Lh c ps.length m)(hc:Hh c fs m n)(S:FnScope N ps (aj st))
  (hbody:∀ (cdv:Value) (A:Around) (outer:List Env) (s:Shared) (H:Hp) (E:XK),T->N.Nodup->Room k (A.deeper (envOfC q (aj st) s.heap.objs.size f cdv)) ->
   ∃ t,SF Z.K n m t fs/\BSs (oz CX0 Z.P Z.w Z.K Z.mg Z.base N q (aj st) f cdv A outer s H E).nox (bo st) t) (hn:autoParam (N.length=n) L2.aR._auto_1) (hN:autoParam (ps.length<=n) L2.aD._auto_1) (hm:autoParam (∀ i ∈ m,i < ps.length) L2.aD._auto_1):FnOk Z.P Z.w Z.K Z.mg Z.base CX0 (k+1) f fd ps (spM Z.K c) :=
 Fun.okG n m D S hn hN hlen hm (fun cdv A outer s H E hr=>let ⟨t,a,b⟩:=hbody cdv A outer s H E t.T S.nd hr; ⟨t,b,a⟩) hc
theorem av (N:List Str)(t:TopZ Z T)(D:Df Z.K x st f fd)(hlen:Lh c ps.length m)(hc:Hh c fs m n)
  (hb:∀ (kV doc pm:Value) (an:Option Addr) (cdv ct:Value) (us:List Value),us.length=ps.length->bindArgs (PySem.W.fnOf x x (b9 st) (bo st) (aj st) .none kV doc pm an cdv ct) ⟨us,[]⟩=pure (ps.zip us)) (S:FnScope N ps (aj st))
  (hbody:∀ (cdv:Value) (A:Around) (outer:List Env) (s:Shared) (H:Hp) (E:XK),T->N.Nodup->Room k (A.deeper (envOfC x (aj st) s.heap.objs.size f cdv)) ->
   ∃ t,SF Z.K n m t fs/\BSs (oz CX0 Z.P Z.w Z.K Z.mg Z.base N x (aj st) f cdv A outer s H E).nox (bo st) t) (hn:autoParam (N.length=n) L2.aR._auto_1) (hN:autoParam (ps.length<=n) L2.aD._auto_1) (hm:autoParam (∀ i ∈ m,i < ps.length) L2.aD._auto_1):cz Z x (k+1) ps c :=
 ⟨f,fd,uJ N t D.fn hlen hc S hbody hn hN hm,aaM t.X t.G D.ns,D.fn.kp,D.fn.binds hb⟩
end
structure ClsF (K:Frag)(c:Nat)(C:Addr):Prop where
 ns:PySem.W.nsIn K mainGlobals (zr c)=some (some (.ref C))
 cl:Cls K C
 na:∀ f ∈ cr c,NoAttr K C f
theorem dO (c:Nat):(cr c).Nodup:=by
 match c with
 | 0=>decide +kernel
 | 1=>exact aaB
 | _+2=>exact aaB
def unO (ρ:FSt)(i c:Nat):Option (Addr×List FV):=match ρ[i]? with
 | some (some (.ob ⟨a,c',ps⟩))=>(match Nat.beq c' c with
  | true=>some (a,ps)
  | false=>none)
 | _=>none
def G4 (a:Addr):OV->Option FV
 | .fz d=>some (.fz d)
 | .fl ds=>some (.fl a ds)
 | .fd ks ds=>some (.fd a ks ds)
 | .ft ks ds=>some (.ft a ks ds)
 | _=>none
def qw (as:Nat->Addr):Nat->List OV->Option (List FV)
 | _,[]=>some []
 | i,o::os=>match G4 (as i) o with
  | some p=>match qw as (i+1) os with
   | some ps=>some (p::ps)
   | none=>none
  | none=>none
def G5 (ps:List FV)(k:Nat)(g:FV):Option (List FV):=match Nat.blt k ps.length with
 | true=>some (ps.set k g)
 | false=>(match Nat.beq k ps.length with
  | true=>some (ps++[g])
  | false=>none)
section
variable {K:Frag}     
theorem qx (h:unO ρ i c=some (a,ps)):ρ[i]?=some (some (.ob ⟨a,c,ps⟩)):=by
 unfold unO at h
 split at h
 ·rename_i a' c' ps' e
  split at h
  ·rename_i e2
   cases h
   rw [e,Nat.eq_of_beq_eq_true e2]
  ·cases h
 ·cases h
def adr:V->Addr
 | .ref a=>a
 | _=>0
theorem Ow.part {o:OV}{g:FV}(h:Ow K F H v o B)(e:G4 (adr v) o=some g):Fw K F H v g B:=by
 cases h with
 | fz h=>cases e; exact .fz h
 | fl h t=>cases e; exact .fl h t
 | fd h q t=>cases e; exact .fd h q t
 | ft h q t=>cases e; exact .ft h q t
 | _=>cases e
theorem Ows.parts {as:Nat->Addr}(h:Ows K F H vs os B):∀ {ps:List FV} {i:Nat},(∀ j v,vs[j]?=some v->as (i+j)=adr v)->qw as i os=some ps->Fws K F H vs ps B:=by
 induction h with
 | nil=>intro ps i _ e; cases e; exact .nil
 | @cons v o _ os _ _ h t ih =>
  intro ps i ha e
  unfold qw at e
  have h0:as i=adr v:=ha 0 v rfl
  cases e1:G4 (as i) o with
  | none=>rw [e1] at e; cases e
  | some p =>
   cases e2:qw as (i+1) os with
   | none=>rw [e1,e2] at e; cases e
   | some ps' =>
    rw [e1,e2] at e; cases e
    exact .cons (h.part (h0 ▸ e1)) (ih (fun j w hj=>by rw [show i+1+j=i+(j+1) by nofun]; exact ha (j+1) w hj) e2)
theorem Fws.length {xs:List V}{ps:List FV}{B:List Addr}(h:Fws K F H xs ps B):xs.length=ps.length:=by
 induction h with
 | nil=>rfl
 | cons _ _ ih=>exact congrArg (·+1) ih
theorem Fws.at_ (h:Fws K F H xs ps B):∀ {k:Nat} {g:FV},ps[k]?=some g->∃ x C B',xs[k]?=some x/\Fw K F H x g C/\B.Perm (C++B') /\
  ∀ F' H' y g' C',Same F F'->(∀ a u,a ∈ B'->H a=some u->H' a=some u)->Fw K F' H' y g' C'->∃ B'',Fws K F' H' (xs.set k y) (ps.set k g') B''/\B''.Perm (C'++B'):=by
 induction h with
 | nil=>intro k g e; cases e
 | @cons x o xs os A1 B1 h t ih =>
  intro k g e
  cases k with
  | zero =>
   cases e
   exact ⟨x,A1,B1,rfl,h,aaz _,fun F' H' y g' C' s k w=>⟨_,.cons w (t.keep s k),aaz _⟩⟩
  | succ k =>
   obtain ⟨y,C,B',h1,h2,h3,h4⟩:=ih (k:=k) e
   have sw:∀ (C:List Addr),(A1++(C++B')).Perm (C++(A1++B')):=fun C=>by
    rw [← aay,← aay]; exact aa4 _ aa7
   refine ⟨y,C,A1++B',h1,h2,(aaN A1 h3).trans (sw C),fun F' H' y' g' C' s k w=>?_⟩
   obtain ⟨B'',w1,w2⟩:=h4 F' H' y' g' C' s (fun a u ha=>k a u (aak _ ha)) w
   exact ⟨_,.cons (h.keep s fun a u ha=>k a u (aaw _ ha)) w1,(aaN A1 w2).trans (sw C')⟩
theorem Fws.snoc {C:List Addr}{g:FV}(h:Fws K F H xs ps B)(w:Fw K F H y g C):∃ B',Fws K F H (xs++[y]) (ps++[g]) B'/\B'.Perm (C++B):=by
 induction h with
 | nil=>exact ⟨_,.cons w .nil,aaz _⟩
 | @cons x o xs os A1 B1 h t ih =>
  obtain ⟨B',h1,h2⟩:=ih
  refine ⟨_,.cons h h1,(aaN A1 h2).trans ?_⟩
  rw [← aay,← aay]; exact aa4 _ aa7
theorem Rel.away (R:Rel K F Z H σ ρ A)(k:∀ a u,a ∉ B->H a=some u->H' a=some u)(f:∀ b ∈ B,F b=none/\Z b=none/\b ∉ A):Rel K F Z H' σ ρ A :=
 ⟨R.sl.keep (Same.refl _) fun a u ha h=>k a u (fun z=>(f a z).2.2 ha) h,R.nd,R.fr,fun a u h=>k a u (fun z=>by rw [(f a z).1] at h; cases h) (R.fh a u h),fun a u h=>k a u (fun z=>by rw [(f a z).2.1] at h; cases h) (R.zh a u h),R.dj⟩
theorem Rel.chg {o:OV}(R:Rel K F Z H σ ρ A)(e:ρ[i]?=some (some o)):∃ v B,σ[i]?=some (some v)/\Ow K F H v o B/\B.Nodup/\(∀ b ∈ B,b ∈ A) /\
  ∀ H' o' B',(∀ a u,a ∉ B->H a=some u->H' a=some u)->Ow K F H' v o' B'->B'.Nodup->(∀ b ∈ B',b ∈ B∨(F b=none/\Z b=none/\b ∉ A))->∃ A',Rel K F Z H' σ (ρ.set i (some o')) A':=by
 obtain ⟨v,B,A',h1,h2,R',f',pm⟩:=R.takeI e
 refine ⟨v,B,h1,h2,f'.nd,fun b hb=>pm.mem_iff.mpr (List.mem_append.mpr (.inl hb)),fun H' o' B' k w nd m=>?_⟩
 obtain ⟨A3,R3,_⟩:=(R'.away k f'.fr).putI (dc e) h1 w ⟨nd,fun b hb=>(m b hb).elim (f'.fr b) fun z=>⟨z.1,z.2.1,fun y=>z.2.2 (pm.mem_iff.mpr (List.mem_append.mpr (.inr y)))⟩⟩
 rw [abj] at R3
 exact ⟨A3,R3⟩
theorem AE {fs:List (Str×V)}:∀ {k:Nat} {f:Str} {x:V},(fs.map (·.1)).Nodup->(fs.map (·.1))[k]?=some f->(fs.map (·.2))[k]?=some x->fs.lookup f=some x:=by
 induction fs with
 | nil=>intro k f x _ h; cases h
 | cons p fs ih =>
  intro k f x n h1 h2
  obtain ⟨n1,n2⟩:=List.nodup_cons.mp n
  cases k with
  | zero=>cases h1; cases h2; simp [List.lookup]
  | succ k =>
   have hm:f ∈ fs.map (·.1):=List.mem_of_getElem? h1
   have:(f == p.1)=false:=beq_eq_false_iff_ne.mpr fun z=>n1 (show p.1 ∈ _ from z ▸ hm)
   rw [aaC,this]
   exact ih (k:=k) n2 h1 h2
theorem AG {fs:List (Str×V)}(h:f ∉ fs.map (·.1)):fs.lookup f=none:=by
 induction fs with
 | nil=>rfl
 | cons p fs ih =>
  rw [List.map_cons,List.mem_cons,not_or] at h
  rw [aaC,beq_eq_false_iff_ne.mpr h.1]
  exact ih h.2
theorem AH {fs:List (Str×V)}:∀ {k:Nat} {f:Str},(fs.map (·.1)).Nodup->(fs.map (·.1))[k]?=some f->(dX f y fs).map (·.1)=fs.map (·.1)/\(dX f y fs).map (·.2)=(fs.map (·.2)).set k y:=by
 induction fs with
 | nil=>intro k f _ h; cases h
 | cons p fs ih =>
  intro k f n h1
  obtain ⟨n1,n2⟩:=List.nodup_cons.mp n
  obtain ⟨g,x⟩:=p
  cases k with
  | zero=>cases h1; unfold dX; rw [if_pos rfl]; exact ⟨rfl,rfl⟩
  | succ k =>
   have hm:f ∈ fs.map (·.1):=List.mem_of_getElem? h1
   unfold dX
   rw [if_neg fun z:g=f=>n1 (show g ∈ _ from z.symm ▸ hm)]
   obtain ⟨h3,h4⟩:=ih (k:=k) n2 h1
   exact ⟨by rw [List.map_cons,List.map_cons,h3],by rw [List.map_cons,List.map_cons,h4]; rfl⟩
theorem lL {y:V}{f:Str}:∀ {fs:List (Str×V)},f ∉ fs.map (·.1)->dX f y fs=fs++[(f,y)]
 | [],_=>rfl
 | (g,x)::fs,h=>by
  rw [List.map_cons,List.mem_cons,not_or] at h
  unfold dX
  rw [if_neg fun z=>h.1 z.symm,lL h.2]; rfl
theorem Rel.obj (R:Rel K F Z H σ ρ A)(hC:ClsF K c C)(e:unO ρ i c=some (a,ps)):∃ dx fs B,σ[i]?=some (some (.ref a))/\H a=some (.ins C dx fs)/\fs.map (·.1)=(cr c).take ps.length/\ps.length<=(cr c).length/\Fws K F H (fs.map (·.2)) ps B/\(a::B).Nodup/\(∀ b ∈ a::B,b ∈ A) /\
  ∀ H' fs' ps' B',(∀ b u,b ∉ a::B->H b=some u->H' b=some u)->H' a=some (.ins C dx fs')->fs'.map (·.1)=(cr c).take ps'.length->ps'.length<=(cr c).length->Fws K F H' (fs'.map (·.2)) ps' B'->(a::B').Nodup->(∀ b ∈ B',b ∈ B∨(F b=none/\Z b=none/\b ∉ A))->∃ A',Rel K F Z H' σ (ρ.set i (some (.ob ⟨a,c,ps'⟩))) A':=by
 obtain ⟨v,B0,h1,h2,n,m,g⟩:=R.chg (qx e)
 cases h2 with
 | ob h2 =>
  cases h2 with
  | @mk _ C' dx _ fs _ B hH hns hf hl hp =>
   have:C'=C:=by
    have:=hns.symm.trans hC.ns
    cases this; rfl
   subst this
   refine ⟨dx,fs,B,h1,hH,hf,hl,hp,n,m,fun H' fs' ps' B' k ha hf' hl' hp' n' m'=>g H' _ (a::B') k (.ob (.mk ha hns hf' hl' hp')) n' fun b hb=>?_⟩
   rcases List.mem_cons.mp hb with z | z
   ·exact .inl (z ▸ aab ..)
   ·exact (m' b z).imp (aad _) id
theorem iP {l:List α}{x:α}(h:l[k]?=some x)(hk:k < n):(l.take n)[k]?=some x:=by rw [List.getElem?_take_of_lt hk]; exact h
def nI (c i k:Nat):FE:=fun ρ Q=>match unO ρ i c with
 | some (_,ps)=>(match ps[k]? with
  | some (.fz d)=>Q (.ov (.fz d)) ρ
  | _=>False)
 | none=>False
theorem E8 (hC:ClsF K c C)(hj:μ[j]?=some i)(hf:(cr c)[k]?=some f):EF K μ (yc K (cO j) f) (nI c i k):=⟨by
 intro F Z H τ σ ρ A Q P vw R h q
 unfold nI at h
 split at h
 ·rename_i a ps e
  split at h
  ·rename_i d ed
   obtain ⟨dx,fs,B,h1,h2,h3,h4,h5,_⟩:=R.obj hC e
   obtain ⟨x,C1,B1,g1,g2,_⟩:=h5.at_ ed
   have hk:k < ps.length:=(List.getElem?_eq_some_iff.mp ed).1
   have hl:fs.lookup f=some x:=AE (k:=k) (by rw [h3]; exact (aba ..).nodup (dO c)) (by rw [h3]; exact iP hf hk) g1
   cases g2 with
   | fz dn=>exact ⟨.ref a,(vw j i hj).1.trans h1,a,C,dx,fs,x,rfl,h2,hC.cl,hC.na f (List.mem_of_getElem? hf),hl,q _ _ _ _ _ _ _ h (Same.refl _) R (.fz dn) Fresh.nil⟩
  ·exact h.elim
 ·exact h.elim⟩
theorem qy (c:Nat):(cr c).length < 1000:=by
 match c with
 | 0=>decide
 | 1=>decide
 | _+2=>show (0:Nat) < 1000; decide
theorem Rel.setF {ps':List FV}{g:FV}{B1:List Addr}(R:Rel K F Z H σ ρ A)(hC:ClsF K c C)(hf:(cr c)[k]?=some f)(e:unO ρ i c=some (a,ps))(w:Fw K F H y g B1)(fr:Fresh F Z A B1)(ep:G5 ps k g=some ps') :
  ∃ dx fs,σ[i]?=some (some (.ref a))/\H a=some (.ins C dx fs)/\fs.length < 1000/\∃ A',Rel K F Z (upd H a (.ins C dx (dX f y fs))) σ (ρ.set i (some (.ob ⟨a,c,ps'⟩))) A':=by
 obtain ⟨dx,fs,B,h1,h2,h3,h4,h5,nd,mA,mk⟩:=R.obj hC e
 obtain ⟨nd1,nd2⟩:=List.nodup_cons.mp nd
 have hl5:=h5.length
 rw [List.length_map] at hl5
 have haA:a ∈ A:=mA a (aab ..)
 have hB1:∀ b ∈ B1,b≠a:=fun b hb z=>(fr.fr b hb).2.2 (z ▸ haA)
 have out:∀ b u,b≠a->H b=some u->upd H a (.ins C dx (dX f y fs)) b=some u:=fun b u hb q=>by rw [ae hb]; exact q
 have w':Fw K F (upd H a (.ins C dx (dX f y fs))) y g B1:=w.keep (Same.refl _) fun b u hb q=>out b u (hB1 b hb) q
 have nf:(fs.map (·.1)).Nodup:=by rw [h3]; exact (aba ..).nodup (dO c)
 refine ⟨dx,fs,h1,h2,by have:=qy c; nofun,?_⟩
 unfold G5 at ep
 split at ep
 ·rename_i hk
  have hk:k < ps.length:=Nat.le_of_ble_eq_true hk
  cases ep
  obtain ⟨x,C0,B',g1,g2,pm,g4⟩:=h5.at_ (List.getElem?_eq_getElem hk)
  obtain ⟨p1,p2⟩:=AH (y:=y) (k:=k) nf (by rw [h3]; exact iP hf hk)
  have hB':∀ b ∈ B',b ∈ B:=fun b hb=>pm.mem_iff.mpr (List.mem_append.mpr (.inr hb))
  obtain ⟨B2,w2,pm2⟩:=g4 F (upd H a (.ins C dx (dX f y fs))) y g B1 (Same.refl _) (fun b u hb q=>out b u (fun z=>nd1 (z ▸ hB' b hb)) q) w'
  obtain ⟨_,n2,_⟩:=a9 pm nd2
  refine mk _ _ _ B2 (fun b u hb q=>out b u (fun z=>hb (z ▸ aab ..)) q) ad (by rw [p1,h3,aaU]) (by rw [aaU]; exact h4) (by rw [p2]; exact w2) (List.nodup_cons.mpr ⟨fun hb=>?_,pm2.nodup_iff.mpr (List.nodup_append.mpr ⟨fr.nd,n2,fun b hb b' hb' z=>?_⟩)⟩) fun b hb=>?_
  ·rcases List.mem_append.mp (pm2.mem_iff.mp hb) with z | z
   ·exact hB1 a z rfl
   ·exact nd1 (hB' a z)
  ·exact (fr.fr b hb).2.2 (mA b (aad _ (hB' b (z ▸ hb'))))
  ·rcases List.mem_append.mp (pm2.mem_iff.mp hb) with z | z
   ·exact .inr (fr.fr b z)
   ·exact .inl (hB' b z)
 ·split at ep
  ·rename_i hk
   have hk:k=ps.length:=Nat.eq_of_beq_eq_true hk
   subst hk
   cases ep
   have hlt:ps.length < (cr c).length:=(List.getElem?_eq_some_iff.mp hf).1
   have hnew:f ∉ fs.map (·.1):=fun z=>by
    rw [h3] at z
    obtain ⟨j,hj⟩:=List.mem_iff_getElem?.mp z
    have hj2:j < ps.length:=by
     have:=(List.getElem?_eq_some_iff.mp hj).1
     rw [aao] at this; nofun
    rw [List.getElem?_take_of_lt hj2] at hj
    have:=(List.getElem?_inj (by nofun) (dO c)).mp (hj.trans hf.symm)
    nofun
   have h5':Fws K F (upd H a (.ins C dx (dX f y fs))) (fs.map (·.2)) ps B:=h5.keep (Same.refl _) fun b u hb q=>out b u (fun z=>nd1 (z ▸ hb)) q
   obtain ⟨B2,w2,pm2⟩:=h5'.snoc w'
   have pe:=lL (y:=y) hnew
   have e2:(dX f y fs).map (·.2)=fs.map (·.2)++[y]:=by rw [pe,aag]; rfl
   refine mk _ _ _ B2 (fun b u hb q=>out b u (fun z=>hb (z ▸ aab ..)) q) ad ?_ (by rw [aai]; exact hlt) (by rw [e2]; exact w2) (List.nodup_cons.mpr ⟨fun hb=>?_,pm2.nodup_iff.mpr (List.nodup_append.mpr ⟨fr.nd,nd2,fun b hb b' hb' z=>?_⟩)⟩) fun b hb=>?_
   ·rw [pe,aag,h3,aai,show ps.length+[g].length=ps.length+1 from rfl,List.take_add_one,hf]; rfl
   ·rcases List.mem_append.mp (pm2.mem_iff.mp hb) with z | z
    ·exact hB1 a z rfl
    ·exact nd1 z
   ·exact (fr.fr b hb).2.2 (mA b (aad _ (z ▸ hb')))
   ·rcases List.mem_append.mp (pm2.mem_iff.mp hb) with z | z
    ·exact .inr (fr.fr b z)
    ·exact .inl z
  ·cases ep
def gH (c i k:Nat)(fe:FE):FS:=fun E ρ=>fe ρ fun r ρ1=>match fzR r ρ1 with
 | some (d,ρ2)=>(match unO ρ2 i c with
  | some (a,ps)=>(match G5 ps k (.fz d) with
   | some ps'=>E.nx (ρ2.set i (some (.ob ⟨a,c,ps'⟩)))
   | none=>False)
  | none=>False)
 | none=>False
def wZ (c i k:Nat)(fe:FE):FS:=fun E ρ=>fe ρ fun r ρ1=>match takeR r ρ1 with
 | some (o,ρ2)=>∀ b:Addr,(match G4 b o with
  | some g=>(match unO ρ2 i c with
   | some (a,ps)=>(match G5 ps k g with
    | some ps'=>E.nx (ρ2.set i (some (.ob ⟨a,c,ps'⟩)))
    | none=>False)
   | none=>False)
  | none=>False)
 | none=>False
theorem AI (hC:ClsF K c C)(hf:(cr c)[k]?=some f)(he:EF K (List.range n) te fe):SF K n m (GS K (cO i) te f) (gH c i k fe):=⟨by
 intro F Z H σ0 σ ρ A D fD R p E h
 refine he.h (View.id p.1) R h fun r ρ1 v F1 H1 A1 B1 p1 s1 R1 v1 f1=>?_
 split at p1
 ·rename_i d ρ2 e2
  obtain ⟨F2,A2,s2,R2,dn,_,_⟩:=R1.frz v1 f1 e2
  split at p1
  ·rename_i a ps e3
   split at p1
   ·rename_i ps' e4
    obtain ⟨dx,fs,h1,h2,h3,A3,R3⟩:=R2.setF hC hf e3 (.fz dn) Fresh.nil e4
    exact ⟨.ref a,h1,a,C,dx,fs,rfl,h2,hC.cl,hC.na f (List.mem_of_getElem? hf),h3,E.nx _ _ _ _ _ (s1.trans s2) R3 p p1⟩
   ·exact p1.elim
  ·exact p1.elim
 ·exact p1.elim⟩
theorem uK (hC:ClsF K c C)(hf:(cr c)[k]?=some f)(he:EF K (List.range n) te fe):SF K n m (GS K (cO i) te f) (wZ c i k fe):=⟨by
 intro F Z H σ0 σ ρ A D fD R p E h
 refine he.h (View.id p.1) R h fun r ρ1 v F1 H1 A1 B1 p1 s1 R1 v1 f1=>?_
 split at p1
 ·rename_i o ρ2 e2
  obtain ⟨C1,A2,R2,ow,f2,_,_⟩:=R1.takeR v1 f1 e2
  have p1:=p1 (adr v)
  split at p1
  ·rename_i g eg
   split at p1
   ·rename_i a ps e3
    split at p1
    ·rename_i ps' e4
     obtain ⟨dx,fs,h1,h2,h3,A3,R3⟩:=R2.setF hC hf e3 (ow.part eg) f2 e4
     exact ⟨.ref a,h1,a,C,dx,fs,rfl,h2,hC.cl,hC.na f (List.mem_of_getElem? hf),h3,E.nx _ _ _ _ _ s1 R3 p p1⟩
    ·exact p1.elim
   ·exact p1.elim
  ·exact p1.elim
 ·exact p1.elim⟩
end
section
variable {K:Frag}     
theorem lM {l:List α}{x:α}(h:l[k]?=some x):l.set k x=l:=by
 apply List.ext_getElem?
 intro j
 by_cases hj:k=j
 ·subst hj; rw [h,List.getElem?_set_self (List.getElem?_eq_some_iff.mp h).1]
 ·rw [List.getElem?_set_ne hj]
def uL (_:Str)(c i:Nat)(cc:Ct)(fa:FA):FE:=fun ρ Q=>match unO ρ i c with
 | some _=>al cc (aa (ab i) fa) ρ Q
 | none=>False
theorem AJ (hC:ClsF K c C)(hj:μ[j]?=some i)(hm:(cr c).contains mn=false)(ha:AF K μ t fa):EF K μ (sN C mn (spM K cc) [] E0 (cO j) t) (uL mn c i cc fa):=⟨by
 intro F Z H τ σ ρ A Q P vw R h q
 unfold uL at h
 split at h
 ·rename_i ap e
  obtain ⟨a,ps⟩:=ap
  obtain ⟨dx,fs,B,h1,h2,h3,h4,h5,_⟩:=R.obj hC e
  obtain ⟨v,hv,hq⟩:=(pN (E:=E0) (pM (pK hj) ha)).h vw R h q
  have:v=.ref a:=by
   have:=hv.symm.trans ((vw j i hj).1.trans h1)
   cases this; rfl
  subst this
  refine ⟨.ref a,hv,a,dx,fs,rfl,h2,AG fun z=>?_,hq⟩
  rw [h3] at z
  rw [List.contains_eq_mem,decide_eq_false_iff_not] at hm
  exact hm (List.mem_of_mem_take z)
 ·exact h.elim⟩
end
section
variable {K:Frag}     
theorem Rel.call {c:Ct}{C:List Addr}{P:OV->List OV->Prop}{Q:VK}{E:XK}(R:Rel K F Z H σ ρ A)(o2:Ows K F H vs os C)(f2:Fresh F Z A C)(h:c os P)
  (q:∀ o os' v F3 H3 C3 B,P o os'->Same F F3->Rel K F3 Z H3 σ ρ A->Ows K F3 H3 vs os' C3->Ow K F3 H3 v o B->Fresh F3 Z A (C3++B)->Q v H3):spM K c vs H Q E:=by
 obtain ⟨Z',hin,hout⟩:=mix A H Z
 have hz:∀ a,a ∈ A->Z a=none:=fun a ha=>(R.fr a ha).2
 have sz:Same Z Z':=fun a o z=>by rw [hout a fun y=>by rw [hz a y] at z; cases z]; exact z
 refine ⟨F,Z',os,C,P,R.fh,fun a o z=>?_,fun a o z=>?_,o2,f2.nd,fun a ha=>⟨(f2.fr a ha).1,by rw [hout a (f2.fr a ha).2.2]; exact (f2.fr a ha).2.1⟩,h,fun o os' v F3 H3 C3 B p s3 fh zh dj w3 w4 nd fr=>?_⟩
 ·by_cases y:a ∈ A
  ·rw [hin a y] at z; exact z
  ·rw [hout a y] at z; exact R.zh a o z
 ·rw [hout a fun y=>by rw [(R.fr a y).1] at z; cases z]; exact R.dj a o z
 ·have nA:∀ a ∈ A,∃ u,Z' a=some u:=fun a ha=>by
   obtain ⟨u,hu⟩:=R.sl.live a ha
   exact ⟨u,by rw [hin a ha]; exact hu⟩
  have R3:Rel K F3 Z H3 σ ρ A:=⟨R.sl.keep s3 fun a u ha hu=>zh a u (by rw [hin a ha]; exact hu),R.nd,fun a ha=>⟨(by
   cases z:F3 a with
   | none=>rfl
   | some u =>
    have:=dj a u z
    obtain ⟨w,hw⟩:=nA a ha
    rw [hw] at this
    exact nomatch this),(R.fr a ha).2⟩,fh,sz.trans zh,fun a o z=>sz.free (dj a o z)⟩
  exact q o os' v F3 H3 C3 B p s3 R3 w3 w4 ⟨nd,fun b hb=>⟨(fr b hb).1,sz.free (fr b hb).2,fun y=>by
   obtain ⟨w,hw⟩:=nA b y
   rw [(fr b hb).2] at hw; cases hw⟩⟩
def E9 (c:Nat)(cc:Ct)(fa:FA):FE:=fun ρ Q=>fa ρ fun rs ρ1=>match takeL rs ρ1 with
 | some (os,ρ2)=>∀ a:Addr,cc (.ob ⟨a,c,[]⟩::os) fun o os'=>(match o,os' with
  | .fz .non,o1::os2=>Q (.ov o1) (putL rs os2 ρ2)
  | _,_=>False)
 | none=>False
theorem AK (hC:ClsF K c C)(ha:AF K μ t fa):EF K μ (yf C (spM K cc) [] E0 t) (E9 c cc fa):=⟨by
 intro F Z H τ σ ρ A Q P vw R h q
 refine ha.h vw R h fun rs ρ1 vs F1 H1 A1 B1 h1 s1 R1 v1 f1=>?_
 rw [aaV]
 intro x dx hx hdx hne
 split at h1
 ·rename_i os ρ2 e
  obtain ⟨C1,A2,R2,o2,f2,m2,c2⟩:=R1.takeL v1 f1 e
  have hx1:upd H1 dx (.own x) x=none:=by rw [ae (abu hne)]; exact hx
  have hh:Same H1 (upd (upd H1 dx (.own x)) x (.ins C dx [])):=(bn hdx).trans (bn hx1)
  have R3:=R2.step (F':=F1) (H':=upd (upd H1 dx (.own x)) x (.ins C dx [])) ⟨Same.refl _,hh,R2.fh.trans hh,fun a o h n=>by rw [n] at h; cases h⟩
  have o3:=o2.keep (Same.refl F1) fun a u _ h=>hh a u h
  have fx:F1 x=none:=R2.fh.free hx
  have zx:Z x=none:=R2.zh.free hx
  have nx:x ∉ A2:=fun z=>by obtain ⟨u,hu⟩:=R2.sl.live x z; rw [hx] at hu; cases hu
  have nC:x ∉ C1:=fun z=>by obtain ⟨u,hu⟩:=o2.live x z; rw [hx] at hu; cases hu
  refine R3.call (.cons (.ob (.mk ad hC.ns rfl (aaq _) .nil)) o3) ⟨List.nodup_cons.mpr ⟨nC,f2.nd⟩,fun b hb=>?_⟩ (h1 x) fun o os' v F4 H4 C4 B p s4 R4 w4 w5 f4=>?_
  ·rcases List.mem_cons.mp hb with z | z
   ·rw [z]; exact ⟨fx,zx,nx⟩
   ·exact f2.fr b z
  ·split at p
   ·rename_i o1 os2
    cases w5 with
    | fz dn =>
     cases w4 with
     | @cons _ _ _ _ D1 D2 w6 w7 =>
      rw [aaV] at f4
      obtain ⟨n1,n2,n3⟩:=a9 (aaz (D1++D2)) f4.nd
      obtain ⟨A5,R5,m5⟩:=R4.putL v1 w7 ⟨n2,fun b hb=>f4.fr b (List.mem_append.mpr (.inr hb))⟩
      refine ⟨dn.non_eq,q _ _ _ _ _ _ _ p (s1.trans s4) R5 w6 ⟨n1,fun b hb=>?_⟩⟩
      have:=f4.fr b (List.mem_append.mpr (.inl hb))
      exact ⟨this.1,this.2.1,fun z=>(m5 b z).elim this.2.2 fun y=>n3 b hb y⟩
   ·exact p.elim
 ·exact h1.elim⟩
def uM (c i k:Nat):FE:=fun ρ Q=>match unO ρ i c with
 | some (a,ps)=>(match ps[k]? with
  | some g=>Q (.ov (.fz (fV g))) (ρ.set i (some (.ob ⟨a,c,ps.set k (.fz (fV g))⟩)))
  | none=>False)
 | none=>False
theorem AL (hC:ClsF K c C)(hj:μ[j]?=some i)(hf:(cr c)[k]?=some f):EF K μ (yc K (cO j) f) (uM c i k):=⟨by
 intro F Z H τ σ ρ A Q P vw R h q
 unfold uM at h
 split at h
 ·rename_i a ps e
  split at h
  ·rename_i g eg
   obtain ⟨v,B,A',h1,h2,R',f',pm⟩:=R.takeI (qx e)
   have hk:k < ps.length:=(List.getElem?_eq_some_iff.mp eg).1
   cases h2 with
   | ob h2 =>
    cases h2 with
    | @mk _ C' dx _ fs _ B hH hns hf' hl hp =>
     have:C'=C:=by have:=hns.symm.trans hC.ns; cases this; rfl
     subst this
     obtain ⟨nd1,nd2⟩:=List.nodup_cons.mp f'.nd
     obtain ⟨x,C1,B1,g1,g2,pm1,g4⟩:=hp.at_ eg
     have mC:∀ b ∈ C1,b ∈ a::B:=fun b hb=>aad _ (pm1.mem_iff.mpr (List.mem_append.mpr (.inl hb)))
     have mB:∀ b ∈ B1,b ∈ B:=fun b hb=>pm1.mem_iff.mpr (List.mem_append.mpr (.inr hb))
     obtain ⟨n1,n2,n3⟩:=a9 pm1 nd2
     obtain ⟨F2,s2,R2,k2,w2⟩:=R'.grow g2.live fun b hb=>f'.fr b (mC b hb)
     have dn:=g2.freeze s2 k2
     obtain ⟨B2,w3,pm3⟩:=g4 F2 H x (.fz (fV g)) [] s2 (fun _ _ _ h=>h) (.fz dn)
     rw [lM g1] at w3
     have hF2:∀ b ∈ a::B2,F2 b=none/\Z b=none/\b ∉ A':=fun b hb=>by
      have hb':b ∈ a::B:=by
       rcases List.mem_cons.mp hb with z | z
       ·exact z ▸ aab ..
       ·exact aad _ (mB b (pm3.mem_iff.mp z))
      refine ⟨?_,(f'.fr b hb').2⟩
      cases z:F2 b with
      | none=>rfl
      | some u =>
       have hc:=w2 b u z (f'.fr b hb').1
       rcases List.mem_cons.mp hb with y | y
       ·exact absurd (pm1.mem_iff.mpr (List.mem_append.mpr (.inl (y ▸ hc)))) nd1
       ·exact absurd (pm3.mem_iff.mp y) (n3 b hc)
     obtain ⟨A3,R3,_⟩:=R2.putI (o:=.ob ⟨a,c,ps.set k (.fz (fV g))⟩) (dc (qx e)) h1 (.ob (.mk hH hns (by rw [aaU]; exact hf') (by rw [aaU]; exact hl) w3)) ⟨List.nodup_cons.mpr ⟨fun z=>nd1 (mB a (pm3.mem_iff.mp z)),pm3.nodup_iff.mpr n2⟩,hF2⟩
     rw [abj] at R3
     exact ⟨.ref a,(vw j i hj).1.trans h1,a,C',dx,fs,x,rfl,hH,hC.cl,hC.na f (List.mem_of_getElem? hf),AE (k:=k) (by rw [hf']; exact (aba ..).nodup (dO c)) (by rw [hf']; exact iP hf hk) g1,q _ _ _ _ _ _ _ h s2 R3 (.fz dn) Fresh.nil⟩
  ·exact h.elim
 ·exact h.elim⟩
end
section
variable {K:Frag}     
theorem Obs.length {xs:List V}{os:List Oo}{B:List Addr}(h:Obs K F H xs os B):xs.length=os.length:=by
 induction h with
 | nil=>rfl
 | cons _ _ ih=>exact congrArg (·+1) ih
theorem Ob.at_ {o:Oo}(h:Ob K F H v o B):v=.ref o.a:=by cases h; rfl
def Fa (fe:FE):FE:=fun ρ Q=>fe ρ fun r ρ1=>match r with
 | .ov (.ob o)=>Q (.ov (.obs [o])) ρ1
 | _=>False
theorem AM (he:EF K μ te fe):EF K μ (GU (dl te kr)) (Fa fe):=⟨by
 intro F Z H τ σ ρ A Q P vw R h q
 refine he.h vw R h fun r ρ1 v F1 H1 A1 B1 p1 s1 R1 v1 f1=>⟨by rw [sizeLine_eq]; exact (by decide:(1:Nat)<=16777216),fun p hp=>?_⟩
 split at p1
 ·rename_i o
  cases v1 with
  | ob v1 =>
   have hf:F1 p=none:=R1.fh.free hp
   have R2:=R1.step (Pure.new (o:=.lst [v]) R1.fh hp)
   have w:Obs K F1 (upd H1 p (.lst [v])) [v] [o] (B1++[]):=.cons (v1.keep (Same.refl _) fun a u _ h=>bn hp a u h) .nil
   rw [aaV] at w
   have np:p ∉ B1:=fun z=>by obtain ⟨u,hu⟩:=v1.live p z; rw [hp] at hu; cases hu
   refine q _ _ _ _ _ _ _ p1 s1 R2 (.obs ad w) ⟨List.nodup_cons.mpr ⟨np,f1.nd⟩,fun b hb=>?_⟩
   rcases List.mem_cons.mp hb with z | z
   ·rw [z]; exact ⟨hf,R1.zh.free hp,fun y=>by obtain ⟨u,hu⟩:=R1.sl.live p y; rw [hp] at hu; cases hu⟩
   ·exact f1.fr b z
 ·exact p1.elim⟩
def uN (i:Nat):FE:=fun ρ Q=>match ρ[i]? with
 | some (some (.obs os))=>Q (.ov (.fz (.int os.length))) ρ
 | some (some (.obh os _))=>Q (.ov (.fz (.int (os.length+1:Nat)))) ρ
 | _=>False
theorem AN (hj:μ[j]?=some i):EF K μ (tCB (Cn K) (dl (cO j) kr)) (uN i):=⟨by
 intro F Z H τ σ ρ A Q P vw R h q
 unfold uN at h
 split at h
 ·rename_i os e
  obtain ⟨v,B,h1,h2,_⟩:=R.chg e
  cases h2 with
  | @obs a xs _ _ hH ho =>
   refine ⟨.ref a,(vw j i hj).1.trans h1,.inr (.inl ⟨a,_,rfl,.inl (SqL.of hH),?_⟩)⟩
   rw [abE,ho.length]
   exact q _ _ _ _ _ _ _ h (Same.refl _) R (.fz (.int _)) Fresh.nil
 ·rename_i os b e
  obtain ⟨v,B,h1,h2,_⟩:=R.chg e
  cases h2 with
  | @obh a _ xs _ _ hH ho =>
   refine ⟨.ref a,(vw j i hj).1.trans h1,.inr (.inl ⟨a,_,rfl,.inl (SqL.of hH),?_⟩)⟩
   rw [abE,List.length_cons,ho.length]
   exact q _ _ _ _ _ _ _ h (Same.refl _) R (.fz (.int _)) Fresh.nil
 ·exact h.elim⟩
def lN (i:Nat):FE:=fun ρ Q=>match ρ[i]? with
 | some (some (.obs (o::os)))=>Q (.ov (.ob o)) (ρ.set i (some (.obh os o.a)))
 | _=>False
theorem uO (hj:μ[j]?=some i):EF K μ (tOp (wT K) (cO j) (tUn (rU fun i=>.int (-i)) (tC (.int 1)))) (lN i):=⟨by
 intro F Z H τ σ ρ A Q P vw R h q
 unfold lN at h
 split at h
 ·rename_i o os e
  obtain ⟨v,B,A',h1,h2,R',f',pm⟩:=R.takeI e
  cases h2 with
  | @obs a xs _ _ hH ho =>
   cases ho with
   | @cons x _ xs _ B1 B2 h3 h4 =>
    have ex:=h3.at_
    subst ex
    obtain ⟨nd1,nd2⟩:=List.nodup_cons.mp f'.nd
    obtain ⟨n1,n2,n3⟩:=a9 (aaz (B1++B2)) nd2
    obtain ⟨A3,R3,p3⟩:=R'.putI (o:=.obh os o.a) (dc e) h1 (.obh hH h4) ⟨List.nodup_cons.mpr ⟨fun z=>nd1 (List.mem_append.mpr (.inr z)),n2⟩,fun b hb=>f'.fr b (by
     rcases List.mem_cons.mp hb with z | z
     ·exact z ▸ aab ..
     ·exact aad _ (List.mem_append.mpr (.inr z)))⟩
    rw [abj] at R3
    refine ⟨.ref a,(vw j i hj).1.trans h1,1,rfl,.inl (.inl ⟨a,_,-1,.ref o.a,rfl,rfl,SqL.of hH,(by rw [List.reverse_cons]; exact sR _ _),q _ _ _ _ _ _ _ h (Same.refl _) R3 (.ob h3) ⟨n1,fun b hb=>?_⟩⟩)⟩
    have hb':=f'.fr b (aad _ (List.mem_append.mpr (.inl hb)))
    refine ⟨hb'.1,hb'.2.1,fun z=>?_⟩
    rcases List.mem_append.mp (p3.mem_iff.mp z) with y | y
    ·rcases List.mem_cons.mp y with y | y
     ·exact nd1 (y ▸ List.mem_append.mpr (.inl hb))
     ·exact n3 b hb y
    ·exact hb'.2.2 y
 ·exact h.elim⟩
def AO (i:Nat):FE:=fun ρ Q=>match ρ[i]? with
 | some (some (.obh os _))=>Q (.ov (.fz .non)) (ρ.set i (some (.obs os)))
 | _=>False
theorem AQ :SF K n m (sD (Cl K "list" Hy (cO i))) (dB (AO i)):=⟨by
 intro F Z H σ0 σ ρ A D fD R p E h
 unfold dB AO at h
 split at h
 ·rename_i os b e
  obtain ⟨v,B,h1,h2,nd,mA,mk⟩:=R.chg e
  cases h2 with
  | @obh a _ xs _ B hH ho =>
   obtain ⟨A3,R3⟩:=mk (upd H a (.lst xs.reverse)) (.obs os) (a::B) (fun y u hy q=>by rw [ae (show y≠a from fun z=>hy (z ▸ aab ..))]; exact q) (.obs ad (ho.keep (Same.refl _) fun y u hy q=>by rw [ae (show y≠a from fun z=>(List.nodup_cons.mp nd).1 (z ▸ hy))]; exact q)) nd fun y hy=>.inl hy
   refine ⟨.ref a,h1,.inl ⟨rfl,_,SqL.of hH⟩,a,_,.ref b,rfl,rfl,hH,?_,?_⟩
   ·rw [abE,List.length_cons,List.reverse_cons,List.getElem?_append_right (by rw [abE]; nofun)]
    simp
   ·have:((V.ref b::xs).reverse).dropLast=xs.reverse:=by rw [List.reverse_cons,List.dropLast_concat]
    rw [this]
    exact E.nx _ _ _ _ _ (Same.refl _) R3 p h
 ·exact h.elim⟩
def bk (i ix:Nat)(ρ:FSt)(k:FSt->Prop):Prop:=match ρ[i]? with
 | some (some (.obh os b))=>(match ρ[ix]? with
  | some (some (.ob o))=>o.a=b/\k ((ρ.set ix none).set i (some (.obs (o::os))))
  | _=>False)
 | _=>k ρ
theorem Rel.bk {k:FSt->Prop}(R:Rel K F Z H σ ρ A)(h:L2.bk i ix ρ k):∃ ρ' A',Rel K F Z H σ ρ' A'/\k ρ':=by
 unfold L2.bk at h
 split at h
 ·rename_i os b e
  split at h
  ·rename_i o eo
   obtain ⟨rfl,h⟩:=h
   obtain ⟨v,B,A',h1,h2,R',f',pm⟩:=R.takeI eo
   have hne:ix≠i:=fun z=>by rw [z,e] at eo; cases eo
   have e':(ρ.set ix none)[i]?=some (some (.obh os o.a)):=by rw [List.getElem?_set_ne hne]; exact e
   obtain ⟨w,B2,g1,g2,nd,mA,mk⟩:=R'.chg e'
   cases h2 with
   | ob h2 =>
    cases g2 with
    | @obh a _ xs _ B2 hH ho =>
     have ex:=h2.at_
     subst ex
     have na:a ∉ B:=fun z=>(f'.fr a z).2.2 (mA a (aab ..))
     obtain ⟨A3,R3⟩:=mk H (.obs (o::os)) (a::(B++B2)) (fun _ _ _ q=>q) (.obs hH (.cons h2 ho)) (List.nodup_cons.mpr ⟨fun z=>(List.mem_append.mp z).elim na (List.nodup_cons.mp nd).1,List.nodup_append.mpr ⟨f'.nd,(List.nodup_cons.mp nd).2,fun y hy y' hy' z=>(f'.fr y hy).2.2 (mA y (aad _ (z ▸ hy')))⟩⟩)
      (fun y hy=>by
       rcases List.mem_cons.mp hy with z | z
       ·exact .inl (z ▸ aab ..)
       ·exact (List.mem_append.mp z).elim (fun z=>.inr (f'.fr y z)) fun z=>.inl (aad _ z))
     exact ⟨_,A3,R3,h⟩
  ·exact h.elim
 ·exact ⟨ρ,A,R,h⟩
def w8 (i ix:Nat)(f:FS):FS:=fun E ρ=>bk i ix ρ fun ρ'=>f E ρ'
theorem uP {t:TS}{f:FS}(h:SF K n m t f):SF K n m t (w8 i ix f):=⟨fun R p E q=>by
 obtain ⟨ρ',A',R',q'⟩:=R.bk q
 exact h.h R' p E q'⟩
def Fb (i ix:Nat)(f:FS):FS:=fun E ρ=>f { E with nx:=fun ρ=>bk i ix ρ E.nx,ct:=fun ρ=>bk i ix ρ E.ct } ρ
theorem AR {t:TS}{f:FS}(h:SF K n m t f):SF K n m t (Fb i ix f):=⟨fun {F Z H σ0 σ ρ A D fD} R p E q=>h.h (fD:={ fD with nx:=fun ρ=>bk i ix ρ fD.nx,ct:=fun ρ=>bk i ix ρ fD.ct }) R p ⟨fun F' H' σ' ρ' A' s R' p' h'=>by
  obtain ⟨ρ2,A2,R2,q2⟩:=R'.bk h'
  exact E.nx _ _ _ _ _ s R2 p' q2,E.rt,E.bk,fun F' H' σ' ρ' A' s R' p' h'=>by
  obtain ⟨ρ2,A2,R2,q2⟩:=R'.bk h'
  exact E.ct _ _ _ _ _ s R2 p' q2⟩ q⟩
end
section
variable {K:Frag}     
def Fc (fa:FA):FE:=fun ρ Q=>fa ρ fun rs ρ1=>match takeL rs ρ1 with
 | some (os,ρ2)=>∀ as:Nat->Addr,(match qw as 0 os with
  | some ps=>ps.length<=sizeLine/\Q (.ov (.ot ps)) ρ2
  | none=>False)
 | none=>False
theorem AS (ha:AF K μ t fa):EF K μ (GT t) (Fc fa):=⟨by
 intro F Z H τ σ ρ A Q P vw R h q
 refine ha.h vw R h fun rs ρ1 vs F1 H1 A1 B1 h1 s1 R1 v1 f1=>?_
 split at h1
 ·rename_i os ρ2 e
  obtain ⟨C,A2,R2,o2,f2,m2,c2⟩:=R1.takeL v1 f1 e
  have h2:=h1 fun j=>adr (vs.getD j .non)
  split at h2
  ·rename_i ps ep
   have w:=o2.parts (i:=0) (fun j v hj=>by rw [Nat.zero_add,List.getD_eq_getElem?_getD,hj]; rfl) ep
   refine ⟨by rw [w.length]; exact h2.1,fun p hp=>?_⟩
   have R3:=R2.step (Pure.new (o:=.tup vs) R2.fh hp)
   have np:p ∉ C:=fun z=>by obtain ⟨u,hu⟩:=o2.live p z; rw [hp] at hu; cases hu
   refine q _ _ _ _ _ _ _ h2.2 s1 R3 (.ot ad (w.keep (Same.refl _) fun a u _ h=>bn hp a u h)) ⟨List.nodup_cons.mpr ⟨np,f2.nd⟩,fun b hb=>?_⟩
   rcases List.mem_cons.mp hb with z | z
   ·rw [z]; exact ⟨R2.fh.free hp,R2.zh.free hp,fun y=>by obtain ⟨u,hu⟩:=R2.sl.live p y; rw [hp] at hu; cases hu⟩
   ·exact f2.fr b z
  ·exact h2.elim
 ·exact h1.elim⟩
theorem Rel.otL {b:Addr}(R:Rel K F Z H σ ρ A)(e:ρ[i]?=some (some (.ot ps)))(ed:ps[k]?=some (.fl b ds)) :
  ∃ a ys xs,σ[i]?=some (some (.ref a))/\H a=some (.tup ys)/\ys[k]?=some (.ref b)/\H b=some (.lst xs)/\Dens K F xs ds/\∀ xs' ds',Dens K F xs' ds'->∃ A',Rel K F Z (upd H b (.lst xs')) σ (ρ.set i (some (.ot (ps.set k (.fl b ds'))))) A':=by
 obtain ⟨v,B0,h1,h2,nd,mA,mk⟩:=R.chg e
 cases h2 with
 | @ot a ys _ B hH hp =>
  obtain ⟨nd1,nd2⟩:=List.nodup_cons.mp nd
  obtain ⟨x,C1,B1,g1,g2,pm,g4⟩:=hp.at_ ed
  cases g2 with
  | @fl _ xs _ hb dn =>
   have hbB:b ∈ B:=pm.mem_iff.mpr (by simp)
   have hab:a≠b:=fun z=>nd1 (z ▸ hbB)
   obtain ⟨_,n2,n3⟩:=a9 pm nd2
   refine ⟨a,ys,xs,h1,hH,g1,hb,dn,fun xs' ds' dn'=>?_⟩
   obtain ⟨B2,w2,pm2⟩:=g4 F (upd H b (.lst xs')) (.ref b) (.fl b ds') [b] (Same.refl _) (fun y u hy q=>by rw [ae (show y≠b from fun z=>n3 b (by simp) (z ▸ hy))]; exact q) (.fl ad dn')
   rw [lM g1] at w2
   have mB:∀ y ∈ B2,y ∈ B:=fun y hy=>pm.mem_iff.mpr (pm2.mem_iff.mp hy)
   exact mk _ _ (a::B2) (fun y u hy q=>by rw [ae (show y≠b from fun z=>hy (z ▸ aad _ hbB))]; exact q) (.ot (by rw [ae hab]; exact hH) w2) (List.nodup_cons.mpr ⟨fun z=>nd1 (mB a z),(pm2.trans pm.symm).nodup_iff.mpr nd2⟩) fun y hy=>.inl (by
    rcases List.mem_cons.mp hy with z | z
    ·exact z ▸ aab ..
    ·exact aad _ (mB y z))
theorem iQ {l:List α}{x:α}(h:l[k]?=some x):atI l (k:Int)=some x:=by
 have:=(List.getElem?_eq_some_iff.mp h).1
 unfold atI ixN
 rw [if_pos (Int.natCast_nonneg k),if_pos (by nofun)]
 exact h
def uQ (i k:Nat)(fe:FE):FE:=fun ρ Q=>match ρ[i]? with
 | some (some (.ot ps0))=>(match ps0[k]? with
  | some (.fl b _)=>fe ρ fun r ρ1=>(match fzR r ρ1 with
   | some (d,ρ2)=>(match ρ2[i]? with
    | some (some (.ot ps))=>(match ps[k]? with
     | some (.fl b' ds)=>b'=b/\ds.length < sizeLine/\Q (.ov (.fz .non)) (ρ2.set i (some (.ot (ps.set k (.fl b' (ds++[d]))))))
     | _=>False)
    | _=>False)
   | none=>False)
  | _=>False)
 | _=>False
theorem AT (hj:μ[j]?=some i)(he:EF K μ te fe):EF K μ (tBM K "list" dZ (tOp (wT K) (cO j) (tC (.int k))) (dl te kr)) (uQ i k fe):=⟨by
 intro F Z H τ σ ρ A Q P vw R h q
 unfold uQ at h
 split at h
 ·rename_i ps0 e0
  split at h
  ·rename_i b ds0 ed0
   obtain ⟨a,ys,xs,h1,h2,h3,h4,_⟩:=R.otL e0 ed0
   refine ⟨.ref a,(vw j i hj).1.trans h1,.inl (.inr (.inl ⟨a,ys,k,.ref b,rfl,rfl,SqT.of h2,iQ h3,.inl ⟨rfl,xs,SqL.of h4⟩,?_⟩))⟩
   refine he.h vw R h fun r ρ1 v F1 H1 A1 B1 p1 s1 R1 v1 f1=>?_
   split at p1
   ·rename_i d ρ2 e2
    obtain ⟨F2,A2,s2,R2,dy,_,_⟩:=R1.frz v1 f1 e2
    split at p1
    ·rename_i ps e3
     split at p1
     ·rename_i b' ds e4
      obtain ⟨rfl,p2,p3⟩:=p1
      obtain ⟨a',ys',xs',g1,g2,g3,g4,g5,mt⟩:=R2.otL e3 e4
      obtain ⟨A3,R3⟩:=mt (xs'++[v]) (ds++[d]) (g5.snoc dy)
      exact ⟨b',xs',v,rfl,rfl,g4,by rw [g5.length]; exact p2,q _ _ _ _ _ _ _ p3 (s1.trans s2) R3 (.fz .non) Fresh.nil⟩
     ·exact p1.elim
    ·exact p1.elim
   ·exact p1.elim
  ·exact h.elim
 ·exact h.elim⟩
def uR (i k:Nat):FE:=fun ρ Q=>match ρ[i]? with
 | some (some (.ot ps))=>(match ps[k]? with
  | some (.fl b _)=>Q (.ov (.fz .non)) (ρ.set i (some (.ot (ps.set k (.fl b [])))))
  | _=>False)
 | _=>False
theorem AU (hj:μ[j]?=some i):EF K μ (Cl K "list" k9 (tOp (wT K) (cO j) (tC (.int k)))) (uR i k):=⟨by
 intro F Z H τ σ ρ A Q P vw R h q
 unfold uR at h
 split at h
 ·rename_i ps e
  split at h
  ·rename_i b ds ed
   obtain ⟨a,ys,xs,h1,h2,h3,h4,h5,mt⟩:=R.otL e ed
   obtain ⟨A3,R3⟩:=mt [] [] .nil
   exact ⟨.ref a,(vw j i hj).1.trans h1,.inl (.inr (.inl ⟨a,ys,k,.ref b,rfl,rfl,SqT.of h2,iQ h3,.inl ⟨rfl,xs,SqL.of h4⟩,b,xs,rfl,rfl,h4,q _ _ _ _ _ _ _ h (Same.refl _) R3 (.fz .non) Fresh.nil⟩))⟩
  ·exact h.elim
 ·exact h.elim⟩
def Fd (c k:Nat)(fe:FE):FE:=fun ρ Q=>fe ρ fun r ρ1=>match r with
 | .ov (.ob ⟨_,c',ps⟩)=>(match Nat.beq c' c with
  | true=>(match ps[k]? with
   | some g=>Q (.ov (.fz (fV g))) ρ1
   | none=>False)
  | false=>False)
 | _=>False
theorem AV (hC:ClsF K c C)(hf:(cr c)[k]?=some f)(he:EF K μ te fe):EF K μ (yc K te f) (Fd c k fe):=⟨by
 intro F Z H τ σ ρ A Q P vw R h q
 refine he.h vw R h fun r ρ1 v F1 H1 A1 B1 p1 s1 R1 v1 f1=>?_
 split at p1
 ·rename_i a c' ps
  split at p1
  ·rename_i ec
   obtain rfl:c'=c:=Nat.eq_of_beq_eq_true ec
   split at p1
   ·rename_i g eg
    cases v1 with
    | ob v1 =>
     cases v1 with
     | @mk _ C' dx _ fs _ B hH hns hf' hl hp =>
      have:C'=C:=by have:=hns.symm.trans hC.ns; cases this; rfl
      subst this
      have hk:k < ps.length:=(List.getElem?_eq_some_iff.mp eg).1
      obtain ⟨x,C1,B2,g1,g2,pm1,_⟩:=hp.at_ eg
      obtain ⟨F2,s2,R2,k2,_⟩:=R1.grow g2.live fun b hb=>f1.fr b (aad _ (pm1.mem_iff.mpr (List.mem_append.mpr (.inl hb))))
      exact ⟨a,C',dx,fs,x,rfl,hH,hC.cl,hC.na f (List.mem_of_getElem? hf),AE (k:=k) (by rw [hf']; exact (aba ..).nodup (dO c')) (by rw [hf']; exact iP hf hk) g1,q _ _ _ _ _ _ _ p1 (s1.trans s2) R2 (.fz (g2.freeze s2 k2)) Fresh.nil⟩
   ·exact p1.elim
  ·exact p1.elim
 ·exact p1.elim⟩
def qz (c:Ct)(i:Nat)(fa:FA):FE:=fun ρ Q=>match ρ[i]? with
 | some (some o)=>(match zt o with
  | some d=>gF ((ρ.map fzo).set i (some (.fz d))) fun ρ0=>fa ρ0 fun rs _=>(match E7 rs with
   | some ds=>c (ds.map .fz) fun o' _=>(match o' with
    | .fz e=>flD e=true/\Q (.ov (.fz e)) ρ
    | _=>False)
   | none=>False)
  | none=>False)
 | _=>False
theorem uS (h:Den K F v d)(f:flD d=true)(G:Hp):Den K G v d:=by
 cases h with
 | non=>exact .non
 | bl b=>exact .bl b
 | int b=>exact .int b
 | str b=>exact .str b
 | _=>exact nomatch f
theorem uT {c:Ct}(ha:AF K μ t fa):EF K μ (ku (spM K c) [] E0 t) (qz c i fa):=⟨by
 intro F Z H τ σ ρ A Q P vw R h q
 unfold qz at h
 split at h
 ·rename_i o e
  split at h
  ·rename_i d ed
   rw [cE] at h
   obtain ⟨v,B,A',h1,h2,R',f',pm⟩:=R.takeI e
   obtain ⟨F1,s1,R1,k1,w1⟩:=R'.grow h2.live f'.fr
   have dn:=h2.freeze s1 k1 ed
   obtain ⟨Z1,hin,hout⟩:=mix A' H Z
   have mz:∀ a,a ∈ A'->Z a=none:=fun a ha=>(R'.fr a ha).2
   have sz:Same Z Z1:=fun a u z=>by rw [hout a fun y=>by rw [mz a y] at z; cases z]; exact z
   have hi:i < ρ.length:=(List.getElem?_eq_some_iff.mp e).1
   have sl0:Slots K F1 H σ ((ρ.map fzo).set i none) []:=by
    have:=Slots.fzo R1.sl
    rwa [List.map_set] at this
   obtain ⟨A0,pm0,sl1⟩:=sl0.put (i:=i) (o:=.fz d) (B:=[]) (by rw [List.getElem?_set_self (by rw [List.length_map]; exact hi)]) h1 (.fz dn)
   rw [abj] at sl1
   have hA0:A0=[]:=List.perm_nil.mp pm0
   subst hA0
   have R2:Rel K F1 Z1 H σ ((ρ.map fzo).set i (some (.fz d))) []:=⟨sl1,aaB,(fun _ z=>nomatch z),R1.fh,fun a u z=>by
    by_cases y:a ∈ A'
    ·rw [hin a y] at z; exact z
    ·rw [hout a y] at z; exact R.zh a u z,fun a u z=>by
    rw [hout a fun y=>by rw [(R1.fr a y).1] at z; cases z]; exact R1.dj a u z⟩
   refine ha.h vw R2 h fun rs ρ1 vs F2 H2 A2 B2 h3 s2 R3 v3 f3=>?_
   rw [aaV]
   split at h3
   ·rename_i ds eds
    refine R3.call (C:=[]) (E5 (nH v3 eds)) Fresh.nil h3 fun o' os' w F3 H3 C3 B3 p s3 R4 w3 w4 f4=>?_
    split at p
    ·rename_i e'
     cases w4 with
     | fz dw =>
      have kA:∀ a u,a ∈ A->H a=some u->H3 a=some u:=fun a u ha hu=>by
       rcases List.mem_append.mp (pm.mem_iff.mp ha) with z | z
       ·exact R4.fh a u (s3 a u (s2 a u (k1 a u z hu)))
       ·exact R4.zh a u (by rw [hin a z]; exact hu)
      exact q _ _ _ _ _ _ _ p.2 (Same.refl F) ⟨R.sl.keep (Same.refl _) kA,R.nd,R.fr,((s1.trans s2).trans s3).trans R4.fh,sz.trans R4.zh,R.dj⟩ (.fz (uS dw p.1 F)) Fresh.nil
    ·exact p.elim
   ·exact h3.elim
  ·exact h.elim
 ·exact h.elim⟩
end
section
variable  {o value:Expr}   {pos' tpos apos:Pos} {ta:TE}    {ps:List Str} {sp:Sp}
theorem Fe (K:Frag)(he:BE X e ta)(hb:attributeBase e f X.env (eval e X.env)=eval e X.env)(hK:X.K=K):BE X (.Attribute e f pos) (yc K ta f):=by subst hK; exact ⟨C6 he.h hb⟩
theorem Ff (K:Frag)(ha:BE X o ta)(hv:BE X value tv)(hs:swapsWith value (some (.Attribute o f pos')) pos.line X.env=pure false)(hK:X.K=K):BS X (.Assign [.Attribute o f pos'] value pos) (GS K ta tv f):=by subst hK; exact ⟨C7 ha.h hv.h hs⟩
structure OwnM (P:Program)(w:World)(K:Frag)(mg:Str->Option Value)(base:Heap)(C:Addr)(x:Str)(k:Nat)(ps:List Str)(sp:Sp):Prop where
 ex:∃ (f:Addr) (fd:FuncData),FnOk P w K mg base CX0 k f fd ps sp/\Meth K C x f/\Binds K fd ps []
theorem Fg {m:Str}(O:OwnM X.prog X.w X.K X.mg X.base C m k ps sp)(c:Cls X.K C)(hr:Room k X.A)(he:BE X o ta)(ha:BA X (e::es) t)(hn:(e::es).all bi=true)
  (ht:∃ pl:Sem Bool,eval (.Call (.Attribute o m apos) (e::es) [] pos) X.env=(do
   let ov ← eval o X.env
   standAt apos.atName
   let (f,first) ← holding [ov] (getMethod ov m pl)
   callWith pos f first (backTo pos (starEach (e::es) X.env)) (backToKw pos (keywordEach [] X.env)))):BE X (.Call (.Attribute o m apos) (e::es) [] pos) (sN C m sp [] E0 ta t):=by
 obtain ⟨f,fd,F,hm,hb⟩:=O.ex
 obtain ⟨pl,ht⟩:=ht
 have h:=hn
 rw [aaK,Bool.and_eq_true] at h
 exact ⟨yh (pl:=pl) he.h c hm F hr hb .nil yx ha.h (aT h.1) (cv h.2) ht⟩
structure OwnI (P:Program)(w:World)(K:Frag)(mg:Str->Option Value)(base:Heap)(x:Str)(C:Addr)(k:Nat)(ps:List Str)(sp:Sp):Prop where
 ex:∃ (f:Addr) (fd:FuncData),FnOk P w K mg base CX0 k f fd ps sp/\Mk K C f/\mg x=some (.ref C)/\Binds K fd ps []
theorem IA   (O:OwnI X.prog X.w X.K X.mg X.base x C k ps sp) (hr:Room (k+1) X.A) (ha:BA X (e::es) t) (hg:X.env.kindOf x=some .globalImplicit) (hn:(e::es).all bi=true) (hdb:(x == ("__debug__" : Str))=false):BE X (.Call (.Name x p) (e::es) [] pos) (yf C sp [] E0 t):=by
 obtain ⟨f,fd,F,hm,hx,hb⟩:=O.ex
 have h:=hn
 rw [aaK,Bool.and_eq_true] at h
 exact ⟨yi hm F hr hg hx hb .nil yx ha.h hdb (aT h.1) (cv h.2)⟩
theorem Fh {t:TE}(K:Frag)(h:BE X (.Attribute o f pos) t)(hK:X.K=K):BT X (.Attribute o f pos) (HP K t):=by subst hK; exact ⟨kZ h.h (fun _=>rfl)⟩
theorem Fi (K:Frag)(h:X.K=K):BMt X "list.pop" Hy:=⟨Dj⟩
theorem uU (K:Frag)(h:X.K=K):BMt X "list.clear" k9:=⟨sT⟩
theorem uV:BE X (.Dict [] [] pos) oI:=⟨sY⟩
theorem AW  (hu:X.A.units+64 < cLine) (ho:BE X o td) (he:BE X e ty) (m:M1 X o "get" apos e pos):BE X (.Call (.Attribute o "get" apos) [e] [] pos) (oK td ty):=⟨tf (by nofun) ho.h he.h m⟩
end
theorem qA:typeLookup (.type "list") "keys" = pure none:=am_miss_of_fast (by decide +kernel)
section
variable {prog:Program} {w:World} {A:Around} {E:Value->Shared->Prop} 
theorem AX   {xs:Array Value}  {Q:Option Value->Shared->Prop} (hx:s.heap.get? a=some o) (hc:o.cls=.type "list") (hdat:o.data=.seq xs k) (hd:o.dict=none) (hA:A.handled=none)
  (h:∀ h' tk,(∀ b u,s.heap.get? b=some u->h'.get? b=some u)->Q none { s with heap:=h',toks:=tk }):wpAny (model prog w) A (getAttr? (.ref a) "keys") Q E s:=by
 obtain ⟨c,dct,dat,sl⟩:=o
 simp only at hc hdat hd
 subst hc hdat hd
 obtain ⟨hp,g,d,tk,os⟩:=s
 have hT:∀ tk',(⟨hp,g,d,tk',os⟩:Shared).TypeIs (.ref a) "list" := fun _=>⟨_,hx,rfl⟩
 have f1:=sub_AttributeError
 have f3:=F.slot_list_getattribute.lookup
 have f4:=F.slot_list_getattribute.bind (.ref a)
 have f5:=am_list_getattr_none
 unfold getAttr? getAttrBy? getAttrBy
 repeat (any_goals (first | assumption | exact hT _ | ((with_reducible show wpAny _ _ (call (Value.builtin "list.__getattribute__") _ _) _ _ _); refine call_meets F.slot_list_getattribute (hT _) am_entry_list_getattribute (F.args_list_getattribute_2 _ _) (meets_getattribute_miss_list a xs k sl "keys" _ qA (by decide +kernel) (by decide +kernel)) ⟨hx,hA,fun h' tk' e hx'=>?_⟩) | wp_step))
 obtain ⟨t',u',he⟩:=hx'.there
 show wpAny _ _ (getattributeRaised _ _ _ _ _ _ _) _ _ _
 unfold getattributeRaised
 repeat (any_goals (first | assumption | wp_step))
 exact h _ _ hx'.keeps
theorem lO:entryFor table "dict.update.loop" = some Builtin.«dict.update.loop»:=entryFor_of_tree (by kernel_rfl)
theorem fu:plainId "dict.update.loop" = true:=by decide +kernel
variable  [DecidableEq K] {knd:KeyKind prog w K}
def uW (kv:Nat->K×Value)(i:Nat):List (K×Value):=((List.range i).map kv).foldl (fun m p=>stored m p.1 p.2) []
theorem gm (kv:Nat->K×Value)(i:Nat):uW kv (i+1)=stored (uW kv i) (kv i).1 (kv i).2:=by
 unfold uW; rw [List.range_succ,aag,List.foldl_append]; rfl
theorem nJ {t:Addr}  {k v:Value} {m:Nat} {Q:List Value->Shared->Prop} (h1:s.heap.get? t=some o) (h2:o.cls=.type "tuple") (h3:o.data=.seq #[k,v] m) (h:Q [k,v] s):wpAny (model prog w) A (Builtin.Dict.pairItems (.ref t)) Q E s:=by
 obtain ⟨c,dct,dat,sl⟩:=o
 simp only at h2 h3
 subst h2 h3
 obtain ⟨hp,g,d,tk,os⟩:=s
 have hT:(⟨hp,g,d,tk,os⟩:Shared).TypeIs (.ref t) "tuple" := ⟨_,h1,rfl⟩
 unfold Builtin.Dict.pairItems
 repeat (any_goals (first | assumption | wp_step))
theorem lP (kv:Nat->K×Value):∀ i,(uW kv i).length<=i
 | 0=>aae _
 | i+1=>by rw [gm]; exact aav (stored_length_le ..) (Nat.succ_le_succ (lP kv i))
theorem qB {R:Result->Shared->Prop}{I:Addr}{fp wr:List Addr}{G:Array GenState->Array GenState->Prop}{P:Nat->Value->Prop}{St:Nat->Shared->Prop}(W:WalksS prog w A.in1 I fp wr G n P St)(d:Addr)(hdf:d ∉ fp)
  (kv:Nat->K×Value) (hn:n<=sizeLine):∀ (k i:Nat) (s:Shared),n - i=k->i<=n->St i s ->
   (∀ i v,P i v->∃ t o key m,v=.ref t/\s.heap.get? t=some o/\o.cls=.type "tuple" /\ o.data=.seq #[key,(kv i).2] m/\knd.is (kv i).1 key=true/\t ∉ d::wr)->s.heap.DictOf knd d (uW kv i) ->
   (∀ s',Moved (d::wr) G s s'->s'.heap.DictOf knd d (uW kv n)->R (.ok (.ret .none)) s') ->
   codeAny (model prog w) A (.builtin "dict.update.loop" ⟨[.ref d,.ref I,rawInt i,.none],[]⟩) R s:=by
 have hSw:d ∉ wr:=fun h=>hdf (W.sub _ h)
 have hsub:∀ b ∈ wr,b ∈ d::wr:=fun b hb=>aad _ hb
 intro k
 induction k with
 | zero =>
  intro i s hk hi hst hT hS hR
  obtain rfl:i=n:=by nofun
  refine codeAny_builtin lO ?_
  rw [aaE fu _]
  show wpAny _ A.in1 (pyNext (.ref I) >>= _) _ _ s
  refine aaa (W.done s _ _ hst fun s' hm=>?_)
  show wpAny _ A.in1 (Builtin.Dict.addKeywords d [] >>= fun _=>ret Value.none) _ _ s'
  obtain ⟨o,es,ep,ho,r⟩:=hS
  exact aaa (aac (aac (hR s' (hm.mono hsub) ⟨o,es,ep,hm.heap d o hSw ho,r⟩)))
 | succ k ih =>
  intro i s hk hi hst hT hS hR
  have hlt:i < n:=by nofun
  refine codeAny_builtin lO ?_
  rw [aaE fu _]
  show wpAny _ A.in1 (pyNext (.ref I) >>= _) _ _ s
  refine aaa (W.item i s _ _ hlt hst fun v s' hP hst' hm=>?_)
  obtain ⟨t,o,key,m,rfl,h1,h2,h3,h4,h5⟩:=hT i v hP
  have keep:∀ b u,b ∉ wr->s.heap.get? b=some u->s'.heap.get? b=some u:=fun b u hb q=>hm.heap b u hb q
  have hS':s'.heap.DictOf knd d (uW kv i):=by
   obtain ⟨o,es,ep,ho,r⟩:=hS
   exact ⟨o,es,ep,keep d o hSw ho,r⟩
  show wpAny _ A.in1 (holding [Value.ref t] _ >>= _) _ _ s'
  refine aaa (aaD ?_)
  refine aaa (wpAny_tryCatch ?_)
  refine nJ (keep t o (fun z=>h5 (hsub t z)) h1) h2 h3 ?_
  show wpAny _ A.in1 (holding [key,(kv i).2] (dictSet d key (kv i).2)) _ _ s'
  refine aaD (wpAny_dictSet_pairs h4 hS' (fun h' hd' hsb=>?_) (aav (lP kv i) (by nofun)))
  rw [← gm] at hd'
  refine aac ⟨plainId_quiet fu _,ih (i+1) _ (by nofun) hlt (W.frame _ s' _ _ hst' (aaT _) fun b hb o e=>?_) (fun j v hj=>?_) hd' fun s'' hm'' hS''=>?_⟩
  ·rw [hsb.2 b (fun h:b=d=>hdf (by rw [← h]; exact hb))]; exact e
  ·obtain ⟨t',o',key',m',e1,e2,e3,e4,e5,e6⟩:=hT j v hj
   exact ⟨t',o',key',m',e1,(hsb.2 t' fun z=>e6 (z ▸ aab ..)).trans (keep t' o' (fun z=>e6 (hsub t' z)) e2),e3,e4,e5,e6⟩
  ·refine hR s'' (Moved.trans W.gtrans ((hm.mono hsub).then_heap (aaT _) fun b o hb e=>?_) hm'') hS''
   rw [hsb.2 b (fun h:b=d=>hb (by rw [h]; exact aab))]; exact e
theorem jN {l:Addr} {ol:Obj} {items:Array Value} {nl:Nat} {Q:Value->Shared->Prop} (hl:s.heap.get? l=some ol) (hc:ol.cls=.type "list") (hdat:ol.data=.seq items nl) (hdn:ol.dict=none) (hh:A.handled=none) (kv:Nat->K×Value)
  (hT:∀ (i:Nat) v,items[i]?=some v->∃ t o key m,v=.ref t/\s.heap.get? t=some o/\o.cls=.type "tuple" /\ o.data=.seq #[key,(kv i).2] m/\knd.is (kv i).1 key=true) (hn:items.size<=sizeLine)
  (h:∀ h' tk,h'.DictOf knd s.heap.objs.size (uW kv items.size)->(∀ b o,s.heap.get? b=some o->h'.get? b=some o)->Q (.ref s.heap.objs.size) { s with heap:=h',toks:=tk }) :
  wpAny (model prog w) A (call (.type "dict") [.ref l]) Q E s:=by
 refine callType_codes (Q₁:=fun obj s₁=>obj=.ref s.heap.objs.size/\s₁={ s with heap:=s.heap.push { cls:=.type "dict", data:=.dict #[] } }) F.kt_called_dict (F.kt_typeCall_dict_1 _) F.entry_dict_init (kt_code_dict_new _ ⟨rfl,rfl⟩) ?_
 rintro obj s₁ ⟨rfl,rfl⟩
 have hnew:(s.heap.push { cls:=.type "dict", data:=.dict #[] }).DictOf knd s.heap.objs.size []:=Heap.DictOf.new s.heap
 have hl1:(s.heap.push { cls:=.type "dict", data:=.dict #[] }).get? l=some ol:=Heap.get?_push_of_some _ hl
 refine ⟨hnew.typeIs,F.args_dict_init_2 _ _,?_⟩
 unfold Builtin.«dict.__init__»
 refine aaa ?_
 unfold Builtin.Dict.selfAndRest
 refine aaa (wpAny_notOrdered_dict hnew.typeIs ?_)
 show wpAny _ _ (pure (s.heap.objs.size,[Value.ref l])) _ _ _
 refine aac ?_
 show wpAny _ _ (Builtin.Dict.updateFrom "dict.__init__" s.heap.objs.size (.ref l) [] .none) _ _ _
 unfold Builtin.Dict.updateFrom
 refine aaa (wpAny_typeOf (T := "list") ⟨ol,hl1,hc⟩ ?_)
 rw [if_pos (by decide)]
 refine aaa (AX hl1 hc hdat hdn (by simp [hh]) fun h1 tk1 k1=>?_)
 rw [if_pos (show (none:Option Value).isNone=true from rfl)]
 refine aaa (abB ?_)
 have hl2:h1.get? l=some ol:=k1 l ol hl1
 refine aaa (wpAny_pyIter_list (items:=items) ⟨ol,hl2,hc,nl,hdat⟩ ?_)
 have hd1:h1.DictOf knd s.heap.objs.size []:=by
  obtain ⟨o,es,ep,ho,r⟩:=hnew
  exact ⟨o,es,ep,k1 _ _ ho,r⟩
 have hsz:s.heap.objs.size < h1.objs.size:=by
  obtain ⟨o,es,ep,ho,r⟩:=hd1
  exact aaf ho
 have hlt:l < s.heap.objs.size:=aaf hl
 have up:∀ b u,s.heap.get? b=some u->h1.get? b=some u:=fun b u q=>k1 b u (Heap.get?_push_of_some _ q)
 refine aac ⟨plainId_quiet fu _,qB (knd:=knd) (A:=A.in1) ((Walks.list (by simp [hh]) _ l (aah (aaf hl2)) items).toS) s.heap.objs.size ?_ kv hn (items.size - 0) 0 _ rfl (aaq _) ?_ ?_ ?_ ?_⟩
 ·simp only [List.mem_cons,List.not_mem_nil,or_false,not_or]
  exact ⟨aah hsz,Nat.ne_of_gt hlt⟩
 ·exact ⟨⟨_,Heap.get?_push_size _ rfl,rfl,rfl⟩,⟨ol,Heap.get?_push_of_some _ hl2,hc,nl,hdat⟩⟩
 ·intro i v hv
  obtain ⟨t,o,key,m,e1,e2,e3,e4,e5⟩:=hT i v hv
  refine ⟨t,o,key,m,e1,Heap.get?_push_of_some _ (up t o e2),e3,e4,e5,?_⟩
  simp only [List.mem_cons,List.not_mem_nil,or_false,not_or]
  have:=aaf e2
  exact ⟨aah this,aah (Nat.lt_trans this hsz)⟩
 ·exact hd1.push _
 ·intro s' hm hd'
  obtain ⟨h',g',d',tk',os'⟩:=s'
  have eg:g'=s.gens:=hm.gens
  have ed:d'=s.drawn:=hm.drawn
  have eo:os'=s.os:=hm.os
  subst eg ed eo
  refine ⟨rfl,h h' tk' hd' fun b o q=>?_⟩
  have hb:=aaf q
  refine hm.heap b o ?_ (Heap.get?_push_of_some _ (up b o q))
  simp only [List.mem_cons,List.not_mem_nil,or_false,not_or]
  exact ⟨aah hb,aah (Nat.lt_trans hb hsz)⟩
end
theorem nK [DecidableEq K]{L:List (K×Value)}{df:K×Value}(hn:(L.map (·.1)).Nodup):∀ i,i<=L.length->uW (fun i=>L.getD i df) i=L.take i:=by
 intro i
 induction i with
 | zero=>intro _; rfl
 | succ i ih =>
  intro hi
  rw [gm,ih (by nofun)]
  have he:L[i]?=some (L.getD i df):=by rw [List.getD_eq_getElem?_getD,List.getElem?_eq_getElem (by nofun)]; rfl
  have hne:(L.take i).any (fun kv=>decide (kv.1=(L.getD i df).1))=false:=by
   rw [List.any_eq_false]
   intro p hp
   rw [decide_eq_true_eq]
   intro z
   obtain ⟨j,hj⟩:=List.mem_iff_getElem?.mp hp
   have hj2:j < i:=by have:=(List.getElem?_eq_some_iff.mp hj).1; rw [aao] at this; nofun
   rw [List.getElem?_take_of_lt hj2] at hj
   have e1:(L.map (·.1))[j]?=some p.1:=by rw [List.getElem?_map,hj]; rfl
   have e2:(L.map (·.1))[i]?=some p.1:=by rw [List.getElem?_map,he,z]; rfl
   have:=(List.getElem?_inj (by rw [List.length_map]; nofun) hn).mp (e1.trans e2.symm)
   nofun
  unfold stored
  rw [hne,if_neg (by decide),List.take_add_one,he]; rfl
def qC (K:Frag):List V->Hp->VK->Prop:=fun xs H Q=>∃ (l:Addr) (rows:List (Addr×Str×V)),xs=[.ref l]/\SqL K H l (rows.map fun r=>.ref r.1)/\(∀ r ∈ rows,SqT K H r.1 [.str r.2.1,r.2.2])/\(rows.map (·.2.1)).Nodup /\
 ∀ p,H p=none->Q (.ref p) (upd H p (.dK (rows.map fun r=>(.inr r.2.1,r.2.2))))
theorem AY {pins:List (Addr×Obj)}(I:Inv X pins σ H s):∀ {rows:List (Addr×Str×V)},(∀ r ∈ rows,SqT X.K H r.1 [.str r.2.1,r.2.2]) ->
  ∃ L:List (Key×Value),KV (rows.map fun r=>((.inr r.2.1:Key),r.2.2)) L/\∀ (i:Nat) r,rows[i]?=some r->∃ o key val m,s.heap.get? r.1=some o/\o.cls=.type "tuple" /\ o.data=.seq #[key,val] m/\L[i]?=some (.inr r.2.1,val)/\(ai X.prog X.w).is (.inr r.2.1) key=true:=by
 intro rows
 induction rows with
 | nil=>exact fun _=>⟨[],.nil,fun i r h=>nomatch h⟩
 | cons r rows ih =>
  intro h
  obtain ⟨L,h1,h2⟩:=ih fun x hx=>h x (aad _ hx)
  obtain ⟨its,rv,⟨o,e1,e2,n,e3⟩,_⟩:=I.tuple (h r (aab ..))
  obtain ⟨key,val,rfl,k1,k2⟩:=sK rv
  refine ⟨(.inr r.2.1,val)::L,.cons ⟨rfl,k2⟩ h1,fun i x hx=>?_⟩
  cases i with
  | zero=>cases hx; exact ⟨o,key,val,n,e1,e2,e3,rfl,fK (k:=.inr r.2.1) k1⟩
  | succ i=>exact h2 i x hx
theorem nL (hc:X.calm=true):CallR X (.type "dict") (qC X.K):=by
 intro pins s σ H xs us Q I r h
 obtain ⟨l,rows,rfl,h1,h2,h3,q⟩:=h
 obtain ⟨u,rfl,rx⟩:=du r
 cases rx
 obtain ⟨its,rv,⟨ol,nl,e1,e2,e3,e4⟩,hz⟩:=I.list h1
 obtain ⟨L,k1,k2⟩:=AY I h2
 have hL:L.length=rows.length:=by have:=k1.length; rw [List.length_map] at this; exact this.symm
 have hi:its.length=rows.length:=by have:=rv.length; rw [List.length_map] at this; exact this.symm
 rw [List.length_map] at hz
 have hk:L.map (·.1)=rows.map fun r=>(.inr r.2.1:Key):=by
  apply List.ext_getElem?
  intro i
  rw [List.getElem?_map,List.getElem?_map]
  cases e:rows[i]? with
  | none =>
   have:L[i]?=none:=by rw [List.getElem?_eq_none_iff] at e ⊢; nofun
   rw [this]; rfl
  | some r =>
   obtain ⟨_,_,val,_,_,_,_,e5,_⟩:=k2 i r e
   rw [e5]; rfl
 have hn:(L.map (·.1)).Nodup:=by
  rw [hk]
  have:(rows.map fun r=>(.inr r.2.1:Key))=(rows.map (·.2.1)).map Sum.inr:=by rw [aat]; rfl
  rw [this]
  exact List.Pairwise.map _ (fun a b (z:a≠b) y=>z (abq y)) h3
 refine jN (knd:=ai X.prog X.w) e1 e2 e4 e3 (I.ok.hd hc) (fun i=>L.getD i (.inl 0,.none)) (fun i v hv=>?_) (by rw [List.size_toArray]; nofun) fun h' tk dd hk'=>?_
 ·have hv':its[i]?=some v:=by rw [← Array.getElem?_toList] at hv; exact hv
  have hlt:i < rows.length:=by have:=(List.getElem?_eq_some_iff.mp hv').1; nofun
  obtain ⟨o,key,val,m,g1,g2,g3,g4,g5⟩:=k2 i _ (List.getElem?_eq_getElem hlt)
  have hx:(rows.map fun r=>V.ref r.1)[i]?=some (.ref (rows[i]).1):=by rw [List.getElem?_map,List.getElem?_eq_getElem hlt]; rfl
  obtain ⟨u,hu,ru⟩:=rv.get hx
  rw [hv'] at hu
  cases hu
  refine ⟨_,o,key,m,ru,g1,g2,?_,?_⟩
  ·rw [List.getD_eq_getElem?_getD,g4]; exact g3
  ·rw [List.getD_eq_getElem?_getD,g4]; exact g5
 ·have hsz:its.toArray.size=L.length:=by rw [List.size_toArray]; nofun
  rw [hsz,nK hn L.length (aae _),List.take_length] at dd
  refine ⟨.ref s.heap.objs.size,_,I.laid (a:=s.heap.objs.size) (o:=.dK (rows.map fun r=>(.inr r.2.1,r.2.2))) (t':=tk) hk' (aae _) (gO (by rw [List.length_map]; exact hz) (beq_eq_false_iff_ne.mpr (abu (aah I.big))) k1 dd),rfl,q _ (I.hok.fresh (aae _))⟩
theorem uX (K:Frag)(hc:X.calm=true)(h:X.K=K):BCall X (.type "dict") (qC K):=by subst h; exact ⟨nL hc⟩
section
variable {K:Frag}
def kJ:List D->Option (List (Str×D))
 | []=>some []
 | .tup [.str z,d]::ds=>(match kJ ds with
  | some r=>some ((z,d)::r)
  | none=>none)
 | _=>none
def lQ:List D->(OV->Prop)->Prop
 | [.lst ds],P=>(match kJ ds with
  | some rs=>(rs.map (·.1)).Nodup/\P (.fd (rs.map fun r=>.inr r.1) (rs.map (·.2)))
  | none=>False)
 | _,_=>False
theorem qD (s:Same F H):∀ {ds:List D} {xs:List V} {rs:List (Str×D)},Dens K F xs ds->kJ ds=some rs->∃ rows:List (Addr×Str×V),xs=rows.map (fun r=>.ref r.1)/\(∀ r ∈ rows,SqT K H r.1 [.str r.2.1,r.2.2])/\rows.map (·.2.1)=rs.map (·.1)/\Dens K F (rows.map (·.2.2)) (rs.map (·.2)):=by
 intro ds
 induction ds with
 | nil=>intro xs rs h e; cases h; cases e; exact ⟨[],rfl,(fun _ z=>nomatch z),rfl,.nil⟩
 | cons d ds ih =>
  intro xs rs h e
  cases h with
  | @cons x _ xs _ h t =>
   unfold kJ at e
   split at e
   ·rename_i heq; cases heq
   ·rename_i z d' ds' heq
    cases heq
    split at e
    ·rename_i r er
     cases e
     obtain ⟨rows,rfl,h2,h3,h4⟩:=ih t er
     cases h with
     | @tup a ys _ ha hd =>
      cases hd with
      | cons q1 q2 =>
       cases q2 with
       | @cons v _ _ _ q2 q3 =>
        cases q3
        rw [q1.str_eq] at ha
        refine ⟨(a,z,v)::rows,rfl,fun r hr=>?_,by rw [List.map_cons,List.map_cons,h3],.cons q2 h4⟩
        rcases List.mem_cons.mp hr with y | y
        ·rw [y]; exact SqT.of (s _ _ ha)
        ·exact h2 r y
    ·cases e
   ·cases e
theorem uY:CallF K (qC K) lQ:=⟨by
 intro F H xs ds Q P s ha f n
 unfold lQ at f
 split at f
 ·rename_i ds'
  split at f
  ·rename_i rs er
   obtain ⟨x,rfl,hx⟩:=bT ha
   obtain ⟨a,ys,rfl,h1,h2⟩:=hx.asL s
   obtain ⟨rows,rfl,g2,g3,g4⟩:=qD s h2 er
   refine ⟨a,rows,rfl,h1,g2,by rw [g3]; exact f.1,fun q hq=>n _ (.ref q) F _ [q] f.2 (Pure.new s hq) (.fd ad ?_ ?_) (New.one hq (s.free hq))⟩
   ·rw [aat]
    have:(rows.map (·.2.1)).map (Sum.inr (α:=Int))=(rs.map (·.1)).map Sum.inr:=by rw [g3]
    rw [aat,aat] at this
    exact this
   ·rw [aat]; exact g4
  ·exact f.elim
 ·exact f.elim⟩
end
section
variable {K:Frag}     
def w9:FE:=fun ρ Q=>Q (.ov (.ft [] [])) ρ
theorem uZ:EF K μ oI w9:=⟨by
 intro F Z H τ σ ρ A Q P vw R h q p hp
 have hf:F p=none:=R.fh.free hp
 exact R.after (P:=fun o=>P (.ov o) ρ) (fun o v F3 H3 B p s3 R3 ow fr=>q _ _ _ _ _ _ _ p s3 R3 ow fr) _ _ F _ [p] h (Pure.new R.fh hp) (.ft ad rfl .nil) (New.one hp hf)⟩
def Fj (ks:List (List Key))(ds:List D)(k:List Key)(d:D):List (List Key)×List D :=
 if Ag ks k=true then (ks,(ks.zip ds).map fun kd=>if kd.1=k then d else kd.2) else (ks++[k],ds++[d])
theorem qE {ys:List (List Key×V)}{k:List Key}(hk:ys.map (·.1)=ks)(dn:Dens K F (ys.map (·.2)) ds)(dv:Den K F v d):(gu ys k v).map (·.1)=(Fj ks ds k d).1/\Dens K F ((gu ys k v).map (·.2)) (Fj ks ds k d).2:=by
 unfold Fj gu
 have hq:Ag ks k=(ys.any fun kv=>decide (kv.1=k)):=by rw [← hk,Ag,List.any_map]; rfl
 by_cases hm:Ag ks k=true
 ·have hany:(ys.any fun kv=>decide (kv.1=k))=true:=hq ▸ hm
  rw [if_pos hany,if_pos hm]
  constructor
  ·rw [aat,← hk]
   refine aa2 fun kv _=>?_
   show (if kv.1=k then (kv.1,v) else kv).1=kv.1
   split <;> rfl
  ·subst hk
   clear hm hany hq
   induction ys generalizing ds with
   | nil=>cases dn; exact .nil
   | cons y ys ih =>
    cases dn with
    | cons d1 d2 =>
     refine .cons ?_ (ih d2)
     show Den K F (if y.1=k then (y.1,v) else y).2 (if y.1=k then d else _)
     split
     ·exact dv
     ·exact d1
 ·have hany:¬ (ys.any fun kv=>decide (kv.1=k))=true:=hq ▸ hm
  rw [if_neg hany,if_neg hm]
  refine ⟨by rw [aag,hk]; rfl,?_⟩
  rw [aag]
  exact dn.snoc dv
def unT (ρ:FSt)(i:Nat):Option (List (List Key)×List D):=match ρ[i]? with
 | some (some (.ft ks ds))=>some (ks,ds)
 | _=>none
theorem Rel.mutT (R:Rel K F Z H σ ρ A)(h:unT ρ i=some (ks,ds)):∃ a ys,σ[i]?=some (some (.ref a))/\H a=some (.dT ys)/\ys.map (·.1)=ks/\Dens K F (ys.map (·.2)) ds /\
  ∀ ys' ks' ds',ys'.map (·.1)=ks'->Dens K F (ys'.map (·.2)) ds'->∃ A',Rel K F Z (upd H a (.dT ys')) σ (ρ.set i (some (.ft ks' ds'))) A':=by
 have e:ρ[i]?=some (some (.ft ks ds)):=by
  unfold unT at h
  split at h
  ·rename_i e; cases h; exact e
  ·cases h
 obtain ⟨v,B,h1,h2,nd,mA,mk⟩:=R.chg e
 cases h2 with
 | @ft a ys _ _ hH hk dn =>
  refine ⟨a,ys,h1,hH,hk,dn,fun ys' ks' ds' hk' dn'=>mk _ _ [a] (fun y u hy q=>by rw [ae (show y≠a from fun z=>hy (z ▸ aab ..))]; exact q) (.ft ad hk' dn') nd fun y hy=>.inl hy⟩
def xa (i:Nat)(fe fk:FE):FS:=fun E ρ=>fe ρ fun r ρ1=>match fzR r ρ1 with
 | some (d,ρ2)=>(unT ρ2 i).isSome=true/\fk ρ2 fun s ρ3=>on1 ρ3 s fun dk=>(match dk with
  | .tup kd=>(match gG kd,unT ρ3 i with
   | some k,some (ks,ds)=>ks.length < sizeLine/\E.nx (ρ3.set i (some (.ft (Fj ks ds k d).1 (Fj ks ds k d).2)))
   | _,_=>False)
  | _=>False)
 | none=>False
theorem va (he:EF K (List.range n) tv fe)(hk:EF K (List.range n) ty fk):SF K n m (sV (cO i) ty tv) (xa i fe fk):=⟨by
 intro F Z H σ0 σ ρ A D fD R p E h
 refine he.h (View.id p.1) R h fun r ρ1 v F1 H1 A1 B1 p1 s1 R1 v1 f1=>?_
 split at p1
 ·rename_i d ρ2 e2
  obtain ⟨F2,A2,s2,R2,dy,_,_⟩:=R1.frz v1 f1 e2
  obtain ⟨h0,p1⟩:=p1
  obtain ⟨⟨ks0,ds0⟩,e0⟩:=Option.isSome_iff_exists.mp h0
  obtain ⟨a,xs,h1,h2,h3,_⟩:=R2.mutT e0
  refine ⟨.ref a,h1,?_⟩
  refine hk.h (View.id p.1) R2 p1 fun s ρ3 w F3 H3 A3 B3 p3 s3 R3 v3 f3=>?_
  obtain ⟨dk,ek,p4⟩:=bN p3
  split at p4
  ·rename_i kd
   split at p4
   ·rename_i k ks ds e4 e3
    obtain ⟨a',ys,h1',h2',hk',h3',mt⟩:=R3.mutT e3
    rw [h1] at h1'
    cases h1'
    obtain ⟨b,rfl,hb⟩:=iC R3.fh (R3.acc v3 ek) e4
    obtain ⟨q1,q2⟩:=qE (k:=k) hk' h3' (dy.mono s3)
    obtain ⟨A4,R4⟩:=mt (gu ys k v) _ _ q1 q2
    have hl:ys.length=ks.length:=by rw [← hk',List.length_map]
    exact ⟨a,_,rfl,.inr ⟨ys,k,b,h2',rfl,hb,by rw [hl]; exact p4.1,rfl⟩,E.nx _ _ _ _ _ ((s1.trans s2).trans s3) R4 p p4.2⟩
   ·exact p4.elim
  ·exact p4.elim
 ·exact p1.elim⟩
def Fk (fo fk:FE):FE:=fun ρ Q=>fo ρ fun r ρ1=>on1 ρ1 r fun d0=>(match d0 with
 | .dct _ _=>fk ρ1 fun s ρ2=>on2 ρ2 r s fun d e=>(match d,kg e with
  | .dct ks ds,some k=>Q (.ov (.fz ((dF ks ds k).getD .non))) ρ2
  | _,_=>False)
 | _=>False)
theorem qF {ys:List (Key×V)}{ks:List Key}{k:Key}{z:V}{dz:D}(hk:ys.map (·.1)=ks)(h:Dens K F (ys.map (·.2)) ds)(hz:Den K F z dz):Den K F ((eM ys k).getD z) ((dF ks ds k).getD dz):=by
 cases e:dF ks ds k with
 | some d =>
  obtain ⟨v,h1,h2⟩:=iD hk h e
  rw [h1]; exact h2
 | none =>
  have:eM ys k=none:=by
   have h1:=lB (k:=k) hk
   cases q:eM ys k with
   | none=>rfl
   | some v =>
    rw [q] at h1
    have hm:nv ks k=true:=h1.symm
    unfold nv at hm
    rw [abx] at hm
    obtain ⟨x,hx,hxk⟩:=hm
    rw [decide_eq_true_eq] at hxk
    subst hxk
    unfold dF at e
    rw [Option.map_eq_none_iff,List.find?_eq_none] at e
    have hl:ks.length=ds.length:=by rw [← hk,List.length_map]; simpa using h.length
    obtain ⟨i,hi⟩:=List.mem_iff_getElem?.mp hx
    have hi2:i < ds.length:=by have:=(List.getElem?_eq_some_iff.mp hi).1; nofun
    have:=e (x,ds[i]) (List.mem_iff_getElem?.mpr ⟨i,by rw [List.getElem?_zip_eq_some]; exact ⟨hi,List.getElem?_eq_getElem hi2⟩⟩)
    simp at this
  rw [this]; exact hz
theorem AZ (ho:EF K μ td fo)(hk:EF K μ ty fk):EF K μ (oK td ty) (Fk fo fk):=⟨by
 intro F Z H τ σ ρ A Q P vw R h q
 refine ho.h vw R h fun r1 ρ1 x F1 H1 A1 B1 h1 s1 R1 v1 f1=>?_
 obtain ⟨d0,e0,h1⟩:=bN h1
 split at h1
 ·obtain ⟨a,ys0,rfl,g1,_⟩:=(R1.acc v1 e0).asD R1.fh
  refine ⟨a,rfl,.inl ⟨_,g1⟩,?_⟩
  obtain ⟨Z',sz,R1',zl,back⟩:=R1.hold v1.live f1
  refine hk.h vw R1' h1 fun r2 ρ2 y F2 H2 A2 B2 h2 s2 R2 v2 f2=>?_
  obtain ⟨R2',f1',k1⟩:=back _ _ _ _ s2 R2
  obtain ⟨d,e,e1,e2,h3⟩:=lp h2
  split at h3
  ·rename_i ks ds k ek
   obtain ⟨a',ys,ea,g2,g3,g4⟩:=(R2'.acc (v1.keep s2 k1) e1).asD R2'.fh
   cases ea
   refine ⟨eM ys k,by rw [cX (R2'.acc v2 e2) ek]; exact DGet.kR g2,q _ _ _ _ _ _ _ h3 (s1.trans s2) R2' (.fz (qF g3 g4 .non)) Fresh.nil⟩
  ·exact h3.elim
 ·exact h1.elim⟩
def Fl (fo fk fx:FE):FE:=fun ρ Q=>fo ρ fun r ρ1=>on1 ρ1 r fun d0=>(match d0 with
 | .dct _ _=>fk ρ1 fun s ρ2=>on1 ρ2 s fun e=>(match kg e with
  | some k=>fx ρ2 fun t ρ3=>(match fzR t ρ3 with
   | some (dz,ρ4)=>on1 ρ4 r fun d=>(match d with
    | .dct ks ds=>Q (.ov (.fz ((dF ks ds k).getD dz))) ρ4
    | _=>False)
   | none=>False)
  | none=>False)
 | _=>False)
theorem A6 {tx:TE}{fx:FE}(ho:EF K μ td fo)(hk:EF K μ ty fk)(hx:EF K μ tx fx):EF K μ (oM td ty tx) (Fl fo fk fx):=⟨by
 intro F Z H τ σ ρ A Q P vw R h q
 refine ho.h vw R h fun r1 ρ1 x F1 H1 A1 B1 h1 s1 R1 v1 f1=>?_
 obtain ⟨d0,e0,h1⟩:=bN h1
 split at h1
 ·obtain ⟨a,ys0,rfl,g1,_⟩:=(R1.acc v1 e0).asD R1.fh
  refine ⟨a,rfl,.inl ⟨_,g1⟩,?_⟩
  obtain ⟨Z',sz,R1',zl,back⟩:=R1.hold v1.live f1
  refine hk.h vw R1' h1 fun r2 ρ2 y F2 H2 A2 B2 h2 s2 R2 v2 f2=>?_
  obtain ⟨e,e2,h3⟩:=bN h2
  split at h3
  ·rename_i k ek
   have ey:=cX (R2.acc v2 e2) ek
   refine hx.h vw R2 h3 fun r3 ρ3 z F3 H3 A3 B3 h4 s3 R3 v3 f3=>?_
   split at h4
   ·rename_i dz ρ4 ez
    obtain ⟨F4,A4,s4,R4,dnz,_,_⟩:=R3.frz v3 f3 ez
    obtain ⟨R4',f1',k1⟩:=back _ _ _ _ ((s2.trans s3).trans s4) R4
    obtain ⟨d,e1,h5⟩:=bN h4
    split at h5
    ·rename_i ks ds
     obtain ⟨a',ys,ea,g2,g3,g4⟩:=(R4'.acc (v1.keep ((s2.trans s3).trans s4) k1) e1).asD R4'.fh
     cases ea
     exact ⟨eM ys k,by rw [ey]; exact DGet.kR g2,q _ _ _ _ _ _ _ h5 (s1.trans ((s2.trans s3).trans s4)) R4' (.fz (qF g3 g4 dnz)) Fresh.nil⟩
    ·exact h5.elim
   ·exact h4.elim
  ·exact h3.elim
 ·exact h1.elim⟩
def xb (fk fv:FE):FE:=fun ρ Q=>fk ρ fun r ρ1=>on1 ρ1 r fun d=>(match kg d with
 | some k=>fv ρ1 fun s ρ2=>(match fzR s ρ2 with
  | some (d2,ρ3)=>Q (.ov (.fd [k] [d2])) ρ3
  | none=>False)
 | none=>False)
theorem vb {tk:TE}{fv:FE}(hk:EF K μ tk fk)(hv:EF K μ tv fv):EF K μ (yv [(tk,tv)]) (xb fk fv):=⟨by
 intro F Z H τ σ ρ A Q P vw R h q p hp
 have R0:=R.step (Pure.new (o:=.dK []) R.fh hp)
 have fp:Fresh F Z A [p]:=R.fresh (New.one hp (R.fh.free hp))
 obtain ⟨Z',sz,R1,zl,back⟩:=R0.hold (B:=[p]) (fun b hb=>⟨.dK [],by rw [List.mem_singleton.mp hb]; exact ad⟩) fp
 refine hk.h vw R1 h fun r1 ρ1 x F1 H1 A1 B1 h1 s1 R2 v1 f1=>?_
 obtain ⟨d,e1,h2⟩:=bN h1
 split at h2
 ·rename_i k ek
  have ey:=cX (R2.acc v1 e1) ek
  refine hv.h vw R2 h2 fun r2 ρ2 y F2 H2 A2 B2 h3 s2 R3 v2 f2=>?_
  split at h3
  ·rename_i d2 ρ3 ez
   obtain ⟨F3,A3,s3,R4,dn,_,_⟩:=R3.frz v2 f2 ez
   obtain ⟨R5,f5,k5⟩:=back _ _ _ _ ((s1.trans s2).trans s3) R4
   have fb:=f5.fr p (aab ..)
   have R6:=R5.write (o:=.dK [(k,y)]) fb.2.2 fb.1 fb.2.1
   exact ⟨k5 p _ (aab ..) ad,[(k,y)],by rw [ey]; rfl,(by decide:(1:Nat)<=15),q _ _ _ _ _ _ _ h3 ((s1.trans s2).trans s3) R6 (.fd ad rfl (.cons dn .nil)) f5⟩
  ·exact h3.elim
 ·exact h2.elim⟩
end
section
variable {K:Frag}        
theorem rg (h:i < n):(List.range n)[i]?=some i:=by simp [h]
theorem A7 (hC:ClsF K c C)(h:i < n)(hf:(cr c)[k]?=some f):EF K (List.range n) (yc K (cO i) f) (nI c i k):=E8 hC (rg h) hf
theorem vc (hC:ClsF K c C)(h:i < n)(hf:(cr c)[k]?=some f):EF K (List.range n) (yc K (cO i) f) (uM c i k):=AL hC (rg h) hf
theorem vd (hC:ClsF K c C)(h:i < n)(hm:(cr c).contains mn=false)(ha:AF K (List.range n) t fa):EF K (List.range n) (sN C mn (spM K cc) [] E0 (cO i) t) (uL mn c i cc fa):=AJ hC (rg h) hm ha
theorem ve (h:i < n):EF K (List.range n) (tCB (Cn K) (dl (cO i) kr)) (uN i):=AN (rg h)
theorem qG (h:i < n):EF K (List.range n) (tOp (wT K) (cO i) (tUn (rU fun i=>.int (-i)) (tC (.int 1)))) (lN i):=uO (rg h)
theorem vf (h:i < n)(he:EF K (List.range n) te fe):EF K (List.range n) (tBM K "list" dZ (tOp (wT K) (cO i) (tC (.int k))) (dl te kr)) (uQ i k fe):=AT (rg h) he
theorem vg (h:i < n):EF K (List.range n) (Cl K "list" k9 (tOp (wT K) (cO i) (tC (.int k)))) (uR i k):=AU (rg h)
end
structure DfM (K:Frag)(C:Addr)(x q:Str)(st:Stmt)(f:Addr)(fd:FuncData):Prop where
 me:Meth K C x f
 fn:Fun K x q st f fd
theorem dfm_mk {K:Frag}{f:Addr}{kV:Value}(a:PySem.W.findIn K (.ref C) x=some (some (.ref f)))(i:PySem.W.isFn K (.ref f)=true)
  (l:K.lookup f=some ⟨oc,od,.func (PySem.W.fnOf x q (b9 st) (bo st) (aj st) .none kV doc pm an cdv ct),osl⟩) (c:PySem.W.codeIn K cdv q=true) (k:PySem.W.keepIn K (.ref f)=true):DfM K C x q st f (PySem.W.fnOf x q (b9 st) (bo st) (aj st) .none kV doc pm an cdv ct):=⟨⟨a,i,k⟩,wH l c k⟩
theorem Fm {K:Frag}   (a:PySem.W.nsIn K mainGlobals (zr c)=some (some (.ref C))) (pg:PySem.W.plainGet K C Str.empty=true) (hd:PySem.W.hasDictIn K C=true) (po:PySem.W.plainOver K C=true) (sa:PySem.W.findIn K (.ref C) "__setattr__" = some (some (.builtin "object.__setattr__"))) (na:∀ f ∈ cr c,NoAttr K C f):ClsF K c C:=⟨a,⟨pg,hd,po,sa⟩,na⟩
abbrev Fn (Z:Zz)(C:Addr)(x:Str)(k:Nat)(ps:List Str)(c:Ct):Prop:=OwnM Z.P Z.w Z.K Z.mg Z.base C x k ps (spM Z.K c)
abbrev Fo (Z:Zz)(C:Addr)(x:Str)(k:Nat)(ps:List Str)(c:Ct):Prop:=OwnI Z.P Z.w Z.K Z.mg Z.base x C k ps (spM Z.K c)
section
variable {Z:Zz} {T:Prop} {y:Str}  {f:Addr}  {ps:List Str} {c:Ct}  {h:Heap}
theorem A8 (D:DfM Z.K C x q st f fd)(ok:FnOk Z.P Z.w Z.K Z.mg Z.base CX0 k f fd ps (spM Z.K c))
  (hb:∀ (kV doc pm:Value) (an:Option Addr) (cdv ct:Value) (us:List Value),us.length=ps.length->bindArgs (PySem.W.fnOf x q (b9 st) (bo st) (aj st) .none kV doc pm an cdv ct) ⟨us,[]⟩=pure (ps.zip us)):Fn Z C x k ps c:=⟨f,fd,ok,D.me,D.fn.binds hb⟩
theorem A9 (t:TopZ Z T) (D:DfM Z.K C "__init__" q st f fd) (a:PySem.W.nsIn Z.K mainGlobals y=some (some (.ref C))) (mk:PySem.W.makesIn Z.K C=true) (kc:PySem.W.keepIn Z.K (.ref C)=true) (ok:FnOk Z.P Z.w Z.K Z.mg Z.base CX0 k f fd ps (spM Z.K c))
  (hb:∀ (kV doc pm:Value) (an:Option Addr) (cdv ct:Value) (us:List Value),us.length=ps.length->bindArgs (PySem.W.fnOf "__init__" q (b9 st) (bo st) (aj st) .none kV doc pm an cdv ct) ⟨us,[]⟩=pure (ps.zip us)):Fo Z C y k ps c:=⟨f,fd,ok,⟨mk,D.me.at_,D.me.fn,kc⟩,aaM t.X t.G a,D.fn.binds hb⟩
end
def nM (i j:Int):Prop:=i.natAbs < 2 ^ 1000/\j.natAbs < 2 ^ 1000
theorem Ba:OpR X (binaryOp .Mult) (rI nM fun i j=>.int (i * j)):=opI fun i j _ _ _ _ _ hc q=>mul_int q (.of_le (intBits_le hc.1) (intBits_le hc.2) (by decide))
theorem vh:BOp X (binaryOp .Mult) (rI nM fun i j=>.int (i * j)):=⟨Ba⟩
def qH (i j:Int):Prop:=0<=j/\j<=8/\i.natAbs < 2 ^ 1000
theorem Bb:OpR X (binaryOp .Pow) (rI qH fun i j=>.int (i ^ j.toNat)):=opI fun i j _ _ _ _ _ hc q=>by
 refine pow_int hc.1 ?_ q
 have hb:Builtin.Int.intBits i<=1000:=intBits_le hc.2.2
 have h2:=hc.2.1
 have h1:(Builtin.Int.intBits i:Int) * j<=1000 * j:=Int.mul_le_mul_of_nonneg_right (by nofun) hc.1
 nofun
theorem vi:BOp X (binaryOp .Pow) (rI qH fun i j=>.int (i ^ j.toNat)):=⟨Bb⟩
section
variable {K:Frag}
theorem vj:OpF K (rI nM fun i j=>.int (i * j)) (aIC nM fun i j=>.int (i * j)):=g0 fun _ _ _=>.int _
theorem vk:OpF K (rI qH fun i j=>.int (i ^ j.toNat)) (aIC qH fun i j=>.int (i ^ j.toNat)):=g0 fun _ _ _=>.int _
end
end L2
local macro_rules | `(tactic| delta $c:ident) => `(tactic| (intro os P h; unfold $c at h; (repeat (obtain ⟨x, h⟩ := h)); all_goals (subst_vars; exact L2.lo_of rfl rfl)))
namespace KR
open PySem L2
variable{z word s n p b:Str}{P:OV->List OV->Prop}{k c i:Nat}{a:Addr}{form d kt e:D}{ks:List Key}{ds:List D}{α β:Type}{zs zs0 ps ls E ns:List Str}{w:World}{mg:Str->Option Value}{base:Heap}{Q:D->Prop}{b1 b2 m b0:Int}{A B:Prop}
def top (i:Nat):Stmt:=PySem.Challenge.pw_keptreading_k10_leaves.main.body.getD i (.Pass ⟨0,0,0,0⟩)
def Bc:Stmt->List Stmt
 | .ClassDef _ _ _ b _ _ _ _ _ _ _=>b
 | _=>[]
def mth (i j:Nat):Stmt:=(Bc (top i)).getD j (.Pass ⟨0,0,0,0⟩)
structure Txt (K:Frag)(mg:Str->Option Value):Prop where
 n_len:mg "len" = none
 n_max:mg "max" = none
 n_min:mg "min" = none
 n_isinstance:mg "isinstance" = none
 n_all:mg "all" = none
 n_any:mg "any" = none
 n_sorted:mg "sorted" = none
 n_range:mg "range" = none
 n_str:mg "str" = none
 n_bool:mg "bool" = none
 n_int:mg "int" = none
 n_list:mg "list" = none
 n_tuple:mg "tuple" = none
 n_dict:mg "dict" = none
 n_set:mg "set" = none
 n_ord:mg "ord" = none
 n_ValueError:mg "ValueError" = none
 g_LETTERS:Glo mg "LETTERS" (.str "abcdefghijklmnopqrstuvwxyz")
 g_MOST_LETTERS:Glo mg "MOST_LETTERS" (.int 8)
 g_MOST_SIGNS:Glo mg "MOST_SIGNS" (.int 40)
 g_MOST_PARTS:Glo mg "MOST_PARTS" (.int 8)
 g_BARRED_SIGN:Glo mg "BARRED_SIGN" (.int 37)
 g_WORDS_ALONE:Eb K mg "WORDS_ALONE" [.str "none", .str "any"]
 g_WORDS_WITH_ONE:Eb K mg "WORDS_WITH_ONE" [.str "again", .str "ahead", .str "not"]
 g_WORDS_WITH_SOME:Eb K mg "WORDS_WITH_SOME" [.str "row", .str "first"]
 g_WORDS_EVER_EMPTY:Eb K mg "WORDS_EVER_EMPTY" [.str "none", .str "again", .str "ahead", .str "not"]
abbrev IB (a b:Addr)(form name:D)(place:Int):OV:=.ob ⟨a,0,[.fz form,.fz name,.fz (.int place),.fz (.int place),.fz (.int 0),.fl b [],.fz (.bl false),.fz .non]⟩
@[irreducible] def ar:Ct:=fun os P=>∃ (a:Addr) (form name:D) (place:Int),os=[.ob ⟨a,0,[]⟩,.fz form,.fz name,.fz (.int place)]/\∀ b:Addr,P (.fz .non) [IB a b form name place,.fz form,.fz name,.fz (.int place)]
@[irreducible] def bd:Ct:=fun os P=>∃ (a:Addr) (p0 p1 p2 p3 p4 p5 p6 p7:FV) (d:D),os=[.ob ⟨a,0,[p0,p1,p2,p3,p4,p5,p6,p7]⟩,.fz d]/\P (.fz .non) [.ob ⟨a,0,[p0,p1,p2,p3,p4,p5,.fz (.bl true),.fz d]⟩,.fz d]
abbrev qI:Stmt:=mth 37 0
abbrev Bd:FS :=
  (aq (gH 0 0 0 (ab 1))
  (aq (gH 0 0 1 (ab 2))
  (aq (gH 0 0 2 (ab 3))
  (aq (gH 0 0 3 (ab 3))
  (aq (gH 0 0 4 (fC (.int 0)))
  (aq (wZ 0 0 5 (i4 ag))
  (aq (gH 0 0 6 (fC (.bl false)))
  (gH 0 0 7 (fC .non)))))))))
abbrev xc:Stmt:=mth 37 1
abbrev Fp:FS :=
  (aq (gH 0 0 6 (fC (.bl true)))
  (gH 0 0 7 (ab 1)))
theorem Be:Lh ar 4 [0]:=by delta ar
theorem Bf:Hh ar Bd [0] 4:=by
 intro os P h
 unfold ar at h
 obtain ⟨a,form,name,place,rfl,q⟩:=h
 ext
 refine ⟨aaq _,?_⟩
 ext
 intro b
 ext
 exact q b
theorem Fq:Lh bd 2 [0]:=by delta bd
theorem Fs:Hh bd Fp [0] 2:=by
 intro os P h
 unfold bd at h
 obtain ⟨a,p0,p1,p2,p3,p4,p5,p6,p7,d,rfl,q⟩:=h
 ext
 exact q
def xf (l:List Nat):Prop:=∀ c ∈ l,97<=c/\c<=122
def cJ (z:Str):Prop:=1<=z.cps.toList.length/\z.cps.toList.length<=8/\xf z.cps.toList
theorem iR {a b:List Nat}(ha:xf a)(hb:xf b):xf (a++b):=fun c h=>(List.mem_append.mp h).elim (ha c) (hb c)
abbrev abc:Str := "abcdefghijklmnopqrstuvwxyz"
theorem Bg:xf abc.cps.toList:=by
 have h:(abc.cps.toList.all fun c=>decide (97<=c/\c<=122))=true:=by decide +kernel
 intro c hc
 exact of_decide_eq_true (List.all_eq_true.mp h c hc)
theorem kK:abc.cps.toList.length=26:=by decide +kernel
theorem iS (z:Str)(lo hi:Option Int):(iE z lo hi).cps.toList=gv z.cps.toList lo hi:=by simp [iE]
theorem c7:sizeLine=16777216:=sizeLine_eq
def ck (z:Str):Prop:=1<=z.cps.toList.length/\z.cps.toList.length<=40/\z.cps.toList.Pairwise (· < ·)/\∀ c ∈ z.cps.toList,32<=c/\c<=126/\c≠37
abbrev nN:Str := " !\"#$&'()*+,-./0123456789:;<=>?\x40ABCDEFGHIJKLMNOPQRSTUVWXYZ[\\]^_`abcdefghijklmnopqrstuvwxyz{|}~"
theorem qJ:nN.cps.toList.length=94:=by decide +kernel
theorem lR:∀ c ∈ nN.cps.toList,32<=c/\c<=126/\c≠37:=by
 have h:(nN.cps.toList.all fun c=>decide (32<=c/\c<=126/\c≠37))=true:=by decide +kernel
 intro c hc
 exact of_decide_eq_true (List.all_eq_true.mp h c hc)
theorem vm (h:z.cps.toList.length=1):∃ c,z=⟨#[c]⟩:=by
 obtain ⟨c,hc⟩:=List.length_eq_one_iff.mp h
 exact ⟨c,fO (by rw [hc])⟩
theorem lS:∀ {ss:List Str},(∀ z ∈ ss,z.cps.toList.length=1)->∃ cs:List Nat,ss=cs.map fun c=>(⟨#[c]⟩:Str)
 | [],_=>⟨[],rfl⟩
 | s::ss,h=>by
  obtain ⟨c,rfl⟩:=vm (h s (aab ..))
  obtain ⟨cs,rfl⟩:=lS (ss:=ss) fun z hz=>h z (aad _ hz)
  exact ⟨c::cs,rfl⟩
theorem ia:∀ cs:List Nat,((cs.map fun c=>(⟨#[c]⟩:Str)).map fun z=>z.cps.toList).flatten=cs
 | []=>rfl
 | c::cs=>by simp only [List.map_cons,List.flatten_cons,ia cs]; rfl
theorem nO {cs:List Nat}(h:(cs.map fun c=>(⟨#[c]⟩:Str)).Pairwise fun a b=>cf a b=true)(hn:(cs.map fun c=>(⟨#[c]⟩:Str)).Nodup):cs.Pairwise (· < ·):=by
 rw [List.Nodup] at hn
 have h2:=h.and hn
 rw [List.pairwise_map] at h2
 refine h2.imp fun {a b} hab=>?_
 have h3:¬ ([b] < [a]):=cY.mp hab.1
 have h4:¬ (b < a):=fun z=>h3 (List.Lex.rel z)
 have h5:a≠b:=fun z=>hab.2 (by rw [z])
 nofun
def Ft (zs:List Str)(word:Str)(af:List Str):Prop :=
 ((word = "none" ∨ word = "any")/\af=[])∨(word = "signs" /\ ∃ z,af=[z]/\ck z) ∨
 ((word = "again" ∨ word = "ahead" ∨ word = "not")/\af.length=1/\∀ z ∈ af,z ∈ zs)∨((word = "row" ∨ word = "first")/\1<=af.length/\af.length<=8/\∀ z ∈ af,z ∈ zs)
abbrev aG (word:Str)(af:List Str):D:=.tup (.str word::af.map .str)
abbrev Rw:=Str×Str×List Str
variable{r:Rw}{rows:List Rw}
abbrev dg (r:Rw):D:=.tup [.str r.1,aG r.2.1 r.2.2]
def Fu (zs:List Str)(word:Str)(af:List Str):Prop:=(∀ z ∈ zs,cJ z)/\Ft zs word af
def gI (word:Str)(af:List Str):Prop:=∃ zs:List Str,Fu zs word af
structure BookL (rows:List Rw):Prop where
 nd:(rows.map (·.1)).Nodup
 ok:∀ r ∈ rows,cJ r.1/\gI r.2.1 r.2.2
 few:rows.length<=30
 pool:∃ zs:List Str,zs.length<=45/\∀ r ∈ rows,Fu zs r.2.1 r.2.2
def b5 (word:Str)(af:List Str):List Str:=if word = "signs" then [] else af
@[irreducible] def aS:Ct:=fun os P=>∃ (word:Str) (af:List Str),os=[.fz (aG word af)]/\P (.fl ((b5 word af).map .str)) os
abbrev qK:Stmt:=top 22
abbrev Bh:FS :=
  (aq (fIf (aP (fOp aEq (fOp aIx (ab 0) (fC (.int 0))) (fC (.str "signs"))))
   (bx (i4 ag))
   aZ)
  (bx (fCB Ah (aa (fSl aSl (ab 0) (ni (fC (.int 1))) eu) ag))))
theorem Bi:Lh aS 1 []:=by delta aS
theorem Bj:Hh aS Bh [] 1:=by
 intro os P h
 unfold aS at h
 obtain ⟨word,af,rfl,q⟩:=h
 unfold b5 at q
 have nw:lD (D.str word::af.map D.str).length (some 1) none:=fun z=>by
  have e1:HT.sIx (D.str word::af.map D.str).length 0 (some (1:Int))=1:=by
   rw [show (1:Int)=((1:Nat):Int) from rfl,HT.sIx_nat,List.length_cons]; nofun
  rw [e1] at z; nofun
 have hcut:gv (D.str word::af.map D.str) (some 1) none=af.map D.str:=jr _ 1
 ext
 refine aU ?_
 ext
 refine cI ?_
 ext
 refine ⟨aH,?_⟩
 ext
 refine az (word = "signs") bA (fun hw=>?_) (fun hw=>?_)
 ·ext
  refine ⟨aaq _,?_⟩
  ext
  rw [if_pos hw] at q
  exact q
 ·ext
  refine ⟨nw,?_⟩
  rw [if_neg hw] at q
  rw [hcut]
  ext
  exact q
theorem cm {af:List Str}(h:P (.fl ((b5 word af).map .str)) [.fz (aG word af)]):aS [.fz (aG word af)] P:=by
 unfold aS
 exact ⟨word,af,rfl,h⟩
inductive Leaf where
 | lack | none | any | signs (s:Str)
variable{l:Leaf}
def c8:Leaf->D
 | .lack=>.non
 | .none=>aG "none" []
 | .any=>aG "any" []
 | .signs s=>aG "signs" [s]
def lT:Option Int->D
 | none=>.non
 | some i=>.int i
def fw (l:Leaf)(z:Str)(k:Nat):Option Int:=match l with
 | .lack=>none
 | .none=>some 0
 | .any=>if k < z.length then some 1 else none
 | .signs s=>match z.cps.toList[k]? with
  | some c=>if c ∈ s.cps.toList then some 1 else none
  | none=>none
theorem lU (h:z.cps.toList[k]?=none):fw (.signs s) z k=none:=by unfold fw; simp only [h]
theorem kL (h:z.cps.toList[k]?=some c):fw (.signs s) z k=if c ∈ s.cps.toList then some 1 else none:=by unfold fw; simp only [h]
@[irreducible] def aL:Ct:=fun os P=>∃ (l:Leaf) (z:Str) (k:Nat),os=[.fz (c8 l),.fz (.str z),.fz (.int k)]/\k<=z.length/\z.length<=sizeLine/\P (.fz (lT (fw l z k))) os
abbrev lV:Stmt:=top 38
abbrev vn:FS :=
  (aq (fIf (aP (fOp G2 (ab 0) (fC .non)))
   (bx (fC .non))
   aZ)
  (aq (fIf (aP (fOp aEq (fOp aIx (ab 0) (fC (.int 0))) (fC (.str "none"))))
   (bx (fC (.int 0)))
   aZ)
  (aq (fIf (aP (fOp aEq (ab 2) (fCB eT (aa (ab 1) ag))))
   (bx (fC .non))
   aZ)
  (bx (Jh (fOr (aP (fOp aEq (fOp aIx (ab 0) (fC (.int 0))) (fC (.str "any")))) (aP (fOp aIn (fOp aIx (ab 1) (ab 2)) (fOp aIx (ab 0) (fC (.int 1)))))) (fC (.int 1)) (fC .non))))))
theorem vo:Lh aL 3 []:=by delta aL
theorem vp:Hh aL vn [] 3:=by
 intro os P h
 unfold aL at h
 obtain ⟨l,z,k,rfl,hk,hz,q⟩:=h
 have sz:=c7
 cases l with
 | lack =>
  ext
  refine aU ?_
  ext
  refine dE ?_
  ext
  exact q
 | none =>
  ext
  refine aU ?_
  ext
  refine de ?_
  ext
  refine aU ?_
  ext
  refine ⟨aH,?_⟩
  ext
  refine az _ bA (fun _=>?_) (fun hw=>absurd rfl hw)
  ext
  exact q
 | any =>
  ext
  refine aU ?_
  ext
  refine de ?_
  ext
  refine aU ?_
  ext
  refine ⟨aH,?_⟩
  ext
  refine az _ bA (fun hw=>absurd hw (by decide +kernel)) (fun _=>?_)
  ext
  refine aU ?_
  ext
  refine ⟨hz,?_⟩
  ext
  refine ⟨a7,?_⟩
  ext
  refine az _ cb (fun he=>?_) (fun he=>?_)
  ·ext
   have hke:¬ k < z.length:=by nofun
   have:fw .any z k=none:=if_neg hke
   rw [this] at q
   exact q
  ·ext
   have hkl:k < z.length:=by nofun
   refine ⟨aH,?_⟩
   ext
   refine az _ bA (fun _=>?_) (fun hw=>absurd rfl hw)
   ext
   refine dE ?_
   ext
   have:fw .any z k=some 1:=if_pos hkl
   rw [this] at q
   exact q
 | signs s =>
  ext
  refine aU ?_
  ext
  refine de ?_
  ext
  refine aU ?_
  ext
  refine ⟨aH,?_⟩
  ext
  refine az _ bA (fun hw=>absurd hw (by decide +kernel)) (fun _=>?_)
  ext
  refine aU ?_
  ext
  refine ⟨hz,?_⟩
  ext
  refine ⟨a7,?_⟩
  ext
  refine az _ cb (fun he=>?_) (fun he=>?_)
  ·ext
   have hke:¬ k < z.length:=by nofun
   have:fw (.signs s) z k=none:=lU (List.getElem?_eq_none_iff.mpr (by rw [← fq]; nofun))
   rw [this] at q
   exact q
  ·ext
   have hkl:k < z.length:=by nofun
   refine ⟨aH,?_⟩
   ext
   refine az _ bA (fun hw=>absurd hw (by decide +kernel)) (fun _=>?_)
   ext
   have hc:z.cps.toList[k]?=some (z.cps.toList[k]'(by rw [← fq]; exact hkl)):=List.getElem?_eq_getElem _
   generalize z.cps.toList[k]'(by rw [← fq]; exact hkl)=c at hc
   rw [kL hc] at q
   refine ⟨hz,?_⟩
   rw [iQ hc]
   ext
   refine az _ decide_eq_true_iff (fun hm=>?_) (fun hm=>?_)
   ·ext
    rw [if_pos hm] at q
    exact q
   ·ext
    rw [if_neg hm] at q
    exact q
theorem dP (hk:k<=z.length)(hz:z.length<=sizeLine)(h:P (.fz (lT (fw l z k))) [.fz (c8 l),.fz (.str z),.fz (.int k)]):aL [.fz (c8 l),.fz (.str z),.fz (.int k)] P:=by
 unfold aL
 exact ⟨l,z,k,rfl,hk,hz,h⟩
theorem lW {name:D}{place:Int}(h:∀ b:Addr,P (.fz .non) [IB a b form name place,.fz form,.fz name,.fz (.int place)]):ar [.ob ⟨a,0,[]⟩,.fz form,.fz name,.fz (.int place)] P:=by
 unfold ar
 exact ⟨a,form,name,place,rfl,h⟩
theorem iT {p0 p1 p2 p3 p4 p5 p6 p7:FV}(h:P (.fz .non) [.ob ⟨a,0,[p0,p1,p2,p3,p4,p5,.fz (.bl true),.fz d]⟩,.fz d]):bd [.ob ⟨a,0,[p0,p1,p2,p3,p4,p5,p6,p7]⟩,.fz d] P:=by
 unfold bd
 exact ⟨a,p0,p1,p2,p3,p4,p5,p6,p7,d,rfl,h⟩
abbrev Cr (a b:Addr)(form name:D)(place:Int)(len:D):OV:=.ob ⟨a,0,[.fz form,.fz name,.fz (.int place),.fz (.int place),.fz (.int 0),.fl b [],.fz (.bl true),.fz len]⟩
@[irreducible] def cL:Ct:=fun os P=>∃ (ks:List Key) (ds:List D) (z n:Str) (k:Nat),os=[.fz (.dct ks ds),.fz (.str z),.fz (.str n),.fz (.int k)]/\k<=z.length/\z.length<=sizeLine /\
  ((∃ l,(dF ks ds (.inr n)).getD .non=c8 l/\∀ a b,P (Cr a b (c8 l) (.str n) k (lT (fw l z k))) os) ∨
   ∃ word af,(dF ks ds (.inr n)).getD .non=aG word af/\word ≠ "signs" /\ af≠[]/\af.length<=8/\∀ a b,P (IB a b (aG word af) (.str n) k) os)
abbrev qL:Stmt:=top 39
abbrev Bk:FS :=
  (aq (cu (Fk (ab 0) (ab 2)) (ac 4))
  (aq (cx 5 (E9 0 ar (aa (fFz (ab 4)) (aa (fFz (ab 2)) (aa (fFz (ab 3)) ag)))))
  (aq (fIf (fOr (aP (fOp G2 (ab 4) (fC .non))) (aP (fOp aEq (fCB eT (aa (al aS (aa (fFz (ab 4)) ag)) ag)) (fC (.int 0)))))
   (dB (uL "end" 0 5 bd (aa (fFz (al aL (aa (fFz (ab 4)) (aa (fFz (ab 1)) (aa (fFz (ab 3)) ag))))) ag)))
   aZ)
  (bx (ab 5)))))
theorem Bl:Lh cL 4 []:=by delta cL
theorem Bm:Hh cL Bk [] 6:=by
 intro os P h
 unfold cL at h
 obtain ⟨ks,ds,z,n,k,rfl,hk,hz,h⟩:=h
 ext
 rcases h with ⟨l,e,q⟩ | ⟨word,af,e,hw,hne,h8,q⟩
 ·rw [e]
  ext
  intro a
  refine lW fun b=>?_
  ext
  refine aU ?_
  cases l with
  | lack =>
   ext
   refine dE ?_
   ext
   refine dE ?_
   ext
   refine dP (l:=.lack) hk hz ?_
   ext
   refine iT ?_
   ext
   exact q a b
  | none =>
   ext
   refine de ?_
   ext
   refine cm ?_
   ext
   refine ⟨a7,?_⟩
   ext
   refine az _ cb (fun _=>?_) (fun h0=>absurd (by decide +kernel) h0)
   ext
   refine dP (l:=.none) hk hz ?_
   ext
   refine iT ?_
   ext
   exact q a b
  | any =>
   ext
   refine de ?_
   ext
   refine cm ?_
   ext
   refine ⟨a7,?_⟩
   ext
   refine az _ cb (fun _=>?_) (fun h0=>absurd (by decide +kernel) h0)
   ext
   refine dP (l:=.any) hk hz ?_
   ext
   refine iT ?_
   ext
   exact q a b
  | signs s =>
   ext
   refine de ?_
   ext
   refine cm ?_
   ext
   refine ⟨a7,?_⟩
   ext
   refine az _ cb (fun _=>?_) (fun h0=>absurd (by rw [show b5 "signs" [s]=[] from if_pos rfl]; rfl) h0)
   ext
   refine dP (l:=.signs s) hk hz ?_
   ext
   refine iT ?_
   ext
   exact q a b
 ·rw [e]
  ext
  intro a
  refine lW fun b=>?_
  ext
  refine aU ?_
  ext
  refine de ?_
  ext
  refine cm ?_
  ext
  refine ⟨a7,?_⟩
  ext
  have hp:b5 word af=af:=if_neg hw
  refine az _ cb (fun h0=>?_) (fun _=>?_)
  ·rw [hp,List.length_map] at h0
   exact absurd (List.length_eq_zero_iff.mp (by nofun)) hne
  ·ext
   exact q a b
theorem lX (hk:k<=z.length)(hz:z.length<=sizeLine)(e:(dF ks ds (.inr n)).getD .non=c8 l)
  (h:∀ a b,P (Cr a b (c8 l) (.str n) k (lT (fw l z k))) [.fz (.dct ks ds),.fz (.str z),.fz (.str n),.fz (.int k)]):cL [.fz (.dct ks ds),.fz (.str z),.fz (.str n),.fz (.int k)] P:=by
 unfold cL
 exact ⟨ks,ds,z,n,k,rfl,hk,hz,.inl ⟨l,e,h⟩⟩
abbrev nP (n:Str)(len:D):D:=.tup [len,.int 1,.dct [.inr n] [.bl true]]
@[irreducible] def c9:Ct:=fun os P=>∃ (a b:Addr) (form len:D) (n:Str) (k:Int) (ks:List (List Key)) (ds:List D),os=[Cr a b form (.str n) k len,.ft ks ds] /\
 P (.fz (nP n len)) [.ob ⟨a,0,[.fz form,.fz (.str n),.fz (.int k),.fz (.int k),.fz (.int 0),.fz (.lst []),.fz (.bl true),.fz len]⟩,.ft ks ds]
abbrev qM:Stmt:=top 40
abbrev Bn:FS :=
  (aq (cu (nI 0 0 2) (ac 2))
  (aq (cx 3 (xb (nI 0 0 1) (fC (.bl true))))
  (aq (pR (ca (uM 0 0 5)) (ac 4)
   (aq (cu (fOp aIx (ab 1) (ab 4)) (nk 3 (cw (ac 5) (cw (ac 6) (cw (ac 7) nj)))))
  (aq (cu (fCB Ie (aa (ab 2) (aa (fOp (aI0 fun i j=>.int (i - j)) (fOp gw (fOp aIx (ab 4) (fC (.int 1))) (ab 6)) (fC (.int 1))) ag))) (ac 2))
  cj)))
  (bx (ln (aa (nI 0 0 7) (aa (fOp gw (fOp (aI0 fun i j=>.int (i - j)) (ab 2) (nI 0 0 2)) (fC (.int 1))) (aa (ab 3) ag))))))))
theorem Bo:Lh c9 2 [0,1]:=by delta c9
theorem Bp:Hh c9 Bn [0,1] 8:=by
 intro os P h
 unfold c9 at h
 obtain ⟨a,b,form,len,n,k,ks,ds,rfl,q⟩:=h
 have e1:k - k+1=1:=by nofun
 ext
 refine b6 (fun _ ρ=>ρ=_) rfl (fun i d ρ R hd=>nomatch hd) ?_
 rintro ρ rfl
 ext
 rw [e1]
 refine ⟨(by rw [sizeLine_eq]; exact (by decide:(3:Nat)<=16777216)),?_⟩
 ext
 exact q
theorem vq {b:Addr}{len:D}{k:Int}{ks:List (List Key)}
  (h:P (.fz (nP n len)) [.ob ⟨a,0,[.fz form,.fz (.str n),.fz (.int k),.fz (.int k),.fz (.int 0),.fz (.lst []),.fz (.bl true),.fz len]⟩,.ft ks ds]):c9 [Cr a b form (.str n) k len,.ft ks ds] P:=by
 unfold c9
 exact ⟨a,b,form,len,n,k,ks,ds,rfl,h⟩
@[irreducible] def eV:Ct:=fun os P=>∃ (ks:List Key) (ds:List D) (z n:Str) (k:Nat) (l:Leaf),os=[.fz (.dct ks ds),.fz (.str z),.ft [] [],.fz (.str n),.fz (.int k)]/\k<=z.length/\z.length<=sizeLine/\(dF ks ds (.inr n)).getD .non=c8 l /\
 P (.fl [.tup [.str n,.int k]]) [.fz (.dct ks ds),.fz (.str z),.ft [[.inr n,.inl k]] [nP n (lT (fw l z k))],.fz (.str n),.fz (.int k)]
abbrev xg:Stmt:=top 41
abbrev Fv:FS :=
  (aq (cx 5 (i4 ag))
  (aq (fIf (aP (fOp aIn (ln (aa (ab 3) (aa (ab 4) ag))) (ab 2)))
   (bx (ab 5))
   aZ)
  (aq (cx 6 (Fa (al cL (aa (fFz (ab 0)) (aa (fFz (ab 1)) (aa (fFz (ab 3)) (aa (fFz (ab 4)) ag)))))))
  (aq (gZ (aP (fOp (g6 (fun i j=>decide (j < i)) fun i j=>aV j i) (uN 6) (fC (.int 0))))
   (Fb 6 7 (aq (w8 6 7 (cx 7 (lN 6)))
  (aq (fIf (Ee (nI 0 7 6))
   (aq (xa 2 (al c9 (aa (ab 7) (aa (ab 2) ag))) (ln (aa (nI 0 7 1) (aa (nI 0 7 2) ag))))
  (aq (dB (Cp 5 (ln (aa (nI 0 7 1) (aa (nI 0 7 2) ag)))))
  (aq (dB (AO 6))
  Eu)))
   aZ)
  (aq cj
  cj)))))
  (bx (ab 5))))))
theorem Fx:Lh eV 5 [2]:=by delta eV
theorem Fy:Hh eV Fv [2] 9:=by
 intro os P h
 unfold eV at h
 obtain ⟨ks,ds,z,n,k,l,rfl,hk,hz,e,q⟩:=h
 have s2:2<=sizeLine:=by rw [sizeLine_eq]; decide
 ext
 refine ⟨aaq _,?_⟩
 ext
 refine aU ?_
 ext
 refine ⟨s2,?_⟩
 ext
 refine de ?_
 ext
 refine lX (l:=l) hk hz e fun a b=>?_
 ext
 refine ⟨2,cG ?_⟩
 ext
 refine az _ decide_eq_true_iff (fun _=>?_) (fun h=>absurd (show (0:Int) < ((1:Nat):Int) by decide) h)
 ext
 refine aU ?_
 ext
 refine dE ?_
 ext
 refine vq ?_
 ext
 refine ⟨rfl,?_⟩
 ext
 refine ⟨s2,?_⟩
 ext
 refine ⟨by rw [sizeLine_eq]; exact (by decide:(0:Nat) < 16777216),?_⟩
 ext
 refine ⟨rfl,?_⟩
 ext
 refine ⟨s2,?_⟩
 ext
 refine ⟨by rw [sizeLine_eq]; exact (by decide:(0:Nat) < 16777216),?_⟩
 ext
 refine cG ?_
 ext
 refine az _ decide_eq_true_iff (fun h=>absurd h (show ¬ (0:Int) < ((0:Nat):Int) by decide)) (fun _=>?_)
 ext
 exact q
theorem Bq (hk:k<=z.length)(hz:z.length<=sizeLine)(e:(dF ks ds (.inr n)).getD .non=c8 l)
  (h:P (.fl [.tup [.str n,.int k]]) [.fz (.dct ks ds),.fz (.str z),.ft [[.inr n,.inl k]] [nP n (lT (fw l z k))],.fz (.str n),.fz (.int k)]):eV [.fz (.dct ks ds),.fz (.str z),.ft [] [],.fz (.str n),.fz (.int k)] P:=by
 unfold eV
 exact ⟨ks,ds,z,n,k,l,rfl,hk,hz,e,h⟩
@[irreducible] def bf:Ct:=fun os P=>∃ (ks:List Key) (ds:List D) (z n:Str) (k:Nat) (l:Leaf) (kt:D),os=[.fz (.dct ks ds),.fz (.str z),.fz kt,.fz (.str n),.fz (.int k)]/\k<=z.length/\z.length<=sizeLine/\(dF ks ds (.inr n)).getD .non=c8 l /\
 ∀ a b,P (Cr a b (c8 l) (.str n) k (lT (fw l z k))) os
abbrev xh:Stmt:=top 42
abbrev Fz:FS :=
  (aq (cx 5 (al cL (aa (fFz (ab 0)) (aa (fFz (ab 1)) (aa (fFz (ab 3)) (aa (fFz (ab 4)) ag))))))
  (aq (gZ (jw (Ee (nI 0 5 6)))
   cj)
  (bx (ab 5))))
theorem FB:Lh bf 5 []:=by delta bf
theorem FC:Hh bf Fz [] 6:=by
 intro os P h
 unfold bf at h
 obtain ⟨ks,ds,z,n,k,l,kt,rfl,hk,hz,e,q⟩:=h
 ext
 refine lX (l:=l) hk hz e fun a b=>?_
 ext
 refine ⟨1,cG ?_⟩
 ext
 refine de ?_
 ext
 exact q a b
theorem Br (hk:k<=z.length)(hz:z.length<=sizeLine)(e:(dF ks ds (.inr n)).getD .non=c8 l)
  (h:∀ a b,P (Cr a b (c8 l) (.str n) k (lT (fw l z k))) [.fz (.dct ks ds),.fz (.str z),.fz kt,.fz (.str n),.fz (.int k)]):bf [.fz (.dct ks ds),.fz (.str z),.fz kt,.fz (.str n),.fz (.int k)] P:=by
 unfold bf
 exact ⟨ks,ds,z,n,k,l,kt,rfl,hk,hz,e,h⟩
@[irreducible] def bC:Ct:=fun os P=>∃ (ks:List Key) (ds:List D) (z n:Str) (k:Nat) (l:Leaf) (kt:D),os=[.fz (.dct ks ds),.fz (.str z),.fz kt,.fz (.str n),.fz (.int k)]/\k<=z.length/\z.length<=sizeLine/\(dF ks ds (.inr n)).getD .non=c8 l/\P (.fl []) os
abbrev jO:Stmt:=top 43
abbrev qO:FS :=
  (aq (cx 5 pG)
  (aq (pR (ca (Fd 0 5 (al bf (aa (fFz (ab 0)) (aa (fFz (ab 1)) (aa (fFz (ab 2)) (aa (fFz (ab 3)) (aa (fFz (ab 4)) ag)))))))) (ac 6)
   (pT 5 (fC (.bl true)) (ab 6)))
  (bx (fCB Ah (aa (ab 5) ag)))))
theorem qP:Lh bC 5 []:=by delta bC
theorem qQ:Hh bC qO [] 7:=by
 intro os P h
 unfold bC at h
 obtain ⟨ks,ds,z,n,k,l,kt,rfl,hk,hz,e,q⟩:=h
 ext
 refine Br (l:=l) hk hz e fun a b=>?_
 ext
 refine jz ?_
 ext
 exact q
theorem nQ (hk:k<=z.length)(hz:z.length<=sizeLine)(e:(dF ks ds (.inr n)).getD .non=c8 l)
  (h:P (.fl []) [.fz (.dct ks ds),.fz (.str z),.fz kt,.fz (.str n),.fz (.int k)]):bC [.fz (.dct ks ds),.fz (.str z),.fz kt,.fz (.str n),.fz (.int k)] P:=by
 unfold bC
 exact ⟨ks,ds,z,n,k,l,kt,rfl,hk,hz,e,h⟩
@[irreducible] def bE:Ct:=fun os P=>∃ i:Int,os=[.fz (.int i)]/\P (.fz (.bl true)) os
abbrev jP:Stmt:=top 44
abbrev qR:FS :=
  (bx (gE (fCB cIs (aa (ab 0) (aa (fC (.ty "int")) ag))) (zv (fCB cIs (aa (ab 0) (aa (fC (.ty "bool")) ag))))))
theorem qS:Lh bE 1 []:=by delta bE
theorem qT:Hh bE qR [] 1:=by
 intro os P h
 unfold bE at h
 obtain ⟨i,rfl,q⟩:=h
 ext
 refine ⟨⟨rfl,rfl⟩,?_⟩
 ext
 refine dE ?_
 ext
 refine ⟨⟨rfl,rfl⟩,?_⟩
 ext
 exact q
theorem nR {i:Int}(h:P (.fz (.bl true)) [.fz (.int i)]):bE [.fz (.int i)] P:=by
 unfold bE
 exact ⟨i,rfl,h⟩
@[irreducible] def bF:Ct:=fun os P=>∃ (z:Str) (k:Nat),os=[.fz (.str z),.fz (.int k)]/\k<=z.length/\z.length<=sizeLine/\P (.fz (.bl true)) os
abbrev jQ:Stmt:=top 45
abbrev qU:FS :=
  (bx (gE (al bE (aa (fFz (ab 1)) ag)) (gX (g6 (fun i j=>decide (i<=j)) fun i j=>!aV j i) (g6 (fun i j=>decide (i<=j)) fun i j=>!aV j i) (fC (.int 0)) (ab 1) (fCB eT (aa (ab 0) ag)))))
theorem qV:Lh bF 2 []:=by delta bF
theorem qW:Hh bF qU [] 2:=by
 intro os P h
 unfold bF at h
 obtain ⟨z,k,rfl,hk,hz,q⟩:=h
 ext
 refine nR ?_
 ext
 refine dE ?_
 ext
 refine az (0<=(k:Int)) decide_eq_true_iff (fun _=>?_) (fun h=>absurd (Int.natCast_nonneg k) h)
 ext
 refine ⟨hz,?_⟩
 ext
 show P (.fz (.bl (decide ((k:Int)<=(z.length:Int))))) _
 rw [decide_eq_true (Int.ofNat_le.mpr hk)]
 exact q
theorem nS (hk:k<=z.length)(hz:z.length<=sizeLine)(h:P (.fz (.bl true)) [.fz (.str z),.fz (.int k)]):bF [.fz (.str z),.fz (.int k)] P:=by
 unfold bF
 exact ⟨z,k,rfl,hk,hz,h⟩
theorem qX (h:(eP z)[i]?=some d):∃ c,z.cps.toList[i]?=some c/\d=.str ⟨#[c]⟩:=by
 unfold eP at h
 rw [List.getElem?_map,aam] at h
 obtain ⟨r,h1,h2⟩:=h
 exact ⟨r,h1,h2.symm⟩
theorem qY (z:Str):z.length=z.cps.toList.length:=by rw [Array.length_toList]; rfl
abbrev iU:Str := "abcdefghijklmnopqrstuvwxyz"
theorem kM :c ∈ iU.cps.toList↔97<=c/\c<=122:=by
 have e:iU.cps.toList=List.range' 97 26:=by decide +kernel
 rw [e,List.mem_range'_1]
 nofun
def tru (i:Nat):List D:=(List.replicate i true).map .bl
theorem dh :tru i++[.bl true]=tru (i+1):=by
 unfold tru
 rw [List.replicate_succ',aag]; rfl
theorem eG :(tru i).length=i:=by unfold tru; simp
theorem ib {Q:List Bool->Prop}(q:Q (List.replicate i true)):match eY (tru i) with
  | some zs=>Q zs
  | none=>False:=lH q
theorem eI :((List.replicate i true).all id)=true:=by simp
@[irreducible] def bq:Ct:=fun os P=>∃ z:Str,os=[.fz (.str z)]/\cJ z/\P (.fz (.bl true)) os
abbrev lY:Stmt:=top 17
abbrev vt:FS :=
  (aq (fIf (jw (dD (fCB cIs (aa (ab 0) (aa (fC (.ty "str")) ag)))))
   (bx (fC (.bl false)))
   aZ)
  (aq (fIf (jw (aP (gX (g6 (fun i j=>decide (i<=j)) fun i j=>!aV j i) (g6 (fun i j=>decide (i<=j)) fun i j=>!aV j i) (fC (.int 1)) (fCB eT (aa (ab 0) ag)) (fC (.int 8)))))
   (bx (fC (.bl false)))
   aZ)
  (bx (fCB um (aa (bV [] 1 (zH (ab 0)) (ac 0) kf (fOp aIn (ab 0) (fC (.str "abcdefghijklmnopqrstuvwxyz")))) ag)))))
theorem vv:Lh bq 1 []:=by delta bq
theorem vx:Hh bq vt [] 1:=by
 intro os P h
 unfold bq at h
 obtain ⟨z,rfl,⟨n1,n2,n3⟩,q⟩:=h
 have sz:=c7
 have hle:=qY z
 ext
 refine aU ?_
 ext
 refine ⟨⟨rfl,rfl⟩,?_⟩
 ext
 refine de ?_
 ext
 refine aU ?_
 ext
 refine ⟨by nofun,?_⟩
 ext
 refine az ((1:Int)<=z.length) decide_eq_true_iff (fun h1=>?_) (fun h1=>absurd (by nofun) h1)
 ext
 refine az (¬ (z.length:Int)<=8) (by rw [aaS,decide_eq_false_iff_not]) (fun h2=>absurd (by nofun) h2) (fun h2=>?_)
 ext
 refine aQ (fun i as ρ=>∃ (x:Option OV),as=tru i/\ρ=[x,some (.fz (.str z))]) ⟨none,rfl,rfl⟩ ?_ ?_
 ·rintro i d as ρ R hd ⟨x,rfl,rfl⟩ k
  obtain ⟨c,hc,rfl⟩:=qX hd
  have hi:=(List.getElem?_eq_some_iff.mp hc).1
  have hm:decide (c ∈ iU.cps.toList)=true:=decide_eq_true (kM.mpr (n3 c (List.mem_of_getElem? hc)))
  ext
  refine dE ?_
  ext
  refine ⟨by rw [eG]; nofun,k _ _ ⟨_,?_,rfl⟩⟩
  rw [← dh]
  exact congrArg (fun b=>tru i++[D.bl b]) hm
 ·rintro as ρ ⟨x,rfl,rfl⟩
  ext
  refine ib ?_
  ext
  rw [eI]
  exact q
theorem dQ (hz:cJ z)(h:P (.fz (.bl true)) [.fz (.str z)]):bq [.fz (.str z)] P:=by
 unfold bq
 exact ⟨z,rfl,hz,h⟩
theorem qZ {a b:Nat}:aV ⟨#[a]⟩ ⟨#[b]⟩=decide (a < b):=by
 unfold aV
 rw [decide_eq_decide]
 simp [List.cons_lt_cons_iff]
theorem e_32:Str.ofString " " = ⟨#[32]⟩:=by decide +kernel
theorem IC:Str.ofString "~" = ⟨#[126]⟩:=by decide +kernel
theorem ID :(!aV ⟨#[c]⟩ (Str.ofString " "))=true↔32<=c:=by
 rw [e_32,qZ,aaS,decide_eq_false_iff_not]; nofun
theorem FD :(!aV (Str.ofString "~") ⟨#[c]⟩)=true↔c<=126:=by
 rw [IC,qZ,aaS,decide_eq_false_iff_not]; nofun
def Bs (z:Str):Prop:=∀ c ∈ z.cps.toList,32<=c/\c<=126/\c≠37
@[irreducible] def bW:Ct:=fun os P=>∃ c:Nat,os=[.fz (.str ⟨#[c]⟩)]/\(32<=c/\c<=126/\c≠37)/\P (.fz (.bl true)) os
abbrev lZ:Stmt:=top 18
abbrev vy:FS :=
  (bx (gE (gX (g6 (fun i j=>decide (i<=j)) fun i j=>!aV j i) (g6 (fun i j=>decide (i<=j)) fun i j=>!aV j i) (fC (.str " ")) (ab 0) (fC (.str "~"))) (fOp aNe (fCB Ih (aa (ab 0) ag)) (fC (.int 37)))))
theorem vz:Lh bW 1 []:=by delta bW
theorem vA:Hh bW vy [] 1:=by
 intro os P h
 unfold bW at h
 obtain ⟨c,rfl,⟨c1,c2,c3⟩,q⟩:=h
 ext
 refine az (32<=c) ID (fun _=>?_) (fun h=>absurd c1 h)
 ext
 refine az (c<=126) FD (fun _=>?_) (fun h=>absurd c2 h)
 ext
 refine ⟨a7,?_⟩
 ext
 rw [show dEq (.int (c:Int)) (.int 37)=false from Bool.eq_false_iff.mpr fun e=>c3 (Int.ofNat.inj (cb.mp e))]
 exact q
theorem q0 (hc:32<=c/\c<=126/\c≠37)(h:P (.fz (.bl true)) [.fz (.str ⟨#[c]⟩)]):bW [.fz (.str ⟨#[c]⟩)] P:=by
 unfold bW
 exact ⟨c,rfl,hc,h⟩
@[irreducible] def bP:Ct:=fun os P=>∃ z:Str,os=[.fz (.str z)]/\z.length < sizeLine/\Bs z/\P (.fz (.bl true)) os
abbrev l0:Stmt:=top 19
abbrev vB:FS :=
  (bx (gE (fCB cIs (aa (ab 0) (aa (fC (.ty "str")) ag))) (fCB um (aa (bV [] 1 (zH (ab 0)) (ac 0) kf (al bW (aa (fFz (ab 0)) ag))) ag))))
theorem vC:Lh bP 1 []:=by delta bP
theorem vD:Hh bP vB [] 1:=by
 intro os P h
 unfold bP at h
 obtain ⟨z,rfl,hz,ht,q⟩:=h
 have hle:=qY z
 ext
 refine ⟨⟨rfl,rfl⟩,?_⟩
 ext
 refine dE ?_
 ext
 refine aQ (fun i as ρ=>∃ (x:Option OV),as=tru i/\ρ=[x,some (.fz (.str z))]) ⟨none,rfl,rfl⟩ ?_ ?_
 ·rintro i d as ρ R hd ⟨x,rfl,rfl⟩ k
  obtain ⟨c,hc,rfl⟩:=qX hd
  have hi:=(List.getElem?_eq_some_iff.mp hc).1
  ext
  refine dE ?_
  ext
  refine q0 (ht c (List.mem_of_getElem? hc)) ?_
  ext
  exact ⟨by rw [eG]; nofun,k _ _ ⟨_,dh,rfl⟩⟩
 ·rintro as ρ ⟨x,rfl,rfl⟩
  ext
  refine ib ?_
  ext
  rw [eI]
  exact q
theorem jR (hz:z.length < sizeLine)(ht:Bs z)(h:P (.fz (.bl true)) [.fz (.str z)]):bP [.fz (.str z)] P:=by
 unfold bP
 exact ⟨z,rfl,hz,ht,h⟩
@[irreducible] def ao:Ct:=fun os P=>∃ z:Str,os=[.fz (.str z)]/\ck z/\P (.fz (.bl true)) os
abbrev l5:Stmt:=top 20
abbrev vE:FS :=
  (aq (fIf (jw (dD (al bP (aa (fFz (ab 0)) ag))))
   (bx (fC (.bl false)))
   aZ)
  (aq (fIf (jw (aP (gX (g6 (fun i j=>decide (i<=j)) fun i j=>!aV j i) (g6 (fun i j=>decide (i<=j)) fun i j=>!aV j i) (fC (.int 1)) (fCB eT (aa (ab 0) ag)) (fC (.int 40)))))
   (bx (fC (.bl false)))
   aZ)
  (bx (fCB um (aa (bV [0] 1 (pP (aa (fC (.int 1)) (aa (fCB eT (aa (ab 0) ag)) ag))) (ac 0) kf (fOp (g6 (fun i j=>decide (i < j)) aV) (fOp aIx (ab 1) (fOp (aI0 fun i j=>.int (i - j)) (ab 0) (fC (.int 1)))) (fOp aIx (ab 1) (ab 0)))) ag)))))
theorem vF:Lh ao 1 []:=by delta ao
theorem vG:Hh ao vE [] 1:=by
 intro os P h
 unfold ao at h
 obtain ⟨z,rfl,⟨n1,n2,n3,n4⟩,q⟩:=h
 have sz:=c7
 have hle:=qY z
 ext
 refine aU ?_
 ext
 refine jR (by nofun) n4 ?_
 ext
 refine de ?_
 ext
 refine aU ?_
 ext
 refine ⟨by nofun,?_⟩
 ext
 refine az ((1:Int)<=z.length) decide_eq_true_iff (fun h1=>?_) (fun h1=>absurd (by nofun) h1)
 ext
 refine az (¬ (z.length:Int)<=40) (by rw [aaS,decide_eq_false_iff_not]) (fun h2=>absurd (by nofun) h2) (fun h2=>?_)
 ext
 refine ⟨by nofun,?_⟩
 ext
 refine ⟨⟨by nofun,by nofun,by nofun,by nofun⟩,?_⟩
 ext
 refine aQ (fun i as ρ=>∃ (x:Option OV),as=tru i/\ρ=[x,some (.fz (.str z))]) ⟨none,rfl,rfl⟩ ?_ ?_
 ·rintro i d as ρ R hd ⟨x,rfl,rfl⟩ k
  obtain ⟨hi,rfl⟩:=bO hd
  have hi':i+1 < z.cps.toList.length:=by nofun
  have g1:z.cps.toList[i]?=some (z.cps.toList[i]'(by nofun)):=List.getElem?_eq_getElem _
  have g2:z.cps.toList[i+1]?=some (z.cps.toList[i+1]'hi'):=List.getElem?_eq_getElem _
  have e1:atI z.cps.toList ((1:Int)+i - 1)=some (z.cps.toList[i]'(by nofun)):=by
   rw [show (1:Int)+i - 1=((i:Nat):Int) by nofun]; exact cp g1
  have e2:atI z.cps.toList ((1:Int)+i)=some (z.cps.toList[i+1]'hi'):=by
   rw [show (1:Int)+i=((i+1:Nat):Int) by nofun]; exact cp g2
  ext
  refine dE ?_
  ext
  refine ⟨by nofun,?_⟩
  rw [e1]
  ext
  refine ⟨by nofun,?_⟩
  rw [e2]
  ext
  refine ⟨by rw [eG]; nofun,k _ _ ⟨_,?_,rfl⟩⟩
  rw [qZ,decide_eq_true (List.pairwise_iff_getElem.mp n3 i (i+1) (by nofun) hi' (aaG i))]
  exact dh
 ·rintro as ρ ⟨x,rfl,rfl⟩
  ext
  refine ib ?_
  ext
  rw [eI]
  exact q
theorem ra (hz:ck z)(h:P (.fz (.bl true)) [.fz (.str z)]):ao [.fz (.str z)] P:=by
 unfold ao
 exact ⟨z,rfl,hz,h⟩
@[irreducible] def bX:Ct:=fun os P=>∃ (word:Str) (af:List Str),os=[.fz (aG word af)]/\gI word af/\P (.fz (.bl true)) os
theorem rb {x:α}{r:List α}:gv (x::r) (some 1) none=r:=by
 unfold gv
 rw [show HT.sIx (x::r).length 0 (some 1)=1 from by show min 1 (r.length+1)=1; nofun,HT.sIx_none]
 simp
abbrev l6:Stmt:=top 21
abbrev vH:FS :=
  (aq (fIf (fOr (jw (dD (fCB cIs (aa (ab 0) (aa (fC (.ty "tuple")) ag))))) (aP (fOp aEq (fCB eT (aa (ab 0) ag)) (fC (.int 0)))))
   (bx (fC (.bl false)))
   aZ)
  (aq (cu (fOp aIx (ab 0) (fC (.int 0))) (ac 1))
  (aq (fIf (jw (dD (fCB cIs (aa (ab 1) (aa (fC (.ty "str")) ag)))))
   (bx (fC (.bl false)))
   aZ)
  (aq (fIf (aP (fOp aIn (ab 1) (fC (.gt [.str "none", .str "any"]))))
   (bx (fOp aEq (fCB eT (aa (ab 0) ag)) (fC (.int 1))))
   aZ)
  (aq (fIf (aP (fOp aEq (ab 1) (fC (.str "signs"))))
   (bx (gE (fOp aEq (fCB eT (aa (ab 0) ag)) (fC (.int 2))) (al ao (aa (fFz (fOp aIx (ab 0) (fC (.int 1)))) ag))))
   aZ)
  (aq (fIf (aP (fOp aIn (ab 1) (fC (.gt [.str "again", .str "ahead", .str "not"]))))
   (bx (gE (fOp aEq (fCB eT (aa (ab 0) ag)) (fC (.int 2))) (al bq (aa (fFz (fOp aIx (ab 0) (fC (.int 1)))) ag))))
   aZ)
  (aq (fIf (aP (fOp aIn (ab 1) (fC (.gt [.str "row", .str "first"]))))
   (bx (gE (gX (g6 (fun i j=>decide (i<=j)) fun i j=>!aV j i) (g6 (fun i j=>decide (i<=j)) fun i j=>!aV j i) (fC (.int 1)) (fOp (aI0 fun i j=>.int (i - j)) (fCB eT (aa (ab 0) ag)) (fC (.int 1))) (fC (.int 8))) (fCB um (aa (bV [] 1 (Et (fSl Im (ab 0) (ni (fC (.int 1))) eu)) (ac 0) kf (al bq (aa (fFz (ab 0)) ag))) ag))))
   aZ)
  (bx (fC (.bl false))))))))))
theorem vI:Lh bX 1 []:=by delta bX
theorem IE {l:List α}(h:l.length=1):∃ x,l=[x]:=List.length_eq_one_iff.mp h
theorem vJ:Hh bX vH [] 2:=by
 intro os P h
 unfold bX at h
 obtain ⟨word,af,rfl,⟨zs,hn,hf⟩,q⟩:=h
 have sz:=c7
 ext
 refine aU ?_
 ext
 refine ⟨⟨rfl,rfl⟩,?_⟩
 ext
 refine de ?_
 ext
 refine ⟨a7,?_⟩
 ext
 refine az False ⟨fun h=>by have e:(((af.map D.str).length+1:Nat):Int)=0:=cb.mp h; nofun,False.elim⟩ False.elim (fun _=>?_)
 ext
 refine cI ?_
 ext
 refine aU ?_
 ext
 refine ⟨⟨rfl,rfl⟩,?_⟩
 ext
 refine de ?_
 ext
 refine aU ?_
 ext
 refine ⟨⟨rfl,rfl⟩,?_⟩
 ext
 refine az (word = "none" ∨ word = "any") ((dN (zs:=["none", "any"])).trans (by simp)) (fun hw=>?_) (fun h1=>?_)
 ·have e:af=[]:=by
   rcases hf with ⟨_,h⟩ | ⟨h,_⟩ | ⟨h,_⟩ | ⟨h,_⟩
   ·exact h
   all_goals (rcases hw with rfl | rfl <;> exact absurd h (by decide))
  subst e
  ext
  refine ⟨a7,?_⟩
  ext
  exact q
 ·ext
  refine aU ?_
  ext
  refine ⟨aH,?_⟩
  ext
  refine az (word = "signs") bA (fun hw=>?_) (fun h2=>?_)
  ·obtain ⟨z,rfl,hz⟩:∃ z,af=[z]/\ck z:=by
    rcases hf with ⟨h,_⟩ | ⟨_,h⟩ | ⟨h,_⟩ | ⟨h,_⟩
    ·exact absurd h h1
    ·exact h
    all_goals (rw [hw] at h; exact absurd h (by decide))
   ext
   refine ⟨a7,?_⟩
   ext
   refine dE ?_
   ext
   refine ra hz ?_
   ext
   exact q
  ·ext
   refine aU ?_
   ext
   refine ⟨⟨rfl,rfl⟩,?_⟩
   ext
   refine az (word = "again" ∨ word = "ahead" ∨ word = "not") ((dN (zs:=["again", "ahead", "not"])).trans (by simp)) (fun hw=>?_) (fun h3=>?_)
   ·obtain ⟨z,rfl,hz⟩:∃ z,af=[z]/\cJ z:=by
     rcases hf with ⟨h,_⟩ | ⟨h,_⟩ | ⟨_,h,g⟩ | ⟨h,_⟩
     ·exact absurd h h1
     ·exact absurd h h2
     ·obtain ⟨z,rfl⟩:=IE h
      exact ⟨z,rfl,hn z (g z (List.mem_singleton.mpr rfl))⟩
     ·rcases hw with rfl | rfl | rfl <;> exact absurd h (by decide)
    ext
    refine ⟨a7,?_⟩
    ext
    refine dE ?_
    ext
    refine dQ hz ?_
    ext
    exact q
   ·obtain ⟨hw,r1,r2,r3⟩:(word = "row" ∨ word = "first")/\1<=af.length/\af.length<=8/\∀ z ∈ af,z ∈ zs:=by
     rcases hf with ⟨h,_⟩ | ⟨h,_⟩ | ⟨h,_⟩ | h
     ·exact absurd h h1
     ·exact absurd h h2
     ·exact absurd h h3
     ·exact h
    have hl:(af.map D.str).length=af.length:=List.length_map ..
    ext
    refine aU ?_
    ext
    refine ⟨⟨rfl,rfl⟩,?_⟩
    ext
    refine az (word = "row" ∨ word = "first") ((dN (zs:=["row", "first"])).trans (by simp)) (fun hw=>?_) (fun h4=>absurd hw h4)
    ext
    rw [List.length_cons]
    refine az ((1:Int)<=(((af.map D.str).length+1:Nat):Int) - 1) decide_eq_true_iff (fun g1=>?_) (fun g1=>absurd (by nofun) g1)
    ext
    refine az ((((af.map D.str).length+1:Nat):Int) - 1<=8) decide_eq_true_iff (fun g2=>?_) (fun g2=>absurd (by nofun) g2)
    ext
    rw [rb]
    ext
    refine aQ (fun i as ρ=>∃ (x y:Option OV),as=tru i/\ρ=[x,some (.fz (aG word af)),y]) ⟨none,_,rfl,rfl⟩ ?_ ?_
    ·rintro i d as ρ R hd ⟨x,y,rfl,rfl⟩ k
     rw [List.getElem?_map,aam] at hd
     obtain ⟨z,hz,rfl⟩:=hd
     have hi:=(List.getElem?_eq_some_iff.mp hz).1
     ext
     refine dE ?_
     ext
     refine dQ (hn z (r3 z (List.mem_of_getElem? hz))) ?_
     ext
     exact ⟨by rw [eG]; nofun,k _ _ ⟨_,_,dh,rfl⟩⟩
    ·rintro as ρ ⟨x,y,rfl,rfl⟩
     ext
     refine ib ?_
     ext
     rw [eI]
     exact q
theorem rc {af:List Str}(hf:gI word af)(h:P (.fz (.bl true)) [.fz (aG word af)]):bX [.fz (aG word af)] P:=by
 unfold bX
 exact ⟨word,af,rfl,hf,h⟩
def vK (r:Rw):Prop:=cJ r.1/\gI r.2.1 r.2.2
@[irreducible] def bY:Ct:=fun os P=>∃ r:Rw,os=[.fz (dg r)]/\vK r/\P (.fz (.bl true)) os
abbrev l7:Stmt:=top 25
abbrev vL:FS :=
  (aq (fIf (fOr (jw (dD (fCB cIs (aa (ab 0) (aa (fC (.ty "tuple")) ag))))) (aP (fOp aNe (fCB eT (aa (ab 0) ag)) (fC (.int 2)))))
   (bx (fC (.bl false)))
   aZ)
  (bx (gE (al bq (aa (fFz (fOp aIx (ab 0) (fC (.int 0)))) ag)) (al bX (aa (fFz (fOp aIx (ab 0) (fC (.int 1)))) ag)))))
theorem vM:Lh bY 1 []:=by delta bY
theorem vN:Hh bY vL [] 1:=by
 intro os P h
 unfold bY at h
 obtain ⟨⟨n,word,af⟩,rfl,⟨hn,hf⟩,q⟩:=h
 ext
 refine aU ?_
 ext
 refine ⟨⟨rfl,rfl⟩,?_⟩
 ext
 refine de ?_
 ext
 refine ⟨a7,?_⟩
 ext
 refine de ?_
 ext
 refine dQ hn ?_
 ext
 refine dE ?_
 ext
 refine rc hf ?_
 ext
 exact q
theorem re (hr:vK r)(h:P (.fz (.bl true)) [.fz (dg r)]):bY [.fz (dg r)] P:=by
 unfold bY
 exact ⟨r,rfl,hr,h⟩
abbrev eZ (rows:List Rw):D:=.lst (rows.map dg)
def FF (rows:List Rw):Prop:=∀ i r s,rows[i]?=some r->rows[i+1]?=some s->aV r.1 s.1=true
@[irreducible] def bg:Ct:=fun os P=>∃ rows:List Rw,os=[.fz (eZ rows)]/\rows.length<=1000/\FF rows/\P (.fz (.bl true)) os
abbrev rf:Stmt:=top 26
abbrev Bt:FS :=
  (bx (fCB um (aa (bV [0] 1 (pP (aa (fC (.int 1)) (aa (fCB eT (aa (ab 0) ag)) ag))) (ac 0) kf (fOp (g6 (fun i j=>decide (i < j)) aV) (fOp aIx (fOp aIx (ab 1) (fOp (aI0 fun i j=>.int (i - j)) (ab 0) (fC (.int 1)))) (fC (.int 0))) (fOp aIx (fOp aIx (ab 1) (ab 0)) (fC (.int 0))))) ag)))
theorem Bu:Lh bg 1 []:=by delta bg
theorem Bv:Hh bg Bt [] 1:=by
 intro os P h
 unfold bg at h
 obtain ⟨rows,rfl,hl,hr,q⟩:=h
 have sz:=c7
 have hlm:(rows.map dg).length=rows.length:=List.length_map ..
 ext
 refine ⟨⟨by nofun,by nofun,by nofun,by nofun⟩,?_⟩
 ext
 refine aQ (fun i as ρ=>∃ (x:Option OV),as=tru i/\ρ=[x,some (.fz (eZ rows))]) ⟨none,rfl,rfl⟩ ?_ ?_
 ·rintro i d as ρ R hd ⟨x,rfl,rfl⟩ k
  obtain ⟨hi,rfl⟩:=bO hd
  have hi':i+1 < rows.length:=by nofun
  have g1:rows[i]?=some (rows[i]'(by nofun)):=List.getElem?_eq_getElem _
  have g2:rows[i+1]?=some (rows[i+1]'hi'):=List.getElem?_eq_getElem _
  have e1:atI (rows.map dg) ((1:Int)+i - 1)=some (dg (rows[i]'(by nofun))):=by
   rw [show (1:Int)+i - 1=((i:Nat):Int) by nofun]; exact cp (by rw [List.getElem?_map,g1]; rfl)
  have e2:atI (rows.map dg) ((1:Int)+i)=some (dg (rows[i+1]'hi')):=by
   rw [show (1:Int)+i=((i+1:Nat):Int) by nofun]; exact cp (by rw [List.getElem?_map,g2]; rfl)
  ext
  refine dE ?_
  ext
  rw [e1]
  ext
  rw [e2]
  ext
  refine ⟨by rw [eG]; nofun,k _ _ ⟨_,?_,rfl⟩⟩
  rw [hr i _ _ g1 g2]
  exact dh
 ·rintro as ρ ⟨x,rfl,rfl⟩
  ext
  refine ib ?_
  ext
  rw [eI]
  exact q
theorem vO (hl:rows.length<=1000)(hr:FF rows)(h:P (.fz (.bl true)) [.fz (eZ rows)]):bg [.fz (eZ rows)] P:=by
 unfold bg
 exact ⟨rows,rfl,hl,hr,h⟩
@[irreducible] def bZ:Ct:=fun os P=>∃ rows:List Rw,os=[.fz (eZ rows)]/\rows.length<=1000/\(∀ r ∈ rows,vK r)/\FF rows/\P (.fz (.bl true)) os
abbrev l8:Stmt:=top 27
abbrev vP:FS :=
  (aq (fIf (jw (dD (fCB cIs (aa (ab 0) (aa (fC (.ty "list")) ag)))))
   (bx (fC (.bl false)))
   aZ)
  (bx (gE (fCB um (aa (bV [] 1 (ca (ab 0)) (ac 0) kf (al bY (aa (fFz (ab 0)) ag))) ag)) (al bg (aa (fFz (ab 0)) ag)))))
theorem vQ:Lh bZ 1 []:=by delta bZ
theorem vR:Hh bZ vP [] 1:=by
 intro os P h
 unfold bZ at h
 obtain ⟨rows,rfl,hl,ho,hr,q⟩:=h
 have sz:=c7
 ext
 refine aU ?_
 ext
 refine ⟨⟨rfl,rfl⟩,?_⟩
 ext
 refine de ?_
 ext
 refine aQ (fun i as ρ=>∃ (x:Option OV),as=tru i/\ρ=[x,some (.fz (eZ rows))]) ⟨none,rfl,rfl⟩ ?_ ?_
 ·rintro i d as ρ R hd ⟨x,rfl,rfl⟩ k
  rw [List.getElem?_map,aam] at hd
  obtain ⟨r,hg,rfl⟩:=hd
  have hi:=(List.getElem?_eq_some_iff.mp hg).1
  ext
  refine dE ?_
  ext
  refine re (ho r (List.mem_of_getElem? hg)) ?_
  ext
  exact ⟨by rw [eG]; nofun,k _ _ ⟨_,dh,rfl⟩⟩
 ·rintro as ρ ⟨x,rfl,rfl⟩
  ext
  refine ib ?_
  ext
  rw [eI]
  refine dE ?_
  ext
  refine vO hl hr ?_
  ext
  exact q
theorem rh (hl:rows.length<=1000)(ho:∀ r ∈ rows,vK r)(hr:FF rows)(h:P (.fz (.bl true)) [.fz (eZ rows)]):bZ [.fz (eZ rows)] P:=by
 unfold bZ
 exact ⟨rows,rfl,hl,ho,hr,h⟩
def G6 (word:Str):Prop:=word = "none" ∨ word = "again" ∨ word = "ahead" ∨ word = "not"
def xi (zs:List Str)(word:Str)(af:List Str):Prop:=(word = "row" /\ ∀ z ∈ af,z ∈ zs)∨(word = "first" /\ ∃ z ∈ af,z ∈ zs)∨G6 word
inductive Emp (rows:List Rw):Str->Prop where
 | base {r:Rw}:r ∈ rows->G6 r.2.1->Emp rows r.1
 | row {r:Rw}:r ∈ rows->r.2.1 = "row" -> (∀ z ∈ r.2.2,Emp rows z)->Emp rows r.1
 | first {r:Rw} {z:Str}:r ∈ rows->r.2.1 = "first" -> z ∈ r.2.2->Emp rows z->Emp rows r.1
def rj (rows:List Rw)(zs:List Str):Prop:=∀ r ∈ rows,xi zs r.2.1 r.2.2->r.1 ∈ zs
theorem Emp.mem (c:rj rows zs)(h:Emp rows z):z ∈ zs:=by
 induction h with
 | base h e=>exact c _ h (.inr (.inr e))
 | row h e _ ih=>exact c _ h (.inl ⟨e,ih⟩)
 | first h e m _ ih=>exact c _ h (.inr (.inl ⟨e,_,m,ih⟩))
theorem Emp.of (h:∀ z ∈ zs,Emp rows z)(hr:r ∈ rows)(m:xi zs r.2.1 r.2.2):Emp rows r.1:=by
 rcases m with ⟨e,a⟩ | ⟨e,z,hz,a⟩ | e
 ·exact .row hr e fun z hz=>h z (a z hz)
 ·exact .first hr e hz (h z a)
 ·exact .base hr e
structure Walk1 (rows:List Rw)(zs0 zs:List Str)(i:Nat):Prop where
 nd:zs.Nodup
 emp:∀ z ∈ zs,Emp rows z
 sub:∀ z ∈ zs,z ∈ rows.map (·.1)
 grow:(zs=zs0/\∀ r ∈ rows.take i,xi zs0 r.2.1 r.2.2->r.1 ∈ zs0)∨zs0.length < zs.length
theorem Walk1.start (nd:zs.Nodup)(emp:∀ z ∈ zs,Emp rows z)(sub:∀ z ∈ zs,z ∈ rows.map (·.1)):Walk1 rows zs zs 0:=⟨nd,emp,sub,.inl ⟨rfl,fun r h=>by simp at h⟩⟩
theorem l9 {l:List α}{r a:α}(h:l[i]?=some a)(hr:r ∈ l.take (i+1)):r ∈ l.take i∨r=a:=by
 rw [aar,h] at hr
 simpa using hr
theorem Walk1.add (W:Walk1 rows zs0 zs i)(hr:rows[i]?=some r)(hn:r.1 ∉ zs)(m:xi zs r.2.1 r.2.2):Walk1 rows zs0 (zs++[r.1]) (i+1):=by
 have hrm:=List.mem_of_getElem? hr
 refine ⟨KS.nodup_snoc W.nd hn,fun z hz=>?_,fun z hz=>?_,.inr ?_⟩
 ·rcases List.mem_append.mp hz with h | h
  ·exact W.emp z h
  ·have:z=r.1:=(by exists h)
   rw [this]; exact Emp.of W.emp hrm m
 ·rcases List.mem_append.mp hz with h | h
  ·exact W.sub z h
  ·have:z=r.1:=(by exists h)
   rw [this]; exact List.mem_map.mpr ⟨r,hrm,rfl⟩
 ·rw [aai,aa8]
  rcases W.grow with ⟨e,_⟩ | h
  ·rw [e]; nofun
  ·nofun
theorem Walk1.skip (W:Walk1 rows zs0 zs i)(hr:rows[i]?=some r)(h:xi zs r.2.1 r.2.2->r.1 ∈ zs):Walk1 rows zs0 zs (i+1):=by
 refine ⟨W.nd,W.emp,W.sub,?_⟩
 rcases W.grow with ⟨e,g⟩ | g
 ·refine .inl ⟨e,fun r' hr' m=>?_⟩
  rcases l9 hr hr' with z | z
  ·exact g r' z m
  ·subst z; subst e; exact h m
 ·exact .inr g
theorem Walk1.len (W:Walk1 rows zs0 zs i):zs.length<=rows.length:=by
 have:=abt W.nd W.sub
 rwa [List.length_map] at this
@[irreducible] def aM:Ct:=fun os P=>∃ (word:Str) (af zs:List Str) (ds:List D),os=[.fz (aG word af),.fd (zs.map Sum.inr) ds]/\gI word af/\∀ b:Bool,(b=true↔xi zs word af)->P (.fz (.bl b)) os
@[irreducible] def aW:Ct:=fun os P=>∃ rows:List Rw,os=[.fz (.lst (rows.map dg))]/\BookL rows/\∀ (zs:List Str) (ds:List D),zs.Nodup->(∀ z,z ∈ zs↔Emp rows z)->zs.length<=30->P (.fd (zs.map Sum.inr) ds) os
section
variable {P:Program}  {K:Frag}  
abbrev FH:Stmt:=top 28
abbrev IF:FS :=
  (aq (fIf (aP (fOp aEq (fOp aIx (ab 0) (fC (.int 0))) (fC (.str "row"))))
   (bx (fCB um (aa (bV [1] 1 (ca (al aS (aa (fFz (ab 0)) ag))) (ac 0) kf (fOp aIn (ab 0) (ab 2))) ag)))
   aZ)
  (aq (fIf (aP (fOp aEq (fOp aIx (ab 0) (fC (.int 0))) (fC (.str "first"))))
   (bx (fCB G1 (aa (bV [1] 1 (ca (al aS (aa (fFz (ab 0)) ag))) (ac 0) kf (fOp aIn (ab 0) (ab 2))) ag)))
   aZ)
  (bx (fOp aIn (fOp aIx (ab 0) (fC (.int 0))) (fC (.gt [.str "none", .str "again", .str "ahead", .str "not"]))))))
theorem IG:Lh aM 2 [1]:=by delta aM
theorem gn {af:List Str}(h:gI word af):af.length<=8:=by
 obtain ⟨zs,_,h⟩:=h
 rcases h with ⟨_,rfl⟩ | ⟨_,z,rfl,_⟩ | ⟨_,h,_⟩ | ⟨_,_,h,_⟩
 ·simp
 ·simp
 ·nofun
 ·exact h
theorem IH:Hh aM IF [1] 2:=by
 intro os P h
 unfold aM at h
 obtain ⟨word,af,zs,ds,rfl,hf,q⟩:=h
 have sz:=c7
 have h8:=gn hf
 have hp8:(b5 word af).length<=8:=by
  unfold b5
  split
  ·simp
  ·exact h8
 ext
 refine aU ?_
 ext
 refine cI ?_
 ext
 refine ⟨aH,?_⟩
 ext
 refine az (word = "row") bA (fun hw=>?_) (fun hw=>?_)
 ·have hpl:b5 word af=af:=by unfold b5; rw [if_neg (by rw [hw]; decide)]
  ext
  refine cm ?_
  rw [hpl]
  ext
  refine aQ (fun i as ρ=>∃ x:Option OV,as=(af.take i).map (fun z=>D.bl (nv (zs.map Sum.inr) (.inr z)))/\ρ=[x,some (.fz (aG word af)),some (.fd (zs.map Sum.inr) ds)]) ⟨none,by simp,rfl⟩ ?_ ?_
  ·rintro i d as ρ R hd ⟨x,rfl,rfl⟩ k
   obtain ⟨z,hz,rfl⟩:∃ z,af[i]?=some z/\d=.str z:=by
    rw [List.getElem?_map,aam] at hd
    obtain ⟨z,h1,h2⟩:=hd
    exact ⟨z,h1,h2.symm⟩
   ext
   refine dE ?_
   ext
   refine ⟨by rw [List.length_map,aao]; nofun,k _ _ ⟨some (.fz (.str z)),by rw [aar,hz,aag]; rfl,rfl⟩⟩
  ·rintro as ρ ⟨x,rfl,rfl⟩
   rw [List.length_map,aal (aae _)]
   have e:af.map (fun z=>D.bl (nv (zs.map Sum.inr) (.inr z)))=(af.map fun z=>nv (zs.map Sum.inr) (.inr z)).map D.bl:=by rw [aat]; rfl
   rw [e]
   ext
   refine lH ?_
   ext
   refine q _ ?_
   rw [List.all_map,List.all_eq_true]
   constructor
   ·intro h
    exact .inl ⟨hw,fun z hz=>bp.mp (h z hz)⟩
   ·rintro (⟨_,h⟩ | ⟨e,_⟩ | e) z hz
    ·exact bp.mpr (h z hz)
    ·rw [hw] at e; exact absurd e (by decide)
    ·rw [hw] at e; exact absurd e (by unfold G6; decide)
 ·ext
  refine aU ?_
  ext
  refine cI ?_
  ext
  refine ⟨aH,?_⟩
  ext
  refine az (word = "first") bA (fun hw'=>?_) (fun hw'=>?_)
  ·have hpl:b5 word af=af:=by unfold b5; rw [if_neg (by rw [hw']; decide)]
   ext
   refine cm ?_
   rw [hpl]
   ext
   refine aQ (fun i as ρ=>∃ x:Option OV,as=(af.take i).map (fun z=>D.bl (nv (zs.map Sum.inr) (.inr z)))/\ρ=[x,some (.fz (aG word af)),some (.fd (zs.map Sum.inr) ds)]) ⟨none,by simp,rfl⟩ ?_ ?_
   ·rintro i d as ρ R hd ⟨x,rfl,rfl⟩ k
    obtain ⟨z,hz,rfl⟩:∃ z,af[i]?=some z/\d=.str z:=by
     rw [List.getElem?_map,aam] at hd
     obtain ⟨z,h1,h2⟩:=hd
     exact ⟨z,h1,h2.symm⟩
    ext
    refine dE ?_
    ext
    refine ⟨by rw [List.length_map,aao]; nofun,k _ _ ⟨some (.fz (.str z)),by rw [aar,hz,aag]; rfl,rfl⟩⟩
   ·rintro as ρ ⟨x,rfl,rfl⟩
    rw [List.length_map,aal (aae _)]
    have e:af.map (fun z=>D.bl (nv (zs.map Sum.inr) (.inr z)))=(af.map fun z=>nv (zs.map Sum.inr) (.inr z)).map D.bl:=by rw [aat]; rfl
    rw [e]
    ext
    refine lH ?_
    ext
    refine q _ ?_
    rw [List.any_map,abx]
    constructor
    ·rintro ⟨z,hz,h⟩
     exact .inr (.inl ⟨hw',z,hz,bp.mp h⟩)
    ·rintro (⟨e,_⟩ | ⟨_,z,hz,h⟩ | e)
     ·exact absurd e hw
     ·exact ⟨z,hz,bp.mpr h⟩
     ·rw [hw'] at e; exact absurd e (by unfold G6; decide)
  ·ext
   refine cI ?_
   ext
   refine ⟨⟨rfl,rfl⟩,?_⟩
   ext
   refine q _ ?_
   rw [show [D.str (Str.ofString "none"),D.str (Str.ofString "again"),D.str (Str.ofString "ahead"),D.str (Str.ofString "not")]=([("none" : Str), "again", "ahead", "not"]).map D.str from rfl,dN]
   simp only [List.mem_cons,List.not_mem_nil,or_false]
   constructor
   ·intro h; exact .inr (.inr h)
   ·rintro (⟨e,_⟩ | ⟨e,_⟩ | e)
    ·exact absurd e hw
    ·exact absurd e hw'
    ·exact e
theorem FJ {af:List Str}{P:OV->List OV->Prop}(hf:gI word af)(h:∀ b:Bool,(b=true↔xi zs word af)->P (.fz (.bl b)) [.fz (aG word af),.fd (zs.map Sum.inr) ds]):aM [.fz (aG word af),.fd (zs.map Sum.inr) ds] P:=by
 unfold aM
 exact ⟨word,af,zs,ds,rfl,hf,h⟩
end
section
variable {P:Program}  {K:Frag}  
theorem xj (h:(rows.map dg)[i]?=some d):∃ r,rows[i]?=some r/\d=dg r:=by
 rw [List.getElem?_map,aam] at h
 obtain ⟨r,h1,h2⟩:=h
 exact ⟨r,h1,h2.symm⟩
abbrev ma:Stmt:=top 29
abbrev vS:FS :=
  (aq (cx 1 pG)
  (aq (cu (fC (.bl true)) (ac 2))
  (aq (gZ (Ee (ab 2))
   (aq (cu (fC (.bl false)) (ac 2))
  (pR (ca (ab 0)) (nk 2 (cw (ac 3) (cw (ac 4) nj)))
   (fIf (Co (aP (fOp lA (ab 3) (ab 1))) (dD (al aM (aa (fFz (ab 4)) (aa (ab 1) ag)))))
   (aq (pT 1 (fC (.bl true)) (ab 3))
  (cu (fC (.bl true)) (ac 2)))
   aZ))))
  (bx (ab 1)))))
theorem vT:Lh aW 1 []:=by delta aW
theorem vU:Hh aW vS [] 5:=by
 intro os P h
 unfold aW at h
 obtain ⟨rows,rfl,hB,q⟩:=h
 have sz:=c7
 have few:=hB.few
 ext
 refine jI (fun m ρ=>∃ (zs:List Str) (ds:List D) (g:Bool) (x3 x4:Option OV),ρ=[some (.fz (.lst (rows.map dg))),some (.fd (zs.map Sum.inr) ds),some (.fz (.bl g)),x3,x4]/\Walk1 rows zs zs 0/\(g=true∨rj rows zs)/\m=2 * (rows.length - zs.length)+(if g=true then 1 else 0))
  _ ⟨[],[],true,none,none,rfl,Walk1.start aaB (fun _ h=>by cases h) (fun _ h=>by cases h),.inl rfl,rfl⟩ ?_
 rintro m ρ R ⟨zs,ds,g,x3,x4,rfl,W,hg,rfl⟩ kk
 ext
 cases g with
 | false =>
  have hcl:rj rows zs:=by
   rcases hg with z | z
   ·cases z
   ·exact z
  refine de ?_
  ext
  exact q zs ds W.nd (fun z=>⟨W.emp z,fun h=>h.mem hcl⟩) (aav W.len few)
 | true =>
  refine dE ?_
  ext
  refine b6 (fun i ρ=>∃ (zs':List Str) (ds':List D) (g:Bool) (x3 x4:Option OV),ρ=[some (.fz (.lst (rows.map dg))),some (.fd (zs'.map Sum.inr) ds'),some (.fz (.bl g)),x3,x4]/\Walk1 rows zs zs' i/\(g=false->zs'=zs)/\(g=true->zs.length < zs'.length))
   ⟨zs,ds,false,x3,x4,rfl,W,fun _=>rfl,fun z=>nomatch z⟩ ?_ ?_
  ·rintro i d ρ R' hd ⟨zs',ds',g,x3,x4,rfl,W',hg0,hg1⟩ kk'
   obtain ⟨r,hr,rfl⟩:=xj hd
   have hrm:=List.mem_of_getElem? hr
   ext
   refine ⟨rfl,?_⟩
   ext
   refine aU ?_
   ext
   refine az (r.1 ∉ zs') (by rw [aaS,Bool.eq_false_iff,Ne,bp]) (fun hn=>?_) (fun hn=>?_)
   ·ext
    refine FJ (hB.ok r hrm).2 fun b hb=>?_
    ext
    refine az (xi zs' r.2.1 r.2.2) hb (fun hm=>?_) (fun hm=>?_)
    ·ext
     refine ⟨rfl,?_⟩
     ext
     have W2:=W'.add hr hn hm
     refine ⟨by rw [List.length_map]; have:=W'.len; nofun,?_⟩
     ext
     refine kk' _ ⟨zs'++[r.1],(kh (zs'.map Sum.inr) ds' (.inr r.1) (.bl true)).2,true,some (.fz (.str r.1)),some (.fz (aG r.2.1 r.2.2)),?_,W2,(fun z=>nomatch z),fun _=>?_⟩
     ·have e:=qg (zs:=zs') (ds:=ds') (z:=r.1) (d:=.bl true)
      unfold KS.dedup1 at e
      rw [if_neg hn] at e
      rw [← e]; rfl
     ·rcases W2.grow with ⟨z,_⟩ | z
      ·have:=congrArg List.length z
       rw [aai,aa8] at this
       rcases W'.grow with ⟨y,_⟩ | y
       ·rw [y] at this; nofun
       ·nofun
      ·exact z
    ·exact kk' _ ⟨zs',ds',g,some (.fz (.str r.1)),some (.fz (aG r.2.1 r.2.2)),rfl,W'.skip hr fun z=>absurd z hm,hg0,hg1⟩
   ·ext
    refine de ?_
    exact kk' _ ⟨zs',ds',g,some (.fz (.str r.1)),some (.fz (aG r.2.1 r.2.2)),rfl,W'.skip hr fun _=>Classical.not_not.mp hn,hg0,hg1⟩
  ·rintro ρ ⟨zs',ds',g,x3,x4,rfl,W',hg0,hg1⟩
   rw [List.length_map] at W'
   have hl:=W'.len
   refine kk _ _ ?_ ⟨zs',ds',g,x3,x4,rfl,Walk1.start W'.nd W'.emp W'.sub,?_,rfl⟩
   ·cases g with
    | false=>rw [hg0 rfl,if_neg (by decide),if_pos rfl]; nofun
    | true=>have:=hg1 rfl; rw [if_pos rfl]; nofun
   ·cases g with
    | true=>exact .inl rfl
    | false =>
     refine .inr ?_
     have e:=hg0 rfl
     rcases W'.grow with ⟨_,z⟩ | z
     ·rw [aal (aae _)] at z
      rw [e]
      exact fun r hr m=>z r hr m
     ·rw [e] at z; exact absurd z (aaQ _)
theorem rl {P:OV->List OV->Prop}(hB:BookL rows)(h:∀ (zs:List Str) (ds:List D),zs.Nodup->(∀ z,z ∈ zs↔Emp rows z)->zs.length<=30->P (.fd (zs.map Sum.inr) ds) [.fz (.lst (rows.map dg))]):aW [.fz (.lst (rows.map dg))] P:=by
 unfold aW
 exact ⟨rows,rfl,hB,h⟩
theorem jS (h:(zs.map D.str)[i]?=some d):∃ z,zs[i]?=some z/\d=.str z:=by
 rw [List.getElem?_map,aam] at h
 obtain ⟨r,h1,h2⟩:=h
 exact ⟨r,h1,h2.symm⟩
end
def ki (zs:List Str):List Str->List Str
 | []=>[]
 | p::r=>if p ∈ zs then p::ki zs r else [p]
theorem nT {zs zs':List Str}(h:∀ z,z ∈ zs↔z ∈ zs'):∀ ps,ki zs ps=ki zs' ps
 | []=>rfl
 | p::r=>by
  unfold ki
  rw [nT h r]
  by_cases hp:p ∈ zs
  ·rw [if_pos hp,if_pos ((h p).mp hp)]
  ·rw [if_neg hp,if_neg fun z=>hp ((h p).mpr z)]
theorem md {zs:List Str}:∀ ps,(ki zs ps).length<=ps.length
 | []=>aae _
 | p::r=>by
  unfold ki
  have:=md (zs:=zs) r
  split <;> simp <;> nofun
theorem rm (hp:ps[i]?=some p)(h:∀ z ∈ ps.take i,z ∈ zs):ki zs ps=ps.take i++ki zs (ps.drop i):=by
 induction ps generalizing i with
 | nil=>simp at hp
 | cons a r ih =>
  cases i with
  | zero=>rfl
  | succ i =>
   rw [List.take_succ_cons] at h
   have ha:=h a (aab ..)
   rw [List.getElem?_cons_succ] at hp
   have:=ih hp fun z hz=>h z (aad _ hz)
   rw [List.take_succ_cons,List.drop_succ_cons,List.cons_append,← this]
   rw [ki,if_pos ha]
theorem Bw (hp:ps[i]?=some p):ps.drop i=p::ps.drop (i+1):=by
 obtain ⟨h,e⟩:=List.getElem?_eq_some_iff.mp hp
 rw [aax h,e]
theorem vV (hp:ps[i]?=some p)(h:∀ z ∈ ps.take i,z ∈ zs)(hn:p ∉ zs):ki zs ps=ps.take (i+1):=by
 rw [rm hp h,Bw hp,ki,if_neg hn,aar,hp]
 rfl
theorem mf {zs:List Str}:∀ {ps:List Str},(∀ z ∈ ps,z ∈ zs)->ki zs ps=ps
 | [],_=>rfl
 | p::r,h=>by
  rw [ki,if_pos (h p (aab ..)),mf fun z hz=>h z (aad _ hz)]
def bB (zs:List Str)(word:Str)(af:List Str):List Str:=if word = "row" then ki zs af else b5 word af
def cA (zs:List Str)(r:Rw):D:=.lst ((bB zs r.2.1 r.2.2).map .str)
@[irreducible] def aB:Ct:=fun os P=>∃ (ps zs:List Str) (ds:List D),os=[.fz (.lst (ps.map .str)),.fd (zs.map Sum.inr) ds]/\ps.length<=8/\P (.fl ((ki zs ps).map .str)) os
@[irreducible] def ay:Ct:=fun os P=>∃ (word:Str) (af zs:List Str) (ds:List D),os=[.fz (aG word af),.fd (zs.map Sum.inr) ds]/\gI word af/\P (.fl ((bB zs word af).map .str)) os
@[irreducible] def bG:Ct:=fun os P=>∃ rows:List Rw,os=[.fz (.lst (rows.map dg))]/\BookL rows/\∀ zs:List Str,(∀ z,z ∈ zs↔Emp rows z)->P (.fd ((rows.map (·.1)).map Sum.inr) (rows.map (cA zs))) os
section
variable {P:Program}  {K:Frag}  
abbrev xk:Stmt:=top 30
abbrev FK:FS :=
  (aq (cx 2 (i4 ag))
  (aq (pR (ca (ab 0)) (ac 3)
   (aq (dB (Cp 2 (ab 3)))
  (fIf (aP (fOp lA (ab 3) (ab 1)))
   wS
   aZ)))
  (bx (ab 2))))
theorem FL:Lh aB 2 [1]:=by delta aB
theorem FM:Hh aB FK [1] 4:=by
 intro os P h
 unfold aB at h
 obtain ⟨ps,zs,ds,rfl,h8,q⟩:=h
 have sz:=c7
 ext
 refine ⟨aaq _,?_⟩
 ext
 refine b6 (fun i ρ=>∃ x:Option OV,ρ=[some (.fz (.lst (ps.map .str))),some (.fd (zs.map Sum.inr) ds),some (.fl ((ps.take i).map .str)),x]/\∀ z ∈ ps.take i,z ∈ zs) ⟨none,by simp,fun z hz=>by simp at hz⟩ ?_ ?_
 ·rintro i d ρ R hd ⟨x,rfl,hall⟩ kk
  obtain ⟨p,hp,rfl⟩:=jS hd
  ext
  refine ⟨rfl,?_⟩
  ext
  refine ⟨by rw [List.length_map,aao]; nofun,?_⟩
  ext
  refine aU ?_
  ext
  refine az (p ∉ zs) (by rw [aaS,Bool.eq_false_iff,Ne,bp]) (fun hn=>?_) (fun hn=>?_)
  ·ext
   have e:=vV hp hall hn
   rw [e,aar,hp,aag] at q
   exact q
  ·refine kk _ ⟨some (.fz (.str p)),?_,?_⟩
   ·rw [aar,hp,aag]; rfl
   ·intro z hz
    rcases l9 hp hz with h | h
    ·exact hall z h
    ·rw [h]; exact Classical.not_not.mp hn
 ·rintro ρ ⟨x,rfl,hall⟩
  rw [List.length_map,aal (aae _)] at *
  ext
  rw [mf hall] at q
  exact q
theorem Bx {P:OV->List OV->Prop}(h8:ps.length<=8)(h:P (.fl ((ki zs ps).map .str)) [.fz (.lst (ps.map .str)),.fd (zs.map Sum.inr) ds]):aB [.fz (.lst (ps.map .str)),.fd (zs.map Sum.inr) ds] P:=by
 unfold aB
 exact ⟨ps,zs,ds,rfl,h8,h⟩
abbrev rn:Stmt:=top 31
abbrev By:FS :=
  (aq (fIf (aP (fOp aEq (fOp aIx (ab 0) (fC (.int 0))) (fC (.str "row"))))
   (bx (al aB (aa (fFz (al aS (aa (fFz (ab 0)) ag))) (aa (ab 1) ag))))
   aZ)
  (bx (al aS (aa (fFz (ab 0)) ag))))
theorem Bz:Lh ay 2 [1]:=by delta ay
theorem BB:Hh ay By [1] 2:=by
 intro os P h
 unfold ay at h
 obtain ⟨word,af,zs,ds,rfl,hf,q⟩:=h
 have h8:=gn hf
 unfold bB at q
 ext
 refine aU ?_
 ext
 refine cI ?_
 ext
 refine ⟨aH,?_⟩
 ext
 refine az (word = "row") bA (fun hw=>?_) (fun hw=>?_)
 ·have hpl:b5 word af=af:=by unfold b5; rw [if_neg (by rw [hw]; decide)]
  rw [if_pos hw] at q
  ext
  refine cm ?_
  rw [hpl]
  ext
  refine Bx h8 ?_
  ext
  exact q
 ·rw [if_neg hw] at q
  ext
  refine cm ?_
  ext
  exact q
theorem vW {af:List Str}{P:OV->List OV->Prop}(hf:gI word af)(h:P (.fl ((bB zs word af).map .str)) [.fz (aG word af),.fd (zs.map Sum.inr) ds]):ay [.fz (aG word af),.fd (zs.map Sum.inr) ds] P:=by
 unfold ay
 exact ⟨word,af,zs,ds,rfl,hf,h⟩
theorem mh {f:α->β}{l:List α}{a:α}(h:l[i]?=some a):(l.take (i+1)).map f=(l.take i).map f++[f a]:=by
 rw [aar,h,aag]; rfl
theorem BC (nd:(rows.map (·.1)).Nodup)(h:rows[i]?=some r):r.1 ∉ (rows.take i).map (·.1):=by
 intro z
 obtain ⟨hi,e⟩:=List.getElem?_eq_some_iff.mp h
 obtain ⟨r',hr',e'⟩:=List.mem_map.mp z
 obtain ⟨j,hj,ej⟩:=abf hr'
 rw [List.getElem_take] at ej
 have hj':j < i:=by rw [aao] at hj; nofun
 have:=(abw (i:=j) (j:=i) (h₀:=by rw [List.length_map]; nofun) (h₁:=by rw [List.length_map]; nofun) nd).mp (by rw [List.getElem_map,List.getElem_map,ej,e,e'])
 nofun
theorem vX (h:z ∉ zs):kh (zs.map Sum.inr) ds (.inr z) d=(zs.map Sum.inr++[.inr z],ds++[d]):=by
 unfold kh
 have e:¬ ((zs.map Sum.inr).any fun x=>decide (x=(Sum.inr z:Key)))=true:=fun q=>h (bp.mp q)
 rw [if_neg e]
abbrev rp:Stmt:=top 32
abbrev BD:FS :=
  (aq (cx 1 (al aW (aa (fFz (ab 0)) ag)))
  (aq (cx 2 pG)
  (aq (pR (ca (ab 0)) (nk 2 (cw (ac 3) (cw (ac 4) nj)))
   (pT 2 (al ay (aa (fFz (ab 4)) (aa (ab 1) ag))) (ab 3)))
  (bx (ab 2)))))
theorem BF:Lh bG 1 []:=by delta bG
theorem BH:Hh bG BD [] 5:=by
 intro os P h
 unfold bG at h
 obtain ⟨rows,rfl,hB,q⟩:=h
 have sz:=c7
 have few:=hB.few
 ext
 refine rl hB fun zs ds hn he hl=>?_
 ext
 refine b6 (fun i ρ=>∃ x3 x4:Option OV,ρ=[some (.fz (.lst (rows.map dg))),some (.fd (zs.map Sum.inr) ds),some (.fd (((rows.take i).map (·.1)).map Sum.inr) ((rows.take i).map (cA zs))),x3,x4]) ⟨none,none,by simp⟩ ?_ ?_
 ·rintro i d ρ R hd ⟨x3,x4,rfl⟩ kk
  obtain ⟨r,hr,rfl⟩:=xj hd
  have hrm:=List.mem_of_getElem? hr
  ext
  refine ⟨rfl,?_⟩
  ext
  refine vW (hB.ok r hrm).2 ?_
  ext
  refine ⟨rfl,?_⟩
  ext
  refine ⟨by rw [List.length_map,List.length_map,aao]; nofun,?_⟩
  refine kk _ ⟨some (.fz (.str r.1)),some (.fz (aG r.2.1 r.2.2)),?_⟩
  have hnew:=BC hB.nd hr
  have e:=vX (ds:=(rows.take i).map (cA zs)) (d:=cA zs r) hnew
  rw [mh hr,mh hr,aag]
  show [_,_,some (OV.fd (kh (((rows.take i).map (·.1)).map Sum.inr) ((rows.take i).map (cA zs)) (.inr r.1) (cA zs r)).1 (kh (((rows.take i).map (·.1)).map Sum.inr) ((rows.take i).map (cA zs)) (.inr r.1) (cA zs r)).2),_,_]=_
  rw [e]
  rfl
 ·rintro ρ ⟨x3,x4,rfl⟩
  rw [List.length_map,aal (aae _)]
  ext
  exact q zs he
theorem vY {P:OV->List OV->Prop}(hB:BookL rows)(h:∀ zs:List Str,(∀ z,z ∈ zs↔Emp rows z)->P (.fd ((rows.map (·.1)).map Sum.inr) (rows.map (cA zs))) [.fz (.lst (rows.map dg))]):bG [.fz (.lst (rows.map dg))] P:=by
 unfold bG
 exact ⟨rows,rfl,hB,h⟩
end
abbrev cR (zs:List Str)(rows:List Rw):D:=.dct ((rows.map (·.1)).map Sum.inr) (rows.map (cA zs))
def mj (zs ls:List Str)(r:Rw):List Str:=(bB zs r.2.1 r.2.2).filter fun z=>decide (z ∈ ls)
def FN (zs:List Str)(rows:List Rw)(S:List Str):Prop:=∀ n ∈ S,∃ r ∈ rows,r.1=n/\∃ p ∈ bB zs r.2.1 r.2.2,p ∈ S
def rq (zs:List Str)(rows:List Rw):Prop:=∀ S,FN zs rows S->S=[]
def Good (zs:List Str)(rows:List Rw)(ls:List Str)(n:Str):Prop:=∀ r ∈ rows,r.1=n->∀ p ∈ bB zs r.2.1 r.2.2,p ∉ ls
def kN (zs:List Str)(rows:List Rw)(ls:List Str)(n:Str):Bool:=@decide (Good zs rows ls n) (Classical.propDecidable _)
theorem dR :kN zs rows ls n=true↔Good zs rows ls n:=by
 unfold kN; exact @decide_eq_true_iff _ (Classical.propDecidable _)
theorem BJ (sub:∀ n ∈ ls,n ∈ rows.map (·.1))(h:∀ n ∈ ls,¬ Good zs rows ls n):FN zs rows ls:=by
 intro n hn
 obtain ⟨r,hr,e⟩:=List.mem_map.mp (sub n hn)
 have g:=h n hn
 unfold Good at g
 simp only [Classical.not_forall,Classical.not_not] at g
 obtain ⟨r',hr',e',p,hp,hl⟩:=g
 exact ⟨r',hr',e',p,hp,hl⟩
@[irreducible] def aN:Ct:=fun os P=>∃ (rows:List Rw) (zs ls:List Str) (ds:List D) (r:Rw),(os=[.fz (cR zs rows),.fz (.str r.1),.fd (ls.map Sum.inr) ds]∨os=[.fz (cR zs rows),.fz (.str r.1),.fz (.dct (ls.map Sum.inr) ds)])/\BookL rows/\r ∈ rows/\P (.fl ((mj zs ls r).map .str)) os
section
variable {P:Program}  {K:Frag}  
theorem fzzd :[OV.fz d,OV.fz e,OV.fd ks ds].length=3/\∀ (j:Nat) (o:OV),[OV.fz d,OV.fz e,OV.fd ks ds][j]?=some o->j ∉ ([2]:List Nat)->pU o=true:=⟨rfl,fun j o e hj=>by
 match j,e with
 | 0,e=>cases e; rfl
 | 1,e=>cases e; rfl
 | 2,e=>exact absurd (by simp) hj⟩
theorem iV {f:Rw->D}:∀ {rows:List Rw} {r:Rw},(rows.map (·.1)).Nodup->r ∈ rows->dF ((rows.map (·.1)).map Sum.inr) (rows.map f) (.inr r.1)=some (f r)
 | [],_,_,h=>nomatch h
 | a::rows,r,hn,h=>by
  unfold dF
  rw [List.map_cons,List.map_cons,List.map_cons,List.zip_cons_cons,List.find?_cons]
  rw [List.map_cons,List.nodup_cons] at hn
  by_cases e:a.1=r.1
  ·have:r=a:=by
    rcases List.mem_cons.mp h with h | h
    ·exact h
    ·exact absurd (List.mem_map.mpr ⟨r,h,e.symm⟩) hn.1
   subst this
   simp
  ·have h':r ∈ rows:=by
    rcases List.mem_cons.mp h with h | h
    ·exact absurd (by rw [h]) e
    ·exact h
   rw [show decide ((Sum.inr a.1:Key)=Sum.inr r.1)=false from decide_eq_false fun z=>e (abq z)]
   exact iV hn.2 h'
theorem rA {k:Key}(h:dF ks ds k=some d)(q:Q d):match dF ks ds k with
  | some d=>Q d
  | none=>False:=by rw [h]; exact q
theorem nU {af:List Str}(hf:gI word af):(bB zs word af).length<=8:=by
 have h8:=gn hf
 unfold bB b5
 split
 ·exact aav (md af) h8
 ·split
  ·simp
  ·exact h8
abbrev ml:Stmt:=top 33
abbrev vZ:FS :=
  (bx (bV [2] 1 (ca (fOp aIx (ab 0) (ab 1))) (ac 0) (aP (fOp aIn (ab 0) (ab 3))) (ab 0)))
theorem fzzf {f:D}:[OV.fz d,OV.fz e,OV.fz f].length=3/\∀ (j:Nat) (o:OV),[OV.fz d,OV.fz e,OV.fz f][j]?=some o->j ∉ ([2]:List Nat)->pU o=true:=⟨rfl,fun j o e hj=>by
 match j,e with
 | 0,e=>cases e; rfl
 | 1,e=>cases e; rfl
 | 2,e=>exact absurd (by simp) hj⟩
theorem v0:Lh aN 3 [2]:=fun os P h=>by
 unfold aN at h
 obtain ⟨rows,zs,ls,ds,r,rfl | rfl,_⟩:=h
 ·exact fzzd
 ·exact fzzf
theorem v5:Hh aN vZ [2] 3:=by
 intro os P h
 unfold aN at h
 obtain ⟨rows,zs,ls,ds,r,ho,hB,hr,q⟩:=h
 have sz:=c7
 have h8:=nU (zs:=zs) (hB.ok r hr).2
 rcases ho with rfl | rfl
 ·ext
  refine rA (iV (f:=cA zs) hB.nd hr) ?_
  ext
  refine aQ (fun i as ρ=>∃ x:Option OV,as=(((bB zs r.2.1 r.2.2).take i).filter fun z=>decide (z ∈ ls)).map .str/\ρ=[x,some (.fz (cR zs rows)),some (.fz (.str r.1)),some (.fd (ls.map Sum.inr) ds)]) ⟨none,by simp,rfl⟩ ?_ ?_
  ·rintro i d as ρ R hd ⟨x,rfl,rfl⟩ k
   obtain ⟨z,hz,rfl⟩:=jS hd
   ext
   refine az (z ∈ ls) bp (fun hp=>?_) (fun hp=>?_)
   ·ext
    refine ⟨?_,k _ _ ⟨some (.fz (.str z)),?_,rfl⟩⟩
    ·rw [List.length_map]
     have:=aaY (fun z=>decide (z ∈ ls)) ((bB zs r.2.1 r.2.2).take i)
     rw [aao] at this
     nofun
    ·rw [aar,hz,aaO,aag]
     simp [hp]
   ·refine k _ _ ⟨some (.fz (.str z)),?_,rfl⟩
    rw [aar,hz,aaO,aag]
    simp [hp]
  ·rintro as ρ ⟨x,rfl,rfl⟩
   rw [List.length_map,aal (aae _)]
   ext
   exact q
 ·ext
  refine rA (iV (f:=cA zs) hB.nd hr) ?_
  ext
  refine aQ (fun i as ρ=>∃ x:Option OV,as=(((bB zs r.2.1 r.2.2).take i).filter fun z=>decide (z ∈ ls)).map .str/\ρ=[x,some (.fz (cR zs rows)),some (.fz (.str r.1)),some (.fz (.dct (ls.map Sum.inr) ds))]) ⟨none,by simp,rfl⟩ ?_ ?_
  ·rintro i d as ρ R hd ⟨x,rfl,rfl⟩ k
   obtain ⟨z,hz,rfl⟩:=jS hd
   ext
   refine az (z ∈ ls) bp (fun hp=>?_) (fun hp=>?_)
   ·ext
    refine ⟨?_,k _ _ ⟨some (.fz (.str z)),?_,rfl⟩⟩
    ·rw [List.length_map]
     have:=aaY (fun z=>decide (z ∈ ls)) ((bB zs r.2.1 r.2.2).take i)
     rw [aao] at this
     nofun
    ·rw [aar,hz,aaO,aag]
     simp [hp]
   ·refine k _ _ ⟨some (.fz (.str z)),?_,rfl⟩
    rw [aar,hz,aaO,aag]
    simp [hp]
  ·rintro as ρ ⟨x,rfl,rfl⟩
   rw [List.length_map,aal (aae _)]
   ext
   exact q
theorem nV {P:OV->List OV->Prop}(hB:BookL rows)(hr:r ∈ rows)(h:P (.fl ((mj zs ls r).map .str)) [.fz (cR zs rows),.fz (.str r.1),.fz (.dct (ls.map Sum.inr) ds)]):aN [.fz (cR zs rows),.fz (.str r.1),.fz (.dct (ls.map Sum.inr) ds)] P:=by
 unfold aN
 exact ⟨rows,zs,ls,ds,r,.inr rfl,hB,hr,h⟩
end
structure Left (zs:List Str)(rows:List Rw)(ls:List Str):Prop where
 nd:ls.Nodup
 sub:∀ n ∈ ls,n ∈ rows.map (·.1)
 ring:FN zs rows ls
 all:∀ S,FN zs rows S->∀ n ∈ S,n ∈ ls
@[irreducible] def aE:Ct:=fun os P=>∃ (rows:List Rw) (zs:List Str),os=[.fz (cR zs rows)]/\BookL rows/\∀ (ls:List Str) (ds:List D),Left zs rows ls->P (.fd (ls.map Sum.inr) ds) os
section
variable {P:Program}  {K:Frag}  
theorem nW {P:OV->List OV->Prop}(hB:BookL rows)(h:∀ (ls:List Str) (ds:List D),Left zs rows ls->P (.fd (ls.map Sum.inr) ds) [.fz (cR zs rows)]):aE [.fz (cR zs rows)] P:=by
 unfold aE
 exact ⟨rows,zs,rfl,hB,h⟩
@[irreducible] def eW:Ct:=fun os P=>∃ rows:List Rw,os=[.fz (.lst (rows.map dg))]/\BookL rows/\(∀ zs:List Str,(∀ z,z ∈ zs↔Emp rows z)->rq zs rows)/\P (.fz .non) os
abbrev xl:Stmt:=top 35
abbrev FP:FS :=
  (aq (cu (al bG (aa (fFz (ab 0)) ag)) (ac 1))
  (aq (cx 2 (al aE (aa (fFz (ab 1)) ag)))
  (aq (fIf (aP (fOp aEq (fCB eT (aa (ab 2) ag)) (fC (.int 0))))
   (bx (fC .non))
   aZ)
  (aq cj
  (aq cj
  (aq cj
  cj))))))
theorem FQ:Lh eW 1 []:=by delta eW
theorem FR:Hh eW FP [] 5:=by
 intro os P h
 unfold eW at h
 obtain ⟨rows,rfl,hB,hN,q⟩:=h
 ext
 refine vY hB fun zs he=>?_
 ext
 refine nW hB fun ls ds L=>?_
 ext
 refine aU ?_
 ext
 refine ⟨a7,?_⟩
 ext
 refine az (ls=[]) ?_ (fun e=>?_) (fun hne=>absurd (hN zs he ls L.ring) hne)
 ·rw [cb,List.length_map]
  constructor
  ·intro h; exact aau (by nofun)
  ·intro h; rw [h]; rfl
 ·ext
  exact q
theorem BK {P:OV->List OV->Prop}(hB:BookL rows)(hN:∀ zs:List Str,(∀ z,z ∈ zs↔Emp rows z)->rq zs rows)(h:P (.fz .non) [.fz (.lst (rows.map dg))]):eW [.fz (.lst (rows.map dg))] P:=by
 unfold eW
 exact ⟨rows,rfl,hB,hN,h⟩
end
theorem jT:∀ ls:List Str,(ls.map Sum.inr:List Key).map wW=ls.map D.str
 | []=>rfl
 | z::ls=>by rw [List.map_cons,List.map_cons,List.map_cons,jT ls]; rfl
structure Away (zs:List Str)(rows:List Rw)(ls:List Str):Prop where
 nd:ls.Nodup
 sub:∀ n ∈ ls,n ∈ rows.map (·.1)
 all:∀ S,FN zs rows S->∀ n ∈ S,n ∈ ls
theorem Away.len (O:Away zs rows ls):ls.length<=rows.length:=by
 have:=abt O.nd O.sub
 rwa [List.length_map] at this
theorem Away.next (O:Away zs rows ls):Away zs rows (ls.filter fun z=>decide (z ∉ ls.filter (kN zs rows ls))):=by
 refine ⟨O.nd.sublist List.filter_sublist,fun n hn=>O.sub n (List.mem_filter.mp hn).1,fun S hS n hn=>List.mem_filter.mpr ⟨O.all S hS n hn,decide_eq_true fun z=>?_⟩⟩
 have g:=dR.mp (List.mem_filter.mp z).2
 obtain ⟨r,hr,e,p,hp,hpS⟩:=hS n hn
 exact g r hr e p hp (O.all S hS p hpS)
theorem xm (nd:(rows.map (·.1)).Nodup){r':Rw}(hr:r ∈ rows)(hr':r' ∈ rows)(e:r'.1=r.1):r'=r:=by
 obtain ⟨i1,h1,e1⟩:=abf hr
 obtain ⟨i2,h2,e2⟩:=abf hr'
 have:=(abw (i:=i2) (j:=i1) (h₀:=by rw [List.length_map]; nofun) (h₁:=by rw [List.length_map]; nofun) nd).mp (by rw [List.getElem_map,List.getElem_map,e1,e2,e])
 subst this
 rw [← e1,← e2]
theorem kO (nd:(rows.map (·.1)).Nodup)(hr:r ∈ rows):mj zs ls r=[]↔Good zs rows ls r.1:=by
 unfold mj
 rw [List.filter_eq_nil_iff]
 constructor
 ·intro h r' hr' e p hp hl
  rw [xm nd hr hr' e] at hp
  exact h p hp (decide_eq_true hl)
 ·intro h p hp hl
  exact h r hr rfl p hp (of_decide_eq_true hl)
theorem jU:∀ {ls:List Str} {ds:List D} {z:Str},ds.length=ls.length->z ∈ ls->∃ d,dF (ls.map Sum.inr) ds (.inr z)=some d
 | [],_,_,_,h=>nomatch h
 | a::ls,[],_,h,_=>by simp at h
 | a::ls,d::ds,z,h,hz=>by
  unfold dF
  rw [List.map_cons,List.zip_cons_cons,List.find?_cons]
  by_cases e:a=z
  ·subst e; exact ⟨d,by simp⟩
  ·rw [show decide ((Sum.inr a:Key)=Sum.inr z)=false from decide_eq_false fun y=>e (abq y)]
   exact jU (by exists h) ((List.mem_cons.mp hz).resolve_left fun y=>e y.symm)
theorem mm:∀ {ls:List Str} {ds:List D} {z:Str},ds.length=ls.length->∃ ds',kI (ls.map Sum.inr) ds (.inr z)=((ls.filter fun x=>decide (x≠z)).map Sum.inr,ds')/\ds'.length=(ls.filter fun x=>decide (x≠z)).length
 | [],[],_,_=>⟨[],rfl,rfl⟩
 | [],d::ds,_,h=>by simp at h
 | a::ls,[],_,h=>by simp at h
 | a::ls,d::ds,z,h=>by
  obtain ⟨ds',e,hl⟩:=mm (ls:=ls) (ds:=ds) (z:=z) (by exists h)
  unfold kI at e ⊢
  injection e with e1 e2
  by_cases q:a=z
  ·refine ⟨ds',?_,?_⟩
   ·subst q
    simp only [List.map_cons,List.zip_cons_cons,List.filter_cons,ne_eq,not_true_eq_false,decide_false,if_neg Bool.false_ne_true]
    exact congr (congrArg _ e1) e2
   ·subst q
    simpa using hl
  ·have q1:decide ((Sum.inr a:Key)≠Sum.inr z)=true:=decide_eq_true fun y=>q (abq y)
   have q2:decide (a≠z)=true:=decide_eq_true q
   refine ⟨d::ds',?_,?_⟩
   ·simp only [List.map_cons,List.zip_cons_cons,List.filter_cons,q1,q2,if_pos]
    rw [e1,e2]
   ·simp only [List.filter_cons,q2,if_pos,List.length_cons,hl]
theorem eJ :(ls.filter fun z=>decide (z ∉ ([]:List Str)))=ls:=List.filter_eq_self.mpr fun a _=>by simp
theorem ic (nd:E.Nodup)(h:E[i]?=some z):z ∉ E.take i:=fun hz=>by
 obtain ⟨hi,e⟩:=List.getElem?_eq_some_iff.mp h
 obtain ⟨k,hk,ek⟩:=abf hz
 rw [List.getElem_take] at ek
 rw [aao] at hk
 have:=(abw nd).mp (ek.trans e.symm)
 nofun
theorem gp (h:E[i]?=some z):((ls.filter fun z=>decide (z ∉ E.take i)).filter fun x=>decide (x≠z))=ls.filter fun z=>decide (z ∉ E.take (i+1)):=by
 rw [List.filter_filter]
 refine List.filter_congr fun x _=>?_
 rw [aar,h]
 simp only [Option.toList,List.mem_append,List.mem_singleton]
 by_cases h1:x=z <;> by_cases h2:x ∈ E.take i <;> simp [h1,h2]
section
variable {P:Program}  {K:Frag}  
abbrev jV:Stmt:=top 34
abbrev rB:FS :=
  (aq (cx 1 (fCB Aq (aa (ab 0) ag)))
  (aq (cu (fC (.bl true)) (ac 2))
  (aq (gZ (Ee (ab 2))
   (aq (cu (qt [0,1] 1 1 (ac 0) (aP (fOp aEq (fCB eT (aa (al aN (aa (fFz (ab 1)) (aa (fFz (ab 0)) (aa (ab 2) ag)))) ag)) (fC (.int 0)))) (ab 0)) (ac 3))
  (aq (pR (ca (ab 3)) (ac 4)
   (dB (An 1 (ab 4))))
  (cu (fOp (g6 (fun i j=>decide (j < i)) fun i j=>aV j i) (fCB eT (aa (ab 3) ag)) (fC (.int 0))) (ac 2)))))
  (bx (ab 1)))))
theorem rC:Lh aE 1 []:=by delta aE
theorem rD:Hh aE rB [] 5:=by
 intro os P h
 unfold aE at h
 obtain ⟨rows,zs,rfl,hB,q⟩:=h
 have sz:=c7
 have few:=hB.few
 ext
 refine jI (fun m ρ=>∃ (ls:List Str) (ds:List D) (b:Bool) (x3 x4:Option OV),ρ=[some (.fz (cR zs rows)),some (.fd (ls.map Sum.inr) ds),some (.fz (.bl b)),x3,x4]/\Away zs rows ls/\ds.length=ls.length/\(b=false->∀ n ∈ ls,¬ Good zs rows ls n)/\m=if b then ls.length+1 else 0)
  _ ⟨rows.map (·.1),rows.map (cA zs),true,none,none,rfl,⟨hB.nd,fun _ h=>h,fun S hS n hn=>?_⟩,by rw [List.length_map,List.length_map],(fun z=>nomatch z),rfl⟩ ?_
 ·obtain ⟨r,hr,e,_⟩:=hS n hn
  exact List.mem_map.mpr ⟨r,hr,e⟩
 ·rintro m ρ R ⟨ls,ds,b,x3,x4,rfl,O,hl,hb,rfl⟩ kk
  have hll:=O.len
  ext
  refine az (b=true) Iff.rfl (fun e=>?_) (fun e=>?_)
  ·subst e
   ext
   rw [show Ik (ls.map Sum.inr) ds=ls.map D.str from jT ls]
   refine aQ (fun i as ρ=>∃ x:Option OV,as=((ls.take i).filter (kN zs rows ls)).map .str/\ρ=[x,some (.fz (cR zs rows)),some (.fz (.dct (ls.map Sum.inr) ds)),some (.fz (.bl true)),fzo x3,fzo x4]) ⟨none,by simp,rfl⟩ ?_ ?_
   ·rintro k d as ρ R' hd ⟨x,rfl,rfl⟩ k2
    obtain ⟨n,hn,rfl⟩:=jS hd
    obtain ⟨r,hr,rfl⟩:=List.mem_map.mp (O.sub n (List.mem_of_getElem? hn))
    ext
    refine nV hB hr ?_
    ext
    refine ⟨a7,?_⟩
    ext
    refine az (Good zs rows ls r.1) ?_ (fun hp=>?_) (fun hp=>?_)
    ·rw [cb,List.length_map,← kO hB.nd hr]
     constructor
     ·intro h; exact aau (by nofun)
     ·intro h; rw [h]; rfl
    ·ext
     refine ⟨?_,k2 _ _ ⟨some (.fz (.str r.1)),?_,rfl⟩⟩
     ·rw [List.length_map]
      have:=aaY (kN zs rows ls) (ls.take k)
      rw [aao] at this
      nofun
     ·rw [aar,hn,aaO,aag]
      simp [dR.mpr hp]
    ·refine k2 _ _ ⟨some (.fz (.str r.1)),?_,rfl⟩
     rw [aar,hn,aaO,aag]
     have:kN zs rows ls r.1=false:=Bool.eq_false_iff.mpr fun z=>hp (dR.mp z)
     simp [this]
   ·rintro as ρ ⟨x,rfl,rfl⟩
    rw [List.length_map,aal (aae _)]
    refine ⟨⟨_,rfl⟩,?_⟩
    ext
    generalize hE:ls.filter (kN zs rows ls)=E
    have hEsub:∀ z ∈ E,z ∈ ls:=fun z hz=>by rw [← hE] at hz; exact (List.mem_filter.mp hz).1
    have hEnd:E.Nodup:=by rw [← hE]; exact O.nd.sublist List.filter_sublist
    have hEl:E.length<=ls.length:=by rw [← hE]; exact aaY ..
    refine b6 (fun i ρ=>∃ (ds':List D) (x:Option OV),ρ=[some (.fz (cR zs rows)),some (.fd ((ls.filter fun z=>decide (z ∉ E.take i)).map Sum.inr) ds'),some (.fz (.bl true)),some (.fz (.lst (E.map .str))),x]/\ds'.length=(ls.filter fun z=>decide (z ∉ E.take i)).length) ⟨ds,x4,?_,?_⟩ ?_ ?_
    ·rw [List.take_zero,eJ]
    ·rw [List.take_zero,eJ,hl]
    ·rintro i d ρ R' hd ⟨ds',x,rfl,hl'⟩ k2
     obtain ⟨z,hz,rfl⟩:=jS hd
     have hzl:z ∈ ls.filter fun z=>decide (z ∉ E.take i):=List.mem_filter.mpr ⟨hEsub z (List.mem_of_getElem? hz),decide_eq_true (ic hEnd hz)⟩
     obtain ⟨dd,e1⟩:=jU hl' hzl
     obtain ⟨ds2,e2,hl2⟩:=mm (z:=z) hl'
     ext
     refine ⟨rfl,?_⟩
     ext
     refine rA e1 ?_
     refine k2 _ ⟨ds2,some (.fz (.str z)),?_,?_⟩
     ·rw [e2,gp hz]
      rfl
     ·rw [hl2,gp hz]
    ·rintro ρ ⟨ds',x,rfl,hl'⟩
     rw [List.length_map,aal (aae _)] at *
     have O2:Away zs rows (ls.filter fun z=>decide (z ∉ E)):=by rw [← hE]; exact O.next
     ext
     refine kk _ _ ?_ ⟨_,ds',_,_,_,rfl,O2,hl',?_,rfl⟩
     ·rw [if_pos rfl]
      split
      ·rename_i h
       have hlt:(0:Int) < ((E.map D.str).length:Nat):=of_decide_eq_true h
       rw [List.length_map] at hlt
       have:(ls.filter fun z=>decide (z ∉ E)).length < ls.length:=by
        cases E with
        | nil=>simp at hlt
        | cons y E =>
         refine List.length_filter_lt_length_iff_exists.mpr ⟨y,hEsub y (aab ..),?_⟩
         simp
       nofun
      ·nofun
     ·intro h n hn g
      have h0:¬ (0:Int) < ((E.map D.str).length:Nat):=of_decide_eq_false h
      rw [List.length_map] at h0
      have eE:E=[]:=aau (by nofun)
      subst eE
      rw [eJ] at hn g
      rw [List.filter_eq_nil_iff] at hE
      exact hE n hn (dR.mpr g)
  ·have e':b=false:=by cases b with | true=>exact absurd rfl e | false=>rfl
   subst e'
   ext
   exact q ls ds ⟨O.nd,O.sub,BJ O.sub (hb rfl),O.all⟩
end
structure BookR (rows:List Rw):Prop where
 b:BookL rows
 rise:FF rows
 free:∀ zs:List Str,(∀ z,z ∈ zs↔Emp rows z)->rq zs rows
@[irreducible] def am:Ct:=fun os P=>∃ rows:List Rw,os=[.fz (eZ rows)]/\BookR rows/\P (.fz .non) os
abbrev FU:Stmt:=top 46
abbrev II:FS :=
  (aq (fIf (jw (dD (al bZ (aa (fFz (ab 0)) ag))))
   cj
   aZ)
  (fIf (aP (fOp uA (al eW (aa (fFz (ab 0)) ag)) (fC .non)))
   cj
   aZ))
theorem IJ:Lh am 1 []:=by delta am
theorem IK:Hh am II [] 1:=by
 intro os P h
 unfold am at h
 obtain ⟨rows,rfl,B,q⟩:=h
 have few:=B.b.few
 ext
 refine aU ?_
 ext
 refine rh (by nofun) B.b.ok B.rise ?_
 ext
 refine de ?_
 ext
 refine aU ?_
 ext
 refine BK B.b B.free ?_
 ext
 refine de ?_
 ext
 exact q
theorem FW (B:BookR rows)(h:P (.fz .non) [.fz (eZ rows)]):am [.fz (eZ rows)] P:=by
 unfold am
 exact ⟨rows,rfl,B,h⟩
structure AskR (rows:List Rw)(n z:Str)(k:Nat):Prop where
 b:BookR rows
 n:cJ n
 t:Bs z
 s:z.length < sizeLine
 k:k<=z.length
abbrev v6 (rows:List Rw)(n z:Str)(k:Nat):List OV:=[.fz (eZ rows),.fz (.str n),.fz (.str z),.fz (.int k)]
@[irreducible] def aO:Ct:=fun os P=>∃ (rows:List Rw) (n z:Str) (k:Nat),os=v6 rows n z k/\AskR rows n z k/\P (.fz .non) os
abbrev Jo:Stmt:=top 47
abbrev f_rw:FS :=
  (aq (dB (al am (aa (fFz (ab 0)) ag)))
  (aq (fIf (jw (dD (al bq (aa (fFz (ab 1)) ag))))
   cj
   aZ)
  (aq (fIf (jw (dD (al bP (aa (fFz (ab 2)) ag))))
   cj
   aZ)
  (fIf (jw (dD (al bF (aa (fFz (ab 2)) (aa (fFz (ab 3)) ag)))))
   cj
   aZ))))
theorem l_rw:Lh aO 4 []:=by delta aO
theorem h_rw:Hh aO f_rw [] 4:=by
 intro os P h
 unfold aO at h
 obtain ⟨rows,n,z,k,rfl,A,q⟩:=h
 ext
 refine FW A.b ?_
 ext
 refine aU ?_
 ext
 refine dQ A.n ?_
 ext
 refine de ?_
 ext
 refine aU ?_
 ext
 refine jR A.s A.t ?_
 ext
 refine de ?_
 ext
 refine aU ?_
 ext
 refine nS A.k (abi A.s) ?_
 ext
 refine de ?_
 ext
 exact q
theorem IL (A:AskR rows n z k)(h:P (.fz .non) (v6 rows n z k)):aO (v6 rows n z k) P:=by
 unfold aO
 exact ⟨rows,n,z,k,rfl,A,h⟩
abbrev rsR (rows:List Rw):List (Str×D):=rows.map fun r=>(r.1,aG r.2.1 r.2.2)
abbrev ksR (rows:List Rw):List Key:=(rsR rows).map fun r=>.inr r.1
abbrev dsR (rows:List Rw):List D:=(rsR rows).map (·.2)
theorem jW:∀ rows:List Rw,kJ (rows.map dg)=some (rsR rows)
 | []=>rfl
 | r::rows=>by
  show (match kJ (rows.map dg) with
   | some q=>some ((r.1,aG r.2.1 r.2.2)::q)
   | none=>none)=_
  rw [jW rows]; rfl
theorem rE {Q:List (Str×D)->Prop}(h:Q (rsR rows)):match kJ (rows.map dg) with
  | some rs=>Q rs
  | none=>False:=by rw [jW]; exact h
theorem FX (nd:(rows.map (·.1)).Nodup):((rsR rows).map (·.1)).Nodup:=by rw [aat]; exact nd
def ie (rows:List Rw)(n:Str)(l:Leaf):Prop:=(dF (ksR rows) (dsR rows) (.inr n)).getD .non=c8 l
@[irreducible] def bh:Ct:=fun os P=>∃ (rows:List Rw) (n z:Str) (k:Nat) (l:Leaf),os=v6 rows n z k/\AskR rows n z k/\ie rows n l/\P (.ft [[.inr n,.inl k]] [nP n (lT (fw l z k))]) os
abbrev rF:Stmt:=top 48
abbrev BL:FS :=
  (aq (dB (al aO (aa (fFz (ab 0)) (aa (fFz (ab 1)) (aa (fFz (ab 2)) (aa (fFz (ab 3)) ag))))))
  (aq (cx 4 w9)
  (aq (dB (al eV (aa (fFz (fCB lQ (aa (ab 0) ag))) (aa (fFz (ab 2)) (aa (ab 4) (aa (fFz (ab 1)) (aa (fFz (ab 3)) ag)))))))
  (bx (ab 4)))))
theorem BM:Lh bh 4 []:=by delta bh
theorem BN:Hh bh BL [] 5:=by
 intro os P h
 unfold bh at h
 obtain ⟨rows,n,z,k,l,rfl,A,L,q⟩:=h
 ext
 refine IL A ?_
 ext
 refine rE ⟨FX A.b.b.nd,?_⟩
 ext
 refine Bq (l:=l) A.k (abi A.s) L ?_
 ext
 exact q
theorem v7 (A:AskR rows n z k)(L:ie rows n l)(h:P (.ft [[.inr n,.inl k]] [nP n (lT (fw l z k))]) (v6 rows n z k)):bh (v6 rows n z k) P:=by
 unfold bh
 exact ⟨rows,n,z,k,l,rfl,A,L,h⟩
theorem v8 :cS [n]=[n]:=(c4 (.refl _) (List.pairwise_singleton _ _)).symm
theorem v9 {k:List Key}(h:Q d):match ny [k] [d] k with
  | some d=>Q d
  | none=>False:=by
 rw [show ny [k] [d] k=some d from by unfold ny; simp]; exact h
@[irreducible] def bQ:Ct:=fun os P=>∃ (rows:List Rw) (n z:Str) (k:Nat) (l:Leaf),os=v6 rows n z k/\AskR rows n z k/\ie rows n l/\∀ a b,P (.ot [.fz (lT (fw l z k)),.fz (.int 1),.fl a [],.fl b [.str n]]) os
abbrev jX:Stmt:=top 49
abbrev rG:FS :=
  (aq (cu (al bh (aa (fFz (ab 0)) (aa (fFz (ab 1)) (aa (fFz (ab 2)) (aa (fFz (ab 3)) ag))))) (ac 4))
  (aq (cu (fOp aIx (ab 4) (ln (aa (ab 1) (aa (ab 3) ag)))) (nk 3 (cw (ac 5) (cw (ac 6) (cw (ac 7) nj)))))
  (bx (Fc (aa (ab 5) (aa (ab 6) (aa (al bC (aa (fFz (fCB lQ (aa (ab 0) ag))) (aa (fFz (ab 2)) (aa (fFz (ab 4)) (aa (fFz (ab 1)) (aa (fFz (ab 3)) ag)))))) (aa (fCB hU (aa (ab 7) ag)) ag))))))))
theorem rH:Lh bQ 4 []:=by delta bQ
theorem rJ:Hh bQ rG [] 8:=by
 intro os P h
 unfold bQ at h
 obtain ⟨rows,n,z,k,l,rfl,A,L,q⟩:=h
 ext
 refine v7 A L ?_
 ext
 refine ⟨(by rw [sizeLine_eq]; exact (by decide:(2:Nat)<=16777216)),?_⟩
 ext
 refine v9 ?_
 ext
 refine ⟨rfl,?_⟩
 ext
 refine rE ⟨FX A.b.b.nd,?_⟩
 ext
 refine nQ (l:=l) A.k (abi A.s) L ?_
 ext
 refine jK (zs:=[n]) (by decide:(1:Nat) < 64) ?_
 rw [v8]
 ext
 intro as
 ext
 refine ⟨(by rw [sizeLine_eq]; exact (by decide:(4:Nat)<=16777216)),?_⟩
 ext
 exact q _ _
theorem ig (A:AskR rows n z k)(L:ie rows n l)(h:∀ a b,P (.ot [.fz (lT (fw l z k)),.fz (.int 1),.fl a [],.fl b [.str n]]) (v6 rows n z k)):bQ (v6 rows n z k) P:=by
 unfold bQ
 exact ⟨rows,n,z,k,l,rfl,A,L,h⟩
abbrev bt (b0 b1 b2:Int):OV:=.fl [.int b0,.int b1,.int b2]
def WellB (b1 b2 n:Int):Prop:=0<=b1/\b1 < 2 ^ 200/\0<=b2/\b2<=n
theorem WellB.mono {n:Int}(h:WellB b1 b2 m)(e:m<=n):WellB b1 b2 n:=⟨h.1,h.2.1,h.2.2.1,Int.le_trans h.2.2.2 e⟩
@[irreducible] def aX:Ct:=fun os P=>∃ (ns:List Int) (k:Nat),os=[.fz (.lst (ns.map .int)),.fz (.int k)]/\∀ z:Int,P (.fz (.int z)) os
abbrev xn:Stmt:=top 51
abbrev FY:FS :=
  (aq (fIf (aP (fOp (g6 (fun i j=>decide (i < j)) aV) (ab 1) (fCB eT (aa (ab 0) ag))))
   (bx (fOp aIx (ab 0) (ab 1)))
   aZ)
  (bx (fC (.int 0))))
theorem FZ:Lh aX 2 []:=by delta aX
theorem F0:Hh aX FY [] 2:=by
 intro os P h
 unfold aX at h
 obtain ⟨ns,k,rfl,q⟩:=h
 ext
 refine aU ?_
 ext
 refine az ((k:Int) < (ns.map D.int).length) (by simp) (fun hk=>?_) (fun _=>?_)
 ·ext
  have hk':k < ns.length:=by rw [List.length_map] at hk; nofun
  have e:atI (ns.map D.int) (k:Int)=some (.int ns[k]):=cp (by simp [hk'])
  show match atI (ns.map D.int) (k:Int) with
   | some d=>_
   | none=>False
  rw [e]
  exact q _
 ·ext
  exact q _
theorem BP {ns:List Int}(h:∀ z:Int,P (.fz (.int z)) [.fz (.lst (ns.map .int)),.fz (.int k)]):aX [.fz (.lst (ns.map .int)),.fz (.int k)] P:=by
 unfold aX
 exact ⟨ns,k,rfl,h⟩
@[irreducible] def bu:Ct:=fun os P=>∃ a b:Int,os=[.fz (.int a),.fz (.int b)]/\0<=a/\a < 2 ^ 200/\0<=b/\b < 2 ^ 41/\∀ z:Int,0<=z->P (.fz (.int z)) os
abbrev xo:Stmt:=top 52
abbrev F6:FS :=
  (aq (cu (fOp gw (fOp (aIC nM fun i j=>.int (i * j)) (fOp gw (ab 0) (fC (.int 1))) (fC (.int 50219736400000000000000111))) (fOp (aIC nM fun i j=>.int (i * j)) (fOp gw (ab 1) (fC (.int 1))) (fC (.int 7710038100000000000000040117)))) (ac 2))
  (bx (fOp (aIC (fun _ j=>0 < j) fun i j=>.int (i % j)) (fOp (aIC qH fun i j=>.int (i ^ j.toNat)) (ab 2) (fC (.int 5))) (fC (.int 9403300000000000000000000000000000000009043)))))
theorem F7:Lh bu 2 []:=by delta bu
theorem iW {x:Int}(h0:0<=x)(h:x < 2 ^ 300):x.natAbs < 2 ^ 1000:=by
 have:(2:Nat) ^ 300 < 2 ^ 1000:=by decide +kernel
 nofun
theorem F8:Hh bu F6 [] 3:=by
 intro os P h
 unfold bu at h
 obtain ⟨a,b,rfl,a0,a1,b0,b1,q⟩:=h
 ext
 refine ⟨⟨iW (x:=a+1) (by nofun) (by nofun),by decide +kernel⟩,?_⟩
 ext
 refine ⟨⟨iW (x:=b+1) (by nofun) (by nofun),by decide +kernel⟩,?_⟩
 ext
 refine ⟨⟨by decide,by decide,iW (x:=(a+1) * 50219736400000000000000111+(b+1) * 7710038100000000000000040117) (by nofun) (by nofun)⟩,?_⟩
 ext
 refine ⟨(by decide:(0:Int) < 9403300000000000000000000000000000000009043),?_⟩
 ext
 exact q _ (Int.emod_nonneg _ (by decide))
theorem rK {a b:Int}(a0:0<=a)(a1:a < 2 ^ 200)(b0:0<=b)(b1:b < 2 ^ 41)(h:∀ z:Int,0<=z->P (.fz (.int z)) [.fz (.int a),.fz (.int b)]):bu [.fz (.int a),.fz (.int b)] P:=by
 unfold bu
 exact ⟨a,b,rfl,a0,a1,b0,b1,h⟩
@[irreducible] def bH:Ct:=fun os P=>∃ (z:Int) (k:Nat),os=[.fz (.int z),.fz (.int k)]/\k<=100/\∀ b0 b1 b2,0<=b0->WellB b1 b2 0->P (bt b0 b1 b2) os
abbrev xp:Stmt:=top 53
abbrev F9:FS :=
  (aq (cu (fOp gw (fOp (aIC CMul fun i j=>.int (i * j)) (fOp (aIC (fun _ j=>0 < j) fun i j=>.int (i % j)) (ab 0) (fC (.int 9403300000000000000000000000000000000009043))) (fC (.int 128))) (ab 1)) (ac 2))
  (aq (fIf (aP (fOp (g6 (fun i j=>decide (j<=i)) fun i j=>!aV i j) (ab 0) (fOp (aIC Cj fun i j=>.int (i ^ j.toNat)) (fC (.int 10)) (fC (.int 18)))))
   (bx (i4 (aa (fOp (aI0 fun i j=>.int (i - j)) (ab 0) (fOp (aIC Cj fun i j=>.int (i ^ j.toNat)) (fC (.int 10)) (fC (.int 18)))) (aa (ab 2) (aa (fC (.int 0)) ag)))))
   aZ)
  (bx (i4 (aa (al bu (aa (fFz (ab 2)) (aa (fC (.int 0)) ag))) (aa (ab 2) (aa (fC (.int 0)) ag)))))))
theorem Ga:Lh bH 2 []:=by delta bH
theorem Gb:Hh bH F9 [] 3:=by
 intro os P h
 unfold bH at h
 obtain ⟨z,k,rfl,hk,q⟩:=h
 have m0:=Int.emod_nonneg z (show (9403300000000000000000000000000000000009043:Int)≠0 by decide)
 have m1:=Int.emod_lt_of_pos z (show (0:Int) < 9403300000000000000000000000000000000009043 by decide)
 have s0:0<=z % 9403300000000000000000000000000000000009043 * 128+(k:Int):=by nofun
 have s1:z % 9403300000000000000000000000000000000009043 * 128+(k:Int) < 2 ^ 200:=by nofun
 ext
 refine ⟨(by decide:(0:Int) < 9403300000000000000000000000000000000009043),?_⟩
 ext
 refine ⟨.inr ⟨by decide,by decide⟩,?_⟩
 ext
 refine aU ?_
 ext
 refine ⟨⟨by decide,by decide,by decide⟩,?_⟩
 ext
 refine az ((10:Int) ^ (18:Int).toNat<=z) decide_eq_true_iff (fun hz=>?_) (fun hz=>?_)
 ·ext
  refine ⟨⟨by decide,by decide,by decide⟩,?_⟩
  ext
  refine ⟨by show 3<=sizeLine; decide,?_⟩
  ext
  exact q _ _ _ (Int.sub_nonneg_of_le hz) ⟨s0,s1,Int.le_refl _,Int.le_refl _⟩
 ·ext
  refine rK s0 s1 (Int.le_refl _) (by decide) fun y hy=>?_
  ext
  refine ⟨by show 3<=sizeLine; decide,?_⟩
  ext
  exact q _ _ _ hy ⟨s0,s1,Int.le_refl _,Int.le_refl _⟩
theorem BQ {z:Int}(hk:k<=100)(h:∀ b0 b1 b2,0<=b0->WellB b1 b2 0->P (bt b0 b1 b2) [.fz (.int z),.fz (.int k)]):bH [.fz (.int z),.fz (.int k)] P:=by
 unfold bH
 exact ⟨z,k,rfl,hk,h⟩
@[irreducible] def ah:Ct:=fun os P=>∃ (b0 b1 b2 m n:Int),os=[bt b0 b1 b2,.fz (.int m)]/\WellB b1 b2 n/\n < 2 ^ 40/\0 < m/\m < 1000000/\∀ r b0' b1' b2',0<=r->r < m->WellB b1' b2' (n+1)->P (.fz (.int r)) [bt b0' b1' b2',.fz (.int m)]
abbrev xq:Stmt:=top 54
abbrev Gc:FS :=
  (aq (fIf (aP (fOp aEq (fOp aIx (ab 0) (fC (.int 0))) (fC (.int 0))))
   (aq (ly 0 (fOp gw (fOp aIx (ab 0) (fC (.int 2))) (fC (.int 1))) (fC (.int 2)))
  (ly 0 (al bu (aa (fFz (fOp aIx (ab 0) (fC (.int 1)))) (aa (fFz (fOp aIx (ab 0) (fC (.int 2)))) ag))) (fC (.int 0))))
   aZ)
  (aq (cu (fOp (aIC (fun _ j=>0 < j) fun i j=>.int (i % j)) (fOp aIx (ab 0) (fC (.int 0))) (ab 1)) (ac 2))
  (aq (ly 0 (fOp (aIC Ci fun i j=>.int (i / j)) (fOp aIx (ab 0) (fC (.int 0))) (ab 1)) (fC (.int 0)))
  (bx (ab 2)))))
theorem Gd:Lh ah 2 [0]:=by delta ah
theorem Ge:Hh ah Gc [0] 3:=by
 intro os P h
 unfold ah at h
 obtain ⟨b0,b1,b2,m,n,rfl,⟨h1,h1',h2,h2'⟩,hn,hm,hm',q⟩:=h
 ext
 refine aU ?_
 ext
 refine ⟨a7,?_⟩
 ext
 refine az (b0=0) cb (fun hk=>?_) (fun hk=>?_)
 ·ext
  refine ⟨rfl,?_⟩
  ext
  refine rK h1 h1' (show 0<=b2+1 by nofun) (by nofun) fun y hy=>?_
  ext
  refine ⟨rfl,?_⟩
  ext
  refine ⟨hm,?_⟩
  ext
  refine ⟨⟨hm,by nofun⟩,?_⟩
  ext
  refine ⟨rfl,?_⟩
  ext
  exact q _ _ _ _ (Int.emod_nonneg _ (by nofun)) (Int.emod_lt_of_pos _ hm) ⟨h1,h1',by nofun,by nofun⟩
 ·ext
  refine ⟨hm,?_⟩
  ext
  refine ⟨⟨hm,by nofun⟩,?_⟩
  ext
  refine ⟨rfl,?_⟩
  ext
  exact q _ _ _ _ (Int.emod_nonneg _ (by nofun)) (Int.emod_lt_of_pos _ hm) ⟨h1,h1',h2,by nofun⟩
theorem bw (n:Int)(hb:WellB b1 b2 n)(hn:n < 2 ^ 40)(hm:0 < m)(hm':m < 1000000)(h:∀ r b0' b1' b2',0<=r->r < m->WellB b1' b2' (n+1)->P (.fz (.int r)) [bt b0' b1' b2',.fz (.int m)]) :
  ah [bt b0 b1 b2,.fz (.int m)] P:=by
 unfold ah
 exact ⟨b0,b1,b2,m,n,rfl,hb,hn,hm,hm',h⟩
def Gf (z:Str):Prop:=z.cps.toList.length=1/\∀ c ∈ z.cps.toList,32<=c/\c<=126/\c≠37
@[irreducible] def bv:Ct:=fun os P=>∃ (b0 b1 b2 n:Int),os=[bt b0 b1 b2]/\WellB b1 b2 n/\n < 2 ^ 39/\∀ (c:Nat) (b0' b1' b2':Int),c ∈ nN.cps.toList->WellB b1' b2' (n+1)->P (.fz (.str ⟨#[c]⟩)) [bt b0' b1' b2']
abbrev xr:Stmt:=top 56
abbrev Gg:FS :=
  (aq (cu (fC (.str " !\"#$&'()*+,-./0123456789:;<=>?\x40ABCDEFGHIJKLMNOPQRSTUVWXYZ[\\]^_`abcdefghijklmnopqrstuvwxyz{|}~")) (ac 1))
  (bx (fOp aIx (ab 1) (al ah (aa (ab 0) (aa (fC (.int 94)) ag))))))
theorem Gh:Lh bv 1 [0]:=by delta bv
theorem Gi:Hh bv Gg [0] 2:=by
 intro os P h
 unfold bv at h
 obtain ⟨b0,b1,b2,n,rfl,hb,hn,q⟩:=h
 have hn0:0<=n:=Int.le_trans hb.2.2.1 hb.2.2.2
 ext
 refine bw n hb (by nofun) (by decide) (by decide) fun r b0 b1 b2 r0 r1 hb1=>?_
 ext
 refine ⟨by decide +kernel,?_⟩
 refine iL r0 (by rw [show nN.cps.toList.length=94 from qJ]; exact r1) fun d hdm=>?_
 ext
 exact q d _ _ _ hdm hb1
theorem mo (n:Int)(hb:WellB b1 b2 n)(hn:n < 2 ^ 39)(h:∀ (c:Nat) (b0' b1' b2':Int),c ∈ nN.cps.toList->WellB b1' b2' (n+1)->P (.fz (.str ⟨#[c]⟩)) [bt b0' b1' b2']):bv [bt b0 b1 b2] P:=by
 unfold bv
 exact ⟨b0,b1,b2,n,rfl,hb,hn,h⟩
@[irreducible] def bj:Ct:=fun os P=>∃ (b0 b1 b2 n:Int),os=[bt b0 b1 b2]/\WellB b1 b2 n/\n < 2 ^ 38/\∀ (z:Str) (b0' b1' b2':Int),ck z->WellB b1' b2' (n+42)->P (.fz (aG "signs" [z])) [bt b0' b1' b2']
abbrev rL:Stmt:=top 57
abbrev BR:FS :=
  (aq (cu (fOp gw (fC (.int 1)) (al ah (aa (ab 0) (aa (fFz (fOp aIx (i4 (aa (fC (.int 5)) (aa (fC (.int 40)) ag))) (fOp (aIC Ci fun i j=>.int (i / j)) (al ah (aa (ab 0) (aa (fC (.int 8)) ag))) (fC (.int 7))))) ag)))) (ac 1))
  (bx (ln (aa (fC (.str "signs")) (aa (uu (fC (.str "")) (iI (bV [0] 1 (eQ (aa (ab 1) ag)) (ac 0) kf (al bv (aa (ab 1) ag))))) ag)))))
theorem BU:Lh bj 1 [0]:=by delta bj
theorem IM {a b:Int}{i:Int}(h0:0<=i)(h:i < 2)(q:∀ m,(m=a∨m=b)->Q (.int m)):match atI [D.int a,D.int b] i with
  | some d=>Q d
  | none=>False:=iK h0 h fun d hd=>by
 simp only [List.mem_cons,List.not_mem_nil,or_false] at hd
 rcases hd with rfl | rfl
 ·exact q a (.inl rfl)
 ·exact q b (.inr rfl)
theorem lez (n:Nat)(h:autoParam (n<=16777216) L2.aD._auto_1):n<=sizeLine:=by rw [sizeLine_eq]; exact h
theorem BV:Hh bj BR [0] 2:=by
 intro os P h
 unfold bj at h
 obtain ⟨b0,b1,b2,n,rfl,hb,hn,q⟩:=h
 have sz:=c7
 have hn0:0<=n:=Int.le_trans hb.2.2.1 hb.2.2.2
 ext
 refine ⟨lez 2,?_⟩
 ext
 refine bw n hb (by nofun) (by decide) (by decide) fun r b0 b1 b2 r0 r1 hb1=>?_
 ext
 refine ⟨⟨by decide,by decide⟩,?_⟩
 ext
 refine IM (by nofun) (by nofun) fun m hm=>?_
 ext
 refine bw (n+1) hb1 (by nofun) (by nofun) (by nofun) fun r3 b0 b1 b2 r30 r31 hb3=>?_
 ext
 refine ⟨⟨by nofun,by nofun⟩,?_⟩
 ext
 refine aQ (fun i as ρ=>∃ (zs:List Str) (x:Option OV) (b0 b1 b2:Int),as=zs.map .str/\zs.length=i/\(∀ z ∈ zs,Gf z)/\WellB b1 b2 (n+2+i) /\
   ρ=[x,some (bt b0 b1 b2),some (.fz (.int (1+r3)))])
  ⟨[],none,b0,b1,b2,rfl,rfl,(fun _ h=>by cases h),hb3.mono (by nofun),rfl⟩ ?_ ?_
 ·rintro i d as ρ R hd ⟨zs,x,b0,b1,b2,rfl,hl,hz,hb4,rfl⟩ k
  obtain ⟨hi,rfl⟩:=bO hd
  ext
  refine dE ?_
  ext
  refine mo _ hb4 (by nofun) fun d b0 b1 b2 hdm hb5=>?_
  ext
  refine ⟨by rw [List.length_map]; nofun,k _ _ ⟨zs++[⟨#[d]⟩],some (.fz (.int (0+i))),b0,b1,b2,by rw [aag]; rfl,by simp [hl],fun z hz'=>?_,hb5.mono (by nofun),rfl⟩⟩
  rcases List.mem_append.mp hz' with h | h
  ·exact hz z h
  ·have:z=⟨#[d]⟩:=(by exists h)
   rw [this]
   exact ⟨rfl,fun y hy=>by
    have:y=d:=(by exists hy)
    rw [this]; exact lR d hdm⟩
 ·rintro as ρ ⟨zs,x,b0,b1,b2,rfl,hl,hz,hb4,rfl⟩
  rw [b7] at hl hb4
  have hsub:(iH zs).length<=zs.length:=uy zs
  ext
  refine iM ⟨⟨by show _ < 4096; nofun,by nofun⟩,?_⟩
  have hmz:∀ z ∈ iH zs,Gf z:=fun z hz'=>hz z (fm.mp hz')
  have hpos:1<=(iH zs).length:=by
   have h0:1<=zs.length:=by nofun
   cases zs with
   | nil=>simp at h0
   | cons z zs=>exact List.length_pos_of_mem (fm.mpr (aab ..))
  have hs1:=kG zs
  have hs2:=eC zs
  generalize iH zs=ss at hsub hmz hpos hs1 hs2 ⊢
  obtain ⟨cs,rfl⟩:=lS fun z hz'=>(hmz z hz').1
  have hpw:=nO hs1 hs2
  rw [List.length_map] at hsub hpos
  ext
  have hls:((cs.map fun c=>(⟨#[c]⟩:Str)).map (·.length)).sum=cs.length:=by
   rw [aat]
   exact fj cs
  refine iM ⟨by rw [hls,List.length_map]; show cs.length+cs.length * 0<=_; nofun,?_⟩
  have hg:(Builtin.Str.glued (Str.ofString "") (cs.map fun c=>(⟨#[c]⟩:Str))).cps.toList=cs:=(fP _).trans (ia cs)
  ext
  refine ⟨lez 2,?_⟩
  ext
  refine q _ _ _ _ ⟨by rw [hg]; nofun,by rw [hg]; nofun,by rw [hg]; exact hpw,fun c hc=>?_⟩ (hb4.mono (by nofun))
  rw [hg] at hc
  exact (hmz ⟨#[c]⟩ (List.mem_map.mpr ⟨c,hc,rfl⟩)).2 c (by simp)
theorem mq {n:Int}  (hb:WellB b1 b2 n) (hn:n < 2 ^ 38) (h:∀ (z:Str) (b0' b1' b2':Int),ck z->WellB b1' b2' (n+42)->P (.fz (aG "signs" [z])) [bt b0' b1' b2']) :
  bj [bt b0 b1 b2] P:=by
 unfold bj
 exact ⟨b0,b1,b2,n,rfl,hb,hn,h⟩
def xt (o:OV)(ns:List Str):Prop:=o=.fl (ns.map .str)∨o=.fz (.lst (ns.map .str))
@[irreducible] def aA:Ct:=fun os P=>∃ (b0 b1 b2 n:Int) (ns:List Str) (o:OV),os=[bt b0 b1 b2,o]/\xt o ns/\WellB b1 b2 n/\n < 2 ^ 38/\(∀ z ∈ ns,cJ z)/\ns.length<=20 /\
 ∀ (z:Str) (b0' b1' b2':Int),cJ z->z ∉ ns->WellB b1' b2' (n+13)->P (.fz (.str z)) [bt b0' b1' b2',o]
abbrev jY:Stmt:=top 55
abbrev rM:FS :=
  (aq (cu (fC (.str "abcdefghijklmnopqrstuvwxyz")) (ac 2))
  (aq (cu (al ah (aa (ab 0) (aa (fC (.int 3)) ag))) (ac 3))
  (aq (cu (fOp aIx (ab 2) (al ah (aa (ab 0) (aa (fC (.int 26)) ag)))) (ac 4))
  (aq (cu (uu (fC (.str "")) (bV [2,0] 1 (eQ (aa (fOp gw (fC (.int 1)) (al ah (aa (ab 0) (aa (fC (.int 8)) ag)))) ag)) (ac 0) kf (fOp aIx (ab 3) (al ah (aa (ab 1) (aa (fC (.int 26)) ag)))))) (ac 5))
  (aq (fIf (Co (aP (fOp (g6 (fun i j=>decide (j < i)) fun i j=>aV j i) (ab 3) (fC (.int 0)))) (aP (fOp aNe (ab 1) (i4 ag))))
   (aq (cu (fOp aIx (ab 1) (al ah (aa (ab 0) (aa (fFz (fCB eT (aa (ab 1) ag))) ag)))) (ac 6))
  (aq (cu (al ah (aa (ab 0) (aa (fFz (fOp gw (fCB eT (aa (ab 6) ag)) (fC (.int 1)))) ag))) (ac 7))
  (cu (fSl aSl (fOp gw (fOp gw (fSl aSl (ab 6) eu (ni (ab 7))) (ab 4)) (fSl aSl (ab 6) (ni (fOp (aI0 fun i j=>.int (i - j)) (fOp gw (ab 7) (ab 3)) (fC (.int 1)))) eu)) eu (ni (fC (.int 8)))) (ac 5))))
   aZ)
  (aq (cu (fOp gw (fOp gw (i4 (aa (ab 5) ag)) (bV [2] 1 (eQ (aa (fC (.int 26)) ag)) (ac 0) kf (fOp aIx (ab 3) (ab 0)))) (bV [2] 1 (eQ (aa (fC (.int 26)) ag)) (ac 0) kf (fOp gw (fOp aIx (ab 3) (ab 0)) (fOp aIx (ab 3) (ab 0))))) (ac 8))
  (bx (fOp aIx (bV [1] 1 (ca (ab 8)) (ac 0) (aP (fOp lA (ab 0) (ab 2))) (ab 0)) (fC (.int 0))))))))))
theorem rN:Lh aA 2 [0,1]:=by delta aA
theorem jZ (zs:List Str):okDs (zs.map D.str)=true:=by
 induction zs with
 | nil=>rfl
 | cons z zs ih=>exact ih
theorem gq (zs:List Str):deps (toDVs (zs.map D.str))=0:=by
 induction zs with
 | nil=>rfl
 | cons z zs ih=>exact (Nat.zero_max _).trans ih
theorem wa (zs:List Str):dep (wR (.lst (zs.map D.str)))<=40:=aav (Nat.succ_le_succ (Nat.le_of_eq (gq zs))) (by decide)
theorem wb :Af (.lst (zs.map D.str)) (.lst []):=⟨jZ zs,rfl,wa zs⟩
theorem BX :(!dEq (.lst (zs.map D.str)) (.lst []))=true↔zs≠[]:=by
 cases zs with
 | nil=>exact ⟨fun h=>Bool.noConfusion (show false=true from h),fun h=>absurd rfl h⟩
 | cons z zs=>exact ⟨fun _=>List.cons_ne_nil z zs,fun _=>rfl⟩
abbrev kP:List Str:=abc.cps.toList.map fun c=>⟨#[c]⟩
theorem BY:kP.Nodup:=by decide +kernel
theorem iX:kP.length=26:=by decide +kernel
theorem gr (h:c ∈ abc.cps.toList):xf [c]:=fun d hd=>by
 have:d=c:=(by exists hd)
 rw [this]; exact Bg c h
theorem rO (h:z ∈ kP):cJ z:=by
 obtain ⟨c,hc,rfl⟩:=List.mem_map.mp h
 exact ⟨aae 1,(by decide:(1:Nat)<=8),gr hc⟩
theorem wc (h:ns.length<=20):∃ z ∈ kP,z ∉ ns:=by
 refine Classical.byContradiction fun h'=>?_
 have hs:∀ z ∈ kP,z ∈ ns:=fun z hz=>Classical.byContradiction fun e=>h' ⟨z,hz,e⟩
 have:=abt BY hs
 rw [iX] at this
 nofun
theorem xu (h:i < 26):∃ c,abc.cps.toList[i]?=some c/\c ∈ abc.cps.toList:=by
 have hi:i < abc.cps.toList.length:=by rw [kK]; exact h
 exact ⟨_,List.getElem?_eq_getElem hi,aaP hi⟩
theorem rP:Hh aA rM [0,1] 9:=by
 intro os P h
 unfold aA at h
 obtain ⟨b0,b1,b2,n,ns,o,rfl,ho,hb,hn,hns,hnl,q⟩:=h
 have sz:=c7
 have hn0:0<=n:=Int.le_trans hb.2.2.1 hb.2.2.2
 ext
 refine bw n hb (by nofun) (by decide) (by decide) fun way b0 b1 b2 w0 w1 hb1=>?_
 ext
 refine bw (n+1) hb1 (by nofun) (by decide) (by decide) fun r b0 b1 b2 r0 r1 hb2=>?_
 ext
 refine ⟨by decide +kernel,?_⟩
 refine iL r0 (by rw [show (Str.ofString "abcdefghijklmnopqrstuvwxyz").cps.toList.length=26 from kK]; exact r1) fun c hcm=>?_
 have cl1:=gr hcm
 ext
 refine bw (n+1+1) hb2 (by nofun) (by decide) (by decide) fun r3 b0 b1 b2 r30 r31 hb3=>?_
 ext
 refine ⟨⟨by nofun,by nofun⟩,?_⟩
 ext
 refine aQ (fun i as ρ=>∃ (zs:List Str) (x:Option OV) (b0 b1 b2:Int),as=zs.map .str/\zs.length=i/\(∀ z ∈ zs,z.cps.toList.length=1/\xf z.cps.toList)/\WellB b1 b2 (n+3+i) /\
   ρ=[x,some (bt b0 b1 b2),some o,some (.fz (.str abc)),some (.fz (.int way)),some (.fz (.str ⟨#[c]⟩)),none,none,none,none])
  ⟨[],none,b0,b1,b2,rfl,rfl,(fun _ h=>by cases h),hb3.mono (by nofun),rfl⟩ ?_ ?_
 ·rintro i d as ρ R hd ⟨zs,x,b0,b1,b2,rfl,hl,hz,hb4,rfl⟩ k
  obtain ⟨hi,rfl⟩:=bO hd
  ext
  refine dE ?_
  ext
  refine bw _ hb4 (by nofun) (by decide) (by decide) fun r5 b0 b1 b2 r50 r51 hb5=>?_
  ext
  refine ⟨by decide +kernel,?_⟩
  refine iL r50 (by rw [show (Str.ofString "abcdefghijklmnopqrstuvwxyz").cps.toList.length=26 from kK]; exact r51) fun e hem=>?_
  ext
  refine ⟨by rw [List.length_map]; nofun,k _ _ ⟨zs++[⟨#[e]⟩],some (.fz (.int (0+i))),b0,b1,b2,by rw [aag]; rfl,by simp [hl],fun z hz'=>?_,hb5.mono (by nofun),rfl⟩⟩
  rcases List.mem_append.mp hz' with h | h
  ·exact hz z h
  ·have:z=⟨#[e]⟩:=(by exists h)
   rw [this]
   exact ⟨rfl,gr hem⟩
 ·rintro as ρ ⟨zs,x,b0,b1,b2,rfl,hl,hz,hb4,rfl⟩
  rw [b7] at hl hb4
  have hlz:(zs.map fun z=>z.cps.toList).flatten.length=zs.length:=by
   rw [List.length_flatten,aat]
   have:zs.map ((fun l:List Nat=>l.length) ∘ fun z:Str=>z.cps.toList)=zs.map fun _=>1:=aa2 fun z hz'=>(hz z hz').1
   rw [show (List.map (List.length ∘ fun z:Str=>z.cps.toList) zs)=zs.map fun _=>1 from this]
   exact fj zs
  have hls:(zs.map (·.length)).sum=zs.length:=by
   have:zs.map (·.length)=zs.map fun _=>1:=aa2 fun z hz'=>by rw [bR]; exact (hz z hz').1
   rw [this]
   exact fj zs
  have hg:(Builtin.Str.glued (Str.ofString "") zs).cps.toList=(zs.map fun z=>z.cps.toList).flatten:=fP zs
  have hN:cJ (Builtin.Str.glued (Str.ofString "") zs):=by
   refine ⟨by rw [hg,hlz]; nofun,by rw [hg,hlz]; nofun,?_⟩
   rw [hg]
   intro y hy
   obtain ⟨l,hl',hy'⟩:=List.mem_flatten.mp hy
   obtain ⟨z,hz',rfl⟩:=List.mem_map.mp hl'
   exact (hz z hz').2 y hy'
  ext
  refine iM ⟨by rw [hls]; show zs.length+zs.length * 0<=_; nofun,?_⟩
  generalize Builtin.Str.glued (Str.ofString "") zs=nm at hN ⊢
  ext
  refine gl (fun ρ=>∃ (z:Str) (b0 b1 b2:Int) (x6 x7:Option OV),cJ z/\WellB b1 b2 (n+13)/\ρ=[some (bt b0 b1 b2),some o,some (.fz (.str abc)),some (.fz (.int way)),some (.fz (.str ⟨#[c]⟩)),some (.fz (.str z)),x6,x7,none]) ?_ ?_
  ·rintro ρ ⟨z,b0,b1,b2,x6,x7,hz,hb,rfl⟩
   ext
   refine ⟨lez 1,?_⟩
   ext
   refine ⟨⟨by decide,by decide⟩,?_⟩
   ext
   refine aQ (fun i as ρ=>∃ (x:Option OV),as=(kP.take i).map .str/\ρ=[x,some (bt b0 b1 b2),some o,some (.fz (.str abc)),some (.fz (.int way)),some (.fz (.str ⟨#[c]⟩)),some (.fz (.str z)),x6,x7,none]) ⟨none,rfl,rfl⟩ ?_ ?_
   ·rintro i d as ρ R hd ⟨x,rfl,rfl⟩ k
    obtain ⟨hi,rfl⟩:=bO hd
    obtain ⟨e,he,hem⟩:=xu (i:=i) (by nofun)
    have ea:atI abc.cps.toList ((0:Int)+i)=some e:=by rw [Int.zero_add]; exact cp he
    ext
    refine dE ?_
    ext
    refine ⟨by decide +kernel,?_⟩
    rw [ea]
    ext
    refine ⟨by rw [List.length_map,aao]; nofun,k _ _ ⟨_,?_,rfl⟩⟩
    rw [aar,List.getElem?_map,he,aag]
    rfl
   ·rintro as ρ ⟨x,rfl,rfl⟩
    rw [b7,show kP.take (26:Int).toNat=kP from by decide +kernel]
    ext
    refine ⟨by show 1+(kP.map D.str).length<=sizeLine; rw [List.length_map,iX]; nofun,?_⟩
    ext
    refine ⟨⟨by decide,by decide⟩,?_⟩
    ext
    refine aQ (fun i as ρ=>∃ (x:Option OV) (ws:List Str),as=ws.map .str/\ws.length=i/\(∀ y ∈ ws,cJ y)/\ρ=[x,some (bt b0 b1 b2),some o,some (.fz (.str abc)),some (.fz (.int way)),some (.fz (.str ⟨#[c]⟩)),some (.fz (.str z)),x6,x7,none]) ⟨none,[],rfl,rfl,(fun _ h=>nomatch h),rfl⟩ ?_ ?_
    ·rintro i d as ρ R hd ⟨x,ws,rfl,hwl,hws,rfl⟩ k
     obtain ⟨hi,rfl⟩:=bO hd
     obtain ⟨e,he,hem⟩:=xu (i:=i) (by nofun)
     have ea:atI abc.cps.toList ((0:Int)+i)=some e:=by rw [Int.zero_add]; exact cp he
     ext
     refine dE ?_
     ext
     refine ⟨by decide +kernel,?_⟩
     rw [ea]
     ext
     refine ⟨by decide +kernel,?_⟩
     rw [ea]
     ext
     refine ⟨by show 1+1<=sizeLine; nofun,?_⟩
     ext
     refine ⟨by rw [List.length_map]; nofun,k _ _ ⟨_,ws++[⟨#[e]⟩++⟨#[e]⟩],by rw [aag]; rfl,by rw [aai,hwl]; rfl,fun y hy=>?_,rfl⟩⟩
     rcases List.mem_append.mp hy with h | h
     ·exact hws y h
     ·rw [List.mem_singleton.mp h]
      exact ⟨(by decide:(1:Nat)<=2),(by decide:(2:Nat)<=8),iR (gr hem) (gr hem)⟩
    ·rintro as ρ ⟨x,ws,rfl,hwl,hws,rfl⟩
     rw [b7] at hwl
     have eL:[D.str z]++kP.map D.str++ws.map D.str=(z::(kP++ws)).map D.str:=by rw [List.map_cons,aag]; rfl
     have hL1:∀ y ∈ z::(kP++ws),cJ y:=fun y hy=>by
      rcases List.mem_cons.mp hy with rfl | hy
      ·exact hz
      ·rcases List.mem_append.mp hy with hy | hy
       ·exact rO hy
       ·exact hws y hy
     have hL2:∃ y ∈ z::(kP++ws),y ∉ ns:=by
      obtain ⟨y,hy,hn⟩:=wc hnl
      exact ⟨y,aad _ (aaw _ hy),hn⟩
     have hL3:(z::(kP++ws)).length<=60:=by rw [List.length_cons,aai,iX]; nofun
     ext
     refine ⟨by rw [← aai,eL,List.length_map]; nofun,?_⟩
     rw [eL]
     generalize z::(kP++ws)=L at hL1 hL2 hL3
     ext
     refine aQ (fun i as ρ=>∃ (x:Option OV),as=((L.take i).filter fun y=>decide (y ∉ ns)).map .str/\ρ=[x,some (bt b0 b1 b2),some o,some (.fz (.str abc)),some (.fz (.int way)),some (.fz (.str ⟨#[c]⟩)),some (.fz (.str z)),x6,x7,some (.fz (.lst (L.map .str)))]) ⟨none,rfl,rfl⟩ ?_ ?_
     ·rintro i d as ρ R hd ⟨x,rfl,rfl⟩ k
      obtain ⟨y,hy,rfl⟩:∃ y,L[i]?=some y/\d=.str y:=by
       rw [List.getElem?_map,aam] at hd
       obtain ⟨r,h1,h2⟩:=hd
       exact ⟨r,h1,h2.symm⟩
      have hfl:=aaY (fun y=>decide (y ∉ ns)) (L.take i)
      rw [aao] at hfl
      rcases ho with rfl | rfl
      all_goals
       ext
       refine ⟨⟨rfl,ux ns⟩,?_⟩
       ext
       refine az (y ∉ ns) (by rw [aaS,Bool.eq_false_iff,Ne,dN]) (fun hp=>?_) (fun hp=>?_)
       ·ext
        refine ⟨by rw [List.length_map]; nofun,k _ _ ⟨_,?_,rfl⟩⟩
        rw [aar,hy,aaO,aag]
        simp [hp]
       ·refine k _ _ ⟨_,?_,rfl⟩
        rw [aar,hy,aaO,aag]
        have hp':=Classical.not_not.mp hp
        simp [hp']
     ·rintro as ρ ⟨x,rfl,rfl⟩
      rw [List.length_map,aal (aae _)]
      obtain ⟨y,r,e⟩:∃ y r,L.filter (fun y=>decide (y ∉ ns))=y::r:=by
       cases h:L.filter (fun y=>decide (y ∉ ns)) with
       | nil =>
        obtain ⟨y,hy,hn⟩:=hL2
        have:y ∈ L.filter (fun y=>decide (y ∉ ns)):=List.mem_filter.mpr ⟨hy,decide_eq_true hn⟩
        rw [h] at this; cases this
       | cons y r=>exact ⟨y,r,rfl⟩
      have hm:y ∈ L.filter (fun y=>decide (y ∉ ns)):=by rw [e]; exact aab ..
      obtain ⟨m1,m2⟩:=List.mem_filter.mp hm
      rw [e,List.map_cons]
      ext
      refine cI ?_
      ext
      exact q _ _ _ _ (hL1 y m1) (of_decide_eq_true m2) hb
  ·intro af
   ext
   refine az (0 < way) decide_eq_true_iff (fun hw=>?_) (fun hw=>?_)
   ·rcases ho with rfl | rfl
    all_goals
     ext
     refine ⟨aaq _,?_⟩
     ext
     refine ⟨wb,?_⟩
     ext
     refine az (ns≠[]) BX (fun hne=>?_) (fun hne=>af _ ⟨nm,b0,b1,b2,_,_,hN,hb4.mono (by nofun),rfl⟩)
     have hlp:0 < ns.length:=List.length_pos_iff.mpr hne
     have hlm:(ns.map D.str).length=ns.length:=List.length_map ..
     ext
     refine bw _ hb4 (by nofun) (by nofun) (by nofun) fun r6 b0 b1 b2 r60 r61 hb6=>?_
     ext
     refine iK r60 (by nofun) fun d hd=>?_
     obtain ⟨old,ho,rfl⟩:=List.mem_map.mp hd
     obtain ⟨o1,o2,o3⟩:=hns old ho
     have hol:old.length=old.cps.toList.length:=bR old
     ext
     refine ⟨by nofun,?_⟩
     ext
     refine bw _ hb6 (by nofun) (by nofun) (by nofun) fun at' b0 b1 b2 a0 a1 hb7=>?_
     obtain ⟨k,rfl⟩:=Int.eq_ofNat_of_zero_le a0
     ext
     refine ⟨by nofun,?_⟩
     have hy1:=(iS old none (some (k:Int))).trans (o5 old.cps.toList k)
     have l1:(iE old none (some (k:Int))).length=k:=by rw [o7 hy1,aao]; nofun
     ext
     refine ⟨by rw [l1]; show k+1<=sizeLine; nofun,?_⟩
     ext
     refine ⟨by nofun,?_⟩
     obtain ⟨j,ej⟩:∃ j:Nat,(k:Int)+way - 1=j:=⟨((k:Int)+way - 1).toNat,by nofun⟩
     have hy2:(iE old (some ((k:Int)+way - 1)) none).cps.toList=old.cps.toList.drop j:=(iS ..).trans (by rw [ej]; exact jr ..)
     have l2:(iE old (some ((k:Int)+way - 1)) none).length=old.cps.toList.length - j:=by rw [o7 hy2,abv]
     have l12:(iE old none (some (k:Int))++(⟨#[c]⟩:Str)).length=k+1:=by rw [bR,ef,aai,← bR,l1]; rfl
     ext
     refine ⟨by rw [l12,l2]; nofun,?_⟩
     have l3:(iE old none (some (k:Int))++(⟨#[c]⟩:Str)++iE old (some ((k:Int)+way - 1)) none).length=k+1+(old.cps.toList.length - j):=by rw [bR,ef,aai,← bR,← bR,l12,l2]
     have h3:xf (iE old none (some (k:Int))++(⟨#[c]⟩:Str)++iE old (some ((k:Int)+way - 1)) none).cps.toList:=by
      rw [ef,ef,hy1,hy2]
      exact iR (iR (fun d hd=>o3 d (List.mem_of_mem_take hd)) cl1) fun d hd=>o3 d (List.mem_of_mem_drop hd)
     generalize iE old none (some (k:Int))++(⟨#[c]⟩:Str)++iE old (some ((k:Int)+way - 1)) none=y at l3 h3 ⊢
     ext
     refine ⟨by nofun,?_⟩
     have hy4:=(iS y none (some ((8:Nat):Int))).trans (o5 y.cps.toList 8)
     have hyl:=bR y
     refine af _ ⟨iE y none (some 8),b0,b1,b2,_,_,⟨?_,?_,?_⟩,hb7.mono (by nofun),rfl⟩
     ·exact (by rw [hy4,aao]; nofun:1<=(iE y none (some ((8:Nat):Int))).cps.toList.length)
     ·exact (by rw [hy4,aao]; nofun:(iE y none (some ((8:Nat):Int))).cps.toList.length<=8)
     ·exact fun d hd=>h3 d (tF (by rw [← iS]; exact hd))
   ·ext
    exact de (af _ ⟨nm,b0,b1,b2,_,_,hN,hb4.mono (by nofun),rfl⟩)
theorem ii (n:Int){o:OV}(ho:xt o ns)(hb:WellB b1 b2 n)(hn:n < 2 ^ 38)(hns:∀ z ∈ ns,cJ z)(hl:ns.length<=20)(h:∀ (z:Str) (b0' b1' b2':Int),cJ z->z ∉ ns->WellB b1' b2' (n+13)->P (.fz (.str z)) [bt b0' b1' b2',o]):aA [bt b0 b1 b2,o] P:=by
 unfold aA
 exact ⟨b0,b1,b2,n,ns,o,rfl,ho,hb,hn,hns,hl,h⟩
def j1 (w:Str)(af:List Str):Prop:=((w = "none" ∨ w = "any")/\af=[])∨(w = "signs" /\ ∃ z,af=[z]/\ck z)
abbrev ce (rows:List Rw):OV:=.fd ((rows.map (·.1)).map Sum.inr) (rows.map fun r=>aG r.2.1 r.2.2)
@[irreducible] def bI:Ct:=fun os P=>∃ (b0 b1 b2 n:Int) (rows:List Rw),os=[bt b0 b1 b2,ce rows,.fz (.int 12)]/\WellB b1 b2 n/\n < 2 ^ 38/\(∀ r ∈ rows,j1 r.2.1 r.2.2)/\rows.length<=20 /\
 ∀ (z:Str) (b0' b1' b2':Int),z.length<=12->(∀ c ∈ z.cps.toList,32<=c/\c<=126/\c≠37)->WellB b1' b2' (n+40)->P (.fz (.str z)) [bt b0' b1' b2',ce rows,.fz (.int 12)]
abbrev xv:Stmt:=top 58
abbrev Gj:FS :=
  (aq (cu (uu (fC (.str "")) (qu [] 1 1 (ac 0) (aP (fOp aEq (fOp aIx (ab 0) (fC (.int 0))) (fC (.str "signs")))) (fOp aIx (ab 0) (fC (.int 1))))) (ac 3))
  (aq (cu (fC (.str "")) (ac 4))
  (aq (pR (eQ (aa (al ah (aa (ab 0) (aa (fFz (fOp gw (ab 2) (fC (.int 1)))) ag))) ag)) (ac 5)
   (aq (cu (al bv (aa (ab 0) ag)) (ac 6))
  (aq (fIf (Co (aP (fOp aNe (ab 3) (fC (.str "")))) (aP (fOp (g6 (fun i j=>decide (j < i)) fun i j=>aV j i) (al ah (aa (ab 0) (aa (fC (.int 8)) ag))) (fC (.int 0)))))
   (cu (fOp aIx (ab 3) (al ah (aa (ab 0) (aa (fFz (fCB eT (aa (ab 3) ag))) ag)))) (ac 6))
   aZ)
  (cu (fOp gw (ab 4) (ab 6)) (ac 4)))))
  (bx (ab 4)))))
theorem Gk:Lh bI 3 [0,1]:=by delta bI
theorem mr:∀ {zs:List Str},(∀ y ∈ zs,ck y)->(zs.map (·.length)).sum<=40 * zs.length
 | [],_=>aae _
 | z::zs,h=>by
  have h1:=(h z (aab ..)).2.1
  have h2:=mr (zs:=zs) fun y hy=>h y (aad _ hy)
  have h3:=bR z
  rw [List.map_cons,List.sum_cons,List.length_cons]
  nofun
theorem BZ (h:∀ y ∈ zs,ck y):∀ c ∈ (zs.map fun z=>z.cps.toList).flatten,32<=c/\c<=126/\c≠37:=fun c hc=>by
 obtain ⟨l,hl,hy⟩:=List.mem_flatten.mp hc
 obtain ⟨z,hz,rfl⟩:=List.mem_map.mp hl
 exact (h z hz).2.2.2 c hy
theorem rQ:∀ {zs:List Str},(∀ y ∈ zs,ck y)->(zs.map fun z=>z.cps.toList).flatten.length<=40 * zs.length
 | [],_=>aae _
 | z::zs,h=>by
  have h1:=(h z (aab ..)).2.1
  have h2:=rQ (zs:=zs) fun y hy=>h y (aad _ hy)
  rw [List.map_cons,List.flatten_cons,aai,List.length_cons]
  nofun
theorem Gm:Hh bI Gj [0,1] 7:=by
 intro os P h
 unfold bI at h
 obtain ⟨b0,b1,b2,n,rows,rfl,hb,hn,hr,hl,q⟩:=h
 have sz:=c7
 have hn0:0<=n:=Int.le_trans hb.2.2.1 hb.2.2.2
 ext
 refine aQ (fun i as ρ=>∃ (x:Option OV) (zs:List Str),as=zs.map .str/\zs.length<=i/\(∀ y ∈ zs,ck y)/\ρ=[x,fzo (some (bt b0 b1 b2)),some (.fz (.dct ((rows.map (·.1)).map Sum.inr) (rows.map fun r=>aG r.2.1 r.2.2))),fzo (some (.fz (.int 12))),fzo none,fzo none,fzo none,fzo none])
  ⟨none,[],rfl,aae _,(fun _ h=>nomatch h),rfl⟩ ?_ ?_
 ·rintro i d as ρ R hd ⟨x,zs,rfl,hzl,hz,rfl⟩ k
  obtain ⟨r,hri,rfl⟩:∃ r,rows[i]?=some r/\d=aG r.2.1 r.2.2:=by
   have hd:(rows.map fun r=>aG r.2.1 r.2.2)[i]?=some d:=hd
   rw [List.getElem?_map,aam] at hd
   obtain ⟨r,h1,h2⟩:=hd
   exact ⟨r,h1,h2.symm⟩
  have hi:=(List.getElem?_eq_some_iff.mp hri).1
  ext
  refine cI ?_
  ext
  refine ⟨aH,?_⟩
  ext
  refine az (r.2.1 = "signs") bA (fun hw=>?_) (fun hw=>?_)
  ·obtain ⟨y,hy,hs⟩:∃ y,r.2.2=[y]/\ck y:=by
    rcases hr r (List.mem_of_getElem? hri) with ⟨h,_⟩ | ⟨_,h⟩
    ·rw [hw] at h; exact absurd h (by decide)
    ·exact h
   rw [hy]
   ext
   refine ⟨by rw [List.length_map]; nofun,k _ _ ⟨_,zs++[y],by rw [aag]; rfl,by rw [aai,aa8]; nofun,fun v hv=>?_,rfl⟩⟩
   rcases List.mem_append.mp hv with h | h
   ·exact hz v h
   ·rw [List.mem_singleton.mp h]; exact hs
  ·exact k _ _ ⟨_,zs,rfl,by nofun,hz,rfl⟩
 ·rintro as ρ ⟨x,zs,rfl,hzl,hz,rfl⟩
  have hzl':zs.length<=20:=by
   have e:(Il ((rows.map (·.1)).map Sum.inr) (rows.map fun r=>aG r.2.1 r.2.2)).length=rows.length:=by show (rows.map _).length=_; rw [List.length_map]
   rw [e] at hzl; nofun
  have h1:=mr hz
  have hg:(Builtin.Str.glued (Str.ofString "") zs).cps.toList=(zs.map fun z=>z.cps.toList).flatten:=fP zs
  have h2:=rQ hz
  have h3:=BZ hz
  rw [← hg] at h2 h3
  refine ⟨⟨_,rfl⟩,?_⟩
  ext
  refine iM ⟨by show _+zs.length * 0<=_; nofun,?_⟩
  generalize Builtin.Str.glued (Str.ofString "") zs=own at h2 h3 ⊢
  have hol:=bR own
  ext
  refine bw n hb (by nofun) (by decide) (by decide) fun m b0 b1 b2 m0 m1 hb1=>?_
  ext
  refine ⟨⟨by nofun,by nofun⟩,?_⟩
  ext
  refine b6 (fun i ρ=>∃ (t:Str) (x5 x6:Option OV) (b0 b1 b2:Int),t.cps.toList.length=i/\(∀ c ∈ t.cps.toList,32<=c/\c<=126/\c≠37)/\WellB b1 b2 (n+1+3 * i)/\ρ=[some (bt b0 b1 b2),some (ce rows),some (.fz (.int 12)),some (.fz (.str own)),some (.fz (.str t)),x5,x6])
   ⟨"", _,_,b0,b1,b2,rfl,(fun _ h=>nomatch h),hb1.mono (by nofun),rfl⟩ ?_ ?_
  ·rintro i d ρ R hd ⟨t,x5,x6,b0,b1,b2,htl,ht,hb2,rfl⟩ k
   obtain ⟨hi,rfl⟩:=bO hd
   have htl':=bR t
   ext
   refine mo _ hb2 (by nofun) fun c b0 b1 b2 hc hb3=>?_
   have hcs:=lR c hc
   ext
   refine gl (fun ρ=>∃ (c:Nat) (b0 b1 b2:Int),(32<=c/\c<=126/\c≠37)/\WellB b1 b2 (n+1+3 * i+3)/\ρ=[some (bt b0 b1 b2),some (ce rows),some (.fz (.int 12)),some (.fz (.str own)),some (.fz (.str t)),some (.fz (.int (0+i))),some (.fz (.str ⟨#[c]⟩))]) ?_ ?_
   ·rintro ρ ⟨c,b0,b1,b2,hc,hb4,rfl⟩
    ext
    refine ⟨by show t.length+1<=sizeLine; nofun,?_⟩
    refine k _ ⟨t++⟨#[c]⟩,_,_,b0,b1,b2,by rw [ef,aai,htl]; rfl,fun e he=>?_,hb4.mono (by nofun),rfl⟩
    rw [ef] at he
    rcases List.mem_append.mp he with h | h
    ·exact ht e h
    ·have:e=c:=(by exists h)
     rw [this]; exact hc
   ·intro af
    ext
    refine ⟨aH,?_⟩
    ext
    refine az (own ≠ "") uw (fun h0=>?_) (fun _=>?_)
    ·have hop:0 < own.cps.toList.length:=by
      refine Nat.pos_of_ne_zero fun z=>h0 (fO ?_)
      rw [aau z]
      rfl
     ext
     refine bw _ hb3 (by nofun) (by decide) (by decide) fun r4 b0 b1 b2 r40 r41 hb4=>?_
     ext
     refine az (0 < r4) decide_eq_true_iff (fun _=>?_) (fun _=>?_)
     ·ext
      refine ⟨by nofun,?_⟩
      ext
      refine bw _ hb4 (by nofun) (by nofun) (by nofun) fun r5 b0 b1 b2 r50 r51 hb5=>?_
      ext
      refine ⟨by nofun,?_⟩
      refine iL r50 (by nofun) fun e he=>?_
      exact af _ ⟨e,b0,b1,b2,h3 e he,hb5.mono (by nofun),rfl⟩
     ·exact af _ ⟨c,b0,b1,b2,hcs,hb4.mono (by nofun),rfl⟩
    ·ext
     exact de (af _ ⟨c,b0,b1,b2,hcs,hb3.mono (by nofun),rfl⟩)
  ·rintro ρ ⟨t,x5,x6,b0,b1,b2,htl,ht,hb2,rfl⟩
   rw [b7] at htl hb2
   ext
   exact q t b0 b1 b2 (by rw [bR]; nofun) ht (hb2.mono (by nofun))
theorem B5 (n:Int)(hb:WellB b1 b2 n)(hn:n < 2 ^ 38)(hr:∀ r ∈ rows,j1 r.2.1 r.2.2)(hl:rows.length<=20)(h:∀ (z:Str) (b0' b1' b2':Int),z.length<=12->(∀ c ∈ z.cps.toList,32<=c/\c<=126/\c≠37)->WellB b1' b2' (n+40)->P (.fz (.str z)) [bt b0' b1' b2',ce rows,.fz (.int 12)]):bI [bt b0 b1 b2,ce rows,.fz (.int 12)] P:=by
 unfold bI
 exact ⟨b0,b1,b2,n,rows,rfl,hb,hn,hr,hl,h⟩
def dS (rows:List Rw)(n:Str):Option Rw:=rows.find? fun r=>decide (r.1=n)
theorem di (h:n ∈ rows.map (·.1)):∃ r ∈ rows,r.1=n/\dS rows n=some r:=by
 obtain ⟨r,hr,e⟩:=List.mem_map.mp h
 cases q:dS rows n with
 | none =>
  have:=List.find?_eq_none.mp q r hr
  simp [e] at this
 | some r' =>
  have h1:=List.find?_some q
  exact ⟨r',List.mem_of_find?_eq_some q,of_decide_eq_true h1,rfl⟩
def bz (rows:List Rw):List Rw:=(cS (rows.map (·.1))).filterMap (dS rows)
@[irreducible] def aY:Ct:=fun os P=>∃ rows:List Rw,os=[ce rows]/\(rows.map (·.1)).Nodup/\rows.length<=20/\P (.fl ((bz rows).map dg)) os
abbrev ms:Stmt:=top 59
abbrev we:FS :=
  (bx (bV [0] 1 (ca (fCB hU (aa (ab 0) ag))) (ac 0) kf (ln (aa (ab 0) (aa (fOp aIx (ab 1) (ab 0)) ag)))))
theorem wf:Lh aY 1 [0]:=by delta aY
theorem eK (h:dS rows n=some r):dF ((rows.map (·.1)).map Sum.inr) (rows.map fun r=>aG r.2.1 r.2.2) (.inr n)=some (aG r.2.1 r.2.2):=by
 unfold dS at h
 induction rows with
 | nil=>cases h
 | cons a rows ih =>
  unfold dF at ih ⊢
  rw [List.map_cons,List.map_cons,List.map_cons,List.zip_cons_cons,List.find?_cons]
  rw [List.find?_cons] at h
  by_cases e:a.1=n
  ·rw [decide_eq_true e] at h
   cases h
   rw [decide_eq_true (congrArg Sum.inr e)]
   rfl
  ·rw [decide_eq_false e] at h
   rw [show decide ((Sum.inr a.1:Key)=Sum.inr n)=false from decide_eq_false fun z=>e (abq z)]
   exact ih h
theorem B6 {f:α->Option β}{l:List α}{a:α}{b:β}(h:l[i]?=some a)(hf:f a=some b):(l.take (i+1)).filterMap f=(l.take i).filterMap f++[b]:=by
 rw [aar,h,List.filterMap_append]
 simp [hf]
theorem wg:Hh aY we [0] 1:=by
 intro os P h
 unfold aY at h
 obtain ⟨rows,rfl,nd,hl,q⟩:=h
 have sz:=c7
 ext
 refine jK (by rw [List.length_map]; nofun) ?_
 have hsl:(cS (rows.map (·.1))).length=rows.length:=by rw [(bc _).length_eq,List.length_map]
 have hsm:∀ z ∈ cS (rows.map (·.1)),z ∈ rows.map (·.1):=fun z hz=>(bc _).mem_iff.mp hz
 unfold bz at q
 generalize cS (rows.map (·.1))=ss at hsl hsm q ⊢
 ext
 refine aQ (fun i as ρ=>∃ (x:Option OV),as=((ss.take i).filterMap (dS rows)).map dg/\ρ=[x,some (ce rows)]) ⟨none,rfl,rfl⟩ ?_ ?_
 ·rintro i d as ρ R hd ⟨x,rfl,rfl⟩ k
  obtain ⟨z,hz,rfl⟩:∃ y,ss[i]?=some y/\d=.str y:=by
   rw [List.getElem?_map,aam] at hd
   obtain ⟨r,h1,h2⟩:=hd
   exact ⟨r,h1,h2.symm⟩
  obtain ⟨r,hr,rfl,e⟩:=di (hsm z (List.mem_of_getElem? hz))
  have hfl:=List.length_filterMap_le (dS rows) (ss.take i)
  rw [aao] at hfl
  ext
  refine dE ?_
  ext
  rw [eK e]
  ext
  refine ⟨lez 2,?_⟩
  ext
  refine ⟨by rw [List.length_map]; nofun,k _ _ ⟨_,?_,rfl⟩⟩
  rw [B6 hz e,aag]
  rfl
 ·rintro as ρ ⟨x,rfl,rfl⟩
  rw [List.length_map,aal (aae _)]
  ext
  exact q
theorem j2 (nd:(rows.map (·.1)).Nodup)(hl:rows.length<=20)(h:P (.fl ((bz rows).map dg)) [ce rows]):aY [ce rows] P:=by
 unfold aY
 exact ⟨rows,rfl,nd,hl,h⟩
theorem eX :(bz rows).map (·.1)=cS (rows.map (·.1)):=by
 unfold bz
 have hsm:∀ z ∈ cS (rows.map (·.1)),z ∈ rows.map (·.1):=fun z hz=>(bc _).mem_iff.mp hz
 generalize cS (rows.map (·.1))=ss at hsm ⊢
 induction ss with
 | nil=>rfl
 | cons z ss ih =>
  obtain ⟨r,hr,e1,e⟩:=di (hsm z (aab ..))
  rw [abg,e]
  show r.1::_=_
  rw [ih fun y hy=>hsm y (aad _ hy),e1]
theorem b8 (h:r ∈ bz rows):r ∈ rows:=by
 unfold bz at h
 obtain ⟨n,_,e⟩:=List.mem_filterMap.mp h
 exact List.mem_of_find?_eq_some e
theorem wj {a:Str}(h:cf a b=true)(ne:a≠b):aV a b=true:=by
 cases e:aV a b with
 | true=>rfl
 | false=>exact absurd (eA h (by show (!aV a b)=true; rw [e]; rfl)) ne
structure RulesL (rows:List Rw):Prop where
 nd:(rows.map (·.1)).Nodup
 ok:∀ r ∈ rows,cJ r.1/\j1 r.2.1 r.2.2
 few:rows.length<=20
theorem j3 {w:Str}{af:List Str}(h:j1 w af):Ft [] w af:=by
 rcases h with h | h
 ·exact .inl h
 ·exact .inr (.inl h)
theorem kQ {w:Str}{af:List Str}(h:j1 w af):bB zs w af=[]:=by
 unfold bB b5
 rcases h with ⟨h,rfl⟩ | ⟨rfl,_⟩
 ·rcases h with rfl | rfl
  ·rw [if_neg (by decide),if_neg (by decide)]
  ·rw [if_neg (by decide),if_neg (by decide)]
 ·rw [if_neg (by decide),if_pos rfl]
theorem kS (R:RulesL rows):BookR (bz rows):=by
 have hn:=eX (rows:=rows)
 have hnd:((bz rows).map (·.1)).Nodup:=by rw [hn]; exact (bc _).nodup_iff.mpr R.nd
 have hl:(bz rows).length=rows.length:=by
  have:=congrArg List.length hn
  rw [List.length_map,(bc _).length_eq,List.length_map] at this
  exact this
 refine ⟨⟨hnd,fun r hr=>?_,by rw [hl]; have:=R.few; nofun,⟨[],aaq _,fun r hr=>⟨(fun _ h=>nomatch h),j3 (R.ok r (b8 hr)).2⟩⟩⟩,fun i r s hr hs=>?_,fun zs _ S hS=>?_⟩
 ·have:=R.ok r (b8 hr)
  exact ⟨this.1,[],(fun _ h=>nomatch h),j3 this.2⟩
 ·have h1:((bz rows).map (·.1))[i]?=some r.1:=by rw [List.getElem?_map,hr]; rfl
  have h2:((bz rows).map (·.1))[i+1]?=some s.1:=by rw [List.getElem?_map,hs]; rfl
  have hs:=ci (rows.map (·.1))
  rw [← hn] at hs
  obtain ⟨g1,e1⟩:=List.getElem?_eq_some_iff.mp h1
  obtain ⟨g2,e2⟩:=List.getElem?_eq_some_iff.mp h2
  have hle:=List.pairwise_iff_getElem.mp hs i (i+1) g1 g2 (aaG i)
  have hne:=List.pairwise_iff_getElem.mp hnd i (i+1) g1 g2 (aaG i)
  rw [e1,e2] at hle hne
  exact wj hle hne
 ·cases S with
  | nil=>rfl
  | cons n S =>
   obtain ⟨r,hr,_,p,hp,_⟩:=hS n (aab ..)
   rw [kQ (R.ok r (b8 hr)).2] at hp
   cases hp
def cn (rows:List Rw)(n:Str):Leaf:=match dS rows n with
 | none=>.lack
 | some r=>if r.2.1 = "none" then .none else if r.2.1 = "any" then .any else match r.2.2 with
  | [z]=>.signs z
  | _=>.lack
theorem wl (h:dS rows n=some r)(hr:j1 r.2.1 r.2.2):c8 (cn rows n)=aG r.2.1 r.2.2:=by
 unfold cn
 rw [h]
 rcases hr with ⟨h | h,e⟩ | ⟨h,z,e,_⟩
 ·simp only [h,e,if_true]; rfl
 ·simp only [h,e]; rfl
 ·simp only [h,e]; rfl
theorem j4 (R:RulesL rows):dS (bz rows) n=dS rows n:=by
 by_cases h:n ∈ rows.map (·.1)
 ·obtain ⟨r,hr,e1,e⟩:=di h
  obtain ⟨r',hr',e1',e'⟩:=di (rows:=bz rows) (n:=n) (by rw [eX]; exact (bc _).mem_iff.mpr h)
  rw [e,e',xm R.nd hr (b8 hr') (e1'.trans e1.symm)]
 ·have g:∀ rs:List Rw,(∀ r ∈ rs,r ∈ rows)->dS rs n=none:=fun rs hs=>List.find?_eq_none.mpr fun r hr=>by
   have:r.1≠n:=fun e=>h (List.mem_map.mpr ⟨r,hs r hr,e⟩)
   simpa using this
  rw [g _ fun r hr=>b8 hr,g _ fun r hr=>hr]
theorem j5 {rs:List Rw}(hno:∀ r ∈ rs,r.1≠n):dF ((rs.map (·.1)).map Sum.inr) (rs.map fun r=>aG r.2.1 r.2.2) (.inr n)=none:=by
 induction rs with
 | nil=>rfl
 | cons a rs ih =>
  unfold dF at ih ⊢
  rw [List.map_cons,List.map_cons,List.map_cons,List.zip_cons_cons,List.find?_cons]
  rw [show decide ((Sum.inr a.1:Key)=Sum.inr n)=false from decide_eq_false fun z=>hno a (aab ..) (abq z)]
  exact ih fun r hr=>hno r (aad _ hr)
theorem dU (R:RulesL rows):ie (bz rows) n (cn rows n):=by
 have hk:ksR (bz rows)=((bz rows).map (·.1)).map Sum.inr:=by unfold ksR rsR; rw [aat,aat]; rfl
 have hd:dsR (bz rows)=(bz rows).map fun r=>aG r.2.1 r.2.2:=aat ..
 unfold ie
 rw [hk,hd]
 cases e:dS rows n with
 | some r =>
  rw [eK (by rw [j4 R]; exact e),wl e (R.ok r (List.mem_of_find?_eq_some e)).2]
  rfl
 | none =>
  have e2:cn rows n=.lack:=by unfold cn; rw [e]
  rw [e2]
  have hno:∀ r ∈ bz rows,r.1≠n:=fun r hr h=>by
   have:=List.find?_eq_none.mp e r (b8 hr)
   simp [h] at this
  rw [j5 hno]
  rfl
abbrev dW (lo:Option Int)(n:Str):D:=.tup [lT lo,.int 1,.lst [],.lst [.str n]]
@[irreducible] def bJ:Ct:=fun os P=>∃ (lo:Option Int) (n:Str),os=[.fz (dW lo n),.fz (dW lo n)]/\P (.fz (.bl true)) os
abbrev xw:Stmt:=top 60
abbrev Gn:FS :=
  (aq (fIf (fOr (jw (dD (fCB cIs (aa (ab 0) (aa (fC (.ty "tuple")) ag))))) (fOr (aP (fOp aNe (fCB eT (aa (ab 0) ag)) (fC (.int 4)))) (aP (fOp aNe (ab 0) (ab 1)))))
   (bx (fC (.bl false)))
   aZ)
  (aq (cx 2 (fOp gw (i4 (aa (fOp aIx (ab 0) (fC (.int 1))) ag)) (bV [] 2 (ca (fOp aIx (ab 0) (fC (.int 2)))) (nk 2 (cw (ac 0) (cw (ac 1) nj))) kf (ab 1))))
  (aq (fIf (aP (fOp uA (fOp aIx (ab 0) (fC (.int 0))) (fC .non)))
   (dB (Cp 2 (fOp aIx (ab 0) (fC (.int 0)))))
   aZ)
  (bx (zv (fCB G1 (aa (qr [] 1 2 (ac 0) kf (fCB cIs (aa (ab 0) (aa (fC (.ty "bool")) ag)))) ag)))))))
theorem Go:Lh bJ 2 []:=by delta bJ
theorem rR (lo:Option Int)(n:Str):Af (dW lo n) (dW lo n):=by
 cases lo with
 | none=>exact ⟨rfl,rfl,Nat.le_of_ble_eq_true rfl⟩
 | some i=>exact ⟨rfl,rfl,Nat.le_of_ble_eq_true rfl⟩
theorem iY (d:D):dEq d d=true:=lh _
theorem Gp:Hh bJ Gn [] 3:=by
 intro os P h
 unfold bJ at h
 obtain ⟨lo,n,rfl,q⟩:=h
 ext
 refine aU ?_
 ext
 refine ⟨⟨rfl,rfl⟩,?_⟩
 ext
 refine de ?_
 ext
 refine ⟨a7,?_⟩
 ext
 refine de ?_
 ext
 refine ⟨rR lo n,?_⟩
 ext
 refine az False ⟨fun h=>(by rw [iY] at h; exact Bool.noConfusion h),False.elim⟩ False.elim (fun _=>?_)
 ext
 refine ⟨lez 1,?_⟩
 ext
 refine jA ?_
 ext
 refine ⟨lez 1,?_⟩
 ext
 refine gl (fun ρ=>∃ is:List Int,is.length<=2/\ρ=[some (.fz (dW lo n)),some (.fz (dW lo n)),some (.fl (is.map .int))]) ?_ ?_
 ·rintro ρ ⟨is,hl,rfl⟩
  ext
  refine qj (fun i as ρ=>∃ (x:Option OV),as=(List.replicate i false).map .bl/\ρ=[x,some (.fz (dW lo n)),some (.fz (dW lo n)),some (.fl (is.map .int))]) (by rintro i as ρ ⟨x,_,rfl⟩; rfl) ⟨none,rfl,rfl⟩ ?_ ?_
  ·rintro i d as ρ R hd ⟨x,rfl,rfl⟩ k
   obtain ⟨j,hj,rfl⟩:∃ j,is[i]?=some j/\d=.int j:=by
    rw [List.getElem?_map,aam] at hd
    obtain ⟨r,h1,h2⟩:=hd
    exact ⟨r,h1,h2.symm⟩
   have hi:=(List.getElem?_eq_some_iff.mp hj).1
   ext
   refine dE ?_
   ext
   refine ⟨⟨rfl,rfl⟩,?_⟩
   ext
   refine ⟨by rw [List.length_map,aaA]; exact aan (by nofun:i < 3) (lez 3),k _ _ ⟨_,?_,rfl⟩⟩
   rw [List.replicate_succ',aag]; rfl
  ·rintro as ρ ⟨x,rfl,rfl⟩
   ext
   refine lH ?_
   ext
   rw [show ((List.replicate (is.map D.int).length false).any id)=false from by simp]
   exact q
 ·intro af
  cases lo with
  | none =>
   ext
   refine de ?_
   exact af _ ⟨[1],by decide,rfl⟩
  | some i =>
   ext
   refine dE ?_
   ext
   refine ⟨rfl,?_⟩
   ext
   refine ⟨lez 2,?_⟩
   exact af _ ⟨[1,i],aae 2,rfl⟩
theorem B7 {lo:Option Int}(h:P (.fz (.bl true)) [.fz (dW lo n),.fz (dW lo n)]):bJ [.fz (dW lo n),.fz (dW lo n)] P:=by
 unfold bJ
 exact ⟨lo,n,rfl,h⟩
@[irreducible] def bK:Ct:=fun os P=>∃ (z:Int) (k:Nat),os=[.fz (.int z),.fz (.int k)]/\k<=100/\P (.fz (.bl true)) os
abbrev xx:Stmt:=top 61
abbrev Gq:FS :=
  (aq (cx 2 (al bH (aa (fFz (ab 0)) (aa (fFz (ab 1)) ag))))
  (aq (cx 3 (i4 ag))
  (aq (pR (eQ (aa (al ah (aa (ab 2) (aa (fC (.int 5)) ag))) ag)) (ac 4)
   (dB (Cp 3 (al aA (aa (ab 2) (aa (ab 3) ag))))))
  (aq (cx 5 pG)
  (aq (pR (ca (ab 3)) (ac 6)
   (pT 5 (fOp aIx (i4 (aa (ln (aa (fC (.str "none")) ag)) (aa (ln (aa (fC (.str "any")) ag)) (aa (al bj (aa (ab 2) ag)) (aa (al bj (aa (ab 2) ag)) ag))))) (al ah (aa (ab 2) (aa (fC (.int 4)) ag)))) (ab 6)))
  (aq (cu (al bI (aa (ab 2) (aa (ab 5) (aa (fC (.int 12)) ag)))) (ac 7))
  (aq (cu (fOp gw (ab 3) (i4 (aa (al aA (aa (ab 2) (aa (ab 3) ag))) ag))) (ac 8))
  (aq (cu (fOp aIx (ab 8) (al ah (aa (ab 2) (aa (fFz (fCB eT (aa (ab 8) ag))) ag)))) (ac 6))
  (aq (cu (al ah (aa (ab 2) (aa (fFz (fOp gw (fCB eT (aa (ab 7) ag)) (fC (.int 1)))) ag))) (ac 9))
  (aq (cu (Fl (ab 5) (ab 6) (ln (aa (fC (.str "lacking")) ag))) (ac 10))
  (aq (cu (fC .non) (ac 11))
  (aq (fIf (aP (fOp aEq (fOp aIx (ab 10) (fC (.int 0))) (fC (.str "none"))))
   (cu (fC (.int 0)) (ac 11))
   aZ)
  (aq (fIf (Co (aP (fOp (g6 (fun i j=>decide (i < j)) aV) (ab 9) (fCB eT (aa (ab 7) ag)))) (fOr (aP (fOp aEq (fOp aIx (ab 10) (fC (.int 0))) (fC (.str "any")))) (Co (aP (fOp aEq (fOp aIx (ab 10) (fC (.int 0))) (fC (.str "signs")))) (aP (fOp aIn (fOp aIx (ab 7) (ab 9)) (fOp aIx (ab 10) (fC (.int 1))))))))
   (cu (fC (.int 1)) (ac 11))
   aZ)
  (aq (cu (al aY (aa (ab 5) ag)) (ac 12))
  (aq (cx 13 (al bQ (aa (fFz (ab 12)) (aa (fFz (ab 6)) (aa (fFz (ab 7)) (aa (fFz (ab 9)) ag))))))
  (aq (fIf (fOr (jw (dD (qz bJ 13 (aa (ab 13) (aa (ln (aa (ab 11) (aa (fC (.int 1)) (aa (i4 ag) (aa (i4 (aa (ab 6) ag)) ag))))) ag))))) (aP (fOp aNe (ab 12) (al aY (aa (ab 5) ag)))))
   (bx (fC (.bl false)))
   aZ)
  (aq (dB (uQ 13 2 (ln (aa (ab 6) (aa (fC (.int 0)) ag)))))
  (aq (dB (uR 13 3))
  (bx (fOp aEq (fFz (al bQ (aa (fFz (ab 12)) (aa (fFz (ab 6)) (aa (fFz (ab 7)) (aa (fFz (ab 9)) ag)))))) (ln (aa (ab 11) (aa (fC (.int 1)) (aa (i4 ag) (aa (i4 (aa (ab 6) ag)) ag)))))))))))))))))))))))))
theorem Gr:Lh bK 2 []:=by delta bK
theorem wm {y:Str}(h:y ∉ zs):kh (zs.map Sum.inr) ds (.inr y) d=(zs.map Sum.inr++[.inr y],ds++[d]):=by
 unfold kh
 rw [if_neg]
 intro e
 obtain ⟨x,hx,hy⟩:=List.any_eq_true.mp e
 obtain ⟨v,hv,rfl⟩:=List.mem_map.mp hx
 exact h (abq (of_decide_eq_true hy) ▸ hv)
theorem j6 (rows:List Rw):okDs (rows.map dg)=true:=by
 induction rows with
 | nil=>rfl
 | cons r rows ih=>exact Bool.and_eq_true_iff.mpr ⟨Bool.and_eq_true_iff.mpr ⟨jZ r.2.2,rfl⟩,ih⟩
theorem wn (r:Rw):dep (wR (dg r))<=2:=by
 have h:=gq r.2.2
 show max 0 (max (max 0 (deps (toDVs (r.2.2.map D.str)))+1) 0)+1<=2
 rw [h]
 decide
theorem rS (rows:List Rw):deps (toDVs (rows.map dg))<=2:=by
 induction rows with
 | nil=>exact aaq _
 | cons r rows ih=>exact Nat.max_le.mpr ⟨wn r,ih⟩
theorem rT {rows':List Rw}:Af (.lst (rows.map dg)) (.lst (rows'.map dg)):=⟨j6 rows,j6 rows',aav (Nat.succ_le_succ (rS rows)) (by decide)⟩
theorem rV {a:Str}(h:a≠b)(q:B):br (dEq (.str a) (.str b)) A B:=az (a=b) bA (fun e=>absurd e h) fun _=>q
theorem Gs {a:Str}(h:a=b)(q:A):br (dEq (.str a) (.str b)) A B:=az (a=b) bA (fun _=>q) fun e=>absurd h e
def Gu (rows:List Rw)(nm w:Str)(af:List Str):Prop:=(w = "lacking" /\ af=[]/\cn rows nm=.lack)∨(w = "none" /\ af=[]/\cn rows nm=.none)∨(w = "any" /\ af=[]/\cn rows nm=.any)∨(w = "signs" /\ ∃ s,af=[s]/\cn rows nm=.signs s)
theorem wo (R:RulesL rows)(nm:Str):∃ w af,(dF ((rows.map (·.1)).map Sum.inr) (rows.map fun r=>aG r.2.1 r.2.2) (.inr nm)).getD (.tup [.str "lacking"])=aG w af/\Gu rows nm w af:=by
 cases e:dS rows nm with
 | some r =>
  refine ⟨r.2.1,r.2.2,by rw [eK e]; rfl,?_⟩
  unfold Gu cn
  rw [e]
  rcases (R.ok r (List.mem_of_find?_eq_some e)).2 with ⟨h | h,e⟩ | ⟨h,y,e,_⟩
  ·exact .inr (.inl ⟨h,e,by simp only [h,if_true]⟩)
  ·exact .inr (.inr (.inl ⟨h,e,by simp only [h]; rfl⟩))
  ·exact .inr (.inr (.inr ⟨h,y,e,by simp only [h,e]; rfl⟩))
 | none =>
  refine ⟨"lacking", [],?_,.inl ⟨rfl,rfl,by unfold cn; rw [e]⟩⟩
  have hno:∀ r ∈ rows,r.1≠nm:=fun r hr h=>by
   have:=List.find?_eq_none.mp e r hr
   simp [h] at this
  rw [j5 hno]
  rfl
theorem IN {s1 s2:Str}(h1:ck s1)(h2:ck s2){i:Int}(i0:0<=i)(i1:i < 4)(q:∀ w af,j1 w af->Q (aG w af)):match atI [aG "none" [],aG "any" [],aG "signs" [s1],aG "signs" [s2]] i with
  | some d=>Q d
  | none=>False:=iK i0 i1 fun d hd=>by
 simp only [List.mem_cons,List.not_mem_nil,or_false] at hd
 rcases hd with rfl | rfl | rfl | rfl
 ·exact q _ _ (.inl ⟨.inl rfl,rfl⟩)
 ·exact q _ _ (.inl ⟨.inr rfl,rfl⟩)
 ·exact q _ _ (.inr ⟨rfl,s1,rfl,h1⟩)
 ·exact q _ _ (.inr ⟨rfl,s2,rfl,h2⟩)
theorem Gv:Hh bK Gq [] 14:=by
 intro os P h
 unfold bK at h
 obtain ⟨z,k,rfl,hk,q⟩:=h
 have sz:=c7
 ext
 refine BQ hk fun b0 b1 b2 _ hb=>?_
 ext
 refine ⟨aaq _,?_⟩
 ext
 refine bw 0 hb (by decide) (by decide) (by decide) fun m b0 b1 b2 m0 m1 hb1=>?_
 ext
 refine ⟨⟨by nofun,by nofun⟩,?_⟩
 ext
 refine b6 (fun i ρ=>∃ (ns:List Str) (x4:Option OV) (b0 b1 b2:Int),ns.Nodup/\(∀ y ∈ ns,cJ y)/\ns.length=i/\WellB b1 b2 (1+13 * i)/\ρ=[some (.fz (.int z)),some (.fz (.int k)),some (bt b0 b1 b2),some (.fl (ns.map .str)),x4,none,none,none,none,none,none,none,none,none])
  ⟨[],none,b0,b1,b2,aaB,(fun _ h=>nomatch h),rfl,hb1.mono (by nofun),rfl⟩ ?_ ?_
 ·rintro i d ρ R hd ⟨ns,x4,b0,b1,b2,nd,hns,hl,hb2,rfl⟩ kk
  obtain ⟨hi,rfl⟩:=bO hd
  ext
  refine ⟨rfl,?_⟩
  ext
  refine ii _ (.inl rfl) hb2 (by nofun) hns (by nofun) fun y b0 b1 b2 hy hn hb3=>?_
  ext
  refine ⟨by rw [List.length_map]; nofun,?_⟩
  refine kk _ ⟨ns++[y],_,b0,b1,b2,KS.nodup_snoc nd hn,fun v hv=>?_,by rw [aai,hl]; rfl,hb3.mono (by nofun),by rw [aag]; rfl⟩
  rcases List.mem_append.mp hv with h | h
  ·exact hns v h
  ·rw [List.mem_singleton.mp h]; exact hy
 ·rintro ρ ⟨ns,x4,b0,b1,b2,nd,hns,hl,hb2,rfl⟩
  rw [b7] at hl hb2
  have hl4:ns.length<=4:=by nofun
  ext
  refine b6 (fun i ρ=>∃ (rows:List Rw) (x6:Option OV) (b0 b1 b2:Int),rows.map (·.1)=ns.take i/\(∀ r ∈ rows,j1 r.2.1 r.2.2)/\WellB b1 b2 (53+85 * i)/\ρ=[some (.fz (.int z)),some (.fz (.int k)),some (bt b0 b1 b2),some (.fz (.lst (ns.map .str))),x4,some (ce rows),x6,none,none,none,none,none,none,none])
   ⟨[],none,b0,b1,b2,rfl,(fun _ h=>nomatch h),hb2.mono (by nofun),rfl⟩ ?_ ?_
  ·rintro i d ρ R hd ⟨rows,x6,b0,b1,b2,hrn,hro,hb3,rfl⟩ kk
   obtain ⟨y,hy,rfl⟩:∃ y,ns[i]?=some y/\d=.str y:=by
    rw [List.getElem?_map,aam] at hd
    obtain ⟨r,h1,h2⟩:=hd
    exact ⟨r,h1,h2.symm⟩
   have hi:=(List.getElem?_eq_some_iff.mp hy).1
   ext
   refine ⟨lez 1,?_⟩
   ext
   refine ⟨lez 1,?_⟩
   ext
   refine mq hb3 (by nofun) fun s1 b0 b1 b2 hs1 hb4=>?_
   ext
   refine mq hb4 (by nofun) fun s2 b0 b1 b2 hs2 hb5=>?_
   ext
   refine ⟨lez 4,?_⟩
   ext
   refine bw _ hb5 (by nofun) (by decide) (by decide) fun r b0 b1 b2 r0 r1 hb6=>?_
   ext
   refine IN hs1 hs2 r0 r1 fun w af hw=>?_
   have hyn:y ∉ rows.map (·.1):=by rw [hrn]; exact ic nd hy
   have hrl:rows.length<=i:=by have:=congrArg List.length hrn; rw [List.length_map,aao] at this; nofun
   ext
   refine ⟨rfl,?_⟩
   ext
   refine ⟨by rw [List.length_map,List.length_map]; nofun,?_⟩
   refine kk _ ⟨rows++[(y,w,af)],some (.fz (.str y)),b0,b1,b2,by rw [aag,hrn,aar,hy]; rfl,fun v hv=>?_,hb6.mono (by nofun),?_⟩
   ·rcases List.mem_append.mp hv with h | h
    ·exact hro v h
    ·rw [List.mem_singleton.mp h]; exact hw
   ·have e:ce (rows++[(y,w,af)])=.fd (kh ((rows.map (·.1)).map Sum.inr) (rows.map fun r=>aG r.2.1 r.2.2) (.inr y) (aG w af)).1 (kh ((rows.map (·.1)).map Sum.inr) (rows.map fun r=>aG r.2.1 r.2.2) (.inr y) (aG w af)).2:=by
     rw [wm hyn]
     unfold ce
     rw [aag,aag,aag]
     rfl
    rw [e]
    rfl
  ·rintro ρ ⟨rows,x6,b0,b1,b2,hrn,hro,hb3,rfl⟩
   rw [List.length_map] at hrn hb3
   rw [aal (aae _)] at hrn
   have R:RulesL rows:=⟨by rw [hrn]; exact nd,fun r hr=>⟨hns _ (by rw [← hrn]; exact List.mem_map.mpr ⟨r,hr,rfl⟩),hro r hr⟩,by have:=congrArg List.length hrn; rw [List.length_map] at this; nofun⟩
   ext
   refine B5 _ hb3 (by nofun) hro R.few fun t b0 b1 b2 htl ht hb4=>?_
   ext
   refine ii _ (.inr rfl) hb4 (by nofun) hns (by nofun) fun y b0 b1 b2 hy hyn hb5=>?_
   ext
   refine ⟨lez 1,?_⟩
   ext
   refine ⟨by rw [List.length_map]; show ns.length+1<=_; nofun,?_⟩
   have eS:ns.map D.str++[D.str y]=(ns++[y]).map D.str:=by rw [aag]; rfl
   rw [eS]
   have hsl:(ns++[y]).length=ns.length+1:=by rw [aai]; rfl
   have hsn:∀ v ∈ ns++[y],cJ v:=fun v hv=>by
    rcases List.mem_append.mp hv with h | h
    ·exact hns v h
    ·rw [List.mem_singleton.mp h]; exact hy
   generalize ns++[y]=so at hsl hsn
   have hsm:(so.map D.str).length=so.length:=List.length_map ..
   ext
   refine bw _ hb5 (by nofun) (by nofun) (by nofun) fun r6 b0 b1 b2 r60 r61 hb6=>?_
   ext
   refine iK r60 (by nofun) fun d hd=>?_
   obtain ⟨nm,hnm,rfl⟩:=List.mem_map.mp hd
   have hN:=hsn nm hnm
   ext
   refine ⟨by nofun,?_⟩
   ext
   refine bw _ hb6 (by nofun) (by nofun) (by nofun) fun pl b0 b1 b2 pl0 pl1 hb7=>?_
   obtain ⟨p,rfl⟩:=Int.eq_ofNat_of_zero_le pl0
   have hp:p<=t.length:=by nofun
   ext
   refine ⟨lez 1,?_⟩
   obtain ⟨w,af,eF,hF⟩:=wo R nm
   ext
   rw [eF]
   ext
   refine gl (fun ρ=>ρ=[some (.fz (.int z)),some (.fz (.int k)),some (bt b0 b1 b2),some (.fz (.lst (ns.map .str))),x4,some (ce rows),some (.fz (.str nm)),some (.fz (.str t)),some (.fz (.lst (so.map .str))),some (.fz (.int p)),some (.fz (aG w af)),some (.fz (if w = "none" then .int 0 else .non)),none,none]) ?_ ?_
   ·rintro ρ rfl
    ext
    refine gl (fun ρ=>ρ=[some (.fz (.int z)),some (.fz (.int k)),some (bt b0 b1 b2),some (.fz (.lst (ns.map .str))),x4,some (ce rows),some (.fz (.str nm)),some (.fz (.str t)),some (.fz (.lst (so.map .str))),some (.fz (.int p)),some (.fz (aG w af)),some (.fz (lT (fw (cn rows nm) t p))),none,none]) ?_ ?_
    ·rintro ρ rfl
     have A:AskR (bz rows) nm t p:=⟨kS R,hN,ht,by nofun,hp⟩
     ext
     refine j2 R.nd R.few ?_
     ext
     refine ig A (dU R) fun a b=>?_
     ext
     refine aU ?_
     ext
     refine ⟨aaq _,?_⟩
     ext
     refine ⟨lez 1,?_⟩
     ext
     refine ⟨lez 4,?_⟩
     ext
     refine B7 ?_
     ext
     refine ⟨rfl,?_⟩
     ext
     refine de ?_
     ext
     refine j2 R.nd R.few ?_
     ext
     refine ⟨rT,?_⟩
     ext
     refine az False ⟨fun h=>(by rw [iY] at h; exact Bool.noConfusion h),False.elim⟩ False.elim (fun _=>?_)
     ext
     refine ⟨lez 2,?_⟩
     ext
     refine ⟨rfl,aan Nat.zero_lt_one (lez 1),?_⟩
     ext
     refine ig A (dU R) fun a b=>?_
     ext
     refine ⟨aaq _,?_⟩
     ext
     refine ⟨lez 1,?_⟩
     ext
     refine ⟨lez 4,?_⟩
     ext
     refine ⟨rR _ _,?_⟩
     ext
     show P (.fz (.bl (dEq (dW (fw (cn rows nm) t p) nm) (dW (fw (cn rows nm) t p) nm)))) _
     rw [iY]
     exact q
    ·intro rest2
     ext
     refine ⟨by nofun,?_⟩
     ext
     refine az ((p:Int) < t.length) decide_eq_true_iff (fun hpl=>?_) (fun hpl=>?_)
     ·have hpc:p < t.cps.toList.length:=by have:=bR t; nofun
      obtain ⟨c,hc⟩:∃ c,t.cps.toList[p]?=some c:=⟨_,List.getElem?_eq_getElem hpc⟩
      rcases hF with ⟨rfl,rfl,hL⟩ | ⟨rfl,rfl,hL⟩ | ⟨rfl,rfl,hL⟩ | ⟨rfl,s,rfl,hL⟩
      ·ext
       refine ⟨aH,?_⟩
       ext
       refine rV (by decide) ?_
       ext
       refine ⟨aH,?_⟩
       ext
       refine rV (by decide) ?_
       ext
       refine de (rest2 _ ?_)
       rw [hL]; rfl
      ·ext
       refine ⟨aH,?_⟩
       ext
       refine rV (by decide) ?_
       ext
       refine ⟨aH,?_⟩
       ext
       refine rV (by decide) ?_
       ext
       refine de (rest2 _ ?_)
       rw [hL]; rfl
      ·ext
       refine ⟨aH,?_⟩
       ext
       refine Gs rfl ?_
       ext
       refine dE (rest2 _ ?_)
       rw [hL,show fw .any t p=some 1 from if_pos (by nofun)]; rfl
      ·ext
       refine ⟨aH,?_⟩
       ext
       refine rV (by decide) ?_
       ext
       refine ⟨aH,?_⟩
       ext
       refine Gs rfl ?_
       ext
       refine ⟨by nofun,?_⟩
       rw [show atI t.cps.toList (p:Int)=some c from cp hc]
       ext
       refine az (c ∈ s.cps.toList) decide_eq_true_iff (fun hm=>?_) (fun hm=>?_)
       ·ext
        exact rest2 _ (by rw [hL,kL hc,if_pos hm])
       ·exact rest2 _ (by rw [hL,kL hc,if_neg hm]; rfl)
     ·ext
      refine de (rest2 _ ?_)
      rcases hF with ⟨rfl,rfl,hL⟩ | ⟨rfl,rfl,hL⟩ | ⟨rfl,rfl,hL⟩ | ⟨rfl,s,rfl,hL⟩
      ·rw [hL]; rfl
      ·rw [hL]; rfl
      ·rw [hL,show fw .any t p=none from if_neg (by nofun)]; rfl
      ·rw [hL,lU (List.getElem?_eq_none_iff.mpr (by rw [← fq]; nofun))]; rfl
   ·intro rest1
    ext
    refine cI ?_
    ext
    refine ⟨aH,?_⟩
    ext
    refine az (w = "none") bA (fun h=>rest1 _ (by rw [if_pos h]; rfl)) (fun h=>rest1 _ (by rw [if_neg h]))
theorem B8 {z:Int}(hk:k<=100)(h:P (.fz (.bl true)) [.fz (.int z),.fz (.int k)]):bK [.fz (.int z),.fz (.int k)] P:=by
 unfold bK
 exact ⟨z,k,rfl,hk,h⟩
@[irreducible] def kT:Ct:=fun os P=>∃ ns:List Int,os=[.fz (.lst (ns.map .int))]/\ns.length<=63/\P (.fz (.bl true)) os
abbrev Gw:Stmt:=top 62
abbrev IO:FS :=
  (aq (pR (eQ (aa (fCB Ie (aa (fC (.int 1)) (aa (fCB Jl (aa (fC (.int 20)) (aa (fCB eT (aa (ab 0) ag)) ag))) ag))) ag)) (ac 1)
   (fIf (jw (dD (al bK (aa (fFz (al aX (aa (fFz (ab 0)) (aa (fFz (ab 1)) ag)))) (aa (fFz (ab 1)) ag)))))
   (bx (fC (.bl false)))
   aZ))
  (bx (fC (.bl true))))
theorem IP:Lh kT 1 []:=by delta kT
theorem IQ:Hh kT IO [] 2:=by
 intro os P h
 unfold kT at h
 obtain ⟨ns,rfl,hl,q⟩:=h
 ext
 rw [List.length_map]
 refine ⟨⟨?_,?_⟩,?_⟩
 ·split <;> split <;> nofun
 ·split <;> split <;> nofun
 ext
 refine b6 (fun i ρ=>∃ x1:Option OV,ρ=[some (.fz (.lst (ns.map .int))),x1]) ⟨none,rfl⟩ ?_ ?_
 ·rintro i d ρ R hd ⟨x1,rfl⟩ kk
  obtain ⟨hi,rfl⟩:=bO hd
  have hi':i<=40:=by split at hi <;> split at hi <;> nofun
  ext
  refine aU ?_
  ext
  rw [Int.zero_add]
  refine BP fun c=>?_
  ext
  refine B8 (by nofun) ?_
  ext
  refine de ?_
  exact kk _ ⟨_,rfl⟩
 ·rintro ρ ⟨x1,rfl⟩
  ext
  exact q
end KR
open PySem L2
local macro_rules | `(tactic| walk_at "f1") => `(tactic| (repeat' (first
  | (with_reducible exact Jm (by decide)) | (with_reducible apply Eg) | (with_reducible apply Eh) | (with_reducible apply HV) | (with_reducible apply pM) | (with_reducible apply En) | (with_reducible apply Ev) | (with_reducible apply Ex) | (with_reducible exact gf_n (by decide)) | (with_reducible apply pL)
  | (with_reducible apply ES) | (with_reducible apply EV) | (with_reducible apply ET) | (with_reducible apply Ae) | (with_reducible apply zZ) | (with_reducible apply vk) | (with_reducible apply vj) | (with_reducible apply Ad) | (with_reducible apply EU) | (with_reducible apply p8) | (with_reducible apply Aa) | (with_reducible apply uh) | (with_reducible apply Ab) | (with_reducible apply Ac) | (with_reducible apply Ap) | (with_reducible apply uB) 
  | (with_reducible apply HY) | (with_reducible apply uH) | (with_reducible apply H0) | (with_reducible exact Iq (by decide)) | (with_reducible apply HS) | (with_reducible apply Ei) | (with_reducible apply HU) | (with_reducible apply zw) | (with_reducible apply zy) | (with_reducible apply HW) | (with_reducible apply t0) | (with_reducible apply Eo) | (with_reducible apply Ep) | (with_reducible apply HZ)
  | (with_reducible apply EW) | (with_reducible apply Ig) | (with_reducible apply EZ) | (with_reducible apply E1) | (with_reducible apply ut) | (with_reducible apply Ai) | (with_reducible apply Ar) | (with_reducible apply EX) | (with_reducible apply EY) | (with_reducible apply E2) 
  | (with_reducible apply iF) | (with_reducible apply Io) | (with_reducible apply zE) | (with_reducible apply zF)
  | (with_reducible apply Ia) | (with_reducible apply Ew) | (with_reducible apply zK) | (with_reducible apply AQ) | (with_reducible apply zM) | (with_reducible apply zN) | (with_reducible apply Ey) | (with_reducible apply ub) | (with_reducible apply ua) | (with_reducible apply zL) | (with_reducible apply ud) | (with_reducible apply zP) | (with_reducible apply uF)
  | (with_reducible apply tf_B) | (with_reducible apply Ej) | (with_reducible apply Ek) | (with_reducible apply HX) | (with_reducible apply El) | (with_reducible apply Em)
  | (with_reducible exact gf_c (by decide) (by decide)) | (with_reducible apply Es) | (with_reducible apply zG) | (with_reducible apply t4)
  | (with_reducible apply t7) | (with_reducible apply zI) | (with_reducible apply zJ) | (with_reducible apply t8) | (with_reducible apply t9)
  | (with_reducible apply Ir) | (with_reducible apply Iu) | (with_reducible apply Iv) | (with_reducible apply Al) | (with_reducible apply Ak) 
  | (with_reducible apply kH) | (with_reducible apply uz) | (with_reducible apply zB) 
  | (show ClsF _ _ _; assumption) | (with_reducible apply A7) | (with_reducible apply vc) | (with_reducible apply AV) | (with_reducible apply vd) | (with_reducible apply AK) | (with_reducible apply AI) | (with_reducible apply uK) | (with_reducible apply AM) | (with_reducible apply ve) | (with_reducible apply qG) | (with_reducible apply uP) | (with_reducible apply AR)
  | (with_reducible apply AS) | (with_reducible apply vf) | (with_reducible apply vg) | (with_reducible apply uT) | (with_reducible apply uY) | (with_reducible apply uZ) | (with_reducible apply va) | (with_reducible apply AZ) | (with_reducible apply A6) | (with_reducible apply vb) | (with_reducible apply Ip)
  | (with_reducible exact Iw rfl) | exact rfl
  | (with_reducible exact uv (by decide)) | (with_reducible exact Ii (by decide)) | (show Program; exact Zz.P (by assumption)) | (show World; exact Zz.w (by assumption)) | decide)))
local macro_rules | `(tactic| walk_at "f2") => `(tactic| (repeat' (first
  | (with_reducible exact wM) | (with_reducible exact wN) | (with_reducible apply wL) | (with_reducible apply tQ) | (with_reducible apply y9) | (with_reducible apply y8) | (with_reducible apply wa_c) | (with_reducible apply DK) | (with_reducible apply EE) | exact rfl | exact Or.inl rfl | exact Or.inr rfl | exact Or.inr (Or.inl rfl) | assumption
  | (with_reducible apply HL) | (with_reducible apply DG) | (with_reducible apply DL) | ((with_reducible apply Iz); exact rfl) | (with_reducible apply Ax) | (with_reducible apply DU) | (with_reducible apply DW) | (with_reducible apply HQ) | (with_reducible apply DT) | (with_reducible apply za) | (with_reducible apply DX) | (with_reducible apply tS) | (with_reducible apply tR) | (with_reducible apply kC) | (with_reducible apply zp) | (with_reducible apply uE)
  | exact Room.units (by assumption) | exact HD (by assumption) | exact Room.gd (by assumption) | exact Room.mono (by assumption) (by decide) | exact fun _=>rfl | exact fun _ _=>rfl | exact nomarkB (by decide) (by decide)
  | (with_reducible apply DH) | (with_reducible apply uI) | (with_reducible apply HJ) | (with_reducible apply DB) | (with_reducible apply DF) | (with_reducible apply DE) | (with_reducible apply DD) | (with_reducible apply HM) | (with_reducible apply tI) | (with_reducible apply tO) | (with_reducible apply DI) | (with_reducible apply DJ) | (with_reducible apply tM) | (with_reducible apply qp) | (with_reducible apply yU) | (with_reducible apply yV) | (with_reducible apply yR)
  | (with_reducible apply DY) | (with_reducible apply DZ) | (with_reducible apply ug) | (with_reducible apply zb) | (with_reducible apply vi) | (with_reducible apply vh) | (with_reducible apply zS) | (with_reducible apply zT) | (with_reducible apply zU) | (with_reducible apply zV) | (with_reducible apply zR) | (with_reducible apply nu) | (with_reducible apply zc) | (with_reducible apply tT) | (with_reducible apply zd) | (with_reducible apply ze) | (with_reducible apply zf) | (with_reducible apply tU) 
  | (with_reducible apply D3) | (with_reducible apply EL) | (with_reducible apply D6) | (with_reducible apply D7) | (with_reducible apply ur) | (with_reducible apply zo) | (with_reducible apply uD) | (with_reducible apply D4) | (with_reducible apply D5) | (with_reducible apply EO) | (with_reducible apply Ea) 
  | exact Or.inl ⟨_,rfl⟩ | exact Or.inr ⟨_,rfl⟩
  | (with_reducible apply DM) | (with_reducible apply y0) | (with_reducible apply DN) | (with_reducible apply DO) | (with_reducible apply HN) | (with_reducible apply y1) | (with_reducible apply y2)
  | (with_reducible apply y3) | (with_reducible apply DP) | (with_reducible apply y4) | (with_reducible apply tP) | (with_reducible apply DQ) | exact PassesOwn.never
  | (with_reducible apply ph) | (with_reducible apply pi) | (with_reducible apply y6) | (with_reducible apply DR) | (with_reducible apply DS) | (with_reducible apply At) | (with_reducible apply yY) | (with_reducible apply yZ)
  | (with_reducible apply Aw) | (with_reducible apply Iy) | exact CompScope.of rfl rfl rfl | (intro C s H fp) | exact Ix rfl
  | (with_reducible apply yQ) | (with_reducible apply tL) | (with_reducible exact PySem.F.plainAttrs_list) | (with_reducible exact PySem.F.plainAttrs_str) | (with_reducible exact PySem.F.slot_list_append) | (with_reducible exact PySem.F.type_list_append) | (with_reducible apply pj) | (with_reducible exact PySem.F.slot_str_join) | (with_reducible exact PySem.F.type_str_join) | (with_reducible apply zg) 
  | (with_reducible exact PySem.F.slot_list_extend) | (with_reducible exact PySem.F.type_list_extend) | (with_reducible exact PySem.F.slot_list_reverse) | (with_reducible exact PySem.F.type_list_reverse) | (with_reducible exact PySem.F.slot_list_index) | (with_reducible exact PySem.F.type_list_index) | (with_reducible exact PySem.F.slot_list_remove) | (with_reducible exact PySem.F.type_list_remove) 
  | (with_reducible exact PySem.F.slot_str_split) | (with_reducible exact PySem.F.type_str_split) | (with_reducible exact PySem.F.slot_str_partition) | (with_reducible exact PySem.F.type_str_partition) | (with_reducible exact PySem.F.slot_str_find) | (with_reducible exact PySem.F.type_str_find) | (with_reducible exact PySem.F.slot_str_upper) | (with_reducible exact PySem.F.type_str_upper) 
  | (with_reducible apply Fe) | (with_reducible apply Ff) | (with_reducible apply Fg) | (with_reducible apply IA) | (with_reducible apply Fh) | exact ClsF.cl (by assumption) | exact ⟨_,rfl⟩ | (with_reducible apply uV) | (with_reducible apply AW) | (with_reducible apply pf) | (with_reducible apply uX) | (with_reducible apply Av)
  | (with_reducible exact PySem.F.slot_list_pop) | (with_reducible exact PySem.F.type_list_pop) | (with_reducible apply Fi) | (with_reducible exact PySem.F.slot_list_clear) | (with_reducible exact PySem.F.type_list_clear) | (with_reducible apply uU)
  | (with_reducible apply HK) | (with_reducible apply wO) | (with_reducible apply DC) | (with_reducible apply zY) | (with_reducible apply Am) | (with_reducible apply wO) | (with_reducible apply wt_w) | (with_reducible apply uG) | (with_reducible apply pf) | apply tN | apply yS | exact wN | exact wM | exact ⟨rfl,rfl,rfl,rfl⟩ | decide | decide +kernel)))
local macro_rules | `(tactic| walk_at "bd") => `(tactic| (intro cdv A outer s H E T nd hr; cases T; apply Exists.intro; apply And.intro; (focus walk_at "f1"); (focus ((conv => (arg 2; whnf)); walk_at "f2"))))
local macro_rules | `(tactic| walk_at "bn") => `(tactic| (first | exact fun _ _ _ _ _ _ us hl => (match us, hl with | [_], _ => rfl) | exact fun _ _ _ _ _ _ us hl => (match us, hl with | [_, _], _ => rfl) | exact fun _ _ _ _ _ _ us hl => (match us, hl with | [_, _, _], _ => rfl) | exact fun _ _ _ _ _ _ us hl => (match us, hl with | [_, _, _, _], _ => rfl) | exact fun _ _ _ _ _ _ us hl => (match us, hl with | [_, _, _, _, _], _ => rfl) | exact fun _ _ _ _ _ _ us hl => (match us, hl with | [], _ => rfl)))
local macro_rules | `(tactic| walk_at "o") => `(tactic| ((focus walk_at "bn"); (focus exact ⟨rfl, rfl, rfl, by decide +kernel, rfl, by decide +kernel, by decide +kernel⟩); walk_at "bd"))
local macro_rules | `(tactic| walk_at "ol") => `(tactic| ((focus exact ⟨rfl, rfl, rfl, by decide +kernel, rfl, by decide +kernel, by decide +kernel⟩); walk_at "bd"))
local macro_rules | `(tactic| walk_at "l") => `(tactic| (repeat (obtain ⟨x, h⟩ := h)))
namespace KR
section
variable {Z:Zz} {f C:Addr} {fd:FuncData} (t:TopZ Z (Txt Z.K Z.mg)) (hC:ClsF Z.K 0 C)
include t hC
abbrev rW (Z:Zz)(C:Addr):Prop:=Fo Z C "Asking" 1 ["self", "form", "name", "place"] ar
abbrev xy (Z:Zz)(C:Addr):Prop:=Fn Z C "end" 1 ["self", "length"] bd
theorem B9 (D:DfM Z.K C "__init__" "Asking.__init__" qI f fd) (a:PySem.W.nsIn Z.K mainGlobals "Asking" = some (some (.ref C))) (mk:PySem.W.makesIn Z.K C=true) (kc:PySem.W.keepIn Z.K (.ref C)=true):rW Z C:=by
 refine A9 t D a mk kc (uJ ["self", "form", "name", "place"] t D.fn Be Bf ?_ ?_) ?_
 rotate_right
 (focus walk_at "bn")
 walk_at "ol"
theorem Gx (D:DfM Z.K C "end" "Asking.end" xc f fd):xy Z C:=by
 refine A8 D (uJ ["self", "length"] t D.fn Fq Fs ?_ ?_) ?_
 rotate_right
 (focus walk_at "bn")
 walk_at "ol"
abbrev mv (Z:Zz):Prop:=cz Z "length_alone" 1 ["form", "text", "place"] aL
theorem wp (D:Df Z.K "length_alone" lV f fd):mv Z:=by
 refine av ["form", "text", "place"] t D vo vp ?_ ?_ ?_
 walk_at "o"
abbrev iZ (Z:Zz):Prop:=cz Z "parts_of" 1 ["form"] aS
theorem Ca (D:Df Z.K "parts_of" qK f fd):iZ Z:=by
 refine av ["form"] t D Bi Bj ?_ ?_ ?_
 walk_at "o"
abbrev kU (Z:Zz):Prop:=cz Z "begun" 3 ["rules", "text", "name", "place"] cL
theorem Cb (D:Df Z.K "begun" qL f fd) (_:rW Z C) (_:xy Z C) (_:iZ Z) (_:mv Z):kU Z:=by
 refine av ["rules", "text", "name", "place", "form", "asking"] t D Bl Bm ?_ ?_ ?_
 walk_at "o"
abbrev rX (Z:Zz):Prop:=cz Z "found" 1 ["asking", "kept"] c9
theorem Cc (D:Df Z.K "found" qM f fd):rX Z:=by
 refine av ["asking", "kept", "farthest", "leans", "step", "length", "reach", "leaned"] t D Bo Bp ?_ ?_ ?_
 walk_at "o"
abbrev xz (Z:Zz):Prop:=cz Z "make" 4 ["rules", "text", "kept", "name", "place"] eV
theorem Gy (D:Df Z.K "make" xg f fd) (_:kU Z) (_:rX Z):xz Z:=by
 refine av ["rules", "text", "kept", "name", "place", "new", "under_way", "asking", "wanted"] t D Fx Fy ?_ ?_ ?_
 walk_at "o"
abbrev fA (Z:Zz):Prop:=cz Z "is_name" 1 ["thing"] bq
theorem wq (D:Df Z.K "is_name" lY f fd):fA Z:=by
 refine av ["thing"] t D vv vx ?_ ?_ ?_
 walk_at "o"
abbrev mw (Z:Zz):Prop:=cz Z "is_sign" 1 ["sign"] bW
theorem wt (D:Df Z.K "is_sign" lZ f fd):mw Z:=by
 refine av ["sign"] t D vz vA ?_ ?_ ?_
 walk_at "o"
abbrev i3 (Z:Zz):Prop:=cz Z "is_text" 2 ["thing"] bP
theorem wu (D:Df Z.K "is_text" l0 f fd) (_:mw Z):i3 Z:=by
 refine av ["thing"] t D vC vD ?_ ?_ ?_
 walk_at "o"
abbrev mx (Z:Zz):Prop:=cz Z "are_rising_signs" 3 ["thing"] ao
theorem wv (D:Df Z.K "are_rising_signs" l5 f fd) (_:i3 Z):mx Z:=by
 refine av ["thing"] t D vF vG ?_ ?_ ?_
 walk_at "o"
abbrev my (Z:Zz):Prop:=cz Z "is_form" 4 ["thing"] bX
theorem ww (D:Df Z.K "is_form" l6 f fd) (_:mx Z) (_:fA Z):my Z:=by
 refine av ["thing", "word"] t D vI vJ ?_ ?_ ?_
 walk_at "o"
abbrev mD (Z:Zz):Prop:=cz Z "is_rule" 5 ["thing"] bY
theorem wx (D:Df Z.K "is_rule" l7 f fd) (_:fA Z) (_:my Z):mD Z:=by
 refine av ["thing"] t D vM vN ?_ ?_ ?_
 walk_at "o"
abbrev rY (Z:Zz):Prop:=cz Z "names_rise" 1 ["rows"] bg
theorem Cd (D:Df Z.K "names_rise" rf f fd):rY Z:=by
 refine av ["rows"] t D Bu Bv ?_ ?_ ?_
 walk_at "o"
abbrev mE (Z:Zz):Prop:=cz Z "is_book" 6 ["thing"] bZ
theorem wy (D:Df Z.K "is_book" l8 f fd) (_:mD Z) (_:rY Z):mE Z:=by
 refine av ["thing"] t D vQ vR ?_ ?_ ?_
 walk_at "o"
abbrev Gz (Z:Zz):Prop:=cz Z "may_be_empty" 2 ["form", "empty"] aM
theorem IR (D:Df Z.K "may_be_empty" FH f fd) (_:iZ Z):Gz Z:=by
 refine av ["form", "empty"] t D IG IH ?_ ?_ ?_
 walk_at "o"
abbrev mF (Z:Zz):Prop:=cz Z "empty_names" 3 ["book"] aW
theorem wz (D:Df Z.K "empty_names" ma f fd) (_:Gz Z):mF Z:=by
 refine av ["book", "empty", "grows", "name", "form"] t D vT vU ?_ ?_ ?_
 walk_at "o"
abbrev xA (Z:Zz):Prop:=cz Z "begins_of_row" 1 ["parts", "empty"] aB
theorem GA (D:Df Z.K "begins_of_row" xk f fd):xA Z:=by
 refine av ["parts", "empty", "begun", "part"] t D FL FM ?_ ?_ ?_
 walk_at "o"
abbrev rZ (Z:Zz):Prop:=cz Z "begins_of_form" 2 ["form", "empty"] ay
theorem Ce (D:Df Z.K "begins_of_form" rn f fd) (_:iZ Z) (_:xA Z):rZ Z:=by
 refine av ["form", "empty"] t D Bz BB ?_ ?_ ?_
 walk_at "o"
abbrev r8 (Z:Zz):Prop:=cz Z "steps_of" 4 ["book"] bG
theorem Cf (D:Df Z.K "steps_of" rp f fd) (_:mF Z) (_:rZ Z):r8 Z:=by
 refine av ["book", "empty", "steps", "name", "form"] t D BF BH ?_ ?_ ?_
 walk_at "o"
abbrev mG (Z:Zz):Prop:=cz Z "steps_within" 1 ["steps", "name", "left"] aN
theorem wA (D:Df Z.K "steps_within" ml f fd):mG Z:=by
 refine av ["steps", "name", "left"] t D v0 v5 ?_ ?_ ?_
 walk_at "o"
abbrev j7 (Z:Zz):Prop:=cz Z "endless_rules" 5 ["steps"] aE
theorem r9 (D:Df Z.K "endless_rules" jV f fd) (_:mG Z):j7 Z:=by
 refine av ["steps", "left", "shrinks", "ended", "name"] t D rC rD ?_ ?_ ?_
 walk_at "o"
abbrev xB (Z:Zz):Prop:=cz Z "loop" 6 ["book"] eW
theorem GB (D:Df Z.K "loop" xl f fd) (_:r8 Z) (_:j7 Z):xB Z:=by
 refine av ["book", "steps", "left", "walked", "name"] t D FQ FR ?_ ?_ ?_
 walk_at "o"
abbrev xC (Z:Zz):Prop:=cz Z "asked_anew" 4 ["rules", "text", "kept", "name", "place"] bf
theorem GC (D:Df Z.K "asked_anew" xh f fd) (_:kU Z):xC Z:=by
 refine av ["rules", "text", "kept", "name", "place", "asking"] t D FB FC ?_ ?_ ?_
 walk_at "o"
abbrev j8 (Z:Zz):Prop:=cz Z "asked_of" 5 ["rules", "text", "kept", "name", "place"] bC
theorem sd (D:Df Z.K "asked_of" jO f fd) (_:xC Z):j8 Z:=by
 refine av ["rules", "text", "kept", "name", "place", "asked", "step"] t D qP qQ ?_ ?_ ?_
 walk_at "o"
abbrev j9 (Z:Zz):Prop:=cz Z "is_whole" 1 ["thing"] bE
theorem se (D:Df Z.K "is_whole" jP f fd):j9 Z:=by
 refine av ["thing"] t D qS qT ?_ ?_ ?_
 walk_at "o"
abbrev ka (Z:Zz):Prop:=cz Z "is_place" 2 ["text", "thing"] bF
theorem sg (D:Df Z.K "is_place" jQ f fd) (_:j9 Z):ka Z:=by
 refine av ["text", "thing"] t D qV qW ?_ ?_ ?_
 walk_at "o"
abbrev GD (Z:Zz):Prop:=cz Z "refuse_wrong_book" 7 ["book"] am
theorem IS (D:Df Z.K "refuse_wrong_book" FU f fd) (_:mE Z) (_:xB Z):GD Z:=by
 refine av ["book"] t D IJ IK ?_ ?_ ?_
 walk_at "o"
abbrev Jp (Z:Zz):Prop:=cz Z "refuse_wrong" 8 ["book", "name", "text", "place"] aO
theorem o_rw (D:Df Z.K "refuse_wrong" Jo f fd) (_:GD Z) (_:fA Z) (_:i3 Z) (_:ka Z):Jp Z:=by
 refine av ["book", "name", "text", "place"] t D l_rw h_rw ?_ ?_ ?_
 walk_at "o"
abbrev sh (Z:Zz):Prop:=cz Z "made_alone" 9 ["book", "name", "text", "place"] bh
theorem Cg (D:Df Z.K "made_alone" rF f fd) (_:Jp Z) (_:xz Z):sh Z:=by
 refine av ["book", "name", "text", "place", "kept"] t D BM BN ?_ ?_ ?_
 walk_at "o"
abbrev kb (Z:Zz):Prop:=cz Z "reading" 10 ["book", "name", "text", "place"] bQ
theorem si (D:Df Z.K "reading" jX f fd) (_:sh Z) (_:j8 Z):kb Z:=by
 refine av ["book", "name", "text", "place", "kept", "length", "reach", "leans"] t D rH rJ ?_ ?_ ?_
 walk_at "o"
abbrev xD (Z:Zz):Prop:=cz Z "_law_cell_at" 1 ["script", "k"] aX
theorem GE (D:Df Z.K "_law_cell_at" xn f fd):xD Z:=by
 refine av ["script", "k"] t D FZ F0 ?_ ?_ ?_
 walk_at "o"
abbrev sj (Z:Zz):Prop:=cz Z "_law_stir" 1 ["seed", "turn"] bu
theorem GG (D:Df Z.K "_law_stir" xo f fd):sj Z:=by
 refine av ["seed", "turn", "number"] t D F7 F8 ?_ ?_ ?_
 walk_at "o"
abbrev xE (Z:Zz):Prop:=cz Z "_law_well" 2 ["cell", "k"] bH
theorem GH (D:Df Z.K "_law_well" xp f fd) (_:sj Z):xE Z:=by
 refine av ["cell", "k", "seed"] t D Ga Gb ?_ ?_ ?_
 walk_at "o"
abbrev ij (Z:Zz):Prop:=cz Z "_law_draw" 2 ["well", "many"] ah
theorem GI (D:Df Z.K "_law_draw" xq f fd) (_:sj Z):ij Z:=by
 refine av ["well", "many", "taken"] t D Gd Ge ?_ ?_ ?_
 walk_at "o"
abbrev ke (Z:Zz):Prop:=cz Z "_law_new_name" 3 ["well", "names"] aA
theorem sk (D:Df Z.K "_law_new_name" jY f fd) (_:ij Z):ke Z:=by
 refine av ["well", "names", "letters", "way", "letter", "name", "old", "at", "some"] t D rN rP ?_ ?_ ?_
 walk_at "o"
abbrev sm (Z:Zz):Prop:=cz Z "_law_sign" 3 ["well"] bv
theorem GJ (D:Df Z.K "_law_sign" xr f fd) (_:ij Z):sm Z:=by
 refine av ["well", "signs"] t D Gh Gi ?_ ?_ ?_
 walk_at "o"
abbrev sn (Z:Zz):Prop:=cz Z "_law_signs" 4 ["well"] bj
theorem Ch (D:Df Z.K "_law_signs" rL f fd) (_:ij Z) (_:sm Z):sn Z:=by
 refine av ["well", "many"] t D BU BV ?_ ?_ ?_
 walk_at "o"
abbrev xF (Z:Zz):Prop:=cz Z "_law_text" 4 ["well", "rules", "most"] bI
theorem GK (D:Df Z.K "_law_text" xv f fd) (_:ij Z) (_:sm Z):xF Z:=by
 refine av ["well", "rules", "most", "own", "signs", "k", "sign"] t D Gk Gm ?_ ?_ ?_
 walk_at "o"
abbrev mH (Z:Zz):Prop:=cz Z "_law_listed" 1 ["rules"] aY
theorem wB (D:Df Z.K "_law_listed" ms f fd):mH Z:=by
 refine av ["rules"] t D wf wg ?_ ?_ ?_
 walk_at "o"
abbrev xG (Z:Zz):Prop:=cz Z "_law_told" 1 ["found_v", "due"] bJ
theorem GL (D:Df Z.K "_law_told" xw f fd):xG Z:=by
 refine av ["found_v", "due", "numbers"] t D Go Gp ?_ ?_ ?_
 walk_at "o"
abbrev xH (Z:Zz):Prop:=cz Z "_law_good" 11 ["cell", "k"] bK
theorem GM (D:Df Z.K "_law_good" xx f fd) (_:xE Z) (_:ij Z) (_:ke Z) (_:sn Z) (_:xF Z) (_:mH Z) (_:kb Z) (_:xG Z):xH Z:=by
 refine av ["cell", "k", "well", "names", "j", "rules", "name", "text", "some", "place", "form", "length", "book", "found_v"] t D Gr Gv ?_ ?_ ?_
 walk_at "o"
theorem o_law (D:Df Z.K "law" Gw f fd) (_:xD Z) (_:xH Z):FnOk Z.P Z.w Z.K Z.mg Z.base CX0 12 f fd ["script"] (spM Z.K kT):=by
 refine uJ ["script", "k"] t D.fn IP IQ ?_ ?_
 walk_at "ol"
end
end KR
open PySem L2
namespace KR
def wC (K:Frag):Sp:=fun vs H Q _=>∃ (a:Addr) (ns:List Int),vs=[.ref a]/\SqL K H a (ns.map V.int)/\ns.length<=63/\∀ H',Q (.bl true) H'
variable{q:Program}{loose:List Str}{XP:(Str->Option Value)->Heap->Prop}
theorem GN {K:Frag}(vs:List V)(H:Hp)(Q:VK)(E:XK)(h:wC K vs H Q E):spM K kT vs H Q E:=by
 obtain ⟨a,ns,rfl,hS,hl,q⟩:=h
 refine ⟨H,fun _=>none,[.fz (.lst (ns.map .int))],[],fun o _=>o=.fz (.bl true),Same.refl H,(fun _ _ z=>nomatch z),fun _ _ _=>rfl,.cons (.fz (.lst hS (Dens.ints ns))) .nil,aaB,(fun _ z=>nomatch z),?_,fun o os' v F' H' C' B e _ _ _ _ _ ow _ _=>?_⟩
 ·unfold kT
  exact ⟨ns,rfl,hl,rfl⟩
 ·subst e
  cases ow with
  | fz d=>rw [d.bl_eq]; exact q H'
theorem all_mk {l:PySem.W.OpenLaw} {w:World} {K:Frag} {h:Heap} {mg:Str->Option Value} {fa f0 f1 f2 f3 f4 f5 f6 f7 f8 f9 f10 f11 f12 f13 f14 f15 f16 f17 f18 f19 f20 f21 f22 f23 f24 f25 f26 f27 f28 f29 f30 f31 f32 f33 f34 f35 f36 f37 f38 f39 f40:Addr} {u0 u1 u2 u3 u4 u5 u6 u7 u8 u9 u10 u11 u12 u13 u14 u15 u16 u17 u18 u19 u20 u21 u22 u23 u24 u25 u26 u27 u28 u29 u30 u31 u32 u33 u34 u35 u36 u37 u38 u39 u40:FuncData} {C fi fe:Addr} {ui ue:FuncData} (X:K.In h) (G:h.Ns mainGlobals mg) (hfa:mg "law" = some (.ref fa))
  (d0:Df K "length_alone" lV f0 u0)
  (d1:Df K "parts_of" qK f1 u1)
  (d2:Df K "begun" qL f2 u2)
  (d3:Df K "found" qM f3 u3)
  (d4:Df K "make" xg f4 u4)
  (d5:Df K "is_name" lY f5 u5)
  (d6:Df K "is_sign" lZ f6 u6)
  (d7:Df K "is_text" l0 f7 u7)
  (d8:Df K "are_rising_signs" l5 f8 u8)
  (d9:Df K "is_form" l6 f9 u9)
  (d10:Df K "is_rule" l7 f10 u10)
  (d11:Df K "names_rise" rf f11 u11)
  (d12:Df K "is_book" l8 f12 u12)
  (d13:Df K "may_be_empty" FH f13 u13)
  (d14:Df K "empty_names" ma f14 u14)
  (d15:Df K "begins_of_row" xk f15 u15)
  (d16:Df K "begins_of_form" rn f16 u16)
  (d17:Df K "steps_of" rp f17 u17)
  (d18:Df K "steps_within" ml f18 u18)
  (d19:Df K "endless_rules" jV f19 u19)
  (d20:Df K "loop" xl f20 u20)
  (d21:Df K "asked_anew" xh f21 u21)
  (d22:Df K "asked_of" jO f22 u22)
  (d23:Df K "is_whole" jP f23 u23)
  (d24:Df K "is_place" jQ f24 u24)
  (d25:Df K "refuse_wrong_book" FU f25 u25)
  (d26:Df K "refuse_wrong" Jo f26 u26)
  (d27:Df K "made_alone" rF f27 u27)
  (d28:Df K "reading" jX f28 u28)
  (d29:Df K "_law_cell_at" xn f29 u29)
  (d30:Df K "_law_stir" xo f30 u30)
  (d31:Df K "_law_well" xp f31 u31)
  (d32:Df K "_law_draw" xq f32 u32)
  (d33:Df K "_law_new_name" jY f33 u33)
  (d34:Df K "_law_sign" xr f34 u34)
  (d35:Df K "_law_signs" rL f35 u35)
  (d36:Df K "_law_text" xv f36 u36)
  (d37:Df K "_law_listed" ms f37 u37)
  (d38:Df K "_law_told" xw f38 u38)
  (d39:Df K "_law_good" xx f39 u39)
  (d40:Df K "law" Gw f40 u40)
  (z0:PySem.W.nsIn K mainGlobals "len" = some none)
  (z1:PySem.W.nsIn K mainGlobals "max" = some none)
  (z2:PySem.W.nsIn K mainGlobals "min" = some none)
  (z3:PySem.W.nsIn K mainGlobals "isinstance" = some none)
  (z4:PySem.W.nsIn K mainGlobals "all" = some none)
  (z5:PySem.W.nsIn K mainGlobals "any" = some none)
  (z6:PySem.W.nsIn K mainGlobals "sorted" = some none)
  (z7:PySem.W.nsIn K mainGlobals "range" = some none)
  (z8:PySem.W.nsIn K mainGlobals "str" = some none)
  (z9:PySem.W.nsIn K mainGlobals "bool" = some none)
  (z10:PySem.W.nsIn K mainGlobals "int" = some none)
  (z11:PySem.W.nsIn K mainGlobals "list" = some none)
  (z12:PySem.W.nsIn K mainGlobals "tuple" = some none)
  (z13:PySem.W.nsIn K mainGlobals "dict" = some none)
  (z14:PySem.W.nsIn K mainGlobals "set" = some none)
  (z15:PySem.W.nsIn K mainGlobals "ord" = some none)
  (z16:PySem.W.nsIn K mainGlobals "ValueError" = some none) {tk0:Tok}
  (gl0:PySem.W.nsIn K mainGlobals "LETTERS" = some (some (.str "abcdefghijklmnopqrstuvwxyz" tk0))) {tk1:Tok}
  (gl1:PySem.W.nsIn K mainGlobals "MOST_LETTERS" = some (some (.int 8 tk1))) {tk2:Tok}
  (gl2:PySem.W.nsIn K mainGlobals "MOST_SIGNS" = some (some (.int 40 tk2))) {tk3:Tok}
  (gl3:PySem.W.nsIn K mainGlobals "MOST_PARTS" = some (some (.int 8 tk3))) {tk4:Tok}
  (gl4:PySem.W.nsIn K mainGlobals "BARRED_SIGN" = some (some (.int 37 tk4))) {ta0:Addr} {odt0:Option Addr} {nt0:Nat} {slt0:Array (Option Value)} {tt0_0 tt0_1:Tok}
  (ga0:PySem.W.nsIn K mainGlobals "WORDS_ALONE" = some (some (.ref ta0)))
  (gt0:K.lookup ta0=some ⟨.type "tuple", odt0,.seq #[.str "none" tt0_0,.str "any" tt0_1] nt0,slt0⟩) {ta1:Addr} {odt1:Option Addr} {nt1:Nat} {slt1:Array (Option Value)} {tt1_0 tt1_1 tt1_2:Tok}
  (ga1:PySem.W.nsIn K mainGlobals "WORDS_WITH_ONE" = some (some (.ref ta1)))
  (gt1:K.lookup ta1=some ⟨.type "tuple", odt1,.seq #[.str "again" tt1_0,.str "ahead" tt1_1,.str "not" tt1_2] nt1,slt1⟩) {ta2:Addr} {odt2:Option Addr} {nt2:Nat} {slt2:Array (Option Value)} {tt2_0 tt2_1:Tok}
  (ga2:PySem.W.nsIn K mainGlobals "WORDS_WITH_SOME" = some (some (.ref ta2)))
  (gt2:K.lookup ta2=some ⟨.type "tuple", odt2,.seq #[.str "row" tt2_0,.str "first" tt2_1] nt2,slt2⟩) {ta3:Addr} {odt3:Option Addr} {nt3:Nat} {slt3:Array (Option Value)} {tt3_0 tt3_1 tt3_2 tt3_3:Tok}
  (ga3:PySem.W.nsIn K mainGlobals "WORDS_EVER_EMPTY" = some (some (.ref ta3)))
  (gt3:K.lookup ta3=some ⟨.type "tuple", odt3,.seq #[.str "none" tt3_0,.str "again" tt3_1,.str "ahead" tt3_2,.str "not" tt3_3] nt3,slt3⟩)
  (cN:PySem.W.nsIn K mainGlobals "Asking" = some (some (.ref C)))
  (mi:DfM K C "__init__" "Asking.__init__" qI fi ui)
  (me:DfM K C "end" "Asking.end" xc fe ue)
  (cM:PySem.W.makesIn K C=true)
  (cK:PySem.W.keepIn K (.ref C)=true)
  (pg:PySem.W.plainGet K C Str.empty=true)
  (hd:PySem.W.hasDictIn K C=true)
  (po:PySem.W.plainOver K C=true)
  (sa:PySem.W.findIn K (.ref C) "__setattr__" = some (some (.builtin "object.__setattr__")))
  (na0:PySem.W.findIn K (.ref C) "form" = some none)
  (na1:PySem.W.findIn K (.ref C) "name" = some none)
  (na2:PySem.W.findIn K (.ref C) "place" = some none)
  (na3:PySem.W.findIn K (.ref C) "at" = some none)
  (na4:PySem.W.findIn K (.ref C) "turn" = some none)
  (na5:PySem.W.findIn K (.ref C) "steps" = some none)
  (na6:PySem.W.findIn K (.ref C) "done" = some none)
  (na7:PySem.W.findIn K (.ref C) "length" = some none)
  : ∃ fd:FuncData,(∀ (s:Shared) (v:Value),BindsTo s fd ⟨[v],[]⟩ [("script", v)])/\∀ base:Heap,K.In base->base.Ns mainGlobals mg->FnOk l.prog w K mg base CX0 12 fa fd ["script"] (wC K):=by
 have e:=hfa.symm.trans (aaM X G d40.ns)
 cases e
 have T:Txt K mg:=⟨aap X G z0,aap X G z1,aap X G z2,aap X G z3,aap X G z4,aap X G z5,aap X G z6,aap X G z7,aap X G z8,aap X G z9,aap X G z10,aap X G z11,aap X G z12,aap X G z13,aap X G z14,aap X G z15,aap X G z16,⟨_,aaM X G gl0,⟨_,rfl⟩⟩,⟨_,aaM X G gl1,⟨_,rfl⟩⟩,⟨_,aaM X G gl2,⟨_,rfl⟩⟩,⟨_,aaM X G gl3,⟨_,rfl⟩⟩,⟨_,aaM X G gl4,⟨_,rfl⟩⟩,⟨ta0,aaM X G ga0,fun _=>.inr ⟨_,_,_,gt0,rfl,rfl,(by show 2<=sizeLine; decide),(.cons ⟨_,rfl⟩ (.cons ⟨_,rfl⟩ Paired.nil))⟩⟩,⟨ta1,aaM X G ga1,fun _=>.inr ⟨_,_,_,gt1,rfl,rfl,(by show 3<=sizeLine; decide),(.cons ⟨_,rfl⟩ (.cons ⟨_,rfl⟩ (.cons ⟨_,rfl⟩ Paired.nil)))⟩⟩,⟨ta2,aaM X G ga2,fun _=>.inr ⟨_,_,_,gt2,rfl,rfl,(by show 2<=sizeLine; decide),(.cons ⟨_,rfl⟩ (.cons ⟨_,rfl⟩ Paired.nil))⟩⟩,⟨ta3,aaM X G ga3,fun _=>.inr ⟨_,_,_,gt3,rfl,rfl,(by show 4<=sizeLine; decide),(.cons ⟨_,rfl⟩ (.cons ⟨_,rfl⟩ (.cons ⟨_,rfl⟩ (.cons ⟨_,rfl⟩ Paired.nil))))⟩⟩⟩
 refine ⟨u40,?_,fun base _ _=>?_⟩
 ·obtain ⟨oc,od,kV,doc,pm,an,cdv,ct,osl,rfl,lk,hcd⟩:=d40.fn.ex
  exact fun s v=>.of_eq rfl
 have t:TopZ ⟨l.prog,w,K,mg,base,h⟩ (Txt K mg):=⟨X,G,T⟩
 have hC:ClsF K 0 C:=Fm cN pg hd po sa (List.forall_mem_cons.mpr ⟨na0,List.forall_mem_cons.mpr ⟨na1,List.forall_mem_cons.mpr ⟨na2,List.forall_mem_cons.mpr ⟨na3,List.forall_mem_cons.mpr ⟨na4,List.forall_mem_cons.mpr ⟨na5,List.forall_mem_cons.mpr ⟨na6,List.forall_mem_cons.mpr ⟨na7,fun _ z=>nomatch z⟩⟩⟩⟩⟩⟩⟩⟩)
 have A_i:=B9 t hC mi cN cM cK
 have A_e:=Gx t hC me
 have O_lalone:=wp t hC d0
 have O_parts:=Ca t hC d1
 have O_begun:=Cb t hC d2 A_i A_e O_parts O_lalone
 have O_found:=Cc t hC d3
 have O_make:=Gy t hC d4 O_begun O_found
 have O_isname:=wq t hC d5
 have O_issign:=wt t hC d6
 have O_istext:=wu t hC d7 O_issign
 have O_rising:=wv t hC d8 O_istext
 have O_isform:=ww t hC d9 O_rising O_isname
 have O_isrule:=wx t hC d10 O_isname O_isform
 have O_nrise:=Cd t hC d11
 have O_isbook:=wy t hC d12 O_isrule O_nrise
 have O_may:=IR t hC d13 O_parts
 have O_enames:=wz t hC d14 O_may
 have O_brow:=GA t hC d15
 have O_bform:=Ce t hC d16 O_parts O_brow
 have O_steps:=Cf t hC d17 O_enames O_bform
 have O_within:=wA t hC d18
 have O_endless:=r9 t hC d19 O_within
 have O_loop:=GB t hC d20 O_steps O_endless
 have O_anew:=GC t hC d21 O_begun
 have O_askedof:=sd t hC d22 O_anew
 have O_iswhole:=se t hC d23
 have O_isplace:=sg t hC d24 O_iswhole
 have O_rwb:=IS t hC d25 O_isbook O_loop
 have O_rw:=o_rw t hC d26 O_rwb O_isname O_istext O_isplace
 have O_madea:=Cg t hC d27 O_rw O_make
 have O_reading:=si t hC d28 O_madea O_askedof
 have O_cell:=GE t hC d29
 have O_stir:=GG t hC d30
 have O_well:=GH t hC d31 O_stir
 have O_draw:=GI t hC d32 O_stir
 have O_newname:=sk t hC d33 O_draw
 have O_sign:=GJ t hC d34 O_draw
 have O_signs:=Ch t hC d35 O_draw O_sign
 have O_text:=GK t hC d36 O_draw O_sign
 have O_listed:=wB t hC d37
 have O_told:=GL t hC d38
 have O_good:=GM t hC d39 O_well O_draw O_newname O_signs O_text O_listed O_reading O_told
 exact (o_law t hC d40 O_cell O_good).imp GN
theorem walk {l:PySem.W.OpenLaw}{YP:World->Heap->Prop}{d:DefRec}{K:Params->Frag}(hn:l.most=some 63)(hdf:d.params.defaults=[])
  (hY:∀ (w:World) (h:Heap),YP w h->(K w.params).In h)
  (F:∀ (w:World) (mg:Str->Option Value) (fa:Addr) (h:Heap),(K w.params).In h->h.Ns mainGlobals mg->mg d.name=some (.ref fa) ->
   ∃ fd:FuncData,(∀ (s:Shared) (u:Value),BindsTo s fd ⟨[u],[]⟩ [("script", u)])/\∀ base:Heap,(K w.params).In base->base.Ns mainGlobals mg->FnOk l.prog w (K w.params) mg base CX0 12 fa fd ["script"] (wC (K w.params))) :
  PySem.W.WalkO q loose XP YP l.row.toRowW d [] (fun f vs=>PySem.call f vs) :=
 L2.walk_of (n:=63) (k:=12) (x := "script") (CX:=fun _=>CX0) (sp:=fun w=>wC (K w.params)) hn (by decide) hdf ⟨rfl,by decide,by decide,rfl⟩ hY F (fun _ _ a ns hl _ hS=>⟨a,ns,rfl,hS,hl,fun _=>rfl⟩) fun _ _ _ _ _ z=>z
theorem walkX {r:PySem.W.RowW}{d:DefRec}{kwd:List (Str×Expr)}{run:Value->List Value->Sem Value}{K:Params->Frag}{as:List Addr}{n t:Nat}(e:∀ P,as=(K P).map (·.1))(W:PySem.W.WalkO q loose XP (fun w h=>(K w.params).In h) r d kwd run) :
  PySem.W.WalkX q loose XP (PySem.W.X.obsZ as) (PySem.W.X.valZ K n t) r d kwd run:=by
 intro w s₀ s₁ mg mb G y a o pm cd doc dV kV ho hd hcd hD hmg hg args vals as' L hpre hlay hrd hwl hlo
 exact W w s₀ s₁ mg mb G (PySem.W.InK.keeps w _ _ (PySem.W.X.z_facts e y).2.1 L.keeps) a o pm cd doc dV kV ho hd hcd hD hmg hg args vals as' hpre hlay hrd hwl hlo
end KR
open PySem PySem.W PyProof.Rows
local macro_rules | `(tactic| walk_at "df") => `(tactic| (refine' L2.df_mk ?a ?l ?c ?k; (case a => k_is); (case l => k_is); (case c => k_is); (case k => k_is)))
local macro_rules | `(tactic| walk_at "dm") => `(tactic| (refine' L2.dfm_mk ?a ?i ?l ?c ?k; (case a => k_is); (case i => k_is); (case l => k_is); (case c => k_is); (case k => k_is)))
def PySem.W.Fast.tw7603465263067921376 : Nat := 0
def PySem.W.Fast.tw3167624980831803378 : Nat := 0
def PySem.W.Fast.tw18192006944686198727 : Nat := 0
def PySem.W.Fast.tw4177176086530256864 : Nat := 0
def PySem.W.Fast.tw9264043961833854809 : Nat := 0
def PySem.W.Fast.tw13944933343776651564 : Nat := 0
def PySem.W.Fast.tw12496481340642312131 : Nat := 0
def PySem.W.Fast.tw647753203486546506 : Nat := 0
def PySem.W.Fast.tw2257784421746648871 : Nat := 0
def PySem.W.Fast.tw15117656857513408995 : Nat := 0
def PySem.W.Fast.tw4683732144391747629 : Nat := 0
def PySem.W.Fast.tw8118356148310677763 : Nat := 0
def PySem.W.Fast.tw18115254670631461540 : Nat := 0
def PySem.W.Fast.tw15791670485512499506 : Nat := 0
def PySem.W.Fast.tw4370893882303902369 : Nat := 0
def PySem.W.Fast.tw2210142680893046823 : Nat := 0
def PySem.W.Fast.tw1414441714045820739 : Nat := 0
def PySem.W.Fast.tw9503187349776789797 : Nat := 0
def PySem.W.Fast.tw366026379731102900 : Nat := 0
def PySem.W.Fast.tw16277390308535229277 : Nat := 0
def PySem.W.Fast.tw2538560621419113821 : Nat := 0
def PySem.W.Fast.tw18183404142164368588 : Nat := 0
def PySem.W.Fast.tw1347631456619005471 : Nat := 0
def PySem.W.Fast.tw18203729496643346654 : Nat := 0
def PySem.W.Fast.tw5928587434456081115 : Nat := 0
def PySem.W.Fast.tw3485240641212118274 : Nat := 0
def PySem.W.Fast.tw8721839069476890352 : Nat := 0
def PySem.W.Fast.tw6895939397217797909 : Nat := 0
def PySem.W.Fast.tw6978528409423558197 : Nat := 0
def PySem.W.Fast.tw2116066613141370600 : Nat := 0
def PySem.W.Fast.tw17810749998255459849 : Nat := 0
def PySem.W.Fast.tw10069181146341946914 : Nat := 0
set_option maxRecDepth 100000 in
set_option maxHeartbeats 0 in
theorem PySem.Challenge.cw_keptreading_k10_leaves_holds : PySem.Challenge.rw_keptreading_k10_leaves.Holds := by
  w_on; o_law; z_head; (case hw=>w_witness2)
  k_fill
  refine KR.walkX (fun _=>rfl) (KR.walk (l:=PySem.Challenge.rw_keptreading_k10_leaves) rfl rfl (fun w h Y=>Y) ?F)
  case F =>
    intro w mg fa h KX G hmg
    refine' KR.all_mk KX G hmg ?d0 ?d1 ?d2 ?d3 ?d4 ?d5 ?d6 ?d7 ?d8 ?d9 ?d10 ?d11 ?d12 ?d13 ?d14 ?d15 ?d16 ?d17 ?d18 ?d19 ?d20 ?d21 ?d22 ?d23 ?d24 ?d25 ?d26 ?d27 ?d28 ?d29 ?d30 ?d31 ?d32 ?d33 ?d34 ?d35 ?d36 ?d37 ?d38 ?d39 ?d40 ?z0 ?z1 ?z2 ?z3 ?z4 ?z5 ?z6 ?z7 ?z8 ?z9 ?z10 ?z11 ?z12 ?z13 ?z14 ?z15 ?z16 ?gl0 ?gl1 ?gl2 ?gl3 ?gl4 ?ga0 ?gt0 ?ga1 ?gt1 ?ga2 ?gt2 ?ga3 ?gt3 ?cN ?mi ?me ?cM ?cK ?pg ?hd ?po ?sa ?na0 ?na1 ?na2 ?na3 ?na4 ?na5 ?na6 ?na7
    (case d0=>walk_at "df"); (case d1=>walk_at "df"); (case d2=>walk_at "df"); (case d3=>walk_at "df"); (case d4=>walk_at "df"); (case d5=>walk_at "df")
    (case d6=>walk_at "df"); (case d7=>walk_at "df"); (case d8=>walk_at "df"); (case d9=>walk_at "df"); (case d10=>walk_at "df"); (case d11=>walk_at "df")
    (case d12=>walk_at "df"); (case d13=>walk_at "df"); (case d14=>walk_at "df"); (case d15=>walk_at "df"); (case d16=>walk_at "df"); (case d17=>walk_at "df")
    (case d18=>walk_at "df"); (case d19=>walk_at "df"); (case d20=>walk_at "df"); (case d21=>walk_at "df"); (case d22=>walk_at "df"); (case d23=>walk_at "df")
    (case d24=>walk_at "df"); (case d25=>walk_at "df"); (case d26=>walk_at "df"); (case d27=>walk_at "df"); (case d28=>walk_at "df"); (case d29=>walk_at "df")
    (case d30=>walk_at "df"); (case d31=>walk_at "df"); (case d32=>walk_at "df"); (case d33=>walk_at "df"); (case d34=>walk_at "df"); (case d35=>walk_at "df")
    (case d36=>walk_at "df"); (case d37=>walk_at "df"); (case d38=>walk_at "df"); (case d39=>walk_at "df"); (case d40=>walk_at "df"); (case z0=>k_is)
    (case z1=>k_is); (case z2=>k_is); (case z3=>k_is); (case z4=>k_is); (case z5=>k_is); (case z6=>k_is)
    (case z7=>k_is); (case z8=>k_is); (case z9=>k_is); (case z10=>k_is); (case z11=>k_is); (case z12=>k_is)
    (case z13=>k_is); (case z14=>k_is); (case z15=>k_is); (case z16=>k_is); (case gl0=>k_is); (case gl1=>k_is)
    (case gl2=>k_is); (case gl3=>k_is); (case gl4=>k_is); (case ga0=>k_is); (case gt0=>k_is); (case ga1=>k_is)
    (case gt1=>k_is); (case ga2=>k_is); (case gt2=>k_is); (case ga3=>k_is); (case gt3=>k_is); (case cN=>k_is)
    (case mi=>walk_at "dm"); (case me=>walk_at "dm"); (case cM=>k_is); (case cK=>k_is); (case pg=>k_is); (case hd=>k_is)
    (case po=>k_is); (case sa=>k_is); (case na0=>k_is); (case na1=>k_is); (case na2=>k_is); (case na3=>k_is)
    (case na4=>k_is); (case na5=>k_is); (case na6=>k_is); (case na7=>k_is)
